import PyProof.Rows.All
import Wide.All
import OpenK.AllK
import Lean
import PySem.Challenge.RW_shapefree_k61_rooms
noncomputable section
set_option genInjectivity false
set_option genSizeOf false
set_option Elab.async false
set_option linter.all false
set_option maxRecDepth 100000
set_option maxHeartbeats 4000000
open PySem renaming Addr→B5,Around→F3,BindsTo→tW,Builtin→M8,CmpOp→vL,Comprehension→X7,DefRec→vw,FuncData→R9,GenState→vG,Heap→F7,IsPart→sg,IsZip→sD,KeyKind→sG,Keyword→o4,Operator→rZ,Params→so,PassesOwn→o9,PlainAttrs→rG,Program→E5,Result→uS,Scope→N1,Shared→A6,Stmt→M4,Within→vp,World→G3,am_miss_of_fast→uz,assign→i7,assignEach→N2,assignInOrder→qb,atKey→k8,attributeBase→R4,backTo→T5,behindInMarks→sR,binaryOp→N3,bindArgs→qo,bindC→vN,bindL→vM,bindName→vI,bootBuiltins→N0,builtinLookup_eq_fast→rW,builtinsNs→vF,cLine→G8,call→sr,callType_codes→sC,callerA→sI,cellsFrom→M5,codeAny→X8,codeAny_builtin→H8,codeAny_mono→n9,codeAny_of_tree→u5,collect→v5,compareOp→J0,concat_meets→tX,drawOrder→vm,entryFor→vT,entryFor_of_tree→uY,eqIsQuiet→uO,eqIsQuiet_byValue→tO,eval→Q7,field→vV,firstArgMember→qJ,foldedSetIterable→P8,getAttr?→vS,getItem→rD,getattributeRaised→Y4,getitemInPython_of_ne→rT,holding→q9,intKind→V7,isInstance→q8,isSubtype_tuple_tuple→a9,keywordEach→uo,kt_code_dict_new→qt,letOwnedTupleGo→l8,list_append→tf,mainGlobals→L6,mem_of_lookup→F5,model→C9,newFunctionEnv→rq,newList→v7,noFill_tuple_add→qq,plainId_quiet→O7,post_val_or_str→m5,pushCells→vi,pushCells_keeps→rO,pyIter→uR,pyNext→W3,rawInt→S6,relayAll→uD,seqIndex?→uT,seqIndex_neg→tZ,seqIndex_of→um,seqSlot_of→uf,seq_tuple_add→sS,setItem→vC,setsByText→tK,sizeLine_eq→K0,sliceBounds→Y6,slot_list_getitem→td,spliced→vq,starEach→E6,storedH→vz,sub_AttributeError→tB,subscripted→rk,swappedStores→qc,swapsWith→W6,swapsWithSole→sQ,sysModules→Q6,tupleKind→qk,tupleKind_room_in1→Y3,typeIs_int→rF,typeIs_str→vO,typeLookup→sj,typeLookup_type→u6,typeOf→vv,unpackItems→uk,updateSeq→ub,valueAt→sJ,wpAny→B7,wpAny_Call_Name_kw→S0,wpAny_Call_method_late→rH,wpAny_Name→vH,wpAny_askSetting→U3,wpAny_assign_Name→tQ,wpAny_attempt→qi,wpAny_binaryOp_repeat_ref→qQ,wpAny_bind→A0,wpAny_callSpecial?_slot→J5,wpAny_call_entry→F9,wpAny_comprehension_free→qg,wpAny_eqBool_int→uP,wpAny_execs_cons→uQ,wpAny_execs_nil→l7,wpAny_field→L7,wpAny_forIn_list→g8,wpAny_getItem_heap→sx,wpAny_getItem_str_slice→U0,wpAny_holding→E8,wpAny_isInstance→T9,wpAny_ite_false→V4,wpAny_letGo→ur,wpAny_letTemporaryGo→sE,wpAny_load→vJ,wpAny_mono→R8,wpAny_newList→qf,wpAny_newObj_type→G7,wpAny_notOrdered_dict→e9,wpAny_of_eq→uq,wpAny_onRaise→qh,wpAny_operating→u3,wpAny_passesOwn→S9,wpAny_pure→A4,wpAny_pyIter_enum→uB,wpAny_pyIter_list→Q0,wpAny_pyIter_slot→uG,wpAny_pyIter_tuple→O2,wpAny_pyIter_zip→uc,wpAny_pyNext_list_end→V5,wpAny_pyNext_list_item→U6,wpAny_pyNext_tuple_end→rC,wpAny_pyNext_tuple_item→qm,wpAny_rule→Q5,wpAny_runValue→qH,wpAny_seqItems→H9,wpAny_sequenceKey→tY,wpAny_setEntries_of→n8,wpAny_setField→S2,wpAny_setField_rec→S3,wpAny_setItem_heap→sy,wpAny_setState_of→T3,wpAny_specialOf→Q4,wpAny_standAt→j9,wpAny_storeSet_of→uF,wpAny_truthy_bool→O9,wpAny_tryCatch→sA,wpAny_tupleItemsOf→p7,wpAny_typeOf→M1,wpAny_updateSeq→m7
open Option renaming bind→L8,bind_eq_some_iff→J8,bind_some→A1,getD_none→uU,getD_some→uW,isSome_iff_exists→O5,isSome_map→T2,isSome_some→su,map_eq_some_iff→D7,map_some→F6,or_eq_some_iff→V6
open PySem.Heap renaming ExtBut→qW,IsTuple→v8,SameBut→O4,get?_push_ne→Z6,get?_push_of_some→A2,get?_push_size→B4,get?_update_ne→O0,get?_update_other→N4,get?_update_self→K2,lt_size→C3,size_push→J6,size_update→ua
open List renaming all_append→u9,all_cons→M9,all_eq_true→E3,all_map→o6,any_cons→T7,any_eq_false→tU,any_eq_true→U1,append_assoc→G0,append_nil→M0,contains_cons→tL,contains_iff_mem→B6,drop_eq_getElem_cons→L0,drop_eq_nil_of_le→Z3,drop_length→j4,eq_nil_of_length_eq_zero→F8,ext_getElem?→V8,filterMap_cons→X2,filterMap_map→sh,filter_congr→qY,filter_cons→q0,filter_filter→tM,filter_sublist→sO,find?_cons→Q8,find?_some→O1,findIdx?→ve,flatMap_cons→qX,flatten_cons→T1,foldl→sk,foldl_cons→X9,forIn_cons→l9,forIn_nil→r8,getD_eq_getElem?_getD→B8,getElem?_append_left→J9,getElem?_append_right→qD,getElem?_cons_zero→qy,getElem?_drop→sv,getElem?_eq_getElem→A3,getElem?_eq_none→F4,getElem?_eq_some_iff→C0,getElem?_map→C5,getElem?_of_mem→k9,getElem?_range→L5,getElem?_replicate→qp,getElem?_set_ne→E1,getElem?_set_self→E9,getElem?_take→tG,getElem?_take_of_lt→qd,getElem_inj→ql,getElem_mem→U2,getElem_of_mem→n6,getElem_range→qP,idxOf→wO,isEmpty_iff→ue,length→O8,length_append→D2,length_cons→E4,length_drop→i9,length_eq_zero_iff→qv,length_eraseIdx→l0,length_filter_le→S5,length_map→A8,length_nil→Y1,length_range→K4,length_set→D8,length_singleton→S4,length_take→R6,length_zip→rQ,lookup_append→S1,lookup_cons→G1,map→vQ,map_append→V3,map_congr_left→N9,map_cons→D3,map_id→uw,map_id'→wB,map_map→F0,map_nil→W8,mem_append→D9,mem_append_left→C2,mem_append_right→A9,mem_cons→D0,mem_cons_of_mem→B1,mem_cons_self→B2,mem_filter→J4,mem_filterMap→sZ,mem_flatMap→K8,mem_map→D6,mem_of_find?_eq_some→S8,mem_of_getElem?→M6,mem_or_eq_of_mem_set→qU,mem_range→K6,mem_singleton→D4,mem_singleton_self→J7,mergeSort_perm→sN,nil_append→Y0,nodup_append→qZ,nodup_cons→V1,nodup_iff_pairwise_ne→qK,nodup_nil→vR,not_mem_nil→G6,of_mem_zip→rN,pairwise_iff_getElem→qS,pairwise_lt_range→Z7,pairwise_map→uC,pairwise_mergeSort→qx,pairwise_singleton→qz,range→B3,range_succ→vB,range_succ_eq_map→Z2,replicate→D1,replicate_succ→N8,singleton_append→rX,size_toArray→A7,take_append_drop→rV,take_length→qw,toArray→X0,zipIdx_cons→j5,zipIdx_nil→u0,zip_cons_cons→M3
open Bool renaming and_eq_true→A5,and_eq_true_iff→W5,and_false→qF,and_self→R5,and_true→sT,eq_false_iff→uK,eq_iff_iff→Y2,false_eq_true→C6,false_ne_true→C7,false_or→vd,not_eq_true'→N7,not_false→vE,not_true→T4,or_eq_true→m6,or_true→uL,true_and→sU,true_or→rL
open Nat renaming add_assoc→qa,le_of_eq→o5,le_of_lt→R1,le_of_not_lt→R7,le_refl→B0,le_succ→U5,le_succ_of_le→uN,le_trans→B9,lt_irrefl→R3,lt_of_le_of_lt→U9,lt_of_lt_of_le→C4,lt_or_eq_of_le→qL,lt_or_ge→v9,lt_succ_of_lt→N5,lt_succ_self→qu,lt_trans→U8,min_self→uA,mod_lt→tJ,mul_comm→tj,mul_le_mul→va,ne_of_gt→Y9,ne_of_lt→C8,not_lt_zero→u4,one_ne_zero→rP,pow_le_pow_right→l5,sub_eq_zero_of_le→g7,succ_min_succ→tw,succ_mul→rJ,succ_ne_self→ud,zero_add→uI,zero_le→E7
open Option.some renaming inj→D5,injEq→Q3
open PySem.Value renaming bool→sX,builtin→sP,bytes→wD,float→uh,int→g9,isInt→rY,isInt_shape→tP,isStrOf→vc,none→K1,ref→E2,str→sH,type→G2
open False renaming elim→F1
open PySem.Obj renaming data_mapFields→qI,isFreed_of_fields→rS,mapFields→vf,mapSeq→F2,putSet→vW
open PySem.Heap.SameBut renaming refl→tq,update→G4
open PySem.Around renaming under_plainId→G5
open PySem.Builtin.SmallTypes renaming nextOf→G9,ownedTupleHandOut→X3,ownedTupleIsFree→L9
open Int renaming emod_lt_of_pos→qO,emod_nonneg→m9,fdiv_eq_ediv_of_nonneg→qC,le_antisymm→rR,le_refl→wH,ofNat_le→wA,toNat→W9,toNat_natCast→I9
open PyProof.Rows renaming AllBare→qV,IntsAre→W7,args_tuple_getitem→si,assignInOrder_cons→qB,assignInOrder_nil→tR,callWith_builtin1→i8,callWith_type1→K3,entry_list_sort→u7,entry_tuple_getitem→sM,envOfC→rh,envOfC→wJ,firstMet→sF,firstMet_length_le→tH,get?_update_seq→V2,listItems_at→o7,listUpdate_at→k5,lt_int→wK,seqEpoch_at→uv,seqObj→K7,slot_tuple_getitem→J3,sortedAll→uZ,sortedHeap→tF,step_dedup→U4,step_dedup→V0,subscriptTail→qe,subscriptTail_builtinR→rE,up1→j7,wpAny_notIn_heap→uX
open PySem.Builtin.List renaming listExtendWith→K5,listFitsIndex→vP,listLengthHint→vD,listSameRef→T8,listTooLong→O6
open PySem.Builtin.Tuple renaming tupleExact→T6,tupleHashOf→K9,tupleIsExact→qG,tupleItemsOf→W2
open Array renaming forIn_toList→p8,getD→j6,getD_eq_getD_getElem?→W0,getElem?_eq_getElem→L1,getElem?_eq_some_iff→N6,getElem?_toList→c9,length_toList→R0,mem_toList_iff→k7,perm_iff_toList_perm→qM,size_append→tu,toList→vt,toList_push→uE
open PySem.Builtin.Dict renaming pairItems→Z4,selfAndRest→X6,updateFrom→M7
open PySem.AutoSeq1 renaming wpAny_loadPart'→O3
open PySem.Builtin.Str renaming occurrences→P9,strSliceIndices→V9
open PyProof.Rows.KeyOrd renaming kle→vZ,kle_of_klt→Z9,kle_refl→Q9,kle_trans→j8
open PySem.Builtin.Slice renaming sliceAdjust→X1,sliceApplied→qE,sliceFields→vb,slicePartIndex→uy,slicePlaces→S7
open PySem.Str renaming join→vU,ofString→U7
open PySem.F renaming args_dict_init_2→X5,args_tuple_add_2→X4,entry_dict_init→Y7,entry_tuple_add→Y5,kt_called_dict→Z5,kt_typeCall_dict_1→W4,plainAttrs_list→Y8,plainAttrs_str→rM,slot_dict_getitem→qR,slot_tuple_add→Z0
open PySem.Calls renaming Constant_str→sY,Name_function_global→p9,callWith_builtin→Z1,call_function_entry→qT,evalArgs_plain→rn,spliced_cons→sf,spliced_nil→tV
open List.Perm renaming eq_of_pairwise→qj,refl→Z8
open PySem.Shared renaming TypeIs→k4,heap→uu
open Int.ofNat renaming inj→k6
open PySem.Builtin.Frozenset renaming newClass→vX,sizeOf→vg,slot0→vn,updateFrom→m8
open Iff renaming rfl→o8
open Array.Perm renaming size_eq→qN
open PySem.Txt renaming join→wG,slice→qr,slice_le→rK
open PySem.W renaming kas_desc→uJ,kas_place→ug,kas_rev→sL,kas_tail3→vo
open PySem.SeqAt.EqAt renaming int_str→sV,str_int→sW
open PySem.Code renaming quiet_builtin→tD
open List.Pairwise renaming filter→wI,filterMap→vk,map→uM,nil→tm
open PySem.pickOrder renaming go→uH
open PySem.IsL renaming update→uV
open List.cons renaming injEq→ux
open PySem.PassesOwn renaming never→vA
open PySem.Builtin renaming bitAnd→vK
open PySem.W.KasT renaming ret→vY
open PySem.Builtin.Range renaming rangeSize→vh
open Sum.inl renaming inj→wC
open PySem.Data renaming seq→wF
open PySem.Heap.IsSliceOf renaming new→wL
open PySem.W.WShape renaming has→wM
open PySem.Walks renaming list→wN
open PySem.W.WData renaming int→wQ
open PySem.Heap.DictOf renaming new→wU
namespace L2
open PySem
variable {a:B5} {h:F7} {Q:Bool->A6->Prop}
section
variable {prog:E5} {w:G3} {K:Type} [DecidableEq K]
noncomputable abbrev NK(K:Type):=List (K ⊕ List K)
structure Apart (knd:sG prog w K):Prop where
 l:∀{A:F3} {E:Value->A6->Prop} {s:A6} {k:K} {v:Value} {a:B5} {items:Array Value} {Q:Bool->A6->Prop},A.units < G8->knd.is k v=true->s.heap.IsTuple a items->Q false s->B7 (C9 prog w) A (eqBool v (.ref a)) Q E s
 r:∀{A:F3} {E:Value->A6->Prop} {s:A6} {k:K} {v:Value} {a:B5} {items:Array Value} {Q:Bool->A6->Prop},A.units < G8->knd.is k v=true->s.heap.IsTuple a items->Q false s->B7 (C9 prog w) A (eqBool (.ref a) v) Q E s
inductive yA (knd:sG prog w K) (h:F7):NK K->List Value->Prop
 | nil:yA knd h [] []
 | sc {k:K} {v:Value} {ks:NK K} {vs:List Value}:knd.is k v=true->yA knd h ks vs->yA knd h (.inl k::ks) (v::vs)
 | tp {t:List K} {a:B5} {ks:NK K} {vs:List Value}:IsTupleKey knd h t a->yA knd h ks vs->yA knd h (.inr t::ks) (.ref a::vs)
def PQ(knd:sG prog w K)(h:F7)(ks:NK K)(a:B5):Prop:=∃o items n,h.get? a=some o/\o.cls=.type "tuple" /\ o.data=.seq items n/\yA knd h ks items.toList
variable {knd:sG prog w K}
theorem RB{k:K}(h:knd.is k (.ref a)=true):False:=by have:=knd.byValue _ _ h;simp[carriedByValue] at this
theorem yA.inj{h:F7}:∀{x y:NK K} {vs:List Value},yA knd h x vs->yA knd h y vs->x=y
 | _,_,_,.nil,.nil=>rfl
 | _,_,_,.sc h1 t1,.sc h2 t2=>by rw[knd.inj _ _ _ h1 h2,yA.inj t1 t2]
 | _,_,_,.sc h1 t1,.tp h2 t2=>(RB h1).elim
 | _,_,_,.tp h1 t1,.sc h2 t2=>(RB h2).elim
 | _,_,_,.tp h1 t1,.tp h2 t2=>by rw[h1.inj h2,yA.inj t1 t2]
theorem PQ.typeIs{s:A6}{ks:NK K}(x:PQ knd s.heap ks a):s.TypeIs (.ref a) "tuple" := let ⟨o,_,_,ho,hc,_⟩:=x;⟨o,ho,hc⟩
theorem PQ.inj{x y:NK K}(hx:PQ knd h x a)(hy:PQ knd h y a):x=y:=by
 obtain⟨o,items,n,ho,_,hd,hi⟩:=hx;obtain⟨o',zDD,n',zT,_,hd',hi'⟩:=hy;obtain rfl:o=o':=D5 (ho.symm.trans zT);rw[hd] at hd';injection hd' with h1 _
 subst h1;exact hi.inj hi'
theorem yA.keeps{h h':F7}{d:B5}{o:Obj}{es ep}(ho:h.get? d=some o)(hd:o.data=.dict es ep)(hs:O4 d h h'):∀{ks:NK K} {vs:List Value},yA knd h ks vs->yA knd h' ks vs
 | _,_,.nil=>.nil
 | _,_,.sc h1 t=>.sc h1 (t.keeps ho hd hs)
 | _,_,.tp h1 t=>.tp (h1.keeps ho hd hs) (t.keeps ho hd hs)
theorem PQ.keeps{h':F7}{ks:NK K}{d:B5}{o:Obj}{es ep}(x:PQ knd h ks a)(ho:h.get? d=some o)(hd:o.data=.dict es ep)(hs:O4 d h h'):PQ knd h' ks a:=by
 obtain⟨o',items,n,zT,hc,hd',hi⟩:=x;have xW:a≠d:=by
  rintro rfl;obtain rfl:o'=o:=D5 (zT.symm.trans ho);rw[hd] at hd';exact nomatch hd'
 exact⟨o',items,n,(hs.2 a xW).trans zT,hc,hd',hi.keeps ho hd hs⟩
noncomputable def Cp(knd:sG prog w K):K ⊕ List K->Int
 | .inl k=>knd.hash k
 | .inr t=>tupleKeyHash knd t
noncomputable def Dw:K ⊕ List K->Nat
 | .inl _=>1
 | .inr t=>t.length+1
def Wq(ks:NK K):Nat:=(ks.map Dw).sum+1
def WH(knd:sG prog w K)(ks:NK K):Int:=reduceHash (K9 (ks.map (Cp knd)))
variable {A:F3} {E:Value->A6->Prop} {s:A6}
theorem Uz{ks:NK K}{Q:Int->A6->Prop}(hu:A.units+1 < G8)(hk:PQ knd s.heap ks a)(h:Q (WH knd ks) { s with toks:=s.toks+Wq ks }) :
    B7 (C9 prog w) A (pyHash (.ref a)) Q E s:=by
  have hT:=hk.typeIs;obtain⟨o,items,n,ho,_,hd,hi⟩:=hk;unfold pyHash
  first | unfold pyHashByItsType | skip
  first | refine A0 (wpAny_cRoomFor_or (.inr (by omega)) ?_) | skip
  refine A0 (Q4 hT F.slot_tuple_hash.lookup ?_)
  show B7 _ _ (if(some (sP "tuple.__hash__") == some K1)=true then _ else _) Q E s
  rw[if_neg (by rw[beq_builtin_none];exact C7)];refine A0 (Q4 hT F.slot_tuple_hash.lookup ?_)
  show B7 _ _ (callSpecialIfBoundUnlessNone? (.ref a) "__hash__" _ >>= _) Q E s
  refine A0 (wpAny_callSpecialIfBoundUnlessNone?_slot hT F.slot_tuple_hash (F9 F.slot_tuple_hash hT F.entry_tuple_hash ?_ (F.args_tuple_hash_1 _)));show B7 _ _ (W2 (.ref a) >>= _) _ _ s;refine A0 (p7 ho hd ?_);refine A0 ?_;rw[<- p8];refine g8 _
    (fun rest (b:Array Int) s'=>∃done left,ks=done++left/\yA knd s.heap left rest/\b.toList=done.map (Cp knd)/\s'={ s with toks:=s.toks+(done.map Dw).sum })
    _ ?_ ?_ _ _ ⟨[],ks,rfl,hi,rfl,rfl⟩
  · rintro x rest b s' ⟨done,left,rfl,hl,hb,rfl⟩;cases hl with
    | @sc k _ xg _ h1 zJ =>
      refine A0 (knd.pyHash h1 ?_);have e:{ s with toks:=s.toks+(done.map Dw).sum+1 }={ s with toks:=s.toks+((done++[Sum.inl k]).map Dw).sum }:=by
        simp[Dw,qa]
      first
        | exact A4 ⟨done++[.inl k],xg,by simp,zJ,by simp[hb,Cp],e⟩
        | exact A0 (A4 (A4 ⟨done++[.inl k],xg,by simp,zJ,by simp[hb,Cp],e⟩))
    | @tp t a' xg _ h1 zJ =>
      have e:{ s with toks:=s.toks+(done.map Dw).sum+(t.length+1) }={ s with toks:=s.toks+((done++[Sum.inr t]).map Dw).sum }:=by
        simp[Dw,qa]
      refine A0 (wpAny_pyHash_tuple (knd:=knd) hu h1 ?_)
      first
        | exact A4 ⟨done++[.inr t],xg,by simp,zJ,by simp[hb,Cp],e⟩
        | exact A0 (A4 (A4 ⟨done++[.inr t],xg,by simp,zJ,by simp[hb,Cp],e⟩))
  · rintro b s' ⟨done,left,rfl,hl,hb,rfl⟩;cases hl;rw[M0] at h;show B7 _ _ (retInt (K9 b.toList)) _ _ _;rw[hb];refine wpAny_ret_mkInt ?_;show B7 _ _ (if(decide (-(2:Int) ^ 63<=K9 (done.map (Cp knd))) && decide (K9 (done.map (Cp knd)) < 2 ^ 63))=true then _ else _) Q E _;unfold WH reduceHash Wq at h
    by_cases hr:(decide (-(2:Int) ^ 63<=K9 (done.map (Cp knd))) && decide (K9 (done.map (Cp knd)) < 2 ^ 63))=true
    · rw[if_pos hr];rw[if_pos hr] at h;exact A4 (by simpa[qa] using h)
    · rw[if_neg hr];rw[if_neg hr] at h;exact A0 (Q5 (A4 (by simpa[qa] using h)))
theorem IsTupleKey.isT{t:List K}(x:IsTupleKey knd h t a):∃items,h.IsTuple a items:=let ⟨o,items,n,ho,hc,hd,_⟩:=x;⟨items,o,ho,hc,n,hd⟩
theorem aI{k1 k2:K ⊕ List K}{u v:Value}{xs ys:List Value}{x y:NK K}(ap:Apart knd)(hu:A.units < G8)(hx:yA knd s.heap (k1::x) (u::xs))(hy:yA knd s.heap (k2::y) (v::ys))(h:Q (decide (k1=k2)) s):B7 (C9 prog w) A (eqBool u v) Q E s:=by
 cases hx with
 | @sc a _ _ _ h1 _ =>
  cases hy with
  | @sc b _ _ _ h2 _ =>
   refine knd.eqBool h1 h2 ?_;have:decide (a=b)=decide ((Sum.inl a:K ⊕ List K)=Sum.inl b):=by by_cases e:a=b<;>simp[e]
   rw[this];exact h
  | @tp t b _ _ h2 _ =>
   obtain⟨its,hi⟩:=IsTupleKey.isT h2;refine ap.l hu h1 hi ?_;have:decide ((Sum.inl a:K ⊕ List K)=Sum.inr t)=false:=by simp
   rw[<- this];exact h
 | @tp t a _ _ h1 _ =>
  cases hy with
  | @sc b _ _ _ h2 _ =>
   obtain⟨its,hi⟩:=IsTupleKey.isT h1;refine ap.r hu h2 hi ?_;have:decide ((Sum.inr t:K ⊕ List K)=Sum.inl b)=false:=by simp
   rw[<- this];exact h
  | @tp t' b _ _ h2 _ =>
   refine wpAny_eqBool_tuple (knd:=knd) hu h1 h2 ?_;have:decide (t=t')=decide ((Sum.inr t:K ⊕ List K)=Sum.inr t'):=by by_cases e:t=t'<;>simp[e]
   rw[this];exact h
theorem yA.tail{k:K ⊕ List K}{ks:NK K}{v:Value}{vs:List Value}(x:yA knd h (k::ks) (v::vs)):yA knd h ks vs:=by
 cases x with
 | sc _ t=>exact t
 | tp _ t=>exact t
theorem yA.split{ks:NK K}{v:Value}{vs:List Value}(x:yA knd h ks (v::vs)):∃k r,ks=k::r:=by
 cases x with
 | sc _ t=>exact⟨_,_,rfl⟩
 | tp _ t=>exact⟨_,_,rfl⟩
theorem yA.len{h:F7}:∀{ks:NK K} {vs:List Value},yA knd h ks vs->ks.length=vs.length
 | _,_,.nil=>rfl
 | _,_,.sc _ t=>by simp[t.len]
 | _,_,.tp _ t=>by simp[t.len]
theorem Nd{x y:NK K}{b:B5}{P:Fin->A6->Prop}(ap:Apart knd)(hu:A.units < G8)(hx:PQ knd s.heap x a)(hy:PQ knd s.heap y b)(h:P (.done (.ret (.bool (decide (x=y))))) s) :
    B7 (C9 prog w) A (M8.«tuple.__eq__» ⟨[.ref a,.ref b],[]⟩) P E s:=by
  have hTb:=hy.typeIs;obtain⟨oa,xs,na,hoa,_,hda,hia⟩:=hx;obtain⟨ob,ys,nb,hob,_,hdb,hib⟩:=hy
  show B7 _ _ (q8 (.ref b) (.type "tuple") >>= _) _ _ s
  refine A0 (T9 hTb a9 ?_);simp only[T4,C6,if_false];refine A0 (p7 hoa hda ?_);refine A0 (p7 hob hdb ?_);refine A0 ?_;refine g8 _
    (fun rest r s'=>r.1=none/\s'=s/\∃x' y' xs' ys',rest=List.zip xs' ys'/\yA knd s.heap x' xs'/\yA knd s.heap y' ys'/\decide (x'=y')=decide (x=y)/\(xs'.length == ys'.length)=(xs.size == ys.size))
    _ ?_ ?_ _ _ ⟨rfl,rfl,x,y,xs.toList,ys.toList,rfl,hia,hib,rfl,by simp⟩
  · rintro⟨u,v⟩ rest r s' ⟨hr,rfl,x',y',xs',ys',hz,ze,hy',zBF,hlen⟩;cases xs' with
    | nil=>simp at hz
    | cons u' zCm =>
      cases ys' with
      | nil=>simp at hz
      | cons v' zCl =>
        simp only[M3,ux,Prod.mk.injEq] at hz;obtain⟨⟨rfl,rfl⟩,rfl⟩:=hz;obtain⟨k1,x'',rfl⟩:=ze.split;obtain⟨k2,y'',rfl⟩:=hy'.split;refine A0 (aI ap hu ze hy' ?_)
        by_cases hk:k1=k2
        · subst hk;rw[decide_eq_true rfl];simp only[T4,C6,if_false];refine A4 ⟨rfl,rfl,x'',y'',zCm,zCl,rfl,ze.tail,hy'.tail,?_,by simpa using hlen⟩;rw[<- zBF]
          by_cases hxy:x''=y''
          · simp[hxy]
          · simp[hxy]
        · rw[decide_eq_false hk];simp only[vE,if_true];have hf:decide (x=y)=false:=by rw[<- zBF];simp[hk]
          rw[hf] at h;exact A0 (A4 (A4 (A4 h)))
  · rintro⟨r1,r2⟩ s' ⟨hr,rfl,x',y',xs',ys',hz,ze,hy',zBF,hlen⟩;simp only at hr;subst hr;refine A4 ?_;have zDW:(xs.size == ys.size)=decide (x=y):=by
      rw[<- zBF,<- hlen];have lx:=ze.len;have ly:=hy'.len;cases xs' with
      | nil =>
        cases ys' with
        | nil =>
          cases ze;cases hy';simp
        | cons _ _ =>
          cases ze;obtain⟨k2,y'',rfl⟩:=hy'.split;simp
      | cons _ _ =>
        cases ys' with
        | nil =>
          cases hy';obtain⟨k2,y'',rfl⟩:=ze.split;simp
        | cons _ _=>simp at hz
    show P (.done (.ret (.bool (xs.size == ys.size)))) s';rw[zDW];exact h
theorem Wj{x y:NK K}{b:B5}(ap:Apart knd)(hu:A.units+1 < G8)(hx:PQ knd s.heap x a)(hy:PQ knd s.heap y b)(h:Q (decide (x=y)) s) :
    B7 (C9 prog w) A (eqBool (.ref a) (.ref b)) Q E s:=by
  unfold eqBool
  try with_reducible refine E8 ?_
  show B7 _ _ (if(E2 a == E2 b)=true then _ else _) Q E s
  by_cases hab:(E2 a == E2 b)=true
  · rw[if_pos hab];have e:a=b:=by have:=eq_of_beq hab;injection this
    subst e;obtain rfl:=hx.inj hy;exact A0 (Q5 (A4 (by simpa using h)))
  · rw[if_neg hab];exact A0 (wpAny_richCompare_same_room (op:=.Eq) hx.typeIs hy.typeIs F.slot_tuple_eq
      (F9 F.slot_tuple_eq hx.typeIs F.entry_tuple_eq (Nd ap hu hx hy ⟨_,rfl,(fun e=>nomatch e),O9 h⟩) (F.args_tuple_eq_2 _ _)) (by omega))
theorem Yw{n:Nat}{ks:List K}(hk:IsTupleKey knd s.heap ks a)(h:Q true s):B7 (C9 prog w) A (uO (n+1) (.ref a)) Q E s:=by
 have hT:=hk.typeIs;obtain⟨o,items,nn,ho,_,hd,hi⟩:=hk;unfold uO;refine A0 (Q4 hT F.slot_tuple_eq.lookup ?_)
 show B7 _ _ (q8 (.ref a) (.type "tuple") >>= _) _ _ s
 refine A0 (T9 hT a9 ?_);simp only[T4,C6,if_false];refine A0 (H9 ho hd ?_);refine A0 ?_;show B7 _ _ (forIn items _ _) _ _ s;rw[<- p8];refine g8 _ (fun rest r s'=>r.1=none/\s'=s/\∀v∈rest,carriedByValue v=true) _ ?_ ?_ _ _ ⟨rfl,rfl,hi.byValue⟩
 ·rintro v rest r s' ⟨hr,rfl,xr⟩;rw[tO _ (xr v B2)];refine A0 (A4 ?_);simp only[T4,C6,if_false];exact A4 ⟨rfl,rfl,fun u hu'=>xr u (B1 _ hu')⟩
 ·rintro⟨r1,r2⟩ s' ⟨hr,rfl,_⟩;simp only at hr;subst hr;exact A4 h
theorem Yx{ks:NK K}(hk:PQ knd s.heap ks a)(h:Q true s):B7 (C9 prog w) A (uO 8 (.ref a)) Q E s:=by
 have hT:=hk.typeIs;obtain⟨o,items,nn,ho,_,hd,hi⟩:=hk;unfold uO;refine A0 (Q4 hT F.slot_tuple_eq.lookup ?_)
 show B7 _ _ (q8 (.ref a) (.type "tuple") >>= _) _ _ s
 refine A0 (T9 hT a9 ?_);simp only[T4,C6,if_false];refine A0 (H9 ho hd ?_);refine A0 ?_;show B7 _ _ (forIn items _ _) _ _ s;rw[<- p8];refine g8 _ (fun rest r s'=>r.1=none/\s'=s/\∃l,yA knd s.heap l rest) _ ?_ ?_ _ _ ⟨rfl,rfl,ks,hi⟩
 ·rintro v rest r s' ⟨hr,rfl,l,hl⟩;cases hl with
  | @sc k _ xg _ h1 t =>
   rw[tO _ (knd.byValue _ _ h1)];refine A0 (A4 ?_);simp only[T4,C6,if_false];exact A4 ⟨rfl,rfl,xg,t⟩
  | @tp t' a' xg _ h1 t =>
   refine A0 (Yw (n:=6) h1 ?_);simp only[T4,C6,if_false];exact A4 ⟨rfl,rfl,xg,t⟩
 ·rintro⟨r1,r2⟩ s' ⟨hr,rfl,_⟩;simp only at hr;subst hr;exact A4 h
end
def Bm{prog:E5}{w:G3}{K:Type} [DecidableEq K] (knd:sG prog w K) (ap:Apart knd):HeapKind prog w (NK K) where
 is:=PQ knd
 hash:=WH knd
 draws:=Wq
 room:=fun A=>A.units+1 < G8
 inj:=fun hx hy=>hx.inj hy
 keeps:=fun x ho hd hs=>x.keeps ho hd hs
 pyHash:=fun hu hk h=>Uz hu hk h
 eqBool:=fun hu hx hy h=>Wj ap hu hx hy h
 quiet:=fun hk h=>Yx hk h
end L2
namespace L2
open PySem PySem.Spec PyProof.Rows
noncomputable abbrev Aa:=Sum Int Str
def Ji:Aa->Value->Bool
 | .inl k,v=>rY k v
 | .inr x,v=>vc x v
def nW(w:G3):Aa->Int
 | .inl k=>hashInt k
 | .inr x=>hashStr w x
theorem AX:∀{k:Aa} {v:Value},Ji k v=true->(∃i t,k=Sum.inl i/\v=g9 i t)\/(∃x t,k=Sum.inr x/\v=sH x t)
 | .inl i,v,h=>by
  obtain⟨t,e⟩:=tP (k:=i) (v:=v) h;exact .inl ⟨i,t,rfl,e⟩
 | .inr x,v,h=>by
  obtain⟨t,e⟩:=Value.isStrOf_shape (x:=x) (v:=v) h;exact .inr ⟨x,t,rfl,e⟩
theorem SJ(i:Int)(t:Tok):Ji (.inl i) (.int i t)=true:=by simp[Ji,rY]
theorem SI(x:Str)(t:Tok):Ji (.inr x) (.str x t)=true:=by simp[Ji,vc]
theorem gP(a b:Int):decide ((Sum.inl a:Aa)=Sum.inl b)=(a == b):=by
 by_cases e:a=b
 ·subst e;simp
 ·have h:¬(Sum.inl a:Aa)=Sum.inl b:=fun q=>e (wC q)
  rw[decide_eq_false h];exact(beq_eq_false_iff_ne.mpr e).symm
theorem gL(a b:Str):decide ((Sum.inr a:Aa)=Sum.inr b)=decide (a=b):=by
 by_cases e:a=b
 ·subst e;simp
 ·have h:¬(Sum.inr a:Aa)=Sum.inr b:=fun q=>e (Sum.inr.inj q)
  rw[decide_eq_false h,decide_eq_false e]
theorem gO(a:Int)(b:Str):decide ((Sum.inl a:Aa)=Sum.inr b)=false:=decide_eq_false (fun q=>nomatch q)
theorem gM(a:Str)(b:Int):decide ((Sum.inr a:Aa)=Sum.inl b)=false:=decide_eq_false (fun q=>nomatch q)
def AQ(prog:E5)(w:G3):PySem.KeyKind prog w Aa where
 is:=Ji
 hash:=nW w
 inj:=fun v a b ha hb=>by
  rcases AX ha with⟨i,t,rfl,rfl⟩ | ⟨x,t,rfl,rfl⟩
  ·rcases AX hb with⟨j,u,rfl,e⟩ | ⟨y,u,rfl,e⟩
   ·injection e with e1 _;rw[e1]
   ·exact nomatch e
  ·rcases AX hb with⟨j,u,rfl,e⟩ | ⟨y,u,rfl,e⟩
   ·exact nomatch e
   ·injection e with e1 _;rw[e1]
 byValue:=fun k v h=>by
  rcases AX h with⟨i,t,rfl,rfl⟩ | ⟨x,t,rfl,rfl⟩<;>rfl
 pyHash:=fun hv h=>by
  rcases AX hv with⟨i,t,rfl,rfl⟩ | ⟨x,t,rfl,rfl⟩
  ·exact wpAny_pyHash_int h
  ·exact wpAny_pyHash_str h
 eqBool:=fun hu hv h=>by
  rcases AX hu with⟨i,t,rfl,rfl⟩ | ⟨x,t,rfl,rfl⟩
  ·rcases AX hv with⟨j,u,rfl,rfl⟩ | ⟨y,u,rfl,rfl⟩
   ·rw[gP] at h;exact uP h
   ·rw[gO] at h;exact sV i t y u _ _ _ _ h
  ·rcases AX hv with⟨j,u,rfl,rfl⟩ | ⟨y,u,rfl,rfl⟩
   ·rw[gM] at h;exact sW x t j u _ _ _ _ h
   ·rw[gL] at h;exact wpAny_eqBool_str h
 «strs»:=fun k x t v h=>by
  rcases AX h with⟨i,u,rfl,e⟩ | ⟨y,u,rfl,e⟩
  ·exact nomatch e
  ·injection e with e1 _
   subst e1;cases v<;>rfl
theorem BP(prog:E5)(w:G3):Apart (AQ prog w) where
 l:=fun hu hk ht h=>by
  rcases AX hk with⟨i,t,rfl,rfl⟩ | ⟨x,t,rfl,rfl⟩
  ·exact SeqAt.EqAt.int_tuple i t ht hu _ _ _ _ h
  ·exact SeqAt.EqAt.str_tuple x t ht hu _ _ _ _ h
 r:=fun hu hk ht h=>by
  rcases AX hk with⟨i,t,rfl,rfl⟩ | ⟨x,t,rfl,rfl⟩
  ·exact SeqAt.EqAt.tuple_int i t ht hu _ _ _ _ h
  ·exact SeqAt.EqAt.tuple_str x t ht hu _ _ _ _ h
theorem MG(prog:E5)(w:G3)(i:Int)(t:Tok):(AQ prog w).is (.inl i) (.int i t)=true:=SJ i t
theorem MF(prog:E5)(w:G3)(x:Str)(t:Tok):(AQ prog w).is (.inr x) (.str x t)=true:=SI x t
set_option genInjectivity true in
inductive V where
 | wa | bl (b:Bool) | int (i:Int) | str (x:Str) | byt (b:Array UInt8) | flt (b:UInt64) | ref (a:B5) | ty (n:String)
 deriving DecidableEq
def RelV:V->Value->Prop
 | .wa,u=>u=K1
 | .bl b,u=>u=sX b
 | .int i,u=>∃t,u=g9 i t
 | .str x,u=>∃t,u=sH x t
 | .byt b,u=>∃t,u=wD b t
 | .flt b,u=>∃t,u=uh b t
 | .ref a,u=>u=E2 a
 | .ty n,u=>u=G2 n
abbrev AH:List V->List Value->Prop:=Paired RelV
variable {us:List Value}
theorem AH.length{xs:List V}(r:AH xs us):xs.length=us.length:=Paired.length r
theorem AH.get:∀{xs:List V} {us:List Value} {i:Nat} {x:V},AH xs us->xs[i]?=some x->∃u,us[i]?=some u/\RelV x u
 | _,_,_,_,.nil,e=>by simp at e
 | _,_,0,_,.cons r _,e=>by simp at e;subst e;exact⟨_,rfl,r⟩
 | _,_,i+1,x,.cons _ t,e=>by
  obtain⟨u,h1,h2⟩:=AH.get (i:=i) (x:=x) t (by simpa using e);exact⟨u,by simpa using h1,h2⟩
theorem AH.set{x:V}{u:Value}(r:RelV x u):∀{xs:List V} {us:List Value} (i:Nat),AH xs us->AH (xs.set i x) (us.set i u)
 | _,_,_,.nil=>.nil
 | _,_,0,.cons _ t=>.cons r t
 | _,_,i+1,.cons q t=>.cons q (AH.set r i t)
theorem AH.append:∀{xs ys:List V} {us ws:List Value},AH xs us->AH ys ws->AH (xs++ys) (us++ws)
 | _,_,_,_,.nil,s=>s
 | _,_,_,_,.cons r t,s=>.cons r (AH.append t s)
theorem AH.take:∀{xs:List V} {us:List Value} (n:Nat),AH xs us->AH (xs.take n) (us.take n)
 | _,_,0,_=>.nil
 | _,_,_+1,.nil=>.nil
 | _,_,n+1,.cons r t=>.cons r (AH.take n t)
theorem AH.drop:∀{xs:List V} {us:List Value} (n:Nat),AH xs us->AH (xs.drop n) (us.drop n)
 | _,_,0,r=>r
 | _,_,_+1,.nil=>.nil
 | _,_,n+1,.cons _ t=>AH.drop n t
def FR:Option V->Option Value->Prop
 | some v,some u=>RelV v u
 | none,none=>True
 | _,_=>False
def KV{κ:Type}:List (κ×V)->List (κ×Value)->Prop:=Paired fun(p:κ×V) (q:κ×Value)=>p.1=q.1/\RelV p.2 q.2
def kV:Aa->V
 | .inl i=>.int i
 | .inr x=>.str x
inductive HO where
 | lst (xs:List V)
 | tup (xs:List V)
 | dK (wW:List (Aa×V)) | dT (wW:List (List Aa×V)) | dN (wW:List (NK Aa×V))
 | set (S:Int->Bool) (n:Nat)
 | ins (C dx:B5) (fs:List (Str×V))
 | own (x:B5)
 | xd (fs:List (Str×V))
 | met (f x:B5)
 | rng (lo hi:Int)
 | zz (o:Obj) (u:HO)
 | tbl (ps:Array Value)
 | ext (φ:F7->Prop)
noncomputable abbrev Hp:=B5->Option HO
def YH(H:Hp):NK Aa->List V->Prop
 | [],vs=>vs=[]
 | .inl k::ks,vs=>∃r,vs=kV k::r/\YH H ks r
 | .inr t::ks,vs=>∃c r,vs=.ref c::r/\H c=some (.tup (t.map kV))/\YH H ks r
def NS(H:Hp)(k:NK Aa)(b:B5):Prop:=∃vs,H b=some (.tup vs)/\YH H k vs
theorem YH.keeps{H H':Hp}(ht:∀b xs,H b=some (.tup xs)->H' b=some (.tup xs)):∀{k:NK Aa} {vs:List V},YH H k vs->YH H' k vs
 | [],_,h=>h
 | .inl _::ks,_,⟨r,e,h⟩=>⟨r,e,YH.keeps ht h⟩
 | .inr _::ks,_,⟨c,r,e,h1,h⟩=>⟨c,r,e,ht _ _ h1,YH.keeps ht h⟩
variable {H:Hp} {b:B5}
theorem NS.keeps{H':Hp}(ht:∀b xs,H b=some (.tup xs)->H' b=some (.tup xs)){k:NK Aa}(h:NS H k b):NS H' k b:=let ⟨vs,e,n⟩:=h;⟨vs,ht _ _ e,n.keeps ht⟩
def upd(H:Hp)(a:B5)(o:HO):Hp:=fun b=>if b=a then some o else H b
variable {a:B5} {o:HO}
theorem AF:upd H a o a=some o:=by unfold upd;rw[if_pos rfl]
theorem AB(h:b≠a):upd H a o b=H b:=by unfold upd;rw[if_neg h]
theorem KL{u:HO}:upd (upd H a o) a u=upd H a u:=by
 funext b;unfold upd;split<;>rfl
theorem Ve{u:HO}(h:H a=some o)(h':H b=some u)(d:o≠u):a≠b:=by
 intro e;subst e;rw[h] at h';exact d (D5 h')
theorem AO(h:H a=some o)(h':H b=none):a≠b:=by
 intro e;subst e;rw[h] at h';cases h'
def Gi(h:F7)(a:B5)(items:Array Value):Prop:=∃o,h.get? a=some o/\o.cls=.type "tuple" /\ o.dict=none/\∃n,o.data=.seq items n
variable {h:F7}
theorem Gi.tup{items:Array Value}(x:Gi h a items):IsTup h a items:=let ⟨o,e,c,_,d⟩:=x;⟨o,e,c,d⟩
theorem Gi.new(h:F7)(items:Array Value):Gi (h.push { cls:=.type "tuple", data:=.seq items }) h.objs.size items:=⟨_,B4 _ rfl,rfl,rfl,_,rfl⟩
section
variable (P:E5) (w:G3)
def AY(H:Hp)(h:F7)(a:B5):HO->Prop
  | .lst xs=>xs.length<=sizeLine/\∃(its:List Value) (n:Nat),AH xs its/\h.get? a=some { cls:=.type "list", data:=.seq its.toArray n }
  | .tup xs=>xs.length<=sizeLine/\∃its:List Value,AH xs its/\Gi h a its.toArray
  | .dK wW=>wW.length<=sizeLine/\(a == Q6)=false/\∃vs,KV wW vs/\h.DictOf (AQ P w) a vs
  | .dT wW=>wW.length<=sizeLine/\(a == Q6)=false/\∃xs:List (List Aa×B5×Value),
      Paired (fun(p:List Aa×V) (q:List Aa×B5×Value)=>p.1=q.1/\H q.2.1=some (.tup (p.1.map kV))/\RelV p.2 q.2.2) wW xs /\
      ∃o es ep,h.get? a=some o/\o.ExactDict/\o.data=.dict es ep/\es.toList=xs.map (entryOfKey (qk (AQ P w)))/\(xs.map (·.1)).Nodup
  | .dN wW=>wW.length<=sizeLine/\(a == Q6)=false/\∃xs:List (NK Aa×B5×Value),
      Paired (fun(p:NK Aa×V) (q:NK Aa×B5×Value)=>p.1=q.1/\NS H p.1 q.2.1/\RelV p.2 q.2.2) wW xs /\
      ∃o es ep,h.get? a=some o/\o.ExactDict/\o.data=.dict es ep/\es.toList=xs.map (entryOfKey (Bm (AQ P w) (BP P w)))/\(xs.map (·.1)).Nodup
  | .set S n=>h.SetOf (V7 P w) a S n
  | .ins C dx fs=>H dx=some (.own a)/\fs.length<=1000/\dx≠a/\h.get? a=some (W.instObj C dx) /\
      ∃mA,h.Ns1 dx mA/\(∀f,FR (fs.lookup f) (mA f))/\vp mA (fs.map (·.1))
  | .own _=>∃o,h.get? a=some o
  | .xd fs=>∃mA,h.Ns1 a mA/\∀f,FR (fs.lookup f) (mA f)
  | .rng lo hi=>∃t u v,h.get? a=some { cls:=.type "range", data:=.fields #[.int lo t,.int hi u,.int 1 v] }
  | .zz o u=>h.get? a=some o/\AY H h a u
  | .tbl ps=>h.get? a=some { cls:=.none,data:=.fields ps }
  | .met f x=>h.get? a=some (W.methodObj (.ref f) (.ref x))
  | .ext φ=>φ h/\(∃o,h.get? a=some o)/\∀h1 h2:F7,φ h1->(∀o,h1.get? a=some o->h2.get? a=some o)->φ h2
def ES(H:Hp)(h:F7):Prop:=∀a o,H a=some o->AY P w H h a o
end
section
variable {P:E5} {w:G3} {H H':Hp} {h h':F7} {a:B5} {o:HO}
theorem AY.lt(x:AY P w H h a o):a < h.objs.size:=by
 cases o with
 | lst xs=>obtain⟨_,_,_,_,e⟩:=x;exact C3 e
 | tup xs=>obtain⟨_,_,_,p⟩:=x;exact p.tup.lt
 | dK wW=>obtain⟨_,_,_,_,o,_,_,e,_⟩:=x;exact C3 e
 | dT wW=>obtain⟨_,_,_,_,o,_,_,e,_⟩:=x;exact C3 e
 | dN wW=>obtain⟨_,_,_,_,o,_,_,e,_⟩:=x;exact C3 e
 | set S n=>obtain⟨o,_,_,_,e,_⟩:=x;exact C3 e
 | ins C dx fs=>obtain⟨_,_,_,e,_⟩:=x;exact C3 e
 | own y=>obtain⟨_,e⟩:=x;exact C3 e
 | xd fs=>obtain⟨_,⟨_,_,_,e,_⟩,_⟩:=x;exact C3 e
 | rng lo hi=>obtain⟨_,_,_,e⟩:=x;exact C3 e
 | zz ob u=>obtain⟨e,_⟩:=x;exact C3 e
 | tbl ps=>exact C3 (show h.get? a=some _ from x)
 | met f y=>exact C3 (show h.get? a=some _ from x)
 | ext φ=>obtain⟨_,⟨_,e⟩,_⟩:=x;exact C3 e
theorem Paired.zAb{α β:Type}{F G:α->β->Prop}:∀{l₁:List α} {l₂:List β},Paired F l₁ l₂->(∀a b,F a b->G a b)->Paired G l₁ l₂
 | _,_,.nil,_=>.nil
 | _,_,.cons r t,f=>.cons (f _ _ r) (Paired.zAb t f)
theorem AY.zo(x:AY P w H h a o)(k:∀b u,(b=a\/H b=some (.own a))->h.get? b=some u->h'.get? b=some u)
    (ho:∀b,H b=some (.own a)->H' b=some (.own a)) (ht:∀b xs,H b=some (.tup xs)->H' b=some (.tup xs)):AY P w H' h' a o:=by
  induction o with
  | lst xs=>obtain⟨z,its,n,r,e⟩:=x;exact⟨z,its,n,r,k _ _ (.inl rfl) e⟩
  | tup xs=>obtain⟨z,its,r,ob,e,c⟩:=x;exact⟨z,its,r,ob,k _ _ (.inl rfl) e,c⟩
  | dK wW=>obtain⟨z,y,vs,r,ob,es,ep,e,c⟩:=x;exact⟨z,y,vs,r,ob,es,ep,k _ _ (.inl rfl) e,c⟩
  | dT wW =>
    obtain⟨z,y,xs,r,ob,es,ep,e,c⟩:=x;exact⟨z,y,xs,Paired.zAb r fun p q z=>⟨z.1,ht _ _ z.2.1,z.2.2⟩,ob,es,ep,k _ _ (.inl rfl) e,c⟩
  | dN wW =>
    obtain⟨z,y,xs,r,ob,es,ep,e,c⟩:=x;exact⟨z,y,xs,Paired.zAb r fun p q z=>⟨z.1,z.2.1.keeps ht,z.2.2⟩,ob,es,ep,k _ _ (.inl rfl) e,c⟩
  | set S n=>obtain⟨ob,es,ep,t,e,c⟩:=x;exact⟨ob,es,ep,t,k _ _ (.inl rfl) e,c⟩
  | ins C dx fs =>
    obtain⟨d,z,ne,e,mA,⟨od,es,ep,e2,c⟩,r⟩:=x;exact⟨ho _ d,z,ne,k _ _ (.inl rfl) e,mA,⟨od,es,ep,k _ _ (.inr d) e2,c⟩,r⟩
  | own y=>obtain⟨ob,e⟩:=x;exact⟨ob,k _ _ (.inl rfl) e⟩
  | xd fs=>obtain⟨mA,⟨od,es,ep,e,c⟩,r⟩:=x;exact⟨mA,⟨od,es,ep,k _ _ (.inl rfl) e,c⟩,r⟩
  | rng lo hi=>obtain⟨t,u,v,e⟩:=x;exact⟨t,u,v,k _ _ (.inl rfl) e⟩
  | zz ob u ih=>obtain⟨e,q⟩:=x;exact⟨k _ _ (.inl rfl) e,ih q⟩
  | tbl ps =>
    have e:h.get? a=some { cls:=.none,data:=.fields ps }:=x;show h'.get? a=some { cls:=.none,data:=.fields ps };exact k a _ (.inl rfl) e
  | met f y =>
    have e:h.get? a=some (W.methodObj (.ref f) (.ref y)):=x;show h'.get? a=some (W.methodObj (.ref f) (.ref y));exact k a _ (.inl rfl) e
  | ext φ=>obtain⟨p,⟨o,e⟩,st⟩:=x;exact⟨st _ _ p fun o q=>k _ _ (.inl rfl) q,⟨o,k _ _ (.inl rfl) e⟩,st⟩
theorem ES.lt(x:ES P w H h)(e:H a=some o):a < h.objs.size:=(x a o e).lt
theorem ES.fresh(x:ES P w H h)(e:h.objs.size<=a):H a=none:=by
 cases q:H a with
 | none=>rfl
 | some u=>exact absurd (C4 (x.lt q) e) (R3 _)
theorem ES.kept(x:ES P w H h)(k:∀b u,h.get? b=some u->h'.get? b=some u):ES P w H h':=fun a o e =>
 (x a o e).zo (fun b u _ q=>k b u q) (fun _ q=>q) fun _ _ q=>q
theorem ES.laid(x:ES P w H h)(k:∀b u,h.get? b=some u->h'.get? b=some u)(hp:h.objs.size<=a)(new:AY P w (upd H a o) h' a o):ES P w (upd H a o) h':=fun b u e=>by
 have hn:=x.fresh hp
 by_cases hb:b=a
 ·subst hb;rw[AF] at e;cases e;exact new
 ·rw[AB hb] at e;exact(x b u e).zo (fun c v _ q=>k c v q) (fun c q=>by rw[AB (AO q hn)];exact q) fun c xs q=>by rw[AB (AO q hn)];exact q
end
def Rd(H:Hp)(a:B5)(u:HO):Prop:=H a=some u\/∃o,H a=some (.zz o u)
variable {P:E5} {w:G3}
theorem Rd.ok{u:HO}(r:Rd H a u)(x:ES P w H h):AY P w H h a u:=by
 rcases r with r | ⟨o,r⟩
 ·exact x a u r
 ·obtain⟨_,q⟩:=x a _ r;exact q
def jB:Option HO->Prop
 | some (.lst _)=>True
 | some (.dK _)=>True
 | some (.dT _)=>True
 | some (.dN _)=>True
 | some (.set _ _)=>True
 | some (.ins _ _ _)=>True
 | some (.ext _)=>True
 | _=>False
section
variable {P:E5} {w:G3} {H:Hp} {h h':F7} {x e:B5} {o':HO}
theorem ES.write(ok:ES P w H h)(mu:jB (H x))(he:e=x\/H e=some (.own x))(k:∀b u,b≠e->h.get? b=some u->h'.get? b=some u)(heo:∃u,h'.get? e=some u)
    (new:AY P w (upd H x o') h' x o'):ES P w (upd H x o') h':=fun b u q=>by
  have zCK:∀c y,H c=some (.own y)->c≠x:=fun c y r z=>by subst z;rw[r] at mu;exact mu
  have zCu:∀c xs,H c=some (.tup xs)->c≠x:=fun c xs r z=>by subst z;rw[r] at mu;exact mu
  by_cases hb:b=x
  · subst hb;rw[AF] at q;cases q;exact new
  · rw[AB hb] at q
    by_cases hbe:b=e
    · have q':H b=some (.own x):=by
        rcases he with z | z
        · exact absurd (hbe.trans z) hb
        · rw[hbe];exact z
      rw[q] at q';cases q';obtain⟨v,hv⟩:=heo;exact⟨v,by rw[hbe];exact hv⟩
    · refine(ok b u q).zo (fun c v hc r=>k c v ?_ r) (fun c r=>by rw[AB (zCK c b r)];exact r) fun c xs r=>by rw[AB (zCu c xs r)];exact r
      rcases hc with rfl | hc
      · exact hbe
      · rintro rfl;rcases he with z | z
        · exact zCK c b hc z
        · rw[hc] at z;cases z;exact hb rfl
end
structure Un (fs ex:List B5) (H H':Hp) (h h':F7):Prop where
 keep:∀b o,h.get? b=some o->H b=none->b∉fs->b∉ex->h'.get? b=some o
 slot:∀b o,h.get? b=some o->H b=none->b∈fs->b∉ex->∃sl,h'.get? b=some { o with slots:=sl }
 free:∀b o,h.get? b=some o->H b=none->b∉ex->H' b=none
 there:∀b o,h.get? b=some o->b∉ex->∃o',h'.get? b=some o'
 yz:∀b xs,H b=some (.tup xs)->H' b=some (.tup xs)
 ym:∀b o u,H b=some (.zz o u)->H' b=some (.zz o u)
 y0:∀b ps,H b=some (.tbl ps)->∃more,H' b=some (.tbl (ps++more))
section
variable {fs fs' ex ex':List B5} {H H1 H2:Hp} {h h1 h2 h':F7} {a x e:B5} {o:HO}
theorem Un.any(u:Un fs ex H H1 h h1){ob:Obj}(q:h.get? b=some ob)(n:H b=none)(hx:b∉ex):∃sl,h1.get? b=some { ob with slots:=sl }:=by
 by_cases hb:b∈fs
 ·exact u.slot b ob q n hb hx
 ·exact⟨ob.slots,u.keep b ob q n hb hx⟩
theorem Un.kept(k:∀b u,h.get? b=some u->h'.get? b=some u):Un fs ex H H h h':=
 ⟨fun b ob q _ _ _=>k b ob q,fun b ob q _ _ _=>⟨ob.slots,k b ob q⟩,fun _ _ _ n _=>n,fun b ob q _=>⟨ob,k b ob q⟩,fun _ _ q=>q,fun _ _ _ q=>q,fun _ ps q=>⟨#[],by rw[q];simp⟩⟩
theorem Un.refl:Un fs ex H H h h:=Un.kept fun _ _ q=>q
theorem Un.laid(k:∀b u,h.get? b=some u->h'.get? b=some u)(hp:h.objs.size<=a)(hn:H a=none):Un fs ex H (upd H a o) h h' where
 keep:=fun b u q _ _ _=>k b u q
 slot:=fun b u q _ _ _=>⟨u.slots,k b u q⟩
 free:=fun b u q n _=>by rw[AB (C8 (C4 (C3 q) hp))];exact n
 there:=fun b u q _=>⟨u,k b u q⟩
 yz:=fun b xs q=>by rw[AB (AO q hn)];exact q
 ym:=fun b u xs q=>by rw[AB (AO q hn)];exact q
 y0:=fun b ps q=>⟨#[],by rw[AB (AO q hn),q];simp⟩
theorem Un.write(mu:jB (H x))(he:e=x\/H e=some (.own x))(k:∀b u,b≠e->h.get? b=some u->h'.get? b=some u)(heo:∃u,h'.get? e=some u):Un fs ex H (upd H x o) h h':=by
 have hx:∀b,H b=none->b≠x:=fun b n z=>by subst z;rw[n] at mu;exact mu
 have hb:∀b,H b=none->b≠e:=fun b n z=>by
  subst z;rcases he with r | r
  ·exact hx b n r
  ·rw[n] at r;cases r
 have hm:∀b u,H b=some u->¬jB (some u)->b≠x:=fun b u q nm z=>by subst z;rw[q] at mu;exact nm mu
 refine⟨fun b u q n _ _=>k b u (hb b n) q,fun b u q n _ _=>⟨u.slots,k b u (hb b n) q⟩,fun b u q n _=>by rw[AB (hx b n)];exact n,fun b u q _=>?_,
  fun b xs q=>by rw[AB (hm b _ q fun z=>z)];exact q,fun b u xs q=>by rw[AB (hm b _ q fun z=>z)];exact q,fun b ps q=>⟨#[],by rw[AB (hm b _ q fun z=>z),q];simp⟩⟩
 by_cases hbe:b=e
 ·subst hbe;exact heo
 ·exact⟨u,k b u hbe q⟩
end
def mh(h:F7)(H:Hp):List B5:=(B3 h.objs.size).filter fun a=>(H a).isSome
def Ko(h:F7)(H:Hp):F7:=W.hideAll h (mh h H)
theorem SN(h:F7)(H:Hp):(Ko h H).objs.size=h.objs.size:=W.hideAll_size _ _
theorem WG{o:Obj}(e:h.get? b=some o)(n:H b=none):(Ko h H).get? b=some o:=
 W.hideAll_get _ e fun hm=>by
  have q:(H b).isSome=true:=(J4.mp hm).2;rw[n] at q;simp at q
theorem Zg{o:Obj}(e:(Ko h H).get? b=some o):h.get? b=some o/\H b=none:=by
 have e':h.get? b=some o:=W.of_hideAll (mh h H) e;refine⟨e',?_⟩;cases q:H b with
 | none=>rfl
 | some x =>
  have hm:b∈mh h H:=J4.mpr ⟨K6.mpr (C3 e'),by simp[q]⟩;have z:(Ko h H).get? b=none:=W.hideAll_none (mh h H) hm;rw[z] at e;cases e
noncomputable def bI(g h:F7)(L:B5):List (B5×Obj):=(B3 h.objs.size).filterMap fun a=>if a=L\/(g.get? a).isSome=true then none else(h.get? a).map fun o=>(a,o)
def rest(g h:F7)(L d:B5):List (B5×Obj):=(bI g h L).filter fun p=>decide (p.1≠d)
structure Mod (K:W.Frag) (mg:Str->Option Value) (base:F7):Prop where
 kin:K.In base
 glob:base.Ns L6 mg
 blt:∃mb,base.Ns vF mb/\∀x:Str,x ≠ "__name__" -> mb x=N0 x
 nolimit:base.NoLimit
structure Cx where
 prog:E5
 w:G3
 K:W.Frag
 mg:Str->Option Value
 base:F7
 A:F3
 N:List Str
 wz:A6
 H₀:Hp
 env:Env
 outer:List Env
 stack:List Env
 ex:List B5
 fn:Str->Bool
 calm:Bool
 pn:List (B5×Obj)
 xe:Value->A6->Prop
noncomputable def Qh(l:List Env):List B5:=l.filterMap (·.frame)
abbrev Cx.fs(X:Cx):List B5:=Qh X.outer
def mx(sc:N1)(x:Str):Prop:=sc.names.lookup x=some .local\/sc.names.lookup x=some .cell\/sc.names.lookup x=some .free
def Loc(sc:N1)(x:Str):Prop:=sc.names.lookup x=some .local\/sc.names.lookup x=some .cell
def Look(env:Env)(h:F7)(m:Str->Option Value)(x:Str)(u:Value):Prop:=
 (env.kindOf x=some .local/\m x=some u)\/((env.kindOf x=some .cell\/env.kindOf x=some .free)/\∃c,env.cells.lookup x=some c/\h.IsCell c (some u))
structure Cx.Ok (X:Cx):Prop where
 mod:Mod X.K X.mg X.base
 kind:X.env.scope.kind=.function
 glob:X.env.globals=L6
 blt:X.env.builtins=vF
 above:X.wz.heap.objs.size<=X.env.locals
 inj:∀x y c,X.env.cells.lookup x=some c->X.env.cells.lookup y=some c->x=y
 has:∀x,(X.env.kindOf x=some .cell\/X.env.kindOf x=some .free)->∃c,X.env.cells.lookup x=some c
 cab:∀x c,X.fn x=true->X.env.cells.lookup x=some c->X.wz.heap.objs.size<=c
 hd:X.calm=true->X.A.handled=none
 frames:X.A.frames=some X.stack
 stk:X.stack=X.outer\/(X.stack=X.env::X.outer/\X.env.frame=some X.env.locals)
 exf:∀b∈X.ex,b≠X.env.locals/\∀x c,X.env.cells.lookup x=some c->c≠b
 bs:∀b o,X.base.get? b=some o->X.wz.heap.get? b=some o/\X.H₀ b=none
 bsz:X.base.objs.size<=X.wz.heap.objs.size
 zAS:∀b o,X.base.get? b=some o->b∉X.ex
 zAr:∀b∈X.ex,b∉X.fs
 yK:X.wz.heap.FunFrames X.base X.outer
 frf:∀b∈X.fs,X.H₀ b=none
structure Inv (X:Cx) (pins:List (B5×Obj)) (σ:List (Option V)) (H:Hp) (s:A6):Prop where
 ok:X.Ok
 os:s.os=X.wz.os
 bare:qV s.gens
 base:Un X.fs X.ex X.H₀ H X.wz.heap s.heap
 loc:∃m,s.heap.Ns X.env.locals m/\∀(i:Nat) (x:Str) (v:V),X.N[i]?=some x->σ[i]?=some (some v)->mx X.env.scope x->∃u,RelV v u/\Look X.env s.heap m x u
 cell:∀x c,X.env.cells.lookup x=some c->∃v,s.heap.IsCell c v
 free:H X.env.locals=none
 xM:∀x c,X.env.cells.lookup x=some c->H c=none
 pin:∀p∈X.pn++pins,s.heap.get? p.1=some p.2/\H p.1=none/\p.1≠X.env.locals/\p.1∉X.fs/\∀v,p.2.data≠.cell v
 wb:ES X.prog X.w H s.heap
 len:σ.length=X.N.length
variable {t' i:Nat} {x:Str} {v:V} {u:Value}
section
variable {X:Cx} {pins:List (B5×Obj)} {σ:List (Option V)} {H H':Hp} {s:A6} {h':F7}
theorem Cx.Ok.zCv(ok:X.Ok){o:Obj}(e:X.base.get? b=some o):b∉X.fs:=fun hb=>by
 have:=(ok.yK.mem hb).1;rw[e] at this;cases this
theorem Inv.bs(I:Inv X pins σ H s):∀b o,X.base.get? b=some o->s.heap.get? b=some o/\H b=none:=fun b o e =>
 ⟨I.base.keep b o (I.ok.bs b o e).1 (I.ok.bs b o e).2 (I.ok.zCv e) (I.ok.zAS b o e),I.base.free b o (I.ok.bs b o e).1 (I.ok.bs b o e).2 (I.ok.zAS b o e)⟩
theorem Inv.bk(I:Inv X pins σ H s):∀b o,X.base.get? b=some o->s.heap.get? b=some o:=fun b o e=>(I.bs b o e).1
theorem Inv.mod(I:Inv X pins σ H s):Mod X.K X.mg X.base:=I.ok.mod
theorem Inv.zE(I:Inv X pins σ H s):X.K.In s.heap:=I.ok.mod.kin.keeps I.bk
theorem Inv.fr(I:Inv X pins σ H s):∃m,Fr X.base X.env.locals s.heap m:=
 let ⟨m,hn,_⟩:=I.loc
 ⟨m,hn,I.bk,B9 I.ok.bsz I.ok.above⟩
theorem Inv.lt(I:Inv X pins σ H s):X.env.locals < s.heap.objs.size:=let ⟨_,hn,_⟩:=I.loc;hn.lt
theorem Inv.sz(I:Inv X pins σ H s):X.wz.heap.objs.size<=s.heap.objs.size:=B9 I.ok.above (R1 I.lt)
theorem Inv.zCL(I:Inv X pins σ H s)(h:s.heap.objs.size<=a):a∉X.fs:=fun hb=>by
 obtain⟨_,o,ho,_⟩:=I.ok.yK.mem hb;exact absurd (C4 (C3 ho) (B9 I.sz h)) (R3 _)
theorem Inv.cne(I:Inv X pins σ H s):∀x c,X.env.cells.lookup x=some c->c≠X.env.locals:=fun x c e z=>by
 obtain⟨v,o,ho,hd⟩:=I.cell x c e;obtain⟨m,⟨o',es,ep,zT,hd',_⟩,_⟩:=I.loc;rw[z,zT] at ho;cases ho;rw[hd'] at hd;cases hd
theorem Inv.yK(I:Inv X pins σ H s):s.heap.FunFrames X.base X.outer:=by
 have all:∀(l:List Env),(∀b∈Qh l,b∈X.fs)->X.wz.heap.FunFrames X.base l->s.heap.FunFrames X.base l:=by
  intro l
  induction l with
  | nil=>intro _ _;trivial
  | cons env r ih =>
   intro hs hl;obtain⟨hk,⟨L,o,hf,hn,ho,hd⟩,hr⟩:=hl;have hL:L∈X.fs:=hs L (by unfold Qh;rw[X2,hf];exact B2);obtain⟨sl,e⟩:=I.base.slot L o ho (I.ok.frf L hL) hL fun z=>I.ok.zAr L z hL
   exact⟨hk,⟨L,_,hf,hn,e,hd⟩,ih (fun b hb=>hs b (by unfold Qh;rw[X2,hf];exact B1 _ hb)) hr⟩
 exact all X.outer (fun _ hb=>hb) I.ok.yK
theorem Inv.stack(I:Inv X pins σ H s):s.heap.FunFrames X.base X.stack:=by
 rcases I.ok.stk with e | ⟨e,hf⟩
 ·rw[e];exact I.yK
 ·rw[e];obtain⟨m,hn,_⟩:=I.loc;refine .cons (by rw[I.ok.kind];decide) hf hn ?_ I.yK;exact Heap.get?_none_of_le (B9 I.ok.bsz I.ok.above)
theorem Inv.yC(I:Inv X pins σ H s):∀b∈Qh X.stack,b∈X.env.locals::X.fs:=fun b hb=>by
 rcases I.ok.stk with e | ⟨e,hf⟩
 ·rw[e] at hb;exact B1 _ hb
 ·rw[e] at hb;unfold Qh at hb;rw[X2,hf] at hb;exact hb
theorem Inv.zAB(I:Inv X pins σ H s):∀b∈Qh X.stack,H b=none:=fun b hb=>by
 rcases D0.mp (I.yC b hb) with e | hb
 ·rw[e];exact I.free
 ·obtain⟨_,o,ho,_⟩:=I.ok.yK.mem hb;exact I.base.free b o ho (I.ok.frf b hb) fun z=>I.ok.zAr b z hb
theorem Inv.step{g':Array vG}{t':Nat}{d':Drawn}{ch:List B5}(I:Inv X pins σ H s)
    (hch:∀b∈ch,(b∈X.ex\/X.wz.heap.objs.size<=b)/\b≠X.env.locals/\(∀x c,X.env.cells.lookup x=some c->c≠b)/\∀p∈X.pn++pins,p.1≠b)
    (keep:∀b o,b≠X.env.locals->b∉X.fs->b∉ch->s.heap.get? b=some o->H b=none->h'.get? b=some o)
    (slot:∀b o,b≠X.env.locals->b∈X.fs->b∉ch->s.heap.get? b=some o->H b=none->∃sl,h'.get? b=some { o with slots:=sl }) (free:∀b o,b∉ch->s.heap.get? b=some o->H b=none->H' b=none)
    (there:∀b o,b∉ch->s.heap.get? b=some o->∃o',h'.get? b=some o')
    (yz:∀b xs,H b=some (.tup xs)->H' b=some (.tup xs)) (ym:∀b o u,H b=some (.zz o u)->H' b=some (.zz o u)) (y0:∀b ps,H b=some (.tbl ps)->∃more,H' b=some (.tbl (ps++more)))
    (ns:∀m,s.heap.Ns X.env.locals m->h'.Ns X.env.locals m) (wb:ES X.prog X.w H' h') (hg:qV g') :
    Inv X pins σ H' { s with heap:=h',gens:=g',drawn:=d',toks:=t' }:=by
  have neL:∀b o,X.wz.heap.get? b=some o->b≠X.env.locals:=fun b o e=>C8 (C4 (C3 e) I.ok.above)
  have neC:∀b o,X.wz.heap.get? b=some o->b∉X.ex->b∉ch:=fun b o e hx hb=>by
    rcases(hch b hb).1 with z | z
    · exact hx z
    · exact absurd (C4 (C3 e) z) (R3 _)
  have cellK:∀x c,X.env.cells.lookup x=some c->∀v,s.heap.IsCell c v->h'.IsCell c v:=fun x c e v ⟨o,ho,hd⟩=>by
    have nch:c∉ch:=fun z=>(hch c z).2.2.1 x c e rfl
    by_cases hc:c∈X.fs
    · obtain⟨sl,q⟩:=slot c o (I.cne x c e) hc nch ho (I.xM x c e);exact⟨_,q,hd⟩
    · exact⟨o,keep c o (I.cne x c e) hc nch ho (I.xM x c e),hd⟩
  refine⟨I.ok,I.os,hg,⟨fun b o e n hb hx=>?_,fun b o e n hb hx=>?_,fun b o e n hx=>?_,fun b o e hx=>?_,fun b xs e=>yz b xs (I.base.yz b xs e),fun b o xs e=>ym b o xs (I.base.ym b o xs e),fun b ps e=>?_⟩,?_,fun x c e=>?_,?_,fun x c e=>?_,fun p hp=>?_,wb,I.len⟩
  · exact keep b o (neL b o e) hb (neC b o e hx) (I.base.keep b o e n hb hx) (I.base.free b o e n hx)
  · obtain⟨sl,e1⟩:=I.base.slot b o e n hb hx;obtain⟨sl',e2⟩:=slot b _ (neL b o e) hb (neC b o e hx) e1 (I.base.free b o e n hx);exact⟨sl',e2⟩
  · obtain⟨o',e1⟩:=I.base.there b o e hx;exact free b o' (neC b o e hx) e1 (I.base.free b o e n hx)
  · obtain⟨o',e1⟩:=I.base.there b o e hx;exact there b o' (neC b o e hx) e1
  · obtain⟨m1,e1⟩:=I.base.y0 b ps e;obtain⟨m2,e2⟩:=y0 b _ e1;exact⟨m1++m2,by rw[e2,Array.append_assoc]⟩
  · obtain⟨m,hn,hl⟩:=I.loc;refine⟨m,ns m hn,fun i x v e1 e2 e3=>?_⟩;obtain⟨u,r,l⟩:=hl i x v e1 e2 e3;refine⟨u,r,?_⟩;rcases l with l | ⟨k,c,e,z⟩
    · exact .inl l
    · exact .inr ⟨k,c,e,cellK x c e _ z⟩
  · obtain⟨v,z⟩:=I.cell x c e;exact⟨v,cellK x c e v z⟩
  · obtain⟨m,⟨o,_,_,ho,_⟩,_⟩:=I.loc;exact free _ o (fun z=>(hch _ z).2.1 rfl) ho I.free
  · obtain⟨v,o,ho,hd⟩:=I.cell x c e;exact free c o (fun z=>(hch c z).2.2.1 x c e rfl) ho (I.xM x c e)
  · obtain⟨e,n,ne,nf,d⟩:=I.pin p hp;have nch:p.1∉ch:=fun z=>(hch p.1 z).2.2.2 p hp rfl
    exact⟨keep p.1 p.2 ne nf nch e n,free p.1 p.2 nch e n,ne,nf,d⟩
theorem Inv.un(I:Inv X pins σ H s)(u:Un X.fs [] H H' s.heap h')(wb:ES X.prog X.w H' h'):Inv X pins σ H' { s with heap:=h',toks:=t' }:=by
 obtain⟨m,⟨o,es,ep,ho,r⟩,_⟩:=id I.loc;obtain⟨sl,hL⟩:=u.any ho I.free (by simp);exact I.step (g':=s.gens) (d':=s.drawn) (ch:=[]) (fun _ z=>nomatch z) (fun b o _ hb _ e n=>u.keep b o e n hb (by simp)) (fun b o _ hb _ e n=>u.slot b o e n hb (by simp)) (fun b o _ e n=>u.free b o e n (by simp)) (fun b o _ e=>u.there b o e (by simp)) u.yz u.ym u.y0 (fun m' hm=>by
  obtain⟨o',es',ep',zT,r'⟩:=hm;rw[ho] at zT;cases zT;exact⟨_,es',ep',hL,r'⟩) wb I.bare
theorem Inv.call{g':Array vG}{t':Nat}{d':Drawn}{ch:List B5}(I:Inv X pins σ H s)(u:Un (Qh X.stack) ch H H' s.heap h')(wb:ES X.prog X.w H' h')(hg:qV g')
    (hch:∀b∈ch,(b∈X.ex\/X.wz.heap.objs.size<=b)/\b≠X.env.locals/\(∀x c,X.env.cells.lookup x=some c->c≠b)/\∀p∈X.pn++pins,p.1≠b) :
    Inv X pins σ H' { s with heap:=h',gens:=g',drawn:=d',toks:=t' }:=by
  obtain⟨m,⟨o,es,ep,ho,r⟩,_⟩:=id I.loc;obtain⟨sl,hL⟩:=u.any ho I.free fun z=>(hch _ z).2.1 rfl
  exact I.step (ch:=ch) hch (fun b o hL hb hc e n=>u.keep b o e n (fun z=>(D0.mp (I.yC b z)).elim hL hb) hc) (fun b o _ _ hc e n=>u.any e n hc) (fun b o hc e n=>u.free b o e n hc) (fun b o hc e=>u.there b o e hc) u.yz u.ym u.y0 (fun m' hm=>by
    obtain⟨o',es',ep',zT,r'⟩:=hm;rw[ho] at zT;cases zT;exact⟨_,es',ep',hL,r'⟩) wb hg
theorem Inv.turned{t':Nat}{it:B5}(I:Inv X pins σ H s)(k:∀b o,b≠it->s.heap.get? b=some o->h'.get? b=some o)(hn:H it=none)(hL:it≠X.env.locals)
    (h1:it∈X.ex\/X.wz.heap.objs.size<=it) (h2:∀x c,X.env.cells.lookup x=some c->c≠it) (h3:∀p∈X.pn++pins,p.1≠it):Inv X pins σ H { s with heap:=h',toks:=t' }:=by
  have nit:∀b u,H b=some u->b≠it:=fun b u e z=>by rw[z,hn] at e;cases e
  refine I.step (g':=s.gens) (d':=s.drawn) (ch:=[it]) (fun b hb=>?_) (fun b o _ _ hc e _=>k b o (fun z=>hc (by simp[z])) e) (fun b o _ _ hc e _=>⟨o.slots,k b o (fun z=>hc (by simp[z])) e⟩) (fun _ _ _ _ n=>n)
    (fun b o hc e=>⟨o,k b o (fun z=>hc (by simp[z])) e⟩) (fun _ _ e=>e) (fun _ _ _ e=>e) (fun b ps e=>⟨#[],by rw[e];simp⟩) (fun m hm=>?_) (fun b u e=>?_) I.bare
  · have e:b=it:=by simpa using hb
    subst e;exact⟨h1,hL,h2,h3⟩
  · obtain⟨o,es,ep,ho,r⟩:=hm;exact⟨o,es,ep,k _ o (Ne.symm hL) ho,r⟩
  · refine(I.wb b u e).zo (fun c v hc q=>k c v ?_ q) (fun _ q=>q) fun _ _ q=>q
    rcases hc with z | z
    · rw[z];exact nit b u e
    · exact nit c _ z
theorem Inv.tok(I:Inv X pins σ H s)(t:Nat):Inv X pins σ H { s with toks:=t }:=I.un (h':=s.heap) (t':=t) Un.refl I.wb
theorem Inv.kept(I:Inv X pins σ H s)(k:∀b u,s.heap.get? b=some u->h'.get? b=some u):Inv X pins σ H { s with heap:=h',toks:=t' }:=I.un (Un.kept k) (I.wb.kept k)
theorem Inv.laid{t':Nat}(I:Inv X pins σ H s)(k:∀b u,s.heap.get? b=some u->h'.get? b=some u)(hp:s.heap.objs.size<=a)(new:AY X.prog X.w (upd H a o) h' a o) :
    Inv X pins σ (upd H a o) { s with heap:=h',toks:=t' }:=I.un (Un.laid k hp (I.wb.fresh hp)) (I.wb.laid k hp new)
theorem Inv.write{x e:B5}{o:HO}{t':Nat}(I:Inv X pins σ H s)(mu:jB (H x))(he:e=x\/H e=some (.own x))(k:∀b u,b≠e->s.heap.get? b=some u->h'.get? b=some u)(heo:∃u,h'.get? e=some u)
    (new:AY X.prog X.w (upd H x o) h' x o):Inv X pins σ (upd H x o) { s with heap:=h',toks:=t' }:=I.un (Un.write mu he k heo) (I.wb.write mu he k heo new)
theorem Inv.weak{σ':List (Option V)}(I:Inv X pins σ H s)(hl:σ'.length=σ.length)(w:∀(i:Nat) v,σ'[i]?=some (some v)->σ[i]?=some (some v)):Inv X pins σ' H s:=
 ⟨I.ok,I.os,I.bare,I.base,let ⟨m,hn,zJ⟩:=I.loc;⟨m,hn,fun i x v e1 e2 e3=>zJ i x v e1 (w i v e2) e3⟩,I.cell,I.free,I.xM,I.pin,I.wb,hl.trans I.len⟩
theorem Inv.xa{zBP:List (B5×Obj)}(I:Inv X pins σ H s)(h:∀p∈zBP,s.heap.get? p.1=some p.2/\H p.1=none/\p.1≠X.env.locals/\p.1∉X.fs/\∀v,p.2.data≠.cell v):Inv X zBP σ H s:=
 ⟨I.ok,I.os,I.bare,I.base,I.loc,I.cell,I.free,I.xM,fun p hp=>(D9.mp hp).elim (fun z=>I.pin p (C2 _ z)) (h p),I.wb,I.len⟩
theorem ME{N:List Str}(hN:N.Nodup){j:Nat}(a:N[i]?=some x)(b:N[j]?=some x):i=j:=by
 obtain⟨h1,e1⟩:=C0.mp a;obtain⟨h2,e2⟩:=C0.mp b;exact(ql hN).mp (e1.trans e2.symm)
theorem JR{M:Model}{A:F3}{E:Value->A6->Prop}{Q:Unit->A6->Prop}(I:Inv X pins σ H s)(hN:X.N.Nodup)(hi:X.N[i]?=some x)(hx:Loc X.env.scope x)(r:RelV v u)
    (h:∀s',Inv X pins (σ.set i (some v)) H s'->(∃a,O4 a s.heap s'.heap/\(a=X.env.locals\/X.env.cells.lookup x=some a))->Q () s') (hf:X.fn x=true\/X.env.scope.names.lookup x=some .local:=by first | exact .inl rfl | exact .inr rfl | assumption):B7 M A (storeName X.env x u) Q E s:=by
  obtain⟨m,hn,hl⟩:=id I.loc;have zDZ:(X.env.scope.kind == .class || (X.env.scope.kind == .module && X.env.locals != X.env.globals))=false:=by rw[I.ok.kind];rfl
  have zCV:i < σ.length:=by rw[I.len];exact(C0.mp hi).1
  have cne:=I.cne;have tracked:∀{a:B5} {h':F7},(∃o,s.heap.get? a=some o/\H a=none)->O4 a s.heap h'->ES X.prog X.w H h':=fun{a h'} ha hs b ob e=>by
    obtain⟨_,_,zBU⟩:=ha;refine(I.wb b ob e).zo (fun c w' hc q=>(hs.2 c ?_).trans q) (fun _ q=>q) fun _ _ q=>q
    rintro rfl;rcases hc with rfl | hc
    · rw[zBU] at e;cases e
    · rw[zBU] at hc;cases hc
  rcases hx with hk | hk
  · refine wpAny_storeName_local hk hn (fun h' hn' hs=>?_) zDZ;obtain⟨oL,_,_,hoL,_⟩:=id hn;refine h _ ⟨I.ok,I.os,I.bare,⟨fun b o e n hb hx=>?_,fun b o e n hb hx=>?_,I.base.free,fun b o e hx=>?_,I.base.yz,I.base.ym,I.base.y0⟩,⟨_,hn',fun j y v' e1 e2 e3=>?_⟩,fun y c e=>?_,I.free,I.xM,fun p hp=>?_,tracked ⟨oL,hoL,I.free⟩ hs,by simpa using I.len⟩ ⟨_,hs,.inl rfl⟩
    · exact(hs.2 b (C8 (C4 (C3 e) I.ok.above))).trans (I.base.keep b o e n hb hx)
    · obtain⟨sl,e1⟩:=I.base.slot b o e n hb hx;exact⟨sl,(hs.2 b (C8 (C4 (C3 e) I.ok.above))).trans e1⟩
    · obtain⟨o',e1⟩:=I.base.there b o e hx;exact⟨o',(hs.2 b (C8 (C4 (C3 e) I.ok.above))).trans e1⟩
    · by_cases hj:j=i
      · subst hj;rw[hi] at e1;cases e1;rw[E9 zCV] at e2;cases e2;exact⟨u,r,.inl ⟨hk,by simp⟩⟩
      · rw[E1 (Ne.symm hj)] at e2;obtain⟨u',r',q⟩:=hl j y v' e1 e2 e3;refine⟨u',r',?_⟩;rcases q with⟨k,e⟩ | ⟨k,c,e,z⟩
        · refine .inl ⟨k,?_⟩;have:y≠x:=fun e=>hj (ME hN e1 (e▸hi))
          simp[this,e]
        · exact .inr ⟨k,c,e,z.sameBut hs (cne y c e)⟩
    · obtain⟨w',z⟩:=I.cell y c e;exact⟨w',z.sameBut hs (cne y c e)⟩
    · obtain⟨e,n,ne,nf,d⟩:=I.pin p hp;exact⟨(hs.2 p.1 ne).trans e,n,ne,nf,d⟩
  · have hfn:X.fn x=true:=by
      rcases hf with z | z
      · exact z
      · rw[z] at hk;cases hk
    obtain⟨c,hc⟩:=I.ok.has x (.inl hk);obtain⟨w',z⟩:=I.cell x c hc;refine wpAny_storeName_cell I.ok.kind hk hc z (fun h' hc' hs=>?_);obtain⟨oc,hoc,zDO⟩:=id z;refine h { s with heap:=h' } ⟨I.ok,I.os,I.bare,⟨fun b o e n hb hx=>?_,fun b o e n hb hx=>?_,I.base.free,fun b o e hx=>?_,I.base.yz,I.base.ym,I.base.y0⟩,⟨m,hn.sameBut hs (Ne.symm (cne x c hc)),fun j y v' e1 e2 e3=>?_⟩,fun y c' e=>?_,I.free,I.xM,fun p hp=>?_,tracked ⟨oc,hoc,I.xM x c hc⟩ hs,by simpa using I.len⟩ ⟨c,hs,.inr hc⟩
    · exact(hs.2 b (C8 (C4 (C3 e) (I.ok.cab x c hfn hc)))).trans (I.base.keep b o e n hb hx)
    · obtain⟨sl,e1⟩:=I.base.slot b o e n hb hx;exact⟨sl,(hs.2 b (C8 (C4 (C3 e) (I.ok.cab x c hfn hc)))).trans e1⟩
    · obtain⟨o',e1⟩:=I.base.there b o e hx;exact⟨o',(hs.2 b (C8 (C4 (C3 e) (I.ok.cab x c hfn hc)))).trans e1⟩
    · by_cases hj:j=i
      · subst hj;rw[hi] at e1;cases e1;rw[E9 zCV] at e2;cases e2;exact⟨u,r,.inr ⟨.inl hk,c,hc,hc'⟩⟩
      · rw[E1 (Ne.symm hj)] at e2;obtain⟨u',r',q⟩:=hl j y v' e1 e2 e3;refine⟨u',r',?_⟩;rcases q with q | ⟨k,c',e,z'⟩
        · exact .inl q
        · refine .inr ⟨k,c',e,z'.sameBut hs ?_⟩;rintro rfl;exact hj (ME hN e1 (I.ok.inj _ _ _ e hc▸hi))
    · by_cases hcc:c'=c
      · subst hcc;exact⟨_,hc'⟩
      · obtain⟨w2,z2⟩:=I.cell y c' e;exact⟨w2,z2.sameBut hs hcc⟩
    · obtain⟨e,n,ne,nf,d⟩:=I.pin p hp;refine⟨(hs.2 p.1 ?_).trans e,n,ne,nf,d⟩;intro q;rw[q,hoc] at e;have q':oc=p.2:=D5 e;exact d w' (by rw[<- q'];exact zDO)
theorem Em{M:Model}{A:F3}{E:Value->A6->Prop}{Q:Unit->A6->Prop}(I:Inv X pins σ H s)(hN:X.N.Nodup)(hi:X.N[i]?=some x)(hx:Loc X.env.scope x)(r:RelV v u)
    (h:∀s',Inv X pins (σ.set i (some v)) H s'->Q () s') (hf:X.fn x=true\/X.env.scope.names.lookup x=some .local:=by first | exact .inl rfl | exact .inr rfl | assumption):B7 M A (storeName X.env x u) Q E s:=
  JR I hN hi hx r (fun s' I' _=>h s' I') hf
theorem Inv.zCf{s':A6}{ch:List B5}(I:Inv X pins σ H s)(ho:s'.os=s.os)(u:Un (Qh X.stack) ch H H' s.heap s'.heap)(wb:ES X.prog X.w H' s'.heap)(hg:qV s'.gens)
    (hch:∀b∈ch,(b∈X.ex\/X.wz.heap.objs.size<=b)/\b≠X.env.locals/\(∀x c,X.env.cells.lookup x=some c->c≠b)/\∀p∈X.pn++pins,p.1≠b):Inv X pins σ H' s':=by
  obtain⟨h',g',d',t',o'⟩:=s';have e:o'=s.os:=ho;subst e;exact I.call (g':=g') (t':=t') (d':=d') u wb hg hch
end
abbrev XK:=Value->Option B5->Hp->Prop
noncomputable abbrev St:=List (Option V)
abbrev VK:=V->Hp->Prop
abbrev TE:=St->Hp->VK->Prop
abbrev TT:=St->Hp->(Bool->Hp->Prop)->Prop
abbrev TA:=St->Hp->(List V->Hp->Prop)->Prop
structure Ends where
 nx:St->Hp->Prop
 rt:VK
 bk:St->Hp->Prop:=fun _ _=>False
 ct:St->Hp->Prop:=fun _ _=>False
abbrev TS:=Ends->St->Hp->Prop
def EP(X:Cx)(pins:List (B5×Obj))(σ:St)(Q:VK)(u:Value)(s':A6):Prop:=∃v H',Inv X pins σ H' s'/\RelV v u/\Q v H'
def TP(X:Cx)(pins:List (B5×Obj))(σ:St)(Q:Bool->Hp->Prop)(b:Bool)(s':A6):Prop:=∃H',Inv X pins σ H' s'/\Q b H'
def AP(X:Cx)(pins:List (B5×Obj))(σ:St)(Q:List V->Hp->Prop)(us:List Value)(s':A6):Prop:=∃vs H',Inv X pins σ H' s'/\AH vs us/\Q vs H'
def SP(X:Cx)(pins:List (B5×Obj))(D:Ends)(f:Flow)(s':A6):Prop:=
 match f with
 | .next=>∃σ' H',Inv X pins σ' H' s'/\D.nx σ' H'
 | .brk=>∃σ' H',Inv X pins σ' H' s'/\D.bk σ' H'
 | .cont=>∃σ' H',Inv X pins σ' H' s'/\D.ct σ' H'
 | .ret u=>∃v σ' H',Inv X pins σ' H' s'/\RelV v u/\D.rt v H'
def PE(X:Cx)(e:Expr)(t:TE):Prop:=
 ∀(pins:List (B5×Obj)) (s:A6) (σ:St) (H:Hp) (Q:VK),Inv X pins σ H s->t σ H Q->B7 (C9 X.prog X.w) X.A (Q7 e X.env) (EP X pins σ Q) X.xe s
def PT(X:Cx)(e:Expr)(t:TT):Prop:=
 ∀(pins:List (B5×Obj)) (s:A6) (σ:St) (H:Hp) (Q:Bool->Hp->Prop),Inv X pins σ H s->t σ H Q->B7 (C9 X.prog X.w) X.A (isTrue e X.env (Q7 e X.env)) (TP X pins σ Q) X.xe s
def PW(X:Cx)(e:Expr)(t:TT):Prop:=
 ∀(whole:Sem Value) (pins:List (B5×Obj)) (s:A6) (σ:St) (H:Hp) (Q:Bool->Hp->Prop),Inv X pins σ H s->t σ H Q->B7 (C9 X.prog X.w) X.A (isTrue e X.env whole) (TP X pins σ Q) X.xe s
variable {X:Cx} {e:Expr}
theorem PW.pt{t:TT}(h:PW X e t):PT X e t:=h _
def PA(X:Cx)(es:List Expr)(t:TA):Prop:=
 ∀(pos:Pos) (pins:List (B5×Obj)) (s:A6) (σ:St) (H:Hp) (Q:List V->Hp->Prop),Inv X pins σ H s->t σ H Q->B7 (C9 X.prog X.w) X.A (vq (T5 pos (E6 es X.env))) (AP X pins σ Q) X.xe s
def PS(X:Cx)(st:M4)(t:TS):Prop:=
 ∀(pins:List (B5×Obj)) (s:A6) (σ:St) (H:Hp) (D:Ends),Inv X pins σ H s->t D σ H->B7 (C9 X.prog X.w) X.A (exec st X.env) (SP X pins D) X.xe s
def EA(X:Cx)(st:List M4)(t:TS):Prop:=
 ∀(pins:List (B5×Obj)) (s:A6) (σ:St) (H:Hp) (D:Ends),Inv X pins σ H s->t D σ H->B7 (C9 X.prog X.w) X.A (execs st X.env) (SP X pins D) X.xe s
variable {M:Model} {A:F3} {E:Value->A6->Prop} {s:A6}
theorem BB{α:Type}{t:Sem α}{Q Q':α->A6->Prop}(h:B7 M A t Q E s)(hQ:∀a s,Q a s->Q' a s):B7 M A t Q' E s:=R8 h hQ fun _ _ x=>x
variable {pins:List (B5×Obj)} {pos:Pos} {Q:Value->A6->Prop}
section
variable {X:Cx}
theorem bin{a b:Expr}{ta tb:TE}(ha:PE X a ta)(hb:PE X b tb){σ:St}{R:V->V->Hp->Prop}(I:Inv X pins σ H s)(h:ta σ H fun x H1=>tb σ H1 fun y H2=>R x y H2)
    {α:Type} {Q:α->A6->Prop} {f:Value->Value->Sem α}
    (hf:∀v u s2 x y H2,Inv X pins σ H2 s2->RelV x v->RelV y u->R x y H2->B7 (C9 X.prog X.w) X.A (f v u) Q X.xe s2) :
    B7 (C9 X.prog X.w) X.A (Q7 a X.env) (fun v wY=>B7 (C9 X.prog X.w) X.A (Q7 b X.env) (fun u yQ=>B7 (C9 X.prog X.w) X.A (f v u) Q X.xe yQ) X.xe wY) X.xe s:=by
  refine BB (ha pins s σ H _ I h) fun v s1 ⟨x,H1,I1,r1,q1⟩=>?_
  refine BB (hb pins s1 σ H1 _ I1 q1) fun u s2 ⟨y,H2,I2,r2,q2⟩=>?_
  exact hf v u s2 x y H2 I2 r1 r2 q2
abbrev HL(i:Nat):TE:=fun σ H Q=>∃v,σ[i]?=some (some v)/\Q v H
abbrev tC(v:V):TE:=fun _ H Q=>Q v H
theorem fH(hN:X.N[i]?=some x)(hv:mx X.env.scope x)(hd:(x == ("__debug__" : Str))=false:=by decide)(hcd:(x == ("__classdict__" : Str))=false:=by decide):PE X (.Name x pos) (HL i):=by
 intro pins s σ H Q I h;obtain⟨v,e,h⟩:=h;obtain⟨m,hn,hl⟩:=I.loc;obtain⟨u,r,l⟩:=hl i x v hN e hv;have fin:EP X pins σ Q u s:=⟨v,H,I,r,h⟩;rcases l with⟨hk,hm⟩ | ⟨hk,c,hc,yu⟩
 ·exact vH (wpAny_loadName_local I.ok.kind hk hn hm fin) hd
 ·rcases hk with hk | hk
  ·exact vH (wpAny_loadName_cell I.ok.kind hk hc yu fin) hd
  ·exact vH (wpAny_loadName_free I.ok.kind hk hc yu fin hcd) hd
theorem fP{i j pos}:PE X (.Constant (.int i) j pos) (tC (.int i)):=fun _ _ _ H _ I h=>wpAny_Constant_int ⟨.int i,H,I.tok _,⟨_,rfl⟩,h⟩
theorem kR{b j pos}:PE X (.Constant (.bool b) j pos) (tC (.bl b)):=fun _ _ _ H _ I h=>Constant_bool ⟨.bl b,H,I,rfl,h⟩
theorem fM{j pos}:PE X (.Constant .none j pos) (tC .wa):=fun _ _ _ H _ I h=>Constant_none ⟨.wa,H,I,rfl,h⟩
theorem fJ{x j pos}:PE X (.Constant (.str x) j pos) (tC (.str x)):=fun _ _ _ H _ I h=>sY ⟨.str x,H,I.tok _,⟨_,rfl⟩,h⟩
def Gl(X:Cx)(x:Str):Prop:=X.env.kindOf x=some .globalImplicit
theorem Kj{E:Value->A6->Prop}{σ:St}{pos:Pos}(I:Inv X pins σ H s)(hg:Gl X x)(hm:X.mg x=some u)(h:Q u s)
    (hd:(x == ("__debug__" : Str))=false:=by decide):B7 (C9 X.prog X.w) X.A (Q7 (.Name x pos) X.env) Q E s:=
  p9 I.ok.kind hg (Calls.loadGlobal_global (by rw[I.ok.glob];exact I.mod.glob.keeps I.bk) hm h) hd
theorem DT{E:Value->A6->Prop}{σ:St}{pos:Pos}(I:Inv X pins σ H s)(hg:Gl X x)(hm:X.mg x=none)(hv:N0 x=some u)(h:Q u s)
    (hn:x ≠ "__name__" := by decide) (hd:(x == ("__debug__" : Str))=false:=by decide):B7 (C9 X.prog X.w) X.A (Q7 (.Name x pos) X.env) Q E s:=by
  obtain⟨mb,h1,h2⟩:=I.mod.blt;exact p9 I.ok.kind hg (Calls.loadGlobal_builtin (by rw[I.ok.glob];exact I.mod.glob.keeps I.bk) hm (by rw[I.ok.blt];exact h1.keeps I.bk) ((h2 x hn).trans hv) h) hd
theorem ZQ(hg:Gl X x)(hm:X.mg x=some u)(r:RelV v u)(hd:(x == ("__debug__" : Str))=false:=by decide):PE X (.Name x pos) (tC v):=
 fun _ _ _ H _ I h=>Kj I hg hm ⟨v,H,I,r,h⟩ hd
theorem ZT(hg:Gl X x)(hm:X.mg x=none)(hv:N0 x=some u)(r:RelV v u)(hn:x ≠ "__name__" := by decide)(hd:(x == ("__debug__" : Str))=false:=by decide):PE X (.Name x pos) (tC v):=
 fun _ _ _ H _ I h=>DT I hg hm hv ⟨v,H,I,r,h⟩ hn hd
variable {a b:Expr} {ta tb:TE} {pos:Pos}
variable {tA bV:TT} {rest:List Expr}
abbrev jO(t u:TT):TT:=fun σ H Q=>t σ H fun c H1=>if c=true then u σ H1 Q else Q false H1
abbrev og(t u:TT):TT:=fun σ H Q=>t σ H fun c H1=>if c=true then Q true H1 else u σ H1 Q
abbrev jJ(t:TT):TT:=fun σ H Q=>t σ H fun c H1=>Q (!c) H1
theorem Yy(ha:PT X a tA):PW X (.BoolOp .And [a] pos) tA:=by
 intro wh pins s σ H Q I h;refine isTrue_and (BB (ha pins s σ H Q I h) fun c s1 e=>?_);cases c with
 | true=>exact isTrue_and_nil e
 | false=>exact e
theorem eT(ha:PT X a tA):PW X (.BoolOp .Or [a] pos) tA:=by
 intro wh pins s σ H Q I h;refine isTrue_or (BB (ha pins s σ H Q I h) fun c s1 e=>?_);cases c with
 | false=>exact isTrue_or_nil e
 | true=>exact e
theorem eU(ha:PT X a tA)(hb:PW X (.BoolOp .And (b::rest) pos) bV):PW X (.BoolOp .And (a::b::rest) pos) (jO tA bV):=by
 intro wh pins s σ H Q I h;refine isTrue_and (BB (ha pins s σ H _ I h) fun c s1 ⟨H1,I1,q1⟩=>?_);cases c with
 | true=>exact hb wh pins s1 σ H1 Q I1 q1
 | false=>exact⟨H1,I1,q1⟩
theorem kG(ha:PT X a tA)(hb:PW X (.BoolOp .Or (b::rest) pos) bV):PW X (.BoolOp .Or (a::b::rest) pos) (og tA bV):=by
 intro wh pins s σ H Q I h;refine isTrue_or (BB (ha pins s σ H _ I h) fun c s1 ⟨H1,I1,q1⟩=>?_);cases c with
 | true=>exact⟨H1,I1,q1⟩
 | false=>exact hb wh pins s1 σ H1 Q I1 q1
theorem eV(ha:PT X a tA):PT X (.UnaryOp .Not a pos) (jJ tA):=by
 intro pins s σ H Q I h;exact isTrue_not (ha pins s σ H (fun c H1=>Q (!c) H1) I h)
abbrev bW(ta tb:TE):TE:=fun σ H Q=>ta σ H fun x H1=>∃c,x=.bl c/\if c=true then tb σ H1 Q else Q (.bl false) H1
abbrev jI(ta tb:TE):TE:=fun σ H Q=>ta σ H fun x H1=>∃c,x=.bl c/\if c=true then Q (.bl true) H1 else tb σ H1 Q
abbrev bR(ta:TE):TE:=fun σ H Q=>ta σ H fun x H1=>∃c,x=.bl c/\Q (.bl (!c)) H1
theorem fK{op}{t:TE}(h:PE X a t):PE X (.BoolOp op [a] pos) t:=fun pins s σ H Q I hw=>BoolOp_one (h pins s σ H Q I hw)
theorem fR(ha:PE X a ta)(hb:PE X (.BoolOp .And (b::rest) pos) tb):PE X (.BoolOp .And (a::b::rest) pos) (bW ta tb):=by
 intro pins s σ H Q I h;refine BoolOp_and (BB (ha pins s σ H _ I h) fun v s1 ⟨x,H1,I1,r1,q1⟩=>?_);obtain⟨c,rfl,q1⟩:=q1;cases r1;refine O9 ?_;cases c with
 | true=>exact hb pins s1 σ H1 Q I1 q1
 | false=>exact⟨.bl false,H1,I1,rfl,q1⟩
theorem kN(ha:PE X a ta)(hb:PE X (.BoolOp .Or (b::rest) pos) tb):PE X (.BoolOp .Or (a::b::rest) pos) (jI ta tb):=by
 intro pins s σ H Q I h;refine BoolOp_or (BB (ha pins s σ H _ I h) fun v s1 ⟨x,H1,I1,r1,q1⟩=>?_);obtain⟨c,rfl,q1⟩:=q1;cases r1;refine O9 ?_;cases c with
 | false=>exact hb pins s1 σ H1 Q I1 q1
 | true=>exact⟨.bl true,H1,I1,rfl,q1⟩
theorem fL(ha:PE X a ta):PE X (.UnaryOp .Not a pos) (bR ta):=by
 intro pins s σ H Q I h;refine UnaryOp_ (BB (ha pins s σ H _ I h) fun v s1 ⟨x,H1,I1,r1,q1⟩=>?_);obtain⟨c,rfl,q1⟩:=q1;cases r1;exact not_of (O9 ⟨.bl (!c),H1,I1,rfl,q1⟩)
abbrev oh(t:TT)(ta tb:TE):TE:=fun σ H Q=>t σ H fun c H1=>if c=true then ta σ H1 Q else tb σ H1 Q
theorem VS{c:Expr}(hc:PT X c tA)(ha:PE X a ta)(hb:PE X b tb):PE X (.IfExp c a b pos) (oh tA ta tb):=by
 intro pins s σ H Q I h;refine wpAny_IfExp (BB (hc pins s σ H _ I h) fun d s1 ⟨H1,I1,q1⟩=>?_);cases d with
 | true=>exact ha pins s1 σ H1 Q I1 q1
 | false=>exact hb pins s1 σ H1 Q I1 q1
end
def Ca(K:W.Frag)(H:Hp)(a:B5)(xs:List V):Prop:=
 Rd H a (.lst xs) \/
  ∃(o:Obj) (its:Array Value) (n:Nat),K.lookup a=some o/\o.cls=.type "list" /\ o.dict=none/\o.data=.seq its n/\its.size<=sizeLine/\AH xs its.toList
def DL(K:W.Frag)(H:Hp)(a:B5)(xs:List V):Prop:=
 Rd H a (.tup xs) \/
  ∃(o:Obj) (its:Array Value) (n:Nat),K.lookup a=some o/\o.cls=.type "tuple" /\ o.data=.seq its n/\its.size<=sizeLine/\AH xs its.toList
noncomputable def oJ:Value->Option V
 | .none=>some .wa
 | .bool b=>some (.bl b)
 | .int i _=>some (.int i)
 | .str x _=>some (.str x)
 | .bytes b _=>some (.byt b)
 | .float b _=>some (.flt b)
 | .ref a=>some (.ref a)
 | .type n=>some (.ty n)
 | _=>none
theorem RelV.abs{x:V}(r:RelV x u):oJ u=some x:=by
 cases x with
 | wa=>cases r;rfl
 | bl _=>cases r;rfl
 | int _=>obtain⟨t,rfl⟩:=r;rfl
 | str _=>obtain⟨t,rfl⟩:=r;rfl
 | byt _=>obtain⟨t,rfl⟩:=r;rfl
 | flt _=>obtain⟨t,rfl⟩:=r;rfl
 | ref _=>cases r;rfl
 | ty _=>cases r;rfl
theorem RelV.inj{x y:V}(r:RelV x u)(q:RelV y u):x=y:=D5 (r.abs.symm.trans q.abs)
theorem AH.inj:∀{xs ys:List V} {us:List Value},AH xs us->AH ys us->xs=ys
 | _,_,_,.nil,.nil=>rfl
 | _,_,_,.cons r t,.cons r' t'=>by rw[r.inj r',AH.inj t t']
section
variable {X:Cx} {pins:List (B5×Obj)} {σ:St} {H:Hp} {s:A6} {a:B5} {xs ys:List V}
theorem Inv.list(I:Inv X pins σ H s)(h:Ca X.K H a xs):∃its:List Value,AH xs its/\PlainL s.heap a its.toArray/\xs.length<=sizeLine:=by
 rcases h with h | ⟨o,its,n,hk,hc,hd,hs,hz,r⟩
 ·obtain⟨z,its,n,r,e⟩:=h.ok I.wb;exact⟨its,r,⟨_,n,e,rfl,rfl,rfl⟩,z⟩
 ·refine⟨its.toList,r,⟨o,n,I.zE a o hk,hc,hd,by simpa using hs⟩,?_⟩;have e:=r.length;simp only[R0] at e;omega
theorem Inv.tuple(I:Inv X pins σ H s)(h:DL X.K H a xs):∃its:List Value,AH xs its/\IsTup s.heap a its.toArray/\xs.length<=sizeLine:=by
 rcases h with h | ⟨o,its,n,hk,hc,hs,hz,r⟩
 ·obtain⟨z,its,r,p⟩:=h.ok I.wb;exact⟨its,r,p.tup,z⟩
 ·refine⟨its.toList,r,⟨o,I.zE a o hk,hc,n,by simpa using hs⟩,?_⟩;have e:=r.length;simp only[R0] at e;omega
theorem Inv.yS(I:Inv X pins σ H s)(h:Ca X.K H a xs)(h':Ca X.K H a ys):xs=ys:=by
 obtain⟨its,r,⟨o,n,e,_,_,d⟩,_⟩:=I.list h;obtain⟨its',r',⟨o',n',e',_,_,d'⟩,_⟩:=I.list h';rw[e] at e';cases e';rw[d] at d';injection d' with d1 _
 have:its=its':=by simpa using congrArg vt d1
 subst this;exact r.inj r'
theorem Inv.yB(I:Inv X pins σ H s)(h:DL X.K H a xs)(h':DL X.K H a ys):xs=ys:=by
 obtain⟨its,r,⟨o,e,_,n,d⟩,_⟩:=I.tuple h;obtain⟨its',r',⟨o',e',_,n',d'⟩,_⟩:=I.tuple h';rw[e] at e';cases e';rw[d] at d';injection d' with d1 _
 have:its=its':=by simpa using congrArg vt d1
 subst this;exact r.inj r'
end
noncomputable abbrev Cx.yi(X:Cx)(E:Value->A6->Prop):Cx:={ X with xe:=E }
noncomputable abbrev Cx.nox(X:Cx):Cx:=X.yi fun _ _=>False
theorem Cx.Ok.yi(ok:X.Ok)(E:Value->A6->Prop):(X.yi E).Ok:=
 ⟨ok.mod,ok.kind,ok.glob,ok.blt,ok.above,ok.inj,ok.has,ok.cab,ok.hd,ok.frames,ok.stk,ok.exf,ok.bs,ok.bsz,ok.zAS,ok.zAr,ok.yK,ok.frf⟩
theorem Cx.Ok.xX(ok:(X.yi E).Ok):X.Ok:=
 ⟨ok.mod,ok.kind,ok.glob,ok.blt,ok.above,ok.inj,ok.has,ok.cab,ok.hd,ok.frames,ok.stk,ok.exf,ok.bs,ok.bsz,ok.zAS,ok.zAr,ok.yK,ok.frf⟩
section
variable {X:Cx} {pins:List (B5×Obj)} {σ:St} {H:Hp} {s:A6} {E:Value->A6->Prop}
theorem Inv.yi(I:Inv X pins σ H s)(E:Value->A6->Prop):Inv (X.yi E) pins σ H s:=⟨I.ok.yi E,I.os,I.bare,I.base,I.loc,I.cell,I.free,I.xM,I.pin,I.wb,I.len⟩
theorem Inv.xX(I:Inv (X.yi E) pins σ H s):Inv X pins σ H s:=⟨I.ok.xX,I.os,I.bare,I.base,I.loc,I.cell,I.free,I.xM,I.pin,I.wb,I.len⟩
theorem SP.xX{D:Ends}{f:Flow}{s':A6}(h:SP (X.yi E) pins D f s'):SP X pins D f s':=by
 cases f with
 | next=>obtain⟨σ',H',I,q⟩:=h;exact⟨σ',H',I.xX,q⟩
 | brk=>obtain⟨σ',H',I,q⟩:=h;exact⟨σ',H',I.xX,q⟩
 | cont=>obtain⟨σ',H',I,q⟩:=h;exact⟨σ',H',I.xX,q⟩
 | ret u=>obtain⟨v,σ',H',I,r,q⟩:=h;exact⟨v,σ',H',I.xX,r,q⟩
theorem EA.nox{st:List M4}{t:TS}(h:EA X.nox st t):EA X st t:=fun pins s σ H D I hw =>
 R8 (h pins s σ H D (I.yi _) hw) (fun _ _ q=>q.xX) fun _ _ z=>F1 z
end
section
variable {X:Cx} {st:M4} {rest:List M4} {t u:TS} {e:Expr} {te:TE} {pos:Pos}
abbrev UF:TS:=fun D σ H=>D.nx σ H
abbrev nE(t u:TS):TS:=fun D σ H=>t { D with nx:=u D } σ H
theorem ZC:EA X [] UF:=fun _ _ σ H _ I h=>l7 ⟨σ,H,I,h⟩
theorem Lw(h1:PS X st t)(h2:EA X rest u):EA X (st::rest) (nE t u):=by
 intro pins s σ H D I h;refine uQ (BB (h1 pins s σ H { D with nx:=u D } I h) fun f s1 q=>?_);cases f with
 | next =>
  obtain⟨σ',H',I',q⟩:=q;exact h2 pins s1 σ' H' D I' q
 | ret v=>exact q
 | brk=>exact q
 | cont=>exact q
theorem ZA(h1:PS X st t):EA X [st] t:=by
 intro pins s σ H D I h;refine uQ (BB (h1 pins s σ H D I h) fun f s1 q=>?_);cases f with
 | next=>exact l7 q
 | ret v=>exact q
 | brk=>exact q
 | cont=>exact q
theorem ZD:PS X (.Pass pos) UF:=fun _ _ σ H _ I h=>wpAny_Pass ⟨σ,H,I,h⟩
theorem Inv.quiet{σ:St}(I:Inv X pins σ H s):interactive X.env=false:=by simp[interactive,I.ok.kind]
theorem eZ{x j pos pos'}:PS X (.Expr (.Constant (.str x) j pos) pos') UF:=fun _ s σ H _ I h=>wpAny_Expr (sY (show SP X _ _ .next { s with toks:=s.toks+1 } from⟨σ,H,I.tok _,h⟩)) I.quiet
abbrev jM(te:TE):TS:=fun D σ H=>te σ H fun _ H1=>D.nx σ H1
theorem ZE(he:PE X e te)(hs:W6 e none pos.line X.env=pure false:=by rfl):PS X (.Expr e pos) (jM te):=by
 intro pins s σ H D I h;exact wpAny_Expr_any (BB (he pins s σ H _ I h) fun v s1 ⟨x,H1,I1,r1,q1⟩=>⟨σ,H1,I1,q1⟩) I.quiet hs
abbrev nF(te:TE):TS:=fun D σ H=>te σ H D.rt
theorem eX(he:PE X e te):PS X (.Return (some e) pos) (nF te):=by
 intro pins s σ H D I h;exact wpAny_Return_some (BB (he pins s σ H _ I h) fun v s1 ⟨x,H1,I1,r1,q1⟩=>⟨x,σ,H1,I1,r1,q1⟩)
abbrev nL(c:TT)(t u:TS):TS:=fun D σ H=>c σ H fun b H1=>if b=true then t D σ H1 else u D σ H1
theorem kK{c:Expr}{a b:List M4}{tc:TT}(hc:PT X c tc)(ha:EA X a t)(hb:EA X b u):PS X (.If c a b pos) (nL tc t u):=by
 intro pins s σ H D I h;refine wpAny_If (BB (hc pins s σ H _ I h) fun d s1 ⟨H1,I1,q1⟩=>?_);cases d with
 | true=>exact ha pins s1 σ H1 D I1 q1
 | false=>exact hb pins s1 σ H1 D I1 q1
end
abbrev TG:=V->St->Hp->(St->Hp->Prop)->Prop
abbrev LN:=List V->St->Hp->(St->Hp->Prop)->Prop
def PG(X:Cx)(target:Expr)(t:TG):Prop:=
 ∀(pins:List (B5×Obj)) (s:A6) (σ:St) (H:Hp) (v:V) (u:Value) (Q:St->Hp->Prop),Inv X pins σ H s->RelV v u->t v σ H Q ->
  B7 (C9 X.prog X.w) X.A (i7 target X.env u) (fun _ s'=>∃σ' H',Inv X pins σ' H' s'/\Q σ' H') X.xe s
def ia(X:Cx)(ts:List Expr)(t:LN):Prop:=
 ∀(pins:List (B5×Obj)) (s:A6) (σ:St) (H:Hp) (vs:List V) (us:List Value) (Q:St->Hp->Prop),Inv X pins σ H s->AH vs us->t vs σ H Q ->
  B7 (C9 X.prog X.w) X.A (qb ((N2 ts X.env).map (·.2)) us) (fun _ s'=>∃σ' H',Inv X pins σ' H' s'/\Q σ' H') X.xe s
abbrev NN:=V->V->V->Hp->(Hp->Prop)->Prop
def JH(X:Cx)(t:NN):Prop:=
 ∀(pins:List (B5×Obj)) (s:A6) (σ:St) (H:Hp) (o i v:V) (ov iv u:Value) (Q:Hp->Prop),Inv X pins σ H s->RelV o ov->RelV i iv->RelV v u->t o i v H Q ->
  B7 (C9 X.prog X.w) X.A (vC ov iv u) (fun _ s'=>∃H',Inv X pins σ H' s'/\Q H') X.xe s
variable {tg:Expr}
section
variable {X:Cx} {pos:Pos}
abbrev DH(i:Nat):TG:=fun v σ H Q=>Q (σ.set i (some v)) H
theorem ZP(hN:X.N.Nodup)(hi:X.N[i]?=some x)(hx:Loc X.env.scope x)(hf:X.fn x=true\/X.env.scope.names.lookup x=some .local:=by first | exact .inl rfl | exact .inr rfl | assumption):PG X (.Name x pos) (DH i):=by
 intro pins s σ H v u Q I r h;exact tQ (Em I hN hi hx r (fun s' I'=>⟨_,H,I',h⟩) hf)
abbrev MT:LN:=fun vs σ H Q=>vs=[]/\Q σ H
abbrev DI(t:TG)(u:LN):LN:=fun vs σ H Q=>∃v r,vs=v::r/\t v σ H fun σ' H'=>u r σ' H' Q
theorem QI:ia X [] MT:=by
 intro pins s σ H vs us Q I r h;obtain⟨e,h⟩:=h;subst e;cases r;exact tR ⟨σ,H,I,h⟩
theorem Hq{es:List Expr}{t:TG}{u:LN}(h1:PG X e t)(h2:ia X es u)
    (hs:(N2 (e::es) X.env).map (·.2)=i7 e X.env::(N2 es X.env).map (·.2):=by rfl):ia X (e::es) (DI t u):=by
  intro pins s σ H vs us Q I r h;obtain⟨v,vr,e1,h⟩:=h;subst e1;cases r with
  | cons r rr =>
    rw[hs];refine qB (BB (h1 pins s σ H _ _ _ I r h) fun _ s1 ⟨yv,H1,I1,q1⟩=>?_);exact h2 pins s1 yv H1 _ _ Q I1 rr q1
abbrev gX(K:W.Frag)(n:Nat)(t:LN):TG:=fun v σ H Q=>∃a xs,v=.ref a/\DL K H a xs/\xs.length=n/\t xs σ H Q
theorem VP{es:List Expr}{k:Nat}{t:LN}{n:Nat}(hc:X.calm=true)(h:ia X es t)
    (hn:(N2 es X.env).length=n:=by rfl) (zH:(N2 es X.env).findIdx? (·.1)=none:=by rfl):PG X (.Tuple es k pos) (gX X.K n t):=by
  intro pins s σ H v u Q I r hw;obtain⟨a,xs,e1,hq,hl,hw⟩:=hw;subst e1;cases r;obtain⟨its,rv,ht,hz⟩:=I.tuple hq;refine assign_Tuple_tuple (I.ok.hd hc) ht (by simp[hn,<- hl,rv.length]) zH fun h' hx=>?_
  have I1:Inv X pins σ H { s with heap:=h' }:=I.kept (t':=s.toks) fun b o e=>hx b o (C8 (C3 e)) e
  exact h pins _ σ H xs _ Q I1 (by simpa using rv) hw
abbrev kz(to ti:TE)(t:NN):TG:=fun v σ H Q=>to σ H fun o H1=>ti σ H1 fun i H2=>t o i v H2 fun H3=>Q σ H3
theorem fG{o i:Expr}{to ti:TE}{t:NN}(ho:PE X o to)(hi:PE X i ti)(hs:JH X t)
    (ha:∀v,i7 (.Subscript o i pos) X.env v=(do
      let ov <- q9 [v] (Q7 o X.env)
      let iv <- q9 [v,ov] (Q7 i X.env)
      standAt pos
      q9 [v,ov,iv] (vC ov iv v)
      release [v,ov,iv] []):=by intro _;rfl):PG X (.Subscript o i pos) (kz to ti t):=by
  intro pins s σ H v u Q I r h;rw[ha];refine A0 (E8 (BB (ho pins s σ H _ I h) fun ov s1 ⟨x,H1,I1,r1,q1⟩=>?_));refine A0 (E8 (BB (hi pins s1 σ H1 _ I1 q1) fun iv s2 ⟨y,H2,I2,r2,q2⟩=>?_));refine A0 (j9 (A0 (E8 (BB (hs pins s2 σ H2 x y v ov iv u _ I2 r1 r2 r q2) fun _ s3 ⟨H3,I3,q3⟩=>?_))));exact wpAny_release ⟨σ,H3,I3,q3⟩
abbrev Nj(te:TE)(g:TG):TS:=fun D σ H=>te σ H fun x H1=>g x σ H1 D.nx
theorem ee{te:TE}{g:TG}(he:PE X e te)(hg:PG X tg g)(hs:sQ [tg] e pos.line X.env=pure false:=by rfl)(hw:qc [tg] e X.env=pure none:=by rfl)
    (h1:(N2 [tg] X.env).map (·.2)=[i7 tg X.env]:=by rfl):PS X (.Assign [tg] e pos) (Nj te g):=by
  intro pins s σ H D I h;refine wpAny_Assign_stores (BB (he pins s σ H _ I h) fun v s1 ⟨x,H1,I1,r1,q1⟩=>?_) hs hw;rw[h1];exact BB (hg pins s1 σ H1 x v _ I1 r1 q1) fun _ s2 q=>q
theorem eW{te:TE}{pos':Pos}(hN:X.N.Nodup)(hi:X.N[i]?=some x)(hx:Loc X.env.scope x)(he:PE X e te)(hs:W6 e (some (.Name x pos')) pos.line X.env=pure false:=by rfl)(hf:X.fn x=true\/X.env.scope.names.lookup x=some .local:=by first | exact .inl rfl | exact .inr rfl | assumption) :
    PS X (.Assign [.Name x pos'] e pos) (Nj te (DH i)):=by
  intro pins s σ H D I h;refine wpAny_Assign_Name (BB (he pins s σ H _ I h) fun v s1 ⟨y,H1,I1,r1,q1⟩=>?_) hs;exact Em I1 hN hi hx r1 (fun s2 I2=>⟨_,H1,I2,q1⟩) hf
abbrev nG(i j:Nat)(ta:TA):TS:=fun D σ H=>ta σ H fun vs H1=>∃v w,vs=[v,w]/\D.nx ((σ.set i (some v)).set j (some w)) H1
theorem eY{j:Nat}{y:Str}{a b:Expr}{ta:TA}{px py pt:Pos}{kt k2 pt2}(hc:X.calm=true)(hN:X.N.Nodup)(hi:X.N[i]?=some x)(hj:X.N[j]?=some y)(zg:i≠j)
    (hx:X.env.scope.names.lookup x=some .local) (hy:X.env.scope.names.lookup y=some .local) (ha:PA X [a,b] ta)
    (hw:qc [.Tuple [.Name x px,.Name y py] kt pt] (.Tuple [a,b] k2 pt2) X.env=pure (some [x,y]))
    (hs:sQ [.Tuple [.Name x px,.Name y py] kt pt] (.Tuple [a,b] k2 pt2) pos.line X.env=pure false:=by rfl) :
    PS X (.Assign [.Tuple [.Name x px,.Name y py] kt pt] (.Tuple [a,b] k2 pt2) pos) (nG i j ta):=by
  intro pins s σ H D I h;rw[exec_Assign_arm];refine A0 (j9 ?_);rw[hs];refine A0 (A4 ?_);rw[if_neg (by decide)];refine A0 (Tuple_ (BB (ha _ pins s σ H _ I h) fun us s1 ⟨vs,H1,I1,r1,q1⟩=>?_));obtain⟨v,w,e1,q1⟩:=q1;subst e1;obtain⟨u1,u2,rfl,rv,xo⟩:∃u1 u2,us=[u1,u2]/\RelV v u1/\RelV w u2:=by
    cases r1 with
    | cons p q =>
      cases q with
      | cons p' q' =>
        cases q';exact⟨_,_,rfl,p,p'⟩
  refine G7 ?_ (by show 2<=sizeLine;decide)
  have I2:Inv X pins σ H1 { s1 with heap:=s1.heap.push { cls:=.type "tuple", data:=.seq [u1,u2].toArray } }:=I1.kept (t':=s1.toks) fun b o e=>A2 _ e
  rw[hw];refine A0 (A4 ?_)
  show B7 (C9 X.prog X.w) X.A (do rule "assign.swapped-stores"; let items <- uk (.ref s1.heap.objs.size) 2 none;qb [fun v=>vI X.env y v,fun v=>vI X.env x v] items.reverse;pure Flow.next) _ _ _
  refine A0 (Q5 (A0 (unpackItems_tuple (items:=#[u1,u2]) (I.ok.hd hc) (IsTup.new s1.heap _) fun h' ze=>?_)));have I3:=I2.kept (h':=h') (t':=s1.toks) fun b o e=>ze b o (C8 (C3 e)) e
  show B7 _ _ (qb [fun v=>vI X.env y v,fun v=>vI X.env x v] [u2,u1] >>= fun _=>pure Flow.next) _ _ _;refine A0 (qB (wpAny_bindName (Em I3 hN hj (.inl hy) xo (fun s2 I4=>?_) (.inr hy))));refine qB (wpAny_bindName (Em I4 hN hi (.inl hx) rv (fun s3 I5=>tR (A4 ?_)) (.inr hx)));rw[List.set_comm _ _ (Ne.symm zg)] at I5;exact⟨_,H1,I5,q1⟩
end
variable {body:List M4}
section
variable {X:Cx} {pos:Pos}
def UE(c:TT)(tb:TS):TS:=fun D σ H=>∃W:Nat->St->Hp->Prop,(∃m,W m σ H)/\∀m σ H,W m σ H ->
 c σ H fun b H1=>if b=true then ∃N:St->Hp->Prop,(∀σ' H',N σ' H'->∃m',m' < m/\W m' σ' H')/\tb { D with nx:=N,ct:=N,bk:=D.nx } σ H1 else D.nx σ H1
theorem VC{c:Expr}{tc:TT}{tb:TS}(hp:o9 (C9 X.prog X.w) X.A X.env X.xe)(hc:PT X c tc)(hb:EA X body tb):PS X (.While c body [] pos) (UE tc tb):=by
 intro pins s σ H D I h;obtain⟨W,⟨m0,w0⟩,turn⟩:=h;refine wpAny_While (codeAny_whileLoop (fun n s'=>∃σ' H',Inv X pins σ' H' s'/\W n σ' H') ?_ m0 ⟨σ,H,I,w0⟩);rintro n s1 ⟨yv,H1,I1,w1⟩;refine S9 hp (BB (hc pins s1 yv H1 _ I1 (turn n yv H1 w1)) fun b s2 ⟨H2,I2,q2⟩=>?_);cases b with
 | true =>
  obtain⟨N,hN,q2⟩:=q2;rw[if_pos rfl];refine S9 hp (BB (hb pins s2 yv H2 _ I2 q2) fun f s3 q3=>?_);cases f with
  | next =>
   obtain⟨σ3,H3,I3,n3⟩:=q3;obtain⟨m',hm,w3⟩:=hN σ3 H3 n3;exact⟨m',hm,σ3,H3,I3,w3⟩
  | cont =>
   obtain⟨σ3,H3,I3,n3⟩:=q3;obtain⟨m',hm,w3⟩:=hN σ3 H3 n3;exact⟨m',hm,σ3,H3,I3,w3⟩
  | brk=>exact q3
  | ret v=>exact q3
 | false =>
  rw[if_neg C7];exact l7 ⟨yv,H2,I2,q2⟩
end
structure It where
 go:Nat->Hp->Prop
 yld:Nat->Hp->V->Hp->Prop
 stop:Nat->Hp->Prop
def we(X:Cx)(pins:List (B5×Obj))(H:Hp)(b:B5):Prop:=
 H b=none/\b≠X.env.locals/\b∉X.fs/\(b∈X.ex\/X.wz.heap.objs.size<=b)/\(∀x c,X.env.cells.lookup x=some c->c≠b)/\∀p∈X.pn++pins,p.1≠b
theorem Inv.wc{σ:St}{H':Hp}(I:Inv X pins σ H s)(hb:s.heap.objs.size<=b)(hn:H' b=none):we X pins H' b:=by
 refine⟨hn,Y9 (C4 I.lt hb),I.zCL hb,.inr (B9 I.sz hb),fun x c e z=>?_,fun p hp z=>?_⟩
 ·obtain⟨v,q⟩:=I.cell x c e;exact absurd (C4 q.lt (by rw[z];exact hb)) (R3 _)
 ·exact absurd (C4 (C3 (I.pin p hp).1) (by rw[z];exact hb)) (R3 _)
structure Turn (P:E5) (w:G3) (K:W.Frag) (tg:Expr) (J:It) (fp:List B5) (it:B5) (tn:Nat->F7->Prop):Prop where
 mem:it∈fp
 obj:∀i h,tn i h->∀b∈fp,∃o,h.get? b=some o/\∀v,o.data≠.cell v
 keep:∀i h h',tn i h->(∀b∈fp,∀o,h.get? b=some o->h'.get? b=some o)->tn i h'
 item:∀(X:Cx),X.prog=P->X.w=w->X.K=K->X.calm=true->∀(i:Nat) (pins:List (B5×Obj)) (s:A6) (σ:St) (H:Hp) (E:Value->A6->Prop),Inv X pins σ H s->(∀b∈fp,we X pins H b)->tn i s.heap->J.go i H ->
  B7 (C9 P w) X.A (W3 (.ref it)) (fun r s1=>∃u,r=some u /\
   B7 (C9 P w) X.A (l8 tg (.ref it) u) (fun _ s2=>∃x H',Inv X pins σ H' s2/\RelV x u/\J.yld i H x H'/\tn (i+1) s2.heap/\∀b∈fp,H' b=none) E s1) E s
 done:∀(X:Cx),X.prog=P->X.w=w->X.K=K->X.calm=true->∀(i:Nat) (pins:List (B5×Obj)) (s:A6) (σ:St) (H:Hp) (E:Value->A6->Prop),Inv X pins σ H s->(∀b∈fp,we X pins H b)->tn i s.heap->J.stop i H ->
  B7 (C9 P w) X.A (W3 (.ref it)) (fun r s1=>r=none/\Inv X pins σ H s1) E s
 self:∀(A:F3) (i:Nat) (s:A6) (Q:Value->A6->Prop) (E:Value->A6->Prop),tn i s.heap->Q (.ref it) s->B7 (C9 P w) A (uR (.ref it)) Q E s
abbrev TI:=St->Hp->(It->Hp->Prop)->Prop
def pP(X:Cx)(pins:List (B5×Obj))(σ:St)(tg:Expr)(R:It->Hp->Prop)(itv:Value)(s2:A6):Prop:=
 ∃(it:B5) (fp:List B5) (tn:Nat->F7->Prop) (J:It) (H':Hp),itv=.ref it/\Inv X pins σ H' s2/\Turn X.prog X.w X.K tg J fp it tn/\tn 0 s2.heap/\(∀b∈fp,we X pins H' b)/\R J H'
def PI(X:Cx)(tg iter:Expr)(wi:TI):Prop:=
 ∀(pins:List (B5×Obj)) (s:A6) (σ:St) (H:Hp) (R:It->Hp->Prop),Inv X pins σ H s->wi σ H R ->
  B7 (C9 X.prog X.w) X.A (Q7 iter X.env) (fun v s1=>B7 (C9 X.prog X.w) X.A (uR v) (pP X pins σ tg R) X.xe s1) X.xe s
theorem WK{M:Model}{A:F3}{E:Value->A6->Prop}{tg:Expr}{it:B5}{u:Value}{o:Obj}{n:String}{vs:Array Value}{Q:Unit->A6->Prop}(ho:s.heap.get? it=some o)(hc:o.cls=.type n)(hd:o.data=.fields vs)
    (hn:["enumerate", "zip", "dict_itemiterator", "dict_reverseitemiterator", "odict_iterator", "itertools.zip_longest", "itertools.pairwise"].contains n=false) (hQ:Q () s):B7 M A (l8 tg (.ref it) u) Q E s:=by
  unfold l8;cases tg<;>first
    | exact A4 hQ
    | (cases u<;>first
        | exact A4 hQ
        | (refine A0 (vJ ho ?_)
           rw[hc,hd]
           show B7 M A (if(["enumerate", "zip", "dict_itemiterator", "dict_reverseitemiterator", "odict_iterator", "itertools.zip_longest", "itertools.pairwise"].contains n && vs[0]? == some (S6 _))=true then _ else _) Q E s
           rw[if_neg (by intro h;rw[hn,Bool.false_and] at h;cases h)];exact A4 hQ))
noncomputable def mV(K:W.Frag)(a:B5):It:=
 ⟨fun i H=>∃xs x,Ca K H a xs/\xs[i]?=some x,fun i H x H'=>H'=H/\∀xs,Ca K H a xs->xs[i]?=some x,fun i H=>∃xs,Ca K H a xs/\xs.length<=i⟩
noncomputable def nB(K:W.Frag)(a:B5):It:=
 ⟨fun i H=>∃xs x,DL K H a xs/\xs[i]?=some x,fun i H x H'=>H'=H/\∀xs,DL K H a xs->xs[i]?=some x,fun i H=>∃xs,DL K H a xs/\xs.length<=i⟩
noncomputable def ib(lo:Int)(n:Nat):It:=⟨fun i _=>i < n,fun i H x H'=>H'=H/\x=.int (lo+i),fun i _=>n<=i⟩
theorem RQ{K:W.Frag}(a it:B5):Turn P w K tg (mV K a) [it] it (fun i h=>h.IsListIter it a i) where
 mem:=by simp
 obj:=fun i h st b hb=>by
  have e:b=it:=by simpa using hb
  subst e;obtain⟨o,e,c,d⟩:=st;exact⟨o,e,fun v z=>by rw[d] at z;cases z⟩
 keep:=fun i h h' st k=>st.at fun o e=>k it (by simp) o e
 item:=by
  intro X hP hw hK hc i pins s σ H E I hf st hg;subst hP hw hK;obtain⟨xs,x,hq,hx⟩:=hg;obtain⟨its,rv,p,hz⟩:=I.list hq;obtain⟨u,hu,ru⟩:=rv.get hx;obtain⟨f0,f1,f2,f3,f4,f5⟩:=hf it (by simp);refine U6 st p.isList (x:=u) (by simpa using hu) fun h' yR sb=>?_
  have I1:Inv X pins σ H { s with heap:=h' }:=I.turned (t':=s.toks) (fun b o hb e=>(sb.2 b hb).trans e) f0 f1 f3 f4 f5;obtain⟨o,e,c,d⟩:=id yR;exact⟨u,rfl,WK (s:={ s with heap:=h' }) e c d (by decide) ⟨x,H,I1,ru,⟨rfl,fun ys hy=>by rw[I.yS hy hq];exact hx⟩,yR,fun b hb=>(hf b hb).1⟩⟩
 done:=by
  intro X hP hw hK hc i pins s σ H E I hf st hg;subst hP hw hK;obtain⟨xs,hq,hx⟩:=hg;obtain⟨its,rv,p,hz⟩:=I.list hq;obtain⟨f0,f1,f2,f3,f4,f5⟩:=hf it (by simp);have hl:=rv.length;exact V5 (I.ok.hd hc) st p.isList (by simp;omega) fun h' eb=>⟨rfl,I.turned (t':=s.toks) (fun b o hb e=>eb b o hb e) f0 f1 f3 f4 f5⟩
 self:=fun _ _ _ _ _ st h=>wpAny_pyIter_listiter st h
theorem Na{K:W.Frag}(a it:B5):Turn P w K tg (nB K a) [it] it (fun i h=>h.IsTupleIter it a i) where
 mem:=by simp
 obj:=fun i h st b hb=>by
  have e:b=it:=by simpa using hb
  subst e;obtain⟨o,e,c,d⟩:=st;exact⟨o,e,fun v z=>by rw[d] at z;cases z⟩
 keep:=fun i h h' st k=>st.at fun o e=>k it (by simp) o e
 item:=by
  intro X hP hw hK hc i pins s σ H E I hf st hg;subst hP hw hK;obtain⟨xs,x,hq,hx⟩:=hg;obtain⟨its,rv,p,hz⟩:=I.tuple hq;obtain⟨u,hu,ru⟩:=rv.get hx;obtain⟨f0,f1,f2,f3,f4,f5⟩:=hf it (by simp);refine qm st (show s.heap.IsTuple a its.toArray from p) (x:=u) (by simpa using hu) fun h' yR sb=>?_
  have I1:Inv X pins σ H { s with heap:=h' }:=I.turned (t':=s.toks) (fun b o hb e=>(sb.2 b hb).trans e) f0 f1 f3 f4 f5;obtain⟨o,e,c,d⟩:=id yR;exact⟨u,rfl,WK (s:={ s with heap:=h' }) e c d (by decide) ⟨x,H,I1,ru,⟨rfl,fun ys hy=>by rw[I.yB hy hq];exact hx⟩,yR,fun b hb=>(hf b hb).1⟩⟩
 done:=by
  intro X hP hw hK hc i pins s σ H E I hf st hg;subst hP hw hK;obtain⟨xs,hq,hx⟩:=hg;obtain⟨its,rv,p,hz⟩:=I.tuple hq;obtain⟨f0,f1,f2,f3,f4,f5⟩:=hf it (by simp);have hl:=rv.length;exact rC (I.ok.hd hc) st (show s.heap.IsTuple a its.toArray from p) (by simp;omega) fun h' eb=>⟨rfl,I.turned (t':=s.toks) (fun b o hb e=>eb b o hb e) f0 f1 f3 f4 f5⟩
 self:=fun _ _ _ _ _ st h=>wpAny_pyIter_tupleiter st h
theorem Nb{K:W.Frag}(it:B5)(lo:Int)(n:Nat):Turn P w K tg (ib lo n) [it] it (fun i h=>IsRangeIter h it (lo+(i:Nat) * 1) ((n:Int) - (i:Nat)) 1) where
 mem:=by simp
 obj:=fun i h st b hb=>by
  have e:b=it:=by simpa using hb
  subst e;exact⟨_,st,fun v z=>by
   have z':Data.fields _=Data.cell v:=z;cases z'⟩
 keep:=fun i h h' st k=>k it (by simp) _ st
 item:=by
  intro X hP hw hK hc i pins s σ H E I hf st hg;subst hP hw hK;obtain⟨f0,f1,f2,f3,f4,f5⟩:=hf it (by simp);have W:=Walks.range (prog:=X.prog) (w:=X.w) (I.ok.hd hc) it lo 1 n;refine W.item i s _ _ hg st fun v h' tk hv yR kk=>?_
  obtain⟨t,rfl⟩:=hv;have I1:Inv X pins σ H { s with heap:=h',toks:=tk }:=I.turned (fun b o hb e=>kk b o (by simpa using hb) e) f0 f1 f3 f4 f5
  refine⟨_,rfl,WK (s:={ s with heap:=h',toks:=tk }) (n := "range_iterator") yR rfl rfl (by decide) ⟨.int (lo+i),H,I1,⟨t,?_⟩,⟨rfl,rfl⟩,yR,fun b hb=>(hf b hb).1⟩⟩
  rw[Int.mul_one]
 done:=by
  intro X hP hw hK hc i pins s σ H E I hf st hg;subst hP hw hK;obtain⟨f0,f1,f2,f3,f4,f5⟩:=hf it (by simp);exact wpAny_pyNext_range_end (I.ok.hd hc) st (by have:n<=i:=hg;omega) fun h' eb=>⟨rfl,I.turned (t':=s.toks) (fun b o hb e=>eb b o hb e) f0 f1 f3 f4 f5⟩
 self:=fun _ _ _ _ _ st h=>wpAny_pyIter_rangeiter st h
section
variable {X:Cx} {tg:Expr}
theorem Lq{σ:St}{R:It->Hp->Prop}{E:Value->A6->Prop}{lo hi:Int}{t u v:Tok}{tk:Nat}(I:Inv X pins σ H s)(h1:-(2 ^ 62)<=lo)(h2:lo < 2 ^ 62)(h3:-(2 ^ 62)<=hi)(h4:hi < 2 ^ 62)
    (q:R (ib lo (hi - lo).toNat) H):B7 (C9 X.prog X.w) X.A (uR (.ref s.heap.objs.size)) (pP X pins σ tg R) E { s with heap:=s.heap.push { cls:=.type "range", data:=.fields #[.int lo t,.int hi u,.int 1 v] },toks:=tk }:=by
  refine wpAny_pyIter_range (IsRange.new ..) (small_one h1 h2 h3 h4) ?_
  have I1:Inv X pins σ H { s with heap:=s.heap.push { cls:=.type "range", data:=.fields #[.int lo t,.int hi u,.int 1 v] },toks:=tk }:=I.kept fun b o e=>A2 _ e
  refine⟨(s.heap.push { cls:=.type "range", data:=.fields #[.int lo t,.int hi u,.int 1 v] }).objs.size,[(s.heap.push { cls:=.type "range", data:=.fields #[.int lo t,.int hi u,.int 1 v] }).objs.size],_,_,H,rfl,
    I1.kept (t':=tk) fun b o e=>A2 _ e,Nb _ lo (hi - lo).toNat,?_,fun b hb=>?_,q⟩
  · have e1:lo+((0:Nat):Int) * 1=lo:=by simp
    have e2:(((hi - lo).toNat:Nat):Int) - ((0:Nat):Int)=vh lo hi 1:=by rw[rangeSize_one];split<;>omega
    show IsRangeIter _ _ (lo+((0:Nat):Int) * 1) ((((hi - lo).toNat:Nat):Int) - ((0:Nat):Int)) 1;rw[e1,e2];exact B4 _ rfl
  · have e:b=(s.heap.push { cls:=.type "range", data:=.fields #[.int lo t,.int hi u,.int 1 v] }).objs.size:=by simpa using hb
    subst e;exact I1.wc (B0 _) (I1.wb.fresh (B0 _))
abbrev ku(ta:TA):TI:=fun σ H R=>ta σ H fun vs H1=>∃j:Int,vs=[.int j]/\-(2 ^ 62)<=j/\j < 2 ^ 62/\R (ib 0 j.toNat) H1
abbrev kr(ta:TA):TI:=fun σ H R=>ta σ H fun vs H1=>∃i j:Int,vs=[.int i,.int j]/\(-(2 ^ 62)<=i/\i < 2 ^ 62/\-(2 ^ 62)<=j/\j < 2 ^ 62)/\R (ib i (j - i).toNat) H1
theorem Rl{a:Expr}{ta:TA}{p:Pos}(hg:Gl X "range")(hm:X.mg "range" = none)(ha:PA X [a] ta)(hs:E6 [a] X.env=[(false,Q7 a X.env)]:=by rfl):PI X tg (.Call (.Name "range" p) [a] [] pos) (ku ta):=by
 intro pins s σ H R I h;refine Call_ (DT I hg hm boot_range (K3 (BB (ha pos pins s σ H _ I h) fun us s1 ⟨vs,H1,I1,r1,q1⟩=>?_) hs rfl));obtain⟨j,e,q1,q2,q⟩:=q1;subst e;cases r1 with
 | cons r rr =>
  cases rr;obtain⟨t,rfl⟩:=r;exact call_range_1 (Lq I1 (by omega) (by omega) q1 q2 (by simpa using q))
theorem Rk{a b:Expr}{ta:TA}{p pos:Pos}(hg:Gl X "range")(hm:X.mg "range" = none)(ha:PA X [a,b] ta)(hs:E6 [a,b] X.env=[(false,Q7 a X.env),(false,Q7 b X.env)]:=by rfl)(hs2:E6 [b] X.env=[(false,Q7 b X.env)]:=by rfl) :
    PI X tg (.Call (.Name "range" p) [a,b] [] pos) (kr ta):=by
  intro pins s σ H R I h;refine Call_ (DT I hg hm boot_range (K3 (BB (ha pos pins s σ H _ I h) fun us s1 ⟨vs,H1,I1,r1,q1⟩=>?_) (by rw[hs,hs2]) (by rw[hs2];rfl)));obtain⟨i,j,e,⟨q1,q2,q3,q4⟩,q⟩:=q1;subst e;cases r1 with
  | cons r rr =>
    cases rr with
    | cons r' rr =>
      cases rr;obtain⟨t,rfl⟩:=r;obtain⟨t',rfl⟩:=r';exact call_range_2 (Lq I1 q1 q2 q3 q4 q)
abbrev nM(wi:TI)(g:TG)(tb:TS):TS:=fun D σ H=>wi σ H fun J H1=>∃W:Nat->Nat->St->Hp->Prop,(∃m,W 0 m σ H1)/\∀i m σ H,W i m σ H ->
 (J.stop i H/\D.nx σ H)\/(J.go i H/\∃N:St->Hp->Prop,(∀σ' H',N σ' H'->∃m',m' < m/\W (i+1) m' σ' H')/\∀x H',J.yld i H x H'->g x σ H' fun xN H2=>tb { D with nx:=N,ct:=N,bk:=D.nx } xN H2)
noncomputable def Eb(fp:List B5)(h:F7):List (B5×Obj):=fp.filterMap fun b=>(h.get? b).map fun o=>(b,o)
theorem BM{fp:List B5}{o:Obj}(hb:b∈fp)(e:h.get? b=some o):(b,o)∈Eb fp h:=sZ.mpr ⟨b,hb,by rw[e];rfl⟩
theorem Rt{fp:List B5}{p:B5×Obj}(hp:p∈Eb fp h):p.1∈fp/\h.get? p.1=some p.2:=by
 obtain⟨b,hb,e⟩:=sZ.mp hp;cases q:h.get? b with
 | none=>rw[q] at e;cases e
 | some o =>
  rw[q] at e;have e':(b,o)=p:=D5 e;subst e';exact⟨hb,q⟩
theorem Inv.pinned{σ:St}{fp:List B5}(I:Inv X pins σ H s)(hf:∀b∈fp,we X pins H b)(ho:∀b∈fp,∃o,s.heap.get? b=some o/\∀v,o.data≠.cell v):Inv X (pins++Eb fp s.heap) σ H s:=
 I.xa fun p hp=>(D9.mp hp).elim (fun z=>I.pin p (A9 _ z)) fun z=>by
  obtain⟨hb,e⟩:=Rt z;obtain⟨f0,f1,f2,_⟩:=hf p.1 hb;obtain⟨o,e',d⟩:=ho p.1 hb;rw[e] at e';cases e';exact⟨e,f0,f1,f2,d⟩
theorem Inv.xJ{pl:List (B5×Obj)}{σ:St}(I:Inv X (pins++pl) σ H s):Inv X pins σ H s:=I.xa fun p hp=>I.pin p (A9 _ (C2 _ hp))
theorem VD{iter:Expr}{wi:TI}{g:TG}{tb:TS}{pos:Pos}(hp:o9 (C9 X.prog X.w) X.A X.env X.xe)(hc:X.calm=true)(hi:PI X tg iter wi)(hg:PG X tg g)(hb:EA X body tb)
    (hs:∀x,P8 iter X.env x=pure x:=by intro _;rfl):PS X (.For tg iter body [] pos) (nM wi g tb):=by
  intro pins s σ H D I h;refine wpAny_For (BB (hi pins s σ H _ I h) fun v s1 h1=>BB h1 fun itv s2 h2=>?_) hs;obtain⟨it,fp,tn,J,H2,e,I2,T,st2,f2,W,⟨m0,w0⟩,turn⟩:=h2;subst e
  -- zDq stays true of the iterator's objects through the loop
  have zp:∀{H':Hp},(∀b∈fp,H' b=none)->∀b∈fp,we X pins H' b:=fun hn b hb=>⟨hn b hb,(f2 b hb).2⟩
  refine codeAny_forLoop_any (fun n s'=>∃i σ' H',Inv X pins σ' H' s'/\tn i s'.heap/\(∀b∈fp,H' b=none)/\W i n σ' H') ?_ m0 ⟨0,σ,H2,I2,st2,fun b hb=>(f2 b hb).1,w0⟩;rintro n s3 ⟨i,σ3,H3,I3,st3,fr3,w3⟩;rcases turn i n σ3 H3 w3 with⟨stop,qn⟩ | ⟨go,N,hN,step⟩
  · refine S9 hp (BB (T.done X rfl rfl rfl hc i pins s3 σ3 H3 X.xe I3 (zp fr3) st3 stop) fun r s4 ⟨hr,I4⟩=>?_);subst hr;exact l7 ⟨σ3,H3,I4,qn⟩
  · refine S9 hp (BB (T.item X rfl rfl rfl hc i pins s3 σ3 H3 X.xe I3 (zp fr3) st3 go) fun r s4 ⟨u,hr,h4⟩=>?_);subst hr;refine S9 hp (BB h4 fun _ s5 ⟨x,H5,I5,r5,y5,st5,fr5⟩=>?_);have I5':=I5.pinned (zp fr5) (T.obj _ _ st5);refine S9 hp (BB (hg _ s5 σ3 H5 x u _ I5' r5 (step x H5 y5)) fun _ s6 ⟨σ6,H6,I6,q6⟩=>?_);refine S9 hp (BB (hb _ s6 σ6 H6 _ I6 q6) fun f s7 q7=>?_);have again:∀{σ7:St} {H7:Hp},Inv X (pins++Eb fp s5.heap) σ7 H7 s7->N σ7 H7->∃m,m < n/\∃i σ' H',Inv X pins σ' H' s7/\tn i s7.heap/\(∀b∈fp,H' b=none)/\W i m σ' H':=fun{σ7 H7} I7 n7=>by
      obtain⟨m',hm,w7⟩:=hN σ7 H7 n7;refine⟨m',hm,i+1,σ7,H7,I7.xJ,T.keep _ _ _ st5 fun b hb o e=>(I7.pin (b,o) (A9 _ (A9 _ (BM hb e)))).1,fun b hb=>?_,w7⟩;obtain⟨o,e,d⟩:=T.obj _ _ st5 b hb;exact(I7.pin (b,o) (A9 _ (A9 _ (BM hb e)))).2.1
    cases f with
    | next=>obtain⟨σ7,H7,I7,n7⟩:=q7;exact again I7 n7
    | cont=>obtain⟨σ7,H7,I7,n7⟩:=q7;exact again I7 n7
    | brk=>obtain⟨σ7,H7,I7,q7⟩:=q7;exact⟨σ7,H7,I7.xJ,q7⟩
    | ret v=>obtain⟨x7,σ7,H7,I7,r7,q7⟩:=q7;exact⟨x7,σ7,H7,I7.xJ,r7,q7⟩
end
abbrev R2:=V->V->Hp->VK->Prop
def CY(X:Cx)(f:Value->Value->Sem Value)(r:R2):Prop:=
 ∀(pins:List (B5×Obj)) (s:A6) (σ:St) (H:Hp) (x y:V) (v u:Value) (Q:VK),Inv X pins σ H s->RelV x v->RelV y u->r x y H Q ->
  B7 (C9 X.prog X.w) X.A (f v u) (EP X pins σ Q) X.xe s
def oM(X:Cx)(f:Value->Sem Value)(r:V->Hp->VK->Prop):Prop:=
 ∀(pins:List (B5×Obj)) (s:A6) (σ:St) (H:Hp) (x:V) (v:Value) (Q:VK),Inv X pins σ H s->RelV x v->r x H Q ->
  B7 (C9 X.prog X.w) X.A (f v) (EP X pins σ Q) X.xe s
def As(X:Cx)(f:Value)(r:List V->Hp->VK->Prop):Prop:=
 ∀(pins:List (B5×Obj)) (s:A6) (σ:St) (H:Hp) (xs:List V) (us:List Value) (Q:VK),Inv X pins σ H s->AH xs us->r xs H Q ->
  B7 (C9 X.prog X.w) X.A (call f us) (EP X pins σ Q) X.xe s
def oN(X:Cx)(r:V->Hp->(Bool->Hp->Prop)->Prop):Prop:=
 ∀(pins:List (B5×Obj)) (s:A6) (σ:St) (H:Hp) (x:V) (v:Value) (Q:Bool->Hp->Prop),Inv X pins σ H s->RelV x v->r x H Q ->
  B7 (C9 X.prog X.w) X.A (truthy v) (TP X pins σ Q) X.xe s
abbrev mi(r:R2)(ta tb:TE):TE:=fun σ H Q=>ta σ H fun x H1=>tb σ H1 fun y H2=>r x y H2 Q
abbrev pS(r:V->Hp->VK->Prop)(ta:TE):TE:=fun σ H Q=>ta σ H fun x H1=>r x H1 Q
def rI(C:Int->Int->Prop)(g:Int->Int->V):R2:=fun x y H Q=>∃i j,x=.int i/\y=.int j/\C i j/\Q (g i j) H
def Ut(g:Int->Int->V):R2:=fun x y H Q=>∃i j,x=.int i/\y=.int j/\Q (g i j) H
def rU(g:Int->V):V->Hp->VK->Prop:=fun x H Q=>∃i,x=.int i/\Q (g i) H
variable {r:R2}
section
variable {X:Cx} {a b c:Expr} {ta tb tc:TE} {pos:Pos}
theorem iU(ha:PE X a ta)(hb:PE X b tb){σ:St}{R:V->V->Hp->Prop}(I:Inv X pins σ H s)
    (h:ta σ H fun x H1=>tb σ H1 fun y H2=>R x y H2) {Q:Value->A6->Prop} {f:Value->Value->Sem Value}
    (hf:∀v u s2 x y H2,Inv X pins σ H2 s2->RelV x v->RelV y u->R x y H2->B7 (C9 X.prog X.w) X.A (f v u) Q X.xe s2) :
    B7 (C9 X.prog X.w) X.A (Q7 a X.env) (fun v wY=>B7 (C9 X.prog X.w) X.A (Q7 b X.env) (fun u yQ=>B7 (C9 X.prog X.w) X.A (f v u) Q X.xe yQ) X.xe wY) X.xe s:=by
  refine BB (ha pins s σ H _ I h) fun v s1 ⟨x,H1,I1,r1,q1⟩=>?_
  refine BB (hb pins s1 σ H1 _ I1 q1) fun u s2 ⟨y,H2,I2,r2,q2⟩=>?_
  exact hf v u s2 x y H2 I2 r1 r2 q2
theorem kO{op:rZ}(ho:CY X (N3 op) r)(ha:PE X a ta)(hb:PE X b tb):PE X (.BinOp a op b pos) (mi r ta tb):=by
 intro pins s σ H Q I h;exact wpAny_BinOp (iU ha hb I h fun v u s2 x y H2 I2 rx ry q=>ho pins s2 σ H2 x y v u Q I2 rx ry q)
theorem kM{op:UnaryOp}{r:V->Hp->VK->Prop}(ho:oM X (unaryOp op) r)(ha:PE X a ta):PE X (.UnaryOp op a pos) (pS r ta):=by
 intro pins s σ H Q I h;exact UnaryOp_ (BB (ha pins s σ H _ I h) fun v s1 ⟨x,H1,I1,r1,q1⟩=>ho pins s1 σ H1 x v Q I1 r1 q1)
theorem ik{f:Value->Value->Sem Value}{C:Int->Int->Prop}{g:Int->Int->Int}
    (rule:∀(i j:Int) (t u:Tok) (s:A6) (Q:Value->A6->Prop) (E:Value->A6->Prop),C i j->Q (.int (g i j) s.toks) { s with toks:=s.toks+1 }->B7 (C9 X.prog X.w) X.A (f (.int i t) (.int j u)) Q E s) :
    CY X f (rI C fun i j=>.int (g i j)):=by
  intro pins s σ H x y v u Q I rx ry h;obtain⟨i,j,rfl,rfl,hc,q⟩:=h;obtain⟨t,rfl⟩:=rx;obtain⟨t',rfl⟩:=ry;exact rule i j t t' s _ _ hc ⟨.int (g i j),H,I.tok _,⟨_,rfl⟩,q⟩
theorem fw{f:Value->Value->Sem Value}{g:Int->Int->Int}
    (rule:∀(i j:Int) (t u:Tok) (s:A6) (Q:Value->A6->Prop) (E:Value->A6->Prop),Q (.int (g i j) s.toks) { s with toks:=s.toks+1 }->B7 (C9 X.prog X.w) X.A (f (.int i t) (.int j u)) Q E s) :
    CY X f (Ut fun i j=>.int (g i j)):=by
  intro pins s σ H x y v u Q I rx ry h;obtain⟨i,j,rfl,rfl,q⟩:=h;obtain⟨t,rfl⟩:=rx;obtain⟨t',rfl⟩:=ry;exact rule i j t t' s _ _ ⟨.int (g i j),H,I.tok _,⟨_,rfl⟩,q⟩
theorem gA{f:Value->Value->Sem Value}{g:Int->Int->Bool}
    (rule:∀(i j:Int) (t u:Tok) (s:A6) (Q:Value->A6->Prop) (E:Value->A6->Prop),Q (.bool (g i j)) s->B7 (C9 X.prog X.w) X.A (f (.int i t) (.int j u)) Q E s) :
    CY X f (Ut fun i j=>.bl (g i j)):=by
  intro pins s σ H x y v u Q I rx ry h;obtain⟨i,j,rfl,rfl,q⟩:=h;obtain⟨t,rfl⟩:=rx;obtain⟨t',rfl⟩:=ry;exact rule i j t t' s _ _ ⟨.bl (g i j),H,I,rfl,q⟩
def oQ(i j:Int):Prop:=0 < j/\j < 1073741824
def ma(i j:Int):Prop:=0<=j/\j<=1000000/\i.natAbs < 2 ^ 64
def bM(i j:Int):Prop:=(-(2 ^ 64) < i/\i < 2 ^ 64)\/(-(2 ^ 64) < j/\j < 2 ^ 64)
theorem bM.ok{i j:Int}(h:bM i j):IntMulOk i j:=by
 rcases h with⟨h1,h2⟩ | ⟨h1,h2⟩
 ·exact .of_left (intBits_le_64 h1 h2)
 ·exact .of_right (intBits_le_64 h1 h2)
theorem NZ(k:Nat):(0:Int)<=2 ^ k:=by
 rw[two_pow_cast];exact Int.natCast_nonneg _
theorem fv:CY X (N3 .Add) (Ut fun i j=>.int (i+j)):=fw fun _ _ _ _ _ _ _ q=>add_int q
theorem fV:CY X (N3 .Sub) (Ut fun i j=>.int (i - j)):=fw fun _ _ _ _ _ _ _ q=>sub_int q
theorem fg:CY X (N3 .Mult) (rI bM fun i j=>.int (i * j)):=ik fun _ _ _ _ _ _ _ hc q=>mul_int q hc.ok
theorem ZZ:CY X (N3 .FloorDiv) (rI oQ fun i j=>.int (i / j)):=ik fun i j _ _ _ _ _ hc q=>by
 have h1:(0:Int) < j:=hc.1;have h2:j < 1073741824:=hc.2;exact floordiv_int (by omega) (by rw[qC i (by omega)];exact q) (.inl (PyProof.noPylong_small (by omega)))
theorem fh:CY X (N3 .Mod) (rI (fun _ j=>0 < j) fun i j=>.int (i % j)):=ik fun i j _ _ _ _ _ hc q=>by
 have h1:(0:Int) < j:=hc;exact mod_int' (by omega) (by rw[Int.fmod_eq_emod_of_nonneg i (by omega)];exact q)
theorem fZ:CY X (N3 .Pow) (rI ma fun i j=>.int (i ^ j.toNat)):=ik fun _ _ _ _ _ _ _ hc q=>pow_int_small hc.1 hc.2.1 hc.2.2 q
theorem fX:CY X (N3 .LShift) (rI ma fun i j=>.int (i * 2 ^ j.toNat)):=ik fun _ _ _ _ _ _ _ hc q=>lshift_int_small hc.1 hc.2.1 hc.2.2 q
theorem fW:CY X (N3 .RShift) (rI (fun _ j=>0<=j) fun i j=>.int (i / 2 ^ j.toNat)):=ik fun i j _ _ _ _ _ hc q =>
 rshift_int hc (by rw[qC i (NZ _)];exact q)
theorem fu:CY X (N3 .BitAnd) (Ut fun i j=>.int (vK i j)):=fw fun _ _ _ _ _ _ _ q=>and_int q
theorem pQ{f:Value->Sem Value}{g:Int->Int}
    (rule:∀(i:Int) (t:Tok) (s:A6) (Q:Value->A6->Prop) (E:Value->A6->Prop),Q (.int (g i) s.toks) { s with toks:=s.toks+1 }->B7 (C9 X.prog X.w) X.A (f (.int i t)) Q E s) :
    oM X f (rU fun i=>.int (g i)):=by
  intro pins s σ H x v Q I rx h;obtain⟨i,rfl,q⟩:=h;obtain⟨t,rfl⟩:=rx;exact rule i t s _ _ ⟨.int (g i),H,I.tok _,⟨_,rfl⟩,q⟩
theorem dQ:oM X (unaryOp .USub) (rU fun i=>.int (-i)):=pQ fun _ _ _ _ _ q=>neg_int q
end
variable {f:Value->Value->Sem Value}
section
variable {X:Cx} {a b c:Expr} {ta tb tc:TE} {pos:Pos}
theorem WR{σ:St}{Q:VK}{k k':Bool}(I:Inv X pins σ H s)(q:Q (.bl k) H)(e:k=k'):EP X pins σ Q (.bool k') s:=by
 subst e;exact⟨.bl k,H,I,rfl,q⟩
theorem kT:CY X (J0 .Lt) (Ut fun i j=>.bl (decide (i < j))):=gA fun _ _ _ _ _ _ _ q=>lt_int q
theorem kU:CY X (J0 .Gt) (Ut fun i j=>.bl (decide (j < i))):=gA fun _ _ _ _ _ _ _ q=>gt_int q
theorem kW:CY X (J0 .GtE) (Ut fun i j=>.bl (decide (j<=i))):=gA fun _ _ _ _ _ _ _ q=>ge_int q
theorem Rq:CY X (J0 .In) (fun x y H Q=>∃i j,x=.str i/\y=.str j/\Q (.bl (!(P9 j i 0 j.length 1).isEmpty)) H):=by
 intro pins s σ H x y v u Q I rx ry h;obtain⟨i,j,rfl,rfl,q⟩:=h;obtain⟨t,rfl⟩:=rx;obtain⟨t',rfl⟩:=ry;exact in_str (WR I q rfl)
theorem ZX:CY X (J0 .IsNot) (fun x y H Q=>y=.wa/\Q (.bl (!decide (x=.wa))) H):=by
 intro pins s σ H x y v u Q I rx ry h;obtain⟨rfl,q⟩:=h;cases ry;refine isnot_none_gen (WR I q ?_);cases x<;>first
  | (cases rx;rfl)
  | (obtain⟨t,rfl⟩:=rx;rfl)
theorem CY.or{r':R2}(h:CY X f r)(h':CY X f r'):CY X f (fun x y H Q=>r x y H Q\/r' x y H Q):=by
 intro pins s σ H x y v u Q I rx ry q;rcases q with q | q
 ·exact h pins s σ H x y v u Q I rx ry q
 ·exact h' pins s σ H x y v u Q I rx ry q
theorem ZR{op:vL}(ho:CY X (J0 op) r)(ha:PE X a ta)(hb:PE X b tb)(hm:sR op b=false):PE X (.Compare a [op] [b] pos) (mi r ta tb):=by
 intro pins s σ H Q I h;exact wpAny_Compare1 (iU ha hb I h fun v u s2 x y H2 I2 rx ry q=>ho pins s2 σ H2 x y v u Q I2 rx ry q) hm
abbrev jF(t:TE):TT:=fun σ H Q=>t σ H fun x H'=>∃k,x=.bl k/\Q k H'
theorem Yz{op:vL}(ho:CY X (J0 op) r)(ha:PE X a ta)(hb:PE X b tb)(hm:sR op b=false):PT X (.Compare a [op] [b] pos) (jF (mi r ta tb)):=by
 intro pins s σ H Q I h;refine wpAny_isTrue_Compare1 (BB (ha pins s σ H _ I h) fun v s1 ⟨x,H1,I1,r1,q1⟩=>BB (hb pins s1 σ H1 _ I1 q1) fun u s2 ⟨y,H2,I2,r2,q2⟩ =>
  BB (ho pins s2 σ H2 x y v u _ I2 r1 r2 q2) fun c s3 ⟨z,H3,I3,r3,k,e,q3⟩=>?_) hm
 subst e;cases r3;exact O9 ⟨H3,I3,q3⟩
def YA(K:W.Frag)(x:V)(H:Hp)(k:Bool):Prop:=
 match x with
 | .wa=>k=false
 | .bl b=>k=b
 | .int i=>k=(i != 0)
 | .str y=>y.length<=sizeLine/\k=((y.length:Int) != 0)
 | .byt y=>y.size<=sizeLine/\k=((y.size:Int) != 0)
 | .ref p=>(∃xs,Ca K H p xs/\k=!xs.isEmpty)\/(∃xs,DL K H p xs/\k=!xs.isEmpty)\/∃wW,H p=some (.dK wW)/\k=!wW.isEmpty
 | _=>False
theorem OZ{κ:Type}{wW:List (κ×V)}{vs:List (κ×Value)}(r:KV wW vs):(!vs.isEmpty)=!wW.isEmpty:=by
 cases r<;>rfl
theorem IE{xs:List V}{its:List Value}(r:AH xs its):(!its.toArray.isEmpty)=!xs.isEmpty:=by
 cases r<;>simp
theorem GI:(sizeLine:Nat) < 2 ^ 63:=by rw[K0];decide
theorem dX:oN X (fun x H Q=>∃k,YA X.K x H k/\Q k H):=by
 intro pins s σ H x v Q I rx h;obtain⟨k,e,q⟩:=h;have hl:=GI;have hs:sizeLine=16777216:=K0;cases x with
 | wa =>
  cases rx;have e':k=false:=e;subst e';exact truthy_none ⟨H,I,q⟩
 | bl b =>
  cases rx;have e':k=b:=e;subst e';exact O9 ⟨H,I,q⟩
 | int i =>
  obtain⟨t,rfl⟩:=rx;have e':k=(i != 0):=e;subst e';exact PySem.P.truthy_int ⟨H,I,q⟩
 | str y =>
  obtain⟨t,rfl⟩:=rx;obtain⟨hy,e'⟩:y.length<=sizeLine/\k=((y.length:Int) != 0):=e;subst e';exact PySem.P.truthy_str (by omega) ⟨H,I.tok _,q⟩
 | byt y =>
  obtain⟨t,rfl⟩:=rx;obtain⟨hy,e'⟩:y.size<=sizeLine/\k=((y.size:Int) != 0):=e;subst e';exact W.truthy_bytes (by omega) ⟨H,I.tok _,q⟩
 | ref p =>
  cases rx;have e':(∃xs,Ca X.K H p xs/\k=!xs.isEmpty)\/(∃xs,DL X.K H p xs/\k=!xs.isEmpty)\/∃wW,H p=some (.dK wW)/\k=!wW.isEmpty:=e;rcases e' with⟨xs,hx,e'⟩ | ⟨xs,hx,e'⟩ | ⟨wW,hx,e'⟩
  ·subst e';obtain⟨its,r,pl,hz⟩:=I.list hx;have hlen:=r.length;exact wpAny_truthy_list pl.isList (by simp only[A7];omega) ⟨H,I.tok _,by rw[IE r];exact q⟩
  ·subst e';obtain⟨its,r,pl,hz⟩:=I.tuple hx;have hlen:=r.length;exact truthy_tuple pl (by simp only[A7];omega) ⟨H,I.tok _,by rw[IE r];exact q⟩
  ·subst e';obtain⟨hz,hS,vs,r,m⟩:wW.length<=sizeLine/\(p == Q6)=false/\∃vs,KV wW vs/\s.heap.DictOf (AQ X.prog X.w) p vs:=I.wb p _ hx;have hlen:wW.length=vs.length:=Paired.length r;exact wpAny_truthy_dict hS m (by omega) ⟨H,I.tok _,by rw[OZ r];exact q⟩
 | _=>exact(show False from e).elim
theorem VB(ha:PE X a ta)(he:∀whole,isTrue a X.env whole=(do let v <- whole;standAt a.pos;q9 [v] (truthy v))) :
    PT X a (fun σ H Q=>ta σ H fun x H'=>∃k,YA X.K x H' k/\Q k H'):=by
  intro pins s σ H Q I h;exact isTrue_plain (BB (ha pins s σ H _ I h) fun v s1 ⟨x,H1,I1,r1,q1⟩=>dX pins s1 σ H1 x v Q I1 r1 q1) (he _)
theorem OM:CY X (N3 .Add) (fun x y H Q=>∃i j,x=.str i/\y=.str j/\i.length+j.length<=sizeLine/\Q (.str (i++j)) H):=by
 intro pins s σ H x y v u Q I rx ry h;obtain⟨i,j,rfl,rfl,hz,q⟩:=h;obtain⟨t,rfl⟩:=rx;obtain⟨t',rfl⟩:=ry;exact add_str (fun t' tk=>⟨.str (i++j),H,I.tok _,⟨_,rfl⟩,q⟩) hz
theorem vals1{x:V}(r:AH [x] us):∃u,us=[u]/\RelV x u:=by
 cases r with
 | cons r1 r2=>cases r2;exact⟨_,rfl,r1⟩
theorem bN{x y:V}(r:AH [x,y] us):∃u w',us=[u,w']/\RelV x u/\RelV y w':=by
 cases r with
 | cons r1 r2 =>
  cases r2 with
  | cons r3 r4=>cases r4;exact⟨_,_,rfl,r1,r3⟩
theorem Su(hc:X.calm=true):As X (.builtin "max") (fun xs H Q=>∃i j,xs=[.int i,.int j]/\Q (.int (if j > i then j else i)) H):=by
 intro pins s σ H xs us Q I r h;obtain⟨i,j,rfl,q⟩:=h;obtain⟨u,w',rfl,⟨t,rfl⟩,⟨t',rfl⟩⟩:=bN r;refine max_two_ints (I.ok.hd hc) fun h' tk k=>⟨_,H,I.kept k,?_,q⟩
 by_cases hj:j > i
 ·rw[if_pos hj,if_pos hj];exact⟨_,rfl⟩
 ·rw[if_neg hj,if_neg hj];exact⟨_,rfl⟩
theorem Sr(hc:X.calm=true):As X (.builtin "min") (fun xs H Q=>∃i j,xs=[.int i,.int j]/\Q (.int (if j < i then j else i)) H):=by
 intro pins s σ H xs us Q I r h;obtain⟨i,j,rfl,q⟩:=h;obtain⟨u,w',rfl,⟨t,rfl⟩,⟨t',rfl⟩⟩:=bN r;refine min_two_ints (I.ok.hd hc) fun h' tk k=>⟨_,H,I.kept k,?_,q⟩
 by_cases hj:j < i
 ·rw[if_pos hj,if_pos hj];exact⟨_,rfl⟩
 ·rw[if_neg hj,if_neg hj];exact⟨_,rfl⟩
def mT(K:W.Frag)(x:V)(H:Hp)(n:Nat):Prop:=
 match x with
 | .str y=>y.length<=sizeLine/\n=y.length
 | .byt y=>y.size<=sizeLine/\n=y.size
 | .ref p=>(∃xs,Ca K H p xs/\n=xs.length)\/∃xs,DL K H p xs/\n=xs.length
 | _=>False
theorem XC:As X (.builtin "len") (fun xs H Q=>∃x n,xs=[x]/\mT X.K x H n/\Q (.int n) H):=by
 intro pins s σ H xs us Q I r h;obtain⟨x,n,rfl,e,q⟩:=h;obtain⟨u,rfl,rx⟩:=vals1 r;have hl:=GI;have hs:sizeLine=16777216:=K0;cases x with
 | str y =>
  obtain⟨t,rfl⟩:=rx;obtain⟨hy,e'⟩:y.length<=sizeLine/\n=y.length:=e;subst e';exact len_str (by omega) ⟨.int _,H,I.tok _,⟨_,rfl⟩,q⟩
 | byt y =>
  obtain⟨t,rfl⟩:=rx;obtain⟨hy,e'⟩:y.size<=sizeLine/\n=y.size:=e;subst e';exact W.len_bytes (by omega) ⟨.int _,H,I.tok _,⟨_,rfl⟩,q⟩
 | ref p =>
  cases rx;have e':(∃xs,Ca X.K H p xs/\n=xs.length)\/∃xs,DL X.K H p xs/\n=xs.length:=e;rcases e' with⟨xs,hx,e'⟩ | ⟨xs,hx,e'⟩
  ·subst e';obtain⟨its,r',pl,hz⟩:=I.list hx;have hlen:=r'.length;exact Calls.call_len_list pl.isList (by simp only[A7];omega) ⟨.int xs.length,H,I.tok _,⟨_,by simp only[A7];rw[hlen]⟩,q⟩
  ·subst e';obtain⟨its,r',pl,hz⟩:=I.tuple hx;have hlen:=r'.length;exact len_tuple pl (by simp only[A7];omega) ⟨.int xs.length,H,I.tok _,⟨_,by simp only[A7];rw[hlen]⟩,q⟩
 | _=>exact(show False from e).elim
end
structure zBI (h:F7) (x dx C:B5) (mA:Str->Option Value):Prop where
 obj:h.get? x=some (W.instObj C dx)
 ns:h.Ns1 dx mA
 ne:dx≠x
theorem SF{dx:B5}{mA:Str->Option Value}(n:h.Ns1 dx mA):∃od,h.get? dx=some od/\∀name,W.lookIn name od=some (mA name):=by
  obtain⟨o,es,ep,ho,hd,hk,_,hm⟩:=n;refine⟨o,ho,fun name=>?_⟩;have e:=hm name;unfold nsFind findBy at e;rw[<- Array.find?_toList] at e;unfold W.lookIn;rw[hd];dsimp only;split
  · rename_i y q;rw[q] at e;exact congrArg some e
  · rename_i q;rw[q] at e;have a:es.toList.any (·.refKey)=false:=by
      rw[tU];intro y hy;obtain⟨z,t,zBC⟩:=hk y (k7.mp hy);simp[DictEntry.refKey,zBC]
    have a':¬es.toList.any (·.refKey)=true:=by rw[a];exact C7
    rw[if_neg a'];exact congrArg some e
theorem zBI.look{x dx C:B5}{mA:Str->Option Value}(I:zBI h x dx C mA):∃od,W.InstAt h x (W.instObj C dx) C (some od)/\∀name,W.lookIn name od=some (mA name):=
 let ⟨od,ho,hl⟩:=SF I.ns
 ⟨od,⟨I.obj,rfl,rfl,ho⟩,hl⟩
section
variable {prog:E5} {w:G3} {A:F3} {E:Value->A6->Prop} {s:A6} {K:W.Frag} {x dx C f:B5} {mA:Str->Option Value} {name:Str} {v:Value}
theorem Zx{expr:Bool}{Q:Value->A6->Prop}(X:K.In s.heap)(I:zBI s.heap x dx C mA)(hg:W.plainGet K C name=true)(hh:W.hasDictIn K C=true)
    (ha:W.findIn K (.ref C) name=some none) (hv:mA name=some v) (hv':W.handedIn v=true) (h:Q v { s with toks:=s.toks+1 }) :
    B7 (C9 prog w) A (getAttr (.ref x) name expr) Q E s:=by
  obtain⟨od,J,hl⟩:=I.look;exact W.get_value X J (W.plainGet_of hg).1 (W.findObj_own hh ha rfl (by rw[hl,hv])) hv' h
end
theorem FR.some_of{o:Option Value}(r:FR (some v) o):∃u,o=some u/\RelV v u:=by
 cases o with
 | none=>exact(show False from r).elim
 | some u=>exact⟨u,rfl,r⟩
theorem SO(r:RelV v u):W.handedIn u=true:=by
 cases v with
 | wa=>cases(show u=K1 from r);rfl
 | bl b=>cases(show u=sX b from r);rfl
 | int i=>obtain⟨t,e⟩:=(show ∃t,u=g9 i t from r);cases e;rfl
 | str x=>obtain⟨t,e⟩:=(show ∃t,u=sH x t from r);cases e;rfl
 | byt b=>obtain⟨t,e⟩:=(show ∃t,u=wD b t from r);cases e;rfl
 | flt b=>obtain⟨t,e⟩:=(show ∃t,u=uh b t from r);cases e;rfl
 | ref a=>cases(show u=E2 a from r);rfl
 | ty n=>cases(show u=G2 n from r);rfl
section
variable {P:E5} {w:G3} {H H':Hp} {h h':F7} {a C dx:B5} {fs fs':List (Str×V)}
theorem Qe(wb:ES P w H h)(e:H a=some (.ins C dx fs)):∃mA,zBI h a dx C mA/\(∀f,FR (fs.lookup f) (mA f))/\vp mA (fs.map (·.1))/\fs.length<=1000/\H dx=some (.own a):=by
 obtain⟨d,z,ne,ob,mA,n,r,q⟩:=(show AY P w H h a (.ins C dx fs) from wb a _ e);exact⟨mA,⟨ob,n,ne⟩,r,q,z,d⟩
end
structure Cls (K:W.Frag) (C:B5):Prop where
 pg:W.plainGet K C Str.empty=true
 hd:W.hasDictIn K C=true
 po:W.plainOver K C=true
 sa:W.findIn K (.ref C) "__setattr__" = some (some (.builtin "object.__setattr__"))
theorem Cls.get{K:W.Frag}{C:B5}(c:Cls K C)(f:Str):W.plainGet K C f=true:=c.pg
def LP(K:W.Frag)(C:B5)(f:Str):Prop:=W.findIn K (.ref C) f=some none
structure Meth (K:W.Frag) (C:B5) (m:Str) (f:B5):Prop where
 at_:W.findIn K (.ref C) m=some (some (.ref f))
 fn:W.isFn K (.ref f)=true
 kp:W.keepIn K (.ref f)=true
section
variable {X:Cx} {pins:List (B5×Obj)} {σ:St} {H:Hp} {s:A6} {a C dx:B5} {fs:List (Str×V)} {f:Str} {v:V} {A:F3} {E:Value->A6->Prop}
theorem Od{b:Bool}{Q:Value->A6->Prop}(I:Inv X pins σ H s)(e:H a=some (.ins C dx fs))(c:Cls X.K C)(n:LP X.K C f)(l:fs.lookup f=some v)
    (h:∀u s',Inv X pins σ H s'->RelV v u->Q u s'):B7 (C9 X.prog X.w) A (getAttr (.ref a) f b) Q E s:=by
  obtain⟨mA,O,r,_,_,_⟩:=Qe I.wb e;obtain⟨u,hu,ru⟩:=FR.some_of (v:=v) (o:=mA f) (by rw[<- l];exact r f);exact Zx I.zE O (c.get f) c.hd n hu (SO ru) (h u _ (I.tok _) ru)
theorem bE{prog:E5}{w:G3}{env:Env}{f:Str}{pos:Pos}{s:A6}{Q:Value->A6->Prop}(hb:R4 e f env (Q7 e env)=Q7 e env)
    (h:B7 (C9 prog w) A (Q7 e env) (fun o wY=>B7 (C9 prog w) A (getAttr o f true) Q E wY) E s):B7 (C9 prog w) A (Q7 (.Attribute e f pos) env) Q E s:=
  Attribute_any_ h (by rw[arm_eval_Attribute,hb])
end
def dg(K:W.Frag)(ta:TE)(f:Str):TE:=fun σ H Q=>ta σ H fun x H1=>∃a C dx fs v,x=.ref a/\H1 a=some (.ins C dx fs)/\Cls K C/\LP K C f/\fs.lookup f=some v/\Q v H1
section
variable {X:Cx} {o e value:Expr} {f:Str} {pos pos' xj:Pos} {ta tv:TE}
theorem fQ(he:PE X e ta)(hb:R4 e f X.env (Q7 e X.env)=Q7 e X.env):PE X (.Attribute e f pos) (dg X.K ta f):=by
 intro pins s σ H Q I h;refine bE hb (BB (he pins s σ H _ I h) fun u s1 ⟨x,H1,I1,rx,a,C,dx,fs,v,ex,ea,c,n,l,q⟩=>?_);subst ex;obtain rfl:u=E2 a:=rx;exact Od I1 ea c n l fun u' s2 I2 ru=>⟨v,H1,I2,ru,q⟩
end
section
variable {X:Cx} {pins:List (B5×Obj)} {σ:St} {H:Hp} {s:A6} {A:F3} {E:Value->A6->Prop} {Q:Value->A6->Prop} {c:Value} {b:Bool}
inductive xm (K:W.Frag) (H:Hp):V->Value->Prop where
  | wa:xm K H .wa (.type "NoneType")
  | bl (x:Bool):xm K H (.bl x) (.type "bool")
  | int (i:Int):xm K H (.int i) (.type "int")
  | str (x:Str):xm K H (.str x) (.type "str")
  | flt (x:UInt64):xm K H (.flt x) (.type "float")
  | lst {a:B5} {xs:List V} (e:H a=some (.lst xs)):xm K H (.ref a) (.type "list")
  | zz {a:B5} {o:Obj} {xs:List V} (e:H a=some (.zz o (.lst xs))):xm K H (.ref a) (.type "list")
  | tup {a:B5} {xs:List V} (e:H a=some (.tup xs)):xm K H (.ref a) (.type "tuple")
  | dK {a:B5} {wW:List (Aa×V)} (e:H a=some (.dK wW)):xm K H (.ref a) (.type "dict")
  | dT {a:B5} {wW:List (List Aa×V)} (e:H a=some (.dT wW)):xm K H (.ref a) (.type "dict")
  | ins {a C dx:B5} {fs:List (Str×V)} (e:H a=some (.ins C dx fs)) (cl:Cls K C) (ha:W.findIn K (.ref C) "__class__" = some (some (.builtin "object.__class__")))
      (hn:W.specialIn K (.builtin "object.__class__") "__get__" = some (some (.builtin "getset_descriptor.__get__"))) (htk:W.takesIn K (.builtin "object.__class__")=some true)
      (hm:W.mroIn K C (.type "object")=some true):xm K H (.ref a) (.ref C)
theorem SK{x:V}{t:Value}(I:Inv X pins σ H s)(rx:RelV x u)(ty:xm X.K H x t)(e:W.kitOne X.K t c=some b)(h:∀tk,Q (.bool b) { s with toks:=tk }) :
    B7 (C9 X.prog X.w) A (call (.builtin "isinstance") [u,c]) Q E s:=by
  cases ty with
  | wa=>cases(show u=K1 from rx);exact W.kia_one W.kitx_none I.zE True.intro e (fun z=>nomatch z) h
  | bl y=>cases(show u=sX y from rx);exact W.kia_one W.kitx_bool I.zE True.intro e (fun z=>nomatch z) h
  | int i=>obtain⟨t,q⟩:=(show ∃t,u=g9 i t from rx);cases q;exact W.kia_one W.kitx_int I.zE True.intro e (fun z=>nomatch z) h
  | str y=>obtain⟨t,q⟩:=(show ∃t,u=sH y t from rx);cases q;exact W.kia_one W.kitx_str I.zE True.intro e (fun z=>nomatch z) h
  | flt y=>obtain⟨t,q⟩:=(show ∃t,u=uh y t from rx);cases q;exact W.kia_one W.kitx_float I.zE True.intro e (fun z=>nomatch z) h
  | @lst a xs ea =>
    cases(show u=E2 a from rx);obtain⟨_,_,n,_,h1⟩:=(show AY X.prog X.w H s.heap a (.lst xs) from I.wb a _ ea);exact W.kia_one W.kitx_list I.zE ⟨_,h1,rfl⟩ e (fun z=>nomatch z) h
  | @zz a ob xs ea =>
    cases(show u=E2 a from rx);obtain⟨_,_,_,n,_,h1⟩:=(show AY X.prog X.w H s.heap a (.zz ob (.lst xs)) from I.wb a _ ea);exact W.kia_one W.kitx_list I.zE ⟨_,h1,rfl⟩ e (fun z=>nomatch z) h
  | @tup a xs ea =>
    cases(show u=E2 a from rx);obtain⟨_,_,_,p⟩:=(show AY X.prog X.w H s.heap a (.tup xs) from I.wb a _ ea);obtain⟨o,h1,h2,_⟩:=p;exact W.kia_one W.kitx_tuple I.zE ⟨o,h1,h2⟩ e (fun z=>nomatch z) h
  | @dK a wW ea =>
    cases(show u=E2 a from rx);obtain⟨_,_,vs,_,p⟩:=(show AY X.prog X.w H s.heap a (.dK wW) from I.wb a _ ea);obtain⟨o,es,ep,h1,h2,_⟩:=p;exact W.kia_one W.kitx_dict I.zE ⟨o,h1,h2.1⟩ e (fun z=>nomatch z) h
  | @dT a wW ea =>
    cases(show u=E2 a from rx);obtain⟨_,_,xs,_,o,es,ep,h1,h2,_⟩:=(show AY X.prog X.w H s.heap a (.dT wW) from I.wb a _ ea);exact W.kia_one W.kitx_dict I.zE ⟨o,h1,h2.1⟩ e (fun z=>nomatch z) h
  | @ins a C dx fs ea cl ha hn htk hm =>
    cases(show u=E2 a from rx);obtain⟨mA,O,_⟩:=Qe I.wb ea;obtain⟨od,J,_⟩:=O.look;exact W.kia_one (W.kitx_own (cl.get _) cl.hd ha hn htk hm) I.zE J e (fun z=>nomatch z) h
end
structure wo (k:Nat) (A:F3):Prop where
 hd:A.handled=none
 dp:A.depth+3 * k+5 < recursionLimit
 un:A.units+16 * k+200 < G8
 gd:A.guards=some []
variable {k:Nat}
theorem wo.mono{j:Nat}(r:wo k A)(h:j<=k):wo j A:=⟨r.hd,by have:=r.dp;omega,by have:=r.un;omega,r.gd⟩
theorem wo.deeper(r:wo (k+1) A)(env:Env):wo k (A.deeper env):=
 ⟨r.hd,by have:=r.dp;show A.depth+1+3 * k+5 < _;omega,by have:=r.un;show A.units+3+16 * k+200 < _;omega,r.gd⟩
theorem wo.depth(r:wo k A):A.depth < recursionLimit:=by have:=r.dp;omega
abbrev Yc:TA:=fun _ H Q=>Q [] H
abbrev bT(ta:TE)(tr:TA):TA:=fun σ H Q=>ta σ H fun x H1=>tr σ H1 fun xs H2=>Q (x::xs) H2
section
variable {X:Cx} {e:Expr} {es:List Expr} {te:TE} {t:TA} {pos:Pos}
theorem OL:PA X [] Yc:=fun _ _ _ _ H Q I h=>tV ⟨[],H,I,.nil,h⟩
theorem Cd(ha:PE X e te)(hr:PA X es t)(hs:E6 (e::es) X.env=(false,Q7 e X.env)::E6 es X.env:=by rfl):PA X (e::es) (bT te t):=by
 intro pos pins s σ H Q I h;rw[hs];show B7 _ _ (vq ((false,Q7 e X.env)::T5 pos (E6 es X.env))) _ _ s;refine sf (BB (ha pins s σ H _ I h) fun u s1 ⟨x,H1,I1,r1,q1⟩=>?_);exact BB (hr pos pins s1 σ H1 _ I1 q1) fun us s2 ⟨xs,H2,I2,r2,q2⟩=>⟨x::xs,H2,I2,.cons r1 r2,q2⟩
abbrev nD(t:TA):TE:=fun σ H Q=>t σ H fun xs H1=>xs.length<=sizeLine/\∀p,H1 p=none->Q (.ref p) (upd H1 p (.tup xs))
abbrev nK(t:TA):TE:=fun σ H Q=>t σ H fun xs H1=>xs.length<=sizeLine/\∀p,H1 p=none->Q (.ref p) (upd H1 p (.lst xs))
theorem fI{x1}(h:PA X es t):PE X (.Tuple es x1 pos) (nD t):=by
 intro pins s σ H Q I hq;refine wpAny_Tuple_spliced (BB (h pos pins s σ H _ I hq) fun us s1 ⟨xs,H1,I1,r,z,q⟩=>⟨by rw[<- r.length];exact z,?_⟩);have hf:H1 s1.heap.objs.size=none:=I1.wb.fresh (B0 _);refine⟨.ref s1.heap.objs.size,upd H1 s1.heap.objs.size (.tup xs),I1.laid (t':=s1.toks) (fun b u e=>A2 _ e) (B0 _) ?_,rfl,q _ hf⟩;exact⟨z,us,r,⟨_,B4 _ rfl,rfl,rfl,_,rfl⟩⟩
theorem fN(h:PA X es t):PE X (.List es pos) (nK t):=by
 intro pins s σ H Q I hq;refine wpAny_List_spliced (BB (h pos pins s σ H _ I hq) fun us s1 ⟨xs,H1,I1,r,z,q⟩=>⟨by rw[<- r.length];exact z,?_⟩);have hf:H1 s1.heap.objs.size=none:=I1.wb.fresh (B0 _);refine⟨.ref s1.heap.objs.size,upd H1 s1.heap.objs.size (.lst xs),I1.laid (t':=s1.toks) (fun b u e=>A2 _ e) (B0 _) ?_,rfl,q _ hf⟩;exact⟨z,us,0,r,B4 _ rfl⟩
end
abbrev Sp:=List V->Hp->VK->XK->Prop
abbrev YD:=List Env->Hp->A6->XK->Value->A6->Prop
structure zBJ (P:E5) (w:G3) (K:W.Frag) (mg:Str->Option Value) (base:F7) (A:F3) (outer:List Env) (s:A6) (H:Hp):Prop where
 frames:A.frames=some outer
 mod:Mod K mg base
 bs:∀b o,base.get? b=some o->s.heap.get? b=some o/\H b=none
 bsz:base.objs.size<=s.heap.objs.size
 yK:s.heap.FunFrames base outer
 frf:∀b∈Qh outer,H b=none
 wb:ES P w H s.heap
 bare:qV s.gens
def CE(outer:List Env)(P:E5)(w:G3)(H:Hp)(s:A6)(Q:VK)(u:Value)(s':A6):Prop:=
 ∃v H',s'.os=s.os/\qV s'.gens/\Un (Qh outer) [] H H' s.heap s'.heap/\ES P w H' s'.heap/\RelV v u/\Q v H'
def CR(CX:YD)(outer:List Env)(P:E5)(w:G3)(H:Hp)(s:A6)(Q:VK)(E:XK)(r:uS)(s':A6):Prop:=
 match r with
 | .ok (.ret u)=>CE outer P w H s Q u s'
 | .ok _=>False
 | .error e=>CX outer H s E e s'
structure xU (P:E5) (w:G3) (K:W.Frag) (mg:Str->Option Value) (base:F7) (CX:YD) (k:Nat) (f:B5) (fd:R9) (ps:List Str) (sp:Sp):Prop where
 len:∀vs H Q E,sp vs H Q E->vs.length=ps.length
 run:∀(A:F3) (outer:List Env) (s:A6) (H:Hp) (args:Args) (us:List Value) (vs:List V) (Q:VK) (E:XK),wo k A->zBJ P w K mg base A outer s H->tW s fd args (ps.zip us)->AH vs us->sp vs H Q E ->
  X8 (C9 P w) A (.call (.ref f) args) (CR CX outer P w H s Q E) s
variable {base:F7}
theorem xU.imp{K:W.Frag}{mg:Str->Option Value}{CX:YD}{f:B5}{fd:R9}{ps:List Str}{sp sp':Sp}(F:xU P w K mg base CX k f fd ps sp)
    (h:∀vs H Q E,sp' vs H Q E->sp vs H Q E):xU P w K mg base CX k f fd ps sp':=
  ⟨fun vs H Q E q=>F.len vs H Q E (h _ _ _ _ q),fun A outer s H args us vs Q E hr he hb hv hs=>F.run A outer s H args us vs Q E hr he hb hv (h _ _ _ _ hs)⟩
section
variable {X:Cx} {pins:List (B5×Obj)} {σ:St} {H:Hp} {s s':A6}
theorem Inv.zDc(I:Inv X pins σ H s):zBJ X.prog X.w X.K X.mg X.base X.A X.stack s H:=
 ⟨I.ok.frames,I.ok.mod,I.bs,B9 I.ok.bsz I.sz,I.stack,I.zAB,I.wb,I.bare⟩
theorem Inv.after{Q:VK}(I:Inv X pins σ H s)(h:CE X.stack X.prog X.w H s Q u s'):EP X pins σ Q u s':=by
 obtain⟨v,H',os,bare,un,wb,r,q⟩:=h;obtain⟨hh,g,d,t,os'⟩:=s';obtain rfl:os'=s.os:=os;exact⟨v,H',I.call (h':=hh) (g':=g) (d':=d) (t':=t) (ch:=[]) un wb bare (fun b z=>absurd z (by simp)),r,q⟩
end
abbrev bU(sp:Sp)(dvs:List V)(E:XK)(t:TA):TE:=fun σ H Q=>t σ H fun vs H1=>sp (vs++dvs) H1 Q E
def Binds(K:W.Frag)(fd:R9)(ps:List Str)(ds:List Value):Prop:=
 ∀(s:A6) (us:List Value),K.In s.heap->(us++ds).length=ps.length->tW s fd ⟨us,[]⟩ (ps.zip (us++ds))
theorem Binds.all{K:W.Frag}{fd:R9}{ps:List Str}(h:∀us:List Value,us.length=ps.length->qo fd ⟨us,[]⟩=pure (ps.zip us)):Binds K fd ps []:=fun s us _ hl=>by
 rw[M0] at hl ⊢;exact .of_eq (h us hl)
def LO(CX:YD)(X:Cx)(E:XK):Prop:=∀(pins:List (B5×Obj)) (σ:St) (H:Hp) (s:A6) (e:Value) (s':A6),Inv X pins σ H s->CX X.stack H s E e s'->X.xe e s'
section
variable {X:Cx} {CX:YD} {k:Nat} {f C:B5} {fd:R9} {ps:List Str} {sp:Sp} {dvs:List V} {ds:List Value} {E:XK} {x m:Str} {p pos apos:Pos} {e o:Expr} {es:List Expr} {ta:TE} {t:TA}
theorem Ui{pins:List (B5×Obj)}{σ:St}{H:Hp}{s:A6}{Q:VK}{us:List Value}{vs:List V}(F:xU X.prog X.w X.K X.mg X.base CX k f fd ps sp)(hr:wo k X.A)(hb:Binds X.K fd ps ds)(hd:AH dvs ds)(hx:LO CX X E)
    (I:Inv X pins σ H s) (r:AH vs us) (h:sp (vs++dvs) H Q E):B7 (C9 X.prog X.w) X.A (call (.ref f) us) (EP X pins σ Q) X.xe s:=by
  have r2:AH (vs++dvs) (us++ds):=r.append hd;have hl:(us++ds).length=ps.length:=by rw[<- r2.length];exact F.len _ _ _ _ h
  refine wpAny_call (n9 (F.run X.A X.stack s H ⟨us,[]⟩ (us++ds) (vs++dvs) Q E hr I.zDc (hb s us I.zE hl) r2 h) fun r s' hq=>?_);cases r with
  | error e=>exact hx pins σ H s e s' I hq
  | ok fl =>
    cases fl with
    | ret u=>exact I.after hq
    | next=>exact F1 hq
    | brk=>exact F1 hq
    | cont=>exact F1 hq
theorem ZS(F:xU X.prog X.w X.K X.mg X.base CX k f fd ps sp)(hr:wo k X.A)(hg:Gl X x)(hm:X.mg x=some (.ref f))(hk:W.keepIn X.K (.ref f)=true)(hb:Binds X.K fd ps ds)(hd:AH dvs ds)(hx:LO CX X E)
    (ha:PA X (e::es) t) (hdb:(x == ("__debug__" : Str))=false:=by decide) (he:E6 (e::es) X.env=(false,Q7 e X.env)::E6 es X.env:=by rfl) (yJ:(T5 pos (E6 es X.env)).any (·.1)=false:=by rfl) :
    PE X (.Call (.Name x p) (e::es) [] pos) (bU sp dvs E t):=by
  intro pins s σ H Q I h;refine S0 (Kj I hg hm ?_ hdb);refine W.callWith_K (h₀:=X.base) I.ok.mod.kin hk (BB (ha pos pins s σ H _ I h) fun us s1 ⟨vs,H1,I1,r,q⟩=>⟨I1.zE,?_⟩) he yJ;exact Ui F hr hb hd hx I1 r q
theorem VW(F:xU X.prog X.w X.K X.mg X.base CX k f fd ps sp)(hr:wo k X.A)(hg:Gl X x)(hm:X.mg x=some (.ref f))(hk:W.keepIn X.K (.ref f)=true)(hb:Binds X.K fd ps ds)(hd:AH dvs ds)(hx:LO CX X E)
    (hdb:(x == ("__debug__" : Str))=false:=by decide):PE X (.Call (.Name x p) [] [] pos) (bU sp dvs E Yc):=by
  intro pins s σ H Q I h;refine S0 (Kj I hg hm ?_ hdb);exact W.callWith_K0 I.zE hk (Ui (us:=[]) F hr hb hd hx I .nil h)
structure Mk (K:W.Frag) (C f:B5):Prop where
 makes:W.makesIn K C=true
 init:W.findIn K (.ref C) "__init__" = some (some (.ref f))
 fn:W.isFn K (.ref f)=true
 kp:W.keepIn K (.ref C)=true
end
structure xx (N P:List Str) (sc:N1):Prop where
 kind:sc.kind=.function
 co:sc.isCoroutine=false
 gen:sc.isGenerator=false
 nd:N.Nodup
 pre:N.take P.length=P
 par:∀x∈P,sc.names.lookup x=some .local\/sc.names.lookup x=some .cell
 zBi:∀y∈sc.names,y.2≠.free
theorem KA{kindOf:Str->Option NameKind}{x:Str}:∀{binds:List (Str×Value)} {m:Str->Option Value},(∀v,(x,v)∉binds)->vM kindOf binds m x=m x
 | [],_,_=>rfl
 | (n,v)::r,m,h=>by
  unfold vM;rw[KA fun w hw=>h w (B1 _ hw)];split
  ·have:x≠n:=by rintro rfl;exact h v B2
   simp[this]
  ·rfl
theorem KC{kindOf:Str->Option NameKind}{x:Str}:∀{binds:List (Str×Value)} {m:Str->Option Value},(∀v,(x,v)∉binds)->vN kindOf binds m x=m x
 | [],_,_=>rfl
 | (n,v)::r,m,h=>by
  unfold vN;rw[KC fun w hw=>h w (B1 _ hw)];split
  ·rfl
  ·have:x≠n:=by rintro rfl;exact h v B2
   simp[this]
theorem KB{kindOf:Str->Option NameKind}{v:Value}:∀{P:List Str} {vs:List Value} {i:Nat} {m:Str->Option Value},P.Nodup->P[i]?=some x->vs[i]?=some v->kindOf x=some .local ->
    vM kindOf (P.zip vs) m x=some v
  | [],_,_,_,_,h,_,_=>by simp at h
  | _::_,[],_,_,_,_,h,_=>by simp at h
  | p::P,w::vs,0,m,nd,h1,h2,hk=>by
    simp at h1 h2;subst h1;subst h2;show vM kindOf ((p,w)::P.zip vs) m p=_;unfold vM;rw[KA fun v hv=>(V1.mp nd).1 (rN hv).1,if_pos hk];simp
  | p::P,w::vs,i+1,m,nd,h1,h2,hk=>by
    show vM kindOf ((p,w)::P.zip vs) m x=_;unfold vM;exact KB (i:=i) (V1.mp nd).2 (by simpa using h1) (by simpa using h2) hk
theorem KD{kindOf:Str->Option NameKind}{v:Value}:∀{P:List Str} {vs:List Value} {i:Nat} {m:Str->Option Value},P.Nodup->P[i]?=some x->vs[i]?=some v->kindOf x≠some .local ->
    vN kindOf (P.zip vs) m x=some v
  | [],_,_,_,_,h,_,_=>by simp at h
  | _::_,[],_,_,_,_,h,_=>by simp at h
  | p::P,w::vs,0,m,nd,h1,h2,hk=>by
    simp at h1 h2;subst h1;subst h2;show vN kindOf ((p,w)::P.zip vs) m p=_;unfold vN;rw[KC fun v hv=>(V1.mp nd).1 (rN hv).1,if_neg hk];simp
  | p::P,w::vs,i+1,m,nd,h1,h2,hk=>by
    show vN kindOf ((p,w)::P.zip vs) m x=_;unfold vN;exact KD (i:=i) (V1.mp nd).2 (by simpa using h1) (by simpa using h2) hk
def start(N:List Str)(vs:List V):St:=vs.map some++D1 (N.length - vs.length) none
def Mj(CX:YD)(P:E5)(w:G3)(K:W.Frag)(mg:Str->Option Value)(base:F7)(N:List Str)(qual:Str)(scope:N1)(f:B5)(cd:Value)(A:F3)(outer:List Env)(s:A6)(H:Hp)(E:XK):Cx where
 prog:=P
 w:=w
 K:=K
 mg:=mg
 base:=base
 A:=A.deeper (rh qual scope s.heap.objs.size f cd)
 N:=N
 wz:=s
 H₀:=H
 env:=rh qual scope s.heap.objs.size f cd
 outer:=outer
 stack:=rh qual scope s.heap.objs.size f cd::outer
 ex:=[]
 calm:=true
 fn:=fun _=>true
 pn:=[]
 xe:=fun e s'=>B7 (C9 P w) (A.deeper (rh qual scope s.heap.objs.size f cd)) (leaving (rh qual scope s.heap.objs.size f cd) e) (fun _ s''=>CX outer H s E e s'') (fun e' s''=>CX outer H s E e' s'') s'
theorem Ms{sc:N1}{n:Nat}(h:sc.names.lookup x=some .cell):∃c,(M5 n sc.names []).lookup x=some c:=by
 have q:=W.cellsFrom_some sc.names n [] (.inl h);exact O5.mp q
theorem SM{CX:YD}{P:E5}{w:G3}{K:W.Frag}{mg:Str->Option Value}{base:F7}{N ps:List Str}{qual:Str}{scope:N1}{f:B5}{cd:Value}{A:F3}{outer:List Env}{s s1:A6}{H:Hp}{E:XK}{us:List Value}{vs:List V}
    (S:xx N ps scope) (hd:A.handled=none) (e0:zBJ P w K mg base A outer s H) (hl:vs.length=ps.length) (r:AH vs us)
    (x:InCallC s s.heap.objs.size (vM (rh qual scope s.heap.objs.size f cd).kindOf (ps.zip us) fun _=>none) (M5 (s.heap.objs.size+1) scope.names []) (vN (rh qual scope s.heap.objs.size f cd).kindOf (ps.zip us) fun _=>none) s1) :
    Inv (Mj CX P w K mg base N qual scope f cd A outer s H E) [] (start N vs) H s1:=by
  have yJ:ps.length<=N.length:=by have:=congrArg O8 S.pre;rw[R6] at this;omega
  obtain⟨h1,tk,rfl,hk⟩:=x.done;have noA:∀b:B5,b∉(Mj CX P w K mg base N qual scope f cd A outer s H E).ex:=fun b z=>absurd (show b∈([]:List B5) from z) (by simp)
  refine⟨⟨e0.mod,S.kind,rfl,rfl,B0 _,fun y z c h1 h2=>?_,fun y hy=>?_,fun y c _ h=>?_,fun _=>hd,Around.frames_deeper e0.frames,.inr ⟨rfl,rfl⟩,fun b z=>absurd z (noA b),e0.bs,e0.bsz,fun b _ _=>noA b,fun b z=>absurd z (noA b),e0.yK,e0.frf⟩,
    rfl,e0.bare,Un.kept hk,⟨_,x.toInCall.ns,fun i y v h1 h2 h3=>?_⟩,fun y c h=>⟨_,x.cell y c h⟩,e0.wb.fresh (B0 _),fun y c h=>?_,fun p hp=>absurd (show p∈([]:List (B5×Obj)) from hp) (by simp),e0.wb.kept hk,?_⟩
  · exact name_of_addr x.apart (F5 h1) (F5 h2)
  · have hy:scope.names.lookup y=some .cell\/scope.names.lookup y=some .free:=hy;rcases hy with hy | hy
    · exact Ms hy
    · exact absurd rfl (S.zBi _ (F5 hy))
  · exact R1 (x.above y c (F5 h))
  · have hi:i < vs.length:=by
      unfold start at h2
      by_cases hi:i < vs.length
      · exact hi
      · rw[qD (by simpa using hi)] at h2;rw[qp] at h2;split at h2<;>cases h2
    have ha:vs[i]?=some v:=by
      unfold start at h2;rw[J9 (by simpa using hi),C5] at h2;cases e:vs[i]? with
      | none=>rw[e] at h2;cases h2
      | some a=>rw[e] at h2;cases h2;rfl
    obtain⟨u,hu,rv⟩:=r.get ha;have hp:ps[i]?=some y:=by
      rw[<- S.pre,qd (by omega)];exact h1
    have ndP:ps.Nodup:=by rw[<- S.pre];exact S.nd.sublist (List.take_sublist _ _)
    refine⟨u,rv,?_⟩;rcases S.par y (M6 hp) with k | k
    · exact .inl ⟨k,KB ndP hp hu k⟩
    · obtain⟨c,e⟩:=Ms (n:=s.heap.objs.size+1) k;refine .inr ⟨.inl k,c,e,?_⟩;have q:=x.cell y c e;rw[KD ndP hp hu (by show scope.names.lookup y≠_;rw[k];decide)] at q;exact q
  · exact e0.wb.fresh (R1 (x.above y c (F5 h)))
  · unfold start;show _=N.length;rw[D2,A8,List.length_replicate];omega
theorem lF{CX:YD}{P:E5}{w:G3}{K:W.Frag}{mg:Str->Option Value}{base:F7}{k:Nat}{f:B5}{name qual:Str}{params:Arguments}{body:List M4}{scope:N1}{dV kV doc pm xB ct oc:Value}{an od:Option B5}
    {osl:Array (Option Value)} {N ps:List Str} {sp:Sp} (lk:K.lookup f=some ⟨oc,od,.func (W.fnOf name qual params body scope dV kV doc pm an xB ct),osl⟩) (hcd:W.codeIn K xB qual=true) (S:xx N ps scope)
    (len:∀vs H Q E,sp vs H Q E->vs.length=ps.length)
    (zAo:∀(A:F3) (outer:List Env) (s:A6) (H:Hp) (vs:List V) (Q:VK) (E:XK),wo k (A.deeper (rh qual scope s.heap.objs.size f xB))->sp vs H Q E ->
      ∃t,EA (Mj CX P w K mg base N qual scope f xB A outer s H E) body t/\t { nx:=fun _ H'=>Q .wa H',rt:=Q } (start N vs) H) :
    xU P w K mg base CX (k+1) f (W.fnOf name qual params body scope dV kV doc pm an xB ct) ps sp:=by
  refine⟨len,fun A outer s H args us vs Q E hr e0 hb r hsp=>?_⟩;have hl:=len _ _ _ _ hsp;have KX:K.In s.heap:=e0.mod.kin.keeps fun b o e=>(e0.bs b o e).1
  have lim:s.heap.NoLimit:=e0.mod.nolimit.keeps fun b o e=>(e0.bs b o e).1
  have zCU:∀y∈ps.zip us,scope.names.lookup y.1=some .local\/(scope.names.lookup y.1=some .cell/\((M5 (s.heap.objs.size+1) scope.names []).lookup y.1).isSome=true):=fun⟨n,v⟩ hy=>by
    rcases S.par n (rN hy).1 with q | q
    · exact .inl q
    · exact .inr ⟨q,W.cellsFrom_some _ _ _ (.inl q)⟩
  refine codeAny_call_function hr.depth (KX _ _ lk) rfl S.co S.gen rfl (W.codeRec_of KX hcd) (hb _ _ _ _ ?_);refine wpAny_newFunctionEnv_cells S.kind zCU fun env he s1 x=>?_
  subst he;refine⟨lim.keeps x.toInCall.keep,codeAny_func ?_⟩;obtain⟨t,ht,hq⟩:=zAo A outer s H vs Q E (hr.deeper _) hsp;have I:Inv (Mj CX P w K mg base N qual scope f xB A outer s H E) [] (start N vs) H s1:=SM S hr.hd e0 hl r x;refine R8 (ht [] s1 (start N vs) H _ I hq) (fun fl s' hs=>?_) fun e s' hs=>hs
  have fin:∀{σ':St} {H':Hp} {v:V} {u:Value},Inv (Mj CX P w K mg base N qual scope f xB A outer s H E) [] σ' H' s'->RelV v u->Q v H'->CE outer P w H s Q u s':=
    fun{σ' H' v u} J rv q=>⟨v,H',J.os,J.bare,J.base,J.wb,rv,q⟩
  cases fl with
  | ret u =>
    obtain⟨v,σ',H',J,rv,q⟩:=hs;exact fin J rv q
  | next =>
    obtain⟨σ',H',J,q⟩:=hs;exact fin (v:=V.wa) (u:=K1) J rfl q
  | brk =>
    obtain⟨_,_,_,q⟩:=hs;exact F1 q
  | cont =>
    obtain⟨_,_,_,q⟩:=hs;exact F1 q
section
variable {X:Cx} {x:Str} {p pos:Pos} {e:Expr} {es:List Expr} {t:TA} {id T:String} {r:List V->Hp->VK->Prop}
abbrev oj(r:List V->Hp->VK->Prop)(t:TA):TE:=fun σ H Q=>t σ H fun vs H1=>r vs H1 Q
theorem VV(hc:As X (.builtin id) r)(hg:Gl X x)(hm:X.mg x=none)(hv:N0 x=some (.builtin id))(ha:PA X (e::es) t)(hn:x ≠ "__name__" := by decide)(hdb:(x == ("__debug__" : Str))=false:=by decide)
    (he:E6 (e::es) X.env=(false,Q7 e X.env)::E6 es X.env:=by rfl) (yJ:(T5 pos (E6 es X.env)).any (·.1)=false:=by rfl):PE X (.Call (.Name x p) (e::es) [] pos) (oj r t):=by
  intro pins s σ H Q I h;refine S0 (DT I hg hm hv ?_ hn hdb);exact i8 (BB (ha pos pins s σ H _ I h) fun us s1 ⟨vs,H1,I1,r1,q1⟩=>hc pins s1 σ H1 vs us Q I1 r1 q1) he yJ
theorem Rm(hc:As X (.type T) r)(hg:Gl X x)(hm:X.mg x=none)(hv:N0 x=some (.type T))(ha:PA X (e::es) t)(hn:x ≠ "__name__" := by decide)(hdb:(x == ("__debug__" : Str))=false:=by decide)
    (he:E6 (e::es) X.env=(false,Q7 e X.env)::E6 es X.env:=by rfl) (yJ:(T5 pos (E6 es X.env)).any (·.1)=false:=by rfl):PE X (.Call (.Name x p) (e::es) [] pos) (oj r t):=by
  intro pins s σ H Q I h;refine S0 (DT I hg hm hv ?_ hn hdb);exact K3 (BB (ha pos pins s σ H _ I h) fun us s1 ⟨vs,H1,I1,r1,q1⟩=>hc pins s1 σ H1 vs us Q I1 r1 q1) he yJ
end
end L2
namespace HT
open PySem PyProof.Rows
noncomputable def lexLt:List Int->List Int->Bool
 | [],[]=>false
 | [],_::_=>true
 | _::_,[]=>false
 | x::xs,y::ys=>if x=y then lexLt xs ys else decide (x < y)
theorem xO(x y:Int)(xs ys:List Int):lexLt (x::xs) (y::ys)=if x=y then lexLt xs ys else decide (x < y):=rfl
theorem yk:lexLt [] []=false:=rfl
theorem yT(y:Int)(ys:List Int):lexLt [] (y::ys)=true:=rfl
theorem yU(x:Int)(xs:List Int):lexLt (x::xs) []=false:=rfl
section
open PySem.SeqAt
open PySem.AutoSeq1 (wpAny_loadPart')
open PySem.MeetsSeq PySem.MeetsSeq2 PySem.MeetsSeq3
end
section
variable {prog:E5} {w:G3} {A:F3} {E:Value->A6->Prop} {s:A6}
theorem zBH{t b:B5}{vs ws:List Value}{Q:Value->A6->Prop}(ht:IsTup s.heap t vs.toArray)(hb:IsTup s.heap b ws.toArray)(hv:vs≠[])
    (h1:ws=[]->Q (.ref t) s) (h2:ws≠[]->Q (.ref s.heap.objs.size) { s with heap:=s.heap.push { cls:=.type "tuple", data:=.seq (vs++ws).toArray } })
    (hsz:vs.length+ws.length<=sizeLine):B7 (C9 prog w) A (N3 .Add (.ref t) (.ref b)) Q E s:=by
  obtain⟨⟨cls,dd,data,sl⟩,ho,hc,n,hd⟩:=id ht;obtain⟨⟨zDf,dd2,data2,sl2⟩,ho2,hc2,n2,hd2⟩:=id hb;simp only at hc hd hc2 hd2;subst hc hd hc2 hd2;have e:vs.toArray++ws.toArray=(vs++ws).toArray:=by simp
  by_cases hw:ws=[]
  · exact tX ⟨_,ho,rfl⟩ ⟨_,ho2,rfl⟩ qq sS Z0 Y5 (X4 _ _)
      (tuple_addW1 t b vs.toArray ws.toArray n n2 dd dd2 sl sl2 (by simpa using hv) (by simp[hw])) ⟨ho,ho2,h1 hw⟩
  · refine tX ⟨_,ho,rfl⟩ ⟨_,ho2,rfl⟩ qq sS Z0 Y5 (X4 _ _)
      (tuple_addW2 t b vs.toArray ws.toArray n n2 dd dd2 sl sl2 (by simpa using hv) (by simpa using hw) (by rw[A7,A7];exact hsz)) ⟨ho,ho2,?_⟩
    rw[e];exact h2 hw
noncomputable def wk(n d:Nat):Option Int->Nat
 | none=>d
 | some v=>if v < 0 then(v+(n:Int)).toNat else min v.toNat n
theorem zr(n d:Nat)(hd:d<=n)(o:Option Int):wk n d o<=n:=by
 cases o with
 | none=>exact hd
 | some v =>
  show(if v < 0 then(v+(n:Int)).toNat else min v.toNat n)<=n
  by_cases hv:v < 0
  ·rw[if_pos hv];omega
  ·rw[if_neg hv];exact Nat.min_le_right _ _
theorem Qu(v:Int)(n d:Nat):(if v < 0 then max (v+(n:Int)) 0 else min v (n:Int))=((wk n d (some v):Nat):Int):=by
 show(if v < 0 then max (v+(n:Int)) 0 else min v (n:Int))=(((if v < 0 then(v+(n:Int)).toNat else min v.toNat n):Nat):Int)
 by_cases hv:v < 0
 ·simp only[if_pos hv];omega
 ·simp only[if_neg hv];omega
theorem PL(lo hi:Option Int)(n:Nat):X1 lo hi 1 (n:Int)=(((wk n 0 lo:Nat):Int),((wk n n hi:Nat):Int)):=by
 have h1:¬((1:Int) < 0):=by omega
 unfold X1;simp only[h1,if_false];refine Prod.ext ?_ ?_
 ·cases lo with
  | none=>rfl
  | some v=>exact Qu v n 0
 ·cases hi with
  | none=>rfl
  | some v=>exact Qu v n n
theorem OI(i j:Nat):S7 (i:Int) (j:Int) 1=j - i:=by
 unfold S7;have h1:(1:Int) > 0:=by omega
 simp only[h1,if_true,Int.ediv_one];split<;>omega
theorem HP{v:Value}{o:Option Int}{Q:Option Int->A6->Prop}(p:sg v o)(h:Q o s):B7 (C9 prog w) A (uy v) Q E s:=by
 cases p with
 | none=>exact slicePart_none h
 | int i t=>exact slicePart_int h
theorem xK{sl:B5}{vl vu:Value}{lo hi:Option Int}{n:Nat}{Q:Int×Int×Nat->A6->Prop}(hs:s.heap.IsSliceOf sl vl vu .none)(pl:sg vl lo)(pu:sg vu hi)
    (h:Q (((wk n 0 lo:Nat):Int),1,wk n n hi - wk n 0 lo) s):B7 (C9 prog w) A (qE (.ref sl) (pure (n:Int))) Q E s:=by
  obtain⟨os,hos,hcs,hds⟩:=id hs;unfold qE vb;refine A0 (A0 (L7 hos hds (x:=vl) rfl (A0 (L7 hos hds (x:=vu) rfl (A0 (L7 hos hds (x:=.none) rfl (A4 ?_)))))));refine A0 (slicePart_none ?_);show B7 _ _ (if((1:Int) == 0)=true then _ else _) _ _ s;rw[if_neg (by decide)];refine A0 (HP pl (A0 (HP pu (A0 (A4 ?_)))));show B7 _ _ (match X1 lo hi 1 (n:Int) with | (lo,hi)=>pure (lo,(1:Int),S7 lo hi 1)) _ _ s;rw[PL lo hi n];show B7 _ _ (pure (((wk n 0 lo:Nat):Int),(1:Int),S7 ((wk n 0 lo:Nat):Int) ((wk n n hi:Nat):Int) 1)) _ _ s;rw[OI];exact A4 h
theorem VN(xs:Array Value)(i k:Nat):((B3 k).filterMap fun(m:Nat)=>xs[((i:Int)+(m:Int) * 1).toNat]?).toArray=((xs.toList.drop i).take k).toArray:=by
 have e:(fun(m:Nat)=>xs[((i:Int)+(m:Int) * 1).toNat]?)=fun m=>xs[i+m]?:=by
  funext m;have:((i:Int)+(m:Int) * 1).toNat=i+m:=by omega
  rw[this]
 rw[e];have:=pick_run xs i k;rw[sh] at this;have e2:((fun x=>xs[x]?)∘fun x=>i+x)=fun m=>xs[i+m]?:=rfl
 rw[e2] at this;rw[this]
theorem xt{t sl:B5}{items:Array Value}{vl vu:Value}{lo hi:Option Int}{Q:Value->A6->Prop}(ht:IsTup s.heap t items)(hs:s.heap.IsSliceOf sl vl vu .none)(pl:sg vl lo)(pu:sg vu hi)
    (hw:¬(wk items.size 0 lo=0/\wk items.size items.size hi=items.size))
    (h:Q (.ref s.heap.objs.size) { s with heap:=s.heap.push { cls:=.type "tuple", data:=.seq ((items.toList.drop (wk items.size 0 lo)).take (wk items.size items.size hi - wk items.size 0 lo)).toArray } })
    (hsz:items.size<=sizeLine):B7 (C9 prog w) A (rD (.ref t) (.ref sl)) Q E s:=by
  have zAD:sizeOk (.seq ((items.toList.drop (wk items.size 0 lo)).take (wk items.size items.size hi - wk items.size 0 lo)).toArray):=by
    show((items.toList.drop (wk items.size 0 lo)).take (wk items.size items.size hi - wk items.size 0 lo)).toArray.size<=sizeLine;rw[A7,R6,i9,R0];omega
  have hj:wk items.size items.size hi<=items.size:=zr _ _ (B0 _) hi;obtain⟨os,hos,hcs,hds⟩:=id hs
  have hTs:s.TypeIs (.ref sl) "slice" := ⟨os,hos,hcs⟩
  unfold rD
  try with_reducible refine E8 ?_
  first | refine A0 (A4 ?_) | skip
  refine A0 (tY ht.typeIs (by decide) ?_)
  refine A0 (J5 (name:=U7 "__getitem__") ht.typeIs J3
    (F9 J3 ht.typeIs sM ?_ (si _ _)))
  show B7 _ _ (W2 (.ref t) >>= _) _ _ s;refine A0 (tupleItemsOf_ ht ?_);refine A0 (M1 hTs ?_);rw[if_pos (by decide)];refine A0 (xK hs pl pu ?_);have hno:¬((((wk items.size 0 lo:Nat):Int) == 0 && (1:Int) == 1 && (wk items.size items.size hi - wk items.size 0 lo) == items.size)=true):=by
    intro q;rw[A5,A5] at q;have q1:((wk items.size 0 lo:Nat):Int)=0:=eq_of_beq q.1.1;have q2:wk items.size items.size hi - wk items.size 0 lo=items.size:=eq_of_beq q.2;exact hw ⟨by omega,by omega⟩
  show B7 _ _ (if(((wk items.size 0 lo:Nat):Int) == 0 && (1:Int) == 1 && (wk items.size items.size hi - wk items.size 0 lo) == items.size)=true then _ else _) _ _ s;rw[if_neg hno,VN]
  first
    | exact A0 (m:=T6 _) (G7 (A4 ⟨_,rfl,A4 h⟩) zAD)
    | exact A0 (m:=T6 _) (G7 (A0 (A4 (A4 ⟨_,rfl,A4 h⟩))) zAD)
    | exact A0 (A0 (m:=T6 _) (G7 (A4 (A4 ⟨_,rfl,A4 h⟩)) zAD))
    | exact A0 (A0 (m:=T6 _) (G7 (A4 ⟨_,rfl,A4 h⟩) zAD))
end
end HT
namespace L2
open PySem PySem.Spec PyProof.Rows
abbrev TO:=St->Hp->(Option Int->Hp->Prop)->Prop
def PO(X:Cx)(e:Option Expr)(t:TO):Prop:=
 ∀(pins:List (B5×Obj)) (s:A6) (σ:St) (H:Hp) (Q:Option Int->Hp->Prop),Inv X pins σ H s->t σ H Q ->
  B7 (C9 X.prog X.w) X.A (evalPart e X.env) (fun u s'=>∃o H',Inv X pins σ H' s'/\sg u o/\Q o H') X.xe s
abbrev Yb:TO:=fun _ H Q=>Q none H
abbrev jH(t:TE):TO:=fun σ H Q=>t σ H fun x H1=>∃i,x=.int i/\Q (some i) H1
theorem Oa{ns:List Int}:∀{us:List Value},AH (ns.map V.int) us->W7 us ns:=by
 induction ns with
 | nil=>intro us r;rw[W8] at r;cases r;exact .nil
 | cons n ns ih =>
  intro us r;rw[D3] at r;cases r with
  | cons r1 r2 =>
   obtain⟨t,e⟩:=r1;subst e;exact .cons n t (ih r2)
variable {xs:List V}
section
variable {X:Cx} {e:Expr} {te:TE} {lo hi:Option Expr} {tl th:TO} {pos p2:Pos}
theorem ZN:PO X none Yb:=by
 intro pins s σ H Q I h;rw[evalPart_none];exact A4 ⟨none,H,I,.none,h⟩
theorem ZM(h:PE X e te):PO X (some e) (jH te):=by
 intro pins s σ H Q I hw;rw[evalPart_some];refine BB (h pins s σ H _ I hw) fun u s1 ⟨x,H1,I1,r1,q1⟩=>?_
 obtain⟨i,rfl,q⟩:=q1;obtain⟨t,rfl⟩:=r1;exact⟨some i,H1,I1,.int i t,q⟩
def To(X:Cx)(r:V->Option Int->Option Int->Hp->VK->Prop):Prop:=
 ∀(pins:List (B5×Obj)) (s:A6) (σ:St) (H:Hp) (x:V) (v vl vu:Value) (lo hi:Option Int) (sl:B5) (Q:VK),Inv X pins σ H s->RelV x v->s.heap.IsSliceOf sl vl vu .none->sg vl lo->sg vu hi->r x lo hi H Q ->
  ∃T id,sj (.type T) "__getitem__" = pure (some (.builtin id))/\s.TypeIs v T/\B7 (C9 X.prog X.w) X.A (rD v (.ref sl)) (EP X pins σ Q) X.xe s
theorem To.or{r r':V->Option Int->Option Int->Hp->VK->Prop}(h:To X r)(h':To X r'):To X (fun x lo hi H Q=>r x lo hi H Q\/r' x lo hi H Q):=by
 intro pins s σ H x v vl vu lo hi sl Q I rx hs pl pu q;rcases q with q | q
 ·exact h pins s σ H x v vl vu lo hi sl Q I rx hs pl pu q
 ·exact h' pins s σ H x v vl vu lo hi sl Q I rx hs pl pu q
abbrev oZ(r:V->Option Int->Option Int->Hp->VK->Prop)(te:TE)(tl th:TO):TE:=fun σ H Q=>te σ H fun x H1=>tl σ H1 fun l H2=>th σ H2 fun u H3=>r x l u H3 Q
theorem VR{r:V->Option Int->Option Int->Hp->VK->Prop}(hr:To X r)(he:PE X e te)(hl:PO X lo tl)(hu:PO X hi th):PE X (.Subscript e (.Slice lo hi none p2) pos) (oZ r te tl th):=by
 intro pins s σ H Q I h;refine Subscript_ (BB (he pins s σ H _ I h) fun v s1 ⟨x,H1,I1,r1,q1⟩=>?_);refine wpAny_Slice (BB (hl pins s1 σ H1 _ I1 q1) fun vl s2 ⟨l,H2,I2,pl,q2⟩=>BB (hu pins s2 σ H2 _ I2 q2) fun vu s3 ⟨u,H3,I3,pu,q3⟩=>?_);rw[evalPart_none];refine A4 ?_
 have I4:Inv X pins σ H3 { s3 with heap:=s3.heap.push { cls:=.type "slice", data:=.fields #[vl,vu,.none] } }:=I3.kept (t':=s3.toks) fun b ob q=>A2 _ q
 obtain⟨T,id,hT,ht,hg⟩:=hr pins { s3 with heap:=s3.heap.push { cls:=.type "slice", data:=.fields #[vl,vu,.none] } } σ H3 x v vl vu l u s3.heap.objs.size Q I4 r1 (wL ..) pl pu q3
 show B7 (C9 X.prog X.w) X.A (qe e (.Slice lo hi none p2) v (.ref s3.heap.objs.size)) (EP X pins σ Q) X.xe { s3 with heap:=s3.heap.push { cls:=.type "slice", data:=.fields #[vl,vu,.none] } }
 exact tail_any (ops:=[.ref s3.heap.objs.size,v]) ht hT hg (by with_unfolding_all rfl)
def FO(xs:List V)(lo hi:Option Int):List V:=(xs.drop (HT.wk xs.length 0 lo)).take (HT.wk xs.length xs.length hi - HT.wk xs.length 0 lo)
theorem Ga(xs:List V)(lo hi:Option Int):(FO xs lo hi).length<=xs.length:=by
 unfold FO;rw[R6,i9];omega
def jh(K:W.Frag):V->Option Int->Option Int->Hp->VK->Prop:=fun x lo hi H Q=>∃a xs,x=.ref a/\DL K H a xs /\
 ¬(HT.wk xs.length 0 lo=0/\HT.wk xs.length xs.length hi=xs.length)/\∀p,H p=none->Q (.ref p) (upd H p (.tup (FO xs lo hi)))
theorem dr:To X (jh X.K):=by
 intro pins s σ H x v vl vu lo hi sl Q I rx hs pl pu h;obtain⟨a,xs,rfl,hx,hw,q⟩:=h;cases rx;obtain⟨its,r,ht,hz⟩:=I.tuple hx;have hlen:its.toArray.size=xs.length:=by rw[A7];exact r.length.symm
 refine⟨"tuple", _,J3.lookup,ht.typeIs,?_⟩
 refine HT.xt ht hs pl pu (by rw[hlen];exact hw) ?_ (by rw[hlen];exact hz);rw[hlen];refine⟨.ref s.heap.objs.size,_,I.laid (t':=s.toks) (o:=.tup (FO xs lo hi)) (fun b ob q=>A2 _ q) (B0 _) ?_,rfl,q _ (I.wb.fresh (B0 _))⟩;exact⟨B9 (Ga xs lo hi) hz,_,(r.drop (HT.wk xs.length 0 lo)).take (HT.wk xs.length xs.length hi - HT.wk xs.length 0 lo),Gi.new _ _⟩
def pX(K:W.Frag):R2:=fun x y H Q=>∃a b ns ms,x=.ref a/\y=.ref b/\DL K H a (ns.map V.int)/\DL K H b (ms.map V.int)/\Q (.bl (HT.lexLt ns ms)) H
def bh(K:W.Frag):R2:=fun x y H Q=>∃a b xs ys,x=.ref a/\y=.ref b/\DL K H a xs/\DL K H b ys/\xs≠[]/\xs.length+ys.length<=sizeLine /\
 (ys=[]->Q (.ref a) H)/\(ys≠[]->∀p,H p=none->Q (.ref p) (upd H p (.tup (xs++ys))))
theorem AH.zA{us:List Value}(r:AH xs us):us=[]↔xs=[]:=by
 cases r with
 | nil=>simp
 | cons _ _=>simp
theorem Zb:CY X (N3 .Add) (bh X.K):=by
 intro pins s σ H x y v u Q I rx ry h;obtain⟨a,b,xs,ys,rfl,rfl,ha,hb,hx,hz,q1,q2⟩:=h;cases rx;cases ry;obtain⟨its,r1,p1,_⟩:=I.tuple ha;obtain⟨wg,r2,p2,_⟩:=I.tuple hb;refine HT.zBH p1 p2 (fun z=>hx (r1.zA.mp z)) (fun z=>⟨.ref a,H,I,rfl,q1 (r2.zA.mp z)⟩) (fun z=>?_) (by rw[<- r1.length,<- r2.length];exact hz);refine⟨.ref s.heap.objs.size,_,I.laid (t':=s.toks) (o:=.tup (xs++ys)) (fun b ob q=>A2 _ q) (B0 _) ?_,rfl,q2 (fun w=>z (r2.zA.mpr w)) _ (I.wb.fresh (B0 _))⟩;exact⟨by rw[D2];exact hz,_,r1.append r2,Gi.new _ _⟩
end
noncomputable def Tj(n:Nat)(i:Int):Option Nat:=if 0<=i then(if i < n then some i.toNat else none) else if -(n:Int)<=i then some (i+n).toNat else none
variable {α:Type}
def Gc(xs:List α)(i:Int):Option α:=(Tj xs.length i).bind fun j=>xs[j]?
theorem QZ{n:Nat}{i:Int}{j:Nat}(h:Tj n i=some j):uT i n=some j/\j < n/\-(n:Int)<=i/\i < n:=by
 unfold Tj at h
 by_cases h0:0<=i
 ·rw[if_pos h0] at h
  by_cases h1:i < n
  ·rw[if_pos h1] at h;have e:i.toNat=j:=D5 h;exact⟨by rw[um h0 h1,e],by omega,by omega,h1⟩
  ·rw[if_neg h1] at h;cases h
 ·rw[if_neg h0] at h
  by_cases h1:-(n:Int)<=i
  ·rw[if_pos h1] at h;have e:(i+n).toNat=j:=D5 h;exact⟨by rw[tZ (by omega) h1,e],by omega,h1,by omega⟩
  ·rw[if_neg h1] at h;cases h
theorem LJ{xs:List α}{i:Int}{v:α}(h:Gc xs i=some v):∃j,uT i xs.length=some j/\xs[j]?=some v/\j < xs.length/\-(xs.length:Int)<=i/\i < xs.length:=by
 unfold Gc at h;cases e:Tj xs.length i with
 | none=>rw[e] at h;cases h
 | some j =>
  rw[e] at h;obtain⟨h1,h2,h3,h4⟩:=QZ e;exact⟨j,h1,h,h2,h3,h4⟩
def RH(b:Expr):Prop:=∀o i,rk b false o i=operate [o,i] (rD o i)
def RJ(X:Cx)(r:R2):Prop:=
 ∀(value slice:Expr) (pins:List (B5×Obj)) (s:A6) (σ:St) (H:Hp) (x y:V) (v u:Value) (Q:VK),Inv X pins σ H s->RelV x v->RelV y u->r x y H Q ->
  rk slice false v u=operate [v,u] (rD v u)->B7 (C9 X.prog X.w) X.A (qe value slice v u) (EP X pins σ Q) X.xe s
def YI(X:Cx)(id:String)(r:V->List V->Hp->VK->Prop):Prop:=
 ∀(pins:List (B5×Obj)) (s:A6) (σ:St) (H:Hp) (x:V) (xs:List V) (v:Value) (us:List Value) (Q:VK),Inv X pins σ H s->RelV x v->AH xs us->r x xs H Q ->
  B7 (C9 X.prog X.w) X.A (call (.builtin id) (v::us)) (EP X pins σ Q) X.xe s
variable {pins:List (B5×Obj)} {s:A6}
section
variable {X:Cx} {a b:Expr} {ta tb:TE} {pos:Pos}
theorem RJ.or{r r':R2}(h:RJ X r)(h':RJ X r'):RJ X (fun x y H Q=>r x y H Q\/r' x y H Q):=by
 intro value slice pins s σ H x y v u Q I rx ry q hs;rcases q with q | q
 ·exact h value slice pins s σ H x y v u Q I rx ry q hs
 ·exact h' value slice pins s σ H x y v u Q I rx ry q hs
theorem YI.or{id:String}{r r':V->List V->Hp->VK->Prop}(h:YI X id r)(h':YI X id r'):YI X id (fun x xs H Q=>r x xs H Q\/r' x xs H Q):=by
 intro pins s σ H x xs v us Q I rx rs q;rcases q with q | q
 ·exact h pins s σ H x xs v us Q I rx rs q
 ·exact h' pins s σ H x xs v us Q I rx rs q
theorem kP{r:R2}(hr:RJ X r)(ha:PE X a ta)(hb:PE X b tb)(hs:RH b):PE X (.Subscript a b pos) (mi r ta tb):=by
 intro pins s σ H Q I h;exact Subscript_ (iU ha hb I h fun v u s2 x y H2 I2 rx ry q=>hr a b pins s2 σ H2 x y v u Q I2 rx ry q (hs _ _))
def jy(K:W.Frag):R2:=fun x y H Q=>∃p xs i v,x=.ref p/\y=.int i/\Ca K H p xs/\Gc xs i=some v/\Q v H
def jv(K:W.Frag):R2:=fun x y H Q=>∃p xs i v,x=.ref p/\y=.int i/\DL K H p xs/\Gc xs i=some v/\Q v H
def jw:R2:=fun x y H Q=>∃z i c,x=.str z/\y=.int i/\z.length<=sizeLine/\Gc z.cps.toList i=some c/\Q (.str ⟨#[c]⟩) H
theorem Zv:RJ X (jy X.K):=by
  intro value slice pins s σ H x y v u Q I rx ry h hs;obtain⟨p,xs,i,z,rfl,rfl,hq,he,q⟩:=h;cases rx;obtain⟨t,rfl⟩:=ry;obtain⟨its,r,pl,hz⟩:=I.list hq;obtain⟨j,h1,h2,h3,h4,h5⟩:=LJ he;obtain⟨w,ew,xo⟩:=r.get h2;have hl:=r.length;have hn:=GI;have fin:EP X pins σ Q w s:=⟨z,H,I,xo,q⟩
  by_cases h0:0<=i
  · have hj:i.toNat=j:=by
      rw[um h0 h5] at h1;exact D5 h1
    exact item_listR pl.isList h0 (by omega) (by rw[hj];simpa using ew) fin hs
  · have hj:(i+(its.toArray.size:Int)).toNat=j:=by
      rw[tZ (by omega) h4] at h1;rw[A7,<- hl];exact D5 h1
    exact rE (x:=w) pl.isList.typeIs td.lookup
      (wpAny_getItem_list_neg (Q:=fun r s'=>r=w/\EP X pins σ Q r s') pl.isList (by omega) (by rw[A7]<;>omega) (by omega) (by rw[hj];simpa using ew) ⟨rfl,fin⟩) hs
theorem gS:RJ X (jv X.K):=by
 intro value slice pins s σ H x y v u Q I rx ry h hs;obtain⟨p,xs,i,z,rfl,rfl,hq,he,q⟩:=h;cases rx;obtain⟨t,rfl⟩:=ry;obtain⟨its,r,pl,hz⟩:=I.tuple hq;obtain⟨j,h1,h2,h3,h4,h5⟩:=LJ he;obtain⟨w,ew,xo⟩:=r.get h2;have hl:=r.length;have hn:=GI;have fin:EP X pins σ Q w s:=⟨z,H,I,xo,q⟩;exact rE (x:=w) pl.typeIs slot_tuple_getitem.lookup
  (getItem_tuple (j:=j) (Q:=fun r s'=>r=w/\EP X pins σ Q r s') pl (by omega) (by omega) (by rw[A7,<- hl];exact h1) (by simpa using ew) ⟨rfl,fin⟩) hs
theorem gT:RJ X jw:=by
 intro value slice pins s σ H x y v u Q I rx ry h hs;obtain⟨z,i,c,rfl,rfl,hz,he,q⟩:=h;obtain⟨t,rfl⟩:=rx;obtain⟨t',rfl⟩:=ry;obtain⟨j,h1,h2,h3,h4,h5⟩:=LJ he;have hl:z.cps.toList.length=z.length:=by simp[Str.length]
 rw[hl] at h1 h4 h5;have hn:=GI;exact tail_any (vO s z t) slot_str_getitem.lookup (getItem_str (c:=c) (by
  have e1:decide (i < -(2 ^ 63:Int))=false:=decide_eq_false (by omega);have e2:decide (i >= 2 ^ 63)=false:=decide_eq_false (by omega);rw[e1,e2,Bool.or_false]) (by rw[h1];simpa using h2) ⟨.str ⟨#[c]⟩,H,I.tok _,⟨_,rfl⟩,q⟩) hs
def eQ(K:W.Frag):R2:=fun x y H Q=>jy K x y H Q\/jv K x y H Q\/jw x y H Q
theorem gU:RJ X (eQ X.K):=Zv.or (gS.or gT)
theorem OS(its:List Value)(n j:Nat)(u:Value):F2 (·.setIfInBounds j u) { cls:=.type "list", data:=.seq its.toArray n }={ cls:=.type "list", data:=.seq (its.set j u).toArray n }:=by
 simp[F2]
theorem Inv.lst{σ:St}{H:Hp}{p:B5}(I:Inv X pins σ H s)(h:H p=some (.lst xs)) :
    ∃(its:List Value) (n:Nat),AH xs its/\s.heap.get? p=some { cls:=.type "list", data:=.seq its.toArray n }/\xs.length<=sizeLine:=by
  obtain⟨z,its,n,r,e⟩:=I.wb p _ h;exact⟨its,n,r,e,z⟩
theorem Inv.zBk{σ:St}{H:Hp}{p:B5}{ys:List V}{its its':List Value}{n n':Nat}{f:Obj->Obj}(I:Inv X pins σ H s)(h:H p=some (.lst xs))
    (ho:s.heap.get? p=some { cls:=.type "list", data:=.seq its.toArray n }) (hf:f { cls:=.type "list", data:=.seq its.toArray n }={ cls:=.type "list", data:=.seq its'.toArray n' }) (r:AH ys its') (hz:ys.length<=sizeLine) (t:Nat) :
    Inv X pins σ (upd H p (.lst ys)) { s with heap:=s.heap.update p f,toks:=t }:=by
  have e:(s.heap.update p f).get? p=some { cls:=.type "list", data:=.seq its'.toArray n' }:=by
    rw[K2 f ho (by rw[hf]<;>rfl),hf]
  refine I.write (x:=p) (e:=p) (by rw[h];trivial) (.inl rfl) (fun b u hb q=>(N4 _ _ (Ne.symm hb)).trans q) ⟨_,e⟩ ?_;exact⟨hz,its',n',r,e⟩
def Ur:V->V->V->Hp->(Hp->Prop)->Prop:=fun o i v H Q=>∃p xs k j,o=.ref p/\i=.int k/\H p=some (.lst xs)/\Tj xs.length k=some j/\Q (upd H p (.lst (xs.set j v)))
theorem set_list:JH X Ur:=by
  intro pins s σ H o i v ov iv u Q I ro ri rv h;obtain⟨p,xs,k,j,rfl,rfl,hp,hj,q⟩:=h;cases ro;obtain⟨t,rfl⟩:=ri;obtain⟨its,n,r,ho,hz⟩:=I.lst hp;obtain⟨h1,h2,h3,h4⟩:=QZ hj;have hl:=r.length;have hn:=GI;have I':Inv X pins σ (upd H p (.lst (xs.set j v))) { s with heap:=s.heap.update p (F2 (·.setIfInBounds j u)) }:=
    I.zBk hp ho (OS its n j u) (r.set rv j) (by rw[D8];exact hz) s.toks
  by_cases h0:0<=k
  · have hk:k.toNat=j:=by
      rw[um h0 h4] at h1;exact D5 h1
    exact W.ki_setAt ho h0 (by omega) (by rw[A7,<- hl];exact h4) (by rw[hk];exact⟨_,I',q⟩)
  · have hk:(k+(its.toArray.size:Int)).toNat=j:=by
      rw[tZ (by omega) h3] at h1;rw[A7,<- hl];exact D5 h1
    exact W.ki_setBack ho (by omega) (by rw[A7,<- hl];exact h3) (by omega) (by rw[hk];exact⟨_,I',q⟩)
theorem KS(lo hi:Option Int)(n:Nat):(Y6 lo hi none n).1=((HT.wk n 0 lo:Nat):Int)/\(Y6 lo hi none n).2.1=((HT.wk n n hi:Nat):Int)/\(Y6 lo hi none n).2.2=1:=by
 refine⟨?_,?_,rfl⟩
 ·cases lo with
  | none=>simp[Y6,HT.wk]
  | some i =>
   simp only[Y6,HT.wk,uU,show(1:Int) > 0 by decide,if_true]
   by_cases h:i < 0
   ·simp only[h,if_true]<;>omega
   ·simp only[h,if_false]<;>omega
 ·cases hi with
  | none=>simp[Y6,HT.wk]
  | some i =>
   simp only[Y6,HT.wk,uU,show(1:Int) > 0 by decide,if_true]
   by_cases h:i < 0
   ·simp only[h,if_true]<;>omega
   ·simp only[h,if_false]<;>omega
theorem Ir(its:List Value)(lo hi:Option Int):slicePick its.toArray lo hi none=((its.drop (HT.wk its.length 0 lo)).take (HT.wk its.length its.length hi - HT.wk its.length 0 lo)).toArray:=by
 obtain⟨h1,h2,h3⟩:=KS lo hi its.toArray.size;unfold slicePick;rw[h1,h2,h3];simp only[sliceRange_one,pick_run,A7]<;>rfl
def jm(K:W.Frag):V->Option Int->Option Int->Hp->VK->Prop:=fun x lo hi H Q=>∃a xs,x=.ref a/\Ca K H a xs/\∀p,H p=none->Q (.ref p) (upd H p (.lst (FO xs lo hi)))
theorem Ym:To X (jm X.K):=by
 intro pins s σ H x v vl vu lo hi sl Q I rx hs pl pu h;obtain⟨a,xs,rfl,hx,q⟩:=h;cases rx;obtain⟨its,r,ht,hz⟩:=I.list hx;have hlen:=r.length
 refine⟨"list", _,td.lookup,ht.isList.typeIs,?_⟩
 refine wpAny_getItem_list_slice ht.isList hs pl pu .none (by simp) ?_ (by rw[A7]<;>omega);rw[Ir,<- hlen];refine⟨.ref s.heap.objs.size,_,I.laid (t':=s.toks) (o:=.lst (FO xs lo hi)) (fun b ob q=>A2 _ q) (B0 _) ?_,rfl,q _ (I.wb.fresh (B0 _))⟩;exact⟨B9 (Ga xs lo hi) hz,_,0,(r.drop (HT.wk xs.length 0 lo)).take (HT.wk xs.length xs.length hi - HT.wk xs.length 0 lo),B4 _ rfl⟩
noncomputable def IJ:V->Bool
 | .wa=>true
 | .bl _=>true
 | .int _=>true
 | .str _=>true
 | _=>false
noncomputable def xT:V->V->Bool
 | .wa,.wa=>true
 | .bl a,.bl b=>a == b
 | .bl a,.int b=>(if a then 1 else 0) == b
 | .int a,.bl b=>a == (if b then 1 else 0)
 | .int a,.int b=>a == b
 | .str a,.str b=>a == b
 | _,_=>false
theorem hU{A:F3}{y x:V}{u v:Value}(ry:RelV y u)(rx:RelV x v)(fy:IJ y=true)(fx:IJ x=true):SeqAt.EqAt A s u v (xT y x):=by
 cases y with
 | wa =>
  cases ry;cases x with
  | wa=>cases rx;exact SeqAt.EqAt.same _
  | bl b=>cases rx;exact SeqAt.EqAt.none_bool b
  | int b=>obtain⟨t,rfl⟩:=rx;exact SeqAt.EqAt.none_int b t
  | str b=>obtain⟨t,rfl⟩:=rx;exact SeqAt.EqAt.none_str b t
  | _=>exact absurd (show false=true from fx) C7
 | bl a =>
  cases ry;cases x with
  | wa=>cases rx;exact SeqAt.EqAt.bool_none a
  | bl b=>cases rx;exact SeqAt.EqAt.bool_bool a b
  | int b=>obtain⟨t,rfl⟩:=rx;exact SeqAt.EqAt.bool_int a b t
  | str b=>obtain⟨t,rfl⟩:=rx;exact SeqAt.EqAt.bool_str a b t
  | _=>exact absurd (show false=true from fx) C7
 | int a =>
  obtain⟨t',rfl⟩:=ry;cases x with
  | wa=>cases rx;exact SeqAt.EqAt.int_none a t'
  | bl b=>cases rx;exact SeqAt.EqAt.int_bool a t' b
  | int b=>obtain⟨t,rfl⟩:=rx;exact SeqAt.EqAt.int_int a t' b t
  | str b=>obtain⟨t,rfl⟩:=rx;exact sV a t' b t
  | _=>exact absurd (show false=true from fx) C7
 | str a =>
  obtain⟨t',rfl⟩:=ry;cases x with
  | wa=>cases rx;exact SeqAt.EqAt.str_none a t'
  | bl b=>cases rx;exact SeqAt.EqAt.str_bool a t' b
  | int b=>obtain⟨t,rfl⟩:=rx;exact sW a t' b t
  | str b=>obtain⟨t,rfl⟩:=rx;exact SeqAt.EqAt.str_str a t' b t
  | _=>exact absurd (show false=true from fx) C7
 | _=>exact absurd (show false=true from fy) C7
theorem Kf:CY X (J0 .NotIn) (fun x y H Q=>∃i j,x=.str i/\y=.str j/\Q (.bl (!(!(P9 j i 0 j.length 1).isEmpty))) H):=by
 intro pins s σ H x y v u Q I rx ry h;obtain⟨i,j,rfl,rfl,q⟩:=h;obtain⟨t,rfl⟩:=rx;obtain⟨t',rfl⟩:=ry;exact notIn_str ⟨.bl _,H,I,rfl,q⟩
theorem As.or{f:Value}{r r':List V->Hp->VK->Prop}(h:As X f r)(h':As X f r'):As X f (fun xs H Q=>r xs H Q\/r' xs H Q):=by
 intro pins s σ H xs us Q I rs q;rcases q with q | q
 ·exact h pins s σ H xs us Q I rs q
 ·exact h' pins s σ H xs us Q I rs q
theorem LD:As X (.type "list") (fun xs H Q=>∃p ys,xs=[.ref p]/\(Ca X.K H p ys\/DL X.K H p ys)/\∀l,H l=none->Q (.ref l) (upd H l (.lst ys))):=by
  intro pins s σ H xs us Q I r h;obtain⟨p,ys,rfl,hq,q⟩:=h;obtain⟨u,rfl,rx⟩:=vals1 r;cases rx;have fin:∀(its:List Value),AH ys its->ys.length<=sizeLine->∀(h':F7) (c':Nat),(∀b o',s.heap.get? b=some o'->h'.get? b=some o') ->
      h'.get? s.heap.objs.size=some { cls:=.type "list", dict:=none,data:=.seq its.toArray c',slots:=#[] }->EP X pins σ Q (.ref s.heap.objs.size) { s with heap:=h' }:=fun its r' hz h' c' kp e =>
    ⟨.ref s.heap.objs.size,_,I.laid (t':=s.toks) kp (B0 _) (show AY X.prog X.w _ h' _ (.lst ys) from⟨hz,its,c',r',e⟩),rfl,q _ (I.wb.fresh (B0 _))⟩
  rcases hq with hq | hq
  · obtain⟨its,r',pl,hz⟩:=I.list hq;have hlen:=r'.length;obtain⟨o,ho,hc,n,hd⟩:=pl.isList;exact call_list_seq p (.inl rfl) ho hc hd (fun h' c' kp e=>fin its r' hz h' c' kp e) (by simp only[A7]<;>omega)
  · obtain⟨its,r',pl,hz⟩:=I.tuple hq;have hlen:=r'.length;obtain⟨o,ho,hc,n,hd⟩:=pl;exact call_list_seq p (.inr rfl) ho hc hd (fun h' c' kp e=>fin its r' hz h' c' kp e) (by simp only[A7]<;>omega)
theorem JC:As X (.type "tuple") (fun xs H Q=>∃p ys,xs=[.ref p]/\((Ca X.K H p ys/\∀l,H l=none->Q (.ref l) (upd H l (.tup ys)))\/(DL X.K H p ys/\Q (.ref p) H))):=by
 intro pins s σ H xs us Q I r h;obtain⟨p,ys,rfl,h⟩:=h;obtain⟨u,rfl,rx⟩:=vals1 r;cases rx;rcases h with⟨hq,q⟩ | ⟨hq,q⟩
 ·obtain⟨its,r',pl,hz⟩:=I.list hq;have hlen:=r'.length;refine call_tuple_list pl.isList (fun h' kp=>?_) (by simp only[A7]<;>omega);have I1:Inv X pins σ H { s with heap:=h' }:=I.kept (t':=s.toks) kp
  have I2:Inv X pins σ (upd H h'.objs.size (.tup ys)) { s with heap:=h'.push { cls:=.type "tuple", data:=.seq its.toArray } }:=
   I1.laid (t':=s.toks) (fun b o e=>A2 _ e) (B0 _) (show AY X.prog X.w _ _ _ (.tup ys) from⟨hz,its,r',Gi.new _ _⟩)
  exact⟨.ref h'.objs.size,_,I2,rfl,q _ (I1.wb.fresh (B0 _))⟩
 ·obtain⟨its,r',pl,hz⟩:=I.tuple hq;exact call_tuple_same pl ⟨.ref p,H,I,rfl,q⟩
def mf(K:W.Frag)(T:String)(x:V)(H:Hp):Prop:=match x with
  | .str _=>T = "str"
  | .int _=>T = "int"
  | .ref p=>(T = "list" /\ ∃xs,Ca K H p xs)\/(T = "tuple" /\ ∃o,K.lookup p=some o/\o.cls=.type "tuple" /\ o.dict=none) \/
      (T = "dict" /\ ((∃wW,H p=some (.dK wW))\/∃wW,H p=some (.dT wW)))\/(T = "set" /\ ∃S n,H p=some (.set S n))
  | _=>False
theorem UA{σ:St}{H:Hp}{T:String}{x:V}{v:Value}(I:Inv X pins σ H s)(r:RelV x v)(ty:mf X.K T x H) :
    s.TypeIs v T/\∀a,v=.ref a->∃ob,s.heap.get? a=some ob/\ob.dict=none:=by
  cases x with
  | str z =>
    obtain⟨t,rfl⟩:=r
    cases(show T = "str" from ty)
    exact⟨vO s z t,fun _ e=>nomatch e⟩
  | int i =>
    obtain⟨t,rfl⟩:=r
    cases(show T = "int" from ty)
    exact⟨rF s i t,fun _ e=>nomatch e⟩
  | ref p =>
    cases r;rcases ty with⟨rfl,xs,hq⟩ | ⟨rfl,o,hk,hc,hd⟩ | ⟨rfl,hk⟩ | ⟨rfl,S,n,hk⟩
    · obtain⟨its,_,pl,_⟩:=I.list hq;refine⟨pl.isList.typeIs,fun a e=>?_⟩;cases e;obtain⟨o,n,e,c,hd,_⟩:=pl;exact⟨o,e,hd⟩
    · refine⟨⟨o,I.zE p o hk,hc⟩,fun a e=>?_⟩;cases e;exact⟨o,I.zE _ o hk,hd⟩
    · have z:∃o,s.heap.get? p=some o/\o.ExactDict:=by
        rcases hk with⟨wW,hk⟩ | ⟨wW,hk⟩
        · obtain⟨_,_,_,_,o,_,_,e,ex,_⟩:=I.wb p _ hk;exact⟨o,e,ex⟩
        · obtain⟨_,_,_,_,o,_,_,e,ex,_⟩:=I.wb p _ hk;exact⟨o,e,ex⟩
      obtain⟨o,e,ex⟩:=z;refine⟨⟨o,e,ex.1⟩,fun a e2=>?_⟩;cases e2;exact⟨o,e,ex.2.1⟩
    · obtain⟨o,_,_,_,e,ex,_⟩:=I.wb p _ hk;refine⟨⟨o,e,ex.1⟩,fun a e2=>?_⟩;cases e2;exact⟨o,e,ex.2.1⟩
  | _=>exact F1 ty
abbrev nO(K:W.Frag)(T:String)(r:V->List V->Hp->VK->Prop)(to:TE):TE:=fun σ H Q=>to σ H fun x H1=>mf K T x H1/\r x [] H1 Q
abbrev jN(K:W.Frag)(T:String)(r:V->List V->Hp->VK->Prop)(to:TE)(t:TA):TE:=fun σ H Q=>to σ H fun x H1=>mf K T x H1/\t σ H1 fun xs H2=>r x xs H2 Q
variable {o e:Expr} {es:List Expr} {to:TE} {t:TA} {name:Str} {apos xI:Pos} {T id:String} {r:V->List V->Hp->VK->Prop}
theorem VX(pa:rG T)(slot:Slot T name id)(hty:vv (.builtin id)=pure (.type "method_descriptor"))(hm:YI X id r)(ho:PE X o to)
    (xR:R4 o name X.env (Q7 o X.env)=Q7 o X.env:=by rfl) (xF:(apos.endLine == xI.line)=true:=by rfl):PE X (.Call (.Attribute o name apos) [] [] xI) (nO X.K T r to):=by
  intro pins s σ H Q I h;refine wpAny_Call_method0_late xR xF (BB (ho pins s σ H _ I h) fun v s1 ⟨x,H1,I1,r1,ty,q1⟩=>?_);obtain⟨h1,h2⟩:=UA I1 r1 ty;exact⟨T,id,pa,slot,hty,h1,h2,Z1 rfl (PySem.evalArgs_none (hm pins s1 σ H1 x [] v [] Q I1 r1 .nil q1))⟩
theorem bq(pa:rG T)(slot:Slot T name id)(hty:vv (.builtin id)=pure (.type "method_descriptor"))(hm:YI X id r)(ho:PE X o to)(ha:PA X (e::es) t)
    (xR:R4 o name X.env (Q7 o X.env)=Q7 o X.env:=by rfl)
    (zBs:((T5 xI (E6 (e::es) X.env)).all (fun x=>!x.1) && (backToKw xI (uo [] X.env)).all (fun x=>x.1.isSome)
      && decide ((e::es).length+([]:List o4).length+(if([]:List o4).isEmpty then 0 else 1) < 30))=true:=by rfl)
    (xF:(apos.endLine == xI.line)=true:=by rfl) (hs:E6 (e::es) X.env=(false,Q7 e X.env)::E6 es X.env:=by rfl) (zu:(T5 xI (E6 es X.env)).any (·.1)=false:=by rfl) :
    PE X (.Call (.Attribute o name apos) (e::es) [] xI) (jN X.K T r to t):=by
  intro pins s σ H Q I h;refine rH xR zBs xF rfl (BB (ho pins s σ H _ I h) fun v s1 ⟨x,H1,I1,r1,ty,q1⟩=>?_);obtain⟨h1,h2⟩:=UA I1 r1 ty;refine⟨T,id,pa,slot,hty,h1,h2,?_⟩;have hA:=ha xI pins s1 σ H1 _ I1 q1;rw[hs] at hA ⊢;refine Z1 (by show(false || (T5 xI (E6 es X.env)).any (·.1))=false;rw[zu]<;>rfl) (rn ?_);exact BB hA fun us s2 ⟨vs,H2,I2,r2,q2⟩=>hm pins s2 σ H2 x vs v us Q I2 r1 r2 q2
end
def dD(X:Cx)(id:String)(r:V->List V->Hp->VK->Prop):Prop:=
 ∀(pins:List (B5×Obj)) (s:A6) (σ:St) (H:Hp) (x:V) (xs:List V) (v:Value) (us:List Value) (Q:VK),Inv X pins σ H s->RelV x v->AH xs us->r x xs H Q ->
  B7 (C9 X.prog X.w) X.A (call (.builtin id) (v::us)) (EP X pins σ Q) X.xe s
theorem AH.one:∀{x:V} {us:List Value},AH [x] us->∃u,us=[u]/\RelV x u
 := by
 intro x us h;cases h with | cons r t=>cases t;exact⟨_,rfl,r⟩
theorem AH.two:∀{x y:V} {us:List Value},AH [x,y] us->∃u v,us=[u,v]/\RelV x u/\RelV y v
 := by
 intro x y us h;cases h with | cons r t=>cases t with | cons q t=>cases t;exact⟨_,_,rfl,r,q⟩
theorem AH.zero:∀{us:List Value},AH [] us->us=[]
 | _,.nil=>rfl
theorem AH.dropLast{us:List Value}(h:AH xs us):AH xs.dropLast us.dropLast:=by
 induction h with
 | nil=>exact .nil
 | cons r t ih =>
  cases t with
  | nil=>exact .nil
  | cons q t'=>exact .cons r ih
theorem AH.rep{xs:List V}{us:List Value}(h:AH xs us):∀k:Nat,AH (D1 k xs).flatten (D1 k us).flatten
 | 0=>.nil
 | k+1=>by
  rw[N8,N8,T1,T1];exact AH.append h (AH.rep h k)
theorem Oj(l:List α):l.eraseIdx (l.length - 1)=l.dropLast:=by
 induction l with
 | nil=>rfl
 | cons a r ih =>
  cases r with
  | nil=>rfl
  | cons b r =>
   have e:(a::b::r).length - 1=((b::r).length - 1)+1:=by
    have h1:(a::b::r).length=r.length+2:=rfl;have h2:(b::r).length=r.length+1:=rfl;omega
   rw[e,List.eraseIdx_cons_succ,ih]
   all_goals rfl
theorem foldl_rep(its:List Value):∀(k:Nat) (acc:List Value),
    sk (fun x1 x2=>x1++x2) acc.toArray (D1 k its.toArray)=(acc++(D1 k its).flatten).toArray
  | 0,acc=>by simp
  | k+1,acc=>by
    have e:acc.toArray++its.toArray=(acc++its).toArray:=by simp
    have e2:(acc++its)++(D1 k its).flatten=acc++(D1 (k+1) its).flatten:=by
      rw[N8,T1,G0]
    rw[<- e2,<- foldl_rep its k (acc++its),<- e,N8,X9]
section
variable {X:Cx} {pins:List (B5×Obj)} {σ:St} {H:Hp} {s:A6} {l b:B5} {xs ys zs:List V}
theorem Inv.zAc{its its':List Value}{n:Nat}{f:Array Value->Array Value}{t':Nat}(I:Inv X pins σ H s)(hH:H l=some (.lst xs))
    (e:s.heap.get? l=some { cls:=.type "list", data:=.seq its.toArray n }) (hf:f its.toArray=its'.toArray) (hv:AH ys its') (hz:ys.length<=sizeLine) :
    Inv X pins σ (upd H l (.lst ys)) { s with heap:=s.heap.update l (F2 f),toks:=t' }:=by
  have q:=uV e f;rw[hf] at q;refine I.write (x:=l) (e:=l) (by rw[hH];exact trivial) (.inl rfl) (fun b' u hb hu=>(N4 s.heap (F2 f) (Ne.symm hb)).trans hu) ⟨_,q⟩ ?_;exact⟨hz,its',_,hv,q⟩
theorem Inv.zCO{its:List Value}{t':Nat}(I:Inv X pins σ H s)(hv:AH ys its)(hz:ys.length<=sizeLine) :
    Inv X pins σ (upd H s.heap.objs.size (.lst ys)) { s with heap:=s.heap.push { cls:=.type "list", data:=.seq its.toArray },toks:=t' }:=
  I.laid (fun _ _ q=>A2 _ q) (B0 _) ⟨hz,its,0,hv,B4 _ rfl⟩
theorem Inv.fresh(I:Inv X pins σ H s):H s.heap.objs.size=none:=I.wb.fresh (B0 _)
theorem Inv.zB(I:Inv X pins σ H s)(hH:H l=some (.lst xs)):xs.length<=sizeLine/\∃(its:List Value) (n:Nat),AH xs its/\xs.length=its.length/\s.heap.get? l=some { cls:=.type "list", data:=.seq its.toArray n }:=by
 obtain⟨z,its,n,r,e⟩:=I.wb l _ hH;exact⟨z,its,n,r,r.length,e⟩
theorem Hs{n:Nat}(h:n<=sizeLine):O6 n=false:=by
 unfold O6;exact decide_eq_false (by omega)
end
section
variable {X:Cx}
def QD:V->List V->Hp->VK->Prop:=fun x vs H Q=>∃l xs y,x=.ref l/\vs=[y]/\H l=some (.lst xs)/\xs.length < sizeLine/\Q .wa (upd H l (.lst (xs++[y])))
theorem SA:dD X "list.append" QD:=by
 intro pins s σ H x vs v us Q I rx rv h;obtain⟨l,xs,y,rfl,rfl,hH,hz,q⟩:=h;cases rx;obtain⟨u,rfl,ru⟩:=rv.one;obtain⟨z,its,n,r,hl,e⟩:=I.zB hH;refine call_meets F.slot_list_append ⟨_,e,rfl⟩ F.entry_list_append (F.args_list_append_2 _ _) (tf l its.toArray n u (by rw[A7];omega)) ⟨e,?_⟩;refine⟨.wa,_,I.zAc (its':=its++[u]) hH e (by simp) (r.append (.cons ru .nil)) ?_,rfl,q⟩;rw[D2,S4];omega
def QC:V->List V->Hp->VK->Prop:=fun x vs H Q=>∃l b xs zs,x=.ref l/\vs=[.ref b]/\H l=some (.lst xs)/\H b=some (.lst zs)/\xs.length+zs.length<=sizeLine/\Q .wa (upd H l (.lst (xs++zs)))
theorem Rz:dD X "list.extend" QC:=by
 intro pins s σ H x vs v us Q I rx rv h;obtain⟨l,b,xs,zs,rfl,rfl,hH,hB,hz,q⟩:=h;cases rx;obtain⟨u,rfl,ru⟩:=rv.one;cases ru;obtain⟨z,its,n,r,hl,e⟩:=I.zB hH;obtain⟨z2,wg,n2,r2,xp,e2⟩:=I.zB hB;have hsz:its.toArray.size+wg.toArray.size<=sizeLine:=by rw[A7,A7];omega
 have zU:¬(!its.toArray.isEmpty && O6 (its.toArray.size+wg.toArray.size))=true:=by
  rw[Hs hsz,qF];exact C7
 refine call_meets F.slot_list_extend ⟨_,e,rfl⟩ F.entry_list_extend (F.args_list_extend_2 _ _)
  (AutoSeq1.list_extend_list_list_0 l its.toArray n b wg.toArray n2 zU (by rw[A7];omega) (by omega)) ⟨e,e2,?_⟩
 refine⟨.wa,_,I.zAc (its':=its++wg) hH e (by simp) (r.append r2) ?_,rfl,q⟩;rw[D2];omega
def nU:V->List V->Hp->VK->Prop:=fun x vs H Q=>∃l xs y,x=.ref l/\vs=[]/\H l=some (.lst xs)/\xs[xs.length - 1]?=some y/\Q y (upd H l (.lst xs.dropLast))
theorem nV:dD X "list.pop" nU:=by
 intro pins s σ H x vs v us Q I rx rv h;obtain⟨l,xs,y,rfl,rfl,hH,hy,q⟩:=h;cases rx;have hus:=rv.zero;subst hus;obtain⟨z,its,n,r,hl,e⟩:=I.zB hH;obtain⟨u,hu,ru⟩:=r.get hy;have hy':its.toArray[its.toArray.size - 1]?=some u:=by
  show its.toArray[its.length - 1]?=some u;rw[<- c9,<- hl];exact hu
 refine call_meets F.slot_list_pop ⟨_,e,rfl⟩ F.entry_list_pop (F.args_list_pop_1 _) (MeetsSeq.list_pop_last l its.toArray n u hy' (by rw[A7];omega)) ⟨e,?_⟩;refine⟨y,_,I.zAc (its':=its.dropLast) hH e ?_ r.dropLast ?_,ru,q⟩
 ·show its.toArray.eraseIdxIfInBounds (its.toArray.size - 1)=its.dropLast.toArray;rw[A7,List.eraseIdxIfInBounds_toArray,Oj]
 ·rw[List.length_dropLast];omega
def eN:V->List V->Hp->VK->Prop:=fun x vs H Q=>∃l xs i k y,x=.ref l/\vs=[.int i]/\H l=some (.lst xs)/\-(2 ^ 63)<=i/\i < 2 ^ 63/\uT i xs.length=some k/\xs[k]?=some y/\Q y (upd H l (.lst (xs.eraseIdx k)))
def Uy:V->List V->Hp->VK->Prop:=fun x vs H Q=>∃l xs,x=.ref l/\vs=[]/\H l=some (.lst xs)/\Q .wa (upd H l (.lst []))
theorem Vj:dD X "list.clear" Uy:=by
 intro pins s σ H x vs v us Q I rx rv h;obtain⟨l,xs,rfl,rfl,hH,q⟩:=h;cases rx;have hus:=rv.zero;subst hus;obtain⟨z,its,n,r,hl,e⟩:=I.zB hH;refine call_meets F.slot_list_clear ⟨_,e,rfl⟩ F.entry_list_clear (F.args_list_clear_1 _) (AutoSeq1.list_clear_list_0 l its.toArray n (by rw[A7];omega)) ⟨e,?_⟩;exact⟨.wa,_,I.zAc (its':=[]) (ys:=[]) hH e rfl .nil (E7 _),rfl,q⟩
def kB:R2:=fun x y H Q=>∃l b xs zs,x=.ref l/\y=.ref b/\H l=some (.lst xs)/\H b=some (.lst zs)/\xs.length+zs.length<=sizeLine/\∀p,H p=none->Q (.ref p) (upd H p (.lst (xs++zs)))
theorem fo:CY X (N3 .Add) kB:=by
 intro pins s σ H x y v u Q I rx ry h;obtain⟨l,b,xs,zs,rfl,rfl,hH,hB,hz,q⟩:=h;cases rx;cases ry;obtain⟨z,its,n,r,hl,e⟩:=I.zB hH;obtain⟨z2,wg,n2,r2,xp,e2⟩:=I.zB hB;refine PySem.P.add_list e e2 ?_ (by rw[A7,A7];omega);have ea:its.toArray++wg.toArray=(its++wg).toArray:=by simp
 rw[ea];exact⟨.ref _,_,I.zCO (t':=s.toks) (r.append r2) (by rw[D2];omega),rfl,q _ I.fresh⟩
def ju:R2:=fun x y H Q=>∃l k xs,x=.ref l/\y=.int k/\H l=some (.lst xs)/\-(2 ^ 63)<=k/\k < 2 ^ 63/\xs.length * k.toNat<=sizeLine /\
 ∀p,H p=none->Q (.ref p) (upd H p (.lst (D1 k.toNat xs).flatten))
theorem len_rep(xs:List α)(k:Nat):(D1 k xs).flatten.length=k * xs.length:=by
 induction k with
 | zero=>simp
 | succ k ih=>rw[N8,T1,D2,ih,rJ,Nat.add_comm]
theorem fY:CY X (N3 .Mult) ju:=by
 intro pins s σ H x y v u Q I rx ry h;obtain⟨l,k,xs,rfl,rfl,hH,h1,h2,hz,q⟩:=h;cases rx;obtain⟨t,rfl⟩:=ry;obtain⟨z,its,n,r,hl,e⟩:=I.zB hH;have hlen:its.toArray.size * k.toNat<=sizeLine:=by rw[A7,<- hl];exact hz
 have zDa:¬its.toArray.size * k.toNat > (2 ^ 63 - 1) / 8:=by
  have:(sizeLine:Nat)<=(2 ^ 63 - 1) / 8:=by decide
  omega
 have zDV:¬(!vP k)=true:=by
  rw[fitsIndex_both h1 h2];exact C7
 have zU:¬O6 (its.toArray.size * k.toNat)=true:=by
  rw[Hs hlen];exact C7
 have zDP:sk (fun x1 x2=>x1++x2) #[] (D1 (if its.toArray.isEmpty=true then 0 else k.toNat) its.toArray)=(D1 k.toNat its).flatten.toArray:=by
  have f0:∀m:Nat,sk (fun x1 x2=>x1++x2) #[] (D1 m its.toArray)=(D1 m its).flatten.toArray:=fun m=>by
   have:=foldl_rep its m [];rw[Y0] at this;exact this
  rw[f0];cases its with
  | nil=>simp
  | cons a r'=>rw[if_neg (by simp)]
 refine qQ (T := "list") (U := "int") (by decide) ⟨_,e,rfl⟩ (fun s'=>rF s' k t) noFill_list_mul F.fills_int_mul F.slot_int_rmul repeat_list F.slot_int_index.lookup
  (call_meets F.slot_int_rmul (rF s k t) F.entry_int_rmul (F.args_int_rmul_2 _ _) (int___rmul___int_list k t l its.toArray n)
   ⟨e,rfl,⟨_,e,rfl⟩,call_meets F.slot_list_mul ⟨_,e,rfl⟩ F.entry_list_mul (F.args_list_mul_2 _ _) (AutoListH.list___mul___list_int_3 l its.toArray n k t zDV zDa zU) ⟨e,?_⟩⟩)
 rw[zDP];exact⟨.ref _,_,I.zCO (t':=s.toks) (r.rep k.toNat) (by rw[len_rep,tj];exact hz),rfl,q _ I.fresh⟩
end
end L2
namespace Att
open PySem PySem.W PySem.Calls PyProof.Rows
theorem Gf{P:so}{h:F7}:∀(ns:List Int) (vs:List Value),WellAll P h vs (ns.map wQ)->W7 vs ns:=by
 intro ns
 induction ns with
 | nil =>
  intro vs w;rw[W8] at w;cases w;exact .nil
 | cons n ns ih =>
  intro vs w;rw[D3] at w;cases w with
  | cons a b =>
   cases a;exact .cons _ _ (ih _ b)
theorem Rb{l:OpenLaw}{n:Nat}(hn:l.most=some n){P:so}{h:F7}{args:List WData}{vals:List Value}
    (zBB:l.row.toRowW.claim.pre args=true) (hwl:WellAll P h vals args) :
    ∃a vs ns,vals=[E2 a]/\args=[WData.list (ns.map wQ)]/\h.get? a=some { cls:=.type "list", data:=.seq vs.toArray }/\W7 vs ns/\ns.length<=n:=by
  have hsh:WShape.hasAll [] args [.list .int]=true:=(pre_splitW zBB).1;have hc:l.pre.holds [] { args:=args }=true:=(pre_splitW zBB).2;obtain⟨d,r,rfl,h1,h2⟩:=hasAllW_cons hsh;obtain rfl:=hasAllW_nil h2;obtain⟨xs,rfl,h3⟩:=hasW_list h1;obtain⟨ns,rfl⟩:=items_int h3;have hlen:ns.length<=n:=by
    unfold OpenLaw.pre at hc;have h4:(WTm.not (.lt (.lit (.int (n:Int))) (.len (.arg 0)))).holds [] { args:=[.list (ns.map .int)] }=true:=by
      have h4:=(holds_andW hc).1;rw[hn] at h4;exact h4
    have h5:=condW_of h4 (w_not (w_lt w_lit (w_len_list (w_arg rfl))));rw[A8] at h5;refine R7 fun q=>?_
    have q':(n:Int) < ((ns.length:Nat):Int):=by omega
    first
      | (rw[decide_eq_true q'] at h5;exact absurd h5 (by decide))
      | (simp at h5;omega)
  cases hwl with
  | cons w1 w2 =>
    cases w2;cases w1 with
    | list ho xr=>exact⟨_,_,ns,rfl,rfl,ho,Gf ns _ xr,hlen⟩
theorem Rj(l:OpenLaw)(args:List WData):l.row.toRowW.claim.post args (.bool true) args=true:=
 postW_of (r:=l.row.toRowW) (X:=(true == true))
  (show wM [] (.bool true) .bool=true by first | rfl | decide | simp[wM,WShape.arms,WShape.armsAll])
  (show(WTm.eq .res (.lit (.bool true))).value [] { args:=args,res:=some (.bool true),after:=args }=some (.bool (true == true)) from w_eq_bool (w_res rfl) w_lit) rfl
theorem zc{l:OpenLaw}{n:Nat}{q:E5}{loose:List Str}{XP:(Str->Option Value)->F7->Prop}{YP:G3->F7->Prop}{d:vw}
    (hn:l.most=some n) (hdf:d.params.defaults=[])
    (call:∀(w:G3) (wz wY:A6) (mg mb:Str->Option Value) (fa:B5) (o:Obj) (pm cd doc:Value) (a:B5) (vs:List Value) (ns:List Int),
      Ground q loose [] XP w wz mg mb wY.heap->YP w wY.heap ->
      wY.heap.get? fa=some o->o.data=.func (docDef d.name d.params d.body d.scope pm cd doc)->wY.heap.CodeRec cd d.name->mg d.name=some (.ref fa) ->
      wY.heap.get? a=some { cls:=.type "list", data:=.seq vs.toArray }->W7 vs ns->ns.length<=n->wY.gens=#[] ->
      X8 (C9 l.prog w) sI (.call (.ref fa) ⟨[.ref a],[]⟩) (fun r s'=>r=.ok (.ret (.bool true))/\OldK wY.heap s'.heap/\s'.os=wY.os/\qV s'.gens) wY) :
    WalkO q loose XP YP l.row.toRowW d [] (fun f vs=>sr f vs):=by
  intro w wz wY mg mb G Y fa o pm cd doc dV kV ho hd hcd hD hmg hg args vals as zBB zDs hrd hwl hlo;obtain rfl:dV=.none:=Dflts.none hD hdf;obtain rfl:kV=.none:=Dflts.noKw hD;obtain⟨a,vs,ns,rfl,rfl,zBp,hints,hlen⟩:=Rb hn zBB hwl;refine enter_call (n9 (call w wz wY mg mb fa o pm cd doc a vs ns G Y ho (fd_plain hd) hcd hmg zBp hints hlen hg) fun r s' hq=>?_);obtain⟨rfl,h2,h3,h4⟩:=hq;exact⟨.inl ⟨.bool true,.bool true,[],rfl,fun _=>rfl,.bool true,Rj l _,fun _=>⟨tm,fun _ hm=>(nomatch hm)⟩⟩,h2,h3,h4⟩
end Att
namespace L2
open PySem PySem.Spec PyProof.Rows
theorem JQ:∀{vs:List Value} {ns:List Int},W7 vs ns->AH (ns.map V.int) vs
 | _,_,.nil=>.nil
 | _,_,.cons n t h=>.cons ⟨t,rfl⟩ (JQ h)
def bK(H:Hp):Prop:=∀b,H b=none\/∃o xs,H b=some (.zz o (.lst xs))
theorem Vv{P:E5}{w:G3}{K:W.Frag}{mg mb:Str->Option Value}{CX:YD}{k:Nat}{fa a:B5}{fd:R9}{x:Str}{sp:Sp}{wY:A6}{vs:List Value}{ns:List Int}
    (KX:K.In wY.heap) (zf:wY.heap.Ns L6 mg) (hb:wY.heap.Ns vF mb) (hbb:∀x:Str,x ≠ "__name__" -> mb x=N0 x) (zDS:wY.heap.NoLimit) (hg:wY.gens=#[])
    (ha:wY.heap.get? a=some { cls:=.type "list", data:=.seq vs.toArray }) (hi:W7 vs ns) (hl:ns.length<=sizeLine) (hr:wo k sI)
    (F:∀base:F7,K.In base->base.Ns L6 mg->xU P w K mg base CX k fa fd [x] sp) (zCZ:∀(s:A6) (u:Value),tW s fd ⟨[u],[]⟩ [(x,u)])
    (hsp:∀H:Hp,bK H->Ca K H a (ns.map V.int)->sp [.ref a] H (fun v _=>v=.bl true) fun _ _ _=>False)
    (hCX:∀H e s',CX [] H wY (fun _ _ _=>False) e s'->False) :
    X8 (C9 P w) sI (.call (.ref fa) ⟨[.ref a],[]⟩) (fun r s'=>r=.ok (.ret (.bool true))/\OldK wY.heap s'.heap/\s'.os=wY.os/\qV s'.gens) wY:=by
  have rv:=JQ hi;have zDB:=hi.length
  -- from an abstract heap in zDo nothing but the zBZ may be tracked
  have core:∀H:Hp,bK H->Ca K H a (ns.map V.int)->ES P w H wY.heap->(∀b,H b≠none->b=a)->(H a≠none->K.lookup a=none) ->
      X8 (C9 P w) sI (.call (.ref fa) ⟨[.ref a],[]⟩) (fun r s'=>r=.ok (.ret (.bool true))/\OldK wY.heap s'.heap/\s'.os=wY.os/\qV s'.gens) wY:=by
    intro H hO hS wb hA hK;have FQ:∀{b:B5} {o:Obj},wY.heap.get? b=some o->H b=none->(Ko wY.heap H).get? b=some o:=fun e n=>WG e n
    have noA:∀{b:B5} {o:Obj} {es:Array DictEntry} {ep:Nat},wY.heap.get? b=some o->o.data=.dict es ep->H b=none:=fun{b o es ep} e d=>by
      cases q:H b with
      | none=>rfl
      | some u =>
        have e':b=a:=hA b (by rw[q];simp);subst e';rw[ha] at e;cases e;have d':wF vs.toArray _=Data.dict es ep:=d;cases d'
    have nsK:∀{b:B5} {m:Str->Option Value},wY.heap.Ns b m->(Ko wY.heap H).Ns b m:=fun{b m} ⟨o,es,ep,e,d,r⟩=>⟨o,es,ep,FQ e (noA e d),d,r⟩
    have hKb:K.In (Ko wY.heap H):=fun b o e=>FQ (KX b o e) (by
      cases q:H b with
      | none=>rfl
      | some u =>
        have e':b=a:=hA b (by rw[q];simp);subst e';rw[hK (by rw[q];simp)] at e;cases e)
    have hM:Mod K mg (Ko wY.heap H):=⟨hKb,nsK zf,⟨mb,nsK hb,hbb⟩,let ⟨mc,h1,h2⟩:=zDS;⟨mc,nsK h1,h2⟩⟩;have e0:zBJ P w K mg (Ko wY.heap H) sI [] wY H:=⟨rfl,hM,fun b o e=>Zg e,o5 (SN _ _),trivial,fun b hb=>absurd (show b∈([]:List B5) from hb) (by simp),wb,.of_eq hg⟩;refine n9 ((F _ hKb (nsK zf)).run sI [] wY H ⟨[.ref a],[]⟩ [.ref a] [.ref a] _ _ hr e0 (zCZ wY (.ref a)) (.cons rfl .nil) (hsp H hO hS)) fun r s' h=>?_
    cases r with
    | error e=>exact(hCX H e s' h).elim
    | ok fl =>
      cases fl with
      | next=>exact F1 h
      | brk=>exact F1 h
      | cont=>exact F1 h
      | ret u =>
        obtain⟨v,H',os,bare,un,zDN,r',q⟩:=h;have q':v=.bl true:=q;subst q';obtain rfl:u=sX true:=r';refine⟨rfl,OldK.of_keep fun b o e=>?_,os,bare⟩;cases q:H b with
        | none=>exact un.keep b o e q (by intro z;exact absurd (show b∈([]:List B5) from z) (by simp)) (by simp)
        | some u =>
          rcases hO b with z | ⟨ob,xs,z⟩
          · rw[q] at z;cases z
          · have z2:=un.ym b ob _ z;obtain⟨e1,_⟩:=wb b _ z;obtain⟨e2,_⟩:=zDN b _ z2;rw[e] at e1;cases e1;exact e2
  cases hk:K.lookup a with
  | some o =>
    -- the zBZ is one of the zCN own objects
    have e:=KX a o hk;rw[ha] at e;cases e;refine core (fun _=>none) (fun _=>.inl rfl) (.inr ⟨_,vs.toArray,_,hk,rfl,rfl,rfl,by rw[A7,zDB];exact hl,by simpa using rv⟩) (fun b u z=>by have z':(none:Option HO)=some u:=z;cases z') (fun b z=>absurd rfl z) fun z=>absurd rfl z
  | none =>
    refine core (fun b=>if b=a then some (.zz { cls:=.type "list", data:=.seq vs.toArray } (.lst (ns.map V.int))) else none) (fun b=>?_) (.inl (.inr ⟨{ cls:=.type "list", data:=.seq vs.toArray },if_pos rfl⟩)) (fun b u z=>?_) (fun b z=>?_) fun _=>hk
    · by_cases hb:b=a
      · exact .inr ⟨_,_,if_pos hb⟩
      · exact .inl (if_neg hb)
    · by_cases hb:b=a
      · have z':=(if_pos hb).symm.trans z;cases z';subst hb;exact⟨ha,by rw[A8];exact hl,vs,_,rv,ha⟩
      · have z':=(if_neg hb).symm.trans z;cases z'
    · by_cases hb:b=a
      · exact hb
      · exact absurd (if_neg hb) z
theorem zAw{l:W.OpenLaw}{n k:Nat}{q:E5}{loose:List Str}{XP:(Str->Option Value)->F7->Prop}{YP:G3->F7->Prop}{d:vw}{K:so->W.Frag}{CX:G3->YD}{sp:G3->Sp}{x:Str}
    (hn:l.most=some n) (hn2:n<=sizeLine) (hdf:d.params.defaults=[]) (hr:wo k sI)
    (hY:∀(w:G3) (h:F7),YP w h->(K w.params).In h)
    (F:∀(w:G3) (mg:Str->Option Value) (fa:B5) (h:F7),(K w.params).In h->h.Ns L6 mg->mg d.name=some (.ref fa) ->
      ∃fd:R9,(∀(s:A6) (u:Value),tW s fd ⟨[u],[]⟩ [(x,u)]) /\
        ∀base:F7,(K w.params).In base->base.Ns L6 mg->xU l.prog w (K w.params) mg base (CX w) k fa fd [x] (sp w))
    (hsp:∀(w:G3) (H:Hp) (a:B5) (ns:List Int),ns.length<=n->bK H->Ca (K w.params) H a (ns.map V.int)->sp w [.ref a] H (fun v _=>v=.bl true) fun _ _ _=>False)
    (hCX:∀(w:G3) (H:Hp) (s:A6) (e:Value) (s':A6),CX w [] H s (fun _ _ _=>False) e s'->False) :
    W.WalkO q loose XP YP l.row.toRowW d [] (fun f vs=>sr f vs):=by
  refine Att.zc hn hdf fun w wz wY mg mb fa o pm cd doc a vs ns G Y ho hd hcd hmg zBp hints hlen hg=>?_
  have KX:=hY w _ Y;obtain⟨fd,hb,hF⟩:=F w mg fa _ KX G.T.g hmg;exact Vv KX G.T.g G.T.b G.T.builtins G.T.nolimit hg zBp hints (B9 hlen hn2) hr hF hb (fun H hO hS=>hsp w H a ns hlen hO hS) fun H e s'=>hCX w H wY e s'
noncomputable def Ax(s:M4):Arguments:=match s with
 | .FunctionDef _ a _ _ _ _ _ _ _ _=>a
 | _=>{ posonlyargs:=[],args:=[],vararg:=none,kwonlyargs:=[],kw_defaults:=[],kwarg:=none,defaults:=[] }
noncomputable def Ae(s:M4):List M4:=match s with
 | .FunctionDef _ _ b _ _ _ _ _ _ _=>b
 | _=>[]
noncomputable def AJ(s:M4):N1:=match s with
 | .FunctionDef _ _ _ _ _ _ sc _ _ _=>sc
 | _=>{ kind:=.function,names:=[],isGenerator:=false,isCoroutine:=false }
abbrev RL:YD:=fun _ _ _ _ _ _=>False
abbrev E0:XK:=fun _ _ _=>False
theorem br{X:Cx}:LO RL X E0:=fun _ _ _ _ _ _ _ h=>h.elim
structure Fun (K:W.Frag) (x qual:Str) (st:M4) (f:B5) (fd:R9):Prop where
 ex:∃(oc:Value) (od:Option B5) (kV doc pm:Value) (an:Option B5) (xB ct:Value) (osl:Array (Option Value)),
  fd=W.fnOf x qual (Ax st) (Ae st) (AJ st) .none kV doc pm an xB ct/\K.lookup f=some ⟨oc,od,.func fd,osl⟩/\W.codeIn K xB qual=true
 kp:W.keepIn K (.ref f)=true
variable {x qual:Str}
section
variable {P:E5} {w:G3} {K:W.Frag} {mg:Str->Option Value} {base:F7}
theorem Fun.ok{st:M4}{f:B5}{fd:R9}{N ps:List Str}{k:Nat}{sp:Sp}(F:Fun K x qual st f fd)(S:xx N ps (AJ st))(len:∀vs H Q E,sp vs H Q E->vs.length=ps.length)
    (zAo:∀(xB:Value) (A:F3) (outer:List Env) (s:A6) (H:Hp) (vs:List V) (Q:VK) (E:XK),wo k (A.deeper (rh qual (AJ st) s.heap.objs.size f xB))->sp vs H Q E ->
      ∃t,EA (Mj RL P w K mg base N qual (AJ st) f xB A outer s H E).nox (Ae st) t/\t { nx:=fun _ H'=>Q .wa H',rt:=Q } (start N vs) H):xU P w K mg base RL (k+1) f fd ps sp:=by
  obtain⟨oc,od,kV,doc,pm,an,xB,ct,osl,rfl,lk,hcd⟩:=F.ex;refine lF lk hcd S len fun A outer s H vs Q E hr hsp=>?_
  obtain⟨t,h,q⟩:=zAo xB A outer s H vs Q E hr hsp;exact⟨t,h.nox,q⟩
theorem Fun.binds{st:M4}{f:B5}{fd:R9}{ps:List Str}(F:Fun K x qual st f fd)
    (h:∀(kV doc pm:Value) (an:Option B5) (xB ct:Value) (us:List Value),us.length=ps.length->qo (W.fnOf x qual (Ax st) (Ae st) (AJ st) .none kV doc pm an xB ct) ⟨us,[]⟩=pure (ps.zip us)):Binds K fd ps []:=by
  obtain⟨oc,od,kV,doc,pm,an,xB,ct,osl,rfl,lk,hcd⟩:=F.ex;exact .all (h kV doc pm an xB ct)
theorem gZ{st:M4}{f:B5}{oc:Value}{od an:Option B5}{osl:Array (Option Value)}{kV doc pm xB ct:Value}(l:K.lookup f=some ⟨oc,od,.func (W.fnOf x qual (Ax st) (Ae st) (AJ st) .none kV doc pm an xB ct),osl⟩)
    (c:W.codeIn K xB qual=true) (k:W.keepIn K (.ref f)=true):Fun K x qual st f (W.fnOf x qual (Ax st) (Ae st) (AJ st) .none kV doc pm an xB ct):=⟨⟨oc,od,kV,doc,pm,an,xB,ct,osl,rfl,l,c⟩,k⟩
end
def PP(H H':Hp):Prop:=∀b o,H b=some o->H' b=some o
noncomputable def AR(sc:N1)(x:Str):Bool:=match sc.names.lookup x with | some .cell=>true | _=>false
def Cx.inner(X:Cx)(scope:N1)(cl:List (Str×B5))(C:B5)(s:A6)(H:Hp)(fp:List B5):Cx:=
 { X with wz:=s,H₀:=H,env:=compEnvC scope cl C X.env,outer:=X.stack,ex:=fp,fn:=AR scope,xe:=fun _ _=>False }
theorem Ah{scope:N1}{env:Env}{x:Str}:∀{names:List (Str×NameKind)}, 
    ((names.map fun(n,k)=>if(k == NameKind.free && env.scope.kind == .function && env.kindOf n == some .cell) then(n,NameKind.cell) else(n,k)).lookup x=some .cell \/
     (names.map fun(n,k)=>if(k == NameKind.free && env.scope.kind == .function && env.kindOf n == some .cell) then(n,NameKind.cell) else(n,k)).lookup x=some .free) ->
    names.lookup x=some .cell\/names.lookup x=some .free
  | [],h=>by simp at h
  | (n,k)::r,h=>by
    have ih:=@Ah scope env x r;cases hx:x == n with
    | true =>
      simp only[D3,G1] at h ⊢
      by_cases hc:(k == NameKind.free && env.scope.kind == .function && env.kindOf n == some .cell)=true
      · have hk:k=.free:=by
          simp only[A5,beq_iff_eq] at hc;exact hc.1.1
        right;simp[hx,hk]
      · rw[if_neg hc] at h;simp only[G1,hx] at h ⊢;exact h
    | false =>
      simp only[D3,G1] at h ⊢
      by_cases hc:(k == NameKind.free && env.scope.kind == .function && env.kindOf n == some .cell)=true
      · rw[if_pos hc] at h;simp only[G1,hx] at h ⊢;exact ih h
      · rw[if_neg hc] at h;simp only[G1,hx] at h ⊢;exact ih h
theorem Ck{env:Env}{x:Str}:∀{names:List (Str×NameKind)}, 
    (names.map fun(n,k)=>if(k == NameKind.free && env.scope.kind == .function && env.kindOf n == some .cell) then(n,NameKind.cell) else(n,k)).lookup x=some .local ->
    names.lookup x=some .local
  | [],h=>by simp at h
  | (n,k)::r,h=>by
    have ih:=@Ck env x r;cases hx:x == n with
    | true =>
      simp only[D3,G1] at h ⊢
      by_cases hc:(k == NameKind.free && env.scope.kind == .function && env.kindOf n == some .cell)=true
      · rw[if_pos hc] at h;simp only[G1,hx] at h;cases h
      · rw[if_neg hc] at h;simp only[G1,hx] at h ⊢;exact h
    | false =>
      simp only[D3,G1] at h ⊢
      by_cases hc:(k == NameKind.free && env.scope.kind == .function && env.kindOf n == some .cell)=true
      · rw[if_pos hc] at h;simp only[G1,hx] at h ⊢;exact ih h
      · rw[if_neg hc] at h;simp only[G1,hx] at h ⊢;exact ih h
variable {scope:N1}
theorem IU{env:Env}(zDU:∀x,scope.names.lookup x=some .free->∃c,env.cells.lookup x=some c)(hnd:∀x k,(x,k)∈scope.names->k=.free->scope.names.lookup x=some .free) :
    ∃cl,closureFor scope env=pure cl/\(∀x c,cl.lookup x=some c->env.cells.lookup x=some c)/\∀x,scope.names.lookup x=some .free->∃c,cl.lookup x=some c:=by
  have go:∀(names:List (Str×NameKind)) (cs:List (Str×B5)),(∀x k,(x,k)∈names->k=.free->∃c,env.cells.lookup x=some c)->(∀x c,cs.lookup x=some c->env.cells.lookup x=some c) ->
      ∃cl,(forIn names cs (fun(x:Str×NameKind) (r:List (Str×B5))=>(if(x.2 == NameKind.free)=true then(cellOf env x.1 >>= fun c=>(pure (ForInStep.yield ((x.1,c)::r)):Sem _)) else pure (ForInStep.yield r))))=(pure cl:Sem _) /\
        (∀x c,cl.lookup x=some c->env.cells.lookup x=some c)/\(∀x,(cs.lookup x).isSome=true->(cl.lookup x).isSome=true)/\∀x,(x,NameKind.free)∈names->(cl.lookup x).isSome=true:=by
    intro names
    induction names with
    | nil=>intro cs _ h2;exact⟨cs,by simp,h2,fun _ z=>z,fun _ z=>by simp at z⟩
    | cons p r ih =>
      intro cs h1 h2;obtain⟨n,k⟩:=p
      by_cases hk:k=.free
      · subst hk;obtain⟨c,hc⟩:=h1 n _ B2 rfl;have yu:cellOf env n=pure c:=by unfold cellOf;rw[hc]
        obtain⟨cl,e,a,b,d⟩:=ih ((n,c)::cs) (fun x k hx hk=>h1 x k (B1 _ hx) hk) (fun x c' hx=>by
          rw[G1] at hx;cases hxn:x == n with
          | true => rw[hxn] at hx; simp at hx; subst hx; have : x = n := by simpa using hxn
                    rw[this];exact hc
          | false=>rw[hxn] at hx;exact h2 x c' hx)
        refine⟨cl,?_,a,fun x hx=>b x ?_,fun x hx=>?_⟩
        · rw[l9];simp only[yu];simpa using e
        · rw[G1];cases hxn:x == n with
          | true=>rfl
          | false=>exact hx
        · rcases D0.mp hx with z | z
          · injection z with z1 _
            subst z1;exact b x (by rw[G1];simp)
          · exact d x z
      · have hb:(k == NameKind.free)=false:=by simpa using hk
        obtain⟨cl,e,a,b,d⟩:=ih cs (fun x k hx hk=>h1 x k (B1 _ hx) hk) h2;refine⟨cl,?_,a,b,fun x hx=>?_⟩
        · rw[l9];simp only[hb];simpa using e
        · rcases D0.mp hx with z | z
          · injection z with _ z2
            exact absurd z2.symm hk
          · exact d x z
  obtain⟨cl,e,a,_,d⟩:=go scope.names [] (fun x k hx hk=>zDU x (hnd x k hx hk)) (fun x c h=>by simp at h);refine⟨cl,?_,a,fun x hx=>O5.mp (d x (F5 hx))⟩;unfold closureFor;simpa using e
theorem Am:∀(names:List (Str×NameKind)) (n:Nat) (acc:List (Str×B5)),M5 n names acc=M5 n names []++acc
 | [],n,acc=>by simp[M5]
 | (x,k)::r,n,acc=>by
  unfold M5;split
  ·rw[Am r (n+1) ((x,n)::acc),Am r (n+1) [(x,n)],G0];rfl
  ·exact Am r n acc
theorem Cq{x:Str}{c:B5}:∀(names:List (Str×NameKind)) (n:Nat),(x,c)∈M5 n names []->(x,NameKind.cell)∈names
 | [],n,h=>by simp[M5] at h
 | (y,k)::r,n,h=>by
  unfold M5 at h;split at h
  ·rename_i hk;have hk:k=.cell:=by simpa using hk
   rw[Am] at h;rcases D9.mp h with h | h
   ·exact B1 _ (Cq r _ h)
   ·rw[D4] at h;cases h;rw[hk];exact B2
  ·exact B1 _ (Cq r _ h)
theorem Cr{x:Str}:∀(names:List (Str×NameKind)) (n:Nat),(x,NameKind.cell)∈names->∃c,(M5 n names []).lookup x=some c
 | [],n,h=>by cases h
 | (y,k)::r,n,h=>by
  unfold M5
  by_cases hr:(x,NameKind.cell)∈r
  ·split
   ·rw[Am];obtain⟨c,e⟩:=Cr r (n+1) hr;exact⟨c,by rw[S1,e];rfl⟩
   ·exact Cr r n hr
  ·rcases D0.mp h with e | e
   ·cases e;simp only[beq_self_eq_true,if_true];rw[Am];cases q:(M5 (n+1) r []).lookup x with
    | some c=>exact⟨c,by rw[S1,q];rfl⟩
    | none=>exact⟨n,by rw[S1,q];simp⟩
   ·exact absurd e hr
theorem Br{M:Model}{A:F3}{E:Value->A6->Prop}{s:A6}{scope:N1}{globals:B5}{closure:List (Str×B5)}{qual:Str}{outer:Env}{Q:Env->A6->Prop}
    (hQ:Q { scope:=scope,locals:=s.heap.objs.size,globals:=globals,cells:=M5 (s.heap.objs.size+1) scope.names closure,qual:=qual,func:=none,code:=outer.code,frame:=outer.frame,builtins:=outer.builtins } { s with heap:=vi (s.heap.push { cls:=.type "dict", data:=.dict #[] }) scope.names }) :
    B7 M A (rq scope globals closure [] qual none .none (some outer)) Q E s:=by
  simp only[rq,su,if_true];refine A0 (wpAny_alloc ?_);refine A0 (wpAny_layCells _ (fun name kind cells=>by cases hkc:kind == NameKind.cell<;>simp[hkc]) _ _ _ _ ?_)
  rw[show({ s with heap:=s.heap.push { cls:=.type "dict", data:=.dict #[] } }:A6).heap.objs.size=s.heap.objs.size+1 from J6 ..]
  rw[r8];exact A0 (A4 (A4 hQ))
noncomputable def xE(N:List Str)(sc scope:N1)(js:List Nat):Bool:=
 (match scope.kind with | .function=>true | _=>false) &&
 scope.names.all (fun p=>(match p.2 with
  | .cell=>(match scope.names.lookup p.1 with | some .cell=>true | _=>false)
  | .local=>(match scope.names.lookup p.1 with | some .local=>true | _=>false)
  | .free=>(match scope.names.lookup p.1 with | some .free=>true | _=>false) && (match sc.names.lookup p.1 with | some .cell=>true | some .free=>true | _=>false)
  | _=>true)) &&
 (N.zipIdx.all fun p=>(match scope.names.lookup p.1 with | some .local=>js.contains p.2 | some .cell=>js.contains p.2 | _=>true))
structure xw (N:List Str) (sc scope:N1) (js:List Nat):Prop where
 kind:scope.kind=.function
 zBw:∀x k,(x,k)∈scope.names->k=.cell->scope.names.lookup x=some .cell
 zBL:∀y∈scope.names,y.2=.local->scope.names.lookup y.1=some .local
 zBM:∀x k,(x,k)∈scope.names->k=.free->scope.names.lookup x=some .free
 fr:∀x,scope.names.lookup x=some .free->sc.names.lookup x=some .cell\/sc.names.lookup x=some .free
 jsl:∀(i:Nat) x,N[i]?=some x->scope.names.lookup x=some .local\/scope.names.lookup x=some .cell->i∈js
variable {js:List Nat}
theorem IG{N:List Str}{sc:N1}(h:xE N sc scope js=true):xw N sc scope js:=by
  unfold xE at h;rw[A5,A5] at h;obtain⟨⟨h1,h2⟩,h3⟩:=h;rw[E3] at h2 h3;refine⟨?_,fun x k hy e=>?_,fun y hy e=>?_,fun x k hy e=>?_,fun x e=>?_,fun i x e1 e2=>?_⟩
  · cases q:scope.kind<;>rw[q] at h1<;>first | rfl | cases h1
  · have:=h2 _ hy;rw[e] at this;dsimp only at this;split at this
    · assumption
    · cases this
  · have:=h2 y hy;rw[e] at this;dsimp only at this;split at this
    · assumption
    · cases this
  · have:=h2 _ hy;rw[e] at this;dsimp only at this;rw[A5] at this;have:=this.1;split at this
    · assumption
    · cases this
  · have:=h2 _ (F5 e);dsimp only at this;rw[A5] at this;have:=this.2;split at this
    · left;assumption
    · right;assumption
    · cases this
  · have hm:(x,i)∈N.zipIdx:=by
      rw[List.mem_zipIdx_iff_getElem?];exact e1
    have:=h3 _ hm;dsimp only at this;rcases e2 with e2 | e2
    · rw[e2] at this;dsimp only at this;simpa using this
    · rw[e2] at this;dsimp only at this;simpa using this
def blank(js:List Nat)(σ:St):St:=js.foldl (fun σ j=>σ.set j none) σ
theorem xP(js:List Nat):∀σ:St,(blank js σ).length=σ.length:=by
 induction js with
 | nil=>intro σ;rfl
 | cons j r ih=>intro σ;unfold blank;rw[X9];have:=ih (σ.set j none);unfold blank at this;rw[this,D8]
theorem GT(js:List Nat):∀(σ:St) (i:Nat) (v:V),(blank js σ)[i]?=some (some v)->i∉js/\σ[i]?=some (some v):=by
 induction js with
 | nil=>intro σ i v h;exact⟨by simp,h⟩
 | cons j r ih =>
  intro σ i v h;unfold blank at h;rw[X9] at h;obtain⟨a,b⟩:=ih (σ.set j none) i v h
  by_cases e:i=j
  ·subst e
   by_cases hl:i < σ.length
   ·rw[E9 hl] at b;cases b
   ·rw[F4 (by rw[D8];omega)] at b;cases b
  ·rw[E1 (Ne.symm e)] at b;exact⟨by simp[e,a],b⟩
def Tc(js:List Nat)(g:TG):Prop:=∀x σ H Q,g x σ H Q->g x σ H fun xN H2=>(xN.length=σ.length/\∀i,i∉js->xN[i]?=σ[i]?)/\Q xN H2
theorem WJ{j:Nat}(h:j∈js):Tc js (DH j):=fun x σ H Q q=>⟨⟨D8 ..,fun i hi=>E1 (fun(e:j=i)=>hi (e▸h))⟩,q⟩
def NO(js:List Nat)(g:LN):Prop:=∀x σ H Q,g x σ H Q->g x σ H fun xN H2=>(xN.length=σ.length/\∀i,i∉js->xN[i]?=σ[i]?)/\Q xN H2
theorem MS:NO js MT:=fun x σ H Q ⟨e,q⟩=>⟨e,⟨rfl,fun _ _=>rfl⟩,q⟩
theorem SR{j:Nat}{u:LN}(h:j∈js)(hu:NO js u):NO js (DI (DH j) u):=by
 rintro x σ H Q ⟨v,r,e,q⟩;refine⟨v,r,e,?_⟩;have:=hu r (σ.set j (some v)) H Q q;show u r (σ.set j (some v)) H _;have key:∀(P P':St->Hp->Prop),(∀a b,P a b->P' a b)->True:=fun _ _ _=>trivial
 have e2:(fun xN H2=>(xN.length=(σ.set j (some v)).length/\∀(i:Nat),i∉js->xN[i]?=(σ.set j (some v))[i]?)/\Q xN H2)=(fun xN H2=>(xN.length=σ.length/\∀(i:Nat),i∉js->xN[i]?=σ[i]?)/\Q xN H2):=by
  funext xN H2;have e3:(∀(i:Nat),i∉js->xN[i]?=(σ.set j (some v))[i]?)=(∀(i:Nat),i∉js->xN[i]?=σ[i]?):=by
   apply propext;constructor
   ·intro k i hi;rw[k i hi,E1 (fun(e:j=i)=>hi (e▸h))]
   ·intro k i hi;rw[k i hi,E1 (fun(e:j=i)=>hi (e▸h))]
  rw[e3,D8]
 rw[e2] at this;exact this
theorem Qf{K:W.Frag}{n:Nat}{u:LN}(hu:NO js u):Tc js (gX K n u):=by
 rintro x σ H Q ⟨a,xs,e,hq,hl,q⟩;exact⟨a,xs,e,hq,hl,hu _ _ _ _ q⟩
variable {a:B5}
section
variable {X:Cx} {pins:List (B5×Obj)} {σ:St} {H:Hp} {s:A6} {scope:N1} {cl:List (Str×B5)} {js:List Nat} {fp:List B5} {C D:B5}
theorem Inv.zBh(I:Inv X pins σ H s)(h:s.heap.objs.size<=a):a∉Qh X.stack:=fun hb=>by
 rcases D0.mp (I.yC a hb) with e | e
 ·exact absurd (C4 I.lt (e▸h)) (R3 _)
 ·exact I.zCL h e
theorem Inv.zI(I:Inv X pins σ H s){c:B5}(e:X.env.cells.lookup x=some c):c < s.heap.objs.size:=by
 obtain⟨v,q⟩:=I.cell x c e;exact q.lt
theorem Inv.zBQ(I:Inv X pins σ H s){p:B5×Obj}(hp:p∈X.pn++pins):p.1 < s.heap.objs.size:=C3 (I.pin p hp).1
structure zAu (X:Cx) (scope:N1) (cl:List (Str×B5)) (s:A6) (C:B5):Prop where
 old:∀x c,cl.lookup x=some c->AR scope x=false->X.env.cells.lookup x=some c
 own:∀x c,cl.lookup x=some c->AR scope x=true->s.heap.objs.size<=c/\C < c
 inj:∀x y c,cl.lookup x=some c->cl.lookup y=some c->AR scope x=true->AR scope y=true->x=y
 fr:∀x,scope.names.lookup x=some .free->∃c,cl.lookup x=some c
 has:∀x,AR scope x=true->∃c,cl.lookup x=some c
theorem zAu.ne(L:zAu X scope cl s C){c b:B5}(e:cl.lookup x=some c)(hb:b < s.heap.objs.size)(h:∀x c,X.env.cells.lookup x=some c->c≠b):c≠b:=by
 cases q:AR scope x with
 | false=>exact h x c (L.old x c e q)
 | true=>exact Y9 (C4 hb (L.own x c e q).1)
theorem aQ{cl0:List (Str×B5)}(xS:xw X.N X.env.scope scope js)(zX:∀x c,cl0.lookup x=some c->X.env.cells.lookup x=some c)(yd:∀x,scope.names.lookup x=some .free->∃c,cl0.lookup x=some c)
    {h:F7} (hC:s.heap.objs.size<=C) (hs:h.objs.size=C+1):zAu X scope (M5 (C+1) scope.names cl0) s C/\∀x c,(M5 (C+1) scope.names cl0).lookup x=some c->AR scope x=true->∃v,(vi h scope.names).IsCell c v:=by
  have ok:=cellsFrom_ok scope.names h (C+1) [] ⟨fun _ _ hm=>(nomatch hm),tm⟩ (by rw[hs];exact B0 _);rw[hs] at ok;rw[Am];generalize hw:M5 (C+1) scope.names []=own at ok;have mem:∀x c,own.lookup x=some c->AR scope x=true:=fun x c e=>by
    have:=xS.zBw x _ (Cq scope.names (C+1) (by rw[hw];exact F5 e)) rfl;unfold AR;rw[this]
  have has:∀x,AR scope x=true->∃c,own.lookup x=some c:=fun x e=>by
    unfold AR at e;split at e
    · rename_i q;obtain⟨c,z⟩:=Cr scope.names (C+1) (F5 q);rw[hw] at z;exact⟨c,z⟩
    · cases e
  have yes:∀x c,(own++cl0).lookup x=some c->AR scope x=true->own.lookup x=some c:=fun x c e q=>by
    obtain⟨c',z⟩:=has x q;rw[S1,z] at e;rw[z];exact e
  have no:∀x,AR scope x=false->(own++cl0).lookup x=cl0.lookup x:=fun x q=>by
    rw[S1];cases z:own.lookup x with
    | none=>rfl
    | some c=>rw[mem x c z] at q;cases q
  refine⟨⟨fun x c e q=>zX x c (by rw[<- no x q];exact e),fun x c e q=>?_,fun x y c e1 e2 q1 q2=>?_,fun x e=>?_,fun x q=>?_⟩,fun x c e q=>?_⟩
  · have:=(ok.empty x c (F5 (yes x c e q))).2;exact⟨B9 hC (Nat.le_of_succ_le this),this⟩
  · exact PySem.name_of_addr ok.apart (F5 (yes x c e1 q1)) (F5 (yes y c e2 q2))
  · obtain⟨c,z⟩:=yd x e;exact⟨c,by rw[no x (by unfold AR;rw[e])];exact z⟩
  · obtain⟨c,z⟩:=has x q;exact⟨c,by rw[S1,z];rfl⟩
  · exact⟨none,(ok.empty x c (F5 (yes x c e q))).1⟩
theorem Inv.xE(I:Inv X pins σ H s)(xS:xw X.N X.env.scope scope js)(hf:∀b∈fp,we X pins H b)(hfe:∀b∈fp,b < s.heap.objs.size)(hC:s.heap.objs.size<=C)
    (L:zAu X scope cl s C):(X.inner scope cl C s H fp).Ok where
  mod:=I.ok.mod
  kind:=xS.kind
  glob:=I.ok.glob
  blt:=I.ok.blt
  above:=hC
  inj:=fun x y c a b=>by
    cases hx:AR scope x<;>cases hy:AR scope y
    · exact I.ok.inj x y c (L.old x c a hx) (L.old y c b hy)
    · exact absurd (I.zI (L.old x c a hx)) (Nat.not_lt.mpr (L.own y c b hy).1)
    · exact absurd (I.zI (L.old y c b hy)) (Nat.not_lt.mpr (L.own x c a hx).1)
    · exact L.inj x y c a b hx hy
  has:=fun x h=>by
    rcases Ah (scope:=scope) (env:=X.env) (names:=scope.names) h with q | q
    · exact L.has x (by unfold AR;rw[q])
    · exact L.fr x q
  cab:=fun x c h e=>(L.own x c e h).1
  hd:=I.ok.hd
  frames:=I.ok.frames
  stk:=.inl rfl
  exf:=fun b hb=>⟨C8 (C4 (hfe b hb) hC),fun x c e=>L.ne e (hfe b hb) (hf b hb).2.2.2.2.1⟩
  bs:=I.bs
  bsz:=B9 I.ok.bsz I.sz
  zAS:=fun b o e hb=>by
    rcases(hf b hb).2.2.2.1 with z | z
    · exact I.ok.zAS b o e z
    · exact absurd (C4 (C3 e) (B9 I.ok.bsz z)) (R3 _)
  zAr:=fun b hb z=>by
    rcases D0.mp (I.yC b z) with e | e
    · exact(hf b hb).2.1 e
    · exact(hf b hb).2.2.1 e
  yK:=I.stack
  frf:=I.zAB
theorem Inv.enter{h':F7}{tk:Nat}{o:Obj}(I:Inv X pins σ H s)(xS:xw X.N X.env.scope scope js)(hf:∀b∈fp,we X pins H b)(hfe:∀b∈fp,b < s.heap.objs.size)(hC:s.heap.objs.size<=C)(hD:s.heap.objs.size<=D)(hDC:D≠C)
    (L:zAu X scope cl s C) (zAi:∀x c,cl.lookup x=some c->AR scope x=true->∃v,h'.IsCell c v)
    (k:∀b u,s.heap.get? b=some u->h'.get? b=some u) {m:Str->Option Value} (zf:h'.Ns C m) (ho:h'.get? D=some o) (hoc:∀v,o.data≠.cell v) :
    Inv (X.inner scope cl C s H fp) (pins++[(D,o)]) (blank js σ) H { s with heap:=h',toks:=tk } where
  ok:=I.xE xS hf hfe hC L
  os:=rfl
  bare:=I.bare
  base:=Un.kept k
  loc:=by
    refine⟨m,zf,fun i x v e1 e2 e3=>?_⟩;obtain⟨hj,e2⟩:=GT js σ i v e2;have free:scope.names.lookup x=some .free:=by
      rcases e3 with q | q | q
      · exact absurd (xS.jsl i x e1 (.inl (Ck (env:=X.env) (names:=scope.names) q))) hj
      · rcases Ah (scope:=scope) (env:=X.env) (names:=scope.names) (.inl q) with z | z
        · exact absurd (xS.jsl i x e1 (.inr z)) hj
        · exact z
      · rcases Ah (scope:=scope) (env:=X.env) (names:=scope.names) (.inr q) with z | z
        · exact absurd (xS.jsl i x e1 (.inr z)) hj
        · exact z
    have kx:=xS.fr x free;obtain⟨m0,hn0,hl0⟩:=I.loc;obtain⟨u,r,l⟩:=hl0 i x v e1 e2 (kx.elim (fun z=>.inr (.inl z)) fun z=>.inr (.inr z));refine⟨u,r,?_⟩;rcases l with⟨z,_⟩ | ⟨_,c,hc,yu⟩
    · have z':X.env.scope.names.lookup x=some .local:=z;rcases kx with y | y
      · rw[y] at z';cases z'
      · rw[y] at z';cases z'
    · obtain⟨c',hc'⟩:=L.fr x free;have:c'=c:=by
        have q:=L.old x c' hc' (by unfold AR;rw[free]);rw[hc] at q;exact(D5 q).symm
      subst this;obtain⟨oc,q1,q2⟩:=yu;refine .inr ⟨?_,c',hc',oc,k _ _ q1,q2⟩;rcases e3 with q | q | q
      · have:=Ck (env:=X.env) (names:=scope.names) q;rw[free] at this;cases this
      · exact .inl q
      · exact .inr q
  cell:=fun x c e=>by
    cases q:AR scope x with
    | true=>exact zAi x c e q
    | false =>
      obtain⟨v,oc,q1,q2⟩:=I.cell x c (L.old x c e q);exact⟨v,oc,k _ _ q1,q2⟩
  free:=I.wb.fresh hC
  xM:=fun x c e=>by
    cases q:AR scope x with
    | true=>exact I.wb.fresh (L.own x c e q).1
    | false=>exact I.xM x c (L.old x c e q)
  pin:=fun p hp=>by
    have hp':p∈X.pn++(pins++[(D,o)]):=hp;rw[<- G0] at hp';rcases D9.mp hp' with z | z
    · obtain⟨a1,a2,a3,a4,a5⟩:=I.pin p z;refine⟨k _ _ a1,a2,C8 (C4 (C3 a1) hC),fun q=>?_,a5⟩;rcases D0.mp (I.yC p.1 q) with e | e
      · exact a3 e
      · exact a4 e
    · have e:p=(D,o):=by simpa using z
      subst e;exact⟨ho,I.wb.fresh hD,hDC,I.zBh hD,hoc⟩
  wb:=I.wb.kept k
  len:=(xP js σ).trans I.len
theorem Inv.leave{Y:Cx}{H':Hp}{s':A6}{τ:St}{pl:List (B5×Obj)}{ys:List V}{its:List Value}{n:Nat}(I:Inv X pins σ H s)(hf:∀b∈fp,we X pins H b)(hY:Y=X.inner scope cl C s H fp)(J:Inv Y pl τ H' s')(hD:s.heap.objs.size<=D)
    (hHD:H' D=none) (hz:ys.length<=sizeLine) (hv:AH ys its) (ho:s'.heap.get? D=some { cls:=.type "list", data:=.seq its.toArray n }) :
    Inv X pins σ (upd H' D (.lst ys)) s':=by
  subst hY;have un:Un (Qh X.stack) fp H H' s.heap s'.heap:=J.base;have ne:∀{b:B5} {o:Obj},s.heap.get? b=some o->b≠D:=fun e=>C8 (C4 (C3 e) hD)
  have nH:∀{b:B5} {o:HO},H' b=some o->b≠D:=fun e z=>by rw[z,hHD] at e;cases e
  have un':Un (Qh X.stack) fp H (upd H' D (.lst ys)) s.heap s'.heap:=
    ⟨un.keep,un.slot,fun b o e n' hx=>by rw[AB (ne e)];exact un.free b o e n' hx,un.there,fun b xs e=>by have:=un.yz b xs e;rw[AB (nH this)];exact this,
      fun b o u e=>by have:=un.ym b o u e;rw[AB (nH this)];exact this,fun b ps e=>by obtain⟨more,q⟩:=un.y0 b ps e;exact⟨more,by rw[AB (nH q)];exact q⟩⟩
  have wb:ES X.prog X.w (upd H' D (.lst ys)) s'.heap:=fun b u e=>by
    by_cases hb:b=D
    · subst hb;rw[AF] at e;cases e;exact⟨hz,its,n,hv,ho⟩
    · rw[AB hb] at e;exact(J.wb b u e).zo (fun _ _ _ q=>q) (fun c q=>by rw[AB (nH q)];exact q) fun c xs q=>by rw[AB (nH q)];exact q
  exact I.zCf J.os un' wb J.bare fun b hb=>by
    obtain⟨_,f1,_,f3,f4,f5⟩:=hf b hb;exact⟨f3,f1,f4,f5⟩
end
section
variable {X:Cx}
def jl:V->Option Int->Option Int->Hp->VK->Prop:=fun x lo hi H Q=>∃z,x=.str z/\z.length<=sizeLine/\Q (.str (qr z lo hi)) H
theorem du:To X jl:=by
 intro pins s σ H x v vl vu lo hi sl Q I rx hs pl pu h;obtain⟨z,rfl,hz,q⟩:=h;obtain⟨t,rfl⟩:=rx;have fin:∀t' k,EP X pins σ Q (.str (qr z lo hi) t') { s with toks:=k }:=fun t' k=>⟨.str _,H,I.tok k,⟨_,rfl⟩,q⟩
 refine⟨"str", _,F.slot_str_getitem.lookup,vO _ _ _,?_⟩
 obtain⟨o,e1,e2,e3⟩:=hs;cases pl with
 | none =>
  cases pu with
  | none=>exact U0 (l:=none) (u:=none) (st:=none) ⟨o,e1,e2,e3⟩ rfl (m5 ⟨B9 (rK z _ _) hz,fin⟩)
  | int j uj=>exact U0 (l:=none) (u:=some (j,uj)) (st:=none) ⟨o,e1,e2,e3⟩ rfl (m5 ⟨B9 (rK z _ _) hz,fin⟩)
 | int i ui =>
  cases pu with
  | none=>exact U0 (l:=some (i,ui)) (u:=none) (st:=none) ⟨o,e1,e2,e3⟩ rfl (m5 ⟨B9 (rK z _ _) hz,fin⟩)
  | int j uj=>exact U0 (l:=some (i,ui)) (u:=some (j,uj)) (st:=none) ⟨o,e1,e2,e3⟩ rfl (m5 ⟨B9 (rK z _ _) hz,fin⟩)
theorem Nl{ys:List Str}:∀{us:List Value},AH (ys.map V.str) us->StrsAre us ys:=by
 induction ys with
 | nil=>intro us r;rw[W8] at r;cases r;exact .nil
 | cons n ns ih =>
  intro us r;rw[D3] at r;cases r with
  | cons r1 r2 =>
   obtain⟨t,e⟩:=r1;subst e;exact .cons n t (ih r2)
def Us(K:W.Frag):V->List V->Hp->VK->Prop:=fun x vs H Q=>∃sep l ys,x=.str sep/\vs=[.ref l]/\Ca K H l (ys.map V.str)/\(ys.map (·.length)).sum+ys.length * sep.length<=16777216/\Q (.str (wG sep ys)) H
theorem Zo:dD X "str.join" (Us X.K):=by
 intro pins s σ H x vs v us Q I rx rv h;obtain⟨sep,l,ys,rfl,rfl,hl,hz,q⟩:=h;obtain⟨t,rfl⟩:=rx;obtain⟨u,rfl,ru⟩:=rv.one;cases ru;obtain⟨its,r,p,_⟩:=I.list hl;exact join_list p.isList (by simpa using Nl r) hz fun t' k=>⟨.str _,H,I.tok k,⟨_,rfl⟩,q⟩
end
structure Fx (P:E5) (w:G3) (K:W.Frag) (mg:Str->Option Value) (base:F7) (k:Nat) (x:Str) (ps:List Str) (sp:Sp):Prop where
 ex:∃(f:B5) (fd:R9),xU P w K mg base RL k f fd ps sp/\mg x=some (.ref f)/\W.keepIn K (.ref f)=true/\Binds K fd ps []
section
variable {X:Cx} {k j:Nat} {x:Str} {ps:List Str} {sp:Sp} {p pos:Pos} {e:Expr} {es:List Expr} {t:TA}
abbrev mj(sp:Sp)(t:TA):TE:=fun σ H Q=>t σ H fun vs H1=>sp vs H1 Q E0
theorem bp(F:Fx X.prog X.w X.K X.mg X.base k x ps sp)(hr:wo j X.A)(hkj:k<=j)(hg:Gl X x)(ha:PA X (e::es) t)(hdb:(x == ("__debug__" : Str))=false:=by decide)
    (he:E6 (e::es) X.env=(false,Q7 e X.env)::E6 es X.env:=by rfl) (yJ:(T5 pos (E6 es X.env)).any (·.1)=false:=by rfl):PE X (.Call (.Name x p) (e::es) [] pos) (mj sp t):=by
  obtain⟨f,fd,G,hm,hk,hb⟩:=F.ex;have q:=ZS (p:=p) (pos:=pos) G (hr.mono hkj) hg hm hk hb .nil br ha hdb he yJ;intro pins s σ H Q I h;refine q pins s σ H Q I ?_;show t σ H fun vs H1=>sp (vs++[]) H1 Q E0
  have e2:(fun(vs:List V) (H1:Hp)=>sp (vs++[]) H1 Q E0)=(fun vs H1=>sp vs H1 Q E0):=by
    funext vs H1;rw[M0]
  rw[e2];exact h
theorem VT(F:Fx X.prog X.w X.K X.mg X.base k x ps sp)(hr:wo j X.A)(hkj:k<=j)(hg:Gl X x)(hdb:(x == ("__debug__" : Str))=false:=by decide):PE X (.Call (.Name x p) [] [] pos) (mj sp Yc):=by
 obtain⟨f,fd,G,hm,hk,hb⟩:=F.ex;have q:=VW (p:=p) (pos:=pos) G (hr.mono hkj) hg hm hk hb .nil br hdb;intro pins s σ H Q I h;exact q pins s σ H Q I h
end
variable {H:Hp} {Q:VK} {xs:List V} {p:B5}
section
variable {X:Cx}
def kF:R2:=fun x y H Q=>∃i j,x=.str i/\y=.str j/\i.length+j.length<=sizeLine/\Q (.str (i++j)) H
def Lv(K:W.Frag):R2:=fun x y H Q=>(Ut fun i j=>.int (i+j)) x y H Q\/kF x y H Q\/kB x y H Q\/bh K x y H Q
theorem Zf:CY X (N3 .Add) (Lv X.K):=fv.or (OM.or (fo.or Zb))
theorem Xw{K:W.Frag}{i j:Int}(q:Q (.int (i+j)) H):Lv K (.int i) (.int j) H Q:=.inl ⟨i,j,rfl,rfl,q⟩
theorem Xu{K:W.Frag}{i j:Str}(h:i.length+j.length<=1000000)(q:Q (.str (i++j)) H):Lv K (.str i) (.str j) H Q:=.inr (.inl ⟨i,j,rfl,rfl,B9 h (by decide),q⟩)
theorem Xv{K:W.Frag}{b:B5}{ys:List V}(ha:H a=some (.lst xs))(hb:H b=some (.lst ys))(h:xs.length+ys.length<=1000000)(q:∀p,H p=none->Q (.ref p) (upd H p (.lst (xs++ys)))):Lv K (.ref a) (.ref b) H Q:=
 .inr (.inr (.inl ⟨a,b,xs,ys,rfl,rfl,ha,hb,B9 h (by decide),q⟩))
theorem Yu{K:W.Frag}{i:Int}{v:V}(h:H p=some (.lst xs))(e:Gc xs i=some v)(q:Q v H):eQ K (.ref p) (.int i) H Q:=.inl ⟨p,xs,i,v,rfl,rfl,.inl (.inl h),e,q⟩
theorem eM{K:W.Frag}{i:Int}{v:V}(h:Ca K H p xs)(e:Gc xs i=some v)(q:Q v H):eQ K (.ref p) (.int i) H Q:=.inl ⟨p,xs,i,v,rfl,rfl,h,e,q⟩
theorem Yt{K:W.Frag}{z:Str}{i:Int}{c:Nat}(h:z.length<=1000000)(e:Gc z.cps.toList i=some c)(q:Q (.str ⟨#[c]⟩) H):eQ K (.str z) (.int i) H Q:=.inr (.inr ⟨z,i,c,rfl,rfl,B9 h (by decide),e,q⟩)
theorem gV:RJ X (eQ X.K):=gU
def Uq(K:W.Frag):V->Option Int->Option Int->Hp->VK->Prop:=fun x lo hi H Q=>jl x lo hi H Q\/jm K x lo hi H Q\/jh K x lo hi H Q
theorem dy:To X (Uq X.K):=du.or (Ym.or dr)
theorem Yi{K:W.Frag}{z:Str}{lo hi:Option Int}(h:z.length<=1000000)(q:Q (.str (qr z lo hi)) H):Uq K (.str z) lo hi H Q:=.inl ⟨z,rfl,B9 h (by decide),q⟩
theorem UZ{K:W.Frag}{lo hi:Option Int}(h:Ca K H a xs)(q:∀p,H p=none->Q (.ref p) (upd H p (.lst (FO xs lo hi)))):Uq K (.ref a) lo hi H Q:=.inr (.inl ⟨a,xs,rfl,h,q⟩)
theorem Yj{K:W.Frag}{lo hi:Option Int}(h:H a=some (.lst xs))(q:∀p,H p=none->Q (.ref p) (upd H p (.lst (FO xs lo hi)))):Uq K (.ref a) lo hi H Q:=UZ (.inl (.inl h)) q
theorem Yo:JH X Ur:=set_list
def Ri(K:W.Frag):List V->Hp->VK->Prop:=fun xs H Q=>∃x n,xs=[x]/\mT K x H n/\Q (.int n) H
theorem Sx:As X (.builtin "len") (Ri X.K):=XC
theorem SG{K:W.Frag}{z:Str}(h:z.length<=1000000)(q:Q (.int z.length) H):Ri K [.str z] H Q:=⟨_,_,rfl,⟨B9 h (by decide),rfl⟩,q⟩
theorem Vr{K:W.Frag}(h:Ca K H p xs)(q:Q (.int xs.length) H):Ri K [.ref p] H Q:=⟨_,_,rfl,.inl ⟨xs,h,rfl⟩,q⟩
theorem Zt{K:W.Frag}(h:H p=some (.lst xs))(q:Q (.int xs.length) H):Ri K [.ref p] H Q:=Vr (.inl (.inl h)) q
abbrev nZ(K:W.Frag)(tl:TE):TI:=fun σ H R=>tl σ H fun x H1=>∃a xs,x=.ref a/\((Ca K H1 a xs/\R (mV K a) H1)\/(DL K H1 a xs/\R (nB K a) H1))
theorem fF{tg l:Expr}{tl:TE}(hl:PE X l tl):PI X tg l (nZ X.K tl):=by
 intro pins s σ H R I h;refine BB (hl pins s σ H _ I h) fun v s1 ⟨x,H1,I1,r1,q1⟩=>?_
 obtain⟨a,xs,e,q⟩:=q1;subst e;cases r1;rcases q with⟨hq,q⟩ | ⟨hq,q⟩
 ·obtain⟨its,rv,p,hz⟩:=I1.list hq;refine Q0 p.isList ?_;refine⟨s1.heap.objs.size,[s1.heap.objs.size],_,_,H1,rfl,I1.kept (t':=s1.toks) fun b o e=>A2 _ e,RQ a _,⟨_,B4 _ rfl,rfl,rfl⟩,fun b hb=>?_,q⟩;have e:b=s1.heap.objs.size:=by simpa using hb
  subst e;exact I1.wc (B0 _) (I1.wb.fresh (B0 _))
 ·obtain⟨its,rv,p,hz⟩:=I1.tuple hq;refine O2 (show s1.heap.IsTuple a its.toArray from p) ?_;refine⟨s1.heap.objs.size,[s1.heap.objs.size],_,_,H1,rfl,I1.kept (t':=s1.toks) fun b o e=>A2 _ e,Na a _,⟨_,B4 _ rfl,rfl,rfl⟩,fun b hb=>?_,q⟩;have e:b=s1.heap.objs.size:=by simpa using hb
  subst e;exact I1.wc (B0 _) (I1.wb.fresh (B0 _))
end
theorem CM(h:H p=none)(o:HO):PP H (upd H p o):=fun b u q=>by rw[AB (AO q h)];exact q
section
variable {X:Cx}
theorem nX(K:W.Frag)(h:X.K=K:=by rfl):RJ X (eQ K):=by subst h;exact gV
theorem Sv(K:W.Frag)(h:X.K=K:=by rfl):As X (.builtin "len") (Ri K):=by subst h;exact Sx
theorem Vi(K:W.Frag)(h:X.K=K:=by rfl):dD X "str.join" (Us K):=by subst h;exact Zo
def QB(K:W.Frag):List V->Hp->VK->Prop:=fun xs H Q=>∃p ys,xs=[.ref p]/\(Ca K H p ys\/DL K H p ys)/\∀l,H l=none->Q (.ref l) (upd H l (.lst ys))
theorem Ot(K:W.Frag)(h:X.K=K:=by rfl):As X (.type "list") (QB K):=by subst h;exact LD
def Lr(K:W.Frag):List V->Hp->VK->Prop:=fun xs H Q=>∃p ys,xs=[.ref p]/\((Ca K H p ys/\∀l,H l=none->Q (.ref l) (upd H l (.tup ys)))\/(DL K H p ys/\Q (.ref p) H))
theorem Mt(K:W.Frag)(h:X.K=K:=by rfl):As X (.type "tuple") (Lr K):=by subst h;exact JC
end
noncomputable def tx(l:List Nat):Str:=⟨l.toArray⟩
theorem Pc(l:List Nat):(tx l).cps.toList=l:=by simp[tx]
theorem Bz(l:List Nat):(tx l).length=l.length:=by simp[tx,Str.length]
theorem NY(a b:List Nat):tx a++tx b=tx (a++b):=by
 show(⟨(tx a).cps++(tx b).cps⟩:Str)=_;simp[tx]
theorem dU{a b:List Nat}(h:tx a=tx b):a=b:=by
 have:=congrArg (fun z:Str=>z.cps.toList) h;simpa[tx] using this
def Sg(l:List Nat)(lo hi:Option Int):List Nat:=(l.drop (HT.wk l.length 0 lo)).take (HT.wk l.length l.length hi - HT.wk l.length 0 lo)
theorem VM(l:List Nat)(a k:Nat)(h:a+k<=l.length):((B3 k).map fun j=>a+j).filterMap (fun i=>l[i]?)=(l.drop a).take k:=by
  apply V8;intro i
  by_cases hi:i < k
  · rw[qd hi,sv];have e:(vQ (fun j=>a+j) (B3 k)).filterMap (fun i=>l[i]?)=(B3 k).map fun j=>l[a+j]!:=by
      rw[sh];rw[show(fun i=>l[i]?)∘(fun j=>a+j)=fun j=>l[a+j]? from rfl];have:∀(r:List Nat),(∀j∈r,a+j < l.length)->r.filterMap (fun j=>l[a+j]?)=r.map fun j=>l[a+j]!:=by
        intro r
        induction r with
        | nil=>intro _;rfl
        | cons x r ih =>
          intro hx;have hxl:=hx x B2;rw[X2,A3 hxl,D3,ih fun j hj=>hx j (B1 _ hj)];simp[hxl]
      exact this _ fun j hj=>by have:=K6.mp hj;omega
    rw[e,C5,L5 hi];have hl:a+i < l.length:=by omega
    simp[hl]
  · have e1:(((B3 k).map fun j=>a+j).filterMap (fun i=>l[i]?)).length<=k:=B9 (List.length_filterMap_le _ _) (by simp);rw[F4 (by omega),F4 (by rw[R6];omega)]
theorem cl(i:Int)(n:Nat):max 0 (min (if i < 0 then i+(n:Int) else i) (n:Int))=(((if i < 0 then(i+(n:Int)).toNat else min i.toNat n):Nat):Int):=by
 by_cases h:i < 0
 ·simp only[h,if_true];omega
 ·simp only[h,if_false];omega
theorem UB(l:List Nat)(lo hi:Option Int):qr (tx l) lo hi=tx (Sg l lo hi):=by
 have hlen:(tx l).length=l.length:=Bz l;have key:V9 lo hi 1 l.length=(B3 (HT.wk l.length l.length hi - HT.wk l.length 0 lo)).map fun j=>HT.wk l.length 0 lo+j:=by
  have zDC:V9 lo hi 1 l.length=sliceRange ((HT.wk l.length 0 lo:Nat):Int) ((HT.wk l.length l.length hi:Nat):Int) 1:=by
   unfold V9;rcases lo with _ | i<;>rcases hi with _ | j<;>simp only[show(1:Int) > 0 by decide,if_true,HT.wk,cl,Int.natCast_zero]<;>rfl
  rw[zDC];unfold sliceRange;simp only[show(1:Int) > 0 by decide,if_true];generalize HT.wk l.length 0 lo=a;generalize HT.wk l.length l.length hi=b;have cnt:(if(a:Int) < (b:Int) then((b:Int) - (a:Int)+1 - 1) / 1 else 0).toNat=b - a:=by
   split<;>omega
  rw[cnt];apply N9;intro j _;omega
 have hle:HT.wk l.length l.length hi<=l.length:=HT.zr _ _ (B0 _) _;have hlo:HT.wk l.length 0 lo<=l.length:=HT.zr _ _ (E7 _) _;unfold qr;rw[hlen,key];unfold Sg;generalize HT.wk l.length 0 lo=a at *;generalize HT.wk l.length l.length hi=b at *;have e2:(vQ (fun j=>a+j) (B3 (b - a))).filterMap (fun i=>(tx l).cps[i]?)=(l.drop a).take (b - a):=by
  have e3:(fun i:Nat=>(tx l).cps[i]?)=fun i=>l[i]?:=by funext i;simp[tx]
  rw[e3]
  by_cases hab:a<=b
  ·exact VM l a (b - a) (by omega)
  ·have:b - a=0:=by omega
   rw[this];simp
 split
 ·rename_i hc;simp only[A8,K4,A5,beq_iff_eq] at hc;have h0:a=0:=by omega
  have h1:b=l.length:=by omega
  subst h0 h1;simp
 ·rw[e2];rfl
theorem zBG(a b:List Nat):xT (.str (tx a)) (.str (tx b))=decide (a=b):=by
 unfold xT
 by_cases h:a=b
 ·subst h;simp
 ·rw[decide_eq_false h];have:tx a≠tx b:=fun e=>h (dU e)
  simpa using this
section
variable {X:Cx}
def jz(K:W.Frag):List V->Hp->VK->Prop:=fun xs H Q=>∃x T t b,xs=[x,.ty T]/\xm K H x t/\W.kitOne K t (.type T)=some b/\Q (.bl b) H
theorem Sy(K:W.Frag)(hK:X.K=K:=by rfl):As X (.builtin "isinstance") (jz K):=by
 subst hK;intro pins s σ H xs us Q I r h;obtain⟨x,T,t,b,rfl,ty,e,q⟩:=h;obtain⟨u,v,rfl,ru,rv⟩:=r.two;cases rv;exact SK I ru ty e fun tk=>⟨.bl b,H,I.tok tk,rfl,q⟩
theorem AH.get':∀{xs:List V} {us:List Value} {i:Nat} {u:Value},AH xs us->us[i]?=some u->∃x,xs[i]?=some x/\RelV x u
 | _,_,_,_,.nil,e=>by simp at e
 | _,_,0,_,.cons r _,e=>by simp at e;subst e;exact⟨_,rfl,r⟩
 | _,_,i+1,u,.cons _ t,e=>by
  obtain⟨x,h1,h2⟩:=AH.get' (i:=i) (u:=u) t (by simpa using e);exact⟨x,by simpa using h1,h2⟩
def kD(K:W.Frag):List V->Hp->VK->Prop:=fun xs H Q=>∃(p:B5) (bs:List Bool),xs=[.ref p]/\Ca K H p (bs.map V.bl)/\Q (.bl (bs.all id)) H
theorem bB{bs:List Bool}{us:List Value}(r:AH (bs.map V.bl) us){i:Nat}{v:Value}(e:us[i]?=some v):∃b,bs[i]?=some b/\v=.bool b:=by
 obtain⟨x,e1,e2⟩:=r.get' e;rw[C5] at e1;cases q:bs[i]? with
 | none=>rw[q] at e1;cases e1
 | some b =>
  rw[q] at e1;have:V.bl b=x:=D5 e1;subst this;exact⟨b,rfl,e2⟩
theorem Hj:∀bs:List Bool,((B3 bs.length).all fun i=>(bs[i]?).getD true)=bs.all id
 | []=>rfl
 | b::bs=>by
  rw[E4,Z2,M9,o6,M9];have ih:=Hj bs;rw[<- ih];rfl
theorem gB{h h':F7}{o:Obj}(hk:∀b x,b∉[h.objs.size]->(h.push o).get? b=some x->h'.get? b=some x):∀b x,h.get? b=some x->h'.get? b=some x:=
 fun b x e=>hk b x (fun hm=>by rw[D4.mp hm] at e;exact R3 _ (C3 e)) (A2 _ e)
theorem TB(K:W.Frag)(hK:X.K=K:=by rfl)(hc:X.calm=true:=by rfl):As X (.builtin "all") (kD K):=by
  subst hK;intro pins s σ H xs us Q I r h;obtain⟨p,bs,rfl,hp,q⟩:=h;obtain⟨u,rfl,rx⟩:=vals1 r;cases rx;obtain⟨its,rv,pl,hz⟩:=I.list hp;have hl:=pl.isList;have w6:p < s.heap.objs.size:=by obtain⟨_,e,_⟩:=hl;exact C3 e
  refine call_all_walk (Q0 hl ?_);refine⟨s.heap.objs.size,[s.heap.objs.size,p],[s.heap.objs.size],its.toArray.size,_,_,fun i=>(bs[i]?).getD true,rfl,wN (A:=X.A.in1) (I.ok.hd hc) _ p (C8 w6) its.toArray,
    ⟨⟨_,B4 _ rfl,rfl,rfl⟩,hl.push _⟩,fun i v s' Q' E' hP hQ=>?_,fun h' tk hk=>?_⟩
  · obtain⟨b,e,rfl⟩:=bB rv (i:=i) (v:=v) (by simpa using hP);simp only[e,uW] at hQ;exact O9 hQ
  · have e:((B3 its.toArray.size).all fun i=>(bs[i]?).getD true)=bs.all id:=by
      rw[A7,<- rv.length,A8];exact Hj bs
    rw[e];exact⟨.bl _,H,I.kept (gB hk),rfl,q⟩
def jg(K:W.Frag):V->Option Int->Option Int->Hp->VK->Prop:=fun x lo hi H Q=>∃a xs,x=.ref a/\DL K H a xs/\(HT.wk xs.length 0 lo=0/\HT.wk xs.length xs.length hi=xs.length)/\Q (.ref a) H
theorem Yk:To X (jg X.K):=by
 intro pins s σ H x v vl vu lo hi sl Q I rx hs pl pu h;obtain⟨a,xs,rfl,hx,hw,q⟩:=h;cases rx;obtain⟨its,r,ht,hz⟩:=I.tuple hx;have hlen:its.toArray.size=xs.length:=by rw[A7];exact r.length.symm
 refine⟨"tuple", _,J3.lookup,ht.typeIs,?_⟩
 obtain⟨os,hos,hcs,hds⟩:=id hs
 have hTs:s.TypeIs (.ref sl) "slice" := ⟨os,hos,hcs⟩
 unfold rD
 try with_reducible refine E8 ?_
 first | refine A0 (A4 ?_) | skip
 refine A0 (tY ht.typeIs (by decide) ?_)
 refine A0 (J5 (name:=U7 "__getitem__") ht.typeIs J3
  (F9 J3 ht.typeIs sM ?_ (si _ _)))
 show B7 _ _ (W2 (.ref a) >>= _) _ _ s;refine A0 (tupleItemsOf_ ht ?_);refine A0 (M1 hTs ?_);rw[if_pos (by decide)];refine A0 (HT.xK hs pl pu ?_);have zDH:((((HT.wk its.toArray.size 0 lo:Nat):Int) == 0 && (1:Int) == 1 && (HT.wk its.toArray.size its.toArray.size hi - HT.wk its.toArray.size 0 lo) == its.toArray.size)=true):=by
  rw[hlen,hw.1,hw.2];simp
 show B7 _ _ (if(((HT.wk its.toArray.size 0 lo:Nat):Int) == 0 && (1:Int) == 1 && (HT.wk its.toArray.size its.toArray.size hi - HT.wk its.toArray.size 0 lo) == its.toArray.size)=true then _ else _) _ _ s;rw[if_pos zDH];have fin:EP X pins σ Q (.ref a) s:=⟨.ref a,H,I,rfl,q⟩;refine A0 (m:=qG (E2 a)) ?_;unfold qG;refine A0 (M1 ht.typeIs (A4 ?_));rw[if_pos (by decide)];exact A0 (Q5 (A4 ⟨_,rfl,A4 fin⟩))
end
section
variable {X:Cx} {pins:List (B5×Obj)} {σ:St} {H:Hp} {s:A6} {A:F3} {E:Value->A6->Prop} {Q:Value->A6->Prop} {b:Bool}
def oq(K:W.Frag):List V->Hp->VK->Prop:=fun xs H Q=>∃x p,∃(Ts:List String),∃t b,xs=[x,.ref p]/\DL K H p (Ts.map V.ty)/\xm K H x t/\(∃T,t=.type T/\T ≠ "float" /\ T ≠ "dict")/\W.kitAny K t (Ts.map G2)=some b/\Q (.bl b) H
end
end L2
namespace L2
open PySem PySem.Spec PyProof.Rows PySem.SeqAt
variable {H:Hp} {Q:VK}
section
variable {X:Cx}
def nN(r:V->List V->Hp->VK->Prop)(to:TE)(t:TA):TE:=fun σ H Q=>to σ H fun x H1=>(∃p xs,x=.ref p/\H1 p=some (.tup xs))/\t σ H1 fun xs H2=>r x xs H2 Q
theorem kQ{o e:Expr}{es:List Expr}{to:TE}{t:TA}{name:Str}{apos xI:Pos}{id:String}{r:V->List V->Hp->VK->Prop}(pa:rG "tuple")(slot:Slot "tuple" name id)(hty:vv (.builtin id)=pure (.type "method_descriptor"))(hm:YI X id r)(ho:PE X o to)(ha:PA X (e::es) t)
    (xR:R4 o name X.env (Q7 o X.env)=Q7 o X.env:=by rfl)
    (zBs:((T5 xI (E6 (e::es) X.env)).all (fun x=>!x.1) && (backToKw xI (uo [] X.env)).all (fun x=>x.1.isSome)
      && decide ((e::es).length+([]:List o4).length+(if([]:List o4).isEmpty then 0 else 1) < 30))=true:=by rfl)
    (xF:(apos.endLine == xI.line)=true:=by rfl) (hs:E6 (e::es) X.env=(false,Q7 e X.env)::E6 es X.env:=by rfl) (zu:(T5 xI (E6 es X.env)).any (·.1)=false:=by rfl) :
    PE X (.Call (.Attribute o name apos) (e::es) [] xI) (nN r to t):=by
  intro pins s σ H Q I h;refine rH xR zBs xF rfl (BB (ho pins s σ H _ I h) fun v s1 ⟨x,H1,I1,r1,ty,q1⟩=>?_);obtain⟨p,xs,rfl,hp⟩:=ty;cases r1;obtain⟨_,its,_,ob,h1,hc,hd,_⟩:=I1.wb p _ hp
  refine⟨"tuple", id,pa,slot,hty,⟨ob,h1,hc⟩,fun a e=>by cases e;exact⟨ob,h1,hd⟩,?_⟩
  have hA:=ha xI pins s1 σ H1 _ I1 q1;rw[hs] at hA ⊢;refine Z1 (by show(false || (T5 xI (E6 es X.env)).any (·.1))=false;rw[zu]<;>rfl) (rn ?_);exact BB hA fun us s2 ⟨vs,H2,I2,r2,q2⟩=>hm pins s2 σ H2 (.ref p) vs (.ref p) us Q I2 rfl r2 q2
def bj(K:W.Frag):R2:=fun x y H Q=>∃a b ys,x=.ref a/\y=.ref b/\DL K H a []/\DL K H b ys/\Q (.ref b) H
theorem Zc:CY X (N3 .Add) (bj X.K):=by
  intro pins s σ H x y v u Q I rx ry h;obtain⟨a,b,ys,rfl,rfl,ha,hb,q⟩:=h;cases rx;cases ry;obtain⟨its,r1,p1,_⟩:=I.tuple ha;obtain⟨wg,r2,p2,_⟩:=I.tuple hb;cases r1;obtain⟨⟨cls,dd,data,sl⟩,ho,hc,n,hd⟩:=id p1;obtain⟨⟨zDf,dd2,data2,sl2⟩,ho2,hc2,n2,hd2⟩:=id p2;simp only at hc hd hc2 hd2;subst hc hd hc2 hd2;exact tX ⟨_,ho,rfl⟩ ⟨_,ho2,rfl⟩ qq sS Z0 Y5 (X4 _ _)
      (tuple_addW0 a b _ wg.toArray n n2 dd dd2 sl sl2 (by simp)) ⟨ho,ho2,⟨.ref b,H,I,rfl,q⟩⟩
def Lu(K:W.Frag):R2:=fun x y H Q=>Lv K x y H Q\/bj K x y H Q
theorem Ze(K:W.Frag)(h:X.K=K:=by rfl):CY X (N3 .Add) (Lu K):=by subst h;exact Zf.or Zc
theorem Xt{K:W.Frag}{i j:Int}(q:Q (.int (i+j)) H):Lu K (.int i) (.int j) H Q:=.inl (Xw q)
theorem Xr{K:W.Frag}{i j:Str}(h:i.length+j.length<=1000000)(q:Q (.str (i++j)) H):Lu K (.str i) (.str j) H Q:=.inl (Xu h q)
theorem Xs{K:W.Frag}{a b:B5}{xs ys:List V}(ha:H a=some (.lst xs))(hb:H b=some (.lst ys))(h:xs.length+ys.length<=1000000)(q:∀p,H p=none->Q (.ref p) (upd H p (.lst (xs++ys)))):Lu K (.ref a) (.ref b) H Q:=.inl (Xv ha hb h q)
def Rh(K:W.Frag):V->Option Int->Option Int->Hp->VK->Prop:=fun x lo hi H Q=>Uq K x lo hi H Q\/jg K x lo hi H Q
theorem nQ(K:W.Frag)(h:X.K=K:=by rfl):To X (Rh K):=by subst h;exact dy.or Yk
theorem Yg{K:W.Frag}{z:Str}{lo hi:Option Int}(h:z.length<=1000000)(q:Q (.str (qr z lo hi)) H):Rh K (.str z) lo hi H Q:=.inl (Yi h q)
theorem dq{K:W.Frag}{a:B5}{xs:List V}{lo hi:Option Int}(h:Ca K H a xs)(q:∀p,H p=none->Q (.ref p) (upd H p (.lst (FO xs lo hi)))):Rh K (.ref a) lo hi H Q:=.inl (UZ h q)
theorem Yh{K:W.Frag}{a:B5}{xs:List V}{lo hi:Option Int}(h:H a=some (.lst xs))(q:∀p,H p=none->Q (.ref p) (upd H p (.lst (FO xs lo hi)))):Rh K (.ref a) lo hi H Q:=.inl (Yj h q)
def Um:V->List V->Hp->VK->Prop:=fun x vs H Q=>∃l,x=.str (tx l)/\vs=[]/\(∀c∈l,c < 128)/\l.length<=1000000/\Q (.str (tx (l.map up1))) H
theorem Vh:dD X "str.upper" Um:=by
 intro pins s σ H x vs v us Q I rx rv h;obtain⟨l,rfl,rfl,hA,hz,q⟩:=h;obtain⟨t,rfl⟩:=rx;cases rv.zero;have e:Txt.upper (tx l)=tx (l.map up1):=by
  rw[upper_ascii (by rw[Pc];exact hA)];simp[tx]
 refine SC.upper (by rw[e,Bz,A8];exact decide_eq_false (by have:sizeLine=16777216:=K0;omega)) ⟨.str (tx (l.map up1)),H,I.tok _,⟨_,by rw[e]⟩,q⟩
end
end L2
namespace L2
open PySem PySem.Spec PyProof.Rows
variable {items:Array Value}
section
variable {prog:E5} {w:G3} {A:F3} {E:Value->A6->Prop}
theorem Js{it t:B5}(xW:t≠it):∀(n i:Nat) (s:A6) (Q:List Value->A6->Prop),s.heap.IsListIter it t i->s.heap.IsList t items->i+n<=items.size ->
    (∀h',h'.IsListIter it t (i+n)->O4 it s.heap h'->Q ((items.toList.drop i).take n) { s with heap:=h' })->B7 (C9 prog w) A (draw (.ref it) n) Q E s
  | 0,i,s,Q,hit,_,_,hQ=>by
    show B7 _ _ (pure []) Q E s;exact A4 (by simpa using hQ s.heap hit (tq ..))
  | n+1,i,s,Q,hit,ht,hle,hQ=>by
    have w6:i < items.size:=by omega
    show B7 _ _ (W3 (.ref it) >>= _) Q E s;refine A0 (U6 hit ht (x:=items[i]) (by simp[w6]) fun h₁ zw xh=>?_);refine A0 (E8 (Js xW n (i+1) _ _ zw (ht.extBut xh.extBut xW) (by omega) fun zG zBr yX=>A4 ?_));have hd:items.toList.drop i=items[i]::items.toList.drop (i+1):=by simp[L0,w6]
    have:=hQ zG (by rw[show i+(n+1)=i+1+n by omega];exact zBr) (xh.trans yX);rw[hd,List.take_succ_cons] at this;exact this
theorem FX{s:A6}{t:B5}{Q:List Value->A6->Prop}(hh:A.handled=none)(ht:s.heap.IsList t items)
    (hQ:∀h',qW s.heap.objs.size s.heap h'->Q items.toList { s with heap:=h' }):B7 (C9 prog w) A (uk (.ref t) items.size none) Q E s:=by
  have w6:t≠s.heap.objs.size:=by obtain⟨o,ho,_⟩:=ht;exact C8 (C3 ho)
  unfold uk;refine A0 ?_
  · unfold notIterableAtAll;refine A0 (Q4 ht.typeIs PySem.slot_list_iter.lookup ?_);refine A4 ?_;simp only[C6,if_false];refine A0 (E8 (Q0 ht ?_));refine A0 (E8 (Js w6 items.size 0 _ _ ⟨_,B4 _ rfl,rfl,rfl⟩ (ht.push _) (by omega) fun h₁ zw xh=>?_));have xr:List.take items.size (List.drop 0 items.toList)=items.toList:=by
      rw[List.drop_zero];exact List.take_of_length_le (by simp)
    rw[xr];rw[if_neg (by simp)];have zCR:h₁.IsList t items:=(ht.push _).extBut xh.extBut w6;refine A0 (E8 (V5 hh zw zCR (by simp) fun zG zCW=>?_));simp only[Option.isSome_none,C6,if_false];refine A4 (hQ zG fun b o hb e=>zCW b o hb (xh.extBut b o hb (A2 _ e)))
theorem Lb{s:A6}{t:B5}{targets:List (Bool×(Value->Sem Unit))}{Q:Unit->A6->Prop}(hh:A.handled=none)(ht:s.heap.IsList t items)
    (hn:targets.length=items.size) (zCS:targets.findIdx? (·.1)=none)
    (h:∀h',qW s.heap.objs.size s.heap h'->B7 (C9 prog w) A (qb (targets.map (·.2)) items.toList) Q E { s with heap:=h' }) :
    B7 (C9 prog w) A (unpack (.ref t) targets) Q E s:=by
  unfold unpack;rw[hn,zCS];exact A0 (E8 (FX hh ht h))
end
section
variable {X:Cx}
abbrev gY(n:Nat)(t:LN):TG:=fun v σ H Q=>∃a xs,v=.ref a/\H a=some (.lst xs)/\xs.length=n/\t xs σ H Q
theorem VQ{es:List Expr}{k:Nat}{t:LN}{n:Nat}{pos:Pos}(hc:X.calm=true)(h:ia X es t)
    (hn:(N2 es X.env).length=n:=by rfl) (zH:(N2 es X.env).findIdx? (·.1)=none:=by rfl):PG X (.Tuple es k pos) (gY n t):=by
  intro pins s σ H v u Q I r hw;obtain⟨a,xs,e1,hq,hl,hw⟩:=hw;subst e1;cases r;obtain⟨its,rv,ht,hz⟩:=I.list (.inl (.inl hq));rw[assign_Tuple];refine A0 (j9 (Lb (I.ok.hd hc) ht.isList (by simp[hn,<- hl,rv.length]) zH fun h' hx=>?_));have I1:Inv X pins σ H { s with heap:=h' }:=I.kept (t':=s.toks) fun b o e=>hx b o (C8 (C3 e)) e
  exact h pins _ σ H xs _ Q I1 (by simpa using rv) hw
theorem Qg{n:Nat}{js:List Nat}{u:LN}(hu:NO js u):Tc js (gY n u):=by
 rintro x σ H Q ⟨a,xs,e,hq,hl,q⟩;exact⟨a,xs,e,hq,hl,hu _ _ _ _ q⟩
end
theorem Ff{K:W.Frag}{H:Hp}{a:B5}{xs:List V}(h:H a=some (.lst xs)):Ca K H a xs:=.inl (.inl h)
theorem HN{K:W.Frag}{H:Hp}{a:B5}{xs:List V}(h:H a=some (.tup xs)):DL K H a xs:=.inl (.inl h)
end L2
namespace L2
open PySem PySem.Spec PyProof.Rows PySem.SeqAt
inductive D where
 | fl (v:V)
 | tup (ds:List D)
 | lst (ds:List D)
end L2
namespace L2
open PySem PySem.Spec PyProof.Rows
inductive T where
 | leaf (k:Str) (v:V)
 | op (s:Str) (m n:T)
 | many (k w:Str) (ts:List T)
 | zCz (x:Str) (a b:T)
 | loop (i:Str) (n:T) (x:Str) (a b:T)
 | pick (n:T) (ts:List T)
end L2
namespace L2
open PySem PySem.Spec PyProof.Rows PySem.SeqAt
end L2
namespace L2
open PySem PySem.Spec PyProof.Rows
section
variable {X:Cx} {pins:List (B5×Obj)} {σ:St} {H:Hp} {s:A6} {h':F7}
theorem Inv.yw{t':Nat}{ch:List B5}(I:Inv X pins σ H s)(k:∀b o,b∉ch->s.heap.get? b=some o->h'.get? b=some o)(hf:∀b∈ch,we X pins H b):Inv X pins σ H { s with heap:=h',toks:=t' }:=by
 have nit:∀b u,H b=some u->b∉ch:=fun b u e z=>by have:=(hf b z).1;rw[e] at this;cases this
 refine I.step (g':=s.gens) (d':=s.drawn) (ch:=ch) (fun b hb=>?_) (fun b o _ _ hc e _=>k b o hc e) (fun b o _ _ hc e _=>⟨o.slots,k b o hc e⟩) (fun _ _ _ _ n=>n)
  (fun b o hc e=>⟨o,k b o hc e⟩) (fun _ _ e=>e) (fun _ _ _ e=>e) (fun b ps e=>⟨#[],by rw[e];simp⟩) (fun m hm=>?_) (fun b u e=>?_) I.bare
 ·obtain⟨f0,f1,f2,f3,f4,f5⟩:=hf b hb;exact⟨f3,f1,f4,f5⟩
 ·obtain⟨o,es,ep,ho,r⟩:=hm;exact⟨o,es,ep,k _ o (fun z=>(hf _ z).2.1 rfl) ho,r⟩
 ·refine(I.wb b u e).zo (fun c v hc q=>k c v ?_ q) (fun _ q=>q) fun _ _ q=>q
  rcases hc with z | z
  ·rw[z];exact nit b u e
  ·exact nit c _ z
end
variable {y:V} {u:Value}
section
variable {κ:Type} [DecidableEq κ]
noncomputable def CZ(wW:List (κ×V))(k:κ):Option V:=(wW.find? fun kv=>decide (kv.1=k)).map (·.2)
noncomputable def BK(wW:List (κ×V))(k:κ)(v:V):List (κ×V):=
 if(wW.any fun kv=>decide (kv.1=k))=true then wW.map (fun kv=>if kv.1=k then(kv.1,v) else kv) else wW++[(k,v)]
theorem Cw{p:κ×V}{r:List (κ×V)}{k:κ}(e:p.1=k):CZ (p::r) k=some p.2:=by simp[CZ,Q8,e]
theorem Cy{p:κ×V}{r:List (κ×V)}{k:κ}(e:¬p.1=k):CZ (p::r) k=CZ r k:=by simp[CZ,Q8,e]
theorem HI(k:κ):∀wW:List (κ×V),(wW.any fun kv=>decide (kv.1=k))=(CZ wW k).isSome
 | []=>rfl
 | p::r=>by
  rw[T7]
  by_cases e:p.1=k
  ·simp only[Cw e,decide_eq_true e,rL,su]
  ·rw[Cy e,decide_eq_false e,vd];exact HI k r
theorem Av(wW:List (κ×V))(k:κ)(v:V):(BK wW k v).length<=wW.length+1:=by
 unfold BK;split
 ·rw[A8];omega
 ·rw[D2,E4,Y1];omega
theorem FR.wq{o:Option V}{u:Option Value}(r:FR o u):o.isSome=u.isSome:=by
 cases o with
 | none=>cases u with
  | none=>rfl
  | some _=>exact(show False from r).elim
 | some _=>cases u with
  | none=>exact(show False from r).elim
  | some _=>rfl
theorem KV.val{wW:List (κ×V)}{vs:List (κ×Value)}(r:KV wW vs)(k:κ):FR (CZ wW k) (sJ vs k):=by
 unfold KV at r
 induction r with
 | nil=>exact True.intro
 | @cons p q ps qs h t ih =>
  obtain⟨h1,h2⟩:=h
  by_cases e:p.1=k
  ·have e':q.1=k:=h1.symm.trans e;have b:sJ (q::qs) k=some q.2:=by simp[sJ,Q8,e']
   rw[Cw e,b];exact h2
  ·have e':¬q.1=k:=fun z=>e (h1.trans z)
   have b:sJ (q::qs) k=sJ qs k:=by simp[sJ,Q8,e']
   rw[Cy e,b];exact ih
theorem KV.any{wW:List (κ×V)}{vs:List (κ×Value)}(r:KV wW vs)(k:κ):(wW.any fun kv=>decide (kv.1=k))=vs.any fun kv=>decide (kv.1=k):=by
 unfold KV at r
 induction r with
 | nil=>rfl
 | cons h t ih=>rw[T7,T7,ih,h.1]
theorem KV.zAa{wW:List (κ×V)}{vs:List (κ×Value)}(r:KV wW vs)(k:κ)(ry:RelV y u) :
    KV (wW.map fun kv=>if kv.1=k then(kv.1,y) else kv) (vs.map fun kv=>if kv.1=k then(kv.1,u) else kv):=by
  unfold KV at r ⊢
  induction r with
  | nil=>exact .nil
  | @cons p q ps qs h t ih =>
    rw[D3,D3];refine .cons ?_ ih;obtain⟨h1,h2⟩:=h
    by_cases e:p.1=k
    · rw[if_pos e,if_pos (h1.symm.trans e)];exact⟨h1,ry⟩
    · rw[if_neg e,if_neg (fun z=>e (h1.trans z))];exact⟨h1,h2⟩
theorem KV.put{wW:List (κ×V)}{vs:List (κ×Value)}(r:KV wW vs)(k:κ)(ry:RelV y u):KV (BK wW k y) (stored vs k u):=by
 unfold BK stored;rw[r.any k]
 by_cases e:(vs.any fun kv=>decide (kv.1=k))=true
 ·rw[if_pos e,if_pos e];exact r.zAa k ry
 ·rw[if_neg e,if_neg e];exact Paired.snoc r ⟨rfl,ry⟩
theorem KV.length{wW:List (κ×V)}{vs:List (κ×Value)}(r:KV wW vs):wW.length=vs.length:=Paired.length r
end
variable {P:E5} {w:G3}
theorem IC{k:Aa}(r:RelV (kV k) u):(AQ P w).is k u=true:=by
 cases k with
 | inl i=>obtain⟨t,e⟩:=(show ∃t,u=g9 i t from r);subst e;exact MG P w i t
 | inr x=>obtain⟨t,e⟩:=(show ∃t,u=sH x t from r);subst e;exact MF P w x t
theorem Jj{P:E5}{w:G3}:∀{ks:List Aa} {us:List Value},AH (ks.map kV) us->ItemsAre (AQ P w) ks us
 | [],_,r=>by rw[W8] at r;cases r;exact .nil
 | k::ks,_,r=>by
  rw[D3] at r;cases r with
  | cons h t=>exact .cons (IC h) (Jj t)
abbrev KT(H:Hp):List (List Aa×V)->List (List Aa×B5×Value)->Prop:=Paired fun p q=>p.1=q.1/\H q.2.1=some (.tup (p.1.map kV))/\RelV p.2 q.2.2
variable {H:Hp} {wW:List (List Aa×V)} {xs:List (List Aa×B5×Value)}
theorem KT.val(r:KT H wW xs)(k:List Aa):FR (CZ wW k) ((k8 xs k).map (·.2)):=by
 induction r with
 | nil=>exact True.intro
 | @cons p q ps qs h t ih =>
  obtain⟨h1,_,h2⟩:=h
  by_cases e:p.1=k
  ·have e':q.1=k:=h1.symm.trans e;have b:k8 (q::qs) k=some q.2:=by simp[k8,Q8,e']
   rw[Cw e,b];exact h2
  ·have e':¬q.1=k:=fun z=>e (h1.trans z)
   have b:k8 (q::qs) k=k8 qs k:=by simp[k8,Q8,e']
   rw[Cy e,b];exact ih
theorem KT.zAa(r:KT H wW xs)(k:List Aa)(ry:RelV y u) :
    KT H (wW.map fun kv=>if kv.1=k then(kv.1,y) else kv) (xs.map (putAt k u)):=by
  induction r with
  | nil=>exact .nil
  | @cons p q ps qs h t ih =>
    rw[D3,D3];refine .cons ?_ ih;obtain⟨h1,h2,h3⟩:=h;unfold putAt
    by_cases e:p.1=k
    · rw[if_pos e,if_pos (h1.symm.trans e)];exact⟨h1,h2,ry⟩
    · rw[if_neg e,if_neg (fun z=>e (h1.trans z))];exact⟨h1,h2,h3⟩
theorem KT.put(r:KT H wW xs)(k:List Aa){b:B5}(hb:H b=some (.tup (k.map kV)))(ry:RelV y u) :
    KT H (BK wW k y) (vz xs k b u):=by
  have e:(wW.any fun kv=>decide (kv.1=k))=(k8 xs k).isSome:=by
    rw[HI,(r.val k).wq,T2]
  unfold BK vz;rw[e]
  by_cases q:(k8 xs k).isSome=true
  · rw[if_pos q,if_pos q];exact r.zAa k ry
  · rw[if_neg q,if_neg q];exact Paired.snoc r ⟨rfl,hb,ry⟩
variable {H':Hp}
theorem KT.keeps(r:KT H wW xs)(ht:∀b ys,H b=some (.tup ys)->H' b=some (.tup ys)):KT H' wW xs:=
 Paired.zAb r fun _ _ z=>⟨z.1,ht _ _ z.2.1,z.2.2⟩
section
variable {P:E5} {w:G3} {H:Hp} {h:F7} {a:B5}
theorem bc{u:HO}(ok:ES P w H h)(e:Rd H a u):AY P w H h a u:=e.ok ok
theorem Ju{wW:List (Aa×V)}(ok:ES P w H h)(e:Rd H a (.dK wW)):wW.length<=sizeLine/\(a == Q6)=false/\∃vs,KV wW vs/\h.DictOf (AQ P w) a vs:=
 show AY P w H h a (.dK wW) from bc ok e
theorem Mg{wW:List (Aa×V)}(ok:ES P w H h)(e:H a=some (.dK wW)):wW.length<=sizeLine/\(a == Q6)=false/\∃vs,KV wW vs/\h.DictOf (AQ P w) a vs:=Ju ok (.inl e)
theorem Ee{ks:List Aa}(ok:ES P w H h)(e:H a=some (.tup (ks.map kV))):(qk (AQ P w)).is h ks a:=by
 obtain⟨_,its,r,o,h1,h2,_,n,h3⟩:=(show AY P w H h a (.tup (ks.map kV)) from ok a _ e);exact⟨o,its.toArray,n,h1,h2,h3,by simpa using Jj r⟩
theorem Me(ok:ES P w H h)(e:Rd H a (.dT wW)):wW.length<=sizeLine/\(a == Q6)=false /\
    ∃xs,KT H wW xs/\h.DictOfH (qk (AQ P w)) a xs:=by
  obtain⟨z,y,xs,r,o,es,ep,h1,h2,h3,h4,h5⟩:=(show AY P w H h a (.dT wW) from bc ok e);refine⟨z,y,xs,r,o,es,ep,h1,h2,h3,h4,fun x hx=>?_,h5⟩;have all:∀{l:List (List Aa×V)} {m:List (List Aa×B5×Value)},KT H l m->∀x∈m,(qk (AQ P w)).is h x.1 x.2.1:=by
    intro l m q
    induction q with
    | nil=>intro x hx;exact nomatch hx
    | @cons p q ps qs hq t ih =>
      intro x hx;rcases D0.mp hx with e | hx
      · subst e;exact Ee ok (by rw[<- hq.1];exact hq.2.1)
      · exact ih x hx
  exact all r x hx
theorem Wo(ok:ES P w H h)(e:H a=some (.dT wW)):wW.length<=sizeLine/\(a == Q6)=false /\
    ∃xs,KT H wW xs/\h.DictOfH (qk (AQ P w)) a xs:=Me ok (.inl e)
end
def FS(H:Hp)(a:B5)(y:V)(r:Option V):Prop:=
 (∃wW k,Rd H a (.dK wW)/\y=kV k/\r=CZ wW k)\/∃wW k b,Rd H a (.dT wW)/\y=.ref b/\H b=some (.tup (k.map kV))/\r=CZ wW k
def Ei(H:Hp)(a:B5)(y v:V)(H':Hp):Prop:=
 (∃wW k,H a=some (.dK wW)/\y=kV k/\wW.length < sizeLine/\H'=upd H a (.dK (BK wW k v))) \/
 ∃wW k b,H a=some (.dT wW)/\y=.ref b/\H b=some (.tup (k.map kV))/\wW.length < sizeLine/\H'=upd H a (.dT (BK wW k v))
variable {a:B5}
theorem FS.k{wW:List (Aa×V)}{k:Aa}(e:H a=some (.dK wW)):FS H a (kV k) (CZ wW k):=.inl ⟨wW,k,.inl e,rfl,rfl⟩
theorem FS.t{b:B5}{k:List Aa}(e:H a=some (.dT wW))(eb:H b=some (.tup (k.map kV))):FS H a (.ref b) (CZ wW k):=.inr ⟨wW,k,b,.inl e,rfl,eb,rfl⟩
theorem Ei.k{wW:List (Aa×V)}{k:Aa}{v:V}(e:H a=some (.dK wW))(hl:wW.length < sizeLine):Ei H a (kV k) v (upd H a (.dK (BK wW k v))):=.inl ⟨wW,k,e,rfl,hl,rfl⟩
theorem Ei.t{b:B5}{k:List Aa}{v:V}(e:H a=some (.dT wW))(eb:H b=some (.tup (k.map kV)))(hl:wW.length < sizeLine) :
    Ei H a (.ref b) v (upd H a (.dT (BK wW k v))):=.inr ⟨wW,k,b,e,rfl,eb,hl,rfl⟩
variable {Q:Value->A6->Prop}
section
variable {X:Cx} {pins:List (B5×Obj)} {σ:St} {H:Hp} {s:A6} {a:B5} {y v:V} {u r:Value} {o:Option V} {A:F3} {E:Value->A6->Prop}
theorem Inv.big(I:Inv X pins σ H s):Q6 < s.heap.objs.size:=by
 have h:L6 < s.heap.objs.size:=(I.mod.glob.keeps I.bk).lt;exact U8 (by decide) h
theorem Se(hu:A.units+1 < G8)(I:Inv X pins σ H s)(g:FS H a y (some v))(ry:RelV y u)(h:∀w' s',Inv X pins σ H s'->RelV v w'->Q w' s') :
    B7 (C9 X.prog X.w) A (rD (.ref a) u) Q E s:=by
  rcases g with⟨wW,k,e,ey,l⟩ | ⟨wW,k,b,e,ey,eb,l⟩
  · subst ey;obtain⟨z,hd,vs,rel,dd⟩:=Ju I.wb e;obtain⟨w',hw,xo⟩:=FR.some_of (v:=v) (o:=sJ vs k) (by rw[l];exact rel.val k);exact wpAny_getItem_of (IC ry) dd.mapOf hw (h w' _ (I.tok _) xo)
  · subst ey;cases(show u=E2 b from ry);obtain⟨z,hd,xs,rel,dd⟩:=Me I.wb e;obtain⟨w',hw,xo⟩:=FR.some_of (v:=v) (o:=(k8 xs k).map (·.2)) (by rw[l];exact rel.val k);obtain⟨p,hp,hp2⟩:=D7.mp hw;refine sx (Y3 hu) (Ee I.wb eb) dd hp ?_;rw[hp2];exact h w' _ (I.tok _) xo
theorem lR(hu:A.units+1 < G8)(I:Inv X pins σ H s)(g:FS H a y o)(ry:RelV y u)(h:∀s',Inv X pins σ H s'->Q (.bool o.isSome) s') :
    B7 (C9 X.prog X.w) A (J0 .In u (.ref a)) Q E s:=by
  rcases g with⟨wW,k,e,ey,l⟩ | ⟨wW,k,b,e,ey,eb,l⟩
  · subst ey;obtain⟨z,hd,vs,rel,dd⟩:=Ju I.wb e;refine wpAny_in_of (IC ry) hd dd.mapOf ?_;rw[<- (rel.val k).wq,<- l];exact h _ (I.tok _)
  · subst ey;cases(show u=E2 b from ry);obtain⟨z,hd,xs,rel,dd⟩:=Me I.wb e;refine wpAny_in_heap (Y3 hu) (Ee I.wb eb) hd dd ?_;have q:=(rel.val k).wq;rw[T2] at q;rw[<- q,<- l];exact h _ (I.tok _)
theorem Qr(hu:A.units+1 < G8)(I:Inv X pins σ H s)(g:FS H a y o)(ry:RelV y u)(h:∀s',Inv X pins σ H s'->Q (.bool (!o.isSome)) s') :
    B7 (C9 X.prog X.w) A (J0 .NotIn u (.ref a)) Q E s:=by
  rcases g with⟨wW,k,e,ey,l⟩ | ⟨wW,k,b,e,ey,eb,l⟩
  · subst ey;obtain⟨z,hd,vs,rel,dd⟩:=Ju I.wb e;refine wpAny_notIn_of (IC ry) hd dd.mapOf ?_;rw[<- (rel.val k).wq,<- l];exact h _ (I.tok _)
  · subst ey;cases(show u=E2 b from ry);obtain⟨z,hd,xs,rel,dd⟩:=Me I.wb e;refine uX (Y3 hu) (Ee I.wb eb) hd dd ?_;have q:=(rel.val k).wq;rw[T2] at q;rw[<- q,<- l];exact h _ (I.tok _)
theorem Bx{h':F7}{t':Nat}{ob:HO}(I:Inv X pins σ H s)(mu:jB (H a))(hs:O4 a s.heap h')(he:∃q,h'.get? a=some q)(new:AY X.prog X.w (upd H a ob) h' a ob) :
    Inv X pins σ (upd H a ob) { s with heap:=h',toks:=t' }:=
  I.write (x:=a) (e:=a) mu (.inl rfl) (fun b q hb z=>(hs.2 b hb).trans z) he new
theorem Wr{H':Hp}{h':F7}{wW:List (Aa×V)}{vs:List (Aa×Value)}(z:wW.length<=sizeLine)(hd:(a == Q6)=false)(rel:KV wW vs)(dd:h'.DictOf (AQ P w) a vs) :
    AY P w H' h' a (.dK wW):=⟨z,hd,vs,rel,dd⟩
theorem Jv{Q:Unit->A6->Prop}(hu:A.units+1 < G8)(I:Inv X pins σ H s)(g:Ei H a y v H')(ry:RelV y u)(rv:RelV v r)(h:∀s',Inv X pins σ H' s'->Q () s') :
    B7 (C9 X.prog X.w) A (vC (.ref a) u r) Q E s:=by
  rcases g with⟨wW,k,e,ey,l,eH⟩ | ⟨wW,k,b,e,ey,eb,l,eH⟩
  · subst ey eH;obtain⟨z,hd,vs,rel,dd⟩:=Mg I.wb e;have hz:vs.length<=sizeLine:=by rw[<- rel.length];exact z
    have hl:(BK wW k v).length<=sizeLine:=by have:=Av wW k v;omega
    refine wpAny_setItem_pairs (hsz:=hz) (IC ry) dd fun h' dd' hs=>h _ ?_
    have he:∃q,h'.get? a=some q:=let ⟨q,_,_,hq,_⟩:=dd';⟨q,hq⟩;exact Bx I (by rw[e];exact True.intro) hs he (Wr hl hd (rel.put k rv) dd')
  · subst ey eH;cases(show u=E2 b from ry);obtain⟨z,hd,xs,rel,dd⟩:=Wo I.wb e;have hz:xs.length<=sizeLine:=by rw[<- Paired.length rel];exact z
    have hl:(BK wW k v).length<=sizeLine:=by have:=Av wW k v;omega
    refine sy (hsz:=hz) (Y3 hu) (Ee I.wb eb) dd fun h' dd' hs=>h _ ?_
    obtain⟨q,es,ep,hq,h2,h3,h4,_,h5⟩:=dd';refine Bx I (by rw[e];exact True.intro) hs ⟨q,hq⟩ ⟨hl,hd,_,(rel.put k eb rv).keeps fun c ys ec=>?_,q,es,ep,hq,h2,h3,h4,h5⟩;rw[AB (Ve ec e (fun z=>nomatch z))];exact ec
end
section
variable {X:Cx} {pins:List (B5×Obj)} {σ:St} {H:Hp} {s:A6} {a:B5} {wW:List (Aa×V)} {k:Aa} {u:Value} {A:F3} {E:Value->A6->Prop}
theorem lQ(I:Inv X pins σ H s)(e:Rd H a (.dK wW))(h:∀t s',Inv X pins σ H s'->Q (.int wW.length t) s'):B7 (C9 X.prog X.w) A (call (.builtin "len") [.ref a]) Q E s:=by
 obtain⟨z,hd,vs,rel,dd⟩:=Ju I.wb e;refine call_len_dict hd dd (by rw[<- rel.length];rw[K0] at z;omega) ?_;rw[<- rel.length];exact h _ _ (I.tok _)
end
theorem Mh{X:Cx}{pins:List (B5×Obj)}{σ:St}{s:A6}{o:Option V}(I:Inv X pins σ H s)(g:FS H a y o):s.TypeIs (.ref a) "dict" := by
 rcases g with⟨wW,k,e,_,_⟩ | ⟨wW,k,b,e,_,_,_⟩
 ·obtain⟨_,_,vs,_,dd⟩:=Ju I.wb e;exact dd.typeIs
 ·obtain⟨_,_,xs,_,dd⟩:=Me I.wb e;exact dd.typeIs
theorem IQ(h:F7)(hb:Q6 < h.objs.size):AY P w H (h.push { cls:=.type "dict", data:=.dict #[] }) h.objs.size (.dK []):=
 ⟨E7 _,beq_eq_false_iff_ne.mpr (Ne.symm (C8 hb)),[],.nil,wU h⟩
theorem Wp(h:F7)(hb:Q6 < h.objs.size):AY P w H (h.push { cls:=.type "dict", data:=.dict #[] }) h.objs.size (.dT []):=
 ⟨E7 _,beq_eq_false_iff_ne.mpr (Ne.symm (C8 hb)),[],.nil,_,#[],0,B4 _ rfl,⟨rfl,rfl,rfl⟩,rfl,rfl,vR⟩
abbrev dk:TE:=fun _ H Q=>∀p,H p=none->Q (.ref p) (upd H p (.dK []))
section
variable {X:Cx} {pos:Pos}
theorem VU:PE X (.Dict [] [] pos) dk:=fun pins s σ H Q I h =>
 wpAny_Dict_empty ⟨.ref s.heap.objs.size,_,I.laid (a:=s.heap.objs.size) (o:=.dK []) (t':=s.toks) (fun _ _ q=>A2 _ q) (B0 _) (IQ s.heap I.big),rfl,h _ (I.wb.fresh (B0 _))⟩
end
section
variable {X:Cx}
theorem Sw:As X (.builtin "len") (fun xs H Q=>∃a wW,xs=[V.ref a]/\H a=some (.dK wW)/\Q (.int wW.length) H):=by
 intro pins s σ H xs us Q I r h;obtain⟨a,wW,rfl,ha,q⟩:=h;obtain⟨u,rfl,ru⟩:=vals1 r;cases ru;exact lQ I (.inl ha) fun t s' I'=>⟨.int wW.length,H,I',⟨t,rfl⟩,q⟩
end
theorem Ki:sj (.type "list") "keys" = pure none:=uz (by decide +kernel)
theorem QO{prog:E5}{w:G3}{A:F3}{E:Value->A6->Prop}{s:A6}{a:B5}{o:Obj}{xs:Array Value}{k:Nat}{Q:Option Value->A6->Prop}
    (hx:s.heap.get? a=some o) (hc:o.cls=.type "list") (zAm:o.data=.seq xs k) (hd:o.dict=none) (hA:A.handled=none)
    (h:∀h' tk,(∀b o,s.heap.get? b=some o->h'.get? b=some o)->Q none { s with heap:=h',toks:=tk }) :
    B7 (C9 prog w) A (vS (.ref a) "keys") Q E s:=by
  obtain⟨c,xH,dat,sl⟩:=o;simp only at hc zAm hd;subst hc zAm hd;obtain⟨hp,g,d,tk,os⟩:=s
  have hT:∀tk',(⟨hp,g,d,tk',os⟩:A6).TypeIs (.ref a) "list" := fun _=>⟨_,hx,rfl⟩
  have f1:=tB;have f3:=F.slot_list_getattribute.lookup;have f4:=F.slot_list_getattribute.bind (.ref a);have f5:=am_list_getattr_none;unfold vS getAttrBy? getAttrBy
  repeat (any_goals (first | assumption | exact hT _ | ((with_reducible show B7 _ _ (call (sP "list.__getattribute__") _ _) _ _ _);refine call_meets F.slot_list_getattribute (hT _) am_entry_list_getattribute (F.args_list_getattribute_2 _ _) (meets_getattribute_miss_list a xs k sl "keys" _ Ki (by decide +kernel) (by decide +kernel)) ⟨hx,hA,fun h' tk' e ze=>?_⟩) | wp_step))
  obtain⟨t',u',he⟩:=ze.there;show B7 _ _ (Y4 _ _ _ _ _ _ _) _ _ _;unfold Y4
  repeat (any_goals (first | assumption | wp_step))
  exact h _ _ ze.keeps
theorem AZ:vT table "dict.update.loop" = some M8.«dict.update.loop»:=uY (by kernel_rfl)
theorem AG:plainId "dict.update.loop" = true:=by decide +kernel
section
variable {X:Cx} {pins:List (B5×Obj)} {σ:St} {H:Hp} {s:A6} {a:B5} {y v:V} {u r:Value} {A:F3} {E:Value->A6->Prop}
theorem GO{Q:Unit->A6->Prop}(hu:A.units+1 < G8)(I:Inv X pins σ H s)(g:Ei H a y v H')(ry:RelV y u)(rv:RelV v r)(h:∀s',Inv X pins σ H' s'->Q () s') :
    B7 (C9 X.prog X.w) A (dictSet a u r) Q E s:=by
  rcases g with⟨wW,k,e,ey,l,eH⟩ | ⟨wW,k,b,e,ey,eb,l,eH⟩
  · subst ey eH;obtain⟨z,hd,vs,rel,dd⟩:=Mg I.wb e;have hz:vs.length<=sizeLine:=by rw[<- rel.length];exact z
    have hl:(BK wW k v).length<=sizeLine:=by have:=Av wW k v;omega
    refine wpAny_dictSet_pairs (hsz:=hz) (IC ry) dd fun h' dd' hs=>h _ ?_
    have he:∃q,h'.get? a=some q:=let ⟨q,_,_,hq,_⟩:=dd';⟨q,hq⟩;exact Bx I (by rw[e];exact True.intro) hs he (Wr hl hd (rel.put k rv) dd')
  · subst ey eH;cases(show u=E2 b from ry);obtain⟨z,hd,xs,rel,dd⟩:=Wo I.wb e;have hz:xs.length<=sizeLine:=by rw[<- Paired.length rel];exact z
    have hl:(BK wW k v).length<=sizeLine:=by have:=Av wW k v;omega
    refine wpAny_dictSet_heap (hsz:=hz) (knd:=qk (AQ X.prog X.w)) (show A.units < G8 by omega) (Ee I.wb eb) dd fun h' dd' hs=>h _ ?_
    obtain⟨q,es,ep,hq,h2,h3,h4,_,h5⟩:=dd';refine Bx I (by rw[e];exact True.intro) hs ⟨q,hq⟩ ⟨hl,hd,_,(rel.put k eb rv).keeps fun c ys ec=>?_,q,es,ep,hq,h2,h3,h4,h5⟩;rw[AB (Ve ec e (fun z=>nomatch z))];exact ec
end
def oO(H:Hp)(x:V)(p:List Aa×V):Prop:=∃t b,x=.ref t/\H t=some (.tup [.ref b,p.2])/\H b=some (.tup (p.1.map kV))
def CP{κ:Type} [DecidableEq κ] (wW:List (κ×V)) (ps:List (κ×V)):List (κ×V):=ps.foldl (fun k p=>BK k p.1 p.2) wW
section
variable {X:Cx} {pins:List (B5×Obj)} {σ:St} {l it d:B5} {xs:List V} {ps:List (List Aa×V)} {H0:Hp} {R:uS->A6->Prop}
theorem OK{A:F3}(hh:A.handled=none)(hu:A.units+3 < G8)(YE:H0 d=none)(hl:H0 l=some (.lst xs))(hlen:xs.length=ps.length)(hps:∀(i:Nat) x p,xs[i]?=some x->ps[i]?=some p->oO H0 x p) :
    ∀(n i:Nat) (j:Int) (wW:List (List Aa×V)) (s:A6),xs.length - i=n->i<=xs.length->wW.length<=i->Inv X pins σ (upd H0 d (.dT wW)) s->s.heap.IsListIter it l i->we X pins (upd H0 d (.dT wW)) it ->
    (∀s',Inv X pins σ (upd H0 d (.dT (CP wW (ps.drop i)))) s'->R (.ok (.ret .none)) s') ->
    X8 (C9 X.prog X.w) A (.builtin "dict.update.loop" ⟨[.ref d,.ref it,S6 j,.none],[]⟩) R s:=by
  have hld:l≠d:=AO hl YE;intro n
  induction n with
  | zero =>
    intro i j wW s hn hi hk I st hf hR;have e:i=xs.length:=by omega
    subst e;obtain⟨its,rv,p,hz⟩:=I.list (Ff (show upd H0 d (.dT wW) l=some (.lst xs) by rw[AB hld];exact hl));have hlv:=rv.length;refine H8 AZ ?_;rw[G5 AG _];show B7 _ A.in1 (W3 (.ref it) >>= _) _ _ s;obtain⟨f0,f1,f2,f3,f4,f5⟩:=hf;refine A0 (V5 (show A.in1.handled=none from hh) st p.isList (by simp;omega) fun h' eb=>?_);have I1:Inv X pins σ (upd H0 d (.dT wW)) { s with heap:=h' }:=I.turned (t':=s.toks) (fun b o hb e=>eb b o hb e) f0 f1 f3 f4 f5;refine A0 (A4 ?_);refine A4 (hR _ ?_);rw[Z3 (by omega)];exact I1
  | succ n ih =>
    intro i j wW s hn hi hk I st hf hR;have w6:i < xs.length:=by omega
    obtain⟨its,rv,p,hz⟩:=I.list (Ff (show upd H0 d (.dT wW) l=some (.lst xs) by rw[AB hld];exact hl));have hlv:=rv.length;obtain⟨u,hu',ru⟩:=rv.get (A3 w6);have yJ:i < ps.length:=by omega
    obtain⟨t,b,ex,ht,hb⟩:=hps i xs[i] ps[i] (A3 w6) (A3 yJ);rw[ex] at ru;cases ru;refine H8 AZ ?_;rw[G5 AG _];show B7 _ A.in1 (W3 (.ref it) >>= _) _ _ s;have hf0:=hf;obtain⟨f0,f1,f2,f3,f4,f5⟩:=hf;refine A0 (U6 st p.isList (x:=.ref t) (by simpa using hu') fun h' yR sb=>?_);have I1:Inv X pins σ (upd H0 d (.dT wW)) { s with heap:=h' }:=I.turned (t':=s.toks) (fun b o hb e=>(sb.2 b hb).trans e) f0 f1 f3 f4 f5;have ht':upd H0 d (.dT wW) t=some (.tup [.ref b,(ps[i]).2]):=by rw[AB (AO ht YE)];exact ht
    have hb':upd H0 d (.dT wW) b=some (.tup ((ps[i]).1.map kV)):=by rw[AB (AO hb YE)];exact hb
    obtain⟨wg,rv2,p2,hz2⟩:=I1.tuple (HN ht');cases rv2 with
    | cons q1 rr =>
      cases rr with
      | cons q2 rr =>
        cases rr;cases q1;obtain⟨ot,hot,hct,nt,hdt⟩:=p2;refine A0 (E8 (A0 (sA ?_)));unfold Z4
        refine A0 (M1 (T := "tuple") ⟨ot,hot,hct⟩ ?_)
        rw[if_pos (by decide)];refine A0 (H9 hot hdt ?_);refine A4 ?_;have zV:it≠d:=by intro z;rw[z,AF] at f0;cases f0
        obtain⟨oi,hoi,hci,hdi⟩:=id yR;have I1p:Inv X (pins++Eb [it] h') σ (upd H0 d (.dT wW)) { s with heap:=h' }:=Inv.pinned (s:={ s with heap:=h' }) (fp:=[it]) I1 (fun b hb=>by rw[D4.mp hb];exact hf0) fun b hb=>by
          rw[D4.mp hb];exact⟨oi,hoi,fun v z=>by rw[hdi] at z;cases z⟩
        have hkl:wW.length < sizeLine:=by omega
        have g:Ei (upd H0 d (.dT wW)) d (.ref b) (ps[i]).2 (upd (upd H0 d (.dT wW)) d (.dT (BK wW (ps[i]).1 (ps[i]).2))):=Ei.t AF hb' hkl;rw[KL] at g;refine E8 (GO (show A.units+1+1 < G8 by omega) I1p g rfl q2 fun s2 I2=>?_);have zAk:s2.heap.get? it=some oi:=(I2.pin (it,oi) (A9 _ (A9 _ (BM (h:=h') (D4.mpr rfl) hoi)))).1;have I3:=I2.xJ;refine A4 ⟨O7 AG _,ih (i+1) (j+1) (BK wW (ps[i]).1 (ps[i]).2) s2 (by omega) w6 (by have:=Av wW (ps[i]).1 (ps[i]).2;omega) I3 ⟨oi,zAk,hci,hdi⟩ ⟨by rw[AB zV];rw[AB zV] at f0;exact f0,f1,f2,f3,f4,f5⟩ fun s' I'=>hR s' ?_⟩;rw[L0 yJ];exact I'
def Uu:List V->Hp->VK->Prop:=fun vs H Q=>∃(l:B5) (xs:List V) (ps:List (List Aa×V)),vs=[.ref l]/\H l=some (.lst xs)/\xs.length=ps.length/\(∀(i:Nat) x p,xs[i]?=some x->ps[i]?=some p->oO H x p)/\∀d,H d=none->Q (.ref d) (upd H d (.dT (CP [] ps)))
theorem Ow{j:Nat}(hr:wo j X.A)(hc:X.calm=true:=by rfl):As X (.type "dict") Uu:=by
 intro pins s σ H vs us Q I r h;obtain⟨l,xs,ps,rfl,hl,hlen,hps,q⟩:=h;obtain⟨u,rfl,rx⟩:=vals1 r;cases rx;have hun:=hr.un;have hh:=I.ok.hd hc
 refine sC (Q₁:=fun obj wY=>obj=.ref s.heap.objs.size/\wY={ s with heap:=s.heap.push { cls:=.type "dict", data:=.dict #[] } }) Z5 (W4 _) Y7 (qt _ ⟨rfl,rfl⟩) ?_
 rintro obj wY ⟨rfl,rfl⟩
 have I0:Inv X pins σ (upd H s.heap.objs.size (.dT [])) { s with heap:=s.heap.push { cls:=.type "dict", data:=.dict #[] } }:=
  I.laid (a:=s.heap.objs.size) (o:=.dT []) (t':=s.toks) (fun _ _ q=>A2 _ q) (B0 _) (Wp s.heap I.big)
 have yd:=I.wb.fresh (B0 s.heap.objs.size);have hld:l≠s.heap.objs.size:=AO hl yd
 have hT:k4 { s with heap:=s.heap.push { cls:=.type "dict", data:=.dict #[] } } (.ref s.heap.objs.size) "dict" := ⟨_,B4 _ rfl,rfl⟩
 generalize hs1:({ s with heap:=s.heap.push { cls:=.type "dict", data:=.dict #[] } }:A6)=s1 at I0 hT
 refine⟨hT,X5 _ _,?_⟩;unfold M8.«dict.__init__»;refine A0 ?_;unfold X6;refine A0 (e9 hT ?_);show B7 _ _ (pure (s.heap.objs.size,[E2 l])) _ _ _;refine A4 ?_
 show B7 _ _ (M7 "dict.__init__" s.heap.objs.size (.ref l) [] .none) _ _ _
 unfold M7;obtain⟨its,rv,p,hz⟩:=I0.list (Ff (show upd H s.heap.objs.size (.dT []) l=some (.lst xs) by rw[AB hld];exact hl));obtain⟨o,n,ho,hco,hnd,hdo⟩:=id p
 refine A0 (M1 (T := "list") ⟨o,ho,hco⟩ ?_)
 rw[if_pos (by decide)];refine A0 ?_;refine QO ho hco hdo hnd (show X.A.in1.in1.handled=none from hh) fun h2 zM k2=>?_
 have I2:Inv X pins σ (upd H s.heap.objs.size (.dT [])) { s1 with heap:=h2,toks:=zM }:=I0.kept k2;rw[if_pos (by decide)];refine A0 (Q5 ?_);refine A0 (Q0 (s:={ s1 with heap:=h2,toks:=zM }) (p.isList.at fun o e=>k2 _ o e) ?_)
 have I3:Inv X pins σ (upd H s.heap.objs.size (.dT [])) { s1 with heap:=h2.push { cls:=.type "list_iterator", data:=.fields #[.ref l,.int 0 0] },toks:=zM }:=Inv.kept (s:={ s1 with heap:=h2,toks:=zM }) (t':=zM) I2 fun b o e=>A2 _ e
 refine A4 ⟨O7 AG _,OK (X:=X) (A:=X.A.in1) (H0:=H) (it:=h2.objs.size) (d:=s.heap.objs.size) (show X.A.in1.handled=none from hh) (show X.A.units+1+3 < G8 by omega) yd hl hlen hps xs.length 0 0 [] _ (by omega) (E7 _) (B0 _) I3 ⟨_,B4 _ rfl,rfl,rfl⟩ (I2.wc (B0 _) (I2.wb.fresh (B0 _))) fun s' I'=>⟨rfl,.ref s.heap.objs.size,_,I',rfl,q _ yd⟩⟩
end
noncomputable abbrev pq:=List Int×T
def gK(pl:List Int)(i:Nat):List T->List pq
 | []=>[]
 | k::ks=>(pl++[(i:Int)],k)::gK pl (i+1) ks
mutual
noncomputable def T.dp:T->Nat
 | .leaf _ _=>0
 | .op _ m n=>max (m.dp+1) (max (n.dp+1) 0)
 | .many _ _ ts=>iq ts
 | .zCz _ a b=>max (a.dp+1) (max (b.dp+1) 0)
 | .loop _ n _ a b=>max (n.dp+1) (max (a.dp+1) (max (b.dp+1) 0))
 | .pick n ts=>max (n.dp+1) (iq ts)
noncomputable def iq:List T->Nat
 | []=>0
 | t::ts=>max (t.dp+1) (iq ts)
end
section
variable {X:Cx}
def Ux:List V->Hp->VK->Prop:=fun vs H Q=>∃a wW,vs=[.ref a]/\H a=some (.dK wW)/\∀d,H d=none->Q (.ref d) (upd H d (.dK wW))
theorem Oz:As X (.type "dict") Ux:=by
 intro pins s σ H vs us Q I r h;obtain⟨a,wW,rfl,ha,q⟩:=h;obtain⟨u,rfl,rx⟩:=vals1 r;cases rx;obtain⟨z,hs,ws,rel,dd⟩:=Mg I.wb ha;have hz:ws.length<=sizeLine:=by rw[<- rel.length];exact z
 refine kt_call_dict hs dd hz fun h' dd' sb=>?_
 have hk:∀b o,s.heap.get? b=some o->h'.get? b=some o:=fun b o e=>(sb.2 b (C8 (C3 e))).trans (A2 _ e)
 refine⟨.ref s.heap.objs.size,_,I.laid (t':=s.toks) (o:=.dK wW) hk (B0 _) ⟨z,?_,ws,rel,dd'⟩,rfl,q _ (I.wb.fresh (B0 _))⟩;exact beq_eq_false_iff_ne.mpr (Ne.symm (C8 I.big))
end
noncomputable def jn(sep:List Nat):List (List Nat)->List Nat
 | []=>[]
 | x::ys=>x++(ys.flatMap fun y=>sep++y)
theorem jC(sep:List Nat):∀ys:List (List Nat),wG (tx sep) (ys.map tx)=tx (jn sep ys):=by
 intro ys;have h:wG (tx sep) (ys.map tx)=vU (tx sep) (ys.map tx):=by simpa using join_plain_closes (tx sep) (ys.map tx)
 rw[h];have:∀(x:List Nat) (ys:List (List Nat)),vU (tx sep) ((x::ys).map tx)=tx (x++(ys.flatMap fun y=>sep++y)):=by
  intro x ys
  induction ys generalizing x with
  | nil=>simp[vU]
  | cons y ys ih =>
   show tx x++tx sep++vU (tx sep) ((y::ys).map tx)=_;rw[ih y,NY,NY];simp
 cases ys with
 | nil=>rfl
 | cons x ys=>exact this x ys
theorem dS(ys:List (List Nat)):((ys.map tx).map (·.length)).sum=(ys.map O8).sum:=by
 rw[F0];congr 1
section
variable {prog:E5} {w:G3} {A:F3} {E:Value->A6->Prop} {s:A6}
theorem Mq{l:B5}{T:String}{o:Obj}{n:Nat}{vs:List Value}{Q:List Value->A6->Prop}(hT:T = "list" \/ T = "tuple")(ho:s.heap.get? l=some o)(hc:o.cls=.type T)(hd:o.data=.seq vs.toArray n)
    (h:Q vs { s with heap:=(s.heap.push (K7 "list" #[] 0)).update s.heap.objs.size (F2 (·++vs.toArray)) }) (hsz:vs.length<=sizeLine) :
    B7 (C9 prog w) A (v5 (.ref l)) Q E s:=by
  unfold v5;refine A0 (qH (H8 entry_proto_collect' ?_))
  show B7 _ _ (do again (.builtin "list.__iadd__" ⟨[<- v7 [],.ref l],[]⟩)) _ _ s
  refine A0 (qf (A4 ⟨tD _ (by decide +kernel),H8 entry_list_iadd' ?_⟩))
  show B7 _ _ (K5 (.ref s.heap.objs.size) (.ref l) (.ref s.heap.objs.size)) _ _ { s with heap:=s.heap.push (K7 "list" #[] 0) }
  unfold K5
  have zT:(s.heap.push (K7 "list" #[] 0)).get? l=some o:=A2 _ ho
  refine A0 (M1 (T:=T) ⟨o,zT,hc⟩ ?_)
  have ht:((T8 (.ref s.heap.objs.size) (.ref l) || G2 T == G2 "list") || G2 T == G2 "tuple")=true:=by
    rcases hT with rfl | rfl
    · have:(G2 "list" == G2 "list")=true:=by rfl
      rw[this];simp
    · have:(G2 "tuple" == G2 "tuple")=true:=by rfl
      rw[this];simp
  rw[if_pos ht];refine A0 (o7 zT hd ?_);refine A0 (o7 (xs:=#[]) (n:=0) (B4 _ rfl) rfl ?_);rw[if_neg (by simp)];refine A0 (k5 (xs:=#[]) (n:=0) (B4 _ rfl) rfl ?_ (E7 _) (by show(#[]++vs.toArray).size<=sizeLine+1;simp only[tu,A7,Y1];omega));refine A4 ?_;show B7 (C9 prog w) A (do
      let o <- load s.heap.objs.size
      match o.data with
      | .seq xs _=>pure xs.toList
      | _=>unsupported "internal:collect") Q E { s with heap:=(s.heap.push (K7 "list" #[] 0)).update s.heap.objs.size (F2 (·++vs.toArray)) }
  refine A0 (vJ (V2 (B4 _ rfl) _) ?_);show B7 _ _ (pure ((#[]:Array Value)++vs.toArray).toList) Q E _;rw[show((#[]:Array Value)++vs.toArray).toList=vs by simp];exact A4 h
theorem KR(h:F7)(vs:List Value)(out:Array Value):∃c,(uZ h vs out).get? (h.objs.size+1)=some { cls:=.type "list", dict:=none,data:=.seq out c,slots:=#[] }:=by
 unfold uZ tF
 have hsz:((h.push (K7 "list" #[] 0)).update h.objs.size (F2 (·++vs.toArray))).objs.size=h.objs.size+1:=by rw[ua,size_push']
 have hoL:(((h.push (K7 "list" #[] 0)).update h.objs.size (F2 (·++vs.toArray))).push (K7 "list" vs.toArray 0)).get? (h.objs.size+1)=some (K7 "list" vs.toArray 0):=by
  rw[<- hsz];exact B4 _ rfl
 have h1:=V2 hoL (fun _=>#[])
 have h2:=V2 (A2 (K7 "list" #[] 0) (A2 (K7 "tuple" vs.toArray 0) h1)) (fun _=>out)
 exact⟨_,h2⟩
theorem Iq(h:F7)(vs:List Value)(out:Array Value){b:B5}{o:Obj}(e:h.get? b=some o):(uZ h vs out).get? b=some o:=by
 have hb:b < h.objs.size:=C3 e;have n0:b≠h.objs.size:=C8 hb;have n1:b≠h.objs.size+1:=C8 (N5 hb);unfold uZ tF;refine(O0 _ _ _ _ n1).trans ?_;refine A2 _ (A2 _ ?_);refine(O0 _ _ _ _ n1).trans ?_;refine A2 _ ?_;refine(O0 _ _ _ _ n0).trans ?_;exact A2 _ e
end
theorem Kn:∀{ns:List Int} {its:List Value},AH (ns.map V.int) its->W7 its ns
 | [],_,.nil=>.nil
 | n::ns,_,.cons r rs=>by obtain⟨t,rfl⟩:=r;exact .cons _ _ (Kn rs)
theorem Qc:∀{ns:List Int} {its:List Value},W7 its ns->AH (ns.map V.int) its
 | _,_,.nil=>.nil
 | _,_,.cons n t rs=>.cons ⟨t,rfl⟩ (Qc rs)
end L2
namespace L2
open PySem PySem.Spec PyProof.Rows PySem.Builtin PySem.Builtin.Str
variable {X:Cx}
def Ls:V->List V->Hp->VK->Prop:=fun x vs H Q=>∃l b xs zs,x=.ref l/\vs=[.ref b]/\H l=some (.lst xs)/\H b=some (.tup zs)/\xs.length+zs.length<=sizeLine/\Q .wa (upd H l (.lst (xs++zs)))
theorem OQ:dD X "list.extend" Ls:=by
 intro pins s σ H x vs v us Q I rx rv h;obtain⟨l,b,xs,zs,rfl,rfl,hH,hB,hz,q⟩:=h;cases rx;obtain⟨u,rfl,ru⟩:=rv.one;cases ru;obtain⟨z,its,n,r,hl,e⟩:=I.zB hH;obtain⟨wg,r2,⟨o,ho,hc,n2,hd⟩,_⟩:=I.tuple (a:=b) (xs:=zs) (.inl (.inl hB));have xp:=r2.length;have hsz:its.toArray.size+wg.toArray.size<=sizeLine:=by rw[A7,A7];omega
 have zU:¬(!its.toArray.isEmpty && O6 (its.toArray.size+wg.toArray.size))=true:=by
  rw[Hs hsz,qF];exact C7
 refine F9 F.slot_list_extend ⟨_,e,rfl⟩ F.entry_list_extend ?_ (F.args_list_extend_2 _ _);show B7 _ _ (K5 (.ref l) (.ref b) .none) _ _ s;unfold K5
 refine A0 (M1 (T := "tuple") ⟨o,ho,hc⟩ ?_)
 have ht:((T8 (.ref l) (.ref b) || G2 "tuple" == G2 "list") || G2 "tuple" == G2 "tuple")=true:=by
  have:(G2 "tuple" == G2 "tuple")=true:=by rfl
  rw[this];simp
 rw[if_pos ht];refine A0 (o7 ho hd ?_);refine A0 (o7 e rfl ?_);rw[if_neg zU];refine A0 (k5 e rfl ?_ (by rw[A7];omega) (by rw[tu];omega));refine A4 ?_;refine⟨_,rfl,.wa,_,I.zAc (its':=its++wg) hH e (by simp) (r.append r2) ?_,rfl,q⟩;rw[D2];omega
end L2
namespace HT
open PySem PyProof.Rows
section
open PySem.SeqAt
open PySem.AutoSeq1 (wpAny_loadPart')
open PySem.MeetsSeq PySem.MeetsSeq2 PySem.MeetsSeq3
end
end HT
namespace L2
open PySem PySem.Spec PyProof.Rows
end L2
namespace L2
open PySem
abbrev bS(l:W.OpenLaw)(n:Nat)(as:List B5)(K:so->W.Frag)(N:Nat):Prop:=
 W.LeftO l.row.prog (W.view l.prog (B3 n)) [] (fun s=>W.xlAt (W.view l.prog (B3 n)) [] s && W.recOk [] s) (fun s=>as.map s.heap.get?) (fun w=>(K w.params).map fun p=>some p.2) N
theorem zBj{l:W.OpenLaw}{n:Nat}{N:Nat}{d:vw}{K:so->W.Frag}{as:List B5}(ws:l.wellSaid=true)(left:bS l n as K N)
    (has:∀P,as=(K P).map (·.1)) (hr:l.row.records=[]) (zDY:W.defOf (W.view l.prog (B3 n)) l.row.name=some (d,[])) (hp:l.row.prog.theDef l.row.name=some (d.params,d.body,d.scope)) (hk:W.kwWritten? d.params.kwonlyargs d.params.kw_defaults=some [])
    (hwr:(!l.row.writes || l.row.records.isEmpty)=true)
    (ok:(W.chainsOk (W.view l.prog (B3 n)) && W.opensWell l.row.prog && (W.frees l.row.toRowW && l.row.within.isEmpty))=true) (hb:l.row.prog.bare) (hw:l.row.toRowW.promised)
    (call:W.WalkO (W.view l.prog (B3 n)) [] (W.XL (W.view l.prog (B3 n)) []) (W.InK K) l.row.toRowW d [] fun f vs=>sr f vs):l.Holds:=
  W.holds_law ws fun zCq=>W.holds_open (q:=W.view l.prog (B3 n)) (loose:=[]) (XP:=W.XL (W.view l.prog (B3 n)) []) (YP:=W.InK K) left (W.InK.of has) W.InK.keeps (fun s e=>W.xl_of s (W5.mp e).1) W.XL.keeps zDY hp hk (fun s e=>W.recFacts_nil hr) hwr zCq ok hb hw call
noncomputable abbrev ke(P:so)(x:Str)(t:Tok)(v:Value):DictEntry:=⟨PyData.keyHash P x,.str x t,v⟩
noncomputable abbrev cO(x:Str)(t:Tok)(l a s:Int)(r1 r2:B5)(v1 v2 v3:Value)(r3:B5)(t2:Nat):Obj:=⟨.type "code", none,.fields #[.str x t,.str x (t+1),.str "/claim/cut.py" (t+2),.int l 0,.int a 0,.int 0 0,.int 0 0,.int s 0,.ref r1,.bool true,.int 181 0,.ref r2,v1,v2,v3,.ref r3,.int t2 0,.int l 0,.str "/claim/cut.py" (t2+1)],#[]⟩
noncomputable def hZ:M4->Pos
 | .FunctionDef _ _ _ _ _ _ _ _ _ p=>p
 | _=>⟨0,0,0,0⟩
noncomputable def Ku(K:W.Frag)(n:Str):B5:=match W.nsIn K L6 n with
 | some (some (.ref a))=>a
 | _=>0
noncomputable def fE(K:W.Frag)(f:B5):Value:=match K.lookup f with
 | some ⟨_,_,.func d,_⟩=>d.pyModule
 | _=>.none
noncomputable def aR(K:W.Frag)(f:B5):Value:=match K.lookup f with
 | some ⟨_,_,.func d,_⟩=>d.code
 | _=>.none
abbrev GF(K:W.Frag)(n:Str)(t:M4):Prop:=W.nsIn K L6 n=some (some (.ref (Ku K n))) /\
 K.lookup (Ku K n)=some ⟨.type "function", none,.func (W.fnOf n n (Ax t) (Ae t) (AJ t) .none .none .none (fE K (Ku K n)) none (aR K (Ku K n)) .none),#[]⟩ /\
 W.codeIn K (aR K (Ku K n)) n=true/\W.keepIn K (.ref (Ku K n))=true
theorem Ob{K:W.Frag}{n:Str}{t:M4}(h:GF K n t):Fun K n n t (Ku K n) (W.fnOf n n (Ax t) (Ae t) (AJ t) .none .none .none (fE K (Ku K n)) none (aR K (Ku K n)) .none):=gZ h.2.1 h.2.2.1 h.2.2.2
end L2
namespace R
open PySem L2
set_option genInjectivity true in
inductive Dv where
 | wa | bl (b:Bool) | int (i:Int) | str (x:List Nat) | tup (xs:List Dv) | lst (xs:List Dv) | xH (ks:List Aa) (xs:List Dv) | ref (k:Nat) | xQ (ns:List Int) | ty (n:String) | mtp (ls:List (List Nat)) | zZ (ks:List (List Aa)) (xs:List Dv) | yh (ks:List (NK Aa)) (xs:List Dv) | obj (c:Str) (fl nm:List Str) (xs:List Dv)
 deriving Inhabited
structure G where
 Z:B5->Prop
 μ:List B5
noncomputable abbrev Fp:=B5->Prop
def Bp(P Q:Fp):Prop:=∀a,P a->Q a->False
def wX:Fp:=fun _=>False
def Lk(g:G)(H:Hp)(o:Nat)(a:B5)(vs:List V):Prop:=H a=some (.lst vs)/\(o=0->g.Z a)/\(o≠0->¬g.Z a)
def nA(K:W.Frag)(H:Hp)(a:B5)(ns:List Int):Prop:=(∃o,H a=some (.zz o (.lst (ns.map V.int)))) \/
    ∃(o:Obj) (its:Array Value) (n:Nat),K.lookup a=some o/\o.cls=.type "list" /\ o.dict=none/\o.data=.seq its n/\its.size<=sizeLine/\AH (ns.map V.int) its.toList
theorem nA.sq{K:W.Frag}{H:Hp}{a:B5}{ns:List Int}(h:nA K H a ns):Ca K H a (ns.map V.int):=h.elim (fun h=>.inl (.inr h)) .inr
def pv(K:W.Frag)(a:B5)(ls:List (List Nat)):Prop:=∃(o:Obj) (its:Array Value) (n:Nat),K.lookup a=some o/\o.cls=.type "tuple" /\ o.data=.seq its n/\its.size<=sizeLine/\AH (ls.map fun l=>V.str (tx l)) its.toList
def mZ(K:W.Frag)(c:Str)(fl:List Str):Prop:=Cls K (Ku K c)/\∀f∈fl,LP K (Ku K c) f
mutual
noncomputable def Rep(K:W.Frag)(g:G)(H:Hp):Nat->Dv->V->Fp->Prop
 | _,.wa,v,P=>v=.wa/\∀a,¬P a
 | _,.bl b,v,P=>v=.bl b/\∀a,¬P a
 | _,.int i,v,P=>v=.int i/\∀a,¬P a
 | _,.str l,v,P=>v=.str (tx l)/\∀a,¬P a
 | o,.tup ds,v,P=>∃a vs,v=.ref a/\H a=some (.tup vs)/\AA K g H (o - 1) ds vs P
 | o,.lst ds,v,P=>∃a vs P',v=.ref a/\Lk g H o a vs/\AA K g H (o - 1) ds vs P'/\¬P' a/\∀b,P b↔(o≠0/\b=a)\/P' b
 | o,.xH ks ds,v,P=>∃a vs,v=.ref a/\H a=some (.dK (ks.zip vs))/\(o=0->g.Z a)/\(o≠0->¬g.Z a)/\(ks.length=ds.length/\∃R,AA K g H 0 ds vs R)/\∀b,P b↔(o≠0/\b=a)
 | _,.ref k,v,P=>(∃a,g.μ[k]?=some a/\v=.ref a)/\∀a,¬P a
 | _,.xQ ns,v,P=>(∃a,v=.ref a/\nA K H a ns)/\∀a,¬P a
 | _,.ty n,v,P=>v=.ty n/\∀a,¬P a
 | _,.mtp ls,v,P=>(∃a,v=.ref a/\pv K a ls)/\∀a,¬P a
 | o,.zZ ks ds,v,P=>∃a vs,v=.ref a/\H a=some (.dT (ks.zip vs))/\(o=0->g.Z a)/\(o≠0->¬g.Z a)/\(ks.length=ds.length/\∃R,AA K g H 0 ds vs R)/\∀b,P b↔(o≠0/\b=a)
 | o,.yh ks ds,v,P=>∃a vs,v=.ref a/\H a=some (.dN (ks.zip vs))/\(o=0->g.Z a)/\(o≠0->¬g.Z a)/\(ks.length=ds.length/\∃R,AA K g H 0 ds vs R)/\∀b,P b↔(o≠0/\b=a)
 | o,.obj c fl nm ds,v,P=>∃a dx vs P',v=.ref a/\H a=some (.ins (Ku K c) dx (nm.zip vs))/\(o=0->g.Z a)/\(o≠0->¬g.Z a)/\(mZ K c fl/\nm.length=ds.length/\∀f∈nm,f∈fl)/\AA K g H o ds vs P'/\¬P' a/\∀b,P b↔(o≠0/\b=a)\/P' b
noncomputable def AA(K:W.Frag)(g:G)(H:Hp):Nat->List Dv->List V->Fp->Prop
 | _,[],vs,P=>vs=[]/\∀a,¬P a
 | o,d::ds,vs,P=>∃v r P1 P2,vs=v::r/\Rep K g H o d v P1/\AA K g H o ds r P2/\Bp P1 P2/\∀a,P a↔P1 a\/P2 a
end
def Zd(g:G)(H:Hp):Prop:=∀a,g.Z a->H a≠none
structure Step (g:G) (P:Fp) (H:Hp) (g':G) (P':Fp) (H':Hp):Prop where
 keep:∀b o,H b=some o->¬P b->H' b=some o
 dom:∀b,H' b=none->H b=none
 zm:∀a,g.Z a->g'.Z a
 zn:∀a,g'.Z a->g.Z a\/P a\/H a=none
 mu:∃r,g'.μ=g.μ++r
 nw:∀a,P' a->P a\/H a=none
 zd:Zd g H->Zd g' H'
 ins:∀b C dx fs,H b=some (.ins C dx fs)->∃fs',H' b=some (.ins C dx fs')/\∀f r,fs.lookup f=some (.ref r)->fs'.lookup f=some (.ref r)
theorem Step.refl{g:G}{P:Fp}{H:Hp}:Step g P H g P H:=⟨fun _ _ h _=>h,fun _ h=>h,fun _ h=>h,fun _ h=>.inl h,⟨[],by simp⟩,fun _ h=>.inl h,fun h=>h,fun _ _ _ fs h=>⟨fs,h,fun _ _ z=>z⟩⟩
theorem Step.trans{g g1 g2:G}{P P1 P2:Fp}{H H1 H2:Hp}(a:Step g P H g1 P1 H1)(b:Step g1 P1 H1 g2 P2 H2):Step g P H g2 P2 H2:=by
 refine⟨fun c o h n=>?_,fun c h=>a.dom c (b.dom c h),fun c h=>b.zm c (a.zm c h),fun c h=>?_,?_,fun c h=>?_,fun z=>b.zd (a.zd z),fun c C dx fs h=>?_⟩
 ·refine b.keep c o (a.keep c o h n) fun z=>?_
  rcases a.nw c z with z | z
  ·exact n z
  ·rw[h] at z;cases z
 ·rcases b.zn c h with z | z | z
  ·exact a.zn c z
  ·exact(a.nw c z).elim (fun q=>.inr (.inl q)) fun q=>.inr (.inr q)
  ·exact .inr (.inr (a.dom c z))
 ·obtain⟨r1,e1⟩:=a.mu;obtain⟨r2,e2⟩:=b.mu;exact⟨r1++r2,by rw[e2,e1,G0]⟩
 ·rcases b.nw c h with z | z
  ·exact a.nw c z
  ·exact .inr (a.dom c z)
 ·obtain⟨f1,e1,k1⟩:=a.ins c C dx fs h;obtain⟨f2,e2,k2⟩:=b.ins c C dx f1 e1;exact⟨f2,e2,fun f r z=>k2 f r (k1 f r z)⟩
theorem Step.sub{g g':G}{P Q P' Q':Fp}{H H':Hp}(s:Step g P H g' P' H')(h1:∀a,P a->Q a)(h2:∀a,Q' a->P' a):Step g Q H g' Q' H':=
 ⟨fun b o h n=>s.keep b o h fun z=>n (h1 b z),s.dom,s.zm,fun a h=>(s.zn a h).elim .inl fun z=>.inr (z.elim (fun q=>.inl (h1 a q)) .inr),s.mu,fun a h=>(s.nw a (h2 a h)).elim (fun q=>.inl (h1 a q)) .inr,s.zd,s.ins⟩
theorem Step.less{g g':G}{P P' Q':Fp}{H H':Hp}(s:Step g P H g' P' H')(h2:∀a,Q' a->P' a):Step g P H g' Q' H':=s.sub (fun _ q=>q) h2
theorem Step.frame{g g':G}{P P' R:Fp}{H H':Hp}(s:Step g P H g' P' H'):Step g (fun a=>P a\/R a) H g' (fun a=>P' a\/R a) H':=
 ⟨fun b o h n=>s.keep b o h fun z=>n (.inl z),s.dom,s.zm,fun a h=>(s.zn a h).elim .inl fun z=>.inr (z.elim (fun q=>.inl (.inl q)) .inr),s.mu,fun a h=>h.elim (fun q=>(s.nw a q).elim (fun z=>.inl (.inl z)) .inr) fun q=>.inl (.inr q),s.zd,s.ins⟩
theorem Step.same{g:G}{P:Fp}{H H':Hp}(s:PP H H'):Step g P H g P H':=
 have dm:∀b,H' b=none->H b=none:=fun b h=>by
  cases e:H b with
  | none=>rfl
  | some o=>rw[s b o e] at h;cases h
 ⟨fun b o h _=>s b o h,dm,fun _ h=>h,fun _ h=>.inl h,⟨[],by simp⟩,fun _ h=>.inl h,fun z a h q=>z a h (dm a q),fun b C dx fs h=>⟨fs,s b _ h,fun _ _ z=>z⟩⟩
theorem Gk{H:Hp}{a:B5}{o u:HO}(h:H a=some u)(nu:∀C dx fs,u≠.ins C dx fs):∀b C dx fs,H b=some (.ins C dx fs)->∃fs',upd H a o b=some (.ins C dx fs')/\∀f r,fs.lookup f=some (.ref r)->fs'.lookup f=some (.ref r):=fun b C dx fs e =>
 ⟨fs,by rw[AB fun z=>by subst z;rw[h] at e;exact nu C dx fs (D5 e)];exact e,fun _ _ z=>z⟩
def we(g:G)(H:Hp)(P:Fp):Prop:=∀a,P a->jB (H a)/\¬g.Z a
theorem we.or{g:G}{H:Hp}{P Q:Fp}(h:we g H P)(k:we g H Q):we g H fun a=>P a\/Q a:=fun a q=>q.elim (h a) (k a)
theorem we.wX{g:G}{H:Hp}:we g H wX:=fun _ z=>z.elim
theorem we.new{g:G}{H:Hp}{P:Fp}(h:we g H P){a:B5}(n:H a=none):¬P a:=fun z=>by have:=(h a z).1;rw[n] at this;exact this
theorem FF{P:Fp}(h:∀a,¬P a):P=wX:=funext fun a=>propext ⟨fun z=>(h a z).elim,fun z=>z.elim⟩
section
variable {K:W.Frag} {g g':G} {H H':Hp}
theorem Step.out{P P' R:Fp}(s:Step g P H g' P' H')(ok:we g H R)(n:Bp R P):Bp R P':=fun a q z=>(s.nw a z).elim (fun z=>n a q z) fun z=>ok.new z q
theorem Lk.held{o:Nat}{a:B5}{vs:List V}{P P':Fp}(h:Lk g H o a vs)(hn:o≠0->¬P a)(s:Step g P H g' P' H')(ok:we g H P):Lk g' H' o a vs:=by
 have np:¬P a:=by
  by_cases z:o=0
  ·exact fun q=>(ok a q).2 (h.2.1 z)
  ·exact hn z
 refine⟨s.keep _ _ h.1 np,fun z=>s.zm _ (h.2.1 z),fun z q=>?_⟩;rcases s.zn _ q with q | q | q
 ·exact h.2.2 z q
 ·exact np q
 ·rw[h.1] at q;cases q
mutual
theorem Rep.xA:∀{d:Dv} {v:V} {R:Fp},Rep K g H 0 d v R->∀a,¬R a
 | .wa,v,R,h | .bl _,v,R,h | .int _,v,R,h | .str _,v,R,h | .ty _,v,R,h | .mtp _,v,R,h | .ref _,v,R,h | .xQ _,v,R,h=>by unfold Rep at h;exact h.2
 | .zZ ks ds,v,R,h=>by
  unfold Rep at h;obtain⟨b,vs,e,h1,h2,h3,h5,h4⟩:=h;exact fun a q=>((h4 a).mp q).1 rfl
 | .yh ks ds,v,R,h=>by
  unfold Rep at h;obtain⟨b,vs,e,h1,h2,h3,h5,h4⟩:=h;exact fun a q=>((h4 a).mp q).1 rfl
 | .obj c fl nm ds,v,R,h=>by
  unfold Rep at h;obtain⟨b,dx,vs,R',e,h1,hz,hn,hl,h2,h3,h5⟩:=h;exact fun a q=>((h5 a).mp q).elim (fun z=>z.1 rfl) fun z=>AA.xA h2 a z
 | .tup ds,v,R,h=>by
  unfold Rep at h;obtain⟨_,vs,e,h1,h2⟩:=h;exact AA.xA h2
 | .lst ds,v,R,h=>by
  unfold Rep at h;obtain⟨b,vs,R',e,h1,h2,h3,h5⟩:=h;exact fun a q=>((h5 a).mp q).elim (fun z=>z.1 rfl) fun z=>AA.xA h2 a z
 | .xH ks ds,v,R,h=>by
  unfold Rep at h;obtain⟨b,vs,e,h1,h2,h3,h5,h4⟩:=h;exact fun a q=>((h4 a).mp q).1 rfl
theorem AA.xA:∀{ds:List Dv} {vs:List V} {R:Fp},AA K g H 0 ds vs R->∀a,¬R a
 | [],vs,R,h=>by unfold AA at h;exact h.2
 | d::ds,vs,R,h=>by
  unfold AA at h;obtain⟨v,r,P1,P2,e,h1,h2,h3,h4⟩:=h;exact fun a q=>((h4 a).mp q).elim (fun z=>Rep.xA h1 a z) fun z=>AA.xA h2 a z
end
mutual
theorem Rep.held{P P':Fp}(s:Step g P H g' P' H')(ok:we g H P):∀{o:Nat} {d:Dv} {v:V} {R:Fp},Rep K g H o d v R->Bp R P->Rep K g' H' o d v R
 | _,.wa,v,R,h,_ | _,.bl _,v,R,h,_ | _,.int _,v,R,h,_ | _,.str _,v,R,h,_ | _,.ty _,v,R,h,_ | _,.mtp _,v,R,h,_=>by unfold Rep at h ⊢;exact h
 | o,.zZ ks ds,v,R,h,d=>by
  unfold Rep at h ⊢;obtain⟨a,vs,e,h1,h2,h3,⟨h5,R',h6⟩,h4⟩:=h;have hn:¬P a:=fun z=>by
   by_cases q:o=0
   ·exact(ok a z).2 (h2 q)
   ·exact d a ((h4 a).mpr ⟨q,rfl⟩) z
  refine⟨a,vs,e,s.keep _ _ h1 hn,fun q=>s.zm _ (h2 q),fun q z=>?_,⟨h5,R',AA.held s ok h6 fun b q z=>(AA.xA h6 b q).elim⟩,h4⟩;rcases s.zn _ z with z | z | z
  ·exact h3 q z
  ·exact hn z
  ·rw[h1] at z;cases z
 | o,.yh ks ds,v,R,h,d=>by
  unfold Rep at h ⊢;obtain⟨a,vs,e,h1,h2,h3,⟨h5,R',h6⟩,h4⟩:=h;have hn:¬P a:=fun z=>by
   by_cases q:o=0
   ·exact(ok a z).2 (h2 q)
   ·exact d a ((h4 a).mpr ⟨q,rfl⟩) z
  refine⟨a,vs,e,s.keep _ _ h1 hn,fun q=>s.zm _ (h2 q),fun q z=>?_,⟨h5,R',AA.held s ok h6 fun b q z=>(AA.xA h6 b q).elim⟩,h4⟩;rcases s.zn _ z with z | z | z
  ·exact h3 q z
  ·exact hn z
  ·rw[h1] at z;cases z
 | o,.obj c fl nm ds,v,R,h,d=>by
  unfold Rep at h ⊢;obtain⟨a,dx,vs,R',e,h1,h2,h3,hl,h6,h7,h4⟩:=h;have hn:¬P a:=fun z=>by
   by_cases q:o=0
   ·exact(ok a z).2 (h2 q)
   ·exact d a ((h4 a).mpr (.inl ⟨q,rfl⟩)) z
  refine⟨a,dx,vs,R',e,s.keep _ _ h1 hn,fun q=>s.zm _ (h2 q),fun q z=>?_,hl,AA.held s ok h6 fun b q z=>d b ((h4 b).mpr (.inr q)) z,h7,h4⟩;rcases s.zn _ z with z | z | z
  ·exact h3 q z
  ·exact hn z
  ·rw[h1] at z;cases z
 | o,.tup ds,v,R,h,n=>by
  unfold Rep at h ⊢;obtain⟨a,vs,e,h1,h2⟩:=h;exact⟨a,vs,e,s.keep _ _ h1 fun z=>(by have:=(ok a z).1;rw[h1] at this;exact this),AA.held s ok h2 n⟩
 | o,.lst ds,v,R,h,n=>by
  unfold Rep at h ⊢;obtain⟨a,vs,R',e,h1,h2,h3,h5⟩:=h;exact⟨a,vs,R',e,h1.held (fun z q=>n a ((h5 a).mpr (.inl ⟨z,rfl⟩)) q) s ok,AA.held s ok h2 fun b q z=>n b ((h5 b).mpr (.inr q)) z,h3,h5⟩
 | o,.xH ks ds,v,R,h,d=>by
  unfold Rep at h ⊢;obtain⟨a,vs,e,h1,h2,h3,⟨h5,R',h6⟩,h4⟩:=h;have hn:¬P a:=fun z=>by
   by_cases q:o=0
   ·exact(ok a z).2 (h2 q)
   ·exact d a ((h4 a).mpr ⟨q,rfl⟩) z
  refine⟨a,vs,e,s.keep _ _ h1 hn,fun q=>s.zm _ (h2 q),fun q z=>?_,⟨h5,R',AA.held s ok h6 fun b q z=>(AA.xA h6 b q).elim⟩,h4⟩;rcases s.zn _ z with z | z | z
  ·exact h3 q z
  ·exact hn z
  ·rw[h1] at z;cases z
 | _,.ref k,v,R,h,_=>by
  unfold Rep at h ⊢;obtain⟨⟨a,h1,h2⟩,h3⟩:=h;obtain⟨r,e⟩:=s.mu;refine⟨⟨a,?_,h2⟩,h3⟩;rw[e,J9 (C0.mp h1).1];exact h1
 | _,.xQ ns,v,R,h,_=>by
  unfold Rep at h ⊢;obtain⟨⟨a,h1,h2⟩,h3⟩:=h;refine⟨⟨a,h1,?_⟩,h3⟩;rcases h2 with⟨o,h2⟩ | h2
  ·exact .inl ⟨o,s.keep _ _ h2 fun z=>by have:=(ok a z).1;rw[h2] at this;exact this⟩
  ·exact .inr h2
theorem AA.held{P P':Fp}(s:Step g P H g' P' H')(ok:we g H P):∀{o:Nat} {ds:List Dv} {vs:List V} {R:Fp},AA K g H o ds vs R->Bp R P->AA K g' H' o ds vs R
 | _,[],vs,R,h,_=>by unfold AA at h ⊢;exact h
 | o,d::ds,vs,R,h,n=>by
  unfold AA at h ⊢;obtain⟨v,r,P1,P2,e,h1,h2,h3,h4⟩:=h;exact⟨v,r,P1,P2,e,Rep.held s ok h1 fun a q z=>n a ((h4 a).mpr (.inl q)) z,AA.held s ok h2 fun a q z=>n a ((h4 a).mpr (.inr q)) z,h3,h4⟩
end
mutual
theorem Rep.wc:∀{o:Nat} {d:Dv} {v:V} {R:Fp},Rep K g H o d v R->we g H R
 | _,.wa,v,R,h,a,q | _,.bl _,v,R,h,a,q | _,.int _,v,R,h,a,q | _,.str _,v,R,h,a,q | _,.ty _,v,R,h,a,q | _,.mtp _,v,R,h,a,q | _,.ref _,v,R,h,a,q | _,.xQ _,v,R,h,a,q=>by unfold Rep at h;exact(h.2 a q).elim
 | o,.zZ ks ds,v,R,h,a,q=>by
  unfold Rep at h;obtain⟨b,vs,e,h1,h2,h3,h5,h4⟩:=h;obtain⟨ho,rfl⟩:=(h4 a).mp q;exact⟨by rw[h1];trivial,h3 ho⟩
 | o,.yh ks ds,v,R,h,a,q=>by
  unfold Rep at h;obtain⟨b,vs,e,h1,h2,h3,h5,h4⟩:=h;obtain⟨ho,rfl⟩:=(h4 a).mp q;exact⟨by rw[h1];trivial,h3 ho⟩
 | o,.obj c fl nm ds,v,R,h,a,q=>by
  unfold Rep at h;obtain⟨b,dx,vs,R',e,h1,h2,h3,hl,h6,h7,h4⟩:=h;rcases(h4 a).mp q with⟨z,rfl⟩ | z
  ·exact⟨by rw[h1];trivial,h3 z⟩
  ·exact AA.wc h6 a z
 | o,.tup ds,v,R,h,a,q=>by
  unfold Rep at h;obtain⟨_,vs,e,h1,h2⟩:=h;exact AA.wc h2 a q
 | o,.lst ds,v,R,h,a,q=>by
  unfold Rep at h;obtain⟨b,vs,R',e,h1,h2,h3,h5⟩:=h;rcases(h5 a).mp q with⟨z,rfl⟩ | z
  ·exact⟨by rw[h1.1];trivial,h1.2.2 z⟩
  ·exact AA.wc h2 a z
 | o,.xH ks ds,v,R,h,a,q=>by
  unfold Rep at h;obtain⟨b,vs,e,h1,h2,h3,h5,h4⟩:=h;obtain⟨ho,rfl⟩:=(h4 a).mp q;exact⟨by rw[h1];trivial,h3 ho⟩
theorem AA.wc:∀{o:Nat} {ds:List Dv} {vs:List V} {R:Fp},AA K g H o ds vs R->we g H R
 | _,[],vs,R,h,a,q=>by unfold AA at h;exact(h.2 a q).elim
 | o,d::ds,vs,R,h,a,q=>by
  unfold AA at h;obtain⟨v,r,P1,P2,e,h1,h2,h3,h4⟩:=h;rcases(h4 a).mp q with z | z
  ·exact Rep.wc h1 a z
  ·exact AA.wc h2 a z
end
theorem AA.iff{o:Nat}{d:List Dv}{v:List V}{P Q:Fp}(h:AA K g H o d v P)(e:∀a,Q a↔P a):AA K g H o d v Q:=by
 have:Q=P:=funext fun a=>propext (e a)
 rw[this];exact h
theorem Rep.z{d:Dv}{v:V}{R:Fp}(h:Rep K g H 0 d v R):Rep K g H 0 d v wX:=by rw[<- FF h.xA];exact h
theorem AA.z{d:List Dv}{v:List V}{R:Fp}(h:AA K g H 0 d v R):AA K g H 0 d v wX:=by rw[<- FF h.xA];exact h
def G.add(g:G)(P:Fp):G:={ g with Z:=fun a=>g.Z a\/P a }
mutual
theorem Rep.freeze{P:Fp}:∀{o:Nat} {d:Dv} {v:V} {R:Fp},Rep K g H o d v R->(∀a,R a->P a)->Rep K (g.add P) H 0 d v wX
 | _,.wa,v,R,h,_ | _,.bl _,v,R,h,_ | _,.int _,v,R,h,_ | _,.str _,v,R,h,_ | _,.ty _,v,R,h,_ | _,.mtp _,v,R,h,_ | _,.ref _,v,R,h,_ | _,.xQ _,v,R,h,_=>by unfold Rep at h ⊢;exact⟨h.1,fun _ z=>z⟩
 | o,.zZ ks ds,v,R,h,s=>by
  unfold Rep at h ⊢;obtain⟨a,vs,e,h1,h2,h3,⟨h5,R',h6⟩,h4⟩:=h;refine⟨a,vs,e,h1,fun _=>?_,fun z=>(z rfl).elim,⟨h5,wX,AA.freeze h6 fun b q=>(AA.xA h6 b q).elim⟩,fun b=>⟨fun z=>z.elim,fun z=>(z.1 rfl).elim⟩⟩
  by_cases q:o=0
  ·exact .inl (h2 q)
  ·exact .inr (s a ((h4 a).mpr ⟨q,rfl⟩))
 | o,.yh ks ds,v,R,h,s=>by
  unfold Rep at h ⊢;obtain⟨a,vs,e,h1,h2,h3,⟨h5,R',h6⟩,h4⟩:=h;refine⟨a,vs,e,h1,fun _=>?_,fun z=>(z rfl).elim,⟨h5,wX,AA.freeze h6 fun b q=>(AA.xA h6 b q).elim⟩,fun b=>⟨fun z=>z.elim,fun z=>(z.1 rfl).elim⟩⟩
  by_cases q:o=0
  ·exact .inl (h2 q)
  ·exact .inr (s a ((h4 a).mpr ⟨q,rfl⟩))
 | o,.obj c fl nm ds,v,R,h,s=>by
  unfold Rep at h ⊢;obtain⟨a,dx,vs,R',e,h1,h2,h3,hl,h6,h7,h4⟩:=h;refine⟨a,dx,vs,wX,e,h1,fun _=>?_,fun z=>(z rfl).elim,hl,AA.freeze h6 (fun b q=>s b ((h4 b).mpr (.inr q))),fun z=>z,fun b=>⟨fun z=>z.elim,fun z=>z.elim (fun q=>(q.1 rfl).elim) id⟩⟩
  by_cases q:o=0
  ·exact .inl (h2 q)
  ·exact .inr (s a ((h4 a).mpr (.inl ⟨q,rfl⟩)))
 | o,.tup ds,v,R,h,s=>by
  unfold Rep at h ⊢;obtain⟨a,vs,e,h1,h2⟩:=h;exact⟨a,vs,e,h1,AA.freeze h2 s⟩
 | o,.lst ds,v,R,h,s=>by
  unfold Rep at h ⊢;obtain⟨a,vs,R',e,h1,h2,h3,h5⟩:=h;refine⟨a,vs,wX,e,⟨h1.1,fun _=>?_,fun z=>(z rfl).elim⟩,AA.freeze h2 (fun b q=>s b ((h5 b).mpr (.inr q))),fun z=>z,fun b=>⟨fun z=>z.elim,fun z=>z.elim (fun q=>(q.1 rfl).elim) id⟩⟩
  by_cases q:o=0
  ·exact .inl (h1.2.1 q)
  ·exact .inr (s a ((h5 a).mpr (.inl ⟨q,rfl⟩)))
 | o,.xH ks ds,v,R,h,s=>by
  unfold Rep at h ⊢;obtain⟨a,vs,e,h1,h2,h3,⟨h5,R',h6⟩,h4⟩:=h;refine⟨a,vs,e,h1,fun _=>?_,fun z=>(z rfl).elim,⟨h5,wX,AA.freeze h6 fun b q=>(AA.xA h6 b q).elim⟩,fun b=>⟨fun z=>z.elim,fun z=>(z.1 rfl).elim⟩⟩
  by_cases q:o=0
  ·exact .inl (h2 q)
  ·exact .inr (s a ((h4 a).mpr ⟨q,rfl⟩))
theorem AA.freeze{P:Fp}:∀{o:Nat} {ds:List Dv} {vs:List V} {R:Fp},AA K g H o ds vs R->(∀a,R a->P a)->AA K (g.add P) H 0 ds vs wX
 | _,[],vs,R,h,_=>by unfold AA at h ⊢;exact⟨h.1,fun _ z=>z⟩
 | o,d::ds,vs,R,h,s=>by
  unfold AA at h ⊢;obtain⟨v,r,P1,P2,e,h1,h2,h3,h4⟩:=h;exact⟨v,r,wX,wX,e,Rep.freeze h1 (fun a q=>s a ((h4 a).mpr (.inl q))),AA.freeze h2 (fun a q=>s a ((h4 a).mpr (.inr q))),fun _ z=>z.elim,fun a=>⟨fun z=>z.elim,fun z=>z.elim id id⟩⟩
end
theorem Step.freeze{P:Fp}(ok:we g H P):Step g P H (g.add P) wX H:=
 ⟨fun _ _ h _=>h,fun _ h=>h,fun _ h=>.inl h,fun a h=>h.elim .inl fun q=>.inr (.inl q),⟨[],by show g.μ=_;simp⟩,fun _ h=>h.elim,fun z a h q=>h.elim (fun h=>z a h q) fun h=>by have:=(ok a h).1;rw[q] at this;exact this,fun _ _ _ fs h=>⟨fs,h,fun _ _ z=>z⟩⟩
theorem AA.nil{o:Nat}:AA K g H o [] [] wX:=by unfold AA;exact⟨rfl,fun _ z=>z⟩
theorem AA.cons{o:Nat}{d:Dv}{v:V}{ds:List Dv}{vs:List V}{P1 P2:Fp}(h1:Rep K g H o d v P1)(h2:AA K g H o ds vs P2)(n:Bp P1 P2):AA K g H o (d::ds) (v::vs) fun a=>P1 a\/P2 a:=by
 unfold AA;exact⟨v,vs,P1,P2,rfl,h1,h2,n,fun _=>o8⟩
theorem AA.len:∀{o:Nat} {ds:List Dv} {vs:List V} {R:Fp},AA K g H o ds vs R->ds.length=vs.length
 | _,[],vs,R,h=>by unfold AA at h;rw[h.1];rfl
 | _,d::ds,vs,R,h=>by
  unfold AA at h;obtain⟨v,r,P1,P2,rfl,h1,h2,_⟩:=h;simp[h2.len]
theorem AA.get:∀{o:Nat} {ds:List Dv} {vs:List V} {R:Fp} {i:Nat} {d:Dv},AA K g H o ds vs R->ds[i]?=some d->∃v P,vs[i]?=some v/\Rep K g H o d v P/\∀a,P a->R a
 | _,[],_,_,_,_,_,e=>by simp at e
 | _,d::ds,vs,R,i,d',h,e=>by
  unfold AA at h;obtain⟨v,r,P1,P2,rfl,h1,h2,_,h4⟩:=h;cases i with
  | zero=>simp at e;subst e;exact⟨v,P1,rfl,h1,fun a q=>(h4 a).mpr (.inl q)⟩
  | succ i =>
   obtain⟨v',P,e',h',s⟩:=h2.get (i:=i) (by simpa using e);exact⟨v',P,by simpa using e',h',fun a q=>(h4 a).mpr (.inr (s a q))⟩
theorem AA.app:∀{o:Nat} {ds es:List Dv} {vs us:List V} {P Q:Fp},AA K g H o ds vs P->AA K g H o es us Q->Bp P Q->AA K g H o (ds++es) (vs++us) fun a=>P a\/Q a
 | _,[],es,vs,us,P,Q,h,k,_=>by
  unfold AA at h;obtain⟨rfl,n⟩:=h;exact k.iff fun a=>⟨fun z=>z.elim (fun q=>(n a q).elim) id,.inr⟩
 | _,d::ds,es,vs,us,P,Q,h,k,n=>by
  unfold AA at h;obtain⟨v,r,P1,P2,rfl,h1,h2,h3,h4⟩:=h;have t:=AA.app h2 k fun a q z=>n a ((h4 a).mpr (.inr q)) z
  refine(AA.cons h1 t fun a q z=>z.elim (fun z=>h3 a q z) fun z=>n a ((h4 a).mpr (.inl q)) z).iff fun a=>?_
  rw[h4 a,or_assoc]
end
noncomputable abbrev M:=List Dv
noncomputable abbrev Gm:=List (Option Nat)
noncomputable def M.at(m:M)(i:Nat):Dv:=m.getD i .wa
structure zDl (K:W.Frag) (g:G) (H:Hp) (Γ:Gm) (ρ:List Dv) (σ:St) (F:Nat->Fp):Prop where
 l1:ρ.length=Γ.length
 l2:σ.length=Γ.length
 rep:∀i o,Γ[i]?=some (some o)->∃d v,ρ[i]?=some d/\σ[i]?=some (some v)/\Rep K g H o d v (F i)
 out:∀i,(∀o,Γ[i]?≠some (some o))->∀a,¬F i a
 dj:∀i j,i≠j->Bp (F i) (F j)
def Rel(K:W.Frag)(g:G)(H:Hp)(Γ:Gm)(m:M)(σ:St)(P:Fp):Prop:=Zd g H/\∃F,zDl K g H Γ m σ F/\∀a,P a↔∃i,F i a
theorem ED{α:Type}{l:List α}{i j:Nat}{x y:α}(h:(l.set i x)[j]?=some y):(i=j/\y=x)\/(i≠j/\l[j]?=some y):=by
 by_cases e:i=j
 ·subst e;refine .inl ⟨rfl,?_⟩;rw[List.getElem?_set] at h;simp only[if_true] at h;split at h
  ·exact(D5 h).symm
  ·cases h
 ·rw[E1 e] at h;exact .inr ⟨e,h⟩
theorem KF{m:M}{i:Nat}{d:Dv}(h:m[i]?=some d):m.at i=d:=by unfold M.at;rw[B8,h];rfl
section
variable {K:W.Frag} {g g':G} {H H':Hp} {Γ:Gm} {m:M} {σ:St} {P:Fp}
theorem Rel.zd(h:Rel K g H Γ m σ P):Zd g H:=h.1
theorem Rel.len(h:Rel K g H Γ m σ P):m.length=Γ.length/\σ.length=Γ.length:=let ⟨_,_,h1,_⟩:=h;⟨h1.l1,h1.l2⟩
theorem Rel.wc(h:Rel K g H Γ m σ P):we g H P:=by
 obtain⟨_,F,h1,h4⟩:=h;intro a q;obtain⟨i,z⟩:=(h4 a).mp q
 by_cases e:∃o,Γ[i]?=some (some o)
 ·obtain⟨o,e⟩:=e;obtain⟨d,v,_,_,r⟩:=h1.rep i o e;exact r.wc a z
 ·exact(h1.out i (fun o z=>e ⟨o,z⟩) a z).elim
theorem Rel.held{P' R:Fp}(s:Step g P H g' P' H')(ok:we g H P)(h:Rel K g H Γ m σ R)(n:Bp R P):Rel K g' H' Γ m σ R:=by
 obtain⟨zd,F,h1,h4⟩:=h;refine⟨s.zd zd,F,⟨h1.l1,h1.l2,fun i o e=>?_,h1.out,h1.dj⟩,h4⟩;obtain⟨d,v,e1,e2,r⟩:=h1.rep i o e;exact⟨d,v,e1,e2,r.held s ok fun a q z=>n a ((h4 a).mpr ⟨i,q⟩) z⟩
theorem Rel.same(h:Rel K g H Γ m σ P)(s:PP H H'):Rel K g H' Γ m σ P:=h.held (Step.same (P:=wX) s) we.wX fun _ _ z=>z
theorem Rel.zq{i o:Nat}(h:Rel K g H Γ m σ P)(e:Γ[i]?=some (some o)):∃v P1,σ[i]?=some (some v)/\Rep K g H o (m.at i) v P1/\∀a,P1 a->P a:=by
 obtain⟨_,F,h1,h4⟩:=h;obtain⟨d,v,e1,e2,r⟩:=h1.rep i o e;exact⟨v,F i,e2,by rw[KF e1];exact r,fun a q=>(h4 a).mpr ⟨i,q⟩⟩
theorem Rel.agree{m2:M}(h:Rel K g H Γ m σ P)(hl:m2.length=m.length)(ha:∀i o,Γ[i]?=some (some o)->m2.at i=m.at i):Rel K g H Γ m2 σ P:=by
 obtain⟨zd,F,h1,h4⟩:=h;refine⟨zd,F,⟨hl.trans h1.l1,h1.l2,fun i o e=>?_,h1.out,h1.dj⟩,h4⟩;obtain⟨d,v,e1,e2,r⟩:=h1.rep i o e;have hi:i < m2.length:=by rw[hl];exact(C0.mp e1).1
 refine⟨d,v,?_,e2,r⟩;have:=ha i o e;unfold M.at at this;rw[B8,B8,e1,A3 hi] at this;rw[A3 hi];exact congrArg some this
theorem Rel.drop(i:Nat)(d:Dv)(x:Option V)(h:Rel K g H Γ m σ P):∃P2,Rel K g H (Γ.set i none) (m.set i d) (σ.set i x) P2/\∀a,P2 a->P a:=by
 obtain⟨zd,F,h1,h4⟩:=h;refine⟨fun a=>∃j,j≠i/\F j a,⟨zd,fun j a=>j≠i/\F j a,⟨by rw[D8,D8,h1.l1],by rw[D8,D8,h1.l2],fun j o e=>?_,fun j e a q=>?_,fun j k n a q z=>h1.dj j k n a q.2 z.2⟩,fun _=>o8⟩,fun a ⟨j,_,q⟩=>(h4 a).mpr ⟨j,q⟩⟩
 ·rcases ED e with⟨_,z⟩ | ⟨n,e⟩
  ·cases z
  ·obtain⟨d',v,e1,e2,r⟩:=h1.rep j o e;have eq:(fun a=>j≠i/\F j a)=F j:=funext fun a=>propext ⟨fun z=>z.2,fun z=>⟨fun q=>n q.symm,z⟩⟩
   exact⟨d',v,by rw[E1 n];exact e1,by rw[E1 n];exact e2,by show Rep K g H o d' v (fun a=>j≠i/\F j a);rw[eq];exact r⟩
 ·refine h1.out j (fun o z=>e o ?_) a q.2;rw[E1 fun z=>q.1 z.symm];exact z
theorem Rel.fill{i o:Nat}{d:Dv}{v:V}{P1:Fp}(h:Rel K g H Γ m σ P)(e:Γ[i]?=some none)(hd:m[i]?=some d)(hv:σ[i]?=some (some v))(r:Rep K g H o d v P1)(n:Bp P1 P):Rel K g H (Γ.set i (some o)) m σ fun a=>P1 a\/P a:=by
 obtain⟨zd,F,h1,h4⟩:=h;have fi:∀a,¬F i a:=h1.out i fun o z=>by rw[e] at z;cases z
 have hi:i < Γ.length:=(C0.mp e).1;refine⟨zd,fun j a=>if j=i then P1 a else F j a,⟨by rw[D8];exact h1.l1,by rw[D8];exact h1.l2,fun j o' e'=>?_,fun j e' a q=>?_,fun j k nn a q z=>?_⟩,fun a=>?_⟩
 ·rcases ED e' with⟨rfl,z⟩ | ⟨nn,e'⟩
  ·cases z;have eq:(fun a=>if i=i then P1 a else F i a)=P1:=funext fun a=>by rw[if_pos rfl]
   exact⟨d,v,hd,hv,by show Rep K g H o d v fun a=>if i=i then P1 a else F i a;rw[eq];exact r⟩
  ·obtain⟨d',v',e1,e2,r'⟩:=h1.rep j o' e';have eq:(fun a=>if j=i then P1 a else F j a)=F j:=funext fun a=>by rw[if_neg fun z=>nn z.symm]
   exact⟨d',v',e1,e2,by show Rep K g H o' d' v' fun a=>if j=i then P1 a else F j a;rw[eq];exact r'⟩
 ·by_cases z:j=i
  ·subst z;exact e' o (E9 hi)
  ·simp only[if_neg z] at q;exact h1.out j (fun o' z'=>e' o' (by rw[E1 fun w=>z w.symm];exact z')) a q
 ·by_cases zj:j=i
  ·by_cases zk:k=i
   ·exact nn (zj.trans zk.symm)
   ·simp only[if_pos zj,if_neg zk] at q z;exact n a q ((h4 a).mpr ⟨k,z⟩)
  ·by_cases zk:k=i
   ·simp only[if_neg zj,if_pos zk] at q z;exact n a z ((h4 a).mpr ⟨j,q⟩)
   ·simp only[if_neg zj,if_neg zk] at q z;exact h1.dj j k nn a q z
 ·show P1 a\/P a↔_;rw[h4 a];refine⟨fun z=>?_,fun⟨j,z⟩=>?_⟩
  ·rcases z with z | ⟨j,z⟩
   ·exact⟨i,by simp only[if_true];exact z⟩
   ·have:j≠i:=fun w=>fi a (w▸z)
    exact⟨j,by simp only[if_neg this];exact z⟩
  ·by_cases zj:j=i
   ·simp only[if_pos zj] at z;exact .inl z
   ·simp only[if_neg zj] at z;exact .inr ⟨j,z⟩
theorem HV{α:Type}{l:List α}{i:Nat}{x:α}(h:l[i]?=some x):l.set i x=l:=by
 apply V8;intro j
 by_cases e:i=j
 ·subst e;rw[E9 (C0.mp h).1,h]
 ·rw[E1 e]
theorem Rel.take{i o:Nat}(h:Rel K g H Γ m σ P)(e:Γ[i]?=some (some o)):∃v P1 P2,σ[i]?=some (some v)/\m[i]?=some (m.at i)/\Rep K g H o (m.at i) v P1/\Rel K g H (Γ.set i none) m σ P2/\Bp P1 P2/\∀a,P a↔P1 a\/P2 a:=by
 obtain⟨zd,F,h1,h4⟩:=h;obtain⟨d,v,e1,e2,r⟩:=h1.rep i o e;refine⟨v,F i,fun a=>∃j,j≠i/\F j a,e2,by rw[KF e1];exact e1,by rw[KF e1];exact r,⟨zd,fun j a=>j≠i/\F j a,⟨by rw[D8];exact h1.l1,by rw[D8];exact h1.l2,fun j o' e'=>?_,fun j e' a q=>?_,fun j k n a q z=>h1.dj j k n a q.2 z.2⟩,fun _=>o8⟩,fun a q ⟨j,n,z⟩=>h1.dj i j (fun w=>n w.symm) a q z,fun a=>?_⟩
 ·rcases ED e' with⟨_,z⟩ | ⟨n,e'⟩
  ·cases z
  ·obtain⟨d',v',e3,e4,r'⟩:=h1.rep j o' e';have eq:(fun a=>j≠i/\F j a)=F j:=funext fun a=>propext ⟨fun z=>z.2,fun z=>⟨fun q=>n q.symm,z⟩⟩
   exact⟨d',v',e3,e4,by show Rep K g H o' d' v' (fun a=>j≠i/\F j a);rw[eq];exact r'⟩
 ·exact h1.out j (fun o' z=>e' o' (by rw[E1 fun w=>q.1 w.symm];exact z)) a q.2
 ·rw[h4 a];refine⟨fun⟨j,z⟩=>?_,fun z=>?_⟩
  ·by_cases zj:j=i
   ·exact .inl (zj▸z)
   ·exact .inr ⟨j,zj,z⟩
  ·rcases z with z | ⟨j,_,z⟩
   ·exact⟨i,z⟩
   ·exact⟨j,z⟩
theorem De{α:Type}(l:List α)(i:Nat)(x y:α):(l.set i x).set i y=l.set i y:=List.set_set ..
theorem Rel.yD{Pv:Fp}{i o:Nat}{d:Dv}{v:V}(h:Rel K g H Γ m σ P)(hi:i < Γ.length)(hv:Rep K g H o d v Pv)(n:Bp Pv P) :
    ∃P2,Rel K g H (Γ.set i (some o)) (m.set i d) (σ.set i (some v)) P2/\∀a,P2 a->P a\/Pv a:=by
  obtain⟨P2,h2,s⟩:=h.drop i d (some v);have l:=h.len;have:=h2.fill (i:=i) (E9 hi) (E9 (by omega)) (E9 (by omega)) hv fun a q z=>n a q (s a z)
  rw[De] at this;exact⟨_,this,fun a q=>q.elim .inr fun q=>.inl (s a q)⟩
theorem Rel.putIn{P1:Fp}{i o:Nat}{d:Dv}{v:V}(h:Rel K g H (Γ.set i none) m σ P)(hi:i < Γ.length)(hv:σ[i]?=some (some v))(r:Rep K g H o d v P1)(n:Bp P1 P):∃P2,Rel K g H (Γ.set i (some o)) (m.set i d) σ P2/\∀a,P2 a->P1 a\/P a:=by
 obtain⟨P2,h2,s⟩:=h.drop i d (some v);rw[HV hv] at h2;have l:=h.len;rw[D8] at l;have h3:=h2.fill (i:=i) (by rw[De];exact E9 hi) (E9 (by omega)) hv r fun a q z=>n a q (s a z)
 rw[De,De] at h3;exact⟨_,h3,fun a q=>q.elim .inl fun q=>.inr (s a q)⟩
theorem Rel.freeze{i o:Nat}(h:Rel K g H Γ m σ P)(e:Γ[i]?=some (some o)):∃g' P' v,Step g P H g' P' H/\Rel K g' H (Γ.set i (some 0)) m σ P'/\σ[i]?=some (some v)/\Rep K g' H 0 (m.at i) v wX:=by
 obtain⟨v,P1,P2,ev,ed,r,r2,n,hP⟩:=h.take e;have st:Step g P1 H (g.add P1) wX H:=Step.freeze r.wc;have fr:Rep K (g.add P1) H 0 (m.at i) v wX:=r.freeze fun _ q=>q
 have r3:=r2.held st r.wc fun a q z=>n a z q
 have hi:i < Γ.length:=(C0.mp e).1;have r4:=r3.fill (i:=i) (E9 hi) ed ev fr fun _ z=>z.elim
 rw[De] at r4;refine⟨_,_,v,?_,r4,ev,fr⟩;exact(st.frame (R:=P2)).sub (fun a q=>(hP a).mpr q) fun a q=>q.elim (fun z=>z.elim) .inr
def Bn:Gm->Gm->Bool
 | [],[]=>true
 | none::a,_::b=>Bn a b
 | some o::a,some o'::b=>(o == 0 || o == o') && Bn a b
 | _,_=>false
theorem EM:∀{a b:Gm},Bn a b=true->a.length=b.length
 | [],[],_=>rfl
 | none::a,_::b,h=>by unfold Bn at h;simp[EM h]
 | some o::a,some o'::b,h=>by unfold Bn at h;simp[EM (W5.mp h).2]
 | [],_::_,h=>by cases h
 | some _::_,none::_,h=>by cases h
 | some _::_,[],h=>by cases h
 | none::_,[],h=>by cases h
theorem FH:∀{a b:Gm} {i o:Nat},Bn a b=true->a[i]?=some (some o)->∃o',b[i]?=some (some o')/\(o=0\/o=o')
 | [],_,i,o,_,e=>by simp at e
 | none::a,x::b,i,o,h,e=>by
  unfold Bn at h;cases i with
  | zero=>simp at e
  | succ i=>obtain⟨o',e',z⟩:=FH (i:=i) h (by simpa using e);exact⟨o',by simpa using e',z⟩
 | some p::a,some p'::b,i,o,h,e=>by
  unfold Bn at h;rw[A5] at h;cases i with
  | zero =>
   simp at e;subst e;refine⟨p',rfl,?_⟩;have:=h.1;rw[m6,beq_iff_eq,beq_iff_eq] at this;exact this
  | succ i=>obtain⟨o',e',z⟩:=FH (i:=i) h.2 (by simpa using e);exact⟨o',by simpa using e',z⟩
 | some _::_,none::_,_,_,h,_=>by cases h
 | some _::_,[],_,_,h,_=>by cases h
 | none::_,[],_,_,h,_=>by cases h
theorem Rel.weaken{Γ':Gm}(h:Rel K g H Γ m σ P)(e:Bn Γ' Γ=true):∃g' P',Step g P H g' P' H/\Rel K g' H Γ' m σ P':=by
 have ok:=h.wc;obtain⟨zd,F,h1,h4⟩:=h
 let D:Fp:=fun a=>∃i,Γ'[i]?=some (some 0)/\F i a
 have okD:we g H D:=fun a ⟨i,_,q⟩=>ok a ((h4 a).mpr ⟨i,q⟩)
 have st:Step g D H (g.add D) wX H:=Step.freeze okD
 let F':Nat->Fp:=fun i a=>(∃o,Γ'[i]?=some (some (o+1)))/\F i a
 refine⟨g.add D,fun a=>∃i,F' i a,?_,st.zd zd,F',⟨by rw[EM e];exact h1.l1,by rw[EM e];exact h1.l2,fun i o ei=>?_,fun i ei a q=>?_,fun i j n a q z=>h1.dj i j n a q.2 z.2⟩,fun _=>o8⟩
 ·refine(st.frame (R:=fun a=>∃i,F' i a)).sub (fun a q=>?_) fun a q=>.inr q
  rcases q with⟨i,_,q⟩ | ⟨i,q⟩
  ·exact(h4 a).mpr ⟨i,q⟩
  ·exact(h4 a).mpr ⟨i,q.2⟩
 ·obtain⟨o',eo,z⟩:=FH e ei;obtain⟨d,v,e1,e2,r⟩:=h1.rep i o' eo;refine⟨d,v,e1,e2,?_⟩;cases o with
  | zero =>
   have eq:F' i=wX:=FF fun a ⟨⟨o,w⟩,_⟩=>by rw[ei] at w;cases w
   rw[eq];exact r.freeze fun a q=>⟨i,ei,q⟩
  | succ o =>
   have eq:F' i=F i:=funext fun a=>propext ⟨fun w=>w.2,fun w=>⟨⟨o,ei⟩,w⟩⟩
   rcases z with z | z
   ·cases z
   ·subst z;rw[eq];refine r.held st okD fun a q ⟨j,ej,z⟩=>?_
    by_cases w:i=j
    ·subst w;rw[ei] at ej;cases ej
    ·exact h1.dj i j w a q z
 ·obtain⟨⟨o,w⟩,_⟩:=q;exact ei _ w
end
theorem PE.imp{X:Cx}{e:Expr}{t t':TE}(h:PE X e t)(k:∀σ H Q,t' σ H Q->t σ H Q):PE X e t':=fun pins s σ H Q I q=>h pins s σ H Q I (k σ H Q q)
theorem PT.imp{X:Cx}{e:Expr}{t t':TT}(h:PT X e t)(k:∀σ H Q,t' σ H Q->t σ H Q):PT X e t':=fun pins s σ H Q I q=>h pins s σ H Q I (k σ H Q q)
theorem PW.imp{X:Cx}{e:Expr}{t t':TT}(h:PW X e t)(k:∀σ H Q,t' σ H Q->t σ H Q):PW X e t':=fun wh pins s σ H Q I q=>h wh pins s σ H Q I (k σ H Q q)
theorem PS.imp{X:Cx}{e:M4}{t t':TS}(h:PS X e t)(k:∀D σ H,t' D σ H->t D σ H):PS X e t':=fun pins s σ H D I q=>h pins s σ H D I (k D σ H q)
theorem EA.imp{X:Cx}{e:List M4}{t t':TS}(h:EA X e t)(k:∀D σ H,t' D σ H->t D σ H):EA X e t':=fun pins s σ H D I q=>h pins s σ H D I (k D σ H q)
noncomputable abbrev Ev(α:Type):=(R:Type)->M->(α->M->Option R)->Option R
def Bj(js:List Nat)(m m':M):Prop:=m'.length=m.length/\∀i,i∉js->m'.at i=m.at i
theorem Bj.refl{js:List Nat}{m:M}:Bj js m m:=⟨rfl,fun _ _=>rfl⟩
theorem Bj.trans{js ks:List Nat}{m m1 m2:M}(a:Bj js m m1)(b:Bj ks m1 m2):Bj (js++ks) m m2:=⟨b.1.trans a.1,fun i h=>(b.2 i fun z=>h (A9 _ z)).trans (a.2 i fun z=>h (C2 _ z))⟩
theorem Bj.set{m:M}{i:Nat}{d:Dv}:Bj [i] m (m.set i d):=⟨D8 ..,fun j h=>by
 have n:i≠j:=fun z=>h (by rw[z];exact J7 _)
 unfold M.at;rw[B8,B8,E1 n]⟩
theorem Bj.mono{js ks:List Nat}{m m1:M}(a:Bj js m m1)(h:∀i∈js,i∈ks):Bj ks m m1:=⟨a.1,fun i n=>a.2 i fun z=>n (h i z)⟩
def tE(K:W.Frag)(Γ:Gm)(o:Nat)(Γ':Gm)(js:List Nat)(f:Ev Dv):TE:=fun σ H Q=>∃g m P,Rel K g H Γ m σ P/\∃(R:Type) (k:Dv->M->Option R) (r:R),f R m k=some r /\
 ∀d m' g' P' Pv v H',k d m'=some r->Bj js m m'->Step g P H g' (fun a=>P' a\/Pv a) H'->Rep K g' H' o d v Pv->Rel K g' H' Γ' m' σ P'->Bp P' Pv->Q v H'
def tT(K:W.Frag)(Γ Γ':Gm)(js:List Nat)(f:Ev Bool):TT:=fun σ H Q=>∃g m P,Rel K g H Γ m σ P/\∃(R:Type) (k:Bool->M->Option R) (r:R),f R m k=some r /\
 ∀b m' g' P' H',k b m'=some r->Bj js m m'->Step g P H g' P' H'->Rel K g' H' Γ' m' σ P'->Q b H'
noncomputable def SW(f:Str):List Str->List Dv->Option Dv
 | n::ns,d::ds=>if f == n then some d else SW f ns ds
 | _,_=>none
noncomputable def MV(f:Str)(x:Dv):List Str->List Dv->List Dv
 | n::ns,d::ds=>if f == n then x::ds else d::MV f x ns ds
 | _,ds=>ds
def gr(d:Dv)(f:Str):Option Dv:=match d with
 | .obj _ _ nm xs=>SW f nm xs
 | _=>none
def gq(d:Dv)(f:Str)(x:Dv):Dv:=match d with
 | .obj c fl nm xs=>.obj c fl nm (MV f x nm xs)
 | d=>d
noncomputable def kj:Dv->Bool
 | .lst _=>true
 | .xH _ _=>true
 | .zZ _ _=>true
 | .yh _ _=>true
 | .tup _=>true
 | .obj _ _ _ _=>true
 | _=>false
def Zy(d:Dv)(f:Str):Bool:=match gr d f with
 | some x=>kj x
 | none=>false
section
variable {K:W.Frag} {g:G} {H:Hp}
theorem Vz{o:Nat}{d:Dv}{v:V}{P:Fp}(h:Rep K g H o d v P)(e:kj d=true):∃r,v=.ref r:=by
 cases d with
 | lst _=>unfold Rep at h;obtain⟨a,_,_,e,_⟩:=h;exact⟨a,e⟩
 | tup _=>unfold Rep at h;obtain⟨a,_,e,_⟩:=h;exact⟨a,e⟩
 | xH _ _=>unfold Rep at h;obtain⟨a,_,e,_⟩:=h;exact⟨a,e⟩
 | zZ _ _=>unfold Rep at h;obtain⟨a,_,e,_⟩:=h;exact⟨a,e⟩
 | yh _ _=>unfold Rep at h;obtain⟨a,_,e,_⟩:=h;exact⟨a,e⟩
 | obj _ _ _ _=>unfold Rep at h;obtain⟨a,_,_,_,e,_⟩:=h;exact⟨a,e⟩
 | _=>cases e
theorem MW{f:Str}{o:Nat}:∀{nm:List Str} {ds:List Dv} {vs:List V} {P:Fp} {d:Dv},AA K g H o ds vs P->SW f nm ds=some d ->
    ∃v P1 P2,(nm.zip vs).lookup f=some v/\Rep K g H o d v P1/\Bp P1 P2/\(∀a,P a↔P1 a\/P2 a)/\∀{g':G} {H':Hp} {y:Dv} {z7:Fp},Step g P1 H g' z7 H'->Rep K g' H' o y v z7->AA K g' H' o (MV f y nm ds) vs fun a=>z7 a\/P2 a
  | [],ds,vs,P,d,h,e=>by cases ds<;>cases e
  | n::nm,[],vs,P,d,h,e=>by cases e
  | n::nm,x::ds,vs,P,d,h,e=>by
    unfold AA at h;obtain⟨v,r,P1,P2,rfl,h1,h2,h3,h4⟩:=h;unfold SW at e;rw[M3,G1];cases c:f == n with
    | true =>
      rw[c] at e;simp only[if_true] at e;cases e;refine⟨v,P1,P2,rfl,h1,h3,h4,fun{g' H' y z7} st ry=>?_⟩;unfold MV;rw[c];simp only[if_true];have n3:=st.out h2.wc fun a q z=>h3 a z q
      exact AA.cons ry (h2.held st h1.wc fun a q z=>h3 a z q) fun a q z=>n3 a z q
    | false =>
      rw[c] at e;simp only[C6,if_false] at e;obtain⟨w,Q1,Q2,e1,e2,e3,e4,e5⟩:=MW h2 e;refine⟨w,Q1,fun a=>P1 a\/Q2 a,e1,e2,fun a q z=>z.elim (fun z=>h3 a z ((e4 a).mpr (.inl q))) fun z=>e3 a q z,fun a=>?_,fun{g' H' y z7} st ry=>?_⟩
      · rw[h4 a,e4 a];exact⟨fun z=>z.elim (fun z=>.inr (.inl z)) fun z=>z.elim .inl fun z=>.inr (.inr z),fun z=>z.elim (fun z=>.inr (.inl z)) fun z=>z.elim .inl fun z=>.inr (.inr z)⟩
      · unfold MV;rw[c];simp only[C6,if_false];have d1:Bp P1 Q1:=fun a q z=>h3 a q ((e4 a).mpr (.inl z))
        have n1:=st.out h1.wc d1;refine(AA.cons (h1.held st e2.wc d1) (e5 st ry) fun a q z=>z.elim (fun z=>n1 a q z) fun z=>h3 a q ((e4 a).mpr (.inr z))).iff fun a=>?_
        exact⟨fun z=>z.elim (fun z=>.inr (.inl z)) fun z=>z.elim .inl fun z=>.inr (.inr z),fun z=>z.elim (fun z=>.inr (.inl z)) fun z=>z.elim .inl fun z=>.inr (.inr z)⟩
theorem Kg{f:Str}{o:Nat}{x d:Dv}{v:V}{P:Fp}(h:Rep K g H o x v P)(hf:gr x f=some d):∃a C dx fs w P1 P2,v=.ref a/\H a=some (.ins C dx fs)/\Cls K C/\LP K C f/\fs.lookup f=some w/\Rep K g H o d w P1/\Bp P1 P2/\(∀b,P b↔P1 b\/P2 b) /\
    ∀{g':G} {H':Hp} {y:Dv} {z7:Fp},Step g P1 H g' z7 H'->Rep K g' H' o y w z7->Rep K g' H' o (gq x f y) v fun a=>z7 a\/P2 a:=by
  cases x with
  | obj c fl nm xs =>
    have ok:=h.wc;unfold Rep at h;obtain⟨a,dx,vs,R',rfl,h1,h2,h3,⟨hc,hl,hn⟩,h6,h7,h4⟩:=h;obtain⟨w,P1,P2,e1,e2,e3,e4,e5⟩:=MW h6 hf;have mem:f∈nm:=by
      have go:∀{nm:List Str} {xs:List Dv},SW f nm xs=some d->f∈nm:=by
        intro nm
        induction nm with
        | nil=>intro xs e;cases xs<;>cases e
        | cons n nm ih =>
          intro xs e;cases xs with
          | nil=>cases e
          | cons x xs =>
            unfold SW at e;split at e
            · rename_i z;rw[beq_iff_eq.mp z];exact B2
            · exact B1 _ (ih e)
      exact go hf
    have len:∀{nm:List Str} {xs:List Dv} {y:Dv},nm.length=xs.length->nm.length=(MV f y nm xs).length:=by
      intro nm
      induction nm with
      | nil=>intro xs y e;cases xs<;>first | rfl | cases e
      | cons n nm ih =>
        intro xs y e;cases xs with
        | nil=>cases e
        | cons x xs =>
          unfold MV;split
          · exact e
          · simp[ih (y:=y) (by simpa using e)]
    refine⟨a,_,dx,_,w,P1,fun b=>(o≠0/\b=a)\/P2 b,rfl,h1,hc.1,hc.2 f (hn f mem),e1,e2,fun b q z=>z.elim (fun z=>h7 ((e4 a).mpr (.inl (z.2▸q)))) fun z=>e3 b q z,fun b=>?_,fun{g' H' y z7} st ry=>?_⟩
    · rw[h4 b,e4 b];exact⟨fun z=>z.elim (fun z=>.inr (.inl z)) fun z=>z.elim .inl fun z=>.inr (.inr z),fun z=>z.elim (fun z=>.inr (.inl z)) fun z=>z.elim .inl fun z=>.inr (.inr z)⟩
    · have na:¬P1 a:=fun z=>h7 ((e4 a).mpr (.inl z))
      have na':¬z7 a:=fun z=>(st.nw a z).elim na fun z=>by rw[h1] at z;cases z
      show Rep K g' H' o (.obj c fl nm (MV f y nm xs)) _ _;unfold Rep;refine⟨a,dx,vs,_,rfl,st.keep _ _ h1 na,fun q=>st.zm _ (h2 q),fun q z=>?_,⟨hc,len hl,hn⟩,e5 st ry,fun z=>z.elim na' fun z=>h7 ((e4 a).mpr (.inr z)),fun b=>?_⟩
      · rcases st.zn _ z with z | z | z
        · exact h3 q z
        · exact na z
        · rw[h1] at z;cases z
      · exact⟨fun z=>z.elim (fun z=>.inr (.inl z)) fun z=>z.elim .inl fun z=>.inr (.inr z),fun z=>z.elim (fun z=>.inr (.inl z)) fun z=>z.elim .inl fun z=>.inr (.inr z)⟩
  | _=>cases hf
end
inductive Ar:Type 1 where
 | rf (i:Nat)
 | ev (Γ Γ':Gm) (js:List Nat) (f:Ev Dv)
 | fd (i:Nat) (f:Str)
def RU(K:W.Frag):Ar->TE
 | .rf i=>HL i
 | .ev Γ Γ' js f=>tE K Γ 0 Γ' js f
 | .fd i f=>dg K (HL i) f
def Bt(K:W.Frag):List Ar->TA
 | []=>Yc
 | a::as=>bT (RU K a) (Bt K as)
def Ab:List Ar->Ev (List Dv)
 | [],_,m,k=>k [] m
 | .rf i::as,R,m,k=>Ab as R m fun ds m1=>k (m1.at i::ds) m1
 | .ev _ _ _ f::as,R,m,k=>f R m fun d m1=>Ab as R m1 fun ds m2=>k (d::ds) m2
 | .fd i f::as,R,m,k=>bif Zy (m.at i) f then Ab as R m fun ds m1=>(gr (m1.at i) f).bind fun d=>k (d::ds) m1 else none
def AE:Gm->List Ar->Gm->List Nat->Prop
 | Γ,[],Γ',js=>Γ'=Γ/\js=[]
 | Γ,.rf i::as,Γ',js=>(∃o,Γ[i]?=some (some o))/\(∃o,o<=1/\Γ'[i]?=some (some o))/\AE Γ as Γ' js
 | Γ,.ev wu w8 js1 _::as,Γ',js=>wu=Γ/\∃js2,js=js1++js2/\AE w8 as Γ' js2
 | Γ,.fd i _::as,Γ',js=>(∃o,Γ[i]?=some (some o))/\(∃o,o<=1/\Γ'[i]?=some (some o))/\AE Γ as Γ' js
def An(K:W.Frag)(g:G)(H:Hp)(Γ:Gm)(m:M)(σ:St):List Ar->List Dv->List V->Prop
 | [],ds,vs=>ds=[]/\vs=[]
 | .rf i::as,ds,vs=>∃v xY yP,ds=m.at i::xY/\vs=v::yP/\σ[i]?=some (some v)/\(∃o,o<=1/\Γ[i]?=some (some o))/\An K g H Γ m σ as xY yP
 | .ev _ _ _ _::as,ds,vs=>∃d v xY yP,ds=d::xY/\vs=v::yP/\Rep K g H 0 d v wX/\An K g H Γ m σ as xY yP
 | .fd i f::as,ds,vs=>∃d v xY yP,ds=d::xY/\vs=v::yP/\(gr (m.at i) f=some d/\∃a C dx fs,σ[i]?=some (some (.ref a))/\H a=some (.ins C dx fs)/\fs.lookup f=some v)/\(∃o,o<=1/\Γ[i]?=some (some o))/\An K g H Γ m σ as xY yP
theorem AU{K:W.Frag}{σ:St}:∀(as:List Ar) {g:G} {Γ Γ':Gm} {js:List Nat} {m:M} {P:Fp} {H:Hp} {R:Type} {k:List Dv->M->Option R} {r:R} {Q:List V->Hp->Prop},Rel K g H Γ m σ P->AE Γ as Γ' js->Ab as R m k=some r ->
    (∀ds m' g' P' vs H',k ds m'=some r->Bj js m m'->Step g P H g' P' H'->An K g' H' Γ' m' σ as ds vs->Rel K g' H' Γ' m' σ P'->Q vs H')->Bt K as σ H Q
  | [],g,Γ,Γ',js,m,P,H,R,k,r,Q,rl,c,e,q=>by
    unfold AE at c;obtain⟨rfl,rfl⟩:=c;exact q [] m g P [] H e Bj.refl Step.refl (by unfold An;exact⟨rfl,rfl⟩) rl
  | .rf i::as,g,Γ,Γ',js,m,P,H,R,k,r,Q,rl,c,e,q=>by
    unfold AE at c;obtain⟨⟨o,ho⟩,h2,c⟩:=c;obtain⟨v,_,hv,_⟩:=rl.zq ho;refine⟨v,hv,AU as rl c e fun ds m' g' P' vs H' hk ag s ar r1=>q _ m' g' P' _ H' hk ag s ?_ r1⟩;unfold An;exact⟨v,ds,vs,rfl,rfl,hv,h2,ar⟩
  | .ev wu w8 js1 f::as,g,Γ,Γ',js,m,P,H,R,k,r,Q,rl,c,e,q=>by
    unfold AE at c;obtain⟨rfl,js2,rfl,c⟩:=c;refine⟨g,m,P,rl,R,_,r,e,fun d m1 g1 P1 Pv v H1 hk ag s rv r1 n=>?_⟩;refine AU as r1 c hk fun ds m2 g2 P2 vs H2 xy yf s2 ar r2=>q _ m2 g2 P2 _ H2 xy (ag.trans yf) ((s.less fun _ q=>.inl q).trans s2) ?_ r2
    unfold An;exact⟨d,v,ds,vs,rfl,rfl,rv.z.held s2 r1.wc fun _ z=>z.elim,ar⟩
  | .fd i f::as,g,Γ,Γ',js,m,P,H,R,k,r,Q,rl,c,e,q=>by
    unfold AE at c;obtain⟨⟨o,ho⟩,h2,c⟩:=c;have e:(bif Zy (m.at i) f then Ab as R m fun ds m1=>(gr (m1.at i) f).bind fun d=>k (d::ds) m1 else none)=some r:=e;cases hr:Zy (m.at i) f with
    | false=>rw[hr] at e;cases e
    | true =>
      rw[hr] at e;have e:(Ab as R m fun ds m1=>(gr (m1.at i) f).bind fun d=>k (d::ds) m1)=some r:=e;unfold Zy at hr;cases hd:gr (m.at i) f with
      | none=>rw[hd] at hr;cases hr
      | some d0 =>
        rw[hd] at hr;obtain⟨v0,P1,hv,rv,_⟩:=rl.zq ho;obtain⟨a,C,dx,fs,w,_,_,rfl,h1,hc,hn,hl,xo,_⟩:=Kg rv hd;obtain⟨rr,rfl⟩:=Vz xo hr;refine⟨_,hv,a,C,dx,fs,_,rfl,h1,hc,hn,hl,AU as rl c e fun ds m' g' P' vs H' hk ag s ar r1=>?_⟩;obtain⟨d,e1,e2⟩:=J8.mp hk;obtain⟨fs',zy,zJ⟩:=s.ins a C dx fs h1;refine q _ m' g' P' _ H' e2 ag s ?_ r1;unfold An;exact⟨d,_,ds,vs,rfl,rfl,⟨e1,a,C,dx,fs',hv,zy,zJ f rr hl⟩,h2,ar⟩
def RA(K:W.Frag)(g:G)(H:Hp):List Dv->List V->Prop
 | [],vs=>vs=[]
 | d::ds,vs=>∃v r o P,vs=v::r/\o<=1/\Rep K g H o d v P/\RA K g H ds r
def Ac(K:W.Frag)(g:G)(H:Hp)(o:Nat)(d:Dv)(v:V)(H':Hp):Prop:=PP H H'/\∃Pv,Rep K g H' o d v Pv/\∀a,Pv a->H a=none
noncomputable abbrev Pr:=List Dv->Option Dv
abbrev RG:=List V->Hp->VK->Prop
def AK(K:W.Frag)(p:Pr)(o:Nat)(R:RG):Prop:=∀g H ds vs d Q,Zd g H->RA K g H ds vs->p ds=some d->(∀v H',Ac K g H o d v H'->Q v H')->R vs H Q
def GK(p:Pr)(fa:Ev (List Dv)):Ev Dv:=fun R m k=>fa R m fun ds m'=>(p ds).bind fun d=>k d m'
theorem wV.{u,v}{α:Type u}{β:Type v}{x:Option α}{f:α->Option β}{b:β}(h:x.bind f=some b):∃a,x=some a/\f a=some b:=J8.mp h
section
variable {K:W.Frag} {g:G} {H H':Hp} {σ:St} {Γ Γ':Gm} {m:M} {P:Fp}
theorem An.ra(r:Rel K g H Γ m σ P):∀{as:List Ar} {ds:List Dv} {vs:List V},An K g H Γ m σ as ds vs->RA K g H ds vs
 | [],ds,vs,h=>by unfold An at h;obtain⟨rfl,rfl⟩:=h;unfold RA;rfl
 | .ev _ _ _ f::as,ds,vs,h=>by
  unfold An at h;obtain⟨d,v,xY,yP,rfl,rfl,h1,h2⟩:=h;unfold RA;exact⟨v,yP,0,wX,rfl,by decide,h1,An.ra r h2⟩
 | .rf i::as,ds,vs,h=>by
  unfold An at h;obtain⟨v,xY,yP,rfl,rfl,h1,⟨o,hl,ho⟩,h3⟩:=h;obtain⟨v',P1,e,k,_⟩:=r.zq ho;rw[h1] at e;cases e;unfold RA;exact⟨v,yP,o,P1,rfl,hl,k,An.ra r h3⟩
 | .fd i f::as,ds,vs,h=>by
  unfold An at h;obtain⟨d,v,xY,yP,rfl,rfl,⟨h1,a,C,dx,fs,hv,ha,hlk⟩,⟨o,hl,ho⟩,h3⟩:=h;obtain⟨v',P1,e,k,_⟩:=r.zq ho;rw[hv] at e;cases e;obtain⟨a',C',dx',fs',w,Q1,Q2,ea,zy,_,_,zJ,xo,_⟩:=Kg k h1;cases ea;rw[ha] at zy;cases zy;rw[hlk] at zJ;cases zJ;unfold RA;exact⟨v,yP,o,Q1,rfl,hl,xo,An.ra r h3⟩
theorem Ac.go{g0:G}{P0:Fp}{H0:Hp}{o:Nat}{d:Dv}{v:V}(s:Step g0 P0 H0 g P H)(r:Rel K g H Γ m σ P)(n:Ac K g H o d v H') :
    ∃Pv,Step g0 P0 H0 g (fun a=>P a\/Pv a) H'/\Rep K g H' o d v Pv/\Rel K g H' Γ m σ P/\Bp P Pv:=by
  obtain⟨sm,Pv,h1,h2⟩:=n;refine⟨Pv,s.trans ⟨fun b o h _=>sm b o h,(Step.same (g:=g) (P:=wX) sm).dom,fun _ h=>h,fun _ h=>.inl h,⟨[],by simp⟩,fun a h=>h.elim .inl fun q=>.inr (h2 a q),(Step.same (g:=g) (P:=wX) sm).zd,(Step.same (g:=g) (P:=wX) sm).ins⟩,h1,r.same sm,fun a q z=>r.wc.new (h2 a z) q⟩
theorem DG{p:Pr}{o:Nat}{as:List Ar}{js:List Nat}{R:RG}(hp:AK K p o R)(c:AE Γ as Γ' js){Q:VK}(h:tE K Γ o Γ' js (GK p (Ab as)) σ H Q):Bt K as σ H fun vs H1=>R vs H1 Q:=by
 obtain⟨g,m,P,r,R',k,res,e,q⟩:=h;refine AU as r c e fun ds m' g' P' vs H1 hk ag s ar r1=>?_
 obtain⟨d,e1,e2⟩:=wV hk;refine hp g' H1 ds vs d Q r1.zd (ar.ra r1) e1 fun v H2 nw=>?_
 obtain⟨Pv,s2,h1,r2,n2⟩:=Ac.go s r1 nw;exact q d m' g' P' Pv v H2 e2 ag s2 h1 r2 n2
end
def NT(r:R2):RG:=fun vs H Q=>match vs with | [x,y]=>r x y H Q | _=>False
def dE(r:V->Hp->VK->Prop):RG:=fun vs H Q=>match vs with | [x]=>r x H Q | _=>False
def MX(d:Dv):Ev Dv:=fun _ m k=>k d m
def Qm(i:Nat):Ev Dv:=fun _ m k=>k (m.at i) m
section
variable {X:Cx} {e:Expr} {Γ Γ':Gm} {js:List Nat} {o:Nat} {f:Ev Dv}
theorem ij{v:V}{d:Dv}(h:PE X e (tC v))(hd:∀g H,Rep X.K g H o d v wX):PE X e (tE X.K Γ o Γ [] (MX d)):=PE.imp h fun σ H Q q=>by
 obtain⟨g,m,P,r,R,k,res,e,q⟩:=q;exact q d m g P wX v H e Bj.refl (Step.refl.less fun _ q=>q.elim id F1) (hd g H) r fun _ _ z=>z
theorem jW{i:Nat}(h:PE X e (HL i)){o:Nat}(hi:Γ[i]?=some (some o)):PE X e (tE X.K Γ 0 (Γ.set i (some 0)) [] (Qm i)):=PE.imp h fun σ H Q q=>by
 obtain⟨g,m,P,r,R,k,res,e,q⟩:=q;obtain⟨g',P',v,s,r',ev,rv⟩:=r.freeze hi;exact⟨v,ev,q _ m g' P' wX v H e Bj.refl (s.less fun _ q=>q.elim id F1) rv r' fun _ _ z=>z⟩
theorem jY{i:Nat}(h:PE X e (HL i))(hi:Γ[i]?=some (some o)):PE X e (tE X.K Γ o (Γ.set i none) [] (Qm i)):=PE.imp h fun σ H Q q=>by
 obtain⟨g,m,P,r,R,k,res,e,q⟩:=q;obtain⟨v,P1,P2,ev,_,rv,r2,n,hP⟩:=r.take hi;exact⟨v,ev,q _ m g P2 P1 v H e Bj.refl (Step.refl.less fun a q=>(hP a).mpr q.symm) rv r2 fun a q z=>n a z q⟩
theorem GC(h:PE X e (tE X.K Γ o Γ' js f)):PE X e (tE X.K Γ 0 Γ' js f):=PE.imp h fun σ H Q q=>by
 obtain⟨g,m,P,r,R,k,res,e,q⟩:=q;refine⟨g,m,P,r,R,k,res,e,fun d m' g' P' Pv v H' hk ag s rv r1 n=>?_⟩;have st:Step g' Pv H' (g'.add Pv) wX H':=Step.freeze rv.wc;refine q d m' (g'.add Pv) P' wX v H' hk ag (s.trans ?_) (rv.freeze fun _ q=>q) (r1.held st rv.wc n) fun _ _ z=>z
 exact(st.frame (R:=P')).sub (fun a q=>q.symm) fun a q=>q.elim .inr F1
end
def Qn(t:List Dv->Dv)(fa:Ev (List Dv)):Ev Dv:=fun R m k=>fa R m fun ds m'=>if ds.length<=1000000 then k (t ds) m' else none
noncomputable def SX:List Ar->Bool
 | []=>true
 | .ev _ _ _ _::as=>SX as
 | .rf _::_=>false
 | .fd _ _::_=>false
theorem An.zAO{K:W.Frag}{g:G}{H:Hp}{Γ:Gm}{m:M}{σ:St}:∀{as:List Ar} {ds:List Dv} {vs:List V},SX as=true->An K g H Γ m σ as ds vs->AA K g H 0 ds vs wX
 | [],ds,vs,_,h=>by unfold An at h;obtain⟨rfl,rfl⟩:=h;exact AA.nil
 | .ev _ _ _ f::as,ds,vs,e,h=>by
  unfold An at h;obtain⟨d,v,xY,yP,rfl,rfl,h1,h2⟩:=h;exact(AA.cons h1 (An.zAO (by unfold SX at e;exact e) h2) fun _ z=>z.elim).iff fun a=>⟨fun z=>z.elim,fun z=>z.elim id id⟩
 | .rf i::as,ds,vs,e,h=>by unfold SX at e;cases e
 | .fd i _::as,ds,vs,e,h=>by unfold SX at e;cases e
section
variable {X:Cx} {es:List Expr} {Γ Γ':Gm} {js:List Nat} {as:List Ar} {pos:Pos}
theorem jX{x1}(hq:PA X es (Bt X.K as))(c:AE Γ as Γ' js)(he:SX as=true):PE X (.Tuple es x1 pos) (tE X.K Γ 1 Γ' js (Qn .tup (Ab as))):=PE.imp (fI hq) fun σ H Q q=>by
 obtain⟨g,m,P,r,R,k,res,e,q⟩:=q;refine AU as r c e fun ds m' g' P' vs H1 hk ag s ar r1=>?_
 split at hk
 ·rename_i hz;have rp:=ar.zAO he;refine⟨by rw[<- rp.len];exact B9 hz (by decide),fun p hp=>?_⟩;have sm:=CM hp (.tup vs);have st:=Step.same (g:=g') (P:=wX) sm;refine q _ m' g' P' wX (.ref p) _ hk ag ((s.trans (Step.same sm)).less fun _ q=>q.elim id F1) ?_ (r1.same sm) fun _ _ z=>z
  unfold Rep;exact⟨p,vs,rfl,AF,rp.held st we.wX fun _ _ z=>z⟩
 ·cases hk
theorem Ac.lst{K:W.Frag}{g:G}{H:Hp}{ds:List Dv}{vs:List V}{p:B5}(zd:Zd g H)(rp:AA K g H 0 ds vs wX)(hp:H p=none):Ac K g H 1 (.lst ds) (.ref p) (upd H p (.lst vs)):=by
 have sm:=CM hp (.lst vs);refine⟨sm,fun b=>b=p,?_,fun a q=>q▸hp⟩;unfold Rep;exact⟨p,vs,wX,rfl,⟨AF,(fun z=>by cases z),fun _ z=>zd p z hp⟩,rp.held (Step.same (g:=g) (P:=wX) sm) we.wX fun _ _ z=>z,fun z=>z,fun b=>⟨fun z=>.inl ⟨by decide,z⟩,fun z=>z.elim (fun z=>z.2) F1⟩⟩
theorem jZ(hq:PA X es (Bt X.K as))(c:AE Γ as Γ' js)(he:SX as=true):PE X (.List es pos) (tE X.K Γ 1 Γ' js (Qn .lst (Ab as))):=PE.imp (fN hq) fun σ H Q q=>by
 obtain⟨g,m,P,r,R,k,res,e,q⟩:=q;refine AU as r c e fun ds m' g' P' vs H1 hk ag s ar r1=>?_
 split at hk
 ·rename_i hz;have rp:=ar.zAO he;refine⟨by rw[<- rp.len];exact B9 hz (by decide),fun p hp=>?_⟩;obtain⟨Pv,s2,h1,r2,n2⟩:=Ac.go s r1 (Ac.lst r1.zd rp hp);exact q _ m' g' P' Pv (.ref p) _ hk ag s2 h1 r2 n2
 ·cases hk
end
def FW:List Nat->Type
 | []=>Unit
 | [_]=>Dv
 | _::i::J=>Dv×FW (i::J)
noncomputable def Ak:(J:List Nat)->M->FW J
 | [],_=>()
 | [i],m=>m.at i
 | i::j::J,m=>(m.at i,Ak (j::J) m)
noncomputable def Aq:(J:List Nat)->M->FW J->M
 | [],m,_=>m
 | [i],m,d=>m.set i d
 | i::j::J,m,t=>Aq (j::J) (m.set i t.1) t.2
theorem Ud{m:M}{i:Nat}{d:Dv}(h:i < m.length):M.at (m.set i d) i=d:=KF (E9 h)
theorem Hm:∀(J:List Nat) (m:M) (t:FW J),(Aq J m t).length=m.length
 | [],_,_=>rfl
 | [i],m,d=>D8 ..
 | i::j::J,m,t=>by unfold Aq;rw[Hm];exact D8 ..
theorem AW:∀(J:List Nat) (m:M) (t:FW J),Bj J m (Aq J m t)
 | [],_,_=>Bj.refl
 | [i],m,d=>Bj.set
 | i::j::J,m,t=>by
  unfold Aq;exact(Bj.set (i:=i)).trans (AW (j::J) _ _)
theorem QF:∀(J:List Nat) (m m':M) (i:Nat),i < m.length->i∈J->M.at (Aq J m (Ak J m')) i=m'.at i
 | [],_,_,_,_,h=>by cases h
 | [i],m,m',k,hk,h=>by
  have e:=D4.mp h;subst e;exact Ud hk
 | i::j::J,m,m',k,hk,h=>by
  show M.at (Aq (j::J) (m.set i (m'.at i)) (Ak (j::J) m')) k=_
  by_cases z:k∈j::J
  ·exact QF (j::J) _ m' k (by rw[D8];exact hk) z
  ·rw[(AW (j::J) _ _).2 k z];rcases D0.mp h with e | e
   ·subst e;exact Ud hk
   ·exact(z e).elim
def BR(Γ:Gm)(js:List Nat):List Nat:=(B3 Γ.length).filter fun i=>js.contains i && (Γ.getD i none).isSome
theorem BX{Γ:Gm}{js:List Nat}{i o:Nat}(h:Γ[i]?=some (some o)):i∈BR Γ js\/i∉js:=by
 by_cases e:i∈js
 ·refine .inl (J4.mpr ⟨K6.mpr (C0.mp h).1,?_⟩);rw[A5,B6,B8,h];exact⟨e,rfl⟩
 ·exact .inr e
theorem BE{Γ:Gm}{js:List Nat}{i:Nat}(h:i∈BR Γ js):i∈js:=by
 have:=(J4.mp h).2;rw[A5,B6] at this;exact this.1
theorem Rel.join{K:W.Frag}{g:G}{H:Hp}{Γ:Gm}{m m':M}{σ:St}{P:Fp}{J js:List Nat}(r:Rel K g H Γ m' σ P)(ag:Bj js m m')(hj:∀i o,Γ[i]?=some (some o)->i∈J\/i∉js):Rel K g H Γ (Aq J m (Ak J m')) σ P:=by
 refine r.agree ((Hm ..).trans ag.1.symm) fun i o e=>?_
 have hi:i < m.length:=by rw[<- ag.1,r.len.1];exact(C0.mp e).1
 by_cases z:i∈J
 ·exact QF J m m' i hi z
 ·rw[(AW J m _).2 i z];exact(ag.2 i ((hj i o e).elim (fun q=>(z q).elim) id)).symm
def mm(p:List Dv->Option Bool)(fa:Ev (List Dv)):Ev Bool:=fun R m k=>fa R m fun ds m'=>(p ds).bind fun b=>k b m'
def aC(f:Ev Bool):Ev Dv:=fun R m k=>f R m fun b m'=>k (.bl b) m'
def cP(f:Ev Bool):Ev Bool:=fun R m k=>f R m fun b m'=>k (!b) m'
def Jp{α:Type}(c:Ev Bool)(f g:Ev α):Ev α:=fun R m k=>c R m fun b m1=>if b=true then f R m1 k else g R m1 k
def Jn(α:Type):List Nat->Type
 | []=>α
 | i::J=>α×FW (i::J)
def bz{α:Type}:(J:List Nat)->α->M->Jn α J
 | [],a,_=>a
 | i::J,a,m=>(a,Ak (i::J) m)
def oS{α R:Type}:(J:List Nat)->M->Jn α J->(α->M->Option R)->Option R
 | [],m,a,k=>k a m
 | i::J,m,t,k=>k t.1 (Aq (i::J) m t.2)
theorem Tz{α R:Type}(J:List Nat)(m m':M)(a:α)(k:α->M->Option R):oS J m (bz J a m') k=k a (Aq J m (Ak J m')):=by cases J<;>rfl
def SY{α:Type}(J:List Nat)(f:Ev α):Ev α:=fun R m k=>(f (Jn α J) m fun a m'=>some (bz J a m')).bind fun t=>oS J m t k
section
variable {K:W.Frag} {Γ Γ' w8 Γ3:Gm} {js js2 js3 J:List Nat} {σ:St} {H:Hp} {o:Nat}
theorem Kk{f:Ev Dv}{Q:VK}(hj:∀i o,Γ'[i]?=some (some o)->i∈J\/i∉js)(hs:∀i∈J,i∈js)(h:tE K Γ o Γ' js (SY J f) σ H Q):tE K Γ o Γ' js f σ H Q:=by
 obtain⟨g,m,P,r,R,k,res,e,q⟩:=h;obtain⟨t,e1,e2⟩:=wV e;refine⟨g,m,P,r,_,_,t,e1,fun d m' g' P' Pv v H' hk ag s rv r1 n=>?_⟩;cases hk;rw[Tz] at e2;exact q d _ g' P' Pv v H' e2 ((AW J m _).mono hs) s rv (r1.join ag hj) n
theorem QY{f:Ev Bool}{Q:Bool->Hp->Prop}(hj:∀i o,Γ'[i]?=some (some o)->i∈J\/i∉js)(hs:∀i∈J,i∈js)(h:tT K Γ Γ' js (SY J f) σ H Q):tT K Γ Γ' js f σ H Q:=by
 obtain⟨g,m,P,r,R,k,res,e,q⟩:=h;obtain⟨t,e1,e2⟩:=wV e;refine⟨g,m,P,r,_,_,t,e1,fun d m' g' P' H' hk ag s r1=>?_⟩;cases hk;rw[Tz] at e2;exact q d _ g' P' H' e2 ((AW J m _).mono hs) s (r1.join ag hj)
theorem PY{f:Ev Bool}{Q:Bool->Hp->Prop}(hw:Bn w8 Γ'=true)(hs:∀i∈js,i∈js2)(h:tT K Γ w8 js2 f σ H Q):tT K Γ Γ' js f σ H Q:=by
 obtain⟨g,m,P,r,R,k,res,e,q⟩:=h;refine⟨g,m,P,r,R,k,res,e,fun b m' g' P' H' hk ag s r1=>?_⟩;obtain⟨g2,P2,s2,r2⟩:=r1.weaken hw;exact q b m' g2 P2 H' hk (ag.mono hs) (s.trans s2) r2
theorem Gj{f:Ev Dv}{Q:VK}(hw:Bn w8 Γ'=true)(hs:∀i∈js,i∈js2)(h:tE K Γ 0 w8 js2 f σ H Q):tE K Γ 0 Γ' js f σ H Q:=by
 obtain⟨g,m,P,r,R,k,res,e,q⟩:=h;refine⟨g,m,P,r,R,k,res,e,fun b m' g' P' Pv v H' hk ag s rv r1 n=>?_⟩;obtain⟨g2,P2,s2,r2⟩:=r1.weaken hw;exact q b m' g2 P2 wX v H' hk (ag.mono hs) (((s.less fun _ q=>.inl q).trans s2).less fun _ q=>q.elim id F1) (rv.z.held s2 r1.wc fun _ z=>z.elim) r2 fun _ _ z=>z
theorem mK{p:List Dv->Option Bool}{as:List Ar}{r:RG}(hp:AK K (fun ds=>(p ds).map .bl) 0 r)(c:AE Γ as Γ' js){Q:Bool->Hp->Prop}(h:tT K Γ Γ' js (mm p (Ab as)) σ H Q):Bt K as σ H fun vs H1=>r vs H1 fun x H'=>∃k,x=.bl k/\Q k H':=by
 obtain⟨g,m,P,rl,R',k,res,e,q⟩:=h;refine AU as rl c e fun ds m' g' P' vs H1 hk ag s ar r1=>?_
 obtain⟨b,e1,e2⟩:=wV hk;refine hp g' H1 ds vs (.bl b) _ r1.zd (ar.ra r1) (by show(p ds).map _=_;rw[e1];rfl) fun v H2 nw=>?_
 obtain⟨Pv,s2,h1,r2,n2⟩:=Ac.go s r1 nw;refine⟨b,by unfold Rep at h1;exact h1.1,q b m' g' P' H2 e2 ag (s2.less fun _ q=>.inl q) r2⟩
theorem Cj{g:G}{o:Nat}{b:Bool}{v:V}{P:Fp}(h:Rep K g H o (.bl b) v P):v=.bl b:=by unfold Rep at h;exact h.1
theorem DF{g:G}{b:Bool}:Rep K g H o (.bl b) (.bl b) wX:=by unfold Rep;exact⟨rfl,fun _ z=>z⟩
theorem de{t u:Ev Bool}{Q:Bool->Hp->Prop}(h:tT K Γ Γ' (js++js2) (Jp t u (fun R m k=>k false m)) σ H Q)(hw:Bn Γ' w8=true):jO (tT K Γ w8 js t) (tT K w8 Γ' js2 u) σ H Q:=by
 obtain⟨g,m,P,r,R,k,res,e,q⟩:=h;refine⟨g,m,P,r,R,_,res,e,fun b m1 g1 P1 H1 hk ag s r1=>?_⟩;cases b with
 | true =>
  rw[if_pos rfl] at hk ⊢;exact⟨g1,m1,P1,r1,R,k,res,hk,fun c m2 g2 P2 H2 xy yf s2 r2=>q c m2 g2 P2 H2 xy (ag.trans yf) (s.trans s2) r2⟩
 | false =>
  rw[if_neg C7] at hk ⊢;obtain⟨g2,P2,s2,r2⟩:=r1.weaken hw;exact q false m1 g2 P2 H1 hk (ag.mono fun _ z=>C2 _ z) (s.trans s2) r2
theorem jG{t u:Ev Bool}{Q:Bool->Hp->Prop}(h:tT K Γ Γ' (js++js2) (Jp t (fun R m k=>k true m) u) σ H Q)(hw:Bn Γ' w8=true):og (tT K Γ w8 js t) (tT K w8 Γ' js2 u) σ H Q:=by
 obtain⟨g,m,P,r,R,k,res,e,q⟩:=h;refine⟨g,m,P,r,R,_,res,e,fun b m1 g1 P1 H1 hk ag s r1=>?_⟩;cases b with
 | false =>
  rw[if_neg C7] at hk ⊢;exact⟨g1,m1,P1,r1,R,k,res,hk,fun c m2 g2 P2 H2 xy yf s2 r2=>q c m2 g2 P2 H2 xy (ag.trans yf) (s.trans s2) r2⟩
 | true =>
  rw[if_pos rfl] at hk ⊢;obtain⟨g2,P2,s2,r2⟩:=r1.weaken hw;exact q true m1 g2 P2 H1 hk (ag.mono fun _ z=>C2 _ z) (s.trans s2) r2
theorem dc{t:Ev Bool}{Q:Bool->Hp->Prop}(h:tT K Γ Γ' js (cP t) σ H Q):jJ (tT K Γ Γ' js t) σ H Q:=by
 obtain⟨g,m,P,r,R,k,res,e,q⟩:=h;exact⟨g,m,P,r,R,_,res,e,fun b m1 g1 P1 H1 hk ag s r1=>q (!b) m1 g1 P1 H1 hk ag s r1⟩
theorem jL{c:Ev Bool}{fa fb:Ev Dv}{Q:VK}(h:tE K Γ 0 Γ' (js++(js2++js3)) (Jp c fa fb) σ H Q):oh (tT K Γ w8 js c) (tE K w8 0 Γ' js2 fa) (tE K w8 0 Γ' js3 fb) σ H Q:=by
 obtain⟨g,m,P,r,R,k,res,e,q⟩:=h;refine⟨g,m,P,r,R,_,res,e,fun b m1 g1 P1 H1 hk ag s r1=>?_⟩;cases b with
 | true =>
  rw[if_pos rfl] at hk ⊢;exact⟨g1,m1,P1,r1,R,k,res,hk,fun d m2 g2 P2 Pv v H2 xy yf s2 rv r2 n=>q d m2 g2 P2 Pv v H2 xy ((ag.trans yf).mono fun i z=>(D9.mp z).elim (fun z=>C2 _ z) fun z=>A9 _ (C2 _ z)) (s.trans s2) rv r2 n⟩
 | false =>
  rw[if_neg C7] at hk ⊢;exact⟨g1,m1,P1,r1,R,k,res,hk,fun d m2 g2 P2 Pv v H2 xy yf s2 rv r2 n=>q d m2 g2 P2 Pv v H2 xy ((ag.trans yf).mono fun i z=>(D9.mp z).elim (fun z=>C2 _ z) fun z=>A9 _ (A9 _ z)) (s.trans s2) rv r2 n⟩
end
structure Kt (R:Type) where
 nx:M->Option R
 rt:Dv->M->Option R
 bk:M->Option R
 ct:M->Option R
noncomputable abbrev Es:=(R:Type)->M->Kt R->Option R
def Io(io:List Nat)(σ σ':St):Prop:=∀i∈io,σ'[i]?=σ[i]?
theorem Io.refl{io:List Nat}{σ:St}:Io io σ σ:=fun _ _=>rfl
theorem Io.trans{io:List Nat}{σ yv xN:St}(a:Io io σ yv)(b:Io io yv xN):Io io σ xN:=fun i h=>(b i h).trans (a i h)
theorem Io.set{io:List Nat}{σ:St}{i:Nat}{x:Option V}(h:i∉io):Io io σ (σ.set i x):=fun j hj=>E1 fun z=>h (by rw[z];exact hj)
structure Fr where
 io:List Nat
 Γr:Gm
 ro:Nat
structure AcS (K:W.Frag) (F:Fr) (wZ:Option Gm) (g:G) (P:Fp) (H:Hp) (σ:St) (D:Ends) (Γn:Option Gm) (js:List Nat) (m:M) {R:Type} (k:Kt R) (r:R):Prop where
 nx:∀Γ' m' g' P' σ' H',Γn=some Γ'->k.nx m'=some r->Bj js m m'->Step g P H g' P' H'->Io F.io σ σ'->Rel K g' H' Γ' m' σ' P'->D.nx σ' H'
 rt:∀d m' g' P' Pv σ' v H',k.rt d m'=some r->Bj js m m'->Step g P H g' (fun a=>P' a\/Pv a) H'->Io F.io σ σ'->Rep K g' H' F.ro d v Pv->Rel K g' H' F.Γr m' σ' P'->Bp P' Pv->D.rt v H'
 bk:∀Γ' m' g' P' σ' H',wZ=some Γ'->k.bk m'=some r->Bj js m m'->Step g P H g' P' H'->Io F.io σ σ'->Rel K g' H' Γ' m' σ' P'->D.bk σ' H'
 ct:∀Γ' m' g' P' σ' H',wZ=some Γ'->k.ct m'=some r->Bj js m m'->Step g P H g' P' H'->Io F.io σ σ'->Rel K g' H' Γ' m' σ' P'->D.ct σ' H'
def tS(K:W.Frag)(F:Fr)(wZ:Option Gm)(Γ:Gm)(Γn:Option Gm)(js:List Nat)(f:Es):TS:=fun D σ H=>∃g m P,Rel K g H Γ m σ P/\∃(R:Type) (k:Kt R) (r:R),f R m k=some r/\AcS K F wZ g P H σ D Γn js m k r
theorem AcS.later{K:W.Frag}{F:Fr}{wZ Γn:Option Gm}{g g1:G}{P P1:Fp}{H H1:Hp}{σ yv:St}{D:Ends}{js ks:List Nat}{m m1:M}{R:Type}{k:Kt R}{r:R}(s:Step g P H g1 P1 H1)(i:Io F.io σ yv)(ag:Bj js m m1)(h:AcS K F wZ g P H σ D Γn (js++ks) m k r):AcS K F wZ g1 P1 H1 yv D Γn ks m1 k r:=
  ⟨fun Γ' m' g' P' σ' H' e hk a s' i' r'=>h.nx Γ' m' g' P' σ' H' e hk (ag.trans a) (s.trans s') (i.trans i') r',
   fun d m' g' P' Pv σ' v H' hk a s' i' rv r' n=>h.rt d m' g' P' Pv σ' v H' hk (ag.trans a) (s.trans s') (i.trans i') rv r' n,
   fun Γ' m' g' P' σ' H' e hk a s' i' r'=>h.bk Γ' m' g' P' σ' H' e hk (ag.trans a) (s.trans s') (i.trans i') r',
   fun Γ' m' g' P' σ' H' e hk a s' i' r'=>h.ct Γ' m' g' P' σ' H' e hk (ag.trans a) (s.trans s') (i.trans i') r'⟩
def IL:Es:=fun _ m k=>k.nx m
def lH(f g:Es):Es:=fun R m k=>f R m { k with nx:=fun m1=>g R m1 k }
def MY(c:Ev Bool)(f g:Es):Es:=fun R m k=>c R m fun b m1=>if b=true then f R m1 k else g R m1 k
def cM(f:Ev Dv):Es:=fun R m k=>f R m k.rt
def Wb(f:Ev Dv):Es:=fun R m k=>f R m fun _ m1=>k.nx m1
section
variable {X:Cx} {F:Fr} {wZ Γn zBX:Option Gm} {Γ Γ' w8:Gm} {js js2 js3 J:List Nat} {s:M4} {ss rest a b:List M4} {e c:Expr} {pos:Pos} {f f2:Es} {fe:Ev Dv} {t:Ev Bool} {o:Nat}
theorem HQ{K:W.Frag}{D:Ends}{σ:St}{H:Hp}(h:tS K F wZ Γ (some Γ) [] IL D σ H):D.nx σ H:=by
 obtain⟨g,m,P,r,R,k,res,e,q⟩:=h;exact q.nx Γ m g P σ H rfl e Bj.refl Step.refl Io.refl r
theorem jU:EA X [] (tS X.K F wZ Γ (some Γ) [] IL):=EA.imp ZC fun D σ H h=>HQ h
theorem eE:PS X (.Pass pos) (tS X.K F wZ Γ (some Γ) [] IL):=PS.imp ZD fun D σ H h=>HQ h
theorem jV{x j pos'}:PS X (.Expr (.Constant (.str x) j pos) pos') (tS X.K F wZ Γ (some Γ) [] IL):=PS.imp eZ fun D σ H h=>HQ h
theorem eK(h1:PS X s (tS X.K F wZ Γ (some w8) js f))(h2:EA X rest (tS X.K F wZ w8 Γn js2 f2)):EA X (s::rest) (tS X.K F wZ Γ Γn (js++js2) (lH f f2)):=EA.imp (Lw h1 h2) fun D σ H h=>by
 obtain⟨g,m,P,r,R,k,res,e,q⟩:=h;refine⟨g,m,P,r,R,_,res,e,⟨fun Γ' m' g' P' σ' H' e hk ag s' i' r'=>?_,fun d m' g' P' Pv σ' v H' hk ag=>q.rt d m' g' P' Pv σ' v H' hk (ag.mono fun _ z=>C2 _ z),fun Γ' m' g' P' σ' H' e hk ag=>q.bk Γ' m' g' P' σ' H' e hk (ag.mono fun _ z=>C2 _ z),fun Γ' m' g' P' σ' H' e hk ag=>q.ct Γ' m' g' P' σ' H' e hk (ag.mono fun _ z=>C2 _ z)⟩⟩;cases e;exact⟨g',m',P',r',R,k,res,hk,q.later s' i' ag⟩
theorem eF(h1:PS X s (tS X.K F wZ Γ none js f)):EA X (s::rest) (tS X.K F wZ Γ none js f):=EA.imp (Lw h1 (u:=fun _ _ _=>False) fun _ _ _ _ _ _ z=>z.elim) fun D σ H h=>by
 obtain⟨g,m,P,r,R,k,res,e,q⟩:=h;exact⟨g,m,P,r,R,k,res,e,(fun _ _ _ _ _ _ e=>by cases e),q.rt,q.bk,q.ct⟩
theorem jT(h1:PS X s (tS X.K F wZ Γ Γn js f)):EA X [s] (tS X.K F wZ Γ Γn js f):=ZA h1
theorem jR(hq:PE X e (tE X.K Γ F.ro F.Γr js fe)):PS X (.Return (some e) pos) (tS X.K F wZ Γ none js (cM fe)):=PS.imp (eX hq) fun D σ H h=>by
 obtain⟨g,m,P,r,R,k,res,e,q⟩:=h;exact⟨g,m,P,r,R,_,res,e,fun d m' g' P' Pv v H' hk ag s rv r1 n=>q.rt d m' g' P' Pv σ v H' hk ag s Io.refl rv r1 n⟩
theorem eJ(hq:PE X e (tE X.K Γ o Γ' js fe))(hs:W6 e none pos.line X.env=pure false):PS X (.Expr e pos) (tS X.K F wZ Γ (some Γ') js (Wb fe)):=PS.imp (ZE hq hs) fun D σ H h=>by
 obtain⟨g,m,P,r,R,k,res,e,q⟩:=h;exact⟨g,m,P,r,R,_,res,e,fun d m' g' P' Pv v H' hk ag s rv r1 n=>q.nx Γ' m' g' P' σ H' rfl hk ag (s.less fun _ q=>.inl q) Io.refl r1⟩
theorem nR(hc:PT X c (tT X.K Γ w8 js t))(ha:EA X a (tS X.K F wZ w8 Γn js2 f))(hb:EA X b (tS X.K F wZ w8 Γn js3 f2)):PS X (.If c a b pos) (tS X.K F wZ Γ Γn (js++(js2++js3)) (MY t f f2)):=PS.imp (kK hc ha hb) fun D σ H h=>by
 obtain⟨g,m,P,r,R,k,res,e,q⟩:=h;refine⟨g,m,P,r,R,_,res,e,fun b m1 g1 P1 H1 hk ag s r1=>?_⟩;have q2:=q.later s Io.refl ag;have mo:∀(ks:List Nat),(∀i∈ks,i∈js2++js3)->AcS X.K F wZ g1 P1 H1 σ D Γn ks m1 k res:=fun ks hks =>
  ⟨fun Γ' m' g' P' σ' H' e hk a=>q2.nx Γ' m' g' P' σ' H' e hk (a.mono hks),fun d m' g' P' Pv σ' v H' hk a=>q2.rt d m' g' P' Pv σ' v H' hk (a.mono hks),fun Γ' m' g' P' σ' H' e hk a=>q2.bk Γ' m' g' P' σ' H' e hk (a.mono hks),fun Γ' m' g' P' σ' H' e hk a=>q2.ct Γ' m' g' P' σ' H' e hk (a.mono hks)⟩
 cases b with
 | true=>rw[if_pos rfl] at hk;show(if true=true then _ else _);rw[if_pos rfl];exact⟨g1,m1,P1,r1,R,k,res,hk,mo js2 fun _ z=>C2 _ z⟩
 | false=>rw[if_neg C7] at hk;show(if false=true then _ else _);rw[if_neg C7];exact⟨g1,m1,P1,r1,R,k,res,hk,mo js3 fun _ z=>A9 _ z⟩
def LR:Option Gm->Option Gm->Bool
 | some a,some b=>Bn a b
 | _,none=>true
 | none,some _=>false
theorem Uh(h:EA X ss (tS X.K F wZ Γ Γn js f))(hw:LR zBX Γn=true):EA X ss (tS X.K F wZ Γ zBX js f):=EA.imp h fun D σ H h=>by
 obtain⟨g,m,P,r,R,k,res,e,q⟩:=h;refine⟨g,m,P,r,R,k,res,e,fun Γ' m' g' P' σ' H' e hk ag s' i' r'=>?_,q.rt,q.bk,q.ct⟩;subst e;cases zBX with
 | none=>cases hw
 | some Γ3 =>
  obtain⟨g2,P2,s2,r2⟩:=r'.weaken (by unfold LR at hw;exact hw);exact q.nx Γ3 m' g2 P2 σ' H' rfl hk ag (s'.trans s2) i' r2
def lK(J:List Nat)(f:Es):Es:=fun R m k=>(f (FW J) m ⟨fun m'=>some (Ak J m'),fun _ _=>none,fun _=>none,fun _=>none⟩).bind fun t=>k.nx (Aq J m t)
theorem gR{K:W.Frag}{D:Ends}{σ:St}{H:Hp}(hj:∀i o,Γ'[i]?=some (some o)->i∈J\/i∉js)(hs:∀i∈J,i∈js)(h:tS K F wZ Γ (some Γ') js (lK J f) D σ H):tS K F wZ Γ (some Γ') js f D σ H:=by
 obtain⟨g,m,P,r,R,k,res,e,q⟩:=h;obtain⟨t,e1,e2⟩:=wV e;refine⟨g,m,P,r,_,_,t,e1,⟨fun w8 m' g' P' σ' H' e hk ag s' i' r'=>?_,(fun _ _ _ _ _ _ _ _ hk=>by cases hk),(fun _ _ _ _ _ _ _ hk=>by cases hk),fun _ _ _ _ _ _ _ hk=>by cases hk⟩⟩;cases e;cases hk;exact q.nx Γ' _ g' P' σ' H' rfl e2 ((AW J m _).mono hs) s' i' (r'.join ag hj)
end
noncomputable abbrev Tg:=(R:Type)->Dv->M->(M->Option R)->Option R
def Ag(js:List Nat)(σ σ':St):Prop:=σ'.length=σ.length/\∀i,i∉js->σ'[i]?=σ[i]?
theorem Ag.io{js io:List Nat}{σ σ':St}(h:Ag js σ σ')(d:∀i∈io,i∉js):Io io σ σ':=fun i hi=>h.2 i (d i hi)
theorem Ag.trans{js ks:List Nat}{σ yv xN:St}(a:Ag js σ yv)(b:Ag ks yv xN):Ag (js++ks) σ xN:=⟨b.1.trans a.1,fun i h=>(b.2 i fun z=>h (A9 _ z)).trans (a.2 i fun z=>h (C2 _ z))⟩
theorem Ag.set{σ:St}{i:Nat}{x:Option V}:Ag [i] σ (σ.set i x):=⟨D8 ..,fun j h=>E1 fun z=>h (by rw[z];exact J7 _)⟩
def PN(K:W.Frag)(Γ Γ':Gm)(js:List Nat)(tg:TG)(f:Tg):Prop:=∀(g:G) (m:M) (P:Fp) (d:Dv) (v:V) (σ:St) (H:Hp) (R:Type) (k:M->Option R) (r:R) (Q:St->Hp->Prop),Rel K g H Γ m σ P->Rep K g H 0 d v wX->f R d m k=some r ->
 (∀m' P' σ',k m'=some r->Bj js m m'->(∀a,P' a->P a)->Ag js σ σ'->Rel K g H Γ' m' σ' P'->Q σ' H)->tg v σ H Q
def jE(i:Nat):Tg:=fun _ d m k=>k (m.set i d)
theorem YV{K:W.Frag}{Γ:Gm}{i:Nat}(hi:i < Γ.length):PN K Γ (Γ.set i (some 0)) [i] (DH i) (jE i):=fun g m P d v σ H R k r Q rl rv e q=>by
 obtain⟨P2,r2,s⟩:=rl.yD hi rv fun _ z=>z.elim
 exact q _ P2 _ e Bj.set (fun a z=>(s a z).elim id F1) Ag.set r2
noncomputable def dZ:(J:List Nat)->List Dv->Option (FW J)
 | [],[]=>some ()
 | [_],[d]=>some d
 | _::j::J,d::ds=>(dZ (j::J) ds).bind fun t=>some (d,t)
 | _,_=>none
def YQ(J:List Nat)(d:Dv):Option (FW J):=match d with
 | .tup ds=>dZ J ds
 | .lst ds=>dZ J ds
 | _=>none
def oX(J:List Nat):Tg:=fun _ d m k=>(YQ J d).bind fun t=>k (Aq J m t)
def Ds:List Nat->LN
 | []=>MT
 | i::J=>DI (DH i) (Ds J)
def Ug(Γ:Gm)(J:List Nat)(x:Option Nat):Gm:=J.foldl (fun Γ i=>Γ.set i x) Γ
theorem Ue(J:List Nat)(x:Option Nat):∀Γ:Gm,(Ug Γ J x).length=Γ.length:=by
 induction J with
 | nil=>intro Γ;rfl
 | cons i J ih=>intro Γ;show(Ug (Γ.set i x) J x).length=_;rw[ih,D8]
theorem Jc{K:W.Frag}:∀(J:List Nat) {Γ:Gm} {g:G} {m:M} {P:Fp} {ds:List Dv} {vs:List V} {σ:St} {H:Hp} {t:FW J} {Q:St->Hp->Prop},(∀i∈J,i < Γ.length)->Rel K g H Γ m σ P->AA K g H 0 ds vs wX->dZ J ds=some t ->
    (∀P' σ',(∀a,P' a->P a)->Ag J σ σ'->Rel K g H (Ug Γ J (some 0)) (Aq J m t) σ' P'->Q σ' H)->ds.length=J.length/\Ds J vs σ H Q
  | [],Γ,g,m,P,ds,vs,σ,H,t,Q,hJ,r,rv,e,q=>by
    cases ds with
    | nil =>
      unfold AA at rv;exact⟨rfl,rv.1,q P σ (fun _ z=>z) ⟨rfl,fun _ _=>rfl⟩ r⟩
    | cons d ds=>cases e
  | [i],Γ,g,m,P,ds,vs,σ,H,t,Q,hJ,r,rv,e,q=>by
    match ds,e with
    | [d],e =>
      cases e;unfold AA at rv;obtain⟨v,vr,P1,P2,rfl,h1,h2,_,h4⟩:=rv;unfold AA at h2;obtain⟨P3,r3,s⟩:=r.yD (hJ i B2) h1.z fun _ z=>z.elim
      exact⟨rfl,v,vr,rfl,h2.1,q P3 _ (fun a z=>(s a z).elim id F1) Ag.set r3⟩
    | [],e=>cases e
    | _::_::_,e=>cases e
  | i::j::J,Γ,g,m,P,ds,vs,σ,H,t,Q,hJ,r,rv,e,q=>by
    match ds,e with
    | [],e=>cases e
    | d::ds,e =>
      obtain⟨t',e1,e2⟩:=wV (show(dZ (j::J) ds).bind (fun t=>some (d,t))=some t from e);cases e2;unfold AA at rv;obtain⟨v,vr,P1,P2,rfl,h1,h2,_,h4⟩:=rv;obtain⟨P3,r3,s⟩:=r.yD (hJ i B2) h1.z fun _ z=>z.elim
      have s':∀a,P3 a->P a:=fun a z=>(s a z).elim id F1
      have:=Jc (j::J) (Q:=Q) (fun k hk=>by rw[D8];exact hJ k (B1 _ hk)) r3 h2.z e1 fun P' σ' sp ag r'=>q P' σ' (fun a z=>s' a (sp a z)) (Ag.set.trans ag) r'
      exact⟨by simp[this.1],v,vr,rfl,this.2⟩
abbrev WM(K:W.Frag)(n:Nat)(t:LN):TG:=fun v σ H Q=>gX K n t v σ H Q\/gY n t v σ H Q
theorem UD{K:W.Frag}{Γ:Gm}{J:List Nat}(hJ:∀i∈J,i < Γ.length):PN K Γ (Ug Γ J (some 0)) J (WM K J.length (Ds J)) (oX J):=fun g m P d v σ H R k r Q rl rv e q=>by
 obtain⟨t,e1,e2⟩:=wV e;have go:∀{ds vs},AA K g H 0 ds vs wX->dZ J ds=some t->ds.length=J.length/\Ds J vs σ H Q:=fun h1 h2=>Jc J hJ rl h1 h2 fun P' σ' sp ag r'=>q _ P' σ' e2 (AW J m t) sp ag r'
 cases d with
 | tup ds =>
  unfold Rep at rv;obtain⟨a,vs,rfl,h1,h2⟩:=rv;obtain⟨l,z⟩:=go h2 e1;exact .inl ⟨a,vs,rfl,.inl (.inl h1),by rw[<- h2.len];exact l,z⟩
 | lst ds =>
  unfold Rep at rv;obtain⟨a,vs,P',rfl,h1,h2,_⟩:=rv;obtain⟨l,z⟩:=go h2.z e1;exact .inr ⟨a,vs,rfl,h1.1,by rw[<- h2.len];exact l,z⟩
 | _=>cases e1
theorem PG.or{X:Cx}{e:Expr}{t u:TG}(h:PG X e t)(k:PG X e u):PG X e fun v σ H Q=>t v σ H Q\/u v σ H Q:=fun pins s σ H v w Q I r q=>q.elim (h pins s σ H v w Q I r) (k pins s σ H v w Q I r)
theorem WI{js:List Nat}{t u:TG}(h:Tc js t)(k:Tc js u):Tc js fun v σ H Q=>t v σ H Q\/u v σ H Q:=fun x σ H Q q=>q.elim (fun q=>.inl (h x σ H Q q)) fun q=>.inr (k x σ H Q q)
theorem Ef{js:List Nat}:∀(J:List Nat),(∀i∈J,i∈js)->NO js (Ds J)
 | [],_=>MS
 | i::J,h=>SR (h i B2) (Ef J fun k hk=>h k (B1 _ hk))
def oW(f1 f2:Tg):Tg:=fun R d m k=>(YQ [0,1] d).bind fun t=>f1 R t.1 m fun m1=>f2 R t.2 m1 k
theorem YU{K:W.Frag}{Γ wu w8:Gm}{J1 J2:List Nat}{g1 g2:TG}{f1 f2:Tg}(h1:PN K Γ wu J1 g1 f1)(h2:PN K wu w8 J2 g2 f2):PN K Γ w8 (J1++J2) (WM K 2 (DI g1 (DI g2 MT))) (oW f1 f2):=fun g m P d v σ H R k r Q rl rv e q=>by
 obtain⟨t,e1,e2⟩:=wV e;have go:∀{ds vs},AA K g H 0 ds vs wX->dZ [0,1] ds=some t->vs.length=2/\DI g1 (DI g2 MT) vs σ H Q:=fun{ds vs} hr et=>by
  match ds,et with
  | [x,y],et =>
   cases et;unfold AA at hr;obtain⟨vx,r1,P1,P2,rfl,hx,hr,_⟩:=hr;unfold AA at hr;obtain⟨vy,r2,P3,P4,rfl,hy,hr,_⟩:=hr;unfold AA at hr;obtain⟨rfl,_⟩:=hr;exact⟨rfl,vx,[vy],rfl,h1 g m P x vx σ H R _ r _ rl hx.z e2 fun m1 P1 yv k1 a1 p1 s1 r1=>⟨vy,[],rfl,h2 g m1 P1 y vy yv H R k r _ r1 hy.z k1 fun m2 P2 xN k2 a2 p2 s2 r2=>⟨rfl,q m2 P2 xN k2 (a1.trans a2) (fun a z=>p1 a (p2 a z)) (s1.trans s2) r2⟩⟩⟩
  | [],et=>cases et
  | [_],et=>cases et
  | _::_::_::_,et=>cases et
 cases d with
 | tup ds =>
  unfold Rep at rv;obtain⟨a,vs,rfl,h1,h2⟩:=rv;obtain⟨l,z⟩:=go h2 e1;exact .inl ⟨a,vs,rfl,.inl (.inl h1),l,z⟩
 | lst ds =>
  unfold Rep at rv;obtain⟨a,vs,P',rfl,h1,h2,_⟩:=rv;obtain⟨l,z⟩:=go h2.z e1;exact .inr ⟨a,vs,rfl,h1.1,l,z⟩
 | _=>cases e1
def YB(t:TG):Prop:=∀v σ H (Q Q':St->Hp->Prop),t v σ H Q->(∀σ H,Q σ H->Q' σ H)->t v σ H Q'
def KI(t:LN):Prop:=∀v σ H (Q Q':St->Hp->Prop),t v σ H Q->(∀σ H,Q σ H->Q' σ H)->t v σ H Q'
theorem Je{i:Nat}:YB (DH i):=fun _ _ _ _ _ h q=>q _ _ h
theorem Hv:KI MT:=fun _ _ _ _ _ h q=>⟨h.1,q _ _ h.2⟩
theorem Jf{t:TG}{u:LN}(ht:YB t)(hu:KI u):KI (DI t u):=fun _ _ _ _ _ ⟨v,r,e,h⟩ q=>⟨v,r,e,ht _ _ _ _ _ h fun _ _ h=>hu _ _ _ _ _ h q⟩
theorem Hw:∀J:List Nat,KI (Ds J)
 | []=>Hv
 | _::J=>Jf Je (Hw J)
theorem Vk{K:W.Frag}{n:Nat}{u:LN}(hu:KI u):YB (WM K n u):=fun _ _ _ _ _ h q=>h.elim (fun⟨a,xs,e,s,l,h⟩=>.inl ⟨a,xs,e,s,l,hu _ _ _ _ _ h q⟩) fun⟨a,xs,e,s,l,h⟩=>.inr ⟨a,xs,e,s,l,hu _ _ _ _ _ h q⟩
theorem IH{js:List Nat}{t:TG}{u:LN}(mt:YB t)(mu:KI u)(ht:Tc js t)(hu:NO js u):NO js (DI t u):=fun x σ H Q ⟨v,r,e,q⟩=>⟨v,r,e,mt _ _ _ _ _ (ht v σ H _ q) fun yv H1 ⟨⟨l1,f1⟩,q1⟩=>mu _ _ _ _ _ (hu r yv H1 _ q1) fun xN H2 ⟨⟨l2,f2⟩,q2⟩=>⟨⟨l2.trans l1,fun i hi=>(f2 i hi).trans (f1 i hi)⟩,q2⟩⟩
def Wc(f:Ev Dv)(tg:Tg):Es:=fun R m k=>f R m fun d m1=>tg R d m1 k.nx
section
variable {X:Cx} {F:Fr} {wZ:Option Gm} {Γ Γ' w8:Gm} {js js2:List Nat} {e tg:Expr} {pos pos':Pos} {fe:Ev Dv} {g:TG} {ft:Tg} {i o:Nat} {x:Str}
theorem Pn{K:W.Frag}(hi:i < w8.length)(yZ:i∉F.io){D:Ends}{σ:St}{H:Hp}(h:tS K F wZ Γ (some (w8.set i (some o))) (js++[i]) (Wc fe (jE i)) D σ H):Nj (tE K Γ o w8 js fe) (DH i) D σ H:=by
 obtain⟨g0,m,P,r,R,k,res,e,q⟩:=h;refine⟨g0,m,P,r,R,_,res,e,fun d m1 g' P' Pv v H' hk ag s rv r1 n=>?_⟩;obtain⟨P2,r2,s2⟩:=r1.yD hi rv fun a q z=>n a z q
 exact q.nx _ _ g' P2 _ H' rfl hk (ag.trans Bj.set) (s.less fun a z=>s2 a z) (Io.set yZ) r2
theorem jQ(hN:X.N.Nodup)(hix:X.N[i]?=some x)(hx:Loc X.env.scope x)(yZ:i∉F.io)(hi:i < w8.length)(he:PE X e (tE X.K Γ o w8 js fe))(hs:W6 e (some (.Name x pos')) pos.line X.env=pure false)(hf:X.fn x=true\/X.env.scope.names.lookup x=some .local) :
    PS X (.Assign [.Name x pos'] e pos) (tS X.K F wZ Γ (some (w8.set i (some o))) (js++[i]) (Wc fe (jE i))):=PS.imp (eW hN hix hx he hs hf) fun _ _ _ h=>Pn hi yZ h
end
def Ii(g:G)(H:Hp)(g2:G)(H2:Hp):Prop:=∃P P',Step g P H g2 P' H2/\we g H P
def Yl(K:W.Frag)(J:It)(ds:List Dv)(g:G)(H:Hp):Prop:=∀g2 H2,Ii g H g2 H2 ->
 (∀i d,ds[i]?=some d->J.go i H2/\∀x H3,J.yld i H2 x H3->Ac K g2 H2 0 d x H3)/\∀i,ds.length<=i->J.stop i H2
def tI(K:W.Frag)(Γ Γ':Gm)(js:List Nat)(f:Ev (List Dv)):TI:=fun σ H Q=>∃g m P,Rel K g H Γ m σ P/\∃(R:Type) (k:List Dv->M->Option R) (r:R),f R m k=some r /\
 ∀ds m' g' P' H' J,k ds m'=some r->Bj js m m'->Step g P H g' P' H'->Rel K g' H' Γ' m' σ P'->Yl K J ds g' H'->Q J H'
theorem PI.imp{X:Cx}{tg e:Expr}{t t':TI}(h:PI X tg e t)(k:∀σ H R,t' σ H R->t σ H R):PI X tg e t':=fun pins s σ H R I q=>h pins s σ H R I (k σ H R q)
theorem Ac.old{K:W.Frag}{g:G}{H:Hp}{o:Nat}{d:Dv}{v:V}(h:Rep K g H o d v wX):Ac K g H o d v H:=⟨fun _ _ q=>q,wX,h,fun _ z=>z.elim⟩
theorem Ii.rep{K:W.Frag}{g g2:G}{H H2:Hp}{d:Dv}{v:V}(s:Ii g H g2 H2)(h:Rep K g H 0 d v wX):Rep K g2 H2 0 d v wX:=by
 obtain⟨P,P',st,ok⟩:=s;exact h.held st ok fun _ z=>z.elim
section
variable {τ γ ρ:Type}
inductive Lp (τ γ ρ:Type) where
 | go (c:γ) | bk (c:γ) | rt (d:τ) (r:ρ)
inductive Rs (τ γ ρ:Type) where
 | go (c:γ) | rt (d:τ) (r:ρ)
noncomputable def Rs.el{δ:Type}(x:Rs τ γ ρ)(f:γ->δ)(h:τ->ρ->δ):δ:=match x with | .go c=>f c | .rt d r=>h d r
noncomputable def Aw(g:Dv->γ->Option γ):List Dv->γ->Option γ
 | [],c=>some c
 | x::xs,c=>(g x c).bind fun c1=>Aw g xs c1
noncomputable def DJ(g:Dv->γ->Option (Lp τ γ ρ)):List Dv->γ->Option (Rs τ γ ρ)
 | [],c=>some (.go c)
 | x::xs,c=>(g x c).bind fun l=>match l with
  | .go c1=>DJ g xs c1
  | .bk c1=>some (.go c1)
  | .rt d r=>some (.rt d r)
noncomputable def ic(t:γ->Option Bool)(g:γ->Option γ):Nat->γ->Option γ
 | 0,_=>none
 | n+1,c=>(t c).bind fun b=>if b=true then(g c).bind (ic t g n) else some c
end
def kC(J:List Nat):Kt (FW J):=⟨fun m'=>some (Ak J m'),fun _ _=>none,fun _=>none,fun m'=>some (Ak J m')⟩
def kE(J Jr:List Nat):Kt (Lp Dv (FW J) (FW Jr)):=⟨fun m'=>some (.go (Ak J m')),fun d m'=>some (.rt d (Ak Jr m')),fun m'=>some (.bk (Ak J m')),fun m'=>some (.go (Ak J m'))⟩
def Wa(src:Ev (List Dv))(tg:Tg)(J:List Nat)(b:Es):Es:=fun R m k=>src R m fun ds m1 =>
 (Aw (fun d t=>tg (FW J) d (Aq J m1 t) fun m2=>b (FW J) m2 (kC J)) ds (Ak J m1)).bind fun t=>k.nx (Aq J m1 t)
def WZ(src:Ev (List Dv))(tg:Tg)(J Jr:List Nat)(b:Es):Es:=fun R m k=>src R m fun ds m1 =>
 (DJ (fun d t=>tg (Lp Dv (FW J) (FW Jr)) d (Aq J m1 t) fun m2=>b (Lp Dv (FW J) (FW Jr)) m2 (kE J Jr)) ds (Ak J m1)).bind fun x=>x.el (fun t=>k.nx (Aq J m1 t)) fun d t=>k.rt d (Aq Jr m1 t)
theorem Oc{J:List Nat}{Γ:Gm}{K:W.Frag}{g:G}{H:Hp}{m:M}{σ:St}{P:Fp}(r:Rel K g H Γ m σ P):Rel K g H Γ (Aq J m (Ak J m)) σ P:=r.join (js:=[]) Bj.refl fun _ _ _=>.inr (by simp)
theorem Qj{K:W.Frag}{F:Fr}{zL:Option Gm}{Γ yO:Gm}{Γo:Option Gm}{jt jb:List Nat}{g:TG}{ft:Tg}{b:Es}{J Jr:List Nat}(ht:PN K Γ yO jt g ft)(yZ:∀i∈F.io,i∉jt)(hw:LR (some Γ) Γo=true)
    (hJ:J=BR Γ (jt++jb)) (hJr:Jr=BR F.Γr (jt++jb)) {ds:List Dv} {m1:M} {D:Ends} {σ:St} {H1:Hp} {g1:G} {P1:Fp} {I:It} {R:Type} {k:Kt R} {res:R}
    (r1:Rel K g1 H1 Γ m1 σ P1) (yl:Yl K I ds g1 H1) (run:List Dv->FW J->Prop) (h0:run ds (Ak J m1)) (hn:∀t,run [] t->k.nx (Aq J m1 t)=some res)
    (hc:∀d ds t,run (d::ds) t->∃(B:Type) (κ:Kt B) (r:B),ft B d (Aq J m1 t) (fun m2=>b B m2 κ)=some r/\(∀m',κ.nx m'=some r->run ds (Ak J m'))/\(∀m',κ.ct m'=some r->run ds (Ak J m')) /\
      (∀m',κ.bk m'=some r->k.nx (Aq J m1 (Ak J m'))=some res)/\∀d m',κ.rt d m'=some r->k.rt d (Aq Jr m1 (Ak Jr m'))=some res)
    (q:AcS K F zL g1 P1 H1 σ D (some Γ) (jt++jb) m1 k res) :
    ∃W:Nat->Nat->St->Hp->Prop,(∃m,W 0 m σ H1)/\∀i m σ H,W i m σ H ->
      (I.stop i H/\D.nx σ H)\/(I.go i H/\∃N:St->Hp->Prop,(∀σ' H',N σ' H'->∃m',m' < m/\W (i+1) m' σ' H')/\∀x H',I.yld i H x H'->g x σ H' fun xN H2=>tS K F (some Γ) yO Γo jb b { D with nx:=N,ct:=N,bk:=D.nx } xN H2):=by
  have sub:∀i∈J,i∈jt++jb:=fun i h=>BE (hJ▸h)
  have zBY:∀i∈Jr,i∈jt++jb:=fun i h=>BE (hJr▸h)
  refine⟨fun i j σ' H'=>j=ds.length - i/\i<=ds.length/\∃g2 t P2,Step g1 P1 H1 g2 P2 H'/\Io F.io σ σ'/\Rel K g2 H' Γ (Aq J m1 t) σ' P2/\run (ds.drop i) t,⟨ds.length,by simp,E7 _,g1,Ak J m1,P1,Step.refl,Io.refl,Oc r1,by simpa using h0⟩,?_⟩;rintro i j xN H2 ⟨rfl,hi,g2,t,P2,s2,i2,r2,e2⟩;have st:Ii g1 H1 g2 H2:=⟨P1,P2,s2,r1.wc⟩
  by_cases w6:i < ds.length
  · rw[L0 w6] at e2;obtain⟨B,κ,rB,e3,knx,kct,kbk,krt⟩:=hc _ _ _ e2;obtain⟨go,yy⟩:=(yl g2 H2 st).1 i ds[i] (A3 w6);refine .inr ⟨go,fun σ' H'=>∃g5 P5 m',Step g1 P1 H1 g5 P5 H'/\Io F.io σ σ'/\Rel K g5 H' Γ m' σ' P5/\Bj (jt++jb) m1 m'/\run (ds.drop (i+1)) (Ak J m'),?_,fun x H3 hy=>?_⟩
    · rintro σ' H' ⟨g5,P5,m',s5,i5,r5,ag,hr⟩;exact⟨ds.length - (i+1),by omega,rfl,w6,g5,Ak J m',P5,s5,i5,r5.join ag fun i o h=>hJ▸BX h,hr⟩
    · obtain⟨Pv,s3,h3,r3,n3⟩:=Ac.go s2 r2 (yy x H3 hy);refine ht g2 _ P2 ds[i] x xN H3 B _ rB _ r3 h3.z e3 fun m2 P' σ' hk ag sp ip r'=>?_
      have s4:Step g1 P1 H1 g2 P' H3:=s3.less fun a z=>.inl (sp a z)
      have i4:=i2.trans (ip.io yZ);have a4:Bj (jt++jb) m1 m2:=((AW J m1 t).mono sub).trans ag |>.mono fun i z=>(D9.mp z).elim id fun z=>C2 _ z
      have a5:∀{m'},Bj jb m2 m'->Bj (jt++jb) m1 m':=fun h=>(a4.trans h).mono fun i z=>(D9.mp z).elim id fun z=>A9 _ z
      refine⟨g2,m2,P',r',B,κ,rB,hk,⟨fun Γ' m' g' P'' yN H' e hk yn s' i' rr=>?_,fun d m' g' P'' Pv yN v H' hk yn s' i' rv rr n=>?_,fun Γ' m' g' P'' yN H' e hk yn s' i' rr=>?_,fun Γ' m' g' P'' yN H' e hk yn s' i' rr=>?_⟩⟩
      · subst e;obtain⟨g6,P6,s6,r6⟩:=rr.weaken (by unfold LR at hw;exact hw);exact⟨g6,P6,m',(s4.trans s').trans s6,i4.trans i',r6,a5 yn,knx m' hk⟩
      · exact q.rt d _ g' P'' Pv yN v H' (krt d m' hk) ((AW Jr m1 _).mono zBY) (s4.trans s') (i4.trans i') rv (rr.join (a5 yn) fun i o h=>hJr▸BX h) n
      · cases e;exact q.nx Γ _ g' P'' yN H' rfl (kbk m' hk) ((AW J m1 _).mono sub) (s4.trans s') (i4.trans i') (rr.join (a5 yn) fun i o h=>hJ▸BX h)
      · cases e;exact⟨g',P'',m',s4.trans s',i4.trans i',rr,a5 yn,kct m' hk⟩
  · have ei:i=ds.length:=by omega
    subst ei;rw[j4] at e2;exact .inl ⟨(yl g2 H2 st).2 _ (B0 _),q.nx Γ _ g2 P2 xN H2 rfl (hn t e2) ((AW J m1 _).mono sub) s2 i2 r2⟩
section
variable {X:Cx} {F:Fr} {zL:Option Gm} {Γ wu w8 yO:Gm} {Γo:Option Gm} {js jt jb J Jr:List Nat} {tg iter:Expr} {body:List M4} {src:Ev (List Dv)} {g:TG} {ft:Tg} {b:Es} {pos:Pos}
theorem Ii.pre{g g2 g3:G}{H H3:Hp}{P P2:Fp}(s:Step g P H g2 P2 H)(ok:we g H P)(st:Ii g2 H g3 H3):Ii g H g3 H3:=by
 obtain⟨P3,P3',s3,ok3⟩:=st;exact⟨fun a=>P a\/P3 a,P3',(s.frame (R:=P3)).trans (s3.sub (fun _ z=>.inr z) fun _ z=>z),ok.or fun a z=>⟨(ok3 a z).1,fun w=>(ok3 a z).2 (s.zm a w)⟩⟩
theorem YN{K:W.Frag}{σ:St}{H:Hp}{Q:It->Hp->Prop}(hw:Bn w8 wu=true)(h:tI K Γ w8 js src σ H Q):tI K Γ wu js src σ H Q:=by
 obtain⟨g,m,P,r,R,k,res,e,q⟩:=h;refine⟨g,m,P,r,R,k,res,e,fun ds m' g' P' H' J hk ag s r1 yl=>?_⟩;obtain⟨g2,P2,s2,r2⟩:=r1.weaken hw;exact q ds m' g2 P2 H' J hk ag (s.trans s2) r2 fun g3 H3 st=>yl g3 H3 (st.pre s2 r1.wc)
theorem eI(hp:o9 (C9 X.prog X.w) X.A X.env X.xe)(hc:X.calm=true)(hi:PI X tg iter (tI X.K Γ wu js src))(hg:PG X tg g)(ht:PN X.K wu yO jt g ft)(yZ:∀i∈F.io,i∉jt)(hb:EA X body (tS X.K F (some wu) yO Γo jb b))(hw:LR (some wu) Γo=true)(hJ:J=BR wu (jt++jb))
    (hs:∀x,P8 iter X.env x=pure x):PS X (.For tg iter body [] pos) (tS X.K F zL Γ (some wu) (js++(jt++jb)) (Wa src ft J b)):=PS.imp (VD hp hc hi hg hb hs) fun D σ H h=>by
  obtain⟨g0,m,P,r,R,k,res,e,q⟩:=h;refine⟨g0,m,P,r,R,_,res,e,fun ds m1 g1 P1 H1 I hk ag s r1 yl=>?_⟩;obtain⟨t,e1,e2⟩:=wV hk;refine Qj (Jr:=BR F.Γr (jt++jb)) ht yZ hw hJ rfl r1 yl (fun ds t0=>Aw _ ds t0=some t) e1 (fun t0 h=>?_) (fun d ds t0 h=>?_) (q.later s Io.refl ag)
  · cases h;exact e2
  · obtain⟨t1,h1,h2⟩:=wV h;refine⟨FW J,kC J,t1,h1,fun m' hk=>?_,fun m' hk=>?_,(fun m' hk=>by cases hk),fun d m' hk=>by cases hk⟩
    · cases hk;exact h2
    · cases hk;exact h2
theorem eG(hp:o9 (C9 X.prog X.w) X.A X.env X.xe)(hc:X.calm=true)(hi:PI X tg iter (tI X.K Γ wu js src))(hg:PG X tg g)(ht:PN X.K wu yO jt g ft)(yZ:∀i∈F.io,i∉jt)(hb:EA X body (tS X.K F (some wu) yO Γo jb b))(hw:LR (some wu) Γo=true)(hJ:J=BR wu (jt++jb))(hJr:Jr=BR F.Γr (jt++jb))
    (hs:∀x,P8 iter X.env x=pure x):PS X (.For tg iter body [] pos) (tS X.K F zL Γ (some wu) (js++(jt++jb)) (WZ src ft J Jr b)):=PS.imp (VD hp hc hi hg hb hs) fun D σ H h=>by
  obtain⟨g0,m,P,r,R,k,res,e,q⟩:=h;refine⟨g0,m,P,r,R,_,res,e,fun ds m1 g1 P1 H1 I hk ag s r1 yl=>?_⟩;obtain⟨x,e1,e2⟩:=wV hk;refine Qj ht yZ hw hJ hJr r1 yl (fun ds t0=>DJ _ ds t0=some x) e1 (fun t0 h=>?_) (fun d ds t0 h=>?_) (q.later s Io.refl ag)
  · cases h;exact e2
  · obtain⟨l,h1,h2⟩:=wV h;refine⟨_,kE J Jr,l,h1,fun m' hk=>?_,fun m' hk=>?_,fun m' hk=>?_,fun d m' hk=>?_⟩
    · cases hk;exact h2
    · cases hk;exact h2
    · cases hk;cases h2;exact e2
    · cases hk;cases h2;exact e2
end
def cJ(n:Nat)(c:Ev Bool)(J:List Nat)(b:Es):Es:=fun R m k =>
 (ic (fun t=>c Bool (Aq J m t) fun b _=>some b) (fun t=>b (FW J) (Aq J m t) (kC J)) n (Ak J m)).bind fun t=>k.nx (Aq J m t)
theorem dJ{K:W.Frag}{F:Fr}{zL:Option Gm}{Γ Γc:Gm}{Γo:Option Gm}{jb:List Nat}{c:Ev Bool}{b:Es}{J Jr:List Nat}(hwc:Bn Γ Γc=true)(hw:LR (some Γ) Γo=true)
    (hJ:J=BR Γ jb) (hJr:Jr=BR F.Γr jb) {m1:M} {D:Ends} {σ:St} {H1:Hp} {g1:G} {P1:Fp} {R:Type} {k:Kt R} {res:R}
    (r1:Rel K g1 H1 Γ m1 σ P1) (run:Nat->FW J->Prop) {n:Nat} (h0:run n (Ak J m1))
    (hc:∀n t,run n t->∃bb,c Bool (Aq J m1 t) (fun b _=>some b)=some bb/\if bb=true then ∃n',n' < n/\∃(B:Type) (κ:Kt B) (r:B),b B (Aq J m1 t) κ=some r/\(∀m',κ.nx m'=some r->run n' (Ak J m'))/\(∀m',κ.ct m'=some r->run n' (Ak J m')) /\
      (∀m',κ.bk m'=some r->k.nx (Aq J m1 (Ak J m'))=some res)/\(∀d m',κ.rt d m'=some r->k.rt d (Aq Jr m1 (Ak Jr m'))=some res) else k.nx (Aq J m1 t)=some res)
    (q:AcS K F zL g1 P1 H1 σ D (some Γ) jb m1 k res):UE (tT K Γ Γc [] c) (tS K F (some Γ) Γ Γo jb b) D σ H1:=by
  have sub:∀i∈J,i∈jb:=fun i h=>BE (hJ▸h)
  have zBY:∀i∈Jr,i∈jb:=fun i h=>BE (hJr▸h)
  refine⟨fun n σ' H'=>∃g2 t P2,Step g1 P1 H1 g2 P2 H'/\Io F.io σ σ'/\Rel K g2 H' Γ (Aq J m1 t) σ' P2/\run n t,⟨n,g1,Ak J m1,P1,Step.refl,Io.refl,Oc r1,h0⟩,?_⟩;rintro n' xN H2 ⟨g2,t,P2,s2,i2,r2,e2⟩;obtain⟨bb,e3,e4⟩:=hc n' t e2;refine⟨g2,_,P2,r2,Bool,_,bb,e3,fun b' m' g3 P3 H3 hk ag s3 r3=>?_⟩;cases hk;obtain⟨g4,P4,s4,r4⟩:=r3.weaken hwc;have r5:Rel K g4 H3 Γ (Aq J m1 t) xN P4:=r4.agree ag.1.symm fun i o _=>(ag.2 i (by simp)).symm
  have s5:=(s2.trans s3).trans s4;cases bb with
  | false=>rw[if_neg C7] at e4 ⊢;exact q.nx Γ _ g4 P4 xN H3 rfl e4 ((AW J m1 _).mono sub) s5 i2 r5
  | true =>
    rw[if_pos rfl] at e4 ⊢;obtain⟨n2,hn,B,κ,rB,eb,knx,kct,kbk,krt⟩:=e4;have a5:∀{m'},Bj jb (Aq J m1 t) m'->Bj jb m1 m':=fun h=>(((AW J m1 t).mono sub).trans h).mono fun i z=>(D9.mp z).elim id id
    refine⟨fun σ' H'=>∃g5 P5 m',Step g1 P1 H1 g5 P5 H'/\Io F.io σ σ'/\Rel K g5 H' Γ m' σ' P5/\Bj jb m1 m'/\run n2 (Ak J m'),?_,g4,_,P4,r5,B,κ,rB,eb,⟨fun Γ' m' g' P'' yN H' e hk yn s' i' rr=>?_,fun d m' g' P'' Pv yN v H' hk yn s' i' rv rr n=>?_,fun Γ' m' g' P'' yN H' e hk yn s' i' rr=>?_,fun Γ' m' g' P'' yN H' e hk yn s' i' rr=>?_⟩⟩
    · rintro σ' H' ⟨g6,P6,m',s6,i6,r6,ag6,hr⟩;exact⟨n2,hn,g6,Ak J m',P6,s6,i6,r6.join ag6 fun i o h=>hJ▸BX h,hr⟩
    · subst e;obtain⟨g6,P6,s6,r6⟩:=rr.weaken (by unfold LR at hw;exact hw);exact⟨g6,P6,m',(s5.trans s').trans s6,i2.trans i',r6,a5 yn,knx m' hk⟩
    · exact q.rt d _ g' P'' Pv yN v H' (krt d m' hk) ((AW Jr m1 _).mono zBY) (s5.trans s') (i2.trans i') rv (rr.join (a5 yn) fun i o h=>hJr▸BX h) n
    · cases e;exact q.nx Γ _ g' P'' yN H' rfl (kbk m' hk) ((AW J m1 _).mono sub) (s5.trans s') (i2.trans i') (rr.join (a5 yn) fun i o h=>hJ▸BX h)
    · cases e;exact⟨g',P'',m',s5.trans s',i2.trans i',rr,a5 yn,kct m' hk⟩
section
variable {X:Cx} {F:Fr} {zL:Option Gm} {Γ Γc:Gm} {Γo:Option Gm} {jb J Jr:List Nat} {c:Expr} {body:List M4} {t:Ev Bool} {b:Es} {pos:Pos}
theorem jP(n:Nat)(hp:o9 (C9 X.prog X.w) X.A X.env X.xe)(hc:PT X c (tT X.K Γ Γc [] t))(hb:EA X body (tS X.K F (some Γ) Γ Γo jb b))(hwc:Bn Γ Γc=true)(hw:LR (some Γ) Γo=true)(hJ:J=BR Γ jb) :
    PS X (.While c body [] pos) (tS X.K F zL Γ (some Γ) jb (cJ n t J b)):=PS.imp (VC hp hc hb) fun D σ H h=>by
  obtain⟨g0,m,P,r,R,k,res,e,q⟩:=h;obtain⟨t',e1,e2⟩:=wV e;refine dJ (Jr:=BR F.Γr jb) hwc hw hJ rfl r (fun n t0=>ic _ _ n t0=some t') e1 (fun n t0 h=>?_) q;cases n with
  | zero=>cases h
  | succ n =>
    obtain⟨bb,h1,h2⟩:=wV h;refine⟨bb,h1,?_⟩;cases bb with
    | false=>rw[if_neg C7] at h2 ⊢;cases h2;exact e2
    | true =>
      rw[if_pos rfl] at h2 ⊢;obtain⟨t1,h3,h4⟩:=wV h2;refine⟨n,qu n,FW J,kC J,t1,h3,fun m' hk=>?_,fun m' hk=>?_,(fun m' hk=>by cases hk),fun d m' hk=>by cases hk⟩
      · cases hk;exact h4
      · cases hk;exact h4
end
end R
namespace Q
open PySem L2
set_option genInjectivity true in
inductive Dt where
 | wa | bl (b:Bool) | int (i:Int) | str (x:List Nat)
 | tup (xs:List Dt) | lst (o:Bool) (xs:List Dt) | dic (o:Bool) (wW:List (Dt×Dt)) | ref (k:Nat) | xQ (ns:List Int) | ty (n:String) | mtp (ls:List (List Nat)) | dti (o:Bool) (wW:List (List Int×Int))
 deriving Inhabited
structure G where
 Z:B5->Prop
 μ:List B5
noncomputable def tru:Dt->Option Bool
 | .wa=>some false
 | .bl b=>some b
 | .int i=>some (i != 0)
 | .str l=>if l.length<=1000000 then some (!l.isEmpty) else none
 | .tup ds=>some (!ds.isEmpty)
 | .lst _ ds=>some (!ds.isEmpty)
 | .xQ ns=>some (!ns.isEmpty)
 | _=>none
end Q
namespace L3
open PySem PySem.Spec PyProof.Rows PySem.SeqAt L2
abbrev St:=L2.St
inductive D where
 | fl (v:V)
 | tup (ds:List D)
 | lst (ds:List D)
mutual
noncomputable def xC:D->D->Bool
 | .fl a,.fl b=>xT a b
 | .tup a,.tup b=>xc a b
 | .lst a,.lst b=>xc a b
 | _,_=>false
noncomputable def xc:List D->List D->Bool
 | [],[]=>true
 | x::xs,y::ys=>xC x y && xc xs ys
 | _,_=>false
end
mutual
noncomputable def D.dep:D->Nat
 | .fl _=>0
 | .tup ds=>xl ds+1
 | .lst ds=>xl ds+1
noncomputable def xl:List D->Nat
 | []=>0
 | d::ds=>max d.dep (xl ds)
end
mutual
noncomputable def Is(K:W.Frag)(H:Hp):V->D->Prop
 | x,.fl v=>x=v/\IJ v=true
 | x,.tup ds=>∃a xs,x=.ref a/\DL K H a xs/\IsL K H xs ds
 | x,.lst ds=>∃a xs,x=.ref a/\Ca K H a xs/\IsL K H xs ds
noncomputable def IsL(K:W.Frag)(H:Hp):List V->List D->Prop
 | [],[]=>True
 | x::xs,d::ds=>Is K H x d/\IsL K H xs ds
 | _,_=>False
end
theorem IsL.inv{K:W.Frag}{H:Hp}{x:V}{xs:List V}{es:List D}(h:IsL K H (x::xs) es):∃d ds,es=d::ds/\Is K H x d/\IsL K H xs ds:=by
 cases es with
 | nil=>unfold IsL at h;exact h.elim
 | cons d ds=>unfold IsL at h;exact⟨d,ds,rfl,h.1,h.2⟩
theorem IsL.length{K:W.Frag}{H:Hp}:∀{xs:List V} {ds:List D},IsL K H xs ds->xs.length=ds.length
 | [],[],_=>rfl
 | [],_::_,h=>by unfold IsL at h;exact h.elim
 | _::_,[],h=>by unfold IsL at h;exact h.elim
 | x::xs,d::ds,h=>by unfold IsL at h;rw[E4,E4,IsL.length h.2]
theorem IsL.get{K:W.Frag}{H:Hp}:∀{xs:List V} {ds:List D} {i:Nat} {d:D},IsL K H xs ds->ds[i]?=some d->∃x,xs[i]?=some x/\Is K H x d
 | [],[],_,_,_,e=>by simp at e
 | [],_::_,_,_,h,_=>by unfold IsL at h;exact h.elim
 | _::_,[],_,_,_,e=>by simp at e
 | x::xs,d::ds,0,d',h,e=>by
  unfold IsL at h;have:d=d':=by simpa using e
  subst this;exact⟨x,rfl,h.1⟩
 | x::xs,d::ds,i+1,_,h,e=>by
  unfold IsL at h;obtain⟨y,e1,e2⟩:=IsL.get (i:=i) h.2 (by simpa using e);exact⟨y,by simpa using e1,e2⟩
theorem Pf{X:Cx}{pins:List (B5×Obj)}{σ:St}{H:Hp}{s:A6}{a:B5}{xs ys:List V}(I:Inv X pins σ H s)(h:DL X.K H a xs)(k:Ca X.K H a ys):False:=by
 obtain⟨_,_,⟨o,e,c,_⟩,_⟩:=I.tuple h;obtain⟨_,_,⟨o',n,e',c',_⟩,_⟩:=I.list k;rw[e] at e';cases e';rw[c] at c';injection c' with q
 exact absurd q (by decide)
mutual
theorem Is.inj{X:Cx}{pins:List (B5×Obj)}{σ:St}{H:Hp}{s:A6}(I:Inv X pins σ H s):∀{d e:D} {x:V},Is X.K H x d->Is X.K H x e->d=e
 | .fl v,e,x,h,k=>by
  unfold Is at h;obtain⟨rfl,hf⟩:=h;cases e with
  | fl u=>unfold Is at k;rw[k.1]
  | tup es=>unfold Is at k;obtain⟨a,xs,rfl,_⟩:=k;cases hf
  | lst es=>unfold Is at k;obtain⟨a,xs,rfl,_⟩:=k;cases hf
 | .tup ds,e,x,h,k=>by
  unfold Is at h;obtain⟨a,xs,rfl,h1,h2⟩:=h;cases e with
  | fl u=>unfold Is at k;obtain⟨k1,k2⟩:=k;rw[<- k1] at k2;cases k2
  | tup es =>
   unfold Is at k;obtain⟨b,ys,e,k1,k2⟩:=k;cases e;rw[I.yB h1 k1] at h2;rw[IsL.inj I h2 k2]
  | lst es=>unfold Is at k;obtain⟨b,ys,e,k1,k2⟩:=k;cases e;exact(Pf I h1 k1).elim
 | .lst ds,e,x,h,k=>by
  unfold Is at h;obtain⟨a,xs,rfl,h1,h2⟩:=h;cases e with
  | fl u=>unfold Is at k;obtain⟨k1,k2⟩:=k;rw[<- k1] at k2;cases k2
  | lst es =>
   unfold Is at k;obtain⟨b,ys,e,k1,k2⟩:=k;cases e;rw[I.yS h1 k1] at h2;rw[IsL.inj I h2 k2]
  | tup es=>unfold Is at k;obtain⟨b,ys,e,k1,k2⟩:=k;cases e;exact(Pf I k1 h1).elim
theorem IsL.inj{X:Cx}{pins:List (B5×Obj)}{σ:St}{H:Hp}{s:A6}(I:Inv X pins σ H s):∀{ds es:List D} {xs:List V},IsL X.K H xs ds->IsL X.K H xs es->ds=es
 | [],es,[],h,k=>by
  cases es with
  | nil=>rfl
  | cons e es=>unfold IsL at k;exact k.elim
 | [],_,_::_,h,_=>by unfold IsL at h;exact h.elim
 | _::_,_,[],h,_=>by unfold IsL at h;exact h.elim
 | d::ds,es,x::xs,h,k=>by
  unfold IsL at h;obtain⟨e,es',rfl,k1,k2⟩:=k.inv;rw[Is.inj I h.1 k1,IsL.inj I h.2 k2]
end
theorem xv{v:V}(h:IJ v=true):xT v v=true:=by
 cases v<;>first | rfl | (simp[xT];done) | cases h
mutual
theorem IP{K:W.Frag}{H:Hp}:∀{d:D} {x:V},Is K H x d->xC d d=true
 | .fl v,x,h=>by unfold Is at h;unfold xC;exact xv h.2
 | .tup ds,x,h=>by unfold Is at h;obtain⟨_,_,_,_,h2⟩:=h;unfold xC;exact GM h2
 | .lst ds,x,h=>by unfold Is at h;obtain⟨_,_,_,_,h2⟩:=h;unfold xC;exact GM h2
theorem GM{K:W.Frag}{H:Hp}:∀{ds:List D} {xs:List V},IsL K H xs ds->xc ds ds=true
 | [],_,_=>by unfold xc;rfl
 | _::_,[],h=>by unfold IsL at h;exact h.elim
 | d::ds,x::xs,h=>by
  unfold IsL at h;unfold xc;rw[IP h.1,GM h.2];rfl
end
theorem Bf:∀(xs ys:List D) (e:Nat->Bool),(∀i x y,xs[i]?=some x->ys[i]?=some y->e i=xC x y)->((B3 (min xs.length ys.length)).all e && xs.length == ys.length)=xc xs ys
 | [],[],_,_=>by unfold xc;rfl
 | [],_::_,_,_=>by unfold xc;simp
 | _::_,[],_,_=>by unfold xc;simp
 | x::xs,y::ys,e,h=>by
  have ih:=Bf xs ys (fun i=>e (i+1)) fun i a b h1 h2=>h (i+1) a b (by simpa using h1) (by simpa using h2)
  have h0:=h 0 x y rfl rfl;unfold xc;rw[<- ih,<- h0,E4,E4,tw,Z2,M9,o6];have:((xs.length+1 == ys.length+1):Bool)=(xs.length == ys.length):=by simp
  rw[this,Bool.and_assoc];rfl
theorem FM:∀{ds:List D} {i:Nat} {d:D},ds[i]?=some d->d.dep<=xl ds
 | [],_,_,e=>by simp at e
 | d::ds,0,d',e=>by
  have:d=d':=by simpa using e
  subst this;show d.dep<=xl (d::ds);unfold xl;exact Nat.le_max_left _ _
 | d::ds,i+1,x,e=>by
  have:=FM (ds:=ds) (i:=i) (d:=x) (by simpa using e);unfold xl;exact B9 this (Nat.le_max_right _ _)
section
variable {X:Cx} {pins:List (B5×Obj)} {σ:St} {H:Hp} {s:A6}
def Qq(ds es:List D)(i:Nat):Bool:=match ds[i]?,es[i]? with | some a,some b=>xC a b | _,_=>true
theorem Du{ds es:List D}{i:Nat}{a b:D}(h1:ds[i]?=some a)(h2:es[i]?=some b):Qq ds es i=xC a b:=by unfold Qq;rw[h1,h2]
theorem Al{x:V}(h:IJ x=true):x=.wa\/(∃b,x=.bl b)\/(∃i,x=.int i)\/∃z,x=.str z:=by
 cases x with
 | wa=>exact .inl rfl
 | bl b=>exact .inr (.inl ⟨b,rfl⟩)
 | int i=>exact .inr (.inr (.inl ⟨i,rfl⟩))
 | str z=>exact .inr (.inr (.inr ⟨z,rfl⟩))
 | _=>cases h
theorem Wm(I:Inv X pins σ H s):∀(n:Nat) (A:F3) (d e:D) (x y:V) (u v:Value),d.dep<=n->A.units+n < G8->RelV x u->RelV y v->Is X.K H x d->Is X.K H y e->EqAt A s u v (xC d e):=by
 intro n
 induction n with
 | zero =>
  intro A d e x y u v hd hu rx ry hx hy;cases d with
  | fl a =>
   unfold Is at hx;obtain⟨rfl,fx⟩:=hx;cases e with
   | fl b=>unfold Is at hy;obtain⟨rfl,fy⟩:=hy;unfold xC;exact hU rx ry fx fy
   | tup es =>
    unfold Is at hy;obtain⟨b,ys,rfl,h1,h2⟩:=hy;cases ry;obtain⟨its,r,ht,_⟩:=I.tuple h1;unfold xC;rcases Al fx with rfl | ⟨c,rfl⟩ | ⟨c,rfl⟩ | ⟨c,rfl⟩
    ·cases rx;exact EqAt.none_tuple ht hu
    ·cases rx;exact EqAt.bool_tuple c ht hu
    ·obtain⟨t,rfl⟩:=rx;exact EqAt.int_tuple c t ht hu
    ·obtain⟨t,rfl⟩:=rx;exact EqAt.str_tuple c t ht hu
   | lst es =>
    unfold Is at hy;obtain⟨b,ys,rfl,h1,h2⟩:=hy;cases ry;obtain⟨its,r,ht,_⟩:=I.list h1;unfold xC;rcases Al fx with rfl | ⟨c,rfl⟩ | ⟨c,rfl⟩ | ⟨c,rfl⟩
    ·cases rx;exact EqAt.none_list ht.isList hu
    ·cases rx;exact EqAt.bool_list c ht.isList hu
    ·obtain⟨t,rfl⟩:=rx;exact EqAt.int_list c t ht.isList hu
    ·obtain⟨t,rfl⟩:=rx;exact EqAt.str_list c t ht.isList hu
  | tup ds=>unfold D.dep at hd;omega
  | lst ds=>unfold D.dep at hd;omega
 | succ n ih =>
  intro A d e x y u v hd hu rx ry hx hy;have wx:A.units < G8:=by omega
  cases d with
  | fl a=>exact ih A (.fl a) e x y u v (by unfold D.dep;omega) (by omega) rx ry hx hy
  | tup ds =>
   unfold D.dep at hd;have hx0:=hx;unfold Is at hx;obtain⟨a,xs,rfl,h1,h2⟩:=hx;cases rx;obtain⟨its,r,ht,_⟩:=I.tuple h1;cases e with
   | fl b =>
    unfold Is at hy;obtain⟨rfl,fy⟩:=hy;unfold xC;rcases Al fy with rfl | ⟨c,rfl⟩ | ⟨c,rfl⟩ | ⟨c,rfl⟩
    ·cases ry;exact EqAt.tuple_none ht wx
    ·cases ry;exact EqAt.tuple_bool c ht wx
    ·obtain⟨t,rfl⟩:=ry;exact EqAt.tuple_int c t ht wx
    ·obtain⟨t,rfl⟩:=ry;exact EqAt.tuple_str c t ht wx
   | tup es =>
    have hy0:=hy;unfold Is at hy;obtain⟨b,ys,rfl,k1,k2⟩:=hy;cases ry;obtain⟨wg,r2,wt,_⟩:=I.tuple k1
    by_cases hab:a=b
    ·subst hab;rw[Is.inj I hx0 hy0,IP hy0];exact EqAt.same _
    ·refine EqAt.of_refs hab ?_;have q:=RcAt.tuples (e:=Qq ds es) ht wt wx (fun j j1 j2=>?_)
     ·have e1:=Bf ds es (Qq ds es) fun i a b q1 q2=>Du q1 q2
      rw[A7,A7,<- r.length,<- r2.length,h2.length,k2.length,e1] at q;unfold xC;exact q
     ·have j1':j < its.length:=by simpa using j1
      have j2':j < wg.length:=by simpa using j2
      have l1:j < ds.length:=by rw[<- h2.length,r.length];exact j1'
      have l2:j < es.length:=by rw[<- k2.length,r2.length];exact j2'
      obtain⟨x',ex,px⟩:=h2.get (i:=j) (A3 l1);obtain⟨y',ey,py⟩:=k2.get (i:=j) (A3 l2);obtain⟨u',eu,ru⟩:=r.get ex;obtain⟨v',ev,rv⟩:=r2.get ey;rw[Du (A3 l1) (A3 l2)];have z1:its.toArray[j]=u':=by rw[A3 j1'] at eu;simpa using D5 eu
      have z2:wg.toArray[j]=v':=by rw[A3 j2'] at ev;simpa using D5 ev
      rw[z1,z2];exact ih A.in1 _ _ x' y' u' v' (B9 (FM (A3 l1)) (by omega)) (by show A.units+1+n < G8;omega) ru rv px py
   | lst es =>
    unfold Is at hy;obtain⟨b,ys,rfl,k1,k2⟩:=hy;cases ry;obtain⟨wg,r2,wt,_⟩:=I.list k1;unfold xC;exact EqAt.tuple_list ht wt.isList wx
  | lst ds =>
   unfold D.dep at hd;have hx0:=hx;unfold Is at hx;obtain⟨a,xs,rfl,h1,h2⟩:=hx;cases rx;obtain⟨its,r,ht,_⟩:=I.list h1;cases e with
   | fl b =>
    unfold Is at hy;obtain⟨rfl,fy⟩:=hy;unfold xC;rcases Al fy with rfl | ⟨c,rfl⟩ | ⟨c,rfl⟩ | ⟨c,rfl⟩
    ·cases ry;exact EqAt.list_none ht.isList wx
    ·cases ry;exact EqAt.list_bool c ht.isList wx
    ·obtain⟨t,rfl⟩:=ry;exact EqAt.list_int c t ht.isList wx
    ·obtain⟨t,rfl⟩:=ry;exact EqAt.list_str c t ht.isList wx
   | tup es =>
    unfold Is at hy;obtain⟨b,ys,rfl,k1,k2⟩:=hy;cases ry;obtain⟨wg,r2,wt,_⟩:=I.tuple k1;unfold xC;exact EqAt.list_tuple ht.isList wt wx
   | lst es =>
    have hy0:=hy;unfold Is at hy;obtain⟨b,ys,rfl,k1,k2⟩:=hy;cases ry;obtain⟨wg,r2,wt,_⟩:=I.list k1
    by_cases hab:a=b
    ·subst hab;rw[Is.inj I hx0 hy0,IP hy0];exact EqAt.same _
    ·refine EqAt.of_refs hab ?_
     by_cases hsz:ds.length=es.length
     ·have e1:=Bf ds es (Qq ds es) fun i a b q1 q2=>Du q1 q2
      rw[hsz,uA,beq_self_eq_true,sT] at e1;have q:=RcAt.lists (e:=Qq ds es) ht.isList wt.isList (by rw[A7,A7,<- r.length,<- r2.length,h2.length,k2.length];exact hsz) wx (fun j j1 j2=>?_)
      ·rw[A7,<- r.length,h2.length,hsz,e1] at q;unfold xC;exact q
      ·have j1':j < its.length:=by simpa using j1
       have j2':j < wg.length:=by simpa using j2
       have l1:j < ds.length:=by rw[<- h2.length,r.length];exact j1'
       have l2:j < es.length:=by rw[<- k2.length,r2.length];exact j2'
       obtain⟨x',ex,px⟩:=h2.get (i:=j) (A3 l1);obtain⟨y',ey,py⟩:=k2.get (i:=j) (A3 l2);obtain⟨u',eu,ru⟩:=r.get ex;obtain⟨v',ev,rv⟩:=r2.get ey;rw[Du (A3 l1) (A3 l2)];have z1:its.toArray[j]=u':=by rw[A3 j1'] at eu;simpa using D5 eu
       have z2:wg.toArray[j]=v':=by rw[A3 j2'] at ev;simpa using D5 ev
       rw[z1,z2];exact ih A.in1 _ _ x' y' u' v' (B9 (FM (A3 l1)) (by omega)) (by show A.units+1+n < G8;omega) ru rv px py
     ·have q:=RcAt.lists_lengths (A:=A) ht.isList wt.isList (by rw[A7,A7,<- r.length,<- r2.length,h2.length,k2.length];simpa using hsz) wx;have e1:=Bf ds es (Qq ds es) fun i a b q1 q2=>Du q1 q2
      have:(ds.length == es.length)=false:=by simpa using hsz
      rw[this,qF] at e1;unfold xC;rw[<- e1];exact q
end
noncomputable def D.seq:D->Bool
 | .fl _=>false
 | _=>true
section
variable {X:Cx} {pins:List (B5×Obj)} {σ:St} {H:Hp} {s:A6}
theorem MN(I:Inv X pins σ H s){n:Nat}{A:F3}{xs ys:List V}{ds es:List D}{its wg:List Value}(hd:xl ds<=n)(hu:A.units+1+n < G8)(r:AH xs its)(r2:AH ys wg)(h2:IsL X.K H xs ds)(k2:IsL X.K H ys es) :
    ∀j (h1:j < its.toArray.size) (h2:j < wg.toArray.size),EqAt A.in1 s its.toArray[j] wg.toArray[j] (Qq ds es j):=fun j j1 j2=>by
  have j1':j < its.length:=by simpa using j1
  have j2':j < wg.length:=by simpa using j2
  have l1:j < ds.length:=by rw[<- h2.length,r.length];exact j1'
  have l2:j < es.length:=by rw[<- k2.length,r2.length];exact j2'
  obtain⟨x',ex,px⟩:=h2.get (i:=j) (A3 l1);obtain⟨y',ey,py⟩:=k2.get (i:=j) (A3 l2);obtain⟨u',eu,ru⟩:=r.get ex;obtain⟨v',ev,rv⟩:=r2.get ey;rw[Du (A3 l1) (A3 l2)];have z1:its.toArray[j]=u':=by rw[A3 j1'] at eu;simpa using D5 eu
  have z2:wg.toArray[j]=v':=by rw[A3 j2'] at ev;simpa using D5 ev
  rw[z1,z2];exact Wm I n A.in1 _ _ x' y' u' v' (B9 (FM (A3 l1)) hd) (by show A.units+1+n < G8;exact hu) ru rv px py
theorem Kd(I:Inv X pins σ H s){A:F3}{d e:D}{x y:V}{u v:Value}(sd:d.seq=true)(se:e.seq=true)(hu:A.units+d.dep+1 < G8)(rx:RelV x u)(ry:RelV y v)(hx:Is X.K H x d)(hy:Is X.K H y e):RcAt A s u v (xC d e)/\RcNeAt A s u v (!xC d e):=by
 have wx:A.units < G8:=by omega
 cases d with
 | fl a=>cases sd
 | tup ds =>
  unfold D.dep at hu;unfold Is at hx;obtain⟨a,xs,rfl,h1,h2⟩:=hx;cases rx;obtain⟨its,r,ht,_⟩:=I.tuple h1;cases e with
  | fl b=>cases se
  | tup es =>
   unfold Is at hy;obtain⟨b,ys,rfl,k1,k2⟩:=hy;cases ry;obtain⟨wg,r2,wt,_⟩:=I.tuple k1;have e1:=Bf ds es (Qq ds es) fun i a b q1 q2=>Du q1 q2
   have it:=MN I (A:=A) (n:=xl ds) (B0 _) (by omega) r r2 h2 k2;have q:=RcAt.tuples (e:=Qq ds es) ht wt wx it;have q':=RcNeAt.tuples (e:=Qq ds es) ht wt wx it;rw[A7,A7,<- r.length,<- r2.length,h2.length,k2.length,e1] at q q';unfold xC;exact⟨q,q'⟩
  | lst es =>
   unfold Is at hy;obtain⟨b,ys,rfl,k1,k2⟩:=hy;cases ry;obtain⟨wg,r2,wt,_⟩:=I.list k1;unfold xC;exact⟨RcAt.tuple_list ht wt.isList wx,RcNeAt.tuple_list ht wt.isList wx⟩
 | lst ds =>
  unfold D.dep at hu;unfold Is at hx;obtain⟨a,xs,rfl,h1,h2⟩:=hx;cases rx;obtain⟨its,r,ht,_⟩:=I.list h1;cases e with
  | fl b=>cases se
  | tup es =>
   unfold Is at hy;obtain⟨b,ys,rfl,k1,k2⟩:=hy;cases ry;obtain⟨wg,r2,wt,_⟩:=I.tuple k1;unfold xC;exact⟨RcAt.list_tuple ht.isList wt wx,RcNeAt.list_tuple ht.isList wt wx⟩
  | lst es =>
   unfold Is at hy;obtain⟨b,ys,rfl,k1,k2⟩:=hy;cases ry;obtain⟨wg,r2,wt,_⟩:=I.list k1;have e1:=Bf ds es (Qq ds es) fun i a b q1 q2=>Du q1 q2
   unfold xC
   by_cases hsz:ds.length=es.length
   ·rw[hsz,uA,beq_self_eq_true,sT] at e1;have it:=MN I (A:=A) (n:=xl ds) (B0 _) (by omega) r r2 h2 k2;have sz:its.toArray.size=wg.toArray.size:=by rw[A7,A7,<- r.length,<- r2.length,h2.length,k2.length];exact hsz
    have q:=RcAt.lists (e:=Qq ds es) ht.isList wt.isList sz wx it;have q':=RcNeAt.lists (e:=Qq ds es) ht.isList wt.isList sz wx it;rw[A7,<- r.length,h2.length,hsz,e1] at q q';exact⟨q,q'⟩
   ·have sz:(its.toArray.size != wg.toArray.size)=true:=by rw[A7,A7,<- r.length,<- r2.length,h2.length,k2.length];simpa using hsz
    have:(ds.length == es.length)=false:=by simpa using hsz
    rw[this,qF] at e1;rw[<- e1];exact⟨RcAt.lists_lengths ht.isList wt.isList sz wx,RcNeAt.lists_lengths ht.isList wt.isList sz wx⟩
end
section
variable {X:Cx} {pins:List (B5×Obj)} {σ:L2.St} {H:Hp} {s:A6}
theorem Yv{A:F3}{x y:V}{u v:Value}(rx:RelV x u)(ry:RelV y v)(fx:IJ x=true)(fy:IJ y=true):RcAt A s u v (xT x y)/\RcNeAt A s u v (!xT x y):=by
 rcases Al fx with rfl | ⟨c,rfl⟩ | ⟨c,rfl⟩ | ⟨c,rfl⟩<;>rcases Al fy with rfl | ⟨d,rfl⟩ | ⟨d,rfl⟩ | ⟨d,rfl⟩
 ·cases rx;cases ry;exact⟨RcAt.none_none , RcNeAt.none_none ⟩
 ·cases rx;cases ry;exact⟨RcAt.none_bool d,RcNeAt.none_bool d⟩
 ·cases rx;obtain⟨dt,rfl⟩:=ry;exact⟨RcAt.none_int d dt,RcNeAt.none_int d dt⟩
 ·cases rx;obtain⟨dt,rfl⟩:=ry;exact⟨RcAt.none_str d dt,RcNeAt.none_str d dt⟩
 ·cases rx;cases ry;exact⟨RcAt.bool_none c,RcNeAt.bool_none c⟩
 ·cases rx;cases ry;exact⟨RcAt.bool_bool c d,RcNeAt.bool_bool c d⟩
 ·cases rx;obtain⟨dt,rfl⟩:=ry;exact⟨RcAt.bool_int c d dt,RcNeAt.bool_int c d dt⟩
 ·cases rx;obtain⟨dt,rfl⟩:=ry;exact⟨RcAt.bool_str c d dt,RcNeAt.bool_str c d dt⟩
 ·obtain⟨ct,rfl⟩:=rx;cases ry;exact⟨RcAt.int_none c ct,RcNeAt.int_none c ct⟩
 ·obtain⟨ct,rfl⟩:=rx;cases ry;exact⟨RcAt.int_bool c ct d,RcNeAt.int_bool c ct d⟩
 ·obtain⟨ct,rfl⟩:=rx;obtain⟨dt,rfl⟩:=ry;exact⟨RcAt.int_int c ct d dt,RcNeAt.int_int c ct d dt⟩
 ·obtain⟨ct,rfl⟩:=rx;obtain⟨dt,rfl⟩:=ry;exact⟨RcAt.int_str c ct d dt,RcNeAt.int_str c ct d dt⟩
 ·obtain⟨ct,rfl⟩:=rx;cases ry;exact⟨RcAt.str_none c ct,RcNeAt.str_none c ct⟩
 ·obtain⟨ct,rfl⟩:=rx;cases ry;exact⟨RcAt.str_bool c ct d,RcNeAt.str_bool c ct d⟩
 ·obtain⟨ct,rfl⟩:=rx;obtain⟨dt,rfl⟩:=ry;exact⟨RcAt.str_int c ct d dt,RcNeAt.str_int c ct d dt⟩
 ·obtain⟨ct,rfl⟩:=rx;obtain⟨dt,rfl⟩:=ry;exact⟨RcAt.str_str c ct d dt,RcNeAt.str_str c ct d dt⟩
theorem Lo(I:Inv X pins σ H s){A:F3}{d e:D}{x y:V}{u v:Value}(hu:A.units+d.dep+1 < G8)(rx:RelV x u)(ry:RelV y v)(hx:Is X.K H x d)(hy:Is X.K H y e):RcAt A s u v (xC d e)/\RcNeAt A s u v (!xC d e):=by
 have wx:A.units < G8:=by omega
 cases d with
 | fl a =>
  unfold Is at hx;obtain⟨rfl,fx⟩:=hx;cases e with
  | fl b =>
   unfold Is at hy;obtain⟨rfl,fy⟩:=hy;unfold xC;exact Yv rx ry fx fy
  | tup es =>
   unfold Is at hy;obtain⟨b,ys,rfl,k1,k2⟩:=hy;cases ry;obtain⟨wg,r2,wt,_⟩:=I.tuple k1;unfold xC;rcases Al fx with rfl | ⟨c,rfl⟩ | ⟨c,rfl⟩ | ⟨c,rfl⟩
   ·cases rx;exact⟨RcAt.none_tuple wt wx,RcNeAt.none_tuple wt wx⟩
   ·cases rx;exact⟨RcAt.bool_tuple c wt wx,RcNeAt.bool_tuple c wt wx⟩
   ·obtain⟨t,rfl⟩:=rx;exact⟨RcAt.int_tuple c t wt wx,RcNeAt.int_tuple c t wt wx⟩
   ·obtain⟨t,rfl⟩:=rx;exact⟨RcAt.str_tuple c t wt wx,RcNeAt.str_tuple c t wt wx⟩
  | lst es =>
   unfold Is at hy;obtain⟨b,ys,rfl,k1,k2⟩:=hy;cases ry;obtain⟨wg,r2,wt,_⟩:=I.list k1;unfold xC;rcases Al fx with rfl | ⟨c,rfl⟩ | ⟨c,rfl⟩ | ⟨c,rfl⟩
   ·cases rx;exact⟨RcAt.none_list wt.isList wx,RcNeAt.none_list wt.isList wx⟩
   ·cases rx;exact⟨RcAt.bool_list c wt.isList wx,RcNeAt.bool_list c wt.isList wx⟩
   ·obtain⟨t,rfl⟩:=rx;exact⟨RcAt.int_list c t wt.isList wx,RcNeAt.int_list c t wt.isList wx⟩
   ·obtain⟨t,rfl⟩:=rx;exact⟨RcAt.str_list c t wt.isList wx,RcNeAt.str_list c t wt.isList wx⟩
 | tup ds =>
  cases e with
  | fl b =>
   unfold Is at hx hy;obtain⟨b',ys,rfl,k1,k2⟩:=hx;obtain⟨rfl,fy⟩:=hy;cases rx;obtain⟨wg,r2,wt,_⟩:=I.tuple k1;unfold xC;rcases Al fy with rfl | ⟨c,rfl⟩ | ⟨c,rfl⟩ | ⟨c,rfl⟩
   ·cases ry;exact⟨RcAt.tuple_none wt wx,RcNeAt.tuple_none wt wx⟩
   ·cases ry;exact⟨RcAt.tuple_bool c wt wx,RcNeAt.tuple_bool c wt wx⟩
   ·obtain⟨t,rfl⟩:=ry;exact⟨RcAt.tuple_int c t wt wx,RcNeAt.tuple_int c t wt wx⟩
   ·obtain⟨t,rfl⟩:=ry;exact⟨RcAt.tuple_str c t wt wx,RcNeAt.tuple_str c t wt wx⟩
  | tup es=>exact Kd I rfl rfl hu rx ry hx hy
  | lst es=>exact Kd I rfl rfl hu rx ry hx hy
 | lst ds =>
  cases e with
  | fl b =>
   unfold Is at hx hy;obtain⟨b',ys,rfl,k1,k2⟩:=hx;obtain⟨rfl,fy⟩:=hy;cases rx;obtain⟨wg,r2,wt,_⟩:=I.list k1;unfold xC;rcases Al fy with rfl | ⟨c,rfl⟩ | ⟨c,rfl⟩ | ⟨c,rfl⟩
   ·cases ry;exact⟨RcAt.list_none wt.isList wx,RcNeAt.list_none wt.isList wx⟩
   ·cases ry;exact⟨RcAt.list_bool c wt.isList wx,RcNeAt.list_bool c wt.isList wx⟩
   ·obtain⟨t,rfl⟩:=ry;exact⟨RcAt.list_int c t wt.isList wx,RcNeAt.list_int c t wt.isList wx⟩
   ·obtain⟨t,rfl⟩:=ry;exact⟨RcAt.list_str c t wt.isList wx,RcNeAt.list_str c t wt.isList wx⟩
  | tup es=>exact Kd I rfl rfl hu rx ry hx hy
  | lst es=>exact Kd I rfl rfl hu rx ry hx hy
def zBb(K:W.Frag)(neg:Bool):R2:=fun x y H Q=>∃d e,d.dep<=150/\Is K H x d/\Is K H y e/\Q (.bl (if neg then !xC d e else xC d e)) H
theorem zBg{j:Nat}(hr:wo j X.A):CY X (J0 .Eq) (zBb X.K false):=by
 intro pins s σ H x y v u Q I rx ry h;obtain⟨d,e,hd,hx,hy,q⟩:=h;have:=hr.un;exact(Lo I (by omega) rx ry hx hy).1 X.prog X.w _ _ ⟨.bl _,H,I,rfl,q⟩
theorem zBd{j:Nat}(hr:wo j X.A):CY X (J0 .NotEq) (zBb X.K true):=by
 intro pins s σ H x y v u Q I rx ry h;obtain⟨d,e,hd,hx,hy,q⟩:=h;have:=hr.un;exact(Lo I (by omega) rx ry hx hy).2 X.prog X.w _ _ ⟨.bl _,H,I,rfl,q⟩
open Classical in
def NQ(its:List Value)(ds:List D)(e:D)(u:Value):Bool:=decide (∃(i:Nat) (d:D),its[i]?=some u/\ds[i]?=some d/\xC d e=true)
open Classical in
theorem Ol(I:Inv X pins σ H s){xs:List V}{its:List Value}{ds:List D}(r:AH xs its)(h:IsL X.K H xs ds){e:D}{i:Nat}{u:Value}{d:D}(hu:its[i]?=some u)(hd:ds[i]?=some d):NQ its ds e u=xC d e:=by
 have key:∀(j:Nat) (d':D),its[j]?=some u->ds[j]?=some d'->d'=d:=fun j d' h1 h2=>by
  obtain⟨x,ex,px⟩:=h.get hd;obtain⟨y,ey,py⟩:=h.get h2;obtain⟨u1,e1,r1⟩:=r.get ex;obtain⟨u2,e2,r2⟩:=r.get ey;rw[hu] at e1;cases e1;rw[h1] at e2;cases e2;rw[r2.inj r1] at py;exact Is.inj I py px
 unfold NQ;cases q:xC d e with
 | true=>exact decide_eq_true ⟨i,d,hu,hd,q⟩
 | false =>
  refine decide_eq_false ?_;rintro⟨j,d',h1,h2,h3⟩;rw[key j d' h1 h2,q] at h3;cases h3
theorem HD(I:Inv X pins σ H s){xs:List V}{its:List Value}{ds:List D}(r:AH xs its)(h:IsL X.K H xs ds)(e:D):its.any (NQ its ds e)=ds.any fun d=>xC d e:=by
 rw[Y2,U1,U1];have hl:its.length=ds.length:=by rw[<- r.length,h.length]
 constructor
 ·rintro⟨u,hu,q⟩;obtain⟨i,hi,rfl⟩:=n6 hu;have hd:ds[i]?=some ds[i]:=A3 (by omega);rw[Ol I r h (A3 hi) hd] at q;exact⟨_,M6 hd,q⟩
 ·rintro⟨d,hd,q⟩;obtain⟨i,hi,rfl⟩:=n6 hd;have hu:its[i]?=some its[i]:=A3 (by omega);exact⟨_,M6 hu,by rw[Ol I r h hu (A3 hi)];exact q⟩
theorem HE(I:Inv X pins σ H s){A:F3}{xs:List V}{its:List Value}{ds:List D}(r:AH xs its)(h:IsL X.K H xs ds){e:D}{y:V}{v:Value}(ry:RelV y v)(hy:Is X.K H y e)(hd:xl ds<=150)(hu:A.units+150 < G8):∀w∈its,EqAt A s w v (NQ its ds e w):=fun w hw=>by
 obtain⟨i,hi,rfl⟩:=n6 hw;have hl:its.length=ds.length:=by rw[<- r.length,h.length]
 have hdi:ds[i]?=some ds[i]:=A3 (by omega);rw[Ol I r h (A3 hi) hdi];obtain⟨x,ex,px⟩:=h.get hdi;obtain⟨u1,e1,r1⟩:=r.get ex;rw[A3 hi] at e1;cases e1;exact Wm I 150 A _ _ x y _ _ (B9 (FM hdi) hd) hu r1 ry px hy
def zAy(K:W.Frag)(neg:Bool):R2:=fun x y H Q=>∃p ys ds e,y=.ref p/\(Ca K H p ys\/DL K H p ys)/\IsL K H ys ds/\Is K H x e/\xl ds<=150/\Q (.bl (if neg then !(ds.any fun d=>xC d e) else ds.any fun d=>xC d e)) H
theorem zBf{j:Nat}(hr:wo j X.A):CY X (J0 .In) (zAy X.K false):=by
 intro pins s σ H x y v u Q I rx ry h;obtain⟨p,ys,ds,e,rfl,hq,hl,hx,hd,q⟩:=h;have hu:X.A.units+1+150 < G8:=by have:=hr.un;omega
 cases ry;rcases hq with hq | hq
 ·obtain⟨its,r,pl,hz⟩:=I.list hq;refine SeqAt.in_listAt (NQ its ds e) pl.isList (fun w hw=>HE I r hl rx hx hd hu w (by simpa using hw)) ⟨.bl _,H,I,rfl,?_⟩;rw[show its.toArray.any (NQ its ds e)=its.any (NQ its ds e) by simp,HD I r hl];exact q
 ·obtain⟨its,r,pl,hz⟩:=I.tuple hq;refine SeqAt.in_tupleAt (NQ its ds e) pl (fun w hw=>HE I r hl rx hx hd hu w (by simpa using hw)) ⟨.bl _,H,I,rfl,?_⟩;rw[show its.toArray.any (NQ its ds e)=its.any (NQ its ds e) by simp,HD I r hl];exact q
theorem zAR{j:Nat}(hr:wo j X.A):CY X (J0 .NotIn) (zAy X.K true):=by
 intro pins s σ H x y v u Q I rx ry h;obtain⟨p,ys,ds,e,rfl,hq,hl,hx,hd,q⟩:=h;have hu:X.A.units+1+150 < G8:=by have:=hr.un;omega
 cases ry;rcases hq with hq | hq
 ·obtain⟨its,r,pl,hz⟩:=I.list hq;refine SeqAt.notIn_listAt (NQ its ds e) pl.isList (fun w hw=>HE I r hl rx hx hd hu w (by simpa using hw)) ⟨.bl _,H,I,rfl,?_⟩;rw[show its.toArray.any (NQ its ds e)=its.any (NQ its ds e) by simp,HD I r hl];exact q
 ·obtain⟨its,r,pl,hz⟩:=I.tuple hq;refine SeqAt.notIn_tupleAt (NQ its ds e) pl (fun w hw=>HE I r hl rx hx hd hu w (by simpa using hw)) ⟨.bl _,H,I,rfl,?_⟩;rw[show its.toArray.any (NQ its ds e)=its.any (NQ its ds e) by simp,HD I r hl];exact q
end
end L3
namespace Q
open PySem L2
mutual
noncomputable def toD:Dt->L3.D
 | .wa=>.fl .wa
 | .bl b=>.fl (.bl b)
 | .int i=>.fl (.int i)
 | .str l=>.fl (.str (tx l))
 | .tup xs=>.tup (xD xs)
 | .lst _ xs=>.lst (xD xs)
 | _=>.fl .wa
noncomputable def xD:List Dt->List L3.D
 | []=>[]
 | d::ds=>toD d::xD ds
end
mutual
noncomputable def Dt.cmp:Dt->Bool
 | .wa=>true
 | .bl _=>true
 | .int _=>true
 | .str _=>true
 | .tup xs=>zAU xs
 | .lst _ xs=>zAU xs
 | _=>false
noncomputable def zAU:List Dt->Bool
 | []=>true
 | d::ds=>d.cmp && zAU ds
end
mutual
noncomputable def eqT:Dt->Dt->Bool
 | .wa,.wa=>true
 | .bl a,.bl b=>a == b
 | .bl a,.int b=>(if a then 1 else 0) == b
 | .int a,.bl b=>a == (if b then 1 else 0)
 | .int a,.int b=>a == b
 | .str a,.str b=>a == b
 | .tup xs,.tup ys=>hG xs ys
 | .lst _ xs,.lst _ ys=>hG xs ys
 | _,_=>false
noncomputable def hG:List Dt->List Dt->Bool
 | [],[]=>true
 | x::xs,y::ys=>eqT x y && hG xs ys
 | _,_=>false
end
section
variable {K:W.Frag} {g:G} {H:Hp}
def zCB(x l:List Nat):Bool:=!(P9 (tx l) (tx x) 0 (tx l).length 1).isEmpty
def eR(neg:Bool):R2:=fun x y H Q=>∃i j,x=.str i/\y=.str j/\Q (.bl (if neg then !(!(P9 j i 0 j.length 1).isEmpty) else !(P9 j i 0 j.length 1).isEmpty)) H
def zBa(K:W.Frag)(neg:Bool):R2:=fun x y H Q=>eR neg x y H Q\/L3.zAy K neg x y H Q
noncomputable def mxI:List Int->Int
 | []=>0
 | [a]=>a
 | a::r=>max a (mxI r)
end
section
variable {K:W.Frag}
noncomputable def zBR(k T:String):Bool:=k == T || (k == "bool" && T == "int")
theorem zBl(K:W.Frag){k T:String}(hk:k∈["NoneType", "bool", "int", "str", "tuple", "list"])(hT:T∈["int", "bool", "str", "tuple", "list"]):W.kitOne K (.type k) (.type T)=some (zBR k T):=by
 simp only[D0,G6,or_false] at hk hT;rcases hk with rfl | rfl | rfl | rfl | rfl | rfl<;>rcases hT with rfl | rfl | rfl | rfl | rfl<;>kernel_rfl
end
theorem fj{X:Cx}:CY X (J0 .In) (eR false):=Rq
theorem Rp{X:Cx}:CY X (J0 .NotIn) (eR true):=Kf
theorem zBe{X:Cx}{j:Nat}(hr:wo j X.A):CY X (J0 .In) (zBa X.K false):=fj.or (L3.zBf hr)
theorem zAQ{X:Cx}{j:Nat}(hr:wo j X.A):CY X (J0 .NotIn) (zBa X.K true):=Rp.or (L3.zAR hr)
end Q
namespace L2
open PySem PySem.Spec PyProof.Rows
noncomputable def cT(ifs:List Expr)(env:Env):Sem Bool:=forIn ifs true fun c r=>if r=true then do let ok <- isTrue c env (Q7 c env);pure (ForInStep.yield ok) else pure (ForInStep.yield r)
def dC(X:Cx)(ifs:List Expr)(t:TT):Prop:=
 ∀(pins:List (B5×Obj)) (s:A6) (σ:St) (H:Hp) (Q:Bool->Hp->Prop),Inv X pins σ H s->t σ H Q->B7 (C9 X.prog X.w) X.A (cT ifs X.env) (TP X pins σ Q) X.xe s
theorem dC.one{X:Cx}{c:Expr}{t:TT}(h:PT X c t):dC X [c] t:=fun pins s σ H Q I q=>wpAny_tests_one (h pins s σ H Q I q)
theorem LA{prog:E5}{w:G3}{A:F3}{R:uS->A6->Prop}{s:A6}{elt target iter:Expr}{ifs:List Expr}{scope:N1}{pos:Pos}{it acc:Value}{env:Env}(I:Nat->A6->Prop)
    (turn:∀n s,I n s->B7 (C9 prog w) A (W3 it) (fun r wY=>match r with
      | none=>R (.ok .next) wY
      | some v=>B7 (C9 prog w) A (l8 target it v) (fun _ yQ=>B7 (C9 prog w) A (i7 target env v) (fun _ xn=>B7 (C9 prog w) A (cT ifs env) (fun ok zAZ=>if ok=true then B7 (C9 prog w) A (Q7 elt env) (fun x zCA =>
          B7 (C9 prog w) A (call (.builtin "list.append") [acc,x]) (fun _ zBz=>∃m,m < n/\I m zBz) (fun _ _=>False) zCA) (fun _ _=>False) zAZ else ∃m,m < n/\I m zAZ) (fun _ _=>False) xn) (fun _ _=>False) yQ) (fun _ _=>False) wY) (fun _ _=>False) s)
    (n:Nat) (h:I n s) :
    X8 (C9 prog w) A (.compLoop (.ListComp elt [⟨target,iter,ifs,0⟩] scope pos) 0 it acc env) R s:=by
  refine codeAny_loop rfl I (fun n s hI=>?_) n h;show B7 _ _ ((compTurn (.ListComp elt [⟨target,iter,ifs,0⟩] scope pos) 0 it acc env).onRaise (fun x=>do noteFrame x env;theTreesLotGoes x)) _ _ s;refine wpAny_noted ?_;rw[compTurn_list];have no:∀{E:Value->A6->Prop},∀(e:Value) (s:A6),False->E e s:=fun _ _ z=>z.elim
  refine A0 (j9 (A0 (R8 (turn n s hI) (fun r wY h₁=>?_) no)));cases r with
  | none=>exact A4 h₁
  | some v =>
    refine A0 (R8 h₁ (fun _ yQ zG=>?_) no);refine A0 (R8 zG (fun _ xn zF=>A0 (R8 zF (fun ok zAZ zCQ=>?_) no)) no);cases ok with
    | false=>exact A4 ⟨rfl,zCQ⟩
    | true=>exact A0 (A0 (R8 zCQ (fun x zCA zDG=>A0 (R8 zDG (fun _ zBz zDF=>A4 (A4 ⟨rfl,zDF⟩)) no)) no))
section
variable {X:Cx} {tg iter elt:Expr} {ifs:List Expr} {scope:N1} {pos:Pos} {g:TG} {te:TE} {tc:TT} {js:List Nat} {wi:TI}
def PR(js:List Nat)(g:TG)(tc:TT)(te:TE)(J:It)(σ:St)(Fin:List V->Hp->Prop)(W:Nat->Nat->List V->Hp->Prop):Prop:=∀i m ys H,W i m ys H ->
 (J.stop i H/\Fin ys H)\/(J.go i H/\ys.length < sizeLine/\∃N:List V->Hp->Prop,(∀zs H',N zs H'->∃m',m' < m/\W (i+1) m' zs H')/\∀x H',J.yld i H x H'->g x (blank js σ) H' fun xN H2=>tc xN H2 fun b H3=>if b=true then te xN H3 fun v H4=>N (ys++[v]) H4 else N ys H3)
theorem Gb{pins:List (B5×Obj)}{s2:A6}{σ:St}{H2:Hp}{it:B5}{fp:List B5}{tn:Nat->F7->Prop}{J:It}{cl:List (Str×B5)}{W:Nat->Nat->List V->Hp->Prop}{Fin:List V->Hp->Prop}{E:Value->A6->Prop}{RR:Value->B5->uS->A6->Prop}
    (xS:xw X.N X.env.scope scope js) (hc:X.calm=true) (hg:∀cl C s H fp,PG (X.inner scope cl C s H fp) tg g) (hgo:Tc js g) (hcn:∀cl C s H fp,dC (X.inner scope cl C s H fp) ifs tc) (he:∀cl C s H fp,PE (X.inner scope cl C s H fp) elt te)
    (I2:Inv X pins σ H2 s2) (T:Turn X.prog X.w X.K tg J fp it tn) (t0:tn 0 s2.heap) (hf:∀b∈fp,we X pins H2 b)
    (zX:∀x c,cl.lookup x=some c->X.env.cells.lookup x=some c) (yd:∀x,scope.names.lookup x=some .free->∃c,cl.lookup x=some c)
    {m0:Nat} (w0:W 0 m0 [] H2) (turn:PR js g tc te J σ Fin W)
    (hRR:∀D C s' H' ys m,Inv X pins σ (upd H' D (.lst ys)) s'->H' D=none->Fin ys H'->s'.heap.Ns C m->C≠X.env.locals->X.wz.heap.objs.size<=C->(∀x c,X.env.cells.lookup x=some c->c≠C)->(∀p∈X.pn++pins,p.1≠C)->H' C=none->D≠C->RR (.ref D) C (.ok .next) s') :
    B7 (C9 X.prog X.w) X.A (v7 []) (fun acc xn=>B7 (C9 X.prog X.w) X.A (rq scope X.env.globals cl [] X.env.qual none .none (some X.env)) (fun zCe zAZ =>
      X8 (C9 X.prog X.w) X.A (.compStart (.ListComp elt [⟨tg,iter,ifs,0⟩] scope pos) 0 (.ref it) acc { zCe with scope:=relabel scope X.env }) (RR acc zCe.locals) zAZ) E xn) E s2:=by
  have hfe:∀b∈fp,b < s2.heap.objs.size:=fun b hb=>let ⟨_,e,_⟩:=T.obj _ _ t0 b hb;C3 e
  refine G7 (Br ?_);dsimp only
  generalize hHH:s2.heap.push { cls:=.type "list", dict:=none,data:=.seq ([]:List Value).toArray }=HH
  have hC:HH.objs.size=s2.heap.objs.size+1:=by rw[<- hHH,J6]
  have hDC:s2.heap.objs.size≠HH.objs.size:=by rw[hC];exact C8 (qu _)
  have zBu:s2.heap.objs.size<=HH.objs.size:=by rw[hC];exact U5 _
  have below:∀b,b < s2.heap.objs.size->b≠HH.objs.size/\b≠s2.heap.objs.size:=fun b hb=>⟨by rw[hC];exact C8 (N5 hb),C8 hb⟩
  obtain⟨h₁,zW⟩:∃h₁,vi (HH.push { cls:=.type "dict", data:=.dict #[] }) scope.names=h₁:=⟨_,rfl⟩
  have old:∀b o,s2.heap.get? b=some o->h₁.get? b=some o:=fun b o e=>zW▸rO _ _ b o (A2 _ (hHH▸A2 _ e))
  have zAp:h₁.get? s2.heap.objs.size=some { cls:=.type "list", data:=.seq ([]:List Value).toArray 0 }:=zW▸rO _ _ _ _ (A2 _ (hHH▸B4 _ rfl))
  have zBq:h₁.Ns HH.objs.size (fun _=>none):=zW▸(Heap.Ns.new HH (.type "dict")).keeps (rO _ _)
  obtain⟨L,zAi⟩:=aQ (s:=s2) (C:=HH.objs.size) xS zX yd (h:=HH.push { cls:=.type "dict", data:=.dict #[] }) zBu (J6 ..)
  rw[zW] at zAi ⊢;generalize hcc:M5 (HH.objs.size+1) scope.names cl=cl' at L zAi ⊢;clear zW hcc;generalize hDD:s2.heap.objs.size=D at *;generalize hCC:HH.objs.size=C at *;have zAq:s2.heap.objs.size<=D:=o5 hDD;have zY:s2.heap.objs.size<=C:=by rw[hDD];exact zBu
  have zt:∀(its:List Value) (n:Nat) v,({ cls:=.type "list", data:=.seq its.toArray n }:Obj).data≠.cell v:=fun _ _ _ z=>by cases z
  have I4:Inv (X.inner scope cl' C s2 H2 fp) (pins++[(D,{ cls:=.type "list", data:=.seq ([]:List Value).toArray 0 })]) (blank js σ) H2 { s2 with heap:=h₁,toks:=s2.toks }:=
    I2.enter xS hf (by rw[hDD];exact hfe) zY zAq hDC L zAi old zBq zAp (zt _ _)
  have zp:∀{H':Hp} {o:Obj},(∀b∈fp,H' b=none)->∀b∈fp,we (X.inner scope cl' C s2 H2 fp) (pins++[(D,o)]) H' b:=fun{H' o} hn b hb=>by
    obtain⟨_,f1,f2,f3,f4,f5⟩:=hf b hb;refine⟨hn b hb,(below b (hfe b hb)).1,fun z=>?_,.inl hb,fun x c e=>L.ne e (by rw[hDD];exact hfe b hb) f4,fun p hp=>?_⟩
    · rcases D0.mp (I2.yC b z) with e | e
      · exact f1 e
      · exact f2 e
    · have hp':p∈X.pn++(pins++[(D,o)]):=hp;rw[<- G0] at hp';rcases D9.mp hp' with z | z
      · exact f5 p z
      · have e:p=(D,o):=by simpa using z
        subst e;exact fun z=>(below b (hfe b hb)).2 z.symm
  have loop:∀xn:A6,xn={ s2 with heap:=h₁,toks:=s2.toks } ->
      X8 (C9 X.prog X.w) X.A (.compLoop (.ListComp elt [⟨tg,iter,ifs,0⟩] scope pos) 0 (.ref it) (.ref D) (compEnvC scope cl' C X.env)) (RR (.ref D) C) xn:=by
    rintro xn rfl
    refine LA (fun n s'=>∃i ys its k H',Inv (X.inner scope cl' C s2 H2 fp) (pins++[(D,{ cls:=.type "list", data:=.seq its.toArray k })]) (blank js σ) H' s'/\tn i s'.heap/\(∀b∈fp,H' b=none)/\AH ys its/\ys.length<=sizeLine/\W i n ys H') ?_ m0
      ⟨0,[],[],0,H2,I4,T.keep _ _ _ t0 fun b hb o e=>old b o e,fun b hb=>(hf b hb).1,.nil,E7 _,w0⟩
    rintro n s3 ⟨i,ys,its,k,H3,I3,st3,fr3,hv3,hz3,w3⟩;rcases turn i n ys H3 w3 with⟨stop,fin⟩ | ⟨go,w6,N,hN,step⟩
    · refine BB (T.done (X.inner scope cl' C s2 H2 fp) rfl rfl rfl hc i _ s3 _ H3 _ I3 (zp fr3) st3 stop) fun r s4 ⟨hr,I4⟩=>?_
      subst hr
      have pD:=I4.pin (D,{ cls:=.type "list", data:=.seq its.toArray k }) (A9 _ (A9 _ B2))
      obtain⟨m,hn,_⟩:=id I4.loc;refine hRR D C s4 H3 ys m (I2.leave (fp:=fp) hf rfl I4 zAq pD.2.1 hz3 hv3 pD.1) pD.2.1 fin hn ?_ ?_ (fun x c e=>?_) (fun p hp=>?_) I4.free hDC
      · exact Y9 (C4 I2.lt zY)
      · exact B9 I2.sz zY
      · exact C8 (C4 (I2.zI e) zY)
      · exact C8 (C4 (I2.zBQ hp) zY)
    · refine BB (T.item (X.inner scope cl' C s2 H2 fp) rfl rfl rfl hc i _ s3 _ H3 _ I3 (zp fr3) st3 go) fun r s4 ⟨u,hr,h4⟩=>?_
      subst hr;refine BB h4 fun _ s5 ⟨x,H5,I5,r5,y5,st5,fr5⟩=>?_
      have I5':=I5.pinned (zp fr5) (T.obj _ _ st5);refine BB (hg cl' C s2 H2 fp _ s5 _ H5 x u _ I5' r5 (hgo _ _ _ _ (step x H5 y5))) fun _ s6 ⟨σ6,H6,I6,⟨hl6,hs6⟩,q6⟩=>?_
      refine BB (hcn cl' C s2 H2 fp _ s6 σ6 H6 _ I6 q6) fun ok s6b ⟨H6b,I6b,q6b⟩=>?_
      have other:∀(s7:A6) (v:Value) (b:B5) (u:Obj),b≠D->s7.heap.get? b=some u->(s7.heap.update D (F2 fun a=>a.push v)).get? b=some u:=fun s7 v b u hb hu=>(N4 s7.heap (F2 fun a=>a.push v) (Ne.symm hb)).trans hu
      cases ok with
      | false =>
        obtain⟨m',hm,w7⟩:=hN _ _ q6b
        have pD:=I6b.pin (D,{ cls:=.type "list", data:=.seq its.toArray k }) (A9 _ (C2 _ (A9 _ B2)))
        have fpk:∀b∈fp,∀o,s5.heap.get? b=some o->s6b.heap.get? b=some o/\H6b b=none:=fun b hb o e =>
          let z:=I6b.pin (b,o) (A9 _ (A9 _ (BM hb e)));⟨z.1,z.2.1⟩
        have I8:Inv (X.inner scope cl' C s2 H2 fp) pins (blank js σ) H6b s6b:=by
          have Ia:Inv (X.inner scope cl' C s2 H2 fp) pins σ6 H6b s6b:=I6b.xa fun p hp=>I6b.pin p (A9 _ (C2 _ (C2 _ hp)))
          exact Ia.weak hl6.symm fun i v e=>by
            obtain⟨hj,_⟩:=GT js σ i v e;rw[hs6 i hj];exact e
        refine⟨m',hm,i+1,ys,its,k,H6b,I8.xa (fun p hp=>?_),T.keep _ _ _ st5 fun b hb o e=>(fpk b hb o e).1,fun b hb=>?_,hv3,hz3,w7⟩
        · rcases D9.mp hp with z | z
          · exact I8.pin p (A9 _ z)
          · have e:p=(D,_):=D4.mp z;subst e;exact⟨pD.1,pD.2.1,pD.2.2.1,pD.2.2.2.1,zt _ _⟩
        · obtain⟨o,e,_⟩:=T.obj _ _ st5 b hb;exact(fpk b hb o e).2
      | true =>
      refine BB (he cl' C s2 H2 fp _ s6b σ6 H6b _ I6b q6b) fun v s7 ⟨y,H7,I7,r7,n7⟩=>?_
      obtain⟨m',hm,w7⟩:=hN _ _ n7
      have pD:=I7.pin (D,{ cls:=.type "list", data:=.seq its.toArray k }) (A9 _ (C2 _ (A9 _ B2)))
      have lt:its.toArray.size<=sizeLine:=by rw[A7,<- hv3.length];exact hz3
      refine call_meets F.slot_list_append ⟨_,pD.1,rfl⟩ F.entry_list_append (F.args_list_append_2 _ _) (tf D its.toArray k v lt) ⟨pD.1,?_⟩
      obtain⟨k',q⟩:∃k',(s7.heap.update D (F2 fun a=>a.push v)).get? D=some { cls:=.type "list", data:=.seq (its.toArray.push v) k' }:=⟨_,uV pD.1 (fun a=>a.push v)⟩
      have eq:(its.toArray.push v)=(its++[v]).toArray:=by simp
      have fpk:∀b∈fp,∀o,s5.heap.get? b=some o->s7.heap.get? b=some o/\H7 b=none:=fun b hb o e =>
        let z:=I7.pin (b,o) (A9 _ (A9 _ (BM hb e)));⟨z.1,z.2.1⟩
      have other:∀b u,b≠D->s7.heap.get? b=some u->(s7.heap.update D (F2 fun a=>a.push v)).get? b=some u:=fun b u hb hu=>(N4 s7.heap (F2 fun a=>a.push v) (Ne.symm hb)).trans hu
      have I8:Inv (X.inner scope cl' C s2 H2 fp) pins (blank js σ) H7 { s7 with heap:=s7.heap.update D (F2 fun a=>a.push v),toks:=s7.toks }:=by
        have Ia:Inv (X.inner scope cl' C s2 H2 fp) pins σ6 H7 s7:=I7.xa fun p hp=>I7.pin p (A9 _ (C2 _ (C2 _ hp)))
        have Ib:Inv (X.inner scope cl' C s2 H2 fp) pins (blank js σ) H7 s7:=Ia.weak hl6.symm fun i v e=>by
          obtain⟨hj,_⟩:=GT js σ i v e;rw[hs6 i hj];exact e
        refine Ib.turned (it:=D) (fun b o hb e=>other b o hb e) pD.2.1 pD.2.2.1 (.inr zAq) (fun x c e=>?_) (fun p hp=>?_)
        · cases q:AR scope x with
          | false=>exact C8 (C4 (I2.zI (L.old x c e q)) zAq)
          | true=>exact Y9 (U9 zBu (L.own x c e q).2)
        · exact C8 (C4 (I2.zBQ hp) zAq)
      refine⟨m',hm,i+1,ys++[y],its++[v],k',H7,I8.xa (fun p hp=>?_),T.keep _ _ _ st5 fun b hb o e=>other b o (below b (hfe b hb)).2 (fpk b hb o e).1,fun b hb=>?_,hv3.append (.cons r7 .nil),by rw[D2,S4];omega,w7⟩
      · rcases D9.mp hp with z | z
        · exact I8.pin p (A9 _ z)
        · have e:p=(D,_):=D4.mp z;subst e;rw[<- eq];exact⟨q,pD.2.1,pD.2.2.1,pD.2.2.2.1,zt _ _⟩
      · obtain⟨o,e,_⟩:=T.obj _ _ st5 b hb;exact(fpk b hb o e).2
  exact codeAny_compStart_list (loop _ rfl) (T.self _ 0 _ _ _ (T.keep _ _ _ t0 fun b hb o e=>old b o e) (loop _ rfl))
def HM(wi:TI)(js:List Nat)(g:TG)(tc:TT)(te:TE):TE:=fun σ H Q=>wi σ H fun J H1=>∃W:Nat->Nat->List V->Hp->Prop,(∃m,W 0 m [] H1)/\PR js g tc te J σ (fun ys H=>∀p,H p=none->Q (.ref p) (upd H p (.lst ys))) W
theorem Ly(xS:xE X.N X.env.scope scope js=true)(hc:X.calm=true)(hi:PI X tg iter wi)(hg:∀cl C s H fp,PG (X.inner scope cl C s H fp) tg g)(hgo:Tc js g)(hcn:∀cl C s H fp,dC (X.inner scope cl C s H fp) ifs tc)(he:∀cl C s H fp,PE (X.inner scope cl C s H fp) elt te)
    (hs:∀x,P8 iter X.env x=pure x:=by intro _;rfl):PE X (.ListComp elt [⟨tg,iter,ifs,0⟩] scope pos) (HM wi js g tc te):=by
  intro pins s σ H Q I h;have xS:=IG xS;obtain⟨cl,zAn,zX,yd⟩:=IU (scope:=scope) (env:=X.env) (fun x hx=>I.ok.has x (xS.fr x hx)) xS.zBM;rw[eval_ListComp];refine qg (use:=none) rfl hs zAn xS.kind xS.zBL ?_;refine BB (hi pins s σ H _ I h) fun v s1 h1=>BB h1 fun itv s2 h2=>?_
  obtain⟨it,fp,tn,J,H2,e,I2,T,st2,f2,W,⟨m0,w0⟩,turn⟩:=h2;subst e;refine Gb (RR:=fun acc C=>compPost (C9 X.prog X.w) X.A X.xe none (EP X pins σ Q) acc C) xS hc hg hgo hcn he I2 T st2 f2 zX yd w0 turn ?_;intro D C s' H' ys m I' hD fin hn c1 c2 c3 c4 c5 c6;refine⟨m,hn,fun h' sb=>⟨.ref D,_,I'.turned (t':=s'.toks) (it:=C) (fun b o hb e=>(sb.2 b hb).trans e) ?_ c1 (.inr c2) c3 c4,rfl,fin D hD⟩⟩;rw[AB (Ne.symm c6)];exact c5
theorem Lx{i:Nat}{x:Str}{pos' yj:Pos}(hN:X.N.Nodup)(hix:X.N[i]?=some x)(hx:Loc X.env.scope x)
    (xS:xE X.N X.env.scope scope js=true) (hc:X.calm=true) (hi:PI X tg iter wi) (hg:∀cl C s H fp,PG (X.inner scope cl C s H fp) tg g) (hgo:Tc js g) (hcn:∀cl C s H fp,dC (X.inner scope cl C s H fp) ifs tc) (he:∀cl C s H fp,PE (X.inner scope cl C s H fp) elt te)
    (hsw:W6 (.ListComp elt [⟨tg,iter,ifs,0⟩] scope pos) (some (.Name x pos')) yj.line X.env=pure true:=by rfl)
    (hs:∀x,P8 iter X.env x=pure x:=by intro _;rfl)
    (hf:X.fn x=true\/X.env.scope.names.lookup x=some .local:=by first | exact .inl rfl | exact .inr rfl | assumption) :
    PS X (.Assign [.Name x pos'] (.ListComp elt [⟨tg,iter,ifs,0⟩] scope pos) yj) (Nj (HM wi js g tc te) (DH i)):=by
  intro pins s σ H D I h;have xS:=IG xS;obtain⟨cl,zAn,zX,yd⟩:=IU (scope:=scope) (env:=X.env) (fun x hx=>I.ok.has x (xS.fr x hx)) xS.zBM;rw[exec_Assign_Name_used _ _ _ _ hsw];refine A0 (j9 (A0 ?_));show B7 _ _ (do let _ <- comprehension (.ListComp elt [⟨tg,iter,ifs,0⟩] scope pos) scope X.env _ (v7 []) false (Q7 iter X.env) (some (i7 (.Name x pos') X.env))) _ _ s;refine A0 (BB (qg (use:=some (i7 (.Name x pos') X.env)) (Q:=fun _ s'=>SP X pins D .next s') rfl hs zAn xS.kind xS.zBL ?_) (fun _ s' hq=>A4 (A4 hq)));refine BB (hi pins s σ H _ I h) fun v s1 h1=>BB h1 fun itv s2 h2=>?_
  obtain⟨it,fp,tn,J,H2,e,I2,T,st2,f2,W,⟨m0,w0⟩,turn⟩:=h2;subst e;refine Gb (RR:=fun acc C=>compPost (C9 X.prog X.w) X.A X.xe (some (i7 (.Name x pos') X.env)) (fun _ s'=>SP X pins D .next s') acc C) xS hc hg hgo hcn he I2 T st2 f2 zX yd w0 turn ?_;intro DD C s' H' ys m I' hD fin hn c1 c2 c3 c4 c5 c6;show B7 _ _ (i7 (.Name x pos') X.env (.ref DD)) _ _ _;refine tQ (JR (v:=.ref DD) I' hN hix hx rfl (fun s'' I'' ⟨a,sb,ha⟩=>?_) hf);have ne:C≠a:=by
    rcases ha with z | z
    · rw[z];exact c1
    · exact(c3 x a z).symm
  refine⟨m,hn.sameBut sb ne,fun h' sb'=>⟨_,_,I''.turned (t':=s''.toks) (it:=C) (fun b o hb e=>(sb'.2 b hb).trans e) ?_ c1 (.inr c2) c3 c4,fin DD hD⟩⟩;rw[AB (Ne.symm c6)];exact c5
end
end L2
namespace R
open PySem L2
section
variable {γ:Type}
noncomputable def CU(g:Dv->γ->Option (Dv×γ)):List Dv->γ->Option (List Dv×γ)
 | [],c=>some ([],c)
 | x::xs,c=>(g x c).bind fun p=>(CU g xs p.2).bind fun q=>some (p.1::q.1,q.2)
noncomputable def Aj(g:Dv->Option Dv):List Dv->Option (List Dv)
 | []=>some []
 | x::xs=>(g x).bind fun p=>(Aj g xs).bind fun q=>some (p::q)
noncomputable def lU(g:Dv->γ->Option (Option Dv×γ)):List Dv->γ->Option (List Dv×γ)
 | [],c=>some ([],c)
 | x::xs,c=>(g x c).bind fun p=>(lU g xs p.2).bind fun q=>some (match p.1 with | some d=>d::q.1 | none=>q.1,q.2)
noncomputable def GH(g:Dv->Option (Option Dv)):List Dv->Option (List Dv)
 | []=>some []
 | x::xs=>(g x).bind fun p=>(GH g xs).bind fun q=>some (match p with | some d=>d::q | none=>q)
noncomputable def Cu{α:Type}(xs:List Dv)(o:Option α):Option α:=if xs.length<=1000000 then o else none
end
theorem IK{α:Type}{xs:List Dv}{o:Option α}{a:α}(h:Cu xs o=some a):xs.length<=1000000/\o=some a:=by
 unfold Cu at h;split at h
 ·rename_i z;exact⟨z,h⟩
 ·cases h
section
variable {K:W.Frag} {g g':G} {H H':Hp} {Γ:Gm} {m:M} {σ:St} {P:Fp}
theorem Rel.sub{Γ':Gm}{σ':St}(h:Rel K g H Γ m σ P)(hl:Γ'.length=Γ.length)(hs:σ'.length=σ.length)(k:∀(i o:Nat),Γ'[i]?=some (some o)->Γ[i]?=some (some o)/\σ'[i]?=σ[i]?):∃P',Rel K g H Γ' m σ' P'/\∀a,P' a->P a:=by
 obtain⟨zd,F,h1,h4⟩:=h;refine⟨fun a=>∃i,(∃o,Γ'[i]?=some (some o))/\F i a,⟨zd,fun i a=>(∃o,Γ'[i]?=some (some o))/\F i a,⟨by rw[hl];exact h1.l1,by rw[hs,hl];exact h1.l2,fun i o e=>?_,fun i e a q=>q.1.elim fun o z=>e o z,fun i j n a q z=>h1.dj i j n a q.2 z.2⟩,fun _=>o8⟩,fun a ⟨i,_,q⟩=>(h4 a).mpr ⟨i,q⟩⟩;obtain⟨e',es⟩:=k i o e;obtain⟨d,v,e1,e2,r⟩:=h1.rep i o e';have eq:(fun a=>(∃o,Γ'[i]?=some (some o))/\F i a)=F i:=funext fun a=>propext ⟨fun z=>z.2,fun z=>⟨⟨o,e⟩,z⟩⟩
 exact⟨d,v,e1,by rw[es];exact e2,by show Rep K g H o d v fun a=>(∃o,Γ'[i]?=some (some o))/\F i a;rw[eq];exact r⟩
theorem Rel.more{Γ':Gm}{σ':St}(h:Rel K g H Γ m σ P)(hl:Γ'.length=Γ.length)(hs:σ'.length=σ.length)(k:∀(i o:Nat),Γ'[i]?=some (some o)->(Γ[i]?=some (some o)/\σ'[i]?=σ[i]?)\/(o=0/\∃d v,m[i]?=some d/\σ'[i]?=some (some v)/\Rep K g H 0 d v wX)):∃P',Rel K g H Γ' m σ' P'/\∀a,P' a->P a:=by
 obtain⟨zd,F,h1,h4⟩:=h
 let C:Nat->Prop:=fun i=>∃o,Γ'[i]?=some (some o)/\Γ[i]?=some (some o)/\σ'[i]?=σ[i]?
 refine⟨fun a=>∃i,C i/\F i a,⟨zd,fun i a=>C i/\F i a,⟨by rw[hl];exact h1.l1,by rw[hs,hl];exact h1.l2,fun i o e=>?_,fun i e a q=>q.1.elim fun o z=>e o z.1,fun i j n a q z=>h1.dj i j n a q.2 z.2⟩,fun _=>o8⟩,fun a ⟨i,_,q⟩=>(h4 a).mpr ⟨i,q⟩⟩
 by_cases c:C i
 ·obtain⟨o',e1,e2,e3⟩:=c;rw[e] at e1;cases e1;obtain⟨d,v,e4,e5,r⟩:=h1.rep i o e2;have eq:(fun a=>C i/\F i a)=F i:=funext fun a=>propext ⟨fun z=>z.2,fun z=>⟨⟨o,e,e2,e3⟩,z⟩⟩
  exact⟨d,v,e4,by rw[e3];exact e5,by show Rep K g H o d v fun a=>C i/\F i a;rw[eq];exact r⟩
 ·have eq:(fun a=>C i/\F i a)=wX:=FF fun a z=>c z.1
  rcases k i o e with z | ⟨rfl,d,v,e1,e2,r⟩
  ·exact(c ⟨o,e,z⟩).elim
  ·exact⟨d,v,e1,e2,by show Rep K g H 0 d v fun a=>C i/\F i a;rw[eq];exact r⟩
end
def NR(js:List Nat)(Γ:Gm):Gm:=(B3 Γ.length).map fun i=>if js.contains i then none else Γ.getD i none
def Nz(js:List Nat)(wu Γ:Gm):Gm:=(B3 Γ.length).map fun i=>if js.contains i then(if wu.getD i none == some 0 then some 0 else none) else Γ.getD i none
theorem Ez{α:Type}{n i:Nat}{f:Nat->α}{x:α}(h:((B3 n).map f)[i]?=some x):i < n/\x=f i:=by
 rw[C5] at h
 by_cases z:i < n
 ·rw[L5 z] at h;exact⟨z,(D5 h).symm⟩
 ·rw[List.getElem?_eq_none_iff.mpr (by simpa using z)] at h;cases h
theorem Bi{Γ:Gm}{i o:Nat}(h:Γ.getD i none=some o):Γ[i]?=some (some o):=by
 rw[B8] at h;cases e:Γ[i]? with
 | none=>rw[e] at h;cases h
 | some x=>rw[e] at h;exact congrArg some h
theorem DX{js:List Nat}{Γ:Gm}{i o:Nat}(h:(NR js Γ)[i]?=some (some o)):i∉js/\Γ[i]?=some (some o):=by
 obtain⟨_,e⟩:=Ez h;split at e
 ·cases e
 ·rename_i z;exact⟨fun q=>z (B6.mpr q),Bi e.symm⟩
theorem Jz(js:List Nat):∀(σ:St) (i:Nat),i∉js->(L2.blank js σ)[i]?=σ[i]?:=by
 induction js with
 | nil=>intro σ i _;rfl
 | cons j js ih =>
  intro σ i h;show(L2.blank js (σ.set j none))[i]?=_;rw[ih _ i fun z=>h (B1 _ z),E1 fun z=>h (by rw[<- z];exact B2)]
theorem IT{K:W.Frag}{wu wZ yO Γc Γf:Gm}{jx jt jc jf J:List Nat}{g:TG}{ft:Tg}{c:Ev Bool}{f:Ev Dv}(ht:PN K wZ yO jt g ft)(hbl:Bn wZ (NR jx wu)=true)(hwf:Bn wZ Γf=true)(hwc:Bn wZ Γc=true)(hsx:∀i∈jt,i∈jx)
    (hJ:J=BR wZ (jt++(jc++jf))) {ds:List Dv} (hz:ds.length<=1000000) {m1:M} {σ:St} {H1:Hp} {g1:G} {P1:Fp} {I:It} {R:Type} {k:Dv->M->Option R} {res:R} {Q:VK}
    (r1:Rel K g1 H1 wu m1 σ P1) (yl:Yl K I ds g1 H1) (run:List Dv->FW J->List Dv->Prop) (h0:run ds (Ak J m1) []) (hn:∀t ya,run [] t ya->k (.lst ya) (Aq J m1 t)=some res)
    (hc:∀d ds t ya,run (d::ds) t ya->∃(B:Type) (kx:Dv->M->Option B) (kf:M->Option B) (r:B),ft B d (Aq J m1 t) (fun m2=>c B m2 fun b m3=>if b=true then f B m3 kx else kf m3)=some r/\(∀x m',kx x m'=some r->run ds (Ak J m') (ya++[x]))/\∀m',kf m'=some r->run ds (Ak J m') ya)
    (q:∀d m' g' P' Pv v H',k d m'=some res->Bj (jt++(jc++jf)) m1 m'->Step g1 P1 H1 g' (fun a=>P' a\/Pv a) H'->Rep K g' H' 1 d v Pv->Rel K g' H' (Nz jx wu wZ) m' σ P'->Bp P' Pv->Q v H') :
    ∃W:Nat->Nat->List V->Hp->Prop,(∃m,W 0 m [] H1)/\PR jx g (tT K yO Γc jc c) (tE K Γc 0 Γf jf f) I σ (fun ys H=>∀p,H p=none->Q (.ref p) (upd H p (.lst ys))) W:=by
  have sub:∀i∈J,i∈jt++(jc++jf):=fun i h=>BE (hJ▸h)
  have nJ:∀i∈J,i∉jx:=fun i h z=>by
    rw[hJ] at h;have:=(J4.mp h).2;rw[A5] at this;cases e:wZ.getD i none with
    | none=>rw[e] at this;cases this.2
    | some o =>
      obtain⟨o',e',_⟩:=FH hbl (Bi e);exact(DX e').1 z
  have lb:(NR jx wu).length=wu.length:=by unfold NR;simp
  obtain⟨Pb,rb,sb⟩:=r1.sub (Γ':=NR jx wu) (σ':=L2.blank jx σ) lb (L2.xP ..) fun i o e=>⟨(DX e).2,Jz jx σ i (DX e).1⟩
  obtain⟨g0,P0,s0,r0⟩:=rb.weaken hbl;have s10:Step g1 P1 H1 g0 P0 H1:=s0.sub sb fun _ z=>z
  refine⟨fun i j ys H=>j=ds.length - i/\i<=ds.length/\ys.length<=i/\∃g2 t P2 ya,Step g1 P1 H1 g2 P2 H/\Rel K g2 H wZ (Aq J m1 t) (L2.blank jx σ) P2/\AA K g2 H 0 ya ys wX/\run (ds.drop i) t ya,
    ⟨ds.length,by simp,E7 _,E7 _,g0,Ak J m1,P0,[],s10,Oc r0,AA.nil,by simpa using h0⟩,?_⟩
  rintro i j ys H2 ⟨rfl,hi,hyl,g2,t,P2,ya,s2,r2,ry,e2⟩;have st:Ii g1 H1 g2 H2:=⟨P1,P2,s2,r1.wc⟩
  by_cases w6:i < ds.length
  · rw[L0 w6] at e2;obtain⟨B,kx,kf,rB,e3,hx,hf⟩:=hc _ _ _ _ e2;obtain⟨go,yy⟩:=(yl g2 H2 st).1 i ds[i] (A3 w6);refine .inr ⟨go,U9 hyl (C4 w6 (B9 hz (by decide))),fun zs H'=>zs.length<=i+1/\∃g5 P5 m' za,Step g1 P1 H1 g5 P5 H'/\Rel K g5 H' wZ m' (L2.blank jx σ) P5/\Bj (jt++(jc++jf)) m1 m'/\AA K g5 H' 0 za zs wX/\run (ds.drop (i+1)) (Ak J m') za,?_,fun y H3 hy=>?_⟩
    · rintro zs H' ⟨hl,g5,P5,m',za,s5,r5,ag,rz,hr⟩;exact⟨ds.length - (i+1),by omega,rfl,w6,hl,g5,Ak J m',P5,za,s5,r5.join ag fun i o h=>hJ▸BX h,rz,hr⟩
    · obtain⟨Pv,s3,h3,r3,n3⟩:=Ac.go s2 r2 (yy y H3 hy);have ry3:AA K g2 H3 0 ya ys wX:=ry.held (Step.same (P:=wX) (yy y H3 hy).1) we.wX fun _ _ z=>z
      refine ht g2 _ P2 ds[i] y _ H3 B _ rB _ r3 h3.z e3 fun m2 P' σ' hk ag sp ip r'=>?_
      have s4:Step g1 P1 H1 g2 P' H3:=s3.less fun a z=>.inl (sp a z)
      have a4:Bj (jt++(jc++jf)) m1 m2:=((AW J m1 t).mono sub).trans ag |>.mono fun i z=>(D9.mp z).elim id fun z=>C2 _ z
      -- outside of the zAW own slots nothing is bound
      have back:∀{g5:G} {P5:Fp} {m':M} {H':Hp},Rel K g5 H' wZ m' σ' P5->∃P6,Rel K g5 H' wZ m' (L2.blank jx σ) P6/\∀a,P6 a->P5 a:=fun{g5 P5 m' H'} r5=>r5.sub rfl (by rw[ip.1]) fun i o e=>⟨e,(ip.2 i fun z=>by
          obtain⟨o',e',_⟩:=FH hbl e;exact(DX e').1 (hsx i z)).symm⟩
      refine⟨g2,m2,P',r',B,_,rB,hk,fun b m3 g4 P4 H4 hk4 ag4 s5 r4=>?_⟩;have ry4:=ry3.held s5 r'.wc fun _ z=>z.elim
      cases b with
      | false =>
        rw[if_neg C7] at hk4;show(if false=true then _ else _);rw[if_neg C7];obtain⟨g6,P6,s6,r6⟩:=r4.weaken hwc;obtain⟨P7,r7,sp7⟩:=back r6;exact⟨by omega,g6,P7,m3,ya,((s4.trans s5).trans s6).less sp7,r7,(a4.trans ag4).mono fun i z=>(D9.mp z).elim id fun z=>A9 _ (C2 _ z),ry4.held s6 r4.wc fun _ z=>z.elim,hf m3 hk4⟩
      | true =>
        rw[if_pos rfl] at hk4;show(if true=true then _ else _);rw[if_pos rfl];refine⟨g4,m3,P4,r4,B,kx,rB,hk4,fun x m4 g5 P5 Pv v H5 hk5 ag5 s6 rv r5 n5=>?_⟩;have ry5:=ry4.held s6 r4.wc fun _ z=>z.elim
        obtain⟨g6,P6,s7,r6⟩:=r5.weaken hwf;obtain⟨P7,r7,sp7⟩:=back r6;refine⟨by rw[D2,S4];omega,g6,P7,m4,ya++[x],(((s4.trans s5).trans (s6.less fun _ z=>.inl z)).trans s7).less sp7,r7,?_,?_,hx x m4 hk5⟩
        · exact((a4.trans ag4).trans ag5).mono fun i z=>(D9.mp z).elim (fun z=>(D9.mp z).elim id fun z=>A9 _ (C2 _ z)) fun z=>A9 _ (A9 _ z)
        · refine((AA.app ry5 (AA.cons rv.z AA.nil fun _ z=>z.elim) fun _ z=>z.elim).iff (Q:=wX) fun a=>⟨fun z=>z.elim,fun z=>z.elim id fun z=>z.elim id id⟩).held s7 r5.wc fun _ z=>z.elim
  · have ei:i=ds.length:=by omega
    subst ei;rw[j4] at e2;refine .inl ⟨(yl g2 H2 st).2 _ (B0 _),fun p hp=>?_⟩;obtain⟨Pv,s3,h1,r3,n3⟩:=Ac.go s2 r2 (Ac.lst r2.zd ry hp);have l1:wZ.length=wu.length:=(EM hbl).trans lb;obtain⟨P4,r4,sp4⟩:=r3.more (Γ':=Nz jx wu wZ) (σ':=σ) (by unfold Nz;simp) (by rw[L2.xP]) fun i o e=>by
      obtain⟨hi,e⟩:=Ez e;split at e
      · rename_i z;split at e
        · rename_i z0;cases e;refine .inr ⟨rfl,?_⟩;obtain⟨v,Px,ev,rx,_⟩:=r1.zq (Bi (beq_iff_eq.mp z0));have ji:i∉J:=fun w=>nJ i w (B6.mp z)
          have hl:i < m1.length:=by rw[r1.len.1,<- l1];exact hi
          refine⟨m1.at i,v,?_,ev,(rx.z.held s2 r1.wc fun _ z=>z.elim).held (Step.same (P:=wX) (CM hp (.lst ys))) we.wX fun _ _ z=>z⟩;have:=(AW J m1 t).2 i ji;have zJ:i < (Aq J m1 t).length:=by rw[Hm];exact hl
          rw[A3 zJ,<- this];unfold M.at;rw[B8,A3 zJ];rfl
        · cases e
      · rename_i z;exact .inl ⟨Bi e.symm,(Jz jx σ i fun w=>z (B6.mpr w)).symm⟩
    exact q _ _ g2 P4 Pv _ _ (hn t ya e2) ((AW J m1 t).mono sub) (s3.less fun a z=>z.elim (fun z=>.inl (sp4 a z)) .inr) h1 r4 fun a z w=>n3 a (sp4 a z) w
def WW(src:Ev (List Dv))(tg:Tg)(f:Ev Dv):Ev Dv:=fun R m k=>src R m fun ds m1=>Cu ds ((Aj (fun d=>tg Dv d m1 fun m2=>f Dv m2 fun x _=>some x) ds).bind fun xs=>k (.lst xs) m1)
def WX(src:Ev (List Dv))(tg:Tg)(c:Ev Bool)(f:Ev Dv):Ev Dv:=fun R m k=>src R m fun ds m1=>Cu ds ((GH (fun d=>tg (Option Dv) d m1 fun m2=>c (Option Dv) m2 fun b m3=>if b=true then f (Option Dv) m3 fun x _=>some (some x) else some none) ds).bind fun xs=>k (.lst xs) m1)
def Qp(src:Ev (List Dv))(tg:Tg)(J:List Nat)(f:Ev Dv):Ev Dv:=fun R m k=>src R m fun ds m1=>Cu ds ((CU (fun d t=>tg (Dv×FW J) d (Aq J m1 t) fun m2=>f (Dv×FW J) m2 fun x m3=>some (x,Ak J m3)) ds (Ak J m1)).bind fun p=>k (.lst p.1) (Aq J m1 p.2))
def Eh:Ev Bool:=fun _ m k=>k true m
section
variable {K:W.Frag} {Γ wu wZ yO Γc Γf:Gm} {js jx jt jc jf J:List Nat} {g:TG} {ft:Tg} {c:Ev Bool} {f:Ev Dv} {src:Ev (List Dv)} {σ:St} {H:Hp} {Q:VK}
theorem Vm(ht:PN K wZ yO jt g ft)(hbl:Bn wZ (NR jx wu)=true)(hwf:Bn wZ Γf=true)(hwc:Bn wZ yO=true)(hsx:∀i∈jt,i∈jx)(hJ:([]:List Nat)=BR wZ (jt++([]++jf)))
    (h:tE K Γ 1 (Nz jx wu wZ) (js++(jt++([]++jf))) (WW src ft f) σ H Q):HM (tI K Γ wu js src) jx g (tT K yO yO [] Eh) (tE K yO 0 Γf jf f) σ H Q:=by
  obtain⟨g0,m,P,r,R,k,res,e,q⟩:=h;refine⟨g0,m,P,r,R,_,res,e,fun ds m1 g1 P1 H1 I hk ag s r1 yl=>?_⟩;obtain⟨hz,hk⟩:=IK hk;obtain⟨xs,e1,e2⟩:=wV hk;refine IT (c:=Eh) ht hbl hwf hwc hsx hJ hz r1 yl (fun ds _ ya=>∃yb,xs=ya++yb/\Aj _ ds=some yb) ⟨xs,rfl,e1⟩ (fun t ya ⟨yb,h1,h2⟩=>?_) (fun d ds t ya ⟨yb,h1,h2⟩=>?_) fun d m' g' P' Pv v H' hk yn s'=>q d m' g' P' Pv v H' hk (ag.trans yn) (s.trans s')
  · cases h2;rw[M0] at h1;subst h1;exact e2
  · obtain⟨x,h3,h4⟩:=wV h2;obtain⟨yc,h5,h6⟩:=wV h4;cases h6;exact⟨Dv,fun x _=>some x,fun _=>none,x,h3,(fun y m' hk=>by cases hk;exact⟨yc,by rw[h1,G0];rfl,h5⟩),fun m' hk=>by cases hk⟩
theorem Vn(ht:PN K wZ yO jt g ft)(hbl:Bn wZ (NR jx wu)=true)(hwf:Bn wZ Γf=true)(hwc:Bn wZ Γc=true)(hsx:∀i∈jt,i∈jx)(hJ:([]:List Nat)=BR wZ (jt++(jc++jf)))
    (h:tE K Γ 1 (Nz jx wu wZ) (js++(jt++(jc++jf))) (WX src ft c f) σ H Q):HM (tI K Γ wu js src) jx g (tT K yO Γc jc c) (tE K Γc 0 Γf jf f) σ H Q:=by
  obtain⟨g0,m,P,r,R,k,res,e,q⟩:=h;refine⟨g0,m,P,r,R,_,res,e,fun ds m1 g1 P1 H1 I hk ag s r1 yl=>?_⟩;obtain⟨hz,hk⟩:=IK hk;obtain⟨xs,e1,e2⟩:=wV hk;refine IT ht hbl hwf hwc hsx hJ hz r1 yl (fun ds _ ya=>∃yb,xs=ya++yb/\GH _ ds=some yb) ⟨xs,rfl,e1⟩ (fun t ya ⟨yb,h1,h2⟩=>?_) (fun d ds t ya ⟨yb,h1,h2⟩=>?_) fun d m' g' P' Pv v H' hk yn s'=>q d m' g' P' Pv v H' hk (ag.trans yn) (s.trans s')
  · cases h2;rw[M0] at h1;subst h1;exact e2
  · obtain⟨x,h3,h4⟩:=wV h2;obtain⟨yc,h5,h6⟩:=wV h4;cases h6;refine⟨Option Dv,fun x _=>some (some x),fun _=>some none,x,h3,(fun y m' hk=>?_),fun m' hk=>?_⟩
    · cases hk;exact⟨yc,by rw[h1,G0];rfl,h5⟩
    · cases hk;exact⟨yc,h1,h5⟩
theorem Sk(ht:PN K wZ yO jt g ft)(hbl:Bn wZ (NR jx wu)=true)(hwf:Bn wZ Γf=true)(hwc:Bn wZ yO=true)(hsx:∀i∈jt,i∈jx)(hJ:J=BR wZ (jt++([]++jf)))
    (h:tE K Γ 1 (Nz jx wu wZ) (js++(jt++([]++jf))) (Qp src ft J f) σ H Q):HM (tI K Γ wu js src) jx g (tT K yO yO [] Eh) (tE K yO 0 Γf jf f) σ H Q:=by
  obtain⟨g0,m,P,r,R,k,res,e,q⟩:=h;refine⟨g0,m,P,r,R,_,res,e,fun ds m1 g1 P1 H1 I hk ag s r1 yl=>?_⟩;obtain⟨hz,hk⟩:=IK hk;obtain⟨p,e1,e2⟩:=wV hk;refine IT (c:=Eh) ht hbl hwf hwc hsx hJ hz r1 yl (fun ds t ya=>∃yb,p.1=ya++yb/\CU _ ds t=some (yb,p.2)) ⟨p.1,rfl,e1⟩ (fun t ya ⟨yb,h1,h2⟩=>?_) (fun d ds t ya ⟨yb,h1,h2⟩=>?_) fun d m' g' P' Pv v H' hk yn s'=>q d m' g' P' Pv v H' hk (ag.trans yn) (s.trans s')
  · simp only[CU,Q3,Prod.mk.injEq] at h2;obtain⟨rfl,rfl⟩:=h2;rw[M0] at h1;rw[<- h1];exact e2
  · obtain⟨x,h3,h4⟩:=wV h2;obtain⟨yc,h5,h6⟩:=wV h4;simp only[Q3,Prod.mk.injEq] at h6;obtain⟨rfl,h7⟩:=h6;refine⟨_,fun x m3=>some (x,Ak J m3),fun _=>none,x,h3,(fun y m' hk=>?_),fun m' hk=>by cases hk⟩;cases hk;exact⟨yc.1,by rw[h1,G0];rfl,by rw[<- h7];exact h5⟩
end
end R
namespace L2
open PySem PySem.Spec PyProof.Rows
theorem FU{a b:Nat}(h:a≠b):@Ne B5 a b:=h
def HF(h:F7)(it l:B5)(i:Nat):Bool->Prop
 | false=>h.IsListIter it l i
 | true=>h.IsTupleIter it l i
def Ij(h:F7)(l:B5)(xs:Array Value):Bool->Prop
 | false=>h.IsList l xs
 | true=>h.IsTuple l xs
noncomputable def Qa(l:B5):Bool->Obj
 | false=>{ cls:=.type "list_iterator", data:=.fields #[.ref l,.int 0 0] }
 | true=>{ cls:=.type "tuple_iterator", data:=.fields #[.ref l,.int 0 0] }
variable {h:F7} {it l:B5} {i:Nat} {b:Bool}
theorem HF.at{h':F7}(x:HF h it l i b)(k:∀o,h.get? it=some o->h'.get? it=some o):HF h' it l i b:=by
 cases b with
 | false=>obtain⟨o,e,r⟩:=x;exact⟨o,k o e,r⟩
 | true=>obtain⟨o,e,r⟩:=x;exact⟨o,k o e,r⟩
theorem Ij.at{h':F7}{xs:Array Value}(x:Ij h l xs b)(k:∀o,h.get? l=some o->h'.get? l=some o):Ij h' l xs b:=by
 cases b with
 | false=>obtain⟨o,e,r⟩:=x;exact⟨o,k o e,r⟩
 | true=>obtain⟨o,e,r⟩:=x;exact⟨o,k o e,r⟩
theorem HF.obj(x:HF h it l i b):∃o,h.get? it=some o/\∀v,o.data≠.cell v:=by
 cases b with
 | false=>obtain⟨o,e,c,d⟩:=x;exact⟨o,e,fun v z=>by rw[d] at z;cases z⟩
 | true=>obtain⟨o,e,c,d⟩:=x;exact⟨o,e,fun v z=>by rw[d] at z;cases z⟩
theorem HF.new:HF (h.push (Qa l b)) h.objs.size l 0 b:=by
 cases b with
 | false=>exact⟨_,B4 _ rfl,rfl,rfl⟩
 | true=>exact⟨_,B4 _ rfl,rfl,rfl⟩
variable {Q:Value->A6->Prop} {items:Array Value}
section
variable {prog:E5} {w:G3} {A:F3} {E:Value->A6->Prop} {s:A6}
theorem JT{xs:Array Value}(hl:Ij s.heap l xs b)(hQ:Q (.ref s.heap.objs.size) { s with heap:=s.heap.push (Qa l b) }):B7 (C9 prog w) A (uR (.ref l)) Q E s:=by
 cases b with
 | false=>exact Q0 hl hQ
 | true=>exact O2 hl hQ
theorem Gq{x:Value}{Q:Value->A6->Prop}(hit:HF s.heap it l i b)(hl:Ij s.heap l items b)(hx:items[i]?=some x)
    (hQ:∀h',HF h' it l (i+1) b->O4 it s.heap h'->Q x { s with heap:=h' }):B7 (C9 prog w) A (G9 (.ref it)) Q E s:=by
  cases b with
  | false=>exact wpAny_nextOf_list_item hit hl hx hQ
  | true =>
    obtain⟨o,ho,hc,hd⟩:=id hit;obtain⟨ol,hol,_,nl,hdl⟩:=hl
    have ht:s.TypeIs (.ref it) "tuple_iterator" := ⟨o,ho,hc⟩
    unfold G9
    refine A0 (J5 (name:=U7 "__next__") ht F.slot_tuple_iterator_next
      (F9 F.slot_tuple_iterator_next ht F.entry_tuple_iterator_next ?_ (F.args_tuple_iterator_next_1 _)))
    show B7 _ _ (vV (.ref it) 0 >>= _) _ _ s;refine A0 (L7 ho hd (x:=.ref l) rfl ?_);show B7 _ _ (if(E2 l == K1)=true then _ else _) _ _ s;rw[if_neg (show ¬((E2 l == K1)=true) from C7)];show B7 _ _ (vV (.ref it) 1 >>= _) _ _ s;refine A0 (L7 ho hd (x:=.int i 0) rfl ?_);show B7 _ _ (seqItems? (.ref l) >>= _) _ _ s;refine A0 (H9 hol hdl ?_);simp only[I9,hx];refine A0 (S2 ho hd (by simp) (A4 ⟨x,rfl,A4 (hQ _ ?_ (G4 ..))⟩));exact⟨_,K2 _ ho (rS (qI hd _)),(Obj.cls_mapFields ..).trans hc,by
      rw[qI hd];simp[S6]⟩
theorem Nn{Q:Value->A6->Prop}(hh:A.handled=none)(hit:HF s.heap it l i b)(hl:Ij s.heap l items b)(hx:items[i]?=none)
    (hE:∀h' e,qW it s.heap h'->(∃o,h'.get? e=some o/\o.cls=.type "StopIteration")->E (.ref e) { s with heap:=h' }):B7 (C9 prog w) A (G9 (.ref it)) Q E s:=by
  cases b with
  | false=>exact wpAny_nextOf_list_end hh hit hl hx hE
  | true =>
    obtain⟨o,ho,hc,hd⟩:=id hit;obtain⟨ol,hol,_,nl,hdl⟩:=hl
    have ht:s.TypeIs (.ref it) "tuple_iterator" := ⟨o,ho,hc⟩
    unfold G9
    refine A0 (J5 (name:=U7 "__next__") ht F.slot_tuple_iterator_next
      (F9 F.slot_tuple_iterator_next ht F.entry_tuple_iterator_next ?_ (F.args_tuple_iterator_next_1 _)))
    show B7 _ _ (vV (.ref it) 0 >>= _) _ _ s;refine A0 (L7 ho hd (x:=.ref l) rfl ?_);show B7 _ _ (if(E2 l == K1)=true then _ else _) _ _ s;rw[if_neg (show ¬((E2 l == K1)=true) from C7)];show B7 _ _ (vV (.ref it) 1 >>= _) _ _ s;refine A0 (L7 ho hd (x:=.int i 0) rfl ?_);show B7 _ _ (seqItems? (.ref l) >>= _) _ _ s;refine A0 (H9 hol hdl ?_);simp only[I9,hx];refine A0 (Q5 (A0 (S2 ho hd (by simp) ?_)))
    show B7 _ _ (newExc (.type "StopIteration") [] >>= _) _ _ _
    refine A0 ?_;simp only[newExc,newTuple];refine A0 (G7 ?_ (by size_fits));refine A0 (m:=qJ _ _) (uq (a:=K1) (by first | rfl | (simp only[qJ];rfl)) ?_);refine G7 ?_ (by size_fits);simp only[raiseNew];refine A0 (wpAny_handled ?_)
    first | rw[show A.in1.handled=none from hh] | rw[hh]
    refine A0 (A4 (wpAny_throw ?_));exact hE _ _ (((G4 ..).extBut.push _).push _) ⟨_,B4 _ rfl,rfl⟩
end
def JG(K:W.Frag)(H:Hp)(a:B5)(xs:List V):Bool->Prop
 | false=>Ca K H a xs
 | true=>DL K H a xs
section
variable {X:Cx} {pins:List (B5×Obj)} {σ:St} {H:Hp} {s:A6} {a:B5} {xs ys:List V} {b:Bool}
theorem Inv.sqB(I:Inv X pins σ H s)(h:JG X.K H a xs b):∃its:List Value,AH xs its/\Ij s.heap a its.toArray b/\a < s.heap.objs.size:=by
 cases b with
 | false =>
  obtain⟨its,r,p,_⟩:=I.list h;exact⟨its,r,p.isList,by obtain⟨o,n,e,_⟩:=p;exact C3 e⟩
 | true =>
  obtain⟨its,r,p,_⟩:=I.tuple h;exact⟨its,r,p,by obtain⟨o,e,_⟩:=p;exact C3 e⟩
theorem Inv.y6(I:Inv X pins σ H s)(h:JG X.K H a xs b)(h':JG X.K H a ys b):xs=ys:=by
 cases b with
 | false=>exact I.yS h h'
 | true=>exact I.yB h h'
end
abbrev RK(h:F7)(T:B5)(v1 v2:Value):Prop:=h.get? T=some { cls:=.type "tuple", data:=.seq #[v1,v2] }
variable {I l1 l2:Nat} {b1 b2:Bool} {xV xZ:Array Value}
section
variable {prog:E5} {w:G3} {A:F3} {E:Value->A6->Prop} {s:A6}
theorem Tv{T:B5}{v1 v2 x:Value}{Q:Unit->A6->Prop}(hT:RK s.heap T v1 v2)(h:∀h',RK h' T x v2->O4 T s.heap h'->Q () { s with heap:=h' }):B7 (C9 prog w) A (ub T (·.setIfInBounds 0 x)) Q E s:=by
 refine m7 hT rfl (h _ ?_ (G4 ..));show Heap.get? _ _=_;rw[K2 _ hT rfl];simp[F2]
theorem dM{T:B5}{v1 v2 x:Value}{Q:Unit->A6->Prop}(hT:RK s.heap T v1 v2)(h:∀h',RK h' T v1 x->O4 T s.heap h'->Q () { s with heap:=h' }):B7 (C9 prog w) A (ub T (·.setIfInBounds 1 x)) Q E s:=by
 refine m7 hT rfl (h _ ?_ (G4 ..));show Heap.get? _ _=_;rw[K2 _ hT rfl];simp[F2]
structure yL (h:F7) (I:Nat) (l1 l2:Nat) (b1 b2:Bool) (i:Nat) (f0:Value):Prop where
 z:sD h (I+4) (I+2) (I+3) f0
 ti:RK h (I+2) (.ref I) (.ref (I+1))
 to:∃v1 v2,RK h (I+3) v1 v2
 s1:HF h I l1 i b1
 s2:HF h (I+1) l2 i b2
theorem yL.at{h':F7}{f0:Value}(x:yL h I l1 l2 b1 b2 i f0)(k:∀(c:Nat) o,I<=c->c < I+5->h.get? c=some o->h'.get? c=some o):yL h' I l1 l2 b1 b2 i f0:=
 ⟨k _ _ (by omega) (by omega) x.z,k _ _ (by omega) (by omega) x.ti,let ⟨v1,v2,e⟩:=x.to;⟨v1,v2,k _ _ (by omega) (by omega) e⟩,x.s1.at fun o e=>k _ o (by omega) (by omega) e,x.s2.at fun o e=>k _ o (by omega) (by omega) e⟩
theorem RM{y1 y2:Value}{Q:Value->A6->Prop}(hz:yL s.heap I l1 l2 b1 b2 i .none)(xq:Ij s.heap l1 xV b1)(lt1:l1 < I)(xp:Ij s.heap l2 xZ b2)(lt2:l2 < I)(hx1:xV[i]?=some y1)(hx2:xZ[i]?=some y2)
    (hQ:∀h',yL h' I l1 l2 b1 b2 (i+1) (S6 s.heap.objs.size)->RK h' s.heap.objs.size y1 y2->h'.objs.size=s.heap.objs.size+1->(∀(c:Nat) o,(c < I\/I+5<=c)->s.heap.get? c=some o->h'.get? c=some o)->Q (.ref s.heap.objs.size) { s with heap:=h' }) :
    B7 (C9 prog w) A (M8.«zip.__next__» ⟨[.ref (I+4)],[]⟩) (fun fin s'=>∃v,fin=.done (.ret v)/\Q v s') E s:=by
  obtain⟨z0,ti0,⟨v1,v2,to0⟩,s10,s20⟩:=hz;show B7 _ _ (vV (.ref (I+4)) 2 >>= _) _ _ _;refine A0 (L7 z0 rfl (x:=.bool false) rfl ?_);show B7 _ _ (vV (.ref (I+4)) 3 >>= _) _ _ _;refine A0 (L7 z0 rfl (x:=.ref (I+2)) rfl ?_);refine A0 (H9 ti0 rfl ?_);show B7 _ _ (L9 (.ref (I+4)) >>= _) _ _ _;refine A0 ?_;unfold L9;refine A0 (L7 z0 rfl (x:=.none) rfl (A4 ?_));simp only[if_true];refine A0 (Q5 ?_);refine A0 (L7 z0 rfl (x:=.ref (I+3)) rfl ?_);refine A0 (S3 z0 (by simp) fun h₁ yV xh=>?_);replace yV:sD h₁ (I+4) (I+2) (I+3) .ellipsis:=yV;refine A0 ?_;simp only[j5,u0,l9,r8];have g0:∀(c:Nat) o,c≠(I+4)->s.heap.get? c=some o->h₁.get? c=some o:=fun c o c1 e=>xh.extBut _ _ c1 e
  have k0:∀(c:Nat) o,c≠(I+4)->c≠(I+3)->(c < I\/I<=c)->s.heap.get? c=some o->h₁.get? c=some o:=fun c o c1 _ _ e=>g0 c o c1 e
  have to1:RK h₁ (I+3) v1 v2:=g0 _ _ (by omega) to0;refine A0 (A0 (qh ?_));show B7 _ _ (G9 (.ref I) >>= _) _ _ _;refine A0 (Gq (s10.at fun o e=>k0 _ o (by omega) (by omega) (by omega) e) (xq.at fun o e=>k0 _ o (by omega) (by omega) (by omega) e) hx1 fun p1 si1 sp1=>A4 ?_);have u1:RK p1 (I+3) v1 v2:=sp1.extBut _ _ (FU (by omega)) to1;refine A0 (H9 u1 rfl ?_);refine A0 (Tv u1 fun q1 to2 sq1=>?_);have k1:∀(c:Nat) o,c≠(I+4)->c≠(I+3)->(c < I\/I+1<=c)->s.heap.get? c=some o->q1.get? c=some o:=fun c o c1 c2 c3 e=>sq1.extBut _ _ c2 (sp1.extBut _ _ (FU (by omega)) (k0 c o c1 c2 (by omega) e))
  have zz1:sD q1 (I+4) (I+2) (I+3) .ellipsis:=sq1.extBut _ _ (FU (by omega)) (sp1.extBut _ _ (FU (by omega)) yV);have zCp:HF q1 I l1 (i+1) b1:=si1.at fun o e=>sq1.extBut _ _ (FU (by omega)) e
  refine A0 (ur (A4 ?_));refine A0 (A0 (qh ?_));show B7 _ _ (G9 (.ref (I+1)) >>= _) _ _ _;refine A0 (Gq (s20.at fun o e=>k1 _ o (by omega) (by omega) (by omega) e) (xp.at fun o e=>k1 _ o (by omega) (by omega) (by omega) e) hx2 fun p2 si2 sp2=>A4 ?_);have u2:RK p2 (I+3) y1 v2:=sp2.extBut _ _ (FU (by omega)) to2;refine A0 (H9 u2 rfl ?_);refine A0 (dM u2 fun q2 to3 sq2=>?_);have k2:∀(c:Nat) o,c≠(I+4)->c≠(I+3)->(c < I\/I+2<=c)->s.heap.get? c=some o->q2.get? c=some o:=fun c o c1 c2 c3 e=>sq2.extBut _ _ c2 (sp2.extBut _ _ (FU (by omega)) (k1 c o c1 c2 (by omega) e))
  have zz2:sD q2 (I+4) (I+2) (I+3) .ellipsis:=sq2.extBut _ _ (FU (by omega)) (sp2.extBut _ _ (FU (by omega)) zz1);have zCn:HF q2 (I+1) l2 (i+1) b2:=si2.at fun o e=>sq2.extBut _ _ (FU (by omega)) e
  have zCo:HF q2 I l1 (i+1) b1:=zCp.at fun o e=>sq2.extBut _ _ (FU (by omega)) (sp2.extBut _ _ (FU (by omega)) e)
  refine A0 (ur (A4 (A4 ?_)));refine A0 (H9 to3 rfl ?_);refine A0 (wpAny_newTuple ?_);have hsz:q2.objs.size=s.heap.objs.size:=by rw[sq2.1,sp2.1,sq1.1,sp1.1,xh.1]
  have zlt:(I+4) < q2.objs.size:=C3 zz2;show B7 _ _ (X3 (.ref (I+4)) (.ref q2.objs.size) >>= _) _ _ _;refine A0 ?_;unfold X3
  have z6:sD (q2.push { cls:=.type "tuple", data:=.seq #[y1,y2] }) (I+4) (I+2) (I+3) .ellipsis:=A2 _ zz2
  refine A0 (S3 z6 (by simp) fun zDE zAe zAg=>?_);replace zAe:sD zDE (I+4) (I+2) (I+3) (S6 q2.objs.size):=zAe;refine S3 zAe (by simp) fun zAd zAC zAf=>?_
  replace zAC:sD zAd (I+4) (I+2) (I+3) (S6 q2.objs.size):=zAC;have up:∀(c:Nat) o,c≠(I+4)->q2.get? c=some o->zAd.get? c=some o:=fun c o c1 e=>zAf.extBut _ _ c1 (zAg.extBut _ _ c1 (A2 _ e))
  have zBV:RK zAd q2.objs.size y1 y2:=zAf.extBut _ _ (FU (by omega)) (zAg.extBut _ _ (FU (by omega)) (B4 _ rfl));have hz8:zAd.objs.size=q2.objs.size+1:=by rw[zAf.1,zAg.1,J6]
  rw[hsz] at zAC zBV hz8;refine A4 ⟨_,rfl,?_⟩;show Q (.ref q2.objs.size) _;rw[hsz];exact hQ zAd ⟨zAC,up _ _ (by omega) (k2 _ _ (by omega) (by omega) (by omega) ti0),⟨y1,y2,up _ _ (by omega) to3⟩,zCo.at fun o e=>up _ o (by omega) e,zCn.at fun o e=>up _ o (by omega) e⟩ zBV hz8 fun c o hc e=>up c o (by omega) (k2 c o (by omega) (by omega) (by omega) e)
theorem Tq{Q:Fin->A6->Prop}(hh:A.handled=none)(hz:yL s.heap I l1 l2 b1 b2 i .none)(xq:Ij s.heap l1 xV b1)(lt1:l1 < I)(xp:Ij s.heap l2 xZ b2)(lt2:l2 < I)(zAl:xV[i]?=none\/xZ[i]?=none)
    (hE:∀h' e,(∀(c:Nat) o,(c < I\/I+5<=c)->s.heap.get? c=some o->h'.get? c=some o)->(∃o,h'.get? e=some o/\o.cls=.type "StopIteration")->E (.ref e) { s with heap:=h' }) :
    B7 (C9 prog w) A (M8.«zip.__next__» ⟨[.ref (I+4)],[]⟩) Q E s:=by
  obtain⟨z0,ti0,⟨v1,v2,to0⟩,s10,s20⟩:=hz;show B7 _ _ (vV (.ref (I+4)) 2 >>= _) _ _ _;refine A0 (L7 z0 rfl (x:=.bool false) rfl ?_);show B7 _ _ (vV (.ref (I+4)) 3 >>= _) _ _ _;refine A0 (L7 z0 rfl (x:=.ref (I+2)) rfl ?_);refine A0 (H9 ti0 rfl ?_);show B7 _ _ (L9 (.ref (I+4)) >>= _) _ _ _;refine A0 ?_;unfold L9;refine A0 (L7 z0 rfl (x:=.none) rfl (A4 ?_));simp only[if_true];refine A0 (Q5 ?_);refine A0 (L7 z0 rfl (x:=.ref (I+3)) rfl ?_);refine A0 (S3 z0 (by simp) fun h₁ yV xh=>?_);replace yV:sD h₁ (I+4) (I+2) (I+3) .ellipsis:=yV;refine A0 ?_;simp only[j5,u0,l9,r8];have g0:∀(c:Nat) o,c≠(I+4)->s.heap.get? c=some o->h₁.get? c=some o:=fun c o c1 e=>xh.extBut _ _ c1 e
  have k0:∀(c:Nat) o,c≠(I+4)->c≠(I+3)->(c < I\/I<=c)->s.heap.get? c=some o->h₁.get? c=some o:=fun c o c1 _ _ e=>g0 c o c1 e
  have to1:RK h₁ (I+3) v1 v2:=g0 _ _ (by omega) to0;have zz0:sD h₁ (I+4) (I+2) (I+3) .ellipsis:=yV;refine A0 (A0 (qh ?_));show B7 _ _ (G9 (.ref I) >>= _) _ _ _;cases hx1:xV[i]? with
  | none =>
    refine A0 (Nn hh (s10.at fun o e=>k0 _ o (by omega) (by omega) (by omega) e) (xq.at fun o e=>k0 _ o (by omega) (by omega) (by omega) e) hx1 fun zG e yX he=>?_);obtain⟨oe,hoe,hce⟩:=he;have zN:sD zG (I+4) (I+2) (I+3) .ellipsis:=yX _ _ (FU (by omega)) zz0;have hez:e≠(I+4):=fun x=>by subst x;rw[zN] at hoe;cases hoe;simp at hce
    exact S3 zN (by simp) fun zF _ zO=>hE zF e (fun c o hc x=>zO.extBut _ _ (FU (by omega)) (yX _ _ (FU (by omega)) (k0 c o (by omega) (by omega) (by omega) x))) ⟨oe,zO.extBut _ _ hez hoe,hce⟩
  | some y1 =>
    refine A0 (Gq (s10.at fun o e=>k0 _ o (by omega) (by omega) (by omega) e) (xq.at fun o e=>k0 _ o (by omega) (by omega) (by omega) e) hx1 fun p1 si1 sp1=>A4 ?_);have u1:RK p1 (I+3) v1 v2:=sp1.extBut _ _ (FU (by omega)) to1;refine A0 (H9 u1 rfl ?_);refine A0 (Tv u1 fun q1 to2 sq1=>?_);have k1:∀(c:Nat) o,c≠(I+4)->c≠(I+3)->(c < I\/I+1<=c)->s.heap.get? c=some o->q1.get? c=some o:=fun c o c1 c2 c3 e=>sq1.extBut _ _ c2 (sp1.extBut _ _ (FU (by omega)) (k0 c o c1 c2 (by omega) e))
    have zz1:sD q1 (I+4) (I+2) (I+3) .ellipsis:=sq1.extBut _ _ (FU (by omega)) (sp1.extBut _ _ (FU (by omega)) zz0);refine A0 (ur (A4 ?_));refine A0 (A0 (qh ?_));show B7 _ _ (G9 (.ref (I+1)) >>= _) _ _ _;cases hx2:xZ[i]? with
    | none =>
      refine A0 (Nn hh (s20.at fun o e=>k1 _ o (by omega) (by omega) (by omega) e) (xp.at fun o e=>k1 _ o (by omega) (by omega) (by omega) e) hx2 fun zG e yX he=>?_);obtain⟨oe,hoe,hce⟩:=he;have zN:sD zG (I+4) (I+2) (I+3) .ellipsis:=yX _ _ (FU (by omega)) zz1;have hez:e≠(I+4):=fun x=>by subst x;rw[zN] at hoe;cases hoe;simp at hce
      exact S3 zN (by simp) fun zF _ zO=>hE zF e (fun c o hc x=>zO.extBut _ _ (FU (by omega)) (yX _ _ (FU (by omega)) (k1 c o (by omega) (by omega) (by omega) x))) ⟨oe,zO.extBut _ _ hez hoe,hce⟩
    | some y2 =>
      simp[hx1,hx2] at zAl
theorem GD{y1 y2:Value}{Q:Option Value->A6->Prop}(hz:yL s.heap I l1 l2 b1 b2 i .none)(xq:Ij s.heap l1 xV b1)(lt1:l1 < I)(xp:Ij s.heap l2 xZ b2)(lt2:l2 < I)(hx1:xV[i]?=some y1)(hx2:xZ[i]?=some y2)
    (hQ:∀h',yL h' I l1 l2 b1 b2 (i+1) (S6 s.heap.objs.size)->RK h' s.heap.objs.size y1 y2->h'.objs.size=s.heap.objs.size+1->(∀(c:Nat) o,(c < I\/I+5<=c)->s.heap.get? c=some o->h'.get? c=some o)->Q (some (.ref s.heap.objs.size)) { s with heap:=h' }) :
    B7 (C9 prog w) A (W3 (.ref (I+4))) Q E s:=by
  have hT:s.TypeIs (.ref (I+4)) "zip" := ⟨_,hz.z,rfl⟩
  unfold W3
  exact A0 (qi (J5 (name:=U7 "__next__") hT F.slot_zip_next
    (F9 F.slot_zip_next hT F.entry_zip_next (RM hz xq lt1 xp lt2 hx1 hx2 fun h' a1 a2 a3 a4=>A4 (hQ h' a1 a2 a3 a4)) (F.args_zip_next_1 _))))
theorem Ge{Q:Option Value->A6->Prop}(hh:A.handled=none)(hz:yL s.heap I l1 l2 b1 b2 i .none)(xq:Ij s.heap l1 xV b1)(lt1:l1 < I)(xp:Ij s.heap l2 xZ b2)(lt2:l2 < I)(zAl:xV[i]?=none\/xZ[i]?=none)
    (hQ:∀h',(∀(c:Nat) o,(c < I\/I+5<=c)->s.heap.get? c=some o->h'.get? c=some o)->Q none { s with heap:=h' }) :
    B7 (C9 prog w) A (W3 (.ref (I+4))) Q E s:=by
  have hT:s.TypeIs (.ref (I+4)) "zip" := ⟨_,hz.z,rfl⟩
  unfold W3
  refine A0 (qi (J5 (name:=U7 "__next__") hT F.slot_zip_next
    (F9 F.slot_zip_next hT F.entry_zip_next (Tq hh hz xq lt1 xp lt2 zAl fun h' e hk he=>?_) (F.args_zip_next_1 _))))
  obtain⟨o,ho,hc⟩:=he
  refine A0 (T9 (T := "StopIteration") (b:=true) ⟨o,ho,hc⟩ isSubtype_stop ?_)
  exact A4 (hQ _ hk)
abbrev JK(h:F7)(l1 l2:Nat)(b1 b2:Bool):F7:=h.push (Qa l1 b1)
abbrev PX(h:F7)(l1 l2:Nat)(b1 b2:Bool):F7:=(JK h l1 l2 b1 b2).push (Qa l2 b2)
abbrev PV(h:F7)(l1 l2:Nat)(b1 b2:Bool):F7:=(PX h l1 l2 b1 b2).push { cls:=.type "tuple", data:=.seq #[.ref h.objs.size,.ref (JK h l1 l2 b1 b2).objs.size] }
abbrev PU(h:F7)(l1 l2:Nat)(b1 b2:Bool):F7:=(PV h l1 l2 b1 b2).push { cls:=.type "tuple", data:=.seq #[.none,.none] }
abbrev HG(h:F7)(l1 l2:Nat)(b1 b2:Bool):F7:=(PU h l1 l2 b1 b2).push { cls:=.type "zip", data:=.fields #[.none,.bool false,.bool false,.ref (PX h l1 l2 b1 b2).objs.size,.ref (PV h l1 l2 b1 b2).objs.size] }
theorem OR(l1 l2:Nat)(b1 b2:Bool)(xV xZ:Array Value) :
    Meets (M8.«zip.__new__» ⟨[.type "zip", .ref l1,.ref l2],[]⟩) (fun _ R s=>Ij s.heap l1 xV b1/\Ij s.heap l2 xZ b2 /\
      R (.ok (.ret (.ref (PU s.heap l1 l2 b1 b2).objs.size))) { s with heap:=HG s.heap l1 l2 b1 b2 }):=
  .of_wp fun prog w A R s h=>by
    obtain⟨hp,g,d,tk,os⟩:=s;obtain⟨xq,xp,h⟩:=h;have zAT:=sub_zip;have hL1:Ij (uu ⟨hp,g,d,tk,os⟩) l1 xV b1:=xq.at fun o e=>e
    have hL2:Ij (uu ⟨(JK hp l1 l2 b1 b2),g,d,tk,os⟩) l2 xZ b2:=xp.at fun o e=>A2 _ e
    wp_walk using JT hL1,JT hL2
    exact⟨_,rfl,h⟩
theorem Sn{Q:Value->A6->Prop}(xq:Ij s.heap l1 xV b1)(xp:Ij s.heap l2 xZ b2)
    (h:∀h',yL h' s.heap.objs.size l1 l2 b1 b2 0 .none->h'.objs.size=s.heap.objs.size+5->(∀(c:Nat) o,s.heap.get? c=some o->h'.get? c=some o)->Q (.ref (s.heap.objs.size+4)) { s with heap:=h' }) :
    B7 (C9 prog w) A (call (.type "zip") [.ref l1,.ref l2]) Q E s:=by
  refine callType_new F.called_zip (by decide) (F.typeCall_zip_2 _ _) (F.newCall_zip_2 _ _) (fun obj=>F.args_object_init_3 obj _ _) F.entry_zip_new (OR l1 l2 b1 b2 xV xZ) ⟨xq,xp,?_⟩;have z1:(JK s.heap l1 l2 b1 b2).objs.size=s.heap.objs.size+1:=by exact J6 ..
  have z2:(PX s.heap l1 l2 b1 b2).objs.size=s.heap.objs.size+2:=by rw[J6,z1]
  have z3:(PV s.heap l1 l2 b1 b2).objs.size=s.heap.objs.size+3:=by rw[J6,z2]
  have z4:(PU s.heap l1 l2 b1 b2).objs.size=s.heap.objs.size+4:=by rw[J6,z3]
  have z5:(HG s.heap l1 l2 b1 b2).objs.size=s.heap.objs.size+5:=by rw[J6,z4]
  have gz:(HG s.heap l1 l2 b1 b2).get? (PU s.heap l1 l2 b1 b2).objs.size=some _:=B4 _ rfl;have gto:(HG s.heap l1 l2 b1 b2).get? (PV s.heap l1 l2 b1 b2).objs.size=some _:=(A2 _ (B4 _ rfl));have gti:(HG s.heap l1 l2 b1 b2).get? (PX s.heap l1 l2 b1 b2).objs.size=some _:=(A2 _ (A2 _ (B4 _ rfl)));have gs1:HF (HG s.heap l1 l2 b1 b2) s.heap.objs.size l1 0 b1:=HF.at (HF.new (h:=s.heap)) fun o e=>(A2 _ (A2 _ (A2 _ (A2 _ e))))
  have gs2:HF (HG s.heap l1 l2 b1 b2) (JK s.heap l1 l2 b1 b2).objs.size l2 0 b2:=HF.at (HF.new (h:=(JK s.heap l1 l2 b1 b2))) fun o e=>(A2 _ (A2 _ (A2 _ e)))
  show _/\_;rw[z2,z3,z4] at gz;rw[z3] at gto;rw[z1,z2] at gti;rw[z1] at gs2;rw[z4];exact⟨⟨_,gz,rfl⟩,h _ ⟨gz,gti,⟨_,_,gto⟩,gs1,gs2⟩ z5 fun c o x=>(A2 _ (A2 _ (A2 _ (A2 _ (A2 _ x)))))⟩
end
theorem bu{b:Nat}(h:¬b∈([(I+4),(I+2),(I+3),I,(I+1)]:List Nat)):b < I\/I+5<=b:=by simp only[D0,G6,or_false,not_or] at h;omega
theorem km{b:Nat}(h:b∈([(I+4),(I+2),(I+3),I,(I+1)]:List Nat)):I<=b/\b < I+5:=by simp only[D0,G6,or_false] at h;omega
def YC(K:W.Frag)(a1 a2:Nat)(b1 b2:Bool):It:=
 ⟨fun i H=>∃xV xZ y1 y2,JG K H a1 xV b1/\xV[i]?=some y1/\JG K H a2 xZ b2/\xZ[i]?=some y2,fun i H x H'=>∃p y1 y2,H p=none/\x=.ref p/\H'=upd H p (.tup [y1,y2])/\(∀xs,JG K H a1 xs b1->xs[i]?=some y1)/\(∀xs,JG K H a2 xs b2->xs[i]?=some y2),fun i H=>∃xV xZ,JG K H a1 xV b1/\JG K H a2 xZ b2/\(xV.length<=i\/xZ.length<=i)⟩
variable {pos:Pos}
theorem RO{P:E5}{w:G3}{K:W.Frag}{elts:List Expr}{x1}(I a1 a2:Nat)(b1 b2:Bool)(lt1:a1 < I)(lt2:a2 < I):Turn P w K (.Tuple elts x1 pos) (YC K a1 a2 b1 b2) [(I+4),(I+2),(I+3),I,(I+1)] (I+4) (fun i h=>yL h I a1 a2 b1 b2 i .none) where
 mem:=by simp
 obj:=fun i h st b hb=>by
  obtain⟨z0,ti0,⟨v1,v2,to0⟩,s10,s20⟩:=st;simp only[D0,G6,or_false] at hb;rcases hb with rfl | rfl | rfl | rfl | rfl
  ·exact⟨_,z0,fun v z=>by cases z⟩
  ·exact⟨_,ti0,fun v z=>by cases z⟩
  ·exact⟨_,to0,fun v z=>by cases z⟩
  ·exact s10.obj
  ·exact s20.obj
 keep:=fun i h h' st k=>st.at fun c o c1 c2 e=>k c (by show c∈([(I+4),(I+2),(I+3),I,(I+1)]:List Nat);simp only[D0,G6,or_false];omega) o e
 item:=by
  intro X hP hw hK hc i pins s σ H E I1 hf st hg;subst hP hw hK;obtain⟨ws1,ws2,y1,y2,hq1,hy1,hq2,hy2⟩:=hg;obtain⟨zBm,rv1,p1,xq⟩:=I1.sqB hq1;obtain⟨u1,hu1,ru1⟩:=rv1.get hy1;obtain⟨wg,rv2,p2,xp⟩:=I1.sqB hq2;obtain⟨u2,hu2,ru2⟩:=rv2.get hy2;refine GD st p1 lt1 p2 lt2 (y1:=u1) (y2:=u2) (by simpa using hu1) (by simpa using hu2) fun h1 st1 t1 z1 k1=>?_
  refine⟨_,rfl,wpAny_letOwnedTupleGo_zip (s:={ s with heap:=h1 }) st1.z fun h2 e2 sb=>?_⟩;have hzl:(I+4) < s.heap.objs.size:=C3 st.z;have yd:=I1.wb.fresh (B0 s.heap.objs.size)
  have I2:Inv X pins σ (upd H s.heap.objs.size (.tup [y1,y2])) { s with heap:=s.heap.push { cls:=.type "tuple", data:=.seq #[u1,u2] },toks:=s.toks }:=
   I1.laid (fun b o q=>A2 _ q) (B0 _) (show AY X.prog X.w _ _ _ (.tup [y1,y2]) from⟨by show 2<=sizeLine;decide,[u1,u2],(.cons ru1 (.cons ru2 .nil)),Gi.new _ _⟩)
  have hb:∀b∈([(I+4),(I+2),(I+3),I,(I+1)]:List Nat),I<=b/\b < I+5:=fun b hb=>km hb
  have zx:∀b∈([(I+4),(I+2),(I+3),I,(I+1)]:List Nat),we X pins (upd H s.heap.objs.size (.tup [y1,y2])) b:=fun b hbb=>by
   obtain⟨f0,r⟩:=hf b hbb;refine⟨?_,r⟩;rw[AB (C8 (C4 (hb b hbb).2 (by omega)))];exact f0
  have I3:Inv X pins σ (upd H s.heap.objs.size (.tup [y1,y2])) { s with heap:=h2,toks:=s.toks }:=by
   refine Inv.yw (s:={ s with heap:=s.heap.push { cls:=.type "tuple", data:=.seq #[u1,u2] },toks:=s.toks }) (h':=h2) (t':=s.toks) (ch:=[(I+4),(I+2),(I+3),I,(I+1)]) I2 (fun b o hbb q=>?_) zx
   have q:(s.heap.push { cls:=.type "tuple", data:=.seq #[u1,u2] }).get? b=some o:=q
   have hbe:b≠(I+4):=fun z=>hbb (by simp[z])
   refine(sb.2 b hbe).trans ?_
   by_cases hbs:b=s.heap.objs.size
   ·subst hbs;rw[B4 _ rfl] at q;rw[<- q];exact t1
   ·rw[Z6 _ _ _ hbs] at q;exact k1 b o (bu hbb) q
  refine⟨.ref s.heap.objs.size,_,I3,rfl,⟨_,y1,y2,yd,rfl,rfl,fun zs hz=>by rw[I1.y6 hz hq1];exact hy1,fun zs hz=>by rw[I1.y6 hz hq2];exact hy2⟩,?_,fun b hbb=>(zx b hbb).1⟩;exact⟨e2,sb.extBut _ _ (FU (by omega)) st1.ti,let ⟨v1,v2,e⟩:=st1.to;⟨v1,v2,sb.extBut _ _ (FU (by omega)) e⟩,st1.s1.at fun o e=>sb.extBut _ _ (FU (by omega)) e,st1.s2.at fun o e=>sb.extBut _ _ (FU (by omega)) e⟩
 done:=by
  intro X hP hw hK hc i pins s σ H E I1 hf st hg;subst hP hw hK;obtain⟨ws1,ws2,hq1,hq2,zAl⟩:=hg;obtain⟨zBm,rv1,p1,xq⟩:=I1.sqB hq1;have le1:=rv1.length;obtain⟨wg,rv2,p2,xp⟩:=I1.sqB hq2;have le2:=rv2.length;have zCX:zBm.toArray[i]?=none\/wg.toArray[i]?=none:=by
   rcases zAl with h | h
   ·exact .inl (by simp;omega)
   ·exact .inr (by simp;omega)
  refine Ge (I1.ok.hd hc) st p1 lt1 p2 lt2 zCX fun h' k=>⟨rfl,?_⟩
  refine Inv.yw (t':=s.toks) (ch:=[(I+4),(I+2),(I+3),I,(I+1)]) I1 (fun b o hbb e=>k b o (bu hbb) e) hf
 self:=fun _ _ _ _ _ st h=>uc st.z h
section
variable {X:Cx} {elts:List Expr} {x1} {xj:Pos}
abbrev kq(K:W.Frag)(ta:TA):TI:=fun σ H R=>ta σ H fun vs H1=>∃a1 a2 b1 b2,vs=[.ref a1,.ref a2]/\(∃xs,JG K H1 a1 xs b1)/\(∃xs,JG K H1 a2 xs b2)/\R (YC K a1 a2 b1 b2) H1
theorem ZO(K:W.Frag){e1 e2:Expr}{ta:TA}{p:Pos}(hg:Gl X "zip")(hm:X.mg "zip" = none)(ha:PA X [e1,e2] ta)(hK:X.K=K:=by rfl)(hs:E6 (e1::[e2]) X.env=(false,Q7 e1 X.env)::E6 [e2] X.env:=by rfl)(yJ:(T5 pos (E6 [e2] X.env)).any (·.1)=false:=by rfl):PI X (.Tuple elts x1 xj) (.Call (.Name "zip" p) [e1,e2] [] pos) (kq K ta):=by
 subst hK;intro pins s σ H R I h;refine Call_ (DT I hg hm PyProof.Rows.Boot.«zip» (K3 (BB (ha pos pins s σ H _ I h) fun us s1 ⟨vs,H1,I1,r1,q1⟩=>?_) hs yJ));obtain⟨a1,a2,b1,b2,rfl,⟨ws1,hq1⟩,⟨ws2,hq2⟩,q⟩:=q1;obtain⟨zBm,rv1,p1,xq⟩:=I1.sqB hq1;obtain⟨wg,rv2,p2,xp⟩:=I1.sqB hq2;have rr:=r1;clear r1;cases rr with
 | cons r1 w1 =>
  cases w1 with
  | cons r2 w2 =>
   cases w2;cases r1;cases r2;refine Sn p1 p2 fun h' st hsz hk=>?_
   refine uc (s:={ s1 with heap:=h' }) st.z ?_;refine⟨s1.heap.objs.size+4,[(s1.heap.objs.size+4),(s1.heap.objs.size+2),(s1.heap.objs.size+3),s1.heap.objs.size,(s1.heap.objs.size+1)],fun i h=>yL h s1.heap.objs.size a1 a2 b1 b2 i .none,YC X.K a1 a2 b1 b2,H1,rfl,I1.kept (t':=s1.toks) hk,RO s1.heap.objs.size a1 a2 b1 b2 xq xp,st,fun b hb=>?_,q⟩;have hb':s1.heap.objs.size<=b:=(km (I:=s1.heap.objs.size) hb).1;exact I1.wc hb' (I1.wb.fresh hb')
end
noncomputable def pz(x:Str):It:=⟨fun i H=>∃c,x.cps[i]?=some c,fun i H v H'=>H'=H/\∃c,x.cps[i]?=some c/\v=.str ⟨#[c]⟩,fun i H=>x.cps[i]?=none⟩
section
variable {X:Cx}
abbrev pC(K:W.Frag)(tl:TE):TI:=fun σ H R=>tl σ H fun x H1=>(∃a xs,x=.ref a/\((Ca K H1 a xs/\R (mV K a) H1)\/(DL K H1 a xs/\R (nB K a) H1)))\/∃z,x=.str z/\R (pz z) H1
end
theorem Draws.sq{prog:E5}{w:G3}{A:F3}(hh:A.handled=none)(it l:B5)(xW:l≠it)(items:Array Value)(b:Bool) :
    Draws prog w A it [it,l] items.size (fun i v=>items[i]?=some v) (fun i h=>HF h it l i b/\Ij h l items b) where
  live:=fun _ _ st=>let ⟨o,ho,_⟩:=st.1.obj;⟨o,ho⟩
  frame:=fun _ _ _ st hk=>⟨st.1.at fun o e=>hk it (by simp) o e,st.2.at fun o e=>hk l (by simp) o e⟩
  item:=fun i s Q E hi st hQ=>by
    refine Gq st.1 st.2 (x:=items[i]) (by simp[hi]) fun h' zDT hs'=>?_
    exact hQ _ h' s.toks (by simp[hi]) ⟨zDT,st.2.at fun o e=>hs'.extBut _ _ xW e⟩ hs'
  done:=fun s Q E st hE=>Nn hh st.1 st.2 (by simp) hE
def bL(K:W.Frag)(a:B5)(b:Bool)(n:Nat):It:=
 ⟨fun i H=>∃xs x,JG K H a xs b/\xs.length=n/\xs[i]?=some x,fun i H x H'=>∃p y,H p=none/\x=.ref p/\H'=upd H p (.tup [.int i,y])/\∀xs,JG K H a xs b->xs[i]?=some y,fun i H=>∃xs,JG K H a xs b/\xs.length=n/\n<=i⟩
theorem Nc{P:E5}{w:G3}{K:W.Frag}{elts:List Expr}{x1}(a e it:B5)(b:Bool)(n:Nat)(xW:e≠it)(hae:a≠e)(hai:a≠it):Turn P w K (.Tuple elts x1 pos) (bL K a b n) [e,it] e (fun i h=>(∃old,IsEnum h e it i old)/\HF h it a i b/\i<=n) where
 mem:=by simp
 obj:=fun i h st c hb=>by
  obtain⟨⟨old,he⟩,hi,xS⟩:=st;rcases D0.mp hb with z | z
  ·subst z;exact⟨_,he,fun v z=>by cases z⟩
  ·have z:=D4.mp z;subst z;exact hi.obj
 keep:=fun i h h' st k=>by
  obtain⟨⟨old,he⟩,hi,xS⟩:=st;exact⟨⟨old,k e (by simp) _ he⟩,hi.at fun o q=>k it (by simp) o q,xS⟩
 item:=by
  intro X hP hw hK hc i pins s σ H E I hf st hg;subst hP hw hK;obtain⟨xs,x,hq,hxn,hx⟩:=hg;obtain⟨⟨old,he⟩,hi,xS⟩:=st;obtain⟨its,rv,p,hz⟩:=I.sqB hq;obtain⟨u,hu,ru⟩:=rv.get hx;have hil:i < its.toArray.size:=by have:=(C0.mp hu).1;simpa using this
  refine wpAny_pyNext_enum_itemD (Draws.sq (A:=X.A.in1) (I.ok.hd hc) it a hai its.toArray b) he ⟨hi,p⟩ hil xW (by simp[xW,hae.symm]) fun x' h1 tk e1 o1 i1 t1 z1 k1=>?_
  have ex:x'=u:=by
   have e1:its.toArray[i]?=some x':=e1;rw[List.getElem?_toArray,hu] at e1;exact(D5 e1).symm
  subst ex;refine⟨_,rfl,wpAny_letOwnedTupleGo_enum (s:={ s with heap:=h1,toks:=tk+1 }) o1 fun h2 e2 sb=>?_⟩;have hel:e < s.heap.objs.size:=C3 he;have hil:it < s.heap.objs.size:=by obtain⟨o,q,_⟩:=hi.obj;exact C3 q
  have yd:=I.wb.fresh (B0 s.heap.objs.size)
  have I1:Inv X pins σ (upd H s.heap.objs.size (.tup [.int i,x])) { s with heap:=s.heap.push { cls:=.type "tuple", data:=.seq #[.int i tk,x'] },toks:=tk+1 }:=
   I.laid (fun b o q=>A2 _ q) (B0 _) (show AY X.prog X.w _ _ _ (.tup [.int i,x]) from⟨by show 2<=sizeLine;decide,[.int i tk,x'],.cons ⟨_,rfl⟩ (.cons ru .nil),Gi.new _ _⟩)
  have zx:∀b∈[e,it],we X pins (upd H s.heap.objs.size (.tup [.int i,x])) b:=fun b hb=>by
   obtain⟨f0,r⟩:=hf b hb;refine⟨?_,r⟩;have hbl:b≠s.heap.objs.size:=by
    rcases D0.mp hb with z | z
    ·rw[z];exact C8 hel
    ·rw[D4.mp z];exact C8 hil
   rw[AB hbl];exact f0
  have I2:Inv X pins σ (upd H s.heap.objs.size (.tup [.int i,x])) { s with heap:=h2,toks:=tk+1 }:=by
   refine Inv.yw (s:={ s with heap:=s.heap.push { cls:=.type "tuple", data:=.seq #[.int i tk,x'] },toks:=tk+1 }) (h':=h2) (t':=tk+1) (ch:=[e,it]) I1 (fun b o hb q=>?_) zx
   have q:(s.heap.push { cls:=.type "tuple", data:=.seq #[.int i tk,x'] }).get? b=some o:=q
   have hbe:b≠e:=fun z=>hb (by simp[z])
   have hbi:b≠it:=fun z=>hb (by simp[z])
   refine(sb.2 b hbe).trans ?_
   by_cases hbs:b=s.heap.objs.size
   ·subst hbs;rw[B4 _ rfl] at q;rw[<- q];exact t1
   ·refine k1 b o hbe hbi ?_;rw[Z6 _ _ _ hbs] at q;exact q
  refine⟨.ref s.heap.objs.size,_,I2,rfl,⟨_,x,yd,rfl,rfl,fun ys hy=>by rw[I.y6 hy hq];exact hx⟩,⟨⟨x',by simpa using e2⟩,?_,?_⟩,fun b hb=>(zx b hb).1⟩
  ·exact i1.1.at fun o q=>(sb.2 it xW.symm).trans q
  ·have:=(C0.mp hx).1;omega
 done:=by
  intro X hP hw hK hc i pins s σ H E I hf st hg;subst hP hw hK;obtain⟨xs,hq,hx,hx2⟩:=hg;obtain⟨⟨old,he⟩,hi,xS⟩:=st;obtain⟨its,rv,p,hz⟩:=I.sqB hq;obtain⟨f0,f1,f2,f3,f4,f5⟩:=hf it (by simp);have hl:=rv.length;have ei:its.toArray.size=i:=by simp;omega
  exact wpAny_pyNext_enum_endD (Draws.sq (A:=X.A.in1) (I.ok.hd hc) it a hai its.toArray b) he (by rw[ei];exact⟨hi,p⟩) fun h' eb=>⟨rfl,I.turned (t':=s.toks) (fun b o hb e=>eb b o hb e) f0 f1 f3 f4 f5⟩
 self:=fun _ _ _ _ _ st h=>uB st.1.choose_spec h
theorem MH(l:B5)(items:Array Value)(n:Nat)(xH:Option B5)(sl:Array (Option Value)) :
    Meets (M8.«enumerate.__new__» ⟨[.type "enumerate", .ref l],[]⟩) (fun _ R s=>s.heap.get? l=some { cls:=.type "tuple", dict:=xH,data:=.seq items n,slots:=sl } /\
      R (.ok (.ret (.ref (s.heap.push { cls:=.type "tuple_iterator", data:=.fields #[.ref l,.int 0 0] }).objs.size)))
        { s with heap:=(s.heap.push { cls:=.type "tuple_iterator", data:=.fields #[.ref l,.int 0 0] }).push { cls:=.type "enumerate", data:=.fields #[.none,.bool false,.ref s.heap.objs.size,S6 0,.none,.none] } }):=
  .of_wp fun prog w A R s h=>by
    obtain⟨hp,g,d,tk,os⟩:=s;obtain⟨hl,h⟩:=h;have zAT:=sub_enumerate;have hL:v8 (uu ⟨hp,g,d,tk,os⟩) l items:=⟨_,hl,rfl,n,rfl⟩
    wp_walk using O3 hl
    refine wpAny_stack_any fun st=>A4 ?_
    split
    · rename_i c _ _ _ _ _
      cases(c == G2 "enumerate")
      · wp_walk using O3 hl,O2 hL
        exact⟨_,rfl,h⟩
      · wp_walk using O3 hl,O2 hL
        exact⟨_,rfl,h⟩
    · wp_walk using O3 hl,O2 hL
      exact⟨_,rfl,h⟩
section
variable {prog:E5} {w:G3} {A:F3} {E:Value->A6->Prop} {s:A6}
theorem Ov{Q:Value->A6->Prop}(hL:Ij s.heap l items b)
    (h:∀h',IsEnum h' (s.heap.objs.size+1) s.heap.objs.size 0 .none->HF h' s.heap.objs.size l 0 b->h'.objs.size=s.heap.objs.size+2 ->
      (∀b o,s.heap.get? b=some o->h'.get? b=some o)->Q (.ref (s.heap.objs.size+1)) { s with heap:=h' }) :
    B7 (C9 prog w) A (call (.type "enumerate") [.ref l]) Q E s:=by
  cases b with
  | false=>exact call_enumerate_list hL h
  | true =>
    obtain⟨⟨c,xH,dt,sl⟩,hl,hc,n,hd⟩:=hL
    replace hc:c=.type "tuple" := hc
    replace hd:dt=.seq items n:=hd;subst hc hd;refine callType_new F.called_enumerate (by decide) (F.typeCall_enumerate_1 _) (F.newCall_enumerate_1 _) (fun obj=>F.args_object_init_2 obj _) F.entry_enumerate_new
      (MH l items n xH sl) ⟨hl,?_⟩
    have hz:(s.heap.push { cls:=.type "tuple_iterator", data:=.fields #[.ref l,.int 0 0] }).objs.size=s.heap.objs.size+1:=J6 ..
    show _/\_;rw[hz]
    have he:IsEnum ((s.heap.push { cls:=.type "tuple_iterator", data:=.fields #[.ref l,.int 0 0] }).push
        { cls:=.type "enumerate", data:=.fields #[.none,.bool false,.ref s.heap.objs.size,S6 0,.none,.none] }) (s.heap.objs.size+1) s.heap.objs.size 0 .none:=by
      have:=B4 (s.heap.push { cls:=.type "tuple_iterator", data:=.fields #[.ref l,.int 0 0] })
        (o:={ cls:=.type "enumerate", data:=.fields #[.none,.bool false,.ref s.heap.objs.size,S6 0,.none,.none] }) rfl
      rw[hz] at this;exact this
    refine⟨⟨_,he,rfl⟩,h _ he ⟨_,A2 _ (B4 _ rfl),rfl,rfl⟩ (by rw[J6,hz]) fun b o x=>A2 _ (A2 _ x)⟩
end
section
variable {X:Cx} {elts:List Expr} {x1} {xj:Pos}
abbrev gW(K:W.Frag)(ta:TA):TI:=fun σ H R=>ta σ H fun vs H1=>∃a b xs,vs=[.ref a]/\JG K H1 a xs b/\R (bL K a b xs.length) H1
theorem VO(K:W.Frag){a:Expr}{ta:TA}{p:Pos}(hg:Gl X "enumerate")(hm:X.mg "enumerate" = none)(ha:PA X [a] ta)(hK:X.K=K:=by rfl)(hs:E6 [a] X.env=[(false,Q7 a X.env)]:=by rfl):PI X (.Tuple elts x1 xj) (.Call (.Name "enumerate" p) [a] [] pos) (gW K ta):=by
 subst hK;intro pins s σ H R I h;refine Call_ (DT I hg hm PyProof.Rows.Boot.«enumerate» (K3 (BB (ha pos pins s σ H _ I h) fun us s1 ⟨vs,H1,I1,r1,q1⟩=>?_) hs rfl));obtain⟨l,b,xs,e,hq,q⟩:=q1;subst e;cases r1 with
 | cons r rr =>
  cases rr;cases r;obtain⟨its,rv,pl,hz⟩:=I1.sqB hq;refine Ov pl fun h' hE hI hsz hk=>?_
  refine uB (s:={ s1 with heap:=h' }) hE ?_;refine⟨s1.heap.objs.size+1,[s1.heap.objs.size+1,s1.heap.objs.size],_,_,H1,rfl,I1.kept (t':=s1.toks) hk,Nc l _ _ b xs.length (ud _) (C8 (N5 hz)) (C8 hz),⟨⟨_,hE⟩,hI,E7 _⟩,fun c hb=>?_,q⟩;have hb':s1.heap.objs.size<=c:=by
   rcases D0.mp hb with z | z
   ·rw[z];exact U5 _
   ·rw[D4.mp z];exact B0 _
  exact I1.wc hb' (I1.wb.fresh hb')
end
section
variable {X:Cx} {p1 p2 zAP wy:Pos} {es:List Expr} {e:Expr} {ta:TA}
abbrev UG(ta:TA):TE:=fun σ H Q=>ta σ H fun vs H1=>∃(i j:Int),(vs=[.int j]/\i=0\/vs=[.int i,.int j])/\(-(2 ^ 62)<=i/\i < 2 ^ 62/\-(2 ^ 62)<=j/\j < 2 ^ 62)/\(j - i).toNat<=1000000/\∀l,H1 l=none->Q (.ref l) (upd H1 l (.lst ((B3 (j - i).toNat).map fun k=>.int (i+(k:Nat)))))
end
end L2
namespace R
open PySem L2
noncomputable def items:Dv->Option (List Dv)
 | .tup ds=>some ds
 | .lst ds=>some ds
 | .xQ ns=>some (ns.map .int)
 | _=>none
def Qo(f:Ev Dv):Ev (List Dv):=fun R m k=>f R m fun d m'=>(items d).bind fun ds=>k ds m'
section
variable {K:W.Frag} {g:G} {H:Hp}
theorem AI{o:Nat}{i:Int}{v:V}{P:Fp}(h:Rep K g H o (.int i) v P):v=.int i:=by unfold Rep at h;exact h.1
theorem Be{o:Nat}{i:Int}:Rep K g H o (.int i) (.int i) wX:=by unfold Rep;exact⟨rfl,fun _ z=>z⟩
theorem YK{a:B5}{ds:List Dv}(h:Rep K g H 0 (.lst ds) (.ref a) wX):Yl K (mV K a) ds g H:=by
 intro g2 H2 st;have h2:=st.rep h;unfold Rep at h2;obtain⟨b,vs,P',e,h1,h2,_⟩:=h2;cases e;have sq:Ca K H2 a vs:=.inl (.inl h1.1);refine⟨fun i d e=>?_,fun i hi=>⟨vs,sq,by rw[<- h2.len];exact hi⟩⟩;obtain⟨v,P,ev,rv,_⟩:=h2.get e;refine⟨⟨vs,v,sq,ev⟩,fun x H3 y=>?_⟩;obtain⟨rfl,y⟩:=y;have:=y vs sq;rw[ev] at this;cases this;exact Ac.old rv.z
theorem dF{a:B5}{ds:List Dv}(h:Rep K g H 0 (.tup ds) (.ref a) wX):Yl K (nB K a) ds g H:=by
 intro g2 H2 st;have h2:=st.rep h;unfold Rep at h2;obtain⟨b,vs,e,h1,h2⟩:=h2;cases e;have sq:DL K H2 a vs:=.inl (.inl h1);refine⟨fun i d e=>?_,fun i hi=>⟨vs,sq,by rw[<- h2.len];exact hi⟩⟩;obtain⟨v,P,ev,rv,_⟩:=h2.get e;refine⟨⟨vs,v,sq,ev⟩,fun x H3 y=>?_⟩;obtain⟨rfl,y⟩:=y;have:=y vs sq;rw[ev] at this;cases this;exact Ac.old rv.z
theorem dG{a:B5}{ns:List Int}(h:Rep K g H 0 (.xQ ns) (.ref a) wX):Yl K (mV K a) (ns.map .int) g H:=by
 intro g2 H2 st;have h2:=st.rep h;unfold Rep at h2;obtain⟨⟨b,e,h1⟩,_⟩:=h2;cases e;have sq:=h1.sq;refine⟨fun i d e=>?_,fun i hi=>⟨_,sq,by rw[A8] at hi ⊢;exact hi⟩⟩;rw[C5] at e;cases q:ns[i]? with
 | none=>rw[q] at e;cases e
 | some k =>
  rw[q] at e;cases e;refine⟨⟨_,.int k,sq,by rw[C5,q];rfl⟩,fun x H3 y=>?_⟩;obtain⟨rfl,y⟩:=y;have:=y _ sq;rw[C5,q] at this;cases this;exact Ac.old Be
theorem LS{lo:Int}{n:Nat}:Yl K (ib lo n) ((B3 n).map fun k=>.int (lo+(k:Nat))) g H:=by
 intro g2 H2 st;refine⟨fun i d e=>?_,fun i hi=>by rw[A8,K4] at hi;exact hi⟩;obtain⟨hi,rfl⟩:=Ez e;refine⟨hi,fun x H3 y=>?_⟩;obtain⟨rfl,rfl⟩:=y;exact Ac.old Be
end
section
variable {X:Cx} {tg e a b:Expr} {es:List Expr} {f:Ev Dv} {p pos:Pos} {Γ Γ':Gm} {js:List Nat} {as:List Ar}
theorem ko(h:PE X e (tE X.K Γ 0 Γ' js f)):PI X tg e (tI X.K Γ Γ' js (Qo f)):=PI.imp (fF h) fun σ H Q q=>by
 obtain⟨g,m,P,r,R,k,res,e,q⟩:=q;refine⟨g,m,P,r,R,_,res,e,fun d m' g' P' Pv v H' hk ag s rv r1 n=>?_⟩;obtain⟨ds,e1,e2⟩:=wV hk;have s':Step g P H g' P' H':=s.less fun _ z=>.inl z
 have rz:=rv.z;cases d with
 | tup es =>
  cases e1;have h0:=rz;unfold Rep at h0;obtain⟨a,vs,rfl,h1,h2⟩:=h0;exact⟨a,vs,rfl,.inr ⟨.inl (.inl h1),q _ m' g' P' H' _ e2 ag s' r1 (dF rz)⟩⟩
 | lst es =>
  cases e1;have h0:=rz;unfold Rep at h0;obtain⟨a,vs,P1,rfl,h1,h2,_⟩:=h0;exact⟨a,vs,rfl,.inl ⟨.inl (.inl h1.1),q _ m' g' P' H' _ e2 ag s' r1 (YK rz)⟩⟩
 | xQ ns =>
  cases e1;have h0:=rz;unfold Rep at h0;obtain⟨⟨a,rfl,h1⟩,_⟩:=h0;exact⟨a,_,rfl,.inl ⟨h1.sq,q _ m' g' P' H' _ e2 ag s' r1 (dG rz)⟩⟩
 | _=>cases e1
def TZ(K:W.Frag)(p:List Dv->Option (List Dv))(r:List V->Hp->(It->Hp->Prop)->Prop):Prop:=∀g H ds vs its Q,Zd g H->AA K g H 0 ds vs wX->p ds=some its->(∀J H',PP H H'->Yl K J its g H'->Q J H')->r vs H Q
def cK(p:List Dv->Option (List Dv))(fa:Ev (List Dv)):Ev (List Dv):=fun R m k=>fa R m fun ds m'=>(p ds).bind fun its=>k its m'
abbrev cD(r:List V->Hp->(It->Hp->Prop)->Prop)(ta:TA):TI:=fun σ H Q=>ta σ H fun vs H1=>r vs H1 Q
theorem Yd{K:W.Frag}{pr:List Dv->Option (List Dv)}{r:List V->Hp->(It->Hp->Prop)->Prop}(hp:TZ K pr r)(c:AE Γ as Γ' js)(he:SX as=true){σ:St}{H:Hp}{Q:It->Hp->Prop}(h:tI K Γ Γ' js (cK pr (Ab as)) σ H Q):cD r (Bt K as) σ H Q:=by
 obtain⟨g,m,P,rl,R',k,res,e,q⟩:=h;refine AU as rl c e fun ds m' g' P' vs H1 hk ag s ar r1=>?_
 obtain⟨its,e1,e2⟩:=wV hk;exact hp g' H1 ds vs its Q r1.zd (ar.zAO he) e1 fun J H2 sm yl=>q its m' g' P' H2 J e2 ag ((s.trans (Step.same sm)).less fun _ z=>z) (r1.same sm) yl
noncomputable def small(i:Int):Bool:=-1000000000<=i && i<=1000000000
theorem En{i:Int}(h:small i=true):-1000000000<=i/\i<=1000000000:=by
 unfold small at h;rw[A5,decide_eq_true_eq,decide_eq_true_eq] at h;exact h
def Bq(ds:List Dv):Option (List Dv):=match ds with
 | [.int n]=>bif small n then some ((B3 n.toNat).map fun k=>.int (0+(k:Nat))) else none
 | _=>none
def Kb(ds:List Dv):Option (List Dv):=match ds with
 | [.int i,.int n]=>bif small i && small n then some ((B3 (n - i).toNat).map fun k=>.int (i+(k:Nat))) else none
 | _=>none
def jr:List V->Hp->(It->Hp->Prop)->Prop:=fun vs H1 R=>∃j:Int,vs=[.int j]/\-(2 ^ 62)<=j/\j < 2 ^ 62/\R (ib 0 j.toNat) H1
def jq:List V->Hp->(It->Hp->Prop)->Prop:=fun vs H1 R=>∃i j:Int,vs=[.int i,.int j]/\(-(2 ^ 62)<=i/\i < 2 ^ 62/\-(2 ^ 62)<=j/\j < 2 ^ 62)/\R (ib i (j - i).toNat) H1
theorem UW{K:W.Frag}:TZ K Bq jr:=fun g H ds vs its Q zd ra e q=>by
 unfold Bq at e;split at e
 ·rename_i n;cases c:small n with
  | false=>rw[c] at e;cases e
  | true =>
   rw[c] at e;cases e;have hn:=En c;unfold AA at ra;obtain⟨v,vr,_,_,rfl,h1,h2,_⟩:=ra;unfold AA at h2;obtain⟨rfl,_⟩:=h2;rw[AI h1];exact⟨n,rfl,by omega,by omega,q _ H (fun _ _ z=>z) LS⟩
 ·cases e
theorem UV{K:W.Frag}:TZ K Kb jq:=fun g H ds vs its Q zd ra e q=>by
 unfold Kb at e;split at e
 ·rename_i i n;cases c:small i && small n with
  | false=>rw[c] at e;cases e
  | true =>
   rw[c] at e;cases e;rw[A5] at c;have hi:=En c.1;have hn:=En c.2;unfold AA at ra;obtain⟨v,vr,_,_,rfl,h1,h2,_⟩:=ra;unfold AA at h2;obtain⟨v2,vr2,_,_,rfl,h3,h4,_⟩:=h2;unfold AA at h4;obtain⟨rfl,_⟩:=h4;rw[AI h1,AI h3];exact⟨i,n,rfl,by omega,q _ H (fun _ _ z=>z) LS⟩
 ·cases e
end
structure w9:Type 1 where
 ps:List Str
 io:List Nat
 ro:Nat
 nb:Bool
 fn:List Dv->Option (Dv×List Dv)
 cps:(R:Type)->List Dv->(Dv->List Dv->Option R)->Option R
 eq:∀R ds k,cps R ds k=(fn ds).bind fun p=>k p.1 p.2
 cl:Option Str:=none
def Ti(n:Nat)(io:List Nat):Gm:=(B3 n).map fun i=>some (if io.contains i then 1 else 0)
def Bk(K:W.Frag)(g:G)(H:Hp)(io:List Nat)(bs:List Dv)(vs:List V)(P:Fp):Prop:=Rel K g H (io.map fun _=>some 1) bs (io.map fun i=>(vs[i]?).map id) P
def Te(K:W.Frag)(s:w9):Sp:=fun vs H Q _=>∃g ds P,Rel K g H (Ti s.ps.length s.io) ds (vs.map some) P/\∃d bs,s.fn ds=some (d,bs) /\
 ∀g' H' v Pv Pb,Step g P H g' (fun a=>Pv a\/Pb a) H'->Rep K g' H' s.ro d v Pv->Bk K g' H' s.io bs vs Pb->Bp Pv Pb->Q v H'
def OD(n:Nat)(io:List Nat):Gm:=(B3 n).map fun i=>if io.contains i then some 1 else none
def aJ(n p:Nat)(io:List Nat):Gm:=Ti p io++D1 (n - p) none
section
variable {K:W.Frag} {g:G} {H:Hp}
theorem Rel.pad{Γ:Gm}{m:M}{vs:List V}{P:Fp}(h:Rel K g H Γ m (vs.map some) P)(n:Nat):Rel K g H (Γ++D1 n none) (m++D1 n .wa) (vs.map some++D1 n none) P:=by
 obtain⟨zd,F,h1,h4⟩:=h;have old:∀{i o:Nat},(Γ++D1 n none)[i]?=some (some o)->i < Γ.length/\Γ[i]?=some (some o):=fun{i o} e=>by
  by_cases z:i < Γ.length
  ·rw[J9 z] at e;exact⟨z,e⟩
  ·rw[qD (by omega),qp] at e;split at e<;>cases e
 refine⟨zd,F,⟨by simp[h1.l1],by have:=h1.l2;simp at this ⊢;omega,fun i o e=>?_,fun i e=>?_,h1.dj⟩,h4⟩
 ·obtain⟨hi,e⟩:=old e;obtain⟨d,v,e1,e2,r⟩:=h1.rep i o e;exact⟨d,v,by rw[J9 (by rw[h1.l1];exact hi)];exact e1,by rw[J9 (by rw[h1.l2];exact hi)];exact e2,r⟩
 ·refine h1.out i fun o z=>e o ?_
  rw[J9 (C0.mp z).1];exact z
theorem Rel.pick{Γ:Gm}{m:M}{σ:St}{P:Fp}{io:List Nat}(h:Rel K g H Γ m σ P)(nd:io.Nodup)(hl:∀i∈io,Γ[i]?=some (some 1)):∃P',Rel K g H (io.map fun _=>some 1) (io.map m.at) (io.map fun i=>(σ[i]?).join) P'/\∀a,P' a->P a:=by
 obtain⟨zd,F,h1,h4⟩:=h;refine⟨fun a=>∃j i,io[j]?=some i/\F i a,⟨zd,fun j a=>∃i,io[j]?=some i/\F i a,⟨by simp,by simp,fun j o e=>?_,fun j e a ⟨i,e',_⟩=>?_,fun j k n a ⟨i,e1,q1⟩ ⟨i',e2,q2⟩=>?_⟩,fun _=>o8⟩,fun a ⟨j,i,_,q⟩=>(h4 a).mpr ⟨i,q⟩⟩
 ·rw[C5] at e;cases ej:io[j]? with
  | none=>rw[ej] at e;cases e
  | some i =>
   rw[ej] at e;cases e;obtain⟨d,v,e1,e2,r⟩:=h1.rep i 1 (hl i (M6 ej));have eq:(fun a=>∃i',some i=some i'/\F i' a)=F i:=funext fun a=>propext ⟨fun⟨i',z,q⟩=>by cases z;exact q,fun q=>⟨i,rfl,q⟩⟩
   exact⟨d,v,by rw[C5,ej,F6,KF e1],by rw[C5,ej,F6,e2];rfl,by show Rep K g H 1 d v fun a=>∃i',some i=some i'/\F i' a;rw[eq];exact r⟩
 ·refine e 1 ?_;rw[C5,e'];rfl
 ·by_cases z:i=i'
  ·subst z;refine n ?_;have hj:=(C0.mp e1);have hk:=(C0.mp e2);exact(ql (h₀:=hj.1) (h₁:=hk.1) nd).mp (hj.2.trans hk.2.symm)
  ·exact h1.dj i i' z a q1 q2
end
theorem lE{P:E5}{w:G3}{K:W.Frag}{mg:Str->Option Value}{base:F7}{x qual:Str}{st:M4}{f:B5}{fd:R9}{N:List Str}{k:Nat}{s:w9}(Fn:Fun K x qual st f fd)(S:xx N s.ps (AJ st))(nd:s.io.Nodup)(yZ:∀i∈s.io,i < s.ps.length)(hn:s.ps.length<=N.length)
    {body:Es} {Γn:Option Gm} {js:List Nat} (hw:LR (some (OD N.length s.io)) Γn=true)
    (hb:∀(xB:Value) (A:F3) (outer:List Env) (s':A6) (H:Hp) (E:XK),wo k (A.deeper (wJ qual (AJ st) s'.heap.objs.size f xB))->EA (Mj RL P w K mg base N qual (AJ st) f xB A outer s' H E).nox (Ae st) (tS K ⟨s.io,OD N.length s.io,s.ro⟩ none (aJ N.length s.ps.length s.io) Γn js body))
    (hΦ:∀ds d bs,ds.length=s.ps.length->s.fn ds=some (d,bs)->∃(R:Type) (k:Kt R) (r:R),body R (ds++D1 (N.length - s.ps.length) .wa) k=some r/\(∀m,k.nx m=some r->d=.wa/\bs=s.io.map m.at)/\(∀d' m,k.rt d' m=some r->d=d'/\bs=s.io.map m.at)):xU P w K mg base RL (k+1) f fd s.ps (Te K s):=by
  have ll:∀n io,(Ti n io).length=n:=fun n io=>by unfold Ti;simp
  refine Fn.ok S (fun vs H Q E h=>?_) fun xB A outer s' H vs Q E hr h=>⟨_,hb xB A outer s' H E hr,?_⟩
  · obtain⟨g,ds,Pa,r,_⟩:=h;have:=r.len.2;rw[ll] at this;simpa using this
  · obtain⟨g,ds,Pa,r,d,bs,e,q⟩:=h;have l1:=r.len.1;have l2:=r.len.2;rw[ll] at l1 l2;rw[A8] at l2;have r0:Rel K g H (aJ N.length s.ps.length s.io) (ds++D1 (N.length - s.ps.length) .wa) (L2.start N vs) Pa:=by
      unfold L2.start aJ;rw[l2];exact r.pad _
    have hv:∀{σ':St},Io s.io (L2.start N vs) σ'->∀i∈s.io,(σ'[i]?).join=vs[i]?:=fun{σ'} hi i hm=>by
      rw[hi i hm];unfold L2.start;have hl:i < vs.length:=by rw[l2];exact yZ i hm
      rw[J9 (by simpa using hl),C5];cases vs[i]?<;>rfl
    have rg:∀i∈s.io,(OD N.length s.io)[i]?=some (some 1):=fun i hi=>by
      unfold OD;rw[C5,L5 (by have:=yZ i hi;omega),F6,if_pos (B6.mpr hi)]
    obtain⟨RT,kt,rt,hb0,hnx,hrt⟩:=hΦ ds d bs l1 e;have fin:∀{d':Dv} {m':M} {g':G} {P' Pv:Fp} {σ':St} {v:V} {H':Hp},d=d'/\bs=s.io.map m'.at->Step g Pa H g' (fun a=>P' a\/Pv a) H'->Io s.io (L2.start N vs) σ'->Rep K g' H' s.ro d' v Pv->Rel K g' H' (OD N.length s.io) m' σ' P'->Bp P' Pv->Q v H':=fun{d' m' g' P' Pv σ' v H'} hk st io rv r' n=>by
      obtain⟨rfl,rfl⟩:=hk;obtain⟨Pb,hbk,sb⟩:=r'.pick nd rg;refine q g' H' v Pv Pb (st.less fun a z=>z.elim .inr fun z=>.inl (sb a z)) rv ?_ fun a z w=>n a (sb a w) z
      have e:(s.io.map fun i=>(σ'[i]?).join)=s.io.map fun i=>(vs[i]?).map id:=N9 fun i hi=>by rw[hv io i hi];cases vs[i]?<;>rfl
      unfold Bk;rw[<- e];exact hbk
    refine⟨g,_,Pa,r0,RT,kt,rt,hb0,⟨fun Γ' m' g' P' σ' H' eΓ hk ag yR i' r'=>?_,fun d' m' g' P' Pv σ' v H' hk ag yR i' rv r' n=>fin (hrt d' m' hk) yR i' rv r' n,(fun _ _ _ _ _ _ z=>by cases z),fun _ _ _ _ _ _ z=>by cases z⟩⟩;subst eΓ;obtain⟨g2,P2,s2,r2⟩:=r'.weaken (by unfold LR at hw;exact hw);exact fin (Pv:=wX) (v:=.wa) (hnx m' hk) ((yR.trans s2).less fun _ z=>z.elim id F1) i' (by unfold Rep;exact⟨rfl,fun _ z=>z⟩) r2 fun _ _ z=>z
noncomputable def ET(as:List Ar)(i:Nat):Option Nat:=match as[i]? with | some (.rf j)=>some j | _=>none
def slots(as:List Ar)(io:List Nat):List Nat:=io.map fun i=>(ET as i).getD 0
noncomputable def Rv:Ar->Bool
 | .fd _ _=>false
 | _=>true
def ig(as:List Ar)(io:List Nat):Bool:=as.all Rv && (B3 as.length).all fun i=>((ET as i).isSome == io.contains i) && (B3 as.length).all fun j=>i == j || (ET as i).isNone || (ET as i != ET as j)
noncomputable def Hl:List Nat->List Dv->M->M
 | s::sl,b::bs,m=>Hl sl bs (m.set s b)
 | _,_,m=>m
def Oh(s:w9)(as:List Ar):Ev Dv:=fun R m k=>Ab as R m fun ds m1=>s.cps R ds fun d bs=>k d (Hl (slots as s.io) bs m1)
theorem Hk:∀(sl:List Nat) (bs:List Dv) (m:M),(Hl sl bs m).length=m.length
 | [],_,_=>rfl
 | _::_,[],_=>rfl
 | s::sl,b::bs,m=>by unfold Hl;rw[Hk,D8]
theorem FC:∀(sl:List Nat) (bs:List Dv) (m:M) (j:Nat),j∉sl->(Hl sl bs m)[j]?=m[j]?
 | [],_,_,_,_=>rfl
 | _::_,[],_,_,_=>rfl
 | s::sl,b::bs,m,j,h=>by
  unfold Hl;rw[FC sl bs _ j fun z=>h (B1 _ z),E1 fun z=>h (by rw[z];exact B2)]
theorem QE:∀(sl:List Nat) (bs:List Dv) (m:M) (k j:Nat) (b:Dv),sl.Nodup->sl[k]?=some j->bs[k]?=some b->j < m.length->(Hl sl bs m)[j]?=some b
 | [],_,_,k,_,_,_,h,_,_=>by simp at h
 | _::_,[],_,k,_,_,_,_,h,_=>by simp at h
 | s::sl,c::bs,m,k,j,b,nd,h1,h2,hl=>by
  unfold Hl;rw[V1] at nd;cases k with
  | zero =>
   simp at h1 h2;subst h1 h2;rw[FC sl bs _ s nd.1,E9 hl]
  | succ k=>exact QE sl bs _ k j b nd.2 (by simpa using h1) (by simpa using h2) (by rw[D8];exact hl)
theorem VA(sl:List Nat)(bs:List Dv)(m:M):Bj sl m (Hl sl bs m):=⟨Hk ..,fun i h=>by
 unfold M.at;rw[B8,B8,FC sl bs m i h]⟩
section
variable {K:W.Frag} {g:G} {H:Hp} {σ:St} {Γ Γ':Gm} {js:List Nat} {m:M} {P:Fp} {as:List Ar}
theorem An.len:∀{as:List Ar} {ds:List Dv} {vs:List V},An K g H Γ m σ as ds vs->ds.length=as.length/\vs.length=as.length
 | [],ds,vs,h=>by unfold An at h;obtain⟨rfl,rfl⟩:=h;exact⟨rfl,rfl⟩
 | .ev _ _ _ _::as,ds,vs,h=>by
  unfold An at h;obtain⟨d,v,xY,yP,rfl,rfl,_,h2⟩:=h;simp[h2.len.1,h2.len.2]
 | .rf i::as,ds,vs,h=>by
  unfold An at h;obtain⟨v,xY,yP,rfl,rfl,_,_,h3⟩:=h;simp[h3.len.1,h3.len.2]
 | .fd i _::as,ds,vs,h=>by
  unfold An at h;obtain⟨d,v,xY,yP,rfl,rfl,_,_,h3⟩:=h;simp[h3.len.1,h3.len.2]
theorem An.get:∀{as:List Ar} {ds:List Dv} {vs:List V} {i:Nat},as.all Rv=true->An K g H Γ m σ as ds vs->i < as.length->∃d v,ds[i]?=some d/\vs[i]?=some v/\((∃j,ET as i=some j/\d=m.at j/\σ[j]?=some (some v))\/(ET as i=none/\Rep K g H 0 d v wX))
 | [],_,_,i,_,_,h=>by simp at h
 | .fd _ _::as,ds,vs,i,nf,h,hi=>by simp[Rv] at nf
 | .ev _ _ _ f::as,ds,vs,i,nf,h,hi=>by
  unfold An at h;obtain⟨d,v,xY,yP,rfl,rfl,h1,h2⟩:=h;cases i with
  | zero=>exact⟨d,v,rfl,rfl,.inr ⟨rfl,h1⟩⟩
  | succ i =>
   obtain⟨d,v,e1,e2,z⟩:=h2.get (i:=i) (by simpa[Rv] using nf) (by simpa using hi);exact⟨d,v,by simpa using e1,by simpa using e2,z⟩
 | .rf j::as,ds,vs,i,nf,h,hi=>by
  unfold An at h;obtain⟨v,xY,yP,rfl,rfl,h1,_,h3⟩:=h;cases i with
  | zero=>exact⟨_,v,rfl,rfl,.inl ⟨j,rfl,rfl,h1⟩⟩
  | succ i =>
   obtain⟨d,v,e1,e2,z⟩:=h3.get (i:=i) (by simpa[Rv] using nf) (by simpa using hi);exact⟨d,v,by simpa using e1,by simpa using e2,z⟩
theorem FA{i j:Nat}(h:ET as i=some j):i < as.length:=by
 unfold ET at h;cases e:as[i]? with
 | none=>rw[e] at h;cases h
 | some a=>exact(C0.mp e).1
theorem eA{io:List Nat}(h:ig as io=true):(∀i,i < as.length->((ET as i).isSome=true↔i∈io))/\∀i i' j,ET as i=some j->ET as i'=some j->i=i':=by
 unfold ig at h;rw[A5] at h;replace h:=h.2;rw[E3] at h;refine⟨fun i hi=>?_,fun i i' j e e'=>?_⟩
 ·have:=h i (K6.mpr hi);rw[A5,beq_iff_eq] at this;rw[this.1,B6]
 ·have:=h i (K6.mpr (FA e));rw[A5,E3] at this;have:=this.2 i' (K6.mpr (FA e'));rw[e,e'] at this;simp at this;exact this
theorem Sz{s:w9}{g1:G}{H1:Hp}{m1:M}{P1:Fp}{ds:List Dv}{vs:List V}{d:Dv}{bs:List Dv}(hs:ig as s.io=true)(hn:as.length=s.ps.length)(nd:s.io.Nodup)(yZ:∀i∈s.io,i < s.ps.length)(hl:∀i∈slots as s.io,Γ'[i]?=some (some 1)){Q:VK}
    (r1:Rel K g1 H1 Γ' m1 σ P1) (ar:An K g1 H1 Γ' m1 σ as ds vs) (e1:s.fn ds=some (d,bs))
    (q:∀g2 P2 Pv v H2,Step g1 P1 H1 g2 (fun a=>P2 a\/Pv a) H2->Rep K g2 H2 s.ro d v Pv->Rel K g2 H2 Γ' (Hl (slots as s.io) bs m1) σ P2->Bp P2 Pv->Q v H2):Te K s vs H1 Q E0:=by
  obtain⟨hs1,hs2⟩:=eA hs;have nf:as.all Rv=true:=by unfold ig at hs;rw[A5] at hs;exact hs.1
  have r1':=r1;obtain⟨zd,F,h1,h4⟩:=r1'
  -- the slots,one by one
  have sl:∀{i j:Nat},ET as i=some j->i∈s.io/\j∈slots as s.io:=fun{i j} e=>by
    have hi:=(hs1 i (FA e)).mp (by rw[e];rfl);exact⟨hi,D6.mpr ⟨i,hi,by rw[e];rfl⟩⟩
  have sl2:∀{i:Nat},i∈s.io->∃j,ET as i=some j:=fun{i} hi=>O5.mp ((hs1 i (by rw[hn];exact yZ i hi)).mpr hi)
  have ndS:(slots as s.io).Nodup:=by
    unfold slots;rw[qK,uC];refine(qK.mp nd).imp_of_mem fun{a b} ha hb n z=>?_
    obtain⟨ja,ea⟩:=sl2 ha;obtain⟨jb,eb⟩:=sl2 hb;rw[ea,eb] at z;simp only[uW] at z;subst z;exact n (hs2 a b ja ea eb)
  let Fa:Nat->Fp:=fun i a=>∃j,ET as i=some j/\F j a
  have al:=ar.len;have rA:Rel K g1 H1 (Ti s.ps.length s.io) ds (vs.map some) fun a=>∃i,Fa i a:=by
    refine⟨zd,Fa,⟨by unfold Ti;simp;rw[al.1,hn],by unfold Ti;simp;rw[al.2,hn],fun i o ei=>?_,fun i ei a ⟨j,ej,_⟩=>?_,fun i i' n a ⟨j,ej,z⟩ ⟨j',ej',z'⟩=>?_⟩,fun _=>o8⟩
    · obtain⟨hi,eo⟩:=Ez ei;obtain⟨d',v,d1,d2,z⟩:=ar.get (i:=i) nf (by rw[hn];exact hi);refine⟨d',v,d1,by rw[C5,d2];rfl,?_⟩;rcases z with⟨j,ej,rfl,hv⟩ | ⟨ej,z⟩
      · have:o=1:=by
          have:=D5 eo;rw[if_pos (B6.mpr (sl ej).1)] at this;exact this
        subst this;obtain⟨d3,v3,e3,e4,r3⟩:=h1.rep j 1 (hl j (sl ej).2);rw[hv] at e4;cases e4;have eq:Fa i=F j:=funext fun a=>propext ⟨fun⟨j',z,q⟩=>by rw[ej] at z;cases z;exact q,fun q=>⟨j,ej,q⟩⟩
        rw[KF e3,eq];exact r3
      · have:o=0:=by
          have:=D5 eo;rw[if_neg fun w=>?_] at this
          · exact this
          · obtain⟨j,w⟩:=sl2 (B6.mp w);rw[ej] at w;cases w
        subst this;have eq:Fa i=wX:=FF fun a ⟨j,w,_⟩=>by rw[ej] at w;cases w
        rw[eq];exact z
    · refine ei (if s.io.contains i then 1 else 0) ?_;unfold Ti;rw[C5,L5 (by rw[<- hn];exact FA ej)];rfl
    · by_cases w:j=j'
      · subst w;exact n (hs2 i i' j ej ej')
      · exact h1.dj j j' w a z z'
  let Fr:Nat->Fp:=fun j a=>j∉slots as s.io/\F j a
  have rr:Rel K g1 H1 (NR (slots as s.io) Γ') m1 σ fun a=>∃j,Fr j a:=by
    refine⟨zd,Fr,⟨by unfold NR;simp;exact h1.l1,by unfold NR;simp;exact h1.l2,fun j o ej=>?_,fun j ej a ⟨n,z⟩=>?_,fun i j n a q z=>h1.dj i j n a q.2 z.2⟩,fun _=>o8⟩
    · obtain⟨nj,ej⟩:=DX ej;obtain⟨d',v,d1,d2,z⟩:=h1.rep j o ej;have eq:Fr j=F j:=funext fun a=>propext ⟨fun w=>w.2,fun w=>⟨nj,w⟩⟩
      exact⟨d',v,d1,d2,by rw[eq];exact z⟩
    · refine h1.out j (fun o w=>ej o ?_) a z;unfold NR;have hj:=(C0.mp w).1;rw[C5,L5 hj,F6,if_neg (fun q=>n (B6.mp q)),B8,w];rfl
  have dA:Bp (fun a=>∃j,Fr j a) fun a=>∃i,Fa i a:=fun a ⟨j,nj,z⟩ ⟨i,j',ej,z'⟩=>by
    by_cases w:j=j'
    · subst w;exact nj (sl ej).2
    · exact h1.dj j j' w a z z'
  have okA:we g1 H1 fun a=>∃i,Fa i a:=rA.wc
  refine⟨g1,ds,_,rA,d,bs,e1,fun g2 H2 v Pv Pb s2 rv hb n=>?_⟩;have rr2:=rr.held s2 okA dA;have dB:Bp (fun a=>∃j,Fr j a) fun a=>Pv a\/Pb a:=s2.out rr.wc dA
  obtain⟨zd2,Fq,q1,q4⟩:=rr2;obtain⟨zb,Fb,b1,b4⟩:=hb;have lb:bs.length=s.io.length:=by have:=b1.l1;simpa using this
  have fq:∀{a:B5},(∃j,Fr j a)↔∃j,Fq j a:=fun{a}=>q4 a
  let Fz:Nat->Fp:=fun j a=>(∃k,(slots as s.io)[k]?=some j/\Fb k a)\/Fq j a
  have nq:∀j∈slots as s.io,∀a,¬Fq j a:=fun j hj=>q1.out j fun o w=>(DX w).1 hj
  have rz:Rel K g2 H2 Γ' (Hl (slots as s.io) bs m1) σ fun a=>∃j,Fz j a:=by
    refine⟨zd2,Fz,⟨by rw[Hk];exact h1.l1,h1.l2,fun j o ej=>?_,fun j ej a z=>?_,fun i j n' a z w=>?_⟩,fun _=>o8⟩
    · have hjl:j < m1.length:=by rw[h1.l1];exact(C0.mp ej).1
      by_cases hj:j∈slots as s.io
      · obtain⟨kk,hk1⟩:=k9 hj;have hkk:kk < s.io.length:=by have:=(C0.mp hk1).1;unfold slots at this;simpa using this
        rw[hl j hj] at ej;cases ej;obtain⟨b,u,c1,c2,c3⟩:=b1.rep kk 1 (by rw[C5,A3 hkk];rfl);have ei:(slots as s.io)[kk]?=some ((ET as s.io[kk]).getD 0):=by unfold slots;rw[C5,A3 hkk];rfl
        obtain⟨jj,ejj⟩:=sl2 (U2 hkk);rw[hk1,ejj] at ei;have zDd:j=jj:=D5 ei;subst zDd;obtain⟨d3,v3,d1,d2,z3⟩:=ar.get (i:=s.io[kk]) nf (FA ejj);rw[C5,A3 hkk,F6,d2] at c2;have eu:u=v3:=by simpa using c2.symm
        subst eu;have hv:σ[j]?=some (some u):=by
          rcases z3 with⟨j2,e2',_,z3⟩ | ⟨e2',_⟩
          · rw[ejj] at e2';cases e2';exact z3
          · rw[ejj] at e2';cases e2'
        have eq:Fz j=Fb kk:=funext fun a=>propext ⟨fun w=>w.elim (fun⟨k',h',w⟩=>by
            have zy:=C0.mp hk1;have h2':=C0.mp h';have:k'=kk:=(ql (h₀:=h2'.1) (h₁:=zy.1) ndS).mp (h2'.2.trans zy.2.symm);exact this▸w) fun w=>(nq j hj a w).elim,fun w=>.inl ⟨kk,hk1,w⟩⟩
        exact⟨b,u,QE _ bs m1 kk j b ndS hk1 c1 hjl,hv,by rw[eq];exact c3⟩
      · have ej':(NR (slots as s.io) Γ')[j]?=some (some o):=by
          unfold NR;rw[C5,L5 (C0.mp ej).1,F6,if_neg (fun w=>hj (B6.mp w)),B8,ej];rfl
        obtain⟨d3,v3,d1,d2,r3⟩:=q1.rep j o ej';have eq:Fz j=Fq j:=funext fun a=>propext ⟨fun w=>w.elim (fun⟨k',h',_⟩=>(hj (M6 h')).elim) id,.inr⟩
        exact⟨d3,v3,by rw[FC _ _ _ _ hj];exact d1,d2,by rw[eq];exact r3⟩
    · rcases z with⟨k',h',z⟩ | z
      · exact ej 1 (hl j (M6 h'))
      · refine q1.out j (fun o w=>ej o (DX w).2) a z
    · rcases z with⟨k1,zy,z⟩ | z
      · rcases w with⟨k2,h2',w⟩ | w
        · by_cases kk:k1=k2
          · subst kk;rw[zy] at h2';exact n' (D5 h2')
          · exact b1.dj k1 k2 kk a z w
        · exact dB a (fq.mpr ⟨j,w⟩) (.inr ((b4 a).mpr ⟨k1,z⟩))
      · rcases w with⟨k2,h2',w⟩ | w
        · exact dB a (fq.mpr ⟨i,z⟩) (.inr ((b4 a).mpr ⟨k2,w⟩))
        · exact q1.dj i j n' a z w
  refine q g2 _ Pv v H2 ((s2.frame (R:=fun a=>∃j,Fr j a)).sub (fun a z=>?_) fun a z=>?_) rv rz fun a z w=>?_
  · rcases z with⟨i,j,_,z⟩ | ⟨j,_,z⟩
    · exact(h4 a).mpr ⟨j,z⟩
    · exact(h4 a).mpr ⟨j,z⟩
  · rcases z with⟨j,z⟩ | z
    · rcases z with⟨k',_,z⟩ | z
      · exact .inl (.inr ((b4 a).mpr ⟨k',z⟩))
      · exact .inr (fq.mpr ⟨j,z⟩)
    · exact .inl (.inl z)
  · obtain⟨j,z⟩:=z;rcases z with⟨k',_,z⟩ | z
    · exact n a w ((b4 a).mpr ⟨k',z⟩)
    · exact dB a (fq.mpr ⟨j,z⟩) (.inl w)
theorem XB{s:w9}(c:AE Γ as Γ' js)(hs:ig as s.io=true)(hn:as.length=s.ps.length)(nd:s.io.Nodup)(yZ:∀i∈s.io,i < s.ps.length)(hl:∀i∈slots as s.io,Γ'[i]?=some (some 1)){Q:VK}
    (h:tE K Γ s.ro Γ' (js++slots as s.io) (Oh s as) σ H Q):Bt K as σ H fun vs H1=>Te K s vs H1 Q E0:=by
  obtain⟨g,m,P,r,R,k,res,e,q⟩:=h;refine AU as r c e fun ds m1 g1 P1 vs H1 hk ag st ar r1=>?_
  rw[s.eq] at hk;obtain⟨⟨d,bs⟩,e1,e2⟩:=wV hk;exact Sz hs hn nd yZ hl r1 ar e1 fun g2 P2 Pv v H2 st2 rv rz n=>q d _ g2 P2 Pv v H2 e2 (ag.trans (VA _ bs m1)) (st.trans st2) rv rz n
mutual
noncomputable def Th:Dv->Bool
 | .wa | .bl _ | .int _ | .str _=>true
 | .tup ds=>Zk ds
 | _=>false
noncomputable def Zk:List Dv->Bool
 | []=>true
 | d::ds=>Th d && Zk ds
end
mutual
theorem Kh{g':G}:∀{o o':Nat} {d:Dv} {v:V} {Pv:Fp},Rep K g' H o d v Pv->Th d=true->Rep K g H o' d v wX
 | _,_,.wa,_,_,h,_ | _,_,.bl _,_,_,h,_ | _,_,.int _,_,_,h,_ | _,_,.str _,_,_,h,_=>by unfold Rep at h ⊢;exact⟨h.1,fun _ z=>z⟩
 | _,_,.tup ds,v,_,h,e=>by
  unfold Rep at h ⊢;obtain⟨a,vs,e1,h1,h2⟩:=h;unfold Th at e;exact⟨a,vs,e1,h1,MD h2 e⟩
 | _,_,.lst _,_,_,_,e | _,_,.xH _ _,_,_,_,e | _,_,.ref _,_,_,_,e | _,_,.xQ _,_,_,_,e | _,_,.ty _,_,_,_,e | _,_,.mtp _,_,_,_,e | _,_,.zZ _ _,_,_,_,e | _,_,.yh _ _,_,_,_,e | _,_,.obj _ _ _ _,_,_,_,e=>by unfold Th at e;cases e
theorem MD{g':G}:∀{o o':Nat} {ds:List Dv} {vs:List V} {Pv:Fp},AA K g' H o ds vs Pv->Zk ds=true->AA K g H o' ds vs wX
 | _,_,[],_,_,h,_=>by unfold AA at h ⊢;exact⟨h.1,fun _ z=>z⟩
 | _,_,d::ds,_,_,h,e=>by
  unfold AA at h ⊢;obtain⟨v,r,P1,P2,e1,h1,h2,_,_⟩:=h;unfold Zk at e;rw[A5] at e;exact⟨v,r,wX,wX,e1,Kh h1 e.1,MD h2 e.2,fun _ z=>z.elim,fun a=>⟨fun z=>z.elim,fun z=>z.elim id id⟩⟩
end
theorem An.fz(r:Rel K g H Γ m σ P):∀{as:List Ar} {ds:List Dv} {vs:List V},An K g H Γ m σ as ds vs->AA K (g.add P) H 0 ds vs wX
 | [],ds,vs,h=>by unfold An at h;obtain⟨rfl,rfl⟩:=h;exact AA.nil
 | .ev _ _ _ f::as,ds,vs,h=>by
  unfold An at h;obtain⟨d,v,xY,yP,rfl,rfl,h1,h2⟩:=h;exact(AA.cons (h1.freeze (P:=P) fun _ z=>z.elim) (An.fz r h2) fun _ z=>z.elim).iff fun a=>⟨fun z=>z.elim,fun z=>z.elim id id⟩
 | .rf i::as,ds,vs,h=>by
  unfold An at h;obtain⟨v,xY,yP,rfl,rfl,h1,⟨o,_,ho⟩,h3⟩:=h;obtain⟨v',P1,e,k,sb⟩:=r.zq ho;rw[h1] at e;cases e;exact(AA.cons (k.freeze (P:=P) sb) (An.fz r h3) fun _ z=>z.elim).iff fun a=>⟨fun z=>z.elim,fun z=>z.elim id id⟩
 | .fd i f::as,ds,vs,h=>by
  unfold An at h;obtain⟨d,v,xY,yP,rfl,rfl,⟨h1,a,C,dx,fs,hv,ha,hlk⟩,⟨o,hl,ho⟩,h3⟩:=h;obtain⟨v',P1,e,k,sb⟩:=r.zq ho;rw[hv] at e;cases e;obtain⟨a',C',dx',fs',w,Q1,Q2,ea,zy,_,_,zJ,xo,_,hP,_⟩:=Kg k h1;cases ea;rw[ha] at zy;cases zy;rw[hlk] at zJ;cases zJ;exact(AA.cons (xo.freeze (P:=P) fun b z=>sb b ((hP b).mpr (.inl z))) (An.fz r h3) fun _ z=>z.elim).iff fun a=>⟨fun z=>z.elim,fun z=>z.elim id id⟩
theorem Zs{n:Nat}{ds:List Dv}{vs:List V}(zd:Zd g H)(h:AA K g H 0 ds vs wX)(hn:ds.length=n):Rel K g H (Ti n []) ds (vs.map some) wX:=by
 refine⟨zd,fun _=>wX,⟨by unfold Ti;simp[hn],by unfold Ti;simp[<- hn,h.len],fun i o e=>?_,fun i e a z=>z,fun i j n a z=>z.elim⟩,fun a=>⟨fun z=>z.elim,fun⟨i,z⟩=>z⟩⟩;obtain⟨hi,e⟩:=Ez e;have eo:o=0:=(D5 e);subst eo;obtain⟨v,_,ev,rv,_⟩:=h.get (A3 (by omega:i < ds.length));exact⟨_,v,A3 (by omega),by rw[C5,ev];rfl,rv.z⟩
def Kv(s:w9)(as:List Ar):Ev Dv:=fun R m k=>Ab as R m fun ds m1=>s.cps R ds fun d _=>bif Th d then k d m1 else none
theorem Sm{s:w9}(c:AE Γ as Γ' js)(hs:s.io=[])(hn:as.length=s.ps.length){Q:VK}(h:tE K Γ 1 Γ' js (Kv s as) σ H Q):Bt K as σ H fun vs H1=>Te K s vs H1 Q E0:=by
 obtain⟨g,m,P,r,R,k,res,e,q⟩:=h;refine AU as r c e fun ds m1 g1 P1 vs H1 hk ag st ar r1=>?_
 rw[s.eq] at hk;obtain⟨⟨d,bs⟩,e1,e2⟩:=wV hk;cases c:Th d with
 | false=>simp only[c,cond_false] at e2;cases e2
 | true =>
  simp only[c,cond_true] at e2;have fs:Step g1 P1 H1 (g1.add P1) wX H1:=Step.freeze r1.wc;refine⟨g1.add P1,ds,wX,by rw[hs];exact Zs (fs.zd r1.zd) (ar.fz r1) (ar.len.1.trans hn),d,bs,e1,fun g' H' v Pv Pb s2 rv _ _=>?_⟩;have sm:PP H1 H':=fun b o hb=>s2.keep b o hb fun z=>z
  exact q d m1 g1 P1 wX v H' e2 ag ((st.trans (Step.same sm)).less fun _ z=>z.elim id F1) (Kh rv c) (r1.same sm) fun _ _ z=>z
def gn(Γ:Gm):Gm:=Γ.map fun x=>x.map fun _=>0
theorem Oe:∀(Γ:Gm),Bn (gn Γ) Γ=true
 | []=>rfl
 | none::Γ=>by unfold gn Bn;exact Oe Γ
 | some o::Γ=>by
  show Bn (some 0::gn Γ) (some o::Γ)=true;unfold Bn;rw[Oe Γ];rfl
def WY(f:Ev Dv):Ev Dv:=fun R m k=>f R m fun d m1=>bif Th d then k d m1 else none
theorem Vq{f:Ev Dv}{Γx:Gm}{o:Nat}(hj:∀i o,Γ[i]?=some (some o)->i∉js){Q:VK}(h:tE K Γ 1 Γ js (WY f) σ H Q):tE K (gn Γ) o Γx js f σ H Q:=by
  obtain⟨g,m,P,r,R,k,res,e,q⟩:=h;obtain⟨g2,P2,s2,r2⟩:=r.weaken (Oe Γ);have np:∀a,¬P2 a:=fun a z=>by
    obtain⟨_,F,h1,h4⟩:=r2;obtain⟨i,z⟩:=(h4 a).mp z
    by_cases c:∃o,(gn Γ)[i]?=some (some o)
    · obtain⟨o',c⟩:=c;have:o'=0:=by
        unfold gn at c;rw[C5] at c;obtain⟨x,_,c⟩:=D7.mp c;obtain⟨_,_,c⟩:=D7.mp c;exact c.symm
      subst this;obtain⟨_,_,_,_,rr⟩:=h1.rep i 0 c;exact rr.xA a z
    · exact h1.out i (fun o' z=>c ⟨o',z⟩) a z
  refine⟨g2,m,P2,r2,R,_,res,e,fun d m' g' P' Pv v H' hk ag s rv _ _=>?_⟩;cases c:Th d with
  | false=>simp only[c,cond_false] at hk;cases hk
  | true =>
    simp only[c,cond_true] at hk;have sm:PP H H':=fun b o hb=>s.keep b o hb (np b)
    have rm:Rel K g H Γ m' σ P:=r.agree (by rw[ag.1]) fun i o hi=>ag.2 i (hj i o hi)
    exact q d m' g P wX v H' hk ag ((Step.same sm).less fun _ z=>z.elim id F1) (Kh rv c) (rm.same sm) fun _ _ z=>z
end
end R
namespace L2
open PySem PySem.Spec PyProof.Rows
variable {H:Hp}
section
variable {X:Cx} {pins:List (B5×Obj)} {σ:St} {H:Hp} {s:A6} {a:B5}
theorem Tu{a:B5}{o:HO}(e:H a=some o)(o':HO):upd (upd H a o') a o=H:=by
 funext b
 by_cases h:b=a
 ·subst h;rw[AF,e]
 ·rw[AB h,AB h]
theorem Inv.reT(I:Inv X pins σ H s)(e:H a=some (.dK [])):Inv X pins σ (upd H a (.dT [])) s:=by
 obtain⟨_,hd,vs,rel,o,es,ep,h1,h2,h3,_,h4,_⟩:=Mg I.wb e;cases rel;have h4:es.toList=[]:=by generalize es.toList=l at h4;cases h4;rfl
 exact Bx (t':=s.toks) (h':=s.heap) I (by rw[e];exact True.intro) ⟨rfl,fun _ _=>rfl⟩ ⟨o,h1⟩ ⟨E7 _,hd,[],.nil,o,es,ep,h1,h2,h3,h4,.nil⟩
theorem Inv.reK(I:Inv X pins σ (upd H a (.dT [])) s)(e:H a=some (.dK [])):Inv X pins σ H s:=by
 obtain⟨_,hd,xs,rel,o,es,ep,h1,h2,h3,h4,_⟩:=Wo I.wb (AF (H:=H));cases rel;have h4:es.toList=[]:=h4;have:=Bx (t':=s.toks) (h':=s.heap) (ob:=.dK []) I (by rw[AF];exact True.intro) ⟨rfl,fun _ _=>rfl⟩ ⟨o,h1⟩ ⟨E7 _,hd,[],.nil,o,es,ep,h1,h2,h3,fun x hx=>(by rw[<- k7,h4] at hx;cases hx),(by rw[h4];exact .nil),.nil⟩;rw[Tu e] at this;exact this
end
def mY(H:Hp)(a:B5)(y:V)(r:Option V):Prop:=FS H a y r\/(r=none/\H a=some (.dK [])/\∃(k:List Aa) (b:B5),y=.ref b/\H b=some (.tup (k.map kV)))
def mX(H:Hp)(a:B5)(y v:V)(H':Hp):Prop:=Ei H a y v H'\/(H a=some (.dK [])/\∃(k:List Aa) (b:B5),y=.ref b/\H b=some (.tup (k.map kV))/\H'=upd H a (.dT [(k,v)]))
theorem Nf{a b:B5}{k:List V}(e:H a=some (.dK []))(eb:H b=some (.tup k))(o:HO):upd H a o b=some (.tup k):=by
 rw[AB fun z=>by subst z;rw[e] at eb;cases eb];exact eb
section
variable {X:Cx}
def ox:R2:=fun x y H Q=>∃a v,x=.ref a/\FS H a y (some v)/\Q v H
theorem ki(hu:X.A.units+1 < G8):RJ X ox:=by
 intro value slice pins s σ H x y v u Q I rx ry h hs;obtain⟨a,z,rfl,g,q⟩:=h;obtain rfl:v=E2 a:=rx;have hT:=Mh I g;have h2:=Se (Q:=EP X pins σ Q) (E:=X.xe) (A:=X.A) hu I g ry fun w' s3 I3 xo=>⟨z,H,I3,xo,q⟩
 unfold qe;refine A0 ?_;rw[rT hT.not_modules];refine A0 (Q4 hT qR.lookup ?_);have fin:B7 (C9 X.prog X.w) X.A (rk slice false (.ref a) u) (fun r xn=>B7 (C9 X.prog X.w) X.A (letTemporaryGo value (.ref a) r >>= fun _=>pure r) (EP X pins σ Q) X.xe xn) X.xe s:=by
  rw[hs];exact u3 (R8 h2 (fun r xn zF=>A0 (sE (A4 zF))) fun _ _ x=>x)
 first
  | exact A4 (A0 fin)
  | exact A0 (A4 (A0 fin))
  | exact A0 fin
def ou:NN:=fun o i v H Q=>∃a H',o=.ref a/\mX H a i v H'/\Q H'
theorem eD(hu:X.A.units+1 < G8):JH X ou:=by
 intro pins s σ H o i v ov iv u Q I ro ri rv h;obtain⟨a,H',rfl,g,q⟩:=h;obtain rfl:ov=E2 a:=ro;rcases g with g | ⟨e,k,b,rfl,eb,rfl⟩
 ·exact Jv hu I g ri rv fun s4 I4=>⟨H',I4,q⟩
 ·refine Jv hu (I.reT e) (Ei.t AF (Nf e eb _) (by decide)) ri rv fun s4 I4=>⟨upd H a (.dT [(k,v)]),?_,q⟩
  have:upd (upd H a (.dT [])) a (.dT (BK [] k v))=upd H a (.dT [(k,v)]):=by
   funext c
   by_cases h:c=a
   ·subst h;rw[AF,AF];rfl
   ·rw[AB h,AB h,AB h]
  rw[this] at I4;exact I4
theorem JH.or{t t':NN}(h:JH X t)(h':JH X t'):JH X (fun o i v H Q=>t o i v H Q\/t' o i v H Q):=by
 intro pins s σ H o i v ov iv u Q I ro ri rv q;rcases q with q | q
 ·exact h pins s σ H o i v ov iv u Q I ro ri rv q
 ·exact h' pins s σ H o i v ov iv u Q I ro ri rv q
def eS(neg:Bool):R2:=fun y x H Q=>∃a o,x=.ref a/\mY H a y o/\Q (.bl (if neg then !o.isSome else o.isSome)) H
theorem fm(hu:X.A.units+1 < G8):CY X (J0 .In) (eS false):=by
 intro pins s σ H y x u v Q I ry rx h;obtain⟨a,o,rfl,g,q⟩:=h;obtain rfl:v=E2 a:=rx;rcases g with g | ⟨rfl,e,k,b,rfl,eb⟩
 ·exact lR hu I g ry fun s3 I3=>⟨.bl o.isSome,H,I3,rfl,q⟩
 ·exact lR hu (I.reT e) (FS.t AF (Nf e eb _)) ry fun s3 I3=>⟨.bl false,H,I3.reK e,rfl,q⟩
theorem Za(hu:X.A.units+1 < G8):CY X (J0 .NotIn) (eS true):=by
 intro pins s σ H y x u v Q I ry rx h;obtain⟨a,o,rfl,g,q⟩:=h;obtain rfl:v=E2 a:=rx;rcases g with g | ⟨rfl,e,k,b,rfl,eb⟩
 ·exact Qr hu I g ry fun s3 I3=>⟨.bl (!o.isSome),H,I3,rfl,q⟩
 ·exact Qr hu (I.reT e) (FS.t AF (Nf e eb _)) ry fun s3 I3=>⟨.bl true,H,I3.reK e,rfl,q⟩
def bg:List V->Hp->VK->Prop:=fun xs H Q=>∃a wW,xs=[V.ref a]/\H a=some (.dK wW)/\Q (.int wW.length) H
theorem Ou:As X (.builtin "len") bg:=Sw
end
abbrev KN(H:Hp):List (NK Aa×V)->List (NK Aa×B5×Value)->Prop:=Paired fun p q=>p.1=q.1/\NS H p.1 q.2.1/\RelV p.2 q.2.2
variable {wW:List (NK Aa×V)} {xs:List (NK Aa×B5×Value)}
theorem KN.val(r:KN H wW xs)(k:NK Aa):FR (CZ wW k) ((k8 xs k).map (·.2)):=by
 induction r with
 | nil=>exact True.intro
 | @cons p q ps qs h t ih =>
  obtain⟨h1,_,h2⟩:=h
  by_cases e:p.1=k
  ·have e':q.1=k:=h1.symm.trans e;have b:k8 (q::qs) k=some q.2:=by simp[k8,Q8,e']
   rw[Cw e,b];exact h2
  ·have e':¬q.1=k:=fun z=>e (h1.trans z)
   have b:k8 (q::qs) k=k8 qs k:=by simp[k8,Q8,e']
   rw[Cy e,b];exact ih
theorem KN.zAa(r:KN H wW xs)(k:NK Aa){y:V}{u:Value}(ry:RelV y u) :
    KN H (wW.map fun kv=>if kv.1=k then(kv.1,y) else kv) (xs.map (putAt k u)):=by
  induction r with
  | nil=>exact .nil
  | @cons p q ps qs h t ih =>
    rw[D3,D3];refine .cons ?_ ih;obtain⟨h1,h2,h3⟩:=h;unfold putAt
    by_cases e:p.1=k
    · rw[if_pos e,if_pos (h1.symm.trans e)];exact⟨h1,h2,ry⟩
    · rw[if_neg e,if_neg (fun z=>e (h1.trans z))];exact⟨h1,h2,h3⟩
theorem KN.put(r:KN H wW xs)(k:NK Aa){b:B5}{y:V}{u:Value}(hb:NS H k b)(ry:RelV y u) :
    KN H (BK wW k y) (vz xs k b u):=by
  have e:(wW.any fun kv=>decide (kv.1=k))=(k8 xs k).isSome:=by
    rw[HI,(r.val k).wq,T2]
  unfold BK vz;rw[e]
  by_cases q:(k8 xs k).isSome=true
  · rw[if_pos q,if_pos q];exact r.zAa k ry
  · rw[if_neg q,if_neg q];exact Paired.snoc r ⟨rfl,hb,ry⟩
theorem KN.keeps{H':Hp}(r:KN H wW xs)(ht:∀b ys,H b=some (.tup ys)->H' b=some (.tup ys)):KN H' wW xs:=
 Paired.zAb r fun _ _ z=>⟨z.1,z.2.1.keeps ht,z.2.2⟩
section
variable {P:E5} {w:G3} {H:Hp} {h:F7} {a:B5}
theorem OV(ok:ES P w H h):∀{k:NK Aa} {vs:List V} {its:List Value},YH H k vs->AH vs its->yA (AQ P w) h k its
 | [],_,its,e,r=>by
  have e:_=[]:=e;subst e;cases r;exact .nil
 | .inl k::ks,_,its,⟨r0,e,n⟩,r=>by
  subst e;cases r with
  | cons r1 r2=>exact .sc (IC r1) (OV ok n r2)
 | .inr t::ks,_,its,⟨c,r0,e,h1,n⟩,r=>by
  subst e;cases r with
  | cons r1 r2 =>
   cases(show _=E2 c from r1);exact .tp (Ee ok h1) (OV ok n r2)
theorem FJ{k:NK Aa}(ok:ES P w H h)(e:NS H k a):(Bm (AQ P w) (BP P w)).is h k a:=by
 obtain⟨vs,e,n⟩:=e;obtain⟨_,its,r,o,h1,h2,_,nn,h3⟩:=(show AY P w H h a (.tup vs) from ok a _ e);exact⟨o,its.toArray,nn,h1,h2,h3,by simpa using OV ok n r⟩
theorem Jt(ok:ES P w H h)(e:H a=some (.dN wW)):wW.length<=sizeLine/\(a == Q6)=false /\
    ∃xs,KN H wW xs/\h.DictOfH (Bm (AQ P w) (BP P w)) a xs:=by
  obtain⟨z,y,xs,r,o,es,ep,h1,h2,h3,h4,h5⟩:=(show AY P w H h a (.dN wW) from ok a _ e);refine⟨z,y,xs,r,o,es,ep,h1,h2,h3,h4,fun x hx=>?_,h5⟩;have all:∀{l:List (NK Aa×V)} {m:List (NK Aa×B5×Value)},KN H l m->∀x∈m,(Bm (AQ P w) (BP P w)).is h x.1 x.2.1:=by
    intro l m q
    induction q with
    | nil=>intro x hx;exact nomatch hx
    | @cons p q ps qs hq t ih =>
      intro x hx;rcases D0.mp hx with e | hx
      · subst e;exact FJ ok (by rw[<- hq.1];exact hq.2.1)
      · exact ih x hx
  exact all r x hx
end
section
variable {X:Cx} {pins:List (B5×Obj)} {σ:St} {H:Hp} {s:A6} {a b:B5} {v:V} {r:Value} {wW:List (NK Aa×V)} {k:NK Aa} {A:F3} {E:Value->A6->Prop}
theorem Rw{Q:Value->A6->Prop}(hu:A.units+2 < G8)(I:Inv X pins σ H s)(e:H a=some (.dN wW))(eb:NS H k b)(l:CZ wW k=some v)(h:∀w' s',Inv X pins σ H s'->RelV v w'->Q w' s') :
    B7 (C9 X.prog X.w) A (rD (.ref a) (.ref b)) Q E s:=by
  obtain⟨z,hd,xs,rel,dd⟩:=Jt I.wb e;obtain⟨w',hw,xo⟩:=FR.some_of (v:=v) (o:=(k8 xs k).map (·.2)) (by rw[<- l];exact rel.val k);obtain⟨p,hp,hp2⟩:=D7.mp hw;refine sx (knd:=Bm (AQ X.prog X.w) (BP X.prog X.w)) (show A.in1.units+1 < G8 by show A.units+1+1 < G8;omega) (FJ I.wb eb) dd hp ?_;rw[hp2];exact h w' _ (I.tok _) xo
theorem kb{Q:Value->A6->Prop}(hu:A.units+2 < G8)(I:Inv X pins σ H s)(e:H a=some (.dN wW))(eb:NS H k b)(h:∀s',Inv X pins σ H s'->Q (.bool (CZ wW k).isSome) s') :
    B7 (C9 X.prog X.w) A (J0 .In (.ref b) (.ref a)) Q E s:=by
  obtain⟨z,hd,xs,rel,dd⟩:=Jt I.wb e;refine wpAny_in_heap (knd:=Bm (AQ X.prog X.w) (BP X.prog X.w)) (show A.in1.units+1 < G8 by show A.units+1+1 < G8;omega) (FJ I.wb eb) hd dd ?_;have q:=(rel.val k).wq;rw[T2] at q;rw[<- q];exact h _ (I.tok _)
theorem QP{Q:Value->A6->Prop}(hu:A.units+2 < G8)(I:Inv X pins σ H s)(e:H a=some (.dN wW))(eb:NS H k b)(h:∀s',Inv X pins σ H s'->Q (.bool (!(CZ wW k).isSome)) s') :
    B7 (C9 X.prog X.w) A (J0 .NotIn (.ref b) (.ref a)) Q E s:=by
  obtain⟨z,hd,xs,rel,dd⟩:=Jt I.wb e;refine uX (knd:=Bm (AQ X.prog X.w) (BP X.prog X.w)) (show A.in1.units+1 < G8 by show A.units+1+1 < G8;omega) (FJ I.wb eb) hd dd ?_;have q:=(rel.val k).wq;rw[T2] at q;rw[<- q];exact h _ (I.tok _)
theorem Jd{Q:Unit->A6->Prop}(hu:A.units+2 < G8)(I:Inv X pins σ H s)(e:H a=some (.dN wW))(eb:NS H k b)(l:wW.length < sizeLine)(rv:RelV v r)(h:∀s',Inv X pins σ (upd H a (.dN (BK wW k v))) s'->Q () s') :
    B7 (C9 X.prog X.w) A (vC (.ref a) (.ref b) r) Q E s:=by
  obtain⟨z,hd,xs,rel,dd⟩:=Jt I.wb e;have hz:xs.length<=sizeLine:=by rw[<- Paired.length rel];exact z
  have hl:(BK wW k v).length<=sizeLine:=by have:=Av wW k v;omega
  refine sy (knd:=Bm (AQ X.prog X.w) (BP X.prog X.w)) (hsz:=hz) (show A.in1.units+1 < G8 by show A.units+1+1 < G8;omega) (FJ I.wb eb) dd fun h' dd' hs=>h _ ?_
  obtain⟨q,es,ep,hq,h2,h3,h4,_,h5⟩:=dd';refine Bx I (by rw[e];exact True.intro) hs ⟨q,hq⟩ ⟨hl,hd,_,(rel.put k eb rv).keeps fun c ys ec=>?_,q,es,ep,hq,h2,h3,h4,h5⟩;rw[AB (Ve ec e (fun z=>nomatch z))];exact ec
theorem Inv.reN(I:Inv X pins σ H s)(e:H a=some (.dK [])):Inv X pins σ (upd H a (.dN [])) s:=by
 obtain⟨_,hd,vs,rel,o,es,ep,h1,h2,h3,_,h4,_⟩:=Mg I.wb e;cases rel;have h4:es.toList=[]:=by generalize es.toList=l at h4;cases h4;rfl
 exact Bx (t':=s.toks) (h':=s.heap) I (by rw[e];exact True.intro) ⟨rfl,fun _ _=>rfl⟩ ⟨o,h1⟩ ⟨E7 _,hd,[],.nil,o,es,ep,h1,h2,h3,h4,.nil⟩
theorem Inv.zCH(I:Inv X pins σ (upd H a (.dN [])) s)(e:H a=some (.dK [])):Inv X pins σ H s:=by
 obtain⟨_,hd,xs,rel,o,es,ep,h1,h2,h3,h4,_⟩:=Jt I.wb (AF (H:=H));cases rel;have h4:es.toList=[]:=h4;have:=Bx (t':=s.toks) (h':=s.heap) (ob:=.dK []) I (by rw[AF];exact True.intro) ⟨rfl,fun _ _=>rfl⟩ ⟨o,h1⟩ ⟨E7 _,hd,[],.nil,o,es,ep,h1,h2,h3,fun x hx=>(by rw[<- k7,h4] at hx;cases hx),(by rw[h4];exact .nil),.nil⟩;rw[Tu e] at this;exact this
end
def mS(H:Hp)(a:B5)(y:V)(r:Option V):Prop:=∃k b,y=.ref b/\NS H k b/\((∃wW,H a=some (.dN wW)/\r=CZ wW k)\/H a=some (.dK [])/\r=none)
def oP(H:Hp)(a:B5)(y v:V)(H':Hp):Prop:=∃k b,y=.ref b/\NS H k b/\((∃wW,H a=some (.dN wW)/\wW.length < sizeLine/\H'=upd H a (.dN (BK wW k v)))\/H a=some (.dK [])/\H'=upd H a (.dN [(k,v)]))
theorem OO{a:B5}{k:NK Aa}{b:B5}(e:H a=some (.dK []))(n:NS H k b)(o:HO):NS (upd H a o) k b:=n.keeps fun c xs ec=>by rw[AB fun z=>by subst z;rw[e] at ec;cases ec];exact ec
section
variable {X:Cx}
def oo:R2:=fun x y H Q=>∃a v,x=.ref a/\mS H a y (some v)/\Q v H
theorem kh(hu:X.A.units+2 < G8):RJ X oo:=by
 intro value slice pins s σ H x y v u Q I rx ry h hs;obtain⟨a,z,rfl,⟨k,b,rfl,eb,g⟩,q⟩:=h;obtain rfl:v=E2 a:=rx;obtain rfl:u=E2 b:=ry;obtain⟨wW,e,l⟩:∃wW,H a=some (.dN wW)/\some z=CZ wW k:=g.elim id fun h=>by cases h.2
 have hT:s.TypeIs (.ref a) "dict" := by
  obtain⟨_,_,xs,_,dd⟩:=Jt I.wb e;exact dd.typeIs
 have h2:=Rw (Q:=EP X pins σ Q) (E:=X.xe) (A:=X.A) hu I e eb l.symm fun w' s3 I3 xo=>⟨z,H,I3,xo,q⟩
 unfold qe;refine A0 ?_;rw[rT hT.not_modules];refine A0 (Q4 hT qR.lookup ?_);have fin:B7 (C9 X.prog X.w) X.A (rk slice false (.ref a) (.ref b)) (fun r xn=>B7 (C9 X.prog X.w) X.A (letTemporaryGo value (.ref a) r >>= fun _=>pure r) (EP X pins σ Q) X.xe xn) X.xe s:=by
  rw[hs];exact u3 (R8 h2 (fun r xn zF=>A0 (sE (A4 zF))) fun _ _ x=>x)
 first
  | exact A4 (A0 fin)
  | exact A0 (A4 (A0 fin))
  | exact A0 fin
def om:NN:=fun o i v H Q=>∃a H',o=.ref a/\oP H a i v H'/\Q H'
theorem eB(hu:X.A.units+2 < G8):JH X om:=by
 intro pins s σ H o i v ov iv u Q I ro ri rv h;obtain⟨a,H',rfl,⟨k,b,rfl,eb,g⟩,q⟩:=h;obtain rfl:ov=E2 a:=ro;obtain rfl:iv=E2 b:=ri;rcases g with⟨wW,e,hl,rfl⟩ | ⟨e,rfl⟩
 ·exact Jd hu I e eb hl rv fun s4 I4=>⟨_,I4,q⟩
 ·refine Jd hu (I.reN e) AF (OO e eb _) (by decide) rv fun s4 I4=>⟨upd H a (.dN [(k,v)]),?_,q⟩
  have:upd (upd H a (.dN [])) a (.dN (BK [] k v))=upd H a (.dN [(k,v)]):=by
   funext c
   by_cases h:c=a
   ·subst h;rw[AF,AF];rfl
   ·rw[AB h,AB h,AB h]
  rw[this] at I4;exact I4
def eO(neg:Bool):R2:=fun y x H Q=>∃a o,x=.ref a/\mS H a y o/\Q (.bl (if neg then !o.isSome else o.isSome)) H
theorem fc(hu:X.A.units+2 < G8):CY X (J0 .In) (eO false):=by
 intro pins s σ H y x u v Q I ry rx h;obtain⟨a,o,rfl,⟨k,b,rfl,eb,g⟩,q⟩:=h;obtain rfl:v=E2 a:=rx;obtain rfl:u=E2 b:=ry;rcases g with⟨wW,e,rfl⟩ | ⟨e,rfl⟩
 ·exact kb hu I e eb fun s3 I3=>⟨.bl (CZ wW k).isSome,H,I3,rfl,q⟩
 ·exact kb hu (I.reN e) AF (OO e eb _) fun s3 I3=>⟨.bl false,H,I3.zCH e,rfl,q⟩
theorem ZY(hu:X.A.units+2 < G8):CY X (J0 .NotIn) (eO true):=by
 intro pins s σ H y x u v Q I ry rx h;obtain⟨a,o,rfl,⟨k,b,rfl,eb,g⟩,q⟩:=h;obtain rfl:v=E2 a:=rx;obtain rfl:u=E2 b:=ry;rcases g with⟨wW,e,rfl⟩ | ⟨e,rfl⟩
 ·exact QP hu I e eb fun s3 I3=>⟨.bl (!(CZ wW k).isSome),H,I3,rfl,q⟩
 ·exact QP hu (I.reN e) AF (OO e eb _) fun s3 I3=>⟨.bl true,H,I3.zCH e,rfl,q⟩
end
end L2
namespace R
open PySem L2
def EU:Dv->Option Aa
 | .int i=>some (.inl i)
 | .str l=>some (.inr (tx l))
 | _=>none
def IB:List Dv->Option (List Aa)
 | []=>some []
 | d::ds=>(EU d).bind fun k=>(IB ds).bind fun ks=>some (k::ks)
def gQ:Dv->Option (List Aa)
 | .tup ds=>IB ds
 | _=>none
section
variable {κ:Type} [DecidableEq κ]
noncomputable def GQ(k:κ):List κ->List Dv->Option Dv
 | j::ks,d::ds=>if j=k then some d else GQ k ks ds
 | _,_=>none
noncomputable def JA(k:κ)(ks:List κ):List κ:=if ks.any (fun j=>decide (j=k))=true then ks else ks++[k]
noncomputable def Sf(k:κ)(x:Dv):List κ->List Dv->List Dv
 | j::ks,d::ds=>(if j=k then x else d)::Sf k x ks ds
 | _,_=>[]
def Iz(k:κ)(x:Dv)(ks:List κ)(ds:List Dv):List Dv:=if ks.any (fun j=>decide (j=k))=true then Sf k x ks ds else ds++[x]
end
variable {o:Nat} {d:Dv} {v:V} {P:Fp} {ds:List Dv}
section
variable {K:W.Frag} {g:G} {H:Hp} {κ:Type} [DecidableEq κ]
theorem EN{k:Aa}(h:Rep K g H o d v P)(e:EU d=some k):v=kV k:=by
 cases d with
 | int i=>cases e;unfold Rep at h;exact h.1
 | str l=>cases e;unfold Rep at h;exact h.1
 | _=>cases e
theorem IS{k:κ}:∀{ks:List κ} {ds:List Dv} {us:List V} {R:Fp} {d:Dv},AA K g H 0 ds us R->GQ k ks ds=some d->∃v,CZ (ks.zip us) k=some v/\Rep K g H 0 d v wX
 | [],ds,us,R,d,_,e=>by cases ds<;>cases e
 | j::ks,[],us,R,d,_,e=>by cases e
 | j::ks,x::ds,us,R,d,h,e=>by
  unfold AA at h;obtain⟨v,r,P1,P2,rfl,h1,h2,_⟩:=h;unfold GQ at e;split at e
  ·rename_i c;cases e;exact⟨v,by rw[M3];exact Cw c,h1.z⟩
  ·rename_i c;obtain⟨w,e1,e2⟩:=IS h2 e;exact⟨w,by rw[M3,Cy c];exact e1,e2⟩
theorem GP{k:κ}:∀{ks:List κ} {ds:List Dv} {us:List V},ks.length=ds.length->ds.length=us.length->(CZ (ks.zip us) k).isSome=(GQ k ks ds).isSome
 | [],[],_,_,_=>rfl
 | j::ks,d::ds,[],_,h=>by cases h
 | j::ks,d::ds,u::us,h1,h2=>by
  have ih:=GP (k:=k) (ks:=ks) (ds:=ds) (us:=us) (by simpa using h1) (by simpa using h2);rw[M3];unfold GQ
  by_cases c:j=k
  ·rw[Cw (p:=(j,u)) c,if_pos c];rfl
  ·rw[Cy (p:=(j,u)) c,if_neg c];exact ih
theorem IR{k:κ}{x:Dv}{w:V}{ks:List κ}{us:List V}{R:Fp}(hl:ks.length=ds.length)(h:AA K g H 0 ds us R)(hx:Rep K g H 0 x w wX) :
    ∃xG,BK (ks.zip us) k w=(JA k ks).zip xG/\AA K g H 0 (Iz k x ks ds) xG wX/\(JA k ks).length=(Iz k x ks ds).length:=by
  have xp:ks.length=us.length:=by rw[hl,h.len]
  have any_eq:∀{ks:List κ} {us:List V},ks.length=us.length->((ks.zip us).any fun kv=>decide (kv.1=k))=ks.any fun j=>decide (j=k):=fun{ks us} h=>by
    induction ks generalizing us with
    | nil=>rfl
    | cons j ks ih =>
      cases us with
      | nil=>cases h
      | cons u us=>rw[M3,T7,T7,ih (by simpa using h)]
  unfold BK JA Iz;rw[any_eq xp]
  by_cases c:(ks.any fun j=>decide (j=k))=true
  · rw[if_pos c,if_pos c,if_pos c];have:∀{ks:List κ} {ds:List Dv} {us:List V} {R:Fp},ks.length=ds.length->AA K g H 0 ds us R->∃xG,((ks.zip us).map fun kv=>if kv.1=k then(kv.1,w) else kv)=ks.zip xG/\AA K g H 0 (Sf k x ks ds) xG wX/\ks.length=(Sf k x ks ds).length:=fun{ks ds us R} hl h=>by
      induction ks generalizing ds us R with
      | nil=>exact⟨[],by simp,by cases ds<;>exact AA.nil,by cases ds<;>rfl⟩
      | cons j ks ih =>
        cases ds with
        | nil=>cases hl
        | cons d ds =>
          unfold AA at h;obtain⟨v,r,P1,P2,rfl,h1,h2,_⟩:=h;obtain⟨xG,e1,e2,e3⟩:=ih (by simpa using hl) h2;refine⟨(if j=k then w else v)::xG,?_,?_,by simp[Sf];omega⟩
          · rw[M3,D3,M3,e1]
            by_cases q:j=k<;>simp[q]
          · unfold Sf;refine((AA.cons (P1:=wX) (P2:=wX) ?_ e2 (fun _ z=>z.elim)).iff fun a=>⟨fun z=>z.elim,fun z=>z.elim id id⟩)
            by_cases q:j=k
            · rw[if_pos q,if_pos q];exact hx
            · rw[if_neg q,if_neg q];exact h1.z
    exact this hl h
  · rw[if_neg c,if_neg c,if_neg c];refine⟨us++[w],?_,?_,by simp[hl]⟩
    · rw[List.zip_append xp];rfl
    · exact(AA.app (P:=wX) (Q:=wX) h.z ((AA.cons (P1:=wX) (P2:=wX) hx AA.nil fun _ z=>z.elim).iff fun a=>⟨fun z=>z.elim,fun z=>z.elim id id⟩) fun _ z=>z.elim).iff fun a=>⟨fun z=>z.elim,fun z=>z.elim id id⟩
theorem Sd{ks:List Aa}(h:Rep K g H o (.xH ks ds) v P):∃a us,v=.ref a/\H a=some (.dK (ks.zip us))/\ks.length=ds.length/\AA K g H 0 ds us wX:=by
 unfold Rep at h;obtain⟨a,us,e,h1,_,_,⟨h5,R,h6⟩,_⟩:=h;exact⟨a,us,e,h1,h5,h6.z⟩
theorem ZV{ks:List Aa}(h:Rep K g H 1 (.xH ks ds) v P):∃a us,v=.ref a/\H a=some (.dK (ks.zip us))/\ks.length=ds.length/\AA K g H 0 ds us wX /\
    ∀xg xY xG,xg.length=xY.length->AA K g H 0 xY xG wX->Step g P H g P (upd H a (.dK (xg.zip xG)))/\Rep K g (upd H a (.dK (xg.zip xG))) 1 (.xH xg xY) (.ref a) P:=by
  have ok:=h.wc;unfold Rep at h;obtain⟨a,us,e,h1,h2,h3,⟨h5,R,h6⟩,h4⟩:=h;have pa:P a:=(h4 a).mpr ⟨by decide,rfl⟩;refine⟨a,us,e,h1,h5,h6.z,fun xg xY xG hl hr=>?_⟩;have st:Step g P H g P (upd H a (.dK (xg.zip xG))):=by
    refine⟨fun b o hb n=>?_,fun b hb=>?_,fun _ z=>z,fun _ z=>.inl z,⟨[],by simp⟩,fun _ z=>.inl z,fun z b hb q=>?_,Gk h1 (fun _ _ _ z=>by cases z)⟩
    · unfold upd;rw[if_neg fun e=>n (by rw[e];exact pa)];exact hb
    · unfold upd at hb;split at hb
      · cases hb
      · exact hb
    · unfold upd at q;split at q
      · cases q
      · exact z b hb q
  refine⟨st,?_⟩;unfold Rep;exact⟨a,xG,rfl,by unfold upd;rw[if_pos rfl],(fun z=>(rP z).elim),(fun _=>h3 (by decide)),⟨hl,wX,hr.held st ok fun _ z=>z.elim⟩,h4⟩
theorem AA.zCj:∀{o:Nat} {ds:List Dv} {vs:List V} {P:Fp} {ks:List Aa},AA K g H o ds vs P->IB ds=some ks->vs=ks.map kV
 | o,[],vs,P,ks,h,e=>by cases e;unfold AA at h;exact h.1
 | o,d::ds,vs,P,ks,h,e=>by
  unfold AA at h;obtain⟨v,r,P1,P2,rfl,h1,h2,_⟩:=h;unfold IB at e;cases e1:EU d with
  | none=>rw[e1] at e;cases e
  | some k =>
   cases e2:IB ds with
   | none=>rw[e1,e2] at e;cases e
   | some xg =>
    rw[e1,e2] at e;cases e;rw[EN h1 e1,AA.zCj h2 e2];rfl
theorem MM{k:List Aa}(h:Rep K g H o d v P)(e:gQ d=some k):∃b,v=.ref b/\H b=some (.tup (k.map kV)):=by
 cases d with
 | tup ds =>
  unfold Rep at h;obtain⟨b,vs,rfl,h1,h2⟩:=h;rw[AA.zCj h2 e] at h1;exact⟨b,rfl,h1⟩
 | _=>cases e
theorem lO{ks:List (NK Aa)}(h:Rep K g H o (.yh ks ds) v P):∃a us,v=.ref a/\H a=some (.dN (ks.zip us))/\ks.length=ds.length/\AA K g H 0 ds us wX:=by
 unfold Rep at h;obtain⟨a,us,e,h1,_,_,⟨h5,R,h6⟩,_⟩:=h;exact⟨a,us,e,h1,h5,h6.z⟩
theorem ZU{ks:List (NK Aa)}(h:Rep K g H 1 (.yh ks ds) v P):∃a us,v=.ref a/\H a=some (.dN (ks.zip us))/\ks.length=ds.length/\AA K g H 0 ds us wX /\
    ∀(xg:List (NK Aa)) xY xG,xg.length=xY.length->AA K g H 0 xY xG wX->Step g P H g P (upd H a (.dN (xg.zip xG)))/\Rep K g (upd H a (.dN (xg.zip xG))) 1 (.yh xg xY) (.ref a) P:=by
  have ok:=h.wc;unfold Rep at h;obtain⟨a,us,e,h1,h2,h3,⟨h5,R,h6⟩,h4⟩:=h;have pa:P a:=(h4 a).mpr ⟨by decide,rfl⟩;refine⟨a,us,e,h1,h5,h6.z,fun xg xY xG hl hr=>?_⟩;have st:Step g P H g P (upd H a (.dN (xg.zip xG))):=by
    refine⟨fun b o hb n=>?_,fun b hb=>?_,fun _ z=>z,fun _ z=>.inl z,⟨[],by simp⟩,fun _ z=>.inl z,fun z b hb q=>?_,Gk h1 (fun _ _ _ z=>by cases z)⟩
    · unfold upd;rw[if_neg fun e=>n (by rw[e];exact pa)];exact hb
    · unfold upd at hb;split at hb
      · cases hb
      · exact hb
    · unfold upd at q;split at q
      · cases q
      · exact z b hb q
  refine⟨st,?_⟩;unfold Rep;exact⟨a,xG,rfl,by unfold upd;rw[if_pos rfl],(fun z=>(rP z).elim),(fun _=>h3 (by decide)),⟨hl,wX,hr.held st ok fun _ z=>z.elim⟩,h4⟩
def QX:List Dv->Option (NK Aa)
 | []=>some []
 | d::ds=>((EU d).map Sum.inl |>.or ((gQ d).map Sum.inr)).bind fun k=>(QX ds).bind fun ks=>some (k::ks)
def SH:Dv->Option (NK Aa)
 | .tup ds=>QX ds
 | _=>none
theorem GJ:∀{o:Nat} {ds:List Dv} {vs:List V} {P:Fp} {k:NK Aa},AA K g H o ds vs P->QX ds=some k->YH H k vs
 | o,[],vs,P,ks,h,e=>by cases e;unfold AA at h;exact h.1
 | o,d::ds,vs,P,ks,h,e=>by
  unfold AA at h;obtain⟨v,r,P1,P2,rfl,h1,h2,_⟩:=h;unfold QX at e;obtain⟨k,e1,e⟩:=J8.mp e;obtain⟨xg,e2,e⟩:=J8.mp e;cases e;rcases V6.mp e1 with e1 | ⟨_,e1⟩
  ·obtain⟨x,ex,rfl⟩:=D7.mp e1;exact⟨r,by rw[EN h1 ex],GJ h2 e2⟩
  ·obtain⟨x,ex,rfl⟩:=D7.mp e1;obtain⟨b,rfl,hb⟩:=MM h1 ex;exact⟨b,r,rfl,hb,GJ h2 e2⟩
theorem Dq{k:NK Aa}(h:Rep K g H o d v P)(e:SH d=some k):∃b,v=.ref b/\NS H k b:=by
 cases d with
 | tup ds =>
  unfold Rep at h;obtain⟨b,vs,rfl,h1,h2⟩:=h;exact⟨b,rfl,vs,h1,GJ h2 e⟩
 | _=>cases e
theorem Ro(h:Rep K g H 1 (.xH [] ds) v P):∃a,v=.ref a/\H a=some (.dK []) /\
    ∀(xg:List (NK Aa)) xY xG,xg.length=xY.length->AA K g H 0 xY xG wX->Step g P H g P (upd H a (.dN (xg.zip xG)))/\Rep K g (upd H a (.dN (xg.zip xG))) 1 (.yh xg xY) (.ref a) P:=by
  have ok:=h.wc;unfold Rep at h;obtain⟨a,us,e,h1,h2,h3,⟨h5,R,h6⟩,h4⟩:=h;have pa:P a:=(h4 a).mpr ⟨by decide,rfl⟩;refine⟨a,e,h1,fun xg xY xG hl hr=>?_⟩;have st:Step g P H g P (upd H a (.dN (xg.zip xG))):=by
    refine⟨fun b o hb n=>?_,fun b hb=>?_,fun _ z=>z,fun _ z=>.inl z,⟨[],by simp⟩,fun _ z=>.inl z,fun z b hb q=>?_,Gk h1 (fun _ _ _ z=>by cases z)⟩
    · unfold upd;rw[if_neg fun e=>n (by rw[e];exact pa)];exact hb
    · unfold upd at hb;split at hb
      · cases hb
      · exact hb
    · unfold upd at q;split at q
      · cases q
      · exact z b hb q
  refine⟨st,?_⟩;unfold Rep;exact⟨a,xG,rfl,by unfold upd;rw[if_pos rfl],(fun z=>(rP z).elim),(fun _=>h3 (by decide)),⟨hl,wX,hr.held st ok fun _ z=>z.elim⟩,h4⟩
end
noncomputable abbrev Mu:=Dv->List Dv->Option (Dv×Dv)
def Ta(K:W.Frag)(p:Mu)(R:V->List V->Hp->VK->Prop):Prop:=∀g H x v P ds us r y Q,Zd g H->Rep K g H 1 x v P->AA K g H 0 ds us wX->p x ds=some (r,y) ->
 (∀w H' P',Step g P H g P' H'->Rep K g H' 1 y v P'->Rep K g H' 0 r w wX->Q w H')->R v us H Q
noncomputable def kind:Dv->String
 | .lst _ => "list"
 | .xQ _ => "list"
 | .str _ => "str"
 | .int _ => "int"
 | .zZ _ _ => "dict"
 | .xH _ _ => "dict"
 | .tup _ => "tuple"
 | _ => "?"
def Km{α:Type}(T:String)(d:Dv)(o:Option α):Option α:=if kind d=T then o else none
variable {T:String}
theorem Dr{α:Type}{o:Option α}{a:α}(h:Km T d o=some a):kind d=T/\o=some a:=by
 unfold Km at h;split at h
 ·rename_i z;exact⟨z,h⟩
 ·cases h
def WU(T:String)(i:Nat)(p:Mu)(fa:Ev (List Dv)):Ev Dv:=fun R m k=>Km T (m.at i) (fa R m fun ds m1=>(p (m1.at i) ds).bind fun r=>k r.1 (m1.set i r.2))
variable {vs:List V}
section
variable {K:W.Frag} {g:G} {H:Hp} {σ:St} {Γ Γ':Gm} {js:List Nat} {as:List Ar}
theorem NX(h:Rep K g H o d v P)(e:kind d=T)(hT:T = "list" \/ T = "str" \/ T = "int" \/ T = "dict"):mf K T v H:=by
 subst e;cases d with
 | lst ds=>unfold Rep at h;obtain⟨a,vs,P',rfl,h1,_⟩:=h;exact .inl ⟨rfl,vs,.inl (.inl h1.1)⟩
 | xQ ns=>unfold Rep at h;obtain⟨⟨a,rfl,h1⟩,_⟩:=h;exact .inl ⟨rfl,_,h1.sq⟩
 | str l=>unfold Rep at h;rw[h.1];rfl
 | int i=>unfold Rep at h;rw[h.1];rfl
 | zZ ks l=>unfold Rep at h;obtain⟨a,vs,rfl,h1,_⟩:=h;exact .inr (.inr (.inl ⟨rfl,.inr ⟨_,h1⟩⟩))
 | xH ks l=>unfold Rep at h;obtain⟨a,vs,rfl,h1,_⟩:=h;exact .inr (.inr (.inl ⟨rfl,.inl ⟨_,h1⟩⟩))
 | _=>rcases hT with h | h | h | h<;>simp[kind] at h
theorem Zn{i:Nat}{p:Mu}{R:V->List V->Hp->VK->Prop}(hR:Ta K p R)(hT:T = "list" \/ T = "str" \/ T = "int" \/ T = "dict")(c:AE Γ as Γ' js)(he:SX as=true)(h0:∃o,Γ[i]?=some (some o))(hi:Γ'[i]?=some (some 1)){Q:VK}
    (h:tE K Γ 0 Γ' (js++[i]) (WU T i p (Ab as)) σ H Q):jN K T R (HL i) (Bt K as) σ H Q:=by
  obtain⟨g,m,P,r,R',k,res,e,q⟩:=h;obtain⟨e0,e⟩:=Dr e;obtain⟨o0,h0⟩:=h0;obtain⟨v0,P0,zh,rv0,_⟩:=r.zq h0;refine⟨v0,zh,NX rv0 e0 hT,AU as r c e fun ds m1 g1 P1 vs H1 hk ag s ar r1=>?_⟩;obtain⟨⟨rs,y⟩,e1,e2⟩:=wV hk;obtain⟨v,Pa,Pr,ev,em,rv,r2,n,hP⟩:=r1.take hi;rw[zh] at ev;cases ev;refine hR g1 H1 _ v0 Pa ds vs rs y Q r1.zd rv (ar.zAO he) e1 fun w H2 P' s2 ry rr=>?_
  have r3:=r2.held s2 rv.wc fun a q z=>n a z q
  have n3:=s2.out r2.wc fun a q z=>n a z q
  have hil:i < Γ'.length:=(C0.mp hi).1;obtain⟨P4,r4,sp⟩:=r3.putIn hil zh ry fun a q z=>n3 a z q
  rw[HV hi] at r4;refine q rs _ g1 P4 wX w H2 e2 (ag.trans Bj.set) (s.trans ((s2.frame (R:=Pr)).sub (fun a z=>(hP a).mpr z) fun a z=>z.elim (fun z=>sp a z) F1)) rr r4 fun _ _ z=>z
theorem Step.upd{a:B5}{o u:HO}{P':Fp}(h:H a=some u)(nu:∀C dx fs,u≠.ins C dx fs)(hs:∀b,P' b->b=a\/H b=none):Step g (fun b=>b=a) H g P' (upd H a o):=by
 have dm:∀b,L2.upd H a o b=none->H b=none:=fun b q=>by
  by_cases hb:b=a
  ·subst hb;rw[AF] at q;cases q
  ·rw[AB hb] at q;exact q
 exact⟨fun b u q n=>by rw[AB n];exact q,dm,fun _ q=>q,fun _ q=>.inl q,⟨[],by simp⟩,hs,fun z b q e=>z b q (dm b e),Gk h nu⟩
theorem EI{xs:List Dv}(h:Rep K g H 1 (.lst xs) v P):∃a vs,v=.ref a/\H a=some (.lst vs)/\¬g.Z a/\AA K g H 0 xs vs wX/\(∀b,P b↔b=a) /\
    ∀ws,Step g P H g P (upd H a (.lst ws))/\(∀{d:Dv} {u:V},Rep K g H 0 d u wX->Rep K g (upd H a (.lst ws)) 0 d u wX)/\∀ys,AA K g H 0 ys ws wX->Rep K g (upd H a (.lst ws)) 1 (.lst ys) (.ref a) P:=by
  unfold Rep at h;obtain⟨a,vs,P',rfl,h1,h2,h3,h5⟩:=h;have hP:∀b,P b↔b=a:=fun b=>by rw[h5 b];exact⟨fun z=>z.elim (fun z=>z.2) fun z=>(h2.xA b z).elim,fun z=>.inl ⟨by decide,z⟩⟩
  have eP:P=fun b=>b=a:=funext fun b=>propext (hP b)
  have hz:=h1.2.2 (by decide);have oka:we g H fun b=>b=a:=fun b q=>by subst q;exact⟨by rw[h1.1];trivial,hz⟩
  refine⟨a,vs,rfl,h1.1,hz,h2.z,hP,fun ws=>?_⟩;have st:Step g (fun b=>b=a) H g (fun b=>b=a) (upd H a (.lst ws)):=Step.upd h1.1 (fun _ _ _ z=>by cases z) fun b z=>.inl z
  refine⟨by rw[eP];exact st,fun r=>r.held st oka fun _ z=>z.elim,fun ys r=>?_⟩;unfold Rep;exact⟨a,ws,wX,rfl,⟨AF,(fun z=>by cases z),fun _=>hz⟩,r.held st oka fun _ z=>z.elim,fun z=>z,fun b=>by rw[hP b];exact⟨fun z=>.inl ⟨by decide,z⟩,fun z=>z.elim (fun z=>z.2) F1⟩⟩
theorem Dn:∀{ds:List Dv} {vs:List V},AA K g H 0 ds vs wX↔ds.length=vs.length/\∀(i:Nat) (d:Dv) (v:V),ds[i]?=some d->vs[i]?=some v->Rep K g H 0 d v wX
 | [],vs=>⟨fun h=>⟨h.len,fun i d v e=>by simp at e⟩,fun h=>by
  have:vs=[]:=F8 h.1.symm;subst this;exact AA.nil⟩
 | x::xs,vs=>by
  refine⟨fun h=>⟨h.len,fun i d v e1 e2=>?_⟩,fun h=>?_⟩
  ·obtain⟨v',P,e',r,_⟩:=h.get e1;rw[e2] at e';cases e';exact r.z
  ·cases vs with
   | nil=>simp at h
   | cons v vs =>
    exact(AA.cons (h.2 0 x v rfl rfl) (Dn.mpr ⟨by simpa using h.1,fun i d u e1 e2=>h.2 (i+1) d u (by simpa using e1) (by simpa using e2)⟩) fun _ z=>z.elim).iff fun a=>⟨fun z=>z.elim,fun z=>z.elim id id⟩
theorem BO{es:List Dv}{us:List V}(h:AA K g H 0 ds vs wX)(k:AA K g H 0 es us wX):AA K g H 0 (ds++es) (vs++us) wX:=(AA.app h k fun _ z=>z.elim).iff fun a=>⟨fun z=>z.elim,fun z=>z.elim id id⟩
theorem DC(h:Rep K g H 0 d v wX):AA K g H 0 [d] [v] wX:=(AA.cons h AA.nil fun _ z=>z.elim).iff fun a=>⟨fun z=>z.elim,fun z=>z.elim id id⟩
theorem Ap(h:AA K g H 0 (d::ds) vs wX):∃v us,vs=v::us/\Rep K g H 0 d v wX/\AA K g H 0 ds us wX:=by
 unfold AA at h;obtain⟨v,r,P1,P2,rfl,h1,h2,_⟩:=h;exact⟨v,r,rfl,h1.z,h2.z⟩
theorem Af(h:AA K g H 0 [] vs wX):vs=[]:=by unfold AA at h;exact h.1
theorem Rf(j:Nat)(h:AA K g H 0 ds vs wX)(r:Rep K g H 0 d v wX):AA K g H 0 (ds.set j d) (vs.set j v) wX:=by
 have h0:=Dn.mp h;refine Dn.mpr ⟨by simp[h0.1],fun i x y e1 e2=>?_⟩;rcases ED e1 with⟨rfl,rfl⟩ | ⟨n,e1⟩
 ·rcases ED e2 with⟨_,rfl⟩ | ⟨n,_⟩
  ·exact r
  ·exact(n rfl).elim
 ·rcases ED e2 with⟨z,_⟩ | ⟨_,e2⟩
  ·exact(n z).elim
  ·exact h0.2 i x y e1 e2
theorem DE:Rep K g H o .wa .wa wX:=by unfold Rep;exact⟨rfl,fun _ z=>z⟩
noncomputable def Ay(x:Dv)(ds:List Dv):Option (Dv×Dv):=match x,ds with
 | .lst xs,[d]=>if xs.length<=1000000 then some (.wa,.lst (xs++[d])) else none
 | _,_=>none
noncomputable def DY(x:Dv)(ds:List Dv):Option (Dv×Dv):=match x,ds with
 | .lst xs,[.lst ys]=>if xs.length+ys.length<=1000000 then some (.wa,.lst (xs++ys)) else none
 | .lst xs,[.tup ys]=>if xs.length+ys.length<=1000000 then some (.wa,.lst (xs++ys)) else none
 | _,_=>none
theorem Ry:Ta K Ay QD:=fun g H x v P ds us r y Q zd rx rd e k=>by
 unfold Ay at e;split at e
 ·rename_i xs d;split at e
  ·rename_i hl;cases e;obtain⟨a,vs,rfl,ha,hz,hx,hP,go⟩:=EI rx;obtain⟨u,xG,rfl,hu,h2⟩:=Ap rd;cases Af h2;obtain⟨s,hd,mk⟩:=go (vs++[u]);exact⟨a,vs,u,rfl,rfl,ha,U9 (by rw[<- hx.len];exact hl) (by decide),k _ _ P s (mk _ (BO hx (DC hu))) DE⟩
  ·cases e
 ·cases e
theorem Rx:Ta K DY (fun x vs H Q=>QC x vs H Q\/Ls x vs H Q):=fun g H x v P ds us r y Q zd rx rd e k=>by
 unfold DY at e;split at e
 ·rename_i xs ys;split at e
  ·rename_i hl;cases e;obtain⟨a,vs,rfl,ha,hz,hx,hP,go⟩:=EI rx;obtain⟨u,xG,rfl,hu,h2⟩:=Ap rd;cases Af h2;unfold Rep at hu;obtain⟨b,ws,P',rfl,h1,h3,_⟩:=hu;obtain⟨s,hd,mk⟩:=go (vs++ws);exact .inl ⟨a,b,vs,ws,rfl,rfl,ha,h1.1,B9 (by rw[<- hx.len,<- h3.len];exact hl) (by decide),k _ _ P s (mk _ (BO hx h3.z)) DE⟩
  ·cases e
 ·rename_i xs ys;split at e
  ·rename_i hl;cases e;obtain⟨a,vs,rfl,ha,hz,hx,hP,go⟩:=EI rx;obtain⟨u,xG,rfl,hu,h2⟩:=Ap rd;cases Af h2;unfold Rep at hu;obtain⟨b,ws,rfl,h1,h3⟩:=hu;obtain⟨s,hd,mk⟩:=go (vs++ws);exact .inr ⟨a,b,vs,ws,rfl,rfl,ha,h1,B9 (by rw[<- hx.len,<- h3.len];exact hl) (by decide),k _ _ P s (mk _ (BO hx h3.z)) DE⟩
  ·cases e
 ·cases e
end
def cL(i:Nat)(p:Dv->Dv->Dv->Option Dv)(f:Ev Dv)(fk:Ev (List Dv)):Es:=fun R m k=>f R m fun d m1=>fk R m1 fun ks m2=>match ks with | [j]=>(p (m2.at i) j d).bind fun y=>k.nx (m2.set i y) | _=>none
def BF(x k d:Dv):Option Dv:=match x,k with
 | .lst xs,.int k=>(Tj xs.length k).bind fun j=>some (.lst (xs.set j d))
 | .xH ks ds,k=>((EU k).bind fun k=>if ks.length<=1000000 then some (.xH (JA k ks) (Iz k d ks ds)) else none).or (if ks.isEmpty=true then(SH k).bind fun k=>some (.yh [k] [d]) else none)
 | .yh ks ds,k=>(SH k).bind fun k=>if ks.length<=1000000 then some (.yh (JA k ks) (Iz k d ks ds)) else none
 | _,_=>none
def iZ(K:W.Frag)(p:Dv->Dv->Dv->Option Dv)(T:NN):Prop:=∀g H x v P j vj d u y (Q:Hp->Prop),Zd g H->Rep K g H 1 x v P->RA K g H [j] [vj]->Rep K g H 0 d u wX->p x j d=some y->(∀H' P',Step g P H g P' H'->Rep K g H' 1 y v P'->Q H')->T v vj u H Q
theorem eC{K:W.Frag}:iZ K BF (fun o i v H Q=>Ur o i v H Q\/ou o i v H Q\/om o i v H Q):=fun g H x v P j vj d u y Q zd rx rj rd e q=>by
 unfold BF at e;split at e
 ·rename_i xs kk;obtain⟨jj,ej,e⟩:=wV e;cases e;obtain⟨a,vs,rfl,ha,hz,hx,hP,go⟩:=EI rx;unfold RA at rj;obtain⟨w,wr,o,Po,ew,_,xo,_⟩:=rj;cases ew;rw[AI xo];obtain⟨s,hd,mk⟩:=go (vs.set jj u);exact .inl ⟨a,vs,kk,jj,rfl,rfl,ha,by rw[<- hx.len];exact ej,q _ P s (mk _ (Rf jj hx rd))⟩
 ·rename_i ks ds;rcases V6.mp e with e | ⟨_,e⟩
  ·obtain⟨k,ek,e⟩:=wV e;split at e
   ·rename_i hl;cases e;obtain⟨a,us,rfl,ha,xp,hx,go⟩:=ZV rx;unfold RA at rj;obtain⟨w,wr,o,Po,ew,_,xo,_⟩:=rj;cases ew;obtain⟨xG,e1,e2,e3⟩:=IR (k:=k) xp hx rd;obtain⟨s,mk⟩:=go _ _ xG e3 e2;refine .inr (.inl ⟨a,_,rfl,.inl ?_,q _ P s mk⟩);rw[EN xo ek,<- e1];refine Ei.k ha ?_;have:(ks.zip us).length<=ks.length:=by rw[rQ];omega
    have z:(1000000:Nat) < sizeLine:=by decide
    omega
   ·cases e
  ·split at e
   ·rename_i hk;obtain⟨k,ek,e⟩:=wV e;cases e;obtain rfl:ks=[]:=by cases ks with | nil=>rfl | cons _ _=>cases hk
    obtain⟨a,rfl,ha,go⟩:=Ro rx;unfold RA at rj;obtain⟨w,wr,o,Po,ew,_,xo,_⟩:=rj;cases ew;obtain⟨b,rfl,hb⟩:=Dq xo ek;obtain⟨s,mk⟩:=go [k] [d] [u] rfl ((AA.cons (P1:=wX) (P2:=wX) rd AA.nil fun _ z=>z.elim).iff fun a=>⟨fun z=>z.elim,fun z=>z.elim id id⟩);exact .inr (.inr ⟨a,_,rfl,⟨k,b,rfl,hb,.inr ⟨ha,rfl⟩⟩,q _ P s mk⟩)
   ·cases e
 ·rename_i ks ds;obtain⟨k,ek,e⟩:=wV e;split at e
  ·rename_i hl;cases e;obtain⟨a,us,rfl,ha,xp,hx,go⟩:=ZU rx;unfold RA at rj;obtain⟨w,wr,o,Po,ew,_,xo,_⟩:=rj;cases ew;obtain⟨xG,e1,e2,e3⟩:=IR (k:=k) xp hx rd;obtain⟨s,mk⟩:=go _ _ xG e3 e2;obtain⟨b,rfl,hb⟩:=Dq xo ek;refine .inr (.inr ⟨a,_,rfl,⟨k,b,rfl,hb,.inl ⟨_,ha,?_,?_⟩⟩,q _ P s mk⟩)
   ·have:(ks.zip us).length<=ks.length:=by rw[rQ];omega
    have z:(1000000:Nat) < sizeLine:=by decide
    omega
   ·rw[<- e1]
  ·cases e
 ·cases e
section
variable {K:W.Frag} {F:Fr} {wZ:Option Gm} {Γ wu Γ':Gm} {js js2:List Nat} {i:Nat} {f:Ev Dv} {a:Ar} {p:Dv->Dv->Dv->Option Dv} {T:NN}
theorem Uc(hp:iZ K p T)(c:AE wu [a] Γ' js2)(h0:∃o,wu[i]?=some (some o))(hi:Γ'[i]?=some (some 1)){D:Ends}{σ:St}{H:Hp}(h:tS K F wZ Γ (some Γ') (js++(js2++[i])) (cL i p f (Ab [a])) D σ H):Nj (tE K Γ 0 wu js f) (kz (HL i) (RU K a) T) D σ H:=by
 obtain⟨g,m,P,r,R,k,res,e,q⟩:=h;refine⟨g,m,P,r,R,_,res,e,fun d m1 g1 P1 Pv u H1 hk ag s rv r1 n=>?_⟩;obtain⟨o0,h0⟩:=h0;obtain⟨v0,P0,zh,_,_⟩:=r1.zq h0;refine⟨v0,zh,?_⟩;have rz:=rv.z;have s':Step g P H g1 P1 H1:=s.less fun _ z=>.inl z
 have key:Bt K [a] σ H1 fun vs H2=>∃w,vs=[w]/\T v0 w u H2 fun H3=>D.nx σ H3:=by
  refine AU [a] r1 c hk fun ds m2 g2 P2 vs H2 xy yf s2 ar r2=>?_
  have al:=ar.len;have ra:=ar.ra r2
  match ds,al.1,xy,ra with
  | [j],_,xy,ra =>
   have ra0:=ra;unfold RA at ra;obtain⟨w,wr,o,Po,rfl,_,h1,h2⟩:=ra;unfold RA at h2;subst h2;obtain⟨y,e1,e2⟩:=wV xy;obtain⟨v,Pa,Pr,ev,em,rx,r3,n3,hP⟩:=r2.take hi;rw[zh] at ev;cases ev;refine⟨w,rfl,hp g2 H2 _ v0 Pa j w d u y _ r2.zd rx ra0 (rz.held s2 r1.wc fun _ z=>z.elim) e1 fun H3 P' s3 ry=>?_⟩;have r4:=r3.held s3 rx.wc fun a q z=>n3 a z q
   have n4:=s3.out r3.wc fun a q z=>n3 a z q
   obtain⟨P5,r5,sp⟩:=r4.putIn (C0.mp hi).1 zh ry fun a q z=>n4 a z q
   rw[HV hi] at r5;exact q.nx Γ' _ g2 P5 σ H3 rfl e2 (ag.trans (yf.trans Bj.set)) ((s'.trans s2).trans ((s3.frame (R:=Pr)).sub (fun a z=>(hP a).mpr z) fun a z=>sp a z)) Io.refl r5
 have mono:∀(Q1 Q2:VK),(∀v H,Q1 v H->Q2 v H)->RU K a σ H1 Q1->RU K a σ H1 Q2:=by
  intro Q1 Q2 h12 t;cases a with
  | ev Γa Γb ja fa =>
   obtain⟨g,m,P,r,R,k,res,e,q⟩:=t;exact⟨g,m,P,r,R,k,res,e,fun d m' g' P' Pv v H' h1 h2 h3 h4 h5 h6=>h12 _ _ (q d m' g' P' Pv v H' h1 h2 h3 h4 h5 h6)⟩
  | rf i=>obtain⟨v,e,q⟩:=t;exact⟨v,e,h12 _ _ q⟩
  | fd i f=>obtain⟨v,e,a,C,dx,fs,w,h1,h2,h3,h4,h5,q⟩:=t;exact⟨v,e,a,C,dx,fs,w,h1,h2,h3,h4,h5,h12 _ _ q⟩
 refine mono _ _ (fun v H2 z=>?_) key;obtain⟨w,ew,z⟩:=z;cases ew;exact z
end
def WV(T:String)(a:Ar)(as:List Ar)(p:Pr):Ev Dv:=match a with
 | .rf i=>fun R m k=>Km T (m.at i) (Ab as R m fun ds m1=>(p (m1.at i::ds)).bind fun d=>k d m1)
 | .ev _ _ _ f=>fun R m k=>f R m fun x m1=>Km T x (Ab as R m1 fun ds m2=>(p (x::ds)).bind fun d=>k d m2)
 | .fd _ _=>fun _ _ _=>none
def mU(r:V->List V->Hp->VK->Prop):RG:=fun vs H Q=>match vs with | x::us=>r x us H Q | _=>False
theorem gE{K:W.Frag}{σ:St}{H:Hp}{Γ Γ':Gm}{js:List Nat}{a:Ar}{as:List Ar}{p:Pr}{r:V->List V->Hp->VK->Prop}(hp:AK K p o (mU r))(hT:T = "list" \/ T = "str" \/ T = "int" \/ T = "dict")(c:AE Γ (a::as) Γ' js){Q:VK}
    (h:tE K Γ o Γ' js (WV T a as p) σ H Q):jN K T r (RU K a) (Bt K as) σ H Q:=by
  obtain⟨g,m,P,rl,R',k,res,e,q⟩:=h;cases a with
  | fd i f=>cases e
  | rf i =>
    obtain⟨e0,e⟩:=Dr e;unfold AE at c;obtain⟨⟨o0,h0⟩,⟨o1,xq,h1⟩,c⟩:=c;obtain⟨v0,P0,zh,rv0,_⟩:=rl.zq h0;refine⟨v0,zh,NX rv0 e0 hT,AU as rl c e fun ds m1 g1 P1 vs H1 hk ag s ar r1=>?_⟩;obtain⟨d,e1,e2⟩:=wV hk;obtain⟨v1,z7,ev1,rv1,_⟩:=r1.zq h1;rw[zh] at ev1;cases ev1;refine hp g1 H1 _ (v0::vs) d Q r1.zd (by unfold RA;exact⟨v0,vs,o1,z7,rfl,xq,rv1,ar.ra r1⟩) e1 fun v H2 nw=>?_
    obtain⟨Pv,s2,h1,r2,n2⟩:=Ac.go s r1 nw;exact q d m1 g1 P1 Pv v H2 e2 ag s2 h1 r2 n2
  | ev wu w8 js1 f =>
    unfold AE at c;obtain⟨rfl,js2,rfl,c⟩:=c;refine⟨g,m,P,rl,R',_,res,e,fun x m1 g1 P1 Pv v0 H1 hk ag s rv r1 n=>?_⟩;obtain⟨e0,hk⟩:=Dr hk;have rz:=rv.z;have s':Step g P H g1 P1 H1:=s.less fun _ z=>.inl z
    refine⟨NX rz e0 hT,AU as r1 c hk fun ds m2 g2 P2 vs H2 xy yf s2 ar r2=>?_⟩;obtain⟨d,e1,e2⟩:=wV xy;refine hp g2 H2 _ (v0::vs) d Q r2.zd (by unfold RA;exact⟨v0,vs,0,wX,rfl,by decide,rz.held s2 r1.wc fun _ z=>z.elim,ar.ra r2⟩) e1 fun v H3 nw=>?_
    obtain⟨Pw,s3,h1,r3,n3⟩:=Ac.go (s'.trans s2) r2 nw;exact q d m2 g2 P2 Pw v H3 e2 (ag.trans yf) s3 h1 r3 n3
theorem Zp{K:W.Frag}{σ:St}{H:Hp}{Γ Γ':Gm}{js:List Nat}{a:Ar}{as:List Ar}{p:Pr}{r:V->List V->Hp->VK->Prop}(hp:AK K p o (mU r))(c:AE Γ (a::as) Γ' js){Q:VK}
    (h:tE K Γ o Γ' js (WV "tuple" a as p) σ H Q):nN r (RU K a) (Bt K as) σ H Q:=by
  obtain⟨g,m,P,rl,R',k,res,e,q⟩:=h
  have ty:∀{g:G} {H:Hp} {o:Nat} {d:Dv} {v:V} {P:Fp},Rep K g H o d v P->kind d = "tuple" -> ∃a us,v=.ref a/\H a=some (.tup us):=fun{g H o d v P} h e=>by
    cases d with
    | tup ds=>unfold Rep at h;obtain⟨a,vs,rfl,h1,_⟩:=h;exact⟨a,vs,rfl,h1⟩
    | _=>simp[kind] at e
  cases a with
  | fd i f=>cases e
  | rf i =>
    obtain⟨e0,e⟩:=Dr e;unfold AE at c;obtain⟨⟨o0,h0⟩,⟨o1,xq,h1⟩,c⟩:=c;obtain⟨v0,P0,zh,rv0,_⟩:=rl.zq h0;refine⟨v0,zh,ty rv0 e0,AU as rl c e fun ds m1 g1 P1 vs H1 hk ag s ar r1=>?_⟩;obtain⟨d,e1,e2⟩:=wV hk;obtain⟨v1,z7,ev1,rv1,_⟩:=r1.zq h1;rw[zh] at ev1;cases ev1;refine hp g1 H1 _ (v0::vs) d Q r1.zd (by unfold RA;exact⟨v0,vs,o1,z7,rfl,xq,rv1,ar.ra r1⟩) e1 fun v H2 nw=>?_
    obtain⟨Pv,s2,h1,r2,n2⟩:=Ac.go s r1 nw;exact q d m1 g1 P1 Pv v H2 e2 ag s2 h1 r2 n2
  | ev wu w8 js1 f =>
    unfold AE at c;obtain⟨rfl,js2,rfl,c⟩:=c;refine⟨g,m,P,rl,R',_,res,e,fun x m1 g1 P1 Pv v0 H1 hk ag s rv r1 n=>?_⟩;obtain⟨e0,hk⟩:=Dr hk;have rz:=rv.z;have s':Step g P H g1 P1 H1:=s.less fun _ z=>.inl z
    refine⟨ty rz e0,AU as r1 c hk fun ds m2 g2 P2 vs H2 xy yf s2 ar r2=>?_⟩;obtain⟨d,e1,e2⟩:=wV xy;refine hp g2 H2 _ (v0::vs) d Q r2.zd (by unfold RA;exact⟨v0,vs,0,wX,rfl,by decide,rz.held s2 r1.wc fun _ z=>z.elim,ar.ra r2⟩) e1 fun v H3 nw=>?_
    obtain⟨Pw,s3,h1,r3,n3⟩:=Ac.go (s'.trans s2) r2 nw;exact q d m2 g2 P2 Pw v H3 e2 (ag.trans yf) s3 h1 r3 n3
end R
namespace L2
open PySem PySem.Spec PyProof.Rows
abbrev Up(xs:Array Nat):Prop:=∀i j,i < j->j < xs.size->xs.getD i 0 < xs.getD j 0
variable {xs:Array Nat}
theorem WL{i:Nat}(d e:Nat)(h:i < xs.size):xs.getD i d=xs.getD i e:=by
 simp[j6,h]
theorem IV(u:Up xs)(j:Nat):∀(fuel lo hi:Nat),hi<=lo+fuel->lo<=hi->hi<=xs.size->(∀i,i < lo->xs.getD i 0 < j)->(∀i,hi<=i->i < xs.size->j<=xs.getD i 0) ->
    SetTable.below.go xs j fuel lo hi<=xs.size/\(∀i,i < SetTable.below.go xs j fuel lo hi->xs.getD i 0 < j)/\∀i,SetTable.below.go xs j fuel lo hi<=i->i < xs.size->j<=xs.getD i 0
  | 0,lo,hi,h1,h2,h3,h4,h5=>by
    have e:lo=hi:=Nat.le_antisymm h2 h1;subst e;exact⟨h3,h4,h5⟩
  | fuel+1,lo,hi,h1,h2,h3,h4,h5=>by
    unfold SetTable.below.go
    by_cases c:lo < hi
    · rw[if_pos c];simp only[];have hm:(lo+hi) / 2 < hi:=by omega
      have hm2:lo<=(lo+hi) / 2:=by omega
      have hs:(lo+hi) / 2 < xs.size:=C4 hm h3;rw[WL j 0 hs]
      by_cases c2:xs.getD ((lo+hi) / 2) 0 < j
      · rw[if_pos c2];refine IV u j fuel _ hi (by omega) (by omega) h3 (fun i hi'=>?_) h5;rcases qL (Nat.le_of_lt_succ hi') with z | z
        · exact U8 (u i _ z hs) c2
        · rw[z];exact c2
      · rw[if_neg c2];refine IV u j fuel lo _ (by omega) hm2 (R1 hs) h4 fun i hi' hz=>?_
        rcases qL hi' with z | z
        · exact B9 (R7 c2) (R1 (u _ i z hz))
        · rw[<- z];exact R7 c2
    · rw[if_neg c];have e:lo=hi:=by omega
      subst e;exact⟨h3,h4,h5⟩
theorem NI(u:Up xs)(j:Nat):SetTable.below xs j<=xs.size/\(∀i,i < SetTable.below xs j->xs.getD i 0 < j)/\∀i,SetTable.below xs j<=i->i < xs.size->j<=xs.getD i 0:=
 IV u j xs.size 0 xs.size (by omega) (E7 _) (B0 _) (fun _ h=>absurd h (u4 _)) fun i h1 h2=>absurd h2 (Nat.not_lt_of_le h1)
theorem Gn:Up xs↔xs.toList.Pairwise (· < ·):=by
 rw[qS];constructor
 ·intro u i j hi hj h;have hj':j < xs.size:=by simpa using hj
  have hi':i < xs.size:=by simpa using hi
  have:=u i j h hj';simpa[j6,hi',hj'] using this
 ·intro u i j h hj;have hi:i < xs.size:=U8 h hj;have:=u i j (by simpa using hi) (by simpa using hj) h;simpa[j6,hi,hj] using this
theorem dO(u:Up xs){j:Nat}(h:xs[SetTable.below xs j]?≠some j):Up (SetTable.insertAt xs (SetTable.below xs j) j):=by
 obtain⟨h1,h2,h3⟩:=NI u j;have u':=Gn.mp u;rw[Gn,SetTable.toList_insertAt];have e:xs.toList=xs.toList.take (SetTable.below xs j)++xs.toList.drop (SetTable.below xs j):=(rV _ _).symm;rw[e] at u';rw[List.pairwise_append] at u' ⊢;have ad:∀b∈xs.toList.drop (SetTable.below xs j),j < b:=fun b hb=>by
  obtain⟨k,hk⟩:=k9 hb;rw[sv] at hk;have hk':xs[SetTable.below xs j+k]?=some b:=by simpa using hk
  have hl:SetTable.below xs j+k < xs.size:=(N6.mp hk').1;have g:xs.getD (SetTable.below xs j+k) 0=b:=by simp[j6,hl,(N6.mp hk').2]
  have:=h3 _ (Nat.le_add_right _ k) hl;rw[g] at this;rcases qL this with z | z
  ·exact z
  ·subst z;cases k with
   | zero=>exact(h hk').elim
   | succ k =>
    have hl0:SetTable.below xs j < xs.size:=by omega
    have a:=u (SetTable.below xs j) (SetTable.below xs j+(k+1)) (by omega) hl;rw[g] at a;exact absurd (h3 _ (B0 _) hl0) (Nat.not_le_of_lt a)
 refine⟨u'.1,List.pairwise_cons.mpr ⟨ad,u'.2.1⟩,fun a ha b hb=>?_⟩;have la:a < j:=by
  obtain⟨k,hk⟩:=k9 ha;rw[tG] at hk;split at hk
  ·rename_i w6;have hk':xs[k]?=some a:=by simpa using hk
   have hl:k < xs.size:=(N6.mp hk').1;have g:xs.getD k 0=a:=by simp[j6,hl,(N6.mp hk').2]
   rw[<- g];exact h2 k w6
  ·cases hk
 rcases D0.mp hb with z | z
 ·rw[z];exact la
 ·exact U8 la (ad b z)
structure Tk (led:Bool) (t:SetTable):Prop where
 led:t.led=led
 dm:t.dummies=#[]
 up:Up t.place
theorem Tw(n:Nat):Up (Array.range n):=by
 rw[Gn,Array.toList_range];exact Z7
variable {t:SetTable}
theorem Tk.standIn{led:Bool}(k:Tk led t)(n:Nat):Tk led (t.standIn n):=⟨k.led,rfl,Tw n⟩
theorem Qi{led:Bool}{t:SetTable}(k:Tk led t)(ha:Nat->Int)(h:Int):∀(fuel:Nat) (p:SetTable.Probe) (j:Nat) (d:Option Nat),p.dummy=none->SetTable.probe.go t ha h fuel p=some (.empty j d)->d=none/\t.place[SetTable.below t.place j]?≠some j
 | 0,_,_,_,_,e=>by cases e
 | fuel+1,p,j,d,hp,e=>by
  unfold SetTable.probe.go at e;have hd:SetTable.has t.dummies p.j=false:=by rw[k.dm];rfl
  cases q:t.slot p.j with
  | empty =>
   rw[q] at e;cases e;refine⟨hp,fun z=>?_⟩;unfold SetTable.slot at q;simp only[z,beq_self_eq_true,if_true] at q;cases q
  | dummy =>
   unfold SetTable.slot at q;simp only[hd,C6,if_false] at q;split at q<;>cases q
  | live i =>
   rw[q] at e;simp only at e;split at e
   ·cases e
   ·refine Qi k ha h fuel _ j d ?_ e;unfold SetTable.advance;split
    ·exact hp
    ·exact hp
theorem Tk.lay{led:Bool}(k:Tk led t)(es:Array (Int×Value))(h:Int)(x:Value):Tk led (layNew t es h x).2.1:=by
 unfold layNew;cases q:t.freeSlot h with
 | none=>exact k.standIn _
 | some f =>
  obtain⟨slot,wd⟩:=f;have hs:t.place[SetTable.below t.place slot]?≠some slot:=by
   unfold SetTable.freeSlot at q;split at q
   ·rename_i j d e;obtain⟨h1,h2⟩:=Qi k _ _ _ _ _ _ rfl e;subst h1;cases q;exact h2
   ·cases q
  have kp:Tk led (t.put slot).1:=by
   refine⟨k.led,?_,dO k.up hs⟩;show(if SetTable.has t.dummies slot then _ else t.dummies)=#[];rw[k.dm];rfl
  show Tk led (SetTable.orStandIn (t.put slot).1 _);unfold SetTable.orStandIn;split
  ·exact kp
  ·exact kp.standIn _
theorem Tk.zCG{led:Bool}(k:Tk led t)(es:Array (Int×Value))(n:Nat):Tk led (uD t es n).2.1:=by
 unfold uD;cases q:t.relaid (es.map (·.1)) n with
 | none=>exact k.standIn _
 | some f =>
  obtain⟨t',order⟩:=f;simp only[];split
  ·unfold SetTable.relaid SetTable.laid at q;simp only[Option.bind_eq_bind,J8,Option.pure_def,Q3,Prod.mk.injEq] at q;obtain⟨ow,_,rfl,_⟩:=q;refine⟨k.led,rfl,Gn.mpr ?_⟩;show List.Pairwise (· < ·) (vQ (fun x:Nat×Nat=>x.1) _);rw[uC];refine vk (R:=fun a b:Nat=>a < b) _ (fun a a' h b hb b' hb'=>?_) Z7;obtain⟨_,_,e⟩:=D7.mp hb;obtain⟨_,_,e'⟩:=D7.mp hb';subst e;subst e';exact h
  ·exact k.standIn _
noncomputable def iv:Value->Int
 | .int i _=>i
 | _=>0
section
variable {prog:E5} {w:G3} {A:F3} {E:Value->A6->Prop} {s:A6}
noncomputable abbrev BS(es:Array (Int×Value))(ep:Nat)(t:SetTable):Obj:={ cls:=.type "set", dict:=none,data:=.set es ep t }
def SQ(prog:E5)(w:G3)(h:F7)(a:B5)(ns:List Int):Prop:=∃es ep t,h.get? a=some (BS es ep t)/\t.fits es.size=true/\Tk (!w.params.followText "set-order") t/\ElemsOf (V7 prog w) es.toList/\(es.toList.map fun e=>iv e.2).Perm ns
theorem Vy{k:Int}{v:Value}(h:(V7 prog w).is k v=true):iv v=k/\∃t,v=.int k t:=by
 obtain⟨t,rfl⟩:=tP h;exact⟨rfl,t,rfl⟩
theorem Gp{es:Array (Int×Value)}{ns:List Int}(p:(es.toList.map fun e=>iv e.2).Perm ns):es.size=ns.length:=by
 have:=p.length_eq;simpa using this
theorem Nq{n:Nat}(h:n < 1000):n < scanBound:=U8 h (by decide)
theorem Lh{n:Nat}(h:n < 1001):n < scanBound:=U8 h (by decide)
theorem Lg{h:F7}{a:B5}{es es':Array (Int×Value)}{ep:Nat}{t':SetTable}(ho:h.get? a=some (BS es ep t)):(h.update a (vW es' t')).get? a=some (BS es' (ep+1) t'):=K2 (vW es' t') ho rfl
theorem dn{a:B5}{ns:List Int}{k:Int}{tk:Tok}{Q:Bool->A6->Prop}(hS:SQ prog w s.heap a ns)(hr:ns.length < 1000)
    (h:∀b h',O4 a s.heap h'->SQ prog w h' a (V0 ns k)->Q b { s with heap:=h' }):B7 (C9 prog w) A (setAddHashed a (.int k tk) ((V7 prog w).hash k)) Q E s:=by
  obtain⟨es,ep,t,ho,hf,hk,hel,hp⟩:=hS;have hz:=Gp hp;have zBC:(V7 prog w).is k (.int k tk)=true:=by simp[V7,rY]
  unfold setAddHashed setAddHashedIn;refine E8 (A0 (T3 ho rfl hf ?_));dsimp only;rw[byScan_of rfl (Nq (by rw[hz];exact hr)) hel];simp only[↓reduceIte];unfold setAddByScan;refine A0 ?_;refine A0 (Q5 ?_);refine A0 (wpAny_setScan_of zBC ho rfl hf hel ?_);cases hr':ve (fun e=>(V7 prog w).is k e.2) es.toList with
  | some j =>
    dsimp only;obtain⟨hj,hpj,_⟩:=List.findIdx?_eq_some_iff_getElem.mp hr';have hm:k∈ns:=hp.mem_iff.mp (D6.mpr ⟨es.toList[j],U2 hj,(Vy hpj).1⟩);have e0:V0 ns k=ns:=by unfold V0;exact if_pos (show(ns.any fun x=>x == k)=true from U1.mpr ⟨k,hm,beq_self_eq_true k⟩)
    refine A4 (A4 ?_);have:=h false s.heap (tq a s.heap) (by rw[e0];exact⟨es,ep,t,ho,hf,hk,hel,hp⟩);cases s;exact this
  | none =>
    dsimp only;have hm:k∉ns:=fun hm=>by
      obtain⟨e,he,hv⟩:=D6.mp (hp.mem_iff.mpr hm);obtain⟨⟨k',hk',_⟩,_⟩:=hel e he;have:=(Vy hk').1;rw[hv] at this;subst this;have:=List.findIdx?_eq_none_iff.mp hr' e he;rw[hk'] at this;cases this
    have e0:V0 ns k=ns++[k]:=by
      unfold V0;rw[if_neg fun z=>?_];obtain⟨x,hx,z⟩:=U1.mp z;exact hm (eq_of_beq z▸hx)
    rw[e0] at h;have yI:=layNew_perm t es ((V7 prog w).hash k) (.int k tk);have zAJ:=layNew_fits t es ((V7 prog w).hash k) (.int k tk);have hkt:=hk.lay es ((V7 prog w).hash k) (.int k tk);generalize layNew t es ((V7 prog w).hash k) (.int k tk)=L at yI zAJ hkt ⊢;obtain⟨Il,t1,wd,gave⟩:=L;dsimp only at yI zAJ hkt ⊢;rw[uE] at yI;have zCY:ElemsOf (V7 prog w) Il.toList:=(hel.push zBC rfl).perm yI;have hp1:(Il.toList.map fun e=>iv e.2).Perm (ns++[k]):=(yI.map _).trans (by rw[V3];exact hp.append (Z8 _))
    have gw:∀{b:Bool} {wY:A6} {Q':Unit->A6->Prop},Q' () wY->B7 (C9 prog w) A (match b with | true=>rule "set.scan.the-table-gave-way" | false=>pure ()) Q' E wY:=fun{b wY Q'} hq=>by
      cases b
      · exact A4 hq
      · exact Q5 hq
    have hz1:=Gp hp1;have zl:∀{es':Array (Int×Value)},(es'.toList.map fun e=>iv e.2).Perm (ns++[k])->es'.size<=sizeLine:=fun{es'} p=>fits_of_scanBound (Lh (by rw[Gp p,D2];exact Nat.succ_lt_succ hr))
    refine A0 (gw ?_)
    have key:∀t2:SetTable,t2.fits Il.size=true->Tk (!w.params.followText "set-order") t2->B7 (C9 prog w) A (do
        storeSet a Il t2
        if(!wd && t2.tooFull)=true then do
            (match(uD t2 Il (SetTable.grown Il.size)).2.2 with | true=>rule "set.scan.the-table-gave-way" | false=>pure ())
            storeSet a (uD t2 Il (SetTable.grown Il.size)).1 (uD t2 Il (SetTable.grown Il.size)).2.1
            pure (some true)
          else pure (some true)) (fun r wY=>B7 (C9 prog w) A (match r with | some added=>pure added | none=>setAddHashedIn a (.int k tk) ((V7 prog w).hash k) 99999) Q E wY) E s:=fun t2 hf2 xy=>by
      refine A0 (uF ho rfl ?_ (zl hp1));have zv:=Lg (es':=Il) (t':=t2) ho;have sb:=G4 s.heap a (vW Il t2);split
      · have hp2:=relayAll_perm t2 Il (SetTable.grown Il.size);have hf3:=relayAll_fits t2 Il (SetTable.grown Il.size);have hk3:=xy.zCG Il (SetTable.grown Il.size);refine A0 (gw ?_);refine A0 (uF zv rfl ?_ (zl ((hp2.map _).trans hp1)));exact A4 (A4 (h true _ (sb.trans (G4 _ a _)) ⟨_,_,_,Lg zv,hf3,hk3,zCY.perm hp2,(hp2.map _).trans hp1⟩))
      · exact A4 (A4 (h true _ sb ⟨_,_,_,zv,hf2,xy,zCY,hp1⟩))
    split
    · refine A0 ?_;rw[hashByValue_scannable 8 rfl];exact A4 (key t1 zAJ hkt)
    · refine A0 (A4 ?_);simp only[↓reduceIte];exact key t1 zAJ hkt
end
section
variable {prog:E5} {w:G3} {A:F3} {R:uS->A6->Prop} {I:B5} {fp wr:List B5} {G:Array vG->Array vG->Prop} {n:Nat} {P:Nat->Value->Prop} {St:Nat->A6->Prop}
theorem Ye(W:WalksS prog w A.in1 I fp wr G n P St)(S:B5)(hSf:S∉fp)(val:Nat->Int)(zBn:∀i v,P i v->∃t,v=.int (val i) t)(hb:n < 1000) :
    ∀(k i:Nat) (s:A6),n - i=k->i<=n->St i s->SQ prog w s.heap S (sF val i) ->
      (∀s',Moved (S::wr) G s s'->SQ prog w s'.heap S (sF val n)->R (.ok (.ret .none)) s') ->
      X8 (C9 prog w) A (.builtin "set.update.loop" ⟨[.ref S,.ref I],[]⟩) R s:=by
  have hSw:S∉wr:=fun h=>hSf (W.sub _ h)
  have zAT:∀b∈wr,b∈S::wr:=fun b hb=>B1 _ hb
  have mv:∀{s s':A6} {ns:List Int},Moved wr G s s'->SQ prog w s.heap S ns->SQ prog w s'.heap S ns:=fun hm ⟨es,ep,t,ho,r⟩=>⟨es,ep,t,hm.heap S _ hSw ho,r⟩
  intro k
  induction k with
  | zero =>
    intro i s hk hi zH hS hR;have xS:i=n:=by omega
    subst xS;refine H8 F.entry_set_update_loop ?_;rw[G5 F.plain_set_update_loop _];refine A0 (W.done s _ _ zH fun s' hm=>?_);exact A4 (hR s' (hm.mono zAT) (mv hm hS))
  | succ k ih =>
    intro i s hk hi zH hS hR;have w6:i < n:=by omega
    refine H8 F.entry_set_update_loop ?_;rw[G5 F.plain_set_update_loop _];refine A0 (W.item i s _ _ w6 zH fun v s' hP zDI hm=>?_);obtain⟨tk,rfl⟩:=zBn i v hP;show B7 _ A.in1 (q9 [.int (val i) tk] (setAdd S (.int (val i) tk)) >>= _) _ _ s';refine A0 (E8 ?_);unfold setAdd;refine E8 ?_;refine A0 ((V7 prog w).pyHash (k:=val i) (by simp[V7,rY]) ?_);have hS':=mv hm hS;refine dn (s:={ s' with toks:=s'.toks+1 }) hS' (U9 (tH val i) (U8 w6 hb)) fun b h' hsb hS2=>?_
    rw[<- firstMet_succ] at hS2;refine A4 ⟨O7 F.plain_set_update_loop _,ih (i+1) _ (by omega) w6 (W.frame _ s' _ _ zDI (U5 _) fun b hb o e=>?_) hS2 fun s'' zDR zDb=>?_⟩
    · rw[hsb.2 b (fun h:b=S=>hSf (by rw[<- h];exact hb))];exact e
    · refine hR s'' (Moved.trans W.gtrans ((hm.mono zAT).then_heap (U5 _) fun b o hb e=>?_) zDR) zDb;rw[hsb.2 b (fun h:b=S=>hb (by rw[h];exact B2))];exact e
end
section
variable {prog:E5} {w:G3} {A:F3} {E:Value->A6->Prop} {s:A6}
theorem Zl(a:Value){Q₁:Value->A6->Prop}
    (h:Q₁ (.ref s.heap.objs.size) { s with heap:=s.heap.push (BS #[] 0 (.fresh 0 0 (!w.params.followText "set-order"))) }) :
    X8 (C9 prog w) A (.call (.builtin "set.__new__") ⟨[.type "set", a],[]⟩) (wants Q₁ E) s:=by
  refine u5 ?_;refine A0 (uq (F.newCall_set_1 a) (A4 ⟨O7 F.plain_set_new _,H8 F.entry_set_new ?_⟩));rw[G5 F.plain_set_new _];unfold M8.«set.__new__» vX;have zAT:=sub_set_self;obtain⟨hp,g,d,tk,os⟩:=s;dsimp only
  wp_walk
  refine U3 (A4 ?_);dsimp only;simp only[newObj];exact A0 (wpAny_alloc (A4 (A4 h)))
theorem aT{l:B5}{items:Array Value}{val:Nat->Int}{Q:Value->A6->Prop}
    (hh:A.handled=none) (hl:s.heap.IsList l items\/s.heap.IsTuple l items) (zBn:∀(i:Nat) (v:Value),items[i]?=some v->∃t,v=.int (val i) t) (hb:items.size < 1000)
    (h:∀(h':F7) (tk:Nat),SQ prog w h' s.heap.objs.size (sF val items.size)->s.heap.objs.size < h'.objs.size ->
      (∀b o,b < s.heap.objs.size->s.heap.get? b=some o->h'.get? b=some o)->Q (.ref s.heap.objs.size) { s with heap:=h',toks:=tk }) :
    B7 (C9 prog w) A (call (.type "set") [.ref l]) Q E s:=by
  obtain⟨c,tl,zDr⟩:=F.called_set.mro;have zDp:=F.called_set.made;have zAT:=F.called_set.sub;refine wpAny_call (u5 ?_)
  show B7 _ _ (callAny (.type "set") _) _ _ _
  refine A4 ⟨tD _ (by decide +kernel),H8 F.entry_type_call ?_⟩
  rw[Around.under_plain (weight_type_call_type "set" [.ref l] []) rfl]
  have h1:=F.called_set.notType;have h2:=F.called_set.canCreate;have hct:=F.typeCall_set_1 (.ref l)
  repeat (any_goals (first | assumption | wp_step))
  refine n9 (Zl (.ref l) (E:=E) (Q₁:=fun obj wY=>obj=.ref s.heap.objs.size/\wY={ s with heap:=s.heap.push (BS #[] 0 (.fresh 0 0 (!w.params.followText "set-order"))) }) ⟨rfl,rfl⟩) fun r wY hr=>?_
  cases r with
  | error e=>exact hr
  | ok fl =>
    cases fl with
    | ret obj =>
      obtain⟨rfl,rfl⟩:=hr
      generalize hL:(!w.params.followText "set-order")=led
      have hS:(s.heap.push (BS #[] 0 (.fresh 0 0 led))).get? s.heap.objs.size=some (BS #[] 0 (.fresh 0 0 led)):=B4 _ rfl
      have hT:k4 { s with heap:=s.heap.push (BS #[] 0 (.fresh 0 0 led)) } (.ref s.heap.objs.size) "set" := ⟨_,hS,rfl⟩
      have hli:=F.called_set.init.lookup;have hbi:=F.called_set.init.bind (.ref s.heap.objs.size)
      repeat (any_goals (first | assumption | wp_step))
      refine n9 (codeAny_call_builtin (R:=wants (fun r yQ=>r=.none/\∃h' tk,yQ={ s with heap:=h',toks:=tk }/\SQ prog w h' s.heap.objs.size (sF val items.size)/\s.heap.objs.size < h'.objs.size /\
          (∀b o,b < s.heap.objs.size->s.heap.get? b=some o->h'.get? b=some o)) E) F.called_set.init.plain F.entry_set_init (check_set_init_1 hT ?_)) fun zCr yQ zAh=>?_
      · have hlS:l < s.heap.objs.size:=hl.elim (fun⟨_,e,_⟩=>C3 e) fun⟨_,e,_⟩=>C3 e
        have hh3:A.in1.in1.in1.handled=none:=by simp[hh]
        have hsz:(s.heap.push (BS #[] 0 (.fresh 0 0 led))).objs.size=s.heap.objs.size+1:=J6 ..;have zCT:l≠(s.heap.push (BS #[] 0 (.fresh 0 0 led))).objs.size:=by rw[hsz];exact C8 (N5 hlS)
        have hSf:s.heap.objs.size∉[(s.heap.push (BS #[] 0 (.fresh 0 0 led))).objs.size,l]:=by
          rw[hsz];simp only[D0,G6,or_false,not_or];exact⟨C8 (qu _),Y9 hlS⟩
        have fin:∀(o':Obj) (A':F3) (St:Nat->A6->Prop) (W:WalksS prog w A'.in1 (s.heap.push (BS #[] 0 (.fresh 0 0 led))).objs.size [(s.heap.push (BS #[] 0 (.fresh 0 0 led))).objs.size,l] [(s.heap.push (BS #[] 0 (.fresh 0 0 led))).objs.size] (fun a b=>b=a) items.size (fun i v=>items[i]?=some v) St) (Q':Value->A6->Prop),
            St 0 { s with heap:=(s.heap.push (BS #[] 0 (.fresh 0 0 led))).push o' } ->
            (∀h' tk,SQ prog w h' s.heap.objs.size (sF val items.size)->s.heap.objs.size < h'.objs.size->(∀b o,b < s.heap.objs.size->s.heap.get? b=some o->h'.get? b=some o)->Q' .none { s with heap:=h',toks:=tk }) ->
            X8 (C9 prog w) A' (.builtin "set.update.loop" ⟨[.ref s.heap.objs.size,.ref (s.heap.push (BS #[] 0 (.fresh 0 0 led))).objs.size],[]⟩) (wants Q' E) { s with heap:=(s.heap.push (BS #[] 0 (.fresh 0 0 led))).push o' }:=fun o' A' St W Q' zH hq=>by
          refine Ye W s.heap.objs.size hSf val zBn hb (items.size - 0) 0 _ rfl (E7 _) zH ⟨#[],0,_,A2 _ hS,rfl,⟨hL.symm,rfl,fun i j _ h=>absurd h (u4 _)⟩,(fun e he=>by simp at he),Z8 _⟩ fun s' hm hS'=>?_
          obtain⟨h',g',d',tk',os'⟩:=s';have eg:g'=s.gens:=hm.gens;have ed:d'=s.drawn:=hm.drawn;have eo:os'=s.os:=hm.os;subst eg;subst ed;subst eo;obtain⟨_,_,_,zT,_⟩:=id hS';refine hq h' tk' hS' (C3 zT) fun b o hb e=>hm.heap b o ?_ (A2 _ (A2 _ e))
          simp only[D0,G6,or_false,not_or];exact⟨C8 hb,by rw[hsz];exact C8 (N5 hb)⟩
        rcases hl with hl | hl
        · obtain⟨⟨zCt,zCI,zCJ,zBc⟩,hol,zX,nl,hdl⟩:=hl;simp only at zX hdl;have zBo:=A2 (BS #[] 0 (.fresh 0 0 led)) hol;subst zX;subst hdl;have zDJ:=F.sub_list_set;have zDK:=F.sub_list_frozenset
          have xW:(G2 "list" == G2 "dict")=false:=by decide
          have xq:(s.heap.push (BS #[] 0 (.fresh 0 0 led))).IsList l items:=⟨_,zBo,rfl,nl,rfl⟩;unfold M8.«set.__init__» noKeywords m8;generalize hPI:uR=PI
          wp_walk
          subst hPI;refine Q0 xq ?_;refine A0 (qH ?_);refine fin _ _ _ (wN hh3 _ l zCT items).toS _ ⟨⟨_,B4 _ rfl,rfl,rfl⟩,(xq.push _)⟩ fun h' tk a1 a2 a3=>?_
          refine A4 ?_;exact A4 ⟨rfl,h',tk,rfl,a1,a2,a3⟩
        · obtain⟨⟨zCt,zCI,zCJ,zBc⟩,hol,zX,nl,hdl⟩:=hl;simp only at zX hdl;have zBo:=A2 (BS #[] 0 (.fresh 0 0 led)) hol;subst zX;subst hdl;have zDJ:=F.sub_tuple_set;have zDK:=F.sub_tuple_frozenset
          have xW:(G2 "tuple" == G2 "dict")=false:=by decide
          have xq:(s.heap.push (BS #[] 0 (.fresh 0 0 led))).IsTuple l items:=⟨_,zBo,rfl,nl,rfl⟩;unfold M8.«set.__init__» noKeywords m8;generalize hPI:uR=PI
          wp_walk
          subst hPI;refine O2 xq ?_;refine A0 (qH ?_);refine fin _ _ _ (Walks.tuple hh3 _ l zCT items).toS _ ⟨⟨_,B4 _ rfl,rfl,rfl⟩,(xq.push _)⟩ fun h' tk a1 a2 a3=>?_
          refine A4 ?_;exact A4 ⟨rfl,h',tk,rfl,a1,a2,a3⟩
      · cases zCr with
        | error e=>exact zAh
        | ok zCa =>
          cases zCa with
          | ret r =>
            obtain⟨rfl,h',tk,rfl,a1,a2,a3⟩:=zAh
            repeat (any_goals (first | assumption | wp_step))
            exact h _ _ a1 a2 a3
          | _=>exact zAh.elim
    | _=>exact hr.elim
end
theorem EC:Slot "set_iterator" "__next__" "set_iterator.__next__":=
 .of (owner := "set_iterator") (n := "__next__") (by rw[u6,rW];kernel_rfl) (by decide +kernel) (by decide +kernel) (by decide +kernel) (.inl (by decide +kernel)) (by rw[isSubtype_type];kernel_rfl)
theorem Pm(a:Value):argsOk "set_iterator.__next__" ⟨[a],[]⟩:=by
 unfold argsOk;kernel_rfl
theorem Li:vT table "set_iterator.__next__" = some M8.«set_iterator.__next__»:=uY (by kernel_rfl)
theorem HW:vT table "set.__iter__" = some M8.«frozenset.__iter__»:=entryFor_alias (id' := "frozenset.__iter__") (by kernel_rfl) rfl (by decide +kernel) (by kernel_rfl)
def jA(h:F7)(I:B5)(f:Value)(i:Nat)(S:B5)(n ep:Nat):Prop:=h.get? I=some { cls:=.type "set_iterator", data:=.fields #[f,.int i 0,.ref S,.int n 0,.int ep 0] }
section
variable {prog:E5} {w:G3} {A:F3} {E:Value->A6->Prop} {s:A6} {I S:B5} {f f' v:Value} {i n ep:Nat} {es:Array (Int×Value)} {t:SetTable} {Q:Option Value->A6->Prop}
def Nx(prog:E5)(w:G3)(es:Array (Int×Value))(ep:Nat)(t:SetTable)(S:B5)(f f':Value)(i:Nat)(r:Option Value)(h:F7):Prop:=
 (∃a b:Nat,f=.int a 0/\f'=.int b 0/\∀(A:F3) (s:A6) (Q:Option (Value×Nat)->A6->Prop) (E:Value->A6->Prop),s.heap.get? S=some (BS es ep t)->Q (r.map fun v=>(v,b)) s->B7 (C9 prog w) A (setNext S a i ep) Q E s) \/
 (∃(T:B5) (items:Array Value),f=.ref T/\f'=.ref T/\h.IsTuple T items/\((r=none/\items[i]?=none)\/∃(p:Nat) (k:Int) (v:Value),r=some v/\items[i]?=some (.int p 0)/\es[p]?=some (k,v)))
theorem DN(hit:jA s.heap I f i S n ep):s.TypeIs (.ref I) "set_iterator" := ⟨_,hit,rfl⟩
theorem Gr{h:F7}{o:Obj}{vs:Array Value}{k:Nat}{x:Value}(ho:h.get? I=some o)(hd:o.data=.fields vs):(h.update I (vf (·.setIfInBounds k x))).get? I=some { o with data:=.fields (vs.setIfInBounds k x) }:=by
 have:=K2 (vf (·.setIfInBounds k x)) ho (rS (qI hd _));rw[this];obtain⟨c,d,dt,sl⟩:=o;simp only at hd;subst hd;rfl
theorem Yn(hit:jA s.heap I f i S n ep)(ho:s.heap.get? S=some (BS es ep t))(hf:t.fits es.size=true)(hz:es.size=n)(hx:Nx prog w es ep t S f f' i (some v) s.heap)
    (hQ:∀h',jA h' I f' (i+1) S n ep->O4 I s.heap h'->Q (some v) { s with heap:=h' }):B7 (C9 prog w) A (W3 (.ref I)) Q E s:=by
  unfold W3
  refine A0 (qi (J5 (name:=U7 "__next__") (DN hit) EC (F9 EC (DN hit) Li ?_ (Pm _))))
  unfold M8.«set_iterator.__next__»
  refine A0 (m:=slotArgs "__next__" 0 _) (A4 ?_)
  refine A0 (wpAny_fieldsOf hit rfl ?_);dsimp only;refine A0 (n8 ho rfl hf ?_);rw[hz,if_neg (by simp)];rcases hx with⟨a,b,rfl,rfl,hx⟩ | ⟨T,items,rfl,rfl,hT,hx⟩
  · dsimp only;rw[I9,I9,I9];refine A0 (hx _ _ _ _ ho ?_);dsimp only[F6];refine A0 (S2 hit rfl (by simp) ?_);have h1:=Gr (k:=0) (x:=S6 b) hit rfl;refine A0 (S2 h1 rfl (by simp) ?_);have h2:=Gr (k:=1) (x:=S6 ((i:Int)+1)) h1 rfl;exact A4 ⟨v,rfl,A4 (hQ _ h2 ((G4 ..).trans (G4 ..)))⟩
  · rcases hx with⟨z,_⟩ | ⟨p,k,v',z,h1,h2⟩
    · cases z
    · cases z;obtain⟨oT,hoT,_,nT,hdT⟩:=hT;dsimp only;refine A0 (H9 hoT hdT ?_);dsimp only;rw[I9,h1];dsimp only;unfold setNextDrawn;refine A0 (A0 (T3 ho rfl hf ?_));dsimp only;rw[I9,if_neg (by simp),I9,h2];refine A4 ?_;refine A0 (S2 hit rfl (by simp) ?_);exact A4 ⟨v,rfl,A4 (hQ _ (Gr (k:=1) (x:=S6 ((i:Int)+1)) hit rfl) (G4 ..))⟩
theorem dz(hh:A.handled=none)(hit:jA s.heap I f i S n ep)(ho:s.heap.get? S=some (BS es ep t))(hf:t.fits es.size=true)(hz:es.size=n)(hx:Nx prog w es ep t S f f' i none s.heap)
    (hQ:∀h',qW I s.heap h'->Q none { s with heap:=h' }):B7 (C9 prog w) A (W3 (.ref I)) Q E s:=by
  have stop:∀(s':A6),qW I s.heap s'.heap->s'.gens=s.gens->s'.drawn=s.drawn->s'.toks=s.toks->s'.os=s.os->B7 (C9 prog w) A.in1 (newExc (.type "StopIteration") [] >>= fun e=>(raiseNew e:Sem Fin)) (fun fin s'=>∃r,fin=.done (.ret r)/\B7 (C9 prog w) A (match(Except.ok (some r):Except Value (Option Value)) with | .ok (some v)=>pure (some v) | .ok none=>unsupported "iter:the-iterator's-class-has-lost-its-__next__-amid-the-walk" | .error e=>do if <- q8 e (.type "StopIteration") then pure none else throw e) Q E s')
      (fun e s'=>B7 (C9 prog w) A (do if <- q8 e (.type "StopIteration") then pure none else throw e) Q E s') s':=fun s' hs e1 e2 e3 e4=>by
    refine A0 ?_;simp only[newExc,newTuple];refine A0 (G7 ?_ (by size_fits));refine A0 (m:=qJ _ _) (uq (a:=K1) (by first | rfl | (simp only[qJ];rfl)) ?_);refine G7 ?_ (by size_fits);simp only[raiseNew];refine A0 (wpAny_handled ?_);rw[show A.in1.handled=none from hh];refine A0 (A4 (wpAny_throw ?_))
    refine A0 (T9 (T := "StopIteration") (b:=true) ⟨_,B4 _ rfl,rfl⟩ isSubtype_stop ?_)
    obtain⟨h',g',d',t',o'⟩:=s';simp only at e1 e2 e3 e4;subst e1;subst e2;subst e3;subst e4;exact A4 (hQ _ ((hs.push _).push _))
  unfold W3
  refine A0 (qi (J5 (name:=U7 "__next__") (DN hit) EC (F9 EC (DN hit) Li ?_ (Pm _))))
  unfold M8.«set_iterator.__next__»
  refine A0 (m:=slotArgs "__next__" 0 _) (A4 ?_)
  refine A0 (wpAny_fieldsOf hit rfl ?_);dsimp only;refine A0 (n8 ho rfl hf ?_);rw[hz,if_neg (by simp)];rcases hx with⟨a,b,rfl,rfl,hx⟩ | ⟨T,items,rfl,rfl,hT,hx⟩
  · dsimp only;rw[I9,I9,I9];refine A0 (hx _ _ _ _ ho ?_);dsimp only[Option.map_none];refine A0 (S2 hit rfl (by simp) ?_);exact stop _ (G4 ..).extBut rfl rfl rfl rfl
  · rcases hx with⟨_,h1⟩ | ⟨_,_,_,z,_⟩
    · obtain⟨oT,hoT,_,nT,hdT⟩:=hT;dsimp only;refine A0 (H9 hoT hdT ?_);dsimp only;rw[I9,h1];dsimp only;refine A0 (S2 hit rfl (by simp) ?_);refine A0 (S2 (Gr (k:=0) (x:=S6 0) hit rfl) rfl (by simp) ?_);exact stop _ ((G4 ..).trans (G4 ..)).extBut rfl rfl rfl rfl
    · cases z
end
theorem Pl:Slot "set_iterator" "__iter__" "set_iterator.__iter__":=
 .of (owner := "set_iterator") (n := "__iter__") (by rw[u6,rW];kernel_rfl) (by decide +kernel) (by decide +kernel) (by decide +kernel) (.inl (by decide +kernel)) (by rw[isSubtype_type];kernel_rfl)
theorem Ub(a:Value):argsOk "set_iterator.__iter__" ⟨[a],[]⟩:=by
 unfold argsOk;kernel_rfl
theorem Ra:vT table "set_iterator.__iter__" = some M8.«dict_keyiterator.__iter__»:=entryFor_alias (id' := "dict_keyiterator.__iter__") (by kernel_rfl) (by first | rfl | decide +kernel) (by decide +kernel) (by kernel_rfl)
section
variable {prog:E5} {w:G3} {A:F3} {E:Value->A6->Prop} {s:A6} {I S:B5} {n ep:Nat} {es:Array (Int×Value)} {t:SetTable}
theorem KW(hh:A.handled=none)(ff:Nat->Value)(W:List Value)(Kp:F7->Prop)(fp:List B5)(hSI:S≠I)(hfI:I∉fp)(hK:∀h h',Kp h->(∀b∈fp,∀o,h.get? b=some o->h'.get? b=some o)->Kp h')
    (hf:t.fits es.size=true) (hz:es.size=n) (hW:W.length=n) (hx:∀i h,i<=n->Kp h->Nx prog w es ep t S (ff i) (ff (i+1)) i W[i]? h) :
    WalksS prog w A I (I::S::fp) [I] (fun a b=>b=a) n (fun i v=>W[i]?=some v) (fun i s=>jA s.heap I (ff i) i S n ep/\s.heap.get? S=some (BS es ep t)/\Kp s.heap) where
  sub:=fun b hb=>by rw[D4.mp hb];exact B2
  grefl:=fun _=>rfl
  gtrans:=fun _ _ _ h1 h2=>h2.trans h1
  frame:=fun i s h' tk st _ hk=>⟨hk I B2 _ st.1,hk S (B1 _ B2) _ st.2.1,hK _ _ st.2.2 fun b hb o e=>hk b (B1 _ (B1 _ hb)) o e⟩
  item:=fun i s Q E hi st hQ=>by
    obtain⟨h1,h2,h3⟩:=st;have e:W[i]?=some (W[i]'(hW▸hi)):=A3 _;have q:=hx i _ (R1 hi) h3;rw[e] at q;refine Yn h1 h2 hf hz q fun h' a1 a2=>hQ _ _ e ⟨a1,a2.extBut S _ hSI h2,hK _ _ h3 fun b hb o e=>a2.extBut b o (fun z=>hfI (z▸hb)) e⟩ ⟨fun b o hb e=>a2.extBut b o (fun z=>hb (by rw[z];exact J7 _)) e,rfl,rfl,rfl,B0 _⟩
  done:=fun s Q E st hQ=>by
    obtain⟨h1,h2,h3⟩:=st;have q:=hx n _ (B0 _) h3;rw[F4 (by rw[hW];exact B0 _)] at q;exact dz hh h1 h2 hf hz q fun h' a=>hQ _ ⟨fun b o hb e=>a b o (fun z=>hb (by rw[z];exact J7 _)) e,rfl,rfl,rfl,B0 _⟩
  self:=fun i s Q E st hQ=>by
    refine uG (DN st.1) Pl (F9 Pl (DN st.1) Ra ?_ (Ub _))
    exact A4 ⟨_,rfl, "set_iterator", _,DN st.1,EC.lookup,hQ⟩
theorem IM{α:Type}{l:List α}{i:Nat}(h:i < l.length):(l[i]::l.eraseIdx i).Perm l:=by
 rw[List.eraseIdx_eq_take_drop_succ];refine List.perm_middle.symm.trans ?_;rw[List.getElem_cons_drop h,rV]
theorem Oq{src:Source}{k:Nat}{Q:Nat->A6->Prop}(hk:k≠0)(h:∀i d,i < k->Q i { s with drawn:=d }):B7 (C9 prog w) A (choose src k) Q E s:=fun _ _ _=>⟨hk,h _ _ (tJ _ (Nat.pos_of_ne_zero hk))⟩
theorem Mf{α:Type}:∀(k:Nat) (xs:List α) (s:A6) (Q:List α->A6->Prop),k=xs.length->(∀ys d,ys.Perm xs->Q ys { s with drawn:=d })->B7 (C9 prog w) A (vm k xs) Q E s
 | 0,xs,s,Q,hk,h=>by
  have:=h xs s.drawn (Z8 _);rw[qv.mp hk.symm] at this;unfold vm;exact A4 this
 | k+1,[],s,Q,hk,h=>by cases hk
 | k+1,x::xs,s,Q,hk,h=>by
  unfold vm;refine A0 (Oq (by simp) fun i d hi=>?_);rw[A3 hi];refine A0 (Mf k _ _ _ (by rw[l0];simp at hi ⊢;split<;>simp_all) fun ys d' hp=>A4 (h _ d' ?_));exact(hp.cons _).trans (IM hi)
theorem QH{α:Type}(nx:Nat->Nat):∀(k j:Nat) (left:List α) (out:Array α),k=left.length->(uH nx k j left out).toList.Perm (out.toList++left)
 | 0,j,left,out,h=>by
  rw[qv.mp h.symm];unfold uH;rw[M0]
 | k+1,j,left,out,h=>by
  unfold uH;have hl:nx j % left.length < left.length:=tJ _ (by omega);rw[A3 hl];refine(QH nx k (j+1) _ _ (by rw[l0];simp[hl];omega)).trans ?_;rw[uE,G0];exact List.Perm.append_left _ (IM hl)
theorem JZ{α:Type}(nx:Nat->Nat)(xs:Array α):(pickOrder nx xs).toList.Perm xs.toList:=QH nx xs.size 0 xs.toList #[] (by simp)
theorem VZ(hb:w.params.followText "set-order" = false)(hf:t.fits es.size=true)(k:Tk (!w.params.followText "set-order") t)(hd:(!t.plain && decide (es.size > 1))=false)(i:Nat)(h:F7)(hi:i<=es.size) :
    Nx prog w es ep t S (.int ((if i=0 then 0 else t.place.getD (i - 1) 0+1:Nat):Int) 0) (.int ((t.place.getD i 0+1:Nat):Int) 0) i (es.toList.map (·.2))[i]? h:=by
  have hp:t.place.size=es.size:=by
    simp only[SetTable.fits,A5,beq_iff_eq] at hf;exact hf.1
  refine .inl ⟨_,_,rfl,rfl,fun A s Q E ho hq=>?_⟩;unfold setNext;refine A0 (T3 ho rfl hf ?_);dsimp only;unfold tK;refine A0 (A0 (U3 (A4 ?_)))
  show B7 _ _ (if w.params.followText "set-order" = true then _ else _) _ _ _
  rw[hb,if_neg C7];show B7 _ _ (if(!t.plain && decide (es.size > 1))=true then _ else _) _ _ _;rw[hd,if_neg C7];refine A0 ?_;show B7 _ _ (if(!t.led && !es.isEmpty)=true then _ else _) _ _ _;rw[k.led,hb,if_neg (by simp)];refine A4 (A4 ?_);have e:SetTable.below t.place (if i=0 then 0 else t.place.getD (i - 1) 0+1)=i:=by
    obtain⟨b1,b2,b3⟩:=NI k.up (if i=0 then 0 else t.place.getD (i - 1) 0+1);rcases Nat.lt_trichotomy (SetTable.below t.place (if i=0 then 0 else t.place.getD (i - 1) 0+1)) i with z | z | z
    · exfalso;have h3:=b3 (i - 1) (by omega) (by omega);rw[if_neg (by omega)] at h3;omega
    · exact z
    · exfalso;have h2:=b2 i z
      by_cases c:i=0
      · rw[if_pos c] at h2;omega
      · rw[if_neg c] at h2;have:=k.up (i - 1) i (by omega) (by omega);omega
  rw[e]
  by_cases c:i < es.size
  · have c1:es[i]?=some es[i]:=L1 c;have c2:t.place[i]?=some (t.place.getD i 0):=by rw[L1 (hp▸c)];simp[j6,hp▸c]
    rw[c1,c2];have c3:(es.toList.map (·.2))[i]?=some es[i].2:=by rw[C5];simp[c1]
    rw[c3] at hq;exact hq
  · have c1:es[i]?=none:=Array.getElem?_eq_none (R7 c);have c3:(es.toList.map (·.2))[i]?=none:=by rw[C5];simp[c1]
    rw[c1];rw[c3] at hq;exact hq
theorem Zh(hb:w.params.followText "set-order" = true)(hf:t.fits es.size=true)(i:Nat)(h:F7) :
    Nx prog w es ep t S (.int ((0:Nat):Int) 0) (.int ((0:Nat):Int) 0) i ((pickOrder (w.params.setOrder S ep) es).toList.map (·.2))[i]? h:=by
  refine .inl ⟨_,_,rfl,rfl,fun A s Q E ho hq=>?_⟩;unfold setNext;refine A0 (T3 ho rfl hf ?_);dsimp only;unfold tK;refine A0 (A0 (U3 (A4 ?_)))
  show B7 _ _ (if w.params.followText "set-order" = true then _ else _) _ _ _
  rw[hb,if_pos rfl,if_neg (by simp)];unfold setWalk;refine A0 (A0 (T3 ho rfl hf ?_));dsimp only;unfold tK;refine A0 (A0 (U3 (A4 ?_)))
  show B7 _ _ (if w.params.followText "set-order" = true then _ else _) _ _ _
  rw[hb,if_pos rfl];refine A0 (U3 (A4 (A4 ?_)));rw[C5,Option.map_map,c9] at hq;exact hq
theorem cF{α β:Type}{f:α->Option β}:∀(ys:List α) (i:Nat),(∀y∈ys,(f y).isSome=true)->(ys.filterMap f)[i]?=(ys[i]?).bind f
 | [],_,_=>rfl
 | y::ys,i,h=>by
  obtain⟨z,hz⟩:=O5.mp (h y B2);rw[List.filterMap_cons_some hz];cases i with
  | zero=>exact hz.symm
  | succ i=>exact cF ys i fun y hy=>h y (B1 _ hy)
theorem Vw{Q:Value->A6->Prop}(ho:s.heap.get? S=some (BS es ep t))(hf:t.fits es.size=true)(k:Tk (!w.params.followText "set-order") t)(hz:es.size < 1000)
    (h:∀(I:B5) (fp:List B5) (W:List Value) (St:Nat->A6->Prop) (s':A6),W.Perm (es.toList.map (·.2))->(∀A':F3,A'.handled=none->WalksS prog w A' I fp [I] (fun a b=>b=a) es.size (fun i v=>W[i]?=some v) St)->St 0 s' ->
      (∀b∈fp,b=S\/s.heap.objs.size<=b)->s.heap.objs.size<=I->(∀b o,s.heap.get? b=some o->s'.heap.get? b=some o)->s'.gens=s.gens->s'.os=s.os->s'.toks=s.toks->Q (.ref I) s') :
    B7 (C9 prog w) A (uR (.ref S)) Q E s:=by
  have hT:s.TypeIs (.ref S) "set" := ⟨_,ho,rfl⟩
  have w6:S < s.heap.objs.size:=C3 ho;refine uG hT F.slot_set_iter (F9 F.slot_set_iter hT HW ?_ (F.args_set_iter_1 _));unfold M8.«frozenset.__iter__»
  refine A0 (m:=vn "__iter__" _) (A4 ?_)
  unfold vg;refine A0 (A0 (n8 ho rfl hf (A4 ?_)));unfold setDrawn;refine A0 (A0 (T3 ho rfl hf ?_));dsimp only;unfold tK;refine A0 (A0 (U3 (A4 (A4 ?_))))
  show B7 _ _ (if(!w.params.followText "set-order" && (!t.plain && decide (es.size > 1)))=true then _ else _) _ _ _
  have mk:∀(f:Value) (s1:A6),s1.heap.get? S=some (BS es ep t) ->
      Q (.ref s1.heap.objs.size) { s1 with heap:=s1.heap.push { cls:=.type "set_iterator", data:=.fields #[f,.int 0 0,.ref S,.int es.size 0,.int ep 0] } } ->
      B7 (C9 prog w) A.in1 (do ret (<- newFields "set_iterator" [f,S6 0,.ref S,S6 es.size,S6 (<- setEpoch S)])) (fun fin s'=>∃r,fin=.done (.ret r)/\∃T' r',s'.TypeIs r T'/\sj (.type T') "__next__" = pure (some r')/\Q r s') E s1:=fun f s1 zv hq=>by
    refine A0 (wpAny_setEpoch_of zv rfl hf ?_)
    exact A0 (G7 (A4 ⟨_,rfl, "set_iterator", _,⟨_,B4 _ rfl,rfl⟩,EC.lookup,hq⟩))
  have at0:∀(f:Value) (h1:F7),jA (h1.push { cls:=.type "set_iterator", data:=.fields #[f,.int 0 0,.ref S,.int es.size 0,.int ep 0] }) h1.objs.size f 0 S es.size ep:=fun f h1=>B4 _ rfl
  have hSI:S≠s.heap.objs.size:=C8 w6;have fps:∀b∈[s.heap.objs.size,S],b=S\/s.heap.objs.size<=b:=fun b hb=>by
    rcases D0.mp hb with z | z
    · exact .inr (o5 z.symm)
    · exact .inl (D4.mp z)
  cases hb:w.params.followText "set-order" with
  | true =>
    rw[if_neg (by simp)];refine A0 (A4 ?_);refine mk _ _ ho (h s.heap.objs.size [s.heap.objs.size,S] _ _ _ ((JZ (w.params.setOrder S ep) es).map _) (fun A' hh=>KW hh (fun _=>.int ((0:Nat):Int) 0) _ (fun _=>True) [] hSI (fun z=>nomatch z) (fun _ _ _ _=>trivial) hf rfl (by rw[A8,(JZ _ es).length_eq];simp) fun i h _ _=>Zh hb hf i h) ⟨at0 _ _,A2 _ ho,trivial⟩ fps (B0 _) (fun b o e=>A2 _ e) rfl rfl rfl)
  | false =>
    cases hd:(!t.plain && decide (es.size > 1)) with
    | false =>
      rw[if_neg (by simp)];refine A0 (A4 ?_);refine mk _ _ ho (h s.heap.objs.size [s.heap.objs.size,S] _ _ _ (Z8 _) (fun A' hh=>KW hh (fun i=>.int ((if i=0 then 0 else t.place.getD (i - 1) 0+1:Nat):Int) 0) _ (fun _=>True) [] hSI (fun z=>nomatch z) (fun _ _ _ _=>trivial) hf rfl (by rw[A8];simp) fun i h hi _=>?_) ⟨at0 _ _,A2 _ ho,trivial⟩ fps (B0 _) (fun b o e=>A2 _ e) rfl rfl rfl);have:=VZ (prog:=prog) (S:=S) (ep:=ep) hb hf k hd i h hi;rw[if_neg (Nat.succ_ne_zero i)];exact this
    | true =>
      rw[if_pos (by simp)];refine A0 (Mf _ _ _ _ K4.symm fun ys d hp=>?_);unfold newTuple;have hyl:ys.length=es.size:=by rw[hp.length_eq];simp
      refine A0 (G7 ?_ (by
        show(vQ _ ys).toArray.size<=_;rw[A7,A8,hyl,K0];omega))
      have zv:(s.heap.push { cls:=.type "tuple", data:=.seq (ys.map fun(i:Nat)=>S6 i).toArray }).get? S=some (BS es ep t):=A2 _ ho
      have hs1:(s.heap.push { cls:=.type "tuple", data:=.seq (ys.map fun(i:Nat)=>S6 i).toArray }).objs.size=s.heap.objs.size+1:=J6 ..
      have zBK:∀y∈ys,y < es.size:=fun y hy=>K6.mp (hp.mem_iff.mp hy)
      have yI:(ys.filterMap fun i=>(es[i]?).map (·.2)).Perm (es.toList.map (·.2)):=by
        refine(hp.filterMap _).trans ?_;rw[<- filterMap_getElem?_range,List.map_filterMap]
      have hat:=fun i=>cF (f:=fun i=>(es[i]?).map (·.2)) ys i fun y hy=>by rw[L1 (zBK y hy)];rfl
      refine mk _ _ zv (h _ [_,S,s.heap.objs.size] _ _ _ yI (fun A' hh=>KW hh (fun _=>.ref s.heap.objs.size) _ (fun h=>h.IsTuple s.heap.objs.size (ys.map fun(i:Nat)=>S6 i).toArray) [s.heap.objs.size] (by rw[hs1];exact C8 (N5 w6)) (by rw[hs1];exact fun z=>ud _ (D4.mp z)) (fun h h' q hk=>q.at fun o e=>hk _ (J7 _) o e) hf rfl (by rw[yI.length_eq];simp) fun i h hi q=>.inr ⟨_,_,rfl,rfl,q,?_⟩) ⟨at0 _ _,A2 _ zv,⟨_,A2 _ (B4 _ rfl),rfl,_,rfl⟩⟩ (fun b hb=>?_) (by rw[hs1];exact U5 _) (fun b o e=>A2 _ (A2 _ e)) rfl rfl rfl)
      · rw[hat];cases q2:ys[i]? with
        | none=>exact .inl ⟨rfl,by simp[q2]⟩
        | some y =>
          have hy:=zBK y (M6 q2);refine .inr ⟨y,es[y].1,es[y].2,?_,by simp[q2,S6],by rw[L1 hy]⟩;rw[A1,L1 hy];rfl
      · rw[hs1] at hb;simp only[D0,G6,or_false] at hb;rcases hb with z | z | z
        · exact .inr (by rw[z];exact U5 _)
        · exact .inl z
        · exact .inr (o5 z.symm)
end
section
variable {prog:E5} {w:G3} {A:F3} {E:Value->A6->Prop} {s:A6} {S:B5} {ns:List Int}
theorem Qd:∀{vs:List Value},(∀v∈vs,∃i t,v=g9 i t)->W7 vs (vs.map iv)
 | [],_=>.nil
 | v::vs,h=>by
  obtain⟨i,t,rfl⟩:=h v B2;exact .cons i t (Qd fun x hx=>h x (B1 _ hx))
theorem OW{W:List Value}{acc:Array Value}(h:ItemsOf (fun i v=>W[i]?=some v) acc W.length):acc.toList=W:=by
 apply V8;intro i
 by_cases c:i < W.length
 ·have c1:i < acc.size:=by rw[h.1];exact c
  have c2:acc[i]?=some acc[i]:=L1 c1;rw[h.2 i _ c2,<- c2];simp
 ·rw[F4 (R7 c),F4 (by have:=h.1;simpa[this] using c)]
theorem Mp{Q:List Value->A6->Prop}(hh:A.handled=none)(hS:SQ prog w s.heap S ns)(hz:ns.length < 1000)
    (hQ:∀s' vs ks,W7 vs ks->ks.Perm ns->(∀b o,s.heap.get? b=some o->s'.heap.get? b=some o)->s'.gens=s.gens->s'.os=s.os->s.heap.objs.size < s'.heap.objs.size->Q vs s'):B7 (C9 prog w) A (v5 (.ref S)) Q E s:=by
  obtain⟨es,ep,t,ho,hf,hk,hel,hp⟩:=hS;have hsz:=Gp hp;have w6:S < s.heap.objs.size:=C3 ho;have hSI:s.heap.objs.size≠S:=Y9 w6;unfold v5;refine A0 (qH (H8 F.entry_proto_collect ?_));rw[G5 F.plain_proto_collect _];refine A0 (m:=v7 []) (G7 ?_);refine A4 ⟨O7 F.plain_list_iadd _,H8 F.entry_list_iadd ?_⟩;rw[G5 F.plain_list_iadd _]
  generalize hO:({ cls:=.type "list", data:=.seq ([]:List Value).toArray }:Obj)=O
  have zv:(s.heap.push O).get? S=some (BS es ep t):=A2 _ ho;have hL1:(s.heap.push O).get? s.heap.objs.size=some O:=B4 _ (by rw[<- hO];rfl)
  have hT1:k4 { s with heap:=s.heap.push O } (.ref S) "set" := ⟨_,zv,rfl⟩
  show B7 _ A.in1 (K5 (.ref s.heap.objs.size) (.ref S) (.ref s.heap.objs.size)) _ _ _;unfold K5;refine A0 (M1 hT1 ?_);have h1:T8 (.ref s.heap.objs.size) (.ref S)=false:=by simp[T8,hSI]
  rw[if_neg (by rw[h1];decide)];refine A0 (Vw (s:={ s with heap:=s.heap.push O }) zv hf hk (by rw[hsz];exact hz) fun I fp W St s2 hW Wk zH hfp hI zAj hg hos htk=>?_);have hsp:(s.heap.push O).objs.size=s.heap.objs.size+1:=J6 ..;have hLf:s.heap.objs.size∉fp:=fun hm=>by
    rcases hfp _ hm with z | z
    · exact hSI z
    · rw[hsp] at z;exact absurd z (Nat.not_succ_le_self _)
  have ho2:s2.heap.get? S=some (BS es ep t):=zAj _ _ zv;have hL2:s2.heap.get? s.heap.objs.size=some O:=zAj _ _ hL1
  have hT2:s2.TypeIs (.ref S) "set" := ⟨_,ho2,rfl⟩
  refine A0 (E8 ?_);unfold vD;refine A0 (Q4 hT2 F.slot_set_len.lookup ?_)
  (generalize hid:("set.__len__" : String)=id0;wp_delta;rw[show splitId id0=some ("set", "__len__") from by subst hid;decide +kernel];subst hid)
  refine A0 (T9 (b:=true) hT2 sub_set_self ?_);rw[if_neg (by decide),if_pos (by decide +kernel)];refine A0 (M1 hT2 (A4 ?_));rw[if_pos (by decide)];refine A0 (Q5 ?_);subst hO;refine A0 ?_;show B7 _ A.in1 (ub s.heap.objs.size (·.push .none) >>= fun _=>ub s.heap.objs.size (·.pop)) _ _ _;refine A0 (m7 hL2 rfl ?_);have hL3:=K2 (F2 (·.push K1)) hL2 rfl;refine m7 hL3 rfl ?_;have hL4:=K2 (F2 (·.pop)) hL3 rfl;have oth:∀b o,b≠s.heap.objs.size->s2.heap.get? b=some o->((s2.heap.update s.heap.objs.size (F2 (·.push K1))).update s.heap.objs.size (F2 (·.pop))).get? b=some o:=
    fun b o hb e=>(N4 _ _ (Ne.symm hb)).trans ((N4 _ _ (Ne.symm hb)).trans e)
  have WA:=Wk A.in1 hh;refine A4 ⟨O7 F.plain_extend_loop _,codeAny_extend_loopS WA (by rw[K0];omega) _ hLf _ es.size 0 _ _ _ rfl (E7 _) (WA.frame 0 s2 _ s2.toks zH (B0 _) fun b hb o e=>oth b o (fun z=>hLf (z▸hb)) e) hL4 (ItemsOf.nil _) fun s' zDk c' hm hS' zAp=>?_⟩;refine A0 (vJ hS' ?_);have hWl:W.length=es.size:=by rw[hW.length_eq];simp
  rw[<- hWl] at zAp;have e:=OW zAp;refine A4 ?_;show Q zDk.toList s';rw[e];refine hQ s' W (W.map iv) (Qd fun v hv=>?_) ?_ (fun b o q=>?_) (hm.gens.trans hg) (hm.os.trans hos) (C3 hS')
  · obtain⟨x,hx,rfl⟩:=D6.mp (hW.mem_iff.mp hv);obtain⟨⟨k',hk',_⟩,_⟩:=hel x hx;exact⟨k',(Vy hk').2⟩
  · refine(hW.map iv).trans ?_;rw[F0];exact hp
  · have hb:b < s.heap.objs.size:=C3 q;refine hm.heap b o ?_ (oth b o (C8 hb) (zAj b o (A2 _ q)));simp only[D0,G6,or_false,not_or];refine⟨C8 hb,fun z=>?_⟩;subst z;rw[hsp] at hI;exact absurd (C4 (N5 hb) hI) (R3 _)
theorem Np{Q:Value->A6->Prop}(hh:A.handled=none)(hS:SQ prog w s.heap S ns)(hz:ns.length < 64)
    (h:∀(s':A6) (L:B5) (out:Array Value) (c:Nat) (ns':List Int),W7 out.toList ns'->ns'.Perm ns->ns'.Pairwise (·<=·)->(∀b o,s.heap.get? b=some o->s'.heap.get? b=some o)->s.heap.objs.size<=L->s'.heap.get? L=some { cls:=.type "list", dict:=none,data:=.seq out c,slots:=#[] }->s'.gens=s.gens->s'.os=s.os->Q (.ref L) s') :
    B7 (C9 prog w) A (call (.builtin "sorted") [.ref S]) Q E s:=by
  refine qT kind_sorted plain_sorted entry_sorted (args_sorted1 _) ?_;unfold M8.«sorted»
  refine A0 (m:=checkCount "sorted" 1 1 _) (A4 ?_)
  refine A0 (Mp hh hS (U8 hz (by decide)) fun s1 vs ks hI hp hk hg hos w6=>?_);have hlen:vs.length=ns.length:=by rw[<- hp.length_eq];exact hI.length
  refine A0 (qf ?_)
  have hoL:(s1.heap.push (K7 "list" vs.toArray 0)).get? s1.heap.objs.size=some (K7 "list" vs.toArray 0):=B4 _ rfl
  refine A0 (E8 (F9 slot_list_sort ⟨_,hoL,rfl⟩ u7 (list_sort_tree (s:={ s1 with heap:=s1.heap.push (K7 "list" vs.toArray 0) }) hoL hI (by rw[hlen];exact hz) fun out ns' a1 a2 a3=>⟨_,rfl,?_⟩) (args_list_sort _)))
  refine A4 ⟨_,rfl,?_⟩;have h1:=V2 hoL (fun _=>#[])
  have h2:=V2 (A2 (K7 "list" #[] 0) (A2 (K7 "tuple" vs.toArray 0) h1)) (fun _=>out)
  refine h _ s1.heap.objs.size out _ ns' a1 (a2.trans hp) a3 (fun b o e=>?_) (R1 w6) h2 hg hos;have e1:=hk b o e;have n0:b≠s1.heap.objs.size:=C8 (C3 e1);unfold tF;refine(O0 _ _ _ _ n0).trans (A2 _ (A2 _ ?_));exact(O0 _ _ _ _ n0).trans (A2 _ e1)
end
theorem Eg(ns:List Int):∀n,n<=ns.length->sF (fun i=>ns.getD i 0) n=(ns.take n).foldl V0 []
 | 0,_=>by rw[firstMet_zero,List.take_zero];rfl
 | n+1,h=>by
  rw[firstMet_succ,Eg ns n (by omega),List.take_succ,A3 (by omega),List.foldl_append];show V0 _ (ns.getD n 0)=_;rw[B8,A3 (by omega)];rfl
def jo(K:W.Frag):V->Hp->VK->Prop:=fun v H Q=>∃(p:B5) (ns:List Int),v=.ref p/\(Ca K H p (ns.map V.int)\/DL K H p (ns.map V.int))/\ns.length < 64/\∀(l:B5) (ns':List Int),H l=none->ns'.Perm (ns.foldl V0 [])->ns'.Pairwise (·<=·)->Q (.ref l) (upd H l (.lst (ns'.map V.int)))
section
variable {X:Cx} {p1 p2 zAP wy:Pos} {e:Expr} {te:TE}
theorem Xl:N0 "sorted" = some (.builtin "sorted"):=by decide +kernel
theorem OJ(hc:X.calm=true)(hgL:Gl X "sorted")(hmL:X.mg "sorted" = none)(hgR:Gl X "set")(hmR:X.mg "set" = none)(he:PE X e te)
    (hs1:E6 [.Call (.Name "set" p2) [e] [] wy] X.env=(false,Q7 (.Call (.Name "set" p2) [e] [] wy) X.env)::E6 [] X.env)
    (zDM:(T5 zAP (E6 [] X.env)).any (·.1)=false)
    (hs2:E6 [e] X.env=(false,Q7 e X.env)::E6 [] X.env) (zDL:(T5 wy (E6 [] X.env)).any (·.1)=false) :
    PE X (.Call (.Name "sorted" p1) [.Call (.Name "set" p2) [e] [] wy] [] zAP) (fun σ H Q=>te σ H fun v H1=>jo X.K v H1 Q):=by
  intro pins s σ H Q I h;have ha:=Cd he OL hs2;refine S0 (DT I hgL hmL Xl ?_ (by decide) (by decide));refine i8 ?_ hs1 zDM;rw[hs1]
  show B7 _ _ (vq ((false,Q7 (.Call (.Name "set" p2) [e] [] wy) X.env)::T5 zAP (E6 [] X.env))) _ _ s
  refine sf ?_;refine S0 (DT I hgR hmR PyProof.Rows.Boot.«set» ?_ (by decide) (by decide));refine K3 (BB (ha wy pins s σ H (fun vs H1=>match vs with | [v]=>jo X.K v H1 Q | _=>False) I h) fun us s1 ⟨vs,H1,I1,r1,q1⟩=>?_) hs2 zDL
  match vs,q1 with
  | [v],q1 =>
  cases r1 with
  | cons r rr =>
  cases rr;obtain⟨p,ns,rfl,hq,hl,q⟩:=q1;cases r
  have go:∀its:List Value,AH (ns.map V.int) its->(s1.heap.IsList p its.toArray\/s1.heap.IsTuple p its.toArray)->B7 (C9 X.prog X.w) X.A (call (.type "set") [.ref p]) (fun v wY=>B7 (C9 X.prog X.w) X.A (vq (T5 zAP (E6 [] X.env))) (fun vs yQ=>B7 (C9 X.prog X.w) X.A (call (.builtin "sorted") (v::vs)) (EP X pins σ Q) X.xe yQ) X.xe wY) X.xe s1:=fun its vr sa=>by
    have len:its.length=ns.length:=by have:=vr.length;rw[A8] at this;exact this.symm
    have hI:=Kn vr;refine aT (val:=fun i=>ns.getD i 0) (I1.ok.hd hc) sa (fun i v hv=>hI.int_at i v (by simpa using hv)) (by rw[A7,len];omega) fun h' tk hS w6 hk=>tV ?_
    have hsz:its.toArray.size=ns.length:=by rw[A7,len]
    rw[hsz,Eg ns _ (B0 _),qw] at hS;have hle:(ns.foldl V0 []).length<=ns.length:=by rw[<- qw (l:=ns),<- Eg ns _ (B0 _),qw];exact tH _ _
    have I2:Inv X pins σ H1 { s1 with heap:=h',toks:=tk }:=I1.kept fun b o e=>hk b o (C3 e) e
    refine Np (s:={ s1 with heap:=h',toks:=tk }) (I1.ok.hd hc) hS (by omega) fun s' L out c ns' a1 a2 a3 a4 a5 a6 a7 a8=>?_
    have v:=Qc a1;have e':out=out.toList.toArray:=by simp
    obtain⟨h3,g3,d3,t3,o3⟩:=s';simp only at a4 a6 a7 a8;subst a7;subst a8;have hLn:H1 L=none:=I2.wb.fresh a5;have J:=I2.laid (t':=t3) a4 a5 (show AY X.prog X.w _ _ _ (.lst (ns'.map V.int)) from⟨by rw[A8,a2.length_eq,K0];omega,out.toList,c,v,by rw[<- e'];exact a6⟩);exact⟨.ref L,upd H1 L (.lst (ns'.map V.int)),⟨J.ok,J.os,J.bare,J.base,J.loc,J.cell,J.free,J.xM,J.pin,J.wb,J.len⟩,rfl,q _ ns' hLn a2 a3⟩
  rcases hq with hq | hq
  · obtain⟨its,r',pl,hz⟩:=I1.list hq;exact go its r' (.inl pl.isList)
  · obtain⟨its,r',pl,hz⟩:=I1.tuple hq;exact go its r' (.inr pl)
end
def qA(H0 H:Hp)(S:B5)(xs:List V)(ps:List B5):Prop:=
 (∀c u,H0 c=some u->H c=some u)/\H S=some (.lst (ps.map V.ref))/\∀(j:Nat) p,ps[j]?=some p->p≠S/\∃y,xs[j]?=some y/\H p=some (.tup [.int j,y])
def pb(K:W.Frag):V->Hp->VK->Prop:=fun v H Q=>∃(a:B5) (xs:List V) (b:Bool),v=.ref a/\JG K H a xs b/\xs.length<=sizeLine/\∀(l:B5) (ps:List B5) (H':Hp),H l=none->qA H H' l xs ps->ps.length=xs.length->Q (.ref l) H'
end L2
namespace R
open PySem L2
end R
namespace L2
open PySem PySem.Spec PyProof.Rows
open AutoSeq1 (wpAny_loadPart')
section
variable {X:Cx} {p1 p2 zAP wy:Pos} {es:List Expr} {e:Expr} {ta:TA}
abbrev Ya(ta:TA):TE:=fun σ H Q=>ta σ H fun vs H1=>∃(i j:Int),(vs=[.int j]/\i=0\/vs=[.int i,.int j])/\(-(2 ^ 62)<=i/\i < 2 ^ 62/\-(2 ^ 62)<=j/\j < 2 ^ 62)/\(j - i).toNat<=1000000/\∀l,H1 l=none->Q (.ref l) (upd H1 l (.tup ((B3 (j - i).toNat).map fun k=>.int (i+(k:Nat)))))
end
end L2
namespace L2
open PySem PySem.Spec PyProof.Rows
section
variable {X:Cx} {a e:Expr} {ta te:TE} {p pos kp:Pos}
def pW(K:W.Frag)(x y:V)(H:Hp)(Q:VK):Prop:=∃(l:B5) (ns:List Int) (d:Int),x=.ref l/\y=.int d/\Ca K H l (ns.map V.int)/\∀M,(ns=[]/\M=d\/M∈ns/\∀a,a∈ns->a<=M)->Q (.int M) H
end
end L2
namespace R
open PySem L2
def Gx(X:Cx):Prop:=X.calm=true/\∃j,wo j X.A
noncomputable def two{α:Type}(f:Dv->Dv->Option α)(ds:List Dv):Option α:=match ds with | [a,b]=>f a b | _=>none
noncomputable def one{α:Type}(f:Dv->Option α)(ds:List Dv):Option α:=match ds with | [a]=>f a | _=>none
noncomputable def BD:Expr->Bool
 | .Starred _ _=>false
 | _=>true
structure zDn where
 op:rZ
 f:Dv->Dv->Option Dv
 ok:∀X,Gx X->∃r,CY X (N3 op) r/\AK X.K (two f) 1 (NT r)
structure zDm where
 op:vL
 f:Dv->Dv->Option Bool
 ok:∀X,Gx X->∃r,CY X (J0 op) r/\AK X.K (fun ds=>(two f ds).map .bl) 0 (NT r)
structure zAv where
 x:Str
 n:Nat
 o:Nat
 f:List Dv->Option Dv
 ok:∀X,Gx X->∃r,AK X.K f o r/\((∃id,As X (.builtin id) r/\N0 x=some (.builtin id))\/∃T,As X (.type T) r/\N0 x=some (.type T))
abbrev oy(T:String):Prop:=T = "list" \/ T = "str" \/ T = "int" \/ T = "dict"
structure zAL where
 x:Str
 n:Nat
 T:String
 o:Nat
 f:List Dv->Option Dv
 hT:oy T\/T = "tuple" /\ n=1
 ok:∀X,Gx X->∃id r,rG T/\Slot T x id/\vv (.builtin id)=pure (.type "method_descriptor")/\YI X id r/\AK X.K f o (mU r)
structure zAt where
 x:Str
 n:Nat
 T:String
 p:Mu
 hT:oy T
 ok:∀X,Gx X->∃id r,rG T/\Slot T x id/\vv (.builtin id)=pure (.type "method_descriptor")/\YI X id r/\Ta X.K p r
noncomputable def MQ:Expr->Bool
 | .Tuple _ _ _=>true
 | _=>false
structure zCk where
 x:Str
 n:Nat
 tt:Bool
 f:List Dv->Option (List Dv)
 ok:∀X,Gx X->∃r,TZ X.K f r/\∀tg es p pos ta,(tt=true->MQ tg=true)->es.length=n->es.all BD=true->Gl X x->X.mg x=none->PA X es ta->PI X tg (.Call (.Name x p) es [] pos) (cD r ta)
def pZ:RG:=fun vs H1 Q=>UG (fun _ H R=>R vs H) [] H1 Q
def pU:RG:=fun vs H1 Q=>Ya (fun _ H R=>R vs H) [] H1 Q
def pV(K:W.Frag):R2:=fun x y H2 Q=>∃a xs b,x=.ref a/\y=.int (-1)/\JG K H2 a xs b/\∀p,H2 p=none->Q (.ref p) (upd H2 p (bif b then .tup xs.reverse else .lst xs.reverse))
def pY(K:W.Frag):V->Hp->VK->Prop:=fun v H1 Q=>∃a xs,v=.ref a/\Ca K H1 a xs/\∀l,H1 l=none->Q (.ref l) (upd H1 l (.lst xs.reverse))
structure Tb where
 zCi:List zDn
 zAU:List zDm
 calls:List zAv
 meths:List zAL
 zCM:List zAt
 zCE:List zCk
 ix:Dv->Dv->Option Dv
 zCP:∀X,Gx X->∃r,RJ X r/\AK X.K (two ix) 0 (NT r)
 sl:Dv->Option Int->Option Int->Option Dv
 zCF:∀X,Gx X->∃r,To X r/\∀lo hi,AK X.K (one fun d=>sl d lo hi) 1 (dE fun x H Q=>r x lo hi H Q)
 tru:Dv->Option Bool
 zBy:∀K g H o d v P b,Rep K g H o d v P->tru d=some b->YA K v H b
 lr:List Dv->Option Dv
 zCy:∀X,Gx X->AK X.K lr 1 pZ
 tr:List Dv->Option Dv
 zBx:∀X,Gx X->AK X.K tr 1 pU
 md:Dv->Dv->Option Dv
 zCw:∀X,Gx X->AK X.K (two md) 1 (NT (pW X.K))
 rv:Dv->Dv->Option Dv
 zCs:∀X,Gx X->AK X.K (two rv) 1 (NT (pV X.K))
 lv:Dv->Option Dv
 zCx:∀X,Gx X->AK X.K (one lv) 1 (dE (pY X.K))
 ss:Dv->Option Dv
 zCD:∀X,Gx X->AK X.K (one ss) 1 (dE (jo X.K))
 le:Dv->Option Dv
 zDA:∀X,Gx X->AK X.K (one le) 1 (dE (pb X.K))
 st:Dv->Dv->Dv->Option Dv
 zCC:∀X,Gx X->∃T,JH X T/\iZ X.K st T
structure Cf:Type 1 where
 N:List Str
 sc:N1
 fn:Str->Bool
 fs:List (Str×w9)
 cs:List (Str×Dv)
 bl:List Str
 T:Tb
 F:Fr
 fl:List Str
 rf:List Str
def Fz(P:E5)(w:G3)(K:W.Frag)(mg:Str->Option Value)(base:F7)(fl:List Str)(j:Nat)(x:Str)(s:w9):Prop:=match s.cl with
 | none=>Fx P w K mg base j x s.ps (Te K s)
 | some c=>∃j' f fd,j'+1<=j/\xU P w K mg base RL j' f fd s.ps (Te K s)/\Binds K fd s.ps []/\Meth K (Ku K c) x f/\mZ K c fl/\mg c=some (.ref (Ku K c))/\(x = "__init__" -> Mk K (Ku K c) f)
structure wj (C:Cf) (X:Cx):Prop where
 N:X.N=C.N
 sc:X.env.scope=C.sc
 nd:X.N.Nodup
 calm:X.calm=true
 fn:∀x,C.fn x=true->X.fn x=true
 room:Gx X
 fs:∀x s,(x,s)∈C.fs->s.io.Nodup/\(∀i∈s.io,i < s.ps.length)/\∃j k,j<=k/\wo k X.A/\Fz X.prog X.w X.K X.mg X.base C.fl j x s
 cs:∀x d,(x,d)∈C.cs->∃v u,X.mg x=some u/\RelV v u/\∀g H,Rep X.K g H 0 d v wX
 bl:∀x∈C.bl,X.mg x=none
 xe:X.xe=fun _ _=>False
variable {C:Cf} {X:Cx} {x:Str} {s:w9}
theorem wj.fx(ok:wj C X)(h:(x,s)∈C.fs/\s.cl=none):s.io.Nodup/\(∀i∈s.io,i < s.ps.length)/\∃j k,j<=k/\wo k X.A/\Fx X.prog X.w X.K X.mg X.base j x s.ps (Te X.K s):=by
 obtain⟨a,b,j,k,hj,hr,F⟩:=ok.fs x s h.1;unfold Fz at F;rw[h.2] at F;exact⟨a,b,j,k,hj,hr,F⟩
noncomputable def DM:List Str->Str->Option Nat
 | [],_=>none
 | y::r,x=>if y == x then some 0 else(DM r x).map (·+1)
theorem Bb:∀{N:List Str} {x:Str} {i:Nat},DM N x=some i->N[i]?=some x
 | [],_,_,h=>by cases h
 | y::r,x,i,h=>by
  unfold DM at h;split at h
  ·rename_i e;cases h;rw[beq_iff_eq.mp e];rfl
  ·cases q:DM r x with
   | none=>rw[q] at h;cases h
   | some j=>rw[q] at h;cases h;simpa using Bb q
noncomputable def WC(sc:N1)(x:Str):Bool:=match sc.names.lookup x with
 | some .local=>true
 | some .cell=>true
 | some .free=>true
 | _=>false
noncomputable def OY(sc:N1)(x:Str):Bool:=match sc.names.lookup x with
 | some .globalImplicit=>true
 | _=>false
noncomputable def Rr(x:Str):Bool:=!(x == ("__debug__" : Str)) && !(x == ("__classdict__" : Str)) && !(x == ("__name__" : Str))
def lv(C:Cf)(x:Str):Option Nat:=if WC C.sc x && Rr x then DM C.N x else none
def Vo(C:Cf)(e:Expr):Option Nat:=match e with
 | .Name x _=>lv C x
 | _=>none
theorem DR(h:Rr x=true):(x == ("__debug__" : Str))=false/\(x == ("__classdict__" : Str))=false/\x ≠ "__name__" := by
 unfold Rr at h;simp only[A5,N7] at h;exact⟨h.1.1,h.1.2,fun z=>by rw[z] at h;simp at h⟩
theorem SL{sc:N1}(h:WC sc x=true):mx sc x:=by
 unfold WC at h;unfold mx;split at h
 ·rename_i e;exact .inl e
 ·rename_i e;exact .inr (.inl e)
 ·rename_i e;exact .inr (.inr e)
 ·cases h
theorem Ce(ok:wj C X)(h:OY C.sc x=true):Gl X x:=by
 unfold OY at h;unfold Gl Env.kindOf;rw[ok.sc];split at h
 ·rename_i e;exact e
 ·cases h
variable {i:Nat} {pos:Pos}
theorem cA(ok:wj C X)(h:lv C x=some i):PE X (.Name x pos) (HL i):=by
 unfold lv at h;split at h
 ·rename_i e;rw[A5] at e;have n:=DR e.2;exact fH (by rw[ok.N];exact Bb h) (by rw[ok.sc];exact SL e.1) n.1 n.2.1
 ·cases h
variable {e:Expr}
theorem Ec(ok:wj C X)(h:Vo C e=some i):PE X e (HL i):=by
 cases e with
 | Name x pos=>exact cA ok h
 | _=>cases h
def cH(C:Cf)(e:Expr):Option (Nat×Str):=match e with
 | .Attribute o f _=>if C.rf.contains f then(Vo C o).map fun i=>(i,f) else none
 | _=>none
variable {o:Expr} {env:Env}
theorem WN{f:Str}(h:Vo C o=some i):R4 o f env (Q7 o env)=Q7 o env:=by
 cases o<;>first | rfl | (cases h)
theorem Og(ok:wj C X){q:Nat×Str}(h:cH C e=some q):PE X e (dg X.K (HL q.1) q.2):=by
 cases e with
 | Attribute o f pos =>
  unfold cH at h;simp only at h;split at h
  ·obtain⟨i,hi,rfl⟩:=D7.mp h;exact fQ (Ec ok hi) (WN hi)
  ·cases h
 | _=>cases h
structure CE:Type 1 where
 o:Nat
 Γ:Gm
 js:List Nat
 f:Ev Dv
structure CT:Type 1 where
 Γ:Gm
 js:List Nat
 f:Ev Bool
structure CA:Type 1 where
 as:List Ar
 Γ:Gm
 js:List Nat
structure CI:Type 1 where
 Γ:Gm
 js:List Nat
 f:Ev (List Dv)
structure CS:Type 1 where
 Γ:Option Gm
 js:List Nat
 f:Es
 er:Bool
 eb:Bool
 ec:Bool
structure Rec:Type 1 where
 E:Cf->Gm->Expr->Option CE
 A:Cf->Gm->List Bool->List Expr->Option CA
 T:Cf->Gm->Expr->Option CT
 I:Cf->Gm->Bool->Expr->Option CI
 S:Cf->Option Gm->Gm->M4->Option CS
 Ss:Cf->Option Gm->Gm->List M4->Option CS
abbrev bQ(t:TA)(te:TE):TA:=fun σ H Q=>t σ H fun vs H1=>te σ H1 fun x H2=>Q (vs++[x]) H2
structure wm (r:Rec):Prop where
 E:∀{C X Γ e c},wj C X->r.E C Γ e=some c->PE X e (tE X.K Γ c.o c.Γ c.js c.f)
 A:∀{C X Γ md es c},wj C X->r.A C Γ md es=some c->PA X es (Bt X.K c.as)/\AE Γ c.as c.Γ c.js/\c.as.length=es.length/\es.all BD=true/\(md=[]->SX c.as=true)
 T:∀{C X Γ e c},wj C X->r.T C Γ e=some c->PT X e (tT X.K Γ c.Γ c.js c.f)
 I:∀{C X Γ e c} (tg),wj C X->r.I C Γ (MQ tg) e=some c->PI X tg e (tI X.K Γ c.Γ c.js c.f)
 S:∀{C X wZ Γ s c},wj C X->r.S C wZ Γ s=some c->PS X s (tS X.K C.F wZ Γ c.Γ c.js c.f)
 Ss:∀{C X wZ Γ s c},wj C X->r.Ss C wZ Γ s=some c->EA X s (tS X.K C.F wZ Γ c.Γ c.js c.f)
 B:∀{C X Γ md es c},wj C X->r.A C Γ md es=some c->∀{e te},PE X e te->BD e=true->PA X (es++[e]) (bQ (Bt X.K c.as) te)
def il(Γ:Gm)(i:Nat):Bool:=match Γ.getD i none with
 | some o=>decide (o<=1)
 | none=>false
variable {Γ:Gm}
theorem Hz(h:il Γ i=true):∃o,o<=1/\Γ[i]?=some (some o):=by
 unfold il at h;split at h
 ·rename_i o e;exact⟨o,of_decide_eq_true h,Bi e⟩
 ·cases h
def Lf(r:Rec)(C:Cf)(Γ:Gm)(md:List Bool)(es:List Expr):Option CA:=match es with
  | []=>some ⟨[],Γ,[]⟩
  | e::es=>if BD e then
      match(if md.headD false then Vo C e else none) with
      | some i=>if(Γ.getD i none).isSome then(r.A C Γ md.tail es).bind fun c=>if il c.Γ i then some ⟨.rf i::c.as,c.Γ,c.js⟩ else none else none
      | none=>match(if md.headD false then cH C e else none) with
        | some q=>if(Γ.getD q.1 none).isSome then(r.A C Γ md.tail es).bind fun c=>if il c.Γ q.1 then some ⟨.fd q.1 q.2::c.as,c.Γ,c.js⟩ else none else none
        | none=>(r.E C Γ e).bind fun c1=>(r.A C c1.Γ md.tail es).bind fun c=>some ⟨.ev Γ c1.Γ c1.js c1.f::c.as,c.Γ,c1.js++c.js⟩
    else none
variable {es:List Expr}
theorem AN(h:BD e=true):E6 (e::es) env=(false,Q7 e env)::E6 es env:=by
 cases e<;>first | rfl | (cases h)
theorem getD_some(h:(Γ.getD i none).isSome=true):∃o,Γ[i]?=some (some o):=by
 obtain⟨o,e⟩:=O5.mp h;exact⟨o,Bi e⟩
variable {r:Rec}
theorem RY(R:wm r){md:List Bool}{c:CA}(ok:wj C X)(h:Lf r C Γ md es=some c){e0:Expr}{te:TE}(h0:PE X e0 te)(hn0:BD e0=true):PA X (es++[e0]) (bQ (Bt X.K c.as) te):=by
  cases es with
  | nil=>cases h;exact Cd h0 OL (AN hn0)
  | cons e es =>
    unfold Lf at h;simp only at h;split at h
    · rename_i hs;have zH:=AN (es:=es++[e0]) (env:=X.env) hs;split at h
      · rename_i i hi;have hmd:md.headD false=true:=by
          cases q:md.headD false with
          | true=>rfl
          | false=>rw[q] at hi;cases hi
        rw[hmd] at hi;split at h
        · obtain⟨c2,e2,h⟩:=wV h;split at h
          · cases h;exact Cd (Ec ok hi) (R.B ok e2 h0 hn0) zH
          · cases h
        · cases h
      · split at h
        · rename_i q hq;have hmd:md.headD false=true:=by
            cases z:md.headD false with
            | true=>rfl
            | false=>rw[z] at hq;cases hq
          rw[hmd] at hq;split at h
          · obtain⟨c2,e2,h⟩:=wV h;split at h
            · cases h;exact Cd (Og ok hq) (R.B ok e2 h0 hn0) zH
            · cases h
          · cases h
        · obtain⟨c1,e1,h⟩:=wV h;obtain⟨c2,e2,h⟩:=wV h;cases h;exact Cd (GC (R.E ok e1)) (R.B ok e2 h0 hn0) zH
    · cases h
theorem UR(R:wm r){md:List Bool}{c:CA}(ok:wj C X)(h:Lf r C Γ md es=some c):PA X es (Bt X.K c.as)/\AE Γ c.as c.Γ c.js/\c.as.length=es.length/\es.all BD=true/\(md=[]->SX c.as=true):=by
  cases es with
  | nil=>cases h;exact⟨OL,by unfold AE;exact⟨rfl,rfl⟩,rfl,rfl,fun _=>rfl⟩
  | cons e es =>
    unfold Lf at h;simp only at h;split at h
    · rename_i hs;have zH:=AN (es:=es) (env:=X.env) hs;split at h
      · rename_i i hi;have hmd:md.headD false=true:=by
          cases q:md.headD false with
          | true=>rfl
          | false=>rw[q] at hi;cases hi
        rw[hmd] at hi;split at h
        · rename_i h1;obtain⟨c2,e2,h⟩:=wV h;split at h
          · rename_i h2;cases h;obtain⟨a1,a2,a3,a4,a5⟩:=R.A ok e2;refine⟨Cd (Ec ok hi) a1 zH,?_,by simp[a3],by simp[hs,a4],fun z=>by rw[z] at hmd;cases hmd⟩;unfold AE;exact⟨getD_some h1,Hz h2,a2⟩
          · cases h
        · cases h
      · split at h
        · rename_i q hq;have hmd:md.headD false=true:=by
            cases z:md.headD false with
            | true=>rfl
            | false=>rw[z] at hq;cases hq
          rw[hmd] at hq;split at h
          · rename_i h1;obtain⟨c2,e2,h⟩:=wV h;split at h
            · rename_i h2;cases h;obtain⟨a1,a2,a3,a4,a5⟩:=R.A ok e2;refine⟨Cd (Og ok hq) a1 zH,?_,by simp[a3],by simp[hs,a4],fun z=>by rw[z] at hmd;cases hmd⟩;unfold AE;exact⟨getD_some h1,Hz h2,a2⟩
            · cases h
          · cases h
        · obtain⟨c1,e1,h⟩:=wV h;obtain⟨c2,e2,h⟩:=wV h;cases h;obtain⟨a1,a2,a3,a4,a5⟩:=R.A ok e2;refine⟨Cd (GC (R.E ok e1)) a1 zH,?_,by simp[a3],by simp[hs,a4],fun z=>?_⟩
          · unfold AE;exact⟨rfl,_,rfl,a2⟩
          · show SX c2.as=true;exact a5 (by rw[z];rfl)
    · cases h
def Xb(Γ:Gm):Const->Option CE
 | .int i=>some ⟨1,Γ,[],MX (.int i)⟩
 | .bool b=>some ⟨1,Γ,[],MX (.bl b)⟩
 | .none=>some ⟨1,Γ,[],MX .wa⟩
 | .str x=>some ⟨1,Γ,[],MX (.str x.cps.toList)⟩
 | _=>none
theorem dW(x:Str):tx x.cps.toList=x:=by
 unfold tx;cases x;rfl
variable {c:CE}
theorem TF{k:Const}{j:Nat}(h:Xb Γ k=some c):PE X (.Constant k j pos) (tE X.K Γ c.o c.Γ c.js c.f):=by
 cases k with
 | int i=>cases h;exact ij fP fun _ _=>Be
 | bool b=>cases h;exact ij kR fun _ _=>DF
 | none=>cases h;exact ij fM fun _ _=>DE
 | str x=>cases h;exact ij fJ fun _ _=>by unfold Rep;exact⟨by rw[dW],fun _ z=>z⟩
 | _=>cases h
noncomputable def YR(x:Str):Option String:=if x == ("int" : Str) then some "int" else if x == ("bool" : Str) then some "bool" else if x == ("str" : Str) then some "str" else if x == ("tuple" : Str) then some "tuple" else if x == ("list" : Str) then some "list" else none
theorem RN{T:String}(h:YR x=some T):N0 x=some (.type T):=by
 unfold YR at h
 repeat' split at h
 all_goals first | (rename_i e;rw[beq_iff_eq.mp e];cases h;first | exact PyProof.Rows.Boot.«int» | exact PyProof.Rows.Boot.«bool» | exact PyProof.Rows.Boot.«str» | exact PyProof.Rows.Boot.«tuple» | exact PyProof.Rows.Boot.«list») | cases h
def XU(C:Cf)(Γ:Gm)(x:Str):Option CE:=match lv C x with
  | some i=>if(Γ.getD i none).isSome then some ⟨0,Γ.set i (some 0),[],Qm i⟩ else none
  | none=>if OY C.sc x && Rr x then(match C.cs.find? fun p=>p.1 == x with
      | some p=>some ⟨0,Γ,[],MX p.2⟩
      | none=>if C.bl.contains x then(YR x).map fun T=>⟨0,Γ,[],MX (.ty T)⟩ else none) else none
theorem XT(ok:wj C X)(h:XU C Γ x=some c):PE X (.Name x pos) (tE X.K Γ c.o c.Γ c.js c.f):=by
 unfold XU at h;split at h
 ·rename_i i hi;split at h
  ·rename_i h1;cases h;obtain⟨o,ho⟩:=getD_some h1;exact jW (cA ok hi) ho
  ·cases h
 ·split at h
  ·rename_i hg;rw[A5] at hg;cases q:C.cs.find? fun p=>p.1 == x with
   | none =>
    rw[q] at h;simp only at h;split at h
    ·rename_i hb;cases t:YR x with
     | none=>rw[t] at h;cases h
     | some T =>
      rw[t] at h;cases h;exact ij (ZT (v:=.ty T) (Ce ok hg.1) (ok.bl x (B6.mp hb)) (RN t) rfl (DR hg.2).2.2 (DR hg.2).1) fun _ _=>by unfold Rep;exact⟨rfl,fun _ z=>z⟩
    ·cases h
   | some p =>
    rw[q] at h;cases h;have e:p.1=x:=beq_iff_eq.mp (by simpa using O1 q);obtain⟨v,u,h1,h3,h2⟩:=ok.cs p.1 p.2 (S8 q);rw[e] at h1;exact ij (ZQ (Ce ok hg.1) h1 h3 (DR hg.2).1) h2
  ·cases h
structure C1:Type 1 where
 a:Ar
 Γ:Gm
 js:List Nat
def IZ(r:Rec)(C:Cf)(Γ:Gm)(m:Bool)(e:Expr):Option C1:=match(if m then Vo C e else none) with
 | some i=>if(Γ.getD i none).isSome then some ⟨.rf i,Γ,[]⟩ else none
 | none=>match(if m then cH C e else none) with
  | some q=>if(Γ.getD q.1 none).isSome then some ⟨.fd q.1 q.2,Γ,[]⟩ else none
  | none=>(r.E C Γ e).bind fun c=>some ⟨.ev Γ c.Γ c.js c.f,c.Γ,c.js⟩
def GY(a:Ar)(Γ:Gm):Bool:=match a with
 | .rf i=>il Γ i
 | .fd i _=>il Γ i
 | _=>true
theorem Dy(R:wm r){m:Bool}{c:C1}(ok:wj C X)(h:IZ r C Γ m e=some c):PE X e (RU X.K c.a)/\(m=false->SX [c.a]=true)/\∀{as Γ' js},AE c.Γ as Γ' js->GY c.a Γ'=true->AE Γ (c.a::as) Γ' (c.js++js):=by
 unfold IZ at h;split at h
 ·rename_i i hi;split at h
  ·rename_i h1;cases h;have hm:m=true:=by cases m with | true=>rfl | false=>cases hi
   subst hm;refine⟨Ec ok hi,(fun z=>by cases z),fun ch hs=>?_⟩;unfold AE;exact⟨getD_some h1,Hz hs,ch⟩
  ·cases h
 ·split at h
  ·rename_i q hq;split at h
   ·rename_i h1;cases h;have hm:m=true:=by cases m with | true=>rfl | false=>cases hq
    subst hm;refine⟨Og ok hq,(fun z=>by cases z),fun ch hs=>?_⟩;unfold AE;exact⟨getD_some h1,Hz hs,ch⟩
   ·cases h
  ·obtain⟨c1,e1,h⟩:=wV h;cases h;refine⟨GC (R.E ok e1),fun _=>rfl,fun ch hs=>?_⟩;unfold AE;exact⟨rfl,_,rfl,ch⟩
theorem DK:AE Γ [] Γ []:=by unfold AE;exact⟨rfl,rfl⟩
def NJ(r:Rec)(C:Cf)(Γ:Gm)(a b:Expr):Option (C1×C1):=(IZ r C Γ true a).bind fun x=>(IZ r C x.Γ true b).bind fun y=>if GY x.a y.Γ && GY y.a y.Γ then some (x,y) else none
noncomputable def jj(p:C1×C1):List Nat:=p.1.js++(p.2.js++[])
variable {a b:Expr}
theorem IY(R:wm r){p:C1×C1}(ok:wj C X)(h:NJ r C Γ a b=some p):PE X a (RU X.K p.1.a)/\PE X b (RU X.K p.2.a)/\AE Γ [p.1.a,p.2.a] p.2.Γ (jj p):=by
 unfold NJ at h;obtain⟨x,e1,h⟩:=wV h;obtain⟨y,e2,h⟩:=wV h;split at h
 ·rename_i z;rw[A5] at z;cases h;obtain⟨a1,_,a2⟩:=Dy R ok e1;obtain⟨b1,_,b2⟩:=Dy R ok e2;exact⟨a1,b1,a2 (b2 DK z.2) z.1⟩
 ·cases h
def TX(r:Rec)(C:Cf)(Γ:Gm)(a:Expr):Option C1:=(IZ r C Γ true a).bind fun x=>if GY x.a x.Γ then some x else none
theorem HC(R:wm r){x:C1}(ok:wj C X)(h:TX r C Γ a=some x):PE X a (RU X.K x.a)/\AE Γ [x.a] x.Γ (x.js++[]):=by
 unfold TX at h;obtain⟨y,e1,h⟩:=wV h;split at h
 ·rename_i z;cases h;obtain⟨a1,_,a2⟩:=Dy R ok e1;exact⟨a1,a2 DK z⟩
 ·cases h
theorem wj.gx(ok:wj C X):Gx X:=ok.room
def mE(r:Rec)(C:Cf)(Γ:Gm)(a:Expr)(op:rZ)(b:Expr):Option CE:=(C.T.zCi.find? fun e=>e.op == op).bind fun en=>(NJ r C Γ a b).bind fun p=>some ⟨1,p.2.Γ,jj p,GK (two en.f) (Ab [p.1.a,p.2.a])⟩
theorem aq(R:wm r){op:rZ}(ok:wj C X)(h:mE r C Γ a op b=some c):PE X (.BinOp a op b pos) (tE X.K Γ c.o c.Γ c.js c.f):=by
 obtain⟨en,e1,h⟩:=wV h;obtain⟨p,e2,h⟩:=wV h;cases h;have eo:en.op=op:=by simpa using O1 e1
 obtain⟨h1,h2,h3⟩:=IY R ok e2;obtain⟨rr,q1,q2⟩:=en.ok X ok.gx;rw[eo] at q1;exact PE.imp (kO q1 h1 h2) fun _ _ _ h=>DG q2 h3 h
noncomputable def NM(x:Dv):Option Dv:=match x with | .int i=>some (.int (-i)) | _=>none
theorem ef{K:W.Frag}:AK K (one NM) 1 (dE (rU fun i=>.int (-i))):=fun g H ds vs d Q zd ra e k=>by
 unfold one at e;split at e
 ·rename_i a;unfold NM at e;split at e
  ·rename_i i;cases e;unfold RA at ra;obtain⟨v,r,o,P,rfl,_,h1,h2⟩:=ra;unfold RA at h2;subst h2;rw[AI h1];exact⟨i,rfl,k _ H (Ac.old Be)⟩
  ·cases e
 ·cases e
def lj(r:Rec)(C:Cf)(Γ:Gm)(a:Expr):Option CE:=(TX r C Γ a).bind fun x=>some ⟨1,x.Γ,x.js++[],GK (one NM) (Ab [x.a])⟩
theorem ae(R:wm r)(ok:wj C X)(h:lj r C Γ a=some c):PE X (.UnaryOp .USub a pos) (tE X.K Γ c.o c.Γ c.js c.f):=by
 obtain⟨x,e1,h⟩:=wV h;cases h;obtain⟨h1,h2⟩:=HC R ok e1;exact PE.imp (kM dQ h1) fun _ _ _ h=>DG ef h2 h
def ir(t:CT):CE:=⟨1,t.Γ,t.js,aC t.f⟩
def PD(r:Rec)(C:Cf)(Γ:Gm)(a:Expr)(op:vL)(b:Expr):Option CT:=if sR op b then none else(C.T.zAU.find? fun e=>e.op == op).bind fun en=>(NJ r C Γ a b).bind fun p=>some ⟨p.2.Γ,jj p,mm (two en.f) (Ab [p.1.a,p.2.a])⟩
theorem iS{K:W.Frag}{Γ':Gm}{js:List Nat}{σ:St}{H:Hp}{o:Nat}{p:List Dv->Option Bool}{as:List Ar}{r:RG}(hp:AK K (fun ds=>(p ds).map .bl) 0 r)(c:AE Γ as Γ' js){Q:VK}(h:tE K Γ o Γ' js (aC (mm p (Ab as))) σ H Q):Bt K as σ H fun vs H1=>r vs H1 Q:=by
 obtain⟨g,m,P,rl,R',k,res,e,q⟩:=h;refine AU as rl c e fun ds m' g' P' vs H1 hk ag s ar r1=>?_
 obtain⟨b,e1,e2⟩:=wV hk;refine hp g' H1 ds vs (.bl b) _ r1.zd (ar.ra r1) (by show(p ds).map _=_;rw[e1];rfl) fun v H2 nw=>?_
 obtain⟨Pv,s2,h1,r2,n2⟩:=Ac.go s r1 nw;have ev:=Cj h1;subst ev;exact q (.bl b) m' g' P' wX _ H2 e2 ag (s2.less fun _ z=>z.elim .inl F1) DF r2 fun _ _ z=>z
theorem Qy(R:wm r){op:vL}{c:CT}(ok:wj C X)(h:PD r C Γ a op b=some c):PT X (.Compare a [op] [b] pos) (tT X.K Γ c.Γ c.js c.f)/\∀o,PE X (.Compare a [op] [b] pos) (tE X.K Γ o c.Γ c.js (aC c.f)):=by
 unfold PD at h;split at h
 ·cases h
 ·rename_i hm;rw[Bool.not_eq_true] at hm;obtain⟨en,e1,h⟩:=wV h;obtain⟨p,e2,h⟩:=wV h;cases h;have eo:en.op=op:=by simpa using O1 e1
  obtain⟨h1,h2,h3⟩:=IY R ok e2;obtain⟨rr,q1,q2⟩:=en.ok X ok.gx;rw[eo] at q1;exact⟨PT.imp (Yz q1 h1 h2 hm) fun _ _ _ h=>mK q2 h3 h,fun o=>PE.imp (ZR q1 h1 h2 hm) fun _ _ _ h=>iS q2 h3 h⟩
noncomputable def Hr:Expr->Bool
 | .Slice _ _ _ _=>false
 | _=>true
theorem VL(h:Hr b=true):RH b:=fun o i=>by
 cases b<;>first | rfl | (cases h)
def oE(r:Rec)(C:Cf)(Γ:Gm)(a b:Expr):Option CE:=(NJ r C Γ a b).bind fun p=>some ⟨0,p.2.Γ,jj p,GK (two C.T.ix) (Ab [p.1.a,p.2.a])⟩
theorem iP(R:wm r)(ok:wj C X)(hb:Hr b=true)(h:oE r C Γ a b=some c):PE X (.Subscript a b pos) (tE X.K Γ c.o c.Γ c.js c.f):=by
 obtain⟨p,e2,h⟩:=wV h;cases h;obtain⟨h1,h2,h3⟩:=IY R ok e2;obtain⟨rr,q1,q2⟩:=C.T.zCP X ok.gx;exact PE.imp (kP q1 h1 h2 (VL hb)) fun _ _ _ h=>DG q2 h3 h
noncomputable def iz{R:Type}(d:Dv)(k:Int->Option R):Option R:=match d with | .int i=>k i | _=>none
def iT(o:Option (Ev Dv)):Ev (Option Int):=match o with
 | none=>fun _ m k=>k none m
 | some f=>fun R m k=>f R m fun d m1=>iz d fun i=>k (some i) m1
def lI(p:Dv->Option Int->Option Int->Option Dv)(a:Ar)(lo hi:Option (Ev Dv)):Ev Dv:=match a with
 | .rf i=>fun R m k=>iT lo R m fun l m1=>iT hi R m1 fun u m2=>(p (m2.at i) l u).bind fun d=>k d m2
 | .ev _ _ _ f=>fun R m k=>f R m fun x m1=>iT lo R m1 fun l m2=>iT hi R m2 fun u m3=>(p x l u).bind fun d=>k d m3
 | .fd _ _=>fun _ _ _=>none
def oF(r:Rec)(C:Cf)(Γ:Gm)(o:Option Expr):Option (Option (Ev Dv)×Gm×List Nat):=match o with
 | none=>some (none,Γ,[])
 | some e=>(r.E C Γ e).bind fun c=>some (some c.f,c.Γ,c.js)
def bV(K:W.Frag)(Γ Γ':Gm)(js:List Nat)(f:Ev (Option Int)):TO:=fun σ H Q=>∃g m P,Rel K g H Γ m σ P/\∃(R:Type) (k:Option Int->M->Option R) (r:R),f R m k=some r /\
 ∀b m' g' P' H',k b m'=some r->Bj js m m'->Step g P H g' P' H'->Rel K g' H' Γ' m' σ P'->Q b H'
theorem PO.imp{e:Option Expr}{t t':TO}(h:PO X e t)(k:∀σ H Q,t' σ H Q->t σ H Q):PO X e t':=fun pins s σ H Q I q=>h pins s σ H Q I (k σ H Q q)
theorem Xc(R:wm r){e:Option Expr}{p:Option (Ev Dv)×Gm×List Nat}(ok:wj C X)(h:oF r C Γ e=some p):PO X e (bV X.K Γ p.2.1 p.2.2 (iT p.1)):=by
 cases e with
 | none =>
  cases h;exact PO.imp ZN fun σ H Q q=>by
   obtain⟨g,m,P,r,R,k,res,e,q⟩:=q;exact q none m g P H e Bj.refl Step.refl r
 | some e =>
  obtain⟨c,e1,h⟩:=wV h;cases h;exact PO.imp (ZM (GC (R.E ok e1))) fun σ H Q q=>by
   obtain⟨g,m,P,r,R,k,res,e,q⟩:=q;refine⟨g,m,P,r,R,_,res,e,fun d m' g' P' Pv v H' hk ag s rv r1 n=>?_⟩;cases d<;>first | (cases hk;done) | skip
   rename_i i;exact⟨i,AI rv,q (some i) m' g' P' H' hk ag (s.less fun _ z=>.inl z) r1⟩
def pG(r:Rec)(C:Cf)(Γ:Gm)(a:Expr)(lo hi:Option Expr):Option CE:=(IZ r C Γ true a).bind fun x=>(oF r C x.Γ lo).bind fun l=>(oF r C l.2.1 hi).bind fun u=>if GY x.a u.2.1 then some ⟨1,u.2.1,x.js++(l.2.2++u.2.2),lI C.T.sl x.a l.1 u.1⟩ else none
theorem dw{K:W.Frag}{Γ wu w8 Γ':Gm}{j1 j2 j3:List Nat}{p:Dv->Option Int->Option Int->Option Dv}{rr:V->Option Int->Option Int->Hp->VK->Prop}(hp:∀lo hi,AK K (one fun d=>p d lo hi) 1 (dE fun x H Q=>rr x lo hi H Q)){a:Ar}{lo hi:Option (Ev Dv)}
    (ha:∀{as Γ' js},AE wu as Γ' js->GY a Γ'=true->AE Γ (a::as) Γ' (j1++js)) (hs:GY a Γ'=true) {σ:St} {H:Hp} {Q:VK}
    (h:tE K Γ 1 Γ' (j1++(j2++j3)) (lI p a lo hi) σ H Q):oZ rr (RU K a) (bV K wu w8 j2 (iT lo)) (bV K w8 Γ' j3 (iT hi)) σ H Q:=by
  obtain⟨g,m,P,r,R,k,res,e,q⟩:=h;have fin:∀{x:Dv} {l u:Option Int} {m3:M} {g3:G} {P3:Fp} {H3:Hp} {v:V} {o:Nat} {Px:Fp},(p x l u).bind (fun d=>k d m3)=some res->Bj (j1++(j2++j3)) m m3->Step g P H g3 P3 H3->Rel K g3 H3 Γ' m3 σ P3->o<=1->Rep K g3 H3 o x v Px->rr v l u H3 Q:=fun{x l u m3 g3 P3 H3 v o Px} hk ag s r3 hlo rx=>by
    obtain⟨d,e1,e2⟩:=wV hk;refine hp l u g3 H3 [x] [v] d Q r3.zd (by unfold RA;exact⟨v,[],o,Px,rfl,hlo,rx,by unfold RA;rfl⟩) e1 fun w H4 nw=>?_
    obtain⟨Pv,s2,h1,r2,n2⟩:=Ac.go s r3 nw;exact q d m3 g3 P3 Pv w H4 e2 ag s2 h1 r2 n2
  cases a with
  | fd i f=>cases e
  | rf i =>
    have c0:=ha (as:=[]) (Γ':=wu) (js:=[]) DK;have hs':=hs
    -- the slot is set ahead
    have h0:(∃o,Γ[i]?=some (some o))/\wu=Γ/\j1=[]:=by
      have:=ha (as:=[.ev wu Γ' (j2++j3) (fun _ m k=>k .wa m)]) (Γ':=Γ') (js:=(j2++j3)++[]) (by unfold AE;exact⟨rfl,[],rfl,DK⟩) hs;unfold AE at this;refine⟨this.1,?_⟩;obtain⟨_,_,c⟩:=this;unfold AE at c;refine⟨c.1,?_⟩;obtain⟨_,js2,e,c⟩:=c;unfold AE at c;rw[c.2] at e;have l:(j1++((j2++j3)++[])).length=((j2++j3)++[]).length:=congrArg O8 e;simp at l;exact l
    obtain⟨⟨o0,h0⟩,rfl,rfl⟩:=h0;obtain⟨v0,P0,zh,rv0,_⟩:=r.zq h0;refine⟨v0,zh,g,m,P,r,R,_,res,e,fun l m1 g1 P1 H1 hk1 ag1 s1 r1=>⟨g1,m1,P1,r1,R,_,res,hk1,fun u m2 g2 P2 H2 xy yf s2 r2=>?_⟩⟩;obtain⟨o1,xq,h1⟩:=Hz hs;obtain⟨v1,Px,ev1,rv1,_⟩:=r2.zq h1;rw[zh] at ev1;cases ev1;exact fin xy (ag1.trans yf) (s1.trans s2) r2 xq rv1
  | ev Γa Γb ja f =>
    have h0:Γa=Γ/\Γb=wu/\j1=ja:=by
      have:=ha (as:=[.ev wu wu [] (fun _ m k=>k .wa m)]) (Γ':=wu) (js:=[]) (by unfold AE;exact⟨rfl,[],rfl,DK⟩) rfl;unfold AE at this;obtain⟨e1,js2,e2,c⟩:=this;unfold AE at c;obtain⟨e3,js3,e4,c⟩:=c;unfold AE at c;rw[c.2] at e4;subst e4;simp at e2;exact⟨e1,e3.symm,e2⟩
    obtain⟨rfl,rfl,rfl⟩:=h0;refine⟨g,m,P,r,R,_,res,e,fun x m1 g1 P1 Pv v H1 hk1 ag1 s1 rv r1 n1=>⟨g1,m1,P1,r1,R,_,res,hk1,fun l m2 g2 P2 H2 xy yf s2 r2=>⟨g2,m2,P2,r2,R,_,res,xy,fun u m3 g3 P3 H3 hk3 ag3 s3 r3=>?_⟩⟩⟩;exact fin hk3 (ag1.trans (yf.trans ag3)) (((s1.less fun _ z=>.inl z).trans s2).trans s3) r3 (by decide:0<=1) ((rv.z.held s2 r1.wc fun _ z=>z.elim).held s3 r2.wc fun _ z=>z.elim)
theorem iE(R:wm r){lo hi:Option Expr}{p2:Pos}(ok:wj C X)(h:pG r C Γ a lo hi=some c):PE X (.Subscript a (.Slice lo hi none p2) pos) (tE X.K Γ c.o c.Γ c.js c.f):=by
 obtain⟨x,e1,h⟩:=wV h;obtain⟨l,e2,h⟩:=wV h;obtain⟨u,e3,h⟩:=wV h;split at h
 ·rename_i hs;cases h;obtain⟨h1,_,h2⟩:=Dy R ok e1;obtain⟨rr,q1,q2⟩:=C.T.zCF X ok.gx;exact PE.imp (VR q1 h1 (Xc R ok e2) (Xc R ok e3)) fun _ _ _ h=>dw q2 h2 hs h
 ·cases h
def lX(r:Rec)(C:Cf)(Γ:Gm)(es:List Expr):Option CE:=(r.A C Γ [] es).bind fun c=>some ⟨1,c.Γ,c.js,Qn .tup (Ab c.as)⟩
def lu(r:Rec)(C:Cf)(Γ:Gm)(es:List Expr):Option CE:=(r.A C Γ [] es).bind fun c=>some ⟨1,c.Γ,c.js,Qn .lst (Ab c.as)⟩
def WT:Ev Dv:=MX (.xH [] [])
theorem Ac.xH{K:W.Frag}{g:G}{H:Hp}{p:B5}(zd:Zd g H)(hp:H p=none):Ac K g H 1 (.xH [] []) (.ref p) (upd H p (.dK [])):=by
 have sm:=CM hp (.dK []);refine⟨sm,fun b=>b=p,?_,fun a q=>q▸hp⟩;unfold Rep;exact⟨p,[],rfl,AF,(fun z=>by cases z),(fun _ z=>zd p z hp),⟨rfl,wX,AA.nil⟩,fun b=>⟨fun z=>⟨by decide,z⟩,fun z=>z.2⟩⟩
theorem jd:PE X (.Dict [] [] pos) (tE X.K Γ 1 Γ [] WT):=PE.imp VU fun σ H Q q=>by
 obtain⟨g,m,P,r,R,k,res,e,q⟩:=q;intro p hp;obtain⟨Pv,s2,h1,r2,n2⟩:=Ac.go Step.refl r (Ac.xH r.zd hp);exact q _ m g P Pv _ _ e Bj.refl s2 h1 r2 n2
theorem aV(R:wm r){x1:Nat}(ok:wj C X)(h:lX r C Γ es=some c):PE X (.Tuple es x1 pos) (tE X.K Γ c.o c.Γ c.js c.f):=by
 obtain⟨x,e1,h⟩:=wV h;cases h;obtain⟨a1,a2,_,_,a5⟩:=R.A ok e1;exact jX a1 a2 (a5 rfl)
theorem ah(R:wm r)(ok:wj C X)(h:lu r C Γ es=some c):PE X (.List es pos) (tE X.K Γ c.o c.Γ c.js c.f):=by
 obtain⟨x,e1,h⟩:=wV h;cases h;obtain⟨a1,a2,_,_,a5⟩:=R.A ok e1;exact jZ a1 a2 (a5 rfl)
def Ba:Gm->Gm->Gm
 | some a::x,some b::y=>some (if a == b then a else 0)::Ba x y
 | _::x,_::y=>none::Ba x y
 | _,_=>[]
def lG(t:Dv->Option Bool)(fa:Ev (List Dv)):Ev Bool:=mm (one t) fa
def iC(r:Rec)(C:Cf)(Γ:Gm)(a:Expr):Option CT:=(TX r C Γ a).bind fun x=>some ⟨x.Γ,x.js++[],lG C.T.tru (Ab [x.a])⟩
noncomputable def Qb:Expr->Bool
 | .UnaryOp .Not _ _=>false
 | .BoolOp _ _ _=>false
 | .IfExp _ _ _ _=>false
 | .Compare _ _ _ _=>false
 | _=>true
theorem aW(R:wm r){c:CT}(ok:wj C X)(hv:Qb a=true)(h:iC r C Γ a=some c):PT X a (tT X.K Γ c.Γ c.js c.f):=by
  obtain⟨x,e1,h⟩:=wV h;cases h;obtain⟨h1,h2⟩:=HC R ok e1;refine PT.imp (VB h1 fun whole=>?_) fun σ H Q h=>?_
  · cases a<;>first | rfl | (cases hv;done) | skip
    rename_i op b pos;cases op<;>first | rfl | (cases hv;done)
  · obtain⟨g,m,P,rl,R',k,res,e,q⟩:=h;have key:Bt X.K [x.a] σ H fun vs H1=>∃w,vs=[w]/\∃b,YA X.K w H1 b/\Q b H1:=by
      refine AU [x.a] rl h2 e fun ds m' g' P' vs H1 hk ag s ar r1=>?_
      obtain⟨b,e1,e2⟩:=wV hk;unfold one at e1;split at e1
      · rename_i d;have ra:=ar.ra r1;unfold RA at ra;obtain⟨w,wr,o,Po,rfl,_,h3,h4⟩:=ra;unfold RA at h4;subst h4;exact⟨w,rfl,b,C.T.zBy _ _ _ _ _ _ _ _ h3 e1,q b m' g' P' H1 e2 ag s r1⟩
      · cases e1
    revert key
    cases x.a with
    | ev Γa Γb ja fa =>
      rintro⟨g,m,P,r,R,k,res,e,q⟩;refine⟨g,m,P,r,R,k,res,e,fun d m' g' P' Pv v H' h1 h2 h3 h4 h5 h6=>?_⟩;obtain⟨w,ew,z⟩:=q d m' g' P' Pv v H' h1 h2 h3 h4 h5 h6;cases ew;exact z
    | rf i =>
      rintro⟨v,e,w,ew,z⟩;cases ew;exact⟨v,e,z⟩
    | fd i f =>
      rintro⟨v,e,a,C',dx,fs,w0,q1,q2,q3,q4,q5,w,ew,z⟩;cases ew;exact⟨v,e,a,C',dx,fs,w0,q1,q2,q3,q4,q5,z⟩
def iJ(t:CT):CT:=⟨t.Γ,t.js,cP t.f⟩
def oG(a b:CT):CT:=let Γ':=Ba a.Γ b.Γ;let js:=a.js++b.js;⟨Γ',js,SY (BR Γ' js) (Jp a.f b.f fun _ m k=>k false m)⟩
def ph(a b:CT):CT:=let Γ':=Ba a.Γ b.Γ;let js:=a.js++b.js;⟨Γ',js,SY (BR Γ' js) (Jp a.f (fun _ m k=>k true m) b.f)⟩
theorem kH{op:BoolOp}{vs:List Expr}{t:TT}(h:PT X (.BoolOp op vs pos) t):PW X (.BoolOp op vs pos) t:=fun wh pins s σ H Q I q=>h pins s σ H Q I q
def ba(r:Rec)(C:Cf)(Γ:Gm)(op:BoolOp)(vs:List Expr)(pos:Pos):Option CT:=match vs with
 | []=>none
 | [a]=>r.T C Γ a
 | a::b::vs=>(r.T C Γ a).bind fun x=>(r.T C x.Γ (.BoolOp op (b::vs) pos)).bind fun y=>if Bn (Ba x.Γ y.Γ) x.Γ && Bn (Ba x.Γ y.Γ) y.Γ then some (match op with | .And=>oG x y | .Or=>ph x y) else none
theorem UP(R:wm r){op:BoolOp}{vs:List Expr}{c:CT}(ok:wj C X)(h:ba r C Γ op vs pos=some c):PT X (.BoolOp op vs pos) (tT X.K Γ c.Γ c.js c.f):=by
 match vs,h with
 | [],h=>cases h
 | [a],h =>
  cases op with
  | And=>exact PW.pt (Yy (R.T ok h))
  | Or=>exact PW.pt (eT (R.T ok h))
 | a::b::vs,h =>
  obtain⟨x,e1,h⟩:=wV h;obtain⟨y,e2,h⟩:=wV h;split at h
  ·rename_i hw;rw[A5] at hw;have ha:=R.T ok e1;have hb:=kH (R.T ok e2);have jk:∀(i o:Nat),(Ba x.Γ y.Γ)[i]?=some (some o)->i∈BR (Ba x.Γ y.Γ) (x.js++y.js)\/i∉x.js++y.js:=fun i o h=>BX h
   cases op with
   | And =>
    cases h;exact PW.pt (PW.imp (eU ha (PW.imp hb fun _ _ _ h=>PY hw.2 (fun _ z=>z) h)) fun σ H Q h=>de (QY jk (fun i z=>BE z) h) hw.1)
   | Or =>
    cases h;exact PW.pt (PW.imp (kG ha (PW.imp hb fun _ _ _ h=>PY hw.2 (fun _ z=>z) h)) fun σ H Q h=>jG (QY jk (fun i z=>BE z) h) hw.1)
  ·cases h
def TJ(r:Rec)(C:Cf)(Γ:Gm)(a:Expr)(op:vL)(b:Expr)(op':vL)(c:Expr):Option CT:=none
theorem Qz(R:wm r){c:Expr}{op op':vL}{t:CT}(ok:wj C X)(h:TJ r C Γ a op b op' c=some t):PT X (.Compare a [op,op'] [b,c] pos) (tT X.K Γ t.Γ t.js t.f)/\∀o,PE X (.Compare a [op,op'] [b,c] pos) (tE X.K Γ o t.Γ t.js (aC t.f)):=by cases h
def bX(r:Rec)(C:Cf)(Γ:Gm)(e:Expr):Option CT:=match e with
 | .Compare a [op] [b] _=>PD r C Γ a op b
 | .Compare a [op,op'] [b,c] _=>TJ r C Γ a op b op' c
 | .UnaryOp .Not x _=>(r.T C Γ x).map iJ
 | .BoolOp op vs pos=>ba r C Γ op vs pos
 | e=>if Qb e then iC r C Γ e else none
theorem UJ(R:wm r){c:CT}(ok:wj C X)(h:bX r C Γ e=some c):PT X e (tT X.K Γ c.Γ c.js c.f):=by
 have val:Qb e=true->(if Qb e then iC r C Γ e else none)=some c->PT X e (tT X.K Γ c.Γ c.js c.f):=fun hv h=>by
  rw[if_pos hv] at h;exact aW R ok hv h
 match e,h with
 | .Compare a ops bs pos,h =>
  match ops,bs,h with
  | [op],[b],h=>exact(Qy R ok h).1
  | [op,op'],[b,c],h=>exact(Qz R ok h).1
  | [],_,h=>cases h
  | [_],[],h=>cases h
  | [_],_::_::_,h=>cases h
  | [_,_],[],h=>cases h
  | [_,_],[_],h=>cases h
  | [_,_],_::_::_::_,h=>cases h
  | _::_::_::_,_,h=>cases h
 | .UnaryOp op x pos,h =>
  cases op with
  | Not =>
   cases q:r.T C Γ x with
   | none=>replace h:(r.T C Γ x).map iJ=some c:=h;rw[q] at h;cases h
   | some t =>
    replace h:(r.T C Γ x).map iJ=some c:=h;rw[q] at h;cases h;exact PT.imp (eV (R.T ok q)) fun _ _ _ h=>dc h
  | _=>exact val rfl h
 | .BoolOp op vs pos,h=>exact UP R ok h
 | .IfExp a b c' d,h=>cases h
 | .NamedExpr ..,h | .BinOp ..,h | .Lambda ..,h | .Dict ..,h | .Set ..,h | .ListComp ..,h | .SetComp ..,h | .DictComp ..,h | .GeneratorExp ..,h | .Await ..,h | .Yield ..,h | .YieldFrom ..,h | .Call ..,h | .FormattedValue ..,h | .JoinedStr ..,h | .Constant ..,h | .Attribute ..,h | .Subscript ..,h | .Starred ..,h | .Name ..,h | .List ..,h | .Tuple ..,h | .Slice ..,h=>exact val rfl h
noncomputable def mr{R:Type}(d:Dv)(k:Bool->Option R):Option R:=match d with | .bl b=>k b | _=>none
theorem IX{R:Type}{d:Dv}{k:Bool->Option R}{r:R}(h:mr d k=some r):∃b,d=.bl b/\k b=some r:=by
 cases d<;>first | (cases h;done) | exact⟨_,rfl,h⟩
def Wd(f g:Ev Dv):Ev Dv:=fun R m k=>f R m fun d m1=>mr d fun b=>if b=true then g R m1 k else k (.bl false) m1
def cN(f g:Ev Dv):Ev Dv:=fun R m k=>f R m fun d m1=>mr d fun b=>if b=true then k (.bl true) m1 else g R m1 k
def WS(f:Ev Dv):Ev Dv:=fun R m k=>f R m fun d m1=>mr d fun b=>k (.bl (!b)) m1
section
variable {K:W.Frag} {Γ Γ' w8:Gm} {js js2:List Nat} {σ:St} {H:Hp} {f u:Ev Dv} {Q:VK}
theorem di(hw:Bn Γ' w8=true)(h:tE K Γ 0 Γ' (js++js2) (Wd f u) σ H Q):bW (tE K Γ 0 w8 js f) (tE K w8 0 Γ' js2 u) σ H Q:=by
 obtain⟨g,m,P,r,R,k,res,e,q⟩:=h;refine⟨g,m,P,r,R,_,res,e,fun d m1 g1 P1 Pv v H1 hk ag s rv r1 n=>?_⟩;replace hk:=IX hk;obtain⟨b,rfl,hk⟩:=hk;have s1:Step _ _ _ g1 P1 H1:=s.less fun _ z=>.inl z
 refine⟨b,Cj rv,?_⟩;cases b with
 | true=>rw[if_pos rfl] at hk ⊢;exact⟨g1,m1,P1,r1,R,k,res,hk,fun d m2 g2 P2 Pw w H2 xy yf s2 rv2 r2 n2=>q d m2 g2 P2 Pw w H2 xy (ag.trans yf) (s1.trans s2) rv2 r2 n2⟩
 | false =>
  rw[if_neg C7] at hk ⊢;obtain⟨g2,P2,s2,r2⟩:=r1.weaken hw;exact q _ m1 g2 P2 wX _ H1 hk (ag.mono fun _ z=>C2 _ z) ((s1.trans s2).less fun _ z=>z.elim id F1) DF r2 fun _ _ z=>z
theorem jK(hw:Bn Γ' w8=true)(h:tE K Γ 0 Γ' (js++js2) (cN f u) σ H Q):jI (tE K Γ 0 w8 js f) (tE K w8 0 Γ' js2 u) σ H Q:=by
 obtain⟨g,m,P,r,R,k,res,e,q⟩:=h;refine⟨g,m,P,r,R,_,res,e,fun d m1 g1 P1 Pv v H1 hk ag s rv r1 n=>?_⟩;replace hk:=IX hk;obtain⟨b,rfl,hk⟩:=hk;have s1:Step _ _ _ g1 P1 H1:=s.less fun _ z=>.inl z
 refine⟨b,Cj rv,?_⟩;cases b with
 | false=>rw[if_neg C7] at hk ⊢;exact⟨g1,m1,P1,r1,R,k,res,hk,fun d m2 g2 P2 Pw w H2 xy yf s2 rv2 r2 n2=>q d m2 g2 P2 Pw w H2 xy (ag.trans yf) (s1.trans s2) rv2 r2 n2⟩
 | true =>
  rw[if_pos rfl] at hk ⊢;obtain⟨g2,P2,s2,r2⟩:=r1.weaken hw;exact q _ m1 g2 P2 wX _ H1 hk (ag.mono fun _ z=>C2 _ z) ((s1.trans s2).less fun _ z=>z.elim id F1) DF r2 fun _ _ z=>z
theorem dh(h:tE K Γ 0 Γ' js (WS f) σ H Q):bR (tE K Γ 0 Γ' js f) σ H Q:=by
 obtain⟨g,m,P,r,R,k,res,e,q⟩:=h;refine⟨g,m,P,r,R,_,res,e,fun d m1 g1 P1 Pv v H1 hk ag s rv r1 n=>?_⟩;replace hk:=IX hk;obtain⟨b,rfl,hk⟩:=hk;exact⟨b,Cj rv,q _ m1 g1 P1 wX _ H1 hk ag (s.less fun _ z=>z.elim .inl F1) DF r1 fun _ _ z=>z⟩
end
def lh(r:Rec)(C:Cf)(Γ:Gm)(x:Expr):Option CE:=(r.E C Γ x).bind fun c=>some ⟨0,c.Γ,c.js,WS c.f⟩
def UQ(r:Rec)(C:Cf)(Γ:Gm)(op:BoolOp)(vs:List Expr)(pos:Pos):Option CE:=match vs with
 | []=>none
 | [a]=>r.E C Γ a
 | a::b::vs=>(r.E C Γ a).bind fun x=>(r.E C x.Γ (.BoolOp op (b::vs) pos)).bind fun y=>let Γ':=Ba x.Γ y.Γ;let js:=x.js++y.js;if Bn Γ' x.Γ && Bn Γ' y.Γ then some ⟨0,Γ',js,SY (BR Γ' js) (match op with | .And=>Wd x.f y.f | .Or=>cN x.f y.f)⟩ else none
theorem RX(R:wm r){op:BoolOp}{vs:List Expr}(ok:wj C X)(h:UQ r C Γ op vs pos=some c):PE X (.BoolOp op vs pos) (tE X.K Γ c.o c.Γ c.js c.f):=by
 match vs,h with
 | [],h=>cases h
 | [a],h=>exact fK (R.E ok h)
 | a::b::vs,h =>
  obtain⟨x,e1,h⟩:=wV h;obtain⟨y,e2,h⟩:=wV h;simp only at h;split at h
  ·rename_i hw;rw[A5] at hw;have ha:=GC (R.E ok e1);have hb:=GC (R.E ok e2);have jk:∀(i o:Nat),(Ba x.Γ y.Γ)[i]?=some (some o)->i∈BR (Ba x.Γ y.Γ) (x.js++y.js)\/i∉x.js++y.js:=fun i o h=>BX h
   cases op with
   | And=>cases h;exact PE.imp (fR ha (PE.imp hb fun _ _ _ h=>Gj hw.2 (fun _ z=>z) h)) fun σ H Q h=>di hw.1 (Kk jk (fun i z=>BE z) h)
   | Or=>cases h;exact PE.imp (kN ha (PE.imp hb fun _ _ _ h=>Gj hw.2 (fun _ z=>z) h)) fun σ H Q h=>jK hw.1 (Kk jk (fun i z=>BE z) h)
  ·cases h
def lz(r:Rec)(C:Cf)(Γ:Gm)(c a b:Expr):Option CE:=(r.T C Γ c).bind fun t=>(r.E C t.Γ a).bind fun x=>(r.E C t.Γ b).bind fun y=>let Γ':=Ba x.Γ y.Γ;let js:=t.js++(x.js++y.js);if Bn Γ' x.Γ && Bn Γ' y.Γ then some ⟨0,Γ',js,SY (BR Γ' js) (Jp t.f x.f y.f)⟩ else none
theorem ai(R:wm r){c:Expr}{d:CE}(ok:wj C X)(h:lz r C Γ c a b=some d):PE X (.IfExp c a b pos) (tE X.K Γ d.o d.Γ d.js d.f):=by
 obtain⟨t,e1,h⟩:=wV h;obtain⟨x,e2,h⟩:=wV h;obtain⟨y,e3,h⟩:=wV h;simp only at h;split at h
 ·rename_i hw;rw[A5] at hw;cases h;exact PE.imp (VS (R.T ok e1) (PE.imp (GC (R.E ok e2)) fun _ _ _ h=>Gj hw.1 (fun _ z=>z) h) (PE.imp (GC (R.E ok e3)) fun _ _ _ h=>Gj hw.2 (fun _ z=>z) h)) fun σ H Q h=>jL (Kk (fun i o z=>BX z) (fun i z=>BE z) h)
 ·cases h
theorem Bl(h:es.all BD=true):(T5 pos (E6 es env)).any (·.1)=false:=by
 induction es with
 | nil=>rfl
 | cons e es ih =>
  rw[M9,A5] at h;rw[AN h.1];show(false || (T5 pos (E6 es env)).any (·.1))=false;rw[ih h.2];rfl
theorem iW(h:es.all BD=true):(T5 pos (E6 es env)).all (fun x=>!x.1)=true:=by
 induction es with
 | nil=>rfl
 | cons e es ih =>
  rw[M9,A5] at h;rw[AN h.1];show(true && (T5 pos (E6 es env)).all (fun x=>!x.1))=true;rw[ih h.2];rfl
def cj(r:Rec)(C:Cf)(Γ:Gm)(s:w9)(es:List Expr):Option CE:=(r.A C Γ ((B3 es.length).map s.io.contains) es).bind fun c=>if ig c.as s.io && (es.length == s.ps.length) && (slots c.as s.io).all (fun i=>c.Γ.getD i none == some 1) then some ⟨s.ro,c.Γ,c.js++slots c.as s.io,Oh s c.as⟩ else none
variable {p:Pos}
theorem XS(R:wm r)(ok:wj C X)(hs:(x,s)∈C.fs/\s.cl=none)(hg:Gl X x)(hn:Rr x=true)(h:cj r C Γ s es=some c):PE X (.Call (.Name x p) es [] pos) (tE X.K Γ c.o c.Γ c.js c.f):=by
 obtain⟨c1,e1,h⟩:=wV h;split at h
 ·rename_i hw;simp only[A5,E3,beq_iff_eq] at hw;cases h;obtain⟨a1,a2,a3,a4,_⟩:=R.A ok e1;obtain⟨nd,yZ,j,kk,hj,hrm,F⟩:=ok.fx hs;have run:∀{σ H Q},tE X.K Γ s.ro c1.Γ (c1.js++slots c1.as s.io) (Oh s c1.as) σ H Q->mj (Te X.K s) (Bt X.K c1.as) σ H Q:=fun h=>XB a2 hw.1.1 (a3.trans hw.1.2) nd yZ (fun i hi=>Bi (hw.2 i hi)) h
  cases es with
  | nil =>
   have e:c1.as=[]:=F8 a3;refine PE.imp (VT F hrm hj hg (DR hn).1) fun σ H Q h=>?_
   have:=run h;rw[e] at this;exact this
  | cons e es =>
   rw[M9,A5] at a4;exact PE.imp (bp F hrm hj hg a1 (DR hn).1 (AN a4.1) (Bl a4.2)) fun σ H Q h=>run h
 ·cases h
def cc(r:Rec)(C:Cf)(Γ:Gm)(s:w9)(es:List Expr):Option CE:=(r.A C Γ (D1 es.length true) es).bind fun c=>if es.length == s.ps.length then some ⟨1,c.Γ,c.js,Kv s c.as⟩ else none
theorem XO(R:wm r)(ok:wj C X)(hs:(x,s)∈C.fs/\s.cl=none)(yZ:s.io=[])(hg:Gl X x)(hn:Rr x=true)(h:cc r C Γ s es=some c):PE X (.Call (.Name x p) es [] pos) (tE X.K Γ c.o c.Γ c.js c.f):=by
 obtain⟨c1,e1,h⟩:=wV h;split at h
 ·rename_i hw;rw[beq_iff_eq] at hw;cases h;obtain⟨a1,a2,a3,a4,_⟩:=R.A ok e1;obtain⟨nd,_,j,kk,hj,hrm,F⟩:=ok.fx hs;have run:∀{σ H Q},tE X.K Γ 1 c1.Γ c1.js (Kv s c1.as) σ H Q->mj (Te X.K s) (Bt X.K c1.as) σ H Q:=fun h=>Sm a2 yZ (a3.trans hw) h
  cases es with
  | nil =>
   have e:c1.as=[]:=F8 a3;refine PE.imp (VT F hrm hj hg (DR hn).1) fun σ H Q h=>?_
   have:=run h;rw[e] at this;exact this
  | cons e es =>
   rw[M9,A5] at a4;exact PE.imp (bp F hrm hj hg a1 (DR hn).1 (AN a4.1) (Bl a4.2)) fun σ H Q h=>run h
 ·cases h
noncomputable def WB:Expr->Bool
 | .Dict [] [] _=>true
 | _=>false
def cg(r:Rec)(C:Cf)(Γ:Gm)(s:w9)(es:List Expr):Option CE:=none
theorem XR(R:wm r)(ok:wj C X)(hs:(x,s)∈C.fs/\s.cl=none)(hg:Gl X x)(hn:Rr x=true)(hd:(es.getLast?.map WB).getD false=true)(h:cg r C Γ s es=some c):PE X (.Call (.Name x p) es [] pos) (tE X.K Γ c.o c.Γ c.js c.f):=by cases h
noncomputable def nY:Expr->Bool
 | .Call ..=>true
 | _=>false
def cf(r:Rec)(C:Cf)(Γ:Gm)(s:w9)(es:List Expr):Option CE:=none
theorem XQ(R:wm r)(ok:wj C X)(hs:(x,s)∈C.fs/\s.cl=none)(hg:Gl X x)(hn:Rr x=true)(h:cf r C Γ s es=some c):PE X (.Call (.Name x p) es [] pos) (tE X.K Γ c.o c.Γ c.js c.f):=by cases h
def iI(r:Rec)(C:Cf)(Γ:Gm)(s:w9)(es:List Expr):Option CE:=if s.nb && s.io.isEmpty then cc r C Γ s es else if(es.getLast?.map WB).getD false && s.io.contains (es.length - 1) then cg r C Γ s es else if(es.head?.map nY).getD false && s.io.contains 0 then cf r C Γ s es else cj r C Γ s es
theorem ab(R:wm r)(ok:wj C X)(hs:(x,s)∈C.fs/\s.cl=none)(hg:Gl X x)(hn:Rr x=true)(h:iI r C Γ s es=some c):PE X (.Call (.Name x p) es [] pos) (tE X.K Γ c.o c.Γ c.js c.f):=by
 unfold iI at h;split at h
 ·rename_i z;rw[A5,ue] at z;exact XO R ok hs z.2 hg hn h
 ·split at h
  ·rename_i z;rw[A5] at z;exact XR R ok hs hg hn z.1 h
  ·split at h
   ·exact XQ R ok hs hg hn h
   ·exact XS R ok hs hg hn h
def XN(r:Rec)(C:Cf)(Γ:Gm)(en:zAv)(es:List Expr):Option CE:=if es.isEmpty then none else(r.A C Γ (D1 es.length true) es).bind fun c=>some ⟨en.o,c.Γ,c.js,GK en.f (Ab c.as)⟩
theorem XM(R:wm r){en:zAv}(ok:wj C X)(hb:en.x∈C.bl)(hg:Gl X en.x)(hn:Rr en.x=true)(h:XN r C Γ en es=some c):PE X (.Call (.Name en.x p) es [] pos) (tE X.K Γ c.o c.Γ c.js c.f):=by
 cases es with
 | nil=>cases h
 | cons e es =>
  unfold XN at h;rw[if_neg (by simp)] at h;obtain⟨c1,e1,h⟩:=wV h;cases h;obtain⟨a1,a2,a3,a4,_⟩:=R.A ok e1;rw[M9,A5] at a4;obtain⟨rr,q1,q2⟩:=en.ok X ok.gx;have n:=DR hn;rcases q2 with⟨id,q2,q3⟩ | ⟨T,q2,q3⟩
  ·exact PE.imp (VV q2 hg (ok.bl _ hb) q3 a1 n.2.2 n.1 (AN a4.1) (Bl a4.2)) fun _ _ _ h=>DG q1 a2 h
  ·exact PE.imp (Rm q2 hg (ok.bl _ hb) q3 a1 n.2.2 n.1 (AN a4.1) (Bl a4.2)) fun _ _ _ h=>DG q1 a2 h
noncomputable def Xn:Expr->Bool
 | .Call _ _ _ _=>false
 | _=>true
theorem FQ{name:Str}{w:Sem Value}(h:Xn o=true):R4 o name env w=w:=by
 cases o<;>first | rfl | (cases h)
def iK(r:Rec)(C:Cf)(Γ:Gm)(en:zAt)(i:Nat)(es:List Expr):Option CE:=if es.length < 29 && (Γ.getD i none).isSome then(r.A C Γ [] es).bind fun c=>if c.Γ.getD i none == some 1 then some ⟨0,c.Γ,c.js++[i],WU en.T i en.p (Ab c.as)⟩ else none else none
theorem Of(h:(e::es).all BD=true)(hl:(e::es).length < 29):((T5 pos (E6 (e::es) env)).all (fun x=>!x.1) && (backToKw pos (uo [] env)).all (fun x=>x.1.isSome)
      && decide ((e::es).length+([]:List o4).length+(if([]:List o4).isEmpty then 0 else 1) < 30))=true:=by
  rw[iW h];show(true && true && decide _)=true;simp only[R5,sU,decide_eq_true_eq,Y1,List.isEmpty_nil,if_true];omega
variable {apos:Pos}
theorem af(R:wm r){en:zAt}(ok:wj C X)(hi:Vo C o=some i)(xF:(apos.endLine == pos.line)=true)(h:iK r C Γ en i es=some c):PE X (.Call (.Attribute o en.x apos) es [] pos) (tE X.K Γ c.o c.Γ c.js c.f):=by
 unfold iK at h;split at h
 ·rename_i h0;simp only[A5,decide_eq_true_eq] at h0;obtain⟨c1,e1,h⟩:=wV h;split at h
  ·rename_i h1;cases h;obtain⟨a1,a2,a3,a4,a5⟩:=R.A ok e1;obtain⟨id,rr,q1,q2,q3,q4,q5⟩:=en.ok X ok.gx;have ho:=Ec ok hi;have xR:R4 o en.x X.env (Q7 o X.env)=Q7 o X.env:=FQ (by cases o<;>first | rfl | (cases hi));have run:∀{σ H Q},tE X.K Γ 0 c1.Γ (c1.js++[i]) (WU en.T i en.p (Ab c1.as)) σ H Q->jN X.K en.T rr (HL i) (Bt X.K c1.as) σ H Q:=fun h=>Zn q5 en.hT a2 (a5 rfl) (getD_some h0.2) (Bi (beq_iff_eq.mp h1)) h
   cases es with
   | nil =>
    have e:c1.as=[]:=F8 a3;refine PE.imp (VX q1 q2 q3 q4 ho xR xF) fun σ H Q h=>?_
    have:=run h;rw[e] at this;exact this
   | cons e es =>
    have a4':=a4;rw[M9,A5] at a4;exact PE.imp (bq q1 q2 q3 q4 ho a1 xR (Of a4' h0.1) xF (AN a4.1) (Bl a4.2)) fun σ H Q h=>run h
  ·cases h
 ·cases h
def lq(r:Rec)(C:Cf)(Γ:Gm)(en:zAL)(o:Expr)(es:List Expr):Option CE:=if es.length < 29 && Xn o then(IZ r C Γ true o).bind fun x=>(r.A C x.Γ (D1 es.length true) es).bind fun c=>if GY x.a c.Γ then some ⟨en.o,c.Γ,x.js++c.js,WV en.T x.a c.as en.f⟩ else none else none
theorem PB(R:wm r){en:zAL}(ok:wj C X)(xF:(apos.endLine == pos.line)=true)(hn:en.n=es.length)(h:lq r C Γ en o es=some c):PE X (.Call (.Attribute o en.x apos) es [] pos) (tE X.K Γ c.o c.Γ c.js c.f):=by
 unfold lq at h;split at h
 ·rename_i h0;simp only[A5,decide_eq_true_eq] at h0;obtain⟨x,e0,h⟩:=wV h;obtain⟨c1,e1,h⟩:=wV h;split at h
  ·rename_i h1;cases h;obtain⟨o1,_,o2⟩:=Dy R ok e0;obtain⟨a1,a2,a3,a4,a5⟩:=R.A ok e1;obtain⟨id,rr,q1,q2,q3,q4,q5⟩:=en.ok X ok.gx;have xR:R4 o en.x X.env (Q7 o X.env)=Q7 o X.env:=FQ h0.2;rcases en.hT with hT | ⟨hT,hT1⟩
   ·have run:∀{σ H Q},tE X.K Γ en.o c1.Γ (x.js++c1.js) (WV en.T x.a c1.as en.f) σ H Q->jN X.K en.T rr (RU X.K x.a) (Bt X.K c1.as) σ H Q:=fun h=>gE q5 hT (o2 a2 h1) h
    cases es with
    | nil =>
     have e:c1.as=[]:=F8 a3;refine PE.imp (VX q1 q2 q3 q4 o1 xR xF) fun σ H Q h=>?_
     have:=run h;rw[e] at this;exact this
    | cons e es =>
     have a4':=a4;rw[M9,A5] at a4;exact PE.imp (bq q1 q2 q3 q4 o1 a1 xR (Of a4' h0.1) xF (AN a4.1) (Bl a4.2)) fun σ H Q h=>run h
   ·have run:∀{σ H Q},tE X.K Γ en.o c1.Γ (x.js++c1.js) (WV en.T x.a c1.as en.f) σ H Q->nN rr (RU X.K x.a) (Bt X.K c1.as) σ H Q:=fun h=>Zp q5 (o2 a2 h1) (by rw[hT] at h;exact h)
    rw[hT] at q1 q2;cases es with
    | nil=>rw[hT1] at hn;cases hn
    | cons e es =>
     have a4':=a4;rw[M9,A5] at a4;exact PE.imp (kQ q1 q2 q3 q4 o1 a1 xR (Of a4' h0.1) xF (AN a4.1) (Bl a4.2)) fun σ H Q h=>run h
  ·cases h
 ·cases h
noncomputable def lW(c1 c2:CE):Option CE:=none
theorem aU{c1 c2:CE}(h1:PE X e (tE X.K Γ c1.o c1.Γ c1.js c1.f))(h2:PE X e (tE X.K Γ c2.o c2.Γ c2.js c2.f))(h:lW c1 c2=some c):PE X e (tE X.K Γ c.o c.Γ c.js c.f):=by cases h
def ck(r:Rec)(C:Cf)(Γ:Gm)(en:zAt)(i:Nat)(f:Str)(es:List Expr):Option CE:=none
theorem XW(R:wm r){en:zAt}{q:Nat×Str}(ok:wj C X)(hi:cH C o=some q)(xF:(apos.endLine == pos.line)=true)(h:ck r C Γ en q.1 q.2 es=some c):PE X (.Call (.Attribute o en.x apos) es [] pos) (tE X.K Γ c.o c.Γ c.js c.f):=by cases h
def cm(r:Rec)(C:Cf)(Γ:Gm)(mt:Str)(s:w9)(i:Nat)(es:List Expr):Option CE:=none
theorem XX(R:wm r){mt cl:Str}(ok:wj C X)(hs:(mt,s)∈C.fs)(zX:s.cl=some cl)(hi:Vo C o=some i)(xF:(apos.endLine == pos.line)=true)(h:cm r C Γ mt s i es=some c):PE X (.Call (.Attribute o mt apos) es [] pos) (tE X.K Γ c.o c.Γ c.js c.f):=by cases h
def cp(r:Rec)(C:Cf)(Γ:Gm)(s:w9)(x:Str)(es:List Expr):Option CE:=none
theorem XY(R:wm r)(ok:wj C X)(hs:(("__init__" : Str),s)∈C.fs)(zX:s.cl=some x)(hg:Gl X x)(hn:Rr x=true)(h:cp r C Γ s x es=some c):PE X (.Call (.Name x p) es [] pos) (tE X.K Γ c.o c.Γ c.js c.f):=by cases h
def oD(r:Rec)(C:Cf)(Γ:Gm)(o:Expr)(es:List Expr):List zAL->Option CE
 | []=>none
 | [en]=>lq r C Γ en o es
 | en::en2::_=>(lq r C Γ en o es).bind fun c1=>(lq r C Γ en2 o es).bind fun c2=>lW c1 c2
def NA(r:Rec)(C:Cf)(Γ:Gm)(f:Expr)(es:List Expr)(pos:Pos):Option CE:=match f with
  | .Name x _=>if OY C.sc x && Rr x then(match C.fs.find? fun p=>p.1 == x && p.2.cl == none with
      | some p=>iI r C Γ p.2 es
      | none=>match C.fs.find? fun p=>p.1 == ("__init__" : Str) && p.2.cl == some x with
      | some p=>cp r C Γ p.2 x es
      | none=>(C.T.calls.find? fun e=>e.x == x && e.n == es.length).bind fun en=>if C.bl.contains x then XN r C Γ en es else none) else none
  | .Attribute o name apos=>if apos.endLine == pos.line then(match C.T.zCM.find? fun e=>e.x == name && e.n == es.length with
      | some en=>(match cH C o with
        | some q=>ck r C Γ en q.1 q.2 es
        | none=>(Vo C o).bind fun i=>iK r C Γ en i es)
      | none=>match C.fs.find? fun p=>p.1 == name && p.2.cl != none with
        | some p=>(Vo C o).bind fun i=>cm r C Γ name p.2 i es
        | none=>oD r C Γ o es (C.T.meths.filter fun e=>e.x == name && e.n == es.length)) else none
  | _=>none
theorem Mz(R:wm r){f:Expr}(ok:wj C X)(h:NA r C Γ f es pos=some c):PE X (.Call f es [] pos) (tE X.K Γ c.o c.Γ c.js c.f):=by
 cases f with
 | Name x p =>
  simp only[NA] at h;split at h
  ·rename_i h0;rw[A5] at h0;split at h
   ·rename_i p' hp;have e:=O1 hp;simp only[A5,beq_iff_eq] at e;have hm:=S8 hp;exact ab R ok (s:=p'.2) ⟨by rw[<- e.1];exact hm,e.2⟩ (Ce ok h0.1) h0.2 h
   ·split at h
    ·rename_i p' hp;have e:=O1 hp;simp only[A5,beq_iff_eq] at e;have hm:=S8 hp;exact XY R ok (s:=p'.2) (by rw[<- e.1];exact hm) e.2 (Ce ok h0.1) h0.2 h
    replace h:=wV h;obtain⟨en,e1,h⟩:=h;split at h
    ·rename_i hb;have e:=O1 e1;simp only[A5,beq_iff_eq] at e;obtain⟨rfl,_⟩:=e;exact XM R ok (B6.mp hb) (Ce ok h0.1) h0.2 h
    ·cases h
  ·cases h
 | Attribute o name apos =>
  simp only[NA] at h;split at h
  ·rename_i hl;split at h
   ·rename_i en he;have e:=O1 he;simp only[A5,beq_iff_eq] at e;obtain⟨rfl,_⟩:=e;split at h
    ·rename_i q hq;exact XW R ok hq hl h
    ·obtain⟨i,e1,h⟩:=wV h;exact af R ok e1 hl h
   ·split at h
    ·rename_i p' hp;have e:=O1 hp;simp only[A5,beq_iff_eq,bne_iff_ne,ne_eq] at e;obtain⟨cl,zX⟩:=Option.ne_none_iff_exists'.mp e.2;have hm:=S8 hp;obtain⟨i,e1,h⟩:=wV h;exact XX R ok (s:=p'.2) (by rw[<- e.1];exact hm) zX e1 hl h
    have hm:∀en∈C.T.meths.filter fun e=>e.x == name && e.n == es.length,en.x=name/\en.n=es.length:=fun en he=>by
     have:=(J4.mp he).2;simp only[A5,beq_iff_eq] at this;exact this
    revert h hm
    generalize (C.T.meths.filter fun e=>e.x == name && e.n == es.length)=L;intro h hm
    match L,hm,h with
    | [],hm,h=>cases h
    | [en],hm,h =>
     obtain⟨rfl,e2⟩:=hm en B2;exact PB R ok hl e2 h
    | en::en2::_,hm,h =>
     obtain⟨c1,e1,h⟩:=wV h;obtain⟨c2,e2,h⟩:=wV h;obtain⟨q1,q2⟩:=hm en B2;obtain⟨q3,q4⟩:=hm en2 (B1 _ B2);have p1:=PB (pos:=pos) (apos:=apos) R ok hl q2 e1;have p2:=PB (pos:=pos) (apos:=apos) R ok hl q4 e2;rw[q1] at p1;rw[q3] at p2;exact aU p1 p2 h
  ·cases h
 | _=>cases h
def LL(C:Cf)(x:Str):Option Nat:=if Rr x then(match C.sc.names.lookup x with
 | some .local=>DM C.N x
 | some .cell=>if C.fn x then DM C.N x else none
 | _=>none) else none
theorem LK(ok:wj C X)(h:LL C x=some i):X.N[i]?=some x/\Loc X.env.scope x/\(X.fn x=true\/X.env.scope.names.lookup x=some .local):=by
 unfold LL at h;split at h
 ·split at h
  ·rename_i e;rw[ok.N,ok.sc];exact⟨Bb h,.inl e,.inr e⟩
  ·rename_i e;split at h
   ·rename_i hf;rw[ok.N,ok.sc];exact⟨Bb h,.inr e,.inl (ok.fn x hf)⟩
   ·cases h
  ·cases h
 ·cases h
theorem RE(ok:wj C X)(h:LL C x=some i):PG X (.Name x pos) (DH i):=by
 obtain⟨h1,h2,h3⟩:=LK ok h;exact ZP ok.nd h1 h2 h3
def ie(C:Cf):List Expr->Option (List Nat)
 | []=>some []
 | .Name x _::es=>(LL C x).bind fun i=>(ie C es).bind fun J=>some (i::J)
 | _::_=>none
theorem UC{C:Cf}{X:Cx}(ok:wj C X):∀{es:List Expr} {J:List Nat},ie C es=some J->ia X es (Ds J)/\(N2 es X.env).length=J.length/\(N2 es X.env).findIdx? (·.1)=none
 | [],J,h=>by cases h;exact⟨QI,rfl,rfl⟩
 | e::es,J,h=>by
  cases e with
  | Name x pos =>
   obtain⟨i,e1,h⟩:=wV (show(LL C x).bind (fun i=>(ie C es).bind fun J=>some (i::J))=some J from h);obtain⟨J',e2,h⟩:=wV h;cases h;obtain⟨h1,h2,h3⟩:=UC ok e2;refine⟨Hq (RE ok e1) h1 rfl,?_,?_⟩
   ·show(N2 es X.env).length+1=_;rw[h2];rfl
   ·show ve (·.1) ((false,i7 (.Name x pos) X.env)::N2 es X.env)=none;rw[List.findIdx?_cons,h3];rfl
  | _=>cases h
structure CG:Type 1 where
 J:List Nat
 f:Tg
 g:W.Frag->TG
 Γ:Gm->Gm
def TC(C:Cf)(e:Expr):Option CG:=match e with
 | .Name x _=>(LL C x).map fun i=>⟨[i],jE i,fun _=>DH i,fun Γ=>Γ.set i (some 0)⟩
 | .Tuple es _ _=>(ie C es).map fun J=>⟨J,oX J,fun K=>WM K J.length (Ds J),fun Γ=>Ug Γ J (some 0)⟩
 | _=>none
theorem PC{c:CG}(ok:wj C X)(h:TC C e=some c):PG X e (c.g X.K)/\(∀js,(∀i∈c.J,i∈js)->Tc js (c.g X.K))/\∀{K Γ},c.J.all (fun i=>decide (i < Γ.length))=true->PN K Γ (c.Γ Γ) c.J (c.g K) c.f:=by
 cases e with
 | Name x pos =>
  cases q:LL C x with
  | none=>simp only[TC,q] at h;cases h
  | some i =>
   simp only[TC,q] at h;cases h;exact⟨RE ok q,fun js hj=>WJ (hj i (J7 _)),fun h=>YV (by simpa using h)⟩
 | Tuple es k pos =>
  cases q:ie C es with
  | none=>simp only[TC,q] at h;cases h
  | some J =>
   simp only[TC,q] at h;cases h;obtain⟨h1,h2,h3⟩:=UC ok q;exact⟨PG.or (VP ok.calm h1 h2 h3) (VQ ok.calm h1 h2 h3),fun js hj=>WI (Qf (Ef J hj)) (Qg (Ef J hj)),fun h=>UD (by simpa using h)⟩
 | _=>cases h
theorem Mw{c:CG}(h:TC C e=some c):(∀K,YB (c.g K))/\(∀Γ,(c.Γ Γ).length=Γ.length)/\(∀es env,N2 (e::es) env=(false,i7 e env)::N2 es env):=by
 cases e with
 | Name x pos =>
  cases q:LL C x with
  | none=>simp only[TC,q] at h;cases h
  | some i =>
   simp only[TC,q] at h;cases h;exact⟨fun _=>Je,fun _=>D8 ..,fun _ _=>rfl⟩
 | Tuple es k pos =>
  cases q:ie C es with
  | none=>simp only[TC,q] at h;cases h
  | some J =>
   simp only[TC,q] at h;cases h;exact⟨fun _=>Vk (Hw J),fun _=>Ue ..,fun _ _=>rfl⟩
 | _=>cases h
def pj(C:Cf)(e1 e2:Expr):Option CG:=(TC C e1).bind fun c1=>(TC C e2).bind fun c2=>some ⟨c1.J++c2.J,oW c1.f c2.f,fun K=>WM K 2 (DI (c1.g K) (DI (c2.g K) MT)),fun Γ=>c2.Γ (c1.Γ Γ)⟩
def cG(C:Cf)(e:Expr):Option CG:=match TC C e with
 | some c=>some c
 | none=>match e with
  | .Tuple [e1,e2] _ _=>pj C e1 e2
  | _=>none
theorem Qw{c:CG}(ok:wj C X)(h:cG C e=some c):PG X e (c.g X.K)/\(∀js,(∀i∈c.J,i∈js)->Tc js (c.g X.K))/\∀{K Γ},c.J.all (fun i=>decide (i < Γ.length))=true->PN K Γ (c.Γ Γ) c.J (c.g K) c.f:=by
 unfold cG at h;split at h
 ·rename_i c' q;cases h;exact PC ok q
 ·split at h
  ·rename_i e1 e2 k pos _;obtain⟨c1,q1,h⟩:=wV h;obtain⟨c2,q2,h⟩:=wV h;cases h;obtain⟨p1,o1,t1⟩:=PC ok q1;obtain⟨p2,o2,t2⟩:=PC ok q2;obtain⟨m1,l1,a1⟩:=Mw q1;obtain⟨m2,l2,a2⟩:=Mw q2;have ea:N2 [e1,e2] X.env=[(false,i7 e1 X.env),(false,i7 e2 X.env)]:=by rw[a1,a2];rfl
   have hp:ia X [e1,e2] (DI (c1.g X.K) (DI (c2.g X.K) MT)):=Hq p1 (Hq p2 QI (by rw[a2];rfl)) (by rw[a1];rfl);refine⟨PG.or (VP ok.calm hp (by rw[ea];rfl) (by rw[ea];rfl)) (VQ ok.calm hp (by rw[ea];rfl) (by rw[ea];rfl)),fun js hj=>?_,fun{K Γ} h=>?_⟩
   ·have g:=IH (m1 X.K) (Jf (m2 X.K) Hv) (o1 js fun i hi=>hj i (C2 _ hi)) (IH (m2 X.K) Hv (o2 js fun i hi=>hj i (A9 _ hi)) MS);exact WI (Qf g) (Qg g)
   ·rw[u9,A5] at h;exact YU (t1 h.1) (t2 (by rw[l1];exact h.2))
  ·cases h
def oB(r:Rec)(C:Cf)(Γ:Gm)(en:zCk)(es:List Expr):Option CI:=(r.A C Γ [] es).bind fun c=>some ⟨c.Γ,c.js,cK en.f (Ab c.as)⟩
def iF(r:Rec)(C:Cf)(Γ:Gm)(e:Expr):Option CI:=(r.E C Γ e).bind fun c=>some ⟨c.Γ,c.js,Qo c.f⟩
def UN(r:Rec)(C:Cf)(Γ:Gm)(tt:Bool)(e:Expr):Option CI:=match e with
  | .Call (.Name x _) es [] _=>(match C.T.zCE.find? fun en=>en.x == x && en.n == es.length && (!en.tt || tt) with
      | some en=>if OY C.sc x && C.bl.contains x && (C.fs.find? fun p=>p.1 == x).isNone then oB r C Γ en es else none
      | none=>iF r C Γ e)
  | e=>iF r C Γ e
theorem UM(R:wm r){c:CI}(tg:Expr)(ok:wj C X)(h:UN r C Γ (MQ tg) e=some c):PI X tg e (tI X.K Γ c.Γ c.js c.f):=by
 have seq:iF r C Γ e=some c->PI X tg e (tI X.K Γ c.Γ c.js c.f):=fun h=>by
  obtain⟨c1,e1,h⟩:=wV h;cases h;exact ko (GC (R.E ok e1))
 unfold UN at h;split at h
 ·rename_i x p es pos;split at h
  ·rename_i en he;split at h
   ·rename_i h0;simp only[A5] at h0;have e:=O1 he;simp only[A5,beq_iff_eq] at e;obtain⟨⟨rfl,hn⟩,htt⟩:=e;obtain⟨c1,e1,h⟩:=wV h;cases h;obtain⟨a1,a2,a3,a4,a5⟩:=R.A ok e1;obtain⟨rr,q1,q2⟩:=en.ok X ok.gx;exact PI.imp (q2 tg es p pos _ (fun z=>by rw[z] at htt;simpa using htt) hn.symm a4 (Ce ok h0.1.1) (ok.bl _ (B6.mp h0.1.2)) a1) fun _ _ _ h=>Yd q1 a2 (a5 rfl) h
   ·cases h
  ·exact seq h
 ·exact seq h
def Hi(scope sc:N1):N1:={ scope with names:=scope.names.map fun(n,k)=>if(k == .free && sc.kind == .function && sc.names.lookup n == some .cell) then(n,.cell) else(n,k) }
def Cf.inner(C:Cf)(scope:N1):Cf:={ C with sc:=Hi scope C.sc,fn:=AR scope }
theorem wj.inner(ok:wj C X)(scope:N1)(cl:List (Str×B5))(a:B5)(s:A6)(H:Hp)(fp:List B5):wj (C.inner scope) (X.inner scope cl a s H fp) where
 N:=ok.N
 sc:=by
  show relabel scope X.env=Hi scope C.sc;unfold relabel Hi Env.kindOf;rw[ok.sc]
 nd:=ok.nd
 calm:=ok.calm
 fn:=fun _ h=>h
 room:=ok.room
 fs:=ok.fs
 cs:=ok.cs
 bl:=ok.bl
 xe:=rfl
noncomputable def ZW(N:List Str)(scope:N1):List Nat:=(B3 N.length).filter fun i=>match N[i]? with
 | some x=>(match scope.names.lookup x with | some .local=>true | some .cell=>true | _=>false)
 | none=>false
structure CC:Type 1 where
 t:CG
 c:CT
 e:CE
def Pe(r:Rec)(C:Cf)(wZ:Gm)(tg:CG)(ifs:List Expr)(elt:Expr):Option CC:=if tg.J.all (fun i=>decide (i < wZ.length)) then(match ifs with
 | []=>some (CT.mk (tg.Γ wZ) [] Eh)
 | [c]=>r.T C (tg.Γ wZ) c
 | _=>none).bind fun c=>(r.E C c.Γ elt).bind fun e=>some ⟨tg,c,e⟩ else none
def gv(r:Rec)(C:Cf)(tg:CG)(ifs:List Expr)(elt:Expr):Nat->Gm->Option (Gm×CC)
 | 0,_=>none
 | n+1,wZ=>(Pe r C wZ tg ifs elt).bind fun x=>if Bn wZ x.c.Γ && Bn wZ x.e.Γ then some (wZ,x) else gv r C tg ifs elt n (Ba wZ (Ba x.c.Γ x.e.Γ))
def Jy(r:Rec)(C:Cf)(Γ:Gm)(elt:Expr)(gens:List X7)(scope:N1):Option CE:=match gens with
  | [⟨tg,iter,ifs,0⟩]=>(match iter with | .Set _ _ _=>none | _=>r.I C Γ (MQ tg) iter).bind fun s=>let jx:=ZW C.N scope;if xE C.N C.sc scope jx then(cG (C.inner scope) tg).bind fun t=>(gv r (C.inner scope) t ifs elt 4 (NR jx s.Γ)).bind fun p =>
      let J:=BR p.1 (t.J++(p.2.c.js++p.2.e.js))
      if Bn p.1 (NR jx s.Γ) && t.J.all jx.contains && (J.isEmpty || ifs.isEmpty) then some ⟨1,Nz jx s.Γ p.1,s.js++(t.J++(p.2.c.js++p.2.e.js)),match J,ifs with
        | [],[]=>WW s.f t.f p.2.e.f
        | [],_=>WX s.f t.f p.2.c.f p.2.e.f
        | J,_=>Qp s.f t.f J p.2.e.f⟩ else none else none
  | _=>none
theorem Qk{r:Rec}{C:Cf}{tg:CG}{ifs:List Expr}{elt:Expr}:∀{n:Nat} {Γ:Gm} {p:Gm×CC},gv r C tg ifs elt n Γ=some p->Pe r C p.1 tg ifs elt=some p.2/\Bn p.1 p.2.c.Γ=true/\Bn p.1 p.2.e.Γ=true
 | 0,_,_,h=>by cases h
 | n+1,Γ,p,h=>by
  obtain⟨x,e1,h⟩:=wV (show(Pe r C Γ tg ifs elt).bind _=some p from h);split at h
  ·rename_i hw;rw[A5] at hw;cases h;exact⟨e1,hw.1,hw.2⟩
  ·exact Qk h
theorem fS:dC X [] (tT X.K Γ Γ [] Eh):=fun pins s σ H Q I h=>by
 obtain⟨g,m,P,r,R,k,res,e,q⟩:=h;exact wpAny_tests_nil ⟨H,I,q true m g P H e Bj.refl Step.refl r⟩
theorem Jx(R:wm r){elt:Expr}{gens:List X7}{scope:N1}{pos:Pos}(ok:wj C X)(h:Jy r C Γ elt gens scope=some c) :
    ∃t:TE,(∀σ H Q,tE X.K Γ c.o c.Γ c.js c.f σ H Q->t σ H Q)/\PE X (.ListComp elt gens scope pos) t/\∀{i x pos' yj},X.N[i]?=some x->Loc X.env.scope x->(X.fn x=true\/X.env.scope.names.lookup x=some .local)->W6 (.ListComp elt gens scope pos) (some (.Name x pos')) yj.line X.env=pure true->PS X (.Assign [.Name x pos'] (.ListComp elt gens scope pos) yj) (Nj t (DH i)):=by
  unfold Jy at h;split at h
  · rename_i tg iter ifs;obtain⟨s,e1,h⟩:=wV h;simp only at h;split at h
    · rename_i xS;obtain⟨t,e2,h⟩:=wV h;obtain⟨p,e3,h⟩:=wV h;split at h
      · rename_i hw;rw[A5,A5] at hw;obtain⟨hw,hq⟩:=hw;cases h;obtain⟨f1,f2,f3⟩:=Qk e3;unfold Pe at f1;split at f1
        · rename_i hj;obtain⟨ct,f1a,f1⟩:=wV f1;obtain⟨ce,f1b,f1⟩:=wV f1;have ep:p.2=⟨t,ct,ce⟩:=(D5 f1).symm;have hs:∀x,P8 iter X.env x=pure x:=fun x=>by cases iter<;>first | rfl | (cases e1)
          have hI:r.I C Γ (MQ tg) iter=some s:=by cases iter<;>first | exact e1 | (cases e1)
          have hi:=R.I tg ok hI;have okI:=fun cl a s H fp=>ok.inner scope cl a s H fp
          have hg:∀cl a s H fp,PG (X.inner scope cl a s H fp) tg (t.g X.K):=fun cl a s H fp=>(Qw (okI cl a s H fp) e2).1
          have hsx:∀i∈t.J,i∈ZW C.N scope:=fun i hi=>B6.mp ((E3.mp hw.2) i hi)
          have hgo:Tc (ZW C.N scope) (t.g X.K):=(Qw (okI [] 0 X.wz X.H₀ []) e2).2.1 _ hsx;have ht:PN X.K p.1 (t.Γ p.1) t.J (t.g X.K) t.f:=(Qw (okI [] 0 X.wz X.H₀ []) e2).2.2 hj;have he:∀cl a s H fp,PE (X.inner scope cl a s H fp) elt (tE X.K ct.Γ 0 ce.Γ ce.js ce.f):=fun cl a s H fp=>GC (R.E (okI cl a s H fp) f1b)
          have zBD:xE X.N X.env.scope scope (ZW C.N scope)=true:=by rw[ok.N,ok.sc];exact xS
          rw[ep] at f2 f3 hq ⊢;simp only at f2 f3 hq ⊢;cases ifs with
          | nil =>
            cases f1a;have hc:∀cl a s H fp,dC (X.inner scope cl a s H fp) [] (tT X.K (t.Γ p.1) (t.Γ p.1) [] Eh):=fun cl a s H fp=>fS
            refine⟨_,?_,Ly zBD ok.calm hi hg hgo hc he hs,fun{i x pos' yj} hix hx hf hsw=>Lx ok.nd hix hx zBD ok.calm hi hg hgo hc he hsw hs hf⟩;intro σ H Q h;cases hJ:BR p.1 (t.J++([]++ce.js)) with
            | nil=>rw[hJ] at h;exact Vm ht hw.1 f3 f2 hsx hJ.symm h
            | cons j J=>rw[hJ] at h;exact Sk ht hw.1 f3 f2 hsx hJ.symm h
          | cons i1 ifs =>
            cases ifs with
            | nil =>
              have hc:∀cl a s H fp,dC (X.inner scope cl a s H fp) [i1] (tT X.K (t.Γ p.1) ct.Γ ct.js ct.f):=fun cl a s H fp=>.one (R.T (okI cl a s H fp) f1a)
              refine⟨_,?_,Ly zBD ok.calm hi hg hgo hc he hs,fun{i x pos' yj} hix hx hf hsw=>Lx ok.nd hix hx zBD ok.calm hi hg hgo hc he hsw hs hf⟩;intro σ H Q h;cases hJ:BR p.1 (t.J++(ct.js++ce.js)) with
              | nil=>rw[hJ] at h;exact Vn ht hw.1 f3 f2 hsx hJ.symm h
              | cons j J=>rw[hJ] at hq;cases hq
            | cons _ _=>cases f1a
        · cases f1
      · cases h
    · cases h
  · cases h
theorem Mx(R:wm r){elt:Expr}{gens:List X7}{scope:N1}(ok:wj C X)(h:Jy r C Γ elt gens scope=some c):PE X (.ListComp elt gens scope pos) (tE X.K Γ c.o c.Γ c.js c.f):=by
 obtain⟨t,h1,h2,_⟩:=Jx (pos:=pos) R ok h;exact PE.imp h2 h1
end R
namespace Q
open PySem L2
end Q
namespace HT
open PySem PyProof.Rows
end HT
namespace L2
open PySem PySem.Spec PyProof.Rows
end L2
namespace Q
open PySem L2
end Q
namespace R
open PySem L2
noncomputable def gH(f:Expr)(es:List Expr):Option (List Expr):=match f,es with
 | .Name x _,[.Call (.Name y _) (a::es) [] _]=>if x == ("list" : Str) && y == ("range" : Str) then some (a::es) else none
 | _,_=>none
variable {f:Expr} {es:List Expr}
theorem SE{as:List Expr}(h:gH f es=some as):∃p a es' p2 wy,f=.Name "list" p/\as=a::es'/\es=[.Call (.Name "range" p2) (a::es') [] wy]:=by
 unfold gH at h;split at h
 ·split at h
  ·rename_i e;rw[A5,beq_iff_eq,beq_iff_eq] at e;obtain⟨rfl,rfl⟩:=e;cases h;exact⟨_,_,_,_,_,rfl,rfl,rfl⟩
  ·cases h
 ·cases h
def pJ(r:Rec)(C:Cf)(Γ:Gm)(as:List Expr):Option CE:=none
noncomputable def dY(f:Expr)(es:List Expr):Option (List Expr):=match f,es with
 | .Name x _,[.Call (.Name y _) (a::es) [] _]=>if x == ("tuple" : Str) && y == ("range" : Str) then some (a::es) else none
 | _,_=>none
theorem RS{as:List Expr}(h:dY f es=some as):∃p a es' p2 wy,f=.Name "tuple" p/\as=a::es'/\es=[.Call (.Name "range" p2) (a::es') [] wy]:=by
 unfold dY at h;split at h
 ·split at h
  ·rename_i e;rw[A5,beq_iff_eq,beq_iff_eq] at e;obtain⟨rfl,rfl⟩:=e;cases h;exact⟨_,_,_,_,_,rfl,rfl,rfl⟩
  ·cases h
 ·cases h
def pF(r:Rec)(C:Cf)(Γ:Gm)(as:List Expr):Option CE:=none
noncomputable def gG(f:Expr)(es:List Expr):Option Expr:=match f,es with
 | .Name x _,[.Call (.Name y _) [a] [] _]=>if x == ("list" : Str) && y == ("reversed" : Str) then some a else none
 | _,_=>none
variable {a:Expr}
theorem SD(h:gG f es=some a):∃p p2 wy,f=.Name "list" p/\es=[.Call (.Name "reversed" p2) [a] [] wy]:=by
 unfold gG at h;split at h
 ·split at h
  ·rename_i e;rw[A5,beq_iff_eq,beq_iff_eq] at e;obtain⟨rfl,rfl⟩:=e;cases h;exact⟨_,_,_,rfl,rfl⟩
  ·cases h
 ·cases h
def pI(r:Rec)(C:Cf)(Γ:Gm)(a:Expr):Option CE:=none
variable {r:Rec} {C:Cf} {X:Cx} {Γ:Gm} {p p2 wy pos:Pos}
theorem iM(R:wm r){c:CE}(ok:wj C X)(h:pI r C Γ a=some c):PE X (.Call (.Name "list" p) [.Call (.Name "reversed" p2) [a] [] wy] [] pos) (tE X.K Γ c.o c.Γ c.js c.f):=by cases h
theorem iN(R:wm r){es':List Expr}{c:CE}(ok:wj C X)(h:pJ r C Γ (a::es')=some c):PE X (.Call (.Name "list" p) [.Call (.Name "range" p2) (a::es') [] wy] [] pos) (tE X.K Γ c.o c.Γ c.js c.f):=by cases h
theorem iD(R:wm r){es':List Expr}{c:CE}(ok:wj C X)(h:pF r C Γ (a::es')=some c):PE X (.Call (.Name "tuple" p) [.Call (.Name "range" p2) (a::es') [] wy] [] pos) (tE X.K Γ c.o c.Γ c.js c.f):=by cases h
noncomputable def aS(n m:Str)(f:Expr)(es:List Expr):Option Expr:=match f,es with
 | .Name x _,[.Call (.Name y _) [a] [] _]=>if x == n && y == m then some a else none
 | _,_=>none
theorem Jw{n m:Str}(h:aS n m f es=some a):∃p p2 wy,f=.Name n p/\es=[.Call (.Name m p2) [a] [] wy]:=by
 unfold aS at h;split at h
 ·split at h
  ·rename_i e;rw[A5,beq_iff_eq,beq_iff_eq] at e;obtain⟨rfl,rfl⟩:=e;cases h;exact⟨_,_,_,rfl,rfl⟩
  ·cases h
 ·cases h
def oC(r:Rec)(C:Cf)(Γ:Gm)(a:Expr):Option CE:=if OY C.sc "sorted" && OY C.sc "set" && C.bl.contains "sorted" && C.bl.contains "set" && BD a then(TX r C Γ a).bind fun x=>some ⟨1,x.Γ,x.js++[],GK (one C.T.ss) (Ab [x.a])⟩ else none
theorem iG(R:wm r){c:CE}(ok:wj C X)(h:oC r C Γ a=some c):PE X (.Call (.Name "sorted" p) [.Call (.Name "set" p2) [a] [] wy] [] pos) (tE X.K Γ c.o c.Γ c.js c.f):=by
 unfold oC at h;split at h
 ·rename_i hg;simp only[A5] at hg;obtain⟨⟨⟨⟨g1,g2⟩,g3⟩,g4⟩,g5⟩:=hg;obtain⟨x,e1,h⟩:=wV h;cases h;obtain⟨a1,a2⟩:=HC R ok e1;exact PE.imp (OJ ok.calm (Ce ok g1) (ok.bl _ (B6.mp g3)) (Ce ok g2) (ok.bl _ (B6.mp g4)) a1 rfl rfl (AN g5) rfl) fun _ _ _ h=>DG (C.T.zCD X ok.gx) a2 h
 ·cases h
def pK(r:Rec)(C:Cf)(Γ:Gm)(a:Expr):Option CE:=none
theorem iO(R:wm r){c:CE}(ok:wj C X)(h:pK r C Γ a=some c):PE X (.Call (.Name "list" p) [.Call (.Name "enumerate" p2) [a] [] wy] [] pos) (tE X.K Γ c.o c.Γ c.js c.f):=by cases h
noncomputable def oI(f:Expr)(es:List Expr):Bool:=match f with
 | .Name x _=>x == ("all" : Str) && (match es with | [.ListComp ..]=>true | _=>false)
 | _=>false
def mG(r:Rec)(C:Cf)(Γ:Gm)(f:Expr)(es:List Expr)(pos:Pos):Option CE:=(NA r C Γ f es pos).bind fun c=>if oI f es && !(c.Γ == Γ) then(match NA r C (gn Γ) f es pos with
 | some c'=>if c'.js.all fun i=>(Γ.getD i none).isNone then some ⟨1,Γ,c'.js,WY c'.f⟩ else some c
 | none=>some c) else some c
theorem av(R:wm r){c:CE}(ok:wj C X)(h:mG r C Γ f es pos=some c):PE X (.Call f es [] pos) (tE X.K Γ c.o c.Γ c.js c.f):=by
 obtain⟨c0,e0,h⟩:=wV h;have p0:=Mz R ok e0;split at h
 ·split at h
  ·rename_i c' e1;split at h
   ·rename_i hj;cases h;refine PE.imp (Mz R ok e1) fun _ _ _ h=>Vq (fun i o hi z=>?_) h
    have:=(E3.mp hj) i z;rw[B8,hi] at this;cases this
   ·cases h;exact p0
  ·cases h;exact p0
 ·cases h;exact p0
def PF(r:Rec)(C:Cf)(Γ:Gm)(f:Expr)(es:List Expr)(pos:Pos):Option CE:=match gH f es with
 | some as=>pJ r C Γ as
 | none=>match gG f es with
  | some a=>pI r C Γ a
  | none=>match dY f es with
   | some as=>pF r C Γ as
   | none=>match aS "sorted" "set" f es with
    | some a=>oC r C Γ a
    | none=>match aS "list" "enumerate" f es with
     | some a=>pK r C Γ a
     | none=>mG r C Γ f es pos
theorem TK(R:wm r){c:CE}(ok:wj C X)(h:PF r C Γ f es pos=some c):PE X (.Call f es [] pos) (tE X.K Γ c.o c.Γ c.js c.f):=by
 unfold PF at h;split at h
 ·rename_i as e;obtain⟨p,a,es',p2,wy,rfl,rfl,rfl⟩:=SE e;exact iN R ok h
 ·split at h
  ·rename_i a e;obtain⟨p,p2,wy,rfl,rfl⟩:=SD e;exact iM R ok h
  ·split at h
   ·rename_i as e;obtain⟨p,a,es',p2,wy,rfl,rfl,rfl⟩:=RS e;exact iD R ok h
   ·split at h
    ·rename_i a e;obtain⟨p,p2,wy,rfl,rfl⟩:=Jw e;exact iG R ok h
    ·split at h
     ·rename_i a e;obtain⟨p,p2,wy,rfl,rfl⟩:=Jw e;exact iO R ok h
     ·exact av R ok h
def lZ(r:Rec)(C:Cf)(Γ:Gm)(a st:Expr):Option CE:=none
theorem aY(R:wm r){st:Expr}{c:CE}(ok:wj C X)(h:lZ r C Γ a st=some c):PE X (.Subscript a (.Slice none none (some st) p2) pos) (tE X.K Γ c.o c.Γ c.js c.f):=by cases h
noncomputable def Zq(f:Expr)(es:List Expr)(ks:List o4):Option (Expr×Expr):=match f,es,ks with
 | .Name x _,[a],[⟨some y,e,_⟩]=>if x == ("max" : Str) && y == ("default" : Str) then some (a,e) else none
 | _,_,_=>none
theorem SB{ks:List o4}{q:Expr×Expr}(h:Zq f es ks=some q):∃p kp,f=.Name "max" p/\es=[q.1]/\ks=[⟨some "default", q.2,kp⟩]:=by
 unfold Zq at h;split at h
 ·split at h
  ·rename_i e;rw[A5,beq_iff_eq,beq_iff_eq] at e;obtain⟨rfl,rfl⟩:=e;cases h;exact⟨_,_,rfl,rfl,rfl⟩
  ·cases h
 ·cases h
def pH(r:Rec)(C:Cf)(Γ:Gm)(a e:Expr):Option CE:=none
variable {e:Expr}
theorem iL(R:wm r){kp:Pos}{c:CE}(ok:wj C X)(h:pH r C Γ a e=some c):PE X (.Call (.Name "max" p) [a] [⟨some "default", e,kp⟩] pos) (tE X.K Γ c.o c.Γ c.js c.f):=by cases h
def LF(r:Rec)(C:Cf)(Γ:Gm)(f:Expr)(es:List Expr)(ks:List o4)(pos:Pos):Option CE:=match ks with
 | []=>PF r C Γ f es pos
 | k::ks=>match Zq f es (k::ks) with
  | some q=>pH r C Γ q.1 q.2
  | none=>none
theorem TL(R:wm r){ks:List o4}{c:CE}(ok:wj C X)(h:LF r C Γ f es ks pos=some c):PE X (.Call f es ks pos) (tE X.K Γ c.o c.Γ c.js c.f):=by
 cases ks with
 | nil=>exact TK R ok h
 | cons k ks =>
  cases q:Zq f es (k::ks) with
  | none=>unfold LF at h;simp only[q] at h;cases h
  | some z =>
   unfold LF at h;simp only[q] at h;obtain⟨p,kp,e1,e2,e3⟩:=SB q;rw[e1,e2,e3];exact iL R ok h
def cq(C:Cf)(Γ:Gm)(o:Expr)(f:Str):Option CE:=none
theorem XZ{o:Expr}{f:Str}{c:CE}(ok:wj C X)(h:cq C Γ o f=some c):PE X (.Attribute o f pos) (tE X.K Γ c.o c.Γ c.js c.f):=by cases h
def bZ(r:Rec)(C:Cf)(Γ:Gm)(e:Expr):Option CE:=match e with
 | .Constant k _ _=>Xb Γ k
 | .Name x _=>XU C Γ x
 | .BinOp a op b _=>mE r C Γ a op b
 | .UnaryOp .USub a _=>lj r C Γ a
 | .UnaryOp .Not a _=>lh r C Γ a
 | .Compare a [op] [b] _=>(PD r C Γ a op b).map ir
 | .Compare a [op,op'] [b,c] _=>(TJ r C Γ a op b op' c).map ir
 | .BoolOp op vs pos=>UQ r C Γ op vs pos
 | .IfExp c a b _=>lz r C Γ c a b
 | .Call f es ks pos=>LF r C Γ f es ks pos
 | .Tuple es _ _=>lX r C Γ es
 | .List es _=>lu r C Γ es
 | .Dict [] [] _=>some ⟨1,Γ,[],WT⟩
 | .Subscript a (.Slice lo hi none _) _=>pG r C Γ a lo hi
 | .Subscript a (.Slice none none (some st) _) _=>lZ r C Γ a st
 | .Subscript a b _=>if Hr b then oE r C Γ a b else none
 | .ListComp e gens sc _=>Jy r C Γ e gens sc
 | .Attribute o f _=>cq C Γ o f
 | _=>none
theorem UO(R:wm r){c:CE}(ok:wj C X)(h:bZ r C Γ e=some c):PE X e (tE X.K Γ c.o c.Γ c.js c.f):=by
 match e,h with
 | .Constant k j pos,h=>exact TF h
 | .Name x pos,h=>exact XT ok h
 | .BinOp a op b pos,h=>exact aq R ok h
 | .UnaryOp op a pos,h =>
  cases op with
  | USub=>exact ae R ok h
  | Not =>
   obtain⟨c1,e1,h⟩:=wV (show(r.E C Γ a).bind _=some c from h);cases h;exact PE.imp (fL (GC (R.E ok e1))) fun _ _ _ h=>dh h
  | _=>cases h
 | .Compare a ops bs pos,h =>
  match ops,bs,h with
  | [op],[b],h =>
   cases q:PD r C Γ a op b with
   | none=>replace h:(PD r C Γ a op b).map ir=some c:=h;rw[q] at h;cases h
   | some t =>
    replace h:(PD r C Γ a op b).map ir=some c:=h;rw[q] at h;cases h;exact(Qy R ok q).2 1
  | [op,op'],[b,d],h =>
   cases q:TJ r C Γ a op b op' d with
   | none=>replace h:(TJ r C Γ a op b op' d).map ir=some c:=h;rw[q] at h;cases h
   | some t =>
    replace h:(TJ r C Γ a op b op' d).map ir=some c:=h;rw[q] at h;cases h;exact(Qz R ok q).2 1
  | [],_,h=>cases h
  | [_],[],h=>cases h
  | [_],_::_::_,h=>cases h
  | [_,_],[],h=>cases h
  | [_,_],[_],h=>cases h
  | [_,_],_::_::_::_,h=>cases h
  | _::_::_::_,_,h=>cases h
 | .BoolOp op vs pos,h=>exact RX R ok h
 | .IfExp c a b pos,h=>exact ai R ok h
 | .Call f es ks pos,h=>exact TL R ok h
 | .Tuple es k pos,h=>exact aV R ok h
 | .List es pos,h=>exact ah R ok h
 | .Dict ks vs pos,h =>
  cases ks with
  | nil =>
   cases vs with
   | nil=>cases h;exact jd
   | cons _ _=>cases h
  | cons _ _=>cases h
 | .Subscript a b pos,h =>
  have ix:Hr b=true->(if Hr b then oE r C Γ a b else none)=some c->PE X (.Subscript a b pos) (tE X.K Γ c.o c.Γ c.js c.f):=fun hb h=>by
   rw[if_pos hb] at h;exact iP R ok hb h
  match b,h with
  | .Slice lo hi st p2,h =>
   cases st with
   | none=>exact iE R ok h
   | some st =>
    cases lo with
    | none =>
     cases hi with
     | none=>exact aY R ok h
     | some _=>cases h
    | some _=>cases h
  | .NamedExpr ..,h | .BinOp ..,h | .Lambda ..,h | .Dict ..,h | .Set ..,h | .ListComp ..,h | .SetComp ..,h | .DictComp ..,h | .GeneratorExp ..,h | .Await ..,h | .Yield ..,h | .YieldFrom ..,h | .Call ..,h | .FormattedValue ..,h | .JoinedStr ..,h | .Constant ..,h | .Attribute ..,h | .Subscript ..,h | .Starred ..,h | .Name ..,h | .List ..,h | .Tuple ..,h | .UnaryOp ..,h | .BoolOp ..,h | .IfExp ..,h | .Compare ..,h=>exact ix rfl h
 | .ListComp e gens sc pos,h=>exact Mx R ok h
 | .Attribute o f pos,h=>exact XZ ok h
 | .NamedExpr ..,h | .Lambda ..,h | .Set ..,h | .SetComp ..,h | .DictComp ..,h | .GeneratorExp ..,h | .Await ..,h | .Yield ..,h | .YieldFrom ..,h | .FormattedValue ..,h | .JoinedStr ..,h | .Starred ..,h | .Slice ..,h=>cases h
noncomputable def Zj:Expr->Bool
 | .ListComp ..=>false
 | .SetComp ..=>false
 | .DictComp ..=>false
 | _=>true
theorem Le{t:Option Expr}{l:Nat}{env:Env}(h:Zj e=true):W6 e t l env=pure false:=by
 cases e<;>first | rfl | (cases h)
theorem Tt{K:W.Frag}{Γ' w8:Gm}{js:List Nat}{o:Nat}{f:Ev Dv}{σ:St}{H:Hp}{Q:VK}(hw:Bn w8 Γ'=true)(h:tE K Γ o w8 js f σ H Q):tE K Γ o Γ' js f σ H Q:=by
 obtain⟨g,m,P,r,R,k,res,e,q⟩:=h;refine⟨g,m,P,r,R,k,res,e,fun b m' g' P' Pv v H' hk ag s rv r1 n=>?_⟩;obtain⟨g2,P2,s2,r2⟩:=r1.weaken hw;have nn:Bp Pv P':=fun a q z=>n a z q
 refine q b m' g2 P2 Pv v H' hk ag (s.trans ((s2.frame (R:=Pv)).sub (fun _ z=>z) fun _ z=>z)) (rv.held s2 r1.wc nn) r2 fun a q z=>s2.out rv.wc nn a z q
def Ua(Γ:Gm):CS:=⟨some Γ,[],IL,false,false,false⟩
def lg(r:Rec)(C:Cf)(Γ:Gm)(e:Expr):Option CS:=(match Vo C e with
 | some i=>(match Γ.getD i none with | some o=>some (CE.mk o (Γ.set i none) [] (Qm i)) | none=>none)
 | none=>r.E C Γ e).bind fun c=>if Bn C.F.Γr c.Γ && (C.F.ro == 0 || c.o == C.F.ro) then some ⟨none,c.js,cM c.f,true,false,false⟩ else none
variable {wZ:Option Gm} {c:CS}
theorem aZ(R:wm r)(ok:wj C X)(h:lg r C Γ e=some c):PS X (.Return (some e) pos) (tS X.K C.F wZ Γ c.Γ c.js c.f):=by
  obtain⟨c1,e1,h⟩:=wV h;split at h
  · rename_i hw;simp only[A5,m6,beq_iff_eq] at hw;cases h;have he:PE X e (tE X.K Γ c1.o c1.Γ c1.js c1.f):=by
      split at e1
      · rename_i i hi;split at e1
        · rename_i o ho;cases e1;exact jY (Ec ok hi) (Bi ho)
        · cases e1
      · exact R.E ok e1
    have he2:PE X e (tE X.K Γ C.F.ro c1.Γ c1.js c1.f):=by
      rcases hw.2 with z | z
      · rw[z];exact GC he
      · rw[<- z];exact he
    exact jR (PE.imp he2 fun _ _ _ h=>Tt hw.1 h)
  · cases h
def iR(r:Rec)(C:Cf)(Γ:Gm)(e:Expr):Option CS:=if Zj e then(r.E C Γ e).bind fun c=>some ⟨some c.Γ,c.js,Wb c.f,false,false,false⟩ else none
theorem Qx(R:wm r)(ok:wj C X)(h:iR r C Γ e=some c):PS X (.Expr e pos) (tS X.K C.F wZ Γ c.Γ c.js c.f):=by
 unfold iR at h;split at h
 ·rename_i hn;obtain⟨c1,e1,h⟩:=wV h;cases h;exact eJ (R.E ok e1) (Le hn)
 ·cases h
def Qv(C:Cf)(x:Str)(c:CE):Option CS:=(LL C x).bind fun i=>if decide (i < c.Γ.length) && !C.F.io.contains i then some ⟨some (c.Γ.set i (some c.o)),c.js++[i],Wc c.f (jE i),false,false,false⟩ else none
variable {x:Str} {pos':Pos}
theorem Mv{c1:CE}(ok:wj C X)(he:PE X e (tE X.K Γ c1.o c1.Γ c1.js c1.f))(hs:W6 e (some (.Name x pos')) pos.line X.env=pure false)(h:Qv C x c1=some c):PS X (.Assign [.Name x pos'] e pos) (tS X.K C.F wZ Γ c.Γ c.js c.f):=by
 obtain⟨i,e1,h⟩:=wV h;split at h
 ·rename_i hw;simp only[A5,decide_eq_true_eq,N7] at hw;cases h;obtain⟨h1,h2,h3⟩:=LK ok e1;exact jQ ok.nd h1 h2 (fun z=>by rw[B6.mpr z] at hw;cases hw.2) hw.1 he hs h3
 ·cases h
def nP(sc:N1)(x:Str)(pl:Nat)(scope:N1)(vl:Nat):Bool:=(if sc.kind.isAnnotationScope then ScopeKind.function else sc.kind) == .function && sc.names.lookup x == some .local && pl == vl && !(scope.names.any fun(n,k)=>n == x && (k == .local || k == .cell))
variable {gens:List X7} {scope:N1}
theorem UI(ok:wj C X){elt:Expr}{l:Nat}:W6 (.ListComp elt gens scope pos) (some (.Name x pos')) l X.env=pure (nP C.sc x pos'.line scope pos.line):=by
 unfold nP;rw[<- ok.sc];rfl
theorem TH(R:wm r){elt:Expr}{pos:Pos}{c:CE}(ok:wj C X)(h:Jy r C Γ elt gens scope=some c) :
    ∃t:TE,(∀σ H Q,tE X.K Γ c.o c.Γ c.js c.f σ H Q->t σ H Q)/\∀{i x pos' yj},X.N[i]?=some x->Loc X.env.scope x->(X.fn x=true\/X.env.scope.names.lookup x=some .local)->W6 (.ListComp elt gens scope pos) (some (.Name x pos')) yj.line X.env=pure true->PS X (.Assign [.Name x pos'] (.ListComp elt gens scope pos) yj) (Nj t (DH i)):=by
  obtain⟨t,h1,_,h3⟩:=Jx (pos:=pos) R ok h;exact⟨t,h1,h3⟩
def cw(r:Rec)(C:Cf)(Γ:Gm)(x:Str)(elt:Expr)(gens:List X7)(scope:N1):Option CS:=(Jy r C Γ elt gens scope).bind fun c=>Qv C x c
theorem Xe(R:wm r){elt:Expr}{xI:Pos}(ok:wj C X)(h:cw r C Γ x elt gens scope=some c):PS X (.Assign [.Name x pos'] (.ListComp elt gens scope xI) pos) (tS X.K C.F wZ Γ c.Γ c.js c.f):=by
 obtain⟨c1,e1,h⟩:=wV h;cases hb:nP C.sc x pos'.line scope xI.line with
 | false=>exact Mv ok (Mx R ok e1) (by rw[UI ok,hb]) h
 | true =>
  obtain⟨i,e2,h⟩:=wV h;split at h
  ·rename_i hw;simp only[A5,decide_eq_true_eq,N7] at hw;cases h;obtain⟨h1,h2,h3⟩:=LK ok e2;obtain⟨t,q1,q2⟩:=TH R (pos:=xI) ok e1;refine PS.imp (q2 h1 h2 h3 (by rw[UI ok,hb])) fun D σ H h=>q1 _ _ _ (Pn hw.1 (fun z=>by rw[B6.mpr z] at hw;cases hw.2) h)
  ·cases h
def cv(r:Rec)(C:Cf)(Γ:Gm)(es:List Expr)(k:Nat)(p:Pos)(e:Expr):Option CS:=none
theorem Xd(R:wm r){k:Nat}(ok:wj C X)(h:cv r C Γ es k p e=some c):PS X (.Assign [.Tuple es k p] e pos) (tS X.K C.F wZ Γ c.Γ c.js c.f):=by cases h
def lJ(i j:Nat)(fa:Ev (List Dv)):Es:=fun R m k=>fa R m fun ds m1=>match ds with | [a,b]=>k.nx ((m1.set i a).set j b) | _=>none
def fU(sc:N1)(x y:Str)(px py:Pos)(a b:Expr):Bool:=(match sc.kind with | .function=>true | _=>false) && (match sc.names.lookup x with | some .local=>true | _=>false) && (match sc.names.lookup y with | some .local=>true | _=>false) && !(x == y) && (py.line == px.line) && BD a && BD b && !(foldedForSure 8 a && foldedForSure 8 b) && !(constantsAlone 8 a && constantsAlone 8 b)
theorem fT{env:Env}{y:Str}{px py pt pt2:Pos}{kt k2:Nat}{b:Expr}(h:fU env.scope x y px py a b=true):qc [.Tuple [.Name x px,.Name y py] kt pt] (.Tuple [a,b] k2 pt2) env=pure (some [x,y])/\env.scope.names.lookup x=some .local/\env.scope.names.lookup y=some .local:=by
 unfold fU at h;simp only[A5,N7] at h;obtain⟨⟨⟨⟨⟨⟨⟨⟨h1,h2⟩,h3⟩,h4⟩,h5⟩,h6⟩,h7⟩,h8⟩,h9⟩:=h;have k1:env.scope.kind=.function:=by split at h1;(assumption);(cases h1)
 have k2:env.scope.names.lookup x=some .local:=by split at h2;(assumption);(cases h2)
 have k3:env.scope.names.lookup y=some .local:=by split at h3;(assumption);(cases h3)
 refine⟨?_,k2,k3⟩;have kx:env.kindOf x=some .local:=k2;have ky:env.kindOf y=some .local:=k3;have yx:(y == x)=false:=by
  cases q:y == x with
  | false=>rfl
  | true=>rw[beq_iff_eq.mp q,beq_self_eq_true] at h4;cases h4
 unfold qc;simp[Env.blockKind,k1,ScopeKind.isAnnotationScope,kx,ky,beq_iff_eq.mp h5,h8,h9,List.eraseDups_cons,yx,h4,Expr.pos];rintro(z | z)
 ·cases a<;>first | (cases z;done) | (cases h6;done)
 ·cases b<;>first | (cases z;done) | (cases h7;done)
def iH(r:Rec)(C:Cf)(Γ:Gm)(x y:Str)(px py:Pos)(a b:Expr):Option CS:=if fU C.sc x y px py a b then(r.A C Γ [] [a,b]).bind fun c=>(DM C.N x).bind fun i=>(DM C.N y).bind fun j=>if decide (i < c.Γ.length) && decide (j < c.Γ.length) && !(i == j) && !C.F.io.contains i && !C.F.io.contains j then some ⟨some ((c.Γ.set i (some 0)).set j (some 0)),c.js++([i]++[j]),lJ i j (Ab c.as),false,false,false⟩ else none else none
theorem aa(R:wm r){y:Str}{px py pt pt2:Pos}{kt k2:Nat}{b:Expr}(ok:wj C X)(h:iH r C Γ x y px py a b=some c):PS X (.Assign [.Tuple [.Name x px,.Name y py] kt pt] (.Tuple [a,b] k2 pt2) pos) (tS X.K C.F wZ Γ c.Γ c.js c.f):=by
 unfold iH at h;split at h
 ·rename_i hp;obtain⟨c1,e1,h⟩:=wV h;obtain⟨i,e2,h⟩:=wV h;obtain⟨j,e3,h⟩:=wV h;split at h
  ·rename_i hw;simp only[A5,decide_eq_true_eq,N7,beq_eq_false_iff_ne] at hw;obtain⟨⟨⟨⟨w1,w2⟩,w3⟩,w4⟩,w5⟩:=hw;cases h;obtain⟨a1,a2,a3,a4,a5⟩:=R.A ok e1;rw[<- ok.sc] at hp;obtain⟨p1,p2,p3⟩:=fT (pt:=pt) (pt2:=pt2) (kt:=kt) (k2:=k2) hp;refine PS.imp (eY ok.calm ok.nd (by rw[ok.N];exact Bb e2) (by rw[ok.N];exact Bb e3) w3 p2 p3 a1 p1 rfl) fun D σ H h=>?_
   obtain⟨g,m,P,r',R',k,res,e,q⟩:=h;refine AU c1.as r' a2 e fun ds m1 g1 P1 vs H1 hk ag s ar r1=>?_
   have rp:=ar.zAO (a5 rfl)
   match ds,hk,rp with
   | [d1,d2],hk,rp =>
    obtain⟨v1,us,rfl,h1,rp⟩:=Ap rp;obtain⟨v2,us2,rfl,h2,rp⟩:=Ap rp;cases Af rp;obtain⟨P2,r2,s2⟩:=r1.yD w1 h1 fun _ z=>z.elim
    obtain⟨P3,r3,s3⟩:=r2.yD (by rw[D8];exact w2) h2 fun _ z=>z.elim
    refine⟨v1,v2,rfl,q.nx _ _ g1 P3 _ H1 rfl hk (ag.trans (Bj.set.trans Bj.set)) (s.less fun a z=>(s3 a z).elim (fun z=>(s2 a z).elim id F1) F1) ((Io.set ?_).trans (Io.set ?_)) r3⟩
    ·exact fun z=>by rw[B6.mpr z] at w4;cases w4
    ·exact fun z=>by rw[B6.mpr z] at w5;cases w5
   | [],hk,_=>cases hk
   | [_],hk,_=>cases hk
   | _::_::_::_,hk,_=>cases hk
  ·cases h
 ·cases h
def XG(r:Rec)(C:Cf)(Γ:Gm)(x k e:Expr):Option CS:=if Hr k then(Vo C x).bind fun i=>(r.E C Γ e).bind fun c=>(TX r C c.Γ k).bind fun a=>if(c.Γ.getD i none).isSome && a.Γ.getD i none == some 1 then some ⟨some a.Γ,c.js++((a.js++[])++[i]),cL i C.T.st c.f (Ab [a.a]),false,false,false⟩ else none else none
variable {k:Expr} {xj:Pos}
theorem RV{x:Expr}(hk:Hr k=true):∀v,i7 (.Subscript x k xj) X.env v=(do
      let ov <- q9 [v] (Q7 x X.env)
      let iv <- q9 [v,ov] (Q7 k X.env)
      standAt xj
      q9 [v,ov,iv] (vC ov iv v)
      release [v,ov,iv] []):=fun v=>by
  cases k<;>first | rfl | (cases hk)
theorem UY{x:Expr}{l:Nat}{env:Env}:sQ [.Subscript x k p] e l env=pure false:=by cases e<;>rfl
theorem XF(R:wm r){x:Expr}(ok:wj C X)(h:XG r C Γ x k e=some c):PS X (.Assign [.Subscript x k xj] e pos) (tS X.K C.F wZ Γ c.Γ c.js c.f):=by
 unfold XG at h;split at h
 ·rename_i hn;obtain⟨i,e0,h⟩:=wV h;obtain⟨c1,e1,h⟩:=wV h;obtain⟨a,e2,h⟩:=wV h;split at h
  ·rename_i hw;rw[A5] at hw;cases h;obtain⟨a1,a2⟩:=HC R ok e2;obtain⟨T,t1,t2⟩:=C.T.zCC X ok.gx;refine PS.imp (ee (GC (R.E ok e1)) (fG (Ec ok e0) a1 t1 (RV hn)) UY ?_ rfl) fun D σ H h=>Uc t2 a2 (getD_some hw.1) (Bi (beq_iff_eq.mp hw.2)) h
   cases e<;>rfl
  ·cases h
 ·cases h
def cb(r:Rec)(C:Cf)(Γ:Gm)(q:Nat×Str)(k e:Expr):Option CS:=none
theorem XH(R:wm r){x:Expr}{q:Nat×Str}(ok:wj C X)(hq:cH C x=some q)(h:cb r C Γ q k e=some c):PS X (.Assign [.Subscript x k xj] e pos) (tS X.K C.F wZ Γ c.Γ c.js c.f):=by cases h
def XJ(r:Rec)(C:Cf)(Γ:Gm)(x k e:Expr):Option CS:=match cH C x with
 | some q=>cb r C Γ q k e
 | none=>XG r C Γ x k e
theorem XI(R:wm r){x:Expr}(ok:wj C X)(h:XJ r C Γ x k e=some c):PS X (.Assign [.Subscript x k xj] e pos) (tS X.K C.F wZ Γ c.Γ c.js c.f):=by
 unfold XJ at h;split at h
 ·rename_i q hq;exact XH R ok hq h
 ·exact XF R ok h
def cu(r:Rec)(C:Cf)(Γ:Gm)(o:Expr)(f:Str)(e:Expr):Option CS:=none
theorem Xa(R:wm r){o:Expr}{f:Str}(ok:wj C X)(h:cu r C Γ o f e=some c):PS X (.Assign [.Attribute o f xj] e pos) (tS X.K C.F wZ Γ c.Γ c.js c.f):=by cases h
def cC:Option Gm->Option Gm->Option Gm
 | some a,some b=>some (Ba a b)
 | none,b=>b
 | a,none=>a
def pL(r:Rec)(C:Cf)(wZ:Option Gm)(Γ:Gm)(c:Expr)(a b:List M4):Option CS:=(r.T C Γ c).bind fun t=>(r.Ss C wZ t.Γ a).bind fun x=>(r.Ss C wZ t.Γ b).bind fun y=>let Γn:=cC x.Γ y.Γ;let js:=t.js++(x.js++y.js);if LR Γn x.Γ && LR Γn y.Γ then some ⟨Γn,js,match x.Γ,y.Γ,Γn with
      | some _,some _,some Γ'=>if x.er || x.eb || x.ec || y.er || y.eb || y.ec then MY t.f x.f y.f else lK (BR Γ' js) (MY t.f x.f y.f)
      | _,_,_=>MY t.f x.f y.f,x.er || y.er,x.eb || y.eb,x.ec || y.ec⟩ else none
theorem iQ(R:wm r){t:Expr}{a b:List M4}(ok:wj C X)(h:pL r C wZ Γ t a b=some c):PS X (.If t a b pos) (tS X.K C.F wZ Γ c.Γ c.js c.f):=by
 obtain⟨ct,e1,h⟩:=wV h;obtain⟨x,e2,h⟩:=wV h;obtain⟨y,e3,h⟩:=wV h;simp only at h;split at h
 ·rename_i hw;rw[A5] at hw;have base:PS X (.If t a b pos) (tS X.K C.F wZ Γ (cC x.Γ y.Γ) (ct.js++(x.js++y.js)) (MY ct.f x.f y.f)):=nR (R.T ok e1) (Uh (R.Ss ok e2) hw.1) (Uh (R.Ss ok e3) hw.2);cases h;split
  ·rename_i Γ' _ _ hj;split
   ·exact base
   ·simp only[hj] at base ⊢;exact PS.imp base fun D σ H h=>gR (fun i o z=>BX z) (fun i z=>BE z) h
  ·exact base
 ·cases h
def mF(r:Rec)(C:Cf)(Γ:Gm)(x:Str)(op:rZ)(e:Expr):Option CS:=none
theorem au(R:wm r){op:rZ}(ok:wj C X)(h:mF r C Γ x op e=some c):PS X (.AugAssign (.Name x pos') op e pos) (tS X.K C.F wZ Γ c.Γ c.js c.f):=by cases h
def WQ(r:Rec)(C:Cf)(pre:Gm->Gm)(body:List M4):Nat->Gm->Option (Gm×CS)
 | 0,_=>none
 | n+1,Γ=>match r.Ss C (some Γ) (pre Γ) body with
  | some x=>if LR (some Γ) x.Γ then some (Γ,x) else WQ r C pre body n (match x.Γ with | some Γ'=>Ba Γ Γ' | none=>Γ)
  | none=>WQ r C pre body n (Γ.map fun o=>o.map fun _=>0)
theorem Ks{r:Rec}{C:Cf}{pre:Gm->Gm}{body:List M4}:∀{n:Nat} {Γ:Gm} {p:Gm×CS},WQ r C pre body n Γ=some p->r.Ss C (some p.1) (pre p.1) body=some p.2/\LR (some p.1) p.2.Γ=true
 | 0,_,_,h=>by cases h
 | n+1,Γ,p,h=>by
  unfold WQ at h;split at h
  ·rename_i x hx;split at h
   ·rename_i hw;cases h;exact⟨hx,hw⟩
   ·exact Ks h
  ·exact Ks h
def mB(r:Rec)(C:Cf)(Γ:Gm)(tg iter:Expr)(body:List M4):Option CS:=(match iter with | .Set _ _ _=>none | _=>r.I C Γ (MQ tg) iter).bind fun s=>(cG C tg).bind fun t=>if t.J.all (fun i=>decide (i < s.Γ.length) && !C.F.io.contains i) then(WQ r C t.Γ body 4 s.Γ).bind fun p=>if Bn p.1 s.Γ then
    let jb:=t.J++p.2.js
    some ⟨some p.1,s.js++jb,if p.2.er || p.2.eb then WZ s.f t.f (BR p.1 jb) (BR C.F.Γr jb) p.2.f else Wa s.f t.f (BR p.1 jb) p.2.f,p.2.er,false,false⟩ else none else none
theorem aj(R:wm r){tg iter:Expr}{body:List M4}(ok:wj C X)(h:mB r C Γ tg iter body=some c):PS X (.For tg iter body [] pos) (tS X.K C.F wZ Γ c.Γ c.js c.f):=by
 obtain⟨s,e1,h⟩:=wV h;obtain⟨t,e2,h⟩:=wV h;split at h
 ·rename_i hj;obtain⟨p,e3,h⟩:=wV h;split at h
  ·rename_i hw;have hs:∀x,P8 iter X.env x=pure x:=fun x=>by cases iter<;>first | rfl | (cases e1)
   have hI:r.I C Γ (MQ tg) iter=some s:=by cases iter<;>first | exact e1 | (cases e1)
   obtain⟨f1,f2⟩:=Ks e3;obtain⟨g1,_,g3⟩:=Qw ok e2;rw[E3] at hj;have hJ:t.J.all (fun i=>decide (i < p.1.length))=true:=by
    rw[E3];intro i hi;rw[EM hw];exact(W5.mp (hj i hi)).1
   have yZ:∀i∈C.F.io,i∉t.J:=fun i hi z=>by
    have:=(W5.mp (hj i z)).2;rw[B6.mpr hi] at this;cases this
   have hi:PI X tg iter (tI X.K Γ p.1 s.js s.f):=PI.imp (R.I tg ok hI) fun _ _ _ h=>YN hw h
   have hp:o9 (C9 X.prog X.w) X.A X.env X.xe:=by rw[ok.xe];exact vA
   have hb:=R.Ss ok f1;simp only at h;cases h;split
   ·exact eG hp ok.calm hi g1 (g3 hJ) yZ hb f2 rfl rfl hs
   ·exact eI hp ok.calm hi g1 (g3 hJ) yZ hb f2 rfl hs
  ·cases h
 ·cases h
noncomputable def oR:Nat:=1000000
def mq(r:Rec)(C:Cf)(Γ:Gm)(c:Expr)(body:List M4):Option CS:=(fixW r C c body 4 Γ).bind fun p=>if Bn p.1 Γ && !(p.2.2.er || p.2.2.eb) then some ⟨some p.1,p.2.2.js,cJ oR p.2.1.f (BR p.1 p.2.2.js) p.2.2.f,p.2.2.er,false,false⟩ else none
where
 fixW (r:Rec) (C:Cf) (c:Expr) (body:List M4):Nat->Gm->Option (Gm×CT×CS)
 | 0,_=>none
 | n+1,Γ=>(r.T C Γ c).bind fun t=>if t.js.isEmpty && Bn Γ t.Γ then(match r.Ss C (some Γ) Γ body with
  | some x=>if LR (some Γ) x.Γ then some (Γ,t,x) else fixW r C c body n (match x.Γ with | some Γ'=>Ba Γ Γ' | none=>Γ)
  | none=>fixW r C c body n (Γ.map fun o=>o.map fun _=>0)) else fixW r C c body n (Ba Γ t.Γ)
theorem Gz{r:Rec}{C:Cf}{c:Expr}{body:List M4}:∀{n:Nat} {Γ:Gm} {p:Gm×CT×CS},mq.fixW r C c body n Γ=some p->r.T C p.1 c=some p.2.1/\p.2.1.js=[]/\Bn p.1 p.2.1.Γ=true/\r.Ss C (some p.1) p.1 body=some p.2.2/\LR (some p.1) p.2.2.Γ=true
 | 0,_,_,h=>by cases h
 | n+1,Γ,p,h=>by
  unfold mq.fixW at h;obtain⟨t,e1,h⟩:=wV h;split at h
  ·rename_i hw;rw[A5] at hw;split at h
   ·rename_i x hx;split at h
    ·rename_i hl;cases h;exact⟨e1,ue.mp hw.1,hw.2,hx,hl⟩
    ·exact Gz h
   ·exact Gz h
  ·exact Gz h
theorem jS{F:Fr}{Γn:Option Gm}{Γ':Gm}{js:List Nat}{s:M4}{f:Es}(hw:Bn Γ' Γ=true)(h:PS X s (tS X.K F wZ Γ' Γn js f)):PS X s (tS X.K F wZ Γ Γn js f):=PS.imp h fun D σ H h=>by
 obtain⟨g,m,P,r,R,k,res,e,q⟩:=h;obtain⟨g2,P2,s2,r2⟩:=r.weaken hw;exact⟨g2,m,P2,r2,R,k,res,e,⟨fun Γ' m' g' P' σ' H' e hk a s'=>q.nx Γ' m' g' P' σ' H' e hk a (s2.trans s'),fun d m' g' P' Pv σ' v H' hk a s'=>q.rt d m' g' P' Pv σ' v H' hk a (s2.trans s'),fun Γ' m' g' P' σ' H' e hk a s'=>q.bk Γ' m' g' P' σ' H' e hk a (s2.trans s'),fun Γ' m' g' P' σ' H' e hk a s'=>q.ct Γ' m' g' P' σ' H' e hk a (s2.trans s')⟩⟩
theorem iB(R:wm r){t:Expr}{body:List M4}(ok:wj C X)(h:mq r C Γ t body=some c):PS X (.While t body [] pos) (tS X.K C.F wZ Γ c.Γ c.js c.f):=by
 obtain⟨p,e1,h⟩:=wV h;split at h
 ·rename_i hw;cases h;obtain⟨f1,f2,f3,f4,f5⟩:=Gz e1;have hp:o9 (C9 X.prog X.w) X.A X.env X.xe:=by rw[ok.xe];exact vA
  have ht:=R.T ok f1;rw[f2] at ht;rw[A5] at hw;exact jS hw.1 (jP oR hp ht (R.Ss ok f4) f3 f5 rfl)
 ·cases h
def gy:Es:=fun _ _ _=>none
def mD(wZ:Option Gm)(Γ:Gm):Option CS:=none
def mC(wZ:Option Gm)(Γ:Gm):Option CS:=none
theorem ao(h:mD wZ Γ=some c):PS X (.Break pos) (tS X.K C.F wZ Γ c.Γ c.js c.f):=by cases h
theorem ak(h:mC wZ Γ=some c):PS X (.Continue pos) (tS X.K C.F wZ Γ c.Γ c.js c.f):=by cases h
noncomputable def bt(es:List Expr)(e:Expr):Option (Str×Pos×Str×Pos×Expr×Expr):=match es with
 | [.Name x px,.Name y py]=>match e with
  | .Tuple [a,b] _ _=>some (x,px,y,py,a,b)
  | _=>none
 | _=>none
noncomputable def UH(es:List Expr):Option (Expr×Expr×Expr×Expr):=match es with
 | [.Subscript x k _,.Subscript y j _]=>some (x,k,y,j)
 | _=>none
theorem Nk{t:Expr×Expr×Expr×Expr}(h:UH es=some t):∃p q,es=[.Subscript t.1 t.2.1 p,.Subscript t.2.2.1 t.2.2.2 q]:=by
 unfold UH at h;split at h
 ·cases h;exact⟨_,_,rfl⟩
 ·cases h
def lY(r:Rec)(C:Cf)(Γ:Gm)(x k y j e:Expr):Option CS:=none
theorem aX(R:wm r){x y j:Expr}{q pt:Pos}{kt:Nat}(ok:wj C X)(h:lY r C Γ x k y j e=some c):PS X (.Assign [.Tuple [.Subscript x k p,.Subscript y j q] kt pt] e pos) (tS X.K C.F wZ Γ c.Γ c.js c.f):=by cases h
def XE(r:Rec)(C:Cf)(Γ:Gm)(es:List Expr)(k:Nat)(p:Pos)(e:Expr):Option CS:=match bt es e with
 | some t=>iH r C Γ t.1 t.2.2.1 t.2.1 t.2.2.2.1 t.2.2.2.2.1 t.2.2.2.2.2
 | none=>match UH es with
  | some t=>lY r C Γ t.1 t.2.1 t.2.2.1 t.2.2.2 e
  | none=>cv r C Γ es k p e
theorem XD(R:wm r){k:Nat}(ok:wj C X)(h:XE r C Γ es k p e=some c):PS X (.Assign [.Tuple es k p] e pos) (tS X.K C.F wZ Γ c.Γ c.js c.f):=by
 unfold XE at h;split at h
 ·rename_i t q;unfold bt at q;split at q
  ·split at q
   ·cases q;exact aa R ok h
   ·cases q
  ·cases q
 ·split at h
  ·rename_i t q;obtain⟨p1,p2,rfl⟩:=Nk q;exact aX R ok h
  ·exact Xd R ok h
theorem bH(R:wm r)(ok:wj C X)(h:(if Zj e then(r.E C Γ e).bind fun c=>Qv C x c else none)=some c):PS X (.Assign [.Name x p] e pos) (tS X.K C.F wZ Γ c.Γ c.js c.f):=by
 split at h
 ·rename_i hn;obtain⟨c1,e1,h⟩:=wV h;exact Mv ok (R.E ok e1) (Le hn) h
 ·cases h
def bY(r:Rec)(C:Cf)(wZ:Option Gm)(Γ:Gm)(s:M4):Option CS:=match s with
 | .Pass _=>some (Ua Γ)
 | .Expr (.Constant (.str _) _ _) _=>some (Ua Γ)
 | .Expr e _=>iR r C Γ e
 | .Return (some e) _=>lg r C Γ e
 | .Assign [.Name x _] (.ListComp elt gens scope _) _=>cw r C Γ x elt gens scope
 | .Assign [.Name x _] e _=>if Zj e then(r.E C Γ e).bind fun c=>Qv C x c else none
 | .Assign [.Tuple es k p] e _=>XE r C Γ es k p e
 | .Assign [.Subscript x k _] e _=>XJ r C Γ x k e
 | .Assign [.Attribute o f _] e _=>cu r C Γ o f e
 | .AugAssign (.Name x _) op e _=>mF r C Γ x op e
 | .If c a b _=>pL r C wZ Γ c a b
 | .For tg iter body [] _=>mB r C Γ tg iter body
 | .While c body [] _=>mq r C Γ c body
 | .Break _=>mD wZ Γ
 | .Continue _=>mC wZ Γ
 | .Raise _ _ _=>some ⟨none,[],gy,false,false,false⟩
 | _=>none
theorem UL(R:wm r){s:M4}(ok:wj C X)(h:bY r C wZ Γ s=some c):PS X s (tS X.K C.F wZ Γ c.Γ c.js c.f):=by
 cases s with
 | Pass _=>cases h;exact eE
 | Expr e _ =>
  cases e with
  | Constant k _ _ =>
   cases k with
   | str _=>cases h;exact jV
   | _=>exact Qx R ok h
  | _=>exact Qx R ok h
 | Return v _ =>
  cases v with
  | none=>cases h
  | some e=>exact aZ R ok h
 | Assign ts e _ =>
  match ts,h with
  | [],h=>cases h
  | t::_::_,h=>cases t<;>cases h
  | [t],h =>
   cases t with
   | Name x _ =>
    cases e with
    | ListComp elt gens scope _=>exact Xe R ok h
    | _=>exact bH R ok h
   | Tuple es k p=>exact XD R ok h
   | Subscript x k _=>exact XI R ok h
   | Attribute o f _=>exact Xa R ok h
   | _=>cases h
 | AugAssign t op e _ =>
  cases t with
  | Name x _=>exact au R ok h
  | _=>cases h
 | If c a b _=>exact iQ R ok h
 | For tg iter body o _ =>
  cases o with
  | nil=>exact aj R ok h
  | cons _ _=>cases h
 | While c body o _ =>
  cases o with
  | nil=>exact iB R ok h
  | cons _ _=>cases h
 | Break _=>exact ao h
 | Continue _=>exact ak h
 | Raise _ _ _ =>
  cases h;intro pins s σ H D I q;obtain⟨g,m,P,r,R,k,res,e,q⟩:=q;cases e
 | _=>cases h
def UK(r:Rec)(C:Cf)(wZ:Option Gm)(Γ:Gm)(ss:List M4):Option CS:=match ss with
 | []=>some (Ua Γ)
 | [s]=>r.S C wZ Γ s
 | s::ss=>(r.S C wZ Γ s).bind fun x=>match x.Γ with
  | none=>some x
  | some Γ'=>(r.Ss C wZ Γ' ss).bind fun y=>some ⟨y.Γ,x.js++y.js,lH x.f y.f,x.er || y.er,x.eb || y.eb,x.ec || y.ec⟩
theorem RW(R:wm r){ss:List M4}(ok:wj C X)(h:UK r C wZ Γ ss=some c):EA X ss (tS X.K C.F wZ Γ c.Γ c.js c.f):=by
 match ss,h with
 | [],h=>cases h;exact jU
 | [s],h=>exact jT (R.S ok h)
 | s::s2::ss,h =>
  obtain⟨x,e1,h⟩:=wV (show(r.S C wZ Γ s).bind _=some c from h);have h1:=R.S ok e1;cases hx:x.Γ with
  | none =>
   simp only[hx] at h;cases h;rw[hx] at h1 ⊢;exact eF h1
  | some Γ' =>
   simp only[hx] at h;obtain⟨y,e2,h⟩:=wV h;cases h;rw[hx] at h1;exact eK (f:=x.f) (f2:=y.f) (js:=x.js) (js2:=y.js) h1 (R.Ss ok e2)
def step(r:Rec):Rec:=⟨bZ r,Lf r,bX r,UN r,bY r,UK r⟩
def comp:Nat->Rec
 | 0=>⟨fun _ _ _=>none,fun _ _ _ _=>none,fun _ _ _=>none,fun _ _ _ _=>none,fun _ _ _ _=>none,fun _ _ _ _=>none⟩
 | n+1=>step (comp n)
theorem Qt:∀n,wm (comp n)
 | 0=>⟨(fun _ h=>by cases h),(fun _ h=>by cases h),(fun _ h=>by cases h),(fun _ _ h=>by cases h),(fun _ h=>by cases h),(fun _ h=>by cases h),fun _ h=>by cases h⟩
 | n+1=>have R:=Qt n;⟨fun ok h=>UO R ok h,fun ok h=>UR R ok h,fun ok h=>UJ R ok h,fun tg ok h=>UM R tg ok h,fun ok h=>UL R ok h,fun ok h=>RW R ok h,fun ok h _ _ h0 hn=>RY R ok h h0 hn⟩
noncomputable def kS(sc:N1):List Str:=sc.names.filterMap fun p=>match p.2 with | .local=>some p.1 | .cell=>some p.1 | _=>none
mutual
noncomputable def Ad:Expr->List Str
 | .ListComp e gs sc _=>kS sc++Ad e++Vf gs
 | .BoolOp _ vs _=>Bh vs
 | .BinOp a _ b _=>Ad a++Ad b
 | .UnaryOp _ a _=>Ad a
 | .IfExp a b c _=>Ad a++Ad b++Ad c
 | .Compare a _ bs _=>Ad a++Bh bs
 | .Call f es _ _=>Ad f++Bh es
 | .Attribute a _ _=>Ad a
 | .Subscript a b _=>Ad a++Ad b
 | .Slice a b c _=>Hu a++Hu b++Hu c
 | .List es _=>Bh es
 | .Tuple es _ _=>Bh es
 | .Dict _ vs _=>Bh vs
 | .JoinedStr vs _=>Bh vs
 | .FormattedValue v _ _ _=>Ad v
 | _=>[]
noncomputable def Bh:List Expr->List Str
 | []=>[]
 | e::es=>Ad e++Bh es
noncomputable def Hu:Option Expr->List Str
 | none=>[]
 | some e=>Ad e
noncomputable def Vf:List X7->List Str
 | []=>[]
 | ⟨_,it,ifs,_⟩::gs=>Ad it++Bh ifs++Vf gs
end
mutual
noncomputable def gD:M4->List Str
 | .Return v _=>Hu v
 | .Assign ts v _=>Bh ts++Ad v
 | .AugAssign t _ v _=>Ad t++Ad v
 | .Expr v _=>Ad v
 | .If c a b _=>Ad c++EK a++EK b
 | .For _ it b _ _=>Ad it++EK b
 | .While c b _ _=>Ad c++EK b
 | .Raise e _ _=>Hu e
 | _=>[]
noncomputable def EK:List M4->List Str
 | []=>[]
 | s::ss=>gD s++EK ss
end
noncomputable def Ws:List Str->List Str->List Str
 | [],acc=>acc
 | x::xs,acc=>if acc.contains x then Ws xs acc else Ws xs (acc++[x])
def AD(st:M4):List Str:=(Ax st).args.map (·.arg)
def Bg(st:M4):List Str:=Ws (AD st++kS (AJ st)++EK (Ae st)) []
noncomputable def hd:(io:List Nat)->Jn Dv io->Dv
 | [],t=>t
 | _::_,t=>t.1
noncomputable def QT:(J:List Nat)->FW J->List Dv
 | [],_=>[]
 | [_],d=>[d]
 | _::j::J,t=>t.1::QT (j::J) t.2
def tl:(io:List Nat)->Jn Dv io->List Dv
 | [],_=>[]
 | i::io,t=>QT (i::io) t.2
theorem Jg:∀(J:List Nat) (m:M),QT J (Ak J m)=J.map m.at
 | [],_=>rfl
 | [_],_=>rfl
 | i::j::J,m=>by
  show m.at i::QT (j::J) (Ak (j::J) m)=_;rw[Jg (j::J) m];rfl
theorem cE(io:List Nat)(d:Dv)(m:M):hd io (bz io d m)=d:=by cases io<;>rfl
theorem bO(io:List Nat)(d:Dv)(m:M):tl io (bz io d m)=io.map m.at:=by
 cases io with
 | nil=>rfl
 | cons i io=>exact Jg (i::io) m
def Ai(ps:List Str)(io:List Nat)(ro:Nat)(nb:Bool)(F:List Dv->Option (Jn Dv io))(cl:Option Str:=none):w9 where
 ps:=ps
 io:=io
 ro:=ro
 nb:=nb
 fn:=fun ds=>(F ds).bind fun t=>some (hd io t,tl io t)
 cps:=fun R ds k=>(F ds).bind fun t=>k (hd io t) (tl io t)
 eq:=fun R ds k=>by cases F ds<;>rfl
 cl:=cl
def kJ(io:List Nat):Kt (Jn Dv io):=⟨fun m=>some (bz io .wa m),fun d m=>some (bz io d m),fun _=>none,fun _=>none⟩
structure Md:Type 1 where
 T:Tb
 cs:List (Str×Dv)
 bl:List Str
 fl:List Str
 rf:List Str
def lV(M:Md)(fs:List (Str×w9))(st:M4)(io:List Nat)(ro:Nat):Cf:=⟨Bg st,AJ st,fun _=>true,fs,M.cs,M.bl,M.T,⟨io,OD (Bg st).length io,ro⟩,M.fl,M.rf⟩
noncomputable def nS:Rec:=⟨fun _ _ _=>none,fun _ _ _ _=>none,fun _ _ _=>none,fun _ _ _ _=>none,fun _ _ _ _=>none,fun _ _ _ _=>none⟩
def cmp(n:Nat):Rec:=Nat.rec nS (fun _ r=>step r) n
theorem Wz:∀n,cmp n=comp n
 | 0=>rfl
 | n+1=>by
  show step (cmp n)=step (comp n);rw[Wz n]
def Yr(M:Md)(fs:List (Str×w9))(st:M4)(io:List Nat)(ro:Nat):Option CS:=(cmp 100).Ss (lV M fs st io ro) none (aJ (Bg st).length (AD st).length io) (Ae st)
def Uj(M:Md)(fs:List (Str×w9))(st:M4)(io:List Nat)(ro:Nat)(ds:List Dv):Option (Jn Dv io):=match Yr M fs st io ro with
 | some c=>c.f (Jn Dv io) (ds++D1 ((Bg st).length - (AD st).length) .wa) (kJ io)
 | none=>none
noncomputable def isFn:ScopeKind->Bool
 | .function=>true
 | _=>false
noncomputable def Zi:NameKind->Bool
 | .free=>false
 | _=>true
def Yp(N P:List Str)(sc:N1):Bool:=isFn sc.kind && !sc.isCoroutine && !sc.isGenerator && decide N.Nodup && (N.take P.length == P) && (P.all fun x=>match sc.names.lookup x with | some .local=>true | some .cell=>true | _=>false) && sc.names.all fun y=>Zi y.2
theorem Pt{N P:List Str}{sc:N1}(h:Yp N P sc=true):xx N P sc:=by
 unfold Yp at h;simp only[A5,N7,decide_eq_true_eq,E3] at h;obtain⟨⟨⟨⟨⟨⟨h1,h2⟩,h3⟩,h4⟩,h5⟩,h6⟩,h7⟩:=h;refine⟨?_,h2,h3,h4,by simpa using h5,fun x hx=>?_,fun y hy z=>?_⟩
 ·cases q:sc.kind<;>first | rfl | (rw[q] at h1;cases h1)
 ·have:=h6 x hx;split at this
  ·rename_i e;exact .inl e
  ·rename_i e;exact .inr e
  ·cases this
 ·have:=h7 y hy;rw[z] at this;cases this
def Gg(M:Md)(fs:List (Str×w9))(st:M4)(io:List Nat)(ro:Nat):Bool:=Yp (Bg st) (AD st) (AJ st) && decide io.Nodup && (io.all fun i=>decide (i < (AD st).length)) && decide ((AD st).length<=(Bg st).length) && match Yr M fs st io ro with
 | some c=>LR (some (OD (Bg st).length io)) c.Γ
 | none=>false
section
variable {P:E5} {w:G3} {K:W.Frag} {mg:Str->Option Value} {base:F7}
structure Bs (M:Md) (K:W.Frag) (mg:Str->Option Value):Prop where
 cs:∀x d,(x,d)∈M.cs->∃v u,mg x=some u/\RelV v u/\∀g H,Rep K g H 0 d v wX
 bl:∀x∈M.bl,mg x=none
def Fs(P:E5)(w:G3)(K:W.Frag)(mg:Str->Option Value)(base:F7)(fl:List Str)(k:Nat)(fs:List (Str×w9)):Prop:=∀x s,(x,s)∈fs->s.io.Nodup/\(∀i∈s.io,i < s.ps.length)/\∃j,j<=k/\Fz P w K mg base fl j x s
theorem Fs.nil{fl:List Str}{k:Nat}:Fs P w K mg base fl k []:=fun _ _ h=>by cases h
theorem Fs.zCd{fl:List Str}{k l:Nat}{x:Str}{s:w9}{fs:List (Str×w9)}(h:Fs P w K mg base fl k fs)(hl:k<=l)(h1:s.io.Nodup)(h2:∀i∈s.io,i < s.ps.length)(h3:Fz P w K mg base fl l x s):Fs P w K mg base fl l ((x,s)::fs):=fun y t q=>by
 rcases D0.mp q with q | q
 ·cases q;exact⟨h1,h2,l,B0 _,h3⟩
 ·obtain⟨a,b,j,hj,f⟩:=h y t q;exact⟨a,b,j,by omega,f⟩
theorem Fs.cons{fl:List Str}{k:Nat}{x:Str}{s:w9}{fs:List (Str×w9)}(h:Fs P w K mg base fl k fs)(h1:s.io.Nodup)(h2:∀i∈s.io,i < s.ps.length)(hc:s.cl=none)(h3:Fx P w K mg base (k+1) x s.ps (Te K s)):Fs P w K mg base fl (k+1) ((x,s)::fs):=h.zCd (U5 k) h1 h2 (by unfold Fz;rw[hc];exact h3)
theorem On{M:Md}{k:Nat}{fs:List (Str×w9)}{x qual:Str}{st:M4}{f:B5}{fd:R9}{io:List Nat}{ro:Nat}{nb:Bool}{cl:Option Str}{F:List Dv->Option (Jn Dv io)}(b:Bs M K mg)(h:Fs P w K mg base M.fl k fs)(c:Gg M fs st io ro=true)(hF:∀ds,ds.length=(AD st).length->Uj M fs st io ro ds=F ds)
    (Fn:Fun K x qual st f fd):xU P w K mg base RL (k+1) f fd (AD st) (Te K (Ai (AD st) io ro nb F cl)):=by
  unfold Gg at c;simp only[A5,decide_eq_true_eq,E3] at c;obtain⟨⟨⟨⟨c1,c2⟩,c3⟩,c4⟩,c5⟩:=c;cases e:Yr M fs st io ro with
  | none=>rw[e] at c5;cases c5
  | some cs =>
    rw[e] at c5;have S:=Pt c1;refine lE (s:=Ai (AD st) io ro nb F cl) (N:=Bg st) (body:=cs.f) (Γn:=cs.Γ) (js:=cs.js) Fn S c2 c3 c4 c5 (fun xB A outer s' H E hr=>?_) fun ds d bs hl hf=>?_
    · have ok:wj (lV M fs st io ro) (Mj RL P w K mg base (Bg st) qual (AJ st) f xB A outer s' H E).nox:=⟨rfl,rfl,S.nd,rfl,fun _ _=>rfl,⟨rfl,k,hr⟩,fun y t q=>by
        obtain⟨a,b,j,hj,q⟩:=h y t q;exact⟨a,b,j,k,hj,hr,q⟩,b.cs,b.bl,rfl⟩
      unfold Yr at e;rw[Wz] at e;exact(Qt 100).Ss ok e
    · have hr:=hF ds hl;unfold Uj at hr;rw[e] at hr;obtain⟨t,e1,e2⟩:=wV (show(F ds).bind _=some (d,bs) from hf);cases e2;refine⟨_,kJ io,t,hr.trans e1,fun m z=>?_,fun d' m z=>?_⟩
      · have z:some (bz io .wa m)=some t:=z;cases z;exact⟨cE io _ m,bO io _ m⟩
      · have z:some (bz io d' m)=some t:=z;cases z;exact⟨cE io _ m,bO io _ m⟩
abbrev NP(x q:Str)(st:M4):Prop:=∀(kV doc pm:Value) (an:Option B5) (xB ct:Value) (us:List Value),us.length=(AD st).length->qo (W.fnOf x q (Ax st) (Ae st) (AJ st) .none kV doc pm an xB ct) ⟨us,[]⟩=pure ((AD st).zip us)
abbrev BQ(x:Str)(st:M4):Prop:=NP x x st
theorem GS{M:Md}{fs:List (Str×w9)}{st:M4}{io:List Nat}{ro:Nat}(c:Gg M fs st io ro=true):io.Nodup/\∀i∈io,i < (AD st).length:=by
 unfold Gg at c;simp only[A5,decide_eq_true_eq,E3] at c;exact⟨c.1.1.1.2,c.1.1.2⟩
theorem Fs.def{M:Md}{k:Nat}{fs:List (Str×w9)}{x:Str}{st:M4}{io:List Nat}{ro:Nat}{nb:Bool}{F:List Dv->Option (Jn Dv io)}(h:Fs P w K mg base M.fl k fs)(b:Bs M K mg)(c:Gg M fs st io ro=true)(hF:∀ds,ds.length=(AD st).length->Uj M fs st io ro ds=F ds)
    (gf:GF K x st) (hm:mg x=some (.ref (Ku K x))) (hb:BQ x st):Fs P w K mg base M.fl (k+1) ((x,Ai (AD st) io ro nb F)::fs):=
  h.cons (GS c).1 (GS c).2 rfl ⟨_,_,On b h c hF (Ob gf),hm,gf.2.2.2,(Ob gf).binds hb⟩
theorem Fs.zBv{M:Md}{k:Nat}{fs:List (Str×w9)}{x:Str}{st:M4}{io:List Nat}{ro:Nat}{nb:Bool}{F:Nat->List Dv->Option (Jn Dv io)}(h:Fs P w K mg base M.fl k fs)(b:Bs M K mg)(c0:Yp (Bg st) (AD st) (AJ st)=true)(h0:∀ds,F 0 ds=none)(c:∀n,Gg M ((x,Ai (AD st) io ro nb (F n))::fs) st io ro=true)
    (hF:∀n ds,ds.length=(AD st).length->Uj M ((x,Ai (AD st) io ro nb (F n))::fs) st io ro ds=F (n+1) ds)
    (gf:GF K x st) (hm:mg x=some (.ref (Ku K x))) (hb:BQ x st):∀n,Fs P w K mg base M.fl (k+n+1) ((x,Ai (AD st) io ro nb (F n))::fs)
  | 0=>h.cons (GS (c 0)).1 (GS (c 0)).2 rfl ⟨_,_,(Ob gf).ok (k:=k) (Pt c0) (fun vs H Q E q=>by
      obtain⟨g,ds,P,r,d,bs,e,q⟩:=q;have e:(F 0 ds).bind _=some (d,bs):=e;rw[h0 ds] at e;cases e) (fun xB A outer s H vs Q E _ q=>by
      obtain⟨g,ds,P,r,d,bs,e,q⟩:=q;have e:(F 0 ds).bind _=some (d,bs):=e;rw[h0 ds] at e;cases e),hm,gf.2.2.2,(Ob gf).binds hb⟩
  | n+1=>by
    have ih:=Fs.zBv h b c0 h0 c hF gf hm hb n;have hh:Fs P w K mg base M.fl (k+n+1) fs:=fun y t q=>ih y t (B1 _ q)
    exact hh.cons (GS (c 0)).1 (GS (c 0)).2 rfl ⟨_,_,On b ih (c n) (hF n) (Ob gf),hm,gf.2.2.2,(Ob gf).binds hb⟩
noncomputable def pd(K:W.Frag)(C:B5)(f:Str):Bool:=match W.findIn K (.ref C) f with
 | some none=>true
 | _=>false
theorem mJ{x q:Str}{st:M4}(hn:(AD st).length=1)(h:∀(kV doc pm:Value) (an:Option B5) (xB ct:Value) (a:Value),qo (W.fnOf x q (Ax st) (Ae st) (AJ st) .none kV doc pm an xB ct) ⟨[a],[]⟩=pure ((AD st).zip [a])):NP x q st:=fun kV doc pm an xB ct us hl=>by
 rw[hn] at hl
 match us,hl with | [a],_=>exact h kV doc pm an xB ct a
theorem TR{x q:Str}{st:M4}(hn:(AD st).length=2)(h:∀(kV doc pm:Value) (an:Option B5) (xB ct:Value) (a b:Value),qo (W.fnOf x q (Ax st) (Ae st) (AJ st) .none kV doc pm an xB ct) ⟨[a,b],[]⟩=pure ((AD st).zip [a,b])):NP x q st:=fun kV doc pm an xB ct us hl=>by
 rw[hn] at hl
 match us,hl with | [a,b],_=>exact h kV doc pm an xB ct a b
theorem NH{x q:Str}{st:M4}(hn:(AD st).length=3)(h:∀(kV doc pm:Value) (an:Option B5) (xB ct:Value) (a b c:Value),qo (W.fnOf x q (Ax st) (Ae st) (AJ st) .none kV doc pm an xB ct) ⟨[a,b,c],[]⟩=pure ((AD st).zip [a,b,c])):NP x q st:=fun kV doc pm an xB ct us hl=>by
 rw[hn] at hl
 match us,hl with | [a,b,c],_=>exact h kV doc pm an xB ct a b c
theorem mI{x q:Str}{st:M4}(hn:(AD st).length=4)(h:∀(kV doc pm:Value) (an:Option B5) (xB ct:Value) (a b c d:Value),qo (W.fnOf x q (Ax st) (Ae st) (AJ st) .none kV doc pm an xB ct) ⟨[a,b,c,d],[]⟩=pure ((AD st).zip [a,b,c,d])):NP x q st:=fun kV doc pm an xB ct us hl=>by
 rw[hn] at hl
 match us,hl with | [a,b,c,d],_=>exact h kV doc pm an xB ct a b c d
noncomputable def ON(K:W.Frag)(x:Str):Bool:=match W.nsIn K L6 x with | some none=>true | _=>false
theorem mH{M:Md}{h:F7}(X:K.In h)(G:h.Ns L6 mg)(hc:M.cs=[])(hz:M.bl.all (ON K)=true):Bs M K mg:=⟨(fun x d q=>by rw[hc] at q;cases q),fun x hx=>by
 have:=(E3.mp hz) x hx;unfold ON at this;split at this
 ·rename_i e;exact W.mg_none_of X G e
 ·cases this⟩
noncomputable def Kr{α:Type}(f:Dv->Dv->Dv->Dv->Option α)(ds:List Dv):Option α:=match ds with | [a,b,c,d]=>f a b c d | _=>none
noncomputable def Ci{α:Type}(f:Dv->Dv->Dv->Option α)(ds:List Dv):Option α:=match ds with | [a,b,c]=>f a b c | _=>none
theorem jD{α:Type}:∀ds,Ci (fun _ _ _=>(none:Option α)) ds=none
 | []=>rfl | [_]=>rfl | [_,_]=>rfl | [_,_,_]=>rfl | _::_::_::_::_=>rfl
theorem lD{α:Type}:∀ds,Kr (fun _ _ _ _=>(none:Option α)) ds=none
 | []=>rfl | [_]=>rfl | [_,_]=>rfl | [_,_,_]=>rfl | [_,_,_,_]=>rfl | _::_::_::_::_::_=>rfl
abbrev LQ(M:Md)(fs:List (Str×w9))(st:M4)(io:List Nat)(ro:Nat)(f:List Dv->Option (Jn Dv io)):Prop:=∀ds,ds.length=(AD st).length->Uj M fs st io ro ds=f ds
theorem oH{α:Type}{G:List Dv->Option α}{f:Dv->Option α}{n:Nat}(hn:n=1)(h:∀a,G [a]=f a):∀ds,ds.length=n->G ds=one f ds:=fun ds hl=>by
 subst hn
 match ds,hl with | [a],_=>exact h a
theorem iu{α:Type}{G:List Dv->Option α}{f:Dv->Dv->Option α}{n:Nat}(hn:n=2)(h:∀a b,G [a,b]=f a b):∀ds,ds.length=n->G ds=two f ds:=fun ds hl=>by
 subst hn
 match ds,hl with | [a,b],_=>exact h a b
theorem cx{α:Type}{G:List Dv->Option α}{f:Dv->Dv->Dv->Option α}{n:Nat}(hn:n=3)(h:∀a b c,G [a,b,c]=f a b c):∀ds,ds.length=n->G ds=Ci f ds:=fun ds hl=>by
 subst hn
 match ds,hl with | [a,b,c],_=>exact h a b c
theorem pM{α:Type}{G:List Dv->Option α}{f:Dv->Dv->Dv->Dv->Option α}{n:Nat}(hn:n=4)(h:∀a b c d,G [a,b,c,d]=f a b c d):∀ds,ds.length=n->G ds=Kr f ds:=fun ds hl=>by
 subst hn
 match ds,hl with | [a,b,c,d],_=>exact h a b c d
def Ph(K:W.Frag):Sp:=fun vs H Q _=>∃(a:B5) (ns:List Int),vs=[.ref a]/\Ca K H a (ns.map V.int)/\ns.length<=63/\bK H/\∀H',Q (.bl true) H'
theorem gJ{k:Nat}{f:B5}{fd:R9}{ps:List Str}{nb:Bool}{F:List Dv->Option Dv}(hp:ps.length=1)(h0:xU P w K mg base RL k f fd ps (Te K (Ai ps [] 1 nb F)))(h:∀ns:List Int,ns.length<=63->F [.xQ ns]=some (.bl true)):xU P w K mg base RL k f fd ps (Ph K):=h0.imp fun vs H Q E q=>by
 obtain⟨a,ns,rfl,hS,hn,hO,q⟩:=q;have hs:nA K H a ns:=by
  rcases hS with(h1 | h1) | h1
  ·rcases hO a with z | ⟨o,xs,z⟩
   ·rw[h1] at z;cases z
   ·rw[h1] at z;cases z
  ·exact .inl h1
  ·exact .inr h1
 refine⟨⟨fun _=>False,[]⟩,[.xQ ns],wX,?_,.bl true,[],by show(F [.xQ ns]).bind _=_;rw[h ns hn];rfl,fun g' H' v Pv Pb _ rv _ _=>by rw[Cj rv];exact q H'⟩;show Rel K _ H (Ti ps.length []) _ _ _;rw[hp];refine⟨?_,fun _=>wX,⟨rfl,rfl,fun i o e=>?_,fun i e a z=>z,fun i j n a z=>z.elim⟩,fun a=>⟨fun z=>z.elim,fun⟨i,z⟩=>z⟩⟩
 ·exact fun _ z=>z.elim
 ·match i,e with
  | 0,e=>cases e;exact⟨_,_,rfl,rfl,by unfold Rep;exact⟨⟨a,rfl,hs⟩,fun _ z=>z⟩⟩
end
end R
namespace L4
open PySem PySem.Spec PyProof.Rows L2 Builtin
theorem GE:fillsNumberSlot (.type "tuple") "mul" = pure false:=
 PySem.fillsNumberSlot_seq (id := "tuple.__mul__") (r:=some (.builtin "tuple.__rmul__")) F.slot_tuple_mul.lookup (by decide +kernel) F.slot_tuple_rmul.lookup (by decide +kernel)
theorem Kc:seqRepeat? (.type "tuple")=pure (some (.builtin "tuple.__mul__")):=by
 unfold seqRepeat?
 rw[uf (T := "tuple") (name := "__mul__") (id := "tuple.__mul__") F.slot_tuple_mul.lookup (by decide +kernel),uf (T := "tuple") (name := "__rmul__") (id := "tuple.__rmul__") F.slot_tuple_rmul.lookup (by decide +kernel)]
 rfl
theorem IF(a:Int)(t:Tok)(l:B5)(items:Array Value)(n:Nat) :
    Meets (M8.«int.__rmul__» ⟨[.int a t,.ref l],[]⟩) (fun _ R s=>(∃o,s.heap.get? l=some o/\o.cls=.type "tuple" /\ o.data=.seq items n)/\R (.ok (.ret Value.notImplemented)) s):=
  .of_wp fun prog w A R s h=>by
    obtain⟨hp,g,d,tk,os⟩:=s;obtain⟨⟨⟨c,dd,dat,sl⟩,hl,hc,hd⟩,h⟩:=h;simp only at hc hd;subst hc;subst hd
    wp_walk;exact⟨_,rfl,h⟩
theorem HK(l:B5)(items:Array Value)(n:Nat)(x:Int)(u:Tok)(h1:1 < x)(h2:x < 2 ^ 63)(hz:items.size * x.toNat<=1000000)(xW:items.isEmpty=false) :
    Meets (M8.«tuple.__mul__» ⟨[.ref l,.int x u],[]⟩) (fun _ R s=>(∃o,s.heap.get? l=some o/\o.cls=.type "tuple" /\ o.data=.seq items n)/\R (.ok (.ret (E2 s.heap.objs.size))) { s with heap:=s.heap.push { cls:=G2 "tuple", data:=wF ((D1 x.toNat items).foldl (·++·) #[]) },toks:=s.toks }):=
  .of_wp fun prog w A R s h=>by
    obtain⟨hp,g,d,tk,os⟩:=s;obtain⟨⟨⟨c,dd,dat,sl⟩,hl,hc,hd⟩,h⟩:=h;simp only at hc hd;subst hc;subst hd;have hz':(items.size:Int) * x<=1000000:=by
      have e:x=(x.toNat:Int):=by omega
      rw[e,<- Int.natCast_mul];omega
    wp_walk
    refine V4 (by simp;omega) ?_
    wp_walk
    refine V4 (by rw[xW];simp;omega) ?_
    wp_walk
    refine V4 (by rw[xW];simp;omega) ?_
    wp_walk
    refine V4 (decide_eq_false (by have:((2:Int) ^ 63 - 1) / 8 > 1000000:=(by decide);omega)) ?_
    wp_walk
    refine V4 (decide_eq_false (by unfold Tuple.tupleTooMany;rw[decide_eq_true_eq,K0];omega)) ?_
    wp_walk
    refine V4 (decide_eq_false (by rw[AutoListH.size_joined,K0];simp only[Array.size_empty];have:=tj items.size x.toNat;omega)) ?_
    wp_walk
    exact⟨_,rfl,h⟩
theorem HJ(l:B5)(items:Array Value)(n:Nat)(u:Tok)(xW:items.isEmpty=false) :
    Meets (M8.«tuple.__mul__» ⟨[.ref l,.int 0 u],[]⟩) (fun _ R s=>(∃o,s.heap.get? l=some o/\o.cls=.type "tuple" /\ o.data=.seq items n)/\R (.ok (.ret (E2 s.heap.objs.size))) { s with heap:=s.heap.push { cls:=G2 "tuple", data:=wF #[] },toks:=s.toks }):=
  .of_wp fun prog w A R s h=>by
    obtain⟨hp,g,d,tk,os⟩:=s;obtain⟨⟨⟨c,dd,dat,sl⟩,hl,hc,hd⟩,h⟩:=h;simp only at hc hd;subst hc;subst hd
    wp_walk
    exact⟨_,rfl,h⟩
theorem Ip(l:B5)(items:Array Value)(n:Nat)(u:Tok) :
    Meets (M8.«tuple.__mul__» ⟨[.ref l,.int 1 u],[]⟩) (fun _ R s=>(∃o,s.heap.get? l=some o/\o.cls=.type "tuple" /\ o.data=.seq items n)/\R (.ok (.ret (E2 l))) s):=
  .of_wp fun prog w A R s h=>by
    obtain⟨hp,g,d,tk,os⟩:=s;obtain⟨⟨⟨c,dd,dat,sl⟩,hl,hc,hd⟩,h⟩:=h;simp only at hc hd;subst hc;subst hd
    wp_walk
    exact⟨_,rfl,h⟩
def zBO:R2:=fun x y H Q=>∃l k xs,x=.ref l/\y=.int k/\H l=some (.tup xs)/\xs≠[]/\0<=k/\k < 2 ^ 63/\xs.length * k.toNat<=1000000/\(k=1->Q (.ref l) H) /\
 (k≠1->∀p,H p=none->Q (.ref p) (upd H p (.tup (D1 k.toNat xs).flatten)))
theorem zAz{X:Cx}:CY X (N3 .Mult) zBO:=by
 intro pins s σ H x y v u Q I rx ry h;obtain⟨l,k,xs,rfl,rfl,hH,xW,h1,h2,hz,q1,q2⟩:=h;cases rx;obtain⟨t,rfl⟩:=ry;obtain⟨its,r,⟨o,e,c,n,dt⟩,_⟩:=I.tuple (show DL X.K H l xs from .inl (.inl hH));have hl:its.length=xs.length:=r.length.symm
 have ho:∃o,s.heap.get? l=some o/\o.cls=.type "tuple" /\ o.data=.seq its.toArray n:=⟨o,e,c,dt⟩
 have em:its.toArray.isEmpty=false:=by
  cases its with
  | nil=>cases xs with
   | nil=>exact absurd rfl xW
   | cons _ _=>simp at hl
  | cons _ _=>rfl
 refine qQ (T := "tuple") (U := "int") (by decide) ⟨_,e,c⟩ (fun s'=>rF s' k t) GE F.fills_int_mul F.slot_int_rmul Kc F.slot_int_index.lookup
  (call_meets F.slot_int_rmul (rF s k t) F.entry_int_rmul (F.args_int_rmul_2 _ _) (IF k t l its.toArray n)
   ⟨ho,rfl,⟨_,e,c⟩,?_⟩)
 by_cases hk:k=1
 ·subst hk;exact call_meets F.slot_tuple_mul ⟨_,e,c⟩ F.entry_tuple_mul (F.args_tuple_mul_2 _ _) (Ip l its.toArray n t) ⟨ho,.ref l,H,I,rfl,q1 rfl⟩
 ·by_cases h0:k=0
  ·subst h0;exact call_meets F.slot_tuple_mul ⟨_,e,c⟩ F.entry_tuple_mul (F.args_tuple_mul_2 _ _) (HJ l its.toArray n t em) ⟨ho,.ref _,_,I.laid (t':=s.toks) (fun _ _ q=>A2 _ q) (B0 _) (o:=.tup (D1 (W9 0) xs).flatten) ⟨E7 _,[],.nil,Gi.new _ _⟩,rfl,q2 hk _ I.fresh⟩
  refine call_meets F.slot_tuple_mul ⟨_,e,c⟩ F.entry_tuple_mul (F.args_tuple_mul_2 _ _) (HK l its.toArray n k t (by omega) h2 (by rw[A7,hl];exact hz) em) ⟨ho,?_⟩;have f0:sk (fun x1 x2=>x1++x2) #[] (D1 k.toNat its.toArray)=(D1 k.toNat its).flatten.toArray:=by
   have:=foldl_rep its k.toNat [];rw[Y0] at this;exact this
  rw[f0];refine⟨.ref _,_,I.laid (t':=s.toks) (fun _ _ q=>A2 _ q) (B0 _) (o:=.tup (D1 k.toNat xs).flatten) ⟨?_,_,r.rep k.toNat,Gi.new _ _⟩,rfl,q2 hk _ I.fresh⟩;rw[len_rep,tj];exact B9 hz (by decide)
end L4
namespace R
open PySem L2
variable {vs:List V} {d:Dv} {o:Nat} {v:V} {P:Fp} {xs:List Dv} {α:Type}
section
variable {K:W.Frag} {g:G} {H:Hp}
theorem RA.nil(h:RA K g H [] vs):vs=[]:=by unfold RA at h;exact h
theorem RA.cons{ds:List Dv}(h:RA K g H (d::ds) vs):∃v r o P,vs=v::r/\o<=1/\Rep K g H o d v P/\RA K g H ds r:=by unfold RA at h;exact h
theorem RA.one(h:RA K g H [d] vs):∃v o P,vs=[v]/\o<=1/\Rep K g H o d v P:=by
 obtain⟨v,r,o,P,rfl,ho,h1,h2⟩:=h.cons;cases h2.nil;exact⟨v,o,P,rfl,ho,h1⟩
theorem RA.two{e:Dv}(h:RA K g H [d,e] vs):∃v o P w u R,vs=[v,w]/\o<=1/\Rep K g H o d v P/\u<=1/\Rep K g H u e w R:=by
 obtain⟨v,r,o,P,rfl,ho,h1,h2⟩:=h.cons;obtain⟨w,u,R,rfl,hu,h3⟩:=h2.one;exact⟨v,o,P,w,u,R,rfl,ho,h1,hu,h3⟩
theorem BA{l:List Nat}(h:Rep K g H o (.str l) v P):v=.str (tx l):=by unfold Rep at h;exact h.1
theorem FB(h:Rep K g H o .wa v P):v=.wa:=by unfold Rep at h;exact h.1
theorem DS(ho:o<=1)(h:Rep K g H o (.lst xs) v P):∃a us,v=.ref a/\Ca K H a us/\AA K g H 0 xs us wX/\H a=some (.lst us):=by
 unfold Rep at h;obtain⟨a,us,P',rfl,h1,h2,_⟩:=h;rw[g7 ho] at h2;exact⟨a,us,rfl,.inl (.inl h1.1),h2.z,h1.1⟩
theorem EY(ho:o<=1)(h:Rep K g H o (.tup xs) v P):∃a us,v=.ref a/\DL K H a us/\AA K g H 0 xs us wX/\H a=some (.tup us):=by
 unfold Rep at h;obtain⟨a,us,rfl,h1,h2⟩:=h;rw[g7 ho] at h2;exact⟨a,us,rfl,.inl (.inl h1),h2.z,h1⟩
theorem Ll{ns:List Int}(h:Rep K g H o (.xQ ns) v P):∃a,v=.ref a/\Ca K H a (ns.map V.int):=by
 unfold Rep at h;obtain⟨⟨a,rfl,h1⟩,_⟩:=h;exact⟨a,rfl,h1.sq⟩
theorem EG(ho:o<=1){a:B5}{us:List V}(h1:H a=some (.tup us))(h2:AA K g H 0 xs us wX):Rep K g H o (.tup xs) (.ref a) wX:=by
 unfold Rep;rw[g7 ho];exact⟨a,us,rfl,h1,h2⟩
theorem Ac.int(i:Int):Ac K g H o (.int i) (.int i) H:=Ac.old Be
theorem Ac.bl(b:Bool):Ac K g H o (.bl b) (.bl b) H:=Ac.old DF
theorem Ac.str(l:List Nat):Ac K g H o (.str l) (.str (tx l)) H:=Ac.old (by unfold Rep;exact⟨rfl,fun _ z=>z⟩)
theorem Ac.tup(ho:o<=1){p:B5}(hp:H p=none)(h:AA K g H 0 xs vs wX):Ac K g H o (.tup xs) (.ref p) (upd H p (.tup vs)):=
 have sm:=CM hp (.tup vs)
 ⟨sm,wX,EG ho AF (h.held (Step.same (g:=g) (P:=wX) sm) we.wX fun _ z=>z.elim),fun _ z=>z.elim⟩
theorem GA{xs:List Dv}{vs:List V}(h:AA K g H 0 xs vs wX):∀n,AA K g H 0 (D1 n xs).flatten (D1 n vs).flatten wX
 | 0=>by simpa using AA.nil
 | n+1=>by
  rw[N8,N8,T1,T1];exact BO h (GA h n)
theorem OG(n:Nat)(h:AA K g H 0 xs vs wX):AA K g H 0 (xs.drop n) (vs.drop n) wX:=by
 have h0:=Dn.mp h;exact Dn.mpr ⟨by simp[h0.1],fun i d v e1 e2=>h0.2 (n+i) d v (by simpa using e1) (by simpa using e2)⟩
theorem OE(n:Nat)(h:AA K g H 0 xs vs wX):AA K g H 0 (xs.take n) (vs.take n) wX:=by
 have h0:=Dn.mp h;refine Dn.mpr ⟨by simp[h0.1],fun i d v e1 e2=>?_⟩;rw[tG] at e1 e2;split at e1
 ·rename_i hi;rw[if_pos hi] at e2;exact h0.2 i d v e1 e2
 ·cases e1
theorem DP(ns:List Int):AA K g H 0 (ns.map .int) (ns.map V.int) wX:=Dn.mpr ⟨by simp,fun i d v e1 e2=>by
 rw[C5] at e1 e2;cases q:ns[i]? with
 | none=>rw[q] at e1;cases e1
 | some k=>rw[q] at e1 e2;cases e1;cases e2;exact Be⟩
def DV(xs:List α)(lo hi:Option Int):List α:=(xs.drop (HT.wk xs.length 0 lo)).take (HT.wk xs.length xs.length hi - HT.wk xs.length 0 lo)
theorem Zr{β:Type}(f:α->β)(xs:List α)(lo hi:Option Int):(DV xs lo hi).map f=DV (xs.map f) lo hi:=by
 unfold DV;rw[List.map_take,List.map_drop,A8]
theorem bG{β:Type}{f:α->β}{xs:List α}{i:Int}:Gc (xs.map f) i=(Gc xs i).map f:=by
 unfold Gc;rw[A8];cases Tj xs.length i with
 | none=>rfl
 | some j=>show(xs.map f)[j]?=_;rw[C5];rfl
theorem GB(lo hi:Option Int)(h:AA K g H 0 xs vs wX):AA K g H 0 (DV xs lo hi) (FO vs lo hi) wX:=by
 unfold DV FO;rw[h.len];exact OE _ (OG _ h)
theorem Ln{i:Int}(h:AA K g H 0 xs vs wX)(e:Gc xs i=some d):∃v,Gc vs i=some v/\Rep K g H 0 d v wX:=by
 unfold Gc at e ⊢;rw[h.len] at e;cases q:Tj vs.length i with
 | none=>rw[q] at e;cases e
 | some j =>
  rw[q] at e;obtain⟨v,R,e1,e2,_⟩:=h.get e;exact⟨v,e1,e2.z⟩
noncomputable def Bo(C:Int->Int->Bool)(f:Int->Int->Int)(x y:Dv):Option Dv:=match x,y with | .int i,.int j=>if C i j=true then some (.int (f i j)) else none | _,_=>none
noncomputable def Dx(f:Int->Int->Bool)(x y:Dv):Option Bool:=match x,y with | .int i,.int j=>some (f i j) | _,_=>none
abbrev PM:=Bo (fun _ _=>true) fun i j=>i - j
abbrev Ct:=Bo (fun _ j=>decide (0 < j)) fun i j=>i % j
abbrev Xy:=Bo (fun _ j=>decide (0 < j) && decide (j < 1073741824)) fun i j=>i / j
abbrev iY:=Bo (fun i j=>decide (0<=j) && decide (j<=1000000) && decide (i.natAbs < 2 ^ 64)) fun i j=>i ^ j.toNat
abbrev iy:=Dx fun i j=>decide (j < i)
abbrev pN:=Dx fun i j=>decide (j<=i)
theorem El{f:Dv->Dv->Option α}{ds:List Dv}{a:α}(h:two f ds=some a):∃x y,ds=[x,y]/\f x y=some a:=by
 unfold two at h;split at h
 ·exact⟨_,_,rfl,h⟩
 ·cases h
theorem Hn{f:Dv->Dv->Option Dv}{r:R2}(h:∀g H x y v w o1 o2 P R d Q,Zd g H->o1<=1->Rep K g H o1 x v P->o2<=1->Rep K g H o2 y w R->f x y=some d->(∀v H',Ac K g H o d v H'->Q v H')->r v w H Q):AK K (two f) o (NT r):=fun g H ds vs d Q zd ra e k=>by
 obtain⟨x,y,rfl,e⟩:=El e;obtain⟨v,o1,P,w,o2,R,rfl,h1,h2,h3,h4⟩:=ra.two;exact h g H x y v w o1 o2 P R d Q zd h1 h2 h3 h4 e k
theorem Gw{f:Dv->Dv->Option Bool}{r:R2}(h:∀g H x y v w o1 o2 P R b (Q:VK),Zd g H->o1<=1->Rep K g H o1 x v P->o2<=1->Rep K g H o2 y w R->f x y=some b->Q (.bl b) H->r v w H Q):AK K (fun ds=>(two f ds).map .bl) 0 (NT r):=fun g H ds vs d Q zd ra e k=>by
 have e:(two f ds).map Dv.bl=some d:=e;cases q:two f ds with
 | none=>rw[q] at e;cases e
 | some b =>
  rw[q] at e;cases e;obtain⟨x,y,rfl,e2⟩:=El q;obtain⟨v,o1,P,w,o2,R,rfl,h1,h2,h3,h4⟩:=ra.two;exact h g H x y v w o1 o2 P R b Q zd h1 h2 h3 h4 e2 (k _ _ (Ac.bl _))
theorem FD{C:Int->Int->Bool}{C':Int->Int->Prop}{f:Int->Int->Int}(hc:∀i j,C i j=true->C' i j):AK K (two (Bo C f)) o (NT (rI C' fun i j=>.int (f i j))):=Hn fun g H x y v w o1 o2 P R d Q zd _ h1 _ h2 e k=>by
 unfold Bo at e;split at e
 ·split at e
  ·rename_i c;cases e;rw[AI h1,AI h2];exact⟨_,_,rfl,rfl,hc _ _ c,k _ _ (Ac.int _)⟩
  ·cases e
 ·cases e
theorem QG{f:Int->Int->Int}:AK K (two (Bo (fun _ _=>true) f)) o (NT (Ut fun i j=>.int (f i j))):=Hn fun g H x y v w o1 o2 P R d Q zd _ h1 _ h2 e k=>by
 unfold Bo at e;split at e
 ·cases e;rw[AI h1,AI h2];exact⟨_,_,rfl,rfl,k _ _ (Ac.int _)⟩
 ·cases e
theorem Ke{f:Int->Int->Bool}:AK K (fun ds=>(two (Dx f) ds).map .bl) 0 (NT (Ut fun i j=>.bl (f i j))):=Gw fun g H x y v w o1 o2 P R b Q zd _ h1 _ h2 e k=>by
 unfold Dx at e;split at e
 ·cases e;rw[AI h1,AI h2];exact⟨_,_,rfl,rfl,k⟩
 ·cases e
noncomputable def Az(x y:Dv):Option Dv:=match x,y with
 | .int i,.int j=>some (.int (i+j))
 | .str a,.str b=>if a.length+b.length<=1000000 then some (.str (a++b)) else none
 | .lst xs,.lst ys=>if xs.length+ys.length<=1000000 then some (.lst (xs++ys)) else none
 | .tup xs,.tup ys=>if xs.length+ys.length<=1000000 then some (.tup (xs++ys)) else none
 | _,_=>none
theorem fD:AK K (two Az) 1 (NT (Lu K)):=Hn fun g H x y v w o1 o2 P R d Q zd l1 h1 l2 h2 e k=>by
 unfold Az at e;split at e
 ·cases e;rw[AI h1,AI h2];exact Xt (k _ _ (Ac.int _))
 ·split at e
  ·rename_i hl;cases e;rw[BA h1,BA h2];refine Xr (by rw[Bz,Bz];exact hl) ?_;rw[NY];exact k _ _ (Ac.str _)
  ·cases e
 ·split at e
  ·rename_i hl;cases e;obtain⟨a,us,rfl,_,hx,ha⟩:=DS l1 h1;obtain⟨b,ws,rfl,_,hy,hb⟩:=DS l2 h2;exact Xs ha hb (by rw[<- hx.len,<- hy.len];exact hl) fun p hp=>k _ _ (Ac.lst zd (BO hx hy) hp)
  ·cases e
 ·split at e
  ·rename_i hl;cases e;obtain⟨a,us,rfl,ha,hx,zK⟩:=EY l1 h1;obtain⟨b,ws,rfl,hb,hy,hb'⟩:=EY l2 h2;have al:=BO hx hy
   by_cases hu:us=[]
   ·subst hu;exact .inr ⟨a,b,ws,rfl,rfl,ha,hb,k _ _ (Ac.old (EG (B0 1) hb' al))⟩
   ·refine .inl (.inr (.inr (.inr ⟨a,b,us,ws,rfl,rfl,ha,hb,hu,by rw[<- hx.len,<- hy.len];exact B9 hl (by decide),fun hw=>?_,fun _ p hp=>k _ _ (Ac.tup (B0 1) hp al)⟩)));subst hw;rw[M0] at al;exact k _ _ (Ac.old (EG (B0 1) zK al))
  ·cases e
 ·cases e
noncomputable def big(i:Int):Bool:=decide (-(2 ^ 64) < i) && decide (i < 2 ^ 64)
def Cs(x y:Dv):Option Dv:=match x,y with
 | .int i,.int j=>if(big i || big j)=true then some (.int (i * j)) else none
 | .lst xs,.int k=>if xs.length * k.toNat<=1000000/\k < 1000000/\-1000000 < k then some (.lst (D1 k.toNat xs).flatten) else none
 | .tup xs,.int k=>if xs≠[]/\0<=k/\k < 1000000/\xs.length * k.toNat<=1000000 then some (.tup (D1 k.toNat xs).flatten) else none
 | _,_=>none
theorem eh:AK K (two Cs) 1 (NT (fun x y H Q=>(rI bM fun i j=>.int (i * j)) x y H Q\/ju x y H Q\/L4.zBO x y H Q)):=Hn fun g H x y v w o1 o2 P R d Q zd l1 h1 l2 h2 e k=>by
 unfold Cs at e;split at e
 ·split at e
  ·rename_i c;cases e;rw[AI h1,AI h2];refine .inl ⟨_,_,rfl,rfl,?_,k _ _ (Ac.int _)⟩;rw[m6] at c;unfold big at c;rw[A5,A5,decide_eq_true_eq,decide_eq_true_eq,decide_eq_true_eq,decide_eq_true_eq] at c;exact c
  ·cases e
 ·split at e
  ·rename_i hl;cases e;obtain⟨a,us,rfl,ha,hx,zK⟩:=DS l1 h1;rw[AI h2];exact .inr (.inl ⟨a,_,us,rfl,rfl,zK,by omega,by omega,by rw[<- hx.len];exact B9 hl.1 (by decide),fun p hp=>k _ _ (Ac.lst zd (GA hx _) hp)⟩)
  ·cases e
 ·split at e
  ·rename_i hl;cases e;obtain⟨a,us,rfl,ha,hx,zK⟩:=EY l1 h1;rw[AI h2];refine .inr (.inr ⟨a,_,us,rfl,rfl,zK,?_,hl.2.1,by omega,by rw[<- hx.len];exact hl.2.2.2,fun z=>?_,fun _ p hp=>k _ _ (Ac.tup (B0 1) hp (GA hx _))⟩)
   ·intro z;have:=hx.len;rw[z] at this;exact hl.1 (F8 this)
   ·subst z;have:∀(l:List Dv),(D1 (W9 1) l).flatten=l:=fun l=>by simp
    rw[this] at k;exact k _ _ (Ac.old (EG (B0 1) zK hx))
  ·cases e
 ·cases e
noncomputable def BC(x:Dv):Option Dv:=match x with
 | .str l=>if l.length<=1000000 then some (.int l.length) else none
 | .lst xs=>some (.int xs.length)
 | .tup xs=>some (.int xs.length)
 | .xQ ns=>some (.int ns.length)
 | .xH ks _=>some (.int ks.length)
 | _=>none
theorem MC{f:Dv->Option α}{ds:List Dv}{a:α}(h:one f ds=some a):∃x,ds=[x]/\f x=some a:=by
 unfold one at h;split at h
 ·exact⟨_,rfl,h⟩
 ·cases h
theorem Cm{f:Dv->Option Dv}{r:RG}(h:∀g H x v o1 P d Q,Zd g H->o1<=1->Rep K g H o1 x v P->f x=some d->(∀v H',Ac K g H o d v H'->Q v H')->r [v] H Q):AK K (one f) o r:=fun g H ds vs d Q zd ra e k=>by
 obtain⟨x,rfl,e⟩:=MC e;obtain⟨v,o1,P,rfl,h1,h2⟩:=ra.one;exact h g H x v o1 P d Q zd h1 h2 e k
theorem ez:AK K (one BC) o (fun xs H Q=>Ri K xs H Q\/bg xs H Q):=Cm fun g H x v o1 P d Q zd l1 h1 e k=>by
 unfold BC at e;split at e
 ·split at e
  ·rename_i l hl;cases e;rw[BA h1];refine .inl (SG (by rw[Bz];exact hl) ?_);rw[Bz];exact k _ _ (Ac.int _)
  ·cases e
 ·cases e;obtain⟨a,us,rfl,ha,hx,zK⟩:=DS l1 h1;refine .inl (Zt zK ?_);rw[<- hx.len];exact k _ _ (Ac.int _)
 ·cases e;obtain⟨a,us,rfl,ha,hx,zK⟩:=EY l1 h1;refine .inl ⟨_,_,rfl,.inr ⟨us,ha,rfl⟩,?_⟩;rw[<- hx.len];exact k _ _ (Ac.int _)
 ·cases e;obtain⟨a,rfl,ha⟩:=Ll h1;refine .inl (Vr ha ?_);rw[A8];exact k _ _ (Ac.int _)
 ·cases e;obtain⟨a,us,rfl,ha,hl,hx⟩:=Sd h1;refine .inr ⟨a,_,rfl,ha,?_⟩;rename_i ks xs;have:(ks.zip us).length=ks.length:=by rw[rQ,hl,hx.len,uA]
  rw[this];exact k _ _ (Ac.int _)
 ·cases e
def AC(x y:Dv):Option Dv:=match x,y with
 | .lst xs,.int i=>Gc xs i
 | .tup xs,.int i=>Gc xs i
 | .xQ ns,.int i=>(Gc ns i).map .int
 | .str l,.int i=>if l.length<=1000000 then(Gc l i).map fun c=>.str [c] else none
 | .xH ks ds,k=>(EU k).bind fun k=>GQ k ks ds
 | .yh ks ds,k=>(SH k).bind fun k=>GQ k ks ds
 | _,_=>none
theorem fB:AK K (two AC) 0 (NT fun x y H Q=>eQ K x y H Q\/ox x y H Q\/oo x y H Q):=Hn fun g H x y v w o1 o2 P R d Q zd l1 h1 l2 h2 e k=>by
 unfold AC at e;split at e
 ·obtain⟨a,us,rfl,ha,hx,zK⟩:=DS l1 h1;rw[AI h2];obtain⟨u,e2,h3⟩:=Ln hx e;exact .inl (Yu zK e2 (k _ _ (Ac.old h3)))
 ·obtain⟨a,us,rfl,ha,hx,zK⟩:=EY l1 h1;rw[AI h2];obtain⟨u,e2,h3⟩:=Ln hx e;exact .inl (.inr (.inl ⟨a,us,_,u,rfl,rfl,ha,e2,k _ _ (Ac.old h3)⟩))
 ·rename_i ns i;obtain⟨a,rfl,ha⟩:=Ll h1;rw[AI h2];cases q:Gc ns i with
  | none=>rw[q] at e;cases e
  | some j =>
   rw[q] at e;cases e;exact .inl (eM ha (by rw[bG,q];rfl) (k _ _ (Ac.int _)))
 ·rename_i l i;split at e
  ·rename_i hl;rw[BA h1,AI h2];cases q:Gc l i with
   | none=>rw[q] at e;cases e
   | some c =>
    rw[q] at e;cases e;exact .inl (Yt (by rw[Bz];exact hl) (by rw[Pc];exact q) (k _ _ (Ac.str [c])))
  ·cases e
 ·obtain⟨kk,ek,e⟩:=wV e;obtain⟨a,us,rfl,ha,hl,hx⟩:=Sd h1;obtain⟨u,e2,h3⟩:=IS hx e;rw[EN h2 ek];exact .inr (.inl ⟨a,u,rfl,e2▸FS.k ha,k _ _ (Ac.old h3)⟩)
 ·obtain⟨kk,ek,e⟩:=wV e;obtain⟨a,us,rfl,ha,hl,hx⟩:=lO h1;obtain⟨u,e2,h3⟩:=IS hx e;obtain⟨b,rfl,hb⟩:=Dq h2 ek;exact .inr (.inr ⟨a,u,rfl,⟨kk,b,rfl,hb,.inl ⟨_,ha,e2.symm⟩⟩,k _ _ (Ac.old h3)⟩)
 ·cases e
def TY(x:Dv)(lo hi:Option Int):Option Dv:=match x with
 | .str l=>if l.length<=1000000 then some (.str (Sg l lo hi)) else none
 | .lst xs=>some (.lst (DV xs lo hi))
 | .tup xs=>some (.tup (DV xs lo hi))
 | .xQ ns=>some (.lst ((DV ns lo hi).map .int))
 | _=>none
theorem kL(lo hi:Option Int):AK K (one fun d=>TY d lo hi) 1 (dE fun x H Q=>Rh K x lo hi H Q):=Cm fun g H x v o1 P d Q zd l1 h1 e k=>by
 show Rh K v lo hi H Q;cases x with
 | str l =>
  simp only[TY.eq_def] at e;split at e
  ·rename_i hl;cases e;rw[BA h1];refine Yg (by rw[Bz];exact hl) ?_;rw[UB];exact k _ _ (Ac.str _)
  ·cases e
 | lst xs =>
  cases e;obtain⟨a,us,rfl,ha,hx,zK⟩:=DS l1 h1;exact Yh zK fun p hp=>k _ _ (Ac.lst zd (GB lo hi hx) hp)
 | tup xs =>
  cases e;obtain⟨a,us,rfl,ha,hx,zK⟩:=EY l1 h1;have al:=GB lo hi hx
  by_cases w:HT.wk us.length 0 lo=0/\HT.wk us.length us.length hi=us.length
  ·refine .inr ⟨a,us,rfl,ha,w,k _ _ (Ac.old ?_)⟩;have ec:FO us lo hi=us:=by unfold FO;rw[w.1,w.2];simp
   rw[ec] at al;exact EG (B0 1) zK al
  ·exact .inl (.inr (.inr ⟨a,us,rfl,ha,w,fun p hp=>k _ _ (Ac.tup (B0 1) hp al)⟩))
 | xQ ns =>
  cases e;obtain⟨a,rfl,ha⟩:=Ll h1;refine dq ha fun p hp=>k _ _ (Ac.lst zd ?_ hp)
  rw[Zr];exact GB lo hi (DP ns)
 | _=>cases e
end
mutual
noncomputable def toD:Dv->L3.D
 | .bl b=>.fl (.bl b)
 | .int i=>.fl (.int i)
 | .str l=>.fl (.str (tx l))
 | .tup xs=>.tup (xD xs)
 | .lst xs=>.lst (xD xs)
 | _=>.fl .wa
noncomputable def xD:List Dv->List L3.D
 | []=>[]
 | d::ds=>toD d::xD ds
end
mutual
noncomputable def Dv.cmp:Dv->Bool
 | .wa | .bl _ | .int _ | .str _=>true
 | .tup xs=>Au xs
 | .lst xs=>Au xs
 | _=>false
noncomputable def Au:List Dv->Bool
 | []=>true
 | d::ds=>d.cmp && Au ds
end
mutual
noncomputable def Dv.dep:Dv->Nat
 | .tup xs=>BZ xs+1
 | .lst xs=>BZ xs+1
 | _=>0
noncomputable def BZ:List Dv->Nat
 | []=>0
 | d::ds=>max d.dep (BZ ds)
end
mutual
noncomputable def xT:Dv->Dv->Bool
 | .wa,.wa=>true
 | .bl a,.bl b=>a == b
 | .bl a,.int b=>(if a then 1 else 0) == b
 | .int a,.bl b=>a == (if b then 1 else 0)
 | .int a,.int b=>a == b
 | .str a,.str b=>a == b
 | .tup xs,.tup ys=>xu xs ys
 | .lst xs,.lst ys=>xu xs ys
 | _,_=>false
noncomputable def xu:List Dv->List Dv->Bool
 | [],[]=>true
 | x::xs,y::ys=>xT x y && xu xs ys
 | _,_=>false
end
mutual
theorem Wi:∀(d e:Dv),d.cmp=true->e.cmp=true->L3.xC (toD d) (toD e)=xT d e
 | .wa,e,h,k | .bl _,e,h,k | .int _,e,h,k=>by cases e<;>first | (unfold toD L3.xC xT;rfl) | (unfold Dv.cmp at k;cases k)
 | .str l,e,h,k=>by
  cases e with
  | str m=>unfold toD L3.xC xT;rw[L2.zBG];exact(Bool.beq_eq_decide_eq l m).symm
  | _=>first | (unfold toD L3.xC xT;rfl) | (unfold Dv.cmp at k;cases k)
 | .tup xs,e,h,k=>by
  cases e with
  | tup ys=>unfold toD L3.xC xT;unfold Dv.cmp at h k;exact Om xs ys h k
  | _=>first | (unfold toD L3.xC xT;rfl) | (unfold Dv.cmp at k;cases k)
 | .lst xs,e,h,k=>by
  cases e with
  | lst ys=>unfold toD L3.xC xT;unfold Dv.cmp at h k;exact Om xs ys h k
  | _=>first | (unfold toD L3.xC xT;rfl) | (unfold Dv.cmp at k;cases k)
 | .xH _ _,e,h,k | .ref _,e,h,k | .xQ _,e,h,k | .ty _,e,h,k | .mtp _,e,h,k | .zZ _ _,e,h,k | .yh _ _,e,h,k | .obj _ _ _ _,e,h,k=>by unfold Dv.cmp at h;cases h
theorem Om:∀(d e:List Dv),Au d=true->Au e=true->L3.xc (xD d) (xD e)=xu d e
 | [],[],_,_=>by unfold xD L3.xc xu;rfl
 | [],_::_,_,_=>by simp only[xD,L3.xc,xu]
 | _::_,[],_,_=>by simp only[xD,L3.xc,xu]
 | x::xs,y::ys,h,k=>by
  unfold Au at h k;rw[A5] at h k;simp only[xD,L3.xc,xu];rw[Wi x y h.1 k.1,Om xs ys h.2 k.2]
end
mutual
theorem cS:∀(d:Dv),(toD d).dep=d.dep
 | .wa | .bl _ | .int _ | .str _ | .xH _ _ | .ref _ | .xQ _ | .ty _ | .mtp _ | .zZ _ _ | .yh _ _ | .obj _ _ _ _=>by unfold toD L3.D.dep Dv.dep;rfl
 | .tup xs=>by unfold toD L3.D.dep Dv.dep;rw[Kx xs]
 | .lst xs=>by unfold toD L3.D.dep Dv.dep;rw[Kx xs]
theorem Kx:∀(d:List Dv),L3.xl (xD d)=BZ d
 | []=>by unfold xD L3.xl BZ;rfl
 | x::xs=>by simp only[xD,L3.xl,BZ];rw[cS x,Kx xs]
end
section
variable {K:W.Frag} {g:G} {H:Hp}
mutual
theorem Rep.is:∀{o:Nat} {d:Dv} {v:V} {P:Fp},Rep K g H o d v P->d.cmp=true->L3.Is K H v (toD d)
 | _,.wa,v,P,h,_=>by rw[FB h];unfold toD L3.Is;exact⟨rfl,rfl⟩
 | _,.bl b,v,P,h,_=>by rw[Cj h];unfold toD L3.Is;exact⟨rfl,rfl⟩
 | _,.int i,v,P,h,_=>by rw[AI h];unfold toD L3.Is;exact⟨rfl,rfl⟩
 | _,.str l,v,P,h,_=>by rw[BA h];unfold toD L3.Is;exact⟨rfl,rfl⟩
 | _,.tup xs,v,P,h,c=>by
  unfold Rep at h;obtain⟨a,vs,rfl,h1,h2⟩:=h;unfold Dv.cmp at c;unfold toD L3.Is;exact⟨a,vs,rfl,.inl (.inl h1),AA.isL h2 c⟩
 | _,.lst xs,v,P,h,c=>by
  unfold Rep at h;obtain⟨a,vs,P',rfl,h1,h2,_⟩:=h;unfold Dv.cmp at c;unfold toD L3.Is;exact⟨a,vs,rfl,.inl (.inl h1.1),AA.isL h2 c⟩
 | _,.xH _ _,v,P,h,c | _,.ref _,v,P,h,c | _,.xQ _,v,P,h,c | _,.ty _,v,P,h,c | _,.mtp _,v,P,h,c | _,.zZ _ _,v,P,h,c | _,.yh _ _,v,P,h,c | _,.obj _ _ _ _,v,P,h,c=>by unfold Dv.cmp at c;cases c
theorem AA.isL:∀{o:Nat} {d:List Dv} {v:List V} {P:Fp},AA K g H o d v P->Au d=true->L3.IsL K H v (xD d)
 | _,[],v,P,h,_=>by
  unfold AA at h;obtain⟨rfl,_⟩:=h;unfold xD L3.IsL
  trivial
 | _,x::xs,v,P,h,c=>by
  unfold AA at h;obtain⟨u,r,P1,P2,rfl,h1,h2,_⟩:=h;unfold Au at c;rw[A5] at c;unfold xD L3.IsL;exact⟨Rep.is h1 c.1,AA.isL h2 c.2⟩
end
def Gh(neg:Bool)(x y:Dv):Option Bool:=if(x.cmp && y.cmp && decide (x.dep<=150))=true then some (if neg then !xT x y else xT x y) else none
abbrev TV:=Gh false
abbrev Tn:=Gh true
theorem VI{neg:Bool}:AK K (fun ds=>(two (Gh neg) ds).map .bl) 0 (NT (L3.zBb K neg)):=Gw fun g H x y v w o1 o2 P R b Q zd _ h1 _ h2 e k=>by
 unfold Gh at e;split at e
 ·rename_i c;cases e;rw[A5,A5,decide_eq_true_eq] at c;refine⟨toD x,toD y,by rw[cS];exact c.2,h1.is c.1.1,h2.is c.1.2,?_⟩;rw[Wi x y c.1.1 c.1.2];exact k
 ·cases e
noncomputable def me:Dv->Option (List Dv)
 | .lst xs=>some xs
 | .tup xs=>some xs
 | .mtp ls=>some (ls.map .str)
 | _=>none
def FG(e:Dv)(ds:List Dv):Bool:=ds.any fun d=>xT d e
def IW(neg:Bool)(e s:Dv):Option Bool:=match e,s with
 | .str x,.str l=>some (if neg then !Q.zCB x l else Q.zCB x l)
 | e,.xH ks ds=>((EU e).bind fun k=>some (if neg then !(GQ k ks ds).isSome else(GQ k ks ds).isSome)).or (if ks.isEmpty=true then(SH e).bind fun _=>some neg else none)
 | e,.yh ks ds=>(SH e).bind fun k=>some (if neg then !(GQ k ks ds).isSome else(GQ k ks ds).isSome)
 | e,s=>match me s with
  | some xs=>if(e.cmp && Au xs && decide (BZ xs<=150))=true then some (if neg then !FG e xs else FG e xs) else none
  | none=>none
abbrev iw:=IW false
abbrev LG:=IW true
theorem mN(e:Dv)(he:e.cmp=true):∀(ds:List Dv),Au ds=true->((xD ds).any fun d=>L3.xC d (toD e))=FG e ds
 | [],_=>by unfold xD FG;rfl
 | d::ds,h=>by
  unfold Au at h;rw[A5] at h;unfold FG;simp only[xD,T7];rw[Wi d e h.1 he,mN e he ds h.2];rfl
theorem OF(ls:List (List Nat)):AA K g H 0 (ls.map .str) (ls.map fun l=>V.str (tx l)) wX:=Dn.mpr ⟨by simp,fun i d v e1 e2=>by
 rw[C5] at e1 e2;cases q:ls[i]? with
 | none=>rw[q] at e1;cases e1
 | some k=>rw[q] at e1 e2;cases e1;cases e2;unfold Rep;exact⟨rfl,fun _ z=>z⟩⟩
theorem VH{neg:Bool}:AK K (fun ds=>(two (IW neg) ds).map .bl) 0 (NT fun x y H q=>Q.zBa K neg x y H q\/eS neg x y H q\/eO neg x y H q):=Gw fun g H x y v w o1 o2 P R b Q zd l1 h1 l2 h2 e k=>by
  unfold IW at e;split at e
  · cases e;rw[BA h1,BA h2];exact .inl (.inl ⟨_,_,rfl,rfl,k⟩)
  · rename_i ks ds;rcases V6.mp e with e | ⟨_,e⟩
    · obtain⟨kk,ek,e⟩:=wV e;cases e;obtain⟨a,us,rfl,ha,hl,hx⟩:=Sd h2;rw[EN h1 ek];refine .inr (.inl ⟨a,_,rfl,.inl (FS.k ha),?_⟩);rw[GP hl hx.len];exact k
    · split at e
      · rename_i hk;obtain⟨kk,ek,e⟩:=wV e;cases e;obtain rfl:ks=[]:=by cases ks with | nil=>rfl | cons _ _=>cases hk
        obtain⟨a,us,rfl,ha,hl,hx⟩:=Sd h2;obtain⟨b,rfl,hb⟩:=Dq h1 ek;refine .inr (.inr ⟨a,none,rfl,⟨kk,b,rfl,hb,.inr ⟨ha,rfl⟩⟩,?_⟩);cases neg<;>exact k
      · cases e
  · obtain⟨kk,ek,e⟩:=wV e;cases e;obtain⟨a,us,rfl,ha,hl,hx⟩:=lO h2;obtain⟨b,rfl,hb⟩:=Dq h1 ek;refine .inr (.inr ⟨a,_,rfl,⟨kk,b,rfl,hb,.inl ⟨_,ha,rfl⟩⟩,?_⟩);rw[GP hl hx.len];exact k
  · rename_i a s _;split at e
    · rename_i xs es;split at e
      · rename_i c;cases e;rw[A5,A5,decide_eq_true_eq] at c;have go:∀p ys,w=.ref p->(Ca K H p ys\/DL K H p ys)->AA K g H 0 xs ys wX->L3.zAy K neg v w H Q:=by
          rintro p ys rfl hs hr;refine⟨p,ys,xD xs,toD x,rfl,hs,hr.isL c.1.2,h1.is c.1.1,by rw[Kx];exact c.2,?_⟩;rw[mN x c.1.1 xs c.1.2];exact k
        cases y with
        | lst ys =>
          cases es;obtain⟨p,us,rfl,ha,hx,_⟩:=DS l2 h2;exact .inl (.inr (go p us rfl (.inl ha) hx))
        | tup ys =>
          cases es;obtain⟨p,us,rfl,ha,hx,_⟩:=EY l2 h2;exact .inl (.inr (go p us rfl (.inr ha) hx))
        | mtp ls =>
          cases es;unfold Rep at h2;obtain⟨⟨p,rfl,hm⟩,_⟩:=h2;exact .inl (.inr (go p _ rfl (.inr (.inr hm)) (OF ls)))
        | _=>cases es
      · cases e
    · cases e
noncomputable def Dv.zBS:Dv->Bool
 | .wa=>true
 | _=>false
noncomputable def RC(x y:Dv):Option Bool:=match y with | .wa=>some (!x.zBS) | _=>none
theorem Rg{o:Nat}{d:Dv}{v:V}{P:Fp}(h:Rep K g H o d v P):decide (v=V.wa)=d.zBS:=by
 cases d with
 | wa=>rw[FB h];rfl
 | bl b=>rw[Cj h];rfl
 | int b=>rw[AI h];rfl
 | str b=>rw[BA h];rfl
 | tup b=>unfold Rep at h;obtain⟨a,vs,rfl,_⟩:=h;rfl
 | lst b=>unfold Rep at h;obtain⟨a,vs,P',rfl,_⟩:=h;rfl
 | xH b c=>unfold Rep at h;obtain⟨a,vs,rfl,_⟩:=h;rfl
 | ref k=>unfold Rep at h;obtain⟨⟨a,_,rfl⟩,_⟩:=h;rfl
 | xQ ns=>obtain⟨a,rfl,_⟩:=Ll h;rfl
 | ty n=>unfold Rep at h;rw[h.1];rfl
 | mtp n=>unfold Rep at h;obtain⟨⟨a,rfl,_⟩,_⟩:=h;rfl
 | zZ b c=>unfold Rep at h;obtain⟨a,vs,rfl,_⟩:=h;rfl
 | yh b c=>unfold Rep at h;obtain⟨a,vs,rfl,_⟩:=h;rfl
 | obj b c d e=>unfold Rep at h;obtain⟨a,dx,vs,P',rfl,_⟩:=h;rfl
theorem ZF:AK K (fun ds=>(two RC ds).map .bl) 0 (NT (fun x y H Q=>y=.wa/\Q (.bl (!decide (x=.wa))) H)):=Gw fun g H x y v w o1 o2 P R b Q zd _ h1 _ h2 e k=>by
 unfold RC at e;split at e
 ·cases e;exact⟨FB h2,by rw[Rg h1];exact k⟩
 ·cases e
end
noncomputable def LZ:List Dv->Option (List Bool)
 | []=>some []
 | .bl b::ds=>(LZ ds).map (b::·)
 | _=>none
noncomputable def BU:List Dv->Option (List Int)
 | []=>some []
 | .int b::ds=>(BU ds).map (b::·)
 | _=>none
noncomputable def JP:List Dv->Option (List (List Nat))
 | []=>some []
 | .str b::ds=>(JP ds).map (b::·)
 | _=>none
section
variable {K:W.Frag} {g:G} {H:Hp}
theorem LY:∀{ds:List Dv} {bs:List Bool} {vs:List V},AA K g H 0 ds vs wX->LZ ds=some bs->vs=bs.map V.bl
 | [],bs,vs,h,e=>by cases e;exact Af h
 | d::ds,bs,vs,h,e=>by
  obtain⟨v,r,rfl,h1,h2⟩:=Ap h;cases d<;>simp only[LZ,D7,reduceCtorEq] at e;obtain⟨bs',e,rfl⟩:=e;rw[Cj h1,LY h2 e];rfl
theorem EB:∀{ds:List Dv} {bs:List Int} {vs:List V},AA K g H 0 ds vs wX->BU ds=some bs->vs=bs.map V.int
 | [],bs,vs,h,e=>by cases e;exact Af h
 | d::ds,bs,vs,h,e=>by
  obtain⟨v,r,rfl,h1,h2⟩:=Ap h;cases d<;>simp only[BU,D7,reduceCtorEq] at e;obtain⟨bs',e,rfl⟩:=e;rw[AI h1,EB h2 e];rfl
theorem JN:∀{ds:List Dv} {bs:List (List Nat)} {vs:List V},AA K g H 0 ds vs wX->JP ds=some bs->vs=(bs.map tx).map V.str
 | [],bs,vs,h,e=>by cases e;exact Af h
 | d::ds,bs,vs,h,e=>by
  obtain⟨v,r,rfl,h1,h2⟩:=Ap h;cases d<;>simp only[JP,D7,reduceCtorEq] at e;obtain⟨bs',e,rfl⟩:=e;rw[BA h1,JN h2 e];rfl
def JF(x:Dv):Option Dv:=match x with | .lst xs=>(LZ xs).map fun bs=>.bl (bs.all id) | _=>none
theorem fC{o:Nat}:AK K (one JF) o (kD K):=Cm fun g H x v o1 P d Q zd l1 h1 e k=>by
 unfold JF at e;split at e
 ·simp only[D7] at e;obtain⟨bs,e,rfl⟩:=e;obtain⟨p,us,rfl,ha,hx,_⟩:=DS l1 h1;rw[LY hx e] at ha;exact⟨p,bs,rfl,ha,k _ _ (Ac.bl _)⟩
 ·cases e
def pk(x:Dv):Option Dv:=match x with
 | .lst xs=>(BU xs).map fun ns=>.int ns.sum
 | .tup xs=>(BU xs).map fun ns=>.int ns.sum
 | _=>none
def pO(x y:Dv):Option Dv:=match x with
 | .lst xs=>match y with
  | .int d=>match BU xs with | some []=>some (.int d) | some (n::ns)=>some (.int (Q.mxI (n::ns))) | none=>none
  | _=>none
 | _=>none
noncomputable def KH(x y:Dv):Option Dv:=match x,y with | .int i,.int j=>some (.int (if j > i then j else i)) | _,_=>none
noncomputable def KG(x y:Dv):Option Dv:=match x,y with | .int i,.int j=>some (.int (if j < i then j else i)) | _,_=>none
theorem Gv{f:Dv->Dv->Option Dv}{o:Nat}{r:RG}(h:∀g H x y v w o1 o2 P R d Q,Zd g H->o1<=1->Rep K g H o1 x v P->o2<=1->Rep K g H o2 y w R->f x y=some d->(∀v H',Ac K g H o d v H'->Q v H')->r [v,w] H Q):AK K (two f) o r:=fun g H ds vs d Q zd ra e k=>by
 obtain⟨x,y,rfl,e⟩:=El e;obtain⟨v,o1,P,w,o2,R,rfl,h1,h2,h3,h4⟩:=ra.two;exact h g H x y v w o1 o2 P R d Q zd h1 h2 h3 h4 e k
theorem ZI{o:Nat}:AK K (two KH) o (fun xs H Q=>∃i j,xs=[.int i,.int j]/\Q (.int (if j > i then j else i)) H):=Gv fun g H x y v w o1 o2 P R d Q zd _ h1 _ h2 e k=>by
 unfold KH at e;split at e
 ·cases e;rw[AI h1,AI h2];exact⟨_,_,rfl,k _ _ (Ac.int _)⟩
 ·cases e
theorem ZH{o:Nat}:AK K (two KG) o (fun xs H Q=>∃i j,xs=[.int i,.int j]/\Q (.int (if j < i then j else i)) H):=Gv fun g H x y v w o1 o2 P R d Q zd _ h1 _ h2 e k=>by
 unfold KG at e;split at e
 ·cases e;rw[AI h1,AI h2];exact⟨_,_,rfl,k _ _ (Ac.int _)⟩
 ·cases e
noncomputable def AM(x:Dv):Option Dv:=match x with | .lst xs=>some (.tup xs) | .tup xs=>some (.tup xs) | _=>none
theorem VF:AK K (one AM) 1 (Lr K):=Cm fun g H x v o1 P d Q zd l1 h1 e k=>by
 unfold AM at e;split at e
 ·cases e;obtain⟨p,us,rfl,ha,hx,_⟩:=DS l1 h1;exact⟨p,us,rfl,.inl ⟨ha,fun l hl=>k _ _ (Ac.tup (B0 1) hl hx)⟩⟩
 ·cases e;obtain⟨p,us,rfl,ha,hx,zK⟩:=EY l1 h1;exact⟨p,us,rfl,.inr ⟨ha,k _ _ (Ac.old (EG (B0 1) zK hx))⟩⟩
 ·cases e
noncomputable def CW(x:Dv):Option Dv:=match x with | .lst xs=>some (.lst xs) | .tup xs=>some (.lst xs) | .xQ ns=>some (.lst (ns.map .int)) | _=>none
theorem ZJ:AK K (one CW) 1 (QB K):=Cm fun g H x v o1 P d Q zd l1 h1 e k=>by
 unfold CW at e;split at e
 ·cases e;obtain⟨p,us,rfl,ha,hx,_⟩:=DS l1 h1;exact⟨p,us,rfl,.inl ha,fun l hl=>k _ _ (Ac.lst zd hx hl)⟩
 ·cases e;obtain⟨p,us,rfl,ha,hx,_⟩:=EY l1 h1;exact⟨p,us,rfl,.inr ha,fun l hl=>k _ _ (Ac.lst zd hx hl)⟩
 ·cases e;obtain⟨p,rfl,ha⟩:=Ll h1;exact⟨p,_,rfl,.inl ha,fun l hl=>k _ _ (Ac.lst zd (DP _) hl)⟩
 ·cases e
def Ig(x y:Dv):Option Dv:=match x,y with
 | .str sep,.lst xs=>match JP xs with
  | some ys=>if(ys.map O8).sum+ys.length * sep.length<=1000000 then some (.str (jn sep ys)) else none
  | none=>none
 | _,_=>none
theorem ZK{o:Nat}:AK K (two Ig) o (mU (Us K)):=Gv fun g H x y v w o1 o2 P R d Q zd l1 h1 l2 h2 e k=>by
 unfold Ig at e;split at e
 ·split at e
  ·rename_i sep xs _ ys e1;split at e
   ·rename_i hz;cases e;obtain⟨a,us,rfl,ha,hx,_⟩:=DS l2 h2;rw[BA h1];rw[JN hx e1] at ha;refine⟨tx sep,a,ys.map tx,rfl,rfl,ha,?_,?_⟩
    ·rw[dS,A8,Bz];exact B9 hz (by decide)
    ·rw[jC];exact k _ _ (Ac.str _)
   ·cases e
  ·cases e
 ·cases e
noncomputable def GU(x:Dv):Option Dv:=match x with
 | .str l=>if(l.all (fun c=>decide (c < 128)) && decide (l.length<=1000000))=true then some (.str (l.map j7)) else none
 | _=>none
theorem VE{o:Nat}:AK K (one GU) o (mU Um):=Cm fun g H x v o1 P d Q zd l1 h1 e k=>by
 unfold GU at e;split at e
 ·split at e
  ·rename_i l c;cases e;rw[A5,decide_eq_true_eq,E3] at c;rw[BA h1];exact⟨l,rfl,rfl,fun x hx=>of_decide_eq_true (c.1 x hx),c.2,k _ _ (Ac.str _)⟩
  ·cases e
 ·cases e
def kn(e:Dv):List Dv->Option Nat
 | []=>none
 | d::ds=>if xT d e=true then some 0 else(kn e ds).map (·+1)
def mw(x e:Dv):Option Dv:=match x with
 | .tup xs=>if(e.cmp && Au xs && decide (BZ xs<=150))=true then(kn e xs).map fun j=>.int (j:Nat) else none
 | _=>none
noncomputable def cB:Dv->Option String
 | .wa=>some "NoneType"
 | .bl _=>some "bool"
 | .int _=>some "int"
 | .str _=>some "str"
 | .tup _=>some "tuple"
 | .lst _=>some "list"
 | _=>none
noncomputable def kX(T:String):Bool:=["int", "bool", "str", "tuple", "list"].contains T
def JE(x y:Dv):Option Dv:=match y with
 | .ty T=>if kX T=true then(cB x).map fun k=>.bl (Q.zBR k T) else none
 | _=>none
theorem Zu{o:Nat}{x:Dv}{v:V}{P:Fp}{kd:String}(l1:o<=1)(h1:Rep K g H o x v P)(e:cB x=some kd):xm K H v (.type kd)/\kd∈["NoneType", "bool", "int", "str", "tuple", "list"]:=by
 cases x with
 | wa=>cases e;rw[FB h1];exact⟨.wa,by simp⟩
 | bl b=>cases e;rw[Cj h1];exact⟨.bl _,by simp⟩
 | int b=>cases e;rw[AI h1];exact⟨.int _,by simp⟩
 | str b=>cases e;rw[BA h1];exact⟨.str _,by simp⟩
 | tup b=>cases e;obtain⟨p,us,rfl,_,_,ha⟩:=EY l1 h1;exact⟨.tup ha,by simp⟩
 | lst b=>cases e;obtain⟨p,us,rfl,_,_,ha⟩:=DS l1 h1;exact⟨.lst ha,by simp⟩
 | _=>cases e
theorem fA{o:Nat}:AK K (two JE) o (jz K):=Gv fun g H x y v w o1 o2 P R d Q zd l1 h1 l2 h2 e k=>by
 unfold JE at e;split at e
 ·rename_i T;split at e
  ·rename_i c
   have hT:T∈["int", "bool", "str", "tuple", "list"]:=by unfold kX at c;simpa using c
   have hw:w=.ty T:=by unfold Rep at h2;exact h2.1
   subst hw;rw[D7] at e;obtain⟨kd,e1,rfl⟩:=e;obtain⟨ty,hk⟩:=Zu l1 h1 e1;exact⟨v,T,.type kd,_,rfl,ty,_root_.Q.zBl K hk hT,k _ _ (Ac.bl _)⟩
  ·cases e
 ·cases e
def pe(f:List Int->List Int->Bool)(xs:List Dv)(y:Dv):Option Bool:=match y with
 | .tup ys=>(BU xs).bind fun a=>(BU ys).map fun b=>f a b
 | _=>none
abbrev iV:=Dx fun i j=>decide (i < j)
end
end R
namespace L2
open PySem PySem.Spec PyProof.Rows
theorem Im:sj (.type "tuple") "keys" = pure none:=uz (by decide +kernel)
theorem Vc{prog:E5}{w:G3}{A:F3}{E:Value->A6->Prop}{s:A6}{a:B5}{o:Obj}{xs:Array Value}{k:Nat}{Q:Option Value->A6->Prop}
    (hx:s.heap.get? a=some o) (hc:o.cls=.type "tuple") (zAm:o.data=.seq xs k) (hd:o.dict=none) (hA:A.handled=none)
    (h:∀h' tk,(∀b o,s.heap.get? b=some o->h'.get? b=some o)->Q none { s with heap:=h',toks:=tk }) :
    B7 (C9 prog w) A (vS (.ref a) "keys") Q E s:=by
  obtain⟨c,xH,dat,sl⟩:=o;simp only at hc zAm hd;subst hc zAm hd;obtain⟨hp,g,d,tk,os⟩:=s
  have hT:∀tk',(⟨hp,g,d,tk',os⟩:A6).TypeIs (.ref a) "tuple" := fun _=>⟨_,hx,rfl⟩
  have f1:=tB;have f3:=F.slot_tuple_getattribute.lookup;have f4:=F.slot_tuple_getattribute.bind (.ref a);have f5:=am_tuple_getattr_none;unfold vS getAttrBy? getAttrBy
  repeat (any_goals (first | assumption | exact hT _ | ((with_reducible show B7 _ _ (call (sP "tuple.__getattribute__") _ _) _ _ _);refine call_meets F.slot_tuple_getattribute (hT _) am_entry_tuple_getattribute (F.args_tuple_getattribute_2 _ _) (meets_getattribute_miss_tuple a xs k sl "keys" _ Im (by decide +kernel) (by decide +kernel)) ⟨hx,hA,fun h' tk' e ze=>?_⟩) | wp_step))
  obtain⟨t',u',he⟩:=ze.there;show B7 _ _ (Y4 _ _ _ _ _ _ _) _ _ _;unfold Y4
  repeat (any_goals (first | assumption | wp_step))
  exact h _ _ ze.keeps
def mR(H:Hp)(x:V)(p:Aa×V):Prop:=∃t,x=.ref t/\H t=some (.tup [kV p.1,p.2])
section
variable {X:Cx} {pins:List (B5×Obj)} {σ:St} {l it d:B5} {xs:List V} {ps:List (Aa×V)} {H0:Hp} {R:uS->A6->Prop}
theorem MA{A:F3}(hh:A.handled=none)(hu:A.units+3 < G8)(YE:H0 d=none)(hl:H0 l=some (.tup xs))(hlen:xs.length=ps.length)(hps:∀(i:Nat) x p,xs[i]?=some x->ps[i]?=some p->mR H0 x p) :
    ∀(n i:Nat) (j:Int) (wW:List (Aa×V)) (s:A6),xs.length - i=n->i<=xs.length->wW.length<=i->Inv X pins σ (upd H0 d (.dK wW)) s->s.heap.IsTupleIter it l i->we X pins (upd H0 d (.dK wW)) it ->
    (∀s',Inv X pins σ (upd H0 d (.dK (CP wW (ps.drop i)))) s'->R (.ok (.ret .none)) s') ->
    X8 (C9 X.prog X.w) A (.builtin "dict.update.loop" ⟨[.ref d,.ref it,S6 j,.none],[]⟩) R s:=by
  have hld:l≠d:=AO hl YE;intro n
  induction n with
  | zero =>
    intro i j wW s hn hi hk I st hf hR;have e:i=xs.length:=by omega
    subst e;obtain⟨its,rv,p,hz⟩:=I.tuple (HN (show upd H0 d (.dK wW) l=some (.tup xs) by rw[AB hld];exact hl));have hlv:=rv.length;refine H8 AZ ?_;rw[G5 AG _];show B7 _ A.in1 (W3 (.ref it) >>= _) _ _ s;obtain⟨f0,f1,f2,f3,f4,f5⟩:=hf;refine A0 (rC (show A.in1.handled=none from hh) st p (by simp;omega) fun h' eb=>?_);have I1:Inv X pins σ (upd H0 d (.dK wW)) { s with heap:=h' }:=I.turned (t':=s.toks) (fun b o hb e=>eb b o hb e) f0 f1 f3 f4 f5;refine A0 (A4 ?_);refine A4 (hR _ ?_);rw[Z3 (by omega)];exact I1
  | succ n ih =>
    intro i j wW s hn hi hk I st hf hR;have w6:i < xs.length:=by omega
    obtain⟨its,rv,p,hz⟩:=I.tuple (HN (show upd H0 d (.dK wW) l=some (.tup xs) by rw[AB hld];exact hl));have hlv:=rv.length;obtain⟨u,hu',ru⟩:=rv.get (A3 w6);have yJ:i < ps.length:=by omega
    obtain⟨t,ex,ht⟩:=hps i xs[i] ps[i] (A3 w6) (A3 yJ);rw[ex] at ru;cases ru;refine H8 AZ ?_;rw[G5 AG _];show B7 _ A.in1 (W3 (.ref it) >>= _) _ _ s;have hf0:=hf;obtain⟨f0,f1,f2,f3,f4,f5⟩:=hf;refine A0 (qm st p (x:=.ref t) (by simpa using hu') fun h' yR sb=>?_);have I1:Inv X pins σ (upd H0 d (.dK wW)) { s with heap:=h' }:=I.turned (t':=s.toks) (fun b o hb e=>(sb.2 b hb).trans e) f0 f1 f3 f4 f5;have ht':upd H0 d (.dK wW) t=some (.tup [kV (ps[i]).1,(ps[i]).2]):=by rw[AB (AO ht YE)];exact ht
    obtain⟨wg,rv2,p2,hz2⟩:=I1.tuple (HN ht');cases rv2 with
    | cons q1 rr =>
      cases rr with
      | cons q2 rr =>
        cases rr;obtain⟨ot,hot,hct,nt,hdt⟩:=p2;refine A0 (E8 (A0 (sA ?_)));unfold Z4
        refine A0 (M1 (T := "tuple") ⟨ot,hot,hct⟩ ?_)
        rw[if_pos (by decide)];refine A0 (H9 hot hdt ?_);refine A4 ?_;have zV:it≠d:=by intro z;rw[z,AF] at f0;cases f0
        obtain⟨oi,hoi,hci,hdi⟩:=id yR;have I1p:Inv X (pins++Eb [it] h') σ (upd H0 d (.dK wW)) { s with heap:=h' }:=Inv.pinned (s:={ s with heap:=h' }) (fp:=[it]) I1 (fun b hb=>by rw[D4.mp hb];exact hf0) fun b hb=>by
          rw[D4.mp hb];exact⟨oi,hoi,fun v z=>by rw[hdi] at z;cases z⟩
        have hkl:wW.length < sizeLine:=by omega
        have g:Ei (upd H0 d (.dK wW)) d (kV (ps[i]).1) (ps[i]).2 (upd (upd H0 d (.dK wW)) d (.dK (BK wW (ps[i]).1 (ps[i]).2))):=Ei.k AF hkl;rw[KL] at g;refine E8 (GO (show A.units+1+1 < G8 by omega) I1p g q1 q2 fun s2 I2=>?_);have zAk:s2.heap.get? it=some oi:=(I2.pin (it,oi) (A9 _ (A9 _ (BM (h:=h') (D4.mpr rfl) hoi)))).1;have I3:=I2.xJ;refine A4 ⟨O7 AG _,ih (i+1) (j+1) (BK wW (ps[i]).1 (ps[i]).2) s2 (by omega) w6 (by have:=Av wW (ps[i]).1 (ps[i]).2;omega) I3 ⟨oi,zAk,hci,hdi⟩ ⟨by rw[AB zV];rw[AB zV] at f0;exact f0,f1,f2,f3,f4,f5⟩ fun s' I'=>hR s' ?_⟩;rw[L0 yJ];exact I'
def Uw:List V->Hp->VK->Prop:=fun vs H Q=>∃(l:B5) (xs:List V) (ps:List (Aa×V)),vs=[.ref l]/\H l=some (.tup xs)/\xs.length=ps.length/\(∀(i:Nat) x p,xs[i]?=some x->ps[i]?=some p->mR H x p)/\∀d,H d=none->Q (.ref d) (upd H d (.dK (CP [] ps)))
theorem Oy{j:Nat}(hr:wo j X.A)(hc:X.calm=true:=by rfl):As X (.type "dict") Uw:=by
 intro pins s σ H vs us Q I r h;obtain⟨l,xs,ps,rfl,hl,hlen,hps,q⟩:=h;obtain⟨u,rfl,rx⟩:=vals1 r;cases rx;have hun:=hr.un;have hh:=I.ok.hd hc
 refine sC (Q₁:=fun obj wY=>obj=.ref s.heap.objs.size/\wY={ s with heap:=s.heap.push { cls:=.type "dict", data:=.dict #[] } }) Z5 (W4 _) Y7 (qt _ ⟨rfl,rfl⟩) ?_
 rintro obj wY ⟨rfl,rfl⟩
 have I0:Inv X pins σ (upd H s.heap.objs.size (.dK [])) { s with heap:=s.heap.push { cls:=.type "dict", data:=.dict #[] } }:=
  I.laid (a:=s.heap.objs.size) (o:=.dK []) (t':=s.toks) (fun _ _ q=>A2 _ q) (B0 _) (IQ s.heap I.big)
 have yd:=I.wb.fresh (B0 s.heap.objs.size);have hld:l≠s.heap.objs.size:=AO hl yd
 have hT:k4 { s with heap:=s.heap.push { cls:=.type "dict", data:=.dict #[] } } (.ref s.heap.objs.size) "dict" := ⟨_,B4 _ rfl,rfl⟩
 generalize hs1:({ s with heap:=s.heap.push { cls:=.type "dict", data:=.dict #[] } }:A6)=s1 at I0 hT
 refine⟨hT,X5 _ _,?_⟩;unfold M8.«dict.__init__»;refine A0 ?_;unfold X6;refine A0 (e9 hT ?_);show B7 _ _ (pure (s.heap.objs.size,[E2 l])) _ _ _;refine A4 ?_
 show B7 _ _ (M7 "dict.__init__" s.heap.objs.size (.ref l) [] .none) _ _ _
 unfold M7;obtain⟨hz,its,rv,pD⟩:AY X.prog X.w _ s1.heap l (.tup xs):=I0.wb l _ (show upd H s.heap.objs.size (.dK []) l=some (.tup xs) by rw[AB hld];exact hl);have p:=pD.tup;obtain⟨o,ho,hco,hnd,n,hdo⟩:=id pD
 refine A0 (M1 (T := "tuple") ⟨o,ho,hco⟩ ?_)
 rw[if_pos (by decide)];refine A0 ?_;refine Vc ho hco hdo hnd (show X.A.in1.in1.handled=none from hh) fun h2 zM k2=>?_
 have I2:Inv X pins σ (upd H s.heap.objs.size (.dK [])) { s1 with heap:=h2,toks:=zM }:=I0.kept k2;rw[if_pos (by decide)];refine A0 (Q5 ?_);refine A0 (O2 (s:={ s1 with heap:=h2,toks:=zM }) (show v8 h2 l its.toArray from⟨o,k2 _ _ ho,hco,n,hdo⟩) ?_)
 have I3:Inv X pins σ (upd H s.heap.objs.size (.dK [])) { s1 with heap:=h2.push { cls:=.type "tuple_iterator", data:=.fields #[.ref l,.int 0 0] },toks:=zM }:=Inv.kept (s:={ s1 with heap:=h2,toks:=zM }) (t':=zM) I2 fun b o e=>A2 _ e
 refine A4 ⟨O7 AG _,MA (X:=X) (A:=X.A.in1) (H0:=H) (it:=h2.objs.size) (d:=s.heap.objs.size) (show X.A.in1.handled=none from hh) (show X.A.units+1+3 < G8 by omega) yd hl hlen hps xs.length 0 0 [] _ (by omega) (E7 _) (B0 _) I3 ⟨_,B4 _ rfl,rfl,rfl⟩ (I2.wc (B0 _) (I2.wb.fresh (B0 _))) fun s' I'=>⟨rfl,.ref s.heap.objs.size,_,I',rfl,q _ yd⟩⟩
end
section
variable {X:Cx} {pins:List (B5×Obj)} {σ:St} {l it d:B5} {xs:List V} {ps:List (Aa×V)} {H0:Hp} {R:uS->A6->Prop}
theorem Lz{A:F3}(hh:A.handled=none)(hu:A.units+3 < G8)(YE:H0 d=none)(hl:H0 l=some (.lst xs))(hlen:xs.length=ps.length)(hps:∀(i:Nat) x p,xs[i]?=some x->ps[i]?=some p->mR H0 x p) :
    ∀(n i:Nat) (j:Int) (wW:List (Aa×V)) (s:A6),xs.length - i=n->i<=xs.length->wW.length<=i->Inv X pins σ (upd H0 d (.dK wW)) s->s.heap.IsListIter it l i->we X pins (upd H0 d (.dK wW)) it ->
    (∀s',Inv X pins σ (upd H0 d (.dK (CP wW (ps.drop i)))) s'->R (.ok (.ret .none)) s') ->
    X8 (C9 X.prog X.w) A (.builtin "dict.update.loop" ⟨[.ref d,.ref it,S6 j,.none],[]⟩) R s:=by
  have hld:l≠d:=AO hl YE;intro n
  induction n with
  | zero =>
    intro i j wW s hn hi hk I st hf hR;have e:i=xs.length:=by omega
    subst e;obtain⟨its,rv,p,hz⟩:=I.list (Ff (show upd H0 d (.dK wW) l=some (.lst xs) by rw[AB hld];exact hl));have hlv:=rv.length;refine H8 AZ ?_;rw[G5 AG _];show B7 _ A.in1 (W3 (.ref it) >>= _) _ _ s;obtain⟨f0,f1,f2,f3,f4,f5⟩:=hf;refine A0 (V5 (show A.in1.handled=none from hh) st p.isList (by simp;omega) fun h' eb=>?_);have I1:Inv X pins σ (upd H0 d (.dK wW)) { s with heap:=h' }:=I.turned (t':=s.toks) (fun b o hb e=>eb b o hb e) f0 f1 f3 f4 f5;refine A0 (A4 ?_);refine A4 (hR _ ?_);rw[Z3 (by omega)];exact I1
  | succ n ih =>
    intro i j wW s hn hi hk I st hf hR;have w6:i < xs.length:=by omega
    obtain⟨its,rv,p,hz⟩:=I.list (Ff (show upd H0 d (.dK wW) l=some (.lst xs) by rw[AB hld];exact hl));have hlv:=rv.length;obtain⟨u,hu',ru⟩:=rv.get (A3 w6);have yJ:i < ps.length:=by omega
    obtain⟨t,ex,ht⟩:=hps i xs[i] ps[i] (A3 w6) (A3 yJ);rw[ex] at ru;cases ru;refine H8 AZ ?_;rw[G5 AG _];show B7 _ A.in1 (W3 (.ref it) >>= _) _ _ s;have hf0:=hf;obtain⟨f0,f1,f2,f3,f4,f5⟩:=hf;refine A0 (U6 st p.isList (x:=.ref t) (by simpa using hu') fun h' yR sb=>?_);have I1:Inv X pins σ (upd H0 d (.dK wW)) { s with heap:=h' }:=I.turned (t':=s.toks) (fun b o hb e=>(sb.2 b hb).trans e) f0 f1 f3 f4 f5;have ht':upd H0 d (.dK wW) t=some (.tup [kV (ps[i]).1,(ps[i]).2]):=by rw[AB (AO ht YE)];exact ht
    obtain⟨wg,rv2,p2,hz2⟩:=I1.tuple (HN ht');cases rv2 with
    | cons q1 rr =>
      cases rr with
      | cons q2 rr =>
        cases rr;obtain⟨ot,hot,hct,nt,hdt⟩:=p2;refine A0 (E8 (A0 (sA ?_)));unfold Z4
        refine A0 (M1 (T := "tuple") ⟨ot,hot,hct⟩ ?_)
        rw[if_pos (by decide)];refine A0 (H9 hot hdt ?_);refine A4 ?_;have zV:it≠d:=by intro z;rw[z,AF] at f0;cases f0
        obtain⟨oi,hoi,hci,hdi⟩:=id yR;have I1p:Inv X (pins++Eb [it] h') σ (upd H0 d (.dK wW)) { s with heap:=h' }:=Inv.pinned (s:={ s with heap:=h' }) (fp:=[it]) I1 (fun b hb=>by rw[D4.mp hb];exact hf0) fun b hb=>by
          rw[D4.mp hb];exact⟨oi,hoi,fun v z=>by rw[hdi] at z;cases z⟩
        have hkl:wW.length < sizeLine:=by omega
        have g:Ei (upd H0 d (.dK wW)) d (kV (ps[i]).1) (ps[i]).2 (upd (upd H0 d (.dK wW)) d (.dK (BK wW (ps[i]).1 (ps[i]).2))):=Ei.k AF hkl;rw[KL] at g;refine E8 (GO (show A.units+1+1 < G8 by omega) I1p g q1 q2 fun s2 I2=>?_);have zAk:s2.heap.get? it=some oi:=(I2.pin (it,oi) (A9 _ (A9 _ (BM (h:=h') (D4.mpr rfl) hoi)))).1;have I3:=I2.xJ;refine A4 ⟨O7 AG _,ih (i+1) (j+1) (BK wW (ps[i]).1 (ps[i]).2) s2 (by omega) w6 (by have:=Av wW (ps[i]).1 (ps[i]).2;omega) I3 ⟨oi,zAk,hci,hdi⟩ ⟨by rw[AB zV];rw[AB zV] at f0;exact f0,f1,f2,f3,f4,f5⟩ fun s' I'=>hR s' ?_⟩;rw[L0 yJ];exact I'
def Uv:List V->Hp->VK->Prop:=fun vs H Q=>∃(l:B5) (xs:List V) (ps:List (Aa×V)),vs=[.ref l]/\H l=some (.lst xs)/\xs.length=ps.length/\(∀(i:Nat) x p,xs[i]?=some x->ps[i]?=some p->mR H x p)/\∀d,H d=none->Q (.ref d) (upd H d (.dK (CP [] ps)))
theorem Ox{j:Nat}(hr:wo j X.A)(hc:X.calm=true:=by rfl):As X (.type "dict") Uv:=by
 intro pins s σ H vs us Q I r h;obtain⟨l,xs,ps,rfl,hl,hlen,hps,q⟩:=h;obtain⟨u,rfl,rx⟩:=vals1 r;cases rx;have hun:=hr.un;have hh:=I.ok.hd hc
 refine sC (Q₁:=fun obj wY=>obj=.ref s.heap.objs.size/\wY={ s with heap:=s.heap.push { cls:=.type "dict", data:=.dict #[] } }) Z5 (W4 _) Y7 (qt _ ⟨rfl,rfl⟩) ?_
 rintro obj wY ⟨rfl,rfl⟩
 have I0:Inv X pins σ (upd H s.heap.objs.size (.dK [])) { s with heap:=s.heap.push { cls:=.type "dict", data:=.dict #[] } }:=
  I.laid (a:=s.heap.objs.size) (o:=.dK []) (t':=s.toks) (fun _ _ q=>A2 _ q) (B0 _) (IQ s.heap I.big)
 have yd:=I.wb.fresh (B0 s.heap.objs.size);have hld:l≠s.heap.objs.size:=AO hl yd
 have hT:k4 { s with heap:=s.heap.push { cls:=.type "dict", data:=.dict #[] } } (.ref s.heap.objs.size) "dict" := ⟨_,B4 _ rfl,rfl⟩
 generalize hs1:({ s with heap:=s.heap.push { cls:=.type "dict", data:=.dict #[] } }:A6)=s1 at I0 hT
 refine⟨hT,X5 _ _,?_⟩;unfold M8.«dict.__init__»;refine A0 ?_;unfold X6;refine A0 (e9 hT ?_);show B7 _ _ (pure (s.heap.objs.size,[E2 l])) _ _ _;refine A4 ?_
 show B7 _ _ (M7 "dict.__init__" s.heap.objs.size (.ref l) [] .none) _ _ _
 unfold M7;obtain⟨its,rv,p,hz⟩:=I0.list (Ff (show upd H s.heap.objs.size (.dK []) l=some (.lst xs) by rw[AB hld];exact hl));obtain⟨o,n,ho,hco,hnd,hdo⟩:=id p
 refine A0 (M1 (T := "list") ⟨o,ho,hco⟩ ?_)
 rw[if_pos (by decide)];refine A0 ?_;refine QO ho hco hdo hnd (show X.A.in1.in1.handled=none from hh) fun h2 zM k2=>?_
 have I2:Inv X pins σ (upd H s.heap.objs.size (.dK [])) { s1 with heap:=h2,toks:=zM }:=I0.kept k2;rw[if_pos (by decide)];refine A0 (Q5 ?_);refine A0 (Q0 (s:={ s1 with heap:=h2,toks:=zM }) (p.isList.at fun o e=>k2 _ o e) ?_)
 have I3:Inv X pins σ (upd H s.heap.objs.size (.dK [])) { s1 with heap:=h2.push { cls:=.type "list_iterator", data:=.fields #[.ref l,.int 0 0] },toks:=zM }:=Inv.kept (s:={ s1 with heap:=h2,toks:=zM }) (t':=zM) I2 fun b o e=>A2 _ e
 refine A4 ⟨O7 AG _,Lz (X:=X) (A:=X.A.in1) (H0:=H) (it:=h2.objs.size) (d:=s.heap.objs.size) (show X.A.in1.handled=none from hh) (show X.A.units+1+3 < G8 by omega) yd hl hlen hps xs.length 0 0 [] _ (by omega) (E7 _) (B0 _) I3 ⟨_,B4 _ rfl,rfl,rfl⟩ (I2.wc (B0 _) (I2.wb.fresh (B0 _))) fun s' I'=>⟨rfl,.ref s.heap.objs.size,_,I',rfl,q _ yd⟩⟩
end
end L2
namespace L3
open PySem PySem.Spec PyProof.Rows L2
end L3
namespace KO
open PySem PySem.W PyProof.Rows
section
variable {prog:E5} {w:G3} {A:F3} {E:Value->A6->Prop} {κ:SortKind} {it:Array Keyed}
def TupAt(h:F7)(v:Value)(ns:List Int):Prop:=∃a items,v=.ref a/\IsTup h a items/\W7 items.toList ns
theorem TupAt.kept{h h':F7}{v:Value}{ns:List Int}(t:TupAt h v ns)(hk:∀b o,h.get? b=some o->o.cls=.type "tuple" -> h'.get? b=some o):TupAt h' v ns:=by
 obtain⟨a,items,e,⟨o,ho,hc,r⟩,hi⟩:=t;exact⟨a,items,e,⟨o,hk a o ho hc,hc,r⟩,hi⟩
end
end KO
namespace L2
open PySem PySem.Spec PyProof.Rows
end L2
namespace R
open PySem L2
noncomputable def Pq:Dv->Option (List Dv)
 | .tup ds=>some ds
 | .lst ds=>some ds
 | .xQ ns=>some (ns.map .int)
 | _=>none
variable {ds:List Dv}
section
variable {K:W.Frag} {g:G} {H:Hp}
abbrev mz(K:W.Frag)(g:G)(H:Hp)(a:B5)(b:Bool)(ds:List Dv):Prop:=∀g2 H2,Ii g H g2 H2->∃vs,JG K H2 a vs b/\AA K g2 H2 0 ds vs wX
theorem HX{d:Dv}{v:V}(h:Rep K g H 0 d v wX)(e:Pq d=some ds):∃a b,v=.ref a/\mz K g H a b ds:=by
 have z1:(0:Nat)<=1:=by decide
 cases d with
 | tup es =>
  cases e;obtain⟨a,vs,rfl,_⟩:=EY z1 h;refine⟨a,true,rfl,fun g2 H2 st=>?_⟩;obtain⟨a',us,q,k1,k2,_⟩:=EY z1 (st.rep h);cases q;exact⟨us,k1,k2⟩
 | lst es =>
  cases e;obtain⟨a,vs,rfl,_⟩:=DS z1 h;refine⟨a,false,rfl,fun g2 H2 st=>?_⟩;obtain⟨a',us,q,k1,k2,_⟩:=DS z1 (st.rep h);cases q;exact⟨us,k1,k2⟩
 | xQ ns =>
  cases e;obtain⟨a,rfl,_⟩:=Ll h;refine⟨a,false,rfl,fun g2 H2 st=>?_⟩;obtain⟨a',q,k1⟩:=Ll (st.rep h);cases q;exact⟨_,k1,DP ns⟩
 | _=>cases e
theorem KQ:Ii g H g H:=by
 first | exact⟨wX,wX,Step.refl,fun _ z=>z.elim⟩ | exact⟨wX,wX,Step.refl,we.wX⟩ | exact Ii.refl
noncomputable def Cv:List Dv->List Dv->List Dv
 | x1::xV,x2::xZ=>.tup [x1,x2]::Cv xV xZ
 | _,_=>[]
theorem JI:∀(xV xZ:List Dv) (i:Nat) (e:Dv),(Cv xV xZ)[i]?=some e->∃x1 x2,xV[i]?=some x1/\xZ[i]?=some x2/\e=.tup [x1,x2]
 | x1::xV,x2::xZ,0,e,h=>by simp[Cv] at h;exact⟨x1,x2,rfl,rfl,h.symm⟩
 | x1::xV,x2::xZ,i+1,e,h=>by
  obtain⟨y1,y2,h1,h2,q⟩:=JI xV xZ i e (by simpa[Cv] using h);exact⟨y1,y2,by simpa using h1,by simpa using h2,q⟩
 | [],_,i,e,h=>by simp[Cv] at h
 | x1::xV,[],i,e,h=>by simp[Cv] at h
theorem JJ:∀(xV xZ:List Dv) (i:Nat),(Cv xV xZ).length<=i->xV.length<=i\/xZ.length<=i
 | x1::xV,x2::xZ,0,h=>by simp[Cv] at h
 | x1::xV,x2::xZ,i+1,h=>by
  have:=JJ xV xZ i (by simpa[Cv] using h);simp only[E4];omega
 | [],_,i,h=>by simp
 | x1::xV,[],i,h=>by simp
def Hc(ds:List Dv):Option (List Dv):=two (fun x y=>(Pq x).bind fun xs=>(Pq y).bind fun ys=>some (Cv xs ys)) ds
def je(K:W.Frag):List V->Hp->(It->Hp->Prop)->Prop:=fun vs H1 R=>∃a1 a2 b1 b2,vs=[.ref a1,.ref a2]/\(∃xs,JG K H1 a1 xs b1)/\(∃xs,JG K H1 a2 xs b2)/\R (YC K a1 a2 b1 b2) H1
theorem YJ{a1 a2:B5}{b1 b2:Bool}{ds1 ds2:List Dv}(h1:mz K g H a1 b1 ds1)(h2:mz K g H a2 b2 ds2):Yl K (YC K a1 a2 b1 b2) (Cv ds1 ds2) g H:=by
 intro g2 H2 st;obtain⟨vs1,sq1,r1⟩:=h1 g2 H2 st;obtain⟨vs2,sq2,r2⟩:=h2 g2 H2 st;refine⟨fun i d e=>?_,fun i hi=>⟨vs1,vs2,sq1,sq2,by have:=JJ _ _ _ hi;rw[<- r1.len,<- r2.len];exact this⟩⟩;obtain⟨x1,x2,e1,e2,rfl⟩:=JI _ _ i d e;obtain⟨u1,_,eu1,ru1,_⟩:=r1.get e1;obtain⟨u2,_,eu2,ru2,_⟩:=r2.get e2;refine⟨⟨vs1,vs2,u1,u2,sq1,eu1,sq2,eu2⟩,fun x H3 y=>?_⟩;obtain⟨p,w1,w2,hp,rfl,rfl,y1,y2⟩:=y;have:=y1 vs1 sq1;rw[eu1] at this;cases this;have:=y2 vs2 sq2;rw[eu2] at this;cases this;exact Ac.tup (by decide) hp (BO (DC ru1.z) (DC ru2.z))
theorem UU:TZ K Hc (je K):=fun g H ds vs its Q zd ra e q=>by
 obtain⟨x,y,rfl,e⟩:=El e;obtain⟨xs,e1,e⟩:=wV e;obtain⟨ys,e2,e⟩:=wV e;cases e;obtain⟨v,us,rfl,h1,h2⟩:=Ap ra;obtain⟨w,us,rfl,h4,h3⟩:=Ap h2;cases Af h3;obtain⟨a,b,rfl,q1⟩:=HX h1 e1;obtain⟨a2,b2,rfl,q2⟩:=HX h4 e2;obtain⟨w1,s1,_⟩:=q1 g H KQ;obtain⟨w2,s2,_⟩:=q2 g H KQ;exact⟨a,a2,b,b2,rfl,⟨w1,s1⟩,⟨w2,s2⟩,q _ H (fun _ _ z=>z) (YJ q1 q2)⟩
noncomputable def Da(k:Nat):List Dv->List Dv
 | []=>[]
 | d::ds=>.tup [.int (k:Nat),d]::Da (k+1) ds
theorem Jq:∀(ds:List Dv) (k i:Nat) (e:Dv),(Da k ds)[i]?=some e->∃d,ds[i]?=some d/\e=.tup [.int ((k+i:Nat):Int),d]
 | [],k,i,e,h=>by simp[Da] at h
 | d::ds,k,0,e,h=>by simp[Da] at h;exact⟨d,rfl,h.symm⟩
 | d::ds,k,i+1,e,h=>by
  obtain⟨d',h1,h2⟩:=Jq ds (k+1) i e (by simpa[Da] using h);exact⟨d',by simpa using h1,by rw[h2];congr 3;omega⟩
theorem GN:∀(ds:List Dv) (k:Nat),(Da k ds).length=ds.length
 | [],k=>rfl
 | d::ds,k=>by simp[Da,GN ds]
def Pu(ds:List Dv):Option (List Dv):=one (fun x=>(Pq x).bind fun xs=>some (Da 0 xs)) ds
def kA(K:W.Frag):List V->Hp->(It->Hp->Prop)->Prop:=fun vs H1 R=>∃a b xs,vs=[.ref a]/\JG K H1 a xs b/\R (bL K a b xs.length) H1
theorem YL{a:B5}{b:Bool}(h:mz K g H a b ds):Yl K (bL K a b ds.length) (Da 0 ds) g H:=by
 intro g2 H2 st;obtain⟨vs,sq,hr⟩:=h g2 H2 st;refine⟨fun i d e=>?_,fun i hi=>⟨vs,sq,hr.len.symm,by rw[GN] at hi;exact hi⟩⟩;obtain⟨d',e',rfl⟩:=Jq ds 0 i d e;obtain⟨v,_,ev,rv,_⟩:=hr.get e';refine⟨⟨vs,v,sq,hr.len.symm,ev⟩,fun x H3 y=>?_⟩;obtain⟨p,w,hp,rfl,rfl,y⟩:=y;have:=y vs sq;rw[ev] at this;cases this;have ri:Rep K g2 H2 0 (.int ((0+i:Nat):Int)) (.int (i:Nat)) wX:=by rw[uI];exact Be
 exact Ac.tup (by decide) hp (BO (DC ri) (DC rv.z))
theorem UX:TZ K Pu (kA K):=fun g H ds vs its Q zd ra e q=>by
 obtain⟨x,rfl,e⟩:=MC e;obtain⟨xs,e1,e⟩:=wV e;cases e;obtain⟨v,us,rfl,h1,h2⟩:=Ap ra;cases Af h2;obtain⟨a,b,rfl,q1⟩:=HX h1 e1;obtain⟨w1,s1,r1⟩:=q1 g H KQ;exact⟨a,b,w1,rfl,s1,by rw[<- r1.len];exact q _ H (fun _ _ z=>z) (YL q1)⟩
def pT(ds:List Dv):Option (List Dv):=one (fun x=>match x with | .lst xs=>some xs.reverse | _=>none) ds
end
section
variable {K:W.Frag} {g:G} {H:Hp}
noncomputable def oV{α:Type}(f:Dv->Dv->Dv->Option α)(ds:List Dv):Option α:=match ds with | [a,b,c]=>f a b c | _=>none
def mP(ds:List Dv):Option Dv:=match ds with
 | [.int j]=>if small j=true/\j<=1000000 then some (.lst ((B3 j.toNat).map fun k=>.int (k:Nat))) else none
 | [.int i,.int j]=>if(small i && small j)=true/\j - i<=1000000 then some (.lst ((B3 (j - i).toNat).map fun k=>.int (i+(k:Nat)))) else none
 | _=>none
def Xx(x:Dv)(ds:List Dv):Option (Dv×Dv):=match x,ds with
 | .lst xs,[.int i]=>if small i=true then(uT i xs.length).bind fun k=>(xs[k]?).map fun d=>(d,.lst (xs.eraseIdx k)) else none
 | _,_=>none
theorem kc:Ta K Xx eN:=fun g H x v P ds us r y Q zd rx rd e k=>by
 unfold Xx at e;split at e
 ·rename_i xs i;split at e
  ·rename_i c;obtain⟨n,en,e⟩:=wV e;simp only[D7,Prod.mk.injEq] at e;obtain⟨d,ed,rfl,rfl⟩:=e;obtain⟨a,vs,rfl,ha,hz,hx,hP,go⟩:=EI rx;obtain⟨u,xG,rfl,hu,h2⟩:=Ap rd;cases Af h2;obtain⟨s,hd,mk⟩:=go (vs.eraseIdx n);have h0:=Dn.mp hx;obtain⟨w,P1,e2,r2,_⟩:=hx.get ed;have b:=En c;rw[AI hu];refine⟨a,vs,i,n,w,rfl,rfl,ha,by omega,by omega,by rw[<- h0.1];exact en,e2,k _ _ P s (mk _ ?_) (hd r2.z)⟩;refine Dn.mpr ⟨by simp[l0,h0.1],fun j d v e3 e4=>?_⟩;rw[List.getElem?_eraseIdx] at e3 e4;split at e3
   ·rename_i z;rw[if_pos z] at e4;exact h0.2 j d v e3 e4
   ·rename_i z;rw[if_neg z] at e4;exact h0.2 (j+1) d v e3 e4
  ·cases e
 ·cases e
end
noncomputable def LM(x:Dv)(ds:List Dv):Option (Dv×Dv):=match x,ds with
 | .lst _,[]=>some (.wa,.lst [])
 | _,_=>none
theorem Vg{K:W.Frag}:Ta K LM Uy:=fun g H x v P ds us r y Q zd rx rd e k=>by
 unfold LM at e;split at e
 ·cases e;obtain⟨a,vs,rfl,ha,hz,hx,hP,go⟩:=EI rx;cases Af rd;obtain⟨s,hd,mk⟩:=go [];exact⟨a,vs,rfl,rfl,ha,k _ _ P s (mk _ AA.nil) DE⟩
 ·cases e
noncomputable def GV:Dv->Option Bool
 | .wa=>some false
 | .bl b=>some b
 | .int i=>some (i != 0)
 | .str l=>if l.length<=1000000 then some (!l.isEmpty) else none
 | .lst xs=>some (!xs.isEmpty)
 | .tup xs=>some (!xs.isEmpty)
 | .xQ xs=>some (!xs.isEmpty)
 | .xH ks _=>some (!ks.isEmpty)
 | _=>none
variable {H:Hp}
theorem QA{K:W.Frag}{g:G}{o:Nat}{xs:List Dv}{vs:List V}{P:Fp}(h:AA K g H o xs vs P):(!xs.isEmpty)=!vs.isEmpty:=by
 have:=h.len;cases xs<;>cases vs<;>simp at this<;>rfl
theorem YT(K:W.Frag)(g:G)(H:Hp)(o:Nat)(d:Dv)(v:V)(P:Fp)(b:Bool)(h:Rep K g H o d v P)(e:GV d=some b):YA K v H b:=by
 cases d with
 | wa=>cases e;rw[FB h];exact rfl
 | bl b=>cases e;rw[Cj h];exact rfl
 | int i=>cases e;rw[AI h];exact rfl
 | str l =>
  simp only[GV.eq_def] at e;split at e
  ·rename_i hl;cases e;rw[BA h];refine⟨by rw[Bz];exact B9 hl (by decide),?_⟩;rw[Bz];cases l<;>simp;omega
  ·cases e
 | lst xs =>
  cases e;unfold Rep at h;obtain⟨a,vs,P',rfl,h1,h2,_⟩:=h;exact .inl ⟨vs,.inl (.inl h1.1),QA h2⟩
 | tup xs =>
  cases e;unfold Rep at h;obtain⟨a,vs,rfl,h1,h2⟩:=h;exact .inr (.inl ⟨vs,.inl (.inl h1),QA h2⟩)
 | xQ ns =>
  cases e;obtain⟨a,rfl,h1⟩:=Ll h;exact .inl ⟨_,h1,by cases ns<;>rfl⟩
 | xH ks ds =>
  cases e;obtain⟨a,us,rfl,ha,hl,hx⟩:=Sd h;refine .inr (.inr ⟨_,ha,?_⟩);have:=hx.len;cases ks<;>cases ds<;>cases us<;>simp at hl this<;>rfl
 | _=>cases e
noncomputable def ID(ns:List Int):List Int:=ns.mergeSort fun a b=>decide (a<=b)
theorem OX(ns:List Int):(ID ns).Perm ns:=sN ..
theorem Vx(ns:List Int):(ID ns).Pairwise (·<=·):=by
 have:=qx (le:=fun a b:Int=>decide (a<=b)) (fun a b c h1 h2=>by simp at *;omega) (fun a b=>by simp;omega) ns;exact this.imp fun h=>of_decide_eq_true h
theorem MP{ns ms:List Int}(h:ms.Perm ns)(h2:ms.Pairwise (·<=·)):ms=ID ns:=qj (fun a b _ _ h1 h2=>rR h1 h2) h2 (Vx ns) (h.trans (OX ns).symm)
def Dc:List Dv->Option (List (List Int))
 | []=>some []
 | .tup ks::ds=>(BU ks).bind fun ns=>(Dc ds).map (ns::·)
 | _=>none
noncomputable def YE:List (List Int)->Bool
 | (_::_)::_::_=>false
 | _=>true
theorem JM{K:W.Frag}{g:G}{H:Hp}:∀{ds:List Dv} {kss:List (List Int)} {vs:List V},AA K g H 0 ds vs wX->Dc ds=some kss->vs.length=kss.length/\∀(i:Nat) v ns,vs[i]?=some v->kss[i]?=some ns->∃b,v=.ref b/\DL K H b (ns.map V.int)
 | [],kss,vs,h,e=>by
  rw[Af h];cases e;exact⟨rfl,fun i v ns z=>by simp at z⟩
 | d::ds,kss,vs,h,e=>by
  obtain⟨v,us,rfl,h1,h2⟩:=Ap h;cases d<;>first | (simp only[Dc,reduceCtorEq] at e;done) | skip
  rename_i ks;simp only[Dc,J8,D7] at e;obtain⟨ns,e1,rest,e2,rfl⟩:=e;obtain⟨hl,hr⟩:=JM h2 e2;refine⟨by simp[hl],fun i w ms q1 q2=>?_⟩;cases i with
  | zero =>
   simp only[qy,Q3] at q1 q2;subst q1 q2;obtain⟨a,xG,rfl,ha,hx,_⟩:=EY (by decide:0<=1) h1;rw[EB hx e1] at ha;exact⟨a,rfl,ha⟩
  | succ i=>exact hr i w ms (by simpa using q1) (by simpa using q2)
theorem NG:N0 "sorted" = some (.builtin "sorted"):=by decide +kernel
theorem Il{es:List Expr}(h:es.length=1):∃a,es=[a]:=List.length_eq_one_iff.mp h
theorem pE{es:List Expr}(h:es.length=2):∃a b,es=[a,b]:=by
 cases es with
 | nil=>cases h
 | cons a es=>obtain⟨b,rfl⟩:=Il (Nat.succ.inj h);exact⟨a,b,rfl⟩
theorem bP{tg:Expr}(h:MQ tg=true):∃elts x1 xj,tg=.Tuple elts x1 xj:=by
 cases tg<;>first | exact⟨_,_,_,rfl⟩ | cases h
theorem Zw{X:Cx}(h:Gx X):X.A.units+1 < G8:=by obtain⟨j,r⟩:=h.2;have:=r.un;omega
theorem MR{X:Cx}(h:Gx X):X.A.units+2 < G8:=by obtain⟨j,r⟩:=h.2;have:=r.un;omega
theorem Ac.zAs{K:W.Frag}{g:G}{ks:List Aa}{us:List V}{p:B5}(zd:Zd g H)(hl:ks.length=ds.length)(rp:AA K g H 0 ds us wX)(hp:H p=none):Ac K g H 1 (.xH ks ds) (.ref p) (upd H p (.dK (ks.zip us))):=by
 have sm:=CM hp (.dK (ks.zip us));refine⟨sm,fun b=>b=p,?_,fun a q=>q▸hp⟩;unfold Rep;exact⟨p,us,rfl,AF,(fun z=>by cases z),(fun _ z=>zd p z hp),⟨hl,wX,rp.held (Step.same (g:=g) (P:=wX) sm) we.wX fun _ _ z=>z⟩,fun b=>⟨fun z=>⟨by decide,z⟩,fun z=>z.2⟩⟩
theorem Ac.zCb{K:W.Frag}{g:G}{ks:List (List Aa)}{us:List V}{p:B5}(zd:Zd g H)(hl:ks.length=ds.length)(rp:AA K g H 0 ds us wX)(hp:H p=none):Ac K g H 1 (.zZ ks ds) (.ref p) (upd H p (.dT (ks.zip us))):=by
 have sm:=CM hp (.dT (ks.zip us));refine⟨sm,fun b=>b=p,?_,fun a q=>q▸hp⟩;unfold Rep;exact⟨p,us,rfl,AF,(fun z=>by cases z),(fun _ z=>zd p z hp),⟨hl,wX,rp.held (Step.same (g:=g) (P:=wX) sm) we.wX fun _ _ z=>z⟩,fun b=>⟨fun z=>⟨by decide,z⟩,fun z=>z.2⟩⟩
def Jb:Dv->Option (Aa×Dv)
 | .tup [a,b]=>(EU a).bind fun k=>some (k,b)
 | _=>none
def VY:Dv->Option (List Aa×Dv)
 | .tup [a,b]=>(gQ a).bind fun k=>some (k,b)
 | _=>none
section
variable {κ:Type} [DecidableEq κ] {K:W.Frag} {g:G} {H:Hp}
noncomputable def DQ(f:Dv->Option (κ×Dv)):List Dv->Option (List (κ×Dv))
 | []=>some []
 | d::ds=>(f d).bind fun p=>(DQ f ds).bind fun ps=>some (p::ps)
def GR:List κ->List Dv->List (κ×Dv)->List κ×List Dv
 | ks,ds,[]=>(ks,ds)
 | ks,ds,p::ps=>GR (JA p.1 ks) (Iz p.1 p.2 ks ds) ps
theorem FN:∀{qs:List (κ×Dv)} {ps:List (κ×V)} {ks:List κ} {ds:List Dv} {us:List V} {R:Fp},ks.length=ds.length->AA K g H 0 ds us R->qs.map (·.1)=ps.map (·.1)->AA K g H 0 (qs.map (·.2)) (ps.map (·.2)) wX->∃xG,CP (ks.zip us) ps=(GR ks ds qs).1.zip xG/\AA K g H 0 (GR ks ds qs).2 xG wX/\(GR ks ds qs).1.length=(GR ks ds qs).2.length
 | [],[],ks,ds,us,R,hl,h,_,_=>⟨us,rfl,h.z,hl⟩
 | [],_::_,_,_,_,_,_,_,e,_=>by cases e
 | _::_,[],_,_,_,_,_,_,e,_=>by cases e
 | q::qs,p::ps,ks,ds,us,R,hl,h,e,hr=>by
  rw[D3,D3,ux] at e;rw[D3,D3] at hr;unfold AA at hr;obtain⟨v,r,P1,P2,ev,h1,h2,_⟩:=hr;cases ev;obtain⟨us1,e1,e2,e3⟩:=IR (k:=q.1) hl h h1.z;obtain⟨us2,f1,f2,f3⟩:=FN e3 e2 e.2 h2.z;refine⟨us2,?_,f2,f3⟩;show CP (BK (ks.zip us) p.1 p.2) ps=(GR (JA q.1 ks) (Iz q.1 q.2 ks ds) qs).1.zip us2;rw[<- f1,<- e1,e.1]
theorem EH{f:Dv->Option (κ×Dv)}{Pr:V->κ×V->Prop}(hf:∀d q v P,f d=some q->Rep K g H 0 d v P->∃w,Pr v (q.1,w)/\Rep K g H 0 q.2 w wX):∀{xs:List Dv} {us:List V} {P:Fp} {qs:List (κ×Dv)},AA K g H 0 xs us P->DQ f xs=some qs ->
    ∃ps:List (κ×V),us.length=ps.length/\(∀(i:Nat) x p,us[i]?=some x->ps[i]?=some p->Pr x p)/\qs.map (·.1)=ps.map (·.1)/\AA K g H 0 (qs.map (·.2)) (ps.map (·.2)) wX
  | [],us,P,qs,h,e=>by
    cases e;unfold AA at h;obtain⟨rfl,_⟩:=h;exact⟨[],rfl,(fun i x p z=>by simp at z),rfl,AA.nil⟩
  | d::ds,us,P,qs,h,e=>by
    obtain⟨q,e1,e⟩:=wV e;obtain⟨qs',e2,e⟩:=wV e;cases e;unfold AA at h;obtain⟨v,r,P1,P2,rfl,h1,h2,_⟩:=h;obtain⟨w,w1,w2⟩:=hf d q v P1 e1 h1;obtain⟨ps,p1,p2,p3,p4⟩:=EH hf h2 e2;refine⟨(q.1,w)::ps,by simp[p1],fun i x p hx hp=>?_,by simp[p3],?_⟩
    · cases i with
      | zero=>simp only[qy,Q3] at hx hp;subst hx hp;exact w1
      | succ i=>exact p2 i x p (by simpa using hx) (by simpa using hp)
    · exact(AA.cons (P1:=wX) (P2:=wX) w2 p4 fun _ z=>z.elim).iff fun a=>⟨fun z=>z.elim,fun z=>z.elim id id⟩
end
theorem Pd{K:W.Frag}{g:G}{a b:Dv}{v:V}{P:Fp}(h:Rep K g H 0 (.tup [a,b]) v P):∃t x y,v=.ref t/\H t=some (.tup [x,y])/\Rep K g H 0 a x wX/\Rep K g H 0 b y wX:=by
 unfold Rep at h;obtain⟨t,vs,rfl,h1,h2⟩:=h;unfold AA at h2;obtain⟨x,r,P1,P2,rfl,hx,h2,_⟩:=h2;unfold AA at h2;obtain⟨y,r2,P3,P4,rfl,hy,h2,_⟩:=h2;unfold AA at h2;obtain⟨rfl,_⟩:=h2;exact⟨t,x,y,rfl,h1,hx.z,hy.z⟩
theorem Ja{K:W.Frag}{g:G}(d:Dv)(q:Aa×Dv)(v:V)(P:Fp)(e:Jb d=some q)(h:Rep K g H 0 d v P):∃w,mR H v (q.1,w)/\Rep K g H 0 q.2 w wX:=by
 unfold Jb at e;split at e
 ·obtain⟨k,ek,e⟩:=wV e;cases e;obtain⟨t,x,y,rfl,h1,hx,hy⟩:=Pd h;rw[EN hx ek] at h1;exact⟨y,⟨t,rfl,h1⟩,hy⟩
 ·cases e
theorem Rn{K:W.Frag}{g:G}(d:Dv)(q:List Aa×Dv)(v:V)(P:Fp)(e:VY d=some q)(h:Rep K g H 0 d v P):∃w,oO H v (q.1,w)/\Rep K g H 0 q.2 w wX:=by
 unfold VY at e;split at e
 ·obtain⟨k,ek,e⟩:=wV e;cases e;obtain⟨t,x,y,rfl,h1,hx,hy⟩:=Pd h;obtain⟨b,rfl,hb⟩:=MM hx ek;exact⟨y,⟨t,b,rfl,h1,hb⟩,hy⟩
 ·cases e
def lS(xs:List Dv):Option Dv:=(DQ Jb xs).bind fun qs=>some (.xH (GR [] [] qs).1 (GR [] [] qs).2)
def ny(xs:List Dv):Option Dv:=(DQ VY xs).bind fun qs=>some (.zZ (GR [] [] qs).1 (GR [] [] qs).2)
def Ih(x:Dv):Option Dv:=match x with
 | .xH ks ds=>some (.xH ks ds)
 | .tup xs=>lS xs
 | .lst xs=>(lS xs).or (ny xs)
 | _=>none
theorem VJ{K:W.Frag}:AK K (one Ih) 1 (fun vs H Q=>Ux vs H Q\/Uw vs H Q\/Uv vs H Q\/Uu vs H Q):=Cm fun g H x v o1 P d Q zd l1 h1 e k=>by
 unfold Ih at e;split at e
 ·cases e;obtain⟨a,us,rfl,ha,hl,hx⟩:=Sd h1;exact .inl ⟨a,_,rfl,ha,fun p hp=>k _ _ (Ac.zAs zd hl hx hp)⟩
 ·obtain⟨qs,e1,e⟩:=wV e;cases e;obtain⟨a,us,rfl,_,hx,ha⟩:=EY l1 h1;obtain⟨ps,p1,p2,p3,p4⟩:=EH Ja hx e1;obtain⟨xG,f1,f2,f3⟩:=FN (qs:=qs) (ps:=ps) (ks:=[]) (ds:=[]) (us:=[]) rfl AA.nil p3 p4;refine .inr (.inl ⟨a,us,ps,rfl,ha,p1,p2,fun p hp=>?_⟩);rw[show CP [] ps=_ from f1];exact k _ _ (Ac.zAs zd f3 f2 hp)
 ·rcases V6.mp e with e | ⟨_,e⟩
  ·obtain⟨qs,e1,e⟩:=wV e;cases e;obtain⟨a,us,rfl,_,hx,ha⟩:=DS l1 h1;obtain⟨ps,p1,p2,p3,p4⟩:=EH Ja hx e1;obtain⟨xG,f1,f2,f3⟩:=FN (qs:=qs) (ps:=ps) (ks:=[]) (ds:=[]) (us:=[]) rfl AA.nil p3 p4;refine .inr (.inr (.inl ⟨a,us,ps,rfl,ha,p1,p2,fun p hp=>?_⟩));rw[show CP [] ps=_ from f1];exact k _ _ (Ac.zAs zd f3 f2 hp)
  ·obtain⟨qs,e1,e⟩:=wV e;cases e;obtain⟨a,us,rfl,_,hx,ha⟩:=DS l1 h1;obtain⟨ps,p1,p2,p3,p4⟩:=EH Rn hx e1;obtain⟨xG,f1,f2,f3⟩:=FN (qs:=qs) (ps:=ps) (ks:=[]) (ds:=[]) (us:=[]) rfl AA.nil p3 p4;refine .inr (.inr (.inr ⟨a,us,ps,rfl,ha,p1,p2,fun p hp=>?_⟩));rw[show CP [] ps=_ from f1];exact k _ _ (Ac.zCb zd f3 f2 hp)
 ·cases e
theorem PJ:N0 "dict" = some (.type "dict"):=by decide +kernel
end R
namespace KO
open PySem PySem.W PyProof.Rows
def ok{α:Type}(N:Nat)(lt:Nat->Nat->Bool):KasT α->(α->Prop)->Prop
 | .ret a,Q=>Q a
 | .ask i j k,Q=>(i < N/\j < N)/\ok N lt (k (lt i j)) Q
theorem EJ{α β:Type}{N:Nat}{lt:Nat->Nat->Bool}{f:α->KasT β}{Q:β->Prop}:∀{t:KasT α},ok N lt t (fun a=>ok N lt (f a) Q)->ok N lt (t.bind f) Q
 | .ret _,h=>h
 | .ask i j k,h=>⟨h.1,EJ (t:=k (lt i j)) h.2⟩
theorem bw{α:Type}{lt:Nat->Nat->Bool}{cmp:Nat->Nat->(Bool->A6->Prop)->A6->Prop}{s:A6}{N:Nat}(hc:∀i j C,i < N->j < N->C (lt i j) s->cmp i j C s){Q:α->A6->Prop}:∀{t:KasT α},ok N lt t (fun a=>Q a s)->t.kasWp cmp Q s
 | .ret _,h=>h
 | .ask i j k,h=>hc i j _ h.1.1 h.1.2 (bw hc (t:=k (lt i j)) h.2)
variable {p p0:Array Nat} {xb:Nat}
section
variable {κ:KeyOrd} {key:Nat->κ.α} {N:Nat}
noncomputable def kk(key:Nat->κ.α)(p:Array Nat)(i:Nat):κ.α:=key (p.getD i 0)
def So(key:Nat->κ.α)(p:Array Nat)(n:Nat):Prop:=∀i j,i<=j->j < n->κ.kle (kk key p i) (kk key p j)
def Ni(key:Nat->κ.α)(p:Array Nat)(n:Nat):Prop:=∀i j,i<=j->j < n->κ.kle (kk key p j) (kk key p i)
theorem ML{q:Array Nat}{i j:Nat}(h:p[i]?=q[j]?):kk key p i=kk key q j:=by
 unfold kk;rw[W0,W0,h]
theorem Jh{src d:Nat}(hs:src < p.size)(hd:d<=src)(k:Nat) :
    kk key (bubble p src d) k=if k=src - d then kk key p src else if src - d < k/\k<=src then kk key p (k - 1) else kk key p k:=by
  have e:=getElem?_bubble hs d hd k;split at e
  · rename_i h;rw[if_pos h];exact ML e
  · rename_i h;rw[if_neg h];split at e
    · rename_i h;rw[if_pos h];exact ML e
    · rename_i h;rw[if_neg h];exact ML e
theorem OT{i j:Nat}(hj:j<=p.size)(k:Nat):kk key (sL p i j) k=if i<=k/\k < j then kk key p (i+j - 1 - k) else kk key p k:=by
 have e:=getElem?_mirror_all (i:=i) hj k;split at e
 ·rename_i h;rw[if_pos h];exact ML e
 ·rename_i h;rw[if_neg h];exact ML e
theorem FI{i j:Nat}(hj:j<=p.size)(he:∀k,i<=k->k < j->kk key p k=kk key p (j - 1))(k:Nat):kk key (sL p i j) k=kk key p k:=by
 rw[OT hj];split
 ·rw[he _ (by omega) (by omega),he k (by omega) (by omega)]
 ·rfl
theorem Dm(p:Array Nat)(i j:Nat):(sL p i j).Perm p:=mirror_perm _ _ _ _
theorem Hh(p:Array Nat)(i j:Nat):(sL p i j).size=p.size:=mirror_size _ _ _ _
def Bd(N:Nat)(p:Array Nat):Prop:=0 < N/\∀i∈p.toList,i < N
theorem Bd.of{q:Array Nat}(h:Bd N q)(hp:p.Perm q):Bd N p:=⟨h.1,fun i hi=>h.2 i ((qM.mp hp).mem_iff.mp hi)⟩
theorem Bd.at(h:Bd N p)(i:Nat):p.getD i 0 < N:=by
 rw[W0];cases e:p[i]? with
 | none=>exact h.1
 | some x =>
  obtain⟨w,e⟩:=N6.mp e;exact h.2 x (by rw[<- e];simp)
noncomputable abbrev lt(key:Nat->κ.α):Nat->Nat->Bool:=fun i j=>κ.blt (key i) (key j)
theorem PK{p:Array Nat}{Q:Nat->Prop}(bd:Bd N p):∀(f n:Nat),1<=n->So key p n->(∀m,n<=m->m<=n+f->So key p m->(m=n+f\/κ.klt (kk key p m) (kk key p (m - 1)))->Q m)->ok N (lt key) (kas_asc p f n) Q
 | 0,n,_,hs,h=>h n (B0 _) (B0 _) hs (.inl rfl)
 | f+1,n,h1,hs,h=>by
  refine⟨⟨bd.at _,bd.at _⟩,?_⟩;show ok N (lt key) (if κ.blt (kk key p n) (kk key p (n - 1))=true then vY n else kas_asc p f (n+1)) Q;split
  ·rename_i c;exact h n (B0 _) (by omega) hs (.inr c)
  ·rename_i c;refine PK bd f (n+1) (by omega) (fun i j zg hj=>?_) fun m a b c' d=>h m (by omega) (by omega) c' (d.imp (fun z=>by omega) id)
   by_cases q:j < n
   ·exact hs i j zg q
   ·have:j=n:=by omega
    subst this
    by_cases w:i=j
    ·subst w;exact Q9 _
    ·exact j8 (hs i (j - 1) (by omega) (by omega)) (by unfold vZ;simpa using c)
theorem HA{Q:Array Nat×Nat×Nat->Prop}(bd:Bd N p0):∀(f:Nat) (p:Array Nat) (n q:Nat),p.Perm p0->n+f<=p.size->q+1<=n->Ni key p n->(∀i,n - (q+1)<=i->i < n->kk key p i=kk key p (n - 1)) ->
    (∀p m q,p.Perm p0->m<=n+f->n<=m->q+1<=m->Ni key p m->(∀i,m - (q+1)<=i->i < m->kk key p i=kk key p (m - 1))->Q (p,m,q))->ok N (lt key) (uJ f p n q) Q
  | 0,p,n,q,hp,hz,hq,hs,he,h=>h p n q hp (B0 _) (B0 _) hq hs he
  | f+1,p,n,q,hp,hz,hq,hs,he,h=>by
    have up:∀{p':Array Nat},(∀k,kk key p' k=kk key p k)->κ.blt (kk key p n) (kk key p (n - 1))=true->Ni key p' (n+1):=fun{p'} hk c i j zg hj=>by
      rw[hk,hk]
      by_cases w:j < n
      · exact hs i j zg w
      · have:j=n:=by omega
        subst this
        by_cases w:i=j
        · subst w;exact Q9 _
        · exact j8 (Z9 c) (hs i (j - 1) (by omega) (by omega))
    have one:∀(p':Array Nat),∀i,n+1 - (0+1)<=i->i < n+1->kk key p' i=kk key p' (n+1 - 1):=fun p' i a b=>by congr 1;omega
    have go:∀(p m q),p.Perm p0->m<=n+1+f->n+1<=m->q+1<=m->Ni key p m->(∀i,m - (q+1)<=i->i < m->kk key p i=kk key p (m - 1))->Q (p,m,q):=fun p m q a b c=>h p m q a (by omega) (by omega)
    refine⟨⟨(bd.of hp).at _,(bd.of hp).at _⟩,?_⟩;show ok N (lt key) (if κ.blt (kk key p n) (kk key p (n - 1))=true then(if q > 0 then uJ f (sL p (n - (q+1)) n) (n+1) 0 else uJ f p (n+1) 0) else .ask (p.getD (n - 1) 0) (p.getD n 0) fun d=>if d=true then .ret (p,n,q) else uJ f p (n+1) (q+1)) Q;split
    · rename_i c;split
      · exact HA bd f _ (n+1) 0 ((Dm _ _ _).trans hp) (by rw[Hh];omega) (by omega) (up (FI (by omega) he) c) (one _) go
      · exact HA bd f p (n+1) 0 hp (by omega) (by omega) (up (fun _=>rfl) c) (one _) go
    · rename_i c;refine⟨⟨(bd.of hp).at _,(bd.of hp).at _⟩,?_⟩;show ok N (lt key) (if κ.blt (kk key p (n - 1)) (kk key p n)=true then vY (p,n,q) else uJ f p (n+1) (q+1)) Q;split
      · exact h p n q hp (by omega) (B0 _) hq hs he
      · rename_i d;have e:kk key p n=kk key p (n - 1):=κ.total _ _ (by simpa using c) (by simpa using d);refine HA bd f p (n+1) (q+1) hp (by omega) (by omega) (fun i j zg hj=>?_) (fun i a b=>?_) go
        · by_cases w:j < n
          · exact hs i j zg w
          · have:j=n:=by omega
            subst this
            by_cases w:i=j
            · subst w;exact Q9 _
            · rw[e];exact hs i (j - 1) (by omega) (by omega)
        · rw[show n+1 - 1=n by omega]
          by_cases w:i=n
          · subst w;rfl
          · rw[e];exact he i (by omega) (by omega)
theorem Pg{n:Nat}{Q:Nat×Array Nat->Prop}(bd:Bd N p0)(hp:p.Perm p0)(h1:1<=n)(hn:n<=xb)(hz:xb<=p.size)(hs:Ni key p n)(h:∀m p,p.Perm p0->1<=m->m<=xb->So key p m->Q (m,p)):ok N (lt key) (vo n xb p) Q:=by
 refine EJ (PK ((bd.of hp).of (Dm _ _ _)) _ n h1 (fun i j zg hj=>?_) fun m a b c _=>h m _ ((Dm _ _ _).trans hp) (by omega) (by omega) c);rw[OT (by omega),OT (by omega),if_pos (by omega),if_pos (by omega)];exact hs _ _ (by omega) (by omega)
theorem cR{n:Nat}{Q:Nat×Array Nat->Prop}(bd:Bd N p0)(hp:p.Perm p0)(hn:n+1<=xb)(hz:xb<=p.size)(hs:Ni key p (n+1))(h:∀m p,p.Perm p0->1<=m->m<=xb->So key p m->Q (m,p)):ok N (lt key) (kas_descPart n xb p) Q:=by
 have hzz:=qN hp;refine EJ (HA (p0:=p0) bd _ p (n+1) 0 hp (by omega) (by omega) hs (fun i a b=>by congr 1;omega) fun p m q a b c d e f=>?_);have hz2:=qN a;show ok N (lt key) (if q > 0 then vo m xb (sL p (m - (q+1)) m) else vo m xb p) Q;split
 ·refine Pg bd ((Dm _ _ _).trans a) (by omega) (by omega) (by rw[Hh];omega) (fun i j zg hj=>?_) h;rw[FI (by omega) f,FI (by omega) f];exact e i j zg hj
 ·exact Pg bd a (by omega) (by omega) (by omega) e h
theorem Wx{Q:Nat×Array Nat->Prop}(bd:Bd N p0)(hp:p.Perm p0)(h1:1<=xb)(hz:xb<=p.size)(h:∀m p,p.Perm p0->1<=m->m<=xb->So key p m->Q (m,p)):ok N (lt key) (kas_count xb p) Q:=by
  refine EJ (PK (bd.of hp) _ 1 (B0 _) (fun i j zg hj=>(by have:i=j:=(by omega);subst this;exact Q9 _)) fun n a b hsn hor=>?_)
  by_cases hnn:n=xb
  · rw[if_pos (by simpa using hnn)];exact h n p hp a (by omega) hsn
  · rw[if_neg (by simpa using hnn)];have w6:κ.klt (kk key p n) (kk key p (n - 1)):=hor.resolve_left (by omega)
    by_cases hgt:n > 1
    · rw[if_pos hgt];refine⟨⟨(bd.of hp).at _,(bd.of hp).at _⟩,?_⟩;show ok N (lt key) (if κ.blt (kk key p 0) (kk key p (n - 1))=true then vY (n,p) else kas_descPart n xb (sL p 0 n)) Q;split
      · exact h n p hp a (by omega) hsn
      · rename_i hr;have xr:∀k,0<=k->k < n->kk key p k=kk key p (n - 1):=fun k _ hk=>by
          have a1:=hsn 0 k (by omega) hk;have a2:=hsn k (n - 1) (by omega) (by omega);exact KeyOrd.kle_antisymm a2 (j8 (by unfold vZ;simpa using hr) a1)
        refine cR bd ((Dm _ _ _).trans hp) (by omega) (by rw[Hh];omega) (fun i j zg hj=>?_) h;rw[FI (by omega) xr,FI (by omega) xr]
        by_cases hjn:j < n
        · rw[xr i (by omega) (by omega),xr j (by omega) hjn];exact Q9 _
        · have hj':j=n:=by omega
          subst hj'
          by_cases hi':i=j
          · subst hi';exact Q9 _
          · rw[xr i (by omega) (by omega)];exact Z9 w6
    · rw[if_neg hgt];have zDQ:n=1:=by omega
      subst zDQ;refine cR bd hp (by omega) hz (fun i j zg hj=>?_) h
      by_cases hi':i=j
      · subst hi';exact Q9 _
      · have hi0:i=0:=by omega
        have hj1:j=1:=by omega
        subst hi0;subst hj1;exact Z9 w6
theorem Ho{k:Nat}{Q:Nat->Prop}(bd:Bd N p)(hs:So key p k):∀(f l r:Nat),l<=r->r<=k->r - l<=f->(∀i,i < l->κ.kle (kk key p i) (kk key p k))->(∀i,r<=i->i < k->κ.klt (kk key p k) (kk key p i)) ->
    (∀l,l<=k->(∀i,i < l->κ.kle (kk key p i) (kk key p k))->(∀i,l<=i->i < k->κ.klt (kk key p k) (kk key p i))->Q l)->ok N (lt key) (ug p k f l r) Q
  | 0,l,r,h1,h2,h3,ha,hb,h=>h l (by omega) ha fun i a b=>hb i (by omega) b
  | f+1,l,r,h1,h2,h3,ha,hb,h=>by
    unfold ug;split
    · exact h l (by omega) ha fun i a b=>hb i (by omega) b
    · refine⟨⟨bd.at _,bd.at _⟩,?_⟩;show ok N (lt key) (if κ.blt (kk key p k) (kk key p ((l+r) / 2))=true then ug p k f l ((l+r) / 2) else ug p k f ((l+r) / 2+1) r) Q;split
      · rename_i c;exact Ho bd hs f l _ (by omega) (by omega) (by omega) ha (fun i a b=>KeyOrd.klt_of_klt_of_kle c (hs _ _ a b)) h
      · rename_i c;exact Ho bd hs f _ r (by omega) (by omega) (by omega) (fun i a=>j8 (hs i ((l+r) / 2) (by omega) (by omega)) (by unfold vZ;simpa using c)) hb h
theorem Xm{p0:Array Nat}{Q:Array Nat->Prop}(bd:Bd N p0):∀(f:Nat) (p:Array Nat) (k:Nat),p.Perm p0->k+f<=p.size->So key p k->(∀p,p.Perm p0->So key p (k+f)->Q p)->ok N (lt key) (kas_bin f p k) Q
 | 0,p,k,hp,hz,hs,h=>h p hp hs
 | f+1,p,k,hp,hz,hs,h=>by
  refine EJ (Ho (bd.of hp) hs k 0 k (by omega) (by omega) (by omega) (fun i a=>by omega) (fun i a b=>by omega) fun l hl ha hb=>?_);refine Xm bd f _ (k+1) ((bubble_perm _ _ _).trans hp) (by rw[bubble_size];omega) (fun i j zg hj=>?_) fun p a b=>h p a (by rw[show k+(f+1)=k+1+f by omega];exact b)
  rw[Jh (by omega) (by omega),Jh (by omega) (by omega),show k - (k - l)=l by omega]
  repeat' split
  all_goals first
   | (exfalso;omega)
   | exact Q9 _
   | exact ha _ (by omega)
   | exact Z9 (hb _ (by omega) (by omega))
   | exact hs _ _ (by omega) (by omega)
theorem Yf{n:Nat}(h2:1<=n){Q:Array Nat->Prop}(h:∀p:Array Nat,p.Perm (X0 (B3 n))->So key p n->Q p):ok n (lt key) (kas_sort n) Q:=by
 have bd:Bd n (X0 (B3 n)):=⟨h2,fun i hi=>by simpa using hi⟩;have hz:(X0 (B3 n)).size=n:=by simp
 refine EJ (Wx (p0:=X0 (B3 n)) bd (Array.Perm.refl _) h2 (by omega) fun m p a b c d=>?_);have hz2:=qN a;show ok n (lt key) (if m < n then kas_bin (n - max m 1) p (max m 1) else vY p) Q;split
 ·refine Xm (p0:=X0 (B3 n)) bd _ p _ a (by omega) (by rw[show max m 1=m by omega];exact d) fun p a b=>h p a (by rw[show max m 1+(n - max m 1)=n by omega] at b;exact b)
 ·exact h p a (by rw[show n=m by omega];exact d)
end
theorem zD:∀a,HT.lexLt a a=false
 | []=>rfl
 | x::xs=>by rw[HT.xO,if_pos rfl];exact zD xs
theorem zC:∀a b c,HT.lexLt a b=true->HT.lexLt b c=true->HT.lexLt a c=true
 | [],[],_,h,_=>by cases h
 | [],_::_,[],_,h=>by cases h
 | [],_::_,_::_,_,_=>rfl
 | _::_,[],_,h,_=>by cases h
 | _::_,_::_,[],_,h=>by cases h
 | x::xs,y::ys,z::zs,h,k=>by
  rw[HT.xO] at h k ⊢;split at h
  ·rename_i e;subst e;split at k
   ·rename_i e;subst e;rw[if_pos rfl];exact zC xs ys zs h k
   ·rename_i e;rw[if_neg e];exact k
  ·rename_i e;have h:=of_decide_eq_true h;split at k
   ·rename_i e2;subst e2;rw[if_neg e];exact decide_eq_true h
   ·have k:=of_decide_eq_true k;rw[if_neg (by omega)];exact decide_eq_true (by omega)
theorem yM:∀a b,HT.lexLt a b=false->HT.lexLt b a=false->a=b
 | [],[],_,_=>rfl
 | [],_::_,h,_=>by cases h
 | _::_,[],_,h=>by cases h
 | x::xs,y::ys,h,k=>by
  rw[HT.xO] at h k;split at h
  ·rename_i e;subst e;rw[if_pos rfl] at k;rw[yM xs ys h k]
  ·rename_i e;rw[if_neg fun z=>e z.symm] at k;have h:=of_decide_eq_false h;have k:=of_decide_eq_false k;omega
def zBA:KeyOrd where
 α:=List Int
 blt:=HT.lexLt
 irrefl:=zD
 trans:=zC
 negTrans:=fun a b c h=>by
  cases e:HT.lexLt a b with
  | true=>exact .inl rfl
  | false =>
   refine .inr ?_;cases e2:HT.lexLt b a with
   | true=>exact zC b a c e2 h
   | false=>rw[<- yM a b e e2];exact h
 total:=yM
section
variable {prog:E5} {w:G3} {A:F3} {E:Value->A6->Prop}
theorem QU{s:A6}{fin:Bool}{Q:Bool->A6->Prop}:∀{xs ys:List Value} {ns ms:List Int} (i:Nat),W7 xs ns->W7 ys ms->A.units < G8->fin=HT.lexLt (ns.drop (min ns.length ms.length)) (ms.drop (min ns.length ms.length))->Q (HT.lexLt ns ms) s->KatLex prog w A true fin Q (xs.zip ys) i s
 | [],[],_,_,i,.nil,.nil,_,hf,h=>by rw[hf];exact h
 | [],_::_,_,_,i,.nil,.cons m u r2,_,hf,h=>by rw[hf];exact h
 | _::_,[],_,_,i,.cons n t r,.nil,_,hf,h=>by rw[hf];exact h
 | _::xs,_::ys,_,_,i,.cons (ns:=ns) n t r,.cons (ns:=ms) m u r2,hu,hf,h=>by
  rw[HT.xO] at h;refine kat_cons (uP ?_)
  by_cases e:n=m
  ·subst e;rw[if_pos rfl] at h;rw[beq_self_eq_true];refine kat_yes (QU (i+1) r r2 hu ?_ h);simpa[tw] using hf
  ·rw[if_neg e] at h;rw[beq_eq_false_iff_ne.mpr e];refine kat_no ?_;cases i with
   | zero=>exact kat_lt_int h
   | succ i =>
    rw[show(true && (i+1 == 0))=false from by simp];refine kat_one _ _ ?_;exact wK h
theorem Xp{s:A6}{x y:Value}{ns ms:List Int}{C:Bool->A6->Prop}(hx:TupAt s.heap x ns)(hy:TupAt s.heap y ms)(hu:A.units < G8)(h:C (HT.lexLt ns ms) s):B7 (C9 prog w) A (keyLt' (tuples' true) x y) C E s:=by
 obtain⟨a,xs,rfl,⟨o,ho,_,n,hd⟩,hi⟩:=hx;obtain⟨b,ys,rfl,⟨o2,ho2,_,n2,hd2⟩,hj⟩:=hy;refine kat_lt ho hd ho2 hd2 (QU 0 hi hj hu ?_ h);have e1:xs.size=ns.length:=by rw[<- hi.length];simp
 have e2:ys.size=ms.length:=by rw[<- hj.length];simp
 rw[e1,e2]
 by_cases c:ns.length < ms.length
 ·rw[Nat.min_eq_left (R1 c),j4];cases q:ms.drop ns.length with
  | nil=>have:=congrArg O8 q;simp at this;omega
  | cons z zs=>rw[HT.yT];exact decide_eq_true c
 ·rw[Nat.min_eq_right (R7 c),j4];cases q:ns.drop ms.length with
  | nil=>rw[HT.yk];exact decide_eq_false c
  | cons z zs=>rw[HT.yU];exact decide_eq_false c
theorem Lc{h:F7}:∀{vs:List Value} {kss:List (List Int)},vs.length=kss.length->(∀(i:Nat) v ns,vs[i]?=some v->kss[i]?=some ns->TupAt h v ns)->(∀k∈kss,k≠[])->∃fs,KatTups h vs fs/\fs.length=vs.length/\∀v∈fs,∃i t,v=g9 i t
 | [],[],_,_,_=>⟨[],trivial,rfl,fun _ z=>nomatch z⟩
 | [],_::_,h,_,_=>by cases h
 | _::_,[],h,_,_=>by cases h
 | v::vs,k::kss,hl,hT,hn=>by
  obtain⟨fs,h1,h2,h3⟩:=Lc (vs:=vs) (kss:=kss) (by simpa using hl) (fun i v ns q1 q2=>hT (i+1) v ns (by simpa using q1) (by simpa using q2)) fun k hk=>hn k (B1 _ hk)
  obtain⟨a,xs,rfl,⟨o,ho,hc,n,hd⟩,hi⟩:=hT 0 v k rfl rfl;have:∃i t,xs[0]?=some (g9 i t):=by
   have hk:=hn k B2;cases q:xs.toList with
   | nil=>rw[q] at hi;cases hi;exact(hk rfl).elim
   | cons z zs =>
    rw[q] at hi;cases hi with
    | cons i t _=>exact⟨i,t,by rw[<- c9,q];rfl⟩
  obtain⟨i,t,e⟩:=this;exact⟨.int i t::fs,.cons ho hc hd e h1,by simp[h2],fun v hv=>(D0.mp hv).elim (fun z=>⟨i,t,z⟩) (h3 v)⟩
theorem zAN{s:A6}{a:B5}{vs:List Value}{n:Nat}{kss:List (List Int)}{P:PySem.Fin->A6->Prop}(ho:s.heap.get? a=some (K7 "list" vs.toArray n))(hl:vs.length=kss.length)(hT:∀(i:Nat) v ns,vs[i]?=some v->kss[i]?=some ns->TupAt s.heap v ns)
    (hn:∀k∈kss,k≠[]) (hu:A.units < G8) (hz:vs.length < 64)
    (h:∀p:List Nat,p.Perm (B3 vs.length)->(p.map fun i=>kss.getD i []).Pairwise (fun a b=>HT.lexLt b a=false)->P (.done (.ret .none)) { s with heap:=tF s.heap a vs (p.map fun i=>vs.getD i K1).toArray }):B7 (C9 prog w) A (M8.«list.sort» ⟨[.ref a],[]⟩) P E s:=by
  rw[list_sort_plain];have ha:a < s.heap.objs.size:=C3 ho;refine A0 (o7 ho rfl ?_);refine A0 (k5 ho rfl ?_ (by rw[A7,K0];omega) (E7 _))
  obtain⟨e1,zv⟩:∃e1,(s.heap.update a (F2 fun _=>#[])).get? a=some (K7 "list" #[] e1):=⟨_,V2 ho (fun _=>#[])⟩
  refine A0 (uv zv rfl ?_);refine A0 (wpAny_newTuple ?_ (by show vs.length<=_;rw[K0];omega));refine A0 (qf ?_ (E7 _));refine E8 ?_
  have ho6:(((s.heap.update a (F2 fun _=>#[])).push (K7 "tuple" vs.toArray 0)).push (K7 "list" #[] 0)).get? a=some (K7 "list" #[] e1):=A2 _ (A2 _ zv)
  show B7 (C9 prog w) A _ P E { s with heap:=((s.heap.update a (F2 fun _=>#[])).push (K7 "tuple" vs.toArray 0)).push (K7 "list" #[] 0) }
  dsimp only;have snd:(vs.toArray.zip vs.toArray).map (·.2)=vs.toArray:=by
    apply Array.toList_inj.mp;simp[Array.toList_map,Array.toList_zip,List.map_snd_zip]
  have rng:((B3 vs.length).map fun i=>vs.getD i K1).toArray=vs.toArray:=by
    congr 1;apply V8;intro i;rw[C5]
    by_cases c:i < vs.length
    · rw[L5 c,F6,B8,A3 c];rfl
    · rw[F4 (by simpa using c),F4 (by simpa using c)];rfl
  by_cases h2:vs.toArray.size < 2
  · rw[if_pos h2,if_pos h2];refine A0 (A4 ?_);rw[StateT.run_pure];refine A0 (A4 ?_);dsimp only;refine A0 (uv ho6 rfl ?_);rw[show(arrOf (SortSt.mk' general' (vs.toArray.zip vs.toArray) #[] 7 none)).map (·.2)=vs.toArray from snd];refine A0 (k5 ho6 rfl ?_ (E7 _) (by rw[A7,K0];omega));simp only[bne_self_eq_false,C6,if_false];have:=h (B3 vs.length) (Z8 _) (by
      rw[A7] at h2
      match vs,h2 with
      | [],_=>exact .nil
      | [_],_=>exact qz ..)
    rw[rng] at this;exact A4 this
  · rw[if_neg h2,if_neg h2];have h2':2<=vs.length:=by rw[A7] at h2;omega
    generalize hS:({ s with heap:=((s.heap.update a (F2 fun _=>#[])).push (K7 "tuple" vs.toArray 0)).push (K7 "list" #[] 0) }:A6)=S
    have hT':∀(i:Nat) v ns,vs[i]?=some v->kss[i]?=some ns->TupAt S.heap v ns:=fun i v ns q1 q2=>(hT i v ns q1 q2).kept fun b o q hc=>by
      have xW:b≠a:=fun z=>by rw[z,ho] at q;cases q;simp[K7] at hc
      rw[<- hS];exact A2 _ (A2 _ ((O0 _ _ _ _ xW).trans q))
    obtain⟨fs,t1,t2,t3⟩:=Lc hl hT' hn
    refine A0 (kat_kind (T:=.type "int") t1 (by omega) (fun v hv=>?_) rfl ?_)
    · obtain⟨i,t,rfl⟩:=t3 v hv;exact Looks.now
    · rw[show(G2 "int" != G2 "tuple")=true from by decide]
      refine A0 (R8 (kat_run (Q:=fun yR s'=>∃p:Array Nat,p.Perm (X0 (B3 vs.length))/\So (κ:=zBA) (fun i=>kss.getD i []) p vs.length/\arrOf yR=p.map (kas_item (vs.toArray.zip vs.toArray))/\failedOf yR=none/\s'=S)
        (G:=fun p s'=>(p.Perm (X0 (B3 vs.length))/\So (κ:=zBA) (fun i=>kss.getD i []) p vs.length)/\s'=S) rfl h2' hz (fun p yR s' a1 a2 a3 a4=>⟨p,a4.1.1,a4.1.2,a2,a3,a4.2⟩) ?_) ?_ fun _ _ e=>e)
      · refine bw (lt:=fun i j=>HT.lexLt (kss.getD i []) (kss.getD j [])) (fun i j C hi hj hC=>?_) (Yf (κ:=zBA) (key:=fun i=>kss.getD i []) (by omega) fun p a b=>⟨⟨a,b⟩,rfl⟩);unfold kas_ask;have g:∀j,j < vs.length->TupAt S.heap (vs.getD j K1) (kss.getD j []):=fun j hj=>by
          have e1:vs[j]?=some vs[j]:=A3 hj;have e2:kss[j]?=some (kss[j]'(hl▸hj)):=A3 _;rw[B8,B8,e1,e2];exact hT' j _ _ e1 e2
        exact Xp (g i hi) (g j hj) hu hC
      · rintro⟨⟨⟩,yR⟩ s' ⟨p,hp,hso,har,hf,rfl⟩;dsimp only;rw[kat_snds rfl har,hf];subst hS;refine A0 (uv ho6 rfl ?_);have yJ:p.toList.Perm (B3 vs.length):=by simpa using qM.mp hp
        refine A0 (k5 ho6 rfl ?_ (E7 _) (by rw[A7,A8,yJ.length_eq,K4,K0];omega));simp only[bne_self_eq_false,C6,if_false];refine A4 (h p.toList yJ ?_);rw[qS];intro i j hi hj zg;rw[A8] at hi hj;have hz2:p.toList.length=vs.length:=by rw[yJ.length_eq,K4]
        have:=hso i j (R1 zg) (by omega);have gp:∀k (hk:k < p.toList.length),p.getD k 0=p.toList[k]:=fun k hk=>by
          have hk':k < p.size:=by simpa using hk
          simp[j6,hk']
        have this:HT.lexLt (kss.getD (p.getD j 0) []) (kss.getD (p.getD i 0) [])=false:=this;rw[gp i hi,gp j hj] at this;simpa using this
end
end KO
namespace L2
open PySem PySem.Spec PyProof.Rows
def Uo(K:W.Frag):List V->Hp->VK->Prop:=fun xs H Q=>∃(p:B5) (us:List V) (kss:List (List Int)),xs=[.ref p]/\Ca K H p us/\us.length=kss.length/\(∀(i:Nat) v ns,us[i]?=some v->kss[i]?=some ns->∃b,v=.ref b/\DL K H b (ns.map V.int)) /\
 (∀k∈kss,k≠[])/\us.length < 64/\∀l (q:List Nat),H l=none->q.Perm (B3 us.length)->(q.map fun i=>kss.getD i []).Pairwise (fun a b=>HT.lexLt b a=false)->Q (.ref l) (upd H l (.lst (q.map fun i=>us.getD i .wa)))
theorem YO{vs:List V}{us:List Value}(h:AH vs us)(i:Nat)(hi:i < vs.length):RelV (vs.getD i .wa) (us.getD i K1):=by
 obtain⟨u,e,r⟩:=h.get (A3 hi);rw[B8,B8,e,A3 hi];exact r
theorem La{vs:List V}{us:List Value}(h:AH vs us):∀(q:List Nat),(∀i∈q,i < vs.length)->AH (q.map fun i=>vs.getD i .wa) (q.map fun i=>us.getD i K1)
 | [],_=>.nil
 | i::q,hq=>.cons (YO h i (hq i B2)) (La h q fun j hj=>hq j (B1 _ hj))
variable {X:Cx}
theorem Os(hu:X.A.units+2 < G8):As X (.builtin "sorted") (Uo X.K):=by
 intro pins s σ H xs us Q I r h;obtain⟨p,ws,kss,rfl,hq,hl,hT,hn,hz,q⟩:=h;obtain⟨u,rfl,rx⟩:=vals1 r;cases rx;obtain⟨its,r',pl,_⟩:=I.list hq;have hlen:=r'.length;obtain⟨o,ho,hc,n,hd⟩:=pl.isList;have hT2:∀(i:Nat) v ns,its[i]?=some v->kss[i]?=some ns->KO.TupAt s.heap v ns:=fun i v ns q1 q2=>by
  have hi:i < ws.length:=by rw[hlen];exact(C0.mp q1).1
  obtain⟨u',e',ru⟩:=r'.get (A3 hi);rw[q1] at e';cases e';obtain⟨b,eb,hb⟩:=hT i _ ns (A3 hi) q2;rw[eb] at ru;cases ru;obtain⟨wg,r2,p2,_⟩:=I.tuple hb;exact⟨b,wg.toArray,rfl,p2,Kn r2⟩
 refine qT kind_sorted plain_sorted entry_sorted (args_sorted1 _) ?_;unfold M8.«sorted»
 refine A0 (m:=checkCount "sorted" 1 1 _) (A4 ?_)
 refine A0 (Mq (.inl rfl) ho hc hd ?_ (by rw[K0];omega));refine A0 (qf ?_ (by rw[K0];omega))
 have hsz:((s.heap.push (K7 "list" #[] 0)).update s.heap.objs.size (F2 (·++its.toArray))).objs.size=s.heap.objs.size+1:=by
  rw[ua,size_push']
 have hoL:(((s.heap.push (K7 "list" #[] 0)).update s.heap.objs.size (F2 (·++its.toArray))).push (K7 "list" its.toArray 0)).get? (s.heap.objs.size+1)=some (K7 "list" its.toArray 0):=by
  rw[<- hsz];exact B4 _ rfl
 have keep:∀b o,s.heap.get? b=some o->o.cls=.type "tuple" -> (((s.heap.push (K7 "list" #[] 0)).update s.heap.objs.size (F2 (·++its.toArray))).push (K7 "list" its.toArray 0)).get? b=some o:=fun b o q _=>by
  have w6:b < s.heap.objs.size:=C3 q;rw[Z6 _ _ _ (by rw[hsz];exact C8 (N5 w6)),O0 _ _ _ _ (C8 w6),Z6 _ _ _ (C8 w6)];exact q
 show B7 _ _ _ _ _ { s with heap:=((s.heap.push (K7 "list" #[] 0)).update s.heap.objs.size (F2 (·++its.toArray))).push (K7 "list" its.toArray 0) }
 rw[hsz]
 refine A0 (E8 (F9 slot_list_sort ⟨_,hoL,rfl⟩ u7 (KO.zAN (s:={ s with heap:=((s.heap.push (K7 "list" #[] 0)).update s.heap.objs.size (F2 (·++its.toArray))).push (K7 "list" its.toArray 0) }) hoL (hlen.symm.trans hl) (fun i v ns q1 q2=>(hT2 i v ns q1 q2).kept keep) hn (by show X.A.units+1+1 < _;omega) (by rw[<- hlen];exact hz) fun pp hp hs=>⟨_,rfl,?_⟩) (args_list_sort _)))
 refine A4 ⟨_,rfl,?_⟩;rw[<- hlen] at hp;have rr:=La r' pp fun i hi=>K6.mp (hp.mem_iff.mp hi)
 have yJ:pp.length=ws.length:=by rw[hp.length_eq,K4]
 obtain⟨c,e⟩:=KR s.heap its (pp.map fun i=>its.getD i K1).toArray;exact⟨.ref (s.heap.objs.size+1),_,I.laid (t':=s.toks) (fun b o e=>Iq _ _ _ e) (U5 _) (show AY X.prog X.w _ _ _ (.lst (pp.map fun i=>ws.getD i .wa)) from⟨by rw[A8,yJ,K0];omega,_,c,rr,e⟩),rfl,q _ pp (I.wb.fresh (U5 _)) hp hs⟩
end L2
namespace L2
open PySem PySem.Spec PyProof.Rows
section
variable {X:Cx}
def bf(K:W.Frag):List V->Hp->VK->Prop:=fun xs H Q=>∃(p:B5) (ns:List Int),xs=[.ref p]/\Ca K H p (ns.map V.int)/\0 < ns.length/\∀M,M∈ns->(∀a,a∈ns->M<=a)->Q (.int M) H
theorem Sq(hc:X.calm=true):As X (.builtin "min") (bf X.K):=by
 intro pins s σ H xs us Q I r h;obtain⟨p,ns,rfl,hp,xW,q⟩:=h;obtain⟨u,rfl,rx⟩:=vals1 r;cases rx;obtain⟨its,rv,pl,hz⟩:=I.list hp;have hl:=pl.isList;have hi:=Oa rv;obtain⟨xs,e⟩:=hi.allInts.items;have zf:ns=xs.toList.map (·.1):=by
  rw[<- hi.numsOf,<- nums_intItems,<- e]
 have hsz:0 < xs.size:=by
  have h3:=xW;rw[zf,A8,R0] at h3;exact h3
 rw[e] at hl;refine min_intList (I.ok.hd hc) hl hsz fun v h' tk hv hk=>?_
 obtain⟨t,rfl⟩:=intItems_at hv;obtain⟨h1,h2⟩:=argBest_lt (numAt xs) (xs.size - 1);refine⟨.int _,H,I.kept hk,⟨t,rfl⟩,q _ ?_ fun a ha=>?_⟩
 ·rw[zf,numAt_eq];exact getD_mem (by rw[A8,R0];omega)
 ·rw[zf] at ha;obtain⟨j,hj,rfl⟩:=mem_getD ha;rw[A8,R0] at hj;rw[<- numAt_eq];exact h2 j (by omega)
end
end L2
namespace R
open PySem L2 PyProof.Rows
abbrev bJ:=Bo (fun i j=>decide (0<=j) && decide (j<=1000000) && decide (i.natAbs < 2 ^ 64)) fun i j=>i * 2 ^ j.toNat
abbrev mO:=Bo (fun _ j=>decide (0<=j)) fun i j=>i / 2 ^ j.toNat
abbrev cz:=Bo (fun _ _=>true) fun i j=>vK i j
noncomputable def bx:List Int->Int
 | []=>0
 | [n]=>n
 | n::m::r=>if n<=bx (m::r) then n else bx (m::r)
theorem Hx:∀ns:List Int,ns≠[]->bx ns∈ns/\∀a∈ns,bx ns<=a
 | [],h=>(h rfl).elim
 | [n],_=>⟨J7 _,fun a ha=>by rw[D4.mp ha];exact wH _⟩
 | n::m::r,_=>by
  obtain⟨h1,h2⟩:=Hx (m::r) (by simp);unfold bx;split
  ·rename_i c;exact⟨B2,fun a ha=>(D0.mp ha).elim (fun z=>by rw[z];exact wH _) fun z=>Int.le_trans c (h2 a z)⟩
  ·rename_i c;exact⟨B1 _ h1,fun a ha=>(D0.mp ha).elim (fun z=>by rw[z];omega) (h2 a)⟩
def Ie(x:Dv):Option Dv:=match x with
 | .lst xs=>match BU xs with | some (n::ns)=>some (.int (bx (n::ns))) | _=>none
 | _=>none
section
variable {K:W.Frag}
theorem ZG{o:Nat}:AK K (one Ie) o (bf K):=Cm fun g H x v o1 P d Q zd l1 h1 e k=>by
 unfold Ie at e;split at e
 ·split at e
  ·rename_i n ns e1;cases e;obtain⟨p,us,rfl,ha,hx,_⟩:=DS l1 h1;rw[EB hx e1] at ha;refine⟨p,n::ns,rfl,ha,by simp,fun M hM xr=>?_⟩;obtain⟨m1,m2⟩:=Hx (n::ns) (by simp);have:M=bx (n::ns):=rR (xr _ m1) (m2 M hM);rw[this];exact k _ _ (Ac.int _)
  ·cases e
 ·cases e
noncomputable def cU(ns:List Int):List Int:=ns.foldl V0 []
def CV(x:Dv):Option Dv:=match x with
 | .lst xs=>(BU xs).bind fun ns=>if ns.length < 64 then some (.lst ((ID (cU ns)).map .int)) else none
 | .tup xs=>(BU xs).bind fun ns=>if ns.length < 64 then some (.lst ((ID (cU ns)).map .int)) else none
 | _=>none
theorem OH:AK K (one CV) 1 (dE (jo K)):=Cm fun g H x v o1 P d Q zd l1 h1 e k=>by
 have go:∀{xs:List Dv} {us:List V} {p:B5},AA K g H 0 xs us wX->((BU xs).bind fun ns=>if ns.length < 64 then some (Dv.lst ((ID (cU ns)).map .int)) else none)=some d->(Ca K H p us\/DL K H p us)->jo K (.ref p) H Q:=fun{xs us p} hx e ha=>by
  obtain⟨ns,e1,e⟩:=wV e;split at e
  ·rename_i hl;cases e;rw[EB hx e1] at ha;exact⟨p,ns,rfl,ha,hl,fun l ns' h h2 h3=>by rw[MP (ns:=cU ns) h2 h3];exact k _ _ (Ac.lst zd (DP _) h)⟩
  ·cases e
 unfold CV at e;split at e
 ·obtain⟨p,us,rfl,ha,hx,_⟩:=DS l1 h1;exact go hx e (.inl ha)
 ·obtain⟨p,us,rfl,ha,hx,_⟩:=EY l1 h1;exact go hx e (.inr ha)
 ·cases e
def Dp(kss:List (List Int)):List (List Int):=kss.mergeSort fun a b=>!HT.lexLt b a
theorem Ed(kss:List (List Int)):(Dp kss).Perm kss:=sN ..
theorem MI(kss:List (List Int)):(Dp kss).Pairwise fun a b=>HT.lexLt b a=false:=by
 have:=qx (le:=fun a b:List Int=>!HT.lexLt b a) (fun a b c h1 h2=>by
  simp only[N7] at *;cases q:HT.lexLt c a with
  | false=>rfl
  | true=>exact(KO.zBA.negTrans c b a q).elim (fun z=>(uK.mp h2 z).elim) fun z=>(uK.mp h1 z).elim) (fun a b=>by
  simp only[m6,N7];cases q:HT.lexLt b a with
  | false=>exact .inl rfl
  | true =>
   refine .inr ?_;cases q2:HT.lexLt a b with
   | false=>rfl
   | true=>have:=KO.zC a b a q2 q;rw[KO.zD] at this;cases this) kss
 exact this.imp fun h=>by simpa using h
theorem MJ{kss ms:List (List Int)}(h:ms.Perm kss)(h2:ms.Pairwise fun a b=>HT.lexLt b a=false):ms=Dp kss:=qj (fun a b _ _ h1 h2=>KO.yM a b h2 h1) h2 (MI kss) (h.trans (Ed kss).symm)
noncomputable def KM(ns:List Int):Dv:=.tup (ns.map .int)
def GW(x:Dv):Option Dv:=match x with
 | .lst xs=>(Dc xs).bind fun kss=>if(kss.all fun k=>!k.isEmpty)=true/\kss.length < 64 then some (.lst ((Dp kss).map KM)) else none
 | _=>none
theorem LX:∀{ds:List Dv} {ns:List Int},BU ds=some ns->ds=ns.map .int
 | [],ns,e=>by cases e;rfl
 | d::ds,ns,e=>by
  cases d<;>first | (simp only[BU,reduceCtorEq] at e;done) | skip
  simp only[BU,D7] at e;obtain⟨rest,e2,rfl⟩:=e;rw[LX e2];rfl
theorem LW:∀{ds:List Dv} {kss:List (List Int)},Dc ds=some kss->ds=kss.map KM
 | [],kss,e=>by cases e;rfl
 | d::ds,kss,e=>by
  cases d<;>first | (simp only[Dc,reduceCtorEq] at e;done) | skip
  rename_i ks;simp only[Dc,J8,D7] at e;obtain⟨ns,e1,rest,e2,rfl⟩:=e;rw[LW e2,D3];congr 1;unfold KM;rw[LX e1]
theorem JY{g:G}{H:Hp}{ds:List Dv}{vs:List V}(h:AA K g H 0 ds vs wX):∀(q:List Nat),(∀i∈q,i < ds.length)->AA K g H 0 (q.map fun i=>ds.getD i .wa) (q.map fun i=>vs.getD i .wa) wX
 | [],_=>AA.nil
 | i::q,hq=>by
  have hi:=hq i B2;obtain⟨v,P,ev,rv,_⟩:=h.get (A3 hi);refine(AA.cons (v:=vs.getD i .wa) (P1:=wX) ?_ (JY h q fun j hj=>hq j (B1 _ hj)) fun _ z=>z.elim).iff fun a=>⟨fun z=>z.elim,fun z=>z.elim id id⟩
  show Rep K g H 0 (ds.getD i .wa) (vs.getD i .wa) wX;rw[B8,B8,ev,A3 hi];exact rv.z
theorem VG:AK K (one GW) 1 (Uo K):=Cm fun g H x v o1 P d Q zd l1 h1 e k=>by
 unfold GW at e;split at e
 ·rename_i xs;obtain⟨p,us,rfl,ha,hx,_⟩:=DS l1 h1;obtain⟨kss,e1,e⟩:=wV e;split at e
  ·rename_i c;cases e;obtain⟨hl,hr⟩:=JM hx e1;have hxl:xs.length=us.length:=hx.len;refine⟨p,us,kss,rfl,ha,hl,hr,fun kk hk=>?_,by rw[hl];exact c.2,fun l q h hq hs=>?_⟩
   ·have:=(E3.mp c.1) kk hk;cases kk with
    | nil=>cases this
    | cons _ _=>exact fun z=>nomatch z
   ·have rp:=JY hx q fun i hi=>by rw[hxl];exact K6.mp (hq.mem_iff.mp hi)
    have e2:(q.map fun i=>xs.getD i .wa)=(Dp kss).map KM:=by
     have pm:(q.map fun i=>kss.getD i []).Perm kss:=by
      refine(hq.map _).trans ?_;rw[hl,show(B3 kss.length).map (fun i=>kss.getD i [])=kss from ?_];apply V8;intro i;rw[C5]
      by_cases c:i < kss.length
      ·rw[L5 c,F6,B8,A3 c];rfl
      ·rw[F4 (by simpa using c),F4 (by simpa using c)];rfl
     rw[<- MJ pm hs,F0];refine N9 fun i hi=>?_
     have hi':i < kss.length:=by rw[<- hl];exact K6.mp (hq.mem_iff.mp hi)
     rw[LW e1,B8,C5,A3 hi'];show KM _=KM (kss.getD i []);rw[B8,A3 hi'];rfl
    rw[e2] at rp;exact k _ _ (Ac.lst zd rp h)
  ·cases e
 ·cases e
end
end R
namespace My
open PySem L2 R
theorem pB{K:W.Frag}{o:Nat}{r:RG}:AK K (fun _=>none) o r:=fun _ _ _ _ _ _ _ _ e _=>by cases e
theorem pA{K:W.Frag}{o:Nat}{r:RG}:AK K (one fun _=>none) o r:=fun _ _ ds _ _ _ _ _ e _=>by unfold one at e;split at e<;>cases e
theorem oz{K:W.Frag}{o:Nat}{r:RG}:AK K (two fun _ _=>none) o r:=fun _ _ ds _ _ _ _ _ e _=>by unfold two at e;split at e<;>cases e
def tb:Tb where
 zCi:=[⟨.Add,Az,fun X h=>⟨_,Ze X.K,fD⟩⟩,
  ⟨.Sub,PM,fun X h=>⟨_,fV,QG⟩⟩,
  ⟨.Mult,Cs,fun X h=>⟨_,fg.or (fY.or L4.zAz),eh⟩⟩,
  ⟨.Mod,Ct,fun X h=>⟨_,fh,FD fun _ _ h=>of_decide_eq_true h⟩⟩,
  ⟨.FloorDiv,Xy,fun X h=>⟨_,ZZ,FD fun _ _ h=>by rw[A5,decide_eq_true_eq,decide_eq_true_eq] at h;exact h⟩⟩,
  ⟨.LShift,bJ,fun X h=>⟨_,fX,FD fun _ _ h=>by rw[A5,A5,decide_eq_true_eq,decide_eq_true_eq,decide_eq_true_eq] at h;exact⟨h.1.1,h.1.2,h.2⟩⟩⟩,
  ⟨.RShift,mO,fun X h=>⟨_,fW,FD fun _ _ h=>of_decide_eq_true h⟩⟩,
  ⟨.BitAnd,cz,fun X h=>⟨_,fu,QG⟩⟩,
  ⟨.Pow,iY,fun X h=>⟨_,fZ,FD fun _ _ h=>by rw[A5,A5,decide_eq_true_eq,decide_eq_true_eq,decide_eq_true_eq] at h;exact⟨h.1.1,h.1.2,h.2⟩⟩⟩]
 zAU:=[⟨.Eq,TV,fun X h=>⟨_,L3.zBg h.2.choose_spec,VI⟩⟩,
  ⟨.NotEq,Tn,fun X h=>⟨_,L3.zBd h.2.choose_spec,VI⟩⟩,
  ⟨.Lt,iV,fun X h=>⟨_,kT,Ke⟩⟩,
  ⟨.Gt,iy,fun X h=>⟨_,kU,Ke⟩⟩,
  ⟨.GtE,pN,fun X h=>⟨_,kW,Ke⟩⟩,
  ⟨.In,iw,fun X h=>⟨_,(Q.zBe h.2.choose_spec).or ((fm (Zw h)).or (fc (MR h))),VH⟩⟩,
  ⟨.NotIn,LG,fun X h=>⟨_,(Q.zAQ h.2.choose_spec).or ((Za (Zw h)).or (ZY (MR h))),VH⟩⟩,
  ⟨.IsNot,RC,fun X h=>⟨_,ZX,ZF⟩⟩]
 calls:=[⟨"len", 1,1,one BC,fun X h=>⟨_,ez,.inl ⟨_,(Sv X.K).or Ou,PySem.boot_len⟩⟩⟩,
  ⟨"tuple", 1,1,one AM,fun X h=>⟨_,VF,.inr ⟨_,Mt X.K,PyProof.Rows.Boot.«tuple»⟩⟩⟩,
  ⟨"list", 1,1,one CW,fun X h=>⟨_,ZJ,.inr ⟨_,Ot X.K,PyProof.Rows.Boot.«list»⟩⟩⟩,
  ⟨"all", 1,1,one JF,fun X h=>⟨_,fC,.inl ⟨_,TB X.K rfl h.1,PyProof.Rows.Boot.«all»⟩⟩⟩,
  ⟨"max", 2,1,two KH,fun X h=>⟨_,ZI,.inl ⟨_,Su h.1,PyProof.Rows.Boot.«max»⟩⟩⟩,
  ⟨"min", 1,1,one Ie,fun X h=>⟨_,ZG,.inl ⟨_,Sq h.1,PyProof.Rows.Boot.«min»⟩⟩⟩,
  ⟨"min", 2,1,two KG,fun X h=>⟨_,ZH,.inl ⟨_,Sr h.1,PyProof.Rows.Boot.«min»⟩⟩⟩,
  ⟨"sorted", 1,1,one GW,fun X h=>⟨_,VG,.inl ⟨_,Os (MR h),NG⟩⟩⟩,
  ⟨"dict", 1,1,one Ih,fun X h=>⟨_,VJ,.inr ⟨_,Oz.or ((Oy h.2.choose_spec h.1).or ((Ox h.2.choose_spec h.1).or (Ow h.2.choose_spec h.1))),PJ⟩⟩⟩,
  ⟨"isinstance", 2,1,two JE,fun X h=>⟨_,fA,.inl ⟨_,Sy X.K,PyProof.Rows.Boot.«isinstance»⟩⟩⟩]
 meths:=[⟨"join", 1, "str", 1,two Ig,.inl (.inr (.inl rfl)),fun X h=>⟨_,_,rM,PySem.F.slot_str_join,PySem.F.type_str_join,Vi X.K,ZK⟩⟩,
  ⟨"upper", 0, "str", 1,one GU,.inl (.inr (.inl rfl)),fun X h=>⟨_,_,rM,PySem.F.slot_str_upper,PySem.F.type_str_upper,Vh,VE⟩⟩]
 zCM:=[⟨"append", 1, "list", Ay,.inl rfl,fun X h=>⟨_,_,Y8,PySem.F.slot_list_append,PySem.F.type_list_append,SA,Ry⟩⟩,
  ⟨"clear", 0, "list", LM,.inl rfl,fun X h=>⟨_,_,Y8,PySem.F.slot_list_clear,PySem.F.type_list_clear,Vj,Vg⟩⟩,
  ⟨"extend", 1, "list", DY,.inl rfl,fun X h=>⟨_,_,Y8,PySem.F.slot_list_extend,PySem.F.type_list_extend,YI.or Rz OQ,Rx⟩⟩]
 zCE:=[⟨"range", 1,false,Bq,fun X h=>⟨_,UW,fun tg es p pos ta _ hn hs hg hm ha=>by obtain⟨a,rfl⟩:=Il hn;exact Rl hg hm ha (AN (by simpa using hs))⟩⟩,
  ⟨"range", 2,false,Kb,fun X h=>⟨_,UV,fun tg es p pos ta _ hn hs hg hm ha=>by
   obtain⟨a,b,rfl⟩:=pE hn;have z:BD a=true/\BD b=true:=by simpa using hs
   exact Rk hg hm ha ((AN z.1).trans (by rw[AN z.2];rfl)) (AN z.2)⟩⟩,
  ⟨"zip", 2,true,Hc,fun X h=>⟨_,UU,fun tg es p pos ta ht hn hs hg hm ha=>by
   obtain⟨elts,x1,xj,rfl⟩:=bP (ht rfl);obtain⟨a,b,rfl⟩:=pE hn;have z:BD a=true/\BD b=true:=by simpa using hs
   exact ZO X.K hg hm ha rfl (AN z.1) (Bl (by simp[z.2]))⟩⟩,
  ⟨"enumerate", 1,true,Pu,fun X h=>⟨_,UX,fun tg es p pos ta ht hn hs hg hm ha=>by
   obtain⟨elts,x1,xj,rfl⟩:=bP (ht rfl);obtain⟨a,rfl⟩:=Il hn;exact VO X.K hg hm ha rfl (AN (by simpa using hs))⟩⟩]
 ix:=AC
 zCP:=fun X h=>⟨_,(nX X.K).or ((ki (Zw h)).or (kh (MR h))),fB⟩
 sl:=TY
 zCF:=fun X h=>⟨_,nQ X.K,kL⟩
 tru:=GV
 zBy:=YT
 lr:=fun _=>none
 zCy:=fun X h=>pB
 tr:=fun _=>none
 zBx:=fun X h=>pB
 md:=fun _ _=>none
 zCw:=fun X h=>oz
 rv:=fun _ _=>none
 zCs:=fun X h=>oz
 lv:=fun _=>none
 zCx:=fun X h=>pA
 ss:=CV
 zCD:=fun X h=>OH
 le:=fun _=>none
 zDA:=fun X h=>pA
 st:=BF
 zCC:=fun X h=>⟨_,Yo.or ((eD (Zw h)).or (eB (MR h))),eC⟩
noncomputable def top(i:Nat):M4:=PySem.Challenge.pw_shapefree_k61_rooms.main.body.getD i (.Pass ⟨0,0,0,0⟩)
noncomputable def pf:List Str:=[]
def md:Md:=⟨tb,[],["len", "range", "tuple", "list", "zip", "isinstance", "enumerate", "all", "any", "int", "bool", "str", "sum", "max", "min", "reversed", "sorted", "dict", "repr", "set", "abs", "type", "ord", "chr"],pf,[]⟩
noncomputable def ml:List (Str×w9):=[]
noncomputable def BV(self:Dv->Dv->Dv->Dv->Option (Dv))(a0:Dv)(a1:Dv)(a2:Dv)(a3:Dv)(x3:Dv):Option Dv:=
(PM a0 (.int 1)).bind fun d4=>(AC a1 x3).bind fun d5=>(self d4 d5 a2 a3).bind fun c6=>some c6
noncomputable def AL:Nat->Dv->Dv->Dv->Dv->Option (Dv)
 | 0,_,_,_,_=>none
 | n+1,a0,a1,a2,a3=>(
(TV a0 (.int 0)).bind fun b0=>if b0=true then
(AC a3 a1).bind fun d1=>some d1
else
(items a2).bind fun s2=>Cu s2 ((Aj (BV (AL n) a0 a1 a2 a3) s2).bind fun y7=>(AM (.lst y7)).bind fun d8=>some d8))
theorem Mm(n:Nat):Gg md (("table_from", Ai (AD (top 2)) [] 0 false (Kr (AL n)))::ml) (top 2) [] 0=true:=by kernel_rfl
theorem Ma(n:Nat):LQ md (("table_from", Ai (AD (top 2)) [] 0 false (Kr (AL n)))::ml) (top 2) [] 0 (Kr (AL (n+1))):=pM (by kernel_rfl) fun _ _ _ _=>(by kernel_rfl)
def DU:Dv->Dv->Dv->Dv->Option (Dv):=(Classical.choice (⟨⟨AL 20,rfl⟩⟩:Nonempty {f:Dv->Dv->Dv->Dv->Option (Dv) // f=AL 20})).1
theorem EV:DU=AL 20:=(Classical.choice (⟨⟨AL 20,rfl⟩⟩:Nonempty {f:Dv->Dv->Dv->Dv->Option (Dv) // f=AL 20})).2
def lC:List (Str×w9):=("table_from", Ai (AD (top 2)) [] 0 false (Kr DU))::ml
noncomputable def Ep(a3:Dv)(x2:Dv):Option Dv:=
(AC a3 x2).bind fun d3=>some d3
noncomputable def Bv(a2:Dv)(a3:Dv)(x8:Dv):Option Dv:=
(YQ [8,9] x8).bind fun(t9:Dv×Dv)=>(AC t9.1 (.int 1)).bind fun d10=>(DU d10 t9.2 a2 a3).bind fun c11=>some c11
noncomputable def CN(a0 a1 a2 a3:Dv):Option (Dv):=
(AC a1 (.int 1)).bind fun d0=>(items d0).bind fun s1=>Cu s1 ((Aj (Ep a3) s1).bind fun y4=>(AC a0 (.int 1)).bind fun d5=>(AC a1 (.int 2)).bind fun d6=>(Hc [d5,d6]).bind fun s7=>Cu s7 ((Aj (Bv a2 a3) s7).bind fun y12=>(BC a2).bind fun d13=>(AM (.lst y4)).bind fun d14=>(AM (.lst y12)).bind fun d15=>some (.tup [d13,d14,d15])))
theorem Ml:Gg md lC (top 1) [] 1=true:=by kernel_rfl
theorem MZ:LQ md lC (top 1) [] 1 (Kr CN):=pM (by kernel_rfl) fun _ _ _ _=>(by kernel_rfl)
def nv:List (Str×w9):=("world_from", Ai (AD (top 1)) [] 1 false (Kr CN))::lC
noncomputable def Ha(a1:Dv)(x2:Dv):Option Dv:=
(AC a1 x2).bind fun d3=>some d3
noncomputable def Dj(self:Dv->Dv->Dv->Option (Dv))(a0:Dv)(a1:Dv)(a2:Dv)(x6:Dv)(t7:Dv):Option (Dv):=
Km "list" t7 (
(PM a0 (.int 1)).bind fun d8=>(AC a1 x6).bind fun d9=>(self d8 d9 a2).bind fun c10=>(DY t7 [c10]).bind fun r11=>some r11.2)
noncomputable def BI:Nat->Dv->Dv->Dv->Option (Dv)
 | 0,_,_,_=>none
 | n+1,a0,a1,a2=>(
(TV a0 (.int 1)).bind fun b0=>if b0=true then
(items a2).bind fun s1=>Cu s1 ((Aj (Ha a1) s1).bind fun y4=>some (.lst y4))
else
(items a2).bind fun s5=>(Aw (Dj (BI n) a0 a1 a2) s5 (.lst [])).bind fun t12=>some t12)
theorem aL(n:Nat):Gg md (("led_in", Ai (AD (top 6)) [] 1 false (Ci (BI n)))::nv) (top 6) [] 1=true:=by kernel_rfl
theorem aE(n:Nat):LQ md (("led_in", Ai (AD (top 6)) [] 1 false (Ci (BI n)))::nv) (top 6) [] 1 (Ci (BI (n+1))):=cx (by kernel_rfl) fun _ _ _=>(by kernel_rfl)
def Kq:Dv->Dv->Dv->Option (Dv):=(Classical.choice (⟨⟨BI 20,rfl⟩⟩:Nonempty {f:Dv->Dv->Dv->Option (Dv) // f=BI 20})).1
theorem Jk:Kq=BI 20:=(Classical.choice (⟨⟨BI 20,rfl⟩⟩:Nonempty {f:Dv->Dv->Dv->Option (Dv) // f=BI 20})).2
def lA:List (Str×w9):=("led_in", Ai (AD (top 6)) [] 1 false (Ci Kq))::nv
noncomputable def CF(a2:Dv)(x4:Dv)(t5:Dv):Option (Dv):=
(YQ [4,5] x4).bind fun(t6:Dv×Dv)=>Km "list" t5 (
(AC t6.1 (.int 1)).bind fun d7=>(Kq d7 t6.2 a2).bind fun c8=>(DY t5 [c8]).bind fun r9=>some r9.2)
noncomputable def DA(a0 a1 a2:Dv):Option (Dv):=
(CW a2).bind fun d0=>(AC a0 (.int 1)).bind fun d1=>(AC a1 (.int 2)).bind fun d2=>(Hc [d1,d2]).bind fun s3=>(Aw (CF a2) s3 d0).bind fun t10=>(CV t10).bind fun d11=>some d11
theorem Sh:Gg md lA (top 5) [] 1=true:=by kernel_rfl
theorem SZ:LQ md lA (top 5) [] 1 (Ci DA):=cx (by kernel_rfl) fun _ _ _=>(by kernel_rfl)
def nr:List (Str×w9):=("with_led", Ai (AD (top 5)) [] 1 false (Ci DA))::lA
noncomputable def Bu(t6:Dv×Dv):Option Bool:=
(BC t6.2).bind fun d7=>(BC t6.1).bind fun d8=>(iy d7 d8).bind fun b9=>some b9
noncomputable def Bw(a0:Dv)(a1:Dv)(t6:Dv×Dv):Option (Dv×Dv):=
(DA a0 a1 t6.2).bind fun c10=>some (t6.2,c10)
noncomputable def Eo(z8:Dv):Option (Dv):=
(GV z8).bind fun b12=>if b12=true then
(AM z8).bind fun d13=>some d13
else
some Dv.wa
noncomputable def Bc(a0 a1 a2:Dv):Option (Dv):=
(CW a2).bind fun d0=>(AC a1 (.int 1)).bind fun d1=>(CW d1).bind fun d2=>(Az d0 d2).bind fun d3=>(CV d3).bind fun d4=>(DA a0 a1 d4).bind fun c5=>(ic Bu (Bw a0 a1) 1000000 (d4,c5)).bind fun z9=>((Eo z9.1)).bind fun t14=>some t14
theorem Mo:Gg md nr (top 4) [] 0=true:=by kernel_rfl
theorem Mc:LQ md nr (top 4) [] 0 (Ci Bc):=cx (by kernel_rfl) fun _ _ _=>(by kernel_rfl)
def nk:List (Str×w9):=("least_room", Ai (AD (top 4)) [] 0 false (Ci Bc))::nr
noncomputable def HZ(x2:Dv)(x5:Dv):Option Dv:=
(Az x5 (.tup [x2])).bind fun d6=>some d6
noncomputable def Et(x2:Dv)(t3:Dv):Option (Dv):=
(items t3).bind fun s4=>Cu s4 ((Aj (HZ x2) s4).bind fun y7=>(Az t3 (.lst y7)).bind fun d8=>some d8)
noncomputable def HY(a0:Dv)(a1:Dv)(x11:Dv):Option (Option Dv):=
(Bc a0 a1 x11).bind fun c12=>(TV c12 x11).bind fun b13=>if b13=true then
some (some x11)
else some none
noncomputable def Hd(a0 a1:Dv):Option (Dv):=
(AC a1 (.int 0)).bind fun d0=>(Bq [d0]).bind fun s1=>(Aw Et s1 (.lst [(.tup [])])).bind fun t9=>(items t9).bind fun s10=>Cu s10 ((GH (HY a0 a1) s10).bind fun y14=>(GW (.lst y14)).bind fun d15=>some d15)
theorem aK:Gg md nk (top 7) [] 1=true:=by kernel_rfl
theorem aD:LQ md nk (top 7) [] 1 (two Hd):=iu (by kernel_rfl) fun _ _=>(by kernel_rfl)
def ni:List (Str×w9):=("rooms", Ai (AD (top 7)) [] 1 false (two Hd))::nk
noncomputable def BG(x1:Dv):Option Dv:=
(YQ [5,6] x1).bind fun(t2:Dv×Dv)=>some (.tup [t2.2,t2.1])
noncomputable def CO(a0 a1 a2:Dv):Option (Dv):=
(Pu [a2]).bind fun s0=>Cu s0 ((Aj BG s0).bind fun y3=>(Ih (.lst y3)).bind fun d4=>(CN a0 a1 a2 d4).bind fun c5=>some c5)
theorem Mn:Gg md ni (top 8) [] 1=true:=by kernel_rfl
theorem Mb:LQ md ni (top 8) [] 1 (Ci CO):=cx (by kernel_rfl) fun _ _ _=>(by kernel_rfl)
def nh:List (Str×w9):=("room_world", Ai (AD (top 8)) [] 1 false (Ci CO))::ni
noncomputable def Lj(a0:Dv)(a1:Dv)(d1:Dv):Option (Dv):=
(BC a0).bind fun d5=>(iy d5 (.int 0)).bind fun b6=>if b6=true then
(BC a0).bind fun d7=>(Ct a1 d7).bind fun d8=>(AC a0 d8).bind fun d9=>(Ct d9 (.int 2147483629)).bind fun d10=>(Cs d10 (.int 31)).bind fun d11=>(Cs (.int 7907) a1).bind fun d12=>(Az d11 d12).bind fun d13=>some d13
else
some d1
noncomputable def HU(a0:Dv)(a1:Dv)(d1:Dv):Option (Dv):=
(BC a0).bind fun d2=>(iV a1 d2).bind fun b3=>if b3=true then
(AC a0 a1).bind fun d4=>some d4
else
((Lj a0 a1 d1)).bind fun t14=>some t14
noncomputable def HS(t15:Dv):Option (Dv):=
(iY (.int 10) (.int 18)).bind fun d16=>(pN t15 d16).bind fun b17=>if b17=true then
some t15
else
some (.int 0)
noncomputable def He(a0 a1:Dv):Option (Dv):=
(Cs (.int 7907) a1).bind fun d0=>(Az d0 (.int 13579)).bind fun d1=>((HU a0 a1 d1)).bind fun t15=>((HS t15)).bind fun t18=>(Ct t15 (.int 2147483629)).bind fun d19=>(Cs d19 (.int 48271)).bind fun d20=>(Cs (.int 40692) a1).bind fun d21=>(Az d20 d21).bind fun d22=>(Ct d22 (.int 2147483646)).bind fun d23=>(Az d23 (.int 1)).bind fun d24=>some (.lst [t18,d24])
theorem aO:Gg md nh (top 10) [] 1=true:=by kernel_rfl
theorem aH:LQ md nh (top 10) [] 1 (two He):=iu (by kernel_rfl) fun _ _=>(by kernel_rfl)
def ng:List (Str×w9):=("_law_feed", Ai (AD (top 10)) [] 1 false (two He))::nh
noncomputable def AS(a0 a1:Dv):Option (Dv×Dv):=
(AC a0 (.int 0)).bind fun d0=>(iy d0 (.int 0)).bind fun b1=>if b1=true then
(AC a0 (.int 0)).bind fun d2=>(Ct d2 a1).bind fun d3=>(AC a0 (.int 0)).bind fun d4=>(Xy d4 a1).bind fun d5=>(BF a0 (.int 0) d5).bind fun d6=>some (d3,d6)
else
(AC a0 (.int 1)).bind fun d7=>(Cs d7 (.int 48271)).bind fun d8=>(Ct d8 (.int 2147483647)).bind fun d9=>(Cs d9 (.int 40692)).bind fun d10=>(Az d10 (.int 30103)).bind fun d11=>(Ct d11 (.int 2147483399)).bind fun d12=>(Az d12 (.int 1)).bind fun d13=>(BF a0 (.int 1) d13).bind fun d14=>(Cs d9 (.int 2147483647)).bind fun d15=>(AC d14 (.int 1)).bind fun d16=>(Az d15 d16).bind fun d17=>(Xy d17 (.int 8191)).bind fun d18=>(Ct d18 a1).bind fun d19=>some (d19,d14)
theorem aM:Gg md ng (top 11) [0] 1=true:=by kernel_rfl
theorem aF:LQ md ng (top 11) [0] 1 (two AS):=iu (by kernel_rfl) fun _ _=>(by kernel_rfl)
def nc:List (Str×w9):=("_law_take", Ai (AD (top 11)) [0] 1 false (two AS))::ng
noncomputable def EE(x2:Dv)(t3:Dv):Option (Dv×Dv):=
(AS t3 (.int 26)).bind fun c4=>(AC (.str [97,98,99,100,101,102,103,104,105,106,107,108,109,110,111,112,113,114,115,116,117,118,119,120,121,122]) c4.1).bind fun d5=>some (d5,c4.2)
noncomputable def Fi(d28:Dv):Option (Dv):=
(iw d28 (.tup [(.str [100,101,102]),(.str [108,101,116]),(.str [116,101,108,108]),(.str [108,111,111,112]),(.str [112,105,99,107]),(.str [99,97,108,108])])).bind fun b29=>if b29=true then
(Az d28 (.str [113])).bind fun d30=>some d30
else
some d28
noncomputable def Fv(d7:Dv)(zDg:Dv)(zAK:Dv)(zCg:Dv)(x14:Dv)(t15:Dv):Option (Dv):=
(Cs (.int 7) x14).bind fun d16=>(Az zDg d16).bind fun d17=>(Ct d17 (.int 26)).bind fun d18=>(AC (.str [97,98,99,100,101,102,103,104,105,106,107,108,109,110,111,112,113,114,115,116,117,118,119,120,121,122]) d18).bind fun d19=>iz zAK fun i20=>(TY d7 none (some i20)).bind fun d21=>(Az d21 d19).bind fun d22=>iz zAK fun i23=>(Az zCg x14).bind fun d24=>(Ct d24 (.int 4)).bind fun d25=>iz d25 fun i26=>(TY d7 (some i23) (some i26)).bind fun d27=>(Az d22 d27).bind fun d28=>((Fi d28)).bind fun t31=>Km "list" t15 (
(Ay t15 [t31]).bind fun r32=>some r32.2)
noncomputable def JS(ye:Dv)(zi:Dv):Option (Bool×Dv):=
(NM (.int 2)).bind fun d35=>(AC zi d35).bind fun d36=>(BC d36).bind fun d37=>(iV d37 (.int 4)).bind fun b38=>if b38=true then
(AS ye (.int 4)).bind fun c39=>(TV c39.1 (.int 0)).bind fun b40=>some (b40,c39.2)
else
some (false,ye)
noncomputable def Fc(a1:Dv)(ye:Dv)(zi:Dv):Option (Bool×Dv):=
(iy a1 (.int 1)).bind fun b34=>if b34=true then
((JS ye zi)).bind fun t41=>some (t41.1,t41.2)
else
some (false,ye)
noncomputable def Fh(a1:Dv)(ye:Dv)(zi:Dv):Option (Dv×Dv):=
((Fc a1 ye zi)).bind fun t42=>if t42.1=true then
(NM (.int 2)).bind fun d43=>(AC zi d43).bind fun d44=>(Az d44 (.str [113])).bind fun d45=>(NM (.int 1)).bind fun d46=>(BF zi d46 d45).bind fun d47=>some (t42.2,d47)
else
some (t42.2,zi)
noncomputable def Cc(a0 a1:Dv):Option (Dv×Dv):=
Km "str" (.str []) (
(AS a0 (.int 4)).bind fun c0=>(Bq [c0.1]).bind fun s1=>Cu s1 ((CU EE s1 c0.2).bind fun p6=>(Ig (.str []) (.lst p6.1)).bind fun d7=>(AS p6.2 (.int 26)).bind fun c8=>(BC d7).bind fun d9=>(Az d9 (.int 1)).bind fun d10=>(AS c8.2 d10).bind fun c11=>(AS c11.2 (.int 4)).bind fun c12=>(Bq [a1]).bind fun s13=>(Aw (Fv d7 c8.1 c11.1 c12.1) s13 (.lst [])).bind fun zi=>((Fh a1 c12.2 zi)).bind fun t48=>some (t48.2,t48.1)))
theorem Wv:Gg md nc (top 12) [0] 1=true:=by kernel_rfl
theorem Wg:LQ md nc (top 12) [0] 1 (two Cc):=iu (by kernel_rfl) fun _ _=>(by kernel_rfl)
def gm:List (Str×w9):=("_law_names", Ai (AD (top 12)) [0] 1 false (two Cc))::nc
noncomputable def Fl(x5:Dv):Option Dv:=
(TY x5 none (some 1)).bind fun d6=>Km "str" d6 (
(GU d6).bind fun d7=>(TY x5 (some 1) none).bind fun d8=>(Az d7 d8).bind fun d9=>some d9)
noncomputable def Fk(zAK:Dv)(x15:Dv)(t16:Dv):Option (Dv×Dv):=
(AC zAK x15).bind fun d17=>(AS t16 (.int 2)).bind fun c18=>(Az (.int 1) c18.1).bind fun d19=>some ((.tup [d17,d19]),c18.2)
noncomputable def Ew(a0:Dv):Option (Dv×Dv):=
(Cc a0 (.int 4)).bind fun c0=>(AS c0.2 (.int 4)).bind fun c1=>iz c1.1 fun i2=>(TY c0.1 none (some i2)).bind fun d3=>(items d3).bind fun s4=>Cu s4 ((Aj Fl s4).bind fun y10=>(Cc c1.2 (.int 3)).bind fun c11=>(AS c11.2 (.int 8)).bind fun c12=>(AC (.lst [(.int 1),(.int 2),(.int 3),(.int 2),(.int 3),(.int 1),(.int 2),(.int 0)]) c12.1).bind fun d13=>(Bq [d13]).bind fun s14=>Cu s14 ((CU (Fk c11.1) s14 c12.2).bind fun p20=>(AM (.lst y10)).bind fun d21=>(AM (.lst p20.1)).bind fun d22=>some ((.tup [d21,d22]),p20.2)))
theorem Wu:Gg md gm (top 13) [0] 1=true:=by kernel_rfl
theorem Wf:LQ md gm (top 13) [0] 1 (one Ew):=oH (by kernel_rfl) fun _=>(by kernel_rfl)
def gk:List (Str×w9):=("_law_shape", Ai (AD (top 13)) [0] 1 false (one Ew))::gm
noncomputable def JW(a2:Dv)(x2:Dv)(t3:Dv):Option (Dv×Dv):=
(AS t3 a2).bind fun c4=>some (c4.1,c4.2)
noncomputable def JV(a2:Dv)(x14:Dv)(t15:Dv):Option (Dv×Dv):=
(AS t15 a2).bind fun c16=>some (c16.1,c16.2)
noncomputable def JU(a2:Dv)(x24:Dv)(t25:Dv):Option (Dv×Dv):=
(AS t25 a2).bind fun c26=>some (c26.1,c26.2)
noncomputable def Fj(a2:Dv)(x21:Dv)(t22:Dv):Option (Dv×Dv):=
(Bq [a2]).bind fun s23=>Cu s23 ((CU (JU a2) s23 t22).bind fun p27=>(AM (.lst p27.1)).bind fun d28=>some (d28,p27.2))
noncomputable def Fg(a2:Dv)(zBN:Dv)(zAA:Dv)(xf:Dv):Option (Dv×Dv):=
(TV xf (.int 1)).bind fun b12=>if b12=true then
Km "list" zAA (
(Bq [a2]).bind fun s13=>Cu s13 ((CU (JV a2) s13 zBN).bind fun p17=>(AM (.lst p17.1)).bind fun d18=>(Ay zAA [d18]).bind fun r19=>some (p17.2,r19.2)))
else
Km "list" zAA (
(Bq [a2]).bind fun s20=>Cu s20 ((CU (Fj a2) s20 zBN).bind fun p29=>(AM (.lst p29.1)).bind fun d30=>(Ay zAA [d30]).bind fun r31=>some (p29.2,r31.2)))
noncomputable def EF(a2:Dv)(x9:Dv)(t10:Dv×Dv):Option (Dv×Dv):=
(YQ [5,6] x9).bind fun(z9:Dv×Dv)=>((Fg a2 t10.1 t10.2 z9.2)).bind fun t32=>some (t32.1,t32.2)
noncomputable def Eu(a0 a1 a2:Dv):Option (Dv×Dv):=
(AC a1 (.int 0)).bind fun d0=>(items d0).bind fun s1=>Cu s1 ((CU (JW a2) s1 a0).bind fun p5=>(AM (.lst p5.1)).bind fun d6=>(AC a1 (.int 1)).bind fun d7=>(items d7).bind fun s8=>(Aw (EF a2) s8 (p5.2,(.lst []))).bind fun zi=>(AM zi.2).bind fun d34=>some ((.tup [a2,d6,d34]),zi.1))
theorem Wt:Gg md gk (top 14) [0] 1=true:=by kernel_rfl
theorem We:LQ md gk (top 14) [0] 1 (Ci Eu):=cx (by kernel_rfl) fun _ _ _=>(by kernel_rfl)
def gj:List (Str×w9):=("_law_world", Ai (AD (top 14)) [0] 1 false (Ci Eu))::gk
noncomputable def Er(d2:Dv)(x17:Dv):Option Dv:=
(Ct x17 d2).bind fun d18=>some d18
noncomputable def HR(d2:Dv)(x10:Dv)(z9:Dv):Option (Dv):=
(AC z9 x10).bind fun d12=>(JE d12 (.ty "tuple")).bind fun d13=>(GV d13).bind fun b14=>if b14=true then
(AC z9 x10).bind fun d15=>(items d15).bind fun s16=>Cu s16 ((Aj (Er d2) s16).bind fun y19=>(AM (.lst y19)).bind fun d20=>(BF z9 x10 d20).bind fun d21=>some d21)
else
(AC z9 x10).bind fun d22=>(Ct d22 d2).bind fun d23=>(BF z9 x10 d23).bind fun d24=>some d24
noncomputable def BJ(d2:Dv)(x10:Dv)(z9:Dv):Option (Dv):=
((HR d2 x10 z9)).bind fun t25=>some t25
noncomputable def CL(d2:Dv)(x5:Dv)(t6:Dv):Option (Dv):=
(CW x5).bind fun d7=>(BC d7).bind fun d8=>(Bq [d8]).bind fun s9=>(Aw (BJ d2) s9 d7).bind fun t26=>Km "list" t6 (
(AM t26).bind fun d27=>(Ay t6 [d27]).bind fun r28=>some r28.2)
noncomputable def Fy(a0 a1:Dv):Option (Dv×Dv):=
(AC a1 (.int 0)).bind fun d0=>(AS a0 d0).bind fun c1=>(Az (.int 1) c1.1).bind fun d2=>(AC a1 (.int 2)).bind fun d3=>(items d3).bind fun s4=>(Aw (CL d2) s4 (.lst [])).bind fun t29=>(AC a1 (.int 0)).bind fun d30=>(AC a1 (.int 1)).bind fun d31=>(AM t29).bind fun d32=>some ((.tup [d30,d31,d32]),c1.2)
theorem aN:Gg md gj (top 15) [0] 1=true:=by kernel_rfl
theorem aG:LQ md gj (top 15) [0] 1 (two Fy):=iu (by kernel_rfl) fun _ _=>(by kernel_rfl)
def gi:List (Str×w9):=("_law_flat", Ai (AD (top 15)) [0] 1 false (two Fy))::gj
noncomputable def CD(a2:Dv)(zAx:Dv)(zAM:Dv)(x7:Dv):Option (Bool):=
(AC zAx (.int 1)).bind fun d9=>(TV d9 (.int 1)).bind fun b10=>if b10=true then
(AC zAM x7).bind fun d11=>(LG d11 a2).bind fun b12=>some b12
else
some false
noncomputable def Ea(a2:Dv)(zAM:Dv)(x7:Dv)(x18:Dv)(t19:Unit):Option (Lp Dv (Unit) (Unit)):=
(AC zAM x7).bind fun d20=>(AC d20 x18).bind fun d21=>(LG d21 a2).bind fun b22=>if b22=true then
some (.rt (.bl false) ())
else
some (.go ())
noncomputable def CK(a2:Dv)(zAx:Dv)(zAM:Dv)(x7:Dv)(t8:Unit):Option (Lp Dv (Unit) (Unit)):=
((CD a2 zAx zAM x7)).bind fun t13=>if t13=true then
some (.rt (.bl false) ())
else
(AC zAx (.int 1)).bind fun d14=>(PM d14 (.int 1)).bind fun d15=>(Cs a2 d15).bind fun d16=>(items d16).bind fun s17=>(DJ (Ea a2 zAM x7) s17 ()).bind fun l26=>l26.el (fun(t23:Unit)=>some (.go ())) fun(e24:Dv) (r25:Unit)=>some (.rt e24 ())
noncomputable def DO(a2:Dv)(x3:Dv)(t4:Unit):Option (Lp Dv (Unit) (Unit)):=
(YQ [3,4] x3).bind fun(t5:Dv×Dv)=>(items a2).bind fun s6=>(DJ (CK a2 t5.1 t5.2) s6 ()).bind fun l30=>l30.el (fun(t27:Unit)=>some (.go ())) fun(e28:Dv) (r29:Unit)=>some (.rt e28 ())
noncomputable def Hb(a2:Dv)(x36:Dv):Option Dv:=
(iw x36 a2).bind fun b37=>some (.bl b37)
noncomputable def Dl(a0 a1 a2:Dv):Option (Dv):=
(AC a0 (.int 1)).bind fun d0=>(AC a1 (.int 2)).bind fun d1=>(Hc [d0,d1]).bind fun s2=>(DJ (DO a2) s2 ()).bind fun l40=>l40.el (fun(t31:Unit)=>(AC a1 (.int 1)).bind fun d34=>(items d34).bind fun s35=>Cu s35 ((Aj (Hb a2) s35).bind fun y38=>(JF (.lst y38)).bind fun d39=>some d39)) fun(e32:Dv) (r33:Unit)=>some e32
theorem Sj:Gg md gi (top 16) [] 1=true:=by kernel_rfl
theorem Sb:LQ md gi (top 16) [] 1 (Ci Dl):=cx (by kernel_rfl) fun _ _ _=>(by kernel_rfl)
def gh:List (Str×w9):=("_law_is_room", Ai (AD (top 16)) [] 1 true (Ci Dl))::gi
noncomputable def Ny(x2:Dv)(x5:Dv):Option (Option Dv):=
(mO x2 x5).bind fun d6=>(cz d6 (.int 1)).bind fun d7=>(TV d7 (.int 1)).bind fun b8=>if b8=true then
some (some x5)
else some none
noncomputable def EZ(a0:Dv)(x2:Dv)(t3:Dv):Option (Dv):=
Km "list" t3 (
(Bq [a0]).bind fun s4=>Cu s4 ((GH (Ny x2) s4).bind fun y9=>(AM (.lst y9)).bind fun d10=>(Ay t3 [d10]).bind fun r11=>some r11.2))
noncomputable def Dk(a0:Dv):Option (Dv):=
(bJ (.int 1) a0).bind fun d0=>(Kb [(.int 1),d0]).bind fun s1=>(Aw (EZ a0) s1 (.lst [])).bind fun t12=>(GW t12).bind fun d13=>some d13
theorem Si:Gg md gh (top 17) [] 1=true:=by kernel_rfl
theorem Sa:LQ md gh (top 17) [] 1 (one Dk):=oH (by kernel_rfl) fun _=>(by kernel_rfl)
def gg:List (Str×w9):=("_law_rising", Ai (AD (top 17)) [] 1 false (one Dk))::gh
noncomputable def Fu(x1:Dv)(x3:Dv):Option Dv:=
(iw x3 x1).bind fun b4=>some (.bl b4)
noncomputable def Ft(a1:Dv)(x1:Dv):Option (Option Dv):=
(items a1).bind fun s2=>Cu s2 ((Aj (Fu x1) s2).bind fun y5=>(JF (.lst y5)).bind fun d6=>(GV d6).bind fun b7=>if b7=true then
some (some x1)
else some none)
noncomputable def JX(x13:Dv):Option Dv:=
(BC x13).bind fun d14=>some d14
noncomputable def Fo(y8:List Dv)(x10:Dv):Option (Option Dv):=
(BC x10).bind fun d11=>(items (.lst y8)).bind fun s12=>Cu s12 ((Aj JX s12).bind fun y15=>(Ie (.lst y15)).bind fun d16=>(TV d11 d16).bind fun b17=>if b17=true then
some (some x10)
else some none)
noncomputable def Fm(x20:Dv)(x26:Dv):Option Dv:=
(iw x26 x20).bind fun b27=>some (.bl b27)
noncomputable def Fe(y18:List Dv)(x20:Dv):Option (Bool):=
(BC (.lst y18)).bind fun d22=>(Tn d22 (.int 1)).bind fun b23=>if b23=true then
some true
else
(AC (.lst y18) (.int 0)).bind fun d24=>(items d24).bind fun s25=>Cu s25 ((Aj (Fm x20) s25).bind fun y28=>(JF (.lst y28)).bind fun d29=>(GV d29).bind fun b30=>some (!b30))
noncomputable def Fw(y18:List Dv)(x20:Dv)(t21:Unit):Option (Lp Dv (Unit) (Unit)):=
((Fe y18 x20)).bind fun t31=>if t31=true then
some (.rt Dv.wa ())
else
some (.go ())
noncomputable def Ex(a0 a1:Dv):Option (Dv):=
(items a0).bind fun s0=>Cu s0 ((GH (Ft a1) s0).bind fun y8=>(items (.lst y8)).bind fun s9=>Cu s9 ((GH (Fo y8) s9).bind fun y18=>(items (.lst y8)).bind fun s19=>(DJ (Fw y18) s19 ()).bind fun l36=>l36.el (fun(t32:Unit)=>(AC (.lst y18) (.int 0)).bind fun d35=>some d35) fun(e33:Dv) (r34:Unit)=>some e33))
theorem Ww:Gg md gg (top 18) [] 0=true:=by kernel_rfl
theorem Wh:LQ md gg (top 18) [] 0 (two Ex):=iu (by kernel_rfl) fun _ _=>(by kernel_rfl)
def gc:List (Str×w9):=("_law_least", Ai (AD (top 18)) [] 0 false (two Ex))::gg
noncomputable def BN(x1:Dv)(t2:Dv):Option (Dv):=
(BC t2).bind fun d3=>(BF t2 x1 d3).bind fun d4=>some d4
noncomputable def Dh(t5:Dv)(xf:Dv)(x15:Dv):Option Dv:=
(AC xf x15).bind fun d16=>(AC t5 d16).bind fun d17=>some d17
noncomputable def Dg(t5:Dv)(xf:Dv)(x22:Dv)(x24:Dv):Option Dv:=
(AC xf x22).bind fun d25=>(AC d25 x24).bind fun d26=>(AC t5 d26).bind fun d27=>some d27
noncomputable def Df(a2:Dv)(t5:Dv)(xf:Dv)(x22:Dv):Option Dv:=
(items a2).bind fun s23=>Cu s23 ((Aj (Dg t5 xf x22) s23).bind fun y28=>(AM (.lst y28)).bind fun d29=>some d29)
noncomputable def GX(a2:Dv)(t5:Dv)(t10:Dv)(z8:Dv)(xf:Dv):Option (Dv):=
(AC z8 (.int 1)).bind fun d12=>(TV d12 (.int 1)).bind fun b13=>if b13=true then
Km "list" t10 (
(items a2).bind fun s14=>Cu s14 ((Aj (Dh t5 xf) s14).bind fun y18=>(AM (.lst y18)).bind fun d19=>(Ay t10 [d19]).bind fun r20=>some r20.2))
else
Km "list" t10 (
(items a2).bind fun s21=>Cu s21 ((Aj (Df a2 t5 xf) s21).bind fun y30=>(AM (.lst y30)).bind fun d31=>(Ay t10 [d31]).bind fun r32=>some r32.2))
noncomputable def Cb(a2:Dv)(t5:Dv)(x9:Dv)(t10:Dv):Option (Dv):=
(YQ [6,7] x9).bind fun(z9:Dv×Dv)=>((GX a2 t5 t10 z9.1 z9.2)).bind fun zi=>some zi
noncomputable def GZ(t5:Dv)(x38:Dv):Option Dv:=
(AC t5 x38).bind fun d39=>some d39
noncomputable def DB(a0 a1 a2:Dv):Option (Dv):=
(items a2).bind fun s0=>(Aw BN s0 (.xH [] [])).bind fun t5=>(AC a0 (.int 1)).bind fun d6=>(AC a1 (.int 2)).bind fun d7=>(Hc [d6,d7]).bind fun s8=>(Aw (Cb a2 t5) s8 (.lst [])).bind fun t34=>(BC a2).bind fun d35=>(AC a1 (.int 1)).bind fun d36=>(items d36).bind fun s37=>Cu s37 ((Aj (GZ t5) s37).bind fun y40=>(AM (.lst y40)).bind fun d41=>(AM t34).bind fun d42=>some (.tup [d35,d41,d42]))
theorem Oo:Gg md gc (top 19) [] 1=true:=by kernel_rfl
theorem Oi:LQ md gc (top 19) [] 1 (Ci DB):=cx (by kernel_rfl) fun _ _ _=>(by kernel_rfl)
def gb:List (Str×w9):=("_law_world_of", Ai (AD (top 19)) [] 1 false (Ci DB))::gc
noncomputable def Di(x8:Dv):Option Dv:=
(JE x8 (.ty "tuple")).bind fun d9=>some d9
noncomputable def Dd(a2:Dv)(c3:Dv):Option (Bool):=
(Tn c3 a2).bind fun b6=>if b6=true then
some true
else
(items c3).bind fun s7=>Cu s7 ((Aj Di s7).bind fun y10=>(JF (.lst y10)).bind fun d11=>bif Th d11 then
(GV d11).bind fun b12=>some (!b12)
else none)
noncomputable def CB(a2:Dv)(c3:Dv):Option (Bool):=
(JE c3 (.ty "list")).bind fun d4=>(GV d4).bind fun b5=>if(!b5)=true then
some true
else
((Dd a2 c3)).bind fun t13=>some t13
noncomputable def CJ(a0:Dv)(a1:Dv)(a2:Dv)(x1:Dv)(t2:Unit):Option (Lp Dv (Unit) (Unit)):=
(Hd a0 a1).bind fun c3=>((CB a2 c3)).bind fun t14=>if t14=true then
some (.rt (.bl false) ())
else
Km "list" c3 (
(LM c3 []).bind fun r15=>some (.go ()))
noncomputable def CH(a0:Dv)(a1:Dv)(x20:Dv)(t21:Unit):Option (Lp Dv (Unit) (Unit)):=
(CO a0 a1 x20).bind fun c22=>(DB a0 a1 x20).bind fun c23=>(Tn c22 c23).bind fun b24=>if b24=true then
some (.rt (.bl false) ())
else
some (.go ())
noncomputable def BW(a0 a1 a2:Dv):Option (Dv):=
(Bq [(.int 2)]).bind fun s0=>(DJ (CJ a0 a1 a2) s0 ()).bind fun l29=>l29.el (fun(t16:Unit)=>(items a2).bind fun s19=>(DJ (CH a0 a1) s19 ()).bind fun l28=>l28.el (fun(t25:Unit)=>some (.bl true)) fun(e26:Dv) (r27:Unit)=>some e26) fun(e17:Dv) (r18:Unit)=>some e17
theorem JB:Gg md gb (top 20) [] 1=true:=by kernel_rfl
theorem Iy:LQ md gb (top 20) [] 1 (Ci BW):=cx (by kernel_rfl) fun _ _ _=>(by kernel_rfl)
def lB:List (Str×w9):=("_law_rooms_right", Ai (AD (top 20)) [] 1 true (Ci BW))::gb
noncomputable def Nt(zBW:Dv)(zCh:Dv):Option (Dv×Dv):=
(AS zCh (.int 2)).bind fun c11=>(TV c11.1 (.int 0)).bind fun b12=>if b12=true then
(Fy c11.2 zBW).bind fun c13=>some (c13.2,c13.1)
else
some (c11.2,zBW)
noncomputable def Nw(zAV:Dv)(yo:Dv)(x18:Dv):Option (Option Dv):=
(Dl zAV yo x18).bind fun c19=>bif Th c19 then
(GV c19).bind fun b20=>if b20=true then
some (some x18)
else some none
else none
noncomputable def Nv(yo:Dv)(x29:Dv)(t30:Dv):Option (Dv×Dv):=
(AC yo (.int 0)).bind fun d31=>(AS t30 d31).bind fun c32=>some (c32.1,c32.2)
noncomputable def Nr(zAV:Dv)(y21:List Dv)(yp:List Dv):Option (Dv):=
(BC (.lst yp)).bind fun d34=>(AC zAV (.int 0)).bind fun d35=>(BC d35).bind fun d36=>(Az d34 d36).bind fun d37=>(iy d37 (.int 0)).bind fun b38=>if b38=true then
(Ex (.lst y21) (.lst yp)).bind fun c39=>some c39
else
some Dv.wa
noncomputable def UT(c45:Dv):Option (Bool):=
(RC c45 Dv.wa).bind fun b47=>if b47=true then
(JE c45 (.ty "tuple")).bind fun d48=>(GV d48).bind fun b49=>some (!b49)
else
some false
noncomputable def US(yp:List Dv)(d44:Dv)(c45:Dv):Option (Bool):=
((UT c45)).bind fun t50=>if t50=true then
some true
else
(CW d44).bind fun d51=>(Tn d51 (.lst yp)).bind fun b52=>some b52
noncomputable def Nm(yp:List Dv)(t40:Dv)(d44:Dv)(c45:Dv):Option (Bool):=
(Tn c45 t40).bind fun b46=>if b46=true then
some true
else
((US yp d44 c45)).bind fun t53=>some t53
noncomputable def KZ(zAV:Dv)(yo:Dv)(y21:List Dv)(x25:Dv)(t26:Dv):Option (Lp Dv (Dv) (Unit)):=
(AS t26 (.int 5)).bind fun c27=>(Bq [c27.1]).bind fun s28=>Cu s28 ((CU (Nv yo) s28 c27.2).bind fun p33=>((Nr zAV y21 p33.1)).bind fun t40=>(AM (.lst p33.1)).bind fun d41=>(CW (.lst p33.1)).bind fun d42=>(AS p33.2 (.int 2)).bind fun c43=>(AC (.lst [d41,d42]) c43.1).bind fun d44=>(Bc zAV yo d44).bind fun c45=>((Nm p33.1 t40 d44 c45)).bind fun t54=>if t54=true then
some (.rt (.bl false) ())
else
some (.go c43.2))
noncomputable def KY(a0:Dv)(x4:Dv)(t5:Unit):Option (Lp Dv (Unit) (Unit)):=
(He a0 x4).bind fun c6=>(Ew c6).bind fun c7=>(AS c7.2 (.int 4)).bind fun c8=>(Az (.int 1) c8.1).bind fun d9=>(Eu c8.2 c7.1 d9).bind fun c10=>((Nt c10.1 c10.2)).bind fun t14=>(AC t14.2 (.int 0)).bind fun d15=>(Dk d15).bind fun c16=>(items c16).bind fun s17=>Cu s17 ((GH (Nw c7.1 t14.2) s17).bind fun y21=>(BW c7.1 t14.2 (.lst y21)).bind fun c22=>bif Th c22 then
(GV c22).bind fun b23=>if(!b23)=true then
some (.rt (.bl false) ())
else
(Bq [(.int 4)]).bind fun s24=>(DJ (KZ c7.1 t14.2 y21) s24 t14.1).bind fun l58=>l58.el (fun(t55:Dv)=>some (.go ())) fun(e56:Dv) (r57:Unit)=>some (.rt e56 ())
else none)
noncomputable def Yq(a0:Dv):Option (Dv):=
(BC a0).bind fun d0=>(KG (.int 6) d0).bind fun d1=>(KH (.int 4) d1).bind fun d2=>(Kb [(.int 1),d2]).bind fun s3=>(DJ (KY a0) s3 ()).bind fun l62=>l62.el (fun(t59:Unit)=>some (.bl true)) fun(e60:Dv) (r61:Unit)=>some e60
theorem lT:Gg md lB (top 21) [] 1=true:=by kernel_rfl
theorem lL:LQ md lB (top 21) [] 1 (one Yq):=oH (by kernel_rfl) fun _=>(by kernel_rfl)
end My
namespace R
open PySem L2
def Fd(x:Dv):Prop:=∃a b:Int,x=.lst [.int a,.int b]
def Tx(N:Nat)(x:Dv):Prop:=∃l,x=.str l/\l.length<=N/\∀c∈l,c < 128
variable {x:Dv}
theorem Tx.mono{N M:Nat}(h:Tx N x)(le:N<=M):Tx M x:=let ⟨l,e,h1,h2⟩:=h;⟨l,e,B9 h1 le,h2⟩
variable {α:Type} {xs:List Dv}
section
variable {γ τ ρ:Type}
theorem By(g:Dv->γ->Option (Dv×γ))(P:γ->Prop)(R:Dv->Prop):∀(xs:List Dv) (c:γ),P c->(∀x∈xs,∀c,P c->∃d c',g x c=some (d,c')/\R d/\P c')->∃ds c',CU g xs c=some (ds,c')/\ds.length=xs.length/\(∀d∈ds,R d)/\P c'
 | [],c,hc,_=>⟨[],c,rfl,rfl,fun _ z=>(G6 z).elim,hc⟩
 | x::xs,c,hc,h=>by
  obtain⟨d,c1,e1,r1,p1⟩:=h x B2 c hc;obtain⟨ds,c2,e2,l2,r2,p2⟩:=By g P R xs c1 p1 fun y hy=>h y (B1 _ hy)
  refine⟨d::ds,c2,by simp only[CU,e1,e2,A1],by rw[E4,E4,l2],fun y hy=>?_,p2⟩;rcases D0.mp hy with rfl | hy
  ·exact r1
  ·exact r2 y hy
theorem II(g:Dv->γ->Option γ)(I:Nat->γ->Prop):∀(xs:List Dv) (k:Nat) (c:γ),I k c->(∀i x,xs[i]?=some x->∀c,I (k+i) c->∃c',g x c=some c'/\I (k+i+1) c')->∃c',Aw g xs c=some c'/\I (k+xs.length) c'
 | [],k,c,hc,_=>⟨c,rfl,hc⟩
 | x::xs,k,c,hc,h=>by
  obtain⟨c1,e1,i1⟩:=h 0 x rfl c hc;obtain⟨c2,e2,i2⟩:=II g I xs (k+1) c1 i1 fun i y hy c hc=>by
   have:=h (i+1) y hy c (by rw[show k+(i+1)=k+1+i by omega];exact hc);rw[show k+(i+1)+1=k+1+i+1 by omega] at this;exact this
  exact⟨c2,by simp only[Aw,e1,e2,A1],by rw[E4,show k+(xs.length+1)=k+1+xs.length by omega];exact i2⟩
theorem CQ(g:Dv->Option Dv)(f:Dv->Dv):∀(xs:List Dv),(∀x∈xs,g x=some (f x))->Aj g xs=some (xs.map f)
 | [],_=>rfl
 | x::xs,h=>by simp only[Aj,h x B2,CQ g f xs fun y hy=>h y (B1 _ hy),A1,D3]
theorem Hy(g:Dv->Option Dv)(R:Dv->Prop):∀(xs:List Dv),(∀x∈xs,∃d,g x=some d/\R d)->∃ds,Aj g xs=some ds/\ds.length=xs.length/\∀d∈ds,R d
 | [],_=>⟨[],rfl,rfl,fun _ z=>by cases z⟩
 | x::xs,h=>by
  obtain⟨d,e1,r1⟩:=h x B2;obtain⟨ds,e2,l2,r2⟩:=Hy g R xs fun y hy=>h y (B1 _ hy)
  refine⟨d::ds,by simp only[Aj,e1,e2,A1],by rw[E4,E4,l2],fun y hy=>?_⟩;rcases D0.mp hy with rfl | hy
  ·exact r1
  ·exact r2 y hy
theorem FK(g:Dv->γ->Option (Lp τ γ ρ))(c:γ):∀(xs:List Dv),(∀x∈xs,g x c=some (.go c))->DJ g xs c=some (.go c)
 | [],_=>rfl
 | x::xs,h=>by simp only[DJ,h x B2,A1];exact FK g c xs fun y hy=>h y (B1 _ hy)
theorem FL(g:Dv->Unit->Option (Lp τ Unit ρ))(p:Dv->Bool)(d:τ)(r:ρ):∀(xs:List Dv),(∀x∈xs,g x ()=some (if p x=true then .rt d r else .go ()))->DJ g xs ()=some (if xs.any p=true then .rt d r else .go ())
 | [],_=>rfl
 | x::xs,h=>by
  have ih:=FL g p d r xs fun y hy=>h y (B1 _ hy)
  simp only[DJ,h x B2,A1,T7]
  by_cases q:p x=true
  ·simp[q]
  ·simp only[q,C6,if_false,vd];simpa using ih
theorem AV{o:Option α}(h:xs.length<=1000000):Cu xs o=o:=by unfold Cu;rw[if_pos h]
end
theorem LH(xs:List α)(i:Nat)(h:i < xs.length):Gc xs (i:Int)=some xs[i]:=by
 unfold Gc Tj;rw[if_pos (by omega),if_pos (by omega)];simp[h]
theorem LI{xs:List α}{i:Int}(h0:0<=i)(h:i < xs.length):∃x∈xs,Gc xs i=some x:=by
 obtain⟨n,rfl⟩:∃n:Nat,i=n:=⟨i.toNat,by omega⟩;exact⟨xs[n]'(by omega),U2 _,LH xs n (by omega)⟩
theorem RF{i:Int}(h0:0<=i)(h:i < xs.length):∃x∈xs,AC (.lst xs) (.int i)=some x:=LI h0 h
theorem mQ{l:List Nat}{i:Int}(h0:0<=i)(h:i < l.length)(hl:l.length<=1000000):∃c∈l,AC (.str l) (.int i)=some (.str [c]):=by
 obtain⟨c,hc,e⟩:=LI h0 h;exact⟨c,hc,by simp only[AC,if_pos hl,e,F6]⟩
theorem Ey{n:Int}(h0:-1000000000<=n)(h:n<=1000000000):Bq [.int n]=some ((B3 n.toNat).map fun k=>.int (k:Nat)):=by
 have:small n=true:=by unfold small;simp[h0,h]
 simp only[Bq,this,cond_true,Int.zero_add]
theorem eL(n:Nat)(h:n<=1000000):Bq [.int (n:Nat)]=some ((B3 n).map fun k=>.int (k:Nat)):=by
 have:=Ey (n:=(n:Int)) (by omega) (by omega);simpa using this
theorem Kl(xs:List Dv)(o:Option α):Km "list" (.lst xs) o=o:=rfl
theorem kl(l:List Nat)(o:Option α):Km "str" (.str l) o=o:=rfl
theorem mM{R:Type}(i:Int)(k:Int->Option R):iz (.int i) k=k i:=rfl
theorem Ng(b:Bool):GV (.bl b)=some b:=rfl
theorem gC(b:Bool):Th (.bl b)=true:=rfl
theorem NW{β:Type}{i j:Nat}(x y:Dv)(f:Dv×Dv->Option β):((YQ [i,j] (.tup [x,y])).bind fun(t:Dv×Dv)=>f t)=f (x,y):=rfl
theorem NL{y:Dv}(h:xs.length<=1000000):Ay (.lst xs) [y]=some (.wa,.lst (xs++[y])):=by simp only[Ay,if_pos h]
theorem cI{ys:List Dv}(h:xs.length+ys.length<=1000000):DY (.lst xs) [.lst ys]=some (.wa,.lst (xs++ys)):=by simp only[DY,if_pos h]
theorem MB{R:Dv->Dv->Prop}:∀{xs ys:List Dv},Paired R xs ys->xs.length=ys.length
 | _,_,.nil=>rfl
 | _,_,.cons _ p=>by rw[E4,E4,MB p]
theorem Ky{xs:List α}{lo hi:Option Int}{x:α}(h:x∈DV xs lo hi):x∈xs:=List.mem_of_mem_drop (List.mem_of_mem_take h)
theorem Qs(xs:List α)(lo hi:Option Int):(DV xs lo hi).length<=xs.length:=by
 unfold DV;rw[R6,i9];omega
theorem Kz(l:List Nat)(lo hi:Option Int):Sg l lo hi=DV l lo hi:=rfl
theorem EX:∀ls:List (List Nat),Au (ls.map Dv.str)=true
 | []=>rfl
 | x::xs=>by simp only[D3,Au,Dv.cmp,EX xs,R5]
theorem EW:∀ls:List (List Nat),BZ (ls.map Dv.str)=0
 | []=>rfl
 | x::xs=>by simp only[D3,BZ,Dv.dep,EW xs];rfl
theorem GG(x:List Nat):∀ls:List (List Nat),FG (.str x) (ls.map Dv.str)=ls.contains x
 | []=>rfl
 | y::ys=>by
  have:=GG x ys;simp only[FG] at this;simp only[FG,D3,T7,this,tL,xT]
  by_cases e:y=x
  ·subst e;simp
  ·have e2:¬x=y:=fun z=>e z.symm
   have h1:(y == x)=false:=by simpa using e
   have h2:(x == y)=false:=by simpa using e2
   rw[h1,h2]
theorem mL(neg:Bool)(x:List Nat)(ls:List (List Nat)):IW neg (.str x) (.lst (ls.map Dv.str))=some (if neg=true then !ls.contains x else ls.contains x):=by
 simp only[IW,me,Dv.cmp,EX,EW,R5,E7,decide_true,if_true,GG]
theorem TU(neg:Bool)(x:List Nat)(ls:List (List Nat)):IW neg (.str x) (.tup (ls.map Dv.str))=some (if neg=true then !ls.contains x else ls.contains x):=by
 simp only[IW,me,Dv.cmp,EX,EW,R5,E7,decide_true,if_true,GG]
theorem Dz(i j:Int):Az (.int i) (.int j)=some (.int (i+j)):=rfl
theorem Ic(i j:Int)(h:0 < j):Ct (.int i) (.int j)=some (.int (i % j)):=by simp only[Ct,Bo,h,decide_true,if_true]
theorem BH(i j:Int):TV (.int i) (.int j)=some (decide (i=j)):=by
 simp only[Gh,Dv.cmp,Dv.dep,R5,E7,decide_true,if_true,xT,C6,if_false];congr 1
theorem bD(i j:Int):Tn (.int i) (.int j)=some (!decide (i=j)):=by
 simp only[Gh,Dv.cmp,Dv.dep,R5,E7,decide_true,if_true,xT];congr 1
theorem Tx.cut{N:Nat}(h:Tx N x)(hN:N<=1000000)(lo hi:Option Int):∃y,TY x lo hi=some y/\Tx N y:=by
 obtain⟨l,rfl,h1,h2⟩:=h;exact⟨.str (Sg l lo hi),by simp only[TY,if_pos (B9 h1 hN)],_,rfl,by rw[Kz];exact B9 (Qs _ _ _) h1,fun c hc=>h2 c (Ky (by rw[<- Kz];exact hc))⟩
theorem Tx.add{N M:Nat}{y:Dv}(h:Tx N x)(h':Tx M y)(hN:N+M<=1000000):∃z,Az x y=some z/\Tx (N+M) z:=by
 obtain⟨l,rfl,h1,h2⟩:=h;obtain⟨l',rfl,zy,h2'⟩:=h';refine⟨.str (l++l'),by simp only[Az,if_pos (show l.length+l'.length<=1000000 by omega)],_,rfl,by rw[D2];omega,fun c hc=>?_⟩;rcases D9.mp hc with hc | hc
 ·exact h2 c hc
 ·exact h2' c hc
theorem dP{c:Nat}(h:c < 128):j7 c < 128:=by
 unfold j7;split<;>omega
theorem Tx.upper{N:Nat}(h:Tx N x)(hN:N<=1000000):∃y,GU x=some y/\Tx N y:=by
 obtain⟨l,rfl,h1,h2⟩:=h;have e:(l.all (fun c=>decide (c < 128)) && decide (l.length<=1000000))=true:=by
  rw[A5];exact⟨E3.mpr fun c hc=>decide_eq_true (h2 c hc),decide_eq_true (B9 h1 hN)⟩
 refine⟨.str (l.map j7),by simp only[GU,e,if_true],_,rfl,by rw[A8];exact h1,fun c hc=>?_⟩;obtain⟨d,hd,rfl⟩:=D6.mp hc;exact dP (h2 d hd)
theorem JO:∀ls:List (List Nat),JP (ls.map Dv.str)=some ls
 | []=>rfl
 | x::xs=>by simp only[D3,JP,JO xs,F6]
theorem OU:∀{xs:List Dv},(∀x∈xs,∃c,x=.str [c]/\c < 128)->xs.length<=1000->∃z,Ig (.str []) (.lst xs)=some z/\Tx xs.length z:=by
 intro xs h hl;have:∃cs:List Nat,xs=(cs.map fun c=>[c]).map Dv.str/\∀c∈cs,c < 128:=by
  clear hl
  induction xs with
  | nil=>exact⟨[],rfl,fun _ z=>by cases z⟩
  | cons x xs ih =>
   obtain⟨cs,e,h2⟩:=ih fun y hy=>h y (B1 _ hy)
   obtain⟨c,rfl,hc⟩:=h x B2;refine⟨c::cs,by rw[e];rfl,fun d hd=>?_⟩;rcases D0.mp hd with rfl | hd
   ·exact hc
   ·exact h2 d hd
 obtain⟨cs,e,h2⟩:=this;have hlen:xs.length=cs.length:=by rw[e];simp
 have hj:∀cs:List Nat,jn [] (cs.map fun c=>[c])=cs:=by
  intro cs;cases cs with
  | nil=>rfl
  | cons a b =>
   show[a]++((b.map fun c=>[c]).flatMap fun y=>[]++y)=a::b;have:∀b:List Nat,((b.map fun c=>[c]).flatMap fun y=>[]++y)=b:=by
    intro b
    induction b with
    | nil=>rfl
    | cons x y ih=>simp only[D3,qX,ih];rfl
   rw[this];rfl
 have hs:((cs.map fun c=>[c]).map O8).sum=cs.length:=by
  clear e h2 hlen
  induction cs with
  | nil=>rfl
  | cons a b ih=>rw[D3,D3,List.sum_cons,ih];simp;omega
 rw[e];refine⟨.str cs,?_,cs,rfl,by simp,h2⟩;simp only[Ig,JO,hj];rw[if_pos (by rw[hs];simp;omega)]
end R
namespace My
open PySem L2 R
variable {f:Dv}
theorem Ao(hf:Fd f){n:Int}(h0:0 < n)(h1:n < 1073741824):∃(r:Nat) (f':Dv),AS f (.int n)=some (.int r,f')/\(r:Int) < n/\Fd f':=by
 obtain⟨a,b,rfl⟩:=hf;have i0:∀x y:Dv,AC (.lst [x,y]) (.int 0)=some x:=fun _ _=>rfl
 have i1:∀x y:Dv,AC (.lst [x,y]) (.int 1)=some y:=fun _ _=>rfl
 have s0:∀x y d:Dv,BF (.lst [x,y]) (.int 0) d=some (.lst [d,y]):=fun _ _ _=>rfl
 have s1:∀x y d:Dv,BF (.lst [x,y]) (.int 1) d=some (.lst [x,d]):=fun _ _ _=>rfl
 have m:∀x:Int,∃r:Nat,x % n=r/\(r:Int) < n:=fun x=>⟨(x % n).toNat,by have:=m9 x (show n≠0 by omega);omega,by have:=m9 x (show n≠0 by omega);have:=qO x h0;omega⟩
 have zDj:big 48271=true:=by decide
 have zDi:big 40692=true:=by decide
 have zDh:big 2147483647=true:=by decide
 unfold AS;simp only[i0,A1,Dx,iV]
 by_cases h:0 < a
 ·obtain⟨r,e,hr⟩:=m a;refine⟨r,.lst [.int (a / n),.int b],?_,hr,a / n,b,rfl⟩;simp only[h,decide_true,if_true,Ct,Xy,Bo,h0,h1,R5,A1,i0,s0,e]
 ·simp only[h,decide_false,C6,if_false,i1,s1,Cs,zDj,zDi,zDh,uL,if_true,A1,Ct,Xy,Bo,Az,h0,decide_true,show(0:Int) < 2147483647 by decide,show(0:Int) < 2147483399 by decide,show(0:Int) < 8191 by decide,show(8191:Int) < 1073741824 by decide,R5];obtain⟨r,e,hr⟩:=m (((b * 48271 % 2147483647) * 2147483647+((b * 48271 % 2147483647 * 40692+30103) % 2147483399+1)) / 8191);exact⟨r,_,by rw[e],hr,_,_,rfl⟩
theorem SV{ns:List Int}{k:Nat}:∃f,He (.xQ ns) (.int k)=some f/\Fd f:=by
 have b1:big 7907=true:=by decide
 have b2:big 2147483629=true:=by decide
 have b3:big 31=true:=by decide
 have b4:big 48271=true:=by decide
 have b5:big 40692=true:=by decide
 have c1:∃c:Int,HU (.xQ ns) (.int k) (.int (7907 * k+13579))=some (.int c):=by
  unfold HU Lj;simp only[BC,A1,Dx,iV]
  by_cases h:(k:Int) < ns.length
  ·simp only[h,decide_true,if_true,AC,LH ns k (by omega),F6,A1];exact⟨_,rfl⟩
  ·simp only[h,decide_false,C6,if_false]
   by_cases h2:0 < (ns.length:Int)
   ·have e:=m9 (k:Int) (show(ns.length:Int)≠0 by omega);have e':=qO (k:Int) h2;obtain⟨x,_,ex⟩:=LI e e';simp only[h2,decide_true,if_true,Ct,Bo,A1,AC,ex,F6,Cs,b1,b3,rL,uL,Az,show(0:Int) < 2147483629 by decide];exact⟨_,rfl⟩
   ·simp only[h2,decide_false,C6,if_false];exact⟨_,rfl⟩
 obtain⟨c,e⟩:=c1;have c2:∃d:Int,HS (.int c)=some (.int d):=by
  unfold HS;simp only[iY,Bo,show(decide ((0:Int)<=18) && decide ((18:Int)<=1000000) && decide ((10:Int).natAbs < 2 ^ 64))=true by decide,if_true,A1,Dx,iV];split<;>exact⟨_,rfl⟩
 obtain⟨d,e2⟩:=c2;unfold He;simp only[Cs,b1,b4,b5,rL,uL,if_true,A1,Az,e,e2,Ct,Bo,show(0:Int) < 2147483629 by decide,show(0:Int) < 2147483646 by decide,decide_true];exact⟨_,rfl,_,_,rfl⟩
variable {n:Nat}
theorem FY(hf:Fd f)(h0:0 < n)(h1:n<=1000000):∃(r:Nat) (f':Dv),AS f (.int (n:Nat))=some (.int (r:Nat),f')/\r < n/\Fd f':=by
 obtain⟨r,f',e,b,h⟩:=Ao hf (n:=((n:Nat):Int)) (by omega) (by omega);exact⟨r,f',e,by omega,h⟩
noncomputable abbrev oK:List Nat:=[97,98,99,100,101,102,103,104,105,106,107,108,109,110,111,112,113,114,115,116,117,118,119,120,121,122]
theorem iX:∀c∈oK,c < 128:=by decide
theorem Vp{i:Int}(h0:0<=i)(h:i < 26):∃c,AC (.str oK) (.int i)=some (.str [c])/\c < 128:=by
 obtain⟨c,hc,e⟩:=mQ (l:=oK) h0 (show i < ((26:Nat):Int) by omega) (by decide);exact⟨c,e,iX c hc⟩
theorem KU{c:Nat}(h:c < 128):Tx 1 (.str [c]):=⟨[c],rfl,by simp,fun d hd=>by rw[D4] at hd;subst hd;exact h⟩
theorem RZ(hf:Fd f)(xs:List Dv)(hl:xs.length<=1000):∃z f',(∃ds,CU EE xs f=some (ds,f')/\Ig (.str []) (.lst ds)=some z)/\Tx xs.length z/\Fd f':=by
 obtain⟨ds,f',e,xp,hd,yg⟩:=By EE Fd (fun d=>∃c,d=.str [c]/\c < 128) xs f hf fun x _ c hc=>by
  obtain⟨r,f',e,hr,yg⟩:=Ao hc (n:=26) (by decide) (by decide);obtain⟨c,e2,hc⟩:=Vp (i:=r) (by omega) hr;exact⟨.str [c],f',by unfold EE;simp only[e,e2,A1],⟨c,rfl,hc⟩,yg⟩
 obtain⟨z,e2,hz⟩:=OU hd (by omega);exact⟨z,f',⟨ds,e,e2⟩,by rw[xp] at hz;exact hz,yg⟩
variable {α:Type}
theorem oA(xs:List α)(r:Nat):(DV xs none (some (r:Int))).length<=r:=by
 unfold DV;rw[R6];unfold HT.wk;simp only[];split<;>omega
theorem nz(xs:List α)(r:Nat)(h:Option Int):(DV xs (some (r:Int)) h).length<=xs.length - r:=by
 unfold DV;rw[R6,i9];have:HT.wk xs.length 0 (some (r:Int))=min r xs.length:=by unfold HT.wk;simp only[];split<;>omega
 omega
variable {l:List Nat}
theorem oU{N:Nat}(hN:l.length<=1000000)(h:∀c∈l,c < 128){lo hi:Option Int}(hl:(DV l lo hi).length<=N):∃y,TY (.str l) lo hi=some y/\Tx N y:=
 ⟨.str (Sg l lo hi),by simp only[TY,if_pos hN],_,rfl,by rw[Kz];exact hl,fun c hc=>h c (Ky (by rw[<- Kz];exact hc))⟩
variable {x:Dv}
theorem OP(h:Tx 4 x):∃y,Fi x=some y/\Tx 5 y:=by
 obtain⟨l,rfl,h1,h2⟩:=id h;unfold Fi;have e:=TU false l [[100,101,102],[108,101,116],[116,101,108,108],[108,111,111,112],[112,105,99,107],[99,97,108,108]];simp only[D3,W8,C6,if_false] at e;simp only[e,A1];split
 ·obtain⟨z,e1,hz⟩:=h.add (KU (c:=113) (by decide)) (by decide);exact⟨z,by rw[e1];rfl,hz⟩
 ·exact⟨_,rfl,h.mono (by decide)⟩
theorem Ht(hf:Fd f)(h2:2<=n)(hn:n<=1000):∃ns f',Cc f (.int n)=some (.lst ns,f')/\ns.length=n/\(∀x∈ns,Tx 5 x)/\Fd f':=by
 obtain⟨r1,f1,e1,b1,zx⟩:=Ao hf (n:=4) (by decide) (by decide);have er:Bq [.int r1]=some ((B3 (r1:Int).toNat).map fun k=>.int (k:Nat)):=Ey (by omega) (by omega);obtain⟨z,f2,⟨ds,e3,e4⟩,hz,hf2⟩:=RZ zx ((B3 (r1:Int).toNat).map fun k=>.int (k:Nat)) (by simp;omega);have hz:Tx 3 z:=hz.mono (by simp;omega);obtain⟨zl,rfl,hz1,hz2⟩:=hz;obtain⟨r7,f7,e7,b7,hf7⟩:=Ao hf2 (n:=26) (by decide) (by decide);have el:BC (.str zl)=some (.int zl.length):=by simp only[BC,if_pos (show zl.length<=1000000 by omega)]
 obtain⟨r10,f10,e10,b10,zBt⟩:=Ao hf7 (n:=(zl.length:Int)+1) (by omega) (by omega);obtain⟨r11,f11,e11,b11,zBE⟩:=Ao zBt (n:=4) (by decide) (by decide);have en:Bq [.int n]=some ((B3 (n:Int).toNat).map fun k=>.int (k:Nat)):=Ey (by omega) (by omega);obtain⟨c,e12,ns,rfl,hl,zf⟩:=II (Fv (.str zl) (.int r7) (.int r10) (.int r11)) (fun i c=>∃ns,c=.lst ns/\ns.length=i/\∀x∈ns,Tx 5 x) ((B3 (n:Int).toNat).map fun k=>.int (k:Nat)) 0 (.lst []) ⟨[],rfl,rfl,fun _ z=>(G6 z).elim⟩ fun i x hx c hc=>by
  obtain⟨ns,rfl,hl,zf⟩:=hc;rw[C5] at hx;have hi:i < n:=by
   rcases v9 i n with h | h
   ·exact h
   ·rw[F4 (by simp;omega)] at hx;cases hx
  rw[A3 (by simp;omega)] at hx;simp only[F6,Q3,qP] at hx;subst hx;obtain⟨c,ec,hc⟩:=Vp (i:=((r7:Int)+7 * (i:Nat)) % 26) (m9 _ (by decide)) (qO _ (by decide));obtain⟨y1,ey1,hy1⟩:=oU (by omega) hz2 (oA zl r10);obtain⟨y2,ey2,hy2⟩:=hy1.add (KU hc) (by omega);obtain⟨y3,ey3,hy3⟩:=oU (by omega) hz2 (nz zl r10 (some (((r11:Int)+(i:Nat)) % 4)));obtain⟨y4,ey4,hy4⟩:=hy2.add hy3 (by omega);obtain⟨y5,ey5,hy5⟩:=OP (hy4.mono (by omega));refine⟨.lst (ns++[y5]),?_,ns++[y5],rfl,by rw[D2,hl];rfl,fun x hx=>?_⟩
  ·have b7:big 7=true:=by decide
   unfold Fv;simp only[Cs,b7,rL,if_true,A1,Dz,Ic _ _ (show(0:Int) < 26 by decide),Ic _ _ (show(0:Int) < 4 by decide),ec,mM,ey1,ey3];rw[ey2];simp only[A1];rw[ey4];simp only[A1,ey5,Kl,NL (show ns.length<=1000000 by omega)]
  ·rcases D9.mp hx with hx | hx
   ·exact zf x hx
   ·rw[D4] at hx;subst hx;exact hy5
 have hl:ns.length=n:=by rw[hl];simp
 have last:∃ms f',Fh (.int n) f11 (.lst ns)=some (f',.lst ms)/\ms.length=n/\(∀x∈ms,Tx 5 x)/\Fd f':=by
  have m2:∃x∈ns,AC (.lst ns) (.int (-2))=some x:=by
   refine⟨ns[n - 2]'(by omega),U2 _,?_⟩;simp only[AC,Gc,Tj];rw[if_neg (by omega),if_pos (by omega)];simp only[A1];rw[show(-2+(ns.length:Int)).toNat=n - 2 by omega];exact A3 (by omega)
  obtain⟨x,hx,ex⟩:=m2;obtain⟨l,rfl,xq,xp⟩:=id (zf x hx);have t1:∃(b:Bool) (f':Dv),Fc (.int n) f11 (.lst ns)=some (b,f')/\(b=true->l.length<=3)/\Fd f':=by
   unfold Fc JS;simp only[Dx,iV,show(1:Int) < n by omega,decide_true,if_true,A1,NM,ex,BC,if_pos (show l.length<=1000000 by omega)];split
   ·rename_i w6;obtain⟨r,f',e,_,h⟩:=Ao zBE (n:=4) (by decide) (by decide);simp only[e,A1,BH];exact⟨_,_,rfl,fun _=>by have:=of_decide_eq_true w6;omega,h⟩
   ·exact⟨_,_,rfl,(fun z=>by cases z),zBE⟩
  obtain⟨b,f',et,hb3,yg⟩:=t1;unfold Fh;simp only[et,A1];cases b
  ·exact⟨ns,f',by simp,hl,zf,yg⟩
  ·obtain⟨y,ey,hy⟩:=Tx.add (N:=3) (M:=1) ⟨l,rfl,hb3 rfl,xp⟩ (KU (c:=113) (by decide)) (by decide);simp only[if_true,NM,A1,ex,ey,BF,Tj];rw[if_neg (by omega),if_pos (by omega)];refine⟨_,f',rfl,by rw[D8];exact hl,fun x hx=>?_,yg⟩;rcases qU hx with hx | rfl
   ·exact zf x hx
   ·exact hy.mono (by decide)
 obtain⟨ms,f',e13,hl3,hms,yg⟩:=last;refine⟨ms,f',?_,hl3,hms,yg⟩;unfold Cc;simp only[kl,e1,er,A1];rw[AV (by simp;omega)];simp only[A1,e3,e4,e7,el,Dz,e10,e11,en];rw[e12];simp only[A1,e13]
def my(n:Nat)(xs:List Dv):Prop:=∀y∈xs,∃r:Nat,y=.int r/\r < n
def Row(n:Nat)(x:Dv):Prop:=∃xs,x=.tup xs/\xs.length=n/\my n xs
def Tab(n:Nat)(r:Int)(x:Dv):Prop:=(r=1/\Row n x)\/(r=2/\∃xs,x=.tup xs/\xs.length=n/\∀y∈xs,Row n y)
def mW(N:Nat)(x:Dv):Prop:=∃a r,x=.tup [a,.int r]/\Tx N a/\(r=1\/r=2)
def YG(n:Nat)(d t:Dv):Prop:=∃a r,d=.tup [a,.int r]/\(r=1\/r=2)/\Tab n r t
theorem Nu(hf:Fd f):∃fs ds f',Ew f=some (.tup [.tup fs,.tup ds],f')/\fs.length<=4/\(∀x∈fs,Tx 10 x)/\ds.length<=3/\(∀x∈ds,mW 5 x)/\Fd f':=by
 obtain⟨ns,f1,e1,hl,zf,zx⟩:=Ht hf (n:=4) (by decide) (by decide);obtain⟨r2,f2,e2,b2,hf2⟩:=Ao zx (n:=4) (by decide) (by decide);have h3:∀x∈DV ns none (some (r2:Int)),Tx 5 x:=fun x hx=>zf x (Ky hx)
 have l3:=Qs ns none (some (r2:Int));obtain⟨ps,e4,l4,h4⟩:=Hy Fl (Tx 10) (DV ns none (some (r2:Int))) fun x hx=>by
  obtain⟨y1,ey1,hy1⟩:=(h3 x hx).cut (by decide) none (some 1);obtain⟨l1,rfl,_,_⟩:=id hy1;obtain⟨y2,ey2,hy2⟩:=hy1.upper (by decide);obtain⟨y3,ey3,hy3⟩:=(h3 x hx).cut (by decide) (some 1) none;obtain⟨y4,ey4,hy4⟩:=hy2.add hy3 (by decide);exact⟨y4,by unfold Fl;simp only[ey1,kl,ey2,ey3,ey4,A1],hy4⟩
 obtain⟨ms,f10,e10,zDt,hms,zBt⟩:=Ht hf2 (n:=3) (by decide) (by decide);obtain⟨r11,f11,e11,b11,zBE⟩:=Ao zBt (n:=8) (by decide) (by decide);have m:∀x∈[(Dv.int 1),(Dv.int 2),(Dv.int 3),(Dv.int 2),(Dv.int 3),(Dv.int 1),(Dv.int 2),(Dv.int 0)],∃k:Nat,x=.int k/\k<=3:=by
  intro x hx;simp only[D0,G6,or_false] at hx;rcases hx with rfl | rfl | rfl | rfl | rfl | rfl | rfl | rfl
  all_goals first | exact⟨0,rfl,by decide⟩ | exact⟨1,rfl,by decide⟩ | exact⟨2,rfl,by decide⟩ | exact⟨3,rfl,by decide⟩
 obtain⟨x,hx,ex⟩:=RF (xs:=[(Dv.int 1),(Dv.int 2),(Dv.int 3),(Dv.int 2),(Dv.int 3),(Dv.int 1),(Dv.int 2),(Dv.int 0)]) (i:=r11) (by omega) b11;obtain⟨k,rfl,hk⟩:=m x hx;have er:Bq [.int k]=some ((B3 (k:Int).toNat).map fun j=>.int (j:Nat)):=Ey (by omega) (by omega);obtain⟨qs,f16,e16,l6,h6,zDX⟩:=By (Fk (.lst ms)) Fd (mW 5) ((B3 (k:Int).toNat).map fun j=>.int (j:Nat)) f11 zBE fun x hx c hc=>by
  obtain⟨j,hj,rfl⟩:=D6.mp hx;have hj:j < k:=by simpa using hj
  obtain⟨a,ha,ea⟩:=RF (xs:=ms) (i:=j) (by omega) (by omega);obtain⟨r,f',e,b,yg⟩:=Ao hc (n:=2) (by decide) (by decide);exact⟨.tup [a,.int (1+r)],f',by unfold Fk;simp only[ea,e,A1,Dz],⟨a,1+r,rfl,hms a ha,by omega⟩,yg⟩
 refine⟨ps,qs,f16,?_,by omega,h4,by rw[l6];simp;omega,h6,zDX⟩;have e1':Cc f (.int 4)=some (.lst ns,f1):=e1;have zDe:Cc f2 (.int 3)=some (.lst ms,f10):=e10;unfold Ew;simp only[e1',e2,A1,mM,TY,items];rw[AV (by omega),e4];simp only[A1,zDe,e11];rw[ex];simp only[A1,er];rw[AV (by simp;omega),e16];rfl
theorem Hf(g:Dv->Dv->Dv->Option (Dv×Dv))(hg:∀x2 it c,g x2 it c=(AS c x2).bind fun r=>some (r.1,r.2))(h0:0 < n)(h1:n<=1000)(hf:Fd f)(xs:List Dv):∃ts f',CU (g (.int n)) xs f=some (ts,f')/\ts.length=xs.length/\my n ts/\Fd f':=
 By (g (.int n)) Fd (fun y=>∃r:Nat,y=.int r/\r < n) xs f hf fun x hx c hc=>by
  obtain⟨r,f',e,b,yg⟩:=Ao hc (n:=n) (by omega) (by omega);exact⟨.int r,f',by rw[hg,e];rfl,⟨r,rfl,by omega⟩,yg⟩
theorem Jm(g:Dv->(Dv×Dv)->Option (Dv×Dv))(P:Dv->Prop)(R:Dv->Dv->Prop):∀(xs:List Dv) (f:Dv) (acc:List Dv),P f->acc.length+xs.length<=1000->(∀x∈xs,∀f acc,P f->acc.length<=1000->∃f' t,g x (f,.lst acc)=some (f',.lst (acc++[t]))/\R x t/\P f')->∃f' ts,Aw g xs (f,.lst acc)=some (f',.lst (acc++ts))/\Paired R xs ts/\P f'
 | [],f,acc,hf,_,_=>⟨f,[],by simp only[Aw,M0],.nil,hf⟩
 | x::xs,f,acc,hf,hl,h=>by
  rw[E4] at hl;obtain⟨f1,t,e1,r1,h1⟩:=h x B2 f acc hf (by omega);obtain⟨f2,ts,e2,r2,h2⟩:=Jm g P R xs f1 (acc++[t]) h1 (by rw[D2];simp;omega) fun y hy=>h y (B1 _ hy)
  exact⟨f2,t::ts,by simp only[Aw,e1,A1,e2,G0,rX],.cons r1 r2,h2⟩
variable {fs:List Dv}
theorem NV(hf:Fd f){ds:List Dv}(h0:0 < n)(h1:n<=1000)(hfs:fs.length<=100)(hds:ds.length<=100)(hd:∀x∈ds,∃a r,x=.tup [a,.int r]/\(r=1\/r=2)):∃ts tbs f',Eu f (.tup [.tup fs,.tup ds]) (.int n)=some (.tup [.int n,.tup ts,.tup tbs],f')/\ts.length=fs.length/\my n ts/\Paired (YG n) ds tbs/\Fd f':=by
  obtain⟨ts,f1,e1,l1,zy,zx⟩:=Hf JW (fun _ _ _=>rfl) h0 h1 hf fs;have er:Bq [.int n]=some ((B3 (n:Int).toNat).map fun j=>.int (j:Nat)):=Ey (by omega) (by omega);have lr:((B3 (n:Int).toNat).map fun j=>Dv.int (j:Nat)).length=n:=by simp
  obtain⟨f2,tbs,e2,p2,hf2⟩:=Jm (EF (.int n)) Fd (YG n) ds f1 [] zx (by simp;omega) fun x hx f acc hf hl=>by
    obtain⟨a,r,rfl,hr⟩:=hd x hx;rcases hr with rfl | rfl
    · obtain⟨ys,f',e,l,hy,yg⟩:=Hf JV (fun _ _ _=>rfl) h0 h1 hf ((B3 (n:Int).toNat).map fun j=>.int (j:Nat));refine⟨f',.tup ys,?_,⟨a,1,rfl,.inl rfl,.inl ⟨rfl,ys,rfl,by rw[l,lr],hy⟩⟩,yg⟩;unfold EF Fg;simp only[NW,A1,BH,decide_true,if_true,er,Kl];rw[AV (by omega),e];simp only[A1,AM,NL (show acc.length<=1000000 by omega)]
    · obtain⟨ys,f',e,l,hy,yg⟩:=By (Fj (.int n)) Fd (Row n) ((B3 (n:Int).toNat).map fun j=>.int (j:Nat)) f hf fun x hx c hc=>by
        obtain⟨zs,f',e,l,hz,yg⟩:=Hf JU (fun _ _ _=>rfl) h0 h1 hc ((B3 (n:Int).toNat).map fun j=>.int (j:Nat));refine⟨.tup zs,f',?_,⟨zs,rfl,by rw[l,lr],hz⟩,yg⟩;unfold Fj;simp only[A1,er];rw[AV (by omega),e];simp only[A1,AM]
      refine⟨f',.tup ys,?_,⟨a,2,rfl,.inr rfl,.inr ⟨rfl,ys,rfl,by rw[l,lr],hy⟩⟩,yg⟩;unfold EF Fg;simp only[NW,A1,BH,show decide ((2:Int)=1)=false by decide,C6,if_false,er,Kl];rw[AV (by omega),e];simp only[A1,AM,NL (show acc.length<=1000000 by omega)]
  refine⟨ts,tbs,f2,?_,l1,zy,p2,hf2⟩;have i0:AC (.tup [.tup fs,.tup ds]) (.int 0)=some (.tup fs):=rfl;have i1:AC (.tup [.tup fs,.tup ds]) (.int 1)=some (.tup ds):=rfl;unfold Eu;simp only[i0,i1,A1,items];rw[AV (by omega),e1];simp only[A1,AM];rw[e2];rfl
theorem Jl{γ:Type}{P:Nat->γ->Prop}(g:Dv->γ->Option γ)(n:Nat)(c:γ)(h0:P 0 c)(h:∀i < n,∀c,P i c->∃c',g (.int (i:Nat)) c=some c'/\P (i+1) c'):∃c',Aw g ((B3 n).map fun k=>.int (k:Nat)) c=some c'/\P n c':=by
 obtain⟨c',e,p⟩:=II g P ((B3 n).map fun k=>.int (k:Nat)) 0 c h0 fun i x hx c hc=>by
  rw[C5] at hx;have hi:i < n:=by
   rcases v9 i n with h | h
   ·exact h
   ·rw[F4 (by simp;omega)] at hx;cases hx
  rw[A3 (by simp;omega)] at hx;simp only[F6,Q3,qP] at hx;subst hx;rw[uI] at hc ⊢;exact h i hi c hc
 exact⟨c',e,by simpa using p⟩
theorem YZ(h:Tab n 1 x):Row n x:=h.elim (fun z=>z.2) fun z=>absurd z.1 (by decide)
theorem YY(h:Tab n 2 x):∃xs,x=.tup xs/\xs.length=n/\∀y∈xs,Row n y:=h.elim (fun z=>absurd z.1 (by decide)) fun z=>z.2
theorem Pp{ys:List Dv}{i:Nat}{z:Dv}(h:i < ys.length):BF (.lst ys) (.int (i:Nat)) z=some (.lst (ys.set i z)):=by
 simp only[BF,Tj];rw[if_pos (by omega),if_pos (by omega)];simp
theorem QQ{r m:Nat}(hm:0 < m):Ct (.int (r:Nat)) (.int (m:Nat))=some (.int ((r % m:Nat))):=by
 rw[Ic _ _ (by omega)];congr 1
theorem aB{x2 it c t9 t18 t19:Dv}(h9:AC c it=some t9)(h10:JE t9 (.ty "tuple")=some (.bl false))(h18:Ct t9 x2=some t18)(h19:BF c it t18=some t19):BJ x2 it c=some t19:=by
 unfold BJ HR;simp only[h9,h10,Ng,h18,h19,A1,C6,if_false]
theorem aA{x2 it c t9 t15 t16:Dv}{t12 p14:List Dv}(h9:AC c it=some t9)(h10:JE t9 (.ty "tuple")=some (.bl true))(h12:items t9=some t12)(hl:t12.length<=1000000)(h14:Aj (Er x2) t12=some p14)(h15:AM (.lst p14)=some t15)(h16:BF c it t15=some t16):BJ x2 it c=some t16:=by
 unfold BJ HR;simp only[h9,h10,Ng,h12,AV hl,h14,h15,h16,A1,if_true]
theorem gu{x2 it t6 t7 c20 t21 t22 u:Dv}{t8 c:List Dv}(h6:CW it=some t6)(h7:BC t6=some t7)(h8:Bq [t7]=some t8)(h20:Aw (BJ x2) t8 t6=some c20)(h21:AM c20=some t21)(h22:Ay (.lst c) [t21]=some (u,t22)):CL x2 it (.lst c)=some t22:=by
 unfold CL;simp only[h6,h7,h8,h20,Kl,h21,h22,A1]
theorem MU{m:Nat}(hm:0 < m)(hmn:m<=n)(hn:n<=1000){xs:List Dv}(hl:xs.length=n)(Pk:Dv->Prop)(hx:∀y∈xs,Pk y)
    (step:∀(ys:List Dv) (i:Nat),i < ys.length->(∀y∈ys,Pk y)->∃z,BJ (.int (m:Nat)) (.int (i:Nat)) (.lst ys)=some (.lst (ys.set i z))/\Pk z) :
    ∃ys,Aw (BJ (.int (m:Nat))) ((B3 n).map fun k=>.int (k:Nat)) (.lst xs)=some (.lst ys)/\ys.length=n/\∀y∈ys,Pk y:=by
  obtain⟨c,e,ys,rfl,h1,h2⟩:=Jl (P:=fun _ c=>∃ys,c=.lst ys/\ys.length=n/\∀y∈ys,Pk y) (BJ (.int (m:Nat))) n (.lst xs) ⟨xs,rfl,hl,hx⟩ fun i hi c hc=>by
    obtain⟨ys,rfl,h1,h2⟩:=hc;obtain⟨z,e,hz⟩:=step ys i (by omega) h2;refine⟨_,e,ys.set i z,rfl,by rw[D8];exact h1,fun y hy=>?_⟩;rcases qU hy with hy | rfl
    · exact h2 y hy
    · exact hz
  exact⟨ys,e,h1,h2⟩
theorem WO{m:Nat}(hm:0 < m)(hmn:m<=n)(hn:n<=1000){d t:Dv}(h:YG n d t)(acc:List Dv)(zAp:acc.length<=1000):∃u,CL (.int (m:Nat)) t (.lst acc)=some (.lst (acc++[u]))/\YG n d u:=by
  obtain⟨a,r,rfl,hr,ht⟩:=h;have fin:∀xs ys:List Dv,t=.tup xs->xs.length=n->Aw (BJ (.int (m:Nat))) ((B3 n).map fun k=>.int (k:Nat)) (.lst xs)=some (.lst ys)->CL (.int (m:Nat)) t (.lst acc)=some (.lst (acc++[.tup ys])):=fun xs ys e hl h20=>by
    subst e;have h7:BC (.lst xs)=some (.int (n:Nat)):=by show some (Dv.int (xs.length:Nat))=_;rw[hl]
    exact gu (t6:=.lst xs) rfl h7 (eL n (by omega)) h20 rfl (NL (by omega))
  rcases hr with rfl | rfl
  · obtain⟨xs,rfl,hl,hx⟩:=YZ ht;obtain⟨ys,e,h1,h2⟩:=MU hm hmn hn hl (fun y=>∃r:Nat,y=.int r/\r < n) hx fun ys i hi hy=>by
      obtain⟨y,hy',ey⟩:=RF (xs:=ys) (i:=i) (by omega) (by omega);obtain⟨r,rfl,hr⟩:=hy y hy';exact⟨_,aB ey rfl (QQ hm) (Pp hi),_,rfl,C4 (tJ _ hm) hmn⟩
    exact⟨.tup ys,fin xs ys rfl hl e,a,1,rfl,.inl rfl,.inl ⟨rfl,ys,rfl,h1,h2⟩⟩
  · obtain⟨xs,rfl,hl,hx⟩:=YY ht;obtain⟨ys,e,h1,h2⟩:=MU hm hmn hn hl (Row n) hx fun ys i hi hy=>by
      obtain⟨y,hy',ey⟩:=RF (xs:=ys) (i:=i) (by omega) (by omega);obtain⟨zs,rfl,hzl,hz⟩:=hy y hy';obtain⟨us,eu,hul,hu⟩:=Hy (Er (.int (m:Nat))) (fun d=>∃r:Nat,d=.int r/\r < n) zs fun z hz'=>by
        obtain⟨r,rfl,hr⟩:=hz z hz';exact⟨_,by unfold Er;rw[QQ hm];rfl,_,rfl,C4 (tJ _ hm) hmn⟩
      exact⟨_,aA ey rfl rfl (by omega) eu rfl (Pp hi),us,rfl,by omega,hu⟩
    exact⟨.tup ys,fin xs ys rfl hl e,a,2,rfl,.inr rfl,.inr ⟨rfl,ys,rfl,h1,h2⟩⟩
theorem Jo{n m:Nat}(hm:0 < m)(hmn:m<=n)(hn:n<=1000):∀{ds T:List Dv} (acc:List Dv),Paired (YG n) ds T->acc.length+T.length<=1000->∃T',Aw (CL (.int (m:Nat))) T (.lst acc)=some (.lst (acc++T'))/\Paired (YG n) ds T'
 | _,_,acc,.nil,_=>⟨[],by simp[Aw],.nil⟩
 | _,_,acc,.cons (l₁:=ds) (l₂:=T) q r,hl=>by
  rw[E4] at hl;obtain⟨u,e1,hu⟩:=WO hm hmn hn q acc (by omega);obtain⟨T',e2,hT⟩:=Jo hm hmn hn (acc++[u]) r (by rw[D2];simp;omega);exact⟨u::T',by simp only[Aw,e1,A1,e2,G0,rX],.cons hu hT⟩
theorem QL{r:Nat}:Az (.int 1) (.int (r:Nat))=some (.int ((1+r:Nat))):=by rw[Dz];congr 1
theorem Zz{x0 x1 t1 r f' t3 c23 t25 t26:Dv}{t5:List Dv}(h1:AC x1 (.int 0)=some t1)(h2:AS x0 t1=some (r,f'))(h3:Az (.int 1) r=some t3)(h4:AC x1 (.int 2)=some (.tup t5))(h23:Aw (CL t3) t5 (.lst [])=some c23)(h25:AC x1 (.int 1)=some t25)(h26:AM c23=some t26):Fy x0 x1=some (.tup [t1,t25,t26],f'):=by
 unfold Fy;have h5:items (.tup t5)=some t5:=rfl;simp only[h1,h2,h3,h4,h5,h23,h25,h26,A1]
theorem SU(hf:Fd f){ts:Dv}{ds T:List Dv}(h0:0 < n)(hn:n<=1000)(hd:ds.length<=1000)(W:Paired (YG n) ds T):∃T' f',Fy f (.tup [.int (n:Nat),ts,.tup T])=some (.tup [.int (n:Nat),ts,.tup T'],f')/\Paired (YG n) ds T'/\Fd f':=by
 obtain⟨r,f',e,b,yg⟩:=FY hf h0 (B9 hn (by decide));obtain⟨T',e2,hT⟩:=Jo (m:=1+r) (by omega) (by omega) hn [] W (by have:=MB W;simp;omega);exact⟨T',f',Zz (t25:=ts) rfl e QL rfl e2 rfl rfl,hT,yg⟩
noncomputable abbrev nI(xs:List Nat):List Dv:=xs.map fun k=>Dv.int (k:Nat)
inductive Tf where
 | u (f:Nat->Nat) | b (f:Nat->Nat->Nat)
noncomputable def Tf.ar:Tf->Nat
 | .u _=>1
 | .b _=>2
def Tf.ok(n:Nat):Tf->Prop
 | .u f=>∀i < n,f i < n
 | .b f=>∀i < n,∀j < n,f i j < n
def Gd(n:Nat)(f:Nat->Nat):Dv:=.tup (nI ((B3 n).map f))
def Tf.dv(n:Nat):Tf->Dv
 | .u f=>Gd n f
 | .b f=>.tup ((B3 n).map fun i=>Gd n (f i))
noncomputable def WE:Dv->Nat
 | .int i=>i.toNat
 | _=>0
noncomputable def df:Dv->List Dv
 | .tup xs=>xs
 | _=>[]
theorem QS{xs:List α}{f:Nat->α}(hl:xs.length=n)(h:∀i (hi:i < xs.length),f i=xs[i]):(B3 n).map f=xs:=by
 apply List.ext_getElem
 ·simp[hl]
 ·intro i h1 h2;rw[List.getElem_map,qP];exact h i h2
theorem OA(h:Row n x):x=Gd n (fun i=>WE ((df x).getD i .wa))/\∀i < n,WE ((df x).getD i .wa) < n:=by
 obtain⟨xs,rfl,hl,hx⟩:=h;have g:∀i (hi:i < xs.length),∃r:Nat,xs[i]=.int r/\r < n:=fun i hi=>hx _ (U2 hi)
 have e:∀i (hi:i < xs.length),(df (.tup xs)).getD i .wa=xs[i]:=fun i hi=>by
  show xs.getD i .wa=_;rw[B8,A3 hi];rfl
 refine⟨?_,fun i hi=>?_⟩
 ·unfold Gd nI;rw[F0];congr 1;refine(QS hl fun i hi=>?_).symm;obtain⟨r,er,_⟩:=g i hi;show Dv.int ((WE ((df (.tup xs)).getD i .wa):Nat):Int)=_;rw[e i hi,er];rfl
 ·obtain⟨r,er,hr⟩:=g i (hl▸hi);rw[e i (hl▸hi),er];exact hr
theorem da{r:Int}(h:Tab n r x):∃g:Tf,x=g.dv n/\g.ok n/\r=(g.ar:Nat):=by
  rcases h with⟨rfl,h⟩ | ⟨rfl,xs,rfl,hl,hx⟩
  · obtain⟨e,k⟩:=OA h;exact⟨.u _,e,k,rfl⟩
  · have g:∀i (hi:i < xs.length),Row n (xs.getD i .wa)/\xs.getD i .wa=xs[i]:=fun i hi=>by
      rw[B8,A3 hi];exact⟨hx _ (U2 hi),rfl⟩
    refine⟨.b fun i j=>WE ((df (xs.getD i .wa)).getD j .wa),?_,fun i hi=>(OA (g i (hl▸hi)).1).2,rfl⟩;show Dv.tup xs=.tup _;congr 1;refine(QS hl fun i hi=>?_).symm;rw[<- (OA (g i hi).1).1];exact(g i hi).2
noncomputable abbrev Gs:=List (Dv×Tf)
def YF(gs:Gs):List Dv:=gs.map fun p=>.tup [p.1,.int (p.2.ar:Nat)]
def YX(n:Nat)(gs:Gs):List Dv:=gs.map fun p=>p.2.dv n
theorem QK{n:Nat}:∀{ds tbs:List Dv},Paired (YG n) ds tbs->∃gs:Gs,ds=YF gs/\tbs=YX n gs/\∀p∈gs,p.2.ok n
 | _,_,.nil=>⟨[],rfl,rfl,fun _ z=>nomatch z⟩
 | _,_,.cons q r=>by
  obtain⟨gs,rfl,rfl,h⟩:=QK r;obtain⟨a,r,rfl,_,ht⟩:=q;obtain⟨g,rfl,hg,rfl⟩:=da ht;exact⟨(a,g)::gs,rfl,rfl,fun p hp=>(D0.mp hp).elim (fun z=>z▸hg) (h p)⟩
theorem Nh{n:Nat}:∀{xs:List Dv},my n xs->∃ts:List Nat,xs=nI ts/\∀t∈ts,t < n
 | [],_=>⟨[],rfl,fun _ z=>nomatch z⟩
 | x::xs,h=>by
  obtain⟨r,rfl,hr⟩:=h x B2;obtain⟨ts,rfl,ht⟩:=Nh (xs:=xs) fun y hy=>h y (B1 _ hy)
  exact⟨r::ts,rfl,fun t z=>(D0.mp z).elim (fun z=>z▸hr) (ht t)⟩
abbrev Ik(fs:List Dv)(gs:Gs):Dv:=.tup [.tup fs,.tup (YF gs)]
abbrev FT(n:Nat)(ts:List Nat)(gs:Gs):Dv:=.tup [.int (n:Nat),.tup (nI ts),.tup (YX n gs)]
theorem Tp(n:Nat):∀gs:Gs,Cv (YF gs) (YX n gs)=gs.map fun p=>.tup [.tup [p.1,.int (p.2.ar:Nat)],p.2.dv n]
 | []=>rfl
 | p::gs=>by
  show Dv.tup _::Cv (YF gs) (YX n gs)=_;rw[Tp n gs];rfl
theorem KJ(n:Nat)(gs:Gs):Hc [.tup (YF gs),.tup (YX n gs)]=some (gs.map fun p=>.tup [.tup [p.1,.int (p.2.ar:Nat)],p.2.dv n]):=by
 rw[<- Tp];rfl
theorem Xo{f:Nat->α}{i:Nat}(h:i < n):Gc ((B3 n).map f) (i:Int)=some (f i):=by
 rw[LH _ i (by simpa using h)];simp
theorem ER{i:Nat}{f:Nat->Nat}(h:i < n):AC (Gd n f) (.int (i:Nat))=some (.int (f i:Nat)):=by
 show Gc (nI ((B3 n).map f)) (i:Int)=_;rw[nI,F0,Xo h];rfl
theorem bF{i:Nat}{f:Nat->Nat->Nat}(h:i < n):AC ((Tf.b f).dv n) (.int (i:Nat))=some (Gd n (f i)):=Xo h
noncomputable def Tf.led:Tf->List Nat->List Nat
 | .u f,R=>R.map f
 | .b f,R=>R.flatMap fun a=>R.map (f a)
variable {g:Tf} {R:List Nat}
theorem gI(hg:g.ok n)(hR:∀x∈R,x < n):∀x∈g.led R,x < n:=by
 cases g with
 | u f =>
  intro x hx;obtain⟨a,ha,rfl⟩:=D6.mp hx;exact hg a (hR a ha)
 | b f =>
  intro x hx;obtain⟨a,ha,hx⟩:=K8.mp hx;obtain⟨b,hb,rfl⟩:=D6.mp hx;exact hg a (hR a ha) b (hR b hb)
variable {Q:List Nat}
theorem Vt(h:∀x∈R,x∈Q):∀x∈g.led R,x∈g.led Q:=by
 cases g with
 | u f =>
  intro x hx;obtain⟨a,ha,rfl⟩:=D6.mp hx;exact D6.mpr ⟨a,h a ha,rfl⟩
 | b f =>
  intro x hx;obtain⟨a,ha,hx⟩:=K8.mp hx;obtain⟨b,hb,rfl⟩:=D6.mp hx;exact K8.mpr ⟨a,h a ha,D6.mpr ⟨b,h b hb,rfl⟩⟩
theorem QV(h:R.length<=4):(g.led R).length<=16:=by
 cases g with
 | u f=>show(R.map f).length<=16;rw[A8];omega
 | b f =>
  show(R.flatMap fun a=>R.map (f a)).length<=16;rw[List.length_flatMap];simp only[A8];rw[List.map_const',List.sum_replicate_nat];exact B9 (va h h) (by decide)
theorem Ys{f:Nat->Nat}(hR:∀x∈R,x < n):Aj (Ha (Gd n f)) (nI R)=some (nI (R.map f)):=by
 rw[CQ _ (fun d=>.int ((f (WE d):Nat):Int)) (nI R) fun x hx=>?_]
 ·congr 1;rw[nI,nI,F0,F0];rfl
 ·obtain⟨a,ha,rfl⟩:=D6.mp hx;unfold Ha;rw[ER (hR a ha)];rfl
theorem kg{f:Nat->Nat}(hR:∀x∈R,x < n)(hl:R.length<=100)(k:Nat):BI (k+1) (.int 1) (Gd n f) (.lst (nI R))=some (.lst (nI (R.map f))):=by
 unfold BI;simp only[BH,decide_true,A1,if_true,items,AV (show(nI R).length<=1000000 by rw[A8];omega),Ys hR]
theorem Vs(hg:g.ok n)(hR:∀x∈R,x < n)(hl:R.length<=100):Kq (.int (g.ar:Nat)) (g.dv n) (.lst (nI R))=some (.lst (nI (g.led R))):=by
 rw[Jk];cases g with
 | u f=>exact kg hR hl 19
 | b f =>
  show BI (19+1) (.int 2) _ _=_;unfold BI;simp only[BH,show decide ((2:Int)=1)=false by decide,A1,C6,if_false,items];have key:∀(S:List Nat),(∀x∈S,x < n)->∀(acc:List Nat),acc.length+S.length * R.length<=1000000->Aw (Dj (BI 19) (.int 2) ((Tf.b f).dv n) (.lst (nI R))) (nI S) (.lst (nI acc))=some (.lst (nI (acc++S.flatMap fun a=>R.map (f a)))):=fun S=>by
   induction S with
   | nil=>intro _ acc _;simp[Aw]
   | cons a S ih =>
    intro hS acc hz;rw[E4,rJ] at hz;have e1:Dj (BI 19) (.int 2) ((Tf.b f).dv n) (.lst (nI R)) (.int (a:Nat)) (.lst (nI acc))=some (.lst (nI (acc++R.map (f a)))):=by
     unfold Dj;have s1:PM (.int 2) (.int 1)=some (.int 1):=rfl;simp only[Kl,s1,A1,bF (hS a B2),kg hR hl 18];rw[cI (by simp only[A8];omega)];simp only[A1,nI,V3]
    show(Dj _ _ _ _ (.int (a:Nat)) _).bind _=_;rw[e1,A1,ih (fun x hx=>hS x (B1 _ hx)) _ (by rw[D2,A8];omega),qX,G0]
  have:=key R hR [] (by have:=va hl hl;simp;omega);simp only[W8,Y0] at this;rw[this];rfl
noncomputable def cn(n:Nat)(xs:List Nat):List Nat:=(B3 n).filter fun i=>xs.contains i
variable {xs:List Nat}
theorem Co{x:Nat}:x∈cn n xs↔x < n/\x∈xs:=by
 unfold cn;rw[J4,K6,B6]
theorem cW:∀x∈cn n xs,x < n:=fun x h=>(Co.mp h).1
theorem LC:(cn n xs).length<=n:=B9 (S5 ..) (by rw[K4];exact B0 _)
theorem cV:(cn n xs).Nodup:=List.nodup_range.filter _
theorem Wy{ys:List Nat}(h:∀x < n,x∈xs↔x∈ys):cn n xs=cn n ys:=qY fun x hx=>by
 have:=h x (K6.mp hx);rw[Y2,B6,B6];exact this
theorem cX:cn n (cn n xs)=cn n xs:=Wy fun x hx=>by rw[Co];exact⟨fun z=>z.2,fun z=>⟨hx,z⟩⟩
def Cn(n:Nat)(R:List Nat):Prop:=cn n R=R
theorem Cn.lt(h:Cn n R):∀x∈R,x < n:=fun x hx=>cW x (by rw[h];exact hx)
theorem Cn.sub(hR:Cn n R)(hQ:Cn n Q)(h:∀x∈R,x∈Q):R.Sublist Q:=by
 have e:(B3 n).filter (fun i=>R.contains i)=((B3 n).filter fun i=>Q.contains i).filter fun i=>R.contains i:=by
  rw[tM];refine qY fun x _=>?_
  rw[Y2,A5,B6,B6];exact⟨fun z=>⟨z,h x z⟩,fun z=>z.1⟩
 rw[<- hR,<- hQ];unfold cn;rw[e];exact sO
theorem Cn.eq(hR:Cn n R)(hQ:Cn n Q)(h:∀x∈R,x∈Q)(hl:Q.length<=R.length):R=Q:=(hR.sub hQ h).eq_of_length_le hl
theorem iA(ns:List Int)(x:Int):x∈cU ns↔x∈ns:=by
 have key:∀(ns σ:List Int),x∈ns.foldl U4 σ↔x∈σ\/x∈ns:=fun ns=>by
  induction ns with
  | nil=>intro σ;simp
  | cons a ns ih =>
   intro σ;rw[X9,ih];unfold U4;split
   ·rename_i h;obtain⟨y,hy,e⟩:=U1.mp h;have e:=eq_of_beq e;subst e;simp only[D0];exact⟨fun z=>z.elim .inl fun z=>.inr (.inr z),fun z=>z.elim .inl fun z=>z.elim (fun z=>.inl (z▸hy)) .inr⟩
   ·simp only[D9,D0,G6,or_false];exact⟨fun z=>z.elim (fun z=>z.elim .inl fun z=>.inr (.inl z)) fun z=>.inr (.inr z),fun z=>z.elim (fun z=>.inl (.inl z)) fun z=>z.elim (fun z=>.inl (.inr z)) .inr⟩
 have:=key ns [];unfold cU;simpa using this
theorem lP(ns:List Int):(cU ns).Nodup:=by
 have key:∀(ns σ:List Int),σ.Nodup->(ns.foldl U4 σ).Nodup:=fun ns=>by
  induction ns with
  | nil=>intro σ h;exact h
  | cons a ns ih =>
   intro σ h;rw[X9];refine ih _ ?_;unfold U4;split
   ·exact h
   ·rename_i c;rw[qZ];refine⟨h,qz _ _,fun x hx y hy e=>c (U1.mpr ⟨x,hx,?_⟩)⟩;rw[D4] at hy;rw[e,hy];exact beq_self_eq_true _
 exact key ns [] vR
theorem Ej:∀l:List Nat,BU (nI l)=some (l.map fun k=>((k:Nat):Int))
 | []=>rfl
 | a::l=>by
  have:=Ej l;simp only[nI] at this;simp only[nI,D3,BU,this,F6]
theorem Pi(h:∀x∈xs,x < n)(hl:xs.length < 64):CV (.lst (nI xs))=some (.lst (nI (cn n xs))):=by
 have e:(cn n xs).map (fun k=>((k:Nat):Int))=ID (cU (xs.map fun k=>((k:Nat):Int))):=by
  refine MP ?_ ?_
  ·refine(List.perm_ext_iff_of_nodup ?_ (lP _)).mpr fun x=>?_
   ·exact uM _ (fun a b h z=>h (k6 z)) (cV (n:=n) (xs:=xs))
   ·rw[iA,D6,D6];exact⟨fun⟨a,ha,e⟩=>⟨a,(Co.mp ha).2,e⟩,fun⟨a,ha,e⟩=>⟨a,Co.mpr ⟨h a ha,ha⟩,e⟩⟩
  ·refine uM _ (fun a b (h:a < b)=>wA.mpr (R1 h)) (wI _ Z7)
 simp only[CV,Ej,A1,A8,if_pos hl,<- e,F0];rfl
def Iu(gs:Gs)(R:List Nat):List Nat:=gs.flatMap fun p=>p.2.led R
def Wl(n:Nat)(gs:Gs)(R:List Nat):List Nat:=cn n (R++Iu gs R)
variable {gs:Gs}
theorem QW(hg:∀p∈gs,p.2.ok n)(hR:∀x∈R,x < n):∀x∈Iu gs R,x < n:=fun x hx=>by
 obtain⟨p,hp,hx⟩:=K8.mp hx;exact gI (hg p hp) hR x hx
theorem MK{R:List Nat}(h:R.length<=4):∀gs:Gs,(Iu gs R).length<=gs.length * 16
 | []=>E7 _
 | p::gs=>by
  show(p.2.led R++Iu gs R).length<=_;rw[D2,E4,rJ];have:=QV (g:=p.2) h;have:=MK h gs;omega
variable {ts:List Nat}
theorem JL(hn:n<=4)(hg:∀p∈gs,p.2.ok n)(xk:gs.length<=3)(hR:∀x∈R,x < n)(hl:R.length<=4):DA (Ik fs gs) (FT n ts gs) (.lst (nI R))=some (.lst (nI (Wl n gs R))):=by
 have key:∀(gs:Gs),(∀p∈gs,p.2.ok n)->∀acc:List Nat,acc.length+gs.length * 16<=1000->Aw (CF (.lst (nI R))) (gs.map fun p=>.tup [.tup [p.1,.int (p.2.ar:Nat)],p.2.dv n]) (.lst (nI acc))=some (.lst (nI (acc++Iu gs R))):=fun gs=>by
  induction gs with
  | nil=>intro _ acc _;simp[Aw,Iu]
  | cons p gs ih =>
   intro h acc ha;rw[E4,rJ] at ha;have hq:(p.2.led R).length<=16:=QV hl;have e1:CF (.lst (nI R)) (.tup [.tup [p.1,.int (p.2.ar:Nat)],p.2.dv n]) (.lst (nI acc))=some (.lst (nI (acc++p.2.led R))):=by
    unfold CF;have i1:AC (.tup [p.1,.int (p.2.ar:Nat)]) (.int 1)=some (.int (p.2.ar:Nat)):=rfl;simp only[NW,Kl,i1,A1,Vs (h p B2) hR (B9 hl (by decide))];rw[cI (by simp only[A8];omega)];simp only[A1,nI,V3]
   show(CF _ _ _).bind _=_;rw[e1,A1,ih (fun q hq=>h q (B1 _ hq)) _ (by rw[D2];omega),G0];rfl
 have i1:AC (Ik fs gs) (.int 1)=some (.tup (YF gs)):=rfl;have i2:AC (FT n ts gs) (.int 2)=some (.tup (YX n gs)):=rfl;have z:=MK hl gs;unfold DA;simp only[CW,i1,i2,A1,KJ];rw[key gs hg R (by omega),A1,Pi (n:=n) (fun x hx=>(D9.mp hx).elim (hR x) (QW hg hR x)) (by rw[D2];omega)];rfl
def NU(gs:Gs)(R:List Nat):Prop:=∀x∈Iu gs R,x∈R
theorem XA(hQ:NU gs Q)(h:∀x∈R,x∈Q):∀x∈Iu gs R,x∈Q:=fun x hx=>by
 obtain⟨p,hp,hx⟩:=K8.mp hx;exact hQ x (K8.mpr ⟨p,hp,Vt h x hx⟩)
def pw(gs:Gs)(S R:List Nat):Prop:=∀Q,NU gs Q->(∀x∈S,x∈Q)->∀x∈R,x∈Q
structure RI (n:Nat) (gs:Gs) (S R:List Nat):Prop where
 cn:Cn n R
 has:∀x∈S,x∈R
 lst:pw gs S R
theorem Tr:Cn n (Wl n gs R):=cX
theorem YM{S:List Nat}(h:RI n gs S R):RI n gs S (Wl n gs R):=
 ⟨Tr,fun x hx=>Co.mpr ⟨h.cn.lt x (h.has x hx),C2 _ (h.has x hx)⟩,fun Q hQ hS x hx=>(D9.mp (Co.mp hx).2).elim (h.lst Q hQ hS x) (XA hQ (h.lst Q hQ hS) x)⟩
theorem dH(hg:∀p∈gs,p.2.ok n)(h:Cn n R)(hl:¬(Wl n gs R).length > R.length):Wl n gs R=R/\NU gs R:=by
 have e:R=Wl n gs R:=h.eq Tr (fun x hx=>Co.mpr ⟨h.lt x hx,C2 _ hx⟩) (R7 hl);refine⟨e.symm,fun x hx=>?_⟩;rw[e];exact Co.mpr ⟨QW hg h.lt x hx,A9 _ hx⟩
theorem dI(A B:List Nat):Bu (.lst (nI A),.lst (nI B))=some (decide (B.length > A.length)):=by
 unfold Bu;simp only[BC,A1,Dx,A8];congr 1;rw[decide_eq_decide];omega
theorem LU{n:Nat}{fs:List Dv}{ts:List Nat}{gs:Gs}(hn:n<=4)(hg:∀p∈gs,p.2.ok n)(xk:gs.length<=3){S:List Nat}:∀(k:Nat) (R:List Nat),RI n gs S R->n < k+R.length->∃R' B,ic Bu (Bw (Ik fs gs) (FT n ts gs)) k (.lst (nI R),.lst (nI (Wl n gs R)))=some (.lst (nI R'),B)/\RI n gs S R'/\NU gs R'
  | 0,R,h,hk=>by
    have:R.length<=n:=by rw[<- h.cn];exact LC
    omega
  | k+1,R,h,hk=>by
    unfold ic;rw[dI,A1]
    by_cases c:(Wl n gs R).length > R.length
    · rw[if_pos (decide_eq_true c)];have h2:=YM h;have e:Bw (Ik fs gs) (FT n ts gs) (.lst (nI R),.lst (nI (Wl n gs R)))=some (.lst (nI (Wl n gs R)),.lst (nI (Wl n gs (Wl n gs R)))):=by
        unfold Bw;rw[JL hn hg xk Tr.lt (B9 LC hn)];rfl
      rw[e,A1];exact LU hn hg xk k _ h2 (by omega)
    · rw[if_neg (by simpa using c)];exact⟨R,_,rfl,h,(dH hg h.cn c).2⟩
def Pz(R:List Nat):Dv:=if R=[] then .wa else .tup (nI R)
theorem IA{fs:List Dv}(hn:n<=4)(hg:∀p∈gs,p.2.ok n)(xk:gs.length<=3)(ht:∀x∈ts,x < n)(yW:ts.length<=4){T:List Nat}(hT:∀x∈T,x < n)(hTl:T.length<=4)(hx:CW x=some (.lst (nI T))) :
    ∃R,Bc (Ik fs gs) (FT n ts gs) x=some (Pz R)/\RI n gs (T++ts) R/\NU gs R:=by
  have hS:∀x∈T++ts,x < n:=fun x hx=>(D9.mp hx).elim (hT x) (ht x)
  have i1:AC (FT n ts gs) (.int 1)=some (.tup (nI ts)):=rfl;have a1:Az (.lst (nI T)) (.lst (nI ts))=some (.lst (nI (T++ts))):=by
    simp only[Az,if_pos (show(nI T).length+(nI ts).length<=1000000 by simp only[A8];omega),nI,V3]
  have h0:RI n gs (T++ts) (cn n (T++ts)):=⟨cX,fun x hx=>Co.mpr ⟨hS x hx,hx⟩,fun Q _ h x hx=>h x (Co.mp hx).2⟩;obtain⟨R,B,e,h1,h2⟩:=LU (fs:=fs) (ts:=ts) hn hg xk 1000000 _ h0 (by omega);refine⟨R,?_,h1,h2⟩;unfold Bc;simp only[hx,i1,A1,show CW (.tup (nI ts))=some (.lst (nI ts)) from rfl,a1];rw[Pi (n:=n) hS (by rw[D2];omega),A1,JL hn hg xk cW (B9 LC hn),A1,e,A1];unfold Eo Pz;cases R with
  | nil=>rfl
  | cons a R=>rfl
noncomputable def BY:Nat->List (List Nat)
 | 0=>[[]]
 | k+1=>BY k++(BY k).map fun l=>l++[k]
def tN(l:List Nat):Dv:=.tup (nI l)
theorem Cz:∀n l,l∈BY n->l.length<=n
 | 0,l,h=>by rw[D4.mp h];exact B0 _
 | n+1,l,h=>by
  rcases D9.mp h with h | h
  ·exact uN (Cz n l h)
  ·obtain⟨m,hm,rfl⟩:=D6.mp h;rw[D2];exact Nat.succ_le_succ (Cz n m hm)
theorem FZ:∀n,(BY n).length=2 ^ n
 | 0=>rfl
 | n+1=>by
  show(BY n++_).length=_;rw[D2,A8,FZ n,Nat.pow_succ];omega
theorem Mr(hn:n<=4):Aw Et (nI (B3 n)) (.lst [.tup []])=some (.lst ((BY n).map tN)):=by
 obtain⟨c,e,h⟩:=Jl (P:=fun i c=>i<=4->c=Dv.lst ((BY i).map tN)) Et n (.lst [.tup []]) (fun _=>rfl) fun i hi c hc=>by
  have hc:=hc (by omega);subst hc;have hl:((BY i).map tN).length<=16:=by
   rw[A8,FZ];exact(l5 (n:=2) (by decide) (show i<=4 by omega))
  have m:Aj (HZ (.int (i:Nat))) ((BY i).map tN)=some ((BY i).map fun l=>tN (l++[i])):=by
   rw[CQ _ (fun d=>.tup (df d++[.int (i:Nat)])) _ fun x hx=>?_]
   ·rw[F0];congr 1;refine N9 fun l _=>?_
    show Dv.tup (nI l++_)=.tup (nI (l++[i]));simp only[nI,V3];rfl
   ·obtain⟨l,hl,rfl⟩:=D6.mp hx;have:=Cz i l hl;unfold HZ;show(Az (.tup (nI l)) (.tup [.int (i:Nat)])).bind _=_;simp only[Az,if_pos (show(nI l).length+[Dv.int (i:Nat)].length<=1000000 by simp only[A8,S4];omega)];rfl
  refine⟨.lst ((BY (i+1)).map tN),?_,fun _=>rfl⟩;unfold Et;simp only[items,A1,AV (show((BY i).map tN).length<=1000000 by omega),m,Az];rw[if_pos (by rw[A8,A8] at *;omega)];show some _=some (Dv.lst ((BY i++_).map tN));rw[V3,F0];rfl
 rw[show(nI (B3 n))=(B3 n).map fun k=>.int (k:Nat) from rfl,e,h hn]
def cZ(gs:Gs)(R:List Nat):Bool:=(Iu gs R).all fun x=>R.contains x
theorem aP:cZ gs R=true↔NU gs R:=by
 unfold cZ NU;rw[E3];exact⟨fun h x hx=>B6.mp (h x hx),fun h x hx=>B6.mpr (h x hx)⟩
theorem Cg:∀l:List Nat,Au (nI l)=true
 | []=>rfl
 | _::l=>by
  show(true && Au (nI l))=true;rw[Cg l];rfl
theorem EO:∀l:List Nat,BZ (nI l)=0
 | []=>rfl
 | _::l=>by
  show max 0 (BZ (nI l))=0;rw[EO l];rfl
theorem Vl(x:Nat):∀l:List Nat,FG (.int (x:Nat)) (nI l)=l.contains x
 | []=>rfl
 | a::l=>by
  show(_root_.R.xT (.int (a:Nat)) (.int (x:Nat)) || FG (.int (x:Nat)) (nI l))=_;rw[Vl x l,tL];congr 1;rw[_root_.R.xT]
  by_cases c:x=a
  ·subst c;simp
  ·have c2:¬(a:Int)=(x:Int):=fun z=>c (k6 z).symm
   rw[beq_eq_false_iff_ne.mpr c];simpa using c2
theorem WD(neg:Bool)(x:Nat)(l:List Nat):IW neg (.int (x:Nat)) (tN l)=some (if neg=true then !l.contains x else l.contains x):=by
 show(match me (.tup (nI l)) with
  | some xs=>if((Dv.int (x:Nat)).cmp && Au xs && decide (BZ xs<=150))=true then some (if neg then !FG (.int (x:Nat)) xs else FG (.int (x:Nat)) xs) else none
  | none=>none)=_
 show(if((Dv.int (x:Nat)).cmp && Au (nI l) && decide (BZ (nI l)<=150))=true then some (if neg then !FG (.int (x:Nat)) (nI l) else FG (.int (x:Nat)) (nI l)) else none)=_;rw[Cg,EO,Vl];rfl
theorem Vd(x:Nat)(l:List Nat):LG (.int (x:Nat)) (tN l)=some (!l.contains x):=WD true x l
theorem any_map{β:Type}{f:α->β}{p:β->Bool}(l:List α):(l.map f).any p=l.any fun x=>p (f x):=by rw[List.any_map];rfl
theorem Uk{p:Dv×Tf}(hp:p.2.ok n)(hR:∀x∈R,x < n)(hl:R.length<=100)(xW:R≠[]):DO (tN R) (.tup [.tup [p.1,.int (p.2.ar:Nat)],p.2.dv n]) ()=some (if((p.2.led R).any fun x=>!R.contains x)=true then .rt (.bl false) () else .go ()):=by
  have i1:AC (.tup [p.1,.int (p.2.ar:Nat)]) (.int 1)=some (.int (p.2.ar:Nat)):=rfl;have nn:nI R≠[]:=by
    cases R with
    | nil=>exact(xW rfl).elim
    | cons _ _=>exact fun z=>nomatch z
  unfold DO;simp only[NW,A1,show items (tN R)=some (nI R) from rfl];cases hp2:p.2 with
  | u f =>
    rw[hp2] at i1 hp;have ar:((Tf.u f).ar:Nat)=1:=rfl;rw[ar] at i1 ⊢;rw[FL (CK (tN R) (.tup [p.1,.int ((1:Nat):Int)]) ((Tf.u f).dv n)) (fun d=>!R.contains (f (WE d))) (.bl false) () (nI R) fun x hx=>?_]
    · rw[any_map];show L8 (some (if(R.any fun x=>!R.contains (f x))=true then _ else _)) _=some (if((R.map f).any fun x=>!R.contains x)=true then _ else _);rw[any_map];split<;>rfl
    · obtain⟨a,ha,rfl⟩:=D6.mp hx;have t1:CD (tN R) (.tup [p.1,.int ((1:Nat):Int)]) ((Tf.u f).dv n) (.int (a:Nat))=some (!R.contains (f a)):=by
        unfold CD;rw[i1,A1,BH,A1,if_pos (by decide)];show(AC (Gd n f) _).bind _=_;rw[ER (hR a ha),A1,Vd];rfl
      unfold CK;rw[t1,A1];show(if(!R.contains (f a))=true then _ else _)=some (if(!R.contains (f a))=true then _ else _);split
      · rfl
      · rw[i1,A1];show(Cs (tN R) (.int 0)).bind _=_;have m0:Cs (tN R) (.int 0)=some (.tup []):=by
          show(if nI R≠[]/\(0:Int)<=0/\(0:Int) < 1000000/\(nI R).length * W9 0<=1000000 then _ else none)=_;rw[if_pos ⟨nn,by decide,by decide,by simp⟩];rfl
        rw[m0];rfl
  | b f =>
    rw[hp2] at i1 hp;have ar:((Tf.b f).ar:Nat)=2:=rfl;rw[ar] at i1 ⊢;rw[FL (CK (tN R) (.tup [p.1,.int ((2:Nat):Int)]) ((Tf.b f).dv n)) (fun d=>R.any fun b=>!R.contains (f (WE d) b)) (.bl false) () (nI R) fun x hx=>?_]
    · rw[any_map];show L8 (some (if(R.any fun a=>R.any fun b=>!R.contains (f a b))=true then _ else _)) _=some (if((R.flatMap fun a=>R.map (f a)).any fun x=>!R.contains x)=true then _ else _);have e:((R.flatMap fun a=>R.map (f a)).any fun x=>!R.contains x)=R.any fun a=>R.any fun b=>!R.contains (f a b):=by
        rw[List.any_flatMap];congr 1;funext a;exact any_map R
      rw[e];split<;>rfl
    · obtain⟨a,ha,rfl⟩:=D6.mp hx;have t1:CD (tN R) (.tup [p.1,.int ((2:Nat):Int)]) ((Tf.b f).dv n) (.int (a:Nat))=some false:=by
        unfold CD;rw[i1,A1,BH,A1,if_neg (by decide)]
      have m1:Cs (tN R) (.int 1)=some (tN R):=by
        show(if nI R≠[]/\(0:Int)<=1/\(1:Int) < 1000000/\(nI R).length * W9 1<=1000000 then some (Dv.tup (D1 (W9 1) (nI R)).flatten) else none)=_;rw[if_pos ⟨nn,by decide,by decide,by simp only[A8];show R.length * 1<=_;omega⟩];simp;rfl
      unfold CK;rw[t1,A1,if_neg C7,i1,A1];show(Cs (tN R) (.int 1)).bind _=_;rw[m1,A1];show L8 (DJ (Ea (tN R) ((Tf.b f).dv n) (.int (a:Nat))) (nI R) ()) _=_;rw[FL _ (fun d=>!R.contains (f a (WE d))) (.bl false) () (nI R) fun x hx=>?_]
      · rw[any_map];show L8 (some (if(R.any fun b=>!R.contains (f a b))=true then _ else _)) _=some (if(R.any fun b=>!R.contains (f a b))=true then _ else _);split<;>rfl
      · obtain⟨b,hb,rfl⟩:=D6.mp hx;unfold Ea;rw[bF (hR a ha),A1,ER (hR b hb),A1,Vd,A1];show(if(!R.contains (f a b))=true then _ else _)=some (if(!R.contains (f a b))=true then _ else _);split<;>rfl
theorem Ek{α:Type}(f:α->Bool):∀l:List α,LZ (l.map fun x=>Dv.bl (f x))=some (l.map f)
 | []=>rfl
 | a::l=>by
  show(LZ (l.map fun x=>Dv.bl (f x))).map _=_;rw[Ek f l];rfl
def Ul(gs:Gs)(ts R:List Nat):Bool:=cZ gs R && ts.all fun t=>R.contains t
theorem MO(hg:∀p∈gs,p.2.ok n)(yW:ts.length<=100)(hR:∀x∈R,x < n)(hl:R.length<=100)(xW:R≠[]):Dl (Ik fs gs) (FT n ts gs) (tN R)=some (.bl (Ul gs ts R)):=by
 have i1:AC (Ik fs gs) (.int 1)=some (.tup (YF gs)):=rfl;have i2:AC (FT n ts gs) (.int 2)=some (.tup (YX n gs)):=rfl;have i3:AC (FT n ts gs) (.int 1)=some (.tup (nI ts)):=rfl;have key:∀gs:Gs,(∀p∈gs,p.2.ok n)->DJ (DO (tN R)) (gs.map fun p=>.tup [.tup [p.1,.int (p.2.ar:Nat)],p.2.dv n]) ()=some (if cZ gs R=true then .go () else .rt (.bl false) ()):=fun gs=>by
  induction gs with
  | nil=>intro _;rfl
  | cons p gs ih =>
   intro h;have e:cZ (p::gs) R=(!((p.2.led R).any fun x=>!R.contains x) && cZ gs R):=by
    unfold cZ Iu;rw[qX,u9,List.not_any_eq_all_not];simp only[Bool.not_not]
   rw[D3,DJ,Uk (h p B2) hR hl xW,A1,e];cases(p.2.led R).any fun x=>!R.contains x with
   | true=>rfl
   | false =>
    simp only[C6,if_false,vE,sU];exact ih fun q hq=>h q (B1 _ hq)
 unfold Dl;simp only[i1,i2,A1,KJ,key gs hg];unfold Ul;cases cZ gs R with
 | false=>rfl
 | true =>
  simp only[if_true,Rs.el,i3,A1,items,AV (show(nI ts).length<=1000000 by rw[A8];omega)];rw[CQ _ (fun d=>.bl (R.contains (WE d))) (nI ts) fun x hx=>?_]
  ·simp only[A1,JF];rw[nI,F0,show((fun d=>Dv.bl (R.contains (WE d)))∘fun k:Nat=>Dv.int (k:Nat))=fun k=>Dv.bl (R.contains k) from rfl,Ek];simp only[F6,A1,o6,sU];rfl
  ·obtain⟨a,ha,rfl⟩:=D6.mp hx;unfold Hb;show(IW false (.int (a:Nat)) (tN R)).bind _=_;rw[WD];rfl
noncomputable def ZL(l:List Nat):List Int:=l.map fun k=>((k:Nat):Int)
theorem YS(l:List Nat):KM (ZL l)=tN l:=by
 unfold KM ZL tN nI;rw[F0];rfl
theorem PZ(l:List Nat):(ZL l).map W9=l:=by
 unfold ZL;rw[F0];exact wB l
theorem Xz{a b:List Nat}(h:ZL a=ZL b):a=b:=by rw[<- PZ a,h,PZ]
def DZ(L:List (List Nat)):List (List Nat):=(Dp (L.map ZL)).map fun k=>k.map W9
theorem bC{L:List (List Nat)}{k:List Int}(h:k∈Dp (L.map ZL)):ZL (k.map W9)=k:=by
 obtain⟨l,_,rfl⟩:=D6.mp ((Ed _).mem_iff.mp h);rw[PZ]
theorem FE(L:List (List Nat)):(DZ L).map ZL=Dp (L.map ZL):=by
 unfold DZ;rw[F0]
 conv=>rhs;rw[<- uw (Dp (L.map ZL))]
 exact N9 fun k hk=>bC hk
theorem Va(L:List (List Nat)):(Dp (L.map ZL)).map KM=(DZ L).map tN:=by
 rw[<- FE,F0];exact N9 fun l _=>YS l
theorem BL(L:List (List Nat)):(DZ L).Perm L:=by
 have h:((DZ L).map ZL).Perm (L.map ZL):=by rw[FE];exact Ed _
 have:=h.map fun k=>k.map W9
 rw[F0,F0] at this;have e:((fun k:List Int=>k.map W9)∘ZL)=id:=by
  funext l;exact PZ l
 rw[e,uw,uw] at this;exact this
def nC(M:List (List Nat)):Prop:=(M.map ZL).Pairwise fun a b=>HT.lexLt b a=false
theorem Ru(L:List (List Nat)):nC (DZ L):=by
 unfold nC;rw[FE];exact MI _
theorem Vb{L M:List (List Nat)}(h:M.Perm L)(ha:nC M):M=DZ L:=by
 have:M.map ZL=Dp (L.map ZL):=MJ (h.map ZL) ha;rw[<- FE] at this;exact(List.map_inj_right fun a b h=>Xz h).mp this
theorem LV:∀L:List (List Nat),Dc (L.map tN)=some (L.map ZL)
 | []=>rfl
 | l::L=>by
  show(BU (nI l)).bind (fun ns=>(Dc (L.map tN)).map (ns::·))=_;rw[Ej,LV L];rfl
theorem Pj{L:List (List Nat)}(xW:∀l∈L,l≠[])(hl:L.length < 64):GW (.lst (L.map tN))=some (.lst ((DZ L).map tN)):=by
 have ha:((L.map ZL).all fun k=>!k.isEmpty)=true:=by
  rw[E3];intro k hk;obtain⟨l,h,rfl⟩:=D6.mp hk;cases l with
  | nil=>exact(xW _ h rfl).elim
  | cons _ _=>rfl
 show(Dc (L.map tN)).bind _=_;rw[LV,A1,if_pos ⟨ha,by rw[A8];exact hl⟩,Va]
theorem Do{α:Type}{g:Dv->Option (Option Dv)}{f:α->Dv}{p:α->Bool}:∀l:List α,(∀x∈l,g (f x)=some (if p x=true then some (f x) else none))->GH g (l.map f)=some ((l.filter p).map f)
 | [],_=>rfl
 | a::l,h=>by
  rw[D3,GH,h a B2,A1,Do l fun x hx=>h x (B1 _ hx),A1,q0];cases p a<;>rfl
noncomputable def Xg(n:Nat):List (List Nat):=(B3 (2 ^ n - 1)).map fun b=>(B3 n).filter fun i=>((b+1) / 2 ^ i) % 2 == 1
theorem DW(h0:0 < n)(hn:n<=4):(Xg n).Perm ((BY n).filter fun l=>!l.isEmpty)/\(BY n).Nodup/\∀l∈BY n,Cn n l:=by
 have key:∀n,n=1\/n=2\/n=3\/n=4->((Xg n).isPerm ((BY n).filter fun l=>!l.isEmpty)=true/\(BY n).Nodup)/\∀l∈BY n,cn n l=l:=by
  rintro n (rfl | rfl | rfl | rfl)<;>decide
 obtain⟨⟨a,b⟩,c⟩:=key n (by omega);exact⟨List.isPerm_iff.mp a,b,c⟩
theorem Re(h0:0 < n)(hn:n<=4):∃d s,bJ (.int 1) (.int (n:Nat))=some d/\Kb [.int 1,d]=some s/\Aw (EZ (.int (n:Nat))) s (.lst [])=some (.lst ((Xg n).map tN)):=by
 have key:∀n,n=1\/n=2\/n=3\/n=4->∃d s,bJ (.int 1) (.int (n:Nat))=some d/\Kb [.int 1,d]=some s/\Aw (EZ (.int (n:Nat))) s (.lst [])=some (.lst ((Xg n).map tN)):=by
  rintro n (rfl | rfl | rfl | rfl)
  ·exact⟨_,_,rfl,rfl,by kernel_rfl⟩
  ·exact⟨_,_,rfl,rfl,by kernel_rfl⟩
  ·exact⟨_,_,rfl,rfl,by kernel_rfl⟩
  ·exact⟨_,_,rfl,rfl,by kernel_rfl⟩
 exact key n (by omega)
theorem Xf(h0:0 < n)(hn:n<=4):∀l∈Xg n,l∈BY n/\l≠[]:=fun l hl=>by
 have:=J4.mp ((DW h0 hn).1.mem_iff.mp hl);refine⟨this.1,fun z=>?_⟩;rw[z] at this;cases this.2
theorem HB(hn:n<=4):(Xg n).length < 64:=by
 unfold Xg;rw[A8,K4];have:2 ^ n<=2 ^ 4:=l5 (by decide) hn;omega
theorem Lm(h0:0 < n)(hn:n<=4):Dk (.int (n:Nat))=some (.lst ((DZ (Xg n)).map tN)):=by
 obtain⟨d,s,e1,e2,e3⟩:=Re h0 hn;unfold Dk;simp only[e1,e2,e3,A1,Pj (fun l hl=>(Xf h0 hn l hl).2) (HB hn)]
theorem cQ:∀a b:List Nat,_root_.R.xu (nI a) (nI b)=decide (a=b)
 | [],[]=>rfl
 | [],_::_=>rfl
 | _::_,[]=>rfl
 | x::a,y::b=>by
  show(_root_.R.xT (.int (x:Nat)) (.int (y:Nat)) && _root_.R.xu (nI a) (nI b))=_;rw[cQ a b,_root_.R.xT]
  by_cases c:x=y
  ·subst c;simp
  ·have c2:¬(x:Int)=(y:Int):=fun z=>c (k6 z)
   simp[c,c2]
theorem lM(neg:Bool)(a b:List Nat):Gh neg (tN a) (tN b)=some (if neg=true then !decide (a=b) else decide (a=b)):=by
 unfold Gh;rw[if_pos ?_]
 ·show some (if neg=true then !_root_.R.xu (nI a) (nI b) else _root_.R.xu (nI a) (nI b))=_;rw[cQ]
 ·show(Au (nI a) && Au (nI b) && decide (BZ (nI a)+1<=150))=true;rw[Cg,Cg,EO];rfl
theorem lN(neg:Bool)(a b:List Nat):Gh neg (Pz a) (tN b)=some (if neg=true then !(decide (a=b) && !a.isEmpty) else decide (a=b) && !a.isEmpty):=by
  unfold Pz;split
  · rename_i z;subst z;unfold Gh;rw[if_pos ?_]
    · show some (if neg=true then !_root_.R.xT .wa (tN b) else _root_.R.xT .wa (tN b))=_;have:_root_.R.xT .wa (tN b)=false:=by unfold tN;rw[_root_.R.xT]<;>intros<;>contradiction
      rw[this];simp
    · show(true && Au (nI b) && decide (0<=150))=true;rw[Cg];rfl
  · rename_i z;have:a.isEmpty=false:=by
      cases a with
      | nil=>exact(z rfl).elim
      | cons _ _=>rfl
    rw[this];show Gh neg (tN a) (tN b)=_;rw[lM];simp
theorem Gu:Ul gs ts R=true↔NU gs R/\∀t∈ts,t∈R:=by
 unfold Ul;rw[A5,aP,E3];exact⟨fun h=>⟨h.1,fun t ht=>B6.mp (h.2 t ht)⟩,fun h=>⟨h.1,fun t ht=>B6.mpr (h.2 t ht)⟩⟩
theorem Py(hl:Cn n l)(h:RI n gs (l++ts) R)(hc:NU gs R):decide (R=l)=Ul gs ts l:=by
 rw[Y2,decide_eq_true_eq,Gu];constructor
 ·rintro rfl;exact⟨hc,fun t ht=>h.has t (A9 _ ht)⟩
 ·rintro⟨h1,h2⟩;have a:∀x∈R,x∈l:=h.lst l h1 fun x hx=>(D9.mp hx).elim id (h2 x)
  have b:∀x∈l,x∈R:=fun x hx=>h.has x (C2 _ hx)
  exact h.cn.eq hl a (hl.sub h.cn b).length_le
section
variable {n:Nat} {fs:List Dv} {ts:List Nat} {gs:Gs} (h0:0 < n) (hn:n<=4) (hg:∀p∈gs,p.2.ok n) (xk:gs.length<=3) (ht:∀x∈ts,x < n) (yW:ts.length<=4)
include hn hg xk ht yW
theorem Rc(h0:0 < n)(hl:l∈BY n):HY (Ik fs gs) (FT n ts gs) (tN l)=some (if(Ul gs ts l && !l.isEmpty)=true then some (tN l) else none):=by
 have hc:=(DW h0 hn).2.2 l hl;obtain⟨R,e,h1,h2⟩:=IA (fs:=fs) hn hg xk ht yW hc.lt (B9 (Cz n l hl) hn) (x:=tN l) rfl;unfold HY;rw[e,A1,show TV (Pz R) (tN l)=some (decide (R=l) && !R.isEmpty) from lN false R l,A1,Py hc h1 h2]
 by_cases c:R=l
 ·rw[c];split<;>rfl
 ·have:Ul gs ts l=false:=by rw[<- Py hc h1 h2];exact decide_eq_false c
  rw[this];rfl
def FV(n:Nat)(gs:Gs)(ts:List Nat):List (List Nat):=(DZ (Xg n)).filter (Ul gs ts)
omit hn hg xk ht yW in
theorem Kw(h0:0 < n)(hn:n<=4):l∈FV n gs ts↔(l∈BY n/\l≠[])/\Ul gs ts l=true:=by
 unfold FV;rw[J4,(BL _).mem_iff,(DW h0 hn).1.mem_iff,J4];refine and_congr_left fun _=>and_congr_right fun _=>?_
 cases l<;>simp
omit hn hg xk ht yW in
theorem hX(h0:0 < n)(hn:n<=4):(FV n gs ts).Nodup:=(((BL _).trans (DW h0 hn).1).nodup_iff.mpr ((DW h0 hn).2.1.filter _)).filter _
theorem OB(h0:0 < n):Hd (Ik fs gs) (FT n ts gs)=some (.lst ((FV n gs ts).map tN)):=by
 have i0:AC (FT n ts gs) (.int 0)=some (.int (n:Nat)):=rfl;have hl:(BY n).length<=16:=by
  rw[FZ];exact l5 (n:=2) (by decide) hn
 have e:DZ ((BY n).filter fun l=>Ul gs ts l && !l.isEmpty)=FV n gs ts:=by
  refine(Vb ?_ ?_).symm
  ·refine((BL _).filter _).trans (((DW h0 hn).1.filter _).trans ?_);rw[tM]
  ·have:=Ru (Xg n);unfold nC at this ⊢;exact this.sublist (sO.map ZL)
 unfold Hd;simp only[i0,A1,eL n (B9 hn (by decide))];rw[show((B3 n).map fun k=>Dv.int (k:Nat))=nI (B3 n) from rfl,Mr hn,A1];simp only[items,A1];rw[AV (by rw[A8];omega),Do (p:=fun l=>Ul gs ts l && !l.isEmpty) (BY n) fun l hl=>Rc hn hg xk ht yW h0 hl,A1,Pj (fun l hl=>?_) (U9 (S5 ..) (by omega)),e]
 ·rfl
 ·have:=(J4.mp hl).2;intro z;rw[z,A5] at this;cases this.2
end
abbrev kI(ks:List Nat):List Aa:=ks.map fun k=>.inl ((k:Nat):Int)
abbrev dR(R:List Nat):Dv:=.xH (kI R) (nI (B3 R.length))
theorem gN{x k:Nat}(e:x≠k):¬(Sum.inl ((x:Nat):Int):Aa)=Sum.inl ((k:Nat):Int):=fun z=>e (k6 (wC z))
theorem Mi(k:Nat):∀(ks:List Nat) (o:Nat),k∈ks->GQ (.inl ((k:Nat):Int)) (kI ks) (nI ((B3 ks.length).map (o+·)))=some (.int ((o+ks.idxOf k:Nat)))
  | [],_,h=>by cases h
  | x::ks,o,h=>by
    rw[E4,Z2];simp only[kI,nI,D3,F0,GQ]
    by_cases e:x=k
    · subst e;simp
    · rw[if_neg (gN e),show wO k (x::ks)=wO k ks+1 by have q:(x == k)=false:=beq_eq_false_iff_ne.mpr e;rw[List.idxOf_cons,q];rfl];have ih:=Mi k ks (o+1) ((D0.mp h).resolve_left fun z=>e z.symm);unfold kI nI at ih;rw[F0] at ih;have:((fun t=>Dv.int ((t:Nat):Int))∘(fun x=>o+x)∘Nat.succ)=((fun t=>Dv.int ((t:Nat):Int))∘(fun x=>o+1+x)):=by
        funext y;simp only[Function.comp];congr 2;omega
      rw[this,ih];congr 3;omega
theorem RD{x:Nat}(h:x∈R):AC (dR R) (.int (x:Nat))=some (.int (R.idxOf x:Nat)):=by
 have:=Mi x R 0 h;simp only[uI] at this;rw[show(B3 R.length).map (fun x=>x)=B3 R.length from wB _] at this;simp only[AC,EU,A1,this]
theorem kY{x:Nat}(h:x∉R):((kI R).any fun j=>decide (j=Sum.inl ((x:Nat):Int)))=false:=by
 rw[tU];intro j hj;obtain⟨y,hy,rfl⟩:=D6.mp hj;have:y≠x:=fun z=>h (z▸hy)
 simpa using fun z:((y:Nat):Int)=(x:Nat)=>this (k6 z)
theorem bo{x:Nat}(h:x∉R):JA (.inl ((x:Nat):Int)) (kI R)=kI (R++[x])/\Iz (.inl ((x:Nat):Int)) (.int (R.length:Nat)) (kI R) (nI (B3 R.length))=nI (B3 (R++[x]).length):=by
 unfold JA Iz;rw[kY h];refine⟨by simp[kI],?_⟩;rw[D2];show _=nI (B3 (R.length+1));rw[vB];simp[nI]
theorem QN:∀(S R:List Nat),(R++S).Nodup->(R++S).length<=1000->Aw BN (nI S) (dR R)=some (dR (R++S))
 | [],R,_,_=>by simp[Aw]
 | x::S,R,h,hl=>by
  have e:R++x::S=(R++[x])++S:=by simp
  have hx:x∉R:=fun z=>(qZ.mp h).2.2 x z x B2 rfl
  have hR:R.length<=1000000:=by rw[D2] at hl;omega
  obtain⟨p1,p2⟩:=bo hx;have s1:BN (.int (x:Nat)) (dR R)=some (dR (R++[x])):=by
   unfold BN;simp only[BC,A1,A8,BF,EU,if_pos hR,Option.some_or,p1,p2]
  show(BN (.int (x:Nat)) (dR R)).bind _=_;rw[s1,A1,QN S (R++[x]) (e▸h) (e▸hl),e]
theorem Wn:∀(S:List Nat) (o:Nat),Aj BG (Da o (nI S))=some ((S.zipIdx o).map fun p=>.tup [.int (p.1:Nat),.int (p.2:Nat)])
 | [],_=>rfl
 | x::S,o=>by
  show(BG (.tup [.int (o:Nat),.int (x:Nat)])).bind _=_;have:BG (.tup [.int (o:Nat),.int (x:Nat)])=some (.tup [.int (x:Nat),.int (o:Nat)]):=by
   unfold BG;rw[NW]
  rw[this,A1];show(Aj BG (Da (o+1) (nI S))).bind _=_;rw[Wn S (o+1)];rfl
theorem QJ:∀(S:List Nat) (o:Nat),DQ Jb ((S.zipIdx o).map fun p=>.tup [.int (p.1:Nat),.int (p.2:Nat)])=some ((S.zipIdx o).map fun p=>(Sum.inl ((p.1:Nat):Int),.int (p.2:Nat)))
 | [],_=>rfl
 | x::S,o=>by
  rw[j5];show(DQ Jb ((S.zipIdx (o+1)).map fun p=>.tup [.int (p.1:Nat),.int (p.2:Nat)])).bind _=_;rw[QJ S (o+1)];rfl
theorem cy:∀(S R:List Nat),(R++S).Nodup->GR (kI R) (nI (B3 R.length)) ((S.zipIdx R.length).map fun p=>(Sum.inl ((p.1:Nat):Int),.int (p.2:Nat)))=(kI (R++S),nI (B3 (R++S).length))
 | [],R,_=>by simp[GR]
 | x::S,R,h=>by
  have e:R++x::S=(R++[x])++S:=by simp
  have hx:x∉R:=fun z=>(qZ.mp h).2.2 x z x B2 rfl
  obtain⟨p1,p2⟩:=bo hx;rw[j5];show GR (JA (.inl ((x:Nat):Int)) (kI R)) (Iz (.inl ((x:Nat):Int)) (.int (R.length:Nat)) (kI R) (nI (B3 R.length))) _=_;rw[p1,p2,show R.length+1=(R++[x]).length by simp,cy S (R++[x]) (e▸h),e]
def Ka(R:List Nat)(f:Nat->Nat):Dv:=.tup (nI (R.map fun a=>R.idxOf (f a)))
def Td(R:List Nat):Tf->Dv
 | .u f=>Ka R f
 | .b f=>.tup (R.map fun a=>Ka R (f a))
def wR(gs:Gs)(ts R:List Nat):Dv:=.tup [.int (R.length:Nat),.tup (nI (ts.map fun t=>R.idxOf t)),.tup (gs.map fun p=>Td R p.2)]
theorem cY(h:NU gs R){p:Dv×Tf}(hp:p∈gs):∀x∈p.2.led R,x∈R:=fun x hx=>h x (K8.mpr ⟨p,hp,hx⟩)
theorem EL{g:Dv->Option Dv}{f:Nat->Dv}(h:∀a∈R,g (.int (a:Nat))=some (f a)):Aj g (nI R)=some (R.map f):=by
 rw[CQ g (fun d=>f (WE d)) (nI R) fun x hx=>?_]
 ·rw[nI,F0];rfl
 ·obtain⟨a,ha,rfl⟩:=D6.mp hx;exact h a ha
theorem pR{x:Nat}(h:x∈R)(k:Nat):AL (k+1) (.int 0) (.int (x:Nat)) (tN R) (dR R)=some (.int (R.idxOf x:Nat)):=by
 unfold AL;simp only[BH,decide_true,A1,if_true,RD h]
theorem oY{f:Nat->Nat}(hR:∀x∈R,x < n)(hl:R.length<=1000)(h:∀a∈R,f a∈R)(k:Nat):AL (k+2) (.int 1) (Gd n f) (tN R) (dR R)=some (Ka R f):=by
 have m:Aj (BV (AL (k+1)) (.int 1) (Gd n f) (tN R) (dR R)) (nI R)=some (R.map fun a=>.int (R.idxOf (f a):Nat)):=EL fun a ha=>by
  unfold BV;have s1:PM (.int 1) (.int 1)=some (.int 0):=rfl;simp only[s1,A1,ER (hR a ha),pR (h a ha) k]
 unfold AL;simp only[BH,show decide ((1:Int)=0)=false by decide,A1,C6,if_false,show items (tN R)=some (nI R) from rfl,AV (show(nI R).length<=1000000 by rw[A8];omega),m,AM];unfold Ka nI;rw[F0];rfl
theorem YW(hR:∀x∈R,x < n)(hl:R.length<=1000)(h:∀x∈g.led R,x∈R):DU (.int (g.ar:Nat)) (g.dv n) (tN R) (dR R)=some (Td R g):=by
 rw[EV];cases g with
 | u f=>exact oY hR hl (fun a ha=>h _ (D6.mpr ⟨a,ha,rfl⟩)) 18
 | b f =>
  have m:Aj (BV (AL 19) (.int 2) ((Tf.b f).dv n) (tN R) (dR R)) (nI R)=some (R.map fun a=>Ka R (f a)):=EL fun a ha=>by
   unfold BV;have s1:PM (.int 2) (.int 1)=some (.int 1):=rfl;simp only[s1,A1,bF (hR a ha),oY hR hl (fun b hb=>h _ (K8.mpr ⟨a,ha,D6.mpr ⟨b,hb,rfl⟩⟩)) 17]
  show AL (19+1) (.int 2) _ _ _=_;unfold AL;simp only[BH,show decide ((2:Int)=0)=false by decide,A1,C6,if_false,show items (tN R)=some (nI R) from rfl,AV (show(nI R).length<=1000000 by rw[A8];omega),m,AM];rfl
theorem QM(h:∀t∈ts,t∈R)(g:Dv->Dv->Option Dv)(hg:∀d x,g d x=(AC d x).bind fun y=>some y):Aj (g (dR R)) (nI ts)=some (nI (ts.map fun t=>R.idxOf t)):=by
 rw[EL (f:=fun t=>.int (R.idxOf t:Nat)) fun a ha=>by rw[hg,RD (h a ha)];rfl];rw[nI,F0];rfl
theorem SS(xk:gs.length<=100)(yW:ts.length<=100)(hR:∀x∈R,x < n)(hl:R.length<=1000)(hc:NU gs R)(ht:∀t∈ts,t∈R):CN (Ik fs gs) (FT n ts gs) (tN R) (dR R)=some (wR gs ts R):=by
 have i1:AC (Ik fs gs) (.int 1)=some (.tup (YF gs)):=rfl;have i2:AC (FT n ts gs) (.int 2)=some (.tup (YX n gs)):=rfl;have i3:AC (FT n ts gs) (.int 1)=some (.tup (nI ts)):=rfl;have key:∀gs':Gs,(∀p∈gs',p∈gs)->Aj (Bv (tN R) (dR R)) (gs'.map fun p=>.tup [.tup [p.1,.int (p.2.ar:Nat)],p.2.dv n])=some (gs'.map fun p=>Td R p.2):=fun gs'=>by
  induction gs' with
  | nil=>intro _;rfl
  | cons p gs' ih =>
   intro h;have e1:Bv (tN R) (dR R) (.tup [.tup [p.1,.int (p.2.ar:Nat)],p.2.dv n])=some (Td R p.2):=by
    unfold Bv;have j1:AC (.tup [p.1,.int (p.2.ar:Nat)]) (.int 1)=some (.int (p.2.ar:Nat)):=rfl;simp only[NW,j1,A1,YW hR hl (cY hc (h p B2))]
   rw[D3,Aj,e1,A1,ih fun q hq=>h q (B1 _ hq)];rfl
 unfold CN;simp only[i1,i2,i3,A1,items,KJ,AV (show(nI ts).length<=1000000 by rw[A8];omega),QM ht Ep (fun _ _=>rfl)];rw[AV (by rw[A8];omega),key gs fun _ h=>h,A1];show(BC (.tup (nI R))).bind _=_;simp only[BC,A1,A8];rfl
theorem Hg(xk:gs.length<=100)(yW:ts.length<=100)(hnd:R.Nodup)(hR:∀x∈R,x < n)(hl:R.length<=1000)(hc:NU gs R)(ht:∀t∈ts,t∈R):CO (Ik fs gs) (FT n ts gs) (tN R)=some (wR gs ts R):=by
 have e1:Pu [tN R]=some (Da 0 (nI R)):=rfl;have e2:=cy R [] (by simpa using hnd);simp only[Y1,Y0,List.range_zero,W8] at e2;have e3:Ih (.lst ((R.zipIdx 0).map fun p=>.tup [.int (p.1:Nat),.int (p.2:Nat)]))=some (dR R):=by
  show Option.or (L8 (DQ Jb _) _) _=_;rw[QJ,A1,e2];rfl
 unfold CO;simp only[e1,A1];rw[AV (by rw[GN,A8];omega),Wn,A1,e3,A1,SS xk yW hR hl hc ht];rfl
theorem Iv(xk:gs.length<=100)(yW:ts.length<=100)(hnd:R.Nodup)(hR:∀x∈R,x < n)(hl:R.length<=1000)(hc:NU gs R)(ht:∀t∈ts,t∈R):DB (Ik fs gs) (FT n ts gs) (tN R)=some (wR gs ts R):=by
 have i1:AC (Ik fs gs) (.int 1)=some (.tup (YF gs)):=rfl;have i2:AC (FT n ts gs) (.int 2)=some (.tup (YX n gs)):=rfl;have i3:AC (FT n ts gs) (.int 1)=some (.tup (nI ts)):=rfl;have l6:(nI R).length<=1000000:=by rw[A8];omega
 have row:∀{g:Dv->Option Dv} {f:Nat->Nat},(∀a∈R,f a∈R)->(∀a∈R,g (.int (a:Nat))=some (.int (R.idxOf (f a):Nat)))->Aj g (nI R)=some (nI (R.map fun a=>R.idxOf (f a))):=fun{g f} h hg=>by
  rw[EL hg,nI,F0];rfl
 have key:∀gs':Gs,(∀p∈gs',p∈gs)->∀acc:List Dv,acc.length+gs'.length<=1000->Aw (Cb (tN R) (dR R)) (gs'.map fun p=>.tup [.tup [p.1,.int (p.2.ar:Nat)],p.2.dv n]) (.lst acc)=some (.lst (acc++gs'.map fun p=>Td R p.2)):=fun gs'=>by
  induction gs' with
  | nil=>intro _ acc _;simp[Aw]
  | cons p gs' ih =>
   intro h acc ha;rw[E4] at ha;have hp:=cY hc (h p B2);have e1:Cb (tN R) (dR R) (.tup [.tup [p.1,.int (p.2.ar:Nat)],p.2.dv n]) (.lst acc)=some (.lst (acc++[Td R p.2])):=by
    have j1:AC (.tup [p.1,.int (p.2.ar:Nat)]) (.int 1)=some (.int (p.2.ar:Nat)):=rfl;have al:=NL (xs:=acc) (y:=Td R p.2) (by omega);unfold Cb GX;simp only[NW,j1,A1,BH];cases hp2:p.2 with
    | u f =>
     rw[hp2] at al hp;have hf:∀a∈R,f a∈R:=fun a ha=>hp _ (D6.mpr ⟨a,ha,rfl⟩)
     rw[if_pos (show decide (((Tf.u f).ar:Int)=1)=true from rfl),Kl];show L8 (Cu (nI R) (L8 (Aj (Dh (dR R) (Gd n f)) (nI R)) _)) _=_;rw[AV l6,row hf fun a ha=>by unfold Dh;rw[ER (hR a ha),A1,RD (hf a ha)];rfl];show L8 (L8 (Ay (.lst acc) [Td R (.u f)]) _) _=_;rw[al];rfl
    | b f =>
     rw[hp2] at al hp;have hf:∀a∈R,∀b∈R,f a b∈R:=fun a ha b hb=>hp _ (K8.mpr ⟨a,ha,D6.mpr ⟨b,hb,rfl⟩⟩)
     rw[if_neg (show ¬decide (((Tf.b f).ar:Int)=1)=true from C7),Kl];show L8 (Cu (nI R) (L8 (Aj (Df (tN R) (dR R) ((Tf.b f).dv n)) (nI R)) _)) _=_;rw[AV l6,EL (f:=fun a=>Ka R (f a)) fun a ha=>?_]
     ·show L8 (L8 (Ay (.lst acc) [Td R (.b f)]) _) _=_;rw[al];rfl
     ·unfold Df;show Cu (nI R) (L8 (Aj (Dg (dR R) ((Tf.b f).dv n) (.int (a:Nat))) (nI R)) _)=_;rw[AV l6,row (hf a ha) fun b hb=>by unfold Dg;rw[bF (hR a ha),A1,ER (hR b hb),A1,RD (hf a ha b hb)];rfl];rfl
   rw[D3,Aw,e1,A1,ih (fun q hq=>h q (B1 _ hq)) _ (by rw[D2,S4];omega),G0];rfl
 have e0:Aw BN (nI R) (.xH [] [])=some (dR R):=QN R [] (by simpa using hnd) (by simpa using hl);unfold DB;simp only[show items (tN R)=some (nI R) from rfl,A1,i1,i2,i3,KJ];rw[e0,A1,key gs (fun _ h=>h) [] (by simp;omega),A1];show(BC (.tup (nI R))).bind _=_;simp only[BC,A1,items,AV (show(nI ts).length<=1000000 by rw[A8];omega),QM ht GZ (fun _ _=>rfl),A8,AM,Y0];rfl
mutual
theorem xv:∀d:Dv,d.cmp=true->_root_.R.xT d d=true
 | .wa,_ | .bl _,_ | .int _,_ | .str _,_=>by rw[_root_.R.xT]<;>simp
 | .tup xs,h=>by rw[_root_.R.xT];exact GL xs (by rw[Dv.cmp] at h;exact h)
 | .lst xs,h=>by rw[_root_.R.xT];exact GL xs (by rw[Dv.cmp] at h;exact h)
 | .xH _ _,h | .ref _,h | .xQ _,h | .ty _,h | .mtp _,h | .zZ _ _,h | .yh _ _,h | .obj _ _ _ _,h=>by rw[Dv.cmp] at h<;>first | cases h | (intros;contradiction)
theorem GL:∀ds:List Dv,Au ds=true->_root_.R.xu ds ds=true
 | [],_=>rfl
 | d::ds,h=>by
  rw[Au,A5] at h;rw[_root_.R.xu,xv d h.1,GL ds h.2];rfl
end
theorem Gy{d:Dv}(h:d.cmp=true)(hd:d.dep<=150):Tn d d=some false:=by
 simp[Gh,h,hd,xv d h]
theorem FP{α:Type}{f:α->Dv}:∀{l:List α} {k:Nat},(∀x∈l,(f x).cmp=true/\(f x).dep<=k)->Au (l.map f)=true/\BZ (l.map f)<=k
 | [],_,_=>⟨rfl,E7 _⟩
 | a::l,k,h=>by
  obtain⟨h1,h2⟩:=h a B2;obtain⟨h3,h4⟩:=FP (l:=l) (k:=k) fun x hx=>h x (B1 _ hx)
  rw[D3,Au,BZ,h1,h3];exact⟨rfl,Nat.max_le.mpr ⟨h2,h4⟩⟩
theorem Ld(l:List Nat):(tN l).cmp=true/\(tN l).dep<=1:=⟨by unfold tN;rw[Dv.cmp];exact Cg l,by unfold tN;rw[Dv.dep,EO];exact B0 _⟩
theorem ka(l:List Nat):Tn (.lst (nI l)) (.lst (nI l))=some false:=Gy (by rw[Dv.cmp];exact Cg l) (by rw[Dv.dep,EO];decide)
theorem Zm(L:List (List Nat)):Tn (.lst (L.map tN)) (.lst (L.map tN))=some false:=by
 obtain⟨h1,h2⟩:=FP (l:=L) fun l _=>Ld l
 exact Gy (by rw[Dv.cmp];exact h1) (by rw[Dv.dep];omega)
theorem kZ(gs:Gs)(ts R:List Nat):Tn (wR gs ts R) (wR gs ts R)=some false:=by
 have r:∀f:Nat->Nat,(Ka R f).cmp=true/\(Ka R f).dep<=1:=fun f=>Ld _
 obtain⟨h1,h2⟩:=FP (l:=gs) (f:=fun p=>Td R p.2) (k:=2) fun p _=>by
  cases p.2 with
  | u f=>exact⟨(r f).1,uN (r f).2⟩
  | b f =>
   obtain⟨a,b⟩:=FP (l:=R) (f:=fun a=>Ka R (f a)) (k:=1) fun a _=>r (f a)
   exact⟨by unfold Td;rw[Dv.cmp];exact a,by unfold Td;rw[Dv.dep];omega⟩
 have t:=Ld (ts.map fun t=>R.idxOf t);refine Gy ?_ ?_
 ·unfold wR;simp only[Dv.cmp,Au,h1,Cg,R5,sT]
 ·unfold wR;simp only[Dv.dep,BZ,EO];omega
section
variable {n:Nat} {fs:List Dv} {ts:List Nat} {gs:Gs} (h0:0 < n) (hn:n<=4) (hg:∀p∈gs,p.2.ok n) (xk:gs.length<=3) (ht:∀x∈ts,x < n) (yW:ts.length<=4)
include h0 hn hg xk ht yW
theorem OC:BW (Ik fs gs) (FT n ts gs) (.lst ((FV n gs ts).map tN))=some (.bl true):=by
 have hdl:(FV n gs ts).length<=1000000:=by
  refine B9 (S5 ..) ?_;rw[(BL _).length_eq];have:=HB hn;omega
 have m:Aj Di ((FV n gs ts).map tN)=some ((FV n gs ts).map fun _=>.bl true):=by
  rw[CQ _ (fun _=>.bl true) _ fun x hx=>?_]
  ·rw[F0];rfl
  ·obtain⟨l,_,rfl⟩:=D6.mp hx;rfl
 have al:JF (.lst ((FV n gs ts).map fun _=>Dv.bl true))=some (.bl true):=by
  show(LZ ((FV n gs ts).map fun _=>Dv.bl true)).map _=_;rw[Ek (fun _=>true)];show some (Dv.bl (((FV n gs ts).map fun _=>true).all id))=_;rw[o6];simp
 have t1:∀x,CJ (Ik fs gs) (FT n ts gs) (.lst ((FV n gs ts).map tN)) x ()=some (.go ()):=fun x=>by
  have a2:CB (.lst ((FV n gs ts).map tN)) (.lst ((FV n gs ts).map tN))=some false:=by
   unfold CB Dd
   have i1:JE (.lst ((FV n gs ts).map tN)) (.ty "list")=some (.bl true):=rfl
   simp only[i1,A1,Ng,T4,C6,if_false,Zm,items,AV (show((FV n gs ts).map tN).length<=1000000 by rw[A8];exact hdl),m,al,gC,cond_true]
  unfold CJ;simp only[OB hn hg xk ht yW h0,A1,a2,C6,if_false,Kl];rfl
 have t2:∀x∈(FV n gs ts).map tN,CH (Ik fs gs) (FT n ts gs) x ()=some (.go ()):=fun x hx=>by
  obtain⟨l,hl,rfl⟩:=D6.mp hx;obtain⟨⟨hs,xW⟩,hr⟩:=(Kw h0 hn).mp hl;obtain⟨hc,hh⟩:=Gu.mp hr;have hcn:=(DW h0 hn).2.2 l hs;have ll:l.length<=1000:=B9 (Cz n l hs) (B9 hn (by decide));have nd:l.Nodup:=by rw[<- hcn];exact cV
  unfold CH;rw[Hg (by omega) (by omega) nd hcn.lt ll hc hh,A1,Iv (by omega) (by omega) nd hcn.lt ll hc hh,A1,kZ,A1];rfl
 unfold BW;simp only[show Bq [.int 2]=some [.int 0,.int 1] from rfl,A1];rw[FK _ () _ fun x _=>t1 x];simp only[A1,Rs.el,items];rw[FK _ () _ t2];rfl
omit h0 hn hg xk ht yW in
theorem gF{l:List Nat}(h:l≠[]):Ie (.lst (nI l))=some (.int (bx (ZL l))):=by
 cases l with
 | nil=>exact(h rfl).elim
 | cons a l =>
  have:=Ej (a::l);unfold Ie;simp only[this];rfl
omit h0 hn hg xk ht yW in
theorem Ql:∀{W:List (List Nat)} {R:List Nat},W.Nodup->R∈W->W.filter (fun l=>l == R)=[R]
 | a::W,R,nd,h=>by
  obtain⟨n1,n2⟩:=V1.mp nd;rw[q0]
  by_cases c:a=R
  ·subst c;rw[if_pos (beq_self_eq_true a),List.filter_eq_nil_iff.mpr fun x hx z=>n1 (by rw[<- eq_of_beq z];exact hx)]
  ·rw[if_neg fun z=>c (eq_of_beq z)];exact Ql n2 ((D0.mp h).resolve_left fun z=>c z.symm)
omit h0 hn hg xk ht yW in
theorem LB:∀(n:Nat) (xs:List Nat),cn n xs∈BY n
 | 0,_=>J7 _
 | n+1,xs=>by
  have e:cn (n+1) xs=cn n xs++if xs.contains n then[n] else[]:=by
   unfold cn;rw[vB,List.filter_append];congr 1;rw[q0];split<;>rfl
  rw[e];show _∈BY n++(BY n).map fun l=>l++[n]
  split
  ·exact A9 _ (D6.mpr ⟨_,LB n xs,rfl⟩)
  ·rw[M0];exact C2 _ (LB n xs)
omit hg xk ht yW in
theorem hV{R:List Nat}(h1:Cn n R)(h2:R≠[])(h3:NU gs R)(h4:∀t∈ts,t∈R):R∈FV n gs ts:=(Kw h0 hn).mpr ⟨⟨by rw[<- h1];exact LB n R,h2⟩,Gu.mpr ⟨h3,h4⟩⟩
omit h0 hn hg xk ht yW in
theorem Xq{l T:List Nat}{g:Dv->Dv->Option Dv}(hg:∀a x,g a x=(iw x a).bind fun b=>some (Dv.bl b))(hl:T.length<=1000){β:Type}(k:Dv->Option β):Cu (nI T) ((Aj (g (tN l)) (nI T)).bind fun y=>(JF (.lst y)).bind k)=k (.bl (T.all fun x=>l.contains x)):=by
 rw[AV (by rw[A8];omega),EL (f:=fun x=>.bl (l.contains x)) fun a _=>?_,A1]
 ·show L8 ((LZ (T.map fun x=>Dv.bl (l.contains x))).map _) k=_;rw[Ek];show k (.bl ((T.map fun x=>l.contains x).all id))=_;rw[o6];rfl
 ·rw[hg];show(IW false (.int (a:Nat)) (tN l)).bind _=_;rw[WD];rfl
omit hg xk ht yW in
theorem Iw{T R:List Nat}(hTl:T.length<=100)(hr:RI n gs (T++ts) R)(hc:NU gs R)(xW:R≠[]):Ex (.lst ((FV n gs ts).map tN)) (.lst (nI T))=some (tN R):=by
 let W:=(FV n gs ts).filter fun l=>T.all fun x=>l.contains x
 have hdl:(FV n gs ts).length<=1000:=by
  refine B9 (S5 ..) ?_;rw[(BL _).length_eq];have:=HB hn;omega
 have hwl:W.length<=1000:=B9 (S5 ..) hdl;have hRd:R∈FV n gs ts:=hV h0 hn hr.cn xW hc fun t h=>hr.has t (A9 _ h)
 have hRW:R∈W:=J4.mpr ⟨hRd,E3.mpr fun x hx=>B6.mpr (hr.has x (C2 _ hx))⟩;have sub:∀l∈W,(∀x∈R,x∈l)/\Cn n l:=fun l hl=>by
  obtain⟨h1,h2⟩:=J4.mp hl;obtain⟨⟨hs,_⟩,hb⟩:=(Kw h0 hn).mp h1;obtain⟨c1,c2⟩:=Gu.mp hb;exact⟨hr.lst l c1 fun x hx=>(D9.mp hx).elim (fun z=>B6.mp (E3.mp h2 x z)) (c2 x),(DW h0 hn).2.2 l hs⟩
 have len:∀l∈W,R.length<=l.length:=fun l hl=>(hr.cn.sub (sub l hl).2 (sub l hl).1).length_le
 have eqR:∀l∈W,l.length=R.length->l=R:=fun l hl e=>(hr.cn.eq (sub l hl).2 (sub l hl).1 (o5 e)).symm
 have m1:GH (Ft (.lst (nI T))) ((FV n gs ts).map tN)=some (W.map tN):=Do _ fun l _=>by
  unfold Ft;show Cu (nI T) ((Aj (Fu (tN l)) (nI T)).bind _)=_;rw[Xq (g:=Fu) (fun _ _=>rfl) (by omega),Ng,A1];split<;>rfl
 have mn:Ie (.lst (nI (W.map O8)))=some (.int (R.length:Nat)):=by
  have wn:W.map O8≠[]:=fun z=>by
   have:=congrArg O8 z;rw[A8] at this;rw[F8 this] at hRW;cases hRW
  rw[gF wn];obtain⟨s1,s2⟩:=Hx (ZL (W.map O8)) fun z=>wn (Xz (b:=[]) z)
  congr 2;refine rR (s2 _ (D6.mpr ⟨_,D6.mpr ⟨R,hRW,rfl⟩,rfl⟩)) ?_;obtain⟨k,hk,ek⟩:=D6.mp s1;obtain⟨l,hl,rfl⟩:=D6.mp hk;rw[<- ek];exact wA.mpr (len l hl)
 have m2:GH (Fo (W.map tN)) (W.map tN)=some ([R].map tN):=by
  have e:W.filter (fun l=>decide (l.length=R.length))=[R]:=by
   have nd:W.Nodup:=(hX h0 hn).filter _;have:W.filter (fun l=>decide (l.length=R.length))=W.filter fun l=>l == R:=qY fun l hl=>by
    rw[Y2,decide_eq_true_eq,beq_iff_eq];exact⟨eqR l hl,fun z=>by rw[z]⟩
   rw[this,Ql nd hRW]
  rw[<- e];refine Do _ fun l hl=>?_
  have m3:Aj JX (W.map tN)=some (nI (W.map O8)):=by
   rw[CQ _ (fun d=>.int ((df d).length:Nat)) _ fun x hx=>?_]
   ·rw[nI,F0,F0];congr 1;refine N9 fun l _=>?_
    show Dv.int ((nI l).length:Nat)=_;rw[A8];rfl
   ·obtain⟨l,_,rfl⟩:=D6.mp hx;rfl
  unfold Fo;have l1:BC (tN l)=some (.int (l.length:Nat)):=by
   show some (Dv.int ((nI l).length:Nat))=_;rw[A8]
  simp only[l1,A1,items,AV (show(W.map tN).length<=1000000 by rw[A8];omega),m3,mn,BH];have:decide (((l.length:Nat):Int)=(R.length:Nat))=decide (l.length=R.length):=decide_eq_decide.mpr Int.ofNat_inj;rw[this];split<;>rfl
 have lp:∀x∈W.map tN,Fw ([R].map tN) x ()=some (.go ()):=fun x hx=>by
  obtain⟨l,hl,rfl⟩:=D6.mp hx;have t1:Fe ([R].map tN) (tN l)=some false:=by
   unfold Fe;have l1:BC (.lst ([R].map tN))=some (.int 1):=rfl;have i0:AC (.lst ([R].map tN)) (.int 0)=some (tN R):=rfl;rw[l1,A1,bD,A1,if_neg (by decide),i0,A1];have hRl:R.length<=1000:=B9 (by rw[<- hr.cn];exact LC) (B9 hn (by decide));show Cu (nI R) ((Aj (Fm (tN l)) (nI R)).bind _)=_;rw[Xq (g:=Fm) (fun _ _=>rfl) hRl,Ng,A1];have:(R.all fun x=>l.contains x)=true:=E3.mpr fun x hx=>B6.mpr ((sub l hl).1 x hx)
   rw[this];rfl
  unfold Fw;rw[t1];rfl
 unfold Ex;simp only[items,A1];rw[AV (by rw[A8];omega),m1,A1,AV (by rw[A8];omega),m2,A1,FK _ () _ lp];rfl
end
section
variable {n:Nat} {fs:List Dv} {ts:List Nat} {gs:Gs} (h0:0 < n) (hn:n<=4) (hg:∀p∈gs,p.2.ok n) (xk:gs.length<=3) (ht:∀x∈ts,x < n) (yW:ts.length<=4) (hfs:ts.length=fs.length)
include h0 hn hg xk ht yW hfs
theorem RP{f x:Dv}(hf:Fd f):∃f',KZ (Ik fs gs) (FT n ts gs) ((FV n gs ts).map tN) x f=some (.go f')/\Fd f':=by
  obtain⟨r,f1,e1,b1,zx⟩:=FY hf (n:=5) (by decide) (by decide);have i0:AC (FT n ts gs) (.int 0)=some (.int (n:Nat)):=rfl;obtain⟨ds,f2,e2,l2,h2,hf2⟩:=By (Nv (FT n ts gs)) Fd (fun y=>∃r:Nat,y=.int r/\r < n) ((B3 r).map fun k=>.int (k:Nat)) f1 zx fun x _ c hc=>by
    obtain⟨k,f',e,b,yg⟩:=FY hc h0 (B9 hn (by decide));exact⟨_,f',by unfold Nv;simp only[i0,A1,e],⟨k,rfl,b⟩,yg⟩
  obtain⟨T,rfl,hT⟩:=Nh h2;have hTl:T.length<=4:=by
    rw[A8,A8,K4] at l2;omega
  obtain⟨b,f3,e3,b3,hf3⟩:=FY hf2 (n:=2) (by decide) (by decide);have hd:∃d,AC (.lst [.tup (nI T),.lst (nI T)]) (.int (b:Nat))=some d/\CW d=some (.lst (nI T)):=by
    have:b=0\/b=1:=by omega
    rcases this with rfl | rfl
    · exact⟨_,rfl,rfl⟩
    · exact⟨_,rfl,rfl⟩
  obtain⟨d,e4,e5⟩:=hd;obtain⟨R,e6,hr,hc⟩:=IA (fs:=fs) hn hg xk ht yW hT hTl e5;have e7:Nr (Ik fs gs) ((FV n gs ts).map tN) (nI T)=some (Pz R):=by
    have j0:AC (Ik fs gs) (.int 0)=some (.tup fs):=rfl;unfold Nr;simp only[BC,A1,j0,Dz,Dx,A8]
    by_cases c:0 < T.length+fs.length
    · rw[if_pos (decide_eq_true (by omega))];have xW:R≠[]:=fun z=>by
        have hS:T++ts≠[]:=fun z=>by
          have:=congrArg O8 z;rw[D2,Y1] at this;omega
        obtain⟨y,hy⟩:=List.exists_mem_of_ne_nil _ hS;have:=hr.has y hy;rw[z] at this;cases this
      rw[Iw h0 hn (by omega) hr hc xW];unfold Pz;rw[if_neg xW];rfl
    · rw[if_neg (by rw[decide_eq_true_eq];omega)];have hR:R=[]:=by
        have hS:T++ts=[]:=F8 (by rw[D2];omega);have cl:NU gs []:=fun x hx=>by
          obtain⟨p,_,hx⟩:=K8.mp hx;cases hp:p.2 with
          | u f=>rw[hp] at hx;cases hx
          | b f=>rw[hp] at hx;cases hx
        cases R with
        | nil=>rfl
        | cons a R=>exact absurd (hr.lst [] cl (fun x hx=>by rw[hS] at hx;exact hx) a B2) (G6)
      rw[hR];rfl
  have e8:Nm (nI T) (Pz R) d (Pz R)=some false:=by
    have a1:Tn (Pz R) (Pz R)=some false:=by
      unfold Pz;split
      · rfl
      · exact Gy (Ld R).1 (B9 (Ld R).2 (by decide))
    have a2:UT (Pz R)=some false:=by
      unfold Pz;split<;>rfl
    unfold Nm US;simp only[a1,a2,A1,C6,if_false,e5,ka]
  refine⟨f3,?_,hf3⟩;unfold KZ;have e1':AS f (.int 5)=some (.int (r:Nat),f1):=e1;have e3':AS f2 (.int 2)=some (.int (b:Nat),f3):=e3;simp only[e1',A1,eL r (by omega)];rw[AV (by rw[A8,K4];omega),e2];simp only[A1,e7,AM,CW,e3',e4,e6,e8,C6,if_false]
end
theorem QR(g:Dv->Dv->Option (Lp Dv Dv Unit))(h:∀x f,Fd f->∃f',g x f=some (.go f')/\Fd f'):∀(xs:List Dv) (f:Dv),Fd f->∃f',DJ g xs f=some (.go f')/\Fd f'
 | [],f,hf=>⟨f,rfl,hf⟩
 | x::xs,f,hf=>by
  obtain⟨f1,e1,h1⟩:=h x f hf;obtain⟨f2,e2,h2⟩:=QR g h xs f1 h1;exact⟨f2,by rw[DJ,e1];exact e2,h2⟩
theorem Sl{ns:List Int}(k:Nat):KY (.xQ ns) (.int (k:Nat)) ()=some (.go ()):=by
 obtain⟨f0,e0,hf0⟩:=SV (ns:=ns) (k:=k);obtain⟨fs,ds,f1,e1,l1,_,l2,h2,zx⟩:=Nu hf0;obtain⟨r,f2,e2,b2,hf2⟩:=FY zx (n:=4) (by decide) (by decide);obtain⟨cs,tbs,f3,e3,l3,h3,p3,hf3⟩:=NV hf2 (fs:=fs) (ds:=ds) (n:=1+r) (by omega) (by omega) (by omega) (by omega) fun x hx=>by
  obtain⟨a,r,rfl,_,hr⟩:=h2 x hx;exact⟨a,r,rfl,hr⟩
 obtain⟨ts,rfl,iq⟩:=Nh h3;have l3':ts.length=fs.length:=by rw[A8] at l3;exact l3
 obtain⟨T',f4,e4,p4,hf4⟩:∃T' f4,Nt (.tup [.int ((1+r:Nat)),.tup (nI ts),.tup tbs]) f3=some (f4,.tup [.int ((1+r:Nat)),.tup (nI ts),.tup T'])/\Paired (YG (1+r)) ds T'/\Fd f4:=by
  obtain⟨b,g1,d1,c1,hg1⟩:=FY hf3 (n:=2) (by decide) (by decide);have d1':AS f3 (.int 2)=some (.int (b:Nat),g1):=d1;unfold Nt;simp only[d1',A1,BH];split
  ·obtain⟨T',g2,d2,q2,hg2⟩:=SU hg1 (ts:=.tup (nI ts)) (n:=1+r) (by omega) (by omega) (by omega) p3;exact⟨T',g2,by rw[d2];rfl,q2,hg2⟩
  ·exact⟨tbs,g1,rfl,p3,hg1⟩
 obtain⟨gs,rfl,rfl,hg⟩:=QK p4;have xk:gs.length<=3:=by unfold YF at l2;rw[A8] at l2;exact l2
 have h0:0 < 1+r:=by omega
 have hn:1+r<=4:=by omega
 have i0:AC (FT (1+r) ts gs) (.int 0)=some (.int ((1+r:Nat))):=rfl;have m:GH (Nw (Ik fs gs) (FT (1+r) ts gs)) ((DZ (Xg (1+r))).map tN)=some ((FV (1+r) gs ts).map tN):=Do _ fun l hl=>by
  obtain⟨hs,xW⟩:=Xf h0 hn l ((BL _).mem_iff.mp hl);unfold Nw;rw[MO hg (by omega) ((DW h0 hn).2.2 l hs).lt (B9 (Cz _ l hs) (by omega)) xW,A1,gC,cond_true,Ng,A1];split<;>rfl
 obtain⟨f5,e5,_⟩:=QR (KZ (Ik fs gs) (FT (1+r) ts gs) ((FV (1+r) gs ts).map tN)) (fun x f hf=>RP h0 hn hg xk iq (by omega) l3' hf) [.int 0,.int 1,.int 2,.int 3] f4 hf4;have e2':AS f1 (.int 4)=some (.int (r:Nat),f2):=e2;unfold KY;simp only[e0,A1,e1,e2',QL,e3,e4,i0,Lm h0 hn,items];rw[AV (by rw[A8,(BL _).length_eq];have:=HB hn;omega),m,A1,OC h0 hn hg xk iq (by omega),A1,gC,cond_true,Ng,A1];rw[if_neg (by decide),show Bq [.int 4]=some [.int 0,.int 1,.int 2,.int 3] from rfl,A1,e5];rfl
theorem Vu(ns:List Int)(h:ns.length<=63):one Yq [Dv.xQ ns]=some (Dv.bl true):=by
 show Yq (Dv.xQ ns)=_;have l:BC (.xQ ns)=some (.int (ns.length:Nat)):=rfl;have:∃d:Int,(KG (.int 6) (.int (ns.length:Nat))).bind (fun d1=>KH (.int 4) d1)=some (.int d)/\1<=d/\d<=6:=by
  simp only[KG,KH,A1];exact⟨_,rfl,by split<;>(split<;>omega),by split<;>(split<;>omega)⟩
 obtain⟨d,ed,d1,d2⟩:=this;obtain⟨x,ex,ed⟩:=J8.mp ed;have sm:(_root_.R.small 1 && _root_.R.small d)=true:=by unfold _root_.R.small;simp;omega
 have rg:Kb [.int 1,.int d]=some ((B3 (d - 1).toNat).map fun k=>.int (1+(k:Nat))):=by simp only[Kb,sm,cond_true]
 unfold Yq;rw[l,A1,ex,A1,ed,A1,rg,A1];rw[FK (KY (.xQ ns)) () _ fun y hy=>by
  obtain⟨k,_,rfl⟩:=D6.mp hy;exact Sl (1+k)]
 rfl
theorem NC:BQ "table_from" (top 2):=mI (by kernel_rfl) (by intros;kernel_rfl)
theorem NB:BQ "world_from" (top 1):=mI (by kernel_rfl) (by intros;kernel_rfl)
theorem ax:BQ "led_in" (top 6):=NH (by kernel_rfl) (by intros;kernel_rfl)
theorem TM:BQ "with_led" (top 5):=NH (by kernel_rfl) (by intros;kernel_rfl)
theorem NF:BQ "least_room" (top 4):=NH (by kernel_rfl) (by intros;kernel_rfl)
theorem aw:BQ "rooms" (top 7):=TR (by kernel_rfl) (by intros;kernel_rfl)
theorem ND:BQ "room_world" (top 8):=NH (by kernel_rfl) (by intros;kernel_rfl)
theorem bA:BQ "_law_feed" (top 10):=TR (by kernel_rfl) (by intros;kernel_rfl)
theorem ay:BQ "_law_take" (top 11):=TR (by kernel_rfl) (by intros;kernel_rfl)
theorem Xj:BQ "_law_names" (top 12):=TR (by kernel_rfl) (by intros;kernel_rfl)
theorem Xi:BQ "_law_shape" (top 13):=mJ (by kernel_rfl) (by intros;kernel_rfl)
theorem Xh:BQ "_law_world" (top 14):=NH (by kernel_rfl) (by intros;kernel_rfl)
theorem az:BQ "_law_flat" (top 15):=TR (by kernel_rfl) (by intros;kernel_rfl)
theorem TQ:BQ "_law_is_room" (top 16):=NH (by kernel_rfl) (by intros;kernel_rfl)
theorem TN:BQ "_law_rising" (top 17):=mJ (by kernel_rfl) (by intros;kernel_rfl)
theorem Xk:BQ "_law_least" (top 18):=TR (by kernel_rfl) (by intros;kernel_rfl)
theorem PH:BQ "_law_world_of" (top 19):=NH (by kernel_rfl) (by intros;kernel_rfl)
theorem JD:BQ "_law_rooms_right" (top 20):=NH (by kernel_rfl) (by intros;kernel_rfl)
theorem all_mk{l:W.OpenLaw}{w:G3}{K:W.Frag}{h:F7}{mg:Str->Option Value}{fa:B5}(X:K.In h)(G:h.Ns L6 mg)(hfa:mg "law" = some (.ref fa))(hz:md.bl.all (ON K)=true)
    (yF:GF K "table_from" (top 2))
    (yE:GF K "world_from" (top 1))
    (zAF:GF K "led_in" (top 6))
    (yq:GF K "with_led" (top 5))
    (yH:GF K "least_room" (top 4))
    (zAE:GF K "rooms" (top 7))
    (yG:GF K "room_world" (top 8))
    (zAI:GF K "_law_feed" (top 10))
    (zAG:GF K "_law_take" (top 11))
    (zR:GF K "_law_names" (top 12))
    (zQ:GF K "_law_shape" (top 13))
    (zP:GF K "_law_world" (top 14))
    (zAH:GF K "_law_flat" (top 15))
    (yt:GF K "_law_is_room" (top 16))
    (yr:GF K "_law_rising" (top 17))
    (zS:GF K "_law_least" (top 18))
    (yY:GF K "_law_world_of" (top 19))
    (xi:GF K "_law_rooms_right" (top 20))
    (zBT:GF K "law" (top 21))
    : ∃fd:R9,(∀(s:A6) (v:Value),tW s fd ⟨[v],[]⟩ [("_law_script", v)])/\∀base:F7,K.In base->base.Ns L6 mg->xU l.prog w K mg base RL 59 fa fd ["_law_script"] (Ph K):=by
  have e:=hfa.symm.trans (W.mg_of X G zBT.1);cases e;have b:Bs md K mg:=mH X G rfl hz
  refine⟨W.fnOf "law" "law" (Ax (top 21)) (Ae (top 21)) (AJ (top 21)) .none .none .none (fE K (Ku K "law")) none (aR K (Ku K "law")) .none,fun s v=>.of_eq rfl,fun base _ _=>?_⟩
  have f0:Fs l.prog w K mg base md.fl 0 ml:=Fs.nil;have f1:Fs l.prog w K mg base md.fl 21 lC:=by unfold lC;rw[EV];exact f0.zBv (io:=[]) (F:=fun n=>Kr (AL n)) b (by kernel_rfl) (fun ds=>lD ds) Mm Ma yF (W.mg_of X G yF.1) NC 20
  have f2:=f1.def (nb:=false) b Ml MZ yE (W.mg_of X G yE.1) NB;have f3:Fs l.prog w K mg base md.fl 43 lA:=by unfold lA;rw[Jk];exact f2.zBv (io:=[]) (F:=fun n=>Ci (BI n)) b (by kernel_rfl) (fun ds=>jD ds) aL aE zAF (W.mg_of X G zAF.1) ax 20
  have f4:=f3.def (nb:=false) b Sh SZ yq (W.mg_of X G yq.1) TM;have f5:=f4.def (nb:=false) b Mo Mc yH (W.mg_of X G yH.1) NF;have f6:=f5.def (nb:=false) b aK aD zAE (W.mg_of X G zAE.1) aw;have f7:=f6.def (nb:=false) b Mn Mb yG (W.mg_of X G yG.1) ND;have f8:=f7.def (nb:=false) b aO aH zAI (W.mg_of X G zAI.1) bA;have f9:=f8.def (nb:=false) b aM aF zAG (W.mg_of X G zAG.1) ay;have f10:=f9.def (nb:=false) b Wv Wg zR (W.mg_of X G zR.1) Xj;have f11:=f10.def (nb:=false) b Wu Wf zQ (W.mg_of X G zQ.1) Xi;have f12:=f11.def (nb:=false) b Wt We zP (W.mg_of X G zP.1) Xh;have f13:=f12.def (nb:=false) b aN aG zAH (W.mg_of X G zAH.1) az;have f14:=f13.def (nb:=true) b Sj Sb yt (W.mg_of X G yt.1) TQ;have f15:=f14.def (nb:=false) b Si Sa yr (W.mg_of X G yr.1) TN;have f16:=f15.def (nb:=false) b Ww Wh zS (W.mg_of X G zS.1) Xk;have f17:=f16.def (nb:=false) b Oo Oi yY (W.mg_of X G yY.1) PH;have f18:=f17.def (nb:=true) b JB Iy xi (W.mg_of X G xi.1) JD
  have hp:AD (top 21)=(["_law_script"]:List Str):=by kernel_rfl
  have r:=gJ (ps:=AD (top 21)) (nb:=true) (by rw[hp];rfl) (On b f18 lT lL (Ob zBT)) Vu;rw[hp] at r;exact r
theorem walk{l:W.OpenLaw}{q:E5}{loose:List Str}{XP:(Str->Option Value)->F7->Prop}{YP:G3->F7->Prop}{d:vw}{K:so->W.Frag}(hn:l.most=some 63)(hdf:d.params.defaults=[])
    (hY:∀(w:G3) (h:F7),YP w h->(K w.params).In h)
    (F:∀(w:G3) (mg:Str->Option Value) (fa:B5) (h:F7),(K w.params).In h->h.Ns L6 mg->mg d.name=some (.ref fa) ->
      ∃fd:R9,(∀(s:A6) (u:Value),tW s fd ⟨[u],[]⟩ [("_law_script", u)])/\∀base:F7,(K w.params).In base->base.Ns L6 mg->xU l.prog w (K w.params) mg base RL 59 fa fd ["_law_script"] (Ph (K w.params))) :
    W.WalkO q loose XP YP l.row.toRowW d [] (fun f vs=>sr f vs):=
  L2.zAw (n:=63) (k:=59) (x := "_law_script") (CX:=fun _=>RL) (sp:=fun w=>Ph (K w.params)) hn (by decide) hdf ⟨rfl,by decide,by decide,rfl⟩ hY F (fun _ _ a ns hl hO hS=>⟨a,ns,rfl,hS,hl,hO,fun _=>rfl⟩) fun _ _ _ _ _ z=>z
abbrev fO(i:Nat)(x:Str)(pm:Value)(cd:B5):Obj:=⟨.type "function", none,.func (W.fnOf x x (Ax (top i)) (Ae (top i)) (AJ (top i)) .none .none .none pm none (.ref cd) .none),#[]⟩
abbrev q10:PySem.Value:=.str "law_shapefree_k61_rooms" 244
abbrev q11:PySem.Value:=.str "shapefree.rooms" 201
noncomputable def KP(P:so):W.Frag:=[
(3,⟨.type "dict", none,.dict #[ke P "__name__" 165 q10,ke P "__doc__" 166 .none,ke P "__package__" 167 .none,ke P "__loader__" 168 (.builtin "__main__.__loader__#opaque"),ke P "__spec__" 169 .none,ke P "__annotations__" 170 (.ref 6),ke P "__builtins__" 171 (.ref 4),ke P "__file__" 173 (.str "/claim/cut.py" 172),ke P "__cached__" 174 .none,ke P "world_from" 194 (.ref 19),ke P "table_from" 200 (.ref 24),ke P "least_room" 213 (.ref 31),ke P "with_led" 225 (.ref 38),ke P "led_in" 231 (.ref 43),ke P "rooms" 237 (.ref 48),ke P "room_world" 243 (.ref 53),ke P "_law_feed" 255 (.ref 60),ke P "_law_take" 265 (.ref 67),ke P "_law_names" 271 (.ref 72),ke P "_law_shape" 277 (.ref 77),ke P "_law_world" 283 (.ref 82),ke P "_law_flat" 289 (.ref 87),ke P "_law_is_room" 295 (.ref 92),ke P "_law_rising" 301 (.ref 97),ke P "_law_least" 307 (.ref 102),ke P "_law_world_of" 313 (.ref 107),ke P "_law_rooms_right" 319 (.ref 112),ke P "law" 325 (.ref 117)] 28,#[]⟩),
(19,fO 1 "world_from" (.str "shapefree.worlds" 187) 18),
(18,cO "world_from" 189 2 4 3 15 16 .none .none .none 17 192),
(24,fO 2 "table_from" (.str "shapefree.worlds" 187) 23),
(23,cO "table_from" 195 6 4 3 20 21 .none .none .none 22 198),
(31,fO 4 "least_room" q11 30),
(30,cO "least_room" 203 11 3 3 25 26 .none (.ref 27) (.ref 28) 29 211),
(38,fO 5 "with_led" q11 37),
(37,cO "with_led" 214 18 3 3 32 33 .none (.ref 34) (.ref 35) 36 223),
(43,fO 6 "led_in" q11 42),
(42,cO "led_in" 226 23 3 3 39 40 .none .none .none 41 229),
(48,fO 7 "rooms" q11 47),
(47,cO "rooms" 232 30 2 3 44 45 .none .none .none 46 235),
(53,fO 8 "room_world" q11 52),
(52,cO "room_world" 238 35 3 3 49 50 .none .none .none 51 241),
(60,fO 10 "_law_feed" q10 59),
(59,cO "_law_feed" 246 39 2 3 54 55 .none (.ref 56) (.ref 57) 58 253),
(67,fO 11 "_law_take" q10 66),
(66,cO "_law_take" 256 49 2 3 61 62 .none (.ref 63) (.ref 64) 65 263),
(72,fO 12 "_law_names" q10 71),
(71,cO "_law_names" 266 57 2 3 68 69 .none .none .none 70 269),
(77,fO 13 "_law_shape" q10 76),
(76,cO "_law_shape" 272 72 1 3 73 74 .none .none .none 75 275),
(82,fO 14 "_law_world" q10 81),
(81,cO "_law_world" 278 78 3 3 78 79 .none .none .none 80 281),
(87,fO 15 "_law_flat" q10 86),
(86,cO "_law_flat" 284 87 2 3 83 84 .none .none .none 85 287),
(92,fO 16 "_law_is_room" q10 91),
(91,cO "_law_is_room" 290 99 3 3 88 89 .none .none .none 90 293),
(97,fO 17 "_law_rising" q10 96),
(96,cO "_law_rising" 296 108 1 3 93 94 .none .none .none 95 299),
(102,fO 18 "_law_least" q10 101),
(101,cO "_law_least" 302 113 2 3 98 99 .none .none .none 100 305),
(107,fO 19 "_law_world_of" q10 106),
(106,cO "_law_world_of" 308 120 3 3 103 104 .none .none .none 105 311),
(112,fO 20 "_law_rooms_right" q10 111),
(111,cO "_law_rooms_right" 314 131 3 3 108 109 .none .none .none 110 317),
(117,fO 21 "law" q10 116),
(116,cO "law" 320 141 1 3 113 114 .none .none .none 115 323)]
def zCc:vw:=⟨"law", Ax (top 21),Ae (top 21),AJ (top 21),hZ (top 21)⟩
theorem zAY:bS PySem.Challenge.rw_shapefree_k61_rooms 22 [3,19,18,24,23,31,30,38,37,43,42,48,47,53,52,60,59,67,66,72,71,77,76,82,81,87,86,92,91,97,96,102,101,107,106,112,111,117,116] KP 1222:=fun w=>by kernel_rfl
theorem zAX:PySem.Challenge.rw_shapefree_k61_rooms.wellSaid=true:=by decide +kernel
end My
open PySem PySem.W PyProof.Rows
set_option maxRecDepth 100000 in
set_option maxHeartbeats 0 in
theorem PySem.Challenge.cw_shapefree_k61_rooms_holds : PySem.Challenge.rw_shapefree_k61_rooms.Holds := by
  refine L2.zBj (d:=My.zCc) My.zAX My.zAY (fun P=>by kernel_rfl) (by kernel_rfl) (by kernel_rfl) (by kernel_rfl) (by kernel_rfl) (by kernel_rfl) (by decide +kernel) ⟨rfl,rfl,rfl,rfl,rfl,by decide +kernel⟩ (by w_witness2) ?call
  refine My.walk (l:=PySem.Challenge.rw_shapefree_k61_rooms) (d:=My.zCc) (K:=My.KP) rfl (by kernel_rfl) (fun w h Y=>Y) fun w mg fa h KX G hmg=>My.all_mk KX G hmg (by kernel_rfl) (by and_intros<;>kernel_rfl) (by and_intros<;>kernel_rfl) (by and_intros<;>kernel_rfl) (by and_intros<;>kernel_rfl) (by and_intros<;>kernel_rfl) (by and_intros<;>kernel_rfl) (by and_intros<;>kernel_rfl) (by and_intros<;>kernel_rfl) (by and_intros<;>kernel_rfl) (by and_intros<;>kernel_rfl) (by and_intros<;>kernel_rfl) (by and_intros<;>kernel_rfl) (by and_intros<;>kernel_rfl) (by and_intros<;>kernel_rfl) (by and_intros<;>kernel_rfl) (by and_intros<;>kernel_rfl) (by and_intros<;>kernel_rfl) (by and_intros<;>kernel_rfl) (by and_intros<;>kernel_rfl)
