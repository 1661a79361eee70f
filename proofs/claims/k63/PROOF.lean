import PyProof.Rows.All
import Wide.All
import OpenK.AllK
import Lean
import PySem.Challenge.RW_shapefree_k63_bundles
noncomputable section
set_option genInjectivity false
set_option genSizeOf false
set_option Elab.async false
set_option linter.all false
set_option maxRecDepth 100000
set_option maxHeartbeats 4000000
open Option renaming bind→E8,bind_eq_some_iff→U5,bind_some→A0,getD_none→uZ,getD_some→ub,isSome_iff_exists→Q3,isSome_some→tJ,map_eq_some_iff→E5,map_some→K2,or→ur,some_or→Z5
open PySem renaming Addr→B3,Around→I9,BindsTo→tq,Builtin→O8,CmpOp→vN,Comprehension→X6,DefRec→vz,FuncData→R8,GenState→vI,Heap→H9,IsPart→sy,IsZip→sL,KeyKind→sS,Keyword→j0,Meets→vk,Operator→sC,Params→tG,PassesOwn→n8,PlainAttrs→rL,Program→F0,Result→uY,Scope→O1,Shared→A7,Stmt→N2,Within→tX,World→J7,assign→Z9,assignEach→O2,assignInOrder→ql,atKey→u3,attributeBase→Q0,backTo→M6,backToKw→j5,behindInMarks→sg,bindArgs→qy,bindC→vQ,bindL→vP,bindName→vK,bootBuiltins→O0,builtinLookup_eq_fast→W0,builtinsNs→vH,cLine→S4,call→tH,callWith→tf,callerA→sX,cellsFrom→N7,codeAny→W8,codeAny_builtin→M0,codeAny_mono→Z2,codeAny_of_tree→vC,collect→v8,compareOp→U1,concat_meets→tu,drawOrder→vn,entryFor→vU,entryFor_of_tree→ud,eqIsQuiet→uV,eqIsQuiet_byValue→tV,eval→M8,field→sJ,firstArgMember→p9,foldedSetIterable→Q6,getItem→sW,getMethod→qx,getattributeRaised→tL,holding→Z0,intKind→W2,isInstance→rG,isSubtype_stop→sN,isSubtype_tuple_tuple→Z6,keywordEach→U9,letOwnedTupleGo→j9,list_append→uC,mainGlobals→M7,mem_of_lookup→G8,model→D4,newFunctionEnv→sG,newList→v9,newTuple→vX,noFill_tuple_add→q0,plainId_quiet→T8,post_val_or_str→k6,pushCells→vi,pushCells_keeps→rZ,pyIter→uX,pyNext→V1,rawInt→N5,relayAll→uK,seqIndex_neg→uA,seqIndex_of→uz,seqSlot_of→uq,seq_tuple_add→sh,setsByText→tU,sizeLine_eq→N6,sliceBounds→Y7,slot_list_getitem→uB,spliced→sU,standAt→sV,starEach→D2,subscripted→u0,swappedStores→qm,swapsWith→V8,swapsWithSole→sf,sysModules→T6,tupleKind→qu,typeIs_int→rK,typeIs_str→vR,typeLookup→rH,typeLookup_type→k8,typeOf→vv,unpackItems→uy,updateSeq→e9,valueAt→sY,wpAny→B6,wpAny_Call_Name_kw→K3,wpAny_Call_method_late→rN,wpAny_Name→vJ,wpAny_askSetting→U7,wpAny_assign_Name→tY,wpAny_attempt→X5,wpAny_binaryOp_repeat_ref→qc,wpAny_bind→A1,wpAny_call→vO,wpAny_callSpecial?_slot→J4,wpAny_call_entry→G3,wpAny_comprehension_free→qp,wpAny_execs_cons→uW,wpAny_execs_nil→j8,wpAny_field→K4,wpAny_forIn_list→W7,wpAny_getItem_str_slice→U3,wpAny_holding→G9,wpAny_isInstance→R4,wpAny_ite_false→V7,wpAny_letGo→sM,wpAny_load→vL,wpAny_mono→V0,wpAny_newList→sj,wpAny_newObj_type→K0,wpAny_of_eq→u4,wpAny_onRaise→qq,wpAny_passesOwn→S8,wpAny_pure→A6,wpAny_pyIter_enum→qk,wpAny_pyIter_list→T2,wpAny_pyIter_slot→uN,wpAny_pyIter_tuple→S0,wpAny_pyIter_zip→uh,wpAny_pyNext_enum_itemD→rC,wpAny_pyNext_list_end→Z7,wpAny_pyNext_list_item→Z1,wpAny_rule→R7,wpAny_runValue→p7,wpAny_seqItems→L5,wpAny_sequenceKey→tw,wpAny_setEntries_of→l9,wpAny_setField→S2,wpAny_setField_rec→M9,wpAny_setState_of→T4,wpAny_specialOf→O5,wpAny_standAt→i9,wpAny_storeSet_of→uM,wpAny_truthy_bool→Q5,wpAny_tupleItemsOf→n9,wpAny_typeOf→R1,wpAny_updateSeq→Q7
open PySem.Heap renaming ExtBut→j6,SameBut→K9,get?_push_ne→qj,get?_push_of_some→A2,get?_push_size→B2,get?_update_ne→T9,get?_update_other→J6,get?_update_self→G5,lt_size→C0,size_push→J0,size_update→ue
open Bool renaming and_eq_true→A3,and_eq_true_iff→W6,and_false→o8,and_self→R3,and_true→sk,eq_iff_iff→Y2,false_eq_true→D6,false_ne_true→B9,not_eq_true'→M5,not_false→vG,not_true→T5,or_eq_false_iff→sQ,or_eq_true→rY,or_false→vd,or_true→uS,true_or→rR
open List renaming all_cons→M3,all_eq_true→F8,all_map→uG,any_cons→V9,any_eq_false→td,any_eq_true→U6,append_assoc→G0,append_nil→L9,contains_cons→qY,contains_iff_mem→C3,drop_eq_getElem_cons→S6,drop_length→uf,eq_nil_of_length_eq_zero→J3,ext_getElem?→qh,filterMap_cons→X2,filterMap_map→tB,filter_cons→uv,find?_cons→V6,find?_some→O7,findIdx?→ve,flatMap_cons→uR,flatten_cons→T1,foldl→tF,foldl_cons→X8,forIn_cons→k5,forIn_nil→sH,getD→vq,getD_eq_getElem?_getD→B7,getElem?_append_left→K5,getElem?_append_right→W5,getElem?_cons_succ→Y8,getElem?_drop→tK,getElem?_eq_getElem→A4,getElem?_eq_none→M4,getElem?_eq_some_iff→B5,getElem?_map→C6,getElem?_of_mem→j7,getElem?_range→L0,getElem?_replicate→qz,getElem?_set→uI,getElem?_set_ne→E3,getElem?_set_self→F9,getElem?_take→tP,getElem?_take_of_lt→qo,getElem?_toArray→rk,getElem_inj→qv,getElem_mem→R6,getElem_of_mem→U0,getElem_range→qb,isEmpty_iff→uo,length→qg,length_append→D0,length_cons→D9,length_drop→e8,length_eq_zero_iff→rD,length_eraseIdx→sP,length_filter_le→O9,length_map→A8,length_nil→rX,length_range→E2,length_set→E1,length_singleton→E4,length_take→R5,length_zip→vD,lookup→Y5,lookup_append→R9,lookup_cons→G7,map→vT,map_append→N0,map_congr_left→l8,map_cons→C5,map_map→L1,map_nil→m7,mem_append→E9,mem_append_left→D7,mem_append_right→B8,mem_cons→C8,mem_cons_of_mem→A9,mem_cons_self→B1,mem_filter→G4,mem_filterMap→sx,mem_flatMap→i7,mem_map→H8,mem_of_find?_eq_some→S7,mem_of_getElem?→N8,mem_or_eq_of_mem_set→qe,mem_range→C9,mem_singleton→D3,mem_singleton_self→N9,nil_append→X9,nodup_append→uT,nodup_cons→X7,nodup_iff_pairwise_ne→qU,nodup_range→uw,not_mem_nil→K7,of_mem_zip→rW,pairwise_cons→tO,pairwise_lt_range→V4,pairwise_map→uJ,range→A5,range'→sI,range'_succ→uc,range_succ→vF,range_succ_eq_map→rP,replicate→D8,replicate_succ→O4,singleton_append→rq,size_toArray→B0,sum_cons→so,take_append_drop→rn,take_length→rE,zipIdx_cons→ug,zipIdx_nil→vA,zip_cons_cons→L8
open Nat renaming add_assoc→i8,add_comm→vw,le_add_right→uk,le_of_eq→m5,le_of_lt→Q8,le_of_not_lt→W9,le_refl→B4,le_succ→O6,le_total→n6,le_trans→C4,lt_irrefl→P9,lt_of_le_of_lt→S1,lt_of_lt_of_le→C7,lt_or_eq_of_le→qW,lt_or_ge→uP,lt_succ_of_lt→O3,lt_succ_self→M1,lt_trans→V3,max_eq_left→Y3,max_eq_right→X0,min_eq_left→l5,min_eq_right→g9,min_self→rQ,mod_lt→tR,mul_comm→uE,ne_of_gt→Q9,ne_of_lt→D1,not_lt_zero→vB,sub_eq_zero_of_le→Z8,sub_zero→v7,succ_lt_succ→um,succ_mul→uD,succ_ne_self→g7,zero_add→uQ,zero_le→J8,zero_lt_succ→uu
open Option.some renaming inj→D5,injEq→T3
open PySem.Obj renaming data_mapFields→p8,isFreed_of_fields→rh,mapFields→vf,mapSeq→E6,putSet→vY
open False renaming elim→E7
open PySem.Value renaming bool→Y4,builtin→vb,bytes→wF,float→ux,int→qt,isInt→sA,isInt_shape→tW,isStrOf→vc,none→N4,ref→F7,str→sT,type→G2
open PyProof.Rows renaming AllBare→qf,IntsAre→Y0,args_tuple_getitem→tD,assignInOrder_cons→o6,assignInOrder_nil→tZ,boot_range→vM,callWith_builtin1→a9,callWith_type1→G1,entry_list_sort→u9,entry_tuple_getitem→sZ,envOfC→sD,envOfC→wL,firstMet→sO,firstMet_length_le→tQ,get?_update_seq→Y1,listItems_at→rS,seqObj→U4,slot_tuple_getitem→K8,sortedAll→q9,sortedHeap→vW,step_dedup→U8,step_dedup→V5,subscriptTail→si,subscriptTail_builtinR→rJ,up1→g8
open PySem.Builtin.List renaming listExtendWith→G6,listFitsIndex→vS,listItems→rT,listLengthHint→m9,listSameRef→N3,listTooLong→Q4,listTouch→wA,listUpdate→vp
open PySem.Heap.SameBut renaming refl→qi,update→J5
open PySem.Builtin.SmallTypes renaming nextOf→K6,ownedTupleHandOut→X3,ownedTupleIsFree→J9
open Int renaming emod_lt_of_pos→qZ,emod_nonneg→k9,toNat_natCast→K1
open PySem.Around renaming under→m6,under_plainId→L6
open Array renaming forIn_toList→o4,getD→qV,getElem?_eq_getElem→L7,getElem?_eq_some_iff→S3,length_toList→l7,size_append→uH,toList→vt,toList_push→uL
open PySem.Builtin.Tuple renaming tupleExact→T7,tupleHashOf→N1,tupleIsExact→o9,tupleItemsOf→W4
open PySem.AutoSeq1 renaming wpAny_loadPart'→P8
open PySem.Str renaming join→vV,ofString→R0
open PySem.Builtin.Slice renaming sliceAdjust→X1,sliceApplied→o7,sliceFields→va,slicePartIndex→u7,slicePlaces→S5
open PySem.Calls renaming Constant_str→sv,Name_function_global→o5,callWith_builtin→Z4,call_function_entry→qd,evalArgs_plain→sE,spliced_cons→V2,spliced_nil→S9
open PySem.Builtin.Str renaming occurrences→U2,strSliceIndices→W3
open PySem.F renaming args_tuple_add_2→X4,entry_tuple_add→Y6,plainAttrs_list→Y9,plainAttrs_str→rV,slot_tuple_add→Z3
open Int.ofNat renaming inj→j4
open PySem.Builtin.Frozenset renaming newClass→vZ,sizeOf→vg,slot0→vo,updateFrom→k7
open Iff renaming rfl→m8
open List.Perm renaming refl→qX
open PySem.Shared renaming TypeIs→qr,heap→u5
open PySem.Builtin.Range renaming rangeSize→qw
open PySem.Txt renaming join→wK,slice→q8,slice_le→rO
open PySem.Builtin.Dict renaming pairItems→wC,selfAndRest→vh,updateFrom→rF
open List.Pairwise renaming filter→sR,filterMap→vm,map→uU,nil→uF
open PySem.SeqAt.EqAt renaming int_str→sr,str_int→su
open PySem.Code renaming frames→wH,guards→wI,isFrame→tm,isGuard→tj,quiet_builtin→tM
open PySem.pickOrder renaming go→uO
open PySem.IsL renaming update→ua
open List.cons renaming injEq→u6
open PySem.PassesOwn renaming never→vE
open Except renaming error→v5,ok→wU
open Sum.inl renaming inj→wD
open PySem.IsRange renaming new→wG
open PySem.Data renaming seq→wJ
open PySem.Heap.IsSliceOf renaming new→wM
open PySem.W.WShape renaming has→wN
open PySem.Walks renaming list→wO
open PySem.Within renaming cons→wQ
open PySem.W.WData renaming int→wR
open PySem.Heap.DictOf renaming new→wV
namespace L2
open PySem
variable {a:B3} {h:H9} {Q:Bool->A7->Prop}
section
variable {prog:F0} {w:J7} {K:Type} [DecidableEq K]
noncomputable abbrev NK(K:Type):=List (K ⊕ List K)
structure Apart (knd:sS prog w K):Prop where
 l:∀{A:I9} {E:Value->A7->Prop} {s:A7} {k:K} {v:Value} {a:B3} {items:Array Value} {Q:Bool->A7->Prop},A.units < S4->knd.is k v=true->s.heap.IsTuple a items->Q false s->B6 (D4 prog w) A (eqBool v (.ref a)) Q E s
 r:∀{A:I9} {E:Value->A7->Prop} {s:A7} {k:K} {v:Value} {a:B3} {items:Array Value} {Q:Bool->A7->Prop},A.units < S4->knd.is k v=true->s.heap.IsTuple a items->Q false s->B6 (D4 prog w) A (eqBool (.ref a) v) Q E s
inductive yP (knd:sS prog w K) (h:H9):NK K->List Value->Prop
 | nil:yP knd h [] []
 | sc {k:K} {v:Value} {ks:NK K} {vs:List Value}:knd.is k v=true->yP knd h ks vs->yP knd h (.inl k::ks) (v::vs)
 | tp {t:List K} {a:B3} {ks:NK K} {vs:List Value}:IsTupleKey knd h t a->yP knd h ks vs->yP knd h (.inr t::ks) (.ref a::vs)
def QZ(knd:sS prog w K)(h:H9)(ks:NK K)(a:B3):Prop:=∃o items n,h.get? a=some o/\o.cls=.type "tuple" /\ o.data=.seq items n/\yP knd h ks items.toList
variable {knd:sS prog w K}
theorem Rv{k:K}(h:knd.is k (.ref a)=true):False:=by have:=knd.byValue _ _ h;simp[carriedByValue] at this
theorem yP.inj{h:H9}:∀{x y:NK K} {vs:List Value},yP knd h x vs->yP knd h y vs->x=y
 | _,_,_,.nil,.nil=>rfl
 | _,_,_,.sc h1 t1,.sc h2 t2=>by rw[knd.inj _ _ _ h1 h2,yP.inj t1 t2]
 | _,_,_,.sc h1 t1,.tp h2 t2=>(Rv h1).elim
 | _,_,_,.tp h1 t1,.sc h2 t2=>(Rv h2).elim
 | _,_,_,.tp h1 t1,.tp h2 t2=>by rw[h1.inj h2,yP.inj t1 t2]
theorem QZ.typeIs{s:A7}{ks:NK K}(x:QZ knd s.heap ks a):s.TypeIs (.ref a) "tuple" := let ⟨o,_,_,ho,hc,_⟩:=x;⟨o,ho,hc⟩
theorem QZ.inj{x y:NK K}(hx:QZ knd h x a)(hy:QZ knd h y a):x=y:=by
 obtain⟨o,items,n,ho,_,hd,hi⟩:=hx;obtain⟨o',zDW,n',zo,_,z9,hi'⟩:=hy;obtain rfl:o=o':=D5 (ho.symm.trans zo);rw[hd] at z9;injection z9 with h1 _
 subst h1;exact hi.inj hi'
theorem yP.keeps{h h':H9}{d:B3}{o:Obj}{es ep}(ho:h.get? d=some o)(hd:o.data=.dict es ep)(hs:K9 d h h'):∀{ks:NK K} {vs:List Value},yP knd h ks vs->yP knd h' ks vs
 | _,_,.nil=>.nil
 | _,_,.sc h1 t=>.sc h1 (t.keeps ho hd hs)
 | _,_,.tp h1 t=>.tp (h1.keeps ho hd hs) (t.keeps ho hd hs)
theorem QZ.keeps{h':H9}{ks:NK K}{d:B3}{o:Obj}{es ep}(x:QZ knd h ks a)(ho:h.get? d=some o)(hd:o.data=.dict es ep)(hs:K9 d h h'):QZ knd h' ks a:=by
 obtain⟨o',items,n,zo,hc,z9,hi⟩:=x;have yd:a≠d:=by
  rintro rfl;obtain rfl:o'=o:=D5 (zo.symm.trans ho);rw[hd] at z9;exact nomatch z9
 exact⟨o',items,n,(hs.2 a yd).trans zo,hc,z9,hi.keeps ho hd hs⟩
noncomputable def DJ(knd:sS prog w K):K ⊕ List K->Int
 | .inl k=>knd.hash k
 | .inr t=>tupleKeyHash knd t
noncomputable def EZ:K ⊕ List K->Nat
 | .inl _=>1
 | .inr t=>t.length+1
def XS(ks:NK K):Nat:=(ks.map EZ).sum+1
def Wg(knd:sS prog w K)(ks:NK K):Int:=reduceHash (N1 (ks.map (DJ knd)))
variable {A:I9} {E:Value->A7->Prop} {s:A7}
theorem VW{ks:NK K}{Q:Int->A7->Prop}(hu:A.units+1 < S4)(hk:QZ knd s.heap ks a)(h:Q (Wg knd ks) { s with toks:=s.toks+XS ks }) :
    B6 (D4 prog w) A (pyHash (.ref a)) Q E s:=by
  have hT:=hk.typeIs;obtain⟨o,items,n,ho,_,hd,hi⟩:=hk;unfold pyHash
  first | unfold pyHashByItsType | skip
  first | refine A1 (wpAny_cRoomFor_or (.inr (by omega)) ?_) | skip
  refine A1 (O5 hT F.slot_tuple_hash.lookup ?_)
  show B6 _ _ (if(some (vb "tuple.__hash__") == some N4)=true then _ else _) Q E s
  rw[if_neg (by rw[beq_builtin_none];exact B9)];refine A1 (O5 hT F.slot_tuple_hash.lookup ?_)
  show B6 _ _ (callSpecialIfBoundUnlessNone? (.ref a) "__hash__" _ >>= _) Q E s
  refine A1 (wpAny_callSpecialIfBoundUnlessNone?_slot hT F.slot_tuple_hash (G3 F.slot_tuple_hash hT F.entry_tuple_hash ?_ (F.args_tuple_hash_1 _)));show B6 _ _ (W4 (.ref a) >>= _) _ _ s;refine A1 (n9 ho hd ?_);refine A1 ?_;rw[<- o4];refine W7 _
    (fun rest (b:Array Int) s'=>∃done left,ks=done++left/\yP knd s.heap left rest/\b.toList=done.map (DJ knd)/\s'={ s with toks:=s.toks+(done.map EZ).sum })
    _ ?_ ?_ _ _ ⟨[],ks,rfl,hi,rfl,rfl⟩
  · rintro x rest b s' ⟨done,left,rfl,hl,hb,rfl⟩;cases hl with
    | @sc k _ ks' _ h1 xr =>
      refine A1 (knd.pyHash h1 ?_);have e:{ s with toks:=s.toks+(done.map EZ).sum+1 }={ s with toks:=s.toks+((done++[Sum.inl k]).map EZ).sum }:=by
        simp[EZ,i8]
      first
        | exact A6 ⟨done++[.inl k],ks',by simp,xr,by simp[hb,DJ],e⟩
        | exact A1 (A6 (A6 ⟨done++[.inl k],ks',by simp,xr,by simp[hb,DJ],e⟩))
    | @tp t a' ks' _ h1 xr =>
      have e:{ s with toks:=s.toks+(done.map EZ).sum+(t.length+1) }={ s with toks:=s.toks+((done++[Sum.inr t]).map EZ).sum }:=by
        simp[EZ,i8]
      refine A1 (wpAny_pyHash_tuple (knd:=knd) hu h1 ?_)
      first
        | exact A6 ⟨done++[.inr t],ks',by simp,xr,by simp[hb,DJ],e⟩
        | exact A1 (A6 (A6 ⟨done++[.inr t],ks',by simp,xr,by simp[hb,DJ],e⟩))
  · rintro b s' ⟨done,left,rfl,hl,hb,rfl⟩;cases hl;rw[L9] at h;show B6 _ _ (retInt (N1 b.toList)) _ _ _;rw[hb];refine wpAny_ret_mkInt ?_;show B6 _ _ (if(decide (-(2:Int) ^ 63<=N1 (done.map (DJ knd))) && decide (N1 (done.map (DJ knd)) < 2 ^ 63))=true then _ else _) Q E _;unfold Wg reduceHash XS at h
    by_cases hr:(decide (-(2:Int) ^ 63<=N1 (done.map (DJ knd))) && decide (N1 (done.map (DJ knd)) < 2 ^ 63))=true
    · rw[if_pos hr];rw[if_pos hr] at h;exact A6 (by simpa[i8] using h)
    · rw[if_neg hr];rw[if_neg hr] at h;exact A1 (R7 (A6 (by simpa[i8] using h)))
theorem IsTupleKey.isT{t:List K}(x:IsTupleKey knd h t a):∃items,h.IsTuple a items:=let ⟨o,items,n,ho,hc,hd,_⟩:=x;⟨items,o,ho,hc,n,hd⟩
theorem aZ{k1 k2:K ⊕ List K}{u v:Value}{xs ys:List Value}{x y:NK K}(ap:Apart knd)(hu:A.units < S4)(hx:yP knd s.heap (k1::x) (u::xs))(hy:yP knd s.heap (k2::y) (v::ys))(h:Q (decide (k1=k2)) s):B6 (D4 prog w) A (eqBool u v) Q E s:=by
 cases hx with
 | @sc a _ _ _ h1 _ =>
  cases hy with
  | @sc b _ _ _ h2 _ =>
   refine knd.eqBool h1 h2 ?_;have:decide (a=b)=decide ((Sum.inl a:K ⊕ List K)=Sum.inl b):=by by_cases e:a=b<;>simp[e]
   rw[this];exact h
  | @tp t b _ _ h2 _ =>
   obtain⟨its,hi⟩:=IsTupleKey.isT h2;refine ap.l hu h1 hi ?_;have:decide ((Sum.inl a:K ⊕ List K)=Sum.inr t)=false:=by simp
   rw[<- this];exact h
 | @tp t a _ _ h1 _ =>
  cases hy with
  | @sc b _ _ _ h2 _ =>
   obtain⟨its,hi⟩:=IsTupleKey.isT h1;refine ap.r hu h2 hi ?_;have:decide ((Sum.inr t:K ⊕ List K)=Sum.inl b)=false:=by simp
   rw[<- this];exact h
  | @tp t' b _ _ h2 _ =>
   refine wpAny_eqBool_tuple (knd:=knd) hu h1 h2 ?_;have:decide (t=t')=decide ((Sum.inr t:K ⊕ List K)=Sum.inr t'):=by by_cases e:t=t'<;>simp[e]
   rw[this];exact h
theorem yP.tail{k:K ⊕ List K}{ks:NK K}{v:Value}{vs:List Value}(x:yP knd h (k::ks) (v::vs)):yP knd h ks vs:=by
 cases x with
 | sc _ t=>exact t
 | tp _ t=>exact t
theorem yP.split{ks:NK K}{v:Value}{vs:List Value}(x:yP knd h ks (v::vs)):∃k r,ks=k::r:=by
 cases x with
 | sc _ t=>exact⟨_,_,rfl⟩
 | tp _ t=>exact⟨_,_,rfl⟩
theorem yP.len{h:H9}:∀{ks:NK K} {vs:List Value},yP knd h ks vs->ks.length=vs.length
 | _,_,.nil=>rfl
 | _,_,.sc _ t=>by simp[t.len]
 | _,_,.tp _ t=>by simp[t.len]
theorem Oo{x y:NK K}{b:B3}{P:Fin->A7->Prop}(ap:Apart knd)(hu:A.units < S4)(hx:QZ knd s.heap x a)(hy:QZ knd s.heap y b)(h:P (.done (.ret (.bool (decide (x=y))))) s) :
    B6 (D4 prog w) A (O8.«tuple.__eq__» ⟨[.ref a,.ref b],[]⟩) P E s:=by
  have hTb:=hy.typeIs;obtain⟨oa,xs,na,hoa,_,hda,hia⟩:=hx;obtain⟨ob,ys,nb,hob,_,zv,hib⟩:=hy
  show B6 _ _ (rG (.ref b) (.type "tuple") >>= _) _ _ s
  refine A1 (R4 hTb Z6 ?_);simp only[T5,D6,if_false];refine A1 (n9 hoa hda ?_);refine A1 (n9 hob zv ?_);refine A1 ?_;refine W7 _
    (fun rest r s'=>r.1=none/\s'=s/\∃x' y' xs' ys',rest=List.zip xs' ys'/\yP knd s.heap x' xs'/\yP knd s.heap y' ys'/\decide (x'=y')=decide (x=y)/\(xs'.length == ys'.length)=(xs.size == ys.size))
    _ ?_ ?_ _ _ ⟨rfl,rfl,x,y,xs.toList,ys.toList,rfl,hia,hib,rfl,by simp⟩
  · rintro⟨u,v⟩ rest r s' ⟨hr,rfl,x',y',xs',ys',hz,zX,hy',zBK,hlen⟩;cases xs' with
    | nil=>simp at hz
    | cons u' zDG =>
      cases ys' with
      | nil=>simp at hz
      | cons v' zDF =>
        simp only[L8,u6,Prod.mk.injEq] at hz;obtain⟨⟨rfl,rfl⟩,rfl⟩:=hz;obtain⟨k1,x'',rfl⟩:=zX.split;obtain⟨k2,y'',rfl⟩:=hy'.split;refine A1 (aZ ap hu zX hy' ?_)
        by_cases hk:k1=k2
        · subst hk;rw[decide_eq_true rfl];simp only[T5,D6,if_false];refine A6 ⟨rfl,rfl,x'',y'',zDG,zDF,rfl,zX.tail,hy'.tail,?_,by simpa using hlen⟩;rw[<- zBK]
          by_cases hxy:x''=y''
          · simp[hxy]
          · simp[hxy]
        · rw[decide_eq_false hk];simp only[vG,if_true];have hf:decide (x=y)=false:=by rw[<- zBK];simp[hk]
          rw[hf] at h;exact A1 (A6 (A6 (A6 h)))
  · rintro⟨r1,r2⟩ s' ⟨hr,rfl,x',y',xs',ys',hz,zX,hy',zBK,hlen⟩;simp only at hr;subst hr;refine A6 ?_;have zDn:(xs.size == ys.size)=decide (x=y):=by
      rw[<- zBK,<- hlen];have lx:=zX.len;have ly:=hy'.len;cases xs' with
      | nil =>
        cases ys' with
        | nil =>
          cases zX;cases hy';simp
        | cons _ _ =>
          cases zX;obtain⟨k2,y'',rfl⟩:=hy'.split;simp
      | cons _ _ =>
        cases ys' with
        | nil =>
          cases hy';obtain⟨k2,y'',rfl⟩:=zX.split;simp
        | cons _ _=>simp at hz
    show P (.done (.ret (.bool (xs.size == ys.size)))) s';rw[zDn];exact h
theorem XO{x y:NK K}{b:B3}(ap:Apart knd)(hu:A.units+1 < S4)(hx:QZ knd s.heap x a)(hy:QZ knd s.heap y b)(h:Q (decide (x=y)) s) :
    B6 (D4 prog w) A (eqBool (.ref a) (.ref b)) Q E s:=by
  unfold eqBool
  try with_reducible refine G9 ?_
  show B6 _ _ (if(F7 a == F7 b)=true then _ else _) Q E s
  by_cases hab:(F7 a == F7 b)=true
  · rw[if_pos hab];have e:a=b:=by have:=eq_of_beq hab;injection this
    subst e;obtain rfl:=hx.inj hy;exact A1 (R7 (A6 (by simpa using h)))
  · rw[if_neg hab];exact A1 (wpAny_richCompare_same_room (op:=.Eq) hx.typeIs hy.typeIs F.slot_tuple_eq
      (G3 F.slot_tuple_eq hx.typeIs F.entry_tuple_eq (Oo ap hu hx hy ⟨_,rfl,(fun e=>nomatch e),Q5 h⟩) (F.args_tuple_eq_2 _ _)) (by omega))
theorem ZQ{n:Nat}{ks:List K}(hk:IsTupleKey knd s.heap ks a)(h:Q true s):B6 (D4 prog w) A (uV (n+1) (.ref a)) Q E s:=by
 have hT:=hk.typeIs;obtain⟨o,items,nn,ho,_,hd,hi⟩:=hk;unfold uV;refine A1 (O5 hT F.slot_tuple_eq.lookup ?_)
 show B6 _ _ (rG (.ref a) (.type "tuple") >>= _) _ _ s
 refine A1 (R4 hT Z6 ?_);simp only[T5,D6,if_false];refine A1 (L5 ho hd ?_);refine A1 ?_;show B6 _ _ (forIn items _ _) _ _ s;rw[<- o4];refine W7 _ (fun rest r s'=>r.1=none/\s'=s/\∀v∈rest,carriedByValue v=true) _ ?_ ?_ _ _ ⟨rfl,rfl,hi.byValue⟩
 ·rintro v rest r s' ⟨hr,rfl,zAc⟩;rw[tV _ (zAc v B1)];refine A1 (A6 ?_);simp only[T5,D6,if_false];exact A6 ⟨rfl,rfl,fun u hu'=>zAc u (A9 _ hu')⟩
 ·rintro⟨r1,r2⟩ s' ⟨hr,rfl,_⟩;simp only at hr;subst hr;exact A6 h
theorem ZR{ks:NK K}(hk:QZ knd s.heap ks a)(h:Q true s):B6 (D4 prog w) A (uV 8 (.ref a)) Q E s:=by
 have hT:=hk.typeIs;obtain⟨o,items,nn,ho,_,hd,hi⟩:=hk;unfold uV;refine A1 (O5 hT F.slot_tuple_eq.lookup ?_)
 show B6 _ _ (rG (.ref a) (.type "tuple") >>= _) _ _ s
 refine A1 (R4 hT Z6 ?_);simp only[T5,D6,if_false];refine A1 (L5 ho hd ?_);refine A1 ?_;show B6 _ _ (forIn items _ _) _ _ s;rw[<- o4];refine W7 _ (fun rest r s'=>r.1=none/\s'=s/\∃l,yP knd s.heap l rest) _ ?_ ?_ _ _ ⟨rfl,rfl,ks,hi⟩
 ·rintro v rest r s' ⟨hr,rfl,l,hl⟩;cases hl with
  | @sc k _ ks' _ h1 t =>
   rw[tV _ (knd.byValue _ _ h1)];refine A1 (A6 ?_);simp only[T5,D6,if_false];exact A6 ⟨rfl,rfl,ks',t⟩
  | @tp t' a' ks' _ h1 t =>
   refine A1 (ZQ (n:=6) h1 ?_);simp only[T5,D6,if_false];exact A6 ⟨rfl,rfl,ks',t⟩
 ·rintro⟨r1,r2⟩ s' ⟨hr,rfl,_⟩;simp only at hr;subst hr;exact A6 h
end
def WC{prog:F0}{w:J7}{K:Type} [DecidableEq K] (knd:sS prog w K) (ap:Apart knd):HeapKind prog w (NK K) where
 is:=QZ knd
 hash:=Wg knd
 draws:=XS
 room:=fun A=>A.units+1 < S4
 inj:=fun hx hy=>hx.inj hy
 keeps:=fun x ho hd hs=>x.keeps ho hd hs
 pyHash:=fun hu hk h=>VW hu hk h
 eqBool:=fun hu hx hy h=>XO ap hu hx hy h
 quiet:=fun hk h=>ZR hk h
end L2
namespace L2
open PySem PySem.Spec PyProof.Rows
noncomputable abbrev BF:=Sum Int Str
def Ks:BF->Value->Bool
 | .inl k,v=>sA k v
 | .inr x,v=>vc x v
def oB(w:J7):BF->Int
 | .inl k=>hashInt k
 | .inr x=>hashStr w x
theorem Aa:∀{k:BF} {v:Value},Ks k v=true->(∃i t,k=Sum.inl i/\v=qt i t)\/(∃x t,k=Sum.inr x/\v=sT x t)
 | .inl i,v,h=>by
  obtain⟨t,e⟩:=tW (k:=i) (v:=v) h;exact .inl ⟨i,t,rfl,e⟩
 | .inr x,v,h=>by
  obtain⟨t,e⟩:=Value.isStrOf_shape (x:=x) (v:=v) h;exact .inr ⟨x,t,rfl,e⟩
theorem TC(i:Int)(t:Tok):Ks (.inl i) (.int i t)=true:=by simp[Ks,sA]
theorem TB(x:Str)(t:Tok):Ks (.inr x) (.str x t)=true:=by simp[Ks,vc]
theorem gP(a b:Int):decide ((Sum.inl a:BF)=Sum.inl b)=(a == b):=by
 by_cases e:a=b
 ·subst e;simp
 ·have h:¬(Sum.inl a:BF)=Sum.inl b:=fun q=>e (wD q)
  rw[decide_eq_false h];exact(beq_eq_false_iff_ne.mpr e).symm
theorem gL(a b:Str):decide ((Sum.inr a:BF)=Sum.inr b)=decide (a=b):=by
 by_cases e:a=b
 ·subst e;simp
 ·have h:¬(Sum.inr a:BF)=Sum.inr b:=fun q=>e (Sum.inr.inj q)
  rw[decide_eq_false h,decide_eq_false e]
theorem gO(a:Int)(b:Str):decide ((Sum.inl a:BF)=Sum.inr b)=false:=decide_eq_false (fun q=>nomatch q)
theorem gM(a:Str)(b:Int):decide ((Sum.inr a:BF)=Sum.inl b)=false:=decide_eq_false (fun q=>nomatch q)
def Ak(prog:F0)(w:J7):PySem.KeyKind prog w BF where
 is:=Ks
 hash:=oB w
 inj:=fun v a b ha hb=>by
  rcases Aa ha with⟨i,t,rfl,rfl⟩ | ⟨x,t,rfl,rfl⟩
  ·rcases Aa hb with⟨j,u,rfl,e⟩ | ⟨y,u,rfl,e⟩
   ·injection e with e1 _;rw[e1]
   ·exact nomatch e
  ·rcases Aa hb with⟨j,u,rfl,e⟩ | ⟨y,u,rfl,e⟩
   ·exact nomatch e
   ·injection e with e1 _;rw[e1]
 byValue:=fun k v h=>by
  rcases Aa h with⟨i,t,rfl,rfl⟩ | ⟨x,t,rfl,rfl⟩<;>rfl
 pyHash:=fun hv h=>by
  rcases Aa hv with⟨i,t,rfl,rfl⟩ | ⟨x,t,rfl,rfl⟩
  ·exact wpAny_pyHash_int h
  ·exact wpAny_pyHash_str h
 eqBool:=fun hu hv h=>by
  rcases Aa hu with⟨i,t,rfl,rfl⟩ | ⟨x,t,rfl,rfl⟩
  ·rcases Aa hv with⟨j,u,rfl,rfl⟩ | ⟨y,u,rfl,rfl⟩
   ·rw[gP] at h;exact wpAny_eqBool_int h
   ·rw[gO] at h;exact sr i t y u _ _ _ _ h
  ·rcases Aa hv with⟨j,u,rfl,rfl⟩ | ⟨y,u,rfl,rfl⟩
   ·rw[gM] at h;exact su x t j u _ _ _ _ h
   ·rw[gL] at h;exact wpAny_eqBool_str h
 «strs»:=fun k x t v h=>by
  rcases Aa h with⟨i,u,rfl,e⟩ | ⟨y,u,rfl,e⟩
  ·exact nomatch e
  ·injection e with e1 _
   subst e1;cases v<;>rfl
theorem Sr(prog:F0)(w:J7):Apart (Ak prog w) where
 l:=fun hu hk ht h=>by
  rcases Aa hk with⟨i,t,rfl,rfl⟩ | ⟨x,t,rfl,rfl⟩
  ·exact SeqAt.EqAt.int_tuple i t ht hu _ _ _ _ h
  ·exact SeqAt.EqAt.str_tuple x t ht hu _ _ _ _ h
 r:=fun hu hk ht h=>by
  rcases Aa hk with⟨i,t,rfl,rfl⟩ | ⟨x,t,rfl,rfl⟩
  ·exact SeqAt.EqAt.tuple_int i t ht hu _ _ _ _ h
  ·exact SeqAt.EqAt.tuple_str x t ht hu _ _ _ _ h
theorem NO(prog:F0)(w:J7)(i:Int)(t:Tok):(Ak prog w).is (.inl i) (.int i t)=true:=TC i t
theorem NN(prog:F0)(w:J7)(x:Str)(t:Tok):(Ak prog w).is (.inr x) (.str x t)=true:=TB x t
set_option genInjectivity true in
inductive V where
 | we | bl (b:Bool) | int (i:Int) | str (x:Str) | byt (b:Array UInt8) | flt (b:UInt64) | ref (a:B3) | ty (n:String)
 deriving DecidableEq
def RelV:V->Value->Prop
 | .we,u=>u=N4
 | .bl b,u=>u=Y4 b
 | .int i,u=>∃t,u=qt i t
 | .str x,u=>∃t,u=sT x t
 | .byt b,u=>∃t,u=wF b t
 | .flt b,u=>∃t,u=ux b t
 | .ref a,u=>u=F7 a
 | .ty n,u=>u=G2 n
abbrev AF:List V->List Value->Prop:=Paired RelV
variable {us:List Value}
theorem AF.length{xs:List V}(r:AF xs us):xs.length=us.length:=Paired.length r
theorem AF.get:∀{xs:List V} {us:List Value} {i:Nat} {x:V},AF xs us->xs[i]?=some x->∃u,us[i]?=some u/\RelV x u
 | _,_,_,_,.nil,e=>by simp at e
 | _,_,0,_,.cons r _,e=>by simp at e;subst e;exact⟨_,rfl,r⟩
 | _,_,i+1,x,.cons _ t,e=>by
  obtain⟨u,h1,h2⟩:=AF.get (i:=i) (x:=x) t (by simpa using e);exact⟨u,by simpa using h1,h2⟩
theorem AF.set{x:V}{u:Value}(r:RelV x u):∀{xs:List V} {us:List Value} (i:Nat),AF xs us->AF (xs.set i x) (us.set i u)
 | _,_,_,.nil=>.nil
 | _,_,0,.cons _ t=>.cons r t
 | _,_,i+1,.cons q t=>.cons q (AF.set r i t)
theorem AF.append:∀{xs ys:List V} {us ws:List Value},AF xs us->AF ys ws->AF (xs++ys) (us++ws)
 | _,_,_,_,.nil,s=>s
 | _,_,_,_,.cons r t,s=>.cons r (AF.append t s)
theorem AF.take:∀{xs:List V} {us:List Value} (n:Nat),AF xs us->AF (xs.take n) (us.take n)
 | _,_,0,_=>.nil
 | _,_,_+1,.nil=>.nil
 | _,_,n+1,.cons r t=>.cons r (AF.take n t)
theorem AF.drop:∀{xs:List V} {us:List Value} (n:Nat),AF xs us->AF (xs.drop n) (us.drop n)
 | _,_,0,r=>r
 | _,_,_+1,.nil=>.nil
 | _,_,n+1,.cons _ t=>AF.drop n t
def FF:Option V->Option Value->Prop
 | some v,some u=>RelV v u
 | none,none=>True
 | _,_=>False
def KV{κ:Type}:List (κ×V)->List (κ×Value)->Prop:=Paired fun(p:κ×V) (q:κ×Value)=>p.1=q.1/\RelV p.2 q.2
def kV:BF->V
 | .inl i=>.int i
 | .inr x=>.str x
inductive HO where
 | lst (xs:List V)
 | tup (xs:List V)
 | dK (wY:List (BF×V)) | dT (wY:List (List BF×V)) | dN (wY:List (NK BF×V))
 | set (S:Int->Bool) (n:Nat)
 | ins (C dx:B3) (fs:List (Str×V))
 | own (x:B3)
 | xd (fs:List (Str×V))
 | met (f x:B3)
 | rng (lo hi:Int)
 | frz (o:Obj) (u:HO)
 | tbl (ps:Array Value)
 | ext (φ:H9->Prop)
noncomputable abbrev Hp:=B3->Option HO
def dW(H:Hp):NK BF->List V->Prop
 | [],vs=>vs=[]
 | .inl k::ks,vs=>∃r,vs=kV k::r/\dW H ks r
 | .inr t::ks,vs=>∃c r,vs=.ref c::r/\H c=some (.tup (t.map kV))/\dW H ks r
def jM(H:Hp)(k:NK BF)(b:B3):Prop:=∃vs,H b=some (.tup vs)/\dW H k vs
theorem dW.keeps{H H':Hp}(ht:∀b xs,H b=some (.tup xs)->H' b=some (.tup xs)):∀{k:NK BF} {vs:List V},dW H k vs->dW H' k vs
 | [],_,h=>h
 | .inl _::ks,_,⟨r,e,h⟩=>⟨r,e,dW.keeps ht h⟩
 | .inr _::ks,_,⟨c,r,e,h1,h⟩=>⟨c,r,e,ht _ _ h1,dW.keeps ht h⟩
variable {H:Hp} {b:B3}
theorem jM.keeps{H':Hp}(ht:∀b xs,H b=some (.tup xs)->H' b=some (.tup xs)){k:NK BF}(h:jM H k b):jM H' k b:=let ⟨vs,e,n⟩:=h;⟨vs,ht _ _ e,n.keeps ht⟩
def upd(H:Hp)(a:B3)(o:HO):Hp:=fun b=>if b=a then some o else H b
variable {a:B3} {o:HO}
theorem AM:upd H a o a=some o:=by unfold upd;rw[if_pos rfl]
theorem AE(h:b≠a):upd H a o b=H b:=by unfold upd;rw[if_neg h]
theorem Yh{u:HO}:upd (upd H a o) a u=upd H a u:=by
 funext b;unfold upd;split<;>rfl
theorem lJ{u:HO}(h:H a=some o)(h':H b=some u)(d:o≠u):a≠b:=by
 intro e;subst e;rw[h] at h';exact d (D5 h')
theorem Az(h:H a=some o)(h':H b=none):a≠b:=by
 intro e;subst e;rw[h] at h';cases h'
def HP(h:H9)(a:B3)(items:Array Value):Prop:=∃o,h.get? a=some o/\o.cls=.type "tuple" /\ o.dict=none/\∃n,o.data=.seq items n
variable {h:H9}
theorem HP.tup{items:Array Value}(x:HP h a items):IsTup h a items:=let ⟨o,e,c,_,d⟩:=x;⟨o,e,c,d⟩
theorem HP.new(h:H9)(items:Array Value):HP (h.push { cls:=.type "tuple", data:=.seq items }) h.objs.size items:=⟨_,B2 _ rfl,rfl,rfl,_,rfl⟩
section
variable (P:F0) (w:J7)
def Ab(H:Hp)(h:H9)(a:B3):HO->Prop
  | .lst xs=>xs.length<=sizeLine/\∃(its:List Value) (n:Nat),AF xs its/\h.get? a=some { cls:=.type "list", data:=.seq its.toArray n }
  | .tup xs=>xs.length<=sizeLine/\∃its:List Value,AF xs its/\HP h a its.toArray
  | .dK wY=>wY.length<=sizeLine/\(a == T6)=false/\∃vs,KV wY vs/\h.DictOf (Ak P w) a vs
  | .dT wY=>wY.length<=sizeLine/\(a == T6)=false/\∃xs:List (List BF×B3×Value),
      Paired (fun(p:List BF×V) (q:List BF×B3×Value)=>p.1=q.1/\H q.2.1=some (.tup (p.1.map kV))/\RelV p.2 q.2.2) wY xs /\
      ∃o es ep,h.get? a=some o/\o.ExactDict/\o.data=.dict es ep/\es.toList=xs.map (entryOfKey (qu (Ak P w)))/\(xs.map (·.1)).Nodup
  | .dN wY=>wY.length<=sizeLine/\(a == T6)=false/\∃xs:List (NK BF×B3×Value),
      Paired (fun(p:NK BF×V) (q:NK BF×B3×Value)=>p.1=q.1/\jM H p.1 q.2.1/\RelV p.2 q.2.2) wY xs /\
      ∃o es ep,h.get? a=some o/\o.ExactDict/\o.data=.dict es ep/\es.toList=xs.map (entryOfKey (WC (Ak P w) (Sr P w)))/\(xs.map (·.1)).Nodup
  | .set S n=>h.SetOf (W2 P w) a S n
  | .ins C dx fs=>H dx=some (.own a)/\fs.length<=1000/\dx≠a/\h.get? a=some (W.instObj C dx) /\
      ∃mA,h.Ns1 dx mA/\(∀f,FF (fs.lookup f) (mA f))/\tX mA (fs.map (·.1))
  | .own _=>∃o,h.get? a=some o
  | .xd fs=>∃mA,h.Ns1 a mA/\∀f,FF (fs.lookup f) (mA f)
  | .rng lo hi=>∃t u v,h.get? a=some { cls:=.type "range", data:=.fields #[.int lo t,.int hi u,.int 1 v] }
  | .frz o u=>h.get? a=some o/\Ab H h a u
  | .tbl ps=>h.get? a=some { cls:=.none,data:=.fields ps }
  | .met f x=>h.get? a=some (W.methodObj (.ref f) (.ref x))
  | .ext φ=>φ h/\(∃o,h.get? a=some o)/\∀h1 h2:H9,φ h1->(∀o,h1.get? a=some o->h2.get? a=some o)->φ h2
def FY(H:Hp)(h:H9):Prop:=∀a o,H a=some o->Ab P w H h a o
end
section
variable {P:F0} {w:J7} {H H':Hp} {h h':H9} {a:B3} {o:HO}
theorem Ab.lt(x:Ab P w H h a o):a < h.objs.size:=by
 cases o with
 | lst xs=>obtain⟨_,_,_,_,e⟩:=x;exact C0 e
 | tup xs=>obtain⟨_,_,_,p⟩:=x;exact p.tup.lt
 | dK wY=>obtain⟨_,_,_,_,o,_,_,e,_⟩:=x;exact C0 e
 | dT wY=>obtain⟨_,_,_,_,o,_,_,e,_⟩:=x;exact C0 e
 | dN wY=>obtain⟨_,_,_,_,o,_,_,e,_⟩:=x;exact C0 e
 | set S n=>obtain⟨o,_,_,_,e,_⟩:=x;exact C0 e
 | ins C dx fs=>obtain⟨_,_,_,e,_⟩:=x;exact C0 e
 | own y=>obtain⟨_,e⟩:=x;exact C0 e
 | xd fs=>obtain⟨_,⟨_,_,_,e,_⟩,_⟩:=x;exact C0 e
 | rng lo hi=>obtain⟨_,_,_,e⟩:=x;exact C0 e
 | frz ob u=>obtain⟨e,_⟩:=x;exact C0 e
 | tbl ps=>exact C0 (show h.get? a=some _ from x)
 | met f y=>exact C0 (show h.get? a=some _ from x)
 | ext φ=>obtain⟨_,⟨_,e⟩,_⟩:=x;exact C0 e
theorem Paired.zBF{α β:Type}{F G:α->β->Prop}:∀{l₁:List α} {l₂:List β},Paired F l₁ l₂->(∀a b,F a b->G a b)->Paired G l₁ l₂
 | _,_,.nil,_=>.nil
 | _,_,.cons r t,f=>.cons (f _ _ r) (Paired.zBF t f)
theorem Ab.zAA(x:Ab P w H h a o)(k:∀b u,(b=a\/H b=some (.own a))->h.get? b=some u->h'.get? b=some u)
    (ho:∀b,H b=some (.own a)->H' b=some (.own a)) (ht:∀b xs,H b=some (.tup xs)->H' b=some (.tup xs)):Ab P w H' h' a o:=by
  induction o with
  | lst xs=>obtain⟨z,its,n,r,e⟩:=x;exact⟨z,its,n,r,k _ _ (.inl rfl) e⟩
  | tup xs=>obtain⟨z,its,r,ob,e,c⟩:=x;exact⟨z,its,r,ob,k _ _ (.inl rfl) e,c⟩
  | dK wY=>obtain⟨z,y,vs,r,ob,es,ep,e,c⟩:=x;exact⟨z,y,vs,r,ob,es,ep,k _ _ (.inl rfl) e,c⟩
  | dT wY =>
    obtain⟨z,y,xs,r,ob,es,ep,e,c⟩:=x;exact⟨z,y,xs,Paired.zBF r fun p q z=>⟨z.1,ht _ _ z.2.1,z.2.2⟩,ob,es,ep,k _ _ (.inl rfl) e,c⟩
  | dN wY =>
    obtain⟨z,y,xs,r,ob,es,ep,e,c⟩:=x;exact⟨z,y,xs,Paired.zBF r fun p q z=>⟨z.1,z.2.1.keeps ht,z.2.2⟩,ob,es,ep,k _ _ (.inl rfl) e,c⟩
  | set S n=>obtain⟨ob,es,ep,t,e,c⟩:=x;exact⟨ob,es,ep,t,k _ _ (.inl rfl) e,c⟩
  | ins C dx fs =>
    obtain⟨d,z,ne,e,mA,⟨od,es,ep,e2,c⟩,r⟩:=x;exact⟨ho _ d,z,ne,k _ _ (.inl rfl) e,mA,⟨od,es,ep,k _ _ (.inr d) e2,c⟩,r⟩
  | own y=>obtain⟨ob,e⟩:=x;exact⟨ob,k _ _ (.inl rfl) e⟩
  | xd fs=>obtain⟨mA,⟨od,es,ep,e,c⟩,r⟩:=x;exact⟨mA,⟨od,es,ep,k _ _ (.inl rfl) e,c⟩,r⟩
  | rng lo hi=>obtain⟨t,u,v,e⟩:=x;exact⟨t,u,v,k _ _ (.inl rfl) e⟩
  | frz ob u ih=>obtain⟨e,q⟩:=x;exact⟨k _ _ (.inl rfl) e,ih q⟩
  | tbl ps =>
    have e:h.get? a=some { cls:=.none,data:=.fields ps }:=x;show h'.get? a=some { cls:=.none,data:=.fields ps };exact k a _ (.inl rfl) e
  | met f y =>
    have e:h.get? a=some (W.methodObj (.ref f) (.ref y)):=x;show h'.get? a=some (W.methodObj (.ref f) (.ref y));exact k a _ (.inl rfl) e
  | ext φ=>obtain⟨p,⟨o,e⟩,st⟩:=x;exact⟨st _ _ p fun o q=>k _ _ (.inl rfl) q,⟨o,k _ _ (.inl rfl) e⟩,st⟩
theorem FY.lt(x:FY P w H h)(e:H a=some o):a < h.objs.size:=(x a o e).lt
theorem FY.fresh(x:FY P w H h)(e:h.objs.size<=a):H a=none:=by
 cases q:H a with
 | none=>rfl
 | some u=>exact absurd (C7 (x.lt q) e) (P9 _)
theorem FY.kept(x:FY P w H h)(k:∀b u,h.get? b=some u->h'.get? b=some u):FY P w H h':=fun a o e =>
 (x a o e).zAA (fun b u _ q=>k b u q) (fun _ q=>q) fun _ _ q=>q
theorem FY.laid(x:FY P w H h)(k:∀b u,h.get? b=some u->h'.get? b=some u)(hp:h.objs.size<=a)(new:Ab P w (upd H a o) h' a o):FY P w (upd H a o) h':=fun b u e=>by
 have hn:=x.fresh hp
 by_cases hb:b=a
 ·subst hb;rw[AM] at e;cases e;exact new
 ·rw[AE hb] at e;exact(x b u e).zAA (fun c v _ q=>k c v q) (fun c q=>by rw[AE (Az q hn)];exact q) fun c xs q=>by rw[AE (Az q hn)];exact q
end
def Rd(H:Hp)(a:B3)(u:HO):Prop:=H a=some u\/∃o,H a=some (.frz o u)
variable {P:F0} {w:J7}
theorem Rd.ok{u:HO}(r:Rd H a u)(x:FY P w H h):Ab P w H h a u:=by
 rcases r with r | ⟨o,r⟩
 ·exact x a u r
 ·obtain⟨_,q⟩:=x a _ r;exact q
def jN:Option HO->Prop
 | some (.lst _)=>True
 | some (.dK _)=>True
 | some (.dT _)=>True
 | some (.dN _)=>True
 | some (.set _ _)=>True
 | some (.ins _ _ _)=>True
 | some (.ext _)=>True
 | _=>False
section
variable {P:F0} {w:J7} {H:Hp} {h h':H9} {x e:B3} {o':HO}
theorem FY.write(ok:FY P w H h)(mu:jN (H x))(he:e=x\/H e=some (.own x))(k:∀b u,b≠e->h.get? b=some u->h'.get? b=some u)(heo:∃u,h'.get? e=some u)
    (new:Ab P w (upd H x o') h' x o'):FY P w (upd H x o') h':=fun b u q=>by
  have zCY:∀c y,H c=some (.own y)->c≠x:=fun c y r z=>by subst z;rw[r] at mu;exact mu
  have zDP:∀c xs,H c=some (.tup xs)->c≠x:=fun c xs r z=>by subst z;rw[r] at mu;exact mu
  by_cases hb:b=x
  · subst hb;rw[AM] at q;cases q;exact new
  · rw[AE hb] at q
    by_cases yr:b=e
    · have q':H b=some (.own x):=by
        rcases he with z | z
        · exact absurd (yr.trans z) hb
        · rw[yr];exact z
      rw[q] at q';cases q';obtain⟨v,hv⟩:=heo;exact⟨v,by rw[yr];exact hv⟩
    · refine(ok b u q).zAA (fun c v hc r=>k c v ?_ r) (fun c r=>by rw[AE (zCY c b r)];exact r) fun c xs r=>by rw[AE (zDP c xs r)];exact r
      rcases hc with rfl | hc
      · exact yr
      · rintro rfl;rcases he with z | z
        · exact zCY c b hc z
        · rw[hc] at z;cases z;exact hb rfl
end
structure Un (fs ex:List B3) (H H':Hp) (h h':H9):Prop where
 keep:∀b o,h.get? b=some o->H b=none->b∉fs->b∉ex->h'.get? b=some o
 slot:∀b o,h.get? b=some o->H b=none->b∈fs->b∉ex->∃sl,h'.get? b=some { o with slots:=sl }
 free:∀b o,h.get? b=some o->H b=none->b∉ex->H' b=none
 there:∀b o,h.get? b=some o->b∉ex->∃o',h'.get? b=some o'
 zK:∀b xs,H b=some (.tup xs)->H' b=some (.tup xs)
 y8:∀b o u,H b=some (.frz o u)->H' b=some (.frz o u)
 zL:∀b ps,H b=some (.tbl ps)->∃more,H' b=some (.tbl (ps++more))
section
variable {fs fs' ex ex':List B3} {H H1 H2:Hp} {h h1 h2 h':H9} {a x e:B3} {o:HO}
theorem Un.any(u:Un fs ex H H1 h h1){ob:Obj}(q:h.get? b=some ob)(n:H b=none)(hx:b∉ex):∃sl,h1.get? b=some { ob with slots:=sl }:=by
 by_cases hb:b∈fs
 ·exact u.slot b ob q n hb hx
 ·exact⟨ob.slots,u.keep b ob q n hb hx⟩
theorem Un.kept(k:∀b u,h.get? b=some u->h'.get? b=some u):Un fs ex H H h h':=
 ⟨fun b ob q _ _ _=>k b ob q,fun b ob q _ _ _=>⟨ob.slots,k b ob q⟩,fun _ _ _ n _=>n,fun b ob q _=>⟨ob,k b ob q⟩,fun _ _ q=>q,fun _ _ _ q=>q,fun _ ps q=>⟨#[],by rw[q];simp⟩⟩
theorem Un.refl:Un fs ex H H h h:=Un.kept fun _ _ q=>q
theorem Un.laid(k:∀b u,h.get? b=some u->h'.get? b=some u)(hp:h.objs.size<=a)(hn:H a=none):Un fs ex H (upd H a o) h h' where
 keep:=fun b u q _ _ _=>k b u q
 slot:=fun b u q _ _ _=>⟨u.slots,k b u q⟩
 free:=fun b u q n _=>by rw[AE (D1 (C7 (C0 q) hp))];exact n
 there:=fun b u q _=>⟨u,k b u q⟩
 zK:=fun b xs q=>by rw[AE (Az q hn)];exact q
 y8:=fun b u xs q=>by rw[AE (Az q hn)];exact q
 zL:=fun b ps q=>⟨#[],by rw[AE (Az q hn),q];simp⟩
theorem Un.write(mu:jN (H x))(he:e=x\/H e=some (.own x))(k:∀b u,b≠e->h.get? b=some u->h'.get? b=some u)(heo:∃u,h'.get? e=some u):Un fs ex H (upd H x o) h h':=by
 have hx:∀b,H b=none->b≠x:=fun b n z=>by subst z;rw[n] at mu;exact mu
 have hb:∀b,H b=none->b≠e:=fun b n z=>by
  subst z;rcases he with r | r
  ·exact hx b n r
  ·rw[n] at r;cases r
 have hm:∀b u,H b=some u->¬jN (some u)->b≠x:=fun b u q nm z=>by subst z;rw[q] at mu;exact nm mu
 refine⟨fun b u q n _ _=>k b u (hb b n) q,fun b u q n _ _=>⟨u.slots,k b u (hb b n) q⟩,fun b u q n _=>by rw[AE (hx b n)];exact n,fun b u q _=>?_,
  fun b xs q=>by rw[AE (hm b _ q fun z=>z)];exact q,fun b u xs q=>by rw[AE (hm b _ q fun z=>z)];exact q,fun b ps q=>⟨#[],by rw[AE (hm b _ q fun z=>z),q];simp⟩⟩
 by_cases yr:b=e
 ·subst yr;exact heo
 ·exact⟨u,k b u yr q⟩
end
def nA(h:H9)(H:Hp):List B3:=(A5 h.objs.size).filter fun a=>(H a).isSome
def Lw(h:H9)(H:Hp):H9:=W.hideAll h (nA h H)
theorem TK(h:H9)(H:Hp):(Lw h H).objs.size=h.objs.size:=W.hideAll_size _ _
theorem We{o:Obj}(e:h.get? b=some o)(n:H b=none):(Lw h H).get? b=some o:=
 W.hideAll_get _ e fun hm=>by
  have q:(H b).isSome=true:=(G4.mp hm).2;rw[n] at q;simp at q
theorem Zv{o:Obj}(e:(Lw h H).get? b=some o):h.get? b=some o/\H b=none:=by
 have e':h.get? b=some o:=W.of_hideAll (nA h H) e;refine⟨e',?_⟩;cases q:H b with
 | none=>rfl
 | some x =>
  have hm:b∈nA h H:=G4.mpr ⟨C9.mpr (C0 e'),by simp[q]⟩;have z:(Lw h H).get? b=none:=W.hideAll_none (nA h H) hm;rw[z] at e;cases e
noncomputable def bX(g h:H9)(L:B3):List (B3×Obj):=(A5 h.objs.size).filterMap fun a=>if a=L\/(g.get? a).isSome=true then none else(h.get? a).map fun o=>(a,o)
def rest(g h:H9)(L d:B3):List (B3×Obj):=(bX g h L).filter fun p=>decide (p.1≠d)
structure Mod (K:W.Frag) (mg:Str->Option Value) (base:H9):Prop where
 kin:K.In base
 glob:base.Ns M7 mg
 blt:∃mb,base.Ns vH mb/\∀x:Str,x ≠ "__name__" -> mb x=O0 x
 nolimit:base.NoLimit
structure Cx where
 prog:F0
 w:J7
 K:W.Frag
 mg:Str->Option Value
 base:H9
 A:I9
 N:List Str
 xC:A7
 H₀:Hp
 env:Env
 outer:List Env
 stack:List Env
 ex:List B3
 fn:Str->Bool
 calm:Bool
 pn:List (B3×Obj)
 xe:Value->A7->Prop
noncomputable def RW(l:List Env):List B3:=l.filterMap (·.frame)
abbrev Cx.fs(X:Cx):List B3:=RW X.outer
def nO(sc:O1)(x:Str):Prop:=sc.names.lookup x=some .local\/sc.names.lookup x=some .cell\/sc.names.lookup x=some .free
def Loc(sc:O1)(x:Str):Prop:=sc.names.lookup x=some .local\/sc.names.lookup x=some .cell
def Look(env:Env)(h:H9)(m:Str->Option Value)(x:Str)(u:Value):Prop:=
 (env.kindOf x=some .local/\m x=some u)\/((env.kindOf x=some .cell\/env.kindOf x=some .free)/\∃c,env.cells.lookup x=some c/\h.IsCell c (some u))
structure Cx.Ok (X:Cx):Prop where
 mod:Mod X.K X.mg X.base
 kind:X.env.scope.kind=.function
 glob:X.env.globals=M7
 blt:X.env.builtins=vH
 above:X.xC.heap.objs.size<=X.env.locals
 inj:∀x y c,X.env.cells.lookup x=some c->X.env.cells.lookup y=some c->x=y
 has:∀x,(X.env.kindOf x=some .cell\/X.env.kindOf x=some .free)->∃c,X.env.cells.lookup x=some c
 cab:∀x c,X.fn x=true->X.env.cells.lookup x=some c->X.xC.heap.objs.size<=c
 hd:X.calm=true->X.A.handled=none
 frames:X.A.frames=some X.stack
 stk:X.stack=X.outer\/(X.stack=X.env::X.outer/\X.env.frame=some X.env.locals)
 exf:∀b∈X.ex,b≠X.env.locals/\∀x c,X.env.cells.lookup x=some c->c≠b
 bs:∀b o,X.base.get? b=some o->X.xC.heap.get? b=some o/\X.H₀ b=none
 bsz:X.base.objs.size<=X.xC.heap.objs.size
 zAY:∀b o,X.base.get? b=some o->b∉X.ex
 zAy:∀b∈X.ex,b∉X.fs
 yO:X.xC.heap.FunFrames X.base X.outer
 frf:∀b∈X.fs,X.H₀ b=none
structure Inv (X:Cx) (pins:List (B3×Obj)) (σ:List (Option V)) (H:Hp) (s:A7):Prop where
 ok:X.Ok
 os:s.os=X.xC.os
 bare:qf s.gens
 base:Un X.fs X.ex X.H₀ H X.xC.heap s.heap
 loc:∃m,s.heap.Ns X.env.locals m/\∀(i:Nat) (x:Str) (v:V),X.N[i]?=some x->σ[i]?=some (some v)->nO X.env.scope x->∃u,RelV v u/\Look X.env s.heap m x u
 cell:∀x c,X.env.cells.lookup x=some c->∃v,s.heap.IsCell c v
 free:H X.env.locals=none
 xQ:∀x c,X.env.cells.lookup x=some c->H c=none
 pin:∀p∈X.pn++pins,s.heap.get? p.1=some p.2/\H p.1=none/\p.1≠X.env.locals/\p.1∉X.fs/\∀v,p.2.data≠.cell v
 wj:FY X.prog X.w H s.heap
 len:σ.length=X.N.length
variable {t' i:Nat} {x:Str} {v:V} {u:Value}
section
variable {X:Cx} {pins:List (B3×Obj)} {σ:List (Option V)} {H H':Hp} {s:A7} {h':H9}
theorem Cx.Ok.zDQ(ok:X.Ok){o:Obj}(e:X.base.get? b=some o):b∉X.fs:=fun hb=>by
 have:=(ok.yO.mem hb).1;rw[e] at this;cases this
theorem Inv.bs(I:Inv X pins σ H s):∀b o,X.base.get? b=some o->s.heap.get? b=some o/\H b=none:=fun b o e =>
 ⟨I.base.keep b o (I.ok.bs b o e).1 (I.ok.bs b o e).2 (I.ok.zDQ e) (I.ok.zAY b o e),I.base.free b o (I.ok.bs b o e).1 (I.ok.bs b o e).2 (I.ok.zAY b o e)⟩
theorem Inv.bk(I:Inv X pins σ H s):∀b o,X.base.get? b=some o->s.heap.get? b=some o:=fun b o e=>(I.bs b o e).1
theorem Inv.mod(I:Inv X pins σ H s):Mod X.K X.mg X.base:=I.ok.mod
theorem Inv.yK(I:Inv X pins σ H s):X.K.In s.heap:=I.ok.mod.kin.keeps I.bk
theorem Inv.fr(I:Inv X pins σ H s):∃m,Fr X.base X.env.locals s.heap m:=
 let ⟨m,hn,_⟩:=I.loc
 ⟨m,hn,I.bk,C4 I.ok.bsz I.ok.above⟩
theorem Inv.lt(I:Inv X pins σ H s):X.env.locals < s.heap.objs.size:=let ⟨_,hn,_⟩:=I.loc;hn.lt
theorem Inv.sz(I:Inv X pins σ H s):X.xC.heap.objs.size<=s.heap.objs.size:=C4 I.ok.above (Q8 I.lt)
theorem Inv.zCZ(I:Inv X pins σ H s)(h:s.heap.objs.size<=a):a∉X.fs:=fun hb=>by
 obtain⟨_,o,ho,_⟩:=I.ok.yO.mem hb;exact absurd (C7 (C0 ho) (C4 I.sz h)) (P9 _)
theorem Inv.cne(I:Inv X pins σ H s):∀x c,X.env.cells.lookup x=some c->c≠X.env.locals:=fun x c e z=>by
 obtain⟨v,o,ho,hd⟩:=I.cell x c e;obtain⟨m,⟨o',es,ep,zo,z9,_⟩,_⟩:=I.loc;rw[z,zo] at ho;cases ho;rw[z9] at hd;cases hd
theorem Inv.yO(I:Inv X pins σ H s):s.heap.FunFrames X.base X.outer:=by
 have all:∀(l:List Env),(∀b∈RW l,b∈X.fs)->X.xC.heap.FunFrames X.base l->s.heap.FunFrames X.base l:=by
  intro l
  induction l with
  | nil=>intro _ _;trivial
  | cons env r ih =>
   intro hs hl;obtain⟨hk,⟨L,o,hf,hn,ho,hd⟩,hr⟩:=hl;have hL:L∈X.fs:=hs L (by unfold RW;rw[X2,hf];exact B1);obtain⟨sl,e⟩:=I.base.slot L o ho (I.ok.frf L hL) hL fun z=>I.ok.zAy L z hL
   exact⟨hk,⟨L,_,hf,hn,e,hd⟩,ih (fun b hb=>hs b (by unfold RW;rw[X2,hf];exact A9 _ hb)) hr⟩
 exact all X.outer (fun _ hb=>hb) I.ok.yO
theorem Inv.stack(I:Inv X pins σ H s):s.heap.FunFrames X.base X.stack:=by
 rcases I.ok.stk with e | ⟨e,hf⟩
 ·rw[e];exact I.yO
 ·rw[e];obtain⟨m,hn,_⟩:=I.loc;refine .cons (by rw[I.ok.kind];decide) hf hn ?_ I.yO;exact Heap.get?_none_of_le (C4 I.ok.bsz I.ok.above)
theorem Inv.yH(I:Inv X pins σ H s):∀b∈RW X.stack,b∈X.env.locals::X.fs:=fun b hb=>by
 rcases I.ok.stk with e | ⟨e,hf⟩
 ·rw[e] at hb;exact A9 _ hb
 ·rw[e] at hb;unfold RW at hb;rw[X2,hf] at hb;exact hb
theorem Inv.zAL(I:Inv X pins σ H s):∀b∈RW X.stack,H b=none:=fun b hb=>by
 rcases C8.mp (I.yH b hb) with e | hb
 ·rw[e];exact I.free
 ·obtain⟨_,o,ho,_⟩:=I.ok.yO.mem hb;exact I.base.free b o ho (I.ok.frf b hb) fun z=>I.ok.zAy b z hb
theorem Inv.step{g':Array vI}{t':Nat}{d':Drawn}{ch:List B3}(I:Inv X pins σ H s)
    (hch:∀b∈ch,(b∈X.ex\/X.xC.heap.objs.size<=b)/\b≠X.env.locals/\(∀x c,X.env.cells.lookup x=some c->c≠b)/\∀p∈X.pn++pins,p.1≠b)
    (keep:∀b o,b≠X.env.locals->b∉X.fs->b∉ch->s.heap.get? b=some o->H b=none->h'.get? b=some o)
    (slot:∀b o,b≠X.env.locals->b∈X.fs->b∉ch->s.heap.get? b=some o->H b=none->∃sl,h'.get? b=some { o with slots:=sl }) (free:∀b o,b∉ch->s.heap.get? b=some o->H b=none->H' b=none)
    (there:∀b o,b∉ch->s.heap.get? b=some o->∃o',h'.get? b=some o')
    (zK:∀b xs,H b=some (.tup xs)->H' b=some (.tup xs)) (y8:∀b o u,H b=some (.frz o u)->H' b=some (.frz o u)) (zL:∀b ps,H b=some (.tbl ps)->∃more,H' b=some (.tbl (ps++more)))
    (ns:∀m,s.heap.Ns X.env.locals m->h'.Ns X.env.locals m) (wj:FY X.prog X.w H' h') (hg:qf g') :
    Inv X pins σ H' { s with heap:=h',gens:=g',drawn:=d',toks:=t' }:=by
  have neL:∀b o,X.xC.heap.get? b=some o->b≠X.env.locals:=fun b o e=>D1 (C7 (C0 e) I.ok.above)
  have neC:∀b o,X.xC.heap.get? b=some o->b∉X.ex->b∉ch:=fun b o e hx hb=>by
    rcases(hch b hb).1 with z | z
    · exact hx z
    · exact absurd (C7 (C0 e) z) (P9 _)
  have cellK:∀x c,X.env.cells.lookup x=some c->∀v,s.heap.IsCell c v->h'.IsCell c v:=fun x c e v ⟨o,ho,hd⟩=>by
    have nch:c∉ch:=fun z=>(hch c z).2.2.1 x c e rfl
    by_cases hc:c∈X.fs
    · obtain⟨sl,q⟩:=slot c o (I.cne x c e) hc nch ho (I.xQ x c e);exact⟨_,q,hd⟩
    · exact⟨o,keep c o (I.cne x c e) hc nch ho (I.xQ x c e),hd⟩
  refine⟨I.ok,I.os,hg,⟨fun b o e n hb hx=>?_,fun b o e n hb hx=>?_,fun b o e n hx=>?_,fun b o e hx=>?_,fun b xs e=>zK b xs (I.base.zK b xs e),fun b o xs e=>y8 b o xs (I.base.y8 b o xs e),fun b ps e=>?_⟩,?_,fun x c e=>?_,?_,fun x c e=>?_,fun p hp=>?_,wj,I.len⟩
  · exact keep b o (neL b o e) hb (neC b o e hx) (I.base.keep b o e n hb hx) (I.base.free b o e n hx)
  · obtain⟨sl,e1⟩:=I.base.slot b o e n hb hx;obtain⟨sl',e2⟩:=slot b _ (neL b o e) hb (neC b o e hx) e1 (I.base.free b o e n hx);exact⟨sl',e2⟩
  · obtain⟨o',e1⟩:=I.base.there b o e hx;exact free b o' (neC b o e hx) e1 (I.base.free b o e n hx)
  · obtain⟨o',e1⟩:=I.base.there b o e hx;exact there b o' (neC b o e hx) e1
  · obtain⟨m1,e1⟩:=I.base.zL b ps e;obtain⟨m2,e2⟩:=zL b _ e1;exact⟨m1++m2,by rw[e2,Array.append_assoc]⟩
  · obtain⟨m,hn,hl⟩:=I.loc;refine⟨m,ns m hn,fun i x v e1 e2 e3=>?_⟩;obtain⟨u,r,l⟩:=hl i x v e1 e2 e3;refine⟨u,r,?_⟩;rcases l with l | ⟨k,c,e,z⟩
    · exact .inl l
    · exact .inr ⟨k,c,e,cellK x c e _ z⟩
  · obtain⟨v,z⟩:=I.cell x c e;exact⟨v,cellK x c e v z⟩
  · obtain⟨m,⟨o,_,_,ho,_⟩,_⟩:=I.loc;exact free _ o (fun z=>(hch _ z).2.1 rfl) ho I.free
  · obtain⟨v,o,ho,hd⟩:=I.cell x c e;exact free c o (fun z=>(hch c z).2.2.1 x c e rfl) ho (I.xQ x c e)
  · obtain⟨e,n,ne,nf,d⟩:=I.pin p hp;have nch:p.1∉ch:=fun z=>(hch p.1 z).2.2.2 p hp rfl
    exact⟨keep p.1 p.2 ne nf nch e n,free p.1 p.2 nch e n,ne,nf,d⟩
theorem Inv.un(I:Inv X pins σ H s)(u:Un X.fs [] H H' s.heap h')(wj:FY X.prog X.w H' h'):Inv X pins σ H' { s with heap:=h',toks:=t' }:=by
 obtain⟨m,⟨o,es,ep,ho,r⟩,_⟩:=id I.loc;obtain⟨sl,hL⟩:=u.any ho I.free (by simp);exact I.step (g':=s.gens) (d':=s.drawn) (ch:=[]) (fun _ z=>nomatch z) (fun b o _ hb _ e n=>u.keep b o e n hb (by simp)) (fun b o _ hb _ e n=>u.slot b o e n hb (by simp)) (fun b o _ e n=>u.free b o e n (by simp)) (fun b o _ e=>u.there b o e (by simp)) u.zK u.y8 u.zL (fun m' hm=>by
  obtain⟨o',es',ep',zo,r'⟩:=hm;rw[ho] at zo;cases zo;exact⟨_,es',ep',hL,r'⟩) wj I.bare
theorem Inv.call{g':Array vI}{t':Nat}{d':Drawn}{ch:List B3}(I:Inv X pins σ H s)(u:Un (RW X.stack) ch H H' s.heap h')(wj:FY X.prog X.w H' h')(hg:qf g')
    (hch:∀b∈ch,(b∈X.ex\/X.xC.heap.objs.size<=b)/\b≠X.env.locals/\(∀x c,X.env.cells.lookup x=some c->c≠b)/\∀p∈X.pn++pins,p.1≠b) :
    Inv X pins σ H' { s with heap:=h',gens:=g',drawn:=d',toks:=t' }:=by
  obtain⟨m,⟨o,es,ep,ho,r⟩,_⟩:=id I.loc;obtain⟨sl,hL⟩:=u.any ho I.free fun z=>(hch _ z).2.1 rfl
  exact I.step (ch:=ch) hch (fun b o hL hb hc e n=>u.keep b o e n (fun z=>(C8.mp (I.yH b z)).elim hL hb) hc) (fun b o _ _ hc e n=>u.any e n hc) (fun b o hc e n=>u.free b o e n hc) (fun b o hc e=>u.there b o e hc) u.zK u.y8 u.zL (fun m' hm=>by
    obtain⟨o',es',ep',zo,r'⟩:=hm;rw[ho] at zo;cases zo;exact⟨_,es',ep',hL,r'⟩) wj hg
theorem Inv.turned{t':Nat}{it:B3}(I:Inv X pins σ H s)(k:∀b o,b≠it->s.heap.get? b=some o->h'.get? b=some o)(hn:H it=none)(hL:it≠X.env.locals)
    (h1:it∈X.ex\/X.xC.heap.objs.size<=it) (h2:∀x c,X.env.cells.lookup x=some c->c≠it) (h3:∀p∈X.pn++pins,p.1≠it):Inv X pins σ H { s with heap:=h',toks:=t' }:=by
  have nit:∀b u,H b=some u->b≠it:=fun b u e z=>by rw[z,hn] at e;cases e
  refine I.step (g':=s.gens) (d':=s.drawn) (ch:=[it]) (fun b hb=>?_) (fun b o _ _ hc e _=>k b o (fun z=>hc (by simp[z])) e) (fun b o _ _ hc e _=>⟨o.slots,k b o (fun z=>hc (by simp[z])) e⟩) (fun _ _ _ _ n=>n)
    (fun b o hc e=>⟨o,k b o (fun z=>hc (by simp[z])) e⟩) (fun _ _ e=>e) (fun _ _ _ e=>e) (fun b ps e=>⟨#[],by rw[e];simp⟩) (fun m hm=>?_) (fun b u e=>?_) I.bare
  · have e:b=it:=by simpa using hb
    subst e;exact⟨h1,hL,h2,h3⟩
  · obtain⟨o,es,ep,ho,r⟩:=hm;exact⟨o,es,ep,k _ o (Ne.symm hL) ho,r⟩
  · refine(I.wj b u e).zAA (fun c v hc q=>k c v ?_ q) (fun _ q=>q) fun _ _ q=>q
    rcases hc with z | z
    · rw[z];exact nit b u e
    · exact nit c _ z
theorem Inv.tok(I:Inv X pins σ H s)(t:Nat):Inv X pins σ H { s with toks:=t }:=I.un (h':=s.heap) (t':=t) Un.refl I.wj
theorem Inv.kept(I:Inv X pins σ H s)(k:∀b u,s.heap.get? b=some u->h'.get? b=some u):Inv X pins σ H { s with heap:=h',toks:=t' }:=I.un (Un.kept k) (I.wj.kept k)
theorem Inv.laid{t':Nat}(I:Inv X pins σ H s)(k:∀b u,s.heap.get? b=some u->h'.get? b=some u)(hp:s.heap.objs.size<=a)(new:Ab X.prog X.w (upd H a o) h' a o) :
    Inv X pins σ (upd H a o) { s with heap:=h',toks:=t' }:=I.un (Un.laid k hp (I.wj.fresh hp)) (I.wj.laid k hp new)
theorem Inv.write{x e:B3}{o:HO}{t':Nat}(I:Inv X pins σ H s)(mu:jN (H x))(he:e=x\/H e=some (.own x))(k:∀b u,b≠e->s.heap.get? b=some u->h'.get? b=some u)(heo:∃u,h'.get? e=some u)
    (new:Ab X.prog X.w (upd H x o) h' x o):Inv X pins σ (upd H x o) { s with heap:=h',toks:=t' }:=I.un (Un.write mu he k heo) (I.wj.write mu he k heo new)
theorem Inv.weak{σ':List (Option V)}(I:Inv X pins σ H s)(hl:σ'.length=σ.length)(w:∀(i:Nat) v,σ'[i]?=some (some v)->σ[i]?=some (some v)):Inv X pins σ' H s:=
 ⟨I.ok,I.os,I.bare,I.base,let ⟨m,hn,xr⟩:=I.loc;⟨m,hn,fun i x v e1 e2 e3=>xr i x v e1 (w i v e2) e3⟩,I.cell,I.free,I.xQ,I.pin,I.wj,hl.trans I.len⟩
theorem Inv.xh{zBT:List (B3×Obj)}(I:Inv X pins σ H s)(h:∀p∈zBT,s.heap.get? p.1=some p.2/\H p.1=none/\p.1≠X.env.locals/\p.1∉X.fs/\∀v,p.2.data≠.cell v):Inv X zBT σ H s:=
 ⟨I.ok,I.os,I.bare,I.base,I.loc,I.cell,I.free,I.xQ,fun p hp=>(E9.mp hp).elim (fun z=>I.pin p (D7 _ z)) (h p),I.wj,I.len⟩
theorem NM{N:List Str}(hN:N.Nodup){j:Nat}(a:N[i]?=some x)(b:N[j]?=some x):i=j:=by
 obtain⟨h1,e1⟩:=B5.mp a;obtain⟨h2,e2⟩:=B5.mp b;exact(qv hN).mp (e1.trans e2.symm)
theorem KZ{M:Model}{A:I9}{E:Value->A7->Prop}{Q:Unit->A7->Prop}(I:Inv X pins σ H s)(hN:X.N.Nodup)(hi:X.N[i]?=some x)(hx:Loc X.env.scope x)(r:RelV v u)
    (h:∀s',Inv X pins (σ.set i (some v)) H s'->(∃a,K9 a s.heap s'.heap/\(a=X.env.locals\/X.env.cells.lookup x=some a))->Q () s') (hf:X.fn x=true\/X.env.scope.names.lookup x=some .local:=by first | exact .inl rfl | exact .inr rfl | assumption):B6 M A (storeName X.env x u) Q E s:=by
  obtain⟨m,hn,hl⟩:=id I.loc;have zDq:(X.env.scope.kind == .class || (X.env.scope.kind == .module && X.env.locals != X.env.globals))=false:=by rw[I.ok.kind];rfl
  have zCn:i < σ.length:=by rw[I.len];exact(B5.mp hi).1
  have cne:=I.cne;have tracked:∀{a:B3} {h':H9},(∃o,s.heap.get? a=some o/\H a=none)->K9 a s.heap h'->FY X.prog X.w H h':=fun{a h'} ha hs b ob e=>by
    obtain⟨_,_,zBY⟩:=ha;refine(I.wj b ob e).zAA (fun c w' hc q=>(hs.2 c ?_).trans q) (fun _ q=>q) fun _ _ q=>q
    rintro rfl;rcases hc with rfl | hc
    · rw[zBY] at e;cases e
    · rw[zBY] at hc;cases hc
  rcases hx with hk | hk
  · refine wpAny_storeName_local hk hn (fun h' hn' hs=>?_) zDq;obtain⟨oL,_,_,hoL,_⟩:=id hn;refine h _ ⟨I.ok,I.os,I.bare,⟨fun b o e n hb hx=>?_,fun b o e n hb hx=>?_,I.base.free,fun b o e hx=>?_,I.base.zK,I.base.y8,I.base.zL⟩,⟨_,hn',fun j y v' e1 e2 e3=>?_⟩,fun y c e=>?_,I.free,I.xQ,fun p hp=>?_,tracked ⟨oL,hoL,I.free⟩ hs,by simpa using I.len⟩ ⟨_,hs,.inl rfl⟩
    · exact(hs.2 b (D1 (C7 (C0 e) I.ok.above))).trans (I.base.keep b o e n hb hx)
    · obtain⟨sl,e1⟩:=I.base.slot b o e n hb hx;exact⟨sl,(hs.2 b (D1 (C7 (C0 e) I.ok.above))).trans e1⟩
    · obtain⟨o',e1⟩:=I.base.there b o e hx;exact⟨o',(hs.2 b (D1 (C7 (C0 e) I.ok.above))).trans e1⟩
    · by_cases hj:j=i
      · subst hj;rw[hi] at e1;cases e1;rw[F9 zCn] at e2;cases e2;exact⟨u,r,.inl ⟨hk,by simp⟩⟩
      · rw[E3 (Ne.symm hj)] at e2;obtain⟨u',r',q⟩:=hl j y v' e1 e2 e3;refine⟨u',r',?_⟩;rcases q with⟨k,e⟩ | ⟨k,c,e,z⟩
        · refine .inl ⟨k,?_⟩;have:y≠x:=fun e=>hj (NM hN e1 (e▸hi))
          simp[this,e]
        · exact .inr ⟨k,c,e,z.sameBut hs (cne y c e)⟩
    · obtain⟨w',z⟩:=I.cell y c e;exact⟨w',z.sameBut hs (cne y c e)⟩
    · obtain⟨e,n,ne,nf,d⟩:=I.pin p hp;exact⟨(hs.2 p.1 ne).trans e,n,ne,nf,d⟩
  · have hfn:X.fn x=true:=by
      rcases hf with z | z
      · exact z
      · rw[z] at hk;cases hk
    obtain⟨c,hc⟩:=I.ok.has x (.inl hk);obtain⟨w',z⟩:=I.cell x c hc;refine wpAny_storeName_cell I.ok.kind hk hc z (fun h' hc' hs=>?_);obtain⟨oc,hoc,zDf⟩:=id z;refine h { s with heap:=h' } ⟨I.ok,I.os,I.bare,⟨fun b o e n hb hx=>?_,fun b o e n hb hx=>?_,I.base.free,fun b o e hx=>?_,I.base.zK,I.base.y8,I.base.zL⟩,⟨m,hn.sameBut hs (Ne.symm (cne x c hc)),fun j y v' e1 e2 e3=>?_⟩,fun y c' e=>?_,I.free,I.xQ,fun p hp=>?_,tracked ⟨oc,hoc,I.xQ x c hc⟩ hs,by simpa using I.len⟩ ⟨c,hs,.inr hc⟩
    · exact(hs.2 b (D1 (C7 (C0 e) (I.ok.cab x c hfn hc)))).trans (I.base.keep b o e n hb hx)
    · obtain⟨sl,e1⟩:=I.base.slot b o e n hb hx;exact⟨sl,(hs.2 b (D1 (C7 (C0 e) (I.ok.cab x c hfn hc)))).trans e1⟩
    · obtain⟨o',e1⟩:=I.base.there b o e hx;exact⟨o',(hs.2 b (D1 (C7 (C0 e) (I.ok.cab x c hfn hc)))).trans e1⟩
    · by_cases hj:j=i
      · subst hj;rw[hi] at e1;cases e1;rw[F9 zCn] at e2;cases e2;exact⟨u,r,.inr ⟨.inl hk,c,hc,hc'⟩⟩
      · rw[E3 (Ne.symm hj)] at e2;obtain⟨u',r',q⟩:=hl j y v' e1 e2 e3;refine⟨u',r',?_⟩;rcases q with q | ⟨k,c',e,z'⟩
        · exact .inl q
        · refine .inr ⟨k,c',e,z'.sameBut hs ?_⟩;rintro rfl;exact hj (NM hN e1 (I.ok.inj _ _ _ e hc▸hi))
    · by_cases hcc:c'=c
      · subst hcc;exact⟨_,hc'⟩
      · obtain⟨w2,z2⟩:=I.cell y c' e;exact⟨w2,z2.sameBut hs hcc⟩
    · obtain⟨e,n,ne,nf,d⟩:=I.pin p hp;refine⟨(hs.2 p.1 ?_).trans e,n,ne,nf,d⟩;intro q;rw[q,hoc] at e;have q':oc=p.2:=D5 e;exact d w' (by rw[<- q'];exact zDf)
theorem Ff{M:Model}{A:I9}{E:Value->A7->Prop}{Q:Unit->A7->Prop}(I:Inv X pins σ H s)(hN:X.N.Nodup)(hi:X.N[i]?=some x)(hx:Loc X.env.scope x)(r:RelV v u)
    (h:∀s',Inv X pins (σ.set i (some v)) H s'->Q () s') (hf:X.fn x=true\/X.env.scope.names.lookup x=some .local:=by first | exact .inl rfl | exact .inr rfl | assumption):B6 M A (storeName X.env x u) Q E s:=
  KZ I hN hi hx r (fun s' I' _=>h s' I') hf
theorem Inv.zCz{s':A7}{ch:List B3}(I:Inv X pins σ H s)(ho:s'.os=s.os)(u:Un (RW X.stack) ch H H' s.heap s'.heap)(wj:FY X.prog X.w H' s'.heap)(hg:qf s'.gens)
    (hch:∀b∈ch,(b∈X.ex\/X.xC.heap.objs.size<=b)/\b≠X.env.locals/\(∀x c,X.env.cells.lookup x=some c->c≠b)/\∀p∈X.pn++pins,p.1≠b):Inv X pins σ H' s':=by
  obtain⟨h',g',d',t',o'⟩:=s';have e:o'=s.os:=ho;subst e;exact I.call (g':=g') (t':=t') (d':=d') u wj hg hch
end
abbrev XK:=Value->Option B3->Hp->Prop
noncomputable abbrev St:=List (Option V)
abbrev VK:=V->Hp->Prop
abbrev TE:=St->Hp->VK->Prop
abbrev TT:=St->Hp->(Bool->Hp->Prop)->Prop
abbrev TA:=St->Hp->(List V->Hp->Prop)->Prop
structure Ends where
 nx:St->Hp->Prop
 rt:VK
 bk:St->Hp->Prop:=fun _ _=>False
 ct:St->Hp->Prop:=fun _ _=>False
abbrev TS:=Ends->St->Hp->Prop
def EP(X:Cx)(pins:List (B3×Obj))(σ:St)(Q:VK)(u:Value)(s':A7):Prop:=∃v H',Inv X pins σ H' s'/\RelV v u/\Q v H'
def TP(X:Cx)(pins:List (B3×Obj))(σ:St)(Q:Bool->Hp->Prop)(b:Bool)(s':A7):Prop:=∃H',Inv X pins σ H' s'/\Q b H'
def AP(X:Cx)(pins:List (B3×Obj))(σ:St)(Q:List V->Hp->Prop)(us:List Value)(s':A7):Prop:=∃vs H',Inv X pins σ H' s'/\AF vs us/\Q vs H'
def SP(X:Cx)(pins:List (B3×Obj))(D:Ends)(f:Flow)(s':A7):Prop:=
 match f with
 | .next=>∃σ' H',Inv X pins σ' H' s'/\D.nx σ' H'
 | .brk=>∃σ' H',Inv X pins σ' H' s'/\D.bk σ' H'
 | .cont=>∃σ' H',Inv X pins σ' H' s'/\D.ct σ' H'
 | .ret u=>∃v σ' H',Inv X pins σ' H' s'/\RelV v u/\D.rt v H'
def PE(X:Cx)(e:Expr)(t:TE):Prop:=
 ∀(pins:List (B3×Obj)) (s:A7) (σ:St) (H:Hp) (Q:VK),Inv X pins σ H s->t σ H Q->B6 (D4 X.prog X.w) X.A (M8 e X.env) (EP X pins σ Q) X.xe s
def PT(X:Cx)(e:Expr)(t:TT):Prop:=
 ∀(pins:List (B3×Obj)) (s:A7) (σ:St) (H:Hp) (Q:Bool->Hp->Prop),Inv X pins σ H s->t σ H Q->B6 (D4 X.prog X.w) X.A (isTrue e X.env (M8 e X.env)) (TP X pins σ Q) X.xe s
def PW(X:Cx)(e:Expr)(t:TT):Prop:=
 ∀(whole:Sem Value) (pins:List (B3×Obj)) (s:A7) (σ:St) (H:Hp) (Q:Bool->Hp->Prop),Inv X pins σ H s->t σ H Q->B6 (D4 X.prog X.w) X.A (isTrue e X.env whole) (TP X pins σ Q) X.xe s
variable {X:Cx} {e:Expr}
theorem PW.pt{t:TT}(h:PW X e t):PT X e t:=h _
def PA(X:Cx)(es:List Expr)(t:TA):Prop:=
 ∀(pos:Pos) (pins:List (B3×Obj)) (s:A7) (σ:St) (H:Hp) (Q:List V->Hp->Prop),Inv X pins σ H s->t σ H Q->B6 (D4 X.prog X.w) X.A (sU (M6 pos (D2 es X.env))) (AP X pins σ Q) X.xe s
def PS(X:Cx)(st:N2)(t:TS):Prop:=
 ∀(pins:List (B3×Obj)) (s:A7) (σ:St) (H:Hp) (D:Ends),Inv X pins σ H s->t D σ H->B6 (D4 X.prog X.w) X.A (exec st X.env) (SP X pins D) X.xe s
def Ee(X:Cx)(st:List N2)(t:TS):Prop:=
 ∀(pins:List (B3×Obj)) (s:A7) (σ:St) (H:Hp) (D:Ends),Inv X pins σ H s->t D σ H->B6 (D4 X.prog X.w) X.A (execs st X.env) (SP X pins D) X.xe s
variable {M:Model} {A:I9} {E:Value->A7->Prop} {s:A7}
theorem Aw{α:Type}{t:Sem α}{Q Q':α->A7->Prop}(h:B6 M A t Q E s)(hQ:∀a s,Q a s->Q' a s):B6 M A t Q' E s:=V0 h hQ fun _ _ x=>x
variable {pins:List (B3×Obj)} {pos:Pos} {Q:Value->A7->Prop}
section
variable {X:Cx}
theorem bin{a b:Expr}{ta tb:TE}(ha:PE X a ta)(hb:PE X b tb){σ:St}{R:V->V->Hp->Prop}(I:Inv X pins σ H s)(h:ta σ H fun x H1=>tb σ H1 fun y H2=>R x y H2)
    {α:Type} {Q:α->A7->Prop} {f:Value->Value->Sem α}
    (hf:∀v u s2 x y H2,Inv X pins σ H2 s2->RelV x v->RelV y u->R x y H2->B6 (D4 X.prog X.w) X.A (f v u) Q X.xe s2) :
    B6 (D4 X.prog X.w) X.A (M8 a X.env) (fun v wa=>B6 (D4 X.prog X.w) X.A (M8 b X.env) (fun u xv=>B6 (D4 X.prog X.w) X.A (f v u) Q X.xe xv) X.xe wa) X.xe s:=by
  refine Aw (ha pins s σ H _ I h) fun v s1 ⟨x,H1,I1,r1,q1⟩=>?_
  refine Aw (hb pins s1 σ H1 _ I1 q1) fun u s2 ⟨y,H2,I2,r2,q2⟩=>?_
  exact hf v u s2 x y H2 I2 r1 r2 q2
abbrev FM(i:Nat):TE:=fun σ H Q=>∃v,σ[i]?=some (some v)/\Q v H
abbrev tC(v:V):TE:=fun _ H Q=>Q v H
theorem fP(hN:X.N[i]?=some x)(hv:nO X.env.scope x)(hd:(x == ("__debug__" : Str))=false:=by decide)(hcd:(x == ("__classdict__" : Str))=false:=by decide):PE X (.Name x pos) (FM i):=by
 intro pins s σ H Q I h;obtain⟨v,e,h⟩:=h;obtain⟨m,hn,hl⟩:=I.loc;obtain⟨u,r,l⟩:=hl i x v hN e hv;have fin:EP X pins σ Q u s:=⟨v,H,I,r,h⟩;rcases l with⟨hk,hm⟩ | ⟨hk,c,hc,zG⟩
 ·exact vJ (wpAny_loadName_local I.ok.kind hk hn hm fin) hd
 ·rcases hk with hk | hk
  ·exact vJ (wpAny_loadName_cell I.ok.kind hk hc zG fin) hd
  ·exact vJ (wpAny_loadName_free I.ok.kind hk hc zG fin hcd) hd
theorem fW{i j pos}:PE X (.Constant (.int i) j pos) (tC (.int i)):=fun _ _ _ H _ I h=>wpAny_Constant_int ⟨.int i,H,I.tok _,⟨_,rfl⟩,h⟩
theorem kq{b j pos}:PE X (.Constant (.bool b) j pos) (tC (.bl b)):=fun _ _ _ H _ I h=>Constant_bool ⟨.bl b,H,I,rfl,h⟩
theorem fU{j pos}:PE X (.Constant .none j pos) (tC .we):=fun _ _ _ H _ I h=>Constant_none ⟨.we,H,I,rfl,h⟩
theorem fR{x j pos}:PE X (.Constant (.str x) j pos) (tC (.str x)):=fun _ _ _ H _ I h=>sv ⟨.str x,H,I.tok _,⟨_,rfl⟩,h⟩
def Gl(X:Cx)(x:Str):Prop:=X.env.kindOf x=some .globalImplicit
theorem Fv{E:Value->A7->Prop}{σ:St}{pos:Pos}(I:Inv X pins σ H s)(hg:Gl X x)(hm:X.mg x=some u)(h:Q u s)
    (hd:(x == ("__debug__" : Str))=false:=by decide):B6 (D4 X.prog X.w) X.A (M8 (.Name x pos) X.env) Q E s:=
  o5 I.ok.kind hg (Calls.loadGlobal_global (by rw[I.ok.glob];exact I.mod.glob.keeps I.bk) hm h) hd
theorem CH{E:Value->A7->Prop}{σ:St}{pos:Pos}(I:Inv X pins σ H s)(hg:Gl X x)(hm:X.mg x=none)(hv:O0 x=some u)(h:Q u s)
    (hn:x ≠ "__name__" := by decide) (hd:(x == ("__debug__" : Str))=false:=by decide):B6 (D4 X.prog X.w) X.A (M8 (.Name x pos) X.env) Q E s:=by
  obtain⟨mb,h1,h2⟩:=I.mod.blt;exact o5 I.ok.kind hg (Calls.loadGlobal_builtin (by rw[I.ok.glob];exact I.mod.glob.keeps I.bk) hm (by rw[I.ok.blt];exact h1.keeps I.bk) ((h2 x hn).trans hv) h) hd
theorem Zl(hg:Gl X x)(hm:X.mg x=some u)(r:RelV v u)(hd:(x == ("__debug__" : Str))=false:=by decide):PE X (.Name x pos) (tC v):=
 fun _ _ _ H _ I h=>Fv I hg hm ⟨v,H,I,r,h⟩ hd
theorem Zo(hg:Gl X x)(hm:X.mg x=none)(hv:O0 x=some u)(r:RelV v u)(hn:x ≠ "__name__" := by decide)(hd:(x == ("__debug__" : Str))=false:=by decide):PE X (.Name x pos) (tC v):=
 fun _ _ _ H _ I h=>CH I hg hm hv ⟨v,H,I,r,h⟩ hn hd
variable {a b:Expr} {ta tb:TE} {pos:Pos}
variable {tA cB:TT} {rest:List Expr}
abbrev jg(t u:TT):TT:=fun σ H Q=>t σ H fun c H1=>if c=true then u σ H1 Q else Q false H1
abbrev pJ(t u:TT):TT:=fun σ H Q=>t σ H fun c H1=>if c=true then Q true H1 else u σ H1 Q
abbrev jY(t:TT):TT:=fun σ H Q=>t σ H fun c H1=>Q (!c) H1
theorem ZS(ha:PT X a tA):PW X (.BoolOp .And [a] pos) tA:=by
 intro wh pins s σ H Q I h;refine isTrue_and (Aw (ha pins s σ H Q I h) fun c s1 e=>?_);cases c with
 | true=>exact isTrue_and_nil e
 | false=>exact e
theorem eZ(ha:PT X a tA):PW X (.BoolOp .Or [a] pos) tA:=by
 intro wh pins s σ H Q I h;refine isTrue_or (Aw (ha pins s σ H Q I h) fun c s1 e=>?_);cases c with
 | false=>exact isTrue_or_nil e
 | true=>exact e
theorem ee(ha:PT X a tA)(hb:PW X (.BoolOp .And (b::rest) pos) cB):PW X (.BoolOp .And (a::b::rest) pos) (jg tA cB):=by
 intro wh pins s σ H Q I h;refine isTrue_and (Aw (ha pins s σ H _ I h) fun c s1 ⟨H1,I1,q1⟩=>?_);cases c with
 | true=>exact hb wh pins s1 σ H1 Q I1 q1
 | false=>exact⟨H1,I1,q1⟩
theorem kc(ha:PT X a tA)(hb:PW X (.BoolOp .Or (b::rest) pos) cB):PW X (.BoolOp .Or (a::b::rest) pos) (pJ tA cB):=by
 intro wh pins s σ H Q I h;refine isTrue_or (Aw (ha pins s σ H _ I h) fun c s1 ⟨H1,I1,q1⟩=>?_);cases c with
 | true=>exact⟨H1,I1,q1⟩
 | false=>exact hb wh pins s1 σ H1 Q I1 q1
theorem ef(ha:PT X a tA):PT X (.UnaryOp .Not a pos) (jY tA):=by
 intro pins s σ H Q I h;exact isTrue_not (ha pins s σ H (fun c H1=>Q (!c) H1) I h)
abbrev cC(ta tb:TE):TE:=fun σ H Q=>ta σ H fun x H1=>∃c,x=.bl c/\if c=true then tb σ H1 Q else Q (.bl false) H1
abbrev jW(ta tb:TE):TE:=fun σ H Q=>ta σ H fun x H1=>∃c,x=.bl c/\if c=true then Q (.bl true) H1 else tb σ H1 Q
abbrev bw(ta:TE):TE:=fun σ H Q=>ta σ H fun x H1=>∃c,x=.bl c/\Q (.bl (!c)) H1
theorem fS{op}{t:TE}(h:PE X a t):PE X (.BoolOp op [a] pos) t:=fun pins s σ H Q I hw=>BoolOp_one (h pins s σ H Q I hw)
theorem fY(ha:PE X a ta)(hb:PE X (.BoolOp .And (b::rest) pos) tb):PE X (.BoolOp .And (a::b::rest) pos) (cC ta tb):=by
 intro pins s σ H Q I h;refine BoolOp_and (Aw (ha pins s σ H _ I h) fun v s1 ⟨x,H1,I1,r1,q1⟩=>?_);obtain⟨c,rfl,q1⟩:=q1;cases r1;refine Q5 ?_;cases c with
 | true=>exact hb pins s1 σ H1 Q I1 q1
 | false=>exact⟨.bl false,H1,I1,rfl,q1⟩
theorem kl(ha:PE X a ta)(hb:PE X (.BoolOp .Or (b::rest) pos) tb):PE X (.BoolOp .Or (a::b::rest) pos) (jW ta tb):=by
 intro pins s σ H Q I h;refine BoolOp_or (Aw (ha pins s σ H _ I h) fun v s1 ⟨x,H1,I1,r1,q1⟩=>?_);obtain⟨c,rfl,q1⟩:=q1;cases r1;refine Q5 ?_;cases c with
 | false=>exact hb pins s1 σ H1 Q I1 q1
 | true=>exact⟨.bl true,H1,I1,rfl,q1⟩
theorem fT(ha:PE X a ta):PE X (.UnaryOp .Not a pos) (bw ta):=by
 intro pins s σ H Q I h;refine UnaryOp_ (Aw (ha pins s σ H _ I h) fun v s1 ⟨x,H1,I1,r1,q1⟩=>?_);obtain⟨c,rfl,q1⟩:=q1;cases r1;exact not_of (Q5 ⟨.bl (!c),H1,I1,rfl,q1⟩)
end
def Cy(K:W.Frag)(H:Hp)(a:B3)(xs:List V):Prop:=
 Rd H a (.lst xs) \/
  ∃(o:Obj) (its:Array Value) (n:Nat),K.lookup a=some o/\o.cls=.type "list" /\ o.dict=none/\o.data=.seq its n/\its.size<=sizeLine/\AF xs its.toList
def De(K:W.Frag)(H:Hp)(a:B3)(xs:List V):Prop:=
 Rd H a (.tup xs) \/
  ∃(o:Obj) (its:Array Value) (n:Nat),K.lookup a=some o/\o.cls=.type "tuple" /\ o.data=.seq its n/\its.size<=sizeLine/\AF xs its.toList
noncomputable def om:Value->Option V
 | .none=>some .we
 | .bool b=>some (.bl b)
 | .int i _=>some (.int i)
 | .str x _=>some (.str x)
 | .bytes b _=>some (.byt b)
 | .float b _=>some (.flt b)
 | .ref a=>some (.ref a)
 | .type n=>some (.ty n)
 | _=>none
theorem RelV.abs{x:V}(r:RelV x u):om u=some x:=by
 cases x with
 | we=>cases r;rfl
 | bl _=>cases r;rfl
 | int _=>obtain⟨t,rfl⟩:=r;rfl
 | str _=>obtain⟨t,rfl⟩:=r;rfl
 | byt _=>obtain⟨t,rfl⟩:=r;rfl
 | flt _=>obtain⟨t,rfl⟩:=r;rfl
 | ref _=>cases r;rfl
 | ty _=>cases r;rfl
theorem RelV.inj{x y:V}(r:RelV x u)(q:RelV y u):x=y:=D5 (r.abs.symm.trans q.abs)
theorem AF.inj:∀{xs ys:List V} {us:List Value},AF xs us->AF ys us->xs=ys
 | _,_,_,.nil,.nil=>rfl
 | _,_,_,.cons r t,.cons r' t'=>by rw[r.inj r',AF.inj t t']
section
variable {X:Cx} {pins:List (B3×Obj)} {σ:St} {H:Hp} {s:A7} {a:B3} {xs ys:List V}
theorem Inv.list(I:Inv X pins σ H s)(h:Cy X.K H a xs):∃its:List Value,AF xs its/\PlainL s.heap a its.toArray/\xs.length<=sizeLine:=by
 rcases h with h | ⟨o,its,n,hk,hc,hd,hs,hz,r⟩
 ·obtain⟨z,its,n,r,e⟩:=h.ok I.wj;exact⟨its,r,⟨_,n,e,rfl,rfl,rfl⟩,z⟩
 ·refine⟨its.toList,r,⟨o,n,I.yK a o hk,hc,hd,by simpa using hs⟩,?_⟩;have e:=r.length;simp only[l7] at e;omega
theorem Inv.tuple(I:Inv X pins σ H s)(h:De X.K H a xs):∃its:List Value,AF xs its/\IsTup s.heap a its.toArray/\xs.length<=sizeLine:=by
 rcases h with h | ⟨o,its,n,hk,hc,hs,hz,r⟩
 ·obtain⟨z,its,r,p⟩:=h.ok I.wj;exact⟨its,r,p.tup,z⟩
 ·refine⟨its.toList,r,⟨o,I.yK a o hk,hc,n,by simpa using hs⟩,?_⟩;have e:=r.length;simp only[l7] at e;omega
theorem Inv.yo(I:Inv X pins σ H s)(h:Cy X.K H a xs)(h':Cy X.K H a ys):xs=ys:=by
 obtain⟨its,r,⟨o,n,e,_,_,d⟩,_⟩:=I.list h;obtain⟨its',r',⟨o',n',e',_,_,d'⟩,_⟩:=I.list h';rw[e] at e';cases e';rw[d] at d';injection d' with d1 _
 have:its=its':=by simpa using congrArg vt d1
 subst this;exact r.inj r'
theorem Inv.yG(I:Inv X pins σ H s)(h:De X.K H a xs)(h':De X.K H a ys):xs=ys:=by
 obtain⟨its,r,⟨o,e,_,n,d⟩,_⟩:=I.tuple h;obtain⟨its',r',⟨o',e',_,n',d'⟩,_⟩:=I.tuple h';rw[e] at e';cases e';rw[d] at d';injection d' with d1 _
 have:its=its':=by simpa using congrArg vt d1
 subst this;exact r.inj r'
end
noncomputable abbrev Cx.yz(X:Cx)(E:Value->A7->Prop):Cx:={ X with xe:=E }
noncomputable abbrev Cx.nox(X:Cx):Cx:=X.yz fun _ _=>False
theorem Cx.Ok.yz(ok:X.Ok)(E:Value->A7->Prop):(X.yz E).Ok:=
 ⟨ok.mod,ok.kind,ok.glob,ok.blt,ok.above,ok.inj,ok.has,ok.cab,ok.hd,ok.frames,ok.stk,ok.exf,ok.bs,ok.bsz,ok.zAY,ok.zAy,ok.yO,ok.frf⟩
theorem Cx.Ok.xY(ok:(X.yz E).Ok):X.Ok:=
 ⟨ok.mod,ok.kind,ok.glob,ok.blt,ok.above,ok.inj,ok.has,ok.cab,ok.hd,ok.frames,ok.stk,ok.exf,ok.bs,ok.bsz,ok.zAY,ok.zAy,ok.yO,ok.frf⟩
section
variable {X:Cx} {pins:List (B3×Obj)} {σ:St} {H:Hp} {s:A7} {E:Value->A7->Prop}
theorem Inv.yz(I:Inv X pins σ H s)(E:Value->A7->Prop):Inv (X.yz E) pins σ H s:=⟨I.ok.yz E,I.os,I.bare,I.base,I.loc,I.cell,I.free,I.xQ,I.pin,I.wj,I.len⟩
theorem Inv.xY(I:Inv (X.yz E) pins σ H s):Inv X pins σ H s:=⟨I.ok.xY,I.os,I.bare,I.base,I.loc,I.cell,I.free,I.xQ,I.pin,I.wj,I.len⟩
theorem SP.xY{D:Ends}{f:Flow}{s':A7}(h:SP (X.yz E) pins D f s'):SP X pins D f s':=by
 cases f with
 | next=>obtain⟨σ',H',I,q⟩:=h;exact⟨σ',H',I.xY,q⟩
 | brk=>obtain⟨σ',H',I,q⟩:=h;exact⟨σ',H',I.xY,q⟩
 | cont=>obtain⟨σ',H',I,q⟩:=h;exact⟨σ',H',I.xY,q⟩
 | ret u=>obtain⟨v,σ',H',I,r,q⟩:=h;exact⟨v,σ',H',I.xY,r,q⟩
theorem Ee.nox{st:List N2}{t:TS}(h:Ee X.nox st t):Ee X st t:=fun pins s σ H D I hw =>
 V0 (h pins s σ H D (I.yz _) hw) (fun _ _ q=>q.xY) fun _ _ z=>E7 z
end
section
variable {X:Cx} {st:N2} {rest:List N2} {t u:TS} {e:Expr} {te:TE} {pos:Pos}
abbrev Um:TS:=fun D σ H=>D.nx σ H
abbrev nX(t u:TS):TS:=fun D σ H=>t { D with nx:=u D } σ H
theorem ZV:Ee X [] Um:=fun _ _ σ H _ I h=>j8 ⟨σ,H,I,h⟩
theorem NB(h1:PS X st t)(h2:Ee X rest u):Ee X (st::rest) (nX t u):=by
 intro pins s σ H D I h;refine uW (Aw (h1 pins s σ H { D with nx:=u D } I h) fun f s1 q=>?_);cases f with
 | next =>
  obtain⟨σ',H',I',q⟩:=q;exact h2 pins s1 σ' H' D I' q
 | ret v=>exact q
 | brk=>exact q
 | cont=>exact q
theorem ZU(h1:PS X st t):Ee X [st] t:=by
 intro pins s σ H D I h;refine uW (Aw (h1 pins s σ H D I h) fun f s1 q=>?_);cases f with
 | next=>exact j8 q
 | ret v=>exact q
 | brk=>exact q
 | cont=>exact q
theorem ZW:PS X (.Pass pos) Um:=fun _ _ σ H _ I h=>wpAny_Pass ⟨σ,H,I,h⟩
theorem Inv.quiet{σ:St}(I:Inv X pins σ H s):interactive X.env=false:=by simp[interactive,I.ok.kind]
theorem fD{x j pos pos'}:PS X (.Expr (.Constant (.str x) j pos) pos') Um:=fun _ s σ H _ I h=>wpAny_Expr (sv (show SP X _ _ .next { s with toks:=s.toks+1 } from⟨σ,H,I.tok _,h⟩)) I.quiet
abbrev jd(te:TE):TS:=fun D σ H=>te σ H fun _ H1=>D.nx σ H1
theorem ZX(he:PE X e te)(hs:V8 e none pos.line X.env=pure false:=by rfl):PS X (.Expr e pos) (jd te):=by
 intro pins s σ H D I h;exact wpAny_Expr_any (Aw (he pins s σ H _ I h) fun v s1 ⟨x,H1,I1,r1,q1⟩=>⟨σ,H1,I1,q1⟩) I.quiet hs
abbrev nY(te:TE):TS:=fun D σ H=>te σ H D.rt
theorem fA(he:PE X e te):PS X (.Return (some e) pos) (nY te):=by
 intro pins s σ H D I h;exact wpAny_Return_some (Aw (he pins s σ H _ I h) fun v s1 ⟨x,H1,I1,r1,q1⟩=>⟨x,σ,H1,I1,r1,q1⟩)
abbrev ng(c:TT)(t u:TS):TS:=fun D σ H=>c σ H fun b H1=>if b=true then t D σ H1 else u D σ H1
theorem kh{c:Expr}{a b:List N2}{tc:TT}(hc:PT X c tc)(ha:Ee X a t)(hb:Ee X b u):PS X (.If c a b pos) (ng tc t u):=by
 intro pins s σ H D I h;refine wpAny_If (Aw (hc pins s σ H _ I h) fun d s1 ⟨H1,I1,q1⟩=>?_);cases d with
 | true=>exact ha pins s1 σ H1 D I1 q1
 | false=>exact hb pins s1 σ H1 D I1 q1
end
abbrev TG:=V->St->Hp->(St->Hp->Prop)->Prop
abbrev MU:=List V->St->Hp->(St->Hp->Prop)->Prop
def PG(X:Cx)(target:Expr)(t:TG):Prop:=
 ∀(pins:List (B3×Obj)) (s:A7) (σ:St) (H:Hp) (v:V) (u:Value) (Q:St->Hp->Prop),Inv X pins σ H s->RelV v u->t v σ H Q ->
  B6 (D4 X.prog X.w) X.A (Z9 target X.env u) (fun _ s'=>∃σ' H',Inv X pins σ' H' s'/\Q σ' H') X.xe s
def jD(X:Cx)(ts:List Expr)(t:MU):Prop:=
 ∀(pins:List (B3×Obj)) (s:A7) (σ:St) (H:Hp) (vs:List V) (us:List Value) (Q:St->Hp->Prop),Inv X pins σ H s->AF vs us->t vs σ H Q ->
  B6 (D4 X.prog X.w) X.A (ql ((O2 ts X.env).map (·.2)) us) (fun _ s'=>∃σ' H',Inv X pins σ' H' s'/\Q σ' H') X.xe s
abbrev QX:=V->V->V->Hp->(Hp->Prop)->Prop
def OZ(X:Cx)(t:QX):Prop:=
 ∀(pins:List (B3×Obj)) (s:A7) (σ:St) (H:Hp) (o i v:V) (ov iv u:Value) (Q:Hp->Prop),Inv X pins σ H s->RelV o ov->RelV i iv->RelV v u->t o i v H Q ->
  B6 (D4 X.prog X.w) X.A (setItem ov iv u) (fun _ s'=>∃H',Inv X pins σ H' s'/\Q H') X.xe s
variable {tg:Expr}
section
variable {X:Cx} {pos:Pos}
abbrev DW(i:Nat):TG:=fun v σ H Q=>Q (σ.set i (some v)) H
theorem Zi(hN:X.N.Nodup)(hi:X.N[i]?=some x)(hx:Loc X.env.scope x)(hf:X.fn x=true\/X.env.scope.names.lookup x=some .local:=by first | exact .inl rfl | exact .inr rfl | assumption):PG X (.Name x pos) (DW i):=by
 intro pins s σ H v u Q I r h;exact tY (Ff I hN hi hx r (fun s' I'=>⟨_,H,I',h⟩) hf)
abbrev NZ:MU:=fun vs σ H Q=>vs=[]/\Q σ H
abbrev DX(t:TG)(u:MU):MU:=fun vs σ H Q=>∃v r,vs=v::r/\t v σ H fun σ' H'=>u r σ' H' Q
theorem RC:jD X [] NZ:=by
 intro pins s σ H vs us Q I r h;obtain⟨e,h⟩:=h;subst e;cases r;exact tZ ⟨σ,H,I,h⟩
theorem Iu{es:List Expr}{t:TG}{u:MU}(h1:PG X e t)(h2:jD X es u)
    (hs:(O2 (e::es) X.env).map (·.2)=Z9 e X.env::(O2 es X.env).map (·.2):=by rfl):jD X (e::es) (DX t u):=by
  intro pins s σ H vs us Q I r h;obtain⟨v,vr,e1,h⟩:=h;subst e1;cases r with
  | cons r rr =>
    rw[hs];refine o6 (Aw (h1 pins s σ H _ _ _ I r h) fun _ s1 ⟨zJ,H1,I1,q1⟩=>?_);exact h2 pins s1 zJ H1 _ _ Q I1 rr q1
abbrev gi(K:W.Frag)(n:Nat)(t:MU):TG:=fun v σ H Q=>∃a xs,v=.ref a/\De K H a xs/\xs.length=n/\t xs σ H Q
theorem Vm{es:List Expr}{k:Nat}{t:MU}{n:Nat}(hc:X.calm=true)(h:jD X es t)
    (hn:(O2 es X.env).length=n:=by rfl) (yL:(O2 es X.env).findIdx? (·.1)=none:=by rfl):PG X (.Tuple es k pos) (gi X.K n t):=by
  intro pins s σ H v u Q I r hw;obtain⟨a,xs,e1,hq,hl,hw⟩:=hw;subst e1;cases r;obtain⟨its,rv,ht,hz⟩:=I.tuple hq;refine assign_Tuple_tuple (I.ok.hd hc) ht (by simp[hn,<- hl,rv.length]) yL fun h' hx=>?_
  have I1:Inv X pins σ H { s with heap:=h' }:=I.kept (t':=s.toks) fun b o e=>hx b o (D1 (C0 e)) e
  exact h pins _ σ H xs _ Q I1 (by simpa using rv) hw
abbrev gj(to ti:TE)(t:QX):TG:=fun v σ H Q=>to σ H fun o H1=>ti σ H1 fun i H2=>t o i v H2 fun H3=>Q σ H3
theorem Vn{o i:Expr}{to ti:TE}{t:QX}(ho:PE X o to)(hi:PE X i ti)(hs:OZ X t)
    (ha:∀v,Z9 (.Subscript o i pos) X.env v=(do
      let ov <- Z0 [v] (M8 o X.env)
      let iv <- Z0 [v,ov] (M8 i X.env)
      sV pos
      Z0 [v,ov,iv] (setItem ov iv v)
      release [v,ov,iv] []):=by intro _;rfl):PG X (.Subscript o i pos) (gj to ti t):=by
  intro pins s σ H v u Q I r h;rw[ha];refine A1 (G9 (Aw (ho pins s σ H _ I h) fun ov s1 ⟨x,H1,I1,r1,q1⟩=>?_));refine A1 (G9 (Aw (hi pins s1 σ H1 _ I1 q1) fun iv s2 ⟨y,H2,I2,r2,q2⟩=>?_));refine A1 (i9 (A1 (G9 (Aw (hs pins s2 σ H2 x y v ov iv u _ I2 r1 r2 r q2) fun _ s3 ⟨H3,I3,q3⟩=>?_))));exact wpAny_release ⟨σ,H3,I3,q3⟩
abbrev Mh(te:TE)(g:TG):TS:=fun D σ H=>te σ H fun x H1=>g x σ H1 D.nx
theorem Vb{te:TE}{g:TG}(he:PE X e te)(hg:PG X tg g)(hs:sf [tg] e pos.line X.env=pure false:=by rfl)(hw:qm [tg] e X.env=pure none:=by rfl)
    (h1:(O2 [tg] X.env).map (·.2)=[Z9 tg X.env]:=by rfl):PS X (.Assign [tg] e pos) (Mh te g):=by
  intro pins s σ H D I h;refine wpAny_Assign_stores (Aw (he pins s σ H _ I h) fun v s1 ⟨x,H1,I1,r1,q1⟩=>?_) hs hw;rw[h1];exact Aw (hg pins s1 σ H1 x v _ I1 r1 q1) fun _ s2 q=>q
theorem ez{te:TE}{pos':Pos}(hN:X.N.Nodup)(hi:X.N[i]?=some x)(hx:Loc X.env.scope x)(he:PE X e te)(hs:V8 e (some (.Name x pos')) pos.line X.env=pure false:=by rfl)(hf:X.fn x=true\/X.env.scope.names.lookup x=some .local:=by first | exact .inl rfl | exact .inr rfl | assumption) :
    PS X (.Assign [.Name x pos'] e pos) (Mh te (DW i)):=by
  intro pins s σ H D I h;refine wpAny_Assign_Name (Aw (he pins s σ H _ I h) fun v s1 ⟨y,H1,I1,r1,q1⟩=>?_) hs;exact Ff I1 hN hi hx r1 (fun s2 I2=>⟨_,H1,I2,q1⟩) hf
abbrev nZ(i j:Nat)(ta:TA):TS:=fun D σ H=>ta σ H fun vs H1=>∃v w,vs=[v,w]/\D.nx ((σ.set i (some v)).set j (some w)) H1
theorem fB{j:Nat}{y:Str}{a b:Expr}{ta:TA}{px py pt:Pos}{kt k2 pt2}(hc:X.calm=true)(hN:X.N.Nodup)(hi:X.N[i]?=some x)(hj:X.N[j]?=some y)(hij:i≠j)
    (hx:X.env.scope.names.lookup x=some .local) (hy:X.env.scope.names.lookup y=some .local) (ha:PA X [a,b] ta)
    (hw:qm [.Tuple [.Name x px,.Name y py] kt pt] (.Tuple [a,b] k2 pt2) X.env=pure (some [x,y]))
    (hs:sf [.Tuple [.Name x px,.Name y py] kt pt] (.Tuple [a,b] k2 pt2) pos.line X.env=pure false:=by rfl) :
    PS X (.Assign [.Tuple [.Name x px,.Name y py] kt pt] (.Tuple [a,b] k2 pt2) pos) (nZ i j ta):=by
  intro pins s σ H D I h;rw[exec_Assign_arm];refine A1 (i9 ?_);rw[hs];refine A1 (A6 ?_);rw[if_neg (by decide)];refine A1 (Tuple_ (Aw (ha _ pins s σ H _ I h) fun us s1 ⟨vs,H1,I1,r1,q1⟩=>?_));obtain⟨v,w,e1,q1⟩:=q1;subst e1;obtain⟨u1,u2,rfl,rv,yn⟩:∃u1 u2,us=[u1,u2]/\RelV v u1/\RelV w u2:=by
    cases r1 with
    | cons p q =>
      cases q with
      | cons p' q' =>
        cases q';exact⟨_,_,rfl,p,p'⟩
  refine K0 ?_ (by show 2<=sizeLine;decide)
  have I2:Inv X pins σ H1 { s1 with heap:=s1.heap.push { cls:=.type "tuple", data:=.seq [u1,u2].toArray } }:=I1.kept (t':=s1.toks) fun b o e=>A2 _ e
  rw[hw];refine A1 (A6 ?_)
  show B6 (D4 X.prog X.w) X.A (do rule "assign.swapped-stores"; let items <- uy (.ref s1.heap.objs.size) 2 none;ql [fun v=>vK X.env y v,fun v=>vK X.env x v] items.reverse;pure Flow.next) _ _ _
  refine A1 (R7 (A1 (unpackItems_tuple (items:=#[u1,u2]) (I.ok.hd hc) (IsTup.new s1.heap _) fun h' zX=>?_)));have I3:=I2.kept (h':=h') (t':=s1.toks) fun b o e=>zX b o (D1 (C0 e)) e
  show B6 _ _ (ql [fun v=>vK X.env y v,fun v=>vK X.env x v] [u2,u1] >>= fun _=>pure Flow.next) _ _ _;refine A1 (o6 (wpAny_bindName (Ff I3 hN hj (.inl hy) yn (fun s2 I4=>?_) (.inr hy))));refine o6 (wpAny_bindName (Ff I4 hN hi (.inl hx) rv (fun s3 I5=>tZ (A6 ?_)) (.inr hx)));rw[List.set_comm _ _ (Ne.symm hij)] at I5;exact⟨_,H1,I5,q1⟩
end
variable {body:List N2}
section
variable {X:Cx} {pos:Pos}
def Ul(c:TT)(tb:TS):TS:=fun D σ H=>∃W:Nat->St->Hp->Prop,(∃m,W m σ H)/\∀m σ H,W m σ H ->
 c σ H fun b H1=>if b=true then ∃N:St->Hp->Prop,(∀σ' H',N σ' H'->∃m',m' < m/\W m' σ' H')/\tb { D with nx:=N,ct:=N,bk:=D.nx } σ H1 else D.nx σ H1
theorem VZ{c:Expr}{tc:TT}{tb:TS}(hp:n8 (D4 X.prog X.w) X.A X.env X.xe)(hc:PT X c tc)(hb:Ee X body tb):PS X (.While c body [] pos) (Ul tc tb):=by
 intro pins s σ H D I h;obtain⟨W,⟨m0,w0⟩,turn⟩:=h;refine wpAny_While (codeAny_whileLoop (fun n s'=>∃σ' H',Inv X pins σ' H' s'/\W n σ' H') ?_ m0 ⟨σ,H,I,w0⟩);rintro n s1 ⟨zJ,H1,I1,w1⟩;refine S8 hp (Aw (hc pins s1 zJ H1 _ I1 (turn n zJ H1 w1)) fun b s2 ⟨H2,I2,q2⟩=>?_);cases b with
 | true =>
  obtain⟨N,hN,q2⟩:=q2;rw[if_pos rfl];refine S8 hp (Aw (hb pins s2 zJ H2 _ I2 q2) fun f s3 q3=>?_);cases f with
  | next =>
   obtain⟨σ3,H3,I3,n3⟩:=q3;obtain⟨m',hm,w3⟩:=hN σ3 H3 n3;exact⟨m',hm,σ3,H3,I3,w3⟩
  | cont =>
   obtain⟨σ3,H3,I3,n3⟩:=q3;obtain⟨m',hm,w3⟩:=hN σ3 H3 n3;exact⟨m',hm,σ3,H3,I3,w3⟩
  | brk=>exact q3
  | ret v=>exact q3
 | false =>
  rw[if_neg B9];exact j8 ⟨zJ,H2,I2,q2⟩
end
structure It where
 go:Nat->Hp->Prop
 yld:Nat->Hp->V->Hp->Prop
 stop:Nat->Hp->Prop
def wc(X:Cx)(pins:List (B3×Obj))(H:Hp)(b:B3):Prop:=
 H b=none/\b≠X.env.locals/\b∉X.fs/\(b∈X.ex\/X.xC.heap.objs.size<=b)/\(∀x c,X.env.cells.lookup x=some c->c≠b)/\∀p∈X.pn++pins,p.1≠b
theorem Inv.wb{σ:St}{H':Hp}(I:Inv X pins σ H s)(hb:s.heap.objs.size<=b)(hn:H' b=none):wc X pins H' b:=by
 refine⟨hn,Q9 (C7 I.lt hb),I.zCZ hb,.inr (C4 I.sz hb),fun x c e z=>?_,fun p hp z=>?_⟩
 ·obtain⟨v,q⟩:=I.cell x c e;exact absurd (C7 q.lt (by rw[z];exact hb)) (P9 _)
 ·exact absurd (C7 (C0 (I.pin p hp).1) (by rw[z];exact hb)) (P9 _)
structure Turn (P:F0) (w:J7) (K:W.Frag) (tg:Expr) (J:It) (fp:List B3) (it:B3) (tn:Nat->H9->Prop):Prop where
 mem:it∈fp
 obj:∀i h,tn i h->∀b∈fp,∃o,h.get? b=some o/\∀v,o.data≠.cell v
 keep:∀i h h',tn i h->(∀b∈fp,∀o,h.get? b=some o->h'.get? b=some o)->tn i h'
 item:∀(X:Cx),X.prog=P->X.w=w->X.K=K->X.calm=true->∀(i:Nat) (pins:List (B3×Obj)) (s:A7) (σ:St) (H:Hp) (E:Value->A7->Prop),Inv X pins σ H s->(∀b∈fp,wc X pins H b)->tn i s.heap->J.go i H ->
  B6 (D4 P w) X.A (V1 (.ref it)) (fun r s1=>∃u,r=some u /\
   B6 (D4 P w) X.A (j9 tg (.ref it) u) (fun _ s2=>∃x H',Inv X pins σ H' s2/\RelV x u/\J.yld i H x H'/\tn (i+1) s2.heap/\∀b∈fp,H' b=none) E s1) E s
 done:∀(X:Cx),X.prog=P->X.w=w->X.K=K->X.calm=true->∀(i:Nat) (pins:List (B3×Obj)) (s:A7) (σ:St) (H:Hp) (E:Value->A7->Prop),Inv X pins σ H s->(∀b∈fp,wc X pins H b)->tn i s.heap->J.stop i H ->
  B6 (D4 P w) X.A (V1 (.ref it)) (fun r s1=>r=none/\Inv X pins σ H s1) E s
 self:∀(A:I9) (i:Nat) (s:A7) (Q:Value->A7->Prop) (E:Value->A7->Prop),tn i s.heap->Q (.ref it) s->B6 (D4 P w) A (uX (.ref it)) Q E s
abbrev TI:=St->Hp->(It->Hp->Prop)->Prop
def pf(X:Cx)(pins:List (B3×Obj))(σ:St)(tg:Expr)(R:It->Hp->Prop)(itv:Value)(s2:A7):Prop:=
 ∃(it:B3) (fp:List B3) (tn:Nat->H9->Prop) (J:It) (H':Hp),itv=.ref it/\Inv X pins σ H' s2/\Turn X.prog X.w X.K tg J fp it tn/\tn 0 s2.heap/\(∀b∈fp,wc X pins H' b)/\R J H'
def PI(X:Cx)(tg iter:Expr)(wi:TI):Prop:=
 ∀(pins:List (B3×Obj)) (s:A7) (σ:St) (H:Hp) (R:It->Hp->Prop),Inv X pins σ H s->wi σ H R ->
  B6 (D4 X.prog X.w) X.A (M8 iter X.env) (fun v s1=>B6 (D4 X.prog X.w) X.A (uX v) (pf X pins σ tg R) X.xe s1) X.xe s
theorem Wj{M:Model}{A:I9}{E:Value->A7->Prop}{tg:Expr}{it:B3}{u:Value}{o:Obj}{n:String}{vs:Array Value}{Q:Unit->A7->Prop}(ho:s.heap.get? it=some o)(hc:o.cls=.type n)(hd:o.data=.fields vs)
    (hn:["enumerate", "zip", "dict_itemiterator", "dict_reverseitemiterator", "odict_iterator", "itertools.zip_longest", "itertools.pairwise"].contains n=false) (hQ:Q () s):B6 M A (j9 tg (.ref it) u) Q E s:=by
  unfold j9;cases tg<;>first
    | exact A6 hQ
    | (cases u<;>first
        | exact A6 hQ
        | (refine A1 (vL ho ?_)
           rw[hc,hd]
           show B6 M A (if(["enumerate", "zip", "dict_itemiterator", "dict_reverseitemiterator", "odict_iterator", "itertools.zip_longest", "itertools.pairwise"].contains n && vs[0]? == some (N5 _))=true then _ else _) Q E s
           rw[if_neg (by intro h;rw[hn,Bool.false_and] at h;cases h)];exact A6 hQ))
noncomputable def mx(K:W.Frag)(a:B3):It:=
 ⟨fun i H=>∃xs x,Cy K H a xs/\xs[i]?=some x,fun i H x H'=>H'=H/\∀xs,Cy K H a xs->xs[i]?=some x,fun i H=>∃xs,Cy K H a xs/\xs.length<=i⟩
noncomputable def nS(K:W.Frag)(a:B3):It:=
 ⟨fun i H=>∃xs x,De K H a xs/\xs[i]?=some x,fun i H x H'=>H'=H/\∀xs,De K H a xs->xs[i]?=some x,fun i H=>∃xs,De K H a xs/\xs.length<=i⟩
noncomputable def jF(lo:Int)(n:Nat):It:=⟨fun i _=>i < n,fun i H x H'=>H'=H/\x=.int (lo+i),fun i _=>n<=i⟩
theorem SK{K:W.Frag}(a it:B3):Turn P w K tg (mx K a) [it] it (fun i h=>h.IsListIter it a i) where
 mem:=by simp
 obj:=fun i h st b hb=>by
  have e:b=it:=by simpa using hb
  subst e;obtain⟨o,e,c,d⟩:=st;exact⟨o,e,fun v z=>by rw[d] at z;cases z⟩
 keep:=fun i h h' st k=>st.at fun o e=>k it (by simp) o e
 item:=by
  intro X hP hw hK hc i pins s σ H E I hf st hg;subst hP hw hK;obtain⟨xs,x,hq,hx⟩:=hg;obtain⟨its,rv,p,hz⟩:=I.list hq;obtain⟨u,hu,ru⟩:=rv.get hx;obtain⟨f0,f1,f2,f3,f4,f5⟩:=hf it (by simp);refine Z1 st p.isList (x:=u) (by simpa using hu) fun h' st' sb=>?_
  have I1:Inv X pins σ H { s with heap:=h' }:=I.turned (t':=s.toks) (fun b o hb e=>(sb.2 b hb).trans e) f0 f1 f3 f4 f5;obtain⟨o,e,c,d⟩:=id st';exact⟨u,rfl,Wj (s:={ s with heap:=h' }) e c d (by decide) ⟨x,H,I1,ru,⟨rfl,fun ys hy=>by rw[I.yo hy hq];exact hx⟩,st',fun b hb=>(hf b hb).1⟩⟩
 done:=by
  intro X hP hw hK hc i pins s σ H E I hf st hg;subst hP hw hK;obtain⟨xs,hq,hx⟩:=hg;obtain⟨its,rv,p,hz⟩:=I.list hq;obtain⟨f0,f1,f2,f3,f4,f5⟩:=hf it (by simp);have hl:=rv.length;exact Z7 (I.ok.hd hc) st p.isList (by simp;omega) fun h' eb=>⟨rfl,I.turned (t':=s.toks) (fun b o hb e=>eb b o hb e) f0 f1 f3 f4 f5⟩
 self:=fun _ _ _ _ _ st h=>wpAny_pyIter_listiter st h
theorem Ol{K:W.Frag}(a it:B3):Turn P w K tg (nS K a) [it] it (fun i h=>h.IsTupleIter it a i) where
 mem:=by simp
 obj:=fun i h st b hb=>by
  have e:b=it:=by simpa using hb
  subst e;obtain⟨o,e,c,d⟩:=st;exact⟨o,e,fun v z=>by rw[d] at z;cases z⟩
 keep:=fun i h h' st k=>st.at fun o e=>k it (by simp) o e
 item:=by
  intro X hP hw hK hc i pins s σ H E I hf st hg;subst hP hw hK;obtain⟨xs,x,hq,hx⟩:=hg;obtain⟨its,rv,p,hz⟩:=I.tuple hq;obtain⟨u,hu,ru⟩:=rv.get hx;obtain⟨f0,f1,f2,f3,f4,f5⟩:=hf it (by simp);refine wpAny_pyNext_tuple_item st (show s.heap.IsTuple a its.toArray from p) (x:=u) (by simpa using hu) fun h' st' sb=>?_
  have I1:Inv X pins σ H { s with heap:=h' }:=I.turned (t':=s.toks) (fun b o hb e=>(sb.2 b hb).trans e) f0 f1 f3 f4 f5;obtain⟨o,e,c,d⟩:=id st';exact⟨u,rfl,Wj (s:={ s with heap:=h' }) e c d (by decide) ⟨x,H,I1,ru,⟨rfl,fun ys hy=>by rw[I.yG hy hq];exact hx⟩,st',fun b hb=>(hf b hb).1⟩⟩
 done:=by
  intro X hP hw hK hc i pins s σ H E I hf st hg;subst hP hw hK;obtain⟨xs,hq,hx⟩:=hg;obtain⟨its,rv,p,hz⟩:=I.tuple hq;obtain⟨f0,f1,f2,f3,f4,f5⟩:=hf it (by simp);have hl:=rv.length;exact wpAny_pyNext_tuple_end (I.ok.hd hc) st (show s.heap.IsTuple a its.toArray from p) (by simp;omega) fun h' eb=>⟨rfl,I.turned (t':=s.toks) (fun b o hb e=>eb b o hb e) f0 f1 f3 f4 f5⟩
 self:=fun _ _ _ _ _ st h=>wpAny_pyIter_tupleiter st h
theorem Om{K:W.Frag}(it:B3)(lo:Int)(n:Nat):Turn P w K tg (jF lo n) [it] it (fun i h=>IsRangeIter h it (lo+(i:Nat) * 1) ((n:Int) - (i:Nat)) 1) where
 mem:=by simp
 obj:=fun i h st b hb=>by
  have e:b=it:=by simpa using hb
  subst e;exact⟨_,st,fun v z=>by
   have z':Data.fields _=Data.cell v:=z;cases z'⟩
 keep:=fun i h h' st k=>k it (by simp) _ st
 item:=by
  intro X hP hw hK hc i pins s σ H E I hf st hg;subst hP hw hK;obtain⟨f0,f1,f2,f3,f4,f5⟩:=hf it (by simp);have W:=Walks.range (prog:=X.prog) (w:=X.w) (I.ok.hd hc) it lo 1 n;refine W.item i s _ _ hg st fun v h' tk hv st' kk=>?_
  obtain⟨t,rfl⟩:=hv;have I1:Inv X pins σ H { s with heap:=h',toks:=tk }:=I.turned (fun b o hb e=>kk b o (by simpa using hb) e) f0 f1 f3 f4 f5
  refine⟨_,rfl,Wj (s:={ s with heap:=h',toks:=tk }) (n := "range_iterator") st' rfl rfl (by decide) ⟨.int (lo+i),H,I1,⟨t,?_⟩,⟨rfl,rfl⟩,st',fun b hb=>(hf b hb).1⟩⟩
  rw[Int.mul_one]
 done:=by
  intro X hP hw hK hc i pins s σ H E I hf st hg;subst hP hw hK;obtain⟨f0,f1,f2,f3,f4,f5⟩:=hf it (by simp);exact wpAny_pyNext_range_end (I.ok.hd hc) st (by have:n<=i:=hg;omega) fun h' eb=>⟨rfl,I.turned (t':=s.toks) (fun b o hb e=>eb b o hb e) f0 f1 f3 f4 f5⟩
 self:=fun _ _ _ _ _ st h=>wpAny_pyIter_rangeiter st h
section
variable {X:Cx} {tg:Expr}
theorem Mv{σ:St}{R:It->Hp->Prop}{E:Value->A7->Prop}{lo hi:Int}{t u v:Tok}{tk:Nat}(I:Inv X pins σ H s)(h1:-(2 ^ 62)<=lo)(h2:lo < 2 ^ 62)(h3:-(2 ^ 62)<=hi)(h4:hi < 2 ^ 62)
    (q:R (jF lo (hi - lo).toNat) H):B6 (D4 X.prog X.w) X.A (uX (.ref s.heap.objs.size)) (pf X pins σ tg R) E { s with heap:=s.heap.push { cls:=.type "range", data:=.fields #[.int lo t,.int hi u,.int 1 v] },toks:=tk }:=by
  refine wpAny_pyIter_range (wG ..) (small_one h1 h2 h3 h4) ?_
  have I1:Inv X pins σ H { s with heap:=s.heap.push { cls:=.type "range", data:=.fields #[.int lo t,.int hi u,.int 1 v] },toks:=tk }:=I.kept fun b o e=>A2 _ e
  refine⟨(s.heap.push { cls:=.type "range", data:=.fields #[.int lo t,.int hi u,.int 1 v] }).objs.size,[(s.heap.push { cls:=.type "range", data:=.fields #[.int lo t,.int hi u,.int 1 v] }).objs.size],_,_,H,rfl,
    I1.kept (t':=tk) fun b o e=>A2 _ e,Om _ lo (hi - lo).toNat,?_,fun b hb=>?_,q⟩
  · have e1:lo+((0:Nat):Int) * 1=lo:=by simp
    have e2:(((hi - lo).toNat:Nat):Int) - ((0:Nat):Int)=qw lo hi 1:=by rw[rangeSize_one];split<;>omega
    show IsRangeIter _ _ (lo+((0:Nat):Int) * 1) ((((hi - lo).toNat:Nat):Int) - ((0:Nat):Int)) 1;rw[e1,e2];exact B2 _ rfl
  · have e:b=(s.heap.push { cls:=.type "range", data:=.fields #[.int lo t,.int hi u,.int 1 v] }).objs.size:=by simpa using hb
    subst e;exact I1.wb (B4 _) (I1.wj.fresh (B4 _))
abbrev lV(ta:TA):TI:=fun σ H R=>ta σ H fun vs H1=>∃j:Int,vs=[.int j]/\-(2 ^ 62)<=j/\j < 2 ^ 62/\R (jF 0 j.toNat) H1
abbrev lU(ta:TA):TI:=fun σ H R=>ta σ H fun vs H1=>∃i j:Int,vs=[.int i,.int j]/\(-(2 ^ 62)<=i/\i < 2 ^ 62/\-(2 ^ 62)<=j/\j < 2 ^ 62)/\R (jF i (j - i).toNat) H1
theorem Sf{a:Expr}{ta:TA}{p:Pos}(hg:Gl X "range")(hm:X.mg "range" = none)(ha:PA X [a] ta)(hs:D2 [a] X.env=[(false,M8 a X.env)]:=by rfl):PI X tg (.Call (.Name "range" p) [a] [] pos) (lV ta):=by
 intro pins s σ H R I h;refine Call_ (CH I hg hm vM (G1 (Aw (ha pos pins s σ H _ I h) fun us s1 ⟨vs,H1,I1,r1,q1⟩=>?_) hs rfl));obtain⟨j,e,q1,q2,q⟩:=q1;subst e;cases r1 with
 | cons r rr =>
  cases rr;obtain⟨t,rfl⟩:=r;exact call_range_1 (Mv I1 (by omega) (by omega) q1 q2 (by simpa using q))
theorem Se{a b:Expr}{ta:TA}{p pos:Pos}(hg:Gl X "range")(hm:X.mg "range" = none)(ha:PA X [a,b] ta)(hs:D2 [a,b] X.env=[(false,M8 a X.env),(false,M8 b X.env)]:=by rfl)(z8:D2 [b] X.env=[(false,M8 b X.env)]:=by rfl) :
    PI X tg (.Call (.Name "range" p) [a,b] [] pos) (lU ta):=by
  intro pins s σ H R I h;refine Call_ (CH I hg hm vM (G1 (Aw (ha pos pins s σ H _ I h) fun us s1 ⟨vs,H1,I1,r1,q1⟩=>?_) (by rw[hs,z8]) (by rw[z8];rfl)));obtain⟨i,j,e,⟨q1,q2,q3,q4⟩,q⟩:=q1;subst e;cases r1 with
  | cons r rr =>
    cases rr with
    | cons r' rr =>
      cases rr;obtain⟨t,rfl⟩:=r;obtain⟨t',rfl⟩:=r';exact call_range_2 (Mv I1 q1 q2 q3 q4 q)
abbrev nh(wi:TI)(g:TG)(tb:TS):TS:=fun D σ H=>wi σ H fun J H1=>∃W:Nat->Nat->St->Hp->Prop,(∃m,W 0 m σ H1)/\∀i m σ H,W i m σ H ->
 (J.stop i H/\D.nx σ H)\/(J.go i H/\∃N:St->Hp->Prop,(∀σ' H',N σ' H'->∃m',m' < m/\W (i+1) m' σ' H')/\∀x H',J.yld i H x H'->g x σ H' fun xR H2=>tb { D with nx:=N,ct:=N,bk:=D.nx } xR H2)
noncomputable def Ir(fp:List B3)(h:H9):List (B3×Obj):=fp.filterMap fun b=>(h.get? b).map fun o=>(b,o)
theorem Cu{fp:List B3}{o:Obj}(hb:b∈fp)(e:h.get? b=some o):(b,o)∈Ir fp h:=sx.mpr ⟨b,hb,by rw[e];rfl⟩
theorem Sk{fp:List B3}{p:B3×Obj}(hp:p∈Ir fp h):p.1∈fp/\h.get? p.1=some p.2:=by
 obtain⟨b,hb,e⟩:=sx.mp hp;cases q:h.get? b with
 | none=>rw[q] at e;cases e
 | some o =>
  rw[q] at e;have e':(b,o)=p:=D5 e;subst e';exact⟨hb,q⟩
theorem Inv.pinned{σ:St}{fp:List B3}(I:Inv X pins σ H s)(hf:∀b∈fp,wc X pins H b)(ho:∀b∈fp,∃o,s.heap.get? b=some o/\∀v,o.data≠.cell v):Inv X (pins++Ir fp s.heap) σ H s:=
 I.xh fun p hp=>(E9.mp hp).elim (fun z=>I.pin p (B8 _ z)) fun z=>by
  obtain⟨hb,e⟩:=Sk z;obtain⟨f0,f1,f2,_⟩:=hf p.1 hb;obtain⟨o,e',d⟩:=ho p.1 hb;rw[e] at e';cases e';exact⟨e,f0,f1,f2,d⟩
theorem Inv.xu{pl:List (B3×Obj)}{σ:St}(I:Inv X (pins++pl) σ H s):Inv X pins σ H s:=I.xh fun p hp=>I.pin p (B8 _ (D7 _ hp))
theorem Va{iter:Expr}{wi:TI}{g:TG}{tb:TS}{pos:Pos}(hp:n8 (D4 X.prog X.w) X.A X.env X.xe)(hc:X.calm=true)(hi:PI X tg iter wi)(hg:PG X tg g)(hb:Ee X body tb)
    (hs:∀x,Q6 iter X.env x=pure x:=by intro _;rfl):PS X (.For tg iter body [] pos) (nh wi g tb):=by
  intro pins s σ H D I h;refine wpAny_For (Aw (hi pins s σ H _ I h) fun v s1 h1=>Aw h1 fun itv s2 h2=>?_) hs;obtain⟨it,fp,tn,J,H2,e,I2,T,st2,f2,W,⟨m0,w0⟩,turn⟩:=h2;subst e
  -- zEJ stays true of the iterator's objects through the loop
  have zAB:∀{H':Hp},(∀b∈fp,H' b=none)->∀b∈fp,wc X pins H' b:=fun hn b hb=>⟨hn b hb,(f2 b hb).2⟩
  refine codeAny_forLoop_any (fun n s'=>∃i σ' H',Inv X pins σ' H' s'/\tn i s'.heap/\(∀b∈fp,H' b=none)/\W i n σ' H') ?_ m0 ⟨0,σ,H2,I2,st2,fun b hb=>(f2 b hb).1,w0⟩;rintro n s3 ⟨i,σ3,H3,I3,st3,fr3,w3⟩;rcases turn i n σ3 H3 w3 with⟨stop,qn⟩ | ⟨go,N,hN,step⟩
  · refine S8 hp (Aw (T.done X rfl rfl rfl hc i pins s3 σ3 H3 X.xe I3 (zAB fr3) st3 stop) fun r s4 ⟨hr,I4⟩=>?_);subst hr;exact j8 ⟨σ3,H3,I4,qn⟩
  · refine S8 hp (Aw (T.item X rfl rfl rfl hc i pins s3 σ3 H3 X.xe I3 (zAB fr3) st3 go) fun r s4 ⟨u,hr,h4⟩=>?_);subst hr;refine S8 hp (Aw h4 fun _ s5 ⟨x,H5,I5,r5,y5,st5,fr5⟩=>?_);have I5':=I5.pinned (zAB fr5) (T.obj _ _ st5);refine S8 hp (Aw (hg _ s5 σ3 H5 x u _ I5' r5 (step x H5 y5)) fun _ s6 ⟨σ6,H6,I6,q6⟩=>?_);refine S8 hp (Aw (hb _ s6 σ6 H6 _ I6 q6) fun f s7 q7=>?_);have again:∀{σ7:St} {H7:Hp},Inv X (pins++Ir fp s5.heap) σ7 H7 s7->N σ7 H7->∃m,m < n/\∃i σ' H',Inv X pins σ' H' s7/\tn i s7.heap/\(∀b∈fp,H' b=none)/\W i m σ' H':=fun{σ7 H7} I7 n7=>by
      obtain⟨m',hm,w7⟩:=hN σ7 H7 n7;refine⟨m',hm,i+1,σ7,H7,I7.xu,T.keep _ _ _ st5 fun b hb o e=>(I7.pin (b,o) (B8 _ (B8 _ (Cu hb e)))).1,fun b hb=>?_,w7⟩;obtain⟨o,e,d⟩:=T.obj _ _ st5 b hb;exact(I7.pin (b,o) (B8 _ (B8 _ (Cu hb e)))).2.1
    cases f with
    | next=>obtain⟨σ7,H7,I7,n7⟩:=q7;exact again I7 n7
    | cont=>obtain⟨σ7,H7,I7,n7⟩:=q7;exact again I7 n7
    | brk=>obtain⟨σ7,H7,I7,q7⟩:=q7;exact⟨σ7,H7,I7.xu,q7⟩
    | ret v=>obtain⟨x7,σ7,H7,I7,r7,q7⟩:=q7;exact⟨x7,σ7,H7,I7.xu,r7,q7⟩
end
abbrev R2:=V->V->Hp->VK->Prop
def Ef(X:Cx)(f:Value->Value->Sem Value)(r:R2):Prop:=
 ∀(pins:List (B3×Obj)) (s:A7) (σ:St) (H:Hp) (x y:V) (v u:Value) (Q:VK),Inv X pins σ H s->RelV x v->RelV y u->r x y H Q ->
  B6 (D4 X.prog X.w) X.A (f v u) (EP X pins σ Q) X.xe s
def oq(X:Cx)(f:Value->Sem Value)(r:V->Hp->VK->Prop):Prop:=
 ∀(pins:List (B3×Obj)) (s:A7) (σ:St) (H:Hp) (x:V) (v:Value) (Q:VK),Inv X pins σ H s->RelV x v->r x H Q ->
  B6 (D4 X.prog X.w) X.A (f v) (EP X pins σ Q) X.xe s
def BG(X:Cx)(f:Value)(r:List V->Hp->VK->Prop):Prop:=
 ∀(pins:List (B3×Obj)) (s:A7) (σ:St) (H:Hp) (xs:List V) (us:List Value) (Q:VK),Inv X pins σ H s->AF xs us->r xs H Q ->
  B6 (D4 X.prog X.w) X.A (call f us) (EP X pins σ Q) X.xe s
def ou(X:Cx)(r:V->Hp->(Bool->Hp->Prop)->Prop):Prop:=
 ∀(pins:List (B3×Obj)) (s:A7) (σ:St) (H:Hp) (x:V) (v:Value) (Q:Bool->Hp->Prop),Inv X pins σ H s->RelV x v->r x H Q ->
  B6 (D4 X.prog X.w) X.A (truthy v) (TP X pins σ Q) X.xe s
abbrev nB(r:R2)(ta tb:TE):TE:=fun σ H Q=>ta σ H fun x H1=>tb σ H1 fun y H2=>r x y H2 Q
abbrev pz(r:V->Hp->VK->Prop)(ta:TE):TE:=fun σ H Q=>ta σ H fun x H1=>r x H1 Q
def rI(C:Int->Int->Prop)(g:Int->Int->V):R2:=fun x y H Q=>∃i j,x=.int i/\y=.int j/\C i j/\Q (g i j) H
def YZ(g:Int->Int->V):R2:=fun x y H Q=>∃i j,x=.int i/\y=.int j/\Q (g i j) H
def rU(g:Int->V):V->Hp->VK->Prop:=fun x H Q=>∃i,x=.int i/\Q (g i) H
variable {r:R2}
section
variable {X:Cx} {a b c:Expr} {ta tb tc:TE} {pos:Pos}
theorem iy(ha:PE X a ta)(hb:PE X b tb){σ:St}{R:V->V->Hp->Prop}(I:Inv X pins σ H s)
    (h:ta σ H fun x H1=>tb σ H1 fun y H2=>R x y H2) {Q:Value->A7->Prop} {f:Value->Value->Sem Value}
    (hf:∀v u s2 x y H2,Inv X pins σ H2 s2->RelV x v->RelV y u->R x y H2->B6 (D4 X.prog X.w) X.A (f v u) Q X.xe s2) :
    B6 (D4 X.prog X.w) X.A (M8 a X.env) (fun v wa=>B6 (D4 X.prog X.w) X.A (M8 b X.env) (fun u xv=>B6 (D4 X.prog X.w) X.A (f v u) Q X.xe xv) X.xe wa) X.xe s:=by
  refine Aw (ha pins s σ H _ I h) fun v s1 ⟨x,H1,I1,r1,q1⟩=>?_
  refine Aw (hb pins s1 σ H1 _ I1 q1) fun u s2 ⟨y,H2,I2,r2,q2⟩=>?_
  exact hf v u s2 x y H2 I2 r1 r2 q2
theorem km{op:sC}(ho:Ef X (binaryOp op) r)(ha:PE X a ta)(hb:PE X b tb):PE X (.BinOp a op b pos) (nB r ta tb):=by
 intro pins s σ H Q I h;exact wpAny_BinOp (iy ha hb I h fun v u s2 x y H2 I2 rx ry q=>ho pins s2 σ H2 x y v u Q I2 rx ry q)
theorem kj{op:UnaryOp}{r:V->Hp->VK->Prop}(ho:oq X (unaryOp op) r)(ha:PE X a ta):PE X (.UnaryOp op a pos) (pz r ta):=by
 intro pins s σ H Q I h;exact UnaryOp_ (Aw (ha pins s σ H _ I h) fun v s1 ⟨x,H1,I1,r1,q1⟩=>ho pins s1 σ H1 x v Q I1 r1 q1)
theorem nD{f:Value->Value->Sem Value}{C:Int->Int->Prop}{g:Int->Int->Int}
    (rule:∀(i j:Int) (t u:Tok) (s:A7) (Q:Value->A7->Prop) (E:Value->A7->Prop),C i j->Q (.int (g i j) s.toks) { s with toks:=s.toks+1 }->B6 (D4 X.prog X.w) X.A (f (.int i t) (.int j u)) Q E s) :
    Ef X f (rI C fun i j=>.int (g i j)):=by
  intro pins s σ H x y v u Q I rx ry h;obtain⟨i,j,rfl,rfl,hc,q⟩:=h;obtain⟨t,rfl⟩:=rx;obtain⟨t',rfl⟩:=ry;exact rule i j t t' s _ _ hc ⟨.int (g i j),H,I.tok _,⟨_,rfl⟩,q⟩
theorem lC{f:Value->Value->Sem Value}{g:Int->Int->Int}
    (rule:∀(i j:Int) (t u:Tok) (s:A7) (Q:Value->A7->Prop) (E:Value->A7->Prop),Q (.int (g i j) s.toks) { s with toks:=s.toks+1 }->B6 (D4 X.prog X.w) X.A (f (.int i t) (.int j u)) Q E s) :
    Ef X f (YZ fun i j=>.int (g i j)):=by
  intro pins s σ H x y v u Q I rx ry h;obtain⟨i,j,rfl,rfl,q⟩:=h;obtain⟨t,rfl⟩:=rx;obtain⟨t',rfl⟩:=ry;exact rule i j t t' s _ _ ⟨.int (g i j),H,I.tok _,⟨_,rfl⟩,q⟩
theorem gA{f:Value->Value->Sem Value}{g:Int->Int->Bool}
    (rule:∀(i j:Int) (t u:Tok) (s:A7) (Q:Value->A7->Prop) (E:Value->A7->Prop),Q (.bool (g i j)) s->B6 (D4 X.prog X.w) X.A (f (.int i t) (.int j u)) Q E s) :
    Ef X f (YZ fun i j=>.bl (g i j)):=by
  intro pins s σ H x y v u Q I rx ry h;obtain⟨i,j,rfl,rfl,q⟩:=h;obtain⟨t,rfl⟩:=rx;obtain⟨t',rfl⟩:=ry;exact rule i j t t' s _ _ ⟨.bl (g i j),H,I,rfl,q⟩
def oz(i j:Int):Prop:=0 < j/\j < 1073741824
def oy(i j:Int):Prop:=0<=j/\j<=1000000/\i.natAbs < 2 ^ 64
def bo(i j:Int):Prop:=(-(2 ^ 64) < i/\i < 2 ^ 64)\/(-(2 ^ 64) < j/\j < 2 ^ 64)
theorem bo.ok{i j:Int}(h:bo i j):IntMulOk i j:=by
 rcases h with⟨h1,h2⟩ | ⟨h1,h2⟩
 ·exact .of_left (intBits_le_64 h1 h2)
 ·exact .of_right (intBits_le_64 h1 h2)
theorem fw:Ef X (binaryOp .Add) (YZ fun i j=>.int (i+j)):=lC fun _ _ _ _ _ _ _ q=>add_int q
theorem fg:Ef X (binaryOp .Sub) (YZ fun i j=>.int (i - j)):=lC fun _ _ _ _ _ _ _ q=>sub_int q
theorem fm:Ef X (binaryOp .Mult) (rI bo fun i j=>.int (i * j)):=nD fun _ _ _ _ _ _ _ hc q=>mul_int q hc.ok
theorem Zq:Ef X (binaryOp .FloorDiv) (rI oz fun i j=>.int (i / j)):=nD fun i j _ _ _ _ _ hc q=>by
 have h1:(0:Int) < j:=hc.1;have h2:j < 1073741824:=hc.2;exact floordiv_int (by omega) (by rw[Int.fdiv_eq_ediv_of_nonneg i (by omega)];exact q) (.inl (PyProof.noPylong_small (by omega)))
theorem fo:Ef X (binaryOp .Mod) (rI (fun _ j=>0 < j) fun i j=>.int (i % j)):=nD fun i j _ _ _ _ _ hc q=>by
 have h1:(0:Int) < j:=hc;exact mod_int' (by omega) (by rw[Int.fmod_eq_emod_of_nonneg i (by omega)];exact q)
theorem fj:Ef X (binaryOp .Pow) (rI oy fun i j=>.int (i ^ j.toNat)):=nD fun _ _ _ _ _ _ _ hc q=>pow_int_small hc.1 hc.2.1 hc.2.2 q
theorem pq{f:Value->Sem Value}{g:Int->Int}
    (rule:∀(i:Int) (t:Tok) (s:A7) (Q:Value->A7->Prop) (E:Value->A7->Prop),Q (.int (g i) s.toks) { s with toks:=s.toks+1 }->B6 (D4 X.prog X.w) X.A (f (.int i t)) Q E s) :
    oq X f (rU fun i=>.int (g i)):=by
  intro pins s σ H x v Q I rx h;obtain⟨i,rfl,q⟩:=h;obtain⟨t,rfl⟩:=rx;exact rule i t s _ _ ⟨.int (g i),H,I.tok _,⟨_,rfl⟩,q⟩
theorem df:oq X (unaryOp .USub) (rU fun i=>.int (-i)):=pq fun _ _ _ _ _ q=>neg_int q
end
variable {f:Value->Value->Sem Value}
section
variable {X:Cx} {a b c:Expr} {ta tb tc:TE} {pos:Pos}
theorem iF{σ:St}{Q:VK}{k k':Bool}(I:Inv X pins σ H s)(q:Q (.bl k) H)(e:k=k'):EP X pins σ Q (.bool k') s:=by
 subst e;exact⟨.bl k,H,I,rfl,q⟩
theorem kz:Ef X (U1 .Lt) (YZ fun i j=>.bl (decide (i < j))):=gA fun _ _ _ _ _ _ _ q=>lt_int q
theorem lA:Ef X (U1 .Gt) (YZ fun i j=>.bl (decide (j < i))):=gA fun _ _ _ _ _ _ _ q=>gt_int q
theorem lB:Ef X (U1 .GtE) (YZ fun i j=>.bl (decide (j<=i))):=gA fun _ _ _ _ _ _ _ q=>ge_int q
theorem Si:Ef X (U1 .In) (fun x y H Q=>∃i j,x=.str i/\y=.str j/\Q (.bl (!(U2 j i 0 j.length 1).isEmpty)) H):=by
 intro pins s σ H x y v u Q I rx ry h;obtain⟨i,j,rfl,rfl,q⟩:=h;obtain⟨t,rfl⟩:=rx;obtain⟨t',rfl⟩:=ry;exact in_str (iF I q rfl)
theorem Ef.or{r':R2}(h:Ef X f r)(h':Ef X f r'):Ef X f (fun x y H Q=>r x y H Q\/r' x y H Q):=by
 intro pins s σ H x y v u Q I rx ry q;rcases q with q | q
 ·exact h pins s σ H x y v u Q I rx ry q
 ·exact h' pins s σ H x y v u Q I rx ry q
theorem Zm{op:vN}(ho:Ef X (U1 op) r)(ha:PE X a ta)(hb:PE X b tb)(hm:sg op b=false):PE X (.Compare a [op] [b] pos) (nB r ta tb):=by
 intro pins s σ H Q I h;exact wpAny_Compare1 (iy ha hb I h fun v u s2 x y H2 I2 rx ry q=>ho pins s2 σ H2 x y v u Q I2 rx ry q) hm
abbrev jT(t:TE):TT:=fun σ H Q=>t σ H fun x H'=>∃k,x=.bl k/\Q k H'
theorem ZT{op:vN}(ho:Ef X (U1 op) r)(ha:PE X a ta)(hb:PE X b tb)(hm:sg op b=false):PT X (.Compare a [op] [b] pos) (jT (nB r ta tb)):=by
 intro pins s σ H Q I h;refine wpAny_isTrue_Compare1 (Aw (ha pins s σ H _ I h) fun v s1 ⟨x,H1,I1,r1,q1⟩=>Aw (hb pins s1 σ H1 _ I1 q1) fun u s2 ⟨y,H2,I2,r2,q2⟩ =>
  Aw (ho pins s2 σ H2 x y v u _ I2 r1 r2 q2) fun c s3 ⟨z,H3,I3,r3,k,e,q3⟩=>?_) hm
 subst e;cases r3;exact Q5 ⟨H3,I3,q3⟩
def YV(K:W.Frag)(x:V)(H:Hp)(k:Bool):Prop:=
 match x with
 | .we=>k=false
 | .bl b=>k=b
 | .int i=>k=(i != 0)
 | .str y=>y.length<=sizeLine/\k=((y.length:Int) != 0)
 | .byt y=>y.size<=sizeLine/\k=((y.size:Int) != 0)
 | .ref p=>(∃xs,Cy K H p xs/\k=!xs.isEmpty)\/(∃xs,De K H p xs/\k=!xs.isEmpty)\/∃wY,H p=some (.dK wY)/\k=!wY.isEmpty
 | _=>False
theorem Pn{κ:Type}{wY:List (κ×V)}{vs:List (κ×Value)}(r:KV wY vs):(!vs.isEmpty)=!wY.isEmpty:=by
 cases r<;>rfl
theorem JH{xs:List V}{its:List Value}(r:AF xs its):(!its.toArray.isEmpty)=!xs.isEmpty:=by
 cases r<;>simp
theorem Gv:(sizeLine:Nat) < 2 ^ 63:=by rw[N6];decide
theorem dn:ou X (fun x H Q=>∃k,YV X.K x H k/\Q k H):=by
 intro pins s σ H x v Q I rx h;obtain⟨k,e,q⟩:=h;have hl:=Gv;have hs:sizeLine=16777216:=N6;cases x with
 | we =>
  cases rx;have e':k=false:=e;subst e';exact truthy_none ⟨H,I,q⟩
 | bl b =>
  cases rx;have e':k=b:=e;subst e';exact Q5 ⟨H,I,q⟩
 | int i =>
  obtain⟨t,rfl⟩:=rx;have e':k=(i != 0):=e;subst e';exact PySem.P.truthy_int ⟨H,I,q⟩
 | str y =>
  obtain⟨t,rfl⟩:=rx;obtain⟨hy,e'⟩:y.length<=sizeLine/\k=((y.length:Int) != 0):=e;subst e';exact PySem.P.truthy_str (by omega) ⟨H,I.tok _,q⟩
 | byt y =>
  obtain⟨t,rfl⟩:=rx;obtain⟨hy,e'⟩:y.size<=sizeLine/\k=((y.size:Int) != 0):=e;subst e';exact W.truthy_bytes (by omega) ⟨H,I.tok _,q⟩
 | ref p =>
  cases rx;have e':(∃xs,Cy X.K H p xs/\k=!xs.isEmpty)\/(∃xs,De X.K H p xs/\k=!xs.isEmpty)\/∃wY,H p=some (.dK wY)/\k=!wY.isEmpty:=e;rcases e' with⟨xs,hx,e'⟩ | ⟨xs,hx,e'⟩ | ⟨wY,hx,e'⟩
  ·subst e';obtain⟨its,r,pl,hz⟩:=I.list hx;have hlen:=r.length;exact wpAny_truthy_list pl.isList (by simp only[B0];omega) ⟨H,I.tok _,by rw[JH r];exact q⟩
  ·subst e';obtain⟨its,r,pl,hz⟩:=I.tuple hx;have hlen:=r.length;exact truthy_tuple pl (by simp only[B0];omega) ⟨H,I.tok _,by rw[JH r];exact q⟩
  ·subst e';obtain⟨hz,hS,vs,r,m⟩:wY.length<=sizeLine/\(p == T6)=false/\∃vs,KV wY vs/\s.heap.DictOf (Ak X.prog X.w) p vs:=I.wj p _ hx;have hlen:wY.length=vs.length:=Paired.length r;exact wpAny_truthy_dict hS m (by omega) ⟨H,I.tok _,by rw[Pn r];exact q⟩
 | _=>exact(show False from e).elim
theorem VY(ha:PE X a ta)(he:∀whole,isTrue a X.env whole=(do let v <- whole;sV a.pos;Z0 [v] (truthy v))) :
    PT X a (fun σ H Q=>ta σ H fun x H'=>∃k,YV X.K x H' k/\Q k H'):=by
  intro pins s σ H Q I h;exact isTrue_plain (Aw (ha pins s σ H _ I h) fun v s1 ⟨x,H1,I1,r1,q1⟩=>dn pins s1 σ H1 x v Q I1 r1 q1) (he _)
theorem PY:Ef X (binaryOp .Add) (fun x y H Q=>∃i j,x=.str i/\y=.str j/\i.length+j.length<=sizeLine/\Q (.str (i++j)) H):=by
 intro pins s σ H x y v u Q I rx ry h;obtain⟨i,j,rfl,rfl,hz,q⟩:=h;obtain⟨t,rfl⟩:=rx;obtain⟨t',rfl⟩:=ry;exact add_str (fun t' tk=>⟨.str (i++j),H,I.tok _,⟨_,rfl⟩,q⟩) hz
theorem vals1{x:V}(r:AF [x] us):∃u,us=[u]/\RelV x u:=by
 cases r with
 | cons r1 r2=>cases r2;exact⟨_,rfl,r1⟩
theorem bq{x y:V}(r:AF [x,y] us):∃u w',us=[u,w']/\RelV x u/\RelV y w':=by
 cases r with
 | cons r1 r2 =>
  cases r2 with
  | cons r3 r4=>cases r4;exact⟨_,_,rfl,r1,r3⟩
theorem Tw(hc:X.calm=true):BG X (.builtin "max") (fun xs H Q=>∃i j,xs=[.int i,.int j]/\Q (.int (if j > i then j else i)) H):=by
 intro pins s σ H xs us Q I r h;obtain⟨i,j,rfl,q⟩:=h;obtain⟨u,w',rfl,⟨t,rfl⟩,⟨t',rfl⟩⟩:=bq r;refine max_two_ints (I.ok.hd hc) fun h' tk k=>⟨_,H,I.kept k,?_,q⟩
 by_cases hj:j > i
 ·rw[if_pos hj,if_pos hj];exact⟨_,rfl⟩
 ·rw[if_neg hj,if_neg hj];exact⟨_,rfl⟩
theorem Tv(hc:X.calm=true):BG X (.builtin "min") (fun xs H Q=>∃i j,xs=[.int i,.int j]/\Q (.int (if j < i then j else i)) H):=by
 intro pins s σ H xs us Q I r h;obtain⟨i,j,rfl,q⟩:=h;obtain⟨u,w',rfl,⟨t,rfl⟩,⟨t',rfl⟩⟩:=bq r;refine min_two_ints (I.ok.hd hc) fun h' tk k=>⟨_,H,I.kept k,?_,q⟩
 by_cases hj:j < i
 ·rw[if_pos hj,if_pos hj];exact⟨_,rfl⟩
 ·rw[if_neg hj,if_neg hj];exact⟨_,rfl⟩
def mw(K:W.Frag)(x:V)(H:Hp)(n:Nat):Prop:=
 match x with
 | .str y=>y.length<=sizeLine/\n=y.length
 | .byt y=>y.size<=sizeLine/\n=y.size
 | .ref p=>(∃xs,Cy K H p xs/\n=xs.length)\/∃xs,De K H p xs/\n=xs.length
 | _=>False
theorem Xd:BG X (.builtin "len") (fun xs H Q=>∃x n,xs=[x]/\mw X.K x H n/\Q (.int n) H):=by
 intro pins s σ H xs us Q I r h;obtain⟨x,n,rfl,e,q⟩:=h;obtain⟨u,rfl,rx⟩:=vals1 r;have hl:=Gv;have hs:sizeLine=16777216:=N6;cases x with
 | str y =>
  obtain⟨t,rfl⟩:=rx;obtain⟨hy,e'⟩:y.length<=sizeLine/\n=y.length:=e;subst e';exact len_str (by omega) ⟨.int _,H,I.tok _,⟨_,rfl⟩,q⟩
 | byt y =>
  obtain⟨t,rfl⟩:=rx;obtain⟨hy,e'⟩:y.size<=sizeLine/\n=y.size:=e;subst e';exact W.len_bytes (by omega) ⟨.int _,H,I.tok _,⟨_,rfl⟩,q⟩
 | ref p =>
  cases rx;have e':(∃xs,Cy X.K H p xs/\n=xs.length)\/∃xs,De X.K H p xs/\n=xs.length:=e;rcases e' with⟨xs,hx,e'⟩ | ⟨xs,hx,e'⟩
  ·subst e';obtain⟨its,r',pl,hz⟩:=I.list hx;have hlen:=r'.length;exact Calls.call_len_list pl.isList (by simp only[B0];omega) ⟨.int xs.length,H,I.tok _,⟨_,by simp only[B0];rw[hlen]⟩,q⟩
  ·subst e';obtain⟨its,r',pl,hz⟩:=I.tuple hx;have hlen:=r'.length;exact len_tuple pl (by simp only[B0];omega) ⟨.int xs.length,H,I.tok _,⟨_,by simp only[B0];rw[hlen]⟩,q⟩
 | _=>exact(show False from e).elim
end
structure zAI (h:H9) (x dx C:B3) (mA:Str->Option Value):Prop where
 obj:h.get? x=some (W.instObj C dx)
 ns:h.Ns1 dx mA
 ne:dx≠x
theorem Sy{dx:B3}{mA:Str->Option Value}(n:h.Ns1 dx mA):∃od,h.get? dx=some od/\∀name,W.lookIn name od=some (mA name):=by
  obtain⟨o,es,ep,ho,hd,hk,_,hm⟩:=n;refine⟨o,ho,fun name=>?_⟩;have e:=hm name;unfold nsFind findBy at e;rw[<- Array.find?_toList] at e;unfold W.lookIn;rw[hd];dsimp only;split
  · rename_i y q;rw[q] at e;exact congrArg some e
  · rename_i q;rw[q] at e;have a:es.toList.any (·.refKey)=false:=by
      rw[td];intro y hy;obtain⟨z,t,zBH⟩:=hk y (Array.mem_toList_iff.mp hy);simp[DictEntry.refKey,zBH]
    have a':¬es.toList.any (·.refKey)=true:=by rw[a];exact B9
    rw[if_neg a'];exact congrArg some e
variable {C:B3}
theorem zAI.look{x dx:B3}{mA:Str->Option Value}(I:zAI h x dx C mA):∃od,W.InstAt h x (W.instObj C dx) C (some od)/\∀name,W.lookIn name od=some (mA name):=
 let ⟨od,ho,hl⟩:=Sy I.ns
 ⟨od,⟨I.obj,rfl,rfl,ho⟩,hl⟩
section
variable {prog:F0} {w:J7} {A:I9} {E:Value->A7->Prop} {s:A7} {K:W.Frag} {x dx C f:B3} {mA:Str->Option Value} {name:Str} {v:Value}
theorem aP{expr:Bool}{Q:Value->A7->Prop}(X:K.In s.heap)(I:zAI s.heap x dx C mA)(hg:W.plainGet K C name=true)(hh:W.hasDictIn K C=true)
    (ha:W.findIn K (.ref C) name=some none) (hv:mA name=some v) (hv':W.handedIn v=true) (h:Q v { s with toks:=s.toks+1 }) :
    B6 (D4 prog w) A (getAttr (.ref x) name expr) Q E s:=by
  obtain⟨od,J,hl⟩:=I.look;exact W.get_value X J (W.plainGet_of hg).1 (W.findObj_own hh ha rfl (by rw[hl,hv])) hv' h
theorem Wl{pl:Sem Bool}{Q:Value×List Value->A7->Prop}(X:K.In s.heap)(I:zAI s.heap x dx C mA)(hg:W.plainGet K C name=true)
    (hf:W.findIn K (.ref C) name=some (some (.ref f))) (ht:W.isFn K (.ref f)=true) (hv:mA name=none) (h:Q (.ref f,[.ref x]) s) :
    B6 (D4 prog w) A (qx (.ref x) name pl) Q E s:=by
  obtain⟨od,J,hl⟩:=I.look;exact W.method_fn X J (W.plainGet_of hg).1 (W.plainGet_of hg).2 hf (beq_iff_eq.mp ht) (by show(W.lookIn name od).map (·.isSome)=some false;rw[hl,hv];rfl) h
theorem ZH{ns:List Str}{Q:Unit->A7->Prop}(X:K.In s.heap)(I:zAI s.heap x dx C mA)
    (hs:W.findIn K (.ref C) "__setattr__" = some (some (.builtin "object.__setattr__"))) (hp:W.plainOver K C=true) (ht:W.takerIn K C name=some none) (hh:W.hasDictIn K C=true)
    (hw:tX mA ns) (hsz:ns.length<=sizeLine)
    (h:∀h',zAI h' x dx C (fun y=>if y=name then some v else mA y)->K9 dx s.heap h'->Q () { s with heap:=h',toks:=s.toks+2 }) :
    B6 (D4 prog w) A (setAttr (.ref x) name v) Q E s:=by
  obtain⟨od,J,hl⟩:=I.look;refine W.set_plain X J hs (W.osa_open (s:={ s with toks:=s.toks+1 }) (r:=none) X J hp ht fun b=>?_);obtain⟨cd,hc,z9⟩:=W.any_some hh;have hx:s.heap.get? x=some ⟨.ref C,some dx,.plain,#[]⟩:=I.obj;refine A1 (A6 (A1 (A1 (wpAny_loadPart hx (A1 (W.Looks.here (s:={ s with toks:=s.toks+1 }) (W.looks_clsIn X hc) ?_))))));rw[z9];refine A6 (a:=some dx) (A1 (A6 (A1 ?_)));refine wpAny_nsSet1 (s:={ s with toks:=s.toks+1 }) I.ns fun h' hn2 z8=>?_
  obtain⟨oD,esD,epD,hoD,hdD,hcD⟩:=hn2.count (wQ name v hw);refine A1 (wpAny_lookBehind hoD (by rw[hdD];exact pastItsLine_dict (C4 hcD (by rw[D9];omega))) ?_);exact A6 (h _ ⟨(z8.2 _ (Ne.symm I.ne)).trans I.obj,hn2,I.ne⟩ z8)
theorem WO{R:uY->A7->Prop}{vs:List Value}{kw:List (Str×Value)}(X:K.In s.heap)(hm:W.makesIn K C=true)
    (hi:W.findIn K (.ref C) "__init__" = some (some (.ref f))) (hf:W.typeIn K (.ref f)=some (.type "function"))
    (h:W8 (D4 prog w) (A.under (.builtin "type.__call__" ⟨.ref C::vs,kw⟩)) (.call (.ref f) ⟨.ref (s.heap.objs.size+1)::vs,kw⟩) (W.InitBack (s.heap.objs.size+1) R)
      { s with heap:=(s.heap.push W.emptyDict).push (W.instObj C s.heap.objs.size) }) :
    W8 (D4 prog w) A (.call (.ref C) ⟨vs,kw⟩) R s:=by
  obtain⟨hh,g,d,t,os⟩:=s;exact W.make_core (W.makes_of X hm) (W.looks_findIn X hi) (fun self=>W.bind_fn X self hf) (.inl rfl) h
end
noncomputable def ER(f:Str)(v:V):List (Str×V)->List (Str×V)
 | []=>[(f,v)]
 | (g,x)::r=>if g=f then(g,v)::r else(g,x)::ER f v r
theorem ES(f g:Str)(v:V):∀fs:List (Str×V),(ER f v fs).lookup g=if g=f then some v else fs.lookup g
 | []=>by
  show Y5 g [(f,v)]=_
  by_cases h:g=f
  ·have hb:(g == f)=true:=beq_iff_eq.mpr h;simp only[Y5,hb,if_pos h]
  ·have hb:(g == f)=false:=beq_eq_false_iff_ne.mpr h;simp only[Y5,hb,if_neg h]
 | (k,x)::r=>by
  have ih:=ES f g v r;rw[show ER f v ((k,x)::r)=(if k=f then(k,v)::r else(k,x)::ER f v r) from rfl]
  by_cases hk:k=f
  ·rw[if_pos hk]
   by_cases h:g=k
   ·have hb:(g == k)=true:=beq_iff_eq.mpr h;simp only[Y5,hb,if_pos (h.trans hk)]
   ·have hb:(g == k)=false:=beq_eq_false_iff_ne.mpr h;simp only[Y5,hb,if_neg (fun e:g=f=>h (e.trans hk.symm))]
  ·rw[if_neg hk]
   by_cases h:g=k
   ·have hb:(g == k)=true:=beq_iff_eq.mpr h;simp only[Y5,hb,if_neg (fun e:g=f=>hk (h.symm.trans e))]
   ·have hb:(g == k)=false:=beq_eq_false_iff_ne.mpr h;simp only[Y5,hb];exact ih
theorem Gw(f:Str)(v:V):∀fs:List (Str×V),f∈(ER f v fs).map (·.1)/\∀g,g∈fs.map (·.1)->g∈(ER f v fs).map (·.1)
 | []=>⟨by simp[ER],fun g h=>by simp at h⟩
 | (k,x)::r=>by
  obtain⟨i1,i2⟩:=Gw f v r;rw[show ER f v ((k,x)::r)=(if k=f then(k,v)::r else(k,x)::ER f v r) from rfl]
  by_cases hk:k=f
  ·rw[if_pos hk];subst hk;exact⟨by simp,fun g h=>by simpa using h⟩
  ·rw[if_neg hk];refine⟨?_,fun g h=>?_⟩
   ·rw[C5];exact A9 _ i1
   ·rw[C5] at h ⊢;rcases C8.mp h with e | e
    ·exact C8.mpr (.inl e)
    ·exact A9 _ (i2 g e)
theorem HZ(f:Str)(v:V):∀fs:List (Str×V),(ER f v fs).length<=fs.length+1
 | []=>by simp[ER]
 | (k,x)::r=>by
  have ih:=HZ f v r;rw[show ER f v ((k,x)::r)=(if k=f then(k,v)::r else(k,x)::ER f v r) from rfl]
  by_cases hk:k=f
  ·rw[if_pos hk,D9,D9];omega
  ·rw[if_neg hk,D9,D9];omega
theorem FF.some_of{o:Option Value}(r:FF (some v) o):∃u,o=some u/\RelV v u:=by
 cases o with
 | none=>exact(show False from r).elim
 | some u=>exact⟨u,rfl,r⟩
theorem FF.none_of{o:Option Value}(r:FF none o):o=none:=by
 cases o with
 | none=>rfl
 | some u=>exact(show False from r).elim
theorem TL(r:RelV v u):W.handedIn u=true:=by
 cases v with
 | we=>cases(show u=N4 from r);rfl
 | bl b=>cases(show u=Y4 b from r);rfl
 | int i=>obtain⟨t,e⟩:=(show ∃t,u=qt i t from r);cases e;rfl
 | str x=>obtain⟨t,e⟩:=(show ∃t,u=sT x t from r);cases e;rfl
 | byt b=>obtain⟨t,e⟩:=(show ∃t,u=wF b t from r);cases e;rfl
 | flt b=>obtain⟨t,e⟩:=(show ∃t,u=ux b t from r);cases e;rfl
 | ref a=>cases(show u=F7 a from r);rfl
 | ty n=>cases(show u=G2 n from r);rfl
section
variable {P:F0} {w:J7} {H H':Hp} {h h':H9} {a C dx:B3} {fs fs':List (Str×V)}
theorem Hx(wj:FY P w H h)(e:H a=some (.ins C dx fs)):∃mA,zAI h a dx C mA/\(∀f,FF (fs.lookup f) (mA f))/\tX mA (fs.map (·.1))/\fs.length<=1000/\H dx=some (.own a):=by
 obtain⟨d,z,ne,ob,mA,n,r,q⟩:=(show Ab P w H h a (.ins C dx fs) from wj a _ e);exact⟨mA,⟨ob,n,ne⟩,r,q,z,d⟩
end
structure Cls (K:W.Frag) (C:B3):Prop where
 pg:W.plainGet K C Str.empty=true
 hd:W.hasDictIn K C=true
 po:W.plainOver K C=true
 sa:W.findIn K (.ref C) "__setattr__" = some (some (.builtin "object.__setattr__"))
theorem Cls.get{K:W.Frag}(c:Cls K C)(f:Str):W.plainGet K C f=true:=c.pg
def Eg(K:W.Frag)(C:B3)(f:Str):Prop:=W.findIn K (.ref C) f=some none
theorem Eg.zCK{K:W.Frag}{f:Str}(n:Eg K C f):W.takerIn K C f=some none:=by
 unfold W.takerIn;rw[show W.findIn K (.ref C) f=some none from n];rfl
structure Meth (K:W.Frag) (C:B3) (m:Str) (f:B3):Prop where
 at_:W.findIn K (.ref C) m=some (some (.ref f))
 fn:W.isFn K (.ref f)=true
 kp:W.keepIn K (.ref f)=true
section
variable {X:Cx} {pins:List (B3×Obj)} {σ:St} {H:Hp} {s:A7} {a C dx:B3} {fs:List (Str×V)} {f:Str} {v:V} {A:I9} {E:Value->A7->Prop}
theorem Pu{b:Bool}{Q:Value->A7->Prop}(I:Inv X pins σ H s)(e:H a=some (.ins C dx fs))(c:Cls X.K C)(n:Eg X.K C f)(l:fs.lookup f=some v)
    (h:∀u s',Inv X pins σ H s'->RelV v u->Q u s'):B6 (D4 X.prog X.w) A (getAttr (.ref a) f b) Q E s:=by
  obtain⟨mA,O,r,_,_,_⟩:=Hx I.wj e;obtain⟨u,hu,ru⟩:=FF.some_of (v:=v) (o:=mA f) (by rw[<- l];exact r f);exact aP I.yK O (c.get f) c.hd n hu (TL ru) (h u _ (I.tok _) ru)
theorem FR{m:Str}{g:B3}{pl:Sem Bool}{Q:Value×List Value->A7->Prop}(I:Inv X pins σ H s)(e:H a=some (.ins C dx fs))(c:Cls X.K C)(k:Meth X.K C m g)(l:fs.lookup m=none)
    (h:Q (.ref g,[.ref a]) s):B6 (D4 X.prog X.w) A (qx (.ref a) m pl) Q E s:=by
  obtain⟨mA,O,r,_,_,_⟩:=Hx I.wj e;have hn:mA m=none:=FF.none_of (by rw[<- l];exact r m);exact Wl I.yK O (c.get m) k.at_ k.fn hn h
theorem PB{y:V}{Q:Unit->A7->Prop}(I:Inv X pins σ H s)(e:H a=some (.ins C dx fs))(c:Cls X.K C)(n:Eg X.K C f)(hl:fs.length < 1000)(ry:RelV y u)
    (h:∀s',Inv X pins σ (upd H a (.ins C dx (ER f y fs))) s'->Q () s'):B6 (D4 X.prog X.w) A (setAttr (.ref a) f u) Q E s:=by
  obtain⟨mA,O,r,wi,_,ho⟩:=Hx I.wj e;have hz:(fs.map (·.1)).length<=sizeLine:=by rw[A8,N6];omega
  refine ZH I.yK O c.sa c.po n.zCK c.hd wi hz fun h' O' sb=>h _ ?_
  have hd:∃o,h'.get? dx=some o:=let ⟨o,_,_,e',_⟩:=O'.ns;⟨o,e'⟩;refine I.write (x:=a) (e:=dx) (by rw[e];exact True.intro) (.inr ho) (fun b q hb z=>(sb.2 b hb).trans z) hd ?_;refine⟨by rw[AE O.ne];exact ho,?_,O.ne,O'.obj,_,O'.ns,fun g=>?_,fun g hg=>?_⟩
  · have:=HZ f y fs;omega
  · show FF ((ER f y fs).lookup g) (if g=f then some u else mA g);rw[ES]
    by_cases q:g=f
    · rw[if_pos q,if_pos q];exact ry
    · rw[if_neg q,if_neg q];exact r g
  · by_cases q:g=f
    · rw[q];exact(Gw f y fs).1
    · refine(Gw f y fs).2 g (wi g fun z=>hg ?_);show(if g=f then some u else mA g)=none;rw[if_neg q];exact z
theorem Inv.made(I:Inv X pins σ H s):Inv X pins σ (upd (upd H s.heap.objs.size (.own (s.heap.objs.size+1))) (s.heap.objs.size+1) (.ins C s.heap.objs.size []))
    { s with heap:=(s.heap.push W.emptyDict).push (W.instObj C s.heap.objs.size) }:=by
  have e1:(s.heap.push W.emptyDict).get? s.heap.objs.size=some W.emptyDict:=B2 s.heap rfl;have e2:((s.heap.push W.emptyDict).push (W.instObj C s.heap.objs.size)).get? (s.heap.objs.size+1)=some (W.instObj C s.heap.objs.size):=by
    have:=B2 (s.heap.push W.emptyDict) (o:=W.instObj C s.heap.objs.size) rfl
    rwa [J0] at this
  have e3:(s.heap.push W.emptyDict).Ns s.heap.objs.size (fun _=>none):=⟨W.emptyDict,#[],_,e1,rfl,(fun e he=>absurd he (by simp)),fun _=>rfl⟩;have I1:=I.laid (a:=s.heap.objs.size) (o:=.own (s.heap.objs.size+1)) (h':=s.heap.push W.emptyDict) (t':=s.toks) (fun b u q=>A2 _ q) (B4 _) ⟨_,e1⟩;refine I1.laid (a:=s.heap.objs.size+1) (o:=.ins C s.heap.objs.size []) (t':=s.toks) (fun b u q=>A2 _ q) (m5 (J0 _ _)) ?_;have ne:s.heap.objs.size≠s.heap.objs.size+1:=D1 (M1 _);refine⟨by rw[AE ne,AM],J8 _,ne,e2,fun _=>none,(Heap.Ns1.of_empty e3).at fun o q=>A2 _ q,fun _=>True.intro,fun y hy=>absurd rfl hy⟩
theorem bS{prog:F0}{w:J7}{env:Env}{f:Str}{pos:Pos}{s:A7}{Q:Value->A7->Prop}(hb:Q0 e f env (M8 e env)=M8 e env)
    (h:B6 (D4 prog w) A (M8 e env) (fun o wa=>B6 (D4 prog w) A (getAttr o f true) Q E wa) E s):B6 (D4 prog w) A (M8 (.Attribute e f pos) env) Q E s:=
  Attribute_any_ h (by rw[arm_eval_Attribute,hb])
end
def Yv(K:W.Frag)(ta:TE)(f:Str):TE:=fun σ H Q=>ta σ H fun x H1=>∃a C dx fs v,x=.ref a/\H1 a=some (.ins C dx fs)/\Cls K C/\Eg K C f/\fs.lookup f=some v/\Q v H1
def jz(K:W.Frag)(ta tv:TE)(f:Str):TS:=fun D σ H=>tv σ H fun y H1=>ta σ H1 fun x H2=>∃a C dx fs,x=.ref a/\H2 a=some (.ins C dx fs)/\Cls K C/\Eg K C f/\fs.length < 1000 /\
 D.nx σ (upd H2 a (.ins C dx (ER f y fs)))
section
variable {X:Cx} {o e value:Expr} {f:Str} {pos pos' xm:Pos} {ta tv:TE}
theorem fX(he:PE X e ta)(hb:Q0 e f X.env (M8 e X.env)=M8 e X.env):PE X (.Attribute e f pos) (Yv X.K ta f):=by
 intro pins s σ H Q I h;refine bS hb (Aw (he pins s σ H _ I h) fun u s1 ⟨x,H1,I1,rx,a,C,dx,fs,v,ex,ea,c,n,l,q⟩=>?_);subst ex;obtain rfl:u=F7 a:=rx;exact Pu I1 ea c n l fun u' s2 I2 ru=>⟨v,H1,I2,ru,q⟩
theorem fC(ha:PE X o ta)(hv:PE X value tv)(hs:V8 value (some (.Attribute o f pos')) pos.line X.env=pure false):PS X (.Assign [.Attribute o f pos'] value pos) (jz X.K ta tv f):=by
 intro pins s σ H D I h;refine plainObj_wpAny_Assign_Attribute (Aw (hv pins s σ H _ I h) fun u s1 ⟨y,H1,I1,ry,q⟩=>Aw (ha pins s1 σ H1 _ I1 q) fun ov s2 ⟨x,H2,I2,rx,a,C,dx,fs,ex,ea,c,n,l,q2⟩=>?_) hs;subst ex;obtain rfl:ov=F7 a:=rx;exact PB I2 ea c n l ry fun s3 I3=>⟨σ,_,I3,q2⟩
theorem cX{pl:Sem Bool}{m:Str}{apos:Pos}{args:List Expr}{σ:St}{Q:Value->A7->Prop}{te:TE}(he:PE X e te)(I:Inv X pins σ H s)
    (h:te σ H fun x H1=>∃a C dx fs g,x=.ref a/\H1 a=some (.ins C dx fs)/\Cls X.K C/\Meth X.K C m g/\fs.lookup m=none /\
      ∀s1,Inv X pins σ H1 s1->B6 (D4 X.prog X.w) X.A (tf pos (.ref g) [.ref a] (M6 pos (D2 args X.env)) (j5 pos (U9 [] X.env))) Q X.xe s1)
    (ht:M8 (.Call (.Attribute e m apos) args [] pos) X.env=(do
      let ov <- M8 e X.env
      sV apos.atName
      let (f,first) <- Z0 [ov] (qx ov m pl)
      tf pos f first (M6 pos (D2 args X.env)) (j5 pos (U9 [] X.env)))) :
    B6 (D4 X.prog X.w) X.A (M8 (.Call (.Attribute e m apos) args [] pos) X.env) Q X.xe s:=by
  refine W.methodCall_KW (pl:=pl) (Aw (he pins s σ H _ I h) fun u s1 ⟨x,H1,I1,rx,a,C,dx,fs,g,ex,ea,c,k,l,q⟩=>?_) ht;subst ex;obtain rfl:u=F7 a:=rx;exact FR I1 ea c k l (q s1 I1)
end
section
variable {X:Cx} {pins:List (B3×Obj)} {σ:St} {H:Hp} {s:A7} {A:I9} {E:Value->A7->Prop} {Q:Value->A7->Prop} {c:Value} {b:Bool}
inductive xq (K:W.Frag) (H:Hp):V->Value->Prop where
  | we:xq K H .we (.type "NoneType")
  | bl (x:Bool):xq K H (.bl x) (.type "bool")
  | int (i:Int):xq K H (.int i) (.type "int")
  | str (x:Str):xq K H (.str x) (.type "str")
  | flt (x:UInt64):xq K H (.flt x) (.type "float")
  | lst {a:B3} {xs:List V} (e:H a=some (.lst xs)):xq K H (.ref a) (.type "list")
  | frz {a:B3} {o:Obj} {xs:List V} (e:H a=some (.frz o (.lst xs))):xq K H (.ref a) (.type "list")
  | tup {a:B3} {xs:List V} (e:H a=some (.tup xs)):xq K H (.ref a) (.type "tuple")
  | dK {a:B3} {wY:List (BF×V)} (e:H a=some (.dK wY)):xq K H (.ref a) (.type "dict")
  | dT {a:B3} {wY:List (List BF×V)} (e:H a=some (.dT wY)):xq K H (.ref a) (.type "dict")
  | ins {a C dx:B3} {fs:List (Str×V)} (e:H a=some (.ins C dx fs)) (cl:Cls K C) (ha:W.findIn K (.ref C) "__class__" = some (some (.builtin "object.__class__")))
      (hn:W.specialIn K (.builtin "object.__class__") "__get__" = some (some (.builtin "getset_descriptor.__get__"))) (htk:W.takesIn K (.builtin "object.__class__")=some true)
      (hm:W.mroIn K C (.type "object")=some true):xq K H (.ref a) (.ref C)
theorem TF{x:V}{t:Value}(I:Inv X pins σ H s)(rx:RelV x u)(ty:xq X.K H x t)(e:W.kitOne X.K t c=some b)(h:∀tk,Q (.bool b) { s with toks:=tk }) :
    B6 (D4 X.prog X.w) A (call (.builtin "isinstance") [u,c]) Q E s:=by
  cases ty with
  | we=>cases(show u=N4 from rx);exact W.kia_one W.kitx_none I.yK True.intro e (fun z=>nomatch z) h
  | bl y=>cases(show u=Y4 y from rx);exact W.kia_one W.kitx_bool I.yK True.intro e (fun z=>nomatch z) h
  | int i=>obtain⟨t,q⟩:=(show ∃t,u=qt i t from rx);cases q;exact W.kia_one W.kitx_int I.yK True.intro e (fun z=>nomatch z) h
  | str y=>obtain⟨t,q⟩:=(show ∃t,u=sT y t from rx);cases q;exact W.kia_one W.kitx_str I.yK True.intro e (fun z=>nomatch z) h
  | flt y=>obtain⟨t,q⟩:=(show ∃t,u=ux y t from rx);cases q;exact W.kia_one W.kitx_float I.yK True.intro e (fun z=>nomatch z) h
  | @lst a xs ea =>
    cases(show u=F7 a from rx);obtain⟨_,_,n,_,h1⟩:=(show Ab X.prog X.w H s.heap a (.lst xs) from I.wj a _ ea);exact W.kia_one W.kitx_list I.yK ⟨_,h1,rfl⟩ e (fun z=>nomatch z) h
  | @frz a ob xs ea =>
    cases(show u=F7 a from rx);obtain⟨_,_,_,n,_,h1⟩:=(show Ab X.prog X.w H s.heap a (.frz ob (.lst xs)) from I.wj a _ ea);exact W.kia_one W.kitx_list I.yK ⟨_,h1,rfl⟩ e (fun z=>nomatch z) h
  | @tup a xs ea =>
    cases(show u=F7 a from rx);obtain⟨_,_,_,p⟩:=(show Ab X.prog X.w H s.heap a (.tup xs) from I.wj a _ ea);obtain⟨o,h1,h2,_⟩:=p;exact W.kia_one W.kitx_tuple I.yK ⟨o,h1,h2⟩ e (fun z=>nomatch z) h
  | @dK a wY ea =>
    cases(show u=F7 a from rx);obtain⟨_,_,vs,_,p⟩:=(show Ab X.prog X.w H s.heap a (.dK wY) from I.wj a _ ea);obtain⟨o,es,ep,h1,h2,_⟩:=p;exact W.kia_one W.kitx_dict I.yK ⟨o,h1,h2.1⟩ e (fun z=>nomatch z) h
  | @dT a wY ea =>
    cases(show u=F7 a from rx);obtain⟨_,_,xs,_,o,es,ep,h1,h2,_⟩:=(show Ab X.prog X.w H s.heap a (.dT wY) from I.wj a _ ea);exact W.kia_one W.kitx_dict I.yK ⟨o,h1,h2.1⟩ e (fun z=>nomatch z) h
  | @ins a C dx fs ea cl ha hn htk hm =>
    cases(show u=F7 a from rx);obtain⟨mA,O,_⟩:=Hx I.wj ea;obtain⟨od,J,_⟩:=O.look;exact W.kia_one (W.kitx_own (cl.get _) cl.hd ha hn htk hm) I.yK J e (fun z=>nomatch z) h
end
structure wt (k:Nat) (A:I9):Prop where
 hd:A.handled=none
 dp:A.depth+3 * k+5 < recursionLimit
 un:A.units+16 * k+200 < S4
 gd:A.guards=some []
variable {k:Nat}
theorem wt.mono{j:Nat}(r:wt k A)(h:j<=k):wt j A:=⟨r.hd,by have:=r.dp;omega,by have:=r.un;omega,r.gd⟩
theorem wt.deeper(r:wt (k+1) A)(env:Env):wt k (A.deeper env):=
 ⟨r.hd,by have:=r.dp;show A.depth+1+3 * k+5 < _;omega,by have:=r.un;show A.units+3+16 * k+200 < _;omega,r.gd⟩
theorem Ph{kw:List (Str×Value)}:(A.under (.builtin "type.__call__" ⟨.ref C::us,kw⟩)).depth=A.depth+1:=by
 first | rfl | simp[m6,Code.weight,Code.isCreation,tj,Code.isCaller,wH,tm,guardIds]
theorem Pg{kw:List (Str×Value)}:(A.under (.builtin "type.__call__" ⟨.ref C::us,kw⟩)).units=A.units+1:=by
 first | rfl | simp[m6,Code.cUnits,wH,tm]
theorem wt.make(r:wt (k+1) A)(C:B3)(us:List Value)(kw:List (Str×Value)):wt k (A.under (.builtin "type.__call__" ⟨.ref C::us,kw⟩)):=
 ⟨r.hd,by have:=r.dp;rw[Ph];omega,by have:=r.un;rw[Pg];omega,by
 have e:(A.under (.builtin "type.__call__" ⟨.ref C::us,kw⟩)).guards=A.guards:=by
  first | rfl | (simp only[m6,wI,tj];cases A.guards<;>simp[pushGuards,guardIds]) | simp[m6,wI,tj,guardIds,pushGuards]
 rw[e];exact r.gd⟩
theorem wt.depth(r:wt k A):A.depth < recursionLimit:=by have:=r.dp;omega
abbrev SM:TA:=fun _ H Q=>Q [] H
abbrev bz(ta:TE)(tr:TA):TA:=fun σ H Q=>ta σ H fun x H1=>tr σ H1 fun xs H2=>Q (x::xs) H2
section
variable {X:Cx} {e:Expr} {es:List Expr} {te:TE} {t:TA} {pos:Pos}
theorem PX:PA X [] SM:=fun _ _ _ _ H Q I h=>S9 ⟨[],H,I,.nil,h⟩
theorem DC(ha:PE X e te)(hr:PA X es t)(hs:D2 (e::es) X.env=(false,M8 e X.env)::D2 es X.env:=by rfl):PA X (e::es) (bz te t):=by
 intro pos pins s σ H Q I h;rw[hs];show B6 _ _ (sU ((false,M8 e X.env)::M6 pos (D2 es X.env))) _ _ s;refine V2 (Aw (ha pins s σ H _ I h) fun u s1 ⟨x,H1,I1,r1,q1⟩=>?_);exact Aw (hr pos pins s1 σ H1 _ I1 q1) fun us s2 ⟨xs,H2,I2,r2,q2⟩=>⟨x::xs,H2,I2,.cons r1 r2,q2⟩
abbrev nW(t:TA):TE:=fun σ H Q=>t σ H fun xs H1=>xs.length<=sizeLine/\∀p,H1 p=none->Q (.ref p) (upd H1 p (.tup xs))
abbrev nc(t:TA):TE:=fun σ H Q=>t σ H fun xs H1=>xs.length<=sizeLine/\∀p,H1 p=none->Q (.ref p) (upd H1 p (.lst xs))
theorem fQ{x1}(h:PA X es t):PE X (.Tuple es x1 pos) (nW t):=by
 intro pins s σ H Q I hq;refine wpAny_Tuple_spliced (Aw (h pos pins s σ H _ I hq) fun us s1 ⟨xs,H1,I1,r,z,q⟩=>⟨by rw[<- r.length];exact z,?_⟩);have hf:H1 s1.heap.objs.size=none:=I1.wj.fresh (B4 _);refine⟨.ref s1.heap.objs.size,upd H1 s1.heap.objs.size (.tup xs),I1.laid (t':=s1.toks) (fun b u e=>A2 _ e) (B4 _) ?_,rfl,q _ hf⟩;exact⟨z,us,r,⟨_,B2 _ rfl,rfl,rfl,_,rfl⟩⟩
theorem fV(h:PA X es t):PE X (.List es pos) (nc t):=by
 intro pins s σ H Q I hq;refine wpAny_List_spliced (Aw (h pos pins s σ H _ I hq) fun us s1 ⟨xs,H1,I1,r,z,q⟩=>⟨by rw[<- r.length];exact z,?_⟩);have hf:H1 s1.heap.objs.size=none:=I1.wj.fresh (B4 _);refine⟨.ref s1.heap.objs.size,upd H1 s1.heap.objs.size (.lst xs),I1.laid (t':=s1.toks) (fun b u e=>A2 _ e) (B4 _) ?_,rfl,q _ hf⟩;exact⟨z,us,0,r,B2 _ rfl⟩
end
abbrev Sp:=List V->Hp->VK->XK->Prop
abbrev YY:=List Env->Hp->A7->XK->Value->A7->Prop
structure zAJ (P:F0) (w:J7) (K:W.Frag) (mg:Str->Option Value) (base:H9) (A:I9) (outer:List Env) (s:A7) (H:Hp):Prop where
 frames:A.frames=some outer
 mod:Mod K mg base
 bs:∀b o,base.get? b=some o->s.heap.get? b=some o/\H b=none
 bsz:base.objs.size<=s.heap.objs.size
 yO:s.heap.FunFrames base outer
 frf:∀b∈RW outer,H b=none
 wj:FY P w H s.heap
 bare:qf s.gens
def CE(outer:List Env)(P:F0)(w:J7)(H:Hp)(s:A7)(Q:VK)(u:Value)(s':A7):Prop:=
 ∃v H',s'.os=s.os/\qf s'.gens/\Un (RW outer) [] H H' s.heap s'.heap/\FY P w H' s'.heap/\RelV v u/\Q v H'
def CR(CX:YY)(outer:List Env)(P:F0)(w:J7)(H:Hp)(s:A7)(Q:VK)(E:XK)(r:uY)(s':A7):Prop:=
 match r with
 | .ok (.ret u)=>CE outer P w H s Q u s'
 | .ok _=>False
 | .error e=>CX outer H s E e s'
structure xI (P:F0) (w:J7) (K:W.Frag) (mg:Str->Option Value) (base:H9) (CX:YY) (k:Nat) (f:B3) (fd:R8) (ps:List Str) (sp:Sp):Prop where
 len:∀vs H Q E,sp vs H Q E->vs.length=ps.length
 run:∀(A:I9) (outer:List Env) (s:A7) (H:Hp) (args:Args) (us:List Value) (vs:List V) (Q:VK) (E:XK),wt k A->zAJ P w K mg base A outer s H->tq s fd args (ps.zip us)->AF vs us->sp vs H Q E ->
  W8 (D4 P w) A (.call (.ref f) args) (CR CX outer P w H s Q E) s
variable {mg:Str->Option Value} {base:H9}
theorem xI.imp{K:W.Frag}{CX:YY}{f:B3}{fd:R8}{ps:List Str}{sp sp':Sp}(F:xI P w K mg base CX k f fd ps sp)
    (h:∀vs H Q E,sp' vs H Q E->sp vs H Q E):xI P w K mg base CX k f fd ps sp':=
  ⟨fun vs H Q E q=>F.len vs H Q E (h _ _ _ _ q),fun A outer s H args us vs Q E hr he hb hv hs=>F.run A outer s H args us vs Q E hr he hb hv (h _ _ _ _ hs)⟩
theorem zAJ.make{K:W.Frag}{outer:List Env}(e:zAJ P w K mg base A outer s H)(C:B3)(us:List Value)(kw:List (Str×Value)) :
    zAJ P w K mg base (A.under (.builtin "type.__call__" ⟨.ref C::us,kw⟩)) outer s H:=⟨by first | exact e.frames | (simpa[m6,Code.envs,tm,pushEnvs] using e.frames),e.mod,e.bs,e.bsz,e.yO,e.frf,e.wj,e.bare⟩
section
variable {X:Cx} {pins:List (B3×Obj)} {σ:St} {H:Hp} {s s':A7}
theorem Inv.zCu(I:Inv X pins σ H s):zAJ X.prog X.w X.K X.mg X.base X.A X.stack s H:=
 ⟨I.ok.frames,I.ok.mod,I.bs,C4 I.ok.bsz I.sz,I.stack,I.zAL,I.wj,I.bare⟩
theorem Inv.after{Q:VK}(I:Inv X pins σ H s)(h:CE X.stack X.prog X.w H s Q u s'):EP X pins σ Q u s':=by
 obtain⟨v,H',os,bare,un,wj,r,q⟩:=h;obtain⟨hh,g,d,t,os'⟩:=s';obtain rfl:os'=s.os:=os;exact⟨v,H',I.call (h':=hh) (g':=g) (d':=d) (t':=t) (ch:=[]) un wj bare (fun b z=>absurd z (by simp)),r,q⟩
end
abbrev cA(sp:Sp)(yX:List V)(E:XK)(t:TA):TE:=fun σ H Q=>t σ H fun vs H1=>sp (vs++yX) H1 Q E
def Qk(C:B3)(m:Str)(sp:Sp)(yX:List V)(E:XK)(ta:TE)(t:TA):TE:=fun σ H Q=>ta σ H fun x H1=>∃a dx fs,x=.ref a/\H1 a=some (.ins C dx fs)/\fs.lookup m=none /\
 t σ H1 fun vs H2=>sp (x::(vs++yX)) H2 Q E
def Ql(C:B3)(sp:Sp)(yX:List V)(E:XK)(t:TA):TE:=fun σ H Q=>t σ H fun vs H1=>∀x dx,H1 x=none->H1 dx=none->dx≠x ->
 sp (.ref x::(vs++yX)) (upd (upd H1 dx (.own x)) x (.ins C dx [])) (fun v H2=>v=.we/\Q (.ref x) H2) E
def Binds(K:W.Frag)(fd:R8)(ps:List Str)(ds:List Value):Prop:=
 ∀(s:A7) (us:List Value),K.In s.heap->(us++ds).length=ps.length->tq s fd ⟨us,[]⟩ (ps.zip (us++ds))
theorem Binds.all{K:W.Frag}{fd:R8}{ps:List Str}(h:∀us:List Value,us.length=ps.length->qy fd ⟨us,[]⟩=pure (ps.zip us)):Binds K fd ps []:=fun s us _ hl=>by
 rw[L9] at hl ⊢;exact .of_eq (h us hl)
def DN(CX:YY)(X:Cx)(E:XK):Prop:=∀(pins:List (B3×Obj)) (σ:St) (H:Hp) (s:A7) (e:Value) (s':A7),Inv X pins σ H s->CX X.stack H s E e s'->X.xe e s'
section
variable {X:Cx} {CX:YY} {k:Nat} {f C:B3} {fd:R8} {ps:List Str} {sp:Sp} {yX:List V} {ds:List Value} {E:XK} {x m:Str} {p pos apos:Pos} {e o:Expr} {es:List Expr} {ta:TE} {t:TA}
theorem La{pins:List (B3×Obj)}{σ:St}{H:Hp}{s:A7}{Q:VK}{us:List Value}{vs:List V}(F:xI X.prog X.w X.K X.mg X.base CX k f fd ps sp)(hr:wt k X.A)(hb:Binds X.K fd ps ds)(hd:AF yX ds)(hx:DN CX X E)
    (I:Inv X pins σ H s) (r:AF vs us) (h:sp (vs++yX) H Q E):B6 (D4 X.prog X.w) X.A (call (.ref f) us) (EP X pins σ Q) X.xe s:=by
  have r2:AF (vs++yX) (us++ds):=r.append hd;have hl:(us++ds).length=ps.length:=by rw[<- r2.length];exact F.len _ _ _ _ h
  refine vO (Z2 (F.run X.A X.stack s H ⟨us,[]⟩ (us++ds) (vs++yX) Q E hr I.zCu (hb s us I.yK hl) r2 h) fun r s' hq=>?_);cases r with
  | error e=>exact hx pins σ H s e s' I hq
  | ok fl =>
    cases fl with
    | ret u=>exact I.after hq
    | next=>exact E7 hq
    | brk=>exact E7 hq
    | cont=>exact E7 hq
theorem Zn(F:xI X.prog X.w X.K X.mg X.base CX k f fd ps sp)(hr:wt k X.A)(hg:Gl X x)(hm:X.mg x=some (.ref f))(hk:W.keepIn X.K (.ref f)=true)(hb:Binds X.K fd ps ds)(hd:AF yX ds)(hx:DN CX X E)
    (ha:PA X (e::es) t) (zv:(x == ("__debug__" : Str))=false:=by decide) (he:D2 (e::es) X.env=(false,M8 e X.env)::D2 es X.env:=by rfl) (zi:(M6 pos (D2 es X.env)).any (·.1)=false:=by rfl) :
    PE X (.Call (.Name x p) (e::es) [] pos) (cA sp yX E t):=by
  intro pins s σ H Q I h;refine K3 (Fv I hg hm ?_ zv);refine W.callWith_K (h₀:=X.base) I.ok.mod.kin hk (Aw (ha pos pins s σ H _ I h) fun us s1 ⟨vs,H1,I1,r,q⟩=>⟨I1.yK,?_⟩) he zi;exact La F hr hb hd hx I1 r q
theorem Vv(F:xI X.prog X.w X.K X.mg X.base CX k f fd ps sp)(hr:wt k X.A)(hg:Gl X x)(hm:X.mg x=some (.ref f))(hk:W.keepIn X.K (.ref f)=true)(hb:Binds X.K fd ps ds)(hd:AF yX ds)(hx:DN CX X E)
    (zv:(x == ("__debug__" : Str))=false:=by decide):PE X (.Call (.Name x p) [] [] pos) (cA sp yX E SM):=by
  intro pins s σ H Q I h;refine K3 (Fv I hg hm ?_ zv);exact W.callWith_K0 I.yK hk (La (us:=[]) F hr hb hd hx I .nil h)
theorem Zj{pl:Sem Bool}(he:PE X o ta)(c:Cls X.K C)(hm:Meth X.K C m f)(F:xI X.prog X.w X.K X.mg X.base CX k f fd ps sp)(hr:wt k X.A)(hb:Binds X.K fd ps ds)(hd:AF yX ds)(hx:DN CX X E)(ha:PA X (e::es) t)
    (yL:D2 (e::es) X.env=(false,M8 e X.env)::D2 es X.env:=by rfl) (zi:(M6 pos (D2 es X.env)).any (·.1)=false:=by rfl)
    (ht:M8 (.Call (.Attribute o m apos) (e::es) [] pos) X.env=(do
      let ov <- M8 o X.env
      sV apos.atName
      let (f,first) <- Z0 [ov] (qx ov m pl)
      tf pos f first (M6 pos (D2 (e::es) X.env)) (j5 pos (U9 [] X.env))):=by rfl) :
    PE X (.Call (.Attribute o m apos) (e::es) [] pos) (Qk C m sp yX E ta t):=by
  intro pins s σ H Q I h;refine W.methodCall_KW (pl:=pl) (Aw (he pins s σ H _ I h) fun u s1 ⟨x,H1,I1,rx,a,dx,fs,ex,ea,l,q⟩=>?_) ht;subst ex;obtain rfl:u=F7 a:=rx;refine FR I1 ea c hm l ?_;refine W.callWith_K (first:=[.ref a]) (h₀:=X.base) I.ok.mod.kin hm.kp (Aw (ha pos pins s1 σ H1 _ I1 q) fun us s2 ⟨vs,H2,I2,r,q2⟩=>⟨I2.yK,?_⟩) yL zi;exact La (us:=.ref a::us) (vs:=.ref a::vs) F hr hb hd hx I2 (.cons rfl r) q2
theorem Vq{pl:Sem Bool}(he:PE X o ta)(c:Cls X.K C)(hm:Meth X.K C m f)(F:xI X.prog X.w X.K X.mg X.base CX k f fd ps sp)(hr:wt k X.A)(hb:Binds X.K fd ps ds)(hd:AF yX ds)(hx:DN CX X E)
    (ht:M8 (.Call (.Attribute o m apos) [] [] pos) X.env=(do
      let ov <- M8 o X.env
      sV apos.atName
      let (f,first) <- Z0 [ov] (qx ov m pl)
      tf pos f first (M6 pos (D2 [] X.env)) (j5 pos (U9 [] X.env))):=by rfl) :
    PE X (.Call (.Attribute o m apos) [] [] pos) (Qk C m sp yX E ta SM):=by
  intro pins s σ H Q I h;refine W.methodCall_KW (pl:=pl) (Aw (he pins s σ H _ I h) fun u s1 ⟨x,H1,I1,rx,a,dx,fs,ex,ea,l,q⟩=>?_) ht;subst ex;obtain rfl:u=F7 a:=rx;refine FR I1 ea c hm l ?_;exact W.callWith_K0 (first:=[.ref a]) I1.yK hm.kp (La (us:=[.ref a]) (vs:=[.ref a]) F hr hb hd hx I1 (.cons rfl .nil) q)
structure Mk (K:W.Frag) (C f:B3):Prop where
 makes:W.makesIn K C=true
 init:W.findIn K (.ref C) "__init__" = some (some (.ref f))
 fn:W.isFn K (.ref f)=true
 kp:W.keepIn K (.ref C)=true
theorem Mr{pins:List (B3×Obj)}{σ:St}{H:Hp}{s:A7}{Q:VK}{us:List Value}{vs:List V}(M:Mk X.K C f)(F:xI X.prog X.w X.K X.mg X.base CX k f fd ps sp)(hr:wt (k+1) X.A)(hb:Binds X.K fd ps ds)(hd:AF yX ds)
    (hx:DN CX X E) (I:Inv X pins σ H s) (r:AF vs us)
    (h:∀x dx,H x=none->H dx=none->dx≠x->sp (.ref x::(vs++yX)) (upd (upd H dx (.own x)) x (.ins C dx [])) (fun v H2=>v=.we/\Q (.ref x) H2) E) :
    B6 (D4 X.prog X.w) X.A (call (.ref C) us) (EP X pins σ Q) X.xe s:=by
  have hq:=h (s.heap.objs.size+1) s.heap.objs.size (I.wj.fresh (O6 _)) (I.wj.fresh (B4 _)) (D1 (M1 _));have I2:=Inv.made (C:=C) I;have r2:AF (V.ref (s.heap.objs.size+1)::(vs++yX)) (F7 (s.heap.objs.size+1)::(us++ds)):=.cons rfl (r.append hd);have hl:(F7 (s.heap.objs.size+1)::us++ds).length=ps.length:=by
    have e:=r2.length;rw[F.len _ _ _ _ hq] at e;exact e.symm
  refine vO (WO (f:=f) I.yK M.makes M.init (beq_iff_eq.mp M.fn) (Z2 (F.run _ X.stack _ _ ⟨F7 (s.heap.objs.size+1)::us,[]⟩ (F7 (s.heap.objs.size+1)::(us++ds)) _ _ E (hr.make C us [])
    (I2.zCu.make C us []) (hb _ (F7 (s.heap.objs.size+1)::us) I2.yK hl) r2 hq) fun r s' hq'=>?_))
  cases r with
  | error e=>exact hx pins σ _ _ e s' I2 hq'
  | ok fl =>
    cases fl with
    | ret u =>
      obtain⟨v,H',I3,rv,ev,q3⟩:=I2.after hq';subst ev;exact⟨rv,⟨V.ref (s.heap.objs.size+1),H',I3,rfl,q3⟩⟩
    | next=>exact E7 hq'
    | brk=>exact E7 hq'
    | cont=>exact E7 hq'
theorem Zk(M:Mk X.K C f)(F:xI X.prog X.w X.K X.mg X.base CX k f fd ps sp)(hr:wt (k+1) X.A)(hg:Gl X x)(hm:X.mg x=some (.ref C))(hb:Binds X.K fd ps ds)(hd:AF yX ds)(hx:DN CX X E)
    (ha:PA X (e::es) t) (zv:(x == ("__debug__" : Str))=false:=by decide) (he:D2 (e::es) X.env=(false,M8 e X.env)::D2 es X.env:=by rfl) (zi:(M6 pos (D2 es X.env)).any (·.1)=false:=by rfl) :
    PE X (.Call (.Name x p) (e::es) [] pos) (Ql C sp yX E t):=by
  intro pins s σ H Q I h;refine K3 (Fv I hg hm ?_ zv);refine W.callWith_K (h₀:=X.base) I.ok.mod.kin M.kp (Aw (ha pos pins s σ H _ I h) fun us s1 ⟨vs,H1,I1,r,q⟩=>⟨I1.yK,?_⟩) he zi;exact Mr M F hr hb hd hx I1 r q
theorem Vr(M:Mk X.K C f)(F:xI X.prog X.w X.K X.mg X.base CX k f fd ps sp)(hr:wt (k+1) X.A)(hg:Gl X x)(hm:X.mg x=some (.ref C))(hb:Binds X.K fd ps ds)(hd:AF yX ds)(hx:DN CX X E)
    (zv:(x == ("__debug__" : Str))=false:=by decide):PE X (.Call (.Name x p) [] [] pos) (Ql C sp yX E SM):=by
  intro pins s σ H Q I h;refine K3 (Fv I hg hm ?_ zv);exact W.callWith_K0 I.yK M.kp (Mr (us:=[]) M F hr hb hd hx I .nil h)
end
structure yE (N P:List Str) (sc:O1):Prop where
 kind:sc.kind=.function
 co:sc.isCoroutine=false
 gen:sc.isGenerator=false
 nd:N.Nodup
 pre:N.take P.length=P
 par:∀x∈P,sc.names.lookup x=some .local\/sc.names.lookup x=some .cell
 zBs:∀y∈sc.names,y.2≠.free
theorem LG{kindOf:Str->Option NameKind}{x:Str}:∀{binds:List (Str×Value)} {m:Str->Option Value},(∀v,(x,v)∉binds)->vP kindOf binds m x=m x
 | [],_,_=>rfl
 | (n,v)::r,m,h=>by
  unfold vP;rw[LG fun w hw=>h w (A9 _ hw)];split
  ·have:x≠n:=by rintro rfl;exact h v B1
   simp[this]
  ·rfl
theorem LI{kindOf:Str->Option NameKind}{x:Str}:∀{binds:List (Str×Value)} {m:Str->Option Value},(∀v,(x,v)∉binds)->vQ kindOf binds m x=m x
 | [],_,_=>rfl
 | (n,v)::r,m,h=>by
  unfold vQ;rw[LI fun w hw=>h w (A9 _ hw)];split
  ·rfl
  ·have:x≠n:=by rintro rfl;exact h v B1
   simp[this]
theorem LH{kindOf:Str->Option NameKind}{v:Value}:∀{P:List Str} {vs:List Value} {i:Nat} {m:Str->Option Value},P.Nodup->P[i]?=some x->vs[i]?=some v->kindOf x=some .local ->
    vP kindOf (P.zip vs) m x=some v
  | [],_,_,_,_,h,_,_=>by simp at h
  | _::_,[],_,_,_,_,h,_=>by simp at h
  | p::P,w::vs,0,m,nd,h1,h2,hk=>by
    simp at h1 h2;subst h1;subst h2;show vP kindOf ((p,w)::P.zip vs) m p=_;unfold vP;rw[LG fun v hv=>(X7.mp nd).1 (rW hv).1,if_pos hk];simp
  | p::P,w::vs,i+1,m,nd,h1,h2,hk=>by
    show vP kindOf ((p,w)::P.zip vs) m x=_;unfold vP;exact LH (i:=i) (X7.mp nd).2 (by simpa using h1) (by simpa using h2) hk
theorem LJ{kindOf:Str->Option NameKind}{v:Value}:∀{P:List Str} {vs:List Value} {i:Nat} {m:Str->Option Value},P.Nodup->P[i]?=some x->vs[i]?=some v->kindOf x≠some .local ->
    vQ kindOf (P.zip vs) m x=some v
  | [],_,_,_,_,h,_,_=>by simp at h
  | _::_,[],_,_,_,_,h,_=>by simp at h
  | p::P,w::vs,0,m,nd,h1,h2,hk=>by
    simp at h1 h2;subst h1;subst h2;show vQ kindOf ((p,w)::P.zip vs) m p=_;unfold vQ;rw[LI fun v hv=>(X7.mp nd).1 (rW hv).1,if_neg hk];simp
  | p::P,w::vs,i+1,m,nd,h1,h2,hk=>by
    show vQ kindOf ((p,w)::P.zip vs) m x=_;unfold vQ;exact LJ (i:=i) (X7.mp nd).2 (by simpa using h1) (by simpa using h2) hk
def start(N:List Str)(vs:List V):St:=vs.map some++D8 (N.length - vs.length) none
def Nw(CX:YY)(P:F0)(w:J7)(K:W.Frag)(mg:Str->Option Value)(base:H9)(N:List Str)(qual:Str)(scope:O1)(f:B3)(cd:Value)(A:I9)(outer:List Env)(s:A7)(H:Hp)(E:XK):Cx where
 prog:=P
 w:=w
 K:=K
 mg:=mg
 base:=base
 A:=A.deeper (sD qual scope s.heap.objs.size f cd)
 N:=N
 xC:=s
 H₀:=H
 env:=sD qual scope s.heap.objs.size f cd
 outer:=outer
 stack:=sD qual scope s.heap.objs.size f cd::outer
 ex:=[]
 calm:=true
 fn:=fun _=>true
 pn:=[]
 xe:=fun e s'=>B6 (D4 P w) (A.deeper (sD qual scope s.heap.objs.size f cd)) (leaving (sD qual scope s.heap.objs.size f cd) e) (fun _ s''=>CX outer H s E e s'') (fun e' s''=>CX outer H s E e' s'') s'
theorem OE{sc:O1}{n:Nat}(h:sc.names.lookup x=some .cell):∃c,(N7 n sc.names []).lookup x=some c:=by
 have q:=W.cellsFrom_some sc.names n [] (.inl h);exact Q3.mp q
theorem TJ{CX:YY}{P:F0}{w:J7}{K:W.Frag}{mg:Str->Option Value}{base:H9}{N ps:List Str}{qual:Str}{scope:O1}{f:B3}{cd:Value}{A:I9}{outer:List Env}{s s1:A7}{H:Hp}{E:XK}{us:List Value}{vs:List V}
    (S:yE N ps scope) (hd:A.handled=none) (e0:zAJ P w K mg base A outer s H) (hl:vs.length=ps.length) (r:AF vs us)
    (x:InCallC s s.heap.objs.size (vP (sD qual scope s.heap.objs.size f cd).kindOf (ps.zip us) fun _=>none) (N7 (s.heap.objs.size+1) scope.names []) (vQ (sD qual scope s.heap.objs.size f cd).kindOf (ps.zip us) fun _=>none) s1) :
    Inv (Nw CX P w K mg base N qual scope f cd A outer s H E) [] (start N vs) H s1:=by
  have zi:ps.length<=N.length:=by have:=congrArg qg S.pre;rw[R5] at this;omega
  obtain⟨h1,tk,rfl,hk⟩:=x.done;have noA:∀b:B3,b∉(Nw CX P w K mg base N qual scope f cd A outer s H E).ex:=fun b z=>absurd (show b∈([]:List B3) from z) (by simp)
  refine⟨⟨e0.mod,S.kind,rfl,rfl,B4 _,fun y z c h1 h2=>?_,fun y hy=>?_,fun y c _ h=>?_,fun _=>hd,Around.frames_deeper e0.frames,.inr ⟨rfl,rfl⟩,fun b z=>absurd z (noA b),e0.bs,e0.bsz,fun b _ _=>noA b,fun b z=>absurd z (noA b),e0.yO,e0.frf⟩,
    rfl,e0.bare,Un.kept hk,⟨_,x.toInCall.ns,fun i y v h1 h2 h3=>?_⟩,fun y c h=>⟨_,x.cell y c h⟩,e0.wj.fresh (B4 _),fun y c h=>?_,fun p hp=>absurd (show p∈([]:List (B3×Obj)) from hp) (by simp),e0.wj.kept hk,?_⟩
  · exact name_of_addr x.apart (G8 h1) (G8 h2)
  · have hy:scope.names.lookup y=some .cell\/scope.names.lookup y=some .free:=hy;rcases hy with hy | hy
    · exact OE hy
    · exact absurd rfl (S.zBs _ (G8 hy))
  · exact Q8 (x.above y c (G8 h))
  · have hi:i < vs.length:=by
      unfold start at h2
      by_cases hi:i < vs.length
      · exact hi
      · rw[W5 (by simpa using hi)] at h2;rw[qz] at h2;split at h2<;>cases h2
    have ha:vs[i]?=some v:=by
      unfold start at h2;rw[K5 (by simpa using hi),C6] at h2;cases e:vs[i]? with
      | none=>rw[e] at h2;cases h2
      | some a=>rw[e] at h2;cases h2;rfl
    obtain⟨u,hu,rv⟩:=r.get ha;have hp:ps[i]?=some y:=by
      rw[<- S.pre,qo (by omega)];exact h1
    have ndP:ps.Nodup:=by rw[<- S.pre];exact S.nd.sublist (List.take_sublist _ _)
    refine⟨u,rv,?_⟩;rcases S.par y (N8 hp) with k | k
    · exact .inl ⟨k,LH ndP hp hu k⟩
    · obtain⟨c,e⟩:=OE (n:=s.heap.objs.size+1) k;refine .inr ⟨.inl k,c,e,?_⟩;have q:=x.cell y c e;rw[LJ ndP hp hu (by show scope.names.lookup y≠_;rw[k];decide)] at q;exact q
  · exact e0.wj.fresh (Q8 (x.above y c (G8 h)))
  · unfold start;show _=N.length;rw[D0,A8,List.length_replicate];omega
theorem lh{CX:YY}{P:F0}{w:J7}{K:W.Frag}{mg:Str->Option Value}{base:H9}{k:Nat}{f:B3}{name qual:Str}{params:Arguments}{body:List N2}{scope:O1}{dV kV doc pm xG ct oc:Value}{an od:Option B3}
    {osl:Array (Option Value)} {N ps:List Str} {sp:Sp} (lk:K.lookup f=some ⟨oc,od,.func (W.fnOf name qual params body scope dV kV doc pm an xG ct),osl⟩) (hcd:W.codeIn K xG qual=true) (S:yE N ps scope)
    (len:∀vs H Q E,sp vs H Q E->vs.length=ps.length)
    (zAv:∀(A:I9) (outer:List Env) (s:A7) (H:Hp) (vs:List V) (Q:VK) (E:XK),wt k (A.deeper (sD qual scope s.heap.objs.size f xG))->sp vs H Q E ->
      ∃t,Ee (Nw CX P w K mg base N qual scope f xG A outer s H E) body t/\t { nx:=fun _ H'=>Q .we H',rt:=Q } (start N vs) H) :
    xI P w K mg base CX (k+1) f (W.fnOf name qual params body scope dV kV doc pm an xG ct) ps sp:=by
  refine⟨len,fun A outer s H args us vs Q E hr e0 hb r hsp=>?_⟩;have hl:=len _ _ _ _ hsp;have KX:K.In s.heap:=e0.mod.kin.keeps fun b o e=>(e0.bs b o e).1
  have lim:s.heap.NoLimit:=e0.mod.nolimit.keeps fun b o e=>(e0.bs b o e).1
  have zCm:∀y∈ps.zip us,scope.names.lookup y.1=some .local\/(scope.names.lookup y.1=some .cell/\((N7 (s.heap.objs.size+1) scope.names []).lookup y.1).isSome=true):=fun⟨n,v⟩ hy=>by
    rcases S.par n (rW hy).1 with q | q
    · exact .inl q
    · exact .inr ⟨q,W.cellsFrom_some _ _ _ (.inl q)⟩
  refine codeAny_call_function hr.depth (KX _ _ lk) rfl S.co S.gen rfl (W.codeRec_of KX hcd) (hb _ _ _ _ ?_);refine wpAny_newFunctionEnv_cells S.kind zCm fun env he s1 x=>?_
  subst he;refine⟨lim.keeps x.toInCall.keep,codeAny_func ?_⟩;obtain⟨t,ht,hq⟩:=zAv A outer s H vs Q E (hr.deeper _) hsp;have I:Inv (Nw CX P w K mg base N qual scope f xG A outer s H E) [] (start N vs) H s1:=TJ S hr.hd e0 hl r x;refine V0 (ht [] s1 (start N vs) H _ I hq) (fun fl s' hs=>?_) fun e s' hs=>hs
  have fin:∀{σ':St} {H':Hp} {v:V} {u:Value},Inv (Nw CX P w K mg base N qual scope f xG A outer s H E) [] σ' H' s'->RelV v u->Q v H'->CE outer P w H s Q u s':=
    fun{σ' H' v u} J rv q=>⟨v,H',J.os,J.bare,J.base,J.wj,rv,q⟩
  cases fl with
  | ret u =>
    obtain⟨v,σ',H',J,rv,q⟩:=hs;exact fin J rv q
  | next =>
    obtain⟨σ',H',J,q⟩:=hs;exact fin (v:=V.we) (u:=N4) J rfl q
  | brk =>
    obtain⟨_,_,_,q⟩:=hs;exact E7 q
  | cont =>
    obtain⟨_,_,_,q⟩:=hs;exact E7 q
section
variable {X:Cx} {x:Str} {p pos:Pos} {e:Expr} {es:List Expr} {t:TA} {id T:String} {r:List V->Hp->VK->Prop}
abbrev pK(r:List V->Hp->VK->Prop)(t:TA):TE:=fun σ H Q=>t σ H fun vs H1=>r vs H1 Q
theorem Vu(hc:BG X (.builtin id) r)(hg:Gl X x)(hm:X.mg x=none)(hv:O0 x=some (.builtin id))(ha:PA X (e::es) t)(hn:x ≠ "__name__" := by decide)(zv:(x == ("__debug__" : Str))=false:=by decide)
    (he:D2 (e::es) X.env=(false,M8 e X.env)::D2 es X.env:=by rfl) (zi:(M6 pos (D2 es X.env)).any (·.1)=false:=by rfl):PE X (.Call (.Name x p) (e::es) [] pos) (pK r t):=by
  intro pins s σ H Q I h;refine K3 (CH I hg hm hv ?_ hn zv);exact a9 (Aw (ha pos pins s σ H _ I h) fun us s1 ⟨vs,H1,I1,r1,q1⟩=>hc pins s1 σ H1 vs us Q I1 r1 q1) he zi
theorem Sg(hc:BG X (.type T) r)(hg:Gl X x)(hm:X.mg x=none)(hv:O0 x=some (.type T))(ha:PA X (e::es) t)(hn:x ≠ "__name__" := by decide)(zv:(x == ("__debug__" : Str))=false:=by decide)
    (he:D2 (e::es) X.env=(false,M8 e X.env)::D2 es X.env:=by rfl) (zi:(M6 pos (D2 es X.env)).any (·.1)=false:=by rfl):PE X (.Call (.Name x p) (e::es) [] pos) (pK r t):=by
  intro pins s σ H Q I h;refine K3 (CH I hg hm hv ?_ hn zv);exact G1 (Aw (ha pos pins s σ H _ I h) fun us s1 ⟨vs,H1,I1,r1,q1⟩=>hc pins s1 σ H1 vs us Q I1 r1 q1) he zi
end
end L2
namespace HT
open PySem PyProof.Rows
noncomputable def lexLt:List Int->List Int->Bool
 | [],[]=>false
 | [],_::_=>true
 | _::_,[]=>false
 | x::xs,y::ys=>if x=y then lexLt xs ys else decide (x < y)
section
open PySem.SeqAt
open PySem.AutoSeq1 (wpAny_loadPart')
open PySem.MeetsSeq PySem.MeetsSeq2 PySem.MeetsSeq3
end
section
variable {prog:F0} {w:J7} {A:I9} {E:Value->A7->Prop} {s:A7}
theorem zBN{t b:B3}{vs ws:List Value}{Q:Value->A7->Prop}(ht:IsTup s.heap t vs.toArray)(hb:IsTup s.heap b ws.toArray)(hv:vs≠[])
    (h1:ws=[]->Q (.ref t) s) (h2:ws≠[]->Q (.ref s.heap.objs.size) { s with heap:=s.heap.push { cls:=.type "tuple", data:=.seq (vs++ws).toArray } })
    (hsz:vs.length+ws.length<=sizeLine):B6 (D4 prog w) A (binaryOp .Add (.ref t) (.ref b)) Q E s:=by
  obtain⟨⟨cls,dd,data,sl⟩,ho,hc,n,hd⟩:=id ht;obtain⟨⟨zDv,dd2,data2,sl2⟩,ho2,hc2,n2,hd2⟩:=id hb;simp only at hc hd hc2 hd2;subst hc hd hc2 hd2;have e:vs.toArray++ws.toArray=(vs++ws).toArray:=by simp
  by_cases hw:ws=[]
  · exact tu ⟨_,ho,rfl⟩ ⟨_,ho2,rfl⟩ q0 sh Z3 Y6 (X4 _ _)
      (tuple_addW1 t b vs.toArray ws.toArray n n2 dd dd2 sl sl2 (by simpa using hv) (by simp[hw])) ⟨ho,ho2,h1 hw⟩
  · refine tu ⟨_,ho,rfl⟩ ⟨_,ho2,rfl⟩ q0 sh Z3 Y6 (X4 _ _)
      (tuple_addW2 t b vs.toArray ws.toArray n n2 dd dd2 sl sl2 (by simpa using hv) (by simpa using hw) (by rw[B0,B0];exact hsz)) ⟨ho,ho2,?_⟩
    rw[e];exact h2 hw
noncomputable def wo(n d:Nat):Option Int->Nat
 | none=>d
 | some v=>if v < 0 then(v+(n:Int)).toNat else min v.toNat n
theorem zAC(n d:Nat)(hd:d<=n)(o:Option Int):wo n d o<=n:=by
 cases o with
 | none=>exact hd
 | some v =>
  show(if v < 0 then(v+(n:Int)).toNat else min v.toNat n)<=n
  by_cases hv:v < 0
  ·rw[if_pos hv];omega
  ·rw[if_neg hv];exact Nat.min_le_right _ _
theorem Ro(v:Int)(n d:Nat):(if v < 0 then max (v+(n:Int)) 0 else min v (n:Int))=((wo n d (some v):Nat):Int):=by
 show(if v < 0 then max (v+(n:Int)) 0 else min v (n:Int))=(((if v < 0 then(v+(n:Int)).toNat else min v.toNat n):Nat):Int)
 by_cases hv:v < 0
 ·simp only[if_pos hv];omega
 ·simp only[if_neg hv];omega
theorem QT(lo hi:Option Int)(n:Nat):X1 lo hi 1 (n:Int)=(((wo n 0 lo:Nat):Int),((wo n n hi:Nat):Int)):=by
 have h1:¬((1:Int) < 0):=by omega
 unfold X1;simp only[h1,if_false];refine Prod.ext ?_ ?_
 ·cases lo with
  | none=>rfl
  | some v=>exact Ro v n 0
 ·cases hi with
  | none=>rfl
  | some v=>exact Ro v n n
theorem PR(i j:Nat):S5 (i:Int) (j:Int) 1=j - i:=by
 unfold S5;have h1:(1:Int) > 0:=by omega
 simp only[h1,if_true,Int.ediv_one];split<;>omega
theorem IP{v:Value}{o:Option Int}{Q:Option Int->A7->Prop}(p:sy v o)(h:Q o s):B6 (D4 prog w) A (u7 v) Q E s:=by
 cases p with
 | none=>exact slicePart_none h
 | int i t=>exact slicePart_int h
theorem xP{sl:B3}{vl vu:Value}{lo hi:Option Int}{n:Nat}{Q:Int×Int×Nat->A7->Prop}(hs:s.heap.IsSliceOf sl vl vu .none)(pl:sy vl lo)(pu:sy vu hi)
    (h:Q (((wo n 0 lo:Nat):Int),1,wo n n hi - wo n 0 lo) s):B6 (D4 prog w) A (o7 (.ref sl) (pure (n:Int))) Q E s:=by
  obtain⟨os,hos,hcs,hds⟩:=id hs;unfold o7 va;refine A1 (A1 (K4 hos hds (x:=vl) rfl (A1 (K4 hos hds (x:=vu) rfl (A1 (K4 hos hds (x:=.none) rfl (A6 ?_)))))));refine A1 (slicePart_none ?_);show B6 _ _ (if((1:Int) == 0)=true then _ else _) _ _ s;rw[if_neg (by decide)];refine A1 (IP pl (A1 (IP pu (A1 (A6 ?_)))));show B6 _ _ (match X1 lo hi 1 (n:Int) with | (lo,hi)=>pure (lo,(1:Int),S5 lo hi 1)) _ _ s;rw[QT lo hi n];show B6 _ _ (pure (((wo n 0 lo:Nat):Int),(1:Int),S5 ((wo n 0 lo:Nat):Int) ((wo n n hi:Nat):Int) 1)) _ _ s;rw[PR];exact A6 h
theorem Vk(xs:Array Value)(i k:Nat):((A5 k).filterMap fun(m:Nat)=>xs[((i:Int)+(m:Int) * 1).toNat]?).toArray=((xs.toList.drop i).take k).toArray:=by
 have e:(fun(m:Nat)=>xs[((i:Int)+(m:Int) * 1).toNat]?)=fun m=>xs[i+m]?:=by
  funext m;have:((i:Int)+(m:Int) * 1).toNat=i+m:=by omega
  rw[this]
 rw[e];have:=pick_run xs i k;rw[tB] at this;have e2:((fun x=>xs[x]?)∘fun x=>i+x)=fun m=>xs[i+m]?:=rfl
 rw[e2] at this;rw[this]
theorem yA{t sl:B3}{items:Array Value}{vl vu:Value}{lo hi:Option Int}{Q:Value->A7->Prop}(ht:IsTup s.heap t items)(hs:s.heap.IsSliceOf sl vl vu .none)(pl:sy vl lo)(pu:sy vu hi)
    (hw:¬(wo items.size 0 lo=0/\wo items.size items.size hi=items.size))
    (h:Q (.ref s.heap.objs.size) { s with heap:=s.heap.push { cls:=.type "tuple", data:=.seq ((items.toList.drop (wo items.size 0 lo)).take (wo items.size items.size hi - wo items.size 0 lo)).toArray } })
    (hsz:items.size<=sizeLine):B6 (D4 prog w) A (sW (.ref t) (.ref sl)) Q E s:=by
  have zAO:sizeOk (.seq ((items.toList.drop (wo items.size 0 lo)).take (wo items.size items.size hi - wo items.size 0 lo)).toArray):=by
    show((items.toList.drop (wo items.size 0 lo)).take (wo items.size items.size hi - wo items.size 0 lo)).toArray.size<=sizeLine;rw[B0,R5,e8,l7];omega
  have hj:wo items.size items.size hi<=items.size:=zAC _ _ (B4 _) hi;obtain⟨os,hos,hcs,hds⟩:=id hs
  have hTs:s.TypeIs (.ref sl) "slice" := ⟨os,hos,hcs⟩
  unfold sW
  try with_reducible refine G9 ?_
  first | refine A1 (A6 ?_) | skip
  refine A1 (tw ht.typeIs (by decide) ?_)
  refine A1 (J4 (name:=R0 "__getitem__") ht.typeIs K8
    (G3 K8 ht.typeIs sZ ?_ (tD _ _)))
  show B6 _ _ (W4 (.ref t) >>= _) _ _ s;refine A1 (tupleItemsOf_ ht ?_);refine A1 (R1 hTs ?_);rw[if_pos (by decide)];refine A1 (xP hs pl pu ?_);have hno:¬((((wo items.size 0 lo:Nat):Int) == 0 && (1:Int) == 1 && (wo items.size items.size hi - wo items.size 0 lo) == items.size)=true):=by
    intro q;rw[A3,A3] at q;have q1:((wo items.size 0 lo:Nat):Int)=0:=eq_of_beq q.1.1;have q2:wo items.size items.size hi - wo items.size 0 lo=items.size:=eq_of_beq q.2;exact hw ⟨by omega,by omega⟩
  show B6 _ _ (if(((wo items.size 0 lo:Nat):Int) == 0 && (1:Int) == 1 && (wo items.size items.size hi - wo items.size 0 lo) == items.size)=true then _ else _) _ _ s;rw[if_neg hno,Vk]
  first
    | exact A1 (m:=T7 _) (K0 (A6 ⟨_,rfl,A6 h⟩) zAO)
    | exact A1 (m:=T7 _) (K0 (A1 (A6 (A6 ⟨_,rfl,A6 h⟩))) zAO)
    | exact A1 (A1 (m:=T7 _) (K0 (A6 (A6 ⟨_,rfl,A6 h⟩)) zAO))
    | exact A1 (A1 (m:=T7 _) (K0 (A6 ⟨_,rfl,A6 h⟩) zAO))
end
end HT
namespace L2
open PySem PySem.Spec PyProof.Rows
abbrev TO:=St->Hp->(Option Int->Hp->Prop)->Prop
def PO(X:Cx)(e:Option Expr)(t:TO):Prop:=
 ∀(pins:List (B3×Obj)) (s:A7) (σ:St) (H:Hp) (Q:Option Int->Hp->Prop),Inv X pins σ H s->t σ H Q ->
  B6 (D4 X.prog X.w) X.A (evalPart e X.env) (fun u s'=>∃o H',Inv X pins σ H' s'/\sy u o/\Q o H') X.xe s
abbrev Yu:TO:=fun _ H Q=>Q none H
abbrev jV(t:TE):TO:=fun σ H Q=>t σ H fun x H1=>∃i,x=.int i/\Q (some i) H1
section
variable {X:Cx} {e:Expr} {te:TE} {lo hi:Option Expr} {tl th:TO} {pos p2:Pos}
theorem Zf:PO X none Yu:=by
 intro pins s σ H Q I h;rw[evalPart_none];exact A6 ⟨none,H,I,.none,h⟩
theorem Ze(h:PE X e te):PO X (some e) (jV te):=by
 intro pins s σ H Q I hw;rw[evalPart_some];refine Aw (h pins s σ H _ I hw) fun u s1 ⟨x,H1,I1,r1,q1⟩=>?_
 obtain⟨i,rfl,q⟩:=q1;obtain⟨t,rfl⟩:=r1;exact⟨some i,H1,I1,.int i t,q⟩
def UW(X:Cx)(r:V->Option Int->Option Int->Hp->VK->Prop):Prop:=
 ∀(pins:List (B3×Obj)) (s:A7) (σ:St) (H:Hp) (x:V) (v vl vu:Value) (lo hi:Option Int) (sl:B3) (Q:VK),Inv X pins σ H s->RelV x v->s.heap.IsSliceOf sl vl vu .none->sy vl lo->sy vu hi->r x lo hi H Q ->
  ∃T id,rH (.type T) "__getitem__" = pure (some (.builtin id))/\s.TypeIs v T/\B6 (D4 X.prog X.w) X.A (sW v (.ref sl)) (EP X pins σ Q) X.xe s
theorem UW.or{r r':V->Option Int->Option Int->Hp->VK->Prop}(h:UW X r)(h':UW X r'):UW X (fun x lo hi H Q=>r x lo hi H Q\/r' x lo hi H Q):=by
 intro pins s σ H x v vl vu lo hi sl Q I rx hs pl pu q;rcases q with q | q
 ·exact h pins s σ H x v vl vu lo hi sl Q I rx hs pl pu q
 ·exact h' pins s σ H x v vl vu lo hi sl Q I rx hs pl pu q
abbrev pI(r:V->Option Int->Option Int->Hp->VK->Prop)(te:TE)(tl th:TO):TE:=fun σ H Q=>te σ H fun x H1=>tl σ H1 fun l H2=>th σ H2 fun u H3=>r x l u H3 Q
theorem Vp{r:V->Option Int->Option Int->Hp->VK->Prop}(hr:UW X r)(he:PE X e te)(hl:PO X lo tl)(hu:PO X hi th):PE X (.Subscript e (.Slice lo hi none p2) pos) (pI r te tl th):=by
 intro pins s σ H Q I h;refine Subscript_ (Aw (he pins s σ H _ I h) fun v s1 ⟨x,H1,I1,r1,q1⟩=>?_);refine wpAny_Slice (Aw (hl pins s1 σ H1 _ I1 q1) fun vl s2 ⟨l,H2,I2,pl,q2⟩=>Aw (hu pins s2 σ H2 _ I2 q2) fun vu s3 ⟨u,H3,I3,pu,q3⟩=>?_);rw[evalPart_none];refine A6 ?_
 have I4:Inv X pins σ H3 { s3 with heap:=s3.heap.push { cls:=.type "slice", data:=.fields #[vl,vu,.none] } }:=I3.kept (t':=s3.toks) fun b ob q=>A2 _ q
 obtain⟨T,id,hT,ht,hg⟩:=hr pins { s3 with heap:=s3.heap.push { cls:=.type "slice", data:=.fields #[vl,vu,.none] } } σ H3 x v vl vu l u s3.heap.objs.size Q I4 r1 (wM ..) pl pu q3
 show B6 (D4 X.prog X.w) X.A (si e (.Slice lo hi none p2) v (.ref s3.heap.objs.size)) (EP X pins σ Q) X.xe { s3 with heap:=s3.heap.push { cls:=.type "slice", data:=.fields #[vl,vu,.none] } }
 exact tail_any (ops:=[.ref s3.heap.objs.size,v]) ht hT hg (by with_unfolding_all rfl)
def GH(xs:List V)(lo hi:Option Int):List V:=(xs.drop (HT.wo xs.length 0 lo)).take (HT.wo xs.length xs.length hi - HT.wo xs.length 0 lo)
theorem Ha(xs:List V)(lo hi:Option Int):(GH xs lo hi).length<=xs.length:=by
 unfold GH;rw[R5,e8];omega
def kL(K:W.Frag):V->Option Int->Option Int->Hp->VK->Prop:=fun x lo hi H Q=>∃a xs,x=.ref a/\De K H a xs /\
 ¬(HT.wo xs.length 0 lo=0/\HT.wo xs.length xs.length hi=xs.length)/\∀p,H p=none->Q (.ref p) (upd H p (.tup (GH xs lo hi)))
theorem eI:UW X (kL X.K):=by
 intro pins s σ H x v vl vu lo hi sl Q I rx hs pl pu h;obtain⟨a,xs,rfl,hx,hw,q⟩:=h;cases rx;obtain⟨its,r,ht,hz⟩:=I.tuple hx;have hlen:its.toArray.size=xs.length:=by rw[B0];exact r.length.symm
 refine⟨"tuple", _,K8.lookup,ht.typeIs,?_⟩
 refine HT.yA ht hs pl pu (by rw[hlen];exact hw) ?_ (by rw[hlen];exact hz);rw[hlen];refine⟨.ref s.heap.objs.size,_,I.laid (t':=s.toks) (o:=.tup (GH xs lo hi)) (fun b ob q=>A2 _ q) (B4 _) ?_,rfl,q _ (I.wj.fresh (B4 _))⟩;exact⟨C4 (Ha xs lo hi) hz,_,(r.drop (HT.wo xs.length 0 lo)).take (HT.wo xs.length xs.length hi - HT.wo xs.length 0 lo),HP.new _ _⟩
def qD(K:W.Frag):R2:=fun x y H Q=>∃a b ns ms,x=.ref a/\y=.ref b/\De K H a (ns.map V.int)/\De K H b (ms.map V.int)/\Q (.bl (HT.lexLt ns ms)) H
def cL(K:W.Frag):R2:=fun x y H Q=>∃a b xs ys,x=.ref a/\y=.ref b/\De K H a xs/\De K H b ys/\xs≠[]/\xs.length+ys.length<=sizeLine /\
 (ys=[]->Q (.ref a) H)/\(ys≠[]->∀p,H p=none->Q (.ref p) (upd H p (.tup (xs++ys))))
theorem AF.zN{xs:List V}{us:List Value}(r:AF xs us):us=[]↔xs=[]:=by
 cases r with
 | nil=>simp
 | cons _ _=>simp
theorem Zr:Ef X (binaryOp .Add) (cL X.K):=by
 intro pins s σ H x y v u Q I rx ry h;obtain⟨a,b,xs,ys,rfl,rfl,ha,hb,hx,hz,q1,q2⟩:=h;cases rx;cases ry;obtain⟨its,r1,p1,_⟩:=I.tuple ha;obtain⟨wg,r2,p2,_⟩:=I.tuple hb;refine HT.zBN p1 p2 (fun z=>hx (r1.zN.mp z)) (fun z=>⟨.ref a,H,I,rfl,q1 (r2.zN.mp z)⟩) (fun z=>?_) (by rw[<- r1.length,<- r2.length];exact hz);refine⟨.ref s.heap.objs.size,_,I.laid (t':=s.toks) (o:=.tup (xs++ys)) (fun b ob q=>A2 _ q) (B4 _) ?_,rfl,q2 (fun w=>z (r2.zN.mpr w)) _ (I.wj.fresh (B4 _))⟩;exact⟨by rw[D0];exact hz,_,r1.append r2,HP.new _ _⟩
end
noncomputable def RN(n:Nat)(i:Int):Option Nat:=if 0<=i then(if i < n then some i.toNat else none) else if -(n:Int)<=i then some (i+n).toNat else none
def HK{α:Type}(xs:List α)(i:Int):Option α:=(RN xs.length i).bind fun j=>xs[j]?
theorem RM{n:Nat}{i:Int}{j:Nat}(h:RN n i=some j):seqIndex? i n=some j/\j < n/\-(n:Int)<=i/\i < n:=by
 unfold RN at h
 by_cases h0:0<=i
 ·rw[if_pos h0] at h
  by_cases h1:i < n
  ·rw[if_pos h1] at h;have e:i.toNat=j:=D5 h;exact⟨by rw[uz h0 h1,e],by omega,by omega,h1⟩
  ·rw[if_neg h1] at h;cases h
 ·rw[if_neg h0] at h
  by_cases h1:-(n:Int)<=i
  ·rw[if_pos h1] at h;have e:(i+n).toNat=j:=D5 h;exact⟨by rw[uA (by omega) h1,e],by omega,h1,by omega⟩
  ·rw[if_neg h1] at h;cases h
theorem MR{α:Type}{xs:List α}{i:Int}{v:α}(h:HK xs i=some v):∃j,seqIndex? i xs.length=some j/\xs[j]?=some v/\j < xs.length/\-(xs.length:Int)<=i/\i < xs.length:=by
 unfold HK at h;cases e:RN xs.length i with
 | none=>rw[e] at h;cases h
 | some j =>
  rw[e] at h;obtain⟨h1,h2,h3,h4⟩:=RM e;exact⟨j,h1,h,h2,h3,h4⟩
def SB(b:Expr):Prop:=∀o i,u0 b false o i=operate [o,i] (sW o i)
def US(X:Cx)(r:R2):Prop:=
 ∀(value slice:Expr) (pins:List (B3×Obj)) (s:A7) (σ:St) (H:Hp) (x y:V) (v u:Value) (Q:VK),Inv X pins σ H s->RelV x v->RelV y u->r x y H Q ->
  u0 slice false v u=operate [v,u] (sW v u)->B6 (D4 X.prog X.w) X.A (si value slice v u) (EP X pins σ Q) X.xe s
def UX(X:Cx)(id:String)(r:V->List V->Hp->VK->Prop):Prop:=
 ∀(pins:List (B3×Obj)) (s:A7) (σ:St) (H:Hp) (x:V) (xs:List V) (v:Value) (us:List Value) (Q:VK),Inv X pins σ H s->RelV x v->AF xs us->r x xs H Q ->
  B6 (D4 X.prog X.w) X.A (call (.builtin id) (v::us)) (EP X pins σ Q) X.xe s
variable {pins:List (B3×Obj)} {s:A7}
section
variable {X:Cx} {a b:Expr} {ta tb:TE} {pos:Pos}
theorem US.or{r r':R2}(h:US X r)(h':US X r'):US X (fun x y H Q=>r x y H Q\/r' x y H Q):=by
 intro value slice pins s σ H x y v u Q I rx ry q hs;rcases q with q | q
 ·exact h value slice pins s σ H x y v u Q I rx ry q hs
 ·exact h' value slice pins s σ H x y v u Q I rx ry q hs
theorem UX.or{id:String}{r r':V->List V->Hp->VK->Prop}(h:UX X id r)(h':UX X id r'):UX X id (fun x xs H Q=>r x xs H Q\/r' x xs H Q):=by
 intro pins s σ H x xs v us Q I rx rs q;rcases q with q | q
 ·exact h pins s σ H x xs v us Q I rx rs q
 ·exact h' pins s σ H x xs v us Q I rx rs q
theorem kn{r:R2}(hr:US X r)(ha:PE X a ta)(hb:PE X b tb)(hs:SB b):PE X (.Subscript a b pos) (nB r ta tb):=by
 intro pins s σ H Q I h;exact Subscript_ (iy ha hb I h fun v u s2 x y H2 I2 rx ry q=>hr a b pins s2 σ H2 x y v u Q I2 rx ry q (hs _ _))
def kU(K:W.Frag):R2:=fun x y H Q=>∃p xs i v,x=.ref p/\y=.int i/\Cy K H p xs/\HK xs i=some v/\Q v H
def kS(K:W.Frag):R2:=fun x y H Q=>∃p xs i v,x=.ref p/\y=.int i/\De K H p xs/\HK xs i=some v/\Q v H
def kT:R2:=fun x y H Q=>∃z i c,x=.str z/\y=.int i/\z.length<=sizeLine/\HK z.cps.toList i=some c/\Q (.str ⟨#[c]⟩) H
theorem aN:US X (kU X.K):=by
  intro value slice pins s σ H x y v u Q I rx ry h hs;obtain⟨p,xs,i,z,rfl,rfl,hq,he,q⟩:=h;cases rx;obtain⟨t,rfl⟩:=ry;obtain⟨its,r,pl,hz⟩:=I.list hq;obtain⟨j,h1,h2,h3,h4,h5⟩:=MR he;obtain⟨w,ew,yn⟩:=r.get h2;have hl:=r.length;have hn:=Gv;have fin:EP X pins σ Q w s:=⟨z,H,I,yn,q⟩
  by_cases h0:0<=i
  · have hj:i.toNat=j:=by
      rw[uz h0 h5] at h1;exact D5 h1
    exact item_listR pl.isList h0 (by omega) (by rw[hj];simpa using ew) fin hs
  · have hj:(i+(its.toArray.size:Int)).toNat=j:=by
      rw[uA (by omega) h4] at h1;rw[B0,<- hl];exact D5 h1
    exact rJ (x:=w) pl.isList.typeIs uB.lookup
      (wpAny_getItem_list_neg (Q:=fun r s'=>r=w/\EP X pins σ Q r s') pl.isList (by omega) (by rw[B0]<;>omega) (by omega) (by rw[hj];simpa using ew) ⟨rfl,fin⟩) hs
theorem gT:US X (kS X.K):=by
 intro value slice pins s σ H x y v u Q I rx ry h hs;obtain⟨p,xs,i,z,rfl,rfl,hq,he,q⟩:=h;cases rx;obtain⟨t,rfl⟩:=ry;obtain⟨its,r,pl,hz⟩:=I.tuple hq;obtain⟨j,h1,h2,h3,h4,h5⟩:=MR he;obtain⟨w,ew,yn⟩:=r.get h2;have hl:=r.length;have hn:=Gv;have fin:EP X pins σ Q w s:=⟨z,H,I,yn,q⟩;exact rJ (x:=w) pl.typeIs slot_tuple_getitem.lookup
  (getItem_tuple (j:=j) (Q:=fun r s'=>r=w/\EP X pins σ Q r s') pl (by omega) (by omega) (by rw[B0,<- hl];exact h1) (by simpa using ew) ⟨rfl,fin⟩) hs
theorem gU:US X kT:=by
 intro value slice pins s σ H x y v u Q I rx ry h hs;obtain⟨z,i,c,rfl,rfl,hz,he,q⟩:=h;obtain⟨t,rfl⟩:=rx;obtain⟨t',rfl⟩:=ry;obtain⟨j,h1,h2,h3,h4,h5⟩:=MR he;have hl:z.cps.toList.length=z.length:=by simp[Str.length]
 rw[hl] at h1 h4 h5;have hn:=Gv;exact tail_any (vR s z t) slot_str_getitem.lookup (getItem_str (c:=c) (by
  have e1:decide (i < -(2 ^ 63:Int))=false:=decide_eq_false (by omega);have e2:decide (i >= 2 ^ 63)=false:=decide_eq_false (by omega);rw[e1,e2,vd]) (by rw[h1];simpa using h2) ⟨.str ⟨#[c]⟩,H,I.tok _,⟨_,rfl⟩,q⟩) hs
def eY(K:W.Frag):R2:=fun x y H Q=>kU K x y H Q\/kS K x y H Q\/kT x y H Q
theorem gV:US X (eY X.K):=aN.or (gT.or gU)
theorem Pf(its:List Value)(n j:Nat)(u:Value):E6 (·.setIfInBounds j u) { cls:=.type "list", data:=.seq its.toArray n }={ cls:=.type "list", data:=.seq (its.set j u).toArray n }:=by
 simp[E6]
theorem Inv.lst{σ:St}{H:Hp}{p:B3}{xs:List V}(I:Inv X pins σ H s)(h:H p=some (.lst xs)) :
    ∃(its:List Value) (n:Nat),AF xs its/\s.heap.get? p=some { cls:=.type "list", data:=.seq its.toArray n }/\xs.length<=sizeLine:=by
  obtain⟨z,its,n,r,e⟩:=I.wj p _ h;exact⟨its,n,r,e,z⟩
theorem Inv.zBu{σ:St}{H:Hp}{p:B3}{xs ys:List V}{its its':List Value}{n n':Nat}{f:Obj->Obj}(I:Inv X pins σ H s)(h:H p=some (.lst xs))
    (ho:s.heap.get? p=some { cls:=.type "list", data:=.seq its.toArray n }) (hf:f { cls:=.type "list", data:=.seq its.toArray n }={ cls:=.type "list", data:=.seq its'.toArray n' }) (r:AF ys its') (hz:ys.length<=sizeLine) (t:Nat) :
    Inv X pins σ (upd H p (.lst ys)) { s with heap:=s.heap.update p f,toks:=t }:=by
  have e:(s.heap.update p f).get? p=some { cls:=.type "list", data:=.seq its'.toArray n' }:=by
    rw[G5 f ho (by rw[hf]<;>rfl),hf]
  refine I.write (x:=p) (e:=p) (by rw[h];trivial) (.inl rfl) (fun b u hb q=>(J6 _ _ (Ne.symm hb)).trans q) ⟨_,e⟩ ?_;exact⟨hz,its',n',r,e⟩
def VT:V->V->V->Hp->(Hp->Prop)->Prop:=fun o i v H Q=>∃p xs k j,o=.ref p/\i=.int k/\H p=some (.lst xs)/\RN xs.length k=some j/\Q (upd H p (.lst (xs.set j v)))
theorem set_list:OZ X VT:=by
  intro pins s σ H o i v ov iv u Q I ro ri rv h;obtain⟨p,xs,k,j,rfl,rfl,hp,hj,q⟩:=h;cases ro;obtain⟨t,rfl⟩:=ri;obtain⟨its,n,r,ho,hz⟩:=I.lst hp;obtain⟨h1,h2,h3,h4⟩:=RM hj;have hl:=r.length;have hn:=Gv;have I':Inv X pins σ (upd H p (.lst (xs.set j v))) { s with heap:=s.heap.update p (E6 (·.setIfInBounds j u)) }:=
    I.zBu hp ho (Pf its n j u) (r.set rv j) (by rw[E1];exact hz) s.toks
  by_cases h0:0<=k
  · have hk:k.toNat=j:=by
      rw[uz h0 h4] at h1;exact D5 h1
    exact W.ki_setAt ho h0 (by omega) (by rw[B0,<- hl];exact h4) (by rw[hk];exact⟨_,I',q⟩)
  · have hk:(k+(its.toArray.size:Int)).toNat=j:=by
      rw[uA (by omega) h3] at h1;rw[B0,<- hl];exact D5 h1
    exact W.ki_setBack ho (by omega) (by rw[B0,<- hl];exact h3) (by omega) (by rw[hk];exact⟨_,I',q⟩)
theorem LU(lo hi:Option Int)(n:Nat):(Y7 lo hi none n).1=((HT.wo n 0 lo:Nat):Int)/\(Y7 lo hi none n).2.1=((HT.wo n n hi:Nat):Int)/\(Y7 lo hi none n).2.2=1:=by
 refine⟨?_,?_,rfl⟩
 ·cases lo with
  | none=>simp[Y7,HT.wo]
  | some i =>
   simp only[Y7,HT.wo,uZ,show(1:Int) > 0 by decide,if_true]
   by_cases h:i < 0
   ·simp only[h,if_true]<;>omega
   ·simp only[h,if_false]<;>omega
 ·cases hi with
  | none=>simp[Y7,HT.wo]
  | some i =>
   simp only[Y7,HT.wo,uZ,show(1:Int) > 0 by decide,if_true]
   by_cases h:i < 0
   ·simp only[h,if_true]<;>omega
   ·simp only[h,if_false]<;>omega
theorem Jx(its:List Value)(lo hi:Option Int):slicePick its.toArray lo hi none=((its.drop (HT.wo its.length 0 lo)).take (HT.wo its.length its.length hi - HT.wo its.length 0 lo)).toArray:=by
 obtain⟨h1,h2,h3⟩:=LU lo hi its.toArray.size;unfold slicePick;rw[h1,h2,h3];simp only[sliceRange_one,pick_run,B0]<;>rfl
def kN(K:W.Frag):V->Option Int->Option Int->Hp->VK->Prop:=fun x lo hi H Q=>∃a xs,x=.ref a/\Cy K H a xs/\∀p,H p=none->Q (.ref p) (upd H p (.lst (GH xs lo hi)))
theorem ZF:UW X (kN X.K):=by
 intro pins s σ H x v vl vu lo hi sl Q I rx hs pl pu h;obtain⟨a,xs,rfl,hx,q⟩:=h;cases rx;obtain⟨its,r,ht,hz⟩:=I.list hx;have hlen:=r.length
 refine⟨"list", _,uB.lookup,ht.isList.typeIs,?_⟩
 refine wpAny_getItem_list_slice ht.isList hs pl pu .none (by simp) ?_ (by rw[B0]<;>omega);rw[Jx,<- hlen];refine⟨.ref s.heap.objs.size,_,I.laid (t':=s.toks) (o:=.lst (GH xs lo hi)) (fun b ob q=>A2 _ q) (B4 _) ?_,rfl,q _ (I.wj.fresh (B4 _))⟩;exact⟨C4 (Ha xs lo hi) hz,_,0,(r.drop (HT.wo xs.length 0 lo)).take (HT.wo xs.length xs.length hi - HT.wo xs.length 0 lo),B2 _ rfl⟩
noncomputable def JP:V->Bool
 | .we=>true
 | .bl _=>true
 | .int _=>true
 | .str _=>true
 | _=>false
noncomputable def xc:V->V->Bool
 | .we,.we=>true
 | .bl a,.bl b=>a == b
 | .bl a,.int b=>(if a then 1 else 0) == b
 | .int a,.bl b=>a == (if b then 1 else 0)
 | .int a,.int b=>a == b
 | .str a,.str b=>a == b
 | _,_=>false
theorem iJ{A:I9}{y x:V}{u v:Value}(ry:RelV y u)(rx:RelV x v)(fy:JP y=true)(fx:JP x=true):SeqAt.EqAt A s u v (xc y x):=by
 cases y with
 | we =>
  cases ry;cases x with
  | we=>cases rx;exact SeqAt.EqAt.same _
  | bl b=>cases rx;exact SeqAt.EqAt.none_bool b
  | int b=>obtain⟨t,rfl⟩:=rx;exact SeqAt.EqAt.none_int b t
  | str b=>obtain⟨t,rfl⟩:=rx;exact SeqAt.EqAt.none_str b t
  | _=>exact absurd (show false=true from fx) B9
 | bl a =>
  cases ry;cases x with
  | we=>cases rx;exact SeqAt.EqAt.bool_none a
  | bl b=>cases rx;exact SeqAt.EqAt.bool_bool a b
  | int b=>obtain⟨t,rfl⟩:=rx;exact SeqAt.EqAt.bool_int a b t
  | str b=>obtain⟨t,rfl⟩:=rx;exact SeqAt.EqAt.bool_str a b t
  | _=>exact absurd (show false=true from fx) B9
 | int a =>
  obtain⟨t',rfl⟩:=ry;cases x with
  | we=>cases rx;exact SeqAt.EqAt.int_none a t'
  | bl b=>cases rx;exact SeqAt.EqAt.int_bool a t' b
  | int b=>obtain⟨t,rfl⟩:=rx;exact SeqAt.EqAt.int_int a t' b t
  | str b=>obtain⟨t,rfl⟩:=rx;exact sr a t' b t
  | _=>exact absurd (show false=true from fx) B9
 | str a =>
  obtain⟨t',rfl⟩:=ry;cases x with
  | we=>cases rx;exact SeqAt.EqAt.str_none a t'
  | bl b=>cases rx;exact SeqAt.EqAt.str_bool a t' b
  | int b=>obtain⟨t,rfl⟩:=rx;exact su a t' b t
  | str b=>obtain⟨t,rfl⟩:=rx;exact SeqAt.EqAt.str_str a t' b t
  | _=>exact absurd (show false=true from fx) B9
 | _=>exact absurd (show false=true from fy) B9
theorem BG.or{f:Value}{r r':List V->Hp->VK->Prop}(h:BG X f r)(h':BG X f r'):BG X f (fun xs H Q=>r xs H Q\/r' xs H Q):=by
 intro pins s σ H xs us Q I rs q;rcases q with q | q
 ·exact h pins s σ H xs us Q I rs q
 ·exact h' pins s σ H xs us Q I rs q
theorem MK:BG X (.type "list") (fun xs H Q=>∃p ys,xs=[.ref p]/\(Cy X.K H p ys\/De X.K H p ys)/\∀l,H l=none->Q (.ref l) (upd H l (.lst ys))):=by
  intro pins s σ H xs us Q I r h;obtain⟨p,ys,rfl,hq,q⟩:=h;obtain⟨u,rfl,rx⟩:=vals1 r;cases rx;have fin:∀(its:List Value),AF ys its->ys.length<=sizeLine->∀(h':H9) (c':Nat),(∀b o',s.heap.get? b=some o'->h'.get? b=some o') ->
      h'.get? s.heap.objs.size=some { cls:=.type "list", dict:=none,data:=.seq its.toArray c',slots:=#[] }->EP X pins σ Q (.ref s.heap.objs.size) { s with heap:=h' }:=fun its r' hz h' c' kp e =>
    ⟨.ref s.heap.objs.size,_,I.laid (t':=s.toks) kp (B4 _) (show Ab X.prog X.w _ h' _ (.lst ys) from⟨hz,its,c',r',e⟩),rfl,q _ (I.wj.fresh (B4 _))⟩
  rcases hq with hq | hq
  · obtain⟨its,r',pl,hz⟩:=I.list hq;have hlen:=r'.length;obtain⟨o,ho,hc,n,hd⟩:=pl.isList;exact call_list_seq p (.inl rfl) ho hc hd (fun h' c' kp e=>fin its r' hz h' c' kp e) (by simp only[B0]<;>omega)
  · obtain⟨its,r',pl,hz⟩:=I.tuple hq;have hlen:=r'.length;obtain⟨o,ho,hc,n,hd⟩:=pl;exact call_list_seq p (.inr rfl) ho hc hd (fun h' c' kp e=>fin its r' hz h' c' kp e) (by simp only[B0]<;>omega)
theorem KG:BG X (.type "tuple") (fun xs H Q=>∃p ys,xs=[.ref p]/\((Cy X.K H p ys/\∀l,H l=none->Q (.ref l) (upd H l (.tup ys)))\/(De X.K H p ys/\Q (.ref p) H))):=by
 intro pins s σ H xs us Q I r h;obtain⟨p,ys,rfl,h⟩:=h;obtain⟨u,rfl,rx⟩:=vals1 r;cases rx;rcases h with⟨hq,q⟩ | ⟨hq,q⟩
 ·obtain⟨its,r',pl,hz⟩:=I.list hq;have hlen:=r'.length;refine call_tuple_list pl.isList (fun h' kp=>?_) (by simp only[B0]<;>omega);have I1:Inv X pins σ H { s with heap:=h' }:=I.kept (t':=s.toks) kp
  have I2:Inv X pins σ (upd H h'.objs.size (.tup ys)) { s with heap:=h'.push { cls:=.type "tuple", data:=.seq its.toArray } }:=
   I1.laid (t':=s.toks) (fun b o e=>A2 _ e) (B4 _) (show Ab X.prog X.w _ _ _ (.tup ys) from⟨hz,its,r',HP.new _ _⟩)
  exact⟨.ref h'.objs.size,_,I2,rfl,q _ (I1.wj.fresh (B4 _))⟩
 ·obtain⟨its,r',pl,hz⟩:=I.tuple hq;exact call_tuple_same pl ⟨.ref p,H,I,rfl,q⟩
def mz(K:W.Frag)(T:String)(x:V)(H:Hp):Prop:=match x with
  | .str _=>T = "str"
  | .int _=>T = "int"
  | .ref p=>(T = "list" /\ ∃xs,Cy K H p xs)\/(T = "tuple" /\ ∃o,K.lookup p=some o/\o.cls=.type "tuple" /\ o.dict=none) \/
      (T = "dict" /\ ((∃wY,H p=some (.dK wY))\/∃wY,H p=some (.dT wY)))\/(T = "set" /\ ∃S n,H p=some (.set S n))
  | _=>False
theorem Ue{σ:St}{H:Hp}{T:String}{x:V}{v:Value}(I:Inv X pins σ H s)(r:RelV x v)(ty:mz X.K T x H) :
    s.TypeIs v T/\∀a,v=.ref a->∃ob,s.heap.get? a=some ob/\ob.dict=none:=by
  cases x with
  | str z =>
    obtain⟨t,rfl⟩:=r
    cases(show T = "str" from ty)
    exact⟨vR s z t,fun _ e=>nomatch e⟩
  | int i =>
    obtain⟨t,rfl⟩:=r
    cases(show T = "int" from ty)
    exact⟨rK s i t,fun _ e=>nomatch e⟩
  | ref p =>
    cases r;rcases ty with⟨rfl,xs,hq⟩ | ⟨rfl,o,hk,hc,hd⟩ | ⟨rfl,hk⟩ | ⟨rfl,S,n,hk⟩
    · obtain⟨its,_,pl,_⟩:=I.list hq;refine⟨pl.isList.typeIs,fun a e=>?_⟩;cases e;obtain⟨o,n,e,c,hd,_⟩:=pl;exact⟨o,e,hd⟩
    · refine⟨⟨o,I.yK p o hk,hc⟩,fun a e=>?_⟩;cases e;exact⟨o,I.yK _ o hk,hd⟩
    · have z:∃o,s.heap.get? p=some o/\o.ExactDict:=by
        rcases hk with⟨wY,hk⟩ | ⟨wY,hk⟩
        · obtain⟨_,_,_,_,o,_,_,e,ex,_⟩:=I.wj p _ hk;exact⟨o,e,ex⟩
        · obtain⟨_,_,_,_,o,_,_,e,ex,_⟩:=I.wj p _ hk;exact⟨o,e,ex⟩
      obtain⟨o,e,ex⟩:=z;refine⟨⟨o,e,ex.1⟩,fun a e2=>?_⟩;cases e2;exact⟨o,e,ex.2.1⟩
    · obtain⟨o,_,_,_,e,ex,_⟩:=I.wj p _ hk;refine⟨⟨o,e,ex.1⟩,fun a e2=>?_⟩;cases e2;exact⟨o,e,ex.2.1⟩
  | _=>exact E7 ty
abbrev nk(K:W.Frag)(T:String)(r:V->List V->Hp->VK->Prop)(to:TE):TE:=fun σ H Q=>to σ H fun x H1=>mz K T x H1/\r x [] H1 Q
abbrev je(K:W.Frag)(T:String)(r:V->List V->Hp->VK->Prop)(to:TE)(t:TA):TE:=fun σ H Q=>to σ H fun x H1=>mz K T x H1/\t σ H1 fun xs H2=>r x xs H2 Q
variable {o e:Expr} {es:List Expr} {to:TE} {t:TA} {name:Str} {apos xO:Pos} {T id:String} {r:V->List V->Hp->VK->Prop}
theorem Vw(pa:rL T)(slot:Slot T name id)(hty:vv (.builtin id)=pure (.type "method_descriptor"))(hm:UX X id r)(ho:PE X o to)
    (xM:Q0 o name X.env (M8 o X.env)=M8 o X.env:=by rfl) (xB:(apos.endLine == xO.line)=true:=by rfl):PE X (.Call (.Attribute o name apos) [] [] xO) (nk X.K T r to):=by
  intro pins s σ H Q I h;refine wpAny_Call_method0_late xM xB (Aw (ho pins s σ H _ I h) fun v s1 ⟨x,H1,I1,r1,ty,q1⟩=>?_);obtain⟨h1,h2⟩:=Ue I1 r1 ty;exact⟨T,id,pa,slot,hty,h1,h2,Z4 rfl (PySem.evalArgs_none (hm pins s1 σ H1 x [] v [] Q I1 r1 .nil q1))⟩
theorem cP(pa:rL T)(slot:Slot T name id)(hty:vv (.builtin id)=pure (.type "method_descriptor"))(hm:UX X id r)(ho:PE X o to)(ha:PA X (e::es) t)
    (xM:Q0 o name X.env (M8 o X.env)=M8 o X.env:=by rfl)
    (zAs:((M6 xO (D2 (e::es) X.env)).all (fun x=>!x.1) && (j5 xO (U9 [] X.env)).all (fun x=>x.1.isSome)
      && decide ((e::es).length+([]:List j0).length+(if([]:List j0).isEmpty then 0 else 1) < 30))=true:=by rfl)
    (xB:(apos.endLine == xO.line)=true:=by rfl) (hs:D2 (e::es) X.env=(false,M8 e X.env)::D2 es X.env:=by rfl) (zAH:(M6 xO (D2 es X.env)).any (·.1)=false:=by rfl) :
    PE X (.Call (.Attribute o name apos) (e::es) [] xO) (je X.K T r to t):=by
  intro pins s σ H Q I h;refine rN xM zAs xB rfl (Aw (ho pins s σ H _ I h) fun v s1 ⟨x,H1,I1,r1,ty,q1⟩=>?_);obtain⟨h1,h2⟩:=Ue I1 r1 ty;refine⟨T,id,pa,slot,hty,h1,h2,?_⟩;have hA:=ha xO pins s1 σ H1 _ I1 q1;rw[hs] at hA ⊢;refine Z4 (by show(false || (M6 xO (D2 es X.env)).any (·.1))=false;rw[zAH]<;>rfl) (sE ?_);exact Aw hA fun us s2 ⟨vs,H2,I2,r2,q2⟩=>hm pins s2 σ H2 x vs v us Q I2 r1 r2 q2
end
def jO(X:Cx)(id:String)(r:V->List V->Hp->VK->Prop):Prop:=
 ∀(pins:List (B3×Obj)) (s:A7) (σ:St) (H:Hp) (x:V) (xs:List V) (v:Value) (us:List Value) (Q:VK),Inv X pins σ H s->RelV x v->AF xs us->r x xs H Q ->
  B6 (D4 X.prog X.w) X.A (call (.builtin id) (v::us)) (EP X pins σ Q) X.xe s
theorem AF.one:∀{x:V} {us:List Value},AF [x] us->∃u,us=[u]/\RelV x u
 := by
 intro x us h;cases h with | cons r t=>cases t;exact⟨_,rfl,r⟩
theorem AF.two:∀{x y:V} {us:List Value},AF [x,y] us->∃u v,us=[u,v]/\RelV x u/\RelV y v
 := by
 intro x y us h;cases h with | cons r t=>cases t with | cons q t=>cases t;exact⟨_,_,rfl,r,q⟩
theorem AF.zero:∀{us:List Value},AF [] us->us=[]
 | _,.nil=>rfl
theorem AF.rep{xs:List V}{us:List Value}(h:AF xs us):∀k:Nat,AF (D8 k xs).flatten (D8 k us).flatten
 | 0=>.nil
 | k+1=>by
  rw[O4,O4,T1,T1];exact AF.append h (AF.rep h k)
theorem foldl_rep(its:List Value):∀(k:Nat) (acc:List Value),
    tF (fun x1 x2=>x1++x2) acc.toArray (D8 k its.toArray)=(acc++(D8 k its).flatten).toArray
  | 0,acc=>by simp
  | k+1,acc=>by
    have e:acc.toArray++its.toArray=(acc++its).toArray:=by simp
    have e2:(acc++its)++(D8 k its).flatten=acc++(D8 (k+1) its).flatten:=by
      rw[O4,T1,G0]
    rw[<- e2,<- foldl_rep its k (acc++its),<- e,O4,X8]
section
variable {X:Cx} {pins:List (B3×Obj)} {σ:St} {H:Hp} {s:A7} {l b:B3} {xs ys zs:List V}
theorem Inv.zBv{its its':List Value}{n:Nat}{f:Array Value->Array Value}{t':Nat}(I:Inv X pins σ H s)(hH:H l=some (.lst xs))
    (e:s.heap.get? l=some { cls:=.type "list", data:=.seq its.toArray n }) (hf:f its.toArray=its'.toArray) (hv:AF ys its') (hz:ys.length<=sizeLine) :
    Inv X pins σ (upd H l (.lst ys)) { s with heap:=s.heap.update l (E6 f),toks:=t' }:=by
  have q:=ua e f;rw[hf] at q;refine I.write (x:=l) (e:=l) (by rw[hH];exact trivial) (.inl rfl) (fun b' u hb hu=>(J6 s.heap (E6 f) (Ne.symm hb)).trans hu) ⟨_,q⟩ ?_;exact⟨hz,its',_,hv,q⟩
theorem Inv.zCd{its:List Value}{t':Nat}(I:Inv X pins σ H s)(hv:AF ys its)(hz:ys.length<=sizeLine) :
    Inv X pins σ (upd H s.heap.objs.size (.lst ys)) { s with heap:=s.heap.push { cls:=.type "list", data:=.seq its.toArray },toks:=t' }:=
  I.laid (fun _ _ q=>A2 _ q) (B4 _) ⟨hz,its,0,hv,B2 _ rfl⟩
theorem Inv.fresh(I:Inv X pins σ H s):H s.heap.objs.size=none:=I.wj.fresh (B4 _)
theorem Inv.zAG(I:Inv X pins σ H s)(hH:H l=some (.lst xs)):xs.length<=sizeLine/\∃(its:List Value) (n:Nat),AF xs its/\xs.length=its.length/\s.heap.get? l=some { cls:=.type "list", data:=.seq its.toArray n }:=by
 obtain⟨z,its,n,r,e⟩:=I.wj l _ hH;exact⟨z,its,n,r,r.length,e⟩
theorem Iy{n:Nat}(h:n<=sizeLine):Q4 n=false:=by
 unfold Q4;exact decide_eq_false (by omega)
end
section
variable {X:Cx}
def Qx:V->List V->Hp->VK->Prop:=fun x vs H Q=>∃l xs y,x=.ref l/\vs=[y]/\H l=some (.lst xs)/\xs.length < sizeLine/\Q .we (upd H l (.lst (xs++[y])))
theorem Sq:jO X "list.append" Qx:=by
 intro pins s σ H x vs v us Q I rx rv h;obtain⟨l,xs,y,rfl,rfl,hH,hz,q⟩:=h;cases rx;obtain⟨u,rfl,ru⟩:=rv.one;obtain⟨z,its,n,r,hl,e⟩:=I.zAG hH;refine call_meets F.slot_list_append ⟨_,e,rfl⟩ F.entry_list_append (F.args_list_append_2 _ _) (uC l its.toArray n u (by rw[B0];omega)) ⟨e,?_⟩;refine⟨.we,_,I.zBv (its':=its++[u]) hH e (by simp) (r.append (.cons ru .nil)) ?_,rfl,q⟩;rw[D0,E4];omega
def Qw:V->List V->Hp->VK->Prop:=fun x vs H Q=>∃l b xs zs,x=.ref l/\vs=[.ref b]/\H l=some (.lst xs)/\H b=some (.lst zs)/\xs.length+zs.length<=sizeLine/\Q .we (upd H l (.lst (xs++zs)))
theorem So:jO X "list.extend" Qw:=by
 intro pins s σ H x vs v us Q I rx rv h;obtain⟨l,b,xs,zs,rfl,rfl,hH,hB,hz,q⟩:=h;cases rx;obtain⟨u,rfl,ru⟩:=rv.one;cases ru;obtain⟨z,its,n,r,hl,e⟩:=I.zAG hH;obtain⟨z2,wg,n2,r2,xy,e2⟩:=I.zAG hB;have hsz:its.toArray.size+wg.toArray.size<=sizeLine:=by rw[B0,B0];omega
 have zp:¬(!its.toArray.isEmpty && Q4 (its.toArray.size+wg.toArray.size))=true:=by
  rw[Iy hsz,o8];exact B9
 refine call_meets F.slot_list_extend ⟨_,e,rfl⟩ F.entry_list_extend (F.args_list_extend_2 _ _)
  (AutoSeq1.list_extend_list_list_0 l its.toArray n b wg.toArray n2 zp (by rw[B0];omega) (by omega)) ⟨e,e2,?_⟩
 refine⟨.we,_,I.zBv (its':=its++wg) hH e (by simp) (r.append r2) ?_,rfl,q⟩;rw[D0];omega
def kZ:R2:=fun x y H Q=>∃l b xs zs,x=.ref l/\y=.ref b/\H l=some (.lst xs)/\H b=some (.lst zs)/\xs.length+zs.length<=sizeLine/\∀p,H p=none->Q (.ref p) (upd H p (.lst (xs++zs)))
theorem fv:Ef X (binaryOp .Add) kZ:=by
 intro pins s σ H x y v u Q I rx ry h;obtain⟨l,b,xs,zs,rfl,rfl,hH,hB,hz,q⟩:=h;cases rx;cases ry;obtain⟨z,its,n,r,hl,e⟩:=I.zAG hH;obtain⟨z2,wg,n2,r2,xy,e2⟩:=I.zAG hB;refine PySem.P.add_list e e2 ?_ (by rw[B0,B0];omega);have ea:its.toArray++wg.toArray=(its++wg).toArray:=by simp
 rw[ea];exact⟨.ref _,_,I.zCd (t':=s.toks) (r.append r2) (by rw[D0];omega),rfl,q _ I.fresh⟩
def kR:R2:=fun x y H Q=>∃l k xs,x=.ref l/\y=.int k/\H l=some (.lst xs)/\-(2 ^ 63)<=k/\k < 2 ^ 63/\xs.length * k.toNat<=sizeLine /\
 ∀p,H p=none->Q (.ref p) (upd H p (.lst (D8 k.toNat xs).flatten))
theorem len_rep{α:Type}(xs:List α)(k:Nat):(D8 k xs).flatten.length=k * xs.length:=by
 induction k with
 | zero=>simp
 | succ k ih=>rw[O4,T1,D0,ih,uD,vw]
theorem fh:Ef X (binaryOp .Mult) kR:=by
 intro pins s σ H x y v u Q I rx ry h;obtain⟨l,k,xs,rfl,rfl,hH,h1,h2,hz,q⟩:=h;cases rx;obtain⟨t,rfl⟩:=ry;obtain⟨z,its,n,r,hl,e⟩:=I.zAG hH;have hlen:its.toArray.size * k.toNat<=sizeLine:=by rw[B0,<- hl];exact hz
 have zDr:¬its.toArray.size * k.toNat > (2 ^ 63 - 1) / 8:=by
  have:(sizeLine:Nat)<=(2 ^ 63 - 1) / 8:=by decide
  omega
 have zDm:¬(!vS k)=true:=by
  rw[fitsIndex_both h1 h2];exact B9
 have zp:¬Q4 (its.toArray.size * k.toNat)=true:=by
  rw[Iy hlen];exact B9
 have zDg:tF (fun x1 x2=>x1++x2) #[] (D8 (if its.toArray.isEmpty=true then 0 else k.toNat) its.toArray)=(D8 k.toNat its).flatten.toArray:=by
  have f0:∀m:Nat,tF (fun x1 x2=>x1++x2) #[] (D8 m its.toArray)=(D8 m its).flatten.toArray:=fun m=>by
   have:=foldl_rep its m [];rw[X9] at this;exact this
  rw[f0];cases its with
  | nil=>simp
  | cons a r'=>rw[if_neg (by simp)]
 refine qc (T := "list") (U := "int") (by decide) ⟨_,e,rfl⟩ (fun s'=>rK s' k t) noFill_list_mul F.fills_int_mul F.slot_int_rmul repeat_list F.slot_int_index.lookup
  (call_meets F.slot_int_rmul (rK s k t) F.entry_int_rmul (F.args_int_rmul_2 _ _) (int___rmul___int_list k t l its.toArray n)
   ⟨e,rfl,⟨_,e,rfl⟩,call_meets F.slot_list_mul ⟨_,e,rfl⟩ F.entry_list_mul (F.args_list_mul_2 _ _) (AutoListH.list___mul___list_int_3 l its.toArray n k t zDm zDr zp) ⟨e,?_⟩⟩)
 rw[zDg];exact⟨.ref _,_,I.zCd (t':=s.toks) (r.rep k.toNat) (by rw[len_rep,uE];exact hz),rfl,q _ I.fresh⟩
end
end L2
namespace Att
open PySem PySem.W PySem.Calls PyProof.Rows
theorem Hg{P:tG}{h:H9}:∀(ns:List Int) (vs:List Value),WellAll P h vs (ns.map wR)->Y0 vs ns:=by
 intro ns
 induction ns with
 | nil =>
  intro vs w;rw[m7] at w;cases w;exact .nil
 | cons n ns ih =>
  intro vs w;rw[C5] at w;cases w with
  | cons a b =>
   cases a;exact .cons _ _ (ih _ b)
theorem SV{l:OpenLaw}{n:Nat}(hn:l.most=some n){P:tG}{h:H9}{args:List WData}{vals:List Value}
    (zBG:l.row.toRowW.claim.pre args=true) (hwl:WellAll P h vals args) :
    ∃a vs ns,vals=[F7 a]/\args=[WData.list (ns.map wR)]/\h.get? a=some { cls:=.type "list", data:=.seq vs.toArray }/\Y0 vs ns/\ns.length<=n:=by
  have hsh:WShape.hasAll [] args [.list .int]=true:=(pre_splitW zBG).1;have hc:l.pre.holds [] { args:=args }=true:=(pre_splitW zBG).2;obtain⟨d,r,rfl,h1,h2⟩:=hasAllW_cons hsh;obtain rfl:=hasAllW_nil h2;obtain⟨xs,rfl,h3⟩:=hasW_list h1;obtain⟨ns,rfl⟩:=items_int h3;have hlen:ns.length<=n:=by
    unfold OpenLaw.pre at hc;have h4:(WTm.not (.lt (.lit (.int (n:Int))) (.len (.arg 0)))).holds [] { args:=[.list (ns.map .int)] }=true:=by
      have h4:=(holds_andW hc).1;rw[hn] at h4;exact h4
    have h5:=condW_of h4 (w_not (w_lt w_lit (w_len_list (w_arg rfl))));rw[A8] at h5;refine W9 fun q=>?_
    have q':(n:Int) < ((ns.length:Nat):Int):=by omega
    first
      | (rw[decide_eq_true q'] at h5;exact absurd h5 (by decide))
      | (simp at h5;omega)
  cases hwl with
  | cons w1 w2 =>
    cases w2;cases w1 with
    | list ho zAc=>exact⟨_,_,ns,rfl,rfl,ho,Hg ns _ zAc,hlen⟩
theorem Sd(l:OpenLaw)(args:List WData):l.row.toRowW.claim.post args (.bool true) args=true:=
 postW_of (r:=l.row.toRowW) (X:=(true == true))
  (show wN [] (.bool true) .bool=true by first | rfl | decide | simp[wN,WShape.arms,WShape.armsAll])
  (show(WTm.eq .res (.lit (.bool true))).value [] { args:=args,res:=some (.bool true),after:=args }=some (.bool (true == true)) from w_eq_bool (w_res rfl) w_lit) rfl
theorem zz{l:OpenLaw}{n:Nat}{q:F0}{loose:List Str}{XP:(Str->Option Value)->H9->Prop}{YP:J7->H9->Prop}{d:vz}
    (hn:l.most=some n) (hdf:d.params.defaults=[])
    (call:∀(w:J7) (xC wa:A7) (mg mb:Str->Option Value) (fa:B3) (o:Obj) (pm cd doc:Value) (a:B3) (vs:List Value) (ns:List Int),
      Ground q loose [] XP w xC mg mb wa.heap->YP w wa.heap ->
      wa.heap.get? fa=some o->o.data=.func (docDef d.name d.params d.body d.scope pm cd doc)->wa.heap.CodeRec cd d.name->mg d.name=some (.ref fa) ->
      wa.heap.get? a=some { cls:=.type "list", data:=.seq vs.toArray }->Y0 vs ns->ns.length<=n->wa.gens=#[] ->
      W8 (D4 l.prog w) sX (.call (.ref fa) ⟨[.ref a],[]⟩) (fun r s'=>r=.ok (.ret (.bool true))/\OldK wa.heap s'.heap/\s'.os=wa.os/\qf s'.gens) wa) :
    WalkO q loose XP YP l.row.toRowW d [] (fun f vs=>tH f vs):=by
  intro w xC wa mg mb G Y fa o pm cd doc dV kV ho hd hcd hD hmg hg args vals as zBG zEL hrd hwl hlo;obtain rfl:dV=.none:=Dflts.none hD hdf;obtain rfl:kV=.none:=Dflts.noKw hD;obtain⟨a,vs,ns,rfl,rfl,zCA,hints,hlen⟩:=SV hn zBG hwl;refine enter_call (Z2 (call w xC wa mg mb fa o pm cd doc a vs ns G Y ho (fd_plain hd) hcd hmg zCA hints hlen hg) fun r s' hq=>?_);obtain⟨rfl,h2,h3,h4⟩:=hq;exact⟨.inl ⟨.bool true,.bool true,[],rfl,fun _=>rfl,.bool true,Sd l _,fun _=>⟨uF,fun _ hm=>(nomatch hm)⟩⟩,h2,h3,h4⟩
end Att
namespace L2
open PySem PySem.Spec PyProof.Rows
theorem KW:∀{vs:List Value} {ns:List Int},Y0 vs ns->AF (ns.map V.int) vs
 | _,_,.nil=>.nil
 | _,_,.cons n t h=>.cons ⟨t,rfl⟩ (KW h)
def bZ(H:Hp):Prop:=∀b,H b=none\/∃o xs,H b=some (.frz o (.lst xs))
theorem WV{P:F0}{w:J7}{K:W.Frag}{mg mb:Str->Option Value}{CX:YY}{k:Nat}{fa a:B3}{fd:R8}{x:Str}{sp:Sp}{wa:A7}{vs:List Value}{ns:List Int}
    (KX:K.In wa.heap) (hns:wa.heap.Ns M7 mg) (hb:wa.heap.Ns vH mb) (hbb:∀x:Str,x ≠ "__name__" -> mb x=O0 x) (zDi:wa.heap.NoLimit) (hg:wa.gens=#[])
    (ha:wa.heap.get? a=some { cls:=.type "list", data:=.seq vs.toArray }) (hi:Y0 vs ns) (hl:ns.length<=sizeLine) (hr:wt k sX)
    (F:∀base:H9,K.In base->base.Ns M7 mg->xI P w K mg base CX k fa fd [x] sp) (zCs:∀(s:A7) (u:Value),tq s fd ⟨[u],[]⟩ [(x,u)])
    (hsp:∀H:Hp,bZ H->Cy K H a (ns.map V.int)->sp [.ref a] H (fun v _=>v=.bl true) fun _ _ _=>False)
    (hCX:∀H e s',CX [] H wa (fun _ _ _=>False) e s'->False) :
    W8 (D4 P w) sX (.call (.ref fa) ⟨[.ref a],[]⟩) (fun r s'=>r=.ok (.ret (.bool true))/\OldK wa.heap s'.heap/\s'.os=wa.os/\qf s'.gens) wa:=by
  have rv:=KW hi;have zDU:=hi.length
  -- from an abstract heap in zEE nothing but the zBi may be tracked
  have core:∀H:Hp,bZ H->Cy K H a (ns.map V.int)->FY P w H wa.heap->(∀b,H b≠none->b=a)->(H a≠none->K.lookup a=none) ->
      W8 (D4 P w) sX (.call (.ref fa) ⟨[.ref a],[]⟩) (fun r s'=>r=.ok (.ret (.bool true))/\OldK wa.heap s'.heap/\s'.os=wa.os/\qf s'.gens) wa:=by
    intro H hO hS wj hA hK;have GN:∀{b:B3} {o:Obj},wa.heap.get? b=some o->H b=none->(Lw wa.heap H).get? b=some o:=fun e n=>We e n
    have noA:∀{b:B3} {o:Obj} {es:Array DictEntry} {ep:Nat},wa.heap.get? b=some o->o.data=.dict es ep->H b=none:=fun{b o es ep} e d=>by
      cases q:H b with
      | none=>rfl
      | some u =>
        have e':b=a:=hA b (by rw[q];simp);subst e';rw[ha] at e;cases e;have d':wJ vs.toArray _=Data.dict es ep:=d;cases d'
    have nsK:∀{b:B3} {m:Str->Option Value},wa.heap.Ns b m->(Lw wa.heap H).Ns b m:=fun{b m} ⟨o,es,ep,e,d,r⟩=>⟨o,es,ep,GN e (noA e d),d,r⟩
    have hKb:K.In (Lw wa.heap H):=fun b o e=>GN (KX b o e) (by
      cases q:H b with
      | none=>rfl
      | some u =>
        have e':b=a:=hA b (by rw[q];simp);subst e';rw[hK (by rw[q];simp)] at e;cases e)
    have hM:Mod K mg (Lw wa.heap H):=⟨hKb,nsK hns,⟨mb,nsK hb,hbb⟩,let ⟨mc,h1,h2⟩:=zDi;⟨mc,nsK h1,h2⟩⟩;have e0:zAJ P w K mg (Lw wa.heap H) sX [] wa H:=⟨rfl,hM,fun b o e=>Zv e,m5 (TK _ _),trivial,fun b hb=>absurd (show b∈([]:List B3) from hb) (by simp),wj,.of_eq hg⟩;refine Z2 ((F _ hKb (nsK hns)).run sX [] wa H ⟨[.ref a],[]⟩ [.ref a] [.ref a] _ _ hr e0 (zCs wa (.ref a)) (.cons rfl .nil) (hsp H hO hS)) fun r s' h=>?_
    cases r with
    | error e=>exact(hCX H e s' h).elim
    | ok fl =>
      cases fl with
      | next=>exact E7 h
      | brk=>exact E7 h
      | cont=>exact E7 h
      | ret u =>
        obtain⟨v,H',os,bare,un,zDe,r',q⟩:=h;have q':v=.bl true:=q;subst q';obtain rfl:u=Y4 true:=r';refine⟨rfl,OldK.of_keep fun b o e=>?_,os,bare⟩;cases q:H b with
        | none=>exact un.keep b o e q (by intro z;exact absurd (show b∈([]:List B3) from z) (by simp)) (by simp)
        | some u =>
          rcases hO b with z | ⟨ob,xs,z⟩
          · rw[q] at z;cases z
          · have z2:=un.y8 b ob _ z;obtain⟨e1,_⟩:=wj b _ z;obtain⟨e2,_⟩:=zDe b _ z2;rw[e] at e1;cases e1;exact e2
  cases hk:K.lookup a with
  | some o =>
    -- the zBi is one of the zCb own objects
    have e:=KX a o hk;rw[ha] at e;cases e;refine core (fun _=>none) (fun _=>.inl rfl) (.inr ⟨_,vs.toArray,_,hk,rfl,rfl,rfl,by rw[B0,zDU];exact hl,by simpa using rv⟩) (fun b u z=>by have z':(none:Option HO)=some u:=z;cases z') (fun b z=>absurd rfl z) fun z=>absurd rfl z
  | none =>
    refine core (fun b=>if b=a then some (.frz { cls:=.type "list", data:=.seq vs.toArray } (.lst (ns.map V.int))) else none) (fun b=>?_) (.inl (.inr ⟨{ cls:=.type "list", data:=.seq vs.toArray },if_pos rfl⟩)) (fun b u z=>?_) (fun b z=>?_) fun _=>hk
    · by_cases hb:b=a
      · exact .inr ⟨_,_,if_pos hb⟩
      · exact .inl (if_neg hb)
    · by_cases hb:b=a
      · have z':=(if_pos hb).symm.trans z;cases z';subst hb;exact⟨ha,by rw[A8];exact hl,vs,_,rv,ha⟩
      · have z':=(if_neg hb).symm.trans z;cases z'
    · by_cases hb:b=a
      · exact hb
      · exact absurd (if_neg hb) z
theorem zBC{l:W.OpenLaw}{n k:Nat}{q:F0}{loose:List Str}{XP:(Str->Option Value)->H9->Prop}{YP:J7->H9->Prop}{d:vz}{K:tG->W.Frag}{CX:J7->YY}{sp:J7->Sp}{x:Str}
    (hn:l.most=some n) (hn2:n<=sizeLine) (hdf:d.params.defaults=[]) (hr:wt k sX)
    (hY:∀(w:J7) (h:H9),YP w h->(K w.params).In h)
    (F:∀(w:J7) (mg:Str->Option Value) (fa:B3) (h:H9),(K w.params).In h->h.Ns M7 mg->mg d.name=some (.ref fa) ->
      ∃fd:R8,(∀(s:A7) (u:Value),tq s fd ⟨[u],[]⟩ [(x,u)]) /\
        ∀base:H9,(K w.params).In base->base.Ns M7 mg->xI l.prog w (K w.params) mg base (CX w) k fa fd [x] (sp w))
    (hsp:∀(w:J7) (H:Hp) (a:B3) (ns:List Int),ns.length<=n->bZ H->Cy (K w.params) H a (ns.map V.int)->sp w [.ref a] H (fun v _=>v=.bl true) fun _ _ _=>False)
    (hCX:∀(w:J7) (H:Hp) (s:A7) (e:Value) (s':A7),CX w [] H s (fun _ _ _=>False) e s'->False) :
    W.WalkO q loose XP YP l.row.toRowW d [] (fun f vs=>tH f vs):=by
  refine Att.zz hn hdf fun w xC wa mg mb fa o pm cd doc a vs ns G Y ho hd hcd hmg zCA hints hlen hg=>?_
  have KX:=hY w _ Y;obtain⟨fd,hb,hF⟩:=F w mg fa _ KX G.T.g hmg;exact WV KX G.T.g G.T.b G.T.builtins G.T.nolimit hg zCA hints (C4 hlen hn2) hr hF hb (fun H hO hS=>hsp w H a ns hlen hO hS) fun H e s'=>hCX w H wa e s'
noncomputable def Am(s:N2):Arguments:=match s with
 | .FunctionDef _ a _ _ _ _ _ _ _ _=>a
 | _=>{ posonlyargs:=[],args:=[],vararg:=none,kwonlyargs:=[],kw_defaults:=[],kwarg:=none,defaults:=[] }
noncomputable def Ac(s:N2):List N2:=match s with
 | .FunctionDef _ _ b _ _ _ _ _ _ _=>b
 | _=>[]
noncomputable def AI(s:N2):O1:=match s with
 | .FunctionDef _ _ _ _ _ _ sc _ _ _=>sc
 | _=>{ kind:=.function,names:=[],isGenerator:=false,isCoroutine:=false }
abbrev Qb:YY:=fun _ _ _ _ _ _=>False
abbrev E0:XK:=fun _ _ _=>False
theorem cQ{X:Cx}:DN Qb X E0:=fun _ _ _ _ _ _ _ h=>h.elim
structure Fun (K:W.Frag) (x qual:Str) (st:N2) (f:B3) (fd:R8):Prop where
 ex:∃(oc:Value) (od:Option B3) (kV doc pm:Value) (an:Option B3) (xG ct:Value) (osl:Array (Option Value)),
  fd=W.fnOf x qual (Am st) (Ac st) (AI st) .none kV doc pm an xG ct/\K.lookup f=some ⟨oc,od,.func fd,osl⟩/\W.codeIn K xG qual=true
 kp:W.keepIn K (.ref f)=true
variable {x qual:Str}
section
variable {P:F0} {w:J7} {K:W.Frag} {mg:Str->Option Value} {base:H9}
theorem Fun.ok{st:N2}{f:B3}{fd:R8}{N ps:List Str}{k:Nat}{sp:Sp}(F:Fun K x qual st f fd)(S:yE N ps (AI st))(len:∀vs H Q E,sp vs H Q E->vs.length=ps.length)
    (zAv:∀(xG:Value) (A:I9) (outer:List Env) (s:A7) (H:Hp) (vs:List V) (Q:VK) (E:XK),wt k (A.deeper (sD qual (AI st) s.heap.objs.size f xG))->sp vs H Q E ->
      ∃t,Ee (Nw Qb P w K mg base N qual (AI st) f xG A outer s H E).nox (Ac st) t/\t { nx:=fun _ H'=>Q .we H',rt:=Q } (start N vs) H):xI P w K mg base Qb (k+1) f fd ps sp:=by
  obtain⟨oc,od,kV,doc,pm,an,xG,ct,osl,rfl,lk,hcd⟩:=F.ex;refine lh lk hcd S len fun A outer s H vs Q E hr hsp=>?_
  obtain⟨t,h,q⟩:=zAv xG A outer s H vs Q E hr hsp;exact⟨t,h.nox,q⟩
theorem Fun.binds{st:N2}{f:B3}{fd:R8}{ps:List Str}(F:Fun K x qual st f fd)
    (h:∀(kV doc pm:Value) (an:Option B3) (xG ct:Value) (us:List Value),us.length=ps.length->qy (W.fnOf x qual (Am st) (Ac st) (AI st) .none kV doc pm an xG ct) ⟨us,[]⟩=pure (ps.zip us)):Binds K fd ps []:=by
  obtain⟨oc,od,kV,doc,pm,an,xG,ct,osl,rfl,lk,hcd⟩:=F.ex;exact .all (h kV doc pm an xG ct)
theorem Wo{st:N2}{f:B3}{oc:Value}{od an:Option B3}{osl:Array (Option Value)}{kV doc pm xG ct:Value}(l:K.lookup f=some ⟨oc,od,.func (W.fnOf x qual (Am st) (Ac st) (AI st) .none kV doc pm an xG ct),osl⟩)
    (c:W.codeIn K xG qual=true) (k:W.keepIn K (.ref f)=true):Fun K x qual st f (W.fnOf x qual (Am st) (Ac st) (AI st) .none kV doc pm an xG ct):=⟨⟨oc,od,kV,doc,pm,an,xG,ct,osl,rfl,l,c⟩,k⟩
end
def MV(H H':Hp):Prop:=∀b o,H b=some o->H' b=some o
noncomputable def AQ(sc:O1)(x:Str):Bool:=match sc.names.lookup x with | some .cell=>true | _=>false
def Cx.inner(X:Cx)(scope:O1)(cl:List (Str×B3))(C:B3)(s:A7)(H:Hp)(fp:List B3):Cx:=
 { X with xC:=s,H₀:=H,env:=compEnvC scope cl C X.env,outer:=X.stack,ex:=fp,fn:=AQ scope,xe:=fun _ _=>False }
theorem Aj{scope:O1}{env:Env}{x:Str}:∀{names:List (Str×NameKind)}, 
    ((names.map fun(n,k)=>if(k == NameKind.free && env.scope.kind == .function && env.kindOf n == some .cell) then(n,NameKind.cell) else(n,k)).lookup x=some .cell \/
     (names.map fun(n,k)=>if(k == NameKind.free && env.scope.kind == .function && env.kindOf n == some .cell) then(n,NameKind.cell) else(n,k)).lookup x=some .free) ->
    names.lookup x=some .cell\/names.lookup x=some .free
  | [],h=>by simp at h
  | (n,k)::r,h=>by
    have ih:=@Aj scope env x r;cases hx:x == n with
    | true =>
      simp only[C5,G7] at h ⊢
      by_cases hc:(k == NameKind.free && env.scope.kind == .function && env.kindOf n == some .cell)=true
      · have hk:k=.free:=by
          simp only[A3,beq_iff_eq] at hc;exact hc.1.1
        right;simp[hx,hk]
      · rw[if_neg hc] at h;simp only[G7,hx] at h ⊢;exact h
    | false =>
      simp only[C5,G7] at h ⊢
      by_cases hc:(k == NameKind.free && env.scope.kind == .function && env.kindOf n == some .cell)=true
      · rw[if_pos hc] at h;simp only[G7,hx] at h ⊢;exact ih h
      · rw[if_neg hc] at h;simp only[G7,hx] at h ⊢;exact ih h
theorem DG{env:Env}{x:Str}:∀{names:List (Str×NameKind)}, 
    (names.map fun(n,k)=>if(k == NameKind.free && env.scope.kind == .function && env.kindOf n == some .cell) then(n,NameKind.cell) else(n,k)).lookup x=some .local ->
    names.lookup x=some .local
  | [],h=>by simp at h
  | (n,k)::r,h=>by
    have ih:=@DG env x r;cases hx:x == n with
    | true =>
      simp only[C5,G7] at h ⊢
      by_cases hc:(k == NameKind.free && env.scope.kind == .function && env.kindOf n == some .cell)=true
      · rw[if_pos hc] at h;simp only[G7,hx] at h;cases h
      · rw[if_neg hc] at h;simp only[G7,hx] at h ⊢;exact h
    | false =>
      simp only[C5,G7] at h ⊢
      by_cases hc:(k == NameKind.free && env.scope.kind == .function && env.kindOf n == some .cell)=true
      · rw[if_pos hc] at h;simp only[G7,hx] at h ⊢;exact ih h
      · rw[if_neg hc] at h;simp only[G7,hx] at h ⊢;exact ih h
variable {scope:O1}
theorem Jd{env:Env}(zDl:∀x,scope.names.lookup x=some .free->∃c,env.cells.lookup x=some c)(hnd:∀x k,(x,k)∈scope.names->k=.free->scope.names.lookup x=some .free) :
    ∃cl,closureFor scope env=pure cl/\(∀x c,cl.lookup x=some c->env.cells.lookup x=some c)/\∀x,scope.names.lookup x=some .free->∃c,cl.lookup x=some c:=by
  have go:∀(names:List (Str×NameKind)) (cs:List (Str×B3)),(∀x k,(x,k)∈names->k=.free->∃c,env.cells.lookup x=some c)->(∀x c,cs.lookup x=some c->env.cells.lookup x=some c) ->
      ∃cl,(forIn names cs (fun(x:Str×NameKind) (r:List (Str×B3))=>(if(x.2 == NameKind.free)=true then(cellOf env x.1 >>= fun c=>(pure (ForInStep.yield ((x.1,c)::r)):Sem _)) else pure (ForInStep.yield r))))=(pure cl:Sem _) /\
        (∀x c,cl.lookup x=some c->env.cells.lookup x=some c)/\(∀x,(cs.lookup x).isSome=true->(cl.lookup x).isSome=true)/\∀x,(x,NameKind.free)∈names->(cl.lookup x).isSome=true:=by
    intro names
    induction names with
    | nil=>intro cs _ h2;exact⟨cs,by simp,h2,fun _ z=>z,fun _ z=>by simp at z⟩
    | cons p r ih =>
      intro cs h1 h2;obtain⟨n,k⟩:=p
      by_cases hk:k=.free
      · subst hk;obtain⟨c,hc⟩:=h1 n _ B1 rfl;have zG:cellOf env n=pure c:=by unfold cellOf;rw[hc]
        obtain⟨cl,e,a,b,d⟩:=ih ((n,c)::cs) (fun x k hx hk=>h1 x k (A9 _ hx) hk) (fun x c' hx=>by
          rw[G7] at hx;cases hxn:x == n with
          | true => rw[hxn] at hx; simp at hx; subst hx; have : x = n := by simpa using hxn
                    rw[this];exact hc
          | false=>rw[hxn] at hx;exact h2 x c' hx)
        refine⟨cl,?_,a,fun x hx=>b x ?_,fun x hx=>?_⟩
        · rw[k5];simp only[zG];simpa using e
        · rw[G7];cases hxn:x == n with
          | true=>rfl
          | false=>exact hx
        · rcases C8.mp hx with z | z
          · injection z with z1 _
            subst z1;exact b x (by rw[G7];simp)
          · exact d x z
      · have hb:(k == NameKind.free)=false:=by simpa using hk
        obtain⟨cl,e,a,b,d⟩:=ih cs (fun x k hx hk=>h1 x k (A9 _ hx) hk) h2;refine⟨cl,?_,a,b,fun x hx=>?_⟩
        · rw[k5];simp only[hb];simpa using e
        · rcases C8.mp hx with z | z
          · injection z with _ z2
            exact absurd z2.symm hk
          · exact d x z
  obtain⟨cl,e,a,_,d⟩:=go scope.names [] (fun x k hx hk=>zDl x (hnd x k hx hk)) (fun x c h=>by simp at h);refine⟨cl,?_,a,fun x hx=>Q3.mp (d x (G8 hx))⟩;unfold closureFor;simpa using e
theorem Ao:∀(names:List (Str×NameKind)) (n:Nat) (acc:List (Str×B3)),N7 n names acc=N7 n names []++acc
 | [],n,acc=>by simp[N7]
 | (x,k)::r,n,acc=>by
  unfold N7;split
  ·rw[Ao r (n+1) ((x,n)::acc),Ao r (n+1) [(x,n)],G0];rfl
  ·exact Ao r n acc
theorem DK{x:Str}{c:B3}:∀(names:List (Str×NameKind)) (n:Nat),(x,c)∈N7 n names []->(x,NameKind.cell)∈names
 | [],n,h=>by simp[N7] at h
 | (y,k)::r,n,h=>by
  unfold N7 at h;split at h
  ·rename_i hk;have hk:k=.cell:=by simpa using hk
   rw[Ao] at h;rcases E9.mp h with h | h
   ·exact A9 _ (DK r _ h)
   ·rw[D3] at h;cases h;rw[hk];exact B1
  ·exact A9 _ (DK r _ h)
theorem DL{x:Str}:∀(names:List (Str×NameKind)) (n:Nat),(x,NameKind.cell)∈names->∃c,(N7 n names []).lookup x=some c
 | [],n,h=>by cases h
 | (y,k)::r,n,h=>by
  unfold N7
  by_cases hr:(x,NameKind.cell)∈r
  ·split
   ·rw[Ao];obtain⟨c,e⟩:=DL r (n+1) hr;exact⟨c,by rw[R9,e];rfl⟩
   ·exact DL r n hr
  ·rcases C8.mp h with e | e
   ·cases e;simp only[beq_self_eq_true,if_true];rw[Ao];cases q:(N7 (n+1) r []).lookup x with
    | some c=>exact⟨c,by rw[R9,q];rfl⟩
    | none=>exact⟨n,by rw[R9,q];simp⟩
   ·exact absurd e hr
theorem CZ{M:Model}{A:I9}{E:Value->A7->Prop}{s:A7}{scope:O1}{globals:B3}{closure:List (Str×B3)}{qual:Str}{outer:Env}{Q:Env->A7->Prop}
    (hQ:Q { scope:=scope,locals:=s.heap.objs.size,globals:=globals,cells:=N7 (s.heap.objs.size+1) scope.names closure,qual:=qual,func:=none,code:=outer.code,frame:=outer.frame,builtins:=outer.builtins } { s with heap:=vi (s.heap.push { cls:=.type "dict", data:=.dict #[] }) scope.names }) :
    B6 M A (sG scope globals closure [] qual none .none (some outer)) Q E s:=by
  simp only[sG,tJ,if_true];refine A1 (wpAny_alloc ?_);refine A1 (wpAny_layCells _ (fun name kind cells=>by cases hkc:kind == NameKind.cell<;>simp[hkc]) _ _ _ _ ?_)
  rw[show({ s with heap:=s.heap.push { cls:=.type "dict", data:=.dict #[] } }:A7).heap.objs.size=s.heap.objs.size+1 from J0 ..]
  rw[sH];exact A1 (A6 (A6 hQ))
noncomputable def xJ(N:List Str)(sc scope:O1)(js:List Nat):Bool:=
 (match scope.kind with | .function=>true | _=>false) &&
 scope.names.all (fun p=>(match p.2 with
  | .cell=>(match scope.names.lookup p.1 with | some .cell=>true | _=>false)
  | .local=>(match scope.names.lookup p.1 with | some .local=>true | _=>false)
  | .free=>(match scope.names.lookup p.1 with | some .free=>true | _=>false) && (match sc.names.lookup p.1 with | some .cell=>true | some .free=>true | _=>false)
  | _=>true)) &&
 (N.zipIdx.all fun p=>(match scope.names.lookup p.1 with | some .local=>js.contains p.2 | some .cell=>js.contains p.2 | _=>true))
structure yD (N:List Str) (sc scope:O1) (js:List Nat):Prop where
 kind:scope.kind=.function
 zCH:∀x k,(x,k)∈scope.names->k=.cell->scope.names.lookup x=some .cell
 zBP:∀y∈scope.names,y.2=.local->scope.names.lookup y.1=some .local
 zBQ:∀x k,(x,k)∈scope.names->k=.free->scope.names.lookup x=some .free
 fr:∀x,scope.names.lookup x=some .free->sc.names.lookup x=some .cell\/sc.names.lookup x=some .free
 jsl:∀(i:Nat) x,N[i]?=some x->scope.names.lookup x=some .local\/scope.names.lookup x=some .cell->i∈js
variable {js:List Nat}
theorem JK{N:List Str}{sc:O1}(h:xJ N sc scope js=true):yD N sc scope js:=by
  unfold xJ at h;rw[A3,A3] at h;obtain⟨⟨h1,h2⟩,h3⟩:=h;rw[F8] at h2 h3;refine⟨?_,fun x k hy e=>?_,fun y hy e=>?_,fun x k hy e=>?_,fun x e=>?_,fun i x e1 e2=>?_⟩
  · cases q:scope.kind<;>rw[q] at h1<;>first | rfl | cases h1
  · have:=h2 _ hy;rw[e] at this;dsimp only at this;split at this
    · assumption
    · cases this
  · have:=h2 y hy;rw[e] at this;dsimp only at this;split at this
    · assumption
    · cases this
  · have:=h2 _ hy;rw[e] at this;dsimp only at this;rw[A3] at this;have:=this.1;split at this
    · assumption
    · cases this
  · have:=h2 _ (G8 e);dsimp only at this;rw[A3] at this;have:=this.2;split at this
    · left;assumption
    · right;assumption
    · cases this
  · have hm:(x,i)∈N.zipIdx:=by
      rw[List.mem_zipIdx_iff_getElem?];exact e1
    have:=h3 _ hm;dsimp only at this;rcases e2 with e2 | e2
    · rw[e2] at this;dsimp only at this;simpa using this
    · rw[e2] at this;dsimp only at this;simpa using this
def blank(js:List Nat)(σ:St):St:=js.foldl (fun σ j=>σ.set j none) σ
theorem xS(js:List Nat):∀σ:St,(blank js σ).length=σ.length:=by
 induction js with
 | nil=>intro σ;rfl
 | cons j r ih=>intro σ;unfold blank;rw[X8];have:=ih (σ.set j none);unfold blank at this;rw[this,E1]
theorem HJ(js:List Nat):∀(σ:St) (i:Nat) (v:V),(blank js σ)[i]?=some (some v)->i∉js/\σ[i]?=some (some v):=by
 induction js with
 | nil=>intro σ i v h;exact⟨by simp,h⟩
 | cons j r ih =>
  intro σ i v h;unfold blank at h;rw[X8] at h;obtain⟨a,b⟩:=ih (σ.set j none) i v h
  by_cases e:i=j
  ·subst e
   by_cases hl:i < σ.length
   ·rw[F9 hl] at b;cases b
   ·rw[M4 (by rw[E1];omega)] at b;cases b
  ·rw[E3 (Ne.symm e)] at b;exact⟨by simp[e,a],b⟩
def UT(js:List Nat)(g:TG):Prop:=∀x σ H Q,g x σ H Q->g x σ H fun xR H2=>(xR.length=σ.length/\∀i,i∉js->xR[i]?=σ[i]?)/\Q xR H2
theorem Wi{j:Nat}(h:j∈js):UT js (DW j):=fun x σ H Q q=>⟨⟨E1 ..,fun i hi=>E3 (fun(e:j=i)=>hi (e▸h))⟩,q⟩
def Oa(js:List Nat)(g:MU):Prop:=∀x σ H Q,g x σ H Q->g x σ H fun xR H2=>(xR.length=σ.length/\∀i,i∉js->xR[i]?=σ[i]?)/\Q xR H2
theorem NY:Oa js NZ:=fun x σ H Q ⟨e,q⟩=>⟨e,⟨rfl,fun _ _=>rfl⟩,q⟩
theorem TM{j:Nat}{u:MU}(h:j∈js)(hu:Oa js u):Oa js (DX (DW j) u):=by
 rintro x σ H Q ⟨v,r,e,q⟩;refine⟨v,r,e,?_⟩;have:=hu r (σ.set j (some v)) H Q q;show u r (σ.set j (some v)) H _;have key:∀(P P':St->Hp->Prop),(∀a b,P a b->P' a b)->True:=fun _ _ _=>trivial
 have e2:(fun xR H2=>(xR.length=(σ.set j (some v)).length/\∀(i:Nat),i∉js->xR[i]?=(σ.set j (some v))[i]?)/\Q xR H2)=(fun xR H2=>(xR.length=σ.length/\∀(i:Nat),i∉js->xR[i]?=σ[i]?)/\Q xR H2):=by
  funext xR H2;have e3:(∀(i:Nat),i∉js->xR[i]?=(σ.set j (some v))[i]?)=(∀(i:Nat),i∉js->xR[i]?=σ[i]?):=by
   apply propext;constructor
   ·intro k i hi;rw[k i hi,E3 (fun(e:j=i)=>hi (e▸h))]
   ·intro k i hi;rw[k i hi,E3 (fun(e:j=i)=>hi (e▸h))]
  rw[e3,E1]
 rw[e2] at this;exact this
theorem RS{K:W.Frag}{n:Nat}{u:MU}(hu:Oa js u):UT js (gi K n u):=by
 rintro x σ H Q ⟨a,xs,e,hq,hl,q⟩;exact⟨a,xs,e,hq,hl,hu _ _ _ _ q⟩
variable {a:B3}
section
variable {X:Cx} {pins:List (B3×Obj)} {σ:St} {H:Hp} {s:A7} {scope:O1} {cl:List (Str×B3)} {js:List Nat} {fp:List B3} {C D:B3}
theorem Inv.zBr(I:Inv X pins σ H s)(h:s.heap.objs.size<=a):a∉RW X.stack:=fun hb=>by
 rcases C8.mp (I.yH a hb) with e | e
 ·exact absurd (C7 I.lt (e▸h)) (P9 _)
 ·exact I.zCZ h e
theorem Inv.zO(I:Inv X pins σ H s){c:B3}(e:X.env.cells.lookup x=some c):c < s.heap.objs.size:=by
 obtain⟨v,q⟩:=I.cell x c e;exact q.lt
theorem Inv.zBU(I:Inv X pins σ H s){p:B3×Obj}(hp:p∈X.pn++pins):p.1 < s.heap.objs.size:=C0 (I.pin p hp).1
structure zBA (X:Cx) (scope:O1) (cl:List (Str×B3)) (s:A7) (C:B3):Prop where
 old:∀x c,cl.lookup x=some c->AQ scope x=false->X.env.cells.lookup x=some c
 own:∀x c,cl.lookup x=some c->AQ scope x=true->s.heap.objs.size<=c/\C < c
 inj:∀x y c,cl.lookup x=some c->cl.lookup y=some c->AQ scope x=true->AQ scope y=true->x=y
 fr:∀x,scope.names.lookup x=some .free->∃c,cl.lookup x=some c
 has:∀x,AQ scope x=true->∃c,cl.lookup x=some c
theorem zBA.ne(L:zBA X scope cl s C){c b:B3}(e:cl.lookup x=some c)(hb:b < s.heap.objs.size)(h:∀x c,X.env.cells.lookup x=some c->c≠b):c≠b:=by
 cases q:AQ scope x with
 | false=>exact h x c (L.old x c e q)
 | true=>exact Q9 (C7 hb (L.own x c e q).1)
theorem ak{cl0:List (Str×B3)}(xW:yD X.N X.env.scope scope js)(ye:∀x c,cl0.lookup x=some c->X.env.cells.lookup x=some c)(yw:∀x,scope.names.lookup x=some .free->∃c,cl0.lookup x=some c)
    {h:H9} (hC:s.heap.objs.size<=C) (hs:h.objs.size=C+1):zBA X scope (N7 (C+1) scope.names cl0) s C/\∀x c,(N7 (C+1) scope.names cl0).lookup x=some c->AQ scope x=true->∃v,(vi h scope.names).IsCell c v:=by
  have ok:=cellsFrom_ok scope.names h (C+1) [] ⟨fun _ _ hm=>(nomatch hm),uF⟩ (by rw[hs];exact B4 _);rw[hs] at ok;rw[Ao];generalize hw:N7 (C+1) scope.names []=own at ok;have mem:∀x c,own.lookup x=some c->AQ scope x=true:=fun x c e=>by
    have:=xW.zCH x _ (DK scope.names (C+1) (by rw[hw];exact G8 e)) rfl;unfold AQ;rw[this]
  have has:∀x,AQ scope x=true->∃c,own.lookup x=some c:=fun x e=>by
    unfold AQ at e;split at e
    · rename_i q;obtain⟨c,z⟩:=DL scope.names (C+1) (G8 q);rw[hw] at z;exact⟨c,z⟩
    · cases e
  have yes:∀x c,(own++cl0).lookup x=some c->AQ scope x=true->own.lookup x=some c:=fun x c e q=>by
    obtain⟨c',z⟩:=has x q;rw[R9,z] at e;rw[z];exact e
  have no:∀x,AQ scope x=false->(own++cl0).lookup x=cl0.lookup x:=fun x q=>by
    rw[R9];cases z:own.lookup x with
    | none=>rfl
    | some c=>rw[mem x c z] at q;cases q
  refine⟨⟨fun x c e q=>ye x c (by rw[<- no x q];exact e),fun x c e q=>?_,fun x y c e1 e2 q1 q2=>?_,fun x e=>?_,fun x q=>?_⟩,fun x c e q=>?_⟩
  · have:=(ok.empty x c (G8 (yes x c e q))).2;exact⟨C4 hC (Nat.le_of_succ_le this),this⟩
  · exact PySem.name_of_addr ok.apart (G8 (yes x c e1 q1)) (G8 (yes y c e2 q2))
  · obtain⟨c,z⟩:=yw x e;exact⟨c,by rw[no x (by unfold AQ;rw[e])];exact z⟩
  · obtain⟨c,z⟩:=has x q;exact⟨c,by rw[R9,z];rfl⟩
  · exact⟨none,(ok.empty x c (G8 (yes x c e q))).1⟩
theorem Inv.xJ(I:Inv X pins σ H s)(xW:yD X.N X.env.scope scope js)(hf:∀b∈fp,wc X pins H b)(hfe:∀b∈fp,b < s.heap.objs.size)(hC:s.heap.objs.size<=C)
    (L:zBA X scope cl s C):(X.inner scope cl C s H fp).Ok where
  mod:=I.ok.mod
  kind:=xW.kind
  glob:=I.ok.glob
  blt:=I.ok.blt
  above:=hC
  inj:=fun x y c a b=>by
    cases hx:AQ scope x<;>cases hy:AQ scope y
    · exact I.ok.inj x y c (L.old x c a hx) (L.old y c b hy)
    · exact absurd (I.zO (L.old x c a hx)) (Nat.not_lt.mpr (L.own y c b hy).1)
    · exact absurd (I.zO (L.old y c b hy)) (Nat.not_lt.mpr (L.own x c a hx).1)
    · exact L.inj x y c a b hx hy
  has:=fun x h=>by
    rcases Aj (scope:=scope) (env:=X.env) (names:=scope.names) h with q | q
    · exact L.has x (by unfold AQ;rw[q])
    · exact L.fr x q
  cab:=fun x c h e=>(L.own x c e h).1
  hd:=I.ok.hd
  frames:=I.ok.frames
  stk:=.inl rfl
  exf:=fun b hb=>⟨D1 (C7 (hfe b hb) hC),fun x c e=>L.ne e (hfe b hb) (hf b hb).2.2.2.2.1⟩
  bs:=I.bs
  bsz:=C4 I.ok.bsz I.sz
  zAY:=fun b o e hb=>by
    rcases(hf b hb).2.2.2.1 with z | z
    · exact I.ok.zAY b o e z
    · exact absurd (C7 (C0 e) (C4 I.ok.bsz z)) (P9 _)
  zAy:=fun b hb z=>by
    rcases C8.mp (I.yH b z) with e | e
    · exact(hf b hb).2.1 e
    · exact(hf b hb).2.2.1 e
  yO:=I.stack
  frf:=I.zAL
theorem Inv.enter{h':H9}{tk:Nat}{o:Obj}(I:Inv X pins σ H s)(xW:yD X.N X.env.scope scope js)(hf:∀b∈fp,wc X pins H b)(hfe:∀b∈fp,b < s.heap.objs.size)(hC:s.heap.objs.size<=C)(hD:s.heap.objs.size<=D)(hDC:D≠C)
    (L:zBA X scope cl s C) (zAq:∀x c,cl.lookup x=some c->AQ scope x=true->∃v,h'.IsCell c v)
    (k:∀b u,s.heap.get? b=some u->h'.get? b=some u) {m:Str->Option Value} (hns:h'.Ns C m) (ho:h'.get? D=some o) (hoc:∀v,o.data≠.cell v) :
    Inv (X.inner scope cl C s H fp) (pins++[(D,o)]) (blank js σ) H { s with heap:=h',toks:=tk } where
  ok:=I.xJ xW hf hfe hC L
  os:=rfl
  bare:=I.bare
  base:=Un.kept k
  loc:=by
    refine⟨m,hns,fun i x v e1 e2 e3=>?_⟩;obtain⟨hj,e2⟩:=HJ js σ i v e2;have free:scope.names.lookup x=some .free:=by
      rcases e3 with q | q | q
      · exact absurd (xW.jsl i x e1 (.inl (DG (env:=X.env) (names:=scope.names) q))) hj
      · rcases Aj (scope:=scope) (env:=X.env) (names:=scope.names) (.inl q) with z | z
        · exact absurd (xW.jsl i x e1 (.inr z)) hj
        · exact z
      · rcases Aj (scope:=scope) (env:=X.env) (names:=scope.names) (.inr q) with z | z
        · exact absurd (xW.jsl i x e1 (.inr z)) hj
        · exact z
    have kx:=xW.fr x free;obtain⟨m0,hn0,hl0⟩:=I.loc;obtain⟨u,r,l⟩:=hl0 i x v e1 e2 (kx.elim (fun z=>.inr (.inl z)) fun z=>.inr (.inr z));refine⟨u,r,?_⟩;rcases l with⟨z,_⟩ | ⟨_,c,hc,zG⟩
    · have z':X.env.scope.names.lookup x=some .local:=z;rcases kx with y | y
      · rw[y] at z';cases z'
      · rw[y] at z';cases z'
    · obtain⟨c',hc'⟩:=L.fr x free;have:c'=c:=by
        have q:=L.old x c' hc' (by unfold AQ;rw[free]);rw[hc] at q;exact(D5 q).symm
      subst this;obtain⟨oc,q1,q2⟩:=zG;refine .inr ⟨?_,c',hc',oc,k _ _ q1,q2⟩;rcases e3 with q | q | q
      · have:=DG (env:=X.env) (names:=scope.names) q;rw[free] at this;cases this
      · exact .inl q
      · exact .inr q
  cell:=fun x c e=>by
    cases q:AQ scope x with
    | true=>exact zAq x c e q
    | false =>
      obtain⟨v,oc,q1,q2⟩:=I.cell x c (L.old x c e q);exact⟨v,oc,k _ _ q1,q2⟩
  free:=I.wj.fresh hC
  xQ:=fun x c e=>by
    cases q:AQ scope x with
    | true=>exact I.wj.fresh (L.own x c e q).1
    | false=>exact I.xQ x c (L.old x c e q)
  pin:=fun p hp=>by
    have hp':p∈X.pn++(pins++[(D,o)]):=hp;rw[<- G0] at hp';rcases E9.mp hp' with z | z
    · obtain⟨a1,a2,a3,a4,a5⟩:=I.pin p z;refine⟨k _ _ a1,a2,D1 (C7 (C0 a1) hC),fun q=>?_,a5⟩;rcases C8.mp (I.yH p.1 q) with e | e
      · exact a3 e
      · exact a4 e
    · have e:p=(D,o):=by simpa using z
      subst e;exact⟨ho,I.wj.fresh hD,hDC,I.zBr hD,hoc⟩
  wj:=I.wj.kept k
  len:=(xS js σ).trans I.len
theorem Inv.leave{Y:Cx}{H':Hp}{s':A7}{τ:St}{pl:List (B3×Obj)}{ys:List V}{its:List Value}{n:Nat}(I:Inv X pins σ H s)(hf:∀b∈fp,wc X pins H b)(hY:Y=X.inner scope cl C s H fp)(J:Inv Y pl τ H' s')(hD:s.heap.objs.size<=D)
    (hHD:H' D=none) (hz:ys.length<=sizeLine) (hv:AF ys its) (ho:s'.heap.get? D=some { cls:=.type "list", data:=.seq its.toArray n }) :
    Inv X pins σ (upd H' D (.lst ys)) s':=by
  subst hY;have un:Un (RW X.stack) fp H H' s.heap s'.heap:=J.base;have ne:∀{b:B3} {o:Obj},s.heap.get? b=some o->b≠D:=fun e=>D1 (C7 (C0 e) hD)
  have nH:∀{b:B3} {o:HO},H' b=some o->b≠D:=fun e z=>by rw[z,hHD] at e;cases e
  have un':Un (RW X.stack) fp H (upd H' D (.lst ys)) s.heap s'.heap:=
    ⟨un.keep,un.slot,fun b o e n' hx=>by rw[AE (ne e)];exact un.free b o e n' hx,un.there,fun b xs e=>by have:=un.zK b xs e;rw[AE (nH this)];exact this,
      fun b o u e=>by have:=un.y8 b o u e;rw[AE (nH this)];exact this,fun b ps e=>by obtain⟨more,q⟩:=un.zL b ps e;exact⟨more,by rw[AE (nH q)];exact q⟩⟩
  have wj:FY X.prog X.w (upd H' D (.lst ys)) s'.heap:=fun b u e=>by
    by_cases hb:b=D
    · subst hb;rw[AM] at e;cases e;exact⟨hz,its,n,hv,ho⟩
    · rw[AE hb] at e;exact(J.wj b u e).zAA (fun _ _ _ q=>q) (fun c q=>by rw[AE (nH q)];exact q) fun c xs q=>by rw[AE (nH q)];exact q
  exact I.zCz J.os un' wj J.bare fun b hb=>by
    obtain⟨_,f1,_,f3,f4,f5⟩:=hf b hb;exact⟨f3,f1,f4,f5⟩
end
section
variable {X:Cx}
def kM:V->Option Int->Option Int->Hp->VK->Prop:=fun x lo hi H Q=>∃z,x=.str z/\z.length<=sizeLine/\Q (.str (q8 z lo hi)) H
theorem eJ:UW X kM:=by
 intro pins s σ H x v vl vu lo hi sl Q I rx hs pl pu h;obtain⟨z,rfl,hz,q⟩:=h;obtain⟨t,rfl⟩:=rx;have fin:∀t' k,EP X pins σ Q (.str (q8 z lo hi) t') { s with toks:=k }:=fun t' k=>⟨.str _,H,I.tok k,⟨_,rfl⟩,q⟩
 refine⟨"str", _,F.slot_str_getitem.lookup,vR _ _ _,?_⟩
 obtain⟨o,e1,e2,e3⟩:=hs;cases pl with
 | none =>
  cases pu with
  | none=>exact U3 (l:=none) (u:=none) (st:=none) ⟨o,e1,e2,e3⟩ rfl (k6 ⟨C4 (rO z _ _) hz,fin⟩)
  | int j uj=>exact U3 (l:=none) (u:=some (j,uj)) (st:=none) ⟨o,e1,e2,e3⟩ rfl (k6 ⟨C4 (rO z _ _) hz,fin⟩)
 | int i ui =>
  cases pu with
  | none=>exact U3 (l:=some (i,ui)) (u:=none) (st:=none) ⟨o,e1,e2,e3⟩ rfl (k6 ⟨C4 (rO z _ _) hz,fin⟩)
  | int j uj=>exact U3 (l:=some (i,ui)) (u:=some (j,uj)) (st:=none) ⟨o,e1,e2,e3⟩ rfl (k6 ⟨C4 (rO z _ _) hz,fin⟩)
theorem Os{ys:List Str}:∀{us:List Value},AF (ys.map V.str) us->StrsAre us ys:=by
 induction ys with
 | nil=>intro us r;rw[m7] at r;cases r;exact .nil
 | cons n ns ih =>
  intro us r;rw[C5] at r;cases r with
  | cons r1 r2 =>
   obtain⟨t,e⟩:=r1;subst e;exact .cons n t (ih r2)
def VU(K:W.Frag):V->List V->Hp->VK->Prop:=fun x vs H Q=>∃sep l ys,x=.str sep/\vs=[.ref l]/\Cy K H l (ys.map V.str)/\(ys.map (·.length)).sum+ys.length * sep.length<=16777216/\Q (.str (wK sep ys)) H
theorem aE:jO X "str.join" (VU X.K):=by
 intro pins s σ H x vs v us Q I rx rv h;obtain⟨sep,l,ys,rfl,rfl,hl,hz,q⟩:=h;obtain⟨t,rfl⟩:=rx;obtain⟨u,rfl,ru⟩:=rv.one;cases ru;obtain⟨its,r,p,_⟩:=I.list hl;exact join_list p.isList (by simpa using Os r) hz fun t' k=>⟨.str _,H,I.tok k,⟨_,rfl⟩,q⟩
end
structure Fx (P:F0) (w:J7) (K:W.Frag) (mg:Str->Option Value) (base:H9) (k:Nat) (x:Str) (ps:List Str) (sp:Sp):Prop where
 ex:∃(f:B3) (fd:R8),xI P w K mg base Qb k f fd ps sp/\mg x=some (.ref f)/\W.keepIn K (.ref f)=true/\Binds K fd ps []
section
variable {X:Cx} {k j:Nat} {x:Str} {ps:List Str} {sp:Sp} {p pos:Pos} {e:Expr} {es:List Expr} {t:TA}
abbrev nC(sp:Sp)(t:TA):TE:=fun σ H Q=>t σ H fun vs H1=>sp vs H1 Q E0
theorem cN(F:Fx X.prog X.w X.K X.mg X.base k x ps sp)(hr:wt j X.A)(hkj:k<=j)(hg:Gl X x)(ha:PA X (e::es) t)(zv:(x == ("__debug__" : Str))=false:=by decide)
    (he:D2 (e::es) X.env=(false,M8 e X.env)::D2 es X.env:=by rfl) (zi:(M6 pos (D2 es X.env)).any (·.1)=false:=by rfl):PE X (.Call (.Name x p) (e::es) [] pos) (nC sp t):=by
  obtain⟨f,fd,G,hm,hk,hb⟩:=F.ex;have q:=Zn (p:=p) (pos:=pos) G (hr.mono hkj) hg hm hk hb .nil cQ ha zv he zi;intro pins s σ H Q I h;refine q pins s σ H Q I ?_;show t σ H fun vs H1=>sp (vs++[]) H1 Q E0
  have e2:(fun(vs:List V) (H1:Hp)=>sp (vs++[]) H1 Q E0)=(fun vs H1=>sp vs H1 Q E0):=by
    funext vs H1;rw[L9]
  rw[e2];exact h
theorem Vs(F:Fx X.prog X.w X.K X.mg X.base k x ps sp)(hr:wt j X.A)(hkj:k<=j)(hg:Gl X x)(zv:(x == ("__debug__" : Str))=false:=by decide):PE X (.Call (.Name x p) [] [] pos) (nC sp SM):=by
 obtain⟨f,fd,G,hm,hk,hb⟩:=F.ex;have q:=Vv (p:=p) (pos:=pos) G (hr.mono hkj) hg hm hk hb .nil cQ zv;intro pins s σ H Q I h;exact q pins s σ H Q I h
end
variable {H:Hp} {Q:VK} {xs:List V} {p:B3}
section
variable {X:Cx}
def kb:R2:=fun x y H Q=>∃i j,x=.str i/\y=.str j/\i.length+j.length<=sizeLine/\Q (.str (i++j)) H
def NA(K:W.Frag):R2:=fun x y H Q=>(YZ fun i j=>.int (i+j)) x y H Q\/kb x y H Q\/kZ x y H Q\/cL K x y H Q
theorem Zu:Ef X (binaryOp .Add) (NA X.K):=fw.or (PY.or (fv.or Zr))
theorem YT{K:W.Frag}{i j:Int}(q:Q (.int (i+j)) H):NA K (.int i) (.int j) H Q:=.inl ⟨i,j,rfl,rfl,q⟩
theorem YR{K:W.Frag}{i j:Str}(h:i.length+j.length<=1000000)(q:Q (.str (i++j)) H):NA K (.str i) (.str j) H Q:=.inr (.inl ⟨i,j,rfl,rfl,C4 h (by decide),q⟩)
theorem YS{K:W.Frag}{b:B3}{ys:List V}(ha:H a=some (.lst xs))(hb:H b=some (.lst ys))(h:xs.length+ys.length<=1000000)(q:∀p,H p=none->Q (.ref p) (upd H p (.lst (xs++ys)))):NA K (.ref a) (.ref b) H Q:=
 .inr (.inr (.inl ⟨a,b,xs,ys,rfl,rfl,ha,hb,C4 h (by decide),q⟩))
theorem ZO{K:W.Frag}{i:Int}{v:V}(h:H p=some (.lst xs))(e:HK xs i=some v)(q:Q v H):eY K (.ref p) (.int i) H Q:=.inl ⟨p,xs,i,v,rfl,rfl,.inl (.inl h),e,q⟩
theorem eX{K:W.Frag}{i:Int}{v:V}(h:Cy K H p xs)(e:HK xs i=some v)(q:Q v H):eY K (.ref p) (.int i) H Q:=.inl ⟨p,xs,i,v,rfl,rfl,h,e,q⟩
theorem ZN{K:W.Frag}{z:Str}{i:Int}{c:Nat}(h:z.length<=1000000)(e:HK z.cps.toList i=some c)(q:Q (.str ⟨#[c]⟩) H):eY K (.str z) (.int i) H Q:=.inr (.inr ⟨z,i,c,rfl,rfl,C4 h (by decide),e,q⟩)
theorem gW:US X (eY X.K):=gV
def VS(K:W.Frag):V->Option Int->Option Int->Hp->VK->Prop:=fun x lo hi H Q=>kM x lo hi H Q\/kN K x lo hi H Q\/kL K x lo hi H Q
theorem eL:UW X (VS X.K):=eJ.or (ZF.or eI)
theorem ZC{K:W.Frag}{z:Str}{lo hi:Option Int}(h:z.length<=1000000)(q:Q (.str (q8 z lo hi)) H):VS K (.str z) lo hi H Q:=.inl ⟨z,rfl,C4 h (by decide),q⟩
theorem VF{K:W.Frag}{lo hi:Option Int}(h:Cy K H a xs)(q:∀p,H p=none->Q (.ref p) (upd H p (.lst (GH xs lo hi)))):VS K (.ref a) lo hi H Q:=.inr (.inl ⟨a,xs,rfl,h,q⟩)
theorem ZD{K:W.Frag}{lo hi:Option Int}(h:H a=some (.lst xs))(q:∀p,H p=none->Q (.ref p) (upd H p (.lst (GH xs lo hi)))):VS K (.ref a) lo hi H Q:=VF (.inl (.inl h)) q
theorem ZI:OZ X VT:=set_list
def Sa(K:W.Frag):List V->Hp->VK->Prop:=fun xs H Q=>∃x n,xs=[x]/\mw K x H n/\Q (.int n) H
theorem UB:BG X (.builtin "len") (Sa X.K):=Xd
theorem Sz{K:W.Frag}{z:Str}(h:z.length<=1000000)(q:Q (.int z.length) H):Sa K [.str z] H Q:=⟨_,_,rfl,⟨C4 h (by decide),rfl⟩,q⟩
theorem WS{K:W.Frag}(h:Cy K H p xs)(q:Q (.int xs.length) H):Sa K [.ref p] H Q:=⟨_,_,rfl,.inl ⟨xs,h,rfl⟩,q⟩
theorem aJ{K:W.Frag}(h:H p=some (.lst xs))(q:Q (.int xs.length) H):Sa K [.ref p] H Q:=WS (.inl (.inl h)) q
abbrev oF(K:W.Frag)(tl:TE):TI:=fun σ H R=>tl σ H fun x H1=>∃a xs,x=.ref a/\((Cy K H1 a xs/\R (mx K a) H1)\/(De K H1 a xs/\R (nS K a) H1))
theorem fN{tg l:Expr}{tl:TE}(hl:PE X l tl):PI X tg l (oF X.K tl):=by
 intro pins s σ H R I h;refine Aw (hl pins s σ H _ I h) fun v s1 ⟨x,H1,I1,r1,q1⟩=>?_
 obtain⟨a,xs,e,q⟩:=q1;subst e;cases r1;rcases q with⟨hq,q⟩ | ⟨hq,q⟩
 ·obtain⟨its,rv,p,hz⟩:=I1.list hq;refine T2 p.isList ?_;refine⟨s1.heap.objs.size,[s1.heap.objs.size],_,_,H1,rfl,I1.kept (t':=s1.toks) fun b o e=>A2 _ e,SK a _,⟨_,B2 _ rfl,rfl,rfl⟩,fun b hb=>?_,q⟩;have e:b=s1.heap.objs.size:=by simpa using hb
  subst e;exact I1.wb (B4 _) (I1.wj.fresh (B4 _))
 ·obtain⟨its,rv,p,hz⟩:=I1.tuple hq;refine S0 (show s1.heap.IsTuple a its.toArray from p) ?_;refine⟨s1.heap.objs.size,[s1.heap.objs.size],_,_,H1,rfl,I1.kept (t':=s1.toks) fun b o e=>A2 _ e,Ol a _,⟨_,B2 _ rfl,rfl,rfl⟩,fun b hb=>?_,q⟩;have e:b=s1.heap.objs.size:=by simpa using hb
  subst e;exact I1.wb (B4 _) (I1.wj.fresh (B4 _))
end
theorem Bp(h:H p=none)(o:HO):MV H (upd H p o):=fun b u q=>by rw[AE (Az q h)];exact q
section
variable {X:Cx}
theorem oC(K:W.Frag)(h:X.K=K:=by rfl):US X (eY K):=by subst h;exact gW
theorem Tz(K:W.Frag)(h:X.K=K:=by rfl):BG X (.builtin "len") (Sa K):=by subst h;exact UB
theorem WG(K:W.Frag)(h:X.K=K:=by rfl):jO X "str.join" (VU K):=by subst h;exact aE
def Qv(K:W.Frag):List V->Hp->VK->Prop:=fun xs H Q=>∃p ys,xs=[.ref p]/\(Cy K H p ys\/De K H p ys)/\∀l,H l=none->Q (.ref l) (upd H l (.lst ys))
theorem QI(K:W.Frag)(h:X.K=K:=by rfl):BG X (.type "list") (Qv K):=by subst h;exact MK
def Mw(K:W.Frag):List V->Hp->VK->Prop:=fun xs H Q=>∃p ys,xs=[.ref p]/\((Cy K H p ys/\∀l,H l=none->Q (.ref l) (upd H l (.tup ys)))\/(De K H p ys/\Q (.ref p) H))
theorem OF(K:W.Frag)(h:X.K=K:=by rfl):BG X (.type "tuple") (Mw K):=by subst h;exact KG
end
noncomputable def tx(l:List Nat):Str:=⟨l.toArray⟩
theorem Qh(l:List Nat):(tx l).cps.toList=l:=by simp[tx]
theorem Cj(l:List Nat):(tx l).length=l.length:=by simp[tx,Str.length]
theorem Oj(a b:List Nat):tx a++tx b=tx (a++b):=by
 show(⟨(tx a).cps++(tx b).cps⟩:Str)=_;simp[tx]
theorem dh{a b:List Nat}(h:tx a=tx b):a=b:=by
 have:=congrArg (fun z:Str=>z.cps.toList) h;simpa[tx] using this
def Tj(l:List Nat)(lo hi:Option Int):List Nat:=(l.drop (HT.wo l.length 0 lo)).take (HT.wo l.length l.length hi - HT.wo l.length 0 lo)
theorem Vj(l:List Nat)(a k:Nat)(h:a+k<=l.length):((A5 k).map fun j=>a+j).filterMap (fun i=>l[i]?)=(l.drop a).take k:=by
  apply qh;intro i
  by_cases hi:i < k
  · rw[qo hi,tK];have e:(vT (fun j=>a+j) (A5 k)).filterMap (fun i=>l[i]?)=(A5 k).map fun j=>l[a+j]!:=by
      rw[tB];rw[show(fun i=>l[i]?)∘(fun j=>a+j)=fun j=>l[a+j]? from rfl];have:∀(r:List Nat),(∀j∈r,a+j < l.length)->r.filterMap (fun j=>l[a+j]?)=r.map fun j=>l[a+j]!:=by
        intro r
        induction r with
        | nil=>intro _;rfl
        | cons x r ih =>
          intro hx;have hxl:=hx x B1;rw[X2,A4 hxl,C5,ih fun j hj=>hx j (A9 _ hj)];simp[hxl]
      exact this _ fun j hj=>by have:=C9.mp hj;omega
    rw[e,C6,L0 hi];have hl:a+i < l.length:=by omega
    simp[hl]
  · have e1:(((A5 k).map fun j=>a+j).filterMap (fun i=>l[i]?)).length<=k:=C4 (List.length_filterMap_le _ _) (by simp);rw[M4 (by omega),M4 (by rw[R5];omega)]
theorem cl(i:Int)(n:Nat):max 0 (min (if i < 0 then i+(n:Int) else i) (n:Int))=(((if i < 0 then(i+(n:Int)).toNat else min i.toNat n):Nat):Int):=by
 by_cases h:i < 0
 ·simp only[h,if_true];omega
 ·simp only[h,if_false];omega
theorem Ug(l:List Nat)(lo hi:Option Int):q8 (tx l) lo hi=tx (Tj l lo hi):=by
 have hlen:(tx l).length=l.length:=Cj l;have key:W3 lo hi 1 l.length=(A5 (HT.wo l.length l.length hi - HT.wo l.length 0 lo)).map fun j=>HT.wo l.length 0 lo+j:=by
  have zDV:W3 lo hi 1 l.length=sliceRange ((HT.wo l.length 0 lo:Nat):Int) ((HT.wo l.length l.length hi:Nat):Int) 1:=by
   unfold W3;rcases lo with _ | i<;>rcases hi with _ | j<;>simp only[show(1:Int) > 0 by decide,if_true,HT.wo,cl,Int.natCast_zero]<;>rfl
  rw[zDV];unfold sliceRange;simp only[show(1:Int) > 0 by decide,if_true];generalize HT.wo l.length 0 lo=a;generalize HT.wo l.length l.length hi=b;have cnt:(if(a:Int) < (b:Int) then((b:Int) - (a:Int)+1 - 1) / 1 else 0).toNat=b - a:=by
   split<;>omega
  rw[cnt];apply l8;intro j _;omega
 have hle:HT.wo l.length l.length hi<=l.length:=HT.zAC _ _ (B4 _) _;have hlo:HT.wo l.length 0 lo<=l.length:=HT.zAC _ _ (J8 _) _;unfold q8;rw[hlen,key];unfold Tj;generalize HT.wo l.length 0 lo=a at *;generalize HT.wo l.length l.length hi=b at *;have e2:(vT (fun j=>a+j) (A5 (b - a))).filterMap (fun i=>(tx l).cps[i]?)=(l.drop a).take (b - a):=by
  have e3:(fun i:Nat=>(tx l).cps[i]?)=fun i=>l[i]?:=by funext i;simp[tx]
  rw[e3]
  by_cases hab:a<=b
  ·exact Vj l a (b - a) (by omega)
  ·have:b - a=0:=by omega
   rw[this];simp
 split
 ·rename_i hc;simp only[A8,E2,A3,beq_iff_eq] at hc;have h0:a=0:=by omega
  have h1:b=l.length:=by omega
  subst h0 h1;simp
 ·rw[e2];rfl
theorem zBL(a b:List Nat):xc (.str (tx a)) (.str (tx b))=decide (a=b):=by
 unfold xc
 by_cases h:a=b
 ·subst h;simp
 ·rw[decide_eq_false h];have:tx a≠tx b:=fun e=>h (dh e)
  simpa using this
section
variable {X:Cx}
def kW(K:W.Frag):List V->Hp->VK->Prop:=fun xs H Q=>∃x T t b,xs=[x,.ty T]/\xq K H x t/\W.kitOne K t (.type T)=some b/\Q (.bl b) H
theorem UC(K:W.Frag)(hK:X.K=K:=by rfl):BG X (.builtin "isinstance") (kW K):=by
 subst hK;intro pins s σ H xs us Q I r h;obtain⟨x,T,t,b,rfl,ty,e,q⟩:=h;obtain⟨u,v,rfl,ru,rv⟩:=r.two;cases rv;exact TF I ru ty e fun tk=>⟨.bl b,H,I.tok tk,rfl,q⟩
theorem AF.get':∀{xs:List V} {us:List Value} {i:Nat} {u:Value},AF xs us->us[i]?=some u->∃x,xs[i]?=some x/\RelV x u
 | _,_,_,_,.nil,e=>by simp at e
 | _,_,0,_,.cons r _,e=>by simp at e;subst e;exact⟨_,rfl,r⟩
 | _,_,i+1,u,.cons _ t,e=>by
  obtain⟨x,h1,h2⟩:=AF.get' (i:=i) (u:=u) t (by simpa using e);exact⟨x,by simpa using h1,h2⟩
def ka(K:W.Frag):List V->Hp->VK->Prop:=fun xs H Q=>∃(p:B3) (bs:List Bool),xs=[.ref p]/\Cy K H p (bs.map V.bl)/\Q (.bl (bs.all id)) H
theorem bR{bs:List Bool}{us:List Value}(r:AF (bs.map V.bl) us){i:Nat}{v:Value}(e:us[i]?=some v):∃b,bs[i]?=some b/\v=.bool b:=by
 obtain⟨x,e1,e2⟩:=r.get' e;rw[C6] at e1;cases q:bs[i]? with
 | none=>rw[q] at e1;cases e1
 | some b =>
  rw[q] at e1;have:V.bl b=x:=D5 e1;subst this;exact⟨b,rfl,e2⟩
theorem Ii:∀bs:List Bool,((A5 bs.length).all fun i=>(bs[i]?).getD true)=bs.all id
 | []=>rfl
 | b::bs=>by
  rw[D9,rP,M3,uG,M3];have ih:=Ii bs;rw[<- ih];rfl
theorem gB{h h':H9}{o:Obj}(hk:∀b x,b∉[h.objs.size]->(h.push o).get? b=some x->h'.get? b=some x):∀b x,h.get? b=some x->h'.get? b=some x:=
 fun b x e=>hk b x (fun hm=>by rw[D3.mp hm] at e;exact P9 _ (C0 e)) (A2 _ e)
theorem UE(K:W.Frag)(hK:X.K=K:=by rfl)(hc:X.calm=true:=by rfl):BG X (.builtin "all") (ka K):=by
  subst hK;intro pins s σ H xs us Q I r h;obtain⟨p,bs,rfl,hp,q⟩:=h;obtain⟨u,rfl,rx⟩:=vals1 r;cases rx;obtain⟨its,rv,pl,hz⟩:=I.list hp;have hl:=pl.isList;have xF:p < s.heap.objs.size:=by obtain⟨_,e,_⟩:=hl;exact C0 e
  refine call_all_walk (T2 hl ?_);refine⟨s.heap.objs.size,[s.heap.objs.size,p],[s.heap.objs.size],its.toArray.size,_,_,fun i=>(bs[i]?).getD true,rfl,wO (A:=X.A.in1) (I.ok.hd hc) _ p (D1 xF) its.toArray,
    ⟨⟨_,B2 _ rfl,rfl,rfl⟩,hl.push _⟩,fun i v s' Q' E' hP hQ=>?_,fun h' tk hk=>?_⟩
  · obtain⟨b,e,rfl⟩:=bR rv (i:=i) (v:=v) (by simpa using hP);simp only[e,ub] at hQ;exact Q5 hQ
  · have e:((A5 its.toArray.size).all fun i=>(bs[i]?).getD true)=bs.all id:=by
      rw[B0,<- rv.length,A8];exact Ii bs
    rw[e];exact⟨.bl _,H,I.kept (gB hk),rfl,q⟩
def kK(K:W.Frag):V->Option Int->Option Int->Hp->VK->Prop:=fun x lo hi H Q=>∃a xs,x=.ref a/\De K H a xs/\(HT.wo xs.length 0 lo=0/\HT.wo xs.length xs.length hi=xs.length)/\Q (.ref a) H
theorem ZE:UW X (kK X.K):=by
 intro pins s σ H x v vl vu lo hi sl Q I rx hs pl pu h;obtain⟨a,xs,rfl,hx,hw,q⟩:=h;cases rx;obtain⟨its,r,ht,hz⟩:=I.tuple hx;have hlen:its.toArray.size=xs.length:=by rw[B0];exact r.length.symm
 refine⟨"tuple", _,K8.lookup,ht.typeIs,?_⟩
 obtain⟨os,hos,hcs,hds⟩:=id hs
 have hTs:s.TypeIs (.ref sl) "slice" := ⟨os,hos,hcs⟩
 unfold sW
 try with_reducible refine G9 ?_
 first | refine A1 (A6 ?_) | skip
 refine A1 (tw ht.typeIs (by decide) ?_)
 refine A1 (J4 (name:=R0 "__getitem__") ht.typeIs K8
  (G3 K8 ht.typeIs sZ ?_ (tD _ _)))
 show B6 _ _ (W4 (.ref a) >>= _) _ _ s;refine A1 (tupleItemsOf_ ht ?_);refine A1 (R1 hTs ?_);rw[if_pos (by decide)];refine A1 (HT.xP hs pl pu ?_);have zDZ:((((HT.wo its.toArray.size 0 lo:Nat):Int) == 0 && (1:Int) == 1 && (HT.wo its.toArray.size its.toArray.size hi - HT.wo its.toArray.size 0 lo) == its.toArray.size)=true):=by
  rw[hlen,hw.1,hw.2];simp
 show B6 _ _ (if(((HT.wo its.toArray.size 0 lo:Nat):Int) == 0 && (1:Int) == 1 && (HT.wo its.toArray.size its.toArray.size hi - HT.wo its.toArray.size 0 lo) == its.toArray.size)=true then _ else _) _ _ s;rw[if_pos zDZ];have fin:EP X pins σ Q (.ref a) s:=⟨.ref a,H,I,rfl,q⟩;refine A1 (m:=o9 (F7 a)) ?_;unfold o9;refine A1 (R1 ht.typeIs (A6 ?_));rw[if_pos (by decide)];exact A1 (R7 (A6 ⟨_,rfl,A6 fin⟩))
end
section
variable {X:Cx} {pins:List (B3×Obj)} {σ:St} {H:Hp} {s:A7} {A:I9} {E:Value->A7->Prop} {Q:Value->A7->Prop} {b:Bool}
def pM(K:W.Frag):List V->Hp->VK->Prop:=fun xs H Q=>∃x p,∃(Ts:List String),∃t b,xs=[x,.ref p]/\De K H p (Ts.map V.ty)/\xq K H x t/\(∃T,t=.type T/\T ≠ "float" /\ T ≠ "dict")/\W.kitAny K t (Ts.map G2)=some b/\Q (.bl b) H
end
end L2
namespace L2
open PySem PySem.Spec PyProof.Rows PySem.SeqAt
theorem Jv(l:B3)(items:Array Value)(n:Nat)(dd:Option B3)(sl:Array (Option Value))(x:Value)(e:Value->Bool)(j:Nat)(hj:j < items.size) 
    (hit:e items[j]=true) (hno:∀m (hm:m < items.size),m < j->e items[m]=false) :
    vk (O8.«tuple.index» ⟨[.ref l,x],[]⟩)
      (fun A R s=>s.heap.get? l=some { cls:=.type "tuple", dict:=dd,data:=.seq items n,slots:=sl }/\(∀y,y∈items->EqAt A.in1 s y x (e y))/\R (.ok (.ret (.int j s.toks))) { s with toks:=s.toks+1 }):=
  .of_wp fun prog w A R s h=>by
    obtain⟨hp,g,d,tk,os⟩:=s;obtain⟨hl,he,h⟩:=h;have f2:=AutoSeq1.sub_tuple_tuple
    wp_walk using wpAny_loadPart' hl
    let f:Nat->(Option Fin×Unit)->Sem (ForInStep (Option Fin×Unit)):=fun i __s =>
            match items[i]? with
            | some y=>do
              let __do_lift <- eqBool y x
              if __do_lift=true then do
                  let __do_lift <- retInt ↑i
                  pure (ForInStep.done (some __do_lift,()))
                else pure (ForInStep.yield (none,()))
            | x=>pure (ForInStep.yield (none,()))
    have key:B6 (D4 prog w) A.in1 (forIn [:min items.size items.size] ((none,()):Option Fin×Unit) f) (fun a s' =>
      B6 (D4 prog w) A.in1
        (match a.fst with
        | some r=>pure r
        | none=>do
          rule "tuple.index.not-found"
          raiseErrorWords "ValueError" "tuple.index(x): x not in tuple")
        (fun fin s'=>∃v,fin=Fin.done (Flow.ret v)/\R (wU (Flow.ret v)) s')
        (fun e s'=>R (v5 e) s') s') (fun e s'=>R (v5 e) s') { heap:=hp,gens:=g,drawn:=d,toks:=tk,os:=os }:=by
      rw[Std.Legacy.Range.forIn_eq_forIn_range'];simp only[Std.Legacy.Range.size,v7,Nat.add_sub_cancel,Nat.div_one,rQ];refine W7 _ (fun rest b s'=>b=(none,())/\s'=⟨hp,g,d,tk,os⟩/\∃i,rest=sI i (items.size - i)/\i<=j) _ ?_ ?_ _ _ ⟨rfl,rfl,0,by simp,J8 _⟩
      · rintro y rest b s' ⟨hb,rfl,i,hr,hi⟩;have xF:i < items.size:=by omega
        obtain⟨hy,zCk⟩:y=i/\rest=sI (i+1) (items.size - (i+1)):=by
          have e:items.size - i=(items.size - (i+1))+1:=by omega
          rw[e,uc] at hr;injection hr with h1 h2
          exact⟨h1,h2⟩
        subst hy;show B6 _ _ (match items[y]? with
            | some z=>do
              let __do_lift <- eqBool z x
              if __do_lift=true then do
                  let __do_lift <- retInt ↑y
                  pure (ForInStep.done (some __do_lift,()))
                else pure (ForInStep.yield (none,()))
            | x=>pure (ForInStep.yield (none,()))) _ _ _
        rw[L7 xF];refine A1 (he _ (Array.getElem_mem xF) prog w _ _ ?_)
        by_cases hyj:y=j
        · subst hyj;rw[hit]
          wp_walk
          exact⟨_,rfl,h⟩
        · rw[hno y xF (by omega)]
          wp_walk
          exact⟨rfl,rfl,y+1,zCk,by omega⟩
      · rintro b s' ⟨hb,rfl,i,hr,hi⟩;have:(sI i (items.size - i)).length=0:=by rw[<- hr];rfl
        rw[List.length_range'] at this;omega
    refine cast ?_ key;congr 1;funext a s';obtain⟨a1,a2⟩:=a;cases a1 with
    | none=>rfl
    | some r=>rfl
variable {H:Hp} {Q:VK}
section
variable {X:Cx}
def ni(r:V->List V->Hp->VK->Prop)(to:TE)(t:TA):TE:=fun σ H Q=>to σ H fun x H1=>(∃p xs,x=.ref p/\H1 p=some (.tup xs))/\t σ H1 fun xs H2=>r x xs H2 Q
theorem ko{o e:Expr}{es:List Expr}{to:TE}{t:TA}{name:Str}{apos xO:Pos}{id:String}{r:V->List V->Hp->VK->Prop}(pa:rL "tuple")(slot:Slot "tuple" name id)(hty:vv (.builtin id)=pure (.type "method_descriptor"))(hm:UX X id r)(ho:PE X o to)(ha:PA X (e::es) t)
    (xM:Q0 o name X.env (M8 o X.env)=M8 o X.env:=by rfl)
    (zAs:((M6 xO (D2 (e::es) X.env)).all (fun x=>!x.1) && (j5 xO (U9 [] X.env)).all (fun x=>x.1.isSome)
      && decide ((e::es).length+([]:List j0).length+(if([]:List j0).isEmpty then 0 else 1) < 30))=true:=by rfl)
    (xB:(apos.endLine == xO.line)=true:=by rfl) (hs:D2 (e::es) X.env=(false,M8 e X.env)::D2 es X.env:=by rfl) (zAH:(M6 xO (D2 es X.env)).any (·.1)=false:=by rfl) :
    PE X (.Call (.Attribute o name apos) (e::es) [] xO) (ni r to t):=by
  intro pins s σ H Q I h;refine rN xM zAs xB rfl (Aw (ho pins s σ H _ I h) fun v s1 ⟨x,H1,I1,r1,ty,q1⟩=>?_);obtain⟨p,xs,rfl,hp⟩:=ty;cases r1;obtain⟨_,its,_,ob,h1,hc,hd,_⟩:=I1.wj p _ hp
  refine⟨"tuple", id,pa,slot,hty,⟨ob,h1,hc⟩,fun a e=>by cases e;exact⟨ob,h1,hd⟩,?_⟩
  have hA:=ha xO pins s1 σ H1 _ I1 q1;rw[hs] at hA ⊢;refine Z4 (by show(false || (M6 xO (D2 es X.env)).any (·.1))=false;rw[zAH]<;>rfl) (sE ?_);exact Aw hA fun us s2 ⟨vs,H2,I2,r2,q2⟩=>hm pins s2 σ H2 (.ref p) vs (.ref p) us Q I2 rfl r2 q2
def cM(K:W.Frag):R2:=fun x y H Q=>∃a b ys,x=.ref a/\y=.ref b/\De K H a []/\De K H b ys/\Q (.ref b) H
theorem Zs:Ef X (binaryOp .Add) (cM X.K):=by
  intro pins s σ H x y v u Q I rx ry h;obtain⟨a,b,ys,rfl,rfl,ha,hb,q⟩:=h;cases rx;cases ry;obtain⟨its,r1,p1,_⟩:=I.tuple ha;obtain⟨wg,r2,p2,_⟩:=I.tuple hb;cases r1;obtain⟨⟨cls,dd,data,sl⟩,ho,hc,n,hd⟩:=id p1;obtain⟨⟨zDv,dd2,data2,sl2⟩,ho2,hc2,n2,hd2⟩:=id p2;simp only at hc hd hc2 hd2;subst hc hd hc2 hd2;exact tu ⟨_,ho,rfl⟩ ⟨_,ho2,rfl⟩ q0 sh Z3 Y6 (X4 _ _)
      (tuple_addW0 a b _ wg.toArray n n2 dd dd2 sl sl2 (by simp)) ⟨ho,ho2,⟨.ref b,H,I,rfl,q⟩⟩
def Mz(K:W.Frag):R2:=fun x y H Q=>NA K x y H Q\/cM K x y H Q
theorem Zt(K:W.Frag)(h:X.K=K:=by rfl):Ef X (binaryOp .Add) (Mz K):=by subst h;exact Zu.or Zs
theorem YQ{K:W.Frag}{i j:Int}(q:Q (.int (i+j)) H):Mz K (.int i) (.int j) H Q:=.inl (YT q)
theorem YN{K:W.Frag}{i j:Str}(h:i.length+j.length<=1000000)(q:Q (.str (i++j)) H):Mz K (.str i) (.str j) H Q:=.inl (YR h q)
theorem YO{K:W.Frag}{a b:B3}{xs ys:List V}(ha:H a=some (.lst xs))(hb:H b=some (.lst ys))(h:xs.length+ys.length<=1000000)(q:∀p,H p=none->Q (.ref p) (upd H p (.lst (xs++ys)))):Mz K (.ref a) (.ref b) H Q:=.inl (YS ha hb h q)
def SZ(K:W.Frag):V->Option Int->Option Int->Hp->VK->Prop:=fun x lo hi H Q=>VS K x lo hi H Q\/kK K x lo hi H Q
theorem nv(K:W.Frag)(h:X.K=K:=by rfl):UW X (SZ K):=by subst h;exact eL.or ZE
theorem Yz{K:W.Frag}{z:Str}{lo hi:Option Int}(h:z.length<=1000000)(q:Q (.str (q8 z lo hi)) H):SZ K (.str z) lo hi H Q:=.inl (ZC h q)
theorem eG{K:W.Frag}{a:B3}{xs:List V}{lo hi:Option Int}(h:Cy K H a xs)(q:∀p,H p=none->Q (.ref p) (upd H p (.lst (GH xs lo hi)))):SZ K (.ref a) lo hi H Q:=.inl (VF h q)
theorem ZA{K:W.Frag}{a:B3}{xs:List V}{lo hi:Option Int}(h:H a=some (.lst xs))(q:∀p,H p=none->Q (.ref p) (upd H p (.lst (GH xs lo hi)))):SZ K (.ref a) lo hi H Q:=.inl (ZD h q)
def VR:V->List V->Hp->VK->Prop:=fun x vs H Q=>∃l,x=.str (tx l)/\vs=[]/\(∀c∈l,c < 128)/\l.length<=1000000/\Q (.str (tx (l.map up1))) H
theorem WE:jO X "str.upper" VR:=by
 intro pins s σ H x vs v us Q I rx rv h;obtain⟨l,rfl,rfl,hA,hz,q⟩:=h;obtain⟨t,rfl⟩:=rx;cases rv.zero;have e:Txt.upper (tx l)=tx (l.map up1):=by
  rw[upper_ascii (by rw[Qh];exact hA)];simp[tx]
 refine SC.upper (by rw[e,Cj,A8];exact decide_eq_false (by have:sizeLine=16777216:=N6;omega)) ⟨.str (tx (l.map up1)),H,I.tok _,⟨_,by rw[e]⟩,q⟩
end
end L2
namespace L2
open PySem PySem.Spec PyProof.Rows
variable {items:Array Value}
section
variable {prog:F0} {w:J7} {A:I9} {E:Value->A7->Prop}
theorem Kz{it t:B3}(yd:t≠it):∀(n i:Nat) (s:A7) (Q:List Value->A7->Prop),s.heap.IsListIter it t i->s.heap.IsList t items->i+n<=items.size ->
    (∀h',h'.IsListIter it t (i+n)->K9 it s.heap h'->Q ((items.toList.drop i).take n) { s with heap:=h' })->B6 (D4 prog w) A (draw (.ref it) n) Q E s
  | 0,i,s,Q,hit,_,_,hQ=>by
    show B6 _ _ (pure []) Q E s;exact A6 (by simpa using hQ s.heap hit (qi ..))
  | n+1,i,s,Q,hit,ht,hle,hQ=>by
    have xF:i < items.size:=by omega
    show B6 _ _ (V1 (.ref it) >>= _) Q E s;refine A1 (Z1 hit ht (x:=items[i]) (by simp[xF]) fun h₁ yN xA=>?_);refine A1 (G9 (Kz yd n (i+1) _ _ yN (ht.extBut xA.extBut yd) (by omega) fun xZ zCD xK=>A6 ?_));have hd:items.toList.drop i=items[i]::items.toList.drop (i+1):=by simp[S6,xF]
    have:=hQ xZ (by rw[show i+(n+1)=i+1+n by omega];exact zCD) (xA.trans xK);rw[hd,List.take_succ_cons] at this;exact this
theorem GV{s:A7}{t:B3}{Q:List Value->A7->Prop}(hh:A.handled=none)(ht:s.heap.IsList t items)
    (hQ:∀h',j6 s.heap.objs.size s.heap h'->Q items.toList { s with heap:=h' }):B6 (D4 prog w) A (uy (.ref t) items.size none) Q E s:=by
  have xF:t≠s.heap.objs.size:=by obtain⟨o,ho,_⟩:=ht;exact D1 (C0 ho)
  unfold uy;refine A1 ?_
  · unfold notIterableAtAll;refine A1 (O5 ht.typeIs PySem.slot_list_iter.lookup ?_);refine A6 ?_;simp only[D6,if_false];refine A1 (G9 (T2 ht ?_));refine A1 (G9 (Kz xF items.size 0 _ _ ⟨_,B2 _ rfl,rfl,rfl⟩ (ht.push _) (by omega) fun h₁ yN xA=>?_));have zAc:List.take items.size (List.drop 0 items.toList)=items.toList:=by
      rw[List.drop_zero];exact List.take_of_length_le (by simp)
    rw[zAc];rw[if_neg (by simp)];have zCi:h₁.IsList t items:=(ht.push _).extBut xA.extBut xF;refine A1 (G9 (Z7 hh yN zCi (by simp) fun xZ zF=>?_));simp only[Option.isSome_none,D6,if_false];refine A6 (hQ xZ fun b o hb e=>zF b o hb (xA.extBut b o hb (A2 _ e)))
theorem Mf{s:A7}{t:B3}{targets:List (Bool×(Value->Sem Unit))}{Q:Unit->A7->Prop}(hh:A.handled=none)(ht:s.heap.IsList t items)
    (hn:targets.length=items.size) (zCj:targets.findIdx? (·.1)=none)
    (h:∀h',j6 s.heap.objs.size s.heap h'->B6 (D4 prog w) A (ql (targets.map (·.2)) items.toList) Q E { s with heap:=h' }) :
    B6 (D4 prog w) A (unpack (.ref t) targets) Q E s:=by
  unfold unpack;rw[hn,zCj];exact A1 (G9 (GV hh ht h))
end
section
variable {X:Cx}
abbrev gk(n:Nat)(t:MU):TG:=fun v σ H Q=>∃a xs,v=.ref a/\H a=some (.lst xs)/\xs.length=n/\t xs σ H Q
theorem Vo{es:List Expr}{k:Nat}{t:MU}{n:Nat}{pos:Pos}(hc:X.calm=true)(h:jD X es t)
    (hn:(O2 es X.env).length=n:=by rfl) (yL:(O2 es X.env).findIdx? (·.1)=none:=by rfl):PG X (.Tuple es k pos) (gk n t):=by
  intro pins s σ H v u Q I r hw;obtain⟨a,xs,e1,hq,hl,hw⟩:=hw;subst e1;cases r;obtain⟨its,rv,ht,hz⟩:=I.list (.inl (.inl hq));rw[assign_Tuple];refine A1 (i9 (Mf (I.ok.hd hc) ht.isList (by simp[hn,<- hl,rv.length]) yL fun h' hx=>?_));have I1:Inv X pins σ H { s with heap:=h' }:=I.kept (t':=s.toks) fun b o e=>hx b o (D1 (C0 e)) e
  exact h pins _ σ H xs _ Q I1 (by simpa using rv) hw
theorem RU{n:Nat}{js:List Nat}{u:MU}(hu:Oa js u):UT js (gk n u):=by
 rintro x σ H Q ⟨a,xs,e,hq,hl,q⟩;exact⟨a,xs,e,hq,hl,hu _ _ _ _ q⟩
end
theorem Ou{K:W.Frag}{H:Hp}{a:B3}{xs:List V}(h:H a=some (.lst xs)):Cy K H a xs:=.inl (.inl h)
theorem eE{K:W.Frag}{H:Hp}{a:B3}{xs:List V}(h:H a=some (.tup xs)):De K H a xs:=.inl (.inl h)
end L2
namespace L2
open PySem PySem.Spec PyProof.Rows PySem.SeqAt
inductive D where
 | fl (v:V)
 | tup (ds:List D)
 | lst (ds:List D)
end L2
namespace L2
open PySem PySem.Spec PyProof.Rows
inductive T where
 | leaf (k:Str) (v:V)
 | op (s:Str) (m n:T)
 | many (k w:Str) (ts:List T)
 | zDT (x:Str) (a b:T)
 | loop (i:Str) (n:T) (x:Str) (a b:T)
 | pick (n:T) (ts:List T)
end L2
namespace L2
open PySem PySem.Spec PyProof.Rows PySem.SeqAt
end L2
namespace L2
open PySem PySem.Spec PyProof.Rows
section
variable {X:Cx} {pins:List (B3×Obj)} {σ:St} {H:Hp} {s:A7} {h':H9}
theorem Inv.yZ{t':Nat}{ch:List B3}(I:Inv X pins σ H s)(k:∀b o,b∉ch->s.heap.get? b=some o->h'.get? b=some o)(hf:∀b∈ch,wc X pins H b):Inv X pins σ H { s with heap:=h',toks:=t' }:=by
 have nit:∀b u,H b=some u->b∉ch:=fun b u e z=>by have:=(hf b z).1;rw[e] at this;cases this
 refine I.step (g':=s.gens) (d':=s.drawn) (ch:=ch) (fun b hb=>?_) (fun b o _ _ hc e _=>k b o hc e) (fun b o _ _ hc e _=>⟨o.slots,k b o hc e⟩) (fun _ _ _ _ n=>n)
  (fun b o hc e=>⟨o,k b o hc e⟩) (fun _ _ e=>e) (fun _ _ _ e=>e) (fun b ps e=>⟨#[],by rw[e];simp⟩) (fun m hm=>?_) (fun b u e=>?_) I.bare
 ·obtain⟨f0,f1,f2,f3,f4,f5⟩:=hf b hb;exact⟨f3,f1,f4,f5⟩
 ·obtain⟨o,es,ep,ho,r⟩:=hm;exact⟨o,es,ep,k _ o (fun z=>(hf _ z).2.1 rfl) ho,r⟩
 ·refine(I.wj b u e).zAA (fun c v hc q=>k c v ?_ q) (fun _ q=>q) fun _ _ q=>q
  rcases hc with z | z
  ·rw[z];exact nit b u e
  ·exact nit c _ z
end
variable {y:V} {u:Value}
section
variable {κ:Type} [DecidableEq κ]
noncomputable def FL(wY:List (κ×V))(k:κ):Option V:=(wY.find? fun kv=>decide (kv.1=k)).map (·.2)
noncomputable def Dn(wY:List (κ×V))(k:κ)(v:V):List (κ×V):=
 if(wY.any fun kv=>decide (kv.1=k))=true then wY.map (fun kv=>if kv.1=k then(kv.1,v) else kv) else wY++[(k,v)]
theorem EA{p:κ×V}{r:List (κ×V)}{k:κ}(e:p.1=k):FL (p::r) k=some p.2:=by simp[FL,V6,e]
theorem EB{p:κ×V}{r:List (κ×V)}{k:κ}(e:¬p.1=k):FL (p::r) k=FL r k:=by simp[FL,V6,e]
theorem Me(k:κ):∀wY:List (κ×V),(wY.any fun kv=>decide (kv.1=k))=(FL wY k).isSome
 | []=>rfl
 | p::r=>by
  rw[V9]
  by_cases e:p.1=k
  ·simp only[EA e,decide_eq_true e,rR,tJ]
  ·rw[EB e,decide_eq_false e,Bool.false_or];exact Me k r
theorem ET(wY:List (κ×V))(k:κ)(v:V):(Dn wY k v).length<=wY.length+1:=by
 unfold Dn;split
 ·rw[A8];omega
 ·rw[D0,D9,rX];omega
theorem FF.zAa{o:Option V}{u:Option Value}(r:FF o u):o.isSome=u.isSome:=by
 cases o with
 | none=>cases u with
  | none=>rfl
  | some _=>exact(show False from r).elim
 | some _=>cases u with
  | none=>exact(show False from r).elim
  | some _=>rfl
theorem KV.val{wY:List (κ×V)}{vs:List (κ×Value)}(r:KV wY vs)(k:κ):FF (FL wY k) (sY vs k):=by
 unfold KV at r
 induction r with
 | nil=>exact True.intro
 | @cons p q ps qs h t ih =>
  obtain⟨h1,h2⟩:=h
  by_cases e:p.1=k
  ·have e':q.1=k:=h1.symm.trans e;have b:sY (q::qs) k=some q.2:=by simp[sY,V6,e']
   rw[EA e,b];exact h2
  ·have e':¬q.1=k:=fun z=>e (h1.trans z)
   have b:sY (q::qs) k=sY qs k:=by simp[sY,V6,e']
   rw[EB e,b];exact ih
theorem KV.any{wY:List (κ×V)}{vs:List (κ×Value)}(r:KV wY vs)(k:κ):(wY.any fun kv=>decide (kv.1=k))=vs.any fun kv=>decide (kv.1=k):=by
 unfold KV at r
 induction r with
 | nil=>rfl
 | cons h t ih=>rw[V9,V9,ih,h.1]
theorem KV.zBj{wY:List (κ×V)}{vs:List (κ×Value)}(r:KV wY vs)(k:κ)(ry:RelV y u) :
    KV (wY.map fun kv=>if kv.1=k then(kv.1,y) else kv) (vs.map fun kv=>if kv.1=k then(kv.1,u) else kv):=by
  unfold KV at r ⊢
  induction r with
  | nil=>exact .nil
  | @cons p q ps qs h t ih =>
    rw[C5,C5];refine .cons ?_ ih;obtain⟨h1,h2⟩:=h
    by_cases e:p.1=k
    · rw[if_pos e,if_pos (h1.symm.trans e)];exact⟨h1,ry⟩
    · rw[if_neg e,if_neg (fun z=>e (h1.trans z))];exact⟨h1,h2⟩
theorem KV.put{wY:List (κ×V)}{vs:List (κ×Value)}(r:KV wY vs)(k:κ)(ry:RelV y u):KV (Dn wY k y) (stored vs k u):=by
 unfold Dn stored;rw[r.any k]
 by_cases e:(vs.any fun kv=>decide (kv.1=k))=true
 ·rw[if_pos e,if_pos e];exact r.zBj k ry
 ·rw[if_neg e,if_neg e];exact Paired.snoc r ⟨rfl,ry⟩
theorem KV.length{wY:List (κ×V)}{vs:List (κ×Value)}(r:KV wY vs):wY.length=vs.length:=Paired.length r
end
variable {w:J7}
theorem WX{P:F0}{k:BF}(r:RelV (kV k) u):(Ak P w).is k u=true:=by
 cases k with
 | inl i=>obtain⟨t,e⟩:=(show ∃t,u=qt i t from r);subst e;exact NO P w i t
 | inr x=>obtain⟨t,e⟩:=(show ∃t,u=sT x t from r);subst e;exact NN P w x t
theorem Kv{P:F0}{w:J7}:∀{ks:List BF} {us:List Value},AF (ks.map kV) us->ItemsAre (Ak P w) ks us
 | [],_,r=>by rw[m7] at r;cases r;exact .nil
 | k::ks,_,r=>by
  rw[C5] at r;cases r with
  | cons h t=>exact .cons (WX h) (Kv t)
abbrev KT(H:Hp):List (List BF×V)->List (List BF×B3×Value)->Prop:=Paired fun p q=>p.1=q.1/\H q.2.1=some (.tup (p.1.map kV))/\RelV p.2 q.2.2
variable {H:Hp} {wY:List (List BF×V)} {xs:List (List BF×B3×Value)}
theorem KT.val(r:KT H wY xs)(k:List BF):FF (FL wY k) ((u3 xs k).map (·.2)):=by
 induction r with
 | nil=>exact True.intro
 | @cons p q ps qs h t ih =>
  obtain⟨h1,_,h2⟩:=h
  by_cases e:p.1=k
  ·have e':q.1=k:=h1.symm.trans e;have b:u3 (q::qs) k=some q.2:=by simp[u3,V6,e']
   rw[EA e,b];exact h2
  ·have e':¬q.1=k:=fun z=>e (h1.trans z)
   have b:u3 (q::qs) k=u3 qs k:=by simp[u3,V6,e']
   rw[EB e,b];exact ih
theorem KT.zBj(r:KT H wY xs)(k:List BF)(ry:RelV y u) :
    KT H (wY.map fun kv=>if kv.1=k then(kv.1,y) else kv) (xs.map (putAt k u)):=by
  induction r with
  | nil=>exact .nil
  | @cons p q ps qs h t ih =>
    rw[C5,C5];refine .cons ?_ ih;obtain⟨h1,h2,h3⟩:=h;unfold putAt
    by_cases e:p.1=k
    · rw[if_pos e,if_pos (h1.symm.trans e)];exact⟨h1,h2,ry⟩
    · rw[if_neg e,if_neg (fun z=>e (h1.trans z))];exact⟨h1,h2,h3⟩
theorem KT.put(r:KT H wY xs)(k:List BF){b:B3}(hb:H b=some (.tup (k.map kV)))(ry:RelV y u) :
    KT H (Dn wY k y) (storedH xs k b u):=by
  have e:(wY.any fun kv=>decide (kv.1=k))=(u3 xs k).isSome:=by
    rw[Me,(r.val k).zAa,Option.isSome_map]
  unfold Dn storedH;rw[e]
  by_cases q:(u3 xs k).isSome=true
  · rw[if_pos q,if_pos q];exact r.zBj k ry
  · rw[if_neg q,if_neg q];exact Paired.snoc r ⟨rfl,hb,ry⟩
theorem KT.keeps{H':Hp}(r:KT H wY xs)(ht:∀b ys,H b=some (.tup ys)->H' b=some (.tup ys)):KT H' wY xs:=
 Paired.zBF r fun _ _ z=>⟨z.1,ht _ _ z.2.1,z.2.2⟩
section
variable {P:F0} {w:J7} {H:Hp} {h:H9} {a:B3}
theorem cJ{u:HO}(ok:FY P w H h)(e:Rd H a u):Ab P w H h a u:=e.ok ok
theorem Rk{wY:List (BF×V)}(ok:FY P w H h)(e:Rd H a (.dK wY)):wY.length<=sizeLine/\(a == T6)=false/\∃vs,KV wY vs/\h.DictOf (Ak P w) a vs:=
 show Ab P w H h a (.dK wY) from cJ ok e
theorem mG{wY:List (BF×V)}(ok:FY P w H h)(e:H a=some (.dK wY)):wY.length<=sizeLine/\(a == T6)=false/\∃vs,KV wY vs/\h.DictOf (Ak P w) a vs:=Rk ok (.inl e)
theorem Pi{ks:List BF}(ok:FY P w H h)(e:H a=some (.tup (ks.map kV))):(qu (Ak P w)).is h ks a:=by
 obtain⟨_,its,r,o,h1,h2,_,n,h3⟩:=(show Ab P w H h a (.tup (ks.map kV)) from ok a _ e);exact⟨o,its.toArray,n,h1,h2,h3,by simpa using Kv r⟩
theorem XR(ok:FY P w H h)(e:Rd H a (.dT wY)):wY.length<=sizeLine/\(a == T6)=false /\
    ∃xs,KT H wY xs/\h.DictOfH (qu (Ak P w)) a xs:=by
  obtain⟨z,y,xs,r,o,es,ep,h1,h2,h3,h4,h5⟩:=(show Ab P w H h a (.dT wY) from cJ ok e);refine⟨z,y,xs,r,o,es,ep,h1,h2,h3,h4,fun x hx=>?_,h5⟩;have all:∀{l:List (List BF×V)} {m:List (List BF×B3×Value)},KT H l m->∀x∈m,(qu (Ak P w)).is h x.1 x.2.1:=by
    intro l m q
    induction q with
    | nil=>intro x hx;exact nomatch hx
    | @cons p q ps qs hq t ih =>
      intro x hx;rcases C8.mp hx with e | hx
      · subst e;exact Pi ok (by rw[<- hq.1];exact hq.2.1)
      · exact ih x hx
  exact all r x hx
theorem mF(ok:FY P w H h)(e:H a=some (.dT wY)):wY.length<=sizeLine/\(a == T6)=false /\
    ∃xs,KT H wY xs/\h.DictOfH (qu (Ak P w)) a xs:=XR ok (.inl e)
end
def MW(H:Hp)(a:B3)(y:V)(r:Option V):Prop:=
 (∃wY k,Rd H a (.dK wY)/\y=kV k/\r=FL wY k)\/∃wY k b,Rd H a (.dT wY)/\y=.ref b/\H b=some (.tup (k.map kV))/\r=FL wY k
def Ob(H:Hp)(a:B3)(y v:V)(H':Hp):Prop:=
 (∃wY k,H a=some (.dK wY)/\y=kV k/\wY.length < sizeLine/\H'=upd H a (.dK (Dn wY k v))) \/
 ∃wY k b,H a=some (.dT wY)/\y=.ref b/\H b=some (.tup (k.map kV))/\wY.length < sizeLine/\H'=upd H a (.dT (Dn wY k v))
variable {a:B3}
theorem MW.k{wY:List (BF×V)}{k:BF}(e:H a=some (.dK wY)):MW H a (kV k) (FL wY k):=.inl ⟨wY,k,.inl e,rfl,rfl⟩
theorem MW.t{b:B3}{k:List BF}(e:H a=some (.dT wY))(eb:H b=some (.tup (k.map kV))):MW H a (.ref b) (FL wY k):=.inr ⟨wY,k,b,.inl e,rfl,eb,rfl⟩
theorem Ob.k{wY:List (BF×V)}{k:BF}{v:V}(e:H a=some (.dK wY))(hl:wY.length < sizeLine):Ob H a (kV k) v (upd H a (.dK (Dn wY k v))):=.inl ⟨wY,k,e,rfl,hl,rfl⟩
theorem Ob.t{b:B3}{k:List BF}{v:V}(e:H a=some (.dT wY))(eb:H b=some (.tup (k.map kV)))(hl:wY.length < sizeLine) :
    Ob H a (.ref b) v (upd H a (.dT (Dn wY k v))):=.inr ⟨wY,k,b,e,rfl,eb,hl,rfl⟩
section
variable {X:Cx} {pins:List (B3×Obj)} {σ:St} {H:Hp} {s:A7} {a:B3} {y v:V} {u r:Value} {o:Option V} {A:I9} {E:Value->A7->Prop}
theorem Inv.big(I:Inv X pins σ H s):T6 < s.heap.objs.size:=by
 have h:M7 < s.heap.objs.size:=(I.mod.glob.keeps I.bk).lt;exact V3 (by decide) h
theorem Td{Q:Value->A7->Prop}(hu:A.units+1 < S4)(I:Inv X pins σ H s)(g:MW H a y (some v))(ry:RelV y u)(h:∀w' s',Inv X pins σ H s'->RelV v w'->Q w' s') :
    B6 (D4 X.prog X.w) A (sW (.ref a) u) Q E s:=by
  rcases g with⟨wY,k,e,ey,l⟩ | ⟨wY,k,b,e,ey,eb,l⟩
  · subst ey;obtain⟨z,hd,vs,rel,dd⟩:=Rk I.wj e;obtain⟨w',hw,yn⟩:=FF.some_of (v:=v) (o:=sY vs k) (by rw[l];exact rel.val k);exact wpAny_getItem_of (WX ry) dd.mapOf hw (h w' _ (I.tok _) yn)
  · subst ey;cases(show u=F7 b from ry);obtain⟨z,hd,xs,rel,dd⟩:=XR I.wj e;obtain⟨w',hw,yn⟩:=FF.some_of (v:=v) (o:=(u3 xs k).map (·.2)) (by rw[l];exact rel.val k);obtain⟨p,hp,hp2⟩:=E5.mp hw;refine wpAny_getItem_heap (tupleKind_room_in1 hu) (Pi I.wj eb) dd hp ?_;rw[hp2];exact h w' _ (I.tok _) yn
theorem Rl{h':H9}{t':Nat}{ob:HO}(I:Inv X pins σ H s)(mu:jN (H a))(hs:K9 a s.heap h')(he:∃q,h'.get? a=some q)(new:Ab X.prog X.w (upd H a ob) h' a ob) :
    Inv X pins σ (upd H a ob) { s with heap:=h',toks:=t' }:=
  I.write (x:=a) (e:=a) mu (.inl rfl) (fun b q hb z=>(hs.2 b hb).trans z) he new
theorem iM{P:F0}{H':Hp}{h':H9}{wY:List (BF×V)}{vs:List (BF×Value)}(z:wY.length<=sizeLine)(hd:(a == T6)=false)(rel:KV wY vs)(dd:h'.DictOf (Ak P w) a vs) :
    Ab P w H' h' a (.dK wY):=⟨z,hd,vs,rel,dd⟩
end
section
variable {X:Cx} {pins:List (B3×Obj)} {σ:St} {H:Hp} {s:A7} {a:B3} {wY:List (BF×V)} {k:BF} {u:Value} {A:I9} {E:Value->A7->Prop}
theorem mI{Q:Value->A7->Prop}(I:Inv X pins σ H s)(e:Rd H a (.dK wY))(h:∀t s',Inv X pins σ H s'->Q (.int wY.length t) s'):B6 (D4 X.prog X.w) A (call (.builtin "len") [.ref a]) Q E s:=by
 obtain⟨z,hd,vs,rel,dd⟩:=Rk I.wj e;refine call_len_dict hd dd (by rw[<- rel.length];rw[N6] at z;omega) ?_;rw[<- rel.length];exact h _ _ (I.tok _)
end
theorem Np{X:Cx}{pins:List (B3×Obj)}{σ:St}{s:A7}{o:Option V}(I:Inv X pins σ H s)(g:MW H a y o):s.TypeIs (.ref a) "dict" := by
 rcases g with⟨wY,k,e,_,_⟩ | ⟨wY,k,b,e,_,_,_⟩
 ·obtain⟨_,_,vs,_,dd⟩:=Rk I.wj e;exact dd.typeIs
 ·obtain⟨_,_,xs,_,dd⟩:=XR I.wj e;exact dd.typeIs
theorem Nn{P:F0}(h:H9)(hb:T6 < h.objs.size):Ab P w H (h.push { cls:=.type "dict", data:=.dict #[] }) h.objs.size (.dK []):=
 ⟨J8 _,beq_eq_false_iff_ne.mpr (Ne.symm (D1 hb)),[],.nil,wV h⟩
abbrev eD:TE:=fun _ H Q=>∀p,H p=none->Q (.ref p) (upd H p (.dK []))
section
variable {X:Cx} {pos:Pos}
theorem Vt:PE X (.Dict [] [] pos) eD:=fun pins s σ H Q I h =>
 wpAny_Dict_empty ⟨.ref s.heap.objs.size,_,I.laid (a:=s.heap.objs.size) (o:=.dK []) (t':=s.toks) (fun _ _ q=>A2 _ q) (B4 _) (Nn s.heap I.big),rfl,h _ (I.wj.fresh (B4 _))⟩
end
section
variable {X:Cx}
theorem UA:BG X (.builtin "len") (fun xs H Q=>∃a wY,xs=[V.ref a]/\H a=some (.dK wY)/\Q (.int wY.length) H):=by
 intro pins s σ H xs us Q I r h;obtain⟨a,wY,rfl,ha,q⟩:=h;obtain⟨u,rfl,ru⟩:=vals1 r;cases ru;exact mI I (.inl ha) fun t s' I'=>⟨.int wY.length,H,I',⟨t,rfl⟩,q⟩
end
theorem Lo:rH (.type "list") "keys" = pure none:=am_miss_of_fast (by decide +kernel)
theorem aA{prog:F0}{w:J7}{A:I9}{E:Value->A7->Prop}{s:A7}{a:B3}{o:Obj}{xs:Array Value}{k:Nat}{Q:Option Value->A7->Prop}
    (hx:s.heap.get? a=some o) (hc:o.cls=.type "list") (zCr:o.data=.seq xs k) (hd:o.dict=none) (hA:A.handled=none)
    (h:∀h' tk,(∀b o,s.heap.get? b=some o->h'.get? b=some o)->Q none { s with heap:=h',toks:=tk }) :
    B6 (D4 prog w) A (getAttr? (.ref a) "keys") Q E s:=by
  obtain⟨c,xp,dat,sl⟩:=o;simp only at hc zCr hd;subst hc zCr hd;obtain⟨hp,g,d,tk,os⟩:=s
  have hT:∀tk',(⟨hp,g,d,tk',os⟩:A7).TypeIs (.ref a) "list" := fun _=>⟨_,hx,rfl⟩
  have f1:=sub_AttributeError;have f3:=F.slot_list_getattribute.lookup;have f4:=F.slot_list_getattribute.bind (.ref a);have f5:=am_list_getattr_none;unfold getAttr? getAttrBy? getAttrBy
  repeat (any_goals (first | assumption | exact hT _ | ((with_reducible show B6 _ _ (call (vb "list.__getattribute__") _ _) _ _ _);refine call_meets F.slot_list_getattribute (hT _) am_entry_list_getattribute (F.args_list_getattribute_2 _ _) (meets_getattribute_miss_list a xs k sl "keys" _ Lo (by decide +kernel) (by decide +kernel)) ⟨hx,hA,fun h' tk' e zX=>?_⟩) | wp_step))
  obtain⟨t',u',he⟩:=zX.there;show B6 _ _ (tL _ _ _ _ _ _ _) _ _ _;unfold tL
  repeat (any_goals (first | assumption | wp_step))
  exact h _ _ zX.keeps
theorem DE:vU table "dict.update.loop" = some O8.«dict.update.loop»:=ud (by kernel_rfl)
theorem BE:plainId "dict.update.loop" = true:=by decide +kernel
section
variable {X:Cx} {pins:List (B3×Obj)} {σ:St} {H:Hp} {s:A7} {a:B3} {y v:V} {u r:Value} {A:I9} {E:Value->A7->Prop}
theorem Te{H':Hp}{Q:Unit->A7->Prop}(hu:A.units+1 < S4)(I:Inv X pins σ H s)(g:Ob H a y v H')(ry:RelV y u)(rv:RelV v r)(h:∀s',Inv X pins σ H' s'->Q () s') :
    B6 (D4 X.prog X.w) A (dictSet a u r) Q E s:=by
  rcases g with⟨wY,k,e,ey,l,eH⟩ | ⟨wY,k,b,e,ey,eb,l,eH⟩
  · subst ey eH;obtain⟨z,hd,vs,rel,dd⟩:=mG I.wj e;have hz:vs.length<=sizeLine:=by rw[<- rel.length];exact z
    have hl:(Dn wY k v).length<=sizeLine:=by have:=ET wY k v;omega
    refine wpAny_dictSet_pairs (hsz:=hz) (WX ry) dd fun h' dd' hs=>h _ ?_
    have he:∃q,h'.get? a=some q:=let ⟨q,_,_,hq,_⟩:=dd';⟨q,hq⟩;exact Rl I (by rw[e];exact True.intro) hs he (iM hl hd (rel.put k rv) dd')
  · subst ey eH;cases(show u=F7 b from ry);obtain⟨z,hd,xs,rel,dd⟩:=mF I.wj e;have hz:xs.length<=sizeLine:=by rw[<- Paired.length rel];exact z
    have hl:(Dn wY k v).length<=sizeLine:=by have:=ET wY k v;omega
    refine wpAny_dictSet_heap (hsz:=hz) (knd:=qu (Ak X.prog X.w)) (show A.units < S4 by omega) (Pi I.wj eb) dd fun h' dd' hs=>h _ ?_
    obtain⟨q,es,ep,hq,h2,h3,h4,_,h5⟩:=dd';refine Rl I (by rw[e];exact True.intro) hs ⟨q,hq⟩ ⟨hl,hd,_,(rel.put k eb rv).keeps fun c ys ec=>?_,q,es,ep,hq,h2,h3,h4,h5⟩;rw[AE (lJ ec e (fun z=>nomatch z))];exact ec
end
def qT(H:Hp)(x:V)(p:List BF×V):Prop:=∃t b,x=.ref t/\H t=some (.tup [.ref b,p.2])/\H b=some (.tup (p.1.map kV))
def Ip{κ:Type} [DecidableEq κ] (wY:List (κ×V)) (ps:List (κ×V)):List (κ×V):=ps.foldl (fun k p=>Dn k p.1 p.2) wY
noncomputable abbrev qN:=List Int×T
def gK(pl:List Int)(i:Nat):List T->List qN
 | []=>[]
 | k::ks=>(pl++[(i:Int)],k)::gK pl (i+1) ks
mutual
noncomputable def T.dp:T->Nat
 | .leaf _ _=>0
 | .op _ m n=>max (m.dp+1) (max (n.dp+1) 0)
 | .many _ _ ts=>jI ts
 | .zDT _ a b=>max (a.dp+1) (max (b.dp+1) 0)
 | .loop _ n _ a b=>max (n.dp+1) (max (a.dp+1) (max (b.dp+1) 0))
 | .pick n ts=>max (n.dp+1) (jI ts)
noncomputable def jI:List T->Nat
 | []=>0
 | t::ts=>max (t.dp+1) (jI ts)
end
noncomputable def jn(sep:List Nat):List (List Nat)->List Nat
 | []=>[]
 | x::ys=>x++(ys.flatMap fun y=>sep++y)
theorem jR(sep:List Nat):∀ys:List (List Nat),wK (tx sep) (ys.map tx)=tx (jn sep ys):=by
 intro ys;have h:wK (tx sep) (ys.map tx)=vV (tx sep) (ys.map tx):=by simpa using join_plain_closes (tx sep) (ys.map tx)
 rw[h];have:∀(x:List Nat) (ys:List (List Nat)),vV (tx sep) ((x::ys).map tx)=tx (x++(ys.flatMap fun y=>sep++y)):=by
  intro x ys
  induction ys generalizing x with
  | nil=>simp[vV]
  | cons y ys ih =>
   show tx x++tx sep++vV (tx sep) ((y::ys).map tx)=_;rw[ih y,Oj,Oj];simp
 cases ys with
 | nil=>rfl
 | cons x ys=>exact this x ys
theorem dg(ys:List (List Nat)):((ys.map tx).map (·.length)).sum=(ys.map qg).sum:=by
 rw[L1];congr 1
section
variable {prog:F0} {w:J7} {A:I9} {E:Value->A7->Prop} {s:A7}
theorem OD{l:B3}{T:String}{o:Obj}{n:Nat}{vs:List Value}{Q:List Value->A7->Prop}(hT:T = "list" \/ T = "tuple")(ho:s.heap.get? l=some o)(hc:o.cls=.type T)(hd:o.data=.seq vs.toArray n)
    (h:Q vs { s with heap:=(s.heap.push (U4 "list" #[] 0)).update s.heap.objs.size (E6 (·++vs.toArray)) }) (hsz:vs.length<=sizeLine) :
    B6 (D4 prog w) A (v8 (.ref l)) Q E s:=by
  unfold v8;refine A1 (p7 (M0 entry_proto_collect' ?_))
  show B6 _ _ (do again (.builtin "list.__iadd__" ⟨[<- v9 [],.ref l],[]⟩)) _ _ s
  refine A1 (sj (A6 ⟨tM _ (by decide +kernel),M0 entry_list_iadd' ?_⟩))
  show B6 _ _ (G6 (.ref s.heap.objs.size) (.ref l) (.ref s.heap.objs.size)) _ _ { s with heap:=s.heap.push (U4 "list" #[] 0) }
  unfold G6
  have zo:(s.heap.push (U4 "list" #[] 0)).get? l=some o:=A2 _ ho
  refine A1 (R1 (T:=T) ⟨o,zo,hc⟩ ?_)
  have ht:((N3 (.ref s.heap.objs.size) (.ref l) || G2 T == G2 "list") || G2 T == G2 "tuple")=true:=by
    rcases hT with rfl | rfl
    · have:(G2 "list" == G2 "list")=true:=by rfl
      rw[this];simp
    · have:(G2 "tuple" == G2 "tuple")=true:=by rfl
      rw[this];simp
  rw[if_pos ht];refine A1 (rS zo hd ?_);refine A1 (rS (xs:=#[]) (n:=0) (B2 _ rfl) rfl ?_);rw[if_neg (by simp)];refine A1 (listUpdate_at (xs:=#[]) (n:=0) (B2 _ rfl) rfl ?_ (J8 _) (by show(#[]++vs.toArray).size<=sizeLine+1;simp only[uH,B0,rX];omega));refine A6 ?_;show B6 (D4 prog w) A (do
      let o <- load s.heap.objs.size
      match o.data with
      | .seq xs _=>pure xs.toList
      | _=>unsupported "internal:collect") Q E { s with heap:=(s.heap.push (U4 "list" #[] 0)).update s.heap.objs.size (E6 (·++vs.toArray)) }
  refine A1 (vL (Y1 (B2 _ rfl) _) ?_);show B6 _ _ (pure ((#[]:Array Value)++vs.toArray).toList) Q E _;rw[show((#[]:Array Value)++vs.toArray).toList=vs by simp];exact A6 h
theorem IM{l:B3}{T:String}{o:Obj}{n:Nat}{vs:List Value}{ns:List Int}{Q:Value->A7->Prop}(hT:T = "list" \/ T = "tuple")(ho:s.heap.get? l=some o)(hc:o.cls=.type T)(hd:o.data=.seq vs.toArray n)(hI:Y0 vs ns)(h64:vs.length < 64)
    (h:∀(out:Array Value) (xj:List Int),Y0 out.toList xj->xj.Perm ns->xj.Pairwise (·<=·)->Q (.ref (s.heap.objs.size+1)) { s with heap:=q9 s.heap vs out }) :
    B6 (D4 prog w) A (call (.builtin "sorted") [.ref l]) Q E s:=by
  refine qd kind_sorted plain_sorted entry_sorted (args_sorted1 _) ?_;unfold O8.«sorted»
  refine A1 (m:=checkCount "sorted" 1 1 _) (A6 ?_)
  refine A1 (OD hT ho hc hd ?_ (by rw[N6];omega));refine A1 (sj ?_)
  have hsz:((s.heap.push (U4 "list" #[] 0)).update s.heap.objs.size (E6 (·++vs.toArray))).objs.size=s.heap.objs.size+1:=by
    rw[ue,size_push']
  have hoL:(((s.heap.push (U4 "list" #[] 0)).update s.heap.objs.size (E6 (·++vs.toArray))).push (U4 "list" vs.toArray 0)).get? (s.heap.objs.size+1)=some (U4 "list" vs.toArray 0):=by
    rw[<- hsz];exact B2 _ rfl
  show B6 _ _ _ _ _ { s with heap:=((s.heap.push (U4 "list" #[] 0)).update s.heap.objs.size (E6 (·++vs.toArray))).push (U4 "list" vs.toArray 0) }
  rw[hsz];refine A1 (G9 (G3 slot_list_sort ⟨_,hoL,rfl⟩ u9 (list_sort_tree hoL hI h64 fun out xj a1 a2 a3=>⟨_,rfl,?_⟩) (args_list_sort _)));exact A6 ⟨_,rfl,h out xj a1 a2 a3⟩
theorem LS(h:H9)(vs:List Value)(out:Array Value):∃c,(q9 h vs out).get? (h.objs.size+1)=some { cls:=.type "list", dict:=none,data:=.seq out c,slots:=#[] }:=by
 unfold q9 vW
 have hsz:((h.push (U4 "list" #[] 0)).update h.objs.size (E6 (·++vs.toArray))).objs.size=h.objs.size+1:=by rw[ue,size_push']
 have hoL:(((h.push (U4 "list" #[] 0)).update h.objs.size (E6 (·++vs.toArray))).push (U4 "list" vs.toArray 0)).get? (h.objs.size+1)=some (U4 "list" vs.toArray 0):=by
  rw[<- hsz];exact B2 _ rfl
 have h1:=Y1 hoL (fun _=>#[])
 have h2:=Y1 (A2 (U4 "list" #[] 0) (A2 (U4 "tuple" vs.toArray 0) h1)) (fun _=>out)
 exact⟨_,h2⟩
theorem Jw(h:H9)(vs:List Value)(out:Array Value){b:B3}{o:Obj}(e:h.get? b=some o):(q9 h vs out).get? b=some o:=by
 have hb:b < h.objs.size:=C0 e;have n0:b≠h.objs.size:=D1 hb;have n1:b≠h.objs.size+1:=D1 (O3 hb);unfold q9 vW;refine(T9 _ _ _ _ n1).trans ?_;refine A2 _ (A2 _ ?_);refine(T9 _ _ _ _ n1).trans ?_;refine A2 _ ?_;refine(T9 _ _ _ _ n0).trans ?_;exact A2 _ e
end
theorem Hw:∀{ns:List Int} {its:List Value},AF (ns.map V.int) its->Y0 its ns
 | [],_,.nil=>.nil
 | n::ns,_,.cons r rs=>by obtain⟨t,rfl⟩:=r;exact .cons _ _ (Hw rs)
theorem Ls:∀{ns:List Int} {its:List Value},Y0 its ns->AF (ns.map V.int) its
 | _,_,.nil=>.nil
 | _,_,.cons n t rs=>.cons ⟨t,rfl⟩ (Ls rs)
def Hs(K:W.Frag):List V->Hp->VK->Prop:=fun xs H Q=>∃(p:B3) (ns:List Int),xs=[.ref p]/\(Cy K H p (ns.map V.int)\/De K H p (ns.map V.int))/\ns.length < 64/\∀(l:B3) (xj:List Int),H l=none->xj.Perm ns->xj.Pairwise (·<=·)->Q (.ref l) (upd H l (.lst (xj.map V.int)))
variable {X:Cx}
theorem OG:BG X (.builtin "sorted") (Hs X.K):=by
 intro pins s σ H xs us Q I r h;obtain⟨p,ns,rfl,hq,hl,q⟩:=h;obtain⟨u,rfl,rx⟩:=vals1 r;cases rx;have fin:∀(its:List Value) (hv:AF (ns.map V.int) its) (out:Array Value) (xj:List Int),Y0 out.toList xj->xj.Perm ns->xj.Pairwise (·<=·)->EP X pins σ Q (.ref (s.heap.objs.size+1)) { s with heap:=q9 s.heap its out }:=fun its hv out xj a1 a2 a3=>by
  obtain⟨c,e⟩:=LS s.heap its out;have v:=Ls a1;have e':out=out.toList.toArray:=by simp
  exact⟨.ref (s.heap.objs.size+1),_,I.laid (t':=s.toks) (fun b o e=>Jw _ _ _ e) (O6 _) (show Ab X.prog X.w _ _ _ (.lst (xj.map V.int)) from⟨by rw[A8,a2.length_eq,N6];omega,out.toList,c,v,by rw[<- e'];exact e⟩),rfl,q _ xj (I.wj.fresh (O6 _)) a2 a3⟩
 rcases hq with hq | hq
 ·obtain⟨its,r',pl,hz⟩:=I.list hq;have hlen:=r'.length;rw[A8] at hlen;obtain⟨o,ho,hc,n,hd⟩:=pl.isList;exact IM (.inl rfl) ho hc hd (Hw r') (by omega) (fin its r')
 ·obtain⟨its,r',pl,hz⟩:=I.tuple hq;have hlen:=r'.length;rw[A8] at hlen;obtain⟨o,ho,hc,n,hd⟩:=pl;exact IM (.inr rfl) ho hc hd (Hw r') (by omega) (fin its r')
theorem MJ(K:W.Frag)(h:X.K=K:=by rfl):BG X (.builtin "sorted") (Hs K):=by subst h;exact OG
end L2
namespace L2
open PySem PySem.Spec PyProof.Rows PySem.Builtin PySem.Builtin.Str
variable {X:Cx}
def Mx:V->List V->Hp->VK->Prop:=fun x vs H Q=>∃l b xs zs,x=.ref l/\vs=[.ref b]/\H l=some (.lst xs)/\H b=some (.tup zs)/\xs.length+zs.length<=sizeLine/\Q .we (upd H l (.lst (xs++zs)))
theorem Pd:jO X "list.extend" Mx:=by
 intro pins s σ H x vs v us Q I rx rv h;obtain⟨l,b,xs,zs,rfl,rfl,hH,hB,hz,q⟩:=h;cases rx;obtain⟨u,rfl,ru⟩:=rv.one;cases ru;obtain⟨z,its,n,r,hl,e⟩:=I.zAG hH;obtain⟨wg,r2,⟨o,ho,hc,n2,hd⟩,_⟩:=I.tuple (a:=b) (xs:=zs) (.inl (.inl hB));have xy:=r2.length;have hsz:its.toArray.size+wg.toArray.size<=sizeLine:=by rw[B0,B0];omega
 have zp:¬(!its.toArray.isEmpty && Q4 (its.toArray.size+wg.toArray.size))=true:=by
  rw[Iy hsz,o8];exact B9
 refine G3 F.slot_list_extend ⟨_,e,rfl⟩ F.entry_list_extend ?_ (F.args_list_extend_2 _ _);show B6 _ _ (G6 (.ref l) (.ref b) .none) _ _ s;unfold G6
 refine A1 (R1 (T := "tuple") ⟨o,ho,hc⟩ ?_)
 have ht:((N3 (.ref l) (.ref b) || G2 "tuple" == G2 "list") || G2 "tuple" == G2 "tuple")=true:=by
  have:(G2 "tuple" == G2 "tuple")=true:=by rfl
  rw[this];simp
 rw[if_pos ht];refine A1 (rS ho hd ?_);refine A1 (rS e rfl ?_);rw[if_neg zp];refine A1 (listUpdate_at e rfl ?_ (by rw[B0];omega) (by rw[uH];omega));refine A6 ?_;refine⟨_,rfl,.we,_,I.zBv (its':=its++wg) hH e (by simp) (r.append r2) ?_,rfl,q⟩;rw[D0];omega
end L2
namespace HT
open PySem PyProof.Rows
section
open PySem.SeqAt
open PySem.AutoSeq1 (wpAny_loadPart')
open PySem.MeetsSeq PySem.MeetsSeq2 PySem.MeetsSeq3
end
end HT
namespace L2
open PySem PySem.Spec PyProof.Rows
end L2
namespace L2
open PySem
abbrev bx(l:W.OpenLaw)(n:Nat)(as:List B3)(K:tG->W.Frag)(N:Nat):Prop:=
 W.LeftO l.row.prog (W.view l.prog (A5 n)) [] (fun s=>W.xlAt (W.view l.prog (A5 n)) [] s && W.recOk [] s) (fun s=>as.map s.heap.get?) (fun w=>(K w.params).map fun p=>some p.2) N
theorem zBt{l:W.OpenLaw}{n:Nat}{N:Nat}{d:vz}{K:tG->W.Frag}{as:List B3}(ws:l.wellSaid=true)(left:bx l n as K N)
    (has:∀P,as=(K P).map (·.1)) (hr:l.row.records=[]) (zDp:W.defOf (W.view l.prog (A5 n)) l.row.name=some (d,[])) (hp:l.row.prog.theDef l.row.name=some (d.params,d.body,d.scope)) (hk:W.kwWritten? d.params.kwonlyargs d.params.kw_defaults=some [])
    (hwr:(!l.row.writes || l.row.records.isEmpty)=true)
    (ok:(W.chainsOk (W.view l.prog (A5 n)) && W.opensWell l.row.prog && (W.frees l.row.toRowW && l.row.within.isEmpty))=true) (hb:l.row.prog.bare) (hw:l.row.toRowW.promised)
    (call:W.WalkO (W.view l.prog (A5 n)) [] (W.XL (W.view l.prog (A5 n)) []) (W.InK K) l.row.toRowW d [] fun f vs=>tH f vs):l.Holds:=
  W.holds_law ws fun zDL=>W.holds_open (q:=W.view l.prog (A5 n)) (loose:=[]) (XP:=W.XL (W.view l.prog (A5 n)) []) (YP:=W.InK K) left (W.InK.of has) W.InK.keeps (fun s e=>W.xl_of s (W6.mp e).1) W.XL.keeps zDp hp hk (fun s e=>W.recFacts_nil hr) hwr zDL ok hb hw call
noncomputable abbrev ke(P:tG)(x:Str)(t:Tok)(v:Value):DictEntry:=⟨PyData.keyHash P x,.str x t,v⟩
noncomputable abbrev cO(x:Str)(t:Tok)(l a s:Int)(r1 r2:B3)(v1 v2 v3:Value)(r3:B3)(t2:Nat):Obj:=⟨.type "code", none,.fields #[.str x t,.str x (t+1),.str "/claim/cut.py" (t+2),.int l 0,.int a 0,.int 0 0,.int 0 0,.int s 0,.ref r1,.bool true,.int 181 0,.ref r2,v1,v2,v3,.ref r3,.int t2 0,.int l 0,.str "/claim/cut.py" (t2+1)],#[]⟩
noncomputable def iO:N2->Pos
 | .FunctionDef _ _ _ _ _ _ _ _ _ p=>p
 | _=>⟨0,0,0,0⟩
noncomputable def DY(K:W.Frag)(n:Str):B3:=match W.nsIn K M7 n with
 | some (some (.ref a))=>a
 | _=>0
noncomputable def Zg(K:W.Frag)(f:B3):Value:=match K.lookup f with
 | some ⟨_,_,.func d,_⟩=>d.pyModule
 | _=>.none
noncomputable def Tr(K:W.Frag)(f:B3):Value:=match K.lookup f with
 | some ⟨_,_,.func d,_⟩=>d.code
 | _=>.none
abbrev GF(K:W.Frag)(n:Str)(t:N2):Prop:=W.nsIn K M7 n=some (some (.ref (DY K n))) /\
 K.lookup (DY K n)=some ⟨.type "function", none,.func (W.fnOf n n (Am t) (Ac t) (AI t) .none .none .none (Zg K (DY K n)) none (Tr K (DY K n)) .none),#[]⟩ /\
 W.codeIn K (Tr K (DY K n)) n=true/\W.keepIn K (.ref (DY K n))=true
theorem Pp{K:W.Frag}{n:Str}{t:N2}(h:GF K n t):Fun K n n t (DY K n) (W.fnOf n n (Am t) (Ac t) (AI t) .none .none .none (Zg K (DY K n)) none (Tr K (DY K n)) .none):=Wo h.2.1 h.2.2.1 h.2.2.2
end L2
namespace R
open PySem L2
set_option genInjectivity true in
inductive Dv where
 | we | bl (b:Bool) | int (i:Int) | str (x:List Nat) | tup (xs:List Dv) | lst (xs:List Dv) | xp (ks:List BF) (xs:List Dv) | ref (k:Nat) | xV (ns:List Int) | ty (n:String) | mtp (ls:List (List Nat)) | dtt (ks:List (List BF)) (xs:List Dv) | dnt (ks:List (NK BF)) (xs:List Dv) | obj (c:Str) (fl nm:List Str) (xs:List Dv)
 deriving Inhabited
structure G where
 Z:B3->Prop
 μ:List B3
noncomputable abbrev Fp:=B3->Prop
def Bt(P Q:Fp):Prop:=∀a,P a->Q a->False
def wX:Fp:=fun _=>False
def Lk(g:G)(H:Hp)(o:Nat)(a:B3)(vs:List V):Prop:=H a=some (.lst vs)/\(o=0->g.Z a)/\(o≠0->¬g.Z a)
def nR(K:W.Frag)(H:Hp)(a:B3)(ns:List Int):Prop:=(∃o,H a=some (.frz o (.lst (ns.map V.int)))) \/
    ∃(o:Obj) (its:Array Value) (n:Nat),K.lookup a=some o/\o.cls=.type "list" /\ o.dict=none/\o.data=.seq its n/\its.size<=sizeLine/\AF (ns.map V.int) its.toList
theorem nR.sq{K:W.Frag}{H:Hp}{a:B3}{ns:List Int}(h:nR K H a ns):Cy K H a (ns.map V.int):=h.elim (fun h=>.inl (.inr h)) .inr
def qQ(K:W.Frag)(a:B3)(ls:List (List Nat)):Prop:=∃(o:Obj) (its:Array Value) (n:Nat),K.lookup a=some o/\o.cls=.type "tuple" /\ o.data=.seq its n/\its.size<=sizeLine/\AF (ls.map fun l=>V.str (tx l)) its.toList
def bj(K:W.Frag)(c:Str)(fl:List Str):Prop:=Cls K (DY K c)/\∀f∈fl,Eg K (DY K c) f
mutual
noncomputable def Rep(K:W.Frag)(g:G)(H:Hp):Nat->Dv->V->Fp->Prop
 | _,.we,v,P=>v=.we/\∀a,¬P a
 | _,.bl b,v,P=>v=.bl b/\∀a,¬P a
 | _,.int i,v,P=>v=.int i/\∀a,¬P a
 | _,.str l,v,P=>v=.str (tx l)/\∀a,¬P a
 | o,.tup ds,v,P=>∃a vs,v=.ref a/\H a=some (.tup vs)/\AA K g H (o - 1) ds vs P
 | o,.lst ds,v,P=>∃a vs P',v=.ref a/\Lk g H o a vs/\AA K g H (o - 1) ds vs P'/\¬P' a/\∀b,P b↔(o≠0/\b=a)\/P' b
 | o,.xp ks ds,v,P=>∃a vs,v=.ref a/\H a=some (.dK (ks.zip vs))/\(o=0->g.Z a)/\(o≠0->¬g.Z a)/\(ks.length=ds.length/\∃R,AA K g H 0 ds vs R)/\∀b,P b↔(o≠0/\b=a)
 | _,.ref k,v,P=>(∃a,g.μ[k]?=some a/\v=.ref a)/\∀a,¬P a
 | _,.xV ns,v,P=>(∃a,v=.ref a/\nR K H a ns)/\∀a,¬P a
 | _,.ty n,v,P=>v=.ty n/\∀a,¬P a
 | _,.mtp ls,v,P=>(∃a,v=.ref a/\qQ K a ls)/\∀a,¬P a
 | o,.dtt ks ds,v,P=>∃a vs,v=.ref a/\H a=some (.dT (ks.zip vs))/\(o=0->g.Z a)/\(o≠0->¬g.Z a)/\(ks.length=ds.length/\∃R,AA K g H 0 ds vs R)/\∀b,P b↔(o≠0/\b=a)
 | o,.dnt ks ds,v,P=>∃a vs,v=.ref a/\H a=some (.dN (ks.zip vs))/\(o=0->g.Z a)/\(o≠0->¬g.Z a)/\(ks.length=ds.length/\∃R,AA K g H 0 ds vs R)/\∀b,P b↔(o≠0/\b=a)
 | o,.obj c fl nm ds,v,P=>∃a dx vs P',v=.ref a/\H a=some (.ins (DY K c) dx (nm.zip vs))/\(o=0->g.Z a)/\(o≠0->¬g.Z a)/\(bj K c fl/\nm.length=ds.length/\∀f∈nm,f∈fl)/\AA K g H o ds vs P'/\¬P' a/\∀b,P b↔(o≠0/\b=a)\/P' b
noncomputable def AA(K:W.Frag)(g:G)(H:Hp):Nat->List Dv->List V->Fp->Prop
 | _,[],vs,P=>vs=[]/\∀a,¬P a
 | o,d::ds,vs,P=>∃v r P1 P2,vs=v::r/\Rep K g H o d v P1/\AA K g H o ds r P2/\Bt P1 P2/\∀a,P a↔P1 a\/P2 a
end
def Zd(g:G)(H:Hp):Prop:=∀a,g.Z a->H a≠none
structure Step (g:G) (P:Fp) (H:Hp) (g':G) (P':Fp) (H':Hp):Prop where
 keep:∀b o,H b=some o->¬P b->H' b=some o
 dom:∀b,H' b=none->H b=none
 zm:∀a,g.Z a->g'.Z a
 zn:∀a,g'.Z a->g.Z a\/P a\/H a=none
 mu:∃r,g'.μ=g.μ++r
 nw:∀a,P' a->P a\/H a=none
 zd:Zd g H->Zd g' H'
 ins:∀b C dx fs,H b=some (.ins C dx fs)->∃fs',H' b=some (.ins C dx fs')/\∀f r,fs.lookup f=some (.ref r)->fs'.lookup f=some (.ref r)
theorem Step.refl{g:G}{P:Fp}{H:Hp}:Step g P H g P H:=⟨fun _ _ h _=>h,fun _ h=>h,fun _ h=>h,fun _ h=>.inl h,⟨[],by simp⟩,fun _ h=>.inl h,fun h=>h,fun _ _ _ fs h=>⟨fs,h,fun _ _ z=>z⟩⟩
theorem Step.trans{g g1 g2:G}{P P1 P2:Fp}{H H1 H2:Hp}(a:Step g P H g1 P1 H1)(b:Step g1 P1 H1 g2 P2 H2):Step g P H g2 P2 H2:=by
 refine⟨fun c o h n=>?_,fun c h=>a.dom c (b.dom c h),fun c h=>b.zm c (a.zm c h),fun c h=>?_,?_,fun c h=>?_,fun z=>b.zd (a.zd z),fun c C dx fs h=>?_⟩
 ·refine b.keep c o (a.keep c o h n) fun z=>?_
  rcases a.nw c z with z | z
  ·exact n z
  ·rw[h] at z;cases z
 ·rcases b.zn c h with z | z | z
  ·exact a.zn c z
  ·exact(a.nw c z).elim (fun q=>.inr (.inl q)) fun q=>.inr (.inr q)
  ·exact .inr (.inr (a.dom c z))
 ·obtain⟨r1,e1⟩:=a.mu;obtain⟨r2,e2⟩:=b.mu;exact⟨r1++r2,by rw[e2,e1,G0]⟩
 ·rcases b.nw c h with z | z
  ·exact a.nw c z
  ·exact .inr (a.dom c z)
 ·obtain⟨f1,e1,k1⟩:=a.ins c C dx fs h;obtain⟨f2,e2,k2⟩:=b.ins c C dx f1 e1;exact⟨f2,e2,fun f r z=>k2 f r (k1 f r z)⟩
theorem Step.sub{g g':G}{P Q P' Q':Fp}{H H':Hp}(s:Step g P H g' P' H')(h1:∀a,P a->Q a)(h2:∀a,Q' a->P' a):Step g Q H g' Q' H':=
 ⟨fun b o h n=>s.keep b o h fun z=>n (h1 b z),s.dom,s.zm,fun a h=>(s.zn a h).elim .inl fun z=>.inr (z.elim (fun q=>.inl (h1 a q)) .inr),s.mu,fun a h=>(s.nw a (h2 a h)).elim (fun q=>.inl (h1 a q)) .inr,s.zd,s.ins⟩
theorem Step.less{g g':G}{P P' Q':Fp}{H H':Hp}(s:Step g P H g' P' H')(h2:∀a,Q' a->P' a):Step g P H g' Q' H':=s.sub (fun _ q=>q) h2
theorem Step.frame{g g':G}{P P' R:Fp}{H H':Hp}(s:Step g P H g' P' H'):Step g (fun a=>P a\/R a) H g' (fun a=>P' a\/R a) H':=
 ⟨fun b o h n=>s.keep b o h fun z=>n (.inl z),s.dom,s.zm,fun a h=>(s.zn a h).elim .inl fun z=>.inr (z.elim (fun q=>.inl (.inl q)) .inr),s.mu,fun a h=>h.elim (fun q=>(s.nw a q).elim (fun z=>.inl (.inl z)) .inr) fun q=>.inl (.inr q),s.zd,s.ins⟩
theorem Step.same{g:G}{P:Fp}{H H':Hp}(s:MV H H'):Step g P H g P H':=
 have dm:∀b,H' b=none->H b=none:=fun b h=>by
  cases e:H b with
  | none=>rfl
  | some o=>rw[s b o e] at h;cases h
 ⟨fun b o h _=>s b o h,dm,fun _ h=>h,fun _ h=>.inl h,⟨[],by simp⟩,fun _ h=>.inl h,fun z a h q=>z a h (dm a q),fun b C dx fs h=>⟨fs,s b _ h,fun _ _ z=>z⟩⟩
theorem Yi{H:Hp}{a:B3}{o u:HO}(h:H a=some u)(nu:∀C dx fs,u≠.ins C dx fs):∀b C dx fs,H b=some (.ins C dx fs)->∃fs',upd H a o b=some (.ins C dx fs')/\∀f r,fs.lookup f=some (.ref r)->fs'.lookup f=some (.ref r):=fun b C dx fs e =>
 ⟨fs,by rw[AE fun z=>by subst z;rw[h] at e;exact nu C dx fs (D5 e)];exact e,fun _ _ z=>z⟩
def wc(g:G)(H:Hp)(P:Fp):Prop:=∀a,P a->jN (H a)/\¬g.Z a
theorem wc.or{g:G}{H:Hp}{P Q:Fp}(h:wc g H P)(k:wc g H Q):wc g H fun a=>P a\/Q a:=fun a q=>q.elim (h a) (k a)
theorem wc.wX{g:G}{H:Hp}:wc g H wX:=fun _ z=>z.elim
theorem wc.new{g:G}{H:Hp}{P:Fp}(h:wc g H P){a:B3}(n:H a=none):¬P a:=fun z=>by have:=(h a z).1;rw[n] at this;exact this
theorem Eu{P:Fp}(h:∀a,¬P a):P=wX:=funext fun a=>propext ⟨fun z=>(h a z).elim,fun z=>z.elim⟩
section
variable {K:W.Frag} {g g':G} {H H':Hp}
theorem Step.out{P P' R:Fp}(s:Step g P H g' P' H')(ok:wc g H R)(n:Bt R P):Bt R P':=fun a q z=>(s.nw a z).elim (fun z=>n a q z) fun z=>ok.new z q
theorem Lk.held{o:Nat}{a:B3}{vs:List V}{P P':Fp}(h:Lk g H o a vs)(hn:o≠0->¬P a)(s:Step g P H g' P' H')(ok:wc g H P):Lk g' H' o a vs:=by
 have np:¬P a:=by
  by_cases z:o=0
  ·exact fun q=>(ok a q).2 (h.2.1 z)
  ·exact hn z
 refine⟨s.keep _ _ h.1 np,fun z=>s.zm _ (h.2.1 z),fun z q=>?_⟩;rcases s.zn _ q with q | q | q
 ·exact h.2.2 z q
 ·exact np q
 ·rw[h.1] at q;cases q
mutual
theorem Rep.xE:∀{d:Dv} {v:V} {R:Fp},Rep K g H 0 d v R->∀a,¬R a
 | .we,v,R,h | .bl _,v,R,h | .int _,v,R,h | .str _,v,R,h | .ty _,v,R,h | .mtp _,v,R,h | .ref _,v,R,h | .xV _,v,R,h=>by unfold Rep at h;exact h.2
 | .dtt ks ds,v,R,h=>by
  unfold Rep at h;obtain⟨b,vs,e,h1,h2,h3,h5,h4⟩:=h;exact fun a q=>((h4 a).mp q).1 rfl
 | .dnt ks ds,v,R,h=>by
  unfold Rep at h;obtain⟨b,vs,e,h1,h2,h3,h5,h4⟩:=h;exact fun a q=>((h4 a).mp q).1 rfl
 | .obj c fl nm ds,v,R,h=>by
  unfold Rep at h;obtain⟨b,dx,vs,R',e,h1,hz,hn,hl,h2,h3,h5⟩:=h;exact fun a q=>((h5 a).mp q).elim (fun z=>z.1 rfl) fun z=>AA.xE h2 a z
 | .tup ds,v,R,h=>by
  unfold Rep at h;obtain⟨_,vs,e,h1,h2⟩:=h;exact AA.xE h2
 | .lst ds,v,R,h=>by
  unfold Rep at h;obtain⟨b,vs,R',e,h1,h2,h3,h5⟩:=h;exact fun a q=>((h5 a).mp q).elim (fun z=>z.1 rfl) fun z=>AA.xE h2 a z
 | .xp ks ds,v,R,h=>by
  unfold Rep at h;obtain⟨b,vs,e,h1,h2,h3,h5,h4⟩:=h;exact fun a q=>((h4 a).mp q).1 rfl
theorem AA.xE:∀{ds:List Dv} {vs:List V} {R:Fp},AA K g H 0 ds vs R->∀a,¬R a
 | [],vs,R,h=>by unfold AA at h;exact h.2
 | d::ds,vs,R,h=>by
  unfold AA at h;obtain⟨v,r,P1,P2,e,h1,h2,h3,h4⟩:=h;exact fun a q=>((h4 a).mp q).elim (fun z=>Rep.xE h1 a z) fun z=>AA.xE h2 a z
end
mutual
theorem Rep.held{P P':Fp}(s:Step g P H g' P' H')(ok:wc g H P):∀{o:Nat} {d:Dv} {v:V} {R:Fp},Rep K g H o d v R->Bt R P->Rep K g' H' o d v R
 | _,.we,v,R,h,_ | _,.bl _,v,R,h,_ | _,.int _,v,R,h,_ | _,.str _,v,R,h,_ | _,.ty _,v,R,h,_ | _,.mtp _,v,R,h,_=>by unfold Rep at h ⊢;exact h
 | o,.dtt ks ds,v,R,h,d=>by
  unfold Rep at h ⊢;obtain⟨a,vs,e,h1,h2,h3,⟨h5,R',h6⟩,h4⟩:=h;have hn:¬P a:=fun z=>by
   by_cases q:o=0
   ·exact(ok a z).2 (h2 q)
   ·exact d a ((h4 a).mpr ⟨q,rfl⟩) z
  refine⟨a,vs,e,s.keep _ _ h1 hn,fun q=>s.zm _ (h2 q),fun q z=>?_,⟨h5,R',AA.held s ok h6 fun b q z=>(AA.xE h6 b q).elim⟩,h4⟩;rcases s.zn _ z with z | z | z
  ·exact h3 q z
  ·exact hn z
  ·rw[h1] at z;cases z
 | o,.dnt ks ds,v,R,h,d=>by
  unfold Rep at h ⊢;obtain⟨a,vs,e,h1,h2,h3,⟨h5,R',h6⟩,h4⟩:=h;have hn:¬P a:=fun z=>by
   by_cases q:o=0
   ·exact(ok a z).2 (h2 q)
   ·exact d a ((h4 a).mpr ⟨q,rfl⟩) z
  refine⟨a,vs,e,s.keep _ _ h1 hn,fun q=>s.zm _ (h2 q),fun q z=>?_,⟨h5,R',AA.held s ok h6 fun b q z=>(AA.xE h6 b q).elim⟩,h4⟩;rcases s.zn _ z with z | z | z
  ·exact h3 q z
  ·exact hn z
  ·rw[h1] at z;cases z
 | o,.obj c fl nm ds,v,R,h,d=>by
  unfold Rep at h ⊢;obtain⟨a,dx,vs,R',e,h1,h2,h3,hl,h6,h7,h4⟩:=h;have hn:¬P a:=fun z=>by
   by_cases q:o=0
   ·exact(ok a z).2 (h2 q)
   ·exact d a ((h4 a).mpr (.inl ⟨q,rfl⟩)) z
  refine⟨a,dx,vs,R',e,s.keep _ _ h1 hn,fun q=>s.zm _ (h2 q),fun q z=>?_,hl,AA.held s ok h6 fun b q z=>d b ((h4 b).mpr (.inr q)) z,h7,h4⟩;rcases s.zn _ z with z | z | z
  ·exact h3 q z
  ·exact hn z
  ·rw[h1] at z;cases z
 | o,.tup ds,v,R,h,n=>by
  unfold Rep at h ⊢;obtain⟨a,vs,e,h1,h2⟩:=h;exact⟨a,vs,e,s.keep _ _ h1 fun z=>(by have:=(ok a z).1;rw[h1] at this;exact this),AA.held s ok h2 n⟩
 | o,.lst ds,v,R,h,n=>by
  unfold Rep at h ⊢;obtain⟨a,vs,R',e,h1,h2,h3,h5⟩:=h;exact⟨a,vs,R',e,h1.held (fun z q=>n a ((h5 a).mpr (.inl ⟨z,rfl⟩)) q) s ok,AA.held s ok h2 fun b q z=>n b ((h5 b).mpr (.inr q)) z,h3,h5⟩
 | o,.xp ks ds,v,R,h,d=>by
  unfold Rep at h ⊢;obtain⟨a,vs,e,h1,h2,h3,⟨h5,R',h6⟩,h4⟩:=h;have hn:¬P a:=fun z=>by
   by_cases q:o=0
   ·exact(ok a z).2 (h2 q)
   ·exact d a ((h4 a).mpr ⟨q,rfl⟩) z
  refine⟨a,vs,e,s.keep _ _ h1 hn,fun q=>s.zm _ (h2 q),fun q z=>?_,⟨h5,R',AA.held s ok h6 fun b q z=>(AA.xE h6 b q).elim⟩,h4⟩;rcases s.zn _ z with z | z | z
  ·exact h3 q z
  ·exact hn z
  ·rw[h1] at z;cases z
 | _,.ref k,v,R,h,_=>by
  unfold Rep at h ⊢;obtain⟨⟨a,h1,h2⟩,h3⟩:=h;obtain⟨r,e⟩:=s.mu;refine⟨⟨a,?_,h2⟩,h3⟩;rw[e,K5 (B5.mp h1).1];exact h1
 | _,.xV ns,v,R,h,_=>by
  unfold Rep at h ⊢;obtain⟨⟨a,h1,h2⟩,h3⟩:=h;refine⟨⟨a,h1,?_⟩,h3⟩;rcases h2 with⟨o,h2⟩ | h2
  ·exact .inl ⟨o,s.keep _ _ h2 fun z=>by have:=(ok a z).1;rw[h2] at this;exact this⟩
  ·exact .inr h2
theorem AA.held{P P':Fp}(s:Step g P H g' P' H')(ok:wc g H P):∀{o:Nat} {ds:List Dv} {vs:List V} {R:Fp},AA K g H o ds vs R->Bt R P->AA K g' H' o ds vs R
 | _,[],vs,R,h,_=>by unfold AA at h ⊢;exact h
 | o,d::ds,vs,R,h,n=>by
  unfold AA at h ⊢;obtain⟨v,r,P1,P2,e,h1,h2,h3,h4⟩:=h;exact⟨v,r,P1,P2,e,Rep.held s ok h1 fun a q z=>n a ((h4 a).mpr (.inl q)) z,AA.held s ok h2 fun a q z=>n a ((h4 a).mpr (.inr q)) z,h3,h4⟩
end
mutual
theorem Rep.wb:∀{o:Nat} {d:Dv} {v:V} {R:Fp},Rep K g H o d v R->wc g H R
 | _,.we,v,R,h,a,q | _,.bl _,v,R,h,a,q | _,.int _,v,R,h,a,q | _,.str _,v,R,h,a,q | _,.ty _,v,R,h,a,q | _,.mtp _,v,R,h,a,q | _,.ref _,v,R,h,a,q | _,.xV _,v,R,h,a,q=>by unfold Rep at h;exact(h.2 a q).elim
 | o,.dtt ks ds,v,R,h,a,q=>by
  unfold Rep at h;obtain⟨b,vs,e,h1,h2,h3,h5,h4⟩:=h;obtain⟨ho,rfl⟩:=(h4 a).mp q;exact⟨by rw[h1];trivial,h3 ho⟩
 | o,.dnt ks ds,v,R,h,a,q=>by
  unfold Rep at h;obtain⟨b,vs,e,h1,h2,h3,h5,h4⟩:=h;obtain⟨ho,rfl⟩:=(h4 a).mp q;exact⟨by rw[h1];trivial,h3 ho⟩
 | o,.obj c fl nm ds,v,R,h,a,q=>by
  unfold Rep at h;obtain⟨b,dx,vs,R',e,h1,h2,h3,hl,h6,h7,h4⟩:=h;rcases(h4 a).mp q with⟨z,rfl⟩ | z
  ·exact⟨by rw[h1];trivial,h3 z⟩
  ·exact AA.wb h6 a z
 | o,.tup ds,v,R,h,a,q=>by
  unfold Rep at h;obtain⟨_,vs,e,h1,h2⟩:=h;exact AA.wb h2 a q
 | o,.lst ds,v,R,h,a,q=>by
  unfold Rep at h;obtain⟨b,vs,R',e,h1,h2,h3,h5⟩:=h;rcases(h5 a).mp q with⟨z,rfl⟩ | z
  ·exact⟨by rw[h1.1];trivial,h1.2.2 z⟩
  ·exact AA.wb h2 a z
 | o,.xp ks ds,v,R,h,a,q=>by
  unfold Rep at h;obtain⟨b,vs,e,h1,h2,h3,h5,h4⟩:=h;obtain⟨ho,rfl⟩:=(h4 a).mp q;exact⟨by rw[h1];trivial,h3 ho⟩
theorem AA.wb:∀{o:Nat} {ds:List Dv} {vs:List V} {R:Fp},AA K g H o ds vs R->wc g H R
 | _,[],vs,R,h,a,q=>by unfold AA at h;exact(h.2 a q).elim
 | o,d::ds,vs,R,h,a,q=>by
  unfold AA at h;obtain⟨v,r,P1,P2,e,h1,h2,h3,h4⟩:=h;rcases(h4 a).mp q with z | z
  ·exact Rep.wb h1 a z
  ·exact AA.wb h2 a z
end
theorem AA.iff{o:Nat}{d:List Dv}{v:List V}{P Q:Fp}(h:AA K g H o d v P)(e:∀a,Q a↔P a):AA K g H o d v Q:=by
 have:Q=P:=funext fun a=>propext (e a)
 rw[this];exact h
theorem Rep.z{d:Dv}{v:V}{R:Fp}(h:Rep K g H 0 d v R):Rep K g H 0 d v wX:=by rw[<- Eu h.xE];exact h
theorem AA.z{d:List Dv}{v:List V}{R:Fp}(h:AA K g H 0 d v R):AA K g H 0 d v wX:=by rw[<- Eu h.xE];exact h
def G.add(g:G)(P:Fp):G:={ g with Z:=fun a=>g.Z a\/P a }
mutual
theorem Rep.freeze{P:Fp}:∀{o:Nat} {d:Dv} {v:V} {R:Fp},Rep K g H o d v R->(∀a,R a->P a)->Rep K (g.add P) H 0 d v wX
 | _,.we,v,R,h,_ | _,.bl _,v,R,h,_ | _,.int _,v,R,h,_ | _,.str _,v,R,h,_ | _,.ty _,v,R,h,_ | _,.mtp _,v,R,h,_ | _,.ref _,v,R,h,_ | _,.xV _,v,R,h,_=>by unfold Rep at h ⊢;exact⟨h.1,fun _ z=>z⟩
 | o,.dtt ks ds,v,R,h,s=>by
  unfold Rep at h ⊢;obtain⟨a,vs,e,h1,h2,h3,⟨h5,R',h6⟩,h4⟩:=h;refine⟨a,vs,e,h1,fun _=>?_,fun z=>(z rfl).elim,⟨h5,wX,AA.freeze h6 fun b q=>(AA.xE h6 b q).elim⟩,fun b=>⟨fun z=>z.elim,fun z=>(z.1 rfl).elim⟩⟩
  by_cases q:o=0
  ·exact .inl (h2 q)
  ·exact .inr (s a ((h4 a).mpr ⟨q,rfl⟩))
 | o,.dnt ks ds,v,R,h,s=>by
  unfold Rep at h ⊢;obtain⟨a,vs,e,h1,h2,h3,⟨h5,R',h6⟩,h4⟩:=h;refine⟨a,vs,e,h1,fun _=>?_,fun z=>(z rfl).elim,⟨h5,wX,AA.freeze h6 fun b q=>(AA.xE h6 b q).elim⟩,fun b=>⟨fun z=>z.elim,fun z=>(z.1 rfl).elim⟩⟩
  by_cases q:o=0
  ·exact .inl (h2 q)
  ·exact .inr (s a ((h4 a).mpr ⟨q,rfl⟩))
 | o,.obj c fl nm ds,v,R,h,s=>by
  unfold Rep at h ⊢;obtain⟨a,dx,vs,R',e,h1,h2,h3,hl,h6,h7,h4⟩:=h;refine⟨a,dx,vs,wX,e,h1,fun _=>?_,fun z=>(z rfl).elim,hl,AA.freeze h6 (fun b q=>s b ((h4 b).mpr (.inr q))),fun z=>z,fun b=>⟨fun z=>z.elim,fun z=>z.elim (fun q=>(q.1 rfl).elim) id⟩⟩
  by_cases q:o=0
  ·exact .inl (h2 q)
  ·exact .inr (s a ((h4 a).mpr (.inl ⟨q,rfl⟩)))
 | o,.tup ds,v,R,h,s=>by
  unfold Rep at h ⊢;obtain⟨a,vs,e,h1,h2⟩:=h;exact⟨a,vs,e,h1,AA.freeze h2 s⟩
 | o,.lst ds,v,R,h,s=>by
  unfold Rep at h ⊢;obtain⟨a,vs,R',e,h1,h2,h3,h5⟩:=h;refine⟨a,vs,wX,e,⟨h1.1,fun _=>?_,fun z=>(z rfl).elim⟩,AA.freeze h2 (fun b q=>s b ((h5 b).mpr (.inr q))),fun z=>z,fun b=>⟨fun z=>z.elim,fun z=>z.elim (fun q=>(q.1 rfl).elim) id⟩⟩
  by_cases q:o=0
  ·exact .inl (h1.2.1 q)
  ·exact .inr (s a ((h5 a).mpr (.inl ⟨q,rfl⟩)))
 | o,.xp ks ds,v,R,h,s=>by
  unfold Rep at h ⊢;obtain⟨a,vs,e,h1,h2,h3,⟨h5,R',h6⟩,h4⟩:=h;refine⟨a,vs,e,h1,fun _=>?_,fun z=>(z rfl).elim,⟨h5,wX,AA.freeze h6 fun b q=>(AA.xE h6 b q).elim⟩,fun b=>⟨fun z=>z.elim,fun z=>(z.1 rfl).elim⟩⟩
  by_cases q:o=0
  ·exact .inl (h2 q)
  ·exact .inr (s a ((h4 a).mpr ⟨q,rfl⟩))
theorem AA.freeze{P:Fp}:∀{o:Nat} {ds:List Dv} {vs:List V} {R:Fp},AA K g H o ds vs R->(∀a,R a->P a)->AA K (g.add P) H 0 ds vs wX
 | _,[],vs,R,h,_=>by unfold AA at h ⊢;exact⟨h.1,fun _ z=>z⟩
 | o,d::ds,vs,R,h,s=>by
  unfold AA at h ⊢;obtain⟨v,r,P1,P2,e,h1,h2,h3,h4⟩:=h;exact⟨v,r,wX,wX,e,Rep.freeze h1 (fun a q=>s a ((h4 a).mpr (.inl q))),AA.freeze h2 (fun a q=>s a ((h4 a).mpr (.inr q))),fun _ z=>z.elim,fun a=>⟨fun z=>z.elim,fun z=>z.elim id id⟩⟩
end
theorem Step.freeze{P:Fp}(ok:wc g H P):Step g P H (g.add P) wX H:=
 ⟨fun _ _ h _=>h,fun _ h=>h,fun _ h=>.inl h,fun a h=>h.elim .inl fun q=>.inr (.inl q),⟨[],by show g.μ=_;simp⟩,fun _ h=>h.elim,fun z a h q=>h.elim (fun h=>z a h q) fun h=>by have:=(ok a h).1;rw[q] at this;exact this,fun _ _ _ fs h=>⟨fs,h,fun _ _ z=>z⟩⟩
theorem AA.nil{o:Nat}:AA K g H o [] [] wX:=by unfold AA;exact⟨rfl,fun _ z=>z⟩
theorem AA.cons{o:Nat}{d:Dv}{v:V}{ds:List Dv}{vs:List V}{P1 P2:Fp}(h1:Rep K g H o d v P1)(h2:AA K g H o ds vs P2)(n:Bt P1 P2):AA K g H o (d::ds) (v::vs) fun a=>P1 a\/P2 a:=by
 unfold AA;exact⟨v,vs,P1,P2,rfl,h1,h2,n,fun _=>m8⟩
theorem AA.len:∀{o:Nat} {ds:List Dv} {vs:List V} {R:Fp},AA K g H o ds vs R->ds.length=vs.length
 | _,[],vs,R,h=>by unfold AA at h;rw[h.1];rfl
 | _,d::ds,vs,R,h=>by
  unfold AA at h;obtain⟨v,r,P1,P2,rfl,h1,h2,_⟩:=h;simp[h2.len]
theorem AA.get:∀{o:Nat} {ds:List Dv} {vs:List V} {R:Fp} {i:Nat} {d:Dv},AA K g H o ds vs R->ds[i]?=some d->∃v P,vs[i]?=some v/\Rep K g H o d v P/\∀a,P a->R a
 | _,[],_,_,_,_,_,e=>by simp at e
 | _,d::ds,vs,R,i,d',h,e=>by
  unfold AA at h;obtain⟨v,r,P1,P2,rfl,h1,h2,_,h4⟩:=h;cases i with
  | zero=>simp at e;subst e;exact⟨v,P1,rfl,h1,fun a q=>(h4 a).mpr (.inl q)⟩
  | succ i =>
   obtain⟨v',P,e',h',s⟩:=h2.get (i:=i) (by simpa using e);exact⟨v',P,by simpa using e',h',fun a q=>(h4 a).mpr (.inr (s a q))⟩
theorem AA.app:∀{o:Nat} {ds es:List Dv} {vs us:List V} {P Q:Fp},AA K g H o ds vs P->AA K g H o es us Q->Bt P Q->AA K g H o (ds++es) (vs++us) fun a=>P a\/Q a
 | _,[],es,vs,us,P,Q,h,k,_=>by
  unfold AA at h;obtain⟨rfl,n⟩:=h;exact k.iff fun a=>⟨fun z=>z.elim (fun q=>(n a q).elim) id,.inr⟩
 | _,d::ds,es,vs,us,P,Q,h,k,n=>by
  unfold AA at h;obtain⟨v,r,P1,P2,rfl,h1,h2,h3,h4⟩:=h;have t:=AA.app h2 k fun a q z=>n a ((h4 a).mpr (.inr q)) z
  refine(AA.cons h1 t fun a q z=>z.elim (fun z=>h3 a q z) fun z=>n a ((h4 a).mpr (.inl q)) z).iff fun a=>?_
  rw[h4 a,or_assoc]
end
noncomputable abbrev M:=List Dv
noncomputable abbrev Gm:=List (Option Nat)
noncomputable def M.at(m:M)(i:Nat):Dv:=m.getD i .we
structure zEB (K:W.Frag) (g:G) (H:Hp) (Γ:Gm) (ρ:List Dv) (σ:St) (F:Nat->Fp):Prop where
 l1:ρ.length=Γ.length
 l2:σ.length=Γ.length
 rep:∀i o,Γ[i]?=some (some o)->∃d v,ρ[i]?=some d/\σ[i]?=some (some v)/\Rep K g H o d v (F i)
 out:∀i,(∀o,Γ[i]?≠some (some o))->∀a,¬F i a
 dj:∀i j,i≠j->Bt (F i) (F j)
def Rel(K:W.Frag)(g:G)(H:Hp)(Γ:Gm)(m:M)(σ:St)(P:Fp):Prop:=Zd g H/\∃F,zEB K g H Γ m σ F/\∀a,P a↔∃i,F i a
theorem Ei{α:Type}{l:List α}{i j:Nat}{x y:α}(h:(l.set i x)[j]?=some y):(i=j/\y=x)\/(i≠j/\l[j]?=some y):=by
 by_cases e:i=j
 ·subst e;refine .inl ⟨rfl,?_⟩;rw[uI] at h;simp only[if_true] at h;split at h
  ·exact(D5 h).symm
  ·cases h
 ·rw[E3 e] at h;exact .inr ⟨e,h⟩
theorem LL{m:M}{i:Nat}{d:Dv}(h:m[i]?=some d):m.at i=d:=by unfold M.at;rw[B7,h];rfl
section
variable {K:W.Frag} {g g':G} {H H':Hp} {Γ:Gm} {m:M} {σ:St} {P:Fp}
theorem Rel.zd(h:Rel K g H Γ m σ P):Zd g H:=h.1
theorem Rel.len(h:Rel K g H Γ m σ P):m.length=Γ.length/\σ.length=Γ.length:=let ⟨_,_,h1,_⟩:=h;⟨h1.l1,h1.l2⟩
theorem Rel.wb(h:Rel K g H Γ m σ P):wc g H P:=by
 obtain⟨_,F,h1,h4⟩:=h;intro a q;obtain⟨i,z⟩:=(h4 a).mp q
 by_cases e:∃o,Γ[i]?=some (some o)
 ·obtain⟨o,e⟩:=e;obtain⟨d,v,_,_,r⟩:=h1.rep i o e;exact r.wb a z
 ·exact(h1.out i (fun o z=>e ⟨o,z⟩) a z).elim
theorem Rel.held{P' R:Fp}(s:Step g P H g' P' H')(ok:wc g H P)(h:Rel K g H Γ m σ R)(n:Bt R P):Rel K g' H' Γ m σ R:=by
 obtain⟨zd,F,h1,h4⟩:=h;refine⟨s.zd zd,F,⟨h1.l1,h1.l2,fun i o e=>?_,h1.out,h1.dj⟩,h4⟩;obtain⟨d,v,e1,e2,r⟩:=h1.rep i o e;exact⟨d,v,e1,e2,r.held s ok fun a q z=>n a ((h4 a).mpr ⟨i,q⟩) z⟩
theorem Rel.same(h:Rel K g H Γ m σ P)(s:MV H H'):Rel K g H' Γ m σ P:=h.held (Step.same (P:=wX) s) wc.wX fun _ _ z=>z
theorem Rel.zP{i o:Nat}(h:Rel K g H Γ m σ P)(e:Γ[i]?=some (some o)):∃v P1,σ[i]?=some (some v)/\Rep K g H o (m.at i) v P1/\∀a,P1 a->P a:=by
 obtain⟨_,F,h1,h4⟩:=h;obtain⟨d,v,e1,e2,r⟩:=h1.rep i o e;exact⟨v,F i,e2,by rw[LL e1];exact r,fun a q=>(h4 a).mpr ⟨i,q⟩⟩
theorem Rel.agree{m2:M}(h:Rel K g H Γ m σ P)(hl:m2.length=m.length)(ha:∀i o,Γ[i]?=some (some o)->m2.at i=m.at i):Rel K g H Γ m2 σ P:=by
 obtain⟨zd,F,h1,h4⟩:=h;refine⟨zd,F,⟨hl.trans h1.l1,h1.l2,fun i o e=>?_,h1.out,h1.dj⟩,h4⟩;obtain⟨d,v,e1,e2,r⟩:=h1.rep i o e;have hi:i < m2.length:=by rw[hl];exact(B5.mp e1).1
 refine⟨d,v,?_,e2,r⟩;have:=ha i o e;unfold M.at at this;rw[B7,B7,e1,A4 hi] at this;rw[A4 hi];exact congrArg some this
theorem Rel.drop(i:Nat)(d:Dv)(x:Option V)(h:Rel K g H Γ m σ P):∃P2,Rel K g H (Γ.set i none) (m.set i d) (σ.set i x) P2/\∀a,P2 a->P a:=by
 obtain⟨zd,F,h1,h4⟩:=h;refine⟨fun a=>∃j,j≠i/\F j a,⟨zd,fun j a=>j≠i/\F j a,⟨by rw[E1,E1,h1.l1],by rw[E1,E1,h1.l2],fun j o e=>?_,fun j e a q=>?_,fun j k n a q z=>h1.dj j k n a q.2 z.2⟩,fun _=>m8⟩,fun a ⟨j,_,q⟩=>(h4 a).mpr ⟨j,q⟩⟩
 ·rcases Ei e with⟨_,z⟩ | ⟨n,e⟩
  ·cases z
  ·obtain⟨d',v,e1,e2,r⟩:=h1.rep j o e;have eq:(fun a=>j≠i/\F j a)=F j:=funext fun a=>propext ⟨fun z=>z.2,fun z=>⟨fun q=>n q.symm,z⟩⟩
   exact⟨d',v,by rw[E3 n];exact e1,by rw[E3 n];exact e2,by show Rep K g H o d' v (fun a=>j≠i/\F j a);rw[eq];exact r⟩
 ·refine h1.out j (fun o z=>e o ?_) a q.2;rw[E3 fun z=>q.1 z.symm];exact z
theorem Rel.fill{i o:Nat}{d:Dv}{v:V}{P1:Fp}(h:Rel K g H Γ m σ P)(e:Γ[i]?=some none)(hd:m[i]?=some d)(hv:σ[i]?=some (some v))(r:Rep K g H o d v P1)(n:Bt P1 P):Rel K g H (Γ.set i (some o)) m σ fun a=>P1 a\/P a:=by
 obtain⟨zd,F,h1,h4⟩:=h;have fi:∀a,¬F i a:=h1.out i fun o z=>by rw[e] at z;cases z
 have hi:i < Γ.length:=(B5.mp e).1;refine⟨zd,fun j a=>if j=i then P1 a else F j a,⟨by rw[E1];exact h1.l1,by rw[E1];exact h1.l2,fun j o' e'=>?_,fun j e' a q=>?_,fun j k nn a q z=>?_⟩,fun a=>?_⟩
 ·rcases Ei e' with⟨rfl,z⟩ | ⟨nn,e'⟩
  ·cases z;have eq:(fun a=>if i=i then P1 a else F i a)=P1:=funext fun a=>by rw[if_pos rfl]
   exact⟨d,v,hd,hv,by show Rep K g H o d v fun a=>if i=i then P1 a else F i a;rw[eq];exact r⟩
  ·obtain⟨d',v',e1,e2,r'⟩:=h1.rep j o' e';have eq:(fun a=>if j=i then P1 a else F j a)=F j:=funext fun a=>by rw[if_neg fun z=>nn z.symm]
   exact⟨d',v',e1,e2,by show Rep K g H o' d' v' fun a=>if j=i then P1 a else F j a;rw[eq];exact r'⟩
 ·by_cases z:j=i
  ·subst z;exact e' o (F9 hi)
  ·simp only[if_neg z] at q;exact h1.out j (fun o' z'=>e' o' (by rw[E3 fun w=>z w.symm];exact z')) a q
 ·by_cases zj:j=i
  ·by_cases zk:k=i
   ·exact nn (zj.trans zk.symm)
   ·simp only[if_pos zj,if_neg zk] at q z;exact n a q ((h4 a).mpr ⟨k,z⟩)
  ·by_cases zk:k=i
   ·simp only[if_neg zj,if_pos zk] at q z;exact n a z ((h4 a).mpr ⟨j,q⟩)
   ·simp only[if_neg zj,if_neg zk] at q z;exact h1.dj j k nn a q z
 ·show P1 a\/P a↔_;rw[h4 a];refine⟨fun z=>?_,fun⟨j,z⟩=>?_⟩
  ·rcases z with z | ⟨j,z⟩
   ·exact⟨i,by simp only[if_true];exact z⟩
   ·have:j≠i:=fun w=>fi a (w▸z)
    exact⟨j,by simp only[if_neg this];exact z⟩
  ·by_cases zj:j=i
   ·simp only[if_pos zj] at z;exact .inl z
   ·simp only[if_neg zj] at z;exact .inr ⟨j,z⟩
theorem EH{α:Type}{l:List α}{i:Nat}{x:α}(h:l[i]?=some x):l.set i x=l:=by
 apply qh;intro j
 by_cases e:i=j
 ·subst e;rw[F9 (B5.mp h).1,h]
 ·rw[E3 e]
theorem Rel.take{i o:Nat}(h:Rel K g H Γ m σ P)(e:Γ[i]?=some (some o)):∃v P1 P2,σ[i]?=some (some v)/\m[i]?=some (m.at i)/\Rep K g H o (m.at i) v P1/\Rel K g H (Γ.set i none) m σ P2/\Bt P1 P2/\∀a,P a↔P1 a\/P2 a:=by
 obtain⟨zd,F,h1,h4⟩:=h;obtain⟨d,v,e1,e2,r⟩:=h1.rep i o e;refine⟨v,F i,fun a=>∃j,j≠i/\F j a,e2,by rw[LL e1];exact e1,by rw[LL e1];exact r,⟨zd,fun j a=>j≠i/\F j a,⟨by rw[E1];exact h1.l1,by rw[E1];exact h1.l2,fun j o' e'=>?_,fun j e' a q=>?_,fun j k n a q z=>h1.dj j k n a q.2 z.2⟩,fun _=>m8⟩,fun a q ⟨j,n,z⟩=>h1.dj i j (fun w=>n w.symm) a q z,fun a=>?_⟩
 ·rcases Ei e' with⟨_,z⟩ | ⟨n,e'⟩
  ·cases z
  ·obtain⟨d',v',e3,e4,r'⟩:=h1.rep j o' e';have eq:(fun a=>j≠i/\F j a)=F j:=funext fun a=>propext ⟨fun z=>z.2,fun z=>⟨fun q=>n q.symm,z⟩⟩
   exact⟨d',v',e3,e4,by show Rep K g H o' d' v' (fun a=>j≠i/\F j a);rw[eq];exact r'⟩
 ·exact h1.out j (fun o' z=>e' o' (by rw[E3 fun w=>q.1 w.symm];exact z)) a q.2
 ·rw[h4 a];refine⟨fun⟨j,z⟩=>?_,fun z=>?_⟩
  ·by_cases zj:j=i
   ·exact .inl (zj▸z)
   ·exact .inr ⟨j,zj,z⟩
  ·rcases z with z | ⟨j,_,z⟩
   ·exact⟨i,z⟩
   ·exact⟨j,z⟩
theorem EG{α:Type}(l:List α)(i:Nat)(x y:α):(l.set i x).set i y=l.set i y:=List.set_set ..
theorem Rel.yI{Pv:Fp}{i o:Nat}{d:Dv}{v:V}(h:Rel K g H Γ m σ P)(hi:i < Γ.length)(hv:Rep K g H o d v Pv)(n:Bt Pv P) :
    ∃P2,Rel K g H (Γ.set i (some o)) (m.set i d) (σ.set i (some v)) P2/\∀a,P2 a->P a\/Pv a:=by
  obtain⟨P2,h2,s⟩:=h.drop i d (some v);have l:=h.len;have:=h2.fill (i:=i) (F9 hi) (F9 (by omega)) (F9 (by omega)) hv fun a q z=>n a q (s a z)
  rw[EG] at this;exact⟨_,this,fun a q=>q.elim .inr fun q=>.inl (s a q)⟩
theorem Rel.putIn{P1:Fp}{i o:Nat}{d:Dv}{v:V}(h:Rel K g H (Γ.set i none) m σ P)(hi:i < Γ.length)(hv:σ[i]?=some (some v))(r:Rep K g H o d v P1)(n:Bt P1 P):∃P2,Rel K g H (Γ.set i (some o)) (m.set i d) σ P2/\∀a,P2 a->P1 a\/P a:=by
 obtain⟨P2,h2,s⟩:=h.drop i d (some v);rw[EH hv] at h2;have l:=h.len;rw[E1] at l;have h3:=h2.fill (i:=i) (by rw[EG];exact F9 hi) (F9 (by omega)) hv r fun a q z=>n a q (s a z)
 rw[EG,EG] at h3;exact⟨_,h3,fun a q=>q.elim .inl fun q=>.inr (s a q)⟩
theorem Rel.freeze{i o:Nat}(h:Rel K g H Γ m σ P)(e:Γ[i]?=some (some o)):∃g' P' v,Step g P H g' P' H/\Rel K g' H (Γ.set i (some 0)) m σ P'/\σ[i]?=some (some v)/\Rep K g' H 0 (m.at i) v wX:=by
 obtain⟨v,P1,P2,ev,ed,r,r2,n,hP⟩:=h.take e;have st:Step g P1 H (g.add P1) wX H:=Step.freeze r.wb;have fr:Rep K (g.add P1) H 0 (m.at i) v wX:=r.freeze fun _ q=>q
 have r3:=r2.held st r.wb fun a q z=>n a z q
 have hi:i < Γ.length:=(B5.mp e).1;have r4:=r3.fill (i:=i) (F9 hi) ed ev fr fun _ z=>z.elim
 rw[EG] at r4;refine⟨_,_,v,?_,r4,ev,fr⟩;exact(st.frame (R:=P2)).sub (fun a q=>(hP a).mpr q) fun a q=>q.elim (fun z=>z.elim) .inr
def CW:Gm->Gm->Bool
 | [],[]=>true
 | none::a,_::b=>CW a b
 | some o::a,some o'::b=>(o == 0 || o == o') && CW a b
 | _,_=>false
theorem Ey:∀{a b:Gm},CW a b=true->a.length=b.length
 | [],[],_=>rfl
 | none::a,_::b,h=>by unfold CW at h;simp[Ey h]
 | some o::a,some o'::b,h=>by unfold CW at h;simp[Ey (W6.mp h).2]
 | [],_::_,h=>by cases h
 | some _::_,none::_,h=>by cases h
 | some _::_,[],h=>by cases h
 | none::_,[],h=>by cases h
theorem Fu:∀{a b:Gm} {i o:Nat},CW a b=true->a[i]?=some (some o)->∃o',b[i]?=some (some o')/\(o=0\/o=o')
 | [],_,i,o,_,e=>by simp at e
 | none::a,x::b,i,o,h,e=>by
  unfold CW at h;cases i with
  | zero=>simp at e
  | succ i=>obtain⟨o',e',z⟩:=Fu (i:=i) h (by simpa using e);exact⟨o',by simpa using e',z⟩
 | some p::a,some p'::b,i,o,h,e=>by
  unfold CW at h;rw[A3] at h;cases i with
  | zero =>
   simp at e;subst e;refine⟨p',rfl,?_⟩;have:=h.1;rw[rY,beq_iff_eq,beq_iff_eq] at this;exact this
  | succ i=>obtain⟨o',e',z⟩:=Fu (i:=i) h.2 (by simpa using e);exact⟨o',by simpa using e',z⟩
 | some _::_,none::_,_,_,h,_=>by cases h
 | some _::_,[],_,_,h,_=>by cases h
 | none::_,[],_,_,h,_=>by cases h
theorem Rel.weaken{Γ':Gm}(h:Rel K g H Γ m σ P)(e:CW Γ' Γ=true):∃g' P',Step g P H g' P' H/\Rel K g' H Γ' m σ P':=by
 have ok:=h.wb;obtain⟨zd,F,h1,h4⟩:=h
 let D:Fp:=fun a=>∃i,Γ'[i]?=some (some 0)/\F i a
 have okD:wc g H D:=fun a ⟨i,_,q⟩=>ok a ((h4 a).mpr ⟨i,q⟩)
 have st:Step g D H (g.add D) wX H:=Step.freeze okD
 let F':Nat->Fp:=fun i a=>(∃o,Γ'[i]?=some (some (o+1)))/\F i a
 refine⟨g.add D,fun a=>∃i,F' i a,?_,st.zd zd,F',⟨by rw[Ey e];exact h1.l1,by rw[Ey e];exact h1.l2,fun i o ei=>?_,fun i ei a q=>?_,fun i j n a q z=>h1.dj i j n a q.2 z.2⟩,fun _=>m8⟩
 ·refine(st.frame (R:=fun a=>∃i,F' i a)).sub (fun a q=>?_) fun a q=>.inr q
  rcases q with⟨i,_,q⟩ | ⟨i,q⟩
  ·exact(h4 a).mpr ⟨i,q⟩
  ·exact(h4 a).mpr ⟨i,q.2⟩
 ·obtain⟨o',eo,z⟩:=Fu e ei;obtain⟨d,v,e1,e2,r⟩:=h1.rep i o' eo;refine⟨d,v,e1,e2,?_⟩;cases o with
  | zero =>
   have eq:F' i=wX:=Eu fun a ⟨⟨o,w⟩,_⟩=>by rw[ei] at w;cases w
   rw[eq];exact r.freeze fun a q=>⟨i,ei,q⟩
  | succ o =>
   have eq:F' i=F i:=funext fun a=>propext ⟨fun w=>w.2,fun w=>⟨⟨o,ei⟩,w⟩⟩
   rcases z with z | z
   ·cases z
   ·subst z;rw[eq];refine r.held st okD fun a q ⟨j,ej,z⟩=>?_
    by_cases w:i=j
    ·subst w;rw[ei] at ej;cases ej
    ·exact h1.dj i j w a q z
 ·obtain⟨⟨o,w⟩,_⟩:=q;exact ei _ w
end
theorem PE.imp{X:Cx}{e:Expr}{t t':TE}(h:PE X e t)(k:∀σ H Q,t' σ H Q->t σ H Q):PE X e t':=fun pins s σ H Q I q=>h pins s σ H Q I (k σ H Q q)
theorem PT.imp{X:Cx}{e:Expr}{t t':TT}(h:PT X e t)(k:∀σ H Q,t' σ H Q->t σ H Q):PT X e t':=fun pins s σ H Q I q=>h pins s σ H Q I (k σ H Q q)
theorem PW.imp{X:Cx}{e:Expr}{t t':TT}(h:PW X e t)(k:∀σ H Q,t' σ H Q->t σ H Q):PW X e t':=fun wh pins s σ H Q I q=>h wh pins s σ H Q I (k σ H Q q)
theorem PS.imp{X:Cx}{e:N2}{t t':TS}(h:PS X e t)(k:∀D σ H,t' D σ H->t D σ H):PS X e t':=fun pins s σ H D I q=>h pins s σ H D I (k D σ H q)
theorem Ee.imp{X:Cx}{e:List N2}{t t':TS}(h:Ee X e t)(k:∀D σ H,t' D σ H->t D σ H):Ee X e t':=fun pins s σ H D I q=>h pins s σ H D I (k D σ H q)
noncomputable abbrev Ev(α:Type):=(R:Type)->M->(α->M->Option R)->Option R
def Bw(js:List Nat)(m m':M):Prop:=m'.length=m.length/\∀i,i∉js->m'.at i=m.at i
theorem Bw.refl{js:List Nat}{m:M}:Bw js m m:=⟨rfl,fun _ _=>rfl⟩
theorem Bw.trans{js ks:List Nat}{m m1 m2:M}(a:Bw js m m1)(b:Bw ks m1 m2):Bw (js++ks) m m2:=⟨b.1.trans a.1,fun i h=>(b.2 i fun z=>h (B8 _ z)).trans (a.2 i fun z=>h (D7 _ z))⟩
theorem Bw.set{m:M}{i:Nat}{d:Dv}:Bw [i] m (m.set i d):=⟨E1 ..,fun j h=>by
 have n:i≠j:=fun z=>h (by rw[z];exact N9 _)
 unfold M.at;rw[B7,B7,E3 n]⟩
theorem Bw.mono{js ks:List Nat}{m m1:M}(a:Bw js m m1)(h:∀i∈js,i∈ks):Bw ks m m1:=⟨a.1,fun i n=>a.2 i fun z=>n (h i z)⟩
def tE(K:W.Frag)(Γ:Gm)(o:Nat)(Γ':Gm)(js:List Nat)(f:Ev Dv):TE:=fun σ H Q=>∃g m P,Rel K g H Γ m σ P/\∃(R:Type) (k:Dv->M->Option R) (r:R),f R m k=some r /\
 ∀d m' g' P' Pv v H',k d m'=some r->Bw js m m'->Step g P H g' (fun a=>P' a\/Pv a) H'->Rep K g' H' o d v Pv->Rel K g' H' Γ' m' σ P'->Bt P' Pv->Q v H'
def tT(K:W.Frag)(Γ Γ':Gm)(js:List Nat)(f:Ev Bool):TT:=fun σ H Q=>∃g m P,Rel K g H Γ m σ P/\∃(R:Type) (k:Bool->M->Option R) (r:R),f R m k=some r /\
 ∀b m' g' P' H',k b m'=some r->Bw js m m'->Step g P H g' P' H'->Rel K g' H' Γ' m' σ P'->Q b H'
noncomputable def TX(f:Str):List Str->List Dv->Option Dv
 | n::ns,d::ds=>if f == n then some d else TX f ns ds
 | _,_=>none
noncomputable def Nc(f:Str)(x:Dv):List Str->List Dv->List Dv
 | n::ns,d::ds=>if f == n then x::ds else d::Nc f x ns ds
 | _,ds=>ds
def Na(d:Dv)(f:Str):Option Dv:=match d with
 | .obj _ _ nm xs=>TX f nm xs
 | _=>none
def FT(d:Dv)(f:Str)(x:Dv):Dv:=match d with
 | .obj c fl nm xs=>.obj c fl nm (Nc f x nm xs)
 | d=>d
noncomputable def gX:Dv->Bool
 | .lst _=>true
 | .xp _ _=>true
 | .dtt _ _=>true
 | .dnt _ _=>true
 | .tup _=>true
 | .obj _ _ _ _=>true
 | _=>false
def FS(d:Dv)(f:Str):Bool:=match Na d f with
 | some x=>gX x
 | none=>false
section
variable {K:W.Frag} {g:G} {H:Hp}
theorem NX{o:Nat}{d:Dv}{v:V}{P:Fp}(h:Rep K g H o d v P)(e:gX d=true):∃r,v=.ref r:=by
 cases d with
 | lst _=>unfold Rep at h;obtain⟨a,_,_,e,_⟩:=h;exact⟨a,e⟩
 | tup _=>unfold Rep at h;obtain⟨a,_,e,_⟩:=h;exact⟨a,e⟩
 | xp _ _=>unfold Rep at h;obtain⟨a,_,e,_⟩:=h;exact⟨a,e⟩
 | dtt _ _=>unfold Rep at h;obtain⟨a,_,e,_⟩:=h;exact⟨a,e⟩
 | dnt _ _=>unfold Rep at h;obtain⟨a,_,e,_⟩:=h;exact⟨a,e⟩
 | obj _ _ _ _=>unfold Rep at h;obtain⟨a,_,_,_,e,_⟩:=h;exact⟨a,e⟩
 | _=>cases e
theorem Nd{f:Str}{o:Nat}:∀{nm:List Str} {ds:List Dv} {vs:List V} {P:Fp} {d:Dv},AA K g H o ds vs P->TX f nm ds=some d ->
    ∃v P1 P2,(nm.zip vs).lookup f=some v/\Rep K g H o d v P1/\Bt P1 P2/\(∀a,P a↔P1 a\/P2 a)/\∀{g':G} {H':Hp} {y:Dv} {P1':Fp},Step g P1 H g' P1' H'->Rep K g' H' o y v P1'->AA K g' H' o (Nc f y nm ds) vs fun a=>P1' a\/P2 a
  | [],ds,vs,P,d,h,e=>by cases ds<;>cases e
  | n::nm,[],vs,P,d,h,e=>by cases e
  | n::nm,x::ds,vs,P,d,h,e=>by
    unfold AA at h;obtain⟨v,r,P1,P2,rfl,h1,h2,h3,h4⟩:=h;unfold TX at e;rw[L8,G7];cases c:f == n with
    | true =>
      rw[c] at e;simp only[if_true] at e;cases e;refine⟨v,P1,P2,rfl,h1,h3,h4,fun{g' H' y P1'} st ry=>?_⟩;unfold Nc;rw[c];simp only[if_true];have n3:=st.out h2.wb fun a q z=>h3 a z q
      exact AA.cons ry (h2.held st h1.wb fun a q z=>h3 a z q) fun a q z=>n3 a z q
    | false =>
      rw[c] at e;simp only[D6,if_false] at e;obtain⟨w,Q1,Q2,e1,e2,e3,e4,e5⟩:=Nd h2 e;refine⟨w,Q1,fun a=>P1 a\/Q2 a,e1,e2,fun a q z=>z.elim (fun z=>h3 a z ((e4 a).mpr (.inl q))) fun z=>e3 a q z,fun a=>?_,fun{g' H' y P1'} st ry=>?_⟩
      · rw[h4 a,e4 a];exact⟨fun z=>z.elim (fun z=>.inr (.inl z)) fun z=>z.elim .inl fun z=>.inr (.inr z),fun z=>z.elim (fun z=>.inr (.inl z)) fun z=>z.elim .inl fun z=>.inr (.inr z)⟩
      · unfold Nc;rw[c];simp only[D6,if_false];have d1:Bt P1 Q1:=fun a q z=>h3 a q ((e4 a).mpr (.inl z))
        have n1:=st.out h1.wb d1;refine(AA.cons (h1.held st e2.wb d1) (e5 st ry) fun a q z=>z.elim (fun z=>n1 a q z) fun z=>h3 a q ((e4 a).mpr (.inr z))).iff fun a=>?_
        exact⟨fun z=>z.elim (fun z=>.inr (.inl z)) fun z=>z.elim .inl fun z=>.inr (.inr z),fun z=>z.elim (fun z=>.inr (.inl z)) fun z=>z.elim .inl fun z=>.inr (.inr z)⟩
theorem Ft{f:Str}{o:Nat}{x d:Dv}{v:V}{P:Fp}(h:Rep K g H o x v P)(hf:Na x f=some d):∃a C dx fs w P1 P2,v=.ref a/\H a=some (.ins C dx fs)/\Cls K C/\Eg K C f/\fs.lookup f=some w/\Rep K g H o d w P1/\Bt P1 P2/\(∀b,P b↔P1 b\/P2 b) /\
    ∀{g':G} {H':Hp} {y:Dv} {P1':Fp},Step g P1 H g' P1' H'->Rep K g' H' o y w P1'->Rep K g' H' o (FT x f y) v fun a=>P1' a\/P2 a:=by
  cases x with
  | obj c fl nm xs =>
    have ok:=h.wb;unfold Rep at h;obtain⟨a,dx,vs,R',rfl,h1,h2,h3,⟨hc,hl,hn⟩,h6,h7,h4⟩:=h;obtain⟨w,P1,P2,e1,e2,e3,e4,e5⟩:=Nd h6 hf;have mem:f∈nm:=by
      have go:∀{nm:List Str} {xs:List Dv},TX f nm xs=some d->f∈nm:=by
        intro nm
        induction nm with
        | nil=>intro xs e;cases xs<;>cases e
        | cons n nm ih =>
          intro xs e;cases xs with
          | nil=>cases e
          | cons x xs =>
            unfold TX at e;split at e
            · rename_i z;rw[beq_iff_eq.mp z];exact B1
            · exact A9 _ (ih e)
      exact go hf
    have len:∀{nm:List Str} {xs:List Dv} {y:Dv},nm.length=xs.length->nm.length=(Nc f y nm xs).length:=by
      intro nm
      induction nm with
      | nil=>intro xs y e;cases xs<;>first | rfl | cases e
      | cons n nm ih =>
        intro xs y e;cases xs with
        | nil=>cases e
        | cons x xs =>
          unfold Nc;split
          · exact e
          · simp[ih (y:=y) (by simpa using e)]
    refine⟨a,_,dx,_,w,P1,fun b=>(o≠0/\b=a)\/P2 b,rfl,h1,hc.1,hc.2 f (hn f mem),e1,e2,fun b q z=>z.elim (fun z=>h7 ((e4 a).mpr (.inl (z.2▸q)))) fun z=>e3 b q z,fun b=>?_,fun{g' H' y P1'} st ry=>?_⟩
    · rw[h4 b,e4 b];exact⟨fun z=>z.elim (fun z=>.inr (.inl z)) fun z=>z.elim .inl fun z=>.inr (.inr z),fun z=>z.elim (fun z=>.inr (.inl z)) fun z=>z.elim .inl fun z=>.inr (.inr z)⟩
    · have na:¬P1 a:=fun z=>h7 ((e4 a).mpr (.inl z))
      have na':¬P1' a:=fun z=>(st.nw a z).elim na fun z=>by rw[h1] at z;cases z
      show Rep K g' H' o (.obj c fl nm (Nc f y nm xs)) _ _;unfold Rep;refine⟨a,dx,vs,_,rfl,st.keep _ _ h1 na,fun q=>st.zm _ (h2 q),fun q z=>?_,⟨hc,len hl,hn⟩,e5 st ry,fun z=>z.elim na' fun z=>h7 ((e4 a).mpr (.inr z)),fun b=>?_⟩
      · rcases st.zn _ z with z | z | z
        · exact h3 q z
        · exact na z
        · rw[h1] at z;cases z
      · exact⟨fun z=>z.elim (fun z=>.inr (.inl z)) fun z=>z.elim .inl fun z=>.inr (.inr z),fun z=>z.elim (fun z=>.inr (.inl z)) fun z=>z.elim .inl fun z=>.inr (.inr z)⟩
  | _=>cases hf
end
inductive Ar:Type 1 where
 | rf (i:Nat)
 | ev (Γ Γ':Gm) (js:List Nat) (f:Ev Dv)
 | fd (i:Nat) (f:Str)
def Oc(K:W.Frag):Ar->TE
 | .rf i=>FM i
 | .ev Γ Γ' js f=>tE K Γ 0 Γ' js f
 | .fd i f=>Yv K (FM i) f
def Bl(K:W.Frag):List Ar->TA
 | []=>SM
 | a::as=>bz (Oc K a) (Bl K as)
def AV:List Ar->Ev (List Dv)
 | [],_,m,k=>k [] m
 | .rf i::as,R,m,k=>AV as R m fun ds m1=>k (m1.at i::ds) m1
 | .ev _ _ _ f::as,R,m,k=>f R m fun d m1=>AV as R m1 fun ds m2=>k (d::ds) m2
 | .fd i f::as,R,m,k=>bif FS (m.at i) f then AV as R m fun ds m1=>(Na (m1.at i) f).bind fun d=>k (d::ds) m1 else none
def AD:Gm->List Ar->Gm->List Nat->Prop
 | Γ,[],Γ',js=>Γ'=Γ/\js=[]
 | Γ,.rf i::as,Γ',js=>(∃o,Γ[i]?=some (some o))/\(∃o,o<=1/\Γ'[i]?=some (some o))/\AD Γ as Γ' js
 | Γ,.ev wy xH js1 _::as,Γ',js=>wy=Γ/\∃js2,js=js1++js2/\AD xH as Γ' js2
 | Γ,.fd i _::as,Γ',js=>(∃o,Γ[i]?=some (some o))/\(∃o,o<=1/\Γ'[i]?=some (some o))/\AD Γ as Γ' js
def Aq(K:W.Frag)(g:G)(H:Hp)(Γ:Gm)(m:M)(σ:St):List Ar->List Dv->List V->Prop
 | [],ds,vs=>ds=[]/\vs=[]
 | .rf i::as,ds,vs=>∃v zI yi,ds=m.at i::zI/\vs=v::yi/\σ[i]?=some (some v)/\(∃o,o<=1/\Γ[i]?=some (some o))/\Aq K g H Γ m σ as zI yi
 | .ev _ _ _ _::as,ds,vs=>∃d v zI yi,ds=d::zI/\vs=v::yi/\Rep K g H 0 d v wX/\Aq K g H Γ m σ as zI yi
 | .fd i f::as,ds,vs=>∃d v zI yi,ds=d::zI/\vs=v::yi/\(Na (m.at i) f=some d/\∃a C dx fs,σ[i]?=some (some (.ref a))/\H a=some (.ins C dx fs)/\fs.lookup f=some v)/\(∃o,o<=1/\Γ[i]?=some (some o))/\Aq K g H Γ m σ as zI yi
theorem AN{K:W.Frag}{σ:St}:∀(as:List Ar) {g:G} {Γ Γ':Gm} {js:List Nat} {m:M} {P:Fp} {H:Hp} {R:Type} {k:List Dv->M->Option R} {r:R} {Q:List V->Hp->Prop},Rel K g H Γ m σ P->AD Γ as Γ' js->AV as R m k=some r ->
    (∀ds m' g' P' vs H',k ds m'=some r->Bw js m m'->Step g P H g' P' H'->Aq K g' H' Γ' m' σ as ds vs->Rel K g' H' Γ' m' σ P'->Q vs H')->Bl K as σ H Q
  | [],g,Γ,Γ',js,m,P,H,R,k,r,Q,rl,c,e,q=>by
    unfold AD at c;obtain⟨rfl,rfl⟩:=c;exact q [] m g P [] H e Bw.refl Step.refl (by unfold Aq;exact⟨rfl,rfl⟩) rl
  | .rf i::as,g,Γ,Γ',js,m,P,H,R,k,r,Q,rl,c,e,q=>by
    unfold AD at c;obtain⟨⟨o,ho⟩,h2,c⟩:=c;obtain⟨v,_,hv,_⟩:=rl.zP ho;refine⟨v,hv,AN as rl c e fun ds m' g' P' vs H' hk ag s ar r1=>q _ m' g' P' _ H' hk ag s ?_ r1⟩;unfold Aq;exact⟨v,ds,vs,rfl,rfl,hv,h2,ar⟩
  | .ev wy xH js1 f::as,g,Γ,Γ',js,m,P,H,R,k,r,Q,rl,c,e,q=>by
    unfold AD at c;obtain⟨rfl,js2,rfl,c⟩:=c;refine⟨g,m,P,rl,R,_,r,e,fun d m1 g1 P1 Pv v H1 hk ag s rv r1 n=>?_⟩;refine AN as r1 c hk fun ds m2 g2 P2 vs H2 xt zA s2 ar r2=>q _ m2 g2 P2 _ H2 xt (ag.trans zA) ((s.less fun _ q=>.inl q).trans s2) ?_ r2
    unfold Aq;exact⟨d,v,ds,vs,rfl,rfl,rv.z.held s2 r1.wb fun _ z=>z.elim,ar⟩
  | .fd i f::as,g,Γ,Γ',js,m,P,H,R,k,r,Q,rl,c,e,q=>by
    unfold AD at c;obtain⟨⟨o,ho⟩,h2,c⟩:=c;have e:(bif FS (m.at i) f then AV as R m fun ds m1=>(Na (m1.at i) f).bind fun d=>k (d::ds) m1 else none)=some r:=e;cases hr:FS (m.at i) f with
    | false=>rw[hr] at e;cases e
    | true =>
      rw[hr] at e;have e:(AV as R m fun ds m1=>(Na (m1.at i) f).bind fun d=>k (d::ds) m1)=some r:=e;unfold FS at hr;cases hd:Na (m.at i) f with
      | none=>rw[hd] at hr;cases hr
      | some d0 =>
        rw[hd] at hr;obtain⟨v0,P1,hv,rv,_⟩:=rl.zP ho;obtain⟨a,C,dx,fs,w,_,_,rfl,h1,hc,hn,hl,yn,_⟩:=Ft rv hd;obtain⟨rr,rfl⟩:=NX yn hr;refine⟨_,hv,a,C,dx,fs,_,rfl,h1,hc,hn,hl,AN as rl c e fun ds m' g' P' vs H' hk ag s ar r1=>?_⟩;obtain⟨d,e1,e2⟩:=U5.mp hk;obtain⟨fs',zy,xr⟩:=s.ins a C dx fs h1;refine q _ m' g' P' _ H' e2 ag s ?_ r1;unfold Aq;exact⟨d,_,ds,vs,rfl,rfl,⟨e1,a,C,dx,fs',hv,zy,xr f rr hl⟩,h2,ar⟩
def RA(K:W.Frag)(g:G)(H:Hp):List Dv->List V->Prop
 | [],vs=>vs=[]
 | d::ds,vs=>∃v r o P,vs=v::r/\o<=1/\Rep K g H o d v P/\RA K g H ds r
def Ae(K:W.Frag)(g:G)(H:Hp)(o:Nat)(d:Dv)(v:V)(H':Hp):Prop:=MV H H'/\∃Pv,Rep K g H' o d v Pv/\∀a,Pv a->H a=none
noncomputable abbrev Pr:=List Dv->Option Dv
abbrev SA:=List V->Hp->VK->Prop
def AJ(K:W.Frag)(p:Pr)(o:Nat)(R:SA):Prop:=∀g H ds vs d Q,Zd g H->RA K g H ds vs->p ds=some d->(∀v H',Ae K g H o d v H'->Q v H')->R vs H Q
def EX(p:Pr)(fa:Ev (List Dv)):Ev Dv:=fun R m k=>fa R m fun ds m'=>(p ds).bind fun d=>k d m'
theorem wW.{u,v}{α:Type u}{β:Type v}{x:Option α}{f:α->Option β}{b:β}(h:x.bind f=some b):∃a,x=some a/\f a=some b:=U5.mp h
section
variable {K:W.Frag} {g:G} {H H':Hp} {σ:St} {Γ Γ':Gm} {m:M} {P:Fp}
theorem Aq.ra(r:Rel K g H Γ m σ P):∀{as:List Ar} {ds:List Dv} {vs:List V},Aq K g H Γ m σ as ds vs->RA K g H ds vs
 | [],ds,vs,h=>by unfold Aq at h;obtain⟨rfl,rfl⟩:=h;unfold RA;rfl
 | .ev _ _ _ f::as,ds,vs,h=>by
  unfold Aq at h;obtain⟨d,v,zI,yi,rfl,rfl,h1,h2⟩:=h;unfold RA;exact⟨v,yi,0,wX,rfl,by decide,h1,Aq.ra r h2⟩
 | .rf i::as,ds,vs,h=>by
  unfold Aq at h;obtain⟨v,zI,yi,rfl,rfl,h1,⟨o,hl,ho⟩,h3⟩:=h;obtain⟨v',P1,e,k,_⟩:=r.zP ho;rw[h1] at e;cases e;unfold RA;exact⟨v,yi,o,P1,rfl,hl,k,Aq.ra r h3⟩
 | .fd i f::as,ds,vs,h=>by
  unfold Aq at h;obtain⟨d,v,zI,yi,rfl,rfl,⟨h1,a,C,dx,fs,hv,ha,hlk⟩,⟨o,hl,ho⟩,h3⟩:=h;obtain⟨v',P1,e,k,_⟩:=r.zP ho;rw[hv] at e;cases e;obtain⟨a',C',dx',fs',w,Q1,Q2,ea,zy,_,_,xr,yn,_⟩:=Ft k h1;cases ea;rw[ha] at zy;cases zy;rw[hlk] at xr;cases xr;unfold RA;exact⟨v,yi,o,Q1,rfl,hl,yn,Aq.ra r h3⟩
theorem Ae.go{g0:G}{P0:Fp}{H0:Hp}{o:Nat}{d:Dv}{v:V}(s:Step g0 P0 H0 g P H)(r:Rel K g H Γ m σ P)(n:Ae K g H o d v H') :
    ∃Pv,Step g0 P0 H0 g (fun a=>P a\/Pv a) H'/\Rep K g H' o d v Pv/\Rel K g H' Γ m σ P/\Bt P Pv:=by
  obtain⟨sm,Pv,h1,h2⟩:=n;refine⟨Pv,s.trans ⟨fun b o h _=>sm b o h,(Step.same (g:=g) (P:=wX) sm).dom,fun _ h=>h,fun _ h=>.inl h,⟨[],by simp⟩,fun a h=>h.elim .inl fun q=>.inr (h2 a q),(Step.same (g:=g) (P:=wX) sm).zd,(Step.same (g:=g) (P:=wX) sm).ins⟩,h1,r.same sm,fun a q z=>r.wb.new (h2 a z) q⟩
theorem CN{p:Pr}{o:Nat}{as:List Ar}{js:List Nat}{R:SA}(hp:AJ K p o R)(c:AD Γ as Γ' js){Q:VK}(h:tE K Γ o Γ' js (EX p (AV as)) σ H Q):Bl K as σ H fun vs H1=>R vs H1 Q:=by
 obtain⟨g,m,P,r,R',k,res,e,q⟩:=h;refine AN as r c e fun ds m' g' P' vs H1 hk ag s ar r1=>?_
 obtain⟨d,e1,e2⟩:=wW hk;refine hp g' H1 ds vs d Q r1.zd (ar.ra r1) e1 fun v H2 nw=>?_
 obtain⟨Pv,s2,h1,r2,n2⟩:=Ae.go s r1 nw;exact q d m' g' P' Pv v H2 e2 ag s2 h1 r2 n2
end
def QY(r:R2):SA:=fun vs H Q=>match vs with | [x,y]=>r x y H Q | _=>False
def bc(r:V->Hp->VK->Prop):SA:=fun vs H Q=>match vs with | [x]=>r x H Q | _=>False
def Nf(d:Dv):Ev Dv:=fun _ m k=>k d m
def Rc(i:Nat):Ev Dv:=fun _ m k=>k (m.at i) m
section
variable {X:Cx} {e:Expr} {Γ Γ':Gm} {js:List Nat} {o:Nat} {f:Ev Dv}
theorem jH{v:V}{d:Dv}(h:PE X e (tC v))(hd:∀g H,Rep X.K g H o d v wX):PE X e (tE X.K Γ o Γ [] (Nf d)):=PE.imp h fun σ H Q q=>by
 obtain⟨g,m,P,r,R,k,res,e,q⟩:=q;exact q d m g P wX v H e Bw.refl (Step.refl.less fun _ q=>q.elim id E7) (hd g H) r fun _ _ z=>z
theorem kA{i:Nat}(h:PE X e (FM i)){o:Nat}(hi:Γ[i]?=some (some o)):PE X e (tE X.K Γ 0 (Γ.set i (some 0)) [] (Rc i)):=PE.imp h fun σ H Q q=>by
 obtain⟨g,m,P,r,R,k,res,e,q⟩:=q;obtain⟨g',P',v,s,r',ev,rv⟩:=r.freeze hi;exact⟨v,ev,q _ m g' P' wX v H e Bw.refl (s.less fun _ q=>q.elim id E7) rv r' fun _ _ z=>z⟩
theorem kD{i:Nat}(h:PE X e (FM i))(hi:Γ[i]?=some (some o)):PE X e (tE X.K Γ o (Γ.set i none) [] (Rc i)):=PE.imp h fun σ H Q q=>by
 obtain⟨g,m,P,r,R,k,res,e,q⟩:=q;obtain⟨v,P1,P2,ev,_,rv,r2,n,hP⟩:=r.take hi;exact⟨v,ev,q _ m g P2 P1 v H e Bw.refl (Step.refl.less fun a q=>(hP a).mpr q.symm) rv r2 fun a q z=>n a z q⟩
theorem He(h:PE X e (tE X.K Γ o Γ' js f)):PE X e (tE X.K Γ 0 Γ' js f):=PE.imp h fun σ H Q q=>by
 obtain⟨g,m,P,r,R,k,res,e,q⟩:=q;refine⟨g,m,P,r,R,k,res,e,fun d m' g' P' Pv v H' hk ag s rv r1 n=>?_⟩;have st:Step g' Pv H' (g'.add Pv) wX H':=Step.freeze rv.wb;refine q d m' (g'.add Pv) P' wX v H' hk ag (s.trans ?_) (rv.freeze fun _ q=>q) (r1.held st rv.wb n) fun _ _ z=>z
 exact(st.frame (R:=P')).sub (fun a q=>q.symm) fun a q=>q.elim .inr E7
end
def Re(t:List Dv->Dv)(fa:Ev (List Dv)):Ev Dv:=fun R m k=>fa R m fun ds m'=>if ds.length<=1000000 then k (t ds) m' else none
noncomputable def Rb:List Ar->Bool
 | []=>true
 | .ev _ _ _ _::as=>Rb as
 | .rf _::_=>false
 | .fd _ _::_=>false
theorem Aq.zAD{K:W.Frag}{g:G}{H:Hp}{Γ:Gm}{m:M}{σ:St}:∀{as:List Ar} {ds:List Dv} {vs:List V},Rb as=true->Aq K g H Γ m σ as ds vs->AA K g H 0 ds vs wX
 | [],ds,vs,_,h=>by unfold Aq at h;obtain⟨rfl,rfl⟩:=h;exact AA.nil
 | .ev _ _ _ f::as,ds,vs,e,h=>by
  unfold Aq at h;obtain⟨d,v,zI,yi,rfl,rfl,h1,h2⟩:=h;exact(AA.cons h1 (Aq.zAD (by unfold Rb at e;exact e) h2) fun _ z=>z.elim).iff fun a=>⟨fun z=>z.elim,fun z=>z.elim id id⟩
 | .rf i::as,ds,vs,e,h=>by unfold Rb at e;cases e
 | .fd i _::as,ds,vs,e,h=>by unfold Rb at e;cases e
section
variable {X:Cx} {es:List Expr} {Γ Γ':Gm} {js:List Nat} {as:List Ar} {pos:Pos}
theorem kB{x1}(hq:PA X es (Bl X.K as))(c:AD Γ as Γ' js)(he:Rb as=true):PE X (.Tuple es x1 pos) (tE X.K Γ 1 Γ' js (Re .tup (AV as))):=PE.imp (fQ hq) fun σ H Q q=>by
 obtain⟨g,m,P,r,R,k,res,e,q⟩:=q;refine AN as r c e fun ds m' g' P' vs H1 hk ag s ar r1=>?_
 split at hk
 ·rename_i hz;have rp:=ar.zAD he;refine⟨by rw[<- rp.len];exact C4 hz (by decide),fun p hp=>?_⟩;have sm:=Bp hp (.tup vs);have st:=Step.same (g:=g') (P:=wX) sm;refine q _ m' g' P' wX (.ref p) _ hk ag ((s.trans (Step.same sm)).less fun _ q=>q.elim id E7) ?_ (r1.same sm) fun _ _ z=>z
  unfold Rep;exact⟨p,vs,rfl,AM,rp.held st wc.wX fun _ _ z=>z⟩
 ·cases hk
theorem Ae.lst{K:W.Frag}{g:G}{H:Hp}{ds:List Dv}{vs:List V}{p:B3}(zd:Zd g H)(rp:AA K g H 0 ds vs wX)(hp:H p=none):Ae K g H 1 (.lst ds) (.ref p) (upd H p (.lst vs)):=by
 have sm:=Bp hp (.lst vs);refine⟨sm,fun b=>b=p,?_,fun a q=>q▸hp⟩;unfold Rep;exact⟨p,vs,wX,rfl,⟨AM,(fun z=>by cases z),fun _ z=>zd p z hp⟩,rp.held (Step.same (g:=g) (P:=wX) sm) wc.wX fun _ _ z=>z,fun z=>z,fun b=>⟨fun z=>.inl ⟨by decide,z⟩,fun z=>z.elim (fun z=>z.2) E7⟩⟩
theorem kF(hq:PA X es (Bl X.K as))(c:AD Γ as Γ' js)(he:Rb as=true):PE X (.List es pos) (tE X.K Γ 1 Γ' js (Re .lst (AV as))):=PE.imp (fV hq) fun σ H Q q=>by
 obtain⟨g,m,P,r,R,k,res,e,q⟩:=q;refine AN as r c e fun ds m' g' P' vs H1 hk ag s ar r1=>?_
 split at hk
 ·rename_i hz;have rp:=ar.zAD he;refine⟨by rw[<- rp.len];exact C4 hz (by decide),fun p hp=>?_⟩;obtain⟨Pv,s2,h1,r2,n2⟩:=Ae.go s r1 (Ae.lst r1.zd rp hp);exact q _ m' g' P' Pv (.ref p) _ hk ag s2 h1 r2 n2
 ·cases hk
end
def GT:List Nat->Type
 | []=>Unit
 | [_]=>Dv
 | _::i::J=>Dv×GT (i::J)
noncomputable def Al:(J:List Nat)->M->GT J
 | [],_=>()
 | [i],m=>m.at i
 | i::j::J,m=>(m.at i,Al (j::J) m)
noncomputable def Av:(J:List Nat)->M->GT J->M
 | [],m,_=>m
 | [i],m,d=>m.set i d
 | i::j::J,m,t=>Av (j::J) (m.set i t.1) t.2
theorem VL{m:M}{i:Nat}{d:Dv}(h:i < m.length):M.at (m.set i d) i=d:=LL (F9 h)
theorem Il:∀(J:List Nat) (m:M) (t:GT J),(Av J m t).length=m.length
 | [],_,_=>rfl
 | [i],m,d=>E1 ..
 | i::j::J,m,t=>by unfold Av;rw[Il];exact E1 ..
theorem AU:∀(J:List Nat) (m:M) (t:GT J),Bw J m (Av J m t)
 | [],_,_=>Bw.refl
 | [i],m,d=>Bw.set
 | i::j::J,m,t=>by
  unfold Av;exact(Bw.set (i:=i)).trans (AU (j::J) _ _)
theorem Qz:∀(J:List Nat) (m m':M) (i:Nat),i < m.length->i∈J->M.at (Av J m (Al J m')) i=m'.at i
 | [],_,_,_,_,h=>by cases h
 | [i],m,m',k,hk,h=>by
  have e:=D3.mp h;subst e;exact VL hk
 | i::j::J,m,m',k,hk,h=>by
  show M.at (Av (j::J) (m.set i (m'.at i)) (Al (j::J) m')) k=_
  by_cases z:k∈j::J
  ·exact Qz (j::J) _ m' k (by rw[E1];exact hk) z
  ·rw[(AU (j::J) _ _).2 k z];rcases C8.mp h with e | e
   ·subst e;exact VL hk
   ·exact(z e).elim
def Bi(Γ:Gm)(js:List Nat):List Nat:=(A5 Γ.length).filter fun i=>js.contains i && (Γ.getD i none).isSome
theorem Br{Γ:Gm}{js:List Nat}{i o:Nat}(h:Γ[i]?=some (some o)):i∈Bi Γ js\/i∉js:=by
 by_cases e:i∈js
 ·refine .inl (G4.mpr ⟨C9.mpr (B5.mp h).1,?_⟩);rw[A3,C3,B7,h];exact⟨e,rfl⟩
 ·exact .inr e
theorem BL{Γ:Gm}{js:List Nat}{i:Nat}(h:i∈Bi Γ js):i∈js:=by
 have:=(G4.mp h).2;rw[A3,C3] at this;exact this.1
theorem Rel.join{K:W.Frag}{g:G}{H:Hp}{Γ:Gm}{m m':M}{σ:St}{P:Fp}{J js:List Nat}(r:Rel K g H Γ m' σ P)(ag:Bw js m m')(hj:∀i o,Γ[i]?=some (some o)->i∈J\/i∉js):Rel K g H Γ (Av J m (Al J m')) σ P:=by
 refine r.agree ((Il ..).trans ag.1.symm) fun i o e=>?_
 have hi:i < m.length:=by rw[<- ag.1,r.len.1];exact(B5.mp e).1
 by_cases z:i∈J
 ·exact Qz J m m' i hi z
 ·rw[(AU J m _).2 i z];exact(ag.2 i ((hj i o e).elim (fun q=>(z q).elim) id)).symm
def nK(p:List Dv->Option Bool)(fa:Ev (List Dv)):Ev Bool:=fun R m k=>fa R m fun ds m'=>(p ds).bind fun b=>k b m'
def aU(f:Ev Bool):Ev Dv:=fun R m k=>f R m fun b m'=>k (.bl b) m'
def cy(f:Ev Bool):Ev Bool:=fun R m k=>f R m fun b m'=>k (!b) m'
def Rg{α:Type}(c:Ev Bool)(f g:Ev α):Ev α:=fun R m k=>c R m fun b m1=>if b=true then f R m1 k else g R m1 k
def Jn(α:Type):List Nat->Type
 | []=>α
 | i::J=>α×GT (i::J)
def cW{α:Type}:(J:List Nat)->α->M->Jn α J
 | [],a,_=>a
 | i::J,a,m=>(a,Al (i::J) m)
def pB{α R:Type}:(J:List Nat)->M->Jn α J->(α->M->Option R)->Option R
 | [],m,a,k=>k a m
 | i::J,m,t,k=>k t.1 (Av (i::J) m t.2)
theorem Ud{α R:Type}(J:List Nat)(m m':M)(a:α)(k:α->M->Option R):pB J m (cW J a m') k=k a (Av J m (Al J m')):=by cases J<;>rfl
def TY{α:Type}(J:List Nat)(f:Ev α):Ev α:=fun R m k=>(f (Jn α J) m fun a m'=>some (cW J a m')).bind fun t=>pB J m t k
section
variable {K:W.Frag} {Γ Γ' xH Γ3:Gm} {js js2 js3 J:List Nat} {σ:St} {H:Hp} {o:Nat}
theorem Lq{f:Ev Dv}{Q:VK}(hj:∀i o,Γ'[i]?=some (some o)->i∈J\/i∉js)(hs:∀i∈J,i∈js)(h:tE K Γ o Γ' js (TY J f) σ H Q):tE K Γ o Γ' js f σ H Q:=by
 obtain⟨g,m,P,r,R,k,res,e,q⟩:=h;obtain⟨t,e1,e2⟩:=wW e;refine⟨g,m,P,r,_,_,t,e1,fun d m' g' P' Pv v H' hk ag s rv r1 n=>?_⟩;cases hk;rw[Ud] at e2;exact q d _ g' P' Pv v H' e2 ((AU J m _).mono hs) s rv (r1.join ag hj) n
theorem RL{f:Ev Bool}{Q:Bool->Hp->Prop}(hj:∀i o,Γ'[i]?=some (some o)->i∈J\/i∉js)(hs:∀i∈J,i∈js)(h:tT K Γ Γ' js (TY J f) σ H Q):tT K Γ Γ' js f σ H Q:=by
 obtain⟨g,m,P,r,R,k,res,e,q⟩:=h;obtain⟨t,e1,e2⟩:=wW e;refine⟨g,m,P,r,_,_,t,e1,fun d m' g' P' H' hk ag s r1=>?_⟩;cases hk;rw[Ud] at e2;exact q d _ g' P' H' e2 ((AU J m _).mono hs) s (r1.join ag hj)
theorem Qf{f:Ev Bool}{Q:Bool->Hp->Prop}(hw:CW xH Γ'=true)(hs:∀i∈js,i∈js2)(h:tT K Γ xH js2 f σ H Q):tT K Γ Γ' js f σ H Q:=by
 obtain⟨g,m,P,r,R,k,res,e,q⟩:=h;refine⟨g,m,P,r,R,k,res,e,fun b m' g' P' H' hk ag s r1=>?_⟩;obtain⟨g2,P2,s2,r2⟩:=r1.weaken hw;exact q b m' g2 P2 H' hk (ag.mono hs) (s.trans s2) r2
theorem Qg{f:Ev Dv}{Q:VK}(hw:CW xH Γ'=true)(hs:∀i∈js,i∈js2)(h:tE K Γ 0 xH js2 f σ H Q):tE K Γ 0 Γ' js f σ H Q:=by
 obtain⟨g,m,P,r,R,k,res,e,q⟩:=h;refine⟨g,m,P,r,R,k,res,e,fun b m' g' P' Pv v H' hk ag s rv r1 n=>?_⟩;obtain⟨g2,P2,s2,r2⟩:=r1.weaken hw;exact q b m' g2 P2 wX v H' hk (ag.mono hs) (((s.less fun _ q=>.inl q).trans s2).less fun _ q=>q.elim id E7) (rv.z.held s2 r1.wb fun _ z=>z.elim) r2 fun _ _ z=>z
theorem ml{p:List Dv->Option Bool}{as:List Ar}{r:SA}(hp:AJ K (fun ds=>(p ds).map .bl) 0 r)(c:AD Γ as Γ' js){Q:Bool->Hp->Prop}(h:tT K Γ Γ' js (nK p (AV as)) σ H Q):Bl K as σ H fun vs H1=>r vs H1 fun x H'=>∃k,x=.bl k/\Q k H':=by
 obtain⟨g,m,P,rl,R',k,res,e,q⟩:=h;refine AN as rl c e fun ds m' g' P' vs H1 hk ag s ar r1=>?_
 obtain⟨b,e1,e2⟩:=wW hk;refine hp g' H1 ds vs (.bl b) _ r1.zd (ar.ra r1) (by show(p ds).map _=_;rw[e1];rfl) fun v H2 nw=>?_
 obtain⟨Pv,s2,h1,r2,n2⟩:=Ae.go s r1 nw;refine⟨b,by unfold Rep at h1;exact h1.1,q b m' g' P' H2 e2 ag (s2.less fun _ q=>.inl q) r2⟩
theorem Dm{g:G}{o:Nat}{b:Bool}{v:V}{P:Fp}(h:Rep K g H o (.bl b) v P):v=.bl b:=by unfold Rep at h;exact h.1
theorem DU{g:G}{b:Bool}:Rep K g H o (.bl b) (.bl b) wX:=by unfold Rep;exact⟨rfl,fun _ z=>z⟩
theorem dz{t u:Ev Bool}{Q:Bool->Hp->Prop}(h:tT K Γ Γ' (js++js2) (Rg t u (fun R m k=>k false m)) σ H Q)(hw:CW Γ' xH=true):jg (tT K Γ xH js t) (tT K xH Γ' js2 u) σ H Q:=by
 obtain⟨g,m,P,r,R,k,res,e,q⟩:=h;refine⟨g,m,P,r,R,_,res,e,fun b m1 g1 P1 H1 hk ag s r1=>?_⟩;cases b with
 | true =>
  rw[if_pos rfl] at hk ⊢;exact⟨g1,m1,P1,r1,R,k,res,hk,fun c m2 g2 P2 H2 xt zA s2 r2=>q c m2 g2 P2 H2 xt (ag.trans zA) (s.trans s2) r2⟩
 | false =>
  rw[if_neg B9] at hk ⊢;obtain⟨g2,P2,s2,r2⟩:=r1.weaken hw;exact q false m1 g2 P2 H1 hk (ag.mono fun _ z=>D7 _ z) (s.trans s2) r2
theorem jU{t u:Ev Bool}{Q:Bool->Hp->Prop}(h:tT K Γ Γ' (js++js2) (Rg t (fun R m k=>k true m) u) σ H Q)(hw:CW Γ' xH=true):pJ (tT K Γ xH js t) (tT K xH Γ' js2 u) σ H Q:=by
 obtain⟨g,m,P,r,R,k,res,e,q⟩:=h;refine⟨g,m,P,r,R,_,res,e,fun b m1 g1 P1 H1 hk ag s r1=>?_⟩;cases b with
 | false =>
  rw[if_neg B9] at hk ⊢;exact⟨g1,m1,P1,r1,R,k,res,hk,fun c m2 g2 P2 H2 xt zA s2 r2=>q c m2 g2 P2 H2 xt (ag.trans zA) (s.trans s2) r2⟩
 | true =>
  rw[if_pos rfl] at hk ⊢;obtain⟨g2,P2,s2,r2⟩:=r1.weaken hw;exact q true m1 g2 P2 H1 hk (ag.mono fun _ z=>D7 _ z) (s.trans s2) r2
theorem dy{t:Ev Bool}{Q:Bool->Hp->Prop}(h:tT K Γ Γ' js (cy t) σ H Q):jY (tT K Γ Γ' js t) σ H Q:=by
 obtain⟨g,m,P,r,R,k,res,e,q⟩:=h;exact⟨g,m,P,r,R,_,res,e,fun b m1 g1 P1 H1 hk ag s r1=>q (!b) m1 g1 P1 H1 hk ag s r1⟩
end
structure Kt (R:Type) where
 nx:M->Option R
 rt:Dv->M->Option R
 bk:M->Option R
 ct:M->Option R
noncomputable abbrev Es:=(R:Type)->M->Kt R->Option R
def Io(io:List Nat)(σ σ':St):Prop:=∀i∈io,σ'[i]?=σ[i]?
theorem Io.refl{io:List Nat}{σ:St}:Io io σ σ:=fun _ _=>rfl
theorem Io.trans{io:List Nat}{σ zJ xR:St}(a:Io io σ zJ)(b:Io io zJ xR):Io io σ xR:=fun i h=>(b i h).trans (a i h)
theorem Io.set{io:List Nat}{σ:St}{i:Nat}{x:Option V}(h:i∉io):Io io σ (σ.set i x):=fun j hj=>E3 fun z=>h (by rw[z];exact hj)
structure Fr where
 io:List Nat
 Γr:Gm
 ro:Nat
structure AcS (K:W.Frag) (F:Fr) (wZ:Option Gm) (g:G) (P:Fp) (H:Hp) (σ:St) (D:Ends) (Γn:Option Gm) (js:List Nat) (m:M) {R:Type} (k:Kt R) (r:R):Prop where
 nx:∀Γ' m' g' P' σ' H',Γn=some Γ'->k.nx m'=some r->Bw js m m'->Step g P H g' P' H'->Io F.io σ σ'->Rel K g' H' Γ' m' σ' P'->D.nx σ' H'
 rt:∀d m' g' P' Pv σ' v H',k.rt d m'=some r->Bw js m m'->Step g P H g' (fun a=>P' a\/Pv a) H'->Io F.io σ σ'->Rep K g' H' F.ro d v Pv->Rel K g' H' F.Γr m' σ' P'->Bt P' Pv->D.rt v H'
 bk:∀Γ' m' g' P' σ' H',wZ=some Γ'->k.bk m'=some r->Bw js m m'->Step g P H g' P' H'->Io F.io σ σ'->Rel K g' H' Γ' m' σ' P'->D.bk σ' H'
 ct:∀Γ' m' g' P' σ' H',wZ=some Γ'->k.ct m'=some r->Bw js m m'->Step g P H g' P' H'->Io F.io σ σ'->Rel K g' H' Γ' m' σ' P'->D.ct σ' H'
def tS(K:W.Frag)(F:Fr)(wZ:Option Gm)(Γ:Gm)(Γn:Option Gm)(js:List Nat)(f:Es):TS:=fun D σ H=>∃g m P,Rel K g H Γ m σ P/\∃(R:Type) (k:Kt R) (r:R),f R m k=some r/\AcS K F wZ g P H σ D Γn js m k r
theorem AcS.later{K:W.Frag}{F:Fr}{wZ Γn:Option Gm}{g g1:G}{P P1:Fp}{H H1:Hp}{σ zJ:St}{D:Ends}{js ks:List Nat}{m m1:M}{R:Type}{k:Kt R}{r:R}(s:Step g P H g1 P1 H1)(i:Io F.io σ zJ)(ag:Bw js m m1)(h:AcS K F wZ g P H σ D Γn (js++ks) m k r):AcS K F wZ g1 P1 H1 zJ D Γn ks m1 k r:=
  ⟨fun Γ' m' g' P' σ' H' e hk a s' i' r'=>h.nx Γ' m' g' P' σ' H' e hk (ag.trans a) (s.trans s') (i.trans i') r',
   fun d m' g' P' Pv σ' v H' hk a s' i' rv r' n=>h.rt d m' g' P' Pv σ' v H' hk (ag.trans a) (s.trans s') (i.trans i') rv r' n,
   fun Γ' m' g' P' σ' H' e hk a s' i' r'=>h.bk Γ' m' g' P' σ' H' e hk (ag.trans a) (s.trans s') (i.trans i') r',
   fun Γ' m' g' P' σ' H' e hk a s' i' r'=>h.ct Γ' m' g' P' σ' H' e hk (ag.trans a) (s.trans s') (i.trans i') r'⟩
def JV:Es:=fun _ m k=>k.nx m
def lu(f g:Es):Es:=fun R m k=>f R m { k with nx:=fun m1=>g R m1 k }
def Ng(c:Ev Bool)(f g:Es):Es:=fun R m k=>c R m fun b m1=>if b=true then f R m1 k else g R m1 k
def cw(f:Ev Dv):Es:=fun R m k=>f R m k.rt
def XF(f:Ev Dv):Es:=fun R m k=>f R m fun _ m1=>k.nx m1
section
variable {X:Cx} {F:Fr} {wZ Γn zBf:Option Gm} {Γ Γ' xH:Gm} {js js2 js3 J:List Nat} {s:N2} {ss rest a b:List N2} {e c:Expr} {pos:Pos} {f f2:Es} {fe:Ev Dv} {t:Ev Bool} {o:Nat}
theorem IQ{K:W.Frag}{D:Ends}{σ:St}{H:Hp}(h:tS K F wZ Γ (some Γ) [] JV D σ H):D.nx σ H:=by
 obtain⟨g,m,P,r,R,k,res,e,q⟩:=h;exact q.nx Γ m g P σ H rfl e Bw.refl Step.refl Io.refl r
theorem jw:Ee X [] (tS X.K F wZ Γ (some Γ) [] JV):=Ee.imp ZV fun D σ H h=>IQ h
theorem eQ:PS X (.Pass pos) (tS X.K F wZ Γ (some Γ) [] JV):=PS.imp ZW fun D σ H h=>IQ h
theorem jy{x j pos'}:PS X (.Expr (.Constant (.str x) j pos) pos') (tS X.K F wZ Γ (some Γ) [] JV):=PS.imp fD fun D σ H h=>IQ h
theorem eV(h1:PS X s (tS X.K F wZ Γ (some xH) js f))(h2:Ee X rest (tS X.K F wZ xH Γn js2 f2)):Ee X (s::rest) (tS X.K F wZ Γ Γn (js++js2) (lu f f2)):=Ee.imp (NB h1 h2) fun D σ H h=>by
 obtain⟨g,m,P,r,R,k,res,e,q⟩:=h;refine⟨g,m,P,r,R,_,res,e,⟨fun Γ' m' g' P' σ' H' e hk ag s' i' r'=>?_,fun d m' g' P' Pv σ' v H' hk ag=>q.rt d m' g' P' Pv σ' v H' hk (ag.mono fun _ z=>D7 _ z),fun Γ' m' g' P' σ' H' e hk ag=>q.bk Γ' m' g' P' σ' H' e hk (ag.mono fun _ z=>D7 _ z),fun Γ' m' g' P' σ' H' e hk ag=>q.ct Γ' m' g' P' σ' H' e hk (ag.mono fun _ z=>D7 _ z)⟩⟩;cases e;exact⟨g',m',P',r',R,k,res,hk,q.later s' i' ag⟩
theorem eR(h1:PS X s (tS X.K F wZ Γ none js f)):Ee X (s::rest) (tS X.K F wZ Γ none js f):=Ee.imp (NB h1 (u:=fun _ _ _=>False) fun _ _ _ _ _ _ z=>z.elim) fun D σ H h=>by
 obtain⟨g,m,P,r,R,k,res,e,q⟩:=h;exact⟨g,m,P,r,R,k,res,e,(fun _ _ _ _ _ _ e=>by cases e),q.rt,q.bk,q.ct⟩
theorem jv(h1:PS X s (tS X.K F wZ Γ Γn js f)):Ee X [s] (tS X.K F wZ Γ Γn js f):=ZU h1
theorem jr(hq:PE X e (tE X.K Γ F.ro F.Γr js fe)):PS X (.Return (some e) pos) (tS X.K F wZ Γ none js (cw fe)):=PS.imp (fA hq) fun D σ H h=>by
 obtain⟨g,m,P,r,R,k,res,e,q⟩:=h;exact⟨g,m,P,r,R,_,res,e,fun d m' g' P' Pv v H' hk ag s rv r1 n=>q.rt d m' g' P' Pv σ v H' hk ag s Io.refl rv r1 n⟩
theorem eU(hq:PE X e (tE X.K Γ o Γ' js fe))(hs:V8 e none pos.line X.env=pure false):PS X (.Expr e pos) (tS X.K F wZ Γ (some Γ') js (XF fe)):=PS.imp (ZX hq hs) fun D σ H h=>by
 obtain⟨g,m,P,r,R,k,res,e,q⟩:=h;exact⟨g,m,P,r,R,_,res,e,fun d m' g' P' Pv v H' hk ag s rv r1 n=>q.nx Γ' m' g' P' σ H' rfl hk ag (s.less fun _ q=>.inl q) Io.refl r1⟩
theorem ny(hc:PT X c (tT X.K Γ xH js t))(ha:Ee X a (tS X.K F wZ xH Γn js2 f))(hb:Ee X b (tS X.K F wZ xH Γn js3 f2)):PS X (.If c a b pos) (tS X.K F wZ Γ Γn (js++(js2++js3)) (Ng t f f2)):=PS.imp (kh hc ha hb) fun D σ H h=>by
 obtain⟨g,m,P,r,R,k,res,e,q⟩:=h;refine⟨g,m,P,r,R,_,res,e,fun b m1 g1 P1 H1 hk ag s r1=>?_⟩;have q2:=q.later s Io.refl ag;have mo:∀(ks:List Nat),(∀i∈ks,i∈js2++js3)->AcS X.K F wZ g1 P1 H1 σ D Γn ks m1 k res:=fun ks hks =>
  ⟨fun Γ' m' g' P' σ' H' e hk a=>q2.nx Γ' m' g' P' σ' H' e hk (a.mono hks),fun d m' g' P' Pv σ' v H' hk a=>q2.rt d m' g' P' Pv σ' v H' hk (a.mono hks),fun Γ' m' g' P' σ' H' e hk a=>q2.bk Γ' m' g' P' σ' H' e hk (a.mono hks),fun Γ' m' g' P' σ' H' e hk a=>q2.ct Γ' m' g' P' σ' H' e hk (a.mono hks)⟩
 cases b with
 | true=>rw[if_pos rfl] at hk;show(if true=true then _ else _);rw[if_pos rfl];exact⟨g1,m1,P1,r1,R,k,res,hk,mo js2 fun _ z=>D7 _ z⟩
 | false=>rw[if_neg B9] at hk;show(if false=true then _ else _);rw[if_neg B9];exact⟨g1,m1,P1,r1,R,k,res,hk,mo js3 fun _ z=>B8 _ z⟩
def MY:Option Gm->Option Gm->Bool
 | some a,some b=>CW a b
 | _,none=>true
 | none,some _=>false
theorem VP(h:Ee X ss (tS X.K F wZ Γ Γn js f))(hw:MY zBf Γn=true):Ee X ss (tS X.K F wZ Γ zBf js f):=Ee.imp h fun D σ H h=>by
 obtain⟨g,m,P,r,R,k,res,e,q⟩:=h;refine⟨g,m,P,r,R,k,res,e,fun Γ' m' g' P' σ' H' e hk ag s' i' r'=>?_,q.rt,q.bk,q.ct⟩;subst e;cases zBf with
 | none=>cases hw
 | some Γ3 =>
  obtain⟨g2,P2,s2,r2⟩:=r'.weaken (by unfold MY at hw;exact hw);exact q.nx Γ3 m' g2 P2 σ' H' rfl hk ag (s'.trans s2) i' r2
def mC(J:List Nat)(f:Es):Es:=fun R m k=>(f (GT J) m ⟨fun m'=>some (Al J m'),fun _ _=>none,fun _=>none,fun _=>none⟩).bind fun t=>k.nx (Av J m t)
theorem gS{K:W.Frag}{D:Ends}{σ:St}{H:Hp}(hj:∀i o,Γ'[i]?=some (some o)->i∈J\/i∉js)(hs:∀i∈J,i∈js)(h:tS K F wZ Γ (some Γ') js (mC J f) D σ H):tS K F wZ Γ (some Γ') js f D σ H:=by
 obtain⟨g,m,P,r,R,k,res,e,q⟩:=h;obtain⟨t,e1,e2⟩:=wW e;refine⟨g,m,P,r,_,_,t,e1,⟨fun xH m' g' P' σ' H' e hk ag s' i' r'=>?_,(fun _ _ _ _ _ _ _ _ hk=>by cases hk),(fun _ _ _ _ _ _ _ hk=>by cases hk),fun _ _ _ _ _ _ _ hk=>by cases hk⟩⟩;cases e;cases hk;exact q.nx Γ' _ g' P' σ' H' rfl e2 ((AU J m _).mono hs) s' i' (r'.join ag hj)
end
noncomputable abbrev Tg:=(R:Type)->Dv->M->(M->Option R)->Option R
def Ag(js:List Nat)(σ σ':St):Prop:=σ'.length=σ.length/\∀i,i∉js->σ'[i]?=σ[i]?
theorem Ag.io{js io:List Nat}{σ σ':St}(h:Ag js σ σ')(d:∀i∈io,i∉js):Io io σ σ':=fun i hi=>h.2 i (d i hi)
theorem Ag.trans{js ks:List Nat}{σ zJ xR:St}(a:Ag js σ zJ)(b:Ag ks zJ xR):Ag (js++ks) σ xR:=⟨b.1.trans a.1,fun i h=>(b.2 i fun z=>h (B8 _ z)).trans (a.2 i fun z=>h (D7 _ z))⟩
theorem Ag.set{σ:St}{i:Nat}{x:Option V}:Ag [i] σ (σ.set i x):=⟨E1 ..,fun j h=>E3 fun z=>h (by rw[z];exact N9 _)⟩
def QW(K:W.Frag)(Γ Γ':Gm)(js:List Nat)(tg:TG)(f:Tg):Prop:=∀(g:G) (m:M) (P:Fp) (d:Dv) (v:V) (σ:St) (H:Hp) (R:Type) (k:M->Option R) (r:R) (Q:St->Hp->Prop),Rel K g H Γ m σ P->Rep K g H 0 d v wX->f R d m k=some r ->
 (∀m' P' σ',k m'=some r->Bw js m m'->(∀a,P' a->P a)->Ag js σ σ'->Rel K g H Γ' m' σ' P'->Q σ' H)->tg v σ H Q
def jS(i:Nat):Tg:=fun _ d m k=>k (m.set i d)
theorem Yo{K:W.Frag}{Γ:Gm}{i:Nat}(hi:i < Γ.length):QW K Γ (Γ.set i (some 0)) [i] (DW i) (jS i):=fun g m P d v σ H R k r Q rl rv e q=>by
 obtain⟨P2,r2,s⟩:=rl.yI hi rv fun _ z=>z.elim
 exact q _ P2 _ e Bw.set (fun a z=>(s a z).elim id E7) Ag.set r2
noncomputable def du:(J:List Nat)->List Dv->Option (GT J)
 | [],[]=>some ()
 | [_],[d]=>some d
 | _::j::J,d::ds=>(du (j::J) ds).bind fun t=>some (d,t)
 | _,_=>none
def SG(J:List Nat)(d:Dv):Option (GT J):=match d with
 | .tup ds=>du J ds
 | .lst ds=>du J ds
 | _=>none
def pG(J:List Nat):Tg:=fun _ d m k=>(SG J d).bind fun t=>k (Av J m t)
def EW:List Nat->MU
 | []=>NZ
 | i::J=>DX (DW i) (EW J)
def VN(Γ:Gm)(J:List Nat)(x:Option Nat):Gm:=J.foldl (fun Γ i=>Γ.set i x) Γ
theorem VM(J:List Nat)(x:Option Nat):∀Γ:Gm,(VN Γ J x).length=Γ.length:=by
 induction J with
 | nil=>intro Γ;rfl
 | cons i J ih=>intro Γ;show(VN (Γ.set i x) J x).length=_;rw[ih,E1]
theorem Km{K:W.Frag}:∀(J:List Nat) {Γ:Gm} {g:G} {m:M} {P:Fp} {ds:List Dv} {vs:List V} {σ:St} {H:Hp} {t:GT J} {Q:St->Hp->Prop},(∀i∈J,i < Γ.length)->Rel K g H Γ m σ P->AA K g H 0 ds vs wX->du J ds=some t ->
    (∀P' σ',(∀a,P' a->P a)->Ag J σ σ'->Rel K g H (VN Γ J (some 0)) (Av J m t) σ' P'->Q σ' H)->ds.length=J.length/\EW J vs σ H Q
  | [],Γ,g,m,P,ds,vs,σ,H,t,Q,hJ,r,rv,e,q=>by
    cases ds with
    | nil =>
      unfold AA at rv;exact⟨rfl,rv.1,q P σ (fun _ z=>z) ⟨rfl,fun _ _=>rfl⟩ r⟩
    | cons d ds=>cases e
  | [i],Γ,g,m,P,ds,vs,σ,H,t,Q,hJ,r,rv,e,q=>by
    match ds,e with
    | [d],e =>
      cases e;unfold AA at rv;obtain⟨v,vr,P1,P2,rfl,h1,h2,_,h4⟩:=rv;unfold AA at h2;obtain⟨P3,r3,s⟩:=r.yI (hJ i B1) h1.z fun _ z=>z.elim
      exact⟨rfl,v,vr,rfl,h2.1,q P3 _ (fun a z=>(s a z).elim id E7) Ag.set r3⟩
    | [],e=>cases e
    | _::_::_,e=>cases e
  | i::j::J,Γ,g,m,P,ds,vs,σ,H,t,Q,hJ,r,rv,e,q=>by
    match ds,e with
    | [],e=>cases e
    | d::ds,e =>
      obtain⟨t',e1,e2⟩:=wW (show(du (j::J) ds).bind (fun t=>some (d,t))=some t from e);cases e2;unfold AA at rv;obtain⟨v,vr,P1,P2,rfl,h1,h2,_,h4⟩:=rv;obtain⟨P3,r3,s⟩:=r.yI (hJ i B1) h1.z fun _ z=>z.elim
      have s':∀a,P3 a->P a:=fun a z=>(s a z).elim id E7
      have:=Km (j::J) (Q:=Q) (fun k hk=>by rw[E1];exact hJ k (A9 _ hk)) r3 h2.z e1 fun P' σ' sp ag r'=>q P' σ' (fun a z=>s' a (sp a z)) (Ag.set.trans ag) r'
      exact⟨by simp[this.1],v,vr,rfl,this.2⟩
abbrev Wn(K:W.Frag)(n:Nat)(t:MU):TG:=fun v σ H Q=>gi K n t v σ H Q\/gk n t v σ H Q
theorem Uj{K:W.Frag}{Γ:Gm}{J:List Nat}(hJ:∀i∈J,i < Γ.length):QW K Γ (VN Γ J (some 0)) J (Wn K J.length (EW J)) (pG J):=fun g m P d v σ H R k r Q rl rv e q=>by
 obtain⟨t,e1,e2⟩:=wW e;have go:∀{ds vs},AA K g H 0 ds vs wX->du J ds=some t->ds.length=J.length/\EW J vs σ H Q:=fun h1 h2=>Km J hJ rl h1 h2 fun P' σ' sp ag r'=>q _ P' σ' e2 (AU J m t) sp ag r'
 cases d with
 | tup ds =>
  unfold Rep at rv;obtain⟨a,vs,rfl,h1,h2⟩:=rv;obtain⟨l,z⟩:=go h2 e1;exact .inl ⟨a,vs,rfl,.inl (.inl h1),by rw[<- h2.len];exact l,z⟩
 | lst ds =>
  unfold Rep at rv;obtain⟨a,vs,P',rfl,h1,h2,_⟩:=rv;obtain⟨l,z⟩:=go h2.z e1;exact .inr ⟨a,vs,rfl,h1.1,by rw[<- h2.len];exact l,z⟩
 | _=>cases e1
theorem PG.or{X:Cx}{e:Expr}{t u:TG}(h:PG X e t)(k:PG X e u):PG X e fun v σ H Q=>t v σ H Q\/u v σ H Q:=fun pins s σ H v w Q I r q=>q.elim (h pins s σ H v w Q I r) (k pins s σ H v w Q I r)
theorem Wh{js:List Nat}{t u:TG}(h:UT js t)(k:UT js u):UT js fun v σ H Q=>t v σ H Q\/u v σ H Q:=fun x σ H Q q=>q.elim (fun q=>.inl (h x σ H Q q)) fun q=>.inr (k x σ H Q q)
theorem FQ{js:List Nat}:∀(J:List Nat),(∀i∈J,i∈js)->Oa js (EW J)
 | [],_=>NY
 | i::J,h=>TM (h i B1) (FQ J fun k hk=>h k (A9 _ hk))
def pF(f1 f2:Tg):Tg:=fun R d m k=>(SG [0,1] d).bind fun t=>f1 R t.1 m fun m1=>f2 R t.2 m1 k
theorem Yn{K:W.Frag}{Γ wy xH:Gm}{J1 J2:List Nat}{g1 g2:TG}{f1 f2:Tg}(h1:QW K Γ wy J1 g1 f1)(h2:QW K wy xH J2 g2 f2):QW K Γ xH (J1++J2) (Wn K 2 (DX g1 (DX g2 NZ))) (pF f1 f2):=fun g m P d v σ H R k r Q rl rv e q=>by
 obtain⟨t,e1,e2⟩:=wW e;have go:∀{ds vs},AA K g H 0 ds vs wX->du [0,1] ds=some t->vs.length=2/\DX g1 (DX g2 NZ) vs σ H Q:=fun{ds vs} hr et=>by
  match ds,et with
  | [x,y],et =>
   cases et;unfold AA at hr;obtain⟨vx,r1,P1,P2,rfl,hx,hr,_⟩:=hr;unfold AA at hr;obtain⟨vy,r2,P3,P4,rfl,hy,hr,_⟩:=hr;unfold AA at hr;obtain⟨rfl,_⟩:=hr;exact⟨rfl,vx,[vy],rfl,h1 g m P x vx σ H R _ r _ rl hx.z e2 fun m1 P1 zJ k1 a1 p1 s1 r1=>⟨vy,[],rfl,h2 g m1 P1 y vy zJ H R k r _ r1 hy.z k1 fun m2 P2 xR k2 a2 p2 s2 r2=>⟨rfl,q m2 P2 xR k2 (a1.trans a2) (fun a z=>p1 a (p2 a z)) (s1.trans s2) r2⟩⟩⟩
  | [],et=>cases et
  | [_],et=>cases et
  | _::_::_::_,et=>cases et
 cases d with
 | tup ds =>
  unfold Rep at rv;obtain⟨a,vs,rfl,h1,h2⟩:=rv;obtain⟨l,z⟩:=go h2 e1;exact .inl ⟨a,vs,rfl,.inl (.inl h1),l,z⟩
 | lst ds =>
  unfold Rep at rv;obtain⟨a,vs,P',rfl,h1,h2,_⟩:=rv;obtain⟨l,z⟩:=go h2.z e1;exact .inr ⟨a,vs,rfl,h1.1,l,z⟩
 | _=>cases e1
def YW(t:TG):Prop:=∀v σ H (Q Q':St->Hp->Prop),t v σ H Q->(∀σ H,Q σ H->Q' σ H)->t v σ H Q'
def LO(t:MU):Prop:=∀v σ H (Q Q':St->Hp->Prop),t v σ H Q->(∀σ H,Q σ H->Q' σ H)->t v σ H Q'
theorem Kn{i:Nat}:YW (DW i):=fun _ _ _ _ _ h q=>q _ _ h
theorem JC:LO NZ:=fun _ _ _ _ _ h q=>⟨h.1,q _ _ h.2⟩
theorem Ko{t:TG}{u:MU}(ht:YW t)(hu:LO u):LO (DX t u):=fun _ _ _ _ _ ⟨v,r,e,h⟩ q=>⟨v,r,e,ht _ _ _ _ _ h fun _ _ h=>hu _ _ _ _ _ h q⟩
theorem JD:∀J:List Nat,LO (EW J)
 | []=>JC
 | _::J=>Ko Kn (JD J)
theorem WH{K:W.Frag}{n:Nat}{u:MU}(hu:LO u):YW (Wn K n u):=fun _ _ _ _ _ h q=>h.elim (fun⟨a,xs,e,s,l,h⟩=>.inl ⟨a,xs,e,s,l,hu _ _ _ _ _ h q⟩) fun⟨a,xs,e,s,l,h⟩=>.inr ⟨a,xs,e,s,l,hu _ _ _ _ _ h q⟩
theorem JM{js:List Nat}{t:TG}{u:MU}(mt:YW t)(mu:LO u)(ht:UT js t)(hu:Oa js u):Oa js (DX t u):=fun x σ H Q ⟨v,r,e,q⟩=>⟨v,r,e,mt _ _ _ _ _ (ht v σ H _ q) fun zJ H1 ⟨⟨l1,f1⟩,q1⟩=>mu _ _ _ _ _ (hu r zJ H1 _ q1) fun xR H2 ⟨⟨l2,f2⟩,q2⟩=>⟨⟨l2.trans l1,fun i hi=>(f2 i hi).trans (f1 i hi)⟩,q2⟩⟩
def XG(f:Ev Dv)(tg:Tg):Es:=fun R m k=>f R m fun d m1=>tg R d m1 k.nx
section
variable {X:Cx} {F:Fr} {wZ:Option Gm} {Γ Γ' xH:Gm} {js js2:List Nat} {e tg:Expr} {pos pos':Pos} {fe:Ev Dv} {g:TG} {ft:Tg} {i o:Nat} {x:Str}
theorem Qp{K:W.Frag}(hi:i < xH.length)(yF:i∉F.io){D:Ends}{σ:St}{H:Hp}(h:tS K F wZ Γ (some (xH.set i (some o))) (js++[i]) (XG fe (jS i)) D σ H):Mh (tE K Γ o xH js fe) (DW i) D σ H:=by
 obtain⟨g0,m,P,r,R,k,res,e,q⟩:=h;refine⟨g0,m,P,r,R,_,res,e,fun d m1 g' P' Pv v H' hk ag s rv r1 n=>?_⟩;obtain⟨P2,r2,s2⟩:=r1.yI hi rv fun a q z=>n a z q
 exact q.nx _ _ g' P2 _ H' rfl hk (ag.trans Bw.set) (s.less fun a z=>s2 a z) (Io.set yF) r2
theorem jq(hN:X.N.Nodup)(hix:X.N[i]?=some x)(hx:Loc X.env.scope x)(yF:i∉F.io)(hi:i < xH.length)(he:PE X e (tE X.K Γ o xH js fe))(hs:V8 e (some (.Name x pos')) pos.line X.env=pure false)(hf:X.fn x=true\/X.env.scope.names.lookup x=some .local) :
    PS X (.Assign [.Name x pos'] e pos) (tS X.K F wZ Γ (some (xH.set i (some o))) (js++[i]) (XG fe (jS i))):=PS.imp (ez hN hix hx he hs hf) fun _ _ _ h=>Qp hi yF h
end
def Jq(g:G)(H:Hp)(g2:G)(H2:Hp):Prop:=∃P P',Step g P H g2 P' H2/\wc g H P
def Yl(K:W.Frag)(J:It)(ds:List Dv)(g:G)(H:Hp):Prop:=∀g2 H2,Jq g H g2 H2 ->
 (∀i d,ds[i]?=some d->J.go i H2/\∀x H3,J.yld i H2 x H3->Ae K g2 H2 0 d x H3)/\∀i,ds.length<=i->J.stop i H2
def tI(K:W.Frag)(Γ Γ':Gm)(js:List Nat)(f:Ev (List Dv)):TI:=fun σ H Q=>∃g m P,Rel K g H Γ m σ P/\∃(R:Type) (k:List Dv->M->Option R) (r:R),f R m k=some r /\
 ∀ds m' g' P' H' J,k ds m'=some r->Bw js m m'->Step g P H g' P' H'->Rel K g' H' Γ' m' σ P'->Yl K J ds g' H'->Q J H'
theorem PI.imp{X:Cx}{tg e:Expr}{t t':TI}(h:PI X tg e t)(k:∀σ H R,t' σ H R->t σ H R):PI X tg e t':=fun pins s σ H R I q=>h pins s σ H R I (k σ H R q)
theorem Ae.old{K:W.Frag}{g:G}{H:Hp}{o:Nat}{d:Dv}{v:V}(h:Rep K g H o d v wX):Ae K g H o d v H:=⟨fun _ _ q=>q,wX,h,fun _ z=>z.elim⟩
theorem Jq.rep{K:W.Frag}{g g2:G}{H H2:Hp}{d:Dv}{v:V}(s:Jq g H g2 H2)(h:Rep K g H 0 d v wX):Rep K g2 H2 0 d v wX:=by
 obtain⟨P,P',st,ok⟩:=s;exact h.held st ok fun _ z=>z.elim
section
variable {τ γ ρ:Type}
inductive Lp (τ γ ρ:Type) where
 | go (c:γ) | bk (c:γ) | rt (d:τ) (r:ρ)
inductive Rs (τ γ ρ:Type) where
 | go (c:γ) | rt (d:τ) (r:ρ)
noncomputable def Rs.el{δ:Type}(x:Rs τ γ ρ)(f:γ->δ)(h:τ->ρ->δ):δ:=match x with | .go c=>f c | .rt d r=>h d r
noncomputable def AO(g:Dv->γ->Option γ):List Dv->γ->Option γ
 | [],c=>some c
 | x::xs,c=>(g x c).bind fun c1=>AO g xs c1
noncomputable def Ds(g:Dv->γ->Option (Lp τ γ ρ)):List Dv->γ->Option (Rs τ γ ρ)
 | [],c=>some (.go c)
 | x::xs,c=>(g x c).bind fun l=>match l with
  | .go c1=>Ds g xs c1
  | .bk c1=>some (.go c1)
  | .rt d r=>some (.rt d r)
noncomputable def bp(t:γ->Option Bool)(g:γ->Option γ):Nat->γ->Option γ
 | 0,_=>none
 | n+1,c=>(t c).bind fun b=>if b=true then(g c).bind (bp t g n) else some c
end
def kC(J:List Nat):Kt (GT J):=⟨fun m'=>some (Al J m'),fun _ _=>none,fun _=>none,fun m'=>some (Al J m')⟩
def kE(J Jr:List Nat):Kt (Lp Dv (GT J) (GT Jr)):=⟨fun m'=>some (.go (Al J m')),fun d m'=>some (.rt d (Al Jr m')),fun m'=>some (.bk (Al J m')),fun m'=>some (.go (Al J m'))⟩
def XD(src:Ev (List Dv))(tg:Tg)(J:List Nat)(b:Es):Es:=fun R m k=>src R m fun ds m1 =>
 (AO (fun d t=>tg (GT J) d (Av J m1 t) fun m2=>b (GT J) m2 (kC J)) ds (Al J m1)).bind fun t=>k.nx (Av J m1 t)
def XC(src:Ev (List Dv))(tg:Tg)(J Jr:List Nat)(b:Es):Es:=fun R m k=>src R m fun ds m1 =>
 (Ds (fun d t=>tg (Lp Dv (GT J) (GT Jr)) d (Av J m1 t) fun m2=>b (Lp Dv (GT J) (GT Jr)) m2 (kE J Jr)) ds (Al J m1)).bind fun x=>x.el (fun t=>k.nx (Av J m1 t)) fun d t=>k.rt d (Av Jr m1 t)
theorem Pq{J:List Nat}{Γ:Gm}{K:W.Frag}{g:G}{H:Hp}{m:M}{σ:St}{P:Fp}(r:Rel K g H Γ m σ P):Rel K g H Γ (Av J m (Al J m)) σ P:=r.join (js:=[]) Bw.refl fun _ _ _=>.inr (by simp)
theorem RY{K:W.Frag}{F:Fr}{zS:Option Gm}{Γ yh:Gm}{Γo:Option Gm}{jt jb:List Nat}{g:TG}{ft:Tg}{b:Es}{J Jr:List Nat}(ht:QW K Γ yh jt g ft)(yF:∀i∈F.io,i∉jt)(hw:MY (some Γ) Γo=true)
    (hJ:J=Bi Γ (jt++jb)) (hJr:Jr=Bi F.Γr (jt++jb)) {ds:List Dv} {m1:M} {D:Ends} {σ:St} {H1:Hp} {g1:G} {P1:Fp} {I:It} {R:Type} {k:Kt R} {res:R}
    (r1:Rel K g1 H1 Γ m1 σ P1) (yl:Yl K I ds g1 H1) (run:List Dv->GT J->Prop) (h0:run ds (Al J m1)) (hn:∀t,run [] t->k.nx (Av J m1 t)=some res)
    (hc:∀d ds t,run (d::ds) t->∃(B:Type) (κ:Kt B) (r:B),ft B d (Av J m1 t) (fun m2=>b B m2 κ)=some r/\(∀m',κ.nx m'=some r->run ds (Al J m'))/\(∀m',κ.ct m'=some r->run ds (Al J m')) /\
      (∀m',κ.bk m'=some r->k.nx (Av J m1 (Al J m'))=some res)/\∀d m',κ.rt d m'=some r->k.rt d (Av Jr m1 (Al Jr m'))=some res)
    (q:AcS K F zS g1 P1 H1 σ D (some Γ) (jt++jb) m1 k res) :
    ∃W:Nat->Nat->St->Hp->Prop,(∃m,W 0 m σ H1)/\∀i m σ H,W i m σ H ->
      (I.stop i H/\D.nx σ H)\/(I.go i H/\∃N:St->Hp->Prop,(∀σ' H',N σ' H'->∃m',m' < m/\W (i+1) m' σ' H')/\∀x H',I.yld i H x H'->g x σ H' fun xR H2=>tS K F (some Γ) yh Γo jb b { D with nx:=N,ct:=N,bk:=D.nx } xR H2):=by
  have sub:∀i∈J,i∈jt++jb:=fun i h=>BL (hJ▸h)
  have zBg:∀i∈Jr,i∈jt++jb:=fun i h=>BL (hJr▸h)
  refine⟨fun i j σ' H'=>j=ds.length - i/\i<=ds.length/\∃g2 t P2,Step g1 P1 H1 g2 P2 H'/\Io F.io σ σ'/\Rel K g2 H' Γ (Av J m1 t) σ' P2/\run (ds.drop i) t,⟨ds.length,by simp,J8 _,g1,Al J m1,P1,Step.refl,Io.refl,Pq r1,by simpa using h0⟩,?_⟩;rintro i j xR H2 ⟨rfl,hi,g2,t,P2,s2,i2,r2,e2⟩;have st:Jq g1 H1 g2 H2:=⟨P1,P2,s2,r1.wb⟩
  by_cases xF:i < ds.length
  · rw[S6 xF] at e2;obtain⟨B,κ,rB,e3,knx,kct,kbk,krt⟩:=hc _ _ _ e2;obtain⟨go,yy⟩:=(yl g2 H2 st).1 i ds[i] (A4 xF);refine .inr ⟨go,fun σ' H'=>∃g5 P5 m',Step g1 P1 H1 g5 P5 H'/\Io F.io σ σ'/\Rel K g5 H' Γ m' σ' P5/\Bw (jt++jb) m1 m'/\run (ds.drop (i+1)) (Al J m'),?_,fun x H3 hy=>?_⟩
    · rintro σ' H' ⟨g5,P5,m',s5,i5,r5,ag,hr⟩;exact⟨ds.length - (i+1),by omega,rfl,xF,g5,Al J m',P5,s5,i5,r5.join ag fun i o h=>hJ▸Br h,hr⟩
    · obtain⟨Pv,s3,h3,r3,n3⟩:=Ae.go s2 r2 (yy x H3 hy);refine ht g2 _ P2 ds[i] x xR H3 B _ rB _ r3 h3.z e3 fun m2 P' σ' hk ag sp ip r'=>?_
      have s4:Step g1 P1 H1 g2 P' H3:=s3.less fun a z=>.inl (sp a z)
      have i4:=i2.trans (ip.io yF);have a4:Bw (jt++jb) m1 m2:=((AU J m1 t).mono sub).trans ag |>.mono fun i z=>(E9.mp z).elim id fun z=>D7 _ z
      have a5:∀{m'},Bw jb m2 m'->Bw (jt++jb) m1 m':=fun h=>(a4.trans h).mono fun i z=>(E9.mp z).elim id fun z=>B8 _ z
      refine⟨g2,m2,P',r',B,κ,rB,hk,⟨fun Γ' m' g' P'' yg H' e hk zB s' i' rr=>?_,fun d m' g' P'' Pv yg v H' hk zB s' i' rv rr n=>?_,fun Γ' m' g' P'' yg H' e hk zB s' i' rr=>?_,fun Γ' m' g' P'' yg H' e hk zB s' i' rr=>?_⟩⟩
      · subst e;obtain⟨g6,P6,s6,r6⟩:=rr.weaken (by unfold MY at hw;exact hw);exact⟨g6,P6,m',(s4.trans s').trans s6,i4.trans i',r6,a5 zB,knx m' hk⟩
      · exact q.rt d _ g' P'' Pv yg v H' (krt d m' hk) ((AU Jr m1 _).mono zBg) (s4.trans s') (i4.trans i') rv (rr.join (a5 zB) fun i o h=>hJr▸Br h) n
      · cases e;exact q.nx Γ _ g' P'' yg H' rfl (kbk m' hk) ((AU J m1 _).mono sub) (s4.trans s') (i4.trans i') (rr.join (a5 zB) fun i o h=>hJ▸Br h)
      · cases e;exact⟨g',P'',m',s4.trans s',i4.trans i',rr,a5 zB,kct m' hk⟩
  · have ei:i=ds.length:=by omega
    subst ei;rw[uf] at e2;exact .inl ⟨(yl g2 H2 st).2 _ (B4 _),q.nx Γ _ g2 P2 xR H2 rfl (hn t e2) ((AU J m1 _).mono sub) s2 i2 r2⟩
section
variable {X:Cx} {F:Fr} {zS:Option Gm} {Γ wy xH yh:Gm} {Γo:Option Gm} {js jt jb J Jr:List Nat} {tg iter:Expr} {body:List N2} {src:Ev (List Dv)} {g:TG} {ft:Tg} {b:Es} {pos:Pos}
theorem Jq.pre{g g2 g3:G}{H H3:Hp}{P P2:Fp}(s:Step g P H g2 P2 H)(ok:wc g H P)(st:Jq g2 H g3 H3):Jq g H g3 H3:=by
 obtain⟨P3,P3',s3,ok3⟩:=st;exact⟨fun a=>P a\/P3 a,P3',(s.frame (R:=P3)).trans (s3.sub (fun _ z=>.inr z) fun _ z=>z),ok.or fun a z=>⟨(ok3 a z).1,fun w=>(ok3 a z).2 (s.zm a w)⟩⟩
theorem Yg{K:W.Frag}{σ:St}{H:Hp}{Q:It->Hp->Prop}(hw:CW xH wy=true)(h:tI K Γ xH js src σ H Q):tI K Γ wy js src σ H Q:=by
 obtain⟨g,m,P,r,R,k,res,e,q⟩:=h;refine⟨g,m,P,r,R,k,res,e,fun ds m' g' P' H' J hk ag s r1 yl=>?_⟩;obtain⟨g2,P2,s2,r2⟩:=r1.weaken hw;exact q ds m' g2 P2 H' J hk ag (s.trans s2) r2 fun g3 H3 st=>yl g3 H3 (st.pre s2 r1.wb)
theorem eT(hp:n8 (D4 X.prog X.w) X.A X.env X.xe)(hc:X.calm=true)(hi:PI X tg iter (tI X.K Γ wy js src))(hg:PG X tg g)(ht:QW X.K wy yh jt g ft)(yF:∀i∈F.io,i∉jt)(hb:Ee X body (tS X.K F (some wy) yh Γo jb b))(hw:MY (some wy) Γo=true)(hJ:J=Bi wy (jt++jb))
    (hs:∀x,Q6 iter X.env x=pure x):PS X (.For tg iter body [] pos) (tS X.K F zS Γ (some wy) (js++(jt++jb)) (XD src ft J b)):=PS.imp (Va hp hc hi hg hb hs) fun D σ H h=>by
  obtain⟨g0,m,P,r,R,k,res,e,q⟩:=h;refine⟨g0,m,P,r,R,_,res,e,fun ds m1 g1 P1 H1 I hk ag s r1 yl=>?_⟩;obtain⟨t,e1,e2⟩:=wW hk;refine RY (Jr:=Bi F.Γr (jt++jb)) ht yF hw hJ rfl r1 yl (fun ds t0=>AO _ ds t0=some t) e1 (fun t0 h=>?_) (fun d ds t0 h=>?_) (q.later s Io.refl ag)
  · cases h;exact e2
  · obtain⟨t1,h1,h2⟩:=wW h;refine⟨GT J,kC J,t1,h1,fun m' hk=>?_,fun m' hk=>?_,(fun m' hk=>by cases hk),fun d m' hk=>by cases hk⟩
    · cases hk;exact h2
    · cases hk;exact h2
theorem eS(hp:n8 (D4 X.prog X.w) X.A X.env X.xe)(hc:X.calm=true)(hi:PI X tg iter (tI X.K Γ wy js src))(hg:PG X tg g)(ht:QW X.K wy yh jt g ft)(yF:∀i∈F.io,i∉jt)(hb:Ee X body (tS X.K F (some wy) yh Γo jb b))(hw:MY (some wy) Γo=true)(hJ:J=Bi wy (jt++jb))(hJr:Jr=Bi F.Γr (jt++jb))
    (hs:∀x,Q6 iter X.env x=pure x):PS X (.For tg iter body [] pos) (tS X.K F zS Γ (some wy) (js++(jt++jb)) (XC src ft J Jr b)):=PS.imp (Va hp hc hi hg hb hs) fun D σ H h=>by
  obtain⟨g0,m,P,r,R,k,res,e,q⟩:=h;refine⟨g0,m,P,r,R,_,res,e,fun ds m1 g1 P1 H1 I hk ag s r1 yl=>?_⟩;obtain⟨x,e1,e2⟩:=wW hk;refine RY ht yF hw hJ hJr r1 yl (fun ds t0=>Ds _ ds t0=some x) e1 (fun t0 h=>?_) (fun d ds t0 h=>?_) (q.later s Io.refl ag)
  · cases h;exact e2
  · obtain⟨l,h1,h2⟩:=wW h;refine⟨_,kE J Jr,l,h1,fun m' hk=>?_,fun m' hk=>?_,fun m' hk=>?_,fun d m' hk=>?_⟩
    · cases hk;exact h2
    · cases hk;exact h2
    · cases hk;cases h2;exact e2
    · cases hk;cases h2;exact e2
end
def cq(n:Nat)(c:Ev Bool)(J:List Nat)(b:Es):Es:=fun R m k =>
 (bp (fun t=>c Bool (Av J m t) fun b _=>some b) (fun t=>b (GT J) (Av J m t) (kC J)) n (Al J m)).bind fun t=>k.nx (Av J m t)
theorem dZ{K:W.Frag}{F:Fr}{zS:Option Gm}{Γ Γc:Gm}{Γo:Option Gm}{jb:List Nat}{c:Ev Bool}{b:Es}{J Jr:List Nat}(hwc:CW Γ Γc=true)(hw:MY (some Γ) Γo=true)
    (hJ:J=Bi Γ jb) (hJr:Jr=Bi F.Γr jb) {m1:M} {D:Ends} {σ:St} {H1:Hp} {g1:G} {P1:Fp} {R:Type} {k:Kt R} {res:R}
    (r1:Rel K g1 H1 Γ m1 σ P1) (run:Nat->GT J->Prop) {n:Nat} (h0:run n (Al J m1))
    (hc:∀n t,run n t->∃bb,c Bool (Av J m1 t) (fun b _=>some b)=some bb/\if bb=true then ∃n',n' < n/\∃(B:Type) (κ:Kt B) (r:B),b B (Av J m1 t) κ=some r/\(∀m',κ.nx m'=some r->run n' (Al J m'))/\(∀m',κ.ct m'=some r->run n' (Al J m')) /\
      (∀m',κ.bk m'=some r->k.nx (Av J m1 (Al J m'))=some res)/\(∀d m',κ.rt d m'=some r->k.rt d (Av Jr m1 (Al Jr m'))=some res) else k.nx (Av J m1 t)=some res)
    (q:AcS K F zS g1 P1 H1 σ D (some Γ) jb m1 k res):Ul (tT K Γ Γc [] c) (tS K F (some Γ) Γ Γo jb b) D σ H1:=by
  have sub:∀i∈J,i∈jb:=fun i h=>BL (hJ▸h)
  have zBg:∀i∈Jr,i∈jb:=fun i h=>BL (hJr▸h)
  refine⟨fun n σ' H'=>∃g2 t P2,Step g1 P1 H1 g2 P2 H'/\Io F.io σ σ'/\Rel K g2 H' Γ (Av J m1 t) σ' P2/\run n t,⟨n,g1,Al J m1,P1,Step.refl,Io.refl,Pq r1,h0⟩,?_⟩;rintro n' xR H2 ⟨g2,t,P2,s2,i2,r2,e2⟩;obtain⟨bb,e3,e4⟩:=hc n' t e2;refine⟨g2,_,P2,r2,Bool,_,bb,e3,fun b' m' g3 P3 H3 hk ag s3 r3=>?_⟩;cases hk;obtain⟨g4,P4,s4,r4⟩:=r3.weaken hwc;have r5:Rel K g4 H3 Γ (Av J m1 t) xR P4:=r4.agree ag.1.symm fun i o _=>(ag.2 i (by simp)).symm
  have s5:=(s2.trans s3).trans s4;cases bb with
  | false=>rw[if_neg B9] at e4 ⊢;exact q.nx Γ _ g4 P4 xR H3 rfl e4 ((AU J m1 _).mono sub) s5 i2 r5
  | true =>
    rw[if_pos rfl] at e4 ⊢;obtain⟨n2,hn,B,κ,rB,eb,knx,kct,kbk,krt⟩:=e4;have a5:∀{m'},Bw jb (Av J m1 t) m'->Bw jb m1 m':=fun h=>(((AU J m1 t).mono sub).trans h).mono fun i z=>(E9.mp z).elim id id
    refine⟨fun σ' H'=>∃g5 P5 m',Step g1 P1 H1 g5 P5 H'/\Io F.io σ σ'/\Rel K g5 H' Γ m' σ' P5/\Bw jb m1 m'/\run n2 (Al J m'),?_,g4,_,P4,r5,B,κ,rB,eb,⟨fun Γ' m' g' P'' yg H' e hk zB s' i' rr=>?_,fun d m' g' P'' Pv yg v H' hk zB s' i' rv rr n=>?_,fun Γ' m' g' P'' yg H' e hk zB s' i' rr=>?_,fun Γ' m' g' P'' yg H' e hk zB s' i' rr=>?_⟩⟩
    · rintro σ' H' ⟨g6,P6,m',s6,i6,r6,ag6,hr⟩;exact⟨n2,hn,g6,Al J m',P6,s6,i6,r6.join ag6 fun i o h=>hJ▸Br h,hr⟩
    · subst e;obtain⟨g6,P6,s6,r6⟩:=rr.weaken (by unfold MY at hw;exact hw);exact⟨g6,P6,m',(s5.trans s').trans s6,i2.trans i',r6,a5 zB,knx m' hk⟩
    · exact q.rt d _ g' P'' Pv yg v H' (krt d m' hk) ((AU Jr m1 _).mono zBg) (s5.trans s') (i2.trans i') rv (rr.join (a5 zB) fun i o h=>hJr▸Br h) n
    · cases e;exact q.nx Γ _ g' P'' yg H' rfl (kbk m' hk) ((AU J m1 _).mono sub) (s5.trans s') (i2.trans i') (rr.join (a5 zB) fun i o h=>hJ▸Br h)
    · cases e;exact⟨g',P'',m',s5.trans s',i2.trans i',rr,a5 zB,kct m' hk⟩
section
variable {X:Cx} {F:Fr} {zS:Option Gm} {Γ Γc:Gm} {Γo:Option Gm} {jb J Jr:List Nat} {c:Expr} {body:List N2} {t:Ev Bool} {b:Es} {pos:Pos}
theorem jo(n:Nat)(hp:n8 (D4 X.prog X.w) X.A X.env X.xe)(hc:PT X c (tT X.K Γ Γc [] t))(hb:Ee X body (tS X.K F (some Γ) Γ Γo jb b))(hwc:CW Γ Γc=true)(hw:MY (some Γ) Γo=true)(hJ:J=Bi Γ jb) :
    PS X (.While c body [] pos) (tS X.K F zS Γ (some Γ) jb (cq n t J b)):=PS.imp (VZ hp hc hb) fun D σ H h=>by
  obtain⟨g0,m,P,r,R,k,res,e,q⟩:=h;obtain⟨t',e1,e2⟩:=wW e;refine dZ (Jr:=Bi F.Γr jb) hwc hw hJ rfl r (fun n t0=>bp _ _ n t0=some t') e1 (fun n t0 h=>?_) q;cases n with
  | zero=>cases h
  | succ n =>
    obtain⟨bb,h1,h2⟩:=wW h;refine⟨bb,h1,?_⟩;cases bb with
    | false=>rw[if_neg B9] at h2 ⊢;cases h2;exact e2
    | true =>
      rw[if_pos rfl] at h2 ⊢;obtain⟨t1,h3,h4⟩:=wW h2;refine⟨n,M1 n,GT J,kC J,t1,h3,fun m' hk=>?_,fun m' hk=>?_,(fun m' hk=>by cases hk),fun d m' hk=>by cases hk⟩
      · cases hk;exact h4
      · cases hk;exact h4
end
end R
namespace Q
open PySem L2
set_option genInjectivity true in
inductive Dt where
 | we | bl (b:Bool) | int (i:Int) | str (x:List Nat)
 | tup (xs:List Dt) | lst (o:Bool) (xs:List Dt) | dic (o:Bool) (wY:List (Dt×Dt)) | ref (k:Nat) | xV (ns:List Int) | ty (n:String) | mtp (ls:List (List Nat)) | dti (o:Bool) (wY:List (List Int×Int))
 deriving Inhabited
structure G where
 Z:B3->Prop
 μ:List B3
noncomputable def tru:Dt->Option Bool
 | .we=>some false
 | .bl b=>some b
 | .int i=>some (i != 0)
 | .str l=>if l.length<=1000000 then some (!l.isEmpty) else none
 | .tup ds=>some (!ds.isEmpty)
 | .lst _ ds=>some (!ds.isEmpty)
 | .xV ns=>some (!ns.isEmpty)
 | _=>none
end Q
namespace L3
open PySem PySem.Spec PyProof.Rows PySem.SeqAt L2
abbrev St:=L2.St
inductive D where
 | fl (v:V)
 | tup (ds:List D)
 | lst (ds:List D)
mutual
noncomputable def w9:D->D->Bool
 | .fl a,.fl b=>xc a b
 | .tup a,.tup b=>xi a b
 | .lst a,.lst b=>xi a b
 | _,_=>false
noncomputable def xi:List D->List D->Bool
 | [],[]=>true
 | x::xs,y::ys=>w9 x y && xi xs ys
 | _,_=>false
end
mutual
noncomputable def D.dep:D->Nat
 | .fl _=>0
 | .tup ds=>xf ds+1
 | .lst ds=>xf ds+1
noncomputable def xf:List D->Nat
 | []=>0
 | d::ds=>max d.dep (xf ds)
end
mutual
noncomputable def Is(K:W.Frag)(H:Hp):V->D->Prop
 | x,.fl v=>x=v/\JP v=true
 | x,.tup ds=>∃a xs,x=.ref a/\De K H a xs/\IsL K H xs ds
 | x,.lst ds=>∃a xs,x=.ref a/\Cy K H a xs/\IsL K H xs ds
noncomputable def IsL(K:W.Frag)(H:Hp):List V->List D->Prop
 | [],[]=>True
 | x::xs,d::ds=>Is K H x d/\IsL K H xs ds
 | _,_=>False
end
theorem IsL.inv{K:W.Frag}{H:Hp}{x:V}{xs:List V}{es:List D}(h:IsL K H (x::xs) es):∃d ds,es=d::ds/\Is K H x d/\IsL K H xs ds:=by
 cases es with
 | nil=>unfold IsL at h;exact h.elim
 | cons d ds=>unfold IsL at h;exact⟨d,ds,rfl,h.1,h.2⟩
theorem IsL.length{K:W.Frag}{H:Hp}:∀{xs:List V} {ds:List D},IsL K H xs ds->xs.length=ds.length
 | [],[],_=>rfl
 | [],_::_,h=>by unfold IsL at h;exact h.elim
 | _::_,[],h=>by unfold IsL at h;exact h.elim
 | x::xs,d::ds,h=>by unfold IsL at h;rw[D9,D9,IsL.length h.2]
theorem IsL.get{K:W.Frag}{H:Hp}:∀{xs:List V} {ds:List D} {i:Nat} {d:D},IsL K H xs ds->ds[i]?=some d->∃x,xs[i]?=some x/\Is K H x d
 | [],[],_,_,_,e=>by simp at e
 | [],_::_,_,_,h,_=>by unfold IsL at h;exact h.elim
 | _::_,[],_,_,_,e=>by simp at e
 | x::xs,d::ds,0,d',h,e=>by
  unfold IsL at h;have:d=d':=by simpa using e
  subst this;exact⟨x,rfl,h.1⟩
 | x::xs,d::ds,i+1,_,h,e=>by
  unfold IsL at h;obtain⟨y,e1,e2⟩:=IsL.get (i:=i) h.2 (by simpa using e);exact⟨y,by simpa using e1,e2⟩
theorem Qj{X:Cx}{pins:List (B3×Obj)}{σ:St}{H:Hp}{s:A7}{a:B3}{xs ys:List V}(I:Inv X pins σ H s)(h:De X.K H a xs)(k:Cy X.K H a ys):False:=by
 obtain⟨_,_,⟨o,e,c,_⟩,_⟩:=I.tuple h;obtain⟨_,_,⟨o',n,e',c',_⟩,_⟩:=I.list k;rw[e] at e';cases e';rw[c] at c';injection c' with q
 exact absurd q (by decide)
mutual
theorem Is.inj{X:Cx}{pins:List (B3×Obj)}{σ:St}{H:Hp}{s:A7}(I:Inv X pins σ H s):∀{d e:D} {x:V},Is X.K H x d->Is X.K H x e->d=e
 | .fl v,e,x,h,k=>by
  unfold Is at h;obtain⟨rfl,hf⟩:=h;cases e with
  | fl u=>unfold Is at k;rw[k.1]
  | tup es=>unfold Is at k;obtain⟨a,xs,rfl,_⟩:=k;cases hf
  | lst es=>unfold Is at k;obtain⟨a,xs,rfl,_⟩:=k;cases hf
 | .tup ds,e,x,h,k=>by
  unfold Is at h;obtain⟨a,xs,rfl,h1,h2⟩:=h;cases e with
  | fl u=>unfold Is at k;obtain⟨k1,k2⟩:=k;rw[<- k1] at k2;cases k2
  | tup es =>
   unfold Is at k;obtain⟨b,ys,e,k1,k2⟩:=k;cases e;rw[I.yG h1 k1] at h2;rw[IsL.inj I h2 k2]
  | lst es=>unfold Is at k;obtain⟨b,ys,e,k1,k2⟩:=k;cases e;exact(Qj I h1 k1).elim
 | .lst ds,e,x,h,k=>by
  unfold Is at h;obtain⟨a,xs,rfl,h1,h2⟩:=h;cases e with
  | fl u=>unfold Is at k;obtain⟨k1,k2⟩:=k;rw[<- k1] at k2;cases k2
  | lst es =>
   unfold Is at k;obtain⟨b,ys,e,k1,k2⟩:=k;cases e;rw[I.yo h1 k1] at h2;rw[IsL.inj I h2 k2]
  | tup es=>unfold Is at k;obtain⟨b,ys,e,k1,k2⟩:=k;cases e;exact(Qj I k1 h1).elim
theorem IsL.inj{X:Cx}{pins:List (B3×Obj)}{σ:St}{H:Hp}{s:A7}(I:Inv X pins σ H s):∀{ds es:List D} {xs:List V},IsL X.K H xs ds->IsL X.K H xs es->ds=es
 | [],es,[],h,k=>by
  cases es with
  | nil=>rfl
  | cons e es=>unfold IsL at k;exact k.elim
 | [],_,_::_,h,_=>by unfold IsL at h;exact h.elim
 | _::_,_,[],h,_=>by unfold IsL at h;exact h.elim
 | d::ds,es,x::xs,h,k=>by
  unfold IsL at h;obtain⟨e,es',rfl,k1,k2⟩:=k.inv;rw[Is.inj I h.1 k1,IsL.inj I h.2 k2]
end
theorem yC{v:V}(h:JP v=true):xc v v=true:=by
 cases v<;>first | rfl | (simp[xc];done) | cases h
mutual
theorem JZ{K:W.Frag}{H:Hp}:∀{d:D} {x:V},Is K H x d->w9 d d=true
 | .fl v,x,h=>by unfold Is at h;unfold w9;exact yC h.2
 | .tup ds,x,h=>by unfold Is at h;obtain⟨_,_,_,_,h2⟩:=h;unfold w9;exact HB h2
 | .lst ds,x,h=>by unfold Is at h;obtain⟨_,_,_,_,h2⟩:=h;unfold w9;exact HB h2
theorem HB{K:W.Frag}{H:Hp}:∀{ds:List D} {xs:List V},IsL K H xs ds->xi ds ds=true
 | [],_,_=>by unfold xi;rfl
 | _::_,[],h=>by unfold IsL at h;exact h.elim
 | d::ds,x::xs,h=>by
  unfold IsL at h;unfold xi;rw[JZ h.1,HB h.2];rfl
end
theorem CJ:∀(xs ys:List D) (e:Nat->Bool),(∀i x y,xs[i]?=some x->ys[i]?=some y->e i=w9 x y)->((A5 (min xs.length ys.length)).all e && xs.length == ys.length)=xi xs ys
 | [],[],_,_=>by unfold xi;rfl
 | [],_::_,_,_=>by unfold xi;simp
 | _::_,[],_,_=>by unfold xi;simp
 | x::xs,y::ys,e,h=>by
  have ih:=CJ xs ys (fun i=>e (i+1)) fun i a b h1 h2=>h (i+1) a b (by simpa using h1) (by simpa using h2)
  have h0:=h 0 x y rfl rfl;unfold xi;rw[<- ih,<- h0,D9,D9,Nat.succ_min_succ,rP,M3,uG];have:((xs.length+1 == ys.length+1):Bool)=(xs.length == ys.length):=by simp
  rw[this,Bool.and_assoc];rfl
theorem GG:∀{ds:List D} {i:Nat} {d:D},ds[i]?=some d->d.dep<=xf ds
 | [],_,_,e=>by simp at e
 | d::ds,0,d',e=>by
  have:d=d':=by simpa using e
  subst this;show d.dep<=xf (d::ds);unfold xf;exact Nat.le_max_left _ _
 | d::ds,i+1,x,e=>by
  have:=GG (ds:=ds) (i:=i) (d:=x) (by simpa using e);unfold xf;exact C4 this (Nat.le_max_right _ _)
section
variable {X:Cx} {pins:List (B3×Obj)} {σ:St} {H:Hp} {s:A7}
def Ri(ds es:List D)(i:Nat):Bool:=match ds[i]?,es[i]? with | some a,some b=>w9 a b | _,_=>true
theorem EY{ds es:List D}{i:Nat}{a b:D}(h1:ds[i]?=some a)(h2:es[i]?=some b):Ri ds es i=w9 a b:=by unfold Ri;rw[h1,h2]
theorem An{x:V}(h:JP x=true):x=.we\/(∃b,x=.bl b)\/(∃i,x=.int i)\/∃z,x=.str z:=by
 cases x with
 | we=>exact .inl rfl
 | bl b=>exact .inr (.inl ⟨b,rfl⟩)
 | int i=>exact .inr (.inr (.inl ⟨i,rfl⟩))
 | str z=>exact .inr (.inr (.inr ⟨z,rfl⟩))
 | _=>cases h
theorem XQ(I:Inv X pins σ H s):∀(n:Nat) (A:I9) (d e:D) (x y:V) (u v:Value),d.dep<=n->A.units+n < S4->RelV x u->RelV y v->Is X.K H x d->Is X.K H y e->EqAt A s u v (w9 d e):=by
 intro n
 induction n with
 | zero =>
  intro A d e x y u v hd hu rx ry hx hy;cases d with
  | fl a =>
   unfold Is at hx;obtain⟨rfl,fx⟩:=hx;cases e with
   | fl b=>unfold Is at hy;obtain⟨rfl,fy⟩:=hy;unfold w9;exact iJ rx ry fx fy
   | tup es =>
    unfold Is at hy;obtain⟨b,ys,rfl,h1,h2⟩:=hy;cases ry;obtain⟨its,r,ht,_⟩:=I.tuple h1;unfold w9;rcases An fx with rfl | ⟨c,rfl⟩ | ⟨c,rfl⟩ | ⟨c,rfl⟩
    ·cases rx;exact EqAt.none_tuple ht hu
    ·cases rx;exact EqAt.bool_tuple c ht hu
    ·obtain⟨t,rfl⟩:=rx;exact EqAt.int_tuple c t ht hu
    ·obtain⟨t,rfl⟩:=rx;exact EqAt.str_tuple c t ht hu
   | lst es =>
    unfold Is at hy;obtain⟨b,ys,rfl,h1,h2⟩:=hy;cases ry;obtain⟨its,r,ht,_⟩:=I.list h1;unfold w9;rcases An fx with rfl | ⟨c,rfl⟩ | ⟨c,rfl⟩ | ⟨c,rfl⟩
    ·cases rx;exact EqAt.none_list ht.isList hu
    ·cases rx;exact EqAt.bool_list c ht.isList hu
    ·obtain⟨t,rfl⟩:=rx;exact EqAt.int_list c t ht.isList hu
    ·obtain⟨t,rfl⟩:=rx;exact EqAt.str_list c t ht.isList hu
  | tup ds=>unfold D.dep at hd;omega
  | lst ds=>unfold D.dep at hd;omega
 | succ n ih =>
  intro A d e x y u v hd hu rx ry hx hy;have w8:A.units < S4:=by omega
  cases d with
  | fl a=>exact ih A (.fl a) e x y u v (by unfold D.dep;omega) (by omega) rx ry hx hy
  | tup ds =>
   unfold D.dep at hd;have hx0:=hx;unfold Is at hx;obtain⟨a,xs,rfl,h1,h2⟩:=hx;cases rx;obtain⟨its,r,ht,_⟩:=I.tuple h1;cases e with
   | fl b =>
    unfold Is at hy;obtain⟨rfl,fy⟩:=hy;unfold w9;rcases An fy with rfl | ⟨c,rfl⟩ | ⟨c,rfl⟩ | ⟨c,rfl⟩
    ·cases ry;exact EqAt.tuple_none ht w8
    ·cases ry;exact EqAt.tuple_bool c ht w8
    ·obtain⟨t,rfl⟩:=ry;exact EqAt.tuple_int c t ht w8
    ·obtain⟨t,rfl⟩:=ry;exact EqAt.tuple_str c t ht w8
   | tup es =>
    have hy0:=hy;unfold Is at hy;obtain⟨b,ys,rfl,k1,k2⟩:=hy;cases ry;obtain⟨wg,r2,w6,_⟩:=I.tuple k1
    by_cases hab:a=b
    ·subst hab;rw[Is.inj I hx0 hy0,JZ hy0];exact EqAt.same _
    ·refine EqAt.of_refs hab ?_;have q:=RcAt.tuples (e:=Ri ds es) ht w6 w8 (fun j j1 j2=>?_)
     ·have e1:=CJ ds es (Ri ds es) fun i a b q1 q2=>EY q1 q2
      rw[B0,B0,<- r.length,<- r2.length,h2.length,k2.length,e1] at q;unfold w9;exact q
     ·have j1':j < its.length:=by simpa using j1
      have j2':j < wg.length:=by simpa using j2
      have l1:j < ds.length:=by rw[<- h2.length,r.length];exact j1'
      have l2:j < es.length:=by rw[<- k2.length,r2.length];exact j2'
      obtain⟨x',ex,px⟩:=h2.get (i:=j) (A4 l1);obtain⟨y',ey,py⟩:=k2.get (i:=j) (A4 l2);obtain⟨u',eu,ru⟩:=r.get ex;obtain⟨v',ev,rv⟩:=r2.get ey;rw[EY (A4 l1) (A4 l2)];have z1:its.toArray[j]=u':=by rw[A4 j1'] at eu;simpa using D5 eu
      have z2:wg.toArray[j]=v':=by rw[A4 j2'] at ev;simpa using D5 ev
      rw[z1,z2];exact ih A.in1 _ _ x' y' u' v' (C4 (GG (A4 l1)) (by omega)) (by show A.units+1+n < S4;omega) ru rv px py
   | lst es =>
    unfold Is at hy;obtain⟨b,ys,rfl,k1,k2⟩:=hy;cases ry;obtain⟨wg,r2,w6,_⟩:=I.list k1;unfold w9;exact EqAt.tuple_list ht w6.isList w8
  | lst ds =>
   unfold D.dep at hd;have hx0:=hx;unfold Is at hx;obtain⟨a,xs,rfl,h1,h2⟩:=hx;cases rx;obtain⟨its,r,ht,_⟩:=I.list h1;cases e with
   | fl b =>
    unfold Is at hy;obtain⟨rfl,fy⟩:=hy;unfold w9;rcases An fy with rfl | ⟨c,rfl⟩ | ⟨c,rfl⟩ | ⟨c,rfl⟩
    ·cases ry;exact EqAt.list_none ht.isList w8
    ·cases ry;exact EqAt.list_bool c ht.isList w8
    ·obtain⟨t,rfl⟩:=ry;exact EqAt.list_int c t ht.isList w8
    ·obtain⟨t,rfl⟩:=ry;exact EqAt.list_str c t ht.isList w8
   | tup es =>
    unfold Is at hy;obtain⟨b,ys,rfl,k1,k2⟩:=hy;cases ry;obtain⟨wg,r2,w6,_⟩:=I.tuple k1;unfold w9;exact EqAt.list_tuple ht.isList w6 w8
   | lst es =>
    have hy0:=hy;unfold Is at hy;obtain⟨b,ys,rfl,k1,k2⟩:=hy;cases ry;obtain⟨wg,r2,w6,_⟩:=I.list k1
    by_cases hab:a=b
    ·subst hab;rw[Is.inj I hx0 hy0,JZ hy0];exact EqAt.same _
    ·refine EqAt.of_refs hab ?_
     by_cases hsz:ds.length=es.length
     ·have e1:=CJ ds es (Ri ds es) fun i a b q1 q2=>EY q1 q2
      rw[hsz,rQ,beq_self_eq_true,sk] at e1;have q:=RcAt.lists (e:=Ri ds es) ht.isList w6.isList (by rw[B0,B0,<- r.length,<- r2.length,h2.length,k2.length];exact hsz) w8 (fun j j1 j2=>?_)
      ·rw[B0,<- r.length,h2.length,hsz,e1] at q;unfold w9;exact q
      ·have j1':j < its.length:=by simpa using j1
       have j2':j < wg.length:=by simpa using j2
       have l1:j < ds.length:=by rw[<- h2.length,r.length];exact j1'
       have l2:j < es.length:=by rw[<- k2.length,r2.length];exact j2'
       obtain⟨x',ex,px⟩:=h2.get (i:=j) (A4 l1);obtain⟨y',ey,py⟩:=k2.get (i:=j) (A4 l2);obtain⟨u',eu,ru⟩:=r.get ex;obtain⟨v',ev,rv⟩:=r2.get ey;rw[EY (A4 l1) (A4 l2)];have z1:its.toArray[j]=u':=by rw[A4 j1'] at eu;simpa using D5 eu
       have z2:wg.toArray[j]=v':=by rw[A4 j2'] at ev;simpa using D5 ev
       rw[z1,z2];exact ih A.in1 _ _ x' y' u' v' (C4 (GG (A4 l1)) (by omega)) (by show A.units+1+n < S4;omega) ru rv px py
     ·have q:=RcAt.lists_lengths (A:=A) ht.isList w6.isList (by rw[B0,B0,<- r.length,<- r2.length,h2.length,k2.length];simpa using hsz) w8;have e1:=CJ ds es (Ri ds es) fun i a b q1 q2=>EY q1 q2
      have:(ds.length == es.length)=false:=by simpa using hsz
      rw[this,o8] at e1;unfold w9;rw[<- e1];exact q
end
noncomputable def D.seq:D->Bool
 | .fl _=>false
 | _=>true
section
variable {X:Cx} {pins:List (B3×Obj)} {σ:St} {H:Hp} {s:A7}
theorem NV(I:Inv X pins σ H s){n:Nat}{A:I9}{xs ys:List V}{ds es:List D}{its wg:List Value}(hd:xf ds<=n)(hu:A.units+1+n < S4)(r:AF xs its)(r2:AF ys wg)(h2:IsL X.K H xs ds)(k2:IsL X.K H ys es) :
    ∀j (h1:j < its.toArray.size) (h2:j < wg.toArray.size),EqAt A.in1 s its.toArray[j] wg.toArray[j] (Ri ds es j):=fun j j1 j2=>by
  have j1':j < its.length:=by simpa using j1
  have j2':j < wg.length:=by simpa using j2
  have l1:j < ds.length:=by rw[<- h2.length,r.length];exact j1'
  have l2:j < es.length:=by rw[<- k2.length,r2.length];exact j2'
  obtain⟨x',ex,px⟩:=h2.get (i:=j) (A4 l1);obtain⟨y',ey,py⟩:=k2.get (i:=j) (A4 l2);obtain⟨u',eu,ru⟩:=r.get ex;obtain⟨v',ev,rv⟩:=r2.get ey;rw[EY (A4 l1) (A4 l2)];have z1:its.toArray[j]=u':=by rw[A4 j1'] at eu;simpa using D5 eu
  have z2:wg.toArray[j]=v':=by rw[A4 j2'] at ev;simpa using D5 ev
  rw[z1,z2];exact XQ I n A.in1 _ _ x' y' u' v' (C4 (GG (A4 l1)) hd) (by show A.units+1+n < S4;exact hu) ru rv px py
theorem Lf(I:Inv X pins σ H s){A:I9}{d e:D}{x y:V}{u v:Value}(sd:d.seq=true)(se:e.seq=true)(hu:A.units+d.dep+1 < S4)(rx:RelV x u)(ry:RelV y v)(hx:Is X.K H x d)(hy:Is X.K H y e):RcAt A s u v (w9 d e)/\RcNeAt A s u v (!w9 d e):=by
 have w8:A.units < S4:=by omega
 cases d with
 | fl a=>cases sd
 | tup ds =>
  unfold D.dep at hu;unfold Is at hx;obtain⟨a,xs,rfl,h1,h2⟩:=hx;cases rx;obtain⟨its,r,ht,_⟩:=I.tuple h1;cases e with
  | fl b=>cases se
  | tup es =>
   unfold Is at hy;obtain⟨b,ys,rfl,k1,k2⟩:=hy;cases ry;obtain⟨wg,r2,w6,_⟩:=I.tuple k1;have e1:=CJ ds es (Ri ds es) fun i a b q1 q2=>EY q1 q2
   have it:=NV I (A:=A) (n:=xf ds) (B4 _) (by omega) r r2 h2 k2;have q:=RcAt.tuples (e:=Ri ds es) ht w6 w8 it;have q':=RcNeAt.tuples (e:=Ri ds es) ht w6 w8 it;rw[B0,B0,<- r.length,<- r2.length,h2.length,k2.length,e1] at q q';unfold w9;exact⟨q,q'⟩
  | lst es =>
   unfold Is at hy;obtain⟨b,ys,rfl,k1,k2⟩:=hy;cases ry;obtain⟨wg,r2,w6,_⟩:=I.list k1;unfold w9;exact⟨RcAt.tuple_list ht w6.isList w8,RcNeAt.tuple_list ht w6.isList w8⟩
 | lst ds =>
  unfold D.dep at hu;unfold Is at hx;obtain⟨a,xs,rfl,h1,h2⟩:=hx;cases rx;obtain⟨its,r,ht,_⟩:=I.list h1;cases e with
  | fl b=>cases se
  | tup es =>
   unfold Is at hy;obtain⟨b,ys,rfl,k1,k2⟩:=hy;cases ry;obtain⟨wg,r2,w6,_⟩:=I.tuple k1;unfold w9;exact⟨RcAt.list_tuple ht.isList w6 w8,RcNeAt.list_tuple ht.isList w6 w8⟩
  | lst es =>
   unfold Is at hy;obtain⟨b,ys,rfl,k1,k2⟩:=hy;cases ry;obtain⟨wg,r2,w6,_⟩:=I.list k1;have e1:=CJ ds es (Ri ds es) fun i a b q1 q2=>EY q1 q2
   unfold w9
   by_cases hsz:ds.length=es.length
   ·rw[hsz,rQ,beq_self_eq_true,sk] at e1;have it:=NV I (A:=A) (n:=xf ds) (B4 _) (by omega) r r2 h2 k2;have sz:its.toArray.size=wg.toArray.size:=by rw[B0,B0,<- r.length,<- r2.length,h2.length,k2.length];exact hsz
    have q:=RcAt.lists (e:=Ri ds es) ht.isList w6.isList sz w8 it;have q':=RcNeAt.lists (e:=Ri ds es) ht.isList w6.isList sz w8 it;rw[B0,<- r.length,h2.length,hsz,e1] at q q';exact⟨q,q'⟩
   ·have sz:(its.toArray.size != wg.toArray.size)=true:=by rw[B0,B0,<- r.length,<- r2.length,h2.length,k2.length];simpa using hsz
    have:(ds.length == es.length)=false:=by simpa using hsz
    rw[this,o8] at e1;rw[<- e1];exact⟨RcAt.lists_lengths ht.isList w6.isList sz w8,RcNeAt.lists_lengths ht.isList w6.isList sz w8⟩
end
section
variable {X:Cx} {pins:List (B3×Obj)} {σ:L2.St} {H:Hp} {s:A7}
theorem ZP{A:I9}{x y:V}{u v:Value}(rx:RelV x u)(ry:RelV y v)(fx:JP x=true)(fy:JP y=true):RcAt A s u v (xc x y)/\RcNeAt A s u v (!xc x y):=by
 rcases An fx with rfl | ⟨c,rfl⟩ | ⟨c,rfl⟩ | ⟨c,rfl⟩<;>rcases An fy with rfl | ⟨d,rfl⟩ | ⟨d,rfl⟩ | ⟨d,rfl⟩
 ·cases rx;cases ry;exact⟨RcAt.none_none , RcNeAt.none_none ⟩
 ·cases rx;cases ry;exact⟨RcAt.none_bool d,RcNeAt.none_bool d⟩
 ·cases rx;obtain⟨dt,rfl⟩:=ry;exact⟨RcAt.none_int d dt,RcNeAt.none_int d dt⟩
 ·cases rx;obtain⟨dt,rfl⟩:=ry;exact⟨RcAt.none_str d dt,RcNeAt.none_str d dt⟩
 ·cases rx;cases ry;exact⟨RcAt.bool_none c,RcNeAt.bool_none c⟩
 ·cases rx;cases ry;exact⟨RcAt.bool_bool c d,RcNeAt.bool_bool c d⟩
 ·cases rx;obtain⟨dt,rfl⟩:=ry;exact⟨RcAt.bool_int c d dt,RcNeAt.bool_int c d dt⟩
 ·cases rx;obtain⟨dt,rfl⟩:=ry;exact⟨RcAt.bool_str c d dt,RcNeAt.bool_str c d dt⟩
 ·obtain⟨ct,rfl⟩:=rx;cases ry;exact⟨RcAt.int_none c ct,RcNeAt.int_none c ct⟩
 ·obtain⟨ct,rfl⟩:=rx;cases ry;exact⟨RcAt.int_bool c ct d,RcNeAt.int_bool c ct d⟩
 ·obtain⟨ct,rfl⟩:=rx;obtain⟨dt,rfl⟩:=ry;exact⟨RcAt.int_int c ct d dt,RcNeAt.int_int c ct d dt⟩
 ·obtain⟨ct,rfl⟩:=rx;obtain⟨dt,rfl⟩:=ry;exact⟨RcAt.int_str c ct d dt,RcNeAt.int_str c ct d dt⟩
 ·obtain⟨ct,rfl⟩:=rx;cases ry;exact⟨RcAt.str_none c ct,RcNeAt.str_none c ct⟩
 ·obtain⟨ct,rfl⟩:=rx;cases ry;exact⟨RcAt.str_bool c ct d,RcNeAt.str_bool c ct d⟩
 ·obtain⟨ct,rfl⟩:=rx;obtain⟨dt,rfl⟩:=ry;exact⟨RcAt.str_int c ct d dt,RcNeAt.str_int c ct d dt⟩
 ·obtain⟨ct,rfl⟩:=rx;obtain⟨dt,rfl⟩:=ry;exact⟨RcAt.str_str c ct d dt,RcNeAt.str_str c ct d dt⟩
theorem Mt(I:Inv X pins σ H s){A:I9}{d e:D}{x y:V}{u v:Value}(hu:A.units+d.dep+1 < S4)(rx:RelV x u)(ry:RelV y v)(hx:Is X.K H x d)(hy:Is X.K H y e):RcAt A s u v (w9 d e)/\RcNeAt A s u v (!w9 d e):=by
 have w8:A.units < S4:=by omega
 cases d with
 | fl a =>
  unfold Is at hx;obtain⟨rfl,fx⟩:=hx;cases e with
  | fl b =>
   unfold Is at hy;obtain⟨rfl,fy⟩:=hy;unfold w9;exact ZP rx ry fx fy
  | tup es =>
   unfold Is at hy;obtain⟨b,ys,rfl,k1,k2⟩:=hy;cases ry;obtain⟨wg,r2,w6,_⟩:=I.tuple k1;unfold w9;rcases An fx with rfl | ⟨c,rfl⟩ | ⟨c,rfl⟩ | ⟨c,rfl⟩
   ·cases rx;exact⟨RcAt.none_tuple w6 w8,RcNeAt.none_tuple w6 w8⟩
   ·cases rx;exact⟨RcAt.bool_tuple c w6 w8,RcNeAt.bool_tuple c w6 w8⟩
   ·obtain⟨t,rfl⟩:=rx;exact⟨RcAt.int_tuple c t w6 w8,RcNeAt.int_tuple c t w6 w8⟩
   ·obtain⟨t,rfl⟩:=rx;exact⟨RcAt.str_tuple c t w6 w8,RcNeAt.str_tuple c t w6 w8⟩
  | lst es =>
   unfold Is at hy;obtain⟨b,ys,rfl,k1,k2⟩:=hy;cases ry;obtain⟨wg,r2,w6,_⟩:=I.list k1;unfold w9;rcases An fx with rfl | ⟨c,rfl⟩ | ⟨c,rfl⟩ | ⟨c,rfl⟩
   ·cases rx;exact⟨RcAt.none_list w6.isList w8,RcNeAt.none_list w6.isList w8⟩
   ·cases rx;exact⟨RcAt.bool_list c w6.isList w8,RcNeAt.bool_list c w6.isList w8⟩
   ·obtain⟨t,rfl⟩:=rx;exact⟨RcAt.int_list c t w6.isList w8,RcNeAt.int_list c t w6.isList w8⟩
   ·obtain⟨t,rfl⟩:=rx;exact⟨RcAt.str_list c t w6.isList w8,RcNeAt.str_list c t w6.isList w8⟩
 | tup ds =>
  cases e with
  | fl b =>
   unfold Is at hx hy;obtain⟨b',ys,rfl,k1,k2⟩:=hx;obtain⟨rfl,fy⟩:=hy;cases rx;obtain⟨wg,r2,w6,_⟩:=I.tuple k1;unfold w9;rcases An fy with rfl | ⟨c,rfl⟩ | ⟨c,rfl⟩ | ⟨c,rfl⟩
   ·cases ry;exact⟨RcAt.tuple_none w6 w8,RcNeAt.tuple_none w6 w8⟩
   ·cases ry;exact⟨RcAt.tuple_bool c w6 w8,RcNeAt.tuple_bool c w6 w8⟩
   ·obtain⟨t,rfl⟩:=ry;exact⟨RcAt.tuple_int c t w6 w8,RcNeAt.tuple_int c t w6 w8⟩
   ·obtain⟨t,rfl⟩:=ry;exact⟨RcAt.tuple_str c t w6 w8,RcNeAt.tuple_str c t w6 w8⟩
  | tup es=>exact Lf I rfl rfl hu rx ry hx hy
  | lst es=>exact Lf I rfl rfl hu rx ry hx hy
 | lst ds =>
  cases e with
  | fl b =>
   unfold Is at hx hy;obtain⟨b',ys,rfl,k1,k2⟩:=hx;obtain⟨rfl,fy⟩:=hy;cases rx;obtain⟨wg,r2,w6,_⟩:=I.list k1;unfold w9;rcases An fy with rfl | ⟨c,rfl⟩ | ⟨c,rfl⟩ | ⟨c,rfl⟩
   ·cases ry;exact⟨RcAt.list_none w6.isList w8,RcNeAt.list_none w6.isList w8⟩
   ·cases ry;exact⟨RcAt.list_bool c w6.isList w8,RcNeAt.list_bool c w6.isList w8⟩
   ·obtain⟨t,rfl⟩:=ry;exact⟨RcAt.list_int c t w6.isList w8,RcNeAt.list_int c t w6.isList w8⟩
   ·obtain⟨t,rfl⟩:=ry;exact⟨RcAt.list_str c t w6.isList w8,RcNeAt.list_str c t w6.isList w8⟩
  | tup es=>exact Lf I rfl rfl hu rx ry hx hy
  | lst es=>exact Lf I rfl rfl hu rx ry hx hy
def zBl(K:W.Frag)(neg:Bool):R2:=fun x y H Q=>∃d e,d.dep<=150/\Is K H x d/\Is K H y e/\Q (.bl (if neg then !w9 d e else w9 d e)) H
theorem zBq{j:Nat}(hr:wt j X.A):Ef X (U1 .Eq) (zBl X.K false):=by
 intro pins s σ H x y v u Q I rx ry h;obtain⟨d,e,hd,hx,hy,q⟩:=h;have:=hr.un;exact(Mt I (by omega) rx ry hx hy).1 X.prog X.w _ _ ⟨.bl _,H,I,rfl,q⟩
theorem zBn{j:Nat}(hr:wt j X.A):Ef X (U1 .NotEq) (zBl X.K true):=by
 intro pins s σ H x y v u Q I rx ry h;obtain⟨d,e,hd,hx,hy,q⟩:=h;have:=hr.un;exact(Mt I (by omega) rx ry hx hy).2 X.prog X.w _ _ ⟨.bl _,H,I,rfl,q⟩
open Classical in
def eqW(its:List Value)(ds:List D)(e:D)(u:Value):Bool:=decide (∃(i:Nat) (d:D),its[i]?=some u/\ds[i]?=some d/\w9 d e=true)
open Classical in
theorem yt(I:Inv X pins σ H s){xs:List V}{its:List Value}{ds:List D}(r:AF xs its)(h:IsL X.K H xs ds){e:D}{i:Nat}{u:Value}{d:D}(hu:its[i]?=some u)(hd:ds[i]?=some d):eqW its ds e u=w9 d e:=by
 have key:∀(j:Nat) (d':D),its[j]?=some u->ds[j]?=some d'->d'=d:=fun j d' h1 h2=>by
  obtain⟨x,ex,px⟩:=h.get hd;obtain⟨y,ey,py⟩:=h.get h2;obtain⟨u1,e1,r1⟩:=r.get ex;obtain⟨u2,e2,r2⟩:=r.get ey;rw[hu] at e1;cases e1;rw[h1] at e2;cases e2;rw[r2.inj r1] at py;exact Is.inj I py px
 unfold eqW;cases q:w9 d e with
 | true=>exact decide_eq_true ⟨i,d,hu,hd,q⟩
 | false =>
  refine decide_eq_false ?_;rintro⟨j,d',h1,h2,h3⟩;rw[key j d' h1 h2,q] at h3;cases h3
theorem Rx(I:Inv X pins σ H s){xs:List V}{its:List Value}{ds:List D}(r:AF xs its)(h:IsL X.K H xs ds)(e:D):its.any (eqW its ds e)=ds.any fun d=>w9 d e:=by
 rw[Y2,U6,U6];have hl:its.length=ds.length:=by rw[<- r.length,h.length]
 constructor
 ·rintro⟨u,hu,q⟩;obtain⟨i,hi,rfl⟩:=U0 hu;have hd:ds[i]?=some ds[i]:=A4 (by omega);rw[yt I r h (A4 hi) hd] at q;exact⟨_,N8 hd,q⟩
 ·rintro⟨d,hd,q⟩;obtain⟨i,hi,rfl⟩:=U0 hd;have hu:its[i]?=some its[i]:=A4 (by omega);exact⟨_,N8 hu,by rw[yt I r h hu (A4 hi)];exact q⟩
theorem yf(I:Inv X pins σ H s){A:I9}{xs:List V}{its:List Value}{ds:List D}(r:AF xs its)(h:IsL X.K H xs ds){e:D}{y:V}{v:Value}(ry:RelV y v)(hy:Is X.K H y e)(hd:xf ds<=150)(hu:A.units+150 < S4):∀w∈its,EqAt A s w v (eqW its ds e w):=fun w hw=>by
 obtain⟨i,hi,rfl⟩:=U0 hw;have hl:its.length=ds.length:=by rw[<- r.length,h.length]
 have hdi:ds[i]?=some ds[i]:=A4 (by omega);rw[yt I r h (A4 hi) hdi];obtain⟨x,ex,px⟩:=h.get hdi;obtain⟨u1,e1,r1⟩:=r.get ex;rw[A4 hi] at e1;cases e1;exact XQ I 150 A _ _ x y _ _ (C4 (GG hdi) hd) hu r1 ry px hy
def zBk(K:W.Frag)(neg:Bool):R2:=fun x y H Q=>∃p ys ds e,y=.ref p/\(Cy K H p ys\/De K H p ys)/\IsL K H ys ds/\Is K H x e/\xf ds<=150/\Q (.bl (if neg then !(ds.any fun d=>w9 d e) else ds.any fun d=>w9 d e)) H
theorem zBp{j:Nat}(hr:wt j X.A):Ef X (U1 .In) (zBk X.K false):=by
 intro pins s σ H x y v u Q I rx ry h;obtain⟨p,ys,ds,e,rfl,hq,hl,hx,hd,q⟩:=h;have hu:X.A.units+1+150 < S4:=by have:=hr.un;omega
 cases ry;rcases hq with hq | hq
 ·obtain⟨its,r,pl,hz⟩:=I.list hq;refine SeqAt.in_listAt (eqW its ds e) pl.isList (fun w hw=>yf I r hl rx hx hd hu w (by simpa using hw)) ⟨.bl _,H,I,rfl,?_⟩;rw[show its.toArray.any (eqW its ds e)=its.any (eqW its ds e) by simp,Rx I r hl];exact q
 ·obtain⟨its,r,pl,hz⟩:=I.tuple hq;refine SeqAt.in_tupleAt (eqW its ds e) pl (fun w hw=>yf I r hl rx hx hd hu w (by simpa using hw)) ⟨.bl _,H,I,rfl,?_⟩;rw[show its.toArray.any (eqW its ds e)=its.any (eqW its ds e) by simp,Rx I r hl];exact q
end
end L3
namespace Q
open PySem L2
mutual
noncomputable def toD:Dt->L3.D
 | .we=>.fl .we
 | .bl b=>.fl (.bl b)
 | .int i=>.fl (.int i)
 | .str l=>.fl (.str (tx l))
 | .tup xs=>.tup (wx xs)
 | .lst _ xs=>.lst (wx xs)
 | _=>.fl .we
noncomputable def wx:List Dt->List L3.D
 | []=>[]
 | d::ds=>toD d::wx ds
end
mutual
noncomputable def Dt.cmp:Dt->Bool
 | .we=>true
 | .bl _=>true
 | .int _=>true
 | .str _=>true
 | .tup xs=>zAd xs
 | .lst _ xs=>zAd xs
 | _=>false
noncomputable def zAd:List Dt->Bool
 | []=>true
 | d::ds=>d.cmp && zAd ds
end
mutual
noncomputable def eqT:Dt->Dt->Bool
 | .we,.we=>true
 | .bl a,.bl b=>a == b
 | .bl a,.int b=>(if a then 1 else 0) == b
 | .int a,.bl b=>a == (if b then 1 else 0)
 | .int a,.int b=>a == b
 | .str a,.str b=>a == b
 | .tup xs,.tup ys=>iI xs ys
 | .lst _ xs,.lst _ ys=>iI xs ys
 | _,_=>false
noncomputable def iI:List Dt->List Dt->Bool
 | [],[]=>true
 | x::xs,y::ys=>eqT x y && iI xs ys
 | _,_=>false
end
section
variable {K:W.Frag} {g:G} {H:Hp}
def zCQ(x l:List Nat):Bool:=!(U2 (tx l) (tx x) 0 (tx l).length 1).isEmpty
def kX(neg:Bool):R2:=fun x y H Q=>∃i j,x=.str i/\y=.str j/\Q (.bl (if neg then !(!(U2 j i 0 j.length 1).isEmpty) else !(U2 j i 0 j.length 1).isEmpty)) H
def zCV(K:W.Frag)(neg:Bool):R2:=fun x y H Q=>kX neg x y H Q\/L3.zBk K neg x y H Q
noncomputable def mxI:List Int->Int
 | []=>0
 | [a]=>a
 | a::r=>max a (mxI r)
end
section
variable {K:W.Frag}
def zAM(K:W.Frag):V->List V->Hp->VK->Prop:=fun x vs H Q=>∃p xs y ds e j,x=.ref p/\vs=[y]/\Cy K H p xs/\L3.IsL K H xs ds/\L3.Is K H y e/\L3.xf ds<=150/\(∃d,ds[j]?=some d/\L3.w9 d e=true)/\(∀(m:Nat) (d:L3.D),m < j->ds[m]?=some d->L3.w9 d e=false)/\Q (.int (j:Nat)) H
theorem zAZ{X:Cx}{j:Nat}(hr:wt j X.A):UX X "list.index" (zAM X.K):=by
 intro pins s σ H x vs v us Q I rx rv h;obtain⟨p,xs,y,ds,e,j,rfl,rfl,hp,hds,hy,hdp,⟨dj,ej,hit⟩,hno,q⟩:=h;cases rx;obtain⟨u,rfl,ru⟩:=rv.one;obtain⟨its,r,pl,hz⟩:=I.list hp;obtain⟨⟨cls,dd,data,sl⟩,ho,hc,n,hd⟩:=pl.isList;simp only at hc hd;subst hc hd;have hu:X.A.units+1+150 < S4:=by have:=hr.un;omega
 have hl:its.length=ds.length:=by rw[<- r.length,hds.length]
 have hj:j < ds.length:=(B5.mp ej).1;have hs:sizeLine=16777216:=N6;have hxl:=r.length;have at_:∀m (hm:m < its.toArray.size),∃d,ds[m]?=some d/\L3.eqW its ds e its.toArray[m]=L3.w9 d e:=fun m hm=>by
  have hm':m < its.length:=by simpa using hm
  have hd:ds[m]?=some ds[m]:=A4 (by omega);exact⟨ds[m],hd,by simpa using L3.yt I r hds (A4 hm') hd⟩
 refine call_meets F.slot_list_index ⟨_,ho,rfl⟩ F.entry_list_index (F.args_list_index_2 _ _)
  (SeqAt.list_indexAt p its.toArray n dd sl u (L3.eqW its ds e) j (by simpa[hl] using hj) (by omega) ?_ ?_) ⟨ho,fun w hw=>L3.yf I r hds ru hy hdp hu w (by simpa using hw),⟨.int (j:Nat),H,I.tok _,⟨_,rfl⟩,q⟩⟩
 ·obtain⟨w,e1,e2⟩:=at_ j (by simpa[hl] using hj);rw[ej] at e1;cases e1;rw[e2];exact hit
 ·intro m hm xF;obtain⟨w,e1,e2⟩:=at_ m hm;rw[e2];exact hno m w xF e1
def zV(K:W.Frag):V->List V->Hp->VK->Prop:=fun x vs H Q=>∃p xs y ds e j,x=.ref p/\vs=[y]/\H p=some (.tup xs)/\L3.IsL K H xs ds/\L3.Is K H y e/\L3.xf ds<=150/\(∃d,ds[j]?=some d/\L3.w9 d e=true)/\(∀(m:Nat) (d:L3.D),m < j->ds[m]?=some d->L3.w9 d e=false)/\Q (.int (j:Nat)) H
theorem zAF{X:Cx}{j:Nat}(hr:wt j X.A):UX X "tuple.index" (zV X.K):=by
 intro pins s σ H x vs v us Q I rx rv h;obtain⟨p,xs,y,ds,e,j,rfl,rfl,hp,hds,hy,hdp,⟨dj,ej,hit⟩,hno,q⟩:=h;cases rx;obtain⟨u,rfl,ru⟩:=rv.one;obtain⟨hz,its,r,⟨cls,dd,data,sl⟩,ho,hc,hdd,n,hd⟩:=I.wj p _ hp;simp only at hc hd;subst hc hd;have hu:X.A.units+1+150 < S4:=by have:=hr.un;omega
 have hl:its.length=ds.length:=by rw[<- r.length,hds.length]
 have hj:j < ds.length:=(B5.mp ej).1;have at_:∀m (hm:m < its.toArray.size),∃d,ds[m]?=some d/\L3.eqW its ds e its.toArray[m]=L3.w9 d e:=fun m hm=>by
  have hm':m < its.length:=by simpa using hm
  have hd:ds[m]?=some ds[m]:=A4 (by omega);exact⟨ds[m],hd,by simpa using L3.yt I r hds (A4 hm') hd⟩
 refine call_meets F.slot_tuple_index ⟨_,ho,rfl⟩ F.entry_tuple_index (F.args_tuple_index_2 _ _)
  (Jv p its.toArray n dd sl u (L3.eqW its ds e) j (by simpa[hl] using hj) ?_ ?_) ⟨ho,fun w hw=>L3.yf I r hds ru hy hdp hu w (by simpa using hw),⟨.int (j:Nat),H,I.tok _,⟨_,rfl⟩,q⟩⟩
 ·obtain⟨w,e1,e2⟩:=at_ j (by simpa[hl] using hj);rw[ej] at e1;cases e1;rw[e2];exact hit
 ·intro m hm xF;obtain⟨w,e1,e2⟩:=at_ m hm;rw[e2];exact hno m w xF e1
end
section
variable {K:W.Frag}
noncomputable def zBV(k T:String):Bool:=k == T || (k == "bool" && T == "int")
theorem zBw(K:W.Frag){k T:String}(hk:k∈["NoneType", "bool", "int", "str", "tuple", "list"])(hT:T∈["int", "bool", "str", "tuple", "list"]):W.kitOne K (.type k) (.type T)=some (zBV k T):=by
 simp only[C8,K7,or_false] at hk hT;rcases hk with rfl | rfl | rfl | rfl | rfl | rfl<;>rcases hT with rfl | rfl | rfl | rfl | rfl<;>kernel_rfl
end
theorem fu{X:Cx}:Ef X (U1 .In) (kX false):=Si
theorem zBo{X:Cx}{j:Nat}(hr:wt j X.A):Ef X (U1 .In) (zCV X.K false):=fu.or (L3.zBp hr)
end Q
namespace L2
open PySem PySem.Spec PyProof.Rows
noncomputable def cT(ifs:List Expr)(env:Env):Sem Bool:=forIn ifs true fun c r=>if r=true then do let ok <- isTrue c env (M8 c env);pure (ForInStep.yield ok) else pure (ForInStep.yield r)
def dU(X:Cx)(ifs:List Expr)(t:TT):Prop:=
 ∀(pins:List (B3×Obj)) (s:A7) (σ:St) (H:Hp) (Q:Bool->Hp->Prop),Inv X pins σ H s->t σ H Q->B6 (D4 X.prog X.w) X.A (cT ifs X.env) (TP X pins σ Q) X.xe s
theorem dU.one{X:Cx}{c:Expr}{t:TT}(h:PT X c t):dU X [c] t:=fun pins s σ H Q I q=>wpAny_tests_one (h pins s σ H Q I q)
theorem MI{prog:F0}{w:J7}{A:I9}{R:uY->A7->Prop}{s:A7}{elt target iter:Expr}{ifs:List Expr}{scope:O1}{pos:Pos}{it acc:Value}{env:Env}(I:Nat->A7->Prop)
    (turn:∀n s,I n s->B6 (D4 prog w) A (V1 it) (fun r wa=>match r with
      | none=>R (.ok .next) wa
      | some v=>B6 (D4 prog w) A (j9 target it v) (fun _ xv=>B6 (D4 prog w) A (Z9 target env v) (fun _ ym=>B6 (D4 prog w) A (cT ifs env) (fun ok zAh=>if ok=true then B6 (D4 prog w) A (M8 elt env) (fun x zCP =>
          B6 (D4 prog w) A (call (.builtin "list.append") [acc,x]) (fun _ zCO=>∃m,m < n/\I m zCO) (fun _ _=>False) zCP) (fun _ _=>False) zAh else ∃m,m < n/\I m zAh) (fun _ _=>False) ym) (fun _ _=>False) xv) (fun _ _=>False) wa) (fun _ _=>False) s)
    (n:Nat) (h:I n s) :
    W8 (D4 prog w) A (.compLoop (.ListComp elt [⟨target,iter,ifs,0⟩] scope pos) 0 it acc env) R s:=by
  refine codeAny_loop rfl I (fun n s hI=>?_) n h;show B6 _ _ ((compTurn (.ListComp elt [⟨target,iter,ifs,0⟩] scope pos) 0 it acc env).onRaise (fun x=>do noteFrame x env;theTreesLotGoes x)) _ _ s;refine wpAny_noted ?_;rw[compTurn_list];have no:∀{E:Value->A7->Prop},∀(e:Value) (s:A7),False->E e s:=fun _ _ z=>z.elim
  refine A1 (i9 (A1 (V0 (turn n s hI) (fun r wa h₁=>?_) no)));cases r with
  | none=>exact A6 h₁
  | some v =>
    refine A1 (V0 h₁ (fun _ xv xZ=>?_) no);refine A1 (V0 xZ (fun _ ym xn=>A1 (V0 xn (fun ok zAh yW=>?_) no)) no);cases ok with
    | false=>exact A6 ⟨rfl,yW⟩
    | true=>exact A1 (A1 (V0 yW (fun x zCP yV=>A1 (V0 yV (fun _ zCO zDY=>A6 (A6 ⟨rfl,zDY⟩)) no)) no))
section
variable {X:Cx} {tg iter elt:Expr} {ifs:List Expr} {scope:O1} {pos:Pos} {g:TG} {te:TE} {tc:TT} {js:List Nat} {wi:TI}
def Qa(js:List Nat)(g:TG)(tc:TT)(te:TE)(J:It)(σ:St)(Fin:List V->Hp->Prop)(W:Nat->Nat->List V->Hp->Prop):Prop:=∀i m ys H,W i m ys H ->
 (J.stop i H/\Fin ys H)\/(J.go i H/\ys.length < sizeLine/\∃N:List V->Hp->Prop,(∀zs H',N zs H'->∃m',m' < m/\W (i+1) m' zs H')/\∀x H',J.yld i H x H'->g x (blank js σ) H' fun xR H2=>tc xR H2 fun b H3=>if b=true then te xR H3 fun v H4=>N (ys++[v]) H4 else N ys H3)
theorem Hb{pins:List (B3×Obj)}{s2:A7}{σ:St}{H2:Hp}{it:B3}{fp:List B3}{tn:Nat->H9->Prop}{J:It}{cl:List (Str×B3)}{W:Nat->Nat->List V->Hp->Prop}{Fin:List V->Hp->Prop}{E:Value->A7->Prop}{RR:Value->B3->uY->A7->Prop}
    (xW:yD X.N X.env.scope scope js) (hc:X.calm=true) (hg:∀cl C s H fp,PG (X.inner scope cl C s H fp) tg g) (hgo:UT js g) (hcn:∀cl C s H fp,dU (X.inner scope cl C s H fp) ifs tc) (he:∀cl C s H fp,PE (X.inner scope cl C s H fp) elt te)
    (I2:Inv X pins σ H2 s2) (T:Turn X.prog X.w X.K tg J fp it tn) (t0:tn 0 s2.heap) (hf:∀b∈fp,wc X pins H2 b)
    (ye:∀x c,cl.lookup x=some c->X.env.cells.lookup x=some c) (yw:∀x,scope.names.lookup x=some .free->∃c,cl.lookup x=some c)
    {m0:Nat} (w0:W 0 m0 [] H2) (turn:Qa js g tc te J σ Fin W)
    (hRR:∀D C s' H' ys m,Inv X pins σ (upd H' D (.lst ys)) s'->H' D=none->Fin ys H'->s'.heap.Ns C m->C≠X.env.locals->X.xC.heap.objs.size<=C->(∀x c,X.env.cells.lookup x=some c->c≠C)->(∀p∈X.pn++pins,p.1≠C)->H' C=none->D≠C->RR (.ref D) C (.ok .next) s') :
    B6 (D4 X.prog X.w) X.A (v9 []) (fun acc ym=>B6 (D4 X.prog X.w) X.A (sG scope X.env.globals cl [] X.env.qual none .none (some X.env)) (fun zCy zAh =>
      W8 (D4 X.prog X.w) X.A (.compStart (.ListComp elt [⟨tg,iter,ifs,0⟩] scope pos) 0 (.ref it) acc { zCy with scope:=relabel scope X.env }) (RR acc zCy.locals) zAh) E ym) E s2:=by
  have hfe:∀b∈fp,b < s2.heap.objs.size:=fun b hb=>let ⟨_,e,_⟩:=T.obj _ _ t0 b hb;C0 e
  refine K0 (CZ ?_);dsimp only
  generalize hHH:s2.heap.push { cls:=.type "list", dict:=none,data:=.seq ([]:List Value).toArray }=HH
  have hC:HH.objs.size=s2.heap.objs.size+1:=by rw[<- hHH,J0]
  have hDC:s2.heap.objs.size≠HH.objs.size:=by rw[hC];exact D1 (M1 _)
  have zCF:s2.heap.objs.size<=HH.objs.size:=by rw[hC];exact O6 _
  have below:∀b,b < s2.heap.objs.size->b≠HH.objs.size/\b≠s2.heap.objs.size:=fun b hb=>⟨by rw[hC];exact D1 (O3 hb),D1 hb⟩
  obtain⟨h₁,zr⟩:∃h₁,vi (HH.push { cls:=.type "dict", data:=.dict #[] }) scope.names=h₁:=⟨_,rfl⟩
  have old:∀b o,s2.heap.get? b=some o->h₁.get? b=some o:=fun b o e=>zr▸rZ _ _ b o (A2 _ (hHH▸A2 _ e))
  have zw:h₁.get? s2.heap.objs.size=some { cls:=.type "list", data:=.seq ([]:List Value).toArray 0 }:=zr▸rZ _ _ _ _ (A2 _ (hHH▸B2 _ rfl))
  have zCB:h₁.Ns HH.objs.size (fun _=>none):=zr▸(Heap.Ns.new HH (.type "dict")).keeps (rZ _ _)
  obtain⟨L,zAq⟩:=ak (s:=s2) (C:=HH.objs.size) xW ye yw (h:=HH.push { cls:=.type "dict", data:=.dict #[] }) zCF (J0 ..)
  rw[zr] at zAq ⊢;generalize hcc:N7 (HH.objs.size+1) scope.names cl=cl' at L zAq ⊢;clear zr hcc;generalize hDD:s2.heap.objs.size=D at *;generalize hCC:HH.objs.size=C at *;have zAx:s2.heap.objs.size<=D:=m5 hDD;have zx:s2.heap.objs.size<=C:=by rw[hDD];exact zCF
  have zAE:∀(its:List Value) (n:Nat) v,({ cls:=.type "list", data:=.seq its.toArray n }:Obj).data≠.cell v:=fun _ _ _ z=>by cases z
  have I4:Inv (X.inner scope cl' C s2 H2 fp) (pins++[(D,{ cls:=.type "list", data:=.seq ([]:List Value).toArray 0 })]) (blank js σ) H2 { s2 with heap:=h₁,toks:=s2.toks }:=
    I2.enter xW hf (by rw[hDD];exact hfe) zx zAx hDC L zAq old zCB zw (zAE _ _)
  have zAB:∀{H':Hp} {o:Obj},(∀b∈fp,H' b=none)->∀b∈fp,wc (X.inner scope cl' C s2 H2 fp) (pins++[(D,o)]) H' b:=fun{H' o} hn b hb=>by
    obtain⟨_,f1,f2,f3,f4,f5⟩:=hf b hb;refine⟨hn b hb,(below b (hfe b hb)).1,fun z=>?_,.inl hb,fun x c e=>L.ne e (by rw[hDD];exact hfe b hb) f4,fun p hp=>?_⟩
    · rcases C8.mp (I2.yH b z) with e | e
      · exact f1 e
      · exact f2 e
    · have hp':p∈X.pn++(pins++[(D,o)]):=hp;rw[<- G0] at hp';rcases E9.mp hp' with z | z
      · exact f5 p z
      · have e:p=(D,o):=by simpa using z
        subst e;exact fun z=>(below b (hfe b hb)).2 z.symm
  have loop:∀ym:A7,ym={ s2 with heap:=h₁,toks:=s2.toks } ->
      W8 (D4 X.prog X.w) X.A (.compLoop (.ListComp elt [⟨tg,iter,ifs,0⟩] scope pos) 0 (.ref it) (.ref D) (compEnvC scope cl' C X.env)) (RR (.ref D) C) ym:=by
    rintro ym rfl
    refine MI (fun n s'=>∃i ys its k H',Inv (X.inner scope cl' C s2 H2 fp) (pins++[(D,{ cls:=.type "list", data:=.seq its.toArray k })]) (blank js σ) H' s'/\tn i s'.heap/\(∀b∈fp,H' b=none)/\AF ys its/\ys.length<=sizeLine/\W i n ys H') ?_ m0
      ⟨0,[],[],0,H2,I4,T.keep _ _ _ t0 fun b hb o e=>old b o e,fun b hb=>(hf b hb).1,.nil,J8 _,w0⟩
    rintro n s3 ⟨i,ys,its,k,H3,I3,st3,fr3,hv3,hz3,w3⟩;rcases turn i n ys H3 w3 with⟨stop,fin⟩ | ⟨go,xF,N,hN,step⟩
    · refine Aw (T.done (X.inner scope cl' C s2 H2 fp) rfl rfl rfl hc i _ s3 _ H3 _ I3 (zAB fr3) st3 stop) fun r s4 ⟨hr,I4⟩=>?_
      subst hr
      have pD:=I4.pin (D,{ cls:=.type "list", data:=.seq its.toArray k }) (B8 _ (B8 _ B1))
      obtain⟨m,hn,_⟩:=id I4.loc;refine hRR D C s4 H3 ys m (I2.leave (fp:=fp) hf rfl I4 zAx pD.2.1 hz3 hv3 pD.1) pD.2.1 fin hn ?_ ?_ (fun x c e=>?_) (fun p hp=>?_) I4.free hDC
      · exact Q9 (C7 I2.lt zx)
      · exact C4 I2.sz zx
      · exact D1 (C7 (I2.zO e) zx)
      · exact D1 (C7 (I2.zBU hp) zx)
    · refine Aw (T.item (X.inner scope cl' C s2 H2 fp) rfl rfl rfl hc i _ s3 _ H3 _ I3 (zAB fr3) st3 go) fun r s4 ⟨u,hr,h4⟩=>?_
      subst hr;refine Aw h4 fun _ s5 ⟨x,H5,I5,r5,y5,st5,fr5⟩=>?_
      have I5':=I5.pinned (zAB fr5) (T.obj _ _ st5);refine Aw (hg cl' C s2 H2 fp _ s5 _ H5 x u _ I5' r5 (hgo _ _ _ _ (step x H5 y5))) fun _ s6 ⟨σ6,H6,I6,⟨hl6,hs6⟩,q6⟩=>?_
      refine Aw (hcn cl' C s2 H2 fp _ s6 σ6 H6 _ I6 q6) fun ok s6b ⟨H6b,I6b,q6b⟩=>?_
      have other:∀(s7:A7) (v:Value) (b:B3) (u:Obj),b≠D->s7.heap.get? b=some u->(s7.heap.update D (E6 fun a=>a.push v)).get? b=some u:=fun s7 v b u hb hu=>(J6 s7.heap (E6 fun a=>a.push v) (Ne.symm hb)).trans hu
      cases ok with
      | false =>
        obtain⟨m',hm,w7⟩:=hN _ _ q6b
        have pD:=I6b.pin (D,{ cls:=.type "list", data:=.seq its.toArray k }) (B8 _ (D7 _ (B8 _ B1)))
        have fpk:∀b∈fp,∀o,s5.heap.get? b=some o->s6b.heap.get? b=some o/\H6b b=none:=fun b hb o e =>
          let z:=I6b.pin (b,o) (B8 _ (B8 _ (Cu hb e)));⟨z.1,z.2.1⟩
        have I8:Inv (X.inner scope cl' C s2 H2 fp) pins (blank js σ) H6b s6b:=by
          have Ia:Inv (X.inner scope cl' C s2 H2 fp) pins σ6 H6b s6b:=I6b.xh fun p hp=>I6b.pin p (B8 _ (D7 _ (D7 _ hp)))
          exact Ia.weak hl6.symm fun i v e=>by
            obtain⟨hj,_⟩:=HJ js σ i v e;rw[hs6 i hj];exact e
        refine⟨m',hm,i+1,ys,its,k,H6b,I8.xh (fun p hp=>?_),T.keep _ _ _ st5 fun b hb o e=>(fpk b hb o e).1,fun b hb=>?_,hv3,hz3,w7⟩
        · rcases E9.mp hp with z | z
          · exact I8.pin p (B8 _ z)
          · have e:p=(D,_):=D3.mp z;subst e;exact⟨pD.1,pD.2.1,pD.2.2.1,pD.2.2.2.1,zAE _ _⟩
        · obtain⟨o,e,_⟩:=T.obj _ _ st5 b hb;exact(fpk b hb o e).2
      | true =>
      refine Aw (he cl' C s2 H2 fp _ s6b σ6 H6b _ I6b q6b) fun v s7 ⟨y,H7,I7,r7,n7⟩=>?_
      obtain⟨m',hm,w7⟩:=hN _ _ n7
      have pD:=I7.pin (D,{ cls:=.type "list", data:=.seq its.toArray k }) (B8 _ (D7 _ (B8 _ B1)))
      have lt:its.toArray.size<=sizeLine:=by rw[B0,<- hv3.length];exact hz3
      refine call_meets F.slot_list_append ⟨_,pD.1,rfl⟩ F.entry_list_append (F.args_list_append_2 _ _) (uC D its.toArray k v lt) ⟨pD.1,?_⟩
      obtain⟨k',q⟩:∃k',(s7.heap.update D (E6 fun a=>a.push v)).get? D=some { cls:=.type "list", data:=.seq (its.toArray.push v) k' }:=⟨_,ua pD.1 (fun a=>a.push v)⟩
      have eq:(its.toArray.push v)=(its++[v]).toArray:=by simp
      have fpk:∀b∈fp,∀o,s5.heap.get? b=some o->s7.heap.get? b=some o/\H7 b=none:=fun b hb o e =>
        let z:=I7.pin (b,o) (B8 _ (B8 _ (Cu hb e)));⟨z.1,z.2.1⟩
      have other:∀b u,b≠D->s7.heap.get? b=some u->(s7.heap.update D (E6 fun a=>a.push v)).get? b=some u:=fun b u hb hu=>(J6 s7.heap (E6 fun a=>a.push v) (Ne.symm hb)).trans hu
      have I8:Inv (X.inner scope cl' C s2 H2 fp) pins (blank js σ) H7 { s7 with heap:=s7.heap.update D (E6 fun a=>a.push v),toks:=s7.toks }:=by
        have Ia:Inv (X.inner scope cl' C s2 H2 fp) pins σ6 H7 s7:=I7.xh fun p hp=>I7.pin p (B8 _ (D7 _ (D7 _ hp)))
        have Ib:Inv (X.inner scope cl' C s2 H2 fp) pins (blank js σ) H7 s7:=Ia.weak hl6.symm fun i v e=>by
          obtain⟨hj,_⟩:=HJ js σ i v e;rw[hs6 i hj];exact e
        refine Ib.turned (it:=D) (fun b o hb e=>other b o hb e) pD.2.1 pD.2.2.1 (.inr zAx) (fun x c e=>?_) (fun p hp=>?_)
        · cases q:AQ scope x with
          | false=>exact D1 (C7 (I2.zO (L.old x c e q)) zAx)
          | true=>exact Q9 (S1 zCF (L.own x c e q).2)
        · exact D1 (C7 (I2.zBU hp) zAx)
      refine⟨m',hm,i+1,ys++[y],its++[v],k',H7,I8.xh (fun p hp=>?_),T.keep _ _ _ st5 fun b hb o e=>other b o (below b (hfe b hb)).2 (fpk b hb o e).1,fun b hb=>?_,hv3.append (.cons r7 .nil),by rw[D0,E4];omega,w7⟩
      · rcases E9.mp hp with z | z
        · exact I8.pin p (B8 _ z)
        · have e:p=(D,_):=D3.mp z;subst e;rw[<- eq];exact⟨q,pD.2.1,pD.2.2.1,pD.2.2.2.1,zAE _ _⟩
      · obtain⟨o,e,_⟩:=T.obj _ _ st5 b hb;exact(fpk b hb o e).2
  exact codeAny_compStart_list (loop _ rfl) (T.self _ 0 _ _ _ (T.keep _ _ _ t0 fun b hb o e=>old b o e) (loop _ rfl))
def IK(wi:TI)(js:List Nat)(g:TG)(tc:TT)(te:TE):TE:=fun σ H Q=>wi σ H fun J H1=>∃W:Nat->Nat->List V->Hp->Prop,(∃m,W 0 m [] H1)/\Qa js g tc te J σ (fun ys H=>∀p,H p=none->Q (.ref p) (upd H p (.lst ys))) W
theorem NG(xW:xJ X.N X.env.scope scope js=true)(hc:X.calm=true)(hi:PI X tg iter wi)(hg:∀cl C s H fp,PG (X.inner scope cl C s H fp) tg g)(hgo:UT js g)(hcn:∀cl C s H fp,dU (X.inner scope cl C s H fp) ifs tc)(he:∀cl C s H fp,PE (X.inner scope cl C s H fp) elt te)
    (hs:∀x,Q6 iter X.env x=pure x:=by intro _;rfl):PE X (.ListComp elt [⟨tg,iter,ifs,0⟩] scope pos) (IK wi js g tc te):=by
  intro pins s σ H Q I h;have xW:=JK xW;obtain⟨cl,zAu,ye,yw⟩:=Jd (scope:=scope) (env:=X.env) (fun x hx=>I.ok.has x (xW.fr x hx)) xW.zBQ;rw[eval_ListComp];refine qp (use:=none) rfl hs zAu xW.kind xW.zBP ?_;refine Aw (hi pins s σ H _ I h) fun v s1 h1=>Aw h1 fun itv s2 h2=>?_
  obtain⟨it,fp,tn,J,H2,e,I2,T,st2,f2,W,⟨m0,w0⟩,turn⟩:=h2;subst e;refine Hb (RR:=fun acc C=>compPost (D4 X.prog X.w) X.A X.xe none (EP X pins σ Q) acc C) xW hc hg hgo hcn he I2 T st2 f2 ye yw w0 turn ?_;intro D C s' H' ys m I' hD fin hn c1 c2 c3 c4 c5 c6;refine⟨m,hn,fun h' sb=>⟨.ref D,_,I'.turned (t':=s'.toks) (it:=C) (fun b o hb e=>(sb.2 b hb).trans e) ?_ c1 (.inr c2) c3 c4,rfl,fin D hD⟩⟩;rw[AE (Ne.symm c6)];exact c5
theorem NC{i:Nat}{x:Str}{pos' y0:Pos}(hN:X.N.Nodup)(hix:X.N[i]?=some x)(hx:Loc X.env.scope x)
    (xW:xJ X.N X.env.scope scope js=true) (hc:X.calm=true) (hi:PI X tg iter wi) (hg:∀cl C s H fp,PG (X.inner scope cl C s H fp) tg g) (hgo:UT js g) (hcn:∀cl C s H fp,dU (X.inner scope cl C s H fp) ifs tc) (he:∀cl C s H fp,PE (X.inner scope cl C s H fp) elt te)
    (hsw:V8 (.ListComp elt [⟨tg,iter,ifs,0⟩] scope pos) (some (.Name x pos')) y0.line X.env=pure true:=by rfl)
    (hs:∀x,Q6 iter X.env x=pure x:=by intro _;rfl)
    (hf:X.fn x=true\/X.env.scope.names.lookup x=some .local:=by first | exact .inl rfl | exact .inr rfl | assumption) :
    PS X (.Assign [.Name x pos'] (.ListComp elt [⟨tg,iter,ifs,0⟩] scope pos) y0) (Mh (IK wi js g tc te) (DW i)):=by
  intro pins s σ H D I h;have xW:=JK xW;obtain⟨cl,zAu,ye,yw⟩:=Jd (scope:=scope) (env:=X.env) (fun x hx=>I.ok.has x (xW.fr x hx)) xW.zBQ;rw[exec_Assign_Name_used _ _ _ _ hsw];refine A1 (i9 (A1 ?_));show B6 _ _ (do let _ <- comprehension (.ListComp elt [⟨tg,iter,ifs,0⟩] scope pos) scope X.env _ (v9 []) false (M8 iter X.env) (some (Z9 (.Name x pos') X.env))) _ _ s;refine A1 (Aw (qp (use:=some (Z9 (.Name x pos') X.env)) (Q:=fun _ s'=>SP X pins D .next s') rfl hs zAu xW.kind xW.zBP ?_) (fun _ s' hq=>A6 (A6 hq)));refine Aw (hi pins s σ H _ I h) fun v s1 h1=>Aw h1 fun itv s2 h2=>?_
  obtain⟨it,fp,tn,J,H2,e,I2,T,st2,f2,W,⟨m0,w0⟩,turn⟩:=h2;subst e;refine Hb (RR:=fun acc C=>compPost (D4 X.prog X.w) X.A X.xe (some (Z9 (.Name x pos') X.env)) (fun _ s'=>SP X pins D .next s') acc C) xW hc hg hgo hcn he I2 T st2 f2 ye yw w0 turn ?_;intro DD C s' H' ys m I' hD fin hn c1 c2 c3 c4 c5 c6;show B6 _ _ (Z9 (.Name x pos') X.env (.ref DD)) _ _ _;refine tY (KZ (v:=.ref DD) I' hN hix hx rfl (fun s'' I'' ⟨a,sb,ha⟩=>?_) hf);have ne:C≠a:=by
    rcases ha with z | z
    · rw[z];exact c1
    · exact(c3 x a z).symm
  refine⟨m,hn.sameBut sb ne,fun h' sb'=>⟨_,_,I''.turned (t':=s''.toks) (it:=C) (fun b o hb e=>(sb'.2 b hb).trans e) ?_ c1 (.inr c2) c3 c4,fin DD hD⟩⟩;rw[AE (Ne.symm c6)];exact c5
end
end L2
namespace R
open PySem L2
section
variable {γ:Type}
noncomputable def CU(g:Dv->γ->Option (Dv×γ)):List Dv->γ->Option (List Dv×γ)
 | [],c=>some ([],c)
 | x::xs,c=>(g x c).bind fun p=>(CU g xs p.2).bind fun q=>some (p.1::q.1,q.2)
noncomputable def AZ(g:Dv->Option Dv):List Dv->Option (List Dv)
 | []=>some []
 | x::xs=>(g x).bind fun p=>(AZ g xs).bind fun q=>some (p::q)
noncomputable def mL(g:Dv->γ->Option (Option Dv×γ)):List Dv->γ->Option (List Dv×γ)
 | [],c=>some ([],c)
 | x::xs,c=>(g x c).bind fun p=>(mL g xs p.2).bind fun q=>some (match p.1 with | some d=>d::q.1 | none=>q.1,q.2)
noncomputable def DV(g:Dv->Option (Option Dv)):List Dv->Option (List Dv)
 | []=>some []
 | x::xs=>(g x).bind fun p=>(DV g xs).bind fun q=>some (match p with | some d=>d::q | none=>q)
noncomputable def Cz{α:Type}(xs:List Dv)(o:Option α):Option α:=if xs.length<=1000000 then o else none
end
theorem JR{α:Type}{xs:List Dv}{o:Option α}{a:α}(h:Cz xs o=some a):xs.length<=1000000/\o=some a:=by
 unfold Cz at h;split at h
 ·rename_i z;exact⟨z,h⟩
 ·cases h
section
variable {K:W.Frag} {g g':G} {H H':Hp} {Γ:Gm} {m:M} {σ:St} {P:Fp}
theorem Rel.sub{Γ':Gm}{σ':St}(h:Rel K g H Γ m σ P)(hl:Γ'.length=Γ.length)(hs:σ'.length=σ.length)(k:∀(i o:Nat),Γ'[i]?=some (some o)->Γ[i]?=some (some o)/\σ'[i]?=σ[i]?):∃P',Rel K g H Γ' m σ' P'/\∀a,P' a->P a:=by
 obtain⟨zd,F,h1,h4⟩:=h;refine⟨fun a=>∃i,(∃o,Γ'[i]?=some (some o))/\F i a,⟨zd,fun i a=>(∃o,Γ'[i]?=some (some o))/\F i a,⟨by rw[hl];exact h1.l1,by rw[hs,hl];exact h1.l2,fun i o e=>?_,fun i e a q=>q.1.elim fun o z=>e o z,fun i j n a q z=>h1.dj i j n a q.2 z.2⟩,fun _=>m8⟩,fun a ⟨i,_,q⟩=>(h4 a).mpr ⟨i,q⟩⟩;obtain⟨e',es⟩:=k i o e;obtain⟨d,v,e1,e2,r⟩:=h1.rep i o e';have eq:(fun a=>(∃o,Γ'[i]?=some (some o))/\F i a)=F i:=funext fun a=>propext ⟨fun z=>z.2,fun z=>⟨⟨o,e⟩,z⟩⟩
 exact⟨d,v,e1,by rw[es];exact e2,by show Rep K g H o d v fun a=>(∃o,Γ'[i]?=some (some o))/\F i a;rw[eq];exact r⟩
theorem Rel.more{Γ':Gm}{σ':St}(h:Rel K g H Γ m σ P)(hl:Γ'.length=Γ.length)(hs:σ'.length=σ.length)(k:∀(i o:Nat),Γ'[i]?=some (some o)->(Γ[i]?=some (some o)/\σ'[i]?=σ[i]?)\/(o=0/\∃d v,m[i]?=some d/\σ'[i]?=some (some v)/\Rep K g H 0 d v wX)):∃P',Rel K g H Γ' m σ' P'/\∀a,P' a->P a:=by
 obtain⟨zd,F,h1,h4⟩:=h
 let C:Nat->Prop:=fun i=>∃o,Γ'[i]?=some (some o)/\Γ[i]?=some (some o)/\σ'[i]?=σ[i]?
 refine⟨fun a=>∃i,C i/\F i a,⟨zd,fun i a=>C i/\F i a,⟨by rw[hl];exact h1.l1,by rw[hs,hl];exact h1.l2,fun i o e=>?_,fun i e a q=>q.1.elim fun o z=>e o z.1,fun i j n a q z=>h1.dj i j n a q.2 z.2⟩,fun _=>m8⟩,fun a ⟨i,_,q⟩=>(h4 a).mpr ⟨i,q⟩⟩
 by_cases c:C i
 ·obtain⟨o',e1,e2,e3⟩:=c;rw[e] at e1;cases e1;obtain⟨d,v,e4,e5,r⟩:=h1.rep i o e2;have eq:(fun a=>C i/\F i a)=F i:=funext fun a=>propext ⟨fun z=>z.2,fun z=>⟨⟨o,e,e2,e3⟩,z⟩⟩
  exact⟨d,v,e4,by rw[e3];exact e5,by show Rep K g H o d v fun a=>C i/\F i a;rw[eq];exact r⟩
 ·have eq:(fun a=>C i/\F i a)=wX:=Eu fun a z=>c z.1
  rcases k i o e with z | ⟨rfl,d,v,e1,e2,r⟩
  ·exact(c ⟨o,e,z⟩).elim
  ·exact⟨d,v,e1,e2,by show Rep K g H 0 d v fun a=>C i/\F i a;rw[eq];exact r⟩
end
def Of(js:List Nat)(Γ:Gm):Gm:=(A5 Γ.length).map fun i=>if js.contains i then none else Γ.getD i none
def PD(js:List Nat)(wy Γ:Gm):Gm:=(A5 Γ.length).map fun i=>if js.contains i then(if wy.getD i none == some 0 then some 0 else none) else Γ.getD i none
theorem Eo{α:Type}{n i:Nat}{f:Nat->α}{x:α}(h:((A5 n).map f)[i]?=some x):i < n/\x=f i:=by
 rw[C6] at h
 by_cases z:i < n
 ·rw[L0 z] at h;exact⟨z,(D5 h).symm⟩
 ·rw[List.getElem?_eq_none_iff.mpr (by simpa using z)] at h;cases h
theorem BR{Γ:Gm}{i o:Nat}(h:Γ.getD i none=some o):Γ[i]?=some (some o):=by
 rw[B7] at h;cases e:Γ[i]? with
 | none=>rw[e] at h;cases h
 | some x=>rw[e] at h;exact congrArg some h
theorem Dw{js:List Nat}{Γ:Gm}{i o:Nat}(h:(Of js Γ)[i]?=some (some o)):i∉js/\Γ[i]?=some (some o):=by
 obtain⟨_,e⟩:=Eo h;split at e
 ·cases e
 ·rename_i z;exact⟨fun q=>z (C3.mpr q),BR e.symm⟩
theorem LF(js:List Nat):∀(σ:St) (i:Nat),i∉js->(L2.blank js σ)[i]?=σ[i]?:=by
 induction js with
 | nil=>intro σ i _;rfl
 | cons j js ih =>
  intro σ i h;show(L2.blank js (σ.set j none))[i]?=_;rw[ih _ i fun z=>h (A9 _ z),E3 fun z=>h (by rw[<- z];exact B1)]
theorem Jc{K:W.Frag}{wy wZ yh Γc Γf:Gm}{jx jt jc jf J:List Nat}{g:TG}{ft:Tg}{c:Ev Bool}{f:Ev Dv}(ht:QW K wZ yh jt g ft)(hbl:CW wZ (Of jx wy)=true)(hwf:CW wZ Γf=true)(hwc:CW wZ Γc=true)(hsx:∀i∈jt,i∈jx)
    (hJ:J=Bi wZ (jt++(jc++jf))) {ds:List Dv} (hz:ds.length<=1000000) {m1:M} {σ:St} {H1:Hp} {g1:G} {P1:Fp} {I:It} {R:Type} {k:Dv->M->Option R} {res:R} {Q:VK}
    (r1:Rel K g1 H1 wy m1 σ P1) (yl:Yl K I ds g1 H1) (run:List Dv->GT J->List Dv->Prop) (h0:run ds (Al J m1) []) (hn:∀t ya,run [] t ya->k (.lst ya) (Av J m1 t)=some res)
    (hc:∀d ds t ya,run (d::ds) t ya->∃(B:Type) (kx:Dv->M->Option B) (kf:M->Option B) (r:B),ft B d (Av J m1 t) (fun m2=>c B m2 fun b m3=>if b=true then f B m3 kx else kf m3)=some r/\(∀x m',kx x m'=some r->run ds (Al J m') (ya++[x]))/\∀m',kf m'=some r->run ds (Al J m') ya)
    (q:∀d m' g' P' Pv v H',k d m'=some res->Bw (jt++(jc++jf)) m1 m'->Step g1 P1 H1 g' (fun a=>P' a\/Pv a) H'->Rep K g' H' 1 d v Pv->Rel K g' H' (PD jx wy wZ) m' σ P'->Bt P' Pv->Q v H') :
    ∃W:Nat->Nat->List V->Hp->Prop,(∃m,W 0 m [] H1)/\Qa jx g (tT K yh Γc jc c) (tE K Γc 0 Γf jf f) I σ (fun ys H=>∀p,H p=none->Q (.ref p) (upd H p (.lst ys))) W:=by
  have sub:∀i∈J,i∈jt++(jc++jf):=fun i h=>BL (hJ▸h)
  have nJ:∀i∈J,i∉jx:=fun i h z=>by
    rw[hJ] at h;have:=(G4.mp h).2;rw[A3] at this;cases e:wZ.getD i none with
    | none=>rw[e] at this;cases this.2
    | some o =>
      obtain⟨o',e',_⟩:=Fu hbl (BR e);exact(Dw e').1 z
  have lb:(Of jx wy).length=wy.length:=by unfold Of;simp
  obtain⟨Pb,rb,sb⟩:=r1.sub (Γ':=Of jx wy) (σ':=L2.blank jx σ) lb (L2.xS ..) fun i o e=>⟨(Dw e).2,LF jx σ i (Dw e).1⟩
  obtain⟨g0,P0,s0,r0⟩:=rb.weaken hbl;have s10:Step g1 P1 H1 g0 P0 H1:=s0.sub sb fun _ z=>z
  refine⟨fun i j ys H=>j=ds.length - i/\i<=ds.length/\ys.length<=i/\∃g2 t P2 ya,Step g1 P1 H1 g2 P2 H/\Rel K g2 H wZ (Av J m1 t) (L2.blank jx σ) P2/\AA K g2 H 0 ya ys wX/\run (ds.drop i) t ya,
    ⟨ds.length,by simp,J8 _,J8 _,g0,Al J m1,P0,[],s10,Pq r0,AA.nil,by simpa using h0⟩,?_⟩
  rintro i j ys H2 ⟨rfl,hi,hyl,g2,t,P2,ya,s2,r2,ry,e2⟩;have st:Jq g1 H1 g2 H2:=⟨P1,P2,s2,r1.wb⟩
  by_cases xF:i < ds.length
  · rw[S6 xF] at e2;obtain⟨B,kx,kf,rB,e3,hx,hf⟩:=hc _ _ _ _ e2;obtain⟨go,yy⟩:=(yl g2 H2 st).1 i ds[i] (A4 xF);refine .inr ⟨go,S1 hyl (C7 xF (C4 hz (by decide))),fun zs H'=>zs.length<=i+1/\∃g5 P5 m' za,Step g1 P1 H1 g5 P5 H'/\Rel K g5 H' wZ m' (L2.blank jx σ) P5/\Bw (jt++(jc++jf)) m1 m'/\AA K g5 H' 0 za zs wX/\run (ds.drop (i+1)) (Al J m') za,?_,fun y H3 hy=>?_⟩
    · rintro zs H' ⟨hl,g5,P5,m',za,s5,r5,ag,rz,hr⟩;exact⟨ds.length - (i+1),by omega,rfl,xF,hl,g5,Al J m',P5,za,s5,r5.join ag fun i o h=>hJ▸Br h,rz,hr⟩
    · obtain⟨Pv,s3,h3,r3,n3⟩:=Ae.go s2 r2 (yy y H3 hy);have ry3:AA K g2 H3 0 ya ys wX:=ry.held (Step.same (P:=wX) (yy y H3 hy).1) wc.wX fun _ _ z=>z
      refine ht g2 _ P2 ds[i] y _ H3 B _ rB _ r3 h3.z e3 fun m2 P' σ' hk ag sp ip r'=>?_
      have s4:Step g1 P1 H1 g2 P' H3:=s3.less fun a z=>.inl (sp a z)
      have a4:Bw (jt++(jc++jf)) m1 m2:=((AU J m1 t).mono sub).trans ag |>.mono fun i z=>(E9.mp z).elim id fun z=>D7 _ z
      -- outside of the zAe own slots nothing is bound
      have back:∀{g5:G} {P5:Fp} {m':M} {H':Hp},Rel K g5 H' wZ m' σ' P5->∃P6,Rel K g5 H' wZ m' (L2.blank jx σ) P6/\∀a,P6 a->P5 a:=fun{g5 P5 m' H'} r5=>r5.sub rfl (by rw[ip.1]) fun i o e=>⟨e,(ip.2 i fun z=>by
          obtain⟨o',e',_⟩:=Fu hbl e;exact(Dw e').1 (hsx i z)).symm⟩
      refine⟨g2,m2,P',r',B,_,rB,hk,fun b m3 g4 P4 H4 hk4 ag4 s5 r4=>?_⟩;have ry4:=ry3.held s5 r'.wb fun _ z=>z.elim
      cases b with
      | false =>
        rw[if_neg B9] at hk4;show(if false=true then _ else _);rw[if_neg B9];obtain⟨g6,P6,s6,r6⟩:=r4.weaken hwc;obtain⟨P7,r7,sp7⟩:=back r6;exact⟨by omega,g6,P7,m3,ya,((s4.trans s5).trans s6).less sp7,r7,(a4.trans ag4).mono fun i z=>(E9.mp z).elim id fun z=>B8 _ (D7 _ z),ry4.held s6 r4.wb fun _ z=>z.elim,hf m3 hk4⟩
      | true =>
        rw[if_pos rfl] at hk4;show(if true=true then _ else _);rw[if_pos rfl];refine⟨g4,m3,P4,r4,B,kx,rB,hk4,fun x m4 g5 P5 Pv v H5 hk5 ag5 s6 rv r5 n5=>?_⟩;have ry5:=ry4.held s6 r4.wb fun _ z=>z.elim
        obtain⟨g6,P6,s7,r6⟩:=r5.weaken hwf;obtain⟨P7,r7,sp7⟩:=back r6;refine⟨by rw[D0,E4];omega,g6,P7,m4,ya++[x],(((s4.trans s5).trans (s6.less fun _ z=>.inl z)).trans s7).less sp7,r7,?_,?_,hx x m4 hk5⟩
        · exact((a4.trans ag4).trans ag5).mono fun i z=>(E9.mp z).elim (fun z=>(E9.mp z).elim id fun z=>B8 _ (D7 _ z)) fun z=>B8 _ (B8 _ z)
        · refine((AA.app ry5 (AA.cons rv.z AA.nil fun _ z=>z.elim) fun _ z=>z.elim).iff (Q:=wX) fun a=>⟨fun z=>z.elim,fun z=>z.elim id fun z=>z.elim id id⟩).held s7 r5.wb fun _ z=>z.elim
  · have ei:i=ds.length:=by omega
    subst ei;rw[uf] at e2;refine .inl ⟨(yl g2 H2 st).2 _ (B4 _),fun p hp=>?_⟩;obtain⟨Pv,s3,h1,r3,n3⟩:=Ae.go s2 r2 (Ae.lst r2.zd ry hp);have l1:wZ.length=wy.length:=(Ey hbl).trans lb;obtain⟨P4,r4,sp4⟩:=r3.more (Γ':=PD jx wy wZ) (σ':=σ) (by unfold PD;simp) (by rw[L2.xS]) fun i o e=>by
      obtain⟨hi,e⟩:=Eo e;split at e
      · rename_i z;split at e
        · rename_i z0;cases e;refine .inr ⟨rfl,?_⟩;obtain⟨v,Px,ev,rx,_⟩:=r1.zP (BR (beq_iff_eq.mp z0));have ji:i∉J:=fun w=>nJ i w (C3.mp z)
          have hl:i < m1.length:=by rw[r1.len.1,<- l1];exact hi
          refine⟨m1.at i,v,?_,ev,(rx.z.held s2 r1.wb fun _ z=>z.elim).held (Step.same (P:=wX) (Bp hp (.lst ys))) wc.wX fun _ _ z=>z⟩;have:=(AU J m1 t).2 i ji;have xr:i < (Av J m1 t).length:=by rw[Il];exact hl
          rw[A4 xr,<- this];unfold M.at;rw[B7,A4 xr];rfl
        · cases e
      · rename_i z;exact .inl ⟨BR e.symm,(LF jx σ i fun w=>z (C3.mpr w)).symm⟩
    exact q _ _ g2 P4 Pv _ _ (hn t ya e2) ((AU J m1 t).mono sub) (s3.less fun a z=>z.elim (fun z=>.inl (sp4 a z)) .inr) h1 r4 fun a z w=>n3 a (sp4 a z) w
def Wz(src:Ev (List Dv))(tg:Tg)(f:Ev Dv):Ev Dv:=fun R m k=>src R m fun ds m1=>Cz ds ((AZ (fun d=>tg Dv d m1 fun m2=>f Dv m2 fun x _=>some x) ds).bind fun xs=>k (.lst xs) m1)
def XA(src:Ev (List Dv))(tg:Tg)(c:Ev Bool)(f:Ev Dv):Ev Dv:=fun R m k=>src R m fun ds m1=>Cz ds ((DV (fun d=>tg (Option Dv) d m1 fun m2=>c (Option Dv) m2 fun b m3=>if b=true then f (Option Dv) m3 fun x _=>some (some x) else some none) ds).bind fun xs=>k (.lst xs) m1)
def Rh(src:Ev (List Dv))(tg:Tg)(J:List Nat)(f:Ev Dv):Ev Dv:=fun R m k=>src R m fun ds m1=>Cz ds ((CU (fun d t=>tg (Dv×GT J) d (Av J m1 t) fun m2=>f (Dv×GT J) m2 fun x m3=>some (x,Al J m3)) ds (Al J m1)).bind fun p=>k (.lst p.1) (Av J m1 p.2))
def FV:Ev Bool:=fun _ m k=>k true m
section
variable {K:W.Frag} {Γ wy wZ yh Γc Γf:Gm} {js jx jt jc jf J:List Nat} {g:TG} {ft:Tg} {c:Ev Bool} {f:Ev Dv} {src:Ev (List Dv)} {σ:St} {H:Hp} {Q:VK}
theorem WL(ht:QW K wZ yh jt g ft)(hbl:CW wZ (Of jx wy)=true)(hwf:CW wZ Γf=true)(hwc:CW wZ yh=true)(hsx:∀i∈jt,i∈jx)(hJ:([]:List Nat)=Bi wZ (jt++([]++jf)))
    (h:tE K Γ 1 (PD jx wy wZ) (js++(jt++([]++jf))) (Wz src ft f) σ H Q):IK (tI K Γ wy js src) jx g (tT K yh yh [] FV) (tE K yh 0 Γf jf f) σ H Q:=by
  obtain⟨g0,m,P,r,R,k,res,e,q⟩:=h;refine⟨g0,m,P,r,R,_,res,e,fun ds m1 g1 P1 H1 I hk ag s r1 yl=>?_⟩;obtain⟨hz,hk⟩:=JR hk;obtain⟨xs,e1,e2⟩:=wW hk;refine Jc (c:=FV) ht hbl hwf hwc hsx hJ hz r1 yl (fun ds _ ya=>∃yb,xs=ya++yb/\AZ _ ds=some yb) ⟨xs,rfl,e1⟩ (fun t ya ⟨yb,h1,h2⟩=>?_) (fun d ds t ya ⟨yb,h1,h2⟩=>?_) fun d m' g' P' Pv v H' hk zB s'=>q d m' g' P' Pv v H' hk (ag.trans zB) (s.trans s')
  · cases h2;rw[L9] at h1;subst h1;exact e2
  · obtain⟨x,h3,h4⟩:=wW h2;obtain⟨yc,h5,h6⟩:=wW h4;cases h6;exact⟨Dv,fun x _=>some x,fun _=>none,x,h3,(fun y m' hk=>by cases hk;exact⟨yc,by rw[h1,G0];rfl,h5⟩),fun m' hk=>by cases hk⟩
theorem WM(ht:QW K wZ yh jt g ft)(hbl:CW wZ (Of jx wy)=true)(hwf:CW wZ Γf=true)(hwc:CW wZ Γc=true)(hsx:∀i∈jt,i∈jx)(hJ:([]:List Nat)=Bi wZ (jt++(jc++jf)))
    (h:tE K Γ 1 (PD jx wy wZ) (js++(jt++(jc++jf))) (XA src ft c f) σ H Q):IK (tI K Γ wy js src) jx g (tT K yh Γc jc c) (tE K Γc 0 Γf jf f) σ H Q:=by
  obtain⟨g0,m,P,r,R,k,res,e,q⟩:=h;refine⟨g0,m,P,r,R,_,res,e,fun ds m1 g1 P1 H1 I hk ag s r1 yl=>?_⟩;obtain⟨hz,hk⟩:=JR hk;obtain⟨xs,e1,e2⟩:=wW hk;refine Jc ht hbl hwf hwc hsx hJ hz r1 yl (fun ds _ ya=>∃yb,xs=ya++yb/\DV _ ds=some yb) ⟨xs,rfl,e1⟩ (fun t ya ⟨yb,h1,h2⟩=>?_) (fun d ds t ya ⟨yb,h1,h2⟩=>?_) fun d m' g' P' Pv v H' hk zB s'=>q d m' g' P' Pv v H' hk (ag.trans zB) (s.trans s')
  · cases h2;rw[L9] at h1;subst h1;exact e2
  · obtain⟨x,h3,h4⟩:=wW h2;obtain⟨yc,h5,h6⟩:=wW h4;cases h6;refine⟨Option Dv,fun x _=>some (some x),fun _=>some none,x,h3,(fun y m' hk=>?_),fun m' hk=>?_⟩
    · cases hk;exact⟨yc,by rw[h1,G0];rfl,h5⟩
    · cases hk;exact⟨yc,h1,h5⟩
theorem Tp(ht:QW K wZ yh jt g ft)(hbl:CW wZ (Of jx wy)=true)(hwf:CW wZ Γf=true)(hwc:CW wZ yh=true)(hsx:∀i∈jt,i∈jx)(hJ:J=Bi wZ (jt++([]++jf)))
    (h:tE K Γ 1 (PD jx wy wZ) (js++(jt++([]++jf))) (Rh src ft J f) σ H Q):IK (tI K Γ wy js src) jx g (tT K yh yh [] FV) (tE K yh 0 Γf jf f) σ H Q:=by
  obtain⟨g0,m,P,r,R,k,res,e,q⟩:=h;refine⟨g0,m,P,r,R,_,res,e,fun ds m1 g1 P1 H1 I hk ag s r1 yl=>?_⟩;obtain⟨hz,hk⟩:=JR hk;obtain⟨p,e1,e2⟩:=wW hk;refine Jc (c:=FV) ht hbl hwf hwc hsx hJ hz r1 yl (fun ds t ya=>∃yb,p.1=ya++yb/\CU _ ds t=some (yb,p.2)) ⟨p.1,rfl,e1⟩ (fun t ya ⟨yb,h1,h2⟩=>?_) (fun d ds t ya ⟨yb,h1,h2⟩=>?_) fun d m' g' P' Pv v H' hk zB s'=>q d m' g' P' Pv v H' hk (ag.trans zB) (s.trans s')
  · simp only[CU,T3,Prod.mk.injEq] at h2;obtain⟨rfl,rfl⟩:=h2;rw[L9] at h1;rw[<- h1];exact e2
  · obtain⟨x,h3,h4⟩:=wW h2;obtain⟨yc,h5,h6⟩:=wW h4;simp only[T3,Prod.mk.injEq] at h6;obtain⟨rfl,h7⟩:=h6;refine⟨_,fun x m3=>some (x,Al J m3),fun _=>none,x,h3,(fun y m' hk=>?_),fun m' hk=>by cases hk⟩;cases hk;exact⟨yc.1,by rw[h1,G0];rfl,by rw[<- h7];exact h5⟩
end
end R
namespace L2
open PySem PySem.Spec PyProof.Rows
theorem GS{a b:Nat}(h:a≠b):@Ne B3 a b:=h
def Hk(h:H9)(it l:B3)(i:Nat):Bool->Prop
 | false=>h.IsListIter it l i
 | true=>h.IsTupleIter it l i
def Hl(h:H9)(l:B3)(xs:Array Value):Bool->Prop
 | false=>h.IsList l xs
 | true=>h.IsTuple l xs
noncomputable def RO(l:B3):Bool->Obj
 | false=>{ cls:=.type "list_iterator", data:=.fields #[.ref l,.int 0 0] }
 | true=>{ cls:=.type "tuple_iterator", data:=.fields #[.ref l,.int 0 0] }
variable {h:H9} {it l:B3} {i:Nat} {b:Bool}
theorem Hk.at{h':H9}(x:Hk h it l i b)(k:∀o,h.get? it=some o->h'.get? it=some o):Hk h' it l i b:=by
 cases b with
 | false=>obtain⟨o,e,r⟩:=x;exact⟨o,k o e,r⟩
 | true=>obtain⟨o,e,r⟩:=x;exact⟨o,k o e,r⟩
theorem Hl.at{h':H9}{xs:Array Value}(x:Hl h l xs b)(k:∀o,h.get? l=some o->h'.get? l=some o):Hl h' l xs b:=by
 cases b with
 | false=>obtain⟨o,e,r⟩:=x;exact⟨o,k o e,r⟩
 | true=>obtain⟨o,e,r⟩:=x;exact⟨o,k o e,r⟩
theorem Hk.obj(x:Hk h it l i b):∃o,h.get? it=some o/\∀v,o.data≠.cell v:=by
 cases b with
 | false=>obtain⟨o,e,c,d⟩:=x;exact⟨o,e,fun v z=>by rw[d] at z;cases z⟩
 | true=>obtain⟨o,e,c,d⟩:=x;exact⟨o,e,fun v z=>by rw[d] at z;cases z⟩
theorem Hk.new:Hk (h.push (RO l b)) h.objs.size l 0 b:=by
 cases b with
 | false=>exact⟨_,B2 _ rfl,rfl,rfl⟩
 | true=>exact⟨_,B2 _ rfl,rfl,rfl⟩
variable {Q:Value->A7->Prop} {items:Array Value}
section
variable {prog:F0} {w:J7} {A:I9} {E:Value->A7->Prop} {s:A7}
theorem Kb{xs:Array Value}(hl:Hl s.heap l xs b)(hQ:Q (.ref s.heap.objs.size) { s with heap:=s.heap.push (RO l b) }):B6 (D4 prog w) A (uX (.ref l)) Q E s:=by
 cases b with
 | false=>exact T2 hl hQ
 | true=>exact S0 hl hQ
theorem Ho{x:Value}{Q:Value->A7->Prop}(hit:Hk s.heap it l i b)(hl:Hl s.heap l items b)(hx:items[i]?=some x)
    (hQ:∀h',Hk h' it l (i+1) b->K9 it s.heap h'->Q x { s with heap:=h' }):B6 (D4 prog w) A (K6 (.ref it)) Q E s:=by
  cases b with
  | false=>exact wpAny_nextOf_list_item hit hl hx hQ
  | true =>
    obtain⟨o,ho,hc,hd⟩:=id hit;obtain⟨ol,hol,_,nl,hdl⟩:=hl
    have ht:s.TypeIs (.ref it) "tuple_iterator" := ⟨o,ho,hc⟩
    unfold K6
    refine A1 (J4 (name:=R0 "__next__") ht F.slot_tuple_iterator_next
      (G3 F.slot_tuple_iterator_next ht F.entry_tuple_iterator_next ?_ (F.args_tuple_iterator_next_1 _)))
    show B6 _ _ (sJ (.ref it) 0 >>= _) _ _ s;refine A1 (K4 ho hd (x:=.ref l) rfl ?_);show B6 _ _ (if(F7 l == N4)=true then _ else _) _ _ s;rw[if_neg (show ¬((F7 l == N4)=true) from B9)];show B6 _ _ (sJ (.ref it) 1 >>= _) _ _ s;refine A1 (K4 ho hd (x:=.int i 0) rfl ?_);show B6 _ _ (seqItems? (.ref l) >>= _) _ _ s;refine A1 (L5 hol hdl ?_);simp only[K1,hx];refine A1 (S2 ho hd (by simp) (A6 ⟨x,rfl,A6 (hQ _ ?_ (J5 ..))⟩));exact⟨_,G5 _ ho (rh (p8 hd _)),(Obj.cls_mapFields ..).trans hc,by
      rw[p8 hd];simp[N5]⟩
theorem Ov{Q:Value->A7->Prop}(hh:A.handled=none)(hit:Hk s.heap it l i b)(hl:Hl s.heap l items b)(hx:items[i]?=none)
    (hE:∀h' e,j6 it s.heap h'->(∃o,h'.get? e=some o/\o.cls=.type "StopIteration")->E (.ref e) { s with heap:=h' }):B6 (D4 prog w) A (K6 (.ref it)) Q E s:=by
  cases b with
  | false=>exact wpAny_nextOf_list_end hh hit hl hx hE
  | true =>
    obtain⟨o,ho,hc,hd⟩:=id hit;obtain⟨ol,hol,_,nl,hdl⟩:=hl
    have ht:s.TypeIs (.ref it) "tuple_iterator" := ⟨o,ho,hc⟩
    unfold K6
    refine A1 (J4 (name:=R0 "__next__") ht F.slot_tuple_iterator_next
      (G3 F.slot_tuple_iterator_next ht F.entry_tuple_iterator_next ?_ (F.args_tuple_iterator_next_1 _)))
    show B6 _ _ (sJ (.ref it) 0 >>= _) _ _ s;refine A1 (K4 ho hd (x:=.ref l) rfl ?_);show B6 _ _ (if(F7 l == N4)=true then _ else _) _ _ s;rw[if_neg (show ¬((F7 l == N4)=true) from B9)];show B6 _ _ (sJ (.ref it) 1 >>= _) _ _ s;refine A1 (K4 ho hd (x:=.int i 0) rfl ?_);show B6 _ _ (seqItems? (.ref l) >>= _) _ _ s;refine A1 (L5 hol hdl ?_);simp only[K1,hx];refine A1 (R7 (A1 (S2 ho hd (by simp) ?_)))
    show B6 _ _ (newExc (.type "StopIteration") [] >>= _) _ _ _
    refine A1 ?_;simp only[newExc,vX];refine A1 (K0 ?_ (by size_fits));refine A1 (m:=p9 _ _) (u4 (a:=N4) (by first | rfl | (simp only[p9];rfl)) ?_);refine K0 ?_ (by size_fits);simp only[raiseNew];refine A1 (wpAny_handled ?_)
    first | rw[show A.in1.handled=none from hh] | rw[hh]
    refine A1 (A6 (wpAny_throw ?_));exact hE _ _ (((J5 ..).extBut.push _).push _) ⟨_,B2 _ rfl,rfl⟩
end
def Jt(K:W.Frag)(H:Hp)(a:B3)(xs:List V):Bool->Prop
 | false=>Cy K H a xs
 | true=>De K H a xs
section
variable {X:Cx} {pins:List (B3×Obj)} {σ:St} {H:Hp} {s:A7} {a:B3} {xs ys:List V} {b:Bool}
theorem Inv.sqB(I:Inv X pins σ H s)(h:Jt X.K H a xs b):∃its:List Value,AF xs its/\Hl s.heap a its.toArray b/\a < s.heap.objs.size:=by
 cases b with
 | false =>
  obtain⟨its,r,p,_⟩:=I.list h;exact⟨its,r,p.isList,by obtain⟨o,n,e,_⟩:=p;exact C0 e⟩
 | true =>
  obtain⟨its,r,p,_⟩:=I.tuple h;exact⟨its,r,p,by obtain⟨o,e,_⟩:=p;exact C0 e⟩
theorem Inv.zM(I:Inv X pins σ H s)(h:Jt X.K H a xs b)(h':Jt X.K H a ys b):xs=ys:=by
 cases b with
 | false=>exact I.yo h h'
 | true=>exact I.yG h h'
end
abbrev SE(h:H9)(T:B3)(v1 v2:Value):Prop:=h.get? T=some { cls:=.type "tuple", data:=.seq #[v1,v2] }
variable {I l1 l2:Nat} {b1 b2:Bool} {xX xg:Array Value}
section
variable {prog:F0} {w:J7} {A:I9} {E:Value->A7->Prop} {s:A7}
theorem Ub{T:B3}{v1 v2 x:Value}{Q:Unit->A7->Prop}(hT:SE s.heap T v1 v2)(h:∀h',SE h' T x v2->K9 T s.heap h'->Q () { s with heap:=h' }):B6 (D4 prog w) A (e9 T (·.setIfInBounds 0 x)) Q E s:=by
 refine Q7 hT rfl (h _ ?_ (J5 ..));show Heap.get? _ _=_;rw[G5 _ hT rfl];simp[E6]
theorem da{T:B3}{v1 v2 x:Value}{Q:Unit->A7->Prop}(hT:SE s.heap T v1 v2)(h:∀h',SE h' T v1 x->K9 T s.heap h'->Q () { s with heap:=h' }):B6 (D4 prog w) A (e9 T (·.setIfInBounds 1 x)) Q E s:=by
 refine Q7 hT rfl (h _ ?_ (J5 ..));show Heap.get? _ _=_;rw[G5 _ hT rfl];simp[E6]
structure yY (h:H9) (I:Nat) (l1 l2:Nat) (b1 b2:Bool) (i:Nat) (f0:Value):Prop where
 z:sL h (I+4) (I+2) (I+3) f0
 ti:SE h (I+2) (.ref I) (.ref (I+1))
 to:∃v1 v2,SE h (I+3) v1 v2
 s1:Hk h I l1 i b1
 s2:Hk h (I+1) l2 i b2
theorem yY.at{h':H9}{f0:Value}(x:yY h I l1 l2 b1 b2 i f0)(k:∀(c:Nat) o,I<=c->c < I+5->h.get? c=some o->h'.get? c=some o):yY h' I l1 l2 b1 b2 i f0:=
 ⟨k _ _ (by omega) (by omega) x.z,k _ _ (by omega) (by omega) x.ti,let ⟨v1,v2,e⟩:=x.to;⟨v1,v2,k _ _ (by omega) (by omega) e⟩,x.s1.at fun o e=>k _ o (by omega) (by omega) e,x.s2.at fun o e=>k _ o (by omega) (by omega) e⟩
theorem SF{y1 y2:Value}{Q:Value->A7->Prop}(hz:yY s.heap I l1 l2 b1 b2 i .none)(x6:Hl s.heap l1 xX b1)(lt1:l1 < I)(xy:Hl s.heap l2 xg b2)(lt2:l2 < I)(hx1:xX[i]?=some y1)(hx2:xg[i]?=some y2)
    (hQ:∀h',yY h' I l1 l2 b1 b2 (i+1) (N5 s.heap.objs.size)->SE h' s.heap.objs.size y1 y2->h'.objs.size=s.heap.objs.size+1->(∀(c:Nat) o,(c < I\/I+5<=c)->s.heap.get? c=some o->h'.get? c=some o)->Q (.ref s.heap.objs.size) { s with heap:=h' }) :
    B6 (D4 prog w) A (O8.«zip.__next__» ⟨[.ref (I+4)],[]⟩) (fun fin s'=>∃v,fin=.done (.ret v)/\Q v s') E s:=by
  obtain⟨z0,ti0,⟨v1,v2,to0⟩,s10,s20⟩:=hz;show B6 _ _ (sJ (.ref (I+4)) 2 >>= _) _ _ _;refine A1 (K4 z0 rfl (x:=.bool false) rfl ?_);show B6 _ _ (sJ (.ref (I+4)) 3 >>= _) _ _ _;refine A1 (K4 z0 rfl (x:=.ref (I+2)) rfl ?_);refine A1 (L5 ti0 rfl ?_);show B6 _ _ (J9 (.ref (I+4)) >>= _) _ _ _;refine A1 ?_;unfold J9;refine A1 (K4 z0 rfl (x:=.none) rfl (A6 ?_));simp only[if_true];refine A1 (R7 ?_);refine A1 (K4 z0 rfl (x:=.ref (I+3)) rfl ?_);refine A1 (M9 z0 (by simp) fun h₁ yp xA=>?_);replace yp:sL h₁ (I+4) (I+2) (I+3) .ellipsis:=yp;refine A1 ?_;simp only[ug,vA,k5,sH];have g0:∀(c:Nat) o,c≠(I+4)->s.heap.get? c=some o->h₁.get? c=some o:=fun c o c1 e=>xA.extBut _ _ c1 e
  have k0:∀(c:Nat) o,c≠(I+4)->c≠(I+3)->(c < I\/I<=c)->s.heap.get? c=some o->h₁.get? c=some o:=fun c o c1 _ _ e=>g0 c o c1 e
  have to1:SE h₁ (I+3) v1 v2:=g0 _ _ (by omega) to0;refine A1 (A1 (qq ?_));show B6 _ _ (K6 (.ref I) >>= _) _ _ _;refine A1 (Ho (s10.at fun o e=>k0 _ o (by omega) (by omega) (by omega) e) (x6.at fun o e=>k0 _ o (by omega) (by omega) (by omega) e) hx1 fun p1 si1 sp1=>A6 ?_);have u1:SE p1 (I+3) v1 v2:=sp1.extBut _ _ (GS (by omega)) to1;refine A1 (L5 u1 rfl ?_);refine A1 (Ub u1 fun q1 to2 sq1=>?_);have k1:∀(c:Nat) o,c≠(I+4)->c≠(I+3)->(c < I\/I+1<=c)->s.heap.get? c=some o->q1.get? c=some o:=fun c o c1 c2 c3 e=>sq1.extBut _ _ c2 (sp1.extBut _ _ (GS (by omega)) (k0 c o c1 c2 (by omega) e))
  have zz1:sL q1 (I+4) (I+2) (I+3) .ellipsis:=sq1.extBut _ _ (GS (by omega)) (sp1.extBut _ _ (GS (by omega)) yp);have zDJ:Hk q1 I l1 (i+1) b1:=si1.at fun o e=>sq1.extBut _ _ (GS (by omega)) e
  refine A1 (sM (A6 ?_));refine A1 (A1 (qq ?_));show B6 _ _ (K6 (.ref (I+1)) >>= _) _ _ _;refine A1 (Ho (s20.at fun o e=>k1 _ o (by omega) (by omega) (by omega) e) (xy.at fun o e=>k1 _ o (by omega) (by omega) (by omega) e) hx2 fun p2 si2 sp2=>A6 ?_);have u2:SE p2 (I+3) y1 v2:=sp2.extBut _ _ (GS (by omega)) to2;refine A1 (L5 u2 rfl ?_);refine A1 (da u2 fun q2 to3 sq2=>?_);have k2:∀(c:Nat) o,c≠(I+4)->c≠(I+3)->(c < I\/I+2<=c)->s.heap.get? c=some o->q2.get? c=some o:=fun c o c1 c2 c3 e=>sq2.extBut _ _ c2 (sp2.extBut _ _ (GS (by omega)) (k1 c o c1 c2 (by omega) e))
  have zz2:sL q2 (I+4) (I+2) (I+3) .ellipsis:=sq2.extBut _ _ (GS (by omega)) (sp2.extBut _ _ (GS (by omega)) zz1);have zDH:Hk q2 (I+1) l2 (i+1) b2:=si2.at fun o e=>sq2.extBut _ _ (GS (by omega)) e
  have zDI:Hk q2 I l1 (i+1) b1:=zDJ.at fun o e=>sq2.extBut _ _ (GS (by omega)) (sp2.extBut _ _ (GS (by omega)) e)
  refine A1 (sM (A6 (A6 ?_)));refine A1 (L5 to3 rfl ?_);refine A1 (wpAny_newTuple ?_);have hsz:q2.objs.size=s.heap.objs.size:=by rw[sq2.1,sp2.1,sq1.1,sp1.1,xA.1]
  have zlt:(I+4) < q2.objs.size:=C0 zz2;show B6 _ _ (X3 (.ref (I+4)) (.ref q2.objs.size) >>= _) _ _ _;refine A1 ?_;unfold X3
  have z6:sL (q2.push { cls:=.type "tuple", data:=.seq #[y1,y2] }) (I+4) (I+2) (I+3) .ellipsis:=A2 _ zz2
  refine A1 (M9 z6 (by simp) fun zDX zAk zAm=>?_);replace zAk:sL zDX (I+4) (I+2) (I+3) (N5 q2.objs.size):=zAk;refine M9 zAk (by simp) fun zAj zAN zAl=>?_
  replace zAN:sL zAj (I+4) (I+2) (I+3) (N5 q2.objs.size):=zAN;have up:∀(c:Nat) o,c≠(I+4)->q2.get? c=some o->zAj.get? c=some o:=fun c o c1 e=>zAl.extBut _ _ c1 (zAm.extBut _ _ c1 (A2 _ e))
  have zBa:SE zAj q2.objs.size y1 y2:=zAl.extBut _ _ (GS (by omega)) (zAm.extBut _ _ (GS (by omega)) (B2 _ rfl));have hz8:zAj.objs.size=q2.objs.size+1:=by rw[zAl.1,zAm.1,J0]
  rw[hsz] at zAN zBa hz8;refine A6 ⟨_,rfl,?_⟩;show Q (.ref q2.objs.size) _;rw[hsz];exact hQ zAj ⟨zAN,up _ _ (by omega) (k2 _ _ (by omega) (by omega) (by omega) ti0),⟨y1,y2,up _ _ (by omega) to3⟩,zDI.at fun o e=>up _ o (by omega) e,zDH.at fun o e=>up _ o (by omega) e⟩ zBa hz8 fun c o hc e=>up c o (by omega) (k2 c o (by omega) (by omega) (by omega) e)
theorem UZ{Q:Fin->A7->Prop}(hh:A.handled=none)(hz:yY s.heap I l1 l2 b1 b2 i .none)(x6:Hl s.heap l1 xX b1)(lt1:l1 < I)(xy:Hl s.heap l2 xg b2)(lt2:l2 < I)(zAt:xX[i]?=none\/xg[i]?=none)
    (hE:∀h' e,(∀(c:Nat) o,(c < I\/I+5<=c)->s.heap.get? c=some o->h'.get? c=some o)->(∃o,h'.get? e=some o/\o.cls=.type "StopIteration")->E (.ref e) { s with heap:=h' }) :
    B6 (D4 prog w) A (O8.«zip.__next__» ⟨[.ref (I+4)],[]⟩) Q E s:=by
  obtain⟨z0,ti0,⟨v1,v2,to0⟩,s10,s20⟩:=hz;show B6 _ _ (sJ (.ref (I+4)) 2 >>= _) _ _ _;refine A1 (K4 z0 rfl (x:=.bool false) rfl ?_);show B6 _ _ (sJ (.ref (I+4)) 3 >>= _) _ _ _;refine A1 (K4 z0 rfl (x:=.ref (I+2)) rfl ?_);refine A1 (L5 ti0 rfl ?_);show B6 _ _ (J9 (.ref (I+4)) >>= _) _ _ _;refine A1 ?_;unfold J9;refine A1 (K4 z0 rfl (x:=.none) rfl (A6 ?_));simp only[if_true];refine A1 (R7 ?_);refine A1 (K4 z0 rfl (x:=.ref (I+3)) rfl ?_);refine A1 (M9 z0 (by simp) fun h₁ yp xA=>?_);replace yp:sL h₁ (I+4) (I+2) (I+3) .ellipsis:=yp;refine A1 ?_;simp only[ug,vA,k5,sH];have g0:∀(c:Nat) o,c≠(I+4)->s.heap.get? c=some o->h₁.get? c=some o:=fun c o c1 e=>xA.extBut _ _ c1 e
  have k0:∀(c:Nat) o,c≠(I+4)->c≠(I+3)->(c < I\/I<=c)->s.heap.get? c=some o->h₁.get? c=some o:=fun c o c1 _ _ e=>g0 c o c1 e
  have to1:SE h₁ (I+3) v1 v2:=g0 _ _ (by omega) to0;have zz0:sL h₁ (I+4) (I+2) (I+3) .ellipsis:=yp;refine A1 (A1 (qq ?_));show B6 _ _ (K6 (.ref I) >>= _) _ _ _;cases hx1:xX[i]? with
  | none =>
    refine A1 (Ov hh (s10.at fun o e=>k0 _ o (by omega) (by omega) (by omega) e) (x6.at fun o e=>k0 _ o (by omega) (by omega) (by omega) e) hx1 fun xZ e xK he=>?_);obtain⟨oe,hoe,hce⟩:=he;have zW:sL xZ (I+4) (I+2) (I+3) .ellipsis:=xK _ _ (GS (by omega)) zz0;have hez:e≠(I+4):=fun x=>by subst x;rw[zW] at hoe;cases hoe;simp at hce
    exact M9 zW (by simp) fun xn _ xT=>hE xn e (fun c o hc x=>xT.extBut _ _ (GS (by omega)) (xK _ _ (GS (by omega)) (k0 c o (by omega) (by omega) (by omega) x))) ⟨oe,xT.extBut _ _ hez hoe,hce⟩
  | some y1 =>
    refine A1 (Ho (s10.at fun o e=>k0 _ o (by omega) (by omega) (by omega) e) (x6.at fun o e=>k0 _ o (by omega) (by omega) (by omega) e) hx1 fun p1 si1 sp1=>A6 ?_);have u1:SE p1 (I+3) v1 v2:=sp1.extBut _ _ (GS (by omega)) to1;refine A1 (L5 u1 rfl ?_);refine A1 (Ub u1 fun q1 to2 sq1=>?_);have k1:∀(c:Nat) o,c≠(I+4)->c≠(I+3)->(c < I\/I+1<=c)->s.heap.get? c=some o->q1.get? c=some o:=fun c o c1 c2 c3 e=>sq1.extBut _ _ c2 (sp1.extBut _ _ (GS (by omega)) (k0 c o c1 c2 (by omega) e))
    have zz1:sL q1 (I+4) (I+2) (I+3) .ellipsis:=sq1.extBut _ _ (GS (by omega)) (sp1.extBut _ _ (GS (by omega)) zz0);refine A1 (sM (A6 ?_));refine A1 (A1 (qq ?_));show B6 _ _ (K6 (.ref (I+1)) >>= _) _ _ _;cases hx2:xg[i]? with
    | none =>
      refine A1 (Ov hh (s20.at fun o e=>k1 _ o (by omega) (by omega) (by omega) e) (xy.at fun o e=>k1 _ o (by omega) (by omega) (by omega) e) hx2 fun xZ e xK he=>?_);obtain⟨oe,hoe,hce⟩:=he;have zW:sL xZ (I+4) (I+2) (I+3) .ellipsis:=xK _ _ (GS (by omega)) zz1;have hez:e≠(I+4):=fun x=>by subst x;rw[zW] at hoe;cases hoe;simp at hce
      exact M9 zW (by simp) fun xn _ xT=>hE xn e (fun c o hc x=>xT.extBut _ _ (GS (by omega)) (xK _ _ (GS (by omega)) (k1 c o (by omega) (by omega) (by omega) x))) ⟨oe,xT.extBut _ _ hez hoe,hce⟩
    | some y2 =>
      simp[hx1,hx2] at zAt
theorem Gn{y1 y2:Value}{Q:Option Value->A7->Prop}(hz:yY s.heap I l1 l2 b1 b2 i .none)(x6:Hl s.heap l1 xX b1)(lt1:l1 < I)(xy:Hl s.heap l2 xg b2)(lt2:l2 < I)(hx1:xX[i]?=some y1)(hx2:xg[i]?=some y2)
    (hQ:∀h',yY h' I l1 l2 b1 b2 (i+1) (N5 s.heap.objs.size)->SE h' s.heap.objs.size y1 y2->h'.objs.size=s.heap.objs.size+1->(∀(c:Nat) o,(c < I\/I+5<=c)->s.heap.get? c=some o->h'.get? c=some o)->Q (some (.ref s.heap.objs.size)) { s with heap:=h' }) :
    B6 (D4 prog w) A (V1 (.ref (I+4))) Q E s:=by
  have hT:s.TypeIs (.ref (I+4)) "zip" := ⟨_,hz.z,rfl⟩
  unfold V1
  exact A1 (X5 (J4 (name:=R0 "__next__") hT F.slot_zip_next
    (G3 F.slot_zip_next hT F.entry_zip_next (SF hz x6 lt1 xy lt2 hx1 hx2 fun h' a1 a2 a3 a4=>A6 (hQ h' a1 a2 a3 a4)) (F.args_zip_next_1 _))))
theorem Hf{Q:Option Value->A7->Prop}(hh:A.handled=none)(hz:yY s.heap I l1 l2 b1 b2 i .none)(x6:Hl s.heap l1 xX b1)(lt1:l1 < I)(xy:Hl s.heap l2 xg b2)(lt2:l2 < I)(zAt:xX[i]?=none\/xg[i]?=none)
    (hQ:∀h',(∀(c:Nat) o,(c < I\/I+5<=c)->s.heap.get? c=some o->h'.get? c=some o)->Q none { s with heap:=h' }) :
    B6 (D4 prog w) A (V1 (.ref (I+4))) Q E s:=by
  have hT:s.TypeIs (.ref (I+4)) "zip" := ⟨_,hz.z,rfl⟩
  unfold V1
  refine A1 (X5 (J4 (name:=R0 "__next__") hT F.slot_zip_next
    (G3 F.slot_zip_next hT F.entry_zip_next (UZ hh hz x6 lt1 xy lt2 zAt fun h' e hk he=>?_) (F.args_zip_next_1 _))))
  obtain⟨o,ho,hc⟩:=he
  refine A1 (R4 (T := "StopIteration") (b:=true) ⟨o,ho,hc⟩ sN ?_)
  exact A6 (hQ _ hk)
abbrev KN(h:H9)(l1 l2:Nat)(b1 b2:Bool):H9:=h.push (RO l1 b1)
abbrev Qe(h:H9)(l1 l2:Nat)(b1 b2:Bool):H9:=(KN h l1 l2 b1 b2).push (RO l2 b2)
abbrev Qd(h:H9)(l1 l2:Nat)(b1 b2:Bool):H9:=(Qe h l1 l2 b1 b2).push { cls:=.type "tuple", data:=.seq #[.ref h.objs.size,.ref (KN h l1 l2 b1 b2).objs.size] }
abbrev Qc(h:H9)(l1 l2:Nat)(b1 b2:Bool):H9:=(Qd h l1 l2 b1 b2).push { cls:=.type "tuple", data:=.seq #[.none,.none] }
abbrev ID(h:H9)(l1 l2:Nat)(b1 b2:Bool):H9:=(Qc h l1 l2 b1 b2).push { cls:=.type "zip", data:=.fields #[.none,.bool false,.bool false,.ref (Qe h l1 l2 b1 b2).objs.size,.ref (Qd h l1 l2 b1 b2).objs.size] }
theorem Pe(l1 l2:Nat)(b1 b2:Bool)(xX xg:Array Value) :
    vk (O8.«zip.__new__» ⟨[.type "zip", .ref l1,.ref l2],[]⟩) (fun _ R s=>Hl s.heap l1 xX b1/\Hl s.heap l2 xg b2 /\
      R (.ok (.ret (.ref (Qc s.heap l1 l2 b1 b2).objs.size))) { s with heap:=ID s.heap l1 l2 b1 b2 }):=
  .of_wp fun prog w A R s h=>by
    obtain⟨hp,g,d,tk,os⟩:=s;obtain⟨x6,xy,h⟩:=h;have zAb:=sub_zip;have hL1:Hl (u5 ⟨hp,g,d,tk,os⟩) l1 xX b1:=x6.at fun o e=>e
    have hL2:Hl (u5 ⟨(KN hp l1 l2 b1 b2),g,d,tk,os⟩) l2 xg b2:=xy.at fun o e=>A2 _ e
    wp_walk using Kb hL1,Kb hL2
    exact⟨_,rfl,h⟩
theorem Tu{Q:Value->A7->Prop}(x6:Hl s.heap l1 xX b1)(xy:Hl s.heap l2 xg b2)
    (h:∀h',yY h' s.heap.objs.size l1 l2 b1 b2 0 .none->h'.objs.size=s.heap.objs.size+5->(∀(c:Nat) o,s.heap.get? c=some o->h'.get? c=some o)->Q (.ref (s.heap.objs.size+4)) { s with heap:=h' }) :
    B6 (D4 prog w) A (call (.type "zip") [.ref l1,.ref l2]) Q E s:=by
  refine callType_new F.called_zip (by decide) (F.typeCall_zip_2 _ _) (F.newCall_zip_2 _ _) (fun obj=>F.args_object_init_3 obj _ _) F.entry_zip_new (Pe l1 l2 b1 b2 xX xg) ⟨x6,xy,?_⟩;have z1:(KN s.heap l1 l2 b1 b2).objs.size=s.heap.objs.size+1:=by exact J0 ..
  have z2:(Qe s.heap l1 l2 b1 b2).objs.size=s.heap.objs.size+2:=by rw[J0,z1]
  have z3:(Qd s.heap l1 l2 b1 b2).objs.size=s.heap.objs.size+3:=by rw[J0,z2]
  have z4:(Qc s.heap l1 l2 b1 b2).objs.size=s.heap.objs.size+4:=by rw[J0,z3]
  have z5:(ID s.heap l1 l2 b1 b2).objs.size=s.heap.objs.size+5:=by rw[J0,z4]
  have gz:(ID s.heap l1 l2 b1 b2).get? (Qc s.heap l1 l2 b1 b2).objs.size=some _:=B2 _ rfl;have gto:(ID s.heap l1 l2 b1 b2).get? (Qd s.heap l1 l2 b1 b2).objs.size=some _:=(A2 _ (B2 _ rfl));have gti:(ID s.heap l1 l2 b1 b2).get? (Qe s.heap l1 l2 b1 b2).objs.size=some _:=(A2 _ (A2 _ (B2 _ rfl)));have gs1:Hk (ID s.heap l1 l2 b1 b2) s.heap.objs.size l1 0 b1:=Hk.at (Hk.new (h:=s.heap)) fun o e=>(A2 _ (A2 _ (A2 _ (A2 _ e))))
  have gs2:Hk (ID s.heap l1 l2 b1 b2) (KN s.heap l1 l2 b1 b2).objs.size l2 0 b2:=Hk.at (Hk.new (h:=(KN s.heap l1 l2 b1 b2))) fun o e=>(A2 _ (A2 _ (A2 _ e)))
  show _/\_;rw[z2,z3,z4] at gz;rw[z3] at gto;rw[z1,z2] at gti;rw[z1] at gs2;rw[z4];exact⟨⟨_,gz,rfl⟩,h _ ⟨gz,gti,⟨_,_,gto⟩,gs1,gs2⟩ z5 fun c o x=>(A2 _ (A2 _ (A2 _ (A2 _ (A2 _ x)))))⟩
end
theorem cS{b:Nat}(h:¬b∈([(I+4),(I+2),(I+3),I,(I+1)]:List Nat)):b < I\/I+5<=b:=by simp only[C8,K7,or_false,not_or] at h;omega
theorem lQ{b:Nat}(h:b∈([(I+4),(I+2),(I+3),I,(I+1)]:List Nat)):I<=b/\b < I+5:=by simp only[C8,K7,or_false] at h;omega
def YX(K:W.Frag)(a1 a2:Nat)(b1 b2:Bool):It:=
 ⟨fun i H=>∃xX xg y1 y2,Jt K H a1 xX b1/\xX[i]?=some y1/\Jt K H a2 xg b2/\xg[i]?=some y2,fun i H x H'=>∃p y1 y2,H p=none/\x=.ref p/\H'=upd H p (.tup [y1,y2])/\(∀xs,Jt K H a1 xs b1->xs[i]?=some y1)/\(∀xs,Jt K H a2 xs b2->xs[i]?=some y2),fun i H=>∃xX xg,Jt K H a1 xX b1/\Jt K H a2 xg b2/\(xX.length<=i\/xg.length<=i)⟩
variable {pos:Pos}
theorem SI{P:F0}{w:J7}{K:W.Frag}{elts:List Expr}{x1}(I a1 a2:Nat)(b1 b2:Bool)(lt1:a1 < I)(lt2:a2 < I):Turn P w K (.Tuple elts x1 pos) (YX K a1 a2 b1 b2) [(I+4),(I+2),(I+3),I,(I+1)] (I+4) (fun i h=>yY h I a1 a2 b1 b2 i .none) where
 mem:=by simp
 obj:=fun i h st b hb=>by
  obtain⟨z0,ti0,⟨v1,v2,to0⟩,s10,s20⟩:=st;simp only[C8,K7,or_false] at hb;rcases hb with rfl | rfl | rfl | rfl | rfl
  ·exact⟨_,z0,fun v z=>by cases z⟩
  ·exact⟨_,ti0,fun v z=>by cases z⟩
  ·exact⟨_,to0,fun v z=>by cases z⟩
  ·exact s10.obj
  ·exact s20.obj
 keep:=fun i h h' st k=>st.at fun c o c1 c2 e=>k c (by show c∈([(I+4),(I+2),(I+3),I,(I+1)]:List Nat);simp only[C8,K7,or_false];omega) o e
 item:=by
  intro X hP hw hK hc i pins s σ H E I1 hf st hg;subst hP hw hK;obtain⟨ws1,ws2,y1,y2,hq1,hy1,hq2,hy2⟩:=hg;obtain⟨zBx,rv1,p1,x6⟩:=I1.sqB hq1;obtain⟨u1,hu1,ru1⟩:=rv1.get hy1;obtain⟨wg,rv2,p2,xy⟩:=I1.sqB hq2;obtain⟨u2,hu2,ru2⟩:=rv2.get hy2;refine Gn st p1 lt1 p2 lt2 (y1:=u1) (y2:=u2) (by simpa using hu1) (by simpa using hu2) fun h1 st1 t1 z1 k1=>?_
  refine⟨_,rfl,wpAny_letOwnedTupleGo_zip (s:={ s with heap:=h1 }) st1.z fun h2 e2 sb=>?_⟩;have hzl:(I+4) < s.heap.objs.size:=C0 st.z;have yw:=I1.wj.fresh (B4 s.heap.objs.size)
  have I2:Inv X pins σ (upd H s.heap.objs.size (.tup [y1,y2])) { s with heap:=s.heap.push { cls:=.type "tuple", data:=.seq #[u1,u2] },toks:=s.toks }:=
   I1.laid (fun b o q=>A2 _ q) (B4 _) (show Ab X.prog X.w _ _ _ (.tup [y1,y2]) from⟨by show 2<=sizeLine;decide,[u1,u2],(.cons ru1 (.cons ru2 .nil)),HP.new _ _⟩)
  have hb:∀b∈([(I+4),(I+2),(I+3),I,(I+1)]:List Nat),I<=b/\b < I+5:=fun b hb=>lQ hb
  have zQ:∀b∈([(I+4),(I+2),(I+3),I,(I+1)]:List Nat),wc X pins (upd H s.heap.objs.size (.tup [y1,y2])) b:=fun b hbb=>by
   obtain⟨f0,r⟩:=hf b hbb;refine⟨?_,r⟩;rw[AE (D1 (C7 (hb b hbb).2 (by omega)))];exact f0
  have I3:Inv X pins σ (upd H s.heap.objs.size (.tup [y1,y2])) { s with heap:=h2,toks:=s.toks }:=by
   refine Inv.yZ (s:={ s with heap:=s.heap.push { cls:=.type "tuple", data:=.seq #[u1,u2] },toks:=s.toks }) (h':=h2) (t':=s.toks) (ch:=[(I+4),(I+2),(I+3),I,(I+1)]) I2 (fun b o hbb q=>?_) zQ
   have q:(s.heap.push { cls:=.type "tuple", data:=.seq #[u1,u2] }).get? b=some o:=q
   have yr:b≠(I+4):=fun z=>hbb (by simp[z])
   refine(sb.2 b yr).trans ?_
   by_cases hbs:b=s.heap.objs.size
   ·subst hbs;rw[B2 _ rfl] at q;rw[<- q];exact t1
   ·rw[qj _ _ _ hbs] at q;exact k1 b o (cS hbb) q
  refine⟨.ref s.heap.objs.size,_,I3,rfl,⟨_,y1,y2,yw,rfl,rfl,fun zs hz=>by rw[I1.zM hz hq1];exact hy1,fun zs hz=>by rw[I1.zM hz hq2];exact hy2⟩,?_,fun b hbb=>(zQ b hbb).1⟩;exact⟨e2,sb.extBut _ _ (GS (by omega)) st1.ti,let ⟨v1,v2,e⟩:=st1.to;⟨v1,v2,sb.extBut _ _ (GS (by omega)) e⟩,st1.s1.at fun o e=>sb.extBut _ _ (GS (by omega)) e,st1.s2.at fun o e=>sb.extBut _ _ (GS (by omega)) e⟩
 done:=by
  intro X hP hw hK hc i pins s σ H E I1 hf st hg;subst hP hw hK;obtain⟨ws1,ws2,hq1,hq2,zAt⟩:=hg;obtain⟨zBx,rv1,p1,x6⟩:=I1.sqB hq1;have le1:=rv1.length;obtain⟨wg,rv2,p2,xy⟩:=I1.sqB hq2;have le2:=rv2.length;have zCp:zBx.toArray[i]?=none\/wg.toArray[i]?=none:=by
   rcases zAt with h | h
   ·exact .inl (by simp;omega)
   ·exact .inr (by simp;omega)
  refine Hf (I1.ok.hd hc) st p1 lt1 p2 lt2 zCp fun h' k=>⟨rfl,?_⟩
  refine Inv.yZ (t':=s.toks) (ch:=[(I+4),(I+2),(I+3),I,(I+1)]) I1 (fun b o hbb e=>k b o (cS hbb) e) hf
 self:=fun _ _ _ _ _ st h=>uh st.z h
section
variable {X:Cx} {elts:List Expr} {x1} {xm:Pos}
abbrev lT(K:W.Frag)(ta:TA):TI:=fun σ H R=>ta σ H fun vs H1=>∃a1 a2 b1 b2,vs=[.ref a1,.ref a2]/\(∃xs,Jt K H1 a1 xs b1)/\(∃xs,Jt K H1 a2 xs b2)/\R (YX K a1 a2 b1 b2) H1
theorem Zh(K:W.Frag){e1 e2:Expr}{ta:TA}{p:Pos}(hg:Gl X "zip")(hm:X.mg "zip" = none)(ha:PA X [e1,e2] ta)(hK:X.K=K:=by rfl)(hs:D2 (e1::[e2]) X.env=(false,M8 e1 X.env)::D2 [e2] X.env:=by rfl)(zi:(M6 pos (D2 [e2] X.env)).any (·.1)=false:=by rfl):PI X (.Tuple elts x1 xm) (.Call (.Name "zip" p) [e1,e2] [] pos) (lT K ta):=by
 subst hK;intro pins s σ H R I h;refine Call_ (CH I hg hm PyProof.Rows.Boot.«zip» (G1 (Aw (ha pos pins s σ H _ I h) fun us s1 ⟨vs,H1,I1,r1,q1⟩=>?_) hs zi));obtain⟨a1,a2,b1,b2,rfl,⟨ws1,hq1⟩,⟨ws2,hq2⟩,q⟩:=q1;obtain⟨zBx,rv1,p1,x6⟩:=I1.sqB hq1;obtain⟨wg,rv2,p2,xy⟩:=I1.sqB hq2;have rr:=r1;clear r1;cases rr with
 | cons r1 w1 =>
  cases w1 with
  | cons r2 w2 =>
   cases w2;cases r1;cases r2;refine Tu p1 p2 fun h' st hsz hk=>?_
   refine uh (s:={ s1 with heap:=h' }) st.z ?_;refine⟨s1.heap.objs.size+4,[(s1.heap.objs.size+4),(s1.heap.objs.size+2),(s1.heap.objs.size+3),s1.heap.objs.size,(s1.heap.objs.size+1)],fun i h=>yY h s1.heap.objs.size a1 a2 b1 b2 i .none,YX X.K a1 a2 b1 b2,H1,rfl,I1.kept (t':=s1.toks) hk,SI s1.heap.objs.size a1 a2 b1 b2 x6 xy,st,fun b hb=>?_,q⟩;have hb':s1.heap.objs.size<=b:=(lQ (I:=s1.heap.objs.size) hb).1;exact I1.wb hb' (I1.wj.fresh hb')
end
noncomputable def qR(x:Str):It:=⟨fun i H=>∃c,x.cps[i]?=some c,fun i H v H'=>H'=H/\∃c,x.cps[i]?=some c/\v=.str ⟨#[c]⟩,fun i H=>x.cps[i]?=none⟩
section
variable {X:Cx}
abbrev pQ(K:W.Frag)(tl:TE):TI:=fun σ H R=>tl σ H fun x H1=>(∃a xs,x=.ref a/\((Cy K H1 a xs/\R (mx K a) H1)\/(De K H1 a xs/\R (nS K a) H1)))\/∃z,x=.str z/\R (qR z) H1
end
theorem Draws.sq{prog:F0}{w:J7}{A:I9}(hh:A.handled=none)(it l:B3)(yd:l≠it)(items:Array Value)(b:Bool) :
    Draws prog w A it [it,l] items.size (fun i v=>items[i]?=some v) (fun i h=>Hk h it l i b/\Hl h l items b) where
  live:=fun _ _ st=>let ⟨o,ho,_⟩:=st.1.obj;⟨o,ho⟩
  frame:=fun _ _ _ st hk=>⟨st.1.at fun o e=>hk it (by simp) o e,st.2.at fun o e=>hk l (by simp) o e⟩
  item:=fun i s Q E hi st hQ=>by
    refine Ho st.1 st.2 (x:=items[i]) (by simp[hi]) fun h' zDk hs'=>?_
    exact hQ _ h' s.toks (by simp[hi]) ⟨zDk,st.2.at fun o e=>hs'.extBut _ _ yd e⟩ hs'
  done:=fun s Q E st hE=>Ov hh st.1 st.2 (by simp) hE
def bf(K:W.Frag)(a:B3)(b:Bool)(n:Nat):It:=
 ⟨fun i H=>∃xs x,Jt K H a xs b/\xs.length=n/\xs[i]?=some x,fun i H x H'=>∃p y,H p=none/\x=.ref p/\H'=upd H p (.tup [.int i,y])/\∀xs,Jt K H a xs b->xs[i]?=some y,fun i H=>∃xs,Jt K H a xs b/\xs.length=n/\n<=i⟩
theorem On{P:F0}{w:J7}{K:W.Frag}{elts:List Expr}{x1}(a e it:B3)(b:Bool)(n:Nat)(yd:e≠it)(hae:a≠e)(hai:a≠it):Turn P w K (.Tuple elts x1 pos) (bf K a b n) [e,it] e (fun i h=>(∃old,IsEnum h e it i old)/\Hk h it a i b/\i<=n) where
 mem:=by simp
 obj:=fun i h st c hb=>by
  obtain⟨⟨old,he⟩,hi,xW⟩:=st;rcases C8.mp hb with z | z
  ·subst z;exact⟨_,he,fun v z=>by cases z⟩
  ·have z:=D3.mp z;subst z;exact hi.obj
 keep:=fun i h h' st k=>by
  obtain⟨⟨old,he⟩,hi,xW⟩:=st;exact⟨⟨old,k e (by simp) _ he⟩,hi.at fun o q=>k it (by simp) o q,xW⟩
 item:=by
  intro X hP hw hK hc i pins s σ H E I hf st hg;subst hP hw hK;obtain⟨xs,x,hq,hxn,hx⟩:=hg;obtain⟨⟨old,he⟩,hi,xW⟩:=st;obtain⟨its,rv,p,hz⟩:=I.sqB hq;obtain⟨u,hu,ru⟩:=rv.get hx;have hil:i < its.toArray.size:=by have:=(B5.mp hu).1;simpa using this
  refine rC (Draws.sq (A:=X.A.in1) (I.ok.hd hc) it a hai its.toArray b) he ⟨hi,p⟩ hil yd (by simp[yd,hae.symm]) fun x' h1 tk e1 o1 i1 t1 z1 k1=>?_
  have ex:x'=u:=by
   have e1:its.toArray[i]?=some x':=e1;rw[rk,hu] at e1;exact(D5 e1).symm
  subst ex;refine⟨_,rfl,wpAny_letOwnedTupleGo_enum (s:={ s with heap:=h1,toks:=tk+1 }) o1 fun h2 e2 sb=>?_⟩;have hel:e < s.heap.objs.size:=C0 he;have hil:it < s.heap.objs.size:=by obtain⟨o,q,_⟩:=hi.obj;exact C0 q
  have yw:=I.wj.fresh (B4 s.heap.objs.size)
  have I1:Inv X pins σ (upd H s.heap.objs.size (.tup [.int i,x])) { s with heap:=s.heap.push { cls:=.type "tuple", data:=.seq #[.int i tk,x'] },toks:=tk+1 }:=
   I.laid (fun b o q=>A2 _ q) (B4 _) (show Ab X.prog X.w _ _ _ (.tup [.int i,x]) from⟨by show 2<=sizeLine;decide,[.int i tk,x'],.cons ⟨_,rfl⟩ (.cons ru .nil),HP.new _ _⟩)
  have zQ:∀b∈[e,it],wc X pins (upd H s.heap.objs.size (.tup [.int i,x])) b:=fun b hb=>by
   obtain⟨f0,r⟩:=hf b hb;refine⟨?_,r⟩;have hbl:b≠s.heap.objs.size:=by
    rcases C8.mp hb with z | z
    ·rw[z];exact D1 hel
    ·rw[D3.mp z];exact D1 hil
   rw[AE hbl];exact f0
  have I2:Inv X pins σ (upd H s.heap.objs.size (.tup [.int i,x])) { s with heap:=h2,toks:=tk+1 }:=by
   refine Inv.yZ (s:={ s with heap:=s.heap.push { cls:=.type "tuple", data:=.seq #[.int i tk,x'] },toks:=tk+1 }) (h':=h2) (t':=tk+1) (ch:=[e,it]) I1 (fun b o hb q=>?_) zQ
   have q:(s.heap.push { cls:=.type "tuple", data:=.seq #[.int i tk,x'] }).get? b=some o:=q
   have yr:b≠e:=fun z=>hb (by simp[z])
   have hbi:b≠it:=fun z=>hb (by simp[z])
   refine(sb.2 b yr).trans ?_
   by_cases hbs:b=s.heap.objs.size
   ·subst hbs;rw[B2 _ rfl] at q;rw[<- q];exact t1
   ·refine k1 b o yr hbi ?_;rw[qj _ _ _ hbs] at q;exact q
  refine⟨.ref s.heap.objs.size,_,I2,rfl,⟨_,x,yw,rfl,rfl,fun ys hy=>by rw[I.zM hy hq];exact hx⟩,⟨⟨x',by simpa using e2⟩,?_,?_⟩,fun b hb=>(zQ b hb).1⟩
  ·exact i1.1.at fun o q=>(sb.2 it yd.symm).trans q
  ·have:=(B5.mp hx).1;omega
 done:=by
  intro X hP hw hK hc i pins s σ H E I hf st hg;subst hP hw hK;obtain⟨xs,hq,hx,hx2⟩:=hg;obtain⟨⟨old,he⟩,hi,xW⟩:=st;obtain⟨its,rv,p,hz⟩:=I.sqB hq;obtain⟨f0,f1,f2,f3,f4,f5⟩:=hf it (by simp);have hl:=rv.length;have ei:its.toArray.size=i:=by simp;omega
  exact wpAny_pyNext_enum_endD (Draws.sq (A:=X.A.in1) (I.ok.hd hc) it a hai its.toArray b) he (by rw[ei];exact⟨hi,p⟩) fun h' eb=>⟨rfl,I.turned (t':=s.toks) (fun b o hb e=>eb b o hb e) f0 f1 f3 f4 f5⟩
 self:=fun _ _ _ _ _ st h=>qk st.1.choose_spec h
theorem NQ(l:B3)(items:Array Value)(n:Nat)(xp:Option B3)(sl:Array (Option Value)) :
    vk (O8.«enumerate.__new__» ⟨[.type "enumerate", .ref l],[]⟩) (fun _ R s=>s.heap.get? l=some { cls:=.type "tuple", dict:=xp,data:=.seq items n,slots:=sl } /\
      R (.ok (.ret (.ref (s.heap.push { cls:=.type "tuple_iterator", data:=.fields #[.ref l,.int 0 0] }).objs.size)))
        { s with heap:=(s.heap.push { cls:=.type "tuple_iterator", data:=.fields #[.ref l,.int 0 0] }).push { cls:=.type "enumerate", data:=.fields #[.none,.bool false,.ref s.heap.objs.size,N5 0,.none,.none] } }):=
  .of_wp fun prog w A R s h=>by
    obtain⟨hp,g,d,tk,os⟩:=s;obtain⟨hl,h⟩:=h;have zAb:=sub_enumerate;have hL:Heap.IsTuple (u5 ⟨hp,g,d,tk,os⟩) l items:=⟨_,hl,rfl,n,rfl⟩
    wp_walk using P8 hl
    refine wpAny_stack_any fun st=>A6 ?_
    split
    · rename_i c _ _ _ _ _
      cases(c == G2 "enumerate")
      · wp_walk using P8 hl,S0 hL
        exact⟨_,rfl,h⟩
      · wp_walk using P8 hl,S0 hL
        exact⟨_,rfl,h⟩
    · wp_walk using P8 hl,S0 hL
      exact⟨_,rfl,h⟩
section
variable {prog:F0} {w:J7} {A:I9} {E:Value->A7->Prop} {s:A7}
theorem Je{Q:Value->A7->Prop}(hL:Hl s.heap l items b)
    (h:∀h',IsEnum h' (s.heap.objs.size+1) s.heap.objs.size 0 .none->Hk h' s.heap.objs.size l 0 b->h'.objs.size=s.heap.objs.size+2 ->
      (∀b o,s.heap.get? b=some o->h'.get? b=some o)->Q (.ref (s.heap.objs.size+1)) { s with heap:=h' }) :
    B6 (D4 prog w) A (call (.type "enumerate") [.ref l]) Q E s:=by
  cases b with
  | false=>exact call_enumerate_list hL h
  | true =>
    obtain⟨⟨c,xp,dt,sl⟩,hl,hc,n,hd⟩:=hL
    replace hc:c=.type "tuple" := hc
    replace hd:dt=.seq items n:=hd;subst hc hd;refine callType_new F.called_enumerate (by decide) (F.typeCall_enumerate_1 _) (F.newCall_enumerate_1 _) (fun obj=>F.args_object_init_2 obj _) F.entry_enumerate_new
      (NQ l items n xp sl) ⟨hl,?_⟩
    have hz:(s.heap.push { cls:=.type "tuple_iterator", data:=.fields #[.ref l,.int 0 0] }).objs.size=s.heap.objs.size+1:=J0 ..
    show _/\_;rw[hz]
    have he:IsEnum ((s.heap.push { cls:=.type "tuple_iterator", data:=.fields #[.ref l,.int 0 0] }).push
        { cls:=.type "enumerate", data:=.fields #[.none,.bool false,.ref s.heap.objs.size,N5 0,.none,.none] }) (s.heap.objs.size+1) s.heap.objs.size 0 .none:=by
      have:=B2 (s.heap.push { cls:=.type "tuple_iterator", data:=.fields #[.ref l,.int 0 0] })
        (o:={ cls:=.type "enumerate", data:=.fields #[.none,.bool false,.ref s.heap.objs.size,N5 0,.none,.none] }) rfl
      rw[hz] at this;exact this
    refine⟨⟨_,he,rfl⟩,h _ he ⟨_,A2 _ (B2 _ rfl),rfl,rfl⟩ (by rw[J0,hz]) fun b o x=>A2 _ (A2 _ x)⟩
end
section
variable {X:Cx} {elts:List Expr} {x1} {xm:Pos}
abbrev gY(K:W.Frag)(ta:TA):TI:=fun σ H R=>ta σ H fun vs H1=>∃a b xs,vs=[.ref a]/\Jt K H1 a xs b/\R (bf K a b xs.length) H1
theorem Vl(K:W.Frag){a:Expr}{ta:TA}{p:Pos}(hg:Gl X "enumerate")(hm:X.mg "enumerate" = none)(ha:PA X [a] ta)(hK:X.K=K:=by rfl)(hs:D2 [a] X.env=[(false,M8 a X.env)]:=by rfl):PI X (.Tuple elts x1 xm) (.Call (.Name "enumerate" p) [a] [] pos) (gY K ta):=by
 subst hK;intro pins s σ H R I h;refine Call_ (CH I hg hm PyProof.Rows.Boot.«enumerate» (G1 (Aw (ha pos pins s σ H _ I h) fun us s1 ⟨vs,H1,I1,r1,q1⟩=>?_) hs rfl));obtain⟨l,b,xs,e,hq,q⟩:=q1;subst e;cases r1 with
 | cons r rr =>
  cases rr;cases r;obtain⟨its,rv,pl,hz⟩:=I1.sqB hq;refine Je pl fun h' hE hI hsz hk=>?_
  refine qk (s:={ s1 with heap:=h' }) hE ?_;refine⟨s1.heap.objs.size+1,[s1.heap.objs.size+1,s1.heap.objs.size],_,_,H1,rfl,I1.kept (t':=s1.toks) hk,On l _ _ b xs.length (g7 _) (D1 (O3 hz)) (D1 hz),⟨⟨_,hE⟩,hI,J8 _⟩,fun c hb=>?_,q⟩;have hb':s1.heap.objs.size<=c:=by
   rcases C8.mp hb with z | z
   ·rw[z];exact O6 _
   ·rw[D3.mp z];exact B4 _
  exact I1.wb hb' (I1.wj.fresh hb')
end
section
variable {X:Cx} {p1 p2 yJ wq:Pos} {es:List Expr} {e:Expr} {ta:TA}
abbrev Mg(ta:TA):TE:=fun σ H Q=>ta σ H fun vs H1=>∃(i j:Int),(vs=[.int j]/\i=0\/vs=[.int i,.int j])/\(-(2 ^ 62)<=i/\i < 2 ^ 62/\-(2 ^ 62)<=j/\j < 2 ^ 62)/\(j - i).toNat<=1000000/\∀l,H1 l=none->Q (.ref l) (upd H1 l (.lst ((A5 (j - i).toNat).map fun k=>.int (i+(k:Nat)))))
theorem Kh{A:I9}{E:Value->A7->Prop}{pins:List (B3×Obj)}{σ:St}{H:Hp}{s:A7}{Q:VK}{i j:Int}{t u v:Tok}{tk:Nat}(hh:A.handled=none)(I:Inv X pins σ H s)(h1:-(2 ^ 62)<=i)(h2:i < 2 ^ 62)(h3:-(2 ^ 62)<=j)(h4:j < 2 ^ 62)(hl:(j - i).toNat<=1000000)
    (q:∀l,H l=none->Q (.ref l) (upd H l (.lst ((A5 (j - i).toNat).map fun k=>.int (i+(k:Nat)))))) :
    B6 (D4 X.prog X.w) A (call (.type "list") [.ref s.heap.objs.size]) (fun v s'=>∃x H',Inv X pins σ H' s'/\RelV x v/\Q x H') E { s with heap:=s.heap.push { cls:=.type "range", data:=.fields #[.int i t,.int j u,.int 1 v] },toks:=tk }:=by
  have hr:qw i j 1=((j - i).toNat:Nat):=by rw[rangeSize_one];split<;>omega
  refine call_list_range (n:=(j - i).toNat) hh (wG ..) (small_one h1 h2 h3 h4) hr (by omega) fun h' tk' acc c' hk eh zw=>?_
  have kp:∀b o,s.heap.get? b=some o->h'.get? b=some o:=fun b o e=>hk b o (A2 _ e)
  have hsz:(s.heap.push { cls:=.type "range", data:=.fields #[.int i t,.int j u,.int 1 v] }).objs.size=s.heap.objs.size+1:=J0 ..
  have hv:AF ((A5 (j - i).toNat).map fun k=>V.int (i+(k:Nat))) acc.toList:=by
    have:∀(n m:Nat) (l:List Value),l.length=n->(∀(q:Nat) (v:Value),l[q]?=some v->∃t,v=.int (i+((m+q:Nat):Int)) t)->AF ((sI m n).map fun k=>V.int (i+(k:Nat))) l:=by
      intro n
      induction n with
      | zero=>intro m l e _;cases l with | nil=>exact .nil | cons a b=>cases e
      | succ n ih =>
        intro m l e h;cases l with
        | nil=>cases e
        | cons a b =>
          rw[uc,C5];refine .cons ?_ (ih (m+1) b (by simpa using e) fun q v hv=>?_)
          · obtain⟨t,rfl⟩:=h 0 a rfl;exact⟨t,rfl⟩
          · obtain⟨t,rfl⟩:=h (q+1) v (by simpa using hv);exact⟨t,by rw[i8,vw 1 q]⟩
    rw[List.range_eq_range'];refine this (j - i).toNat 0 acc.toList (by simp[zw.1]) fun q v hv=>?_
    obtain⟨t,e⟩:=zw.2 q v (by simpa using hv);exact⟨t,by rw[e];simp⟩
  refine⟨.ref _,_,I.laid (t':=tk') kp (by rw[hsz];exact O6 _) (show Ab X.prog X.w _ h' _ (.lst ((A5 (j - i).toNat).map fun k=>.int (i+(k:Nat)))) from⟨by rw[A8,E2];exact C4 hl (show 1000000<=sizeLine by decide),acc.toList,c',hv,by rw[eh]⟩),rfl,q _ (I.wj.fresh (by rw[hsz];exact O6 _))⟩
theorem PV(hc:X.calm=true)(hgL:Gl X "list")(hmL:X.mg "list" = none)(hgR:Gl X "range")(hmR:X.mg "range" = none)(ha:PA X (e::es) ta)
    (zh:D2 [.Call (.Name "range" p2) (e::es) [] wq] X.env=(false,M8 (.Call (.Name "range" p2) (e::es) [] wq) X.env)::D2 [] X.env:=by rfl)
    (zAp:(M6 yJ (D2 [] X.env)).any (·.1)=false:=by rfl)
    (z8:D2 (e::es) X.env=(false,M8 e X.env)::D2 es X.env:=by rfl) (zAo:(M6 wq (D2 es X.env)).any (·.1)=false:=by rfl) :
    PE X (.Call (.Name "list" p1) [.Call (.Name "range" p2) (e::es) [] wq] [] yJ) (Mg ta):=by
  intro pins s σ H Q I h;refine K3 (CH I hgL hmL PyProof.Rows.Boot.«list» ?_ (by decide) (by decide));refine G1 ?_ zh zAp;rw[zh]
  show B6 _ _ (sU ((false,M8 (.Call (.Name "range" p2) (e::es) [] wq) X.env)::M6 yJ (D2 [] X.env))) _ _ s
  refine V2 ?_;refine K3 (CH I hgR hmR vM ?_ (by decide) (by decide));refine G1 (Aw (ha wq pins s σ H _ I h) fun us s1 ⟨vs,H1,I1,r1,q1⟩=>?_) z8 zAo;obtain⟨i,j,ev,⟨b1,b2,b3,b4⟩,hl,q⟩:=q1;rcases ev with⟨ev,rfl⟩ | ev
  · subst ev;cases r1 with
    | cons r rr =>
      cases rr;obtain⟨t,rfl⟩:=r;refine call_range_1 (S9 ?_);exact Kh (I1.ok.hd hc) I1 b1 b2 b3 b4 hl q
  · subst ev;cases r1 with
    | cons r rr =>
      cases rr with
      | cons r' rr =>
        cases rr;obtain⟨t,rfl⟩:=r;obtain⟨t',rfl⟩:=r';refine call_range_2 (S9 ?_);exact Kh (I1.ok.hd hc) I1 b1 b2 b3 b4 hl q
end
end L2
namespace R
open PySem L2
noncomputable def items:Dv->Option (List Dv)
 | .tup ds=>some ds
 | .lst ds=>some ds
 | .xV ns=>some (ns.map .int)
 | _=>none
def Rf(f:Ev Dv):Ev (List Dv):=fun R m k=>f R m fun d m'=>(items d).bind fun ds=>k ds m'
section
variable {K:W.Frag} {g:G} {H:Hp}
theorem AG{o:Nat}{i:Int}{v:V}{P:Fp}(h:Rep K g H o (.int i) v P):v=.int i:=by unfold Rep at h;exact h.1
theorem Bg{o:Nat}{i:Int}:Rep K g H o (.int i) (.int i) wX:=by unfold Rep;exact⟨rfl,fun _ z=>z⟩
theorem Yd{a:B3}{ds:List Dv}(h:Rep K g H 0 (.lst ds) (.ref a) wX):Yl K (mx K a) ds g H:=by
 intro g2 H2 st;have h2:=st.rep h;unfold Rep at h2;obtain⟨b,vs,P',e,h1,h2,_⟩:=h2;cases e;have sq:Cy K H2 a vs:=.inl (.inl h1.1);refine⟨fun i d e=>?_,fun i hi=>⟨vs,sq,by rw[<- h2.len];exact hi⟩⟩;obtain⟨v,P,ev,rv,_⟩:=h2.get e;refine⟨⟨vs,v,sq,ev⟩,fun x H3 y=>?_⟩;obtain⟨rfl,y⟩:=y;have:=y vs sq;rw[ev] at this;cases this;exact Ae.old rv.z
theorem dX{a:B3}{ds:List Dv}(h:Rep K g H 0 (.tup ds) (.ref a) wX):Yl K (nS K a) ds g H:=by
 intro g2 H2 st;have h2:=st.rep h;unfold Rep at h2;obtain⟨b,vs,e,h1,h2⟩:=h2;cases e;have sq:De K H2 a vs:=.inl (.inl h1);refine⟨fun i d e=>?_,fun i hi=>⟨vs,sq,by rw[<- h2.len];exact hi⟩⟩;obtain⟨v,P,ev,rv,_⟩:=h2.get e;refine⟨⟨vs,v,sq,ev⟩,fun x H3 y=>?_⟩;obtain⟨rfl,y⟩:=y;have:=y vs sq;rw[ev] at this;cases this;exact Ae.old rv.z
theorem dY{a:B3}{ns:List Int}(h:Rep K g H 0 (.xV ns) (.ref a) wX):Yl K (mx K a) (ns.map .int) g H:=by
 intro g2 H2 st;have h2:=st.rep h;unfold Rep at h2;obtain⟨⟨b,e,h1⟩,_⟩:=h2;cases e;have sq:=h1.sq;refine⟨fun i d e=>?_,fun i hi=>⟨_,sq,by rw[A8] at hi ⊢;exact hi⟩⟩;rw[C6] at e;cases q:ns[i]? with
 | none=>rw[q] at e;cases e
 | some k =>
  rw[q] at e;cases e;refine⟨⟨_,.int k,sq,by rw[C6,q];rfl⟩,fun x H3 y=>?_⟩;obtain⟨rfl,y⟩:=y;have:=y _ sq;rw[C6,q] at this;cases this;exact Ae.old Bg
theorem MZ{lo:Int}{n:Nat}:Yl K (jF lo n) ((A5 n).map fun k=>.int (lo+(k:Nat))) g H:=by
 intro g2 H2 st;refine⟨fun i d e=>?_,fun i hi=>by rw[A8,E2] at hi;exact hi⟩;obtain⟨hi,rfl⟩:=Eo e;refine⟨hi,fun x H3 y=>?_⟩;obtain⟨rfl,rfl⟩:=y;exact Ae.old Bg
end
section
variable {X:Cx} {tg e a b:Expr} {es:List Expr} {f:Ev Dv} {p pos:Pos} {Γ Γ':Gm} {js:List Nat} {as:List Ar}
theorem lS(h:PE X e (tE X.K Γ 0 Γ' js f)):PI X tg e (tI X.K Γ Γ' js (Rf f)):=PI.imp (fN h) fun σ H Q q=>by
 obtain⟨g,m,P,r,R,k,res,e,q⟩:=q;refine⟨g,m,P,r,R,_,res,e,fun d m' g' P' Pv v H' hk ag s rv r1 n=>?_⟩;obtain⟨ds,e1,e2⟩:=wW hk;have s':Step g P H g' P' H':=s.less fun _ z=>.inl z
 have rz:=rv.z;cases d with
 | tup es =>
  cases e1;have h0:=rz;unfold Rep at h0;obtain⟨a,vs,rfl,h1,h2⟩:=h0;exact⟨a,vs,rfl,.inr ⟨.inl (.inl h1),q _ m' g' P' H' _ e2 ag s' r1 (dX rz)⟩⟩
 | lst es =>
  cases e1;have h0:=rz;unfold Rep at h0;obtain⟨a,vs,P1,rfl,h1,h2,_⟩:=h0;exact⟨a,vs,rfl,.inl ⟨.inl (.inl h1.1),q _ m' g' P' H' _ e2 ag s' r1 (Yd rz)⟩⟩
 | xV ns =>
  cases e1;have h0:=rz;unfold Rep at h0;obtain⟨⟨a,rfl,h1⟩,_⟩:=h0;exact⟨a,_,rfl,.inl ⟨h1.sq,q _ m' g' P' H' _ e2 ag s' r1 (dY rz)⟩⟩
 | _=>cases e1
def UR(K:W.Frag)(p:List Dv->Option (List Dv))(r:List V->Hp->(It->Hp->Prop)->Prop):Prop:=∀g H ds vs its Q,Zd g H->AA K g H 0 ds vs wX->p ds=some its->(∀J H',MV H H'->Yl K J its g H'->Q J H')->r vs H Q
def cu(p:List Dv->Option (List Dv))(fa:Ev (List Dv)):Ev (List Dv):=fun R m k=>fa R m fun ds m'=>(p ds).bind fun its=>k its m'
abbrev cj(r:List V->Hp->(It->Hp->Prop)->Prop)(ta:TA):TI:=fun σ H Q=>ta σ H fun vs H1=>r vs H1 Q
theorem Yw{K:W.Frag}{pr:List Dv->Option (List Dv)}{r:List V->Hp->(It->Hp->Prop)->Prop}(hp:UR K pr r)(c:AD Γ as Γ' js)(he:Rb as=true){σ:St}{H:Hp}{Q:It->Hp->Prop}(h:tI K Γ Γ' js (cu pr (AV as)) σ H Q):cj r (Bl K as) σ H Q:=by
 obtain⟨g,m,P,rl,R',k,res,e,q⟩:=h;refine AN as rl c e fun ds m' g' P' vs H1 hk ag s ar r1=>?_
 obtain⟨its,e1,e2⟩:=wW hk;exact hp g' H1 ds vs its Q r1.zd (ar.zAD he) e1 fun J H2 sm yl=>q its m' g' P' H2 J e2 ag ((s.trans (Step.same sm)).less fun _ z=>z) (r1.same sm) yl
noncomputable def small(i:Int):Bool:=-1000000000<=i && i<=1000000000
theorem DQ{i:Int}(h:small i=true):-1000000000<=i/\i<=1000000000:=by
 unfold small at h;rw[A3,decide_eq_true_eq,decide_eq_true_eq] at h;exact h
def BN(ds:List Dv):Option (List Dv):=match ds with
 | [.int n]=>bif small n then some ((A5 n.toNat).map fun k=>.int (0+(k:Nat))) else none
 | _=>none
def SX(ds:List Dv):Option (List Dv):=match ds with
 | [.int i,.int n]=>bif small i && small n then some ((A5 (n - i).toNat).map fun k=>.int (i+(k:Nat))) else none
 | _=>none
def kQ:List V->Hp->(It->Hp->Prop)->Prop:=fun vs H1 R=>∃j:Int,vs=[.int j]/\-(2 ^ 62)<=j/\j < 2 ^ 62/\R (jF 0 j.toNat) H1
def kP:List V->Hp->(It->Hp->Prop)->Prop:=fun vs H1 R=>∃i j:Int,vs=[.int i,.int j]/\(-(2 ^ 62)<=i/\i < 2 ^ 62/\-(2 ^ 62)<=j/\j < 2 ^ 62)/\R (jF i (j - i).toNat) H1
theorem VD{K:W.Frag}:UR K BN kQ:=fun g H ds vs its Q zd ra e q=>by
 unfold BN at e;split at e
 ·rename_i n;cases c:small n with
  | false=>rw[c] at e;cases e
  | true =>
   rw[c] at e;cases e;have hn:=DQ c;unfold AA at ra;obtain⟨v,vr,_,_,rfl,h1,h2,_⟩:=ra;unfold AA at h2;obtain⟨rfl,_⟩:=h2;rw[AG h1];exact⟨n,rfl,by omega,by omega,q _ H (fun _ _ z=>z) MZ⟩
 ·cases e
theorem VC{K:W.Frag}:UR K SX kP:=fun g H ds vs its Q zd ra e q=>by
 unfold SX at e;split at e
 ·rename_i i n;cases c:small i && small n with
  | false=>rw[c] at e;cases e
  | true =>
   rw[c] at e;cases e;rw[A3] at c;have hi:=DQ c.1;have hn:=DQ c.2;unfold AA at ra;obtain⟨v,vr,_,_,rfl,h1,h2,_⟩:=ra;unfold AA at h2;obtain⟨v2,vr2,_,_,rfl,h3,h4,_⟩:=h2;unfold AA at h4;obtain⟨rfl,_⟩:=h4;rw[AG h1,AG h3];exact⟨i,n,rfl,by omega,q _ H (fun _ _ z=>z) MZ⟩
 ·cases e
end
structure wz:Type 1 where
 ps:List Str
 io:List Nat
 ro:Nat
 nb:Bool
 fn:List Dv->Option (Dv×List Dv)
 cps:(R:Type)->List Dv->(Dv->List Dv->Option R)->Option R
 eq:∀R ds k,cps R ds k=(fn ds).bind fun p=>k p.1 p.2
 cl:Option Str:=none
def Oe(n:Nat)(io:List Nat):Gm:=(A5 n).map fun i=>some (if io.contains i then 1 else 0)
def Bk(K:W.Frag)(g:G)(H:Hp)(io:List Nat)(bs:List Dv)(vs:List V)(P:Fp):Prop:=Rel K g H (io.map fun _=>some 1) bs (io.map fun i=>(vs[i]?).map id) P
def MX(K:W.Frag)(s:wz):Sp:=fun vs H Q _=>∃g ds P,Rel K g H (Oe s.ps.length s.io) ds (vs.map some) P/\∃d bs,s.fn ds=some (d,bs) /\
 ∀g' H' v Pv Pb,Step g P H g' (fun a=>Pv a\/Pb a) H'->Rep K g' H' s.ro d v Pv->Bk K g' H' s.io bs vs Pb->Bt Pv Pb->Q v H'
def PK(n:Nat)(io:List Nat):Gm:=(A5 n).map fun i=>if io.contains i then some 1 else none
def aa(n p:Nat)(io:List Nat):Gm:=Oe p io++D8 (n - p) none
section
variable {K:W.Frag} {g:G} {H:Hp}
theorem Rel.pad{Γ:Gm}{m:M}{vs:List V}{P:Fp}(h:Rel K g H Γ m (vs.map some) P)(n:Nat):Rel K g H (Γ++D8 n none) (m++D8 n .we) (vs.map some++D8 n none) P:=by
 obtain⟨zd,F,h1,h4⟩:=h;have old:∀{i o:Nat},(Γ++D8 n none)[i]?=some (some o)->i < Γ.length/\Γ[i]?=some (some o):=fun{i o} e=>by
  by_cases z:i < Γ.length
  ·rw[K5 z] at e;exact⟨z,e⟩
  ·rw[W5 (by omega),qz] at e;split at e<;>cases e
 refine⟨zd,F,⟨by simp[h1.l1],by have:=h1.l2;simp at this ⊢;omega,fun i o e=>?_,fun i e=>?_,h1.dj⟩,h4⟩
 ·obtain⟨hi,e⟩:=old e;obtain⟨d,v,e1,e2,r⟩:=h1.rep i o e;exact⟨d,v,by rw[K5 (by rw[h1.l1];exact hi)];exact e1,by rw[K5 (by rw[h1.l2];exact hi)];exact e2,r⟩
 ·refine h1.out i fun o z=>e o ?_
  rw[K5 (B5.mp z).1];exact z
theorem Rel.pick{Γ:Gm}{m:M}{σ:St}{P:Fp}{io:List Nat}(h:Rel K g H Γ m σ P)(nd:io.Nodup)(hl:∀i∈io,Γ[i]?=some (some 1)):∃P',Rel K g H (io.map fun _=>some 1) (io.map m.at) (io.map fun i=>(σ[i]?).join) P'/\∀a,P' a->P a:=by
 obtain⟨zd,F,h1,h4⟩:=h;refine⟨fun a=>∃j i,io[j]?=some i/\F i a,⟨zd,fun j a=>∃i,io[j]?=some i/\F i a,⟨by simp,by simp,fun j o e=>?_,fun j e a ⟨i,e',_⟩=>?_,fun j k n a ⟨i,e1,q1⟩ ⟨i',e2,q2⟩=>?_⟩,fun _=>m8⟩,fun a ⟨j,i,_,q⟩=>(h4 a).mpr ⟨i,q⟩⟩
 ·rw[C6] at e;cases ej:io[j]? with
  | none=>rw[ej] at e;cases e
  | some i =>
   rw[ej] at e;cases e;obtain⟨d,v,e1,e2,r⟩:=h1.rep i 1 (hl i (N8 ej));have eq:(fun a=>∃i',some i=some i'/\F i' a)=F i:=funext fun a=>propext ⟨fun⟨i',z,q⟩=>by cases z;exact q,fun q=>⟨i,rfl,q⟩⟩
   exact⟨d,v,by rw[C6,ej,K2,LL e1],by rw[C6,ej,K2,e2];rfl,by show Rep K g H 1 d v fun a=>∃i',some i=some i'/\F i' a;rw[eq];exact r⟩
 ·refine e 1 ?_;rw[C6,e'];rfl
 ·by_cases z:i=i'
  ·subst z;refine n ?_;have hj:=(B5.mp e1);have hk:=(B5.mp e2);exact(qv (h₀:=hj.1) (h₁:=hk.1) nd).mp (hj.2.trans hk.2.symm)
  ·exact h1.dj i i' z a q1 q2
end
theorem lg{P:F0}{w:J7}{K:W.Frag}{mg:Str->Option Value}{base:H9}{x qual:Str}{st:N2}{f:B3}{fd:R8}{N:List Str}{k:Nat}{s:wz}(Fn:Fun K x qual st f fd)(S:yE N s.ps (AI st))(nd:s.io.Nodup)(yF:∀i∈s.io,i < s.ps.length)(hn:s.ps.length<=N.length)
    {body:Es} {Γn:Option Gm} {js:List Nat} (hw:MY (some (PK N.length s.io)) Γn=true)
    (hb:∀(xG:Value) (A:I9) (outer:List Env) (s':A7) (H:Hp) (E:XK),wt k (A.deeper (wL qual (AI st) s'.heap.objs.size f xG))->Ee (Nw Qb P w K mg base N qual (AI st) f xG A outer s' H E).nox (Ac st) (tS K ⟨s.io,PK N.length s.io,s.ro⟩ none (aa N.length s.ps.length s.io) Γn js body))
    (hΦ:∀ds d bs,ds.length=s.ps.length->s.fn ds=some (d,bs)->∃(R:Type) (k:Kt R) (r:R),body R (ds++D8 (N.length - s.ps.length) .we) k=some r/\(∀m,k.nx m=some r->d=.we/\bs=s.io.map m.at)/\(∀d' m,k.rt d' m=some r->d=d'/\bs=s.io.map m.at)):xI P w K mg base Qb (k+1) f fd s.ps (MX K s):=by
  have ll:∀n io,(Oe n io).length=n:=fun n io=>by unfold Oe;simp
  refine Fn.ok S (fun vs H Q E h=>?_) fun xG A outer s' H vs Q E hr h=>⟨_,hb xG A outer s' H E hr,?_⟩
  · obtain⟨g,ds,Pa,r,_⟩:=h;have:=r.len.2;rw[ll] at this;simpa using this
  · obtain⟨g,ds,Pa,r,d,bs,e,q⟩:=h;have l1:=r.len.1;have l2:=r.len.2;rw[ll] at l1 l2;rw[A8] at l2;have r0:Rel K g H (aa N.length s.ps.length s.io) (ds++D8 (N.length - s.ps.length) .we) (L2.start N vs) Pa:=by
      unfold L2.start aa;rw[l2];exact r.pad _
    have hv:∀{σ':St},Io s.io (L2.start N vs) σ'->∀i∈s.io,(σ'[i]?).join=vs[i]?:=fun{σ'} hi i hm=>by
      rw[hi i hm];unfold L2.start;have hl:i < vs.length:=by rw[l2];exact yF i hm
      rw[K5 (by simpa using hl),C6];cases vs[i]?<;>rfl
    have rg:∀i∈s.io,(PK N.length s.io)[i]?=some (some 1):=fun i hi=>by
      unfold PK;rw[C6,L0 (by have:=yF i hi;omega),K2,if_pos (C3.mpr hi)]
    obtain⟨RT,kt,rt,hb0,hnx,hrt⟩:=hΦ ds d bs l1 e;have fin:∀{d':Dv} {m':M} {g':G} {P' Pv:Fp} {σ':St} {v:V} {H':Hp},d=d'/\bs=s.io.map m'.at->Step g Pa H g' (fun a=>P' a\/Pv a) H'->Io s.io (L2.start N vs) σ'->Rep K g' H' s.ro d' v Pv->Rel K g' H' (PK N.length s.io) m' σ' P'->Bt P' Pv->Q v H':=fun{d' m' g' P' Pv σ' v H'} hk st io rv r' n=>by
      obtain⟨rfl,rfl⟩:=hk;obtain⟨Pb,hbk,sb⟩:=r'.pick nd rg;refine q g' H' v Pv Pb (st.less fun a z=>z.elim .inr fun z=>.inl (sb a z)) rv ?_ fun a z w=>n a (sb a w) z
      have e:(s.io.map fun i=>(σ'[i]?).join)=s.io.map fun i=>(vs[i]?).map id:=l8 fun i hi=>by rw[hv io i hi];cases vs[i]?<;>rfl
      unfold Bk;rw[<- e];exact hbk
    refine⟨g,_,Pa,r0,RT,kt,rt,hb0,⟨fun Γ' m' g' P' σ' H' eΓ hk ag st' i' r'=>?_,fun d' m' g' P' Pv σ' v H' hk ag st' i' rv r' n=>fin (hrt d' m' hk) st' i' rv r' n,(fun _ _ _ _ _ _ z=>by cases z),fun _ _ _ _ _ _ z=>by cases z⟩⟩;subst eΓ;obtain⟨g2,P2,s2,r2⟩:=r'.weaken (by unfold MY at hw;exact hw);exact fin (Pv:=wX) (v:=.we) (hnx m' hk) ((st'.trans s2).less fun _ z=>z.elim id E7) i' (by unfold Rep;exact⟨rfl,fun _ z=>z⟩) r2 fun _ _ z=>z
noncomputable def FD(as:List Ar)(i:Nat):Option Nat:=match as[i]? with | some (.rf j)=>some j | _=>none
def slots(as:List Ar)(io:List Nat):List Nat:=io.map fun i=>(FD as i).getD 0
noncomputable def Sl:Ar->Bool
 | .fd _ _=>false
 | _=>true
def cI(as:List Ar)(io:List Nat):Bool:=as.all Sl && (A5 as.length).all fun i=>((FD as i).isSome == io.contains i) && (A5 as.length).all fun j=>i == j || (FD as i).isNone || (FD as i != FD as j)
noncomputable def Ik:List Nat->List Dv->M->M
 | s::sl,b::bs,m=>Ik sl bs (m.set s b)
 | _,_,m=>m
def MD(s:wz)(as:List Ar):Ev Dv:=fun R m k=>AV as R m fun ds m1=>s.cps R ds fun d bs=>k d (Ik (slots as s.io) bs m1)
theorem Ij:∀(sl:List Nat) (bs:List Dv) (m:M),(Ik sl bs m).length=m.length
 | [],_,_=>rfl
 | _::_,[],_=>rfl
 | s::sl,b::bs,m=>by unfold Ik;rw[Ij,E1]
theorem Fm:∀(sl:List Nat) (bs:List Dv) (m:M) (j:Nat),j∉sl->(Ik sl bs m)[j]?=m[j]?
 | [],_,_,_,_=>rfl
 | _::_,[],_,_,_=>rfl
 | s::sl,b::bs,m,j,h=>by
  unfold Ik;rw[Fm sl bs _ j fun z=>h (A9 _ z),E3 fun z=>h (by rw[z];exact B1)]
theorem Qy:∀(sl:List Nat) (bs:List Dv) (m:M) (k j:Nat) (b:Dv),sl.Nodup->sl[k]?=some j->bs[k]?=some b->j < m.length->(Ik sl bs m)[j]?=some b
 | [],_,_,k,_,_,_,h,_,_=>by simp at h
 | _::_,[],_,k,_,_,_,_,h,_=>by simp at h
 | s::sl,c::bs,m,k,j,b,nd,h1,h2,hl=>by
  unfold Ik;rw[X7] at nd;cases k with
  | zero =>
   simp at h1 h2;subst h1 h2;rw[Fm sl bs _ s nd.1,F9 hl]
  | succ k=>exact Qy sl bs _ k j b nd.2 (by simpa using h1) (by simpa using h2) (by rw[E1];exact hl)
theorem VX(sl:List Nat)(bs:List Dv)(m:M):Bw sl m (Ik sl bs m):=⟨Ij ..,fun i h=>by
 unfold M.at;rw[B7,B7,Fm sl bs m i h]⟩
section
variable {K:W.Frag} {g:G} {H:Hp} {σ:St} {Γ Γ':Gm} {js:List Nat} {m:M} {P:Fp} {as:List Ar}
theorem Aq.len:∀{as:List Ar} {ds:List Dv} {vs:List V},Aq K g H Γ m σ as ds vs->ds.length=as.length/\vs.length=as.length
 | [],ds,vs,h=>by unfold Aq at h;obtain⟨rfl,rfl⟩:=h;exact⟨rfl,rfl⟩
 | .ev _ _ _ _::as,ds,vs,h=>by
  unfold Aq at h;obtain⟨d,v,zI,yi,rfl,rfl,_,h2⟩:=h;simp[h2.len.1,h2.len.2]
 | .rf i::as,ds,vs,h=>by
  unfold Aq at h;obtain⟨v,zI,yi,rfl,rfl,_,_,h3⟩:=h;simp[h3.len.1,h3.len.2]
 | .fd i _::as,ds,vs,h=>by
  unfold Aq at h;obtain⟨d,v,zI,yi,rfl,rfl,_,_,h3⟩:=h;simp[h3.len.1,h3.len.2]
theorem Aq.get:∀{as:List Ar} {ds:List Dv} {vs:List V} {i:Nat},as.all Sl=true->Aq K g H Γ m σ as ds vs->i < as.length->∃d v,ds[i]?=some d/\vs[i]?=some v/\((∃j,FD as i=some j/\d=m.at j/\σ[j]?=some (some v))\/(FD as i=none/\Rep K g H 0 d v wX))
 | [],_,_,i,_,_,h=>by simp at h
 | .fd _ _::as,ds,vs,i,nf,h,hi=>by simp[Sl] at nf
 | .ev _ _ _ f::as,ds,vs,i,nf,h,hi=>by
  unfold Aq at h;obtain⟨d,v,zI,yi,rfl,rfl,h1,h2⟩:=h;cases i with
  | zero=>exact⟨d,v,rfl,rfl,.inr ⟨rfl,h1⟩⟩
  | succ i =>
   obtain⟨d,v,e1,e2,z⟩:=h2.get (i:=i) (by simpa[Sl] using nf) (by simpa using hi);exact⟨d,v,by simpa using e1,by simpa using e2,z⟩
 | .rf j::as,ds,vs,i,nf,h,hi=>by
  unfold Aq at h;obtain⟨v,zI,yi,rfl,rfl,h1,_,h3⟩:=h;cases i with
  | zero=>exact⟨_,v,rfl,rfl,.inl ⟨j,rfl,rfl,h1⟩⟩
  | succ i =>
   obtain⟨d,v,e1,e2,z⟩:=h3.get (i:=i) (by simpa[Sl] using nf) (by simpa using hi);exact⟨d,v,by simpa using e1,by simpa using e2,z⟩
theorem Fl{i j:Nat}(h:FD as i=some j):i < as.length:=by
 unfold FD at h;cases e:as[i]? with
 | none=>rw[e] at h;cases h
 | some a=>exact(B5.mp e).1
theorem eN{io:List Nat}(h:cI as io=true):(∀i,i < as.length->((FD as i).isSome=true↔i∈io))/\∀i i' j,FD as i=some j->FD as i'=some j->i=i':=by
 unfold cI at h;rw[A3] at h;replace h:=h.2;rw[F8] at h;refine⟨fun i hi=>?_,fun i i' j e e'=>?_⟩
 ·have:=h i (C9.mpr hi);rw[A3,beq_iff_eq] at this;rw[this.1,C3]
 ·have:=h i (C9.mpr (Fl e));rw[A3,F8] at this;have:=this.2 i' (C9.mpr (Fl e'));rw[e,e'] at this;simp at this;exact this
theorem UD{s:wz}{g1:G}{H1:Hp}{m1:M}{P1:Fp}{ds:List Dv}{vs:List V}{d:Dv}{bs:List Dv}(hs:cI as s.io=true)(hn:as.length=s.ps.length)(nd:s.io.Nodup)(yF:∀i∈s.io,i < s.ps.length)(hl:∀i∈slots as s.io,Γ'[i]?=some (some 1)){Q:VK}
    (r1:Rel K g1 H1 Γ' m1 σ P1) (ar:Aq K g1 H1 Γ' m1 σ as ds vs) (e1:s.fn ds=some (d,bs))
    (q:∀g2 P2 Pv v H2,Step g1 P1 H1 g2 (fun a=>P2 a\/Pv a) H2->Rep K g2 H2 s.ro d v Pv->Rel K g2 H2 Γ' (Ik (slots as s.io) bs m1) σ P2->Bt P2 Pv->Q v H2):MX K s vs H1 Q E0:=by
  obtain⟨zh,z8⟩:=eN hs;have nf:as.all Sl=true:=by unfold cI at hs;rw[A3] at hs;exact hs.1
  have r1':=r1;obtain⟨zd,F,h1,h4⟩:=r1'
  -- the slots,one by one
  have sl:∀{i j:Nat},FD as i=some j->i∈s.io/\j∈slots as s.io:=fun{i j} e=>by
    have hi:=(zh i (Fl e)).mp (by rw[e];rfl);exact⟨hi,H8.mpr ⟨i,hi,by rw[e];rfl⟩⟩
  have sl2:∀{i:Nat},i∈s.io->∃j,FD as i=some j:=fun{i} hi=>Q3.mp ((zh i (by rw[hn];exact yF i hi)).mpr hi)
  have ndS:(slots as s.io).Nodup:=by
    unfold slots;rw[qU,uJ];refine(qU.mp nd).imp_of_mem fun{a b} ha hb n z=>?_
    obtain⟨ja,ea⟩:=sl2 ha;obtain⟨jb,eb⟩:=sl2 hb;rw[ea,eb] at z;simp only[ub] at z;subst z;exact n (z8 a b ja ea eb)
  let Fa:Nat->Fp:=fun i a=>∃j,FD as i=some j/\F j a
  have al:=ar.len;have rA:Rel K g1 H1 (Oe s.ps.length s.io) ds (vs.map some) fun a=>∃i,Fa i a:=by
    refine⟨zd,Fa,⟨by unfold Oe;simp;rw[al.1,hn],by unfold Oe;simp;rw[al.2,hn],fun i o ei=>?_,fun i ei a ⟨j,ej,_⟩=>?_,fun i i' n a ⟨j,ej,z⟩ ⟨j',ej',z'⟩=>?_⟩,fun _=>m8⟩
    · obtain⟨hi,eo⟩:=Eo ei;obtain⟨d',v,d1,d2,z⟩:=ar.get (i:=i) nf (by rw[hn];exact hi);refine⟨d',v,d1,by rw[C6,d2];rfl,?_⟩;rcases z with⟨j,ej,rfl,hv⟩ | ⟨ej,z⟩
      · have:o=1:=by
          have:=D5 eo;rw[if_pos (C3.mpr (sl ej).1)] at this;exact this
        subst this;obtain⟨d3,v3,e3,e4,r3⟩:=h1.rep j 1 (hl j (sl ej).2);rw[hv] at e4;cases e4;have eq:Fa i=F j:=funext fun a=>propext ⟨fun⟨j',z,q⟩=>by rw[ej] at z;cases z;exact q,fun q=>⟨j,ej,q⟩⟩
        rw[LL e3,eq];exact r3
      · have:o=0:=by
          have:=D5 eo;rw[if_neg fun w=>?_] at this
          · exact this
          · obtain⟨j,w⟩:=sl2 (C3.mp w);rw[ej] at w;cases w
        subst this;have eq:Fa i=wX:=Eu fun a ⟨j,w,_⟩=>by rw[ej] at w;cases w
        rw[eq];exact z
    · refine ei (if s.io.contains i then 1 else 0) ?_;unfold Oe;rw[C6,L0 (by rw[<- hn];exact Fl ej)];rfl
    · by_cases w:j=j'
      · subst w;exact n (z8 i i' j ej ej')
      · exact h1.dj j j' w a z z'
  let Fr:Nat->Fp:=fun j a=>j∉slots as s.io/\F j a
  have rr:Rel K g1 H1 (Of (slots as s.io) Γ') m1 σ fun a=>∃j,Fr j a:=by
    refine⟨zd,Fr,⟨by unfold Of;simp;exact h1.l1,by unfold Of;simp;exact h1.l2,fun j o ej=>?_,fun j ej a ⟨n,z⟩=>?_,fun i j n a q z=>h1.dj i j n a q.2 z.2⟩,fun _=>m8⟩
    · obtain⟨nj,ej⟩:=Dw ej;obtain⟨d',v,d1,d2,z⟩:=h1.rep j o ej;have eq:Fr j=F j:=funext fun a=>propext ⟨fun w=>w.2,fun w=>⟨nj,w⟩⟩
      exact⟨d',v,d1,d2,by rw[eq];exact z⟩
    · refine h1.out j (fun o w=>ej o ?_) a z;unfold Of;have hj:=(B5.mp w).1;rw[C6,L0 hj,K2,if_neg (fun q=>n (C3.mp q)),B7,w];rfl
  have dA:Bt (fun a=>∃j,Fr j a) fun a=>∃i,Fa i a:=fun a ⟨j,nj,z⟩ ⟨i,j',ej,z'⟩=>by
    by_cases w:j=j'
    · subst w;exact nj (sl ej).2
    · exact h1.dj j j' w a z z'
  have okA:wc g1 H1 fun a=>∃i,Fa i a:=rA.wb
  refine⟨g1,ds,_,rA,d,bs,e1,fun g2 H2 v Pv Pb s2 rv hb n=>?_⟩;have rr2:=rr.held s2 okA dA;have dB:Bt (fun a=>∃j,Fr j a) fun a=>Pv a\/Pb a:=s2.out rr.wb dA
  obtain⟨zd2,Fq,q1,q4⟩:=rr2;obtain⟨zb,Fb,b1,b4⟩:=hb;have lb:bs.length=s.io.length:=by have:=b1.l1;simpa using this
  have fq:∀{a:B3},(∃j,Fr j a)↔∃j,Fq j a:=fun{a}=>q4 a
  let Fz:Nat->Fp:=fun j a=>(∃k,(slots as s.io)[k]?=some j/\Fb k a)\/Fq j a
  have nq:∀j∈slots as s.io,∀a,¬Fq j a:=fun j hj=>q1.out j fun o w=>(Dw w).1 hj
  have rz:Rel K g2 H2 Γ' (Ik (slots as s.io) bs m1) σ fun a=>∃j,Fz j a:=by
    refine⟨zd2,Fz,⟨by rw[Ij];exact h1.l1,h1.l2,fun j o ej=>?_,fun j ej a z=>?_,fun i j n' a z w=>?_⟩,fun _=>m8⟩
    · have hjl:j < m1.length:=by rw[h1.l1];exact(B5.mp ej).1
      by_cases hj:j∈slots as s.io
      · obtain⟨kk,hk1⟩:=j7 hj;have hkk:kk < s.io.length:=by have:=(B5.mp hk1).1;unfold slots at this;simpa using this
        rw[hl j hj] at ej;cases ej;obtain⟨b,u,c1,c2,c3⟩:=b1.rep kk 1 (by rw[C6,A4 hkk];rfl);have ei:(slots as s.io)[kk]?=some ((FD as s.io[kk]).getD 0):=by unfold slots;rw[C6,A4 hkk];rfl
        obtain⟨jj,ejj⟩:=sl2 (R6 hkk);rw[hk1,ejj] at ei;have zDt:j=jj:=D5 ei;subst zDt;obtain⟨d3,v3,d1,d2,z3⟩:=ar.get (i:=s.io[kk]) nf (Fl ejj);rw[C6,A4 hkk,K2,d2] at c2;have eu:u=v3:=by simpa using c2.symm
        subst eu;have hv:σ[j]?=some (some u):=by
          rcases z3 with⟨j2,e2',_,z3⟩ | ⟨e2',_⟩
          · rw[ejj] at e2';cases e2';exact z3
          · rw[ejj] at e2';cases e2'
        have eq:Fz j=Fb kk:=funext fun a=>propext ⟨fun w=>w.elim (fun⟨k',h',w⟩=>by
            have zy:=B5.mp hk1;have h2':=B5.mp h';have:k'=kk:=(qv (h₀:=h2'.1) (h₁:=zy.1) ndS).mp (h2'.2.trans zy.2.symm);exact this▸w) fun w=>(nq j hj a w).elim,fun w=>.inl ⟨kk,hk1,w⟩⟩
        exact⟨b,u,Qy _ bs m1 kk j b ndS hk1 c1 hjl,hv,by rw[eq];exact c3⟩
      · have ej':(Of (slots as s.io) Γ')[j]?=some (some o):=by
          unfold Of;rw[C6,L0 (B5.mp ej).1,K2,if_neg (fun w=>hj (C3.mp w)),B7,ej];rfl
        obtain⟨d3,v3,d1,d2,r3⟩:=q1.rep j o ej';have eq:Fz j=Fq j:=funext fun a=>propext ⟨fun w=>w.elim (fun⟨k',h',_⟩=>(hj (N8 h')).elim) id,.inr⟩
        exact⟨d3,v3,by rw[Fm _ _ _ _ hj];exact d1,d2,by rw[eq];exact r3⟩
    · rcases z with⟨k',h',z⟩ | z
      · exact ej 1 (hl j (N8 h'))
      · refine q1.out j (fun o w=>ej o (Dw w).2) a z
    · rcases z with⟨k1,zy,z⟩ | z
      · rcases w with⟨k2,h2',w⟩ | w
        · by_cases kk:k1=k2
          · subst kk;rw[zy] at h2';exact n' (D5 h2')
          · exact b1.dj k1 k2 kk a z w
        · exact dB a (fq.mpr ⟨j,w⟩) (.inr ((b4 a).mpr ⟨k1,z⟩))
      · rcases w with⟨k2,h2',w⟩ | w
        · exact dB a (fq.mpr ⟨i,z⟩) (.inr ((b4 a).mpr ⟨k2,w⟩))
        · exact q1.dj i j n' a z w
  refine q g2 _ Pv v H2 ((s2.frame (R:=fun a=>∃j,Fr j a)).sub (fun a z=>?_) fun a z=>?_) rv rz fun a z w=>?_
  · rcases z with⟨i,j,_,z⟩ | ⟨j,_,z⟩
    · exact(h4 a).mpr ⟨j,z⟩
    · exact(h4 a).mpr ⟨j,z⟩
  · rcases z with⟨j,z⟩ | z
    · rcases z with⟨k',_,z⟩ | z
      · exact .inl (.inr ((b4 a).mpr ⟨k',z⟩))
      · exact .inr (fq.mpr ⟨j,z⟩)
    · exact .inl (.inl z)
  · obtain⟨j,z⟩:=z;rcases z with⟨k',_,z⟩ | z
    · exact n a w ((b4 a).mpr ⟨k',z⟩)
    · exact dB a (fq.mpr ⟨j,z⟩) (.inl w)
theorem OH{s:wz}(c:AD Γ as Γ' js)(hs:cI as s.io=true)(hn:as.length=s.ps.length)(nd:s.io.Nodup)(yF:∀i∈s.io,i < s.ps.length)(hl:∀i∈slots as s.io,Γ'[i]?=some (some 1)){Q:VK}
    (h:tE K Γ s.ro Γ' (js++slots as s.io) (MD s as) σ H Q):Bl K as σ H fun vs H1=>MX K s vs H1 Q E0:=by
  obtain⟨g,m,P,r,R,k,res,e,q⟩:=h;refine AN as r c e fun ds m1 g1 P1 vs H1 hk ag st ar r1=>?_
  rw[s.eq] at hk;obtain⟨⟨d,bs⟩,e1,e2⟩:=wW hk;exact UD hs hn nd yF hl r1 ar e1 fun g2 P2 Pv v H2 st2 rv rz n=>q d _ g2 P2 Pv v H2 e2 (ag.trans (VX _ bs m1)) (st.trans st2) rv rz n
mutual
noncomputable def Od:Dv->Bool
 | .we | .bl _ | .int _ | .str _=>true
 | .tup ds=>Zy ds
 | _=>false
noncomputable def Zy:List Dv->Bool
 | []=>true
 | d::ds=>Od d && Zy ds
end
mutual
theorem Hu{g':G}:∀{o o':Nat} {d:Dv} {v:V} {Pv:Fp},Rep K g' H o d v Pv->Od d=true->Rep K g H o' d v wX
 | _,_,.we,_,_,h,_ | _,_,.bl _,_,_,h,_ | _,_,.int _,_,_,h,_ | _,_,.str _,_,_,h,_=>by unfold Rep at h ⊢;exact⟨h.1,fun _ z=>z⟩
 | _,_,.tup ds,v,_,h,e=>by
  unfold Rep at h ⊢;obtain⟨a,vs,e1,h1,h2⟩:=h;unfold Od at e;exact⟨a,vs,e1,h1,NL h2 e⟩
 | _,_,.lst _,_,_,_,e | _,_,.xp _ _,_,_,_,e | _,_,.ref _,_,_,_,e | _,_,.xV _,_,_,_,e | _,_,.ty _,_,_,_,e | _,_,.mtp _,_,_,_,e | _,_,.dtt _ _,_,_,_,e | _,_,.dnt _ _,_,_,_,e | _,_,.obj _ _ _ _,_,_,_,e=>by unfold Od at e;cases e
theorem NL{g':G}:∀{o o':Nat} {ds:List Dv} {vs:List V} {Pv:Fp},AA K g' H o ds vs Pv->Zy ds=true->AA K g H o' ds vs wX
 | _,_,[],_,_,h,_=>by unfold AA at h ⊢;exact⟨h.1,fun _ z=>z⟩
 | _,_,d::ds,_,_,h,e=>by
  unfold AA at h ⊢;obtain⟨v,r,P1,P2,e1,h1,h2,_,_⟩:=h;unfold Zy at e;rw[A3] at e;exact⟨v,r,wX,wX,e1,Hu h1 e.1,NL h2 e.2,fun _ z=>z.elim,fun a=>⟨fun z=>z.elim,fun z=>z.elim id id⟩⟩
end
theorem Aq.fz(r:Rel K g H Γ m σ P):∀{as:List Ar} {ds:List Dv} {vs:List V},Aq K g H Γ m σ as ds vs->AA K (g.add P) H 0 ds vs wX
 | [],ds,vs,h=>by unfold Aq at h;obtain⟨rfl,rfl⟩:=h;exact AA.nil
 | .ev _ _ _ f::as,ds,vs,h=>by
  unfold Aq at h;obtain⟨d,v,zI,yi,rfl,rfl,h1,h2⟩:=h;exact(AA.cons (h1.freeze (P:=P) fun _ z=>z.elim) (Aq.fz r h2) fun _ z=>z.elim).iff fun a=>⟨fun z=>z.elim,fun z=>z.elim id id⟩
 | .rf i::as,ds,vs,h=>by
  unfold Aq at h;obtain⟨v,zI,yi,rfl,rfl,h1,⟨o,_,ho⟩,h3⟩:=h;obtain⟨v',P1,e,k,sb⟩:=r.zP ho;rw[h1] at e;cases e;exact(AA.cons (k.freeze (P:=P) sb) (Aq.fz r h3) fun _ z=>z.elim).iff fun a=>⟨fun z=>z.elim,fun z=>z.elim id id⟩
 | .fd i f::as,ds,vs,h=>by
  unfold Aq at h;obtain⟨d,v,zI,yi,rfl,rfl,⟨h1,a,C,dx,fs,hv,ha,hlk⟩,⟨o,hl,ho⟩,h3⟩:=h;obtain⟨v',P1,e,k,sb⟩:=r.zP ho;rw[hv] at e;cases e;obtain⟨a',C',dx',fs',w,Q1,Q2,ea,zy,_,_,xr,yn,_,hP,_⟩:=Ft k h1;cases ea;rw[ha] at zy;cases zy;rw[hlk] at xr;cases xr;exact(AA.cons (yn.freeze (P:=P) fun b z=>sb b ((hP b).mpr (.inl z))) (Aq.fz r h3) fun _ z=>z.elim).iff fun a=>⟨fun z=>z.elim,fun z=>z.elim id id⟩
theorem aI{n:Nat}{ds:List Dv}{vs:List V}(zd:Zd g H)(h:AA K g H 0 ds vs wX)(hn:ds.length=n):Rel K g H (Oe n []) ds (vs.map some) wX:=by
 refine⟨zd,fun _=>wX,⟨by unfold Oe;simp[hn],by unfold Oe;simp[<- hn,h.len],fun i o e=>?_,fun i e a z=>z,fun i j n a z=>z.elim⟩,fun a=>⟨fun z=>z.elim,fun⟨i,z⟩=>z⟩⟩;obtain⟨hi,e⟩:=Eo e;have eo:o=0:=(D5 e);subst eo;obtain⟨v,_,ev,rv,_⟩:=h.get (A4 (by omega:i < ds.length));exact⟨_,v,A4 (by omega),by rw[C6,ev];rfl,rv.z⟩
def MC(s:wz)(as:List Ar):Ev Dv:=fun R m k=>AV as R m fun ds m1=>s.cps R ds fun d _=>bif Od d then k d m1 else none
theorem Tt{s:wz}(c:AD Γ as Γ' js)(hs:s.io=[])(hn:as.length=s.ps.length){Q:VK}(h:tE K Γ 1 Γ' js (MC s as) σ H Q):Bl K as σ H fun vs H1=>MX K s vs H1 Q E0:=by
 obtain⟨g,m,P,r,R,k,res,e,q⟩:=h;refine AN as r c e fun ds m1 g1 P1 vs H1 hk ag st ar r1=>?_
 rw[s.eq] at hk;obtain⟨⟨d,bs⟩,e1,e2⟩:=wW hk;cases c:Od d with
 | false=>simp only[c,cond_false] at e2;cases e2
 | true =>
  simp only[c,cond_true] at e2;have fs:Step g1 P1 H1 (g1.add P1) wX H1:=Step.freeze r1.wb;refine⟨g1.add P1,ds,wX,by rw[hs];exact aI (fs.zd r1.zd) (ar.fz r1) (ar.len.1.trans hn),d,bs,e1,fun g' H' v Pv Pb s2 rv _ _=>?_⟩;have sm:MV H1 H':=fun b o hb=>s2.keep b o hb fun z=>z
  exact q d m1 g1 P1 wX v H' e2 ag ((st.trans (Step.same sm)).less fun _ z=>z.elim id E7) (Hu rv c) (r1.same sm) fun _ _ z=>z
def iB(Γ:Gm):Gm:=Γ.map fun x=>x.map fun _=>0
theorem Py:∀(Γ:Gm),CW (iB Γ) Γ=true
 | []=>rfl
 | none::Γ=>by unfold iB CW;exact Py Γ
 | some o::Γ=>by
  show CW (some 0::iB Γ) (some o::Γ)=true;unfold CW;rw[Py Γ];rfl
def XB(f:Ev Dv):Ev Dv:=fun R m k=>f R m fun d m1=>bif Od d then k d m1 else none
theorem WR{f:Ev Dv}{Γx:Gm}{o:Nat}(hj:∀i o,Γ[i]?=some (some o)->i∉js){Q:VK}(h:tE K Γ 1 Γ js (XB f) σ H Q):tE K (iB Γ) o Γx js f σ H Q:=by
  obtain⟨g,m,P,r,R,k,res,e,q⟩:=h;obtain⟨g2,P2,s2,r2⟩:=r.weaken (Py Γ);have np:∀a,¬P2 a:=fun a z=>by
    obtain⟨_,F,h1,h4⟩:=r2;obtain⟨i,z⟩:=(h4 a).mp z
    by_cases c:∃o,(iB Γ)[i]?=some (some o)
    · obtain⟨o',c⟩:=c;have:o'=0:=by
        unfold iB at c;rw[C6] at c;obtain⟨x,_,c⟩:=E5.mp c;obtain⟨_,_,c⟩:=E5.mp c;exact c.symm
      subst this;obtain⟨_,_,_,_,rr⟩:=h1.rep i 0 c;exact rr.xE a z
    · exact h1.out i (fun o' z=>c ⟨o',z⟩) a z
  refine⟨g2,m,P2,r2,R,_,res,e,fun d m' g' P' Pv v H' hk ag s rv _ _=>?_⟩;cases c:Od d with
  | false=>simp only[c,cond_false] at hk;cases hk
  | true =>
    simp only[c,cond_true] at hk;have sm:MV H H':=fun b o hb=>s.keep b o hb (np b)
    have rm:Rel K g H Γ m' σ P:=r.agree (by rw[ag.1]) fun i o hi=>ag.2 i (hj i o hi)
    exact q d m' g P wX v H' hk ag ((Step.same sm).less fun _ z=>z.elim id E7) (Hu rv c) (rm.same sm) fun _ _ z=>z
end
end R
namespace L2
open PySem PySem.Spec PyProof.Rows
def pk(H:Hp)(a:B3)(y:V)(r:Option V):Prop:=MW H a y r\/(r=none/\H a=some (.dK [])/\∃(k:List BF) (b:B3),y=.ref b/\H b=some (.tup (k.map kV)))
def ph(H:Hp)(a:B3)(y v:V)(H':Hp):Prop:=Ob H a y v H'\/(H a=some (.dK [])/\∃(k:List BF) (b:B3),y=.ref b/\H b=some (.tup (k.map kV))/\H'=upd H a (.dT [(k,v)]))
section
variable {X:Cx}
def pN:R2:=fun x y H Q=>∃a v,x=.ref a/\MW H a y (some v)/\Q v H
theorem lO(hu:X.A.units+1 < S4):US X pN:=by
 intro value slice pins s σ H x y v u Q I rx ry h hs;obtain⟨a,z,rfl,g,q⟩:=h;obtain rfl:v=F7 a:=rx;have hT:=Np I g;have h2:=Td (Q:=EP X pins σ Q) (E:=X.xe) (A:=X.A) hu I g ry fun w' s3 I3 yn=>⟨z,H,I3,yn,q⟩
 unfold si;refine A1 ?_;rw[getitemInPython_of_ne hT.not_modules];refine A1 (O5 hT PySem.F.slot_dict_getitem.lookup ?_);have fin:B6 (D4 X.prog X.w) X.A (u0 slice false (.ref a) u) (fun r ym=>B6 (D4 X.prog X.w) X.A (letTemporaryGo value (.ref a) r >>= fun _=>pure r) (EP X pins σ Q) X.xe ym) X.xe s:=by
  rw[hs];exact wpAny_operating (V0 h2 (fun r ym xn=>A1 (wpAny_letTemporaryGo (A6 xn))) fun _ _ x=>x)
 first
  | exact A6 (A1 fin)
  | exact A1 (A6 (A1 fin))
  | exact A1 fin
theorem OZ.or{t t':QX}(h:OZ X t)(h':OZ X t'):OZ X (fun o i v H Q=>t o i v H Q\/t' o i v H Q):=by
 intro pins s σ H o i v ov iv u Q I ro ri rv q;rcases q with q | q
 ·exact h pins s σ H o i v ov iv u Q I ro ri rv q
 ·exact h' pins s σ H o i v ov iv u Q I ro ri rv q
def cK:List V->Hp->VK->Prop:=fun xs H Q=>∃a wY,xs=[V.ref a]/\H a=some (.dK wY)/\Q (.int wY.length) H
theorem QJ:BG X (.builtin "len") cK:=UA
end
def qP(H:Hp)(a:B3)(y:V)(r:Option V):Prop:=∃k b,y=.ref b/\jM H k b/\((∃wY,H a=some (.dN wY)/\r=FL wY k)\/H a=some (.dK [])/\r=none)
def qO(H:Hp)(a:B3)(y v:V)(H':Hp):Prop:=∃k b,y=.ref b/\jM H k b/\((∃wY,H a=some (.dN wY)/\wY.length < sizeLine/\H'=upd H a (.dN (Dn wY k v)))\/H a=some (.dK [])/\H'=upd H a (.dN [(k,v)]))
end L2
namespace R
open PySem L2
def Kr:Dv->Option BF
 | .int i=>some (.inl i)
 | .str l=>some (.inr (tx l))
 | _=>none
def WW:List Dv->Option (List BF)
 | []=>some []
 | d::ds=>(Kr d).bind fun k=>(WW ds).bind fun ks=>some (k::ks)
def lL:Dv->Option (List BF)
 | .tup ds=>WW ds
 | _=>none
section
variable {κ:Type} [DecidableEq κ]
noncomputable def Nu(k:κ):List κ->List Dv->Option Dv
 | j::ks,d::ds=>if j=k then some d else Nu k ks ds
 | _,_=>none
noncomputable def Nr(k:κ)(ks:List κ):List κ:=if ks.any (fun j=>decide (j=k))=true then ks else ks++[k]
noncomputable def Th(k:κ)(x:Dv):List κ->List Dv->List Dv
 | j::ks,d::ds=>(if j=k then x else d)::Th k x ks ds
 | _,_=>[]
def Nq(k:κ)(x:Dv)(ks:List κ)(ds:List Dv):List Dv:=if ks.any (fun j=>decide (j=k))=true then Th k x ks ds else ds++[x]
end
variable {o:Nat} {d:Dv} {v:V} {P:Fp} {ds:List Dv}
section
variable {K:W.Frag} {g:G} {H:Hp} {κ:Type} [DecidableEq κ]
theorem RK{k:BF}(h:Rep K g H o d v P)(e:Kr d=some k):v=kV k:=by
 cases d with
 | int i=>cases e;unfold Rep at h;exact h.1
 | str l=>cases e;unfold Rep at h;exact h.1
 | _=>cases e
theorem Nt{k:κ}:∀{ks:List κ} {ds:List Dv} {us:List V} {R:Fp} {d:Dv},AA K g H 0 ds us R->Nu k ks ds=some d->∃v,FL (ks.zip us) k=some v/\Rep K g H 0 d v wX
 | [],ds,us,R,d,_,e=>by cases ds<;>cases e
 | j::ks,[],us,R,d,_,e=>by cases e
 | j::ks,x::ds,us,R,d,h,e=>by
  unfold AA at h;obtain⟨v,r,P1,P2,rfl,h1,h2,_⟩:=h;unfold Nu at e;split at e
  ·rename_i c;cases e;exact⟨v,by rw[L8];exact EA c,h1.z⟩
  ·rename_i c;obtain⟨w,e1,e2⟩:=Nt h2 e;exact⟨w,by rw[L8,EB c];exact e1,e2⟩
theorem Ti{k:κ}:∀{ks:List κ} {ds:List Dv} {us:List V},ks.length=ds.length->ds.length=us.length->(FL (ks.zip us) k).isSome=(Nu k ks ds).isSome
 | [],[],_,_,_=>rfl
 | j::ks,d::ds,[],_,h=>by cases h
 | j::ks,d::ds,u::us,h1,h2=>by
  have ih:=Ti (k:=k) (ks:=ks) (ds:=ds) (us:=us) (by simpa using h1) (by simpa using h2);rw[L8];unfold Nu
  by_cases c:j=k
  ·rw[EA (p:=(j,u)) c,if_pos c];rfl
  ·rw[EB (p:=(j,u)) c,if_neg c];exact ih
theorem XU{k:κ}{x:Dv}{w:V}{ks:List κ}{us:List V}{R:Fp}(hl:ks.length=ds.length)(h:AA K g H 0 ds us R)(hx:Rep K g H 0 x w wX) :
    ∃us',Dn (ks.zip us) k w=(Nr k ks).zip us'/\AA K g H 0 (Nq k x ks ds) us' wX/\(Nr k ks).length=(Nq k x ks ds).length:=by
  have xy:ks.length=us.length:=by rw[hl,h.len]
  have any_eq:∀{ks:List κ} {us:List V},ks.length=us.length->((ks.zip us).any fun kv=>decide (kv.1=k))=ks.any fun j=>decide (j=k):=fun{ks us} h=>by
    induction ks generalizing us with
    | nil=>rfl
    | cons j ks ih =>
      cases us with
      | nil=>cases h
      | cons u us=>rw[L8,V9,V9,ih (by simpa using h)]
  unfold Dn Nr Nq;rw[any_eq xy]
  by_cases c:(ks.any fun j=>decide (j=k))=true
  · rw[if_pos c,if_pos c,if_pos c];have:∀{ks:List κ} {ds:List Dv} {us:List V} {R:Fp},ks.length=ds.length->AA K g H 0 ds us R->∃us',((ks.zip us).map fun kv=>if kv.1=k then(kv.1,w) else kv)=ks.zip us'/\AA K g H 0 (Th k x ks ds) us' wX/\ks.length=(Th k x ks ds).length:=fun{ks ds us R} hl h=>by
      induction ks generalizing ds us R with
      | nil=>exact⟨[],by simp,by cases ds<;>exact AA.nil,by cases ds<;>rfl⟩
      | cons j ks ih =>
        cases ds with
        | nil=>cases hl
        | cons d ds =>
          unfold AA at h;obtain⟨v,r,P1,P2,rfl,h1,h2,_⟩:=h;obtain⟨us',e1,e2,e3⟩:=ih (by simpa using hl) h2;refine⟨(if j=k then w else v)::us',?_,?_,by simp[Th];omega⟩
          · rw[L8,C5,L8,e1]
            by_cases q:j=k<;>simp[q]
          · unfold Th;refine((AA.cons (P1:=wX) (P2:=wX) ?_ e2 (fun _ z=>z.elim)).iff fun a=>⟨fun z=>z.elim,fun z=>z.elim id id⟩)
            by_cases q:j=k
            · rw[if_pos q,if_pos q];exact hx
            · rw[if_neg q,if_neg q];exact h1.z
    exact this hl h
  · rw[if_neg c,if_neg c,if_neg c];refine⟨us++[w],?_,?_,by simp[hl]⟩
    · rw[List.zip_append xy];rfl
    · exact(AA.app (P:=wX) (Q:=wX) h.z ((AA.cons (P1:=wX) (P2:=wX) hx AA.nil fun _ z=>z.elim).iff fun a=>⟨fun z=>z.elim,fun z=>z.elim id id⟩) fun _ z=>z.elim).iff fun a=>⟨fun z=>z.elim,fun z=>z.elim id id⟩
theorem iQ{ks:List BF}(h:Rep K g H o (.xp ks ds) v P):∃a us,v=.ref a/\H a=some (.dK (ks.zip us))/\ks.length=ds.length/\AA K g H 0 ds us wX:=by
 unfold Rep at h;obtain⟨a,us,e,h1,_,_,⟨h5,R,h6⟩,_⟩:=h;exact⟨a,us,e,h1,h5,h6.z⟩
def cf:List Dv->Option (NK BF)
 | []=>some []
 | d::ds=>((Kr d).map Sum.inl |>.or ((lL d).map Sum.inr)).bind fun k=>(cf ds).bind fun ks=>some (k::ks)
def qI:Dv->Option (NK BF)
 | .tup ds=>cf ds
 | _=>none
end
noncomputable abbrev Mu:=Dv->List Dv->Option (Dv×Dv)
def ba(K:W.Frag)(p:Mu)(R:V->List V->Hp->VK->Prop):Prop:=∀g H x v P ds us r y Q,Zd g H->Rep K g H 1 x v P->AA K g H 0 ds us wX->p x ds=some (r,y) ->
 (∀w H' P',Step g P H g P' H'->Rep K g H' 1 y v P'->Rep K g H' 0 r w wX->Q w H')->R v us H Q
noncomputable def kind:Dv->String
 | .lst _ => "list"
 | .xV _ => "list"
 | .str _ => "str"
 | .int _ => "int"
 | .dtt _ _ => "dict"
 | .xp _ _ => "dict"
 | .tup _ => "tuple"
 | _ => "?"
def FE{α:Type}(T:String)(d:Dv)(o:Option α):Option α:=if kind d=T then o else none
variable {T:String}
theorem EU{α:Type}{o:Option α}{a:α}(h:FE T d o=some a):kind d=T/\o=some a:=by
 unfold FE at h;split at h
 ·rename_i z;exact⟨z,h⟩
 ·cases h
def Wx(T:String)(i:Nat)(p:Mu)(fa:Ev (List Dv)):Ev Dv:=fun R m k=>FE T (m.at i) (fa R m fun ds m1=>(p (m1.at i) ds).bind fun r=>k r.1 (m1.set i r.2))
variable {vs:List V}
section
variable {K:W.Frag} {g:G} {H:Hp} {σ:St} {Γ Γ':Gm} {js:List Nat} {as:List Ar}
theorem Oi(h:Rep K g H o d v P)(e:kind d=T)(hT:T = "list" \/ T = "str" \/ T = "int" \/ T = "dict"):mz K T v H:=by
 subst e;cases d with
 | lst ds=>unfold Rep at h;obtain⟨a,vs,P',rfl,h1,_⟩:=h;exact .inl ⟨rfl,vs,.inl (.inl h1.1)⟩
 | xV ns=>unfold Rep at h;obtain⟨⟨a,rfl,h1⟩,_⟩:=h;exact .inl ⟨rfl,_,h1.sq⟩
 | str l=>unfold Rep at h;rw[h.1];rfl
 | int i=>unfold Rep at h;rw[h.1];rfl
 | dtt ks l=>unfold Rep at h;obtain⟨a,vs,rfl,h1,_⟩:=h;exact .inr (.inr (.inl ⟨rfl,.inr ⟨_,h1⟩⟩))
 | xp ks l=>unfold Rep at h;obtain⟨a,vs,rfl,h1,_⟩:=h;exact .inr (.inr (.inl ⟨rfl,.inl ⟨_,h1⟩⟩))
 | _=>rcases hT with h | h | h | h<;>simp[kind] at h
theorem aD{i:Nat}{p:Mu}{R:V->List V->Hp->VK->Prop}(hR:ba K p R)(hT:T = "list" \/ T = "str" \/ T = "int" \/ T = "dict")(c:AD Γ as Γ' js)(he:Rb as=true)(h0:∃o,Γ[i]?=some (some o))(hi:Γ'[i]?=some (some 1)){Q:VK}
    (h:tE K Γ 0 Γ' (js++[i]) (Wx T i p (AV as)) σ H Q):je K T R (FM i) (Bl K as) σ H Q:=by
  obtain⟨g,m,P,r,R',k,res,e,q⟩:=h;obtain⟨e0,e⟩:=EU e;obtain⟨o0,h0⟩:=h0;obtain⟨v0,P0,zH,rv0,_⟩:=r.zP h0;refine⟨v0,zH,Oi rv0 e0 hT,AN as r c e fun ds m1 g1 P1 vs H1 hk ag s ar r1=>?_⟩;obtain⟨⟨rs,y⟩,e1,e2⟩:=wW hk;obtain⟨v,Pa,Pr,ev,em,rv,r2,n,hP⟩:=r1.take hi;rw[zH] at ev;cases ev;refine hR g1 H1 _ v0 Pa ds vs rs y Q r1.zd rv (ar.zAD he) e1 fun w H2 P' s2 ry rr=>?_
  have r3:=r2.held s2 rv.wb fun a q z=>n a z q
  have n3:=s2.out r2.wb fun a q z=>n a z q
  have hil:i < Γ'.length:=(B5.mp hi).1;obtain⟨P4,r4,sp⟩:=r3.putIn hil zH ry fun a q z=>n3 a z q
  rw[EH hi] at r4;refine q rs _ g1 P4 wX w H2 e2 (ag.trans Bw.set) (s.trans ((s2.frame (R:=Pr)).sub (fun a z=>(hP a).mpr z) fun a z=>z.elim (fun z=>sp a z) E7)) rr r4 fun _ _ z=>z
theorem Step.upd{a:B3}{o u:HO}{P':Fp}(h:H a=some u)(nu:∀C dx fs,u≠.ins C dx fs)(hs:∀b,P' b->b=a\/H b=none):Step g (fun b=>b=a) H g P' (upd H a o):=by
 have dm:∀b,L2.upd H a o b=none->H b=none:=fun b q=>by
  by_cases hb:b=a
  ·subst hb;rw[AM] at q;cases q
  ·rw[AE hb] at q;exact q
 exact⟨fun b u q n=>by rw[AE n];exact q,dm,fun _ q=>q,fun _ q=>.inl q,⟨[],by simp⟩,hs,fun z b q e=>z b q (dm b e),Yi h nu⟩
theorem Ht{xs:List Dv}(h:Rep K g H 1 (.lst xs) v P):∃a vs,v=.ref a/\H a=some (.lst vs)/\¬g.Z a/\AA K g H 0 xs vs wX/\(∀b,P b↔b=a) /\
    ∀ws,Step g P H g P (upd H a (.lst ws))/\(∀{d:Dv} {u:V},Rep K g H 0 d u wX->Rep K g (upd H a (.lst ws)) 0 d u wX)/\∀ys,AA K g H 0 ys ws wX->Rep K g (upd H a (.lst ws)) 1 (.lst ys) (.ref a) P:=by
  unfold Rep at h;obtain⟨a,vs,P',rfl,h1,h2,h3,h5⟩:=h;have hP:∀b,P b↔b=a:=fun b=>by rw[h5 b];exact⟨fun z=>z.elim (fun z=>z.2) fun z=>(h2.xE b z).elim,fun z=>.inl ⟨by decide,z⟩⟩
  have eP:P=fun b=>b=a:=funext fun b=>propext (hP b)
  have hz:=h1.2.2 (by decide);have oka:wc g H fun b=>b=a:=fun b q=>by subst q;exact⟨by rw[h1.1];trivial,hz⟩
  refine⟨a,vs,rfl,h1.1,hz,h2.z,hP,fun ws=>?_⟩;have st:Step g (fun b=>b=a) H g (fun b=>b=a) (upd H a (.lst ws)):=Step.upd h1.1 (fun _ _ _ z=>by cases z) fun b z=>.inl z
  refine⟨by rw[eP];exact st,fun r=>r.held st oka fun _ z=>z.elim,fun ys r=>?_⟩;unfold Rep;exact⟨a,ws,wX,rfl,⟨AM,(fun z=>by cases z),fun _=>hz⟩,r.held st oka fun _ z=>z.elim,fun z=>z,fun b=>by rw[hP b];exact⟨fun z=>.inl ⟨by decide,z⟩,fun z=>z.elim (fun z=>z.2) E7⟩⟩
theorem FG:∀{ds:List Dv} {vs:List V},AA K g H 0 ds vs wX↔ds.length=vs.length/\∀(i:Nat) (d:Dv) (v:V),ds[i]?=some d->vs[i]?=some v->Rep K g H 0 d v wX
 | [],vs=>⟨fun h=>⟨h.len,fun i d v e=>by simp at e⟩,fun h=>by
  have:vs=[]:=J3 h.1.symm;subst this;exact AA.nil⟩
 | x::xs,vs=>by
  refine⟨fun h=>⟨h.len,fun i d v e1 e2=>?_⟩,fun h=>?_⟩
  ·obtain⟨v',P,e',r,_⟩:=h.get e1;rw[e2] at e';cases e';exact r.z
  ·cases vs with
   | nil=>simp at h
   | cons v vs =>
    exact(AA.cons (h.2 0 x v rfl rfl) (FG.mpr ⟨by simpa using h.1,fun i d u e1 e2=>h.2 (i+1) d u (by simpa using e1) (by simpa using e2)⟩) fun _ z=>z.elim).iff fun a=>⟨fun z=>z.elim,fun z=>z.elim id id⟩
theorem BP{es:List Dv}{us:List V}(h:AA K g H 0 ds vs wX)(k:AA K g H 0 es us wX):AA K g H 0 (ds++es) (vs++us) wX:=(AA.app h k fun _ z=>z.elim).iff fun a=>⟨fun z=>z.elim,fun z=>z.elim id id⟩
theorem CF(h:Rep K g H 0 d v wX):AA K g H 0 [d] [v] wX:=(AA.cons h AA.nil fun _ z=>z.elim).iff fun a=>⟨fun z=>z.elim,fun z=>z.elim id id⟩
theorem BJ(h:AA K g H 0 (d::ds) vs wX):∃v us,vs=v::us/\Rep K g H 0 d v wX/\AA K g H 0 ds us wX:=by
 unfold AA at h;obtain⟨v,r,P1,P2,rfl,h1,h2,_⟩:=h;exact⟨v,r,rfl,h1.z,h2.z⟩
theorem BO(h:AA K g H 0 [] vs wX):vs=[]:=by unfold AA at h;exact h.1
theorem SY(j:Nat)(h:AA K g H 0 ds vs wX)(r:Rep K g H 0 d v wX):AA K g H 0 (ds.set j d) (vs.set j v) wX:=by
 have h0:=FG.mp h;refine FG.mpr ⟨by simp[h0.1],fun i x y e1 e2=>?_⟩;rcases Ei e1 with⟨rfl,rfl⟩ | ⟨n,e1⟩
 ·rcases Ei e2 with⟨_,rfl⟩ | ⟨n,_⟩
  ·exact r
  ·exact(n rfl).elim
 ·rcases Ei e2 with⟨z,_⟩ | ⟨_,e2⟩
  ·exact(n z).elim
  ·exact h0.2 i x y e1 e2
theorem Er:Rep K g H o .we .we wX:=by unfold Rep;exact⟨rfl,fun _ z=>z⟩
noncomputable def AY(x:Dv)(ds:List Dv):Option (Dv×Dv):=match x,ds with
 | .lst xs,[d]=>if xs.length<=1000000 then some (.we,.lst (xs++[d])) else none
 | _,_=>none
noncomputable def Bd(x:Dv)(ds:List Dv):Option (Dv×Dv):=match x,ds with
 | .lst xs,[.lst ys]=>if xs.length+ys.length<=1000000 then some (.we,.lst (xs++ys)) else none
 | .lst xs,[.tup ys]=>if xs.length+ys.length<=1000000 then some (.we,.lst (xs++ys)) else none
 | _,_=>none
theorem Sn:ba K AY Qx:=fun g H x v P ds us r y Q zd rx rd e k=>by
 unfold AY at e;split at e
 ·rename_i xs d;split at e
  ·rename_i hl;cases e;obtain⟨a,vs,rfl,ha,hz,hx,hP,go⟩:=Ht rx;obtain⟨u,us',rfl,hu,h2⟩:=BJ rd;cases BO h2;obtain⟨s,hd,mk⟩:=go (vs++[u]);exact⟨a,vs,u,rfl,rfl,ha,S1 (by rw[<- hx.len];exact hl) (by decide),k _ _ P s (mk _ (BP hx (CF hu))) Er⟩
  ·cases e
 ·cases e
theorem Sm:ba K Bd (fun x vs H Q=>Qw x vs H Q\/Mx x vs H Q):=fun g H x v P ds us r y Q zd rx rd e k=>by
 unfold Bd at e;split at e
 ·rename_i xs ys;split at e
  ·rename_i hl;cases e;obtain⟨a,vs,rfl,ha,hz,hx,hP,go⟩:=Ht rx;obtain⟨u,us',rfl,hu,h2⟩:=BJ rd;cases BO h2;unfold Rep at hu;obtain⟨b,ws,P',rfl,h1,h3,_⟩:=hu;obtain⟨s,hd,mk⟩:=go (vs++ws);exact .inl ⟨a,b,vs,ws,rfl,rfl,ha,h1.1,C4 (by rw[<- hx.len,<- h3.len];exact hl) (by decide),k _ _ P s (mk _ (BP hx h3.z)) Er⟩
  ·cases e
 ·rename_i xs ys;split at e
  ·rename_i hl;cases e;obtain⟨a,vs,rfl,ha,hz,hx,hP,go⟩:=Ht rx;obtain⟨u,us',rfl,hu,h2⟩:=BJ rd;cases BO h2;unfold Rep at hu;obtain⟨b,ws,rfl,h1,h3⟩:=hu;obtain⟨s,hd,mk⟩:=go (vs++ws);exact .inr ⟨a,b,vs,ws,rfl,rfl,ha,h1,C4 (by rw[<- hx.len,<- h3.len];exact hl) (by decide),k _ _ P s (mk _ (BP hx h3.z)) Er⟩
  ·cases e
 ·cases e
end
def cv(i:Nat)(p:Dv->Dv->Dv->Option Dv)(f:Ev Dv)(fk:Ev (List Dv)):Es:=fun R m k=>f R m fun d m1=>fk R m1 fun ks m2=>match ks with | [j]=>(p (m2.at i) j d).bind fun y=>k.nx (m2.set i y) | _=>none
def BA(x k d:Dv):Option Dv:=match x,k with
 | .lst xs,.int k=>(RN xs.length k).bind fun j=>some (.lst (xs.set j d))
 | _,_=>none
def bY(K:W.Frag)(p:Dv->Dv->Dv->Option Dv)(T:QX):Prop:=∀g H x v P j vj d u y (Q:Hp->Prop),Zd g H->Rep K g H 1 x v P->RA K g H [j] [vj]->Rep K g H 0 d u wX->p x j d=some y->(∀H' P',Step g P H g P' H'->Rep K g H' 1 y v P'->Q H')->T v vj u H Q
theorem eO{K:W.Frag}:bY K BA VT:=fun g H x v P j vj d u y Q zd rx rj rd e q=>by
 unfold BA at e;split at e
 ·rename_i xs kk;obtain⟨jj,ej,e⟩:=wW e;cases e;obtain⟨a,vs,rfl,ha,hz,hx,hP,go⟩:=Ht rx;unfold RA at rj;obtain⟨w,wr,o,Po,ew,_,yn,_⟩:=rj;cases ew;rw[AG yn];obtain⟨s,hd,mk⟩:=go (vs.set jj u);exact⟨a,vs,kk,jj,rfl,rfl,ha,by rw[<- hx.len];exact ej,q _ P s (mk _ (SY jj hx rd))⟩
 ·cases e
variable {H:Hp}
section
variable {K:W.Frag} {F:Fr} {wZ:Option Gm} {Γ wy Γ':Gm} {js js2:List Nat} {i:Nat} {f:Ev Dv} {a:Ar} {p:Dv->Dv->Dv->Option Dv} {T:QX}
theorem VI(hp:bY K p T)(c:AD wy [a] Γ' js2)(h0:∃o,wy[i]?=some (some o))(hi:Γ'[i]?=some (some 1)){D:Ends}{σ:St}(h:tS K F wZ Γ (some Γ') (js++(js2++[i])) (cv i p f (AV [a])) D σ H):Mh (tE K Γ 0 wy js f) (gj (FM i) (Oc K a) T) D σ H:=by
 obtain⟨g,m,P,r,R,k,res,e,q⟩:=h;refine⟨g,m,P,r,R,_,res,e,fun d m1 g1 P1 Pv u H1 hk ag s rv r1 n=>?_⟩;obtain⟨o0,h0⟩:=h0;obtain⟨v0,P0,zH,_,_⟩:=r1.zP h0;refine⟨v0,zH,?_⟩;have rz:=rv.z;have s':Step g P H g1 P1 H1:=s.less fun _ z=>.inl z
 have key:Bl K [a] σ H1 fun vs H2=>∃w,vs=[w]/\T v0 w u H2 fun H3=>D.nx σ H3:=by
  refine AN [a] r1 c hk fun ds m2 g2 P2 vs H2 xt zA s2 ar r2=>?_
  have al:=ar.len;have ra:=ar.ra r2
  match ds,al.1,xt,ra with
  | [j],_,xt,ra =>
   have ra0:=ra;unfold RA at ra;obtain⟨w,wr,o,Po,rfl,_,h1,h2⟩:=ra;unfold RA at h2;subst h2;obtain⟨y,e1,e2⟩:=wW xt;obtain⟨v,Pa,Pr,ev,em,rx,r3,n3,hP⟩:=r2.take hi;rw[zH] at ev;cases ev;refine⟨w,rfl,hp g2 H2 _ v0 Pa j w d u y _ r2.zd rx ra0 (rz.held s2 r1.wb fun _ z=>z.elim) e1 fun H3 P' s3 ry=>?_⟩;have r4:=r3.held s3 rx.wb fun a q z=>n3 a z q
   have n4:=s3.out r3.wb fun a q z=>n3 a z q
   obtain⟨P5,r5,sp⟩:=r4.putIn (B5.mp hi).1 zH ry fun a q z=>n4 a z q
   rw[EH hi] at r5;exact q.nx Γ' _ g2 P5 σ H3 rfl e2 (ag.trans (zA.trans Bw.set)) ((s'.trans s2).trans ((s3.frame (R:=Pr)).sub (fun a z=>(hP a).mpr z) fun a z=>sp a z)) Io.refl r5
 have mono:∀(Q1 Q2:VK),(∀v H,Q1 v H->Q2 v H)->Oc K a σ H1 Q1->Oc K a σ H1 Q2:=by
  intro Q1 Q2 h12 t;cases a with
  | ev Γa Γb ja fa =>
   obtain⟨g,m,P,r,R,k,res,e,q⟩:=t;exact⟨g,m,P,r,R,k,res,e,fun d m' g' P' Pv v H' h1 h2 h3 h4 h5 h6=>h12 _ _ (q d m' g' P' Pv v H' h1 h2 h3 h4 h5 h6)⟩
  | rf i=>obtain⟨v,e,q⟩:=t;exact⟨v,e,h12 _ _ q⟩
  | fd i f=>obtain⟨v,e,a,C,dx,fs,w,h1,h2,h3,h4,h5,q⟩:=t;exact⟨v,e,a,C,dx,fs,w,h1,h2,h3,h4,h5,h12 _ _ q⟩
 refine mono _ _ (fun v H2 z=>?_) key;obtain⟨w,ew,z⟩:=z;cases ew;exact z
end
def Wy(T:String)(a:Ar)(as:List Ar)(p:Pr):Ev Dv:=match a with
 | .rf i=>fun R m k=>FE T (m.at i) (AV as R m fun ds m1=>(p (m1.at i::ds)).bind fun d=>k d m1)
 | .ev _ _ _ f=>fun R m k=>f R m fun x m1=>FE T x (AV as R m1 fun ds m2=>(p (x::ds)).bind fun d=>k d m2)
 | .fd _ _=>fun _ _ _=>none
def jE(r:V->List V->Hp->VK->Prop):SA:=fun vs H Q=>match vs with | x::us=>r x us H Q | _=>False
theorem gG{K:W.Frag}{σ:St}{H:Hp}{Γ Γ':Gm}{js:List Nat}{a:Ar}{as:List Ar}{p:Pr}{r:V->List V->Hp->VK->Prop}(hp:AJ K p o (jE r))(hT:T = "list" \/ T = "str" \/ T = "int" \/ T = "dict")(c:AD Γ (a::as) Γ' js){Q:VK}
    (h:tE K Γ o Γ' js (Wy T a as p) σ H Q):je K T r (Oc K a) (Bl K as) σ H Q:=by
  obtain⟨g,m,P,rl,R',k,res,e,q⟩:=h;cases a with
  | fd i f=>cases e
  | rf i =>
    obtain⟨e0,e⟩:=EU e;unfold AD at c;obtain⟨⟨o0,h0⟩,⟨o1,x6,h1⟩,c⟩:=c;obtain⟨v0,P0,zH,rv0,_⟩:=rl.zP h0;refine⟨v0,zH,Oi rv0 e0 hT,AN as rl c e fun ds m1 g1 P1 vs H1 hk ag s ar r1=>?_⟩;obtain⟨d,e1,e2⟩:=wW hk;obtain⟨v1,P1',ev1,rv1,_⟩:=r1.zP h1;rw[zH] at ev1;cases ev1;refine hp g1 H1 _ (v0::vs) d Q r1.zd (by unfold RA;exact⟨v0,vs,o1,P1',rfl,x6,rv1,ar.ra r1⟩) e1 fun v H2 nw=>?_
    obtain⟨Pv,s2,h1,r2,n2⟩:=Ae.go s r1 nw;exact q d m1 g1 P1 Pv v H2 e2 ag s2 h1 r2 n2
  | ev wy xH js1 f =>
    unfold AD at c;obtain⟨rfl,js2,rfl,c⟩:=c;refine⟨g,m,P,rl,R',_,res,e,fun x m1 g1 P1 Pv v0 H1 hk ag s rv r1 n=>?_⟩;obtain⟨e0,hk⟩:=EU hk;have rz:=rv.z;have s':Step g P H g1 P1 H1:=s.less fun _ z=>.inl z
    refine⟨Oi rz e0 hT,AN as r1 c hk fun ds m2 g2 P2 vs H2 xt zA s2 ar r2=>?_⟩;obtain⟨d,e1,e2⟩:=wW xt;refine hp g2 H2 _ (v0::vs) d Q r2.zd (by unfold RA;exact⟨v0,vs,0,wX,rfl,by decide,rz.held s2 r1.wb fun _ z=>z.elim,ar.ra r2⟩) e1 fun v H3 nw=>?_
    obtain⟨Pw,s3,h1,r3,n3⟩:=Ae.go (s'.trans s2) r2 nw;exact q d m2 g2 P2 Pw v H3 e2 (ag.trans zA) s3 h1 r3 n3
theorem aF{K:W.Frag}{σ:St}{H:Hp}{Γ Γ':Gm}{js:List Nat}{a:Ar}{as:List Ar}{p:Pr}{r:V->List V->Hp->VK->Prop}(hp:AJ K p o (jE r))(c:AD Γ (a::as) Γ' js){Q:VK}
    (h:tE K Γ o Γ' js (Wy "tuple" a as p) σ H Q):ni r (Oc K a) (Bl K as) σ H Q:=by
  obtain⟨g,m,P,rl,R',k,res,e,q⟩:=h
  have ty:∀{g:G} {H:Hp} {o:Nat} {d:Dv} {v:V} {P:Fp},Rep K g H o d v P->kind d = "tuple" -> ∃a us,v=.ref a/\H a=some (.tup us):=fun{g H o d v P} h e=>by
    cases d with
    | tup ds=>unfold Rep at h;obtain⟨a,vs,rfl,h1,_⟩:=h;exact⟨a,vs,rfl,h1⟩
    | _=>simp[kind] at e
  cases a with
  | fd i f=>cases e
  | rf i =>
    obtain⟨e0,e⟩:=EU e;unfold AD at c;obtain⟨⟨o0,h0⟩,⟨o1,x6,h1⟩,c⟩:=c;obtain⟨v0,P0,zH,rv0,_⟩:=rl.zP h0;refine⟨v0,zH,ty rv0 e0,AN as rl c e fun ds m1 g1 P1 vs H1 hk ag s ar r1=>?_⟩;obtain⟨d,e1,e2⟩:=wW hk;obtain⟨v1,P1',ev1,rv1,_⟩:=r1.zP h1;rw[zH] at ev1;cases ev1;refine hp g1 H1 _ (v0::vs) d Q r1.zd (by unfold RA;exact⟨v0,vs,o1,P1',rfl,x6,rv1,ar.ra r1⟩) e1 fun v H2 nw=>?_
    obtain⟨Pv,s2,h1,r2,n2⟩:=Ae.go s r1 nw;exact q d m1 g1 P1 Pv v H2 e2 ag s2 h1 r2 n2
  | ev wy xH js1 f =>
    unfold AD at c;obtain⟨rfl,js2,rfl,c⟩:=c;refine⟨g,m,P,rl,R',_,res,e,fun x m1 g1 P1 Pv v0 H1 hk ag s rv r1 n=>?_⟩;obtain⟨e0,hk⟩:=EU hk;have rz:=rv.z;have s':Step g P H g1 P1 H1:=s.less fun _ z=>.inl z
    refine⟨ty rz e0,AN as r1 c hk fun ds m2 g2 P2 vs H2 xt zA s2 ar r2=>?_⟩;obtain⟨d,e1,e2⟩:=wW xt;refine hp g2 H2 _ (v0::vs) d Q r2.zd (by unfold RA;exact⟨v0,vs,0,wX,rfl,by decide,rz.held s2 r1.wb fun _ z=>z.elim,ar.ra r2⟩) e1 fun v H3 nw=>?_
    obtain⟨Pw,s3,h1,r3,n3⟩:=Ae.go (s'.trans s2) r2 nw;exact q d m2 g2 P2 Pw v H3 e2 (ag.trans zA) s3 h1 r3 n3
def iG(f g:Ev Dv):Ev Dv:=fun R m k=>(f R m k).or (g R m k)
variable {Q:VK}
theorem eA{K:W.Frag}{Γ Γ':Gm}{js:List Nat}{σ:St}{f g:Ev Dv}(h:tE K Γ o Γ' js (iG f g) σ H Q):tE K Γ o Γ' js f σ H Q\/tE K Γ o Γ' js g σ H Q:=by
 obtain⟨g0,m,P,r,R,k,res,e,q⟩:=h;unfold iG at e;cases e1:f R m k with
 | some z=>rw[e1] at e;exact .inl ⟨g0,m,P,r,R,k,z,e1,by cases e;exact q⟩
 | none=>rw[e1] at e;exact .inr ⟨g0,m,P,r,R,k,res,e,q⟩
end R
namespace L2
open PySem PySem.Spec PyProof.Rows
abbrev Up(xs:Array Nat):Prop:=∀i j,i < j->j < xs.size->xs.getD i 0 < xs.getD j 0
variable {xs:Array Nat}
theorem Wm{i:Nat}(d e:Nat)(h:i < xs.size):xs.getD i d=xs.getD i e:=by
 simp[qV,h]
theorem Ji(u:Up xs)(j:Nat):∀(fuel lo hi:Nat),hi<=lo+fuel->lo<=hi->hi<=xs.size->(∀i,i < lo->xs.getD i 0 < j)->(∀i,hi<=i->i < xs.size->j<=xs.getD i 0) ->
    SetTable.below.go xs j fuel lo hi<=xs.size/\(∀i,i < SetTable.below.go xs j fuel lo hi->xs.getD i 0 < j)/\∀i,SetTable.below.go xs j fuel lo hi<=i->i < xs.size->j<=xs.getD i 0
  | 0,lo,hi,h1,h2,h3,h4,h5=>by
    have e:lo=hi:=Nat.le_antisymm h2 h1;subst e;exact⟨h3,h4,h5⟩
  | fuel+1,lo,hi,h1,h2,h3,h4,h5=>by
    unfold SetTable.below.go
    by_cases c:lo < hi
    · rw[if_pos c];simp only[];have hm:(lo+hi) / 2 < hi:=by omega
      have hm2:lo<=(lo+hi) / 2:=by omega
      have hs:(lo+hi) / 2 < xs.size:=C7 hm h3;rw[Wm j 0 hs]
      by_cases c2:xs.getD ((lo+hi) / 2) 0 < j
      · rw[if_pos c2];refine Ji u j fuel _ hi (by omega) (by omega) h3 (fun i hi'=>?_) h5;rcases qW (Nat.le_of_lt_succ hi') with z | z
        · exact V3 (u i _ z hs) c2
        · rw[z];exact c2
      · rw[if_neg c2];refine Ji u j fuel lo _ (by omega) hm2 (Q8 hs) h4 fun i hi' hz=>?_
        rcases qW hi' with z | z
        · exact C4 (W9 c2) (Q8 (u _ i z hz))
        · rw[<- z];exact W9 c2
    · rw[if_neg c];have e:lo=hi:=by omega
      subst e;exact⟨h3,h4,h5⟩
theorem OU(u:Up xs)(j:Nat):SetTable.below xs j<=xs.size/\(∀i,i < SetTable.below xs j->xs.getD i 0 < j)/\∀i,SetTable.below xs j<=i->i < xs.size->j<=xs.getD i 0:=
 Ji u j xs.size 0 xs.size (by omega) (J8 _) (B4 _) (fun _ h=>absurd h (vB _)) fun i h1 h2=>absurd h2 (Nat.not_lt_of_le h1)
theorem Hm:Up xs↔xs.toList.Pairwise (· < ·):=by
 rw[List.pairwise_iff_getElem];constructor
 ·intro u i j hi hj h;have hj':j < xs.size:=by simpa using hj
  have hi':i < xs.size:=by simpa using hi
  have:=u i j h hj';simpa[qV,hi',hj'] using this
 ·intro u i j h hj;have hi:i < xs.size:=V3 h hj;have:=u i j (by simpa using hi) (by simpa using hj) h;simpa[qV,hi,hj] using this
theorem dc(u:Up xs){j:Nat}(h:xs[SetTable.below xs j]?≠some j):Up (SetTable.insertAt xs (SetTable.below xs j) j):=by
 obtain⟨h1,h2,h3⟩:=OU u j;have u':=Hm.mp u;rw[Hm,SetTable.toList_insertAt];have e:xs.toList=xs.toList.take (SetTable.below xs j)++xs.toList.drop (SetTable.below xs j):=(rn _ _).symm;rw[e] at u';rw[List.pairwise_append] at u' ⊢;have ad:∀b∈xs.toList.drop (SetTable.below xs j),j < b:=fun b hb=>by
  obtain⟨k,hk⟩:=j7 hb;rw[tK] at hk;have hk':xs[SetTable.below xs j+k]?=some b:=by simpa using hk
  have hl:SetTable.below xs j+k < xs.size:=(S3.mp hk').1;have g:xs.getD (SetTable.below xs j+k) 0=b:=by simp[qV,hl,(S3.mp hk').2]
  have:=h3 _ (uk _ k) hl;rw[g] at this;rcases qW this with z | z
  ·exact z
  ·subst z;cases k with
   | zero=>exact(h hk').elim
   | succ k =>
    have hl0:SetTable.below xs j < xs.size:=by omega
    have a:=u (SetTable.below xs j) (SetTable.below xs j+(k+1)) (by omega) hl;rw[g] at a;exact absurd (h3 _ (B4 _) hl0) (Nat.not_le_of_lt a)
 refine⟨u'.1,tO.mpr ⟨ad,u'.2.1⟩,fun a ha b hb=>?_⟩;have la:a < j:=by
  obtain⟨k,hk⟩:=j7 ha;rw[tP] at hk;split at hk
  ·rename_i xF;have hk':xs[k]?=some a:=by simpa using hk
   have hl:k < xs.size:=(S3.mp hk').1;have g:xs.getD k 0=a:=by simp[qV,hl,(S3.mp hk').2]
   rw[<- g];exact h2 k xF
  ·cases hk
 rcases C8.mp hb with z | z
 ·rw[z];exact la
 ·exact V3 la (ad b z)
structure Tk (led:Bool) (t:SetTable):Prop where
 led:t.led=led
 dm:t.dummies=#[]
 up:Up t.place
theorem Uc(n:Nat):Up (Array.range n):=by
 rw[Hm,Array.toList_range];exact V4
variable {t:SetTable}
theorem Tk.standIn{led:Bool}(k:Tk led t)(n:Nat):Tk led (t.standIn n):=⟨k.led,rfl,Uc n⟩
theorem RX{led:Bool}{t:SetTable}(k:Tk led t)(ha:Nat->Int)(h:Int):∀(fuel:Nat) (p:SetTable.Probe) (j:Nat) (d:Option Nat),p.dummy=none->SetTable.probe.go t ha h fuel p=some (.empty j d)->d=none/\t.place[SetTable.below t.place j]?≠some j
 | 0,_,_,_,_,e=>by cases e
 | fuel+1,p,j,d,hp,e=>by
  unfold SetTable.probe.go at e;have hd:SetTable.has t.dummies p.j=false:=by rw[k.dm];rfl
  cases q:t.slot p.j with
  | empty =>
   rw[q] at e;cases e;refine⟨hp,fun z=>?_⟩;unfold SetTable.slot at q;simp only[z,beq_self_eq_true,if_true] at q;cases q
  | dummy =>
   unfold SetTable.slot at q;simp only[hd,D6,if_false] at q;split at q<;>cases q
  | live i =>
   rw[q] at e;simp only at e;split at e
   ·cases e
   ·refine RX k ha h fuel _ j d ?_ e;unfold SetTable.advance;split
    ·exact hp
    ·exact hp
theorem Tk.lay{led:Bool}(k:Tk led t)(es:Array (Int×Value))(h:Int)(x:Value):Tk led (layNew t es h x).2.1:=by
 unfold layNew;cases q:t.freeSlot h with
 | none=>exact k.standIn _
 | some f =>
  obtain⟨slot,wd⟩:=f;have hs:t.place[SetTable.below t.place slot]?≠some slot:=by
   unfold SetTable.freeSlot at q;split at q
   ·rename_i j d e;obtain⟨h1,h2⟩:=RX k _ _ _ _ _ _ rfl e;subst h1;cases q;exact h2
   ·cases q
  have kp:Tk led (t.put slot).1:=by
   refine⟨k.led,?_,dc k.up hs⟩;show(if SetTable.has t.dummies slot then _ else t.dummies)=#[];rw[k.dm];rfl
  show Tk led (SetTable.orStandIn (t.put slot).1 _);unfold SetTable.orStandIn;split
  ·exact kp
  ·exact kp.standIn _
theorem Tk.zCU{led:Bool}(k:Tk led t)(es:Array (Int×Value))(n:Nat):Tk led (uK t es n).2.1:=by
 unfold uK;cases q:t.relaid (es.map (·.1)) n with
 | none=>exact k.standIn _
 | some f =>
  obtain⟨t',order⟩:=f;simp only[];split
  ·unfold SetTable.relaid SetTable.laid at q;simp only[Option.bind_eq_bind,U5,Option.pure_def,T3,Prod.mk.injEq] at q;obtain⟨ow,_,rfl,_⟩:=q;refine⟨k.led,rfl,Hm.mpr ?_⟩;show List.Pairwise (· < ·) (vT (fun x:Nat×Nat=>x.1) _);rw[uJ];refine vm (R:=fun a b:Nat=>a < b) _ (fun a a' h b hb b' hb'=>?_) V4;obtain⟨_,_,e⟩:=E5.mp hb;obtain⟨_,_,e'⟩:=E5.mp hb';subst e;subst e';exact h
  ·exact k.standIn _
noncomputable def iv:Value->Int
 | .int i _=>i
 | _=>0
variable {h:H9}
section
variable {prog:F0} {w:J7} {A:I9} {E:Value->A7->Prop} {s:A7}
noncomputable abbrev Bj(es:Array (Int×Value))(ep:Nat)(t:SetTable):Obj:={ cls:=.type "set", dict:=none,data:=.set es ep t }
def SQ(prog:F0)(w:J7)(h:H9)(a:B3)(ns:List Int):Prop:=∃es ep t,h.get? a=some (Bj es ep t)/\t.fits es.size=true/\Tk (!w.params.followText "set-order") t/\ElemsOf (W2 prog w) es.toList/\(es.toList.map fun e=>iv e.2).Perm ns
theorem Wa{k:Int}{v:Value}(h:(W2 prog w).is k v=true):iv v=k/\∃t,v=.int k t:=by
 obtain⟨t,rfl⟩:=tW h;exact⟨rfl,t,rfl⟩
theorem Hn{es:Array (Int×Value)}{ns:List Int}(p:(es.toList.map fun e=>iv e.2).Perm ns):es.size=ns.length:=by
 have:=p.length_eq;simpa using this
theorem Ox{n:Nat}(h:n < 1000):n < scanBound:=V3 h (by decide)
theorem Mm{n:Nat}(h:n < 1001):n < scanBound:=V3 h (by decide)
theorem Mj{a:B3}{es es':Array (Int×Value)}{ep:Nat}{t':SetTable}(ho:h.get? a=some (Bj es ep t)):(h.update a (vY es' t')).get? a=some (Bj es' (ep+1) t'):=G5 (vY es' t') ho rfl
theorem eF{a:B3}{ns:List Int}{k:Int}{tk:Tok}{Q:Bool->A7->Prop}(hS:SQ prog w s.heap a ns)(hr:ns.length < 1000)
    (h:∀b h',K9 a s.heap h'->SQ prog w h' a (V5 ns k)->Q b { s with heap:=h' }):B6 (D4 prog w) A (setAddHashed a (.int k tk) ((W2 prog w).hash k)) Q E s:=by
  obtain⟨es,ep,t,ho,hf,hk,hel,hp⟩:=hS;have hz:=Hn hp;have zBH:(W2 prog w).is k (.int k tk)=true:=by simp[W2,sA]
  unfold setAddHashed setAddHashedIn;refine G9 (A1 (T4 ho rfl hf ?_));dsimp only;rw[byScan_of rfl (Ox (by rw[hz];exact hr)) hel];simp only[↓reduceIte];unfold setAddByScan;refine A1 ?_;refine A1 (R7 ?_);refine A1 (wpAny_setScan_of zBH ho rfl hf hel ?_);cases hr':ve (fun e=>(W2 prog w).is k e.2) es.toList with
  | some j =>
    dsimp only;obtain⟨hj,hpj,_⟩:=List.findIdx?_eq_some_iff_getElem.mp hr';have hm:k∈ns:=hp.mem_iff.mp (H8.mpr ⟨es.toList[j],R6 hj,(Wa hpj).1⟩);have e0:V5 ns k=ns:=by unfold V5;exact if_pos (show(ns.any fun x=>x == k)=true from U6.mpr ⟨k,hm,beq_self_eq_true k⟩)
    refine A6 (A6 ?_);have:=h false s.heap (qi a s.heap) (by rw[e0];exact⟨es,ep,t,ho,hf,hk,hel,hp⟩);cases s;exact this
  | none =>
    dsimp only;have hm:k∉ns:=fun hm=>by
      obtain⟨e,he,hv⟩:=H8.mp (hp.mem_iff.mpr hm);obtain⟨⟨k',hk',_⟩,_⟩:=hel e he;have:=(Wa hk').1;rw[hv] at this;subst this;have:=List.findIdx?_eq_none_iff.mp hr' e he;rw[hk'] at this;cases this
    have e0:V5 ns k=ns++[k]:=by
      unfold V5;rw[if_neg fun z=>?_];obtain⟨x,hx,z⟩:=U6.mp z;exact hm (eq_of_beq z▸hx)
    rw[e0] at h;have yT:=layNew_perm t es ((W2 prog w).hash k) (.int k tk);have zAT:=layNew_fits t es ((W2 prog w).hash k) (.int k tk);have hkt:=hk.lay es ((W2 prog w).hash k) (.int k tk);generalize layNew t es ((W2 prog w).hash k) (.int k tk)=L at yT zAT hkt ⊢;obtain⟨Js,t1,wd,gave⟩:=L;dsimp only at yT zAT hkt ⊢;rw[uL] at yT;have zCq:ElemsOf (W2 prog w) Js.toList:=(hel.push zBH rfl).perm yT;have hp1:(Js.toList.map fun e=>iv e.2).Perm (ns++[k]):=(yT.map _).trans (by rw[N0];exact hp.append (qX _))
    have gw:∀{b:Bool} {wa:A7} {Q':Unit->A7->Prop},Q' () wa->B6 (D4 prog w) A (match b with | true=>rule "set.scan.the-table-gave-way" | false=>pure ()) Q' E wa:=fun{b wa Q'} hq=>by
      cases b
      · exact A6 hq
      · exact R7 hq
    have hz1:=Hn hp1;have zl:∀{es':Array (Int×Value)},(es'.toList.map fun e=>iv e.2).Perm (ns++[k])->es'.size<=sizeLine:=fun{es'} p=>fits_of_scanBound (Mm (by rw[Hn p,D0];exact um hr))
    refine A1 (gw ?_)
    have key:∀t2:SetTable,t2.fits Js.size=true->Tk (!w.params.followText "set-order") t2->B6 (D4 prog w) A (do
        storeSet a Js t2
        if(!wd && t2.tooFull)=true then do
            (match(uK t2 Js (SetTable.grown Js.size)).2.2 with | true=>rule "set.scan.the-table-gave-way" | false=>pure ())
            storeSet a (uK t2 Js (SetTable.grown Js.size)).1 (uK t2 Js (SetTable.grown Js.size)).2.1
            pure (some true)
          else pure (some true)) (fun r wa=>B6 (D4 prog w) A (match r with | some added=>pure added | none=>setAddHashedIn a (.int k tk) ((W2 prog w).hash k) 99999) Q E wa) E s:=fun t2 hf2 xt=>by
      refine A1 (uM ho rfl ?_ (zl hp1));have ho1:=Mj (es':=Js) (t':=t2) ho;have sb:=J5 s.heap a (vY Js t2);split
      · have hp2:=relayAll_perm t2 Js (SetTable.grown Js.size);have hf3:=relayAll_fits t2 Js (SetTable.grown Js.size);have hk3:=xt.zCU Js (SetTable.grown Js.size);refine A1 (gw ?_);refine A1 (uM ho1 rfl ?_ (zl ((hp2.map _).trans hp1)));exact A6 (A6 (h true _ (sb.trans (J5 _ a _)) ⟨_,_,_,Mj ho1,hf3,hk3,zCq.perm hp2,(hp2.map _).trans hp1⟩))
      · exact A6 (A6 (h true _ sb ⟨_,_,_,ho1,hf2,xt,zCq,hp1⟩))
    split
    · refine A1 ?_;rw[hashByValue_scannable 8 rfl];exact A6 (key t1 zAT hkt)
    · refine A1 (A6 ?_);simp only[↓reduceIte];exact key t1 zAT hkt
end
section
variable {prog:F0} {w:J7} {A:I9} {R:uY->A7->Prop} {I:B3} {fp wr:List B3} {G:Array vI->Array vI->Prop} {n:Nat} {P:Nat->Value->Prop} {St:Nat->A7->Prop}
theorem Yx(W:WalksS prog w A.in1 I fp wr G n P St)(S:B3)(hSf:S∉fp)(val:Nat->Int)(zBy:∀i v,P i v->∃t,v=.int (val i) t)(hb:n < 1000) :
    ∀(k i:Nat) (s:A7),n - i=k->i<=n->St i s->SQ prog w s.heap S (sO val i) ->
      (∀s',Moved (S::wr) G s s'->SQ prog w s'.heap S (sO val n)->R (.ok (.ret .none)) s') ->
      W8 (D4 prog w) A (.builtin "set.update.loop" ⟨[.ref S,.ref I],[]⟩) R s:=by
  have hSw:S∉wr:=fun h=>hSf (W.sub _ h)
  have zAb:∀b∈wr,b∈S::wr:=fun b hb=>A9 _ hb
  have mv:∀{s s':A7} {ns:List Int},Moved wr G s s'->SQ prog w s.heap S ns->SQ prog w s'.heap S ns:=fun hm ⟨es,ep,t,ho,r⟩=>⟨es,ep,t,hm.heap S _ hSw ho,r⟩
  intro k
  induction k with
  | zero =>
    intro i s hk hi yL hS hR;have xW:i=n:=by omega
    subst xW;refine M0 F.entry_set_update_loop ?_;rw[L6 F.plain_set_update_loop _];refine A1 (W.done s _ _ yL fun s' hm=>?_);exact A6 (hR s' (hm.mono zAb) (mv hm hS))
  | succ k ih =>
    intro i s hk hi yL hS hR;have xF:i < n:=by omega
    refine M0 F.entry_set_update_loop ?_;rw[L6 F.plain_set_update_loop _];refine A1 (W.item i s _ _ xF yL fun v s' hP zDa hm=>?_);obtain⟨tk,rfl⟩:=zBy i v hP;show B6 _ A.in1 (Z0 [.int (val i) tk] (setAdd S (.int (val i) tk)) >>= _) _ _ s';refine A1 (G9 ?_);unfold setAdd;refine G9 ?_;refine A1 ((W2 prog w).pyHash (k:=val i) (by simp[W2,sA]) ?_);have hS':=mv hm hS;refine eF (s:={ s' with toks:=s'.toks+1 }) hS' (S1 (tQ val i) (V3 xF hb)) fun b h' hsb hS2=>?_
    rw[<- firstMet_succ] at hS2;refine A6 ⟨T8 F.plain_set_update_loop _,ih (i+1) _ (by omega) xF (W.frame _ s' _ _ zDa (O6 _) fun b hb o e=>?_) hS2 fun s'' zDh zDs=>?_⟩
    · rw[hsb.2 b (fun h:b=S=>hSf (by rw[<- h];exact hb))];exact e
    · refine hR s'' (Moved.trans W.gtrans ((hm.mono zAb).then_heap (O6 _) fun b o hb e=>?_) zDh) zDs;rw[hsb.2 b (fun h:b=S=>hb (by rw[h];exact B1))];exact e
end
section
variable {prog:F0} {w:J7} {A:I9} {E:Value->A7->Prop} {s:A7}
theorem aB(a:Value){Q₁:Value->A7->Prop}
    (h:Q₁ (.ref s.heap.objs.size) { s with heap:=s.heap.push (Bj #[] 0 (.fresh 0 0 (!w.params.followText "set-order"))) }) :
    W8 (D4 prog w) A (.call (.builtin "set.__new__") ⟨[.type "set", a],[]⟩) (wants Q₁ E) s:=by
  refine vC ?_;refine A1 (u4 (F.newCall_set_1 a) (A6 ⟨T8 F.plain_set_new _,M0 F.entry_set_new ?_⟩));rw[L6 F.plain_set_new _];unfold O8.«set.__new__» vZ;have zAb:=sub_set_self;obtain⟨hp,g,d,tk,os⟩:=s;dsimp only
  wp_walk
  refine U7 (A6 ?_);dsimp only;simp only[newObj];exact A1 (wpAny_alloc (A6 (A6 h)))
theorem au{l:B3}{items:Array Value}{val:Nat->Int}{Q:Value->A7->Prop}
    (hh:A.handled=none) (hl:s.heap.IsList l items\/s.heap.IsTuple l items) (zBy:∀(i:Nat) (v:Value),items[i]?=some v->∃t,v=.int (val i) t) (hb:items.size < 1000)
    (h:∀(h':H9) (tk:Nat),SQ prog w h' s.heap.objs.size (sO val items.size)->s.heap.objs.size < h'.objs.size ->
      (∀b o,b < s.heap.objs.size->s.heap.get? b=some o->h'.get? b=some o)->Q (.ref s.heap.objs.size) { s with heap:=h',toks:=tk }) :
    B6 (D4 prog w) A (call (.type "set") [.ref l]) Q E s:=by
  obtain⟨c,tl,zEK⟩:=F.called_set.mro;have zEG:=F.called_set.made;have zAb:=F.called_set.sub;refine vO (vC ?_)
  show B6 _ _ (callAny (.type "set") _) _ _ _
  refine A6 ⟨tM _ (by decide +kernel),M0 F.entry_type_call ?_⟩
  rw[Around.under_plain (weight_type_call_type "set" [.ref l] []) rfl]
  have h1:=F.called_set.notType;have h2:=F.called_set.canCreate;have hct:=F.typeCall_set_1 (.ref l)
  repeat (any_goals (first | assumption | wp_step))
  refine Z2 (aB (.ref l) (E:=E) (Q₁:=fun obj wa=>obj=.ref s.heap.objs.size/\wa={ s with heap:=s.heap.push (Bj #[] 0 (.fresh 0 0 (!w.params.followText "set-order"))) }) ⟨rfl,rfl⟩) fun r wa hr=>?_
  cases r with
  | error e=>exact hr
  | ok fl =>
    cases fl with
    | ret obj =>
      obtain⟨rfl,rfl⟩:=hr
      generalize hL:(!w.params.followText "set-order")=led
      have hS:(s.heap.push (Bj #[] 0 (.fresh 0 0 led))).get? s.heap.objs.size=some (Bj #[] 0 (.fresh 0 0 led)):=B2 _ rfl
      have hT:qr { s with heap:=s.heap.push (Bj #[] 0 (.fresh 0 0 led)) } (.ref s.heap.objs.size) "set" := ⟨_,hS,rfl⟩
      have hli:=F.called_set.init.lookup;have hbi:=F.called_set.init.bind (.ref s.heap.objs.size)
      repeat (any_goals (first | assumption | wp_step))
      refine Z2 (codeAny_call_builtin (R:=wants (fun r xv=>r=.none/\∃h' tk,xv={ s with heap:=h',toks:=tk }/\SQ prog w h' s.heap.objs.size (sO val items.size)/\s.heap.objs.size < h'.objs.size /\
          (∀b o,b < s.heap.objs.size->s.heap.get? b=some o->h'.get? b=some o)) E) F.called_set.init.plain F.entry_set_init (check_set_init_1 hT ?_)) fun zDM xv zAn=>?_
      · have hlS:l < s.heap.objs.size:=hl.elim (fun⟨_,e,_⟩=>C0 e) fun⟨_,e,_⟩=>C0 e
        have hh3:A.in1.in1.in1.handled=none:=by simp[hh]
        have hsz:(s.heap.push (Bj #[] 0 (.fresh 0 0 led))).objs.size=s.heap.objs.size+1:=J0 ..;have zCl:l≠(s.heap.push (Bj #[] 0 (.fresh 0 0 led))).objs.size:=by rw[hsz];exact D1 (O3 hlS)
        have hSf:s.heap.objs.size∉[(s.heap.push (Bj #[] 0 (.fresh 0 0 led))).objs.size,l]:=by
          rw[hsz];simp only[C8,K7,or_false,not_or];exact⟨D1 (M1 _),Q9 hlS⟩
        have fin:∀(o':Obj) (A':I9) (St:Nat->A7->Prop) (W:WalksS prog w A'.in1 (s.heap.push (Bj #[] 0 (.fresh 0 0 led))).objs.size [(s.heap.push (Bj #[] 0 (.fresh 0 0 led))).objs.size,l] [(s.heap.push (Bj #[] 0 (.fresh 0 0 led))).objs.size] (fun a b=>b=a) items.size (fun i v=>items[i]?=some v) St) (Q':Value->A7->Prop),
            St 0 { s with heap:=(s.heap.push (Bj #[] 0 (.fresh 0 0 led))).push o' } ->
            (∀h' tk,SQ prog w h' s.heap.objs.size (sO val items.size)->s.heap.objs.size < h'.objs.size->(∀b o,b < s.heap.objs.size->s.heap.get? b=some o->h'.get? b=some o)->Q' .none { s with heap:=h',toks:=tk }) ->
            W8 (D4 prog w) A' (.builtin "set.update.loop" ⟨[.ref s.heap.objs.size,.ref (s.heap.push (Bj #[] 0 (.fresh 0 0 led))).objs.size],[]⟩) (wants Q' E) { s with heap:=(s.heap.push (Bj #[] 0 (.fresh 0 0 led))).push o' }:=fun o' A' St W Q' yL hq=>by
          refine Yx W s.heap.objs.size hSf val zBy hb (items.size - 0) 0 _ rfl (J8 _) yL ⟨#[],0,_,A2 _ hS,rfl,⟨hL.symm,rfl,fun i j _ h=>absurd h (vB _)⟩,(fun e he=>by simp at he),qX _⟩ fun s' hm hS'=>?_
          obtain⟨h',g',d',tk',os'⟩:=s';have eg:g'=s.gens:=hm.gens;have ed:d'=s.drawn:=hm.drawn;have eo:os'=s.os:=hm.os;subst eg;subst ed;subst eo;obtain⟨_,_,_,zo,_⟩:=id hS';refine hq h' tk' hS' (C0 zo) fun b o hb e=>hm.heap b o ?_ (A2 _ (A2 _ e))
          simp only[C8,K7,or_false,not_or];exact⟨D1 hb,by rw[hsz];exact D1 (O3 hb)⟩
        rcases hl with hl | hl
        · obtain⟨⟨zDO,zCW,zCX,zBm⟩,hol,ye,nl,hdl⟩:=hl;simp only at ye hdl;have zBz:=A2 (Bj #[] 0 (.fresh 0 0 led)) hol;subst ye;subst hdl;have zDb:=F.sub_list_set;have zDc:=F.sub_list_frozenset
          have yd:(G2 "list" == G2 "dict")=false:=by decide
          have x6:(s.heap.push (Bj #[] 0 (.fresh 0 0 led))).IsList l items:=⟨_,zBz,rfl,nl,rfl⟩;unfold O8.«set.__init__» noKeywords k7;generalize hPI:uX=PI
          wp_walk
          subst hPI;refine T2 x6 ?_;refine A1 (p7 ?_);refine fin _ _ _ (wO hh3 _ l zCl items).toS _ ⟨⟨_,B2 _ rfl,rfl,rfl⟩,(x6.push _)⟩ fun h' tk a1 a2 a3=>?_
          refine A6 ?_;exact A6 ⟨rfl,h',tk,rfl,a1,a2,a3⟩
        · obtain⟨⟨zDO,zCW,zCX,zBm⟩,hol,ye,nl,hdl⟩:=hl;simp only at ye hdl;have zBz:=A2 (Bj #[] 0 (.fresh 0 0 led)) hol;subst ye;subst hdl;have zDb:=F.sub_tuple_set;have zDc:=F.sub_tuple_frozenset
          have yd:(G2 "tuple" == G2 "dict")=false:=by decide
          have x6:(s.heap.push (Bj #[] 0 (.fresh 0 0 led))).IsTuple l items:=⟨_,zBz,rfl,nl,rfl⟩;unfold O8.«set.__init__» noKeywords k7;generalize hPI:uX=PI
          wp_walk
          subst hPI;refine S0 x6 ?_;refine A1 (p7 ?_);refine fin _ _ _ (Walks.tuple hh3 _ l zCl items).toS _ ⟨⟨_,B2 _ rfl,rfl,rfl⟩,(x6.push _)⟩ fun h' tk a1 a2 a3=>?_
          refine A6 ?_;exact A6 ⟨rfl,h',tk,rfl,a1,a2,a3⟩
      · cases zDM with
        | error e=>exact zAn
        | ok zCt =>
          cases zCt with
          | ret r =>
            obtain⟨rfl,h',tk,rfl,a1,a2,a3⟩:=zAn
            repeat (any_goals (first | assumption | wp_step))
            exact h _ _ a1 a2 a3
          | _=>exact zAn.elim
    | _=>exact hr.elim
end
theorem Eh:Slot "set_iterator" "__next__" "set_iterator.__next__":=
 .of (owner := "set_iterator") (n := "__next__") (by rw[k8,W0];kernel_rfl) (by decide +kernel) (by decide +kernel) (by decide +kernel) (.inl (by decide +kernel)) (by rw[isSubtype_type];kernel_rfl)
theorem Qo(a:Value):argsOk "set_iterator.__next__" ⟨[a],[]⟩:=by
 unfold argsOk;kernel_rfl
theorem Mo:vU table "set_iterator.__next__" = some O8.«set_iterator.__next__»:=ud (by kernel_rfl)
theorem IU:vU table "set.__iter__" = some O8.«frozenset.__iter__»:=entryFor_alias (id' := "frozenset.__iter__") (by kernel_rfl) rfl (by decide +kernel) (by kernel_rfl)
def jL(h:H9)(I:B3)(f:Value)(i:Nat)(S:B3)(n ep:Nat):Prop:=h.get? I=some { cls:=.type "set_iterator", data:=.fields #[f,.int i 0,.ref S,.int n 0,.int ep 0] }
section
variable {prog:F0} {w:J7} {A:I9} {E:Value->A7->Prop} {s:A7} {I S:B3} {f f' v:Value} {i n ep:Nat} {es:Array (Int×Value)} {t:SetTable} {Q:Option Value->A7->Prop}
def Nx(prog:F0)(w:J7)(es:Array (Int×Value))(ep:Nat)(t:SetTable)(S:B3)(f f':Value)(i:Nat)(r:Option Value)(h:H9):Prop:=
 (∃a b:Nat,f=.int a 0/\f'=.int b 0/\∀(A:I9) (s:A7) (Q:Option (Value×Nat)->A7->Prop) (E:Value->A7->Prop),s.heap.get? S=some (Bj es ep t)->Q (r.map fun v=>(v,b)) s->B6 (D4 prog w) A (setNext S a i ep) Q E s) \/
 (∃(T:B3) (items:Array Value),f=.ref T/\f'=.ref T/\h.IsTuple T items/\((r=none/\items[i]?=none)\/∃(p:Nat) (k:Int) (v:Value),r=some v/\items[i]?=some (.int p 0)/\es[p]?=some (k,v)))
theorem Dg(hit:jL s.heap I f i S n ep):s.TypeIs (.ref I) "set_iterator" := ⟨_,hit,rfl⟩
theorem Hq{o:Obj}{vs:Array Value}{k:Nat}{x:Value}(ho:h.get? I=some o)(hd:o.data=.fields vs):(h.update I (vf (·.setIfInBounds k x))).get? I=some { o with data:=.fields (vs.setIfInBounds k x) }:=by
 have:=G5 (vf (·.setIfInBounds k x)) ho (rh (p8 hd _));rw[this];obtain⟨c,d,dt,sl⟩:=o;simp only at hd;subst hd;rfl
theorem ZG(hit:jL s.heap I f i S n ep)(ho:s.heap.get? S=some (Bj es ep t))(hf:t.fits es.size=true)(hz:es.size=n)(hx:Nx prog w es ep t S f f' i (some v) s.heap)
    (hQ:∀h',jL h' I f' (i+1) S n ep->K9 I s.heap h'->Q (some v) { s with heap:=h' }):B6 (D4 prog w) A (V1 (.ref I)) Q E s:=by
  unfold V1
  refine A1 (X5 (J4 (name:=R0 "__next__") (Dg hit) Eh (G3 Eh (Dg hit) Mo ?_ (Qo _))))
  unfold O8.«set_iterator.__next__»
  refine A1 (m:=slotArgs "__next__" 0 _) (A6 ?_)
  refine A1 (wpAny_fieldsOf hit rfl ?_);dsimp only;refine A1 (l9 ho rfl hf ?_);rw[hz,if_neg (by simp)];rcases hx with⟨a,b,rfl,rfl,hx⟩ | ⟨T,items,rfl,rfl,hT,hx⟩
  · dsimp only;rw[K1,K1,K1];refine A1 (hx _ _ _ _ ho ?_);dsimp only[K2];refine A1 (S2 hit rfl (by simp) ?_);have h1:=Hq (k:=0) (x:=N5 b) hit rfl;refine A1 (S2 h1 rfl (by simp) ?_);have h2:=Hq (k:=1) (x:=N5 ((i:Int)+1)) h1 rfl;exact A6 ⟨v,rfl,A6 (hQ _ h2 ((J5 ..).trans (J5 ..)))⟩
  · rcases hx with⟨z,_⟩ | ⟨p,k,v',z,h1,h2⟩
    · cases z
    · cases z;obtain⟨oT,hoT,_,nT,hdT⟩:=hT;dsimp only;refine A1 (L5 hoT hdT ?_);dsimp only;rw[K1,h1];dsimp only;unfold setNextDrawn;refine A1 (A1 (T4 ho rfl hf ?_));dsimp only;rw[K1,if_neg (by simp),K1,h2];refine A6 ?_;refine A1 (S2 hit rfl (by simp) ?_);exact A6 ⟨v,rfl,A6 (hQ _ (Hq (k:=1) (x:=N5 ((i:Int)+1)) hit rfl) (J5 ..))⟩
theorem eM(hh:A.handled=none)(hit:jL s.heap I f i S n ep)(ho:s.heap.get? S=some (Bj es ep t))(hf:t.fits es.size=true)(hz:es.size=n)(hx:Nx prog w es ep t S f f' i none s.heap)
    (hQ:∀h',j6 I s.heap h'->Q none { s with heap:=h' }):B6 (D4 prog w) A (V1 (.ref I)) Q E s:=by
  have stop:∀(s':A7),j6 I s.heap s'.heap->s'.gens=s.gens->s'.drawn=s.drawn->s'.toks=s.toks->s'.os=s.os->B6 (D4 prog w) A.in1 (newExc (.type "StopIteration") [] >>= fun e=>(raiseNew e:Sem Fin)) (fun fin s'=>∃r,fin=.done (.ret r)/\B6 (D4 prog w) A (match(wU (some r):Except Value (Option Value)) with | .ok (some v)=>pure (some v) | .ok none=>unsupported "iter:the-iterator's-class-has-lost-its-__next__-amid-the-walk" | .error e=>do if <- rG e (.type "StopIteration") then pure none else throw e) Q E s')
      (fun e s'=>B6 (D4 prog w) A (do if <- rG e (.type "StopIteration") then pure none else throw e) Q E s') s':=fun s' hs e1 e2 e3 e4=>by
    refine A1 ?_;simp only[newExc,vX];refine A1 (K0 ?_ (by size_fits));refine A1 (m:=p9 _ _) (u4 (a:=N4) (by first | rfl | (simp only[p9];rfl)) ?_);refine K0 ?_ (by size_fits);simp only[raiseNew];refine A1 (wpAny_handled ?_);rw[show A.in1.handled=none from hh];refine A1 (A6 (wpAny_throw ?_))
    refine A1 (R4 (T := "StopIteration") (b:=true) ⟨_,B2 _ rfl,rfl⟩ sN ?_)
    obtain⟨h',g',d',t',o'⟩:=s';simp only at e1 e2 e3 e4;subst e1;subst e2;subst e3;subst e4;exact A6 (hQ _ ((hs.push _).push _))
  unfold V1
  refine A1 (X5 (J4 (name:=R0 "__next__") (Dg hit) Eh (G3 Eh (Dg hit) Mo ?_ (Qo _))))
  unfold O8.«set_iterator.__next__»
  refine A1 (m:=slotArgs "__next__" 0 _) (A6 ?_)
  refine A1 (wpAny_fieldsOf hit rfl ?_);dsimp only;refine A1 (l9 ho rfl hf ?_);rw[hz,if_neg (by simp)];rcases hx with⟨a,b,rfl,rfl,hx⟩ | ⟨T,items,rfl,rfl,hT,hx⟩
  · dsimp only;rw[K1,K1,K1];refine A1 (hx _ _ _ _ ho ?_);dsimp only[Option.map_none];refine A1 (S2 hit rfl (by simp) ?_);exact stop _ (J5 ..).extBut rfl rfl rfl rfl
  · rcases hx with⟨_,h1⟩ | ⟨_,_,_,z,_⟩
    · obtain⟨oT,hoT,_,nT,hdT⟩:=hT;dsimp only;refine A1 (L5 hoT hdT ?_);dsimp only;rw[K1,h1];dsimp only;refine A1 (S2 hit rfl (by simp) ?_);refine A1 (S2 (Hq (k:=0) (x:=N5 0) hit rfl) rfl (by simp) ?_);exact stop _ ((J5 ..).trans (J5 ..)).extBut rfl rfl rfl rfl
    · cases z
end
theorem Qn:Slot "set_iterator" "__iter__" "set_iterator.__iter__":=
 .of (owner := "set_iterator") (n := "__iter__") (by rw[k8,W0];kernel_rfl) (by decide +kernel) (by decide +kernel) (by decide +kernel) (.inl (by decide +kernel)) (by rw[isSubtype_type];kernel_rfl)
theorem VH(a:Value):argsOk "set_iterator.__iter__" ⟨[a],[]⟩:=by
 unfold argsOk;kernel_rfl
theorem SU:vU table "set_iterator.__iter__" = some O8.«dict_keyiterator.__iter__»:=entryFor_alias (id' := "dict_keyiterator.__iter__") (by kernel_rfl) (by first | rfl | decide +kernel) (by decide +kernel) (by kernel_rfl)
section
variable {prog:F0} {w:J7} {A:I9} {E:Value->A7->Prop} {s:A7} {I S:B3} {n ep:Nat} {es:Array (Int×Value)} {t:SetTable}
theorem LW(hh:A.handled=none)(ff:Nat->Value)(W:List Value)(Kp:H9->Prop)(fp:List B3)(hSI:S≠I)(hfI:I∉fp)(hK:∀h h',Kp h->(∀b∈fp,∀o,h.get? b=some o->h'.get? b=some o)->Kp h')
    (hf:t.fits es.size=true) (hz:es.size=n) (hW:W.length=n) (hx:∀i h,i<=n->Kp h->Nx prog w es ep t S (ff i) (ff (i+1)) i W[i]? h) :
    WalksS prog w A I (I::S::fp) [I] (fun a b=>b=a) n (fun i v=>W[i]?=some v) (fun i s=>jL s.heap I (ff i) i S n ep/\s.heap.get? S=some (Bj es ep t)/\Kp s.heap) where
  sub:=fun b hb=>by rw[D3.mp hb];exact B1
  grefl:=fun _=>rfl
  gtrans:=fun _ _ _ h1 h2=>h2.trans h1
  frame:=fun i s h' tk st _ hk=>⟨hk I B1 _ st.1,hk S (A9 _ B1) _ st.2.1,hK _ _ st.2.2 fun b hb o e=>hk b (A9 _ (A9 _ hb)) o e⟩
  item:=fun i s Q E hi st hQ=>by
    obtain⟨h1,h2,h3⟩:=st;have e:W[i]?=some (W[i]'(hW▸hi)):=A4 _;have q:=hx i _ (Q8 hi) h3;rw[e] at q;refine ZG h1 h2 hf hz q fun h' a1 a2=>hQ _ _ e ⟨a1,a2.extBut S _ hSI h2,hK _ _ h3 fun b hb o e=>a2.extBut b o (fun z=>hfI (z▸hb)) e⟩ ⟨fun b o hb e=>a2.extBut b o (fun z=>hb (by rw[z];exact N9 _)) e,rfl,rfl,rfl,B4 _⟩
  done:=fun s Q E st hQ=>by
    obtain⟨h1,h2,h3⟩:=st;have q:=hx n _ (B4 _) h3;rw[M4 (by rw[hW];exact B4 _)] at q;exact eM hh h1 h2 hf hz q fun h' a=>hQ _ ⟨fun b o hb e=>a b o (fun z=>hb (by rw[z];exact N9 _)) e,rfl,rfl,rfl,B4 _⟩
  self:=fun i s Q E st hQ=>by
    refine uN (Dg st.1) Qn (G3 Qn (Dg st.1) SU ?_ (VH _))
    exact A6 ⟨_,rfl, "set_iterator", _,Dg st.1,Eh.lookup,hQ⟩
theorem JY{α:Type}{l:List α}{i:Nat}(h:i < l.length):(l[i]::l.eraseIdx i).Perm l:=by
 rw[List.eraseIdx_eq_take_drop_succ];refine List.perm_middle.symm.trans ?_;rw[List.getElem_cons_drop h,rn]
theorem QH{src:Source}{k:Nat}{Q:Nat->A7->Prop}(hk:k≠0)(h:∀i d,i < k->Q i { s with drawn:=d }):B6 (D4 prog w) A (choose src k) Q E s:=fun _ _ _=>⟨hk,h _ _ (tR _ (Nat.pos_of_ne_zero hk))⟩
theorem Nm{α:Type}:∀(k:Nat) (xs:List α) (s:A7) (Q:List α->A7->Prop),k=xs.length->(∀ys d,ys.Perm xs->Q ys { s with drawn:=d })->B6 (D4 prog w) A (vn k xs) Q E s
 | 0,xs,s,Q,hk,h=>by
  have:=h xs s.drawn (qX _);rw[rD.mp hk.symm] at this;unfold vn;exact A6 this
 | k+1,[],s,Q,hk,h=>by cases hk
 | k+1,x::xs,s,Q,hk,h=>by
  unfold vn;refine A1 (QH (by simp) fun i d hi=>?_);rw[A4 hi];refine A1 (Nm k _ _ _ (by rw[sP];simp at hi ⊢;split<;>simp_all) fun ys d' hp=>A6 (h _ d' ?_));exact(hp.cons _).trans (JY hi)
theorem RB{α:Type}(nx:Nat->Nat):∀(k j:Nat) (left:List α) (out:Array α),k=left.length->(uO nx k j left out).toList.Perm (out.toList++left)
 | 0,j,left,out,h=>by
  rw[rD.mp h.symm];unfold uO;rw[L9]
 | k+1,j,left,out,h=>by
  unfold uO;have hl:nx j % left.length < left.length:=tR _ (by omega);rw[A4 hl];refine(RB nx k (j+1) _ _ (by rw[sP];simp[hl];omega)).trans ?_;rw[uL,G0];exact List.Perm.append_left _ (JY hl)
theorem Ki{α:Type}(nx:Nat->Nat)(xs:Array α):(pickOrder nx xs).toList.Perm xs.toList:=RB nx xs.size 0 xs.toList #[] (by simp)
theorem Vz(hb:w.params.followText "set-order" = false)(hf:t.fits es.size=true)(k:Tk (!w.params.followText "set-order") t)(hd:(!t.plain && decide (es.size > 1))=false)(i:Nat)(h:H9)(hi:i<=es.size) :
    Nx prog w es ep t S (.int ((if i=0 then 0 else t.place.getD (i - 1) 0+1:Nat):Int) 0) (.int ((t.place.getD i 0+1:Nat):Int) 0) i (es.toList.map (·.2))[i]? h:=by
  have hp:t.place.size=es.size:=by
    simp only[SetTable.fits,A3,beq_iff_eq] at hf;exact hf.1
  refine .inl ⟨_,_,rfl,rfl,fun A s Q E ho hq=>?_⟩;unfold setNext;refine A1 (T4 ho rfl hf ?_);dsimp only;unfold tU;refine A1 (A1 (U7 (A6 ?_)))
  show B6 _ _ (if w.params.followText "set-order" = true then _ else _) _ _ _
  rw[hb,if_neg B9];show B6 _ _ (if(!t.plain && decide (es.size > 1))=true then _ else _) _ _ _;rw[hd,if_neg B9];refine A1 ?_;show B6 _ _ (if(!t.led && !es.isEmpty)=true then _ else _) _ _ _;rw[k.led,hb,if_neg (by simp)];refine A6 (A6 ?_);have e:SetTable.below t.place (if i=0 then 0 else t.place.getD (i - 1) 0+1)=i:=by
    obtain⟨b1,b2,b3⟩:=OU k.up (if i=0 then 0 else t.place.getD (i - 1) 0+1);rcases Nat.lt_trichotomy (SetTable.below t.place (if i=0 then 0 else t.place.getD (i - 1) 0+1)) i with z | z | z
    · exfalso;have h3:=b3 (i - 1) (by omega) (by omega);rw[if_neg (by omega)] at h3;omega
    · exact z
    · exfalso;have h2:=b2 i z
      by_cases c:i=0
      · rw[if_pos c] at h2;omega
      · rw[if_neg c] at h2;have:=k.up (i - 1) i (by omega) (by omega);omega
  rw[e]
  by_cases c:i < es.size
  · have c1:es[i]?=some es[i]:=L7 c;have c2:t.place[i]?=some (t.place.getD i 0):=by rw[L7 (hp▸c)];simp[qV,hp▸c]
    rw[c1,c2];have c3:(es.toList.map (·.2))[i]?=some es[i].2:=by rw[C6];simp[c1]
    rw[c3] at hq;exact hq
  · have c1:es[i]?=none:=Array.getElem?_eq_none (W9 c);have c3:(es.toList.map (·.2))[i]?=none:=by rw[C6];simp[c1]
    rw[c1];rw[c3] at hq;exact hq
theorem Zw(hb:w.params.followText "set-order" = true)(hf:t.fits es.size=true)(i:Nat)(h:H9) :
    Nx prog w es ep t S (.int ((0:Nat):Int) 0) (.int ((0:Nat):Int) 0) i ((pickOrder (w.params.setOrder S ep) es).toList.map (·.2))[i]? h:=by
  refine .inl ⟨_,_,rfl,rfl,fun A s Q E ho hq=>?_⟩;unfold setNext;refine A1 (T4 ho rfl hf ?_);dsimp only;unfold tU;refine A1 (A1 (U7 (A6 ?_)))
  show B6 _ _ (if w.params.followText "set-order" = true then _ else _) _ _ _
  rw[hb,if_pos rfl,if_neg (by simp)];unfold setWalk;refine A1 (A1 (T4 ho rfl hf ?_));dsimp only;unfold tU;refine A1 (A1 (U7 (A6 ?_)))
  show B6 _ _ (if w.params.followText "set-order" = true then _ else _) _ _ _
  rw[hb,if_pos rfl];refine A1 (U7 (A6 (A6 ?_)));rw[C6,Option.map_map,Array.getElem?_toList] at hq;exact hq
theorem cm{α β:Type}{f:α->Option β}:∀(ys:List α) (i:Nat),(∀y∈ys,(f y).isSome=true)->(ys.filterMap f)[i]?=(ys[i]?).bind f
 | [],_,_=>rfl
 | y::ys,i,h=>by
  obtain⟨z,hz⟩:=Q3.mp (h y B1);rw[List.filterMap_cons_some hz];cases i with
  | zero=>exact hz.symm
  | succ i=>exact cm ys i fun y hy=>h y (A9 _ hy)
theorem WY{Q:Value->A7->Prop}(ho:s.heap.get? S=some (Bj es ep t))(hf:t.fits es.size=true)(k:Tk (!w.params.followText "set-order") t)(hz:es.size < 1000)
    (h:∀(I:B3) (fp:List B3) (W:List Value) (St:Nat->A7->Prop) (s':A7),W.Perm (es.toList.map (·.2))->(∀A':I9,A'.handled=none->WalksS prog w A' I fp [I] (fun a b=>b=a) es.size (fun i v=>W[i]?=some v) St)->St 0 s' ->
      (∀b∈fp,b=S\/s.heap.objs.size<=b)->s.heap.objs.size<=I->(∀b o,s.heap.get? b=some o->s'.heap.get? b=some o)->s'.gens=s.gens->s'.os=s.os->s'.toks=s.toks->Q (.ref I) s') :
    B6 (D4 prog w) A (uX (.ref S)) Q E s:=by
  have hT:s.TypeIs (.ref S) "set" := ⟨_,ho,rfl⟩
  have xF:S < s.heap.objs.size:=C0 ho;refine uN hT F.slot_set_iter (G3 F.slot_set_iter hT IU ?_ (F.args_set_iter_1 _));unfold O8.«frozenset.__iter__»
  refine A1 (m:=vo "__iter__" _) (A6 ?_)
  unfold vg;refine A1 (A1 (l9 ho rfl hf (A6 ?_)));unfold setDrawn;refine A1 (A1 (T4 ho rfl hf ?_));dsimp only;unfold tU;refine A1 (A1 (U7 (A6 (A6 ?_))))
  show B6 _ _ (if(!w.params.followText "set-order" && (!t.plain && decide (es.size > 1)))=true then _ else _) _ _ _
  have mk:∀(f:Value) (s1:A7),s1.heap.get? S=some (Bj es ep t) ->
      Q (.ref s1.heap.objs.size) { s1 with heap:=s1.heap.push { cls:=.type "set_iterator", data:=.fields #[f,.int 0 0,.ref S,.int es.size 0,.int ep 0] } } ->
      B6 (D4 prog w) A.in1 (do ret (<- newFields "set_iterator" [f,N5 0,.ref S,N5 es.size,N5 (<- setEpoch S)])) (fun fin s'=>∃r,fin=.done (.ret r)/\∃T' r',s'.TypeIs r T'/\rH (.type T') "__next__" = pure (some r')/\Q r s') E s1:=fun f s1 ho1 hq=>by
    refine A1 (wpAny_setEpoch_of ho1 rfl hf ?_)
    exact A1 (K0 (A6 ⟨_,rfl, "set_iterator", _,⟨_,B2 _ rfl,rfl⟩,Eh.lookup,hq⟩))
  have at0:∀(f:Value) (h1:H9),jL (h1.push { cls:=.type "set_iterator", data:=.fields #[f,.int 0 0,.ref S,.int es.size 0,.int ep 0] }) h1.objs.size f 0 S es.size ep:=fun f h1=>B2 _ rfl
  have hSI:S≠s.heap.objs.size:=D1 xF;have fps:∀b∈[s.heap.objs.size,S],b=S\/s.heap.objs.size<=b:=fun b hb=>by
    rcases C8.mp hb with z | z
    · exact .inr (m5 z.symm)
    · exact .inl (D3.mp z)
  cases hb:w.params.followText "set-order" with
  | true =>
    rw[if_neg (by simp)];refine A1 (A6 ?_);refine mk _ _ ho (h s.heap.objs.size [s.heap.objs.size,S] _ _ _ ((Ki (w.params.setOrder S ep) es).map _) (fun A' hh=>LW hh (fun _=>.int ((0:Nat):Int) 0) _ (fun _=>True) [] hSI (fun z=>nomatch z) (fun _ _ _ _=>trivial) hf rfl (by rw[A8,(Ki _ es).length_eq];simp) fun i h _ _=>Zw hb hf i h) ⟨at0 _ _,A2 _ ho,trivial⟩ fps (B4 _) (fun b o e=>A2 _ e) rfl rfl rfl)
  | false =>
    cases hd:(!t.plain && decide (es.size > 1)) with
    | false =>
      rw[if_neg (by simp)];refine A1 (A6 ?_);refine mk _ _ ho (h s.heap.objs.size [s.heap.objs.size,S] _ _ _ (qX _) (fun A' hh=>LW hh (fun i=>.int ((if i=0 then 0 else t.place.getD (i - 1) 0+1:Nat):Int) 0) _ (fun _=>True) [] hSI (fun z=>nomatch z) (fun _ _ _ _=>trivial) hf rfl (by rw[A8];simp) fun i h hi _=>?_) ⟨at0 _ _,A2 _ ho,trivial⟩ fps (B4 _) (fun b o e=>A2 _ e) rfl rfl rfl);have:=Vz (prog:=prog) (S:=S) (ep:=ep) hb hf k hd i h hi;rw[if_neg (Nat.succ_ne_zero i)];exact this
    | true =>
      rw[if_pos (by simp)];refine A1 (Nm _ _ _ _ E2.symm fun ys d hp=>?_);unfold vX;have hyl:ys.length=es.size:=by rw[hp.length_eq];simp
      refine A1 (K0 ?_ (by
        show(vT _ ys).toArray.size<=_;rw[B0,A8,hyl,N6];omega))
      have ho1:(s.heap.push { cls:=.type "tuple", data:=.seq (ys.map fun(i:Nat)=>N5 i).toArray }).get? S=some (Bj es ep t):=A2 _ ho
      have zh:(s.heap.push { cls:=.type "tuple", data:=.seq (ys.map fun(i:Nat)=>N5 i).toArray }).objs.size=s.heap.objs.size+1:=J0 ..
      have zBO:∀y∈ys,y < es.size:=fun y hy=>C9.mp (hp.mem_iff.mp hy)
      have yT:(ys.filterMap fun i=>(es[i]?).map (·.2)).Perm (es.toList.map (·.2)):=by
        refine(hp.filterMap _).trans ?_;rw[<- filterMap_getElem?_range,List.map_filterMap]
      have hat:=fun i=>cm (f:=fun i=>(es[i]?).map (·.2)) ys i fun y hy=>by rw[L7 (zBO y hy)];rfl
      refine mk _ _ ho1 (h _ [_,S,s.heap.objs.size] _ _ _ yT (fun A' hh=>LW hh (fun _=>.ref s.heap.objs.size) _ (fun h=>h.IsTuple s.heap.objs.size (ys.map fun(i:Nat)=>N5 i).toArray) [s.heap.objs.size] (by rw[zh];exact D1 (O3 xF)) (by rw[zh];exact fun z=>g7 _ (D3.mp z)) (fun h h' q hk=>q.at fun o e=>hk _ (N9 _) o e) hf rfl (by rw[yT.length_eq];simp) fun i h hi q=>.inr ⟨_,_,rfl,rfl,q,?_⟩) ⟨at0 _ _,A2 _ ho1,⟨_,A2 _ (B2 _ rfl),rfl,_,rfl⟩⟩ (fun b hb=>?_) (by rw[zh];exact O6 _) (fun b o e=>A2 _ (A2 _ e)) rfl rfl rfl)
      · rw[hat];cases q2:ys[i]? with
        | none=>exact .inl ⟨rfl,by simp[q2]⟩
        | some y =>
          have hy:=zBO y (N8 q2);refine .inr ⟨y,es[y].1,es[y].2,?_,by simp[q2,N5],by rw[L7 hy]⟩;rw[A0,L7 hy];rfl
      · rw[zh] at hb;simp only[C8,K7,or_false] at hb;rcases hb with z | z | z
        · exact .inr (by rw[z];exact O6 _)
        · exact .inl z
        · exact .inr (m5 z.symm)
end
section
variable {prog:F0} {w:J7} {A:I9} {E:Value->A7->Prop} {s:A7} {S:B3} {ns:List Int}
theorem RQ:∀{vs:List Value},(∀v∈vs,∃i t,v=qt i t)->Y0 vs (vs.map iv)
 | [],_=>.nil
 | v::vs,h=>by
  obtain⟨i,t,rfl⟩:=h v B1;exact .cons i t (RQ fun x hx=>h x (A9 _ hx))
theorem Pl{W:List Value}{acc:Array Value}(h:ItemsOf (fun i v=>W[i]?=some v) acc W.length):acc.toList=W:=by
 apply qh;intro i
 by_cases c:i < W.length
 ·have c1:i < acc.size:=by rw[h.1];exact c
  have c2:acc[i]?=some acc[i]:=L7 c1;rw[h.2 i _ c2,<- c2];simp
 ·rw[M4 (W9 c),M4 (by have:=h.1;simpa[this] using c)]
theorem OC{Q:List Value->A7->Prop}(hh:A.handled=none)(hS:SQ prog w s.heap S ns)(hz:ns.length < 1000)
    (hQ:∀s' vs ks,Y0 vs ks->ks.Perm ns->(∀b o,s.heap.get? b=some o->s'.heap.get? b=some o)->s'.gens=s.gens->s'.os=s.os->s.heap.objs.size < s'.heap.objs.size->Q vs s'):B6 (D4 prog w) A (v8 (.ref S)) Q E s:=by
  obtain⟨es,ep,t,ho,hf,hk,hel,hp⟩:=hS;have hsz:=Hn hp;have xF:S < s.heap.objs.size:=C0 ho;have hSI:s.heap.objs.size≠S:=Q9 xF;unfold v8;refine A1 (p7 (M0 F.entry_proto_collect ?_));rw[L6 F.plain_proto_collect _];refine A1 (m:=v9 []) (K0 ?_);refine A6 ⟨T8 F.plain_list_iadd _,M0 F.entry_list_iadd ?_⟩;rw[L6 F.plain_list_iadd _]
  generalize hO:({ cls:=.type "list", data:=.seq ([]:List Value).toArray }:Obj)=O
  have ho1:(s.heap.push O).get? S=some (Bj es ep t):=A2 _ ho;have hL1:(s.heap.push O).get? s.heap.objs.size=some O:=B2 _ (by rw[<- hO];rfl)
  have hT1:qr { s with heap:=s.heap.push O } (.ref S) "set" := ⟨_,ho1,rfl⟩
  show B6 _ A.in1 (G6 (.ref s.heap.objs.size) (.ref S) (.ref s.heap.objs.size)) _ _ _;unfold G6;refine A1 (R1 hT1 ?_);have h1:N3 (.ref s.heap.objs.size) (.ref S)=false:=by simp[N3,hSI]
  rw[if_neg (by rw[h1];decide)];refine A1 (WY (s:={ s with heap:=s.heap.push O }) ho1 hf hk (by rw[hsz];exact hz) fun I fp W St s2 hW Wk yL hfp hI zAr hg hos htk=>?_);have hsp:(s.heap.push O).objs.size=s.heap.objs.size+1:=J0 ..;have hLf:s.heap.objs.size∉fp:=fun hm=>by
    rcases hfp _ hm with z | z
    · exact hSI z
    · rw[hsp] at z;exact absurd z (Nat.not_succ_le_self _)
  have ho2:s2.heap.get? S=some (Bj es ep t):=zAr _ _ ho1;have hL2:s2.heap.get? s.heap.objs.size=some O:=zAr _ _ hL1
  have hT2:s2.TypeIs (.ref S) "set" := ⟨_,ho2,rfl⟩
  refine A1 (G9 ?_);unfold m9;refine A1 (O5 hT2 F.slot_set_len.lookup ?_)
  (generalize hid:("set.__len__" : String)=id0;wp_delta;rw[show splitId id0=some ("set", "__len__") from by subst hid;decide +kernel];subst hid)
  refine A1 (R4 (b:=true) hT2 sub_set_self ?_);rw[if_neg (by decide),if_pos (by decide +kernel)];refine A1 (R1 hT2 (A6 ?_));rw[if_pos (by decide)];refine A1 (R7 ?_);subst hO;refine A1 ?_;show B6 _ A.in1 (e9 s.heap.objs.size (·.push .none) >>= fun _=>e9 s.heap.objs.size (·.pop)) _ _ _;refine A1 (Q7 hL2 rfl ?_);have hL3:=G5 (E6 (·.push N4)) hL2 rfl;refine Q7 hL3 rfl ?_;have hL4:=G5 (E6 (·.pop)) hL3 rfl;have oth:∀b o,b≠s.heap.objs.size->s2.heap.get? b=some o->((s2.heap.update s.heap.objs.size (E6 (·.push N4))).update s.heap.objs.size (E6 (·.pop))).get? b=some o:=
    fun b o hb e=>(J6 _ _ (Ne.symm hb)).trans ((J6 _ _ (Ne.symm hb)).trans e)
  have WA:=Wk A.in1 hh;refine A6 ⟨T8 F.plain_extend_loop _,codeAny_extend_loopS WA (by rw[N6];omega) _ hLf _ es.size 0 _ _ _ rfl (J8 _) (WA.frame 0 s2 _ s2.toks yL (B4 _) fun b hb o e=>oth b o (fun z=>hLf (z▸hb)) e) hL4 (ItemsOf.nil _) fun s' zEA c' hm hS' zw=>?_⟩;refine A1 (vL hS' ?_);have hWl:W.length=es.size:=by rw[hW.length_eq];simp
  rw[<- hWl] at zw;have e:=Pl zw;refine A6 ?_;show Q zEA.toList s';rw[e];refine hQ s' W (W.map iv) (RQ fun v hv=>?_) ?_ (fun b o q=>?_) (hm.gens.trans hg) (hm.os.trans hos) (C0 hS')
  · obtain⟨x,hx,rfl⟩:=H8.mp (hW.mem_iff.mp hv);obtain⟨⟨k',hk',_⟩,_⟩:=hel x hx;exact⟨k',(Wa hk').2⟩
  · refine(hW.map iv).trans ?_;rw[L1];exact hp
  · have hb:b < s.heap.objs.size:=C0 q;refine hm.heap b o ?_ (oth b o (D1 hb) (zAr b o (A2 _ q)));simp only[C8,K7,or_false,not_or];refine⟨D1 hb,fun z=>?_⟩;subst z;rw[hsp] at hI;exact absurd (C7 (O3 hb) hI) (P9 _)
theorem Ow{Q:Value->A7->Prop}(hh:A.handled=none)(hS:SQ prog w s.heap S ns)(hz:ns.length < 64)
    (h:∀(s':A7) (L:B3) (out:Array Value) (c:Nat) (xj:List Int),Y0 out.toList xj->xj.Perm ns->xj.Pairwise (·<=·)->(∀b o,s.heap.get? b=some o->s'.heap.get? b=some o)->s.heap.objs.size<=L->s'.heap.get? L=some { cls:=.type "list", dict:=none,data:=.seq out c,slots:=#[] }->s'.gens=s.gens->s'.os=s.os->Q (.ref L) s') :
    B6 (D4 prog w) A (call (.builtin "sorted") [.ref S]) Q E s:=by
  refine qd kind_sorted plain_sorted entry_sorted (args_sorted1 _) ?_;unfold O8.«sorted»
  refine A1 (m:=checkCount "sorted" 1 1 _) (A6 ?_)
  refine A1 (OC hh hS (V3 hz (by decide)) fun s1 vs ks hI hp hk hg hos xF=>?_);have hlen:vs.length=ns.length:=by rw[<- hp.length_eq];exact hI.length
  refine A1 (sj ?_)
  have hoL:(s1.heap.push (U4 "list" vs.toArray 0)).get? s1.heap.objs.size=some (U4 "list" vs.toArray 0):=B2 _ rfl
  refine A1 (G9 (G3 slot_list_sort ⟨_,hoL,rfl⟩ u9 (list_sort_tree (s:={ s1 with heap:=s1.heap.push (U4 "list" vs.toArray 0) }) hoL hI (by rw[hlen];exact hz) fun out xj a1 a2 a3=>⟨_,rfl,?_⟩) (args_list_sort _)))
  refine A6 ⟨_,rfl,?_⟩;have h1:=Y1 hoL (fun _=>#[])
  have h2:=Y1 (A2 (U4 "list" #[] 0) (A2 (U4 "tuple" vs.toArray 0) h1)) (fun _=>out)
  refine h _ s1.heap.objs.size out _ xj a1 (a2.trans hp) a3 (fun b o e=>?_) (Q8 xF) h2 hg hos;have e1:=hk b o e;have n0:b≠s1.heap.objs.size:=D1 (C0 e1);unfold vW;refine(T9 _ _ _ _ n0).trans (A2 _ (A2 _ ?_));exact(T9 _ _ _ _ n0).trans (A2 _ e1)
end
theorem FU(ns:List Int):∀n,n<=ns.length->sO (fun i=>ns.getD i 0) n=(ns.take n).foldl V5 []
 | 0,_=>by rw[firstMet_zero,List.take_zero];rfl
 | n+1,h=>by
  rw[firstMet_succ,FU ns n (by omega),List.take_succ,A4 (by omega),List.foldl_append];show V5 _ (ns.getD n 0)=_;rw[B7,A4 (by omega)];rfl
def kO(K:W.Frag):V->Hp->VK->Prop:=fun v H Q=>∃(p:B3) (ns:List Int),v=.ref p/\(Cy K H p (ns.map V.int)\/De K H p (ns.map V.int))/\ns.length < 64/\∀(l:B3) (xj:List Int),H l=none->xj.Perm (ns.foldl V5 [])->xj.Pairwise (·<=·)->Q (.ref l) (upd H l (.lst (xj.map V.int)))
section
variable {X:Cx} {p1 p2 yJ wq:Pos} {e:Expr} {te:TE}
theorem YK:O0 "sorted" = some (.builtin "sorted"):=by decide +kernel
theorem PU(hc:X.calm=true)(hgL:Gl X "sorted")(hmL:X.mg "sorted" = none)(hgR:Gl X "set")(hmR:X.mg "set" = none)(he:PE X e te)
    (zh:D2 [.Call (.Name "set" p2) [e] [] wq] X.env=(false,M8 (.Call (.Name "set" p2) [e] [] wq) X.env)::D2 [] X.env)
    (zAp:(M6 yJ (D2 [] X.env)).any (·.1)=false)
    (z8:D2 [e] X.env=(false,M8 e X.env)::D2 [] X.env) (zAo:(M6 wq (D2 [] X.env)).any (·.1)=false) :
    PE X (.Call (.Name "sorted" p1) [.Call (.Name "set" p2) [e] [] wq] [] yJ) (fun σ H Q=>te σ H fun v H1=>kO X.K v H1 Q):=by
  intro pins s σ H Q I h;have ha:=DC he PX z8;refine K3 (CH I hgL hmL YK ?_ (by decide) (by decide));refine a9 ?_ zh zAp;rw[zh]
  show B6 _ _ (sU ((false,M8 (.Call (.Name "set" p2) [e] [] wq) X.env)::M6 yJ (D2 [] X.env))) _ _ s
  refine V2 ?_;refine K3 (CH I hgR hmR PyProof.Rows.Boot.«set» ?_ (by decide) (by decide));refine G1 (Aw (ha wq pins s σ H (fun vs H1=>match vs with | [v]=>kO X.K v H1 Q | _=>False) I h) fun us s1 ⟨vs,H1,I1,r1,q1⟩=>?_) z8 zAo
  match vs,q1 with
  | [v],q1 =>
  cases r1 with
  | cons r rr =>
  cases rr;obtain⟨p,ns,rfl,hq,hl,q⟩:=q1;cases r
  have go:∀its:List Value,AF (ns.map V.int) its->(s1.heap.IsList p its.toArray\/s1.heap.IsTuple p its.toArray)->B6 (D4 X.prog X.w) X.A (call (.type "set") [.ref p]) (fun v wa=>B6 (D4 X.prog X.w) X.A (sU (M6 yJ (D2 [] X.env))) (fun vs xv=>B6 (D4 X.prog X.w) X.A (call (.builtin "sorted") (v::vs)) (EP X pins σ Q) X.xe xv) X.xe wa) X.xe s1:=fun its vr sa=>by
    have len:its.length=ns.length:=by have:=vr.length;rw[A8] at this;exact this.symm
    have hI:=Hw vr;refine au (val:=fun i=>ns.getD i 0) (I1.ok.hd hc) sa (fun i v hv=>hI.int_at i v (by simpa using hv)) (by rw[B0,len];omega) fun h' tk hS xF hk=>S9 ?_
    have hsz:its.toArray.size=ns.length:=by rw[B0,len]
    rw[hsz,FU ns _ (B4 _),rE] at hS;have hle:(ns.foldl V5 []).length<=ns.length:=by rw[<- rE (l:=ns),<- FU ns _ (B4 _),rE];exact tQ _ _
    have I2:Inv X pins σ H1 { s1 with heap:=h',toks:=tk }:=I1.kept fun b o e=>hk b o (C0 e) e
    refine Ow (s:={ s1 with heap:=h',toks:=tk }) (I1.ok.hd hc) hS (by omega) fun s' L out c xj a1 a2 a3 a4 a5 a6 a7 a8=>?_
    have v:=Ls a1;have e':out=out.toList.toArray:=by simp
    obtain⟨h3,g3,d3,t3,o3⟩:=s';simp only at a4 a6 a7 a8;subst a7;subst a8;have hLn:H1 L=none:=I2.wj.fresh a5;have J:=I2.laid (t':=t3) a4 a5 (show Ab X.prog X.w _ _ _ (.lst (xj.map V.int)) from⟨by rw[A8,a2.length_eq,N6];omega,out.toList,c,v,by rw[<- e'];exact a6⟩);exact⟨.ref L,upd H1 L (.lst (xj.map V.int)),⟨J.ok,J.os,J.bare,J.base,J.loc,J.cell,J.free,J.xQ,J.pin,J.wj,J.len⟩,rfl,q _ xj hLn a2 a3⟩
  rcases hq with hq | hq
  · obtain⟨its,r',pl,hz⟩:=I1.list hq;exact go its r' (.inl pl.isList)
  · obtain⟨its,r',pl,hz⟩:=I1.tuple hq;exact go its r' (.inr pl)
end
abbrev bh(h:H9)(e it:B3)(i:Int)(c:Value)(f:Bool)(old:Value):Prop:=
 h.get? e=some { cls:=.type "enumerate", dict:=none,data:=.fields #[c,.bool f,.ref it,N5 i,.none,old],slots:=#[] }
def bg(h:H9)(e it:B3)(i:Nat):Prop:=
 (∃old,bh h e it i .none false old)\/∃(a:B3) (f:Bool) (old:Value) (oa:Obj),bh h e it i (N5 a) f old/\h.get? a=some oa/\oa.cls=.type "tuple" /\ a≠e/\a≠it
theorem bg.rec{e it:B3}{i:Nat}(x:bg h e it i):∃c f old,bh h e it i c f old:=by
 rcases x with⟨o,x⟩ | ⟨a,f,o,oa,x,_⟩
 ·exact⟨_,_,_,x⟩
 ·exact⟨_,_,_,x⟩
theorem bg.at{h':H9}{e it:B3}{i:Nat}(x:bg h e it i)(k:∀b o,h.get? b=some o->b=e\/o.cls=.type "tuple" -> h'.get? b=some o):bg h' e it i:=by
 rcases x with⟨o,x⟩ | ⟨a,f,o,oa,x,y,c,z⟩
 ·exact .inl ⟨o,k _ _ x (.inl rfl)⟩
 ·exact .inr ⟨a,f,o,oa,k _ _ x (.inl rfl),k _ _ y (.inr c),c,z⟩
section
variable {prog:F0} {w:J7} {A:I9} {E:Value->A7->Prop} {s:A7} {e it:B3} {fp:List B3} {n i:Nat} {P:Nat->Value->Prop} {St:Nat->H9->Prop} {Q:Option Value->A7->Prop}
theorem ab(D:Draws prog w A.in1 it fp n P St)(he:bg s.heap e it i)(yL:St i s.heap)(xF:i < n)(yd:e≠it)(hef:e∉fp)
    (hQ:∀x h' tk,P i x->bg h' e it (i+1)->St (i+1) h'->h'.get? s.heap.objs.size=some { cls:=.type "tuple", data:=.seq #[.int i tk,x] }->h'.objs.size=s.heap.objs.size+1 ->
      (∀b o,b≠e->b≠it->s.heap.get? b=some o->h'.get? b=some o)->Q (some (.ref s.heap.objs.size)) { s with heap:=h',toks:=tk+1 }) :
    B6 (D4 prog w) A (V1 (.ref e)) Q E s:=by
  rcases he with⟨old,he⟩ | ⟨a,f,old,oa,he,hoa,hoc,hae,hai⟩
  · have hel:e < s.heap.objs.size:=C0 he;have hil:it < s.heap.objs.size:=by obtain⟨_,y⟩:=D.live _ _ yL;exact C0 y
    exact rC D he yL xF yd hef fun x h' tk a b c d k q=>hQ x h' tk a (.inr ⟨_,false,x,_,b,d,rfl,Q9 hel,Q9 hil⟩) c d k q
  · have hT:s.TypeIs (.ref e) "enumerate" := ⟨_,he,rfl⟩
    unfold V1
    refine A1 (X5 (J4 (name:=R0 "__next__") hT F.slot_enumerate_next
      (G3 F.slot_enumerate_next hT F.entry_enumerate_next ?_ (F.args_enumerate_next_1 _))))
    obtain⟨hp,g,d,zEF,os⟩:=s;show B6 _ _ (sJ (.ref e) 2 >>= _) _ _ _;refine A1 (K4 he rfl (x:=.ref it) rfl ?_);refine A1 (D.item i _ _ _ xF yL fun x h₁ tk hPx yN xA=>?_);replace xA:K9 it hp h₁:=xA;have zAV:bh h₁ e it i (N5 a) f old:=(xA.2 e yd).trans he;have zEH:h₁.get? a=some oa:=(xA.2 a hai).trans hoa;show B6 _ _ (sJ (.ref e) 3 >>= _) _ _ ⟨h₁,g,d,tk,os⟩;refine A1 (K4 zAV rfl (x:=N5 i) rfl ?_);show B6 _ _ (sJ (.ref e) 4 >>= _) _ _ ⟨h₁,g,d,tk,os⟩;refine A1 (K4 zAV rfl (x:=.none) rfl ?_);show B6 _ _ (mkInt i >>= _) _ _ ⟨h₁,g,d,tk,os⟩;refine A1 (wpAny_mkInt ?_);show B6 _ _ (setField (.ref e) 3 (N5 ((i:Int)+1)) >>= _) _ _ ⟨h₁,g,d,tk+1,os⟩;refine A1 (M9 zAV (by simp) fun xZ zF xK=>?_);replace xK:K9 e h₁ xZ:=xK;replace zF:bh xZ e it ((i:Int)+1) (N5 a) f old:=zF;show B6 _ _ (setField (.ref e) 4 .none >>= _) _ _ ⟨xZ,g,d,tk+1,os⟩;refine A1 (M9 zF (by simp) fun xn zAU xT=>?_);replace xT:K9 e xZ xn:=xT;replace zAU:bh xn e it ((i:Int)+1) (N5 a) f old:=zAU;show B6 _ _ (vX [.int i tk,x] >>= _) _ _ ⟨xn,g,d,tk+1,os⟩;refine A1 (wpAny_newTuple ?_)
    have zu:bh (xn.push { cls:=.type "tuple", data:=.seq #[.int i tk,x] }) e it ((i:Int)+1) (N5 a) f old:=A2 _ zAU
    generalize zq:xn.push { cls:=.type "tuple", data:=.seq #[.int i tk,x] }=yW at zu
    have hsz:xn.objs.size=hp.objs.size:=by rw[xT.1,xK.1,xA.1]
    have hel:e < hp.objs.size:=C0 he
    have zCh:yW.get? hp.objs.size=some { cls:=.type "tuple", data:=.seq #[.int i tk,x] }:=by rw[<- zq,<- hsz];exact B2 _ rfl
    have zCg:yW.objs.size=hp.objs.size+1:=by rw[<- zq,J0,hsz]
    have zBX:∀b o,b≠e->b≠it->hp.get? b=some o->yW.get? b=some o:=fun b o yr hbi hb=>by
      rw[<- zq];exact A2 _ (xT.extBut b o yr (xK.extBut b o yr (xA.extBut b o hbi hb)))
    have zCC:St (i+1) yW:=D.frame _ _ _ yN fun b hb o y=>by
      have yr:b≠e:=fun q=>hef (q▸hb)
      rw[<- zq];exact A2 _ (xT.extBut b o yr (xK.extBut b o yr y))
    show B6 _ _ (J9 (.ref e) >>= _) _ _ ⟨yW,g,d,tk+1,os⟩;rw[hsz];clear zq zAU xT zF xK zAV xA yN hsz xn xZ;have zBZ:yW.get? a=some oa:=zBX a oa hae hai hoa;refine A1 ?_;unfold J9;refine A1 (K4 zu rfl (x:=N5 a) rfl ?_);show B6 _ _ (loadIfAlive ((a:Int).toNat) >>= _) _ _ _;rw[K1];refine A1 (W.kdx_alive zBZ ?_);simp only[Option.isNone_some,D6,if_false];refine A1 (K4 zu rfl (x:=.bool f) rfl ?_);have fin:∀yV:H9,bh yV e it ((i:Int)+1) (N5 a) true old->K9 e yW yV->Q (some (.ref hp.objs.size)) ⟨yV,g,d,tk+1,os⟩:=fun yV zt xw =>
      hQ x yV tk hPx (.inr ⟨a,true,old,oa,zt,xw.extBut _ _ hae zBZ,hoc,hae,hai⟩) (D.frame _ _ _ zCC fun b hb o y=>xw.extBut b o (fun q=>hef (q▸hb)) y)
        (xw.extBut _ _ (Q9 hel) zCh) (by show yV.objs.size=hp.objs.size+1;rw[xw.1,zCg]) fun b o yr hbi y=>xw.extBut b o yr (zBX b o yr hbi y)
    cases f with
    | true =>
      rw[if_neg (show ¬((Y4 true != Y4 true)=true) from B9)];refine A6 ?_;simp only[D6,if_false];exact A6 (⟨_,rfl,A6 (fin yW zu (qi _ _))⟩)
    | false =>
      rw[if_pos (show(Y4 false != Y4 true)=true from rfl)];refine A1 (M9 zu (by simp) fun yV zt xw=>?_);replace xw:K9 e yW yV:=xw;replace zt:bh yV e it ((i:Int)+1) (N5 a) true old:=zt;refine A6 ?_;simp only[D6,if_false];exact A6 (⟨_,rfl,A6 (fin yV zt xw)⟩)
theorem iK(D:Draws prog w A.in1 it fp n P St)(he:bg s.heap e it i)(yL:St n s.heap)
    (hQ:∀h',j6 it s.heap h'->Q none { s with heap:=h' }):B6 (D4 prog w) A (V1 (.ref e)) Q E s:=by
  obtain⟨c,f,old,he⟩:=he.rec
  have hT:s.TypeIs (.ref e) "enumerate" := ⟨_,he,rfl⟩
  unfold V1
  refine A1 (X5 (J4 (name:=R0 "__next__") hT F.slot_enumerate_next
    (G3 F.slot_enumerate_next hT F.entry_enumerate_next ?_ (F.args_enumerate_next_1 _))))
  show B6 _ _ (sJ (.ref e) 2 >>= _) _ _ _;refine A1 (K4 he rfl (x:=.ref it) rfl ?_);refine A1 (D.done _ _ _ yL fun h' x he' zX=>?_);obtain⟨o,ho,hc⟩:=zX
  refine A1 (R4 (T := "StopIteration") (b:=true) ⟨o,ho,hc⟩ sN ?_)
  exact A6 (hQ _ he')
end
theorem Tc:rH (.type "enumerate") "__len__" = pure none:=by rw[k8,W0];kernel_rfl
theorem QE:rH (.type "enumerate") "__length_hint__" = pure none:=by rw[k8,W0];kernel_rfl
def jP(H0 H:Hp)(S:B3)(xs:List V)(ps:List B3):Prop:=
 (∀c u,H0 c=some u->H c=some u)/\H S=some (.lst (ps.map V.ref))/\∀(j:Nat) p,ps[j]?=some p->p≠S/\∃y,xs[j]?=some y/\H p=some (.tup [.int j,y])
theorem jP.more{H0 H:Hp}{S p:B3}{xs:List V}{ps:List B3}{y:V}(x:jP H0 H S xs ps)(h0:H0 S=none)(hp:H p=none)(hy:xs[ps.length]?=some y) :
    jP H0 (upd (upd H p (.tup [.int ps.length,y])) S (.lst ((ps++[p]).map V.ref))) S xs (ps++[p]):=by
  obtain⟨a,b,c⟩:=x;have hpS:p≠S:=fun z=>by rw[z,b] at hp;cases hp
  refine⟨fun q u e=>?_,AM,fun j q e=>?_⟩
  · have h1:q≠S:=fun z=>by rw[z,h0] at e;cases e
    have h2:q≠p:=fun z=>by have:=a q u e;rw[z,hp] at this;cases this
    rw[AE h1,AE h2];exact a q u e
  · rcases uP j ps.length with l | l
    · rw[K5 l] at e;obtain⟨c1,y',c2,c3⟩:=c j q e;have h2:q≠p:=fun z=>by rw[z,hp] at c3;cases c3
      exact⟨c1,y',c2,by rw[AE c1,AE h2];exact c3⟩
    · rw[W5 l] at e;have hj:j=ps.length:=by
        have:=(B5.mp e).1;simp at this;omega
      subst hj;simp at e;subst e;exact⟨hpS,y,hy,by rw[AE hpS,AM]⟩
section
variable {X:Cx} {A:I9} {R:uY->A7->Prop} {pins:List (B3×Obj)} {σ:St} {H0:Hp} {a e it S:B3} {b:Bool} {xs:List V} {its:List Value} {res:Value}
theorem aL(hh:A.handled=none)(yd:e≠it)(hae:a≠e)(hai:a≠it)(haS:a≠S)(hSe:S≠e)(hSi:S≠it)(h0:H0 S=none)(rv:AF xs its)(hz:xs.length<=sizeLine) :
    ∀(k:Nat) (s:A7) (H:Hp) (ps:List B3),xs.length - ps.length=k->ps.length<=xs.length->Inv X pins σ H s->(∀c∈[e,it],wc X pins H c)->jP H0 H S xs ps->bg s.heap e it ps.length->Hk s.heap it a ps.length b->Hl s.heap a its.toArray b ->
    (∀s' H' wk,Inv X pins σ H' s'->jP H0 H' S xs wk->wk.length=xs.length->R (.ok (.ret res)) s') ->
    W8 (D4 X.prog X.w) A (.builtin "list.extend.loop" ⟨[.ref S,.ref e,res],[]⟩) R s:=by
  have hl:=rv.length;intro k
  induction k with
  | zero =>
    intro s H ps hk hi I hf x hE hI hA hR;refine M0 F.entry_extend_loop ?_;rw[L6 F.plain_extend_loop _];show B6 _ A.in1 (V1 (.ref e) >>= _) _ _ s;refine A1 (iK (Draws.sq (A:=A.in1.in1) hh it a hai its.toArray b) hE (by rw[B0,<- hl,show xs.length=ps.length from by omega];exact⟨hI,hA⟩) fun h' eb=>A6 ?_);obtain⟨f0,f1,f2,f3,f4,f5⟩:=hf it (by simp);exact hR _ H ps (I.turned (t':=s.toks) (fun b o hb e=>eb b o hb e) f0 f1 f3 f4 f5) x (by omega)
  | succ k ih =>
    intro s H ps hk hi I hf x hE hI hA hR;have xF:ps.length < xs.length:=by omega
    obtain⟨y,hy⟩:∃y,xs[ps.length]?=some y:=⟨_,A4 xF⟩;obtain⟨u,hu,ru⟩:=rv.get hy;refine M0 F.entry_extend_loop ?_;rw[L6 F.plain_extend_loop _];show B6 _ A.in1 (V1 (.ref e) >>= _) _ _ s;refine A1 (ab (Draws.sq (A:=A.in1.in1) hh it a hai its.toArray b) hE ⟨hI,hA⟩ (by rw[B0];omega) yd (by simp[yd,hae.symm]) fun x' h1 tk e1 o1 i1 t1 z1 k1=>?_);have ex:x'=u:=by
      have e1:its.toArray[ps.length]?=some x':=e1;rw[rk,hu] at e1;exact(D5 e1).symm
    subst ex;have hel:e < s.heap.objs.size:=by obtain⟨_,_,_,q⟩:=hE.rec;exact C0 q
    have hil:it < s.heap.objs.size:=by obtain⟨o,q,_⟩:=hI.obj;exact C0 q
    have yw:=I.wj.fresh (B4 s.heap.objs.size)
    have I1:Inv X pins σ (upd H s.heap.objs.size (.tup [.int ps.length,y])) { s with heap:=s.heap.push { cls:=.type "tuple", data:=.seq #[.int ps.length tk,x'] },toks:=tk+1 }:=
      I.laid (fun b o q=>A2 _ q) (B4 _) (show Ab X.prog X.w _ _ _ (.tup [.int ps.length,y]) from⟨by show 2<=sizeLine;decide,[.int ps.length tk,x'],.cons ⟨_,rfl⟩ (.cons ru .nil),HP.new _ _⟩)
    have zQ:∀b∈[e,it],wc X pins (upd H s.heap.objs.size (.tup [.int ps.length,y])) b:=fun b hb=>by
      obtain⟨f0,r⟩:=hf b hb;refine⟨?_,r⟩;have hbl:b≠s.heap.objs.size:=by
        rcases C8.mp hb with z | z
        · rw[z];exact D1 hel
        · rw[D3.mp z];exact D1 hil
      rw[AE hbl];exact f0
    have I2:Inv X pins σ (upd H s.heap.objs.size (.tup [.int ps.length,y])) { s with heap:=h1,toks:=tk+1 }:=by
      refine Inv.yZ (s:={ s with heap:=s.heap.push { cls:=.type "tuple", data:=.seq #[.int ps.length tk,x'] },toks:=tk+1 }) (h':=h1) (t':=tk+1) (ch:=[e,it]) I1 (fun b o hb q=>?_) zQ
      have q:(s.heap.push { cls:=.type "tuple", data:=.seq #[.int ps.length tk,x'] }).get? b=some o:=q
      have yr:b≠e:=fun z=>hb (by simp[z])
      have hbi:b≠it:=fun z=>hb (by simp[z])
      by_cases hbs:b=s.heap.objs.size
      · subst hbs;rw[B2 _ rfl] at q;rw[<- q];exact t1
      · refine k1 b o yr hbi ?_;rw[qj _ _ _ hbs] at q;exact q
    have hSp:S≠s.heap.objs.size:=fun z=>by have:=x.2.1;rw[z,yw] at this;cases this
    have hS2:upd H s.heap.objs.size (.tup [.int ps.length,y]) S=some (.lst (ps.map V.ref)):=by rw[AE hSp];exact x.2.1
    obtain⟨hz2,wg,c2,rv2,g2⟩:=I2.wj S _ hS2;have xy:wg.length=ps.length:=by rw[<- rv2.length,A8]
    have g2':h1.get? S=some { cls:=.type "list", dict:=none,data:=.seq wg.toArray c2,slots:=#[] }:=g2
    show B6 _ A.in1 (e9 S (·.push (.ref s.heap.objs.size)) >>= _) _ _ _;refine A1 (Q7 g2' rfl (A6 ⟨T8 F.plain_extend_loop _,?_⟩) (by rw[B0];omega) (by show(wg.toArray.push _).size<=sizeLine+1;rw[Array.size_push,B0];omega));have g3:=G5 (E6 (·.push (F7 s.heap.objs.size))) g2' rfl;have oth:∀c o,c≠S->h1.get? c=some o->(h1.update S (E6 (·.push (F7 s.heap.objs.size)))).get? c=some o:=fun c o hc q=>(J6 _ _ (Ne.symm hc)).trans q
    obtain⟨c3,g4⟩:∃c3,(h1.update S (E6 (·.push (F7 s.heap.objs.size)))).get? S=some { cls:=.type "list", data:=.seq (wg++[F7 s.heap.objs.size]).toArray c3 }:=⟨_,g3.trans (by rw[<- List.push_toArray];rfl)⟩
    have I3:Inv X pins σ (upd (upd H s.heap.objs.size (.tup [.int ps.length,y])) S (.lst ((ps++[s.heap.objs.size]).map V.ref))) { s with heap:=h1.update S (E6 (·.push (F7 s.heap.objs.size))),toks:=tk+1 }:=
      I2.write (t':=tk+1) (by rw[hS2];trivial) (.inl rfl) oth ⟨_,g3⟩ (show Ab X.prog X.w _ _ S (.lst _) from⟨by rw[A8,D0];show ps.length+1<=sizeLine;omega,wg++[.ref s.heap.objs.size],c3,by rw[N0];exact AF.append rv2 (.cons rfl .nil),g4⟩)
    refine ih _ _ (ps++[s.heap.objs.size]) (by rw[D0,E4];omega) (by rw[D0,E4];omega) I3 (fun c hc=>?_) (x.more h0 yw hy) ?_ ?_ ?_ hR
    · obtain⟨f0,r⟩:=zQ c hc;refine⟨?_,r⟩;have:c≠S:=by
        rcases C8.mp hc with z | z
        · rw[z];exact hSe.symm
        · rw[D3.mp z];exact hSi.symm
      rw[AE this];exact f0
    · rw[D0,E4];refine o1.at fun c o q w=>oth c o (fun z=>?_) q
      rcases w with w | w
      · exact hSe (z.symm.trans w)
      · rw[z,g2'] at q;cases q
        exact absurd (show G2 "list" = G2 "tuple" from w) (by decide)
    · rw[D0,E4];exact i1.1.at fun o q=>oth it o hSi.symm q
    · exact i1.2.at fun o q=>oth a o haS q
end
def oA(K:W.Frag):V->Hp->VK->Prop:=fun v H Q=>∃(a:B3) (xs:List V) (b:Bool),v=.ref a/\Jt K H a xs b/\xs.length<=sizeLine/\∀(l:B3) (ps:List B3) (H':Hp),H l=none->jP H H' l xs ps->ps.length=xs.length->Q (.ref l) H'
section
variable {X:Cx} {p1 p2 yJ wq:Pos} {e:Expr} {te:TE}
theorem NF(hc:X.calm=true)(hgL:Gl X "list")(hmL:X.mg "list" = none)(hgR:Gl X "enumerate")(hmR:X.mg "enumerate" = none)(he:PE X e te)
    (zh:D2 [.Call (.Name "enumerate" p2) [e] [] wq] X.env=(false,M8 (.Call (.Name "enumerate" p2) [e] [] wq) X.env)::D2 [] X.env)
    (zAp:(M6 yJ (D2 [] X.env)).any (·.1)=false)
    (z8:D2 [e] X.env=(false,M8 e X.env)::D2 [] X.env) (zAo:(M6 wq (D2 [] X.env)).any (·.1)=false) :
    PE X (.Call (.Name "list" p1) [.Call (.Name "enumerate" p2) [e] [] wq] [] yJ) (fun σ H Q=>te σ H fun v H1=>oA X.K v H1 Q):=by
  intro pins s σ H Q I h;refine K3 (CH I hgL hmL PyProof.Rows.Boot.«list» ?_ (by decide) (by decide));refine G1 ?_ zh zAp;rw[zh]
  show B6 _ _ (sU ((false,M8 (.Call (.Name "enumerate" p2) [e] [] wq) X.env)::M6 yJ (D2 [] X.env))) _ _ s
  refine V2 ?_;refine K3 (CH I hgR hmR PyProof.Rows.Boot.«enumerate» ?_ (by decide) (by decide));refine G1 ?_ z8 zAo;rw[z8];show B6 _ _ (sU ((false,M8 e X.env)::M6 wq (D2 [] X.env))) _ _ s;refine V2 (Aw (he pins s σ H _ I h) fun v s1 ⟨x,H1,I1,r1,q1⟩=>?_);obtain⟨a,xs,b,ex,hq,hz,q⟩:=q1;subst ex;cases r1;obtain⟨its,rv,pl,hal⟩:=I1.sqB hq;refine S9 ?_;refine Je pl fun h' hE hI hsz hk=>?_
  refine S9 ?_;have I2:Inv X pins σ H1 { s1 with heap:=h' }:=I1.kept (t':=s1.toks) hk;have pl2:Hl h' a its.toArray b:=pl.at fun o q=>hk a o q
  refine callType_codes (Q₁:=fun obj xv=>obj=.ref h'.objs.size/\xv={ s1 with heap:=h'.push { cls:=.type "list", data:=.seq #[] } }) PySem.F.called_list (PySem.F.typeCall_list_1 _) PySem.F.entry_list_init
    (code_list_new _ ⟨rfl,rfl⟩) fun obj xv xZ=>?_
  obtain⟨rfl,rfl⟩:=xZ
  have hS:(h'.push { cls:=.type "list", data:=.seq #[] }).get? h'.objs.size=some { cls:=.type "list", data:=.seq #[] }:=B2 _ rfl
  have hSe:h'.objs.size≠s1.heap.objs.size+1:=by rw[hsz];exact g7 _
  have hSi:h'.objs.size≠s1.heap.objs.size:=by rw[hsz];exact Q9 (Nat.lt_add_of_pos_right (by decide))
  have haS:a≠h'.objs.size:=by rw[hsz];exact D1 (C7 hal (uk _ _))
  have yw:H1 h'.objs.size=none:=I2.wj.fresh (B4 _);generalize hSz:h'.objs.size=S at *;have hps:∀c o,h'.get? c=some o->c≠S:=fun c o q z=>absurd (C0 q) (by rw[hSz,z];exact P9 _)
  refine⟨⟨_,hS,rfl⟩,PySem.F.args_list_init_2 _ _,?_⟩;show B6 _ _ (do let old <- rT (.ref S);vp (.ref S) (fun _=>#[]);letGo old.toList.reverse;G6 (.ref S) (.ref (s1.heap.objs.size+1)) .none) _ _ _;refine A1 ?_;unfold rT;refine A1 (L5 hS rfl (A6 ?_));show B6 _ _ (e9 S (fun _=>#[]) >>= fun _=>letGo (#[]:Array Value).toList.reverse >>= fun _=>G6 (.ref S) (.ref (s1.heap.objs.size+1)) .none) _ _ _;refine A1 (Q7 hS rfl ?_);have zAw:=G5 (E6 (fun _=>(#[]:Array Value))) hS rfl
  have oth:∀b o,h'.get? b=some o->((h'.push { cls:=.type "list", data:=.seq #[] }).update S (E6 (fun _=>(#[]:Array Value)))).get? b=some o:=
    fun b o e=>(J6 _ _ (Ne.symm (hps b o e))).trans (A2 _ e)
  refine A1 (sM ?_)
  generalize (h'.push { cls:=.type "list", data:=.seq #[] }).update S (E6 (fun _=>(#[]:Array Value)))=h2 at zAw oth ⊢
  have hT:qr { s1 with heap:=h2 } (.ref (s1.heap.objs.size+1)) "enumerate" := ⟨_,oth _ _ hE,rfl⟩
  unfold G6;refine A1 (R1 hT ?_);have e1:N3 (.ref S) (.ref (s1.heap.objs.size+1))=false:=by simp[N3,hSe]
  have e2:(G2 "enumerate" == G2 "list")=false:=by decide
  have e3:(G2 "enumerate" == G2 "tuple")=false:=by decide
  simp only[e1,e2,e3,vd,D6,if_false];refine A1 (qk (s:={ s1 with heap:=h2 }) (oth _ _ hE) ?_);refine A1 (G9 ?_);unfold m9;refine A1 (O5 hT Tc ?_);refine A1 (O5 hT QE ?_);refine A6 ?_
  show B6 _ _ (rule "list.extend.makes-room" >>= fun _=>wA (.ref S) >>= fun _ =>
    again (.builtin "list.extend.loop" ⟨[.ref S,.ref (s1.heap.objs.size+1),.none],[]⟩)) _ _ _
  refine A1 (R7 ?_);refine A1 ?_;show B6 _ _ (e9 S (·.push .none) >>= fun _=>e9 S (·.pop)) _ _ _;refine A1 (Q7 zAw rfl ?_);have zBc:=G5 (E6 (·.push N4)) zAw rfl;refine Q7 (hz:=by seq_fits) zBc rfl ?_;have zBb:=G5 (E6 (·.pop)) zBc rfl;have zAi:∀b o,h'.get? b=some o->((h2.update S (E6 (·.push N4))).update S (E6 (·.pop))).get? b=some o:=
    fun b o e=>(J6 _ _ (Ne.symm (hps b o e))).trans ((J6 _ _ (Ne.symm (hps b o e))).trans (oth b o e))
  generalize (h2.update S (E6 (·.push N4))).update S (E6 (·.pop))=h3 at zBb zAi ⊢;have I3:Inv X pins σ (upd H1 S (.lst [])) { s1 with heap:=h3 }:=I2.laid (t':=s1.toks) zAi (by rw[hSz];exact B4 _) (show Ab X.prog X.w _ _ S (.lst []) from⟨J8 _,[],_,.nil,zBb⟩);refine A6 ⟨T8 F.plain_extend_loop _,aL (A:=X.A.in1) (R:=_) (I1.ok.hd hc) (g7 _) (D1 (O3 hal)) (D1 hal) haS hSe hSi yw rv hz xs.length _ _ [] (v7 _) (J8 _) I3 (fun c hc=>?_) ⟨fun c u e=>?_,AM,fun j p e=>by cases e⟩ (.inl ⟨_,zAi _ _ hE⟩) (hI.at fun o q=>zAi _ o q) (pl2.at fun o q=>zAi _ o q) fun s' H' wk J x l=>⟨rfl,.ref S,H',J,rfl,q S wk H' yw x l⟩⟩
  · have hcs:s1.heap.objs.size<=c:=by
      rcases C8.mp hc with z | z
      · rw[z];exact O6 _
      · rw[D3.mp z];exact B4 _
    refine I1.wb hcs ?_;have:c≠S:=by
      rcases C8.mp hc with z | z
      · rw[z];exact hSe.symm
      · rw[D3.mp z];exact hSi.symm
    rw[AE this];exact I1.wj.fresh hcs
  · have:c≠S:=fun z=>by rw[z,yw] at e;cases e
    rw[AE this];exact e
end
end L2
namespace R
open PySem L2
section
variable {K:W.Frag} {g:G} {H:Hp} {σ:St} {Γ Γ':Gm} {js:List Nat} {as:List Ar}
theorem TR{d:Dv}{f:Str}(h:FS d f=true):∃x,Na d f=some x/\gX x=true:=by
 unfold FS at h;cases e:Na d f with
 | none=>rw[e] at h;cases h
 | some x=>rw[e] at h;exact⟨x,rfl,h⟩
end
def Wu(i:Nat)(f:Str)(p:Dv->Dv->Dv->Option Dv)(fe:Ev Dv)(fk:Ev (List Dv)):Es:=fun R m k=>fe R m fun d m1=>bif FS (m1.at i) f then fk R m1 fun ks m2=>(match ks with | [j]=>(Na (m2.at i) f).bind fun x=>(p x j d).bind fun y=>k.nx (m2.set i (FT (m2.at i) f y)) | _=>none) else none
section
variable {K:W.Frag} {F:Fr} {wZ:Option Gm} {Γ wy Γ':Gm} {js js2:List Nat} {i:Nat} {f:Str} {fe:Ev Dv} {a:Ar} {p:Dv->Dv->Dv->Option Dv} {T:QX}
theorem bW{σ:St}{H1:Hp}{Q1 Q2:VK}(h12:∀v H,Q1 v H->Q2 v H)(t:Oc K a σ H1 Q1):Oc K a σ H1 Q2:=by
 cases a with
 | ev Γa Γb ja fa =>
  obtain⟨g,m,P,r,R,k,res,e,q⟩:=t;exact⟨g,m,P,r,R,k,res,e,fun d m' g' P' Pv v H' h1 h2 h3 h4 h5 h6=>h12 _ _ (q d m' g' P' Pv v H' h1 h2 h3 h4 h5 h6)⟩
 | rf i=>obtain⟨v,e,q⟩:=t;exact⟨v,e,h12 _ _ q⟩
 | fd i f=>obtain⟨v,e,a,C,dx,fs,w,h1,h2,h3,h4,h5,q⟩:=t;exact⟨v,e,a,C,dx,fs,w,h1,h2,h3,h4,h5,h12 _ _ q⟩
theorem VO(hp:bY K p T)(c:AD wy [a] Γ' js2)(h0:∃o,wy[i]?=some (some o))(hi:Γ'[i]?=some (some 1)){D:Ends}{σ:St}{H:Hp}(h:tS K F wZ Γ (some Γ') (js++(js2++[i])) (Wu i f p fe (AV [a])) D σ H):Mh (tE K Γ 0 wy js fe) (gj (Yv K (FM i) f) (Oc K a) T) D σ H:=by
 obtain⟨g,m,P,r,R,k,res,e,q⟩:=h;refine⟨g,m,P,r,R,_,res,e,fun d m1 g1 P1 Pv u H1 hk ag s rv r1 n=>?_⟩;cases hr:FS (m1.at i) f with
 | false=>rw[hr] at hk;cases hk
 | true =>
  rw[hr] at hk;obtain⟨x0,hx0,hrf⟩:=TR hr;obtain⟨o0,h0⟩:=h0;obtain⟨v0,P0,zH,rv0,_⟩:=r1.zP h0;obtain⟨ao,C,dx,fs,w,_,_,rfl,h1,hc,hn,hl,yn,_⟩:=Ft rv0 hx0;obtain⟨rr,rfl⟩:=NX yn hrf;refine⟨_,zH,ao,C,dx,fs,_,rfl,h1,hc,hn,hl,?_⟩;have rz:=rv.z;have s':Step g P H g1 P1 H1:=s.less fun _ z=>.inl z
  have key:Bl K [a] σ H1 fun vs H2=>∃w,vs=[w]/\T (.ref rr) w u H2 fun H3=>D.nx σ H3:=by
   refine AN [a] r1 c hk fun ds m2 g2 P2 vs H2 xt zA s2 ar r2=>?_
   have al:=ar.len;have ra:=ar.ra r2
   match ds,al.1,xt,ra with
   | [j],_,xt,ra =>
    have ra0:=ra;unfold RA at ra;obtain⟨w,wr,o,Po,rfl,_,h1w,h2w⟩:=ra;unfold RA at h2w;subst h2w;obtain⟨x,ex,xt⟩:=wW xt;obtain⟨y,e1,e2⟩:=wW xt;obtain⟨v,Pa,Pr,ev,em,rx,r3,n3,hP⟩:=r2.take hi;rw[zH] at ev;cases ev;obtain⟨fs',zy,xr⟩:=s2.ins ao C dx fs h1;obtain⟨a2,C2,dx2,nE,w2,F1,F2,ea,h12,_,_,xy,rw2,dj,hPa,mk⟩:=Ft rx ex;cases ea;rw[zy] at h12;cases h12;rw[xr f rr hl] at xy;cases xy;refine⟨w,rfl,hp g2 H2 _ (.ref rr) F1 j w d u y _ r2.zd rw2 ra0 (rz.held s2 r1.wb fun _ z=>z.elim) e1 fun H3 P' s3 ry=>?_⟩;have ro:=mk s3 ry;have sF:Step g2 Pa H2 g2 (fun b=>P' b\/F2 b) H3:=(s3.frame (R:=F2)).sub (fun b z=>(hPa b).mpr z) fun _ z=>z
    have r4:=r3.held sF rx.wb fun a q z=>n3 a z q
    have n4:=sF.out r3.wb fun a q z=>n3 a z q
    obtain⟨P5,r5,sp⟩:=r4.putIn (B5.mp hi).1 zH ro fun a q z=>n4 a z q
    rw[EH hi] at r5;exact q.nx Γ' _ g2 P5 σ H3 rfl e2 (ag.trans (zA.trans Bw.set)) ((s'.trans s2).trans ((sF.frame (R:=Pr)).sub (fun a z=>(hP a).mpr z) fun a z=>sp a z)) Io.refl r5
  refine bW (fun v H2 z=>?_) key;obtain⟨w,ew,z⟩:=z;cases ew;exact z
end
noncomputable def JO(x:Dv)(f:Str)(d:Dv):Option Dv:=match x with
 | .obj c fl nm xs=>bif !nm.contains f && fl.contains f && decide (nm.length < 900) then some (.obj c fl (nm++[f]) (xs++[d])) else none
 | _=>none
def XE(i:Nat)(f:Str)(o:Nat)(fe:Ev Dv):Es:=fun R m k=>fe R m fun d m1=>bif o == 1 || Od d then(JO (m1.at i) f d).bind fun y=>k.nx (m1.set i y) else none
theorem Im{f:Str}{u:V}:∀{nm:List Str} {vs:List V},nm.contains f=false->nm.length=vs.length->ER f u (nm.zip vs)=(nm++[f]).zip (vs++[u])
 | [],[],_,_=>rfl
 | [],_::_,_,h=>by cases h
 | _::_,[],_,h=>by cases h
 | n::nm,v::vs,h,hl=>by
  rw[qY,sQ] at h;have hn:n≠f:=fun z=>by subst z;simp at h
  rw[L8];show(if n=f then _ else _)=_;rw[if_neg hn,Im h.2 (by simpa using hl)];rfl
theorem Gu{f:Str}:∀{nm:List Str} {vs:List V},nm.contains f=false->(nm.zip vs).lookup f=none
 | [],_,_=>by simp
 | _::_,[],_=>by simp
 | n::nm,v::vs,h=>by
  rw[qY,sQ] at h;rw[L8,G7,h.1];exact Gu h.2
theorem Wq{K:W.Frag}{F:Fr}{wZ:Option Gm}{Γ Γ':Gm}{js:List Nat}{i o:Nat}{f:Str}{fe:Ev Dv}(ho:o<=1)(hi:Γ'[i]?=some (some 1)){D:Ends}{σ:St}{H:Hp}(h:tS K F wZ Γ (some Γ') (js++[i]) (XE i f o fe) D σ H):jz K (FM i) (tE K Γ o Γ' js fe) f D σ H:=by
 obtain⟨g,m,P,r,R,k,res,e,q⟩:=h;refine⟨g,m,P,r,R,_,res,e,fun d m1 g1 P1 Pv u H1 hk ag s rv r1 n=>?_⟩;have rep1:(o == 1 || Od d)=true->∃Pw,Rep K g1 H1 1 d u Pw/\∀b,Pw b->Pv b:=fun z=>by
  rcases Bool.or_eq_true_iff.mp z with z | z
  ·rw[beq_iff_eq.mp z] at rv;exact⟨Pv,rv,fun _ q=>q⟩
  ·exact⟨wX,Hu rv z,fun _ q=>q.elim⟩
 cases c:(o == 1 || Od d) with
 | false=>rw[c] at hk;cases hk
 | true =>
  rw[c] at hk;obtain⟨y,ey,hk⟩:=wW (show(JO (m1.at i) f d).bind _=some res from hk);obtain⟨Pw,yn,sw⟩:=rep1 c;obtain⟨v,Pa,Pr,ev,em,ra,r2,n2,hP⟩:=r1.take hi;have okA:=ra.wb;cases hx:m1.at i with
  | obj c fl nm xs =>
   rw[hx] at ey ra;unfold JO at ey;simp only at ey;cases hc:(!nm.contains f && fl.contains f && decide (nm.length < 900)) with
   | false=>rw[hc] at ey;cases ey
   | true =>
    rw[hc] at ey;cases ey;simp only[A3,M5,decide_eq_true_eq] at hc;obtain⟨⟨hc1,hc2⟩,hc3⟩:=hc;unfold Rep at ra;obtain⟨a,dx,vs,R',rfl,h1,h2,h3,⟨ye,hl,hnf⟩,h6,h7,h4⟩:=ra;have lv:nm.length=vs.length:=by rw[hl,h6.len]
    refine⟨_,ev,a,_,dx,_,rfl,h1,ye.1,ye.2 f (C3.mp hc2),by rw[vD];omega,?_⟩;rw[Im hc1 lv];have pa:Pa a:=(h4 a).mpr (.inl ⟨by decide,rfl⟩);have hz:=h3 (by decide);have oka:wc g1 H1 fun b=>b=a:=fun b z=>by subst z;exact⟨by rw[h1];trivial,hz⟩
    have st:Step g1 (fun b=>b=a) H1 g1 (fun b=>b=a) (upd H1 a (.ins (DY K c) dx ((nm++[f]).zip (vs++[u])))):=by
     have dm:∀b,L2.upd H1 a (.ins (DY K c) dx ((nm++[f]).zip (vs++[u]))) b=none->H1 b=none:=fun b z=>by
      by_cases hb:b=a
      ·subst hb;rw[AM] at z;cases z
      ·rw[AE hb] at z;exact z
     refine⟨fun b o hb nb=>by rw[AE nb];exact hb,dm,fun _ z=>z,fun _ z=>.inl z,⟨[],by simp⟩,fun b z=>.inl z,fun z b hb e=>z b hb (dm b e),fun b C' dx' fs' hb=>?_⟩
     by_cases z:b=a
     ·subst z;rw[h1] at hb;cases hb;refine⟨_,AM,fun f' r' hr=>?_⟩;rw[<- Im hc1 lv,ES]
      by_cases zf:f'=f
      ·subst zf;rw[Gu hc1] at hr;cases hr
      ·rw[if_neg zf];exact hr
     ·exact⟨fs',by rw[AE z];exact hb,fun _ _ q=>q⟩
    have na:¬Pw a:=fun z=>n a ((hP a).mpr (.inl pa)) (sw a z)
    have rd:=yn.held st oka fun b q z=>na (z▸q)
    have rx:=h6.held st oka fun b q z=>h7 (z▸q)
    have dj:Bt R' Pw:=fun b q z=>n b ((hP b).mpr (.inl ((h4 b).mpr (.inr q)))) (sw b z)
    have ro:Rep K g1 (upd H1 a (.ins (DY K c) dx ((nm++[f]).zip (vs++[u])))) 1 (.obj c fl (nm++[f]) (xs++[d])) (.ref a) fun b=>Pa b\/Pw b:=by
     unfold Rep;refine⟨a,dx,vs++[u],fun b=>R' b\/Pw b,rfl,AM,(fun z=>by cases z),fun _=>hz,⟨ye,by simp[hl],fun x hx=>?_⟩,?_,fun z=>z.elim h7 na,fun b=>?_⟩
     ·rcases E9.mp hx with z | z
      ·exact hnf x z
      ·rw[D3.mp z];exact C3.mp hc2
     ·exact AA.app rx ((AA.cons rd AA.nil fun _ _ z=>z).iff fun b=>⟨.inl,fun z=>z.elim id E7⟩) dj
     ·show Pa b\/Pw b↔(1≠0/\b=a)\/R' b\/Pw b;rw[h4 b];exact⟨fun z=>z.elim (fun z=>z.elim .inl fun z=>.inr (.inl z)) fun z=>.inr (.inr z),fun z=>z.elim (fun z=>.inl (.inl z)) fun z=>z.elim (fun z=>.inl (.inr z)) .inr⟩
    have stP:Step g1 Pa H1 g1 Pa (upd H1 a (.ins (DY K c) dx ((nm++[f]).zip (vs++[u])))):=(st.frame (R:=Pa)).sub (fun b z=>z.elim (fun z=>z▸pa) id) fun b z=>.inr z
    have r3:=r2.held stP okA fun a q z=>n2 a z q
    have dr:Bt (fun b=>Pa b\/Pw b) Pr:=fun b q z=>q.elim (fun q=>n2 b q z) fun q=>n b ((hP b).mpr (.inr z)) (sw b q)
    obtain⟨P5,r5,sp⟩:=r3.putIn (B5.mp hi).1 ev ro dr;rw[EH hi] at r5;refine q.nx Γ' _ g1 P5 σ _ rfl hk (ag.trans Bw.set) (s.trans ((stP.frame (R:=fun b=>Pr b\/Pv b)).sub (fun b z=>?_) fun b z=>?_)) Io.refl r5
    ·rcases z with z | z | z
     ·exact .inl ((hP b).mpr (.inl z))
     ·exact .inl ((hP b).mpr (.inr z))
     ·exact .inr z
    ·rcases sp b z with z | z
     ·exact z.elim .inl fun z=>.inr (.inr (sw b z))
     ·exact .inr (.inl z)
  | _=>rw[hx] at ey;cases ey
noncomputable def FP(d:Dv)(c mt:Str):Bool:=match d with
 | .obj c' _ nm _=>c' == c && !nm.contains mt
 | _=>false
def MB(s:wz)(c mt:Str)(i:Nat)(as:List Ar):Ev Dv:=fun R m k=>bif FP (m.at i) c mt then MD s (.rf i::as) R m k else none
section
variable {K:W.Frag} {Γ Γ':Gm} {js:List Nat} {as:List Ar} {σ:St} {H:Hp} {i:Nat} {s:wz} {cl mt:Str}
theorem WJ(c:AD Γ (.rf i::as) Γ' js)(hs:cI (.rf i::as) s.io=true)(hn:(Ar.rf i::as).length=s.ps.length)(nd:s.io.Nodup)(yF:∀i∈s.io,i < s.ps.length)(hl:∀j∈slots (.rf i::as) s.io,Γ'[j]?=some (some 1)){Q:VK}
    (h:tE K Γ s.ro Γ' (js++slots (.rf i::as) s.io) (MB s cl mt i as) σ H Q):Qk (DY K cl) mt (MX K s) [] E0 (FM i) (Bl K as) σ H Q:=by
  obtain⟨g,m,P,r,R,k,res,e,q⟩:=h;unfold MB at e;cases ho:FP (m.at i) cl mt with
  | false=>rw[ho] at e;cases e
  | true =>
    rw[ho] at e;have c0:=c;unfold AD at c0;obtain⟨⟨o,hgo⟩,_,_⟩:=c0;obtain⟨v0,P1,hv,rv,_⟩:=r.zP hgo;obtain⟨v1,ev1,rest⟩:=OH c hs hn nd yF hl ⟨g,m,P,r,R,k,res,e,q⟩;rw[hv] at ev1;cases ev1;cases hx:m.at i with
    | obj c' fl nm xs =>
      rw[hx] at ho rv;unfold FP at ho;simp only[A3,beq_iff_eq,M5] at ho;obtain⟨rfl,ho⟩:=ho;unfold Rep at rv;obtain⟨a,dx,vs,R',rfl,h1,_⟩:=rv;refine⟨_,hv,a,dx,_,rfl,h1,Gu ho,?_⟩;have e2:(fun(vs:List V) (H2:Hp)=>MX K s (V.ref a::(vs++[])) H2 Q E0)=fun vs H2=>MX K s (V.ref a::vs) H2 Q E0:=by funext vs H2;rw[L9]
      rw[e2];exact rest
    | _=>rw[hx] at ho;cases ho
noncomputable def lK{R:Type}(d:Dv)(bs:List Dv)(k:Dv->Option R):Option R:=match d,bs with
 | .we,[o]=>k o
 | _,_=>none
theorem WI{R:Type}{d:Dv}{bs:List Dv}{k:Dv->Option R}{r:R}(h:lK d bs k=some r):d=.we/\∃o,bs=[o]/\k o=some r:=by
 unfold lK at h;split at h
 ·exact⟨rfl,_,rfl,h⟩
 ·cases h
def QA(s:wz)(c:Str)(fl:List Str)(as:List Ar):Ev Dv:=fun R m k=>AV as R m fun ds m1=>s.cps R (.obj c fl [] []::ds) fun d bs=>lK d bs fun o=>k o m1
theorem WN{fl:List Str}(hc:bj K cl fl)(hs:s.io=[0])(hn:as.length+1=s.ps.length)(he:Rb as=true)(c:AD Γ as Γ' js){Q:VK}(h:tE K Γ 1 Γ' js (QA s cl fl as) σ H Q):Ql (DY K cl) (MX K s) [] E0 (Bl K as) σ H Q:=by
 obtain⟨g,m,P,r,R,k,res,e,q⟩:=h;refine AN as r c e fun ds m1 g1 P1 vs H1 hk ag st ar r1=>fun x dx hx hd nx=>?_
 rw[s.eq] at hk;obtain⟨⟨d,bs⟩,e1,e2⟩:=wW hk;obtain⟨rfl,ob,rfl,e2⟩:=WI e2;rw[L9];have sm1:MV H1 (upd H1 dx (.own x)):=Bp hd _;have zX:upd H1 dx (.own x) x=none:=by rw[AE fun z=>nx z.symm];exact hx
 have sm:MV H1 (upd (upd H1 dx (.own x)) x (.ins (DY K cl) dx [])):=fun b o hb=>Bp zX _ b o (sm1 b o hb)
 have hz:¬g1.Z x:=fun z=>r1.zd x z hx
 have nw:Ae K g1 H1 1 (.obj cl fl [] []) (.ref x) (upd (upd H1 dx (.own x)) x (.ins (DY K cl) dx [])):=by
  refine⟨sm,fun b=>b=x,?_,fun a z=>z▸hx⟩;unfold Rep;exact⟨x,dx,[],wX,rfl,AM,(fun z=>by cases z),fun _=>hz,⟨hc,rfl,fun _ z=>by cases z⟩,AA.nil,fun z=>z,fun b=>⟨fun z=>.inl ⟨by decide,z⟩,fun z=>z.elim (fun z=>z.2) E7⟩⟩
 obtain⟨Pv,s1,ro,r2,n1⟩:=Ae.go st r1 nw;have rds:=(ar.zAD he).held (Step.same (g:=g1) (P:=wX) sm) wc.wX fun _ _ z=>z
 have al:=ar.len;have rA:Rel K g1 (upd (upd H1 dx (.own x)) x (.ins (DY K cl) dx [])) (Oe s.ps.length s.io) (.obj cl fl [] []::ds) ((V.ref x::vs).map some) Pv:=by
  refine⟨r2.zd,fun i b=>i=0/\Pv b,⟨by unfold Oe;simp;omega,by unfold Oe;simp;omega,fun i o ei=>?_,fun i ei b z=>?_,fun i j n b z w=>n (z.1.trans w.1.symm)⟩,fun b=>⟨fun z=>⟨0,rfl,z⟩,fun⟨_,_,z⟩=>z⟩⟩
  ·obtain⟨hi,eo⟩:=Eo ei;rw[hs] at eo;cases i with
   | zero =>
    have:o=1:=D5 eo;subst this;have eq:(fun b=>(0=0/\Pv b))=Pv:=funext fun b=>propext ⟨fun z=>z.2,fun z=>⟨rfl,z⟩⟩
    exact⟨_,_,rfl,rfl,by rw[eq];exact ro⟩
   | succ i =>
    have:o=0:=D5 eo;subst this;obtain⟨v,_,ev,rv,_⟩:=rds.get (A4 (by omega:i < ds.length));have eq:(fun b=>(i+1=0/\Pv b))=wX:=Eu fun b z=>by cases z.1
    exact⟨_,v,by rw[Y8];exact A4 (by omega),by rw[C5,Y8,C6,ev];rfl,by rw[eq];exact rv.z⟩
  ·obtain⟨rfl,z⟩:=z;refine ei 1 ?_;unfold Oe;rw[C6,L0 (by omega),hs];rfl
 refine⟨g1,_,Pv,rA,.we,[ob],e1,fun g' H' v Pw Pb s2 rv hb n=>?_⟩;refine⟨by unfold Rep at rv;exact rv.1,?_⟩;have r3:=r2.held s2 ro.wb n1;have n3:=s2.out r2.wb n1;unfold Bk at hb;rw[hs] at hb;obtain⟨v1,P4,ev1,rb,sb⟩:=hb.zP (i:=0) (o:=1) rfl;have ev1:some (some (V.ref x))=some (some v1):=ev1;cases ev1;exact q ob m1 g' P1 P4 (.ref x) H' e2 ag (s1.trans ((s2.frame (R:=P1)).sub (fun a z=>z.symm) fun a z=>z.elim .inr fun z=>.inl (.inr (sb a z)))) rb r3 fun a z w=>n3 a z (.inr (sb a w))
end
end R
namespace L2
open PySem PySem.Spec PyProof.Rows
open AutoSeq1 (wpAny_loadPart')
section
variable {X:Cx} {p1 p2 yJ wq:Pos} {es:List Expr} {e:Expr} {ta:TA}
abbrev Yt(ta:TA):TE:=fun σ H Q=>ta σ H fun vs H1=>∃(i j:Int),(vs=[.int j]/\i=0\/vs=[.int i,.int j])/\(-(2 ^ 62)<=i/\i < 2 ^ 62/\-(2 ^ 62)<=j/\j < 2 ^ 62)/\(j - i).toNat<=1000000/\∀l,H1 l=none->Q (.ref l) (upd H1 l (.tup ((A5 (j - i).toNat).map fun k=>.int (i+(k:Nat)))))
end
end L2
namespace L2
open PySem PySem.Spec PyProof.Rows
section
variable {X:Cx} {a e:Expr} {ta te:TE} {p pos kp:Pos}
def qC(K:W.Frag)(x y:V)(H:Hp)(Q:VK):Prop:=∃(l:B3) (ns:List Int) (d:Int),x=.ref l/\y=.int d/\Cy K H l (ns.map V.int)/\∀M,(ns=[]/\M=d\/M∈ns/\∀a,a∈ns->a<=M)->Q (.int M) H
end
end L2
namespace R
open PySem L2
def Gx(X:Cx):Prop:=X.calm=true/\∃j,wt j X.A
noncomputable def two{α:Type}(f:Dv->Dv->Option α)(ds:List Dv):Option α:=match ds with | [a,b]=>f a b | _=>none
noncomputable def one{α:Type}(f:Dv->Option α)(ds:List Dv):Option α:=match ds with | [a]=>f a | _=>none
noncomputable def BD:Expr->Bool
 | .Starred _ _=>false
 | _=>true
structure zED where
 op:sC
 f:Dv->Dv->Option Dv
 ok:∀X,Gx X->∃r,Ef X (binaryOp op) r/\AJ X.K (two f) 1 (QY r)
structure zEC where
 op:vN
 f:Dv->Dv->Option Bool
 ok:∀X,Gx X->∃r,Ef X (U1 op) r/\AJ X.K (fun ds=>(two f ds).map .bl) 0 (QY r)
structure zBB where
 x:Str
 n:Nat
 o:Nat
 f:List Dv->Option Dv
 ok:∀X,Gx X->∃r,AJ X.K f o r/\((∃id,BG X (.builtin id) r/\O0 x=some (.builtin id))\/∃T,BG X (.type T) r/\O0 x=some (.type T))
abbrev pO(T:String):Prop:=T = "list" \/ T = "str" \/ T = "int" \/ T = "dict"
structure zAX where
 x:Str
 n:Nat
 T:String
 o:Nat
 f:List Dv->Option Dv
 hT:pO T\/T = "tuple" /\ n=1
 ok:∀X,Gx X->∃id r,rL T/\Slot T x id/\vv (.builtin id)=pure (.type "method_descriptor")/\UX X id r/\AJ X.K f o (jE r)
structure zAz where
 x:Str
 n:Nat
 T:String
 p:Mu
 hT:pO T
 ok:∀X,Gx X->∃id r,rL T/\Slot T x id/\vv (.builtin id)=pure (.type "method_descriptor")/\UX X id r/\ba X.K p r
noncomputable def NW:Expr->Bool
 | .Tuple _ _ _=>true
 | _=>false
structure zDE where
 x:Str
 n:Nat
 tt:Bool
 f:List Dv->Option (List Dv)
 ok:∀X,Gx X->∃r,UR X.K f r/\∀tg es p pos ta,(tt=true->NW tg=true)->es.length=n->es.all BD=true->Gl X x->X.mg x=none->PA X es ta->PI X tg (.Call (.Name x p) es [] pos) (cj r ta)
def pL:SA:=fun vs H1 Q=>Mg (fun _ H R=>R vs H) [] H1 Q
def qA:SA:=fun vs H1 Q=>Yt (fun _ H R=>R vs H) [] H1 Q
def qB(K:W.Frag):R2:=fun x y H2 Q=>∃a xs b,x=.ref a/\y=.int (-1)/\Jt K H2 a xs b/\∀p,H2 p=none->Q (.ref p) (upd H2 p (bif b then .tup xs.reverse else .lst xs.reverse))
def qE(K:W.Frag):V->Hp->VK->Prop:=fun v H1 Q=>∃a xs,v=.ref a/\Cy K H1 a xs/\∀l,H1 l=none->Q (.ref l) (upd H1 l (.lst xs.reverse))
structure Tb where
 zDD:List zED
 zAd:List zEC
 calls:List zBB
 meths:List zAX
 zCa:List zAz
 zCS:List zDE
 ix:Dv->Dv->Option Dv
 zCf:∀X,Gx X->∃r,US X r/\AJ X.K (two ix) 0 (QY r)
 sl:Dv->Option Int->Option Int->Option Dv
 zCT:∀X,Gx X->∃r,UW X r/\∀lo hi,AJ X.K (one fun d=>sl d lo hi) 1 (bc fun x H Q=>r x lo hi H Q)
 tru:Dv->Option Bool
 zCJ:∀K g H o d v P b,Rep K g H o d v P->tru d=some b->YV K v H b
 lr:List Dv->Option Dv
 zCc:∀X,Gx X->AJ X.K lr 1 pL
 tr:List Dv->Option Dv
 zCI:∀X,Gx X->AJ X.K tr 1 qA
 md:Dv->Dv->Option Dv
 zDR:∀X,Gx X->AJ X.K (two md) 1 (QY (qC X.K))
 rv:Dv->Dv->Option Dv
 zDN:∀X,Gx X->AJ X.K (two rv) 1 (QY (qB X.K))
 lv:Dv->Option Dv
 zDS:∀X,Gx X->AJ X.K (one lv) 1 (bc (qE X.K))
 ss:Dv->Option Dv
 zCR:∀X,Gx X->AJ X.K (one ss) 1 (bc (kO X.K))
 le:Dv->Option Dv
 zCe:∀X,Gx X->AJ X.K (one le) 1 (bc (oA X.K))
 st:Dv->Dv->Dv->Option Dv
 zBh:∀X,Gx X->∃T,OZ X T/\bY X.K st T
structure Cf:Type 1 where
 N:List Str
 sc:O1
 fn:Str->Bool
 fs:List (Str×wz)
 cs:List (Str×Dv)
 bl:List Str
 T:Tb
 F:Fr
 fl:List Str
 rf:List Str
def Fz(P:F0)(w:J7)(K:W.Frag)(mg:Str->Option Value)(base:H9)(fl:List Str)(j:Nat)(x:Str)(s:wz):Prop:=match s.cl with
 | none=>Fx P w K mg base j x s.ps (MX K s)
 | some c=>∃j' f fd,j'+1<=j/\xI P w K mg base Qb j' f fd s.ps (MX K s)/\Binds K fd s.ps []/\Meth K (DY K c) x f/\bj K c fl/\mg c=some (.ref (DY K c))/\(x = "__init__" -> Mk K (DY K c) f)
structure wm (C:Cf) (X:Cx):Prop where
 N:X.N=C.N
 sc:X.env.scope=C.sc
 nd:X.N.Nodup
 calm:X.calm=true
 fn:∀x,C.fn x=true->X.fn x=true
 room:Gx X
 fs:∀x s,(x,s)∈C.fs->s.io.Nodup/\(∀i∈s.io,i < s.ps.length)/\∃j k,j<=k/\wt k X.A/\Fz X.prog X.w X.K X.mg X.base C.fl j x s
 cs:∀x d,(x,d)∈C.cs->∃v u,X.mg x=some u/\RelV v u/\∀g H,Rep X.K g H 0 d v wX
 bl:∀x∈C.bl,X.mg x=none
 xe:X.xe=fun _ _=>False
variable {C:Cf} {X:Cx} {x:Str} {s:wz}
theorem wm.fx(ok:wm C X)(h:(x,s)∈C.fs/\s.cl=none):s.io.Nodup/\(∀i∈s.io,i < s.ps.length)/\∃j k,j<=k/\wt k X.A/\Fx X.prog X.w X.K X.mg X.base j x s.ps (MX X.K s):=by
 obtain⟨a,b,j,k,hj,hr,F⟩:=ok.fs x s h.1;unfold Fz at F;rw[h.2] at F;exact⟨a,b,j,k,hj,hr,F⟩
noncomputable def Df:List Str->Str->Option Nat
 | [],_=>none
 | y::r,x=>if y == x then some 0 else(Df r x).map (·+1)
theorem By:∀{N:List Str} {x:Str} {i:Nat},Df N x=some i->N[i]?=some x
 | [],_,_,h=>by cases h
 | y::r,x,i,h=>by
  unfold Df at h;split at h
  ·rename_i e;cases h;rw[beq_iff_eq.mp e];rfl
  ·cases q:Df r x with
   | none=>rw[q] at h;cases h
   | some j=>rw[q] at h;cases h;simpa using By q
noncomputable def Wc(sc:O1)(x:Str):Bool:=match sc.names.lookup x with
 | some .local=>true
 | some .cell=>true
 | some .free=>true
 | _=>false
noncomputable def JG(sc:O1)(x:Str):Bool:=match sc.names.lookup x with
 | some .globalImplicit=>true
 | _=>false
noncomputable def Sj(x:Str):Bool:=!(x == ("__debug__" : Str)) && !(x == ("__classdict__" : Str)) && !(x == ("__name__" : Str))
def lv(C:Cf)(x:Str):Option Nat:=if Wc C.sc x && Sj x then Df C.N x else none
def UU(C:Cf)(e:Expr):Option Nat:=match e with
 | .Name x _=>lv C x
 | _=>none
theorem Ct(h:Sj x=true):(x == ("__debug__" : Str))=false/\(x == ("__classdict__" : Str))=false/\x ≠ "__name__" := by
 unfold Sj at h;simp only[A3,M5] at h;exact⟨h.1.1,h.1.2,fun z=>by rw[z] at h;simp at h⟩
theorem TH{sc:O1}(h:Wc sc x=true):nO sc x:=by
 unfold Wc at h;unfold nO;split at h
 ·rename_i e;exact .inl e
 ·rename_i e;exact .inr (.inl e)
 ·rename_i e;exact .inr (.inr e)
 ·cases h
theorem Bc(ok:wm C X)(h:JG C.sc x=true):Gl X x:=by
 unfold JG at h;unfold Gl Env.kindOf;rw[ok.sc];split at h
 ·rename_i e;exact e
 ·cases h
variable {i:Nat} {pos:Pos}
theorem cZ(ok:wm C X)(h:lv C x=some i):PE X (.Name x pos) (FM i):=by
 unfold lv at h;split at h
 ·rename_i e;rw[A3] at e;have n:=Ct e.2;exact fP (by rw[ok.N];exact By h) (by rw[ok.sc];exact TH e.1) n.1 n.2.1
 ·cases h
variable {e:Expr}
theorem DI(ok:wm C X)(h:UU C e=some i):PE X e (FM i):=by
 cases e with
 | Name x pos=>exact cZ ok h
 | _=>cases h
def cp(C:Cf)(e:Expr):Option (Nat×Str):=match e with
 | .Attribute o f _=>if C.rf.contains f then(UU C o).map fun i=>(i,f) else none
 | _=>none
variable {o:Expr} {env:Env}
theorem Wp{f:Str}(h:UU C o=some i):Q0 o f env (M8 o env)=M8 o env:=by
 cases o<;>first | rfl | (cases h)
theorem MA(ok:wm C X){q:Nat×Str}(h:cp C e=some q):PE X e (Yv X.K (FM q.1) q.2):=by
 cases e with
 | Attribute o f pos =>
  unfold cp at h;simp only at h;split at h
  ·obtain⟨i,hi,rfl⟩:=E5.mp h;exact fX (DI ok hi) (Wp hi)
  ·cases h
 | _=>cases h
structure CE:Type 1 where
 o:Nat
 Γ:Gm
 js:List Nat
 f:Ev Dv
structure CT:Type 1 where
 Γ:Gm
 js:List Nat
 f:Ev Bool
structure CA:Type 1 where
 as:List Ar
 Γ:Gm
 js:List Nat
structure CI:Type 1 where
 Γ:Gm
 js:List Nat
 f:Ev (List Dv)
structure CS:Type 1 where
 Γ:Option Gm
 js:List Nat
 f:Es
 er:Bool
 eb:Bool
 ec:Bool
structure Rec:Type 1 where
 E:Cf->Gm->Expr->Option CE
 A:Cf->Gm->List Bool->List Expr->Option CA
 T:Cf->Gm->Expr->Option CT
 I:Cf->Gm->Bool->Expr->Option CI
 S:Cf->Option Gm->Gm->N2->Option CS
 Ss:Cf->Option Gm->Gm->List N2->Option CS
abbrev bu(t:TA)(te:TE):TA:=fun σ H Q=>t σ H fun vs H1=>te σ H1 fun x H2=>Q (vs++[x]) H2
structure wu (r:Rec):Prop where
 E:∀{C X Γ e c},wm C X->r.E C Γ e=some c->PE X e (tE X.K Γ c.o c.Γ c.js c.f)
 A:∀{C X Γ md es c},wm C X->r.A C Γ md es=some c->PA X es (Bl X.K c.as)/\AD Γ c.as c.Γ c.js/\c.as.length=es.length/\es.all BD=true/\(md=[]->Rb c.as=true)
 T:∀{C X Γ e c},wm C X->r.T C Γ e=some c->PT X e (tT X.K Γ c.Γ c.js c.f)
 I:∀{C X Γ e c} (tg),wm C X->r.I C Γ (NW tg) e=some c->PI X tg e (tI X.K Γ c.Γ c.js c.f)
 S:∀{C X wZ Γ s c},wm C X->r.S C wZ Γ s=some c->PS X s (tS X.K C.F wZ Γ c.Γ c.js c.f)
 Ss:∀{C X wZ Γ s c},wm C X->r.Ss C wZ Γ s=some c->Ee X s (tS X.K C.F wZ Γ c.Γ c.js c.f)
 B:∀{C X Γ md es c},wm C X->r.A C Γ md es=some c->∀{e te},PE X e te->BD e=true->PA X (es++[e]) (bu (Bl X.K c.as) te)
def low(Γ:Gm)(i:Nat):Bool:=match Γ.getD i none with
 | some o=>decide (o<=1)
 | none=>false
variable {Γ:Gm}
theorem Gr(h:low Γ i=true):∃o,o<=1/\Γ[i]?=some (some o):=by
 unfold low at h;split at h
 ·rename_i o e;exact⟨o,of_decide_eq_true h,BR e⟩
 ·cases h
def Mi(r:Rec)(C:Cf)(Γ:Gm)(md:List Bool)(es:List Expr):Option CA:=match es with
  | []=>some ⟨[],Γ,[]⟩
  | e::es=>if BD e then
      match(if md.headD false then UU C e else none) with
      | some i=>if(Γ.getD i none).isSome then(r.A C Γ md.tail es).bind fun c=>if low c.Γ i then some ⟨.rf i::c.as,c.Γ,c.js⟩ else none else none
      | none=>match(if md.headD false then cp C e else none) with
        | some q=>if(Γ.getD q.1 none).isSome then(r.A C Γ md.tail es).bind fun c=>if low c.Γ q.1 then some ⟨.fd q.1 q.2::c.as,c.Γ,c.js⟩ else none else none
        | none=>(r.E C Γ e).bind fun c1=>(r.A C c1.Γ md.tail es).bind fun c=>some ⟨.ev Γ c1.Γ c1.js c1.f::c.as,c.Γ,c1.js++c.js⟩
    else none
variable {es:List Expr}
theorem AH(h:BD e=true):D2 (e::es) env=(false,M8 e env)::D2 es env:=by
 cases e<;>first | rfl | (cases h)
theorem getD_some(h:(Γ.getD i none).isSome=true):∃o,Γ[i]?=some (some o):=by
 obtain⟨o,e⟩:=Q3.mp h;exact⟨o,BR e⟩
variable {r:Rec}
theorem SR(R:wu r){md:List Bool}{c:CA}(ok:wm C X)(h:Mi r C Γ md es=some c){e0:Expr}{te:TE}(h0:PE X e0 te)(hn0:BD e0=true):PA X (es++[e0]) (bu (Bl X.K c.as) te):=by
  cases es with
  | nil=>cases h;exact DC h0 PX (AH hn0)
  | cons e es =>
    unfold Mi at h;simp only at h;split at h
    · rename_i hs;have yL:=AH (es:=es++[e0]) (env:=X.env) hs;split at h
      · rename_i i hi;have hmd:md.headD false=true:=by
          cases q:md.headD false with
          | true=>rfl
          | false=>rw[q] at hi;cases hi
        rw[hmd] at hi;split at h
        · obtain⟨c2,e2,h⟩:=wW h;split at h
          · cases h;exact DC (DI ok hi) (R.B ok e2 h0 hn0) yL
          · cases h
        · cases h
      · split at h
        · rename_i q hq;have hmd:md.headD false=true:=by
            cases z:md.headD false with
            | true=>rfl
            | false=>rw[z] at hq;cases hq
          rw[hmd] at hq;split at h
          · obtain⟨c2,e2,h⟩:=wW h;split at h
            · cases h;exact DC (MA ok hq) (R.B ok e2 h0 hn0) yL
            · cases h
          · cases h
        · obtain⟨c1,e1,h⟩:=wW h;obtain⟨c2,e2,h⟩:=wW h;cases h;exact DC (He (R.E ok e1)) (R.B ok e2 h0 hn0) yL
    · cases h
theorem VA(R:wu r){md:List Bool}{c:CA}(ok:wm C X)(h:Mi r C Γ md es=some c):PA X es (Bl X.K c.as)/\AD Γ c.as c.Γ c.js/\c.as.length=es.length/\es.all BD=true/\(md=[]->Rb c.as=true):=by
  cases es with
  | nil=>cases h;exact⟨PX,by unfold AD;exact⟨rfl,rfl⟩,rfl,rfl,fun _=>rfl⟩
  | cons e es =>
    unfold Mi at h;simp only at h;split at h
    · rename_i hs;have yL:=AH (es:=es) (env:=X.env) hs;split at h
      · rename_i i hi;have hmd:md.headD false=true:=by
          cases q:md.headD false with
          | true=>rfl
          | false=>rw[q] at hi;cases hi
        rw[hmd] at hi;split at h
        · rename_i h1;obtain⟨c2,e2,h⟩:=wW h;split at h
          · rename_i h2;cases h;obtain⟨a1,a2,a3,a4,a5⟩:=R.A ok e2;refine⟨DC (DI ok hi) a1 yL,?_,by simp[a3],by simp[hs,a4],fun z=>by rw[z] at hmd;cases hmd⟩;unfold AD;exact⟨getD_some h1,Gr h2,a2⟩
          · cases h
        · cases h
      · split at h
        · rename_i q hq;have hmd:md.headD false=true:=by
            cases z:md.headD false with
            | true=>rfl
            | false=>rw[z] at hq;cases hq
          rw[hmd] at hq;split at h
          · rename_i h1;obtain⟨c2,e2,h⟩:=wW h;split at h
            · rename_i h2;cases h;obtain⟨a1,a2,a3,a4,a5⟩:=R.A ok e2;refine⟨DC (MA ok hq) a1 yL,?_,by simp[a3],by simp[hs,a4],fun z=>by rw[z] at hmd;cases hmd⟩;unfold AD;exact⟨getD_some h1,Gr h2,a2⟩
            · cases h
          · cases h
        · obtain⟨c1,e1,h⟩:=wW h;obtain⟨c2,e2,h⟩:=wW h;cases h;obtain⟨a1,a2,a3,a4,a5⟩:=R.A ok e2;refine⟨DC (He (R.E ok e1)) a1 yL,?_,by simp[a3],by simp[hs,a4],fun z=>?_⟩
          · unfold AD;exact⟨rfl,_,rfl,a2⟩
          · show Rb c2.as=true;exact a5 (by rw[z];rfl)
    · cases h
def YB(Γ:Gm):Const->Option CE
 | .int i=>some ⟨1,Γ,[],Nf (.int i)⟩
 | .bool b=>some ⟨1,Γ,[],Nf (.bl b)⟩
 | .none=>some ⟨1,Γ,[],Nf .we⟩
 | .str x=>some ⟨1,Γ,[],Nf (.str x.cps.toList)⟩
 | _=>none
theorem di(x:Str):tx x.cps.toList=x:=by
 unfold tx;cases x;rfl
variable {c:CE}
theorem UG{k:Const}{j:Nat}(h:YB Γ k=some c):PE X (.Constant k j pos) (tE X.K Γ c.o c.Γ c.js c.f):=by
 cases k with
 | int i=>cases h;exact jH fW fun _ _=>Bg
 | bool b=>cases h;exact jH kq fun _ _=>DU
 | none=>cases h;exact jH fU fun _ _=>Er
 | str x=>cases h;exact jH fR fun _ _=>by unfold Rep;exact⟨by rw[di],fun _ z=>z⟩
 | _=>cases h
noncomputable def Yj(x:Str):Option String:=if x == ("int" : Str) then some "int" else if x == ("bool" : Str) then some "bool" else if x == ("str" : Str) then some "str" else if x == ("tuple" : Str) then some "tuple" else if x == ("list" : Str) then some "list" else none
theorem SH{T:String}(h:Yj x=some T):O0 x=some (.type T):=by
 unfold Yj at h
 repeat' split at h
 all_goals first | (rename_i e;rw[beq_iff_eq.mp e];cases h;first | exact PyProof.Rows.Boot.«int» | exact PyProof.Rows.Boot.«bool» | exact PyProof.Rows.Boot.«str» | exact PyProof.Rows.Boot.«tuple» | exact PyProof.Rows.Boot.«list») | cases h
def Xt(C:Cf)(Γ:Gm)(x:Str):Option CE:=match lv C x with
  | some i=>if(Γ.getD i none).isSome then some ⟨0,Γ.set i (some 0),[],Rc i⟩ else none
  | none=>if JG C.sc x && Sj x then(match C.cs.find? fun p=>p.1 == x with
      | some p=>some ⟨0,Γ,[],Nf p.2⟩
      | none=>if C.bl.contains x then(Yj x).map fun T=>⟨0,Γ,[],Nf (.ty T)⟩ else none) else none
theorem Xs(ok:wm C X)(h:Xt C Γ x=some c):PE X (.Name x pos) (tE X.K Γ c.o c.Γ c.js c.f):=by
 unfold Xt at h;split at h
 ·rename_i i hi;split at h
  ·rename_i h1;cases h;obtain⟨o,ho⟩:=getD_some h1;exact kA (cZ ok hi) ho
  ·cases h
 ·split at h
  ·rename_i hg;rw[A3] at hg;cases q:C.cs.find? fun p=>p.1 == x with
   | none =>
    rw[q] at h;simp only at h;split at h
    ·rename_i hb;cases t:Yj x with
     | none=>rw[t] at h;cases h
     | some T =>
      rw[t] at h;cases h;exact jH (Zo (v:=.ty T) (Bc ok hg.1) (ok.bl x (C3.mp hb)) (SH t) rfl (Ct hg.2).2.2 (Ct hg.2).1) fun _ _=>by unfold Rep;exact⟨rfl,fun _ z=>z⟩
    ·cases h
   | some p =>
    rw[q] at h;cases h;have e:p.1=x:=beq_iff_eq.mp (by simpa using O7 q);obtain⟨v,u,h1,h3,h2⟩:=ok.cs p.1 p.2 (S7 q);rw[e] at h1;exact jH (Zl (Bc ok hg.1) h1 h3 (Ct hg.2).1) h2
  ·cases h
structure C1:Type 1 where
 a:Ar
 Γ:Gm
 js:List Nat
def Jl(r:Rec)(C:Cf)(Γ:Gm)(m:Bool)(e:Expr):Option C1:=match(if m then UU C e else none) with
 | some i=>if(Γ.getD i none).isSome then some ⟨.rf i,Γ,[]⟩ else none
 | none=>match(if m then cp C e else none) with
  | some q=>if(Γ.getD q.1 none).isSome then some ⟨.fd q.1 q.2,Γ,[]⟩ else none
  | none=>(r.E C Γ e).bind fun c=>some ⟨.ev Γ c.Γ c.js c.f,c.Γ,c.js⟩
def HV(a:Ar)(Γ:Gm):Bool:=match a with
 | .rf i=>low Γ i
 | .fd i _=>low Γ i
 | _=>true
theorem Eb(R:wu r){m:Bool}{c:C1}(ok:wm C X)(h:Jl r C Γ m e=some c):PE X e (Oc X.K c.a)/\(m=false->Rb [c.a]=true)/\∀{as Γ' js},AD c.Γ as Γ' js->HV c.a Γ'=true->AD Γ (c.a::as) Γ' (c.js++js):=by
 unfold Jl at h;split at h
 ·rename_i i hi;split at h
  ·rename_i h1;cases h;have hm:m=true:=by cases m with | true=>rfl | false=>cases hi
   subst hm;refine⟨DI ok hi,(fun z=>by cases z),fun ch hs=>?_⟩;unfold AD;exact⟨getD_some h1,Gr hs,ch⟩
  ·cases h
 ·split at h
  ·rename_i q hq;split at h
   ·rename_i h1;cases h;have hm:m=true:=by cases m with | true=>rfl | false=>cases hq
    subst hm;refine⟨MA ok hq,(fun z=>by cases z),fun ch hs=>?_⟩;unfold AD;exact⟨getD_some h1,Gr hs,ch⟩
   ·cases h
  ·obtain⟨c1,e1,h⟩:=wW h;cases h;refine⟨He (R.E ok e1),fun _=>rfl,fun ch hs=>?_⟩;unfold AD;exact⟨rfl,_,rfl,ch⟩
theorem Da:AD Γ [] Γ []:=by unfold AD;exact⟨rfl,rfl⟩
def OV(r:Rec)(C:Cf)(Γ:Gm)(a b:Expr):Option (C1×C1):=(Jl r C Γ true a).bind fun x=>(Jl r C x.Γ true b).bind fun y=>if HV x.a y.Γ && HV y.a y.Γ then some (x,y) else none
noncomputable def jj(p:C1×C1):List Nat:=p.1.js++(p.2.js++[])
variable {a b:Expr}
theorem Jk(R:wu r){p:C1×C1}(ok:wm C X)(h:OV r C Γ a b=some p):PE X a (Oc X.K p.1.a)/\PE X b (Oc X.K p.2.a)/\AD Γ [p.1.a,p.2.a] p.2.Γ (jj p):=by
 unfold OV at h;obtain⟨x,e1,h⟩:=wW h;obtain⟨y,e2,h⟩:=wW h;split at h
 ·rename_i z;rw[A3] at z;cases h;obtain⟨a1,_,a2⟩:=Eb R ok e1;obtain⟨b1,_,b2⟩:=Eb R ok e2;exact⟨a1,b1,a2 (b2 Da z.2) z.1⟩
 ·cases h
def OW(r:Rec)(C:Cf)(Γ:Gm)(a:Expr):Option C1:=(Jl r C Γ true a).bind fun x=>if HV x.a x.Γ then some x else none
theorem FA(R:wu r){x:C1}(ok:wm C X)(h:OW r C Γ a=some x):PE X a (Oc X.K x.a)/\AD Γ [x.a] x.Γ (x.js++[]):=by
 unfold OW at h;obtain⟨y,e1,h⟩:=wW h;split at h
 ·rename_i z;cases h;obtain⟨a1,_,a2⟩:=Eb R ok e1;exact⟨a1,a2 Da z⟩
 ·cases h
theorem wm.gx(ok:wm C X):Gx X:=ok.room
def ma(r:Rec)(C:Cf)(Γ:Gm)(a:Expr)(op:sC)(b:Expr):Option CE:=(C.T.zDD.find? fun e=>e.op == op).bind fun en=>(OV r C Γ a b).bind fun p=>some ⟨1,p.2.Γ,jj p,EX (two en.f) (AV [p.1.a,p.2.a])⟩
theorem bK(R:wu r){op:sC}(ok:wm C X)(h:ma r C Γ a op b=some c):PE X (.BinOp a op b pos) (tE X.K Γ c.o c.Γ c.js c.f):=by
 obtain⟨en,e1,h⟩:=wW h;obtain⟨p,e2,h⟩:=wW h;cases h;have eo:en.op=op:=by simpa using O7 e1
 obtain⟨h1,h2,h3⟩:=Jk R ok e2;obtain⟨rr,q1,q2⟩:=en.ok X ok.gx;rw[eo] at q1;exact PE.imp (km q1 h1 h2) fun _ _ _ h=>CN q2 h3 h
noncomputable def OX(x:Dv):Option Dv:=match x with | .int i=>some (.int (-i)) | _=>none
theorem fE{K:W.Frag}:AJ K (one OX) 1 (bc (rU fun i=>.int (-i))):=fun g H ds vs d Q zd ra e k=>by
 unfold one at e;split at e
 ·rename_i a;unfold OX at e;split at e
  ·rename_i i;cases e;unfold RA at ra;obtain⟨v,r,o,P,rfl,_,h1,h2⟩:=ra;unfold RA at h2;subst h2;rw[AG h1];exact⟨i,rfl,k _ H (Ae.old Bg)⟩
  ·cases e
 ·cases e
def mT(r:Rec)(C:Cf)(Γ:Gm)(a:Expr):Option CE:=(OW r C Γ a).bind fun x=>some ⟨1,x.Γ,x.js++[],EX (one OX) (AV [x.a])⟩
theorem bD(R:wu r)(ok:wm C X)(h:mT r C Γ a=some c):PE X (.UnaryOp .USub a pos) (tE X.K Γ c.o c.Γ c.js c.f):=by
 obtain⟨x,e1,h⟩:=wW h;cases h;obtain⟨h1,h2⟩:=FA R ok e1;exact PE.imp (kj df h1) fun _ _ _ h=>CN fE h2 h
def jJ(t:CT):CE:=⟨1,t.Γ,t.js,aU t.f⟩
def QN(r:Rec)(C:Cf)(Γ:Gm)(a:Expr)(op:vN)(b:Expr):Option CT:=if sg op b then none else(C.T.zAd.find? fun e=>e.op == op).bind fun en=>(OV r C Γ a b).bind fun p=>some ⟨p.2.Γ,jj p,nK (two en.f) (AV [p.1.a,p.2.a])⟩
theorem iu{K:W.Frag}{Γ':Gm}{js:List Nat}{σ:St}{H:Hp}{o:Nat}{p:List Dv->Option Bool}{as:List Ar}{r:SA}(hp:AJ K (fun ds=>(p ds).map .bl) 0 r)(c:AD Γ as Γ' js){Q:VK}(h:tE K Γ o Γ' js (aU (nK p (AV as))) σ H Q):Bl K as σ H fun vs H1=>r vs H1 Q:=by
 obtain⟨g,m,P,rl,R',k,res,e,q⟩:=h;refine AN as rl c e fun ds m' g' P' vs H1 hk ag s ar r1=>?_
 obtain⟨b,e1,e2⟩:=wW hk;refine hp g' H1 ds vs (.bl b) _ r1.zd (ar.ra r1) (by show(p ds).map _=_;rw[e1];rfl) fun v H2 nw=>?_
 obtain⟨Pv,s2,h1,r2,n2⟩:=Ae.go s r1 nw;have ev:=Dm h1;subst ev;exact q (.bl b) m' g' P' wX _ H2 e2 ag (s2.less fun _ z=>z.elim .inl E7) DU r2 fun _ _ z=>z
theorem Rt(R:wu r){op:vN}{c:CT}(ok:wm C X)(h:QN r C Γ a op b=some c):PT X (.Compare a [op] [b] pos) (tT X.K Γ c.Γ c.js c.f)/\∀o,PE X (.Compare a [op] [b] pos) (tE X.K Γ o c.Γ c.js (aU c.f)):=by
 unfold QN at h;split at h
 ·cases h
 ·rename_i hm;rw[Bool.not_eq_true] at hm;obtain⟨en,e1,h⟩:=wW h;obtain⟨p,e2,h⟩:=wW h;cases h;have eo:en.op=op:=by simpa using O7 e1
  obtain⟨h1,h2,h3⟩:=Jk R ok e2;obtain⟨rr,q1,q2⟩:=en.ok X ok.gx;rw[eo] at q1;exact⟨PT.imp (ZT q1 h1 h2 hm) fun _ _ _ h=>ml q2 h3 h,fun o=>PE.imp (Zm q1 h1 h2 hm) fun _ _ _ h=>iu q2 h3 h⟩
noncomputable def HY:Expr->Bool
 | .Slice _ _ _ _=>false
 | _=>true
theorem Vi(h:HY b=true):SB b:=fun o i=>by
 cases b<;>first | rfl | (cases h)
def oY(r:Rec)(C:Cf)(Γ:Gm)(a b:Expr):Option CE:=(OV r C Γ a b).bind fun p=>some ⟨0,p.2.Γ,jj p,EX (two C.T.ix) (AV [p.1.a,p.2.a])⟩
theorem il(R:wu r)(ok:wm C X)(hb:HY b=true)(h:oY r C Γ a b=some c):PE X (.Subscript a b pos) (tE X.K Γ c.o c.Γ c.js c.f):=by
 obtain⟨p,e2,h⟩:=wW h;cases h;obtain⟨h1,h2,h3⟩:=Jk R ok e2;obtain⟨rr,q1,q2⟩:=C.T.zCf X ok.gx;exact PE.imp (kn q1 h1 h2 (Vi hb)) fun _ _ _ h=>CN q2 h3 h
noncomputable def jK{R:Type}(d:Dv)(k:Int->Option R):Option R:=match d with | .int i=>k i | _=>none
def iw(o:Option (Ev Dv)):Ev (Option Int):=match o with
 | none=>fun _ m k=>k none m
 | some f=>fun R m k=>f R m fun d m1=>jK d fun i=>k (some i) m1
def lz(p:Dv->Option Int->Option Int->Option Dv)(a:Ar)(lo hi:Option (Ev Dv)):Ev Dv:=match a with
 | .rf i=>fun R m k=>iw lo R m fun l m1=>iw hi R m1 fun u m2=>(p (m2.at i) l u).bind fun d=>k d m2
 | .ev _ _ _ f=>fun R m k=>f R m fun x m1=>iw lo R m1 fun l m2=>iw hi R m2 fun u m3=>(p x l u).bind fun d=>k d m3
 | .fd _ _=>fun _ _ _=>none
def oZ(r:Rec)(C:Cf)(Γ:Gm)(o:Option Expr):Option (Option (Ev Dv)×Gm×List Nat):=match o with
 | none=>some (none,Γ,[])
 | some e=>(r.E C Γ e).bind fun c=>some (some c.f,c.Γ,c.js)
def cB(K:W.Frag)(Γ Γ':Gm)(js:List Nat)(f:Ev (Option Int)):TO:=fun σ H Q=>∃g m P,Rel K g H Γ m σ P/\∃(R:Type) (k:Option Int->M->Option R) (r:R),f R m k=some r /\
 ∀b m' g' P' H',k b m'=some r->Bw js m m'->Step g P H g' P' H'->Rel K g' H' Γ' m' σ P'->Q b H'
theorem PO.imp{e:Option Expr}{t t':TO}(h:PO X e t)(k:∀σ H Q,t' σ H Q->t σ H Q):PO X e t':=fun pins s σ H Q I q=>h pins s σ H Q I (k σ H Q q)
theorem YC(R:wu r){e:Option Expr}{p:Option (Ev Dv)×Gm×List Nat}(ok:wm C X)(h:oZ r C Γ e=some p):PO X e (cB X.K Γ p.2.1 p.2.2 (iw p.1)):=by
 cases e with
 | none =>
  cases h;exact PO.imp Zf fun σ H Q q=>by
   obtain⟨g,m,P,r,R,k,res,e,q⟩:=q;exact q none m g P H e Bw.refl Step.refl r
 | some e =>
  obtain⟨c,e1,h⟩:=wW h;cases h;exact PO.imp (Ze (He (R.E ok e1))) fun σ H Q q=>by
   obtain⟨g,m,P,r,R,k,res,e,q⟩:=q;refine⟨g,m,P,r,R,_,res,e,fun d m' g' P' Pv v H' hk ag s rv r1 n=>?_⟩;cases d<;>first | (cases hk;done) | skip
   rename_i i;exact⟨i,AG rv,q (some i) m' g' P' H' hk ag (s.less fun _ z=>.inl z) r1⟩
def pU(r:Rec)(C:Cf)(Γ:Gm)(a:Expr)(lo hi:Option Expr):Option CE:=(Jl r C Γ true a).bind fun x=>(oZ r C x.Γ lo).bind fun l=>(oZ r C l.2.1 hi).bind fun u=>if HV x.a u.2.1 then some ⟨1,u.2.1,x.js++(l.2.2++u.2.2),lz C.T.sl x.a l.1 u.1⟩ else none
theorem eK{K:W.Frag}{Γ wy xH Γ':Gm}{j1 j2 j3:List Nat}{p:Dv->Option Int->Option Int->Option Dv}{rr:V->Option Int->Option Int->Hp->VK->Prop}(hp:∀lo hi,AJ K (one fun d=>p d lo hi) 1 (bc fun x H Q=>rr x lo hi H Q)){a:Ar}{lo hi:Option (Ev Dv)}
    (ha:∀{as Γ' js},AD wy as Γ' js->HV a Γ'=true->AD Γ (a::as) Γ' (j1++js)) (hs:HV a Γ'=true) {σ:St} {H:Hp} {Q:VK}
    (h:tE K Γ 1 Γ' (j1++(j2++j3)) (lz p a lo hi) σ H Q):pI rr (Oc K a) (cB K wy xH j2 (iw lo)) (cB K xH Γ' j3 (iw hi)) σ H Q:=by
  obtain⟨g,m,P,r,R,k,res,e,q⟩:=h;have fin:∀{x:Dv} {l u:Option Int} {m3:M} {g3:G} {P3:Fp} {H3:Hp} {v:V} {o:Nat} {Px:Fp},(p x l u).bind (fun d=>k d m3)=some res->Bw (j1++(j2++j3)) m m3->Step g P H g3 P3 H3->Rel K g3 H3 Γ' m3 σ P3->o<=1->Rep K g3 H3 o x v Px->rr v l u H3 Q:=fun{x l u m3 g3 P3 H3 v o Px} hk ag s r3 hlo rx=>by
    obtain⟨d,e1,e2⟩:=wW hk;refine hp l u g3 H3 [x] [v] d Q r3.zd (by unfold RA;exact⟨v,[],o,Px,rfl,hlo,rx,by unfold RA;rfl⟩) e1 fun w H4 nw=>?_
    obtain⟨Pv,s2,h1,r2,n2⟩:=Ae.go s r3 nw;exact q d m3 g3 P3 Pv w H4 e2 ag s2 h1 r2 n2
  cases a with
  | fd i f=>cases e
  | rf i =>
    have c0:=ha (as:=[]) (Γ':=wy) (js:=[]) Da;have hs':=hs
    -- the slot is set ahead
    have h0:(∃o,Γ[i]?=some (some o))/\wy=Γ/\j1=[]:=by
      have:=ha (as:=[.ev wy Γ' (j2++j3) (fun _ m k=>k .we m)]) (Γ':=Γ') (js:=(j2++j3)++[]) (by unfold AD;exact⟨rfl,[],rfl,Da⟩) hs;unfold AD at this;refine⟨this.1,?_⟩;obtain⟨_,_,c⟩:=this;unfold AD at c;refine⟨c.1,?_⟩;obtain⟨_,js2,e,c⟩:=c;unfold AD at c;rw[c.2] at e;have l:(j1++((j2++j3)++[])).length=((j2++j3)++[]).length:=congrArg qg e;simp at l;exact l
    obtain⟨⟨o0,h0⟩,rfl,rfl⟩:=h0;obtain⟨v0,P0,zH,rv0,_⟩:=r.zP h0;refine⟨v0,zH,g,m,P,r,R,_,res,e,fun l m1 g1 P1 H1 hk1 ag1 s1 r1=>⟨g1,m1,P1,r1,R,_,res,hk1,fun u m2 g2 P2 H2 xt zA s2 r2=>?_⟩⟩;obtain⟨o1,x6,h1⟩:=Gr hs;obtain⟨v1,Px,ev1,rv1,_⟩:=r2.zP h1;rw[zH] at ev1;cases ev1;exact fin xt (ag1.trans zA) (s1.trans s2) r2 x6 rv1
  | ev Γa Γb ja f =>
    have h0:Γa=Γ/\Γb=wy/\j1=ja:=by
      have:=ha (as:=[.ev wy wy [] (fun _ m k=>k .we m)]) (Γ':=wy) (js:=[]) (by unfold AD;exact⟨rfl,[],rfl,Da⟩) rfl;unfold AD at this;obtain⟨e1,js2,e2,c⟩:=this;unfold AD at c;obtain⟨e3,js3,e4,c⟩:=c;unfold AD at c;rw[c.2] at e4;subst e4;simp at e2;exact⟨e1,e3.symm,e2⟩
    obtain⟨rfl,rfl,rfl⟩:=h0;refine⟨g,m,P,r,R,_,res,e,fun x m1 g1 P1 Pv v H1 hk1 ag1 s1 rv r1 n1=>⟨g1,m1,P1,r1,R,_,res,hk1,fun l m2 g2 P2 H2 xt zA s2 r2=>⟨g2,m2,P2,r2,R,_,res,xt,fun u m3 g3 P3 H3 hk3 ag3 s3 r3=>?_⟩⟩⟩;exact fin hk3 (ag1.trans (zA.trans ag3)) (((s1.less fun _ z=>.inl z).trans s2).trans s3) r3 (by decide:0<=1) ((rv.z.held s2 r1.wb fun _ z=>z.elim).held s3 r2.wb fun _ z=>z.elim)
theorem iW(R:wu r){lo hi:Option Expr}{p2:Pos}(ok:wm C X)(h:pU r C Γ a lo hi=some c):PE X (.Subscript a (.Slice lo hi none p2) pos) (tE X.K Γ c.o c.Γ c.js c.f):=by
 obtain⟨x,e1,h⟩:=wW h;obtain⟨l,e2,h⟩:=wW h;obtain⟨u,e3,h⟩:=wW h;split at h
 ·rename_i hs;cases h;obtain⟨h1,_,h2⟩:=Eb R ok e1;obtain⟨rr,q1,q2⟩:=C.T.zCT X ok.gx;exact PE.imp (Vp q1 h1 (YC R ok e2) (YC R ok e3)) fun _ _ _ h=>eK q2 h2 hs h
 ·cases h
def mO(r:Rec)(C:Cf)(Γ:Gm)(es:List Expr):Option CE:=(r.A C Γ [] es).bind fun c=>some ⟨1,c.Γ,c.js,Re .tup (AV c.as)⟩
def mV(r:Rec)(C:Cf)(Γ:Gm)(es:List Expr):Option CE:=(r.A C Γ [] es).bind fun c=>some ⟨1,c.Γ,c.js,Re .lst (AV c.as)⟩
def Ww:Ev Dv:=Nf (.xp [] [])
theorem Ae.xp{K:W.Frag}{g:G}{H:Hp}{p:B3}(zd:Zd g H)(hp:H p=none):Ae K g H 1 (.xp [] []) (.ref p) (upd H p (.dK [])):=by
 have sm:=Bp hp (.dK []);refine⟨sm,fun b=>b=p,?_,fun a q=>q▸hp⟩;unfold Rep;exact⟨p,[],rfl,AM,(fun z=>by cases z),(fun _ z=>zd p z hp),⟨rfl,wX,AA.nil⟩,fun b=>⟨fun z=>⟨by decide,z⟩,fun z=>z.2⟩⟩
theorem kG:PE X (.Dict [] [] pos) (tE X.K Γ 1 Γ [] Ww):=PE.imp Vt fun σ H Q q=>by
 obtain⟨g,m,P,r,R,k,res,e,q⟩:=q;intro p hp;obtain⟨Pv,s2,h1,r2,n2⟩:=Ae.go Step.refl r (Ae.xp r.zd hp);exact q _ m g P Pv _ _ e Bw.refl s2 h1 r2 n2
theorem aw(R:wu r){x1:Nat}(ok:wm C X)(h:mO r C Γ es=some c):PE X (.Tuple es x1 pos) (tE X.K Γ c.o c.Γ c.js c.f):=by
 obtain⟨x,e1,h⟩:=wW h;cases h;obtain⟨a1,a2,_,_,a5⟩:=R.A ok e1;exact kB a1 a2 (a5 rfl)
theorem bF(R:wu r)(ok:wm C X)(h:mV r C Γ es=some c):PE X (.List es pos) (tE X.K Γ c.o c.Γ c.js c.f):=by
 obtain⟨x,e1,h⟩:=wW h;cases h;obtain⟨a1,a2,_,_,a5⟩:=R.A ok e1;exact kF a1 a2 (a5 rfl)
def CP:Gm->Gm->Gm
 | some a::x,some b::y=>some (if a == b then a else 0)::CP x y
 | _::x,_::y=>none::CP x y
 | _,_=>[]
def lq(t:Dv->Option Bool)(fa:Ev (List Dv)):Ev Bool:=nK (one t) fa
def iU(r:Rec)(C:Cf)(Γ:Gm)(a:Expr):Option CT:=(OW r C Γ a).bind fun x=>some ⟨x.Γ,x.js++[],lq C.T.tru (AV [x.a])⟩
noncomputable def RP:Expr->Bool
 | .UnaryOp .Not _ _=>false
 | .BoolOp _ _ _=>false
 | .IfExp _ _ _ _=>false
 | .Compare _ _ _ _=>false
 | _=>true
theorem ax(R:wu r){c:CT}(ok:wm C X)(hv:RP a=true)(h:iU r C Γ a=some c):PT X a (tT X.K Γ c.Γ c.js c.f):=by
  obtain⟨x,e1,h⟩:=wW h;cases h;obtain⟨h1,h2⟩:=FA R ok e1;refine PT.imp (VY h1 fun whole=>?_) fun σ H Q h=>?_
  · cases a<;>first | rfl | (cases hv;done) | skip
    rename_i op b pos;cases op<;>first | rfl | (cases hv;done)
  · obtain⟨g,m,P,rl,R',k,res,e,q⟩:=h;have key:Bl X.K [x.a] σ H fun vs H1=>∃w,vs=[w]/\∃b,YV X.K w H1 b/\Q b H1:=by
      refine AN [x.a] rl h2 e fun ds m' g' P' vs H1 hk ag s ar r1=>?_
      obtain⟨b,e1,e2⟩:=wW hk;unfold one at e1;split at e1
      · rename_i d;have ra:=ar.ra r1;unfold RA at ra;obtain⟨w,wr,o,Po,rfl,_,h3,h4⟩:=ra;unfold RA at h4;subst h4;exact⟨w,rfl,b,C.T.zCJ _ _ _ _ _ _ _ _ h3 e1,q b m' g' P' H1 e2 ag s r1⟩
      · cases e1
    revert key
    cases x.a with
    | ev Γa Γb ja fa =>
      rintro⟨g,m,P,r,R,k,res,e,q⟩;refine⟨g,m,P,r,R,k,res,e,fun d m' g' P' Pv v H' h1 h2 h3 h4 h5 h6=>?_⟩;obtain⟨w,ew,z⟩:=q d m' g' P' Pv v H' h1 h2 h3 h4 h5 h6;cases ew;exact z
    | rf i =>
      rintro⟨v,e,w,ew,z⟩;cases ew;exact⟨v,e,z⟩
    | fd i f =>
      rintro⟨v,e,a,C',dx,fs,w0,q1,q2,q3,q4,q5,w,ew,z⟩;cases ew;exact⟨v,e,a,C',dx,fs,w0,q1,q2,q3,q4,q5,z⟩
def ib(t:CT):CT:=⟨t.Γ,t.js,cy t.f⟩
def og(a b:CT):CT:=let Γ':=CP a.Γ b.Γ;let js:=a.js++b.js;⟨Γ',js,TY (Bi Γ' js) (Rg a.f b.f fun _ m k=>k false m)⟩
def qK(a b:CT):CT:=let Γ':=CP a.Γ b.Γ;let js:=a.js++b.js;⟨Γ',js,TY (Bi Γ' js) (Rg a.f (fun _ m k=>k true m) b.f)⟩
theorem kg{op:BoolOp}{vs:List Expr}{t:TT}(h:PT X (.BoolOp op vs pos) t):PW X (.BoolOp op vs pos) t:=fun wh pins s σ H Q I q=>h pins s σ H Q I q
def cH(r:Rec)(C:Cf)(Γ:Gm)(op:BoolOp)(vs:List Expr)(pos:Pos):Option CT:=match vs with
 | []=>none
 | [a]=>r.T C Γ a
 | a::b::vs=>(r.T C Γ a).bind fun x=>(r.T C x.Γ (.BoolOp op (b::vs) pos)).bind fun y=>if CW (CP x.Γ y.Γ) x.Γ && CW (CP x.Γ y.Γ) y.Γ then some (match op with | .And=>og x y | .Or=>qK x y) else none
theorem Uy(R:wu r){op:BoolOp}{vs:List Expr}{c:CT}(ok:wm C X)(h:cH r C Γ op vs pos=some c):PT X (.BoolOp op vs pos) (tT X.K Γ c.Γ c.js c.f):=by
 match vs,h with
 | [],h=>cases h
 | [a],h =>
  cases op with
  | And=>exact PW.pt (ZS (R.T ok h))
  | Or=>exact PW.pt (eZ (R.T ok h))
 | a::b::vs,h =>
  obtain⟨x,e1,h⟩:=wW h;obtain⟨y,e2,h⟩:=wW h;split at h
  ·rename_i hw;rw[A3] at hw;have ha:=R.T ok e1;have hb:=kg (R.T ok e2);have jk:∀(i o:Nat),(CP x.Γ y.Γ)[i]?=some (some o)->i∈Bi (CP x.Γ y.Γ) (x.js++y.js)\/i∉x.js++y.js:=fun i o h=>Br h
   cases op with
   | And =>
    cases h;exact PW.pt (PW.imp (ee ha (PW.imp hb fun _ _ _ h=>Qf hw.2 (fun _ z=>z) h)) fun σ H Q h=>dz (RL jk (fun i z=>BL z) h) hw.1)
   | Or =>
    cases h;exact PW.pt (PW.imp (kc ha (PW.imp hb fun _ _ _ h=>Qf hw.2 (fun _ z=>z) h)) fun σ H Q h=>jU (RL jk (fun i z=>BL z) h) hw.1)
  ·cases h
def UI(r:Rec)(C:Cf)(Γ:Gm)(a:Expr)(op:vN)(b:Expr)(op':vN)(c:Expr):Option CT:=none
theorem Ru(R:wu r){c:Expr}{op op':vN}{t:CT}(ok:wm C X)(h:UI r C Γ a op b op' c=some t):PT X (.Compare a [op,op'] [b,c] pos) (tT X.K Γ t.Γ t.js t.f)/\∀o,PE X (.Compare a [op,op'] [b,c] pos) (tE X.K Γ o t.Γ t.js (aU t.f)):=by cases h
def cD(r:Rec)(C:Cf)(Γ:Gm)(e:Expr):Option CT:=match e with
 | .Compare a [op] [b] _=>QN r C Γ a op b
 | .Compare a [op,op'] [b,c] _=>UI r C Γ a op b op' c
 | .UnaryOp .Not x _=>(r.T C Γ x).map ib
 | .BoolOp op vs pos=>cH r C Γ op vs pos
 | e=>if RP e then iU r C Γ e else none
theorem Us(R:wu r){c:CT}(ok:wm C X)(h:cD r C Γ e=some c):PT X e (tT X.K Γ c.Γ c.js c.f):=by
 have val:RP e=true->(if RP e then iU r C Γ e else none)=some c->PT X e (tT X.K Γ c.Γ c.js c.f):=fun hv h=>by
  rw[if_pos hv] at h;exact ax R ok hv h
 match e,h with
 | .Compare a ops bs pos,h =>
  match ops,bs,h with
  | [op],[b],h=>exact(Rt R ok h).1
  | [op,op'],[b,c],h=>exact(Ru R ok h).1
  | [],_,h=>cases h
  | [_],[],h=>cases h
  | [_],_::_::_,h=>cases h
  | [_,_],[],h=>cases h
  | [_,_],[_],h=>cases h
  | [_,_],_::_::_::_,h=>cases h
  | _::_::_::_,_,h=>cases h
 | .UnaryOp op x pos,h =>
  cases op with
  | Not =>
   cases q:r.T C Γ x with
   | none=>replace h:(r.T C Γ x).map ib=some c:=h;rw[q] at h;cases h
   | some t =>
    replace h:(r.T C Γ x).map ib=some c:=h;rw[q] at h;cases h;exact PT.imp (ef (R.T ok q)) fun _ _ _ h=>dy h
  | _=>exact val rfl h
 | .BoolOp op vs pos,h=>exact Uy R ok h
 | .IfExp a b c' d,h=>cases h
 | .NamedExpr ..,h | .BinOp ..,h | .Lambda ..,h | .Dict ..,h | .Set ..,h | .ListComp ..,h | .SetComp ..,h | .DictComp ..,h | .GeneratorExp ..,h | .Await ..,h | .Yield ..,h | .YieldFrom ..,h | .Call ..,h | .FormattedValue ..,h | .JoinedStr ..,h | .Constant ..,h | .Attribute ..,h | .Subscript ..,h | .Starred ..,h | .Name ..,h | .List ..,h | .Tuple ..,h | .Slice ..,h=>exact val rfl h
noncomputable def nN{R:Type}(d:Dv)(k:Bool->Option R):Option R:=match d with | .bl b=>k b | _=>none
theorem Jj{R:Type}{d:Dv}{k:Bool->Option R}{r:R}(h:nN d k=some r):∃b,d=.bl b/\k b=some r:=by
 cases d<;>first | (cases h;done) | exact⟨_,rfl,h⟩
def XH(f g:Ev Dv):Ev Dv:=fun R m k=>f R m fun d m1=>nN d fun b=>if b=true then g R m1 k else k (.bl false) m1
def cx(f g:Ev Dv):Ev Dv:=fun R m k=>f R m fun d m1=>nN d fun b=>if b=true then k (.bl true) m1 else g R m1 k
def Wv(f:Ev Dv):Ev Dv:=fun R m k=>f R m fun d m1=>nN d fun b=>k (.bl (!b)) m1
section
variable {K:W.Frag} {Γ Γ' xH:Gm} {js js2:List Nat} {σ:St} {H:Hp} {f u:Ev Dv} {Q:VK}
theorem eC(hw:CW Γ' xH=true)(h:tE K Γ 0 Γ' (js++js2) (XH f u) σ H Q):cC (tE K Γ 0 xH js f) (tE K xH 0 Γ' js2 u) σ H Q:=by
 obtain⟨g,m,P,r,R,k,res,e,q⟩:=h;refine⟨g,m,P,r,R,_,res,e,fun d m1 g1 P1 Pv v H1 hk ag s rv r1 n=>?_⟩;replace hk:=Jj hk;obtain⟨b,rfl,hk⟩:=hk;have s1:Step _ _ _ g1 P1 H1:=s.less fun _ z=>.inl z
 refine⟨b,Dm rv,?_⟩;cases b with
 | true=>rw[if_pos rfl] at hk ⊢;exact⟨g1,m1,P1,r1,R,k,res,hk,fun d m2 g2 P2 Pw w H2 xt zA s2 rv2 r2 n2=>q d m2 g2 P2 Pw w H2 xt (ag.trans zA) (s1.trans s2) rv2 r2 n2⟩
 | false =>
  rw[if_neg B9] at hk ⊢;obtain⟨g2,P2,s2,r2⟩:=r1.weaken hw;exact q _ m1 g2 P2 wX _ H1 hk (ag.mono fun _ z=>D7 _ z) ((s1.trans s2).less fun _ z=>z.elim id E7) DU r2 fun _ _ z=>z
theorem jZ(hw:CW Γ' xH=true)(h:tE K Γ 0 Γ' (js++js2) (cx f u) σ H Q):jW (tE K Γ 0 xH js f) (tE K xH 0 Γ' js2 u) σ H Q:=by
 obtain⟨g,m,P,r,R,k,res,e,q⟩:=h;refine⟨g,m,P,r,R,_,res,e,fun d m1 g1 P1 Pv v H1 hk ag s rv r1 n=>?_⟩;replace hk:=Jj hk;obtain⟨b,rfl,hk⟩:=hk;have s1:Step _ _ _ g1 P1 H1:=s.less fun _ z=>.inl z
 refine⟨b,Dm rv,?_⟩;cases b with
 | false=>rw[if_neg B9] at hk ⊢;exact⟨g1,m1,P1,r1,R,k,res,hk,fun d m2 g2 P2 Pw w H2 xt zA s2 rv2 r2 n2=>q d m2 g2 P2 Pw w H2 xt (ag.trans zA) (s1.trans s2) rv2 r2 n2⟩
 | true =>
  rw[if_pos rfl] at hk ⊢;obtain⟨g2,P2,s2,r2⟩:=r1.weaken hw;exact q _ m1 g2 P2 wX _ H1 hk (ag.mono fun _ z=>D7 _ z) ((s1.trans s2).less fun _ z=>z.elim id E7) DU r2 fun _ _ z=>z
theorem eB(h:tE K Γ 0 Γ' js (Wv f) σ H Q):bw (tE K Γ 0 Γ' js f) σ H Q:=by
 obtain⟨g,m,P,r,R,k,res,e,q⟩:=h;refine⟨g,m,P,r,R,_,res,e,fun d m1 g1 P1 Pv v H1 hk ag s rv r1 n=>?_⟩;replace hk:=Jj hk;obtain⟨b,rfl,hk⟩:=hk;exact⟨b,Dm rv,q _ m1 g1 P1 wX _ H1 hk ag (s.less fun _ z=>z.elim .inl E7) DU r1 fun _ _ z=>z⟩
end
def mS(r:Rec)(C:Cf)(Γ:Gm)(x:Expr):Option CE:=(r.E C Γ x).bind fun c=>some ⟨0,c.Γ,c.js,Wv c.f⟩
def Uz(r:Rec)(C:Cf)(Γ:Gm)(op:BoolOp)(vs:List Expr)(pos:Pos):Option CE:=match vs with
 | []=>none
 | [a]=>r.E C Γ a
 | a::b::vs=>(r.E C Γ a).bind fun x=>(r.E C x.Γ (.BoolOp op (b::vs) pos)).bind fun y=>let Γ':=CP x.Γ y.Γ;let js:=x.js++y.js;if CW Γ' x.Γ && CW Γ' y.Γ then some ⟨0,Γ',js,TY (Bi Γ' js) (match op with | .And=>XH x.f y.f | .Or=>cx x.f y.f)⟩ else none
theorem SO(R:wu r){op:BoolOp}{vs:List Expr}(ok:wm C X)(h:Uz r C Γ op vs pos=some c):PE X (.BoolOp op vs pos) (tE X.K Γ c.o c.Γ c.js c.f):=by
 match vs,h with
 | [],h=>cases h
 | [a],h=>exact fS (R.E ok h)
 | a::b::vs,h =>
  obtain⟨x,e1,h⟩:=wW h;obtain⟨y,e2,h⟩:=wW h;simp only at h;split at h
  ·rename_i hw;rw[A3] at hw;have ha:=He (R.E ok e1);have hb:=He (R.E ok e2);have jk:∀(i o:Nat),(CP x.Γ y.Γ)[i]?=some (some o)->i∈Bi (CP x.Γ y.Γ) (x.js++y.js)\/i∉x.js++y.js:=fun i o h=>Br h
   cases op with
   | And=>cases h;exact PE.imp (fY ha (PE.imp hb fun _ _ _ h=>Qg hw.2 (fun _ z=>z) h)) fun σ H Q h=>eC hw.1 (Lq jk (fun i z=>BL z) h)
   | Or=>cases h;exact PE.imp (kl ha (PE.imp hb fun _ _ _ h=>Qg hw.2 (fun _ z=>z) h)) fun σ H Q h=>jZ hw.1 (Lq jk (fun i z=>BL z) h)
  ·cases h
def mW(r:Rec)(C:Cf)(Γ:Gm)(c a b:Expr):Option CE:=none
theorem bG(R:wu r){c:Expr}{d:CE}(ok:wm C X)(h:mW r C Γ c a b=some d):PE X (.IfExp c a b pos) (tE X.K Γ d.o d.Γ d.js d.f):=by cases h
theorem BK(h:es.all BD=true):(M6 pos (D2 es env)).any (·.1)=false:=by
 induction es with
 | nil=>rfl
 | cons e es ih =>
  rw[M3,A3] at h;rw[AH h.1];show(false || (M6 pos (D2 es env)).any (·.1))=false;rw[ih h.2];rfl
theorem jA(h:es.all BD=true):(M6 pos (D2 es env)).all (fun x=>!x.1)=true:=by
 induction es with
 | nil=>rfl
 | cons e es ih =>
  rw[M3,A3] at h;rw[AH h.1];show(true && (M6 pos (D2 es env)).all (fun x=>!x.1))=true;rw[ih h.2];rfl
def dH(r:Rec)(C:Cf)(Γ:Gm)(s:wz)(es:List Expr):Option CE:=(r.A C Γ ((A5 es.length).map s.io.contains) es).bind fun c=>if cI c.as s.io && (es.length == s.ps.length) && (slots c.as s.io).all (fun i=>c.Γ.getD i none == some 1) then some ⟨s.ro,c.Γ,c.js++slots c.as s.io,MD s c.as⟩ else none
variable {p:Pos}
theorem Xr(R:wu r)(ok:wm C X)(hs:(x,s)∈C.fs/\s.cl=none)(hg:Gl X x)(hn:Sj x=true)(h:dH r C Γ s es=some c):PE X (.Call (.Name x p) es [] pos) (tE X.K Γ c.o c.Γ c.js c.f):=by
 obtain⟨c1,e1,h⟩:=wW h;split at h
 ·rename_i hw;simp only[A3,F8,beq_iff_eq] at hw;cases h;obtain⟨a1,a2,a3,a4,_⟩:=R.A ok e1;obtain⟨nd,yF,j,kk,hj,hrm,F⟩:=ok.fx hs;have run:∀{σ H Q},tE X.K Γ s.ro c1.Γ (c1.js++slots c1.as s.io) (MD s c1.as) σ H Q->nC (MX X.K s) (Bl X.K c1.as) σ H Q:=fun h=>OH a2 hw.1.1 (a3.trans hw.1.2) nd yF (fun i hi=>BR (hw.2 i hi)) h
  cases es with
  | nil =>
   have e:c1.as=[]:=J3 a3;refine PE.imp (Vs F hrm hj hg (Ct hn).1) fun σ H Q h=>?_
   have:=run h;rw[e] at this;exact this
  | cons e es =>
   rw[M3,A3] at a4;exact PE.imp (cN F hrm hj hg a1 (Ct hn).1 (AH a4.1) (BK a4.2)) fun σ H Q h=>run h
 ·cases h
def dE(r:Rec)(C:Cf)(Γ:Gm)(s:wz)(es:List Expr):Option CE:=(r.A C Γ (D8 es.length true) es).bind fun c=>if es.length == s.ps.length then some ⟨1,c.Γ,c.js,MC s c.as⟩ else none
theorem Xo(R:wu r)(ok:wm C X)(hs:(x,s)∈C.fs/\s.cl=none)(yF:s.io=[])(hg:Gl X x)(hn:Sj x=true)(h:dE r C Γ s es=some c):PE X (.Call (.Name x p) es [] pos) (tE X.K Γ c.o c.Γ c.js c.f):=by
 obtain⟨c1,e1,h⟩:=wW h;split at h
 ·rename_i hw;rw[beq_iff_eq] at hw;cases h;obtain⟨a1,a2,a3,a4,_⟩:=R.A ok e1;obtain⟨nd,_,j,kk,hj,hrm,F⟩:=ok.fx hs;have run:∀{σ H Q},tE X.K Γ 1 c1.Γ c1.js (MC s c1.as) σ H Q->nC (MX X.K s) (Bl X.K c1.as) σ H Q:=fun h=>Tt a2 yF (a3.trans hw) h
  cases es with
  | nil =>
   have e:c1.as=[]:=J3 a3;refine PE.imp (Vs F hrm hj hg (Ct hn).1) fun σ H Q h=>?_
   have:=run h;rw[e] at this;exact this
  | cons e es =>
   rw[M3,A3] at a4;exact PE.imp (cN F hrm hj hg a1 (Ct hn).1 (AH a4.1) (BK a4.2)) fun σ H Q h=>run h
 ·cases h
noncomputable def Wb:Expr->Bool
 | .Dict [] [] _=>true
 | _=>false
def dG(r:Rec)(C:Cf)(Γ:Gm)(s:wz)(es:List Expr):Option CE:=none
theorem Xq(R:wu r)(ok:wm C X)(hs:(x,s)∈C.fs/\s.cl=none)(hg:Gl X x)(hn:Sj x=true)(hd:(es.getLast?.map Wb).getD false=true)(h:dG r C Γ s es=some c):PE X (.Call (.Name x p) es [] pos) (tE X.K Γ c.o c.Γ c.js c.f):=by cases h
noncomputable def oE:Expr->Bool
 | .Call ..=>true
 | _=>false
def dF(r:Rec)(C:Cf)(Γ:Gm)(s:wz)(es:List Expr):Option CE:=none
theorem Xp(R:wu r)(ok:wm C X)(hs:(x,s)∈C.fs/\s.cl=none)(hg:Gl X x)(hn:Sj x=true)(h:dF r C Γ s es=some c):PE X (.Call (.Name x p) es [] pos) (tE X.K Γ c.o c.Γ c.js c.f):=by cases h
def ia(r:Rec)(C:Cf)(Γ:Gm)(s:wz)(es:List Expr):Option CE:=if s.nb && s.io.isEmpty then dE r C Γ s es else if(es.getLast?.map Wb).getD false && s.io.contains (es.length - 1) then dG r C Γ s es else if(es.head?.map oE).getD false && s.io.contains 0 then dF r C Γ s es else dH r C Γ s es
theorem bC(R:wu r)(ok:wm C X)(hs:(x,s)∈C.fs/\s.cl=none)(hg:Gl X x)(hn:Sj x=true)(h:ia r C Γ s es=some c):PE X (.Call (.Name x p) es [] pos) (tE X.K Γ c.o c.Γ c.js c.f):=by
 unfold ia at h;split at h
 ·rename_i z;rw[A3,uo] at z;exact Xo R ok hs z.2 hg hn h
 ·split at h
  ·rename_i z;rw[A3] at z;exact Xq R ok hs hg hn z.1 h
  ·split at h
   ·exact Xp R ok hs hg hn h
   ·exact Xr R ok hs hg hn h
def Xn(r:Rec)(C:Cf)(Γ:Gm)(en:zBB)(es:List Expr):Option CE:=if es.isEmpty then none else(r.A C Γ (D8 es.length true) es).bind fun c=>some ⟨en.o,c.Γ,c.js,EX en.f (AV c.as)⟩
theorem Xm(R:wu r){en:zBB}(ok:wm C X)(hb:en.x∈C.bl)(hg:Gl X en.x)(hn:Sj en.x=true)(h:Xn r C Γ en es=some c):PE X (.Call (.Name en.x p) es [] pos) (tE X.K Γ c.o c.Γ c.js c.f):=by
 cases es with
 | nil=>cases h
 | cons e es =>
  unfold Xn at h;rw[if_neg (by simp)] at h;obtain⟨c1,e1,h⟩:=wW h;cases h;obtain⟨a1,a2,a3,a4,_⟩:=R.A ok e1;rw[M3,A3] at a4;obtain⟨rr,q1,q2⟩:=en.ok X ok.gx;have n:=Ct hn;rcases q2 with⟨id,q2,q3⟩ | ⟨T,q2,q3⟩
  ·exact PE.imp (Vu q2 hg (ok.bl _ hb) q3 a1 n.2.2 n.1 (AH a4.1) (BK a4.2)) fun _ _ _ h=>CN q1 a2 h
  ·exact PE.imp (Sg q2 hg (ok.bl _ hb) q3 a1 n.2.2 n.1 (AH a4.1) (BK a4.2)) fun _ _ _ h=>CN q1 a2 h
noncomputable def YL:Expr->Bool
 | .Call _ _ _ _=>false
 | _=>true
theorem GN{name:Str}{w:Sem Value}(h:YL o=true):Q0 o name env w=w:=by
 cases o<;>first | rfl | (cases h)
def ic(r:Rec)(C:Cf)(Γ:Gm)(en:zAz)(i:Nat)(es:List Expr):Option CE:=if es.length < 29 && (Γ.getD i none).isSome then(r.A C Γ [] es).bind fun c=>if c.Γ.getD i none == some 1 then some ⟨0,c.Γ,c.js++[i],Wx en.T i en.p (AV c.as)⟩ else none else none
theorem Lz(h:(e::es).all BD=true)(hl:(e::es).length < 29):((M6 pos (D2 (e::es) env)).all (fun x=>!x.1) && (j5 pos (U9 [] env)).all (fun x=>x.1.isSome)
      && decide ((e::es).length+([]:List j0).length+(if([]:List j0).isEmpty then 0 else 1) < 30))=true:=by
  rw[jA h];show(true && true && decide _)=true;simp only[R3,Bool.true_and,decide_eq_true_eq,rX,List.isEmpty_nil,if_true];omega
variable {apos:Pos}
theorem bE(R:wu r){en:zAz}(ok:wm C X)(hi:UU C o=some i)(xB:(apos.endLine == pos.line)=true)(h:ic r C Γ en i es=some c):PE X (.Call (.Attribute o en.x apos) es [] pos) (tE X.K Γ c.o c.Γ c.js c.f):=by
 unfold ic at h;split at h
 ·rename_i h0;simp only[A3,decide_eq_true_eq] at h0;obtain⟨c1,e1,h⟩:=wW h;split at h
  ·rename_i h1;cases h;obtain⟨a1,a2,a3,a4,a5⟩:=R.A ok e1;obtain⟨id,rr,q1,q2,q3,q4,q5⟩:=en.ok X ok.gx;have ho:=DI ok hi;have xM:Q0 o en.x X.env (M8 o X.env)=M8 o X.env:=GN (by cases o<;>first | rfl | (cases hi));have run:∀{σ H Q},tE X.K Γ 0 c1.Γ (c1.js++[i]) (Wx en.T i en.p (AV c1.as)) σ H Q->je X.K en.T rr (FM i) (Bl X.K c1.as) σ H Q:=fun h=>aD q5 en.hT a2 (a5 rfl) (getD_some h0.2) (BR (beq_iff_eq.mp h1)) h
   cases es with
   | nil =>
    have e:c1.as=[]:=J3 a3;refine PE.imp (Vw q1 q2 q3 q4 ho xM xB) fun σ H Q h=>?_
    have:=run h;rw[e] at this;exact this
   | cons e es =>
    have a4':=a4;rw[M3,A3] at a4;exact PE.imp (cP q1 q2 q3 q4 ho a1 xM (Lz a4' h0.1) xB (AH a4.1) (BK a4.2)) fun σ H Q h=>run h
  ·cases h
 ·cases h
def mU(r:Rec)(C:Cf)(Γ:Gm)(en:zAX)(o:Expr)(es:List Expr):Option CE:=if es.length < 29 && YL o then(Jl r C Γ true o).bind fun x=>(r.A C x.Γ (D8 es.length true) es).bind fun c=>if HV x.a c.Γ then some ⟨en.o,c.Γ,x.js++c.js,Wy en.T x.a c.as en.f⟩ else none else none
theorem QL(R:wu r){en:zAX}(ok:wm C X)(xB:(apos.endLine == pos.line)=true)(hn:en.n=es.length)(h:mU r C Γ en o es=some c):PE X (.Call (.Attribute o en.x apos) es [] pos) (tE X.K Γ c.o c.Γ c.js c.f):=by
 unfold mU at h;split at h
 ·rename_i h0;simp only[A3,decide_eq_true_eq] at h0;obtain⟨x,e0,h⟩:=wW h;obtain⟨c1,e1,h⟩:=wW h;split at h
  ·rename_i h1;cases h;obtain⟨o1,_,o2⟩:=Eb R ok e0;obtain⟨a1,a2,a3,a4,a5⟩:=R.A ok e1;obtain⟨id,rr,q1,q2,q3,q4,q5⟩:=en.ok X ok.gx;have xM:Q0 o en.x X.env (M8 o X.env)=M8 o X.env:=GN h0.2;rcases en.hT with hT | ⟨hT,hT1⟩
   ·have run:∀{σ H Q},tE X.K Γ en.o c1.Γ (x.js++c1.js) (Wy en.T x.a c1.as en.f) σ H Q->je X.K en.T rr (Oc X.K x.a) (Bl X.K c1.as) σ H Q:=fun h=>gG q5 hT (o2 a2 h1) h
    cases es with
    | nil =>
     have e:c1.as=[]:=J3 a3;refine PE.imp (Vw q1 q2 q3 q4 o1 xM xB) fun σ H Q h=>?_
     have:=run h;rw[e] at this;exact this
    | cons e es =>
     have a4':=a4;rw[M3,A3] at a4;exact PE.imp (cP q1 q2 q3 q4 o1 a1 xM (Lz a4' h0.1) xB (AH a4.1) (BK a4.2)) fun σ H Q h=>run h
   ·have run:∀{σ H Q},tE X.K Γ en.o c1.Γ (x.js++c1.js) (Wy en.T x.a c1.as en.f) σ H Q->ni rr (Oc X.K x.a) (Bl X.K c1.as) σ H Q:=fun h=>aF q5 (o2 a2 h1) (by rw[hT] at h;exact h)
    rw[hT] at q1 q2;cases es with
    | nil=>rw[hT1] at hn;cases hn
    | cons e es =>
     have a4':=a4;rw[M3,A3] at a4;exact PE.imp (ko q1 q2 q3 q4 o1 a1 xM (Lz a4' h0.1) xB (AH a4.1) (BK a4.2)) fun σ H Q h=>run h
  ·cases h
 ·cases h
def iT(c1 c2:CE):Option CE:=if c1.o == c2.o && c1.Γ == c2.Γ && c1.js == c2.js then some ⟨c1.o,c1.Γ,c1.js,TY (Bi c1.Γ c1.js) (iG c1.f c2.f)⟩ else none
theorem av{c1 c2:CE}(h1:PE X e (tE X.K Γ c1.o c1.Γ c1.js c1.f))(h2:PE X e (tE X.K Γ c2.o c2.Γ c2.js c2.f))(h:iT c1 c2=some c):PE X e (tE X.K Γ c.o c.Γ c.js c.f):=by
 unfold iT at h;split at h
 ·rename_i h0;simp only[A3,beq_iff_eq] at h0;obtain⟨⟨e1,e2⟩,e3⟩:=h0;cases h;rw[<- e1,<- e2,<- e3] at h2;intro pins s σ H Q I q;rcases eA (Lq (fun i o z=>Br z) (fun i z=>BL z) q) with q | q
  ·exact h1 pins s σ H Q I q
  ·exact h2 pins s σ H Q I q
 ·cases h
def dI(r:Rec)(C:Cf)(Γ:Gm)(en:zAz)(i:Nat)(f:Str)(es:List Expr):Option CE:=none
theorem Xu(R:wu r){en:zAz}{q:Nat×Str}(ok:wm C X)(hi:cp C o=some q)(xB:(apos.endLine == pos.line)=true)(h:dI r C Γ en q.1 q.2 es=some c):PE X (.Call (.Attribute o en.x apos) es [] pos) (tE X.K Γ c.o c.Γ c.js c.f):=by cases h
def Xw(r:Rec)(C:Cf)(Γ:Gm)(mt:Str)(s:wz)(i:Nat)(es:List Expr):Option CE:=if es.length < 29 && (Γ.getD i none).isSome then(r.A C Γ ((A5 es.length).map fun j=>s.io.contains (j+1)) es).bind fun c=>if low c.Γ i && cI (.rf i::c.as) s.io && (es.length+1 == s.ps.length) && (slots (.rf i::c.as) s.io).all (fun j=>c.Γ.getD j none == some 1) then some ⟨s.ro,c.Γ,c.js++slots (.rf i::c.as) s.io,MB s (s.cl.getD "") mt i c.as⟩ else none else none
theorem LB{name:Str}{apos pos:Pos}{args:List Expr}(xM:Q0 o name env (M8 o env)=M8 o env)
    (zAs:methodCallForm (args.length+([]:List j0).length) (M6 pos (D2 args env)) (j5 pos (U9 [] env))=true) (xB:(apos.endLine == pos.line)=true) :
    M8 (.Call (.Attribute o name apos) args [] pos) env=(do
      let ov <- M8 o env
      sV apos.atName
      let (f,first) <- Z0 [ov] (qx ov name (do return (<- importBound o env).getD true))
      tf pos f first (M6 pos (D2 args env)) (j5 pos (U9 [] env))):=by
  have zDd:methodCallPos true o env apos pos=pure pos:=by unfold methodCallPos;simp[xB]
  rw[arm_eval_Call,xM];unfold methodCall;rw[zAs,zDd];rfl
theorem Lj(h:X.xe=fun _ _=>False):DN Qb X E0:=fun _ _ _ _ _ _ _ z=>z.elim
theorem Xv(R:wu r){mt cl:Str}(ok:wm C X)(hs:(mt,s)∈C.fs)(ye:s.cl=some cl)(hi:UU C o=some i)(xB:(apos.endLine == pos.line)=true)(h:Xw r C Γ mt s i es=some c):PE X (.Call (.Attribute o mt apos) es [] pos) (tE X.K Γ c.o c.Γ c.js c.f):=by
 obtain⟨xo,po,rfl⟩:∃xo po,o=.Name xo po:=by cases o<;>first | exact⟨_,_,rfl⟩ | (cases hi)
 unfold Xw at h;split at h
 ·rename_i h0;simp only[A3,decide_eq_true_eq] at h0;obtain⟨h29,h0⟩:=h0;obtain⟨c1,e1,h⟩:=wW h;split at h
  ·rename_i hw;simp only[A3,F8,beq_iff_eq] at hw;cases h;obtain⟨a1,a2,a3,a4,_⟩:=R.A ok e1;obtain⟨nd,yF,j,kk,hj,hrm,F⟩:=ok.fs mt s hs;unfold Fz at F;rw[ye] at F;obtain⟨j',f,fd,hjj,F1,F2,F3,F4,F5,_⟩:=F;have ch:AD Γ (.rf i::c1.as) c1.Γ c1.js:=by unfold AD;exact⟨getD_some h0,Gr hw.1.1.1,a2⟩
   have run:∀{σ H Q},tE X.K Γ s.ro c1.Γ (c1.js++slots (.rf i::c1.as) s.io) (MB s (s.cl.getD "") mt i c1.as) σ H Q->Qk (DY X.K cl) mt (MX X.K s) [] E0 (FM i) (Bl X.K c1.as) σ H Q:=fun h=>by
    rw[ye] at h;exact WJ ch hw.1.1.2 (by rw[<- hw.1.2];simp[a3]) nd yF (fun i hi=>BR (hw.2 i hi)) h
   have hrr:wt j' X.A:=hrm.mono (by omega);cases es with
   | nil =>
    have e:c1.as=[]:=J3 a3;refine PE.imp (Vq (DI ok hi) F4.1 F3 F1 hrr F2 .nil (Lj ok.xe) (LB rfl rfl xB)) fun σ H Q h=>?_
    have:=run h;rw[e] at this;exact this
   | cons e es =>
    have a4':=a4;rw[M3,A3] at a4;exact PE.imp (Zj (DI ok hi) F4.1 F3 F1 hrr F2 .nil (Lj ok.xe) a1 (AH a4.1) (BK a4.2) (LB rfl (Lz a4' h29) xB)) fun σ H Q h=>run h
  ·cases h
 ·cases h
def dJ(r:Rec)(C:Cf)(Γ:Gm)(s:wz)(x:Str)(es:List Expr):Option CE:=(r.A C Γ [] es).bind fun c=>if(es.length+1 == s.ps.length) && s.io == [0] then some ⟨1,c.Γ,c.js,QA s x C.fl c.as⟩ else none
theorem Xx(R:wu r)(ok:wm C X)(hs:(("__init__" : Str),s)∈C.fs)(ye:s.cl=some x)(hg:Gl X x)(hn:Sj x=true)(h:dJ r C Γ s x es=some c):PE X (.Call (.Name x p) es [] pos) (tE X.K Γ c.o c.Γ c.js c.f):=by
 obtain⟨c1,e1,h⟩:=wW h;split at h
 ·rename_i hw;simp only[A3,beq_iff_eq] at hw;cases h;obtain⟨a1,a2,a3,a4,a5⟩:=R.A ok e1
  obtain⟨nd,yF,j,kk,hj,hrm,F⟩:=ok.fs "__init__" s hs
  unfold Fz at F;rw[ye] at F;obtain⟨j',f,fd,hjj,F1,F2,F3,F4,F5,F6⟩:=F;have run:∀{σ H Q},tE X.K Γ 1 c1.Γ c1.js (QA s x C.fl c1.as) σ H Q->Ql (DY X.K x) (MX X.K s) [] E0 (Bl X.K c1.as) σ H Q:=fun h=>WN F4 hw.2 (by rw[<- hw.1,a3]) (a5 rfl) a2 h
  have hrr:wt (j'+1) X.A:=hrm.mono (by omega);cases es with
  | nil =>
   have e:c1.as=[]:=J3 a3;refine PE.imp (Vr (F6 rfl) F1 hrr hg F5 F2 .nil (Lj ok.xe) (Ct hn).1) fun σ H Q h=>?_
   have:=run h;rw[e] at this;exact this
  | cons e es =>
   rw[M3,A3] at a4;exact PE.imp (Zk (F6 rfl) F1 hrr hg F5 F2 .nil (Lj ok.xe) a1 (Ct hn).1 (AH a4.1) (BK a4.2)) fun σ H Q h=>run h
 ·cases h
def oV(r:Rec)(C:Cf)(Γ:Gm)(o:Expr)(es:List Expr):List zAX->Option CE
 | []=>none
 | [en]=>mU r C Γ en o es
 | en::en2::_=>(mU r C Γ en o es).bind fun c1=>(mU r C Γ en2 o es).bind fun c2=>iT c1 c2
def OM(r:Rec)(C:Cf)(Γ:Gm)(f:Expr)(es:List Expr)(pos:Pos):Option CE:=match f with
  | .Name x _=>if JG C.sc x && Sj x then(match C.fs.find? fun p=>p.1 == x && p.2.cl == none with
      | some p=>ia r C Γ p.2 es
      | none=>match C.fs.find? fun p=>p.1 == ("__init__" : Str) && p.2.cl == some x with
      | some p=>dJ r C Γ p.2 x es
      | none=>(C.T.calls.find? fun e=>e.x == x && e.n == es.length).bind fun en=>if C.bl.contains x then Xn r C Γ en es else none) else none
  | .Attribute o name apos=>if apos.endLine == pos.line then(match C.T.zCa.find? fun e=>e.x == name && e.n == es.length with
      | some en=>(match cp C o with
        | some q=>dI r C Γ en q.1 q.2 es
        | none=>(UU C o).bind fun i=>ic r C Γ en i es)
      | none=>match C.fs.find? fun p=>p.1 == name && p.2.cl != none with
        | some p=>(UU C o).bind fun i=>Xw r C Γ name p.2 i es
        | none=>oV r C Γ o es (C.T.meths.filter fun e=>e.x == name && e.n == es.length)) else none
  | _=>none
theorem OL(R:wu r){f:Expr}(ok:wm C X)(h:OM r C Γ f es pos=some c):PE X (.Call f es [] pos) (tE X.K Γ c.o c.Γ c.js c.f):=by
 cases f with
 | Name x p =>
  simp only[OM] at h;split at h
  ·rename_i h0;rw[A3] at h0;split at h
   ·rename_i p' hp;have e:=O7 hp;simp only[A3,beq_iff_eq] at e;have hm:=S7 hp;exact bC R ok (s:=p'.2) ⟨by rw[<- e.1];exact hm,e.2⟩ (Bc ok h0.1) h0.2 h
   ·split at h
    ·rename_i p' hp;have e:=O7 hp;simp only[A3,beq_iff_eq] at e;have hm:=S7 hp;exact Xx R ok (s:=p'.2) (by rw[<- e.1];exact hm) e.2 (Bc ok h0.1) h0.2 h
    replace h:=wW h;obtain⟨en,e1,h⟩:=h;split at h
    ·rename_i hb;have e:=O7 e1;simp only[A3,beq_iff_eq] at e;obtain⟨rfl,_⟩:=e;exact Xm R ok (C3.mp hb) (Bc ok h0.1) h0.2 h
    ·cases h
  ·cases h
 | Attribute o name apos =>
  simp only[OM] at h;split at h
  ·rename_i hl;split at h
   ·rename_i en he;have e:=O7 he;simp only[A3,beq_iff_eq] at e;obtain⟨rfl,_⟩:=e;split at h
    ·rename_i q hq;exact Xu R ok hq hl h
    ·obtain⟨i,e1,h⟩:=wW h;exact bE R ok e1 hl h
   ·split at h
    ·rename_i p' hp;have e:=O7 hp;simp only[A3,beq_iff_eq,bne_iff_ne,ne_eq] at e;obtain⟨cl,ye⟩:=Option.ne_none_iff_exists'.mp e.2;have hm:=S7 hp;obtain⟨i,e1,h⟩:=wW h;exact Xv R ok (s:=p'.2) (by rw[<- e.1];exact hm) ye e1 hl h
    have hm:∀en∈C.T.meths.filter fun e=>e.x == name && e.n == es.length,en.x=name/\en.n=es.length:=fun en he=>by
     have:=(G4.mp he).2;simp only[A3,beq_iff_eq] at this;exact this
    revert h hm
    generalize (C.T.meths.filter fun e=>e.x == name && e.n == es.length)=L;intro h hm
    match L,hm,h with
    | [],hm,h=>cases h
    | [en],hm,h =>
     obtain⟨rfl,e2⟩:=hm en B1;exact QL R ok hl e2 h
    | en::en2::_,hm,h =>
     obtain⟨c1,e1,h⟩:=wW h;obtain⟨c2,e2,h⟩:=wW h;obtain⟨q1,q2⟩:=hm en B1;obtain⟨q3,q4⟩:=hm en2 (A9 _ B1);have p1:=QL (pos:=pos) (apos:=apos) R ok hl q2 e1;have p2:=QL (pos:=pos) (apos:=apos) R ok hl q4 e2;rw[q1] at p1;rw[q3] at p2;exact av p1 p2 h
  ·cases h
 | _=>cases h
def MT(C:Cf)(x:Str):Option Nat:=if Sj x then(match C.sc.names.lookup x with
 | some .local=>Df C.N x
 | some .cell=>if C.fn x then Df C.N x else none
 | _=>none) else none
theorem MS(ok:wm C X)(h:MT C x=some i):X.N[i]?=some x/\Loc X.env.scope x/\(X.fn x=true\/X.env.scope.names.lookup x=some .local):=by
 unfold MT at h;split at h
 ·split at h
  ·rename_i e;rw[ok.N,ok.sc];exact⟨By h,.inl e,.inr e⟩
  ·rename_i e;split at h
   ·rename_i hf;rw[ok.N,ok.sc];exact⟨By h,.inr e,.inl (ok.fn x hf)⟩
   ·cases h
  ·cases h
 ·cases h
theorem Rw(ok:wm C X)(h:MT C x=some i):PG X (.Name x pos) (DW i):=by
 obtain⟨h1,h2,h3⟩:=MS ok h;exact Zi ok.nd h1 h2 h3
def jG(C:Cf):List Expr->Option (List Nat)
 | []=>some []
 | .Name x _::es=>(MT C x).bind fun i=>(jG C es).bind fun J=>some (i::J)
 | _::_=>none
theorem Ui{C:Cf}{X:Cx}(ok:wm C X):∀{es:List Expr} {J:List Nat},jG C es=some J->jD X es (EW J)/\(O2 es X.env).length=J.length/\(O2 es X.env).findIdx? (·.1)=none
 | [],J,h=>by cases h;exact⟨RC,rfl,rfl⟩
 | e::es,J,h=>by
  cases e with
  | Name x pos =>
   obtain⟨i,e1,h⟩:=wW (show(MT C x).bind (fun i=>(jG C es).bind fun J=>some (i::J))=some J from h);obtain⟨J',e2,h⟩:=wW h;cases h;obtain⟨h1,h2,h3⟩:=Ui ok e2;refine⟨Iu (Rw ok e1) h1 rfl,?_,?_⟩
   ·show(O2 es X.env).length+1=_;rw[h2];rfl
   ·show ve (·.1) ((false,Z9 (.Name x pos) X.env)::O2 es X.env)=none;rw[List.findIdx?_cons,h3];rfl
  | _=>cases h
structure CG:Type 1 where
 J:List Nat
 f:Tg
 g:W.Frag->TG
 Γ:Gm->Gm
def UF(C:Cf)(e:Expr):Option CG:=match e with
 | .Name x _=>(MT C x).map fun i=>⟨[i],jS i,fun _=>DW i,fun Γ=>Γ.set i (some 0)⟩
 | .Tuple es _ _=>(jG C es).map fun J=>⟨J,pG J,fun K=>Wn K J.length (EW J),fun Γ=>VN Γ J (some 0)⟩
 | _=>none
theorem QM{c:CG}(ok:wm C X)(h:UF C e=some c):PG X e (c.g X.K)/\(∀js,(∀i∈c.J,i∈js)->UT js (c.g X.K))/\∀{K Γ},c.J.all (fun i=>decide (i < Γ.length))=true->QW K Γ (c.Γ Γ) c.J (c.g K) c.f:=by
 cases e with
 | Name x pos =>
  cases q:MT C x with
  | none=>simp only[UF,q] at h;cases h
  | some i =>
   simp only[UF,q] at h;cases h;exact⟨Rw ok q,fun js hj=>Wi (hj i (N9 _)),fun h=>Yo (by simpa using h)⟩
 | Tuple es k pos =>
  cases q:jG C es with
  | none=>simp only[UF,q] at h;cases h
  | some J =>
   simp only[UF,q] at h;cases h;obtain⟨h1,h2,h3⟩:=Ui ok q;exact⟨PG.or (Vm ok.calm h1 h2 h3) (Vo ok.calm h1 h2 h3),fun js hj=>Wh (RS (FQ J hj)) (RU (FQ J hj)),fun h=>Uj (by simpa using h)⟩
 | _=>cases h
theorem OJ{c:CG}(h:UF C e=some c):(∀K,YW (c.g K))/\(∀Γ,(c.Γ Γ).length=Γ.length)/\(∀es env,O2 (e::es) env=(false,Z9 e env)::O2 es env):=by
 cases e with
 | Name x pos =>
  cases q:MT C x with
  | none=>simp only[UF,q] at h;cases h
  | some i =>
   simp only[UF,q] at h;cases h;exact⟨fun _=>Kn,fun _=>E1 ..,fun _ _=>rfl⟩
 | Tuple es k pos =>
  cases q:jG C es with
  | none=>simp only[UF,q] at h;cases h
  | some J =>
   simp only[UF,q] at h;cases h;exact⟨fun _=>WH (JD J),fun _=>VM ..,fun _ _=>rfl⟩
 | _=>cases h
def qL(C:Cf)(e1 e2:Expr):Option CG:=(UF C e1).bind fun c1=>(UF C e2).bind fun c2=>some ⟨c1.J++c2.J,pF c1.f c2.f,fun K=>Wn K 2 (DX (c1.g K) (DX (c2.g K) NZ)),fun Γ=>c2.Γ (c1.Γ Γ)⟩
def cG(C:Cf)(e:Expr):Option CG:=match UF C e with
 | some c=>some c
 | none=>match e with
  | .Tuple [e1,e2] _ _=>qL C e1 e2
  | _=>none
theorem Rq{c:CG}(ok:wm C X)(h:cG C e=some c):PG X e (c.g X.K)/\(∀js,(∀i∈c.J,i∈js)->UT js (c.g X.K))/\∀{K Γ},c.J.all (fun i=>decide (i < Γ.length))=true->QW K Γ (c.Γ Γ) c.J (c.g K) c.f:=by
 unfold cG at h;split at h
 ·rename_i c' q;cases h;exact QM ok q
 ·split at h
  ·rename_i e1 e2 k pos _;obtain⟨c1,q1,h⟩:=wW h;obtain⟨c2,q2,h⟩:=wW h;cases h;obtain⟨p1,o1,t1⟩:=QM ok q1;obtain⟨p2,o2,t2⟩:=QM ok q2;obtain⟨m1,l1,a1⟩:=OJ q1;obtain⟨m2,l2,a2⟩:=OJ q2;have ea:O2 [e1,e2] X.env=[(false,Z9 e1 X.env),(false,Z9 e2 X.env)]:=by rw[a1,a2];rfl
   have hp:jD X [e1,e2] (DX (c1.g X.K) (DX (c2.g X.K) NZ)):=Iu p1 (Iu p2 RC (by rw[a2];rfl)) (by rw[a1];rfl);refine⟨PG.or (Vm ok.calm hp (by rw[ea];rfl) (by rw[ea];rfl)) (Vo ok.calm hp (by rw[ea];rfl) (by rw[ea];rfl)),fun js hj=>?_,fun{K Γ} h=>?_⟩
   ·have g:=JM (m1 X.K) (Ko (m2 X.K) JC) (o1 js fun i hi=>hj i (D7 _ hi)) (JM (m2 X.K) JC (o2 js fun i hi=>hj i (B8 _ hi)) NY);exact Wh (RS g) (RU g)
   ·rw[List.all_append,A3] at h;exact Yn (t1 h.1) (t2 (by rw[l1];exact h.2))
  ·cases h
def oS(r:Rec)(C:Cf)(Γ:Gm)(en:zDE)(es:List Expr):Option CI:=(r.A C Γ [] es).bind fun c=>some ⟨c.Γ,c.js,cu en.f (AV c.as)⟩
def iX(r:Rec)(C:Cf)(Γ:Gm)(e:Expr):Option CI:=(r.E C Γ e).bind fun c=>some ⟨c.Γ,c.js,Rf c.f⟩
def Uw(r:Rec)(C:Cf)(Γ:Gm)(tt:Bool)(e:Expr):Option CI:=match e with
  | .Call (.Name x _) es [] _=>(match C.T.zCS.find? fun en=>en.x == x && en.n == es.length && (!en.tt || tt) with
      | some en=>if JG C.sc x && C.bl.contains x && (C.fs.find? fun p=>p.1 == x).isNone then oS r C Γ en es else none
      | none=>iX r C Γ e)
  | e=>iX r C Γ e
theorem Uv(R:wu r){c:CI}(tg:Expr)(ok:wm C X)(h:Uw r C Γ (NW tg) e=some c):PI X tg e (tI X.K Γ c.Γ c.js c.f):=by
 have seq:iX r C Γ e=some c->PI X tg e (tI X.K Γ c.Γ c.js c.f):=fun h=>by
  obtain⟨c1,e1,h⟩:=wW h;cases h;exact lS (He (R.E ok e1))
 unfold Uw at h;split at h
 ·rename_i x p es pos;split at h
  ·rename_i en he;split at h
   ·rename_i h0;simp only[A3] at h0;have e:=O7 he;simp only[A3,beq_iff_eq] at e;obtain⟨⟨rfl,hn⟩,htt⟩:=e;obtain⟨c1,e1,h⟩:=wW h;cases h;obtain⟨a1,a2,a3,a4,a5⟩:=R.A ok e1;obtain⟨rr,q1,q2⟩:=en.ok X ok.gx;exact PI.imp (q2 tg es p pos _ (fun z=>by rw[z] at htt;simpa using htt) hn.symm a4 (Bc ok h0.1.1) (ok.bl _ (C3.mp h0.1.2)) a1) fun _ _ _ h=>Yw q1 a2 (a5 rfl) h
   ·cases h
  ·exact seq h
 ·exact seq h
def Ih(scope sc:O1):O1:={ scope with names:=scope.names.map fun(n,k)=>if(k == .free && sc.kind == .function && sc.names.lookup n == some .cell) then(n,.cell) else(n,k) }
def Cf.inner(C:Cf)(scope:O1):Cf:={ C with sc:=Ih scope C.sc,fn:=AQ scope }
theorem wm.inner(ok:wm C X)(scope:O1)(cl:List (Str×B3))(a:B3)(s:A7)(H:Hp)(fp:List B3):wm (C.inner scope) (X.inner scope cl a s H fp) where
 N:=ok.N
 sc:=by
  show relabel scope X.env=Ih scope C.sc;unfold relabel Ih Env.kindOf;rw[ok.sc]
 nd:=ok.nd
 calm:=ok.calm
 fn:=fun _ h=>h
 room:=ok.room
 fs:=ok.fs
 cs:=ok.cs
 bl:=ok.bl
 xe:=rfl
noncomputable def Zp(N:List Str)(scope:O1):List Nat:=(A5 N.length).filter fun i=>match N[i]? with
 | some x=>(match scope.names.lookup x with | some .local=>true | some .cell=>true | _=>false)
 | none=>false
structure CC:Type 1 where
 t:CG
 c:CT
 e:CE
def Qi(r:Rec)(C:Cf)(wZ:Gm)(tg:CG)(ifs:List Expr)(elt:Expr):Option CC:=if tg.J.all (fun i=>decide (i < wZ.length)) then(match ifs with
 | []=>some (CT.mk (tg.Γ wZ) [] FV)
 | [c]=>r.T C (tg.Γ wZ) c
 | _=>none).bind fun c=>(r.E C c.Γ elt).bind fun e=>some ⟨tg,c,e⟩ else none
def iE(r:Rec)(C:Cf)(tg:CG)(ifs:List Expr)(elt:Expr):Nat->Gm->Option (Gm×CC)
 | 0,_=>none
 | n+1,wZ=>(Qi r C wZ tg ifs elt).bind fun x=>if CW wZ x.c.Γ && CW wZ x.e.Γ then some (wZ,x) else iE r C tg ifs elt n (CP wZ (CP x.c.Γ x.e.Γ))
def LD(r:Rec)(C:Cf)(Γ:Gm)(elt:Expr)(gens:List X6)(scope:O1):Option CE:=match gens with
  | [⟨tg,iter,ifs,0⟩]=>(match iter with | .Set _ _ _=>none | _=>r.I C Γ (NW tg) iter).bind fun s=>let jx:=Zp C.N scope;if xJ C.N C.sc scope jx then(cG (C.inner scope) tg).bind fun t=>(iE r (C.inner scope) t ifs elt 4 (Of jx s.Γ)).bind fun p =>
      let J:=Bi p.1 (t.J++(p.2.c.js++p.2.e.js))
      if CW p.1 (Of jx s.Γ) && t.J.all jx.contains && (J.isEmpty || ifs.isEmpty) then some ⟨1,PD jx s.Γ p.1,s.js++(t.J++(p.2.c.js++p.2.e.js)),match J,ifs with
        | [],[]=>Wz s.f t.f p.2.e.f
        | [],_=>XA s.f t.f p.2.c.f p.2.e.f
        | J,_=>Rh s.f t.f J p.2.e.f⟩ else none else none
  | _=>none
theorem RZ{r:Rec}{C:Cf}{tg:CG}{ifs:List Expr}{elt:Expr}:∀{n:Nat} {Γ:Gm} {p:Gm×CC},iE r C tg ifs elt n Γ=some p->Qi r C p.1 tg ifs elt=some p.2/\CW p.1 p.2.c.Γ=true/\CW p.1 p.2.e.Γ=true
 | 0,_,_,h=>by cases h
 | n+1,Γ,p,h=>by
  obtain⟨x,e1,h⟩:=wW (show(Qi r C Γ tg ifs elt).bind _=some p from h);split at h
  ·rename_i hw;rw[A3] at hw;cases h;exact⟨e1,hw.1,hw.2⟩
  ·exact RZ h
theorem fZ:dU X [] (tT X.K Γ Γ [] FV):=fun pins s σ H Q I h=>by
 obtain⟨g,m,P,r,R,k,res,e,q⟩:=h;exact wpAny_tests_nil ⟨H,I,q true m g P H e Bw.refl Step.refl r⟩
theorem LC(R:wu r){elt:Expr}{gens:List X6}{scope:O1}{pos:Pos}(ok:wm C X)(h:LD r C Γ elt gens scope=some c) :
    ∃t:TE,(∀σ H Q,tE X.K Γ c.o c.Γ c.js c.f σ H Q->t σ H Q)/\PE X (.ListComp elt gens scope pos) t/\∀{i x pos' y0},X.N[i]?=some x->Loc X.env.scope x->(X.fn x=true\/X.env.scope.names.lookup x=some .local)->V8 (.ListComp elt gens scope pos) (some (.Name x pos')) y0.line X.env=pure true->PS X (.Assign [.Name x pos'] (.ListComp elt gens scope pos) y0) (Mh t (DW i)):=by
  unfold LD at h;split at h
  · rename_i tg iter ifs;obtain⟨s,e1,h⟩:=wW h;simp only at h;split at h
    · rename_i xW;obtain⟨t,e2,h⟩:=wW h;obtain⟨p,e3,h⟩:=wW h;split at h
      · rename_i hw;rw[A3,A3] at hw;obtain⟨hw,hq⟩:=hw;cases h;obtain⟨f1,f2,f3⟩:=RZ e3;unfold Qi at f1;split at f1
        · rename_i hj;obtain⟨ct,f1a,f1⟩:=wW f1;obtain⟨ce,f1b,f1⟩:=wW f1;have ep:p.2=⟨t,ct,ce⟩:=(D5 f1).symm;have hs:∀x,Q6 iter X.env x=pure x:=fun x=>by cases iter<;>first | rfl | (cases e1)
          have hI:r.I C Γ (NW tg) iter=some s:=by cases iter<;>first | exact e1 | (cases e1)
          have hi:=R.I tg ok hI;have okI:=fun cl a s H fp=>ok.inner scope cl a s H fp
          have hg:∀cl a s H fp,PG (X.inner scope cl a s H fp) tg (t.g X.K):=fun cl a s H fp=>(Rq (okI cl a s H fp) e2).1
          have hsx:∀i∈t.J,i∈Zp C.N scope:=fun i hi=>C3.mp ((F8.mp hw.2) i hi)
          have hgo:UT (Zp C.N scope) (t.g X.K):=(Rq (okI [] 0 X.xC X.H₀ []) e2).2.1 _ hsx;have ht:QW X.K p.1 (t.Γ p.1) t.J (t.g X.K) t.f:=(Rq (okI [] 0 X.xC X.H₀ []) e2).2.2 hj;have he:∀cl a s H fp,PE (X.inner scope cl a s H fp) elt (tE X.K ct.Γ 0 ce.Γ ce.js ce.f):=fun cl a s H fp=>He (R.E (okI cl a s H fp) f1b)
          have zBI:xJ X.N X.env.scope scope (Zp C.N scope)=true:=by rw[ok.N,ok.sc];exact xW
          rw[ep] at f2 f3 hq ⊢;simp only at f2 f3 hq ⊢;cases ifs with
          | nil =>
            cases f1a;have hc:∀cl a s H fp,dU (X.inner scope cl a s H fp) [] (tT X.K (t.Γ p.1) (t.Γ p.1) [] FV):=fun cl a s H fp=>fZ
            refine⟨_,?_,NG zBI ok.calm hi hg hgo hc he hs,fun{i x pos' y0} hix hx hf hsw=>NC ok.nd hix hx zBI ok.calm hi hg hgo hc he hsw hs hf⟩;intro σ H Q h;cases hJ:Bi p.1 (t.J++([]++ce.js)) with
            | nil=>rw[hJ] at h;exact WL ht hw.1 f3 f2 hsx hJ.symm h
            | cons j J=>rw[hJ] at h;exact Tp ht hw.1 f3 f2 hsx hJ.symm h
          | cons i1 ifs =>
            cases ifs with
            | nil =>
              have hc:∀cl a s H fp,dU (X.inner scope cl a s H fp) [i1] (tT X.K (t.Γ p.1) ct.Γ ct.js ct.f):=fun cl a s H fp=>.one (R.T (okI cl a s H fp) f1a)
              refine⟨_,?_,NG zBI ok.calm hi hg hgo hc he hs,fun{i x pos' y0} hix hx hf hsw=>NC ok.nd hix hx zBI ok.calm hi hg hgo hc he hsw hs hf⟩;intro σ H Q h;cases hJ:Bi p.1 (t.J++(ct.js++ce.js)) with
              | nil=>rw[hJ] at h;exact WM ht hw.1 f3 f2 hsx hJ.symm h
              | cons j J=>rw[hJ] at hq;cases hq
            | cons _ _=>cases f1a
        · cases f1
      · cases h
    · cases h
  · cases h
theorem OK(R:wu r){elt:Expr}{gens:List X6}{scope:O1}(ok:wm C X)(h:LD r C Γ elt gens scope=some c):PE X (.ListComp elt gens scope pos) (tE X.K Γ c.o c.Γ c.js c.f):=by
 obtain⟨t,h1,h2,_⟩:=LC (pos:=pos) R ok h;exact PE.imp h2 h1
end R
namespace Q
open PySem L2
end Q
namespace HT
open PySem PyProof.Rows
end HT
namespace L2
open PySem PySem.Spec PyProof.Rows
end L2
namespace Q
open PySem L2
end Q
namespace R
open PySem L2
noncomputable def gI(f:Expr)(es:List Expr):Option (List Expr):=match f,es with
 | .Name x _,[.Call (.Name y _) (a::es) [] _]=>if x == ("list" : Str) && y == ("range" : Str) then some (a::es) else none
 | _,_=>none
variable {f:Expr} {es:List Expr}
theorem Sx{as:List Expr}(h:gI f es=some as):∃p a es' p2 wq,f=.Name "list" p/\as=a::es'/\es=[.Call (.Name "range" p2) (a::es') [] wq]:=by
 unfold gI at h;split at h
 ·split at h
  ·rename_i e;rw[A3,beq_iff_eq,beq_iff_eq] at e;obtain⟨rfl,rfl⟩:=e;cases h;exact⟨_,_,_,_,_,rfl,rfl,rfl⟩
  ·cases h
 ·cases h
def oW(r:Rec)(C:Cf)(Γ:Gm)(as:List Expr):Option CE:=if JG C.sc "list" && JG C.sc "range" && C.bl.contains "list" && C.bl.contains "range" then(r.A C Γ (D8 as.length true) as).bind fun c=>some ⟨1,c.Γ,c.js,EX C.T.lr (AV c.as)⟩ else none
noncomputable def dq(f:Expr)(es:List Expr):Option (List Expr):=match f,es with
 | .Name x _,[.Call (.Name y _) (a::es) [] _]=>if x == ("tuple" : Str) && y == ("range" : Str) then some (a::es) else none
 | _,_=>none
theorem SL{as:List Expr}(h:dq f es=some as):∃p a es' p2 wq,f=.Name "tuple" p/\as=a::es'/\es=[.Call (.Name "range" p2) (a::es') [] wq]:=by
 unfold dq at h;split at h
 ·split at h
  ·rename_i e;rw[A3,beq_iff_eq,beq_iff_eq] at e;obtain⟨rfl,rfl⟩:=e;cases h;exact⟨_,_,_,_,_,rfl,rfl,rfl⟩
  ·cases h
 ·cases h
def pT(r:Rec)(C:Cf)(Γ:Gm)(as:List Expr):Option CE:=none
noncomputable def gH(f:Expr)(es:List Expr):Option Expr:=match f,es with
 | .Name x _,[.Call (.Name y _) [a] [] _]=>if x == ("list" : Str) && y == ("reversed" : Str) then some a else none
 | _,_=>none
variable {a:Expr}
theorem Sw(h:gH f es=some a):∃p p2 wq,f=.Name "list" p/\es=[.Call (.Name "reversed" p2) [a] [] wq]:=by
 unfold gH at h;split at h
 ·split at h
  ·rename_i e;rw[A3,beq_iff_eq,beq_iff_eq] at e;obtain⟨rfl,rfl⟩:=e;cases h;exact⟨_,_,_,rfl,rfl⟩
  ·cases h
 ·cases h
def pW(r:Rec)(C:Cf)(Γ:Gm)(a:Expr):Option CE:=none
variable {r:Rec} {C:Cf} {X:Cx} {Γ:Gm} {p p2 wq pos:Pos}
theorem ig(R:wu r){c:CE}(ok:wm C X)(h:pW r C Γ a=some c):PE X (.Call (.Name "list" p) [.Call (.Name "reversed" p2) [a] [] wq] [] pos) (tE X.K Γ c.o c.Γ c.js c.f):=by cases h
theorem ij(R:wu r){es':List Expr}{c:CE}(ok:wm C X)(h:oW r C Γ (a::es')=some c):PE X (.Call (.Name "list" p) [.Call (.Name "range" p2) (a::es') [] wq] [] pos) (tE X.K Γ c.o c.Γ c.js c.f):=by
 unfold oW at h;split at h
 ·rename_i hg;simp only[A3] at hg;obtain⟨⟨⟨g1,g2⟩,g3⟩,g4⟩:=hg;obtain⟨c1,e1,h⟩:=wW h;cases h;obtain⟨a1,a2,a3,a4,_⟩:=R.A ok e1;rw[M3,A3] at a4;exact PE.imp (PV ok.calm (Bc ok g1) (ok.bl _ (C3.mp g3)) (Bc ok g2) (ok.bl _ (C3.mp g4)) a1 rfl rfl (AH a4.1) (BK a4.2)) fun _ _ _ h=>CN (C.T.zCc X ok.gx) a2 h
 ·cases h
theorem iV(R:wu r){es':List Expr}{c:CE}(ok:wm C X)(h:pT r C Γ (a::es')=some c):PE X (.Call (.Name "tuple" p) [.Call (.Name "range" p2) (a::es') [] wq] [] pos) (tE X.K Γ c.o c.Γ c.js c.f):=by cases h
noncomputable def aq(n m:Str)(f:Expr)(es:List Expr):Option Expr:=match f,es with
 | .Name x _,[.Call (.Name y _) [a] [] _]=>if x == n && y == m then some a else none
 | _,_=>none
theorem LA{n m:Str}(h:aq n m f es=some a):∃p p2 wq,f=.Name n p/\es=[.Call (.Name m p2) [a] [] wq]:=by
 unfold aq at h;split at h
 ·split at h
  ·rename_i e;rw[A3,beq_iff_eq,beq_iff_eq] at e;obtain⟨rfl,rfl⟩:=e;cases h;exact⟨_,_,_,rfl,rfl⟩
  ·cases h
 ·cases h
def oU(r:Rec)(C:Cf)(Γ:Gm)(a:Expr):Option CE:=if JG C.sc "sorted" && JG C.sc "set" && C.bl.contains "sorted" && C.bl.contains "set" && BD a then(OW r C Γ a).bind fun x=>some ⟨1,x.Γ,x.js++[],EX (one C.T.ss) (AV [x.a])⟩ else none
theorem iY(R:wu r){c:CE}(ok:wm C X)(h:oU r C Γ a=some c):PE X (.Call (.Name "sorted" p) [.Call (.Name "set" p2) [a] [] wq] [] pos) (tE X.K Γ c.o c.Γ c.js c.f):=by
 unfold oU at h;split at h
 ·rename_i hg;simp only[A3] at hg;obtain⟨⟨⟨⟨g1,g2⟩,g3⟩,g4⟩,g5⟩:=hg;obtain⟨x,e1,h⟩:=wW h;cases h;obtain⟨a1,a2⟩:=FA R ok e1;exact PE.imp (PU ok.calm (Bc ok g1) (ok.bl _ (C3.mp g3)) (Bc ok g2) (ok.bl _ (C3.mp g4)) a1 rfl rfl (AH g5) rfl) fun _ _ _ h=>CN (C.T.zCR X ok.gx) a2 h
 ·cases h
def oX(r:Rec)(C:Cf)(Γ:Gm)(a:Expr):Option CE:=if JG C.sc "list" && JG C.sc "enumerate" && C.bl.contains "list" && C.bl.contains "enumerate" && BD a then(OW r C Γ a).bind fun x=>some ⟨1,x.Γ,x.js++[],EX (one C.T.le) (AV [x.a])⟩ else none
theorem ik(R:wu r){c:CE}(ok:wm C X)(h:oX r C Γ a=some c):PE X (.Call (.Name "list" p) [.Call (.Name "enumerate" p2) [a] [] wq] [] pos) (tE X.K Γ c.o c.Γ c.js c.f):=by
 unfold oX at h;split at h
 ·rename_i hg;simp only[A3] at hg;obtain⟨⟨⟨⟨g1,g2⟩,g3⟩,g4⟩,g5⟩:=hg;obtain⟨x,e1,h⟩:=wW h;cases h;obtain⟨a1,a2⟩:=FA R ok e1;exact PE.imp (NF ok.calm (Bc ok g1) (ok.bl _ (C3.mp g3)) (Bc ok g2) (ok.bl _ (C3.mp g4)) a1 rfl rfl (AH g5) rfl) fun _ _ _ h=>CN (C.T.zCe X ok.gx) a2 h
 ·cases h
noncomputable def oj(f:Expr)(es:List Expr):Bool:=match f with
 | .Name x _=>x == ("all" : Str) && (match es with | [.ListComp ..]=>true | _=>false)
 | _=>false
def mf(r:Rec)(C:Cf)(Γ:Gm)(f:Expr)(es:List Expr)(pos:Pos):Option CE:=(OM r C Γ f es pos).bind fun c=>if oj f es && !(c.Γ == Γ) then(match OM r C (iB Γ) f es pos with
 | some c'=>if c'.js.all fun i=>(Γ.getD i none).isNone then some ⟨1,Γ,c'.js,XB c'.f⟩ else some c
 | none=>some c) else some c
theorem bM(R:wu r){c:CE}(ok:wm C X)(h:mf r C Γ f es pos=some c):PE X (.Call f es [] pos) (tE X.K Γ c.o c.Γ c.js c.f):=by
 obtain⟨c0,e0,h⟩:=wW h;have p0:=OL R ok e0;split at h
 ·split at h
  ·rename_i c' e1;split at h
   ·rename_i hj;cases h;refine PE.imp (OL R ok e1) fun _ _ _ h=>WR (fun i o hi z=>?_) h
    have:=(F8.mp hj) i z;rw[B7,hi] at this;cases this
   ·cases h;exact p0
  ·cases h;exact p0
 ·cases h;exact p0
def QO(r:Rec)(C:Cf)(Γ:Gm)(f:Expr)(es:List Expr)(pos:Pos):Option CE:=match gI f es with
 | some as=>oW r C Γ as
 | none=>match gH f es with
  | some a=>pW r C Γ a
  | none=>match dq f es with
   | some as=>pT r C Γ as
   | none=>match aq "sorted" "set" f es with
    | some a=>oU r C Γ a
    | none=>match aq "list" "enumerate" f es with
     | some a=>oX r C Γ a
     | none=>mf r C Γ f es pos
theorem UJ(R:wu r){c:CE}(ok:wm C X)(h:QO r C Γ f es pos=some c):PE X (.Call f es [] pos) (tE X.K Γ c.o c.Γ c.js c.f):=by
 unfold QO at h;split at h
 ·rename_i as e;obtain⟨p,a,es',p2,wq,rfl,rfl,rfl⟩:=Sx e;exact ij R ok h
 ·split at h
  ·rename_i a e;obtain⟨p,p2,wq,rfl,rfl⟩:=Sw e;exact ig R ok h
  ·split at h
   ·rename_i as e;obtain⟨p,a,es',p2,wq,rfl,rfl,rfl⟩:=SL e;exact iV R ok h
   ·split at h
    ·rename_i a e;obtain⟨p,p2,wq,rfl,rfl⟩:=LA e;exact iY R ok h
    ·split at h
     ·rename_i a e;obtain⟨p,p2,wq,rfl,rfl⟩:=LA e;exact ik R ok h
     ·exact bM R ok h
def mQ(r:Rec)(C:Cf)(Γ:Gm)(a st:Expr):Option CE:=none
theorem az(R:wu r){st:Expr}{c:CE}(ok:wm C X)(h:mQ r C Γ a st=some c):PE X (.Subscript a (.Slice none none (some st) p2) pos) (tE X.K Γ c.o c.Γ c.js c.f):=by cases h
noncomputable def aG(f:Expr)(es:List Expr)(ks:List j0):Option (Expr×Expr):=match f,es,ks with
 | .Name x _,[a],[⟨some y,e,_⟩]=>if x == ("max" : Str) && y == ("default" : Str) then some (a,e) else none
 | _,_,_=>none
theorem Su{ks:List j0}{q:Expr×Expr}(h:aG f es ks=some q):∃p kp,f=.Name "max" p/\es=[q.1]/\ks=[⟨some "default", q.2,kp⟩]:=by
 unfold aG at h;split at h
 ·split at h
  ·rename_i e;rw[A3,beq_iff_eq,beq_iff_eq] at e;obtain⟨rfl,rfl⟩:=e;cases h;exact⟨_,_,rfl,rfl,rfl⟩
  ·cases h
 ·cases h
def pV(r:Rec)(C:Cf)(Γ:Gm)(a e:Expr):Option CE:=none
variable {e:Expr}
theorem ie(R:wu r){kp:Pos}{c:CE}(ok:wm C X)(h:pV r C Γ a e=some c):PE X (.Call (.Name "max" p) [a] [⟨some "default", e,kp⟩] pos) (tE X.K Γ c.o c.Γ c.js c.f):=by cases h
def ML(r:Rec)(C:Cf)(Γ:Gm)(f:Expr)(es:List Expr)(ks:List j0)(pos:Pos):Option CE:=match ks with
 | []=>QO r C Γ f es pos
 | k::ks=>match aG f es (k::ks) with
  | some q=>pV r C Γ q.1 q.2
  | none=>none
theorem UK(R:wu r){ks:List j0}{c:CE}(ok:wm C X)(h:ML r C Γ f es ks pos=some c):PE X (.Call f es ks pos) (tE X.K Γ c.o c.Γ c.js c.f):=by
 cases ks with
 | nil=>exact UJ R ok h
 | cons k ks =>
  cases q:aG f es (k::ks) with
  | none=>unfold ML at h;simp only[q] at h;cases h
  | some z =>
   unfold ML at h;simp only[q] at h;obtain⟨p,kp,e1,e2,e3⟩:=Su q;rw[e1,e2,e3];exact ie R ok h
def dM(C:Cf)(Γ:Gm)(o:Expr)(f:Str):Option CE:=none
theorem Xy{o:Expr}{f:Str}{c:CE}(ok:wm C X)(h:dM C Γ o f=some c):PE X (.Attribute o f pos) (tE X.K Γ c.o c.Γ c.js c.f):=by cases h
def cF(r:Rec)(C:Cf)(Γ:Gm)(e:Expr):Option CE:=match e with
 | .Constant k _ _=>YB Γ k
 | .Name x _=>Xt C Γ x
 | .BinOp a op b _=>ma r C Γ a op b
 | .UnaryOp .USub a _=>mT r C Γ a
 | .UnaryOp .Not a _=>mS r C Γ a
 | .Compare a [op] [b] _=>(QN r C Γ a op b).map jJ
 | .Compare a [op,op'] [b,c] _=>(UI r C Γ a op b op' c).map jJ
 | .BoolOp op vs pos=>Uz r C Γ op vs pos
 | .IfExp c a b _=>mW r C Γ c a b
 | .Call f es ks pos=>ML r C Γ f es ks pos
 | .Tuple es _ _=>mO r C Γ es
 | .List es _=>mV r C Γ es
 | .Dict [] [] _=>some ⟨1,Γ,[],Ww⟩
 | .Subscript a (.Slice lo hi none _) _=>pU r C Γ a lo hi
 | .Subscript a (.Slice none none (some st) _) _=>mQ r C Γ a st
 | .Subscript a b _=>if HY b then oY r C Γ a b else none
 | .ListComp e gens sc _=>LD r C Γ e gens sc
 | .Attribute o f _=>dM C Γ o f
 | _=>none
theorem Ux(R:wu r){c:CE}(ok:wm C X)(h:cF r C Γ e=some c):PE X e (tE X.K Γ c.o c.Γ c.js c.f):=by
 match e,h with
 | .Constant k j pos,h=>exact UG h
 | .Name x pos,h=>exact Xs ok h
 | .BinOp a op b pos,h=>exact bK R ok h
 | .UnaryOp op a pos,h =>
  cases op with
  | USub=>exact bD R ok h
  | Not =>
   obtain⟨c1,e1,h⟩:=wW (show(r.E C Γ a).bind _=some c from h);cases h;exact PE.imp (fT (He (R.E ok e1))) fun _ _ _ h=>eB h
  | _=>cases h
 | .Compare a ops bs pos,h =>
  match ops,bs,h with
  | [op],[b],h =>
   cases q:QN r C Γ a op b with
   | none=>replace h:(QN r C Γ a op b).map jJ=some c:=h;rw[q] at h;cases h
   | some t =>
    replace h:(QN r C Γ a op b).map jJ=some c:=h;rw[q] at h;cases h;exact(Rt R ok q).2 1
  | [op,op'],[b,d],h =>
   cases q:UI r C Γ a op b op' d with
   | none=>replace h:(UI r C Γ a op b op' d).map jJ=some c:=h;rw[q] at h;cases h
   | some t =>
    replace h:(UI r C Γ a op b op' d).map jJ=some c:=h;rw[q] at h;cases h;exact(Ru R ok q).2 1
  | [],_,h=>cases h
  | [_],[],h=>cases h
  | [_],_::_::_,h=>cases h
  | [_,_],[],h=>cases h
  | [_,_],[_],h=>cases h
  | [_,_],_::_::_::_,h=>cases h
  | _::_::_::_,_,h=>cases h
 | .BoolOp op vs pos,h=>exact SO R ok h
 | .IfExp c a b pos,h=>exact bG R ok h
 | .Call f es ks pos,h=>exact UK R ok h
 | .Tuple es k pos,h=>exact aw R ok h
 | .List es pos,h=>exact bF R ok h
 | .Dict ks vs pos,h =>
  cases ks with
  | nil =>
   cases vs with
   | nil=>cases h;exact kG
   | cons _ _=>cases h
  | cons _ _=>cases h
 | .Subscript a b pos,h =>
  have ix:HY b=true->(if HY b then oY r C Γ a b else none)=some c->PE X (.Subscript a b pos) (tE X.K Γ c.o c.Γ c.js c.f):=fun hb h=>by
   rw[if_pos hb] at h;exact il R ok hb h
  match b,h with
  | .Slice lo hi st p2,h =>
   cases st with
   | none=>exact iW R ok h
   | some st =>
    cases lo with
    | none =>
     cases hi with
     | none=>exact az R ok h
     | some _=>cases h
    | some _=>cases h
  | .NamedExpr ..,h | .BinOp ..,h | .Lambda ..,h | .Dict ..,h | .Set ..,h | .ListComp ..,h | .SetComp ..,h | .DictComp ..,h | .GeneratorExp ..,h | .Await ..,h | .Yield ..,h | .YieldFrom ..,h | .Call ..,h | .FormattedValue ..,h | .JoinedStr ..,h | .Constant ..,h | .Attribute ..,h | .Subscript ..,h | .Starred ..,h | .Name ..,h | .List ..,h | .Tuple ..,h | .UnaryOp ..,h | .BoolOp ..,h | .IfExp ..,h | .Compare ..,h=>exact ix rfl h
 | .ListComp e gens sc pos,h=>exact OK R ok h
 | .Attribute o f pos,h=>exact Xy ok h
 | .NamedExpr ..,h | .Lambda ..,h | .Set ..,h | .SetComp ..,h | .DictComp ..,h | .GeneratorExp ..,h | .Await ..,h | .Yield ..,h | .YieldFrom ..,h | .FormattedValue ..,h | .JoinedStr ..,h | .Starred ..,h | .Slice ..,h=>cases h
noncomputable def WB:Expr->Bool
 | .ListComp ..=>false
 | .SetComp ..=>false
 | .DictComp ..=>false
 | _=>true
theorem IL{t:Option Expr}{l:Nat}{env:Env}(h:WB e=true):V8 e t l env=pure false:=by
 cases e<;>first | rfl | (cases h)
theorem Ua{K:W.Frag}{Γ' xH:Gm}{js:List Nat}{o:Nat}{f:Ev Dv}{σ:St}{H:Hp}{Q:VK}(hw:CW xH Γ'=true)(h:tE K Γ o xH js f σ H Q):tE K Γ o Γ' js f σ H Q:=by
 obtain⟨g,m,P,r,R,k,res,e,q⟩:=h;refine⟨g,m,P,r,R,k,res,e,fun b m' g' P' Pv v H' hk ag s rv r1 n=>?_⟩;obtain⟨g2,P2,s2,r2⟩:=r1.weaken hw;have nn:Bt Pv P':=fun a q z=>n a z q
 refine q b m' g2 P2 Pv v H' hk ag (s.trans ((s2.frame (R:=Pv)).sub (fun _ z=>z) fun _ z=>z)) (rv.held s2 r1.wb nn) r2 fun a q z=>s2.out rv.wb nn a z q
def VG(Γ:Gm):CS:=⟨some Γ,[],JV,false,false,false⟩
def mR(r:Rec)(C:Cf)(Γ:Gm)(e:Expr):Option CS:=(match UU C e with
 | some i=>(match Γ.getD i none with | some o=>some (CE.mk o (Γ.set i none) [] (Rc i)) | none=>none)
 | none=>r.E C Γ e).bind fun c=>if CW C.F.Γr c.Γ && (C.F.ro == 0 || c.o == C.F.ro) then some ⟨none,c.js,cw c.f,true,false,false⟩ else none
variable {wZ:Option Gm} {c:CS}
theorem bA(R:wu r)(ok:wm C X)(h:mR r C Γ e=some c):PS X (.Return (some e) pos) (tS X.K C.F wZ Γ c.Γ c.js c.f):=by
  obtain⟨c1,e1,h⟩:=wW h;split at h
  · rename_i hw;simp only[A3,rY,beq_iff_eq] at hw;cases h;have he:PE X e (tE X.K Γ c1.o c1.Γ c1.js c1.f):=by
      split at e1
      · rename_i i hi;split at e1
        · rename_i o ho;cases e1;exact kD (DI ok hi) (BR ho)
        · cases e1
      · exact R.E ok e1
    have he2:PE X e (tE X.K Γ C.F.ro c1.Γ c1.js c1.f):=by
      rcases hw.2 with z | z
      · rw[z];exact He he
      · rw[<- z];exact he
    exact jr (PE.imp he2 fun _ _ _ h=>Ua hw.1 h)
  · cases h
def ir(r:Rec)(C:Cf)(Γ:Gm)(e:Expr):Option CS:=if WB e then(r.E C Γ e).bind fun c=>some ⟨some c.Γ,c.js,XF c.f,false,false,false⟩ else none
theorem Rr(R:wu r)(ok:wm C X)(h:ir r C Γ e=some c):PS X (.Expr e pos) (tS X.K C.F wZ Γ c.Γ c.js c.f):=by
 unfold ir at h;split at h
 ·rename_i hn;obtain⟨c1,e1,h⟩:=wW h;cases h;exact eU (R.E ok e1) (IL hn)
 ·cases h
def Rp(C:Cf)(x:Str)(c:CE):Option CS:=(MT C x).bind fun i=>if decide (i < c.Γ.length) && !C.F.io.contains i then some ⟨some (c.Γ.set i (some c.o)),c.js++[i],XG c.f (jS i),false,false,false⟩ else none
variable {x:Str} {pos':Pos}
theorem OI{c1:CE}(ok:wm C X)(he:PE X e (tE X.K Γ c1.o c1.Γ c1.js c1.f))(hs:V8 e (some (.Name x pos')) pos.line X.env=pure false)(h:Rp C x c1=some c):PS X (.Assign [.Name x pos'] e pos) (tS X.K C.F wZ Γ c.Γ c.js c.f):=by
 obtain⟨i,e1,h⟩:=wW h;split at h
 ·rename_i hw;simp only[A3,decide_eq_true_eq,M5] at hw;cases h;obtain⟨h1,h2,h3⟩:=MS ok e1;exact jq ok.nd h1 h2 (fun z=>by rw[C3.mpr z] at hw;cases hw.2) hw.1 he hs h3
 ·cases h
def nr(sc:O1)(x:Str)(pl:Nat)(scope:O1)(vl:Nat):Bool:=(if sc.kind.isAnnotationScope then ScopeKind.function else sc.kind) == .function && sc.names.lookup x == some .local && pl == vl && !(scope.names.any fun(n,k)=>n == x && (k == .local || k == .cell))
variable {gens:List X6} {scope:O1}
theorem Uq(ok:wm C X){elt:Expr}{l:Nat}:V8 (.ListComp elt gens scope pos) (some (.Name x pos')) l X.env=pure (nr C.sc x pos'.line scope pos.line):=by
 unfold nr;rw[<- ok.sc];rfl
theorem UH(R:wu r){elt:Expr}{pos:Pos}{c:CE}(ok:wm C X)(h:LD r C Γ elt gens scope=some c) :
    ∃t:TE,(∀σ H Q,tE X.K Γ c.o c.Γ c.js c.f σ H Q->t σ H Q)/\∀{i x pos' y0},X.N[i]?=some x->Loc X.env.scope x->(X.fn x=true\/X.env.scope.names.lookup x=some .local)->V8 (.ListComp elt gens scope pos) (some (.Name x pos')) y0.line X.env=pure true->PS X (.Assign [.Name x pos'] (.ListComp elt gens scope pos) y0) (Mh t (DW i)):=by
  obtain⟨t,h1,_,h3⟩:=LC (pos:=pos) R ok h;exact⟨t,h1,h3⟩
def dP(r:Rec)(C:Cf)(Γ:Gm)(x:Str)(elt:Expr)(gens:List X6)(scope:O1):Option CS:=(LD r C Γ elt gens scope).bind fun c=>Rp C x c
theorem YE(R:wu r){elt:Expr}{xO:Pos}(ok:wm C X)(h:dP r C Γ x elt gens scope=some c):PS X (.Assign [.Name x pos'] (.ListComp elt gens scope xO) pos) (tS X.K C.F wZ Γ c.Γ c.js c.f):=by
 obtain⟨c1,e1,h⟩:=wW h;cases hb:nr C.sc x pos'.line scope xO.line with
 | false=>exact OI ok (OK R ok e1) (by rw[Uq ok,hb]) h
 | true =>
  obtain⟨i,e2,h⟩:=wW h;split at h
  ·rename_i hw;simp only[A3,decide_eq_true_eq,M5] at hw;cases h;obtain⟨h1,h2,h3⟩:=MS ok e2;obtain⟨t,q1,q2⟩:=UH R (pos:=xO) ok e1;refine PS.imp (q2 h1 h2 h3 (by rw[Uq ok,hb])) fun D σ H h=>q1 _ _ _ (Qp hw.1 (fun z=>by rw[C3.mpr z] at hw;cases hw.2) h)
  ·cases h
def dO(r:Rec)(C:Cf)(Γ:Gm)(es:List Expr)(k:Nat)(p:Pos)(e:Expr):Option CS:=none
theorem YD(R:wu r){k:Nat}(ok:wm C X)(h:dO r C Γ es k p e=some c):PS X (.Assign [.Tuple es k p] e pos) (tS X.K C.F wZ Γ c.Γ c.js c.f):=by cases h
def mB(i j:Nat)(fa:Ev (List Dv)):Es:=fun R m k=>fa R m fun ds m1=>match ds with | [a,b]=>k.nx ((m1.set i a).set j b) | _=>none
def fc(sc:O1)(x y:Str)(px py:Pos)(a b:Expr):Bool:=(match sc.kind with | .function=>true | _=>false) && (match sc.names.lookup x with | some .local=>true | _=>false) && (match sc.names.lookup y with | some .local=>true | _=>false) && !(x == y) && (py.line == px.line) && BD a && BD b && !(foldedForSure 8 a && foldedForSure 8 b) && !(constantsAlone 8 a && constantsAlone 8 b)
theorem fb{env:Env}{y:Str}{px py pt pt2:Pos}{kt k2:Nat}{b:Expr}(h:fc env.scope x y px py a b=true):qm [.Tuple [.Name x px,.Name y py] kt pt] (.Tuple [a,b] k2 pt2) env=pure (some [x,y])/\env.scope.names.lookup x=some .local/\env.scope.names.lookup y=some .local:=by
 unfold fc at h;simp only[A3,M5] at h;obtain⟨⟨⟨⟨⟨⟨⟨⟨h1,h2⟩,h3⟩,h4⟩,h5⟩,h6⟩,h7⟩,h8⟩,h9⟩:=h;have k1:env.scope.kind=.function:=by split at h1;(assumption);(cases h1)
 have k2:env.scope.names.lookup x=some .local:=by split at h2;(assumption);(cases h2)
 have k3:env.scope.names.lookup y=some .local:=by split at h3;(assumption);(cases h3)
 refine⟨?_,k2,k3⟩;have kx:env.kindOf x=some .local:=k2;have ky:env.kindOf y=some .local:=k3;have yx:(y == x)=false:=by
  cases q:y == x with
  | false=>rfl
  | true=>rw[beq_iff_eq.mp q,beq_self_eq_true] at h4;cases h4
 unfold qm;simp[Env.blockKind,k1,ScopeKind.isAnnotationScope,kx,ky,beq_iff_eq.mp h5,h8,h9,List.eraseDups_cons,yx,h4,Expr.pos];rintro(z | z)
 ·cases a<;>first | (cases z;done) | (cases h6;done)
 ·cases b<;>first | (cases z;done) | (cases h7;done)
def iZ(r:Rec)(C:Cf)(Γ:Gm)(x y:Str)(px py:Pos)(a b:Expr):Option CS:=if fc C.sc x y px py a b then(r.A C Γ [] [a,b]).bind fun c=>(Df C.N x).bind fun i=>(Df C.N y).bind fun j=>if decide (i < c.Γ.length) && decide (j < c.Γ.length) && !(i == j) && !C.F.io.contains i && !C.F.io.contains j then some ⟨some ((c.Γ.set i (some 0)).set j (some 0)),c.js++([i]++[j]),mB i j (AV c.as),false,false,false⟩ else none else none
theorem bB(R:wu r){y:Str}{px py pt pt2:Pos}{kt k2:Nat}{b:Expr}(ok:wm C X)(h:iZ r C Γ x y px py a b=some c):PS X (.Assign [.Tuple [.Name x px,.Name y py] kt pt] (.Tuple [a,b] k2 pt2) pos) (tS X.K C.F wZ Γ c.Γ c.js c.f):=by
 unfold iZ at h;split at h
 ·rename_i hp;obtain⟨c1,e1,h⟩:=wW h;obtain⟨i,e2,h⟩:=wW h;obtain⟨j,e3,h⟩:=wW h;split at h
  ·rename_i hw;simp only[A3,decide_eq_true_eq,M5,beq_eq_false_iff_ne] at hw;obtain⟨⟨⟨⟨w1,w2⟩,w3⟩,w4⟩,w5⟩:=hw;cases h;obtain⟨a1,a2,a3,a4,a5⟩:=R.A ok e1;rw[<- ok.sc] at hp;obtain⟨p1,p2,p3⟩:=fb (pt:=pt) (pt2:=pt2) (kt:=kt) (k2:=k2) hp;refine PS.imp (fB ok.calm ok.nd (by rw[ok.N];exact By e2) (by rw[ok.N];exact By e3) w3 p2 p3 a1 p1 rfl) fun D σ H h=>?_
   obtain⟨g,m,P,r',R',k,res,e,q⟩:=h;refine AN c1.as r' a2 e fun ds m1 g1 P1 vs H1 hk ag s ar r1=>?_
   have rp:=ar.zAD (a5 rfl)
   match ds,hk,rp with
   | [d1,d2],hk,rp =>
    obtain⟨v1,us,rfl,h1,rp⟩:=BJ rp;obtain⟨v2,us2,rfl,h2,rp⟩:=BJ rp;cases BO rp;obtain⟨P2,r2,s2⟩:=r1.yI w1 h1 fun _ z=>z.elim
    obtain⟨P3,r3,s3⟩:=r2.yI (by rw[E1];exact w2) h2 fun _ z=>z.elim
    refine⟨v1,v2,rfl,q.nx _ _ g1 P3 _ H1 rfl hk (ag.trans (Bw.set.trans Bw.set)) (s.less fun a z=>(s3 a z).elim (fun z=>(s2 a z).elim id E7) E7) ((Io.set ?_).trans (Io.set ?_)) r3⟩
    ·exact fun z=>by rw[C3.mpr z] at w4;cases w4
    ·exact fun z=>by rw[C3.mpr z] at w5;cases w5
   | [],hk,_=>cases hk
   | [_],hk,_=>cases hk
   | _::_::_::_,hk,_=>cases hk
  ·cases h
 ·cases h
def Xh(r:Rec)(C:Cf)(Γ:Gm)(x k e:Expr):Option CS:=if HY k then(UU C x).bind fun i=>(r.E C Γ e).bind fun c=>(OW r C c.Γ k).bind fun a=>if(c.Γ.getD i none).isSome && a.Γ.getD i none == some 1 then some ⟨some a.Γ,c.js++((a.js++[])++[i]),cv i C.T.st c.f (AV [a.a]),false,false,false⟩ else none else none
variable {k:Expr} {xm:Pos}
theorem KY{x:Expr}(hk:HY k=true):∀v,Z9 (.Subscript x k xm) X.env v=(do
      let ov <- Z0 [v] (M8 x X.env)
      let iv <- Z0 [v,ov] (M8 k X.env)
      sV xm
      Z0 [v,ov,iv] (setItem ov iv v)
      release [v,ov,iv] []):=fun v=>by
  cases k<;>first | rfl | (cases hk)
theorem Ml{x:Expr}{l:Nat}{env:Env}:sf [.Subscript x k p] e l env=pure false:=by cases e<;>rfl
theorem Xg(R:wu r){x:Expr}(ok:wm C X)(h:Xh r C Γ x k e=some c):PS X (.Assign [.Subscript x k xm] e pos) (tS X.K C.F wZ Γ c.Γ c.js c.f):=by
 unfold Xh at h;split at h
 ·rename_i hn;obtain⟨i,e0,h⟩:=wW h;obtain⟨c1,e1,h⟩:=wW h;obtain⟨a,e2,h⟩:=wW h;split at h
  ·rename_i hw;rw[A3] at hw;cases h;obtain⟨a1,a2⟩:=FA R ok e2;obtain⟨T,t1,t2⟩:=C.T.zBh X ok.gx;refine PS.imp (Vb (He (R.E ok e1)) (Vn (DI ok e0) a1 t1 (KY hn)) Ml ?_ rfl) fun D σ H h=>VI t2 a2 (getD_some hw.1) (BR (beq_iff_eq.mp hw.2)) h
   cases e<;>rfl
  ·cases h
 ·cases h
def Xj(r:Rec)(C:Cf)(Γ:Gm)(q:Nat×Str)(k e:Expr):Option CS:=if HY k then(r.E C Γ e).bind fun c=>(OW r C c.Γ k).bind fun a=>if(c.Γ.getD q.1 none).isSome && a.Γ.getD q.1 none == some 1 then some ⟨some a.Γ,c.js++((a.js++[])++[q.1]),Wu q.1 q.2 C.T.st c.f (AV [a.a]),false,false,false⟩ else none else none
theorem Xi(R:wu r){x:Expr}{q:Nat×Str}(ok:wm C X)(hq:cp C x=some q)(h:Xj r C Γ q k e=some c):PS X (.Assign [.Subscript x k xm] e pos) (tS X.K C.F wZ Γ c.Γ c.js c.f):=by
 unfold Xj at h;split at h
 ·rename_i hn;obtain⟨c1,e1,h⟩:=wW h;obtain⟨a,e2,h⟩:=wW h;split at h
  ·rename_i hw;rw[A3] at hw;cases h;obtain⟨a1,a2⟩:=FA R ok e2;obtain⟨T,t1,t2⟩:=C.T.zBh X ok.gx;refine PS.imp (Vb (He (R.E ok e1)) (Vn (MA ok hq) a1 t1 (KY hn)) Ml ?_ rfl) fun D σ H h=>VO t2 a2 (getD_some hw.1) (BR (beq_iff_eq.mp hw.2)) h
   cases e<;>rfl
  ·cases h
 ·cases h
def Xl(r:Rec)(C:Cf)(Γ:Gm)(x k e:Expr):Option CS:=match cp C x with
 | some q=>Xj r C Γ q k e
 | none=>Xh r C Γ x k e
theorem Xk(R:wu r){x:Expr}(ok:wm C X)(h:Xl r C Γ x k e=some c):PS X (.Assign [.Subscript x k xm] e pos) (tS X.K C.F wZ Γ c.Γ c.js c.f):=by
 unfold Xl at h;split at h
 ·rename_i q hq;exact Xi R ok hq h
 ·exact Xg R ok h
def YA(r:Rec)(C:Cf)(Γ:Gm)(o:Expr)(f:Str)(e:Expr):Option CS:=if WB e then(UU C o).bind fun i=>(r.E C Γ e).bind fun c=>if decide (c.o<=1) && c.Γ.getD i none == some 1 then some ⟨some c.Γ,c.js++[i],XE i f c.o c.f,false,false,false⟩ else none else none
theorem Xz(R:wu r){o:Expr}{f:Str}(ok:wm C X)(h:YA r C Γ o f e=some c):PS X (.Assign [.Attribute o f xm] e pos) (tS X.K C.F wZ Γ c.Γ c.js c.f):=by
 unfold YA at h;split at h
 ·rename_i hn;obtain⟨i,hi,h⟩:=wW h;obtain⟨c1,e1,h⟩:=wW h;split at h
  ·rename_i hw;simp only[A3,decide_eq_true_eq] at hw;cases h;exact PS.imp (fC (DI ok hi) (R.E ok e1) (IL hn)) fun D σ H h=>Wq hw.1 (BR (beq_iff_eq.mp hw.2)) h
  ·cases h
 ·cases h
def cg:Option Gm->Option Gm->Option Gm
 | some a,some b=>some (CP a b)
 | none,b=>b
 | a,none=>a
def pX(r:Rec)(C:Cf)(wZ:Option Gm)(Γ:Gm)(c:Expr)(a b:List N2):Option CS:=(r.T C Γ c).bind fun t=>(r.Ss C wZ t.Γ a).bind fun x=>(r.Ss C wZ t.Γ b).bind fun y=>let Γn:=cg x.Γ y.Γ;let js:=t.js++(x.js++y.js);if MY Γn x.Γ && MY Γn y.Γ then some ⟨Γn,js,match x.Γ,y.Γ,Γn with
      | some _,some _,some Γ'=>if x.er || x.eb || x.ec || y.er || y.eb || y.ec then Ng t.f x.f y.f else mC (Bi Γ' js) (Ng t.f x.f y.f)
      | _,_,_=>Ng t.f x.f y.f,x.er || y.er,x.eb || y.eb,x.ec || y.ec⟩ else none
theorem iq(R:wu r){t:Expr}{a b:List N2}(ok:wm C X)(h:pX r C wZ Γ t a b=some c):PS X (.If t a b pos) (tS X.K C.F wZ Γ c.Γ c.js c.f):=by
 obtain⟨ct,e1,h⟩:=wW h;obtain⟨x,e2,h⟩:=wW h;obtain⟨y,e3,h⟩:=wW h;simp only at h;split at h
 ·rename_i hw;rw[A3] at hw;have base:PS X (.If t a b pos) (tS X.K C.F wZ Γ (cg x.Γ y.Γ) (ct.js++(x.js++y.js)) (Ng ct.f x.f y.f)):=ny (R.T ok e1) (VP (R.Ss ok e2) hw.1) (VP (R.Ss ok e3) hw.2);cases h;split
  ·rename_i Γ' _ _ hj;split
   ·exact base
   ·simp only[hj] at base ⊢;exact PS.imp base fun D σ H h=>gS (fun i o z=>Br z) (fun i z=>BL z) h
  ·exact base
 ·cases h
def me(r:Rec)(C:Cf)(Γ:Gm)(x:Str)(op:sC)(e:Expr):Option CS:=none
theorem bL(R:wu r){op:sC}(ok:wm C X)(h:me r C Γ x op e=some c):PS X (.AugAssign (.Name x pos') op e pos) (tS X.K C.F wZ Γ c.Γ c.js c.f):=by cases h
def Ws(r:Rec)(C:Cf)(pre:Gm->Gm)(body:List N2):Nat->Gm->Option (Gm×CS)
 | 0,_=>none
 | n+1,Γ=>match r.Ss C (some Γ) (pre Γ) body with
  | some x=>if MY (some Γ) x.Γ then some (Γ,x) else Ws r C pre body n (match x.Γ with | some Γ'=>CP Γ Γ' | none=>Γ)
  | none=>Ws r C pre body n (Γ.map fun o=>o.map fun _=>0)
theorem Ly{r:Rec}{C:Cf}{pre:Gm->Gm}{body:List N2}:∀{n:Nat} {Γ:Gm} {p:Gm×CS},Ws r C pre body n Γ=some p->r.Ss C (some p.1) (pre p.1) body=some p.2/\MY (some p.1) p.2.Γ=true
 | 0,_,_,h=>by cases h
 | n+1,Γ,p,h=>by
  unfold Ws at h;split at h
  ·rename_i x hx;split at h
   ·rename_i hw;cases h;exact⟨hx,hw⟩
   ·exact Ly h
  ·exact Ly h
def mX(r:Rec)(C:Cf)(Γ:Gm)(tg iter:Expr)(body:List N2):Option CS:=(match iter with | .Set _ _ _=>none | _=>r.I C Γ (NW tg) iter).bind fun s=>(cG C tg).bind fun t=>if t.J.all (fun i=>decide (i < s.Γ.length) && !C.F.io.contains i) then(Ws r C t.Γ body 4 s.Γ).bind fun p=>if CW p.1 s.Γ then
    let jb:=t.J++p.2.js
    some ⟨some p.1,s.js++jb,if p.2.er || p.2.eb then XC s.f t.f (Bi p.1 jb) (Bi C.F.Γr jb) p.2.f else XD s.f t.f (Bi p.1 jb) p.2.f,p.2.er,false,false⟩ else none else none
theorem bH(R:wu r){tg iter:Expr}{body:List N2}(ok:wm C X)(h:mX r C Γ tg iter body=some c):PS X (.For tg iter body [] pos) (tS X.K C.F wZ Γ c.Γ c.js c.f):=by
 obtain⟨s,e1,h⟩:=wW h;obtain⟨t,e2,h⟩:=wW h;split at h
 ·rename_i hj;obtain⟨p,e3,h⟩:=wW h;split at h
  ·rename_i hw;have hs:∀x,Q6 iter X.env x=pure x:=fun x=>by cases iter<;>first | rfl | (cases e1)
   have hI:r.I C Γ (NW tg) iter=some s:=by cases iter<;>first | exact e1 | (cases e1)
   obtain⟨f1,f2⟩:=Ly e3;obtain⟨g1,_,g3⟩:=Rq ok e2;rw[F8] at hj;have hJ:t.J.all (fun i=>decide (i < p.1.length))=true:=by
    rw[F8];intro i hi;rw[Ey hw];exact(W6.mp (hj i hi)).1
   have yF:∀i∈C.F.io,i∉t.J:=fun i hi z=>by
    have:=(W6.mp (hj i z)).2;rw[C3.mpr hi] at this;cases this
   have hi:PI X tg iter (tI X.K Γ p.1 s.js s.f):=PI.imp (R.I tg ok hI) fun _ _ _ h=>Yg hw h
   have hp:n8 (D4 X.prog X.w) X.A X.env X.xe:=by rw[ok.xe];exact vE
   have hb:=R.Ss ok f1;simp only at h;cases h;split
   ·exact eS hp ok.calm hi g1 (g3 hJ) yF hb f2 rfl rfl hs
   ·exact eT hp ok.calm hi g1 (g3 hJ) yF hb f2 rfl hs
  ·cases h
 ·cases h
noncomputable def pA:Nat:=1000000
def nL(r:Rec)(C:Cf)(Γ:Gm)(c:Expr)(body:List N2):Option CS:=(fixW r C c body 4 Γ).bind fun p=>if CW p.1 Γ && !(p.2.2.er || p.2.2.eb) then some ⟨some p.1,p.2.2.js,cq pA p.2.1.f (Bi p.1 p.2.2.js) p.2.2.f,p.2.2.er,false,false⟩ else none
where
 fixW (r:Rec) (C:Cf) (c:Expr) (body:List N2):Nat->Gm->Option (Gm×CT×CS)
 | 0,_=>none
 | n+1,Γ=>(r.T C Γ c).bind fun t=>if t.js.isEmpty && CW Γ t.Γ then(match r.Ss C (some Γ) Γ body with
  | some x=>if MY (some Γ) x.Γ then some (Γ,t,x) else fixW r C c body n (match x.Γ with | some Γ'=>CP Γ Γ' | none=>Γ)
  | none=>fixW r C c body n (Γ.map fun o=>o.map fun _=>0)) else fixW r C c body n (CP Γ t.Γ)
theorem IA{r:Rec}{C:Cf}{c:Expr}{body:List N2}:∀{n:Nat} {Γ:Gm} {p:Gm×CT×CS},nL.fixW r C c body n Γ=some p->r.T C p.1 c=some p.2.1/\p.2.1.js=[]/\CW p.1 p.2.1.Γ=true/\r.Ss C (some p.1) p.1 body=some p.2.2/\MY (some p.1) p.2.2.Γ=true
 | 0,_,_,h=>by cases h
 | n+1,Γ,p,h=>by
  unfold nL.fixW at h;obtain⟨t,e1,h⟩:=wW h;split at h
  ·rename_i hw;rw[A3] at hw;split at h
   ·rename_i x hx;split at h
    ·rename_i hl;cases h;exact⟨e1,uo.mp hw.1,hw.2,hx,hl⟩
    ·exact IA h
   ·exact IA h
  ·exact IA h
theorem ju{F:Fr}{Γn:Option Gm}{Γ':Gm}{js:List Nat}{s:N2}{f:Es}(hw:CW Γ' Γ=true)(h:PS X s (tS X.K F wZ Γ' Γn js f)):PS X s (tS X.K F wZ Γ Γn js f):=PS.imp h fun D σ H h=>by
 obtain⟨g,m,P,r,R,k,res,e,q⟩:=h;obtain⟨g2,P2,s2,r2⟩:=r.weaken hw;exact⟨g2,m,P2,r2,R,k,res,e,⟨fun Γ' m' g' P' σ' H' e hk a s'=>q.nx Γ' m' g' P' σ' H' e hk a (s2.trans s'),fun d m' g' P' Pv σ' v H' hk a s'=>q.rt d m' g' P' Pv σ' v H' hk a (s2.trans s'),fun Γ' m' g' P' σ' H' e hk a s'=>q.bk Γ' m' g' P' σ' H' e hk a (s2.trans s'),fun Γ' m' g' P' σ' H' e hk a s'=>q.ct Γ' m' g' P' σ' H' e hk a (s2.trans s')⟩⟩
theorem iS(R:wu r){t:Expr}{body:List N2}(ok:wm C X)(h:nL r C Γ t body=some c):PS X (.While t body [] pos) (tS X.K C.F wZ Γ c.Γ c.js c.f):=by
 obtain⟨p,e1,h⟩:=wW h;split at h
 ·rename_i hw;cases h;obtain⟨f1,f2,f3,f4,f5⟩:=IA e1;have hp:n8 (D4 X.prog X.w) X.A X.env X.xe:=by rw[ok.xe];exact vE
  have ht:=R.T ok f1;rw[f2] at ht;rw[A3] at hw;exact ju hw.1 (jo pA hp ht (R.Ss ok f4) f3 f5 rfl)
 ·cases h
def iH:Es:=fun _ _ _=>none
def mZ(wZ:Option Gm)(Γ:Gm):Option CS:=none
def mY(wZ:Option Gm)(Γ:Gm):Option CS:=none
theorem bJ(h:mZ wZ Γ=some c):PS X (.Break pos) (tS X.K C.F wZ Γ c.Γ c.js c.f):=by cases h
theorem bI(h:mY wZ Γ=some c):PS X (.Continue pos) (tS X.K C.F wZ Γ c.Γ c.js c.f):=by cases h
noncomputable def cR(es:List Expr)(e:Expr):Option (Str×Pos×Str×Pos×Expr×Expr):=match es with
 | [.Name x px,.Name y py]=>match e with
  | .Tuple [a,b] _ _=>some (x,px,y,py,a,b)
  | _=>none
 | _=>none
noncomputable def Uo(es:List Expr):Option (Expr×Expr×Expr×Expr):=match es with
 | [.Subscript x k _,.Subscript y j _]=>some (x,k,y,j)
 | _=>none
theorem Oq{t:Expr×Expr×Expr×Expr}(h:Uo es=some t):∃p q,es=[.Subscript t.1 t.2.1 p,.Subscript t.2.2.1 t.2.2.2 q]:=by
 unfold Uo at h;split at h
 ·cases h;exact⟨_,_,rfl⟩
 ·cases h
def mP(r:Rec)(C:Cf)(Γ:Gm)(x k y j e:Expr):Option CS:=none
theorem ay(R:wu r){x y j:Expr}{q pt:Pos}{kt:Nat}(ok:wm C X)(h:mP r C Γ x k y j e=some c):PS X (.Assign [.Tuple [.Subscript x k p,.Subscript y j q] kt pt] e pos) (tS X.K C.F wZ Γ c.Γ c.js c.f):=by cases h
def Xf(r:Rec)(C:Cf)(Γ:Gm)(es:List Expr)(k:Nat)(p:Pos)(e:Expr):Option CS:=match cR es e with
 | some t=>iZ r C Γ t.1 t.2.2.1 t.2.1 t.2.2.2.1 t.2.2.2.2.1 t.2.2.2.2.2
 | none=>match Uo es with
  | some t=>mP r C Γ t.1 t.2.1 t.2.2.1 t.2.2.2 e
  | none=>dO r C Γ es k p e
theorem Xe(R:wu r){k:Nat}(ok:wm C X)(h:Xf r C Γ es k p e=some c):PS X (.Assign [.Tuple es k p] e pos) (tS X.K C.F wZ Γ c.Γ c.js c.f):=by
 unfold Xf at h;split at h
 ·rename_i t q;unfold cR at q;split at q
  ·split at q
   ·cases q;exact bB R ok h
   ·cases q
  ·cases q
 ·split at h
  ·rename_i t q;obtain⟨p1,p2,rfl⟩:=Oq q;exact ay R ok h
  ·exact YD R ok h
theorem bV(R:wu r)(ok:wm C X)(h:(if WB e then(r.E C Γ e).bind fun c=>Rp C x c else none)=some c):PS X (.Assign [.Name x p] e pos) (tS X.K C.F wZ Γ c.Γ c.js c.f):=by
 split at h
 ·rename_i hn;obtain⟨c1,e1,h⟩:=wW h;exact OI ok (R.E ok e1) (IL hn) h
 ·cases h
def cE(r:Rec)(C:Cf)(wZ:Option Gm)(Γ:Gm)(s:N2):Option CS:=match s with
 | .Pass _=>some (VG Γ)
 | .Expr (.Constant (.str _) _ _) _=>some (VG Γ)
 | .Expr e _=>ir r C Γ e
 | .Return (some e) _=>mR r C Γ e
 | .Assign [.Name x _] (.ListComp elt gens scope _) _=>dP r C Γ x elt gens scope
 | .Assign [.Name x _] e _=>if WB e then(r.E C Γ e).bind fun c=>Rp C x c else none
 | .Assign [.Tuple es k p] e _=>Xf r C Γ es k p e
 | .Assign [.Subscript x k _] e _=>Xl r C Γ x k e
 | .Assign [.Attribute o f _] e _=>YA r C Γ o f e
 | .AugAssign (.Name x _) op e _=>me r C Γ x op e
 | .If c a b _=>pX r C wZ Γ c a b
 | .For tg iter body [] _=>mX r C Γ tg iter body
 | .While c body [] _=>nL r C Γ c body
 | .Break _=>mZ wZ Γ
 | .Continue _=>mY wZ Γ
 | .Raise _ _ _=>some ⟨none,[],iH,false,false,false⟩
 | _=>none
theorem Uu(R:wu r){s:N2}(ok:wm C X)(h:cE r C wZ Γ s=some c):PS X s (tS X.K C.F wZ Γ c.Γ c.js c.f):=by
 cases s with
 | Pass _=>cases h;exact eQ
 | Expr e _ =>
  cases e with
  | Constant k _ _ =>
   cases k with
   | str _=>cases h;exact jy
   | _=>exact Rr R ok h
  | _=>exact Rr R ok h
 | Return v _ =>
  cases v with
  | none=>cases h
  | some e=>exact bA R ok h
 | Assign ts e _ =>
  match ts,h with
  | [],h=>cases h
  | t::_::_,h=>cases t<;>cases h
  | [t],h =>
   cases t with
   | Name x _ =>
    cases e with
    | ListComp elt gens scope _=>exact YE R ok h
    | _=>exact bV R ok h
   | Tuple es k p=>exact Xe R ok h
   | Subscript x k _=>exact Xk R ok h
   | Attribute o f _=>exact Xz R ok h
   | _=>cases h
 | AugAssign t op e _ =>
  cases t with
  | Name x _=>exact bL R ok h
  | _=>cases h
 | If c a b _=>exact iq R ok h
 | For tg iter body o _ =>
  cases o with
  | nil=>exact bH R ok h
  | cons _ _=>cases h
 | While c body o _ =>
  cases o with
  | nil=>exact iS R ok h
  | cons _ _=>cases h
 | Break _=>exact bJ h
 | Continue _=>exact bI h
 | Raise _ _ _ =>
  cases h;intro pins s σ H D I q;obtain⟨g,m,P,r,R,k,res,e,q⟩:=q;cases e
 | _=>cases h
def Ut(r:Rec)(C:Cf)(wZ:Option Gm)(Γ:Gm)(ss:List N2):Option CS:=match ss with
 | []=>some (VG Γ)
 | [s]=>r.S C wZ Γ s
 | s::ss=>(r.S C wZ Γ s).bind fun x=>match x.Γ with
  | none=>some x
  | some Γ'=>(r.Ss C wZ Γ' ss).bind fun y=>some ⟨y.Γ,x.js++y.js,lu x.f y.f,x.er || y.er,x.eb || y.eb,x.ec || y.ec⟩
theorem SN(R:wu r){ss:List N2}(ok:wm C X)(h:Ut r C wZ Γ ss=some c):Ee X ss (tS X.K C.F wZ Γ c.Γ c.js c.f):=by
 match ss,h with
 | [],h=>cases h;exact jw
 | [s],h=>exact jv (R.S ok h)
 | s::s2::ss,h =>
  obtain⟨x,e1,h⟩:=wW (show(r.S C wZ Γ s).bind _=some c from h);have h1:=R.S ok e1;cases hx:x.Γ with
  | none =>
   simp only[hx] at h;cases h;rw[hx] at h1 ⊢;exact eR h1
  | some Γ' =>
   simp only[hx] at h;obtain⟨y,e2,h⟩:=wW h;cases h;rw[hx] at h1;exact eV (f:=x.f) (f2:=y.f) (js:=x.js) (js2:=y.js) h1 (R.Ss ok e2)
def step(r:Rec):Rec:=⟨cF r,Mi r,cD r,Uw r,cE r,Ut r⟩
def aj:Nat->Rec
 | 0=>⟨fun _ _ _=>none,fun _ _ _ _=>none,fun _ _ _=>none,fun _ _ _ _=>none,fun _ _ _ _=>none,fun _ _ _ _=>none⟩
 | n+1=>step (aj n)
theorem Rn:∀n,wu (aj n)
 | 0=>⟨(fun _ h=>by cases h),(fun _ h=>by cases h),(fun _ h=>by cases h),(fun _ _ h=>by cases h),(fun _ h=>by cases h),(fun _ h=>by cases h),fun _ h=>by cases h⟩
 | n+1=>have R:=Rn n;⟨fun ok h=>Ux R ok h,fun ok h=>VA R ok h,fun ok h=>Us R ok h,fun tg ok h=>Uv R tg ok h,fun ok h=>Uu R ok h,fun ok h=>SN R ok h,fun ok h _ _ h0 hn=>SR R ok h h0 hn⟩
noncomputable def ku(sc:O1):List Str:=sc.names.filterMap fun p=>match p.2 with | .local=>some p.1 | .cell=>some p.1 | _=>none
mutual
noncomputable def Af:Expr->List Str
 | .ListComp e gs sc _=>ku sc++Af e++WD gs
 | .BoolOp _ vs _=>CL vs
 | .BinOp a _ b _=>Af a++Af b
 | .UnaryOp _ a _=>Af a
 | .IfExp a b c _=>Af a++Af b++Af c
 | .Compare a _ bs _=>Af a++CL bs
 | .Call f es _ _=>Af f++CL es
 | .Attribute a _ _=>Af a
 | .Subscript a b _=>Af a++Af b
 | .Slice a b c _=>JA a++JA b++JA c
 | .List es _=>CL es
 | .Tuple es _ _=>CL es
 | .Dict _ vs _=>CL vs
 | .JoinedStr vs _=>CL vs
 | .FormattedValue v _ _ _=>Af v
 | _=>[]
noncomputable def CL:List Expr->List Str
 | []=>[]
 | e::es=>Af e++CL es
noncomputable def JA:Option Expr->List Str
 | none=>[]
 | some e=>Af e
noncomputable def WD:List X6->List Str
 | []=>[]
 | ⟨_,it,ifs,_⟩::gs=>Af it++CL ifs++WD gs
end
mutual
noncomputable def gD:N2->List Str
 | .Return v _=>JA v
 | .Assign ts v _=>CL ts++Af v
 | .AugAssign t _ v _=>Af t++Af v
 | .Expr v _=>Af v
 | .If c a b _=>Af c++Ew a++Ew b
 | .For _ it b _ _=>Af it++Ew b
 | .While c b _ _=>Af c++Ew b
 | .Raise e _ _=>JA e
 | _=>[]
noncomputable def Ew:List N2->List Str
 | []=>[]
 | s::ss=>gD s++Ew ss
end
noncomputable def XT:List Str->List Str->List Str
 | [],acc=>acc
 | x::xs,acc=>if acc.contains x then XT xs acc else XT xs (acc++[x])
def AC(st:N2):List Str:=(Am st).args.map (·.arg)
def CK(st:N2):List Str:=XT (AC st++ku (AI st)++Ew (Ac st)) []
noncomputable def hd:(io:List Nat)->Jn Dv io->Dv
 | [],t=>t
 | _::_,t=>t.1
noncomputable def RJ:(J:List Nat)->GT J->List Dv
 | [],_=>[]
 | [_],d=>[d]
 | _::j::J,t=>t.1::RJ (j::J) t.2
def tl:(io:List Nat)->Jn Dv io->List Dv
 | [],_=>[]
 | i::io,t=>RJ (i::io) t.2
theorem Kq:∀(J:List Nat) (m:M),RJ J (Al J m)=J.map m.at
 | [],_=>rfl
 | [_],_=>rfl
 | i::j::J,m=>by
  show m.at i::RJ (j::J) (Al (j::J) m)=_;rw[Kq (j::J) m];rfl
theorem ck(io:List Nat)(d:Dv)(m:M):hd io (cW io d m)=d:=by cases io<;>rfl
theorem br(io:List Nat)(d:Dv)(m:M):tl io (cW io d m)=io.map m.at:=by
 cases io with
 | nil=>rfl
 | cons i io=>exact Kq (i::io) m
def Ad(ps:List Str)(io:List Nat)(ro:Nat)(nb:Bool)(F:List Dv->Option (Jn Dv io))(cl:Option Str:=none):wz where
 ps:=ps
 io:=io
 ro:=ro
 nb:=nb
 fn:=fun ds=>(F ds).bind fun t=>some (hd io t,tl io t)
 cps:=fun R ds k=>(F ds).bind fun t=>k (hd io t) (tl io t)
 eq:=fun R ds k=>by cases F ds<;>rfl
 cl:=cl
def kJ(io:List Nat):Kt (Jn Dv io):=⟨fun m=>some (cW io .we m),fun d m=>some (cW io d m),fun _=>none,fun _=>none⟩
structure Md:Type 1 where
 T:Tb
 cs:List (Str×Dv)
 bl:List Str
 fl:List Str
 rf:List Str
def mN(M:Md)(fs:List (Str×wz))(st:N2)(io:List Nat)(ro:Nat):Cf:=⟨CK st,AI st,fun _=>true,fs,M.cs,M.bl,M.T,⟨io,PK (CK st).length io,ro⟩,M.fl,M.rf⟩
noncomputable def nz:Rec:=⟨fun _ _ _=>none,fun _ _ _ _=>none,fun _ _ _=>none,fun _ _ _ _=>none,fun _ _ _ _=>none,fun _ _ _ _=>none⟩
def cmp(n:Nat):Rec:=Nat.rec nz (fun _ r=>step r) n
theorem Xc:∀n,cmp n=aj n
 | 0=>rfl
 | n+1=>by
  show step (cmp n)=step (aj n);rw[Xc n]
def ZL(M:Md)(fs:List (Str×wz))(st:N2)(io:List Nat)(ro:Nat):Option CS:=(cmp 100).Ss (mN M fs st io ro) none (aa (CK st).length (AC st).length io) (Ac st)
def SW(M:Md)(fs:List (Str×wz))(st:N2)(io:List Nat)(ro:Nat)(ds:List Dv):Option (Jn Dv io):=match ZL M fs st io ro with
 | some c=>c.f (Jn Dv io) (ds++D8 ((CK st).length - (AC st).length) .we) (kJ io)
 | none=>none
noncomputable def isFn:ScopeKind->Bool
 | .function=>true
 | _=>false
noncomputable def Zx:NameKind->Bool
 | .free=>false
 | _=>true
def ZJ(N P:List Str)(sc:O1):Bool:=isFn sc.kind && !sc.isCoroutine && !sc.isGenerator && decide N.Nodup && (N.take P.length == P) && (P.all fun x=>match sc.names.lookup x with | some .local=>true | some .cell=>true | _=>false) && sc.names.all fun y=>Zx y.2
theorem Qr{N P:List Str}{sc:O1}(h:ZJ N P sc=true):yE N P sc:=by
 unfold ZJ at h;simp only[A3,M5,decide_eq_true_eq,F8] at h;obtain⟨⟨⟨⟨⟨⟨h1,h2⟩,h3⟩,h4⟩,h5⟩,h6⟩,h7⟩:=h;refine⟨?_,h2,h3,h4,by simpa using h5,fun x hx=>?_,fun y hy z=>?_⟩
 ·cases q:sc.kind<;>first | rfl | (rw[q] at h1;cases h1)
 ·have:=h6 x hx;split at this
  ·rename_i e;exact .inl e
  ·rename_i e;exact .inr e
  ·cases this
 ·have:=h7 y hy;rw[z] at this;cases this
def FW(M:Md)(fs:List (Str×wz))(st:N2)(io:List Nat)(ro:Nat):Bool:=ZJ (CK st) (AC st) (AI st) && decide io.Nodup && (io.all fun i=>decide (i < (AC st).length)) && decide ((AC st).length<=(CK st).length) && match ZL M fs st io ro with
 | some c=>MY (some (PK (CK st).length io)) c.Γ
 | none=>false
section
variable {P:F0} {w:J7} {K:W.Frag} {mg:Str->Option Value} {base:H9}
structure Bs (M:Md) (K:W.Frag) (mg:Str->Option Value):Prop where
 cs:∀x d,(x,d)∈M.cs->∃v u,mg x=some u/\RelV v u/\∀g H,Rep K g H 0 d v wX
 bl:∀x∈M.bl,mg x=none
def Fs(P:F0)(w:J7)(K:W.Frag)(mg:Str->Option Value)(base:H9)(fl:List Str)(k:Nat)(fs:List (Str×wz)):Prop:=∀x s,(x,s)∈fs->s.io.Nodup/\(∀i∈s.io,i < s.ps.length)/\∃j,j<=k/\Fz P w K mg base fl j x s
theorem Fs.nil{fl:List Str}{k:Nat}:Fs P w K mg base fl k []:=fun _ _ h=>by cases h
theorem Fs.zBd{fl:List Str}{k l:Nat}{x:Str}{s:wz}{fs:List (Str×wz)}(h:Fs P w K mg base fl k fs)(hl:k<=l)(h1:s.io.Nodup)(h2:∀i∈s.io,i < s.ps.length)(h3:Fz P w K mg base fl l x s):Fs P w K mg base fl l ((x,s)::fs):=fun y t q=>by
 rcases C8.mp q with q | q
 ·cases q;exact⟨h1,h2,l,B4 _,h3⟩
 ·obtain⟨a,b,j,hj,f⟩:=h y t q;exact⟨a,b,j,by omega,f⟩
theorem Fs.cons{fl:List Str}{k:Nat}{x:Str}{s:wz}{fs:List (Str×wz)}(h:Fs P w K mg base fl k fs)(h1:s.io.Nodup)(h2:∀i∈s.io,i < s.ps.length)(hc:s.cl=none)(h3:Fx P w K mg base (k+1) x s.ps (MX K s)):Fs P w K mg base fl (k+1) ((x,s)::fs):=h.zBd (O6 k) h1 h2 (by unfold Fz;rw[hc];exact h3)
theorem ME{M:Md}{k:Nat}{fs:List (Str×wz)}{x qual:Str}{st:N2}{f:B3}{fd:R8}{io:List Nat}{ro:Nat}{nb:Bool}{cl:Option Str}{F:List Dv->Option (Jn Dv io)}(b:Bs M K mg)(h:Fs P w K mg base M.fl k fs)(c:FW M fs st io ro=true)(hF:∀ds,ds.length=(AC st).length->SW M fs st io ro ds=F ds)
    (Fn:Fun K x qual st f fd):xI P w K mg base Qb (k+1) f fd (AC st) (MX K (Ad (AC st) io ro nb F cl)):=by
  unfold FW at c;simp only[A3,decide_eq_true_eq,F8] at c;obtain⟨⟨⟨⟨c1,c2⟩,c3⟩,c4⟩,c5⟩:=c;cases e:ZL M fs st io ro with
  | none=>rw[e] at c5;cases c5
  | some cs =>
    rw[e] at c5;have S:=Qr c1;refine lg (s:=Ad (AC st) io ro nb F cl) (N:=CK st) (body:=cs.f) (Γn:=cs.Γ) (js:=cs.js) Fn S c2 c3 c4 c5 (fun xG A outer s' H E hr=>?_) fun ds d bs hl hf=>?_
    · have ok:wm (mN M fs st io ro) (Nw Qb P w K mg base (CK st) qual (AI st) f xG A outer s' H E).nox:=⟨rfl,rfl,S.nd,rfl,fun _ _=>rfl,⟨rfl,k,hr⟩,fun y t q=>by
        obtain⟨a,b,j,hj,q⟩:=h y t q;exact⟨a,b,j,k,hj,hr,q⟩,b.cs,b.bl,rfl⟩
      unfold ZL at e;rw[Xc] at e;exact(Rn 100).Ss ok e
    · have hr:=hF ds hl;unfold SW at hr;rw[e] at hr;obtain⟨t,e1,e2⟩:=wW (show(F ds).bind _=some (d,bs) from hf);cases e2;refine⟨_,kJ io,t,hr.trans e1,fun m z=>?_,fun d' m z=>?_⟩
      · have z:some (cW io .we m)=some t:=z;cases z;exact⟨ck io _ m,br io _ m⟩
      · have z:some (cW io d' m)=some t:=z;cases z;exact⟨ck io _ m,br io _ m⟩
abbrev FI(x q:Str)(st:N2):Prop:=∀(kV doc pm:Value) (an:Option B3) (xG ct:Value) (us:List Value),us.length=(AC st).length->qy (W.fnOf x q (Am st) (Ac st) (AI st) .none kV doc pm an xG ct) ⟨us,[]⟩=pure ((AC st).zip us)
abbrev BY(x:Str)(st:N2):Prop:=FI x x st
theorem Ea{M:Md}{fs:List (Str×wz)}{st:N2}{io:List Nat}{ro:Nat}(c:FW M fs st io ro=true):io.Nodup/\∀i∈io,i < (AC st).length:=by
 unfold FW at c;simp only[A3,decide_eq_true_eq,F8] at c;exact⟨c.1.1.1.2,c.1.1.2⟩
theorem Fs.def{M:Md}{k:Nat}{fs:List (Str×wz)}{x:Str}{st:N2}{io:List Nat}{ro:Nat}{nb:Bool}{F:List Dv->Option (Jn Dv io)}(h:Fs P w K mg base M.fl k fs)(b:Bs M K mg)(c:FW M fs st io ro=true)(hF:∀ds,ds.length=(AC st).length->SW M fs st io ro ds=F ds)
    (gf:GF K x st) (hm:mg x=some (.ref (DY K x))) (hb:BY x st):Fs P w K mg base M.fl (k+1) ((x,Ad (AC st) io ro nb F)::fs):=
  h.cons (Ea c).1 (Ea c).2 rfl ⟨_,_,ME b h c hF (Pp gf),hm,gf.2.2.2,(Pp gf).binds hb⟩
theorem Fs.zCv{M:Md}{k:Nat}{fs:List (Str×wz)}{x:Str}{st:N2}{io:List Nat}{ro:Nat}{nb:Bool}{F:Nat->List Dv->Option (Jn Dv io)}(h:Fs P w K mg base M.fl k fs)(b:Bs M K mg)(c0:ZJ (CK st) (AC st) (AI st)=true)(h0:∀ds,F 0 ds=none)(c:∀n,FW M ((x,Ad (AC st) io ro nb (F n))::fs) st io ro=true)
    (hF:∀n ds,ds.length=(AC st).length->SW M ((x,Ad (AC st) io ro nb (F n))::fs) st io ro ds=F (n+1) ds)
    (gf:GF K x st) (hm:mg x=some (.ref (DY K x))) (hb:BY x st):∀n,Fs P w K mg base M.fl (k+n+1) ((x,Ad (AC st) io ro nb (F n))::fs)
  | 0=>h.cons (Ea (c 0)).1 (Ea (c 0)).2 rfl ⟨_,_,(Pp gf).ok (k:=k) (Qr c0) (fun vs H Q E q=>by
      obtain⟨g,ds,P,r,d,bs,e,q⟩:=q;have e:(F 0 ds).bind _=some (d,bs):=e;rw[h0 ds] at e;cases e) (fun xG A outer s H vs Q E _ q=>by
      obtain⟨g,ds,P,r,d,bs,e,q⟩:=q;have e:(F 0 ds).bind _=some (d,bs):=e;rw[h0 ds] at e;cases e),hm,gf.2.2.2,(Pp gf).binds hb⟩
  | n+1=>by
    have ih:=Fs.zCv h b c0 h0 c hF gf hm hb n;have hh:Fs P w K mg base M.fl (k+n+1) fs:=fun y t q=>ih y t (A9 _ q)
    exact hh.cons (Ea (c 0)).1 (Ea (c 0)).2 rfl ⟨_,_,ME b ih (c n) (hF n) (Pp gf),hm,gf.2.2.2,(Pp gf).binds hb⟩
def cY(K:W.Frag)(c m:Str):B3:=match W.findIn K (.ref (DY K c)) m with
 | some (some (.ref a))=>a
 | _=>0
abbrev GM(K:W.Frag)(c q m:Str)(t:N2):Prop:=W.findIn K (.ref (DY K c)) m=some (some (.ref (cY K c m))) /\
 K.lookup (cY K c m)=some ⟨.type "function", none,.func (W.fnOf m q (Am t) (Ac t) (AI t) .none .none .none (Zg K (cY K c m)) none (Tr K (cY K c m)) .none),#[]⟩ /\
 W.codeIn K (Tr K (cY K c m)) q=true/\W.keepIn K (.ref (cY K c m))=true/\W.isFn K (.ref (cY K c m))=true
noncomputable def lG(K:W.Frag)(C:B3)(f:Str):Bool:=match W.findIn K (.ref C) f with
 | some none=>true
 | _=>false
noncomputable def jm(K:W.Frag)(C:B3):Bool:=match W.findIn K (.ref C) "__setattr__" with
 | some (some (.builtin id))=>id == "object.__setattr__"
 | _=>false
abbrev GC(K:W.Frag)(c:Str)(fl:List Str):Prop:=W.nsIn K M7 c=some (some (.ref (DY K c)))/\W.plainGet K (DY K c) Str.empty=true/\W.hasDictIn K (DY K c)=true/\W.plainOver K (DY K c)=true/\jm K (DY K c)=true /\
 fl.all (lG K (DY K c))=true/\W.makesIn K (DY K c)=true/\W.keepIn K (.ref (DY K c))=true
theorem gh{c:Str}{fl:List Str}(g:GC K c fl):bj K c fl:=by
 obtain⟨_,h1,h2,h3,h4,h5,_⟩:=g;refine⟨⟨h1,h2,h3,?_⟩,fun f hf=>?_⟩
 ·unfold jm at h4;split at h4
  ·rename_i id e;rw[e,beq_iff_eq.mp h4]
  ·cases h4
 ·have:=(F8.mp h5) f hf;unfold lG at this;split at this
  ·rename_i e;exact e
  ·cases this
theorem Fs.zBM{M:Md}{k:Nat}{fs:List (Str×wz)}{cl q x:Str}{st:N2}{io:List Nat}{ro:Nat}{nb:Bool}{F:List Dv->Option (Jn Dv io)}(h:Fs P w K mg base M.fl k fs)(b:Bs M K mg)(c:FW M fs st io ro=true)(hF:∀ds,ds.length=(AC st).length->SW M fs st io ro ds=F ds)
    (gm:GM K cl q x st) (gc:GC K cl M.fl) (hm:mg cl=some (.ref (DY K cl))) (hb:FI x q st):Fs P w K mg base M.fl (k+2) ((x,Ad (AC st) io ro nb F (some cl))::fs):=by
  have Fn:Fun K x q st (cY K cl x) _:=Wo gm.2.1 gm.2.2.1 gm.2.2.2.1;refine h.zBd (by omega) (Ea c).1 (Ea c).2 ?_;unfold Fz;refine⟨k+1,_,_,B4 _,ME (cl:=some cl) b h c hF Fn,Fn.binds hb,⟨gm.1,gm.2.2.2.2,gm.2.2.2.1⟩,gh gc,hm,fun e=>⟨gc.2.2.2.2.2.2.1,?_,gm.2.2.2.2,gc.2.2.2.2.2.2.2⟩⟩;rw[<- e];exact gm.1
theorem mj{x q:Str}{st:N2}(hn:(AC st).length=1)(h:∀(kV doc pm:Value) (an:Option B3) (xG ct:Value) (a:Value),qy (W.fnOf x q (Am st) (Ac st) (AI st) .none kV doc pm an xG ct) ⟨[a],[]⟩=pure ((AC st).zip [a])):FI x q st:=fun kV doc pm an xG ct us hl=>by
 rw[hn] at hl
 match us,hl with | [a],_=>exact h kV doc pm an xG ct a
theorem Jh{x q:Str}{st:N2}(hn:(AC st).length=2)(h:∀(kV doc pm:Value) (an:Option B3) (xG ct:Value) (a b:Value),qy (W.fnOf x q (Am st) (Ac st) (AI st) .none kV doc pm an xG ct) ⟨[a,b],[]⟩=pure ((AC st).zip [a,b])):FI x q st:=fun kV doc pm an xG ct us hl=>by
 rw[hn] at hl
 match us,hl with | [a,b],_=>exact h kV doc pm an xG ct a b
theorem OT{x q:Str}{st:N2}(hn:(AC st).length=3)(h:∀(kV doc pm:Value) (an:Option B3) (xG ct:Value) (a b c:Value),qy (W.fnOf x q (Am st) (Ac st) (AI st) .none kV doc pm an xG ct) ⟨[a,b,c],[]⟩=pure ((AC st).zip [a,b,c])):FI x q st:=fun kV doc pm an xG ct us hl=>by
 rw[hn] at hl
 match us,hl with | [a,b,c],_=>exact h kV doc pm an xG ct a b c
theorem mi{x q:Str}{st:N2}(hn:(AC st).length=4)(h:∀(kV doc pm:Value) (an:Option B3) (xG ct:Value) (a b c d:Value),qy (W.fnOf x q (Am st) (Ac st) (AI st) .none kV doc pm an xG ct) ⟨[a,b,c,d],[]⟩=pure ((AC st).zip [a,b,c,d])):FI x q st:=fun kV doc pm an xG ct us hl=>by
 rw[hn] at hl
 match us,hl with | [a,b,c,d],_=>exact h kV doc pm an xG ct a b c d
noncomputable def PZ(K:W.Frag)(x:Str):Bool:=match W.nsIn K M7 x with | some none=>true | _=>false
theorem mh{M:Md}{h:H9}(X:K.In h)(G:h.Ns M7 mg)(hc:M.cs=[])(hz:M.bl.all (PZ K)=true):Bs M K mg:=⟨(fun x d q=>by rw[hc] at q;cases q),fun x hx=>by
 have:=(F8.mp hz) x hx;unfold PZ at this;split at this
 ·rename_i e;exact W.mg_none_of X G e
 ·cases this⟩
noncomputable def Lx{α:Type}(f:Dv->Dv->Dv->Dv->Option α)(ds:List Dv):Option α:=match ds with | [a,b,c,d]=>f a b c d | _=>none
noncomputable def EC{α:Type}(f:Dv->Dv->Dv->Option α)(ds:List Dv):Option α:=match ds with | [a,b,c]=>f a b c | _=>none
theorem lZ{α:Type}:∀ds,Lx (fun _ _ _ _=>(none:Option α)) ds=none
 | []=>rfl | [_]=>rfl | [_,_]=>rfl | [_,_,_]=>rfl | [_,_,_,_]=>rfl | _::_::_::_::_::_=>rfl
abbrev IC(M:Md)(fs:List (Str×wz))(st:N2)(io:List Nat)(ro:Nat)(f:List Dv->Option (Jn Dv io)):Prop:=∀ds,ds.length=(AC st).length->SW M fs st io ro ds=f ds
theorem oh{α:Type}{G:List Dv->Option α}{f:Dv->Option α}{n:Nat}(hn:n=1)(h:∀a,G [a]=f a):∀ds,ds.length=n->G ds=one f ds:=fun ds hl=>by
 subst hn
 match ds,hl with | [a],_=>exact h a
theorem YF{α:Type}{G:List Dv->Option α}{f:Dv->Dv->Option α}{n:Nat}(hn:n=2)(h:∀a b,G [a,b]=f a b):∀ds,ds.length=n->G ds=two f ds:=fun ds hl=>by
 subst hn
 match ds,hl with | [a,b],_=>exact h a b
theorem dQ{α:Type}{G:List Dv->Option α}{f:Dv->Dv->Dv->Option α}{n:Nat}(hn:n=3)(h:∀a b c,G [a,b,c]=f a b c):∀ds,ds.length=n->G ds=EC f ds:=fun ds hl=>by
 subst hn
 match ds,hl with | [a,b,c],_=>exact h a b c
theorem pY{α:Type}{G:List Dv->Option α}{f:Dv->Dv->Dv->Dv->Option α}{n:Nat}(hn:n=4)(h:∀a b c d,G [a,b,c,d]=f a b c d):∀ds,ds.length=n->G ds=Lx f ds:=fun ds hl=>by
 subst hn
 match ds,hl with | [a,b,c,d],_=>exact h a b c d
def Qm(K:W.Frag):Sp:=fun vs H Q _=>∃(a:B3) (ns:List Int),vs=[.ref a]/\Cy K H a (ns.map V.int)/\ns.length<=63/\bZ H/\∀H',Q (.bl true) H'
theorem gJ{k:Nat}{f:B3}{fd:R8}{ps:List Str}{nb:Bool}{F:List Dv->Option Dv}(hp:ps.length=1)(h0:xI P w K mg base Qb k f fd ps (MX K (Ad ps [] 1 nb F)))(h:∀ns:List Int,ns.length<=63->F [.xV ns]=some (.bl true)):xI P w K mg base Qb k f fd ps (Qm K):=h0.imp fun vs H Q E q=>by
 obtain⟨a,ns,rfl,hS,hn,hO,q⟩:=q;have hs:nR K H a ns:=by
  rcases hS with(h1 | h1) | h1
  ·rcases hO a with z | ⟨o,xs,z⟩
   ·rw[h1] at z;cases z
   ·rw[h1] at z;cases z
  ·exact .inl h1
  ·exact .inr h1
 refine⟨⟨fun _=>False,[]⟩,[.xV ns],wX,?_,.bl true,[],by show(F [.xV ns]).bind _=_;rw[h ns hn];rfl,fun g' H' v Pv Pb _ rv _ _=>by rw[Dm rv];exact q H'⟩;show Rel K _ H (Oe ps.length []) _ _ _;rw[hp];refine⟨?_,fun _=>wX,⟨rfl,rfl,fun i o e=>?_,fun i e a z=>z,fun i j n a z=>z.elim⟩,fun a=>⟨fun z=>z.elim,fun⟨i,z⟩=>z⟩⟩
 ·exact fun _ z=>z.elim
 ·match i,e with
  | 0,e=>cases e;exact⟨_,_,rfl,rfl,by unfold Rep;exact⟨⟨a,rfl,hs⟩,fun _ z=>z⟩⟩
end
end R
namespace L4
open PySem PySem.Spec PyProof.Rows L2 Builtin
theorem Gp:fillsNumberSlot (.type "tuple") "mul" = pure false:=
 PySem.fillsNumberSlot_seq (id := "tuple.__mul__") (r:=some (.builtin "tuple.__rmul__")) F.slot_tuple_mul.lookup (by decide +kernel) F.slot_tuple_rmul.lookup (by decide +kernel)
theorem Ld:seqRepeat? (.type "tuple")=pure (some (.builtin "tuple.__mul__")):=by
 unfold seqRepeat?
 rw[uq (T := "tuple") (name := "__mul__") (id := "tuple.__mul__") F.slot_tuple_mul.lookup (by decide +kernel),uq (T := "tuple") (name := "__rmul__") (id := "tuple.__rmul__") F.slot_tuple_rmul.lookup (by decide +kernel)]
 rfl
theorem JJ(a:Int)(t:Tok)(l:B3)(items:Array Value)(n:Nat) :
    vk (O8.«int.__rmul__» ⟨[.int a t,.ref l],[]⟩) (fun _ R s=>(∃o,s.heap.get? l=some o/\o.cls=.type "tuple" /\ o.data=.seq items n)/\R (.ok (.ret Value.notImplemented)) s):=
  .of_wp fun prog w A R s h=>by
    obtain⟨hp,g,d,tk,os⟩:=s;obtain⟨⟨⟨c,dd,dat,sl⟩,hl,hc,hd⟩,h⟩:=h;simp only at hc hd;subst hc;subst hd
    wp_walk;exact⟨_,rfl,h⟩
theorem IG(l:B3)(items:Array Value)(n:Nat)(x:Int)(u:Tok)(h1:1 < x)(h2:x < 2 ^ 63)(hz:items.size * x.toNat<=1000000)(yd:items.isEmpty=false) :
    vk (O8.«tuple.__mul__» ⟨[.ref l,.int x u],[]⟩) (fun _ R s=>(∃o,s.heap.get? l=some o/\o.cls=.type "tuple" /\ o.data=.seq items n)/\R (.ok (.ret (F7 s.heap.objs.size))) { s with heap:=s.heap.push { cls:=G2 "tuple", data:=wJ ((D8 x.toNat items).foldl (·++·) #[]) },toks:=s.toks }):=
  .of_wp fun prog w A R s h=>by
    obtain⟨hp,g,d,tk,os⟩:=s;obtain⟨⟨⟨c,dd,dat,sl⟩,hl,hc,hd⟩,h⟩:=h;simp only at hc hd;subst hc;subst hd;have hz':(items.size:Int) * x<=1000000:=by
      have e:x=(x.toNat:Int):=by omega
      rw[e,<- Int.natCast_mul];omega
    wp_walk
    refine V7 (by simp;omega) ?_
    wp_walk
    refine V7 (by rw[yd];simp;omega) ?_
    wp_walk
    refine V7 (by rw[yd];simp;omega) ?_
    wp_walk
    refine V7 (decide_eq_false (by have:((2:Int) ^ 63 - 1) / 8 > 1000000:=(by decide);omega)) ?_
    wp_walk
    refine V7 (decide_eq_false (by unfold Tuple.tupleTooMany;rw[decide_eq_true_eq,N6];omega)) ?_
    wp_walk
    refine V7 (decide_eq_false (by rw[AutoListH.size_joined,N6];simp only[Array.size_empty];have:=uE items.size x.toNat;omega)) ?_
    wp_walk
    exact⟨_,rfl,h⟩
theorem IF(l:B3)(items:Array Value)(n:Nat)(u:Tok)(yd:items.isEmpty=false) :
    vk (O8.«tuple.__mul__» ⟨[.ref l,.int 0 u],[]⟩) (fun _ R s=>(∃o,s.heap.get? l=some o/\o.cls=.type "tuple" /\ o.data=.seq items n)/\R (.ok (.ret (F7 s.heap.objs.size))) { s with heap:=s.heap.push { cls:=G2 "tuple", data:=wJ #[] },toks:=s.toks }):=
  .of_wp fun prog w A R s h=>by
    obtain⟨hp,g,d,tk,os⟩:=s;obtain⟨⟨⟨c,dd,dat,sl⟩,hl,hc,hd⟩,h⟩:=h;simp only at hc hd;subst hc;subst hd
    wp_walk
    exact⟨_,rfl,h⟩
theorem Ju(l:B3)(items:Array Value)(n:Nat)(u:Tok) :
    vk (O8.«tuple.__mul__» ⟨[.ref l,.int 1 u],[]⟩) (fun _ R s=>(∃o,s.heap.get? l=some o/\o.cls=.type "tuple" /\ o.data=.seq items n)/\R (.ok (.ret (F7 l))) s):=
  .of_wp fun prog w A R s h=>by
    obtain⟨hp,g,d,tk,os⟩:=s;obtain⟨⟨⟨c,dd,dat,sl⟩,hl,hc,hd⟩,h⟩:=h;simp only at hc hd;subst hc;subst hd
    wp_walk
    exact⟨_,rfl,h⟩
def zBS:R2:=fun x y H Q=>∃l k xs,x=.ref l/\y=.int k/\H l=some (.tup xs)/\xs≠[]/\0<=k/\k < 2 ^ 63/\xs.length * k.toNat<=1000000/\(k=1->Q (.ref l) H) /\
 (k≠1->∀p,H p=none->Q (.ref p) (upd H p (.tup (D8 k.toNat xs).flatten)))
theorem zBE{X:Cx}:Ef X (binaryOp .Mult) zBS:=by
 intro pins s σ H x y v u Q I rx ry h;obtain⟨l,k,xs,rfl,rfl,hH,yd,h1,h2,hz,q1,q2⟩:=h;cases rx;obtain⟨t,rfl⟩:=ry;obtain⟨its,r,⟨o,e,c,n,dt⟩,_⟩:=I.tuple (show De X.K H l xs from .inl (.inl hH));have hl:its.length=xs.length:=r.length.symm
 have ho:∃o,s.heap.get? l=some o/\o.cls=.type "tuple" /\ o.data=.seq its.toArray n:=⟨o,e,c,dt⟩
 have em:its.toArray.isEmpty=false:=by
  cases its with
  | nil=>cases xs with
   | nil=>exact absurd rfl yd
   | cons _ _=>simp at hl
  | cons _ _=>rfl
 refine qc (T := "tuple") (U := "int") (by decide) ⟨_,e,c⟩ (fun s'=>rK s' k t) Gp F.fills_int_mul F.slot_int_rmul Ld F.slot_int_index.lookup
  (call_meets F.slot_int_rmul (rK s k t) F.entry_int_rmul (F.args_int_rmul_2 _ _) (JJ k t l its.toArray n)
   ⟨ho,rfl,⟨_,e,c⟩,?_⟩)
 by_cases hk:k=1
 ·subst hk;exact call_meets F.slot_tuple_mul ⟨_,e,c⟩ F.entry_tuple_mul (F.args_tuple_mul_2 _ _) (Ju l its.toArray n t) ⟨ho,.ref l,H,I,rfl,q1 rfl⟩
 ·by_cases h0:k=0
  ·subst h0;exact call_meets F.slot_tuple_mul ⟨_,e,c⟩ F.entry_tuple_mul (F.args_tuple_mul_2 _ _) (IF l its.toArray n t em) ⟨ho,.ref _,_,I.laid (t':=s.toks) (fun _ _ q=>A2 _ q) (B4 _) (o:=.tup (D8 (Int.toNat 0) xs).flatten) ⟨J8 _,[],.nil,HP.new _ _⟩,rfl,q2 hk _ I.fresh⟩
  refine call_meets F.slot_tuple_mul ⟨_,e,c⟩ F.entry_tuple_mul (F.args_tuple_mul_2 _ _) (IG l its.toArray n k t (by omega) h2 (by rw[B0,hl];exact hz) em) ⟨ho,?_⟩;have f0:tF (fun x1 x2=>x1++x2) #[] (D8 k.toNat its.toArray)=(D8 k.toNat its).flatten.toArray:=by
   have:=foldl_rep its k.toNat [];rw[X9] at this;exact this
  rw[f0];refine⟨.ref _,_,I.laid (t':=s.toks) (fun _ _ q=>A2 _ q) (B4 _) (o:=.tup (D8 k.toNat xs).flatten) ⟨?_,_,r.rep k.toNat,HP.new _ _⟩,rfl,q2 hk _ I.fresh⟩;rw[len_rep,uE];exact C4 hz (by decide)
end L4
namespace R
open PySem L2
variable {vs:List V} {d:Dv} {o:Nat} {v:V} {P:Fp} {xs:List Dv} {α:Type}
section
variable {K:W.Frag} {g:G} {H:Hp}
theorem RA.nil(h:RA K g H [] vs):vs=[]:=by unfold RA at h;exact h
theorem RA.cons{ds:List Dv}(h:RA K g H (d::ds) vs):∃v r o P,vs=v::r/\o<=1/\Rep K g H o d v P/\RA K g H ds r:=by unfold RA at h;exact h
theorem RA.one(h:RA K g H [d] vs):∃v o P,vs=[v]/\o<=1/\Rep K g H o d v P:=by
 obtain⟨v,r,o,P,rfl,ho,h1,h2⟩:=h.cons;cases h2.nil;exact⟨v,o,P,rfl,ho,h1⟩
theorem RA.two{e:Dv}(h:RA K g H [d,e] vs):∃v o P w u R,vs=[v,w]/\o<=1/\Rep K g H o d v P/\u<=1/\Rep K g H u e w R:=by
 obtain⟨v,r,o,P,rfl,ho,h1,h2⟩:=h.cons;obtain⟨w,u,R,rfl,hu,h3⟩:=h2.one;exact⟨v,o,P,w,u,R,rfl,ho,h1,hu,h3⟩
theorem BQ{l:List Nat}(h:Rep K g H o (.str l) v P):v=.str (tx l):=by unfold Rep at h;exact h.1
theorem Le(h:Rep K g H o .we v P):v=.we:=by unfold Rep at h;exact h.1
theorem Dp(ho:o<=1)(h:Rep K g H o (.lst xs) v P):∃a us,v=.ref a/\Cy K H a us/\AA K g H 0 xs us wX/\H a=some (.lst us):=by
 unfold Rep at h;obtain⟨a,us,P',rfl,h1,h2,_⟩:=h;rw[Z8 ho] at h2;exact⟨a,us,rfl,.inl (.inl h1.1),h2.z,h1.1⟩
theorem FC(ho:o<=1)(h:Rep K g H o (.tup xs) v P):∃a us,v=.ref a/\De K H a us/\AA K g H 0 xs us wX/\H a=some (.tup us):=by
 unfold Rep at h;obtain⟨a,us,rfl,h1,h2⟩:=h;rw[Z8 ho] at h2;exact⟨a,us,rfl,.inl (.inl h1),h2.z,h1⟩
theorem Mq{ns:List Int}(h:Rep K g H o (.xV ns) v P):∃a,v=.ref a/\Cy K H a (ns.map V.int):=by
 unfold Rep at h;obtain⟨⟨a,rfl,h1⟩,_⟩:=h;exact⟨a,rfl,h1.sq⟩
theorem Ep(ho:o<=1){a:B3}{us:List V}(h1:H a=some (.tup us))(h2:AA K g H 0 xs us wX):Rep K g H o (.tup xs) (.ref a) wX:=by
 unfold Rep;rw[Z8 ho];exact⟨a,us,rfl,h1,h2⟩
theorem Ae.int(i:Int):Ae K g H o (.int i) (.int i) H:=Ae.old Bg
theorem Ae.bl(b:Bool):Ae K g H o (.bl b) (.bl b) H:=Ae.old DU
theorem Ae.str(l:List Nat):Ae K g H o (.str l) (.str (tx l)) H:=Ae.old (by unfold Rep;exact⟨rfl,fun _ z=>z⟩)
theorem Ae.tup(ho:o<=1){p:B3}(hp:H p=none)(h:AA K g H 0 xs vs wX):Ae K g H o (.tup xs) (.ref p) (upd H p (.tup vs)):=
 have sm:=Bp hp (.tup vs)
 ⟨sm,wX,Ep ho AM (h.held (Step.same (g:=g) (P:=wX) sm) wc.wX fun _ z=>z.elim),fun _ z=>z.elim⟩
theorem Gj{xs:List Dv}{vs:List V}(h:AA K g H 0 xs vs wX):∀n,AA K g H 0 (D8 n xs).flatten (D8 n vs).flatten wX
 | 0=>by simpa using AA.nil
 | n+1=>by
  rw[O4,O4,T1,T1];exact BP h (Gj h n)
theorem PN(n:Nat)(h:AA K g H 0 xs vs wX):AA K g H 0 (xs.drop n) (vs.drop n) wX:=by
 have h0:=FG.mp h;exact FG.mpr ⟨by simp[h0.1],fun i d v e1 e2=>h0.2 (n+i) d v (by simpa using e1) (by simpa using e2)⟩
theorem PL(n:Nat)(h:AA K g H 0 xs vs wX):AA K g H 0 (xs.take n) (vs.take n) wX:=by
 have h0:=FG.mp h;refine FG.mpr ⟨by simp[h0.1],fun i d v e1 e2=>?_⟩;rw[tP] at e1 e2;split at e1
 ·rename_i hi;rw[if_pos hi] at e2;exact h0.2 i d v e1 e2
 ·cases e1
theorem Be(ns:List Int):AA K g H 0 (ns.map .int) (ns.map V.int) wX:=FG.mpr ⟨by simp,fun i d v e1 e2=>by
 rw[C6] at e1 e2;cases q:ns[i]? with
 | none=>rw[q] at e1;cases e1
 | some k=>rw[q] at e1 e2;cases e1;cases e2;exact Bg⟩
def Du(xs:List α)(lo hi:Option Int):List α:=(xs.drop (HT.wo xs.length 0 lo)).take (HT.wo xs.length xs.length hi - HT.wo xs.length 0 lo)
theorem aH{β:Type}(f:α->β)(xs:List α)(lo hi:Option Int):(Du xs lo hi).map f=Du (xs.map f) lo hi:=by
 unfold Du;rw[List.map_take,List.map_drop,A8]
theorem bU{β:Type}{f:α->β}{xs:List α}{i:Int}:HK (xs.map f) i=(HK xs i).map f:=by
 unfold HK;rw[A8];cases RN xs.length i with
 | none=>rfl
 | some j=>show(xs.map f)[j]?=_;rw[C6];rfl
theorem Gk(lo hi:Option Int)(h:AA K g H 0 xs vs wX):AA K g H 0 (Du xs lo hi) (GH vs lo hi) wX:=by
 unfold Du GH;rw[h.len];exact PL _ (PN _ h)
theorem Ms{i:Int}(h:AA K g H 0 xs vs wX)(e:HK xs i=some d):∃v,HK vs i=some v/\Rep K g H 0 d v wX:=by
 unfold HK at e ⊢;rw[h.len] at e;cases q:RN vs.length i with
 | none=>rw[q] at e;cases e
 | some j =>
  rw[q] at e;obtain⟨v,R,e1,e2,_⟩:=h.get e;exact⟨v,e1,e2.z⟩
noncomputable def DF(C:Int->Int->Bool)(f:Int->Int->Int)(x y:Dv):Option Dv:=match x,y with | .int i,.int j=>if C i j=true then some (.int (f i j)) else none | _,_=>none
noncomputable def GO(f:Int->Int->Bool)(x y:Dv):Option Bool:=match x,y with | .int i,.int j=>some (f i j) | _,_=>none
abbrev QU:=DF (fun _ _=>true) fun i j=>i - j
abbrev DM:=DF (fun _ j=>decide (0 < j)) fun i j=>i % j
abbrev YU:=DF (fun _ j=>decide (0 < j) && decide (j < 1073741824)) fun i j=>i / j
abbrev jC:=DF (fun i j=>decide (0<=j) && decide (j<=1000000) && decide (i.natAbs < 2 ^ 64)) fun i j=>i ^ j.toNat
abbrev nM:=GO fun i j=>decide (j < i)
abbrev pb:=GO fun i j=>decide (j<=i)
theorem Fe{f:Dv->Dv->Option α}{ds:List Dv}{a:α}(h:two f ds=some a):∃x y,ds=[x,y]/\f x y=some a:=by
 unfold two at h;split at h
 ·exact⟨_,_,rfl,h⟩
 ·cases h
theorem Iq{f:Dv->Dv->Option Dv}{r:R2}(h:∀g H x y v w o1 o2 P R d Q,Zd g H->o1<=1->Rep K g H o1 x v P->o2<=1->Rep K g H o2 y w R->f x y=some d->(∀v H',Ae K g H o d v H'->Q v H')->r v w H Q):AJ K (two f) o (QY r):=fun g H ds vs d Q zd ra e k=>by
 obtain⟨x,y,rfl,e⟩:=Fe e;obtain⟨v,o1,P,w,o2,R,rfl,h1,h2,h3,h4⟩:=ra.two;exact h g H x y v w o1 o2 P R d Q zd h1 h2 h3 h4 e k
theorem Lg{f:Dv->Dv->Option Bool}{r:R2}(h:∀g H x y v w o1 o2 P R b (Q:VK),Zd g H->o1<=1->Rep K g H o1 x v P->o2<=1->Rep K g H o2 y w R->f x y=some b->Q (.bl b) H->r v w H Q):AJ K (fun ds=>(two f ds).map .bl) 0 (QY r):=fun g H ds vs d Q zd ra e k=>by
 have e:(two f ds).map Dv.bl=some d:=e;cases q:two f ds with
 | none=>rw[q] at e;cases e
 | some b =>
  rw[q] at e;cases e;obtain⟨x,y,rfl,e2⟩:=Fe q;obtain⟨v,o1,P,w,o2,R,rfl,h1,h2,h3,h4⟩:=ra.two;exact h g H x y v w o1 o2 P R b Q zd h1 h2 h3 h4 e2 (k _ _ (Ae.bl _))
theorem Lh{C:Int->Int->Bool}{C':Int->Int->Prop}{f:Int->Int->Int}(hc:∀i j,C i j=true->C' i j):AJ K (two (DF C f)) o (QY (rI C' fun i j=>.int (f i j))):=Iq fun g H x y v w o1 o2 P R d Q zd _ h1 _ h2 e k=>by
 unfold DF at e;split at e
 ·split at e
  ·rename_i c;cases e;rw[AG h1,AG h2];exact⟨_,_,rfl,rfl,hc _ _ c,k _ _ (Ae.int _)⟩
  ·cases e
 ·cases e
theorem Zc{f:Int->Int->Int}:AJ K (two (DF (fun _ _=>true) f)) o (QY (YZ fun i j=>.int (f i j))):=Iq fun g H x y v w o1 o2 P R d Q zd _ h1 _ h2 e k=>by
 unfold DF at e;split at e
 ·cases e;rw[AG h1,AG h2];exact⟨_,_,rfl,rfl,k _ _ (Ae.int _)⟩
 ·cases e
theorem Li{f:Int->Int->Bool}:AJ K (fun ds=>(two (GO f) ds).map .bl) 0 (QY (YZ fun i j=>.bl (f i j))):=Lg fun g H x y v w o1 o2 P R b Q zd _ h1 _ h2 e k=>by
 unfold GO at e;split at e
 ·cases e;rw[AG h1,AG h2];exact⟨_,_,rfl,rfl,k⟩
 ·cases e
noncomputable def Ax(x y:Dv):Option Dv:=match x,y with
 | .int i,.int j=>some (.int (i+j))
 | .str a,.str b=>if a.length+b.length<=1000000 then some (.str (a++b)) else none
 | .lst xs,.lst ys=>if xs.length+ys.length<=1000000 then some (.lst (xs++ys)) else none
 | .tup xs,.tup ys=>if xs.length+ys.length<=1000000 then some (.tup (xs++ys)) else none
 | _,_=>none
theorem fL:AJ K (two Ax) 1 (QY (Mz K)):=Iq fun g H x y v w o1 o2 P R d Q zd l1 h1 l2 h2 e k=>by
 unfold Ax at e;split at e
 ·cases e;rw[AG h1,AG h2];exact YQ (k _ _ (Ae.int _))
 ·split at e
  ·rename_i hl;cases e;rw[BQ h1,BQ h2];refine YN (by rw[Cj,Cj];exact hl) ?_;rw[Oj];exact k _ _ (Ae.str _)
  ·cases e
 ·split at e
  ·rename_i hl;cases e;obtain⟨a,us,rfl,_,hx,ha⟩:=Dp l1 h1;obtain⟨b,ws,rfl,_,hy,hb⟩:=Dp l2 h2;exact YO ha hb (by rw[<- hx.len,<- hy.len];exact hl) fun p hp=>k _ _ (Ae.lst zd (BP hx hy) hp)
  ·cases e
 ·split at e
  ·rename_i hl;cases e;obtain⟨a,us,rfl,ha,hx,zR⟩:=FC l1 h1;obtain⟨b,ws,rfl,hb,hy,hb'⟩:=FC l2 h2;have al:=BP hx hy
   by_cases hu:us=[]
   ·subst hu;exact .inr ⟨a,b,ws,rfl,rfl,ha,hb,k _ _ (Ae.old (Ep (B4 1) hb' al))⟩
   ·refine .inl (.inr (.inr (.inr ⟨a,b,us,ws,rfl,rfl,ha,hb,hu,by rw[<- hx.len,<- hy.len];exact C4 hl (by decide),fun hw=>?_,fun _ p hp=>k _ _ (Ae.tup (B4 1) hp al)⟩)));subst hw;rw[L9] at al;exact k _ _ (Ae.old (Ep (B4 1) zR al))
  ·cases e
 ·cases e
noncomputable def big(i:Int):Bool:=decide (-(2 ^ 64) < i) && decide (i < 2 ^ 64)
def Dc(x y:Dv):Option Dv:=match x,y with
 | .int i,.int j=>if(big i || big j)=true then some (.int (i * j)) else none
 | .lst xs,.int k=>if xs.length * k.toNat<=1000000/\k < 1000000/\-1000000 < k then some (.lst (D8 k.toNat xs).flatten) else none
 | .tup xs,.int k=>if xs≠[]/\0<=k/\k < 1000000/\xs.length * k.toNat<=1000000 then some (.tup (D8 k.toNat xs).flatten) else none
 | _,_=>none
theorem fF:AJ K (two Dc) 1 (QY (fun x y H Q=>(rI bo fun i j=>.int (i * j)) x y H Q\/kR x y H Q\/L4.zBS x y H Q)):=Iq fun g H x y v w o1 o2 P R d Q zd l1 h1 l2 h2 e k=>by
 unfold Dc at e;split at e
 ·split at e
  ·rename_i c;cases e;rw[AG h1,AG h2];refine .inl ⟨_,_,rfl,rfl,?_,k _ _ (Ae.int _)⟩;rw[rY] at c;unfold big at c;rw[A3,A3,decide_eq_true_eq,decide_eq_true_eq,decide_eq_true_eq,decide_eq_true_eq] at c;exact c
  ·cases e
 ·split at e
  ·rename_i hl;cases e;obtain⟨a,us,rfl,ha,hx,zR⟩:=Dp l1 h1;rw[AG h2];exact .inr (.inl ⟨a,_,us,rfl,rfl,zR,by omega,by omega,by rw[<- hx.len];exact C4 hl.1 (by decide),fun p hp=>k _ _ (Ae.lst zd (Gj hx _) hp)⟩)
  ·cases e
 ·split at e
  ·rename_i hl;cases e;obtain⟨a,us,rfl,ha,hx,zR⟩:=FC l1 h1;rw[AG h2];refine .inr (.inr ⟨a,_,us,rfl,rfl,zR,?_,hl.2.1,by omega,by rw[<- hx.len];exact hl.2.2.2,fun z=>?_,fun _ p hp=>k _ _ (Ae.tup (B4 1) hp (Gj hx _))⟩)
   ·intro z;have:=hx.len;rw[z] at this;exact hl.1 (J3 this)
   ·subst z;have:∀(l:List Dv),(D8 (Int.toNat 1) l).flatten=l:=fun l=>by simp
    rw[this] at k;exact k _ _ (Ae.old (Ep (B4 1) zR hx))
  ·cases e
 ·cases e
noncomputable def CY(x:Dv):Option Dv:=match x with
 | .str l=>if l.length<=1000000 then some (.int l.length) else none
 | .lst xs=>some (.int xs.length)
 | .tup xs=>some (.int xs.length)
 | .xV ns=>some (.int ns.length)
 | .xp ks _=>some (.int ks.length)
 | _=>none
theorem NJ{f:Dv->Option α}{ds:List Dv}{a:α}(h:one f ds=some a):∃x,ds=[x]/\f x=some a:=by
 unfold one at h;split at h
 ·exact⟨_,rfl,h⟩
 ·cases h
theorem DH{f:Dv->Option Dv}{r:SA}(h:∀g H x v o1 P d Q,Zd g H->o1<=1->Rep K g H o1 x v P->f x=some d->(∀v H',Ae K g H o d v H'->Q v H')->r [v] H Q):AJ K (one f) o r:=fun g H ds vs d Q zd ra e k=>by
 obtain⟨x,rfl,e⟩:=NJ e;obtain⟨v,o1,P,rfl,h1,h2⟩:=ra.one;exact h g H x v o1 P d Q zd h1 h2 e k
theorem fG:AJ K (one CY) o (fun xs H Q=>Sa K xs H Q\/cK xs H Q):=DH fun g H x v o1 P d Q zd l1 h1 e k=>by
 unfold CY at e;split at e
 ·split at e
  ·rename_i l hl;cases e;rw[BQ h1];refine .inl (Sz (by rw[Cj];exact hl) ?_);rw[Cj];exact k _ _ (Ae.int _)
  ·cases e
 ·cases e;obtain⟨a,us,rfl,ha,hx,zR⟩:=Dp l1 h1;refine .inl (aJ zR ?_);rw[<- hx.len];exact k _ _ (Ae.int _)
 ·cases e;obtain⟨a,us,rfl,ha,hx,zR⟩:=FC l1 h1;refine .inl ⟨_,_,rfl,.inr ⟨us,ha,rfl⟩,?_⟩;rw[<- hx.len];exact k _ _ (Ae.int _)
 ·cases e;obtain⟨a,rfl,ha⟩:=Mq h1;refine .inl (WS ha ?_);rw[A8];exact k _ _ (Ae.int _)
 ·cases e;obtain⟨a,us,rfl,ha,hl,hx⟩:=iQ h1;refine .inr ⟨a,_,rfl,ha,?_⟩;rename_i ks xs;have:(ks.zip us).length=ks.length:=by rw[vD,hl,hx.len,rQ]
  rw[this];exact k _ _ (Ae.int _)
 ·cases e
def AB(x y:Dv):Option Dv:=match x,y with
 | .lst xs,.int i=>HK xs i
 | .tup xs,.int i=>HK xs i
 | .xV ns,.int i=>(HK ns i).map .int
 | .str l,.int i=>if l.length<=1000000 then(HK l i).map fun c=>.str [c] else none
 | .xp ks ds,k=>(Kr k).bind fun k=>Nu k ks ds
 | _,_=>none
theorem fJ:AJ K (two AB) 0 (QY fun x y H Q=>eY K x y H Q\/pN x y H Q):=Iq fun g H x y v w o1 o2 P R d Q zd l1 h1 l2 h2 e k=>by
 unfold AB at e;split at e
 ·obtain⟨a,us,rfl,ha,hx,zR⟩:=Dp l1 h1;rw[AG h2];obtain⟨u,e2,h3⟩:=Ms hx e;exact .inl (ZO zR e2 (k _ _ (Ae.old h3)))
 ·obtain⟨a,us,rfl,ha,hx,zR⟩:=FC l1 h1;rw[AG h2];obtain⟨u,e2,h3⟩:=Ms hx e;exact .inl (.inr (.inl ⟨a,us,_,u,rfl,rfl,ha,e2,k _ _ (Ae.old h3)⟩))
 ·rename_i ns i;obtain⟨a,rfl,ha⟩:=Mq h1;rw[AG h2];cases q:HK ns i with
  | none=>rw[q] at e;cases e
  | some j =>
   rw[q] at e;cases e;exact .inl (eX ha (by rw[bU,q];rfl) (k _ _ (Ae.int _)))
 ·rename_i l i;split at e
  ·rename_i hl;rw[BQ h1,AG h2];cases q:HK l i with
   | none=>rw[q] at e;cases e
   | some c =>
    rw[q] at e;cases e;exact .inl (ZN (by rw[Cj];exact hl) (by rw[Qh];exact q) (k _ _ (Ae.str [c])))
  ·cases e
 ·obtain⟨kk,ek,e⟩:=wW e;obtain⟨a,us,rfl,ha,hl,hx⟩:=iQ h1;obtain⟨u,e2,h3⟩:=Nt hx e;rw[RK h2 ek];exact .inr ⟨a,u,rfl,e2▸MW.k ha,k _ _ (Ae.old h3)⟩
 ·cases e
def UQ(x:Dv)(lo hi:Option Int):Option Dv:=match x with
 | .str l=>if l.length<=1000000 then some (.str (Tj l lo hi)) else none
 | .lst xs=>some (.lst (Du xs lo hi))
 | .tup xs=>some (.tup (Du xs lo hi))
 | .xV ns=>some (.lst ((Du ns lo hi).map .int))
 | _=>none
theorem ki(lo hi:Option Int):AJ K (one fun d=>UQ d lo hi) 1 (bc fun x H Q=>SZ K x lo hi H Q):=DH fun g H x v o1 P d Q zd l1 h1 e k=>by
 show SZ K v lo hi H Q;cases x with
 | str l =>
  simp only[UQ.eq_def] at e;split at e
  ·rename_i hl;cases e;rw[BQ h1];refine Yz (by rw[Cj];exact hl) ?_;rw[Ug];exact k _ _ (Ae.str _)
  ·cases e
 | lst xs =>
  cases e;obtain⟨a,us,rfl,ha,hx,zR⟩:=Dp l1 h1;exact ZA zR fun p hp=>k _ _ (Ae.lst zd (Gk lo hi hx) hp)
 | tup xs =>
  cases e;obtain⟨a,us,rfl,ha,hx,zR⟩:=FC l1 h1;have al:=Gk lo hi hx
  by_cases w:HT.wo us.length 0 lo=0/\HT.wo us.length us.length hi=us.length
  ·refine .inr ⟨a,us,rfl,ha,w,k _ _ (Ae.old ?_)⟩;have ec:GH us lo hi=us:=by unfold GH;rw[w.1,w.2];simp
   rw[ec] at al;exact Ep (B4 1) zR al
  ·exact .inl (.inr (.inr ⟨a,us,rfl,ha,w,fun p hp=>k _ _ (Ae.tup (B4 1) hp al)⟩))
 | xV ns =>
  cases e;obtain⟨a,rfl,ha⟩:=Mq h1;refine eG ha fun p hp=>k _ _ (Ae.lst zd ?_ hp)
  rw[aH];exact Gk lo hi (Be ns)
 | _=>cases e
end
mutual
noncomputable def toD:Dv->L3.D
 | .bl b=>.fl (.bl b)
 | .int i=>.fl (.int i)
 | .str l=>.fl (.str (tx l))
 | .tup xs=>.tup (wx xs)
 | .lst xs=>.lst (wx xs)
 | _=>.fl .we
noncomputable def wx:List Dv->List L3.D
 | []=>[]
 | d::ds=>toD d::wx ds
end
mutual
noncomputable def Dv.cmp:Dv->Bool
 | .we | .bl _ | .int _ | .str _=>true
 | .tup xs=>Ap xs
 | .lst xs=>Ap xs
 | _=>false
noncomputable def Ap:List Dv->Bool
 | []=>true
 | d::ds=>d.cmp && Ap ds
end
mutual
noncomputable def Dv.dep:Dv->Nat
 | .tup xs=>Bv xs+1
 | .lst xs=>Bv xs+1
 | _=>0
noncomputable def Bv:List Dv->Nat
 | []=>0
 | d::ds=>max d.dep (Bv ds)
end
mutual
noncomputable def xc:Dv->Dv->Bool
 | .we,.we=>true
 | .bl a,.bl b=>a == b
 | .bl a,.int b=>(if a then 1 else 0) == b
 | .int a,.bl b=>a == (if b then 1 else 0)
 | .int a,.int b=>a == b
 | .str a,.str b=>a == b
 | .tup xs,.tup ys=>yB xs ys
 | .lst xs,.lst ys=>yB xs ys
 | _,_=>false
noncomputable def yB:List Dv->List Dv->Bool
 | [],[]=>true
 | x::xs,y::ys=>xc x y && yB xs ys
 | _,_=>false
end
mutual
theorem Nl:∀(d e:Dv),d.cmp=true->e.cmp=true->L3.w9 (toD d) (toD e)=xc d e
 | .we,e,h,k | .bl _,e,h,k | .int _,e,h,k=>by cases e<;>first | (unfold toD L3.w9 xc;rfl) | (unfold Dv.cmp at k;cases k)
 | .str l,e,h,k=>by
  cases e with
  | str m=>unfold toD L3.w9 xc;rw[L2.zBL];exact(Bool.beq_eq_decide_eq l m).symm
  | _=>first | (unfold toD L3.w9 xc;rfl) | (unfold Dv.cmp at k;cases k)
 | .tup xs,e,h,k=>by
  cases e with
  | tup ys=>unfold toD L3.w9 xc;unfold Dv.cmp at h k;exact QC xs ys h k
  | _=>first | (unfold toD L3.w9 xc;rfl) | (unfold Dv.cmp at k;cases k)
 | .lst xs,e,h,k=>by
  cases e with
  | lst ys=>unfold toD L3.w9 xc;unfold Dv.cmp at h k;exact QC xs ys h k
  | _=>first | (unfold toD L3.w9 xc;rfl) | (unfold Dv.cmp at k;cases k)
 | .xp _ _,e,h,k | .ref _,e,h,k | .xV _,e,h,k | .ty _,e,h,k | .mtp _,e,h,k | .dtt _ _,e,h,k | .dnt _ _,e,h,k | .obj _ _ _ _,e,h,k=>by unfold Dv.cmp at h;cases h
theorem QC:∀(d e:List Dv),Ap d=true->Ap e=true->L3.xi (wx d) (wx e)=yB d e
 | [],[],_,_=>by unfold wx L3.xi yB;rfl
 | [],_::_,_,_=>by simp only[wx,L3.xi,yB]
 | _::_,[],_,_=>by simp only[wx,L3.xi,yB]
 | x::xs,y::ys,h,k=>by
  unfold Ap at h k;rw[A3] at h k;simp only[wx,L3.xi,yB];rw[Nl x y h.1 k.1,QC xs ys h.2 k.2]
end
mutual
theorem dC:∀(d:Dv),(toD d).dep=d.dep
 | .we | .bl _ | .int _ | .str _ | .xp _ _ | .ref _ | .xV _ | .ty _ | .mtp _ | .dtt _ _ | .dnt _ _ | .obj _ _ _ _=>by unfold toD L3.D.dep Dv.dep;rfl
 | .tup xs=>by unfold toD L3.D.dep Dv.dep;rw[HE xs]
 | .lst xs=>by unfold toD L3.D.dep Dv.dep;rw[HE xs]
theorem HE:∀(d:List Dv),L3.xf (wx d)=Bv d
 | []=>by unfold wx L3.xf Bv;rfl
 | x::xs=>by simp only[wx,L3.xf,Bv];rw[dC x,HE xs]
end
section
variable {K:W.Frag} {g:G} {H:Hp}
mutual
theorem Rep.is:∀{o:Nat} {d:Dv} {v:V} {P:Fp},Rep K g H o d v P->d.cmp=true->L3.Is K H v (toD d)
 | _,.we,v,P,h,_=>by rw[Le h];unfold toD L3.Is;exact⟨rfl,rfl⟩
 | _,.bl b,v,P,h,_=>by rw[Dm h];unfold toD L3.Is;exact⟨rfl,rfl⟩
 | _,.int i,v,P,h,_=>by rw[AG h];unfold toD L3.Is;exact⟨rfl,rfl⟩
 | _,.str l,v,P,h,_=>by rw[BQ h];unfold toD L3.Is;exact⟨rfl,rfl⟩
 | _,.tup xs,v,P,h,c=>by
  unfold Rep at h;obtain⟨a,vs,rfl,h1,h2⟩:=h;unfold Dv.cmp at c;unfold toD L3.Is;exact⟨a,vs,rfl,.inl (.inl h1),AA.isL h2 c⟩
 | _,.lst xs,v,P,h,c=>by
  unfold Rep at h;obtain⟨a,vs,P',rfl,h1,h2,_⟩:=h;unfold Dv.cmp at c;unfold toD L3.Is;exact⟨a,vs,rfl,.inl (.inl h1.1),AA.isL h2 c⟩
 | _,.xp _ _,v,P,h,c | _,.ref _,v,P,h,c | _,.xV _,v,P,h,c | _,.ty _,v,P,h,c | _,.mtp _,v,P,h,c | _,.dtt _ _,v,P,h,c | _,.dnt _ _,v,P,h,c | _,.obj _ _ _ _,v,P,h,c=>by unfold Dv.cmp at c;cases c
theorem AA.isL:∀{o:Nat} {d:List Dv} {v:List V} {P:Fp},AA K g H o d v P->Ap d=true->L3.IsL K H v (wx d)
 | _,[],v,P,h,_=>by
  unfold AA at h;obtain⟨rfl,_⟩:=h;unfold wx L3.IsL
  trivial
 | _,x::xs,v,P,h,c=>by
  unfold AA at h;obtain⟨u,r,P1,P2,rfl,h1,h2,_⟩:=h;unfold Ap at c;rw[A3] at c;unfold wx L3.IsL;exact⟨Rep.is h1 c.1,AA.isL h2 c.2⟩
end
def MP(neg:Bool)(x y:Dv):Option Bool:=if(x.cmp && y.cmp && decide (x.dep<=150))=true then some (if neg then !xc x y else xc x y) else none
abbrev LK:=MP false
abbrev UV:=MP true
theorem Vg{neg:Bool}:AJ K (fun ds=>(two (MP neg) ds).map .bl) 0 (QY (L3.zBl K neg)):=Lg fun g H x y v w o1 o2 P R b Q zd _ h1 _ h2 e k=>by
 unfold MP at e;split at e
 ·rename_i c;cases e;rw[A3,A3,decide_eq_true_eq] at c;refine⟨toD x,toD y,by rw[dC];exact c.2,h1.is c.1.1,h2.is c.1.2,?_⟩;rw[Nl x y c.1.1 c.1.2];exact k
 ·cases e
noncomputable def nV:Dv->Option (List Dv)
 | .lst xs=>some xs
 | .tup xs=>some xs
 | .mtp ls=>some (ls.map .str)
 | _=>none
def NP(e:Dv)(ds:List Dv):Bool:=ds.any fun d=>xc d e
def QR(neg:Bool)(e s:Dv):Option Bool:=match e,s with
 | .str x,.str l=>some (if neg then !Q.zCQ x l else Q.zCQ x l)
 | e,s=>match nV s with
  | some xs=>if(e.cmp && Ap xs && decide (Bv xs<=150))=true then some (if neg then !NP e xs else NP e xs) else none
  | none=>none
abbrev pZ:=QR false
theorem mq(e:Dv)(he:e.cmp=true):∀(ds:List Dv),Ap ds=true->((wx ds).any fun d=>L3.w9 d (toD e))=NP e ds
 | [],_=>by unfold wx NP;rfl
 | d::ds,h=>by
  unfold Ap at h;rw[A3] at h;unfold NP;simp only[wx,V9];rw[Nl d e h.1 he,mq e he ds h.2];rfl
theorem PM(ls:List (List Nat)):AA K g H 0 (ls.map .str) (ls.map fun l=>V.str (tx l)) wX:=FG.mpr ⟨by simp,fun i d v e1 e2=>by
 rw[C6] at e1 e2;cases q:ls[i]? with
 | none=>rw[q] at e1;cases e1
 | some k=>rw[q] at e1 e2;cases e1;cases e2;unfold Rep;exact⟨rfl,fun _ z=>z⟩⟩
theorem fI{neg:Bool}:AJ K (fun ds=>(two (QR neg) ds).map .bl) 0 (QY (Q.zCV K neg)):=Lg fun g H x y v w o1 o2 P R b Q zd l1 h1 l2 h2 e k=>by
  unfold QR at e;split at e
  · cases e;rw[BQ h1,BQ h2];exact .inl ⟨_,_,rfl,rfl,k⟩
  · rename_i a s _;split at e
    · rename_i xs es;split at e
      · rename_i c;cases e;rw[A3,A3,decide_eq_true_eq] at c;have go:∀p ys,w=.ref p->(Cy K H p ys\/De K H p ys)->AA K g H 0 xs ys wX->L3.zBk K neg v w H Q:=by
          rintro p ys rfl hs hr;refine⟨p,ys,wx xs,toD x,rfl,hs,hr.isL c.1.2,h1.is c.1.1,by rw[HE];exact c.2,?_⟩;rw[mq x c.1.1 xs c.1.2];exact k
        cases y with
        | lst ys =>
          cases es;obtain⟨p,us,rfl,ha,hx,_⟩:=Dp l2 h2;exact .inr (go p us rfl (.inl ha) hx)
        | tup ys =>
          cases es;obtain⟨p,us,rfl,ha,hx,_⟩:=FC l2 h2;exact .inr (go p us rfl (.inr ha) hx)
        | mtp ls =>
          cases es;unfold Rep at h2;obtain⟨⟨p,rfl,hm⟩,_⟩:=h2;exact .inr (go p _ rfl (.inr (.inr hm)) (PM ls))
        | _=>cases es
      · cases e
    · cases e
end
noncomputable def Oh:List Dv->Option (List Bool)
 | []=>some []
 | .bl b::ds=>(Oh ds).map (b::·)
 | _=>none
noncomputable def Bu:List Dv->Option (List Int)
 | []=>some []
 | .int b::ds=>(Bu ds).map (b::·)
 | _=>none
noncomputable def KS:List Dv->Option (List (List Nat))
 | []=>some []
 | .str b::ds=>(KS ds).map (b::·)
 | _=>none
section
variable {K:W.Frag} {g:G} {H:Hp}
theorem Mc:∀{ds:List Dv} {bs:List Bool} {vs:List V},AA K g H 0 ds vs wX->Oh ds=some bs->vs=bs.map V.bl
 | [],bs,vs,h,e=>by cases e;exact BO h
 | d::ds,bs,vs,h,e=>by
  obtain⟨v,r,rfl,h1,h2⟩:=BJ h;cases d<;>simp only[Oh,E5,reduceCtorEq] at e;obtain⟨bs',e,rfl⟩:=e;rw[Dm h1,Mc h2 e];rfl
theorem GU:∀{ds:List Dv} {bs:List Int} {vs:List V},AA K g H 0 ds vs wX->Bu ds=some bs->vs=bs.map V.int
 | [],bs,vs,h,e=>by cases e;exact BO h
 | d::ds,bs,vs,h,e=>by
  obtain⟨v,r,rfl,h1,h2⟩:=BJ h;cases d<;>simp only[Bu,E5,reduceCtorEq] at e;obtain⟨bs',e,rfl⟩:=e;rw[AG h1,GU h2 e];rfl
theorem KQ:∀{ds:List Dv} {bs:List (List Nat)} {vs:List V},AA K g H 0 ds vs wX->KS ds=some bs->vs=(bs.map tx).map V.str
 | [],bs,vs,h,e=>by cases e;exact BO h
 | d::ds,bs,vs,h,e=>by
  obtain⟨v,r,rfl,h1,h2⟩:=BJ h;cases d<;>simp only[KS,E5,reduceCtorEq] at e;obtain⟨bs',e,rfl⟩:=e;rw[BQ h1,KQ h2 e];rfl
def QV(x:Dv):Option Dv:=match x with | .lst xs=>(Oh xs).map fun bs=>.bl (bs.all id) | _=>none
theorem fK{o:Nat}:AJ K (one QV) o (ka K):=DH fun g H x v o1 P d Q zd l1 h1 e k=>by
 unfold QV at e;split at e
 ·simp only[E5] at e;obtain⟨bs,e,rfl⟩:=e;obtain⟨p,us,rfl,ha,hx,_⟩:=Dp l1 h1;rw[Mc hx e] at ha;exact⟨p,bs,rfl,ha,k _ _ (Ae.bl _)⟩
 ·cases e
def qM(x:Dv):Option Dv:=match x with
 | .lst xs=>(Bu xs).map fun ns=>.int ns.sum
 | .tup xs=>(Bu xs).map fun ns=>.int ns.sum
 | _=>none
def pe(x y:Dv):Option Dv:=match x with
 | .lst xs=>match y with
  | .int d=>match Bu xs with | some []=>some (.int d) | some (n::ns)=>some (.int (Q.mxI (n::ns))) | none=>none
  | _=>none
 | _=>none
noncomputable def LN(x y:Dv):Option Dv:=match x,y with | .int i,.int j=>some (.int (if j > i then j else i)) | _,_=>none
noncomputable def LM(x y:Dv):Option Dv:=match x,y with | .int i,.int j=>some (.int (if j < i then j else i)) | _,_=>none
theorem Et{f:Dv->Dv->Option Dv}{o:Nat}{r:SA}(h:∀g H x y v w o1 o2 P R d Q,Zd g H->o1<=1->Rep K g H o1 x v P->o2<=1->Rep K g H o2 y w R->f x y=some d->(∀v H',Ae K g H o d v H'->Q v H')->r [v,w] H Q):AJ K (two f) o r:=fun g H ds vs d Q zd ra e k=>by
 obtain⟨x,y,rfl,e⟩:=Fe e;obtain⟨v,o1,P,w,o2,R,rfl,h1,h2,h3,h4⟩:=ra.two;exact h g H x y v w o1 o2 P R d Q zd h1 h2 h3 h4 e k
theorem ZZ{o:Nat}:AJ K (two LN) o (fun xs H Q=>∃i j,xs=[.int i,.int j]/\Q (.int (if j > i then j else i)) H):=Et fun g H x y v w o1 o2 P R d Q zd _ h1 _ h2 e k=>by
 unfold LN at e;split at e
 ·cases e;rw[AG h1,AG h2];exact⟨_,_,rfl,k _ _ (Ae.int _)⟩
 ·cases e
theorem ZY{o:Nat}:AJ K (two LM) o (fun xs H Q=>∃i j,xs=[.int i,.int j]/\Q (.int (if j < i then j else i)) H):=Et fun g H x y v w o1 o2 P R d Q zd _ h1 _ h2 e k=>by
 unfold LM at e;split at e
 ·cases e;rw[AG h1,AG h2];exact⟨_,_,rfl,k _ _ (Ae.int _)⟩
 ·cases e
noncomputable def AL(x:Dv):Option Dv:=match x with | .lst xs=>some (.tup xs) | .tup xs=>some (.tup xs) | _=>none
theorem Vd:AJ K (one AL) 1 (Mw K):=DH fun g H x v o1 P d Q zd l1 h1 e k=>by
 unfold AL at e;split at e
 ·cases e;obtain⟨p,us,rfl,ha,hx,_⟩:=Dp l1 h1;exact⟨p,us,rfl,.inl ⟨ha,fun l hl=>k _ _ (Ae.tup (B4 1) hl hx)⟩⟩
 ·cases e;obtain⟨p,us,rfl,ha,hx,zR⟩:=FC l1 h1;exact⟨p,us,rfl,.inr ⟨ha,k _ _ (Ae.old (Ep (B4 1) zR hx))⟩⟩
 ·cases e
noncomputable def OY(x:Dv):Option Dv:=match x with | .lst xs=>some (.lst xs) | .tup xs=>some (.lst xs) | .xV ns=>some (.lst (ns.map .int)) | _=>none
theorem Za:AJ K (one OY) 1 (Qv K):=DH fun g H x v o1 P d Q zd l1 h1 e k=>by
 unfold OY at e;split at e
 ·cases e;obtain⟨p,us,rfl,ha,hx,_⟩:=Dp l1 h1;exact⟨p,us,rfl,.inl ha,fun l hl=>k _ _ (Ae.lst zd hx hl)⟩
 ·cases e;obtain⟨p,us,rfl,ha,hx,_⟩:=FC l1 h1;exact⟨p,us,rfl,.inr ha,fun l hl=>k _ _ (Ae.lst zd hx hl)⟩
 ·cases e;obtain⟨p,rfl,ha⟩:=Mq h1;exact⟨p,_,rfl,.inl ha,fun l hl=>k _ _ (Ae.lst zd (Be _) hl)⟩
 ·cases e
def Jo(x y:Dv):Option Dv:=match x,y with
 | .str sep,.lst xs=>match KS xs with
  | some ys=>if(ys.map qg).sum+ys.length * sep.length<=1000000 then some (.str (jn sep ys)) else none
  | none=>none
 | _,_=>none
theorem Zb{o:Nat}:AJ K (two Jo) o (jE (VU K)):=Et fun g H x y v w o1 o2 P R d Q zd l1 h1 l2 h2 e k=>by
 unfold Jo at e;split at e
 ·split at e
  ·rename_i sep xs _ ys e1;split at e
   ·rename_i hz;cases e;obtain⟨a,us,rfl,ha,hx,_⟩:=Dp l2 h2;rw[BQ h1];rw[KQ hx e1] at ha;refine⟨tx sep,a,ys.map tx,rfl,rfl,ha,?_,?_⟩
    ·rw[dg,A8,Cj];exact C4 hz (by decide)
    ·rw[jR];exact k _ _ (Ae.str _)
   ·cases e
  ·cases e
 ·cases e
noncomputable def HL(x:Dv):Option Dv:=match x with
 | .str l=>if(l.all (fun c=>decide (c < 128)) && decide (l.length<=1000000))=true then some (.str (l.map g8)) else none
 | _=>none
theorem Vc{o:Nat}:AJ K (one HL) o (jE VR):=DH fun g H x v o1 P d Q zd l1 h1 e k=>by
 unfold HL at e;split at e
 ·split at e
  ·rename_i l c;cases e;rw[A3,decide_eq_true_eq,F8] at c;rw[BQ h1];exact⟨l,rfl,rfl,fun x hx=>of_decide_eq_true (c.1 x hx),c.2,k _ _ (Ae.str _)⟩
  ·cases e
 ·cases e
def Lv(e:Dv):List Dv->Option Nat
 | []=>none
 | d::ds=>if xc d e=true then some 0 else(Lv e ds).map (·+1)
theorem Kw(e:Dv):∀(ds:List Dv) (j:Nat),Lv e ds=some j->(∃d,ds[j]?=some d/\xc d e=true)/\∀(i:Nat) (d:Dv),i < j->ds[i]?=some d->xc d e=false
 | [],j,h=>by cases h
 | d::ds,j,h=>by
  unfold Lv at h;split at h
  ·rename_i c;cases h;exact⟨⟨d,rfl,c⟩,fun i d hi=>by omega⟩
  ·rename_i c;simp only[E5] at h;obtain⟨k,hk,rfl⟩:=h;obtain⟨h1,h2⟩:=Kw e ds k hk;refine⟨by simpa using h1,fun i d' hi hd=>?_⟩;cases i with
   | zero=>simp at hd;subst hd;simpa using c
   | succ i=>exact h2 i d' (by omega) (by simpa using hd)
theorem II:∀(ds:List Dv) (i:Nat),(wx ds)[i]?=(ds[i]?).map toD
 | [],i=>by unfold wx;simp
 | d::ds,0=>by unfold wx;simp
 | d::ds,i+1=>by
  have:=II ds i;simp only[wx,Y8];exact this
theorem KU{ds:List Dv}(h:Ap ds=true):∀{i:Nat} {d:Dv},ds[i]?=some d->d.cmp=true:=by
 induction ds with
 | nil=>intro i d e;simp at e
 | cons x xs ih =>
  unfold Ap at h;rw[A3] at h;intro i d e;cases i with
  | zero=>simp at e;subst e;exact h.1
  | succ i=>exact ih h.2 (i:=i) (by simpa using e)
theorem Wd{e:Dv}{ds:List Dv}{j:Nat}(he:e.cmp=true)(hd:Ap ds=true)(h:Lv e ds=some j) :
    (∃d,(wx ds)[j]?=some d/\L3.w9 d (toD e)=true)/\∀(m:Nat) (d:L3.D),m < j->(wx ds)[m]?=some d->L3.w9 d (toD e)=false:=by
  obtain⟨⟨d,h1,h2⟩,h3⟩:=Kw e ds j h;refine⟨⟨toD d,by rw[II,h1];rfl,by rw[Nl d e (KU hd h1) he];exact h2⟩,fun m d' hm z9=>?_⟩;rw[II] at z9;cases q:ds[m]? with
  | none=>rw[q] at z9;cases z9
  | some dm =>
    rw[q] at z9;cases z9;rw[Nl dm e (KU hd q) he];exact h3 m dm hm q
def Ed(x e:Dv):Option Dv:=match x with
 | .lst xs=>if(e.cmp && Ap xs && decide (Bv xs<=150))=true then(Lv e xs).map fun j=>.int (j:Nat) else none
 | _=>none
theorem Vf{o:Nat}:AJ K (two Ed) o (jE (Q.zAM K)):=Et fun g H x y v w o1 o2 P R d Q zd l1 h1 l2 h2 e k=>by
 unfold Ed at e;split at e
 ·split at e
  ·rename_i xs c;rw[A3,A3,decide_eq_true_eq] at c;simp only[E5] at e;obtain⟨j,e1,rfl⟩:=e;obtain⟨p,us,rfl,ha,hx,_⟩:=Dp l1 h1;obtain⟨q1,q2⟩:=Wd c.1.1 c.1.2 e1;exact⟨p,us,w,wx xs,toD y,j,rfl,rfl,ha,hx.isL c.1.2,h2.is c.1.1,by rw[HE];exact c.2,q1,q2,k _ _ (Ae.int _)⟩
  ·cases e
 ·cases e
def Dx(x e:Dv):Option Dv:=match x with
 | .tup xs=>if(e.cmp && Ap xs && decide (Bv xs<=150))=true then(Lv e xs).map fun j=>.int (j:Nat) else none
 | _=>none
theorem Sb{o:Nat}:AJ K (two Dx) o (jE (Q.zV K)):=Et fun g H x y v w o1 o2 P R d Q zd l1 h1 l2 h2 e k=>by
 unfold Dx at e;split at e
 ·split at e
  ·rename_i xs c;rw[A3,A3,decide_eq_true_eq] at c;simp only[E5] at e;obtain⟨j,e1,rfl⟩:=e;obtain⟨p,us,rfl,_,hx,ha⟩:=FC l1 h1;obtain⟨q1,q2⟩:=Wd c.1.1 c.1.2 e1;exact⟨p,us,w,wx xs,toD y,j,rfl,rfl,ha,hx.isL c.1.2,h2.is c.1.1,by rw[HE];exact c.2,q1,q2,k _ _ (Ae.int _)⟩
  ·cases e
 ·cases e
noncomputable def cc:Dv->Option String
 | .we=>some "NoneType"
 | .bl _=>some "bool"
 | .int _=>some "int"
 | .str _=>some "str"
 | .tup _=>some "tuple"
 | .lst _=>some "list"
 | _=>none
noncomputable def lD(T:String):Bool:=["int", "bool", "str", "tuple", "list"].contains T
def Jp(x y:Dv):Option Dv:=match y with
 | .ty T=>if lD T=true then(cc x).map fun k=>.bl (Q.zBV k T) else none
 | _=>none
theorem aM{o:Nat}{x:Dv}{v:V}{P:Fp}{kd:String}(l1:o<=1)(h1:Rep K g H o x v P)(e:cc x=some kd):xq K H v (.type kd)/\kd∈["NoneType", "bool", "int", "str", "tuple", "list"]:=by
 cases x with
 | we=>cases e;rw[Le h1];exact⟨.we,by simp⟩
 | bl b=>cases e;rw[Dm h1];exact⟨.bl _,by simp⟩
 | int b=>cases e;rw[AG h1];exact⟨.int _,by simp⟩
 | str b=>cases e;rw[BQ h1];exact⟨.str _,by simp⟩
 | tup b=>cases e;obtain⟨p,us,rfl,_,_,ha⟩:=FC l1 h1;exact⟨.tup ha,by simp⟩
 | lst b=>cases e;obtain⟨p,us,rfl,_,_,ha⟩:=Dp l1 h1;exact⟨.lst ha,by simp⟩
 | _=>cases e
theorem fH{o:Nat}:AJ K (two Jp) o (kW K):=Et fun g H x y v w o1 o2 P R d Q zd l1 h1 l2 h2 e k=>by
 unfold Jp at e;split at e
 ·rename_i T;split at e
  ·rename_i c
   have hT:T∈["int", "bool", "str", "tuple", "list"]:=by unfold lD at c;simpa using c
   have hw:w=.ty T:=by unfold Rep at h2;exact h2.1
   subst hw;rw[E5] at e;obtain⟨kd,e1,rfl⟩:=e;obtain⟨ty,hk⟩:=aM l1 h1 e1;exact⟨v,T,.type kd,_,rfl,ty,_root_.Q.zBw K hk hT,k _ _ (Ae.bl _)⟩
  ·cases e
 ·cases e
def qH(f:List Int->List Int->Bool)(xs:List Dv)(y:Dv):Option Bool:=match y with
 | .tup ys=>(Bu xs).bind fun a=>(Bu ys).map fun b=>f a b
 | _=>none
abbrev iz:=GO fun i j=>decide (i < j)
end
end R
namespace L2
open PySem PySem.Spec PyProof.Rows
def ox(H:Hp)(x:V)(p:BF×V):Prop:=∃t,x=.ref t/\H t=some (.tup [kV p.1,p.2])
section
variable {X:Cx} {pins:List (B3×Obj)} {σ:St} {l it d:B3} {xs:List V} {ps:List (BF×V)} {H0:Hp} {R:uY->A7->Prop}
theorem NH{A:I9}(hh:A.handled=none)(hu:A.units+3 < S4)(oG:H0 d=none)(hl:H0 l=some (.lst xs))(hlen:xs.length=ps.length)(hps:∀(i:Nat) x p,xs[i]?=some x->ps[i]?=some p->ox H0 x p) :
    ∀(n i:Nat) (j:Int) (wY:List (BF×V)) (s:A7),xs.length - i=n->i<=xs.length->wY.length<=i->Inv X pins σ (upd H0 d (.dK wY)) s->s.heap.IsListIter it l i->wc X pins (upd H0 d (.dK wY)) it ->
    (∀s',Inv X pins σ (upd H0 d (.dK (Ip wY (ps.drop i)))) s'->R (.ok (.ret .none)) s') ->
    W8 (D4 X.prog X.w) A (.builtin "dict.update.loop" ⟨[.ref d,.ref it,N5 j,.none],[]⟩) R s:=by
  have hld:l≠d:=Az hl oG;intro n
  induction n with
  | zero =>
    intro i j wY s hn hi hk I st hf hR;have e:i=xs.length:=by omega
    subst e;obtain⟨its,rv,p,hz⟩:=I.list (Ou (show upd H0 d (.dK wY) l=some (.lst xs) by rw[AE hld];exact hl));have hlv:=rv.length;refine M0 DE ?_;rw[L6 BE _];show B6 _ A.in1 (V1 (.ref it) >>= _) _ _ s;obtain⟨f0,f1,f2,f3,f4,f5⟩:=hf;refine A1 (Z7 (show A.in1.handled=none from hh) st p.isList (by simp;omega) fun h' eb=>?_);have I1:Inv X pins σ (upd H0 d (.dK wY)) { s with heap:=h' }:=I.turned (t':=s.toks) (fun b o hb e=>eb b o hb e) f0 f1 f3 f4 f5;refine A1 (A6 ?_);refine A6 (hR _ ?_);rw[List.drop_eq_nil_of_le (by omega)];exact I1
  | succ n ih =>
    intro i j wY s hn hi hk I st hf hR;have xF:i < xs.length:=by omega
    obtain⟨its,rv,p,hz⟩:=I.list (Ou (show upd H0 d (.dK wY) l=some (.lst xs) by rw[AE hld];exact hl));have hlv:=rv.length;obtain⟨u,hu',ru⟩:=rv.get (A4 xF);have zi:i < ps.length:=by omega
    obtain⟨t,ex,ht⟩:=hps i xs[i] ps[i] (A4 xF) (A4 zi);rw[ex] at ru;cases ru;refine M0 DE ?_;rw[L6 BE _];show B6 _ A.in1 (V1 (.ref it) >>= _) _ _ s;have hf0:=hf;obtain⟨f0,f1,f2,f3,f4,f5⟩:=hf;refine A1 (Z1 st p.isList (x:=.ref t) (by simpa using hu') fun h' st' sb=>?_);have I1:Inv X pins σ (upd H0 d (.dK wY)) { s with heap:=h' }:=I.turned (t':=s.toks) (fun b o hb e=>(sb.2 b hb).trans e) f0 f1 f3 f4 f5;have ht':upd H0 d (.dK wY) t=some (.tup [kV (ps[i]).1,(ps[i]).2]):=by rw[AE (Az ht oG)];exact ht
    obtain⟨wg,rv2,p2,hz2⟩:=I1.tuple (eE ht');cases rv2 with
    | cons q1 rr =>
      cases rr with
      | cons q2 rr =>
        cases rr;obtain⟨ot,hot,hct,nt,hdt⟩:=p2;refine A1 (G9 (A1 (wpAny_tryCatch ?_)));unfold wC
        refine A1 (R1 (T := "tuple") ⟨ot,hot,hct⟩ ?_)
        rw[if_pos (by decide)];refine A1 (L5 hot hdt ?_);refine A6 ?_;have zCo:it≠d:=by intro z;rw[z,AM] at f0;cases f0
        obtain⟨oi,hoi,hci,hdi⟩:=id st';have I1p:Inv X (pins++Ir [it] h') σ (upd H0 d (.dK wY)) { s with heap:=h' }:=Inv.pinned (s:={ s with heap:=h' }) (fp:=[it]) I1 (fun b hb=>by rw[D3.mp hb];exact hf0) fun b hb=>by
          rw[D3.mp hb];exact⟨oi,hoi,fun v z=>by rw[hdi] at z;cases z⟩
        have hkl:wY.length < sizeLine:=by omega
        have g:Ob (upd H0 d (.dK wY)) d (kV (ps[i]).1) (ps[i]).2 (upd (upd H0 d (.dK wY)) d (.dK (Dn wY (ps[i]).1 (ps[i]).2))):=Ob.k AM hkl;rw[Yh] at g;refine G9 (Te (show A.units+1+1 < S4 by omega) I1p g q1 q2 fun s2 I2=>?_);have zDj:s2.heap.get? it=some oi:=(I2.pin (it,oi) (B8 _ (B8 _ (Cu (h:=h') (D3.mpr rfl) hoi)))).1;have I3:=I2.xu;refine A6 ⟨T8 BE _,ih (i+1) (j+1) (Dn wY (ps[i]).1 (ps[i]).2) s2 (by omega) xF (by have:=ET wY (ps[i]).1 (ps[i]).2;omega) I3 ⟨oi,zDj,hci,hdi⟩ ⟨by rw[AE zCo];rw[AE zCo] at f0;exact f0,f1,f2,f3,f4,f5⟩ fun s' I'=>hR s' ?_⟩;rw[S6 zi];exact I'
def VV:List V->Hp->VK->Prop:=fun vs H Q=>∃(l:B3) (xs:List V) (ps:List (BF×V)),vs=[.ref l]/\H l=some (.lst xs)/\xs.length=ps.length/\(∀(i:Nat) x p,xs[i]?=some x->ps[i]?=some p->ox H x p)/\∀d,H d=none->Q (.ref d) (upd H d (.dK (Ip [] ps)))
theorem QK{j:Nat}(hr:wt j X.A)(hc:X.calm=true:=by rfl):BG X (.type "dict") VV:=by
 intro pins s σ H vs us Q I r h;obtain⟨l,xs,ps,rfl,hl,hlen,hps,q⟩:=h;obtain⟨u,rfl,rx⟩:=vals1 r;cases rx;have hun:=hr.un;have hh:=I.ok.hd hc
 refine callType_codes (Q₁:=fun obj wa=>obj=.ref s.heap.objs.size/\wa={ s with heap:=s.heap.push { cls:=.type "dict", data:=.dict #[] } }) PySem.F.kt_called_dict (PySem.F.kt_typeCall_dict_1 _) PySem.F.entry_dict_init (kt_code_dict_new _ ⟨rfl,rfl⟩) ?_
 rintro obj wa ⟨rfl,rfl⟩
 have I0:Inv X pins σ (upd H s.heap.objs.size (.dK [])) { s with heap:=s.heap.push { cls:=.type "dict", data:=.dict #[] } }:=
  I.laid (a:=s.heap.objs.size) (o:=.dK []) (t':=s.toks) (fun _ _ q=>A2 _ q) (B4 _) (Nn s.heap I.big)
 have yw:=I.wj.fresh (B4 s.heap.objs.size);have hld:l≠s.heap.objs.size:=Az hl yw
 have hT:qr { s with heap:=s.heap.push { cls:=.type "dict", data:=.dict #[] } } (.ref s.heap.objs.size) "dict" := ⟨_,B2 _ rfl,rfl⟩
 generalize zh:({ s with heap:=s.heap.push { cls:=.type "dict", data:=.dict #[] } }:A7)=s1 at I0 hT
 refine⟨hT,PySem.F.args_dict_init_2 _ _,?_⟩;unfold O8.«dict.__init__»;refine A1 ?_;unfold vh;refine A1 (wpAny_notOrdered_dict hT ?_);show B6 _ _ (pure (s.heap.objs.size,[F7 l])) _ _ _;refine A6 ?_
 show B6 _ _ (rF "dict.__init__" s.heap.objs.size (.ref l) [] .none) _ _ _
 unfold rF;obtain⟨its,rv,p,hz⟩:=I0.list (Ou (show upd H s.heap.objs.size (.dK []) l=some (.lst xs) by rw[AE hld];exact hl));obtain⟨o,n,ho,hco,hnd,hdo⟩:=id p
 refine A1 (R1 (T := "list") ⟨o,ho,hco⟩ ?_)
 rw[if_pos (by decide)];refine A1 ?_;refine aA ho hco hdo hnd (show X.A.in1.in1.handled=none from hh) fun h2 tk2 k2=>?_
 have I2:Inv X pins σ (upd H s.heap.objs.size (.dK [])) { s1 with heap:=h2,toks:=tk2 }:=I0.kept k2;rw[if_pos (by decide)];refine A1 (R7 ?_);refine A1 (T2 (s:={ s1 with heap:=h2,toks:=tk2 }) (p.isList.at fun o e=>k2 _ o e) ?_)
 have I3:Inv X pins σ (upd H s.heap.objs.size (.dK [])) { s1 with heap:=h2.push { cls:=.type "list_iterator", data:=.fields #[.ref l,.int 0 0] },toks:=tk2 }:=Inv.kept (s:={ s1 with heap:=h2,toks:=tk2 }) (t':=tk2) I2 fun b o e=>A2 _ e
 refine A6 ⟨T8 BE _,NH (X:=X) (A:=X.A.in1) (H0:=H) (it:=h2.objs.size) (d:=s.heap.objs.size) (show X.A.in1.handled=none from hh) (show X.A.units+1+3 < S4 by omega) yw hl hlen hps xs.length 0 0 [] _ (by omega) (J8 _) (B4 _) I3 ⟨_,B2 _ rfl,rfl,rfl⟩ (I2.wb (B4 _) (I2.wj.fresh (B4 _))) fun s' I'=>⟨rfl,.ref s.heap.objs.size,_,I',rfl,q _ yw⟩⟩
end
end L2
namespace L3
open PySem PySem.Spec PyProof.Rows L2
end L3
namespace KO
open PySem PySem.W PyProof.Rows
end KO
namespace L2
open PySem PySem.Spec PyProof.Rows
end L2
namespace R
open PySem L2
noncomputable def Kd:Dv->Option (List Dv)
 | .tup ds=>some ds
 | .lst ds=>some ds
 | .xV ns=>some (ns.map .int)
 | _=>none
variable {ds:List Dv}
section
variable {K:W.Frag} {g:G} {H:Hp}
abbrev nQ(K:W.Frag)(g:G)(H:Hp)(a:B3)(b:Bool)(ds:List Dv):Prop:=∀g2 H2,Jq g H g2 H2->∃vs,Jt K H2 a vs b/\AA K g2 H2 0 ds vs wX
theorem IV{d:Dv}{v:V}(h:Rep K g H 0 d v wX)(e:Kd d=some ds):∃a b,v=.ref a/\nQ K g H a b ds:=by
 have z1:(0:Nat)<=1:=by decide
 cases d with
 | tup es =>
  cases e;obtain⟨a,vs,rfl,_⟩:=FC z1 h;refine⟨a,true,rfl,fun g2 H2 st=>?_⟩;obtain⟨a',us,q,k1,k2,_⟩:=FC z1 (st.rep h);cases q;exact⟨us,k1,k2⟩
 | lst es =>
  cases e;obtain⟨a,vs,rfl,_⟩:=Dp z1 h;refine⟨a,false,rfl,fun g2 H2 st=>?_⟩;obtain⟨a',us,q,k1,k2,_⟩:=Dp z1 (st.rep h);cases q;exact⟨us,k1,k2⟩
 | xV ns =>
  cases e;obtain⟨a,rfl,_⟩:=Mq h;refine⟨a,false,rfl,fun g2 H2 st=>?_⟩;obtain⟨a',q,k1⟩:=Mq (st.rep h);cases q;exact⟨_,k1,Be ns⟩
 | _=>cases e
theorem LR:Jq g H g H:=by
 first | exact⟨wX,wX,Step.refl,fun _ z=>z.elim⟩ | exact⟨wX,wX,Step.refl,wc.wX⟩ | exact Jq.refl
noncomputable def DO:List Dv->List Dv->List Dv
 | x1::xX,x2::xg=>.tup [x1,x2]::DO xX xg
 | _,_=>[]
theorem KL:∀(xX xg:List Dv) (i:Nat) (e:Dv),(DO xX xg)[i]?=some e->∃x1 x2,xX[i]?=some x1/\xg[i]?=some x2/\e=.tup [x1,x2]
 | x1::xX,x2::xg,0,e,h=>by simp[DO] at h;exact⟨x1,x2,rfl,rfl,h.symm⟩
 | x1::xX,x2::xg,i+1,e,h=>by
  obtain⟨y1,y2,h1,h2,q⟩:=KL xX xg i e (by simpa[DO] using h);exact⟨y1,y2,by simpa using h1,by simpa using h2,q⟩
 | [],_,i,e,h=>by simp[DO] at h
 | x1::xX,[],i,e,h=>by simp[DO] at h
theorem KM:∀(xX xg:List Dv) (i:Nat),(DO xX xg).length<=i->xX.length<=i\/xg.length<=i
 | x1::xX,x2::xg,0,h=>by simp[DO] at h
 | x1::xX,x2::xg,i+1,h=>by
  have:=KM xX xg i (by simpa[DO] using h);simp only[D9];omega
 | [],_,i,h=>by simp
 | x1::xX,[],i,h=>by simp
def IX(ds:List Dv):Option (List Dv):=two (fun x y=>(Kd x).bind fun xs=>(Kd y).bind fun ys=>some (DO xs ys)) ds
def kH(K:W.Frag):List V->Hp->(It->Hp->Prop)->Prop:=fun vs H1 R=>∃a1 a2 b1 b2,vs=[.ref a1,.ref a2]/\(∃xs,Jt K H1 a1 xs b1)/\(∃xs,Jt K H1 a2 xs b2)/\R (YX K a1 a2 b1 b2) H1
theorem Yc{a1 a2:B3}{b1 b2:Bool}{ds1 ds2:List Dv}(h1:nQ K g H a1 b1 ds1)(h2:nQ K g H a2 b2 ds2):Yl K (YX K a1 a2 b1 b2) (DO ds1 ds2) g H:=by
 intro g2 H2 st;obtain⟨vs1,sq1,r1⟩:=h1 g2 H2 st;obtain⟨vs2,sq2,r2⟩:=h2 g2 H2 st;refine⟨fun i d e=>?_,fun i hi=>⟨vs1,vs2,sq1,sq2,by have:=KM _ _ _ hi;rw[<- r1.len,<- r2.len];exact this⟩⟩;obtain⟨x1,x2,e1,e2,rfl⟩:=KL _ _ i d e;obtain⟨u1,_,eu1,ru1,_⟩:=r1.get e1;obtain⟨u2,_,eu2,ru2,_⟩:=r2.get e2;refine⟨⟨vs1,vs2,u1,u2,sq1,eu1,sq2,eu2⟩,fun x H3 y=>?_⟩;obtain⟨p,w1,w2,hp,rfl,rfl,y1,y2⟩:=y;have:=y1 vs1 sq1;rw[eu1] at this;cases this;have:=y2 vs2 sq2;rw[eu2] at this;cases this;exact Ae.tup (by decide) hp (BP (CF ru1.z) (CF ru2.z))
theorem VB:UR K IX (kH K):=fun g H ds vs its Q zd ra e q=>by
 obtain⟨x,y,rfl,e⟩:=Fe e;obtain⟨xs,e1,e⟩:=wW e;obtain⟨ys,e2,e⟩:=wW e;cases e;obtain⟨v,us,rfl,h1,h2⟩:=BJ ra;obtain⟨w,us,rfl,h4,h3⟩:=BJ h2;cases BO h3;obtain⟨a,b,rfl,q1⟩:=IV h1 e1;obtain⟨a2,b2,rfl,q2⟩:=IV h4 e2;obtain⟨w1,s1,_⟩:=q1 g H LR;obtain⟨w2,s2,_⟩:=q2 g H LR;exact⟨a,a2,b,b2,rfl,⟨w1,s1⟩,⟨w2,s2⟩,q _ H (fun _ _ z=>z) (Yc q1 q2)⟩
noncomputable def CQ(k:Nat):List Dv->List Dv
 | []=>[]
 | d::ds=>.tup [.int (k:Nat),d]::CQ (k+1) ds
theorem HD:∀(ds:List Dv) (k i:Nat) (e:Dv),(CQ k ds)[i]?=some e->∃d,ds[i]?=some d/\e=.tup [.int ((k+i:Nat):Int),d]
 | [],k,i,e,h=>by simp[CQ] at h
 | d::ds,k,0,e,h=>by simp[CQ] at h;exact⟨d,rfl,h.symm⟩
 | d::ds,k,i+1,e,h=>by
  obtain⟨d',h1,h2⟩:=HD ds (k+1) i e (by simpa[CQ] using h);exact⟨d',by simpa using h1,by rw[h2];congr 3;omega⟩
theorem HC:∀(ds:List Dv) (k:Nat),(CQ k ds).length=ds.length
 | [],k=>rfl
 | d::ds,k=>by simp[CQ,HC ds]
def HW(ds:List Dv):Option (List Dv):=one (fun x=>(Kd x).bind fun xs=>some (CQ 0 xs)) ds
def kY(K:W.Frag):List V->Hp->(It->Hp->Prop)->Prop:=fun vs H1 R=>∃a b xs,vs=[.ref a]/\Jt K H1 a xs b/\R (bf K a b xs.length) H1
theorem Ye{a:B3}{b:Bool}(h:nQ K g H a b ds):Yl K (bf K a b ds.length) (CQ 0 ds) g H:=by
 intro g2 H2 st;obtain⟨vs,sq,hr⟩:=h g2 H2 st;refine⟨fun i d e=>?_,fun i hi=>⟨vs,sq,hr.len.symm,by rw[HC] at hi;exact hi⟩⟩;obtain⟨d',e',rfl⟩:=HD ds 0 i d e;obtain⟨v,_,ev,rv,_⟩:=hr.get e';refine⟨⟨vs,v,sq,hr.len.symm,ev⟩,fun x H3 y=>?_⟩;obtain⟨p,w,hp,rfl,rfl,y⟩:=y;have:=y vs sq;rw[ev] at this;cases this;have ri:Rep K g2 H2 0 (.int ((0+i:Nat):Int)) (.int (i:Nat)) wX:=by rw[uQ];exact Bg
 exact Ae.tup (by decide) hp (BP (CF ri) (CF rv.z))
theorem VE:UR K HW (kY K):=fun g H ds vs its Q zd ra e q=>by
 obtain⟨x,rfl,e⟩:=NJ e;obtain⟨xs,e1,e⟩:=wW e;cases e;obtain⟨v,us,rfl,h1,h2⟩:=BJ ra;cases BO h2;obtain⟨a,b,rfl,q1⟩:=IV h1 e1;obtain⟨w1,s1,r1⟩:=q1 g H LR;exact⟨a,b,w1,rfl,s1,by rw[<- r1.len];exact q _ H (fun _ _ z=>z) (Ye q1)⟩
end
section
variable {K:W.Frag} {g:G} {H:Hp}
noncomputable def pE{α:Type}(f:Dv->Dv->Dv->Option α)(ds:List Dv):Option α:=match ds with | [a,b,c]=>f a b c | _=>none
def Dd(ds:List Dv):Option Dv:=match ds with
 | [.int j]=>if small j=true/\j<=1000000 then some (.lst ((A5 j.toNat).map fun k=>.int (k:Nat))) else none
 | [.int i,.int j]=>if(small i && small j)=true/\j - i<=1000000 then some (.lst ((A5 (j - i).toNat).map fun k=>.int (i+(k:Nat)))) else none
 | _=>none
theorem PQ:AJ K Dd 1 pL:=fun g H ds vs d Q zd ra e k=>by
 have fin:∀(i j:Int),(∀v H',Ae K g H 1 (.lst ((A5 (j - i).toNat).map fun k=>.int (i+(k:Nat)))) v H'->Q v H')->∀l,H l=none->Q (.ref l) (upd H l (.lst ((A5 (j - i).toNat).map fun k=>.int (i+(k:Nat))))):=fun i j kk l hl=>by
  have:=Be (K:=K) (g:=g) (H:=H) ((A5 (j - i).toNat).map fun k:Nat=>i+(k:Int));simp only[L1] at this;exact kk _ _ (Ae.lst zd this hl)
 unfold Dd at e;split at e
 ·rename_i j;split at e
  ·rename_i c;cases e;obtain⟨v,o,P,rfl,_,h1⟩:=ra.one;rw[AG h1];have b:=DQ c.1;refine⟨0,j,.inl ⟨rfl,rfl⟩,by omega,by omega,fin 0 j fun v H' n=>k v H' ?_⟩;simpa using n
  ·cases e
 ·rename_i i j;split at e
  ·rename_i c;cases e;obtain⟨v,o,P,w,u,R,rfl,_,h1,_,h2⟩:=ra.two;rw[AG h1,AG h2];rw[A3] at c;have b:=DQ c.1.1;have b':=DQ c.1.2;exact⟨i,j,.inr rfl,by omega,by omega,fin i j k⟩
  ·cases e
 ·cases e
end
noncomputable def pd(x y:Dv):Option Dv:=match x,y with
 | .lst xs,.int i=>if i = -1 then some (.lst xs.reverse) else none
 | .tup xs,.int i=>if i = -1 then some (.tup xs.reverse) else none
 | _,_=>none
noncomputable def GQ:Dv->Option Bool
 | .we=>some false
 | .bl b=>some b
 | .int i=>some (i != 0)
 | .str l=>if l.length<=1000000 then some (!l.isEmpty) else none
 | .lst xs=>some (!xs.isEmpty)
 | .tup xs=>some (!xs.isEmpty)
 | .xV xs=>some (!xs.isEmpty)
 | .xp ks _=>some (!ks.isEmpty)
 | _=>none
variable {H:Hp}
theorem Qu{K:W.Frag}{g:G}{o:Nat}{xs:List Dv}{vs:List V}{P:Fp}(h:AA K g H o xs vs P):(!xs.isEmpty)=!vs.isEmpty:=by
 have:=h.len;cases xs<;>cases vs<;>simp at this<;>rfl
theorem Ym(K:W.Frag)(g:G)(H:Hp)(o:Nat)(d:Dv)(v:V)(P:Fp)(b:Bool)(h:Rep K g H o d v P)(e:GQ d=some b):YV K v H b:=by
 cases d with
 | we=>cases e;rw[Le h];exact rfl
 | bl b=>cases e;rw[Dm h];exact rfl
 | int i=>cases e;rw[AG h];exact rfl
 | str l =>
  simp only[GQ.eq_def] at e;split at e
  ·rename_i hl;cases e;rw[BQ h];refine⟨by rw[Cj];exact C4 hl (by decide),?_⟩;rw[Cj];cases l<;>simp;omega
  ·cases e
 | lst xs =>
  cases e;unfold Rep at h;obtain⟨a,vs,P',rfl,h1,h2,_⟩:=h;exact .inl ⟨vs,.inl (.inl h1.1),Qu h2⟩
 | tup xs =>
  cases e;unfold Rep at h;obtain⟨a,vs,rfl,h1,h2⟩:=h;exact .inr (.inl ⟨vs,.inl (.inl h1),Qu h2⟩)
 | xV ns =>
  cases e;obtain⟨a,rfl,h1⟩:=Mq h;exact .inl ⟨_,h1,by cases ns<;>rfl⟩
 | xp ks ds =>
  cases e;obtain⟨a,us,rfl,ha,hl,hx⟩:=iQ h;refine .inr (.inr ⟨_,ha,?_⟩);have:=hx.len;cases ks<;>cases ds<;>cases us<;>simp at hl this<;>rfl
 | _=>cases e
noncomputable def Dz(ns:List Int):List Int:=ns.mergeSort fun a b=>decide (a<=b)
theorem Pm(ns:List Int):(Dz ns).Perm ns:=List.mergeSort_perm ..
theorem WZ(ns:List Int):(Dz ns).Pairwise (·<=·):=by
 have:=List.pairwise_mergeSort (le:=fun a b:Int=>decide (a<=b)) (fun a b c h1 h2=>by simp at *;omega) (fun a b=>by simp;omega) ns;exact this.imp fun h=>of_decide_eq_true h
theorem GA{ns ms:List Int}(h:ms.Perm ns)(h2:ms.Pairwise (·<=·)):ms=Dz ns:=List.Perm.eq_of_pairwise (fun a b _ _ h1 h2=>Int.le_antisymm h1 h2) h2 (WZ ns) (h.trans (Pm ns).symm)
def HM(x:Dv):Option Dv:=match x with
 | .lst xs=>(Bu xs).bind fun ns=>if ns.length < 64 then some (.lst ((Dz ns).map .int)) else none
 | .tup xs=>(Bu xs).bind fun ns=>if ns.length < 64 then some (.lst ((Dz ns).map .int)) else none
 | _=>none
theorem Ve{K:W.Frag}:AJ K (one HM) 1 (Hs K):=DH fun g H x v o1 P d Q zd l1 h1 e k=>by
 have go:∀{xs:List Dv} {us:List V} {p:B3},AA K g H 0 xs us wX->((Bu xs).bind fun ns=>if ns.length < 64 then some (Dv.lst ((Dz ns).map .int)) else none)=some d->(Cy K H p us\/De K H p us)->Hs K [.ref p] H Q:=fun{xs us p} hx e ha=>by
  cases e1:Bu xs with
  | none=>rw[e1] at e;cases e
  | some ns =>
   rw[e1,A0] at e
   by_cases hl:ns.length < 64
   ·rw[if_pos hl] at e;cases e;rw[GU hx e1] at ha;exact⟨p,ns,rfl,ha,hl,fun l xj h h2 h3=>by rw[GA h2 h3];exact k _ _ (Ae.lst zd (Be _) h)⟩
   ·rw[if_neg hl] at e;cases e
 unfold HM at e;split at e
 ·obtain⟨p,us,rfl,ha,hx,_⟩:=Dp l1 h1;exact go hx e (.inl ha)
 ·obtain⟨p,us,rfl,ha,hx,_⟩:=FC l1 h1;exact go hx e (.inr ha)
 ·cases e
def jQ:List Dv->Option (List (List Int))
 | []=>some []
 | .tup ks::ds=>(Bu ks).bind fun ns=>(jQ ds).map (ns::·)
 | _=>none
noncomputable def oG:List (List Int)->Bool
 | (_::_)::_::_=>false
 | _=>true
theorem OS:O0 "sorted" = some (.builtin "sorted"):=by decide +kernel
theorem Js{es:List Expr}(h:es.length=1):∃a,es=[a]:=List.length_eq_one_iff.mp h
theorem pS{es:List Expr}(h:es.length=2):∃a b,es=[a,b]:=by
 cases es with
 | nil=>cases h
 | cons a es=>obtain⟨b,rfl⟩:=Js (Nat.succ.inj h);exact⟨a,b,rfl⟩
theorem bt{tg:Expr}(h:NW tg=true):∃elts x1 xm,tg=.Tuple elts x1 xm:=by
 cases tg<;>first | exact⟨_,_,_,rfl⟩ | cases h
theorem oH{X:Cx}(h:Gx X):X.A.units+1 < S4:=by obtain⟨j,r⟩:=h.2;have:=r.un;omega
theorem pR{X:Cx}(h:Gx X):X.A.units+2 < S4:=by obtain⟨j,r⟩:=h.2;have:=r.un;omega
theorem Ae.zCw{K:W.Frag}{g:G}{ks:List BF}{us:List V}{p:B3}(zd:Zd g H)(hl:ks.length=ds.length)(rp:AA K g H 0 ds us wX)(hp:H p=none):Ae K g H 1 (.xp ks ds) (.ref p) (upd H p (.dK (ks.zip us))):=by
 have sm:=Bp hp (.dK (ks.zip us));refine⟨sm,fun b=>b=p,?_,fun a q=>q▸hp⟩;unfold Rep;exact⟨p,us,rfl,AM,(fun z=>by cases z),(fun _ z=>zd p z hp),⟨hl,wX,rp.held (Step.same (g:=g) (P:=wX) sm) wc.wX fun _ _ z=>z⟩,fun b=>⟨fun z=>⟨by decide,z⟩,fun z=>z.2⟩⟩
theorem Ae.zEI{K:W.Frag}{g:G}{ks:List (List BF)}{us:List V}{p:B3}(zd:Zd g H)(hl:ks.length=ds.length)(rp:AA K g H 0 ds us wX)(hp:H p=none):Ae K g H 1 (.dtt ks ds) (.ref p) (upd H p (.dT (ks.zip us))):=by
 have sm:=Bp hp (.dT (ks.zip us));refine⟨sm,fun b=>b=p,?_,fun a q=>q▸hp⟩;unfold Rep;exact⟨p,us,rfl,AM,(fun z=>by cases z),(fun _ z=>zd p z hp),⟨hl,wX,rp.held (Step.same (g:=g) (P:=wX) sm) wc.wX fun _ _ z=>z⟩,fun b=>⟨fun z=>⟨by decide,z⟩,fun z=>z.2⟩⟩
def Kl:Dv->Option (BF×Dv)
 | .tup [a,b]=>(Kr a).bind fun k=>some (k,b)
 | _=>none
def kr:Dv->Option (List BF×Dv)
 | .tup [a,b]=>(lL a).bind fun k=>some (k,b)
 | _=>none
section
variable {κ:Type} [DecidableEq κ] {K:W.Frag} {g:G} {H:Hp}
noncomputable def Do(f:Dv->Option (κ×Dv)):List Dv->Option (List (κ×Dv))
 | []=>some []
 | d::ds=>(f d).bind fun p=>(Do f ds).bind fun ps=>some (p::ps)
def HF:List κ->List Dv->List (κ×Dv)->List κ×List Dv
 | ks,ds,[]=>(ks,ds)
 | ks,ds,p::ps=>HF (Nr p.1 ks) (Nq p.1 p.2 ks ds) ps
theorem Nv:∀{qs:List (κ×Dv)} {ps:List (κ×V)} {ks:List κ} {ds:List Dv} {us:List V} {R:Fp},ks.length=ds.length->AA K g H 0 ds us R->qs.map (·.1)=ps.map (·.1)->AA K g H 0 (qs.map (·.2)) (ps.map (·.2)) wX->∃us',Ip (ks.zip us) ps=(HF ks ds qs).1.zip us'/\AA K g H 0 (HF ks ds qs).2 us' wX/\(HF ks ds qs).1.length=(HF ks ds qs).2.length
 | [],[],ks,ds,us,R,hl,h,_,_=>⟨us,rfl,h.z,hl⟩
 | [],_::_,_,_,_,_,_,_,e,_=>by cases e
 | _::_,[],_,_,_,_,_,_,e,_=>by cases e
 | q::qs,p::ps,ks,ds,us,R,hl,h,e,hr=>by
  rw[C5,C5,u6] at e;rw[C5,C5] at hr;unfold AA at hr;obtain⟨v,r,P1,P2,ev,h1,h2,_⟩:=hr;cases ev;obtain⟨us1,e1,e2,e3⟩:=XU (k:=q.1) hl h h1.z;obtain⟨us2,f1,f2,f3⟩:=Nv e3 e2 e.2 h2.z;refine⟨us2,?_,f2,f3⟩;show Ip (Dn (ks.zip us) p.1 p.2) ps=(HF (Nr q.1 ks) (Nq q.1 q.2 ks ds) qs).1.zip us2;rw[<- f1,<- e1,e.1]
theorem Kk{f:Dv->Option (κ×Dv)}{Pr:V->κ×V->Prop}(hf:∀d q v P,f d=some q->Rep K g H 0 d v P->∃w,Pr v (q.1,w)/\Rep K g H 0 q.2 w wX):∀{xs:List Dv} {us:List V} {P:Fp} {qs:List (κ×Dv)},AA K g H 0 xs us P->Do f xs=some qs ->
    ∃ps:List (κ×V),us.length=ps.length/\(∀(i:Nat) x p,us[i]?=some x->ps[i]?=some p->Pr x p)/\qs.map (·.1)=ps.map (·.1)/\AA K g H 0 (qs.map (·.2)) (ps.map (·.2)) wX
  | [],us,P,qs,h,e=>by
    cases e;unfold AA at h;obtain⟨rfl,_⟩:=h;exact⟨[],rfl,(fun i x p z=>by simp at z),rfl,AA.nil⟩
  | d::ds,us,P,qs,h,e=>by
    obtain⟨q,e1,e⟩:=wW e;obtain⟨qs',e2,e⟩:=wW e;cases e;unfold AA at h;obtain⟨v,r,P1,P2,rfl,h1,h2,_⟩:=h;obtain⟨w,w1,w2⟩:=hf d q v P1 e1 h1;obtain⟨ps,p1,p2,p3,p4⟩:=Kk hf h2 e2;refine⟨(q.1,w)::ps,by simp[p1],fun i x p hx hp=>?_,by simp[p3],?_⟩
    · cases i with
      | zero=>simp only[List.getElem?_cons_zero,T3] at hx hp;subst hx hp;exact w1
      | succ i=>exact p2 i x p (by simpa using hx) (by simpa using hp)
    · exact(AA.cons (P1:=wX) (P2:=wX) w2 p4 fun _ z=>z.elim).iff fun a=>⟨fun z=>z.elim,fun z=>z.elim id id⟩
end
theorem Yk{K:W.Frag}{g:G}{a b:Dv}{v:V}{P:Fp}(h:Rep K g H 0 (.tup [a,b]) v P):∃t x y,v=.ref t/\H t=some (.tup [x,y])/\Rep K g H 0 a x wX/\Rep K g H 0 b y wX:=by
 unfold Rep at h;obtain⟨t,vs,rfl,h1,h2⟩:=h;unfold AA at h2;obtain⟨x,r,P1,P2,rfl,hx,h2,_⟩:=h2;unfold AA at h2;obtain⟨y,r2,P3,P4,rfl,hy,h2,_⟩:=h2;unfold AA at h2;obtain⟨rfl,_⟩:=h2;exact⟨t,x,y,rfl,h1,hx.z,hy.z⟩
theorem Sh{K:W.Frag}{g:G}(d:Dv)(q:BF×Dv)(v:V)(P:Fp)(e:Kl d=some q)(h:Rep K g H 0 d v P):∃w,ox H v (q.1,w)/\Rep K g H 0 q.2 w wX:=by
 unfold Kl at e;split at e
 ·obtain⟨k,ek,e⟩:=wW e;cases e;obtain⟨t,x,y,rfl,h1,hx,hy⟩:=Yk h;rw[RK hx ek] at h1;exact⟨y,⟨t,rfl,h1⟩,hy⟩
 ·cases e
def mJ(xs:List Dv):Option Dv:=(Do Kl xs).bind fun qs=>some (.xp (HF [] [] qs).1 (HF [] [] qs).2)
def qJ(xs:List Dv):Option Dv:=(Do kr xs).bind fun qs=>some (.dtt (HF [] [] qs).1 (HF [] [] qs).2)
def HN(x:Dv):Option Dv:=match x with
 | .lst xs=>mJ xs
 | _=>none
theorem Vh{K:W.Frag}:AJ K (one HN) 1 VV:=DH fun g H x v o1 P d Q zd l1 h1 e k=>by
 unfold HN at e;split at e
 ·obtain⟨qs,e1,e⟩:=wW e;cases e;obtain⟨a,us,rfl,_,hx,ha⟩:=Dp l1 h1;obtain⟨ps,p1,p2,p3,p4⟩:=Kk Sh hx e1;obtain⟨us',f1,f2,f3⟩:=Nv (qs:=qs) (ps:=ps) (ks:=[]) (ds:=[]) (us:=[]) rfl AA.nil p3 p4;refine⟨a,us,ps,rfl,ha,p1,p2,fun p hp=>?_⟩;rw[show Ip [] ps=_ from f1];exact k _ _ (Ae.zCw zd f3 f2 hp)
 ·cases e
theorem QQ:O0 "dict" = some (.type "dict"):=by decide +kernel
end R
namespace KO
open PySem PySem.W PyProof.Rows
end KO
namespace L2
open PySem PySem.Spec PyProof.Rows
end L2
namespace R
open PySem L2 PyProof.Rows
section
variable {K:W.Frag}
noncomputable def dD(ns:List Int):List Int:=ns.foldl V5 []
def Cw(x:Dv):Option Dv:=match x with
 | .lst xs=>(Bu xs).bind fun ns=>if ns.length < 64 then some (.lst ((Dz (dD ns)).map .int)) else none
 | .tup xs=>(Bu xs).bind fun ns=>if ns.length < 64 then some (.lst ((Dz (dD ns)).map .int)) else none
 | _=>none
theorem PP:AJ K (one Cw) 1 (bc (kO K)):=DH fun g H x v o1 P d Q zd l1 h1 e k=>by
 have go:∀{xs:List Dv} {us:List V} {p:B3},AA K g H 0 xs us wX->((Bu xs).bind fun ns=>if ns.length < 64 then some (Dv.lst ((Dz (dD ns)).map .int)) else none)=some d->(Cy K H p us\/De K H p us)->kO K (.ref p) H Q:=fun{xs us p} hx e ha=>by
  obtain⟨ns,e1,e⟩:=wW e;split at e
  ·rename_i hl;cases e;rw[GU hx e1] at ha;exact⟨p,ns,rfl,ha,hl,fun l xj h h2 h3=>by rw[GA (ns:=dD ns) h2 h3];exact k _ _ (Ae.lst zd (Be _) h)⟩
  ·cases e
 unfold Cw at e;split at e
 ·obtain⟨p,us,rfl,ha,hx,_⟩:=Dp l1 h1;exact go hx e (.inl ha)
 ·obtain⟨p,us,rfl,ha,hx,_⟩:=FC l1 h1;exact go hx e (.inr ha)
 ·cases e
def FB(x:Dv):Option Dv:=(Kd x).bind fun xs=>if xs.length<=1000000 then some (.lst (CQ 0 xs)) else none
theorem ND:AJ K (one FB) 1 (bc (oA K)):=DH fun g H x v o1 P d Q zd l1 h1 e k=>by
  obtain⟨xs,e1,e⟩:=wW e;split at e
  · rename_i hz;cases e;obtain⟨a,b,vs,rfl,sq,r⟩:∃a b vs,v=.ref a/\Jt K H a vs b/\AA K g H 0 xs vs wX:=by
      unfold Kd at e1;split at e1
      · cases e1;obtain⟨a,us,rfl,k1,k2,_⟩:=FC l1 h1;exact⟨a,true,us,rfl,k1,k2⟩
      · cases e1;obtain⟨a,us,rfl,k1,k2,_⟩:=Dp l1 h1;exact⟨a,false,us,rfl,k1,k2⟩
      · cases e1;obtain⟨a,rfl,k1⟩:=Mq h1;exact⟨a,false,_,rfl,k1,Be _⟩
      · cases e1
    refine⟨a,vs,b,rfl,sq,by rw[<- r.len];exact C4 hz (by decide),fun l ps H' hl ⟨a1,a2,a3⟩ hp=>k _ _ ⟨a1,fun b=>b=l,?_,fun a q=>q▸hl⟩⟩;have rs:AA K g H' 0 (CQ 0 xs) (ps.map V.ref) wX:=FG.mpr ⟨by rw[HC,A8,hp,r.len],fun i d v e1 e2=>by
      obtain⟨d',e3,rfl⟩:=HD xs 0 i d e1;rw[C6] at e2;obtain⟨p,e4,rfl⟩:=E5.mp e2;obtain⟨_,y,e5,e6⟩:=a3 i p e4;obtain⟨u,_,eu,ru,_⟩:=r.get e3;rw[e5] at eu;cases eu;have ri:Rep K g H' 0 (.int ((0+i:Nat):Int)) (.int (i:Nat)) wX:=by rw[uQ];exact Bg
      have r1:=ru.z.held (Step.same (g:=g) (P:=wX) a1) wc.wX fun _ _ z=>z
      unfold Rep;exact⟨p,_,rfl,e6,BP (CF ri) (CF r1)⟩⟩
    unfold Rep;exact⟨l,ps.map V.ref,wX,rfl,⟨a2,(fun z=>by cases z),fun _ z=>zd l z hl⟩,rs,fun z=>z,fun b=>⟨fun z=>.inl ⟨by decide,z⟩,fun z=>z.elim (fun z=>z.2) E7⟩⟩
  · cases e
end
end R
namespace My
open PySem L2 R
theorem qG{K:W.Frag}{o:Nat}{r:SA}:AJ K (fun _=>none) o r:=fun _ _ _ _ _ _ _ _ e _=>by cases e
theorem qF{K:W.Frag}{o:Nat}{r:SA}:AJ K (one fun _=>none) o r:=fun _ _ ds _ _ _ _ _ e _=>by unfold one at e;split at e<;>cases e
theorem pP{K:W.Frag}{o:Nat}{r:SA}:AJ K (two fun _ _=>none) o r:=fun _ _ ds _ _ _ _ _ e _=>by unfold two at e;split at e<;>cases e
def tb:Tb where
 zDD:=[⟨.Add,Ax,fun X h=>⟨_,Zt X.K,fL⟩⟩,
  ⟨.Sub,QU,fun X h=>⟨_,fg,Zc⟩⟩,
  ⟨.Mult,Dc,fun X h=>⟨_,fm.or (fh.or L4.zBE),fF⟩⟩,
  ⟨.Mod,DM,fun X h=>⟨_,fo,Lh fun _ _ h=>of_decide_eq_true h⟩⟩,
  ⟨.FloorDiv,YU,fun X h=>⟨_,Zq,Lh fun _ _ h=>by rw[A3,decide_eq_true_eq,decide_eq_true_eq] at h;exact h⟩⟩,
  ⟨.Pow,jC,fun X h=>⟨_,fj,Lh fun _ _ h=>by rw[A3,A3,decide_eq_true_eq,decide_eq_true_eq,decide_eq_true_eq] at h;exact⟨h.1.1,h.1.2,h.2⟩⟩⟩]
 zAd:=[⟨.Eq,LK,fun X h=>⟨_,L3.zBq h.2.choose_spec,Vg⟩⟩,
  ⟨.NotEq,UV,fun X h=>⟨_,L3.zBn h.2.choose_spec,Vg⟩⟩,
  ⟨.Lt,iz,fun X h=>⟨_,kz,Li⟩⟩,
  ⟨.Gt,nM,fun X h=>⟨_,lA,Li⟩⟩,
  ⟨.GtE,pb,fun X h=>⟨_,lB,Li⟩⟩,
  ⟨.In,pZ,fun X h=>⟨_,Q.zBo h.2.choose_spec,fI⟩⟩]
 calls:=[⟨"len", 1,1,one CY,fun X h=>⟨_,fG,.inl ⟨_,(Tz X.K).or QJ,PySem.boot_len⟩⟩⟩,
  ⟨"tuple", 1,1,one AL,fun X h=>⟨_,Vd,.inr ⟨_,OF X.K,PyProof.Rows.Boot.«tuple»⟩⟩⟩,
  ⟨"list", 1,1,one OY,fun X h=>⟨_,Za,.inr ⟨_,QI X.K,PyProof.Rows.Boot.«list»⟩⟩⟩,
  ⟨"all", 1,1,one QV,fun X h=>⟨_,fK,.inl ⟨_,UE X.K rfl h.1,PyProof.Rows.Boot.«all»⟩⟩⟩,
  ⟨"max", 2,1,two LN,fun X h=>⟨_,ZZ,.inl ⟨_,Tw h.1,PyProof.Rows.Boot.«max»⟩⟩⟩,
  ⟨"min", 2,1,two LM,fun X h=>⟨_,ZY,.inl ⟨_,Tv h.1,PyProof.Rows.Boot.«min»⟩⟩⟩,
  ⟨"sorted", 1,1,one HM,fun X h=>⟨_,Ve,.inl ⟨_,MJ X.K,OS⟩⟩⟩,
  ⟨"dict", 1,1,one HN,fun X h=>⟨_,Vh,.inr ⟨_,QK h.2.choose_spec h.1,QQ⟩⟩⟩,
  ⟨"isinstance", 2,1,two Jp,fun X h=>⟨_,fH,.inl ⟨_,UC X.K,PyProof.Rows.Boot.«isinstance»⟩⟩⟩]
 meths:=[⟨"join", 1, "str", 1,two Jo,.inl (.inr (.inl rfl)),fun X h=>⟨_,_,rV,PySem.F.slot_str_join,PySem.F.type_str_join,WG X.K,Zb⟩⟩,
  ⟨"upper", 0, "str", 1,one HL,.inl (.inr (.inl rfl)),fun X h=>⟨_,_,rV,PySem.F.slot_str_upper,PySem.F.type_str_upper,WE,Vc⟩⟩,
  ⟨"index", 1, "list", 1,two Ed,.inl (.inl rfl),fun X h=>⟨_,_,Y9,PySem.F.slot_list_index,PySem.F.type_list_index,Q.zAZ h.2.choose_spec,Vf⟩⟩,
  ⟨"index", 1, "tuple", 1,two Dx,.inr ⟨rfl,rfl⟩,fun X h=>⟨_,_,PySem.F.plainAttrs_tuple,PySem.F.slot_tuple_index,PySem.F.type_tuple_index,Q.zAF h.2.choose_spec,Sb⟩⟩]
 zCa:=[⟨"append", 1, "list", AY,.inl rfl,fun X h=>⟨_,_,Y9,PySem.F.slot_list_append,PySem.F.type_list_append,Sq,Sn⟩⟩,
  ⟨"extend", 1, "list", Bd,.inl rfl,fun X h=>⟨_,_,Y9,PySem.F.slot_list_extend,PySem.F.type_list_extend,UX.or So Pd,Sm⟩⟩]
 zCS:=[⟨"range", 1,false,BN,fun X h=>⟨_,VD,fun tg es p pos ta _ hn hs hg hm ha=>by obtain⟨a,rfl⟩:=Js hn;exact Sf hg hm ha (AH (by simpa using hs))⟩⟩,
  ⟨"range", 2,false,SX,fun X h=>⟨_,VC,fun tg es p pos ta _ hn hs hg hm ha=>by
   obtain⟨a,b,rfl⟩:=pS hn;have z:BD a=true/\BD b=true:=by simpa using hs
   exact Se hg hm ha ((AH z.1).trans (by rw[AH z.2];rfl)) (AH z.2)⟩⟩,
  ⟨"zip", 2,true,IX,fun X h=>⟨_,VB,fun tg es p pos ta ht hn hs hg hm ha=>by
   obtain⟨elts,x1,xm,rfl⟩:=bt (ht rfl);obtain⟨a,b,rfl⟩:=pS hn;have z:BD a=true/\BD b=true:=by simpa using hs
   exact Zh X.K hg hm ha rfl (AH z.1) (BK (by simp[z.2]))⟩⟩,
  ⟨"enumerate", 1,true,HW,fun X h=>⟨_,VE,fun tg es p pos ta ht hn hs hg hm ha=>by
   obtain⟨elts,x1,xm,rfl⟩:=bt (ht rfl);obtain⟨a,rfl⟩:=Js hn;exact Vl X.K hg hm ha rfl (AH (by simpa using hs))⟩⟩]
 ix:=AB
 zCf:=fun X h=>⟨_,(oC X.K).or (lO (oH h)),fJ⟩
 sl:=UQ
 zCT:=fun X h=>⟨_,nv X.K,ki⟩
 tru:=GQ
 zCJ:=Ym
 lr:=Dd
 zCc:=fun X h=>PQ
 tr:=fun _=>none
 zCI:=fun X h=>qG
 md:=fun _ _=>none
 zDR:=fun X h=>pP
 rv:=fun _ _=>none
 zDN:=fun X h=>pP
 lv:=fun _=>none
 zDS:=fun X h=>qF
 ss:=Cw
 zCR:=fun X h=>PP
 le:=FB
 zCe:=fun X h=>ND
 st:=BA
 zBh:=fun X h=>⟨_,ZI,eO⟩
noncomputable def top(i:Nat):N2:=PySem.Challenge.pw_shapefree_k63_bundles.main.body.getD i (.Pass ⟨0,0,0,0⟩)
def JB(i j:Nat):N2:=match top i with | .ClassDef _ _ _ cb _ _ _ _ _ _ _=>cb.getD j (.Pass ⟨0,0,0,0⟩) | s=>s
noncomputable def lj:List Str:=["leads"]
def md:Md:=⟨tb,[],["len", "range", "tuple", "list", "zip", "isinstance", "enumerate", "all", "any", "int", "bool", "str", "sum", "max", "min", "reversed", "sorted", "dict", "repr", "set", "abs", "type", "ord", "chr"],lj,["leads"]⟩
noncomputable def nF:List (Str×wz):=[]
noncomputable def Bn(self:Dv->Dv->Dv->Dv->Option (Dv))(a0:Dv)(a1:Dv)(a2:Dv)(a3:Dv)(x3:Dv):Option Dv:=
(QU a0 (.int 1)).bind fun d4=>(AB a1 x3).bind fun d5=>(self d4 d5 a2 a3).bind fun c6=>some c6
noncomputable def AK:Nat->Dv->Dv->Dv->Dv->Option (Dv)
 | 0,_,_,_,_=>none
 | n+1,a0,a1,a2,a3=>(
(LK a0 (.int 0)).bind fun b0=>if b0=true then
(AB a3 a1).bind fun d1=>some d1
else
(items a2).bind fun s2=>Cz s2 ((AZ (Bn (AK n) a0 a1 a2 a3) s2).bind fun y7=>(AL (.lst y7)).bind fun d8=>some d8))
theorem Nz(n:Nat):FW md (("table_from", Ad (AC (top 2)) [] 0 false (Lx (AK n)))::nF) (top 2) [] 0=true:=by kernel_rfl
theorem Ni(n:Nat):IC md (("table_from", Ad (AC (top 2)) [] 0 false (Lx (AK n)))::nF) (top 2) [] 0 (Lx (AK (n+1))):=pY (by kernel_rfl) fun _ _ _ _=>(by kernel_rfl)
def Dr:Dv->Dv->Dv->Dv->Option (Dv):=(Classical.choice (⟨⟨AK 20,rfl⟩⟩:Nonempty {f:Dv->Dv->Dv->Dv->Option (Dv) // f=AK 20})).1
theorem FH:Dr=AK 20:=(Classical.choice (⟨⟨AK 20,rfl⟩⟩:Nonempty {f:Dv->Dv->Dv->Dv->Option (Dv) // f=AK 20})).2
def lY:List (Str×wz):=("table_from", Ad (AC (top 2)) [] 0 false (Lx Dr))::nF
noncomputable def Di(a3:Dv)(x2:Dv):Option Dv:=
(AB a3 x2).bind fun d3=>some d3
noncomputable def Dh(a2:Dv)(a3:Dv)(x8:Dv):Option Dv:=
(SG [8,9] x8).bind fun(t9:Dv×Dv)=>(AB t9.1 (.int 1)).bind fun d10=>(Dr d10 t9.2 a2 a3).bind fun c11=>some c11
noncomputable def Cq(a0 a1 a2 a3:Dv):Option (Dv):=
(AB a1 (.int 1)).bind fun d0=>(items d0).bind fun s1=>Cz s1 ((AZ (Di a3) s1).bind fun y4=>(AB a0 (.int 1)).bind fun d5=>(AB a1 (.int 2)).bind fun d6=>(IX [d5,d6]).bind fun s7=>Cz s7 ((AZ (Dh a2 a3) s7).bind fun y12=>(CY a2).bind fun d13=>(AL (.lst y4)).bind fun d14=>(AL (.lst y12)).bind fun d15=>some (.tup [d13,d14,d15])))
theorem Ny:FW md lY (top 1) [] 1=true:=by kernel_rfl
theorem Nh:IC md lY (top 1) [] 1 (Lx Cq):=pY (by kernel_rfl) fun _ _ _ _=>(by kernel_rfl)
def nE:List (Str×wz):=("world_from", Ad (AC (top 1)) [] 1 false (Lx Cq))::lY
noncomputable def Cs(a0 a1:Dv):Option (Dv×Dv):=
(Dd [a1]).bind fun d0=>(JO a0 "leads" d0).bind fun d1=>some (.we,d1)
theorem OB:FW md nE (JB 4 0) [0] 1=true:=by kernel_rfl
theorem Nk:IC md nE (JB 4 0) [0] 1 (two Cs):=YF (by kernel_rfl) fun _ _=>(by kernel_rfl)
def oP:List (Str×wz):=("__init__", Ad (AC (JB 4 0)) [0] 1 true (two Cs) (some "Joins"))::nE
noncomputable def Bm(t0:Dv×Dv):Option Bool:=
bif FS t0.1 "leads" then
(Na t0.1 "leads").bind fun d1=>(AB d1 t0.2).bind fun d2=>(UV d2 t0.2).bind fun b3=>some b3
else none
noncomputable def Co(t0:Dv×Dv):Option (Dv×Dv):=
bif FS t0.1 "leads" then
bif FS t0.1 "leads" then
(Na t0.1 "leads").bind fun d4=>(AB d4 t0.2).bind fun d5=>(Na t0.1 "leads").bind fun d6=>(AB d6 d5).bind fun d7=>bif FS t0.1 "leads" then
(Na t0.1 "leads").bind fun d8=>(BA d8 t0.2 d7).bind fun d9=>bif FS (FT t0.1 "leads" d9) "leads" then
(Na (FT t0.1 "leads" d9) "leads").bind fun d10=>(AB d10 t0.2).bind fun d11=>some ((FT t0.1 "leads" d9),d11)
else none
else none
else none
else none
noncomputable def AX(a0 a1:Dv):Option (Dv×Dv):=
(bp Bm Co 1000000 (a0,a1)).bind fun t12=>some (t12.2,t12.1)
theorem KD:FW md oP (JB 4 1) [0] 0=true:=by kernel_rfl
theorem KA:IC md oP (JB 4 1) [0] 0 (two AX):=YF (by kernel_rfl) fun _ _=>(by kernel_rfl)
def oO:List (Str×wz):=("root_of", Ad (AC (JB 4 1)) [0] 0 false (two AX) (some "Joins"))::oP
noncomputable def BC(a0 a1 a2:Dv):Option (Dv×Dv):=
bif FP a0 "Joins" "root_of" then
(AX a0 a1).bind fun c0=>bif FP c0.2 "Joins" "root_of" then
(AX c0.2 a2).bind fun c1=>(LK c0.1 c1.1).bind fun b2=>some ((.bl b2),c1.2)
else none
else none
theorem HG:FW md oO (JB 4 2) [0] 1=true:=by kernel_rfl
theorem Gz:IC md oO (JB 4 2) [0] 1 (EC BC):=dQ (by kernel_rfl) fun _ _ _=>(by kernel_rfl)
def oN:List (Str×wz):=("are_joined", Ad (AC (JB 4 2)) [0] 1 true (EC BC) (some "Joins"))::oO
noncomputable def AW(a0 a1 a2:Dv):Option (Dv×Dv):=
bif FP a0 "Joins" "root_of" then
(AX a0 a1).bind fun c0=>bif FP c0.2 "Joins" "root_of" then
(AX c0.2 a2).bind fun c1=>(HM (.lst [c0.1,c1.1])).bind fun d2=>(AB d2 (.int 0)).bind fun d3=>bif FS c1.2 "leads" then
(AB d2 (.int 1)).bind fun d4=>(Na c1.2 "leads").bind fun d5=>(BA d5 d4 d3).bind fun d6=>some (.we,(FT c1.2 "leads" d6))
else none
else none
else none
theorem GI:FW md oN (JB 4 3) [0] 1=true:=by kernel_rfl
theorem GD:IC md oN (JB 4 3) [0] 1 (EC AW):=dQ (by kernel_rfl) fun _ _ _=>(by kernel_rfl)
def oM:List (Str×wz):=("make_joined", Ad (AC (JB 4 3)) [0] 1 true (EC AW) (some "Joins"))::oN
noncomputable def Ai(x12:Dv)(x14:Dv):Option Dv:=
(AB x14 x12).bind fun d15=>some d15
noncomputable def BB(zT:Dv)(x12:Dv):Option Dv:=
(items zT).bind fun s13=>Cz s13 ((AZ (Ai x12) s13).bind fun y16=>(AL (.lst y16)).bind fun d17=>some d17)
noncomputable def Dy(t4:Dv)(zDK:Dv)(zT:Dv):Option (Dv):=
(AB zDK (.int 1)).bind fun d6=>(LK d6 (.int 1)).bind fun b7=>if b7=true then
FE "list" t4 (
(AY t4 [zT]).bind fun r8=>some r8.2)
else
FE "list" t4 (
(Bd t4 [zT]).bind fun r9=>FE "list" r9.2 (
(CY zT).bind fun d10=>(BN [d10]).bind fun s11=>Cz s11 ((AZ (BB zT) s11).bind fun y18=>(Bd r9.2 [(.lst y18)]).bind fun r19=>some r19.2)))
noncomputable def Ba(x3:Dv)(t4:Dv):Option (Dv):=
(SG [3,4] x3).bind fun(t5:Dv×Dv)=>((Dy t4 t5.1 t5.2)).bind fun t20=>some t20
noncomputable def BV(a0 a1:Dv):Option (Dv):=
(AB a0 (.int 1)).bind fun d0=>(AB a1 (.int 2)).bind fun d1=>(IX [d0,d1]).bind fun s2=>(AO Ba s2 (.lst [])).bind fun t21=>some t21
theorem Ja:FW md oM (top 7) [] 1=true:=by kernel_rfl
theorem JW:IC md oM (top 7) [] 1 (two BV):=YF (by kernel_rfl) fun _ _=>(by kernel_rfl)
def oK:List (Str×wz):=("single_tables", Ad (AC (top 7)) [] 1 false (two BV))::oM
noncomputable def FN(zT:Dv)(yj:Dv)(zDA:Dv)(d8:Dv):Option (Dv×Dv):=
bif FP zDA "Joins" "are_joined" then
(BC zDA yj d8).bind fun c9=>(GQ c9.1).bind fun b10=>if(!b10)=true then
bif FP c9.2 "Joins" "make_joined" then
(AW c9.2 yj d8).bind fun c11=>some (c11.2,(.bl true))
else none
else
some (c9.2,zT)
else none
noncomputable def Cp(x1:Dv)(x4:Dv)(t5:Dv×Dv):Option (Dv×Dv):=
(SG [4,5] x4).bind fun(t6:Dv×Dv)=>bif FP t5.1 "Joins" "root_of" then
(AX t5.1 t6.1).bind fun c7=>(AB x1 c7.1).bind fun d8=>((FN t5.2 t6.2 c7.2 d8)).bind fun t12=>some (t12.1,t12.2)
else none
noncomputable def Dk(x1:Dv)(t2:Dv×Dv):Option (Dv×Dv):=
(HW [x1]).bind fun s3=>(AO (Cp x1) s3 (t2.1,t2.2)).bind fun t13=>some (t13.1,t13.2)
noncomputable def DT(a0 a1:Dv):Option (Dv×Dv):=
(items a0).bind fun s0=>(AO Dk s0 (a1,(.bl false))).bind fun yv=>some (yv.2,yv.1)
theorem Tn:FW md oK (top 8) [1] 1=true:=by kernel_rfl
theorem TZ:IC md oK (top 8) [1] 1 (two DT):=YF (by kernel_rfl) fun _ _=>(by kernel_rfl)
def oJ:List (Str×wz):=("join_led", Ad (AC (top 8)) [1] 1 false (two DT))::oK
noncomputable def Bo(x4:Dv)(t5:Dv):Option (Dv):=
(SG [4,5] x4).bind fun(t6:Dv×Dv)=>bif FP t5 "Joins" "make_joined" then
(AW t5 t6.1 t6.2).bind fun c7=>some c7.2
else none
noncomputable def ED(z7:Dv×Dv):Option Bool:=
(GQ z7.2).bind fun b12=>some b12
noncomputable def Cm(c9:Dv)(z7:Dv×Dv):Option (Dv×Dv):=
(DT c9 z7.1).bind fun c13=>some (c13.2,c13.1)
noncomputable def Au(x17:Dv)(t18:Dv):Option (Dv×Dv):=
bif FP t18 "Joins" "root_of" then
(AX t18 x17).bind fun c19=>some (c19.1,c19.2)
else none
noncomputable def BM(a0 a1 a2:Dv):Option (Dv):=
(AB a1 (.int 0)).bind fun d0=>(Cs (.obj "Joins" lj [] []) d0).bind fun c1=>lK c1.1 [c1.2] fun d2=>(items a2).bind fun s3=>(AO Bo s3 d2).bind fun t8=>(BV a0 a1).bind fun c9=>(DT c9 t8).bind fun c10=>(bp ED (Cm c9) 1000000 (c10.2,c10.1)).bind fun yv=>(AB a1 (.int 0)).bind fun d15=>(BN [d15]).bind fun s16=>Cz s16 ((CU Au s16 yv.1).bind fun p20=>(AL (.lst p20.1)).bind fun d21=>some d21)
theorem KC:FW md oJ (top 6) [] 1=true:=by kernel_rfl
theorem Jz:IC md oJ (top 6) [] 1 (EC BM):=dQ (by kernel_rfl) fun _ _ _=>(by kernel_rfl)
def oI:List (Str×wz):=("least_bundle", Ad (AC (top 6)) [] 1 false (EC BM))::oJ
noncomputable def CV(x4:Dv):Option (Option Dv):=
(SG [6,7] x4).bind fun(t5:Dv×Dv)=>(LK t5.2 t5.1).bind fun b6=>if b6=true then
some (some t5.1)
else some none
noncomputable def BZ(x1:Dv)(x10:Dv):Option Dv:=
(Ax x1 (.tup [x10])).bind fun d11=>some d11
noncomputable def Bb(a1:Dv)(x1:Dv)(t2:Dv):Option (Dv):=
(HW [x1]).bind fun s3=>Cz s3 ((DV CV s3).bind fun y7=>FE "list" t2 (
(Ax (.lst y7) (.lst [a1])).bind fun d8=>(items d8).bind fun s9=>Cz s9 ((AZ (BZ x1) s9).bind fun y12=>(Bd t2 [(.lst y12)]).bind fun r13=>some r13.2)))
noncomputable def BW(a0 a1:Dv):Option (Dv):=
(items a0).bind fun s0=>(AO (Bb a1) s0 (.lst [])).bind fun yv=>some yv
theorem Jb:FW md oI (top 10) [] 1=true:=by kernel_rfl
theorem JX:IC md oI (top 10) [] 1 (two BW):=YF (by kernel_rfl) fun _ _=>(by kernel_rfl)
def iA:List (Str×wz):=("bunched_by_one", Ad (AC (top 10)) [] 1 false (two BW))::oI
noncomputable def Dl(x2:Dv)(t3:Dv):Option (Dv):=
(BW t3 x2).bind fun c4=>some c4
noncomputable def Dj(a0:Dv)(a1:Dv)(x7:Dv):Option (Option Dv):=
(FB x7).bind fun d8=>(BM a0 a1 d8).bind fun c9=>(LK c9 x7).bind fun b10=>if b10=true then
some (some x7)
else some none
noncomputable def EO(a0 a1:Dv):Option (Dv):=
(AB a1 (.int 0)).bind fun d0=>(BN [d0]).bind fun s1=>(AO Dl s1 (.lst [(.tup [])])).bind fun t5=>(items t5).bind fun s6=>Cz s6 ((DV (Dj a0 a1) s6).bind fun y11=>some (.lst y11))
theorem To:FW md iA (top 9) [] 1=true:=by kernel_rfl
theorem Ta:IC md iA (top 9) [] 1 (two EO):=YF (by kernel_rfl) fun _ _=>(by kernel_rfl)
def hZ:List (Str×wz):=("bundles", Ad (AC (top 9)) [] 1 false (two EO))::iA
noncomputable def EF(d0:Dv)(zCL:Dv):Option (Dv):=
ur (FE "list" d0 (
(Ed d0 zCL).bind fun d4=>some d4)) (FE "tuple" d0 (
(Dx d0 zCL).bind fun d5=>some d5))
noncomputable def Ck(d0:Dv)(x2:Dv):Option Dv:=
(SG [6,7] x2).bind fun(t3:Dv×Dv)=>((EF d0 t3.2)).bind fun t6=>some (.tup [t3.1,t6])
noncomputable def Bq(a0 a1 a2:Dv):Option (Dv):=
(Cw a2).bind fun d0=>(HW [a2]).bind fun s1=>Cz s1 ((AZ (Ck d0) s1).bind fun y7=>(HN (.lst y7)).bind fun d8=>(Cq a0 a1 d0 d8).bind fun c9=>some c9)
theorem KF:FW md hZ (top 11) [] 1=true:=by kernel_rfl
theorem KB:IC md hZ (top 11) [] 1 (EC Bq):=dQ (by kernel_rfl) fun _ _ _=>(by kernel_rfl)
def hX:List (Str×wz):=("bundle_world", Ad (AC (top 11)) [] 1 false (EC Bq))::hZ
noncomputable def Mp(a0:Dv)(a1:Dv)(d1:Dv):Option (Dv):=
(CY a0).bind fun d5=>(nM d5 (.int 0)).bind fun b6=>if b6=true then
(CY a0).bind fun d7=>(DM a1 d7).bind fun d8=>(AB a0 d8).bind fun d9=>(DM d9 (.int 2147483629)).bind fun d10=>(Dc d10 (.int 31)).bind fun d11=>(Dc (.int 7907) a1).bind fun d12=>(Ax d11 d12).bind fun d13=>some d13
else
some d1
noncomputable def IT(a0:Dv)(a1:Dv)(d1:Dv):Option (Dv):=
(CY a0).bind fun d2=>(iz a1 d2).bind fun b3=>if b3=true then
(AB a0 a1).bind fun d4=>some d4
else
((Mp a0 a1 d1)).bind fun yv=>some yv
noncomputable def IS(t15:Dv):Option (Dv):=
(jC (.int 10) (.int 18)).bind fun d16=>(pb t15 d16).bind fun b17=>if b17=true then
some t15
else
some (.int 0)
noncomputable def IZ(a0 a1:Dv):Option (Dv):=
(Dc (.int 7907) a1).bind fun d0=>(Ax d0 (.int 13579)).bind fun d1=>((IT a0 a1 d1)).bind fun t15=>((IS t15)).bind fun t18=>(DM t15 (.int 2147483629)).bind fun d19=>(Dc d19 (.int 48271)).bind fun d20=>(Dc (.int 40692) a1).bind fun d21=>(Ax d20 d21).bind fun d22=>(DM d22 (.int 2147483646)).bind fun d23=>(Ax d23 (.int 1)).bind fun d24=>some (.lst [t18,d24])
theorem ai:FW md hX (top 13) [] 1=true:=by kernel_rfl
theorem aY:IC md hX (top 13) [] 1 (two IZ):=YF (by kernel_rfl) fun _ _=>(by kernel_rfl)
def hV:List (Str×wz):=("_law_feed", Ad (AC (top 13)) [] 1 false (two IZ))::hX
noncomputable def AR(a0 a1:Dv):Option (Dv×Dv):=
(AB a0 (.int 0)).bind fun d0=>(nM d0 (.int 0)).bind fun b1=>if b1=true then
(AB a0 (.int 0)).bind fun d2=>(DM d2 a1).bind fun d3=>(AB a0 (.int 0)).bind fun d4=>(YU d4 a1).bind fun d5=>(BA a0 (.int 0) d5).bind fun d6=>some (d3,d6)
else
(AB a0 (.int 1)).bind fun d7=>(Dc d7 (.int 48271)).bind fun d8=>(DM d8 (.int 2147483647)).bind fun d9=>(Dc d9 (.int 40692)).bind fun d10=>(Ax d10 (.int 30103)).bind fun d11=>(DM d11 (.int 2147483399)).bind fun d12=>(Ax d12 (.int 1)).bind fun d13=>(BA a0 (.int 1) d13).bind fun d14=>(Dc d9 (.int 2147483647)).bind fun d15=>(AB d14 (.int 1)).bind fun d16=>(Ax d15 d16).bind fun d17=>(YU d17 (.int 8191)).bind fun d18=>(DM d18 a1).bind fun d19=>some (d19,d14)
theorem ae:FW md hV (top 14) [0] 1=true:=by kernel_rfl
theorem aV:IC md hV (top 14) [0] 1 (two AR):=YF (by kernel_rfl) fun _ _=>(by kernel_rfl)
def hU:List (Str×wz):=("_law_take", Ad (AC (top 14)) [0] 1 false (two AR))::hV
noncomputable def Ej(x2:Dv)(t3:Dv):Option (Dv×Dv):=
(AR t3 (.int 26)).bind fun c4=>(AB (.str [97,98,99,100,101,102,103,104,105,106,107,108,109,110,111,112,113,114,115,116,117,118,119,120,121,122]) c4.1).bind fun d5=>some (d5,c4.2)
noncomputable def Ga(d28:Dv):Option (Dv):=
(pZ d28 (.tup [(.str [100,101,102]),(.str [108,101,116]),(.str [116,101,108,108]),(.str [108,111,111,112]),(.str [112,105,99,107]),(.str [99,97,108,108])])).bind fun b29=>if b29=true then
(Ax d28 (.str [113])).bind fun d30=>some d30
else
some d28
noncomputable def Gg(d7:Dv)(zDw:Dv)(zAW:Dv)(zDB:Dv)(x14:Dv)(t15:Dv):Option (Dv):=
(Dc (.int 7) x14).bind fun d16=>(Ax zDw d16).bind fun d17=>(DM d17 (.int 26)).bind fun d18=>(AB (.str [97,98,99,100,101,102,103,104,105,106,107,108,109,110,111,112,113,114,115,116,117,118,119,120,121,122]) d18).bind fun d19=>jK zAW fun i20=>(UQ d7 none (some i20)).bind fun d21=>(Ax d21 d19).bind fun d22=>jK zAW fun i23=>(Ax zDB x14).bind fun d24=>(DM d24 (.int 4)).bind fun d25=>jK d25 fun i26=>(UQ d7 (some i23) (some i26)).bind fun d27=>(Ax d22 d27).bind fun d28=>((Ga d28)).bind fun t31=>FE "list" t15 (
(AY t15 [t31]).bind fun r32=>some r32.2)
noncomputable def Ka(yu:Dv)(t33:Dv):Option (Bool×Dv):=
(OX (.int 2)).bind fun d35=>(AB t33 d35).bind fun d36=>(CY d36).bind fun d37=>(iz d37 (.int 4)).bind fun b38=>if b38=true then
(AR yu (.int 4)).bind fun c39=>(LK c39.1 (.int 0)).bind fun b40=>some (b40,c39.2)
else
some (false,yu)
noncomputable def GX(a1:Dv)(yu:Dv)(t33:Dv):Option (Bool×Dv):=
(nM a1 (.int 1)).bind fun b34=>if b34=true then
((Ka yu t33)).bind fun t41=>some (t41.1,t41.2)
else
some (false,yu)
noncomputable def GZ(a1:Dv)(yu:Dv)(t33:Dv):Option (Dv×Dv):=
((GX a1 yu t33)).bind fun t42=>if t42.1=true then
(OX (.int 2)).bind fun d43=>(AB t33 d43).bind fun d44=>(Ax d44 (.str [113])).bind fun d45=>(OX (.int 1)).bind fun d46=>(BA t33 d46 d45).bind fun d47=>some (t42.2,d47)
else
some (t42.2,t33)
noncomputable def DB(a0 a1:Dv):Option (Dv×Dv):=
FE "str" (.str []) (
(AR a0 (.int 4)).bind fun c0=>(BN [c0.1]).bind fun s1=>Cz s1 ((CU Ej s1 c0.2).bind fun p6=>(Jo (.str []) (.lst p6.1)).bind fun d7=>(AR p6.2 (.int 26)).bind fun c8=>(CY d7).bind fun d9=>(Ax d9 (.int 1)).bind fun d10=>(AR c8.2 d10).bind fun c11=>(AR c11.2 (.int 4)).bind fun c12=>(BN [a1]).bind fun s13=>(AO (Gg d7 c8.1 c11.1 c12.1) s13 (.lst [])).bind fun t33=>((GZ a1 c12.2 t33)).bind fun t48=>some (t48.2,t48.1)))
theorem XZ:FW md hU (top 15) [0] 1=true:=by kernel_rfl
theorem XM:IC md hU (top 15) [0] 1 (two DB):=YF (by kernel_rfl) fun _ _=>(by kernel_rfl)
def hG:List (Str×wz):=("_law_names", Ad (AC (top 15)) [0] 1 false (two DB))::hU
noncomputable def Ge(x5:Dv):Option Dv:=
(UQ x5 none (some 1)).bind fun d6=>FE "str" d6 (
(HL d6).bind fun d7=>(UQ x5 (some 1) none).bind fun d8=>(Ax d7 d8).bind fun d9=>some d9)
noncomputable def Gc(zAW:Dv)(x15:Dv)(t16:Dv):Option (Dv×Dv):=
(AB zAW x15).bind fun d17=>(AR t16 (.int 2)).bind fun c18=>(Ax (.int 1) c18.1).bind fun d19=>some ((.tup [d17,d19]),c18.2)
noncomputable def Fi(a0:Dv):Option (Dv×Dv):=
(DB a0 (.int 4)).bind fun c0=>(AR c0.2 (.int 4)).bind fun c1=>jK c1.1 fun i2=>(UQ c0.1 none (some i2)).bind fun d3=>(items d3).bind fun s4=>Cz s4 ((AZ Ge s4).bind fun y10=>(DB c1.2 (.int 3)).bind fun c11=>(AR c11.2 (.int 8)).bind fun c12=>(AB (.lst [(.int 1),(.int 2),(.int 3),(.int 2),(.int 3),(.int 1),(.int 2),(.int 0)]) c12.1).bind fun d13=>(BN [d13]).bind fun s14=>Cz s14 ((CU (Gc c11.1) s14 c12.2).bind fun p20=>(AL (.lst y10)).bind fun d21=>(AL (.lst p20.1)).bind fun d22=>some ((.tup [d21,d22]),p20.2)))
theorem XY:FW md hG (top 16) [0] 1=true:=by kernel_rfl
theorem XJ:IC md hG (top 16) [0] 1 (one Fi):=oh (by kernel_rfl) fun _=>(by kernel_rfl)
def gy:List (Str×wz):=("_law_shape", Ad (AC (top 16)) [0] 1 false (one Fi))::hG
noncomputable def Kg(a2:Dv)(x2:Dv)(t3:Dv):Option (Dv×Dv):=
(AR t3 a2).bind fun c4=>some (c4.1,c4.2)
noncomputable def Kf(a2:Dv)(x14:Dv)(t15:Dv):Option (Dv×Dv):=
(AR t15 a2).bind fun c16=>some (c16.1,c16.2)
noncomputable def Ke(a2:Dv)(x24:Dv)(t25:Dv):Option (Dv×Dv):=
(AR t25 a2).bind fun c26=>some (c26.1,c26.2)
noncomputable def Gb(a2:Dv)(x21:Dv)(t22:Dv):Option (Dv×Dv):=
(BN [a2]).bind fun s23=>Cz s23 ((CU (Ke a2) s23 t22).bind fun p27=>(AL (.lst p27.1)).bind fun d28=>some (d28,p27.2))
noncomputable def GY(a2:Dv)(zBR:Dv)(zAK:Dv)(xD:Dv):Option (Dv×Dv):=
(LK xD (.int 1)).bind fun b12=>if b12=true then
FE "list" zAK (
(BN [a2]).bind fun s13=>Cz s13 ((CU (Kf a2) s13 zBR).bind fun p17=>(AL (.lst p17.1)).bind fun d18=>(AY zAK [d18]).bind fun r19=>some (p17.2,r19.2)))
else
FE "list" zAK (
(BN [a2]).bind fun s20=>Cz s20 ((CU (Gb a2) s20 zBR).bind fun p29=>(AL (.lst p29.1)).bind fun d30=>(AY zAK [d30]).bind fun r31=>some (p29.2,r31.2)))
noncomputable def Em(a2:Dv)(x9:Dv)(t10:Dv×Dv):Option (Dv×Dv):=
(SG [5,6] x9).bind fun(z7:Dv×Dv)=>((GY a2 t10.1 t10.2 z7.2)).bind fun t32=>some (t32.1,t32.2)
noncomputable def Fh(a0 a1 a2:Dv):Option (Dv×Dv):=
(AB a1 (.int 0)).bind fun d0=>(items d0).bind fun s1=>Cz s1 ((CU (Kg a2) s1 a0).bind fun p5=>(AL (.lst p5.1)).bind fun d6=>(AB a1 (.int 1)).bind fun d7=>(items d7).bind fun s8=>(AO (Em a2) s8 (p5.2,(.lst []))).bind fun t33=>(AL t33.2).bind fun d34=>some ((.tup [a2,d6,d34]),t33.1))
theorem XX:FW md gy (top 17) [0] 1=true:=by kernel_rfl
theorem XI:IC md gy (top 17) [0] 1 (EC Fh):=dQ (by kernel_rfl) fun _ _ _=>(by kernel_rfl)
def gv:List (Str×wz):=("_law_world", Ad (AC (top 17)) [0] 1 false (EC Fh))::gy
noncomputable def Fg(d2:Dv)(x17:Dv):Option Dv:=
(DM x17 d2).bind fun d18=>some d18
noncomputable def IR(d2:Dv)(x10:Dv)(z7:Dv):Option (Dv):=
(AB z7 x10).bind fun d12=>(Jp d12 (.ty "tuple")).bind fun d13=>(GQ d13).bind fun b14=>if b14=true then
(AB z7 x10).bind fun d15=>(items d15).bind fun s16=>Cz s16 ((AZ (Fg d2) s16).bind fun y19=>(AL (.lst y19)).bind fun d20=>(BA z7 x10 d20).bind fun d21=>some d21)
else
(AB z7 x10).bind fun d22=>(DM d22 d2).bind fun d23=>(BA z7 x10 d23).bind fun d24=>some d24
noncomputable def BU(d2:Dv)(x10:Dv)(z7:Dv):Option (Dv):=
((IR d2 x10 z7)).bind fun t25=>some t25
noncomputable def Cn(d2:Dv)(x5:Dv)(t6:Dv):Option (Dv):=
(OY x5).bind fun d7=>(CY d7).bind fun d8=>(BN [d8]).bind fun s9=>(AO (BU d2) s9 d7).bind fun t26=>FE "list" t6 (
(AL t26).bind fun d27=>(AY t6 [d27]).bind fun r28=>some r28.2)
noncomputable def Gh(a0 a1:Dv):Option (Dv×Dv):=
(AB a1 (.int 0)).bind fun d0=>(AR a0 d0).bind fun c1=>(Ax (.int 1) c1.1).bind fun d2=>(AB a1 (.int 2)).bind fun d3=>(items d3).bind fun s4=>(AO (Cn d2) s4 (.lst [])).bind fun t29=>(AB a1 (.int 0)).bind fun d30=>(AB a1 (.int 1)).bind fun d31=>(AL t29).bind fun d32=>some ((.tup [d30,d31,d32]),c1.2)
theorem ah:FW md gv (top 18) [0] 1=true:=by kernel_rfl
theorem aX:IC md gv (top 18) [0] 1 (two Gh):=YF (by kernel_rfl) fun _ _=>(by kernel_rfl)
def gu:List (Str×wz):=("_law_flat", Ad (AC (top 18)) [0] 1 false (two Gh))::gv
noncomputable def EE(a2:Dv)(zBD:Dv)(yj:Dv)(x8:Dv):Option (Bool):=
(AB zBD (.int 1)).bind fun d10=>(LK d10 (.int 1)).bind fun b11=>if b11=true then
(AB yj x8).bind fun d12=>(AB a2 d12).bind fun d13=>(AB a2 x8).bind fun d14=>(AB yj d14).bind fun d15=>(AB a2 d15).bind fun d16=>(UV d13 d16).bind fun b17=>some b17
else
some false
noncomputable def EN(a2:Dv)(yj:Dv)(x8:Dv)(x23:Dv)(t24:Unit):Option (Lp Dv (Unit) (Unit)):=
(AB a2 x8).bind fun d25=>(AB yj d25).bind fun d26=>(AB a2 x23).bind fun d27=>(AB d26 d27).bind fun d28=>(AB yj x8).bind fun d29=>(AB d29 x23).bind fun d30=>(AB a2 d30).bind fun d31=>(AB a2 d28).bind fun d32=>(UV d31 d32).bind fun b33=>if b33=true then
some (.rt (.bl false) ())
else
some (.go ())
noncomputable def CM(a2:Dv)(d0:Dv)(zBD:Dv)(yj:Dv)(x8:Dv)(t9:Unit):Option (Lp Dv (Unit) (Unit)):=
((EE a2 zBD yj x8)).bind fun t18=>if t18=true then
some (.rt (.bl false) ())
else
(AB zBD (.int 1)).bind fun d19=>(QU d19 (.int 1)).bind fun d20=>(Dc d0 d20).bind fun d21=>(BN [d21]).bind fun s22=>(Ds (EN a2 yj x8) s22 ()).bind fun l37=>l37.el (fun(t34:Unit)=>some (.go ())) fun(e35:Dv) (r36:Unit)=>some (.rt e35 ())
noncomputable def EM(a2:Dv)(d0:Dv)(x4:Dv)(t5:Unit):Option (Lp Dv (Unit) (Unit)):=
(SG [4,5] x4).bind fun(t6:Dv×Dv)=>(BN [d0]).bind fun s7=>(Ds (CM a2 d0 t6.1 t6.2) s7 ()).bind fun l41=>l41.el (fun(t38:Unit)=>some (.go ())) fun(e39:Dv) (r40:Unit)=>some (.rt e39 ())
noncomputable def IY(a0 a1 a2:Dv):Option (Dv):=
(AB a1 (.int 0)).bind fun d0=>(AB a0 (.int 1)).bind fun d1=>(AB a1 (.int 2)).bind fun d2=>(IX [d1,d2]).bind fun s3=>(Ds (EM a2 d0) s3 ()).bind fun l45=>l45.el (fun(t42:Unit)=>some (.bl true)) fun(e43:Dv) (r44:Unit)=>some e43
theorem af:FW md gu (top 19) [] 1=true:=by kernel_rfl
theorem aW:IC md gu (top 19) [] 1 (EC IY):=dQ (by kernel_rfl) fun _ _ _=>(by kernel_rfl)
def gr:List (Str×wz):=("_law_goes", Ad (AC (top 19)) [] 1 true (EC IY))::gu
noncomputable def Cb(x4:Dv)(x7:Dv):Option (Option Dv):=
(AB x4 x7).bind fun d8=>(LK d8 x7).bind fun b9=>if b9=true then
some (some x7)
else some none
noncomputable def Ca(x4:Dv)(x13:Dv):Option Dv:=
(Ax x4 (.tup [x13])).bind fun d14=>some d14
noncomputable def Cd(x1:Dv)(x4:Dv)(t5:Dv):Option (Dv):=
(BN [x1]).bind fun s6=>Cz s6 ((DV (Cb x4) s6).bind fun y10=>(Ax (.lst y10) (.lst [x1])).bind fun d11=>FE "list" t5 (
(items d11).bind fun s12=>Cz s12 ((AZ (Ca x4) s12).bind fun y15=>(Bd t5 [(.lst y15)]).bind fun r16=>some r16.2)))
noncomputable def Cc(x1:Dv)(t2:Dv):Option (Dv):=
(items t2).bind fun s3=>(AO (Cd x1) s3 (.lst [])).bind fun t17=>some t17
noncomputable def Cr(a0:Dv):Option (Dv):=
(BN [a0]).bind fun s0=>(AO Cc s0 (.lst [(.tup [])])).bind fun t18=>some t18
theorem OA:FW md gr (top 20) [] 0=true:=by kernel_rfl
theorem Nj:IC md gr (top 20) [] 0 (one Cr):=oh (by kernel_rfl) fun _=>(by kernel_rfl)
def gq:List (Str×wz):=("_law_partings", Ad (AC (top 20)) [] 0 false (one Cr))::gr
noncomputable def El(x1:Dv)(x4:Dv):Option Dv:=
(SG [8,9] x4).bind fun(t5:Dv×Dv)=>(AB x1 t5.1).bind fun d6=>(AB x1 t5.2).bind fun d7=>(LK d6 d7).bind fun b8=>some (.bl b8)
noncomputable def Kc(a1:Dv)(x1:Dv)(t2:Dv):Option (Dv):=
(items a1).bind fun s3=>Cz s3 ((AZ (El x1) s3).bind fun y9=>(QV (.lst y9)).bind fun d10=>(GQ d10).bind fun b11=>if b11=true then
FE "list" t2 (
(AY t2 [x1]).bind fun r12=>some r12.2)
else
some t2)
noncomputable def DR(a1:Dv)(x1:Dv)(t2:Dv):Option (Dv):=
((Kc a1 x1 t2)).bind fun t13=>some t13
noncomputable def Ek(x18:Dv)(x22:Dv)(x24:Dv):Option Dv:=
(AB x24 x22).bind fun d25=>(AB x24 x18).bind fun d26=>(LK d25 d26).bind fun b27=>some (.bl b27)
noncomputable def Gf(yv:Dv)(x18:Dv)(x22:Dv):Option (Option Dv):=
(items yv).bind fun s23=>Cz s23 ((AZ (Ek x18 x22) s23).bind fun y28=>(QV (.lst y28)).bind fun d29=>bif Od d29 then
(GQ d29).bind fun b30=>if b30=true then
some (some x22)
else some none
else none)
noncomputable def En(yv:Dv)(x18:Dv)(t19:Dv):Option (Dv):=
(Ax x18 (.int 1)).bind fun d20=>(BN [d20]).bind fun s21=>Cz s21 ((DV (Gf yv x18) s21).bind fun y31=>FE "list" t19 (
(AB (.lst y31) (.int 0)).bind fun d32=>(AY t19 [d32]).bind fun r33=>some r33.2))
noncomputable def Fj(a0 a1:Dv):Option (Dv):=
(items a0).bind fun s0=>(AO (DR a1) s0 (.lst [])).bind fun yv=>(AB a0 (.int 0)).bind fun d15=>(CY d15).bind fun d16=>(BN [d16]).bind fun s17=>(AO (En yv) s17 (.lst [])).bind fun t34=>(AL t34).bind fun d35=>some d35
theorem Xa:FW md gq (top 21) [] 1=true:=by kernel_rfl
theorem XN:IC md gq (top 21) [] 1 (two Fj):=YF (by kernel_rfl) fun _ _=>(by kernel_rfl)
def gp:List (Str×wz):=("_law_least", Ad (AC (top 21)) [] 1 false (two Fj))::gq
noncomputable def EL(a2:Dv)(x2:Dv):Option (Option Dv):=
(AB a2 x2).bind fun d3=>(LK d3 x2).bind fun b4=>if b4=true then
some (some x2)
else some none
noncomputable def HU(a2:Dv)(y5:List Dv)(xD:Dv)(x15:Dv):Option (Dv):=
ur (FE "list" (.lst y5) (
(AB xD x15).bind fun d16=>(AB a2 d16).bind fun d17=>(Ed (.lst y5) d17).bind fun d18=>some d18)) (FE "tuple" (.lst y5) (
(AB xD x15).bind fun d19=>(AB a2 d19).bind fun d20=>(Dx (.lst y5) d20).bind fun d21=>some d21))
noncomputable def EK(a2:Dv)(y5:List Dv)(xD:Dv)(x15:Dv):Option Dv:=
((HU a2 y5 xD x15)).bind fun t22=>some t22
noncomputable def HS(a2:Dv)(y5:List Dv)(xD:Dv)(x27:Dv)(x30:Dv):Option (Dv):=
ur (FE "list" (.lst y5) (
(AB xD x27).bind fun d31=>(AB d31 x30).bind fun d32=>(AB a2 d32).bind fun d33=>(Ed (.lst y5) d33).bind fun d34=>some d34)) (FE "tuple" (.lst y5) (
(AB xD x27).bind fun d35=>(AB d35 x30).bind fun d36=>(AB a2 d36).bind fun d37=>(Dx (.lst y5) d37).bind fun d38=>some d38))
noncomputable def EJ(a2:Dv)(y5:List Dv)(xD:Dv)(x27:Dv)(x30:Dv):Option Dv:=
((HS a2 y5 xD x27 x30)).bind fun t39=>some t39
noncomputable def Bf(a2:Dv)(y5:List Dv)(xD:Dv)(x27:Dv)(t28:Dv):Option (Dv):=
FE "list" t28 (
(items (.lst y5)).bind fun s29=>Cz s29 ((AZ (EJ a2 y5 xD x27) s29).bind fun y40=>(AL (.lst y40)).bind fun d41=>(AY t28 [d41]).bind fun r42=>some r42.2))
noncomputable def HR(a2:Dv)(y5:List Dv)(t10:Dv)(zCN:Dv)(xD:Dv):Option (Dv):=
(AB zCN (.int 1)).bind fun d12=>(LK d12 (.int 1)).bind fun b13=>if b13=true then
FE "list" t10 (
(items (.lst y5)).bind fun s14=>Cz s14 ((AZ (EK a2 y5 xD) s14).bind fun y23=>(AL (.lst y23)).bind fun d24=>(AY t10 [d24]).bind fun r25=>some r25.2))
else
(items (.lst y5)).bind fun s26=>(AO (Bf a2 y5 xD) s26 (.lst [])).bind fun t43=>FE "list" t10 (
(AL t43).bind fun d44=>(AY t10 [d44]).bind fun r45=>some r45.2)
noncomputable def DA(a2:Dv)(y5:List Dv)(x9:Dv)(t10:Dv):Option (Dv):=
(SG [5,6] x9).bind fun(z7:Dv×Dv)=>((HR a2 y5 t10 z7.1 z7.2)).bind fun t46=>some t46
noncomputable def HQ(a2:Dv)(y5:List Dv)(x51:Dv):Option (Dv):=
ur (FE "list" (.lst y5) (
(AB a2 x51).bind fun d52=>(Ed (.lst y5) d52).bind fun d53=>some d53)) (FE "tuple" (.lst y5) (
(AB a2 x51).bind fun d54=>(Dx (.lst y5) d54).bind fun d55=>some d55))
noncomputable def EI(a2:Dv)(y5:List Dv)(x51:Dv):Option Dv:=
((HQ a2 y5 x51)).bind fun t56=>some t56
noncomputable def DS(a0 a1 a2:Dv):Option (Dv):=
(AB a1 (.int 0)).bind fun d0=>(BN [d0]).bind fun s1=>Cz s1 ((DV (EL a2) s1).bind fun y5=>(AB a0 (.int 1)).bind fun d6=>(AB a1 (.int 2)).bind fun d7=>(IX [d6,d7]).bind fun s8=>(AO (DA a2 y5) s8 (.lst [])).bind fun t47=>(CY (.lst y5)).bind fun d48=>(AB a1 (.int 1)).bind fun d49=>(items d49).bind fun s50=>Cz s50 ((AZ (EI a2 y5) s50).bind fun y57=>(AL (.lst y57)).bind fun d58=>(AL t47).bind fun d59=>some (.tup [d48,d58,d59])))
theorem QG:FW md gp (top 22) [] 1=true:=by kernel_rfl
theorem QB:IC md gp (top 22) [] 1 (EC DS):=dQ (by kernel_rfl) fun _ _ _=>(by kernel_rfl)
def gn:List (Str×wz):=("_law_world_of", Ad (AC (top 22)) [] 1 false (EC DS))::gp
noncomputable def Bz(x8:Dv):Option Dv:=
(Jp x8 (.ty "tuple")).bind fun d9=>some d9
noncomputable def DP(a2:Dv)(c3:Dv):Option (Bool):=
(UV c3 a2).bind fun b6=>if b6=true then
some true
else
(items c3).bind fun s7=>Cz s7 ((AZ Bz s7).bind fun y10=>(QV (.lst y10)).bind fun d11=>bif Od d11 then
(GQ d11).bind fun b12=>some (!b12)
else none)
noncomputable def Bx(a2:Dv)(c3:Dv):Option (Bool):=
(Jp c3 (.ty "list")).bind fun d4=>(GQ d4).bind fun b5=>if(!b5)=true then
some true
else
((DP a2 c3)).bind fun t13=>some t13
noncomputable def CD(a0:Dv)(a1:Dv)(a2:Dv)(x1:Dv)(t2:Unit):Option (Lp Dv (Unit) (Unit)):=
(EO a0 a1).bind fun c3=>((Bx a2 c3)).bind fun yv=>if yv=true then
some (.rt (.bl false) ())
else
FE "list" c3 (
(AY c3 [(.tup [])]).bind fun r15=>some (.go ()))
noncomputable def CB(a0:Dv)(a1:Dv)(x20:Dv)(t21:Unit):Option (Lp Dv (Unit) (Unit)):=
(Bq a0 a1 x20).bind fun c22=>(DS a0 a1 x20).bind fun c23=>(UV c22 c23).bind fun b24=>if b24=true then
some (.rt (.bl false) ())
else
some (.go ())
noncomputable def BI(a0 a1 a2:Dv):Option (Dv):=
(BN [(.int 2)]).bind fun s0=>(Ds (CD a0 a1 a2) s0 ()).bind fun l29=>l29.el (fun(t16:Unit)=>(items a2).bind fun s19=>(Ds (CB a0 a1) s19 ()).bind fun l28=>l28.el (fun(t25:Unit)=>some (.bl true)) fun(e26:Dv) (r27:Unit)=>some e26) fun(e17:Dv) (r18:Unit)=>some e17
theorem Hi:FW md gn (top 23) [] 1=true:=by kernel_rfl
theorem Hh:IC md gn (top 23) [] 1 (EC BI):=dQ (by kernel_rfl) fun _ _ _=>(by kernel_rfl)
def lX:List (Str×wz):=("_law_bundles_right", Ad (AC (top 23)) [] 1 true (EC BI))::gn
noncomputable def Oy(zBe:Dv)(zDC:Dv):Option (Dv×Dv):=
(AR zDC (.int 2)).bind fun c11=>(LK c11.1 (.int 0)).bind fun b12=>if b12=true then
(Gh c11.2 zBe).bind fun c13=>some (c13.2,c13.1)
else
some (c11.2,zBe)
noncomputable def PC(zCG:Dv)(yk:Dv)(x18:Dv):Option (Option Dv):=
(IY zCG yk x18).bind fun c19=>bif Od c19 then
(GQ c19).bind fun b20=>if b20=true then
some (some x18)
else some none
else none
noncomputable def IW(yk:Dv)(x29:Dv)(t30:Dv×Dv):Option (Dv×Dv):=
FE "list" t30.2 (
(AB yk (.int 0)).bind fun d31=>(AR t30.1 d31).bind fun c32=>(AB yk (.int 0)).bind fun d33=>(AR c32.2 d33).bind fun c34=>(AY t30.2 [(.tup [c32.1,c34.1])]).bind fun r35=>some (c34.2,r35.2))
noncomputable def Ot(y21:List Dv)(zCM:Dv)(c38:Dv):Option (Bool):=
(Jp c38 (.ty "tuple")).bind fun d39=>(GQ d39).bind fun b40=>if(!b40)=true then
some true
else
(Fj (.lst y21) zCM).bind fun c41=>(UV c38 c41).bind fun b42=>some b42
noncomputable def LZ(zCG:Dv)(yk:Dv)(y21:List Dv)(x25:Dv)(t26:Dv):Option (Lp Dv (Dv) (Unit)):=
(AR t26 (.int 4)).bind fun c27=>(BN [c27.1]).bind fun s28=>(AO (IW yk) s28 (c27.2,(.lst []))).bind fun t36=>(AL t36.2).bind fun d37=>(BM zCG yk d37).bind fun c38=>((Ot y21 t36.2 c38)).bind fun t43=>if t43=true then
some (.rt (.bl false) ())
else
some (.go t36.1)
noncomputable def LY(a0:Dv)(x4:Dv)(t5:Unit):Option (Lp Dv (Unit) (Unit)):=
(IZ a0 x4).bind fun c6=>(Fi c6).bind fun c7=>(AR c7.2 (.int 4)).bind fun c8=>(Ax (.int 1) c8.1).bind fun d9=>(Fh c8.2 c7.1 d9).bind fun c10=>((Oy c10.1 c10.2)).bind fun yv=>(AB yv.2 (.int 0)).bind fun d15=>(Cr d15).bind fun c16=>(items c16).bind fun s17=>Cz s17 ((DV (PC c7.1 yv.2) s17).bind fun y21=>(BI c7.1 yv.2 (.lst y21)).bind fun c22=>bif Od c22 then
(GQ c22).bind fun b23=>if(!b23)=true then
some (.rt (.bl false) ())
else
(BN [(.int 4)]).bind fun s24=>(Ds (LZ c7.1 yv.2 y21) s24 yv.1).bind fun l47=>l47.el (fun(t44:Dv)=>some (.go ())) fun(e45:Dv) (r46:Unit)=>some (.rt e45 ())
else none)
noncomputable def ZK(a0:Dv):Option (Dv):=
(CY a0).bind fun d0=>(LM (.int 6) d0).bind fun d1=>(LN (.int 4) d1).bind fun d2=>(SX [(.int 1),d2]).bind fun s3=>(Ds (LY a0) s3 ()).bind fun l51=>l51.el (fun(t48:Unit)=>some (.bl true)) fun(e49:Dv) (r50:Unit)=>some e49
theorem mK:FW md lX (top 24) [] 1=true:=by kernel_rfl
theorem mD:IC md lX (top 24) [] 1 (one ZK):=oh (by kernel_rfl) fun _=>(by kernel_rfl)
end My
namespace R
open PySem L2
def Fd(x:Dv):Prop:=∃a b:Int,x=.lst [.int a,.int b]
def Tx(N:Nat)(x:Dv):Prop:=∃l,x=.str l/\l.length<=N/\∀c∈l,c < 128
variable {x:Dv}
theorem Tx.mono{N M:Nat}(h:Tx N x)(le:N<=M):Tx M x:=let ⟨l,e,h1,h2⟩:=h;⟨l,e,C4 h1 le,h2⟩
variable {α:Type} {xs:List Dv}
section
variable {γ τ ρ:Type}
theorem DZ(g:Dv->γ->Option (Dv×γ))(P:γ->Prop)(R:Dv->Prop):∀(xs:List Dv) (c:γ),P c->(∀x∈xs,∀c,P c->∃d c',g x c=some (d,c')/\R d/\P c')->∃ds c',CU g xs c=some (ds,c')/\ds.length=xs.length/\(∀d∈ds,R d)/\P c'
 | [],c,hc,_=>⟨[],c,rfl,rfl,fun _ z=>(K7 z).elim,hc⟩
 | x::xs,c,hc,h=>by
  obtain⟨d,c1,e1,r1,p1⟩:=h x B1 c hc;obtain⟨ds,c2,e2,l2,r2,p2⟩:=DZ g P R xs c1 p1 fun y hy=>h y (A9 _ hy)
  refine⟨d::ds,c2,by simp only[CU,e1,e2,A0],by rw[D9,D9,l2],fun y hy=>?_,p2⟩;rcases C8.mp hy with rfl | hy
  ·exact r1
  ·exact r2 y hy
theorem JN(g:Dv->γ->Option γ)(I:Nat->γ->Prop):∀(xs:List Dv) (k:Nat) (c:γ),I k c->(∀i x,xs[i]?=some x->∀c,I (k+i) c->∃c',g x c=some c'/\I (k+i+1) c')->∃c',AO g xs c=some c'/\I (k+xs.length) c'
 | [],k,c,hc,_=>⟨c,rfl,hc⟩
 | x::xs,k,c,hc,h=>by
  obtain⟨c1,e1,i1⟩:=h 0 x rfl c hc;obtain⟨c2,e2,i2⟩:=JN g I xs (k+1) c1 i1 fun i y hy c hc=>by
   have:=h (i+1) y hy c (by rw[show k+(i+1)=k+1+i by omega];exact hc);rw[show k+(i+1)+1=k+1+i+1 by omega] at this;exact this
  exact⟨c2,by simp only[AO,e1,e2,A0],by rw[D9,show k+(xs.length+1)=k+1+xs.length by omega];exact i2⟩
theorem NR(g:Dv->Option Dv)(f:Dv->Dv):∀(xs:List Dv),(∀x∈xs,g x=some (f x))->AZ g xs=some (xs.map f)
 | [],_=>rfl
 | x::xs,h=>by simp only[AZ,h x B1,NR g f xs fun y hy=>h y (A9 _ hy),A0,C5]
theorem JE(g:Dv->Option Dv)(R:Dv->Prop):∀(xs:List Dv),(∀x∈xs,∃d,g x=some d/\R d)->∃ds,AZ g xs=some ds/\ds.length=xs.length/\∀d∈ds,R d
 | [],_=>⟨[],rfl,rfl,fun _ z=>by cases z⟩
 | x::xs,h=>by
  obtain⟨d,e1,r1⟩:=h x B1;obtain⟨ds,e2,l2,r2⟩:=JE g R xs fun y hy=>h y (A9 _ hy)
  refine⟨d::ds,by simp only[AZ,e1,e2,A0],by rw[D9,D9,l2],fun y hy=>?_⟩;rcases C8.mp hy with rfl | hy
  ·exact r1
  ·exact r2 y hy
theorem Hy(g:Dv->γ->Option (Lp τ γ ρ))(c:γ):∀(xs:List Dv),(∀x∈xs,g x c=some (.go c))->Ds g xs c=some (.go c)
 | [],_=>rfl
 | x::xs,h=>by simp only[Ds,h x B1,A0];exact Hy g c xs fun y hy=>h y (A9 _ hy)
theorem AS{o:Option α}(h:xs.length<=1000000):Cz xs o=o:=by unfold Cz;rw[if_pos h]
end
theorem GP(xs:List α)(i:Nat)(h:i < xs.length):HK xs (i:Int)=some xs[i]:=by
 unfold HK RN;rw[if_pos (by omega),if_pos (by omega)];simp[h]
theorem MQ{xs:List α}{i:Int}(h0:0<=i)(h:i < xs.length):∃x∈xs,HK xs i=some x:=by
 obtain⟨n,rfl⟩:∃n:Nat,i=n:=⟨i.toNat,by omega⟩;exact⟨xs[n]'(by omega),R6 _,GP xs n (by omega)⟩
theorem Rz{i:Int}(h0:0<=i)(h:i < xs.length):∃x∈xs,AB (.lst xs) (.int i)=some x:=MQ h0 h
theorem mr{l:List Nat}{i:Int}(h0:0<=i)(h:i < l.length)(hl:l.length<=1000000):∃c∈l,AB (.str l) (.int i)=some (.str [c]):=by
 obtain⟨c,hc,e⟩:=MQ h0 h;exact⟨c,hc,by simp only[AB,if_pos hl,e,K2]⟩
theorem Fk{n:Int}(h0:-1000000000<=n)(h:n<=1000000000):BN [.int n]=some ((A5 n.toNat).map fun k=>.int (k:Nat)):=by
 have:small n=true:=by unfold small;simp[h0,h]
 simp only[BN,this,cond_true,Int.zero_add]
theorem FO(n:Nat)(h:n<=1000000):BN [.int (n:Nat)]=some ((A5 n).map fun k=>.int (k:Nat)):=by
 have:=Fk (n:=(n:Int)) (by omega) (by omega);simpa using this
theorem Dq(xs:List Dv)(o:Option α):FE "list" (.lst xs) o=o:=rfl
theorem lP(l:List Nat)(o:Option α):FE "str" (.str l) o=o:=rfl
theorem mn{R:Type}(i:Int)(k:Int->Option R):jK (.int i) k=k i:=rfl
theorem IH(b:Bool):GQ (.bl b)=some b:=rfl
theorem Zz(b:Bool):Od (.bl b)=true:=rfl
theorem Hc{β:Type}{i j:Nat}(x y:Dv)(f:Dv×Dv->Option β):((SG [i,j] (.tup [x,y])).bind fun(t:Dv×Dv)=>f t)=f (x,y):=rfl
theorem Ec{y:Dv}(h:xs.length<=1000000):AY (.lst xs) [y]=some (.we,.lst (xs++[y])):=by simp only[AY,if_pos h]
theorem Wt{ys:List Dv}(h:xs.length+ys.length<=1000000):Bd (.lst xs) [.lst ys]=some (.we,.lst (xs++ys)):=by simp only[Bd,if_pos h]
theorem NI{R:Dv->Dv->Prop}:∀{xs ys:List Dv},Paired R xs ys->xs.length=ys.length
 | _,_,.nil=>rfl
 | _,_,.cons _ p=>by rw[D9,D9,NI p]
theorem MF{xs:List α}{lo hi:Option Int}{x:α}(h:x∈Du xs lo hi):x∈xs:=List.mem_of_mem_drop (List.mem_of_mem_take h)
theorem Rm(xs:List α)(lo hi:Option Int):(Du xs lo hi).length<=xs.length:=by
 unfold Du;rw[R5,e8];omega
theorem MG(l:List Nat)(lo hi:Option Int):Tj l lo hi=Du l lo hi:=rfl
theorem FK:∀ls:List (List Nat),Ap (ls.map Dv.str)=true
 | []=>rfl
 | x::xs=>by simp only[C5,Ap,Dv.cmp,FK xs,R3]
theorem FJ:∀ls:List (List Nat),Bv (ls.map Dv.str)=0
 | []=>rfl
 | x::xs=>by simp only[C5,Bv,Dv.dep,FJ xs];rfl
theorem Gq(x:List Nat):∀ls:List (List Nat),NP (.str x) (ls.map Dv.str)=ls.contains x
 | []=>rfl
 | y::ys=>by
  have:=Gq x ys;simp only[NP] at this;simp only[NP,C5,V9,this,qY,xc]
  by_cases e:y=x
  ·subst e;simp
  ·have e2:¬x=y:=fun z=>e z.symm
   have h1:(y == x)=false:=by simpa using e
   have h2:(x == y)=false:=by simpa using e2
   rw[h1,h2]
theorem mm(neg:Bool)(x:List Nat)(ls:List (List Nat)):QR neg (.str x) (.lst (ls.map Dv.str))=some (if neg=true then !ls.contains x else ls.contains x):=by
 simp only[QR,nV,Dv.cmp,FK,FJ,R3,J8,decide_true,if_true,Gq]
theorem UP(neg:Bool)(x:List Nat)(ls:List (List Nat)):QR neg (.str x) (.tup (ls.map Dv.str))=some (if neg=true then !ls.contains x else ls.contains x):=by
 simp only[QR,nV,Dv.cmp,FK,FJ,R3,J8,decide_true,if_true,Gq]
theorem GR(i j:Int):Ax (.int i) (.int j)=some (.int (i+j)):=rfl
theorem Jm(i j:Int)(h:0 < j):DM (.int i) (.int j)=some (.int (i % j)):=by simp only[DM,DF,h,decide_true,if_true]
theorem BS(i j:Int):LK (.int i) (.int j)=some (decide (i=j)):=by
 simp only[MP,Dv.cmp,Dv.dep,R3,J8,decide_true,if_true,xc,D6,if_false];congr 1
theorem MO(i j:Int):UV (.int i) (.int j)=some (!decide (i=j)):=by
 simp only[MP,Dv.cmp,Dv.dep,R3,J8,decide_true,if_true,xc];congr 1
theorem Tx.cut{N:Nat}(h:Tx N x)(hN:N<=1000000)(lo hi:Option Int):∃y,UQ x lo hi=some y/\Tx N y:=by
 obtain⟨l,rfl,h1,h2⟩:=h;exact⟨.str (Tj l lo hi),by simp only[UQ,if_pos (C4 h1 hN)],_,rfl,by rw[MG];exact C4 (Rm _ _ _) h1,fun c hc=>h2 c (MF (by rw[<- MG];exact hc))⟩
theorem Tx.add{N M:Nat}{y:Dv}(h:Tx N x)(h':Tx M y)(hN:N+M<=1000000):∃z,Ax x y=some z/\Tx (N+M) z:=by
 obtain⟨l,rfl,h1,h2⟩:=h;obtain⟨l',rfl,zy,h2'⟩:=h';refine⟨.str (l++l'),by simp only[Ax,if_pos (show l.length+l'.length<=1000000 by omega)],_,rfl,by rw[D0];omega,fun c hc=>?_⟩;rcases E9.mp hc with hc | hc
 ·exact h2 c hc
 ·exact h2' c hc
theorem de{c:Nat}(h:c < 128):g8 c < 128:=by
 unfold g8;split<;>omega
theorem Tx.upper{N:Nat}(h:Tx N x)(hN:N<=1000000):∃y,HL x=some y/\Tx N y:=by
 obtain⟨l,rfl,h1,h2⟩:=h;have e:(l.all (fun c=>decide (c < 128)) && decide (l.length<=1000000))=true:=by
  rw[A3];exact⟨F8.mpr fun c hc=>decide_eq_true (h2 c hc),decide_eq_true (C4 h1 hN)⟩
 refine⟨.str (l.map g8),by simp only[HL,e,if_true],_,rfl,by rw[A8];exact h1,fun c hc=>?_⟩;obtain⟨d,hd,rfl⟩:=H8.mp hc;exact de (h2 d hd)
theorem KR:∀ls:List (List Nat),KS (ls.map Dv.str)=some ls
 | []=>rfl
 | x::xs=>by simp only[C5,KS,KR xs,K2]
theorem Pj:∀{xs:List Dv},(∀x∈xs,∃c,x=.str [c]/\c < 128)->xs.length<=1000->∃z,Jo (.str []) (.lst xs)=some z/\Tx xs.length z:=by
 intro xs h hl;have:∃cs:List Nat,xs=(cs.map fun c=>[c]).map Dv.str/\∀c∈cs,c < 128:=by
  clear hl
  induction xs with
  | nil=>exact⟨[],rfl,fun _ z=>by cases z⟩
  | cons x xs ih =>
   obtain⟨cs,e,h2⟩:=ih fun y hy=>h y (A9 _ hy)
   obtain⟨c,rfl,hc⟩:=h x B1;refine⟨c::cs,by rw[e];rfl,fun d hd=>?_⟩;rcases C8.mp hd with rfl | hd
   ·exact hc
   ·exact h2 d hd
 obtain⟨cs,e,h2⟩:=this;have hlen:xs.length=cs.length:=by rw[e];simp
 have hj:∀cs:List Nat,jn [] (cs.map fun c=>[c])=cs:=by
  intro cs;cases cs with
  | nil=>rfl
  | cons a b =>
   show[a]++((b.map fun c=>[c]).flatMap fun y=>[]++y)=a::b;have:∀b:List Nat,((b.map fun c=>[c]).flatMap fun y=>[]++y)=b:=by
    intro b
    induction b with
    | nil=>rfl
    | cons x y ih=>simp only[C5,uR,ih];rfl
   rw[this];rfl
 have hs:((cs.map fun c=>[c]).map qg).sum=cs.length:=by
  clear e h2 hlen
  induction cs with
  | nil=>rfl
  | cons a b ih=>rw[C5,C5,so,ih];simp;omega
 rw[e];refine⟨.str cs,?_,cs,rfl,by simp,h2⟩;simp only[Jo,KR,hj];rw[if_pos (by rw[hs];simp;omega)]
end R
namespace My
open PySem L2 R
variable {f:Dv}
theorem As(hf:Fd f){n:Int}(h0:0 < n)(h1:n < 1073741824):∃(r:Nat) (f':Dv),AR f (.int n)=some (.int r,f')/\(r:Int) < n/\Fd f':=by
 obtain⟨a,b,rfl⟩:=hf;have i0:∀x y:Dv,AB (.lst [x,y]) (.int 0)=some x:=fun _ _=>rfl
 have i1:∀x y:Dv,AB (.lst [x,y]) (.int 1)=some y:=fun _ _=>rfl
 have s0:∀x y d:Dv,BA (.lst [x,y]) (.int 0) d=some (.lst [d,y]):=fun _ _ _=>rfl
 have s1:∀x y d:Dv,BA (.lst [x,y]) (.int 1) d=some (.lst [x,d]):=fun _ _ _=>rfl
 have m:∀x:Int,∃r:Nat,x % n=r/\(r:Int) < n:=fun x=>⟨(x % n).toNat,by have:=k9 x (show n≠0 by omega);omega,by have:=k9 x (show n≠0 by omega);have:=qZ x h0;omega⟩
 have zDz:big 48271=true:=by decide
 have zDy:big 40692=true:=by decide
 have zDx:big 2147483647=true:=by decide
 unfold AR;simp only[i0,A0,GO,iz]
 by_cases h:0 < a
 ·obtain⟨r,e,hr⟩:=m a;refine⟨r,.lst [.int (a / n),.int b],?_,hr,a / n,b,rfl⟩;simp only[h,decide_true,if_true,DM,YU,DF,h0,h1,R3,A0,i0,s0,e]
 ·simp only[h,decide_false,D6,if_false,i1,s1,Dc,zDz,zDy,zDx,uS,if_true,A0,DM,YU,DF,Ax,h0,decide_true,show(0:Int) < 2147483647 by decide,show(0:Int) < 2147483399 by decide,show(0:Int) < 8191 by decide,show(8191:Int) < 1073741824 by decide,R3];obtain⟨r,e,hr⟩:=m (((b * 48271 % 2147483647) * 2147483647+((b * 48271 % 2147483647 * 40692+30103) % 2147483399+1)) / 8191);exact⟨r,_,by rw[e],hr,_,_,rfl⟩
theorem TV{ns:List Int}{k:Nat}:∃f,IZ (.xV ns) (.int k)=some f/\Fd f:=by
 have b1:big 7907=true:=by decide
 have b2:big 2147483629=true:=by decide
 have b3:big 31=true:=by decide
 have b4:big 48271=true:=by decide
 have b5:big 40692=true:=by decide
 have c1:∃c:Int,IT (.xV ns) (.int k) (.int (7907 * k+13579))=some (.int c):=by
  unfold IT Mp;simp only[CY,A0,GO,iz]
  by_cases h:(k:Int) < ns.length
  ·simp only[h,decide_true,if_true,AB,GP ns k (by omega),K2,A0];exact⟨_,rfl⟩
  ·simp only[h,decide_false,D6,if_false]
   by_cases h2:0 < (ns.length:Int)
   ·have e:=k9 (k:Int) (show(ns.length:Int)≠0 by omega);have e':=qZ (k:Int) h2;obtain⟨x,_,ex⟩:=MQ e e';simp only[h2,decide_true,if_true,DM,DF,A0,AB,ex,K2,Dc,b1,b3,rR,uS,Ax,show(0:Int) < 2147483629 by decide];exact⟨_,rfl⟩
   ·simp only[h2,decide_false,D6,if_false];exact⟨_,rfl⟩
 obtain⟨c,e⟩:=c1;have c2:∃d:Int,IS (.int c)=some (.int d):=by
  unfold IS;simp only[jC,DF,show(decide ((0:Int)<=18) && decide ((18:Int)<=1000000) && decide ((10:Int).natAbs < 2 ^ 64))=true by decide,if_true,A0,GO,iz];split<;>exact⟨_,rfl⟩
 obtain⟨d,e2⟩:=c2;unfold IZ;simp only[Dc,b1,b4,b5,rR,uS,if_true,A0,Ax,e,e2,DM,DF,show(0:Int) < 2147483629 by decide,show(0:Int) < 2147483646 by decide,decide_true];exact⟨_,rfl,_,_,rfl⟩
variable {n:Nat}
theorem GW(hf:Fd f)(h0:0 < n)(h1:n<=1000000):∃(r:Nat) (f':Dv),AR f (.int (n:Nat))=some (.int (r:Nat),f')/\r < n/\Fd f':=by
 obtain⟨r,f',e,b,h⟩:=As hf (n:=((n:Nat):Int)) (by omega) (by omega);exact⟨r,f',e,by omega,h⟩
noncomputable abbrev oo:List Nat:=[97,98,99,100,101,102,103,104,105,106,107,108,109,110,111,112,113,114,115,116,117,118,119,120,121,122]
theorem jB:∀c∈oo,c < 128:=by decide
theorem WQ{i:Int}(h0:0<=i)(h:i < 26):∃c,AB (.str oo) (.int i)=some (.str [c])/\c < 128:=by
 obtain⟨c,hc,e⟩:=mr (l:=oo) h0 (show i < ((26:Nat):Int) by omega) (by decide);exact⟨c,e,jB c hc⟩
theorem LV{c:Nat}(h:c < 128):Tx 1 (.str [c]):=⟨[c],rfl,by simp,fun d hd=>by rw[D3] at hd;subst hd;exact h⟩
theorem SS(hf:Fd f)(xs:List Dv)(hl:xs.length<=1000):∃z f',(∃ds,CU Ej xs f=some (ds,f')/\Jo (.str []) (.lst ds)=some z)/\Tx xs.length z/\Fd f':=by
 obtain⟨ds,f',e,xy,hd,yU⟩:=DZ Ej Fd (fun d=>∃c,d=.str [c]/\c < 128) xs f hf fun x _ c hc=>by
  obtain⟨r,f',e,hr,yU⟩:=As hc (n:=26) (by decide) (by decide);obtain⟨c,e2,hc⟩:=WQ (i:=r) (by omega) hr;exact⟨.str [c],f',by unfold Ej;simp only[e,e2,A0],⟨c,rfl,hc⟩,yU⟩
 obtain⟨z,e2,hz⟩:=Pj hd (by omega);exact⟨z,f',⟨ds,e,e2⟩,by rw[xy] at hz;exact hz,yU⟩
variable {α:Type}
theorem oR(xs:List α)(r:Nat):(Du xs none (some (r:Int))).length<=r:=by
 unfold Du;rw[R5];unfold HT.wo;simp only[];split<;>omega
theorem oQ(xs:List α)(r:Nat)(h:Option Int):(Du xs (some (r:Int)) h).length<=xs.length - r:=by
 unfold Du;rw[R5,e8];have:HT.wo xs.length 0 (some (r:Int))=min r xs.length:=by unfold HT.wo;simp only[];split<;>omega
 omega
variable {l:List Nat}
theorem pC{N:Nat}(hN:l.length<=1000000)(h:∀c∈l,c < 128){lo hi:Option Int}(hl:(Du l lo hi).length<=N):∃y,UQ (.str l) lo hi=some y/\Tx N y:=
 ⟨.str (Tj l lo hi),by simp only[UQ,if_pos hN],_,rfl,by rw[MG];exact hl,fun c hc=>h c (MF (by rw[<- MG];exact hc))⟩
variable {x:Dv}
theorem Pc(h:Tx 4 x):∃y,Ga x=some y/\Tx 5 y:=by
 obtain⟨l,rfl,h1,h2⟩:=id h;unfold Ga;have e:=UP false l [[100,101,102],[108,101,116],[116,101,108,108],[108,111,111,112],[112,105,99,107],[99,97,108,108]];simp only[C5,m7,D6,if_false] at e;simp only[e,A0];split
 ·obtain⟨z,e1,hz⟩:=h.add (LV (c:=113) (by decide)) (by decide);exact⟨z,by rw[e1];rfl,hz⟩
 ·exact⟨_,rfl,h.mono (by decide)⟩
theorem Iz(hf:Fd f)(h2:2<=n)(hn:n<=1000):∃ns f',DB f (.int n)=some (.lst ns,f')/\ns.length=n/\(∀x∈ns,Tx 5 x)/\Fd f':=by
 obtain⟨r1,f1,e1,b1,zQ⟩:=As hf (n:=4) (by decide) (by decide);have er:BN [.int r1]=some ((A5 (r1:Int).toNat).map fun k=>.int (k:Nat)):=Fk (by omega) (by omega);obtain⟨z,f2,⟨ds,e3,e4⟩,hz,hf2⟩:=SS zQ ((A5 (r1:Int).toNat).map fun k=>.int (k:Nat)) (by simp;omega);have hz:Tx 3 z:=hz.mono (by simp;omega);obtain⟨zl,rfl,hz1,hz2⟩:=hz;obtain⟨r7,f7,e7,b7,hf7⟩:=As hf2 (n:=26) (by decide) (by decide);have el:CY (.str zl)=some (.int zl.length):=by simp only[CY,if_pos (show zl.length<=1000000 by omega)]
 obtain⟨r10,f10,e10,b10,zCE⟩:=As hf7 (n:=(zl.length:Int)+1) (by omega) (by omega);obtain⟨r11,f11,e11,b11,zBJ⟩:=As zCE (n:=4) (by decide) (by decide);have en:BN [.int n]=some ((A5 (n:Int).toNat).map fun k=>.int (k:Nat)):=Fk (by omega) (by omega);obtain⟨c,e12,ns,rfl,hl,hns⟩:=JN (Gg (.str zl) (.int r7) (.int r10) (.int r11)) (fun i c=>∃ns,c=.lst ns/\ns.length=i/\∀x∈ns,Tx 5 x) ((A5 (n:Int).toNat).map fun k=>.int (k:Nat)) 0 (.lst []) ⟨[],rfl,rfl,fun _ z=>(K7 z).elim⟩ fun i x hx c hc=>by
  obtain⟨ns,rfl,hl,hns⟩:=hc;rw[C6] at hx;have hi:i < n:=by
   rcases uP i n with h | h
   ·exact h
   ·rw[M4 (by simp;omega)] at hx;cases hx
  rw[A4 (by simp;omega)] at hx;simp only[K2,T3,qb] at hx;subst hx;obtain⟨c,ec,hc⟩:=WQ (i:=((r7:Int)+7 * (i:Nat)) % 26) (k9 _ (by decide)) (qZ _ (by decide));obtain⟨y1,ey1,hy1⟩:=pC (by omega) hz2 (oR zl r10);obtain⟨y2,ey2,hy2⟩:=hy1.add (LV hc) (by omega);obtain⟨y3,ey3,hy3⟩:=pC (by omega) hz2 (oQ zl r10 (some (((r11:Int)+(i:Nat)) % 4)));obtain⟨y4,ey4,hy4⟩:=hy2.add hy3 (by omega);obtain⟨y5,ey5,hy5⟩:=Pc (hy4.mono (by omega));refine⟨.lst (ns++[y5]),?_,ns++[y5],rfl,by rw[D0,hl];rfl,fun x hx=>?_⟩
  ·have b7:big 7=true:=by decide
   unfold Gg;simp only[Dc,b7,rR,if_true,A0,GR,Jm _ _ (show(0:Int) < 26 by decide),Jm _ _ (show(0:Int) < 4 by decide),ec,mn,ey1,ey3];rw[ey2];simp only[A0];rw[ey4];simp only[A0,ey5,Dq,Ec (show ns.length<=1000000 by omega)]
  ·rcases E9.mp hx with hx | hx
   ·exact hns x hx
   ·rw[D3] at hx;subst hx;exact hy5
 have hl:ns.length=n:=by rw[hl];simp
 have last:∃ms f',GZ (.int n) f11 (.lst ns)=some (f',.lst ms)/\ms.length=n/\(∀x∈ms,Tx 5 x)/\Fd f':=by
  have m2:∃x∈ns,AB (.lst ns) (.int (-2))=some x:=by
   refine⟨ns[n - 2]'(by omega),R6 _,?_⟩;simp only[AB,HK,RN];rw[if_neg (by omega),if_pos (by omega)];simp only[A0];rw[show(-2+(ns.length:Int)).toNat=n - 2 by omega];exact A4 (by omega)
  obtain⟨x,hx,ex⟩:=m2;obtain⟨l,rfl,x6,xy⟩:=id (hns x hx);have t1:∃(b:Bool) (f':Dv),GX (.int n) f11 (.lst ns)=some (b,f')/\(b=true->l.length<=3)/\Fd f':=by
   unfold GX Ka;simp only[GO,iz,show(1:Int) < n by omega,decide_true,if_true,A0,OX,ex,CY,if_pos (show l.length<=1000000 by omega)];split
   ·rename_i xF;obtain⟨r,f',e,_,h⟩:=As zBJ (n:=4) (by decide) (by decide);simp only[e,A0,BS];exact⟨_,_,rfl,fun _=>by have:=of_decide_eq_true xF;omega,h⟩
   ·exact⟨_,_,rfl,(fun z=>by cases z),zBJ⟩
  obtain⟨b,f',et,hb3,yU⟩:=t1;unfold GZ;simp only[et,A0];cases b
  ·exact⟨ns,f',by simp,hl,hns,yU⟩
  ·obtain⟨y,ey,hy⟩:=Tx.add (N:=3) (M:=1) ⟨l,rfl,hb3 rfl,xy⟩ (LV (c:=113) (by decide)) (by decide);simp only[if_true,OX,A0,ex,ey,BA,RN];rw[if_neg (by omega),if_pos (by omega)];refine⟨_,f',rfl,by rw[E1];exact hl,fun x hx=>?_,yU⟩;rcases qe hx with hx | rfl
   ·exact hns x hx
   ·exact hy.mono (by decide)
 obtain⟨ms,f',e13,hl3,hms,yU⟩:=last;refine⟨ms,f',?_,hl3,hms,yU⟩;unfold DB;simp only[lP,e1,er,A0];rw[AS (by simp;omega)];simp only[A0,e3,e4,e7,el,GR,e10,e11,en];rw[e12];simp only[A0,e13]
def nP(n:Nat)(xs:List Dv):Prop:=∀y∈xs,∃r:Nat,y=.int r/\r < n
def Row(n:Nat)(x:Dv):Prop:=∃xs,x=.tup xs/\xs.length=n/\nP n xs
def Tab(n:Nat)(r:Int)(x:Dv):Prop:=(r=1/\Row n x)\/(r=2/\∃xs,x=.tup xs/\xs.length=n/\∀y∈xs,Row n y)
def my(N:Nat)(x:Dv):Prop:=∃a r,x=.tup [a,.int r]/\Tx N a/\(r=1\/r=2)
def Yb(n:Nat)(d t:Dv):Prop:=∃a r,d=.tup [a,.int r]/\(r=1\/r=2)/\Tab n r t
theorem Oz(hf:Fd f):∃fs ds f',Fi f=some (.tup [.tup fs,.tup ds],f')/\fs.length<=4/\(∀x∈fs,Tx 10 x)/\ds.length<=3/\(∀x∈ds,my 5 x)/\Fd f':=by
 obtain⟨ns,f1,e1,hl,hns,zQ⟩:=Iz hf (n:=4) (by decide) (by decide);obtain⟨r2,f2,e2,b2,hf2⟩:=As zQ (n:=4) (by decide) (by decide);have h3:∀x∈Du ns none (some (r2:Int)),Tx 5 x:=fun x hx=>hns x (MF hx)
 have l3:=Rm ns none (some (r2:Int));obtain⟨ps,e4,l4,h4⟩:=JE Ge (Tx 10) (Du ns none (some (r2:Int))) fun x hx=>by
  obtain⟨y1,ey1,hy1⟩:=(h3 x hx).cut (by decide) none (some 1);obtain⟨l1,rfl,_,_⟩:=id hy1;obtain⟨y2,ey2,hy2⟩:=hy1.upper (by decide);obtain⟨y3,ey3,hy3⟩:=(h3 x hx).cut (by decide) (some 1) none;obtain⟨y4,ey4,hy4⟩:=hy2.add hy3 (by decide);exact⟨y4,by unfold Ge;simp only[ey1,lP,ey2,ey3,ey4,A0],hy4⟩
 obtain⟨ms,f10,e10,zEM,hms,zCE⟩:=Iz hf2 (n:=3) (by decide) (by decide);obtain⟨r11,f11,e11,b11,zBJ⟩:=As zCE (n:=8) (by decide) (by decide);have m:∀x∈[(Dv.int 1),(Dv.int 2),(Dv.int 3),(Dv.int 2),(Dv.int 3),(Dv.int 1),(Dv.int 2),(Dv.int 0)],∃k:Nat,x=.int k/\k<=3:=by
  intro x hx;simp only[C8,K7,or_false] at hx;rcases hx with rfl | rfl | rfl | rfl | rfl | rfl | rfl | rfl
  all_goals first | exact⟨0,rfl,by decide⟩ | exact⟨1,rfl,by decide⟩ | exact⟨2,rfl,by decide⟩ | exact⟨3,rfl,by decide⟩
 obtain⟨x,hx,ex⟩:=Rz (xs:=[(Dv.int 1),(Dv.int 2),(Dv.int 3),(Dv.int 2),(Dv.int 3),(Dv.int 1),(Dv.int 2),(Dv.int 0)]) (i:=r11) (by omega) b11;obtain⟨k,rfl,hk⟩:=m x hx;have er:BN [.int k]=some ((A5 (k:Int).toNat).map fun j=>.int (j:Nat)):=Fk (by omega) (by omega);obtain⟨qs,f16,e16,l6,h6,zDo⟩:=DZ (Gc (.lst ms)) Fd (my 5) ((A5 (k:Int).toNat).map fun j=>.int (j:Nat)) f11 zBJ fun x hx c hc=>by
  obtain⟨j,hj,rfl⟩:=H8.mp hx;have hj:j < k:=by simpa using hj
  obtain⟨a,ha,ea⟩:=Rz (xs:=ms) (i:=j) (by omega) (by omega);obtain⟨r,f',e,b,yU⟩:=As hc (n:=2) (by decide) (by decide);exact⟨.tup [a,.int (1+r)],f',by unfold Gc;simp only[ea,e,A0,GR],⟨a,1+r,rfl,hms a ha,by omega⟩,yU⟩
 refine⟨ps,qs,f16,?_,by omega,h4,by rw[l6];simp;omega,h6,zDo⟩;have e1':DB f (.int 4)=some (.lst ns,f1):=e1;have zDu:DB f2 (.int 3)=some (.lst ms,f10):=e10;unfold Fi;simp only[e1',e2,A0,mn,UQ,items];rw[AS (by omega),e4];simp only[A0,zDu,e11];rw[ex];simp only[A0,er];rw[AS (by simp;omega),e16];rfl
theorem Ie(g:Dv->Dv->Dv->Option (Dv×Dv))(hg:∀x2 it c,g x2 it c=(AR c x2).bind fun r=>some (r.1,r.2))(h0:0 < n)(h1:n<=1000)(hf:Fd f)(xs:List Dv):∃ts f',CU (g (.int n)) xs f=some (ts,f')/\ts.length=xs.length/\nP n ts/\Fd f':=
 DZ (g (.int n)) Fd (fun y=>∃r:Nat,y=.int r/\r < n) xs f hf fun x hx c hc=>by
  obtain⟨r,f',e,b,yU⟩:=As hc (n:=n) (by omega) (by omega);exact⟨.int r,f',by rw[hg,e];rfl,⟨r,rfl,by omega⟩,yU⟩
theorem Kx(g:Dv->(Dv×Dv)->Option (Dv×Dv))(P:Dv->Prop)(R:Dv->Dv->Prop):∀(xs:List Dv) (f:Dv) (acc:List Dv),P f->acc.length+xs.length<=1000->(∀x∈xs,∀f acc,P f->acc.length<=1000->∃f' t,g x (f,.lst acc)=some (f',.lst (acc++[t]))/\R x t/\P f')->∃f' ts,AO g xs (f,.lst acc)=some (f',.lst (acc++ts))/\Paired R xs ts/\P f'
 | [],f,acc,hf,_,_=>⟨f,[],by simp only[AO,L9],.nil,hf⟩
 | x::xs,f,acc,hf,hl,h=>by
  rw[D9] at hl;obtain⟨f1,t,e1,r1,h1⟩:=h x B1 f acc hf (by omega);obtain⟨f2,ts,e2,r2,h2⟩:=Kx g P R xs f1 (acc++[t]) h1 (by rw[D0];simp;omega) fun y hy=>h y (A9 _ hy)
  exact⟨f2,t::ts,by simp only[AO,e1,A0,e2,G0,rq],.cons r1 r2,h2⟩
variable {fs:List Dv}
theorem Og(hf:Fd f){ds:List Dv}(h0:0 < n)(h1:n<=1000)(hfs:fs.length<=100)(hds:ds.length<=100)(hd:∀x∈ds,∃a r,x=.tup [a,.int r]/\(r=1\/r=2)):∃ts tbs f',Fh f (.tup [.tup fs,.tup ds]) (.int n)=some (.tup [.int n,.tup ts,.tup tbs],f')/\ts.length=fs.length/\nP n ts/\Paired (Yb n) ds tbs/\Fd f':=by
  obtain⟨ts,f1,e1,l1,zy,zQ⟩:=Ie Kg (fun _ _ _=>rfl) h0 h1 hf fs;have er:BN [.int n]=some ((A5 (n:Int).toNat).map fun j=>.int (j:Nat)):=Fk (by omega) (by omega);have lr:((A5 (n:Int).toNat).map fun j=>Dv.int (j:Nat)).length=n:=by simp
  obtain⟨f2,tbs,e2,p2,hf2⟩:=Kx (Em (.int n)) Fd (Yb n) ds f1 [] zQ (by simp;omega) fun x hx f acc hf hl=>by
    obtain⟨a,r,rfl,hr⟩:=hd x hx;rcases hr with rfl | rfl
    · obtain⟨ys,f',e,l,hy,yU⟩:=Ie Kf (fun _ _ _=>rfl) h0 h1 hf ((A5 (n:Int).toNat).map fun j=>.int (j:Nat));refine⟨f',.tup ys,?_,⟨a,1,rfl,.inl rfl,.inl ⟨rfl,ys,rfl,by rw[l,lr],hy⟩⟩,yU⟩;unfold Em GY;simp only[Hc,A0,BS,decide_true,if_true,er,Dq];rw[AS (by omega),e];simp only[A0,AL,Ec (show acc.length<=1000000 by omega)]
    · obtain⟨ys,f',e,l,hy,yU⟩:=DZ (Gb (.int n)) Fd (Row n) ((A5 (n:Int).toNat).map fun j=>.int (j:Nat)) f hf fun x hx c hc=>by
        obtain⟨zs,f',e,l,hz,yU⟩:=Ie Ke (fun _ _ _=>rfl) h0 h1 hc ((A5 (n:Int).toNat).map fun j=>.int (j:Nat));refine⟨.tup zs,f',?_,⟨zs,rfl,by rw[l,lr],hz⟩,yU⟩;unfold Gb;simp only[A0,er];rw[AS (by omega),e];simp only[A0,AL]
      refine⟨f',.tup ys,?_,⟨a,2,rfl,.inr rfl,.inr ⟨rfl,ys,rfl,by rw[l,lr],hy⟩⟩,yU⟩;unfold Em GY;simp only[Hc,A0,BS,show decide ((2:Int)=1)=false by decide,D6,if_false,er,Dq];rw[AS (by omega),e];simp only[A0,AL,Ec (show acc.length<=1000000 by omega)]
  refine⟨ts,tbs,f2,?_,l1,zy,p2,hf2⟩;have i0:AB (.tup [.tup fs,.tup ds]) (.int 0)=some (.tup fs):=rfl;have i1:AB (.tup [.tup fs,.tup ds]) (.int 1)=some (.tup ds):=rfl;unfold Fh;simp only[i0,i1,A0,items];rw[AS (by omega),e1];simp only[A0,AL];rw[e2];rfl
theorem Gy{γ:Type}{P:Nat->γ->Prop}(g:Dv->γ->Option γ)(n:Nat)(c:γ)(h0:P 0 c)(h:∀i < n,∀c,P i c->∃c',g (.int (i:Nat)) c=some c'/\P (i+1) c'):∃c',AO g ((A5 n).map fun k=>.int (k:Nat)) c=some c'/\P n c':=by
 obtain⟨c',e,p⟩:=JN g P ((A5 n).map fun k=>.int (k:Nat)) 0 c h0 fun i x hx c hc=>by
  rw[C6] at hx;have hi:i < n:=by
   rcases uP i n with h | h
   ·exact h
   ·rw[M4 (by simp;omega)] at hx;cases hx
  rw[A4 (by simp;omega)] at hx;simp only[K2,T3,qb] at hx;subst hx;rw[uQ] at hc ⊢;exact h i hi c hc
 exact⟨c',e,by simpa using p⟩
theorem Ys(h:Tab n 1 x):Row n x:=h.elim (fun z=>z.2) fun z=>absurd z.1 (by decide)
theorem Yr(h:Tab n 2 x):∃xs,x=.tup xs/\xs.length=n/\∀y∈xs,Row n y:=h.elim (fun z=>absurd z.1 (by decide)) fun z=>z.2
theorem Qq{ys:List Dv}{i:Nat}{z:Dv}(h:i < ys.length):BA (.lst ys) (.int (i:Nat)) z=some (.lst (ys.set i z)):=by
 simp only[BA,RN];rw[if_pos (by omega),if_pos (by omega)];simp
theorem RH{r m:Nat}(hm:0 < m):DM (.int (r:Nat)) (.int (m:Nat))=some (.int ((r % m:Nat))):=by
 rw[Jm _ _ (by omega)];congr 1
theorem aT{x2 it c t9 t18 t19:Dv}(h9:AB c it=some t9)(h10:Jp t9 (.ty "tuple")=some (.bl false))(h18:DM t9 x2=some t18)(h19:BA c it t18=some t19):BU x2 it c=some t19:=by
 unfold BU IR;simp only[h9,h10,IH,h18,h19,A0,D6,if_false]
theorem aS{x2 it c t9 t15 t16:Dv}{t12 p14:List Dv}(h9:AB c it=some t9)(h10:Jp t9 (.ty "tuple")=some (.bl true))(h12:items t9=some t12)(hl:t12.length<=1000000)(h14:AZ (Fg x2) t12=some p14)(h15:AL (.lst p14)=some t15)(h16:BA c it t15=some t16):BU x2 it c=some t16:=by
 unfold BU IR;simp only[h9,h10,IH,h12,AS hl,h14,h15,h16,A0,if_true]
theorem iD{x2 it t6 t7 c20 t21 t22 u:Dv}{t8 c:List Dv}(h6:OY it=some t6)(h7:CY t6=some t7)(h8:BN [t7]=some t8)(h20:AO (BU x2) t8 t6=some c20)(h21:AL c20=some t21)(h22:AY (.lst c) [t21]=some (u,t22)):Cn x2 it (.lst c)=some t22:=by
 unfold Cn;simp only[h6,h7,h8,h20,Dq,h21,h22,A0]
theorem Nb{m:Nat}(hm:0 < m)(hmn:m<=n)(hn:n<=1000){xs:List Dv}(hl:xs.length=n)(Pk:Dv->Prop)(hx:∀y∈xs,Pk y)
    (step:∀(ys:List Dv) (i:Nat),i < ys.length->(∀y∈ys,Pk y)->∃z,BU (.int (m:Nat)) (.int (i:Nat)) (.lst ys)=some (.lst (ys.set i z))/\Pk z) :
    ∃ys,AO (BU (.int (m:Nat))) ((A5 n).map fun k=>.int (k:Nat)) (.lst xs)=some (.lst ys)/\ys.length=n/\∀y∈ys,Pk y:=by
  obtain⟨c,e,ys,rfl,h1,h2⟩:=Gy (P:=fun _ c=>∃ys,c=.lst ys/\ys.length=n/\∀y∈ys,Pk y) (BU (.int (m:Nat))) n (.lst xs) ⟨xs,rfl,hl,hx⟩ fun i hi c hc=>by
    obtain⟨ys,rfl,h1,h2⟩:=hc;obtain⟨z,e,hz⟩:=step ys i (by omega) h2;refine⟨_,e,ys.set i z,rfl,by rw[E1];exact h1,fun y hy=>?_⟩;rcases qe hy with hy | rfl
    · exact h2 y hy
    · exact hz
  exact⟨ys,e,h1,h2⟩
theorem Wr{m:Nat}(hm:0 < m)(hmn:m<=n)(hn:n<=1000){d t:Dv}(h:Yb n d t)(acc:List Dv)(zw:acc.length<=1000):∃u,Cn (.int (m:Nat)) t (.lst acc)=some (.lst (acc++[u]))/\Yb n d u:=by
  obtain⟨a,r,rfl,hr,ht⟩:=h;have fin:∀xs ys:List Dv,t=.tup xs->xs.length=n->AO (BU (.int (m:Nat))) ((A5 n).map fun k=>.int (k:Nat)) (.lst xs)=some (.lst ys)->Cn (.int (m:Nat)) t (.lst acc)=some (.lst (acc++[.tup ys])):=fun xs ys e hl h20=>by
    subst e;have h7:CY (.lst xs)=some (.int (n:Nat)):=by show some (Dv.int (xs.length:Nat))=_;rw[hl]
    exact iD (t6:=.lst xs) rfl h7 (FO n (by omega)) h20 rfl (Ec (by omega))
  rcases hr with rfl | rfl
  · obtain⟨xs,rfl,hl,hx⟩:=Ys ht;obtain⟨ys,e,h1,h2⟩:=Nb hm hmn hn hl (fun y=>∃r:Nat,y=.int r/\r < n) hx fun ys i hi hy=>by
      obtain⟨y,hy',ey⟩:=Rz (xs:=ys) (i:=i) (by omega) (by omega);obtain⟨r,rfl,hr⟩:=hy y hy';exact⟨_,aT ey rfl (RH hm) (Qq hi),_,rfl,C7 (tR _ hm) hmn⟩
    exact⟨.tup ys,fin xs ys rfl hl e,a,1,rfl,.inl rfl,.inl ⟨rfl,ys,rfl,h1,h2⟩⟩
  · obtain⟨xs,rfl,hl,hx⟩:=Yr ht;obtain⟨ys,e,h1,h2⟩:=Nb hm hmn hn hl (Row n) hx fun ys i hi hy=>by
      obtain⟨y,hy',ey⟩:=Rz (xs:=ys) (i:=i) (by omega) (by omega);obtain⟨zs,rfl,hzl,hz⟩:=hy y hy';obtain⟨us,eu,hul,hu⟩:=JE (Fg (.int (m:Nat))) (fun d=>∃r:Nat,d=.int r/\r < n) zs fun z hz'=>by
        obtain⟨r,rfl,hr⟩:=hz z hz';exact⟨_,by unfold Fg;rw[RH hm];rfl,_,rfl,C7 (tR _ hm) hmn⟩
      exact⟨_,aS ey rfl rfl (by omega) eu rfl (Qq hi),us,rfl,by omega,hu⟩
    exact⟨.tup ys,fin xs ys rfl hl e,a,2,rfl,.inr rfl,.inr ⟨rfl,ys,rfl,h1,h2⟩⟩
theorem Ky{n m:Nat}(hm:0 < m)(hmn:m<=n)(hn:n<=1000):∀{ds T:List Dv} (acc:List Dv),Paired (Yb n) ds T->acc.length+T.length<=1000->∃T',AO (Cn (.int (m:Nat))) T (.lst acc)=some (.lst (acc++T'))/\Paired (Yb n) ds T'
 | _,_,acc,.nil,_=>⟨[],by simp[AO],.nil⟩
 | _,_,acc,.cons (l₁:=ds) (l₂:=T) q r,hl=>by
  rw[D9] at hl;obtain⟨u,e1,hu⟩:=Wr hm hmn hn q acc (by omega);obtain⟨T',e2,hT⟩:=Ky hm hmn hn (acc++[u]) r (by rw[D0];simp;omega);exact⟨u::T',by simp only[AO,e1,A0,e2,G0,rq],.cons hu hT⟩
theorem RG{r:Nat}:Ax (.int 1) (.int (r:Nat))=some (.int ((1+r:Nat))):=by rw[GR];congr 1
theorem aR{x0 x1 t1 r f' t3 c23 t25 t26:Dv}{t5:List Dv}(h1:AB x1 (.int 0)=some t1)(h2:AR x0 t1=some (r,f'))(h3:Ax (.int 1) r=some t3)(h4:AB x1 (.int 2)=some (.tup t5))(h23:AO (Cn t3) t5 (.lst [])=some c23)(h25:AB x1 (.int 1)=some t25)(h26:AL c23=some t26):Gh x0 x1=some (.tup [t1,t25,t26],f'):=by
 unfold Gh;have h5:items (.tup t5)=some t5:=rfl;simp only[h1,h2,h3,h4,h5,h23,h25,h26,A0]
theorem TU(hf:Fd f){ts:Dv}{ds T:List Dv}(h0:0 < n)(hn:n<=1000)(hd:ds.length<=1000)(W:Paired (Yb n) ds T):∃T' f',Gh f (.tup [.int (n:Nat),ts,.tup T])=some (.tup [.int (n:Nat),ts,.tup T'],f')/\Paired (Yb n) ds T'/\Fd f':=by
 obtain⟨r,f',e,b,yU⟩:=GW hf h0 (C4 hn (by decide));obtain⟨T',e2,hT⟩:=Ky (m:=1+r) (by omega) (by omega) hn [] W (by have:=NI W;simp;omega);exact⟨T',f',aR (t25:=ts) rfl e RG rfl e2 rfl rfl,hT,yU⟩
noncomputable abbrev nI(xs:List Nat):List Dv:=xs.map fun k=>Dv.int (k:Nat)
inductive Tf where
 | u (f:Nat->Nat) | b (f:Nat->Nat->Nat)
noncomputable def Tf.ar:Tf->Nat
 | .u _=>1
 | .b _=>2
def Tf.ok(n:Nat):Tf->Prop
 | .u f=>∀i < n,f i < n
 | .b f=>∀i < n,∀j < n,f i j < n
def Ay(n:Nat)(f:Nat->Nat):Dv:=.tup (nI ((A5 n).map f))
def Tf.dv(n:Nat):Tf->Dv
 | .u f=>Ay n f
 | .b f=>.tup ((A5 n).map fun i=>Ay n (f i))
noncomputable def lW:Dv->Nat
 | .int i=>i.toNat
 | _=>0
noncomputable def jX:Dv->List Dv
 | .tup xs=>xs
 | _=>[]
theorem Hv{xs:List α}{f:Nat->α}(hl:xs.length=n)(h:∀i (hi:i < xs.length),f i=xs[i]):(A5 n).map f=xs:=by
 apply List.ext_getElem
 ·simp[hl]
 ·intro i h1 h2;rw[List.getElem_map,qb];exact h i h2
theorem PH(h:Row n x):x=Ay n (fun i=>lW ((jX x).getD i .we))/\∀i < n,lW ((jX x).getD i .we) < n:=by
 obtain⟨xs,rfl,hl,hx⟩:=h;have g:∀i (hi:i < xs.length),∃r:Nat,xs[i]=.int r/\r < n:=fun i hi=>hx _ (R6 hi)
 have e:∀i (hi:i < xs.length),(jX (.tup xs)).getD i .we=xs[i]:=fun i hi=>by
  show xs.getD i .we=_;rw[B7,A4 hi];rfl
 refine⟨?_,fun i hi=>?_⟩
 ·unfold Ay nI;rw[L1];congr 1;refine(Hv hl fun i hi=>?_).symm;obtain⟨r,er,_⟩:=g i hi;show Dv.int ((lW ((jX (.tup xs)).getD i .we):Nat):Int)=_;rw[e i hi,er];rfl
 ·obtain⟨r,er,hr⟩:=g i (hl▸hi);rw[e i (hl▸hi),er];exact hr
theorem dw{r:Int}(h:Tab n r x):∃g:Tf,x=g.dv n/\g.ok n/\r=(g.ar:Nat):=by
  rcases h with⟨rfl,h⟩ | ⟨rfl,xs,rfl,hl,hx⟩
  · obtain⟨e,k⟩:=PH h;exact⟨.u _,e,k,rfl⟩
  · have g:∀i (hi:i < xs.length),Row n (xs.getD i .we)/\xs.getD i .we=xs[i]:=fun i hi=>by
      rw[B7,A4 hi];exact⟨hx _ (R6 hi),rfl⟩
    refine⟨.b fun i j=>lW ((jX (xs.getD i .we)).getD j .we),?_,fun i hi=>(PH (g i (hl▸hi)).1).2,rfl⟩;show Dv.tup xs=.tup _;congr 1;refine(Hv hl fun i hi=>?_).symm;rw[<- (PH (g i hi).1).1];exact(g i hi).2
noncomputable abbrev Gs:=List (Dv×Tf)
def Ya(gs:Gs):List Dv:=gs.map fun p=>.tup [p.1,.int (p.2.ar:Nat)]
def Yq(n:Nat)(gs:Gs):List Dv:=gs.map fun p=>p.2.dv n
theorem RE{n:Nat}:∀{ds tbs:List Dv},Paired (Yb n) ds tbs->∃gs:Gs,ds=Ya gs/\tbs=Yq n gs/\∀p∈gs,p.2.ok n
 | _,_,.nil=>⟨[],rfl,rfl,fun _ z=>nomatch z⟩
 | _,_,.cons q r=>by
  obtain⟨gs,rfl,rfl,h⟩:=RE r;obtain⟨a,r,rfl,_,ht⟩:=q;obtain⟨g,rfl,hg,rfl⟩:=dw ht;exact⟨(a,g)::gs,rfl,rfl,fun p hp=>(C8.mp hp).elim (fun z=>z▸hg) (h p)⟩
theorem Uh{n:Nat}:∀{xs:List Dv},nP n xs->∃ts:List Nat,xs=nI ts/\∀t∈ts,t < n
 | [],_=>⟨[],rfl,fun _ z=>nomatch z⟩
 | x::xs,h=>by
  obtain⟨r,rfl,hr⟩:=h x B1;obtain⟨ts,rfl,ht⟩:=Uh (xs:=xs) fun y hy=>h y (A9 _ hy)
  exact⟨r::ts,rfl,fun t z=>(C8.mp z).elim (fun z=>z▸hr) (ht t)⟩
abbrev LX(fs:List Dv)(gs:Gs):Dv:=.tup [.tup fs,.tup (Ya gs)]
abbrev FZ(n:Nat)(ts:List Nat)(gs:Gs):Dv:=.tup [.int (n:Nat),.tup (nI ts),.tup (Yq n gs)]
theorem UY(n:Nat):∀gs:Gs,DO (Ya gs) (Yq n gs)=gs.map fun p=>.tup [.tup [p.1,.int (p.2.ar:Nat)],p.2.dv n]
 | []=>rfl
 | p::gs=>by
  show Dv.tup _::DO (Ya gs) (Yq n gs)=_;rw[UY n gs];rfl
theorem LP(n:Nat)(gs:Gs):IX [.tup (Ya gs),.tup (Yq n gs)]=some (gs.map fun p=>.tup [.tup [p.1,.int (p.2.ar:Nat)],p.2.dv n]):=by
 rw[<- UY];rfl
theorem YM{f:Nat->α}{i:Nat}(h:i < n):HK ((A5 n).map f) (i:Int)=some (f i):=by
 rw[GP _ i (by simpa using h)];simp
theorem Cg{i:Nat}{f:Nat->Nat}(h:i < n):AB (Ay n f) (.int (i:Nat))=some (.int (f i:Nat)):=by
 show HK (nI ((A5 n).map f)) (i:Int)=_;rw[nI,L1,YM h];rfl
theorem bT{i:Nat}{f:Nat->Nat->Nat}(h:i < n):AB ((Tf.b f).dv n) (.int (i:Nat))=some (Ay n (f i)):=YM h
theorem gF(l:List Nat):(nI l).length=l.length:=A8 _
theorem lF{p:Nat}(h:p < l.length):AB (.lst (nI l)) (.int (p:Nat))=some (.int (l.getD p 0:Nat)):=by
 show HK (nI l) (p:Int)=_;rw[GP _ p (by simpa using h)];simp[B7,A4 h]
theorem lE{p:Nat}(h:p < l.length):AB (.tup (nI l)) (.int (p:Nat))=some (.int (l.getD p 0:Nat)):=lF h
theorem IE{γ:Type}(t:γ->Option Bool)(g:γ->Option γ)(P:Nat->γ->Prop)(E:γ->Prop)(h:∀m c,P m c->(t c=some false/\E c)\/(t c=some true/\∃c' m',g c=some c'/\m' < m/\P m' c')):∀(n m:Nat) (c:γ),m < n->P m c->∃c',bp t g n c=some c'/\E c'
 | 0,m,c,hm,_=>by omega
 | n+1,m,c,hm,p=>by
  rcases h m c p with⟨e,q⟩ | ⟨e,c',m',e',lt,p'⟩
  ·exact⟨c,by simp only[bp,e,A0,D6,if_false],q⟩
  ·obtain⟨c2,e2,q⟩:=IE t g P E h n m' c' (by omega) p';exact⟨c2,by simp only[bp,e,A0,if_true,e',e2],q⟩
def SD(ps:List Nat):Prop:=∀w,ps.getD w 0<=w
noncomputable def rt(ps:List Nat)(w:Nat):Nat:=if h:ps.getD w 0 < w then rt ps (ps.getD w 0) else w
termination_by w
theorem Ic(ps:List Nat)(w:Nat):rt ps w=if ps.getD w 0 < w then rt ps (ps.getD w 0) else w:=by
 rw[rt];split<;>rfl
theorem Ce{ps:List Nat}(hp:SD ps):∀(n w:Nat),w < n->ps.getD (rt ps w) 0=rt ps w/\rt ps w<=w
 | 0,w,h=>by omega
 | n+1,w,h=>by
  rw[Ic]
  by_cases c:ps.getD w 0 < w
  ·rw[if_pos c];have:=Ce hp n (ps.getD w 0) (by omega);exact⟨this.1,by omega⟩
  ·rw[if_neg c];have:=hp w;exact⟨by omega,B4 _⟩
variable {ps:List Nat} {w:Nat}
theorem Gi(h:ps.getD w 0=w):rt ps w=w:=by rw[Ic,if_neg (by omega)]
theorem Hr(hp:SD ps)(w:Nat):rt ps (ps.getD w 0)=rt ps w:=by
 have:=hp w
 by_cases c:ps.getD w 0 < w
 ·rw[Ic ps w,if_pos c]
 ·rw[show ps.getD w 0=w by omega]
variable {u:Nat}
theorem EV{x:Nat}(h:u < ps.length):(ps.set u x).getD w 0=if w=u then x else ps.getD w 0:=by
 simp only[B7,uI]
 by_cases e:u=w
 ·subst e;simp[h]
 ·have e2:¬w=u:=fun z=>e z.symm
  simp[e,e2]
theorem Xb(hp:SD ps)(h:u < ps.length):SD (ps.set u (ps.getD (ps.getD u 0) 0)):=fun w=>by
 rw[EV h];split
 ·rename_i e;subst e;have a:=hp w;have b:=hp (ps.getD w 0);omega
 ·exact hp w
theorem MH{ps:List Nat}{u:Nat}(hp:SD ps)(h:u < ps.length):∀(n w:Nat),w < n->rt (ps.set u (ps.getD (ps.getD u 0) 0)) w=rt ps w
 | 0,w,hw=>by omega
 | n+1,w,hw=>by
  have a:=hp u;have b:=hp (ps.getD u 0);rw[Ic,EV h]
  by_cases e:w=u
  ·subst e;rw[if_pos rfl]
   by_cases c:ps.getD (ps.getD w 0) 0 < w
   ·rw[if_pos c,MH hp h n _ (by omega),Hr hp,Hr hp]
   ·rw[if_neg c,Gi (show ps.getD w 0=w by omega)]
  ·rw[if_neg e];rw[Ic ps w]
   by_cases c:ps.getD w 0 < w
   ·rw[if_pos c,if_pos c,MH hp h n _ (by omega)]
   ·rw[if_neg c,if_neg c]
structure JS (ps wk:List Nat):Prop where
 low:SD wk
 len:wk.length=ps.length
 rt:∀w,rt wk w=rt ps w
theorem JS.refl(h:SD ps):JS ps ps:=⟨h,rfl,fun _=>rfl⟩
theorem JS.trans{a b c:List Nat}(h:JS a b)(k:JS b c):JS a c:=⟨k.low,k.len.trans h.len,fun w=>(k.rt w).trans (h.rt w)⟩
def jb(ps:List Nat):Dv:=.obj "Joins" lj ["leads"] [.lst (nI ps)]
theorem gQ(ps:List Nat):Na (jb ps) "leads" = some (.lst (nI ps)):=rfl
theorem gR(ps:List Nat):FS (jb ps) "leads" = true:=rfl
theorem lN(ps qs:List Nat):FT (jb ps) "leads" (.lst (nI qs))=jb qs:=rfl
theorem gE(ps:List Nat)(u x:Nat):(nI ps).set u (.int (x:Nat))=nI (ps.set u x):=by simp[nI]
theorem VJ{x:Nat}(h:u < ps.length):BA (.lst (nI ps)) (.int (u:Nat)) (.int (x:Nat))=some (.lst (nI (ps.set u x))):=by
 have:RN (nI ps).length (u:Int)=some u:=by
  unfold RN;rw[if_pos (by omega),if_pos (by rw[gF];omega)];simp
 simp only[BA,this,A0,gE]
theorem Ci(hp:SD ps)(hu:u < ps.length)(hl:ps.length<=1000):∃wk,AX (jb ps) (.int (u:Nat))=some (.int (rt ps u:Nat),jb wk)/\JS ps wk:=by
 obtain⟨c,e,wk,rfl,j⟩:=IE Bm Co (fun m c=>∃wk,c=(jb wk,.int (m:Nat))/\JS ps wk/\m < ps.length/\rt ps m=rt ps u) (fun c=>∃wk,c=(jb wk,.int (rt ps u:Nat))/\JS ps wk) (fun m c ⟨wk,ec,j,hm,hr⟩=>by
  subst ec;have hm':m < wk.length:=by rw[j.len];exact hm
  have a:=j.low m;have t:Bm (jb wk,.int (m:Nat))=some (!decide (((wk.getD m 0:Nat):Int)=(m:Nat))):=by
   unfold Bm;simp only[gR,cond_true,gQ,A0,lF hm',MO]
  by_cases c:wk.getD m 0=m
  ·refine .inl ⟨by rw[t,c];simp,wk,?_,j⟩;rw[<- hr,<- j.rt,Gi c]
  ·refine .inr ⟨by rw[t,decide_eq_false (show ¬((wk.getD m 0:Nat):Int)=(m:Nat) by omega)];rfl,?_⟩;have h1:wk.getD m 0 < wk.length:=by omega
   have lo:=Xb j.low hm';refine⟨(jb (wk.set m (wk.getD (wk.getD m 0) 0)),.int (wk.getD (wk.getD m 0) 0:Nat)),wk.getD (wk.getD m 0) 0,?_,?_,_,rfl,?_,?_,?_⟩
   ·have h2:m < (wk.set m (wk.getD (wk.getD m 0) 0)).length:=by simpa using hm'
    unfold Co;simp only[gR,cond_true,gQ,A0,lF hm',lF h1,VJ hm',lN,lF h2,EV hm',if_true]
   ·have b:=j.low (wk.getD m 0);omega
   ·exact⟨lo,by rw[E1,j.len],fun w=>by rw[MH j.low hm' (w+1) w (by omega),j.rt]⟩
   ·have b:=j.low (wk.getD m 0);omega
   ·rw[<- hr,<- j.rt,<- j.rt,Hr j.low,Hr j.low]) 1000000 u (jb ps,.int (u:Nat)) (by omega) ⟨ps,rfl,JS.refl hp,hu,rfl⟩
 refine⟨wk,?_,j⟩;unfold AX;rw[e];rfl
theorem Fy(ps:List Nat):FP (jb ps) "Joins" "root_of" = true/\FP (jb ps) "Joins" "are_joined" = true/\FP (jb ps) "Joins" "make_joined" = true:=⟨rfl,rfl,rfl⟩
theorem NU(hp:SD ps){v:Nat}(hu:u < ps.length)(hv:v < ps.length)(hl:ps.length<=1000):∃wk,BC (jb ps) (.int (u:Nat)) (.int (v:Nat))=some (.bl (decide (rt ps u=rt ps v)),jb wk)/\JS ps wk:=by
 obtain⟨p1,e1,j1⟩:=Ci hp hu hl;obtain⟨p2,e2,j2⟩:=Ci j1.low (show v < p1.length by rw[j1.len];exact hv) (by rw[j1.len];exact hl);refine⟨p2,?_,j1.trans j2⟩;have d:decide (((rt ps u:Nat):Int)=((rt ps v:Nat):Int))=decide (rt ps u=rt ps v):=decide_eq_decide.mpr (by omega);unfold BC;simp only[(Fy ps).1,(Fy p1).1,cond_true,e1,e2,A0,BS,j1.rt,d]
theorem jh(a b:Nat):HM (.lst [.int (a:Nat),.int (b:Nat)])=some (.lst [.int ((min a b:Nat)),.int ((max a b:Nat))]):=by
 have e:Dz [(a:Int),(b:Int)]=[((min a b:Nat):Int),((max a b:Nat):Int)]:=by
  symm
  apply GA
  ·by_cases h:a<=b
   ·rw[l5 h,X0 h]
   ·rw[g9 (by omega),Y3 (by omega)];exact List.Perm.swap ..
  ·simp;omega
 have:HM (.lst [.int (a:Nat),.int (b:Nat)])=some (.lst ((Dz [(a:Int),(b:Int)]).map .int)):=rfl;rw[this,e];rfl
theorem Lr{ps:List Nat}{m M:Nat}(hp:SD ps)(hM:M < ps.length)(le:m<=M)(rm:ps.getD m 0=m)(rM:ps.getD M 0=M):∀(n w:Nat),w < n->rt (ps.set M m) w=if rt ps w=M then m else rt ps w
 | 0,w,hw=>by omega
 | n+1,w,hw=>by
  rw[Ic,EV hM]
  by_cases e:w=M
  ·subst e;rw[if_pos rfl,Gi rM,if_pos rfl]
   by_cases c:m < w
   ·rw[if_pos c,Lr hp hM le rm rM n m (by omega),Gi rm];rw[if_neg (by omega)]
   ·rw[if_neg c];omega
  ·rw[if_neg e,Ic ps w]
   by_cases c:ps.getD w 0 < w
   ·rw[if_pos c,if_pos c,Lr hp hM le rm rM n _ (by omega)]
   ·rw[if_neg c,if_neg c,if_neg e]
theorem Sv(hp:SD ps){v:Nat}(hu:u < ps.length)(hv:v < ps.length)(hl:ps.length<=1000):∃wk,AW (jb ps) (.int (u:Nat)) (.int (v:Nat))=some (.we,jb wk)/\SD wk/\wk.length=ps.length/\∀w,rt wk w=if rt ps w=max (rt ps u) (rt ps v) then min (rt ps u) (rt ps v) else rt ps w:=by
 obtain⟨p1,e1,j1⟩:=Ci hp hu hl;obtain⟨p2,e2,j2⟩:=Ci j1.low (show v < p1.length by rw[j1.len];exact hv) (by rw[j1.len];exact hl);have j:=j1.trans j2;have ru:=Ce j.low (u+1) u (by omega);have rv:=Ce j.low (v+1) v (by omega);rw[j.rt] at ru rv;rw[j1.rt] at e2;have hM:max (rt ps u) (rt ps v) < p2.length:=by rw[j.len];omega
 have rm:p2.getD (min (rt ps u) (rt ps v)) 0=min (rt ps u) (rt ps v):=by
  rcases n6 (rt ps u) (rt ps v) with h | h
  ·rw[l5 h];exact ru.1
  ·rw[g9 h];exact rv.1
 have rM:p2.getD (max (rt ps u) (rt ps v)) 0=max (rt ps u) (rt ps v):=by
  rcases n6 (rt ps u) (rt ps v) with h | h
  ·rw[X0 h];exact rv.1
  ·rw[Y3 h];exact ru.1
 refine⟨p2.set (max (rt ps u) (rt ps v)) (min (rt ps u) (rt ps v)),?_,fun w=>?_,by rw[E1,j.len],fun w=>?_⟩
 ·have i0:∀x y:Dv,AB (.lst [x,y]) (.int 0)=some x:=fun _ _=>rfl
  have i1:∀x y:Dv,AB (.lst [x,y]) (.int 1)=some y:=fun _ _=>rfl
  unfold AW;simp only[(Fy ps).1,(Fy p1).1,cond_true,e1,e2,A0,jh,i0,i1,gR,gQ,VJ hM,lN]
 ·rw[EV hM];split
  ·omega
  ·exact j.low w
 ·rw[Lr j.low hM (by omega) rm rM (w+1) w (by omega),j.rt]
def tN(l:List Nat):Dv:=.tup (nI l)
noncomputable def Tf.fns(n:Nat):Tf->List (Nat->Nat)
 | .u f=>[f]
 | .b f=>(A5 n).map f++(A5 n).map fun k j=>f j k
def Hz(n:Nat)(gs:Gs):List (Nat->Nat):=gs.flatMap fun p=>p.2.fns n
theorem iC{g:Tf}(h:g.ok n):∀f∈g.fns n,∀t < n,f t < n:=by
 cases g with
 | u f=>intro f' hf t ht;rw[D3.mp hf];exact h t ht
 | b f =>
  intro f' hf t ht;rcases E9.mp hf with z | z
  ·obtain⟨i,hi,rfl⟩:=H8.mp z;exact h i (C9.mp hi) t ht
  ·obtain⟨i,hi,rfl⟩:=H8.mp z;exact h t ht i (C9.mp hi)
variable {gs:Gs}
theorem Pz(h:∀p∈gs,p.2.ok n):∀f∈Hz n gs,∀t < n,f t < n:=fun f hf=>by
 obtain⟨p,hp,hf⟩:=i7.mp hf;exact iC (h p hp) f hf
theorem aQ(hn:n<=4)(g:Tf):(g.fns n).length<=8:=by
 cases g with
 | u f=>show 1<=8;decide
 | b f=>show((A5 n).map f++(A5 n).map fun k j=>f j k).length<=8;rw[D0,A8,A8,E2];omega
theorem Mn{ts:List Nat}(hn:n<=4)(zE:gs.length<=3):BV (LX fs gs) (FZ n ts gs)=some (.lst ((Hz n gs).map (Ay n))):=by
 have key:∀(gs:Gs) (acc:List Dv),acc.length+gs.length * 8<=1000->AO Ba (gs.map fun p=>.tup [.tup [p.1,.int (p.2.ar:Nat)],p.2.dv n]) (.lst acc)=some (.lst (acc++(Hz n gs).map (Ay n))):=fun gs=>by
  induction gs with
  | nil=>intro acc _;simp[AO,Hz]
  | cons p gs ih =>
   intro acc ha;rw[D9,uD] at ha;have hq:=aQ hn p.2;have e1:Ba (.tup [.tup [p.1,.int (p.2.ar:Nat)],p.2.dv n]) (.lst acc)=some (.lst (acc++(p.2.fns n).map (Ay n))):=by
    have i1:AB (.tup [p.1,.int (p.2.ar:Nat)]) (.int 1)=some (.int (p.2.ar:Nat)):=rfl;unfold Ba Dy;simp only[Hc,Dq,i1,A0,BS];cases hp:p.2 with
    | u f =>
     rw[if_pos (show decide (((Tf.u f).ar:Int)=1)=true from rfl),Ec (by omega)];rfl
    | b f =>
     rw[if_neg (show ¬decide (((Tf.b f).ar:Int)=1)=true from B9)];have a1:Bd (.lst acc) [(Tf.b f).dv n]=some (.we,.lst (acc++(A5 n).map fun i=>Ay n (f i))):=by
      show Bd (.lst acc) [.tup ((A5 n).map fun i=>Ay n (f i))]=_;have:acc.length+((A5 n).map fun i=>Ay n (f i)).length<=1000000:=by rw[A8,E2];omega
      simp only[Bd,if_pos this]
     have a2:CY ((Tf.b f).dv n)=some (.int (n:Nat)):=by
      show some (Dv.int (((A5 n).map fun i=>Ay n (f i)).length:Nat))=_;rw[A8,E2]
     have m:AZ (BB ((Tf.b f).dv n)) ((A5 n).map fun k=>.int (k:Nat))=some ((A5 n).map fun k=>Ay n fun j=>f j k):=by
      have g:∀k < n,BB ((Tf.b f).dv n) (.int (k:Nat))=some (Ay n fun j=>f j k):=fun k hk=>by
       have m2:AZ (Ai (.int (k:Nat))) ((A5 n).map fun i=>Ay n (f i))=some ((A5 n).map fun j=>.int (f j k:Nat)):=by
        have:∀l:List Nat,AZ (Ai (.int (k:Nat))) (l.map fun i=>Ay n (f i))=some (l.map fun j=>.int (f j k:Nat)):=fun l=>by
         induction l with
         | nil=>rfl
         | cons a l ih =>
          have:Ai (.int (k:Nat)) (Ay n (f a))=some (.int (f a k:Nat)):=by unfold Ai;rw[Cg hk];rfl
          rw[C5,AZ,this,A0,ih];rfl
        exact this _
       unfold BB;show Cz ((A5 n).map fun i=>Ay n (f i)) (E8 (AZ (Ai (.int (k:Nat))) ((A5 n).map fun i=>Ay n (f i))) _)=_;rw[AS (by rw[A8,E2];omega),m2,A0];unfold Ay nI;rw[L1];rfl
      have:∀l:List Nat,(∀k∈l,k < n)->AZ (BB ((Tf.b f).dv n)) (l.map fun k=>.int (k:Nat))=some (l.map fun k=>Ay n fun j=>f j k):=fun l=>by
       induction l with
       | nil=>intro _;rfl
       | cons a l ih =>
        intro h;rw[C5,AZ,g a (h a B1),A0,ih fun k hk=>h k (A9 _ hk)];rfl
      exact this _ fun k hk=>C9.mp hk
     rw[a1,A0,Dq,a2,A0,FO n (by omega),A0,AS (by rw[A8,E2];omega),m,A0,Wt (by simp only[D0,A8,E2];omega)];show some (Dv.lst _)=_;rw[G0];show _=some (Dv.lst (acc++((A5 n).map f++(A5 n).map fun k j=>f j k).map (Ay n)));rw[N0,L1,L1];rfl
   rw[C5,AO,e1,A0,ih _ (by rw[D0,A8];omega),G0,<- N0];rfl
 unfold BV;have i1:AB (LX fs gs) (.int 1)=some (.tup (Ya gs)):=rfl;have i2:AB (FZ n ts gs) (.int 2)=some (.tup (Yq n gs)):=rfl;simp only[i1,i2,A0,LP];rw[key gs [] (by simp;omega)];rfl
def Ok(n:Nat)(F:List (Nat->Nat))(L:Nat->Nat):Prop:=∀f∈F,∀w x,w < n->x < n->L w=L x->L (f w)=L (f x)
structure JI (n:Nat) (F:List (Nat->Nat)) (prs:List (Nat×Nat)) (ps:List Nat):Prop where
 low:SD ps
 len:ps.length=n
 lst:∀L:Nat->Nat,(∀p∈prs,L p.1=L p.2)->Ok n F L->∀w < n,L (rt ps w)=L w
def Hd(n:Nat)(ps:List Nat):Nat:=((A5 n).map (rt ps)).sum
structure JL (ps wk:List Nat):Prop where
 eq:∀w x,rt ps w=rt ps x->rt wk w=rt wk x
 le:∀w,rt wk w<=rt ps w
theorem JL.refl(ps:List Nat):JL ps ps:=⟨fun _ _ h=>h,fun _=>B4 _⟩
theorem JL.trans{a b c:List Nat}(h:JL a b)(k:JL b c):JL a c:=⟨fun w x e=>k.eq w x (h.eq w x e),fun w=>C4 (k.le w) (h.le w)⟩
theorem LQ{f g:Nat->Nat}:∀l:List Nat,(∀x∈l,g x<=f x)->(l.map g).sum<=(l.map f).sum
 | [],_=>B4 _
 | a::l,h=>by
  simp only[C5,so];have:=LQ l fun x hx=>h x (A9 _ hx)
  have:=h a B1;omega
theorem Ur{f g:Nat->Nat}{w:Nat}(lt:g w < f w):∀l:List Nat,(∀x∈l,g x<=f x)->w∈l->(l.map g).sum < (l.map f).sum
 | a::l,h,hw=>by
  simp only[C5,so];have h1:=LQ l fun x hx=>h x (A9 _ hx)
  have h2:=h a B1;rcases C8.mp hw with z | z
  ·subst z;omega
  ·have:=Ur lt l (fun x hx=>h x (A9 _ hx)) z;omega
section
variable {n:Nat} {F:List (Nat->Nat)} {prs:List (Nat×Nat)} {ps wk:List Nat}
theorem JI.zU(h:JI n F prs ps)(hw:w < n):rt ps w < n:=S1 (Ce h.low (w+1) w (M1 _)).2 hw
theorem JI.rt2(h:JI n F prs ps)(w:Nat):rt ps (rt ps w)=rt ps w:=Gi (Ce h.low (w+1) w (M1 _)).1
theorem JI.js(h:JI n F prs ps)(j:JS ps wk):JI n F prs wk:=⟨j.low,by rw[j.len,h.len],fun L a b w hw=>by rw[j.rt];exact h.lst L a b w hw⟩
theorem JL.js(j:JS ps wk):JL ps wk:=⟨fun w x e=>by rw[j.rt,j.rt];exact e,fun w=>by rw[j.rt];exact B4 _⟩
theorem Qt(j:JS ps wk):Hd n wk=Hd n ps:=by unfold Hd;congr 1;exact l8 fun w _=>j.rt w
theorem Qs(h:JL ps wk):Hd n wk<=Hd n ps:=LQ _ fun x _=>h.le x
theorem Ku(h:JI n F prs ps)(hl:n<=1000){v:Nat}(hu:u < n)(hv:v < n)(huv:∀L:Nat->Nat,(∀p∈prs,L p.1=L p.2)->Ok n F L->L u=L v):∃wk,AW (jb ps) (.int (u:Nat)) (.int (v:Nat))=some (.we,jb wk)/\JI n F prs wk/\JL ps wk/\rt wk u=rt wk v/\(rt ps u≠rt ps v->Hd n wk < Hd n ps):=by
 obtain⟨wk,e,lo,len,r⟩:=Sv h.low (u:=u) (v:=v) (by rw[h.len];exact hu) (by rw[h.len];exact hv) (by rw[h.len];exact hl);have le:∀w,rt wk w<=rt ps w:=fun w=>by rw[r];split<;>omega
 refine⟨wk,e,⟨lo,by rw[len,h.len],fun L a b w hw=>?_⟩,⟨fun w x q=>by rw[r,r,q],le⟩,?_,fun ne=>?_⟩
 ·have e1:=huv L a b;rw[<- h.lst L a b u hu,<- h.lst L a b v hv] at e1;rw[r,<- h.lst L a b w hw];split
  ·rename_i q;rw[q];rcases n6 (rt ps u) (rt ps v) with z | z
   ·rw[l5 z,X0 z];exact e1
   ·rw[g9 z,Y3 z];exact e1.symm
  ·rfl
 ·rw[r,r];rcases n6 (rt ps u) (rt ps v) with z | z
  ·rw[l5 z,X0 z,if_pos rfl];split<;>rfl
  ·rw[g9 z,Y3 z,if_pos rfl];split<;>rfl
 ·have hM:max (rt ps u) (rt ps v) < n:=by have:=h.zU hu;have:=h.zU hv;omega
  have fM:rt ps (max (rt ps u) (rt ps v))=max (rt ps u) (rt ps v):=by
   rcases n6 (rt ps u) (rt ps v) with z | z
   ·rw[X0 z];exact h.rt2 v
   ·rw[Y3 z];exact h.rt2 u
  exact Ur (w:=max (rt ps u) (rt ps v)) (by rw[r,fM,if_pos rfl];omega) _ (fun x _=>le x) (C9.mpr hM)
end
def Gd(ps:List Nat)(f:Nat->Nat)(t:Nat):Prop:=rt ps (f t)=rt ps (f (rt ps t))
structure JQ (n:Nat) (F:List (Nat->Nat)) (prs:List (Nat×Nat)) (ps0:List Nat) (D:Prop) (ps:List Nat) (b:Bool):Prop where
 ji:JI n F prs ps
 jl:JL ps0 ps
 no:b=false->(∀w,rt ps w=rt ps0 w)/\D
 yes:b=true->Hd n ps < Hd n ps0
section
variable {n:Nat} {F:List (Nat->Nat)} {prs:List (Nat×Nat)} {ps ps0:List Nat}
theorem WT(hl:n<=1000){f:Nat->Nat}(hf:f∈F)(hF:∀t < n,f t < n){D:Prop}{b:Bool}(h:JQ n F prs ps0 D ps b){t:Nat}(ht:t < n):∃wk b',Cp (Ay n f) (.tup [.int (t:Nat),.int (f t:Nat)]) (jb ps,.bl b)=some (jb wk,.bl b')/\JQ n F prs ps0 (D/\Gd ps0 f t) wk b':=by
 have hi:=h.ji;have hlen:∀{w},w < n->w < ps.length:=fun hw=>by rw[hi.len];exact hw
 obtain⟨p1,e1,j1⟩:=Ci hi.low (hlen ht) (by rw[hi.len];exact hl);have h1:=hi.js j1;have hr:=hi.zU ht;have a1:=Cg (n:=n) (f:=f) hr;obtain⟨p2,e2,j2⟩:=NU h1.low (u:=f t) (v:=f (rt ps t)) (by rw[h1.len];exact hF t ht) (by rw[h1.len];exact hF _ hr) (by rw[h1.len];exact hl);have j:=j1.trans j2;have h2:=h1.js j2;rw[j1.rt,j1.rt] at e2;have ob1:=(Fy ps).1;have ob2:=(Fy p1).2.1;have ob3:=(Fy p2).2.2
 by_cases c:rt ps (f t)=rt ps (f (rt ps t))
 ·refine⟨p2,b,?_,h2,h.jl.trans (JL.js j),fun q=>?_,fun q=>?_⟩
  ·unfold Cp FN;simp only[Hc,ob1,ob2,cond_true,e1,A0,a1,e2,IH,decide_eq_true c,T5,D6,if_false]
  ·obtain⟨k1,k2⟩:=h.no q;refine⟨fun w=>by rw[j.rt];exact k1 w,k2,?_⟩;unfold Gd;rw[<- k1,<- k1,<- k1 t];exact c
  ·rw[Qt j];exact h.yes q
 ·obtain⟨p3,e3,h3,l3,_,s3⟩:=Ku h2 hl (hF t ht) (hF _ hr) fun L a ok=>ok f hf t (rt ps t) ht hr (hi.lst L a ok t ht).symm
  refine⟨p3,true,?_,h3,(h.jl.trans (JL.js j)).trans l3,(fun q=>by cases q),fun _=>?_⟩
  ·unfold Cp FN;simp only[Hc,ob1,ob2,ob3,cond_true,e1,A0,a1,e2,IH,decide_eq_false c,vG,if_true,e3]
  ·have s:=s3 (by rw[j.rt,j.rt];exact c);rw[Qt j] at s;exact C7 s (Qs h.jl)
theorem GE(n:Nat)(f:Nat->Nat):HW [Ay n f]=some ((A5 n).map fun t=>.tup [.int (t:Nat),.int (f t:Nat)]):=by
 have:∀(l:List Nat) (k:Nat),(∀(i:Nat) (h:i < l.length),l[i]=k+i)->CQ k (nI (l.map f))=l.map fun t=>.tup [.int (t:Nat),.int (f t:Nat)]:=fun l=>by
  induction l with
  | nil=>intro _ _;rfl
  | cons a l ih =>
   intro k h;have h0:a=k:=h 0 (uu _);subst h0;show Dv.tup _::CQ (a+1) (nI (l.map f))=_;rw[ih (a+1) fun i hi=>by have z:l[i]=a+(i+1):=h (i+1) (um hi);omega];rfl
 show some (CQ 0 (nI ((A5 n).map f)))=_;rw[this (A5 n) 0 fun i h=>by simp]
theorem aK(hl:n<=1000){f:Nat->Nat}(hf:f∈F)(hF:∀t < n,f t < n){D:Prop}{b:Bool}(h:JQ n F prs ps0 D ps b):∃wk b',Dk (Ay n f) (jb ps,.bl b)=some (jb wk,.bl b')/\JQ n F prs ps0 (D/\∀t < n,Gd ps0 f t) wk b':=by
 have key:∀(l:List Nat),(∀t∈l,t < n)->∀{D:Prop} {b:Bool} {ps:List Nat},JQ n F prs ps0 D ps b->∃wk b',AO (Cp (Ay n f)) (l.map fun t=>.tup [.int (t:Nat),.int (f t:Nat)]) (jb ps,.bl b)=some (jb wk,.bl b')/\JQ n F prs ps0 (D/\∀t∈l,Gd ps0 f t) wk b':=fun l=>by
  induction l with
  | nil=>intro _ D b ps h;exact⟨ps,b,rfl,h.ji,h.jl,fun q=>⟨(h.no q).1,(h.no q).2,fun _ z=>nomatch z⟩,h.yes⟩
  | cons a l ih =>
   intro xr D b ps h;obtain⟨p1,b1,e1,q1⟩:=WT hl hf hF h (xr a B1);obtain⟨p2,b2,e2,q2⟩:=ih (fun t ht=>xr t (A9 _ ht)) q1;refine⟨p2,b2,by rw[C5,AO,e1];exact e2,q2.ji,q2.jl,fun q=>?_,q2.yes⟩;obtain⟨k1,⟨k2,k3⟩,k4⟩:=q2.no q;exact⟨k1,k2,fun t ht=>(C8.mp ht).elim (fun z=>z▸k3) (k4 t)⟩
 obtain⟨p1,b1,e1,q1⟩:=key (A5 n) (fun t ht=>C9.mp ht) h;refine⟨p1,b1,?_,q1.ji,q1.jl,fun q=>⟨(q1.no q).1,(q1.no q).2.1,fun t ht=>(q1.no q).2.2 t (C9.mpr ht)⟩,q1.yes⟩;unfold Dk;rw[GE,A0,e1];rfl
theorem Fw(hl:n<=1000)(hF:∀f∈F,∀t < n,f t < n)(h:JI n F prs ps):∃wk b,DT (.lst (F.map (Ay n))) (jb ps)=some (.bl b,jb wk)/\JQ n F prs ps (∀f∈F,∀t < n,Gd ps f t) wk b:=by
 have key:∀(l:List (Nat->Nat)),(∀f∈l,f∈F)->∀{D:Prop} {b:Bool} {q:List Nat},JQ n F prs ps D q b->∃wk b',AO Dk (l.map (Ay n)) (jb q,.bl b)=some (jb wk,.bl b')/\JQ n F prs ps (D/\∀f∈l,∀t < n,Gd ps f t) wk b':=fun l=>by
  induction l with
  | nil=>intro _ D b q h;exact⟨q,b,rfl,h.ji,h.jl,fun q=>⟨(h.no q).1,(h.no q).2,fun _ z=>nomatch z⟩,h.yes⟩
  | cons f l ih =>
   intro xr D b q h;obtain⟨p1,b1,e1,q1⟩:=aK hl (xr f B1) (hF f (xr f B1)) h;obtain⟨p2,b2,e2,q2⟩:=ih (fun t ht=>xr t (A9 _ ht)) q1;refine⟨p2,b2,by rw[C5,AO,e1];exact e2,q2.ji,q2.jl,fun q=>?_,q2.yes⟩;obtain⟨k1,⟨k2,k3⟩,k4⟩:=q2.no q;exact⟨k1,k2,fun t ht=>(C8.mp ht).elim (fun z=>z▸k3) (k4 t)⟩
 obtain⟨p1,b1,e1,q1⟩:=key F (fun _ h=>h) (D:=True) (b:=false) ⟨h,JL.refl _,fun _=>⟨fun _=>rfl,trivial⟩,fun q=>by cases q⟩;refine⟨p1,b1,?_,q1.ji,q1.jl,fun q=>⟨(q1.no q).1,(q1.no q).2.2⟩,q1.yes⟩;unfold DT;show(E8 (some (F.map (Ay n))) _)=_;rw[A0,e1];rfl
def Cl(n:Nat)(F:List (Nat->Nat))(ps:List Nat):Prop:=∀f∈F,∀t < n,Gd ps f t
noncomputable def pD(p:Nat×Nat):Dv:=.tup [.int (p.1:Nat),.int (p.2:Nat)]
theorem lM(h:n<=1000):Cs (.obj "Joins" lj [] []) (.int (n:Nat))=some (.we,jb (A5 n)):=by
 have f:JO (.obj "Joins" lj [] []) "leads" (.lst (nI (A5 n)))=some (jb (A5 n)):=rfl
 have r:Dd [.int (n:Nat)]=some (.lst (nI (A5 n))):=by
  have:_root_.R.small (n:Int)=true/\(n:Int)<=1000000:=⟨by unfold _root_.R.small;simp;omega,by omega⟩;simp only[Dd,if_pos this];rfl
 unfold Cs;simp only[r,A0,f]
theorem eW(h:w < n):rt (A5 n) w=w:=Gi (by simp[vq,h])
theorem ZM(n:Nat):SD (A5 n):=fun w=>by
 by_cases h:w < n
 ·simp[vq,h]
 ·simp[vq,h]
theorem Iw(hl:n<=1000):∀(l:List (Nat×Nat)) (ps:List Nat),(∀p∈l,p∈prs/\p.1 < n/\p.2 < n)->JI n F prs ps->∃wk,AO Bo (l.map pD) (jb ps)=some (jb wk)/\JI n F prs wk/\JL ps wk/\∀p∈l,rt wk p.1=rt wk p.2
 | [],ps,_,h=>⟨ps,rfl,h,JL.refl _,fun _ z=>nomatch z⟩
 | p::l,ps,hp,h=>by
  obtain⟨m1,m2,m3⟩:=hp p B1;obtain⟨p1,e1,h1,l1,r1,_⟩:=Ku h hl m2 m3 fun L a _=>a p m1
  obtain⟨p2,e2,h2,l2,r2⟩:=Iw hl l p1 (fun q hq=>hp q (A9 _ hq)) h1;refine⟨p2,?_,h2,l1.trans l2,fun q hq=>(C8.mp hq).elim (fun z=>z▸l2.eq _ _ r1) (r2 q)⟩;have:Bo (pD p) (jb ps)=some (jb p1):=by
   unfold Bo pD;simp only[Hc,(Fy ps).2.2,cond_true,e1,A0]
  rw[C5,AO,this];exact e2
theorem Ig(hl:n<=1000)(h:JI n F prs ps):∀(l:List Nat) (q:List Nat),(∀w∈l,w < n)->JS ps q->∃q',CU Au (nI l) (jb q)=some (nI (l.map (rt ps)),jb q')
 | [],q,_,_=>⟨q,rfl⟩
 | w::l,q,hw,j=>by
  have hq:=h.js j;obtain⟨q1,e1,j1⟩:=Ci hq.low (u:=w) (by rw[hq.len];exact hw w B1) (by rw[hq.len];exact hl);obtain⟨q2,e2⟩:=Ig hl h l q1 (fun x hx=>hw x (A9 _ hx)) (j.trans j1);have:Au (.int (w:Nat)) (jb q)=some (.int (rt ps w:Nat),jb q1):=by
   unfold Au;simp only[(Fy q).1,cond_true,e1,A0,j.rt]
  refine⟨q2,?_⟩;show(Au (.int (w:Nat)) (jb q)).bind _=_;rw[this,A0];show(CU Au (nI l) (jb q1)).bind _=_;rw[e2];rfl
theorem JF{ts:List Nat}(hn:n<=4)(hg:∀p∈gs,p.2.ok n)(zE:gs.length<=3){d:Dv}(hp:∀p∈prs,p.1 < n/\p.2 < n)(hd:items d=some (prs.map pD)):∃ps,BM (LX fs gs) (FZ n ts gs) d=some (tN ((A5 n).map (rt ps)))/\JI n (Hz n gs) prs ps/\(∀p∈prs,rt ps p.1=rt ps p.2)/\Cl n (Hz n gs) ps:=by
 have hl:n<=1000:=by omega
 have hF:=Pz hg;have i0:AB (FZ n ts gs) (.int 0)=some (.int (n:Nat)):=rfl;obtain⟨p1,e1,h1,_,r1⟩:=Iw (F:=Hz n gs) (prs:=prs) hl prs (A5 n) (fun p h=>⟨h,hp p h⟩) ⟨ZM n,E2,fun L _ _ w hw=>by rw[eW hw]⟩;obtain⟨p2,b2,e2,q2⟩:=Fw hl hF h1;have r2:∀p∈prs,rt p2 p.1=rt p2 p.2:=fun p h=>q2.jl.eq _ _ (r1 p h)
 have cl:∀{a b:List Nat},(∀w,rt b w=rt a w)->Cl n (Hz n gs) a->Cl n (Hz n gs) b:=fun{a b} e h f hf t ht=>by
  have:=h f hf t ht;unfold Gd at this ⊢;rw[e,e,e t];exact this
 have c2:b2=false->Cl n (Hz n gs) p2:=fun z=>cl (q2.no z).1 (q2.no z).2
 obtain⟨c,e3,p3,z,h3,r3,c3⟩:=IE ED (Cm (.lst ((Hz n gs).map (Ay n)))) (fun m c=>∃ps b,c=(jb ps,Dv.bl b)/\JI n (Hz n gs) prs ps/\(∀p∈prs,rt ps p.1=rt ps p.2)/\(b=false->Cl n (Hz n gs) ps)/\m=2 * Hd n ps+if b=true then 1 else 0)
  (fun c=>∃ps,c=(jb ps,Dv.bl false)/\JI n (Hz n gs) prs ps/\(∀p∈prs,rt ps p.1=rt ps p.2)/\Cl n (Hz n gs) ps) (fun m c ⟨ps,b,ec,hi,hr,hc,hm⟩=>by
   subst ec;cases b with
   | false=>exact .inl ⟨rfl,ps,rfl,hi,hr,hc rfl⟩
   | true =>
    obtain⟨p',b',e',q'⟩:=Fw hl hF hi;refine .inr ⟨rfl,(jb p',.bl b'),2 * Hd n p'+(if b'=true then 1 else 0),?_,?_,p',b',rfl,q'.ji,fun p h=>q'.jl.eq _ _ (hr p h),fun z=>cl (q'.no z).1 (q'.no z).2,rfl⟩
    ·unfold Cm;rw[e'];rfl
    ·rw[hm,if_pos rfl];cases b' with
     | false=>have:=Qs (n:=n) q'.jl;rw[if_neg (by decide)];omega
     | true=>have:=q'.yes rfl;rw[if_pos rfl];omega) 1000000 _ (jb p2,.bl b2) (by
    have:Hd n p2<=((A5 n).map fun _=>n).sum:=LQ _ fun x hx=>Q8 (q2.ji.zU (C9.mp hx))
    rw[List.map_const',List.sum_replicate_nat,E2] at this;have m:n * n<=4 * 4:=Nat.mul_le_mul hn hn;split<;>omega) ⟨p2,b2,rfl,q2.ji,r2,c2,rfl⟩
 subst z;obtain⟨q',e4⟩:=Ig hl h3 (A5 n) p3 (fun w hw=>C9.mp hw) (JS.refl h3.low);refine⟨p3,?_,h3,r3,c3⟩;unfold BM;simp only[i0,A0,lM hl,lK,hd,e1,Mn hn zE,e2,e3,FO n (by omega)];rw[AS (by rw[A8,E2];omega),e4];rfl
end
theorem GJ:∀l:List Nat,Ap (nI l)=true
 | []=>rfl
 | _::l=>by
  show(true && Ap (nI l))=true;rw[GJ l];rfl
theorem IB:∀l:List Nat,Bv (nI l)=0
 | []=>rfl
 | _::l=>by
  show max 0 (Bv (nI l))=0;rw[IB l];rfl
theorem cz:∀a b:List Nat,_root_.R.yB (nI a) (nI b)=decide (a=b)
 | [],[]=>rfl
 | [],_::_=>rfl
 | _::_,[]=>rfl
 | x::a,y::b=>by
  show(_root_.R.xc (.int (x:Nat)) (.int (y:Nat)) && _root_.R.yB (nI a) (nI b))=_;rw[cz a b,_root_.R.xc]
  by_cases c:x=y
  ·subst c;simp
  ·have c2:¬(x:Int)=(y:Int):=fun z=>c (j4 z)
   simp[c,c2]
theorem mE(neg:Bool)(a b:List Nat):MP neg (tN a) (tN b)=some (if neg=true then !decide (a=b) else decide (a=b)):=by
 unfold MP;rw[if_pos ?_]
 ·show some (if neg=true then !_root_.R.yB (nI a) (nI b) else _root_.R.yB (nI a) (nI b))=_;rw[cz]
 ·show(Ap (nI a) && Ap (nI b) && decide (Bv (nI a)+1<=150))=true;rw[GJ,GJ,IB];rfl
theorem Cv{α:Type}{g:Dv->Option (Option Dv)}{f h:α->Dv}{p:α->Bool}:∀l:List α,(∀x∈l,g (f x)=some (if p x=true then some (h x) else none))->DV g (l.map f)=some ((l.filter p).map h)
 | [],_=>rfl
 | a::l,e=>by
  rw[C5,DV,e a B1,A0,Cv l fun x hx=>e x (A9 _ hx),A0,uv];cases p a<;>rfl
theorem BX{α:Type}{g:Dv->Option Dv}{f h:α->Dv}:∀l:List α,(∀x∈l,g (f x)=some (h x))->AZ g (l.map f)=some (l.map h)
 | [],_=>rfl
 | a::l,e=>by rw[C5,AZ,e a B1,A0,BX l fun x hx=>e x (A9 _ hx)];rfl
noncomputable def JU(k:Nat)(r:List Nat):List (List Nat):=((A5 k).filter (fun j=>r.getD j 0 == j)++[k]).map fun x=>r++[x]
def Bh:Nat->List (List Nat)
 | 0=>[[]]
 | k+1=>(Bh k).flatMap (JU k)
structure Pt (n:Nat) (r:List Nat):Prop where
 len:r.length=n
 le:∀w < n,r.getD w 0<=w
 fx:∀w < n,r.getD (r.getD w 0) 0=r.getD w 0
variable {r:List Nat}
theorem Pt.lt(h:Pt n r)(hw:w < n):r.getD w 0 < n:=S1 (h.le w hw) hw
theorem CO(hn:n<=4):(∀r∈Bh n,Pt n r)/\(Bh n).length<=15:=by
 have key:∀n,n=0\/n=1\/n=2\/n=3\/n=4->(∀r∈Bh n,r.length=n/\∀w < n,r.getD w 0<=w/\r.getD (r.getD w 0) 0=r.getD w 0)/\(Bh n).length<=15:=by
  rintro n (rfl | rfl | rfl | rfl | rfl)<;>decide
 obtain⟨h1,h2⟩:=key n (by omega);exact⟨fun r hr=>⟨(h1 r hr).1,fun w hw=>((h1 r hr).2 w hw).1,fun w hw=>((h1 r hr).2 w hw).2⟩,h2⟩
theorem Kj{g:Nat->Nat}(h1:∀w,g w<=w)(h2:∀w,g (g w)=g w):∀k,(A5 k).map g∈Bh k
 | 0=>D3.mpr rfl
 | k+1=>by
  refine i7.mpr ⟨(A5 k).map g,Kj h1 h2 k,H8.mpr ⟨g k,?_,by rw[vF,N0];rfl⟩⟩;rw[E9];have:=h1 k
  by_cases c:g k=k
  ·exact .inr (D3.mpr c)
  ·have lt:g k < k:=by omega
   refine .inl (G4.mpr ⟨C9.mpr lt,?_⟩);rw[B7,C6,L0 lt];show(g (g k) == g k)=true;rw[h2];exact beq_self_eq_true _
theorem PF(r:List Nat):tN r=Ay r.length fun i=>r.getD i 0:=by
 unfold tN Ay;rw[Hv (xs:=r) (f:=fun i=>r.getD i 0) rfl fun i hi=>by rw[B7,A4 hi];rfl]
theorem Ra{k:Nat}(hl:r.length<=100)(x:Nat):Ax (tN r) (.tup [.int (x:Nat)])=some (tN (r++[x])):=by
 show Ax (.tup (nI r)) (.tup [.int (x:Nat)])=some (.tup (nI (r++[x])));simp only[Ax,if_pos (show(nI r).length+[Dv.int (x:Nat)].length<=1000000 by simp only[A8,E4];omega),nI,N0];rfl
theorem Ry(hl:l.length<=100)(k:Nat):Ax (.lst (nI l)) (.lst [.int (k:Nat)])=some (.lst (nI (l++[k]))):=by
 simp only[Ax,if_pos (show(nI l).length+[Dv.int (k:Nat)].length<=1000000 by simp only[A8,E4];omega),nI,N0];rfl
theorem JT(k:Nat)(r:List Nat):(JU k r).length<=k+1:=by
 unfold JU;rw[A8,D0,E4];have:=O9 (fun j=>r.getD j 0 == j) (A5 k);rw[E2] at this;omega
section
variable {k:Nat} (hk:k<=4)
include hk
theorem RF(r:List Nat):((A5 k).filter fun j=>r.getD j 0 == j).length<=4:=by
 have:=O9 (fun j=>r.getD j 0 == j) (A5 k);rw[E2] at this;omega
theorem FX(g:Dv->Dv->Option Dv)(hg:∀r:List Nat,r.length=k->∀acc:List (List Nat),acc.length<=100->g (tN r) (.lst (acc.map tN))=some (.lst ((acc++JU k r).map tN))):∀(l acc:List (List Nat)),(∀r∈l,r.length=k)->acc.length+l.length * 5<=100->AO g (l.map tN) (.lst (acc.map tN))=some (.lst ((acc++l.flatMap (JU k)).map tN))
 | [],acc,_,_=>by simp[AO]
 | r::l,acc,hr,ha=>by
  rw[D9,uD] at ha;have:=JT k r;rw[C5,AO,hg r (hr r B1) acc (by omega),A0,FX g hg l _ (fun x hx=>hr x (A9 _ hx)) (by rw[D0];omega),uR,G0]
theorem GB(i j:Nat):LK (.int (i:Nat)) (.int (j:Nat))=some (i == j):=by
 rw[BS];congr 1;rw[Y2,decide_eq_true_eq,beq_iff_eq];omega
theorem UM(hr:r.length=k){acc:List (List Nat)}(ha:acc.length<=100):Bb (.int (k:Nat)) (tN r) (.lst (acc.map tN))=some (.lst ((acc++JU k r).map tN)):=by
 have e:HW [tN r]=some ((A5 k).map fun t=>.tup [.int (t:Nat),.int (r.getD t 0:Nat)]):=by rw[PF,GE,hr]
 have m:DV CV ((A5 k).map fun t=>.tup [.int (t:Nat),.int (r.getD t 0:Nat)])=some (nI ((A5 k).filter fun j=>r.getD j 0 == j)):=Cv _ fun t _=>by
  unfold CV;simp only[Hc,GB hk,A0];split<;>rfl
 have m2:AZ (BZ (tN r)) (nI ((A5 k).filter (fun j=>r.getD j 0 == j)++[k]))=some ((JU k r).map tN):=by
  unfold JU;rw[L1];refine BX _ fun x _=>?_
  unfold BZ;rw[Ra (k:=k) (by omega)];rfl
 have ol:=RF hk r;unfold Bb;rw[e,A0,AS (by rw[A8,E2];omega),m,A0,Dq,Ry (by omega),A0];show Cz _ (E8 (AZ (BZ (tN r)) (nI ((A5 k).filter (fun j=>r.getD j 0 == j)++[k]))) _)=_;rw[AS (by rw[A8,D0,E4];omega),m2,A0,Wt (by rw[A8,A8];have:=JT k r;omega),A0,<- N0]
theorem Vx(hr:r.length=k){acc:List (List Nat)}(ha:acc.length<=100):Cd (.int (k:Nat)) (tN r) (.lst (acc.map tN))=some (.lst ((acc++JU k r).map tN)):=by
 have m:DV (Cb (tN r)) (nI (A5 k))=some (nI ((A5 k).filter fun j=>r.getD j 0 == j)):=Cv _ fun t ht=>by
  unfold Cb;have a:AB (tN r) (.int (t:Nat))=some (.int (r.getD t 0:Nat)):=lE (by rw[hr];exact C9.mp ht);simp only[a,A0,GB hk];split<;>rfl
 have m2:AZ (Ca (tN r)) (nI ((A5 k).filter (fun j=>r.getD j 0 == j)++[k]))=some ((JU k r).map tN):=by
  unfold JU;rw[L1];refine BX _ fun x _=>?_
  unfold Ca;rw[Ra (k:=k) (by omega)];rfl
 have ol:=RF hk r;unfold Cd;rw[FO k (by omega),A0,AS (by rw[A8,E2];omega)];show E8 (DV (Cb (tN r)) (nI (A5 k))) _=_;rw[m,A0,Ry (by omega),A0,Dq];show Cz _ (E8 (AZ (Ca (tN r)) (nI ((A5 k).filter (fun j=>r.getD j 0 == j)++[k]))) _)=_;rw[AS (by rw[A8,D0,E4];omega),m2,A0,Wt (by rw[A8,A8];have:=JT k r;omega),A0,<- N0]
end
theorem Iv(hn:n<=4)(g:Dv->Dv->Option Dv)(hg:∀k < n,g (.int (k:Nat)) (.lst ((Bh k).map tN))=some (.lst ((Bh (k+1)).map tN))):AO g (nI (A5 n)) (.lst [.tup []])=some (.lst ((Bh n).map tN)):=by
 obtain⟨c,e,h⟩:=Gy (P:=fun i c=>c=Dv.lst ((Bh i).map tN)) g n (.lst [.tup []]) rfl fun i hi c hc=>⟨_,by rw[hc,hg i hi],rfl⟩
 rw[show(nI (A5 n))=(A5 n).map fun k=>.int (k:Nat) from rfl,e,h]
theorem MN{k:Nat}(hk:k<=3):BW (.lst ((Bh k).map tN)) (.int (k:Nat))=some (.lst ((Bh (k+1)).map tN)):=by
 obtain⟨h1,h2⟩:=CO (n:=k) (by omega);have:=FX (show k<=4 by omega) (Bb (.int (k:Nat))) (fun r hr acc ha=>UM (by omega) hr ha) (Bh k) [] (fun r hr=>(h1 r hr).len) (by simp;omega);unfold BW;show E8 (AO _ _ (Dv.lst (([]:List (List Nat)).map tN))) _=_;rw[this];rfl
theorem Jy(hn:n<=4):Cr (.int (n:Nat))=some (.lst ((Bh n).map tN)):=by
 have e:=Iv hn Cc fun k hk=>by
  obtain⟨h1,h2⟩:=CO (n:=k) (by omega);have:=FX (show k<=4 by omega) (Cd (.int (k:Nat))) (fun r hr acc ha=>Vx (by omega) hr ha) (Bh k) [] (fun r hr=>(h1 r hr).len) (by simp;omega);unfold Cc;show E8 (AO _ _ (Dv.lst (([]:List (List Nat)).map tN))) _=_;rw[this];rfl
 unfold Cr;rw[FO n (by omega),A0];show E8 (AO Cc (nI (A5 n)) _) _=_;rw[e];rfl
def nU(n:Nat)(r:Nat->Nat):Tf->Prop
 | .u f=>∀a < n,r (f a)=r (f (r a))
 | .b f=>∀a < n,∀b < n,r (f a b)=r (f (r a) (r b))
def qS(n:Nat)(r:List Nat)(a:Nat):Tf->Prop
 | .u f=>r.getD (f a) 0=r.getD (f (r.getD a 0)) 0
 | .b f=>∀b∈A5 n,r.getD (f a b) 0=r.getD (f (r.getD a 0) (r.getD b 0)) 0
theorem cV(h:n<=4)(k:Nat)(hk:k<=1):Dc (.int (n:Nat)) (.int (k:Nat))=some (.int ((n * k:Nat))):=by
 have:n=0\/n=1\/n=2\/n=3\/n=4:=by omega
 have h2:k=0\/k=1:=by omega
 rcases this with rfl | rfl | rfl | rfl | rfl<;>rcases h2 with rfl | rfl<;>rfl
theorem Ez{α:Type}(g:Dv->Unit->Option (Lp Dv Unit Unit))(f:α->Dv)(p:α->Prop):∀l:List α,(∀x∈l,(p x/\g (f x) ()=some (.go ()))\/(¬p x/\g (f x) ()=some (.rt (.bl false) ())))->((∀x∈l,p x)/\Ds g (l.map f) ()=some (.go ()))\/(¬(∀x∈l,p x)/\Ds g (l.map f) ()=some (.rt (.bl false) ()))
 | [],_=>.inl ⟨fun _ z=>(nomatch z),rfl⟩
 | a::l,h=>by
  rcases h a B1 with⟨h1,e1⟩ | ⟨h1,e1⟩
  ·rcases Ez g f p l fun x hx=>h x (A9 _ hx) with⟨h2,e2⟩ | ⟨h2,e2⟩
   ·exact .inl ⟨fun x hx=>(C8.mp hx).elim (fun z=>z▸h1) (h2 x),by rw[C5,Ds,e1];exact e2⟩
   ·exact .inr ⟨fun z=>h2 fun x hx=>z x (A9 _ hx),by rw[C5,Ds,e1];exact e2⟩
  ·exact .inr ⟨fun z=>h1 (z a B1),by rw[C5,Ds,e1];rfl⟩
section
variable {n:Nat} {r:List Nat} (hn:n<=4) (hr:Pt n r)
include hn hr
theorem QS(hw:w < n):AB (tN r) (.int (w:Nat))=some (.int (r.getD w 0:Nat)):=lE (by rw[hr.len];exact hw)
theorem gg{f:Nat->Nat->Nat}(hf:(Tf.b f).ok n){a b:Nat}(ha:a < n)(hb:b < n):(r.getD (f a b) 0=r.getD (f (r.getD a 0) (r.getD b 0)) 0/\EN (tN r) ((Tf.b f).dv n) (.int (a:Nat)) (.int (b:Nat)) ()=some (.go ()))\/(¬r.getD (f a b) 0=r.getD (f (r.getD a 0) (r.getD b 0)) 0/\EN (tN r) ((Tf.b f).dv n) (.int (a:Nat)) (.int (b:Nat)) ()=some (.rt (.bl false) ())):=by
 have ra:=hr.lt ha;have rb:=hr.lt hb;unfold EN;simp only[QS hn hr ha,QS hn hr hb,A0,bT ra,bT ha,Cg rb,Cg hb,QS hn hr (hf a ha b hb),QS hn hr (hf _ ra _ rb),MO]
 by_cases c:r.getD (f a b) 0=r.getD (f (r.getD a 0) (r.getD b 0)) 0
 ·exact .inl ⟨c,by rw[c];simp⟩
 ·refine .inr ⟨c,?_⟩;rw[if_pos (by rw[M5,decide_eq_false_iff_not];omega)]
theorem gZ{f:Nat->Nat}(hg:∀i < n,f i < n){a:Nat}(ha:a < n):(r.getD (f a) 0=r.getD (f (r.getD a 0)) 0/\CM (tN r) (.int (n:Nat)) (.tup [x,.int 1]) (Ay n f) (.int (a:Nat)) ()=some (.go ()))\/(¬r.getD (f a) 0=r.getD (f (r.getD a 0)) 0/\CM (tN r) (.int (n:Nat)) (.tup [x,.int 1]) (Ay n f) (.int (a:Nat)) ()=some (.rt (.bl false) ())):=by
 have ra:=hr.lt ha;have i1:AB (.tup [x,.int 1]) (.int 1)=some (.int 1):=rfl;have b1:LK (.int 1) (.int 1)=some true:=BS 1 1;have m:Dc (.int (n:Nat)) (.int 0)=some (.int 0):=cV hn 0 (by decide);have r0:BN [.int 0]=some []:=FO 0 (by decide);have s1:QU (.int 1) (.int 1)=some (.int 0):=rfl;have st:EE (tN r) (.tup [x,.int 1]) (Ay n f) (.int (a:Nat))=some (!decide (((r.getD (f a) 0:Nat):Int)=((r.getD (f (r.getD a 0)) 0:Nat):Int))):=by
  unfold EE;rw[i1,A0,b1,A0,if_pos rfl,Cg ha,A0,QS hn hr (hg a ha),A0,QS hn hr ha,A0,Cg ra,A0,QS hn hr (hg _ ra),A0,MO,A0]
 unfold CM;rw[st,A0]
 by_cases c:r.getD (f a) 0=r.getD (f (r.getD a 0)) 0
 ·refine .inl ⟨c,?_⟩;rw[c,if_neg (by simp),i1,A0,s1,A0,m,A0,r0];rfl
 ·refine .inr ⟨c,?_⟩;rw[if_pos (by rw[M5,decide_eq_false_iff_not];omega)]
theorem aO{f:Nat->Nat->Nat}(hg:(Tf.b f).ok n){a:Nat}(ha:a < n):((∀b∈A5 n,r.getD (f a b) 0=r.getD (f (r.getD a 0) (r.getD b 0)) 0)/\CM (tN r) (.int (n:Nat)) (.tup [x,.int 2]) ((Tf.b f).dv n) (.int (a:Nat)) ()=some (.go ()))\/(¬(∀b∈A5 n,r.getD (f a b) 0=r.getD (f (r.getD a 0) (r.getD b 0)) 0)/\CM (tN r) (.int (n:Nat)) (.tup [x,.int 2]) ((Tf.b f).dv n) (.int (a:Nat)) ()=some (.rt (.bl false) ())):=by
 have i1:AB (.tup [x,.int 2]) (.int 1)=some (.int 2):=rfl;have b1:LK (.int 2) (.int 1)=some false:=BS 2 1;have m:Dc (.int (n:Nat)) (.int 1)=some (.int (n:Nat)):=by have:=cV hn 1 (by decide);rwa [Nat.mul_one] at this
 have s1:QU (.int 2) (.int 1)=some (.int 1):=rfl;have st:EE (tN r) (.tup [x,.int 2]) ((Tf.b f).dv n) (.int (a:Nat))=some false:=by
  unfold EE;rw[i1,A0,b1,A0,if_neg B9]
 unfold CM;rw[st,A0,if_neg B9,i1,A0,s1,A0,m,A0,FO n (by omega),A0];rcases Ez (EN (tN r) ((Tf.b f).dv n) (.int (a:Nat))) (fun k:Nat=>Dv.int (k:Nat)) (fun b=>r.getD (f a b) 0=r.getD (f (r.getD a 0) (r.getD b 0)) 0) (A5 n) (fun b hb=>gg hn hr hg ha (C9.mp hb)) with⟨h,e⟩ | ⟨h,e⟩
 ·exact .inl ⟨h,by rw[e];rfl⟩
 ·exact .inr ⟨h,by rw[e];rfl⟩
theorem gb{p:Dv×Tf}(hg:p.2.ok n):(nU n (fun i=>r.getD i 0) p.2/\EM (tN r) (.int (n:Nat)) (.tup [.tup [p.1,.int (p.2.ar:Nat)],p.2.dv n]) ()=some (.go ()))\/(¬nU n (fun i=>r.getD i 0) p.2/\EM (tN r) (.int (n:Nat)) (.tup [.tup [p.1,.int (p.2.ar:Nat)],p.2.dv n]) ()=some (.rt (.bl false) ())):=by
  obtain⟨x,g⟩:=p;unfold EM;simp only[Hc,FO n (show n<=1000000 by omega),A0];rcases Ez (CM (tN r) (.int (n:Nat)) (.tup [x,.int (g.ar:Nat)]) (g.dv n)) (fun k:Nat=>Dv.int (k:Nat)) (fun a=>qS n r a g) (A5 n) (fun a ha=>by
      cases g with
      | u f=>exact gZ hn hr hg (C9.mp ha)
      | b f=>exact aO hn hr hg (C9.mp ha)) with⟨h,e⟩ | ⟨h,e⟩
  · refine .inl ⟨?_,by rw[e];rfl⟩;cases g with
    | u f=>exact fun a ha=>h a (C9.mpr ha)
    | b f=>exact fun a ha b hb=>h a (C9.mpr ha) b (C9.mpr hb)
  · refine .inr ⟨fun z=>h ?_,by rw[e];rfl⟩;cases g with
    | u f=>exact fun a ha=>z a (C9.mp ha)
    | b f=>exact fun a ha b hb=>z a (C9.mp ha) b (C9.mp hb)
theorem RV(hg:∀p∈gs,p.2.ok n):(∀p∈gs,nU n (fun i=>r.getD i 0) p.2)↔Ok n (Hz n gs) (fun i=>r.getD i 0):=by
 constructor
 ·intro h f hf w x hw hx e;obtain⟨p,hp,hf⟩:=i7.mp hf;have g:=h p hp;have e:r.getD w 0=r.getD x 0:=e;show r.getD (f w) 0=r.getD (f x) 0;cases hp2:p.2 with
  | u f' =>
   rw[hp2] at g hf;have g:∀a < n,r.getD (f' a) 0=r.getD (f' (r.getD a 0)) 0:=g;rw[D3.mp hf,g w hw,g x hx,e]
  | b f' =>
   rw[hp2] at g hf;have g:∀a < n,∀b < n,r.getD (f' a b) 0=r.getD (f' (r.getD a 0) (r.getD b 0)) 0:=g;rcases E9.mp hf with z | z
   ·obtain⟨i,hi,rfl⟩:=H8.mp z;have hi:=C9.mp hi;rw[g i hi w hw,g i hi x hx,e]
   ·obtain⟨i,hi,rfl⟩:=H8.mp z;have hi:=C9.mp hi;show r.getD (f' w i) 0=r.getD (f' x i) 0;rw[g w hw i hi,g x hx i hi,e]
 ·intro h p hp;have mem:∀f∈p.2.fns n,f∈Hz n gs:=fun f hf=>i7.mpr ⟨p,hp,hf⟩
  have k:=hg p hp;cases hp2:p.2 with
  | u f' =>
   rw[hp2] at mem;intro a ha;exact h f' (mem f' (D3.mpr rfl)) a (r.getD a 0) ha (hr.lt ha) (hr.fx a ha).symm
  | b f' =>
   rw[hp2] at mem;intro a ha b hb;have e1:=h (fun j=>f' j b) (mem _ (B8 _ (H8.mpr ⟨b,C9.mpr hb,rfl⟩))) a (r.getD a 0) ha (hr.lt ha) (hr.fx a ha).symm;have e2:=h (f' (r.getD a 0)) (mem _ (D7 _ (H8.mpr ⟨r.getD a 0,C9.mpr (hr.lt ha),rfl⟩))) b (r.getD b 0) hb (hr.lt hb) (hr.fx b hb).symm;exact e1.trans e2
end
def gC(n:Nat)(gs:Gs)(r:List Nat):Bool:=@decide (Ok n (Hz n gs) fun i=>r.getD i 0) (Classical.propDecidable _)
theorem Fo:gC n gs r=true↔Ok n (Hz n gs) fun i=>r.getD i 0:=@decide_eq_true_iff _ (Classical.propDecidable _)
theorem TN(hn:n<=4)(hr:Pt n r){ts:List Nat}(hg:∀p∈gs,p.2.ok n):IY (LX fs gs) (FZ n ts gs) (tN r)=some (.bl (gC n gs r)):=by
  have i0:AB (FZ n ts gs) (.int 0)=some (.int (n:Nat)):=rfl;have i1:AB (LX fs gs) (.int 1)=some (.tup (Ya gs)):=rfl;have i2:AB (FZ n ts gs) (.int 2)=some (.tup (Yq n gs)):=rfl;unfold IY;simp only[i0,i1,i2,A0,LP];rcases Ez (EM (tN r) (.int (n:Nat))) (fun p:Dv×Tf=>.tup [.tup [p.1,.int (p.2.ar:Nat)],p.2.dv n]) (fun p=>nU n (fun i=>r.getD i 0) p.2) gs (fun p hp=>gb hn hr (hg p hp)) with⟨h,e⟩ | ⟨h,e⟩
  · rw[e,Fo.mpr ((RV hn hr hg).mp h)];rfl
  · have:gC n gs r=false:=by
      cases c:gC n gs r with
      | false=>rfl
      | true=>exact(h ((RV hn hr hg).mpr (Fo.mp c))).elim
    rw[e,this];rfl
def BH(n:Nat)(gs:Gs):List (List Nat):=(Bh n).filter (gC n gs)
section
variable {n:Nat} {fs:List Dv} {ts:List Nat} {gs:Gs} (hn:n<=4) (hg:∀p∈gs,p.2.ok n) (zE:gs.length<=3)
include hn hg zE
theorem UL(hr:Pt n r)(h:JI n (Hz n gs) ((A5 n).map fun k=>(k,r.getD k 0)) ps)(hp:∀p∈(A5 n).map (fun k=>(k,r.getD k 0)),rt ps p.1=rt ps p.2)(cl:Cl n (Hz n gs) ps):(A5 n).map (rt ps)=r↔Ok n (Hz n gs) fun i=>r.getD i 0:=by
  have pj:∀k < n,rt ps k=rt ps (r.getD k 0):=fun k hk=>hp (k,r.getD k 0) (H8.mpr ⟨k,C9.mpr hk,rfl⟩)
  have lo:∀w,rt ps w<=w:=fun w=>(Ce h.low (w+1) w (M1 _)).2
  constructor
  · intro e f hf w x hw hx q;have at':∀w < n,r.getD w 0=rt ps w:=fun w hw=>by
      rw[<- e,B7,C6,L0 hw];rfl
    have yU:=Pz hg f hf;have q:r.getD w 0=r.getD x 0:=q;show r.getD (f w) 0=r.getD (f x) 0;rw[at' w hw,at' x hx] at q;rw[at' _ (yU w hw),at' _ (yU x hx)];have c1:=cl f hf w hw;have c2:=cl f hf x hx;unfold Gd at c1 c2;rw[c1,c2,q]
  · intro ok;have ls:=h.lst (fun i=>r.getD i 0) (fun p hp=>by
      obtain⟨k,hk,rfl⟩:=H8.mp hp;exact(hr.fx k (C9.mp hk)).symm) ok
    refine Hv hr.len fun i hi=>?_
    have hi':i < n:=by rw[<- hr.len];exact hi
    have e1:r.getD i 0=r[i]:=by rw[B7,A4 hi];rfl
    rw[<- e1];have a1:r.getD (rt ps i) 0=r.getD i 0:=ls i hi';have a2:=hr.le (rt ps i) (h.zU hi');have a3:=lo (r.getD i 0);rw[<- pj i hi'] at a3;omega
theorem QD(hr:Pt n r):∃d,FB (tN r)=some d/\items d=some (((A5 n).map fun k=>(k,r.getD k 0)).map pD):=by
 have:CQ 0 (nI r)=((A5 n).map fun k=>(k,r.getD k 0)).map pD:=by
  have e:=GE r.length fun i=>r.getD i 0
  rw[<- PF] at e;have e:some (CQ 0 (nI r))=_:=e;rw[D5 e,hr.len,L1];rfl
 refine⟨.lst (CQ 0 (nI r)),?_,by rw[<- this];rfl⟩;show(E8 (some (nI r)) _)=_;rw[A0,if_pos (by rw[A8,hr.len];omega)]
theorem MM:EO (LX fs gs) (FZ n ts gs)=some (.lst ((BH n gs).map tN)):=by
 have i0:AB (FZ n ts gs) (.int 0)=some (.int (n:Nat)):=rfl;obtain⟨h1,h2⟩:=CO hn;have e:=Iv hn Dl fun k hk=>by
  unfold Dl;rw[MN (by omega)];rfl
 have m:DV (Dj (LX fs gs) (FZ n ts gs)) ((Bh n).map tN)=some ((BH n gs).map tN):=Cv _ fun r hr=>by
  have pt:=h1 r hr;obtain⟨d,e1,e2⟩:=QD hn hg zE pt;obtain⟨ps,e3,h,hp,cl⟩:=JF (fs:=fs) (ts:=ts) hn hg zE (prs:=(A5 n).map fun k=>(k,r.getD k 0)) (fun p hp=>by
   obtain⟨k,hk,rfl⟩:=H8.mp hp;exact⟨C9.mp hk,pt.lt (C9.mp hk)⟩) e2
  have key:=UL hn hg zE pt h hp cl;have:decide ((A5 n).map (rt ps)=r)=gC n gs r:=by
   rw[Y2,decide_eq_true_eq,Fo];exact key
  unfold Dj;have e4:LK (tN ((A5 n).map (rt ps))) (tN r)=some (gC n gs r):=by rw[<- this];exact mE false _ _
  rw[e1,A0,e3,A0,e4,A0];split<;>rfl
 unfold EO;simp only[i0,A0,FO n (show n<=1000000 by omega)];show E8 (AO Dl (nI (A5 n)) _) _=_;rw[e,A0];show Cz ((Bh n).map tN) (E8 (DV (Dj (LX fs gs) (FZ n ts gs)) ((Bh n).map tN)) _)=_;rw[AS (by rw[A8];omega),m];rfl
end
theorem lR(x:Dv)(xs:List Dv):AB (.lst (x::xs)) (.int 0)=some x:=GP (x::xs) 0 (uu _)
theorem all_map(l:List α)(q:α->Bool):QV (.lst (l.map fun x=>Dv.bl (q x)))=some (.bl (l.all q)):=by
 have:∀l:List α,Oh (l.map fun x=>Dv.bl (q x))=some (l.map q):=fun l=>by
  induction l with
  | nil=>rfl
  | cons a l ih=>rw[C5,Oh,ih];rfl
 show(Oh (l.map fun x=>Dv.bl (q x))).map _=_;rw[this,K2,uG];rfl
theorem Wf{m x:Nat}{q:Nat->Bool}(hx:x < m)(h1:q x=true)(h2:∀k < x,q k=false):∃l,(A5 m).filter q=x::l:=by
 have mem:x∈(A5 m).filter q:=G4.mpr ⟨C9.mpr hx,h1⟩;have pw:((A5 m).filter q).Pairwise (· < ·):=sR _ V4;cases hl:(A5 m).filter q with
 | nil=>rw[hl] at mem;cases mem
 | cons a l =>
  rw[hl] at mem pw;have qa:q a=true:=(G4.mp (show a∈(A5 m).filter q by rw[hl];exact B1)).2;rcases C8.mp mem with z | z
  ·exact⟨l,by rw[z]⟩
  ·have:=(tO.mp pw).1 x z;rw[h2 a this] at qa;cases qa
section
variable {n:Nat} {gs:Gs} {prs:List (Nat×Nat)} {ps:List Nat} (hn:n<=4) (hg:∀p∈gs,p.2.ok n) (h:JI n (Hz n gs) prs ps) (hp:∀p∈prs,rt ps p.1=rt ps p.2) (hb:∀p∈prs,p.1 < n/\p.2 < n) (cl:Cl n (Hz n gs) ps)
include hn hg h hp hb cl
theorem HX(hw:w < n):((A5 n).map (rt ps)).getD w 0=rt ps w:=by
 rw[B7,C6,L0 hw];rfl
theorem VQ:(A5 n).map (rt ps)∈BH n gs:=by
 refine G4.mpr ⟨Kj (fun w=>(Ce h.low (w+1) w (M1 _)).2) (fun w=>h.rt2 w) n,Fo.mpr fun f hf w x hw hx e=>?_⟩;have yU:=Pz hg f hf;have e:((A5 n).map (rt ps)).getD w 0=((A5 n).map (rt ps)).getD x 0:=e;show((A5 n).map (rt ps)).getD (f w) 0=((A5 n).map (rt ps)).getD (f x) 0;rw[HX hn hg h hp hb cl hw,HX hn hg h hp hb cl hx] at e;rw[HX hn hg h hp hb cl (yU w hw),HX hn hg h hp hb cl (yU x hx)];have c1:=cl f hf w hw;have c2:=cl f hf x hx;unfold Gd at c1 c2;rw[c1,c2,e]
noncomputable def Fc(prs:List (Nat×Nat))(r:List Nat):Bool:=prs.all fun p=>r.getD p.1 0 == r.getD p.2 0
theorem Yf{k t:Nat}(hk:k < n)(ht:t < n):(((BH n gs).filter (Fc prs)).all fun r=>r.getD k 0 == r.getD t 0)=decide (rt ps k=rt ps t):=by
  rw[Y2,decide_eq_true_eq,F8];constructor
  · intro z;have:=z _ (G4.mpr ⟨VQ hn hg h hp hb cl,F8.mpr fun p hq=>by
      rw[HX hn hg h hp hb cl (hb p hq).1,HX hn hg h hp hb cl (hb p hq).2,hp p hq];exact beq_self_eq_true _⟩)
    rw[HX hn hg h hp hb cl hk,HX hn hg h hp hb cl ht,beq_iff_eq] at this;exact this
  · intro e r hr;obtain⟨h1,h2⟩:=G4.mp hr;have ok:=Fo.mp (G4.mp h1).2;have ls:∀w < n,r.getD (rt ps w) 0=r.getD w 0:=h.lst (fun i=>r.getD i 0) (fun p hq=>beq_iff_eq.mp (F8.mp h2 p hq)) ok;rw[beq_iff_eq,<- ls k hk,<- ls t ht,e]
theorem Rj:(BH n gs).length<=15:=C4 (O9 _ _) (CO hn).2
theorem QF:∀r∈BH n gs,Pt n r:=fun r hr=>(CO hn).1 r (G4.mp hr).1
theorem Ma(hl:prs.length<=10):∀(l acc:List (List Nat)),(∀r∈l,Pt n r)->acc.length+l.length<=100->AO (DR (.lst (prs.map pD))) (l.map tN) (.lst (acc.map tN))=some (.lst ((acc++l.filter (Fc prs)).map tN))
 | [],acc,_,_=>by simp[AO]
 | r::l,acc,hr,ha=>by
  rw[D9] at ha;have pt:=hr r B1;have m:AZ (El (tN r)) (prs.map pD)=some (prs.map fun p=>.bl (r.getD p.1 0 == r.getD p.2 0)):=BX _ fun p hq=>by
   unfold El pD;simp only[Hc,QS hn pt (hb p hq).1,QS hn pt (hb p hq).2,A0,GB hn]
  have e1:DR (.lst (prs.map pD)) (tN r) (.lst (acc.map tN))=some (.lst ((acc++if Fc prs r=true then[r] else[]).map tN)):=by
   unfold DR Kc;show E8 (Cz (prs.map pD) (E8 (AZ (El (tN r)) (prs.map pD)) _)) _=_;rw[AS (by rw[A8];omega),m,A0,all_map,A0,IH,A0];show E8 (if Fc prs r=true then _ else _) _=_;cases Fc prs r with
   | true =>
    rw[if_pos rfl,if_pos rfl,Dq,Ec (by rw[A8];omega)];simp
   | false=>rw[if_neg B9,if_neg B9,L9];rfl
  rw[C5,AO,e1,A0,Ma hl l _ (fun x hx=>hr x (A9 _ hx)) (by rw[D0];split<;>simp<;>omega),G0,uv];split<;>rfl
theorem Vy{t:Nat}(ht:t < n){acc:List Nat}(ha:acc.length<=10):En (.lst (((BH n gs).filter (Fc prs)).map tN)) (.int (t:Nat)) (.lst (nI acc))=some (.lst (nI (acc++[rt ps t]))):=by
 have lw:((BH n gs).filter (Fc prs)).length<=15:=C4 (O9 _ _) (Rj hn hg h hp hb cl);have pt:∀r∈(BH n gs).filter (Fc prs),Pt n r:=fun r hr=>QF hn hg h hp hb cl r (G4.mp hr).1
 have m:DV (Gf (.lst (((BH n gs).filter (Fc prs)).map tN)) (.int (t:Nat))) (nI (A5 (t+1)))=some (nI ((A5 (t+1)).filter fun k=>decide (rt ps k=rt ps t))):=Cv _ fun k hk=>by
  have hk':k < n:=by have:=C9.mp hk;omega
  have m2:AZ (Ek (.int (t:Nat)) (.int (k:Nat))) (((BH n gs).filter (Fc prs)).map tN)=some (((BH n gs).filter (Fc prs)).map fun r=>.bl (r.getD k 0 == r.getD t 0)):=BX _ fun r hr=>by
   unfold Ek;rw[QS hn (pt r hr) hk',A0,QS hn (pt r hr) ht,A0,GB hn];rfl
  unfold Gf;show Cz (((BH n gs).filter (Fc prs)).map tN) (E8 (AZ (Ek (.int (t:Nat)) (.int (k:Nat))) (((BH n gs).filter (Fc prs)).map tN)) _)=_;rw[AS (by rw[A8];omega),m2,A0,all_map,A0,Zz,cond_true,IH,A0,Yf hn hg h hp hb cl hk' ht];split<;>rfl
 obtain⟨l,hh⟩:=Wf (m:=t+1) (x:=rt ps t) (q:=fun k=>decide (rt ps k=rt ps t)) (by have:=(Ce h.low (t+1) t (M1 _)).2;omega) (decide_eq_true (h.rt2 t)) fun k hk=>decide_eq_false fun z=>by
  have:=(Ce h.low (k+1) k (M1 _)).2;omega
 rw[hh] at m;have a1:Ax (.int (t:Nat)) (.int 1)=some (.int ((t+1:Nat))):=rfl;unfold En;rw[a1,A0,FO (t+1) (by omega),A0,AS (by rw[A8,E2];omega)];show E8 (DV _ (nI (A5 (t+1)))) _=_;rw[m,A0,Dq];rw[show AB (.lst (nI (rt ps t::l))) (.int 0)=some (.int (rt ps t:Nat)) from lR _ _,A0,Ec (by rw[A8];omega)];simp
theorem NT(hl:prs.length<=10):Fj (.lst ((BH n gs).map tN)) (.lst (prs.map pD))=some (tN ((A5 n).map (rt ps))):=by
 have w:=Ma hn hg h hp hb cl hl (BH n gs) [] (QF hn hg h hp hb cl) (by have:=Rj hn hg h hp hb cl;simp;omega);have md:=VQ hn hg h hp hb cl;obtain⟨r0,l0,e0⟩:∃r0 l0,BH n gs=r0::l0:=by
  cases hd:BH n gs with
  | nil=>rw[hd] at md;cases md
  | cons a l=>exact⟨a,l,rfl⟩
 have p0:=QF hn hg h hp hb cl r0 (by rw[e0];exact B1);have i0:AB (.lst ((BH n gs).map tN)) (.int 0)=some (tN r0):=by rw[e0];exact lR _ _
 have ln:CY (tN r0)=some (.int (n:Nat)):=by
  show some (Dv.int ((nI r0).length:Nat))=_;rw[A8,p0.len]
 obtain⟨c,e,hc⟩:=Gy (P:=fun i c=>i<=n->c=Dv.lst (nI ((A5 i).map (rt ps)))) (En (.lst (((BH n gs).filter (Fc prs)).map tN))) n (.lst []) (fun _=>rfl) fun i hi c hc=>by
  refine⟨.lst (nI ((A5 (i+1)).map (rt ps))),?_,fun _=>rfl⟩;rw[hc (Q8 hi),Vy hn hg h hp hb cl hi (by rw[A8,E2];omega),vF,N0];rfl
 unfold Fj;show E8 (AO (DR (.lst (prs.map pD))) ((BH n gs).map tN) (Dv.lst (([]:List (List Nat)).map tN))) _=_;rw[w,A0,X9,i0,A0,ln,A0,FO n (by omega),A0,e,A0,hc (B4 _)];rfl
end
noncomputable def cn(n:Nat)(xs:List Nat):List Nat:=(A5 n).filter fun i=>xs.contains i
theorem WK{xs:List Nat}{x:Nat}:x∈cn n xs↔x < n/\x∈xs:=by
 unfold cn;rw[G4,C9,C3]
theorem mM{xs:List Nat}:(cn n xs).Nodup:=uw.filter _
theorem iP(ns:List Int)(x:Int):x∈dD ns↔x∈ns:=by
 have key:∀(ns σ:List Int),x∈ns.foldl U8 σ↔x∈σ\/x∈ns:=fun ns=>by
  induction ns with
  | nil=>intro σ;simp
  | cons a ns ih =>
   intro σ;rw[X8,ih];unfold U8;split
   ·rename_i h;obtain⟨y,hy,e⟩:=U6.mp h;have e:=eq_of_beq e;subst e;simp only[C8];exact⟨fun z=>z.elim .inl fun z=>.inr (.inr z),fun z=>z.elim .inl fun z=>z.elim (fun z=>.inl (z▸hy)) .inr⟩
   ·simp only[E9,C8,K7,or_false];exact⟨fun z=>z.elim (fun z=>z.elim .inl fun z=>.inr (.inl z)) fun z=>.inr (.inr z),fun z=>z.elim (fun z=>.inl (.inl z)) fun z=>z.elim (fun z=>.inl (.inr z)) .inr⟩
 have:=key ns [];unfold dD;simpa using this
theorem mH(ns:List Int):(dD ns).Nodup:=by
 have key:∀(ns σ:List Int),σ.Nodup->(ns.foldl U8 σ).Nodup:=fun ns=>by
  induction ns with
  | nil=>intro σ h;exact h
  | cons a ns ih =>
   intro σ h;rw[X8];refine ih _ ?_;unfold U8;split
   ·exact h
   ·rename_i c;rw[uT];refine⟨h,List.pairwise_singleton _ _,fun x hx y hy e=>c (U6.mpr ⟨x,hx,?_⟩)⟩;rw[D3] at hy;rw[e,hy];exact beq_self_eq_true _
 exact key ns [] List.nodup_nil
theorem Mb:∀l:List Nat,Bu (nI l)=some (l.map fun k=>((k:Nat):Int))
 | []=>rfl
 | a::l=>by
  have:=Mb l;simp only[nI] at this;simp only[nI,C5,Bu,this,K2]
theorem Yy{xs:List Nat}(h:∀x∈xs,x < n)(hl:xs.length < 64):Cw (.lst (nI xs))=some (.lst (nI (cn n xs))):=by
 have e:(cn n xs).map (fun k=>((k:Nat):Int))=Dz (dD (xs.map fun k=>((k:Nat):Int))):=by
  refine GA ?_ ?_
  ·refine(List.perm_ext_iff_of_nodup ?_ (mH _)).mpr fun x=>?_
   ·exact uU _ (fun a b h z=>h (j4 z)) (mM (n:=n) (xs:=xs))
   ·rw[iP,H8,H8];exact⟨fun⟨a,ha,e⟩=>⟨a,(WK.mp ha).2,e⟩,fun⟨a,ha,e⟩=>⟨a,WK.mpr ⟨h a ha,ha⟩,e⟩⟩
  ·refine uU _ (fun a b (h:a < b)=>Int.ofNat_le.mpr (Q8 h)) (sR _ V4)
 simp only[Cw,Mb,A0,A8,if_pos hl,<- e,L1];rfl
mutual
theorem yC:∀d:Dv,d.cmp=true->_root_.R.xc d d=true
 | .we,_ | .bl _,_ | .int _,_ | .str _,_=>by rw[_root_.R.xc]<;>simp
 | .tup xs,h=>by rw[_root_.R.xc];exact HA xs (by rw[Dv.cmp] at h;exact h)
 | .lst xs,h=>by rw[_root_.R.xc];exact HA xs (by rw[Dv.cmp] at h;exact h)
 | .xp _ _,h | .ref _,h | .xV _,h | .ty _,h | .mtp _,h | .dtt _ _,h | .dnt _ _,h | .obj _ _ _ _,h=>by rw[Dv.cmp] at h<;>first | cases h | (intros;contradiction)
theorem HA:∀ds:List Dv,Ap ds=true->_root_.R.yB ds ds=true
 | [],_=>rfl
 | d::ds,h=>by
  rw[Ap,A3] at h;rw[_root_.R.yB,yC d h.1,HA ds h.2];rfl
end
theorem Lm{d:Dv}(h:d.cmp=true)(hd:d.dep<=150):UV d d=some false:=by
 simp[MP,h,hd,yC d h]
theorem GK{α:Type}{f:α->Dv}:∀{l:List α} {k:Nat},(∀x∈l,(f x).cmp=true/\(f x).dep<=k)->Ap (l.map f)=true/\Bv (l.map f)<=k
 | [],_,_=>⟨rfl,J8 _⟩
 | a::l,k,h=>by
  obtain⟨h1,h2⟩:=h a B1;obtain⟨h3,h4⟩:=GK (l:=l) (k:=k) fun x hx=>h x (A9 _ hx)
  rw[C5,Ap,Bv,h1,h3];exact⟨rfl,Nat.max_le.mpr ⟨h2,h4⟩⟩
theorem IJ(l:List Nat):(tN l).cmp=true/\(tN l).dep<=1:=⟨by unfold tN;rw[Dv.cmp];exact GJ l,by unfold tN;rw[Dv.dep,IB];exact B4 _⟩
abbrev kI(ks:List Nat):List BF:=ks.map fun k=>.inl ((k:Nat):Int)
theorem gN{x k:Nat}(e:x≠k):¬(Sum.inl ((x:Nat):Int):BF)=Sum.inl ((k:Nat):Int):=fun z=>e (j4 (wD z))
theorem cU{R:List Nat}{x:Nat}(h:x∉R):((kI R).any fun j=>decide (j=Sum.inl ((x:Nat):Int)))=false:=by
 rw[td];intro j hj;obtain⟨y,hy,rfl⟩:=H8.mp hj;have:y≠x:=fun z=>h (z▸hy)
 simpa using fun z:((y:Nat):Int)=(x:Nat)=>this (j4 z)
theorem Ln{g:Dv->Option Dv}{f:Nat->Dv}{R:List Nat}(h:∀a∈R,g (.int (a:Nat))=some (f a)):AZ g (nI R)=some (R.map f):=by
 rw[NR g (fun d=>f (lW d)) (nI R) fun x hx=>?_]
 ·rw[nI,L1];rfl
 ·obtain⟨a,ha,rfl⟩:=H8.mp hx;exact h a ha
theorem Lu{R:List Nat}{x:Nat}(h:x∈R):Ed (.lst (nI R)) (.int (x:Nat))=some (.int (R.idxOf x:Nat)):=by
 have key:∀R:List Nat,x∈R->Lv (.int (x:Nat)) (nI R)=some (R.idxOf x):=fun R=>by
  induction R with
  | nil=>intro z;cases z
  | cons a R ih =>
   intro z;show(if _root_.R.xc (.int (a:Nat)) (.int (x:Nat))=true then some 0 else(Lv (.int (x:Nat)) (nI R)).map (·+1))=_;rw[_root_.R.xc]
   by_cases c:a=x
   ·subst c;simp
   ·have c2:¬((a:Nat):Int)=((x:Nat):Int):=fun z=>c (j4 z)
    have q:(a == x)=false:=beq_eq_false_iff_ne.mpr c;rw[if_neg (by simp[c2]),ih ((C8.mp z).resolve_left fun z=>c z.symm),List.idxOf_cons,q];rfl
 show(if(true && Ap (nI R) && decide (Bv (nI R)<=150))=true then(Lv (.int (x:Nat)) (nI R)).map (fun j=>Dv.int (j:Nat)) else none)=_;rw[GJ,IB,if_pos (by decide),key R h];rfl
noncomputable def Ah(n:Nat)(r:List Nat):List Nat:=(A5 n).filter fun t=>r.getD t 0 == t
theorem Ex{n:Nat}{r:List Nat}{x:Nat}:x∈Ah n r↔x < n/\r.getD x 0=x:=by
 unfold Ah;rw[G4,C9,beq_iff_eq]
theorem iR{n:Nat}{r:List Nat}(hr:Pt n r):cn n r=Ah n r:=List.filter_congr fun x hx=>by
 have hx:=C9.mp hx;rw[Y2,C3,beq_iff_eq];constructor
 ·intro m;obtain⟨i,hi,e⟩:=U0 m;have hi':i < n:=by rw[<- hr.len];exact hi
  have:=hr.fx i hi';rw[show r.getD i 0=x by rw[B7,A4 hi];exact e] at this;exact this
 ·intro e;have hl:x < r.length:=by rw[hr.len];exact hx
  rw[B7,A4 hl] at e;have e:r[x]=x:=e;have:=R6 hl;rw[e] at this;exact this
theorem Lb{n:Nat}(r:List Nat):(Ah n r).length<=n:=C4 (O9 ..) (by rw[E2];exact B4 _)
abbrev nu(n:Nat)(r:List Nat)(x:Nat):Nat:=(Ah n r).idxOf (r.getD x 0)
theorem Ll{n:Nat}{r:List Nat}(hr:Pt n r){x:Nat}(hx:x < n):r.getD x 0∈Ah n r:=Ex.mpr ⟨hr.lt hx,hr.fx x hx⟩
abbrev dN(f:Nat->Nat)(ks:List Nat):Dv:=.xp (kI ks) (nI (ks.map f))
theorem XW(f:Nat->Nat)(x:Nat):∀ks:List Nat,x∈ks->Nu (.inl ((x:Nat):Int)) (kI ks) (nI (ks.map f))=some (.int (f x:Nat))
 | [],h=>by cases h
 | k::ks,h=>by
  simp only[kI,nI,C5,Nu]
  by_cases e:k=x
  ·subst e;simp
  ·rw[if_neg (gN e)];exact XW f x ks ((C8.mp h).resolve_left fun z=>e z.symm)
theorem dR{f:Nat->Nat}{ks:List Nat}{x:Nat}(h:x∈ks):AB (dN f ks) (.int (x:Nat))=some (.int (f x:Nat)):=by
 simp only[AB,Kr,A0,XW f x ks h]
theorem dS(f:Nat->Nat):∀(S R:List Nat),(R++S).Nodup->HF (kI R) (nI (R.map f)) (S.map fun x=>(Sum.inl ((x:Nat):Int),Dv.int (f x:Nat)))=(kI (R++S),nI ((R++S).map f))
 | [],R,_=>by simp[HF]
 | x::S,R,h=>by
  have e:R++x::S=(R++[x])++S:=by simp
  have hx:x∉R:=fun z=>(uT.mp h).2.2 x z x B1 rfl
  have p1:Nr (.inl ((x:Nat):Int)) (kI R)=kI (R++[x]):=by unfold Nr;rw[cU hx];simp[kI]
  have p2:Nq (.inl ((x:Nat):Int)) (.int (f x:Nat)) (kI R) (nI (R.map f))=nI ((R++[x]).map f):=by unfold Nq;rw[cU hx];simp[nI]
  show HF (Nr (.inl ((x:Nat):Int)) (kI R)) (Nq (.inl ((x:Nat):Int)) (.int (f x:Nat)) (kI R) (nI (R.map f))) _=_;rw[p1,p2,dS f S (R++[x]) (e▸h),e]
theorem RD(f:Nat->Nat):∀S:List Nat,Do Kl (S.map fun x=>.tup [.int (x:Nat),.int (f x:Nat)])=some (S.map fun x=>(Sum.inl ((x:Nat):Int),Dv.int (f x:Nat)))
 | []=>rfl
 | x::S=>by
  show(Do Kl (S.map fun x=>.tup [.int (x:Nat),.int (f x:Nat)])).bind _=_;rw[RD f S];rfl
theorem iN(f:Nat->Nat)(n:Nat):HN (.lst ((A5 n).map fun x=>.tup [.int (x:Nat),.int (f x:Nat)]))=some (dN f (A5 n)):=by
 have e:=dS f (A5 n) [] (by simpa using uw);simp only[X9,m7] at e;have dk:mJ ((A5 n).map fun x=>.tup [.int (x:Nat),.int (f x:Nat)])=some (dN f (A5 n)):=by
  show E8 (Do Kl _) _=_;rw[RD,A0,e]
 simp only[HN,dk,Z5]
def Lc(n:Nat)(r:List Nat)(f:Nat->Nat):Dv:=tN ((Ah n r).map fun a=>nu n r (f a))
def Uk(n:Nat)(r:List Nat):Tf->Dv
 | .u f=>Lc n r f
 | .b f=>.tup ((Ah n r).map fun a=>Lc n r (f a))
def wB(n:Nat)(gs:Gs)(ts r:List Nat):Dv:=.tup [.int ((Ah n r).length:Nat),tN (ts.map (nu n r)),.tup (gs.map fun p=>Uk n r p.2)]
section
variable {n:Nat} {r:List Nat}
theorem pv{x:Nat}(h:x < n)(k:Nat)(c:Dv):AK (k+1) (.int 0) (.int (x:Nat)) c (dN (nu n r) (A5 n))=some (.int (nu n r x:Nat)):=by
 unfold AK;simp only[BS,decide_true,A0,if_true,dR (C9.mpr h)]
theorem pH(hn:n<=4){f:Nat->Nat}(h:∀a < n,f a < n)(k:Nat):AK (k+2) (.int 1) (Ay n f) (.lst (nI (Ah n r))) (dN (nu n r) (A5 n))=some (Lc n r f):=by
 have hl:=Lb (n:=n) r;have m:AZ (Bn (AK (k+1)) (.int 1) (Ay n f) (.lst (nI (Ah n r))) (dN (nu n r) (A5 n))) (nI (Ah n r))=some ((Ah n r).map fun a=>.int (nu n r (f a):Nat)):=Ln fun a ha=>by
  have ha:=(Ex.mp ha).1;unfold Bn;have s1:QU (.int 1) (.int 1)=some (.int 0):=rfl;simp only[s1,A0,Cg ha,pv (h a ha) k]
 unfold AK;simp only[BS,show decide ((1:Int)=0)=false by decide,A0,D6,if_false,show items (.lst (nI (Ah n r)))=some (nI (Ah n r)) from rfl,AS (show(nI (Ah n r)).length<=1000000 by rw[A8];omega),m,AL];unfold Lc tN nI;rw[L1];rfl
theorem Yp(hn:n<=4){g:Tf}(h:g.ok n):Dr (.int (g.ar:Nat)) (g.dv n) (.lst (nI (Ah n r))) (dN (nu n r) (A5 n))=some (Uk n r g):=by
 rw[FH];have hl:=Lb (n:=n) r;cases g with
 | u f=>exact pH hn h 18
 | b f =>
  have m:AZ (Bn (AK 19) (.int 2) ((Tf.b f).dv n) (.lst (nI (Ah n r))) (dN (nu n r) (A5 n))) (nI (Ah n r))=some ((Ah n r).map fun a=>Lc n r (f a)):=Ln fun a ha=>by
   have ha:=(Ex.mp ha).1;unfold Bn;have s1:QU (.int 2) (.int 1)=some (.int 1):=rfl;simp only[s1,A0,bT ha,pH hn (h a ha) 17]
  show AK (19+1) (.int 2) _ _ _=_;unfold AK;simp only[BS,show decide ((2:Int)=0)=false by decide,A0,D6,if_false,show items (.lst (nI (Ah n r)))=some (nI (Ah n r)) from rfl,AS (show(nI (Ah n r)).length<=1000000 by rw[A8];omega),m,AL];rfl
variable {fs:List Dv} {ts:List Nat} {gs:Gs} (hn:n<=4) (hg:∀p∈gs,p.2.ok n) (zE:gs.length<=3) (ht:∀x∈ts,x < n) (htl:ts.length<=4) (hr:Pt n r)
include hn hg zE ht htl hr
theorem TQ:Cq (LX fs gs) (FZ n ts gs) (.lst (nI (Ah n r))) (dN (nu n r) (A5 n))=some (wB n gs ts r):=by
 have i1:AB (LX fs gs) (.int 1)=some (.tup (Ya gs)):=rfl;have i2:AB (FZ n ts gs) (.int 2)=some (.tup (Yq n gs)):=rfl;have i3:AB (FZ n ts gs) (.int 1)=some (.tup (nI ts)):=rfl;have m1:AZ (Di (dN (nu n r) (A5 n))) (nI ts)=some (nI (ts.map (nu n r))):=by
  rw[nI,nI,L1];exact BX _ fun x hx=>by unfold Di;rw[dR (C9.mpr (ht x hx))];rfl
 have key:AZ (Dh (.lst (nI (Ah n r))) (dN (nu n r) (A5 n))) (gs.map fun p=>.tup [.tup [p.1,.int (p.2.ar:Nat)],p.2.dv n])=some (gs.map fun p=>Uk n r p.2):=BX _ fun p hp=>by
  unfold Dh;have j1:AB (.tup [p.1,.int (p.2.ar:Nat)]) (.int 1)=some (.int (p.2.ar:Nat)):=rfl;simp only[Hc,j1,A0,Yp hn (hg p hp)]
 unfold Cq;simp only[i1,i2,i3,A0,items,LP,AS (show(nI ts).length<=1000000 by rw[A8];omega),m1];rw[AS (by rw[A8];omega),key,A0];simp only[CY,A0,A8];rfl
theorem ON:Bq (LX fs gs) (FZ n ts gs) (tN r)=some (wB n gs ts r):=by
 have ss:Cw (tN r)=some (.lst (nI (Ah n r))):=by
  rw[<- iR hr];exact Yy (n:=n) (xs:=r) (fun x hx=>by
   obtain⟨i,hi,e⟩:=U0 hx;have hi':i < n:=by rw[<- hr.len];exact hi
   have:=hr.lt hi';rw[B7,A4 hi] at this;rw[<- e];exact this) (by rw[hr.len];omega)
 have e:HW [tN r]=some ((A5 n).map fun t=>.tup [.int (t:Nat),.int (r.getD t 0:Nat)]):=by rw[PF,GE,hr.len]
 have m:AZ (Ck (.lst (nI (Ah n r)))) ((A5 n).map fun t=>.tup [.int (t:Nat),.int (r.getD t 0:Nat)])=some ((A5 n).map fun t=>.tup [.int (t:Nat),.int (nu n r t:Nat)]):=BX _ fun t hx=>by
  unfold Ck EF;simp only[Hc,Dq,Lu (Ll hr (C9.mp hx)),A0,Z5]
 unfold Bq;rw[ss,A0,e,A0,AS (by rw[A8,E2];omega),m,A0,iN,A0,TQ hn hg zE ht htl hr];rfl
theorem NS:DS (LX fs gs) (FZ n ts gs) (tN r)=some (wB n gs ts r):=by
 have i0:AB (FZ n ts gs) (.int 0)=some (.int (n:Nat)):=rfl;have i1:AB (LX fs gs) (.int 1)=some (.tup (Ya gs)):=rfl;have i2:AB (FZ n ts gs) (.int 2)=some (.tup (Yq n gs)):=rfl;have i3:AB (FZ n ts gs) (.int 1)=some (.tup (nI ts)):=rfl;have hl:=Lb (n:=n) r;have l6:(nI (Ah n r)).length<=1000000:=by rw[A8];omega
 have m0:DV (EL (tN r)) ((A5 n).map fun k=>.int (k:Nat))=some (nI (Ah n r)):=Cv _ fun t ht=>by
  unfold EL;rw[QS hn hr (C9.mp ht),A0,GB hn,A0];split<;>rfl
 have row:∀(g:Dv->Option Dv) (f:Nat->Nat),(∀a < n,f a < n)->(∀a∈Ah n r,g (.int (a:Nat))=some (.int (nu n r (f a):Nat)))->AZ g (nI (Ah n r))=some (nI ((Ah n r).map fun a=>nu n r (f a))):=fun g f h hg=>by
  rw[Ln hg,nI,L1];rfl
 have e2:∀(f:Nat->Nat->Nat),(Tf.b f).ok n->∀(l:List Nat) (acc:List Dv),(∀a∈l,a < n)->acc.length+l.length<=1000->AO (Bf (tN r) (nI (Ah n r)) ((Tf.b f).dv n)) (nI l) (.lst acc)=some (.lst (acc++l.map fun a=>Lc n r (f a))):=fun f hf l=>by
  induction l with
  | nil=>intro acc _ _;simp[AO]
  | cons a l ih =>
   intro acc xr ha;rw[D9] at ha;have han:=xr a B1;have s1:Bf (tN r) (nI (Ah n r)) ((Tf.b f).dv n) (.int (a:Nat)) (.lst acc)=some (.lst (acc++[Lc n r (f a)])):=by
    unfold Bf;rw[Dq];show Cz (nI (Ah n r)) (E8 (AZ (EJ (tN r) (nI (Ah n r)) ((Tf.b f).dv n) (.int (a:Nat))) (nI (Ah n r))) _)=_;rw[AS l6,row _ (f a) (hf a han) fun b hb=>by
     have hb:=(Ex.mp hb).1;unfold EJ HS;simp only[Dq,bT han,A0,Cg hb,QS hn hr (hf a han b hb),Lu (Ll hr (hf a han b hb)),Z5]]
    show E8 (AY (.lst acc) [Lc n r (f a)]) _=_;rw[Ec (by omega)];rfl
   show(Bf _ _ _ _ _).bind _=_;rw[s1,A0,ih _ (fun x hx=>xr x (A9 _ hx)) (by rw[D0,E4];omega),G0];rfl
 have key:∀gs':Gs,(∀p∈gs',p∈gs)->∀acc:List Dv,acc.length+gs'.length<=1000->AO (DA (tN r) (nI (Ah n r))) (gs'.map fun p=>.tup [.tup [p.1,.int (p.2.ar:Nat)],p.2.dv n]) (.lst acc)=some (.lst (acc++gs'.map fun p=>Uk n r p.2)):=fun gs'=>by
  induction gs' with
  | nil=>intro _ acc _;simp[AO]
  | cons p gs' ih =>
   intro h acc ha;rw[D9] at ha;have hp:=hg p (h p B1);have e1:DA (tN r) (nI (Ah n r)) (.tup [.tup [p.1,.int (p.2.ar:Nat)],p.2.dv n]) (.lst acc)=some (.lst (acc++[Uk n r p.2])):=by
    have j1:AB (.tup [p.1,.int (p.2.ar:Nat)]) (.int 1)=some (.int (p.2.ar:Nat)):=rfl;have al:=Ec (xs:=acc) (y:=Uk n r p.2) (by omega);unfold DA HR;simp only[Hc,j1,A0,BS];cases hp2:p.2 with
    | u f =>
     rw[hp2] at al hp;have hf:∀a < n,f a < n:=hp;rw[if_pos (show decide (((Tf.u f).ar:Int)=1)=true from rfl),Dq];show E8 (Cz (nI (Ah n r)) (E8 (AZ (EK (tN r) (nI (Ah n r)) (Ay n f)) (nI (Ah n r))) _)) _=_;rw[AS l6,row _ f hf fun a ha=>by
      have ha:=(Ex.mp ha).1;unfold EK HU;simp only[Dq,Cg ha,A0,QS hn hr (hf a ha),Lu (Ll hr (hf a ha)),Z5]]
     show E8 (E8 (AY (.lst acc) [Uk n r (.u f)]) _) _=_;rw[al];rfl
    | b f =>
     rw[hp2] at al hp;rw[if_neg (show ¬decide (((Tf.b f).ar:Int)=1)=true from B9)];show E8 (E8 (AO (Bf (tN r) (nI (Ah n r)) ((Tf.b f).dv n)) (nI (Ah n r)) (.lst [])) _) _=_;rw[e2 f hp _ [] (fun a ha=>(Ex.mp ha).1) (by simp;omega),A0,Dq];show E8 (E8 (AY (.lst acc) [Uk n r (.b f)]) _) _=_;rw[al];rfl
   rw[C5,AO,e1,A0,ih (fun q hq=>h q (A9 _ hq)) _ (by rw[D0,E4];omega),G0];rfl
 have m4:AZ (EI (tN r) (nI (Ah n r))) (nI ts)=some (nI (ts.map (nu n r))):=by
  rw[show nI (ts.map (nu n r))=ts.map fun x=>Dv.int (nu n r x:Nat) from L1];exact BX _ fun x hx=>by
   unfold EI HQ;simp only[Dq,QS hn hr (ht x hx),A0,Lu (Ll hr (ht x hx)),Z5]
 unfold DS;rw[i0,A0,FO n (by omega),A0,AS (by rw[A8,E2];omega),m0,A0,i1,A0,i2,A0,LP,A0,key gs (fun _ h=>h) [] (by simp;omega),A0];simp only[CY,A0,i3,items,AS (show(nI ts).length<=1000000 by rw[A8];omega),m4,A8,AL,X9];rfl
end
theorem lH(n:Nat)(gs:Gs)(ts r:List Nat):UV (wB n gs ts r) (wB n gs ts r)=some false:=by
 obtain⟨h1,h2⟩:=GK (l:=gs) (f:=fun p=>Uk n r p.2) (k:=2) fun p _=>by
  cases p.2 with
  | u f=>exact⟨(IJ _).1,Nat.le_succ_of_le (IJ _).2⟩
  | b f =>
   obtain⟨a,b⟩:=GK (l:=Ah n r) (f:=fun a=>Lc n r (f a)) (k:=1) fun a _=>IJ _
   exact⟨by unfold Uk;rw[Dv.cmp];exact a,by unfold Uk;rw[Dv.dep];omega⟩
 have t:=IJ (ts.map (nu n r));refine Lm ?_ ?_
 ·unfold wB;simp only[Dv.cmp,Ap,h1,t.1,R3,sk]
 ·unfold wB;simp only[Dv.dep,Bv];have:=t.2;omega
theorem lI(l:List Nat):UV (tN l) (tN l)=some false:=Lm (IJ l).1 (C4 (IJ l).2 (by decide))
theorem aC(L:List (List Nat)):UV (.lst (L.map tN)) (.lst (L.map tN))=some false:=by
 obtain⟨h1,h2⟩:=GK (l:=L) fun l _=>IJ l
 exact Lm (by rw[Dv.cmp];exact h1) (by rw[Dv.dep];omega)
section
variable {n:Nat} {fs:List Dv} {ts:List Nat} {gs:Gs} (hn:n<=4) (hg:∀p∈gs,p.2.ok n) (zE:gs.length<=3) (ht:∀x∈ts,x < n) (htl:ts.length<=4)
include hn hg zE ht htl
theorem iL:(BH n gs).length<=15:=C4 (O9 _ _) (CO hn).2
theorem PJ:BI (LX fs gs) (FZ n ts gs) (.lst ((BH n gs).map tN))=some (.bl true):=by
 have dl:=iL hn hg zE ht htl;have s1:∀x,CD (LX fs gs) (FZ n ts gs) (.lst ((BH n gs).map tN)) x ()=some (.go ()):=fun x=>by
  have m:AZ Bz ((BH n gs).map tN)=some ((BH n gs).map fun _=>.bl true):=BX _ fun r _=>rfl
  have st:Bx (.lst ((BH n gs).map tN)) (.lst ((BH n gs).map tN))=some false:=by
   have i:Jp (.lst ((BH n gs).map tN)) (.ty "list")=some (.bl true):=rfl
   unfold Bx DP;rw[i,A0,IH,A0,if_neg (by decide),aC,A0,if_neg B9];show E8 (Cz ((BH n gs).map tN) (E8 (AZ Bz ((BH n gs).map tN)) _)) _=_;rw[AS (by rw[A8];omega),m,A0,all_map (q:=fun _=>true),A0,Zz,cond_true,IH,A0];simp
  unfold CD;rw[MM hn hg zE,A0,st,A0,if_neg B9,Dq,Ec (by rw[A8];omega)];rfl
 have s2:∀x∈(BH n gs).map tN,CB (LX fs gs) (FZ n ts gs) x ()=some (.go ()):=fun x hx=>by
  obtain⟨r,hr,rfl⟩:=H8.mp hx;have pt:=(CO hn).1 r (G4.mp hr).1;unfold CB;rw[ON hn hg zE ht htl pt,A0,NS hn hg zE ht htl pt,A0,lH,A0,if_neg B9]
 unfold BI;rw[show BN [.int 2]=some ((A5 2).map fun k=>.int (k:Nat)) from FO 2 (by decide),A0,Hy _ () _ fun x _=>s1 x,A0];simp only[Rs.el,items,A0];rw[Hy _ () _ s2];rfl
theorem SJ(h0:0 < n){f x:Dv}(hf:Fd f):∃f',LZ (LX fs gs) (FZ n ts gs) ((BH n gs).map tN) x f=some (.go f')/\Fd f':=by
 obtain⟨k,f1,e1,b1,zQ⟩:=GW hf (n:=4) (by decide) (by decide);have i0:AB (FZ n ts gs) (.int 0)=some (.int (n:Nat)):=rfl;have pl:∀(l:List Dv) (acc:List (Nat×Nat)) (f:Dv),Fd f->(∀p∈acc,p.1 < n/\p.2 < n)->acc.length+l.length<=100->∃(prs:List (Nat×Nat)) (f':Dv),AO (IW (FZ n ts gs)) l (f,.lst (acc.map pD))=some (f',.lst (prs.map pD))/\Fd f'/\(∀p∈prs,p.1 < n/\p.2 < n)/\prs.length=acc.length+l.length:=fun l=>by
  induction l with
  | nil=>intro acc f hf ha _;exact⟨acc,f,rfl,hf,ha,rfl⟩
  | cons y l ih =>
   intro acc f hf ha hl;rw[D9] at hl;obtain⟨u,f1,e1,b1,h1⟩:=GW hf h0 (C4 hn (by decide));obtain⟨v,f2,e2,b2,h2⟩:=GW h1 h0 (C4 hn (by decide));obtain⟨prs,f',e3,h3,p3,l3⟩:=ih (acc++[(u,v)]) f2 h2 (fun p hp=>(E9.mp hp).elim (ha p) fun z=>by rw[D3.mp z];exact⟨b1,b2⟩) (by rw[D0,E4];omega);refine⟨prs,f',?_,h3,p3,by rw[l3,D0,E4,D9];omega⟩;have e1':AR f (.int (n:Nat))=some (.int (u:Nat),f1):=e1;have e2':AR f1 (.int (n:Nat))=some (.int (v:Nat),f2):=e2;have s:IW (FZ n ts gs) y (f,.lst (acc.map pD))=some (f2,.lst ((acc++[(u,v)]).map pD)):=by
    unfold IW;simp only[Dq,i0,A0,e1',e2',Ec (show(acc.map pD).length<=1000000 by rw[A8];omega)];rw[N0];rfl
   rw[AO,s];exact e3
 obtain⟨prs,f2,e2,hf2,hp,lp⟩:=pl ((A5 k).map fun k=>.int (k:Nat)) [] f1 zQ (fun _ z=>nomatch z) (by rw[A8,E2];simp;omega);have lp':prs.length<=10:=by rw[lp,A8,E2];simp;omega
 obtain⟨ps,e3,h,hj,cl⟩:=JF (fs:=fs) (ts:=ts) hn hg zE (prs:=prs) (d:=.tup (prs.map pD)) hp rfl;have e4:=NT hn hg h hj hp cl lp';have st:Ot ((BH n gs).map tN) (.lst (prs.map pD)) (tN ((A5 n).map (rt ps)))=some false:=by
  have i:Jp (tN ((A5 n).map (rt ps))) (.ty "tuple")=some (.bl true):=rfl
  unfold Ot;rw[i,A0,IH,A0,if_neg (by decide),e4,A0,lI];rfl
 have e1':AR f (.int 4)=some (.int (k:Nat),f1):=e1;refine⟨f2,?_,hf2⟩;unfold LZ;rw[e1',A0,FO k (by omega),A0];show E8 (AO (IW (FZ n ts gs)) _ (f1,.lst (([]:List (Nat×Nat)).map pD))) _=_;rw[e2,A0];show E8 (some (Dv.tup (prs.map pD))) _=_;rw[A0,e3,A0,st,A0,if_neg B9]
end
theorem RI(g:Dv->Dv->Option (Lp Dv Dv Unit))(h:∀x f,Fd f->∃f',g x f=some (.go f')/\Fd f'):∀(xs:List Dv) (f:Dv),Fd f->∃f',Ds g xs f=some (.go f')/\Fd f'
 | [],f,hf=>⟨f,rfl,hf⟩
 | x::xs,f,hf=>by
  obtain⟨f1,e1,h1⟩:=h x f hf;obtain⟨f2,e2,h2⟩:=RI g h xs f1 h1;exact⟨f2,by rw[Ds,e1];exact e2,h2⟩
theorem Tq{ns:List Int}(k:Nat):LY (.xV ns) (.int (k:Nat)) ()=some (.go ()):=by
 obtain⟨f0,e0,hf0⟩:=TV (ns:=ns) (k:=k);obtain⟨fs,ds,f1,e1,l1,_,l2,h2,zQ⟩:=Oz hf0;obtain⟨r,f2,e2,b2,hf2⟩:=GW zQ (n:=4) (by decide) (by decide);obtain⟨cs,tbs,f3,e3,l3,h3,p3,hf3⟩:=Og hf2 (fs:=fs) (ds:=ds) (n:=1+r) (by omega) (by omega) (by omega) (by omega) fun x hx=>by
  obtain⟨a,r,rfl,_,hr⟩:=h2 x hx;exact⟨a,r,rfl,hr⟩
 obtain⟨ts,rfl,jI⟩:=Uh h3;have l3':ts.length=fs.length:=by rw[A8] at l3;exact l3
 obtain⟨T',f4,e4,p4,hf4⟩:∃T' f4,Oy (.tup [.int ((1+r:Nat)),.tup (nI ts),.tup tbs]) f3=some (f4,.tup [.int ((1+r:Nat)),.tup (nI ts),.tup T'])/\Paired (Yb (1+r)) ds T'/\Fd f4:=by
  obtain⟨b,g1,d1,c1,hg1⟩:=GW hf3 (n:=2) (by decide) (by decide);have d1':AR f3 (.int 2)=some (.int (b:Nat),g1):=d1;unfold Oy;simp only[d1',A0,BS];split
  ·obtain⟨T',g2,d2,q2,hg2⟩:=TU hg1 (ts:=.tup (nI ts)) (n:=1+r) (by omega) (by omega) (by omega) p3;exact⟨T',g2,by rw[d2];rfl,q2,hg2⟩
  ·exact⟨tbs,g1,rfl,p3,hg1⟩
 obtain⟨gs,rfl,rfl,hg⟩:=RE p4;have zE:gs.length<=3:=by unfold Ya at l2;rw[A8] at l2;exact l2
 have h0:0 < 1+r:=by omega
 have hn:1+r<=4:=by omega
 have i0:AB (FZ (1+r) ts gs) (.int 0)=some (.int ((1+r:Nat))):=rfl;obtain⟨p1,p2⟩:=CO hn;have m:DV (PC (LX fs gs) (FZ (1+r) ts gs)) ((Bh (1+r)).map tN)=some ((BH (1+r) gs).map tN):=Cv _ fun l hl=>by
  unfold PC;rw[TN hn (p1 l hl) hg,A0,Zz,cond_true,IH,A0];split<;>rfl
 obtain⟨f5,e5,_⟩:=RI (LZ (LX fs gs) (FZ (1+r) ts gs) ((BH (1+r) gs).map tN)) (fun x f hf=>SJ hn hg zE jI (by omega) h0 hf) ((A5 4).map fun k=>.int (k:Nat)) f4 hf4;have e2':AR f1 (.int 4)=some (.int (r:Nat),f2):=e2;unfold LY;simp only[e0,A0,e1,e2',RG,e3,e4,i0,Jy hn,items];rw[AS (by rw[A8];omega),m,A0,PJ hn hg zE jI (by omega),A0,Zz,cond_true,IH,A0];rw[if_neg (by decide),show BN [.int 4]=some ((A5 4).map fun k=>.int (k:Nat)) from FO 4 (by decide),A0,e5];rfl
theorem WU(ns:List Int)(h:ns.length<=63):one ZK [Dv.xV ns]=some (Dv.bl true):=by
 show ZK (Dv.xV ns)=_;have l:CY (.xV ns)=some (.int (ns.length:Nat)):=rfl;have:∃d:Int,(LM (.int 6) (.int (ns.length:Nat))).bind (fun d1=>LN (.int 4) d1)=some (.int d)/\1<=d/\d<=6:=by
  simp only[LM,LN,A0];exact⟨_,rfl,by split<;>(split<;>omega),by split<;>(split<;>omega)⟩
 obtain⟨d,ed,d1,d2⟩:=this;obtain⟨x,ex,ed⟩:=U5.mp ed;have sm:(_root_.R.small 1 && _root_.R.small d)=true:=by unfold _root_.R.small;simp;omega
 have rg:SX [.int 1,.int d]=some ((A5 (d - 1).toNat).map fun k=>.int (1+(k:Nat))):=by simp only[SX,sm,cond_true]
 unfold ZK;rw[l,A0,ex,A0,ed,A0,rg,A0];rw[Hy (LY (.xV ns)) () _ fun y hy=>by
  obtain⟨k,_,rfl⟩:=H8.mp hy;exact Tq (1+k)]
 rfl
theorem OP:BY "table_from" (top 2):=mi (by kernel_rfl) (by intros;kernel_rfl)
theorem OO:BY "world_from" (top 1):=mi (by kernel_rfl) (by intros;kernel_rfl)
theorem OR:FI "__init__" "Joins.__init__" (JB 4 0):=Jh (by kernel_rfl) (by intros;kernel_rfl)
theorem KI:FI "root_of" "Joins.root_of" (JB 4 1):=Jh (by kernel_rfl) (by intros;kernel_rfl)
theorem HI:FI "are_joined" "Joins.are_joined" (JB 4 2):=OT (by kernel_rfl) (by intros;kernel_rfl)
theorem GL:FI "make_joined" "Joins.make_joined" (JB 4 3):=OT (by kernel_rfl) (by intros;kernel_rfl)
theorem Jf:BY "single_tables" (top 7):=Jh (by kernel_rfl) (by intros;kernel_rfl)
theorem UN:BY "join_led" (top 8):=Jh (by kernel_rfl) (by intros;kernel_rfl)
theorem KH:BY "least_bundle" (top 6):=OT (by kernel_rfl) (by intros;kernel_rfl)
theorem Jg:BY "bunched_by_one" (top 10):=Jh (by kernel_rfl) (by intros;kernel_rfl)
theorem UO:BY "bundles" (top 9):=Jh (by kernel_rfl) (by intros;kernel_rfl)
theorem KJ:BY "bundle_world" (top 11):=OT (by kernel_rfl) (by intros;kernel_rfl)
theorem bQ:BY "_law_feed" (top 13):=Jh (by kernel_rfl) (by intros;kernel_rfl)
theorem bN:BY "_law_take" (top 14):=Jh (by kernel_rfl) (by intros;kernel_rfl)
theorem YI:BY "_law_names" (top 15):=Jh (by kernel_rfl) (by intros;kernel_rfl)
theorem YH:BY "_law_shape" (top 16):=mj (by kernel_rfl) (by intros;kernel_rfl)
theorem YG:BY "_law_world" (top 17):=OT (by kernel_rfl) (by intros;kernel_rfl)
theorem bP:BY "_law_flat" (top 18):=Jh (by kernel_rfl) (by intros;kernel_rfl)
theorem bO:BY "_law_goes" (top 19):=OT (by kernel_rfl) (by intros;kernel_rfl)
theorem OQ:BY "_law_partings" (top 20):=mj (by kernel_rfl) (by intros;kernel_rfl)
theorem YJ:BY "_law_least" (top 21):=Jh (by kernel_rfl) (by intros;kernel_rfl)
theorem QP:BY "_law_world_of" (top 22):=OT (by kernel_rfl) (by intros;kernel_rfl)
theorem Hj:BY "_law_bundles_right" (top 23):=OT (by kernel_rfl) (by intros;kernel_rfl)
theorem all_mk{l:W.OpenLaw}{w:J7}{K:W.Frag}{h:H9}{mg:Str->Option Value}{fa:B3}(X:K.In h)(G:h.Ns M7 mg)(hfa:mg "law" = some (.ref fa))(hz:md.bl.all (PZ K)=true)
    (yR:GF K "table_from" (top 2))
    (yQ:GF K "world_from" (top 1))
    (zg:GM K "Joins" "Joins.__init__" "__init__" (JB 4 0))
    (y6:GM K "Joins" "Joins.root_of" "root_of" (JB 4 1))
    (yM:GM K "Joins" "Joins.are_joined" "are_joined" (JB 4 2))
    (xx:GM K "Joins" "Joins.make_joined" "make_joined" (JB 4 3))
    (xa:GF K "single_tables" (top 7))
    (zC:GF K "join_led" (top 8))
    (xk:GF K "least_bundle" (top 6))
    (xb:GF K "bunched_by_one" (top 10))
    (zD:GF K "bundles" (top 9))
    (xl:GF K "bundle_world" (top 11))
    (zAS:GF K "_law_feed" (top 13))
    (zAP:GF K "_law_take" (top 14))
    (zc:GF K "_law_names" (top 15))
    (zZ:GF K "_law_shape" (top 16))
    (zY:GF K "_law_world" (top 17))
    (zAR:GF K "_law_flat" (top 18))
    (zAQ:GF K "_law_goes" (top 19))
    (yS:GF K "_law_partings" (top 20))
    (ze:GF K "_law_least" (top 21))
    (yq:GF K "_law_world_of" (top 22))
    (xU:GF K "_law_bundles_right" (top 23))
    (zBW:GF K "law" (top 24))
    (xN:GC K "Joins" md.fl)
    : ∃fd:R8,(∀(s:A7) (v:Value),tq s fd ⟨[v],[]⟩ [("_law_script", v)])/\∀base:H9,K.In base->base.Ns M7 mg->xI l.prog w K mg base Qb 48 fa fd ["_law_script"] (Qm K):=by
  have e:=hfa.symm.trans (W.mg_of X G zBW.1);cases e;have b:Bs md K mg:=mh X G rfl hz
  refine⟨W.fnOf "law" "law" (Am (top 24)) (Ac (top 24)) (AI (top 24)) .none .none .none (Zg K (DY K "law")) none (Tr K (DY K "law")) .none,fun s v=>.of_eq rfl,fun base _ _=>?_⟩
  have f0:Fs l.prog w K mg base md.fl 0 nF:=Fs.nil;have f1:Fs l.prog w K mg base md.fl 21 lY:=by unfold lY;rw[FH];exact f0.zCv (io:=[]) (F:=fun n=>Lx (AK n)) b (by kernel_rfl) (fun ds=>lZ ds) Nz Ni yR (W.mg_of X G yR.1) OP 20
  have f2:=f1.def (nb:=false) b Ny Nh yQ (W.mg_of X G yQ.1) OO;have f3:=f2.zBM (nb:=true) b OB Nk zg xN (W.mg_of X G xN.1) OR;have f4:=f3.zBM (nb:=false) b KD KA y6 xN (W.mg_of X G xN.1) KI;have f5:=f4.zBM (nb:=true) b HG Gz yM xN (W.mg_of X G xN.1) HI;have f6:=f5.zBM (nb:=true) b GI GD xx xN (W.mg_of X G xN.1) GL;have f7:=f6.def (nb:=false) b Ja JW xa (W.mg_of X G xa.1) Jf;have f8:=f7.def (nb:=false) b Tn TZ zC (W.mg_of X G zC.1) UN;have f9:=f8.def (nb:=false) b KC Jz xk (W.mg_of X G xk.1) KH;have f10:=f9.def (nb:=false) b Jb JX xb (W.mg_of X G xb.1) Jg;have f11:=f10.def (nb:=false) b To Ta zD (W.mg_of X G zD.1) UO;have f12:=f11.def (nb:=false) b KF KB xl (W.mg_of X G xl.1) KJ;have f13:=f12.def (nb:=false) b ai aY zAS (W.mg_of X G zAS.1) bQ;have f14:=f13.def (nb:=false) b ae aV zAP (W.mg_of X G zAP.1) bN;have f15:=f14.def (nb:=false) b XZ XM zc (W.mg_of X G zc.1) YI;have f16:=f15.def (nb:=false) b XY XJ zZ (W.mg_of X G zZ.1) YH;have f17:=f16.def (nb:=false) b XX XI zY (W.mg_of X G zY.1) YG;have f18:=f17.def (nb:=false) b ah aX zAR (W.mg_of X G zAR.1) bP;have f19:=f18.def (nb:=true) b af aW zAQ (W.mg_of X G zAQ.1) bO;have f20:=f19.def (nb:=false) b OA Nj yS (W.mg_of X G yS.1) OQ;have f21:=f20.def (nb:=false) b Xa XN ze (W.mg_of X G ze.1) YJ;have f22:=f21.def (nb:=false) b QG QB yq (W.mg_of X G yq.1) QP;have f23:=f22.def (nb:=true) b Hi Hh xU (W.mg_of X G xU.1) Hj
  have hp:AC (top 24)=(["_law_script"]:List Str):=by kernel_rfl
  have r:=gJ (ps:=AC (top 24)) (nb:=true) (by rw[hp];rfl) (ME b f23 mK mD (Pp zBW)) WU;rw[hp] at r;exact r
theorem walk{l:W.OpenLaw}{q:F0}{loose:List Str}{XP:(Str->Option Value)->H9->Prop}{YP:J7->H9->Prop}{d:vz}{K:tG->W.Frag}(hn:l.most=some 63)(hdf:d.params.defaults=[])
    (hY:∀(w:J7) (h:H9),YP w h->(K w.params).In h)
    (F:∀(w:J7) (mg:Str->Option Value) (fa:B3) (h:H9),(K w.params).In h->h.Ns M7 mg->mg d.name=some (.ref fa) ->
      ∃fd:R8,(∀(s:A7) (u:Value),tq s fd ⟨[u],[]⟩ [("_law_script", u)])/\∀base:H9,(K w.params).In base->base.Ns M7 mg->xI l.prog w (K w.params) mg base Qb 48 fa fd ["_law_script"] (Qm (K w.params))) :
    W.WalkO q loose XP YP l.row.toRowW d [] (fun f vs=>tH f vs):=
  L2.zBC (n:=63) (k:=48) (x := "_law_script") (CX:=fun _=>Qb) (sp:=fun w=>Qm (K w.params)) hn (by decide) hdf ⟨rfl,by decide,by decide,rfl⟩ hY F (fun _ _ a ns hl hO hS=>⟨a,ns,rfl,hS,hl,hO,fun _=>rfl⟩) fun _ _ _ _ _ z=>z
abbrev fO(i:Nat)(x:Str)(pm:Value)(cd:B3):Obj:=⟨.type "function", none,.func (W.fnOf x x (Am (top i)) (Ac (top i)) (AI (top i)) .none .none .none pm none (.ref cd) .none),#[]⟩
abbrev nG(i j:Nat)(x q:Str)(pm:Value)(cd:B3):Obj:=⟨.type "function", none,.func (W.fnOf x q (Am (JB i j)) (Ac (JB i j)) (AI (JB i j)) .none .none .none pm none (.ref cd) .none),#[]⟩
abbrev q10:PySem.Value:=.str "law_shapefree_k63_bundles" 304
abbrev q11:PySem.Value:=.str "shapefree.bundles" 259
abbrev q12:PySem.Value:=.str "shapefree.joins" 201
noncomputable def KP(P:tG):W.Frag:=[
(3,⟨.type "dict", none,.dict #[ke P "__name__" 165 q10,ke P "__doc__" 166 .none,ke P "__package__" 167 .none,ke P "__loader__" 168 (.builtin "__main__.__loader__#opaque"),ke P "__spec__" 169 .none,ke P "__annotations__" 170 (.ref 6),ke P "__builtins__" 171 (.ref 4),ke P "__file__" 173 (.str "/claim/cut.py" 172),ke P "__cached__" 174 .none,ke P "world_from" 194 (.ref 19),ke P "table_from" 200 (.ref 24),ke P "Joins" 258 (.ref 62),ke P "least_bundle" 266 (.ref 71),ke P "single_tables" 272 (.ref 76),ke P "join_led" 285 (.ref 83),ke P "bundles" 291 (.ref 88),ke P "bunched_by_one" 297 (.ref 93),ke P "bundle_world" 303 (.ref 98),ke P "_law_feed" 315 (.ref 105),ke P "_law_take" 325 (.ref 112),ke P "_law_names" 331 (.ref 117),ke P "_law_shape" 337 (.ref 122),ke P "_law_world" 343 (.ref 127),ke P "_law_flat" 349 (.ref 132),ke P "_law_goes" 364 (.ref 139),ke P "_law_partings" 370 (.ref 144),ke P "_law_least" 376 (.ref 149),ke P "_law_world_of" 382 (.ref 154),ke P "_law_bundles_right" 388 (.ref 159),ke P "law" 394 (.ref 164)] 30,#[]⟩),
(19,fO 1 "world_from" (.str "shapefree.worlds" 187) 18),
(18,cO "world_from" 189 2 4 3 15 16 .none .none .none 17 192),
(24,fO 2 "table_from" (.str "shapefree.worlds" 187) 23),
(23,cO "table_from" 195 6 4 3 20 21 .none .none .none 22 198),
(38,nG 4 0 "__init__" "Joins.__init__" q12 37),
(37,⟨.type "code", none,.fields #[.str "__init__" 215,.str "Joins.__init__" 216,.str "/claim/cut.py" 217,.int 13 0,.int 2 0,.int 0 0,.int 0 0,.int 3 0,.ref 32,.bool true,.int 181 0,.ref 33,.none,.ref 34,.ref 35,.ref 36,.int 220 0,.int 13 0,.str "/claim/cut.py" 221],#[]⟩),
(45,nG 4 1 "root_of" "Joins.root_of" q12 44),
(44,⟨.type "code", none,.fields #[.str "root_of" 223,.str "Joins.root_of" 224,.str "/claim/cut.py" 225,.int 16 0,.int 2 0,.int 0 0,.int 0 0,.int 3 0,.ref 39,.bool true,.int 181 0,.ref 40,.none,.ref 41,.ref 42,.ref 43,.int 228 0,.int 16 0,.str "/claim/cut.py" 229],#[]⟩),
(52,nG 4 2 "are_joined" "Joins.are_joined" q12 51),
(51,⟨.type "code", none,.fields #[.str "are_joined" 231,.str "Joins.are_joined" 232,.str "/claim/cut.py" 233,.int 22 0,.int 3 0,.int 0 0,.int 0 0,.int 3 0,.ref 46,.bool true,.int 181 0,.ref 47,.none,.ref 48,.ref 49,.ref 50,.int 237 0,.int 22 0,.str "/claim/cut.py" 238],#[]⟩),
(59,nG 4 3 "make_joined" "Joins.make_joined" q12 58),
(58,⟨.type "code", none,.fields #[.str "make_joined" 240,.str "Joins.make_joined" 241,.str "/claim/cut.py" 242,.int 25 0,.int 3 0,.int 0 0,.int 0 0,.int 3 0,.ref 53,.bool true,.int 181 0,.ref 54,.none,.ref 55,.ref 56,.ref 57,.int 247 0,.int 25 0,.str "/claim/cut.py" 248],#[]⟩),
(71,fO 6 "least_bundle" q11 70),
(70,cO "least_bundle" 261 29 3 3 67 68 .none .none .none 69 264),
(76,fO 7 "single_tables" q11 75),
(75,cO "single_tables" 267 38 2 3 72 73 .none .none .none 74 270),
(83,fO 8 "join_led" q11 82),
(82,cO "join_led" 273 47 2 3 77 78 .none (.ref 79) (.ref 80) 81 283),
(88,fO 9 "bundles" q11 87),
(87,cO "bundles" 286 56 2 3 84 85 .none .none .none 86 289),
(93,fO 10 "bunched_by_one" q11 92),
(92,cO "bunched_by_one" 292 61 2 3 89 90 .none .none .none 91 295),
(98,fO 11 "bundle_world" q11 97),
(97,cO "bundle_world" 298 67 3 3 94 95 .none .none .none 96 301),
(105,fO 13 "_law_feed" q10 104),
(104,cO "_law_feed" 306 72 2 3 99 100 .none (.ref 101) (.ref 102) 103 313),
(112,fO 14 "_law_take" q10 111),
(111,cO "_law_take" 316 82 2 3 106 107 .none (.ref 108) (.ref 109) 110 323),
(117,fO 15 "_law_names" q10 116),
(116,cO "_law_names" 326 90 2 3 113 114 .none .none .none 115 329),
(122,fO 16 "_law_shape" q10 121),
(121,cO "_law_shape" 332 105 1 3 118 119 .none .none .none 120 335),
(127,fO 17 "_law_world" q10 126),
(126,cO "_law_world" 338 111 3 3 123 124 .none .none .none 125 341),
(132,fO 18 "_law_flat" q10 131),
(131,cO "_law_flat" 344 120 2 3 128 129 .none .none .none 130 347),
(139,fO 19 "_law_goes" q10 138),
(138,cO "_law_goes" 350 132 3 3 133 134 .none (.ref 135) (.ref 136) 137 362),
(144,fO 20 "_law_partings" q10 143),
(143,cO "_law_partings" 365 143 1 3 140 141 .none .none .none 142 368),
(149,fO 21 "_law_least" q10 148),
(148,cO "_law_least" 371 152 2 3 145 146 .none .none .none 147 374),
(154,fO 22 "_law_world_of" q10 153),
(153,cO "_law_world_of" 377 162 3 3 150 151 .none .none .none 152 380),
(159,fO 23 "_law_bundles_right" q10 158),
(158,cO "_law_bundles_right" 383 174 3 3 155 156 .none .none .none 157 386),
(164,fO 24 "law" q10 163),
(163,cO "law" 389 184 1 3 160 161 .none .none .none 162 392),
(62,⟨.type "type", none,.cls ⟨"Joins", [.type "object"],[.ref 62,.type "object"],61, "Joins", true,[],[],false,none,false⟩,#[none,none,some (.str "Joins" 203),some (.str "Joins" 211),some (.builtin "object.__new__"),some (.bool true)]⟩),
(61,⟨.type "dict", none,.dict #[ke P "__module__" 210 q12,ke P "__firstlineno__" 214 (.int 11 213),ke P "__init__" 222 (.ref 38),ke P "root_of" 230 (.ref 45),ke P "are_joined" 239 (.ref 52),ke P "make_joined" 249 (.ref 59),ke P "__static_attributes__" 251 (.ref 60),ke P "__dict__" 253 (.ref 63),ke P "__weakref__" 255 (.ref 64),ke P "__doc__" 256 .none] 4,#[]⟩)]
def zCx:vz:=⟨"law", Am (top 24),Ac (top 24),AI (top 24),iO (top 24)⟩
theorem zAg:bx PySem.Challenge.rw_shapefree_k63_bundles 25 [3,19,18,24,23,38,37,45,44,52,51,59,58,71,70,76,75,83,82,88,87,93,92,98,97,105,104,112,111,117,116,122,121,127,126,132,131,139,138,144,143,149,148,154,153,159,158,164,163,62,61] KP 1944:=fun w=>by kernel_rfl
theorem zAf:PySem.Challenge.rw_shapefree_k63_bundles.wellSaid=true:=by decide +kernel
end My
open PySem PySem.W PyProof.Rows
set_option maxRecDepth 100000 in
set_option maxHeartbeats 0 in
theorem PySem.Challenge.cw_shapefree_k63_bundles_holds : PySem.Challenge.rw_shapefree_k63_bundles.Holds := by
  refine L2.zBt (d:=My.zCx) My.zAf My.zAg (fun P=>by kernel_rfl) (by kernel_rfl) (by kernel_rfl) (by kernel_rfl) (by kernel_rfl) (by kernel_rfl) (by decide +kernel) ⟨rfl,rfl,rfl,rfl,rfl,by decide +kernel⟩ (by w_witness2) ?call
  refine My.walk (l:=PySem.Challenge.rw_shapefree_k63_bundles) (d:=My.zCx) (K:=My.KP) rfl (by kernel_rfl) (fun w h Y=>Y) fun w mg fa h KX G hmg=>My.all_mk KX G hmg (by kernel_rfl) (by and_intros<;>kernel_rfl) (by and_intros<;>kernel_rfl) (by and_intros<;>kernel_rfl) (by and_intros<;>kernel_rfl) (by and_intros<;>kernel_rfl) (by and_intros<;>kernel_rfl) (by and_intros<;>kernel_rfl) (by and_intros<;>kernel_rfl) (by and_intros<;>kernel_rfl) (by and_intros<;>kernel_rfl) (by and_intros<;>kernel_rfl) (by and_intros<;>kernel_rfl) (by and_intros<;>kernel_rfl) (by and_intros<;>kernel_rfl) (by and_intros<;>kernel_rfl) (by and_intros<;>kernel_rfl) (by and_intros<;>kernel_rfl) (by and_intros<;>kernel_rfl) (by and_intros<;>kernel_rfl) (by and_intros<;>kernel_rfl) (by and_intros<;>kernel_rfl) (by and_intros<;>kernel_rfl) (by and_intros<;>kernel_rfl) (by and_intros<;>kernel_rfl) (by and_intros<;>kernel_rfl)
