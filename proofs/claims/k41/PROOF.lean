import PyProof.Rows.All
import Wide.All
import OpenK.AllK
import Lean
import PySem.Challenge.RW_shapefree_k41_papers_of_joins
noncomputable section
set_option genInjectivity false
set_option genSizeOf false
set_option Elab.async false
set_option linter.all false
set_option maxRecDepth 100000
set_option maxHeartbeats 4000000
open Option renaming bind_eq_some_iff→O8,bind_none→vk,bind_some→A0,getD_none→vV,getD_some→vY,isSome_iff_exists→S1,isSome_map→R7,isSome_some→k8,map_eq_some_iff→E6,map_some→F7,none_or→uN,or_eq_some_iff→X7,some_or→uM
open PySem renaming Addr→B5,Around→J5,BindsTo→vD,Builtin→u0,CmpOp→m9,Comprehension→V2,DefRec→wd,FuncData→Q8,Heap→G7,IsPart→um,IsZip→uH,KeyKind→uO,Keyword→Z0,Operator→uB,Params→uo,PassesOwn→i8,PlainAttrs→tH,Program→F8,Scope→N4,Shared→A9,Stmt→M4,Within→u5,World→J0,assign→W6,assignEach→M7,assignInOrder→p0,atKey→Z2,attributeBase→N2,backTo→O3,backToKw→sZ,behindInMarks→uX,bindArgs→sY,bindC→wL,bindL→wK,bindName→wH,bootBuiltins→Q3,builtinsNs→wF,cLine→K6,call→uq,call_meets→Y4,callerA→uT,cellsFrom→M9,codeAny→n8,codeAny_builtin→vw,codeAny_mono→tF,compareOp→G4,concat_meets→vE,eqIsQuiet→vQ,eqIsQuiet_byValue→u3,eval→N1,evalPart_none→ua,field→wU,foldedSetIterable→O5,getItem→Y8,getMethod→uS,getitemInPython_of_ne→tj,holding→g8,isInstance→wD,isSubtype_tuple_tuple→X6,keywordEach→W0,lastMarks→vS,letOwnedTupleGo→Z5,list_append→vG,mainGlobals→K9,mem_of_lookup→G3,model→D6,newFunctionEnv→uE,noFill_tuple_add→sg,post_val_or_str→Z7,pushCells→wZ,pushCells_keeps→tR,pyNext→ug,rawInt→wI,seqIndex?→sj,seqIndex_neg→vF,seqIndex_of→vo,seq_tuple_add→uY,setItem→wC,sizeLine_eq→S9,sliceBounds→W3,slot_list_getitem→o6,standAt→u9,starEach→D8,storedH→wj,subscripted→o5,swappedStores→S0,swapsWith→T7,swapsWithSole→Y7,sysModules→Q7,tupleKind→uR,tupleKind_room_in1→V6,typeIs_str→wO,typeOf→wc,unpackItems→vn,valueAt→uU,wpAny→C4,wpAny_Call_Name_kw→M8,wpAny_Call_method_late→tJ,wpAny_Name→wG,wpAny_assign_Name→u6,wpAny_bind→A1,wpAny_callSpecial?_slot→K7,wpAny_call_entry→K2,wpAny_comprehension_free→p9,wpAny_execs_cons→vR,wpAny_execs_nil→Z4,wpAny_field→J6,wpAny_forIn_list→U3,wpAny_getItem_heap→uu,wpAny_getItem_list_slice→p7,wpAny_getItem_str_slice→S7,wpAny_holding→L7,wpAny_isInstance→Y1,wpAny_letGo→vq,wpAny_letTemporaryGo→uI,wpAny_mono→R9,wpAny_newObj_type→H8,wpAny_onRaise→q0,wpAny_operating→v8,wpAny_passesOwn→R5,wpAny_pure→A6,wpAny_pyIter_list→X1,wpAny_pyIter_tuple→ur,wpAny_pyIter_zip→vg,wpAny_pyNext_list_end→tY,wpAny_pyNext_list_item→tD,wpAny_rule→Y0,wpAny_seqItems→N3,wpAny_sequenceKey→o4,wpAny_setField_rec→R1,wpAny_setItem_heap→uv,wpAny_specialOf→R4,wpAny_standAt→Y6,wpAny_truthy_bool→K4,wpAny_tupleItemsOf→j4,wpAny_typeOf→W8,wpAny_updateSeq→v5
open Bool renaming and_eq_true→A2,and_eq_true_iff→O4,and_false→X0,and_self→G6,and_true→wY,beq_eq_decide_eq→X9,decide_and→wA,decide_or→wW,false_and→uA,false_eq_true→B0,false_ne_true→D4,not_eq_true→su,not_eq_true'→N7,not_false→K8,not_true→K3,or_eq_false_iff→uJ,or_eq_true→vz,or_true→vN,true_and→S3,true_or→tM
open List renaming all_cons→I9,all_eq_true→F0,all_map→we,any_cons→Q5,any_eq_true→ve,append_assoc→N6,append_nil→K0,contains_cons→l7,contains_iff_mem→C7,drop_eq_getElem_cons→U6,drop_length→vc,eq_nil_of_length_eq_zero→E9,eraseIdxIfInBounds_toArray→X5,eraseIdx_cons_succ→sk,ext_getElem?→vI,filter→o9,filterMap_cons→P9,filterMap_map→j9,filter_append→V8,find?_cons→P8,find?_some→J3,flatMap_cons→o8,foldl→xD,foldl_cons→V5,forIn_cons→Z6,forIn_nil→uF,getD→sx,getD_eq_getElem?_getD→D7,getElem?_append_left→F9,getElem?_append_right→N5,getElem?_cons_succ→W5,getElem?_eq_getElem→A3,getElem?_eq_none→O1,getElem?_eq_some_iff→B3,getElem?_map→C9,getElem?_of_mem→Z3,getElem?_range→N9,getElem?_replicate→sf,getElem?_reverse→tm,getElem?_set→vM,getElem?_set_ne→D9,getElem?_set_self→E8,getElem?_take_of_lt→p5,getElem_inj→r9,getElem_mem→G2,getElem_of_mem→S4,getElem_range→uz,getElem_set→vi,idxOf→xC,idxOf_cons→tW,idxOf_lt_length_iff→q8,isEmpty_iff→vh,isEmpty_nil→sv,length→U2,length_append→C5,length_cons→C6,length_drop→Y3,length_eraseIdx→uK,length_map→D5,length_nil→M5,length_range→U0,length_reverse→e8,length_set→D1,length_singleton→G0,length_take→S5,length_zip→Z8,lookup→V9,lookup_append→R0,lookup_cons→G1,map→wQ,map_append→a8,map_congr_left→uV,map_cons→B6,map_id'→wm,map_map→X2,map_nil→T3,mem_append→C0,mem_append_left→C3,mem_append_right→B4,mem_cons→B9,mem_cons_of_mem→A7,mem_cons_self→B2,mem_filter→T6,mem_filterMap→uh,mem_map→M6,mem_of_find?_eq_some→R3,mem_of_getElem?→N0,mem_of_mem_take→uL,mem_or_eq_of_mem_set→m5,mem_range→O2,mem_singleton→D2,mem_singleton_self→W4,nil_append→wB,nodup_cons→V4,nodup_iff_pairwise_ne→l5,not_mem_nil→J4,of_mem_zip→tP,pairwise_iff_getElem→O0,range→B1,range'→uG,range'_succ→vZ,range_succ→a6,range_succ_eq_map→T4,replicate→K1,reverse_cons→o7,size_toArray→A8,zipIdx_cons→vf,zipIdx_nil→v7,zip_cons_cons→J8
open Nat renaming add_assoc→V0,add_comm→wk,add_le_add→S8,add_le_add_left→uW,add_le_add_right→J7,le_add_right→U5,le_max_right→vd,le_of_eq→vA,le_of_lt→R6,le_refl→B7,le_succ→U1,le_succ_of_le→vO,le_total→vP,le_trans→A4,lt_irrefl→R8,lt_of_le_of_lt→T5,lt_of_lt_of_le→B8,lt_or_ge→X4,lt_succ_of_lt→vK,lt_succ_self→Y2,max_eq_left→tX,max_eq_right→sy,min_eq_left→Z9,min_eq_right→s8,min_le_right→vU,min_self→tL,ne_of_gt→tB,ne_of_lt→E4,one_ne_zero→tU,sub_eq_zero_of_le→X8,sub_lt→wV,sub_self→wo,succ_le_succ→vW,two_mul→w9,zero_add→N8,zero_le→G5
open PySem.Heap renaming ExtBut→vp,SameBut→Q0,get?_push_of_some→A5,get?_push_size→C8,get?_update_ne→e6,get?_update_other→T2,get?_update_self→T8,lt_size→D3,size_push→L5,size_update→vb
open Option.some renaming inj→D0,injEq→X3
open PySem.Value renaming bool→ue,bytes→wt,float→vm,int→uP,isInt→wq,isStrOf→wX,none→T1,ref→E3,str→uQ,type→M0
open False renaming elim→E5
open PyProof.Rows renaming AllBare→m8,IntsAre→i3,Subscript_→wM,args_tuple_getitem→k4,assignInOrder_cons→j7,assignInOrder_nil→u7,boot_range→wJ,callWith_builtin1→vT,callWith_type1→K5,entry_tuple_getitem→a9,envOfC→uC,envOfC→xA,get?_update_seq→tQ,listItems_at→tN,seqObj→V7,slicePart_none→j8,slot_tuple_getitem→E7,sortedAll→sr,subscriptTail→Y9,subscriptTail_builtinR→tG,tail_any→wN,tupleItemsOf_→uZ,up1→Y5,wpAny_notIn_heap→va
open PySem.Builtin.Slice renaming sliceAdjust→L9,sliceApplied→Q9,sliceFields→l8,slicePartIndex→vv,slicePlaces→G8
open PySem.Builtin.SmallTypes renaming nextOf→G9,ownedTupleHandOut→U9,ownedTupleIsFree→M1
open PySem.Builtin.Tuple renaming tupleExact→H9,tupleHashOf→L8,tupleIsExact→k9,tupleItemsOf→Q6
open PySem.Obj renaming data_mapFields→uw,mapSeq→J9
open List.cons renaming inj→ub,injEq→M3
open PySem.Builtin.Str renaming occurrences→O6,strSliceIndices→T9
open Int renaming ediv_one→wb,emod_lt_of_pos→ux,emod_nonneg→tV,natCast_nonneg→uy,toNat_natCast→O7
open PySem.F renaming args_tuple_add_2→V1,entry_tuple_add→W2,plainAttrs_list→O9,plainAttrs_str→tO,slot_dict_getitem→l9,slot_list_pop→tq,slot_tuple_add→W7,type_list_pop→tu
open PySem.Builtin.List renaming listExtendWith→Q4,listSameRef→p8,listTooLong→S2
open PySem.Str renaming join→wR,ofString→U4
open Array renaming forIn_toList→j5,getElem?_toList→tZ,length_toList→U7,mem_toList_iff→Z1,size_append→vJ,toList→wa
open PySem.Heap.SameBut renaming refl→xF,update→U8
open Sum.inl renaming inj→tw,injEq→V3
open PySem.Calls renaming Constant_str→uf,Name_function_global→j6,callWith_builtin→W9,evalArgs_plain→uD,spliced_cons→uk,spliced_nil→n9
open PySem.Around renaming under→g9
open Iff renaming rfl→i7
open PySem.Heap.IsSliceOf renaming new→k5
open Sum.inr renaming injEq→q9
open PySem.Builtin.Range renaming rangeSize→sX
open PySem.Txt renaming join→wz,slice→so,slice_le→tK
open PySem.SeqAt.EqAt renaming int_str→uc,str_int→ud
open PySem.Code renaming frames→wx,guards→wy,isFrame→vC,isGuard→vB
open List.Pairwise renaming nil→vH
open PySem.IsL renaming update→vX
open PySem.PassesOwn renaming never→v9
open Except renaming error→wg
open PySem.IsRange renaming new→wu
open PySem.Shared renaming heap→w8
open PySem.W.WShape renaming has→xB
open PySem.Within renaming cons→xE
open PySem.W.WData renaming int→xG
open PySem.Heap.DictOf renaming new→xH
namespace L2
open PySem
variable {a:B5} {h:G7} {Q:Bool->A9->Prop}
section
variable {prog:F8} {w:J0} {K:Type} [DecidableEq K]
noncomputable abbrev NK(K:Type):=List (K ⊕ List K)
structure Apart (knd:uO prog w K):Prop where
 l:∀{A:J5} {E:Value->A9->Prop} {s:A9} {k:K} {v:Value} {a:B5} {items:Array Value} {Q:Bool->A9->Prop},A.units < K6->knd.is k v=true->s.heap.IsTuple a items->Q false s->C4 (D6 prog w) A (eqBool v (.ref a)) Q E s
 r:∀{A:J5} {E:Value->A9->Prop} {s:A9} {k:K} {v:Value} {a:B5} {items:Array Value} {Q:Bool->A9->Prop},A.units < K6->knd.is k v=true->s.heap.IsTuple a items->Q false s->C4 (D6 prog w) A (eqBool (.ref a) v) Q E s
inductive zA (knd:uO prog w K) (h:G7):NK K->List Value->Prop
 | nil:zA knd h [] []
 | sc {k:K} {v:Value} {ks:NK K} {vs:List Value}:knd.is k v=true->zA knd h ks vs->zA knd h (.inl k::ks) (v::vs)
 | tp {t:List K} {a:B5} {ks:NK K} {vs:List Value}:IsTupleKey knd h t a->zA knd h ks vs->zA knd h (.inr t::ks) (.ref a::vs)
def Qr(knd:uO prog w K)(h:G7)(ks:NK K)(a:B5):Prop:=∃o items n,h.get? a=some o/\o.cls=.type "tuple" /\ o.data=.seq items n/\zA knd h ks items.toList
variable {knd:uO prog w K}
theorem SM{k:K}(h:knd.is k (.ref a)=true):False:=by have:=knd.byValue _ _ h;simp[carriedByValue] at this
theorem zA.inj{h:G7}:∀{x y:NK K} {vs:List Value},zA knd h x vs->zA knd h y vs->x=y
 | _,_,_,.nil,.nil=>rfl
 | _,_,_,.sc h1 t1,.sc h2 t2=>by rw[knd.inj _ _ _ h1 h2,zA.inj t1 t2]
 | _,_,_,.sc h1 t1,.tp h2 t2=>(SM h1).elim
 | _,_,_,.tp h1 t1,.sc h2 t2=>(SM h2).elim
 | _,_,_,.tp h1 t1,.tp h2 t2=>by rw[h1.inj h2,zA.inj t1 t2]
theorem Qr.typeIs{s:A9}{ks:NK K}(x:Qr knd s.heap ks a):s.TypeIs (.ref a) "tuple" := let ⟨o,_,_,ho,hc,_⟩:=x;⟨o,ho,hc⟩
theorem Qr.inj{x y:NK K}(hx:Qr knd h x a)(hy:Qr knd h y a):x=y:=by
 obtain⟨o,items,n,ho,_,hd,hi⟩:=hx;obtain⟨o',zDv,n',ho',_,hd',zv⟩:=hy;obtain rfl:o=o':=D0 (ho.symm.trans ho');rw[hd] at hd';injection hd' with h1 _
 subst h1;exact hi.inj zv
theorem zA.keeps{h h':G7}{d:B5}{o:Obj}{es ep}(ho:h.get? d=some o)(hd:o.data=.dict es ep)(hs:Q0 d h h'):∀{ks:NK K} {vs:List Value},zA knd h ks vs->zA knd h' ks vs
 | _,_,.nil=>.nil
 | _,_,.sc h1 t=>.sc h1 (t.keeps ho hd hs)
 | _,_,.tp h1 t=>.tp (h1.keeps ho hd hs) (t.keeps ho hd hs)
theorem Qr.keeps{h':G7}{ks:NK K}{d:B5}{o:Obj}{es ep}(x:Qr knd h ks a)(ho:h.get? d=some o)(hd:o.data=.dict es ep)(hs:Q0 d h h'):Qr knd h' ks a:=by
 obtain⟨o',items,n,ho',hc,hd',hi⟩:=x;have hne:a≠d:=by
  rintro rfl;obtain rfl:o'=o:=D0 (ho'.symm.trans ho);rw[hd] at hd';exact nomatch hd'
 exact⟨o',items,n,(hs.2 a hne).trans ho',hc,hd',hi.keeps ho hd hs⟩
noncomputable def DK(knd:uO prog w K):K ⊕ List K->Int
 | .inl k=>knd.hash k
 | .inr t=>tupleKeyHash knd t
noncomputable def Ef:K ⊕ List K->Nat
 | .inl _=>1
 | .inr t=>t.length+1
def YG(ks:NK K):Nat:=(ks.map Ef).sum+1
def XR(knd:uO prog w K)(ks:NK K):Int:=reduceHash (L8 (ks.map (DK knd)))
variable {A:J5} {E:Value->A9->Prop} {s:A9}
theorem Vv{ks:NK K}{Q:Int->A9->Prop}(hu:A.units+1 < K6)(hk:Qr knd s.heap ks a)(h:Q (XR knd ks) { s with toks:=s.toks+YG ks }) :
    C4 (D6 prog w) A (pyHash (.ref a)) Q E s:=by
  have hT:=hk.typeIs;obtain⟨o,items,n,ho,_,hd,hi⟩:=hk;unfold pyHash
  first | unfold pyHashByItsType | skip
  first | refine A1 (wpAny_cRoomFor_or (.inr (by omega)) ?_) | skip
  refine A1 (R4 hT F.slot_tuple_hash.lookup ?_)
  show C4 _ _ (if(some (Value.builtin "tuple.__hash__") == some T1)=true then _ else _) Q E s
  rw[if_neg (by rw[beq_builtin_none];exact D4)];refine A1 (R4 hT F.slot_tuple_hash.lookup ?_)
  show C4 _ _ (callSpecialIfBoundUnlessNone? (.ref a) "__hash__" _ >>= _) Q E s
  refine A1 (wpAny_callSpecialIfBoundUnlessNone?_slot hT F.slot_tuple_hash (K2 F.slot_tuple_hash hT F.entry_tuple_hash ?_ (F.args_tuple_hash_1 _)));show C4 _ _ (Q6 (.ref a) >>= _) _ _ s;refine A1 (j4 ho hd ?_);refine A1 ?_;rw[<- j5];refine U3 _
    (fun rest (b:Array Int) s'=>∃done left,ks=done++left/\zA knd s.heap left rest/\b.toList=done.map (DK knd)/\s'={ s with toks:=s.toks+(done.map Ef).sum })
    _ ?_ ?_ _ _ ⟨[],ks,rfl,hi,rfl,rfl⟩
  · rintro x rest b s' ⟨done,left,rfl,hl,hb,rfl⟩;cases hl with
    | @sc k _ yL _ h1 zu =>
      refine A1 (knd.pyHash h1 ?_);have e:{ s with toks:=s.toks+(done.map Ef).sum+1 }={ s with toks:=s.toks+((done++[Sum.inl k]).map Ef).sum }:=by
        simp[Ef,V0]
      first
        | exact A6 ⟨done++[.inl k],yL,by simp,zu,by simp[hb,DK],e⟩
        | exact A1 (A6 (A6 ⟨done++[.inl k],yL,by simp,zu,by simp[hb,DK],e⟩))
    | @tp t a' yL _ h1 zu =>
      have e:{ s with toks:=s.toks+(done.map Ef).sum+(t.length+1) }={ s with toks:=s.toks+((done++[Sum.inr t]).map Ef).sum }:=by
        simp[Ef,V0]
      refine A1 (wpAny_pyHash_tuple (knd:=knd) hu h1 ?_)
      first
        | exact A6 ⟨done++[.inr t],yL,by simp,zu,by simp[hb,DK],e⟩
        | exact A1 (A6 (A6 ⟨done++[.inr t],yL,by simp,zu,by simp[hb,DK],e⟩))
  · rintro b s' ⟨done,left,rfl,hl,hb,rfl⟩;cases hl;rw[K0] at h;show C4 _ _ (retInt (L8 b.toList)) _ _ _;rw[hb];refine wpAny_ret_mkInt ?_;show C4 _ _ (if(decide (-(2:Int) ^ 63<=L8 (done.map (DK knd))) && decide (L8 (done.map (DK knd)) < 2 ^ 63))=true then _ else _) Q E _;unfold XR reduceHash YG at h
    by_cases hr:(decide (-(2:Int) ^ 63<=L8 (done.map (DK knd))) && decide (L8 (done.map (DK knd)) < 2 ^ 63))=true
    · rw[if_pos hr];rw[if_pos hr] at h;exact A6 (by simpa[V0] using h)
    · rw[if_neg hr];rw[if_neg hr] at h;exact A1 (Y0 (A6 (by simpa[V0] using h)))
theorem IsTupleKey.isT{t:List K}(x:IsTupleKey knd h t a):∃items,h.IsTuple a items:=let ⟨o,items,n,ho,hc,hd,_⟩:=x;⟨items,o,ho,hc,n,hd⟩
theorem bz{k1 k2:K ⊕ List K}{u v:Value}{xs ys:List Value}{x y:NK K}(ap:Apart knd)(hu:A.units < K6)(hx:zA knd s.heap (k1::x) (u::xs))(hy:zA knd s.heap (k2::y) (v::ys))(h:Q (decide (k1=k2)) s):C4 (D6 prog w) A (eqBool u v) Q E s:=by
 cases hx with
 | @sc a _ _ _ h1 _ =>
  cases hy with
  | @sc b _ _ _ h2 _ =>
   refine knd.eqBool h1 h2 ?_;have:decide (a=b)=decide ((Sum.inl a:K ⊕ List K)=Sum.inl b):=by by_cases e:a=b<;>simp[e]
   rw[this];exact h
  | @tp t b _ _ h2 _ =>
   obtain⟨xJ,hi⟩:=IsTupleKey.isT h2;refine ap.l hu h1 hi ?_;have:decide ((Sum.inl a:K ⊕ List K)=Sum.inr t)=false:=by simp
   rw[<- this];exact h
 | @tp t a _ _ h1 _ =>
  cases hy with
  | @sc b _ _ _ h2 _ =>
   obtain⟨xJ,hi⟩:=IsTupleKey.isT h1;refine ap.r hu h2 hi ?_;have:decide ((Sum.inr t:K ⊕ List K)=Sum.inl b)=false:=by simp
   rw[<- this];exact h
  | @tp t' b _ _ h2 _ =>
   refine wpAny_eqBool_tuple (knd:=knd) hu h1 h2 ?_;have:decide (t=t')=decide ((Sum.inr t:K ⊕ List K)=Sum.inr t'):=by by_cases e:t=t'<;>simp[e]
   rw[this];exact h
theorem zA.tail{k:K ⊕ List K}{ks:NK K}{v:Value}{vs:List Value}(x:zA knd h (k::ks) (v::vs)):zA knd h ks vs:=by
 cases x with
 | sc _ t=>exact t
 | tp _ t=>exact t
theorem zA.split{ks:NK K}{v:Value}{vs:List Value}(x:zA knd h ks (v::vs)):∃k r,ks=k::r:=by
 cases x with
 | sc _ t=>exact⟨_,_,rfl⟩
 | tp _ t=>exact⟨_,_,rfl⟩
theorem zA.len{h:G7}:∀{ks:NK K} {vs:List Value},zA knd h ks vs->ks.length=vs.length
 | _,_,.nil=>rfl
 | _,_,.sc _ t=>by simp[t.len]
 | _,_,.tp _ t=>by simp[t.len]
theorem PF{x y:NK K}{b:B5}{P:Fin->A9->Prop}(ap:Apart knd)(hu:A.units < K6)(hx:Qr knd s.heap x a)(hy:Qr knd s.heap y b)(h:P (.done (.ret (.bool (decide (x=y))))) s) :
    C4 (D6 prog w) A (u0.«tuple.__eq__» ⟨[.ref a,.ref b],[]⟩) P E s:=by
  have hTb:=hy.typeIs;obtain⟨oa,xs,na,hoa,_,hda,hia⟩:=hx;obtain⟨ob,ys,nb,hob,_,hdb,hib⟩:=hy
  show C4 _ _ (wD (.ref b) (.type "tuple") >>= _) _ _ s
  refine A1 (Y1 hTb X6 ?_);simp only[K3,B0,if_false];refine A1 (j4 hoa hda ?_);refine A1 (j4 hob hdb ?_);refine A1 ?_;refine U3 _
    (fun rest r s'=>r.1=none/\s'=s/\∃x' y' xs' ys',rest=List.zip xs' ys'/\zA knd s.heap x' xs'/\zA knd s.heap y' ys'/\decide (x'=y')=decide (x=y)/\(xs'.length == ys'.length)=(xs.size == ys.size))
    _ ?_ ?_ _ _ ⟨rfl,rfl,x,y,xs.toList,ys.toList,rfl,hia,hib,rfl,by simp⟩
  · rintro⟨u,v⟩ rest r s' ⟨hr,rfl,x',y',xs',ys',hz,hx',hy',zCF,hlen⟩;cases xs' with
    | nil=>simp at hz
    | cons u' zDi =>
      cases ys' with
      | nil=>simp at hz
      | cons v' zDh =>
        simp only[J8,M3,Prod.mk.injEq] at hz;obtain⟨⟨rfl,rfl⟩,rfl⟩:=hz;obtain⟨k1,x'',rfl⟩:=hx'.split;obtain⟨k2,y'',rfl⟩:=hy'.split;refine A1 (bz ap hu hx' hy' ?_)
        by_cases hk:k1=k2
        · subst hk;rw[decide_eq_true rfl];simp only[K3,B0,if_false];refine A6 ⟨rfl,rfl,x'',y'',zDi,zDh,rfl,hx'.tail,hy'.tail,?_,by simpa using hlen⟩;rw[<- zCF]
          by_cases hxy:x''=y''
          · simp[hxy]
          · simp[hxy]
        · rw[decide_eq_false hk];simp only[K8,if_true];have hf:decide (x=y)=false:=by rw[<- zCF];simp[hk]
          rw[hf] at h;exact A1 (A6 (A6 (A6 h)))
  · rintro⟨r1,r2⟩ s' ⟨hr,rfl,x',y',xs',ys',hz,hx',hy',zCF,hlen⟩;simp only at hr;subst hr;refine A6 ?_;have zEK:(xs.size == ys.size)=decide (x=y):=by
      rw[<- zCF,<- hlen];have lx:=hx'.len;have ly:=hy'.len;cases xs' with
      | nil =>
        cases ys' with
        | nil =>
          cases hx';cases hy';simp
        | cons _ _ =>
          cases hx';obtain⟨k2,y'',rfl⟩:=hy'.split;simp
      | cons _ _ =>
        cases ys' with
        | nil =>
          cases hy';obtain⟨k2,y'',rfl⟩:=hx'.split;simp
        | cons _ _=>simp at hz
    show P (.done (.ret (.bool (xs.size == ys.size)))) s';rw[zEK];exact h
theorem YC{x y:NK K}{b:B5}(ap:Apart knd)(hu:A.units+1 < K6)(hx:Qr knd s.heap x a)(hy:Qr knd s.heap y b)(h:Q (decide (x=y)) s) :
    C4 (D6 prog w) A (eqBool (.ref a) (.ref b)) Q E s:=by
  unfold eqBool
  try with_reducible refine L7 ?_
  show C4 _ _ (if(E3 a == E3 b)=true then _ else _) Q E s
  by_cases hab:(E3 a == E3 b)=true
  · rw[if_pos hab];have e:a=b:=by have:=eq_of_beq hab;injection this
    subst e;obtain rfl:=hx.inj hy;exact A1 (Y0 (A6 (by simpa using h)))
  · rw[if_neg hab];exact A1 (wpAny_richCompare_same_room (op:=.Eq) hx.typeIs hy.typeIs F.slot_tuple_eq
      (K2 F.slot_tuple_eq hx.typeIs F.entry_tuple_eq (PF ap hu hx hy ⟨_,rfl,(fun e=>nomatch e),K4 h⟩) (F.args_tuple_eq_2 _ _)) (by omega))
theorem aS{n:Nat}{ks:List K}(hk:IsTupleKey knd s.heap ks a)(h:Q true s):C4 (D6 prog w) A (vQ (n+1) (.ref a)) Q E s:=by
 have hT:=hk.typeIs;obtain⟨o,items,nn,ho,_,hd,hi⟩:=hk;unfold vQ;refine A1 (R4 hT F.slot_tuple_eq.lookup ?_)
 show C4 _ _ (wD (.ref a) (.type "tuple") >>= _) _ _ s
 refine A1 (Y1 hT X6 ?_);simp only[K3,B0,if_false];refine A1 (N3 ho hd ?_);refine A1 ?_;show C4 _ _ (forIn items _ _) _ _ s;rw[<- j5];refine U3 _ (fun rest r s'=>r.1=none/\s'=s/\∀v∈rest,carriedByValue v=true) _ ?_ ?_ _ _ ⟨rfl,rfl,hi.byValue⟩
 ·rintro v rest r s' ⟨hr,rfl,zBN⟩;rw[u3 _ (zBN v B2)];refine A1 (A6 ?_);simp only[K3,B0,if_false];exact A6 ⟨rfl,rfl,fun u hu'=>zBN u (A7 _ hu')⟩
 ·rintro⟨r1,r2⟩ s' ⟨hr,rfl,_⟩;simp only at hr;subst hr;exact A6 h
theorem aT{ks:NK K}(hk:Qr knd s.heap ks a)(h:Q true s):C4 (D6 prog w) A (vQ 8 (.ref a)) Q E s:=by
 have hT:=hk.typeIs;obtain⟨o,items,nn,ho,_,hd,hi⟩:=hk;unfold vQ;refine A1 (R4 hT F.slot_tuple_eq.lookup ?_)
 show C4 _ _ (wD (.ref a) (.type "tuple") >>= _) _ _ s
 refine A1 (Y1 hT X6 ?_);simp only[K3,B0,if_false];refine A1 (N3 ho hd ?_);refine A1 ?_;show C4 _ _ (forIn items _ _) _ _ s;rw[<- j5];refine U3 _ (fun rest r s'=>r.1=none/\s'=s/\∃l,zA knd s.heap l rest) _ ?_ ?_ _ _ ⟨rfl,rfl,ks,hi⟩
 ·rintro v rest r s' ⟨hr,rfl,l,hl⟩;cases hl with
  | @sc k _ yL _ h1 t =>
   rw[u3 _ (knd.byValue _ _ h1)];refine A1 (A6 ?_);simp only[K3,B0,if_false];exact A6 ⟨rfl,rfl,yL,t⟩
  | @tp t' a' yL _ h1 t =>
   refine A1 (aS (n:=6) h1 ?_);simp only[K3,B0,if_false];exact A6 ⟨rfl,rfl,yL,t⟩
 ·rintro⟨r1,r2⟩ s' ⟨hr,rfl,_⟩;simp only at hr;subst hr;exact A6 h
end
def CF{prog:F8}{w:J0}{K:Type} [DecidableEq K] (knd:uO prog w K) (ap:Apart knd):HeapKind prog w (NK K) where
 is:=Qr knd
 hash:=XR knd
 draws:=YG
 room:=fun A=>A.units+1 < K6
 inj:=fun hx hy=>hx.inj hy
 keeps:=fun x ho hd hs=>x.keeps ho hd hs
 pyHash:=fun hu hk h=>Vv hu hk h
 eqBool:=fun hu hx hy h=>YC ap hu hx hy h
 quiet:=fun hk h=>aT hk h
end L2
namespace L2
open PySem PySem.Spec PyProof.Rows
noncomputable abbrev Ak:=Sum Int Str
def Kx:Ak->Value->Bool
 | .inl k,v=>wq k v
 | .inr x,v=>wX x v
def qT(w:J0):Ak->Int
 | .inl k=>hashInt k
 | .inr x=>hashStr w x
theorem AZ:∀{k:Ak} {v:Value},Kx k v=true->(∃i t,k=Sum.inl i/\v=uP i t)\/(∃x t,k=Sum.inr x/\v=uQ x t)
 | .inl i,v,h=>by
  obtain⟨t,e⟩:=Value.isInt_shape (k:=i) (v:=v) h;exact .inl ⟨i,t,rfl,e⟩
 | .inr x,v,h=>by
  obtain⟨t,e⟩:=Value.isStrOf_shape (x:=x) (v:=v) h;exact .inr ⟨x,t,rfl,e⟩
theorem Th(i:Int)(t:Tok):Kx (.inl i) (.int i t)=true:=by simp[Kx,wq]
theorem Tf(x:Str)(t:Tok):Kx (.inr x) (.str x t)=true:=by simp[Kx,wX]
theorem jP(a b:Int):decide ((Sum.inl a:Ak)=Sum.inl b)=(a == b):=by
 by_cases e:a=b
 ·subst e;simp
 ·have h:¬(Sum.inl a:Ak)=Sum.inl b:=fun q=>e (tw q)
  rw[decide_eq_false h];exact(beq_eq_false_iff_ne.mpr e).symm
theorem jM(a b:Str):decide ((Sum.inr a:Ak)=Sum.inr b)=decide (a=b):=by
 by_cases e:a=b
 ·subst e;simp
 ·have h:¬(Sum.inr a:Ak)=Sum.inr b:=fun q=>e (Sum.inr.inj q)
  rw[decide_eq_false h,decide_eq_false e]
theorem jO(a:Int)(b:Str):decide ((Sum.inl a:Ak)=Sum.inr b)=false:=decide_eq_false (fun q=>nomatch q)
theorem jN(a:Str)(b:Int):decide ((Sum.inr a:Ak)=Sum.inl b)=false:=decide_eq_false (fun q=>nomatch q)
def AW(prog:F8)(w:J0):PySem.KeyKind prog w Ak where
 is:=Kx
 hash:=qT w
 inj:=fun v a b ha hb=>by
  rcases AZ ha with⟨i,t,rfl,rfl⟩ | ⟨x,t,rfl,rfl⟩
  ·rcases AZ hb with⟨j,u,rfl,e⟩ | ⟨y,u,rfl,e⟩
   ·injection e with e1 _;rw[e1]
   ·exact nomatch e
  ·rcases AZ hb with⟨j,u,rfl,e⟩ | ⟨y,u,rfl,e⟩
   ·exact nomatch e
   ·injection e with e1 _;rw[e1]
 byValue:=fun k v h=>by
  rcases AZ h with⟨i,t,rfl,rfl⟩ | ⟨x,t,rfl,rfl⟩<;>rfl
 pyHash:=fun hv h=>by
  rcases AZ hv with⟨i,t,rfl,rfl⟩ | ⟨x,t,rfl,rfl⟩
  ·exact wpAny_pyHash_int h
  ·exact wpAny_pyHash_str h
 eqBool:=fun hu hv h=>by
  rcases AZ hu with⟨i,t,rfl,rfl⟩ | ⟨x,t,rfl,rfl⟩
  ·rcases AZ hv with⟨j,u,rfl,rfl⟩ | ⟨y,u,rfl,rfl⟩
   ·rw[jP] at h;exact wpAny_eqBool_int h
   ·rw[jO] at h;exact uc i t y u _ _ _ _ h
  ·rcases AZ hv with⟨j,u,rfl,rfl⟩ | ⟨y,u,rfl,rfl⟩
   ·rw[jN] at h;exact ud x t j u _ _ _ _ h
   ·rw[jM] at h;exact wpAny_eqBool_str h
 «strs»:=fun k x t v h=>by
  rcases AZ h with⟨i,u,rfl,e⟩ | ⟨y,u,rfl,e⟩
  ·exact nomatch e
  ·injection e with e1 _
   subst e1;cases v<;>rfl
theorem BZ(prog:F8)(w:J0):Apart (AW prog w) where
 l:=fun hu hk ht h=>by
  rcases AZ hk with⟨i,t,rfl,rfl⟩ | ⟨x,t,rfl,rfl⟩
  ·exact SeqAt.EqAt.int_tuple i t ht hu _ _ _ _ h
  ·exact SeqAt.EqAt.str_tuple x t ht hu _ _ _ _ h
 r:=fun hu hk ht h=>by
  rcases AZ hk with⟨i,t,rfl,rfl⟩ | ⟨x,t,rfl,rfl⟩
  ·exact SeqAt.EqAt.tuple_int i t ht hu _ _ _ _ h
  ·exact SeqAt.EqAt.tuple_str x t ht hu _ _ _ _ h
theorem Nn(prog:F8)(w:J0)(i:Int)(t:Tok):(AW prog w).is (.inl i) (.int i t)=true:=Th i t
theorem Nl(prog:F8)(w:J0)(x:Str)(t:Tok):(AW prog w).is (.inr x) (.str x t)=true:=Tf x t
set_option genInjectivity true in
inductive V where
 | xQ | bl (b:Bool) | int (i:Int) | str (x:Str) | byt (b:Array UInt8) | flt (b:UInt64) | ref (a:B5) | ty (n:String)
 deriving DecidableEq
def RelV:V->Value->Prop
 | .xQ,u=>u=T1
 | .bl b,u=>u=ue b
 | .int i,u=>∃t,u=uP i t
 | .str x,u=>∃t,u=uQ x t
 | .byt b,u=>∃t,u=wt b t
 | .flt b,u=>∃t,u=vm b t
 | .ref a,u=>u=E3 a
 | .ty n,u=>u=M0 n
abbrev AF:List V->List Value->Prop:=Paired RelV
variable {us:List Value}
theorem AF.length{xs:List V}(r:AF xs us):xs.length=us.length:=Paired.length r
theorem AF.get:∀{xs:List V} {us:List Value} {i:Nat} {x:V},AF xs us->xs[i]?=some x->∃u,us[i]?=some u/\RelV x u
 | _,_,_,_,.nil,e=>by simp at e
 | _,_,0,_,.cons r _,e=>by simp at e;subst e;exact⟨_,rfl,r⟩
 | _,_,i+1,x,.cons _ t,e=>by
  obtain⟨u,h1,h2⟩:=AF.get (i:=i) (x:=x) t (by simpa using e);exact⟨u,by simpa using h1,h2⟩
theorem AF.set{x:V}{u:Value}(r:RelV x u):∀{xs:List V} {us:List Value} (i:Nat),AF xs us->AF (xs.set i x) (us.set i u)
 | _,_,_,.nil=>.nil
 | _,_,0,.cons _ t=>.cons r t
 | _,_,i+1,.cons q t=>.cons q (AF.set r i t)
theorem AF.append:∀{xs ys:List V} {us ws:List Value},AF xs us->AF ys ws->AF (xs++ys) (us++ws)
 | _,_,_,_,.nil,s=>s
 | _,_,_,_,.cons r t,s=>.cons r (AF.append t s)
theorem AF.take:∀{xs:List V} {us:List Value} (n:Nat),AF xs us->AF (xs.take n) (us.take n)
 | _,_,0,_=>.nil
 | _,_,_+1,.nil=>.nil
 | _,_,n+1,.cons r t=>.cons r (AF.take n t)
theorem AF.drop:∀{xs:List V} {us:List Value} (n:Nat),AF xs us->AF (xs.drop n) (us.drop n)
 | _,_,0,r=>r
 | _,_,_+1,.nil=>.nil
 | _,_,n+1,.cons _ t=>AF.drop n t
def ED:Option V->Option Value->Prop
 | some v,some u=>RelV v u
 | none,none=>True
 | _,_=>False
def KV{κ:Type}:List (κ×V)->List (κ×Value)->Prop:=Paired fun(p:κ×V) (q:κ×Value)=>p.1=q.1/\RelV p.2 q.2
def kV:Ak->V
 | .inl i=>.int i
 | .inr x=>.str x
inductive HO where
 | lst (xs:List V)
 | tup (xs:List V)
 | dK (xK:List (Ak×V)) | dT (xK:List (List Ak×V)) | dN (xK:List (NK Ak×V))
 | set (S:Int->Bool) (n:Nat)
 | ins (C dx:B5) (fs:List (Str×V))
 | own (x:B5)
 | xd (fs:List (Str×V))
 | met (f x:B5)
 | rng (lo hi:Int)
 | frz (o:Obj) (u:HO)
 | tbl (ps:Array Value)
 | ext (φ:G7->Prop)
noncomputable abbrev Hp:=B5->Option HO
def Zn(H:Hp):NK Ak->List V->Prop
 | [],vs=>vs=[]
 | .inl k::ks,vs=>∃r,vs=kV k::r/\Zn H ks r
 | .inr t::ks,vs=>∃c r,vs=.ref c::r/\H c=some (.tup (t.map kV))/\Zn H ks r
def Oz(H:Hp)(k:NK Ak)(b:B5):Prop:=∃vs,H b=some (.tup vs)/\Zn H k vs
theorem Zn.keeps{H H':Hp}(ht:∀b xs,H b=some (.tup xs)->H' b=some (.tup xs)):∀{k:NK Ak} {vs:List V},Zn H k vs->Zn H' k vs
 | [],_,h=>h
 | .inl _::ks,_,⟨r,e,h⟩=>⟨r,e,Zn.keeps ht h⟩
 | .inr _::ks,_,⟨c,r,e,h1,h⟩=>⟨c,r,e,ht _ _ h1,Zn.keeps ht h⟩
variable {H:Hp} {b:B5}
theorem Oz.keeps{H':Hp}(ht:∀b xs,H b=some (.tup xs)->H' b=some (.tup xs)){k:NK Ak}(h:Oz H k b):Oz H' k b:=let ⟨vs,e,n⟩:=h;⟨vs,ht _ _ e,n.keeps ht⟩
def upd(H:Hp)(a:B5)(o:HO):Hp:=fun b=>if b=a then some o else H b
variable {a:B5} {o:HO}
theorem AH:upd H a o a=some o:=by unfold upd;rw[if_pos rfl]
theorem AG(h:b≠a):upd H a o b=H b:=by unfold upd;rw[if_neg h]
theorem eJ{u:HO}(h:H a=some o)(h':H b=some u)(d:o≠u):a≠b:=by
 intro e;subst e;rw[h] at h';exact d (D0 h')
theorem Bp(h:H a=some o)(h':H b=none):a≠b:=by
 intro e;subst e;rw[h] at h';cases h'
def KG(h:G7)(a:B5)(items:Array Value):Prop:=∃o,h.get? a=some o/\o.cls=.type "tuple" /\ o.dict=none/\∃n,o.data=.seq items n
variable {h:G7}
theorem KG.tup{items:Array Value}(x:KG h a items):IsTup h a items:=let ⟨o,e,c,_,d⟩:=x;⟨o,e,c,d⟩
theorem KG.new(h:G7)(items:Array Value):KG (h.push { cls:=.type "tuple", data:=.seq items }) h.objs.size items:=⟨_,C8 _ rfl,rfl,rfl,_,rfl⟩
section
variable (P:F8) (w:J0)
def Ae(H:Hp)(h:G7)(a:B5):HO->Prop
  | .lst xs=>xs.length<=sizeLine/\∃(xJ:List Value) (n:Nat),AF xs xJ/\h.get? a=some { cls:=.type "list", data:=.seq xJ.toArray n }
  | .tup xs=>xs.length<=sizeLine/\∃xJ:List Value,AF xs xJ/\KG h a xJ.toArray
  | .dK xK=>xK.length<=sizeLine/\(a == Q7)=false/\∃vs,KV xK vs/\h.DictOf (AW P w) a vs
  | .dT xK=>xK.length<=sizeLine/\(a == Q7)=false/\∃xs:List (List Ak×B5×Value),
      Paired (fun(p:List Ak×V) (q:List Ak×B5×Value)=>p.1=q.1/\H q.2.1=some (.tup (p.1.map kV))/\RelV p.2 q.2.2) xK xs /\
      ∃o es ep,h.get? a=some o/\o.ExactDict/\o.data=.dict es ep/\es.toList=xs.map (entryOfKey (uR (AW P w)))/\(xs.map (·.1)).Nodup
  | .dN xK=>xK.length<=sizeLine/\(a == Q7)=false/\∃xs:List (NK Ak×B5×Value),
      Paired (fun(p:NK Ak×V) (q:NK Ak×B5×Value)=>p.1=q.1/\Oz H p.1 q.2.1/\RelV p.2 q.2.2) xK xs /\
      ∃o es ep,h.get? a=some o/\o.ExactDict/\o.data=.dict es ep/\es.toList=xs.map (entryOfKey (CF (AW P w) (BZ P w)))/\(xs.map (·.1)).Nodup
  | .set S n=>h.SetOf (intKind P w) a S n
  | .ins C dx fs=>H dx=some (.own a)/\fs.length<=1000/\dx≠a/\h.get? a=some (W.instObj C dx) /\
      ∃mA,h.Ns1 dx mA/\(∀f,ED (fs.lookup f) (mA f))/\u5 mA (fs.map (·.1))
  | .own _=>∃o,h.get? a=some o
  | .xd fs=>∃mA,h.Ns1 a mA/\∀f,ED (fs.lookup f) (mA f)
  | .rng lo hi=>∃t u v,h.get? a=some { cls:=.type "range", data:=.fields #[.int lo t,.int hi u,.int 1 v] }
  | .frz o u=>h.get? a=some o/\Ae H h a u
  | .tbl ps=>h.get? a=some { cls:=.none,data:=.fields ps }
  | .met f x=>h.get? a=some (W.methodObj (.ref f) (.ref x))
  | .ext φ=>φ h/\(∃o,h.get? a=some o)/\∀h1 h2:G7,φ h1->(∀o,h1.get? a=some o->h2.get? a=some o)->φ h2
def FM(H:Hp)(h:G7):Prop:=∀a o,H a=some o->Ae P w H h a o
end
section
variable {P:F8} {w:J0} {H H':Hp} {h h':G7} {a:B5} {o:HO}
theorem Ae.lt(x:Ae P w H h a o):a < h.objs.size:=by
 cases o with
 | lst xs=>obtain⟨_,_,_,_,e⟩:=x;exact D3 e
 | tup xs=>obtain⟨_,_,_,p⟩:=x;exact p.tup.lt
 | dK xK=>obtain⟨_,_,_,_,o,_,_,e,_⟩:=x;exact D3 e
 | dT xK=>obtain⟨_,_,_,_,o,_,_,e,_⟩:=x;exact D3 e
 | dN xK=>obtain⟨_,_,_,_,o,_,_,e,_⟩:=x;exact D3 e
 | set S n=>obtain⟨o,_,_,_,e,_⟩:=x;exact D3 e
 | ins C dx fs=>obtain⟨_,_,_,e,_⟩:=x;exact D3 e
 | own y=>obtain⟨_,e⟩:=x;exact D3 e
 | xd fs=>obtain⟨_,⟨_,_,_,e,_⟩,_⟩:=x;exact D3 e
 | rng lo hi=>obtain⟨_,_,_,e⟩:=x;exact D3 e
 | frz ob u=>obtain⟨e,_⟩:=x;exact D3 e
 | tbl ps=>exact D3 (show h.get? a=some _ from x)
 | met f y=>exact D3 (show h.get? a=some _ from x)
 | ext φ=>obtain⟨_,⟨_,e⟩,_⟩:=x;exact D3 e
theorem Paired.zBa{α β:Type}{F G:α->β->Prop}:∀{l₁:List α} {l₂:List β},Paired F l₁ l₂->(∀a b,F a b->G a b)->Paired G l₁ l₂
 | _,_,.nil,_=>.nil
 | _,_,.cons r t,f=>.cons (f _ _ r) (Paired.zBa t f)
theorem Ae.zAk(x:Ae P w H h a o)(k:∀b u,(b=a\/H b=some (.own a))->h.get? b=some u->h'.get? b=some u)
    (ho:∀b,H b=some (.own a)->H' b=some (.own a)) (ht:∀b xs,H b=some (.tup xs)->H' b=some (.tup xs)):Ae P w H' h' a o:=by
  induction o with
  | lst xs=>obtain⟨z,xJ,n,r,e⟩:=x;exact⟨z,xJ,n,r,k _ _ (.inl rfl) e⟩
  | tup xs=>obtain⟨z,xJ,r,ob,e,c⟩:=x;exact⟨z,xJ,r,ob,k _ _ (.inl rfl) e,c⟩
  | dK xK=>obtain⟨z,y,vs,r,ob,es,ep,e,c⟩:=x;exact⟨z,y,vs,r,ob,es,ep,k _ _ (.inl rfl) e,c⟩
  | dT xK =>
    obtain⟨z,y,xs,r,ob,es,ep,e,c⟩:=x;exact⟨z,y,xs,Paired.zBa r fun p q z=>⟨z.1,ht _ _ z.2.1,z.2.2⟩,ob,es,ep,k _ _ (.inl rfl) e,c⟩
  | dN xK =>
    obtain⟨z,y,xs,r,ob,es,ep,e,c⟩:=x;exact⟨z,y,xs,Paired.zBa r fun p q z=>⟨z.1,z.2.1.keeps ht,z.2.2⟩,ob,es,ep,k _ _ (.inl rfl) e,c⟩
  | set S n=>obtain⟨ob,es,ep,t,e,c⟩:=x;exact⟨ob,es,ep,t,k _ _ (.inl rfl) e,c⟩
  | ins C dx fs =>
    obtain⟨d,z,ne,e,mA,⟨od,es,ep,e2,c⟩,r⟩:=x;exact⟨ho _ d,z,ne,k _ _ (.inl rfl) e,mA,⟨od,es,ep,k _ _ (.inr d) e2,c⟩,r⟩
  | own y=>obtain⟨ob,e⟩:=x;exact⟨ob,k _ _ (.inl rfl) e⟩
  | xd fs=>obtain⟨mA,⟨od,es,ep,e,c⟩,r⟩:=x;exact⟨mA,⟨od,es,ep,k _ _ (.inl rfl) e,c⟩,r⟩
  | rng lo hi=>obtain⟨t,u,v,e⟩:=x;exact⟨t,u,v,k _ _ (.inl rfl) e⟩
  | frz ob u ih=>obtain⟨e,q⟩:=x;exact⟨k _ _ (.inl rfl) e,ih q⟩
  | tbl ps =>
    have e:h.get? a=some { cls:=.none,data:=.fields ps }:=x;show h'.get? a=some { cls:=.none,data:=.fields ps };exact k a _ (.inl rfl) e
  | met f y =>
    have e:h.get? a=some (W.methodObj (.ref f) (.ref y)):=x;show h'.get? a=some (W.methodObj (.ref f) (.ref y));exact k a _ (.inl rfl) e
  | ext φ=>obtain⟨p,⟨o,e⟩,st⟩:=x;exact⟨st _ _ p fun o q=>k _ _ (.inl rfl) q,⟨o,k _ _ (.inl rfl) e⟩,st⟩
theorem FM.lt(x:FM P w H h)(e:H a=some o):a < h.objs.size:=(x a o e).lt
theorem FM.fresh(x:FM P w H h)(e:h.objs.size<=a):H a=none:=by
 cases q:H a with
 | none=>rfl
 | some u=>exact absurd (B8 (x.lt q) e) (R8 _)
theorem FM.kept(x:FM P w H h)(k:∀b u,h.get? b=some u->h'.get? b=some u):FM P w H h':=fun a o e =>
 (x a o e).zAk (fun b u _ q=>k b u q) (fun _ q=>q) fun _ _ q=>q
theorem FM.laid(x:FM P w H h)(k:∀b u,h.get? b=some u->h'.get? b=some u)(hp:h.objs.size<=a)(new:Ae P w (upd H a o) h' a o):FM P w (upd H a o) h':=fun b u e=>by
 have hn:=x.fresh hp
 by_cases hb:b=a
 ·subst hb;rw[AH] at e;cases e;exact new
 ·rw[AG hb] at e;exact(x b u e).zAk (fun c v _ q=>k c v q) (fun c q=>by rw[AG (Bp q hn)];exact q) fun c xs q=>by rw[AG (Bp q hn)];exact q
end
def Rd(H:Hp)(a:B5)(u:HO):Prop:=H a=some u\/∃o,H a=some (.frz o u)
variable {P:F8} {w:J0}
theorem Rd.ok{u:HO}(r:Rd H a u)(x:FM P w H h):Ae P w H h a u:=by
 rcases r with r | ⟨o,r⟩
 ·exact x a u r
 ·obtain⟨_,q⟩:=x a _ r;exact q
def lj:Option HO->Prop
 | some (.lst _)=>True
 | some (.dK _)=>True
 | some (.dT _)=>True
 | some (.dN _)=>True
 | some (.set _ _)=>True
 | some (.ins _ _ _)=>True
 | some (.ext _)=>True
 | _=>False
section
variable {P:F8} {w:J0} {H:Hp} {h h':G7} {x e:B5} {o':HO}
theorem FM.write(ok:FM P w H h)(mu:lj (H x))(he:e=x\/H e=some (.own x))(k:∀b u,b≠e->h.get? b=some u->h'.get? b=some u)(heo:∃u,h'.get? e=some u)
    (new:Ae P w (upd H x o') h' x o'):FM P w (upd H x o') h':=fun b u q=>by
  have zDC:∀c y,H c=some (.own y)->c≠x:=fun c y r z=>by subst z;rw[r] at mu;exact mu
  have zDn:∀c xs,H c=some (.tup xs)->c≠x:=fun c xs r z=>by subst z;rw[r] at mu;exact mu
  by_cases hb:b=x
  · subst hb;rw[AH] at q;cases q;exact new
  · rw[AG hb] at q
    by_cases hbe:b=e
    · have q':H b=some (.own x):=by
        rcases he with z | z
        · exact absurd (hbe.trans z) hb
        · rw[hbe];exact z
      rw[q] at q';cases q';obtain⟨v,hv⟩:=heo;exact⟨v,by rw[hbe];exact hv⟩
    · refine(ok b u q).zAk (fun c v hc r=>k c v ?_ r) (fun c r=>by rw[AG (zDC c b r)];exact r) fun c xs r=>by rw[AG (zDn c xs r)];exact r
      rcases hc with rfl | hc
      · exact hbe
      · rintro rfl;rcases he with z | z
        · exact zDC c b hc z
        · rw[hc] at z;cases z;exact hb rfl
end
structure Un (fs ex:List B5) (H H':Hp) (h h':G7):Prop where
 keep:∀b o,h.get? b=some o->H b=none->b∉fs->b∉ex->h'.get? b=some o
 slot:∀b o,h.get? b=some o->H b=none->b∈fs->b∉ex->∃sl,h'.get? b=some { o with slots:=sl }
 free:∀b o,h.get? b=some o->H b=none->b∉ex->H' b=none
 there:∀b o,h.get? b=some o->b∉ex->∃o',h'.get? b=some o'
 zAH:∀b xs,H b=some (.tup xs)->H' b=some (.tup xs)
 zAA:∀b o u,H b=some (.frz o u)->H' b=some (.frz o u)
 zAI:∀b ps,H b=some (.tbl ps)->∃more,H' b=some (.tbl (ps++more))
section
variable {fs fs' ex ex':List B5} {H H1 H2:Hp} {h h1 h2 h':G7} {a x e:B5} {o:HO}
theorem Un.any(u:Un fs ex H H1 h h1){ob:Obj}(q:h.get? b=some ob)(n:H b=none)(hx:b∉ex):∃sl,h1.get? b=some { ob with slots:=sl }:=by
 by_cases hb:b∈fs
 ·exact u.slot b ob q n hb hx
 ·exact⟨ob.slots,u.keep b ob q n hb hx⟩
theorem Un.kept(k:∀b u,h.get? b=some u->h'.get? b=some u):Un fs ex H H h h':=
 ⟨fun b ob q _ _ _=>k b ob q,fun b ob q _ _ _=>⟨ob.slots,k b ob q⟩,fun _ _ _ n _=>n,fun b ob q _=>⟨ob,k b ob q⟩,fun _ _ q=>q,fun _ _ _ q=>q,fun _ ps q=>⟨#[],by rw[q];simp⟩⟩
theorem Un.refl:Un fs ex H H h h:=Un.kept fun _ _ q=>q
theorem Un.laid(k:∀b u,h.get? b=some u->h'.get? b=some u)(hp:h.objs.size<=a)(hn:H a=none):Un fs ex H (upd H a o) h h' where
 keep:=fun b u q _ _ _=>k b u q
 slot:=fun b u q _ _ _=>⟨u.slots,k b u q⟩
 free:=fun b u q n _=>by rw[AG (E4 (B8 (D3 q) hp))];exact n
 there:=fun b u q _=>⟨u,k b u q⟩
 zAH:=fun b xs q=>by rw[AG (Bp q hn)];exact q
 zAA:=fun b u xs q=>by rw[AG (Bp q hn)];exact q
 zAI:=fun b ps q=>⟨#[],by rw[AG (Bp q hn),q];simp⟩
theorem Un.write(mu:lj (H x))(he:e=x\/H e=some (.own x))(k:∀b u,b≠e->h.get? b=some u->h'.get? b=some u)(heo:∃u,h'.get? e=some u):Un fs ex H (upd H x o) h h':=by
 have hx:∀b,H b=none->b≠x:=fun b n z=>by subst z;rw[n] at mu;exact mu
 have hb:∀b,H b=none->b≠e:=fun b n z=>by
  subst z;rcases he with r | r
  ·exact hx b n r
  ·rw[n] at r;cases r
 have hm:∀b u,H b=some u->¬lj (some u)->b≠x:=fun b u q nm z=>by subst z;rw[q] at mu;exact nm mu
 refine⟨fun b u q n _ _=>k b u (hb b n) q,fun b u q n _ _=>⟨u.slots,k b u (hb b n) q⟩,fun b u q n _=>by rw[AG (hx b n)];exact n,fun b u q _=>?_,
  fun b xs q=>by rw[AG (hm b _ q fun z=>z)];exact q,fun b u xs q=>by rw[AG (hm b _ q fun z=>z)];exact q,fun b ps q=>⟨#[],by rw[AG (hm b _ q fun z=>z),q];simp⟩⟩
 by_cases hbe:b=e
 ·subst hbe;exact heo
 ·exact⟨u,k b u hbe q⟩
end
def pY(h:G7)(H:Hp):List B5:=(B1 h.objs.size).filter fun a=>(H a).isSome
def MH(h:G7)(H:Hp):G7:=W.hideAll h (pY h H)
theorem Tp(h:G7)(H:Hp):(MH h H).objs.size=h.objs.size:=W.hideAll_size _ _
theorem XQ{o:Obj}(e:h.get? b=some o)(n:H b=none):(MH h H).get? b=some o:=
 W.hideAll_get _ e fun hm=>by
  have q:(H b).isSome=true:=(T6.mp hm).2;rw[n] at q;simp at q
theorem bT{o:Obj}(e:(MH h H).get? b=some o):h.get? b=some o/\H b=none:=by
 have e':h.get? b=some o:=W.of_hideAll (pY h H) e;refine⟨e',?_⟩;cases q:H b with
 | none=>rfl
 | some x =>
  have hm:b∈pY h H:=T6.mpr ⟨O2.mpr (D3 e'),by simp[q]⟩;have z:(MH h H).get? b=none:=W.hideAll_none (pY h H) hm;rw[z] at e;cases e
structure Mod (K:W.Frag) (mg:Str->Option Value) (base:G7):Prop where
 kin:K.In base
 glob:base.Ns K9 mg
 blt:∃mb,base.Ns wF mb/\∀x:Str,x ≠ "__name__" -> mb x=Q3 x
 nolimit:base.NoLimit
structure Cx where
 prog:F8
 w:J0
 K:W.Frag
 mg:Str->Option Value
 base:G7
 A:J5
 N:List Str
 xk:A9
 H₀:Hp
 env:Env
 outer:List Env
 stack:List Env
 ex:List B5
 fn:Str->Bool
 calm:Bool
 pn:List (B5×Obj)
 xe:Value->A9->Prop
noncomputable def Rt(l:List Env):List B5:=l.filterMap (·.frame)
abbrev Cx.fs(X:Cx):List B5:=Rt X.outer
def pq(sc:N4)(x:Str):Prop:=sc.names.lookup x=some .local\/sc.names.lookup x=some .cell\/sc.names.lookup x=some .free
def Loc(sc:N4)(x:Str):Prop:=sc.names.lookup x=some .local\/sc.names.lookup x=some .cell
def Look(env:Env)(h:G7)(m:Str->Option Value)(x:Str)(u:Value):Prop:=
 (env.kindOf x=some .local/\m x=some u)\/((env.kindOf x=some .cell\/env.kindOf x=some .free)/\∃c,env.cells.lookup x=some c/\h.IsCell c (some u))
structure Cx.Ok (X:Cx):Prop where
 mod:Mod X.K X.mg X.base
 kind:X.env.scope.kind=.function
 glob:X.env.globals=K9
 blt:X.env.builtins=wF
 above:X.xk.heap.objs.size<=X.env.locals
 inj:∀x y c,X.env.cells.lookup x=some c->X.env.cells.lookup y=some c->x=y
 has:∀x,(X.env.kindOf x=some .cell\/X.env.kindOf x=some .free)->∃c,X.env.cells.lookup x=some c
 cab:∀x c,X.fn x=true->X.env.cells.lookup x=some c->X.xk.heap.objs.size<=c
 hd:X.calm=true->X.A.handled=none
 frames:X.A.frames=some X.stack
 yg:X.stack=X.outer\/(X.stack=X.env::X.outer/\X.env.frame=some X.env.locals)
 exf:∀b∈X.ex,b≠X.env.locals/\∀x c,X.env.cells.lookup x=some c->c≠b
 bs:∀b o,X.base.get? b=some o->X.xk.heap.get? b=some o/\X.H₀ b=none
 bsz:X.base.objs.size<=X.xk.heap.objs.size
 zBL:∀b o,X.base.get? b=some o->b∉X.ex
 zBq:∀b∈X.ex,b∉X.fs
 zH:X.xk.heap.FunFrames X.base X.outer
 frf:∀b∈X.fs,X.H₀ b=none
structure Inv (X:Cx) (pins:List (B5×Obj)) (σ:List (Option V)) (H:Hp) (s:A9):Prop where
 ok:X.Ok
 os:s.os=X.xk.os
 bare:m8 s.gens
 base:Un X.fs X.ex X.H₀ H X.xk.heap s.heap
 loc:∃m,s.heap.Ns X.env.locals m/\∀(i:Nat) (x:Str) (v:V),X.N[i]?=some x->σ[i]?=some (some v)->pq X.env.scope x->∃u,RelV v u/\Look X.env s.heap m x u
 cell:∀x c,X.env.cells.lookup x=some c->∃v,s.heap.IsCell c v
 free:H X.env.locals=none
 yI:∀x c,X.env.cells.lookup x=some c->H c=none
 pin:∀p∈X.pn++pins,s.heap.get? p.1=some p.2/\H p.1=none/\p.1≠X.env.locals/\p.1∉X.fs/\∀v,p.2.data≠.cell v
 xP:FM X.prog X.w H s.heap
 len:σ.length=X.N.length
variable {t' i:Nat} {x:Str} {v:V} {u:Value}
section
variable {X:Cx} {pins:List (B5×Obj)} {σ:List (Option V)} {H H':Hp} {s:A9} {h':G7}
theorem Cx.Ok.zDo(ok:X.Ok){o:Obj}(e:X.base.get? b=some o):b∉X.fs:=fun hb=>by
 have:=(ok.zH.mem hb).1;rw[e] at this;cases this
theorem Inv.bs(I:Inv X pins σ H s):∀b o,X.base.get? b=some o->s.heap.get? b=some o/\H b=none:=fun b o e =>
 ⟨I.base.keep b o (I.ok.bs b o e).1 (I.ok.bs b o e).2 (I.ok.zDo e) (I.ok.zBL b o e),I.base.free b o (I.ok.bs b o e).1 (I.ok.bs b o e).2 (I.ok.zBL b o e)⟩
theorem Inv.bk(I:Inv X pins σ H s):∀b o,X.base.get? b=some o->s.heap.get? b=some o:=fun b o e=>(I.bs b o e).1
theorem Inv.mod(I:Inv X pins σ H s):Mod X.K X.mg X.base:=I.ok.mod
theorem Inv.zE(I:Inv X pins σ H s):X.K.In s.heap:=I.ok.mod.kin.keeps I.bk
theorem Inv.lt(I:Inv X pins σ H s):X.env.locals < s.heap.objs.size:=let ⟨_,hn,_⟩:=I.loc;hn.lt
theorem Inv.sz(I:Inv X pins σ H s):X.xk.heap.objs.size<=s.heap.objs.size:=A4 I.ok.above (R6 I.lt)
theorem Inv.zDD(I:Inv X pins σ H s)(h:s.heap.objs.size<=a):a∉X.fs:=fun hb=>by
 obtain⟨_,o,ho,_⟩:=I.ok.zH.mem hb;exact absurd (B8 (D3 ho) (A4 I.sz h)) (R8 _)
theorem Inv.cne(I:Inv X pins σ H s):∀x c,X.env.cells.lookup x=some c->c≠X.env.locals:=fun x c e z=>by
 obtain⟨v,o,ho,hd⟩:=I.cell x c e;obtain⟨m,⟨o',es,ep,ho',hd',_⟩,_⟩:=I.loc;rw[z,ho'] at ho;cases ho;rw[hd'] at hd;cases hd
theorem Inv.zH(I:Inv X pins σ H s):s.heap.FunFrames X.base X.outer:=by
 have all:∀(l:List Env),(∀b∈Rt l,b∈X.fs)->X.xk.heap.FunFrames X.base l->s.heap.FunFrames X.base l:=by
  intro l
  induction l with
  | nil=>intro _ _;trivial
  | cons env r ih =>
   intro hs hl;obtain⟨hk,⟨L,o,hf,hn,ho,hd⟩,hr⟩:=hl;have hL:L∈X.fs:=hs L (by unfold Rt;rw[P9,hf];exact B2);obtain⟨sl,e⟩:=I.base.slot L o ho (I.ok.frf L hL) hL fun z=>I.ok.zBq L z hL
   exact⟨hk,⟨L,_,hf,hn,e,hd⟩,ih (fun b hb=>hs b (by unfold Rt;rw[P9,hf];exact A7 _ hb)) hr⟩
 exact all X.outer (fun _ hb=>hb) I.ok.zH
theorem Inv.stack(I:Inv X pins σ H s):s.heap.FunFrames X.base X.stack:=by
 rcases I.ok.yg with e | ⟨e,hf⟩
 ·rw[e];exact I.zH
 ·rw[e];obtain⟨m,hn,_⟩:=I.loc;refine .cons (by rw[I.ok.kind];decide) hf hn ?_ I.zH;exact Heap.get?_none_of_le (A4 I.ok.bsz I.ok.above)
theorem Inv.zC(I:Inv X pins σ H s):∀b∈Rt X.stack,b∈X.env.locals::X.fs:=fun b hb=>by
 rcases I.ok.yg with e | ⟨e,hf⟩
 ·rw[e] at hb;exact A7 _ hb
 ·rw[e] at hb;unfold Rt at hb;rw[P9,hf] at hb;exact hb
theorem Inv.zAv(I:Inv X pins σ H s):∀b∈Rt X.stack,H b=none:=fun b hb=>by
 rcases B9.mp (I.zC b hb) with e | hb
 ·rw[e];exact I.free
 ·obtain⟨_,o,ho,_⟩:=I.ok.zH.mem hb;exact I.base.free b o ho (I.ok.frf b hb) fun z=>I.ok.zBq b z hb
theorem Inv.step{g':Array GenState}{t':Nat}{d':Drawn}{ch:List B5}(I:Inv X pins σ H s)
    (hch:∀b∈ch,(b∈X.ex\/X.xk.heap.objs.size<=b)/\b≠X.env.locals/\(∀x c,X.env.cells.lookup x=some c->c≠b)/\∀p∈X.pn++pins,p.1≠b)
    (keep:∀b o,b≠X.env.locals->b∉X.fs->b∉ch->s.heap.get? b=some o->H b=none->h'.get? b=some o)
    (slot:∀b o,b≠X.env.locals->b∈X.fs->b∉ch->s.heap.get? b=some o->H b=none->∃sl,h'.get? b=some { o with slots:=sl }) (free:∀b o,b∉ch->s.heap.get? b=some o->H b=none->H' b=none)
    (there:∀b o,b∉ch->s.heap.get? b=some o->∃o',h'.get? b=some o')
    (zAH:∀b xs,H b=some (.tup xs)->H' b=some (.tup xs)) (zAA:∀b o u,H b=some (.frz o u)->H' b=some (.frz o u)) (zAI:∀b ps,H b=some (.tbl ps)->∃more,H' b=some (.tbl (ps++more)))
    (ns:∀m,s.heap.Ns X.env.locals m->h'.Ns X.env.locals m) (xP:FM X.prog X.w H' h') (hg:m8 g') :
    Inv X pins σ H' { s with heap:=h',gens:=g',drawn:=d',toks:=t' }:=by
  have neL:∀b o,X.xk.heap.get? b=some o->b≠X.env.locals:=fun b o e=>E4 (B8 (D3 e) I.ok.above)
  have neC:∀b o,X.xk.heap.get? b=some o->b∉X.ex->b∉ch:=fun b o e hx hb=>by
    rcases(hch b hb).1 with z | z
    · exact hx z
    · exact absurd (B8 (D3 e) z) (R8 _)
  have cellK:∀x c,X.env.cells.lookup x=some c->∀v,s.heap.IsCell c v->h'.IsCell c v:=fun x c e v ⟨o,ho,hd⟩=>by
    have nch:c∉ch:=fun z=>(hch c z).2.2.1 x c e rfl
    by_cases hc:c∈X.fs
    · obtain⟨sl,q⟩:=slot c o (I.cne x c e) hc nch ho (I.yI x c e);exact⟨_,q,hd⟩
    · exact⟨o,keep c o (I.cne x c e) hc nch ho (I.yI x c e),hd⟩
  refine⟨I.ok,I.os,hg,⟨fun b o e n hb hx=>?_,fun b o e n hb hx=>?_,fun b o e n hx=>?_,fun b o e hx=>?_,fun b xs e=>zAH b xs (I.base.zAH b xs e),fun b o xs e=>zAA b o xs (I.base.zAA b o xs e),fun b ps e=>?_⟩,?_,fun x c e=>?_,?_,fun x c e=>?_,fun p hp=>?_,xP,I.len⟩
  · exact keep b o (neL b o e) hb (neC b o e hx) (I.base.keep b o e n hb hx) (I.base.free b o e n hx)
  · obtain⟨sl,e1⟩:=I.base.slot b o e n hb hx;obtain⟨sl',e2⟩:=slot b _ (neL b o e) hb (neC b o e hx) e1 (I.base.free b o e n hx);exact⟨sl',e2⟩
  · obtain⟨o',e1⟩:=I.base.there b o e hx;exact free b o' (neC b o e hx) e1 (I.base.free b o e n hx)
  · obtain⟨o',e1⟩:=I.base.there b o e hx;exact there b o' (neC b o e hx) e1
  · obtain⟨m1,e1⟩:=I.base.zAI b ps e;obtain⟨m2,e2⟩:=zAI b _ e1;exact⟨m1++m2,by rw[e2,Array.append_assoc]⟩
  · obtain⟨m,hn,hl⟩:=I.loc;refine⟨m,ns m hn,fun i x v e1 e2 e3=>?_⟩;obtain⟨u,r,l⟩:=hl i x v e1 e2 e3;refine⟨u,r,?_⟩;rcases l with l | ⟨k,c,e,z⟩
    · exact .inl l
    · exact .inr ⟨k,c,e,cellK x c e _ z⟩
  · obtain⟨v,z⟩:=I.cell x c e;exact⟨v,cellK x c e v z⟩
  · obtain⟨m,⟨o,_,_,ho,_⟩,_⟩:=I.loc;exact free _ o (fun z=>(hch _ z).2.1 rfl) ho I.free
  · obtain⟨v,o,ho,hd⟩:=I.cell x c e;exact free c o (fun z=>(hch c z).2.2.1 x c e rfl) ho (I.yI x c e)
  · obtain⟨e,n,ne,nf,d⟩:=I.pin p hp;have nch:p.1∉ch:=fun z=>(hch p.1 z).2.2.2 p hp rfl
    exact⟨keep p.1 p.2 ne nf nch e n,free p.1 p.2 nch e n,ne,nf,d⟩
theorem Inv.un(I:Inv X pins σ H s)(u:Un X.fs [] H H' s.heap h')(xP:FM X.prog X.w H' h'):Inv X pins σ H' { s with heap:=h',toks:=t' }:=by
 obtain⟨m,⟨o,es,ep,ho,r⟩,_⟩:=id I.loc;obtain⟨sl,hL⟩:=u.any ho I.free (by simp);exact I.step (g':=s.gens) (d':=s.drawn) (ch:=[]) (fun _ z=>nomatch z) (fun b o _ hb _ e n=>u.keep b o e n hb (by simp)) (fun b o _ hb _ e n=>u.slot b o e n hb (by simp)) (fun b o _ e n=>u.free b o e n (by simp)) (fun b o _ e=>u.there b o e (by simp)) u.zAH u.zAA u.zAI (fun m' hm=>by
  obtain⟨o',es',ep',ho',r'⟩:=hm;rw[ho] at ho';cases ho';exact⟨_,es',ep',hL,r'⟩) xP I.bare
theorem Inv.call{g':Array GenState}{t':Nat}{d':Drawn}{ch:List B5}(I:Inv X pins σ H s)(u:Un (Rt X.stack) ch H H' s.heap h')(xP:FM X.prog X.w H' h')(hg:m8 g')
    (hch:∀b∈ch,(b∈X.ex\/X.xk.heap.objs.size<=b)/\b≠X.env.locals/\(∀x c,X.env.cells.lookup x=some c->c≠b)/\∀p∈X.pn++pins,p.1≠b) :
    Inv X pins σ H' { s with heap:=h',gens:=g',drawn:=d',toks:=t' }:=by
  obtain⟨m,⟨o,es,ep,ho,r⟩,_⟩:=id I.loc;obtain⟨sl,hL⟩:=u.any ho I.free fun z=>(hch _ z).2.1 rfl
  exact I.step (ch:=ch) hch (fun b o hL hb hc e n=>u.keep b o e n (fun z=>(B9.mp (I.zC b z)).elim hL hb) hc) (fun b o _ _ hc e n=>u.any e n hc) (fun b o hc e n=>u.free b o e n hc) (fun b o hc e=>u.there b o e hc) u.zAH u.zAA u.zAI (fun m' hm=>by
    obtain⟨o',es',ep',ho',r'⟩:=hm;rw[ho] at ho';cases ho';exact⟨_,es',ep',hL,r'⟩) xP hg
theorem Inv.turned{t':Nat}{it:B5}(I:Inv X pins σ H s)(k:∀b o,b≠it->s.heap.get? b=some o->h'.get? b=some o)(hn:H it=none)(hL:it≠X.env.locals)
    (h1:it∈X.ex\/X.xk.heap.objs.size<=it) (h2:∀x c,X.env.cells.lookup x=some c->c≠it) (h3:∀p∈X.pn++pins,p.1≠it):Inv X pins σ H { s with heap:=h',toks:=t' }:=by
  have nit:∀b u,H b=some u->b≠it:=fun b u e z=>by rw[z,hn] at e;cases e
  refine I.step (g':=s.gens) (d':=s.drawn) (ch:=[it]) (fun b hb=>?_) (fun b o _ _ hc e _=>k b o (fun z=>hc (by simp[z])) e) (fun b o _ _ hc e _=>⟨o.slots,k b o (fun z=>hc (by simp[z])) e⟩) (fun _ _ _ _ n=>n)
    (fun b o hc e=>⟨o,k b o (fun z=>hc (by simp[z])) e⟩) (fun _ _ e=>e) (fun _ _ _ e=>e) (fun b ps e=>⟨#[],by rw[e];simp⟩) (fun m hm=>?_) (fun b u e=>?_) I.bare
  · have e:b=it:=by simpa using hb
    subst e;exact⟨h1,hL,h2,h3⟩
  · obtain⟨o,es,ep,ho,r⟩:=hm;exact⟨o,es,ep,k _ o (Ne.symm hL) ho,r⟩
  · refine(I.xP b u e).zAk (fun c v hc q=>k c v ?_ q) (fun _ q=>q) fun _ _ q=>q
    rcases hc with z | z
    · rw[z];exact nit b u e
    · exact nit c _ z
theorem Inv.tok(I:Inv X pins σ H s)(t:Nat):Inv X pins σ H { s with toks:=t }:=I.un (h':=s.heap) (t':=t) Un.refl I.xP
theorem Inv.kept(I:Inv X pins σ H s)(k:∀b u,s.heap.get? b=some u->h'.get? b=some u):Inv X pins σ H { s with heap:=h',toks:=t' }:=I.un (Un.kept k) (I.xP.kept k)
theorem Inv.laid{t':Nat}(I:Inv X pins σ H s)(k:∀b u,s.heap.get? b=some u->h'.get? b=some u)(hp:s.heap.objs.size<=a)(new:Ae X.prog X.w (upd H a o) h' a o) :
    Inv X pins σ (upd H a o) { s with heap:=h',toks:=t' }:=I.un (Un.laid k hp (I.xP.fresh hp)) (I.xP.laid k hp new)
theorem Inv.write{x e:B5}{o:HO}{t':Nat}(I:Inv X pins σ H s)(mu:lj (H x))(he:e=x\/H e=some (.own x))(k:∀b u,b≠e->s.heap.get? b=some u->h'.get? b=some u)(heo:∃u,h'.get? e=some u)
    (new:Ae X.prog X.w (upd H x o) h' x o):Inv X pins σ (upd H x o) { s with heap:=h',toks:=t' }:=I.un (Un.write mu he k heo) (I.xP.write mu he k heo new)
theorem Inv.weak{σ':List (Option V)}(I:Inv X pins σ H s)(hl:σ'.length=σ.length)(w:∀(i:Nat) v,σ'[i]?=some (some v)->σ[i]?=some (some v)):Inv X pins σ' H s:=
 ⟨I.ok,I.os,I.bare,I.base,let ⟨m,hn,zu⟩:=I.loc;⟨m,hn,fun i x v e1 e2 e3=>zu i x v e1 (w i v e2) e3⟩,I.cell,I.free,I.yI,I.pin,I.xP,hl.trans I.len⟩
theorem Inv.yT{zCM:List (B5×Obj)}(I:Inv X pins σ H s)(h:∀p∈zCM,s.heap.get? p.1=some p.2/\H p.1=none/\p.1≠X.env.locals/\p.1∉X.fs/\∀v,p.2.data≠.cell v):Inv X zCM σ H s:=
 ⟨I.ok,I.os,I.bare,I.base,I.loc,I.cell,I.free,I.yI,fun p hp=>(C0.mp hp).elim (fun z=>I.pin p (C3 _ z)) (h p),I.xP,I.len⟩
theorem Nj{N:List Str}(hN:N.Nodup){j:Nat}(a:N[i]?=some x)(b:N[j]?=some x):i=j:=by
 obtain⟨h1,e1⟩:=B3.mp a;obtain⟨h2,e2⟩:=B3.mp b;exact(r9 hN).mp (e1.trans e2.symm)
theorem Kb{M:Model}{A:J5}{E:Value->A9->Prop}{Q:Unit->A9->Prop}(I:Inv X pins σ H s)(hN:X.N.Nodup)(hi:X.N[i]?=some x)(hx:Loc X.env.scope x)(r:RelV v u)
    (h:∀s',Inv X pins (σ.set i (some v)) H s'->(∃a,Q0 a s.heap s'.heap/\(a=X.env.locals\/X.env.cells.lookup x=some a))->Q () s') (hf:X.fn x=true\/X.env.scope.names.lookup x=some .local:=by first | exact .inl rfl | exact .inr rfl | assumption):C4 M A (storeName X.env x u) Q E s:=by
  obtain⟨m,hn,hl⟩:=id I.loc;have zEP:(X.env.scope.kind == .class || (X.env.scope.kind == .module && X.env.locals != X.env.globals))=false:=by rw[I.ok.kind];rfl
  have zDR:i < σ.length:=by rw[I.len];exact(B3.mp hi).1
  have cne:=I.cne;have tracked:∀{a:B5} {h':G7},(∃o,s.heap.get? a=some o/\H a=none)->Q0 a s.heap h'->FM X.prog X.w H h':=fun{a h'} ha hs b ob e=>by
    obtain⟨_,_,zCR⟩:=ha;refine(I.xP b ob e).zAk (fun c w' hc q=>(hs.2 c ?_).trans q) (fun _ q=>q) fun _ _ q=>q
    rintro rfl;rcases hc with rfl | hc
    · rw[zCR] at e;cases e
    · rw[zCR] at hc;cases hc
  rcases hx with hk | hk
  · refine wpAny_storeName_local hk hn (fun h' hn' hs=>?_) zEP;obtain⟨oL,_,_,hoL,_⟩:=id hn;refine h _ ⟨I.ok,I.os,I.bare,⟨fun b o e n hb hx=>?_,fun b o e n hb hx=>?_,I.base.free,fun b o e hx=>?_,I.base.zAH,I.base.zAA,I.base.zAI⟩,⟨_,hn',fun j y v' e1 e2 e3=>?_⟩,fun y c e=>?_,I.free,I.yI,fun p hp=>?_,tracked ⟨oL,hoL,I.free⟩ hs,by simpa using I.len⟩ ⟨_,hs,.inl rfl⟩
    · exact(hs.2 b (E4 (B8 (D3 e) I.ok.above))).trans (I.base.keep b o e n hb hx)
    · obtain⟨sl,e1⟩:=I.base.slot b o e n hb hx;exact⟨sl,(hs.2 b (E4 (B8 (D3 e) I.ok.above))).trans e1⟩
    · obtain⟨o',e1⟩:=I.base.there b o e hx;exact⟨o',(hs.2 b (E4 (B8 (D3 e) I.ok.above))).trans e1⟩
    · by_cases hj:j=i
      · subst hj;rw[hi] at e1;cases e1;rw[E8 zDR] at e2;cases e2;exact⟨u,r,.inl ⟨hk,by simp⟩⟩
      · rw[D9 (Ne.symm hj)] at e2;obtain⟨u',r',q⟩:=hl j y v' e1 e2 e3;refine⟨u',r',?_⟩;rcases q with⟨k,e⟩ | ⟨k,c,e,z⟩
        · refine .inl ⟨k,?_⟩;have:y≠x:=fun e=>hj (Nj hN e1 (e▸hi))
          simp[this,e]
        · exact .inr ⟨k,c,e,z.sameBut hs (cne y c e)⟩
    · obtain⟨w',z⟩:=I.cell y c e;exact⟨w',z.sameBut hs (cne y c e)⟩
    · obtain⟨e,n,ne,nf,d⟩:=I.pin p hp;exact⟨(hs.2 p.1 ne).trans e,n,ne,nf,d⟩
  · have hfn:X.fn x=true:=by
      rcases hf with z | z
      · exact z
      · rw[z] at hk;cases hk
    obtain⟨c,hc⟩:=I.ok.has x (.inl hk);obtain⟨w',z⟩:=I.cell x c hc;refine wpAny_storeName_cell I.ok.kind hk hc z (fun h' hc' hs=>?_);obtain⟨oc,hoc,zEG⟩:=id z;refine h { s with heap:=h' } ⟨I.ok,I.os,I.bare,⟨fun b o e n hb hx=>?_,fun b o e n hb hx=>?_,I.base.free,fun b o e hx=>?_,I.base.zAH,I.base.zAA,I.base.zAI⟩,⟨m,hn.sameBut hs (Ne.symm (cne x c hc)),fun j y v' e1 e2 e3=>?_⟩,fun y c' e=>?_,I.free,I.yI,fun p hp=>?_,tracked ⟨oc,hoc,I.yI x c hc⟩ hs,by simpa using I.len⟩ ⟨c,hs,.inr hc⟩
    · exact(hs.2 b (E4 (B8 (D3 e) (I.ok.cab x c hfn hc)))).trans (I.base.keep b o e n hb hx)
    · obtain⟨sl,e1⟩:=I.base.slot b o e n hb hx;exact⟨sl,(hs.2 b (E4 (B8 (D3 e) (I.ok.cab x c hfn hc)))).trans e1⟩
    · obtain⟨o',e1⟩:=I.base.there b o e hx;exact⟨o',(hs.2 b (E4 (B8 (D3 e) (I.ok.cab x c hfn hc)))).trans e1⟩
    · by_cases hj:j=i
      · subst hj;rw[hi] at e1;cases e1;rw[E8 zDR] at e2;cases e2;exact⟨u,r,.inr ⟨.inl hk,c,hc,hc'⟩⟩
      · rw[D9 (Ne.symm hj)] at e2;obtain⟨u',r',q⟩:=hl j y v' e1 e2 e3;refine⟨u',r',?_⟩;rcases q with q | ⟨k,c',e,z'⟩
        · exact .inl q
        · refine .inr ⟨k,c',e,z'.sameBut hs ?_⟩;rintro rfl;exact hj (Nj hN e1 (I.ok.inj _ _ _ e hc▸hi))
    · by_cases hcc:c'=c
      · subst hcc;exact⟨_,hc'⟩
      · obtain⟨w2,z2⟩:=I.cell y c' e;exact⟨w2,z2.sameBut hs hcc⟩
    · obtain⟨e,n,ne,nf,d⟩:=I.pin p hp;refine⟨(hs.2 p.1 ?_).trans e,n,ne,nf,d⟩;intro q;rw[q,hoc] at e;have q':oc=p.2:=D0 e;exact d w' (by rw[<- q'];exact zEG)
theorem Fu{M:Model}{A:J5}{E:Value->A9->Prop}{Q:Unit->A9->Prop}(I:Inv X pins σ H s)(hN:X.N.Nodup)(hi:X.N[i]?=some x)(hx:Loc X.env.scope x)(r:RelV v u)
    (h:∀s',Inv X pins (σ.set i (some v)) H s'->Q () s') (hf:X.fn x=true\/X.env.scope.names.lookup x=some .local:=by first | exact .inl rfl | exact .inr rfl | assumption):C4 M A (storeName X.env x u) Q E s:=
  Kb I hN hi hx r (fun s' I' _=>h s' I') hf
theorem Inv.zDa{s':A9}{ch:List B5}(I:Inv X pins σ H s)(ho:s'.os=s.os)(u:Un (Rt X.stack) ch H H' s.heap s'.heap)(xP:FM X.prog X.w H' s'.heap)(hg:m8 s'.gens)
    (hch:∀b∈ch,(b∈X.ex\/X.xk.heap.objs.size<=b)/\b≠X.env.locals/\(∀x c,X.env.cells.lookup x=some c->c≠b)/\∀p∈X.pn++pins,p.1≠b):Inv X pins σ H' s':=by
  obtain⟨h',g',d',t',o'⟩:=s';have e:o'=s.os:=ho;subst e;exact I.call (g':=g') (t':=t') (d':=d') u xP hg hch
end
abbrev XK:=Value->Option B5->Hp->Prop
noncomputable abbrev St:=List (Option V)
abbrev VK:=V->Hp->Prop
abbrev TE:=St->Hp->VK->Prop
abbrev TT:=St->Hp->(Bool->Hp->Prop)->Prop
abbrev TA:=St->Hp->(List V->Hp->Prop)->Prop
structure Ends where
 nx:St->Hp->Prop
 rt:VK
 bk:St->Hp->Prop:=fun _ _=>False
 ct:St->Hp->Prop:=fun _ _=>False
abbrev TS:=Ends->St->Hp->Prop
def EP(X:Cx)(pins:List (B5×Obj))(σ:St)(Q:VK)(u:Value)(s':A9):Prop:=∃v H',Inv X pins σ H' s'/\RelV v u/\Q v H'
def TP(X:Cx)(pins:List (B5×Obj))(σ:St)(Q:Bool->Hp->Prop)(b:Bool)(s':A9):Prop:=∃H',Inv X pins σ H' s'/\Q b H'
def AP(X:Cx)(pins:List (B5×Obj))(σ:St)(Q:List V->Hp->Prop)(us:List Value)(s':A9):Prop:=∃vs H',Inv X pins σ H' s'/\AF vs us/\Q vs H'
def SP(X:Cx)(pins:List (B5×Obj))(D:Ends)(f:Flow)(s':A9):Prop:=
 match f with
 | .next=>∃σ' H',Inv X pins σ' H' s'/\D.nx σ' H'
 | .brk=>∃σ' H',Inv X pins σ' H' s'/\D.bk σ' H'
 | .cont=>∃σ' H',Inv X pins σ' H' s'/\D.ct σ' H'
 | .ret u=>∃v σ' H',Inv X pins σ' H' s'/\RelV v u/\D.rt v H'
def PE(X:Cx)(e:Expr)(t:TE):Prop:=
 ∀(pins:List (B5×Obj)) (s:A9) (σ:St) (H:Hp) (Q:VK),Inv X pins σ H s->t σ H Q->C4 (D6 X.prog X.w) X.A (N1 e X.env) (EP X pins σ Q) X.xe s
def PT(X:Cx)(e:Expr)(t:TT):Prop:=
 ∀(pins:List (B5×Obj)) (s:A9) (σ:St) (H:Hp) (Q:Bool->Hp->Prop),Inv X pins σ H s->t σ H Q->C4 (D6 X.prog X.w) X.A (isTrue e X.env (N1 e X.env)) (TP X pins σ Q) X.xe s
def PW(X:Cx)(e:Expr)(t:TT):Prop:=
 ∀(whole:Sem Value) (pins:List (B5×Obj)) (s:A9) (σ:St) (H:Hp) (Q:Bool->Hp->Prop),Inv X pins σ H s->t σ H Q->C4 (D6 X.prog X.w) X.A (isTrue e X.env whole) (TP X pins σ Q) X.xe s
variable {X:Cx} {e:Expr}
theorem PW.pt{t:TT}(h:PW X e t):PT X e t:=h _
def PA(X:Cx)(es:List Expr)(t:TA):Prop:=
 ∀(pos:Pos) (pins:List (B5×Obj)) (s:A9) (σ:St) (H:Hp) (Q:List V->Hp->Prop),Inv X pins σ H s->t σ H Q->C4 (D6 X.prog X.w) X.A (spliced (O3 pos (D8 es X.env))) (AP X pins σ Q) X.xe s
def PS(X:Cx)(st:M4)(t:TS):Prop:=
 ∀(pins:List (B5×Obj)) (s:A9) (σ:St) (H:Hp) (D:Ends),Inv X pins σ H s->t D σ H->C4 (D6 X.prog X.w) X.A (exec st X.env) (SP X pins D) X.xe s
def Ej(X:Cx)(st:List M4)(t:TS):Prop:=
 ∀(pins:List (B5×Obj)) (s:A9) (σ:St) (H:Hp) (D:Ends),Inv X pins σ H s->t D σ H->C4 (D6 X.prog X.w) X.A (execs st X.env) (SP X pins D) X.xe s
variable {M:Model} {A:J5} {E:Value->A9->Prop} {s:A9}
theorem Ap{α:Type}{t:Sem α}{Q Q':α->A9->Prop}(h:C4 M A t Q E s)(hQ:∀a s,Q a s->Q' a s):C4 M A t Q' E s:=R9 h hQ fun _ _ x=>x
variable {pos:Pos} {pins:List (B5×Obj)} {σ:St}
section
variable {X:Cx}
abbrev DE(i:Nat):TE:=fun σ H Q=>∃v,σ[i]?=some (some v)/\Q v H
abbrev tC(v:V):TE:=fun _ H Q=>Q v H
theorem iK(hN:X.N[i]?=some x)(hv:pq X.env.scope x)(hd:(x == ("__debug__" : Str))=false:=by decide)(hcd:(x == ("__classdict__" : Str))=false:=by decide):PE X (.Name x pos) (DE i):=by
 intro pins s σ H Q I h;obtain⟨v,e,h⟩:=h;obtain⟨m,hn,hl⟩:=I.loc;obtain⟨u,r,l⟩:=hl i x v hN e hv;have fin:EP X pins σ Q u s:=⟨v,H,I,r,h⟩;rcases l with⟨hk,hm⟩ | ⟨hk,c,hc,zAG⟩
 ·exact wG (wpAny_loadName_local I.ok.kind hk hn hm fin) hd
 ·rcases hk with hk | hk
  ·exact wG (wpAny_loadName_cell I.ok.kind hk hc zAG fin) hd
  ·exact wG (wpAny_loadName_free I.ok.kind hk hc zAG fin hcd) hd
theorem iR{i j pos}:PE X (.Constant (.int i) j pos) (tC (.int i)):=fun _ _ _ H _ I h=>wpAny_Constant_int ⟨.int i,H,I.tok _,⟨_,rfl⟩,h⟩
theorem nR{b j pos}:PE X (.Constant (.bool b) j pos) (tC (.bl b)):=fun _ _ _ H _ I h=>Constant_bool ⟨.bl b,H,I,rfl,h⟩
theorem iP{j pos}:PE X (.Constant .none j pos) (tC .xQ):=fun _ _ _ H _ I h=>Constant_none ⟨.xQ,H,I,rfl,h⟩
theorem iM{x j pos}:PE X (.Constant (.str x) j pos) (tC (.str x)):=fun _ _ _ H _ I h=>uf ⟨.str x,H,I.tok _,⟨_,rfl⟩,h⟩
def Gl(X:Cx)(x:Str):Prop:=X.env.kindOf x=some .globalImplicit
theorem GK{E:Value->A9->Prop}{pos:Pos}{Q:Value->A9->Prop}(I:Inv X pins σ H s)(hg:Gl X x)(hm:X.mg x=some u)(h:Q u s)
    (hd:(x == ("__debug__" : Str))=false:=by decide):C4 (D6 X.prog X.w) X.A (N1 (.Name x pos) X.env) Q E s:=
  j6 I.ok.kind hg (Calls.loadGlobal_global (by rw[I.ok.glob];exact I.mod.glob.keeps I.bk) hm h) hd
theorem EZ{E:Value->A9->Prop}{pos:Pos}{Q:Value->A9->Prop}(I:Inv X pins σ H s)(hg:Gl X x)(hm:X.mg x=none)(hv:Q3 x=some u)(h:Q u s)
    (hn:x ≠ "__name__" := by decide) (hd:(x == ("__debug__" : Str))=false:=by decide):C4 (D6 X.prog X.w) X.A (N1 (.Name x pos) X.env) Q E s:=by
  obtain⟨mb,h1,h2⟩:=I.mod.blt;exact j6 I.ok.kind hg (Calls.loadGlobal_builtin (by rw[I.ok.glob];exact I.mod.glob.keeps I.bk) hm (by rw[I.ok.blt];exact h1.keeps I.bk) ((h2 x hn).trans hv) h) hd
theorem bD(hg:Gl X x)(hm:X.mg x=some u)(r:RelV v u)(hd:(x == ("__debug__" : Str))=false:=by decide):PE X (.Name x pos) (tC v):=
 fun _ _ _ H _ I h=>GK I hg hm ⟨v,H,I,r,h⟩ hd
theorem bG(hg:Gl X x)(hm:X.mg x=none)(hv:Q3 x=some u)(r:RelV v u)(hn:x ≠ "__name__" := by decide)(hd:(x == ("__debug__" : Str))=false:=by decide):PE X (.Name x pos) (tC v):=
 fun _ _ _ H _ I h=>EZ I hg hm hv ⟨v,H,I,r,h⟩ hn hd
variable {a b:Expr} {ta tb:TE} {pos:Pos}
variable {tA dW:TT} {rest:List Expr}
abbrev mL(t u:TT):TT:=fun σ H Q=>t σ H fun c H1=>if c=true then u σ H1 Q else Q false H1
abbrev rG(t u:TT):TT:=fun σ H Q=>t σ H fun c H1=>if c=true then Q true H1 else u σ H1 Q
abbrev mG(t:TT):TT:=fun σ H Q=>t σ H fun c H1=>Q (!c) H1
theorem aU(ha:PT X a tA):PW X (.BoolOp .And [a] pos) tA:=by
 intro wh pins s σ H Q I h;refine isTrue_and (Ap (ha pins s σ H Q I h) fun c s1 e=>?_);cases c with
 | true=>exact isTrue_and_nil e
 | false=>exact e
theorem gr(ha:PT X a tA):PW X (.BoolOp .Or [a] pos) tA:=by
 intro wh pins s σ H Q I h;refine isTrue_or (Ap (ha pins s σ H Q I h) fun c s1 e=>?_);cases c with
 | false=>exact isTrue_or_nil e
 | true=>exact e
theorem gw(ha:PT X a tA)(hb:PW X (.BoolOp .And (b::rest) pos) dW):PW X (.BoolOp .And (a::b::rest) pos) (mL tA dW):=by
 intro wh pins s σ H Q I h;refine isTrue_and (Ap (ha pins s σ H _ I h) fun c s1 ⟨H1,I1,q1⟩=>?_);cases c with
 | true=>exact hb wh pins s1 σ H1 Q I1 q1
 | false=>exact⟨H1,I1,q1⟩
theorem nF(ha:PT X a tA)(hb:PW X (.BoolOp .Or (b::rest) pos) dW):PW X (.BoolOp .Or (a::b::rest) pos) (rG tA dW):=by
 intro wh pins s σ H Q I h;refine isTrue_or (Ap (ha pins s σ H _ I h) fun c s1 ⟨H1,I1,q1⟩=>?_);cases c with
 | true=>exact⟨H1,I1,q1⟩
 | false=>exact hb wh pins s1 σ H1 Q I1 q1
theorem hU(ha:PT X a tA):PT X (.UnaryOp .Not a pos) (mG tA):=by
 intro pins s σ H Q I h;exact isTrue_not (ha pins s σ H (fun c H1=>Q (!c) H1) I h)
abbrev dX(ta tb:TE):TE:=fun σ H Q=>ta σ H fun x H1=>∃c,x=.bl c/\if c=true then tb σ H1 Q else Q (.bl false) H1
abbrev mF(ta tb:TE):TE:=fun σ H Q=>ta σ H fun x H1=>∃c,x=.bl c/\if c=true then Q (.bl true) H1 else tb σ H1 Q
abbrev dQ(ta:TE):TE:=fun σ H Q=>ta σ H fun x H1=>∃c,x=.bl c/\Q (.bl (!c)) H1
theorem iN{op}{t:TE}(h:PE X a t):PE X (.BoolOp op [a] pos) t:=fun pins s σ H Q I hw=>BoolOp_one (h pins s σ H Q I hw)
theorem iT(ha:PE X a ta)(hb:PE X (.BoolOp .And (b::rest) pos) tb):PE X (.BoolOp .And (a::b::rest) pos) (dX ta tb):=by
 intro pins s σ H Q I h;refine BoolOp_and (Ap (ha pins s σ H _ I h) fun v s1 ⟨x,H1,I1,r1,q1⟩=>?_);obtain⟨c,rfl,q1⟩:=q1;cases r1;refine K4 ?_;cases c with
 | true=>exact hb pins s1 σ H1 Q I1 q1
 | false=>exact⟨.bl false,H1,I1,rfl,q1⟩
theorem nN(ha:PE X a ta)(hb:PE X (.BoolOp .Or (b::rest) pos) tb):PE X (.BoolOp .Or (a::b::rest) pos) (mF ta tb):=by
 intro pins s σ H Q I h;refine BoolOp_or (Ap (ha pins s σ H _ I h) fun v s1 ⟨x,H1,I1,r1,q1⟩=>?_);obtain⟨c,rfl,q1⟩:=q1;cases r1;refine K4 ?_;cases c with
 | false=>exact hb pins s1 σ H1 Q I1 q1
 | true=>exact⟨.bl true,H1,I1,rfl,q1⟩
theorem iO(ha:PE X a ta):PE X (.UnaryOp .Not a pos) (dQ ta):=by
 intro pins s σ H Q I h;refine UnaryOp_ (Ap (ha pins s σ H _ I h) fun v s1 ⟨x,H1,I1,r1,q1⟩=>?_);obtain⟨c,rfl,q1⟩:=q1;cases r1;exact not_of (K4 ⟨.bl (!c),H1,I1,rfl,q1⟩)
abbrev rH(t:TT)(ta tb:TE):TE:=fun σ H Q=>t σ H fun c H1=>if c=true then ta σ H1 Q else tb σ H1 Q
theorem WS{c:Expr}(hc:PT X c tA)(ha:PE X a ta)(hb:PE X b tb):PE X (.IfExp c a b pos) (rH tA ta tb):=by
 intro pins s σ H Q I h;refine wpAny_IfExp (Ap (hc pins s σ H _ I h) fun d s1 ⟨H1,I1,q1⟩=>?_);cases d with
 | true=>exact ha pins s1 σ H1 Q I1 q1
 | false=>exact hb pins s1 σ H1 Q I1 q1
end
def DO(K:W.Frag)(H:Hp)(a:B5)(xs:List V):Prop:=
 Rd H a (.lst xs) \/
  ∃(o:Obj) (xJ:Array Value) (n:Nat),K.lookup a=some o/\o.cls=.type "list" /\ o.dict=none/\o.data=.seq xJ n/\xJ.size<=sizeLine/\AF xs xJ.toList
def FL(K:W.Frag)(H:Hp)(a:B5)(xs:List V):Prop:=
 Rd H a (.tup xs) \/
  ∃(o:Obj) (xJ:Array Value) (n:Nat),K.lookup a=some o/\o.cls=.type "tuple" /\ o.data=.seq xJ n/\xJ.size<=sizeLine/\AF xs xJ.toList
noncomputable def qp:Value->Option V
 | .none=>some .xQ
 | .bool b=>some (.bl b)
 | .int i _=>some (.int i)
 | .str x _=>some (.str x)
 | .bytes b _=>some (.byt b)
 | .float b _=>some (.flt b)
 | .ref a=>some (.ref a)
 | .type n=>some (.ty n)
 | _=>none
theorem RelV.abs{x:V}(r:RelV x u):qp u=some x:=by
 cases x with
 | xQ=>cases r;rfl
 | bl _=>cases r;rfl
 | int _=>obtain⟨t,rfl⟩:=r;rfl
 | str _=>obtain⟨t,rfl⟩:=r;rfl
 | byt _=>obtain⟨t,rfl⟩:=r;rfl
 | flt _=>obtain⟨t,rfl⟩:=r;rfl
 | ref _=>cases r;rfl
 | ty _=>cases r;rfl
theorem RelV.inj{x y:V}(r:RelV x u)(q:RelV y u):x=y:=D0 (r.abs.symm.trans q.abs)
theorem AF.inj:∀{xs ys:List V} {us:List Value},AF xs us->AF ys us->xs=ys
 | _,_,_,.nil,.nil=>rfl
 | _,_,_,.cons r t,.cons r' t'=>by rw[r.inj r',AF.inj t t']
section
variable {X:Cx} {pins:List (B5×Obj)} {σ:St} {H:Hp} {s:A9} {a:B5} {xs ys:List V}
theorem Inv.list(I:Inv X pins σ H s)(h:DO X.K H a xs):∃xJ:List Value,AF xs xJ/\PlainL s.heap a xJ.toArray/\xs.length<=sizeLine:=by
 rcases h with h | ⟨o,xJ,n,hk,hc,hd,hs,hz,r⟩
 ·obtain⟨z,xJ,n,r,e⟩:=h.ok I.xP;exact⟨xJ,r,⟨_,n,e,rfl,rfl,rfl⟩,z⟩
 ·refine⟨xJ.toList,r,⟨o,n,I.zE a o hk,hc,hd,by simpa using hs⟩,?_⟩;have e:=r.length;simp only[U7] at e;omega
theorem Inv.tuple(I:Inv X pins σ H s)(h:FL X.K H a xs):∃xJ:List Value,AF xs xJ/\IsTup s.heap a xJ.toArray/\xs.length<=sizeLine:=by
 rcases h with h | ⟨o,xJ,n,hk,hc,hs,hz,r⟩
 ·obtain⟨z,xJ,r,p⟩:=h.ok I.xP;exact⟨xJ,r,p.tup,z⟩
 ·refine⟨xJ.toList,r,⟨o,I.zE a o hk,hc,n,by simpa using hs⟩,?_⟩;have e:=r.length;simp only[U7] at e;omega
theorem Inv.zZ(I:Inv X pins σ H s)(h:DO X.K H a xs)(h':DO X.K H a ys):xs=ys:=by
 obtain⟨xJ,r,⟨o,n,e,_,_,d⟩,_⟩:=I.list h;obtain⟨its',r',⟨o',n',e',_,_,d'⟩,_⟩:=I.list h';rw[e] at e';cases e';rw[d] at d';injection d' with d1 _
 have:xJ=its':=by simpa using congrArg wa d1
 subst this;exact r.inj r'
theorem Inv.zB(I:Inv X pins σ H s)(h:FL X.K H a xs)(h':FL X.K H a ys):xs=ys:=by
 obtain⟨xJ,r,⟨o,e,_,n,d⟩,_⟩:=I.tuple h;obtain⟨its',r',⟨o',e',_,n',d'⟩,_⟩:=I.tuple h';rw[e] at e';cases e';rw[d] at d';injection d' with d1 _
 have:xJ=its':=by simpa using congrArg wa d1
 subst this;exact r.inj r'
end
noncomputable abbrev Cx.zy(X:Cx)(E:Value->A9->Prop):Cx:={ X with xe:=E }
noncomputable abbrev Cx.nox(X:Cx):Cx:=X.zy fun _ _=>False
theorem Cx.Ok.zy(ok:X.Ok)(E:Value->A9->Prop):(X.zy E).Ok:=
 ⟨ok.mod,ok.kind,ok.glob,ok.blt,ok.above,ok.inj,ok.has,ok.cab,ok.hd,ok.frames,ok.yg,ok.exf,ok.bs,ok.bsz,ok.zBL,ok.zBq,ok.zH,ok.frf⟩
theorem Cx.Ok.yM(ok:(X.zy E).Ok):X.Ok:=
 ⟨ok.mod,ok.kind,ok.glob,ok.blt,ok.above,ok.inj,ok.has,ok.cab,ok.hd,ok.frames,ok.yg,ok.exf,ok.bs,ok.bsz,ok.zBL,ok.zBq,ok.zH,ok.frf⟩
section
variable {X:Cx} {pins:List (B5×Obj)} {σ:St} {H:Hp} {s:A9} {E:Value->A9->Prop}
theorem Inv.zy(I:Inv X pins σ H s)(E:Value->A9->Prop):Inv (X.zy E) pins σ H s:=⟨I.ok.zy E,I.os,I.bare,I.base,I.loc,I.cell,I.free,I.yI,I.pin,I.xP,I.len⟩
theorem Inv.yM(I:Inv (X.zy E) pins σ H s):Inv X pins σ H s:=⟨I.ok.yM,I.os,I.bare,I.base,I.loc,I.cell,I.free,I.yI,I.pin,I.xP,I.len⟩
theorem SP.yM{D:Ends}{f:Flow}{s':A9}(h:SP (X.zy E) pins D f s'):SP X pins D f s':=by
 cases f with
 | next=>obtain⟨σ',H',I,q⟩:=h;exact⟨σ',H',I.yM,q⟩
 | brk=>obtain⟨σ',H',I,q⟩:=h;exact⟨σ',H',I.yM,q⟩
 | cont=>obtain⟨σ',H',I,q⟩:=h;exact⟨σ',H',I.yM,q⟩
 | ret u=>obtain⟨v,σ',H',I,r,q⟩:=h;exact⟨v,σ',H',I.yM,r,q⟩
theorem Ej.nox{st:List M4}{t:TS}(h:Ej X.nox st t):Ej X st t:=fun pins s σ H D I hw =>
 R9 (h pins s σ H D (I.zy _) hw) (fun _ _ q=>q.yM) fun _ _ z=>E5 z
end
section
variable {X:Cx} {st:M4} {rest:List M4} {t u:TS} {e:Expr} {te:TE} {pos:Pos}
abbrev VG:TS:=fun D σ H=>D.nx σ H
abbrev qC(t u:TS):TS:=fun D σ H=>t { D with nx:=u D } σ H
theorem aY:Ej X [] VG:=fun _ _ σ H _ I h=>Z4 ⟨σ,H,I,h⟩
theorem NX(h1:PS X st t)(h2:Ej X rest u):Ej X (st::rest) (qC t u):=by
 intro pins s σ H D I h;refine vR (Ap (h1 pins s σ H { D with nx:=u D } I h) fun f s1 q=>?_);cases f with
 | next =>
  obtain⟨σ',H',I',q⟩:=q;exact h2 pins s1 σ' H' D I' q
 | ret v=>exact q
 | brk=>exact q
 | cont=>exact q
theorem aX(h1:PS X st t):Ej X [st] t:=by
 intro pins s σ H D I h;refine vR (Ap (h1 pins s σ H D I h) fun f s1 q=>?_);cases f with
 | next=>exact Z4 q
 | ret v=>exact q
 | brk=>exact q
 | cont=>exact q
abbrev mK:TS:=fun D σ H=>D.ct σ H
theorem aZ:PS X (.Pass pos) VG:=fun _ _ σ H _ I h=>wpAny_Pass ⟨σ,H,I,h⟩
theorem NZ:PS X (.Continue pos) mK:=fun _ _ σ H _ I h=>wpAny_Continue ⟨σ,H,I,h⟩
theorem Inv.quiet(I:Inv X pins σ H s):interactive X.env=false:=by simp[interactive,I.ok.kind]
theorem iA{x j pos pos'}:PS X (.Expr (.Constant (.str x) j pos) pos') VG:=fun _ s σ H _ I h=>wpAny_Expr (uf (show SP X _ _ .next { s with toks:=s.toks+1 } from⟨σ,H,I.tok _,h⟩)) I.quiet
abbrev mJ(te:TE):TS:=fun D σ H=>te σ H fun _ H1=>D.nx σ H1
theorem aa(he:PE X e te)(hs:T7 e none pos.line X.env=pure false:=by rfl):PS X (.Expr e pos) (mJ te):=by
 intro pins s σ H D I h;exact wpAny_Expr_any (Ap (he pins s σ H _ I h) fun v s1 ⟨x,H1,I1,r1,q1⟩=>⟨σ,H1,I1,q1⟩) I.quiet hs
abbrev qD(te:TE):TS:=fun D σ H=>te σ H D.rt
theorem hW(he:PE X e te):PS X (.Return (some e) pos) (qD te):=by
 intro pins s σ H D I h;exact wpAny_Return_some (Ap (he pins s σ H _ I h) fun v s1 ⟨x,H1,I1,r1,q1⟩=>⟨x,σ,H1,I1,r1,q1⟩)
abbrev qG(c:TT)(t u:TS):TS:=fun D σ H=>c σ H fun b H1=>if b=true then t D σ H1 else u D σ H1
theorem nK{c:Expr}{a b:List M4}{tc:TT}(hc:PT X c tc)(ha:Ej X a t)(hb:Ej X b u):PS X (.If c a b pos) (qG tc t u):=by
 intro pins s σ H D I h;refine wpAny_If (Ap (hc pins s σ H _ I h) fun d s1 ⟨H1,I1,q1⟩=>?_);cases d with
 | true=>exact ha pins s1 σ H1 D I1 q1
 | false=>exact hb pins s1 σ H1 D I1 q1
end
abbrev TG:=V->St->Hp->(St->Hp->Prop)->Prop
abbrev Ms:=List V->St->Hp->(St->Hp->Prop)->Prop
def PG(X:Cx)(target:Expr)(t:TG):Prop:=
 ∀(pins:List (B5×Obj)) (s:A9) (σ:St) (H:Hp) (v:V) (u:Value) (Q:St->Hp->Prop),Inv X pins σ H s->RelV v u->t v σ H Q ->
  C4 (D6 X.prog X.w) X.A (W6 target X.env u) (fun _ s'=>∃σ' H',Inv X pins σ' H' s'/\Q σ' H') X.xe s
def lR(X:Cx)(ts:List Expr)(t:Ms):Prop:=
 ∀(pins:List (B5×Obj)) (s:A9) (σ:St) (H:Hp) (vs:List V) (us:List Value) (Q:St->Hp->Prop),Inv X pins σ H s->AF vs us->t vs σ H Q ->
  C4 (D6 X.prog X.w) X.A (p0 ((M7 ts X.env).map (·.2)) us) (fun _ s'=>∃σ' H',Inv X pins σ' H' s'/\Q σ' H') X.xe s
abbrev KH:=V->V->V->Hp->(Hp->Prop)->Prop
def KL(X:Cx)(t:KH):Prop:=
 ∀(pins:List (B5×Obj)) (s:A9) (σ:St) (H:Hp) (o i v:V) (ov iv u:Value) (Q:Hp->Prop),Inv X pins σ H s->RelV o ov->RelV i iv->RelV v u->t o i v H Q ->
  C4 (D6 X.prog X.w) X.A (wC ov iv u) (fun _ s'=>∃H',Inv X pins σ H' s'/\Q H') X.xe s
variable {tg:Expr}
section
variable {X:Cx} {pos:Pos}
abbrev DZ(i:Nat):TG:=fun v σ H Q=>Q (σ.set i (some v)) H
theorem az(hN:X.N.Nodup)(hi:X.N[i]?=some x)(hx:Loc X.env.scope x)(hf:X.fn x=true\/X.env.scope.names.lookup x=some .local:=by first | exact .inl rfl | exact .inr rfl | assumption):PG X (.Name x pos) (DZ i):=by
 intro pins s σ H v u Q I r h;exact u6 (Fu I hN hi hx r (fun s' I'=>⟨_,H,I',h⟩) hf)
abbrev MI:Ms:=fun vs σ H Q=>vs=[]/\Q σ H
abbrev Cq(t:TG)(u:Ms):Ms:=fun vs σ H Q=>∃v r,vs=v::r/\t v σ H fun σ' H'=>u r σ' H' Q
theorem Lx:lR X [] MI:=by
 intro pins s σ H vs us Q I r h;obtain⟨e,h⟩:=h;subst e;cases r;exact u7 ⟨σ,H,I,h⟩
theorem EV{es:List Expr}{t:TG}{u:Ms}(h1:PG X e t)(h2:lR X es u)
    (hs:(M7 (e::es) X.env).map (·.2)=W6 e X.env::(M7 es X.env).map (·.2):=by rfl):lR X (e::es) (Cq t u):=by
  intro pins s σ H vs us Q I r h;obtain⟨v,vr,e1,h⟩:=h;subst e1;cases r with
  | cons r rr =>
    rw[hs];refine j7 (Ap (h1 pins s σ H _ _ _ I r h) fun _ s1 ⟨σ1,H1,I1,q1⟩=>?_);exact h2 pins s1 σ1 H1 _ _ Q I1 rr q1
abbrev br(K:W.Frag)(n:Nat)(t:Ms):TG:=fun v σ H Q=>∃a xs,v=.ref a/\FL K H a xs/\xs.length=n/\t xs σ H Q
theorem Pf{es:List Expr}{k:Nat}{t:Ms}{n:Nat}(hc:X.calm=true)(h:lR X es t)
    (hn:(M7 es X.env).length=n:=by rfl) (hst:(M7 es X.env).findIdx? (·.1)=none:=by rfl):PG X (.Tuple es k pos) (br X.K n t):=by
  intro pins s σ H v u Q I r hw;obtain⟨a,xs,e1,hq,hl,hw⟩:=hw;subst e1;cases r;obtain⟨xJ,rv,ht,hz⟩:=I.tuple hq;refine assign_Tuple_tuple (I.ok.hd hc) ht (by simp[hn,<- hl,rv.length]) hst fun h' hx=>?_
  have I1:Inv X pins σ H { s with heap:=h' }:=I.kept (t':=s.toks) fun b o e=>hx b o (E4 (D3 e)) e
  exact h pins _ σ H xs _ Q I1 (by simpa using rv) hw
abbrev Tt(to ti:TE)(t:KH):TG:=fun v σ H Q=>to σ H fun o H1=>ti σ H1 fun i H2=>t o i v H2 fun H3=>Q σ H3
theorem Ly{o i:Expr}{to ti:TE}{t:KH}(ho:PE X o to)(hi:PE X i ti)(hs:KL X t)
    (ha:∀v,W6 (.Subscript o i pos) X.env v=(do
      let ov <- g8 [v] (N1 o X.env)
      let iv <- g8 [v,ov] (N1 i X.env)
      u9 pos
      g8 [v,ov,iv] (wC ov iv v)
      release [v,ov,iv] []):=by intro _;rfl):PG X (.Subscript o i pos) (Tt to ti t):=by
  intro pins s σ H v u Q I r h;rw[ha];refine A1 (L7 (Ap (ho pins s σ H _ I h) fun ov s1 ⟨x,H1,I1,r1,q1⟩=>?_));refine A1 (L7 (Ap (hi pins s1 σ H1 _ I1 q1) fun iv s2 ⟨y,H2,I2,r2,q2⟩=>?_));refine A1 (Y6 (A1 (L7 (Ap (hs pins s2 σ H2 x y v ov iv u _ I2 r1 r2 r q2) fun _ s3 ⟨H3,I3,q3⟩=>?_))));exact wpAny_release ⟨σ,H3,I3,q3⟩
abbrev Jy(te:TE)(g:TG):TS:=fun D σ H=>te σ H fun x H1=>g x σ H1 D.nx
theorem Lv{te:TE}{g:TG}(he:PE X e te)(hg:PG X tg g)(hs:Y7 [tg] e pos.line X.env=pure false:=by rfl)(hw:S0 [tg] e X.env=pure none:=by rfl)
    (h1:(M7 [tg] X.env).map (·.2)=[W6 tg X.env]:=by rfl):PS X (.Assign [tg] e pos) (Jy te g):=by
  intro pins s σ H D I h;refine wpAny_Assign_stores (Ap (he pins s σ H _ I h) fun v s1 ⟨x,H1,I1,r1,q1⟩=>?_) hs hw;rw[h1];exact Ap (hg pins s1 σ H1 x v _ I1 r1 q1) fun _ s2 q=>q
theorem hV{te:TE}{pos':Pos}(hN:X.N.Nodup)(hi:X.N[i]?=some x)(hx:Loc X.env.scope x)(he:PE X e te)(hs:T7 e (some (.Name x pos')) pos.line X.env=pure false:=by rfl)(hf:X.fn x=true\/X.env.scope.names.lookup x=some .local:=by first | exact .inl rfl | exact .inr rfl | assumption) :
    PS X (.Assign [.Name x pos'] e pos) (Jy te (DZ i)):=by
  intro pins s σ H D I h;refine wpAny_Assign_Name (Ap (he pins s σ H _ I h) fun v s1 ⟨y,H1,I1,r1,q1⟩=>?_) hs;exact Fu I1 hN hi hx r1 (fun s2 I2=>⟨_,H1,I2,q1⟩) hf
abbrev qE(i j:Nat)(ta:TA):TS:=fun D σ H=>ta σ H fun vs H1=>∃v w,vs=[v,w]/\D.nx ((σ.set i (some v)).set j (some w)) H1
theorem hX{j:Nat}{y:Str}{a b:Expr}{ta:TA}{px py pt:Pos}{kt k2 pt2}(hc:X.calm=true)(hN:X.N.Nodup)(hi:X.N[i]?=some x)(hj:X.N[j]?=some y)(hij:i≠j)
    (hx:X.env.scope.names.lookup x=some .local) (hy:X.env.scope.names.lookup y=some .local) (ha:PA X [a,b] ta)
    (hw:S0 [.Tuple [.Name x px,.Name y py] kt pt] (.Tuple [a,b] k2 pt2) X.env=pure (some [x,y]))
    (hs:Y7 [.Tuple [.Name x px,.Name y py] kt pt] (.Tuple [a,b] k2 pt2) pos.line X.env=pure false:=by rfl) :
    PS X (.Assign [.Tuple [.Name x px,.Name y py] kt pt] (.Tuple [a,b] k2 pt2) pos) (qE i j ta):=by
  intro pins s σ H D I h;rw[exec_Assign_arm];refine A1 (Y6 ?_);rw[hs];refine A1 (A6 ?_);rw[if_neg (by decide)];refine A1 (Tuple_ (Ap (ha _ pins s σ H _ I h) fun us s1 ⟨vs,H1,I1,r1,q1⟩=>?_));obtain⟨v,w,e1,q1⟩:=q1;subst e1;obtain⟨u1,u2,rfl,rv,yH⟩:∃u1 u2,us=[u1,u2]/\RelV v u1/\RelV w u2:=by
    cases r1 with
    | cons p q =>
      cases q with
      | cons p' q' =>
        cases q';exact⟨_,_,rfl,p,p'⟩
  refine H8 ?_ (by show 2<=sizeLine;decide)
  have I2:Inv X pins σ H1 { s1 with heap:=s1.heap.push { cls:=.type "tuple", data:=.seq [u1,u2].toArray } }:=I1.kept (t':=s1.toks) fun b o e=>A5 _ e
  rw[hw];refine A1 (A6 ?_)
  show C4 (D6 X.prog X.w) X.A (do rule "assign.swapped-stores"; let items <- vn (.ref s1.heap.objs.size) 2 none;p0 [fun v=>wH X.env y v,fun v=>wH X.env x v] items.reverse;pure Flow.next) _ _ _
  refine A1 (Y0 (A1 (unpackItems_tuple (items:=#[u1,u2]) (I.ok.hd hc) (IsTup.new s1.heap _) fun h' hx'=>?_)));have I3:=I2.kept (h':=h') (t':=s1.toks) fun b o e=>hx' b o (E4 (D3 e)) e
  show C4 _ _ (p0 [fun v=>wH X.env y v,fun v=>wH X.env x v] [u2,u1] >>= fun _=>pure Flow.next) _ _ _;refine A1 (j7 (wpAny_bindName (Fu I3 hN hj (.inl hy) yH (fun s2 I4=>?_) (.inr hy))));refine j7 (wpAny_bindName (Fu I4 hN hi (.inl hx) rv (fun s3 I5=>u7 (A6 ?_)) (.inr hx)));rw[List.set_comm _ _ (Ne.symm hij)] at I5;exact⟨_,H1,I5,q1⟩
end
variable {body:List M4}
section
variable {X:Cx} {pos:Pos}
def VE(c:TT)(tb:TS):TS:=fun D σ H=>∃W:Nat->St->Hp->Prop,(∃m,W m σ H)/\∀m σ H,W m σ H ->
 c σ H fun b H1=>if b=true then ∃N:St->Hp->Prop,(∀σ' H',N σ' H'->∃m',m' < m/\W m' σ' H')/\tb { D with nx:=N,ct:=N,bk:=D.nx } σ H1 else D.nx σ H1
theorem Vz{c:Expr}{tc:TT}{tb:TS}(hp:i8 (D6 X.prog X.w) X.A X.env X.xe)(hc:PT X c tc)(hb:Ej X body tb):PS X (.While c body [] pos) (VE tc tb):=by
 intro pins s σ H D I h;obtain⟨W,⟨m0,w0⟩,turn⟩:=h;refine wpAny_While (codeAny_whileLoop (fun n s'=>∃σ' H',Inv X pins σ' H' s'/\W n σ' H') ?_ m0 ⟨σ,H,I,w0⟩);rintro n s1 ⟨σ1,H1,I1,w1⟩;refine R5 hp (Ap (hc pins s1 σ1 H1 _ I1 (turn n σ1 H1 w1)) fun b s2 ⟨H2,I2,q2⟩=>?_);cases b with
 | true =>
  obtain⟨N,hN,q2⟩:=q2;rw[if_pos rfl];refine R5 hp (Ap (hb pins s2 σ1 H2 _ I2 q2) fun f s3 q3=>?_);cases f with
  | next =>
   obtain⟨σ3,H3,I3,n3⟩:=q3;obtain⟨m',hm,w3⟩:=hN σ3 H3 n3;exact⟨m',hm,σ3,H3,I3,w3⟩
  | cont =>
   obtain⟨σ3,H3,I3,n3⟩:=q3;obtain⟨m',hm,w3⟩:=hN σ3 H3 n3;exact⟨m',hm,σ3,H3,I3,w3⟩
  | brk=>exact q3
  | ret v=>exact q3
 | false =>
  rw[if_neg D4];exact Z4 ⟨σ1,H2,I2,q2⟩
end
structure It where
 go:Nat->Hp->Prop
 yld:Nat->Hp->V->Hp->Prop
 stop:Nat->Hp->Prop
def xS(X:Cx)(pins:List (B5×Obj))(H:Hp)(b:B5):Prop:=
 H b=none/\b≠X.env.locals/\b∉X.fs/\(b∈X.ex\/X.xk.heap.objs.size<=b)/\(∀x c,X.env.cells.lookup x=some c->c≠b)/\∀p∈X.pn++pins,p.1≠b
theorem Inv.xO{H':Hp}(I:Inv X pins σ H s)(hb:s.heap.objs.size<=b)(hn:H' b=none):xS X pins H' b:=by
 refine⟨hn,tB (B8 I.lt hb),I.zDD hb,.inr (A4 I.sz hb),fun x c e z=>?_,fun p hp z=>?_⟩
 ·obtain⟨v,q⟩:=I.cell x c e;exact absurd (B8 q.lt (by rw[z];exact hb)) (R8 _)
 ·exact absurd (B8 (D3 (I.pin p hp).1) (by rw[z];exact hb)) (R8 _)
structure Turn (P:F8) (w:J0) (K:W.Frag) (tg:Expr) (J:It) (fp:List B5) (it:B5) (tn:Nat->G7->Prop):Prop where
 mem:it∈fp
 obj:∀i h,tn i h->∀b∈fp,∃o,h.get? b=some o/\∀v,o.data≠.cell v
 keep:∀i h h',tn i h->(∀b∈fp,∀o,h.get? b=some o->h'.get? b=some o)->tn i h'
 item:∀(X:Cx),X.prog=P->X.w=w->X.K=K->X.calm=true->∀(i:Nat) (pins:List (B5×Obj)) (s:A9) (σ:St) (H:Hp) (E:Value->A9->Prop),Inv X pins σ H s->(∀b∈fp,xS X pins H b)->tn i s.heap->J.go i H ->
  C4 (D6 P w) X.A (ug (.ref it)) (fun r s1=>∃u,r=some u /\
   C4 (D6 P w) X.A (Z5 tg (.ref it) u) (fun _ s2=>∃x H',Inv X pins σ H' s2/\RelV x u/\J.yld i H x H'/\tn (i+1) s2.heap/\∀b∈fp,H' b=none) E s1) E s
 done:∀(X:Cx),X.prog=P->X.w=w->X.K=K->X.calm=true->∀(i:Nat) (pins:List (B5×Obj)) (s:A9) (σ:St) (H:Hp) (E:Value->A9->Prop),Inv X pins σ H s->(∀b∈fp,xS X pins H b)->tn i s.heap->J.stop i H ->
  C4 (D6 P w) X.A (ug (.ref it)) (fun r s1=>r=none/\Inv X pins σ H s1) E s
 self:∀(A:J5) (i:Nat) (s:A9) (Q:Value->A9->Prop) (E:Value->A9->Prop),tn i s.heap->Q (.ref it) s->C4 (D6 P w) A (pyIter (.ref it)) Q E s
abbrev TI:=St->Hp->(It->Hp->Prop)->Prop
def sA(X:Cx)(pins:List (B5×Obj))(σ:St)(tg:Expr)(R:It->Hp->Prop)(itv:Value)(s2:A9):Prop:=
 ∃(it:B5) (fp:List B5) (tn:Nat->G7->Prop) (J:It) (H':Hp),itv=.ref it/\Inv X pins σ H' s2/\Turn X.prog X.w X.K tg J fp it tn/\tn 0 s2.heap/\(∀b∈fp,xS X pins H' b)/\R J H'
def PI(X:Cx)(tg iter:Expr)(wi:TI):Prop:=
 ∀(pins:List (B5×Obj)) (s:A9) (σ:St) (H:Hp) (R:It->Hp->Prop),Inv X pins σ H s->wi σ H R ->
  C4 (D6 X.prog X.w) X.A (N1 iter X.env) (fun v s1=>C4 (D6 X.prog X.w) X.A (pyIter v) (sA X pins σ tg R) X.xe s1) X.xe s
theorem XU{M:Model}{A:J5}{E:Value->A9->Prop}{tg:Expr}{it:B5}{u:Value}{o:Obj}{n:String}{vs:Array Value}{Q:Unit->A9->Prop}(ho:s.heap.get? it=some o)(hc:o.cls=.type n)(hd:o.data=.fields vs)
    (hn:["enumerate", "zip", "dict_itemiterator", "dict_reverseitemiterator", "odict_iterator", "itertools.zip_longest", "itertools.pairwise"].contains n=false) (hQ:Q () s):C4 M A (Z5 tg (.ref it) u) Q E s:=by
  unfold Z5;cases tg<;>first
    | exact A6 hQ
    | (cases u<;>first
        | exact A6 hQ
        | (refine A1 (wpAny_load ho ?_)
           rw[hc,hd]
           show C4 M A (if(["enumerate", "zip", "dict_itemiterator", "dict_reverseitemiterator", "odict_iterator", "itertools.zip_longest", "itertools.pairwise"].contains n && vs[0]? == some (wI _))=true then _ else _) Q E s
           rw[if_neg (by intro h;rw[hn,uA] at h;cases h)];exact A6 hQ))
noncomputable def pU(K:W.Frag)(a:B5):It:=
 ⟨fun i H=>∃xs x,DO K H a xs/\xs[i]?=some x,fun i H x H'=>H'=H/\∀xs,DO K H a xs->xs[i]?=some x,fun i H=>∃xs,DO K H a xs/\xs.length<=i⟩
noncomputable def pz(K:W.Frag)(a:B5):It:=
 ⟨fun i H=>∃xs x,FL K H a xs/\xs[i]?=some x,fun i H x H'=>H'=H/\∀xs,FL K H a xs->xs[i]?=some x,fun i H=>∃xs,FL K H a xs/\xs.length<=i⟩
noncomputable def lU(lo:Int)(n:Nat):It:=⟨fun i _=>i < n,fun i H x H'=>H'=H/\x=.int (lo+i),fun i _=>n<=i⟩
theorem Sa{K:W.Frag}(a it:B5):Turn P w K tg (pU K a) [it] it (fun i h=>h.IsListIter it a i) where
 mem:=by simp
 obj:=fun i h st b hb=>by
  have e:b=it:=by simpa using hb
  subst e;obtain⟨o,e,c,d⟩:=st;exact⟨o,e,fun v z=>by rw[d] at z;cases z⟩
 keep:=fun i h h' st k=>st.at fun o e=>k it (by simp) o e
 item:=by
  intro X hP hw hK hc i pins s σ H E I hf st hg;subst hP hw hK;obtain⟨xs,x,hq,hx⟩:=hg;obtain⟨xJ,rv,p,hz⟩:=I.list hq;obtain⟨u,hu,ru⟩:=rv.get hx;obtain⟨f0,f1,f2,f3,f4,f5⟩:=hf it (by simp);refine tD st p.isList (x:=u) (by simpa using hu) fun h' st' sb=>?_
  have I1:Inv X pins σ H { s with heap:=h' }:=I.turned (t':=s.toks) (fun b o hb e=>(sb.2 b hb).trans e) f0 f1 f3 f4 f5;obtain⟨o,e,c,d⟩:=id st';exact⟨u,rfl,XU (s:={ s with heap:=h' }) e c d (by decide) ⟨x,H,I1,ru,⟨rfl,fun ys hy=>by rw[I.zZ hy hq];exact hx⟩,st',fun b hb=>(hf b hb).1⟩⟩
 done:=by
  intro X hP hw hK hc i pins s σ H E I hf st hg;subst hP hw hK;obtain⟨xs,hq,hx⟩:=hg;obtain⟨xJ,rv,p,hz⟩:=I.list hq;obtain⟨f0,f1,f2,f3,f4,f5⟩:=hf it (by simp);have hl:=rv.length;exact tY (I.ok.hd hc) st p.isList (by simp;omega) fun h' eb=>⟨rfl,I.turned (t':=s.toks) (fun b o hb e=>eb b o hb e) f0 f1 f3 f4 f5⟩
 self:=fun _ _ _ _ _ st h=>wpAny_pyIter_listiter st h
theorem PC{K:W.Frag}(a it:B5):Turn P w K tg (pz K a) [it] it (fun i h=>h.IsTupleIter it a i) where
 mem:=by simp
 obj:=fun i h st b hb=>by
  have e:b=it:=by simpa using hb
  subst e;obtain⟨o,e,c,d⟩:=st;exact⟨o,e,fun v z=>by rw[d] at z;cases z⟩
 keep:=fun i h h' st k=>st.at fun o e=>k it (by simp) o e
 item:=by
  intro X hP hw hK hc i pins s σ H E I hf st hg;subst hP hw hK;obtain⟨xs,x,hq,hx⟩:=hg;obtain⟨xJ,rv,p,hz⟩:=I.tuple hq;obtain⟨u,hu,ru⟩:=rv.get hx;obtain⟨f0,f1,f2,f3,f4,f5⟩:=hf it (by simp);refine wpAny_pyNext_tuple_item st (show s.heap.IsTuple a xJ.toArray from p) (x:=u) (by simpa using hu) fun h' st' sb=>?_
  have I1:Inv X pins σ H { s with heap:=h' }:=I.turned (t':=s.toks) (fun b o hb e=>(sb.2 b hb).trans e) f0 f1 f3 f4 f5;obtain⟨o,e,c,d⟩:=id st';exact⟨u,rfl,XU (s:={ s with heap:=h' }) e c d (by decide) ⟨x,H,I1,ru,⟨rfl,fun ys hy=>by rw[I.zB hy hq];exact hx⟩,st',fun b hb=>(hf b hb).1⟩⟩
 done:=by
  intro X hP hw hK hc i pins s σ H E I hf st hg;subst hP hw hK;obtain⟨xs,hq,hx⟩:=hg;obtain⟨xJ,rv,p,hz⟩:=I.tuple hq;obtain⟨f0,f1,f2,f3,f4,f5⟩:=hf it (by simp);have hl:=rv.length;exact wpAny_pyNext_tuple_end (I.ok.hd hc) st (show s.heap.IsTuple a xJ.toArray from p) (by simp;omega) fun h' eb=>⟨rfl,I.turned (t':=s.toks) (fun b o hb e=>eb b o hb e) f0 f1 f3 f4 f5⟩
 self:=fun _ _ _ _ _ st h=>wpAny_pyIter_tupleiter st h
theorem PD{K:W.Frag}(it:B5)(lo:Int)(n:Nat):Turn P w K tg (lU lo n) [it] it (fun i h=>IsRangeIter h it (lo+(i:Nat) * 1) ((n:Int) - (i:Nat)) 1) where
 mem:=by simp
 obj:=fun i h st b hb=>by
  have e:b=it:=by simpa using hb
  subst e;exact⟨_,st,fun v z=>by
   have z':Data.fields _=Data.cell v:=z;cases z'⟩
 keep:=fun i h h' st k=>k it (by simp) _ st
 item:=by
  intro X hP hw hK hc i pins s σ H E I hf st hg;subst hP hw hK;obtain⟨f0,f1,f2,f3,f4,f5⟩:=hf it (by simp);have W:=Walks.range (prog:=X.prog) (w:=X.w) (I.ok.hd hc) it lo 1 n;refine W.item i s _ _ hg st fun v h' tk hv st' kk=>?_
  obtain⟨t,rfl⟩:=hv;have I1:Inv X pins σ H { s with heap:=h',toks:=tk }:=I.turned (fun b o hb e=>kk b o (by simpa using hb) e) f0 f1 f3 f4 f5
  refine⟨_,rfl,XU (s:={ s with heap:=h',toks:=tk }) (n := "range_iterator") st' rfl rfl (by decide) ⟨.int (lo+i),H,I1,⟨t,?_⟩,⟨rfl,rfl⟩,st',fun b hb=>(hf b hb).1⟩⟩
  rw[Int.mul_one]
 done:=by
  intro X hP hw hK hc i pins s σ H E I hf st hg;subst hP hw hK;obtain⟨f0,f1,f2,f3,f4,f5⟩:=hf it (by simp);exact wpAny_pyNext_range_end (I.ok.hd hc) st (by have:n<=i:=hg;omega) fun h' eb=>⟨rfl,I.turned (t':=s.toks) (fun b o hb e=>eb b o hb e) f0 f1 f3 f4 f5⟩
 self:=fun _ _ _ _ _ st h=>wpAny_pyIter_rangeiter st h
section
variable {X:Cx} {tg:Expr}
theorem NR{R:It->Hp->Prop}{E:Value->A9->Prop}{lo hi:Int}{t u v:Tok}{tk:Nat}(I:Inv X pins σ H s)(h1:-(2 ^ 62)<=lo)(h2:lo < 2 ^ 62)(h3:-(2 ^ 62)<=hi)(h4:hi < 2 ^ 62)
    (q:R (lU lo (hi - lo).toNat) H):C4 (D6 X.prog X.w) X.A (pyIter (.ref s.heap.objs.size)) (sA X pins σ tg R) E { s with heap:=s.heap.push { cls:=.type "range", data:=.fields #[.int lo t,.int hi u,.int 1 v] },toks:=tk }:=by
  refine wpAny_pyIter_range (wu ..) (small_one h1 h2 h3 h4) ?_
  have I1:Inv X pins σ H { s with heap:=s.heap.push { cls:=.type "range", data:=.fields #[.int lo t,.int hi u,.int 1 v] },toks:=tk }:=I.kept fun b o e=>A5 _ e
  refine⟨(s.heap.push { cls:=.type "range", data:=.fields #[.int lo t,.int hi u,.int 1 v] }).objs.size,[(s.heap.push { cls:=.type "range", data:=.fields #[.int lo t,.int hi u,.int 1 v] }).objs.size],_,_,H,rfl,
    I1.kept (t':=tk) fun b o e=>A5 _ e,PD _ lo (hi - lo).toNat,?_,fun b hb=>?_,q⟩
  · have e1:lo+((0:Nat):Int) * 1=lo:=by simp
    have e2:(((hi - lo).toNat:Nat):Int) - ((0:Nat):Int)=sX lo hi 1:=by rw[rangeSize_one];split<;>omega
    show IsRangeIter _ _ (lo+((0:Nat):Int) * 1) ((((hi - lo).toNat:Nat):Int) - ((0:Nat):Int)) 1;rw[e1,e2];exact C8 _ rfl
  · have e:b=(s.heap.push { cls:=.type "range", data:=.fields #[.int lo t,.int hi u,.int 1 v] }).objs.size:=by simpa using hb
    subst e;exact I1.xO (B7 _) (I1.xP.fresh (B7 _))
abbrev oN(ta:TA):TI:=fun σ H R=>ta σ H fun vs H1=>∃j:Int,vs=[.int j]/\-(2 ^ 62)<=j/\j < 2 ^ 62/\R (lU 0 j.toNat) H1
abbrev oM(ta:TA):TI:=fun σ H R=>ta σ H fun vs H1=>∃i j:Int,vs=[.int i,.int j]/\(-(2 ^ 62)<=i/\i < 2 ^ 62/\-(2 ^ 62)<=j/\j < 2 ^ 62)/\R (lU i (j - i).toNat) H1
theorem Sz{a:Expr}{ta:TA}{p:Pos}(hg:Gl X "range")(hm:X.mg "range" = none)(ha:PA X [a] ta)(hs:D8 [a] X.env=[(false,N1 a X.env)]:=by rfl):PI X tg (.Call (.Name "range" p) [a] [] pos) (oN ta):=by
 intro pins s σ H R I h;refine Call_ (EZ I hg hm wJ (K5 (Ap (ha pos pins s σ H _ I h) fun us s1 ⟨vs,H1,I1,r1,q1⟩=>?_) hs rfl));obtain⟨j,e,q1,q2,q⟩:=q1;subst e;cases r1 with
 | cons r rr =>
  cases rr;obtain⟨t,rfl⟩:=r;exact call_range_1 (NR I1 (by omega) (by omega) q1 q2 (by simpa using q))
theorem Sy{a b:Expr}{ta:TA}{p pos:Pos}(hg:Gl X "range")(hm:X.mg "range" = none)(ha:PA X [a,b] ta)(hs:D8 [a,b] X.env=[(false,N1 a X.env),(false,N1 b X.env)]:=by rfl)(hs2:D8 [b] X.env=[(false,N1 b X.env)]:=by rfl) :
    PI X tg (.Call (.Name "range" p) [a,b] [] pos) (oM ta):=by
  intro pins s σ H R I h;refine Call_ (EZ I hg hm wJ (K5 (Ap (ha pos pins s σ H _ I h) fun us s1 ⟨vs,H1,I1,r1,q1⟩=>?_) (by rw[hs,hs2]) (by rw[hs2];rfl)));obtain⟨i,j,e,⟨q1,q2,q3,q4⟩,q⟩:=q1;subst e;cases r1 with
  | cons r rr =>
    cases rr with
    | cons r' rr =>
      cases rr;obtain⟨t,rfl⟩:=r;obtain⟨t',rfl⟩:=r';exact call_range_2 (NR I1 q1 q2 q3 q4 q)
abbrev qH(wi:TI)(g:TG)(tb:TS):TS:=fun D σ H=>wi σ H fun J H1=>∃W:Nat->Nat->St->Hp->Prop,(∃m,W 0 m σ H1)/\∀i m σ H,W i m σ H ->
 (J.stop i H/\D.nx σ H)\/(J.go i H/\∃N:St->Hp->Prop,(∀σ' H',N σ' H'->∃m',m' < m/\W (i+1) m' σ' H')/\∀x H',J.yld i H x H'->g x σ H' fun xy H2=>tb { D with nx:=N,ct:=N,bk:=D.nx } xy H2)
noncomputable def Lw(fp:List B5)(h:G7):List (B5×Obj):=fp.filterMap fun b=>(h.get? b).map fun o=>(b,o)
theorem Dq{fp:List B5}{o:Obj}(hb:b∈fp)(e:h.get? b=some o):(b,o)∈Lw fp h:=uh.mpr ⟨b,hb,by rw[e];rfl⟩
theorem TK{fp:List B5}{p:B5×Obj}(hp:p∈Lw fp h):p.1∈fp/\h.get? p.1=some p.2:=by
 obtain⟨b,hb,e⟩:=uh.mp hp;cases q:h.get? b with
 | none=>rw[q] at e;cases e
 | some o =>
  rw[q] at e;have e':(b,o)=p:=D0 e;subst e';exact⟨hb,q⟩
theorem Inv.pinned{fp:List B5}(I:Inv X pins σ H s)(hf:∀b∈fp,xS X pins H b)(ho:∀b∈fp,∃o,s.heap.get? b=some o/\∀v,o.data≠.cell v):Inv X (pins++Lw fp s.heap) σ H s:=
 I.yT fun p hp=>(C0.mp hp).elim (fun z=>I.pin p (B4 _ z)) fun z=>by
  obtain⟨hb,e⟩:=TK z;obtain⟨f0,f1,f2,_⟩:=hf p.1 hb;obtain⟨o,e',d⟩:=ho p.1 hb;rw[e] at e';cases e';exact⟨e,f0,f1,f2,d⟩
theorem Inv.zX{pl:List (B5×Obj)}(I:Inv X (pins++pl) σ H s):Inv X pins σ H s:=I.yT fun p hp=>I.pin p (B4 _ (C3 _ hp))
theorem WA{iter:Expr}{wi:TI}{g:TG}{tb:TS}{pos:Pos}(hp:i8 (D6 X.prog X.w) X.A X.env X.xe)(hc:X.calm=true)(hi:PI X tg iter wi)(hg:PG X tg g)(hb:Ej X body tb)
    (hs:∀x,O5 iter X.env x=pure x:=by intro _;rfl):PS X (.For tg iter body [] pos) (qH wi g tb):=by
  intro pins s σ H D I h;refine wpAny_For (Ap (hi pins s σ H _ I h) fun v s1 h1=>Ap h1 fun itv s2 h2=>?_) hs;obtain⟨it,fp,tn,J,H2,e,I2,T,st2,f2,W,⟨m0,w0⟩,turn⟩:=h2;subst e
  -- zEe stays true of the zCm objects through the loop
  have zAl:∀{H':Hp},(∀b∈fp,H' b=none)->∀b∈fp,xS X pins H' b:=fun hn b hb=>⟨hn b hb,(f2 b hb).2⟩
  refine codeAny_forLoop_any (fun n s'=>∃i σ' H',Inv X pins σ' H' s'/\tn i s'.heap/\(∀b∈fp,H' b=none)/\W i n σ' H') ?_ m0 ⟨0,σ,H2,I2,st2,fun b hb=>(f2 b hb).1,w0⟩;rintro n s3 ⟨i,σ3,H3,I3,st3,fr3,w3⟩;rcases turn i n σ3 H3 w3 with⟨stop,qn⟩ | ⟨go,N,hN,step⟩
  · refine R5 hp (Ap (T.done X rfl rfl rfl hc i pins s3 σ3 H3 X.xe I3 (zAl fr3) st3 stop) fun r s4 ⟨hr,I4⟩=>?_);subst hr;exact Z4 ⟨σ3,H3,I4,qn⟩
  · refine R5 hp (Ap (T.item X rfl rfl rfl hc i pins s3 σ3 H3 X.xe I3 (zAl fr3) st3 go) fun r s4 ⟨u,hr,h4⟩=>?_);subst hr;refine R5 hp (Ap h4 fun _ s5 ⟨x,H5,I5,r5,y5,st5,fr5⟩=>?_);have I5':=I5.pinned (zAl fr5) (T.obj _ _ st5);refine R5 hp (Ap (hg _ s5 σ3 H5 x u _ I5' r5 (step x H5 y5)) fun _ s6 ⟨σ6,H6,I6,q6⟩=>?_);refine R5 hp (Ap (hb _ s6 σ6 H6 _ I6 q6) fun f s7 q7=>?_);have again:∀{σ7:St} {H7:Hp},Inv X (pins++Lw fp s5.heap) σ7 H7 s7->N σ7 H7->∃m,m < n/\∃i σ' H',Inv X pins σ' H' s7/\tn i s7.heap/\(∀b∈fp,H' b=none)/\W i m σ' H':=fun{σ7 H7} I7 n7=>by
      obtain⟨m',hm,w7⟩:=hN σ7 H7 n7;refine⟨m',hm,i+1,σ7,H7,I7.zX,T.keep _ _ _ st5 fun b hb o e=>(I7.pin (b,o) (B4 _ (B4 _ (Dq hb e)))).1,fun b hb=>?_,w7⟩;obtain⟨o,e,d⟩:=T.obj _ _ st5 b hb;exact(I7.pin (b,o) (B4 _ (B4 _ (Dq hb e)))).2.1
    cases f with
    | next=>obtain⟨σ7,H7,I7,n7⟩:=q7;exact again I7 n7
    | cont=>obtain⟨σ7,H7,I7,n7⟩:=q7;exact again I7 n7
    | brk=>obtain⟨σ7,H7,I7,q7⟩:=q7;exact⟨σ7,H7,I7.zX,q7⟩
    | ret v=>obtain⟨x7,σ7,H7,I7,r7,q7⟩:=q7;exact⟨x7,σ7,H7,I7.zX,r7,q7⟩
end
abbrev R2:=V->V->Hp->VK->Prop
def Ct(X:Cx)(f:Value->Value->Sem Value)(r:R2):Prop:=
 ∀(pins:List (B5×Obj)) (s:A9) (σ:St) (H:Hp) (x y:V) (v u:Value) (Q:VK),Inv X pins σ H s->RelV x v->RelV y u->r x y H Q ->
  C4 (D6 X.prog X.w) X.A (f v u) (EP X pins σ Q) X.xe s
def qq(X:Cx)(f:Value->Sem Value)(r:V->Hp->VK->Prop):Prop:=
 ∀(pins:List (B5×Obj)) (s:A9) (σ:St) (H:Hp) (x:V) (v:Value) (Q:VK),Inv X pins σ H s->RelV x v->r x H Q ->
  C4 (D6 X.prog X.w) X.A (f v) (EP X pins σ Q) X.xe s
def BI(X:Cx)(f:Value)(r:List V->Hp->VK->Prop):Prop:=
 ∀(pins:List (B5×Obj)) (s:A9) (σ:St) (H:Hp) (xs:List V) (us:List Value) (Q:VK),Inv X pins σ H s->AF xs us->r xs H Q ->
  C4 (D6 X.prog X.w) X.A (call f us) (EP X pins σ Q) X.xe s
def qr(X:Cx)(r:V->Hp->(Bool->Hp->Prop)->Prop):Prop:=
 ∀(pins:List (B5×Obj)) (s:A9) (σ:St) (H:Hp) (x:V) (v:Value) (Q:Bool->Hp->Prop),Inv X pins σ H s->RelV x v->r x H Q ->
  C4 (D6 X.prog X.w) X.A (truthy v) (TP X pins σ Q) X.xe s
abbrev pZ(r:R2)(ta tb:TE):TE:=fun σ H Q=>ta σ H fun x H1=>tb σ H1 fun y H2=>r x y H2 Q
abbrev sE(r:V->Hp->VK->Prop)(ta:TE):TE:=fun σ H Q=>ta σ H fun x H1=>r x H1 Q
def rI(C:Int->Int->Prop)(g:Int->Int->V):R2:=fun x y H Q=>∃i j,x=.int i/\y=.int j/\C i j/\Q (g i j) H
def Vu(g:Int->Int->V):R2:=fun x y H Q=>∃i j,x=.int i/\y=.int j/\Q (g i j) H
def rU(g:Int->V):V->Hp->VK->Prop:=fun x H Q=>∃i,x=.int i/\Q (g i) H
variable {r:R2}
section
variable {X:Cx} {a b c:Expr} {ta tb tc:TE} {pos:Pos}
theorem lM(ha:PE X a ta)(hb:PE X b tb){R:V->V->Hp->Prop}(I:Inv X pins σ H s)
    (h:ta σ H fun x H1=>tb σ H1 fun y H2=>R x y H2) {Q:Value->A9->Prop} {f:Value->Value->Sem Value}
    (hf:∀v u s2 x y H2,Inv X pins σ H2 s2->RelV x v->RelV y u->R x y H2->C4 (D6 X.prog X.w) X.A (f v u) Q X.xe s2) :
    C4 (D6 X.prog X.w) X.A (N1 a X.env) (fun v xR=>C4 (D6 X.prog X.w) X.A (N1 b X.env) (fun u zBz=>C4 (D6 X.prog X.w) X.A (f v u) Q X.xe zBz) X.xe xR) X.xe s:=by
  refine Ap (ha pins s σ H _ I h) fun v s1 ⟨x,H1,I1,r1,q1⟩=>?_
  refine Ap (hb pins s1 σ H1 _ I1 q1) fun u s2 ⟨y,H2,I2,r2,q2⟩=>?_
  exact hf v u s2 x y H2 I2 r1 r2 q2
theorem nO{op:uB}(ho:Ct X (binaryOp op) r)(ha:PE X a ta)(hb:PE X b tb):PE X (.BinOp a op b pos) (pZ r ta tb):=by
 intro pins s σ H Q I h;exact wpAny_BinOp (lM ha hb I h fun v u s2 x y H2 I2 rx ry q=>ho pins s2 σ H2 x y v u Q I2 rx ry q)
theorem nM{op:UnaryOp}{r:V->Hp->VK->Prop}(ho:qq X (unaryOp op) r)(ha:PE X a ta):PE X (.UnaryOp op a pos) (sE r ta):=by
 intro pins s σ H Q I h;exact UnaryOp_ (Ap (ha pins s σ H _ I h) fun v s1 ⟨x,H1,I1,r1,q1⟩=>ho pins s1 σ H1 x v Q I1 r1 q1)
theorem pd{f:Value->Value->Sem Value}{C:Int->Int->Prop}{g:Int->Int->Int}
    (rule:∀(i j:Int) (t u:Tok) (s:A9) (Q:Value->A9->Prop) (E:Value->A9->Prop),C i j->Q (.int (g i j) s.toks) { s with toks:=s.toks+1 }->C4 (D6 X.prog X.w) X.A (f (.int i t) (.int j u)) Q E s) :
    Ct X f (rI C fun i j=>.int (g i j)):=by
  intro pins s σ H x y v u Q I rx ry h;obtain⟨i,j,rfl,rfl,hc,q⟩:=h;obtain⟨t,rfl⟩:=rx;obtain⟨t',rfl⟩:=ry;exact rule i j t t' s _ _ hc ⟨.int (g i j),H,I.tok _,⟨_,rfl⟩,q⟩
theorem nZ{f:Value->Value->Sem Value}{g:Int->Int->Int}
    (rule:∀(i j:Int) (t u:Tok) (s:A9) (Q:Value->A9->Prop) (E:Value->A9->Prop),Q (.int (g i j) s.toks) { s with toks:=s.toks+1 }->C4 (D6 X.prog X.w) X.A (f (.int i t) (.int j u)) Q E s) :
    Ct X f (Vu fun i j=>.int (g i j)):=by
  intro pins s σ H x y v u Q I rx ry h;obtain⟨i,j,rfl,rfl,q⟩:=h;obtain⟨t,rfl⟩:=rx;obtain⟨t',rfl⟩:=ry;exact rule i j t t' s _ _ ⟨.int (g i j),H,I.tok _,⟨_,rfl⟩,q⟩
theorem bS{f:Value->Value->Sem Value}{g:Int->Int->Bool}
    (rule:∀(i j:Int) (t u:Tok) (s:A9) (Q:Value->A9->Prop) (E:Value->A9->Prop),Q (.bool (g i j)) s->C4 (D6 X.prog X.w) X.A (f (.int i t) (.int j u)) Q E s) :
    Ct X f (Vu fun i j=>.bl (g i j)):=by
  intro pins s σ H x y v u Q I rx ry h;obtain⟨i,j,rfl,rfl,q⟩:=h;obtain⟨t,rfl⟩:=rx;obtain⟨t',rfl⟩:=ry;exact rule i j t t' s _ _ ⟨.bl (g i j),H,I,rfl,q⟩
def qy(i j:Int):Prop:=0 < j/\j < 1073741824
def qx(i j:Int):Prop:=0<=j/\j<=1000000/\i.natAbs < 2 ^ 64
def dI(i j:Int):Prop:=(-(2 ^ 64) < i/\i < 2 ^ 64)\/(-(2 ^ 64) < j/\j < 2 ^ 64)
theorem dI.ok{i j:Int}(h:dI i j):IntMulOk i j:=by
 rcases h with⟨h1,h2⟩ | ⟨h1,h2⟩
 ·exact .of_left (intBits_le_64 h1 h2)
 ·exact .of_right (intBits_le_64 h1 h2)
theorem il:Ct X (binaryOp .Add) (Vu fun i j=>.int (i+j)):=nZ fun _ _ _ _ _ _ _ q=>add_int q
theorem iY:Ct X (binaryOp .Sub) (Vu fun i j=>.int (i - j)):=nZ fun _ _ _ _ _ _ _ q=>sub_int q
theorem ib:Ct X (binaryOp .Mult) (rI dI fun i j=>.int (i * j)):=pd fun _ _ _ _ _ _ _ hc q=>mul_int q hc.ok
theorem bM:Ct X (binaryOp .FloorDiv) (rI qy fun i j=>.int (i / j)):=pd fun i j _ _ _ _ _ hc q=>by
 have h1:(0:Int) < j:=hc.1;have h2:j < 1073741824:=hc.2;exact floordiv_int (by omega) (by rw[Int.fdiv_eq_ediv_of_nonneg i (by omega)];exact q) (.inl (PyProof.noPylong_small (by omega)))
theorem ic:Ct X (binaryOp .Mod) (rI (fun _ j=>0 < j) fun i j=>.int (i % j)):=pd fun i j _ _ _ _ _ hc q=>by
 have h1:(0:Int) < j:=hc;exact mod_int' (by omega) (by rw[Int.fmod_eq_emod_of_nonneg i (by omega)];exact q)
theorem iZ:Ct X (binaryOp .Pow) (rI qx fun i j=>.int (i ^ j.toNat)):=pd fun _ _ _ _ _ _ _ hc q=>pow_int_small hc.1 hc.2.1 hc.2.2 q
theorem sC{f:Value->Sem Value}{g:Int->Int}
    (rule:∀(i:Int) (t:Tok) (s:A9) (Q:Value->A9->Prop) (E:Value->A9->Prop),Q (.int (g i) s.toks) { s with toks:=s.toks+1 }->C4 (D6 X.prog X.w) X.A (f (.int i t)) Q E s) :
    qq X f (rU fun i=>.int (g i)):=by
  intro pins s σ H x v Q I rx h;obtain⟨i,rfl,q⟩:=h;obtain⟨t,rfl⟩:=rx;exact rule i t s _ _ ⟨.int (g i),H,I.tok _,⟨_,rfl⟩,q⟩
theorem fm:qq X (unaryOp .USub) (rU fun i=>.int (-i)):=sC fun _ _ _ _ _ q=>neg_int q
end
variable {f:Value->Value->Sem Value} {op:m9}
section
variable {X:Cx} {a b c:Expr} {ta tb tc:TE} {pos:Pos}
theorem Xd{Q:VK}{k k':Bool}(I:Inv X pins σ H s)(q:Q (.bl k) H)(e:k=k'):EP X pins σ Q (.bool k') s:=by
 subst e;exact⟨.bl k,H,I,rfl,q⟩
theorem nV:Ct X (G4 .Lt) (Vu fun i j=>.bl (decide (i < j))):=bS fun _ _ _ _ _ _ _ q=>lt_int q
theorem nW:Ct X (G4 .LtE) (Vu fun i j=>.bl (decide (i<=j))):=bS fun _ _ _ _ _ _ _ q=>le_int q
theorem nX:Ct X (G4 .Gt) (Vu fun i j=>.bl (decide (j < i))):=bS fun _ _ _ _ _ _ _ q=>gt_int q
theorem nY:Ct X (G4 .GtE) (Vu fun i j=>.bl (decide (j<=i))):=bS fun _ _ _ _ _ _ _ q=>ge_int q
theorem TH:Ct X (G4 .In) (fun x y H Q=>∃i j,x=.str i/\y=.str j/\Q (.bl (!(O6 j i 0 j.length 1).isEmpty)) H):=by
 intro pins s σ H x y v u Q I rx ry h;obtain⟨i,j,rfl,rfl,q⟩:=h;obtain⟨t,rfl⟩:=rx;obtain⟨t',rfl⟩:=ry;exact in_str (Xd I q rfl)
theorem ie:Ct X (G4 .Is) (fun x y H Q=>y=.xQ/\Q (.bl (decide (x=.xQ))) H):=by
 intro pins s σ H x y v u Q I rx ry h;obtain⟨rfl,q⟩:=h;cases ry;refine is_none_gen (Xd I q ?_);cases x<;>first
  | (cases rx;rfl)
  | (obtain⟨t,rfl⟩:=rx;rfl)
theorem Ct.or{r':R2}(h:Ct X f r)(h':Ct X f r'):Ct X f (fun x y H Q=>r x y H Q\/r' x y H Q):=by
 intro pins s σ H x y v u Q I rx ry q;rcases q with q | q
 ·exact h pins s σ H x y v u Q I rx ry q
 ·exact h' pins s σ H x y v u Q I rx ry q
theorem bE(ho:Ct X (G4 op) r)(ha:PE X a ta)(hb:PE X b tb)(hm:uX op b=false):PE X (.Compare a [op] [b] pos) (pZ r ta tb):=by
 intro pins s σ H Q I h;exact wpAny_Compare1 (lM ha hb I h fun v u s2 x y H2 I2 rx ry q=>ho pins s2 σ H2 x y v u Q I2 rx ry q) hm
abbrev dO(t:TE):TT:=fun σ H Q=>t σ H fun x H'=>∃k,x=.bl k/\Q k H'
theorem aW(ho:Ct X (G4 op) r)(ha:PE X a ta)(hb:PE X b tb)(hm:uX op b=false):PT X (.Compare a [op] [b] pos) (dO (pZ r ta tb)):=by
 intro pins s σ H Q I h;refine wpAny_isTrue_Compare1 (Ap (ha pins s σ H _ I h) fun v s1 ⟨x,H1,I1,r1,q1⟩=>Ap (hb pins s1 σ H1 _ I1 q1) fun u s2 ⟨y,H2,I2,r2,q2⟩ =>
  Ap (ho pins s2 σ H2 x y v u _ I2 r1 r2 q2) fun c s3 ⟨z,H3,I3,r3,k,e,q3⟩=>?_) hm
 subst e;cases r3;exact K4 ⟨H3,I3,q3⟩
abbrev Le(r r':R2)(ta tb tc:TE):TE:=fun σ H Q=>ta σ H fun x H1=>tb σ H1 fun y H2=>r x y H2 fun z H3=>∃k,z=.bl k /\
 (if k=true then tc σ H3 fun w' H4=>r' y w' H4 Q else Q (.bl false) H3)
theorem Nc{yD:m9}{r':R2}(ho:Ct X (G4 op) r)(ho':Ct X (G4 yD) r')(ha:PE X a ta)(hb:PE X b tb)(hc:PE X c tc)
    (hm:vS [op,yD] [b,c]=false:=by with_unfolding_all rfl):PE X (.Compare a [op,yD] [b,c] pos) (Le r r' ta tb tc):=by
  intro pins s σ H Q I h;refine Compare_chain (Ap (ha pins s σ H _ I h) fun v s1 ⟨x,H1,I1,r1,q1⟩=>chain_link (Ap (hb pins s1 σ H1 _ I1 q1) fun u s2 ⟨y,H2,I2,r2,q2⟩ =>
    Ap (ho pins s2 σ H2 x y v u _ I2 r1 r2 q2) fun d s3 ⟨z,H3,I3,r3,k,e,q3⟩=>?_)) hm
  subst e;cases r3;refine K4 ?_;cases k with
  | false=>exact ite_ff ⟨.bl false,H3,I3,rfl,q3⟩
  | true=>exact ite_tt (chain_last (Ap (hc pins s3 σ H3 _ I3 q3) fun w' s4 ⟨z',H4,I4,r4,q4⟩=>ho' pins s4 σ H4 y z' u w' Q I4 r2 r4 q4))
theorem NW{yD:m9}{r':R2}(ho:Ct X (G4 op) r)(ho':Ct X (G4 yD) r')(ha:PE X a ta)(hb:PE X b tb)(hc:PE X c tc)
    (hm:vS [op,yD] [b,c]=false:=by with_unfolding_all rfl):PT X (.Compare a [op,yD] [b,c] pos) (dO (Le r r' ta tb tc)):=by
  intro pins s σ H Q I h;refine isTrue_chain (Ap (ha pins s σ H _ I h) fun v s1 ⟨x,H1,I1,r1,q1⟩=>test_link (Ap (hb pins s1 σ H1 _ I1 q1) fun u s2 ⟨y,H2,I2,r2,q2⟩ =>
    Ap (ho pins s2 σ H2 x y v u _ I2 r1 r2 q2) fun d s3 ⟨z,H3,I3,r3,k,e,q3⟩=>?_)) hm
  subst e;cases r3;refine K4 ?_;cases k with
  | false =>
    obtain⟨k',e',q'⟩:=q3;cases e';exact ite_ff ⟨H3,I3,q'⟩
  | true =>
    refine ite_tt (test_last (Ap (hc pins s3 σ H3 _ I3 q3) fun w' s4 ⟨z',H4,I4,r4,q4⟩=>Ap (ho' pins s4 σ H4 y z' u w' _ I4 r2 r4 q4) fun d' s5 ⟨z2,H5,I5,r5,k2,e2,q5⟩=>?_));subst e2;cases r5;exact K4 ⟨H5,I5,q5⟩
def Zb(K:W.Frag)(x:V)(H:Hp)(k:Bool):Prop:=
 match x with
 | .xQ=>k=false
 | .bl b=>k=b
 | .int i=>k=(i != 0)
 | .str y=>y.length<=sizeLine/\k=((y.length:Int) != 0)
 | .byt y=>y.size<=sizeLine/\k=((y.size:Int) != 0)
 | .ref p=>(∃xs,DO K H p xs/\k=!xs.isEmpty)\/(∃xs,FL K H p xs/\k=!xs.isEmpty)\/∃xK,H p=some (.dK xK)/\k=!xK.isEmpty
 | _=>False
theorem QK{κ:Type}{xK:List (κ×V)}{vs:List (κ×Value)}(r:KV xK vs):(!vs.isEmpty)=!xK.isEmpty:=by
 cases r<;>rfl
theorem JU{xs:List V}{xJ:List Value}(r:AF xs xJ):(!xJ.toArray.isEmpty)=!xs.isEmpty:=by
 cases r<;>simp
theorem HK:(sizeLine:Nat) < 2 ^ 63:=by rw[S9];decide
theorem gA:qr X (fun x H Q=>∃k,Zb X.K x H k/\Q k H):=by
 intro pins s σ H x v Q I rx h;obtain⟨k,e,q⟩:=h;have hl:=HK;have hs:sizeLine=16777216:=S9;cases x with
 | xQ =>
  cases rx;have e':k=false:=e;subst e';exact truthy_none ⟨H,I,q⟩
 | bl b =>
  cases rx;have e':k=b:=e;subst e';exact K4 ⟨H,I,q⟩
 | int i =>
  obtain⟨t,rfl⟩:=rx;have e':k=(i != 0):=e;subst e';exact PySem.P.truthy_int ⟨H,I,q⟩
 | str y =>
  obtain⟨t,rfl⟩:=rx;obtain⟨hy,e'⟩:y.length<=sizeLine/\k=((y.length:Int) != 0):=e;subst e';exact PySem.P.truthy_str (by omega) ⟨H,I.tok _,q⟩
 | byt y =>
  obtain⟨t,rfl⟩:=rx;obtain⟨hy,e'⟩:y.size<=sizeLine/\k=((y.size:Int) != 0):=e;subst e';exact W.truthy_bytes (by omega) ⟨H,I.tok _,q⟩
 | ref p =>
  cases rx;have e':(∃xs,DO X.K H p xs/\k=!xs.isEmpty)\/(∃xs,FL X.K H p xs/\k=!xs.isEmpty)\/∃xK,H p=some (.dK xK)/\k=!xK.isEmpty:=e;rcases e' with⟨xs,hx,e'⟩ | ⟨xs,hx,e'⟩ | ⟨xK,hx,e'⟩
  ·subst e';obtain⟨xJ,r,pl,hz⟩:=I.list hx;have hlen:=r.length;exact wpAny_truthy_list pl.isList (by simp only[A8];omega) ⟨H,I.tok _,by rw[JU r];exact q⟩
  ·subst e';obtain⟨xJ,r,pl,hz⟩:=I.tuple hx;have hlen:=r.length;exact truthy_tuple pl (by simp only[A8];omega) ⟨H,I.tok _,by rw[JU r];exact q⟩
  ·subst e';obtain⟨hz,hS,vs,r,m⟩:xK.length<=sizeLine/\(p == Q7)=false/\∃vs,KV xK vs/\s.heap.DictOf (AW X.prog X.w) p vs:=I.xP p _ hx;have hlen:xK.length=vs.length:=Paired.length r;exact wpAny_truthy_dict hS m (by omega) ⟨H,I.tok _,by rw[QK r];exact q⟩
 | _=>exact(show False from e).elim
theorem Vy(ha:PE X a ta)(he:∀whole,isTrue a X.env whole=(do let v <- whole;u9 a.pos;g8 [v] (truthy v))) :
    PT X a (fun σ H Q=>ta σ H fun x H'=>∃k,Zb X.K x H' k/\Q k H'):=by
  intro pins s σ H Q I h;exact isTrue_plain (Ap (ha pins s σ H _ I h) fun v s1 ⟨x,H1,I1,r1,q1⟩=>gA pins s1 σ H1 x v Q I1 r1 q1) (he _)
theorem Pl:Ct X (binaryOp .Add) (fun x y H Q=>∃i j,x=.str i/\y=.str j/\i.length+j.length<=sizeLine/\Q (.str (i++j)) H):=by
 intro pins s σ H x y v u Q I rx ry h;obtain⟨i,j,rfl,rfl,hz,q⟩:=h;obtain⟨t,rfl⟩:=rx;obtain⟨t',rfl⟩:=ry;exact add_str (fun t' tk=>⟨.str (i++j),H,I.tok _,⟨_,rfl⟩,q⟩) hz
theorem vals1{x:V}(r:AF [x] us):∃u,us=[u]/\RelV x u:=by
 cases r with
 | cons r1 r2=>cases r2;exact⟨_,rfl,r1⟩
theorem dJ{x y:V}(r:AF [x,y] us):∃u w',us=[u,w']/\RelV x u/\RelV y w':=by
 cases r with
 | cons r1 r2 =>
  cases r2 with
  | cons r3 r4=>cases r4;exact⟨_,_,rfl,r1,r3⟩
theorem UR(hc:X.calm=true):BI X (.builtin "max") (fun xs H Q=>∃i j,xs=[.int i,.int j]/\Q (.int (if j > i then j else i)) H):=by
 intro pins s σ H xs us Q I r h;obtain⟨i,j,rfl,q⟩:=h;obtain⟨u,w',rfl,⟨t,rfl⟩,⟨t',rfl⟩⟩:=dJ r;refine max_two_ints (I.ok.hd hc) fun h' tk k=>⟨_,H,I.kept k,?_,q⟩
 by_cases hj:j > i
 ·rw[if_pos hj,if_pos hj];exact⟨_,rfl⟩
 ·rw[if_neg hj,if_neg hj];exact⟨_,rfl⟩
theorem UQ(hc:X.calm=true):BI X (.builtin "min") (fun xs H Q=>∃i j,xs=[.int i,.int j]/\Q (.int (if j < i then j else i)) H):=by
 intro pins s σ H xs us Q I r h;obtain⟨i,j,rfl,q⟩:=h;obtain⟨u,w',rfl,⟨t,rfl⟩,⟨t',rfl⟩⟩:=dJ r;refine min_two_ints (I.ok.hd hc) fun h' tk k=>⟨_,H,I.kept k,?_,q⟩
 by_cases hj:j < i
 ·rw[if_pos hj,if_pos hj];exact⟨_,rfl⟩
 ·rw[if_neg hj,if_neg hj];exact⟨_,rfl⟩
theorem UW:BI X (.type "int") (fun xs H Q=>(∃i,xs=[.int i]/\Q (.int i) H)\/∃k,xs=[.bl k]/\Q (.int (if k then 1 else 0)) H):=by
 intro pins s σ H xs us Q I r h;rcases h with⟨i,rfl,q⟩ | ⟨k,rfl,q⟩
 ·obtain⟨u,rfl,t,rfl⟩:=vals1 r;exact call_int_int ⟨.int i,H,I,⟨_,rfl⟩,q⟩
 ·obtain⟨u,rfl,r1⟩:=vals1 r;cases r1;exact call_int_bool ⟨.int (if k then 1 else 0),H,I.tok _,⟨_,rfl⟩,q⟩
def pS(K:W.Frag)(x:V)(H:Hp)(n:Nat):Prop:=
 match x with
 | .str y=>y.length<=sizeLine/\n=y.length
 | .byt y=>y.size<=sizeLine/\n=y.size
 | .ref p=>(∃xs,DO K H p xs/\n=xs.length)\/∃xs,FL K H p xs/\n=xs.length
 | _=>False
theorem Ya:BI X (.builtin "len") (fun xs H Q=>∃x n,xs=[x]/\pS X.K x H n/\Q (.int n) H):=by
 intro pins s σ H xs us Q I r h;obtain⟨x,n,rfl,e,q⟩:=h;obtain⟨u,rfl,rx⟩:=vals1 r;have hl:=HK;have hs:sizeLine=16777216:=S9;cases x with
 | str y =>
  obtain⟨t,rfl⟩:=rx;obtain⟨hy,e'⟩:y.length<=sizeLine/\n=y.length:=e;subst e';exact len_str (by omega) ⟨.int _,H,I.tok _,⟨_,rfl⟩,q⟩
 | byt y =>
  obtain⟨t,rfl⟩:=rx;obtain⟨hy,e'⟩:y.size<=sizeLine/\n=y.size:=e;subst e';exact W.len_bytes (by omega) ⟨.int _,H,I.tok _,⟨_,rfl⟩,q⟩
 | ref p =>
  cases rx;have e':(∃xs,DO X.K H p xs/\n=xs.length)\/∃xs,FL X.K H p xs/\n=xs.length:=e;rcases e' with⟨xs,hx,e'⟩ | ⟨xs,hx,e'⟩
  ·subst e';obtain⟨xJ,r',pl,hz⟩:=I.list hx;have hlen:=r'.length;exact Calls.call_len_list pl.isList (by simp only[A8];omega) ⟨.int xs.length,H,I.tok _,⟨_,by simp only[A8];rw[hlen]⟩,q⟩
  ·subst e';obtain⟨xJ,r',pl,hz⟩:=I.tuple hx;have hlen:=r'.length;exact len_tuple pl (by simp only[A8];omega) ⟨.int xs.length,H,I.tok _,⟨_,by simp only[A8];rw[hlen]⟩,q⟩
 | _=>exact(show False from e).elim
end
structure zAr (h:G7) (x dx C:B5) (mA:Str->Option Value):Prop where
 obj:h.get? x=some (W.instObj C dx)
 ns:h.Ns1 dx mA
 ne:dx≠x
theorem Tc{dx:B5}{mA:Str->Option Value}(n:h.Ns1 dx mA):∃od,h.get? dx=some od/\∀name,W.lookIn name od=some (mA name):=by
  obtain⟨o,es,ep,ho,hd,hk,_,hm⟩:=n;refine⟨o,ho,fun name=>?_⟩;have e:=hm name;unfold nsFind findBy at e;rw[<- Array.find?_toList] at e;unfold W.lookIn;rw[hd];dsimp only;split
  · rename_i y q;rw[q] at e;exact congrArg some e
  · rename_i q;rw[q] at e;have a:es.toList.any (·.refKey)=false:=by
      rw[List.any_eq_false];intro y hy;obtain⟨z,t,zEI⟩:=hk y (Z1.mp hy);simp[DictEntry.refKey,zEI]
    have a':¬es.toList.any (·.refKey)=true:=by rw[a];exact D4
    rw[if_neg a'];exact congrArg some e
variable {C:B5}
theorem zAr.look{x dx:B5}{mA:Str->Option Value}(I:zAr h x dx C mA):∃od,W.InstAt h x (W.instObj C dx) C (some od)/\∀name,W.lookIn name od=some (mA name):=
 let ⟨od,ho,hl⟩:=Tc I.ns
 ⟨od,⟨I.obj,rfl,rfl,ho⟩,hl⟩
section
variable {prog:F8} {w:J0} {A:J5} {E:Value->A9->Prop} {s:A9} {K:W.Frag} {x dx C f:B5} {mA:Str->Option Value} {name:Str} {v:Value}
theorem bq{expr:Bool}{Q:Value->A9->Prop}(X:K.In s.heap)(I:zAr s.heap x dx C mA)(hg:W.plainGet K C name=true)(hh:W.hasDictIn K C=true)
    (ha:W.findIn K (.ref C) name=some none) (hv:mA name=some v) (hv':W.handedIn v=true) (h:Q v { s with toks:=s.toks+1 }) :
    C4 (D6 prog w) A (getAttr (.ref x) name expr) Q E s:=by
  obtain⟨od,J,hl⟩:=I.look;exact W.get_value X J (W.plainGet_of hg).1 (W.findObj_own hh ha rfl (by rw[hl,hv])) hv' h
theorem XW{pl:Sem Bool}{Q:Value×List Value->A9->Prop}(X:K.In s.heap)(I:zAr s.heap x dx C mA)(hg:W.plainGet K C name=true)
    (hf:W.findIn K (.ref C) name=some (some (.ref f))) (ht:W.isFn K (.ref f)=true) (hv:mA name=none) (h:Q (.ref f,[.ref x]) s) :
    C4 (D6 prog w) A (uS (.ref x) name pl) Q E s:=by
  obtain⟨od,J,hl⟩:=I.look;exact W.method_fn X J (W.plainGet_of hg).1 (W.plainGet_of hg).2 hf (beq_iff_eq.mp ht) (by show(W.lookIn name od).map (·.isSome)=some false;rw[hl,hv];rfl) h
theorem aJ{ns:List Str}{Q:Unit->A9->Prop}(X:K.In s.heap)(I:zAr s.heap x dx C mA)
    (hs:W.findIn K (.ref C) "__setattr__" = some (some (.builtin "object.__setattr__"))) (hp:W.plainOver K C=true) (ht:W.takerIn K C name=some none) (hh:W.hasDictIn K C=true)
    (hw:u5 mA ns) (hsz:ns.length<=sizeLine)
    (h:∀h',zAr h' x dx C (fun y=>if y=name then some v else mA y)->Q0 dx s.heap h'->Q () { s with heap:=h',toks:=s.toks+2 }) :
    C4 (D6 prog w) A (setAttr (.ref x) name v) Q E s:=by
  obtain⟨od,J,hl⟩:=I.look;refine W.set_plain X J hs (W.osa_open (s:={ s with toks:=s.toks+1 }) (r:=none) X J hp ht fun b=>?_);obtain⟨cd,hc,hd'⟩:=W.any_some hh;have hx:s.heap.get? x=some ⟨.ref C,some dx,.plain,#[]⟩:=I.obj;refine A1 (A6 (A1 (A1 (wpAny_loadPart hx (A1 (W.Looks.here (s:={ s with toks:=s.toks+1 }) (W.looks_clsIn X hc) ?_))))));rw[hd'];refine A6 (a:=some dx) (A1 (A6 (A1 ?_)));refine wpAny_nsSet1 (s:={ s with toks:=s.toks+1 }) I.ns fun h' hn2 hs2=>?_
  obtain⟨oD,esD,epD,hoD,hdD,hcD⟩:=hn2.count (xE name v hw);refine A1 (wpAny_lookBehind hoD (by rw[hdD];exact pastItsLine_dict (A4 hcD (by rw[C6];omega))) ?_);exact A6 (h _ ⟨(hs2.2 _ (Ne.symm I.ne)).trans I.obj,hn2,I.ne⟩ hs2)
theorem Wx{R:Result->A9->Prop}{vs:List Value}{kw:List (Str×Value)}(X:K.In s.heap)(hm:W.makesIn K C=true)
    (hi:W.findIn K (.ref C) "__init__" = some (some (.ref f))) (hf:W.typeIn K (.ref f)=some (.type "function"))
    (h:n8 (D6 prog w) (A.under (.builtin "type.__call__" ⟨.ref C::vs,kw⟩)) (.call (.ref f) ⟨.ref (s.heap.objs.size+1)::vs,kw⟩) (W.InitBack (s.heap.objs.size+1) R)
      { s with heap:=(s.heap.push W.emptyDict).push (W.instObj C s.heap.objs.size) }) :
    n8 (D6 prog w) A (.call (.ref C) ⟨vs,kw⟩) R s:=by
  obtain⟨hh,g,d,t,os⟩:=s;exact W.make_core (W.makes_of X hm) (W.looks_findIn X hi) (fun self=>W.bind_fn X self hf) (.inl rfl) h
end
noncomputable def ET(f:Str)(v:V):List (Str×V)->List (Str×V)
 | []=>[(f,v)]
 | (g,x)::r=>if g=f then(g,v)::r else(g,x)::ET f v r
theorem EX(f g:Str)(v:V):∀fs:List (Str×V),(ET f v fs).lookup g=if g=f then some v else fs.lookup g
 | []=>by
  show V9 g [(f,v)]=_
  by_cases h:g=f
  ·have hb:(g == f)=true:=beq_iff_eq.mpr h;simp only[V9,hb,if_pos h]
  ·have hb:(g == f)=false:=beq_eq_false_iff_ne.mpr h;simp only[V9,hb,if_neg h]
 | (k,x)::r=>by
  have ih:=EX f g v r;rw[show ET f v ((k,x)::r)=(if k=f then(k,v)::r else(k,x)::ET f v r) from rfl]
  by_cases hk:k=f
  ·rw[if_pos hk]
   by_cases h:g=k
   ·have hb:(g == k)=true:=beq_iff_eq.mpr h;simp only[V9,hb,if_pos (h.trans hk)]
   ·have hb:(g == k)=false:=beq_eq_false_iff_ne.mpr h;simp only[V9,hb,if_neg (fun e:g=f=>h (e.trans hk.symm))]
  ·rw[if_neg hk]
   by_cases h:g=k
   ·have hb:(g == k)=true:=beq_iff_eq.mpr h;simp only[V9,hb,if_neg (fun e:g=f=>hk (h.symm.trans e))]
   ·have hb:(g == k)=false:=beq_eq_false_iff_ne.mpr h;simp only[V9,hb];exact ih
theorem HM(f:Str)(v:V):∀fs:List (Str×V),f∈(ET f v fs).map (·.1)/\∀g,g∈fs.map (·.1)->g∈(ET f v fs).map (·.1)
 | []=>⟨by simp[ET],fun g h=>by simp at h⟩
 | (k,x)::r=>by
  obtain⟨i1,i2⟩:=HM f v r;rw[show ET f v ((k,x)::r)=(if k=f then(k,v)::r else(k,x)::ET f v r) from rfl]
  by_cases hk:k=f
  ·rw[if_pos hk];subst hk;exact⟨by simp,fun g h=>by simpa using h⟩
  ·rw[if_neg hk];refine⟨?_,fun g h=>?_⟩
   ·rw[B6];exact A7 _ i1
   ·rw[B6] at h ⊢;rcases B9.mp h with e | e
    ·exact B9.mpr (.inl e)
    ·exact A7 _ (i2 g e)
theorem Hi(f:Str)(v:V):∀fs:List (Str×V),(ET f v fs).length<=fs.length+1
 | []=>by simp[ET]
 | (k,x)::r=>by
  have ih:=Hi f v r;rw[show ET f v ((k,x)::r)=(if k=f then(k,v)::r else(k,x)::ET f v r) from rfl]
  by_cases hk:k=f
  ·rw[if_pos hk,C6,C6];omega
  ·rw[if_neg hk,C6,C6];omega
theorem ED.some_of{o:Option Value}(r:ED (some v) o):∃u,o=some u/\RelV v u:=by
 cases o with
 | none=>exact(show False from r).elim
 | some u=>exact⟨u,rfl,r⟩
theorem ED.none_of{o:Option Value}(r:ED none o):o=none:=by
 cases o with
 | none=>rfl
 | some u=>exact(show False from r).elim
theorem Tq(r:RelV v u):W.handedIn u=true:=by
 cases v with
 | xQ=>cases(show u=T1 from r);rfl
 | bl b=>cases(show u=ue b from r);rfl
 | int i=>obtain⟨t,e⟩:=(show ∃t,u=uP i t from r);cases e;rfl
 | str x=>obtain⟨t,e⟩:=(show ∃t,u=uQ x t from r);cases e;rfl
 | byt b=>obtain⟨t,e⟩:=(show ∃t,u=wt b t from r);cases e;rfl
 | flt b=>obtain⟨t,e⟩:=(show ∃t,u=vm b t from r);cases e;rfl
 | ref a=>cases(show u=E3 a from r);rfl
 | ty n=>cases(show u=M0 n from r);rfl
section
variable {P:F8} {w:J0} {H H':Hp} {h h':G7} {a C dx:B5} {fs fs':List (Str×V)}
theorem IG(xP:FM P w H h)(e:H a=some (.ins C dx fs)):∃mA,zAr h a dx C mA/\(∀f,ED (fs.lookup f) (mA f))/\u5 mA (fs.map (·.1))/\fs.length<=1000/\H dx=some (.own a):=by
 obtain⟨d,z,ne,ob,mA,n,r,q⟩:=(show Ae P w H h a (.ins C dx fs) from xP a _ e);exact⟨mA,⟨ob,n,ne⟩,r,q,z,d⟩
end
structure Cls (K:W.Frag) (C:B5):Prop where
 pg:W.plainGet K C Str.empty=true
 hd:W.hasDictIn K C=true
 po:W.plainOver K C=true
 sa:W.findIn K (.ref C) "__setattr__" = some (some (.builtin "object.__setattr__"))
theorem Cls.get{K:W.Frag}(c:Cls K C)(f:Str):W.plainGet K C f=true:=c.pg
def El(K:W.Frag)(C:B5)(f:Str):Prop:=W.findIn K (.ref C) f=some none
theorem El.zCv{K:W.Frag}{f:Str}(n:El K C f):W.takerIn K C f=some none:=by
 unfold W.takerIn;rw[show W.findIn K (.ref C) f=some none from n];rfl
structure Meth (K:W.Frag) (C:B5) (m:Str) (f:B5):Prop where
 at_:W.findIn K (.ref C) m=some (some (.ref f))
 fn:W.isFn K (.ref f)=true
 kp:W.keepIn K (.ref f)=true
section
variable {X:Cx} {pins:List (B5×Obj)} {σ:St} {H:Hp} {s:A9} {a C dx:B5} {fs:List (Str×V)} {f:Str} {v:V} {A:J5} {E:Value->A9->Prop}
theorem QN{b:Bool}{Q:Value->A9->Prop}(I:Inv X pins σ H s)(e:H a=some (.ins C dx fs))(c:Cls X.K C)(n:El X.K C f)(l:fs.lookup f=some v)
    (h:∀u s',Inv X pins σ H s'->RelV v u->Q u s'):C4 (D6 X.prog X.w) A (getAttr (.ref a) f b) Q E s:=by
  obtain⟨mA,O,r,_,_,_⟩:=IG I.xP e;obtain⟨u,hu,ru⟩:=ED.some_of (v:=v) (o:=mA f) (by rw[<- l];exact r f);exact bq I.zE O (c.get f) c.hd n hu (Tq ru) (h u _ (I.tok _) ru)
theorem JX{m:Str}{g:B5}{pl:Sem Bool}{Q:Value×List Value->A9->Prop}(I:Inv X pins σ H s)(e:H a=some (.ins C dx fs))(c:Cls X.K C)(k:Meth X.K C m g)(l:fs.lookup m=none)
    (h:Q (.ref g,[.ref a]) s):C4 (D6 X.prog X.w) A (uS (.ref a) m pl) Q E s:=by
  obtain⟨mA,O,r,_,_,_⟩:=IG I.xP e;have hn:mA m=none:=ED.none_of (by rw[<- l];exact r m);exact XW I.zE O (c.get m) k.at_ k.fn hn h
theorem PN{y:V}{Q:Unit->A9->Prop}(I:Inv X pins σ H s)(e:H a=some (.ins C dx fs))(c:Cls X.K C)(n:El X.K C f)(hl:fs.length < 1000)(ry:RelV y u)
    (h:∀s',Inv X pins σ (upd H a (.ins C dx (ET f y fs))) s'->Q () s'):C4 (D6 X.prog X.w) A (setAttr (.ref a) f u) Q E s:=by
  obtain⟨mA,O,r,wi,_,ho⟩:=IG I.xP e;have hz:(fs.map (·.1)).length<=sizeLine:=by rw[D5,S9];omega
  refine aJ I.zE O c.sa c.po n.zCv c.hd wi hz fun h' O' sb=>h _ ?_
  have hd:∃o,h'.get? dx=some o:=let ⟨o,_,_,e',_⟩:=O'.ns;⟨o,e'⟩;refine I.write (x:=a) (e:=dx) (by rw[e];exact True.intro) (.inr ho) (fun b q hb z=>(sb.2 b hb).trans z) hd ?_;refine⟨by rw[AG O.ne];exact ho,?_,O.ne,O'.obj,_,O'.ns,fun g=>?_,fun g hg=>?_⟩
  · have:=Hi f y fs;omega
  · show ED ((ET f y fs).lookup g) (if g=f then some u else mA g);rw[EX]
    by_cases q:g=f
    · rw[if_pos q,if_pos q];exact ry
    · rw[if_neg q,if_neg q];exact r g
  · by_cases q:g=f
    · rw[q];exact(HM f y fs).1
    · refine(HM f y fs).2 g (wi g fun z=>hg ?_);show(if g=f then some u else mA g)=none;rw[if_neg q];exact z
theorem Inv.made(I:Inv X pins σ H s):Inv X pins σ (upd (upd H s.heap.objs.size (.own (s.heap.objs.size+1))) (s.heap.objs.size+1) (.ins C s.heap.objs.size []))
    { s with heap:=(s.heap.push W.emptyDict).push (W.instObj C s.heap.objs.size) }:=by
  have e1:(s.heap.push W.emptyDict).get? s.heap.objs.size=some W.emptyDict:=C8 s.heap rfl;have e2:((s.heap.push W.emptyDict).push (W.instObj C s.heap.objs.size)).get? (s.heap.objs.size+1)=some (W.instObj C s.heap.objs.size):=by
    have:=C8 (s.heap.push W.emptyDict) (o:=W.instObj C s.heap.objs.size) rfl
    rwa [L5] at this
  have e3:(s.heap.push W.emptyDict).Ns s.heap.objs.size (fun _=>none):=⟨W.emptyDict,#[],_,e1,rfl,(fun e he=>absurd he (by simp)),fun _=>rfl⟩;have I1:=I.laid (a:=s.heap.objs.size) (o:=.own (s.heap.objs.size+1)) (h':=s.heap.push W.emptyDict) (t':=s.toks) (fun b u q=>A5 _ q) (B7 _) ⟨_,e1⟩;refine I1.laid (a:=s.heap.objs.size+1) (o:=.ins C s.heap.objs.size []) (t':=s.toks) (fun b u q=>A5 _ q) (vA (L5 _ _)) ?_;have ne:s.heap.objs.size≠s.heap.objs.size+1:=E4 (Y2 _);refine⟨by rw[AG ne,AH],G5 _,ne,e2,fun _=>none,(Heap.Ns1.of_empty e3).at fun o q=>A5 _ q,fun _=>True.intro,fun y hy=>absurd rfl hy⟩
theorem cw{prog:F8}{w:J0}{env:Env}{f:Str}{pos:Pos}{s:A9}{Q:Value->A9->Prop}(hb:N2 e f env (N1 e env)=N1 e env)
    (h:C4 (D6 prog w) A (N1 e env) (fun o xR=>C4 (D6 prog w) A (getAttr o f true) Q E xR) E s):C4 (D6 prog w) A (N1 (.Attribute e f pos) env) Q E s:=
  Attribute_any_ h (by rw[arm_eval_Attribute,hb])
end
def Sg(K:W.Frag)(ta:TE)(f:Str):TE:=fun σ H Q=>ta σ H fun x H1=>∃a C dx fs v,x=.ref a/\H1 a=some (.ins C dx fs)/\Cls K C/\El K C f/\fs.lookup f=some v/\Q v H1
def mW(K:W.Frag)(ta tv:TE)(f:Str):TS:=fun D σ H=>tv σ H fun y H1=>ta σ H1 fun x H2=>∃a C dx fs,x=.ref a/\H2 a=some (.ins C dx fs)/\Cls K C/\El K C f/\fs.length < 1000 /\
 D.nx σ (upd H2 a (.ins C dx (ET f y fs)))
section
variable {X:Cx} {o e value:Expr} {f:Str} {pos pos' zL:Pos} {ta tv:TE}
theorem iS(he:PE X e ta)(hb:N2 e f X.env (N1 e X.env)=N1 e X.env):PE X (.Attribute e f pos) (Sg X.K ta f):=by
 intro pins s σ H Q I h;refine cw hb (Ap (he pins s σ H _ I h) fun u s1 ⟨x,H1,I1,rx,a,C,dx,fs,v,ex,ea,c,n,l,q⟩=>?_);subst ex;obtain rfl:u=E3 a:=rx;exact QN I1 ea c n l fun u' s2 I2 ru=>⟨v,H1,I2,ru,q⟩
theorem hZ(ha:PE X o ta)(hv:PE X value tv)(hs:T7 value (some (.Attribute o f pos')) pos.line X.env=pure false):PS X (.Assign [.Attribute o f pos'] value pos) (mW X.K ta tv f):=by
 intro pins s σ H D I h;refine plainObj_wpAny_Assign_Attribute (Ap (hv pins s σ H _ I h) fun u s1 ⟨y,H1,I1,ry,q⟩=>Ap (ha pins s1 σ H1 _ I1 q) fun ov s2 ⟨x,H2,I2,rx,a,C,dx,fs,ex,ea,c,n,l,q2⟩=>?_) hs;subst ex;obtain rfl:ov=E3 a:=rx;exact PN I2 ea c n l ry fun s3 I3=>⟨σ,_,I3,q2⟩
end
section
variable {X:Cx} {pins:List (B5×Obj)} {σ:St} {H:Hp} {s:A9} {A:J5} {E:Value->A9->Prop} {Q:Value->A9->Prop} {c:Value} {b:Bool}
inductive yi (K:W.Frag) (H:Hp):V->Value->Prop where
  | xQ:yi K H .xQ (.type "NoneType")
  | bl (x:Bool):yi K H (.bl x) (.type "bool")
  | int (i:Int):yi K H (.int i) (.type "int")
  | str (x:Str):yi K H (.str x) (.type "str")
  | flt (x:UInt64):yi K H (.flt x) (.type "float")
  | lst {a:B5} {xs:List V} (e:H a=some (.lst xs)):yi K H (.ref a) (.type "list")
  | frz {a:B5} {o:Obj} {xs:List V} (e:H a=some (.frz o (.lst xs))):yi K H (.ref a) (.type "list")
  | tup {a:B5} {xs:List V} (e:H a=some (.tup xs)):yi K H (.ref a) (.type "tuple")
  | dK {a:B5} {xK:List (Ak×V)} (e:H a=some (.dK xK)):yi K H (.ref a) (.type "dict")
  | dT {a:B5} {xK:List (List Ak×V)} (e:H a=some (.dT xK)):yi K H (.ref a) (.type "dict")
  | ins {a C dx:B5} {fs:List (Str×V)} (e:H a=some (.ins C dx fs)) (cl:Cls K C) (ha:W.findIn K (.ref C) "__class__" = some (some (.builtin "object.__class__")))
      (hn:W.specialIn K (.builtin "object.__class__") "__get__" = some (some (.builtin "getset_descriptor.__get__"))) (htk:W.takesIn K (.builtin "object.__class__")=some true)
      (hm:W.mroIn K C (.type "object")=some true):yi K H (.ref a) (.ref C)
theorem Ti{x:V}{t:Value}(I:Inv X pins σ H s)(rx:RelV x u)(ty:yi X.K H x t)(e:W.kitOne X.K t c=some b)(h:∀tk,Q (.bool b) { s with toks:=tk }) :
    C4 (D6 X.prog X.w) A (call (.builtin "isinstance") [u,c]) Q E s:=by
  cases ty with
  | xQ=>cases(show u=T1 from rx);exact W.kia_one W.kitx_none I.zE True.intro e (fun z=>nomatch z) h
  | bl y=>cases(show u=ue y from rx);exact W.kia_one W.kitx_bool I.zE True.intro e (fun z=>nomatch z) h
  | int i=>obtain⟨t,q⟩:=(show ∃t,u=uP i t from rx);cases q;exact W.kia_one W.kitx_int I.zE True.intro e (fun z=>nomatch z) h
  | str y=>obtain⟨t,q⟩:=(show ∃t,u=uQ y t from rx);cases q;exact W.kia_one W.kitx_str I.zE True.intro e (fun z=>nomatch z) h
  | flt y=>obtain⟨t,q⟩:=(show ∃t,u=vm y t from rx);cases q;exact W.kia_one W.kitx_float I.zE True.intro e (fun z=>nomatch z) h
  | @lst a xs ea =>
    cases(show u=E3 a from rx);obtain⟨_,_,n,_,h1⟩:=(show Ae X.prog X.w H s.heap a (.lst xs) from I.xP a _ ea);exact W.kia_one W.kitx_list I.zE ⟨_,h1,rfl⟩ e (fun z=>nomatch z) h
  | @frz a ob xs ea =>
    cases(show u=E3 a from rx);obtain⟨_,_,_,n,_,h1⟩:=(show Ae X.prog X.w H s.heap a (.frz ob (.lst xs)) from I.xP a _ ea);exact W.kia_one W.kitx_list I.zE ⟨_,h1,rfl⟩ e (fun z=>nomatch z) h
  | @tup a xs ea =>
    cases(show u=E3 a from rx);obtain⟨_,_,_,p⟩:=(show Ae X.prog X.w H s.heap a (.tup xs) from I.xP a _ ea);obtain⟨o,h1,h2,_⟩:=p;exact W.kia_one W.kitx_tuple I.zE ⟨o,h1,h2⟩ e (fun z=>nomatch z) h
  | @dK a xK ea =>
    cases(show u=E3 a from rx);obtain⟨_,_,vs,_,p⟩:=(show Ae X.prog X.w H s.heap a (.dK xK) from I.xP a _ ea);obtain⟨o,es,ep,h1,h2,_⟩:=p;exact W.kia_one W.kitx_dict I.zE ⟨o,h1,h2.1⟩ e (fun z=>nomatch z) h
  | @dT a xK ea =>
    cases(show u=E3 a from rx);obtain⟨_,_,xs,_,o,es,ep,h1,h2,_⟩:=(show Ae X.prog X.w H s.heap a (.dT xK) from I.xP a _ ea);exact W.kia_one W.kitx_dict I.zE ⟨o,h1,h2.1⟩ e (fun z=>nomatch z) h
  | @ins a C dx fs ea cl ha hn htk hm =>
    cases(show u=E3 a from rx);obtain⟨mA,O,_⟩:=IG I.xP ea;obtain⟨od,J,_⟩:=O.look;exact W.kia_one (W.kitx_own (cl.get _) cl.hd ha hn htk hm) I.zE J e (fun z=>nomatch z) h
end
structure xW (k:Nat) (A:J5):Prop where
 hd:A.handled=none
 dp:A.depth+3 * k+5 < recursionLimit
 un:A.units+16 * k+200 < K6
 gd:A.guards=some []
variable {k:Nat}
theorem xW.mono{j:Nat}(r:xW k A)(h:j<=k):xW j A:=⟨r.hd,by have:=r.dp;omega,by have:=r.un;omega,r.gd⟩
theorem xW.deeper(r:xW (k+1) A)(env:Env):xW k (A.deeper env):=
 ⟨r.hd,by have:=r.dp;show A.depth+1+3 * k+5 < _;omega,by have:=r.un;show A.units+3+16 * k+200 < _;omega,r.gd⟩
theorem QD{kw:List (Str×Value)}:(A.under (.builtin "type.__call__" ⟨.ref C::us,kw⟩)).depth=A.depth+1:=by
 first | rfl | simp[g9,Code.weight,Code.isCreation,vB,Code.isCaller,wx,vC,guardIds]
theorem QC{kw:List (Str×Value)}:(A.under (.builtin "type.__call__" ⟨.ref C::us,kw⟩)).units=A.units+1:=by
 first | rfl | simp[g9,Code.cUnits,wx,vC]
theorem xW.make(r:xW (k+1) A)(C:B5)(us:List Value)(kw:List (Str×Value)):xW k (A.under (.builtin "type.__call__" ⟨.ref C::us,kw⟩)):=
 ⟨r.hd,by have:=r.dp;rw[QD];omega,by have:=r.un;rw[QC];omega,by
 have e:(A.under (.builtin "type.__call__" ⟨.ref C::us,kw⟩)).guards=A.guards:=by
  first | rfl | (simp only[g9,wy,vB];cases A.guards<;>simp[pushGuards,guardIds]) | simp[g9,wy,vB,guardIds,pushGuards]
 rw[e];exact r.gd⟩
theorem xW.depth(r:xW k A):A.depth < recursionLimit:=by have:=r.dp;omega
abbrev Sd:TA:=fun _ H Q=>Q [] H
abbrev dS(ta:TE)(tr:TA):TA:=fun σ H Q=>ta σ H fun x H1=>tr σ H1 fun xs H2=>Q (x::xs) H2
section
variable {X:Cx} {e:Expr} {es:List Expr} {te:TE} {t:TA} {pos:Pos}
theorem WY:PA X [] Sd:=fun _ _ _ _ H Q I h=>n9 ⟨[],H,I,.nil,h⟩
theorem Do(ha:PE X e te)(hr:PA X es t)(hs:D8 (e::es) X.env=(false,N1 e X.env)::D8 es X.env:=by rfl):PA X (e::es) (dS te t):=by
 intro pos pins s σ H Q I h;rw[hs];show C4 _ _ (spliced ((false,N1 e X.env)::O3 pos (D8 es X.env))) _ _ s;refine uk (Ap (ha pins s σ H _ I h) fun u s1 ⟨x,H1,I1,r1,q1⟩=>?_);exact Ap (hr pos pins s1 σ H1 _ I1 q1) fun us s2 ⟨xs,H2,I2,r2,q2⟩=>⟨x::xs,H2,I2,.cons r1 r2,q2⟩
abbrev qB(t:TA):TE:=fun σ H Q=>t σ H fun xs H1=>xs.length<=sizeLine/\∀p,H1 p=none->Q (.ref p) (upd H1 p (.tup xs))
abbrev qF(t:TA):TE:=fun σ H Q=>t σ H fun xs H1=>xs.length<=sizeLine/\∀p,H1 p=none->Q (.ref p) (upd H1 p (.lst xs))
theorem iL{x1}(h:PA X es t):PE X (.Tuple es x1 pos) (qB t):=by
 intro pins s σ H Q I hq;refine wpAny_Tuple_spliced (Ap (h pos pins s σ H _ I hq) fun us s1 ⟨xs,H1,I1,r,z,q⟩=>⟨by rw[<- r.length];exact z,?_⟩);have hf:H1 s1.heap.objs.size=none:=I1.xP.fresh (B7 _);refine⟨.ref s1.heap.objs.size,upd H1 s1.heap.objs.size (.tup xs),I1.laid (t':=s1.toks) (fun b u e=>A5 _ e) (B7 _) ?_,rfl,q _ hf⟩;exact⟨z,us,r,⟨_,C8 _ rfl,rfl,rfl,_,rfl⟩⟩
theorem iQ(h:PA X es t):PE X (.List es pos) (qF t):=by
 intro pins s σ H Q I hq;refine wpAny_List_spliced (Ap (h pos pins s σ H _ I hq) fun us s1 ⟨xs,H1,I1,r,z,q⟩=>⟨by rw[<- r.length];exact z,?_⟩);have hf:H1 s1.heap.objs.size=none:=I1.xP.fresh (B7 _);refine⟨.ref s1.heap.objs.size,upd H1 s1.heap.objs.size (.lst xs),I1.laid (t':=s1.toks) (fun b u e=>A5 _ e) (B7 _) ?_,rfl,q _ hf⟩;exact⟨z,us,0,r,C8 _ rfl⟩
end
abbrev Sp:=List V->Hp->VK->XK->Prop
abbrev Zl:=List Env->Hp->A9->XK->Value->A9->Prop
structure zAs (P:F8) (w:J0) (K:W.Frag) (mg:Str->Option Value) (base:G7) (A:J5) (outer:List Env) (s:A9) (H:Hp):Prop where
 frames:A.frames=some outer
 mod:Mod K mg base
 bs:∀b o,base.get? b=some o->s.heap.get? b=some o/\H b=none
 bsz:base.objs.size<=s.heap.objs.size
 zH:s.heap.FunFrames base outer
 frf:∀b∈Rt outer,H b=none
 xP:FM P w H s.heap
 bare:m8 s.gens
def CE(outer:List Env)(P:F8)(w:J0)(H:Hp)(s:A9)(Q:VK)(u:Value)(s':A9):Prop:=
 ∃v H',s'.os=s.os/\m8 s'.gens/\Un (Rt outer) [] H H' s.heap s'.heap/\FM P w H' s'.heap/\RelV v u/\Q v H'
def CR(CX:Zl)(outer:List Env)(P:F8)(w:J0)(H:Hp)(s:A9)(Q:VK)(E:XK)(r:Result)(s':A9):Prop:=
 match r with
 | .ok (.ret u)=>CE outer P w H s Q u s'
 | .ok _=>False
 | .error e=>CX outer H s E e s'
structure xr (P:F8) (w:J0) (K:W.Frag) (mg:Str->Option Value) (base:G7) (CX:Zl) (k:Nat) (f:B5) (fd:Q8) (ps:List Str) (sp:Sp):Prop where
 len:∀vs H Q E,sp vs H Q E->vs.length=ps.length
 run:∀(A:J5) (outer:List Env) (s:A9) (H:Hp) (args:Args) (us:List Value) (vs:List V) (Q:VK) (E:XK),xW k A->zAs P w K mg base A outer s H->vD s fd args (ps.zip us)->AF vs us->sp vs H Q E ->
  n8 (D6 P w) A (.call (.ref f) args) (CR CX outer P w H s Q E) s
variable {mg:Str->Option Value} {base:G7}
theorem xr.imp{K:W.Frag}{CX:Zl}{f:B5}{fd:Q8}{ps:List Str}{sp sp':Sp}(F:xr P w K mg base CX k f fd ps sp)
    (h:∀vs H Q E,sp' vs H Q E->sp vs H Q E):xr P w K mg base CX k f fd ps sp':=
  ⟨fun vs H Q E q=>F.len vs H Q E (h _ _ _ _ q),fun A outer s H args us vs Q E hr he hb hv hs=>F.run A outer s H args us vs Q E hr he hb hv (h _ _ _ _ hs)⟩
theorem zAs.make{K:W.Frag}{outer:List Env}(e:zAs P w K mg base A outer s H)(C:B5)(us:List Value)(kw:List (Str×Value)) :
    zAs P w K mg base (A.under (.builtin "type.__call__" ⟨.ref C::us,kw⟩)) outer s H:=⟨by first | exact e.frames | (simpa[g9,Code.envs,vC,pushEnvs] using e.frames),e.mod,e.bs,e.bsz,e.zH,e.frf,e.xP,e.bare⟩
section
variable {X:Cx} {pins:List (B5×Obj)} {σ:St} {H:Hp} {s s':A9}
theorem Inv.zDX(I:Inv X pins σ H s):zAs X.prog X.w X.K X.mg X.base X.A X.stack s H:=
 ⟨I.ok.frames,I.ok.mod,I.bs,A4 I.ok.bsz I.sz,I.stack,I.zAv,I.xP,I.bare⟩
theorem Inv.after{Q:VK}(I:Inv X pins σ H s)(h:CE X.stack X.prog X.w H s Q u s'):EP X pins σ Q u s':=by
 obtain⟨v,H',os,bare,un,xP,r,q⟩:=h;obtain⟨hh,g,d,t,os'⟩:=s';obtain rfl:os'=s.os:=os;exact⟨v,H',I.call (h':=hh) (g':=g) (d':=d) (t':=t) (ch:=[]) un xP bare (fun b z=>absurd z (by simp)),r,q⟩
end
abbrev dU(sp:Sp)(zO:List V)(E:XK)(t:TA):TE:=fun σ H Q=>t σ H fun vs H1=>sp (vs++zO) H1 Q E
def RD(C:B5)(m:Str)(sp:Sp)(zO:List V)(E:XK)(ta:TE)(t:TA):TE:=fun σ H Q=>ta σ H fun x H1=>∃a dx fs,x=.ref a/\H1 a=some (.ins C dx fs)/\fs.lookup m=none /\
 t σ H1 fun vs H2=>sp (x::(vs++zO)) H2 Q E
def RE(C:B5)(sp:Sp)(zO:List V)(E:XK)(t:TA):TE:=fun σ H Q=>t σ H fun vs H1=>∀x dx,H1 x=none->H1 dx=none->dx≠x ->
 sp (.ref x::(vs++zO)) (upd (upd H1 dx (.own x)) x (.ins C dx [])) (fun v H2=>v=.xQ/\Q (.ref x) H2) E
def Binds(K:W.Frag)(fd:Q8)(ps:List Str)(ds:List Value):Prop:=
 ∀(s:A9) (us:List Value),K.In s.heap->(us++ds).length=ps.length->vD s fd ⟨us,[]⟩ (ps.zip (us++ds))
theorem Binds.all{K:W.Frag}{fd:Q8}{ps:List Str}(h:∀us:List Value,us.length=ps.length->sY fd ⟨us,[]⟩=pure (ps.zip us)):Binds K fd ps []:=fun s us _ hl=>by
 rw[K0] at hl ⊢;exact .of_eq (h us hl)
def DQ(CX:Zl)(X:Cx)(E:XK):Prop:=∀(pins:List (B5×Obj)) (σ:St) (H:Hp) (s:A9) (e:Value) (s':A9),Inv X pins σ H s->CX X.stack H s E e s'->X.xe e s'
section
variable {X:Cx} {CX:Zl} {k:Nat} {f C:B5} {fd:Q8} {ps:List Str} {sp:Sp} {zO:List V} {ds:List Value} {E:XK} {x m:Str} {p pos apos:Pos} {e o:Expr} {es:List Expr} {ta:TE} {t:TA}
theorem Ln{pins:List (B5×Obj)}{σ:St}{H:Hp}{s:A9}{Q:VK}{us:List Value}{vs:List V}(F:xr X.prog X.w X.K X.mg X.base CX k f fd ps sp)(hr:xW k X.A)(hb:Binds X.K fd ps ds)(hd:AF zO ds)(hx:DQ CX X E)
    (I:Inv X pins σ H s) (r:AF vs us) (h:sp (vs++zO) H Q E):C4 (D6 X.prog X.w) X.A (call (.ref f) us) (EP X pins σ Q) X.xe s:=by
  have r2:AF (vs++zO) (us++ds):=r.append hd;have hl:(us++ds).length=ps.length:=by rw[<- r2.length];exact F.len _ _ _ _ h
  refine wpAny_call (tF (F.run X.A X.stack s H ⟨us,[]⟩ (us++ds) (vs++zO) Q E hr I.zDX (hb s us I.zE hl) r2 h) fun r s' hq=>?_);cases r with
  | error e=>exact hx pins σ H s e s' I hq
  | ok fl =>
    cases fl with
    | ret u=>exact I.after hq
    | next=>exact E5 hq
    | brk=>exact E5 hq
    | cont=>exact E5 hq
theorem bF(F:xr X.prog X.w X.K X.mg X.base CX k f fd ps sp)(hr:xW k X.A)(hg:Gl X x)(hm:X.mg x=some (.ref f))(hk:W.keepIn X.K (.ref f)=true)(hb:Binds X.K fd ps ds)(hd:AF zO ds)(hx:DQ CX X E)
    (ha:PA X (e::es) t) (hdb:(x == ("__debug__" : Str))=false:=by decide) (he:D8 (e::es) X.env=(false,N1 e X.env)::D8 es X.env:=by rfl) (hpl:(O3 pos (D8 es X.env)).any (·.1)=false:=by rfl) :
    PE X (.Call (.Name x p) (e::es) [] pos) (dU sp zO E t):=by
  intro pins s σ H Q I h;refine M8 (GK I hg hm ?_ hdb);refine W.callWith_K (h₀:=X.base) I.ok.mod.kin hk (Ap (ha pos pins s σ H _ I h) fun us s1 ⟨vs,H1,I1,r,q⟩=>⟨I1.zE,?_⟩) he hpl;exact Ln F hr hb hd hx I1 r q
theorem WW(F:xr X.prog X.w X.K X.mg X.base CX k f fd ps sp)(hr:xW k X.A)(hg:Gl X x)(hm:X.mg x=some (.ref f))(hk:W.keepIn X.K (.ref f)=true)(hb:Binds X.K fd ps ds)(hd:AF zO ds)(hx:DQ CX X E)
    (hdb:(x == ("__debug__" : Str))=false:=by decide):PE X (.Call (.Name x p) [] [] pos) (dU sp zO E Sd):=by
  intro pins s σ H Q I h;refine M8 (GK I hg hm ?_ hdb);exact W.callWith_K0 I.zE hk (Ln (us:=[]) F hr hb hd hx I .nil h)
theorem bB{pl:Sem Bool}(he:PE X o ta)(c:Cls X.K C)(hm:Meth X.K C m f)(F:xr X.prog X.w X.K X.mg X.base CX k f fd ps sp)(hr:xW k X.A)(hb:Binds X.K fd ps ds)(hd:AF zO ds)(hx:DQ CX X E)(ha:PA X (e::es) t)
    (hst:D8 (e::es) X.env=(false,N1 e X.env)::D8 es X.env:=by rfl) (hpl:(O3 pos (D8 es X.env)).any (·.1)=false:=by rfl)
    (ht:N1 (.Call (.Attribute o m apos) (e::es) [] pos) X.env=(do
      let ov <- N1 o X.env
      u9 apos.atName
      let (f,first) <- g8 [ov] (uS ov m pl)
      callWith pos f first (O3 pos (D8 (e::es) X.env)) (sZ pos (W0 [] X.env))):=by rfl) :
    PE X (.Call (.Attribute o m apos) (e::es) [] pos) (RD C m sp zO E ta t):=by
  intro pins s σ H Q I h;refine W.methodCall_KW (pl:=pl) (Ap (he pins s σ H _ I h) fun u s1 ⟨x,H1,I1,rx,a,dx,fs,ex,ea,l,q⟩=>?_) ht;subst ex;obtain rfl:u=E3 a:=rx;refine JX I1 ea c hm l ?_;refine W.callWith_K (first:=[.ref a]) (h₀:=X.base) I.ok.mod.kin hm.kp (Ap (ha pos pins s1 σ H1 _ I1 q) fun us s2 ⟨vs,H2,I2,r,q2⟩=>⟨I2.zE,?_⟩) hst hpl;exact Ln (us:=.ref a::us) (vs:=.ref a::vs) F hr hb hd hx I2 (.cons rfl r) q2
theorem WQ{pl:Sem Bool}(he:PE X o ta)(c:Cls X.K C)(hm:Meth X.K C m f)(F:xr X.prog X.w X.K X.mg X.base CX k f fd ps sp)(hr:xW k X.A)(hb:Binds X.K fd ps ds)(hd:AF zO ds)(hx:DQ CX X E)
    (ht:N1 (.Call (.Attribute o m apos) [] [] pos) X.env=(do
      let ov <- N1 o X.env
      u9 apos.atName
      let (f,first) <- g8 [ov] (uS ov m pl)
      callWith pos f first (O3 pos (D8 [] X.env)) (sZ pos (W0 [] X.env))):=by rfl) :
    PE X (.Call (.Attribute o m apos) [] [] pos) (RD C m sp zO E ta Sd):=by
  intro pins s σ H Q I h;refine W.methodCall_KW (pl:=pl) (Ap (he pins s σ H _ I h) fun u s1 ⟨x,H1,I1,rx,a,dx,fs,ex,ea,l,q⟩=>?_) ht;subst ex;obtain rfl:u=E3 a:=rx;refine JX I1 ea c hm l ?_;exact W.callWith_K0 (first:=[.ref a]) I1.zE hm.kp (Ln (us:=[.ref a]) (vs:=[.ref a]) F hr hb hd hx I1 (.cons rfl .nil) q)
structure Mk (K:W.Frag) (C f:B5):Prop where
 makes:W.makesIn K C=true
 init:W.findIn K (.ref C) "__init__" = some (some (.ref f))
 fn:W.isFn K (.ref f)=true
 kp:W.keepIn K (.ref C)=true
theorem NN{pins:List (B5×Obj)}{σ:St}{H:Hp}{s:A9}{Q:VK}{us:List Value}{vs:List V}(M:Mk X.K C f)(F:xr X.prog X.w X.K X.mg X.base CX k f fd ps sp)(hr:xW (k+1) X.A)(hb:Binds X.K fd ps ds)(hd:AF zO ds)
    (hx:DQ CX X E) (I:Inv X pins σ H s) (r:AF vs us)
    (h:∀x dx,H x=none->H dx=none->dx≠x->sp (.ref x::(vs++zO)) (upd (upd H dx (.own x)) x (.ins C dx [])) (fun v H2=>v=.xQ/\Q (.ref x) H2) E) :
    C4 (D6 X.prog X.w) X.A (call (.ref C) us) (EP X pins σ Q) X.xe s:=by
  have hq:=h (s.heap.objs.size+1) s.heap.objs.size (I.xP.fresh (U1 _)) (I.xP.fresh (B7 _)) (E4 (Y2 _));have I2:=Inv.made (C:=C) I;have r2:AF (V.ref (s.heap.objs.size+1)::(vs++zO)) (E3 (s.heap.objs.size+1)::(us++ds)):=.cons rfl (r.append hd);have hl:(E3 (s.heap.objs.size+1)::us++ds).length=ps.length:=by
    have e:=r2.length;rw[F.len _ _ _ _ hq] at e;exact e.symm
  refine wpAny_call (Wx (f:=f) I.zE M.makes M.init (beq_iff_eq.mp M.fn) (tF (F.run _ X.stack _ _ ⟨E3 (s.heap.objs.size+1)::us,[]⟩ (E3 (s.heap.objs.size+1)::(us++ds)) _ _ E (hr.make C us [])
    (I2.zDX.make C us []) (hb _ (E3 (s.heap.objs.size+1)::us) I2.zE hl) r2 hq) fun r s' hq'=>?_))
  cases r with
  | error e=>exact hx pins σ _ _ e s' I2 hq'
  | ok fl =>
    cases fl with
    | ret u =>
      obtain⟨v,H',I3,rv,ev,q3⟩:=I2.after hq';subst ev;exact⟨rv,⟨V.ref (s.heap.objs.size+1),H',I3,rfl,q3⟩⟩
    | next=>exact E5 hq'
    | brk=>exact E5 hq'
    | cont=>exact E5 hq'
theorem bC(M:Mk X.K C f)(F:xr X.prog X.w X.K X.mg X.base CX k f fd ps sp)(hr:xW (k+1) X.A)(hg:Gl X x)(hm:X.mg x=some (.ref C))(hb:Binds X.K fd ps ds)(hd:AF zO ds)(hx:DQ CX X E)
    (ha:PA X (e::es) t) (hdb:(x == ("__debug__" : Str))=false:=by decide) (he:D8 (e::es) X.env=(false,N1 e X.env)::D8 es X.env:=by rfl) (hpl:(O3 pos (D8 es X.env)).any (·.1)=false:=by rfl) :
    PE X (.Call (.Name x p) (e::es) [] pos) (RE C sp zO E t):=by
  intro pins s σ H Q I h;refine M8 (GK I hg hm ?_ hdb);refine W.callWith_K (h₀:=X.base) I.ok.mod.kin M.kp (Ap (ha pos pins s σ H _ I h) fun us s1 ⟨vs,H1,I1,r,q⟩=>⟨I1.zE,?_⟩) he hpl;exact NN M F hr hb hd hx I1 r q
theorem WR(M:Mk X.K C f)(F:xr X.prog X.w X.K X.mg X.base CX k f fd ps sp)(hr:xW (k+1) X.A)(hg:Gl X x)(hm:X.mg x=some (.ref C))(hb:Binds X.K fd ps ds)(hd:AF zO ds)(hx:DQ CX X E)
    (hdb:(x == ("__debug__" : Str))=false:=by decide):PE X (.Call (.Name x p) [] [] pos) (RE C sp zO E Sd):=by
  intro pins s σ H Q I h;refine M8 (GK I hg hm ?_ hdb);exact W.callWith_K0 I.zE M.kp (NN (us:=[]) M F hr hb hd hx I .nil h)
end
structure y8 (N P:List Str) (sc:N4):Prop where
 kind:sc.kind=.function
 co:sc.isCoroutine=false
 gen:sc.isGenerator=false
 nd:N.Nodup
 pre:N.take P.length=P
 par:∀x∈P,sc.names.lookup x=some .local\/sc.names.lookup x=some .cell
 zCh:∀y∈sc.names,y.2≠.free
theorem LQ{kindOf:Str->Option NameKind}{x:Str}:∀{binds:List (Str×Value)} {m:Str->Option Value},(∀v,(x,v)∉binds)->wK kindOf binds m x=m x
 | [],_,_=>rfl
 | (n,v)::r,m,h=>by
  unfold wK;rw[LQ fun w hw=>h w (A7 _ hw)];split
  ·have:x≠n:=by rintro rfl;exact h v B2
   simp[this]
  ·rfl
theorem LS{kindOf:Str->Option NameKind}{x:Str}:∀{binds:List (Str×Value)} {m:Str->Option Value},(∀v,(x,v)∉binds)->wL kindOf binds m x=m x
 | [],_,_=>rfl
 | (n,v)::r,m,h=>by
  unfold wL;rw[LS fun w hw=>h w (A7 _ hw)];split
  ·rfl
  ·have:x≠n:=by rintro rfl;exact h v B2
   simp[this]
theorem LR{kindOf:Str->Option NameKind}{v:Value}:∀{P:List Str} {vs:List Value} {i:Nat} {m:Str->Option Value},P.Nodup->P[i]?=some x->vs[i]?=some v->kindOf x=some .local ->
    wK kindOf (P.zip vs) m x=some v
  | [],_,_,_,_,h,_,_=>by simp at h
  | _::_,[],_,_,_,_,h,_=>by simp at h
  | p::P,w::vs,0,m,nd,h1,h2,hk=>by
    simp at h1 h2;subst h1;subst h2;show wK kindOf ((p,w)::P.zip vs) m p=_;unfold wK;rw[LQ fun v hv=>(V4.mp nd).1 (tP hv).1,if_pos hk];simp
  | p::P,w::vs,i+1,m,nd,h1,h2,hk=>by
    show wK kindOf ((p,w)::P.zip vs) m x=_;unfold wK;exact LR (i:=i) (V4.mp nd).2 (by simpa using h1) (by simpa using h2) hk
theorem LU{kindOf:Str->Option NameKind}{v:Value}:∀{P:List Str} {vs:List Value} {i:Nat} {m:Str->Option Value},P.Nodup->P[i]?=some x->vs[i]?=some v->kindOf x≠some .local ->
    wL kindOf (P.zip vs) m x=some v
  | [],_,_,_,_,h,_,_=>by simp at h
  | _::_,[],_,_,_,_,h,_=>by simp at h
  | p::P,w::vs,0,m,nd,h1,h2,hk=>by
    simp at h1 h2;subst h1;subst h2;show wL kindOf ((p,w)::P.zip vs) m p=_;unfold wL;rw[LS fun v hv=>(V4.mp nd).1 (tP hv).1,if_neg hk];simp
  | p::P,w::vs,i+1,m,nd,h1,h2,hk=>by
    show wL kindOf ((p,w)::P.zip vs) m x=_;unfold wL;exact LU (i:=i) (V4.mp nd).2 (by simpa using h1) (by simpa using h2) hk
def start(N:List Str)(vs:List V):St:=vs.map some++K1 (N.length - vs.length) none
def OO(CX:Zl)(P:F8)(w:J0)(K:W.Frag)(mg:Str->Option Value)(base:G7)(N:List Str)(qual:Str)(scope:N4)(f:B5)(cd:Value)(A:J5)(outer:List Env)(s:A9)(H:Hp)(E:XK):Cx where
 prog:=P
 w:=w
 K:=K
 mg:=mg
 base:=base
 A:=A.deeper (uC qual scope s.heap.objs.size f cd)
 N:=N
 xk:=s
 H₀:=H
 env:=uC qual scope s.heap.objs.size f cd
 outer:=outer
 stack:=uC qual scope s.heap.objs.size f cd::outer
 ex:=[]
 calm:=true
 fn:=fun _=>true
 pn:=[]
 xe:=fun e s'=>C4 (D6 P w) (A.deeper (uC qual scope s.heap.objs.size f cd)) (leaving (uC qual scope s.heap.objs.size f cd) e) (fun _ s''=>CX outer H s E e s'') (fun e' s''=>CX outer H s E e' s'') s'
theorem OV{sc:N4}{n:Nat}(h:sc.names.lookup x=some .cell):∃c,(M9 n sc.names []).lookup x=some c:=by
 have q:=W.cellsFrom_some sc.names n [] (.inl h);exact S1.mp q
theorem Tn{CX:Zl}{P:F8}{w:J0}{K:W.Frag}{mg:Str->Option Value}{base:G7}{N ps:List Str}{qual:Str}{scope:N4}{f:B5}{cd:Value}{A:J5}{outer:List Env}{s s1:A9}{H:Hp}{E:XK}{us:List Value}{vs:List V}
    (S:y8 N ps scope) (hd:A.handled=none) (e0:zAs P w K mg base A outer s H) (hl:vs.length=ps.length) (r:AF vs us)
    (x:InCallC s s.heap.objs.size (wK (uC qual scope s.heap.objs.size f cd).kindOf (ps.zip us) fun _=>none) (M9 (s.heap.objs.size+1) scope.names []) (wL (uC qual scope s.heap.objs.size f cd).kindOf (ps.zip us) fun _=>none) s1) :
    Inv (OO CX P w K mg base N qual scope f cd A outer s H E) [] (start N vs) H s1:=by
  have hpl:ps.length<=N.length:=by have:=congrArg U2 S.pre;rw[S5] at this;omega
  obtain⟨h1,tk,rfl,hk⟩:=x.done;have noA:∀b:B5,b∉(OO CX P w K mg base N qual scope f cd A outer s H E).ex:=fun b z=>absurd (show b∈([]:List B5) from z) (by simp)
  refine⟨⟨e0.mod,S.kind,rfl,rfl,B7 _,fun y z c h1 h2=>?_,fun y hy=>?_,fun y c _ h=>?_,fun _=>hd,Around.frames_deeper e0.frames,.inr ⟨rfl,rfl⟩,fun b z=>absurd z (noA b),e0.bs,e0.bsz,fun b _ _=>noA b,fun b z=>absurd z (noA b),e0.zH,e0.frf⟩,
    rfl,e0.bare,Un.kept hk,⟨_,x.toInCall.ns,fun i y v h1 h2 h3=>?_⟩,fun y c h=>⟨_,x.cell y c h⟩,e0.xP.fresh (B7 _),fun y c h=>?_,fun p hp=>absurd (show p∈([]:List (B5×Obj)) from hp) (by simp),e0.xP.kept hk,?_⟩
  · exact name_of_addr x.apart (G3 h1) (G3 h2)
  · have hy:scope.names.lookup y=some .cell\/scope.names.lookup y=some .free:=hy;rcases hy with hy | hy
    · exact OV hy
    · exact absurd rfl (S.zCh _ (G3 hy))
  · exact R6 (x.above y c (G3 h))
  · have hi:i < vs.length:=by
      unfold start at h2
      by_cases hi:i < vs.length
      · exact hi
      · rw[N5 (by simpa using hi)] at h2;rw[sf] at h2;split at h2<;>cases h2
    have ha:vs[i]?=some v:=by
      unfold start at h2;rw[F9 (by simpa using hi),C9] at h2;cases e:vs[i]? with
      | none=>rw[e] at h2;cases h2
      | some a=>rw[e] at h2;cases h2;rfl
    obtain⟨u,hu,rv⟩:=r.get ha;have hp:ps[i]?=some y:=by
      rw[<- S.pre,p5 (by omega)];exact h1
    have ndP:ps.Nodup:=by rw[<- S.pre];exact S.nd.sublist (List.take_sublist _ _)
    refine⟨u,rv,?_⟩;rcases S.par y (N0 hp) with k | k
    · exact .inl ⟨k,LR ndP hp hu k⟩
    · obtain⟨c,e⟩:=OV (n:=s.heap.objs.size+1) k;refine .inr ⟨.inl k,c,e,?_⟩;have q:=x.cell y c e;rw[LU ndP hp hu (by show scope.names.lookup y≠_;rw[k];decide)] at q;exact q
  · exact e0.xP.fresh (R6 (x.above y c (G3 h)))
  · unfold start;show _=N.length;rw[C5,D5,List.length_replicate];omega
theorem oS{CX:Zl}{P:F8}{w:J0}{K:W.Frag}{mg:Str->Option Value}{base:G7}{k:Nat}{f:B5}{name qual:Str}{params:Arguments}{body:List M4}{scope:N4}{dV kV doc pm xp ct oc:Value}{an od:Option B5}
    {osl:Array (Option Value)} {N ps:List Str} {sp:Sp} (lk:K.lookup f=some ⟨oc,od,.func (W.fnOf name qual params body scope dV kV doc pm an xp ct),osl⟩) (hcd:W.codeIn K xp qual=true) (S:y8 N ps scope)
    (len:∀vs H Q E,sp vs H Q E->vs.length=ps.length)
    (zBo:∀(A:J5) (outer:List Env) (s:A9) (H:Hp) (vs:List V) (Q:VK) (E:XK),xW k (A.deeper (uC qual scope s.heap.objs.size f xp))->sp vs H Q E ->
      ∃t,Ej (OO CX P w K mg base N qual scope f xp A outer s H E) body t/\t { nx:=fun _ H'=>Q .xQ H',rt:=Q } (start N vs) H) :
    xr P w K mg base CX (k+1) f (W.fnOf name qual params body scope dV kV doc pm an xp ct) ps sp:=by
  refine⟨len,fun A outer s H args us vs Q E hr e0 hb r hsp=>?_⟩;have hl:=len _ _ _ _ hsp;have KX:K.In s.heap:=e0.mod.kin.keeps fun b o e=>(e0.bs b o e).1
  have lim:s.heap.NoLimit:=e0.mod.nolimit.keeps fun b o e=>(e0.bs b o e).1
  have zDQ:∀y∈ps.zip us,scope.names.lookup y.1=some .local\/(scope.names.lookup y.1=some .cell/\((M9 (s.heap.objs.size+1) scope.names []).lookup y.1).isSome=true):=fun⟨n,v⟩ hy=>by
    rcases S.par n (tP hy).1 with q | q
    · exact .inl q
    · exact .inr ⟨q,W.cellsFrom_some _ _ _ (.inl q)⟩
  refine codeAny_call_function hr.depth (KX _ _ lk) rfl S.co S.gen rfl (W.codeRec_of KX hcd) (hb _ _ _ _ ?_);refine wpAny_newFunctionEnv_cells S.kind zDQ fun env he s1 x=>?_
  subst he;refine⟨lim.keeps x.toInCall.keep,codeAny_func ?_⟩;obtain⟨t,ht,hq⟩:=zBo A outer s H vs Q E (hr.deeper _) hsp;have I:Inv (OO CX P w K mg base N qual scope f xp A outer s H E) [] (start N vs) H s1:=Tn S hr.hd e0 hl r x;refine R9 (ht [] s1 (start N vs) H _ I hq) (fun fl s' hs=>?_) fun e s' hs=>hs
  have fin:∀{σ':St} {H':Hp} {v:V} {u:Value},Inv (OO CX P w K mg base N qual scope f xp A outer s H E) [] σ' H' s'->RelV v u->Q v H'->CE outer P w H s Q u s':=
    fun{σ' H' v u} J rv q=>⟨v,H',J.os,J.bare,J.base,J.xP,rv,q⟩
  cases fl with
  | ret u =>
    obtain⟨v,σ',H',J,rv,q⟩:=hs;exact fin J rv q
  | next =>
    obtain⟨σ',H',J,q⟩:=hs;exact fin (v:=V.xQ) (u:=T1) J rfl q
  | brk =>
    obtain⟨_,_,_,q⟩:=hs;exact E5 q
  | cont =>
    obtain⟨_,_,_,q⟩:=hs;exact E5 q
section
variable {X:Cx} {x:Str} {p pos:Pos} {e:Expr} {es:List Expr} {t:TA} {id T:String} {r:List V->Hp->VK->Prop}
abbrev rJ(r:List V->Hp->VK->Prop)(t:TA):TE:=fun σ H Q=>t σ H fun vs H1=>r vs H1 Q
theorem WV(hc:BI X (.builtin id) r)(hg:Gl X x)(hm:X.mg x=none)(hv:Q3 x=some (.builtin id))(ha:PA X (e::es) t)(hn:x ≠ "__name__" := by decide)(hdb:(x == ("__debug__" : Str))=false:=by decide)
    (he:D8 (e::es) X.env=(false,N1 e X.env)::D8 es X.env:=by rfl) (hpl:(O3 pos (D8 es X.env)).any (·.1)=false:=by rfl):PE X (.Call (.Name x p) (e::es) [] pos) (rJ r t):=by
  intro pins s σ H Q I h;refine M8 (EZ I hg hm hv ?_ hn hdb);exact vT (Ap (ha pos pins s σ H _ I h) fun us s1 ⟨vs,H1,I1,r1,q1⟩=>hc pins s1 σ H1 vs us Q I1 r1 q1) he hpl
theorem TB(hc:BI X (.type T) r)(hg:Gl X x)(hm:X.mg x=none)(hv:Q3 x=some (.type T))(ha:PA X (e::es) t)(hn:x ≠ "__name__" := by decide)(hdb:(x == ("__debug__" : Str))=false:=by decide)
    (he:D8 (e::es) X.env=(false,N1 e X.env)::D8 es X.env:=by rfl) (hpl:(O3 pos (D8 es X.env)).any (·.1)=false:=by rfl):PE X (.Call (.Name x p) (e::es) [] pos) (rJ r t):=by
  intro pins s σ H Q I h;refine M8 (EZ I hg hm hv ?_ hn hdb);exact K5 (Ap (ha pos pins s σ H _ I h) fun us s1 ⟨vs,H1,I1,r1,q1⟩=>hc pins s1 σ H1 vs us Q I1 r1 q1) he hpl
end
end L2
namespace HT
open PySem PyProof.Rows
section
open PySem.SeqAt
open PySem.AutoSeq1 (wpAny_loadPart')
open PySem.MeetsSeq PySem.MeetsSeq2 PySem.MeetsSeq3
end
section
variable {prog:F8} {w:J0} {A:J5} {E:Value->A9->Prop} {s:A9}
theorem zCI{t b:B5}{vs ws:List Value}{Q:Value->A9->Prop}(ht:IsTup s.heap t vs.toArray)(hb:IsTup s.heap b ws.toArray)(hv:vs≠[])
    (h1:ws=[]->Q (.ref t) s) (h2:ws≠[]->Q (.ref s.heap.objs.size) { s with heap:=s.heap.push { cls:=.type "tuple", data:=.seq (vs++ws).toArray } })
    (hsz:vs.length+ws.length<=sizeLine):C4 (D6 prog w) A (binaryOp .Add (.ref t) (.ref b)) Q E s:=by
  obtain⟨⟨cls,dd,data,sl⟩,ho,hc,n,hd⟩:=id ht;obtain⟨⟨zET,dd2,data2,sl2⟩,ho2,hc2,n2,eX⟩:=id hb;simp only at hc hd hc2 eX;subst hc hd hc2 eX;have e:vs.toArray++ws.toArray=(vs++ws).toArray:=by simp
  by_cases hw:ws=[]
  · exact vE ⟨_,ho,rfl⟩ ⟨_,ho2,rfl⟩ sg uY W7 W2 (V1 _ _)
      (tuple_addW1 t b vs.toArray ws.toArray n n2 dd dd2 sl sl2 (by simpa using hv) (by simp[hw])) ⟨ho,ho2,h1 hw⟩
  · refine vE ⟨_,ho,rfl⟩ ⟨_,ho2,rfl⟩ sg uY W7 W2 (V1 _ _)
      (tuple_addW2 t b vs.toArray ws.toArray n n2 dd dd2 sl sl2 (by simpa using hv) (by simpa using hw) (by rw[A8,A8];exact hsz)) ⟨ho,ho2,?_⟩
    rw[e];exact h2 hw
noncomputable def xX(n d:Nat):Option Int->Nat
 | none=>d
 | some v=>if v < 0 then(v+(n:Int)).toNat else min v.toNat n
theorem zAx(n d k:Nat):xX n d (some (k:Int))=min k n:=by
 show(if(k:Int) < 0 then((k:Int)+(n:Int)).toNat else min (k:Int).toNat n)=min k n;rw[if_neg (by omega),O7]
theorem zAm(n d:Nat)(hd:d<=n)(o:Option Int):xX n d o<=n:=by
 cases o with
 | none=>exact hd
 | some v =>
  show(if v < 0 then(v+(n:Int)).toNat else min v.toNat n)<=n
  by_cases hv:v < 0
  ·rw[if_pos hv];omega
  ·rw[if_neg hv];exact vU _ _
theorem SG(v:Int)(n d:Nat):(if v < 0 then max (v+(n:Int)) 0 else min v (n:Int))=((xX n d (some v):Nat):Int):=by
 show(if v < 0 then max (v+(n:Int)) 0 else min v (n:Int))=(((if v < 0 then(v+(n:Int)).toNat else min v.toNat n):Nat):Int)
 by_cases hv:v < 0
 ·simp only[if_pos hv];omega
 ·simp only[if_neg hv];omega
theorem Ql(lo hi:Option Int)(n:Nat):L9 lo hi 1 (n:Int)=(((xX n 0 lo:Nat):Int),((xX n n hi:Nat):Int)):=by
 have h1:¬((1:Int) < 0):=by omega
 unfold L9;simp only[h1,if_false];refine Prod.ext ?_ ?_
 ·cases lo with
  | none=>rfl
  | some v=>exact SG v n 0
 ·cases hi with
  | none=>rfl
  | some v=>exact SG v n n
theorem Pe(i j:Nat):G8 (i:Int) (j:Int) 1=j - i:=by
 unfold G8;have h1:(1:Int) > 0:=by omega
 simp only[h1,if_true,wb];split<;>omega
theorem FZ{v:Value}{o:Option Int}{Q:Option Int->A9->Prop}(p:um v o)(h:Q o s):C4 (D6 prog w) A (vv v) Q E s:=by
 cases p with
 | none=>exact j8 h
 | int i t=>exact slicePart_int h
theorem x8{sl:B5}{vl vu:Value}{lo hi:Option Int}{n:Nat}{Q:Int×Int×Nat->A9->Prop}(hs:s.heap.IsSliceOf sl vl vu .none)(pl:um vl lo)(pu:um vu hi)
    (h:Q (((xX n 0 lo:Nat):Int),1,xX n n hi - xX n 0 lo) s):C4 (D6 prog w) A (Q9 (.ref sl) (pure (n:Int))) Q E s:=by
  obtain⟨os,hos,hcs,zx⟩:=id hs;unfold Q9 l8;refine A1 (A1 (J6 hos zx (x:=vl) rfl (A1 (J6 hos zx (x:=vu) rfl (A1 (J6 hos zx (x:=.none) rfl (A6 ?_)))))));refine A1 (j8 ?_);show C4 _ _ (if((1:Int) == 0)=true then _ else _) _ _ s;rw[if_neg (by decide)];refine A1 (FZ pl (A1 (FZ pu (A1 (A6 ?_)))));show C4 _ _ (match L9 lo hi 1 (n:Int) with | (lo,hi)=>pure (lo,(1:Int),G8 lo hi 1)) _ _ s;rw[Ql lo hi n];show C4 _ _ (pure (((xX n 0 lo:Nat):Int),(1:Int),G8 ((xX n 0 lo:Nat):Int) ((xX n n hi:Nat):Int) 1)) _ _ s;rw[Pe];exact A6 h
theorem WM(xs:Array Value)(i k:Nat):((B1 k).filterMap fun(m:Nat)=>xs[((i:Int)+(m:Int) * 1).toNat]?).toArray=((xs.toList.drop i).take k).toArray:=by
 have e:(fun(m:Nat)=>xs[((i:Int)+(m:Int) * 1).toNat]?)=fun m=>xs[i+m]?:=by
  funext m;have:((i:Int)+(m:Int) * 1).toNat=i+m:=by omega
  rw[this]
 rw[e];have:=pick_run xs i k;rw[j9] at this;have e2:((fun x=>xs[x]?)∘fun x=>i+x)=fun m=>xs[i+m]?:=rfl
 rw[e2] at this;rw[this]
theorem yw{t sl:B5}{items:Array Value}{vl vu:Value}{lo hi:Option Int}{Q:Value->A9->Prop}(ht:IsTup s.heap t items)(hs:s.heap.IsSliceOf sl vl vu .none)(pl:um vl lo)(pu:um vu hi)
    (hw:¬(xX items.size 0 lo=0/\xX items.size items.size hi=items.size))
    (h:Q (.ref s.heap.objs.size) { s with heap:=s.heap.push { cls:=.type "tuple", data:=.seq ((items.toList.drop (xX items.size 0 lo)).take (xX items.size items.size hi - xX items.size 0 lo)).toArray } })
    (hsz:items.size<=sizeLine):C4 (D6 prog w) A (Y8 (.ref t) (.ref sl)) Q E s:=by
  have yq:sizeOk (.seq ((items.toList.drop (xX items.size 0 lo)).take (xX items.size items.size hi - xX items.size 0 lo)).toArray):=by
    show((items.toList.drop (xX items.size 0 lo)).take (xX items.size items.size hi - xX items.size 0 lo)).toArray.size<=sizeLine;rw[A8,S5,Y3,U7];omega
  have hj:xX items.size items.size hi<=items.size:=zAm _ _ (B7 _) hi;obtain⟨os,hos,hcs,zx⟩:=id hs
  have hTs:s.TypeIs (.ref sl) "slice" := ⟨os,hos,hcs⟩
  unfold Y8
  try with_reducible refine L7 ?_
  first | refine A1 (A6 ?_) | skip
  refine A1 (o4 ht.typeIs (by decide) ?_)
  refine A1 (K7 (name:=U4 "__getitem__") ht.typeIs E7
    (K2 E7 ht.typeIs a9 ?_ (k4 _ _)))
  show C4 _ _ (Q6 (.ref t) >>= _) _ _ s;refine A1 (uZ ht ?_);refine A1 (W8 hTs ?_);rw[if_pos (by decide)];refine A1 (x8 hs pl pu ?_);have hno:¬((((xX items.size 0 lo:Nat):Int) == 0 && (1:Int) == 1 && (xX items.size items.size hi - xX items.size 0 lo) == items.size)=true):=by
    intro q;rw[A2,A2] at q;have q1:((xX items.size 0 lo:Nat):Int)=0:=eq_of_beq q.1.1;have q2:xX items.size items.size hi - xX items.size 0 lo=items.size:=eq_of_beq q.2;exact hw ⟨by omega,by omega⟩
  show C4 _ _ (if(((xX items.size 0 lo:Nat):Int) == 0 && (1:Int) == 1 && (xX items.size items.size hi - xX items.size 0 lo) == items.size)=true then _ else _) _ _ s;rw[if_neg hno,WM]
  first
    | exact A1 (m:=H9 _) (H8 (A6 ⟨_,rfl,A6 h⟩) yq)
    | exact A1 (m:=H9 _) (H8 (A1 (A6 (A6 ⟨_,rfl,A6 h⟩))) yq)
    | exact A1 (A1 (m:=H9 _) (H8 (A6 (A6 ⟨_,rfl,A6 h⟩)) yq))
    | exact A1 (A1 (m:=H9 _) (H8 (A6 ⟨_,rfl,A6 h⟩) yq))
end
end HT
namespace L2
open PySem PySem.Spec PyProof.Rows
abbrev TO:=St->Hp->(Option Int->Hp->Prop)->Prop
def PO(X:Cx)(e:Option Expr)(t:TO):Prop:=
 ∀(pins:List (B5×Obj)) (s:A9) (σ:St) (H:Hp) (Q:Option Int->Hp->Prop),Inv X pins σ H s->t σ H Q ->
  C4 (D6 X.prog X.w) X.A (evalPart e X.env) (fun u s'=>∃o H',Inv X pins σ H' s'/\um u o/\Q o H') X.xe s
abbrev Zy:TO:=fun _ H Q=>Q none H
abbrev mE(t:TE):TO:=fun σ H Q=>t σ H fun x H1=>∃i,x=.int i/\Q (some i) H1
variable {xs:List V}
section
variable {X:Cx} {e:Expr} {te:TE} {lo hi:Option Expr} {tl th:TO} {pos p2:Pos}
theorem aw:PO X none Zy:=by
 intro pins s σ H Q I h;rw[ua];exact A6 ⟨none,H,I,.none,h⟩
theorem av(h:PE X e te):PO X (some e) (mE te):=by
 intro pins s σ H Q I hw;rw[evalPart_some];refine Ap (h pins s σ H _ I hw) fun u s1 ⟨x,H1,I1,r1,q1⟩=>?_
 obtain⟨i,rfl,q⟩:=q1;obtain⟨t,rfl⟩:=r1;exact⟨some i,H1,I1,.int i t,q⟩
def Ur(X:Cx)(r:V->Option Int->Option Int->Hp->VK->Prop):Prop:=
 ∀(pins:List (B5×Obj)) (s:A9) (σ:St) (H:Hp) (x:V) (v vl vu:Value) (lo hi:Option Int) (sl:B5) (Q:VK),Inv X pins σ H s->RelV x v->s.heap.IsSliceOf sl vl vu .none->um vl lo->um vu hi->r x lo hi H Q ->
  ∃T id,typeLookup (.type T) "__getitem__" = pure (some (.builtin id))/\s.TypeIs v T/\C4 (D6 X.prog X.w) X.A (Y8 v (.ref sl)) (EP X pins σ Q) X.xe s
theorem Ur.or{r r':V->Option Int->Option Int->Hp->VK->Prop}(h:Ur X r)(h':Ur X r'):Ur X (fun x lo hi H Q=>r x lo hi H Q\/r' x lo hi H Q):=by
 intro pins s σ H x v vl vu lo hi sl Q I rx hs pl pu q;rcases q with q | q
 ·exact h pins s σ H x v vl vu lo hi sl Q I rx hs pl pu q
 ·exact h' pins s σ H x v vl vu lo hi sl Q I rx hs pl pu q
abbrev rF(r:V->Option Int->Option Int->Hp->VK->Prop)(te:TE)(tl th:TO):TE:=fun σ H Q=>te σ H fun x H1=>tl σ H1 fun l H2=>th σ H2 fun u H3=>r x l u H3 Q
theorem WO{r:V->Option Int->Option Int->Hp->VK->Prop}(hr:Ur X r)(he:PE X e te)(hl:PO X lo tl)(hu:PO X hi th):PE X (.Subscript e (.Slice lo hi none p2) pos) (rF r te tl th):=by
 intro pins s σ H Q I h;refine wM (Ap (he pins s σ H _ I h) fun v s1 ⟨x,H1,I1,r1,q1⟩=>?_);refine wpAny_Slice (Ap (hl pins s1 σ H1 _ I1 q1) fun vl s2 ⟨l,H2,I2,pl,q2⟩=>Ap (hu pins s2 σ H2 _ I2 q2) fun vu s3 ⟨u,H3,I3,pu,q3⟩=>?_);rw[ua];refine A6 ?_
 have I4:Inv X pins σ H3 { s3 with heap:=s3.heap.push { cls:=.type "slice", data:=.fields #[vl,vu,.none] } }:=I3.kept (t':=s3.toks) fun b ob q=>A5 _ q
 obtain⟨T,id,hT,ht,hg⟩:=hr pins { s3 with heap:=s3.heap.push { cls:=.type "slice", data:=.fields #[vl,vu,.none] } } σ H3 x v vl vu l u s3.heap.objs.size Q I4 r1 (k5 ..) pl pu q3
 show C4 (D6 X.prog X.w) X.A (Y9 e (.Slice lo hi none p2) v (.ref s3.heap.objs.size)) (EP X pins σ Q) X.xe { s3 with heap:=s3.heap.push { cls:=.type "slice", data:=.fields #[vl,vu,.none] } }
 exact wN (ops:=[.ref s3.heap.objs.size,v]) ht hT hg (by with_unfolding_all rfl)
def GT(xs:List V)(lo hi:Option Int):List V:=(xs.drop (HT.xX xs.length 0 lo)).take (HT.xX xs.length xs.length hi - HT.xX xs.length 0 lo)
theorem Hl(xs:List V)(lo hi:Option Int):(GT xs lo hi).length<=xs.length:=by
 unfold GT;rw[S5,Y3];omega
def mj(K:W.Frag):V->Option Int->Option Int->Hp->VK->Prop:=fun x lo hi H Q=>∃a xs,x=.ref a/\FL K H a xs /\
 ¬(HT.xX xs.length 0 lo=0/\HT.xX xs.length xs.length hi=xs.length)/\∀p,H p=none->Q (.ref p) (upd H p (.tup (GT xs lo hi)))
theorem gM:Ur X (mj X.K):=by
 intro pins s σ H x v vl vu lo hi sl Q I rx hs pl pu h;obtain⟨a,xs,rfl,hx,hw,q⟩:=h;cases rx;obtain⟨xJ,r,ht,hz⟩:=I.tuple hx;have hlen:xJ.toArray.size=xs.length:=by rw[A8];exact r.length.symm
 refine⟨"tuple", _,E7.lookup,ht.typeIs,?_⟩
 refine HT.yw ht hs pl pu (by rw[hlen];exact hw) ?_ (by rw[hlen];exact hz);rw[hlen];refine⟨.ref s.heap.objs.size,_,I.laid (t':=s.toks) (o:=.tup (GT xs lo hi)) (fun b ob q=>A5 _ q) (B7 _) ?_,rfl,q _ (I.xP.fresh (B7 _))⟩;exact⟨A4 (Hl xs lo hi) hz,_,(r.drop (HT.xX xs.length 0 lo)).take (HT.xX xs.length xs.length hi - HT.xX xs.length 0 lo),KG.new _ _⟩
def di(K:W.Frag):R2:=fun x y H Q=>∃a b xs ys,x=.ref a/\y=.ref b/\FL K H a xs/\FL K H b ys/\xs≠[]/\xs.length+ys.length<=sizeLine /\
 (ys=[]->Q (.ref a) H)/\(ys≠[]->∀p,H p=none->Q (.ref p) (upd H p (.tup (xs++ys))))
theorem AF.zAK{us:List Value}(r:AF xs us):us=[]↔xs=[]:=by
 cases r with
 | nil=>simp
 | cons _ _=>simp
theorem bO:Ct X (binaryOp .Add) (di X.K):=by
 intro pins s σ H x y v u Q I rx ry h;obtain⟨a,b,xs,ys,rfl,rfl,ha,hb,hx,hz,q1,q2⟩:=h;cases rx;cases ry;obtain⟨xJ,r1,p1,_⟩:=I.tuple ha;obtain⟨xU,r2,p2,_⟩:=I.tuple hb;refine HT.zCI p1 p2 (fun z=>hx (r1.zAK.mp z)) (fun z=>⟨.ref a,H,I,rfl,q1 (r2.zAK.mp z)⟩) (fun z=>?_) (by rw[<- r1.length,<- r2.length];exact hz);refine⟨.ref s.heap.objs.size,_,I.laid (t':=s.toks) (o:=.tup (xs++ys)) (fun b ob q=>A5 _ q) (B7 _) ?_,rfl,q2 (fun w=>z (r2.zAK.mpr w)) _ (I.xP.fresh (B7 _))⟩;exact⟨by rw[C5];exact hz,_,r1.append r2,KG.new _ _⟩
end
noncomputable def Hq(n:Nat)(i:Int):Option Nat:=if 0<=i then(if i < n then some i.toNat else none) else if -(n:Int)<=i then some (i+n).toNat else none
def FQ{α:Type}(xs:List α)(i:Int):Option α:=(Hq xs.length i).bind fun j=>xs[j]?
theorem Rg{n:Nat}{i:Int}{j:Nat}(h:Hq n i=some j):sj i n=some j/\j < n/\-(n:Int)<=i/\i < n:=by
 unfold Hq at h
 by_cases h0:0<=i
 ·rw[if_pos h0] at h
  by_cases h1:i < n
  ·rw[if_pos h1] at h;have e:i.toNat=j:=D0 h;exact⟨by rw[vo h0 h1,e],by omega,by omega,h1⟩
  ·rw[if_neg h1] at h;cases h
 ·rw[if_neg h0] at h
  by_cases h1:-(n:Int)<=i
  ·rw[if_pos h1] at h;have e:(i+n).toNat=j:=D0 h;exact⟨by rw[vF (by omega) h1,e],by omega,h1,by omega⟩
  ·rw[if_neg h1] at h;cases h
theorem Mo{α:Type}{xs:List α}{i:Int}{v:α}(h:FQ xs i=some v):∃j,sj i xs.length=some j/\xs[j]?=some v/\j < xs.length/\-(xs.length:Int)<=i/\i < xs.length:=by
 unfold FQ at h;cases e:Hq xs.length i with
 | none=>rw[e] at h;cases h
 | some j =>
  rw[e] at h;obtain⟨h1,h2,h3,h4⟩:=Rg e;exact⟨j,h1,h,h2,h3,h4⟩
def SS(b:Expr):Prop:=∀o i,o5 b false o i=operate [o,i] (Y8 o i)
def SU(X:Cx)(r:R2):Prop:=
 ∀(value slice:Expr) (pins:List (B5×Obj)) (s:A9) (σ:St) (H:Hp) (x y:V) (v u:Value) (Q:VK),Inv X pins σ H s->RelV x v->RelV y u->r x y H Q ->
  o5 slice false v u=operate [v,u] (Y8 v u)->C4 (D6 X.prog X.w) X.A (Y9 value slice v u) (EP X pins σ Q) X.xe s
def Us(X:Cx)(id:String)(r:V->List V->Hp->VK->Prop):Prop:=
 ∀(pins:List (B5×Obj)) (s:A9) (σ:St) (H:Hp) (x:V) (xs:List V) (v:Value) (us:List Value) (Q:VK),Inv X pins σ H s->RelV x v->AF xs us->r x xs H Q ->
  C4 (D6 X.prog X.w) X.A (call (.builtin id) (v::us)) (EP X pins σ Q) X.xe s
variable {pins:List (B5×Obj)} {s:A9}
section
variable {X:Cx} {a b:Expr} {ta tb:TE} {pos:Pos}
theorem SU.or{r r':R2}(h:SU X r)(h':SU X r'):SU X (fun x y H Q=>r x y H Q\/r' x y H Q):=by
 intro value slice pins s σ H x y v u Q I rx ry q hs;rcases q with q | q
 ·exact h value slice pins s σ H x y v u Q I rx ry q hs
 ·exact h' value slice pins s σ H x y v u Q I rx ry q hs
theorem Us.or{id:String}{r r':V->List V->Hp->VK->Prop}(h:Us X id r)(h':Us X id r'):Us X id (fun x xs H Q=>r x xs H Q\/r' x xs H Q):=by
 intro pins s σ H x xs v us Q I rx rs q;rcases q with q | q
 ·exact h pins s σ H x xs v us Q I rx rs q
 ·exact h' pins s σ H x xs v us Q I rx rs q
theorem nP{r:R2}(hr:SU X r)(ha:PE X a ta)(hb:PE X b tb)(hs:SS b):PE X (.Subscript a b pos) (pZ r ta tb):=by
 intro pins s σ H Q I h;exact wM (lM ha hb I h fun v u s2 x y H2 I2 rx ry q=>hr a b pins s2 σ H2 x y v u Q I2 rx ry q (hs _ _))
def mz(K:W.Frag):R2:=fun x y H Q=>∃p xs i v,x=.ref p/\y=.int i/\DO K H p xs/\FQ xs i=some v/\Q v H
def mw(K:W.Frag):R2:=fun x y H Q=>∃p xs i v,x=.ref p/\y=.int i/\FL K H p xs/\FQ xs i=some v/\Q v H
def my:R2:=fun x y H Q=>∃z i c,x=.str z/\y=.int i/\z.length<=sizeLine/\FQ z.cps.toList i=some c/\Q (.str ⟨#[c]⟩) H
theorem bj:SU X (mz X.K):=by
  intro value slice pins s σ H x y v u Q I rx ry h hs;obtain⟨p,xs,i,z,rfl,rfl,hq,he,q⟩:=h;cases rx;obtain⟨t,rfl⟩:=ry;obtain⟨xJ,r,pl,hz⟩:=I.list hq;obtain⟨j,h1,h2,h3,h4,h5⟩:=Mo he;obtain⟨w,ew,yH⟩:=r.get h2;have hl:=r.length;have hn:=HK;have fin:EP X pins σ Q w s:=⟨z,H,I,yH,q⟩
  by_cases h0:0<=i
  · have hj:i.toNat=j:=by
      rw[vo h0 h5] at h1;exact D0 h1
    exact item_listR pl.isList h0 (by omega) (by rw[hj];simpa using ew) fin hs
  · have hj:(i+(xJ.toArray.size:Int)).toNat=j:=by
      rw[vF (by omega) h4] at h1;rw[A8,<- hl];exact D0 h1
    exact tG (x:=w) pl.isList.typeIs o6.lookup
      (wpAny_getItem_list_neg (Q:=fun r s'=>r=w/\EP X pins σ Q r s') pl.isList (by omega) (by rw[A8]<;>omega) (by omega) (by rw[hj];simpa using ew) ⟨rfl,fin⟩) hs
theorem jV:SU X (mw X.K):=by
 intro value slice pins s σ H x y v u Q I rx ry h hs;obtain⟨p,xs,i,z,rfl,rfl,hq,he,q⟩:=h;cases rx;obtain⟨t,rfl⟩:=ry;obtain⟨xJ,r,pl,hz⟩:=I.tuple hq;obtain⟨j,h1,h2,h3,h4,h5⟩:=Mo he;obtain⟨w,ew,yH⟩:=r.get h2;have hl:=r.length;have hn:=HK;have fin:EP X pins σ Q w s:=⟨z,H,I,yH,q⟩;exact tG (x:=w) pl.typeIs slot_tuple_getitem.lookup
  (getItem_tuple (j:=j) (Q:=fun r s'=>r=w/\EP X pins σ Q r s') pl (by omega) (by omega) (by rw[A8,<- hl];exact h1) (by simpa using ew) ⟨rfl,fin⟩) hs
theorem jW:SU X my:=by
 intro value slice pins s σ H x y v u Q I rx ry h hs;obtain⟨z,i,c,rfl,rfl,hz,he,q⟩:=h;obtain⟨t,rfl⟩:=rx;obtain⟨t',rfl⟩:=ry;obtain⟨j,h1,h2,h3,h4,h5⟩:=Mo he;have hl:z.cps.toList.length=z.length:=by simp[Str.length]
 rw[hl] at h1 h4 h5;have hn:=HK;exact wN (wO s z t) slot_str_getitem.lookup (getItem_str (c:=c) (by
  have e1:decide (i < -(2 ^ 63:Int))=false:=decide_eq_false (by omega);have e2:decide (i >= 2 ^ 63)=false:=decide_eq_false (by omega);rw[e1,e2,Bool.or_false]) (by rw[h1];simpa using h2) ⟨.str ⟨#[c]⟩,H,I.tok _,⟨_,rfl⟩,q⟩) hs
def gn(K:W.Frag):R2:=fun x y H Q=>mz K x y H Q\/mw K x y H Q\/my x y H Q
theorem jX:SU X (gn X.K):=bj.or (jV.or jW)
theorem QB(xJ:List Value)(n j:Nat)(u:Value):J9 (·.setIfInBounds j u) { cls:=.type "list", data:=.seq xJ.toArray n }={ cls:=.type "list", data:=.seq (xJ.set j u).toArray n }:=by
 simp[J9]
theorem Inv.lst{σ:St}{H:Hp}{p:B5}(I:Inv X pins σ H s)(h:H p=some (.lst xs)) :
    ∃(xJ:List Value) (n:Nat),AF xs xJ/\s.heap.get? p=some { cls:=.type "list", data:=.seq xJ.toArray n }/\xs.length<=sizeLine:=by
  obtain⟨z,xJ,n,r,e⟩:=I.xP p _ h;exact⟨xJ,n,r,e,z⟩
theorem Inv.zCj{σ:St}{H:Hp}{p:B5}{ys:List V}{xJ its':List Value}{n n':Nat}{f:Obj->Obj}(I:Inv X pins σ H s)(h:H p=some (.lst xs))
    (ho:s.heap.get? p=some { cls:=.type "list", data:=.seq xJ.toArray n }) (hf:f { cls:=.type "list", data:=.seq xJ.toArray n }={ cls:=.type "list", data:=.seq its'.toArray n' }) (r:AF ys its') (hz:ys.length<=sizeLine) (t:Nat) :
    Inv X pins σ (upd H p (.lst ys)) { s with heap:=s.heap.update p f,toks:=t }:=by
  have e:(s.heap.update p f).get? p=some { cls:=.type "list", data:=.seq its'.toArray n' }:=by
    rw[T8 f ho (by rw[hf]<;>rfl),hf]
  refine I.write (x:=p) (e:=p) (by rw[h];trivial) (.inl rfl) (fun b u hb q=>(T2 _ _ (Ne.symm hb)).trans q) ⟨_,e⟩ ?_;exact⟨hz,its',n',r,e⟩
def Vr:V->V->V->Hp->(Hp->Prop)->Prop:=fun o i v H Q=>∃p xs k j,o=.ref p/\i=.int k/\H p=some (.lst xs)/\Hq xs.length k=some j/\Q (upd H p (.lst (xs.set j v)))
theorem set_list:KL X Vr:=by
  intro pins s σ H o i v ov iv u Q I ro ri rv h;obtain⟨p,xs,k,j,rfl,rfl,hp,hj,q⟩:=h;cases ro;obtain⟨t,rfl⟩:=ri;obtain⟨xJ,n,r,ho,hz⟩:=I.lst hp;obtain⟨h1,h2,h3,h4⟩:=Rg hj;have hl:=r.length;have hn:=HK;have I':Inv X pins σ (upd H p (.lst (xs.set j v))) { s with heap:=s.heap.update p (J9 (·.setIfInBounds j u)) }:=
    I.zCj hp ho (QB xJ n j u) (r.set rv j) (by rw[D1];exact hz) s.toks
  by_cases h0:0<=k
  · have hk:k.toNat=j:=by
      rw[vo h0 h4] at h1;exact D0 h1
    exact W.ki_setAt ho h0 (by omega) (by rw[A8,<- hl];exact h4) (by rw[hk];exact⟨_,I',q⟩)
  · have hk:(k+(xJ.toArray.size:Int)).toNat=j:=by
      rw[vF (by omega) h3] at h1;rw[A8,<- hl];exact D0 h1
    exact W.ki_setBack ho (by omega) (by rw[A8,<- hl];exact h3) (by omega) (by rw[hk];exact⟨_,I',q⟩)
theorem Lj(lo hi:Option Int)(n:Nat):(W3 lo hi none n).1=((HT.xX n 0 lo:Nat):Int)/\(W3 lo hi none n).2.1=((HT.xX n n hi:Nat):Int)/\(W3 lo hi none n).2.2=1:=by
 refine⟨?_,?_,rfl⟩
 ·cases lo with
  | none=>simp[W3,HT.xX]
  | some i =>
   simp only[W3,HT.xX,vV,show(1:Int) > 0 by decide,if_true]
   by_cases h:i < 0
   ·simp only[h,if_true]<;>omega
   ·simp only[h,if_false]<;>omega
 ·cases hi with
  | none=>simp[W3,HT.xX]
  | some i =>
   simp only[W3,HT.xX,vV,show(1:Int) > 0 by decide,if_true]
   by_cases h:i < 0
   ·simp only[h,if_true]<;>omega
   ·simp only[h,if_false]<;>omega
theorem KA(xJ:List Value)(lo hi:Option Int):slicePick xJ.toArray lo hi none=((xJ.drop (HT.xX xJ.length 0 lo)).take (HT.xX xJ.length xJ.length hi - HT.xX xJ.length 0 lo)).toArray:=by
 obtain⟨h1,h2,h3⟩:=Lj lo hi xJ.toArray.size;unfold slicePick;rw[h1,h2,h3];simp only[sliceRange_one,pick_run,A8]<;>rfl
def mm(K:W.Frag):V->Option Int->Option Int->Hp->VK->Prop:=fun x lo hi H Q=>∃a xs,x=.ref a/\DO K H a xs/\∀p,H p=none->Q (.ref p) (upd H p (.lst (GT xs lo hi)))
theorem aI:Ur X (mm X.K):=by
 intro pins s σ H x v vl vu lo hi sl Q I rx hs pl pu h;obtain⟨a,xs,rfl,hx,q⟩:=h;cases rx;obtain⟨xJ,r,ht,hz⟩:=I.list hx;have hlen:=r.length
 refine⟨"list", _,o6.lookup,ht.isList.typeIs,?_⟩
 refine p7 ht.isList hs pl pu .none (by simp) ?_ (by rw[A8]<;>omega);rw[KA,<- hlen];refine⟨.ref s.heap.objs.size,_,I.laid (t':=s.toks) (o:=.lst (GT xs lo hi)) (fun b ob q=>A5 _ q) (B7 _) ?_,rfl,q _ (I.xP.fresh (B7 _))⟩;exact⟨A4 (Hl xs lo hi) hz,_,0,(r.drop (HT.xX xs.length 0 lo)).take (HT.xX xs.length xs.length hi - HT.xX xs.length 0 lo),C8 _ rfl⟩
noncomputable def Jb:V->Bool
 | .xQ=>true
 | .bl _=>true
 | .int _=>true
 | .str _=>true
 | _=>false
noncomputable def yU:V->V->Bool
 | .xQ,.xQ=>true
 | .bl a,.bl b=>a == b
 | .bl a,.int b=>(if a then 1 else 0) == b
 | .int a,.bl b=>a == (if b then 1 else 0)
 | .int a,.int b=>a == b
 | .str a,.str b=>a == b
 | _,_=>false
theorem kS{A:J5}{y x:V}{u v:Value}(ry:RelV y u)(rx:RelV x v)(fy:Jb y=true)(fx:Jb x=true):SeqAt.EqAt A s u v (yU y x):=by
 cases y with
 | xQ =>
  cases ry;cases x with
  | xQ=>cases rx;exact SeqAt.EqAt.same _
  | bl b=>cases rx;exact SeqAt.EqAt.none_bool b
  | int b=>obtain⟨t,rfl⟩:=rx;exact SeqAt.EqAt.none_int b t
  | str b=>obtain⟨t,rfl⟩:=rx;exact SeqAt.EqAt.none_str b t
  | _=>exact absurd (show false=true from fx) D4
 | bl a =>
  cases ry;cases x with
  | xQ=>cases rx;exact SeqAt.EqAt.bool_none a
  | bl b=>cases rx;exact SeqAt.EqAt.bool_bool a b
  | int b=>obtain⟨t,rfl⟩:=rx;exact SeqAt.EqAt.bool_int a b t
  | str b=>obtain⟨t,rfl⟩:=rx;exact SeqAt.EqAt.bool_str a b t
  | _=>exact absurd (show false=true from fx) D4
 | int a =>
  obtain⟨t',rfl⟩:=ry;cases x with
  | xQ=>cases rx;exact SeqAt.EqAt.int_none a t'
  | bl b=>cases rx;exact SeqAt.EqAt.int_bool a t' b
  | int b=>obtain⟨t,rfl⟩:=rx;exact SeqAt.EqAt.int_int a t' b t
  | str b=>obtain⟨t,rfl⟩:=rx;exact uc a t' b t
  | _=>exact absurd (show false=true from fx) D4
 | str a =>
  obtain⟨t',rfl⟩:=ry;cases x with
  | xQ=>cases rx;exact SeqAt.EqAt.str_none a t'
  | bl b=>cases rx;exact SeqAt.EqAt.str_bool a t' b
  | int b=>obtain⟨t,rfl⟩:=rx;exact ud a t' b t
  | str b=>obtain⟨t,rfl⟩:=rx;exact SeqAt.EqAt.str_str a t' b t
  | _=>exact absurd (show false=true from fx) D4
 | _=>exact absurd (show false=true from fy) D4
theorem MB:Ct X (G4 .NotIn) (fun x y H Q=>∃i j,x=.str i/\y=.str j/\Q (.bl (!(!(O6 j i 0 j.length 1).isEmpty))) H):=by
 intro pins s σ H x y v u Q I rx ry h;obtain⟨i,j,rfl,rfl,q⟩:=h;obtain⟨t,rfl⟩:=rx;obtain⟨t',rfl⟩:=ry;exact notIn_str ⟨.bl _,H,I,rfl,q⟩
theorem BI.or{f:Value}{r r':List V->Hp->VK->Prop}(h:BI X f r)(h':BI X f r'):BI X f (fun xs H Q=>r xs H Q\/r' xs H Q):=by
 intro pins s σ H xs us Q I rs q;rcases q with q | q
 ·exact h pins s σ H xs us Q I rs q
 ·exact h' pins s σ H xs us Q I rs q
theorem Me:BI X (.type "list") (fun xs H Q=>∃p ys,xs=[.ref p]/\(DO X.K H p ys\/FL X.K H p ys)/\∀l,H l=none->Q (.ref l) (upd H l (.lst ys))):=by
  intro pins s σ H xs us Q I r h;obtain⟨p,ys,rfl,hq,q⟩:=h;obtain⟨u,rfl,rx⟩:=vals1 r;cases rx;have fin:∀(xJ:List Value),AF ys xJ->ys.length<=sizeLine->∀(h':G7) (c':Nat),(∀b o',s.heap.get? b=some o'->h'.get? b=some o') ->
      h'.get? s.heap.objs.size=some { cls:=.type "list", dict:=none,data:=.seq xJ.toArray c',slots:=#[] }->EP X pins σ Q (.ref s.heap.objs.size) { s with heap:=h' }:=fun xJ r' hz h' c' kp e =>
    ⟨.ref s.heap.objs.size,_,I.laid (t':=s.toks) kp (B7 _) (show Ae X.prog X.w _ h' _ (.lst ys) from⟨hz,xJ,c',r',e⟩),rfl,q _ (I.xP.fresh (B7 _))⟩
  rcases hq with hq | hq
  · obtain⟨xJ,r',pl,hz⟩:=I.list hq;have hlen:=r'.length;obtain⟨o,ho,hc,n,hd⟩:=pl.isList;exact call_list_seq p (.inl rfl) ho hc hd (fun h' c' kp e=>fin xJ r' hz h' c' kp e) (by simp only[A8]<;>omega)
  · obtain⟨xJ,r',pl,hz⟩:=I.tuple hq;have hlen:=r'.length;obtain⟨o,ho,hc,n,hd⟩:=pl;exact call_list_seq p (.inr rfl) ho hc hd (fun h' c' kp e=>fin xJ r' hz h' c' kp e) (by simp only[A8]<;>omega)
theorem KD:BI X (.type "tuple") (fun xs H Q=>∃p ys,xs=[.ref p]/\((DO X.K H p ys/\∀l,H l=none->Q (.ref l) (upd H l (.tup ys)))\/(FL X.K H p ys/\Q (.ref p) H))):=by
 intro pins s σ H xs us Q I r h;obtain⟨p,ys,rfl,h⟩:=h;obtain⟨u,rfl,rx⟩:=vals1 r;cases rx;rcases h with⟨hq,q⟩ | ⟨hq,q⟩
 ·obtain⟨xJ,r',pl,hz⟩:=I.list hq;have hlen:=r'.length;refine call_tuple_list pl.isList (fun h' kp=>?_) (by simp only[A8]<;>omega);have I1:Inv X pins σ H { s with heap:=h' }:=I.kept (t':=s.toks) kp
  have I2:Inv X pins σ (upd H h'.objs.size (.tup ys)) { s with heap:=h'.push { cls:=.type "tuple", data:=.seq xJ.toArray } }:=
   I1.laid (t':=s.toks) (fun b o e=>A5 _ e) (B7 _) (show Ae X.prog X.w _ _ _ (.tup ys) from⟨hz,xJ,r',KG.new _ _⟩)
  exact⟨.ref h'.objs.size,_,I2,rfl,q _ (I1.xP.fresh (B7 _))⟩
 ·obtain⟨xJ,r',pl,hz⟩:=I.tuple hq;exact call_tuple_same pl ⟨.ref p,H,I,rfl,q⟩
def pX(K:W.Frag)(T:String)(x:V)(H:Hp):Prop:=match x with
  | .str _=>T = "str"
  | .int _=>T = "int"
  | .ref p=>(T = "list" /\ ∃xs,DO K H p xs)\/(T = "tuple" /\ ∃o,K.lookup p=some o/\o.cls=.type "tuple" /\ o.dict=none) \/
      (T = "dict" /\ ((∃xK,H p=some (.dK xK))\/∃xK,H p=some (.dT xK)))\/(T = "set" /\ ∃S n,H p=some (.set S n))
  | _=>False
theorem Uy{σ:St}{H:Hp}{T:String}{x:V}{v:Value}(I:Inv X pins σ H s)(r:RelV x v)(ty:pX X.K T x H) :
    s.TypeIs v T/\∀a,v=.ref a->∃ob,s.heap.get? a=some ob/\ob.dict=none:=by
  cases x with
  | str z =>
    obtain⟨t,rfl⟩:=r
    cases(show T = "str" from ty)
    exact⟨wO s z t,fun _ e=>nomatch e⟩
  | int i =>
    obtain⟨t,rfl⟩:=r
    cases(show T = "int" from ty)
    exact⟨typeIs_int s i t,fun _ e=>nomatch e⟩
  | ref p =>
    cases r;rcases ty with⟨rfl,xs,hq⟩ | ⟨rfl,o,hk,hc,hd⟩ | ⟨rfl,hk⟩ | ⟨rfl,S,n,hk⟩
    · obtain⟨xJ,_,pl,_⟩:=I.list hq;refine⟨pl.isList.typeIs,fun a e=>?_⟩;cases e;obtain⟨o,n,e,c,hd,_⟩:=pl;exact⟨o,e,hd⟩
    · refine⟨⟨o,I.zE p o hk,hc⟩,fun a e=>?_⟩;cases e;exact⟨o,I.zE _ o hk,hd⟩
    · have z:∃o,s.heap.get? p=some o/\o.ExactDict:=by
        rcases hk with⟨xK,hk⟩ | ⟨xK,hk⟩
        · obtain⟨_,_,_,_,o,_,_,e,ex,_⟩:=I.xP p _ hk;exact⟨o,e,ex⟩
        · obtain⟨_,_,_,_,o,_,_,e,ex,_⟩:=I.xP p _ hk;exact⟨o,e,ex⟩
      obtain⟨o,e,ex⟩:=z;refine⟨⟨o,e,ex.1⟩,fun a e2=>?_⟩;cases e2;exact⟨o,e,ex.2.1⟩
    · obtain⟨o,_,_,_,e,ex,_⟩:=I.xP p _ hk;refine⟨⟨o,e,ex.1⟩,fun a e2=>?_⟩;cases e2;exact⟨o,e,ex.2.1⟩
  | _=>exact E5 ty
abbrev qJ(K:W.Frag)(T:String)(r:V->List V->Hp->VK->Prop)(to:TE):TE:=fun σ H Q=>to σ H fun x H1=>pX K T x H1/\r x [] H1 Q
abbrev gJ(K:W.Frag)(T:String)(r:V->List V->Hp->VK->Prop)(to:TE)(t:TA):TE:=fun σ H Q=>to σ H fun x H1=>pX K T x H1/\t σ H1 fun xs H2=>r x xs H2 Q
variable {o e:Expr} {es:List Expr} {to:TE} {t:TA} {name:Str} {apos xx:Pos} {T id:String} {r:V->List V->Hp->VK->Prop}
theorem Ph(pa:tH T)(slot:Slot T name id)(hty:wc (.builtin id)=pure (.type "method_descriptor"))(hm:Us X id r)(ho:PE X o to)
    (xn:N2 o name X.env (N1 o X.env)=N1 o X.env:=by rfl) (xf:(apos.endLine == xx.line)=true:=by rfl):PE X (.Call (.Attribute o name apos) [] [] xx) (qJ X.K T r to):=by
  intro pins s σ H Q I h;refine wpAny_Call_method0_late xn xf (Ap (ho pins s σ H _ I h) fun v s1 ⟨x,H1,I1,r1,ty,q1⟩=>?_);obtain⟨h1,h2⟩:=Uy I1 r1 ty;exact⟨T,id,pa,slot,hty,h1,h2,W9 rfl (PySem.evalArgs_none (hm pins s1 σ H1 x [] v [] Q I1 r1 .nil q1))⟩
theorem WX(pa:tH T)(slot:Slot T name id)(hty:wc (.builtin id)=pure (.type "method_descriptor"))(hm:Us X id r)(ho:PE X o to)(ha:PA X (e::es) t)
    (xn:N2 o name X.env (N1 o X.env)=N1 o X.env:=by rfl)
    (zBk:((O3 xx (D8 (e::es) X.env)).all (fun x=>!x.1) && (sZ xx (W0 [] X.env)).all (fun x=>x.1.isSome)
      && decide ((e::es).length+([]:List Z0).length+(if([]:List Z0).isEmpty then 0 else 1) < 30))=true:=by rfl)
    (xf:(apos.endLine == xx.line)=true:=by rfl) (hs:D8 (e::es) X.env=(false,N1 e X.env)::D8 es X.env:=by rfl) (zAp:(O3 xx (D8 es X.env)).any (·.1)=false:=by rfl) :
    PE X (.Call (.Attribute o name apos) (e::es) [] xx) (gJ X.K T r to t):=by
  intro pins s σ H Q I h;refine tJ xn zBk xf rfl (Ap (ho pins s σ H _ I h) fun v s1 ⟨x,H1,I1,r1,ty,q1⟩=>?_);obtain⟨h1,h2⟩:=Uy I1 r1 ty;refine⟨T,id,pa,slot,hty,h1,h2,?_⟩;have hA:=ha xx pins s1 σ H1 _ I1 q1;rw[hs] at hA ⊢;refine W9 (by show(false || (O3 xx (D8 es X.env)).any (·.1))=false;rw[zAp]<;>rfl) (uD ?_);exact Ap hA fun us s2 ⟨vs,H2,I2,r2,q2⟩=>hm pins s2 σ H2 x vs v us Q I2 r1 r2 q2
end
def fZ(X:Cx)(id:String)(r:V->List V->Hp->VK->Prop):Prop:=
 ∀(pins:List (B5×Obj)) (s:A9) (σ:St) (H:Hp) (x:V) (xs:List V) (v:Value) (us:List Value) (Q:VK),Inv X pins σ H s->RelV x v->AF xs us->r x xs H Q ->
  C4 (D6 X.prog X.w) X.A (call (.builtin id) (v::us)) (EP X pins σ Q) X.xe s
theorem AF.one:∀{x:V} {us:List Value},AF [x] us->∃u,us=[u]/\RelV x u
 := by
 intro x us h;cases h with | cons r t=>cases t;exact⟨_,rfl,r⟩
theorem AF.two:∀{x y:V} {us:List Value},AF [x,y] us->∃u v,us=[u,v]/\RelV x u/\RelV y v
 := by
 intro x y us h;cases h with | cons r t=>cases t with | cons q t=>cases t;exact⟨_,_,rfl,r,q⟩
theorem AF.zero:∀{us:List Value},AF [] us->us=[]
 | _,.nil=>rfl
theorem AF.dropLast{us:List Value}(h:AF xs us):AF xs.dropLast us.dropLast:=by
 induction h with
 | nil=>exact .nil
 | cons r t ih =>
  cases t with
  | nil=>exact .nil
  | cons q t'=>exact .cons r ih
theorem AF.eraseIdx:∀{xs:List V} {us:List Value} (i:Nat),AF xs us->AF (xs.eraseIdx i) (us.eraseIdx i)
 | _,_,_,.nil=>.nil
 | _,_,0,.cons _ t=>t
 | _,_,i+1,.cons r t=>.cons r (AF.eraseIdx i t)
theorem QU{α:Type}(l:List α):l.eraseIdx (l.length - 1)=l.dropLast:=by
 induction l with
 | nil=>rfl
 | cons a r ih =>
  cases r with
  | nil=>rfl
  | cons b r =>
   have e:(a::b::r).length - 1=((b::r).length - 1)+1:=by
    have h1:(a::b::r).length=r.length+2:=rfl;have h2:(b::r).length=r.length+1:=rfl;omega
   rw[e,sk,ih]
   all_goals rfl
theorem Ku{α:Type}:∀(l:List α) (i:Nat),(l.eraseIdx i).length<=l.length
 | [],_=>B7 _
 | _::_,0=>U1 _
 | _::r,i+1=>vW (Ku r i)
section
variable {X:Cx} {pins:List (B5×Obj)} {σ:St} {H:Hp} {s:A9} {l b:B5} {xs ys zs:List V}
theorem Inv.zBb{xJ its':List Value}{n:Nat}{f:Array Value->Array Value}{t':Nat}(I:Inv X pins σ H s)(hH:H l=some (.lst xs))
    (e:s.heap.get? l=some { cls:=.type "list", data:=.seq xJ.toArray n }) (hf:f xJ.toArray=its'.toArray) (hv:AF ys its') (hz:ys.length<=sizeLine) :
    Inv X pins σ (upd H l (.lst ys)) { s with heap:=s.heap.update l (J9 f),toks:=t' }:=by
  have q:=vX e f;rw[hf] at q;refine I.write (x:=l) (e:=l) (by rw[hH];exact trivial) (.inl rfl) (fun b' u hb hu=>(T2 s.heap (J9 f) (Ne.symm hb)).trans hu) ⟨_,q⟩ ?_;exact⟨hz,its',_,hv,q⟩
theorem Inv.zDr{xJ:List Value}{t':Nat}(I:Inv X pins σ H s)(hv:AF ys xJ)(hz:ys.length<=sizeLine) :
    Inv X pins σ (upd H s.heap.objs.size (.lst ys)) { s with heap:=s.heap.push { cls:=.type "list", data:=.seq xJ.toArray },toks:=t' }:=
  I.laid (fun _ _ q=>A5 _ q) (B7 _) ⟨hz,xJ,0,hv,C8 _ rfl⟩
theorem Inv.fresh(I:Inv X pins σ H s):H s.heap.objs.size=none:=I.xP.fresh (B7 _)
theorem Inv.zAS(I:Inv X pins σ H s)(hH:H l=some (.lst xs)):xs.length<=sizeLine/\∃(xJ:List Value) (n:Nat),AF xs xJ/\xs.length=xJ.length/\s.heap.get? l=some { cls:=.type "list", data:=.seq xJ.toArray n }:=by
 obtain⟨z,xJ,n,r,e⟩:=I.xP l _ hH;exact⟨z,xJ,n,r,r.length,e⟩
theorem Ng{n:Nat}(h:n<=sizeLine):S2 n=false:=by
 unfold S2;exact decide_eq_false (by omega)
end
section
variable {X:Cx}
def RP:V->List V->Hp->VK->Prop:=fun x vs H Q=>∃l xs y,x=.ref l/\vs=[y]/\H l=some (.lst xs)/\xs.length < sizeLine/\Q .xQ (upd H l (.lst (xs++[y])))
theorem TV:fZ X "list.append" RP:=by
 intro pins s σ H x vs v us Q I rx rv h;obtain⟨l,xs,y,rfl,rfl,hH,hz,q⟩:=h;cases rx;obtain⟨u,rfl,ru⟩:=rv.one;obtain⟨z,xJ,n,r,hl,e⟩:=I.zAS hH;refine Y4 F.slot_list_append ⟨_,e,rfl⟩ F.entry_list_append (F.args_list_append_2 _ _) (vG l xJ.toArray n u (by rw[A8];omega)) ⟨e,?_⟩;refine⟨.xQ,_,I.zBb (its':=xJ++[u]) hH e (by simp) (r.append (.cons ru .nil)) ?_,rfl,q⟩;rw[C5,G0];omega
def RO:V->List V->Hp->VK->Prop:=fun x vs H Q=>∃l b xs zs,x=.ref l/\vs=[.ref b]/\H l=some (.lst xs)/\H b=some (.lst zs)/\xs.length+zs.length<=sizeLine/\Q .xQ (upd H l (.lst (xs++zs)))
theorem TU:fZ X "list.extend" RO:=by
 intro pins s σ H x vs v us Q I rx rv h;obtain⟨l,b,xs,zs,rfl,rfl,hH,hB,hz,q⟩:=h;cases rx;obtain⟨u,rfl,ru⟩:=rv.one;cases ru;obtain⟨z,xJ,n,r,hl,e⟩:=I.zAS hH;obtain⟨z2,xU,n2,r2,yW,e2⟩:=I.zAS hB;have hsz:xJ.toArray.size+xU.toArray.size<=sizeLine:=by rw[A8,A8];omega
 have zBj:¬(!xJ.toArray.isEmpty && S2 (xJ.toArray.size+xU.toArray.size))=true:=by
  rw[Ng hsz,X0];exact D4
 refine Y4 F.slot_list_extend ⟨_,e,rfl⟩ F.entry_list_extend (F.args_list_extend_2 _ _)
  (AutoSeq1.list_extend_list_list_0 l xJ.toArray n b xU.toArray n2 zBj (by rw[A8];omega) (by omega)) ⟨e,e2,?_⟩
 refine⟨.xQ,_,I.zBb (its':=xJ++xU) hH e (by simp) (r.append r2) ?_,rfl,q⟩;rw[C5];omega
def mv:V->List V->Hp->VK->Prop:=fun x vs H Q=>∃l xs y,x=.ref l/\vs=[]/\H l=some (.lst xs)/\xs[xs.length - 1]?=some y/\Q y (upd H l (.lst xs.dropLast))
theorem jE:fZ X "list.pop" mv:=by
 intro pins s σ H x vs v us Q I rx rv h;obtain⟨l,xs,y,rfl,rfl,hH,hy,q⟩:=h;cases rx;have hus:=rv.zero;subst hus;obtain⟨z,xJ,n,r,hl,e⟩:=I.zAS hH;obtain⟨u,hu,ru⟩:=r.get hy;have hy':xJ.toArray[xJ.toArray.size - 1]?=some u:=by
  show xJ.toArray[xJ.length - 1]?=some u;rw[<- tZ,<- hl];exact hu
 refine Y4 F.slot_list_pop ⟨_,e,rfl⟩ F.entry_list_pop (F.args_list_pop_1 _) (MeetsSeq.list_pop_last l xJ.toArray n u hy' (by rw[A8];omega)) ⟨e,?_⟩;refine⟨y,_,I.zBb (its':=xJ.dropLast) hH e ?_ r.dropLast ?_,ru,q⟩
 ·show xJ.toArray.eraseIdxIfInBounds (xJ.toArray.size - 1)=xJ.dropLast.toArray;rw[A8,X5,QU]
 ·rw[List.length_dropLast];omega
def Vs:V->List V->Hp->VK->Prop:=fun x vs H Q=>∃l xs i k y,x=.ref l/\vs=[.int i]/\H l=some (.lst xs)/\-(2 ^ 63)<=i/\i < 2 ^ 63/\sj i xs.length=some k/\xs[k]?=some y/\Q y (upd H l (.lst (xs.eraseIdx k)))
theorem Wn:fZ X "list.pop" Vs:=by
 intro pins s σ H x vs v us Q I rx rv h;obtain⟨l,xs,i,k,y,rfl,rfl,hH,h1,h2,hk,hy,q⟩:=h;cases rx;obtain⟨u,rfl,ru⟩:=rv.one;obtain⟨t,rfl⟩:=ru;obtain⟨z,xJ,n,r,hl,e⟩:=I.zAS hH;obtain⟨w,hw,yH⟩:=r.get hy;refine Y4 F.slot_list_pop ⟨_,e,rfl⟩ F.entry_list_pop (F.args_list_pop_2 _ _)
  (MeetsSeq.list_pop_at l xJ.toArray n i t k w (fitsIndex_both h1 h2) (by rw[A8,<- hl];exact hk) (by rw[<- tZ];exact hw) (by rw[A8];omega)) ⟨e,?_⟩
 refine⟨y,_,I.zBb (its':=xJ.eraseIdx k) hH e ?_ (r.eraseIdx k) ?_,yH,q⟩
 ·show xJ.toArray.eraseIdxIfInBounds k=(xJ.eraseIdx k).toArray;rw[X5]
 ·have:=Ku xs k;omega
def nB:R2:=fun x y H Q=>∃l b xs zs,x=.ref l/\y=.ref b/\H l=some (.lst xs)/\H b=some (.lst zs)/\xs.length+zs.length<=sizeLine/\∀p,H p=none->Q (.ref p) (upd H p (.lst (xs++zs)))
theorem ik:Ct X (binaryOp .Add) nB:=by
 intro pins s σ H x y v u Q I rx ry h;obtain⟨l,b,xs,zs,rfl,rfl,hH,hB,hz,q⟩:=h;cases rx;cases ry;obtain⟨z,xJ,n,r,hl,e⟩:=I.zAS hH;obtain⟨z2,xU,n2,r2,yW,e2⟩:=I.zAS hB;refine PySem.P.add_list e e2 ?_ (by rw[A8,A8];omega);have ea:xJ.toArray++xU.toArray=(xJ++xU).toArray:=by simp
 rw[ea];exact⟨.ref _,_,I.zDr (t':=s.toks) (r.append r2) (by rw[C5];omega),rfl,q _ I.fresh⟩
end
end L2
namespace Att
open PySem PySem.W PySem.Calls PyProof.Rows
theorem Hr{P:uo}{h:G7}:∀(ns:List Int) (vs:List Value),WellAll P h vs (ns.map xG)->i3 vs ns:=by
 intro ns
 induction ns with
 | nil =>
  intro vs w;rw[T3] at w;cases w;exact .nil
 | cons n ns ih =>
  intro vs w;rw[B6] at w;cases w with
  | cons a b =>
   cases a;exact .cons _ _ (ih _ b)
theorem Sm{l:OpenLaw}{n:Nat}(hn:l.most=some n){P:uo}{h:G7}{args:List WData}{vals:List Value}
    (zCD:l.row.toRowW.claim.pre args=true) (hwl:WellAll P h vals args) :
    ∃a vs ns,vals=[E3 a]/\args=[WData.list (ns.map xG)]/\h.get? a=some { cls:=.type "list", data:=.seq vs.toArray }/\i3 vs ns/\ns.length<=n:=by
  have hsh:WShape.hasAll [] args [.list .int]=true:=(pre_splitW zCD).1;have hc:l.pre.holds [] { args:=args }=true:=(pre_splitW zCD).2;obtain⟨d,r,rfl,h1,h2⟩:=hasAllW_cons hsh;obtain rfl:=hasAllW_nil h2;obtain⟨xs,rfl,h3⟩:=hasW_list h1;obtain⟨ns,rfl⟩:=items_int h3;have hlen:ns.length<=n:=by
    unfold OpenLaw.pre at hc;have h4:(WTm.not (.lt (.lit (.int (n:Int))) (.len (.arg 0)))).holds [] { args:=[.list (ns.map .int)] }=true:=by
      have h4:=(holds_andW hc).1;rw[hn] at h4;exact h4
    have h5:=condW_of h4 (w_not (w_lt w_lit (w_len_list (w_arg rfl))));rw[D5] at h5;refine Nat.le_of_not_lt fun q=>?_
    have q':(n:Int) < ((ns.length:Nat):Int):=by omega
    first
      | (rw[decide_eq_true q'] at h5;exact absurd h5 (by decide))
      | (simp at h5;omega)
  cases hwl with
  | cons w1 w2 =>
    cases w2;cases w1 with
    | list ho zBN=>exact⟨_,_,ns,rfl,rfl,ho,Hr ns _ zBN,hlen⟩
theorem Sw(l:OpenLaw)(args:List WData):l.row.toRowW.claim.post args (.bool true) args=true:=
 postW_of (r:=l.row.toRowW) (X:=(true == true))
  (show xB [] (.bool true) .bool=true by first | rfl | decide | simp[xB,WShape.arms,WShape.armsAll])
  (show(WTm.eq .res (.lit (.bool true))).value [] { args:=args,res:=some (.bool true),after:=args }=some (.bool (true == true)) from w_eq_bool (w_res rfl) w_lit) rfl
theorem zAh{l:OpenLaw}{n:Nat}{q:F8}{loose:List Str}{XP:(Str->Option Value)->G7->Prop}{YP:J0->G7->Prop}{d:wd}
    (hn:l.most=some n) (hdf:d.params.defaults=[])
    (call:∀(w:J0) (xk xR:A9) (mg mb:Str->Option Value) (fa:B5) (o:Obj) (pm cd doc:Value) (a:B5) (vs:List Value) (ns:List Int),
      Ground q loose [] XP w xk mg mb xR.heap->YP w xR.heap ->
      xR.heap.get? fa=some o->o.data=.func (docDef d.name d.params d.body d.scope pm cd doc)->xR.heap.CodeRec cd d.name->mg d.name=some (.ref fa) ->
      xR.heap.get? a=some { cls:=.type "list", data:=.seq vs.toArray }->i3 vs ns->ns.length<=n->xR.gens=#[] ->
      n8 (D6 l.prog w) uT (.call (.ref fa) ⟨[.ref a],[]⟩) (fun r s'=>r=.ok (.ret (.bool true))/\OldK xR.heap s'.heap/\s'.os=xR.os/\m8 s'.gens) xR) :
    WalkO q loose XP YP l.row.toRowW d [] (fun f vs=>uq f vs):=by
  intro w xk xR mg mb G Y fa o pm cd doc dV kV ho hd hcd hD hmg hg args vals as zCD zEf hrd hwl hlo;obtain rfl:dV=.none:=Dflts.none hD hdf;obtain rfl:kV=.none:=Dflts.noKw hD;obtain⟨a,vs,ns,rfl,rfl,zCn,hints,hlen⟩:=Sm hn zCD hwl;refine enter_call (tF (call w xk xR mg mb fa o pm cd doc a vs ns G Y ho (fd_plain hd) hcd hmg zCn hints hlen hg) fun r s' hq=>?_);obtain⟨rfl,h2,h3,h4⟩:=hq;exact⟨.inl ⟨.bool true,.bool true,[],rfl,fun _=>rfl,.bool true,Sw l _,fun _=>⟨vH,fun _ hm=>(nomatch hm)⟩⟩,h2,h3,h4⟩
end Att
namespace L2
open PySem PySem.Spec PyProof.Rows
theorem Ka:∀{vs:List Value} {ns:List Int},i3 vs ns->AF (ns.map V.int) vs
 | _,_,.nil=>.nil
 | _,_,.cons n t h=>.cons ⟨t,rfl⟩ (Ka h)
def dG(H:Hp):Prop:=∀b,H b=none\/∃o xs,H b=some (.frz o (.lst xs))
theorem XC{P:F8}{w:J0}{K:W.Frag}{mg mb:Str->Option Value}{CX:Zl}{k:Nat}{fa a:B5}{fd:Q8}{x:Str}{sp:Sp}{xR:A9}{vs:List Value}{ns:List Int}
    (KX:K.In xR.heap) (hns:xR.heap.Ns K9 mg) (hb:xR.heap.Ns wF mb) (hbb:∀x:Str,x ≠ "__name__" -> mb x=Q3 x) (zEH:xR.heap.NoLimit) (hg:xR.gens=#[])
    (ha:xR.heap.get? a=some { cls:=.type "list", data:=.seq vs.toArray }) (hi:i3 vs ns) (hl:ns.length<=sizeLine) (hr:xW k uT)
    (F:∀base:G7,K.In base->base.Ns K9 mg->xr P w K mg base CX k fa fd [x] sp) (zDW:∀(s:A9) (u:Value),vD s fd ⟨[u],[]⟩ [(x,u)])
    (hsp:∀H:Hp,dG H->DO K H a (ns.map V.int)->sp [.ref a] H (fun v _=>v=.bl true) fun _ _ _=>False)
    (hCX:∀H e s',CX [] H xR (fun _ _ _=>False) e s'->False) :
    n8 (D6 P w) uT (.call (.ref fa) ⟨[.ref a],[]⟩) (fun r s'=>r=.ok (.ret (.bool true))/\OldK xR.heap s'.heap/\s'.os=xR.os/\m8 s'.gens) xR:=by
  have rv:=Ka hi;have zDs:=hi.length
  -- from an abstract heap in zEd nothing but the zCZ may be tracked
  have core:∀H:Hp,dG H->DO K H a (ns.map V.int)->FM P w H xR.heap->(∀b,H b≠none->b=a)->(H a≠none->K.lookup a=none) ->
      n8 (D6 P w) uT (.call (.ref fa) ⟨[.ref a],[]⟩) (fun r s'=>r=.ok (.ret (.bool true))/\OldK xR.heap s'.heap/\s'.os=xR.os/\m8 s'.gens) xR:=by
    intro H hO hS xP hA hK;have FJ:∀{b:B5} {o:Obj},xR.heap.get? b=some o->H b=none->(MH xR.heap H).get? b=some o:=fun e n=>XQ e n
    have noA:∀{b:B5} {o:Obj} {es:Array DictEntry} {ep:Nat},xR.heap.get? b=some o->o.data=.dict es ep->H b=none:=fun{b o es ep} e d=>by
      cases q:H b with
      | none=>rfl
      | some u =>
        have e':b=a:=hA b (by rw[q];simp);subst e';rw[ha] at e;cases e;have d':Data.seq vs.toArray _=Data.dict es ep:=d;cases d'
    have nsK:∀{b:B5} {m:Str->Option Value},xR.heap.Ns b m->(MH xR.heap H).Ns b m:=fun{b m} ⟨o,es,ep,e,d,r⟩=>⟨o,es,ep,FJ e (noA e d),d,r⟩
    have hKb:K.In (MH xR.heap H):=fun b o e=>FJ (KX b o e) (by
      cases q:H b with
      | none=>rfl
      | some u =>
        have e':b=a:=hA b (by rw[q];simp);subst e';rw[hK (by rw[q];simp)] at e;cases e)
    have hM:Mod K mg (MH xR.heap H):=⟨hKb,nsK hns,⟨mb,nsK hb,hbb⟩,let ⟨mc,h1,h2⟩:=zEH;⟨mc,nsK h1,h2⟩⟩;have e0:zAs P w K mg (MH xR.heap H) uT [] xR H:=⟨rfl,hM,fun b o e=>bT e,vA (Tp _ _),trivial,fun b hb=>absurd (show b∈([]:List B5) from hb) (by simp),xP,.of_eq hg⟩;refine tF ((F _ hKb (nsK hns)).run uT [] xR H ⟨[.ref a],[]⟩ [.ref a] [.ref a] _ _ hr e0 (zDW xR (.ref a)) (.cons rfl .nil) (hsp H hO hS)) fun r s' h=>?_
    cases r with
    | error e=>exact(hCX H e s' h).elim
    | ok fl =>
      cases fl with
      | next=>exact E5 h
      | brk=>exact E5 h
      | cont=>exact E5 h
      | ret u =>
        obtain⟨v,H',os,bare,un,zEF,r',q⟩:=h;have q':v=.bl true:=q;subst q';obtain rfl:u=ue true:=r';refine⟨rfl,OldK.of_keep fun b o e=>?_,os,bare⟩;cases q:H b with
        | none=>exact un.keep b o e q (by intro z;exact absurd (show b∈([]:List B5) from z) (by simp)) (by simp)
        | some u =>
          rcases hO b with z | ⟨ob,xs,z⟩
          · rw[q] at z;cases z
          · have z2:=un.zAA b ob _ z;obtain⟨e1,_⟩:=xP b _ z;obtain⟨e2,_⟩:=zEF b _ z2;rw[e] at e1;cases e1;exact e2
  cases hk:K.lookup a with
  | some o =>
    -- the zCZ is one of the zDF own objects
    have e:=KX a o hk;rw[ha] at e;cases e;refine core (fun _=>none) (fun _=>.inl rfl) (.inr ⟨_,vs.toArray,_,hk,rfl,rfl,rfl,by rw[A8,zDs];exact hl,by simpa using rv⟩) (fun b u z=>by have z':(none:Option HO)=some u:=z;cases z') (fun b z=>absurd rfl z) fun z=>absurd rfl z
  | none =>
    refine core (fun b=>if b=a then some (.frz { cls:=.type "list", data:=.seq vs.toArray } (.lst (ns.map V.int))) else none) (fun b=>?_) (.inl (.inr ⟨{ cls:=.type "list", data:=.seq vs.toArray },if_pos rfl⟩)) (fun b u z=>?_) (fun b z=>?_) fun _=>hk
    · by_cases hb:b=a
      · exact .inr ⟨_,_,if_pos hb⟩
      · exact .inl (if_neg hb)
    · by_cases hb:b=a
      · have z':=(if_pos hb).symm.trans z;cases z';subst hb;exact⟨ha,by rw[D5];exact hl,vs,_,rv,ha⟩
      · have z':=(if_neg hb).symm.trans z;cases z'
    · by_cases hb:b=a
      · exact hb
      · exact absurd (if_neg hb) z
theorem zBx{l:W.OpenLaw}{n k:Nat}{q:F8}{loose:List Str}{XP:(Str->Option Value)->G7->Prop}{YP:J0->G7->Prop}{d:wd}{K:uo->W.Frag}{CX:J0->Zl}{sp:J0->Sp}{x:Str}
    (hn:l.most=some n) (hn2:n<=sizeLine) (hdf:d.params.defaults=[]) (hr:xW k uT)
    (hY:∀(w:J0) (h:G7),YP w h->(K w.params).In h)
    (F:∀(w:J0) (mg:Str->Option Value) (fa:B5) (h:G7),(K w.params).In h->h.Ns K9 mg->mg d.name=some (.ref fa) ->
      ∃fd:Q8,(∀(s:A9) (u:Value),vD s fd ⟨[u],[]⟩ [(x,u)]) /\
        ∀base:G7,(K w.params).In base->base.Ns K9 mg->xr l.prog w (K w.params) mg base (CX w) k fa fd [x] (sp w))
    (hsp:∀(w:J0) (H:Hp) (a:B5) (ns:List Int),ns.length<=n->dG H->DO (K w.params) H a (ns.map V.int)->sp w [.ref a] H (fun v _=>v=.bl true) fun _ _ _=>False)
    (hCX:∀(w:J0) (H:Hp) (s:A9) (e:Value) (s':A9),CX w [] H s (fun _ _ _=>False) e s'->False) :
    W.WalkO q loose XP YP l.row.toRowW d [] (fun f vs=>uq f vs):=by
  refine Att.zAh hn hdf fun w xk xR mg mb fa o pm cd doc a vs ns G Y ho hd hcd hmg zCn hints hlen hg=>?_
  have KX:=hY w _ Y;obtain⟨fd,hb,hF⟩:=F w mg fa _ KX G.T.g hmg;exact XC KX G.T.g G.T.b G.T.builtins G.T.nolimit hg zCn hints (A4 hlen hn2) hr hF hb (fun H hO hS=>hsp w H a ns hlen hO hS) fun H e s'=>hCX w H xR e s'
noncomputable def Ao(s:M4):Arguments:=match s with
 | .FunctionDef _ a _ _ _ _ _ _ _ _=>a
 | _=>{ posonlyargs:=[],args:=[],vararg:=none,kwonlyargs:=[],kw_defaults:=[],kwarg:=none,defaults:=[] }
noncomputable def Ab(s:M4):List M4:=match s with
 | .FunctionDef _ _ b _ _ _ _ _ _ _=>b
 | _=>[]
noncomputable def AL(s:M4):N4:=match s with
 | .FunctionDef _ _ _ _ _ _ sc _ _ _=>sc
 | _=>{ kind:=.function,names:=[],isGenerator:=false,isCoroutine:=false }
abbrev Qt:Zl:=fun _ _ _ _ _ _=>False
abbrev E0:XK:=fun _ _ _=>False
theorem dz{X:Cx}:DQ Qt X E0:=fun _ _ _ _ _ _ _ h=>h.elim
structure Fun (K:W.Frag) (x qual:Str) (st:M4) (f:B5) (fd:Q8):Prop where
 ex:∃(oc:Value) (od:Option B5) (kV doc pm:Value) (an:Option B5) (xp ct:Value) (osl:Array (Option Value)),
  fd=W.fnOf x qual (Ao st) (Ab st) (AL st) .none kV doc pm an xp ct/\K.lookup f=some ⟨oc,od,.func fd,osl⟩/\W.codeIn K xp qual=true
 kp:W.keepIn K (.ref f)=true
variable {x qual:Str}
section
variable {P:F8} {w:J0} {K:W.Frag} {mg:Str->Option Value} {base:G7}
theorem Fun.ok{st:M4}{f:B5}{fd:Q8}{N ps:List Str}{k:Nat}{sp:Sp}(F:Fun K x qual st f fd)(S:y8 N ps (AL st))(len:∀vs H Q E,sp vs H Q E->vs.length=ps.length)
    (zBo:∀(xp:Value) (A:J5) (outer:List Env) (s:A9) (H:Hp) (vs:List V) (Q:VK) (E:XK),xW k (A.deeper (uC qual (AL st) s.heap.objs.size f xp))->sp vs H Q E ->
      ∃t,Ej (OO Qt P w K mg base N qual (AL st) f xp A outer s H E).nox (Ab st) t/\t { nx:=fun _ H'=>Q .xQ H',rt:=Q } (start N vs) H):xr P w K mg base Qt (k+1) f fd ps sp:=by
  obtain⟨oc,od,kV,doc,pm,an,xp,ct,osl,rfl,lk,hcd⟩:=F.ex;refine oS lk hcd S len fun A outer s H vs Q E hr hsp=>?_
  obtain⟨t,h,q⟩:=zBo xp A outer s H vs Q E hr hsp;exact⟨t,h.nox,q⟩
theorem Fun.binds{st:M4}{f:B5}{fd:Q8}{ps:List Str}(F:Fun K x qual st f fd)
    (h:∀(kV doc pm:Value) (an:Option B5) (xp ct:Value) (us:List Value),us.length=ps.length->sY (W.fnOf x qual (Ao st) (Ab st) (AL st) .none kV doc pm an xp ct) ⟨us,[]⟩=pure (ps.zip us)):Binds K fd ps []:=by
  obtain⟨oc,od,kV,doc,pm,an,xp,ct,osl,rfl,lk,hcd⟩:=F.ex;exact .all (h kV doc pm an xp ct)
theorem XY{st:M4}{f:B5}{oc:Value}{od an:Option B5}{osl:Array (Option Value)}{kV doc pm xp ct:Value}(l:K.lookup f=some ⟨oc,od,.func (W.fnOf x qual (Ao st) (Ab st) (AL st) .none kV doc pm an xp ct),osl⟩)
    (c:W.codeIn K xp qual=true) (k:W.keepIn K (.ref f)=true):Fun K x qual st f (W.fnOf x qual (Ao st) (Ab st) (AL st) .none kV doc pm an xp ct):=⟨⟨oc,od,kV,doc,pm,an,xp,ct,osl,rfl,l,c⟩,k⟩
end
def Oq(H H':Hp):Prop:=∀b o,H b=some o->H' b=some o
noncomputable def AV(sc:N4)(x:Str):Bool:=match sc.names.lookup x with | some .cell=>true | _=>false
def Cx.inner(X:Cx)(scope:N4)(cl:List (Str×B5))(C:B5)(s:A9)(H:Hp)(fp:List B5):Cx:=
 { X with xk:=s,H₀:=H,env:=compEnvC scope cl C X.env,outer:=X.stack,ex:=fp,fn:=AV scope,xe:=fun _ _=>False }
theorem Am{scope:N4}{env:Env}{x:Str}:∀{names:List (Str×NameKind)}, 
    ((names.map fun(n,k)=>if(k == NameKind.free && env.scope.kind == .function && env.kindOf n == some .cell) then(n,NameKind.cell) else(n,k)).lookup x=some .cell \/
     (names.map fun(n,k)=>if(k == NameKind.free && env.scope.kind == .function && env.kindOf n == some .cell) then(n,NameKind.cell) else(n,k)).lookup x=some .free) ->
    names.lookup x=some .cell\/names.lookup x=some .free
  | [],h=>by simp at h
  | (n,k)::r,h=>by
    have ih:=@Am scope env x r;cases hx:x == n with
    | true =>
      simp only[B6,G1] at h ⊢
      by_cases hc:(k == NameKind.free && env.scope.kind == .function && env.kindOf n == some .cell)=true
      · have hk:k=.free:=by
          simp only[A2,beq_iff_eq] at hc;exact hc.1.1
        right;simp[hx,hk]
      · rw[if_neg hc] at h;simp only[G1,hx] at h ⊢;exact h
    | false =>
      simp only[B6,G1] at h ⊢
      by_cases hc:(k == NameKind.free && env.scope.kind == .function && env.kindOf n == some .cell)=true
      · rw[if_pos hc] at h;simp only[G1,hx] at h ⊢;exact ih h
      · rw[if_neg hc] at h;simp only[G1,hx] at h ⊢;exact ih h
theorem DI{env:Env}{x:Str}:∀{names:List (Str×NameKind)}, 
    (names.map fun(n,k)=>if(k == NameKind.free && env.scope.kind == .function && env.kindOf n == some .cell) then(n,NameKind.cell) else(n,k)).lookup x=some .local ->
    names.lookup x=some .local
  | [],h=>by simp at h
  | (n,k)::r,h=>by
    have ih:=@DI env x r;cases hx:x == n with
    | true =>
      simp only[B6,G1] at h ⊢
      by_cases hc:(k == NameKind.free && env.scope.kind == .function && env.kindOf n == some .cell)=true
      · rw[if_pos hc] at h;simp only[G1,hx] at h;cases h
      · rw[if_neg hc] at h;simp only[G1,hx] at h ⊢;exact h
    | false =>
      simp only[B6,G1] at h ⊢
      by_cases hc:(k == NameKind.free && env.scope.kind == .function && env.kindOf n == some .cell)=true
      · rw[if_pos hc] at h;simp only[G1,hx] at h ⊢;exact ih h
      · rw[if_neg hc] at h;simp only[G1,hx] at h ⊢;exact ih h
variable {scope:N4}
theorem Jp{env:Env}(zEJ:∀x,scope.names.lookup x=some .free->∃c,env.cells.lookup x=some c)(hnd:∀x k,(x,k)∈scope.names->k=.free->scope.names.lookup x=some .free) :
    ∃cl,closureFor scope env=pure cl/\(∀x c,cl.lookup x=some c->env.cells.lookup x=some c)/\∀x,scope.names.lookup x=some .free->∃c,cl.lookup x=some c:=by
  have go:∀(names:List (Str×NameKind)) (cs:List (Str×B5)),(∀x k,(x,k)∈names->k=.free->∃c,env.cells.lookup x=some c)->(∀x c,cs.lookup x=some c->env.cells.lookup x=some c) ->
      ∃cl,(forIn names cs (fun(x:Str×NameKind) (r:List (Str×B5))=>(if(x.2 == NameKind.free)=true then(cellOf env x.1 >>= fun c=>(pure (ForInStep.yield ((x.1,c)::r)):Sem _)) else pure (ForInStep.yield r))))=(pure cl:Sem _) /\
        (∀x c,cl.lookup x=some c->env.cells.lookup x=some c)/\(∀x,(cs.lookup x).isSome=true->(cl.lookup x).isSome=true)/\∀x,(x,NameKind.free)∈names->(cl.lookup x).isSome=true:=by
    intro names
    induction names with
    | nil=>intro cs _ h2;exact⟨cs,by simp,h2,fun _ z=>z,fun _ z=>by simp at z⟩
    | cons p r ih =>
      intro cs h1 h2;obtain⟨n,k⟩:=p
      by_cases hk:k=.free
      · subst hk;obtain⟨c,hc⟩:=h1 n _ B2 rfl;have zAG:cellOf env n=pure c:=by unfold cellOf;rw[hc]
        obtain⟨cl,e,a,b,d⟩:=ih ((n,c)::cs) (fun x k hx hk=>h1 x k (A7 _ hx) hk) (fun x c' hx=>by
          rw[G1] at hx;cases hxn:x == n with
          | true => rw[hxn] at hx; simp at hx; subst hx; have : x = n := by simpa using hxn
                    rw[this];exact hc
          | false=>rw[hxn] at hx;exact h2 x c' hx)
        refine⟨cl,?_,a,fun x hx=>b x ?_,fun x hx=>?_⟩
        · rw[Z6];simp only[zAG];simpa using e
        · rw[G1];cases hxn:x == n with
          | true=>rfl
          | false=>exact hx
        · rcases B9.mp hx with z | z
          · injection z with z1 _
            subst z1;exact b x (by rw[G1];simp)
          · exact d x z
      · have hb:(k == NameKind.free)=false:=by simpa using hk
        obtain⟨cl,e,a,b,d⟩:=ih cs (fun x k hx hk=>h1 x k (A7 _ hx) hk) h2;refine⟨cl,?_,a,b,fun x hx=>?_⟩
        · rw[Z6];simp only[hb];simpa using e
        · rcases B9.mp hx with z | z
          · injection z with _ z2
            exact absurd z2.symm hk
          · exact d x z
  obtain⟨cl,e,a,_,d⟩:=go scope.names [] (fun x k hx hk=>zEJ x (hnd x k hx hk)) (fun x c h=>by simp at h);refine⟨cl,?_,a,fun x hx=>S1.mp (d x (G3 hx))⟩;unfold closureFor;simpa using e
theorem Au:∀(names:List (Str×NameKind)) (n:Nat) (acc:List (Str×B5)),M9 n names acc=M9 n names []++acc
 | [],n,acc=>by simp[M9]
 | (x,k)::r,n,acc=>by
  unfold M9;split
  ·rw[Au r (n+1) ((x,n)::acc),Au r (n+1) [(x,n)],N6];rfl
  ·exact Au r n acc
theorem DL{x:Str}{c:B5}:∀(names:List (Str×NameKind)) (n:Nat),(x,c)∈M9 n names []->(x,NameKind.cell)∈names
 | [],n,h=>by simp[M9] at h
 | (y,k)::r,n,h=>by
  unfold M9 at h;split at h
  ·rename_i hk;have hk:k=.cell:=by simpa using hk
   rw[Au] at h;rcases C0.mp h with h | h
   ·exact A7 _ (DL r _ h)
   ·rw[D2] at h;cases h;rw[hk];exact B2
  ·exact A7 _ (DL r _ h)
theorem DM{x:Str}:∀(names:List (Str×NameKind)) (n:Nat),(x,NameKind.cell)∈names->∃c,(M9 n names []).lookup x=some c
 | [],n,h=>by cases h
 | (y,k)::r,n,h=>by
  unfold M9
  by_cases hr:(x,NameKind.cell)∈r
  ·split
   ·rw[Au];obtain⟨c,e⟩:=DM r (n+1) hr;exact⟨c,by rw[R0,e];rfl⟩
   ·exact DM r n hr
  ·rcases B9.mp h with e | e
   ·cases e;simp only[beq_self_eq_true,if_true];rw[Au];cases q:(M9 (n+1) r []).lookup x with
    | some c=>exact⟨c,by rw[R0,q];rfl⟩
    | none=>exact⟨n,by rw[R0,q];simp⟩
   ·exact absurd e hr
theorem CL{M:Model}{A:J5}{E:Value->A9->Prop}{s:A9}{scope:N4}{globals:B5}{closure:List (Str×B5)}{qual:Str}{outer:Env}{Q:Env->A9->Prop}
    (hQ:Q { scope:=scope,locals:=s.heap.objs.size,globals:=globals,cells:=M9 (s.heap.objs.size+1) scope.names closure,qual:=qual,func:=none,code:=outer.code,frame:=outer.frame,builtins:=outer.builtins } { s with heap:=wZ (s.heap.push { cls:=.type "dict", data:=.dict #[] }) scope.names }) :
    C4 M A (uE scope globals closure [] qual none .none (some outer)) Q E s:=by
  simp only[uE,k8,if_true];refine A1 (wpAny_alloc ?_);refine A1 (wpAny_layCells _ (fun name kind cells=>by cases hkc:kind == NameKind.cell<;>simp[hkc]) _ _ _ _ ?_)
  rw[show({ s with heap:=s.heap.push { cls:=.type "dict", data:=.dict #[] } }:A9).heap.objs.size=s.heap.objs.size+1 from L5 ..]
  rw[uF];exact A1 (A6 (A6 hQ))
noncomputable def xt(N:List Str)(sc scope:N4)(js:List Nat):Bool:=
 (match scope.kind with | .function=>true | _=>false) &&
 scope.names.all (fun p=>(match p.2 with
  | .cell=>(match scope.names.lookup p.1 with | some .cell=>true | _=>false)
  | .local=>(match scope.names.lookup p.1 with | some .local=>true | _=>false)
  | .free=>(match scope.names.lookup p.1 with | some .free=>true | _=>false) && (match sc.names.lookup p.1 with | some .cell=>true | some .free=>true | _=>false)
  | _=>true)) &&
 (N.zipIdx.all fun p=>(match scope.names.lookup p.1 with | some .local=>js.contains p.2 | some .cell=>js.contains p.2 | _=>true))
structure yz (N:List Str) (sc scope:N4) (js:List Nat):Prop where
 kind:scope.kind=.function
 zCs:∀x k,(x,k)∈scope.names->k=.cell->scope.names.lookup x=some .cell
 zCJ:∀y∈scope.names,y.2=.local->scope.names.lookup y.1=some .local
 zCK:∀x k,(x,k)∈scope.names->k=.free->scope.names.lookup x=some .free
 fr:∀x,scope.names.lookup x=some .free->sc.names.lookup x=some .cell\/sc.names.lookup x=some .free
 jsl:∀(i:Nat) x,N[i]?=some x->scope.names.lookup x=some .local\/scope.names.lookup x=some .cell->i∈js
variable {js:List Nat}
theorem JV{N:List Str}{sc:N4}(h:xt N sc scope js=true):yz N sc scope js:=by
  unfold xt at h;rw[A2,A2] at h;obtain⟨⟨h1,h2⟩,h3⟩:=h;rw[F0] at h2 h3;refine⟨?_,fun x k hy e=>?_,fun y hy e=>?_,fun x k hy e=>?_,fun x e=>?_,fun i x e1 e2=>?_⟩
  · cases q:scope.kind<;>rw[q] at h1<;>first | rfl | cases h1
  · have:=h2 _ hy;rw[e] at this;dsimp only at this;split at this
    · assumption
    · cases this
  · have:=h2 y hy;rw[e] at this;dsimp only at this;split at this
    · assumption
    · cases this
  · have:=h2 _ hy;rw[e] at this;dsimp only at this;rw[A2] at this;have:=this.1;split at this
    · assumption
    · cases this
  · have:=h2 _ (G3 e);dsimp only at this;rw[A2] at this;have:=this.2;split at this
    · left;assumption
    · right;assumption
    · cases this
  · have hm:(x,i)∈N.zipIdx:=by
      rw[List.mem_zipIdx_iff_getElem?];exact e1
    have:=h3 _ hm;dsimp only at this;rcases e2 with e2 | e2
    · rw[e2] at this;dsimp only at this;simpa using this
    · rw[e2] at this;dsimp only at this;simpa using this
def blank(js:List Nat)(σ:St):St:=js.foldl (fun σ j=>σ.set j none) σ
theorem yF(js:List Nat):∀σ:St,(blank js σ).length=σ.length:=by
 induction js with
 | nil=>intro σ;rfl
 | cons j r ih=>intro σ;unfold blank;rw[V5];have:=ih (σ.set j none);unfold blank at this;rw[this,D1]
theorem Ha(js:List Nat):∀(σ:St) (i:Nat) (v:V),(blank js σ)[i]?=some (some v)->i∉js/\σ[i]?=some (some v):=by
 induction js with
 | nil=>intro σ i v h;exact⟨by simp,h⟩
 | cons j r ih =>
  intro σ i v h;unfold blank at h;rw[V5] at h;obtain⟨a,b⟩:=ih (σ.set j none) i v h
  by_cases e:i=j
  ·subst e
   by_cases hl:i < σ.length
   ·rw[E8 hl] at b;cases b
   ·rw[O1 (by rw[D1];omega)] at b;cases b
  ·rw[D9 (Ne.symm e)] at b;exact⟨by simp[e,a],b⟩
def y0(js:List Nat)(g:TG):Prop:=∀x σ H Q,g x σ H Q->g x σ H fun xy H2=>(xy.length=σ.length/\∀i,i∉js->xy[i]?=σ[i]?)/\Q xy H2
theorem XT{j:Nat}(h:j∈js):y0 js (DZ j):=fun x σ H Q q=>⟨⟨D1 ..,fun i hi=>D9 (fun(e:j=i)=>hi (e▸h))⟩,q⟩
def Os(js:List Nat)(g:Ms):Prop:=∀x σ H Q,g x σ H Q->g x σ H fun xy H2=>(xy.length=σ.length/\∀i,i∉js->xy[i]?=σ[i]?)/\Q xy H2
theorem Nx:Os js MI:=fun x σ H Q ⟨e,q⟩=>⟨e,⟨rfl,fun _ _=>rfl⟩,q⟩
theorem Tr{j:Nat}{u:Ms}(h:j∈js)(hu:Os js u):Os js (Cq (DZ j) u):=by
 rintro x σ H Q ⟨v,r,e,q⟩;refine⟨v,r,e,?_⟩;have:=hu r (σ.set j (some v)) H Q q;show u r (σ.set j (some v)) H _;have key:∀(P P':St->Hp->Prop),(∀a b,P a b->P' a b)->True:=fun _ _ _=>trivial
 have e2:(fun xy H2=>(xy.length=(σ.set j (some v)).length/\∀(i:Nat),i∉js->xy[i]?=(σ.set j (some v))[i]?)/\Q xy H2)=(fun xy H2=>(xy.length=σ.length/\∀(i:Nat),i∉js->xy[i]?=σ[i]?)/\Q xy H2):=by
  funext xy H2;have e3:(∀(i:Nat),i∉js->xy[i]?=(σ.set j (some v))[i]?)=(∀(i:Nat),i∉js->xy[i]?=σ[i]?):=by
   apply propext;constructor
   ·intro k i hi;rw[k i hi,D9 (fun(e:j=i)=>hi (e▸h))]
   ·intro k i hi;rw[k i hi,D9 (fun(e:j=i)=>hi (e▸h))]
  rw[e3,D1]
 rw[e2] at this;exact this
theorem Rq{K:W.Frag}{n:Nat}{u:Ms}(hu:Os js u):y0 js (br K n u):=by
 rintro x σ H Q ⟨a,xs,e,hq,hl,q⟩;exact⟨a,xs,e,hq,hl,hu _ _ _ _ q⟩
variable {a:B5}
section
variable {X:Cx} {pins:List (B5×Obj)} {σ:St} {H:Hp} {s:A9} {scope:N4} {cl:List (Str×B5)} {js:List Nat} {fp:List B5} {C D:B5}
theorem Inv.zCg(I:Inv X pins σ H s)(h:s.heap.objs.size<=a):a∉Rt X.stack:=fun hb=>by
 rcases B9.mp (I.zC a hb) with e | e
 ·exact absurd (B8 I.lt (e▸h)) (R8 _)
 ·exact I.zDD h e
theorem Inv.zAN(I:Inv X pins σ H s){c:B5}(e:X.env.cells.lookup x=some c):c < s.heap.objs.size:=by
 obtain⟨v,q⟩:=I.cell x c e;exact q.lt
theorem Inv.zCN(I:Inv X pins σ H s){p:B5×Obj}(hp:p∈X.pn++pins):p.1 < s.heap.objs.size:=D3 (I.pin p hp).1
structure zBu (X:Cx) (scope:N4) (cl:List (Str×B5)) (s:A9) (C:B5):Prop where
 old:∀x c,cl.lookup x=some c->AV scope x=false->X.env.cells.lookup x=some c
 own:∀x c,cl.lookup x=some c->AV scope x=true->s.heap.objs.size<=c/\C < c
 inj:∀x y c,cl.lookup x=some c->cl.lookup y=some c->AV scope x=true->AV scope y=true->x=y
 fr:∀x,scope.names.lookup x=some .free->∃c,cl.lookup x=some c
 has:∀x,AV scope x=true->∃c,cl.lookup x=some c
theorem zBu.ne(L:zBu X scope cl s C){c b:B5}(e:cl.lookup x=some c)(hb:b < s.heap.objs.size)(h:∀x c,X.env.cells.lookup x=some c->c≠b):c≠b:=by
 cases q:AV scope x with
 | false=>exact h x c (L.old x c e q)
 | true=>exact tB (B8 hb (L.own x c e q).1)
theorem cI{cl0:List (Str×B5)}(yj:yz X.N X.env.scope scope js)(hcl:∀x c,cl0.lookup x=some c->X.env.cells.lookup x=some c)(hfr:∀x,scope.names.lookup x=some .free->∃c,cl0.lookup x=some c)
    {h:G7} (hC:s.heap.objs.size<=C) (hs:h.objs.size=C+1):zBu X scope (M9 (C+1) scope.names cl0) s C/\∀x c,(M9 (C+1) scope.names cl0).lookup x=some c->AV scope x=true->∃v,(wZ h scope.names).IsCell c v:=by
  have ok:=cellsFrom_ok scope.names h (C+1) [] ⟨fun _ _ hm=>(nomatch hm),vH⟩ (by rw[hs];exact B7 _);rw[hs] at ok;rw[Au];generalize hw:M9 (C+1) scope.names []=own at ok;have mem:∀x c,own.lookup x=some c->AV scope x=true:=fun x c e=>by
    have:=yj.zCs x _ (DL scope.names (C+1) (by rw[hw];exact G3 e)) rfl;unfold AV;rw[this]
  have has:∀x,AV scope x=true->∃c,own.lookup x=some c:=fun x e=>by
    unfold AV at e;split at e
    · rename_i q;obtain⟨c,z⟩:=DM scope.names (C+1) (G3 q);rw[hw] at z;exact⟨c,z⟩
    · cases e
  have yes:∀x c,(own++cl0).lookup x=some c->AV scope x=true->own.lookup x=some c:=fun x c e q=>by
    obtain⟨c',z⟩:=has x q;rw[R0,z] at e;rw[z];exact e
  have no:∀x,AV scope x=false->(own++cl0).lookup x=cl0.lookup x:=fun x q=>by
    rw[R0];cases z:own.lookup x with
    | none=>rfl
    | some c=>rw[mem x c z] at q;cases q
  refine⟨⟨fun x c e q=>hcl x c (by rw[<- no x q];exact e),fun x c e q=>?_,fun x y c e1 e2 q1 q2=>?_,fun x e=>?_,fun x q=>?_⟩,fun x c e q=>?_⟩
  · have:=(ok.empty x c (G3 (yes x c e q))).2;exact⟨A4 hC (Nat.le_of_succ_le this),this⟩
  · exact PySem.name_of_addr ok.apart (G3 (yes x c e1 q1)) (G3 (yes y c e2 q2))
  · obtain⟨c,z⟩:=hfr x e;exact⟨c,by rw[no x (by unfold AV;rw[e])];exact z⟩
  · obtain⟨c,z⟩:=has x q;exact⟨c,by rw[R0,z];rfl⟩
  · exact⟨none,(ok.empty x c (G3 (yes x c e q))).1⟩
theorem Inv.xt(I:Inv X pins σ H s)(yj:yz X.N X.env.scope scope js)(hf:∀b∈fp,xS X pins H b)(hfe:∀b∈fp,b < s.heap.objs.size)(hC:s.heap.objs.size<=C)
    (L:zBu X scope cl s C):(X.inner scope cl C s H fp).Ok where
  mod:=I.ok.mod
  kind:=yj.kind
  glob:=I.ok.glob
  blt:=I.ok.blt
  above:=hC
  inj:=fun x y c a b=>by
    cases hx:AV scope x<;>cases hy:AV scope y
    · exact I.ok.inj x y c (L.old x c a hx) (L.old y c b hy)
    · exact absurd (I.zAN (L.old x c a hx)) (Nat.not_lt.mpr (L.own y c b hy).1)
    · exact absurd (I.zAN (L.old y c b hy)) (Nat.not_lt.mpr (L.own x c a hx).1)
    · exact L.inj x y c a b hx hy
  has:=fun x h=>by
    rcases Am (scope:=scope) (env:=X.env) (names:=scope.names) h with q | q
    · exact L.has x (by unfold AV;rw[q])
    · exact L.fr x q
  cab:=fun x c h e=>(L.own x c e h).1
  hd:=I.ok.hd
  frames:=I.ok.frames
  yg:=.inl rfl
  exf:=fun b hb=>⟨E4 (B8 (hfe b hb) hC),fun x c e=>L.ne e (hfe b hb) (hf b hb).2.2.2.2.1⟩
  bs:=I.bs
  bsz:=A4 I.ok.bsz I.sz
  zBL:=fun b o e hb=>by
    rcases(hf b hb).2.2.2.1 with z | z
    · exact I.ok.zBL b o e z
    · exact absurd (B8 (D3 e) (A4 I.ok.bsz z)) (R8 _)
  zBq:=fun b hb z=>by
    rcases B9.mp (I.zC b z) with e | e
    · exact(hf b hb).2.1 e
    · exact(hf b hb).2.2.1 e
  zH:=I.stack
  frf:=I.zAv
theorem Inv.enter{h':G7}{tk:Nat}{o:Obj}(I:Inv X pins σ H s)(yj:yz X.N X.env.scope scope js)(hf:∀b∈fp,xS X pins H b)(hfe:∀b∈fp,b < s.heap.objs.size)(hC:s.heap.objs.size<=C)(hD:s.heap.objs.size<=D)(hDC:D≠C)
    (L:zBu X scope cl s C) (zBi:∀x c,cl.lookup x=some c->AV scope x=true->∃v,h'.IsCell c v)
    (k:∀b u,s.heap.get? b=some u->h'.get? b=some u) {m:Str->Option Value} (hns:h'.Ns C m) (ho:h'.get? D=some o) (hoc:∀v,o.data≠.cell v) :
    Inv (X.inner scope cl C s H fp) (pins++[(D,o)]) (blank js σ) H { s with heap:=h',toks:=tk } where
  ok:=I.xt yj hf hfe hC L
  os:=rfl
  bare:=I.bare
  base:=Un.kept k
  loc:=by
    refine⟨m,hns,fun i x v e1 e2 e3=>?_⟩;obtain⟨hj,e2⟩:=Ha js σ i v e2;have free:scope.names.lookup x=some .free:=by
      rcases e3 with q | q | q
      · exact absurd (yj.jsl i x e1 (.inl (DI (env:=X.env) (names:=scope.names) q))) hj
      · rcases Am (scope:=scope) (env:=X.env) (names:=scope.names) (.inl q) with z | z
        · exact absurd (yj.jsl i x e1 (.inr z)) hj
        · exact z
      · rcases Am (scope:=scope) (env:=X.env) (names:=scope.names) (.inr q) with z | z
        · exact absurd (yj.jsl i x e1 (.inr z)) hj
        · exact z
    have kx:=yj.fr x free;obtain⟨m0,hn0,hl0⟩:=I.loc;obtain⟨u,r,l⟩:=hl0 i x v e1 e2 (kx.elim (fun z=>.inr (.inl z)) fun z=>.inr (.inr z));refine⟨u,r,?_⟩;rcases l with⟨z,_⟩ | ⟨_,c,hc,zAG⟩
    · have z':X.env.scope.names.lookup x=some .local:=z;rcases kx with y | y
      · rw[y] at z';cases z'
      · rw[y] at z';cases z'
    · obtain⟨c',hc'⟩:=L.fr x free;have:c'=c:=by
        have q:=L.old x c' hc' (by unfold AV;rw[free]);rw[hc] at q;exact(D0 q).symm
      subst this;obtain⟨oc,q1,q2⟩:=zAG;refine .inr ⟨?_,c',hc',oc,k _ _ q1,q2⟩;rcases e3 with q | q | q
      · have:=DI (env:=X.env) (names:=scope.names) q;rw[free] at this;cases this
      · exact .inl q
      · exact .inr q
  cell:=fun x c e=>by
    cases q:AV scope x with
    | true=>exact zBi x c e q
    | false =>
      obtain⟨v,oc,q1,q2⟩:=I.cell x c (L.old x c e q);exact⟨v,oc,k _ _ q1,q2⟩
  free:=I.xP.fresh hC
  yI:=fun x c e=>by
    cases q:AV scope x with
    | true=>exact I.xP.fresh (L.own x c e q).1
    | false=>exact I.yI x c (L.old x c e q)
  pin:=fun p hp=>by
    have z9:p∈X.pn++(pins++[(D,o)]):=hp;rw[<- N6] at z9;rcases C0.mp z9 with z | z
    · obtain⟨a1,a2,a3,a4,a5⟩:=I.pin p z;refine⟨k _ _ a1,a2,E4 (B8 (D3 a1) hC),fun q=>?_,a5⟩;rcases B9.mp (I.zC p.1 q) with e | e
      · exact a3 e
      · exact a4 e
    · have e:p=(D,o):=by simpa using z
      subst e;exact⟨ho,I.xP.fresh hD,hDC,I.zCg hD,hoc⟩
  xP:=I.xP.kept k
  len:=(yF js σ).trans I.len
theorem Inv.leave{Y:Cx}{H':Hp}{s':A9}{τ:St}{pl:List (B5×Obj)}{ys:List V}{xJ:List Value}{n:Nat}(I:Inv X pins σ H s)(hf:∀b∈fp,xS X pins H b)(hY:Y=X.inner scope cl C s H fp)(J:Inv Y pl τ H' s')(hD:s.heap.objs.size<=D)
    (hHD:H' D=none) (hz:ys.length<=sizeLine) (hv:AF ys xJ) (ho:s'.heap.get? D=some { cls:=.type "list", data:=.seq xJ.toArray n }) :
    Inv X pins σ (upd H' D (.lst ys)) s':=by
  subst hY;have un:Un (Rt X.stack) fp H H' s.heap s'.heap:=J.base;have ne:∀{b:B5} {o:Obj},s.heap.get? b=some o->b≠D:=fun e=>E4 (B8 (D3 e) hD)
  have nH:∀{b:B5} {o:HO},H' b=some o->b≠D:=fun e z=>by rw[z,hHD] at e;cases e
  have un':Un (Rt X.stack) fp H (upd H' D (.lst ys)) s.heap s'.heap:=
    ⟨un.keep,un.slot,fun b o e n' hx=>by rw[AG (ne e)];exact un.free b o e n' hx,un.there,fun b xs e=>by have:=un.zAH b xs e;rw[AG (nH this)];exact this,
      fun b o u e=>by have:=un.zAA b o u e;rw[AG (nH this)];exact this,fun b ps e=>by obtain⟨more,q⟩:=un.zAI b ps e;exact⟨more,by rw[AG (nH q)];exact q⟩⟩
  have xP:FM X.prog X.w (upd H' D (.lst ys)) s'.heap:=fun b u e=>by
    by_cases hb:b=D
    · subst hb;rw[AH] at e;cases e;exact⟨hz,xJ,n,hv,ho⟩
    · rw[AG hb] at e;exact(J.xP b u e).zAk (fun _ _ _ q=>q) (fun c q=>by rw[AG (nH q)];exact q) fun c xs q=>by rw[AG (nH q)];exact q
  exact I.zDa J.os un' xP J.bare fun b hb=>by
    obtain⟨_,f1,_,f3,f4,f5⟩:=hf b hb;exact⟨f3,f1,f4,f5⟩
end
section
variable {X:Cx}
def ml:V->Option Int->Option Int->Hp->VK->Prop:=fun x lo hi H Q=>∃z,x=.str z/\z.length<=sizeLine/\Q (.str (so z lo hi)) H
theorem gN:Ur X ml:=by
 intro pins s σ H x v vl vu lo hi sl Q I rx hs pl pu h;obtain⟨z,rfl,hz,q⟩:=h;obtain⟨t,rfl⟩:=rx;have fin:∀t' k,EP X pins σ Q (.str (so z lo hi) t') { s with toks:=k }:=fun t' k=>⟨.str _,H,I.tok k,⟨_,rfl⟩,q⟩
 refine⟨"str", _,F.slot_str_getitem.lookup,wO _ _ _,?_⟩
 obtain⟨o,e1,e2,e3⟩:=hs;cases pl with
 | none =>
  cases pu with
  | none=>exact S7 (l:=none) (u:=none) (st:=none) ⟨o,e1,e2,e3⟩ rfl (Z7 ⟨A4 (tK z _ _) hz,fin⟩)
  | int j uj=>exact S7 (l:=none) (u:=some (j,uj)) (st:=none) ⟨o,e1,e2,e3⟩ rfl (Z7 ⟨A4 (tK z _ _) hz,fin⟩)
 | int i ui =>
  cases pu with
  | none=>exact S7 (l:=some (i,ui)) (u:=none) (st:=none) ⟨o,e1,e2,e3⟩ rfl (Z7 ⟨A4 (tK z _ _) hz,fin⟩)
  | int j uj=>exact S7 (l:=some (i,ui)) (u:=some (j,uj)) (st:=none) ⟨o,e1,e2,e3⟩ rfl (Z7 ⟨A4 (tK z _ _) hz,fin⟩)
theorem PL{ys:List Str}:∀{us:List Value},AF (ys.map V.str) us->StrsAre us ys:=by
 induction ys with
 | nil=>intro us r;rw[T3] at r;cases r;exact .nil
 | cons n ns ih =>
  intro us r;rw[B6] at r;cases r with
  | cons r1 r2 =>
   obtain⟨t,e⟩:=r1;subst e;exact .cons n t (ih r2)
def Vt(K:W.Frag):V->List V->Hp->VK->Prop:=fun x vs H Q=>∃sep l ys,x=.str sep/\vs=[.ref l]/\DO K H l (ys.map V.str)/\(ys.map (·.length)).sum+ys.length * sep.length<=16777216/\Q (.str (wz sep ys)) H
theorem bY:fZ X "str.join" (Vt X.K):=by
 intro pins s σ H x vs v us Q I rx rv h;obtain⟨sep,l,ys,rfl,rfl,hl,hz,q⟩:=h;obtain⟨t,rfl⟩:=rx;obtain⟨u,rfl,ru⟩:=rv.one;cases ru;obtain⟨xJ,r,p,_⟩:=I.list hl;exact join_list p.isList (by simpa using PL r) hz fun t' k=>⟨.str _,H,I.tok k,⟨_,rfl⟩,q⟩
end
structure Fx (P:F8) (w:J0) (K:W.Frag) (mg:Str->Option Value) (base:G7) (k:Nat) (x:Str) (ps:List Str) (sp:Sp):Prop where
 ex:∃(f:B5) (fd:Q8),xr P w K mg base Qt k f fd ps sp/\mg x=some (.ref f)/\W.keepIn K (.ref f)=true/\Binds K fd ps []
section
variable {X:Cx} {k j:Nat} {x:Str} {ps:List Str} {sp:Sp} {p pos:Pos} {e:Expr} {es:List Expr} {t:TA}
abbrev pb(sp:Sp)(t:TA):TE:=fun σ H Q=>t σ H fun vs H1=>sp vs H1 Q E0
theorem dw(F:Fx X.prog X.w X.K X.mg X.base k x ps sp)(hr:xW j X.A)(hkj:k<=j)(hg:Gl X x)(ha:PA X (e::es) t)(hdb:(x == ("__debug__" : Str))=false:=by decide)
    (he:D8 (e::es) X.env=(false,N1 e X.env)::D8 es X.env:=by rfl) (hpl:(O3 pos (D8 es X.env)).any (·.1)=false:=by rfl):PE X (.Call (.Name x p) (e::es) [] pos) (pb sp t):=by
  obtain⟨f,fd,G,hm,hk,hb⟩:=F.ex;have q:=bF (p:=p) (pos:=pos) G (hr.mono hkj) hg hm hk hb .nil dz ha hdb he hpl;intro pins s σ H Q I h;refine q pins s σ H Q I ?_;show t σ H fun vs H1=>sp (vs++[]) H1 Q E0
  have e2:(fun(vs:List V) (H1:Hp)=>sp (vs++[]) H1 Q E0)=(fun vs H1=>sp vs H1 Q E0):=by
    funext vs H1;rw[K0]
  rw[e2];exact h
theorem WT(F:Fx X.prog X.w X.K X.mg X.base k x ps sp)(hr:xW j X.A)(hkj:k<=j)(hg:Gl X x)(hdb:(x == ("__debug__" : Str))=false:=by decide):PE X (.Call (.Name x p) [] [] pos) (pb sp Sd):=by
 obtain⟨f,fd,G,hm,hk,hb⟩:=F.ex;have q:=WW (p:=p) (pos:=pos) G (hr.mono hkj) hg hm hk hb .nil dz hdb;intro pins s σ H Q I h;exact q pins s σ H Q I h
end
variable {H:Hp} {Q:VK} {xs:List V} {p:B5}
section
variable {X:Cx}
def nE:R2:=fun x y H Q=>∃i j,x=.str i/\y=.str j/\i.length+j.length<=sizeLine/\Q (.str (i++j)) H
def NV(K:W.Frag):R2:=fun x y H Q=>(Vu fun i j=>.int (i+j)) x y H Q\/nE x y H Q\/nB x y H Q\/di K x y H Q
theorem bR:Ct X (binaryOp .Add) (NV X.K):=il.or (Pl.or (ik.or bO))
theorem ZX{K:W.Frag}{i j:Int}(q:Q (.int (i+j)) H):NV K (.int i) (.int j) H Q:=.inl ⟨i,j,rfl,rfl,q⟩
theorem ZV{K:W.Frag}{i j:Str}(h:i.length+j.length<=1000000)(q:Q (.str (i++j)) H):NV K (.str i) (.str j) H Q:=.inr (.inl ⟨i,j,rfl,rfl,A4 h (by decide),q⟩)
theorem ZW{K:W.Frag}{b:B5}{ys:List V}(ha:H a=some (.lst xs))(hb:H b=some (.lst ys))(h:xs.length+ys.length<=1000000)(q:∀p,H p=none->Q (.ref p) (upd H p (.lst (xs++ys)))):NV K (.ref a) (.ref b) H Q:=
 .inr (.inr (.inl ⟨a,b,xs,ys,rfl,rfl,ha,hb,A4 h (by decide),q⟩))
theorem aQ{K:W.Frag}{i:Int}{v:V}(h:H p=some (.lst xs))(e:FQ xs i=some v)(q:Q v H):gn K (.ref p) (.int i) H Q:=.inl ⟨p,xs,i,v,rfl,rfl,.inl (.inl h),e,q⟩
theorem gg{K:W.Frag}{i:Int}{v:V}(h:DO K H p xs)(e:FQ xs i=some v)(q:Q v H):gn K (.ref p) (.int i) H Q:=.inl ⟨p,xs,i,v,rfl,rfl,h,e,q⟩
theorem aP{K:W.Frag}{z:Str}{i:Int}{c:Nat}(h:z.length<=1000000)(e:FQ z.cps.toList i=some c)(q:Q (.str ⟨#[c]⟩) H):gn K (.str z) (.int i) H Q:=.inr (.inr ⟨z,i,c,rfl,rfl,A4 h (by decide),e,q⟩)
theorem jY:SU X (gn X.K):=jX
def Vq(K:W.Frag):V->Option Int->Option Int->Hp->VK->Prop:=fun x lo hi H Q=>ml x lo hi H Q\/mm K x lo hi H Q\/mj K x lo hi H Q
theorem gP:Ur X (Vq X.K):=gN.or (aI.or gM)
theorem aF{K:W.Frag}{z:Str}{lo hi:Option Int}(h:z.length<=1000000)(q:Q (.str (so z lo hi)) H):Vq K (.str z) lo hi H Q:=.inl ⟨z,rfl,A4 h (by decide),q⟩
theorem Vb{K:W.Frag}{lo hi:Option Int}(h:DO K H a xs)(q:∀p,H p=none->Q (.ref p) (upd H p (.lst (GT xs lo hi)))):Vq K (.ref a) lo hi H Q:=.inr (.inl ⟨a,xs,rfl,h,q⟩)
theorem aG{K:W.Frag}{lo hi:Option Int}(h:H a=some (.lst xs))(q:∀p,H p=none->Q (.ref p) (upd H p (.lst (GT xs lo hi)))):Vq K (.ref a) lo hi H Q:=Vb (.inl (.inl h)) q
theorem aK:KL X Vr:=set_list
def Su(K:W.Frag):List V->Hp->VK->Prop:=fun xs H Q=>∃x n,xs=[x]/\pS K x H n/\Q (.int n) H
theorem UU:BI X (.builtin "len") (Su X.K):=Ya
theorem Te{K:W.Frag}{z:Str}(h:z.length<=1000000)(q:Q (.int z.length) H):Su K [.str z] H Q:=⟨_,_,rfl,⟨A4 h (by decide),rfl⟩,q⟩
theorem Wz{K:W.Frag}(h:DO K H p xs)(q:Q (.int xs.length) H):Su K [.ref p] H Q:=⟨_,_,rfl,.inl ⟨xs,h,rfl⟩,q⟩
theorem bg{K:W.Frag}(h:H p=some (.lst xs))(q:Q (.int xs.length) H):Su K [.ref p] H Q:=Wz (.inl (.inl h)) q
abbrev qW(K:W.Frag)(tl:TE):TI:=fun σ H R=>tl σ H fun x H1=>∃a xs,x=.ref a/\((DO K H1 a xs/\R (pU K a) H1)\/(FL K H1 a xs/\R (pz K a) H1))
theorem iJ{tg l:Expr}{tl:TE}(hl:PE X l tl):PI X tg l (qW X.K tl):=by
 intro pins s σ H R I h;refine Ap (hl pins s σ H _ I h) fun v s1 ⟨x,H1,I1,r1,q1⟩=>?_
 obtain⟨a,xs,e,q⟩:=q1;subst e;cases r1;rcases q with⟨hq,q⟩ | ⟨hq,q⟩
 ·obtain⟨xJ,rv,p,hz⟩:=I1.list hq;refine X1 p.isList ?_;refine⟨s1.heap.objs.size,[s1.heap.objs.size],_,_,H1,rfl,I1.kept (t':=s1.toks) fun b o e=>A5 _ e,Sa a _,⟨_,C8 _ rfl,rfl,rfl⟩,fun b hb=>?_,q⟩;have e:b=s1.heap.objs.size:=by simpa using hb
  subst e;exact I1.xO (B7 _) (I1.xP.fresh (B7 _))
 ·obtain⟨xJ,rv,p,hz⟩:=I1.tuple hq;refine ur (show s1.heap.IsTuple a xJ.toArray from p) ?_;refine⟨s1.heap.objs.size,[s1.heap.objs.size],_,_,H1,rfl,I1.kept (t':=s1.toks) fun b o e=>A5 _ e,PC a _,⟨_,C8 _ rfl,rfl,rfl⟩,fun b hb=>?_,q⟩;have e:b=s1.heap.objs.size:=by simpa using hb
  subst e;exact I1.xO (B7 _) (I1.xP.fresh (B7 _))
end
theorem Cb(h:H p=none)(o:HO):Oq H (upd H p o):=fun b u q=>by rw[AG (Bp q h)];exact q
section
variable {X:Cx}
theorem qU(K:W.Frag)(h:X.K=K:=by rfl):SU X (gn K):=by subst h;exact jY
theorem US(K:W.Frag)(h:X.K=K:=by rfl):BI X (.builtin "len") (Su K):=by subst h;exact UU
theorem Wo(K:W.Frag)(h:X.K=K:=by rfl):fZ X "str.join" (Vt K):=by subst h;exact bY
def RN(K:W.Frag):List V->Hp->VK->Prop:=fun xs H Q=>∃p ys,xs=[.ref p]/\(DO K H p ys\/FL K H p ys)/\∀l,H l=none->Q (.ref l) (upd H l (.lst ys))
theorem Qc(K:W.Frag)(h:X.K=K:=by rfl):BI X (.type "list") (RN K):=by subst h;exact Me
def NS(K:W.Frag):List V->Hp->VK->Prop:=fun xs H Q=>∃p ys,xs=[.ref p]/\((DO K H p ys/\∀l,H l=none->Q (.ref l) (upd H l (.tup ys)))\/(FL K H p ys/\Q (.ref p) H))
theorem OW(K:W.Frag)(h:X.K=K:=by rfl):BI X (.type "tuple") (NS K):=by subst h;exact KD
end
noncomputable def tx(l:List Nat):Str:=⟨l.toArray⟩
theorem Qz(l:List Nat):(tx l).cps.toList=l:=by simp[tx]
theorem CU(l:List Nat):(tx l).length=l.length:=by simp[tx,Str.length]
theorem PB(a b:List Nat):tx a++tx b=tx (a++b):=by
 show(⟨(tx a).cps++(tx b).cps⟩:Str)=_;simp[tx]
theorem fu{a b:List Nat}(h:tx a=tx b):a=b:=by
 have:=congrArg (fun z:Str=>z.cps.toList) h;simpa[tx] using this
def QZ(l:List Nat)(lo hi:Option Int):List Nat:=(l.drop (HT.xX l.length 0 lo)).take (HT.xX l.length l.length hi - HT.xX l.length 0 lo)
theorem WL(l:List Nat)(a k:Nat)(h:a+k<=l.length):((B1 k).map fun j=>a+j).filterMap (fun i=>l[i]?)=(l.drop a).take k:=by
  apply vI;intro i
  by_cases hi:i < k
  · rw[p5 hi,List.getElem?_drop];have e:(wQ (fun j=>a+j) (B1 k)).filterMap (fun i=>l[i]?)=(B1 k).map fun j=>l[a+j]!:=by
      rw[j9];rw[show(fun i=>l[i]?)∘(fun j=>a+j)=fun j=>l[a+j]? from rfl];have:∀(r:List Nat),(∀j∈r,a+j < l.length)->r.filterMap (fun j=>l[a+j]?)=r.map fun j=>l[a+j]!:=by
        intro r
        induction r with
        | nil=>intro _;rfl
        | cons x r ih =>
          intro hx;have hxl:=hx x B2;rw[P9,A3 hxl,B6,ih fun j hj=>hx j (A7 _ hj)];simp[hxl]
      exact this _ fun j hj=>by have:=O2.mp hj;omega
    rw[e,C9,N9 hi];have hl:a+i < l.length:=by omega
    simp[hl]
  · have e1:(((B1 k).map fun j=>a+j).filterMap (fun i=>l[i]?)).length<=k:=A4 (List.length_filterMap_le _ _) (by simp);rw[O1 (by omega),O1 (by rw[S5];omega)]
theorem cl(i:Int)(n:Nat):max 0 (min (if i < 0 then i+(n:Int) else i) (n:Int))=(((if i < 0 then(i+(n:Int)).toNat else min i.toNat n):Nat):Int):=by
 by_cases h:i < 0
 ·simp only[h,if_true];omega
 ·simp only[h,if_false];omega
theorem Uz(l:List Nat)(lo hi:Option Int):so (tx l) lo hi=tx (QZ l lo hi):=by
 have hlen:(tx l).length=l.length:=CU l;have key:T9 lo hi 1 l.length=(B1 (HT.xX l.length l.length hi - HT.xX l.length 0 lo)).map fun j=>HT.xX l.length 0 lo+j:=by
  have zDu:T9 lo hi 1 l.length=sliceRange ((HT.xX l.length 0 lo:Nat):Int) ((HT.xX l.length l.length hi:Nat):Int) 1:=by
   unfold T9;rcases lo with _ | i<;>rcases hi with _ | j<;>simp only[show(1:Int) > 0 by decide,if_true,HT.xX,cl,Int.natCast_zero]<;>rfl
  rw[zDu];unfold sliceRange;simp only[show(1:Int) > 0 by decide,if_true];generalize HT.xX l.length 0 lo=a;generalize HT.xX l.length l.length hi=b;have FS:(if(a:Int) < (b:Int) then((b:Int) - (a:Int)+1 - 1) / 1 else 0).toNat=b - a:=by
   split<;>omega
  rw[FS];apply uV;intro j _;omega
 have hle:HT.xX l.length l.length hi<=l.length:=HT.zAm _ _ (B7 _) _;have hlo:HT.xX l.length 0 lo<=l.length:=HT.zAm _ _ (G5 _) _;unfold so;rw[hlen,key];unfold QZ;generalize HT.xX l.length 0 lo=a at *;generalize HT.xX l.length l.length hi=b at *;have e2:(wQ (fun j=>a+j) (B1 (b - a))).filterMap (fun i=>(tx l).cps[i]?)=(l.drop a).take (b - a):=by
  have e3:(fun i:Nat=>(tx l).cps[i]?)=fun i=>l[i]?:=by funext i;simp[tx]
  rw[e3]
  by_cases hab:a<=b
  ·exact WL l a (b - a) (by omega)
  ·have:b - a=0:=by omega
   rw[this];simp
 split
 ·rename_i hc;simp only[D5,U0,A2,beq_iff_eq] at hc;have h0:a=0:=by omega
  have h1:b=l.length:=by omega
  subst h0 h1;simp
 ·rw[e2];rfl
theorem zCH(a b:List Nat):yU (.str (tx a)) (.str (tx b))=decide (a=b):=by
 unfold yU
 by_cases h:a=b
 ·subst h;simp
 ·rw[decide_eq_false h];have:tx a≠tx b:=fun e=>h (fu e)
  simpa using this
section
variable {X:Cx}
def nA(K:W.Frag):List V->Hp->VK->Prop:=fun xs H Q=>∃x T t b,xs=[x,.ty T]/\yi K H x t/\W.kitOne K t (.type T)=some b/\Q (.bl b) H
theorem UV(K:W.Frag)(hK:X.K=K:=by rfl):BI X (.builtin "isinstance") (nA K):=by
 subst hK;intro pins s σ H xs us Q I r h;obtain⟨x,T,t,b,rfl,ty,e,q⟩:=h;obtain⟨u,v,rfl,ru,rv⟩:=r.two;cases rv;exact Ti I ru ty e fun tk=>⟨.bl b,H,I.tok tk,rfl,q⟩
theorem AF.get':∀{xs:List V} {us:List Value} {i:Nat} {u:Value},AF xs us->us[i]?=some u->∃x,xs[i]?=some x/\RelV x u
 | _,_,_,_,.nil,e=>by simp at e
 | _,_,0,_,.cons r _,e=>by simp at e;subst e;exact⟨_,rfl,r⟩
 | _,_,i+1,u,.cons _ t,e=>by
  obtain⟨x,h1,h2⟩:=AF.get' (i:=i) (u:=u) t (by simpa using e);exact⟨x,by simpa using h1,h2⟩
def nC(K:W.Frag):List V->Hp->VK->Prop:=fun xs H Q=>∃(p:B5) (bs:List Bool),xs=[.ref p]/\DO K H p (bs.map V.bl)/\Q (.bl (bs.all id)) H
theorem cu{bs:List Bool}{us:List Value}(r:AF (bs.map V.bl) us){i:Nat}{v:Value}(e:us[i]?=some v):∃b,bs[i]?=some b/\v=.bool b:=by
 obtain⟨x,e1,e2⟩:=r.get' e;rw[C9] at e1;cases q:bs[i]? with
 | none=>rw[q] at e1;cases e1
 | some b =>
  rw[q] at e1;have:V.bl b=x:=D0 e1;subst this;exact⟨b,rfl,e2⟩
theorem JB:∀bs:List Bool,((B1 bs.length).all fun i=>(bs[i]?).getD true)=bs.all id
 | []=>rfl
 | b::bs=>by
  rw[C6,T4,I9,we,I9];have ih:=JB bs;rw[<- ih];rfl
theorem iq{h h':G7}{o:Obj}(hk:∀b x,b∉[h.objs.size]->(h.push o).get? b=some x->h'.get? b=some x):∀b x,h.get? b=some x->h'.get? b=some x:=
 fun b x e=>hk b x (fun hm=>by rw[D2.mp hm] at e;exact R8 _ (D3 e)) (A5 _ e)
theorem UY(K:W.Frag)(hK:X.K=K:=by rfl)(hc:X.calm=true:=by rfl):BI X (.builtin "all") (nC K):=by
  subst hK;intro pins s σ H xs us Q I r h;obtain⟨p,bs,rfl,hp,q⟩:=h;obtain⟨u,rfl,rx⟩:=vals1 r;cases rx;obtain⟨xJ,rv,pl,hz⟩:=I.list hp;have hl:=pl.isList;have zG:p < s.heap.objs.size:=by obtain⟨_,e,_⟩:=hl;exact D3 e
  refine call_all_walk (X1 hl ?_);refine⟨s.heap.objs.size,[s.heap.objs.size,p],[s.heap.objs.size],xJ.toArray.size,_,_,fun i=>(bs[i]?).getD true,rfl,Walks.list (A:=X.A.in1) (I.ok.hd hc) _ p (E4 zG) xJ.toArray,
    ⟨⟨_,C8 _ rfl,rfl,rfl⟩,hl.push _⟩,fun i v s' Q' E' hP hQ=>?_,fun h' tk hk=>?_⟩
  · obtain⟨b,e,rfl⟩:=cu rv (i:=i) (v:=v) (by simpa using hP);simp only[e,vY] at hQ;exact K4 hQ
  · have e:((B1 xJ.toArray.size).all fun i=>(bs[i]?).getD true)=bs.all id:=by
      rw[A8,<- rv.length,D5];exact JB bs
    rw[e];exact⟨.bl _,H,I.kept (iq hk),rfl,q⟩
def mi(K:W.Frag):V->Option Int->Option Int->Hp->VK->Prop:=fun x lo hi H Q=>∃a xs,x=.ref a/\FL K H a xs/\(HT.xX xs.length 0 lo=0/\HT.xX xs.length xs.length hi=xs.length)/\Q (.ref a) H
theorem aH:Ur X (mi X.K):=by
 intro pins s σ H x v vl vu lo hi sl Q I rx hs pl pu h;obtain⟨a,xs,rfl,hx,hw,q⟩:=h;cases rx;obtain⟨xJ,r,ht,hz⟩:=I.tuple hx;have hlen:xJ.toArray.size=xs.length:=by rw[A8];exact r.length.symm
 refine⟨"tuple", _,E7.lookup,ht.typeIs,?_⟩
 obtain⟨os,hos,hcs,zx⟩:=id hs
 have hTs:s.TypeIs (.ref sl) "slice" := ⟨os,hos,hcs⟩
 unfold Y8
 try with_reducible refine L7 ?_
 first | refine A1 (A6 ?_) | skip
 refine A1 (o4 ht.typeIs (by decide) ?_)
 refine A1 (K7 (name:=U4 "__getitem__") ht.typeIs E7
  (K2 E7 ht.typeIs a9 ?_ (k4 _ _)))
 show C4 _ _ (Q6 (.ref a) >>= _) _ _ s;refine A1 (uZ ht ?_);refine A1 (W8 hTs ?_);rw[if_pos (by decide)];refine A1 (HT.x8 hs pl pu ?_);have zEB:((((HT.xX xJ.toArray.size 0 lo:Nat):Int) == 0 && (1:Int) == 1 && (HT.xX xJ.toArray.size xJ.toArray.size hi - HT.xX xJ.toArray.size 0 lo) == xJ.toArray.size)=true):=by
  rw[hlen,hw.1,hw.2];simp
 show C4 _ _ (if(((HT.xX xJ.toArray.size 0 lo:Nat):Int) == 0 && (1:Int) == 1 && (HT.xX xJ.toArray.size xJ.toArray.size hi - HT.xX xJ.toArray.size 0 lo) == xJ.toArray.size)=true then _ else _) _ _ s;rw[if_pos zEB];have fin:EP X pins σ Q (.ref a) s:=⟨.ref a,H,I,rfl,q⟩;refine A1 (m:=k9 (E3 a)) ?_;unfold k9;refine A1 (W8 ht.typeIs (A6 ?_));rw[if_pos (by decide)];exact A1 (Y0 (A6 ⟨_,rfl,A6 fin⟩))
end
section
variable {X:Cx} {pins:List (B5×Obj)} {σ:St} {H:Hp} {s:A9} {A:J5} {E:Value->A9->Prop} {Q:Value->A9->Prop} {b:Bool}
def rP(K:W.Frag):List V->Hp->VK->Prop:=fun xs H Q=>∃x p,∃(Ts:List String),∃t b,xs=[x,.ref p]/\FL K H p (Ts.map V.ty)/\yi K H x t/\(∃T,t=.type T/\T ≠ "float" /\ T ≠ "dict")/\W.kitAny K t (Ts.map M0)=some b/\Q (.bl b) H
end
end L2
namespace L2
open PySem PySem.Spec PyProof.Rows PySem.SeqAt
theorem Jx(l:B5)(items:Array Value)(n:Nat)(dd:Option B5)(sl:Array (Option Value))(x:Value)(e:Value->Bool)(j:Nat)(hj:j < items.size) 
    (hit:e items[j]=true) (hno:∀m (hm:m < items.size),m < j->e items[m]=false) :
    Meets (u0.«tuple.index» ⟨[.ref l,x],[]⟩)
      (fun A R s=>s.heap.get? l=some { cls:=.type "tuple", dict:=dd,data:=.seq items n,slots:=sl }/\(∀y,y∈items->EqAt A.in1 s y x (e y))/\R (.ok (.ret (.int j s.toks))) { s with toks:=s.toks+1 }):=
  .of_wp fun prog w A R s h=>by
    obtain⟨hp,g,d,tk,os⟩:=s;obtain⟨hl,he,h⟩:=h;have f2:=AutoSeq1.sub_tuple_tuple
    wp_walk using wpAny_loadPart' hl
    let f:Nat->(Option Fin×Unit)->Sem (ForInStep (Option Fin×Unit)):=fun i __s =>
            match items[i]? with
            | some y=>do
              let __do_lift <- eqBool y x
              if __do_lift=true then do
                  let __do_lift <- retInt ↑i
                  pure (ForInStep.done (some __do_lift,()))
                else pure (ForInStep.yield (none,()))
            | x=>pure (ForInStep.yield (none,()))
    have key:C4 (D6 prog w) A.in1 (forIn [:min items.size items.size] ((none,()):Option Fin×Unit) f) (fun a s' =>
      C4 (D6 prog w) A.in1
        (match a.fst with
        | some r=>pure r
        | none=>do
          rule "tuple.index.not-found"
          raiseErrorWords "ValueError" "tuple.index(x): x not in tuple")
        (fun fin s'=>∃v,fin=Fin.done (Flow.ret v)/\R (Except.ok (Flow.ret v)) s')
        (fun e s'=>R (wg e) s') s') (fun e s'=>R (wg e) s') { heap:=hp,gens:=g,drawn:=d,toks:=tk,os:=os }:=by
      rw[Std.Legacy.Range.forIn_eq_forIn_range'];simp only[Std.Legacy.Range.size,Nat.sub_zero,Nat.add_sub_cancel,Nat.div_one,tL];refine U3 _ (fun rest b s'=>b=(none,())/\s'=⟨hp,g,d,tk,os⟩/\∃i,rest=uG i (items.size - i)/\i<=j) _ ?_ ?_ _ _ ⟨rfl,rfl,0,by simp,G5 _⟩
      · rintro y rest b s' ⟨hb,rfl,i,hr,hi⟩;have zG:i < items.size:=by omega
        obtain⟨hy,zDO⟩:y=i/\rest=uG (i+1) (items.size - (i+1)):=by
          have e:items.size - i=(items.size - (i+1))+1:=by omega
          rw[e,vZ] at hr;injection hr with h1 h2
          exact⟨h1,h2⟩
        subst hy;show C4 _ _ (match items[y]? with
            | some z=>do
              let __do_lift <- eqBool z x
              if __do_lift=true then do
                  let __do_lift <- retInt ↑y
                  pure (ForInStep.done (some __do_lift,()))
                else pure (ForInStep.yield (none,()))
            | x=>pure (ForInStep.yield (none,()))) _ _ _
        rw[Array.getElem?_eq_getElem zG];refine A1 (he _ (Array.getElem_mem zG) prog w _ _ ?_)
        by_cases hyj:y=j
        · subst hyj;rw[hit]
          wp_walk
          exact⟨_,rfl,h⟩
        · rw[hno y zG (by omega)]
          wp_walk
          exact⟨rfl,rfl,y+1,zDO,by omega⟩
      · rintro b s' ⟨hb,rfl,i,hr,hi⟩;have:(uG i (items.size - i)).length=0:=by rw[<- hr];rfl
        rw[List.length_range'] at this;omega
    refine cast ?_ key;congr 1;funext a s';obtain⟨a1,a2⟩:=a;cases a1 with
    | none=>rfl
    | some r=>rfl
variable {H:Hp} {Q:VK}
section
variable {X:Cx}
def qI(r:V->List V->Hp->VK->Prop)(to:TE)(t:TA):TE:=fun σ H Q=>to σ H fun x H1=>(∃p xs,x=.ref p/\H1 p=some (.tup xs))/\t σ H1 fun xs H2=>r x xs H2 Q
theorem nQ{o e:Expr}{es:List Expr}{to:TE}{t:TA}{name:Str}{apos xx:Pos}{id:String}{r:V->List V->Hp->VK->Prop}(pa:tH "tuple")(slot:Slot "tuple" name id)(hty:wc (.builtin id)=pure (.type "method_descriptor"))(hm:Us X id r)(ho:PE X o to)(ha:PA X (e::es) t)
    (xn:N2 o name X.env (N1 o X.env)=N1 o X.env:=by rfl)
    (zBk:((O3 xx (D8 (e::es) X.env)).all (fun x=>!x.1) && (sZ xx (W0 [] X.env)).all (fun x=>x.1.isSome)
      && decide ((e::es).length+([]:List Z0).length+(if([]:List Z0).isEmpty then 0 else 1) < 30))=true:=by rfl)
    (xf:(apos.endLine == xx.line)=true:=by rfl) (hs:D8 (e::es) X.env=(false,N1 e X.env)::D8 es X.env:=by rfl) (zAp:(O3 xx (D8 es X.env)).any (·.1)=false:=by rfl) :
    PE X (.Call (.Attribute o name apos) (e::es) [] xx) (qI r to t):=by
  intro pins s σ H Q I h;refine tJ xn zBk xf rfl (Ap (ho pins s σ H _ I h) fun v s1 ⟨x,H1,I1,r1,ty,q1⟩=>?_);obtain⟨p,xs,rfl,hp⟩:=ty;cases r1;obtain⟨_,xJ,_,ob,h1,hc,hd,_⟩:=I1.xP p _ hp
  refine⟨"tuple", id,pa,slot,hty,⟨ob,h1,hc⟩,fun a e=>by cases e;exact⟨ob,h1,hd⟩,?_⟩
  have hA:=ha xx pins s1 σ H1 _ I1 q1;rw[hs] at hA ⊢;refine W9 (by show(false || (O3 xx (D8 es X.env)).any (·.1))=false;rw[zAp]<;>rfl) (uD ?_);exact Ap hA fun us s2 ⟨vs,H2,I2,r2,q2⟩=>hm pins s2 σ H2 (.ref p) vs (.ref p) us Q I2 rfl r2 q2
def dk(K:W.Frag):R2:=fun x y H Q=>∃a b ys,x=.ref a/\y=.ref b/\FL K H a []/\FL K H b ys/\Q (.ref b) H
theorem bP:Ct X (binaryOp .Add) (dk X.K):=by
  intro pins s σ H x y v u Q I rx ry h;obtain⟨a,b,ys,rfl,rfl,ha,hb,q⟩:=h;cases rx;cases ry;obtain⟨xJ,r1,p1,_⟩:=I.tuple ha;obtain⟨xU,r2,p2,_⟩:=I.tuple hb;cases r1;obtain⟨⟨cls,dd,data,sl⟩,ho,hc,n,hd⟩:=id p1;obtain⟨⟨zET,dd2,data2,sl2⟩,ho2,hc2,n2,eX⟩:=id p2;simp only at hc hd hc2 eX;subst hc hd hc2 eX;exact vE ⟨_,ho,rfl⟩ ⟨_,ho2,rfl⟩ sg uY W7 W2 (V1 _ _)
      (tuple_addW0 a b _ xU.toArray n n2 dd dd2 sl sl2 (by simp)) ⟨ho,ho2,⟨.ref b,H,I,rfl,q⟩⟩
def NU(K:W.Frag):R2:=fun x y H Q=>NV K x y H Q\/dk K x y H Q
theorem bQ(K:W.Frag)(h:X.K=K:=by rfl):Ct X (binaryOp .Add) (NU K):=by subst h;exact bR.or bP
theorem ZU{K:W.Frag}{i j:Int}(q:Q (.int (i+j)) H):NU K (.int i) (.int j) H Q:=.inl (ZX q)
theorem ZS{K:W.Frag}{i j:Str}(h:i.length+j.length<=1000000)(q:Q (.str (i++j)) H):NU K (.str i) (.str j) H Q:=.inl (ZV h q)
theorem ZT{K:W.Frag}{a b:B5}{xs ys:List V}(ha:H a=some (.lst xs))(hb:H b=some (.lst ys))(h:xs.length+ys.length<=1000000)(q:∀p,H p=none->Q (.ref p) (upd H p (.lst (xs++ys)))):NU K (.ref a) (.ref b) H Q:=.inl (ZW ha hb h q)
def Sr(K:W.Frag):V->Option Int->Option Int->Hp->VK->Prop:=fun x lo hi H Q=>Vq K x lo hi H Q\/mi K x lo hi H Q
theorem qL(K:W.Frag)(h:X.K=K:=by rfl):Ur X (Sr K):=by subst h;exact gP.or aH
theorem aC{K:W.Frag}{z:Str}{lo hi:Option Int}(h:z.length<=1000000)(q:Q (.str (so z lo hi)) H):Sr K (.str z) lo hi H Q:=.inl (aF h q)
theorem gL{K:W.Frag}{a:B5}{xs:List V}{lo hi:Option Int}(h:DO K H a xs)(q:∀p,H p=none->Q (.ref p) (upd H p (.lst (GT xs lo hi)))):Sr K (.ref a) lo hi H Q:=.inl (Vb h q)
theorem aD{K:W.Frag}{a:B5}{xs:List V}{lo hi:Option Int}(h:H a=some (.lst xs))(q:∀p,H p=none->Q (.ref p) (upd H p (.lst (GT xs lo hi)))):Sr K (.ref a) lo hi H Q:=.inl (aG h q)
def Vp:V->List V->Hp->VK->Prop:=fun x vs H Q=>∃l,x=.str (tx l)/\vs=[]/\(∀c∈l,c < 128)/\l.length<=1000000/\Q (.str (tx (l.map up1))) H
theorem Wm:fZ X "str.upper" Vp:=by
 intro pins s σ H x vs v us Q I rx rv h;obtain⟨l,rfl,rfl,hA,hz,q⟩:=h;obtain⟨t,rfl⟩:=rx;cases rv.zero;have e:Txt.upper (tx l)=tx (l.map up1):=by
  rw[upper_ascii (by rw[Qz];exact hA)];simp[tx]
 refine SC.upper (by rw[e,CU,D5];exact decide_eq_false (by have:sizeLine=16777216:=S9;omega)) ⟨.str (tx (l.map up1)),H,I.tok _,⟨_,by rw[e]⟩,q⟩
end
end L2
namespace L2
open PySem PySem.Spec PyProof.Rows
variable {items:Array Value}
section
variable {prog:F8} {w:J0} {A:J5} {E:Value->A9->Prop}
theorem LH{it t:B5}(hne:t≠it):∀(n i:Nat) (s:A9) (Q:List Value->A9->Prop),s.heap.IsListIter it t i->s.heap.IsList t items->i+n<=items.size ->
    (∀h',h'.IsListIter it t (i+n)->Q0 it s.heap h'->Q ((items.toList.drop i).take n) { s with heap:=h' })->C4 (D6 prog w) A (draw (.ref it) n) Q E s
  | 0,i,s,Q,hit,_,_,hQ=>by
    show C4 _ _ (pure []) Q E s;exact A6 (by simpa using hQ s.heap hit (xF ..))
  | n+1,i,s,Q,hit,ht,hle,hQ=>by
    have zG:i < items.size:=by omega
    show C4 _ _ (ug (.ref it) >>= _) Q E s;refine A1 (tD hit ht (x:=items[i]) (by simp[zG]) fun h₁ zAq yZ=>?_);refine A1 (L7 (LH hne n (i+1) _ _ zAq (ht.extBut yZ.extBut hne) (by omega) fun zAM zCp ze=>A6 ?_));have hd:items.toList.drop i=items[i]::items.toList.drop (i+1):=by simp[U6,zG]
    have:=hQ zAM (by rw[show i+(n+1)=i+1+n by omega];exact zCp) (yZ.trans ze);rw[hd,List.take_succ_cons] at this;exact this
theorem Gd{s:A9}{t:B5}{Q:List Value->A9->Prop}(hh:A.handled=none)(ht:s.heap.IsList t items)
    (hQ:∀h',vp s.heap.objs.size s.heap h'->Q items.toList { s with heap:=h' }):C4 (D6 prog w) A (vn (.ref t) items.size none) Q E s:=by
  have zG:t≠s.heap.objs.size:=by obtain⟨o,ho,_⟩:=ht;exact E4 (D3 ho)
  unfold vn;refine A1 ?_
  · unfold notIterableAtAll;refine A1 (R4 ht.typeIs PySem.slot_list_iter.lookup ?_);refine A6 ?_;simp only[B0,if_false];refine A1 (L7 (X1 ht ?_));refine A1 (L7 (LH zG items.size 0 _ _ ⟨_,C8 _ rfl,rfl,rfl⟩ (ht.push _) (by omega) fun h₁ zAq yZ=>?_));have zBN:List.take items.size (List.drop 0 items.toList)=items.toList:=by
      rw[List.drop_zero];exact List.take_of_length_le (by simp)
    rw[zBN];rw[if_neg (by simp)];have zDL:h₁.IsList t items:=(ht.push _).extBut yZ.extBut zG;refine A1 (L7 (tY hh zAq zDL (by simp) fun zAM zDU=>?_));simp only[Option.isSome_none,B0,if_false];refine A6 (hQ zAM fun b o hb e=>zDU b o hb (yZ.extBut b o hb (A5 _ e)))
theorem NB{s:A9}{t:B5}{targets:List (Bool×(Value->Sem Unit))}{Q:Unit->A9->Prop}(hh:A.handled=none)(ht:s.heap.IsList t items)
    (hn:targets.length=items.size) (zDN:targets.findIdx? (·.1)=none)
    (h:∀h',vp s.heap.objs.size s.heap h'->C4 (D6 prog w) A (p0 (targets.map (·.2)) items.toList) Q E { s with heap:=h' }) :
    C4 (D6 prog w) A (unpack (.ref t) targets) Q E s:=by
  unfold unpack;rw[hn,zDN];exact A1 (L7 (Gd hh ht h))
end
section
variable {X:Cx}
abbrev jh(n:Nat)(t:Ms):TG:=fun v σ H Q=>∃a xs,v=.ref a/\H a=some (.lst xs)/\xs.length=n/\t xs σ H Q
theorem WN{es:List Expr}{k:Nat}{t:Ms}{n:Nat}{pos:Pos}(hc:X.calm=true)(h:lR X es t)
    (hn:(M7 es X.env).length=n:=by rfl) (hst:(M7 es X.env).findIdx? (·.1)=none:=by rfl):PG X (.Tuple es k pos) (jh n t):=by
  intro pins s σ H v u Q I r hw;obtain⟨a,xs,e1,hq,hl,hw⟩:=hw;subst e1;cases r;obtain⟨xJ,rv,ht,hz⟩:=I.list (.inl (.inl hq));rw[assign_Tuple];refine A1 (Y6 (NB (I.ok.hd hc) ht.isList (by simp[hn,<- hl,rv.length]) hst fun h' hx=>?_));have I1:Inv X pins σ H { s with heap:=h' }:=I.kept (t':=s.toks) fun b o e=>hx b o (E4 (D3 e)) e
  exact h pins _ σ H xs _ Q I1 (by simpa using rv) hw
theorem Rr{n:Nat}{js:List Nat}{u:Ms}(hu:Os js u):y0 js (jh n u):=by
 rintro x σ H Q ⟨a,xs,e,hq,hl,q⟩;exact⟨a,xs,e,hq,hl,hu _ _ _ _ q⟩
end
end L2
namespace L2
open PySem PySem.Spec PyProof.Rows PySem.SeqAt
end L2
namespace L2
open PySem PySem.Spec PyProof.Rows
end L2
namespace L2
open PySem PySem.Spec PyProof.Rows PySem.SeqAt
end L2
namespace L2
open PySem PySem.Spec PyProof.Rows
section
variable {X:Cx} {e:Expr} {te:TE} {p1 p2 zBZ xw:Pos}
theorem IS:∀{xs:List V} {us:List Value},AF xs us->AF xs.reverse us.reverse
 | _,_,.nil=>.nil
 | _,_,.cons (a:=x) (b:=u) (l₁:=xs) (l₂:=us) r t=>by
  rw[o7,o7];exact AF.append (IS t) (.cons r .nil)
end
section
variable {X:Cx} {pins:List (B5×Obj)} {σ:St} {H:Hp} {s:A9} {h':G7}
theorem Inv.zAt{t':Nat}{ch:List B5}(I:Inv X pins σ H s)(k:∀b o,b∉ch->s.heap.get? b=some o->h'.get? b=some o)(hf:∀b∈ch,xS X pins H b):Inv X pins σ H { s with heap:=h',toks:=t' }:=by
 have nit:∀b u,H b=some u->b∉ch:=fun b u e z=>by have:=(hf b z).1;rw[e] at this;cases this
 refine I.step (g':=s.gens) (d':=s.drawn) (ch:=ch) (fun b hb=>?_) (fun b o _ _ hc e _=>k b o hc e) (fun b o _ _ hc e _=>⟨o.slots,k b o hc e⟩) (fun _ _ _ _ n=>n)
  (fun b o hc e=>⟨o,k b o hc e⟩) (fun _ _ e=>e) (fun _ _ _ e=>e) (fun b ps e=>⟨#[],by rw[e];simp⟩) (fun m hm=>?_) (fun b u e=>?_) I.bare
 ·obtain⟨f0,f1,f2,f3,f4,f5⟩:=hf b hb;exact⟨f3,f1,f4,f5⟩
 ·obtain⟨o,es,ep,ho,r⟩:=hm;exact⟨o,es,ep,k _ o (fun z=>(hf _ z).2.1 rfl) ho,r⟩
 ·refine(I.xP b u e).zAk (fun c v hc q=>k c v ?_ q) (fun _ q=>q) fun _ _ q=>q
  rcases hc with z | z
  ·rw[z];exact nit b u e
  ·exact nit c _ z
end
variable {y:V} {u:Value}
section
variable {κ:Type} [DecidableEq κ]
noncomputable def Cu(xK:List (κ×V))(k:κ):Option V:=(xK.find? fun kv=>decide (kv.1=k)).map (·.2)
noncomputable def DJ(xK:List (κ×V))(k:κ)(v:V):List (κ×V):=
 if(xK.any fun kv=>decide (kv.1=k))=true then xK.map (fun kv=>if kv.1=k then(kv.1,v) else kv) else xK++[(k,v)]
theorem DR{p:κ×V}{r:List (κ×V)}{k:κ}(e:p.1=k):Cu (p::r) k=some p.2:=by simp[Cu,P8,e]
theorem DS{p:κ×V}{r:List (κ×V)}{k:κ}(e:¬p.1=k):Cu (p::r) k=Cu r k:=by simp[Cu,P8,e]
theorem IT(k:κ):∀xK:List (κ×V),(xK.any fun kv=>decide (kv.1=k))=(Cu xK k).isSome
 | []=>rfl
 | p::r=>by
  rw[Q5]
  by_cases e:p.1=k
  ·simp only[DR e,decide_eq_true e,tM,k8]
  ·rw[DS e,decide_eq_false e,Bool.false_or];exact IT k r
theorem EY(xK:List (κ×V))(k:κ)(v:V):(DJ xK k v).length<=xK.length+1:=by
 unfold DJ;split
 ·rw[D5];omega
 ·rw[C5,C6,M5];omega
theorem ED.xc{o:Option V}{u:Option Value}(r:ED o u):o.isSome=u.isSome:=by
 cases o with
 | none=>cases u with
  | none=>rfl
  | some _=>exact(show False from r).elim
 | some _=>cases u with
  | none=>exact(show False from r).elim
  | some _=>rfl
theorem KV.val{xK:List (κ×V)}{vs:List (κ×Value)}(r:KV xK vs)(k:κ):ED (Cu xK k) (uU vs k):=by
 unfold KV at r
 induction r with
 | nil=>exact True.intro
 | @cons p q ps qs h t ih =>
  obtain⟨h1,h2⟩:=h
  by_cases e:p.1=k
  ·have e':q.1=k:=h1.symm.trans e;have b:uU (q::qs) k=some q.2:=by simp[uU,P8,e']
   rw[DR e,b];exact h2
  ·have e':¬q.1=k:=fun z=>e (h1.trans z)
   have b:uU (q::qs) k=uU qs k:=by simp[uU,P8,e']
   rw[DS e,b];exact ih
theorem KV.any{xK:List (κ×V)}{vs:List (κ×Value)}(r:KV xK vs)(k:κ):(xK.any fun kv=>decide (kv.1=k))=vs.any fun kv=>decide (kv.1=k):=by
 unfold KV at r
 induction r with
 | nil=>rfl
 | cons h t ih=>rw[Q5,Q5,ih,h.1]
theorem KV.zBX{xK:List (κ×V)}{vs:List (κ×Value)}(r:KV xK vs)(k:κ)(ry:RelV y u) :
    KV (xK.map fun kv=>if kv.1=k then(kv.1,y) else kv) (vs.map fun kv=>if kv.1=k then(kv.1,u) else kv):=by
  unfold KV at r ⊢
  induction r with
  | nil=>exact .nil
  | @cons p q ps qs h t ih =>
    rw[B6,B6];refine .cons ?_ ih;obtain⟨h1,h2⟩:=h
    by_cases e:p.1=k
    · rw[if_pos e,if_pos (h1.symm.trans e)];exact⟨h1,ry⟩
    · rw[if_neg e,if_neg (fun z=>e (h1.trans z))];exact⟨h1,h2⟩
theorem KV.put{xK:List (κ×V)}{vs:List (κ×Value)}(r:KV xK vs)(k:κ)(ry:RelV y u):KV (DJ xK k y) (stored vs k u):=by
 unfold DJ stored;rw[r.any k]
 by_cases e:(vs.any fun kv=>decide (kv.1=k))=true
 ·rw[if_pos e,if_pos e];exact r.zBX k ry
 ·rw[if_neg e,if_neg e];exact Paired.snoc r ⟨rfl,ry⟩
theorem KV.length{xK:List (κ×V)}{vs:List (κ×Value)}(r:KV xK vs):xK.length=vs.length:=Paired.length r
end
theorem Ky{P:F8}{w:J0}{k:Ak}(r:RelV (kV k) u):(AW P w).is k u=true:=by
 cases k with
 | inl i=>obtain⟨t,e⟩:=(show ∃t,u=uP i t from r);subst e;exact Nn P w i t
 | inr x=>obtain⟨t,e⟩:=(show ∃t,u=uQ x t from r);subst e;exact Nl P w x t
theorem Kz{P:F8}{w:J0}:∀{ks:List Ak} {us:List Value},AF (ks.map kV) us->ItemsAre (AW P w) ks us
 | [],_,r=>by rw[T3] at r;cases r;exact .nil
 | k::ks,_,r=>by
  rw[B6] at r;cases r with
  | cons h t=>exact .cons (Ky h) (Kz t)
abbrev KT(H:Hp):List (List Ak×V)->List (List Ak×B5×Value)->Prop:=Paired fun p q=>p.1=q.1/\H q.2.1=some (.tup (p.1.map kV))/\RelV p.2 q.2.2
variable {H:Hp} {xK:List (List Ak×V)} {xs:List (List Ak×B5×Value)}
theorem KT.val(r:KT H xK xs)(k:List Ak):ED (Cu xK k) ((Z2 xs k).map (·.2)):=by
 induction r with
 | nil=>exact True.intro
 | @cons p q ps qs h t ih =>
  obtain⟨h1,_,h2⟩:=h
  by_cases e:p.1=k
  ·have e':q.1=k:=h1.symm.trans e;have b:Z2 (q::qs) k=some q.2:=by simp[Z2,P8,e']
   rw[DR e,b];exact h2
  ·have e':¬q.1=k:=fun z=>e (h1.trans z)
   have b:Z2 (q::qs) k=Z2 qs k:=by simp[Z2,P8,e']
   rw[DS e,b];exact ih
theorem KT.zBX(r:KT H xK xs)(k:List Ak)(ry:RelV y u) :
    KT H (xK.map fun kv=>if kv.1=k then(kv.1,y) else kv) (xs.map (putAt k u)):=by
  induction r with
  | nil=>exact .nil
  | @cons p q ps qs h t ih =>
    rw[B6,B6];refine .cons ?_ ih;obtain⟨h1,h2,h3⟩:=h;unfold putAt
    by_cases e:p.1=k
    · rw[if_pos e,if_pos (h1.symm.trans e)];exact⟨h1,h2,ry⟩
    · rw[if_neg e,if_neg (fun z=>e (h1.trans z))];exact⟨h1,h2,h3⟩
variable {b:B5}
theorem KT.put(r:KT H xK xs)(k:List Ak)(hb:H b=some (.tup (k.map kV)))(ry:RelV y u) :
    KT H (DJ xK k y) (wj xs k b u):=by
  have e:(xK.any fun kv=>decide (kv.1=k))=(Z2 xs k).isSome:=by
    rw[IT,(r.val k).xc,R7]
  unfold DJ wj;rw[e]
  by_cases q:(Z2 xs k).isSome=true
  · rw[if_pos q,if_pos q];exact r.zBX k ry
  · rw[if_neg q,if_neg q];exact Paired.snoc r ⟨rfl,hb,ry⟩
theorem KT.keeps{H':Hp}(r:KT H xK xs)(ht:∀b ys,H b=some (.tup ys)->H' b=some (.tup ys)):KT H' xK xs:=
 Paired.zBa r fun _ _ z=>⟨z.1,ht _ _ z.2.1,z.2.2⟩
section
variable {P:F8} {w:J0} {H:Hp} {h:G7} {a:B5}
theorem dg{u:HO}(ok:FM P w H h)(e:Rd H a u):Ae P w H h a u:=e.ok ok
theorem LJ{xK:List (Ak×V)}(ok:FM P w H h)(e:Rd H a (.dK xK)):xK.length<=sizeLine/\(a == Q7)=false/\∃vs,KV xK vs/\h.DictOf (AW P w) a vs:=
 show Ae P w H h a (.dK xK) from dg ok e
theorem YH{xK:List (Ak×V)}(ok:FM P w H h)(e:H a=some (.dK xK)):xK.length<=sizeLine/\(a == Q7)=false/\∃vs,KV xK vs/\h.DictOf (AW P w) a vs:=LJ ok (.inl e)
theorem HP{ks:List Ak}(ok:FM P w H h)(e:H a=some (.tup (ks.map kV))):(uR (AW P w)).is h ks a:=by
 obtain⟨_,xJ,r,o,h1,h2,_,n,h3⟩:=(show Ae P w H h a (.tup (ks.map kV)) from ok a _ e);exact⟨o,xJ.toArray,n,h1,h2,h3,by simpa using Kz r⟩
theorem OJ(ok:FM P w H h)(e:Rd H a (.dT xK)):xK.length<=sizeLine/\(a == Q7)=false /\
    ∃xs,KT H xK xs/\h.DictOfH (uR (AW P w)) a xs:=by
  obtain⟨z,y,xs,r,o,es,ep,h1,h2,h3,h4,h5⟩:=(show Ae P w H h a (.dT xK) from dg ok e);refine⟨z,y,xs,r,o,es,ep,h1,h2,h3,h4,fun x hx=>?_,h5⟩;have all:∀{l:List (List Ak×V)} {m:List (List Ak×B5×Value)},KT H l m->∀x∈m,(uR (AW P w)).is h x.1 x.2.1:=by
    intro l m q
    induction q with
    | nil=>intro x hx;exact nomatch hx
    | @cons p q ps qs hq t ih =>
      intro x hx;rcases B9.mp hx with e | hx
      · subst e;exact HP ok (by rw[<- hq.1];exact hq.2.1)
      · exact ih x hx
  exact all r x hx
theorem fK(ok:FM P w H h)(e:H a=some (.dT xK)):xK.length<=sizeLine/\(a == Q7)=false /\
    ∃xs,KT H xK xs/\h.DictOfH (uR (AW P w)) a xs:=OJ ok (.inl e)
end
def GZ(H:Hp)(a:B5)(y:V)(r:Option V):Prop:=
 (∃xK k,Rd H a (.dK xK)/\y=kV k/\r=Cu xK k)\/∃xK k b,Rd H a (.dT xK)/\y=.ref b/\H b=some (.tup (k.map kV))/\r=Cu xK k
def Ot(H:Hp)(a:B5)(y v:V)(H':Hp):Prop:=
 (∃xK k,H a=some (.dK xK)/\y=kV k/\xK.length < sizeLine/\H'=upd H a (.dK (DJ xK k v))) \/
 ∃xK k b,H a=some (.dT xK)/\y=.ref b/\H b=some (.tup (k.map kV))/\xK.length < sizeLine/\H'=upd H a (.dT (DJ xK k v))
variable {a:B5}
theorem GZ.k{xK:List (Ak×V)}{k:Ak}(e:H a=some (.dK xK)):GZ H a (kV k) (Cu xK k):=.inl ⟨xK,k,.inl e,rfl,rfl⟩
theorem GZ.t{k:List Ak}(e:H a=some (.dT xK))(eb:H b=some (.tup (k.map kV))):GZ H a (.ref b) (Cu xK k):=.inr ⟨xK,k,b,.inl e,rfl,eb,rfl⟩
theorem Ot.k{xK:List (Ak×V)}{k:Ak}{v:V}(e:H a=some (.dK xK))(hl:xK.length < sizeLine):Ot H a (kV k) v (upd H a (.dK (DJ xK k v))):=.inl ⟨xK,k,e,rfl,hl,rfl⟩
theorem Ot.t{k:List Ak}{v:V}(e:H a=some (.dT xK))(eb:H b=some (.tup (k.map kV)))(hl:xK.length < sizeLine) :
    Ot H a (.ref b) v (upd H a (.dT (DJ xK k v))):=.inr ⟨xK,k,b,e,rfl,eb,hl,rfl⟩
variable {Q:Value->A9->Prop}
section
variable {X:Cx} {pins:List (B5×Obj)} {σ:St} {H:Hp} {s:A9} {a:B5} {y v:V} {u r:Value} {o:Option V} {A:J5} {E:Value->A9->Prop}
theorem Inv.big(I:Inv X pins σ H s):Q7 < s.heap.objs.size:=by
 have h:K9 < s.heap.objs.size:=(I.mod.glob.keeps I.bk).lt;exact Nat.lt_trans (by decide) h
theorem UF(hu:A.units+1 < K6)(I:Inv X pins σ H s)(g:GZ H a y (some v))(ry:RelV y u)(h:∀w' s',Inv X pins σ H s'->RelV v w'->Q w' s') :
    C4 (D6 X.prog X.w) A (Y8 (.ref a) u) Q E s:=by
  rcases g with⟨xK,k,e,ey,l⟩ | ⟨xK,k,b,e,ey,eb,l⟩
  · subst ey;obtain⟨z,hd,vs,rel,dd⟩:=LJ I.xP e;obtain⟨w',hw,yH⟩:=ED.some_of (v:=v) (o:=uU vs k) (by rw[l];exact rel.val k);exact wpAny_getItem_of (Ky ry) dd.mapOf hw (h w' _ (I.tok _) yH)
  · subst ey;cases(show u=E3 b from ry);obtain⟨z,hd,xs,rel,dd⟩:=OJ I.xP e;obtain⟨w',hw,yH⟩:=ED.some_of (v:=v) (o:=(Z2 xs k).map (·.2)) (by rw[l];exact rel.val k);obtain⟨p,hp,hp2⟩:=E6.mp hw;refine uu (V6 hu) (HP I.xP eb) dd hp ?_;rw[hp2];exact h w' _ (I.tok _) yH
theorem om(hu:A.units+1 < K6)(I:Inv X pins σ H s)(g:GZ H a y o)(ry:RelV y u)(h:∀s',Inv X pins σ H s'->Q (.bool o.isSome) s') :
    C4 (D6 X.prog X.w) A (G4 .In u (.ref a)) Q E s:=by
  rcases g with⟨xK,k,e,ey,l⟩ | ⟨xK,k,b,e,ey,eb,l⟩
  · subst ey;obtain⟨z,hd,vs,rel,dd⟩:=LJ I.xP e;refine wpAny_in_of (Ky ry) hd dd.mapOf ?_;rw[<- (rel.val k).xc,<- l];exact h _ (I.tok _)
  · subst ey;cases(show u=E3 b from ry);obtain⟨z,hd,xs,rel,dd⟩:=OJ I.xP e;refine wpAny_in_heap (V6 hu) (HP I.xP eb) hd dd ?_;have q:=(rel.val k).xc;rw[R7] at q;rw[<- q,<- l];exact h _ (I.tok _)
theorem SD(hu:A.units+1 < K6)(I:Inv X pins σ H s)(g:GZ H a y o)(ry:RelV y u)(h:∀s',Inv X pins σ H s'->Q (.bool (!o.isSome)) s') :
    C4 (D6 X.prog X.w) A (G4 .NotIn u (.ref a)) Q E s:=by
  rcases g with⟨xK,k,e,ey,l⟩ | ⟨xK,k,b,e,ey,eb,l⟩
  · subst ey;obtain⟨z,hd,vs,rel,dd⟩:=LJ I.xP e;refine wpAny_notIn_of (Ky ry) hd dd.mapOf ?_;rw[<- (rel.val k).xc,<- l];exact h _ (I.tok _)
  · subst ey;cases(show u=E3 b from ry);obtain⟨z,hd,xs,rel,dd⟩:=OJ I.xP e;refine va (V6 hu) (HP I.xP eb) hd dd ?_;have q:=(rel.val k).xc;rw[R7] at q;rw[<- q,<- l];exact h _ (I.tok _)
theorem Dt{h':G7}{t':Nat}{ob:HO}(I:Inv X pins σ H s)(mu:lj (H a))(hs:Q0 a s.heap h')(he:∃q,h'.get? a=some q)(new:Ae X.prog X.w (upd H a ob) h' a ob) :
    Inv X pins σ (upd H a ob) { s with heap:=h',toks:=t' }:=
  I.write (x:=a) (e:=a) mu (.inl rfl) (fun b q hb z=>(hs.2 b hb).trans z) he new
theorem kT{P:F8}{w:J0}{H':Hp}{h':G7}{xK:List (Ak×V)}{vs:List (Ak×Value)}(z:xK.length<=sizeLine)(hd:(a == Q7)=false)(rel:KV xK vs)(dd:h'.DictOf (AW P w) a vs) :
    Ae P w H' h' a (.dK xK):=⟨z,hd,vs,rel,dd⟩
theorem LK{H':Hp}{Q:Unit->A9->Prop}(hu:A.units+1 < K6)(I:Inv X pins σ H s)(g:Ot H a y v H')(ry:RelV y u)(rv:RelV v r)(h:∀s',Inv X pins σ H' s'->Q () s') :
    C4 (D6 X.prog X.w) A (wC (.ref a) u r) Q E s:=by
  rcases g with⟨xK,k,e,ey,l,eH⟩ | ⟨xK,k,b,e,ey,eb,l,eH⟩
  · subst ey eH;obtain⟨z,hd,vs,rel,dd⟩:=YH I.xP e;have hz:vs.length<=sizeLine:=by rw[<- rel.length];exact z
    have hl:(DJ xK k v).length<=sizeLine:=by have:=EY xK k v;omega
    refine wpAny_setItem_pairs (hsz:=hz) (Ky ry) dd fun h' dd' hs=>h _ ?_
    have he:∃q,h'.get? a=some q:=let ⟨q,_,_,hq,_⟩:=dd';⟨q,hq⟩;exact Dt I (by rw[e];exact True.intro) hs he (kT hl hd (rel.put k rv) dd')
  · subst ey eH;cases(show u=E3 b from ry);obtain⟨z,hd,xs,rel,dd⟩:=fK I.xP e;have hz:xs.length<=sizeLine:=by rw[<- Paired.length rel];exact z
    have hl:(DJ xK k v).length<=sizeLine:=by have:=EY xK k v;omega
    refine uv (hsz:=hz) (V6 hu) (HP I.xP eb) dd fun h' dd' hs=>h _ ?_
    obtain⟨q,es,ep,hq,h2,h3,h4,_,h5⟩:=dd';refine Dt I (by rw[e];exact True.intro) hs ⟨q,hq⟩ ⟨hl,hd,_,(rel.put k eb rv).keeps fun c ys ec=>?_,q,es,ep,hq,h2,h3,h4,h5⟩;rw[AG (eJ ec e (fun z=>nomatch z))];exact ec
end
section
variable {X:Cx} {pins:List (B5×Obj)} {σ:St} {H:Hp} {s:A9} {a:B5} {xK:List (Ak×V)} {k:Ak} {u:Value} {A:J5} {E:Value->A9->Prop}
theorem oj(I:Inv X pins σ H s)(e:Rd H a (.dK xK))(h:∀t s',Inv X pins σ H s'->Q (.int xK.length t) s'):C4 (D6 X.prog X.w) A (call (.builtin "len") [.ref a]) Q E s:=by
 obtain⟨z,hd,vs,rel,dd⟩:=LJ I.xP e;refine call_len_dict hd dd (by rw[<- rel.length];rw[S9] at z;omega) ?_;rw[<- rel.length];exact h _ _ (I.tok _)
end
theorem OK{X:Cx}{pins:List (B5×Obj)}{σ:St}{s:A9}{o:Option V}(I:Inv X pins σ H s)(g:GZ H a y o):s.TypeIs (.ref a) "dict" := by
 rcases g with⟨xK,k,e,_,_⟩ | ⟨xK,k,b,e,_,_,_⟩
 ·obtain⟨_,_,vs,_,dd⟩:=LJ I.xP e;exact dd.typeIs
 ·obtain⟨_,_,xs,_,dd⟩:=OJ I.xP e;exact dd.typeIs
theorem YI{P:F8}{w:J0}(h:G7)(hb:Q7 < h.objs.size):Ae P w H (h.push { cls:=.type "dict", data:=.dict #[] }) h.objs.size (.dK []):=
 ⟨G5 _,beq_eq_false_iff_ne.mpr (Ne.symm (E4 hb)),[],.nil,xH h⟩
abbrev gI:TE:=fun _ H Q=>∀p,H p=none->Q (.ref p) (upd H p (.dK []))
section
variable {X:Cx} {pos:Pos}
theorem WU:PE X (.Dict [] [] pos) gI:=fun pins s σ H Q I h =>
 wpAny_Dict_empty ⟨.ref s.heap.objs.size,_,I.laid (a:=s.heap.objs.size) (o:=.dK []) (t':=s.toks) (fun _ _ q=>A5 _ q) (B7 _) (YI s.heap I.big),rfl,h _ (I.xP.fresh (B7 _))⟩
end
section
variable {X:Cx}
theorem UT:BI X (.builtin "len") (fun xs H Q=>∃a xK,xs=[V.ref a]/\H a=some (.dK xK)/\Q (.int xK.length) H):=by
 intro pins s σ H xs us Q I r h;obtain⟨a,xK,rfl,ha,q⟩:=h;obtain⟨u,rfl,ru⟩:=vals1 r;cases ru;exact oj I (.inl ha) fun t s' I'=>⟨.int xK.length,H,I',⟨t,rfl⟩,q⟩
end
noncomputable def jn(sep:List Nat):List (List Nat)->List Nat
 | []=>[]
 | x::ys=>x++(ys.flatMap fun y=>sep++y)
theorem lq(sep:List Nat):∀ys:List (List Nat),wz (tx sep) (ys.map tx)=tx (jn sep ys):=by
 intro ys;have h:wz (tx sep) (ys.map tx)=wR (tx sep) (ys.map tx):=by simpa using join_plain_closes (tx sep) (ys.map tx)
 rw[h];have:∀(x:List Nat) (ys:List (List Nat)),wR (tx sep) ((x::ys).map tx)=tx (x++(ys.flatMap fun y=>sep++y)):=by
  intro x ys
  induction ys generalizing x with
  | nil=>simp[wR]
  | cons y ys ih =>
   show tx x++tx sep++wR (tx sep) ((y::ys).map tx)=_;rw[ih y,PB,PB];simp
 cases ys with
 | nil=>rfl
 | cons x ys=>exact this x ys
theorem fo(ys:List (List Nat)):((ys.map tx).map (·.length)).sum=(ys.map U2).sum:=by
 rw[X2];congr 1
section
variable {prog:F8} {w:J0} {A:J5} {E:Value->A9->Prop} {s:A9}
theorem OU{l:B5}{T:String}{o:Obj}{n:Nat}{vs:List Value}{Q:List Value->A9->Prop}(hT:T = "list" \/ T = "tuple")(ho:s.heap.get? l=some o)(hc:o.cls=.type T)(hd:o.data=.seq vs.toArray n)
    (h:Q vs { s with heap:=(s.heap.push (V7 "list" #[] 0)).update s.heap.objs.size (J9 (·++vs.toArray)) }) (hsz:vs.length<=sizeLine) :
    C4 (D6 prog w) A (collect (.ref l)) Q E s:=by
  unfold collect;refine A1 (wpAny_runValue (vw entry_proto_collect' ?_))
  show C4 _ _ (do again (.builtin "list.__iadd__" ⟨[<- newList [],.ref l],[]⟩)) _ _ s
  refine A1 (wpAny_newList (A6 ⟨Code.quiet_builtin _ (by decide +kernel),vw entry_list_iadd' ?_⟩))
  show C4 _ _ (Q4 (.ref s.heap.objs.size) (.ref l) (.ref s.heap.objs.size)) _ _ { s with heap:=s.heap.push (V7 "list" #[] 0) }
  unfold Q4
  have ho':(s.heap.push (V7 "list" #[] 0)).get? l=some o:=A5 _ ho
  refine A1 (W8 (T:=T) ⟨o,ho',hc⟩ ?_)
  have ht:((p8 (.ref s.heap.objs.size) (.ref l) || M0 T == M0 "list") || M0 T == M0 "tuple")=true:=by
    rcases hT with rfl | rfl
    · have:(M0 "list" == M0 "list")=true:=by rfl
      rw[this];simp
    · have:(M0 "tuple" == M0 "tuple")=true:=by rfl
      rw[this];simp
  rw[if_pos ht];refine A1 (tN ho' hd ?_);refine A1 (tN (xs:=#[]) (n:=0) (C8 _ rfl) rfl ?_);rw[if_neg (by simp)];refine A1 (listUpdate_at (xs:=#[]) (n:=0) (C8 _ rfl) rfl ?_ (G5 _) (by show(#[]++vs.toArray).size<=sizeLine+1;simp only[vJ,A8,M5];omega));refine A6 ?_;show C4 (D6 prog w) A (do
      let o <- load s.heap.objs.size
      match o.data with
      | .seq xs _=>pure xs.toList
      | _=>unsupported "internal:collect") Q E { s with heap:=(s.heap.push (V7 "list" #[] 0)).update s.heap.objs.size (J9 (·++vs.toArray)) }
  refine A1 (wpAny_load (tQ (C8 _ rfl) _) ?_);show C4 _ _ (pure ((#[]:Array Value)++vs.toArray).toList) Q E _;rw[show((#[]:Array Value)++vs.toArray).toList=vs by simp];exact A6 h
theorem Ic{l:B5}{T:String}{o:Obj}{n:Nat}{vs:List Value}{ns:List Int}{Q:Value->A9->Prop}(hT:T = "list" \/ T = "tuple")(ho:s.heap.get? l=some o)(hc:o.cls=.type T)(hd:o.data=.seq vs.toArray n)(hI:i3 vs ns)(h64:vs.length < 64)
    (h:∀(out:Array Value) (ns':List Int),i3 out.toList ns'->ns'.Perm ns->ns'.Pairwise (·<=·)->Q (.ref (s.heap.objs.size+1)) { s with heap:=sr s.heap vs out }) :
    C4 (D6 prog w) A (call (.builtin "sorted") [.ref l]) Q E s:=by
  refine Calls.call_function_entry kind_sorted plain_sorted entry_sorted (args_sorted1 _) ?_;unfold u0.«sorted»
  refine A1 (m:=checkCount "sorted" 1 1 _) (A6 ?_)
  refine A1 (OU hT ho hc hd ?_ (by rw[S9];omega));refine A1 (wpAny_newList ?_)
  have hsz:((s.heap.push (V7 "list" #[] 0)).update s.heap.objs.size (J9 (·++vs.toArray))).objs.size=s.heap.objs.size+1:=by
    rw[vb,size_push']
  have hoL:(((s.heap.push (V7 "list" #[] 0)).update s.heap.objs.size (J9 (·++vs.toArray))).push (V7 "list" vs.toArray 0)).get? (s.heap.objs.size+1)=some (V7 "list" vs.toArray 0):=by
    rw[<- hsz];exact C8 _ rfl
  show C4 _ _ _ _ _ { s with heap:=((s.heap.push (V7 "list" #[] 0)).update s.heap.objs.size (J9 (·++vs.toArray))).push (V7 "list" vs.toArray 0) }
  rw[hsz];refine A1 (L7 (K2 slot_list_sort ⟨_,hoL,rfl⟩ entry_list_sort (list_sort_tree hoL hI h64 fun out ns' a1 a2 a3=>⟨_,rfl,?_⟩) (args_list_sort _)));exact A6 ⟨_,rfl,h out ns' a1 a2 a3⟩
theorem Li(h:G7)(vs:List Value)(out:Array Value):∃c,(sr h vs out).get? (h.objs.size+1)=some { cls:=.type "list", dict:=none,data:=.seq out c,slots:=#[] }:=by
 unfold sr sortedHeap
 have hsz:((h.push (V7 "list" #[] 0)).update h.objs.size (J9 (·++vs.toArray))).objs.size=h.objs.size+1:=by rw[vb,size_push']
 have hoL:(((h.push (V7 "list" #[] 0)).update h.objs.size (J9 (·++vs.toArray))).push (V7 "list" vs.toArray 0)).get? (h.objs.size+1)=some (V7 "list" vs.toArray 0):=by
  rw[<- hsz];exact C8 _ rfl
 have h1:=tQ hoL (fun _=>#[])
 have h2:=tQ (A5 (V7 "list" #[] 0) (A5 (V7 "tuple" vs.toArray 0) h1)) (fun _=>out)
 exact⟨_,h2⟩
theorem Jz(h:G7)(vs:List Value)(out:Array Value){o:Obj}(e:h.get? b=some o):(sr h vs out).get? b=some o:=by
 have hb:b < h.objs.size:=D3 e;have n0:b≠h.objs.size:=E4 hb;have n1:b≠h.objs.size+1:=E4 (vK hb);unfold sr sortedHeap;refine(e6 _ _ _ _ n1).trans ?_;refine A5 _ (A5 _ ?_);refine(e6 _ _ _ _ n1).trans ?_;refine A5 _ ?_;refine(e6 _ _ _ _ n0).trans ?_;exact A5 _ e
end
theorem MG:∀{ns:List Int} {xJ:List Value},AF (ns.map V.int) xJ->i3 xJ ns
 | [],_,.nil=>.nil
 | n::ns,_,.cons r rs=>by obtain⟨t,rfl⟩:=r;exact .cons _ _ (MG rs)
theorem Rk:∀{ns:List Int} {xJ:List Value},i3 xJ ns->AF (ns.map V.int) xJ
 | _,_,.nil=>.nil
 | _,_,.cons n t rs=>.cons ⟨t,rfl⟩ (Rk rs)
def IA(K:W.Frag):List V->Hp->VK->Prop:=fun xs H Q=>∃(p:B5) (ns:List Int),xs=[.ref p]/\(DO K H p (ns.map V.int)\/FL K H p (ns.map V.int))/\ns.length < 64/\∀(l:B5) (ns':List Int),H l=none->ns'.Perm ns->ns'.Pairwise (·<=·)->Q (.ref l) (upd H l (.lst (ns'.map V.int)))
variable {X:Cx}
theorem OX:BI X (.builtin "sorted") (IA X.K):=by
 intro pins s σ H xs us Q I r h;obtain⟨p,ns,rfl,hq,hl,q⟩:=h;obtain⟨u,rfl,rx⟩:=vals1 r;cases rx;have fin:∀(xJ:List Value) (hv:AF (ns.map V.int) xJ) (out:Array Value) (ns':List Int),i3 out.toList ns'->ns'.Perm ns->ns'.Pairwise (·<=·)->EP X pins σ Q (.ref (s.heap.objs.size+1)) { s with heap:=sr s.heap xJ out }:=fun xJ hv out ns' a1 a2 a3=>by
  obtain⟨c,e⟩:=Li s.heap xJ out;have v:=Rk a1;have e':out=out.toList.toArray:=by simp
  exact⟨.ref (s.heap.objs.size+1),_,I.laid (t':=s.toks) (fun b o e=>Jz _ _ _ e) (U1 _) (show Ae X.prog X.w _ _ _ (.lst (ns'.map V.int)) from⟨by rw[D5,a2.length_eq,S9];omega,out.toList,c,v,by rw[<- e'];exact e⟩),rfl,q _ ns' (I.xP.fresh (U1 _)) a2 a3⟩
 rcases hq with hq | hq
 ·obtain⟨xJ,r',pl,hz⟩:=I.list hq;have hlen:=r'.length;rw[D5] at hlen;obtain⟨o,ho,hc,n,hd⟩:=pl.isList;exact Ic (.inl rfl) ho hc hd (MG r') (by omega) (fin xJ r')
 ·obtain⟨xJ,r',pl,hz⟩:=I.tuple hq;have hlen:=r'.length;rw[D5] at hlen;obtain⟨o,ho,hc,n,hd⟩:=pl;exact Ic (.inr rfl) ho hc hd (MG r') (by omega) (fin xJ r')
theorem Mc(K:W.Frag)(h:X.K=K:=by rfl):BI X (.builtin "sorted") (IA K):=by subst h;exact OX
end L2
namespace L2
open PySem PySem.Spec PyProof.Rows PySem.Builtin PySem.Builtin.Str
variable {X:Cx}
def NT:V->List V->Hp->VK->Prop:=fun x vs H Q=>∃l b xs zs,x=.ref l/\vs=[.ref b]/\H l=some (.lst xs)/\H b=some (.tup zs)/\xs.length+zs.length<=sizeLine/\Q .xQ (upd H l (.lst (xs++zs)))
theorem Pz:fZ X "list.extend" NT:=by
 intro pins s σ H x vs v us Q I rx rv h;obtain⟨l,b,xs,zs,rfl,rfl,hH,hB,hz,q⟩:=h;cases rx;obtain⟨u,rfl,ru⟩:=rv.one;cases ru;obtain⟨z,xJ,n,r,hl,e⟩:=I.zAS hH;obtain⟨xU,r2,⟨o,ho,hc,n2,hd⟩,_⟩:=I.tuple (a:=b) (xs:=zs) (.inl (.inl hB));have yW:=r2.length;have hsz:xJ.toArray.size+xU.toArray.size<=sizeLine:=by rw[A8,A8];omega
 have zBj:¬(!xJ.toArray.isEmpty && S2 (xJ.toArray.size+xU.toArray.size))=true:=by
  rw[Ng hsz,X0];exact D4
 refine K2 F.slot_list_extend ⟨_,e,rfl⟩ F.entry_list_extend ?_ (F.args_list_extend_2 _ _);show C4 _ _ (Q4 (.ref l) (.ref b) .none) _ _ s;unfold Q4
 refine A1 (W8 (T := "tuple") ⟨o,ho,hc⟩ ?_)
 have ht:((p8 (.ref l) (.ref b) || M0 "tuple" == M0 "list") || M0 "tuple" == M0 "tuple")=true:=by
  have:(M0 "tuple" == M0 "tuple")=true:=by rfl
  rw[this];simp
 rw[if_pos ht];refine A1 (tN ho hd ?_);refine A1 (tN e rfl ?_);rw[if_neg zBj];refine A1 (listUpdate_at e rfl ?_ (by rw[A8];omega) (by rw[vJ];omega));refine A6 ?_;refine⟨_,rfl,.xQ,_,I.zBb (its':=xJ++xU) hH e (by simp) (r.append r2) ?_,rfl,q⟩;rw[C5];omega
end L2
namespace HT
open PySem PyProof.Rows
section
open PySem.SeqAt
open PySem.AutoSeq1 (wpAny_loadPart')
open PySem.MeetsSeq PySem.MeetsSeq2 PySem.MeetsSeq3
end
end HT
namespace L2
open PySem PySem.Spec PyProof.Rows
end L2
namespace L2
open PySem
abbrev dR(l:W.OpenLaw)(n:Nat)(as:List B5)(K:uo->W.Frag)(N:Nat):Prop:=
 W.LeftO l.row.prog (W.view l.prog (B1 n)) [] (fun s=>W.xlAt (W.view l.prog (B1 n)) [] s && W.recOk [] s) (fun s=>as.map s.heap.get?) (fun w=>(K w.params).map fun p=>some p.2) N
theorem zCi{l:W.OpenLaw}{n:Nat}{N:Nat}{d:wd}{K:uo->W.Frag}{as:List B5}(ws:l.wellSaid=true)(left:dR l n as K N)
    (has:∀P,as=(K P).map (·.1)) (hr:l.row.records=[]) (zEO:W.defOf (W.view l.prog (B1 n)) l.row.name=some (d,[])) (hp:l.row.prog.theDef l.row.name=some (d.params,d.body,d.scope)) (hk:W.kwWritten? d.params.kwonlyargs d.params.kw_defaults=some [])
    (hwr:(!l.row.writes || l.row.records.isEmpty)=true)
    (ok:(W.chainsOk (W.view l.prog (B1 n)) && W.opensWell l.row.prog && (W.frees l.row.toRowW && l.row.within.isEmpty))=true) (hb:l.row.prog.bare) (hw:l.row.toRowW.promised)
    (call:W.WalkO (W.view l.prog (B1 n)) [] (W.XL (W.view l.prog (B1 n)) []) (W.InK K) l.row.toRowW d [] fun f vs=>uq f vs):l.Holds:=
  W.holds_law ws fun zDm=>W.holds_open (q:=W.view l.prog (B1 n)) (loose:=[]) (XP:=W.XL (W.view l.prog (B1 n)) []) (YP:=W.InK K) left (W.InK.of has) W.InK.keeps (fun s e=>W.xl_of s (O4.mp e).1) W.XL.keeps zEO hp hk (fun s e=>W.recFacts_nil hr) hwr zDm ok hb hw call
noncomputable abbrev ke(P:uo)(x:Str)(t:Tok)(v:Value):DictEntry:=⟨PyData.keyHash P x,.str x t,v⟩
noncomputable abbrev cO(x:Str)(t:Tok)(l a s:Int)(r1 r2:B5)(v1 v2 v3:Value)(r3:B5)(t2:Nat):Obj:=⟨.type "code", none,.fields #[.str x t,.str x (t+1),.str "/claim/cut.py" (t+2),.int l 0,.int a 0,.int 0 0,.int 0 0,.int s 0,.ref r1,.bool true,.int 181 0,.ref r2,v1,v2,v3,.ref r3,.int t2 0,.int l 0,.str "/claim/cut.py" (t2+1)],#[]⟩
noncomputable def kU:M4->Pos
 | .FunctionDef _ _ _ _ _ _ _ _ _ p=>p
 | _=>⟨0,0,0,0⟩
noncomputable def Dd(K:W.Frag)(n:Str):B5:=match W.nsIn K K9 n with
 | some (some (.ref a))=>a
 | _=>0
noncomputable def ax(K:W.Frag)(f:B5):Value:=match K.lookup f with
 | some ⟨_,_,.func d,_⟩=>d.pyModule
 | _=>.none
noncomputable def UM(K:W.Frag)(f:B5):Value:=match K.lookup f with
 | some ⟨_,_,.func d,_⟩=>d.code
 | _=>.none
abbrev GF(K:W.Frag)(n:Str)(t:M4):Prop:=W.nsIn K K9 n=some (some (.ref (Dd K n))) /\
 K.lookup (Dd K n)=some ⟨.type "function", none,.func (W.fnOf n n (Ao t) (Ab t) (AL t) .none .none .none (ax K (Dd K n)) none (UM K (Dd K n)) .none),#[]⟩ /\
 W.codeIn K (UM K (Dd K n)) n=true/\W.keepIn K (.ref (Dd K n))=true
theorem je{K:W.Frag}{n:Str}{t:M4}(h:GF K n t):Fun K n n t (Dd K n) (W.fnOf n n (Ao t) (Ab t) (AL t) .none .none .none (ax K (Dd K n)) none (UM K (Dd K n)) .none):=XY h.2.1 h.2.2.1 h.2.2.2
end L2
namespace R
open PySem L2
set_option genInjectivity true in
inductive Dv where
 | xQ | bl (b:Bool) | int (i:Int) | str (x:List Nat) | tup (xs:List Dv) | lst (xs:List Dv) | yR (ks:List Ak) (xs:List Dv) | ref (k:Nat) | yO (ns:List Int) | ty (n:String) | mtp (ls:List (List Nat)) | dtt (ks:List (List Ak)) (xs:List Dv) | zo (ks:List (NK Ak)) (xs:List Dv) | obj (c:Str) (fl nm:List Str) (xs:List Dv)
 deriving Inhabited
structure G where
 Z:B5->Prop
 μ:List B5
noncomputable abbrev Fp:=B5->Prop
def Bi(P Q:Fp):Prop:=∀a,P a->Q a->False
def xM:Fp:=fun _=>False
def Lk(g:G)(H:Hp)(o:Nat)(a:B5)(vs:List V):Prop:=H a=some (.lst vs)/\(o=0->g.Z a)/\(o≠0->¬g.Z a)
def pw(K:W.Frag)(H:Hp)(a:B5)(ns:List Int):Prop:=(∃o,H a=some (.frz o (.lst (ns.map V.int)))) \/
    ∃(o:Obj) (xJ:Array Value) (n:Nat),K.lookup a=some o/\o.cls=.type "list" /\ o.dict=none/\o.data=.seq xJ n/\xJ.size<=sizeLine/\AF (ns.map V.int) xJ.toList
theorem pw.sq{K:W.Frag}{H:Hp}{a:B5}{ns:List Int}(h:pw K H a ns):DO K H a (ns.map V.int):=h.elim (fun h=>.inl (.inr h)) .inr
def sV(K:W.Frag)(a:B5)(ls:List (List Nat)):Prop:=∃(o:Obj) (xJ:Array Value) (n:Nat),K.lookup a=some o/\o.cls=.type "tuple" /\ o.data=.seq xJ n/\xJ.size<=sizeLine/\AF (ls.map fun l=>V.str (tx l)) xJ.toList
def dH(K:W.Frag)(c:Str)(fl:List Str):Prop:=Cls K (Dd K c)/\∀f∈fl,El K (Dd K c) f
mutual
noncomputable def Rep(K:W.Frag)(g:G)(H:Hp):Nat->Dv->V->Fp->Prop
 | _,.xQ,v,P=>v=.xQ/\∀a,¬P a
 | _,.bl b,v,P=>v=.bl b/\∀a,¬P a
 | _,.int i,v,P=>v=.int i/\∀a,¬P a
 | _,.str l,v,P=>v=.str (tx l)/\∀a,¬P a
 | o,.tup ds,v,P=>∃a vs,v=.ref a/\H a=some (.tup vs)/\AC K g H (o - 1) ds vs P
 | o,.lst ds,v,P=>∃a vs P',v=.ref a/\Lk g H o a vs/\AC K g H (o - 1) ds vs P'/\¬P' a/\∀b,P b↔(o≠0/\b=a)\/P' b
 | o,.yR ks ds,v,P=>∃a vs,v=.ref a/\H a=some (.dK (ks.zip vs))/\(o=0->g.Z a)/\(o≠0->¬g.Z a)/\(ks.length=ds.length/\∃R,AC K g H 0 ds vs R)/\∀b,P b↔(o≠0/\b=a)
 | _,.ref k,v,P=>(∃a,g.μ[k]?=some a/\v=.ref a)/\∀a,¬P a
 | _,.yO ns,v,P=>(∃a,v=.ref a/\pw K H a ns)/\∀a,¬P a
 | _,.ty n,v,P=>v=.ty n/\∀a,¬P a
 | _,.mtp ls,v,P=>(∃a,v=.ref a/\sV K a ls)/\∀a,¬P a
 | o,.dtt ks ds,v,P=>∃a vs,v=.ref a/\H a=some (.dT (ks.zip vs))/\(o=0->g.Z a)/\(o≠0->¬g.Z a)/\(ks.length=ds.length/\∃R,AC K g H 0 ds vs R)/\∀b,P b↔(o≠0/\b=a)
 | o,.zo ks ds,v,P=>∃a vs,v=.ref a/\H a=some (.dN (ks.zip vs))/\(o=0->g.Z a)/\(o≠0->¬g.Z a)/\(ks.length=ds.length/\∃R,AC K g H 0 ds vs R)/\∀b,P b↔(o≠0/\b=a)
 | o,.obj c fl nm ds,v,P=>∃a dx vs P',v=.ref a/\H a=some (.ins (Dd K c) dx (nm.zip vs))/\(o=0->g.Z a)/\(o≠0->¬g.Z a)/\(dH K c fl/\nm.length=ds.length/\∀f∈nm,f∈fl)/\AC K g H o ds vs P'/\¬P' a/\∀b,P b↔(o≠0/\b=a)\/P' b
noncomputable def AC(K:W.Frag)(g:G)(H:Hp):Nat->List Dv->List V->Fp->Prop
 | _,[],vs,P=>vs=[]/\∀a,¬P a
 | o,d::ds,vs,P=>∃v r P1 P2,vs=v::r/\Rep K g H o d v P1/\AC K g H o ds r P2/\Bi P1 P2/\∀a,P a↔P1 a\/P2 a
end
def Zd(g:G)(H:Hp):Prop:=∀a,g.Z a->H a≠none
structure Step (g:G) (P:Fp) (H:Hp) (g':G) (P':Fp) (H':Hp):Prop where
 keep:∀b o,H b=some o->¬P b->H' b=some o
 dom:∀b,H' b=none->H b=none
 zm:∀a,g.Z a->g'.Z a
 zn:∀a,g'.Z a->g.Z a\/P a\/H a=none
 mu:∃r,g'.μ=g.μ++r
 nw:∀a,P' a->P a\/H a=none
 zd:Zd g H->Zd g' H'
 ins:∀b C dx fs,H b=some (.ins C dx fs)->∃fs',H' b=some (.ins C dx fs')/\∀f r,fs.lookup f=some (.ref r)->fs'.lookup f=some (.ref r)
theorem Step.refl{g:G}{P:Fp}{H:Hp}:Step g P H g P H:=⟨fun _ _ h _=>h,fun _ h=>h,fun _ h=>h,fun _ h=>.inl h,⟨[],by simp⟩,fun _ h=>.inl h,fun h=>h,fun _ _ _ fs h=>⟨fs,h,fun _ _ z=>z⟩⟩
theorem Step.trans{g g1 g2:G}{P P1 P2:Fp}{H H1 H2:Hp}(a:Step g P H g1 P1 H1)(b:Step g1 P1 H1 g2 P2 H2):Step g P H g2 P2 H2:=by
 refine⟨fun c o h n=>?_,fun c h=>a.dom c (b.dom c h),fun c h=>b.zm c (a.zm c h),fun c h=>?_,?_,fun c h=>?_,fun z=>b.zd (a.zd z),fun c C dx fs h=>?_⟩
 ·refine b.keep c o (a.keep c o h n) fun z=>?_
  rcases a.nw c z with z | z
  ·exact n z
  ·rw[h] at z;cases z
 ·rcases b.zn c h with z | z | z
  ·exact a.zn c z
  ·exact(a.nw c z).elim (fun q=>.inr (.inl q)) fun q=>.inr (.inr q)
  ·exact .inr (.inr (a.dom c z))
 ·obtain⟨r1,e1⟩:=a.mu;obtain⟨r2,e2⟩:=b.mu;exact⟨r1++r2,by rw[e2,e1,N6]⟩
 ·rcases b.nw c h with z | z
  ·exact a.nw c z
  ·exact .inr (a.dom c z)
 ·obtain⟨f1,e1,k1⟩:=a.ins c C dx fs h;obtain⟨f2,e2,k2⟩:=b.ins c C dx f1 e1;exact⟨f2,e2,fun f r z=>k2 f r (k1 f r z)⟩
theorem Step.sub{g g':G}{P Q P' Q':Fp}{H H':Hp}(s:Step g P H g' P' H')(h1:∀a,P a->Q a)(h2:∀a,Q' a->P' a):Step g Q H g' Q' H':=
 ⟨fun b o h n=>s.keep b o h fun z=>n (h1 b z),s.dom,s.zm,fun a h=>(s.zn a h).elim .inl fun z=>.inr (z.elim (fun q=>.inl (h1 a q)) .inr),s.mu,fun a h=>(s.nw a (h2 a h)).elim (fun q=>.inl (h1 a q)) .inr,s.zd,s.ins⟩
theorem Step.less{g g':G}{P P' Q':Fp}{H H':Hp}(s:Step g P H g' P' H')(h2:∀a,Q' a->P' a):Step g P H g' Q' H':=s.sub (fun _ q=>q) h2
theorem Step.frame{g g':G}{P P' R:Fp}{H H':Hp}(s:Step g P H g' P' H'):Step g (fun a=>P a\/R a) H g' (fun a=>P' a\/R a) H':=
 ⟨fun b o h n=>s.keep b o h fun z=>n (.inl z),s.dom,s.zm,fun a h=>(s.zn a h).elim .inl fun z=>.inr (z.elim (fun q=>.inl (.inl q)) .inr),s.mu,fun a h=>h.elim (fun q=>(s.nw a q).elim (fun z=>.inl (.inl z)) .inr) fun q=>.inl (.inr q),s.zd,s.ins⟩
theorem Step.same{g:G}{P:Fp}{H H':Hp}(s:Oq H H'):Step g P H g P H':=
 have dm:∀b,H' b=none->H b=none:=fun b h=>by
  cases e:H b with
  | none=>rfl
  | some o=>rw[s b o e] at h;cases h
 ⟨fun b o h _=>s b o h,dm,fun _ h=>h,fun _ h=>.inl h,⟨[],by simp⟩,fun _ h=>.inl h,fun z a h q=>z a h (dm a q),fun b C dx fs h=>⟨fs,s b _ h,fun _ _ z=>z⟩⟩
theorem Hw{H:Hp}{a:B5}{o u:HO}(h:H a=some u)(nu:∀C dx fs,u≠.ins C dx fs):∀b C dx fs,H b=some (.ins C dx fs)->∃fs',upd H a o b=some (.ins C dx fs')/\∀f r,fs.lookup f=some (.ref r)->fs'.lookup f=some (.ref r):=fun b C dx fs e =>
 ⟨fs,by rw[AG fun z=>by subst z;rw[h] at e;exact nu C dx fs (D0 e)];exact e,fun _ _ z=>z⟩
def xS(g:G)(H:Hp)(P:Fp):Prop:=∀a,P a->lj (H a)/\¬g.Z a
theorem xS.or{g:G}{H:Hp}{P Q:Fp}(h:xS g H P)(k:xS g H Q):xS g H fun a=>P a\/Q a:=fun a q=>q.elim (h a) (k a)
theorem xS.xM{g:G}{H:Hp}:xS g H xM:=fun _ z=>z.elim
theorem xS.new{g:G}{H:Hp}{P:Fp}(h:xS g H P){a:B5}(n:H a=none):¬P a:=fun z=>by have:=(h a z).1;rw[n] at this;exact this
theorem FF{P:Fp}(h:∀a,¬P a):P=xM:=funext fun a=>propext ⟨fun z=>(h a z).elim,fun z=>z.elim⟩
section
variable {K:W.Frag} {g g':G} {H H':Hp}
theorem Step.out{P P' R:Fp}(s:Step g P H g' P' H')(ok:xS g H R)(n:Bi R P):Bi R P':=fun a q z=>(s.nw a z).elim (fun z=>n a q z) fun z=>ok.new z q
theorem Lk.held{o:Nat}{a:B5}{vs:List V}{P P':Fp}(h:Lk g H o a vs)(hn:o≠0->¬P a)(s:Step g P H g' P' H')(ok:xS g H P):Lk g' H' o a vs:=by
 have np:¬P a:=by
  by_cases z:o=0
  ·exact fun q=>(ok a q).2 (h.2.1 z)
  ·exact hn z
 refine⟨s.keep _ _ h.1 np,fun z=>s.zm _ (h.2.1 z),fun z q=>?_⟩;rcases s.zn _ q with q | q | q
 ·exact h.2.2 z q
 ·exact np q
 ·rw[h.1] at q;cases q
mutual
theorem Rep.xq:∀{d:Dv} {v:V} {R:Fp},Rep K g H 0 d v R->∀a,¬R a
 | .xQ,v,R,h | .bl _,v,R,h | .int _,v,R,h | .str _,v,R,h | .ty _,v,R,h | .mtp _,v,R,h | .ref _,v,R,h | .yO _,v,R,h=>by unfold Rep at h;exact h.2
 | .dtt ks ds,v,R,h=>by
  unfold Rep at h;obtain⟨b,vs,e,h1,h2,h3,h5,h4⟩:=h;exact fun a q=>((h4 a).mp q).1 rfl
 | .zo ks ds,v,R,h=>by
  unfold Rep at h;obtain⟨b,vs,e,h1,h2,h3,h5,h4⟩:=h;exact fun a q=>((h4 a).mp q).1 rfl
 | .obj c fl nm ds,v,R,h=>by
  unfold Rep at h;obtain⟨b,dx,vs,R',e,h1,hz,hn,hl,h2,h3,h5⟩:=h;exact fun a q=>((h5 a).mp q).elim (fun z=>z.1 rfl) fun z=>AC.xq h2 a z
 | .tup ds,v,R,h=>by
  unfold Rep at h;obtain⟨_,vs,e,h1,h2⟩:=h;exact AC.xq h2
 | .lst ds,v,R,h=>by
  unfold Rep at h;obtain⟨b,vs,R',e,h1,h2,h3,h5⟩:=h;exact fun a q=>((h5 a).mp q).elim (fun z=>z.1 rfl) fun z=>AC.xq h2 a z
 | .yR ks ds,v,R,h=>by
  unfold Rep at h;obtain⟨b,vs,e,h1,h2,h3,h5,h4⟩:=h;exact fun a q=>((h4 a).mp q).1 rfl
theorem AC.xq:∀{ds:List Dv} {vs:List V} {R:Fp},AC K g H 0 ds vs R->∀a,¬R a
 | [],vs,R,h=>by unfold AC at h;exact h.2
 | d::ds,vs,R,h=>by
  unfold AC at h;obtain⟨v,r,P1,P2,e,h1,h2,h3,h4⟩:=h;exact fun a q=>((h4 a).mp q).elim (fun z=>Rep.xq h1 a z) fun z=>AC.xq h2 a z
end
mutual
theorem Rep.held{P P':Fp}(s:Step g P H g' P' H')(ok:xS g H P):∀{o:Nat} {d:Dv} {v:V} {R:Fp},Rep K g H o d v R->Bi R P->Rep K g' H' o d v R
 | _,.xQ,v,R,h,_ | _,.bl _,v,R,h,_ | _,.int _,v,R,h,_ | _,.str _,v,R,h,_ | _,.ty _,v,R,h,_ | _,.mtp _,v,R,h,_=>by unfold Rep at h ⊢;exact h
 | o,.dtt ks ds,v,R,h,d=>by
  unfold Rep at h ⊢;obtain⟨a,vs,e,h1,h2,h3,⟨h5,R',h6⟩,h4⟩:=h;have hn:¬P a:=fun z=>by
   by_cases q:o=0
   ·exact(ok a z).2 (h2 q)
   ·exact d a ((h4 a).mpr ⟨q,rfl⟩) z
  refine⟨a,vs,e,s.keep _ _ h1 hn,fun q=>s.zm _ (h2 q),fun q z=>?_,⟨h5,R',AC.held s ok h6 fun b q z=>(AC.xq h6 b q).elim⟩,h4⟩;rcases s.zn _ z with z | z | z
  ·exact h3 q z
  ·exact hn z
  ·rw[h1] at z;cases z
 | o,.zo ks ds,v,R,h,d=>by
  unfold Rep at h ⊢;obtain⟨a,vs,e,h1,h2,h3,⟨h5,R',h6⟩,h4⟩:=h;have hn:¬P a:=fun z=>by
   by_cases q:o=0
   ·exact(ok a z).2 (h2 q)
   ·exact d a ((h4 a).mpr ⟨q,rfl⟩) z
  refine⟨a,vs,e,s.keep _ _ h1 hn,fun q=>s.zm _ (h2 q),fun q z=>?_,⟨h5,R',AC.held s ok h6 fun b q z=>(AC.xq h6 b q).elim⟩,h4⟩;rcases s.zn _ z with z | z | z
  ·exact h3 q z
  ·exact hn z
  ·rw[h1] at z;cases z
 | o,.obj c fl nm ds,v,R,h,d=>by
  unfold Rep at h ⊢;obtain⟨a,dx,vs,R',e,h1,h2,h3,hl,h6,h7,h4⟩:=h;have hn:¬P a:=fun z=>by
   by_cases q:o=0
   ·exact(ok a z).2 (h2 q)
   ·exact d a ((h4 a).mpr (.inl ⟨q,rfl⟩)) z
  refine⟨a,dx,vs,R',e,s.keep _ _ h1 hn,fun q=>s.zm _ (h2 q),fun q z=>?_,hl,AC.held s ok h6 fun b q z=>d b ((h4 b).mpr (.inr q)) z,h7,h4⟩;rcases s.zn _ z with z | z | z
  ·exact h3 q z
  ·exact hn z
  ·rw[h1] at z;cases z
 | o,.tup ds,v,R,h,n=>by
  unfold Rep at h ⊢;obtain⟨a,vs,e,h1,h2⟩:=h;exact⟨a,vs,e,s.keep _ _ h1 fun z=>(by have:=(ok a z).1;rw[h1] at this;exact this),AC.held s ok h2 n⟩
 | o,.lst ds,v,R,h,n=>by
  unfold Rep at h ⊢;obtain⟨a,vs,R',e,h1,h2,h3,h5⟩:=h;exact⟨a,vs,R',e,h1.held (fun z q=>n a ((h5 a).mpr (.inl ⟨z,rfl⟩)) q) s ok,AC.held s ok h2 fun b q z=>n b ((h5 b).mpr (.inr q)) z,h3,h5⟩
 | o,.yR ks ds,v,R,h,d=>by
  unfold Rep at h ⊢;obtain⟨a,vs,e,h1,h2,h3,⟨h5,R',h6⟩,h4⟩:=h;have hn:¬P a:=fun z=>by
   by_cases q:o=0
   ·exact(ok a z).2 (h2 q)
   ·exact d a ((h4 a).mpr ⟨q,rfl⟩) z
  refine⟨a,vs,e,s.keep _ _ h1 hn,fun q=>s.zm _ (h2 q),fun q z=>?_,⟨h5,R',AC.held s ok h6 fun b q z=>(AC.xq h6 b q).elim⟩,h4⟩;rcases s.zn _ z with z | z | z
  ·exact h3 q z
  ·exact hn z
  ·rw[h1] at z;cases z
 | _,.ref k,v,R,h,_=>by
  unfold Rep at h ⊢;obtain⟨⟨a,h1,h2⟩,h3⟩:=h;obtain⟨r,e⟩:=s.mu;refine⟨⟨a,?_,h2⟩,h3⟩;rw[e,F9 (B3.mp h1).1];exact h1
 | _,.yO ns,v,R,h,_=>by
  unfold Rep at h ⊢;obtain⟨⟨a,h1,h2⟩,h3⟩:=h;refine⟨⟨a,h1,?_⟩,h3⟩;rcases h2 with⟨o,h2⟩ | h2
  ·exact .inl ⟨o,s.keep _ _ h2 fun z=>by have:=(ok a z).1;rw[h2] at this;exact this⟩
  ·exact .inr h2
theorem AC.held{P P':Fp}(s:Step g P H g' P' H')(ok:xS g H P):∀{o:Nat} {ds:List Dv} {vs:List V} {R:Fp},AC K g H o ds vs R->Bi R P->AC K g' H' o ds vs R
 | _,[],vs,R,h,_=>by unfold AC at h ⊢;exact h
 | o,d::ds,vs,R,h,n=>by
  unfold AC at h ⊢;obtain⟨v,r,P1,P2,e,h1,h2,h3,h4⟩:=h;exact⟨v,r,P1,P2,e,Rep.held s ok h1 fun a q z=>n a ((h4 a).mpr (.inl q)) z,AC.held s ok h2 fun a q z=>n a ((h4 a).mpr (.inr q)) z,h3,h4⟩
end
mutual
theorem Rep.xO:∀{o:Nat} {d:Dv} {v:V} {R:Fp},Rep K g H o d v R->xS g H R
 | _,.xQ,v,R,h,a,q | _,.bl _,v,R,h,a,q | _,.int _,v,R,h,a,q | _,.str _,v,R,h,a,q | _,.ty _,v,R,h,a,q | _,.mtp _,v,R,h,a,q | _,.ref _,v,R,h,a,q | _,.yO _,v,R,h,a,q=>by unfold Rep at h;exact(h.2 a q).elim
 | o,.dtt ks ds,v,R,h,a,q=>by
  unfold Rep at h;obtain⟨b,vs,e,h1,h2,h3,h5,h4⟩:=h;obtain⟨ho,rfl⟩:=(h4 a).mp q;exact⟨by rw[h1];trivial,h3 ho⟩
 | o,.zo ks ds,v,R,h,a,q=>by
  unfold Rep at h;obtain⟨b,vs,e,h1,h2,h3,h5,h4⟩:=h;obtain⟨ho,rfl⟩:=(h4 a).mp q;exact⟨by rw[h1];trivial,h3 ho⟩
 | o,.obj c fl nm ds,v,R,h,a,q=>by
  unfold Rep at h;obtain⟨b,dx,vs,R',e,h1,h2,h3,hl,h6,h7,h4⟩:=h;rcases(h4 a).mp q with⟨z,rfl⟩ | z
  ·exact⟨by rw[h1];trivial,h3 z⟩
  ·exact AC.xO h6 a z
 | o,.tup ds,v,R,h,a,q=>by
  unfold Rep at h;obtain⟨_,vs,e,h1,h2⟩:=h;exact AC.xO h2 a q
 | o,.lst ds,v,R,h,a,q=>by
  unfold Rep at h;obtain⟨b,vs,R',e,h1,h2,h3,h5⟩:=h;rcases(h5 a).mp q with⟨z,rfl⟩ | z
  ·exact⟨by rw[h1.1];trivial,h1.2.2 z⟩
  ·exact AC.xO h2 a z
 | o,.yR ks ds,v,R,h,a,q=>by
  unfold Rep at h;obtain⟨b,vs,e,h1,h2,h3,h5,h4⟩:=h;obtain⟨ho,rfl⟩:=(h4 a).mp q;exact⟨by rw[h1];trivial,h3 ho⟩
theorem AC.xO:∀{o:Nat} {ds:List Dv} {vs:List V} {R:Fp},AC K g H o ds vs R->xS g H R
 | _,[],vs,R,h,a,q=>by unfold AC at h;exact(h.2 a q).elim
 | o,d::ds,vs,R,h,a,q=>by
  unfold AC at h;obtain⟨v,r,P1,P2,e,h1,h2,h3,h4⟩:=h;rcases(h4 a).mp q with z | z
  ·exact Rep.xO h1 a z
  ·exact AC.xO h2 a z
end
theorem AC.iff{o:Nat}{d:List Dv}{v:List V}{P Q:Fp}(h:AC K g H o d v P)(e:∀a,Q a↔P a):AC K g H o d v Q:=by
 have:Q=P:=funext fun a=>propext (e a)
 rw[this];exact h
theorem Rep.z{d:Dv}{v:V}{R:Fp}(h:Rep K g H 0 d v R):Rep K g H 0 d v xM:=by rw[<- FF h.xq];exact h
theorem AC.z{d:List Dv}{v:List V}{R:Fp}(h:AC K g H 0 d v R):AC K g H 0 d v xM:=by rw[<- FF h.xq];exact h
def G.add(g:G)(P:Fp):G:={ g with Z:=fun a=>g.Z a\/P a }
mutual
theorem Rep.freeze{P:Fp}:∀{o:Nat} {d:Dv} {v:V} {R:Fp},Rep K g H o d v R->(∀a,R a->P a)->Rep K (g.add P) H 0 d v xM
 | _,.xQ,v,R,h,_ | _,.bl _,v,R,h,_ | _,.int _,v,R,h,_ | _,.str _,v,R,h,_ | _,.ty _,v,R,h,_ | _,.mtp _,v,R,h,_ | _,.ref _,v,R,h,_ | _,.yO _,v,R,h,_=>by unfold Rep at h ⊢;exact⟨h.1,fun _ z=>z⟩
 | o,.dtt ks ds,v,R,h,s=>by
  unfold Rep at h ⊢;obtain⟨a,vs,e,h1,h2,h3,⟨h5,R',h6⟩,h4⟩:=h;refine⟨a,vs,e,h1,fun _=>?_,fun z=>(z rfl).elim,⟨h5,xM,AC.freeze h6 fun b q=>(AC.xq h6 b q).elim⟩,fun b=>⟨fun z=>z.elim,fun z=>(z.1 rfl).elim⟩⟩
  by_cases q:o=0
  ·exact .inl (h2 q)
  ·exact .inr (s a ((h4 a).mpr ⟨q,rfl⟩))
 | o,.zo ks ds,v,R,h,s=>by
  unfold Rep at h ⊢;obtain⟨a,vs,e,h1,h2,h3,⟨h5,R',h6⟩,h4⟩:=h;refine⟨a,vs,e,h1,fun _=>?_,fun z=>(z rfl).elim,⟨h5,xM,AC.freeze h6 fun b q=>(AC.xq h6 b q).elim⟩,fun b=>⟨fun z=>z.elim,fun z=>(z.1 rfl).elim⟩⟩
  by_cases q:o=0
  ·exact .inl (h2 q)
  ·exact .inr (s a ((h4 a).mpr ⟨q,rfl⟩))
 | o,.obj c fl nm ds,v,R,h,s=>by
  unfold Rep at h ⊢;obtain⟨a,dx,vs,R',e,h1,h2,h3,hl,h6,h7,h4⟩:=h;refine⟨a,dx,vs,xM,e,h1,fun _=>?_,fun z=>(z rfl).elim,hl,AC.freeze h6 (fun b q=>s b ((h4 b).mpr (.inr q))),fun z=>z,fun b=>⟨fun z=>z.elim,fun z=>z.elim (fun q=>(q.1 rfl).elim) id⟩⟩
  by_cases q:o=0
  ·exact .inl (h2 q)
  ·exact .inr (s a ((h4 a).mpr (.inl ⟨q,rfl⟩)))
 | o,.tup ds,v,R,h,s=>by
  unfold Rep at h ⊢;obtain⟨a,vs,e,h1,h2⟩:=h;exact⟨a,vs,e,h1,AC.freeze h2 s⟩
 | o,.lst ds,v,R,h,s=>by
  unfold Rep at h ⊢;obtain⟨a,vs,R',e,h1,h2,h3,h5⟩:=h;refine⟨a,vs,xM,e,⟨h1.1,fun _=>?_,fun z=>(z rfl).elim⟩,AC.freeze h2 (fun b q=>s b ((h5 b).mpr (.inr q))),fun z=>z,fun b=>⟨fun z=>z.elim,fun z=>z.elim (fun q=>(q.1 rfl).elim) id⟩⟩
  by_cases q:o=0
  ·exact .inl (h1.2.1 q)
  ·exact .inr (s a ((h5 a).mpr (.inl ⟨q,rfl⟩)))
 | o,.yR ks ds,v,R,h,s=>by
  unfold Rep at h ⊢;obtain⟨a,vs,e,h1,h2,h3,⟨h5,R',h6⟩,h4⟩:=h;refine⟨a,vs,e,h1,fun _=>?_,fun z=>(z rfl).elim,⟨h5,xM,AC.freeze h6 fun b q=>(AC.xq h6 b q).elim⟩,fun b=>⟨fun z=>z.elim,fun z=>(z.1 rfl).elim⟩⟩
  by_cases q:o=0
  ·exact .inl (h2 q)
  ·exact .inr (s a ((h4 a).mpr ⟨q,rfl⟩))
theorem AC.freeze{P:Fp}:∀{o:Nat} {ds:List Dv} {vs:List V} {R:Fp},AC K g H o ds vs R->(∀a,R a->P a)->AC K (g.add P) H 0 ds vs xM
 | _,[],vs,R,h,_=>by unfold AC at h ⊢;exact⟨h.1,fun _ z=>z⟩
 | o,d::ds,vs,R,h,s=>by
  unfold AC at h ⊢;obtain⟨v,r,P1,P2,e,h1,h2,h3,h4⟩:=h;exact⟨v,r,xM,xM,e,Rep.freeze h1 (fun a q=>s a ((h4 a).mpr (.inl q))),AC.freeze h2 (fun a q=>s a ((h4 a).mpr (.inr q))),fun _ z=>z.elim,fun a=>⟨fun z=>z.elim,fun z=>z.elim id id⟩⟩
end
theorem Step.freeze{P:Fp}(ok:xS g H P):Step g P H (g.add P) xM H:=
 ⟨fun _ _ h _=>h,fun _ h=>h,fun _ h=>.inl h,fun a h=>h.elim .inl fun q=>.inr (.inl q),⟨[],by show g.μ=_;simp⟩,fun _ h=>h.elim,fun z a h q=>h.elim (fun h=>z a h q) fun h=>by have:=(ok a h).1;rw[q] at this;exact this,fun _ _ _ fs h=>⟨fs,h,fun _ _ z=>z⟩⟩
theorem AC.nil{o:Nat}:AC K g H o [] [] xM:=by unfold AC;exact⟨rfl,fun _ z=>z⟩
theorem AC.cons{o:Nat}{d:Dv}{v:V}{ds:List Dv}{vs:List V}{P1 P2:Fp}(h1:Rep K g H o d v P1)(h2:AC K g H o ds vs P2)(n:Bi P1 P2):AC K g H o (d::ds) (v::vs) fun a=>P1 a\/P2 a:=by
 unfold AC;exact⟨v,vs,P1,P2,rfl,h1,h2,n,fun _=>i7⟩
theorem AC.len:∀{o:Nat} {ds:List Dv} {vs:List V} {R:Fp},AC K g H o ds vs R->ds.length=vs.length
 | _,[],vs,R,h=>by unfold AC at h;rw[h.1];rfl
 | _,d::ds,vs,R,h=>by
  unfold AC at h;obtain⟨v,r,P1,P2,rfl,h1,h2,_⟩:=h;simp[h2.len]
theorem AC.get:∀{o:Nat} {ds:List Dv} {vs:List V} {R:Fp} {i:Nat} {d:Dv},AC K g H o ds vs R->ds[i]?=some d->∃v P,vs[i]?=some v/\Rep K g H o d v P/\∀a,P a->R a
 | _,[],_,_,_,_,_,e=>by simp at e
 | _,d::ds,vs,R,i,d',h,e=>by
  unfold AC at h;obtain⟨v,r,P1,P2,rfl,h1,h2,_,h4⟩:=h;cases i with
  | zero=>simp at e;subst e;exact⟨v,P1,rfl,h1,fun a q=>(h4 a).mpr (.inl q)⟩
  | succ i =>
   obtain⟨v',P,e',h',s⟩:=h2.get (i:=i) (by simpa using e);exact⟨v',P,by simpa using e',h',fun a q=>(h4 a).mpr (.inr (s a q))⟩
theorem AC.app:∀{o:Nat} {ds es:List Dv} {vs us:List V} {P Q:Fp},AC K g H o ds vs P->AC K g H o es us Q->Bi P Q->AC K g H o (ds++es) (vs++us) fun a=>P a\/Q a
 | _,[],es,vs,us,P,Q,h,k,_=>by
  unfold AC at h;obtain⟨rfl,n⟩:=h;exact k.iff fun a=>⟨fun z=>z.elim (fun q=>(n a q).elim) id,.inr⟩
 | _,d::ds,es,vs,us,P,Q,h,k,n=>by
  unfold AC at h;obtain⟨v,r,P1,P2,rfl,h1,h2,h3,h4⟩:=h;have t:=AC.app h2 k fun a q z=>n a ((h4 a).mpr (.inr q)) z
  refine(AC.cons h1 t fun a q z=>z.elim (fun z=>h3 a q z) fun z=>n a ((h4 a).mpr (.inl q)) z).iff fun a=>?_
  rw[h4 a,or_assoc]
end
noncomputable abbrev M:=List Dv
noncomputable abbrev Gm:=List (Option Nat)
noncomputable def M.at(m:M)(i:Nat):Dv:=m.getD i .xQ
structure zEa (K:W.Frag) (g:G) (H:Hp) (Γ:Gm) (ρ:List Dv) (σ:St) (F:Nat->Fp):Prop where
 l1:ρ.length=Γ.length
 l2:σ.length=Γ.length
 rep:∀i o,Γ[i]?=some (some o)->∃d v,ρ[i]?=some d/\σ[i]?=some (some v)/\Rep K g H o d v (F i)
 out:∀i,(∀o,Γ[i]?≠some (some o))->∀a,¬F i a
 dj:∀i j,i≠j->Bi (F i) (F j)
def Rel(K:W.Frag)(g:G)(H:Hp)(Γ:Gm)(m:M)(σ:St)(P:Fp):Prop:=Zd g H/\∃F,zEa K g H Γ m σ F/\∀a,P a↔∃i,F i a
theorem Er{α:Type}{l:List α}{i j:Nat}{x y:α}(h:(l.set i x)[j]?=some y):(i=j/\y=x)\/(i≠j/\l[j]?=some y):=by
 by_cases e:i=j
 ·subst e;refine .inl ⟨rfl,?_⟩;rw[vM] at h;simp only[if_true] at h;split at h
  ·exact(D0 h).symm
  ·cases h
 ·rw[D9 e] at h;exact .inr ⟨e,h⟩
theorem LV{m:M}{i:Nat}{d:Dv}(h:m[i]?=some d):m.at i=d:=by unfold M.at;rw[D7,h];rfl
section
variable {K:W.Frag} {g g':G} {H H':Hp} {Γ:Gm} {m:M} {σ:St} {P:Fp}
theorem Rel.zd(h:Rel K g H Γ m σ P):Zd g H:=h.1
theorem Rel.len(h:Rel K g H Γ m σ P):m.length=Γ.length/\σ.length=Γ.length:=let ⟨_,_,h1,_⟩:=h;⟨h1.l1,h1.l2⟩
theorem Rel.xO(h:Rel K g H Γ m σ P):xS g H P:=by
 obtain⟨_,F,h1,h4⟩:=h;intro a q;obtain⟨i,z⟩:=(h4 a).mp q
 by_cases e:∃o,Γ[i]?=some (some o)
 ·obtain⟨o,e⟩:=e;obtain⟨d,v,_,_,r⟩:=h1.rep i o e;exact r.xO a z
 ·exact(h1.out i (fun o z=>e ⟨o,z⟩) a z).elim
theorem Rel.held{P' R:Fp}(s:Step g P H g' P' H')(ok:xS g H P)(h:Rel K g H Γ m σ R)(n:Bi R P):Rel K g' H' Γ m σ R:=by
 obtain⟨zd,F,h1,h4⟩:=h;refine⟨s.zd zd,F,⟨h1.l1,h1.l2,fun i o e=>?_,h1.out,h1.dj⟩,h4⟩;obtain⟨d,v,e1,e2,r⟩:=h1.rep i o e;exact⟨d,v,e1,e2,r.held s ok fun a q z=>n a ((h4 a).mpr ⟨i,q⟩) z⟩
theorem Rel.same(h:Rel K g H Γ m σ P)(s:Oq H H'):Rel K g H' Γ m σ P:=h.held (Step.same (P:=xM) s) xS.xM fun _ _ z=>z
theorem Rel.z7{i o:Nat}(h:Rel K g H Γ m σ P)(e:Γ[i]?=some (some o)):∃v P1,σ[i]?=some (some v)/\Rep K g H o (m.at i) v P1/\∀a,P1 a->P a:=by
 obtain⟨_,F,h1,h4⟩:=h;obtain⟨d,v,e1,e2,r⟩:=h1.rep i o e;exact⟨v,F i,e2,by rw[LV e1];exact r,fun a q=>(h4 a).mpr ⟨i,q⟩⟩
theorem Rel.agree{m2:M}(h:Rel K g H Γ m σ P)(hl:m2.length=m.length)(ha:∀i o,Γ[i]?=some (some o)->m2.at i=m.at i):Rel K g H Γ m2 σ P:=by
 obtain⟨zd,F,h1,h4⟩:=h;refine⟨zd,F,⟨hl.trans h1.l1,h1.l2,fun i o e=>?_,h1.out,h1.dj⟩,h4⟩;obtain⟨d,v,e1,e2,r⟩:=h1.rep i o e;have hi:i < m2.length:=by rw[hl];exact(B3.mp e1).1
 refine⟨d,v,?_,e2,r⟩;have:=ha i o e;unfold M.at at this;rw[D7,D7,e1,A3 hi] at this;rw[A3 hi];exact congrArg some this
theorem Rel.drop(i:Nat)(d:Dv)(x:Option V)(h:Rel K g H Γ m σ P):∃P2,Rel K g H (Γ.set i none) (m.set i d) (σ.set i x) P2/\∀a,P2 a->P a:=by
 obtain⟨zd,F,h1,h4⟩:=h;refine⟨fun a=>∃j,j≠i/\F j a,⟨zd,fun j a=>j≠i/\F j a,⟨by rw[D1,D1,h1.l1],by rw[D1,D1,h1.l2],fun j o e=>?_,fun j e a q=>?_,fun j k n a q z=>h1.dj j k n a q.2 z.2⟩,fun _=>i7⟩,fun a ⟨j,_,q⟩=>(h4 a).mpr ⟨j,q⟩⟩
 ·rcases Er e with⟨_,z⟩ | ⟨n,e⟩
  ·cases z
  ·obtain⟨d',v,e1,e2,r⟩:=h1.rep j o e;have eq:(fun a=>j≠i/\F j a)=F j:=funext fun a=>propext ⟨fun z=>z.2,fun z=>⟨fun q=>n q.symm,z⟩⟩
   exact⟨d',v,by rw[D9 n];exact e1,by rw[D9 n];exact e2,by show Rep K g H o d' v (fun a=>j≠i/\F j a);rw[eq];exact r⟩
 ·refine h1.out j (fun o z=>e o ?_) a q.2;rw[D9 fun z=>q.1 z.symm];exact z
theorem Rel.fill{i o:Nat}{d:Dv}{v:V}{P1:Fp}(h:Rel K g H Γ m σ P)(e:Γ[i]?=some none)(hd:m[i]?=some d)(hv:σ[i]?=some (some v))(r:Rep K g H o d v P1)(n:Bi P1 P):Rel K g H (Γ.set i (some o)) m σ fun a=>P1 a\/P a:=by
 obtain⟨zd,F,h1,h4⟩:=h;have fi:∀a,¬F i a:=h1.out i fun o z=>by rw[e] at z;cases z
 have hi:i < Γ.length:=(B3.mp e).1;refine⟨zd,fun j a=>if j=i then P1 a else F j a,⟨by rw[D1];exact h1.l1,by rw[D1];exact h1.l2,fun j o' e'=>?_,fun j e' a q=>?_,fun j k nn a q z=>?_⟩,fun a=>?_⟩
 ·rcases Er e' with⟨rfl,z⟩ | ⟨nn,e'⟩
  ·cases z;have eq:(fun a=>if i=i then P1 a else F i a)=P1:=funext fun a=>by rw[if_pos rfl]
   exact⟨d,v,hd,hv,by show Rep K g H o d v fun a=>if i=i then P1 a else F i a;rw[eq];exact r⟩
  ·obtain⟨d',v',e1,e2,r'⟩:=h1.rep j o' e';have eq:(fun a=>if j=i then P1 a else F j a)=F j:=funext fun a=>by rw[if_neg fun z=>nn z.symm]
   exact⟨d',v',e1,e2,by show Rep K g H o' d' v' fun a=>if j=i then P1 a else F j a;rw[eq];exact r'⟩
 ·by_cases z:j=i
  ·subst z;exact e' o (E8 hi)
  ·simp only[if_neg z] at q;exact h1.out j (fun o' z'=>e' o' (by rw[D9 fun w=>z w.symm];exact z')) a q
 ·by_cases zj:j=i
  ·by_cases zk:k=i
   ·exact nn (zj.trans zk.symm)
   ·simp only[if_pos zj,if_neg zk] at q z;exact n a q ((h4 a).mpr ⟨k,z⟩)
  ·by_cases zk:k=i
   ·simp only[if_neg zj,if_pos zk] at q z;exact n a z ((h4 a).mpr ⟨j,q⟩)
   ·simp only[if_neg zj,if_neg zk] at q z;exact h1.dj j k nn a q z
 ·show P1 a\/P a↔_;rw[h4 a];refine⟨fun z=>?_,fun⟨j,z⟩=>?_⟩
  ·rcases z with z | ⟨j,z⟩
   ·exact⟨i,by simp only[if_true];exact z⟩
   ·have:j≠i:=fun w=>fi a (w▸z)
    exact⟨j,by simp only[if_neg this];exact z⟩
  ·by_cases zj:j=i
   ·simp only[if_pos zj] at z;exact .inl z
   ·simp only[if_neg zj] at z;exact .inr ⟨j,z⟩
theorem CW{α:Type}{l:List α}{i:Nat}{x:α}(h:l[i]?=some x):l.set i x=l:=by
 apply vI;intro j
 by_cases e:i=j
 ·subst e;rw[E8 (B3.mp h).1,h]
 ·rw[D9 e]
theorem Rel.take{i o:Nat}(h:Rel K g H Γ m σ P)(e:Γ[i]?=some (some o)):∃v P1 P2,σ[i]?=some (some v)/\m[i]?=some (m.at i)/\Rep K g H o (m.at i) v P1/\Rel K g H (Γ.set i none) m σ P2/\Bi P1 P2/\∀a,P a↔P1 a\/P2 a:=by
 obtain⟨zd,F,h1,h4⟩:=h;obtain⟨d,v,e1,e2,r⟩:=h1.rep i o e;refine⟨v,F i,fun a=>∃j,j≠i/\F j a,e2,by rw[LV e1];exact e1,by rw[LV e1];exact r,⟨zd,fun j a=>j≠i/\F j a,⟨by rw[D1];exact h1.l1,by rw[D1];exact h1.l2,fun j o' e'=>?_,fun j e' a q=>?_,fun j k n a q z=>h1.dj j k n a q.2 z.2⟩,fun _=>i7⟩,fun a q ⟨j,n,z⟩=>h1.dj i j (fun w=>n w.symm) a q z,fun a=>?_⟩
 ·rcases Er e' with⟨_,z⟩ | ⟨n,e'⟩
  ·cases z
  ·obtain⟨d',v',e3,e4,r'⟩:=h1.rep j o' e';have eq:(fun a=>j≠i/\F j a)=F j:=funext fun a=>propext ⟨fun z=>z.2,fun z=>⟨fun q=>n q.symm,z⟩⟩
   exact⟨d',v',e3,e4,by show Rep K g H o' d' v' (fun a=>j≠i/\F j a);rw[eq];exact r'⟩
 ·exact h1.out j (fun o' z=>e' o' (by rw[D9 fun w=>q.1 w.symm];exact z)) a q.2
 ·rw[h4 a];refine⟨fun⟨j,z⟩=>?_,fun z=>?_⟩
  ·by_cases zj:j=i
   ·exact .inl (zj▸z)
   ·exact .inr ⟨j,zj,z⟩
  ·rcases z with z | ⟨j,_,z⟩
   ·exact⟨i,z⟩
   ·exact⟨j,z⟩
theorem EL{α:Type}(l:List α)(i:Nat)(x y:α):(l.set i x).set i y=l.set i y:=List.set_set ..
theorem Rel.zD{Pv:Fp}{i o:Nat}{d:Dv}{v:V}(h:Rel K g H Γ m σ P)(hi:i < Γ.length)(hv:Rep K g H o d v Pv)(n:Bi Pv P) :
    ∃P2,Rel K g H (Γ.set i (some o)) (m.set i d) (σ.set i (some v)) P2/\∀a,P2 a->P a\/Pv a:=by
  obtain⟨P2,h2,s⟩:=h.drop i d (some v);have l:=h.len;have:=h2.fill (i:=i) (E8 hi) (E8 (by omega)) (E8 (by omega)) hv fun a q z=>n a q (s a z)
  rw[EL] at this;exact⟨_,this,fun a q=>q.elim .inr fun q=>.inl (s a q)⟩
theorem Rel.putIn{P1:Fp}{i o:Nat}{d:Dv}{v:V}(h:Rel K g H (Γ.set i none) m σ P)(hi:i < Γ.length)(hv:σ[i]?=some (some v))(r:Rep K g H o d v P1)(n:Bi P1 P):∃P2,Rel K g H (Γ.set i (some o)) (m.set i d) σ P2/\∀a,P2 a->P1 a\/P a:=by
 obtain⟨P2,h2,s⟩:=h.drop i d (some v);rw[CW hv] at h2;have l:=h.len;rw[D1] at l;have h3:=h2.fill (i:=i) (by rw[EL];exact E8 hi) (E8 (by omega)) hv r fun a q z=>n a q (s a z)
 rw[EL,EL] at h3;exact⟨_,h3,fun a q=>q.elim .inl fun q=>.inr (s a q)⟩
theorem Rel.freeze{i o:Nat}(h:Rel K g H Γ m σ P)(e:Γ[i]?=some (some o)):∃g' P' v,Step g P H g' P' H/\Rel K g' H (Γ.set i (some 0)) m σ P'/\σ[i]?=some (some v)/\Rep K g' H 0 (m.at i) v xM:=by
 obtain⟨v,P1,P2,ev,ed,r,r2,n,hP⟩:=h.take e;have st:Step g P1 H (g.add P1) xM H:=Step.freeze r.xO;have fr:Rep K (g.add P1) H 0 (m.at i) v xM:=r.freeze fun _ q=>q
 have r3:=r2.held st r.xO fun a q z=>n a z q
 have hi:i < Γ.length:=(B3.mp e).1;have r4:=r3.fill (i:=i) (E8 hi) ed ev fr fun _ z=>z.elim
 rw[EL] at r4;refine⟨_,_,v,?_,r4,ev,fr⟩;exact(st.frame (R:=P2)).sub (fun a q=>(hP a).mpr q) fun a q=>q.elim (fun z=>z.elim) .inr
def Bv:Gm->Gm->Bool
 | [],[]=>true
 | none::a,_::b=>Bv a b
 | some o::a,some o'::b=>(o == 0 || o == o') && Bv a b
 | _,_=>false
theorem FI:∀{a b:Gm},Bv a b=true->a.length=b.length
 | [],[],_=>rfl
 | none::a,_::b,h=>by unfold Bv at h;simp[FI h]
 | some o::a,some o'::b,h=>by unfold Bv at h;simp[FI (O4.mp h).2]
 | [],_::_,h=>by cases h
 | some _::_,none::_,h=>by cases h
 | some _::_,[],h=>by cases h
 | none::_,[],h=>by cases h
theorem GJ:∀{a b:Gm} {i o:Nat},Bv a b=true->a[i]?=some (some o)->∃o',b[i]?=some (some o')/\(o=0\/o=o')
 | [],_,i,o,_,e=>by simp at e
 | none::a,x::b,i,o,h,e=>by
  unfold Bv at h;cases i with
  | zero=>simp at e
  | succ i=>obtain⟨o',e',z⟩:=GJ (i:=i) h (by simpa using e);exact⟨o',by simpa using e',z⟩
 | some p::a,some p'::b,i,o,h,e=>by
  unfold Bv at h;rw[A2] at h;cases i with
  | zero =>
   simp at e;subst e;refine⟨p',rfl,?_⟩;have:=h.1;rw[vz,beq_iff_eq,beq_iff_eq] at this;exact this
  | succ i=>obtain⟨o',e',z⟩:=GJ (i:=i) h.2 (by simpa using e);exact⟨o',by simpa using e',z⟩
 | some _::_,none::_,_,_,h,_=>by cases h
 | some _::_,[],_,_,h,_=>by cases h
 | none::_,[],_,_,h,_=>by cases h
theorem Rel.weaken{Γ':Gm}(h:Rel K g H Γ m σ P)(e:Bv Γ' Γ=true):∃g' P',Step g P H g' P' H/\Rel K g' H Γ' m σ P':=by
 have ok:=h.xO;obtain⟨zd,F,h1,h4⟩:=h
 let D:Fp:=fun a=>∃i,Γ'[i]?=some (some 0)/\F i a
 have okD:xS g H D:=fun a ⟨i,_,q⟩=>ok a ((h4 a).mpr ⟨i,q⟩)
 have st:Step g D H (g.add D) xM H:=Step.freeze okD
 let F':Nat->Fp:=fun i a=>(∃o,Γ'[i]?=some (some (o+1)))/\F i a
 refine⟨g.add D,fun a=>∃i,F' i a,?_,st.zd zd,F',⟨by rw[FI e];exact h1.l1,by rw[FI e];exact h1.l2,fun i o ei=>?_,fun i ei a q=>?_,fun i j n a q z=>h1.dj i j n a q.2 z.2⟩,fun _=>i7⟩
 ·refine(st.frame (R:=fun a=>∃i,F' i a)).sub (fun a q=>?_) fun a q=>.inr q
  rcases q with⟨i,_,q⟩ | ⟨i,q⟩
  ·exact(h4 a).mpr ⟨i,q⟩
  ·exact(h4 a).mpr ⟨i,q.2⟩
 ·obtain⟨o',eo,z⟩:=GJ e ei;obtain⟨d,v,e1,e2,r⟩:=h1.rep i o' eo;refine⟨d,v,e1,e2,?_⟩;cases o with
  | zero =>
   have eq:F' i=xM:=FF fun a ⟨⟨o,w⟩,_⟩=>by rw[ei] at w;cases w
   rw[eq];exact r.freeze fun a q=>⟨i,ei,q⟩
  | succ o =>
   have eq:F' i=F i:=funext fun a=>propext ⟨fun w=>w.2,fun w=>⟨⟨o,ei⟩,w⟩⟩
   rcases z with z | z
   ·cases z
   ·subst z;rw[eq];refine r.held st okD fun a q ⟨j,ej,z⟩=>?_
    by_cases w:i=j
    ·subst w;rw[ei] at ej;cases ej
    ·exact h1.dj i j w a q z
 ·obtain⟨⟨o,w⟩,_⟩:=q;exact ei _ w
end
theorem PE.imp{X:Cx}{e:Expr}{t t':TE}(h:PE X e t)(k:∀σ H Q,t' σ H Q->t σ H Q):PE X e t':=fun pins s σ H Q I q=>h pins s σ H Q I (k σ H Q q)
theorem PT.imp{X:Cx}{e:Expr}{t t':TT}(h:PT X e t)(k:∀σ H Q,t' σ H Q->t σ H Q):PT X e t':=fun pins s σ H Q I q=>h pins s σ H Q I (k σ H Q q)
theorem PW.imp{X:Cx}{e:Expr}{t t':TT}(h:PW X e t)(k:∀σ H Q,t' σ H Q->t σ H Q):PW X e t':=fun wh pins s σ H Q I q=>h wh pins s σ H Q I (k σ H Q q)
theorem PS.imp{X:Cx}{e:M4}{t t':TS}(h:PS X e t)(k:∀D σ H,t' D σ H->t D σ H):PS X e t':=fun pins s σ H D I q=>h pins s σ H D I (k D σ H q)
theorem Ej.imp{X:Cx}{e:List M4}{t t':TS}(h:Ej X e t)(k:∀D σ H,t' D σ H->t D σ H):Ej X e t':=fun pins s σ H D I q=>h pins s σ H D I (k D σ H q)
noncomputable abbrev Ev(α:Type):=(R:Type)->M->(α->M->Option R)->Option R
def Ba(js:List Nat)(m m':M):Prop:=m'.length=m.length/\∀i,i∉js->m'.at i=m.at i
theorem Ba.refl{js:List Nat}{m:M}:Ba js m m:=⟨rfl,fun _ _=>rfl⟩
theorem Ba.trans{js ks:List Nat}{m m1 m2:M}(a:Ba js m m1)(b:Ba ks m1 m2):Ba (js++ks) m m2:=⟨b.1.trans a.1,fun i h=>(b.2 i fun z=>h (B4 _ z)).trans (a.2 i fun z=>h (C3 _ z))⟩
theorem Ba.set{m:M}{i:Nat}{d:Dv}:Ba [i] m (m.set i d):=⟨D1 ..,fun j h=>by
 have n:i≠j:=fun z=>h (by rw[z];exact W4 _)
 unfold M.at;rw[D7,D7,D9 n]⟩
theorem Ba.mono{js ks:List Nat}{m m1:M}(a:Ba js m m1)(h:∀i∈js,i∈ks):Ba ks m m1:=⟨a.1,fun i n=>a.2 i fun z=>n (h i z)⟩
def tE(K:W.Frag)(Γ:Gm)(o:Nat)(Γ':Gm)(js:List Nat)(f:Ev Dv):TE:=fun σ H Q=>∃g m P,Rel K g H Γ m σ P/\∃(R:Type) (k:Dv->M->Option R) (r:R),f R m k=some r /\
 ∀d m' g' P' Pv v H',k d m'=some r->Ba js m m'->Step g P H g' (fun a=>P' a\/Pv a) H'->Rep K g' H' o d v Pv->Rel K g' H' Γ' m' σ P'->Bi P' Pv->Q v H'
def tT(K:W.Frag)(Γ Γ':Gm)(js:List Nat)(f:Ev Bool):TT:=fun σ H Q=>∃g m P,Rel K g H Γ m σ P/\∃(R:Type) (k:Bool->M->Option R) (r:R),f R m k=some r /\
 ∀b m' g' P' H',k b m'=some r->Ba js m m'->Step g P H g' P' H'->Rel K g' H' Γ' m' σ P'->Q b H'
noncomputable def Tw(f:Str):List Str->List Dv->Option Dv
 | n::ns,d::ds=>if f == n then some d else Tw f ns ds
 | _,_=>none
noncomputable def Nz(f:Str)(x:Dv):List Str->List Dv->List Dv
 | n::ns,d::ds=>if f == n then x::ds else d::Nz f x ns ds
 | _,ds=>ds
def GP(d:Dv)(f:Str):Option Dv:=match d with
 | .obj _ _ nm xs=>Tw f nm xs
 | _=>none
def BY(d:Dv)(f:Str)(x:Dv):Dv:=match d with
 | .obj c fl nm xs=>.obj c fl nm (Nz f x nm xs)
 | d=>d
noncomputable def bo:Dv->Bool
 | .lst _=>true
 | .yR _ _=>true
 | .dtt _ _=>true
 | .zo _ _=>true
 | .tup _=>true
 | .obj _ _ _ _=>true
 | _=>false
def Br(d:Dv)(f:Str):Bool:=match GP d f with
 | some x=>bo x
 | none=>false
section
variable {K:W.Frag} {g:G} {H:Hp}
theorem JT{o:Nat}{d:Dv}{v:V}{P:Fp}(h:Rep K g H o d v P)(e:bo d=true):∃r,v=.ref r:=by
 cases d with
 | lst _=>unfold Rep at h;obtain⟨a,_,_,e,_⟩:=h;exact⟨a,e⟩
 | tup _=>unfold Rep at h;obtain⟨a,_,e,_⟩:=h;exact⟨a,e⟩
 | yR _ _=>unfold Rep at h;obtain⟨a,_,e,_⟩:=h;exact⟨a,e⟩
 | dtt _ _=>unfold Rep at h;obtain⟨a,_,e,_⟩:=h;exact⟨a,e⟩
 | zo _ _=>unfold Rep at h;obtain⟨a,_,e,_⟩:=h;exact⟨a,e⟩
 | obj _ _ _ _=>unfold Rep at h;obtain⟨a,_,_,_,e,_⟩:=h;exact⟨a,e⟩
 | _=>cases e
theorem OA{f:Str}{o:Nat}:∀{nm:List Str} {ds:List Dv} {vs:List V} {P:Fp} {d:Dv},AC K g H o ds vs P->Tw f nm ds=some d ->
    ∃v P1 P2,(nm.zip vs).lookup f=some v/\Rep K g H o d v P1/\Bi P1 P2/\(∀a,P a↔P1 a\/P2 a)/\∀{g':G} {H':Hp} {y:Dv} {P1':Fp},Step g P1 H g' P1' H'->Rep K g' H' o y v P1'->AC K g' H' o (Nz f y nm ds) vs fun a=>P1' a\/P2 a
  | [],ds,vs,P,d,h,e=>by cases ds<;>cases e
  | n::nm,[],vs,P,d,h,e=>by cases e
  | n::nm,x::ds,vs,P,d,h,e=>by
    unfold AC at h;obtain⟨v,r,P1,P2,rfl,h1,h2,h3,h4⟩:=h;unfold Tw at e;rw[J8,G1];cases c:f == n with
    | true =>
      rw[c] at e;simp only[if_true] at e;cases e;refine⟨v,P1,P2,rfl,h1,h3,h4,fun{g' H' y P1'} st ry=>?_⟩;unfold Nz;rw[c];simp only[if_true];have n3:=st.out h2.xO fun a q z=>h3 a z q
      exact AC.cons ry (h2.held st h1.xO fun a q z=>h3 a z q) fun a q z=>n3 a z q
    | false =>
      rw[c] at e;simp only[B0,if_false] at e;obtain⟨w,Q1,Q2,e1,e2,e3,e4,e5⟩:=OA h2 e;refine⟨w,Q1,fun a=>P1 a\/Q2 a,e1,e2,fun a q z=>z.elim (fun z=>h3 a z ((e4 a).mpr (.inl q))) fun z=>e3 a q z,fun a=>?_,fun{g' H' y P1'} st ry=>?_⟩
      · rw[h4 a,e4 a];exact⟨fun z=>z.elim (fun z=>.inr (.inl z)) fun z=>z.elim .inl fun z=>.inr (.inr z),fun z=>z.elim (fun z=>.inr (.inl z)) fun z=>z.elim .inl fun z=>.inr (.inr z)⟩
      · unfold Nz;rw[c];simp only[B0,if_false];have d1:Bi P1 Q1:=fun a q z=>h3 a q ((e4 a).mpr (.inl z))
        have n1:=st.out h1.xO d1;refine(AC.cons (h1.held st e2.xO d1) (e5 st ry) fun a q z=>z.elim (fun z=>n1 a q z) fun z=>h3 a q ((e4 a).mpr (.inr z))).iff fun a=>?_
        exact⟨fun z=>z.elim (fun z=>.inr (.inl z)) fun z=>z.elim .inl fun z=>.inr (.inr z),fun z=>z.elim (fun z=>.inr (.inl z)) fun z=>z.elim .inl fun z=>.inr (.inr z)⟩
theorem Dp{f:Str}{o:Nat}{x d:Dv}{v:V}{P:Fp}(h:Rep K g H o x v P)(hf:GP x f=some d):∃a C dx fs w P1 P2,v=.ref a/\H a=some (.ins C dx fs)/\Cls K C/\El K C f/\fs.lookup f=some w/\Rep K g H o d w P1/\Bi P1 P2/\(∀b,P b↔P1 b\/P2 b) /\
    ∀{g':G} {H':Hp} {y:Dv} {P1':Fp},Step g P1 H g' P1' H'->Rep K g' H' o y w P1'->Rep K g' H' o (BY x f y) v fun a=>P1' a\/P2 a:=by
  cases x with
  | obj c fl nm xs =>
    have ok:=h.xO;unfold Rep at h;obtain⟨a,dx,vs,R',rfl,h1,h2,h3,⟨hc,hl,hn⟩,h6,h7,h4⟩:=h;obtain⟨w,P1,P2,e1,e2,e3,e4,e5⟩:=OA h6 hf;have mem:f∈nm:=by
      have go:∀{nm:List Str} {xs:List Dv},Tw f nm xs=some d->f∈nm:=by
        intro nm
        induction nm with
        | nil=>intro xs e;cases xs<;>cases e
        | cons n nm ih =>
          intro xs e;cases xs with
          | nil=>cases e
          | cons x xs =>
            unfold Tw at e;split at e
            · rename_i z;rw[beq_iff_eq.mp z];exact B2
            · exact A7 _ (ih e)
      exact go hf
    have len:∀{nm:List Str} {xs:List Dv} {y:Dv},nm.length=xs.length->nm.length=(Nz f y nm xs).length:=by
      intro nm
      induction nm with
      | nil=>intro xs y e;cases xs<;>first | rfl | cases e
      | cons n nm ih =>
        intro xs y e;cases xs with
        | nil=>cases e
        | cons x xs =>
          unfold Nz;split
          · exact e
          · simp[ih (y:=y) (by simpa using e)]
    refine⟨a,_,dx,_,w,P1,fun b=>(o≠0/\b=a)\/P2 b,rfl,h1,hc.1,hc.2 f (hn f mem),e1,e2,fun b q z=>z.elim (fun z=>h7 ((e4 a).mpr (.inl (z.2▸q)))) fun z=>e3 b q z,fun b=>?_,fun{g' H' y P1'} st ry=>?_⟩
    · rw[h4 b,e4 b];exact⟨fun z=>z.elim (fun z=>.inr (.inl z)) fun z=>z.elim .inl fun z=>.inr (.inr z),fun z=>z.elim (fun z=>.inr (.inl z)) fun z=>z.elim .inl fun z=>.inr (.inr z)⟩
    · have na:¬P1 a:=fun z=>h7 ((e4 a).mpr (.inl z))
      have na':¬P1' a:=fun z=>(st.nw a z).elim na fun z=>by rw[h1] at z;cases z
      show Rep K g' H' o (.obj c fl nm (Nz f y nm xs)) _ _;unfold Rep;refine⟨a,dx,vs,_,rfl,st.keep _ _ h1 na,fun q=>st.zm _ (h2 q),fun q z=>?_,⟨hc,len hl,hn⟩,e5 st ry,fun z=>z.elim na' fun z=>h7 ((e4 a).mpr (.inr z)),fun b=>?_⟩
      · rcases st.zn _ z with z | z | z
        · exact h3 q z
        · exact na z
        · rw[h1] at z;cases z
      · exact⟨fun z=>z.elim (fun z=>.inr (.inl z)) fun z=>z.elim .inl fun z=>.inr (.inr z),fun z=>z.elim (fun z=>.inr (.inl z)) fun z=>z.elim .inl fun z=>.inr (.inr z)⟩
  | _=>cases hf
end
inductive Ar:Type 1 where
 | rf (i:Nat)
 | ev (Γ Γ':Gm) (js:List Nat) (f:Ev Dv)
 | fd (i:Nat) (f:Str)
def Fk(K:W.Frag):Ar->TE
 | .rf i=>DE i
 | .ev Γ Γ' js f=>tE K Γ 0 Γ' js f
 | .fd i f=>Sg K (DE i) f
def BM(K:W.Frag):List Ar->TA
 | []=>Sd
 | a::as=>dS (Fk K a) (BM K as)
def AR:List Ar->Ev (List Dv)
 | [],_,m,k=>k [] m
 | .rf i::as,R,m,k=>AR as R m fun ds m1=>k (m1.at i::ds) m1
 | .ev _ _ _ f::as,R,m,k=>f R m fun d m1=>AR as R m1 fun ds m2=>k (d::ds) m2
 | .fd i f::as,R,m,k=>bif Br (m.at i) f then AR as R m fun ds m1=>(GP (m1.at i) f).bind fun d=>k (d::ds) m1 else none
def AD:Gm->List Ar->Gm->List Nat->Prop
 | Γ,[],Γ',js=>Γ'=Γ/\js=[]
 | Γ,.rf i::as,Γ',js=>(∃o,Γ[i]?=some (some o))/\(∃o,o<=1/\Γ'[i]?=some (some o))/\AD Γ as Γ' js
 | Γ,.ev xY xa js1 _::as,Γ',js=>xY=Γ/\∃js2,js=js1++js2/\AD xa as Γ' js2
 | Γ,.fd i _::as,Γ',js=>(∃o,Γ[i]?=some (some o))/\(∃o,o<=1/\Γ'[i]?=some (some o))/\AD Γ as Γ' js
def Ac(K:W.Frag)(g:G)(H:Hp)(Γ:Gm)(m:M)(σ:St):List Ar->List Dv->List V->Prop
 | [],ds,vs=>ds=[]/\vs=[]
 | .rf i::as,ds,vs=>∃v yA yk,ds=m.at i::yA/\vs=v::yk/\σ[i]?=some (some v)/\(∃o,o<=1/\Γ[i]?=some (some o))/\Ac K g H Γ m σ as yA yk
 | .ev _ _ _ _::as,ds,vs=>∃d v yA yk,ds=d::yA/\vs=v::yk/\Rep K g H 0 d v xM/\Ac K g H Γ m σ as yA yk
 | .fd i f::as,ds,vs=>∃d v yA yk,ds=d::yA/\vs=v::yk/\(GP (m.at i) f=some d/\∃a C dx fs,σ[i]?=some (some (.ref a))/\H a=some (.ins C dx fs)/\fs.lookup f=some v)/\(∃o,o<=1/\Γ[i]?=some (some o))/\Ac K g H Γ m σ as yA yk
theorem AM{K:W.Frag}{σ:St}:∀(as:List Ar) {g:G} {Γ Γ':Gm} {js:List Nat} {m:M} {P:Fp} {H:Hp} {R:Type} {k:List Dv->M->Option R} {r:R} {Q:List V->Hp->Prop},Rel K g H Γ m σ P->AD Γ as Γ' js->AR as R m k=some r ->
    (∀ds m' g' P' vs H',k ds m'=some r->Ba js m m'->Step g P H g' P' H'->Ac K g' H' Γ' m' σ as ds vs->Rel K g' H' Γ' m' σ P'->Q vs H')->BM K as σ H Q
  | [],g,Γ,Γ',js,m,P,H,R,k,r,Q,rl,c,e,q=>by
    unfold AD at c;obtain⟨rfl,rfl⟩:=c;exact q [] m g P [] H e Ba.refl Step.refl (by unfold Ac;exact⟨rfl,rfl⟩) rl
  | .rf i::as,g,Γ,Γ',js,m,P,H,R,k,r,Q,rl,c,e,q=>by
    unfold AD at c;obtain⟨⟨o,ho⟩,h2,c⟩:=c;obtain⟨v,_,hv,_⟩:=rl.z7 ho;refine⟨v,hv,AM as rl c e fun ds m' g' P' vs H' hk ag s ar r1=>q _ m' g' P' _ H' hk ag s ?_ r1⟩;unfold Ac;exact⟨v,ds,vs,rfl,rfl,hv,h2,ar⟩
  | .ev xY xa js1 f::as,g,Γ,Γ',js,m,P,H,R,k,r,Q,rl,c,e,q=>by
    unfold AD at c;obtain⟨rfl,js2,rfl,c⟩:=c;refine⟨g,m,P,rl,R,_,r,e,fun d m1 g1 P1 Pv v H1 hk ag s rv r1 n=>?_⟩;refine AM as r1 c hk fun ds m2 g2 P2 vs H2 x9 yY s2 ar r2=>q _ m2 g2 P2 _ H2 x9 (ag.trans yY) ((s.less fun _ q=>.inl q).trans s2) ?_ r2
    unfold Ac;exact⟨d,v,ds,vs,rfl,rfl,rv.z.held s2 r1.xO fun _ z=>z.elim,ar⟩
  | .fd i f::as,g,Γ,Γ',js,m,P,H,R,k,r,Q,rl,c,e,q=>by
    unfold AD at c;obtain⟨⟨o,ho⟩,h2,c⟩:=c;have e:(bif Br (m.at i) f then AR as R m fun ds m1=>(GP (m1.at i) f).bind fun d=>k (d::ds) m1 else none)=some r:=e;cases hr:Br (m.at i) f with
    | false=>rw[hr] at e;cases e
    | true =>
      rw[hr] at e;have e:(AR as R m fun ds m1=>(GP (m1.at i) f).bind fun d=>k (d::ds) m1)=some r:=e;unfold Br at hr;cases hd:GP (m.at i) f with
      | none=>rw[hd] at hr;cases hr
      | some d0 =>
        rw[hd] at hr;obtain⟨v0,P1,hv,rv,_⟩:=rl.z7 ho;obtain⟨a,C,dx,fs,w,_,_,rfl,h1,hc,hn,hl,yH,_⟩:=Dp rv hd;obtain⟨rr,rfl⟩:=JT yH hr;refine⟨_,hv,a,C,dx,fs,_,rfl,h1,hc,hn,hl,AM as rl c e fun ds m' g' P' vs H' hk ag s ar r1=>?_⟩;obtain⟨d,e1,e2⟩:=O8.mp hk;obtain⟨fs',h1',zu⟩:=s.ins a C dx fs h1;refine q _ m' g' P' _ H' e2 ag s ?_ r1;unfold Ac;exact⟨d,_,ds,vs,rfl,rfl,⟨e1,a,C,dx,fs',hv,h1',zu f rr hl⟩,h2,ar⟩
def RA(K:W.Frag)(g:G)(H:Hp):List Dv->List V->Prop
 | [],vs=>vs=[]
 | d::ds,vs=>∃v r o P,vs=v::r/\o<=1/\Rep K g H o d v P/\RA K g H ds r
def Af(K:W.Frag)(g:G)(H:Hp)(o:Nat)(d:Dv)(v:V)(H':Hp):Prop:=Oq H H'/\∃Pv,Rep K g H' o d v Pv/\∀a,Pv a->H a=none
noncomputable abbrev Pr:=List Dv->Option Dv
abbrev Qo:=List V->Hp->VK->Prop
def AJ(K:W.Frag)(p:Pr)(o:Nat)(R:Qo):Prop:=∀g H ds vs d Q,Zd g H->RA K g H ds vs->p ds=some d->(∀v H',Af K g H o d v H'->Q v H')->R vs H Q
def Fj(p:Pr)(fa:Ev (List Dv)):Ev Dv:=fun R m k=>fa R m fun ds m'=>(p ds).bind fun d=>k d m'
theorem xI.{u,v}{α:Type u}{β:Type v}{x:Option α}{f:α->Option β}{b:β}(h:x.bind f=some b):∃a,x=some a/\f a=some b:=O8.mp h
section
variable {K:W.Frag} {g:G} {H H':Hp} {σ:St} {Γ Γ':Gm} {m:M} {P:Fp}
theorem Ac.ra(r:Rel K g H Γ m σ P):∀{as:List Ar} {ds:List Dv} {vs:List V},Ac K g H Γ m σ as ds vs->RA K g H ds vs
 | [],ds,vs,h=>by unfold Ac at h;obtain⟨rfl,rfl⟩:=h;unfold RA;rfl
 | .ev _ _ _ f::as,ds,vs,h=>by
  unfold Ac at h;obtain⟨d,v,yA,yk,rfl,rfl,h1,h2⟩:=h;unfold RA;exact⟨v,yk,0,xM,rfl,by decide,h1,Ac.ra r h2⟩
 | .rf i::as,ds,vs,h=>by
  unfold Ac at h;obtain⟨v,yA,yk,rfl,rfl,h1,⟨o,hl,ho⟩,h3⟩:=h;obtain⟨v',P1,e,k,_⟩:=r.z7 ho;rw[h1] at e;cases e;unfold RA;exact⟨v,yk,o,P1,rfl,hl,k,Ac.ra r h3⟩
 | .fd i f::as,ds,vs,h=>by
  unfold Ac at h;obtain⟨d,v,yA,yk,rfl,rfl,⟨h1,a,C,dx,fs,hv,ha,hlk⟩,⟨o,hl,ho⟩,h3⟩:=h;obtain⟨v',P1,e,k,_⟩:=r.z7 ho;rw[hv] at e;cases e;obtain⟨a',C',dx',fs',w,Q1,Q2,ea,h1',_,_,zu,yH,_⟩:=Dp k h1;cases ea;rw[ha] at h1';cases h1';rw[hlk] at zu;cases zu;unfold RA;exact⟨v,yk,o,Q1,rfl,hl,yH,Ac.ra r h3⟩
theorem Af.go{g0:G}{P0:Fp}{H0:Hp}{o:Nat}{d:Dv}{v:V}(s:Step g0 P0 H0 g P H)(r:Rel K g H Γ m σ P)(n:Af K g H o d v H') :
    ∃Pv,Step g0 P0 H0 g (fun a=>P a\/Pv a) H'/\Rep K g H' o d v Pv/\Rel K g H' Γ m σ P/\Bi P Pv:=by
  obtain⟨sm,Pv,h1,h2⟩:=n;refine⟨Pv,s.trans ⟨fun b o h _=>sm b o h,(Step.same (g:=g) (P:=xM) sm).dom,fun _ h=>h,fun _ h=>.inl h,⟨[],by simp⟩,fun a h=>h.elim .inl fun q=>.inr (h2 a q),(Step.same (g:=g) (P:=xM) sm).zd,(Step.same (g:=g) (P:=xM) sm).ins⟩,h1,r.same sm,fun a q z=>r.xO.new (h2 a z) q⟩
theorem Cm{p:Pr}{o:Nat}{as:List Ar}{js:List Nat}{R:Qo}(hp:AJ K p o R)(c:AD Γ as Γ' js){Q:VK}(h:tE K Γ o Γ' js (Fj p (AR as)) σ H Q):BM K as σ H fun vs H1=>R vs H1 Q:=by
 obtain⟨g,m,P,r,R',k,res,e,q⟩:=h;refine AM as r c e fun ds m' g' P' vs H1 hk ag s ar r1=>?_
 obtain⟨d,e1,e2⟩:=xI hk;refine hp g' H1 ds vs d Q r1.zd (ar.ra r1) e1 fun v H2 nw=>?_
 obtain⟨Pv,s2,h1,r2,n2⟩:=Af.go s r1 nw;exact q d m' g' P' Pv v H2 e2 ag s2 h1 r2 n2
end
def LZ(r:R2):Qo:=fun vs H Q=>match vs with | [x,y]=>r x y H Q | _=>False
def pT(r:V->Hp->VK->Prop):Qo:=fun vs H Q=>match vs with | [x]=>r x H Q | _=>False
def OB(d:Dv):Ev Dv:=fun _ m k=>k d m
def Rx(i:Nat):Ev Dv:=fun _ m k=>k (m.at i) m
section
variable {X:Cx} {e:Expr} {Γ Γ':Gm} {js:List Nat} {o:Nat} {f:Ev Dv}
theorem lX{v:V}{d:Dv}(h:PE X e (tC v))(hd:∀g H,Rep X.K g H o d v xM):PE X e (tE X.K Γ o Γ [] (OB d)):=PE.imp h fun σ H Q q=>by
 obtain⟨g,m,P,r,R,k,res,e,q⟩:=q;exact q d m g P xM v H e Ba.refl (Step.refl.less fun _ q=>q.elim id E5) (hd g H) r fun _ _ z=>z
theorem mX{i:Nat}(h:PE X e (DE i)){o:Nat}(hi:Γ[i]?=some (some o)):PE X e (tE X.K Γ 0 (Γ.set i (some 0)) [] (Rx i)):=PE.imp h fun σ H Q q=>by
 obtain⟨g,m,P,r,R,k,res,e,q⟩:=q;obtain⟨g',P',v,s,r',ev,rv⟩:=r.freeze hi;exact⟨v,ev,q _ m g' P' xM v H e Ba.refl (s.less fun _ q=>q.elim id E5) rv r' fun _ _ z=>z⟩
theorem mZ{i:Nat}(h:PE X e (DE i))(hi:Γ[i]?=some (some o)):PE X e (tE X.K Γ o (Γ.set i none) [] (Rx i)):=PE.imp h fun σ H Q q=>by
 obtain⟨g,m,P,r,R,k,res,e,q⟩:=q;obtain⟨v,P1,P2,ev,_,rv,r2,n,hP⟩:=r.take hi;exact⟨v,ev,q _ m g P2 P1 v H e Ba.refl (Step.refl.less fun a q=>(hP a).mpr q.symm) rv r2 fun a q z=>n a z q⟩
theorem ES(h:PE X e (tE X.K Γ o Γ' js f)):PE X e (tE X.K Γ 0 Γ' js f):=PE.imp h fun σ H Q q=>by
 obtain⟨g,m,P,r,R,k,res,e,q⟩:=q;refine⟨g,m,P,r,R,k,res,e,fun d m' g' P' Pv v H' hk ag s rv r1 n=>?_⟩;have st:Step g' Pv H' (g'.add Pv) xM H':=Step.freeze rv.xO;refine q d m' (g'.add Pv) P' xM v H' hk ag (s.trans ?_) (rv.freeze fun _ q=>q) (r1.held st rv.xO n) fun _ _ z=>z
 exact(st.frame (R:=P')).sub (fun a q=>q.symm) fun a q=>q.elim .inr E5
end
def Ry(t:List Dv->Dv)(fa:Ev (List Dv)):Ev Dv:=fun R m k=>fa R m fun ds m'=>if ds.length<=1000000 then k (t ds) m' else none
noncomputable def QP:List Ar->Bool
 | []=>true
 | .ev _ _ _ _::as=>QP as
 | .rf _::_=>false
 | .fd _ _::_=>false
theorem Ac.zAQ{K:W.Frag}{g:G}{H:Hp}{Γ:Gm}{m:M}{σ:St}:∀{as:List Ar} {ds:List Dv} {vs:List V},QP as=true->Ac K g H Γ m σ as ds vs->AC K g H 0 ds vs xM
 | [],ds,vs,_,h=>by unfold Ac at h;obtain⟨rfl,rfl⟩:=h;exact AC.nil
 | .ev _ _ _ f::as,ds,vs,e,h=>by
  unfold Ac at h;obtain⟨d,v,yA,yk,rfl,rfl,h1,h2⟩:=h;exact(AC.cons h1 (Ac.zAQ (by unfold QP at e;exact e) h2) fun _ z=>z.elim).iff fun a=>⟨fun z=>z.elim,fun z=>z.elim id id⟩
 | .rf i::as,ds,vs,e,h=>by unfold QP at e;cases e
 | .fd i _::as,ds,vs,e,h=>by unfold QP at e;cases e
section
variable {X:Cx} {es:List Expr} {Γ Γ':Gm} {js:List Nat} {as:List Ar} {pos:Pos}
theorem mY{x1}(hq:PA X es (BM X.K as))(c:AD Γ as Γ' js)(he:QP as=true):PE X (.Tuple es x1 pos) (tE X.K Γ 1 Γ' js (Ry .tup (AR as))):=PE.imp (iL hq) fun σ H Q q=>by
 obtain⟨g,m,P,r,R,k,res,e,q⟩:=q;refine AM as r c e fun ds m' g' P' vs H1 hk ag s ar r1=>?_
 split at hk
 ·rename_i hz;have rp:=ar.zAQ he;refine⟨by rw[<- rp.len];exact A4 hz (by decide),fun p hp=>?_⟩;have sm:=Cb hp (.tup vs);have st:=Step.same (g:=g') (P:=xM) sm;refine q _ m' g' P' xM (.ref p) _ hk ag ((s.trans (Step.same sm)).less fun _ q=>q.elim id E5) ?_ (r1.same sm) fun _ _ z=>z
  unfold Rep;exact⟨p,vs,rfl,AH,rp.held st xS.xM fun _ _ z=>z⟩
 ·cases hk
theorem Af.lst{K:W.Frag}{g:G}{H:Hp}{ds:List Dv}{vs:List V}{p:B5}(zd:Zd g H)(rp:AC K g H 0 ds vs xM)(hp:H p=none):Af K g H 1 (.lst ds) (.ref p) (upd H p (.lst vs)):=by
 have sm:=Cb hp (.lst vs);refine⟨sm,fun b=>b=p,?_,fun a q=>q▸hp⟩;unfold Rep;exact⟨p,vs,xM,rfl,⟨AH,(fun z=>by cases z),fun _ z=>zd p z hp⟩,rp.held (Step.same (g:=g) (P:=xM) sm) xS.xM fun _ _ z=>z,fun z=>z,fun b=>⟨fun z=>.inl ⟨by decide,z⟩,fun z=>z.elim (fun z=>z.2) E5⟩⟩
theorem ma(hq:PA X es (BM X.K as))(c:AD Γ as Γ' js)(he:QP as=true):PE X (.List es pos) (tE X.K Γ 1 Γ' js (Ry .lst (AR as))):=PE.imp (iQ hq) fun σ H Q q=>by
 obtain⟨g,m,P,r,R,k,res,e,q⟩:=q;refine AM as r c e fun ds m' g' P' vs H1 hk ag s ar r1=>?_
 split at hk
 ·rename_i hz;have rp:=ar.zAQ he;refine⟨by rw[<- rp.len];exact A4 hz (by decide),fun p hp=>?_⟩;obtain⟨Pv,s2,h1,r2,n2⟩:=Af.go s r1 (Af.lst r1.zd rp hp);exact q _ m' g' P' Pv (.ref p) _ hk ag s2 h1 r2 n2
 ·cases hk
end
def Gc:List Nat->Type
 | []=>Unit
 | [_]=>Dv
 | _::i::J=>Dv×Gc (i::J)
noncomputable def An:(J:List Nat)->M->Gc J
 | [],_=>()
 | [i],m=>m.at i
 | i::j::J,m=>(m.at i,An (j::J) m)
noncomputable def BA:(J:List Nat)->M->Gc J->M
 | [],m,_=>m
 | [i],m,d=>m.set i d
 | i::j::J,m,t=>BA (j::J) (m.set i t.1) t.2
theorem Vf{m:M}{i:Nat}{d:Dv}(h:i < m.length):M.at (m.set i d) i=d:=LV (E8 h)
theorem JF:∀(J:List Nat) (m:M) (t:Gc J),(BA J m t).length=m.length
 | [],_,_=>rfl
 | [i],m,d=>D1 ..
 | i::j::J,m,t=>by unfold BA;rw[JF];exact D1 ..
theorem AY:∀(J:List Nat) (m:M) (t:Gc J),Ba J m (BA J m t)
 | [],_,_=>Ba.refl
 | [i],m,d=>Ba.set
 | i::j::J,m,t=>by
  unfold BA;exact(Ba.set (i:=i)).trans (AY (j::J) _ _)
theorem RU:∀(J:List Nat) (m m':M) (i:Nat),i < m.length->i∈J->M.at (BA J m (An J m')) i=m'.at i
 | [],_,_,_,_,h=>by cases h
 | [i],m,m',k,hk,h=>by
  have e:=D2.mp h;subst e;exact Vf hk
 | i::j::J,m,m',k,hk,h=>by
  show M.at (BA (j::J) (m.set i (m'.at i)) (An (j::J) m')) k=_
  by_cases z:k∈j::J
  ·exact RU (j::J) _ m' k (by rw[D1];exact hk) z
  ·rw[(AY (j::J) _ _).2 k z];rcases B9.mp h with e | e
   ·subst e;exact Vf hk
   ·exact(z e).elim
def BX(Γ:Gm)(js:List Nat):List Nat:=(B1 Γ.length).filter fun i=>js.contains i && (Γ.getD i none).isSome
theorem BW{Γ:Gm}{js:List Nat}{i o:Nat}(h:Γ[i]?=some (some o)):i∈BX Γ js\/i∉js:=by
 by_cases e:i∈js
 ·refine .inl (T6.mpr ⟨O2.mpr (B3.mp h).1,?_⟩);rw[A2,C7,D7,h];exact⟨e,rfl⟩
 ·exact .inr e
theorem BF{Γ:Gm}{js:List Nat}{i:Nat}(h:i∈BX Γ js):i∈js:=by
 have:=(T6.mp h).2;rw[A2,C7] at this;exact this.1
theorem Rel.join{K:W.Frag}{g:G}{H:Hp}{Γ:Gm}{m m':M}{σ:St}{P:Fp}{J js:List Nat}(r:Rel K g H Γ m' σ P)(ag:Ba js m m')(hj:∀i o,Γ[i]?=some (some o)->i∈J\/i∉js):Rel K g H Γ (BA J m (An J m')) σ P:=by
 refine r.agree ((JF ..).trans ag.1.symm) fun i o e=>?_
 have hi:i < m.length:=by rw[<- ag.1,r.len.1];exact(B3.mp e).1
 by_cases z:i∈J
 ·exact RU J m m' i hi z
 ·rw[(AY J m _).2 i z];exact(ag.2 i ((hj i o e).elim (fun q=>(z q).elim) id)).symm
def fI(p:List Dv->Option Bool)(fa:Ev (List Dv)):Ev Bool:=fun R m k=>fa R m fun ds m'=>(p ds).bind fun b=>k b m'
def QS(f:Ev Bool):Ev Dv:=fun R m k=>f R m fun b m'=>k (.bl b) m'
def fG(f:Ev Bool):Ev Bool:=fun R m k=>f R m fun b m'=>k (!b) m'
def Jg{α:Type}(c:Ev Bool)(f g:Ev α):Ev α:=fun R m k=>c R m fun b m1=>if b=true then f R m1 k else g R m1 k
def Jn(α:Type):List Nat->Type
 | []=>α
 | i::J=>α×Gc (i::J)
def eO{α:Type}:(J:List Nat)->α->M->Jn α J
 | [],a,_=>a
 | i::J,a,m=>(a,An (i::J) m)
def rC{α R:Type}:(J:List Nat)->M->Jn α J->(α->M->Option R)->Option R
 | [],m,a,k=>k a m
 | i::J,m,t,k=>k t.1 (BA (i::J) m t.2)
theorem Ux{α R:Type}(J:List Nat)(m m':M)(a:α)(k:α->M->Option R):rC J m (eO J a m') k=k a (BA J m (An J m')):=by cases J<;>rfl
def QR{α:Type}(J:List Nat)(f:Ev α):Ev α:=fun R m k=>(f (Jn α J) m fun a m'=>some (eO J a m')).bind fun t=>rC J m t k
section
variable {K:W.Frag} {Γ Γ' xa Γ3:Gm} {js js2 js3 J:List Nat} {σ:St} {H:Hp} {o:Nat}
theorem IF{f:Ev Dv}{Q:VK}(hj:∀i o,Γ'[i]?=some (some o)->i∈J\/i∉js)(hs:∀i∈J,i∈js)(h:tE K Γ o Γ' js (QR J f) σ H Q):tE K Γ o Γ' js f σ H Q:=by
 obtain⟨g,m,P,r,R,k,res,e,q⟩:=h;obtain⟨t,e1,e2⟩:=xI e;refine⟨g,m,P,r,_,_,t,e1,fun d m' g' P' Pv v H' hk ag s rv r1 n=>?_⟩;cases hk;rw[Ux] at e2;exact q d _ g' P' Pv v H' e2 ((AY J m _).mono hs) s rv (r1.join ag hj) n
theorem Rf{f:Ev Bool}{Q:Bool->Hp->Prop}(hj:∀i o,Γ'[i]?=some (some o)->i∈J\/i∉js)(hs:∀i∈J,i∈js)(h:tT K Γ Γ' js (QR J f) σ H Q):tT K Γ Γ' js f σ H Q:=by
 obtain⟨g,m,P,r,R,k,res,e,q⟩:=h;obtain⟨t,e1,e2⟩:=xI e;refine⟨g,m,P,r,_,_,t,e1,fun d m' g' P' H' hk ag s r1=>?_⟩;cases hk;rw[Ux] at e2;exact q d _ g' P' H' e2 ((AY J m _).mono hs) s (r1.join ag hj)
theorem Qy{f:Ev Bool}{Q:Bool->Hp->Prop}(hw:Bv xa Γ'=true)(hs:∀i∈js,i∈js2)(h:tT K Γ xa js2 f σ H Q):tT K Γ Γ' js f σ H Q:=by
 obtain⟨g,m,P,r,R,k,res,e,q⟩:=h;refine⟨g,m,P,r,R,k,res,e,fun b m' g' P' H' hk ag s r1=>?_⟩;obtain⟨g2,P2,s2,r2⟩:=r1.weaken hw;exact q b m' g2 P2 H' hk (ag.mono hs) (s.trans s2) r2
theorem Hv{f:Ev Dv}{Q:VK}(hw:Bv xa Γ'=true)(hs:∀i∈js,i∈js2)(h:tE K Γ 0 xa js2 f σ H Q):tE K Γ 0 Γ' js f σ H Q:=by
 obtain⟨g,m,P,r,R,k,res,e,q⟩:=h;refine⟨g,m,P,r,R,k,res,e,fun b m' g' P' Pv v H' hk ag s rv r1 n=>?_⟩;obtain⟨g2,P2,s2,r2⟩:=r1.weaken hw;exact q b m' g2 P2 xM v H' hk (ag.mono hs) (((s.less fun _ q=>.inl q).trans s2).less fun _ q=>q.elim id E5) (rv.z.held s2 r1.xO fun _ z=>z.elim) r2 fun _ _ z=>z
theorem pL{p:List Dv->Option Bool}{as:List Ar}{r:Qo}(hp:AJ K (fun ds=>(p ds).map .bl) 0 r)(c:AD Γ as Γ' js){Q:Bool->Hp->Prop}(h:tT K Γ Γ' js (fI p (AR as)) σ H Q):BM K as σ H fun vs H1=>r vs H1 fun x H'=>∃k,x=.bl k/\Q k H':=by
 obtain⟨g,m,P,rl,R',k,res,e,q⟩:=h;refine AM as rl c e fun ds m' g' P' vs H1 hk ag s ar r1=>?_
 obtain⟨b,e1,e2⟩:=xI hk;refine hp g' H1 ds vs (.bl b) _ r1.zd (ar.ra r1) (by show(p ds).map _=_;rw[e1];rfl) fun v H2 nw=>?_
 obtain⟨Pv,s2,h1,r2,n2⟩:=Af.go s r1 nw;refine⟨b,by unfold Rep at h1;exact h1.1,q b m' g' P' H2 e2 ag (s2.less fun _ q=>.inl q) r2⟩
theorem Bc{g:G}{o:Nat}{b:Bool}{v:V}{P:Fp}(h:Rep K g H o (.bl b) v P):v=.bl b:=by unfold Rep at h;exact h.1
theorem Ck{g:G}{b:Bool}:Rep K g H o (.bl b) (.bl b) xM:=by unfold Rep;exact⟨rfl,fun _ z=>z⟩
theorem VF{t u:Ev Bool}{Q:Bool->Hp->Prop}(h:tT K Γ Γ' (js++js2) (Jg t u (fun R m k=>k false m)) σ H Q)(hw:Bv Γ' xa=true):mL (tT K Γ xa js t) (tT K xa Γ' js2 u) σ H Q:=by
 obtain⟨g,m,P,r,R,k,res,e,q⟩:=h;refine⟨g,m,P,r,R,_,res,e,fun b m1 g1 P1 H1 hk ag s r1=>?_⟩;cases b with
 | true =>
  rw[if_pos rfl] at hk ⊢;exact⟨g1,m1,P1,r1,R,k,res,hk,fun c m2 g2 P2 H2 x9 yY s2 r2=>q c m2 g2 P2 H2 x9 (ag.trans yY) (s.trans s2) r2⟩
 | false =>
  rw[if_neg D4] at hk ⊢;obtain⟨g2,P2,s2,r2⟩:=r1.weaken hw;exact q false m1 g2 P2 H1 hk (ag.mono fun _ z=>C3 _ z) (s.trans s2) r2
theorem mC{t u:Ev Bool}{Q:Bool->Hp->Prop}(h:tT K Γ Γ' (js++js2) (Jg t (fun R m k=>k true m) u) σ H Q)(hw:Bv Γ' xa=true):rG (tT K Γ xa js t) (tT K xa Γ' js2 u) σ H Q:=by
 obtain⟨g,m,P,r,R,k,res,e,q⟩:=h;refine⟨g,m,P,r,R,_,res,e,fun b m1 g1 P1 H1 hk ag s r1=>?_⟩;cases b with
 | false =>
  rw[if_neg D4] at hk ⊢;exact⟨g1,m1,P1,r1,R,k,res,hk,fun c m2 g2 P2 H2 x9 yY s2 r2=>q c m2 g2 P2 H2 x9 (ag.trans yY) (s.trans s2) r2⟩
 | true =>
  rw[if_pos rfl] at hk ⊢;obtain⟨g2,P2,s2,r2⟩:=r1.weaken hw;exact q true m1 g2 P2 H1 hk (ag.mono fun _ z=>C3 _ z) (s.trans s2) r2
theorem gD{t:Ev Bool}{Q:Bool->Hp->Prop}(h:tT K Γ Γ' js (fG t) σ H Q):mG (tT K Γ Γ' js t) σ H Q:=by
 obtain⟨g,m,P,r,R,k,res,e,q⟩:=h;exact⟨g,m,P,r,R,_,res,e,fun b m1 g1 P1 H1 hk ag s r1=>q (!b) m1 g1 P1 H1 hk ag s r1⟩
theorem mI{c:Ev Bool}{fa fb:Ev Dv}{Q:VK}(h:tE K Γ 0 Γ' (js++(js2++js3)) (Jg c fa fb) σ H Q):rH (tT K Γ xa js c) (tE K xa 0 Γ' js2 fa) (tE K xa 0 Γ' js3 fb) σ H Q:=by
 obtain⟨g,m,P,r,R,k,res,e,q⟩:=h;refine⟨g,m,P,r,R,_,res,e,fun b m1 g1 P1 H1 hk ag s r1=>?_⟩;cases b with
 | true =>
  rw[if_pos rfl] at hk ⊢;exact⟨g1,m1,P1,r1,R,k,res,hk,fun d m2 g2 P2 Pv v H2 x9 yY s2 rv r2 n=>q d m2 g2 P2 Pv v H2 x9 ((ag.trans yY).mono fun i z=>(C0.mp z).elim (fun z=>C3 _ z) fun z=>B4 _ (C3 _ z)) (s.trans s2) rv r2 n⟩
 | false =>
  rw[if_neg D4] at hk ⊢;exact⟨g1,m1,P1,r1,R,k,res,hk,fun d m2 g2 P2 Pv v H2 x9 yY s2 rv r2 n=>q d m2 g2 P2 Pv v H2 x9 ((ag.trans yY).mono fun i z=>(C0.mp z).elim (fun z=>C3 _ z) fun z=>B4 _ (B4 _ z)) (s.trans s2) rv r2 n⟩
end
structure Kt (R:Type) where
 nx:M->Option R
 rt:Dv->M->Option R
 bk:M->Option R
 ct:M->Option R
noncomputable abbrev Es:=(R:Type)->M->Kt R->Option R
def Io(io:List Nat)(σ σ':St):Prop:=∀i∈io,σ'[i]?=σ[i]?
theorem Io.refl{io:List Nat}{σ:St}:Io io σ σ:=fun _ _=>rfl
theorem Io.trans{io:List Nat}{σ σ1 xy:St}(a:Io io σ σ1)(b:Io io σ1 xy):Io io σ xy:=fun i h=>(b i h).trans (a i h)
theorem Io.set{io:List Nat}{σ:St}{i:Nat}{x:Option V}(h:i∉io):Io io σ (σ.set i x):=fun j hj=>D9 fun z=>h (by rw[z];exact hj)
structure Fr where
 io:List Nat
 Γr:Gm
 ro:Nat
structure AcS (K:W.Frag) (F:Fr) (xN:Option Gm) (g:G) (P:Fp) (H:Hp) (σ:St) (D:Ends) (Γn:Option Gm) (js:List Nat) (m:M) {R:Type} (k:Kt R) (r:R):Prop where
 nx:∀Γ' m' g' P' σ' H',Γn=some Γ'->k.nx m'=some r->Ba js m m'->Step g P H g' P' H'->Io F.io σ σ'->Rel K g' H' Γ' m' σ' P'->D.nx σ' H'
 rt:∀d m' g' P' Pv σ' v H',k.rt d m'=some r->Ba js m m'->Step g P H g' (fun a=>P' a\/Pv a) H'->Io F.io σ σ'->Rep K g' H' F.ro d v Pv->Rel K g' H' F.Γr m' σ' P'->Bi P' Pv->D.rt v H'
 bk:∀Γ' m' g' P' σ' H',xN=some Γ'->k.bk m'=some r->Ba js m m'->Step g P H g' P' H'->Io F.io σ σ'->Rel K g' H' Γ' m' σ' P'->D.bk σ' H'
 ct:∀Γ' m' g' P' σ' H',xN=some Γ'->k.ct m'=some r->Ba js m m'->Step g P H g' P' H'->Io F.io σ σ'->Rel K g' H' Γ' m' σ' P'->D.ct σ' H'
def tS(K:W.Frag)(F:Fr)(xN:Option Gm)(Γ:Gm)(Γn:Option Gm)(js:List Nat)(f:Es):TS:=fun D σ H=>∃g m P,Rel K g H Γ m σ P/\∃(R:Type) (k:Kt R) (r:R),f R m k=some r/\AcS K F xN g P H σ D Γn js m k r
theorem AcS.later{K:W.Frag}{F:Fr}{xN Γn:Option Gm}{g g1:G}{P P1:Fp}{H H1:Hp}{σ σ1:St}{D:Ends}{js ks:List Nat}{m m1:M}{R:Type}{k:Kt R}{r:R}(s:Step g P H g1 P1 H1)(i:Io F.io σ σ1)(ag:Ba js m m1)(h:AcS K F xN g P H σ D Γn (js++ks) m k r):AcS K F xN g1 P1 H1 σ1 D Γn ks m1 k r:=
  ⟨fun Γ' m' g' P' σ' H' e hk a s' i' r'=>h.nx Γ' m' g' P' σ' H' e hk (ag.trans a) (s.trans s') (i.trans i') r',
   fun d m' g' P' Pv σ' v H' hk a s' i' rv r' n=>h.rt d m' g' P' Pv σ' v H' hk (ag.trans a) (s.trans s') (i.trans i') rv r' n,
   fun Γ' m' g' P' σ' H' e hk a s' i' r'=>h.bk Γ' m' g' P' σ' H' e hk (ag.trans a) (s.trans s') (i.trans i') r',
   fun Γ' m' g' P' σ' H' e hk a s' i' r'=>h.ct Γ' m' g' P' σ' H' e hk (ag.trans a) (s.trans s') (i.trans i') r'⟩
def Jf:Es:=fun _ m k=>k.nx m
def oV(f g:Es):Es:=fun R m k=>f R m { k with nx:=fun m1=>g R m1 k }
def OC(c:Ev Bool)(f g:Es):Es:=fun R m k=>c R m fun b m1=>if b=true then f R m1 k else g R m1 k
def fE(f:Ev Dv):Es:=fun R m k=>f R m k.rt
def Xq(f:Ev Dv):Es:=fun R m k=>f R m fun _ m1=>k.nx m1
section
variable {X:Cx} {F:Fr} {xN Γn zCV:Option Gm} {Γ Γ' xa:Gm} {js js2 js3 J:List Nat} {s:M4} {ss rest a b:List M4} {e c:Expr} {pos:Pos} {f f2:Es} {fe:Ev Dv} {t:Ev Bool} {o:Nat}
theorem Ie{K:W.Frag}{D:Ends}{σ:St}{H:Hp}(h:tS K F xN Γ (some Γ) [] Jf D σ H):D.nx σ H:=by
 obtain⟨g,m,P,r,R,k,res,e,q⟩:=h;exact q.nx Γ m g P σ H rfl e Ba.refl Step.refl Io.refl r
theorem mT:Ej X [] (tS X.K F xN Γ (some Γ) [] Jf):=Ej.imp aY fun D σ H h=>Ie h
theorem gV:PS X (.Pass pos) (tS X.K F xN Γ (some Γ) [] Jf):=PS.imp aZ fun D σ H h=>Ie h
theorem mU{x j pos'}:PS X (.Expr (.Constant (.str x) j pos) pos') (tS X.K F xN Γ (some Γ) [] Jf):=PS.imp iA fun D σ H h=>Ie h
theorem gb(h1:PS X s (tS X.K F xN Γ (some xa) js f))(h2:Ej X rest (tS X.K F xN xa Γn js2 f2)):Ej X (s::rest) (tS X.K F xN Γ Γn (js++js2) (oV f f2)):=Ej.imp (NX h1 h2) fun D σ H h=>by
 obtain⟨g,m,P,r,R,k,res,e,q⟩:=h;refine⟨g,m,P,r,R,_,res,e,⟨fun Γ' m' g' P' σ' H' e hk ag s' i' r'=>?_,fun d m' g' P' Pv σ' v H' hk ag=>q.rt d m' g' P' Pv σ' v H' hk (ag.mono fun _ z=>C3 _ z),fun Γ' m' g' P' σ' H' e hk ag=>q.bk Γ' m' g' P' σ' H' e hk (ag.mono fun _ z=>C3 _ z),fun Γ' m' g' P' σ' H' e hk ag=>q.ct Γ' m' g' P' σ' H' e hk (ag.mono fun _ z=>C3 _ z)⟩⟩;cases e;exact⟨g',m',P',r',R,k,res,hk,q.later s' i' ag⟩
theorem gW(h1:PS X s (tS X.K F xN Γ none js f)):Ej X (s::rest) (tS X.K F xN Γ none js f):=Ej.imp (NX h1 (u:=fun _ _ _=>False) fun _ _ _ _ _ _ z=>z.elim) fun D σ H h=>by
 obtain⟨g,m,P,r,R,k,res,e,q⟩:=h;exact⟨g,m,P,r,R,k,res,e,(fun _ _ _ _ _ _ e=>by cases e),q.rt,q.bk,q.ct⟩
theorem mS(h1:PS X s (tS X.K F xN Γ Γn js f)):Ej X [s] (tS X.K F xN Γ Γn js f):=aX h1
theorem mQ(hq:PE X e (tE X.K Γ F.ro F.Γr js fe)):PS X (.Return (some e) pos) (tS X.K F xN Γ none js (fE fe)):=PS.imp (hW hq) fun D σ H h=>by
 obtain⟨g,m,P,r,R,k,res,e,q⟩:=h;exact⟨g,m,P,r,R,_,res,e,fun d m' g' P' Pv v H' hk ag s rv r1 n=>q.rt d m' g' P' Pv σ v H' hk ag s Io.refl rv r1 n⟩
theorem gZ(hq:PE X e (tE X.K Γ o Γ' js fe))(hs:T7 e none pos.line X.env=pure false):PS X (.Expr e pos) (tS X.K F xN Γ (some Γ') js (Xq fe)):=PS.imp (aa hq hs) fun D σ H h=>by
 obtain⟨g,m,P,r,R,k,res,e,q⟩:=h;exact⟨g,m,P,r,R,_,res,e,fun d m' g' P' Pv v H' hk ag s rv r1 n=>q.nx Γ' m' g' P' σ H' rfl hk ag (s.less fun _ q=>.inl q) Io.refl r1⟩
theorem qP(hc:PT X c (tT X.K Γ xa js t))(ha:Ej X a (tS X.K F xN xa Γn js2 f))(hb:Ej X b (tS X.K F xN xa Γn js3 f2)):PS X (.If c a b pos) (tS X.K F xN Γ Γn (js++(js2++js3)) (OC t f f2)):=PS.imp (nK hc ha hb) fun D σ H h=>by
 obtain⟨g,m,P,r,R,k,res,e,q⟩:=h;refine⟨g,m,P,r,R,_,res,e,fun b m1 g1 P1 H1 hk ag s r1=>?_⟩;have q2:=q.later s Io.refl ag;have mo:∀(ks:List Nat),(∀i∈ks,i∈js2++js3)->AcS X.K F xN g1 P1 H1 σ D Γn ks m1 k res:=fun ks hks =>
  ⟨fun Γ' m' g' P' σ' H' e hk a=>q2.nx Γ' m' g' P' σ' H' e hk (a.mono hks),fun d m' g' P' Pv σ' v H' hk a=>q2.rt d m' g' P' Pv σ' v H' hk (a.mono hks),fun Γ' m' g' P' σ' H' e hk a=>q2.bk Γ' m' g' P' σ' H' e hk (a.mono hks),fun Γ' m' g' P' σ' H' e hk a=>q2.ct Γ' m' g' P' σ' H' e hk (a.mono hks)⟩
 cases b with
 | true=>rw[if_pos rfl] at hk;show(if true=true then _ else _);rw[if_pos rfl];exact⟨g1,m1,P1,r1,R,k,res,hk,mo js2 fun _ z=>C3 _ z⟩
 | false=>rw[if_neg D4] at hk;show(if false=true then _ else _);rw[if_neg D4];exact⟨g1,m1,P1,r1,R,k,res,hk,mo js3 fun _ z=>B4 _ z⟩
def Mv:Option Gm->Option Gm->Bool
 | some a,some b=>Bv a b
 | _,none=>true
 | none,some _=>false
theorem Vk(h:Ej X ss (tS X.K F xN Γ Γn js f))(hw:Mv zCV Γn=true):Ej X ss (tS X.K F xN Γ zCV js f):=Ej.imp h fun D σ H h=>by
 obtain⟨g,m,P,r,R,k,res,e,q⟩:=h;refine⟨g,m,P,r,R,k,res,e,fun Γ' m' g' P' σ' H' e hk ag s' i' r'=>?_,q.rt,q.bk,q.ct⟩;subst e;cases zCV with
 | none=>cases hw
 | some Γ3 =>
  obtain⟨g2,P2,s2,r2⟩:=r'.weaken (by unfold Mv at hw;exact hw);exact q.nx Γ3 m' g2 P2 σ' H' rfl hk ag (s'.trans s2) i' r2
def oY(J:List Nat)(f:Es):Es:=fun R m k=>(f (Gc J) m ⟨fun m'=>some (An J m'),fun _ _=>none,fun _=>none,fun _=>none⟩).bind fun t=>k.nx (BA J m t)
theorem jU{K:W.Frag}{D:Ends}{σ:St}{H:Hp}(hj:∀i o,Γ'[i]?=some (some o)->i∈J\/i∉js)(hs:∀i∈J,i∈js)(h:tS K F xN Γ (some Γ') js (oY J f) D σ H):tS K F xN Γ (some Γ') js f D σ H:=by
 obtain⟨g,m,P,r,R,k,res,e,q⟩:=h;obtain⟨t,e1,e2⟩:=xI e;refine⟨g,m,P,r,_,_,t,e1,⟨fun xa m' g' P' σ' H' e hk ag s' i' r'=>?_,(fun _ _ _ _ _ _ _ _ hk=>by cases hk),(fun _ _ _ _ _ _ _ hk=>by cases hk),fun _ _ _ _ _ _ _ hk=>by cases hk⟩⟩;cases e;cases hk;exact q.nx Γ' _ g' P' σ' H' rfl e2 ((AY J m _).mono hs) s' i' (r'.join ag hj)
end
noncomputable abbrev Tg:=(R:Type)->Dv->M->(M->Option R)->Option R
def Ag(js:List Nat)(σ σ':St):Prop:=σ'.length=σ.length/\∀i,i∉js->σ'[i]?=σ[i]?
theorem Ag.io{js io:List Nat}{σ σ':St}(h:Ag js σ σ')(d:∀i∈io,i∉js):Io io σ σ':=fun i hi=>h.2 i (d i hi)
theorem Ag.trans{js ks:List Nat}{σ σ1 xy:St}(a:Ag js σ σ1)(b:Ag ks σ1 xy):Ag (js++ks) σ xy:=⟨b.1.trans a.1,fun i h=>(b.2 i fun z=>h (B4 _ z)).trans (a.2 i fun z=>h (C3 _ z))⟩
theorem Ag.set{σ:St}{i:Nat}{x:Option V}:Ag [i] σ (σ.set i x):=⟨D1 ..,fun j h=>D9 fun z=>h (by rw[z];exact W4 _)⟩
def Oo(K:W.Frag)(Γ Γ':Gm)(js:List Nat)(tg:TG)(f:Tg):Prop:=∀(g:G) (m:M) (P:Fp) (d:Dv) (v:V) (σ:St) (H:Hp) (R:Type) (k:M->Option R) (r:R) (Q:St->Hp->Prop),Rel K g H Γ m σ P->Rep K g H 0 d v xM->f R d m k=some r ->
 (∀m' P' σ',k m'=some r->Ba js m m'->(∀a,P' a->P a)->Ag js σ σ'->Rel K g H Γ' m' σ' P'->Q σ' H)->tg v σ H Q
def mB(i:Nat):Tg:=fun _ d m k=>k (m.set i d)
theorem Zw{K:W.Frag}{Γ:Gm}{i:Nat}(hi:i < Γ.length):Oo K Γ (Γ.set i (some 0)) [i] (DZ i) (mB i):=fun g m P d v σ H R k r Q rl rv e q=>by
 obtain⟨P2,r2,s⟩:=rl.zD hi rv fun _ z=>z.elim
 exact q _ P2 _ e Ba.set (fun a z=>(s a z).elim id E5) Ag.set r2
noncomputable def gC:(J:List Nat)->List Dv->Option (Gc J)
 | [],[]=>some ()
 | [_],[d]=>some d
 | _::j::J,d::ds=>(gC (j::J) ds).bind fun t=>some (d,t)
 | _,_=>none
def Ou(J:List Nat)(d:Dv):Option (Gc J):=match d with
 | .tup ds=>gC J ds
 | .lst ds=>gC J ds
 | _=>none
def rE(J:List Nat):Tg:=fun _ d m k=>(Ou J d).bind fun t=>k (BA J m t)
def Ec:List Nat->Ms
 | []=>MI
 | i::J=>Cq (DZ i) (Ec J)
def Vh(Γ:Gm)(J:List Nat)(x:Option Nat):Gm:=J.foldl (fun Γ i=>Γ.set i x) Γ
theorem Vg(J:List Nat)(x:Option Nat):∀Γ:Gm,(Vh Γ J x).length=Γ.length:=by
 induction J with
 | nil=>intro Γ;rfl
 | cons i J ih=>intro Γ;show(Vh (Γ.set i x) J x).length=_;rw[ih,D1]
theorem Ko{K:W.Frag}:∀(J:List Nat) {Γ:Gm} {g:G} {m:M} {P:Fp} {ds:List Dv} {vs:List V} {σ:St} {H:Hp} {t:Gc J} {Q:St->Hp->Prop},(∀i∈J,i < Γ.length)->Rel K g H Γ m σ P->AC K g H 0 ds vs xM->gC J ds=some t ->
    (∀P' σ',(∀a,P' a->P a)->Ag J σ σ'->Rel K g H (Vh Γ J (some 0)) (BA J m t) σ' P'->Q σ' H)->ds.length=J.length/\Ec J vs σ H Q
  | [],Γ,g,m,P,ds,vs,σ,H,t,Q,hJ,r,rv,e,q=>by
    cases ds with
    | nil =>
      unfold AC at rv;exact⟨rfl,rv.1,q P σ (fun _ z=>z) ⟨rfl,fun _ _=>rfl⟩ r⟩
    | cons d ds=>cases e
  | [i],Γ,g,m,P,ds,vs,σ,H,t,Q,hJ,r,rv,e,q=>by
    match ds,e with
    | [d],e =>
      cases e;unfold AC at rv;obtain⟨v,vr,P1,P2,rfl,h1,h2,_,h4⟩:=rv;unfold AC at h2;obtain⟨P3,r3,s⟩:=r.zD (hJ i B2) h1.z fun _ z=>z.elim
      exact⟨rfl,v,vr,rfl,h2.1,q P3 _ (fun a z=>(s a z).elim id E5) Ag.set r3⟩
    | [],e=>cases e
    | _::_::_,e=>cases e
  | i::j::J,Γ,g,m,P,ds,vs,σ,H,t,Q,hJ,r,rv,e,q=>by
    match ds,e with
    | [],e=>cases e
    | d::ds,e =>
      obtain⟨t',e1,e2⟩:=xI (show(gC (j::J) ds).bind (fun t=>some (d,t))=some t from e);cases e2;unfold AC at rv;obtain⟨v,vr,P1,P2,rfl,h1,h2,_,h4⟩:=rv;obtain⟨P3,r3,s⟩:=r.zD (hJ i B2) h1.z fun _ z=>z.elim
      have s':∀a,P3 a->P a:=fun a z=>(s a z).elim id E5
      have:=Ko (j::J) (Q:=Q) (fun k hk=>by rw[D1];exact hJ k (A7 _ hk)) r3 h2.z e1 fun P' σ' sp ag r'=>q P' σ' (fun a z=>s' a (sp a z)) (Ag.set.trans ag) r'
      exact⟨by simp[this.1],v,vr,rfl,this.2⟩
abbrev XX(K:W.Frag)(n:Nat)(t:Ms):TG:=fun v σ H Q=>br K n t v σ H Q\/jh n t v σ H Q
theorem VD{K:W.Frag}{Γ:Gm}{J:List Nat}(hJ:∀i∈J,i < Γ.length):Oo K Γ (Vh Γ J (some 0)) J (XX K J.length (Ec J)) (rE J):=fun g m P d v σ H R k r Q rl rv e q=>by
 obtain⟨t,e1,e2⟩:=xI e;have go:∀{ds vs},AC K g H 0 ds vs xM->gC J ds=some t->ds.length=J.length/\Ec J vs σ H Q:=fun h1 h2=>Ko J hJ rl h1 h2 fun P' σ' sp ag r'=>q _ P' σ' e2 (AY J m t) sp ag r'
 cases d with
 | tup ds =>
  unfold Rep at rv;obtain⟨a,vs,rfl,h1,h2⟩:=rv;obtain⟨l,z⟩:=go h2 e1;exact .inl ⟨a,vs,rfl,.inl (.inl h1),by rw[<- h2.len];exact l,z⟩
 | lst ds =>
  unfold Rep at rv;obtain⟨a,vs,P',rfl,h1,h2,_⟩:=rv;obtain⟨l,z⟩:=go h2.z e1;exact .inr ⟨a,vs,rfl,h1.1,by rw[<- h2.len];exact l,z⟩
 | _=>cases e1
theorem PG.or{X:Cx}{e:Expr}{t u:TG}(h:PG X e t)(k:PG X e u):PG X e fun v σ H Q=>t v σ H Q\/u v σ H Q:=fun pins s σ H v w Q I r q=>q.elim (h pins s σ H v w Q I r) (k pins s σ H v w Q I r)
theorem XS{js:List Nat}{t u:TG}(h:y0 js t)(k:y0 js u):y0 js fun v σ H Q=>t v σ H Q\/u v σ H Q:=fun x σ H Q q=>q.elim (fun q=>.inl (h x σ H Q q)) fun q=>.inr (k x σ H Q q)
theorem Fh{js:List Nat}:∀(J:List Nat),(∀i∈J,i∈js)->Os js (Ec J)
 | [],_=>Nx
 | i::J,h=>Tr (h i B2) (Fh J fun k hk=>h k (A7 _ hk))
def rD(f1 f2:Tg):Tg:=fun R d m k=>(Ou [0,1] d).bind fun t=>f1 R t.1 m fun m1=>f2 R t.2 m1 k
theorem Zv{K:W.Frag}{Γ xY xa:Gm}{J1 J2:List Nat}{g1 g2:TG}{f1 f2:Tg}(h1:Oo K Γ xY J1 g1 f1)(h2:Oo K xY xa J2 g2 f2):Oo K Γ xa (J1++J2) (XX K 2 (Cq g1 (Cq g2 MI))) (rD f1 f2):=fun g m P d v σ H R k r Q rl rv e q=>by
 obtain⟨t,e1,e2⟩:=xI e;have go:∀{ds vs},AC K g H 0 ds vs xM->gC [0,1] ds=some t->vs.length=2/\Cq g1 (Cq g2 MI) vs σ H Q:=fun{ds vs} hr et=>by
  match ds,et with
  | [x,y],et =>
   cases et;unfold AC at hr;obtain⟨vx,r1,P1,P2,rfl,hx,hr,_⟩:=hr;unfold AC at hr;obtain⟨vy,r2,P3,P4,rfl,hy,hr,_⟩:=hr;unfold AC at hr;obtain⟨rfl,_⟩:=hr;exact⟨rfl,vx,[vy],rfl,h1 g m P x vx σ H R _ r _ rl hx.z e2 fun m1 P1 σ1 k1 a1 p1 s1 r1=>⟨vy,[],rfl,h2 g m1 P1 y vy σ1 H R k r _ r1 hy.z k1 fun m2 P2 xy k2 a2 p2 s2 r2=>⟨rfl,q m2 P2 xy k2 (a1.trans a2) (fun a z=>p1 a (p2 a z)) (s1.trans s2) r2⟩⟩⟩
  | [],et=>cases et
  | [_],et=>cases et
  | _::_::_::_,et=>cases et
 cases d with
 | tup ds =>
  unfold Rep at rv;obtain⟨a,vs,rfl,h1,h2⟩:=rv;obtain⟨l,z⟩:=go h2 e1;exact .inl ⟨a,vs,rfl,.inl (.inl h1),l,z⟩
 | lst ds =>
  unfold Rep at rv;obtain⟨a,vs,P',rfl,h1,h2,_⟩:=rv;obtain⟨l,z⟩:=go h2.z e1;exact .inr ⟨a,vs,rfl,h1.1,l,z⟩
 | _=>cases e1
def Zf(t:TG):Prop:=∀v σ H (Q Q':St->Hp->Prop),t v σ H Q->(∀σ H,Q σ H->Q' σ H)->t v σ H Q'
def LY(t:Ms):Prop:=∀v σ H (Q Q':St->Hp->Prop),t v σ H Q->(∀σ H,Q σ H->Q' σ H)->t v σ H Q'
theorem Kq{i:Nat}:Zf (DZ i):=fun _ _ _ _ _ h q=>q _ _ h
theorem JM:LY MI:=fun _ _ _ _ _ h q=>⟨h.1,q _ _ h.2⟩
theorem Kr{t:TG}{u:Ms}(ht:Zf t)(hu:LY u):LY (Cq t u):=fun _ _ _ _ _ ⟨v,r,e,h⟩ q=>⟨v,r,e,ht _ _ _ _ _ h fun _ _ h=>hu _ _ _ _ _ h q⟩
theorem JN:∀J:List Nat,LY (Ec J)
 | []=>JM
 | _::J=>Kr Kq (JN J)
theorem Wr{K:W.Frag}{n:Nat}{u:Ms}(hu:LY u):Zf (XX K n u):=fun _ _ _ _ _ h q=>h.elim (fun⟨a,xs,e,s,l,h⟩=>.inl ⟨a,xs,e,s,l,hu _ _ _ _ _ h q⟩) fun⟨a,xs,e,s,l,h⟩=>.inr ⟨a,xs,e,s,l,hu _ _ _ _ _ h q⟩
theorem JW{js:List Nat}{t:TG}{u:Ms}(mt:Zf t)(mu:LY u)(ht:y0 js t)(hu:Os js u):Os js (Cq t u):=fun x σ H Q ⟨v,r,e,q⟩=>⟨v,r,e,mt _ _ _ _ _ (ht v σ H _ q) fun σ1 H1 ⟨⟨l1,f1⟩,q1⟩=>mu _ _ _ _ _ (hu r σ1 H1 _ q1) fun xy H2 ⟨⟨l2,f2⟩,q2⟩=>⟨⟨l2.trans l1,fun i hi=>(f2 i hi).trans (f1 i hi)⟩,q2⟩⟩
def LF(f:Ev Dv)(tg:Tg):Es:=fun R m k=>f R m fun d m1=>tg R d m1 k.nx
section
variable {X:Cx} {F:Fr} {xN:Option Gm} {Γ Γ' xa:Gm} {js js2:List Nat} {e tg:Expr} {pos pos':Pos} {fe:Ev Dv} {g:TG} {ft:Tg} {i o:Nat} {x:Str}
theorem cy{K:W.Frag}(ht:Oo K xa Γ' js2 g ft)(yd:∀i∈F.io,i∉js2){D:Ends}{σ:St}{H:Hp}(h:tS K F xN Γ (some Γ') (js++js2) (LF fe ft) D σ H):Jy (tE K Γ 0 xa js fe) g D σ H:=by
 obtain⟨g0,m,P,r,R,k,res,e,q⟩:=h;refine⟨g0,m,P,r,R,_,res,e,fun d m1 g' P' Pv v H' hk ag s rv r1 n=>ht g' m1 P' d v σ H' R k.nx res _ r1 rv.z hk fun m' P2 xy x9 yY s2 i r2=>?_⟩;exact q.nx Γ' m' g' P2 xy H' rfl x9 (ag.trans yY) (s.less fun a z=>.inl (s2 a z)) (i.io yd) r2
theorem RK{K:W.Frag}(hi:i < xa.length)(yd:i∉F.io){D:Ends}{σ:St}{H:Hp}(h:tS K F xN Γ (some (xa.set i (some o))) (js++[i]) (LF fe (mB i)) D σ H):Jy (tE K Γ o xa js fe) (DZ i) D σ H:=by
 obtain⟨g0,m,P,r,R,k,res,e,q⟩:=h;refine⟨g0,m,P,r,R,_,res,e,fun d m1 g' P' Pv v H' hk ag s rv r1 n=>?_⟩;obtain⟨P2,r2,s2⟩:=r1.zD hi rv fun a q z=>n a z q
 exact q.nx _ _ g' P2 _ H' rfl hk (ag.trans Ba.set) (s.less fun a z=>s2 a z) (Io.set yd) r2
theorem mP(hN:X.N.Nodup)(hix:X.N[i]?=some x)(hx:Loc X.env.scope x)(yd:i∉F.io)(hi:i < xa.length)(he:PE X e (tE X.K Γ o xa js fe))(hs:T7 e (some (.Name x pos')) pos.line X.env=pure false)(hf:X.fn x=true\/X.env.scope.names.lookup x=some .local) :
    PS X (.Assign [.Name x pos'] e pos) (tS X.K F xN Γ (some (xa.set i (some o))) (js++[i]) (LF fe (mB i))):=PS.imp (hV hN hix hx he hs hf) fun _ _ _ h=>RK hi yd h
theorem mV(he:PE X e (tE X.K Γ 0 xa js fe))(hg:PG X tg g)(ht:Oo X.K xa Γ' js2 g ft)(yd:∀i∈F.io,i∉js2)(hs:Y7 [tg] e pos.line X.env=pure false)(hw:S0 [tg] e X.env=pure none)
    (h1:(M7 [tg] X.env).map (·.2)=[W6 tg X.env]):PS X (.Assign [tg] e pos) (tS X.K F xN Γ (some Γ') (js++js2) (LF fe ft)):=PS.imp (Lv he hg hs hw h1) fun _ _ _ h=>cy ht yd h
end
def Jv(g:G)(H:Hp)(g2:G)(H2:Hp):Prop:=∃P P',Step g P H g2 P' H2/\xS g H P
def Yl(K:W.Frag)(J:It)(ds:List Dv)(g:G)(H:Hp):Prop:=∀g2 H2,Jv g H g2 H2 ->
 (∀i d,ds[i]?=some d->J.go i H2/\∀x H3,J.yld i H2 x H3->Af K g2 H2 0 d x H3)/\∀i,ds.length<=i->J.stop i H2
def tI(K:W.Frag)(Γ Γ':Gm)(js:List Nat)(f:Ev (List Dv)):TI:=fun σ H Q=>∃g m P,Rel K g H Γ m σ P/\∃(R:Type) (k:List Dv->M->Option R) (r:R),f R m k=some r /\
 ∀ds m' g' P' H' J,k ds m'=some r->Ba js m m'->Step g P H g' P' H'->Rel K g' H' Γ' m' σ P'->Yl K J ds g' H'->Q J H'
theorem PI.imp{X:Cx}{tg e:Expr}{t t':TI}(h:PI X tg e t)(k:∀σ H R,t' σ H R->t σ H R):PI X tg e t':=fun pins s σ H R I q=>h pins s σ H R I (k σ H R q)
theorem Af.old{K:W.Frag}{g:G}{H:Hp}{o:Nat}{d:Dv}{v:V}(h:Rep K g H o d v xM):Af K g H o d v H:=⟨fun _ _ q=>q,xM,h,fun _ z=>z.elim⟩
theorem Jv.rep{K:W.Frag}{g g2:G}{H H2:Hp}{d:Dv}{v:V}(s:Jv g H g2 H2)(h:Rep K g H 0 d v xM):Rep K g2 H2 0 d v xM:=by
 obtain⟨P,P',st,ok⟩:=s;exact h.held st ok fun _ z=>z.elim
section
variable {τ γ ρ:Type}
inductive Lp (τ γ ρ:Type) where
 | go (c:γ) | bk (c:γ) | rt (d:τ) (r:ρ)
inductive Rs (τ γ ρ:Type) where
 | go (c:γ) | rt (d:τ) (r:ρ)
noncomputable def Rs.el{δ:Type}(x:Rs τ γ ρ)(f:γ->δ)(h:τ->ρ->δ):δ:=match x with | .go c=>f c | .rt d r=>h d r
noncomputable def BK(g:Dv->γ->Option γ):List Dv->γ->Option γ
 | [],c=>some c
 | x::xs,c=>(g x c).bind fun c1=>BK g xs c1
noncomputable def Ed(g:Dv->γ->Option (Lp τ γ ρ)):List Dv->γ->Option (Rs τ γ ρ)
 | [],c=>some (.go c)
 | x::xs,c=>(g x c).bind fun l=>match l with
  | .go c1=>Ed g xs c1
  | .bk c1=>some (.go c1)
  | .rt d r=>some (.rt d r)
noncomputable def Up(t:γ->Option Bool)(g:γ->Option γ):Nat->γ->Option γ
 | 0,_=>none
 | n+1,c=>(t c).bind fun b=>if b=true then(g c).bind (Up t g n) else some c
end
def kC(J:List Nat):Kt (Gc J):=⟨fun m'=>some (An J m'),fun _ _=>none,fun _=>none,fun m'=>some (An J m')⟩
def kE(J Jr:List Nat):Kt (Lp Dv (Gc J) (Gc Jr)):=⟨fun m'=>some (.go (An J m')),fun d m'=>some (.rt d (An Jr m')),fun m'=>some (.bk (An J m')),fun m'=>some (.go (An J m'))⟩
def Xo(src:Ev (List Dv))(tg:Tg)(J:List Nat)(b:Es):Es:=fun R m k=>src R m fun ds m1 =>
 (BK (fun d t=>tg (Gc J) d (BA J m1 t) fun m2=>b (Gc J) m2 (kC J)) ds (An J m1)).bind fun t=>k.nx (BA J m1 t)
def Xn(src:Ev (List Dv))(tg:Tg)(J Jr:List Nat)(b:Es):Es:=fun R m k=>src R m fun ds m1 =>
 (Ed (fun d t=>tg (Lp Dv (Gc J) (Gc Jr)) d (BA J m1 t) fun m2=>b (Lp Dv (Gc J) (Gc Jr)) m2 (kE J Jr)) ds (An J m1)).bind fun x=>x.el (fun t=>k.nx (BA J m1 t)) fun d t=>k.rt d (BA Jr m1 t)
theorem QM{J:List Nat}{Γ:Gm}{K:W.Frag}{g:G}{H:Hp}{m:M}{σ:St}{P:Fp}(r:Rel K g H Γ m σ P):Rel K g H Γ (BA J m (An J m)) σ P:=r.join (js:=[]) Ba.refl fun _ _ _=>.inr (by simp)
theorem Ru{K:W.Frag}{F:Fr}{zAO:Option Gm}{Γ zW:Gm}{Γo:Option Gm}{jt jb:List Nat}{g:TG}{ft:Tg}{b:Es}{J Jr:List Nat}(ht:Oo K Γ zW jt g ft)(yd:∀i∈F.io,i∉jt)(hw:Mv (some Γ) Γo=true)
    (hJ:J=BX Γ (jt++jb)) (hJr:Jr=BX F.Γr (jt++jb)) {ds:List Dv} {m1:M} {D:Ends} {σ:St} {H1:Hp} {g1:G} {P1:Fp} {I:It} {R:Type} {k:Kt R} {res:R}
    (r1:Rel K g1 H1 Γ m1 σ P1) (yl:Yl K I ds g1 H1) (run:List Dv->Gc J->Prop) (h0:run ds (An J m1)) (hn:∀t,run [] t->k.nx (BA J m1 t)=some res)
    (hc:∀d ds t,run (d::ds) t->∃(B:Type) (κ:Kt B) (r:B),ft B d (BA J m1 t) (fun m2=>b B m2 κ)=some r/\(∀m',κ.nx m'=some r->run ds (An J m'))/\(∀m',κ.ct m'=some r->run ds (An J m')) /\
      (∀m',κ.bk m'=some r->k.nx (BA J m1 (An J m'))=some res)/\∀d m',κ.rt d m'=some r->k.rt d (BA Jr m1 (An Jr m'))=some res)
    (q:AcS K F zAO g1 P1 H1 σ D (some Γ) (jt++jb) m1 k res) :
    ∃W:Nat->Nat->St->Hp->Prop,(∃m,W 0 m σ H1)/\∀i m σ H,W i m σ H ->
      (I.stop i H/\D.nx σ H)\/(I.go i H/\∃N:St->Hp->Prop,(∀σ' H',N σ' H'->∃m',m' < m/\W (i+1) m' σ' H')/\∀x H',I.yld i H x H'->g x σ H' fun xy H2=>tS K F (some Γ) zW Γo jb b { D with nx:=N,ct:=N,bk:=D.nx } xy H2):=by
  have sub:∀i∈J,i∈jt++jb:=fun i h=>BF (hJ▸h)
  have zCY:∀i∈Jr,i∈jt++jb:=fun i h=>BF (hJr▸h)
  refine⟨fun i j σ' H'=>j=ds.length - i/\i<=ds.length/\∃g2 t P2,Step g1 P1 H1 g2 P2 H'/\Io F.io σ σ'/\Rel K g2 H' Γ (BA J m1 t) σ' P2/\run (ds.drop i) t,⟨ds.length,by simp,G5 _,g1,An J m1,P1,Step.refl,Io.refl,QM r1,by simpa using h0⟩,?_⟩;rintro i j xy H2 ⟨rfl,hi,g2,t,P2,s2,i2,r2,e2⟩;have st:Jv g1 H1 g2 H2:=⟨P1,P2,s2,r1.xO⟩
  by_cases zG:i < ds.length
  · rw[U6 zG] at e2;obtain⟨B,κ,rB,e3,knx,kct,kbk,krt⟩:=hc _ _ _ e2;obtain⟨go,yy⟩:=(yl g2 H2 st).1 i ds[i] (A3 zG);refine .inr ⟨go,fun σ' H'=>∃g5 P5 m',Step g1 P1 H1 g5 P5 H'/\Io F.io σ σ'/\Rel K g5 H' Γ m' σ' P5/\Ba (jt++jb) m1 m'/\run (ds.drop (i+1)) (An J m'),?_,fun x H3 hy=>?_⟩
    · rintro σ' H' ⟨g5,P5,m',s5,i5,r5,ag,hr⟩;exact⟨ds.length - (i+1),by omega,rfl,zG,g5,An J m',P5,s5,i5,r5.join ag fun i o h=>hJ▸BW h,hr⟩
    · obtain⟨Pv,s3,h3,r3,n3⟩:=Af.go s2 r2 (yy x H3 hy);refine ht g2 _ P2 ds[i] x xy H3 B _ rB _ r3 h3.z e3 fun m2 P' σ' hk ag sp ip r'=>?_
      have s4:Step g1 P1 H1 g2 P' H3:=s3.less fun a z=>.inl (sp a z)
      have i4:=i2.trans (ip.io yd);have a4:Ba (jt++jb) m1 m2:=((AY J m1 t).mono sub).trans ag |>.mono fun i z=>(C0.mp z).elim id fun z=>C3 _ z
      have a5:∀{m'},Ba jb m2 m'->Ba (jt++jb) m1 m':=fun h=>(a4.trans h).mono fun i z=>(C0.mp z).elim id fun z=>B4 _ z
      refine⟨g2,m2,P',r',B,κ,rB,hk,⟨fun Γ' m' g' P'' zV H' e hk ag' s' i' rr=>?_,fun d m' g' P'' Pv zV v H' hk ag' s' i' rv rr n=>?_,fun Γ' m' g' P'' zV H' e hk ag' s' i' rr=>?_,fun Γ' m' g' P'' zV H' e hk ag' s' i' rr=>?_⟩⟩
      · subst e;obtain⟨g6,P6,s6,r6⟩:=rr.weaken (by unfold Mv at hw;exact hw);exact⟨g6,P6,m',(s4.trans s').trans s6,i4.trans i',r6,a5 ag',knx m' hk⟩
      · exact q.rt d _ g' P'' Pv zV v H' (krt d m' hk) ((AY Jr m1 _).mono zCY) (s4.trans s') (i4.trans i') rv (rr.join (a5 ag') fun i o h=>hJr▸BW h) n
      · cases e;exact q.nx Γ _ g' P'' zV H' rfl (kbk m' hk) ((AY J m1 _).mono sub) (s4.trans s') (i4.trans i') (rr.join (a5 ag') fun i o h=>hJ▸BW h)
      · cases e;exact⟨g',P'',m',s4.trans s',i4.trans i',rr,a5 ag',kct m' hk⟩
  · have ei:i=ds.length:=by omega
    subst ei;rw[vc] at e2;exact .inl ⟨(yl g2 H2 st).2 _ (B7 _),q.nx Γ _ g2 P2 xy H2 rfl (hn t e2) ((AY J m1 _).mono sub) s2 i2 r2⟩
section
variable {X:Cx} {F:Fr} {zAO:Option Gm} {Γ xY xa zW:Gm} {Γo:Option Gm} {js jt jb J Jr:List Nat} {tg iter:Expr} {body:List M4} {src:Ev (List Dv)} {g:TG} {ft:Tg} {b:Es} {pos:Pos}
theorem Jv.pre{g g2 g3:G}{H H3:Hp}{P P2:Fp}(s:Step g P H g2 P2 H)(ok:xS g H P)(st:Jv g2 H g3 H3):Jv g H g3 H3:=by
 obtain⟨P3,P3',s3,ok3⟩:=st;exact⟨fun a=>P a\/P3 a,P3',(s.frame (R:=P3)).trans (s3.sub (fun _ z=>.inr z) fun _ z=>z),ok.or fun a z=>⟨(ok3 a z).1,fun w=>(ok3 a z).2 (s.zm a w)⟩⟩
theorem Zq{K:W.Frag}{σ:St}{H:Hp}{Q:It->Hp->Prop}(hw:Bv xa xY=true)(h:tI K Γ xa js src σ H Q):tI K Γ xY js src σ H Q:=by
 obtain⟨g,m,P,r,R,k,res,e,q⟩:=h;refine⟨g,m,P,r,R,k,res,e,fun ds m' g' P' H' J hk ag s r1 yl=>?_⟩;obtain⟨g2,P2,s2,r2⟩:=r1.weaken hw;exact q ds m' g2 P2 H' J hk ag (s.trans s2) r2 fun g3 H3 st=>yl g3 H3 (st.pre s2 r1.xO)
theorem gY(hp:i8 (D6 X.prog X.w) X.A X.env X.xe)(hc:X.calm=true)(hi:PI X tg iter (tI X.K Γ xY js src))(hg:PG X tg g)(ht:Oo X.K xY zW jt g ft)(yd:∀i∈F.io,i∉jt)(hb:Ej X body (tS X.K F (some xY) zW Γo jb b))(hw:Mv (some xY) Γo=true)(hJ:J=BX xY (jt++jb))
    (hs:∀x,O5 iter X.env x=pure x):PS X (.For tg iter body [] pos) (tS X.K F zAO Γ (some xY) (js++(jt++jb)) (Xo src ft J b)):=PS.imp (WA hp hc hi hg hb hs) fun D σ H h=>by
  obtain⟨g0,m,P,r,R,k,res,e,q⟩:=h;refine⟨g0,m,P,r,R,_,res,e,fun ds m1 g1 P1 H1 I hk ag s r1 yl=>?_⟩;obtain⟨t,e1,e2⟩:=xI hk;refine Ru (Jr:=BX F.Γr (jt++jb)) ht yd hw hJ rfl r1 yl (fun ds t0=>BK _ ds t0=some t) e1 (fun t0 h=>?_) (fun d ds t0 h=>?_) (q.later s Io.refl ag)
  · cases h;exact e2
  · obtain⟨t1,h1,h2⟩:=xI h;refine⟨Gc J,kC J,t1,h1,fun m' hk=>?_,fun m' hk=>?_,(fun m' hk=>by cases hk),fun d m' hk=>by cases hk⟩
    · cases hk;exact h2
    · cases hk;exact h2
theorem gX(hp:i8 (D6 X.prog X.w) X.A X.env X.xe)(hc:X.calm=true)(hi:PI X tg iter (tI X.K Γ xY js src))(hg:PG X tg g)(ht:Oo X.K xY zW jt g ft)(yd:∀i∈F.io,i∉jt)(hb:Ej X body (tS X.K F (some xY) zW Γo jb b))(hw:Mv (some xY) Γo=true)(hJ:J=BX xY (jt++jb))(hJr:Jr=BX F.Γr (jt++jb))
    (hs:∀x,O5 iter X.env x=pure x):PS X (.For tg iter body [] pos) (tS X.K F zAO Γ (some xY) (js++(jt++jb)) (Xn src ft J Jr b)):=PS.imp (WA hp hc hi hg hb hs) fun D σ H h=>by
  obtain⟨g0,m,P,r,R,k,res,e,q⟩:=h;refine⟨g0,m,P,r,R,_,res,e,fun ds m1 g1 P1 H1 I hk ag s r1 yl=>?_⟩;obtain⟨x,e1,e2⟩:=xI hk;refine Ru ht yd hw hJ hJr r1 yl (fun ds t0=>Ed _ ds t0=some x) e1 (fun t0 h=>?_) (fun d ds t0 h=>?_) (q.later s Io.refl ag)
  · cases h;exact e2
  · obtain⟨l,h1,h2⟩:=xI h;refine⟨_,kE J Jr,l,h1,fun m' hk=>?_,fun m' hk=>?_,fun m' hk=>?_,fun d m' hk=>?_⟩
    · cases hk;exact h2
    · cases hk;exact h2
    · cases hk;cases h2;exact e2
    · cases hk;cases h2;exact e2
end
def eg(n:Nat)(c:Ev Bool)(J:List Nat)(b:Es):Es:=fun R m k =>
 (Up (fun t=>c Bool (BA J m t) fun b _=>some b) (fun t=>b (Gc J) (BA J m t) (kC J)) n (An J m)).bind fun t=>k.nx (BA J m t)
theorem fg{K:W.Frag}{F:Fr}{zAO:Option Gm}{Γ Γc:Gm}{Γo:Option Gm}{jb:List Nat}{c:Ev Bool}{b:Es}{J Jr:List Nat}(hwc:Bv Γ Γc=true)(hw:Mv (some Γ) Γo=true)
    (hJ:J=BX Γ jb) (hJr:Jr=BX F.Γr jb) {m1:M} {D:Ends} {σ:St} {H1:Hp} {g1:G} {P1:Fp} {R:Type} {k:Kt R} {res:R}
    (r1:Rel K g1 H1 Γ m1 σ P1) (run:Nat->Gc J->Prop) {n:Nat} (h0:run n (An J m1))
    (hc:∀n t,run n t->∃bb,c Bool (BA J m1 t) (fun b _=>some b)=some bb/\if bb=true then ∃n',n' < n/\∃(B:Type) (κ:Kt B) (r:B),b B (BA J m1 t) κ=some r/\(∀m',κ.nx m'=some r->run n' (An J m'))/\(∀m',κ.ct m'=some r->run n' (An J m')) /\
      (∀m',κ.bk m'=some r->k.nx (BA J m1 (An J m'))=some res)/\(∀d m',κ.rt d m'=some r->k.rt d (BA Jr m1 (An Jr m'))=some res) else k.nx (BA J m1 t)=some res)
    (q:AcS K F zAO g1 P1 H1 σ D (some Γ) jb m1 k res):VE (tT K Γ Γc [] c) (tS K F (some Γ) Γ Γo jb b) D σ H1:=by
  have sub:∀i∈J,i∈jb:=fun i h=>BF (hJ▸h)
  have zCY:∀i∈Jr,i∈jb:=fun i h=>BF (hJr▸h)
  refine⟨fun n σ' H'=>∃g2 t P2,Step g1 P1 H1 g2 P2 H'/\Io F.io σ σ'/\Rel K g2 H' Γ (BA J m1 t) σ' P2/\run n t,⟨n,g1,An J m1,P1,Step.refl,Io.refl,QM r1,h0⟩,?_⟩;rintro n' xy H2 ⟨g2,t,P2,s2,i2,r2,e2⟩;obtain⟨bb,e3,e4⟩:=hc n' t e2;refine⟨g2,_,P2,r2,Bool,_,bb,e3,fun b' m' g3 P3 H3 hk ag s3 r3=>?_⟩;cases hk;obtain⟨g4,P4,s4,r4⟩:=r3.weaken hwc;have r5:Rel K g4 H3 Γ (BA J m1 t) xy P4:=r4.agree ag.1.symm fun i o _=>(ag.2 i (by simp)).symm
  have s5:=(s2.trans s3).trans s4;cases bb with
  | false=>rw[if_neg D4] at e4 ⊢;exact q.nx Γ _ g4 P4 xy H3 rfl e4 ((AY J m1 _).mono sub) s5 i2 r5
  | true =>
    rw[if_pos rfl] at e4 ⊢;obtain⟨n2,hn,B,κ,rB,eb,knx,kct,kbk,krt⟩:=e4;have a5:∀{m'},Ba jb (BA J m1 t) m'->Ba jb m1 m':=fun h=>(((AY J m1 t).mono sub).trans h).mono fun i z=>(C0.mp z).elim id id
    refine⟨fun σ' H'=>∃g5 P5 m',Step g1 P1 H1 g5 P5 H'/\Io F.io σ σ'/\Rel K g5 H' Γ m' σ' P5/\Ba jb m1 m'/\run n2 (An J m'),?_,g4,_,P4,r5,B,κ,rB,eb,⟨fun Γ' m' g' P'' zV H' e hk ag' s' i' rr=>?_,fun d m' g' P'' Pv zV v H' hk ag' s' i' rv rr n=>?_,fun Γ' m' g' P'' zV H' e hk ag' s' i' rr=>?_,fun Γ' m' g' P'' zV H' e hk ag' s' i' rr=>?_⟩⟩
    · rintro σ' H' ⟨g6,P6,m',s6,i6,r6,ag6,hr⟩;exact⟨n2,hn,g6,An J m',P6,s6,i6,r6.join ag6 fun i o h=>hJ▸BW h,hr⟩
    · subst e;obtain⟨g6,P6,s6,r6⟩:=rr.weaken (by unfold Mv at hw;exact hw);exact⟨g6,P6,m',(s5.trans s').trans s6,i2.trans i',r6,a5 ag',knx m' hk⟩
    · exact q.rt d _ g' P'' Pv zV v H' (krt d m' hk) ((AY Jr m1 _).mono zCY) (s5.trans s') (i2.trans i') rv (rr.join (a5 ag') fun i o h=>hJr▸BW h) n
    · cases e;exact q.nx Γ _ g' P'' zV H' rfl (kbk m' hk) ((AY J m1 _).mono sub) (s5.trans s') (i2.trans i') (rr.join (a5 ag') fun i o h=>hJ▸BW h)
    · cases e;exact⟨g',P'',m',s5.trans s',i2.trans i',rr,a5 ag',kct m' hk⟩
section
variable {X:Cx} {F:Fr} {zAO:Option Gm} {Γ Γc:Gm} {Γo:Option Gm} {jb J Jr:List Nat} {c:Expr} {body:List M4} {t:Ev Bool} {b:Es} {pos:Pos}
theorem mO(n:Nat)(hp:i8 (D6 X.prog X.w) X.A X.env X.xe)(hc:PT X c (tT X.K Γ Γc [] t))(hb:Ej X body (tS X.K F (some Γ) Γ Γo jb b))(hwc:Bv Γ Γc=true)(hw:Mv (some Γ) Γo=true)(hJ:J=BX Γ jb) :
    PS X (.While c body [] pos) (tS X.K F zAO Γ (some Γ) jb (eg n t J b)):=PS.imp (Vz hp hc hb) fun D σ H h=>by
  obtain⟨g0,m,P,r,R,k,res,e,q⟩:=h;obtain⟨t',e1,e2⟩:=xI e;refine fg (Jr:=BX F.Γr jb) hwc hw hJ rfl r (fun n t0=>Up _ _ n t0=some t') e1 (fun n t0 h=>?_) q;cases n with
  | zero=>cases h
  | succ n =>
    obtain⟨bb,h1,h2⟩:=xI h;refine⟨bb,h1,?_⟩;cases bb with
    | false=>rw[if_neg D4] at h2 ⊢;cases h2;exact e2
    | true =>
      rw[if_pos rfl] at h2 ⊢;obtain⟨t1,h3,h4⟩:=xI h2;refine⟨n,Y2 n,Gc J,kC J,t1,h3,fun m' hk=>?_,fun m' hk=>?_,(fun m' hk=>by cases hk),fun d m' hk=>by cases hk⟩
      · cases hk;exact h4
      · cases hk;exact h4
end
end R
namespace Q
open PySem L2
end Q
namespace L3
open PySem PySem.Spec PyProof.Rows PySem.SeqAt L2
abbrev St:=L2.St
inductive D where
 | fl (v:V)
 | tup (ds:List D)
 | lst (ds:List D)
mutual
noncomputable def xj:D->D->Bool
 | .fl a,.fl b=>yU a b
 | .tup a,.tup b=>yX a b
 | .lst a,.lst b=>yX a b
 | _,_=>false
noncomputable def yX:List D->List D->Bool
 | [],[]=>true
 | x::xs,y::ys=>xj x y && yX xs ys
 | _,_=>false
end
mutual
noncomputable def D.dep:D->Nat
 | .fl _=>0
 | .tup ds=>yQ ds+1
 | .lst ds=>yQ ds+1
noncomputable def yQ:List D->Nat
 | []=>0
 | d::ds=>max d.dep (yQ ds)
end
mutual
noncomputable def Is(K:W.Frag)(H:Hp):V->D->Prop
 | x,.fl v=>x=v/\Jb v=true
 | x,.tup ds=>∃a xs,x=.ref a/\FL K H a xs/\IsL K H xs ds
 | x,.lst ds=>∃a xs,x=.ref a/\DO K H a xs/\IsL K H xs ds
noncomputable def IsL(K:W.Frag)(H:Hp):List V->List D->Prop
 | [],[]=>True
 | x::xs,d::ds=>Is K H x d/\IsL K H xs ds
 | _,_=>False
end
theorem IsL.inv{K:W.Frag}{H:Hp}{x:V}{xs:List V}{es:List D}(h:IsL K H (x::xs) es):∃d ds,es=d::ds/\Is K H x d/\IsL K H xs ds:=by
 cases es with
 | nil=>unfold IsL at h;exact h.elim
 | cons d ds=>unfold IsL at h;exact⟨d,ds,rfl,h.1,h.2⟩
theorem IsL.length{K:W.Frag}{H:Hp}:∀{xs:List V} {ds:List D},IsL K H xs ds->xs.length=ds.length
 | [],[],_=>rfl
 | [],_::_,h=>by unfold IsL at h;exact h.elim
 | _::_,[],h=>by unfold IsL at h;exact h.elim
 | x::xs,d::ds,h=>by unfold IsL at h;rw[C6,C6,IsL.length h.2]
theorem IsL.get{K:W.Frag}{H:Hp}:∀{xs:List V} {ds:List D} {i:Nat} {d:D},IsL K H xs ds->ds[i]?=some d->∃x,xs[i]?=some x/\Is K H x d
 | [],[],_,_,_,e=>by simp at e
 | [],_::_,_,_,h,_=>by unfold IsL at h;exact h.elim
 | _::_,[],_,_,_,e=>by simp at e
 | x::xs,d::ds,0,d',h,e=>by
  unfold IsL at h;have:d=d':=by simpa using e
  subst this;exact⟨x,rfl,h.1⟩
 | x::xs,d::ds,i+1,_,h,e=>by
  unfold IsL at h;obtain⟨y,e1,e2⟩:=IsL.get (i:=i) h.2 (by simpa using e);exact⟨y,by simpa using e1,e2⟩
theorem RC{X:Cx}{pins:List (B5×Obj)}{σ:St}{H:Hp}{s:A9}{a:B5}{xs ys:List V}(I:Inv X pins σ H s)(h:FL X.K H a xs)(k:DO X.K H a ys):False:=by
 obtain⟨_,_,⟨o,e,c,_⟩,_⟩:=I.tuple h;obtain⟨_,_,⟨o',n,e',c',_⟩,_⟩:=I.list k;rw[e] at e';cases e';rw[c] at c';injection c' with q
 exact absurd q (by decide)
mutual
theorem Is.inj{X:Cx}{pins:List (B5×Obj)}{σ:St}{H:Hp}{s:A9}(I:Inv X pins σ H s):∀{d e:D} {x:V},Is X.K H x d->Is X.K H x e->d=e
 | .fl v,e,x,h,k=>by
  unfold Is at h;obtain⟨rfl,hf⟩:=h;cases e with
  | fl u=>unfold Is at k;rw[k.1]
  | tup es=>unfold Is at k;obtain⟨a,xs,rfl,_⟩:=k;cases hf
  | lst es=>unfold Is at k;obtain⟨a,xs,rfl,_⟩:=k;cases hf
 | .tup ds,e,x,h,k=>by
  unfold Is at h;obtain⟨a,xs,rfl,h1,h2⟩:=h;cases e with
  | fl u=>unfold Is at k;obtain⟨k1,k2⟩:=k;rw[<- k1] at k2;cases k2
  | tup es =>
   unfold Is at k;obtain⟨b,ys,e,k1,k2⟩:=k;cases e;rw[I.zB h1 k1] at h2;rw[IsL.inj I h2 k2]
  | lst es=>unfold Is at k;obtain⟨b,ys,e,k1,k2⟩:=k;cases e;exact(RC I h1 k1).elim
 | .lst ds,e,x,h,k=>by
  unfold Is at h;obtain⟨a,xs,rfl,h1,h2⟩:=h;cases e with
  | fl u=>unfold Is at k;obtain⟨k1,k2⟩:=k;rw[<- k1] at k2;cases k2
  | lst es =>
   unfold Is at k;obtain⟨b,ys,e,k1,k2⟩:=k;cases e;rw[I.zZ h1 k1] at h2;rw[IsL.inj I h2 k2]
  | tup es=>unfold Is at k;obtain⟨b,ys,e,k1,k2⟩:=k;cases e;exact(RC I k1 h1).elim
theorem IsL.inj{X:Cx}{pins:List (B5×Obj)}{σ:St}{H:Hp}{s:A9}(I:Inv X pins σ H s):∀{ds es:List D} {xs:List V},IsL X.K H xs ds->IsL X.K H xs es->ds=es
 | [],es,[],h,k=>by
  cases es with
  | nil=>rfl
  | cons e es=>unfold IsL at k;exact k.elim
 | [],_,_::_,h,_=>by unfold IsL at h;exact h.elim
 | _::_,_,[],h,_=>by unfold IsL at h;exact h.elim
 | d::ds,es,x::xs,h,k=>by
  unfold IsL at h;obtain⟨e,es',rfl,k1,k2⟩:=k.inv;rw[Is.inj I h.1 k1,IsL.inj I h.2 k2]
end
theorem YA{v:V}(h:Jb v=true):yU v v=true:=by
 cases v<;>first | rfl | (simp[yU];done) | cases h
mutual
theorem Jh{K:W.Frag}{H:Hp}:∀{d:D} {x:V},Is K H x d->xj d d=true
 | .fl v,x,h=>by unfold Is at h;unfold xj;exact YA h.2
 | .tup ds,x,h=>by unfold Is at h;obtain⟨_,_,_,_,h2⟩:=h;unfold xj;exact HS h2
 | .lst ds,x,h=>by unfold Is at h;obtain⟨_,_,_,_,h2⟩:=h;unfold xj;exact HS h2
theorem HS{K:W.Frag}{H:Hp}:∀{ds:List D} {xs:List V},IsL K H xs ds->yX ds ds=true
 | [],_,_=>by unfold yX;rfl
 | _::_,[],h=>by unfold IsL at h;exact h.elim
 | d::ds,x::xs,h=>by
  unfold IsL at h;unfold yX;rw[Jh h.1,HS h.2];rfl
end
theorem Bt:∀(xs ys:List D) (e:Nat->Bool),(∀i x y,xs[i]?=some x->ys[i]?=some y->e i=xj x y)->((B1 (min xs.length ys.length)).all e && xs.length == ys.length)=yX xs ys
 | [],[],_,_=>by unfold yX;rfl
 | [],_::_,_,_=>by unfold yX;simp
 | _::_,[],_,_=>by unfold yX;simp
 | x::xs,y::ys,e,h=>by
  have ih:=Bt xs ys (fun i=>e (i+1)) fun i a b h1 h2=>h (i+1) a b (by simpa using h1) (by simpa using h2)
  have h0:=h 0 x y rfl rfl;unfold yX;rw[<- ih,<- h0,C6,C6,Nat.succ_min_succ,T4,I9,we];have:((xs.length+1 == ys.length+1):Bool)=(xs.length == ys.length):=by simp
  rw[this,Bool.and_assoc];rfl
theorem GR:∀{ds:List D} {i:Nat} {d:D},ds[i]?=some d->d.dep<=yQ ds
 | [],_,_,e=>by simp at e
 | d::ds,0,d',e=>by
  have:d=d':=by simpa using e
  subst this;show d.dep<=yQ (d::ds);unfold yQ;exact Nat.le_max_left _ _
 | d::ds,i+1,x,e=>by
  have:=GR (ds:=ds) (i:=i) (d:=x) (by simpa using e);unfold yQ;exact A4 this (vd _ _)
section
variable {X:Cx} {pins:List (B5×Obj)} {σ:St} {H:Hp} {s:A9}
def SB(ds es:List D)(i:Nat):Bool:=match ds[i]?,es[i]? with | some a,some b=>xj a b | _,_=>true
theorem Ee{ds es:List D}{i:Nat}{a b:D}(h1:ds[i]?=some a)(h2:es[i]?=some b):SB ds es i=xj a b:=by unfold SB;rw[h1,h2]
theorem As{x:V}(h:Jb x=true):x=.xQ\/(∃b,x=.bl b)\/(∃i,x=.int i)\/∃z,x=.str z:=by
 cases x with
 | xQ=>exact .inl rfl
 | bl b=>exact .inr (.inl ⟨b,rfl⟩)
 | int i=>exact .inr (.inr (.inl ⟨i,rfl⟩))
 | str z=>exact .inr (.inr (.inr ⟨z,rfl⟩))
 | _=>cases h
theorem YD(I:Inv X pins σ H s):∀(n:Nat) (A:J5) (d e:D) (x y:V) (u v:Value),d.dep<=n->A.units+n < K6->RelV x u->RelV y v->Is X.K H x d->Is X.K H y e->EqAt A s u v (xj d e):=by
 intro n
 induction n with
 | zero =>
  intro A d e x y u v hd hu rx ry hx hy;cases d with
  | fl a =>
   unfold Is at hx;obtain⟨rfl,fx⟩:=hx;cases e with
   | fl b=>unfold Is at hy;obtain⟨rfl,fy⟩:=hy;unfold xj;exact kS rx ry fx fy
   | tup es =>
    unfold Is at hy;obtain⟨b,ys,rfl,h1,h2⟩:=hy;cases ry;obtain⟨xJ,r,ht,_⟩:=I.tuple h1;unfold xj;rcases As fx with rfl | ⟨c,rfl⟩ | ⟨c,rfl⟩ | ⟨c,rfl⟩
    ·cases rx;exact EqAt.none_tuple ht hu
    ·cases rx;exact EqAt.bool_tuple c ht hu
    ·obtain⟨t,rfl⟩:=rx;exact EqAt.int_tuple c t ht hu
    ·obtain⟨t,rfl⟩:=rx;exact EqAt.str_tuple c t ht hu
   | lst es =>
    unfold Is at hy;obtain⟨b,ys,rfl,h1,h2⟩:=hy;cases ry;obtain⟨xJ,r,ht,_⟩:=I.list h1;unfold xj;rcases As fx with rfl | ⟨c,rfl⟩ | ⟨c,rfl⟩ | ⟨c,rfl⟩
    ·cases rx;exact EqAt.none_list ht.isList hu
    ·cases rx;exact EqAt.bool_list c ht.isList hu
    ·obtain⟨t,rfl⟩:=rx;exact EqAt.int_list c t ht.isList hu
    ·obtain⟨t,rfl⟩:=rx;exact EqAt.str_list c t ht.isList hu
  | tup ds=>unfold D.dep at hd;omega
  | lst ds=>unfold D.dep at hd;omega
 | succ n ih =>
  intro A d e x y u v hd hu rx ry hx hy;have xh:A.units < K6:=by omega
  cases d with
  | fl a=>exact ih A (.fl a) e x y u v (by unfold D.dep;omega) (by omega) rx ry hx hy
  | tup ds =>
   unfold D.dep at hd;have hx0:=hx;unfold Is at hx;obtain⟨a,xs,rfl,h1,h2⟩:=hx;cases rx;obtain⟨xJ,r,ht,_⟩:=I.tuple h1;cases e with
   | fl b =>
    unfold Is at hy;obtain⟨rfl,fy⟩:=hy;unfold xj;rcases As fy with rfl | ⟨c,rfl⟩ | ⟨c,rfl⟩ | ⟨c,rfl⟩
    ·cases ry;exact EqAt.tuple_none ht xh
    ·cases ry;exact EqAt.tuple_bool c ht xh
    ·obtain⟨t,rfl⟩:=ry;exact EqAt.tuple_int c t ht xh
    ·obtain⟨t,rfl⟩:=ry;exact EqAt.tuple_str c t ht xh
   | tup es =>
    have hy0:=hy;unfold Is at hy;obtain⟨b,ys,rfl,k1,k2⟩:=hy;cases ry;obtain⟨xU,r2,xg,_⟩:=I.tuple k1
    by_cases hab:a=b
    ·subst hab;rw[Is.inj I hx0 hy0,Jh hy0];exact EqAt.same _
    ·refine EqAt.of_refs hab ?_;have q:=RcAt.tuples (e:=SB ds es) ht xg xh (fun j j1 j2=>?_)
     ·have e1:=Bt ds es (SB ds es) fun i a b q1 q2=>Ee q1 q2
      rw[A8,A8,<- r.length,<- r2.length,h2.length,k2.length,e1] at q;unfold xj;exact q
     ·have j1':j < xJ.length:=by simpa using j1
      have j2':j < xU.length:=by simpa using j2
      have l1:j < ds.length:=by rw[<- h2.length,r.length];exact j1'
      have l2:j < es.length:=by rw[<- k2.length,r2.length];exact j2'
      obtain⟨x',ex,px⟩:=h2.get (i:=j) (A3 l1);obtain⟨y',ey,py⟩:=k2.get (i:=j) (A3 l2);obtain⟨u',eu,ru⟩:=r.get ex;obtain⟨v',ev,rv⟩:=r2.get ey;rw[Ee (A3 l1) (A3 l2)];have z1:xJ.toArray[j]=u':=by rw[A3 j1'] at eu;simpa using D0 eu
      have z2:xU.toArray[j]=v':=by rw[A3 j2'] at ev;simpa using D0 ev
      rw[z1,z2];exact ih A.in1 _ _ x' y' u' v' (A4 (GR (A3 l1)) (by omega)) (by show A.units+1+n < K6;omega) ru rv px py
   | lst es =>
    unfold Is at hy;obtain⟨b,ys,rfl,k1,k2⟩:=hy;cases ry;obtain⟨xU,r2,xg,_⟩:=I.list k1;unfold xj;exact EqAt.tuple_list ht xg.isList xh
  | lst ds =>
   unfold D.dep at hd;have hx0:=hx;unfold Is at hx;obtain⟨a,xs,rfl,h1,h2⟩:=hx;cases rx;obtain⟨xJ,r,ht,_⟩:=I.list h1;cases e with
   | fl b =>
    unfold Is at hy;obtain⟨rfl,fy⟩:=hy;unfold xj;rcases As fy with rfl | ⟨c,rfl⟩ | ⟨c,rfl⟩ | ⟨c,rfl⟩
    ·cases ry;exact EqAt.list_none ht.isList xh
    ·cases ry;exact EqAt.list_bool c ht.isList xh
    ·obtain⟨t,rfl⟩:=ry;exact EqAt.list_int c t ht.isList xh
    ·obtain⟨t,rfl⟩:=ry;exact EqAt.list_str c t ht.isList xh
   | tup es =>
    unfold Is at hy;obtain⟨b,ys,rfl,k1,k2⟩:=hy;cases ry;obtain⟨xU,r2,xg,_⟩:=I.tuple k1;unfold xj;exact EqAt.list_tuple ht.isList xg xh
   | lst es =>
    have hy0:=hy;unfold Is at hy;obtain⟨b,ys,rfl,k1,k2⟩:=hy;cases ry;obtain⟨xU,r2,xg,_⟩:=I.list k1
    by_cases hab:a=b
    ·subst hab;rw[Is.inj I hx0 hy0,Jh hy0];exact EqAt.same _
    ·refine EqAt.of_refs hab ?_
     by_cases hsz:ds.length=es.length
     ·have e1:=Bt ds es (SB ds es) fun i a b q1 q2=>Ee q1 q2
      rw[hsz,tL,beq_self_eq_true,wY] at e1;have q:=RcAt.lists (e:=SB ds es) ht.isList xg.isList (by rw[A8,A8,<- r.length,<- r2.length,h2.length,k2.length];exact hsz) xh (fun j j1 j2=>?_)
      ·rw[A8,<- r.length,h2.length,hsz,e1] at q;unfold xj;exact q
      ·have j1':j < xJ.length:=by simpa using j1
       have j2':j < xU.length:=by simpa using j2
       have l1:j < ds.length:=by rw[<- h2.length,r.length];exact j1'
       have l2:j < es.length:=by rw[<- k2.length,r2.length];exact j2'
       obtain⟨x',ex,px⟩:=h2.get (i:=j) (A3 l1);obtain⟨y',ey,py⟩:=k2.get (i:=j) (A3 l2);obtain⟨u',eu,ru⟩:=r.get ex;obtain⟨v',ev,rv⟩:=r2.get ey;rw[Ee (A3 l1) (A3 l2)];have z1:xJ.toArray[j]=u':=by rw[A3 j1'] at eu;simpa using D0 eu
       have z2:xU.toArray[j]=v':=by rw[A3 j2'] at ev;simpa using D0 ev
       rw[z1,z2];exact ih A.in1 _ _ x' y' u' v' (A4 (GR (A3 l1)) (by omega)) (by show A.units+1+n < K6;omega) ru rv px py
     ·have q:=RcAt.lists_lengths (A:=A) ht.isList xg.isList (by rw[A8,A8,<- r.length,<- r2.length,h2.length,k2.length];simpa using hsz) xh;have e1:=Bt ds es (SB ds es) fun i a b q1 q2=>Ee q1 q2
      have:(ds.length == es.length)=false:=by simpa using hsz
      rw[this,X0] at e1;unfold xj;rw[<- e1];exact q
end
noncomputable def D.seq:D->Bool
 | .fl _=>false
 | _=>true
section
variable {X:Cx} {pins:List (B5×Obj)} {σ:St} {H:Hp} {s:A9}
theorem Nu(I:Inv X pins σ H s){n:Nat}{A:J5}{xs ys:List V}{ds es:List D}{xJ xU:List Value}(hd:yQ ds<=n)(hu:A.units+1+n < K6)(r:AF xs xJ)(r2:AF ys xU)(h2:IsL X.K H xs ds)(k2:IsL X.K H ys es) :
    ∀j (h1:j < xJ.toArray.size) (h2:j < xU.toArray.size),EqAt A.in1 s xJ.toArray[j] xU.toArray[j] (SB ds es j):=fun j j1 j2=>by
  have j1':j < xJ.length:=by simpa using j1
  have j2':j < xU.length:=by simpa using j2
  have l1:j < ds.length:=by rw[<- h2.length,r.length];exact j1'
  have l2:j < es.length:=by rw[<- k2.length,r2.length];exact j2'
  obtain⟨x',ex,px⟩:=h2.get (i:=j) (A3 l1);obtain⟨y',ey,py⟩:=k2.get (i:=j) (A3 l2);obtain⟨u',eu,ru⟩:=r.get ex;obtain⟨v',ev,rv⟩:=r2.get ey;rw[Ee (A3 l1) (A3 l2)];have z1:xJ.toArray[j]=u':=by rw[A3 j1'] at eu;simpa using D0 eu
  have z2:xU.toArray[j]=v':=by rw[A3 j2'] at ev;simpa using D0 ev
  rw[z1,z2];exact YD I n A.in1 _ _ x' y' u' v' (A4 (GR (A3 l1)) hd) (by show A.units+1+n < K6;exact hu) ru rv px py
theorem Ls(I:Inv X pins σ H s){A:J5}{d e:D}{x y:V}{u v:Value}(sd:d.seq=true)(se:e.seq=true)(hu:A.units+d.dep+1 < K6)(rx:RelV x u)(ry:RelV y v)(hx:Is X.K H x d)(hy:Is X.K H y e):RcAt A s u v (xj d e)/\RcNeAt A s u v (!xj d e):=by
 have xh:A.units < K6:=by omega
 cases d with
 | fl a=>cases sd
 | tup ds =>
  unfold D.dep at hu;unfold Is at hx;obtain⟨a,xs,rfl,h1,h2⟩:=hx;cases rx;obtain⟨xJ,r,ht,_⟩:=I.tuple h1;cases e with
  | fl b=>cases se
  | tup es =>
   unfold Is at hy;obtain⟨b,ys,rfl,k1,k2⟩:=hy;cases ry;obtain⟨xU,r2,xg,_⟩:=I.tuple k1;have e1:=Bt ds es (SB ds es) fun i a b q1 q2=>Ee q1 q2
   have it:=Nu I (A:=A) (n:=yQ ds) (B7 _) (by omega) r r2 h2 k2;have q:=RcAt.tuples (e:=SB ds es) ht xg xh it;have q':=RcNeAt.tuples (e:=SB ds es) ht xg xh it;rw[A8,A8,<- r.length,<- r2.length,h2.length,k2.length,e1] at q q';unfold xj;exact⟨q,q'⟩
  | lst es =>
   unfold Is at hy;obtain⟨b,ys,rfl,k1,k2⟩:=hy;cases ry;obtain⟨xU,r2,xg,_⟩:=I.list k1;unfold xj;exact⟨RcAt.tuple_list ht xg.isList xh,RcNeAt.tuple_list ht xg.isList xh⟩
 | lst ds =>
  unfold D.dep at hu;unfold Is at hx;obtain⟨a,xs,rfl,h1,h2⟩:=hx;cases rx;obtain⟨xJ,r,ht,_⟩:=I.list h1;cases e with
  | fl b=>cases se
  | tup es =>
   unfold Is at hy;obtain⟨b,ys,rfl,k1,k2⟩:=hy;cases ry;obtain⟨xU,r2,xg,_⟩:=I.tuple k1;unfold xj;exact⟨RcAt.list_tuple ht.isList xg xh,RcNeAt.list_tuple ht.isList xg xh⟩
  | lst es =>
   unfold Is at hy;obtain⟨b,ys,rfl,k1,k2⟩:=hy;cases ry;obtain⟨xU,r2,xg,_⟩:=I.list k1;have e1:=Bt ds es (SB ds es) fun i a b q1 q2=>Ee q1 q2
   unfold xj
   by_cases hsz:ds.length=es.length
   ·rw[hsz,tL,beq_self_eq_true,wY] at e1;have it:=Nu I (A:=A) (n:=yQ ds) (B7 _) (by omega) r r2 h2 k2;have sz:xJ.toArray.size=xU.toArray.size:=by rw[A8,A8,<- r.length,<- r2.length,h2.length,k2.length];exact hsz
    have q:=RcAt.lists (e:=SB ds es) ht.isList xg.isList sz xh it;have q':=RcNeAt.lists (e:=SB ds es) ht.isList xg.isList sz xh it;rw[A8,<- r.length,h2.length,hsz,e1] at q q';exact⟨q,q'⟩
   ·have sz:(xJ.toArray.size != xU.toArray.size)=true:=by rw[A8,A8,<- r.length,<- r2.length,h2.length,k2.length];simpa using hsz
    have:(ds.length == es.length)=false:=by simpa using hsz
    rw[this,X0] at e1;rw[<- e1];exact⟨RcAt.lists_lengths ht.isList xg.isList sz xh,RcNeAt.lists_lengths ht.isList xg.isList sz xh⟩
end
section
variable {X:Cx} {pins:List (B5×Obj)} {σ:L2.St} {H:Hp} {s:A9}
theorem aR{A:J5}{x y:V}{u v:Value}(rx:RelV x u)(ry:RelV y v)(fx:Jb x=true)(fy:Jb y=true):RcAt A s u v (yU x y)/\RcNeAt A s u v (!yU x y):=by
 rcases As fx with rfl | ⟨c,rfl⟩ | ⟨c,rfl⟩ | ⟨c,rfl⟩<;>rcases As fy with rfl | ⟨d,rfl⟩ | ⟨d,rfl⟩ | ⟨d,rfl⟩
 ·cases rx;cases ry;exact⟨RcAt.none_none , RcNeAt.none_none ⟩
 ·cases rx;cases ry;exact⟨RcAt.none_bool d,RcNeAt.none_bool d⟩
 ·cases rx;obtain⟨dt,rfl⟩:=ry;exact⟨RcAt.none_int d dt,RcNeAt.none_int d dt⟩
 ·cases rx;obtain⟨dt,rfl⟩:=ry;exact⟨RcAt.none_str d dt,RcNeAt.none_str d dt⟩
 ·cases rx;cases ry;exact⟨RcAt.bool_none c,RcNeAt.bool_none c⟩
 ·cases rx;cases ry;exact⟨RcAt.bool_bool c d,RcNeAt.bool_bool c d⟩
 ·cases rx;obtain⟨dt,rfl⟩:=ry;exact⟨RcAt.bool_int c d dt,RcNeAt.bool_int c d dt⟩
 ·cases rx;obtain⟨dt,rfl⟩:=ry;exact⟨RcAt.bool_str c d dt,RcNeAt.bool_str c d dt⟩
 ·obtain⟨ct,rfl⟩:=rx;cases ry;exact⟨RcAt.int_none c ct,RcNeAt.int_none c ct⟩
 ·obtain⟨ct,rfl⟩:=rx;cases ry;exact⟨RcAt.int_bool c ct d,RcNeAt.int_bool c ct d⟩
 ·obtain⟨ct,rfl⟩:=rx;obtain⟨dt,rfl⟩:=ry;exact⟨RcAt.int_int c ct d dt,RcNeAt.int_int c ct d dt⟩
 ·obtain⟨ct,rfl⟩:=rx;obtain⟨dt,rfl⟩:=ry;exact⟨RcAt.int_str c ct d dt,RcNeAt.int_str c ct d dt⟩
 ·obtain⟨ct,rfl⟩:=rx;cases ry;exact⟨RcAt.str_none c ct,RcNeAt.str_none c ct⟩
 ·obtain⟨ct,rfl⟩:=rx;cases ry;exact⟨RcAt.str_bool c ct d,RcNeAt.str_bool c ct d⟩
 ·obtain⟨ct,rfl⟩:=rx;obtain⟨dt,rfl⟩:=ry;exact⟨RcAt.str_int c ct d dt,RcNeAt.str_int c ct d dt⟩
 ·obtain⟨ct,rfl⟩:=rx;obtain⟨dt,rfl⟩:=ry;exact⟨RcAt.str_str c ct d dt,RcNeAt.str_str c ct d dt⟩
theorem NQ(I:Inv X pins σ H s){A:J5}{d e:D}{x y:V}{u v:Value}(hu:A.units+d.dep+1 < K6)(rx:RelV x u)(ry:RelV y v)(hx:Is X.K H x d)(hy:Is X.K H y e):RcAt A s u v (xj d e)/\RcNeAt A s u v (!xj d e):=by
 have xh:A.units < K6:=by omega
 cases d with
 | fl a =>
  unfold Is at hx;obtain⟨rfl,fx⟩:=hx;cases e with
  | fl b =>
   unfold Is at hy;obtain⟨rfl,fy⟩:=hy;unfold xj;exact aR rx ry fx fy
  | tup es =>
   unfold Is at hy;obtain⟨b,ys,rfl,k1,k2⟩:=hy;cases ry;obtain⟨xU,r2,xg,_⟩:=I.tuple k1;unfold xj;rcases As fx with rfl | ⟨c,rfl⟩ | ⟨c,rfl⟩ | ⟨c,rfl⟩
   ·cases rx;exact⟨RcAt.none_tuple xg xh,RcNeAt.none_tuple xg xh⟩
   ·cases rx;exact⟨RcAt.bool_tuple c xg xh,RcNeAt.bool_tuple c xg xh⟩
   ·obtain⟨t,rfl⟩:=rx;exact⟨RcAt.int_tuple c t xg xh,RcNeAt.int_tuple c t xg xh⟩
   ·obtain⟨t,rfl⟩:=rx;exact⟨RcAt.str_tuple c t xg xh,RcNeAt.str_tuple c t xg xh⟩
  | lst es =>
   unfold Is at hy;obtain⟨b,ys,rfl,k1,k2⟩:=hy;cases ry;obtain⟨xU,r2,xg,_⟩:=I.list k1;unfold xj;rcases As fx with rfl | ⟨c,rfl⟩ | ⟨c,rfl⟩ | ⟨c,rfl⟩
   ·cases rx;exact⟨RcAt.none_list xg.isList xh,RcNeAt.none_list xg.isList xh⟩
   ·cases rx;exact⟨RcAt.bool_list c xg.isList xh,RcNeAt.bool_list c xg.isList xh⟩
   ·obtain⟨t,rfl⟩:=rx;exact⟨RcAt.int_list c t xg.isList xh,RcNeAt.int_list c t xg.isList xh⟩
   ·obtain⟨t,rfl⟩:=rx;exact⟨RcAt.str_list c t xg.isList xh,RcNeAt.str_list c t xg.isList xh⟩
 | tup ds =>
  cases e with
  | fl b =>
   unfold Is at hx hy;obtain⟨b',ys,rfl,k1,k2⟩:=hx;obtain⟨rfl,fy⟩:=hy;cases rx;obtain⟨xU,r2,xg,_⟩:=I.tuple k1;unfold xj;rcases As fy with rfl | ⟨c,rfl⟩ | ⟨c,rfl⟩ | ⟨c,rfl⟩
   ·cases ry;exact⟨RcAt.tuple_none xg xh,RcNeAt.tuple_none xg xh⟩
   ·cases ry;exact⟨RcAt.tuple_bool c xg xh,RcNeAt.tuple_bool c xg xh⟩
   ·obtain⟨t,rfl⟩:=ry;exact⟨RcAt.tuple_int c t xg xh,RcNeAt.tuple_int c t xg xh⟩
   ·obtain⟨t,rfl⟩:=ry;exact⟨RcAt.tuple_str c t xg xh,RcNeAt.tuple_str c t xg xh⟩
  | tup es=>exact Ls I rfl rfl hu rx ry hx hy
  | lst es=>exact Ls I rfl rfl hu rx ry hx hy
 | lst ds =>
  cases e with
  | fl b =>
   unfold Is at hx hy;obtain⟨b',ys,rfl,k1,k2⟩:=hx;obtain⟨rfl,fy⟩:=hy;cases rx;obtain⟨xU,r2,xg,_⟩:=I.list k1;unfold xj;rcases As fy with rfl | ⟨c,rfl⟩ | ⟨c,rfl⟩ | ⟨c,rfl⟩
   ·cases ry;exact⟨RcAt.list_none xg.isList xh,RcNeAt.list_none xg.isList xh⟩
   ·cases ry;exact⟨RcAt.list_bool c xg.isList xh,RcNeAt.list_bool c xg.isList xh⟩
   ·obtain⟨t,rfl⟩:=ry;exact⟨RcAt.list_int c t xg.isList xh,RcNeAt.list_int c t xg.isList xh⟩
   ·obtain⟨t,rfl⟩:=ry;exact⟨RcAt.list_str c t xg.isList xh,RcNeAt.list_str c t xg.isList xh⟩
  | tup es=>exact Ls I rfl rfl hu rx ry hx hy
  | lst es=>exact Ls I rfl rfl hu rx ry hx hy
def zCb(K:W.Frag)(neg:Bool):R2:=fun x y H Q=>∃d e,d.dep<=150/\Is K H x d/\Is K H y e/\Q (.bl (if neg then !xj d e else xj d e)) H
theorem zCf{j:Nat}(hr:xW j X.A):Ct X (G4 .Eq) (zCb X.K false):=by
 intro pins s σ H x y v u Q I rx ry h;obtain⟨d,e,hd,hx,hy,q⟩:=h;have:=hr.un;exact(NQ I (by omega) rx ry hx hy).1 X.prog X.w _ _ ⟨.bl _,H,I,rfl,q⟩
theorem zCc{j:Nat}(hr:xW j X.A):Ct X (G4 .NotEq) (zCb X.K true):=by
 intro pins s σ H x y v u Q I rx ry h;obtain⟨d,e,hd,hx,hy,q⟩:=h;have:=hr.un;exact(NQ I (by omega) rx ry hx hy).2 X.prog X.w _ _ ⟨.bl _,H,I,rfl,q⟩
open Classical in
def eqW(xJ:List Value)(ds:List D)(e:D)(u:Value):Bool:=decide (∃(i:Nat) (d:D),xJ[i]?=some u/\ds[i]?=some d/\xj d e=true)
open Classical in
theorem zh(I:Inv X pins σ H s){xs:List V}{xJ:List Value}{ds:List D}(r:AF xs xJ)(h:IsL X.K H xs ds){e:D}{i:Nat}{u:Value}{d:D}(hu:xJ[i]?=some u)(hd:ds[i]?=some d):eqW xJ ds e u=xj d e:=by
 have key:∀(j:Nat) (d':D),xJ[j]?=some u->ds[j]?=some d'->d'=d:=fun j d' h1 h2=>by
  obtain⟨x,ex,px⟩:=h.get hd;obtain⟨y,ey,py⟩:=h.get h2;obtain⟨u1,e1,r1⟩:=r.get ex;obtain⟨u2,e2,r2⟩:=r.get ey;rw[hu] at e1;cases e1;rw[h1] at e2;cases e2;rw[r2.inj r1] at py;exact Is.inj I py px
 unfold eqW;cases q:xj d e with
 | true=>exact decide_eq_true ⟨i,d,hu,hd,q⟩
 | false =>
  refine decide_eq_false ?_;rintro⟨j,d',h1,h2,h3⟩;rw[key j d' h1 h2,q] at h3;cases h3
theorem IM(I:Inv X pins σ H s){xs:List V}{xJ:List Value}{ds:List D}(r:AF xs xJ)(h:IsL X.K H xs ds)(e:D):xJ.any (eqW xJ ds e)=ds.any fun d=>xj d e:=by
 rw[Bool.eq_iff_iff,ve,ve];have hl:xJ.length=ds.length:=by rw[<- r.length,h.length]
 constructor
 ·rintro⟨u,hu,q⟩;obtain⟨i,hi,rfl⟩:=S4 hu;have hd:ds[i]?=some ds[i]:=A3 (by omega);rw[zh I r h (A3 hi) hd] at q;exact⟨_,N0 hd,q⟩
 ·rintro⟨d,hd,q⟩;obtain⟨i,hi,rfl⟩:=S4 hd;have hu:xJ[i]?=some xJ[i]:=A3 (by omega);exact⟨_,N0 hu,by rw[zh I r h hu (A3 hi)];exact q⟩
theorem yV(I:Inv X pins σ H s){A:J5}{xs:List V}{xJ:List Value}{ds:List D}(r:AF xs xJ)(h:IsL X.K H xs ds){e:D}{y:V}{v:Value}(ry:RelV y v)(hy:Is X.K H y e)(hd:yQ ds<=150)(hu:A.units+150 < K6):∀w∈xJ,EqAt A s w v (eqW xJ ds e w):=fun w hw=>by
 obtain⟨i,hi,rfl⟩:=S4 hw;have hl:xJ.length=ds.length:=by rw[<- r.length,h.length]
 have hdi:ds[i]?=some ds[i]:=A3 (by omega);rw[zh I r h (A3 hi) hdi];obtain⟨x,ex,px⟩:=h.get hdi;obtain⟨u1,e1,r1⟩:=r.get ex;rw[A3 hi] at e1;cases e1;exact YD I 150 A _ _ x y _ _ (A4 (GR hdi) hd) hu r1 ry px hy
def zCC(K:W.Frag)(neg:Bool):R2:=fun x y H Q=>∃p ys ds e,y=.ref p/\(DO K H p ys\/FL K H p ys)/\IsL K H ys ds/\Is K H x e/\yQ ds<=150/\Q (.bl (if neg then !(ds.any fun d=>xj d e) else ds.any fun d=>xj d e)) H
theorem zCe{j:Nat}(hr:xW j X.A):Ct X (G4 .In) (zCC X.K false):=by
 intro pins s σ H x y v u Q I rx ry h;obtain⟨p,ys,ds,e,rfl,hq,hl,hx,hd,q⟩:=h;have hu:X.A.units+1+150 < K6:=by have:=hr.un;omega
 cases ry;rcases hq with hq | hq
 ·obtain⟨xJ,r,pl,hz⟩:=I.list hq;refine SeqAt.in_listAt (eqW xJ ds e) pl.isList (fun w hw=>yV I r hl rx hx hd hu w (by simpa using hw)) ⟨.bl _,H,I,rfl,?_⟩;rw[show xJ.toArray.any (eqW xJ ds e)=xJ.any (eqW xJ ds e) by simp,IM I r hl];exact q
 ·obtain⟨xJ,r,pl,hz⟩:=I.tuple hq;refine SeqAt.in_tupleAt (eqW xJ ds e) pl (fun w hw=>yV I r hl rx hx hd hu w (by simpa using hw)) ⟨.bl _,H,I,rfl,?_⟩;rw[show xJ.toArray.any (eqW xJ ds e)=xJ.any (eqW xJ ds e) by simp,IM I r hl];exact q
theorem zBK{j:Nat}(hr:xW j X.A):Ct X (G4 .NotIn) (zCC X.K true):=by
 intro pins s σ H x y v u Q I rx ry h;obtain⟨p,ys,ds,e,rfl,hq,hl,hx,hd,q⟩:=h;have hu:X.A.units+1+150 < K6:=by have:=hr.un;omega
 cases ry;rcases hq with hq | hq
 ·obtain⟨xJ,r,pl,hz⟩:=I.list hq;refine SeqAt.notIn_listAt (eqW xJ ds e) pl.isList (fun w hw=>yV I r hl rx hx hd hu w (by simpa using hw)) ⟨.bl _,H,I,rfl,?_⟩;rw[show xJ.toArray.any (eqW xJ ds e)=xJ.any (eqW xJ ds e) by simp,IM I r hl];exact q
 ·obtain⟨xJ,r,pl,hz⟩:=I.tuple hq;refine SeqAt.notIn_tupleAt (eqW xJ ds e) pl (fun w hw=>yV I r hl rx hx hd hu w (by simpa using hw)) ⟨.bl _,H,I,rfl,?_⟩;rw[show xJ.toArray.any (eqW xJ ds e)=xJ.any (eqW xJ ds e) by simp,IM I r hl];exact q
end
end L3
namespace Q
open PySem L2
section
variable {K:W.Frag} {g:G} {H:Hp}
def zCA(x l:List Nat):Bool:=!(O6 (tx l) (tx x) 0 (tx l).length 1).isEmpty
def gp(neg:Bool):R2:=fun x y H Q=>∃i j,x=.str i/\y=.str j/\Q (.bl (if neg then !(!(O6 j i 0 j.length 1).isEmpty) else !(O6 j i 0 j.length 1).isEmpty)) H
def zCa(K:W.Frag)(neg:Bool):R2:=fun x y H Q=>gp neg x y H Q\/L3.zCC K neg x y H Q
noncomputable def mxI:List Int->Int
 | []=>0
 | [a]=>a
 | a::r=>max a (mxI r)
end
variable {X:Cx}
section
variable {K:W.Frag}
def zAy(K:W.Frag):V->List V->Hp->VK->Prop:=fun x vs H Q=>∃p xs y ds e j,x=.ref p/\vs=[y]/\DO K H p xs/\L3.IsL K H xs ds/\L3.Is K H y e/\L3.yQ ds<=150/\(∃d,ds[j]?=some d/\L3.xj d e=true)/\(∀(m:Nat) (d:L3.D),m < j->ds[m]?=some d->L3.xj d e=false)/\Q (.int (j:Nat)) H
theorem zBM{j:Nat}(hr:xW j X.A):Us X "list.index" (zAy X.K):=by
 intro pins s σ H x vs v us Q I rx rv h;obtain⟨p,xs,y,ds,e,j,rfl,rfl,hp,zx,hy,hdp,⟨dj,ej,hit⟩,hno,q⟩:=h;cases rx;obtain⟨u,rfl,ru⟩:=rv.one;obtain⟨xJ,r,pl,hz⟩:=I.list hp;obtain⟨⟨cls,dd,data,sl⟩,ho,hc,n,hd⟩:=pl.isList;simp only at hc hd;subst hc hd;have hu:X.A.units+1+150 < K6:=by have:=hr.un;omega
 have hl:xJ.length=ds.length:=by rw[<- r.length,zx.length]
 have hj:j < ds.length:=(B3.mp ej).1;have hs:sizeLine=16777216:=S9;have hxl:=r.length;have at_:∀m (hm:m < xJ.toArray.size),∃d,ds[m]?=some d/\L3.eqW xJ ds e xJ.toArray[m]=L3.xj d e:=fun m hm=>by
  have hm':m < xJ.length:=by simpa using hm
  have hd:ds[m]?=some ds[m]:=A3 (by omega);exact⟨ds[m],hd,by simpa using L3.zh I r zx (A3 hm') hd⟩
 refine Y4 F.slot_list_index ⟨_,ho,rfl⟩ F.entry_list_index (F.args_list_index_2 _ _)
  (SeqAt.list_indexAt p xJ.toArray n dd sl u (L3.eqW xJ ds e) j (by simpa[hl] using hj) (by omega) ?_ ?_) ⟨ho,fun w hw=>L3.yV I r zx ru hy hdp hu w (by simpa using hw),⟨.int (j:Nat),H,I.tok _,⟨_,rfl⟩,q⟩⟩
 ·obtain⟨w,e1,e2⟩:=at_ j (by simpa[hl] using hj);rw[ej] at e1;cases e1;rw[e2];exact hit
 ·intro m hm zG;obtain⟨w,e1,e2⟩:=at_ m hm;rw[e2];exact hno m w zG e1
def zAR(K:W.Frag):V->List V->Hp->VK->Prop:=fun x vs H Q=>∃p xs y ds e j,x=.ref p/\vs=[y]/\H p=some (.tup xs)/\L3.IsL K H xs ds/\L3.Is K H y e/\L3.yQ ds<=150/\(∃d,ds[j]?=some d/\L3.xj d e=true)/\(∀(m:Nat) (d:L3.D),m < j->ds[m]?=some d->L3.xj d e=false)/\Q (.int (j:Nat)) H
theorem zAo{j:Nat}(hr:xW j X.A):Us X "tuple.index" (zAR X.K):=by
 intro pins s σ H x vs v us Q I rx rv h;obtain⟨p,xs,y,ds,e,j,rfl,rfl,hp,zx,hy,hdp,⟨dj,ej,hit⟩,hno,q⟩:=h;cases rx;obtain⟨u,rfl,ru⟩:=rv.one;obtain⟨hz,xJ,r,⟨cls,dd,data,sl⟩,ho,hc,hdd,n,hd⟩:=I.xP p _ hp;simp only at hc hd;subst hc hd;have hu:X.A.units+1+150 < K6:=by have:=hr.un;omega
 have hl:xJ.length=ds.length:=by rw[<- r.length,zx.length]
 have hj:j < ds.length:=(B3.mp ej).1;have at_:∀m (hm:m < xJ.toArray.size),∃d,ds[m]?=some d/\L3.eqW xJ ds e xJ.toArray[m]=L3.xj d e:=fun m hm=>by
  have hm':m < xJ.length:=by simpa using hm
  have hd:ds[m]?=some ds[m]:=A3 (by omega);exact⟨ds[m],hd,by simpa using L3.zh I r zx (A3 hm') hd⟩
 refine Y4 F.slot_tuple_index ⟨_,ho,rfl⟩ F.entry_tuple_index (F.args_tuple_index_2 _ _)
  (Jx p xJ.toArray n dd sl u (L3.eqW xJ ds e) j (by simpa[hl] using hj) ?_ ?_) ⟨ho,fun w hw=>L3.yV I r zx ru hy hdp hu w (by simpa using hw),⟨.int (j:Nat),H,I.tok _,⟨_,rfl⟩,q⟩⟩
 ·obtain⟨w,e1,e2⟩:=at_ j (by simpa[hl] using hj);rw[ej] at e1;cases e1;rw[e2];exact hit
 ·intro m hm zG;obtain⟨w,e1,e2⟩:=at_ m hm;rw[e2];exact hno m w zG e1
end
section
variable {K:W.Frag}
noncomputable def zCO(k T:String):Bool:=k == T || (k == "bool" && T == "int")
theorem zCk(K:W.Frag){k T:String}(hk:k∈["NoneType", "bool", "int", "str", "tuple", "list"])(hT:T∈["int", "bool", "str", "tuple", "list"]):W.kitOne K (.type k) (.type T)=some (zCO k T):=by
 simp only[B9,J4,or_false] at hk hT;rcases hk with rfl | rfl | rfl | rfl | rfl | rfl<;>rcases hT with rfl | rfl | rfl | rfl | rfl<;>kernel_rfl
end
theorem ig:Ct X (G4 .In) (gp false):=TH
theorem TF:Ct X (G4 .NotIn) (gp true):=MB
theorem zCd{j:Nat}(hr:xW j X.A):Ct X (G4 .In) (zCa X.K false):=ig.or (L3.zCe hr)
theorem zBJ{j:Nat}(hr:xW j X.A):Ct X (G4 .NotIn) (zCa X.K true):=TF.or (L3.zBK hr)
end Q
namespace L2
open PySem PySem.Spec PyProof.Rows
noncomputable def cT(ifs:List Expr)(env:Env):Sem Bool:=forIn ifs true fun c r=>if r=true then do let ok <- isTrue c env (N1 c env);pure (ForInStep.yield ok) else pure (ForInStep.yield r)
def fY(X:Cx)(ifs:List Expr)(t:TT):Prop:=
 ∀(pins:List (B5×Obj)) (s:A9) (σ:St) (H:Hp) (Q:Bool->Hp->Prop),Inv X pins σ H s->t σ H Q->C4 (D6 X.prog X.w) X.A (cT ifs X.env) (TP X pins σ Q) X.xe s
theorem fY.one{X:Cx}{c:Expr}{t:TT}(h:PT X c t):fY X [c] t:=fun pins s σ H Q I q=>wpAny_tests_one (h pins s σ H Q I q)
theorem Ma{prog:F8}{w:J0}{A:J5}{R:Result->A9->Prop}{s:A9}{elt target iter:Expr}{ifs:List Expr}{scope:N4}{pos:Pos}{it acc:Value}{env:Env}(I:Nat->A9->Prop)
    (turn:∀n s,I n s->C4 (D6 prog w) A (ug it) (fun r xR=>match r with
      | none=>R (.ok .next) xR
      | some v=>C4 (D6 prog w) A (Z5 target it v) (fun _ zBz=>C4 (D6 prog w) A (W6 target env v) (fun _ yp=>C4 (D6 prog w) A (cT ifs env) (fun ok zBW=>if ok=true then C4 (D6 prog w) A (N1 elt env) (fun x zCx =>
          C4 (D6 prog w) A (call (.builtin "list.append") [acc,x]) (fun _ zCw=>∃m,m < n/\I m zCw) (fun _ _=>False) zCx) (fun _ _=>False) zBW else ∃m,m < n/\I m zBW) (fun _ _=>False) yp) (fun _ _=>False) zBz) (fun _ _=>False) xR) (fun _ _=>False) s)
    (n:Nat) (h:I n s) :
    n8 (D6 prog w) A (.compLoop (.ListComp elt [⟨target,iter,ifs,0⟩] scope pos) 0 it acc env) R s:=by
  refine codeAny_loop rfl I (fun n s hI=>?_) n h;show C4 _ _ ((compTurn (.ListComp elt [⟨target,iter,ifs,0⟩] scope pos) 0 it acc env).onRaise (fun x=>do noteFrame x env;theTreesLotGoes x)) _ _ s;refine wpAny_noted ?_;rw[compTurn_list];have no:∀{E:Value->A9->Prop},∀(e:Value) (s:A9),False->E e s:=fun _ _ z=>z.elim
  refine A1 (Y6 (A1 (R9 (turn n s hI) (fun r xR h₁=>?_) no)));cases r with
  | none=>exact A6 h₁
  | some v =>
    refine A1 (R9 h₁ (fun _ zBz zAM=>?_) no);refine A1 (R9 zAM (fun _ yp zAL=>A1 (R9 zAL (fun ok zBW zDK=>?_) no)) no);cases ok with
    | false=>exact A6 ⟨rfl,zDK⟩
    | true=>exact A1 (A1 (R9 zDK (fun x zCx zEA=>A1 (R9 zEA (fun _ zCw zDz=>A6 (A6 ⟨rfl,zDz⟩)) no)) no))
section
variable {X:Cx} {tg iter elt:Expr} {ifs:List Expr} {scope:N4} {pos:Pos} {g:TG} {te:TE} {tc:TT} {js:List Nat} {wi:TI}
def Qs(js:List Nat)(g:TG)(tc:TT)(te:TE)(J:It)(σ:St)(Fin:List V->Hp->Prop)(W:Nat->Nat->List V->Hp->Prop):Prop:=∀i m ys H,W i m ys H ->
 (J.stop i H/\Fin ys H)\/(J.go i H/\ys.length < sizeLine/\∃N:List V->Hp->Prop,(∀zs H',N zs H'->∃m',m' < m/\W (i+1) m' zs H')/\∀x H',J.yld i H x H'->g x (blank js σ) H' fun xy H2=>tc xy H2 fun b H3=>if b=true then te xy H3 fun v H4=>N (ys++[v]) H4 else N ys H3)
theorem Hm{pins:List (B5×Obj)}{s2:A9}{σ:St}{H2:Hp}{it:B5}{fp:List B5}{tn:Nat->G7->Prop}{J:It}{cl:List (Str×B5)}{W:Nat->Nat->List V->Hp->Prop}{Fin:List V->Hp->Prop}{E:Value->A9->Prop}{RR:Value->B5->Result->A9->Prop}
    (yj:yz X.N X.env.scope scope js) (hc:X.calm=true) (hg:∀cl C s H fp,PG (X.inner scope cl C s H fp) tg g) (hgo:y0 js g) (hcn:∀cl C s H fp,fY (X.inner scope cl C s H fp) ifs tc) (he:∀cl C s H fp,PE (X.inner scope cl C s H fp) elt te)
    (I2:Inv X pins σ H2 s2) (T:Turn X.prog X.w X.K tg J fp it tn) (t0:tn 0 s2.heap) (hf:∀b∈fp,xS X pins H2 b)
    (hcl:∀x c,cl.lookup x=some c->X.env.cells.lookup x=some c) (hfr:∀x,scope.names.lookup x=some .free->∃c,cl.lookup x=some c)
    {m0:Nat} (w0:W 0 m0 [] H2) (turn:Qs js g tc te J σ Fin W)
    (hRR:∀D C s' H' ys m,Inv X pins σ (upd H' D (.lst ys)) s'->H' D=none->Fin ys H'->s'.heap.Ns C m->C≠X.env.locals->X.xk.heap.objs.size<=C->(∀x c,X.env.cells.lookup x=some c->c≠C)->(∀p∈X.pn++pins,p.1≠C)->H' C=none->D≠C->RR (.ref D) C (.ok .next) s') :
    C4 (D6 X.prog X.w) X.A (newList []) (fun acc yp=>C4 (D6 X.prog X.w) X.A (uE scope X.env.globals cl [] X.env.qual none .none (some X.env)) (fun zDZ zBW =>
      n8 (D6 X.prog X.w) X.A (.compStart (.ListComp elt [⟨tg,iter,ifs,0⟩] scope pos) 0 (.ref it) acc { zDZ with scope:=relabel scope X.env }) (RR acc zDZ.locals) zBW) E yp) E s2:=by
  have hfe:∀b∈fp,b < s2.heap.objs.size:=fun b hb=>let ⟨_,e,_⟩:=T.obj _ _ t0 b hb;D3 e
  refine H8 (CL ?_);dsimp only
  generalize hHH:s2.heap.push { cls:=.type "list", dict:=none,data:=.seq ([]:List Value).toArray }=HH
  have hC:HH.objs.size=s2.heap.objs.size+1:=by rw[<- hHH,L5]
  have hDC:s2.heap.objs.size≠HH.objs.size:=by rw[hC];exact E4 (Y2 _)
  have zCr:s2.heap.objs.size<=HH.objs.size:=by rw[hC];exact U1 _
  have below:∀b,b < s2.heap.objs.size->b≠HH.objs.size/\b≠s2.heap.objs.size:=fun b hb=>⟨by rw[hC];exact E4 (vK hb),E4 hb⟩
  obtain⟨h₁,zAf⟩:∃h₁,wZ (HH.push { cls:=.type "dict", data:=.dict #[] }) scope.names=h₁:=⟨_,rfl⟩
  have old:∀b o,s2.heap.get? b=some o->h₁.get? b=some o:=fun b o e=>zAf▸tR _ _ b o (A5 _ (hHH▸A5 _ e))
  have zCG:h₁.get? s2.heap.objs.size=some { cls:=.type "list", data:=.seq ([]:List Value).toArray 0 }:=zAf▸tR _ _ _ _ (A5 _ (hHH▸C8 _ rfl))
  have zCo:h₁.Ns HH.objs.size (fun _=>none):=zAf▸(Heap.Ns.new HH (.type "dict")).keeps (tR _ _)
  obtain⟨L,zBi⟩:=cI (s:=s2) (C:=HH.objs.size) yj hcl hfr (h:=HH.push { cls:=.type "dict", data:=.dict #[] }) zCr (L5 ..)
  rw[zAf] at zBi ⊢;generalize hcc:M9 (HH.objs.size+1) scope.names cl=cl' at L zBi ⊢;clear zAf hcc;generalize hDD:s2.heap.objs.size=D at *;generalize hCC:HH.objs.size=C at *;have zBp:s2.heap.objs.size<=D:=vA hDD;have zAg:s2.heap.objs.size<=C:=by rw[hDD];exact zCr
  have zAn:∀(xJ:List Value) (n:Nat) v,({ cls:=.type "list", data:=.seq xJ.toArray n }:Obj).data≠.cell v:=fun _ _ _ z=>by cases z
  have I4:Inv (X.inner scope cl' C s2 H2 fp) (pins++[(D,{ cls:=.type "list", data:=.seq ([]:List Value).toArray 0 })]) (blank js σ) H2 { s2 with heap:=h₁,toks:=s2.toks }:=
    I2.enter yj hf (by rw[hDD];exact hfe) zAg zBp hDC L zBi old zCo zCG (zAn _ _)
  have zAl:∀{H':Hp} {o:Obj},(∀b∈fp,H' b=none)->∀b∈fp,xS (X.inner scope cl' C s2 H2 fp) (pins++[(D,o)]) H' b:=fun{H' o} hn b hb=>by
    obtain⟨_,f1,f2,f3,f4,f5⟩:=hf b hb;refine⟨hn b hb,(below b (hfe b hb)).1,fun z=>?_,.inl hb,fun x c e=>L.ne e (by rw[hDD];exact hfe b hb) f4,fun p hp=>?_⟩
    · rcases B9.mp (I2.zC b z) with e | e
      · exact f1 e
      · exact f2 e
    · have z9:p∈X.pn++(pins++[(D,o)]):=hp;rw[<- N6] at z9;rcases C0.mp z9 with z | z
      · exact f5 p z
      · have e:p=(D,o):=by simpa using z
        subst e;exact fun z=>(below b (hfe b hb)).2 z.symm
  have loop:∀yp:A9,yp={ s2 with heap:=h₁,toks:=s2.toks } ->
      n8 (D6 X.prog X.w) X.A (.compLoop (.ListComp elt [⟨tg,iter,ifs,0⟩] scope pos) 0 (.ref it) (.ref D) (compEnvC scope cl' C X.env)) (RR (.ref D) C) yp:=by
    rintro yp rfl
    refine Ma (fun n s'=>∃i ys xJ k H',Inv (X.inner scope cl' C s2 H2 fp) (pins++[(D,{ cls:=.type "list", data:=.seq xJ.toArray k })]) (blank js σ) H' s'/\tn i s'.heap/\(∀b∈fp,H' b=none)/\AF ys xJ/\ys.length<=sizeLine/\W i n ys H') ?_ m0
      ⟨0,[],[],0,H2,I4,T.keep _ _ _ t0 fun b hb o e=>old b o e,fun b hb=>(hf b hb).1,.nil,G5 _,w0⟩
    rintro n s3 ⟨i,ys,xJ,k,H3,I3,st3,fr3,hv3,hz3,w3⟩;rcases turn i n ys H3 w3 with⟨stop,fin⟩ | ⟨go,zG,N,hN,step⟩
    · refine Ap (T.done (X.inner scope cl' C s2 H2 fp) rfl rfl rfl hc i _ s3 _ H3 _ I3 (zAl fr3) st3 stop) fun r s4 ⟨hr,I4⟩=>?_
      subst hr
      have pD:=I4.pin (D,{ cls:=.type "list", data:=.seq xJ.toArray k }) (B4 _ (B4 _ B2))
      obtain⟨m,hn,_⟩:=id I4.loc;refine hRR D C s4 H3 ys m (I2.leave (fp:=fp) hf rfl I4 zBp pD.2.1 hz3 hv3 pD.1) pD.2.1 fin hn ?_ ?_ (fun x c e=>?_) (fun p hp=>?_) I4.free hDC
      · exact tB (B8 I2.lt zAg)
      · exact A4 I2.sz zAg
      · exact E4 (B8 (I2.zAN e) zAg)
      · exact E4 (B8 (I2.zCN hp) zAg)
    · refine Ap (T.item (X.inner scope cl' C s2 H2 fp) rfl rfl rfl hc i _ s3 _ H3 _ I3 (zAl fr3) st3 go) fun r s4 ⟨u,hr,h4⟩=>?_
      subst hr;refine Ap h4 fun _ s5 ⟨x,H5,I5,r5,y5,st5,fr5⟩=>?_
      have I5':=I5.pinned (zAl fr5) (T.obj _ _ st5);refine Ap (hg cl' C s2 H2 fp _ s5 _ H5 x u _ I5' r5 (hgo _ _ _ _ (step x H5 y5))) fun _ s6 ⟨σ6,H6,I6,⟨hl6,hs6⟩,q6⟩=>?_
      refine Ap (hcn cl' C s2 H2 fp _ s6 σ6 H6 _ I6 q6) fun ok s6b ⟨H6b,I6b,q6b⟩=>?_
      have other:∀(s7:A9) (v:Value) (b:B5) (u:Obj),b≠D->s7.heap.get? b=some u->(s7.heap.update D (J9 fun a=>a.push v)).get? b=some u:=fun s7 v b u hb hu=>(T2 s7.heap (J9 fun a=>a.push v) (Ne.symm hb)).trans hu
      cases ok with
      | false =>
        obtain⟨m',hm,w7⟩:=hN _ _ q6b
        have pD:=I6b.pin (D,{ cls:=.type "list", data:=.seq xJ.toArray k }) (B4 _ (C3 _ (B4 _ B2)))
        have fpk:∀b∈fp,∀o,s5.heap.get? b=some o->s6b.heap.get? b=some o/\H6b b=none:=fun b hb o e =>
          let z:=I6b.pin (b,o) (B4 _ (B4 _ (Dq hb e)));⟨z.1,z.2.1⟩
        have I8:Inv (X.inner scope cl' C s2 H2 fp) pins (blank js σ) H6b s6b:=by
          have Ia:Inv (X.inner scope cl' C s2 H2 fp) pins σ6 H6b s6b:=I6b.yT fun p hp=>I6b.pin p (B4 _ (C3 _ (C3 _ hp)))
          exact Ia.weak hl6.symm fun i v e=>by
            obtain⟨hj,_⟩:=Ha js σ i v e;rw[hs6 i hj];exact e
        refine⟨m',hm,i+1,ys,xJ,k,H6b,I8.yT (fun p hp=>?_),T.keep _ _ _ st5 fun b hb o e=>(fpk b hb o e).1,fun b hb=>?_,hv3,hz3,w7⟩
        · rcases C0.mp hp with z | z
          · exact I8.pin p (B4 _ z)
          · have e:p=(D,_):=D2.mp z;subst e;exact⟨pD.1,pD.2.1,pD.2.2.1,pD.2.2.2.1,zAn _ _⟩
        · obtain⟨o,e,_⟩:=T.obj _ _ st5 b hb;exact(fpk b hb o e).2
      | true =>
      refine Ap (he cl' C s2 H2 fp _ s6b σ6 H6b _ I6b q6b) fun v s7 ⟨y,H7,I7,r7,n7⟩=>?_
      obtain⟨m',hm,w7⟩:=hN _ _ n7
      have pD:=I7.pin (D,{ cls:=.type "list", data:=.seq xJ.toArray k }) (B4 _ (C3 _ (B4 _ B2)))
      have lt:xJ.toArray.size<=sizeLine:=by rw[A8,<- hv3.length];exact hz3
      refine Y4 F.slot_list_append ⟨_,pD.1,rfl⟩ F.entry_list_append (F.args_list_append_2 _ _) (vG D xJ.toArray k v lt) ⟨pD.1,?_⟩
      obtain⟨k',q⟩:∃k',(s7.heap.update D (J9 fun a=>a.push v)).get? D=some { cls:=.type "list", data:=.seq (xJ.toArray.push v) k' }:=⟨_,vX pD.1 (fun a=>a.push v)⟩
      have eq:(xJ.toArray.push v)=(xJ++[v]).toArray:=by simp
      have fpk:∀b∈fp,∀o,s5.heap.get? b=some o->s7.heap.get? b=some o/\H7 b=none:=fun b hb o e =>
        let z:=I7.pin (b,o) (B4 _ (B4 _ (Dq hb e)));⟨z.1,z.2.1⟩
      have other:∀b u,b≠D->s7.heap.get? b=some u->(s7.heap.update D (J9 fun a=>a.push v)).get? b=some u:=fun b u hb hu=>(T2 s7.heap (J9 fun a=>a.push v) (Ne.symm hb)).trans hu
      have I8:Inv (X.inner scope cl' C s2 H2 fp) pins (blank js σ) H7 { s7 with heap:=s7.heap.update D (J9 fun a=>a.push v),toks:=s7.toks }:=by
        have Ia:Inv (X.inner scope cl' C s2 H2 fp) pins σ6 H7 s7:=I7.yT fun p hp=>I7.pin p (B4 _ (C3 _ (C3 _ hp)))
        have Ib:Inv (X.inner scope cl' C s2 H2 fp) pins (blank js σ) H7 s7:=Ia.weak hl6.symm fun i v e=>by
          obtain⟨hj,_⟩:=Ha js σ i v e;rw[hs6 i hj];exact e
        refine Ib.turned (it:=D) (fun b o hb e=>other b o hb e) pD.2.1 pD.2.2.1 (.inr zBp) (fun x c e=>?_) (fun p hp=>?_)
        · cases q:AV scope x with
          | false=>exact E4 (B8 (I2.zAN (L.old x c e q)) zBp)
          | true=>exact tB (T5 zCr (L.own x c e q).2)
        · exact E4 (B8 (I2.zCN hp) zBp)
      refine⟨m',hm,i+1,ys++[y],xJ++[v],k',H7,I8.yT (fun p hp=>?_),T.keep _ _ _ st5 fun b hb o e=>other b o (below b (hfe b hb)).2 (fpk b hb o e).1,fun b hb=>?_,hv3.append (.cons r7 .nil),by rw[C5,G0];omega,w7⟩
      · rcases C0.mp hp with z | z
        · exact I8.pin p (B4 _ z)
        · have e:p=(D,_):=D2.mp z;subst e;rw[<- eq];exact⟨q,pD.2.1,pD.2.2.1,pD.2.2.2.1,zAn _ _⟩
      · obtain⟨o,e,_⟩:=T.obj _ _ st5 b hb;exact(fpk b hb o e).2
  exact codeAny_compStart_list (loop _ rfl) (T.self _ 0 _ _ _ (T.keep _ _ _ t0 fun b hb o e=>old b o e) (loop _ rfl))
def IX(wi:TI)(js:List Nat)(g:TG)(tc:TT)(te:TE):TE:=fun σ H Q=>wi σ H fun J H1=>∃W:Nat->Nat->List V->Hp->Prop,(∃m,W 0 m [] H1)/\Qs js g tc te J σ (fun ys H=>∀p,H p=none->Q (.ref p) (upd H p (.lst ys))) W
theorem Nb(yj:xt X.N X.env.scope scope js=true)(hc:X.calm=true)(hi:PI X tg iter wi)(hg:∀cl C s H fp,PG (X.inner scope cl C s H fp) tg g)(hgo:y0 js g)(hcn:∀cl C s H fp,fY (X.inner scope cl C s H fp) ifs tc)(he:∀cl C s H fp,PE (X.inner scope cl C s H fp) elt te)
    (hs:∀x,O5 iter X.env x=pure x:=by intro _;rfl):PE X (.ListComp elt [⟨tg,iter,ifs,0⟩] scope pos) (IX wi js g tc te):=by
  intro pins s σ H Q I h;have yj:=JV yj;obtain⟨cl,zBn,hcl,hfr⟩:=Jp (scope:=scope) (env:=X.env) (fun x hx=>I.ok.has x (yj.fr x hx)) yj.zCK;rw[eval_ListComp];refine p9 (use:=none) rfl hs zBn yj.kind yj.zCJ ?_;refine Ap (hi pins s σ H _ I h) fun v s1 h1=>Ap h1 fun itv s2 h2=>?_
  obtain⟨it,fp,tn,J,H2,e,I2,T,st2,f2,W,⟨m0,w0⟩,turn⟩:=h2;subst e;refine Hm (RR:=fun acc C=>compPost (D6 X.prog X.w) X.A X.xe none (EP X pins σ Q) acc C) yj hc hg hgo hcn he I2 T st2 f2 hcl hfr w0 turn ?_;intro D C s' H' ys m I' hD fin hn c1 c2 c3 c4 c5 c6;refine⟨m,hn,fun h' sb=>⟨.ref D,_,I'.turned (t':=s'.toks) (it:=C) (fun b o hb e=>(sb.2 b hb).trans e) ?_ c1 (.inr c2) c3 c4,rfl,fin D hD⟩⟩;rw[AG (Ne.symm c6)];exact c5
theorem NY{i:Nat}{x:Str}{pos' zz:Pos}(hN:X.N.Nodup)(hix:X.N[i]?=some x)(hx:Loc X.env.scope x)
    (yj:xt X.N X.env.scope scope js=true) (hc:X.calm=true) (hi:PI X tg iter wi) (hg:∀cl C s H fp,PG (X.inner scope cl C s H fp) tg g) (hgo:y0 js g) (hcn:∀cl C s H fp,fY (X.inner scope cl C s H fp) ifs tc) (he:∀cl C s H fp,PE (X.inner scope cl C s H fp) elt te)
    (hsw:T7 (.ListComp elt [⟨tg,iter,ifs,0⟩] scope pos) (some (.Name x pos')) zz.line X.env=pure true:=by rfl)
    (hs:∀x,O5 iter X.env x=pure x:=by intro _;rfl)
    (hf:X.fn x=true\/X.env.scope.names.lookup x=some .local:=by first | exact .inl rfl | exact .inr rfl | assumption) :
    PS X (.Assign [.Name x pos'] (.ListComp elt [⟨tg,iter,ifs,0⟩] scope pos) zz) (Jy (IX wi js g tc te) (DZ i)):=by
  intro pins s σ H D I h;have yj:=JV yj;obtain⟨cl,zBn,hcl,hfr⟩:=Jp (scope:=scope) (env:=X.env) (fun x hx=>I.ok.has x (yj.fr x hx)) yj.zCK;rw[exec_Assign_Name_used _ _ _ _ hsw];refine A1 (Y6 (A1 ?_));show C4 _ _ (do let _ <- comprehension (.ListComp elt [⟨tg,iter,ifs,0⟩] scope pos) scope X.env _ (newList []) false (N1 iter X.env) (some (W6 (.Name x pos') X.env))) _ _ s;refine A1 (Ap (p9 (use:=some (W6 (.Name x pos') X.env)) (Q:=fun _ s'=>SP X pins D .next s') rfl hs zBn yj.kind yj.zCJ ?_) (fun _ s' hq=>A6 (A6 hq)));refine Ap (hi pins s σ H _ I h) fun v s1 h1=>Ap h1 fun itv s2 h2=>?_
  obtain⟨it,fp,tn,J,H2,e,I2,T,st2,f2,W,⟨m0,w0⟩,turn⟩:=h2;subst e;refine Hm (RR:=fun acc C=>compPost (D6 X.prog X.w) X.A X.xe (some (W6 (.Name x pos') X.env)) (fun _ s'=>SP X pins D .next s') acc C) yj hc hg hgo hcn he I2 T st2 f2 hcl hfr w0 turn ?_;intro DD C s' H' ys m I' hD fin hn c1 c2 c3 c4 c5 c6;show C4 _ _ (W6 (.Name x pos') X.env (.ref DD)) _ _ _;refine u6 (Kb (v:=.ref DD) I' hN hix hx rfl (fun s'' I'' ⟨a,sb,ha⟩=>?_) hf);have ne:C≠a:=by
    rcases ha with z | z
    · rw[z];exact c1
    · exact(c3 x a z).symm
  refine⟨m,hn.sameBut sb ne,fun h' sb'=>⟨_,_,I''.turned (t':=s''.toks) (it:=C) (fun b o hb e=>(sb'.2 b hb).trans e) ?_ c1 (.inr c2) c3 c4,fin DD hD⟩⟩;rw[AG (Ne.symm c6)];exact c5
end
end L2
namespace R
open PySem L2
section
variable {γ:Type}
noncomputable def Cr(g:Dv->γ->Option (Dv×γ)):List Dv->γ->Option (List Dv×γ)
 | [],c=>some ([],c)
 | x::xs,c=>(g x c).bind fun p=>(Cr g xs p.2).bind fun q=>some (p.1::q.1,q.2)
noncomputable def BQ(g:Dv->Option Dv):List Dv->Option (List Dv)
 | []=>some []
 | x::xs=>(g x).bind fun p=>(BQ g xs).bind fun q=>some (p::q)
noncomputable def oq(g:Dv->γ->Option (Option Dv×γ)):List Dv->γ->Option (List Dv×γ)
 | [],c=>some ([],c)
 | x::xs,c=>(g x c).bind fun p=>(oq g xs p.2).bind fun q=>some (match p.1 with | some d=>d::q.1 | none=>q.1,q.2)
noncomputable def JQ(g:Dv->Option (Option Dv)):List Dv->Option (List Dv)
 | []=>some []
 | x::xs=>(g x).bind fun p=>(JQ g xs).bind fun q=>some (match p with | some d=>d::q | none=>q)
noncomputable def HQ{α:Type}(xs:List Dv)(o:Option α):Option α:=if xs.length<=1000000 then o else none
end
theorem Jc{α:Type}{xs:List Dv}{o:Option α}{a:α}(h:HQ xs o=some a):xs.length<=1000000/\o=some a:=by
 unfold HQ at h;split at h
 ·rename_i z;exact⟨z,h⟩
 ·cases h
section
variable {K:W.Frag} {g g':G} {H H':Hp} {Γ:Gm} {m:M} {σ:St} {P:Fp}
theorem Rel.sub{Γ':Gm}{σ':St}(h:Rel K g H Γ m σ P)(hl:Γ'.length=Γ.length)(hs:σ'.length=σ.length)(k:∀(i o:Nat),Γ'[i]?=some (some o)->Γ[i]?=some (some o)/\σ'[i]?=σ[i]?):∃P',Rel K g H Γ' m σ' P'/\∀a,P' a->P a:=by
 obtain⟨zd,F,h1,h4⟩:=h;refine⟨fun a=>∃i,(∃o,Γ'[i]?=some (some o))/\F i a,⟨zd,fun i a=>(∃o,Γ'[i]?=some (some o))/\F i a,⟨by rw[hl];exact h1.l1,by rw[hs,hl];exact h1.l2,fun i o e=>?_,fun i e a q=>q.1.elim fun o z=>e o z,fun i j n a q z=>h1.dj i j n a q.2 z.2⟩,fun _=>i7⟩,fun a ⟨i,_,q⟩=>(h4 a).mpr ⟨i,q⟩⟩;obtain⟨e',es⟩:=k i o e;obtain⟨d,v,e1,e2,r⟩:=h1.rep i o e';have eq:(fun a=>(∃o,Γ'[i]?=some (some o))/\F i a)=F i:=funext fun a=>propext ⟨fun z=>z.2,fun z=>⟨⟨o,e⟩,z⟩⟩
 exact⟨d,v,e1,by rw[es];exact e2,by show Rep K g H o d v fun a=>(∃o,Γ'[i]?=some (some o))/\F i a;rw[eq];exact r⟩
theorem Rel.more{Γ':Gm}{σ':St}(h:Rel K g H Γ m σ P)(hl:Γ'.length=Γ.length)(hs:σ'.length=σ.length)(k:∀(i o:Nat),Γ'[i]?=some (some o)->(Γ[i]?=some (some o)/\σ'[i]?=σ[i]?)\/(o=0/\∃d v,m[i]?=some d/\σ'[i]?=some (some v)/\Rep K g H 0 d v xM)):∃P',Rel K g H Γ' m σ' P'/\∀a,P' a->P a:=by
 obtain⟨zd,F,h1,h4⟩:=h
 let C:Nat->Prop:=fun i=>∃o,Γ'[i]?=some (some o)/\Γ[i]?=some (some o)/\σ'[i]?=σ[i]?
 refine⟨fun a=>∃i,C i/\F i a,⟨zd,fun i a=>C i/\F i a,⟨by rw[hl];exact h1.l1,by rw[hs,hl];exact h1.l2,fun i o e=>?_,fun i e a q=>q.1.elim fun o z=>e o z.1,fun i j n a q z=>h1.dj i j n a q.2 z.2⟩,fun _=>i7⟩,fun a ⟨i,_,q⟩=>(h4 a).mpr ⟨i,q⟩⟩
 by_cases c:C i
 ·obtain⟨o',e1,e2,e3⟩:=c;rw[e] at e1;cases e1;obtain⟨d,v,e4,e5,r⟩:=h1.rep i o e2;have eq:(fun a=>C i/\F i a)=F i:=funext fun a=>propext ⟨fun z=>z.2,fun z=>⟨⟨o,e,e2,e3⟩,z⟩⟩
  exact⟨d,v,e4,by rw[e3];exact e5,by show Rep K g H o d v fun a=>C i/\F i a;rw[eq];exact r⟩
 ·have eq:(fun a=>C i/\F i a)=xM:=FF fun a z=>c z.1
  rcases k i o e with z | ⟨rfl,d,v,e1,e2,r⟩
  ·exact(c ⟨o,e,z⟩).elim
  ·exact⟨d,v,e1,e2,by show Rep K g H 0 d v fun a=>C i/\F i a;rw[eq];exact r⟩
end
def Ox(js:List Nat)(Γ:Gm):Gm:=(B1 Γ.length).map fun i=>if js.contains i then none else Γ.getD i none
def PU(js:List Nat)(xY Γ:Gm):Gm:=(B1 Γ.length).map fun i=>if js.contains i then(if xY.getD i none == some 0 then some 0 else none) else Γ.getD i none
theorem FB{α:Type}{n i:Nat}{f:Nat->α}{x:α}(h:((B1 n).map f)[i]?=some x):i < n/\x=f i:=by
 rw[C9] at h
 by_cases z:i < n
 ·rw[N9 z] at h;exact⟨z,(D0 h).symm⟩
 ·rw[List.getElem?_eq_none_iff.mpr (by simpa using z)] at h;cases h
theorem Aw{Γ:Gm}{i o:Nat}(h:Γ.getD i none=some o):Γ[i]?=some (some o):=by
 rw[D7] at h;cases e:Γ[i]? with
 | none=>rw[e] at h;cases h
 | some x=>rw[e] at h;exact congrArg some h
theorem Dw{js:List Nat}{Γ:Gm}{i o:Nat}(h:(Ox js Γ)[i]?=some (some o)):i∉js/\Γ[i]?=some (some o):=by
 obtain⟨_,e⟩:=FB h;split at e
 ·cases e
 ·rename_i z;exact⟨fun q=>z (C7.mpr q),Aw e.symm⟩
theorem LP(js:List Nat):∀(σ:St) (i:Nat),i∉js->(L2.blank js σ)[i]?=σ[i]?:=by
 induction js with
 | nil=>intro σ i _;rfl
 | cons j js ih =>
  intro σ i h;show(L2.blank js (σ.set j none))[i]?=_;rw[ih _ i fun z=>h (A7 _ z),D9 fun z=>h (by rw[<- z];exact B2)]
theorem Jm{K:W.Frag}{xY xN zW Γc Γf:Gm}{jx jt jc jf J:List Nat}{g:TG}{ft:Tg}{c:Ev Bool}{f:Ev Dv}(ht:Oo K xN zW jt g ft)(hbl:Bv xN (Ox jx xY)=true)(hwf:Bv xN Γf=true)(hwc:Bv xN Γc=true)(hsx:∀i∈jt,i∈jx)
    (hJ:J=BX xN (jt++(jc++jf))) {ds:List Dv} (hz:ds.length<=1000000) {m1:M} {σ:St} {H1:Hp} {g1:G} {P1:Fp} {I:It} {R:Type} {k:Dv->M->Option R} {res:R} {Q:VK}
    (r1:Rel K g1 H1 xY m1 σ P1) (yl:Yl K I ds g1 H1) (run:List Dv->Gc J->List Dv->Prop) (h0:run ds (An J m1) []) (hn:∀t ya,run [] t ya->k (.lst ya) (BA J m1 t)=some res)
    (hc:∀d ds t ya,run (d::ds) t ya->∃(B:Type) (kx:Dv->M->Option B) (kf:M->Option B) (r:B),ft B d (BA J m1 t) (fun m2=>c B m2 fun b m3=>if b=true then f B m3 kx else kf m3)=some r/\(∀x m',kx x m'=some r->run ds (An J m') (ya++[x]))/\∀m',kf m'=some r->run ds (An J m') ya)
    (q:∀d m' g' P' Pv v H',k d m'=some res->Ba (jt++(jc++jf)) m1 m'->Step g1 P1 H1 g' (fun a=>P' a\/Pv a) H'->Rep K g' H' 1 d v Pv->Rel K g' H' (PU jx xY xN) m' σ P'->Bi P' Pv->Q v H') :
    ∃W:Nat->Nat->List V->Hp->Prop,(∃m,W 0 m [] H1)/\Qs jx g (tT K zW Γc jc c) (tE K Γc 0 Γf jf f) I σ (fun ys H=>∀p,H p=none->Q (.ref p) (upd H p (.lst ys))) W:=by
  have sub:∀i∈J,i∈jt++(jc++jf):=fun i h=>BF (hJ▸h)
  have nJ:∀i∈J,i∉jx:=fun i h z=>by
    rw[hJ] at h;have:=(T6.mp h).2;rw[A2] at this;cases e:xN.getD i none with
    | none=>rw[e] at this;cases this.2
    | some o =>
      obtain⟨o',e',_⟩:=GJ hbl (Aw e);exact(Dw e').1 z
  have lb:(Ox jx xY).length=xY.length:=by unfold Ox;simp
  obtain⟨Pb,rb,sb⟩:=r1.sub (Γ':=Ox jx xY) (σ':=L2.blank jx σ) lb (L2.yF ..) fun i o e=>⟨(Dw e).2,LP jx σ i (Dw e).1⟩
  obtain⟨g0,P0,s0,r0⟩:=rb.weaken hbl;have s10:Step g1 P1 H1 g0 P0 H1:=s0.sub sb fun _ z=>z
  refine⟨fun i j ys H=>j=ds.length - i/\i<=ds.length/\ys.length<=i/\∃g2 t P2 ya,Step g1 P1 H1 g2 P2 H/\Rel K g2 H xN (BA J m1 t) (L2.blank jx σ) P2/\AC K g2 H 0 ya ys xM/\run (ds.drop i) t ya,
    ⟨ds.length,by simp,G5 _,G5 _,g0,An J m1,P0,[],s10,QM r0,AC.nil,by simpa using h0⟩,?_⟩
  rintro i j ys H2 ⟨rfl,hi,hyl,g2,t,P2,ya,s2,r2,ry,e2⟩;have st:Jv g1 H1 g2 H2:=⟨P1,P2,s2,r1.xO⟩
  by_cases zG:i < ds.length
  · rw[U6 zG] at e2;obtain⟨B,kx,kf,rB,e3,hx,hf⟩:=hc _ _ _ _ e2;obtain⟨go,yy⟩:=(yl g2 H2 st).1 i ds[i] (A3 zG);refine .inr ⟨go,T5 hyl (B8 zG (A4 hz (by decide))),fun zs H'=>zs.length<=i+1/\∃g5 P5 m' za,Step g1 P1 H1 g5 P5 H'/\Rel K g5 H' xN m' (L2.blank jx σ) P5/\Ba (jt++(jc++jf)) m1 m'/\AC K g5 H' 0 za zs xM/\run (ds.drop (i+1)) (An J m') za,?_,fun y H3 hy=>?_⟩
    · rintro zs H' ⟨hl,g5,P5,m',za,s5,r5,ag,rz,hr⟩;exact⟨ds.length - (i+1),by omega,rfl,zG,hl,g5,An J m',P5,za,s5,r5.join ag fun i o h=>hJ▸BW h,rz,hr⟩
    · obtain⟨Pv,s3,h3,r3,n3⟩:=Af.go s2 r2 (yy y H3 hy);have ry3:AC K g2 H3 0 ya ys xM:=ry.held (Step.same (P:=xM) (yy y H3 hy).1) xS.xM fun _ _ z=>z
      refine ht g2 _ P2 ds[i] y _ H3 B _ rB _ r3 h3.z e3 fun m2 P' σ' hk ag sp ip r'=>?_
      have s4:Step g1 P1 H1 g2 P' H3:=s3.less fun a z=>.inl (sp a z)
      have a4:Ba (jt++(jc++jf)) m1 m2:=((AY J m1 t).mono sub).trans ag |>.mono fun i z=>(C0.mp z).elim id fun z=>C3 _ z
      -- outside of the zBQ own slots nothing is bound
      have back:∀{g5:G} {P5:Fp} {m':M} {H':Hp},Rel K g5 H' xN m' σ' P5->∃P6,Rel K g5 H' xN m' (L2.blank jx σ) P6/\∀a,P6 a->P5 a:=fun{g5 P5 m' H'} r5=>r5.sub rfl (by rw[ip.1]) fun i o e=>⟨e,(ip.2 i fun z=>by
          obtain⟨o',e',_⟩:=GJ hbl e;exact(Dw e').1 (hsx i z)).symm⟩
      refine⟨g2,m2,P',r',B,_,rB,hk,fun b m3 g4 P4 H4 hk4 ag4 s5 r4=>?_⟩;have ry4:=ry3.held s5 r'.xO fun _ z=>z.elim
      cases b with
      | false =>
        rw[if_neg D4] at hk4;show(if false=true then _ else _);rw[if_neg D4];obtain⟨g6,P6,s6,r6⟩:=r4.weaken hwc;obtain⟨P7,r7,sp7⟩:=back r6;exact⟨by omega,g6,P7,m3,ya,((s4.trans s5).trans s6).less sp7,r7,(a4.trans ag4).mono fun i z=>(C0.mp z).elim id fun z=>B4 _ (C3 _ z),ry4.held s6 r4.xO fun _ z=>z.elim,hf m3 hk4⟩
      | true =>
        rw[if_pos rfl] at hk4;show(if true=true then _ else _);rw[if_pos rfl];refine⟨g4,m3,P4,r4,B,kx,rB,hk4,fun x m4 g5 P5 Pv v H5 hk5 ag5 s6 rv r5 n5=>?_⟩;have ry5:=ry4.held s6 r4.xO fun _ z=>z.elim
        obtain⟨g6,P6,s7,r6⟩:=r5.weaken hwf;obtain⟨P7,r7,sp7⟩:=back r6;refine⟨by rw[C5,G0];omega,g6,P7,m4,ya++[x],(((s4.trans s5).trans (s6.less fun _ z=>.inl z)).trans s7).less sp7,r7,?_,?_,hx x m4 hk5⟩
        · exact((a4.trans ag4).trans ag5).mono fun i z=>(C0.mp z).elim (fun z=>(C0.mp z).elim id fun z=>B4 _ (C3 _ z)) fun z=>B4 _ (B4 _ z)
        · refine((AC.app ry5 (AC.cons rv.z AC.nil fun _ z=>z.elim) fun _ z=>z.elim).iff (Q:=xM) fun a=>⟨fun z=>z.elim,fun z=>z.elim id fun z=>z.elim id id⟩).held s7 r5.xO fun _ z=>z.elim
  · have ei:i=ds.length:=by omega
    subst ei;rw[vc] at e2;refine .inl ⟨(yl g2 H2 st).2 _ (B7 _),fun p hp=>?_⟩;obtain⟨Pv,s3,h1,r3,n3⟩:=Af.go s2 r2 (Af.lst r2.zd ry hp);have l1:xN.length=xY.length:=(FI hbl).trans lb;obtain⟨P4,r4,sp4⟩:=r3.more (Γ':=PU jx xY xN) (σ':=σ) (by unfold PU;simp) (by rw[L2.yF]) fun i o e=>by
      obtain⟨hi,e⟩:=FB e;split at e
      · rename_i z;split at e
        · rename_i z0;cases e;refine .inr ⟨rfl,?_⟩;obtain⟨v,Px,ev,rx,_⟩:=r1.z7 (Aw (beq_iff_eq.mp z0));have ji:i∉J:=fun w=>nJ i w (C7.mp z)
          have hl:i < m1.length:=by rw[r1.len.1,<- l1];exact hi
          refine⟨m1.at i,v,?_,ev,(rx.z.held s2 r1.xO fun _ z=>z.elim).held (Step.same (P:=xM) (Cb hp (.lst ys))) xS.xM fun _ _ z=>z⟩;have:=(AY J m1 t).2 i ji;have zu:i < (BA J m1 t).length:=by rw[JF];exact hl
          rw[A3 zu,<- this];unfold M.at;rw[D7,A3 zu];rfl
        · cases e
      · rename_i z;exact .inl ⟨Aw e.symm,(LP jx σ i fun w=>z (C7.mpr w)).symm⟩
    exact q _ _ g2 P4 Pv _ _ (hn t ya e2) ((AY J m1 t).mono sub) (s3.less fun a z=>z.elim (fun z=>.inl (sp4 a z)) .inr) h1 r4 fun a z w=>n3 a (sp4 a z) w
def Xl(src:Ev (List Dv))(tg:Tg)(f:Ev Dv):Ev Dv:=fun R m k=>src R m fun ds m1=>HQ ds ((BQ (fun d=>tg Dv d m1 fun m2=>f Dv m2 fun x _=>some x) ds).bind fun xs=>k (.lst xs) m1)
def Xm(src:Ev (List Dv))(tg:Tg)(c:Ev Bool)(f:Ev Dv):Ev Dv:=fun R m k=>src R m fun ds m1=>HQ ds ((JQ (fun d=>tg (Option Dv) d m1 fun m2=>c (Option Dv) m2 fun b m3=>if b=true then f (Option Dv) m3 fun x _=>some (some x) else some none) ds).bind fun xs=>k (.lst xs) m1)
def SA(src:Ev (List Dv))(tg:Tg)(J:List Nat)(f:Ev Dv):Ev Dv:=fun R m k=>src R m fun ds m1=>HQ ds ((Cr (fun d t=>tg (Dv×Gc J) d (BA J m1 t) fun m2=>f (Dv×Gc J) m2 fun x m3=>some (x,An J m3)) ds (An J m1)).bind fun p=>k (.lst p.1) (BA J m1 p.2))
def Fi:Ev Bool:=fun _ m k=>k true m
section
variable {K:W.Frag} {Γ xY xN zW Γc Γf:Gm} {js jx jt jc jf J:List Nat} {g:TG} {ft:Tg} {c:Ev Bool} {f:Ev Dv} {src:Ev (List Dv)} {σ:St} {H:Hp} {Q:VK}
theorem Wu(ht:Oo K xN zW jt g ft)(hbl:Bv xN (Ox jx xY)=true)(hwf:Bv xN Γf=true)(hwc:Bv xN zW=true)(hsx:∀i∈jt,i∈jx)(hJ:([]:List Nat)=BX xN (jt++([]++jf)))
    (h:tE K Γ 1 (PU jx xY xN) (js++(jt++([]++jf))) (Xl src ft f) σ H Q):IX (tI K Γ xY js src) jx g (tT K zW zW [] Fi) (tE K zW 0 Γf jf f) σ H Q:=by
  obtain⟨g0,m,P,r,R,k,res,e,q⟩:=h;refine⟨g0,m,P,r,R,_,res,e,fun ds m1 g1 P1 H1 I hk ag s r1 yl=>?_⟩;obtain⟨hz,hk⟩:=Jc hk;obtain⟨xs,e1,e2⟩:=xI hk;refine Jm (c:=Fi) ht hbl hwf hwc hsx hJ hz r1 yl (fun ds _ ya=>∃yb,xs=ya++yb/\BQ _ ds=some yb) ⟨xs,rfl,e1⟩ (fun t ya ⟨yb,h1,h2⟩=>?_) (fun d ds t ya ⟨yb,h1,h2⟩=>?_) fun d m' g' P' Pv v H' hk ag' s'=>q d m' g' P' Pv v H' hk (ag.trans ag') (s.trans s')
  · cases h2;rw[K0] at h1;subst h1;exact e2
  · obtain⟨x,h3,h4⟩:=xI h2;obtain⟨yc,h5,h6⟩:=xI h4;cases h6;exact⟨Dv,fun x _=>some x,fun _=>none,x,h3,(fun y m' hk=>by cases hk;exact⟨yc,by rw[h1,N6];rfl,h5⟩),fun m' hk=>by cases hk⟩
theorem Wv(ht:Oo K xN zW jt g ft)(hbl:Bv xN (Ox jx xY)=true)(hwf:Bv xN Γf=true)(hwc:Bv xN Γc=true)(hsx:∀i∈jt,i∈jx)(hJ:([]:List Nat)=BX xN (jt++(jc++jf)))
    (h:tE K Γ 1 (PU jx xY xN) (js++(jt++(jc++jf))) (Xm src ft c f) σ H Q):IX (tI K Γ xY js src) jx g (tT K zW Γc jc c) (tE K Γc 0 Γf jf f) σ H Q:=by
  obtain⟨g0,m,P,r,R,k,res,e,q⟩:=h;refine⟨g0,m,P,r,R,_,res,e,fun ds m1 g1 P1 H1 I hk ag s r1 yl=>?_⟩;obtain⟨hz,hk⟩:=Jc hk;obtain⟨xs,e1,e2⟩:=xI hk;refine Jm ht hbl hwf hwc hsx hJ hz r1 yl (fun ds _ ya=>∃yb,xs=ya++yb/\JQ _ ds=some yb) ⟨xs,rfl,e1⟩ (fun t ya ⟨yb,h1,h2⟩=>?_) (fun d ds t ya ⟨yb,h1,h2⟩=>?_) fun d m' g' P' Pv v H' hk ag' s'=>q d m' g' P' Pv v H' hk (ag.trans ag') (s.trans s')
  · cases h2;rw[K0] at h1;subst h1;exact e2
  · obtain⟨x,h3,h4⟩:=xI h2;obtain⟨yc,h5,h6⟩:=xI h4;cases h6;refine⟨Option Dv,fun x _=>some (some x),fun _=>some none,x,h3,(fun y m' hk=>?_),fun m' hk=>?_⟩
    · cases hk;exact⟨yc,by rw[h1,N6];rfl,h5⟩
    · cases hk;exact⟨yc,h1,h5⟩
theorem UL(ht:Oo K xN zW jt g ft)(hbl:Bv xN (Ox jx xY)=true)(hwf:Bv xN Γf=true)(hwc:Bv xN zW=true)(hsx:∀i∈jt,i∈jx)(hJ:J=BX xN (jt++([]++jf)))
    (h:tE K Γ 1 (PU jx xY xN) (js++(jt++([]++jf))) (SA src ft J f) σ H Q):IX (tI K Γ xY js src) jx g (tT K zW zW [] Fi) (tE K zW 0 Γf jf f) σ H Q:=by
  obtain⟨g0,m,P,r,R,k,res,e,q⟩:=h;refine⟨g0,m,P,r,R,_,res,e,fun ds m1 g1 P1 H1 I hk ag s r1 yl=>?_⟩;obtain⟨hz,hk⟩:=Jc hk;obtain⟨p,e1,e2⟩:=xI hk;refine Jm (c:=Fi) ht hbl hwf hwc hsx hJ hz r1 yl (fun ds t ya=>∃yb,p.1=ya++yb/\Cr _ ds t=some (yb,p.2)) ⟨p.1,rfl,e1⟩ (fun t ya ⟨yb,h1,h2⟩=>?_) (fun d ds t ya ⟨yb,h1,h2⟩=>?_) fun d m' g' P' Pv v H' hk ag' s'=>q d m' g' P' Pv v H' hk (ag.trans ag') (s.trans s')
  · simp only[Cr,X3,Prod.mk.injEq] at h2;obtain⟨rfl,rfl⟩:=h2;rw[K0] at h1;rw[<- h1];exact e2
  · obtain⟨x,h3,h4⟩:=xI h2;obtain⟨yc,h5,h6⟩:=xI h4;simp only[X3,Prod.mk.injEq] at h6;obtain⟨rfl,h7⟩:=h6;refine⟨_,fun x m3=>some (x,An J m3),fun _=>none,x,h3,(fun y m' hk=>?_),fun m' hk=>by cases hk⟩;cases hk;exact⟨yc.1,by rw[h1,N6];rfl,by rw[<- h7];exact h5⟩
end
end R
namespace L2
open PySem PySem.Spec PyProof.Rows
theorem Gb{a b:Nat}(h:a≠b):@Ne B5 a b:=h
def KI(h:G7)(it l:B5)(i:Nat):Bool->Prop
 | false=>h.IsListIter it l i
 | true=>h.IsTupleIter it l i
def KJ(h:G7)(l:B5)(xs:Array Value):Bool->Prop
 | false=>h.IsList l xs
 | true=>h.IsTuple l xs
noncomputable def Ri(l:B5):Bool->Obj
 | false=>{ cls:=.type "list_iterator", data:=.fields #[.ref l,.int 0 0] }
 | true=>{ cls:=.type "tuple_iterator", data:=.fields #[.ref l,.int 0 0] }
variable {h:G7} {it l:B5} {i:Nat} {b:Bool}
theorem KI.at{h':G7}(x:KI h it l i b)(k:∀o,h.get? it=some o->h'.get? it=some o):KI h' it l i b:=by
 cases b with
 | false=>obtain⟨o,e,r⟩:=x;exact⟨o,k o e,r⟩
 | true=>obtain⟨o,e,r⟩:=x;exact⟨o,k o e,r⟩
theorem KJ.at{h':G7}{xs:Array Value}(x:KJ h l xs b)(k:∀o,h.get? l=some o->h'.get? l=some o):KJ h' l xs b:=by
 cases b with
 | false=>obtain⟨o,e,r⟩:=x;exact⟨o,k o e,r⟩
 | true=>obtain⟨o,e,r⟩:=x;exact⟨o,k o e,r⟩
theorem KI.obj(x:KI h it l i b):∃o,h.get? it=some o/\∀v,o.data≠.cell v:=by
 cases b with
 | false=>obtain⟨o,e,c,d⟩:=x;exact⟨o,e,fun v z=>by rw[d] at z;cases z⟩
 | true=>obtain⟨o,e,c,d⟩:=x;exact⟨o,e,fun v z=>by rw[d] at z;cases z⟩
theorem KI.new:KI (h.push (Ri l b)) h.objs.size l 0 b:=by
 cases b with
 | false=>exact⟨_,C8 _ rfl,rfl,rfl⟩
 | true=>exact⟨_,C8 _ rfl,rfl,rfl⟩
variable {Q:Value->A9->Prop}
section
variable {prog:F8} {w:J0} {A:J5} {E:Value->A9->Prop} {s:A9}
theorem Kg{xs:Array Value}(hl:KJ s.heap l xs b)(hQ:Q (.ref s.heap.objs.size) { s with heap:=s.heap.push (Ri l b) }):C4 (D6 prog w) A (pyIter (.ref l)) Q E s:=by
 cases b with
 | false=>exact X1 hl hQ
 | true=>exact ur hl hQ
theorem Lh{items:Array Value}{x:Value}{Q:Value->A9->Prop}(hit:KI s.heap it l i b)(hl:KJ s.heap l items b)(hx:items[i]?=some x)
    (hQ:∀h',KI h' it l (i+1) b->Q0 it s.heap h'->Q x { s with heap:=h' }):C4 (D6 prog w) A (G9 (.ref it)) Q E s:=by
  cases b with
  | false=>exact wpAny_nextOf_list_item hit hl hx hQ
  | true =>
    obtain⟨o,ho,hc,hd⟩:=id hit;obtain⟨ol,hol,_,nl,hdl⟩:=hl
    have ht:s.TypeIs (.ref it) "tuple_iterator" := ⟨o,ho,hc⟩
    unfold G9
    refine A1 (K7 (name:=U4 "__next__") ht F.slot_tuple_iterator_next
      (K2 F.slot_tuple_iterator_next ht F.entry_tuple_iterator_next ?_ (F.args_tuple_iterator_next_1 _)))
    show C4 _ _ (wU (.ref it) 0 >>= _) _ _ s;refine A1 (J6 ho hd (x:=.ref l) rfl ?_);show C4 _ _ (if(E3 l == T1)=true then _ else _) _ _ s;rw[if_neg (show ¬((E3 l == T1)=true) from D4)];show C4 _ _ (wU (.ref it) 1 >>= _) _ _ s;refine A1 (J6 ho hd (x:=.int i 0) rfl ?_);show C4 _ _ (seqItems? (.ref l) >>= _) _ _ s;refine A1 (N3 hol hdl ?_);simp only[O7,hx];refine A1 (wpAny_setField ho hd (by simp) (A6 ⟨x,rfl,A6 (hQ _ ?_ (U8 ..))⟩));exact⟨_,T8 _ ho (Obj.isFreed_of_fields (uw hd _)),(Obj.cls_mapFields ..).trans hc,by
      rw[uw hd];simp[wI]⟩
theorem VZ{items:Array Value}{Q:Value->A9->Prop}(hh:A.handled=none)(hit:KI s.heap it l i b)(hl:KJ s.heap l items b)(hx:items[i]?=none)
    (hE:∀h' e,vp it s.heap h'->(∃o,h'.get? e=some o/\o.cls=.type "StopIteration")->E (.ref e) { s with heap:=h' }):C4 (D6 prog w) A (G9 (.ref it)) Q E s:=by
  cases b with
  | false=>exact wpAny_nextOf_list_end hh hit hl hx hE
  | true =>
    obtain⟨o,ho,hc,hd⟩:=id hit;obtain⟨ol,hol,_,nl,hdl⟩:=hl
    have ht:s.TypeIs (.ref it) "tuple_iterator" := ⟨o,ho,hc⟩
    unfold G9
    refine A1 (K7 (name:=U4 "__next__") ht F.slot_tuple_iterator_next
      (K2 F.slot_tuple_iterator_next ht F.entry_tuple_iterator_next ?_ (F.args_tuple_iterator_next_1 _)))
    show C4 _ _ (wU (.ref it) 0 >>= _) _ _ s;refine A1 (J6 ho hd (x:=.ref l) rfl ?_);show C4 _ _ (if(E3 l == T1)=true then _ else _) _ _ s;rw[if_neg (show ¬((E3 l == T1)=true) from D4)];show C4 _ _ (wU (.ref it) 1 >>= _) _ _ s;refine A1 (J6 ho hd (x:=.int i 0) rfl ?_);show C4 _ _ (seqItems? (.ref l) >>= _) _ _ s;refine A1 (N3 hol hdl ?_);simp only[O7,hx];refine A1 (Y0 (A1 (wpAny_setField ho hd (by simp) ?_)))
    show C4 _ _ (newExc (.type "StopIteration") [] >>= _) _ _ _
    refine A1 ?_;simp only[newExc,newTuple];refine A1 (H8 ?_ (by size_fits));refine A1 (m:=firstArgMember _ _) (wpAny_of_eq (a:=T1) (by first | rfl | (simp only[firstArgMember];rfl)) ?_);refine H8 ?_ (by size_fits);simp only[raiseNew];refine A1 (wpAny_handled ?_)
    first | rw[show A.in1.handled=none from hh] | rw[hh]
    refine A1 (A6 (wpAny_throw ?_));exact hE _ _ (((U8 ..).extBut.push _).push _) ⟨_,C8 _ rfl,rfl⟩
end
def Oy(K:W.Frag)(H:Hp)(a:B5)(xs:List V):Bool->Prop
 | false=>DO K H a xs
 | true=>FL K H a xs
section
variable {X:Cx} {pins:List (B5×Obj)} {σ:St} {H:Hp} {s:A9} {a:B5} {xs ys:List V} {b:Bool}
theorem Inv.sqB(I:Inv X pins σ H s)(h:Oy X.K H a xs b):∃xJ:List Value,AF xs xJ/\KJ s.heap a xJ.toArray b/\a < s.heap.objs.size:=by
 cases b with
 | false =>
  obtain⟨xJ,r,p,_⟩:=I.list h;exact⟨xJ,r,p.isList,by obtain⟨o,n,e,_⟩:=p;exact D3 e⟩
 | true =>
  obtain⟨xJ,r,p,_⟩:=I.tuple h;exact⟨xJ,r,p,by obtain⟨o,e,_⟩:=p;exact D3 e⟩
theorem Inv.zAw(I:Inv X pins σ H s)(h:Oy X.K H a xs b)(h':Oy X.K H a ys b):xs=ys:=by
 cases b with
 | false=>exact I.zZ h h'
 | true=>exact I.zB h h'
end
abbrev SV(h:G7)(T:B5)(v1 v2:Value):Prop:=h.get? T=some { cls:=.type "tuple", data:=.seq #[v1,v2] }
variable {I l1 l2:Nat} {b1 b2:Bool} {yJ yS:Array Value}
section
variable {prog:F8} {w:J0} {A:J5} {E:Value->A9->Prop} {s:A9}
theorem Uw{T:B5}{v1 v2 x:Value}{Q:Unit->A9->Prop}(hT:SV s.heap T v1 v2)(h:∀h',SV h' T x v2->Q0 T s.heap h'->Q () { s with heap:=h' }):C4 (D6 prog w) A (updateSeq T (·.setIfInBounds 0 x)) Q E s:=by
 refine v5 hT rfl (h _ ?_ (U8 ..));show Heap.get? _ _=_;rw[T8 _ hT rfl];simp[J9]
theorem fh{T:B5}{v1 v2 x:Value}{Q:Unit->A9->Prop}(hT:SV s.heap T v1 v2)(h:∀h',SV h' T v1 x->Q0 T s.heap h'->Q () { s with heap:=h' }):C4 (D6 prog w) A (updateSeq T (·.setIfInBounds 1 x)) Q E s:=by
 refine v5 hT rfl (h _ ?_ (U8 ..));show Heap.get? _ _=_;rw[T8 _ hT rfl];simp[J9]
structure zR (h:G7) (I:Nat) (l1 l2:Nat) (b1 b2:Bool) (i:Nat) (f0:Value):Prop where
 z:uH h (I+4) (I+2) (I+3) f0
 ti:SV h (I+2) (.ref I) (.ref (I+1))
 to:∃v1 v2,SV h (I+3) v1 v2
 s1:KI h I l1 i b1
 s2:KI h (I+1) l2 i b2
theorem zR.at{h':G7}{f0:Value}(x:zR h I l1 l2 b1 b2 i f0)(k:∀(c:Nat) o,I<=c->c < I+5->h.get? c=some o->h'.get? c=some o):zR h' I l1 l2 b1 b2 i f0:=
 ⟨k _ _ (by omega) (by omega) x.z,k _ _ (by omega) (by omega) x.ti,let ⟨v1,v2,e⟩:=x.to;⟨v1,v2,k _ _ (by omega) (by omega) e⟩,x.s1.at fun o e=>k _ o (by omega) (by omega) e,x.s2.at fun o e=>k _ o (by omega) (by omega) e⟩
theorem SW{y1 y2:Value}{Q:Value->A9->Prop}(hz:zR s.heap I l1 l2 b1 b2 i .none)(zS:KJ s.heap l1 yJ b1)(lt1:l1 < I)(yW:KJ s.heap l2 yS b2)(lt2:l2 < I)(hx1:yJ[i]?=some y1)(hx2:yS[i]?=some y2)
    (hQ:∀h',zR h' I l1 l2 b1 b2 (i+1) (wI s.heap.objs.size)->SV h' s.heap.objs.size y1 y2->h'.objs.size=s.heap.objs.size+1->(∀(c:Nat) o,(c < I\/I+5<=c)->s.heap.get? c=some o->h'.get? c=some o)->Q (.ref s.heap.objs.size) { s with heap:=h' }) :
    C4 (D6 prog w) A (u0.«zip.__next__» ⟨[.ref (I+4)],[]⟩) (fun fin s'=>∃v,fin=.done (.ret v)/\Q v s') E s:=by
  obtain⟨z0,ti0,⟨v1,v2,to0⟩,s10,s20⟩:=hz;show C4 _ _ (wU (.ref (I+4)) 2 >>= _) _ _ _;refine A1 (J6 z0 rfl (x:=.bool false) rfl ?_);show C4 _ _ (wU (.ref (I+4)) 3 >>= _) _ _ _;refine A1 (J6 z0 rfl (x:=.ref (I+2)) rfl ?_);refine A1 (N3 ti0 rfl ?_);show C4 _ _ (M1 (.ref (I+4)) >>= _) _ _ _;refine A1 ?_;unfold M1;refine A1 (J6 z0 rfl (x:=.none) rfl (A6 ?_));simp only[if_true];refine A1 (Y0 ?_);refine A1 (J6 z0 rfl (x:=.ref (I+3)) rfl ?_);refine A1 (R1 z0 (by simp) fun h₁ zc yZ=>?_);replace zc:uH h₁ (I+4) (I+2) (I+3) .ellipsis:=zc;refine A1 ?_;simp only[vf,v7,Z6,uF];have g0:∀(c:Nat) o,c≠(I+4)->s.heap.get? c=some o->h₁.get? c=some o:=fun c o c1 e=>yZ.extBut _ _ c1 e
  have k0:∀(c:Nat) o,c≠(I+4)->c≠(I+3)->(c < I\/I<=c)->s.heap.get? c=some o->h₁.get? c=some o:=fun c o c1 _ _ e=>g0 c o c1 e
  have to1:SV h₁ (I+3) v1 v2:=g0 _ _ (by omega) to0;refine A1 (A1 (q0 ?_));show C4 _ _ (G9 (.ref I) >>= _) _ _ _;refine A1 (Lh (s10.at fun o e=>k0 _ o (by omega) (by omega) (by omega) e) (zS.at fun o e=>k0 _ o (by omega) (by omega) (by omega) e) hx1 fun p1 si1 sp1=>A6 ?_);have u1:SV p1 (I+3) v1 v2:=sp1.extBut _ _ (Gb (by omega)) to1;refine A1 (N3 u1 rfl ?_);refine A1 (Uw u1 fun q1 to2 sq1=>?_);have k1:∀(c:Nat) o,c≠(I+4)->c≠(I+3)->(c < I\/I+1<=c)->s.heap.get? c=some o->q1.get? c=some o:=fun c o c1 c2 c3 e=>sq1.extBut _ _ c2 (sp1.extBut _ _ (Gb (by omega)) (k0 c o c1 c2 (by omega) e))
  have zz1:uH q1 (I+4) (I+2) (I+3) .ellipsis:=sq1.extBut _ _ (Gb (by omega)) (sp1.extBut _ _ (Gb (by omega)) zc);have zDl:KI q1 I l1 (i+1) b1:=si1.at fun o e=>sq1.extBut _ _ (Gb (by omega)) e
  refine A1 (vq (A6 ?_));refine A1 (A1 (q0 ?_));show C4 _ _ (G9 (.ref (I+1)) >>= _) _ _ _;refine A1 (Lh (s20.at fun o e=>k1 _ o (by omega) (by omega) (by omega) e) (yW.at fun o e=>k1 _ o (by omega) (by omega) (by omega) e) hx2 fun p2 si2 sp2=>A6 ?_);have u2:SV p2 (I+3) y1 v2:=sp2.extBut _ _ (Gb (by omega)) to2;refine A1 (N3 u2 rfl ?_);refine A1 (fh u2 fun q2 to3 sq2=>?_);have k2:∀(c:Nat) o,c≠(I+4)->c≠(I+3)->(c < I\/I+2<=c)->s.heap.get? c=some o->q2.get? c=some o:=fun c o c1 c2 c3 e=>sq2.extBut _ _ c2 (sp2.extBut _ _ (Gb (by omega)) (k1 c o c1 c2 (by omega) e))
  have zz2:uH q2 (I+4) (I+2) (I+3) .ellipsis:=sq2.extBut _ _ (Gb (by omega)) (sp2.extBut _ _ (Gb (by omega)) zz1);have zDj:KI q2 (I+1) l2 (i+1) b2:=si2.at fun o e=>sq2.extBut _ _ (Gb (by omega)) e
  have zDk:KI q2 I l1 (i+1) b1:=zDl.at fun o e=>sq2.extBut _ _ (Gb (by omega)) (sp2.extBut _ _ (Gb (by omega)) e)
  refine A1 (vq (A6 (A6 ?_)));refine A1 (N3 to3 rfl ?_);refine A1 (wpAny_newTuple ?_);have hsz:q2.objs.size=s.heap.objs.size:=by rw[sq2.1,sp2.1,sq1.1,sp1.1,yZ.1]
  have zlt:(I+4) < q2.objs.size:=D3 zz2;show C4 _ _ (U9 (.ref (I+4)) (.ref q2.objs.size) >>= _) _ _ _;refine A1 ?_;unfold U9
  have z6:uH (q2.push { cls:=.type "tuple", data:=.seq #[y1,y2] }) (I+4) (I+2) (I+3) .ellipsis:=A5 _ zz2
  refine A1 (R1 z6 (by simp) fun zDy zBd zBf=>?_);replace zBd:uH zDy (I+4) (I+2) (I+3) (wI q2.objs.size):=zBd;refine R1 zBd (by simp) fun zBc zBA zBe=>?_
  replace zBA:uH zBc (I+4) (I+2) (I+3) (wI q2.objs.size):=zBA;have up:∀(c:Nat) o,c≠(I+4)->q2.get? c=some o->zBc.get? c=some o:=fun c o c1 e=>zBe.extBut _ _ c1 (zBf.extBut _ _ c1 (A5 _ e))
  have zCS:SV zBc q2.objs.size y1 y2:=zBe.extBut _ _ (Gb (by omega)) (zBf.extBut _ _ (Gb (by omega)) (C8 _ rfl));have hz8:zBc.objs.size=q2.objs.size+1:=by rw[zBe.1,zBf.1,L5]
  rw[hsz] at zBA zCS hz8;refine A6 ⟨_,rfl,?_⟩;show Q (.ref q2.objs.size) _;rw[hsz];exact hQ zBc ⟨zBA,up _ _ (by omega) (k2 _ _ (by omega) (by omega) (by omega) ti0),⟨y1,y2,up _ _ (by omega) to3⟩,zDk.at fun o e=>up _ o (by omega) e,zDj.at fun o e=>up _ o (by omega) e⟩ zCS hz8 fun c o hc e=>up c o (by omega) (k2 c o (by omega) (by omega) (by omega) e)
theorem Ut{Q:Fin->A9->Prop}(hh:A.handled=none)(hz:zR s.heap I l1 l2 b1 b2 i .none)(zS:KJ s.heap l1 yJ b1)(lt1:l1 < I)(yW:KJ s.heap l2 yS b2)(lt2:l2 < I)(zBm:yJ[i]?=none\/yS[i]?=none)
    (hE:∀h' e,(∀(c:Nat) o,(c < I\/I+5<=c)->s.heap.get? c=some o->h'.get? c=some o)->(∃o,h'.get? e=some o/\o.cls=.type "StopIteration")->E (.ref e) { s with heap:=h' }) :
    C4 (D6 prog w) A (u0.«zip.__next__» ⟨[.ref (I+4)],[]⟩) Q E s:=by
  obtain⟨z0,ti0,⟨v1,v2,to0⟩,s10,s20⟩:=hz;show C4 _ _ (wU (.ref (I+4)) 2 >>= _) _ _ _;refine A1 (J6 z0 rfl (x:=.bool false) rfl ?_);show C4 _ _ (wU (.ref (I+4)) 3 >>= _) _ _ _;refine A1 (J6 z0 rfl (x:=.ref (I+2)) rfl ?_);refine A1 (N3 ti0 rfl ?_);show C4 _ _ (M1 (.ref (I+4)) >>= _) _ _ _;refine A1 ?_;unfold M1;refine A1 (J6 z0 rfl (x:=.none) rfl (A6 ?_));simp only[if_true];refine A1 (Y0 ?_);refine A1 (J6 z0 rfl (x:=.ref (I+3)) rfl ?_);refine A1 (R1 z0 (by simp) fun h₁ zc yZ=>?_);replace zc:uH h₁ (I+4) (I+2) (I+3) .ellipsis:=zc;refine A1 ?_;simp only[vf,v7,Z6,uF];have g0:∀(c:Nat) o,c≠(I+4)->s.heap.get? c=some o->h₁.get? c=some o:=fun c o c1 e=>yZ.extBut _ _ c1 e
  have k0:∀(c:Nat) o,c≠(I+4)->c≠(I+3)->(c < I\/I<=c)->s.heap.get? c=some o->h₁.get? c=some o:=fun c o c1 _ _ e=>g0 c o c1 e
  have to1:SV h₁ (I+3) v1 v2:=g0 _ _ (by omega) to0;have zz0:uH h₁ (I+4) (I+2) (I+3) .ellipsis:=zc;refine A1 (A1 (q0 ?_));show C4 _ _ (G9 (.ref I) >>= _) _ _ _;cases hx1:yJ[i]? with
  | none =>
    refine A1 (VZ hh (s10.at fun o e=>k0 _ o (by omega) (by omega) (by omega) e) (zS.at fun o e=>k0 _ o (by omega) (by omega) (by omega) e) hx1 fun zAM e ze he=>?_);obtain⟨oe,hoe,hce⟩:=he;have zAU:uH zAM (I+4) (I+2) (I+3) .ellipsis:=ze _ _ (Gb (by omega)) zz0;have hez:e≠(I+4):=fun x=>by subst x;rw[zAU] at hoe;cases hoe;simp at hce
    exact R1 zAU (by simp) fun zAL _ zAV=>hE zAL e (fun c o hc x=>zAV.extBut _ _ (Gb (by omega)) (ze _ _ (Gb (by omega)) (k0 c o (by omega) (by omega) (by omega) x))) ⟨oe,zAV.extBut _ _ hez hoe,hce⟩
  | some y1 =>
    refine A1 (Lh (s10.at fun o e=>k0 _ o (by omega) (by omega) (by omega) e) (zS.at fun o e=>k0 _ o (by omega) (by omega) (by omega) e) hx1 fun p1 si1 sp1=>A6 ?_);have u1:SV p1 (I+3) v1 v2:=sp1.extBut _ _ (Gb (by omega)) to1;refine A1 (N3 u1 rfl ?_);refine A1 (Uw u1 fun q1 to2 sq1=>?_);have k1:∀(c:Nat) o,c≠(I+4)->c≠(I+3)->(c < I\/I+1<=c)->s.heap.get? c=some o->q1.get? c=some o:=fun c o c1 c2 c3 e=>sq1.extBut _ _ c2 (sp1.extBut _ _ (Gb (by omega)) (k0 c o c1 c2 (by omega) e))
    have zz1:uH q1 (I+4) (I+2) (I+3) .ellipsis:=sq1.extBut _ _ (Gb (by omega)) (sp1.extBut _ _ (Gb (by omega)) zz0);refine A1 (vq (A6 ?_));refine A1 (A1 (q0 ?_));show C4 _ _ (G9 (.ref (I+1)) >>= _) _ _ _;cases hx2:yS[i]? with
    | none =>
      refine A1 (VZ hh (s20.at fun o e=>k1 _ o (by omega) (by omega) (by omega) e) (yW.at fun o e=>k1 _ o (by omega) (by omega) (by omega) e) hx2 fun zAM e ze he=>?_);obtain⟨oe,hoe,hce⟩:=he;have zAU:uH zAM (I+4) (I+2) (I+3) .ellipsis:=ze _ _ (Gb (by omega)) zz1;have hez:e≠(I+4):=fun x=>by subst x;rw[zAU] at hoe;cases hoe;simp at hce
      exact R1 zAU (by simp) fun zAL _ zAV=>hE zAL e (fun c o hc x=>zAV.extBut _ _ (Gb (by omega)) (ze _ _ (Gb (by omega)) (k1 c o (by omega) (by omega) (by omega) x))) ⟨oe,zAV.extBut _ _ hez hoe,hce⟩
    | some y2 =>
      simp[hx1,hx2] at zBm
theorem HE{y1 y2:Value}{Q:Option Value->A9->Prop}(hz:zR s.heap I l1 l2 b1 b2 i .none)(zS:KJ s.heap l1 yJ b1)(lt1:l1 < I)(yW:KJ s.heap l2 yS b2)(lt2:l2 < I)(hx1:yJ[i]?=some y1)(hx2:yS[i]?=some y2)
    (hQ:∀h',zR h' I l1 l2 b1 b2 (i+1) (wI s.heap.objs.size)->SV h' s.heap.objs.size y1 y2->h'.objs.size=s.heap.objs.size+1->(∀(c:Nat) o,(c < I\/I+5<=c)->s.heap.get? c=some o->h'.get? c=some o)->Q (some (.ref s.heap.objs.size)) { s with heap:=h' }) :
    C4 (D6 prog w) A (ug (.ref (I+4))) Q E s:=by
  have hT:s.TypeIs (.ref (I+4)) "zip" := ⟨_,hz.z,rfl⟩
  unfold ug
  exact A1 (wpAny_attempt (K7 (name:=U4 "__next__") hT F.slot_zip_next
    (K2 F.slot_zip_next hT F.entry_zip_next (SW hz zS lt1 yW lt2 hx1 hx2 fun h' a1 a2 a3 a4=>A6 (hQ h' a1 a2 a3 a4)) (F.args_zip_next_1 _))))
theorem Ho{Q:Option Value->A9->Prop}(hh:A.handled=none)(hz:zR s.heap I l1 l2 b1 b2 i .none)(zS:KJ s.heap l1 yJ b1)(lt1:l1 < I)(yW:KJ s.heap l2 yS b2)(lt2:l2 < I)(zBm:yJ[i]?=none\/yS[i]?=none)
    (hQ:∀h',(∀(c:Nat) o,(c < I\/I+5<=c)->s.heap.get? c=some o->h'.get? c=some o)->Q none { s with heap:=h' }) :
    C4 (D6 prog w) A (ug (.ref (I+4))) Q E s:=by
  have hT:s.TypeIs (.ref (I+4)) "zip" := ⟨_,hz.z,rfl⟩
  unfold ug
  refine A1 (wpAny_attempt (K7 (name:=U4 "__next__") hT F.slot_zip_next
    (K2 F.slot_zip_next hT F.entry_zip_next (Ut hh hz zS lt1 yW lt2 zBm fun h' e hk he=>?_) (F.args_zip_next_1 _))))
  obtain⟨o,ho,hc⟩:=he
  refine A1 (Y1 (T := "StopIteration") (b:=true) ⟨o,ho,hc⟩ isSubtype_stop ?_)
  exact A6 (hQ _ hk)
abbrev KR(h:G7)(l1 l2:Nat)(b1 b2:Bool):G7:=h.push (Ri l1 b1)
abbrev Qx(h:G7)(l1 l2:Nat)(b1 b2:Bool):G7:=(KR h l1 l2 b1 b2).push (Ri l2 b2)
abbrev Qw(h:G7)(l1 l2:Nat)(b1 b2:Bool):G7:=(Qx h l1 l2 b1 b2).push { cls:=.type "tuple", data:=.seq #[.ref h.objs.size,.ref (KR h l1 l2 b1 b2).objs.size] }
abbrev Qv(h:G7)(l1 l2:Nat)(b1 b2:Bool):G7:=(Qw h l1 l2 b1 b2).push { cls:=.type "tuple", data:=.seq #[.none,.none] }
abbrev IR(h:G7)(l1 l2:Nat)(b1 b2:Bool):G7:=(Qv h l1 l2 b1 b2).push { cls:=.type "zip", data:=.fields #[.none,.bool false,.bool false,.ref (Qx h l1 l2 b1 b2).objs.size,.ref (Qw h l1 l2 b1 b2).objs.size] }
theorem QA(l1 l2:Nat)(b1 b2:Bool)(yJ yS:Array Value) :
    Meets (u0.«zip.__new__» ⟨[.type "zip", .ref l1,.ref l2],[]⟩) (fun _ R s=>KJ s.heap l1 yJ b1/\KJ s.heap l2 yS b2 /\
      R (.ok (.ret (.ref (Qv s.heap l1 l2 b1 b2).objs.size))) { s with heap:=IR s.heap l1 l2 b1 b2 }):=
  .of_wp fun prog w A R s h=>by
    obtain⟨hp,g,d,tk,os⟩:=s;obtain⟨zS,yW,h⟩:=h;have zDM:=sub_zip;have hL1:KJ (w8 ⟨hp,g,d,tk,os⟩) l1 yJ b1:=zS.at fun o e=>e
    have hL2:KJ (w8 ⟨(KR hp l1 l2 b1 b2),g,d,tk,os⟩) l2 yS b2:=yW.at fun o e=>A5 _ e
    wp_walk using Kg hL1,Kg hL2
    exact⟨_,rfl,h⟩
theorem UP{Q:Value->A9->Prop}(zS:KJ s.heap l1 yJ b1)(yW:KJ s.heap l2 yS b2)
    (h:∀h',zR h' s.heap.objs.size l1 l2 b1 b2 0 .none->h'.objs.size=s.heap.objs.size+5->(∀(c:Nat) o,s.heap.get? c=some o->h'.get? c=some o)->Q (.ref (s.heap.objs.size+4)) { s with heap:=h' }) :
    C4 (D6 prog w) A (call (.type "zip") [.ref l1,.ref l2]) Q E s:=by
  refine callType_new F.called_zip (by decide) (F.typeCall_zip_2 _ _) (F.newCall_zip_2 _ _) (fun obj=>F.args_object_init_3 obj _ _) F.entry_zip_new (QA l1 l2 b1 b2 yJ yS) ⟨zS,yW,?_⟩;have z1:(KR s.heap l1 l2 b1 b2).objs.size=s.heap.objs.size+1:=by exact L5 ..
  have z2:(Qx s.heap l1 l2 b1 b2).objs.size=s.heap.objs.size+2:=by rw[L5,z1]
  have z3:(Qw s.heap l1 l2 b1 b2).objs.size=s.heap.objs.size+3:=by rw[L5,z2]
  have z4:(Qv s.heap l1 l2 b1 b2).objs.size=s.heap.objs.size+4:=by rw[L5,z3]
  have z5:(IR s.heap l1 l2 b1 b2).objs.size=s.heap.objs.size+5:=by rw[L5,z4]
  have gz:(IR s.heap l1 l2 b1 b2).get? (Qv s.heap l1 l2 b1 b2).objs.size=some _:=C8 _ rfl;have gto:(IR s.heap l1 l2 b1 b2).get? (Qw s.heap l1 l2 b1 b2).objs.size=some _:=(A5 _ (C8 _ rfl));have gti:(IR s.heap l1 l2 b1 b2).get? (Qx s.heap l1 l2 b1 b2).objs.size=some _:=(A5 _ (A5 _ (C8 _ rfl)));have gs1:KI (IR s.heap l1 l2 b1 b2) s.heap.objs.size l1 0 b1:=KI.at (KI.new (h:=s.heap)) fun o e=>(A5 _ (A5 _ (A5 _ (A5 _ e))))
  have gs2:KI (IR s.heap l1 l2 b1 b2) (KR s.heap l1 l2 b1 b2).objs.size l2 0 b2:=KI.at (KI.new (h:=(KR s.heap l1 l2 b1 b2))) fun o e=>(A5 _ (A5 _ (A5 _ e)))
  show _/\_;rw[z2,z3,z4] at gz;rw[z3] at gto;rw[z1,z2] at gti;rw[z1] at gs2;rw[z4];exact⟨⟨_,gz,rfl⟩,h _ ⟨gz,gti,⟨_,_,gto⟩,gs1,gs2⟩ z5 fun c o x=>(A5 _ (A5 _ (A5 _ (A5 _ (A5 _ x)))))⟩
end
theorem eB{b:Nat}(h:¬b∈([(I+4),(I+2),(I+3),I,(I+1)]:List Nat)):b < I\/I+5<=b:=by simp only[B9,J4,or_false,not_or] at h;omega
theorem oI{b:Nat}(h:b∈([(I+4),(I+2),(I+3),I,(I+1)]:List Nat)):I<=b/\b < I+5:=by simp only[B9,J4,or_false] at h;omega
def Zh(K:W.Frag)(a1 a2:Nat)(b1 b2:Bool):It:=
 ⟨fun i H=>∃yJ yS y1 y2,Oy K H a1 yJ b1/\yJ[i]?=some y1/\Oy K H a2 yS b2/\yS[i]?=some y2,fun i H x H'=>∃p y1 y2,H p=none/\x=.ref p/\H'=upd H p (.tup [y1,y2])/\(∀xs,Oy K H a1 xs b1->xs[i]?=some y1)/\(∀xs,Oy K H a2 xs b2->xs[i]?=some y2),fun i H=>∃yJ yS,Oy K H a1 yJ b1/\Oy K H a2 yS b2/\(yJ.length<=i\/yS.length<=i)⟩
theorem SZ{P:F8}{w:J0}{K:W.Frag}{elts:List Expr}{x1}{pos:Pos}(I a1 a2:Nat)(b1 b2:Bool)(lt1:a1 < I)(lt2:a2 < I):Turn P w K (.Tuple elts x1 pos) (Zh K a1 a2 b1 b2) [(I+4),(I+2),(I+3),I,(I+1)] (I+4) (fun i h=>zR h I a1 a2 b1 b2 i .none) where
 mem:=by simp
 obj:=fun i h st b hb=>by
  obtain⟨z0,ti0,⟨v1,v2,to0⟩,s10,s20⟩:=st;simp only[B9,J4,or_false] at hb;rcases hb with rfl | rfl | rfl | rfl | rfl
  ·exact⟨_,z0,fun v z=>by cases z⟩
  ·exact⟨_,ti0,fun v z=>by cases z⟩
  ·exact⟨_,to0,fun v z=>by cases z⟩
  ·exact s10.obj
  ·exact s20.obj
 keep:=fun i h h' st k=>st.at fun c o c1 c2 e=>k c (by show c∈([(I+4),(I+2),(I+3),I,(I+1)]:List Nat);simp only[B9,J4,or_false];omega) o e
 item:=by
  intro X hP hw hK hc i pins s σ H E I1 hf st hg;subst hP hw hK;obtain⟨ws1,ws2,y1,y2,hq1,hy1,hq2,hy2⟩:=hg;obtain⟨zCl,rv1,p1,zS⟩:=I1.sqB hq1;obtain⟨u1,hu1,ru1⟩:=rv1.get hy1;obtain⟨xU,rv2,p2,yW⟩:=I1.sqB hq2;obtain⟨u2,hu2,ru2⟩:=rv2.get hy2;refine HE st p1 lt1 p2 lt2 (y1:=u1) (y2:=u2) (by simpa using hu1) (by simpa using hu2) fun h1 st1 t1 z1 k1=>?_
  refine⟨_,rfl,wpAny_letOwnedTupleGo_zip (s:={ s with heap:=h1 }) st1.z fun h2 e2 sb=>?_⟩;have hzl:(I+4) < s.heap.objs.size:=D3 st.z;have hfr:=I1.xP.fresh (B7 s.heap.objs.size)
  have I2:Inv X pins σ (upd H s.heap.objs.size (.tup [y1,y2])) { s with heap:=s.heap.push { cls:=.type "tuple", data:=.seq #[u1,u2] },toks:=s.toks }:=
   I1.laid (fun b o q=>A5 _ q) (B7 _) (show Ae X.prog X.w _ _ _ (.tup [y1,y2]) from⟨by show 2<=sizeLine;decide,[u1,u2],(.cons ru1 (.cons ru2 .nil)),KG.new _ _⟩)
  have hb:∀b∈([(I+4),(I+2),(I+3),I,(I+1)]:List Nat),I<=b/\b < I+5:=fun b hb=>oI hb
  have zw:∀b∈([(I+4),(I+2),(I+3),I,(I+1)]:List Nat),xS X pins (upd H s.heap.objs.size (.tup [y1,y2])) b:=fun b hbb=>by
   obtain⟨f0,r⟩:=hf b hbb;refine⟨?_,r⟩;rw[AG (E4 (B8 (hb b hbb).2 (by omega)))];exact f0
  have I3:Inv X pins σ (upd H s.heap.objs.size (.tup [y1,y2])) { s with heap:=h2,toks:=s.toks }:=by
   refine Inv.zAt (s:={ s with heap:=s.heap.push { cls:=.type "tuple", data:=.seq #[u1,u2] },toks:=s.toks }) (h':=h2) (t':=s.toks) (ch:=[(I+4),(I+2),(I+3),I,(I+1)]) I2 (fun b o hbb q=>?_) zw
   have q:(s.heap.push { cls:=.type "tuple", data:=.seq #[u1,u2] }).get? b=some o:=q
   have hbe:b≠(I+4):=fun z=>hbb (by simp[z])
   refine(sb.2 b hbe).trans ?_
   by_cases hbs:b=s.heap.objs.size
   ·subst hbs;rw[C8 _ rfl] at q;rw[<- q];exact t1
   ·rw[Heap.get?_push_ne _ _ _ hbs] at q;exact k1 b o (eB hbb) q
  refine⟨.ref s.heap.objs.size,_,I3,rfl,⟨_,y1,y2,hfr,rfl,rfl,fun zs hz=>by rw[I1.zAw hz hq1];exact hy1,fun zs hz=>by rw[I1.zAw hz hq2];exact hy2⟩,?_,fun b hbb=>(zw b hbb).1⟩;exact⟨e2,sb.extBut _ _ (Gb (by omega)) st1.ti,let ⟨v1,v2,e⟩:=st1.to;⟨v1,v2,sb.extBut _ _ (Gb (by omega)) e⟩,st1.s1.at fun o e=>sb.extBut _ _ (Gb (by omega)) e,st1.s2.at fun o e=>sb.extBut _ _ (Gb (by omega)) e⟩
 done:=by
  intro X hP hw hK hc i pins s σ H E I1 hf st hg;subst hP hw hK;obtain⟨ws1,ws2,hq1,hq2,zBm⟩:=hg;obtain⟨zCl,rv1,p1,zS⟩:=I1.sqB hq1;have le1:=rv1.length;obtain⟨xU,rv2,p2,yW⟩:=I1.sqB hq2;have le2:=rv2.length;have zDV:zCl.toArray[i]?=none\/xU.toArray[i]?=none:=by
   rcases zBm with h | h
   ·exact .inl (by simp;omega)
   ·exact .inr (by simp;omega)
  refine Ho (I1.ok.hd hc) st p1 lt1 p2 lt2 zDV fun h' k=>⟨rfl,?_⟩
  refine Inv.zAt (t':=s.toks) (ch:=[(I+4),(I+2),(I+3),I,(I+1)]) I1 (fun b o hbb e=>k b o (eB hbb) e) hf
 self:=fun _ _ _ _ _ st h=>vg st.z h
section
variable {X:Cx} {elts:List Expr} {x1} {zL:Pos}
abbrev oK(K:W.Frag)(ta:TA):TI:=fun σ H R=>ta σ H fun vs H1=>∃a1 a2 b1 b2,vs=[.ref a1,.ref a2]/\(∃xs,Oy K H1 a1 xs b1)/\(∃xs,Oy K H1 a2 xs b2)/\R (Zh K a1 a2 b1 b2) H1
theorem ay(K:W.Frag){e1 e2:Expr}{ta:TA}{p pos:Pos}(hg:Gl X "zip")(hm:X.mg "zip" = none)(ha:PA X [e1,e2] ta)(hK:X.K=K:=by rfl)(hs:D8 (e1::[e2]) X.env=(false,N1 e1 X.env)::D8 [e2] X.env:=by rfl)(hpl:(O3 pos (D8 [e2] X.env)).any (·.1)=false:=by rfl):PI X (.Tuple elts x1 zL) (.Call (.Name "zip" p) [e1,e2] [] pos) (oK K ta):=by
 subst hK;intro pins s σ H R I h;refine Call_ (EZ I hg hm PyProof.Rows.Boot.«zip» (K5 (Ap (ha pos pins s σ H _ I h) fun us s1 ⟨vs,H1,I1,r1,q1⟩=>?_) hs hpl));obtain⟨a1,a2,b1,b2,rfl,⟨ws1,hq1⟩,⟨ws2,hq2⟩,q⟩:=q1;obtain⟨zCl,rv1,p1,zS⟩:=I1.sqB hq1;obtain⟨xU,rv2,p2,yW⟩:=I1.sqB hq2;have rr:=r1;clear r1;cases rr with
 | cons r1 w1 =>
  cases w1 with
  | cons r2 w2 =>
   cases w2;cases r1;cases r2;refine UP p1 p2 fun h' st hsz hk=>?_
   refine vg (s:={ s1 with heap:=h' }) st.z ?_;refine⟨s1.heap.objs.size+4,[(s1.heap.objs.size+4),(s1.heap.objs.size+2),(s1.heap.objs.size+3),s1.heap.objs.size,(s1.heap.objs.size+1)],fun i h=>zR h s1.heap.objs.size a1 a2 b1 b2 i .none,Zh X.K a1 a2 b1 b2,H1,rfl,I1.kept (t':=s1.toks) hk,SZ s1.heap.objs.size a1 a2 b1 b2 zS yW,st,fun b hb=>?_,q⟩;have hb':s1.heap.objs.size<=b:=(oI (I:=s1.heap.objs.size) hb).1;exact I1.xO hb' (I1.xP.fresh hb')
end
noncomputable def sW(x:Str):It:=⟨fun i H=>∃c,x.cps[i]?=some c,fun i H v H'=>H'=H/\∃c,x.cps[i]?=some c/\v=.str ⟨#[c]⟩,fun i H=>x.cps[i]?=none⟩
section
variable {X:Cx}
abbrev rT(K:W.Frag)(tl:TE):TI:=fun σ H R=>tl σ H fun x H1=>(∃a xs,x=.ref a/\((DO K H1 a xs/\R (pU K a) H1)\/(FL K H1 a xs/\R (pz K a) H1)))\/∃z,x=.str z/\R (sW z) H1
end
section
variable {X:Cx} {p1 p2 zBZ xw:Pos} {es:List Expr} {e:Expr} {ta:TA}
abbrev NC(ta:TA):TE:=fun σ H Q=>ta σ H fun vs H1=>∃(i j:Int),(vs=[.int j]/\i=0\/vs=[.int i,.int j])/\(-(2 ^ 62)<=i/\i < 2 ^ 62/\-(2 ^ 62)<=j/\j < 2 ^ 62)/\(j - i).toNat<=1000000/\∀l,H1 l=none->Q (.ref l) (upd H1 l (.lst ((B1 (j - i).toNat).map fun k=>.int (i+(k:Nat)))))
theorem Kn{A:J5}{E:Value->A9->Prop}{pins:List (B5×Obj)}{σ:St}{H:Hp}{s:A9}{Q:VK}{i j:Int}{t u v:Tok}{tk:Nat}(hh:A.handled=none)(I:Inv X pins σ H s)(h1:-(2 ^ 62)<=i)(h2:i < 2 ^ 62)(h3:-(2 ^ 62)<=j)(h4:j < 2 ^ 62)(hl:(j - i).toNat<=1000000)
    (q:∀l,H l=none->Q (.ref l) (upd H l (.lst ((B1 (j - i).toNat).map fun k=>.int (i+(k:Nat)))))) :
    C4 (D6 X.prog X.w) A (call (.type "list") [.ref s.heap.objs.size]) (fun v s'=>∃x H',Inv X pins σ H' s'/\RelV x v/\Q x H') E { s with heap:=s.heap.push { cls:=.type "range", data:=.fields #[.int i t,.int j u,.int 1 v] },toks:=tk }:=by
  have hr:sX i j 1=((j - i).toNat:Nat):=by rw[rangeSize_one];split<;>omega
  refine call_list_range (n:=(j - i).toNat) hh (wu ..) (small_one h1 h2 h3 h4) hr (by omega) fun h' tk' acc c' hk eh zCG=>?_
  have kp:∀b o,s.heap.get? b=some o->h'.get? b=some o:=fun b o e=>hk b o (A5 _ e)
  have hsz:(s.heap.push { cls:=.type "range", data:=.fields #[.int i t,.int j u,.int 1 v] }).objs.size=s.heap.objs.size+1:=L5 ..
  have hv:AF ((B1 (j - i).toNat).map fun k=>V.int (i+(k:Nat))) acc.toList:=by
    have:∀(n m:Nat) (l:List Value),l.length=n->(∀(q:Nat) (v:Value),l[q]?=some v->∃t,v=.int (i+((m+q:Nat):Int)) t)->AF ((uG m n).map fun k=>V.int (i+(k:Nat))) l:=by
      intro n
      induction n with
      | zero=>intro m l e _;cases l with | nil=>exact .nil | cons a b=>cases e
      | succ n ih =>
        intro m l e h;cases l with
        | nil=>cases e
        | cons a b =>
          rw[vZ,B6];refine .cons ?_ (ih (m+1) b (by simpa using e) fun q v hv=>?_)
          · obtain⟨t,rfl⟩:=h 0 a rfl;exact⟨t,rfl⟩
          · obtain⟨t,rfl⟩:=h (q+1) v (by simpa using hv);exact⟨t,by rw[V0,wk 1 q]⟩
    rw[List.range_eq_range'];refine this (j - i).toNat 0 acc.toList (by simp[zCG.1]) fun q v hv=>?_
    obtain⟨t,e⟩:=zCG.2 q v (by simpa using hv);exact⟨t,by rw[e];simp⟩
  refine⟨.ref _,_,I.laid (t':=tk') kp (by rw[hsz];exact U1 _) (show Ae X.prog X.w _ h' _ (.lst ((B1 (j - i).toNat).map fun k=>.int (i+(k:Nat)))) from⟨by rw[D5,U0];exact A4 hl (show 1000000<=sizeLine by decide),acc.toList,c',hv,by rw[eh]⟩),rfl,q _ (I.xP.fresh (by rw[hsz];exact U1 _))⟩
theorem Pg(hc:X.calm=true)(hgL:Gl X "list")(hmL:X.mg "list" = none)(hgR:Gl X "range")(hmR:X.mg "range" = none)(ha:PA X (e::es) ta)
    (hs1:D8 [.Call (.Name "range" p2) (e::es) [] xw] X.env=(false,N1 (.Call (.Name "range" p2) (e::es) [] xw) X.env)::D8 [] X.env:=by rfl)
    (zEE:(O3 zBZ (D8 [] X.env)).any (·.1)=false:=by rfl)
    (hs2:D8 (e::es) X.env=(false,N1 e X.env)::D8 es X.env:=by rfl) (zED:(O3 xw (D8 es X.env)).any (·.1)=false:=by rfl) :
    PE X (.Call (.Name "list" p1) [.Call (.Name "range" p2) (e::es) [] xw] [] zBZ) (NC ta):=by
  intro pins s σ H Q I h;refine M8 (EZ I hgL hmL PyProof.Rows.Boot.«list» ?_ (by decide) (by decide));refine K5 ?_ hs1 zEE;rw[hs1]
  show C4 _ _ (spliced ((false,N1 (.Call (.Name "range" p2) (e::es) [] xw) X.env)::O3 zBZ (D8 [] X.env))) _ _ s
  refine uk ?_;refine M8 (EZ I hgR hmR wJ ?_ (by decide) (by decide));refine K5 (Ap (ha xw pins s σ H _ I h) fun us s1 ⟨vs,H1,I1,r1,q1⟩=>?_) hs2 zED;obtain⟨i,j,ev,⟨b1,b2,b3,b4⟩,hl,q⟩:=q1;rcases ev with⟨ev,rfl⟩ | ev
  · subst ev;cases r1 with
    | cons r rr =>
      cases rr;obtain⟨t,rfl⟩:=r;refine call_range_1 (n9 ?_);exact Kn (I1.ok.hd hc) I1 b1 b2 b3 b4 hl q
  · subst ev;cases r1 with
    | cons r rr =>
      cases rr with
      | cons r' rr =>
        cases rr;obtain⟨t,rfl⟩:=r;obtain⟨t',rfl⟩:=r';refine call_range_2 (n9 ?_);exact Kn (I1.ok.hd hc) I1 b1 b2 b3 b4 hl q
end
end L2
namespace R
open PySem L2
noncomputable def items:Dv->Option (List Dv)
 | .tup ds=>some ds
 | .lst ds=>some ds
 | .yO ns=>some (ns.map .int)
 | _=>none
def Rz(f:Ev Dv):Ev (List Dv):=fun R m k=>f R m fun d m'=>(items d).bind fun ds=>k ds m'
section
variable {K:W.Frag} {g:G} {H:Hp}
theorem AI{o:Nat}{i:Int}{v:V}{P:Fp}(h:Rep K g H o (.int i) v P):v=.int i:=by unfold Rep at h;exact h.1
theorem CQ{o:Nat}{i:Int}:Rep K g H o (.int i) (.int i) xM:=by unfold Rep;exact⟨rfl,fun _ z=>z⟩
theorem Zp{a:B5}{ds:List Dv}(h:Rep K g H 0 (.lst ds) (.ref a) xM):Yl K (pU K a) ds g H:=by
 intro g2 H2 st;have h2:=st.rep h;unfold Rep at h2;obtain⟨b,vs,P',e,h1,h2,_⟩:=h2;cases e;have sq:DO K H2 a vs:=.inl (.inl h1.1);refine⟨fun i d e=>?_,fun i hi=>⟨vs,sq,by rw[<- h2.len];exact hi⟩⟩;obtain⟨v,P,ev,rv,_⟩:=h2.get e;refine⟨⟨vs,v,sq,ev⟩,fun x H3 y=>?_⟩;obtain⟨rfl,y⟩:=y;have:=y vs sq;rw[ev] at this;cases this;exact Af.old rv.z
theorem fc{a:B5}{ds:List Dv}(h:Rep K g H 0 (.tup ds) (.ref a) xM):Yl K (pz K a) ds g H:=by
 intro g2 H2 st;have h2:=st.rep h;unfold Rep at h2;obtain⟨b,vs,e,h1,h2⟩:=h2;cases e;have sq:FL K H2 a vs:=.inl (.inl h1);refine⟨fun i d e=>?_,fun i hi=>⟨vs,sq,by rw[<- h2.len];exact hi⟩⟩;obtain⟨v,P,ev,rv,_⟩:=h2.get e;refine⟨⟨vs,v,sq,ev⟩,fun x H3 y=>?_⟩;obtain⟨rfl,y⟩:=y;have:=y vs sq;rw[ev] at this;cases this;exact Af.old rv.z
theorem ff{a:B5}{ns:List Int}(h:Rep K g H 0 (.yO ns) (.ref a) xM):Yl K (pU K a) (ns.map .int) g H:=by
 intro g2 H2 st;have h2:=st.rep h;unfold Rep at h2;obtain⟨⟨b,e,h1⟩,_⟩:=h2;cases e;have sq:=h1.sq;refine⟨fun i d e=>?_,fun i hi=>⟨_,sq,by rw[D5] at hi ⊢;exact hi⟩⟩;rw[C9] at e;cases q:ns[i]? with
 | none=>rw[q] at e;cases e
 | some k =>
  rw[q] at e;cases e;refine⟨⟨_,.int k,sq,by rw[C9,q];rfl⟩,fun x H3 y=>?_⟩;obtain⟨rfl,y⟩:=y;have:=y _ sq;rw[C9,q] at this;cases this;exact Af.old CQ
theorem Mx{lo:Int}{n:Nat}:Yl K (lU lo n) ((B1 n).map fun k=>.int (lo+(k:Nat))) g H:=by
 intro g2 H2 st;refine⟨fun i d e=>?_,fun i hi=>by rw[D5,U0] at hi;exact hi⟩;obtain⟨hi,rfl⟩:=FB e;refine⟨hi,fun x H3 y=>?_⟩;obtain⟨rfl,rfl⟩:=y;exact Af.old CQ
end
section
variable {X:Cx} {tg e a b:Expr} {es:List Expr} {f:Ev Dv} {p pos:Pos} {Γ Γ':Gm} {js:List Nat} {as:List Ar}
theorem oJ(h:PE X e (tE X.K Γ 0 Γ' js f)):PI X tg e (tI X.K Γ Γ' js (Rz f)):=PI.imp (iJ h) fun σ H Q q=>by
 obtain⟨g,m,P,r,R,k,res,e,q⟩:=q;refine⟨g,m,P,r,R,_,res,e,fun d m' g' P' Pv v H' hk ag s rv r1 n=>?_⟩;obtain⟨ds,e1,e2⟩:=xI hk;have s':Step g P H g' P' H':=s.less fun _ z=>.inl z
 have rz:=rv.z;cases d with
 | tup es =>
  cases e1;have h0:=rz;unfold Rep at h0;obtain⟨a,vs,rfl,h1,h2⟩:=h0;exact⟨a,vs,rfl,.inr ⟨.inl (.inl h1),q _ m' g' P' H' _ e2 ag s' r1 (fc rz)⟩⟩
 | lst es =>
  cases e1;have h0:=rz;unfold Rep at h0;obtain⟨a,vs,P1,rfl,h1,h2,_⟩:=h0;exact⟨a,vs,rfl,.inl ⟨.inl (.inl h1.1),q _ m' g' P' H' _ e2 ag s' r1 (Zp rz)⟩⟩
 | yO ns =>
  cases e1;have h0:=rz;unfold Rep at h0;obtain⟨⟨a,rfl,h1⟩,_⟩:=h0;exact⟨a,_,rfl,.inl ⟨h1.sq,q _ m' g' P' H' _ e2 ag s' r1 (ff rz)⟩⟩
 | _=>cases e1
def Zc(K:W.Frag)(p:List Dv->Option (List Dv))(r:List V->Hp->(It->Hp->Prop)->Prop):Prop:=∀g H ds vs xJ Q,Zd g H->AC K g H 0 ds vs xM->p ds=some xJ->(∀J H',Oq H H'->Yl K J xJ g H'->Q J H')->r vs H Q
def fB(p:List Dv->Option (List Dv))(fa:Ev (List Dv)):Ev (List Dv):=fun R m k=>fa R m fun ds m'=>(p ds).bind fun xJ=>k xJ m'
abbrev eV(r:List V->Hp->(It->Hp->Prop)->Prop)(ta:TA):TI:=fun σ H Q=>ta σ H fun vs H1=>r vs H1 Q
theorem aB{K:W.Frag}{pr:List Dv->Option (List Dv)}{r:List V->Hp->(It->Hp->Prop)->Prop}(hp:Zc K pr r)(c:AD Γ as Γ' js)(he:QP as=true){σ:St}{H:Hp}{Q:It->Hp->Prop}(h:tI K Γ Γ' js (fB pr (AR as)) σ H Q):eV r (BM K as) σ H Q:=by
 obtain⟨g,m,P,rl,R',k,res,e,q⟩:=h;refine AM as rl c e fun ds m' g' P' vs H1 hk ag s ar r1=>?_
 obtain⟨xJ,e1,e2⟩:=xI hk;exact hp g' H1 ds vs xJ Q r1.zd (ar.zAQ he) e1 fun J H2 sm yl=>q xJ m' g' P' H2 J e2 ag ((s.trans (Step.same sm)).less fun _ z=>z) (r1.same sm) yl
noncomputable def small(i:Int):Bool:=-1000000000<=i && i<=1000000000
theorem CV{i:Int}(h:small i=true):-1000000000<=i/\i<=1000000000:=by
 unfold small at h;rw[A2,decide_eq_true_eq,decide_eq_true_eq] at h;exact h
def DH(ds:List Dv):Option (List Dv):=match ds with
 | [.int n]=>bif small n then some ((B1 n.toNat).map fun k=>.int (0+(k:Nat))) else none
 | _=>none
def Sn(ds:List Dv):Option (List Dv):=match ds with
 | [.int i,.int n]=>bif small i && small n then some ((B1 (n - i).toNat).map fun k=>.int (i+(k:Nat))) else none
 | _=>none
def mr:List V->Hp->(It->Hp->Prop)->Prop:=fun vs H1 R=>∃j:Int,vs=[.int j]/\-(2 ^ 62)<=j/\j < 2 ^ 62/\R (lU 0 j.toNat) H1
def mq:List V->Hp->(It->Hp->Prop)->Prop:=fun vs H1 R=>∃i j:Int,vs=[.int i,.int j]/\(-(2 ^ 62)<=i/\i < 2 ^ 62/\-(2 ^ 62)<=j/\j < 2 ^ 62)/\R (lU i (j - i).toNat) H1
theorem VY{K:W.Frag}:Zc K DH mr:=fun g H ds vs xJ Q zd ra e q=>by
 unfold DH at e;split at e
 ·rename_i n;cases c:small n with
  | false=>rw[c] at e;cases e
  | true =>
   rw[c] at e;cases e;have hn:=CV c;unfold AC at ra;obtain⟨v,vr,_,_,rfl,h1,h2,_⟩:=ra;unfold AC at h2;obtain⟨rfl,_⟩:=h2;rw[AI h1];exact⟨n,rfl,by omega,by omega,q _ H (fun _ _ z=>z) Mx⟩
 ·cases e
theorem VX{K:W.Frag}:Zc K Sn mq:=fun g H ds vs xJ Q zd ra e q=>by
 unfold Sn at e;split at e
 ·rename_i i n;cases c:small i && small n with
  | false=>rw[c] at e;cases e
  | true =>
   rw[c] at e;cases e;rw[A2] at c;have hi:=CV c.1;have hn:=CV c.2;unfold AC at ra;obtain⟨v,vr,_,_,rfl,h1,h2,_⟩:=ra;unfold AC at h2;obtain⟨v2,vr2,_,_,rfl,h3,h4,_⟩:=h2;unfold AC at h4;obtain⟨rfl,_⟩:=h4;rw[AI h1,AI h3];exact⟨i,n,rfl,by omega,q _ H (fun _ _ z=>z) Mx⟩
 ·cases e
end
structure xZ:Type 1 where
 ps:List Str
 io:List Nat
 ro:Nat
 nb:Bool
 fn:List Dv->Option (Dv×List Dv)
 cps:(R:Type)->List Dv->(Dv->List Dv->Option R)->Option R
 eq:∀R ds k,cps R ds k=(fn ds).bind fun p=>k p.1 p.2
 cl:Option Str:=none
def Ov(n:Nat)(io:List Nat):Gm:=(B1 n).map fun i=>some (if io.contains i then 1 else 0)
def Bk(K:W.Frag)(g:G)(H:Hp)(io:List Nat)(bs:List Dv)(vs:List V)(P:Fp):Prop:=Rel K g H (io.map fun _=>some 1) bs (io.map fun i=>(vs[i]?).map id) P
def Mt(K:W.Frag)(s:xZ):Sp:=fun vs H Q _=>∃g ds P,Rel K g H (Ov s.ps.length s.io) ds (vs.map some) P/\∃d bs,s.fn ds=some (d,bs) /\
 ∀g' H' v Pv Pb,Step g P H g' (fun a=>Pv a\/Pb a) H'->Rep K g' H' s.ro d v Pv->Bk K g' H' s.io bs vs Pb->Bi Pv Pb->Q v H'
def PV(n:Nat)(io:List Nat):Gm:=(B1 n).map fun i=>if io.contains i then some 1 else none
def cA(n p:Nat)(io:List Nat):Gm:=Ov p io++K1 (n - p) none
section
variable {K:W.Frag} {g:G} {H:Hp}
theorem Rel.pad{Γ:Gm}{m:M}{vs:List V}{P:Fp}(h:Rel K g H Γ m (vs.map some) P)(n:Nat):Rel K g H (Γ++K1 n none) (m++K1 n .xQ) (vs.map some++K1 n none) P:=by
 obtain⟨zd,F,h1,h4⟩:=h;have old:∀{i o:Nat},(Γ++K1 n none)[i]?=some (some o)->i < Γ.length/\Γ[i]?=some (some o):=fun{i o} e=>by
  by_cases z:i < Γ.length
  ·rw[F9 z] at e;exact⟨z,e⟩
  ·rw[N5 (by omega),sf] at e;split at e<;>cases e
 refine⟨zd,F,⟨by simp[h1.l1],by have:=h1.l2;simp at this ⊢;omega,fun i o e=>?_,fun i e=>?_,h1.dj⟩,h4⟩
 ·obtain⟨hi,e⟩:=old e;obtain⟨d,v,e1,e2,r⟩:=h1.rep i o e;exact⟨d,v,by rw[F9 (by rw[h1.l1];exact hi)];exact e1,by rw[F9 (by rw[h1.l2];exact hi)];exact e2,r⟩
 ·refine h1.out i fun o z=>e o ?_
  rw[F9 (B3.mp z).1];exact z
theorem Rel.pick{Γ:Gm}{m:M}{σ:St}{P:Fp}{io:List Nat}(h:Rel K g H Γ m σ P)(nd:io.Nodup)(hl:∀i∈io,Γ[i]?=some (some 1)):∃P',Rel K g H (io.map fun _=>some 1) (io.map m.at) (io.map fun i=>(σ[i]?).join) P'/\∀a,P' a->P a:=by
 obtain⟨zd,F,h1,h4⟩:=h;refine⟨fun a=>∃j i,io[j]?=some i/\F i a,⟨zd,fun j a=>∃i,io[j]?=some i/\F i a,⟨by simp,by simp,fun j o e=>?_,fun j e a ⟨i,e',_⟩=>?_,fun j k n a ⟨i,e1,q1⟩ ⟨i',e2,q2⟩=>?_⟩,fun _=>i7⟩,fun a ⟨j,i,_,q⟩=>(h4 a).mpr ⟨i,q⟩⟩
 ·rw[C9] at e;cases ej:io[j]? with
  | none=>rw[ej] at e;cases e
  | some i =>
   rw[ej] at e;cases e;obtain⟨d,v,e1,e2,r⟩:=h1.rep i 1 (hl i (N0 ej));have eq:(fun a=>∃i',some i=some i'/\F i' a)=F i:=funext fun a=>propext ⟨fun⟨i',z,q⟩=>by cases z;exact q,fun q=>⟨i,rfl,q⟩⟩
   exact⟨d,v,by rw[C9,ej,F7,LV e1],by rw[C9,ej,F7,e2];rfl,by show Rep K g H 1 d v fun a=>∃i',some i=some i'/\F i' a;rw[eq];exact r⟩
 ·refine e 1 ?_;rw[C9,e'];rfl
 ·by_cases z:i=i'
  ·subst z;refine n ?_;have hj:=(B3.mp e1);have hk:=(B3.mp e2);exact(r9 (h₀:=hj.1) (h₁:=hk.1) nd).mp (hj.2.trans hk.2.symm)
  ·exact h1.dj i i' z a q1 q2
end
theorem oR{P:F8}{w:J0}{K:W.Frag}{mg:Str->Option Value}{base:G7}{x qual:Str}{st:M4}{f:B5}{fd:Q8}{N:List Str}{k:Nat}{s:xZ}(Fn:Fun K x qual st f fd)(S:y8 N s.ps (AL st))(nd:s.io.Nodup)(yd:∀i∈s.io,i < s.ps.length)(hn:s.ps.length<=N.length)
    {body:Es} {Γn:Option Gm} {js:List Nat} (hw:Mv (some (PV N.length s.io)) Γn=true)
    (hb:∀(xp:Value) (A:J5) (outer:List Env) (s':A9) (H:Hp) (E:XK),xW k (A.deeper (xA qual (AL st) s'.heap.objs.size f xp))->Ej (OO Qt P w K mg base N qual (AL st) f xp A outer s' H E).nox (Ab st) (tS K ⟨s.io,PV N.length s.io,s.ro⟩ none (cA N.length s.ps.length s.io) Γn js body))
    (hΦ:∀ds d bs,ds.length=s.ps.length->s.fn ds=some (d,bs)->∃(R:Type) (k:Kt R) (r:R),body R (ds++K1 (N.length - s.ps.length) .xQ) k=some r/\(∀m,k.nx m=some r->d=.xQ/\bs=s.io.map m.at)/\(∀d' m,k.rt d' m=some r->d=d'/\bs=s.io.map m.at)):xr P w K mg base Qt (k+1) f fd s.ps (Mt K s):=by
  have ll:∀n io,(Ov n io).length=n:=fun n io=>by unfold Ov;simp
  refine Fn.ok S (fun vs H Q E h=>?_) fun xp A outer s' H vs Q E hr h=>⟨_,hb xp A outer s' H E hr,?_⟩
  · obtain⟨g,ds,Pa,r,_⟩:=h;have:=r.len.2;rw[ll] at this;simpa using this
  · obtain⟨g,ds,Pa,r,d,bs,e,q⟩:=h;have l1:=r.len.1;have l2:=r.len.2;rw[ll] at l1 l2;rw[D5] at l2;have r0:Rel K g H (cA N.length s.ps.length s.io) (ds++K1 (N.length - s.ps.length) .xQ) (L2.start N vs) Pa:=by
      unfold L2.start cA;rw[l2];exact r.pad _
    have hv:∀{σ':St},Io s.io (L2.start N vs) σ'->∀i∈s.io,(σ'[i]?).join=vs[i]?:=fun{σ'} hi i hm=>by
      rw[hi i hm];unfold L2.start;have hl:i < vs.length:=by rw[l2];exact yd i hm
      rw[F9 (by simpa using hl),C9];cases vs[i]?<;>rfl
    have rg:∀i∈s.io,(PV N.length s.io)[i]?=some (some 1):=fun i hi=>by
      unfold PV;rw[C9,N9 (by have:=yd i hi;omega),F7,if_pos (C7.mpr hi)]
    obtain⟨RT,kt,rt,hb0,hnx,hrt⟩:=hΦ ds d bs l1 e;have fin:∀{d':Dv} {m':M} {g':G} {P' Pv:Fp} {σ':St} {v:V} {H':Hp},d=d'/\bs=s.io.map m'.at->Step g Pa H g' (fun a=>P' a\/Pv a) H'->Io s.io (L2.start N vs) σ'->Rep K g' H' s.ro d' v Pv->Rel K g' H' (PV N.length s.io) m' σ' P'->Bi P' Pv->Q v H':=fun{d' m' g' P' Pv σ' v H'} hk st io rv r' n=>by
      obtain⟨rfl,rfl⟩:=hk;obtain⟨Pb,hbk,sb⟩:=r'.pick nd rg;refine q g' H' v Pv Pb (st.less fun a z=>z.elim .inr fun z=>.inl (sb a z)) rv ?_ fun a z w=>n a (sb a w) z
      have e:(s.io.map fun i=>(σ'[i]?).join)=s.io.map fun i=>(vs[i]?).map id:=uV fun i hi=>by rw[hv io i hi];cases vs[i]?<;>rfl
      unfold Bk;rw[<- e];exact hbk
    refine⟨g,_,Pa,r0,RT,kt,rt,hb0,⟨fun Γ' m' g' P' σ' H' eΓ hk ag st' i' r'=>?_,fun d' m' g' P' Pv σ' v H' hk ag st' i' rv r' n=>fin (hrt d' m' hk) st' i' rv r' n,(fun _ _ _ _ _ _ z=>by cases z),fun _ _ _ _ _ _ z=>by cases z⟩⟩;subst eΓ;obtain⟨g2,P2,s2,r2⟩:=r'.weaken (by unfold Mv at hw;exact hw);exact fin (Pv:=xM) (v:=.xQ) (hnx m' hk) ((st'.trans s2).less fun _ z=>z.elim id E5) i' (by unfold Rep;exact⟨rfl,fun _ z=>z⟩) r2 fun _ _ z=>z
noncomputable def FN(as:List Ar)(i:Nat):Option Nat:=match as[i]? with | some (.rf j)=>some j | _=>none
def slots(as:List Ar)(io:List Nat):List Nat:=io.map fun i=>(FN as i).getD 0
noncomputable def TM:Ar->Bool
 | .fd _ _=>false
 | _=>true
def df(as:List Ar)(io:List Nat):Bool:=as.all TM && (B1 as.length).all fun i=>((FN as i).isSome == io.contains i) && (B1 as.length).all fun j=>i == j || (FN as i).isNone || (FN as i != FN as j)
noncomputable def JE:List Nat->List Dv->M->M
 | s::sl,b::bs,m=>JE sl bs (m.set s b)
 | _,_,m=>m
def MP(s:xZ)(as:List Ar):Ev Dv:=fun R m k=>AR as R m fun ds m1=>s.cps R ds fun d bs=>k d (JE (slots as s.io) bs m1)
theorem JD:∀(sl:List Nat) (bs:List Dv) (m:M),(JE sl bs m).length=m.length
 | [],_,_=>rfl
 | _::_,[],_=>rfl
 | s::sl,b::bs,m=>by unfold JE;rw[JD,D1]
theorem GH:∀(sl:List Nat) (bs:List Dv) (m:M) (j:Nat),j∉sl->(JE sl bs m)[j]?=m[j]?
 | [],_,_,_,_=>rfl
 | _::_,[],_,_,_=>rfl
 | s::sl,b::bs,m,j,h=>by
  unfold JE;rw[GH sl bs _ j fun z=>h (A7 _ z),D9 fun z=>h (by rw[z];exact B2)]
theorem RS:∀(sl:List Nat) (bs:List Dv) (m:M) (k j:Nat) (b:Dv),sl.Nodup->sl[k]?=some j->bs[k]?=some b->j < m.length->(JE sl bs m)[j]?=some b
 | [],_,_,k,_,_,_,h,_,_=>by simp at h
 | _::_,[],_,k,_,_,_,_,h,_=>by simp at h
 | s::sl,c::bs,m,k,j,b,nd,h1,h2,hl=>by
  unfold JE;rw[V4] at nd;cases k with
  | zero =>
   simp at h1 h2;subst h1 h2;rw[GH sl bs _ s nd.1,E8 hl]
  | succ k=>exact RS sl bs _ k j b nd.2 (by simpa using h1) (by simpa using h2) (by rw[D1];exact hl)
theorem Vx(sl:List Nat)(bs:List Dv)(m:M):Ba sl m (JE sl bs m):=⟨JD ..,fun i h=>by
 unfold M.at;rw[D7,D7,GH sl bs m i h]⟩
section
variable {K:W.Frag} {g:G} {H:Hp} {σ:St} {Γ Γ':Gm} {js:List Nat} {m:M} {P:Fp} {as:List Ar}
theorem Ac.len:∀{as:List Ar} {ds:List Dv} {vs:List V},Ac K g H Γ m σ as ds vs->ds.length=as.length/\vs.length=as.length
 | [],ds,vs,h=>by unfold Ac at h;obtain⟨rfl,rfl⟩:=h;exact⟨rfl,rfl⟩
 | .ev _ _ _ _::as,ds,vs,h=>by
  unfold Ac at h;obtain⟨d,v,yA,yk,rfl,rfl,_,h2⟩:=h;simp[h2.len.1,h2.len.2]
 | .rf i::as,ds,vs,h=>by
  unfold Ac at h;obtain⟨v,yA,yk,rfl,rfl,_,_,h3⟩:=h;simp[h3.len.1,h3.len.2]
 | .fd i _::as,ds,vs,h=>by
  unfold Ac at h;obtain⟨d,v,yA,yk,rfl,rfl,_,_,h3⟩:=h;simp[h3.len.1,h3.len.2]
theorem Ac.get:∀{as:List Ar} {ds:List Dv} {vs:List V} {i:Nat},as.all TM=true->Ac K g H Γ m σ as ds vs->i < as.length->∃d v,ds[i]?=some d/\vs[i]?=some v/\((∃j,FN as i=some j/\d=m.at j/\σ[j]?=some (some v))\/(FN as i=none/\Rep K g H 0 d v xM))
 | [],_,_,i,_,_,h=>by simp at h
 | .fd _ _::as,ds,vs,i,nf,h,hi=>by simp[TM] at nf
 | .ev _ _ _ f::as,ds,vs,i,nf,h,hi=>by
  unfold Ac at h;obtain⟨d,v,yA,yk,rfl,rfl,h1,h2⟩:=h;cases i with
  | zero=>exact⟨d,v,rfl,rfl,.inr ⟨rfl,h1⟩⟩
  | succ i =>
   obtain⟨d,v,e1,e2,z⟩:=h2.get (i:=i) (by simpa[TM] using nf) (by simpa using hi);exact⟨d,v,by simpa using e1,by simpa using e2,z⟩
 | .rf j::as,ds,vs,i,nf,h,hi=>by
  unfold Ac at h;obtain⟨v,yA,yk,rfl,rfl,h1,_,h3⟩:=h;cases i with
  | zero=>exact⟨_,v,rfl,rfl,.inl ⟨j,rfl,rfl,h1⟩⟩
  | succ i =>
   obtain⟨d,v,e1,e2,z⟩:=h3.get (i:=i) (by simpa[TM] using nf) (by simpa using hi);exact⟨d,v,by simpa using e1,by simpa using e2,z⟩
theorem GD{i j:Nat}(h:FN as i=some j):i < as.length:=by
 unfold FN at h;cases e:as[i]? with
 | none=>rw[e] at h;cases h
 | some a=>exact(B3.mp e).1
theorem gQ{io:List Nat}(h:df as io=true):(∀i,i < as.length->((FN as i).isSome=true↔i∈io))/\∀i i' j,FN as i=some j->FN as i'=some j->i=i':=by
 unfold df at h;rw[A2] at h;replace h:=h.2;rw[F0] at h;refine⟨fun i hi=>?_,fun i i' j e e'=>?_⟩
 ·have:=h i (O2.mpr hi);rw[A2,beq_iff_eq] at this;rw[this.1,C7]
 ·have:=h i (O2.mpr (GD e));rw[A2,F0] at this;have:=this.2 i' (O2.mpr (GD e'));rw[e,e'] at this;simp at this;exact this
theorem UX{s:xZ}{g1:G}{H1:Hp}{m1:M}{P1:Fp}{ds:List Dv}{vs:List V}{d:Dv}{bs:List Dv}(hs:df as s.io=true)(hn:as.length=s.ps.length)(nd:s.io.Nodup)(yd:∀i∈s.io,i < s.ps.length)(hl:∀i∈slots as s.io,Γ'[i]?=some (some 1)){Q:VK}
    (r1:Rel K g1 H1 Γ' m1 σ P1) (ar:Ac K g1 H1 Γ' m1 σ as ds vs) (e1:s.fn ds=some (d,bs))
    (q:∀g2 P2 Pv v H2,Step g1 P1 H1 g2 (fun a=>P2 a\/Pv a) H2->Rep K g2 H2 s.ro d v Pv->Rel K g2 H2 Γ' (JE (slots as s.io) bs m1) σ P2->Bi P2 Pv->Q v H2):Mt K s vs H1 Q E0:=by
  obtain⟨hs1,hs2⟩:=gQ hs;have nf:as.all TM=true:=by unfold df at hs;rw[A2] at hs;exact hs.1
  have r1':=r1;obtain⟨zd,F,h1,h4⟩:=r1'
  -- the slots,one by one
  have sl:∀{i j:Nat},FN as i=some j->i∈s.io/\j∈slots as s.io:=fun{i j} e=>by
    have hi:=(hs1 i (GD e)).mp (by rw[e];rfl);exact⟨hi,M6.mpr ⟨i,hi,by rw[e];rfl⟩⟩
  have sl2:∀{i:Nat},i∈s.io->∃j,FN as i=some j:=fun{i} hi=>S1.mp ((hs1 i (by rw[hn];exact yd i hi)).mpr hi)
  have ndS:(slots as s.io).Nodup:=by
    unfold slots;rw[l5,List.pairwise_map];refine(l5.mp nd).imp_of_mem fun{a b} ha hb n z=>?_
    obtain⟨ja,ea⟩:=sl2 ha;obtain⟨jb,eb⟩:=sl2 hb;rw[ea,eb] at z;simp only[vY] at z;subst z;exact n (hs2 a b ja ea eb)
  let Fa:Nat->Fp:=fun i a=>∃j,FN as i=some j/\F j a
  have al:=ar.len;have rA:Rel K g1 H1 (Ov s.ps.length s.io) ds (vs.map some) fun a=>∃i,Fa i a:=by
    refine⟨zd,Fa,⟨by unfold Ov;simp;rw[al.1,hn],by unfold Ov;simp;rw[al.2,hn],fun i o ei=>?_,fun i ei a ⟨j,ej,_⟩=>?_,fun i i' n a ⟨j,ej,z⟩ ⟨j',ej',z'⟩=>?_⟩,fun _=>i7⟩
    · obtain⟨hi,eo⟩:=FB ei;obtain⟨d',v,d1,d2,z⟩:=ar.get (i:=i) nf (by rw[hn];exact hi);refine⟨d',v,d1,by rw[C9,d2];rfl,?_⟩;rcases z with⟨j,ej,rfl,hv⟩ | ⟨ej,z⟩
      · have:o=1:=by
          have:=D0 eo;rw[if_pos (C7.mpr (sl ej).1)] at this;exact this
        subst this;obtain⟨d3,v3,e3,e4,r3⟩:=h1.rep j 1 (hl j (sl ej).2);rw[hv] at e4;cases e4;have eq:Fa i=F j:=funext fun a=>propext ⟨fun⟨j',z,q⟩=>by rw[ej] at z;cases z;exact q,fun q=>⟨j,ej,q⟩⟩
        rw[LV e3,eq];exact r3
      · have:o=0:=by
          have:=D0 eo;rw[if_neg fun w=>?_] at this
          · exact this
          · obtain⟨j,w⟩:=sl2 (C7.mp w);rw[ej] at w;cases w
        subst this;have eq:Fa i=xM:=FF fun a ⟨j,w,_⟩=>by rw[ej] at w;cases w
        rw[eq];exact z
    · refine ei (if s.io.contains i then 1 else 0) ?_;unfold Ov;rw[C9,N9 (by rw[<- hn];exact GD ej)];rfl
    · by_cases w:j=j'
      · subst w;exact n (hs2 i i' j ej ej')
      · exact h1.dj j j' w a z z'
  let Fr:Nat->Fp:=fun j a=>j∉slots as s.io/\F j a
  have rr:Rel K g1 H1 (Ox (slots as s.io) Γ') m1 σ fun a=>∃j,Fr j a:=by
    refine⟨zd,Fr,⟨by unfold Ox;simp;exact h1.l1,by unfold Ox;simp;exact h1.l2,fun j o ej=>?_,fun j ej a ⟨n,z⟩=>?_,fun i j n a q z=>h1.dj i j n a q.2 z.2⟩,fun _=>i7⟩
    · obtain⟨nj,ej⟩:=Dw ej;obtain⟨d',v,d1,d2,z⟩:=h1.rep j o ej;have eq:Fr j=F j:=funext fun a=>propext ⟨fun w=>w.2,fun w=>⟨nj,w⟩⟩
      exact⟨d',v,d1,d2,by rw[eq];exact z⟩
    · refine h1.out j (fun o w=>ej o ?_) a z;unfold Ox;have hj:=(B3.mp w).1;rw[C9,N9 hj,F7,if_neg (fun q=>n (C7.mp q)),D7,w];rfl
  have dA:Bi (fun a=>∃j,Fr j a) fun a=>∃i,Fa i a:=fun a ⟨j,nj,z⟩ ⟨i,j',ej,z'⟩=>by
    by_cases w:j=j'
    · subst w;exact nj (sl ej).2
    · exact h1.dj j j' w a z z'
  have okA:xS g1 H1 fun a=>∃i,Fa i a:=rA.xO
  refine⟨g1,ds,_,rA,d,bs,e1,fun g2 H2 v Pv Pb s2 rv hb n=>?_⟩;have rr2:=rr.held s2 okA dA;have dB:Bi (fun a=>∃j,Fr j a) fun a=>Pv a\/Pb a:=s2.out rr.xO dA
  obtain⟨zd2,Fq,q1,q4⟩:=rr2;obtain⟨zb,Fb,b1,b4⟩:=hb;have lb:bs.length=s.io.length:=by have:=b1.l1;simpa using this
  have fq:∀{a:B5},(∃j,Fr j a)↔∃j,Fq j a:=fun{a}=>q4 a
  let Fz:Nat->Fp:=fun j a=>(∃k,(slots as s.io)[k]?=some j/\Fb k a)\/Fq j a
  have nq:∀j∈slots as s.io,∀a,¬Fq j a:=fun j hj=>q1.out j fun o w=>(Dw w).1 hj
  have rz:Rel K g2 H2 Γ' (JE (slots as s.io) bs m1) σ fun a=>∃j,Fz j a:=by
    refine⟨zd2,Fz,⟨by rw[JD];exact h1.l1,h1.l2,fun j o ej=>?_,fun j ej a z=>?_,fun i j n' a z w=>?_⟩,fun _=>i7⟩
    · have hjl:j < m1.length:=by rw[h1.l1];exact(B3.mp ej).1
      by_cases hj:j∈slots as s.io
      · obtain⟨kk,hk1⟩:=Z3 hj;have hkk:kk < s.io.length:=by have:=(B3.mp hk1).1;unfold slots at this;simpa using this
        rw[hl j hj] at ej;cases ej;obtain⟨b,u,c1,c2,c3⟩:=b1.rep kk 1 (by rw[C9,A3 hkk];rfl);have ei:(slots as s.io)[kk]?=some ((FN as s.io[kk]).getD 0):=by unfold slots;rw[C9,A3 hkk];rfl
        obtain⟨jj,ejj⟩:=sl2 (G2 hkk);rw[hk1,ejj] at ei;have zER:j=jj:=D0 ei;subst zER;obtain⟨d3,v3,d1,d2,z3⟩:=ar.get (i:=s.io[kk]) nf (GD ejj);rw[C9,A3 hkk,F7,d2] at c2;have eu:u=v3:=by simpa using c2.symm
        subst eu;have hv:σ[j]?=some (some u):=by
          rcases z3 with⟨j2,e2',_,z3⟩ | ⟨e2',_⟩
          · rw[ejj] at e2';cases e2';exact z3
          · rw[ejj] at e2';cases e2'
        have eq:Fz j=Fb kk:=funext fun a=>propext ⟨fun w=>w.elim (fun⟨k',h',w⟩=>by
            have h1':=B3.mp hk1;have h2':=B3.mp h';have:k'=kk:=(r9 (h₀:=h2'.1) (h₁:=h1'.1) ndS).mp (h2'.2.trans h1'.2.symm);exact this▸w) fun w=>(nq j hj a w).elim,fun w=>.inl ⟨kk,hk1,w⟩⟩
        exact⟨b,u,RS _ bs m1 kk j b ndS hk1 c1 hjl,hv,by rw[eq];exact c3⟩
      · have ej':(Ox (slots as s.io) Γ')[j]?=some (some o):=by
          unfold Ox;rw[C9,N9 (B3.mp ej).1,F7,if_neg (fun w=>hj (C7.mp w)),D7,ej];rfl
        obtain⟨d3,v3,d1,d2,r3⟩:=q1.rep j o ej';have eq:Fz j=Fq j:=funext fun a=>propext ⟨fun w=>w.elim (fun⟨k',h',_⟩=>(hj (N0 h')).elim) id,.inr⟩
        exact⟨d3,v3,by rw[GH _ _ _ _ hj];exact d1,d2,by rw[eq];exact r3⟩
    · rcases z with⟨k',h',z⟩ | z
      · exact ej 1 (hl j (N0 h'))
      · refine q1.out j (fun o w=>ej o (Dw w).2) a z
    · rcases z with⟨k1,h1',z⟩ | z
      · rcases w with⟨k2,h2',w⟩ | w
        · by_cases kk:k1=k2
          · subst kk;rw[h1'] at h2';exact n' (D0 h2')
          · exact b1.dj k1 k2 kk a z w
        · exact dB a (fq.mpr ⟨j,w⟩) (.inr ((b4 a).mpr ⟨k1,z⟩))
      · rcases w with⟨k2,h2',w⟩ | w
        · exact dB a (fq.mpr ⟨i,z⟩) (.inr ((b4 a).mpr ⟨k2,w⟩))
        · exact q1.dj i j n' a z w
  refine q g2 _ Pv v H2 ((s2.frame (R:=fun a=>∃j,Fr j a)).sub (fun a z=>?_) fun a z=>?_) rv rz fun a z w=>?_
  · rcases z with⟨i,j,_,z⟩ | ⟨j,_,z⟩
    · exact(h4 a).mpr ⟨j,z⟩
    · exact(h4 a).mpr ⟨j,z⟩
  · rcases z with⟨j,z⟩ | z
    · rcases z with⟨k',_,z⟩ | z
      · exact .inl (.inr ((b4 a).mpr ⟨k',z⟩))
      · exact .inr (fq.mpr ⟨j,z⟩)
    · exact .inl (.inl z)
  · obtain⟨j,z⟩:=z;rcases z with⟨k',_,z⟩ | z
    · exact n a w ((b4 a).mpr ⟨k',z⟩)
    · exact dB a (fq.mpr ⟨j,z⟩) (.inl w)
theorem OY{s:xZ}(c:AD Γ as Γ' js)(hs:df as s.io=true)(hn:as.length=s.ps.length)(nd:s.io.Nodup)(yd:∀i∈s.io,i < s.ps.length)(hl:∀i∈slots as s.io,Γ'[i]?=some (some 1)){Q:VK}
    (h:tE K Γ s.ro Γ' (js++slots as s.io) (MP s as) σ H Q):BM K as σ H fun vs H1=>Mt K s vs H1 Q E0:=by
  obtain⟨g,m,P,r,R,k,res,e,q⟩:=h;refine AM as r c e fun ds m1 g1 P1 vs H1 hk ag st ar r1=>?_
  rw[s.eq] at hk;obtain⟨⟨d,bs⟩,e1,e2⟩:=xI hk;exact UX hs hn nd yd hl r1 ar e1 fun g2 P2 Pv v H2 st2 rv rz n=>q d _ g2 P2 Pv v H2 e2 (ag.trans (Vx _ bs m1)) (st.trans st2) rv rz n
mutual
noncomputable def TL:Dv->Bool
 | .xQ | .bl _ | .int _ | .str _=>true
 | .tup ds=>Pn ds
 | _=>false
noncomputable def Pn:List Dv->Bool
 | []=>true
 | d::ds=>TL d && Pn ds
end
mutual
theorem MD{g':G}:∀{o o':Nat} {d:Dv} {v:V} {Pv:Fp},Rep K g' H o d v Pv->TL d=true->Rep K g H o' d v xM
 | _,_,.xQ,_,_,h,_ | _,_,.bl _,_,_,h,_ | _,_,.int _,_,_,h,_ | _,_,.str _,_,_,h,_=>by unfold Rep at h ⊢;exact⟨h.1,fun _ z=>z⟩
 | _,_,.tup ds,v,_,h,e=>by
  unfold Rep at h ⊢;obtain⟨a,vs,e1,h1,h2⟩:=h;unfold TL at e;exact⟨a,vs,e1,h1,Ni h2 e⟩
 | _,_,.lst _,_,_,_,e | _,_,.yR _ _,_,_,_,e | _,_,.ref _,_,_,_,e | _,_,.yO _,_,_,_,e | _,_,.ty _,_,_,_,e | _,_,.mtp _,_,_,_,e | _,_,.dtt _ _,_,_,_,e | _,_,.zo _ _,_,_,_,e | _,_,.obj _ _ _ _,_,_,_,e=>by unfold TL at e;cases e
theorem Ni{g':G}:∀{o o':Nat} {ds:List Dv} {vs:List V} {Pv:Fp},AC K g' H o ds vs Pv->Pn ds=true->AC K g H o' ds vs xM
 | _,_,[],_,_,h,_=>by unfold AC at h ⊢;exact⟨h.1,fun _ z=>z⟩
 | _,_,d::ds,_,_,h,e=>by
  unfold AC at h ⊢;obtain⟨v,r,P1,P2,e1,h1,h2,_,_⟩:=h;unfold Pn at e;rw[A2] at e;exact⟨v,r,xM,xM,e1,MD h1 e.1,Ni h2 e.2,fun _ z=>z.elim,fun a=>⟨fun z=>z.elim,fun z=>z.elim id id⟩⟩
end
theorem Ac.fz(r:Rel K g H Γ m σ P):∀{as:List Ar} {ds:List Dv} {vs:List V},Ac K g H Γ m σ as ds vs->AC K (g.add P) H 0 ds vs xM
 | [],ds,vs,h=>by unfold Ac at h;obtain⟨rfl,rfl⟩:=h;exact AC.nil
 | .ev _ _ _ f::as,ds,vs,h=>by
  unfold Ac at h;obtain⟨d,v,yA,yk,rfl,rfl,h1,h2⟩:=h;exact(AC.cons (h1.freeze (P:=P) fun _ z=>z.elim) (Ac.fz r h2) fun _ z=>z.elim).iff fun a=>⟨fun z=>z.elim,fun z=>z.elim id id⟩
 | .rf i::as,ds,vs,h=>by
  unfold Ac at h;obtain⟨v,yA,yk,rfl,rfl,h1,⟨o,_,ho⟩,h3⟩:=h;obtain⟨v',P1,e,k,sb⟩:=r.z7 ho;rw[h1] at e;cases e;exact(AC.cons (k.freeze (P:=P) sb) (Ac.fz r h3) fun _ z=>z.elim).iff fun a=>⟨fun z=>z.elim,fun z=>z.elim id id⟩
 | .fd i f::as,ds,vs,h=>by
  unfold Ac at h;obtain⟨d,v,yA,yk,rfl,rfl,⟨h1,a,C,dx,fs,hv,ha,hlk⟩,⟨o,hl,ho⟩,h3⟩:=h;obtain⟨v',P1,e,k,sb⟩:=r.z7 ho;rw[hv] at e;cases e;obtain⟨a',C',dx',fs',w,Q1,Q2,ea,h1',_,_,zu,yH,_,hP,_⟩:=Dp k h1;cases ea;rw[ha] at h1';cases h1';rw[hlk] at zu;cases zu;exact(AC.cons (yH.freeze (P:=P) fun b z=>sb b ((hP b).mpr (.inl z))) (Ac.fz r h3) fun _ z=>z.elim).iff fun a=>⟨fun z=>z.elim,fun z=>z.elim id id⟩
theorem bf{n:Nat}{ds:List Dv}{vs:List V}(zd:Zd g H)(h:AC K g H 0 ds vs xM)(hn:ds.length=n):Rel K g H (Ov n []) ds (vs.map some) xM:=by
 refine⟨zd,fun _=>xM,⟨by unfold Ov;simp[hn],by unfold Ov;simp[<- hn,h.len],fun i o e=>?_,fun i e a z=>z,fun i j n a z=>z.elim⟩,fun a=>⟨fun z=>z.elim,fun⟨i,z⟩=>z⟩⟩;obtain⟨hi,e⟩:=FB e;have eo:o=0:=(D0 e);subst eo;obtain⟨v,_,ev,rv,_⟩:=h.get (A3 (by omega:i < ds.length));exact⟨_,v,A3 (by omega),by rw[C9,ev];rfl,rv.z⟩
def MO(s:xZ)(as:List Ar):Ev Dv:=fun R m k=>AR as R m fun ds m1=>s.cps R ds fun d _=>bif TL d then k d m1 else none
theorem UO{s:xZ}(c:AD Γ as Γ' js)(hs:s.io=[])(hn:as.length=s.ps.length){Q:VK}(h:tE K Γ 1 Γ' js (MO s as) σ H Q):BM K as σ H fun vs H1=>Mt K s vs H1 Q E0:=by
 obtain⟨g,m,P,r,R,k,res,e,q⟩:=h;refine AM as r c e fun ds m1 g1 P1 vs H1 hk ag st ar r1=>?_
 rw[s.eq] at hk;obtain⟨⟨d,bs⟩,e1,e2⟩:=xI hk;cases c:TL d with
 | false=>simp only[c,cond_false] at e2;cases e2
 | true =>
  simp only[c,cond_true] at e2;have fs:Step g1 P1 H1 (g1.add P1) xM H1:=Step.freeze r1.xO;refine⟨g1.add P1,ds,xM,by rw[hs];exact bf (fs.zd r1.zd) (ar.fz r1) (ar.len.1.trans hn),d,bs,e1,fun g' H' v Pv Pb s2 rv _ _=>?_⟩;have sm:Oq H1 H':=fun b o hb=>s2.keep b o hb fun z=>z
  exact q d m1 g1 P1 xM v H' e2 ag ((st.trans (Step.same sm)).less fun _ z=>z.elim id E5) (MD rv c) (r1.same sm) fun _ _ z=>z
end
end R
namespace L2
open PySem PySem.Spec PyProof.Rows
variable {H:Hp}
section
variable {X:Cx} {pins:List (B5×Obj)} {σ:St} {H:Hp} {s:A9} {a:B5}
theorem Uv{a:B5}{o:HO}(e:H a=some o)(o':HO):upd (upd H a o') a o=H:=by
 funext b
 by_cases h:b=a
 ·subst h;rw[AH,e]
 ·rw[AG h,AG h]
theorem Inv.reT(I:Inv X pins σ H s)(e:H a=some (.dK [])):Inv X pins σ (upd H a (.dT [])) s:=by
 obtain⟨_,hd,vs,rel,o,es,ep,h1,h2,h3,_,h4,_⟩:=YH I.xP e;cases rel;have h4:es.toList=[]:=by generalize es.toList=l at h4;cases h4;rfl
 exact Dt (t':=s.toks) (h':=s.heap) I (by rw[e];exact True.intro) ⟨rfl,fun _ _=>rfl⟩ ⟨o,h1⟩ ⟨G5 _,hd,[],.nil,o,es,ep,h1,h2,h3,h4,.nil⟩
theorem Inv.reK(I:Inv X pins σ (upd H a (.dT [])) s)(e:H a=some (.dK [])):Inv X pins σ H s:=by
 obtain⟨_,hd,xs,rel,o,es,ep,h1,h2,h3,h4,_⟩:=fK I.xP (AH (H:=H));cases rel;have h4:es.toList=[]:=h4;have:=Dt (t':=s.toks) (h':=s.heap) (ob:=.dK []) I (by rw[AH];exact True.intro) ⟨rfl,fun _ _=>rfl⟩ ⟨o,h1⟩ ⟨G5 _,hd,[],.nil,o,es,ep,h1,h2,h3,fun x hx=>(by rw[<- Z1,h4] at hx;cases hx),(by rw[h4];exact .nil),.nil⟩;rw[Uv e] at this;exact this
end
def pW(H:Hp)(a:B5)(y:V)(r:Option V):Prop:=GZ H a y r\/(r=none/\H a=some (.dK [])/\∃(k:List Ak) (b:B5),y=.ref b/\H b=some (.tup (k.map kV)))
def pV(H:Hp)(a:B5)(y v:V)(H':Hp):Prop:=Ot H a y v H'\/(H a=some (.dK [])/\∃(k:List Ak) (b:B5),y=.ref b/\H b=some (.tup (k.map kV))/\H'=upd H a (.dT [(k,v)]))
theorem PH{a b:B5}{k:List V}(e:H a=some (.dK []))(eb:H b=some (.tup k))(o:HO):upd H a o b=some (.tup k):=by
 rw[AG fun z=>by subst z;rw[e] at eb;cases eb];exact eb
section
variable {X:Cx}
def rR:R2:=fun x y H Q=>∃a v,x=.ref a/\GZ H a y (some v)/\Q v H
theorem oF(hu:X.A.units+1 < K6):SU X rR:=by
 intro value slice pins s σ H x y v u Q I rx ry h hs;obtain⟨a,z,rfl,g,q⟩:=h;obtain rfl:v=E3 a:=rx;have hT:=OK I g;have h2:=UF (Q:=EP X pins σ Q) (E:=X.xe) (A:=X.A) hu I g ry fun w' s3 I3 yH=>⟨z,H,I3,yH,q⟩
 unfold Y9;refine A1 ?_;rw[tj hT.not_modules];refine A1 (R4 hT l9.lookup ?_);have fin:C4 (D6 X.prog X.w) X.A (o5 slice false (.ref a) u) (fun r yp=>C4 (D6 X.prog X.w) X.A (letTemporaryGo value (.ref a) r >>= fun _=>pure r) (EP X pins σ Q) X.xe yp) X.xe s:=by
  rw[hs];exact v8 (R9 h2 (fun r yp zAL=>A1 (uI (A6 zAL))) fun _ _ x=>x)
 first
  | exact A6 (A1 fin)
  | exact A1 (A6 (A1 fin))
  | exact A1 fin
def rQ:KH:=fun o i v H Q=>∃a H',o=.ref a/\pV H a i v H'/\Q H'
theorem gT(hu:X.A.units+1 < K6):KL X rQ:=by
 intro pins s σ H o i v ov iv u Q I ro ri rv h;obtain⟨a,H',rfl,g,q⟩:=h;obtain rfl:ov=E3 a:=ro;rcases g with g | ⟨e,k,b,rfl,eb,rfl⟩
 ·exact LK hu I g ri rv fun s4 I4=>⟨H',I4,q⟩
 ·refine LK hu (I.reT e) (Ot.t AH (PH e eb _) (by decide)) ri rv fun s4 I4=>⟨upd H a (.dT [(k,v)]),?_,q⟩
  have:upd (upd H a (.dT [])) a (.dT (DJ [] k v))=upd H a (.dT [(k,v)]):=by
   funext c
   by_cases h:c=a
   ·subst h;rw[AH,AH];rfl
   ·rw[AG h,AG h,AG h]
  rw[this] at I4;exact I4
theorem KL.or{t t':KH}(h:KL X t)(h':KL X t'):KL X (fun o i v H Q=>t o i v H Q\/t' o i v H Q):=by
 intro pins s σ H o i v ov iv u Q I ro ri rv q;rcases q with q | q
 ·exact h pins s σ H o i v ov iv u Q I ro ri rv q
 ·exact h' pins s σ H o i v ov iv u Q I ro ri rv q
def gq(neg:Bool):R2:=fun y x H Q=>∃a o,x=.ref a/\pW H a y o/\Q (.bl (if neg then !o.isSome else o.isSome)) H
theorem ij(hu:X.A.units+1 < K6):Ct X (G4 .In) (gq false):=by
 intro pins s σ H y x u v Q I ry rx h;obtain⟨a,o,rfl,g,q⟩:=h;obtain rfl:v=E3 a:=rx;rcases g with g | ⟨rfl,e,k,b,rfl,eb⟩
 ·exact om hu I g ry fun s3 I3=>⟨.bl o.isSome,H,I3,rfl,q⟩
 ·exact om hu (I.reT e) (GZ.t AH (PH e eb _)) ry fun s3 I3=>⟨.bl false,H,I3.reK e,rfl,q⟩
theorem bN(hu:X.A.units+1 < K6):Ct X (G4 .NotIn) (gq true):=by
 intro pins s σ H y x u v Q I ry rx h;obtain⟨a,o,rfl,g,q⟩:=h;obtain rfl:v=E3 a:=rx;rcases g with g | ⟨rfl,e,k,b,rfl,eb⟩
 ·exact SD hu I g ry fun s3 I3=>⟨.bl (!o.isSome),H,I3,rfl,q⟩
 ·exact SD hu (I.reT e) (GZ.t AH (PH e eb _)) ry fun s3 I3=>⟨.bl true,H,I3.reK e,rfl,q⟩
def dh:List V->Hp->VK->Prop:=fun xs H Q=>∃a xK,xs=[V.ref a]/\H a=some (.dK xK)/\Q (.int xK.length) H
theorem Qd:BI X (.builtin "len") dh:=UT
end
abbrev KN(H:Hp):List (NK Ak×V)->List (NK Ak×B5×Value)->Prop:=Paired fun p q=>p.1=q.1/\Oz H p.1 q.2.1/\RelV p.2 q.2.2
variable {xK:List (NK Ak×V)} {xs:List (NK Ak×B5×Value)}
theorem KN.val(r:KN H xK xs)(k:NK Ak):ED (Cu xK k) ((Z2 xs k).map (·.2)):=by
 induction r with
 | nil=>exact True.intro
 | @cons p q ps qs h t ih =>
  obtain⟨h1,_,h2⟩:=h
  by_cases e:p.1=k
  ·have e':q.1=k:=h1.symm.trans e;have b:Z2 (q::qs) k=some q.2:=by simp[Z2,P8,e']
   rw[DR e,b];exact h2
  ·have e':¬q.1=k:=fun z=>e (h1.trans z)
   have b:Z2 (q::qs) k=Z2 qs k:=by simp[Z2,P8,e']
   rw[DS e,b];exact ih
theorem KN.zBX(r:KN H xK xs)(k:NK Ak){y:V}{u:Value}(ry:RelV y u) :
    KN H (xK.map fun kv=>if kv.1=k then(kv.1,y) else kv) (xs.map (putAt k u)):=by
  induction r with
  | nil=>exact .nil
  | @cons p q ps qs h t ih =>
    rw[B6,B6];refine .cons ?_ ih;obtain⟨h1,h2,h3⟩:=h;unfold putAt
    by_cases e:p.1=k
    · rw[if_pos e,if_pos (h1.symm.trans e)];exact⟨h1,h2,ry⟩
    · rw[if_neg e,if_neg (fun z=>e (h1.trans z))];exact⟨h1,h2,h3⟩
theorem KN.put(r:KN H xK xs)(k:NK Ak){b:B5}{y:V}{u:Value}(hb:Oz H k b)(ry:RelV y u) :
    KN H (DJ xK k y) (wj xs k b u):=by
  have e:(xK.any fun kv=>decide (kv.1=k))=(Z2 xs k).isSome:=by
    rw[IT,(r.val k).xc,R7]
  unfold DJ wj;rw[e]
  by_cases q:(Z2 xs k).isSome=true
  · rw[if_pos q,if_pos q];exact r.zBX k ry
  · rw[if_neg q,if_neg q];exact Paired.snoc r ⟨rfl,hb,ry⟩
theorem KN.keeps{H':Hp}(r:KN H xK xs)(ht:∀b ys,H b=some (.tup ys)->H' b=some (.tup ys)):KN H' xK xs:=
 Paired.zBa r fun _ _ z=>⟨z.1,z.2.1.keeps ht,z.2.2⟩
section
variable {P:F8} {w:J0} {H:Hp} {h:G7} {a:B5}
theorem QH(ok:FM P w H h):∀{k:NK Ak} {vs:List V} {xJ:List Value},Zn H k vs->AF vs xJ->zA (AW P w) h k xJ
 | [],_,xJ,e,r=>by
  have e:_=[]:=e;subst e;cases r;exact .nil
 | .inl k::ks,_,xJ,⟨r0,e,n⟩,r=>by
  subst e;cases r with
  | cons r1 r2=>exact .sc (Ky r1) (QH ok n r2)
 | .inr t::ks,_,xJ,⟨c,r0,e,h1,n⟩,r=>by
  subst e;cases r with
  | cons r1 r2 =>
   cases(show _=E3 c from r1);exact .tp (HP ok h1) (QH ok n r2)
theorem GN{k:NK Ak}(ok:FM P w H h)(e:Oz H k a):(CF (AW P w) (BZ P w)).is h k a:=by
 obtain⟨vs,e,n⟩:=e;obtain⟨_,xJ,r,o,h1,h2,_,nn,h3⟩:=(show Ae P w H h a (.tup vs) from ok a _ e);exact⟨o,xJ.toArray,nn,h1,h2,h3,by simpa using QH ok n r⟩
theorem LI(ok:FM P w H h)(e:H a=some (.dN xK)):xK.length<=sizeLine/\(a == Q7)=false /\
    ∃xs,KN H xK xs/\h.DictOfH (CF (AW P w) (BZ P w)) a xs:=by
  obtain⟨z,y,xs,r,o,es,ep,h1,h2,h3,h4,h5⟩:=(show Ae P w H h a (.dN xK) from ok a _ e);refine⟨z,y,xs,r,o,es,ep,h1,h2,h3,h4,fun x hx=>?_,h5⟩;have all:∀{l:List (NK Ak×V)} {m:List (NK Ak×B5×Value)},KN H l m->∀x∈m,(CF (AW P w) (BZ P w)).is h x.1 x.2.1:=by
    intro l m q
    induction q with
    | nil=>intro x hx;exact nomatch hx
    | @cons p q ps qs hq t ih =>
      intro x hx;rcases B9.mp hx with e | hx
      · subst e;exact GN ok (by rw[<- hq.1];exact hq.2.1)
      · exact ih x hx
  exact all r x hx
end
section
variable {X:Cx} {pins:List (B5×Obj)} {σ:St} {H:Hp} {s:A9} {a b:B5} {v:V} {r:Value} {xK:List (NK Ak×V)} {k:NK Ak} {A:J5} {E:Value->A9->Prop}
theorem TN{Q:Value->A9->Prop}(hu:A.units+2 < K6)(I:Inv X pins σ H s)(e:H a=some (.dN xK))(eb:Oz H k b)(l:Cu xK k=some v)(h:∀w' s',Inv X pins σ H s'->RelV v w'->Q w' s') :
    C4 (D6 X.prog X.w) A (Y8 (.ref a) (.ref b)) Q E s:=by
  obtain⟨z,hd,xs,rel,dd⟩:=LI I.xP e;obtain⟨w',hw,yH⟩:=ED.some_of (v:=v) (o:=(Z2 xs k).map (·.2)) (by rw[<- l];exact rel.val k);obtain⟨p,hp,hp2⟩:=E6.mp hw;refine uu (knd:=CF (AW X.prog X.w) (BZ X.prog X.w)) (show A.in1.units+1 < K6 by show A.units+1+1 < K6;omega) (GN I.xP eb) dd hp ?_;rw[hp2];exact h w' _ (I.tok _) yH
theorem nz{Q:Value->A9->Prop}(hu:A.units+2 < K6)(I:Inv X pins σ H s)(e:H a=some (.dN xK))(eb:Oz H k b)(h:∀s',Inv X pins σ H s'->Q (.bool (Cu xK k).isSome) s') :
    C4 (D6 X.prog X.w) A (G4 .In (.ref b) (.ref a)) Q E s:=by
  obtain⟨z,hd,xs,rel,dd⟩:=LI I.xP e;refine wpAny_in_heap (knd:=CF (AW X.prog X.w) (BZ X.prog X.w)) (show A.in1.units+1 < K6 by show A.units+1+1 < K6;omega) (GN I.xP eb) hd dd ?_;have q:=(rel.val k).xc;rw[R7] at q;rw[<- q];exact h _ (I.tok _)
theorem RZ{Q:Value->A9->Prop}(hu:A.units+2 < K6)(I:Inv X pins σ H s)(e:H a=some (.dN xK))(eb:Oz H k b)(h:∀s',Inv X pins σ H s'->Q (.bool (!(Cu xK k).isSome)) s') :
    C4 (D6 X.prog X.w) A (G4 .NotIn (.ref b) (.ref a)) Q E s:=by
  obtain⟨z,hd,xs,rel,dd⟩:=LI I.xP e;refine va (knd:=CF (AW X.prog X.w) (BZ X.prog X.w)) (show A.in1.units+1 < K6 by show A.units+1+1 < K6;omega) (GN I.xP eb) hd dd ?_;have q:=(rel.val k).xc;rw[R7] at q;rw[<- q];exact h _ (I.tok _)
theorem Kp{Q:Unit->A9->Prop}(hu:A.units+2 < K6)(I:Inv X pins σ H s)(e:H a=some (.dN xK))(eb:Oz H k b)(l:xK.length < sizeLine)(rv:RelV v r)(h:∀s',Inv X pins σ (upd H a (.dN (DJ xK k v))) s'->Q () s') :
    C4 (D6 X.prog X.w) A (wC (.ref a) (.ref b) r) Q E s:=by
  obtain⟨z,hd,xs,rel,dd⟩:=LI I.xP e;have hz:xs.length<=sizeLine:=by rw[<- Paired.length rel];exact z
  have hl:(DJ xK k v).length<=sizeLine:=by have:=EY xK k v;omega
  refine uv (knd:=CF (AW X.prog X.w) (BZ X.prog X.w)) (hsz:=hz) (show A.in1.units+1 < K6 by show A.units+1+1 < K6;omega) (GN I.xP eb) dd fun h' dd' hs=>h _ ?_
  obtain⟨q,es,ep,hq,h2,h3,h4,_,h5⟩:=dd';refine Dt I (by rw[e];exact True.intro) hs ⟨q,hq⟩ ⟨hl,hd,_,(rel.put k eb rv).keeps fun c ys ec=>?_,q,es,ep,hq,h2,h3,h4,h5⟩;rw[AG (eJ ec e (fun z=>nomatch z))];exact ec
theorem Inv.reN(I:Inv X pins σ H s)(e:H a=some (.dK [])):Inv X pins σ (upd H a (.dN [])) s:=by
 obtain⟨_,hd,vs,rel,o,es,ep,h1,h2,h3,_,h4,_⟩:=YH I.xP e;cases rel;have h4:es.toList=[]:=by generalize es.toList=l at h4;cases h4;rfl
 exact Dt (t':=s.toks) (h':=s.heap) I (by rw[e];exact True.intro) ⟨rfl,fun _ _=>rfl⟩ ⟨o,h1⟩ ⟨G5 _,hd,[],.nil,o,es,ep,h1,h2,h3,h4,.nil⟩
theorem Inv.zDB(I:Inv X pins σ (upd H a (.dN [])) s)(e:H a=some (.dK [])):Inv X pins σ H s:=by
 obtain⟨_,hd,xs,rel,o,es,ep,h1,h2,h3,h4,_⟩:=LI I.xP (AH (H:=H));cases rel;have h4:es.toList=[]:=h4;have:=Dt (t':=s.toks) (h':=s.heap) (ob:=.dK []) I (by rw[AH];exact True.intro) ⟨rfl,fun _ _=>rfl⟩ ⟨o,h1⟩ ⟨G5 _,hd,[],.nil,o,es,ep,h1,h2,h3,fun x hx=>(by rw[<- Z1,h4] at hx;cases hx),(by rw[h4];exact .nil),.nil⟩;rw[Uv e] at this;exact this
end
def pR(H:Hp)(a:B5)(y:V)(r:Option V):Prop:=∃k b,y=.ref b/\Oz H k b/\((∃xK,H a=some (.dN xK)/\r=Cu xK k)\/H a=some (.dK [])/\r=none)
def qw(H:Hp)(a:B5)(y v:V)(H':Hp):Prop:=∃k b,y=.ref b/\Oz H k b/\((∃xK,H a=some (.dN xK)/\xK.length < sizeLine/\H'=upd H a (.dN (DJ xK k v)))\/H a=some (.dK [])/\H'=upd H a (.dN [(k,v)]))
theorem Pt{a:B5}{k:NK Ak}{b:B5}(e:H a=some (.dK []))(n:Oz H k b)(o:HO):Oz (upd H a o) k b:=n.keeps fun c xs ec=>by rw[AG fun z=>by subst z;rw[e] at ec;cases ec];exact ec
section
variable {X:Cx}
def rN:R2:=fun x y H Q=>∃a v,x=.ref a/\pR H a y (some v)/\Q v H
theorem oE(hu:X.A.units+2 < K6):SU X rN:=by
 intro value slice pins s σ H x y v u Q I rx ry h hs;obtain⟨a,z,rfl,⟨k,b,rfl,eb,g⟩,q⟩:=h;obtain rfl:v=E3 a:=rx;obtain rfl:u=E3 b:=ry;obtain⟨xK,e,l⟩:∃xK,H a=some (.dN xK)/\some z=Cu xK k:=g.elim id fun h=>by cases h.2
 have hT:s.TypeIs (.ref a) "dict" := by
  obtain⟨_,_,xs,_,dd⟩:=LI I.xP e;exact dd.typeIs
 have h2:=TN (Q:=EP X pins σ Q) (E:=X.xe) (A:=X.A) hu I e eb l.symm fun w' s3 I3 yH=>⟨z,H,I3,yH,q⟩
 unfold Y9;refine A1 ?_;rw[tj hT.not_modules];refine A1 (R4 hT l9.lookup ?_);have fin:C4 (D6 X.prog X.w) X.A (o5 slice false (.ref a) (.ref b)) (fun r yp=>C4 (D6 X.prog X.w) X.A (letTemporaryGo value (.ref a) r >>= fun _=>pure r) (EP X pins σ Q) X.xe yp) X.xe s:=by
  rw[hs];exact v8 (R9 h2 (fun r yp zAL=>A1 (uI (A6 zAL))) fun _ _ x=>x)
 first
  | exact A6 (A1 fin)
  | exact A1 (A6 (A1 fin))
  | exact A1 fin
def rL:KH:=fun o i v H Q=>∃a H',o=.ref a/\qw H a i v H'/\Q H'
theorem gR(hu:X.A.units+2 < K6):KL X rL:=by
 intro pins s σ H o i v ov iv u Q I ro ri rv h;obtain⟨a,H',rfl,⟨k,b,rfl,eb,g⟩,q⟩:=h;obtain rfl:ov=E3 a:=ro;obtain rfl:iv=E3 b:=ri;rcases g with⟨xK,e,hl,rfl⟩ | ⟨e,rfl⟩
 ·exact Kp hu I e eb hl rv fun s4 I4=>⟨_,I4,q⟩
 ·refine Kp hu (I.reN e) AH (Pt e eb _) (by decide) rv fun s4 I4=>⟨upd H a (.dN [(k,v)]),?_,q⟩
  have:upd (upd H a (.dN [])) a (.dN (DJ [] k v))=upd H a (.dN [(k,v)]):=by
   funext c
   by_cases h:c=a
   ·subst h;rw[AH,AH];rfl
   ·rw[AG h,AG h,AG h]
  rw[this] at I4;exact I4
def gk(neg:Bool):R2:=fun y x H Q=>∃a o,x=.ref a/\pR H a y o/\Q (.bl (if neg then !o.isSome else o.isSome)) H
theorem ia(hu:X.A.units+2 < K6):Ct X (G4 .In) (gk false):=by
 intro pins s σ H y x u v Q I ry rx h;obtain⟨a,o,rfl,⟨k,b,rfl,eb,g⟩,q⟩:=h;obtain rfl:v=E3 a:=rx;obtain rfl:u=E3 b:=ry;rcases g with⟨xK,e,rfl⟩ | ⟨e,rfl⟩
 ·exact nz hu I e eb fun s3 I3=>⟨.bl (Cu xK k).isSome,H,I3,rfl,q⟩
 ·exact nz hu (I.reN e) AH (Pt e eb _) fun s3 I3=>⟨.bl false,H,I3.zDB e,rfl,q⟩
theorem bL(hu:X.A.units+2 < K6):Ct X (G4 .NotIn) (gk true):=by
 intro pins s σ H y x u v Q I ry rx h;obtain⟨a,o,rfl,⟨k,b,rfl,eb,g⟩,q⟩:=h;obtain rfl:v=E3 a:=rx;obtain rfl:u=E3 b:=ry;rcases g with⟨xK,e,rfl⟩ | ⟨e,rfl⟩
 ·exact RZ hu I e eb fun s3 I3=>⟨.bl (!(Cu xK k).isSome),H,I3,rfl,q⟩
 ·exact RZ hu (I.reN e) AH (Pt e eb _) fun s3 I3=>⟨.bl true,H,I3.zDB e,rfl,q⟩
end
end L2
namespace R
open PySem L2
def DX:Dv->Option Ak
 | .int i=>some (.inl i)
 | .str l=>some (.inr (tx l))
 | _=>none
def Ff:List Dv->Option (List Ak)
 | []=>some []
 | d::ds=>(DX d).bind fun k=>(Ff ds).bind fun ks=>some (k::ks)
def jQ:Dv->Option (List Ak)
 | .tup ds=>Ff ds
 | _=>none
section
variable {κ:Type} [DecidableEq κ]
noncomputable def Du(k:κ):List κ->List Dv->Option Dv
 | j::ks,d::ds=>if j=k then some d else Du k ks ds
 | _,_=>none
noncomputable def QY(k:κ)(ks:List κ):List κ:=if ks.any (fun j=>decide (j=k))=true then ks else ks++[k]
noncomputable def UG(k:κ)(x:Dv):List κ->List Dv->List Dv
 | j::ks,d::ds=>(if j=k then x else d)::UG k x ks ds
 | _,_=>[]
def QX(k:κ)(x:Dv)(ks:List κ)(ds:List Dv):List Dv:=if ks.any (fun j=>decide (j=k))=true then UG k x ks ds else ds++[x]
end
variable {o:Nat} {d:Dv} {v:V} {P:Fp} {ds:List Dv}
section
variable {K:W.Frag} {g:G} {H:Hp} {κ:Type} [DecidableEq κ]
theorem GL{k:Ak}(h:Rep K g H o d v P)(e:DX d=some k):v=kV k:=by
 cases d with
 | int i=>cases e;unfold Rep at h;exact h.1
 | str l=>cases e;unfold Rep at h;exact h.1
 | _=>cases e
theorem Jk{k:κ}:∀{ks:List κ} {ds:List Dv} {us:List V} {R:Fp} {d:Dv},AC K g H 0 ds us R->Du k ks ds=some d->∃v,Cu (ks.zip us) k=some v/\Rep K g H 0 d v xM
 | [],ds,us,R,d,_,e=>by cases ds<;>cases e
 | j::ks,[],us,R,d,_,e=>by cases e
 | j::ks,x::ds,us,R,d,h,e=>by
  unfold AC at h;obtain⟨v,r,P1,P2,rfl,h1,h2,_⟩:=h;unfold Du at e;split at e
  ·rename_i c;cases e;exact⟨v,by rw[J8];exact DR c,h1.z⟩
  ·rename_i c;obtain⟨w,e1,e2⟩:=Jk h2 e;exact⟨w,by rw[J8,DS c];exact e1,e2⟩
theorem HW{k:κ}:∀{ks:List κ} {ds:List Dv} {us:List V},ks.length=ds.length->ds.length=us.length->(Cu (ks.zip us) k).isSome=(Du k ks ds).isSome
 | [],[],_,_,_=>rfl
 | j::ks,d::ds,[],_,h=>by cases h
 | j::ks,d::ds,u::us,h1,h2=>by
  have ih:=HW (k:=k) (ks:=ks) (ds:=ds) (us:=us) (by simpa using h1) (by simpa using h2);rw[J8];unfold Du
  by_cases c:j=k
  ·rw[DR (p:=(j,u)) c,if_pos c];rfl
  ·rw[DS (p:=(j,u)) c,if_neg c];exact ih
theorem OL{k:κ}{x:Dv}{w:V}{ks:List κ}{us:List V}{R:Fp}(hl:ks.length=ds.length)(h:AC K g H 0 ds us R)(hx:Rep K g H 0 x w xM) :
    ∃yK,DJ (ks.zip us) k w=(QY k ks).zip yK/\AC K g H 0 (QX k x ks ds) yK xM/\(QY k ks).length=(QX k x ks ds).length:=by
  have yW:ks.length=us.length:=by rw[hl,h.len]
  have any_eq:∀{ks:List κ} {us:List V},ks.length=us.length->((ks.zip us).any fun kv=>decide (kv.1=k))=ks.any fun j=>decide (j=k):=fun{ks us} h=>by
    induction ks generalizing us with
    | nil=>rfl
    | cons j ks ih =>
      cases us with
      | nil=>cases h
      | cons u us=>rw[J8,Q5,Q5,ih (by simpa using h)]
  unfold DJ QY QX;rw[any_eq yW]
  by_cases c:(ks.any fun j=>decide (j=k))=true
  · rw[if_pos c,if_pos c,if_pos c];have:∀{ks:List κ} {ds:List Dv} {us:List V} {R:Fp},ks.length=ds.length->AC K g H 0 ds us R->∃yK,((ks.zip us).map fun kv=>if kv.1=k then(kv.1,w) else kv)=ks.zip yK/\AC K g H 0 (UG k x ks ds) yK xM/\ks.length=(UG k x ks ds).length:=fun{ks ds us R} hl h=>by
      induction ks generalizing ds us R with
      | nil=>exact⟨[],by simp,by cases ds<;>exact AC.nil,by cases ds<;>rfl⟩
      | cons j ks ih =>
        cases ds with
        | nil=>cases hl
        | cons d ds =>
          unfold AC at h;obtain⟨v,r,P1,P2,rfl,h1,h2,_⟩:=h;obtain⟨yK,e1,e2,e3⟩:=ih (by simpa using hl) h2;refine⟨(if j=k then w else v)::yK,?_,?_,by simp[UG];omega⟩
          · rw[J8,B6,J8,e1]
            by_cases q:j=k<;>simp[q]
          · unfold UG;refine((AC.cons (P1:=xM) (P2:=xM) ?_ e2 (fun _ z=>z.elim)).iff fun a=>⟨fun z=>z.elim,fun z=>z.elim id id⟩)
            by_cases q:j=k
            · rw[if_pos q,if_pos q];exact hx
            · rw[if_neg q,if_neg q];exact h1.z
    exact this hl h
  · rw[if_neg c,if_neg c,if_neg c];refine⟨us++[w],?_,?_,by simp[hl]⟩
    · rw[List.zip_append yW];rfl
    · exact(AC.app (P:=xM) (Q:=xM) h.z ((AC.cons (P1:=xM) (P2:=xM) hx AC.nil fun _ z=>z.elim).iff fun a=>⟨fun z=>z.elim,fun z=>z.elim id id⟩) fun _ z=>z.elim).iff fun a=>⟨fun z=>z.elim,fun z=>z.elim id id⟩
theorem YL{ks:List Ak}(h:Rep K g H o (.yR ks ds) v P):∃a us,v=.ref a/\H a=some (.dK (ks.zip us))/\ks.length=ds.length/\AC K g H 0 ds us xM:=by
 unfold Rep at h;obtain⟨a,us,e,h1,_,_,⟨h5,R,h6⟩,_⟩:=h;exact⟨a,us,e,h1,h5,h6.z⟩
theorem bI{ks:List Ak}(h:Rep K g H 1 (.yR ks ds) v P):∃a us,v=.ref a/\H a=some (.dK (ks.zip us))/\ks.length=ds.length/\AC K g H 0 ds us xM /\
    ∀yL yA yK,yL.length=yA.length->AC K g H 0 yA yK xM->Step g P H g P (upd H a (.dK (yL.zip yK)))/\Rep K g (upd H a (.dK (yL.zip yK))) 1 (.yR yL yA) (.ref a) P:=by
  have ok:=h.xO;unfold Rep at h;obtain⟨a,us,e,h1,h2,h3,⟨h5,R,h6⟩,h4⟩:=h;have pa:P a:=(h4 a).mpr ⟨by decide,rfl⟩;refine⟨a,us,e,h1,h5,h6.z,fun yL yA yK hl hr=>?_⟩;have st:Step g P H g P (upd H a (.dK (yL.zip yK))):=by
    refine⟨fun b o hb n=>?_,fun b hb=>?_,fun _ z=>z,fun _ z=>.inl z,⟨[],by simp⟩,fun _ z=>.inl z,fun z b hb q=>?_,Hw h1 (fun _ _ _ z=>by cases z)⟩
    · unfold upd;rw[if_neg fun e=>n (by rw[e];exact pa)];exact hb
    · unfold upd at hb;split at hb
      · cases hb
      · exact hb
    · unfold upd at q;split at q
      · cases q
      · exact z b hb q
  refine⟨st,?_⟩;unfold Rep;exact⟨a,yK,rfl,by unfold upd;rw[if_pos rfl],(fun z=>(tU z).elim),(fun _=>h3 (by decide)),⟨hl,xM,hr.held st ok fun _ z=>z.elim⟩,h4⟩
theorem AC.zDf:∀{o:Nat} {ds:List Dv} {vs:List V} {P:Fp} {ks:List Ak},AC K g H o ds vs P->Ff ds=some ks->vs=ks.map kV
 | o,[],vs,P,ks,h,e=>by cases e;unfold AC at h;exact h.1
 | o,d::ds,vs,P,ks,h,e=>by
  unfold AC at h;obtain⟨v,r,P1,P2,rfl,h1,h2,_⟩:=h;unfold Ff at e;cases e1:DX d with
  | none=>rw[e1] at e;cases e
  | some k =>
   cases e2:Ff ds with
   | none=>rw[e1,e2] at e;cases e
   | some yL =>
    rw[e1,e2] at e;cases e;rw[GL h1 e1,AC.zDf h2 e2];rfl
theorem XE{k:List Ak}(h:Rep K g H o d v P)(e:jQ d=some k):∃b,v=.ref b/\H b=some (.tup (k.map kV)):=by
 cases d with
 | tup ds =>
  unfold Rep at h;obtain⟨b,vs,rfl,h1,h2⟩:=h;rw[AC.zDf h2 e] at h1;exact⟨b,rfl,h1⟩
 | _=>cases e
theorem oi{ks:List (NK Ak)}(h:Rep K g H o (.zo ks ds) v P):∃a us,v=.ref a/\H a=some (.dN (ks.zip us))/\ks.length=ds.length/\AC K g H 0 ds us xM:=by
 unfold Rep at h;obtain⟨a,us,e,h1,_,_,⟨h5,R,h6⟩,_⟩:=h;exact⟨a,us,e,h1,h5,h6.z⟩
theorem bH{ks:List (NK Ak)}(h:Rep K g H 1 (.zo ks ds) v P):∃a us,v=.ref a/\H a=some (.dN (ks.zip us))/\ks.length=ds.length/\AC K g H 0 ds us xM /\
    ∀(yL:List (NK Ak)) yA yK,yL.length=yA.length->AC K g H 0 yA yK xM->Step g P H g P (upd H a (.dN (yL.zip yK)))/\Rep K g (upd H a (.dN (yL.zip yK))) 1 (.zo yL yA) (.ref a) P:=by
  have ok:=h.xO;unfold Rep at h;obtain⟨a,us,e,h1,h2,h3,⟨h5,R,h6⟩,h4⟩:=h;have pa:P a:=(h4 a).mpr ⟨by decide,rfl⟩;refine⟨a,us,e,h1,h5,h6.z,fun yL yA yK hl hr=>?_⟩;have st:Step g P H g P (upd H a (.dN (yL.zip yK))):=by
    refine⟨fun b o hb n=>?_,fun b hb=>?_,fun _ z=>z,fun _ z=>.inl z,⟨[],by simp⟩,fun _ z=>.inl z,fun z b hb q=>?_,Hw h1 (fun _ _ _ z=>by cases z)⟩
    · unfold upd;rw[if_neg fun e=>n (by rw[e];exact pa)];exact hb
    · unfold upd at hb;split at hb
      · cases hb
      · exact hb
    · unfold upd at q;split at q
      · cases q
      · exact z b hb q
  refine⟨st,?_⟩;unfold Rep;exact⟨a,yK,rfl,by unfold upd;rw[if_pos rfl],(fun z=>(tU z).elim),(fun _=>h3 (by decide)),⟨hl,xM,hr.held st ok fun _ z=>z.elim⟩,h4⟩
def Kw:List Dv->Option (NK Ak)
 | []=>some []
 | d::ds=>((DX d).map Sum.inl |>.or ((jQ d).map Sum.inr)).bind fun k=>(Kw ds).bind fun ks=>some (k::ks)
def QF:Dv->Option (NK Ak)
 | .tup ds=>Kw ds
 | _=>none
theorem HN:∀{o:Nat} {ds:List Dv} {vs:List V} {P:Fp} {k:NK Ak},AC K g H o ds vs P->Kw ds=some k->Zn H k vs
 | o,[],vs,P,ks,h,e=>by cases e;unfold AC at h;exact h.1
 | o,d::ds,vs,P,ks,h,e=>by
  unfold AC at h;obtain⟨v,r,P1,P2,rfl,h1,h2,_⟩:=h;unfold Kw at e;obtain⟨k,e1,e⟩:=O8.mp e;obtain⟨yL,e2,e⟩:=O8.mp e;cases e;rcases X7.mp e1 with e1 | ⟨_,e1⟩
  ·obtain⟨x,ex,rfl⟩:=E6.mp e1;exact⟨r,by rw[GL h1 ex],HN h2 e2⟩
  ·obtain⟨x,ex,rfl⟩:=E6.mp e1;obtain⟨b,rfl,hb⟩:=XE h1 ex;exact⟨b,r,rfl,hb,HN h2 e2⟩
theorem Ea{k:NK Ak}(h:Rep K g H o d v P)(e:QF d=some k):∃b,v=.ref b/\Oz H k b:=by
 cases d with
 | tup ds =>
  unfold Rep at h;obtain⟨b,vs,rfl,h1,h2⟩:=h;exact⟨b,rfl,vs,h1,HN h2 e⟩
 | _=>cases e
theorem TC(h:Rep K g H 1 (.yR [] ds) v P):∃a,v=.ref a/\H a=some (.dK []) /\
    ∀(yL:List (NK Ak)) yA yK,yL.length=yA.length->AC K g H 0 yA yK xM->Step g P H g P (upd H a (.dN (yL.zip yK)))/\Rep K g (upd H a (.dN (yL.zip yK))) 1 (.zo yL yA) (.ref a) P:=by
  have ok:=h.xO;unfold Rep at h;obtain⟨a,us,e,h1,h2,h3,⟨h5,R,h6⟩,h4⟩:=h;have pa:P a:=(h4 a).mpr ⟨by decide,rfl⟩;refine⟨a,e,h1,fun yL yA yK hl hr=>?_⟩;have st:Step g P H g P (upd H a (.dN (yL.zip yK))):=by
    refine⟨fun b o hb n=>?_,fun b hb=>?_,fun _ z=>z,fun _ z=>.inl z,⟨[],by simp⟩,fun _ z=>.inl z,fun z b hb q=>?_,Hw h1 (fun _ _ _ z=>by cases z)⟩
    · unfold upd;rw[if_neg fun e=>n (by rw[e];exact pa)];exact hb
    · unfold upd at hb;split at hb
      · cases hb
      · exact hb
    · unfold upd at q;split at q
      · cases q
      · exact z b hb q
  refine⟨st,?_⟩;unfold Rep;exact⟨a,yK,rfl,by unfold upd;rw[if_pos rfl],(fun z=>(tU z).elim),(fun _=>h3 (by decide)),⟨hl,xM,hr.held st ok fun _ z=>z.elim⟩,h4⟩
end
noncomputable abbrev Mu:=Dv->List Dv->Option (Dv×Dv)
def Qp(K:W.Frag)(p:Mu)(R:V->List V->Hp->VK->Prop):Prop:=∀g H x v P ds us r y Q,Zd g H->Rep K g H 1 x v P->AC K g H 0 ds us xM->p x ds=some (r,y) ->
 (∀w H' P',Step g P H g P' H'->Rep K g H' 1 y v P'->Rep K g H' 0 r w xM->Q w H')->R v us H Q
noncomputable def kind:Dv->String
 | .lst _ => "list"
 | .yO _ => "list"
 | .str _ => "str"
 | .int _ => "int"
 | .dtt _ _ => "dict"
 | .yR _ _ => "dict"
 | .tup _ => "tuple"
 | _ => "?"
def EC{α:Type}(T:String)(d:Dv)(o:Option α):Option α:=if kind d=T then o else none
variable {T:String}
theorem DY{α:Type}{o:Option α}{a:α}(h:EC T d o=some a):kind d=T/\o=some a:=by
 unfold EC at h;split at h
 ·rename_i z;exact⟨z,h⟩
 ·cases h
def Xj(T:String)(i:Nat)(p:Mu)(fa:Ev (List Dv)):Ev Dv:=fun R m k=>EC T (m.at i) (fa R m fun ds m1=>(p (m1.at i) ds).bind fun r=>k r.1 (m1.set i r.2))
variable {vs:List V}
section
variable {K:W.Frag} {g:G} {H:Hp} {σ:St} {Γ Γ':Gm} {js:List Nat} {as:List Ar}
theorem La(h:Rep K g H o d v P)(e:kind d=T)(hT:T = "list" \/ T = "str" \/ T = "int" \/ T = "dict"):pX K T v H:=by
 subst e;cases d with
 | lst ds=>unfold Rep at h;obtain⟨a,vs,P',rfl,h1,_⟩:=h;exact .inl ⟨rfl,vs,.inl (.inl h1.1)⟩
 | yO ns=>unfold Rep at h;obtain⟨⟨a,rfl,h1⟩,_⟩:=h;exact .inl ⟨rfl,_,h1.sq⟩
 | str l=>unfold Rep at h;rw[h.1];rfl
 | int i=>unfold Rep at h;rw[h.1];rfl
 | dtt ks l=>unfold Rep at h;obtain⟨a,vs,rfl,h1,_⟩:=h;exact .inr (.inr (.inl ⟨rfl,.inr ⟨_,h1⟩⟩))
 | yR ks l=>unfold Rep at h;obtain⟨a,vs,rfl,h1,_⟩:=h;exact .inr (.inr (.inl ⟨rfl,.inl ⟨_,h1⟩⟩))
 | _=>rcases hT with h | h | h | h<;>simp[kind] at h
theorem bX{i:Nat}{p:Mu}{R:V->List V->Hp->VK->Prop}(hR:Qp K p R)(hT:T = "list" \/ T = "str" \/ T = "int" \/ T = "dict")(c:AD Γ as Γ' js)(he:QP as=true)(h0:∃o,Γ[i]?=some (some o))(hi:Γ'[i]?=some (some 1)){Q:VK}
    (h:tE K Γ 0 Γ' (js++[i]) (Xj T i p (AR as)) σ H Q):gJ K T R (DE i) (BM K as) σ H Q:=by
  obtain⟨g,m,P,r,R',k,res,e,q⟩:=h;obtain⟨e0,e⟩:=DY e;obtain⟨o0,h0⟩:=h0;obtain⟨v0,P0,y9,rv0,_⟩:=r.z7 h0;refine⟨v0,y9,La rv0 e0 hT,AM as r c e fun ds m1 g1 P1 vs H1 hk ag s ar r1=>?_⟩;obtain⟨⟨rs,y⟩,e1,e2⟩:=xI hk;obtain⟨v,Pa,Pr,ev,em,rv,r2,n,hP⟩:=r1.take hi;rw[y9] at ev;cases ev;refine hR g1 H1 _ v0 Pa ds vs rs y Q r1.zd rv (ar.zAQ he) e1 fun w H2 P' s2 ry rr=>?_
  have r3:=r2.held s2 rv.xO fun a q z=>n a z q
  have n3:=s2.out r2.xO fun a q z=>n a z q
  have hil:i < Γ'.length:=(B3.mp hi).1;obtain⟨P4,r4,sp⟩:=r3.putIn hil y9 ry fun a q z=>n3 a z q
  rw[CW hi] at r4;refine q rs _ g1 P4 xM w H2 e2 (ag.trans Ba.set) (s.trans ((s2.frame (R:=Pr)).sub (fun a z=>(hP a).mpr z) fun a z=>z.elim (fun z=>sp a z) E5)) rr r4 fun _ _ z=>z
theorem Step.upd{a:B5}{o u:HO}{P':Fp}(h:H a=some u)(nu:∀C dx fs,u≠.ins C dx fs)(hs:∀b,P' b->b=a\/H b=none):Step g (fun b=>b=a) H g P' (upd H a o):=by
 have dm:∀b,L2.upd H a o b=none->H b=none:=fun b q=>by
  by_cases hb:b=a
  ·subst hb;rw[AH] at q;cases q
  ·rw[AG hb] at q;exact q
 exact⟨fun b u q n=>by rw[AG n];exact q,dm,fun _ q=>q,fun _ q=>.inl q,⟨[],by simp⟩,hs,fun z b q e=>z b q (dm b e),Hw h nu⟩
theorem FE{xs:List Dv}(h:Rep K g H 1 (.lst xs) v P):∃a vs,v=.ref a/\H a=some (.lst vs)/\¬g.Z a/\AC K g H 0 xs vs xM/\(∀b,P b↔b=a) /\
    ∀ws,Step g P H g P (upd H a (.lst ws))/\(∀{d:Dv} {u:V},Rep K g H 0 d u xM->Rep K g (upd H a (.lst ws)) 0 d u xM)/\∀ys,AC K g H 0 ys ws xM->Rep K g (upd H a (.lst ws)) 1 (.lst ys) (.ref a) P:=by
  unfold Rep at h;obtain⟨a,vs,P',rfl,h1,h2,h3,h5⟩:=h;have hP:∀b,P b↔b=a:=fun b=>by rw[h5 b];exact⟨fun z=>z.elim (fun z=>z.2) fun z=>(h2.xq b z).elim,fun z=>.inl ⟨by decide,z⟩⟩
  have eP:P=fun b=>b=a:=funext fun b=>propext (hP b)
  have hz:=h1.2.2 (by decide);have oka:xS g H fun b=>b=a:=fun b q=>by subst q;exact⟨by rw[h1.1];trivial,hz⟩
  refine⟨a,vs,rfl,h1.1,hz,h2.z,hP,fun ws=>?_⟩;have st:Step g (fun b=>b=a) H g (fun b=>b=a) (upd H a (.lst ws)):=Step.upd h1.1 (fun _ _ _ z=>by cases z) fun b z=>.inl z
  refine⟨by rw[eP];exact st,fun r=>r.held st oka fun _ z=>z.elim,fun ys r=>?_⟩;unfold Rep;exact⟨a,ws,xM,rfl,⟨AH,(fun z=>by cases z),fun _=>hz⟩,r.held st oka fun _ z=>z.elim,fun z=>z,fun b=>by rw[hP b];exact⟨fun z=>.inl ⟨by decide,z⟩,fun z=>z.elim (fun z=>z.2) E5⟩⟩
theorem Cj:∀{ds:List Dv} {vs:List V},AC K g H 0 ds vs xM↔ds.length=vs.length/\∀(i:Nat) (d:Dv) (v:V),ds[i]?=some d->vs[i]?=some v->Rep K g H 0 d v xM
 | [],vs=>⟨fun h=>⟨h.len,fun i d v e=>by simp at e⟩,fun h=>by
  have:vs=[]:=E9 h.1.symm;subst this;exact AC.nil⟩
 | x::xs,vs=>by
  refine⟨fun h=>⟨h.len,fun i d v e1 e2=>?_⟩,fun h=>?_⟩
  ·obtain⟨v',P,e',r,_⟩:=h.get e1;rw[e2] at e';cases e';exact r.z
  ·cases vs with
   | nil=>simp at h
   | cons v vs =>
    exact(AC.cons (h.2 0 x v rfl rfl) (Cj.mpr ⟨by simpa using h.1,fun i d u e1 e2=>h.2 (i+1) d u (by simpa using e1) (by simpa using e2)⟩) fun _ z=>z.elim).iff fun a=>⟨fun z=>z.elim,fun z=>z.elim id id⟩
theorem CP{es:List Dv}{us:List V}(h:AC K g H 0 ds vs xM)(k:AC K g H 0 es us xM):AC K g H 0 (ds++es) (vs++us) xM:=(AC.app h k fun _ z=>z.elim).iff fun a=>⟨fun z=>z.elim,fun z=>z.elim id id⟩
theorem HC(h:Rep K g H 0 d v xM):AC K g H 0 [d] [v] xM:=(AC.cons h AC.nil fun _ z=>z.elim).iff fun a=>⟨fun z=>z.elim,fun z=>z.elim id id⟩
theorem Az(h:AC K g H 0 (d::ds) vs xM):∃v us,vs=v::us/\Rep K g H 0 d v xM/\AC K g H 0 ds us xM:=by
 unfold AC at h;obtain⟨v,r,P1,P2,rfl,h1,h2,_⟩:=h;exact⟨v,r,rfl,h1.z,h2.z⟩
theorem Ay(h:AC K g H 0 [] vs xM):vs=[]:=by unfold AC at h;exact h.1
theorem So(j:Nat)(h:AC K g H 0 ds vs xM)(r:Rep K g H 0 d v xM):AC K g H 0 (ds.set j d) (vs.set j v) xM:=by
 have h0:=Cj.mp h;refine Cj.mpr ⟨by simp[h0.1],fun i x y e1 e2=>?_⟩;rcases Er e1 with⟨rfl,rfl⟩ | ⟨n,e1⟩
 ·rcases Er e2 with⟨_,rfl⟩ | ⟨n,_⟩
  ·exact r
  ·exact(n rfl).elim
 ·rcases Er e2 with⟨z,_⟩ | ⟨_,e2⟩
  ·exact(n z).elim
  ·exact h0.2 i x y e1 e2
theorem FC:Rep K g H o .xQ .xQ xM:=by unfold Rep;exact⟨rfl,fun _ z=>z⟩
noncomputable def AX(x:Dv)(ds:List Dv):Option (Dv×Dv):=match x,ds with
 | .lst xs,[d]=>if xs.length<=1000000 then some (.xQ,.lst (xs++[d])) else none
 | _,_=>none
noncomputable def Um(x:Dv)(ds:List Dv):Option (Dv×Dv):=match x,ds with
 | .lst xs,[]=>match xs.getLast? with
  | some d=>some (d,.lst xs.dropLast)
  | none=>none
 | _,_=>none
noncomputable def Bh(x:Dv)(ds:List Dv):Option (Dv×Dv):=match x,ds with
 | .lst xs,[.lst ys]=>if xs.length+ys.length<=1000000 then some (.xQ,.lst (xs++ys)) else none
 | .lst xs,[.tup ys]=>if xs.length+ys.length<=1000000 then some (.xQ,.lst (xs++ys)) else none
 | _,_=>none
theorem TR:Qp K AX RP:=fun g H x v P ds us r y Q zd rx rd e k=>by
 unfold AX at e;split at e
 ·rename_i xs d;split at e
  ·rename_i hl;cases e;obtain⟨a,vs,rfl,ha,hz,hx,hP,go⟩:=FE rx;obtain⟨u,yK,rfl,hu,h2⟩:=Az rd;cases Ay h2;obtain⟨s,hd,mk⟩:=go (vs++[u]);exact⟨a,vs,u,rfl,rfl,ha,T5 (by rw[<- hx.len];exact hl) (by decide),k _ _ P s (mk _ (CP hx (HC hu))) FC⟩
  ·cases e
 ·cases e
theorem jC:Qp K Um mv:=fun g H x v P ds us r y Q zd rx rd e k=>by
 unfold Um at e;split at e
 ·rename_i xs;split at e
  ·rename_i d el;cases e;obtain⟨a,vs,rfl,ha,hz,hx,hP,go⟩:=FE rx;cases Ay rd;obtain⟨s,hd,mk⟩:=go vs.dropLast;have h0:=Cj.mp hx;rw[List.getLast?_eq_getElem?] at el;obtain⟨u,P1,e2,r2,_⟩:=hx.get el;refine⟨a,vs,u,rfl,rfl,ha,by rw[<- h0.1];exact e2,k _ _ P s (mk _ ?_) (hd r2.z)⟩;refine Cj.mpr ⟨by simp[h0.1],fun i d v e3 e4=>?_⟩;rw[List.getElem?_dropLast] at e3 e4;split at e3
   ·split at e4
    ·exact h0.2 i d v e3 e4
    ·cases e4
   ·cases e3
  ·cases e
 ·cases e
theorem TQ:Qp K Bh (fun x vs H Q=>RO x vs H Q\/NT x vs H Q):=fun g H x v P ds us r y Q zd rx rd e k=>by
 unfold Bh at e;split at e
 ·rename_i xs ys;split at e
  ·rename_i hl;cases e;obtain⟨a,vs,rfl,ha,hz,hx,hP,go⟩:=FE rx;obtain⟨u,yK,rfl,hu,h2⟩:=Az rd;cases Ay h2;unfold Rep at hu;obtain⟨b,ws,P',rfl,h1,h3,_⟩:=hu;obtain⟨s,hd,mk⟩:=go (vs++ws);exact .inl ⟨a,b,vs,ws,rfl,rfl,ha,h1.1,A4 (by rw[<- hx.len,<- h3.len];exact hl) (by decide),k _ _ P s (mk _ (CP hx h3.z)) FC⟩
  ·cases e
 ·rename_i xs ys;split at e
  ·rename_i hl;cases e;obtain⟨a,vs,rfl,ha,hz,hx,hP,go⟩:=FE rx;obtain⟨u,yK,rfl,hu,h2⟩:=Az rd;cases Ay h2;unfold Rep at hu;obtain⟨b,ws,rfl,h1,h3⟩:=hu;obtain⟨s,hd,mk⟩:=go (vs++ws);exact .inr ⟨a,b,vs,ws,rfl,rfl,ha,h1,A4 (by rw[<- hx.len,<- h3.len];exact hl) (by decide),k _ _ P s (mk _ (CP hx h3.z)) FC⟩
  ·cases e
 ·cases e
end
def fC(i:Nat)(p:Dv->Dv->Dv->Option Dv)(f:Ev Dv)(fk:Ev (List Dv)):Es:=fun R m k=>f R m fun d m1=>fk R m1 fun ks m2=>match ks with | [j]=>(p (m2.at i) j d).bind fun y=>k.nx (m2.set i y) | _=>none
def AU(x k d:Dv):Option Dv:=match x,k with
 | .lst xs,.int k=>(Hq xs.length k).bind fun j=>some (.lst (xs.set j d))
 | .yR ks ds,k=>((DX k).bind fun k=>if ks.length<=1000000 then some (.yR (QY k ks) (QX k d ks ds)) else none).or (if ks.isEmpty=true then(QF k).bind fun k=>some (.zo [k] [d]) else none)
 | .zo ks ds,k=>(QF k).bind fun k=>if ks.length<=1000000 then some (.zo (QY k ks) (QX k d ks ds)) else none
 | _,_=>none
def Uo(K:W.Frag)(p:Dv->Dv->Dv->Option Dv)(T:KH):Prop:=∀g H x v P j vj d u y (Q:Hp->Prop),Zd g H->Rep K g H 1 x v P->RA K g H [j] [vj]->Rep K g H 0 d u xM->p x j d=some y->(∀H' P',Step g P H g P' H'->Rep K g H' 1 y v P'->Q H')->T v vj u H Q
theorem gS{K:W.Frag}:Uo K AU (fun o i v H Q=>Vr o i v H Q\/rQ o i v H Q\/rL o i v H Q):=fun g H x v P j vj d u y Q zd rx rj rd e q=>by
 unfold AU at e;split at e
 ·rename_i xs kk;obtain⟨jj,ej,e⟩:=xI e;cases e;obtain⟨a,vs,rfl,ha,hz,hx,hP,go⟩:=FE rx;unfold RA at rj;obtain⟨w,wr,o,Po,ew,_,yH,_⟩:=rj;cases ew;rw[AI yH];obtain⟨s,hd,mk⟩:=go (vs.set jj u);exact .inl ⟨a,vs,kk,jj,rfl,rfl,ha,by rw[<- hx.len];exact ej,q _ P s (mk _ (So jj hx rd))⟩
 ·rename_i ks ds;rcases X7.mp e with e | ⟨_,e⟩
  ·obtain⟨k,ek,e⟩:=xI e;split at e
   ·rename_i hl;cases e;obtain⟨a,us,rfl,ha,yW,hx,go⟩:=bI rx;unfold RA at rj;obtain⟨w,wr,o,Po,ew,_,yH,_⟩:=rj;cases ew;obtain⟨yK,e1,e2,e3⟩:=OL (k:=k) yW hx rd;obtain⟨s,mk⟩:=go _ _ yK e3 e2;refine .inr (.inl ⟨a,_,rfl,.inl ?_,q _ P s mk⟩);rw[GL yH ek,<- e1];refine Ot.k ha ?_;have:(ks.zip us).length<=ks.length:=by rw[Z8];omega
    have z:(1000000:Nat) < sizeLine:=by decide
    omega
   ·cases e
  ·split at e
   ·rename_i hk;obtain⟨k,ek,e⟩:=xI e;cases e;obtain rfl:ks=[]:=by cases ks with | nil=>rfl | cons _ _=>cases hk
    obtain⟨a,rfl,ha,go⟩:=TC rx;unfold RA at rj;obtain⟨w,wr,o,Po,ew,_,yH,_⟩:=rj;cases ew;obtain⟨b,rfl,hb⟩:=Ea yH ek;obtain⟨s,mk⟩:=go [k] [d] [u] rfl ((AC.cons (P1:=xM) (P2:=xM) rd AC.nil fun _ z=>z.elim).iff fun a=>⟨fun z=>z.elim,fun z=>z.elim id id⟩);exact .inr (.inr ⟨a,_,rfl,⟨k,b,rfl,hb,.inr ⟨ha,rfl⟩⟩,q _ P s mk⟩)
   ·cases e
 ·rename_i ks ds;obtain⟨k,ek,e⟩:=xI e;split at e
  ·rename_i hl;cases e;obtain⟨a,us,rfl,ha,yW,hx,go⟩:=bH rx;unfold RA at rj;obtain⟨w,wr,o,Po,ew,_,yH,_⟩:=rj;cases ew;obtain⟨yK,e1,e2,e3⟩:=OL (k:=k) yW hx rd;obtain⟨s,mk⟩:=go _ _ yK e3 e2;obtain⟨b,rfl,hb⟩:=Ea yH ek;refine .inr (.inr ⟨a,_,rfl,⟨k,b,rfl,hb,.inl ⟨_,ha,?_,?_⟩⟩,q _ P s mk⟩)
   ·have:(ks.zip us).length<=ks.length:=by rw[Z8];omega
    have z:(1000000:Nat) < sizeLine:=by decide
    omega
   ·rw[<- e1]
  ·cases e
 ·cases e
variable {D:Ends} {σ:St} {H:Hp}
section
variable {K:W.Frag} {F:Fr} {xN:Option Gm} {Γ xY Γ':Gm} {js js2:List Nat} {i:Nat} {f:Ev Dv} {a:Ar} {p:Dv->Dv->Dv->Option Dv} {T:KH}
theorem Vd(hp:Uo K p T)(c:AD xY [a] Γ' js2)(h0:∃o,xY[i]?=some (some o))(hi:Γ'[i]?=some (some 1))(h:tS K F xN Γ (some Γ') (js++(js2++[i])) (fC i p f (AR [a])) D σ H):Jy (tE K Γ 0 xY js f) (Tt (DE i) (Fk K a) T) D σ H:=by
 obtain⟨g,m,P,r,R,k,res,e,q⟩:=h;refine⟨g,m,P,r,R,_,res,e,fun d m1 g1 P1 Pv u H1 hk ag s rv r1 n=>?_⟩;obtain⟨o0,h0⟩:=h0;obtain⟨v0,P0,y9,_,_⟩:=r1.z7 h0;refine⟨v0,y9,?_⟩;have rz:=rv.z;have s':Step g P H g1 P1 H1:=s.less fun _ z=>.inl z
 have key:BM K [a] σ H1 fun vs H2=>∃w,vs=[w]/\T v0 w u H2 fun H3=>D.nx σ H3:=by
  refine AM [a] r1 c hk fun ds m2 g2 P2 vs H2 x9 yY s2 ar r2=>?_
  have al:=ar.len;have ra:=ar.ra r2
  match ds,al.1,x9,ra with
  | [j],_,x9,ra =>
   have ra0:=ra;unfold RA at ra;obtain⟨w,wr,o,Po,rfl,_,h1,h2⟩:=ra;unfold RA at h2;subst h2;obtain⟨y,e1,e2⟩:=xI x9;obtain⟨v,Pa,Pr,ev,em,rx,r3,n3,hP⟩:=r2.take hi;rw[y9] at ev;cases ev;refine⟨w,rfl,hp g2 H2 _ v0 Pa j w d u y _ r2.zd rx ra0 (rz.held s2 r1.xO fun _ z=>z.elim) e1 fun H3 P' s3 ry=>?_⟩;have r4:=r3.held s3 rx.xO fun a q z=>n3 a z q
   have n4:=s3.out r3.xO fun a q z=>n3 a z q
   obtain⟨P5,r5,sp⟩:=r4.putIn (B3.mp hi).1 y9 ry fun a q z=>n4 a z q
   rw[CW hi] at r5;exact q.nx Γ' _ g2 P5 σ H3 rfl e2 (ag.trans (yY.trans Ba.set)) ((s'.trans s2).trans ((s3.frame (R:=Pr)).sub (fun a z=>(hP a).mpr z) fun a z=>sp a z)) Io.refl r5
 have mono:∀(Q1 Q2:VK),(∀v H,Q1 v H->Q2 v H)->Fk K a σ H1 Q1->Fk K a σ H1 Q2:=by
  intro Q1 Q2 h12 t;cases a with
  | ev Γa Γb ja fa =>
   obtain⟨g,m,P,r,R,k,res,e,q⟩:=t;exact⟨g,m,P,r,R,k,res,e,fun d m' g' P' Pv v H' h1 h2 h3 h4 h5 h6=>h12 _ _ (q d m' g' P' Pv v H' h1 h2 h3 h4 h5 h6)⟩
  | rf i=>obtain⟨v,e,q⟩:=t;exact⟨v,e,h12 _ _ q⟩
  | fd i f=>obtain⟨v,e,a,C,dx,fs,w,h1,h2,h3,h4,h5,q⟩:=t;exact⟨v,e,a,C,dx,fs,w,h1,h2,h3,h4,h5,h12 _ _ q⟩
 refine mono _ _ (fun v H2 z=>?_) key;obtain⟨w,ew,z⟩:=z;cases ew;exact z
end
def Xk(T:String)(a:Ar)(as:List Ar)(p:Pr):Ev Dv:=match a with
 | .rf i=>fun R m k=>EC T (m.at i) (AR as R m fun ds m1=>(p (m1.at i::ds)).bind fun d=>k d m1)
 | .ev _ _ _ f=>fun R m k=>f R m fun x m1=>EC T x (AR as R m1 fun ds m2=>(p (x::ds)).bind fun d=>k d m2)
 | .fd _ _=>fun _ _ _=>none
def lT(r:V->List V->Hp->VK->Prop):Qo:=fun vs H Q=>match vs with | x::us=>r x us H Q | _=>False
variable {Γ Γ':Gm} {js:List Nat}
theorem jD{K:W.Frag}{σ:St}{H:Hp}{a:Ar}{as:List Ar}{p:Pr}{r:V->List V->Hp->VK->Prop}(hp:AJ K p o (lT r))(hT:T = "list" \/ T = "str" \/ T = "int" \/ T = "dict")(c:AD Γ (a::as) Γ' js){Q:VK}
    (h:tE K Γ o Γ' js (Xk T a as p) σ H Q):gJ K T r (Fk K a) (BM K as) σ H Q:=by
  obtain⟨g,m,P,rl,R',k,res,e,q⟩:=h;cases a with
  | fd i f=>cases e
  | rf i =>
    obtain⟨e0,e⟩:=DY e;unfold AD at c;obtain⟨⟨o0,h0⟩,⟨o1,zS,h1⟩,c⟩:=c;obtain⟨v0,P0,y9,rv0,_⟩:=rl.z7 h0;refine⟨v0,y9,La rv0 e0 hT,AM as rl c e fun ds m1 g1 P1 vs H1 hk ag s ar r1=>?_⟩;obtain⟨d,e1,e2⟩:=xI hk;obtain⟨v1,P1',ev1,rv1,_⟩:=r1.z7 h1;rw[y9] at ev1;cases ev1;refine hp g1 H1 _ (v0::vs) d Q r1.zd (by unfold RA;exact⟨v0,vs,o1,P1',rfl,zS,rv1,ar.ra r1⟩) e1 fun v H2 nw=>?_
    obtain⟨Pv,s2,h1,r2,n2⟩:=Af.go s r1 nw;exact q d m1 g1 P1 Pv v H2 e2 ag s2 h1 r2 n2
  | ev xY xa js1 f =>
    unfold AD at c;obtain⟨rfl,js2,rfl,c⟩:=c;refine⟨g,m,P,rl,R',_,res,e,fun x m1 g1 P1 Pv v0 H1 hk ag s rv r1 n=>?_⟩;obtain⟨e0,hk⟩:=DY hk;have rz:=rv.z;have s':Step g P H g1 P1 H1:=s.less fun _ z=>.inl z
    refine⟨La rz e0 hT,AM as r1 c hk fun ds m2 g2 P2 vs H2 x9 yY s2 ar r2=>?_⟩;obtain⟨d,e1,e2⟩:=xI x9;refine hp g2 H2 _ (v0::vs) d Q r2.zd (by unfold RA;exact⟨v0,vs,0,xM,rfl,by decide,rz.held s2 r1.xO fun _ z=>z.elim,ar.ra r2⟩) e1 fun v H3 nw=>?_
    obtain⟨Pw,s3,h1,r3,n3⟩:=Af.go (s'.trans s2) r2 nw;exact q d m2 g2 P2 Pw v H3 e2 (ag.trans yY) s3 h1 r3 n3
theorem bZ{K:W.Frag}{σ:St}{H:Hp}{a:Ar}{as:List Ar}{p:Pr}{r:V->List V->Hp->VK->Prop}(hp:AJ K p o (lT r))(c:AD Γ (a::as) Γ' js){Q:VK}
    (h:tE K Γ o Γ' js (Xk "tuple" a as p) σ H Q):qI r (Fk K a) (BM K as) σ H Q:=by
  obtain⟨g,m,P,rl,R',k,res,e,q⟩:=h
  have ty:∀{g:G} {H:Hp} {o:Nat} {d:Dv} {v:V} {P:Fp},Rep K g H o d v P->kind d = "tuple" -> ∃a us,v=.ref a/\H a=some (.tup us):=fun{g H o d v P} h e=>by
    cases d with
    | tup ds=>unfold Rep at h;obtain⟨a,vs,rfl,h1,_⟩:=h;exact⟨a,vs,rfl,h1⟩
    | _=>simp[kind] at e
  cases a with
  | fd i f=>cases e
  | rf i =>
    obtain⟨e0,e⟩:=DY e;unfold AD at c;obtain⟨⟨o0,h0⟩,⟨o1,zS,h1⟩,c⟩:=c;obtain⟨v0,P0,y9,rv0,_⟩:=rl.z7 h0;refine⟨v0,y9,ty rv0 e0,AM as rl c e fun ds m1 g1 P1 vs H1 hk ag s ar r1=>?_⟩;obtain⟨d,e1,e2⟩:=xI hk;obtain⟨v1,P1',ev1,rv1,_⟩:=r1.z7 h1;rw[y9] at ev1;cases ev1;refine hp g1 H1 _ (v0::vs) d Q r1.zd (by unfold RA;exact⟨v0,vs,o1,P1',rfl,zS,rv1,ar.ra r1⟩) e1 fun v H2 nw=>?_
    obtain⟨Pv,s2,h1,r2,n2⟩:=Af.go s r1 nw;exact q d m1 g1 P1 Pv v H2 e2 ag s2 h1 r2 n2
  | ev xY xa js1 f =>
    unfold AD at c;obtain⟨rfl,js2,rfl,c⟩:=c;refine⟨g,m,P,rl,R',_,res,e,fun x m1 g1 P1 Pv v0 H1 hk ag s rv r1 n=>?_⟩;obtain⟨e0,hk⟩:=DY hk;have rz:=rv.z;have s':Step g P H g1 P1 H1:=s.less fun _ z=>.inl z
    refine⟨ty rz e0,AM as r1 c hk fun ds m2 g2 P2 vs H2 x9 yY s2 ar r2=>?_⟩;obtain⟨d,e1,e2⟩:=xI x9;refine hp g2 H2 _ (v0::vs) d Q r2.zd (by unfold RA;exact⟨v0,vs,0,xM,rfl,by decide,rz.held s2 r1.xO fun _ z=>z.elim,ar.ra r2⟩) e1 fun v H3 nw=>?_
    obtain⟨Pw,s3,h1,r3,n3⟩:=Af.go (s'.trans s2) r2 nw;exact q d m2 g2 P2 Pw v H3 e2 (ag.trans yY) s3 h1 r3 n3
def kO(f g:Ev Dv):Ev Dv:=fun R m k=>(f R m k).or (g R m k)
variable {Q:VK}
theorem gE{K:W.Frag}{f g:Ev Dv}(h:tE K Γ o Γ' js (kO f g) σ H Q):tE K Γ o Γ' js f σ H Q\/tE K Γ o Γ' js g σ H Q:=by
 obtain⟨g0,m,P,r,R,k,res,e,q⟩:=h;unfold kO at e;cases e1:f R m k with
 | some z=>rw[e1] at e;exact .inl ⟨g0,m,P,r,R,k,z,e1,by cases e;exact q⟩
 | none=>rw[e1] at e;exact .inr ⟨g0,m,P,r,R,k,res,e,q⟩
def Xg(i:Nat)(p:Dv->Dv->Dv->Option Dv)(d:Dv)(fk:Ev (List Dv)):Ev Unit:=fun R m k=>fk R m fun ks m2=>match ks with | [j]=>(p (m2.at i) j d).bind fun y=>k () (m2.set i y) | _=>none
noncomputable def RV(d:Dv):Option (Dv×Dv):=match d with
 | .tup [a,b]=>some (a,b)
 | _=>none
def fA(i:Nat)(p:Dv->Dv->Dv->Option Dv)(f:Ev Dv)(f1 f2:Ev (List Dv)):Es:=fun R m k=>f R m fun d m1=>(RV d).bind fun t=>Xg i p t.1 f1 R m1 fun _ m2=>Xg i p t.2 f2 R m2 fun _ m3=>k.nx m3
section
variable {K:W.Frag} {F:Fr} {xN:Option Gm} {Γ xY Γ' zBw:Gm} {js js2 js3:List Nat} {i:Nat} {f:Ev Dv} {a b:Ar} {p:Dv->Dv->Dv->Option Dv} {T:KH}
theorem RQ(hp:Uo K p T)(c:AD xY [a] Γ' js2)(h0:∃o,xY[i]?=some (some o))(hi:Γ'[i]?=some (some 1)){g1:G}{m1:M}{P1:Fp}{H1:Hp}{R:Type}{k:Unit->M->Option R}{res:R}{u:V}{Q:St->Hp->Prop}(r1:Rel K g1 H1 xY m1 σ P1)(rz:Rep K g1 H1 0 d u xM)(hk:Xg i p d (AR [a]) R m1 k=some res)
    (q:∀m' g' P' H',k () m'=some res->Ba (js2++[i]) m1 m'->Step g1 P1 H1 g' P' H'->Rel K g' H' Γ' m' σ P'->Q σ H'):Tt (DE i) (Fk K a) T u σ H1 Q:=by
  obtain⟨o0,h0⟩:=h0;obtain⟨v0,P0,y9,_,_⟩:=r1.z7 h0;refine⟨v0,y9,?_⟩;have key:BM K [a] σ H1 fun vs H2=>∃w,vs=[w]/\T v0 w u H2 fun H3=>Q σ H3:=by
    refine AM [a] r1 c hk fun ds m2 g2 P2 vs H2 x9 yY s2 ar r2=>?_
    have al:=ar.len;have ra:=ar.ra r2
    match ds,al.1,x9,ra with
    | [j],_,x9,ra =>
      have ra0:=ra;unfold RA at ra;obtain⟨w,wr,o,Po,rfl,_,h1,h2⟩:=ra;unfold RA at h2;subst h2;obtain⟨y,e1,e2⟩:=xI x9;obtain⟨v,Pa,Pr,ev,em,rx,r3,n3,hP⟩:=r2.take hi;rw[y9] at ev;cases ev;refine⟨w,rfl,hp g2 H2 _ v0 Pa j w d u y _ r2.zd rx ra0 (rz.held s2 r1.xO fun _ z=>z.elim) e1 fun H3 P' s3 ry=>?_⟩;have r4:=r3.held s3 rx.xO fun a q z=>n3 a z q
      have n4:=s3.out r3.xO fun a q z=>n3 a z q
      obtain⟨P5,r5,sp⟩:=r4.putIn (B3.mp hi).1 y9 ry fun a q z=>n4 a z q
      rw[CW hi] at r5;exact q _ g2 P5 H3 e2 (yY.trans Ba.set) (s2.trans ((s3.frame (R:=Pr)).sub (fun a z=>(hP a).mpr z) fun a z=>sp a z)) r5
  have mono:∀(Q1 Q2:VK),(∀v H,Q1 v H->Q2 v H)->Fk K a σ H1 Q1->Fk K a σ H1 Q2:=by
    intro Q1 Q2 h12 t;cases a with
    | ev Γa Γb ja fa =>
      obtain⟨g,m,P,r,R,k,res,e,q⟩:=t;exact⟨g,m,P,r,R,k,res,e,fun d m' g' P' Pv v H' h1 h2 h3 h4 h5 h6=>h12 _ _ (q d m' g' P' Pv v H' h1 h2 h3 h4 h5 h6)⟩
    | rf i=>obtain⟨v,e,q⟩:=t;exact⟨v,e,h12 _ _ q⟩
    | fd i f=>obtain⟨v,e,a,C,dx,fs,w,h1,h2,h3,h4,h5,q⟩:=t;exact⟨v,e,a,C,dx,fs,w,h1,h2,h3,h4,h5,h12 _ _ q⟩
  refine mono _ _ (fun v H2 z=>?_) key;obtain⟨w,ew,z⟩:=z;cases ew;exact z
theorem Zz(hp:Uo K p T)(c:AD xY [a] Γ' js2)(c2:AD Γ' [b] zBw js3)(h0:∃o,xY[i]?=some (some o))(hi:Γ'[i]?=some (some 1))(hi2:zBw[i]?=some (some 1))(h:tS K F xN Γ (some zBw) (js++((js2++[i])++(js3++[i]))) (fA i p f (AR [a]) (AR [b])) D σ H):Jy (tE K Γ 0 xY js f) (br K 2 (Cq (Tt (DE i) (Fk K a) T) (Cq (Tt (DE i) (Fk K b) T) MI))) D σ H:=by
 obtain⟨g,m,P,r,R,k,res,e,q⟩:=h;refine⟨g,m,P,r,R,_,res,e,fun d m1 g1 P1 Pv u H1 hk ag s rv r1 n=>?_⟩;have rz:=rv.z;have s':Step g P H g1 P1 H1:=s.less fun _ z=>.inl z
 obtain⟨⟨d1,d2⟩,ed,hk'⟩:=xI hk;unfold RV at ed;split at ed
 ·cases ed;unfold Rep at rz;obtain⟨l,us,rfl,h1,h2⟩:=rz;obtain⟨u1,us1,rfl,ru1,h3⟩:=Az h2;obtain⟨u2,us2,rfl,ru2,h4⟩:=Az h3;cases Ay h4;refine⟨l,[u1,u2],rfl,.inl (.inl h1),rfl,u1,[u2],rfl,?_⟩;refine RQ hp c h0 hi r1 ru1 hk' fun m2 g2 P2 H2 x9 yY s2 r2=>?_
  refine⟨u2,[],rfl,?_⟩;refine RQ hp c2 ⟨_,hi⟩ hi2 r2 (ru2.held s2 r1.xO fun _ z=>z.elim) x9 fun m3 g3 P3 H3 hk3 ag3 s3 r3=>?_
  exact⟨rfl,q.nx zBw _ g3 P3 σ H3 rfl hk3 (ag.trans (yY.trans ag3)) ((s'.trans s2).trans s3) Io.refl r3⟩
 ·cases ed
end
def MM(T:String)(i:Nat)(f:Str)(p:Mu)(fa:Ev (List Dv)):Ev Dv:=fun R m k=>bif Br (m.at i) f then(GP (m.at i) f).bind fun x0=>EC T x0 (fa R m fun ds m1=>(GP (m1.at i) f).bind fun x=>(p x ds).bind fun r=>k r.1 (m1.set i (BY (m1.at i) f r.2))) else none
section
variable {K:W.Frag} {g:G} {H:Hp} {σ:St} {Γ Γ':Gm} {js:List Nat} {as:List Ar}
theorem LC{f:Str}(h:Br d f=true):∃x,GP d f=some x/\bo x=true:=by
 unfold Br at h;cases e:GP d f with
 | none=>rw[e] at h;cases h
 | some x=>rw[e] at h;exact⟨x,rfl,h⟩
theorem Wk{i:Nat}{f:Str}{p:Mu}{R:V->List V->Hp->VK->Prop}(hR:Qp K p R)(hT:T = "list" \/ T = "str" \/ T = "int" \/ T = "dict")(c:AD Γ as Γ' js)(he:QP as=true)(h0:∃o,Γ[i]?=some (some o))(hi:Γ'[i]?=some (some 1)){Q:VK}
    (h:tE K Γ 0 Γ' (js++[i]) (MM T i f p (AR as)) σ H Q):gJ K T R (Sg K (DE i) f) (BM K as) σ H Q:=by
  obtain⟨g,m,P,r,R',k,res,e,q⟩:=h;unfold MM at e;cases hr:Br (m.at i) f with
  | false=>rw[hr] at e;cases e
  | true =>
    rw[hr] at e;obtain⟨x0,hx0,hrf⟩:=LC hr;rw[hx0] at e;obtain⟨e0,e⟩:=DY (show EC T x0 _=some res from e);obtain⟨o0,h0⟩:=h0;obtain⟨v0,P0,y9,rv0,_⟩:=r.z7 h0;obtain⟨a,C,dx,fs,w,_,_,rfl,h1,hc,hn,hl,yH,_⟩:=Dp rv0 hx0;obtain⟨rr,rfl⟩:=JT yH hrf;refine⟨_,y9,a,C,dx,fs,_,rfl,h1,hc,hn,hl,La yH e0 hT,AM as r c e fun ds m1 g1 P1 vs H1 hk ag s ar r1=>?_⟩;obtain⟨x,ex,hk⟩:=xI hk;obtain⟨⟨rs,y⟩,e1,e2⟩:=xI hk;obtain⟨v,Pa,Pr,ev,em,rv,r2,n,hP⟩:=r1.take hi;rw[y9] at ev;cases ev;obtain⟨fs',h1',zu⟩:=s.ins a C dx fs h1;obtain⟨a2,C2,dx2,oP,w2,F1,F2,ea,h12,_,_,yW,rw2,dj,hPa,mk⟩:=Dp rv ex;cases ea;rw[h1'] at h12;cases h12;rw[zu f rr hl] at yW;cases yW;refine hR g1 H1 _ (.ref rr) F1 ds vs rs y Q r1.zd rw2 (ar.zAQ he) e1 fun w H2 P' s2 ry rr'=>?_
    have ro:=mk s2 ry;have sF:Step g1 Pa H1 g1 (fun b=>P' b\/F2 b) H2:=(s2.frame (R:=F2)).sub (fun b z=>(hPa b).mpr z) fun _ z=>z
    have r3:=r2.held sF rv.xO fun a q z=>n a z q
    have n3:=sF.out r2.xO fun a q z=>n a z q
    have hil:i < Γ'.length:=(B3.mp hi).1;obtain⟨P4,r4,sp⟩:=r3.putIn hil y9 ro fun a q z=>n3 a z q
    rw[CW hi] at r4;refine q rs _ g1 P4 xM w H2 e2 (ag.trans Ba.set) (s.trans ((sF.frame (R:=Pr)).sub (fun a z=>(hP a).mpr z) fun a z=>z.elim (fun z=>sp a z) E5)) rr' r4 fun _ _ z=>z
end
def Xf(i:Nat)(f:Str)(p:Dv->Dv->Dv->Option Dv)(fe:Ev Dv)(fk:Ev (List Dv)):Es:=fun R m k=>fe R m fun d m1=>bif Br (m1.at i) f then fk R m1 fun ks m2=>(match ks with | [j]=>(GP (m2.at i) f).bind fun x=>(p x j d).bind fun y=>k.nx (m2.set i (BY (m2.at i) f y)) | _=>none) else none
section
variable {K:W.Frag} {F:Fr} {xN:Option Gm} {Γ xY Γ':Gm} {js js2:List Nat} {i:Nat} {f:Str} {fe:Ev Dv} {a:Ar} {p:Dv->Dv->Dv->Option Dv} {T:KH}
theorem dC{H1:Hp}{Q1 Q2:VK}(h12:∀v H,Q1 v H->Q2 v H)(t:Fk K a σ H1 Q1):Fk K a σ H1 Q2:=by
 cases a with
 | ev Γa Γb ja fa =>
  obtain⟨g,m,P,r,R,k,res,e,q⟩:=t;exact⟨g,m,P,r,R,k,res,e,fun d m' g' P' Pv v H' h1 h2 h3 h4 h5 h6=>h12 _ _ (q d m' g' P' Pv v H' h1 h2 h3 h4 h5 h6)⟩
 | rf i=>obtain⟨v,e,q⟩:=t;exact⟨v,e,h12 _ _ q⟩
 | fd i f=>obtain⟨v,e,a,C,dx,fs,w,h1,h2,h3,h4,h5,q⟩:=t;exact⟨v,e,a,C,dx,fs,w,h1,h2,h3,h4,h5,h12 _ _ q⟩
theorem Vi(hp:Uo K p T)(c:AD xY [a] Γ' js2)(h0:∃o,xY[i]?=some (some o))(hi:Γ'[i]?=some (some 1))(h:tS K F xN Γ (some Γ') (js++(js2++[i])) (Xf i f p fe (AR [a])) D σ H):Jy (tE K Γ 0 xY js fe) (Tt (Sg K (DE i) f) (Fk K a) T) D σ H:=by
 obtain⟨g,m,P,r,R,k,res,e,q⟩:=h;refine⟨g,m,P,r,R,_,res,e,fun d m1 g1 P1 Pv u H1 hk ag s rv r1 n=>?_⟩;cases hr:Br (m1.at i) f with
 | false=>rw[hr] at hk;cases hk
 | true =>
  rw[hr] at hk;obtain⟨x0,hx0,hrf⟩:=LC hr;obtain⟨o0,h0⟩:=h0;obtain⟨v0,P0,y9,rv0,_⟩:=r1.z7 h0;obtain⟨ao,C,dx,fs,w,_,_,rfl,h1,hc,hn,hl,yH,_⟩:=Dp rv0 hx0;obtain⟨rr,rfl⟩:=JT yH hrf;refine⟨_,y9,ao,C,dx,fs,_,rfl,h1,hc,hn,hl,?_⟩;have rz:=rv.z;have s':Step g P H g1 P1 H1:=s.less fun _ z=>.inl z
  have key:BM K [a] σ H1 fun vs H2=>∃w,vs=[w]/\T (.ref rr) w u H2 fun H3=>D.nx σ H3:=by
   refine AM [a] r1 c hk fun ds m2 g2 P2 vs H2 x9 yY s2 ar r2=>?_
   have al:=ar.len;have ra:=ar.ra r2
   match ds,al.1,x9,ra with
   | [j],_,x9,ra =>
    have ra0:=ra;unfold RA at ra;obtain⟨w,wr,o,Po,rfl,_,h1w,h2w⟩:=ra;unfold RA at h2w;subst h2w;obtain⟨x,ex,x9⟩:=xI x9;obtain⟨y,e1,e2⟩:=xI x9;obtain⟨v,Pa,Pr,ev,em,rx,r3,n3,hP⟩:=r2.take hi;rw[y9] at ev;cases ev;obtain⟨fs',h1',zu⟩:=s2.ins ao C dx fs h1;obtain⟨a2,C2,dx2,oP,w2,F1,F2,ea,h12,_,_,yW,rw2,dj,hPa,mk⟩:=Dp rx ex;cases ea;rw[h1'] at h12;cases h12;rw[zu f rr hl] at yW;cases yW;refine⟨w,rfl,hp g2 H2 _ (.ref rr) F1 j w d u y _ r2.zd rw2 ra0 (rz.held s2 r1.xO fun _ z=>z.elim) e1 fun H3 P' s3 ry=>?_⟩;have ro:=mk s3 ry;have sF:Step g2 Pa H2 g2 (fun b=>P' b\/F2 b) H3:=(s3.frame (R:=F2)).sub (fun b z=>(hPa b).mpr z) fun _ z=>z
    have r4:=r3.held sF rx.xO fun a q z=>n3 a z q
    have n4:=sF.out r3.xO fun a q z=>n3 a z q
    obtain⟨P5,r5,sp⟩:=r4.putIn (B3.mp hi).1 y9 ro fun a q z=>n4 a z q
    rw[CW hi] at r5;exact q.nx Γ' _ g2 P5 σ H3 rfl e2 (ag.trans (yY.trans Ba.set)) ((s'.trans s2).trans ((sF.frame (R:=Pr)).sub (fun a z=>(hP a).mpr z) fun a z=>sp a z)) Io.refl r5
  refine dC (fun v H2 z=>?_) key;obtain⟨w,ew,z⟩:=z;cases ew;exact z
end
noncomputable def Ds(x:Dv)(f:Str)(d:Dv):Option Dv:=match x with
 | .obj c fl nm xs=>bif !nm.contains f && fl.contains f && decide (nm.length < 900) then some (.obj c fl (nm++[f]) (xs++[d])) else none
 | _=>none
def Xp(i:Nat)(f:Str)(o:Nat)(fe:Ev Dv):Es:=fun R m k=>fe R m fun d m1=>bif o == 1 || TL d then(Ds (m1.at i) f d).bind fun y=>k.nx (m1.set i y) else none
theorem JG{f:Str}{u:V}:∀{nm:List Str} {vs:List V},nm.contains f=false->nm.length=vs.length->ET f u (nm.zip vs)=(nm++[f]).zip (vs++[u])
 | [],[],_,_=>rfl
 | [],_::_,_,h=>by cases h
 | _::_,[],_,h=>by cases h
 | n::nm,v::vs,h,hl=>by
  rw[l7,uJ] at h;have hn:n≠f:=fun z=>by subst z;simp at h
  rw[J8];show(if n=f then _ else _)=_;rw[if_neg hn,JG h.2 (by simpa using hl)];rfl
theorem HJ{f:Str}:∀{nm:List Str} {vs:List V},nm.contains f=false->(nm.zip vs).lookup f=none
 | [],_,_=>by simp
 | _::_,[],_=>by simp
 | n::nm,v::vs,h=>by
  rw[l7,uJ] at h;rw[J8,G1,h.1];exact HJ h.2
theorem Xb{K:W.Frag}{F:Fr}{xN:Option Gm}{i:Nat}{f:Str}{fe:Ev Dv}(ho:o<=1)(hi:Γ'[i]?=some (some 1))(h:tS K F xN Γ (some Γ') (js++[i]) (Xp i f o fe) D σ H):mW K (DE i) (tE K Γ o Γ' js fe) f D σ H:=by
 obtain⟨g,m,P,r,R,k,res,e,q⟩:=h;refine⟨g,m,P,r,R,_,res,e,fun d m1 g1 P1 Pv u H1 hk ag s rv r1 n=>?_⟩;have rep1:(o == 1 || TL d)=true->∃Pw,Rep K g1 H1 1 d u Pw/\∀b,Pw b->Pv b:=fun z=>by
  rcases Bool.or_eq_true_iff.mp z with z | z
  ·rw[beq_iff_eq.mp z] at rv;exact⟨Pv,rv,fun _ q=>q⟩
  ·exact⟨xM,MD rv z,fun _ q=>q.elim⟩
 cases c:(o == 1 || TL d) with
 | false=>rw[c] at hk;cases hk
 | true =>
  rw[c] at hk;obtain⟨y,ey,hk⟩:=xI (show(Ds (m1.at i) f d).bind _=some res from hk);obtain⟨Pw,yH,sw⟩:=rep1 c;obtain⟨v,Pa,Pr,ev,em,ra,r2,n2,hP⟩:=r1.take hi;have okA:=ra.xO;cases hx:m1.at i with
  | obj c fl nm xs =>
   rw[hx] at ey ra;unfold Ds at ey;simp only at ey;cases hc:(!nm.contains f && fl.contains f && decide (nm.length < 900)) with
   | false=>rw[hc] at ey;cases ey
   | true =>
    rw[hc] at ey;cases ey;simp only[A2,N7,decide_eq_true_eq] at hc;obtain⟨⟨hc1,hc2⟩,hc3⟩:=hc;unfold Rep at ra;obtain⟨a,dx,vs,R',rfl,h1,h2,h3,⟨hcl,hl,hnf⟩,h6,h7,h4⟩:=ra;have lv:nm.length=vs.length:=by rw[hl,h6.len]
    refine⟨_,ev,a,_,dx,_,rfl,h1,hcl.1,hcl.2 f (C7.mp hc2),by rw[Z8];omega,?_⟩;rw[JG hc1 lv];have pa:Pa a:=(h4 a).mpr (.inl ⟨by decide,rfl⟩);have hz:=h3 (by decide);have oka:xS g1 H1 fun b=>b=a:=fun b z=>by subst z;exact⟨by rw[h1];trivial,hz⟩
    have st:Step g1 (fun b=>b=a) H1 g1 (fun b=>b=a) (upd H1 a (.ins (Dd K c) dx ((nm++[f]).zip (vs++[u])))):=by
     have dm:∀b,L2.upd H1 a (.ins (Dd K c) dx ((nm++[f]).zip (vs++[u]))) b=none->H1 b=none:=fun b z=>by
      by_cases hb:b=a
      ·subst hb;rw[AH] at z;cases z
      ·rw[AG hb] at z;exact z
     refine⟨fun b o hb nb=>by rw[AG nb];exact hb,dm,fun _ z=>z,fun _ z=>.inl z,⟨[],by simp⟩,fun b z=>.inl z,fun z b hb e=>z b hb (dm b e),fun b C' dx' fs' hb=>?_⟩
     by_cases z:b=a
     ·subst z;rw[h1] at hb;cases hb;refine⟨_,AH,fun f' r' hr=>?_⟩;rw[<- JG hc1 lv,EX]
      by_cases zf:f'=f
      ·subst zf;rw[HJ hc1] at hr;cases hr
      ·rw[if_neg zf];exact hr
     ·exact⟨fs',by rw[AG z];exact hb,fun _ _ q=>q⟩
    have na:¬Pw a:=fun z=>n a ((hP a).mpr (.inl pa)) (sw a z)
    have rd:=yH.held st oka fun b q z=>na (z▸q)
    have rx:=h6.held st oka fun b q z=>h7 (z▸q)
    have dj:Bi R' Pw:=fun b q z=>n b ((hP b).mpr (.inl ((h4 b).mpr (.inr q)))) (sw b z)
    have ro:Rep K g1 (upd H1 a (.ins (Dd K c) dx ((nm++[f]).zip (vs++[u])))) 1 (.obj c fl (nm++[f]) (xs++[d])) (.ref a) fun b=>Pa b\/Pw b:=by
     unfold Rep;refine⟨a,dx,vs++[u],fun b=>R' b\/Pw b,rfl,AH,(fun z=>by cases z),fun _=>hz,⟨hcl,by simp[hl],fun x hx=>?_⟩,?_,fun z=>z.elim h7 na,fun b=>?_⟩
     ·rcases C0.mp hx with z | z
      ·exact hnf x z
      ·rw[D2.mp z];exact C7.mp hc2
     ·exact AC.app rx ((AC.cons rd AC.nil fun _ _ z=>z).iff fun b=>⟨.inl,fun z=>z.elim id E5⟩) dj
     ·show Pa b\/Pw b↔(1≠0/\b=a)\/R' b\/Pw b;rw[h4 b];exact⟨fun z=>z.elim (fun z=>z.elim .inl fun z=>.inr (.inl z)) fun z=>.inr (.inr z),fun z=>z.elim (fun z=>.inl (.inl z)) fun z=>z.elim (fun z=>.inl (.inr z)) .inr⟩
    have stP:Step g1 Pa H1 g1 Pa (upd H1 a (.ins (Dd K c) dx ((nm++[f]).zip (vs++[u])))):=(st.frame (R:=Pa)).sub (fun b z=>z.elim (fun z=>z▸pa) id) fun b z=>.inr z
    have r3:=r2.held stP okA fun a q z=>n2 a z q
    have dr:Bi (fun b=>Pa b\/Pw b) Pr:=fun b q z=>q.elim (fun q=>n2 b q z) fun q=>n b ((hP b).mpr (.inr z)) (sw b q)
    obtain⟨P5,r5,sp⟩:=r3.putIn (B3.mp hi).1 ev ro dr;rw[CW hi] at r5;refine q.nx Γ' _ g1 P5 σ _ rfl hk (ag.trans Ba.set) (s.trans ((stP.frame (R:=fun b=>Pr b\/Pv b)).sub (fun b z=>?_) fun b z=>?_)) Io.refl r5
    ·rcases z with z | z | z
     ·exact .inl ((hP b).mpr (.inl z))
     ·exact .inl ((hP b).mpr (.inr z))
     ·exact .inr z
    ·rcases sp b z with z | z
     ·exact z.elim .inl fun z=>.inr (.inr (sw b z))
     ·exact .inr (.inl z)
  | _=>rw[hx] at ey;cases ey
noncomputable def Fg(d:Dv)(c mt:Str):Bool:=match d with
 | .obj c' _ nm _=>c' == c && !nm.contains mt
 | _=>false
def MN(s:xZ)(c mt:Str)(i:Nat)(as:List Ar):Ev Dv:=fun R m k=>bif Fg (m.at i) c mt then MP s (.rf i::as) R m k else none
section
variable {K:W.Frag} {Γ Γ':Gm} {js:List Nat} {as:List Ar} {σ:St} {H:Hp} {i:Nat} {s:xZ} {cl mt:Str}
theorem Wt(c:AD Γ (.rf i::as) Γ' js)(hs:df (.rf i::as) s.io=true)(hn:(Ar.rf i::as).length=s.ps.length)(nd:s.io.Nodup)(yd:∀i∈s.io,i < s.ps.length)(hl:∀j∈slots (.rf i::as) s.io,Γ'[j]?=some (some 1)){Q:VK}
    (h:tE K Γ s.ro Γ' (js++slots (.rf i::as) s.io) (MN s cl mt i as) σ H Q):RD (Dd K cl) mt (Mt K s) [] E0 (DE i) (BM K as) σ H Q:=by
  obtain⟨g,m,P,r,R,k,res,e,q⟩:=h;unfold MN at e;cases ho:Fg (m.at i) cl mt with
  | false=>rw[ho] at e;cases e
  | true =>
    rw[ho] at e;have c0:=c;unfold AD at c0;obtain⟨⟨o,hgo⟩,_,_⟩:=c0;obtain⟨v0,P1,hv,rv,_⟩:=r.z7 hgo;obtain⟨v1,ev1,rest⟩:=OY c hs hn nd yd hl ⟨g,m,P,r,R,k,res,e,q⟩;rw[hv] at ev1;cases ev1;cases hx:m.at i with
    | obj c' fl nm xs =>
      rw[hx] at ho rv;unfold Fg at ho;simp only[A2,beq_iff_eq,N7] at ho;obtain⟨rfl,ho⟩:=ho;unfold Rep at rv;obtain⟨a,dx,vs,R',rfl,h1,_⟩:=rv;refine⟨_,hv,a,dx,_,rfl,h1,HJ ho,?_⟩;have e2:(fun(vs:List V) (H2:Hp)=>Mt K s (V.ref a::(vs++[])) H2 Q E0)=fun vs H2=>Mt K s (V.ref a::vs) H2 Q E0:=by funext vs H2;rw[K0]
      rw[e2];exact rest
    | _=>rw[hx] at ho;cases ho
noncomputable def jF{R:Type}(d:Dv)(bs:List Dv)(k:Dv->Option R):Option R:=match d,bs with
 | .xQ,[o]=>k o
 | _,_=>none
theorem Ws{R:Type}{bs:List Dv}{k:Dv->Option R}{r:R}(h:jF d bs k=some r):d=.xQ/\∃o,bs=[o]/\k o=some r:=by
 unfold jF at h;split at h
 ·exact⟨rfl,_,rfl,h⟩
 ·cases h
def QQ(s:xZ)(c:Str)(fl:List Str)(as:List Ar):Ev Dv:=fun R m k=>AR as R m fun ds m1=>s.cps R (.obj c fl [] []::ds) fun d bs=>jF d bs fun o=>k o m1
theorem Ww{fl:List Str}(hc:dH K cl fl)(hs:s.io=[0])(hn:as.length+1=s.ps.length)(he:QP as=true)(c:AD Γ as Γ' js)(h:tE K Γ 1 Γ' js (QQ s cl fl as) σ H Q):RE (Dd K cl) (Mt K s) [] E0 (BM K as) σ H Q:=by
 obtain⟨g,m,P,r,R,k,res,e,q⟩:=h;refine AM as r c e fun ds m1 g1 P1 vs H1 hk ag st ar r1=>fun x dx hx hd nx=>?_
 rw[s.eq] at hk;obtain⟨⟨d,bs⟩,e1,e2⟩:=xI hk;obtain⟨rfl,ob,rfl,e2⟩:=Ws e2;rw[K0];have sm1:Oq H1 (upd H1 dx (.own x)):=Cb hd _;have hx':upd H1 dx (.own x) x=none:=by rw[AG fun z=>nx z.symm];exact hx
 have sm:Oq H1 (upd (upd H1 dx (.own x)) x (.ins (Dd K cl) dx [])):=fun b o hb=>Cb hx' _ b o (sm1 b o hb)
 have hz:¬g1.Z x:=fun z=>r1.zd x z hx
 have nw:Af K g1 H1 1 (.obj cl fl [] []) (.ref x) (upd (upd H1 dx (.own x)) x (.ins (Dd K cl) dx [])):=by
  refine⟨sm,fun b=>b=x,?_,fun a z=>z▸hx⟩;unfold Rep;exact⟨x,dx,[],xM,rfl,AH,(fun z=>by cases z),fun _=>hz,⟨hc,rfl,fun _ z=>by cases z⟩,AC.nil,fun z=>z,fun b=>⟨fun z=>.inl ⟨by decide,z⟩,fun z=>z.elim (fun z=>z.2) E5⟩⟩
 obtain⟨Pv,s1,ro,r2,n1⟩:=Af.go st r1 nw;have rds:=(ar.zAQ he).held (Step.same (g:=g1) (P:=xM) sm) xS.xM fun _ _ z=>z
 have al:=ar.len;have rA:Rel K g1 (upd (upd H1 dx (.own x)) x (.ins (Dd K cl) dx [])) (Ov s.ps.length s.io) (.obj cl fl [] []::ds) ((V.ref x::vs).map some) Pv:=by
  refine⟨r2.zd,fun i b=>i=0/\Pv b,⟨by unfold Ov;simp;omega,by unfold Ov;simp;omega,fun i o ei=>?_,fun i ei b z=>?_,fun i j n b z w=>n (z.1.trans w.1.symm)⟩,fun b=>⟨fun z=>⟨0,rfl,z⟩,fun⟨_,_,z⟩=>z⟩⟩
  ·obtain⟨hi,eo⟩:=FB ei;rw[hs] at eo;cases i with
   | zero =>
    have:o=1:=D0 eo;subst this;have eq:(fun b=>(0=0/\Pv b))=Pv:=funext fun b=>propext ⟨fun z=>z.2,fun z=>⟨rfl,z⟩⟩
    exact⟨_,_,rfl,rfl,by rw[eq];exact ro⟩
   | succ i =>
    have:o=0:=D0 eo;subst this;obtain⟨v,_,ev,rv,_⟩:=rds.get (A3 (by omega:i < ds.length));have eq:(fun b=>(i+1=0/\Pv b))=xM:=FF fun b z=>by cases z.1
    exact⟨_,v,by rw[W5];exact A3 (by omega),by rw[B6,W5,C9,ev];rfl,by rw[eq];exact rv.z⟩
  ·obtain⟨rfl,z⟩:=z;refine ei 1 ?_;unfold Ov;rw[C9,N9 (by omega),hs];rfl
 refine⟨g1,_,Pv,rA,.xQ,[ob],e1,fun g' H' v Pw Pb s2 rv hb n=>?_⟩;refine⟨by unfold Rep at rv;exact rv.1,?_⟩;have r3:=r2.held s2 ro.xO n1;have n3:=s2.out r2.xO n1;unfold Bk at hb;rw[hs] at hb;obtain⟨v1,P4,ev1,rb,sb⟩:=hb.z7 (i:=0) (o:=1) rfl;have ev1:some (some (V.ref x))=some (some v1):=ev1;cases ev1;exact q ob m1 g' P1 P4 (.ref x) H' e2 ag (s1.trans ((s2.frame (R:=P1)).sub (fun a z=>z.symm) fun a z=>z.elim .inr fun z=>.inl (.inr (sb a z)))) rb r3 fun a z w=>n3 a z (.inr (sb a w))
end
end R
namespace L2
open PySem PySem.Spec PyProof.Rows
open AutoSeq1 (wpAny_loadPart')
section
variable {X:Cx} {p1 p2 zBZ xw:Pos} {es:List Expr} {e:Expr} {ta:TA}
abbrev Zx(ta:TA):TE:=fun σ H Q=>ta σ H fun vs H1=>∃(i j:Int),(vs=[.int j]/\i=0\/vs=[.int i,.int j])/\(-(2 ^ 62)<=i/\i < 2 ^ 62/\-(2 ^ 62)<=j/\j < 2 ^ 62)/\(j - i).toNat<=1000000/\∀l,H1 l=none->Q (.ref l) (upd H1 l (.tup ((B1 (j - i).toNat).map fun k=>.int (i+(k:Nat)))))
end
end L2
namespace L2
open PySem PySem.Spec PyProof.Rows
section
variable {X:Cx} {a e:Expr} {ta te:TE} {p pos kp:Pos}
def sH(K:W.Frag)(x y:V)(H:Hp)(Q:VK):Prop:=∃(l:B5) (ns:List Int) (d:Int),x=.ref l/\y=.int d/\DO K H l (ns.map V.int)/\∀M,(ns=[]/\M=d\/M∈ns/\∀a,a∈ns->a<=M)->Q (.int M) H
end
end L2
namespace R
open PySem L2
def Gx(X:Cx):Prop:=X.calm=true/\∃j,xW j X.A
noncomputable def two{α:Type}(f:Dv->Dv->Option α)(ds:List Dv):Option α:=match ds with | [a,b]=>f a b | _=>none
noncomputable def one{α:Type}(f:Dv->Option α)(ds:List Dv):Option α:=match ds with | [a]=>f a | _=>none
noncomputable def BV:Expr->Bool
 | .Starred _ _=>false
 | _=>true
structure zEc where
 op:uB
 f:Dv->Dv->Option Dv
 ok:∀X,Gx X->∃r,Ct X (binaryOp op) r/\AJ X.K (two f) 1 (LZ r)
structure zEb where
 op:m9
 f:Dv->Dv->Option Bool
 ok:∀X,Gx X->∃r,Ct X (G4 op) r/\AJ X.K (fun ds=>(two f ds).map .bl) 0 (LZ r)
structure zBv where
 x:Str
 n:Nat
 o:Nat
 f:List Dv->Option Dv
 ok:∀X,Gx X->∃r,AJ X.K f o r/\((∃id,BI X (.builtin id) r/\Q3 x=some (.builtin id))\/∃T,BI X (.type T) r/\Q3 x=some (.type T))
abbrev rS(T:String):Prop:=T = "list" \/ T = "str" \/ T = "int" \/ T = "dict"
structure zBH where
 x:Str
 n:Nat
 T:String
 o:Nat
 f:List Dv->Option Dv
 hT:rS T\/T = "tuple" /\ n=1
 ok:∀X,Gx X->∃id r,tH T/\Slot T x id/\wc (.builtin id)=pure (.type "method_descriptor")/\Us X id r/\AJ X.K f o (lT r)
structure zBt where
 x:Str
 n:Nat
 T:String
 p:Mu
 hT:rS T
 ok:∀X,Gx X->∃id r,tH T/\Slot T x id/\wc (.builtin id)=pure (.type "method_descriptor")/\Us X id r/\Qp X.K p r
noncomputable def Nw:Expr->Bool
 | .Tuple _ _ _=>true
 | _=>false
structure zDg where
 x:Str
 n:Nat
 tt:Bool
 f:List Dv->Option (List Dv)
 ok:∀X,Gx X->∃r,Zc X.K f r/\∀tg es p pos ta,(tt=true->Nw tg=true)->es.length=n->es.all BV=true->Gl X x->X.mg x=none->PA X es ta->PI X tg (.Call (.Name x p) es [] pos) (eV r ta)
def rO:Qo:=fun vs H1 Q=>NC (fun _ H R=>R vs H) [] H1 Q
def sG:Qo:=fun vs H1 Q=>Zx (fun _ H R=>R vs H) [] H1 Q
def rK(K:W.Frag):R2:=fun x y H2 Q=>∃a xs b,x=.ref a/\y=.int (-1)/\Oy K H2 a xs b/\∀p,H2 p=none->Q (.ref p) (upd H2 p (bif b then .tup xs.reverse else .lst xs.reverse))
def sI(K:W.Frag):V->Hp->VK->Prop:=fun v H1 Q=>∃a xs,v=.ref a/\DO K H1 a xs/\∀l,H1 l=none->Q (.ref l) (upd H1 l (.lst xs.reverse))
structure Tb where
 zDe:List zEc
 zBP:List zEb
 calls:List zBv
 meths:List zBH
 zDE:List zBt
 zCy:List zDg
 ix:Dv->Dv->Option Dv
 zDJ:∀X,Gx X->∃r,SU X r/\AJ X.K (two ix) 0 (LZ r)
 sl:Dv->Option Int->Option Int->Option Dv
 zCz:∀X,Gx X->∃r,Ur X r/\∀lo hi,AJ X.K (one fun d=>sl d lo hi) 1 (pT fun x H Q=>r x lo hi H Q)
 tru:Dv->Option Bool
 zCu:∀K g H o d v P b,Rep K g H o d v P->tru d=some b->Zb K v H b
 lr:List Dv->Option Dv
 zDH:∀X,Gx X->AJ X.K lr 1 rO
 tr:List Dv->Option Dv
 zCt:∀X,Gx X->AJ X.K tr 1 sG
 md:Dv->Dv->Option Dv
 zDp:∀X,Gx X->AJ X.K (two md) 1 (LZ (sH X.K))
 rv:Dv->Dv->Option Dv
 zDA:∀X,Gx X->AJ X.K (two rv) 1 (LZ (rK X.K))
 lv:Dv->Option Dv
 zDq:∀X,Gx X->AJ X.K (one lv) 1 (pT (sI X.K))
 st:Dv->Dv->Dv->Option Dv
 zCB:∀X,Gx X->∃T,KL X T/\Uo X.K st T
structure Cf:Type 1 where
 N:List Str
 sc:N4
 fn:Str->Bool
 fs:List (Str×xZ)
 cs:List (Str×Dv)
 bl:List Str
 T:Tb
 F:Fr
 fl:List Str
 rf:List Str
def Fz(P:F8)(w:J0)(K:W.Frag)(mg:Str->Option Value)(base:G7)(fl:List Str)(j:Nat)(x:Str)(s:xZ):Prop:=match s.cl with
 | none=>Fx P w K mg base j x s.ps (Mt K s)
 | some c=>∃j' f fd,j'+1<=j/\xr P w K mg base Qt j' f fd s.ps (Mt K s)/\Binds K fd s.ps []/\Meth K (Dd K c) x f/\dH K c fl/\mg c=some (.ref (Dd K c))/\(x = "__init__" -> Mk K (Dd K c) f)
structure xT (C:Cf) (X:Cx):Prop where
 N:X.N=C.N
 sc:X.env.scope=C.sc
 nd:X.N.Nodup
 calm:X.calm=true
 fn:∀x,C.fn x=true->X.fn x=true
 room:Gx X
 fs:∀x s,(x,s)∈C.fs->s.io.Nodup/\(∀i∈s.io,i < s.ps.length)/\∃j k,j<=k/\xW k X.A/\Fz X.prog X.w X.K X.mg X.base C.fl j x s
 cs:∀x d,(x,d)∈C.cs->∃v u,X.mg x=some u/\RelV v u/\∀g H,Rep X.K g H 0 d v xM
 bl:∀x∈C.bl,X.mg x=none
 xe:X.xe=fun _ _=>False
variable {C:Cf} {X:Cx} {x:Str} {s:xZ}
theorem xT.fx(ok:xT C X)(h:(x,s)∈C.fs/\s.cl=none):s.io.Nodup/\(∀i∈s.io,i < s.ps.length)/\∃j k,j<=k/\xW k X.A/\Fx X.prog X.w X.K X.mg X.base j x s.ps (Mt X.K s):=by
 obtain⟨a,b,j,k,hj,hr,F⟩:=ok.fs x s h.1;unfold Fz at F;rw[h.2] at F;exact⟨a,b,j,k,hj,hr,F⟩
noncomputable def Dh:List Str->Str->Option Nat
 | [],_=>none
 | y::r,x=>if y == x then some 0 else(Dh r x).map (·+1)
theorem Bm:∀{N:List Str} {x:Str} {i:Nat},Dh N x=some i->N[i]?=some x
 | [],_,_,h=>by cases h
 | y::r,x,i,h=>by
  unfold Dh at h;split at h
  ·rename_i e;cases h;rw[beq_iff_eq.mp e];rfl
  ·cases q:Dh r x with
   | none=>rw[q] at h;cases h
   | some j=>rw[q] at h;cases h;simpa using Bm q
noncomputable def XJ(sc:N4)(x:Str):Bool:=match sc.names.lookup x with
 | some .local=>true
 | some .cell=>true
 | some .free=>true
 | _=>false
noncomputable def QJ(sc:N4)(x:Str):Bool:=match sc.names.lookup x with
 | some .globalImplicit=>true
 | _=>false
noncomputable def TJ(x:Str):Bool:=!(x == ("__debug__" : Str)) && !(x == ("__classdict__" : Str)) && !(x == ("__name__" : Str))
def lv(C:Cf)(x:Str):Option Nat:=if XJ C.sc x && TJ x then Dh C.N x else none
def Ow(C:Cf)(e:Expr):Option Nat:=match e with
 | .Name x _=>lv C x
 | _=>none
theorem Cn(h:TJ x=true):(x == ("__debug__" : Str))=false/\(x == ("__classdict__" : Str))=false/\x ≠ "__name__" := by
 unfold TJ at h;simp only[A2,N7] at h;exact⟨h.1.1,h.1.2,fun z=>by rw[z] at h;simp at h⟩
theorem Tj{sc:N4}(h:XJ sc x=true):pq sc x:=by
 unfold XJ at h;unfold pq;split at h
 ·rename_i e;exact .inl e
 ·rename_i e;exact .inr (.inl e)
 ·rename_i e;exact .inr (.inr e)
 ·cases h
theorem DC(ok:xT C X)(h:QJ C.sc x=true):Gl X x:=by
 unfold QJ at h;unfold Gl Env.kindOf;rw[ok.sc];split at h
 ·rename_i e;exact e
 ·cases h
variable {i:Nat} {pos:Pos}
theorem eR(ok:xT C X)(h:lv C x=some i):PE X (.Name x pos) (DE i):=by
 unfold lv at h;split at h
 ·rename_i e;rw[A2] at e;have n:=Cn e.2;exact iK (by rw[ok.N];exact Bm h) (by rw[ok.sc];exact Tj e.1) n.1 n.2.1
 ·cases h
variable {e:Expr}
theorem Bd(ok:xT C X)(h:Ow C e=some i):PE X e (DE i):=by
 cases e with
 | Name x pos=>exact eR ok h
 | _=>cases h
def eZ(C:Cf)(e:Expr):Option (Nat×Str):=match e with
 | .Attribute o f _=>if C.rf.contains f then(Ow C o).map fun i=>(i,f) else none
 | _=>none
variable {o:Expr} {env:Env}
theorem Xa{f:Str}(h:Ow C o=some i):N2 o f env (N1 o env)=N1 o env:=by
 cases o<;>first | rfl | (cases h)
theorem Je(ok:xT C X){q:Nat×Str}(h:eZ C e=some q):PE X e (Sg X.K (DE q.1) q.2):=by
 cases e with
 | Attribute o f pos =>
  unfold eZ at h;simp only at h;split at h
  ·obtain⟨i,hi,rfl⟩:=E6.mp h;exact iS (Bd ok hi) (Xa hi)
  ·cases h
 | _=>cases h
structure CE:Type 1 where
 o:Nat
 Γ:Gm
 js:List Nat
 f:Ev Dv
structure CT:Type 1 where
 Γ:Gm
 js:List Nat
 f:Ev Bool
structure CA:Type 1 where
 as:List Ar
 Γ:Gm
 js:List Nat
structure CI:Type 1 where
 Γ:Gm
 js:List Nat
 f:Ev (List Dv)
structure CS:Type 1 where
 Γ:Option Gm
 js:List Nat
 f:Es
 er:Bool
 eb:Bool
 ec:Bool
structure Rec:Type 1 where
 E:Cf->Gm->Expr->Option CE
 A:Cf->Gm->List Bool->List Expr->Option CA
 T:Cf->Gm->Expr->Option CT
 I:Cf->Gm->Bool->Expr->Option CI
 S:Cf->Option Gm->Gm->M4->Option CS
 Ss:Cf->Option Gm->Gm->List M4->Option CS
abbrev dP(t:TA)(te:TE):TA:=fun σ H Q=>t σ H fun vs H1=>te σ H1 fun x H2=>Q (vs++[x]) H2
structure xb (r:Rec):Prop where
 E:∀{C X Γ e c},xT C X->r.E C Γ e=some c->PE X e (tE X.K Γ c.o c.Γ c.js c.f)
 A:∀{C X Γ md es c},xT C X->r.A C Γ md es=some c->PA X es (BM X.K c.as)/\AD Γ c.as c.Γ c.js/\c.as.length=es.length/\es.all BV=true/\(md=[]->QP c.as=true)
 T:∀{C X Γ e c},xT C X->r.T C Γ e=some c->PT X e (tT X.K Γ c.Γ c.js c.f)
 I:∀{C X Γ e c} (tg),xT C X->r.I C Γ (Nw tg) e=some c->PI X tg e (tI X.K Γ c.Γ c.js c.f)
 S:∀{C X xN Γ s c},xT C X->r.S C xN Γ s=some c->PS X s (tS X.K C.F xN Γ c.Γ c.js c.f)
 Ss:∀{C X xN Γ s c},xT C X->r.Ss C xN Γ s=some c->Ej X s (tS X.K C.F xN Γ c.Γ c.js c.f)
 B:∀{C X Γ md es c},xT C X->r.A C Γ md es=some c->∀{e te},PE X e te->BV e=true->PA X (es++[e]) (dP (BM X.K c.as) te)
def low(Γ:Gm)(i:Nat):Bool:=match Γ.getD i none with
 | some o=>decide (o<=1)
 | none=>false
variable {Γ:Gm}
theorem EW(h:low Γ i=true):∃o,o<=1/\Γ[i]?=some (some o):=by
 unfold low at h;split at h
 ·rename_i o e;exact⟨o,of_decide_eq_true h,Aw e⟩
 ·cases h
def ND(r:Rec)(C:Cf)(Γ:Gm)(md:List Bool)(es:List Expr):Option CA:=match es with
  | []=>some ⟨[],Γ,[]⟩
  | e::es=>if BV e then
      match(if md.headD false then Ow C e else none) with
      | some i=>if(Γ.getD i none).isSome then(r.A C Γ md.tail es).bind fun c=>if low c.Γ i then some ⟨.rf i::c.as,c.Γ,c.js⟩ else none else none
      | none=>match(if md.headD false then eZ C e else none) with
        | some q=>if(Γ.getD q.1 none).isSome then(r.A C Γ md.tail es).bind fun c=>if low c.Γ q.1 then some ⟨.fd q.1 q.2::c.as,c.Γ,c.js⟩ else none else none
        | none=>(r.E C Γ e).bind fun c1=>(r.A C c1.Γ md.tail es).bind fun c=>some ⟨.ev Γ c1.Γ c1.js c1.f::c.as,c.Γ,c1.js++c.js⟩
    else none
variable {es:List Expr}
theorem AQ(h:BV e=true):D8 (e::es) env=(false,N1 e env)::D8 es env:=by
 cases e<;>first | rfl | (cases h)
theorem getD_some(h:(Γ.getD i none).isSome=true):∃o,Γ[i]?=some (some o):=by
 obtain⟨o,e⟩:=S1.mp h;exact⟨o,Aw e⟩
variable {r:Rec}
theorem Sk(R:xb r){md:List Bool}{c:CA}(ok:xT C X)(h:ND r C Γ md es=some c){e0:Expr}{te:TE}(h0:PE X e0 te)(hn0:BV e0=true):PA X (es++[e0]) (dP (BM X.K c.as) te):=by
  cases es with
  | nil=>cases h;exact Do h0 WY (AQ hn0)
  | cons e es =>
    unfold ND at h;simp only at h;split at h
    · rename_i hs;have hst:=AQ (es:=es++[e0]) (env:=X.env) hs;split at h
      · rename_i i hi;have hmd:md.headD false=true:=by
          cases q:md.headD false with
          | true=>rfl
          | false=>rw[q] at hi;cases hi
        rw[hmd] at hi;split at h
        · obtain⟨c2,e2,h⟩:=xI h;split at h
          · cases h;exact Do (Bd ok hi) (R.B ok e2 h0 hn0) hst
          · cases h
        · cases h
      · split at h
        · rename_i q hq;have hmd:md.headD false=true:=by
            cases z:md.headD false with
            | true=>rfl
            | false=>rw[z] at hq;cases hq
          rw[hmd] at hq;split at h
          · obtain⟨c2,e2,h⟩:=xI h;split at h
            · cases h;exact Do (Je ok hq) (R.B ok e2 h0 hn0) hst
            · cases h
          · cases h
        · obtain⟨c1,e1,h⟩:=xI h;obtain⟨c2,e2,h⟩:=xI h;cases h;exact Do (ES (R.E ok e1)) (R.B ok e2 h0 hn0) hst
    · cases h
theorem VU(R:xb r){md:List Bool}{c:CA}(ok:xT C X)(h:ND r C Γ md es=some c):PA X es (BM X.K c.as)/\AD Γ c.as c.Γ c.js/\c.as.length=es.length/\es.all BV=true/\(md=[]->QP c.as=true):=by
  cases es with
  | nil=>cases h;exact⟨WY,by unfold AD;exact⟨rfl,rfl⟩,rfl,rfl,fun _=>rfl⟩
  | cons e es =>
    unfold ND at h;simp only at h;split at h
    · rename_i hs;have hst:=AQ (es:=es) (env:=X.env) hs;split at h
      · rename_i i hi;have hmd:md.headD false=true:=by
          cases q:md.headD false with
          | true=>rfl
          | false=>rw[q] at hi;cases hi
        rw[hmd] at hi;split at h
        · rename_i h1;obtain⟨c2,e2,h⟩:=xI h;split at h
          · rename_i h2;cases h;obtain⟨a1,a2,a3,a4,a5⟩:=R.A ok e2;refine⟨Do (Bd ok hi) a1 hst,?_,by simp[a3],by simp[hs,a4],fun z=>by rw[z] at hmd;cases hmd⟩;unfold AD;exact⟨getD_some h1,EW h2,a2⟩
          · cases h
        · cases h
      · split at h
        · rename_i q hq;have hmd:md.headD false=true:=by
            cases z:md.headD false with
            | true=>rfl
            | false=>rw[z] at hq;cases hq
          rw[hmd] at hq;split at h
          · rename_i h1;obtain⟨c2,e2,h⟩:=xI h;split at h
            · rename_i h2;cases h;obtain⟨a1,a2,a3,a4,a5⟩:=R.A ok e2;refine⟨Do (Je ok hq) a1 hst,?_,by simp[a3],by simp[hs,a4],fun z=>by rw[z] at hmd;cases hmd⟩;unfold AD;exact⟨getD_some h1,EW h2,a2⟩
            · cases h
          · cases h
        · obtain⟨c1,e1,h⟩:=xI h;obtain⟨c2,e2,h⟩:=xI h;cases h;obtain⟨a1,a2,a3,a4,a5⟩:=R.A ok e2;refine⟨Do (ES (R.E ok e1)) a1 hst,?_,by simp[a3],by simp[hs,a4],fun z=>?_⟩
          · unfold AD;exact⟨rfl,_,rfl,a2⟩
          · show QP c2.as=true;exact a5 (by rw[z];rfl)
    · cases h
def ZA(Γ:Gm):Const->Option CE
 | .int i=>some ⟨1,Γ,[],OB (.int i)⟩
 | .bool b=>some ⟨1,Γ,[],OB (.bl b)⟩
 | .none=>some ⟨1,Γ,[],OB .xQ⟩
 | .str x=>some ⟨1,Γ,[],OB (.str x.cps.toList)⟩
 | _=>none
theorem fv(x:Str):tx x.cps.toList=x:=by
 unfold tx;cases x;rfl
variable {c:CE}
theorem Ua{k:Const}{j:Nat}(h:ZA Γ k=some c):PE X (.Constant k j pos) (tE X.K Γ c.o c.Γ c.js c.f):=by
 cases k with
 | int i=>cases h;exact lX iR fun _ _=>CQ
 | bool b=>cases h;exact lX nR fun _ _=>Ck
 | none=>cases h;exact lX iP fun _ _=>FC
 | str x=>cases h;exact lX iM fun _ _=>by unfold Rep;exact⟨by rw[fv],fun _ z=>z⟩
 | _=>cases h
noncomputable def Zr(x:Str):Option String:=if x == ("int" : Str) then some "int" else if x == ("bool" : Str) then some "bool" else if x == ("str" : Str) then some "str" else if x == ("tuple" : Str) then some "tuple" else if x == ("list" : Str) then some "list" else none
theorem SY{T:String}(h:Zr x=some T):Q3 x=some (.type T):=by
 unfold Zr at h
 repeat' split at h
 all_goals first | (rename_i e;rw[beq_iff_eq.mp e];cases h;first | exact PyProof.Rows.Boot.«int» | exact PyProof.Rows.Boot.«bool» | exact PyProof.Rows.Boot.«str» | exact PyProof.Rows.Boot.«tuple» | exact PyProof.Rows.Boot.«list») | cases h
def Yr(C:Cf)(Γ:Gm)(x:Str):Option CE:=match lv C x with
  | some i=>if(Γ.getD i none).isSome then some ⟨0,Γ.set i (some 0),[],Rx i⟩ else none
  | none=>if QJ C.sc x && TJ x then(match C.cs.find? fun p=>p.1 == x with
      | some p=>some ⟨0,Γ,[],OB p.2⟩
      | none=>if C.bl.contains x then(Zr x).map fun T=>⟨0,Γ,[],OB (.ty T)⟩ else none) else none
theorem Yq(ok:xT C X)(h:Yr C Γ x=some c):PE X (.Name x pos) (tE X.K Γ c.o c.Γ c.js c.f):=by
 unfold Yr at h;split at h
 ·rename_i i hi;split at h
  ·rename_i h1;cases h;obtain⟨o,ho⟩:=getD_some h1;exact mX (eR ok hi) ho
  ·cases h
 ·split at h
  ·rename_i hg;rw[A2] at hg;cases q:C.cs.find? fun p=>p.1 == x with
   | none =>
    rw[q] at h;simp only at h;split at h
    ·rename_i hb;cases t:Zr x with
     | none=>rw[t] at h;cases h
     | some T =>
      rw[t] at h;cases h;exact lX (bG (v:=.ty T) (DC ok hg.1) (ok.bl x (C7.mp hb)) (SY t) rfl (Cn hg.2).2.2 (Cn hg.2).1) fun _ _=>by unfold Rep;exact⟨rfl,fun _ z=>z⟩
    ·cases h
   | some p =>
    rw[q] at h;cases h;have e:p.1=x:=beq_iff_eq.mp (by simpa using J3 q);obtain⟨v,u,h1,h3,h2⟩:=ok.cs p.1 p.2 (R3 q);rw[e] at h1;exact lX (bD (DC ok hg.1) h1 h3 (Cn hg.2).1) h2
  ·cases h
structure C1:Type 1 where
 a:Ar
 Γ:Gm
 js:List Nat
def Eg(r:Rec)(C:Cf)(Γ:Gm)(m:Bool)(e:Expr):Option C1:=match(if m then Ow C e else none) with
 | some i=>if(Γ.getD i none).isSome then some ⟨.rf i,Γ,[]⟩ else none
 | none=>match(if m then eZ C e else none) with
  | some q=>if(Γ.getD q.1 none).isSome then some ⟨.fd q.1 q.2,Γ,[]⟩ else none
  | none=>(r.E C Γ e).bind fun c=>some ⟨.ev Γ c.Γ c.js c.f,c.Γ,c.js⟩
def Dz(a:Ar)(Γ:Gm):Bool:=match a with
 | .rf i=>low Γ i
 | .fd i _=>low Γ i
 | _=>true
theorem Bf(R:xb r){m:Bool}{c:C1}(ok:xT C X)(h:Eg r C Γ m e=some c):PE X e (Fk X.K c.a)/\(m=false->QP [c.a]=true)/\∀{as Γ' js},AD c.Γ as Γ' js->Dz c.a Γ'=true->AD Γ (c.a::as) Γ' (c.js++js):=by
 unfold Eg at h;split at h
 ·rename_i i hi;split at h
  ·rename_i h1;cases h;have hm:m=true:=by cases m with | true=>rfl | false=>cases hi
   subst hm;refine⟨Bd ok hi,(fun z=>by cases z),fun ch hs=>?_⟩;unfold AD;exact⟨getD_some h1,EW hs,ch⟩
  ·cases h
 ·split at h
  ·rename_i q hq;split at h
   ·rename_i h1;cases h;have hm:m=true:=by cases m with | true=>rfl | false=>cases hq
    subst hm;refine⟨Je ok hq,(fun z=>by cases z),fun ch hs=>?_⟩;unfold AD;exact⟨getD_some h1,EW hs,ch⟩
   ·cases h
  ·obtain⟨c1,e1,h⟩:=xI h;cases h;refine⟨ES (R.E ok e1),fun _=>rfl,fun ch hs=>?_⟩;unfold AD;exact⟨rfl,_,rfl,ch⟩
theorem BR:AD Γ [] Γ []:=by unfold AD;exact⟨rfl,rfl⟩
def LW(r:Rec)(C:Cf)(Γ:Gm)(a b:Expr):Option (C1×C1):=(Eg r C Γ true a).bind fun x=>(Eg r C x.Γ true b).bind fun y=>if Dz x.a y.Γ && Dz y.a y.Γ then some (x,y) else none
noncomputable def jj(p:C1×C1):List Nat:=p.1.js++(p.2.js++[])
variable {a b:Expr}
theorem GX(R:xb r){p:C1×C1}(ok:xT C X)(h:LW r C Γ a b=some p):PE X a (Fk X.K p.1.a)/\PE X b (Fk X.K p.2.a)/\AD Γ [p.1.a,p.2.a] p.2.Γ (jj p):=by
 unfold LW at h;obtain⟨x,e1,h⟩:=xI h;obtain⟨y,e2,h⟩:=xI h;split at h
 ·rename_i z;rw[A2] at z;cases h;obtain⟨a1,_,a2⟩:=Bf R ok e1;obtain⟨b1,_,b2⟩:=Bf R ok e2;exact⟨a1,b1,a2 (b2 BR z.2) z.1⟩
 ·cases h
def Oj(r:Rec)(C:Cf)(Γ:Gm)(a:Expr):Option C1:=(Eg r C Γ true a).bind fun x=>if Dz x.a x.Γ then some x else none
theorem FK(R:xb r){x:C1}(ok:xT C X)(h:Oj r C Γ a=some x):PE X a (Fk X.K x.a)/\AD Γ [x.a] x.Γ (x.js++[]):=by
 unfold Oj at h;obtain⟨y,e1,h⟩:=xI h;split at h
 ·rename_i z;cases h;obtain⟨a1,_,a2⟩:=Bf R ok e1;exact⟨a1,a2 BR z⟩
 ·cases h
theorem xT.gx(ok:xT C X):Gx X:=ok.room
def pG(r:Rec)(C:Cf)(Γ:Gm)(a:Expr)(op:uB)(b:Expr):Option CE:=(C.T.zDe.find? fun e=>e.op == op).bind fun en=>(LW r C Γ a b).bind fun p=>some ⟨1,p.2.Γ,jj p,Fj (two en.f) (AR [p.1.a,p.2.a])⟩
theorem cg(R:xb r){op:uB}(ok:xT C X)(h:pG r C Γ a op b=some c):PE X (.BinOp a op b pos) (tE X.K Γ c.o c.Γ c.js c.f):=by
 obtain⟨en,e1,h⟩:=xI h;obtain⟨p,e2,h⟩:=xI h;cases h;have eo:en.op=op:=by simpa using J3 e1
 obtain⟨h1,h2,h3⟩:=GX R ok e2;obtain⟨rr,q1,q2⟩:=en.ok X ok.gx;rw[eo] at q1;exact PE.imp (nO q1 h1 h2) fun _ _ _ h=>Cm q2 h3 h
noncomputable def Cw(x:Dv):Option Dv:=match x with | .int i=>some (.int (-i)) | _=>none
theorem iB{K:W.Frag}:AJ K (one Cw) 1 (pT (rU fun i=>.int (-i))):=fun g H ds vs d Q zd ra e k=>by
 unfold one at e;split at e
 ·rename_i a;unfold Cw at e;split at e
  ·rename_i i;cases e;unfold RA at ra;obtain⟨v,r,o,P,rfl,_,h1,h2⟩:=ra;unfold RA at h2;subst h2;rw[AI h1];exact⟨i,rfl,k _ H (Af.old CQ)⟩
  ·cases e
 ·cases e
def oz(r:Rec)(C:Cf)(Γ:Gm)(a:Expr):Option CE:=(Oj r C Γ a).bind fun x=>some ⟨1,x.Γ,x.js++[],Fj (one Cw) (AR [x.a])⟩
theorem cU(R:xb r)(ok:xT C X)(h:oz r C Γ a=some c):PE X (.UnaryOp .USub a pos) (tE X.K Γ c.o c.Γ c.js c.f):=by
 obtain⟨x,e1,h⟩:=xI h;cases h;obtain⟨h1,h2⟩:=FK R ok e1;exact PE.imp (nM fm h1) fun _ _ _ h=>Cm iB h2 h
def lZ(t:CT):CE:=⟨1,t.Γ,t.js,QS t.f⟩
def Qg(r:Rec)(C:Cf)(Γ:Gm)(a:Expr)(op:m9)(b:Expr):Option CT:=if uX op b then none else(C.T.zBP.find? fun e=>e.op == op).bind fun en=>(LW r C Γ a b).bind fun p=>some ⟨p.2.Γ,jj p,fI (two en.f) (AR [p.1.a,p.2.a])⟩
variable {Q:VK}
theorem lH{K:W.Frag}{Γ':Gm}{js:List Nat}{σ:St}{H:Hp}{o:Nat}{p:List Dv->Option Bool}{as:List Ar}{r:Qo}(hp:AJ K (fun ds=>(p ds).map .bl) 0 r)(c:AD Γ as Γ' js)(h:tE K Γ o Γ' js (QS (fI p (AR as))) σ H Q):BM K as σ H fun vs H1=>r vs H1 Q:=by
 obtain⟨g,m,P,rl,R',k,res,e,q⟩:=h;refine AM as rl c e fun ds m' g' P' vs H1 hk ag s ar r1=>?_
 obtain⟨b,e1,e2⟩:=xI hk;refine hp g' H1 ds vs (.bl b) _ r1.zd (ar.ra r1) (by show(p ds).map _=_;rw[e1];rfl) fun v H2 nw=>?_
 obtain⟨Pv,s2,h1,r2,n2⟩:=Af.go s r1 nw;have ev:=Bc h1;subst ev;exact q (.bl b) m' g' P' xM _ H2 e2 ag (s2.less fun _ z=>z.elim .inl E5) Ck r2 fun _ _ z=>z
variable {op:m9}
theorem SJ(R:xb r){c:CT}(ok:xT C X)(h:Qg r C Γ a op b=some c):PT X (.Compare a [op] [b] pos) (tT X.K Γ c.Γ c.js c.f)/\∀o,PE X (.Compare a [op] [b] pos) (tE X.K Γ o c.Γ c.js (QS c.f)):=by
 unfold Qg at h;split at h
 ·cases h
 ·rename_i hm;rw[su] at hm;obtain⟨en,e1,h⟩:=xI h;obtain⟨p,e2,h⟩:=xI h;cases h;have eo:en.op=op:=by simpa using J3 e1
  obtain⟨h1,h2,h3⟩:=GX R ok e2;obtain⟨rr,q1,q2⟩:=en.ok X ok.gx;rw[eo] at q1;exact⟨PT.imp (aW q1 h1 h2 hm) fun _ _ _ h=>pL q2 h3 h,fun o=>PE.imp (bE q1 h1 h2 hm) fun _ _ _ h=>lH q2 h3 h⟩
noncomputable def FR:Expr->Bool
 | .Slice _ _ _ _=>false
 | _=>true
theorem WK(h:FR b=true):SS b:=fun o i=>by
 cases b<;>first | rfl | (cases h)
def qj(r:Rec)(C:Cf)(Γ:Gm)(a b:Expr):Option CE:=(LW r C Γ a b).bind fun p=>some ⟨0,p.2.Γ,jj p,Fj (two C.T.ix) (AR [p.1.a,p.2.a])⟩
theorem kz(R:xb r)(ok:xT C X)(hb:FR b=true)(h:qj r C Γ a b=some c):PE X (.Subscript a b pos) (tE X.K Γ c.o c.Γ c.js c.f):=by
 obtain⟨p,e2,h⟩:=xI h;cases h;obtain⟨h1,h2,h3⟩:=GX R ok e2;obtain⟨rr,q1,q2⟩:=C.T.zDJ X ok.gx;exact PE.imp (nP q1 h1 h2 (WK hb)) fun _ _ _ h=>Cm q2 h3 h
noncomputable def SR{R:Type}(d:Dv)(k:Int->Option R):Option R:=match d with | .int i=>k i | _=>none
def lL(o:Option (Ev Dv)):Ev (Option Int):=match o with
 | none=>fun _ m k=>k none m
 | some f=>fun R m k=>f R m fun d m1=>SR d fun i=>k (some i) m1
def oW(p:Dv->Option Int->Option Int->Option Dv)(a:Ar)(lo hi:Option (Ev Dv)):Ev Dv:=match a with
 | .rf i=>fun R m k=>lL lo R m fun l m1=>lL hi R m1 fun u m2=>(p (m2.at i) l u).bind fun d=>k d m2
 | .ev _ _ _ f=>fun R m k=>f R m fun x m1=>lL lo R m1 fun l m2=>lL hi R m2 fun u m3=>(p x l u).bind fun d=>k d m3
 | .fd _ _=>fun _ _ _=>none
def ql(r:Rec)(C:Cf)(Γ:Gm)(o:Option Expr):Option (Option (Ev Dv)×Gm×List Nat):=match o with
 | none=>some (none,Γ,[])
 | some e=>(r.E C Γ e).bind fun c=>some (some c.f,c.Γ,c.js)
def dW(K:W.Frag)(Γ Γ':Gm)(js:List Nat)(f:Ev (Option Int)):TO:=fun σ H Q=>∃g m P,Rel K g H Γ m σ P/\∃(R:Type) (k:Option Int->M->Option R) (r:R),f R m k=some r /\
 ∀b m' g' P' H',k b m'=some r->Ba js m m'->Step g P H g' P' H'->Rel K g' H' Γ' m' σ P'->Q b H'
theorem PO.imp{e:Option Expr}{t t':TO}(h:PO X e t)(k:∀σ H Q,t' σ H Q->t σ H Q):PO X e t':=fun pins s σ H Q I q=>h pins s σ H Q I (k σ H Q q)
theorem ZD(R:xb r){e:Option Expr}{p:Option (Ev Dv)×Gm×List Nat}(ok:xT C X)(h:ql r C Γ e=some p):PO X e (dW X.K Γ p.2.1 p.2.2 (lL p.1)):=by
 cases e with
 | none =>
  cases h;exact PO.imp aw fun σ H Q q=>by
   obtain⟨g,m,P,r,R,k,res,e,q⟩:=q;exact q none m g P H e Ba.refl Step.refl r
 | some e =>
  obtain⟨c,e1,h⟩:=xI h;cases h;exact PO.imp (av (ES (R.E ok e1))) fun σ H Q q=>by
   obtain⟨g,m,P,r,R,k,res,e,q⟩:=q;refine⟨g,m,P,r,R,_,res,e,fun d m' g' P' Pv v H' hk ag s rv r1 n=>?_⟩;cases d<;>first | (cases hk;done) | skip
   rename_i i;exact⟨i,AI rv,q (some i) m' g' P' H' hk ag (s.less fun _ z=>.inl z) r1⟩
def rY(r:Rec)(C:Cf)(Γ:Gm)(a:Expr)(lo hi:Option Expr):Option CE:=(Eg r C Γ true a).bind fun x=>(ql r C x.Γ lo).bind fun l=>(ql r C l.2.1 hi).bind fun u=>if Dz x.a u.2.1 then some ⟨1,u.2.1,x.js++(l.2.2++u.2.2),oW C.T.sl x.a l.1 u.1⟩ else none
theorem gO{K:W.Frag}{Γ xY xa Γ':Gm}{j1 j2 j3:List Nat}{p:Dv->Option Int->Option Int->Option Dv}{rr:V->Option Int->Option Int->Hp->VK->Prop}(hp:∀lo hi,AJ K (one fun d=>p d lo hi) 1 (pT fun x H Q=>rr x lo hi H Q)){a:Ar}{lo hi:Option (Ev Dv)}
    (ha:∀{as Γ' js},AD xY as Γ' js->Dz a Γ'=true->AD Γ (a::as) Γ' (j1++js)) (hs:Dz a Γ'=true) {σ:St} {H:Hp} {Q:VK}
    (h:tE K Γ 1 Γ' (j1++(j2++j3)) (oW p a lo hi) σ H Q):rF rr (Fk K a) (dW K xY xa j2 (lL lo)) (dW K xa Γ' j3 (lL hi)) σ H Q:=by
  obtain⟨g,m,P,r,R,k,res,e,q⟩:=h;have fin:∀{x:Dv} {l u:Option Int} {m3:M} {g3:G} {P3:Fp} {H3:Hp} {v:V} {o:Nat} {Px:Fp},(p x l u).bind (fun d=>k d m3)=some res->Ba (j1++(j2++j3)) m m3->Step g P H g3 P3 H3->Rel K g3 H3 Γ' m3 σ P3->o<=1->Rep K g3 H3 o x v Px->rr v l u H3 Q:=fun{x l u m3 g3 P3 H3 v o Px} hk ag s r3 hlo rx=>by
    obtain⟨d,e1,e2⟩:=xI hk;refine hp l u g3 H3 [x] [v] d Q r3.zd (by unfold RA;exact⟨v,[],o,Px,rfl,hlo,rx,by unfold RA;rfl⟩) e1 fun w H4 nw=>?_
    obtain⟨Pv,s2,h1,r2,n2⟩:=Af.go s r3 nw;exact q d m3 g3 P3 Pv w H4 e2 ag s2 h1 r2 n2
  cases a with
  | fd i f=>cases e
  | rf i =>
    have c0:=ha (as:=[]) (Γ':=xY) (js:=[]) BR;have hs':=hs
    -- the slot is set ahead
    have h0:(∃o,Γ[i]?=some (some o))/\xY=Γ/\j1=[]:=by
      have:=ha (as:=[.ev xY Γ' (j2++j3) (fun _ m k=>k .xQ m)]) (Γ':=Γ') (js:=(j2++j3)++[]) (by unfold AD;exact⟨rfl,[],rfl,BR⟩) hs;unfold AD at this;refine⟨this.1,?_⟩;obtain⟨_,_,c⟩:=this;unfold AD at c;refine⟨c.1,?_⟩;obtain⟨_,js2,e,c⟩:=c;unfold AD at c;rw[c.2] at e;have l:(j1++((j2++j3)++[])).length=((j2++j3)++[]).length:=congrArg U2 e;simp at l;exact l
    obtain⟨⟨o0,h0⟩,rfl,rfl⟩:=h0;obtain⟨v0,P0,y9,rv0,_⟩:=r.z7 h0;refine⟨v0,y9,g,m,P,r,R,_,res,e,fun l m1 g1 P1 H1 hk1 ag1 s1 r1=>⟨g1,m1,P1,r1,R,_,res,hk1,fun u m2 g2 P2 H2 x9 yY s2 r2=>?_⟩⟩;obtain⟨o1,zS,h1⟩:=EW hs;obtain⟨v1,Px,ev1,rv1,_⟩:=r2.z7 h1;rw[y9] at ev1;cases ev1;exact fin x9 (ag1.trans yY) (s1.trans s2) r2 zS rv1
  | ev Γa Γb ja f =>
    have h0:Γa=Γ/\Γb=xY/\j1=ja:=by
      have:=ha (as:=[.ev xY xY [] (fun _ m k=>k .xQ m)]) (Γ':=xY) (js:=[]) (by unfold AD;exact⟨rfl,[],rfl,BR⟩) rfl;unfold AD at this;obtain⟨e1,js2,e2,c⟩:=this;unfold AD at c;obtain⟨e3,js3,e4,c⟩:=c;unfold AD at c;rw[c.2] at e4;subst e4;simp at e2;exact⟨e1,e3.symm,e2⟩
    obtain⟨rfl,rfl,rfl⟩:=h0;refine⟨g,m,P,r,R,_,res,e,fun x m1 g1 P1 Pv v H1 hk1 ag1 s1 rv r1 n1=>⟨g1,m1,P1,r1,R,_,res,hk1,fun l m2 g2 P2 H2 x9 yY s2 r2=>⟨g2,m2,P2,r2,R,_,res,x9,fun u m3 g3 P3 H3 hk3 ag3 s3 r3=>?_⟩⟩⟩;exact fin hk3 (ag1.trans (yY.trans ag3)) (((s1.less fun _ z=>.inl z).trans s2).trans s3) r3 (by decide:0<=1) ((rv.z.held s2 r1.xO fun _ z=>z.elim).held s3 r2.xO fun _ z=>z.elim)
theorem kg(R:xb r){lo hi:Option Expr}{p2:Pos}(ok:xT C X)(h:rY r C Γ a lo hi=some c):PE X (.Subscript a (.Slice lo hi none p2) pos) (tE X.K Γ c.o c.Γ c.js c.f):=by
 obtain⟨x,e1,h⟩:=xI h;obtain⟨l,e2,h⟩:=xI h;obtain⟨u,e3,h⟩:=xI h;split at h
 ·rename_i hs;cases h;obtain⟨h1,_,h2⟩:=Bf R ok e1;obtain⟨rr,q1,q2⟩:=C.T.zCz X ok.gx;exact PE.imp (WO q1 h1 (ZD R ok e2) (ZD R ok e3)) fun _ _ _ h=>gO q2 h2 hs h
 ·cases h
def ow(r:Rec)(C:Cf)(Γ:Gm)(es:List Expr):Option CE:=(r.A C Γ [] es).bind fun c=>some ⟨1,c.Γ,c.js,Ry .tup (AR c.as)⟩
def pB(r:Rec)(C:Cf)(Γ:Gm)(es:List Expr):Option CE:=(r.A C Γ [] es).bind fun c=>some ⟨1,c.Γ,c.js,Ry .lst (AR c.as)⟩
def Xi:Ev Dv:=OB (.yR [] [])
theorem Af.yR{K:W.Frag}{g:G}{H:Hp}{p:B5}(zd:Zd g H)(hp:H p=none):Af K g H 1 (.yR [] []) (.ref p) (upd H p (.dK [])):=by
 have sm:=Cb hp (.dK []);refine⟨sm,fun b=>b=p,?_,fun a q=>q▸hp⟩;unfold Rep;exact⟨p,[],rfl,AH,(fun z=>by cases z),(fun _ z=>zd p z hp),⟨rfl,xM,AC.nil⟩,fun b=>⟨fun z=>⟨by decide,z⟩,fun z=>z.2⟩⟩
theorem me:PE X (.Dict [] [] pos) (tE X.K Γ 1 Γ [] Xi):=PE.imp WU fun σ H Q q=>by
 obtain⟨g,m,P,r,R,k,res,e,q⟩:=q;intro p hp;obtain⟨Pv,s2,h1,r2,n2⟩:=Af.go Step.refl r (Af.yR r.zd hp);exact q _ m g P Pv _ _ e Ba.refl s2 h1 r2 n2
theorem cK(R:xb r){x1:Nat}(ok:xT C X)(h:ow r C Γ es=some c):PE X (.Tuple es x1 pos) (tE X.K Γ c.o c.Γ c.js c.f):=by
 obtain⟨x,e1,h⟩:=xI h;cases h;obtain⟨a1,a2,_,_,a5⟩:=R.A ok e1;exact mY a1 a2 (a5 rfl)
theorem cW(R:xb r)(ok:xT C X)(h:pB r C Γ es=some c):PE X (.List es pos) (tE X.K Γ c.o c.Γ c.js c.f):=by
 obtain⟨x,e1,h⟩:=xI h;cases h;obtain⟨a1,a2,_,_,a5⟩:=R.A ok e1;exact ma a1 a2 (a5 rfl)
def Bj:Gm->Gm->Gm
 | some a::x,some b::y=>some (if a == b then a else 0)::Bj x y
 | _::x,_::y=>none::Bj x y
 | _,_=>[]
def oU(t:Dv->Option Bool)(fa:Ev (List Dv)):Ev Bool:=fI (one t) fa
def ka(r:Rec)(C:Cf)(Γ:Gm)(a:Expr):Option CT:=(Oj r C Γ a).bind fun x=>some ⟨x.Γ,x.js++[],oU C.T.tru (AR [x.a])⟩
noncomputable def Rj:Expr->Bool
 | .UnaryOp .Not _ _=>false
 | .BoolOp _ _ _=>false
 | .IfExp _ _ _ _=>false
 | .Compare _ _ _ _=>false
 | _=>true
theorem cL(R:xb r){c:CT}(ok:xT C X)(hv:Rj a=true)(h:ka r C Γ a=some c):PT X a (tT X.K Γ c.Γ c.js c.f):=by
  obtain⟨x,e1,h⟩:=xI h;cases h;obtain⟨h1,h2⟩:=FK R ok e1;refine PT.imp (Vy h1 fun whole=>?_) fun σ H Q h=>?_
  · cases a<;>first | rfl | (cases hv;done) | skip
    rename_i op b pos;cases op<;>first | rfl | (cases hv;done)
  · obtain⟨g,m,P,rl,R',k,res,e,q⟩:=h;have key:BM X.K [x.a] σ H fun vs H1=>∃w,vs=[w]/\∃b,Zb X.K w H1 b/\Q b H1:=by
      refine AM [x.a] rl h2 e fun ds m' g' P' vs H1 hk ag s ar r1=>?_
      obtain⟨b,e1,e2⟩:=xI hk;unfold one at e1;split at e1
      · rename_i d;have ra:=ar.ra r1;unfold RA at ra;obtain⟨w,wr,o,Po,rfl,_,h3,h4⟩:=ra;unfold RA at h4;subst h4;exact⟨w,rfl,b,C.T.zCu _ _ _ _ _ _ _ _ h3 e1,q b m' g' P' H1 e2 ag s r1⟩
      · cases e1
    revert key
    cases x.a with
    | ev Γa Γb ja fa =>
      rintro⟨g,m,P,r,R,k,res,e,q⟩;refine⟨g,m,P,r,R,k,res,e,fun d m' g' P' Pv v H' h1 h2 h3 h4 h5 h6=>?_⟩;obtain⟨w,ew,z⟩:=q d m' g' P' Pv v H' h1 h2 h3 h4 h5 h6;cases ew;exact z
    | rf i =>
      rintro⟨v,e,w,ew,z⟩;cases ew;exact⟨v,e,z⟩
    | fd i f =>
      rintro⟨v,e,a,C',dx,fs,w0,q1,q2,q3,q4,q5,w,ew,z⟩;cases ew;exact⟨v,e,a,C',dx,fs,w0,q1,q2,q3,q4,q5,z⟩
def kn(t:CT):CT:=⟨t.Γ,t.js,fG t.f⟩
def qm(a b:CT):CT:=let Γ':=Bj a.Γ b.Γ;let js:=a.js++b.js;⟨Γ',js,QR (BX Γ' js) (Jg a.f b.f fun _ m k=>k false m)⟩
def sQ(a b:CT):CT:=let Γ':=Bj a.Γ b.Γ;let js:=a.js++b.js;⟨Γ',js,QR (BX Γ' js) (Jg a.f (fun _ m k=>k true m) b.f)⟩
theorem nG{op:BoolOp}{vs:List Expr}{t:TT}(h:PT X (.BoolOp op vs pos) t):PW X (.BoolOp op vs pos) t:=fun wh pins s σ H Q I q=>h pins s σ H Q I q
def dc(r:Rec)(C:Cf)(Γ:Gm)(op:BoolOp)(vs:List Expr)(pos:Pos):Option CT:=match vs with
 | []=>none
 | [a]=>r.T C Γ a
 | a::b::vs=>(r.T C Γ a).bind fun x=>(r.T C x.Γ (.BoolOp op (b::vs) pos)).bind fun y=>if Bv (Bj x.Γ y.Γ) x.Γ && Bv (Bj x.Γ y.Γ) y.Γ then some (match op with | .And=>qm x y | .Or=>sQ x y) else none
theorem VS(R:xb r){op:BoolOp}{vs:List Expr}{c:CT}(ok:xT C X)(h:dc r C Γ op vs pos=some c):PT X (.BoolOp op vs pos) (tT X.K Γ c.Γ c.js c.f):=by
 match vs,h with
 | [],h=>cases h
 | [a],h =>
  cases op with
  | And=>exact PW.pt (aU (R.T ok h))
  | Or=>exact PW.pt (gr (R.T ok h))
 | a::b::vs,h =>
  obtain⟨x,e1,h⟩:=xI h;obtain⟨y,e2,h⟩:=xI h;split at h
  ·rename_i hw;rw[A2] at hw;have ha:=R.T ok e1;have hb:=nG (R.T ok e2);have jk:∀(i o:Nat),(Bj x.Γ y.Γ)[i]?=some (some o)->i∈BX (Bj x.Γ y.Γ) (x.js++y.js)\/i∉x.js++y.js:=fun i o h=>BW h
   cases op with
   | And =>
    cases h;exact PW.pt (PW.imp (gw ha (PW.imp hb fun _ _ _ h=>Qy hw.2 (fun _ z=>z) h)) fun σ H Q h=>VF (Rf jk (fun i z=>BF z) h) hw.1)
   | Or =>
    cases h;exact PW.pt (PW.imp (nF ha (PW.imp hb fun _ _ _ h=>Qy hw.2 (fun _ z=>z) h)) fun σ H Q h=>mC (Rf jk (fun i z=>BF z) h) hw.1)
  ·cases h
def og(p p':List Dv->Option Bool)(a:Ar)(i:Nat)(c:Ar):Ev Bool:=Jg (fI p (AR [a,.rf i])) (fI p' (AR [.rf i,c])) fun R m k=>k false m
section
variable {K:W.Frag} {Γ xa Γ':Gm} {js js2:List Nat} {σ:St} {H:Hp}
theorem Lb{f:Ev Bool}{Q Q':Bool->Hp->Prop}(h:tT K Γ Γ' js f σ H Q)(m:∀b H',Q b H'->Q' b H'):tT K Γ Γ' js f σ H Q':=by
 obtain⟨g,m',P,r,R,k,res,e,q⟩:=h;exact⟨g,m',P,r,R,k,res,e,fun b m1 g1 P1 H1 h1 h2 h3 h4=>m _ _ (q b m1 g1 P1 H1 h1 h2 h3 h4)⟩
theorem IY{a:Ar}{Q1 Q2:VK}(h12:∀v H,Q1 v H->Q2 v H)(t:Fk K a σ H Q1):Fk K a σ H Q2:=by
 cases a with
 | ev Γa Γb ja fa =>
  obtain⟨g,m,P,r,R,k,res,e,q⟩:=t;exact⟨g,m,P,r,R,k,res,e,fun d m' g' P' Pv v H' h1 h2 h3 h4 h5 h6=>h12 _ _ (q d m' g' P' Pv v H' h1 h2 h3 h4 h5 h6)⟩
 | rf i=>obtain⟨v,e,q⟩:=t;exact⟨v,e,h12 _ _ q⟩
 | fd i f=>obtain⟨v,e,a,C,dx,fs,w,h1,h2,h3,h4,h5,q⟩:=t;exact⟨v,e,a,C,dx,fs,w,h1,h2,h3,h4,h5,h12 _ _ q⟩
theorem fW{o:Nat}{f:Ev Bool}(h:tE K Γ o Γ' js (QS f) σ H Q):tT K Γ Γ' js f σ H fun b H'=>Q (.bl b) H':=by
 obtain⟨g,m,P,r,R,k,res,e,q⟩:=h;exact⟨g,m,P,r,R,_,res,e,fun b m1 g1 P1 H1 hk ag s r1=>q (.bl b) m1 g1 P1 xM _ H1 hk ag (s.less fun _ z=>z.elim id E5) Ck r1 fun _ _ z=>z⟩
theorem ZQ{p:List Dv->Option Bool}{as:List Ar}{r:Qo}(hp:AJ K (fun ds=>(p ds).map .bl) 0 r)(c:AD Γ as Γ' js)(h:tT K Γ Γ' js (fI p (AR as)) σ H fun b H'=>Q (.bl b) H'):BM K as σ H fun vs H1=>r vs H1 Q:=by
 obtain⟨g,m,P,rl,R',k,res,e,q⟩:=h;refine AM as rl c e fun ds m' g' P' vs H1 hk ag s ar r1=>?_
 obtain⟨b,e1,e2⟩:=xI hk;refine hp g' H1 ds vs (.bl b) _ r1.zd (ar.ra r1) (by show(p ds).map _=_;rw[e1];rfl) fun v H2 nw=>?_
 obtain⟨Pv,s2,h1,r2,n2⟩:=Af.go s r1 nw;rw[Bc h1];exact q b m' g' P' H2 e2 ag (s2.less fun _ q=>.inl q) r2
theorem LL{p p':List Dv->Option Bool}{a c:Ar}{o:Nat}{r r':R2}(hp:AJ K (fun ds=>(p ds).map .bl) 0 (LZ r))(z9:AJ K (fun ds=>(p' ds).map .bl) 0 (LZ r'))(c1:AD Γ [a,.rf i] xa js)(c2:AD xa [.rf i,c] Γ' js2)(hi:Γ[i]?=some (some o))(hw:Bv Γ' xa=true){Q:VK}
    (h:tT K Γ Γ' (js++js2) (og p p' a i c) σ H fun b H'=>Q (.bl b) H'):Le r r' (Fk K a) (DE i) (Fk K c) σ H Q:=by
  have h0:∃v,σ[i]?=some (some v):=by
    obtain⟨g,m,P,r,_⟩:=h;obtain⟨v,_,e,_⟩:=r.z7 hi;exact⟨v,e⟩
  obtain⟨v,hv⟩:=h0;have h1:=VF h hw;have h2:tT K Γ xa js (fI p (AR [a,.rf i])) σ H fun b H'=>∃k,V.bl b=V.bl k/\if k=true then Fk K c σ H' fun w' H4=>r' v w' H4 Q else Q (.bl false) H':=Lb h1 fun b H' q=>⟨b,rfl,by
    cases b with
    | true =>
      rw[if_pos rfl] at q ⊢;obtain⟨v',hv',q'⟩:=ZQ z9 c2 q;rw[hv] at hv';cases hv';exact q'
    | false=>rw[if_neg D4] at q ⊢;exact q⟩
  have h3:=ZQ (Q:=fun z H'=>∃k,z=V.bl k/\if k=true then Fk K c σ H' fun w' H4=>r' v w' H4 Q else Q (.bl false) H') hp c1 h2;refine IY (fun x H1 z=>?_) h3;obtain⟨w,hw',q⟩:=z;rw[hv] at hw';cases hw';exact⟨v,hv,q⟩
end
def fH(p p':List Dv->Option Bool)(a b c:Ar):Ev Bool:=fun R m k=>AR [a,b] R m fun ds m1=>(p ds).bind fun t=>if t=true then AR [c] R m1 fun cs m2=>(p' (ds.getD 1 .xQ::cs)).bind fun u=>k u m2 else k false m1
theorem Jq{K:W.Frag}{xa Γ' Γa Γb:Gm}{js js2 jb:List Nat}{σ:St}{H:Hp}{p p':List Dv->Option Bool}{a c:Ar}{fb:Ev Dv}{r r':R2}(hp:AJ K (fun ds=>(p ds).map .bl) 0 (LZ r))(z9:AJ K (fun ds=>(p' ds).map .bl) 0 (LZ r'))(c1:AD Γ [a,.ev Γa Γb jb fb] xa js)(c2:AD xa [c] Γ' js2)(hw:Bv Γ' xa=true){Q:VK}
    (h:tT K Γ Γ' (js++js2) (fH p p' a (.ev Γa Γb jb fb) c) σ H fun b H'=>Q (.bl b) H'):Le r r' (Fk K a) (tE K Γa 0 Γb jb fb) (Fk K c) σ H Q:=by
  obtain⟨g,m,P,rl,R,k,res,e,q⟩:=h;have key:BM K [a,.ev Γa Γb jb fb] σ H fun vs H1=>∃x y,vs=[x,y]/\r x y H1 fun z H3=>∃k,z=.bl k/\(if k=true then Fk K c σ H3 fun w' H4=>r' y w' H4 Q else Q (.bl false) H3):=by
    refine AM _ rl c1 e fun ds m1 g1 P1 vs H1 hk ag s ar r1=>?_
    obtain⟨t,e1,e2⟩:=xI hk;have ra:=ar.ra r1
    -- the zDG value is frozen
    obtain⟨dx,dy,x,y,rfl,rfl,ry⟩:∃dx dy x y,ds=[dx,dy]/\vs=[x,y]/\Rep K g1 H1 0 dy y xM:=by
      cases a with
      | rf i =>
        unfold Ac at ar;obtain⟨v,yA,yk,rfl,rfl,_,_,ar⟩:=ar;unfold Ac at ar;obtain⟨d,v',yA,yk,rfl,rfl,h1,ar⟩:=ar;unfold Ac at ar;obtain⟨rfl,rfl⟩:=ar;exact⟨_,_,_,_,rfl,rfl,h1⟩
      | fd _ _ =>
        unfold Ac at ar;obtain⟨d0,v,yA,yk,rfl,rfl,_,_,ar⟩:=ar;unfold Ac at ar;obtain⟨d,v',yA,yk,rfl,rfl,h1,ar⟩:=ar;unfold Ac at ar;obtain⟨rfl,rfl⟩:=ar;exact⟨_,_,_,_,rfl,rfl,h1⟩
      | ev _ _ _ _ =>
        unfold Ac at ar;obtain⟨d0,v,yA,yk,rfl,rfl,_,ar⟩:=ar;unfold Ac at ar;obtain⟨d,v',yA,yk,rfl,rfl,h1,ar⟩:=ar;unfold Ac at ar;obtain⟨rfl,rfl⟩:=ar;exact⟨_,_,_,_,rfl,rfl,h1⟩
    refine⟨x,y,rfl,hp g1 H1 [dx,dy] [x,y] (.bl t) _ r1.zd ra (by show(p _).map _=_;rw[e1];rfl) fun v H2 nw=>?_⟩;obtain⟨Pv,s2,h1,r2,n2⟩:=Af.go s r1 nw;have sm:=nw.1;have ry2:Rep K g1 H2 0 dy y xM:=ry.held (Step.same (g:=g1) (P:=xM) sm) xS.xM fun _ z=>z.elim
    have s3:Step g P H g1 P1 H2:=s2.less fun _ z=>.inl z
    refine⟨t,Bc h1,?_⟩;cases t with
    | false =>
      rw[if_neg D4] at e2 ⊢;obtain⟨g4,P4,s4,r4⟩:=r2.weaken hw;exact q false m1 g4 P4 H2 e2 (ag.mono fun _ z=>C3 _ z) (s3.trans s4) r4
    | true =>
      rw[if_pos rfl] at e2 ⊢;have zDt:BM K [c] σ H2 fun ws H4=>∃w,ws=[w]/\r' y w H4 Q:=by
        refine AM _ r2 c2 e2 fun cs m2 g4 P4 ws H4 x9 yY s4 ar2 r4=>?_
        obtain⟨u,e3,e4⟩:=xI x9;have ra2:=ar2.ra r4;have al:=ar2.len
        match cs,ws,al.1,al.2,ra2,e3 with
        | [cd],[w],_,_,ra2,e3 =>
          have ry4:Rep K g4 H4 0 dy y xM:=ry2.held s4 r2.xO fun _ z=>z.elim
          refine⟨w,rfl,z9 g4 H4 [dy,cd] [y,w] (.bl u) Q r4.zd (by unfold RA;exact⟨y,[w],0,xM,rfl,by decide,ry4,ra2⟩) (by show(p' _).map _=_;rw[show p' [dy,cd]=some u from e3];rfl) fun v' H5 nw'=>?_⟩;obtain⟨Pv',s5,h5,r5,n5⟩:=Af.go (s3.trans s4) r4 nw';rw[Bc h5];exact q u m2 g4 P4 H5 e4 (ag.trans yY) (s5.less fun _ z=>.inl z) r5
      refine IY (fun w H4 z=>?_) zDt;obtain⟨w',ew,z⟩:=z;cases ew;exact z
  refine IY (fun x H1 z=>?_) key;obtain⟨g,m,P,r,R,k,res,e,q⟩:=z;refine⟨g,m,P,r,R,k,res,e,fun d m' g' P' Pv v H' h1 h2 h3 h4 h5 h6=>?_⟩;obtain⟨x',y',ev,z⟩:=q d m' g' P' Pv v H' h1 h2 h3 h4 h5 h6;cases ev;exact z
def lF(r:Rec)(C:Cf)(Γ:Gm)(a:Expr)(op:m9)(b:Expr)(yD:m9)(c:Expr):Option CT:=if vS [op,yD] [b,c] then none else(C.T.zBP.find? fun e=>e.op == op).bind fun en=>(C.T.zBP.find? fun e=>e.op == yD).bind fun en'=>(Eg r C Γ true a).bind fun x=>(r.E C x.Γ b).bind fun y=>(Eg r C y.Γ true c).bind fun z =>
 if Dz x.a y.Γ && Dz z.a z.Γ && Bv z.Γ y.Γ then some ⟨z.Γ,(x.js++(y.js++[]))++(z.js++[]),fH (two en.f) (two en'.f) x.a (.ev x.Γ y.Γ y.js y.f) z.a⟩ else none
theorem cc(R:xb r){c:Expr}{yD:m9}{t:CT}(ok:xT C X)(h:lF r C Γ a op b yD c=some t):PT X (.Compare a [op,yD] [b,c] pos) (tT X.K Γ t.Γ t.js t.f)/\∀o,PE X (.Compare a [op,yD] [b,c] pos) (tE X.K Γ o t.Γ t.js (QS t.f)):=by
 unfold lF at h;split at h
 ·cases h
 ·rename_i hm;rw[su] at hm;obtain⟨en,e1,h⟩:=xI h;obtain⟨en',e2,h⟩:=xI h;obtain⟨x,e3,h⟩:=xI h;obtain⟨y,e5,h⟩:=xI h;obtain⟨z,e4,h⟩:=xI h;split at h
  ·rename_i hw;simp only[A2] at hw;obtain⟨⟨w2,w4⟩,w6⟩:=hw;cases h;have eo:en.op=op:=by simpa using J3 e1
   have eo':en'.op=yD:=by simpa using J3 e2
   obtain⟨rr,q1,q2⟩:=en.ok X ok.gx;obtain⟨rr',q1',q2'⟩:=en'.ok X ok.gx;rw[eo] at q1;rw[eo'] at q1';obtain⟨a1,_,a2⟩:=Bf R ok e3;obtain⟨b1,_,b2⟩:=Bf R ok e4;have hb:=ES (R.E ok e5);have c1:AD Γ [x.a,.ev x.Γ y.Γ y.js y.f] y.Γ (x.js++(y.js++[])):=a2 (by unfold AD;exact⟨rfl,_,rfl,BR⟩) w2;have c2:AD y.Γ [z.a] z.Γ (z.js++[]):=b2 BR w4;exact⟨PT.imp (NW q1 q1' a1 hb b1 hm) fun σ H Q h=>Jq (Q:=fun v H'=>∃k,v=V.bl k/\Q k H') q2 q2' c1 c2 w6 (Lb h fun b H' q=>⟨b,rfl,q⟩),fun o=>PE.imp (Nc q1 q1' a1 hb b1 hm) fun σ H Q h=>Jq q2 q2' c1 c2 w6 (fW h)⟩
  ·cases h
def qk(r:Rec)(C:Cf)(Γ:Gm)(a:Expr)(op:m9)(b:Expr)(yD:m9)(c:Expr):Option CT:=if vS [op,yD] [b,c] then none else(Ow C b).bind fun i=>(C.T.zBP.find? fun e=>e.op == op).bind fun en=>(C.T.zBP.find? fun e=>e.op == yD).bind fun en'=>(Eg r C Γ true a).bind fun x=>(Eg r C x.Γ true c).bind fun z =>
 if(Γ.getD i none).isSome && Dz x.a x.Γ && low x.Γ i && Dz z.a z.Γ && low z.Γ i && Bv z.Γ x.Γ then some ⟨z.Γ,(x.js++[])++(z.js++[]),og (two en.f) (two en'.f) x.a i z.a⟩ else none
theorem lD(R:xb r){c:Expr}{yD:m9}{t:CT}(ok:xT C X)(h:qk r C Γ a op b yD c=some t):PT X (.Compare a [op,yD] [b,c] pos) (tT X.K Γ t.Γ t.js t.f)/\∀o,PE X (.Compare a [op,yD] [b,c] pos) (tE X.K Γ o t.Γ t.js (QS t.f)):=by
 unfold qk at h;split at h
 ·cases h
 ·rename_i hm;rw[su] at hm;obtain⟨i,e0,h⟩:=xI h;obtain⟨en,e1,h⟩:=xI h;obtain⟨en',e2,h⟩:=xI h;obtain⟨x,e3,h⟩:=xI h;obtain⟨z,e4,h⟩:=xI h;split at h
  ·rename_i hw;simp only[A2] at hw;obtain⟨⟨⟨⟨⟨w1,w2⟩,w3⟩,w4⟩,w5⟩,w6⟩:=hw;cases h;have eo:en.op=op:=by simpa using J3 e1
   have eo':en'.op=yD:=by simpa using J3 e2
   obtain⟨rr,q1,q2⟩:=en.ok X ok.gx;obtain⟨rr',q1',q2'⟩:=en'.ok X ok.gx;rw[eo] at q1;rw[eo'] at q1';obtain⟨a1,_,a2⟩:=Bf R ok e3;obtain⟨b1,_,b2⟩:=Bf R ok e4;obtain⟨o,hi⟩:=getD_some w1;obtain⟨o2,lo2,hi2⟩:=EW w3;have c1:AD Γ [x.a,.rf i] x.Γ (x.js++[]):=a2 (by unfold AD;exact⟨⟨o2,hi2⟩,⟨o2,lo2,hi2⟩,BR⟩) w2;have c2:AD x.Γ [.rf i,z.a] z.Γ (z.js++[]):=by
    unfold AD;exact⟨⟨o2,hi2⟩,EW w5,b2 BR w4⟩
   exact⟨PT.imp (NW q1 q1' a1 (Bd ok e0) b1 hm) fun σ H Q h=>LL (Q:=fun v H'=>∃k,v=V.bl k/\Q k H') q2 q2' c1 c2 hi w6 (Lb h fun b H' q=>⟨b,rfl,q⟩),fun o=>PE.imp (Nc q1 q1' a1 (Bd ok e0) b1 hm) fun σ H Q h=>LL q2 q2' c1 c2 hi w6 (fW h)⟩
  ·cases h
def Qh(r:Rec)(C:Cf)(Γ:Gm)(a:Expr)(op:m9)(b:Expr)(yD:m9)(c:Expr):Option CT:=match Ow C b with
 | some _=>qk r C Γ a op b yD c
 | none=>lF r C Γ a op b yD c
theorem SK(R:xb r){c:Expr}{yD:m9}{t:CT}(ok:xT C X)(h:Qh r C Γ a op b yD c=some t):PT X (.Compare a [op,yD] [b,c] pos) (tT X.K Γ t.Γ t.js t.f)/\∀o,PE X (.Compare a [op,yD] [b,c] pos) (tE X.K Γ o t.Γ t.js (QS t.f)):=by
 unfold Qh at h;split at h
 ·exact lD R ok h
 ·exact cc R ok h
def dY(r:Rec)(C:Cf)(Γ:Gm)(e:Expr):Option CT:=match e with
 | .Compare a [op] [b] _=>Qg r C Γ a op b
 | .Compare a [op,yD] [b,c] _=>Qh r C Γ a op b yD c
 | .UnaryOp .Not x _=>(r.T C Γ x).map kn
 | .BoolOp op vs pos=>dc r C Γ op vs pos
 | e=>if Rj e then ka r C Γ e else none
theorem VM(R:xb r){c:CT}(ok:xT C X)(h:dY r C Γ e=some c):PT X e (tT X.K Γ c.Γ c.js c.f):=by
 have val:Rj e=true->(if Rj e then ka r C Γ e else none)=some c->PT X e (tT X.K Γ c.Γ c.js c.f):=fun hv h=>by
  rw[if_pos hv] at h;exact cL R ok hv h
 match e,h with
 | .Compare a ops bs pos,h =>
  match ops,bs,h with
  | [op],[b],h=>exact(SJ R ok h).1
  | [op,yD],[b,c],h=>exact(SK R ok h).1
  | [],_,h=>cases h
  | [_],[],h=>cases h
  | [_],_::_::_,h=>cases h
  | [_,_],[],h=>cases h
  | [_,_],[_],h=>cases h
  | [_,_],_::_::_::_,h=>cases h
  | _::_::_::_,_,h=>cases h
 | .UnaryOp op x pos,h =>
  cases op with
  | Not =>
   cases q:r.T C Γ x with
   | none=>replace h:(r.T C Γ x).map kn=some c:=h;rw[q] at h;cases h
   | some t =>
    replace h:(r.T C Γ x).map kn=some c:=h;rw[q] at h;cases h;exact PT.imp (hU (R.T ok q)) fun _ _ _ h=>gD h
  | _=>exact val rfl h
 | .BoolOp op vs pos,h=>exact VS R ok h
 | .IfExp a b c' d,h=>cases h
 | .NamedExpr ..,h | .BinOp ..,h | .Lambda ..,h | .Dict ..,h | .Set ..,h | .ListComp ..,h | .SetComp ..,h | .DictComp ..,h | .GeneratorExp ..,h | .Await ..,h | .Yield ..,h | .YieldFrom ..,h | .Call ..,h | .FormattedValue ..,h | .JoinedStr ..,h | .Constant ..,h | .Attribute ..,h | .Subscript ..,h | .Starred ..,h | .Name ..,h | .List ..,h | .Tuple ..,h | .Slice ..,h=>exact val rfl h
noncomputable def pk{R:Type}(d:Dv)(k:Bool->Option R):Option R:=match d with | .bl b=>k b | _=>none
theorem Js{R:Type}{d:Dv}{k:Bool->Option R}{r:R}(h:pk d k=some r):∃b,d=.bl b/\k b=some r:=by
 cases d<;>first | (cases h;done) | exact⟨_,rfl,h⟩
def Xr(f g:Ev Dv):Ev Dv:=fun R m k=>f R m fun d m1=>pk d fun b=>if b=true then g R m1 k else k (.bl false) m1
def fF(f g:Ev Dv):Ev Dv:=fun R m k=>f R m fun d m1=>pk d fun b=>if b=true then k (.bl true) m1 else g R m1 k
def Xh(f:Ev Dv):Ev Dv:=fun R m k=>f R m fun d m1=>pk d fun b=>k (.bl (!b)) m1
section
variable {K:W.Frag} {Γ Γ' xa:Gm} {js js2:List Nat} {σ:St} {H:Hp} {f u:Ev Dv} {Q:VK}
theorem gG(hw:Bv Γ' xa=true)(h:tE K Γ 0 Γ' (js++js2) (Xr f u) σ H Q):dX (tE K Γ 0 xa js f) (tE K xa 0 Γ' js2 u) σ H Q:=by
 obtain⟨g,m,P,r,R,k,res,e,q⟩:=h;refine⟨g,m,P,r,R,_,res,e,fun d m1 g1 P1 Pv v H1 hk ag s rv r1 n=>?_⟩;replace hk:=Js hk;obtain⟨b,rfl,hk⟩:=hk;have s1:Step _ _ _ g1 P1 H1:=s.less fun _ z=>.inl z
 refine⟨b,Bc rv,?_⟩;cases b with
 | true=>rw[if_pos rfl] at hk ⊢;exact⟨g1,m1,P1,r1,R,k,res,hk,fun d m2 g2 P2 Pw w H2 x9 yY s2 rv2 r2 n2=>q d m2 g2 P2 Pw w H2 x9 (ag.trans yY) (s1.trans s2) rv2 r2 n2⟩
 | false =>
  rw[if_neg D4] at hk ⊢;obtain⟨g2,P2,s2,r2⟩:=r1.weaken hw;exact q _ m1 g2 P2 xM _ H1 hk (ag.mono fun _ z=>C3 _ z) ((s1.trans s2).less fun _ z=>z.elim id E5) Ck r2 fun _ _ z=>z
theorem mH(hw:Bv Γ' xa=true)(h:tE K Γ 0 Γ' (js++js2) (fF f u) σ H Q):mF (tE K Γ 0 xa js f) (tE K xa 0 Γ' js2 u) σ H Q:=by
 obtain⟨g,m,P,r,R,k,res,e,q⟩:=h;refine⟨g,m,P,r,R,_,res,e,fun d m1 g1 P1 Pv v H1 hk ag s rv r1 n=>?_⟩;replace hk:=Js hk;obtain⟨b,rfl,hk⟩:=hk;have s1:Step _ _ _ g1 P1 H1:=s.less fun _ z=>.inl z
 refine⟨b,Bc rv,?_⟩;cases b with
 | false=>rw[if_neg D4] at hk ⊢;exact⟨g1,m1,P1,r1,R,k,res,hk,fun d m2 g2 P2 Pw w H2 x9 yY s2 rv2 r2 n2=>q d m2 g2 P2 Pw w H2 x9 (ag.trans yY) (s1.trans s2) rv2 r2 n2⟩
 | true =>
  rw[if_pos rfl] at hk ⊢;obtain⟨g2,P2,s2,r2⟩:=r1.weaken hw;exact q _ m1 g2 P2 xM _ H1 hk (ag.mono fun _ z=>C3 _ z) ((s1.trans s2).less fun _ z=>z.elim id E5) Ck r2 fun _ _ z=>z
theorem gF(h:tE K Γ 0 Γ' js (Xh f) σ H Q):dQ (tE K Γ 0 Γ' js f) σ H Q:=by
 obtain⟨g,m,P,r,R,k,res,e,q⟩:=h;refine⟨g,m,P,r,R,_,res,e,fun d m1 g1 P1 Pv v H1 hk ag s rv r1 n=>?_⟩;replace hk:=Js hk;obtain⟨b,rfl,hk⟩:=hk;exact⟨b,Bc rv,q _ m1 g1 P1 xM _ H1 hk ag (s.less fun _ z=>z.elim .inl E5) Ck r1 fun _ _ z=>z⟩
end
def oy(r:Rec)(C:Cf)(Γ:Gm)(x:Expr):Option CE:=(r.E C Γ x).bind fun c=>some ⟨0,c.Γ,c.js,Xh c.f⟩
def VT(r:Rec)(C:Cf)(Γ:Gm)(op:BoolOp)(vs:List Expr)(pos:Pos):Option CE:=match vs with
 | []=>none
 | [a]=>r.E C Γ a
 | a::b::vs=>(r.E C Γ a).bind fun x=>(r.E C x.Γ (.BoolOp op (b::vs) pos)).bind fun y=>let Γ':=Bj x.Γ y.Γ;let js:=x.js++y.js;if Bv Γ' x.Γ && Bv Γ' y.Γ then some ⟨0,Γ',js,QR (BX Γ' js) (match op with | .And=>Xr x.f y.f | .Or=>fF x.f y.f)⟩ else none
theorem Sj(R:xb r){op:BoolOp}{vs:List Expr}(ok:xT C X)(h:VT r C Γ op vs pos=some c):PE X (.BoolOp op vs pos) (tE X.K Γ c.o c.Γ c.js c.f):=by
 match vs,h with
 | [],h=>cases h
 | [a],h=>exact iN (R.E ok h)
 | a::b::vs,h =>
  obtain⟨x,e1,h⟩:=xI h;obtain⟨y,e2,h⟩:=xI h;simp only at h;split at h
  ·rename_i hw;rw[A2] at hw;have ha:=ES (R.E ok e1);have hb:=ES (R.E ok e2);have jk:∀(i o:Nat),(Bj x.Γ y.Γ)[i]?=some (some o)->i∈BX (Bj x.Γ y.Γ) (x.js++y.js)\/i∉x.js++y.js:=fun i o h=>BW h
   cases op with
   | And=>cases h;exact PE.imp (iT ha (PE.imp hb fun _ _ _ h=>Hv hw.2 (fun _ z=>z) h)) fun σ H Q h=>gG hw.1 (IF jk (fun i z=>BF z) h)
   | Or=>cases h;exact PE.imp (nN ha (PE.imp hb fun _ _ _ h=>Hv hw.2 (fun _ z=>z) h)) fun σ H Q h=>mH hw.1 (IF jk (fun i z=>BF z) h)
  ·cases h
def pC(r:Rec)(C:Cf)(Γ:Gm)(c a b:Expr):Option CE:=(r.T C Γ c).bind fun t=>(r.E C t.Γ a).bind fun x=>(r.E C t.Γ b).bind fun y=>let Γ':=Bj x.Γ y.Γ;let js:=t.js++(x.js++y.js);if Bv Γ' x.Γ && Bv Γ' y.Γ then some ⟨0,Γ',js,QR (BX Γ' js) (Jg t.f x.f y.f)⟩ else none
theorem cX(R:xb r){c:Expr}{d:CE}(ok:xT C X)(h:pC r C Γ c a b=some d):PE X (.IfExp c a b pos) (tE X.K Γ d.o d.Γ d.js d.f):=by
 obtain⟨t,e1,h⟩:=xI h;obtain⟨x,e2,h⟩:=xI h;obtain⟨y,e3,h⟩:=xI h;simp only at h;split at h
 ·rename_i hw;rw[A2] at hw;cases h;exact PE.imp (WS (R.T ok e1) (PE.imp (ES (R.E ok e2)) fun _ _ _ h=>Hv hw.1 (fun _ z=>z) h) (PE.imp (ES (R.E ok e3)) fun _ _ _ h=>Hv hw.2 (fun _ z=>z) h)) fun σ H Q h=>mI (IF (fun i o z=>BW z) (fun i z=>BF z) h)
 ·cases h
theorem BE(h:es.all BV=true):(O3 pos (D8 es env)).any (·.1)=false:=by
 induction es with
 | nil=>rfl
 | cons e es ih =>
  rw[I9,A2] at h;rw[AQ h.1];show(false || (O3 pos (D8 es env)).any (·.1))=false;rw[ih h.2];rfl
theorem lO(h:es.all BV=true):(O3 pos (D8 es env)).all (fun x=>!x.1)=true:=by
 induction es with
 | nil=>rfl
 | cons e es ih =>
  rw[I9,A2] at h;rw[AQ h.1];show(true && (O3 pos (D8 es env)).all (fun x=>!x.1))=true;rw[ih h.2];rfl
def fS(r:Rec)(C:Cf)(Γ:Gm)(s:xZ)(es:List Expr):Option CE:=(r.A C Γ ((B1 es.length).map s.io.contains) es).bind fun c=>if df c.as s.io && (es.length == s.ps.length) && (slots c.as s.io).all (fun i=>c.Γ.getD i none == some 1) then some ⟨s.ro,c.Γ,c.js++slots c.as s.io,MP s c.as⟩ else none
variable {p:Pos}
theorem Yp(R:xb r)(ok:xT C X)(hs:(x,s)∈C.fs/\s.cl=none)(hg:Gl X x)(hn:TJ x=true)(h:fS r C Γ s es=some c):PE X (.Call (.Name x p) es [] pos) (tE X.K Γ c.o c.Γ c.js c.f):=by
 obtain⟨c1,e1,h⟩:=xI h;split at h
 ·rename_i hw;simp only[A2,F0,beq_iff_eq] at hw;cases h;obtain⟨a1,a2,a3,a4,_⟩:=R.A ok e1;obtain⟨nd,yd,j,kk,hj,hrm,F⟩:=ok.fx hs;have run:∀{σ H Q},tE X.K Γ s.ro c1.Γ (c1.js++slots c1.as s.io) (MP s c1.as) σ H Q->pb (Mt X.K s) (BM X.K c1.as) σ H Q:=fun h=>OY a2 hw.1.1 (a3.trans hw.1.2) nd yd (fun i hi=>Aw (hw.2 i hi)) h
  cases es with
  | nil =>
   have e:c1.as=[]:=E9 a3;refine PE.imp (WT F hrm hj hg (Cn hn).1) fun σ H Q h=>?_
   have:=run h;rw[e] at this;exact this
  | cons e es =>
   rw[I9,A2] at a4;exact PE.imp (dw F hrm hj hg a1 (Cn hn).1 (AQ a4.1) (BE a4.2)) fun σ H Q h=>run h
 ·cases h
def fP(r:Rec)(C:Cf)(Γ:Gm)(s:xZ)(es:List Expr):Option CE:=(r.A C Γ (K1 es.length true) es).bind fun c=>if es.length == s.ps.length then some ⟨1,c.Γ,c.js,MO s c.as⟩ else none
theorem Ym(R:xb r)(ok:xT C X)(hs:(x,s)∈C.fs/\s.cl=none)(yd:s.io=[])(hg:Gl X x)(hn:TJ x=true)(h:fP r C Γ s es=some c):PE X (.Call (.Name x p) es [] pos) (tE X.K Γ c.o c.Γ c.js c.f):=by
 obtain⟨c1,e1,h⟩:=xI h;split at h
 ·rename_i hw;rw[beq_iff_eq] at hw;cases h;obtain⟨a1,a2,a3,a4,_⟩:=R.A ok e1;obtain⟨nd,_,j,kk,hj,hrm,F⟩:=ok.fx hs;have run:∀{σ H Q},tE X.K Γ 1 c1.Γ c1.js (MO s c1.as) σ H Q->pb (Mt X.K s) (BM X.K c1.as) σ H Q:=fun h=>UO a2 yd (a3.trans hw) h
  cases es with
  | nil =>
   have e:c1.as=[]:=E9 a3;refine PE.imp (WT F hrm hj hg (Cn hn).1) fun σ H Q h=>?_
   have:=run h;rw[e] at this;exact this
  | cons e es =>
   rw[I9,A2] at a4;exact PE.imp (dw F hrm hj hg a1 (Cn hn).1 (AQ a4.1) (BE a4.2)) fun σ H Q h=>run h
 ·cases h
noncomputable def XI:Expr->Bool
 | .Dict [] [] _=>true
 | _=>false
def fR(r:Rec)(C:Cf)(Γ:Gm)(s:xZ)(es:List Expr):Option CE:=none
theorem Yo(R:xb r)(ok:xT C X)(hs:(x,s)∈C.fs/\s.cl=none)(hg:Gl X x)(hn:TJ x=true)(hd:(es.getLast?.map XI).getD false=true)(h:fR r C Γ s es=some c):PE X (.Call (.Name x p) es [] pos) (tE X.K Γ c.o c.Γ c.js c.f):=by cases h
noncomputable def qV:Expr->Bool
 | .Call ..=>true
 | _=>false
def fQ(r:Rec)(C:Cf)(Γ:Gm)(s:xZ)(es:List Expr):Option CE:=none
theorem Yn(R:xb r)(ok:xT C X)(hs:(x,s)∈C.fs/\s.cl=none)(hg:Gl X x)(hn:TJ x=true)(h:fQ r C Γ s es=some c):PE X (.Call (.Name x p) es [] pos) (tE X.K Γ c.o c.Γ c.js c.f):=by cases h
def km(r:Rec)(C:Cf)(Γ:Gm)(s:xZ)(es:List Expr):Option CE:=if s.nb && s.io.isEmpty then fP r C Γ s es else if(es.getLast?.map XI).getD false && s.io.contains (es.length - 1) then fR r C Γ s es else if(es.head?.map qV).getD false && s.io.contains 0 then fQ r C Γ s es else fS r C Γ s es
theorem cS(R:xb r)(ok:xT C X)(hs:(x,s)∈C.fs/\s.cl=none)(hg:Gl X x)(hn:TJ x=true)(h:km r C Γ s es=some c):PE X (.Call (.Name x p) es [] pos) (tE X.K Γ c.o c.Γ c.js c.f):=by
 unfold km at h;split at h
 ·rename_i z;rw[A2,vh] at z;exact Ym R ok hs z.2 hg hn h
 ·split at h
  ·rename_i z;rw[A2] at z;exact Yo R ok hs hg hn z.1 h
  ·split at h
   ·exact Yn R ok hs hg hn h
   ·exact Yp R ok hs hg hn h
def Yk(r:Rec)(C:Cf)(Γ:Gm)(en:zBv)(es:List Expr):Option CE:=if es.isEmpty then none else(r.A C Γ (K1 es.length true) es).bind fun c=>some ⟨en.o,c.Γ,c.js,Fj en.f (AR c.as)⟩
theorem Yj(R:xb r){en:zBv}(ok:xT C X)(hb:en.x∈C.bl)(hg:Gl X en.x)(hn:TJ en.x=true)(h:Yk r C Γ en es=some c):PE X (.Call (.Name en.x p) es [] pos) (tE X.K Γ c.o c.Γ c.js c.f):=by
 cases es with
 | nil=>cases h
 | cons e es =>
  unfold Yk at h;rw[if_neg (by simp)] at h;obtain⟨c1,e1,h⟩:=xI h;cases h;obtain⟨a1,a2,a3,a4,_⟩:=R.A ok e1;rw[I9,A2] at a4;obtain⟨rr,q1,q2⟩:=en.ok X ok.gx;have n:=Cn hn;rcases q2 with⟨id,q2,q3⟩ | ⟨T,q2,q3⟩
  ·exact PE.imp (WV q2 hg (ok.bl _ hb) q3 a1 n.2.2 n.1 (AQ a4.1) (BE a4.2)) fun _ _ _ h=>Cm q1 a2 h
  ·exact PE.imp (TB q2 hg (ok.bl _ hb) q3 a1 n.2.2 n.1 (AQ a4.1) (BE a4.2)) fun _ _ _ h=>Cm q1 a2 h
noncomputable def ZP:Expr->Bool
 | .Call _ _ _ _=>false
 | _=>true
theorem FJ{name:Str}{w:Sem Value}(h:ZP o=true):N2 o name env w=w:=by
 cases o<;>first | rfl | (cases h)
def ko(r:Rec)(C:Cf)(Γ:Gm)(en:zBt)(i:Nat)(es:List Expr):Option CE:=if es.length < 29 && (Γ.getD i none).isSome then(r.A C Γ [] es).bind fun c=>if c.Γ.getD i none == some 1 then some ⟨0,c.Γ,c.js++[i],Xj en.T i en.p (AR c.as)⟩ else none else none
theorem Jd(h:(e::es).all BV=true)(hl:(e::es).length < 29):((O3 pos (D8 (e::es) env)).all (fun x=>!x.1) && (sZ pos (W0 [] env)).all (fun x=>x.1.isSome)
      && decide ((e::es).length+([]:List Z0).length+(if([]:List Z0).isEmpty then 0 else 1) < 30))=true:=by
  rw[lO h];show(true && true && decide _)=true;simp only[G6,S3,decide_eq_true_eq,M5,sv,if_true];omega
variable {apos:Pos}
theorem cV(R:xb r){en:zBt}(ok:xT C X)(hi:Ow C o=some i)(xf:(apos.endLine == pos.line)=true)(h:ko r C Γ en i es=some c):PE X (.Call (.Attribute o en.x apos) es [] pos) (tE X.K Γ c.o c.Γ c.js c.f):=by
 unfold ko at h;split at h
 ·rename_i h0;simp only[A2,decide_eq_true_eq] at h0;obtain⟨c1,e1,h⟩:=xI h;split at h
  ·rename_i h1;cases h;obtain⟨a1,a2,a3,a4,a5⟩:=R.A ok e1;obtain⟨id,rr,q1,q2,q3,q4,q5⟩:=en.ok X ok.gx;have ho:=Bd ok hi;have xn:N2 o en.x X.env (N1 o X.env)=N1 o X.env:=FJ (by cases o<;>first | rfl | (cases hi));have run:∀{σ H Q},tE X.K Γ 0 c1.Γ (c1.js++[i]) (Xj en.T i en.p (AR c1.as)) σ H Q->gJ X.K en.T rr (DE i) (BM X.K c1.as) σ H Q:=fun h=>bX q5 en.hT a2 (a5 rfl) (getD_some h0.2) (Aw (beq_iff_eq.mp h1)) h
   cases es with
   | nil =>
    have e:c1.as=[]:=E9 a3;refine PE.imp (Ph q1 q2 q3 q4 ho xn xf) fun σ H Q h=>?_
    have:=run h;rw[e] at this;exact this
   | cons e es =>
    have a4':=a4;rw[I9,A2] at a4;exact PE.imp (WX q1 q2 q3 q4 ho a1 xn (Jd a4' h0.1) xf (AQ a4.1) (BE a4.2)) fun σ H Q h=>run h
  ·cases h
 ·cases h
def pA(r:Rec)(C:Cf)(Γ:Gm)(en:zBH)(o:Expr)(es:List Expr):Option CE:=if es.length < 29 && ZP o then(Eg r C Γ true o).bind fun x=>(r.A C x.Γ (K1 es.length true) es).bind fun c=>if Dz x.a c.Γ then some ⟨en.o,c.Γ,x.js++c.js,Xk en.T x.a c.as en.f⟩ else none else none
theorem Qe(R:xb r){en:zBH}(ok:xT C X)(xf:(apos.endLine == pos.line)=true)(hn:en.n=es.length)(h:pA r C Γ en o es=some c):PE X (.Call (.Attribute o en.x apos) es [] pos) (tE X.K Γ c.o c.Γ c.js c.f):=by
 unfold pA at h;split at h
 ·rename_i h0;simp only[A2,decide_eq_true_eq] at h0;obtain⟨x,e0,h⟩:=xI h;obtain⟨c1,e1,h⟩:=xI h;split at h
  ·rename_i h1;cases h;obtain⟨o1,_,o2⟩:=Bf R ok e0;obtain⟨a1,a2,a3,a4,a5⟩:=R.A ok e1;obtain⟨id,rr,q1,q2,q3,q4,q5⟩:=en.ok X ok.gx;have xn:N2 o en.x X.env (N1 o X.env)=N1 o X.env:=FJ h0.2;rcases en.hT with hT | ⟨hT,hT1⟩
   ·have run:∀{σ H Q},tE X.K Γ en.o c1.Γ (x.js++c1.js) (Xk en.T x.a c1.as en.f) σ H Q->gJ X.K en.T rr (Fk X.K x.a) (BM X.K c1.as) σ H Q:=fun h=>jD q5 hT (o2 a2 h1) h
    cases es with
    | nil =>
     have e:c1.as=[]:=E9 a3;refine PE.imp (Ph q1 q2 q3 q4 o1 xn xf) fun σ H Q h=>?_
     have:=run h;rw[e] at this;exact this
    | cons e es =>
     have a4':=a4;rw[I9,A2] at a4;exact PE.imp (WX q1 q2 q3 q4 o1 a1 xn (Jd a4' h0.1) xf (AQ a4.1) (BE a4.2)) fun σ H Q h=>run h
   ·have run:∀{σ H Q},tE X.K Γ en.o c1.Γ (x.js++c1.js) (Xk en.T x.a c1.as en.f) σ H Q->qI rr (Fk X.K x.a) (BM X.K c1.as) σ H Q:=fun h=>bZ q5 (o2 a2 h1) (by rw[hT] at h;exact h)
    rw[hT] at q1 q2;cases es with
    | nil=>rw[hT1] at hn;cases hn
    | cons e es =>
     have a4':=a4;rw[I9,A2] at a4;exact PE.imp (nQ q1 q2 q3 q4 o1 a1 xn (Jd a4' h0.1) xf (AQ a4.1) (BE a4.2)) fun σ H Q h=>run h
  ·cases h
 ·cases h
def kZ(c1 c2:CE):Option CE:=if c1.o == c2.o && c1.Γ == c2.Γ && c1.js == c2.js then some ⟨c1.o,c1.Γ,c1.js,QR (BX c1.Γ c1.js) (kO c1.f c2.f)⟩ else none
theorem cJ{c1 c2:CE}(h1:PE X e (tE X.K Γ c1.o c1.Γ c1.js c1.f))(h2:PE X e (tE X.K Γ c2.o c2.Γ c2.js c2.f))(h:kZ c1 c2=some c):PE X e (tE X.K Γ c.o c.Γ c.js c.f):=by
 unfold kZ at h;split at h
 ·rename_i h0;simp only[A2,beq_iff_eq] at h0;obtain⟨⟨e1,e2⟩,e3⟩:=h0;cases h;rw[<- e1,<- e2,<- e3] at h2;intro pins s σ H Q I q;rcases gE (IF (fun i o z=>BW z) (fun i z=>BF z) q) with q | q
  ·exact h1 pins s σ H Q I q
  ·exact h2 pins s σ H Q I q
 ·cases h
def Yt(r:Rec)(C:Cf)(Γ:Gm)(en:zBt)(i:Nat)(f:Str)(es:List Expr):Option CE:=if es.length < 29 && (Γ.getD i none).isSome then(r.A C Γ [] es).bind fun c=>if c.Γ.getD i none == some 1 then some ⟨0,c.Γ,c.js++[i],MM en.T i f en.p (AR c.as)⟩ else none else none
theorem Ys(R:xb r){en:zBt}{q:Nat×Str}(ok:xT C X)(hi:eZ C o=some q)(xf:(apos.endLine == pos.line)=true)(h:Yt r C Γ en q.1 q.2 es=some c):PE X (.Call (.Attribute o en.x apos) es [] pos) (tE X.K Γ c.o c.Γ c.js c.f):=by
 unfold Yt at h;split at h
 ·rename_i h0;simp only[A2,decide_eq_true_eq] at h0;obtain⟨c1,e1,h⟩:=xI h;split at h
  ·rename_i h1;cases h;obtain⟨a1,a2,a3,a4,a5⟩:=R.A ok e1;obtain⟨id,rr,q1,q2,q3,q4,q5⟩:=en.ok X ok.gx;have ho:=Je ok hi;have xn:N2 o en.x X.env (N1 o X.env)=N1 o X.env:=FJ (by cases o<;>first | rfl | (cases hi));have run:∀{σ H Q},tE X.K Γ 0 c1.Γ (c1.js++[q.1]) (MM en.T q.1 q.2 en.p (AR c1.as)) σ H Q->gJ X.K en.T rr (Sg X.K (DE q.1) q.2) (BM X.K c1.as) σ H Q:=fun h=>Wk q5 en.hT a2 (a5 rfl) (getD_some h0.2) (Aw (beq_iff_eq.mp h1)) h
   cases es with
   | nil =>
    have e:c1.as=[]:=E9 a3;refine PE.imp (Ph q1 q2 q3 q4 ho xn xf) fun σ H Q h=>?_
    have:=run h;rw[e] at this;exact this
   | cons e es =>
    have a4':=a4;rw[I9,A2] at a4;exact PE.imp (WX q1 q2 q3 q4 ho a1 xn (Jd a4' h0.1) xf (AQ a4.1) (BE a4.2)) fun σ H Q h=>run h
  ·cases h
 ·cases h
def Yv(r:Rec)(C:Cf)(Γ:Gm)(mt:Str)(s:xZ)(i:Nat)(es:List Expr):Option CE:=if es.length < 29 && (Γ.getD i none).isSome then(r.A C Γ ((B1 es.length).map fun j=>s.io.contains (j+1)) es).bind fun c=>if low c.Γ i && df (.rf i::c.as) s.io && (es.length+1 == s.ps.length) && (slots (.rf i::c.as) s.io).all (fun j=>c.Γ.getD j none == some 1) then some ⟨s.ro,c.Γ,c.js++slots (.rf i::c.as) s.io,MN s (s.cl.getD "") mt i c.as⟩ else none else none
theorem LM{name:Str}{apos pos:Pos}{args:List Expr}(xn:N2 o name env (N1 o env)=N1 o env)
    (zBk:methodCallForm (args.length+([]:List Z0).length) (O3 pos (D8 args env)) (sZ pos (W0 [] env))=true) (xf:(apos.endLine == pos.line)=true) :
    N1 (.Call (.Attribute o name apos) args [] pos) env=(do
      let ov <- N1 o env
      u9 apos.atName
      let (f,first) <- g8 [ov] (uS ov name (do return (<- importBound o env).getD true))
      callWith pos f first (O3 pos (D8 args env)) (sZ pos (W0 [] env))):=by
  have zEC:methodCallPos true o env apos pos=pure pos:=by unfold methodCallPos;simp[xf]
  rw[arm_eval_Call,xn];unfold methodCall;rw[zBk,zEC];rfl
theorem Lz(h:X.xe=fun _ _=>False):DQ Qt X E0:=fun _ _ _ _ _ _ _ z=>z.elim
theorem Yu(R:xb r){mt cl:Str}(ok:xT C X)(hs:(mt,s)∈C.fs)(hcl:s.cl=some cl)(hi:Ow C o=some i)(xf:(apos.endLine == pos.line)=true)(h:Yv r C Γ mt s i es=some c):PE X (.Call (.Attribute o mt apos) es [] pos) (tE X.K Γ c.o c.Γ c.js c.f):=by
 obtain⟨xo,po,rfl⟩:∃xo po,o=.Name xo po:=by cases o<;>first | exact⟨_,_,rfl⟩ | (cases hi)
 unfold Yv at h;split at h
 ·rename_i h0;simp only[A2,decide_eq_true_eq] at h0;obtain⟨h29,h0⟩:=h0;obtain⟨c1,e1,h⟩:=xI h;split at h
  ·rename_i hw;simp only[A2,F0,beq_iff_eq] at hw;cases h;obtain⟨a1,a2,a3,a4,_⟩:=R.A ok e1;obtain⟨nd,yd,j,kk,hj,hrm,F⟩:=ok.fs mt s hs;unfold Fz at F;rw[hcl] at F;obtain⟨j',f,fd,hjj,F1,F2,F3,F4,F5,_⟩:=F;have ch:AD Γ (.rf i::c1.as) c1.Γ c1.js:=by unfold AD;exact⟨getD_some h0,EW hw.1.1.1,a2⟩
   have run:∀{σ H Q},tE X.K Γ s.ro c1.Γ (c1.js++slots (.rf i::c1.as) s.io) (MN s (s.cl.getD "") mt i c1.as) σ H Q->RD (Dd X.K cl) mt (Mt X.K s) [] E0 (DE i) (BM X.K c1.as) σ H Q:=fun h=>by
    rw[hcl] at h;exact Wt ch hw.1.1.2 (by rw[<- hw.1.2];simp[a3]) nd yd (fun i hi=>Aw (hw.2 i hi)) h
   have hrr:xW j' X.A:=hrm.mono (by omega);cases es with
   | nil =>
    have e:c1.as=[]:=E9 a3;refine PE.imp (WQ (Bd ok hi) F4.1 F3 F1 hrr F2 .nil (Lz ok.xe) (LM rfl rfl xf)) fun σ H Q h=>?_
    have:=run h;rw[e] at this;exact this
   | cons e es =>
    have a4':=a4;rw[I9,A2] at a4;exact PE.imp (bB (Bd ok hi) F4.1 F3 F1 hrr F2 .nil (Lz ok.xe) a1 (AQ a4.1) (BE a4.2) (LM rfl (Jd a4' h29) xf)) fun σ H Q h=>run h
  ·cases h
 ·cases h
def fT(r:Rec)(C:Cf)(Γ:Gm)(s:xZ)(x:Str)(es:List Expr):Option CE:=(r.A C Γ [] es).bind fun c=>if(es.length+1 == s.ps.length) && s.io == [0] then some ⟨1,c.Γ,c.js,QQ s x C.fl c.as⟩ else none
theorem Yw(R:xb r)(ok:xT C X)(hs:(("__init__" : Str),s)∈C.fs)(hcl:s.cl=some x)(hg:Gl X x)(hn:TJ x=true)(h:fT r C Γ s x es=some c):PE X (.Call (.Name x p) es [] pos) (tE X.K Γ c.o c.Γ c.js c.f):=by
 obtain⟨c1,e1,h⟩:=xI h;split at h
 ·rename_i hw;simp only[A2,beq_iff_eq] at hw;cases h;obtain⟨a1,a2,a3,a4,a5⟩:=R.A ok e1
  obtain⟨nd,yd,j,kk,hj,hrm,F⟩:=ok.fs "__init__" s hs
  unfold Fz at F;rw[hcl] at F;obtain⟨j',f,fd,hjj,F1,F2,F3,F4,F5,F6⟩:=F;have run:∀{σ H Q},tE X.K Γ 1 c1.Γ c1.js (QQ s x C.fl c1.as) σ H Q->RE (Dd X.K x) (Mt X.K s) [] E0 (BM X.K c1.as) σ H Q:=fun h=>Ww F4 hw.2 (by rw[<- hw.1,a3]) (a5 rfl) a2 h
  have hrr:xW (j'+1) X.A:=hrm.mono (by omega);cases es with
  | nil =>
   have e:c1.as=[]:=E9 a3;refine PE.imp (WR (F6 rfl) F1 hrr hg F5 F2 .nil (Lz ok.xe) (Cn hn).1) fun σ H Q h=>?_
   have:=run h;rw[e] at this;exact this
  | cons e es =>
   rw[I9,A2] at a4;exact PE.imp (bC (F6 rfl) F1 hrr hg F5 F2 .nil (Lz ok.xe) a1 (Cn hn).1 (AQ a4.1) (BE a4.2)) fun σ H Q h=>run h
 ·cases h
def qh(r:Rec)(C:Cf)(Γ:Gm)(o:Expr)(es:List Expr):List zBH->Option CE
 | []=>none
 | [en]=>pA r C Γ en o es
 | en::en2::_=>(pA r C Γ en o es).bind fun c1=>(pA r C Γ en2 o es).bind fun c2=>kZ c1 c2
def SL(r:Rec)(C:Cf)(Γ:Gm)(f:Expr)(es:List Expr)(pos:Pos):Option CE:=match f with
  | .Name x _=>if QJ C.sc x && TJ x then(match C.fs.find? fun p=>p.1 == x && p.2.cl == none with
      | some p=>km r C Γ p.2 es
      | none=>match C.fs.find? fun p=>p.1 == ("__init__" : Str) && p.2.cl == some x with
      | some p=>fT r C Γ p.2 x es
      | none=>(C.T.calls.find? fun e=>e.x == x && e.n == es.length).bind fun en=>if C.bl.contains x then Yk r C Γ en es else none) else none
  | .Attribute o name apos=>if apos.endLine == pos.line then(match C.T.zDE.find? fun e=>e.x == name && e.n == es.length with
      | some en=>(match eZ C o with
        | some q=>Yt r C Γ en q.1 q.2 es
        | none=>(Ow C o).bind fun i=>ko r C Γ en i es)
      | none=>match C.fs.find? fun p=>p.1 == name && p.2.cl != none with
        | some p=>(Ow C o).bind fun i=>Yv r C Γ name p.2 i es
        | none=>qh r C Γ o es (C.T.meths.filter fun e=>e.x == name && e.n == es.length)) else none
  | _=>none
theorem ZC(R:xb r){f:Expr}(ok:xT C X)(h:SL r C Γ f es pos=some c):PE X (.Call f es [] pos) (tE X.K Γ c.o c.Γ c.js c.f):=by
 cases f with
 | Name x p =>
  simp only[SL] at h;split at h
  ·rename_i h0;rw[A2] at h0;split at h
   ·rename_i p' hp;have e:=J3 hp;simp only[A2,beq_iff_eq] at e;have hm:=R3 hp;exact cS R ok (s:=p'.2) ⟨by rw[<- e.1];exact hm,e.2⟩ (DC ok h0.1) h0.2 h
   ·split at h
    ·rename_i p' hp;have e:=J3 hp;simp only[A2,beq_iff_eq] at e;have hm:=R3 hp;exact Yw R ok (s:=p'.2) (by rw[<- e.1];exact hm) e.2 (DC ok h0.1) h0.2 h
    replace h:=xI h;obtain⟨en,e1,h⟩:=h;split at h
    ·rename_i hb;have e:=J3 e1;simp only[A2,beq_iff_eq] at e;obtain⟨rfl,_⟩:=e;exact Yj R ok (C7.mp hb) (DC ok h0.1) h0.2 h
    ·cases h
  ·cases h
 | Attribute o name apos =>
  simp only[SL] at h;split at h
  ·rename_i hl;split at h
   ·rename_i en he;have e:=J3 he;simp only[A2,beq_iff_eq] at e;obtain⟨rfl,_⟩:=e;split at h
    ·rename_i q hq;exact Ys R ok hq hl h
    ·obtain⟨i,e1,h⟩:=xI h;exact cV R ok e1 hl h
   ·split at h
    ·rename_i p' hp;have e:=J3 hp;simp only[A2,beq_iff_eq,bne_iff_ne,ne_eq] at e;obtain⟨cl,hcl⟩:=Option.ne_none_iff_exists'.mp e.2;have hm:=R3 hp;obtain⟨i,e1,h⟩:=xI h;exact Yu R ok (s:=p'.2) (by rw[<- e.1];exact hm) hcl e1 hl h
    have hm:∀en∈C.T.meths.filter fun e=>e.x == name && e.n == es.length,en.x=name/\en.n=es.length:=fun en he=>by
     have:=(T6.mp he).2;simp only[A2,beq_iff_eq] at this;exact this
    revert h hm
    generalize (C.T.meths.filter fun e=>e.x == name && e.n == es.length)=L;intro h hm
    match L,hm,h with
    | [],hm,h=>cases h
    | [en],hm,h =>
     obtain⟨rfl,e2⟩:=hm en B2;exact Qe R ok hl e2 h
    | en::en2::_,hm,h =>
     obtain⟨c1,e1,h⟩:=xI h;obtain⟨c2,e2,h⟩:=xI h;obtain⟨q1,q2⟩:=hm en B2;obtain⟨q3,q4⟩:=hm en2 (A7 _ B2);have p1:=Qe (pos:=pos) (apos:=apos) R ok hl q2 e1;have p2:=Qe (pos:=pos) (apos:=apos) R ok hl q4 e2;rw[q1] at p1;rw[q3] at p2;exact cJ p1 p2 h
  ·cases h
 | _=>cases h
def Mq(C:Cf)(x:Str):Option Nat:=if TJ x then(match C.sc.names.lookup x with
 | some .local=>Dh C.N x
 | some .cell=>if C.fn x then Dh C.N x else none
 | _=>none) else none
theorem Mp(ok:xT C X)(h:Mq C x=some i):X.N[i]?=some x/\Loc X.env.scope x/\(X.fn x=true\/X.env.scope.names.lookup x=some .local):=by
 unfold Mq at h;split at h
 ·split at h
  ·rename_i e;rw[ok.N,ok.sc];exact⟨Bm h,.inl e,.inr e⟩
  ·rename_i e;split at h
   ·rename_i hf;rw[ok.N,ok.sc];exact⟨Bm h,.inr e,.inl (ok.fn x hf)⟩
   ·cases h
  ·cases h
 ·cases h
theorem SQ(ok:xT C X)(h:Mq C x=some i):PG X (.Name x pos) (DZ i):=by
 obtain⟨h1,h2,h3⟩:=Mp ok h;exact az ok.nd h1 h2 h3
def lW(C:Cf):List Expr->Option (List Nat)
 | []=>some []
 | .Name x _::es=>(Mq C x).bind fun i=>(lW C es).bind fun J=>some (i::J)
 | _::_=>none
theorem VC{C:Cf}{X:Cx}(ok:xT C X):∀{es:List Expr} {J:List Nat},lW C es=some J->lR X es (Ec J)/\(M7 es X.env).length=J.length/\(M7 es X.env).findIdx? (·.1)=none
 | [],J,h=>by cases h;exact⟨Lx,rfl,rfl⟩
 | e::es,J,h=>by
  cases e with
  | Name x pos =>
   obtain⟨i,e1,h⟩:=xI (show(Mq C x).bind (fun i=>(lW C es).bind fun J=>some (i::J))=some J from h);obtain⟨J',e2,h⟩:=xI h;cases h;obtain⟨h1,h2,h3⟩:=VC ok e2;refine⟨EV (SQ ok e1) h1 rfl,?_,?_⟩
   ·show(M7 es X.env).length+1=_;rw[h2];rfl
   ·show List.findIdx? (·.1) ((false,W6 (.Name x pos) X.env)::M7 es X.env)=none;rw[List.findIdx?_cons,h3];rfl
  | _=>cases h
structure CG:Type 1 where
 J:List Nat
 f:Tg
 g:W.Frag->TG
 Γ:Gm->Gm
def UZ(C:Cf)(e:Expr):Option CG:=match e with
 | .Name x _=>(Mq C x).map fun i=>⟨[i],mB i,fun _=>DZ i,fun Γ=>Γ.set i (some 0)⟩
 | .Tuple es _ _=>(lW C es).map fun J=>⟨J,rE J,fun K=>XX K J.length (Ec J),fun Γ=>Vh Γ J (some 0)⟩
 | _=>none
theorem Qf{c:CG}(ok:xT C X)(h:UZ C e=some c):PG X e (c.g X.K)/\(∀js,(∀i∈c.J,i∈js)->y0 js (c.g X.K))/\∀{K Γ},c.J.all (fun i=>decide (i < Γ.length))=true->Oo K Γ (c.Γ Γ) c.J (c.g K) c.f:=by
 cases e with
 | Name x pos =>
  cases q:Mq C x with
  | none=>simp only[UZ,q] at h;cases h
  | some i =>
   simp only[UZ,q] at h;cases h;exact⟨SQ ok q,fun js hj=>XT (hj i (W4 _)),fun h=>Zw (by simpa using h)⟩
 | Tuple es k pos =>
  cases q:lW C es with
  | none=>simp only[UZ,q] at h;cases h
  | some J =>
   simp only[UZ,q] at h;cases h;obtain⟨h1,h2,h3⟩:=VC ok q;exact⟨PG.or (Pf ok.calm h1 h2 h3) (WN ok.calm h1 h2 h3),fun js hj=>XS (Rq (Fh J hj)) (Rr (Fh J hj)),fun h=>VD (by simpa using h)⟩
 | _=>cases h
theorem Ob{c:CG}(h:UZ C e=some c):(∀K,Zf (c.g K))/\(∀Γ,(c.Γ Γ).length=Γ.length)/\(∀es env,M7 (e::es) env=(false,W6 e env)::M7 es env):=by
 cases e with
 | Name x pos =>
  cases q:Mq C x with
  | none=>simp only[UZ,q] at h;cases h
  | some i =>
   simp only[UZ,q] at h;cases h;exact⟨fun _=>Kq,fun _=>D1 ..,fun _ _=>rfl⟩
 | Tuple es k pos =>
  cases q:lW C es with
  | none=>simp only[UZ,q] at h;cases h
  | some J =>
   simp only[UZ,q] at h;cases h;exact⟨fun _=>Wr (JN J),fun _=>Vg ..,fun _ _=>rfl⟩
 | _=>cases h
def sR(C:Cf)(e1 e2:Expr):Option CG:=(UZ C e1).bind fun c1=>(UZ C e2).bind fun c2=>some ⟨c1.J++c2.J,rD c1.f c2.f,fun K=>XX K 2 (Cq (c1.g K) (Cq (c2.g K) MI)),fun Γ=>c2.Γ (c1.Γ Γ)⟩
def cG(C:Cf)(e:Expr):Option CG:=match UZ C e with
 | some c=>some c
 | none=>match e with
  | .Tuple [e1,e2] _ _=>sR C e1 e2
  | _=>none
theorem Oa{c:CG}(ok:xT C X)(h:cG C e=some c):PG X e (c.g X.K)/\(∀js,(∀i∈c.J,i∈js)->y0 js (c.g X.K))/\∀{K Γ},c.J.all (fun i=>decide (i < Γ.length))=true->Oo K Γ (c.Γ Γ) c.J (c.g K) c.f:=by
 unfold cG at h;split at h
 ·rename_i c' q;cases h;exact Qf ok q
 ·split at h
  ·rename_i e1 e2 k pos _;obtain⟨c1,q1,h⟩:=xI h;obtain⟨c2,q2,h⟩:=xI h;cases h;obtain⟨p1,o1,t1⟩:=Qf ok q1;obtain⟨p2,o2,t2⟩:=Qf ok q2;obtain⟨m1,l1,a1⟩:=Ob q1;obtain⟨m2,l2,a2⟩:=Ob q2;have ea:M7 [e1,e2] X.env=[(false,W6 e1 X.env),(false,W6 e2 X.env)]:=by rw[a1,a2];rfl
   have hp:lR X [e1,e2] (Cq (c1.g X.K) (Cq (c2.g X.K) MI)):=EV p1 (EV p2 Lx (by rw[a2];rfl)) (by rw[a1];rfl);refine⟨PG.or (Pf ok.calm hp (by rw[ea];rfl) (by rw[ea];rfl)) (WN ok.calm hp (by rw[ea];rfl) (by rw[ea];rfl)),fun js hj=>?_,fun{K Γ} h=>?_⟩
   ·have g:=JW (m1 X.K) (Kr (m2 X.K) JM) (o1 js fun i hi=>hj i (C3 _ hi)) (JW (m2 X.K) JM (o2 js fun i hi=>hj i (B4 _ hi)) Nx);exact XS (Rq g) (Rr g)
   ·rw[List.all_append,A2] at h;exact Zv (t1 h.1) (t2 (by rw[l1];exact h.2))
  ·cases h
def qg(r:Rec)(C:Cf)(Γ:Gm)(en:zDg)(es:List Expr):Option CI:=(r.A C Γ [] es).bind fun c=>some ⟨c.Γ,c.js,fB en.f (AR c.as)⟩
def kh(r:Rec)(C:Cf)(Γ:Gm)(e:Expr):Option CI:=(r.E C Γ e).bind fun c=>some ⟨c.Γ,c.js,Rz c.f⟩
def VQ(r:Rec)(C:Cf)(Γ:Gm)(tt:Bool)(e:Expr):Option CI:=match e with
  | .Call (.Name x _) es [] _=>(match C.T.zCy.find? fun en=>en.x == x && en.n == es.length && (!en.tt || tt) with
      | some en=>if QJ C.sc x && C.bl.contains x && (C.fs.find? fun p=>p.1 == x).isNone then qg r C Γ en es else none
      | none=>kh r C Γ e)
  | e=>kh r C Γ e
theorem VP(R:xb r){c:CI}(tg:Expr)(ok:xT C X)(h:VQ r C Γ (Nw tg) e=some c):PI X tg e (tI X.K Γ c.Γ c.js c.f):=by
 have seq:kh r C Γ e=some c->PI X tg e (tI X.K Γ c.Γ c.js c.f):=fun h=>by
  obtain⟨c1,e1,h⟩:=xI h;cases h;exact oJ (ES (R.E ok e1))
 unfold VQ at h;split at h
 ·rename_i x p es pos;split at h
  ·rename_i en he;split at h
   ·rename_i h0;simp only[A2] at h0;have e:=J3 he;simp only[A2,beq_iff_eq] at e;obtain⟨⟨rfl,hn⟩,htt⟩:=e;obtain⟨c1,e1,h⟩:=xI h;cases h;obtain⟨a1,a2,a3,a4,a5⟩:=R.A ok e1;obtain⟨rr,q1,q2⟩:=en.ok X ok.gx;exact PI.imp (q2 tg es p pos _ (fun z=>by rw[z] at htt;simpa using htt) hn.symm a4 (DC ok h0.1.1) (ok.bl _ (C7.mp h0.1.2)) a1) fun _ _ _ h=>aB q1 a2 (a5 rfl) h
   ·cases h
  ·exact seq h
 ·exact seq h
def JA(scope sc:N4):N4:={ scope with names:=scope.names.map fun(n,k)=>if(k == .free && sc.kind == .function && sc.names.lookup n == some .cell) then(n,.cell) else(n,k) }
def Cf.inner(C:Cf)(scope:N4):Cf:={ C with sc:=JA scope C.sc,fn:=AV scope }
theorem xT.inner(ok:xT C X)(scope:N4)(cl:List (Str×B5))(a:B5)(s:A9)(H:Hp)(fp:List B5):xT (C.inner scope) (X.inner scope cl a s H fp) where
 N:=ok.N
 sc:=by
  show relabel scope X.env=JA scope C.sc;unfold relabel JA Env.kindOf;rw[ok.sc]
 nd:=ok.nd
 calm:=ok.calm
 fn:=fun _ h=>h
 room:=ok.room
 fs:=ok.fs
 cs:=ok.cs
 bl:=ok.bl
 xe:=rfl
noncomputable def bJ(N:List Str)(scope:N4):List Nat:=(B1 N.length).filter fun i=>match N[i]? with
 | some x=>(match scope.names.lookup x with | some .local=>true | some .cell=>true | _=>false)
 | none=>false
structure CC:Type 1 where
 t:CG
 c:CT
 e:CE
def RB(r:Rec)(C:Cf)(xN:Gm)(tg:CG)(ifs:List Expr)(elt:Expr):Option CC:=if tg.J.all (fun i=>decide (i < xN.length)) then(match ifs with
 | []=>some (CT.mk (tg.Γ xN) [] Fi)
 | [c]=>r.T C (tg.Γ xN) c
 | _=>none).bind fun c=>(r.E C c.Γ elt).bind fun e=>some ⟨tg,c,e⟩ else none
def kN(r:Rec)(C:Cf)(tg:CG)(ifs:List Expr)(elt:Expr):Nat->Gm->Option (Gm×CC)
 | 0,_=>none
 | n+1,xN=>(RB r C xN tg ifs elt).bind fun x=>if Bv xN x.c.Γ && Bv xN x.e.Γ then some (xN,x) else kN r C tg ifs elt n (Bj xN (Bj x.c.Γ x.e.Γ))
def LO(r:Rec)(C:Cf)(Γ:Gm)(elt:Expr)(gens:List V2)(scope:N4):Option CE:=match gens with
  | [⟨tg,iter,ifs,0⟩]=>(match iter with | .Set _ _ _=>none | _=>r.I C Γ (Nw tg) iter).bind fun s=>let jx:=bJ C.N scope;if xt C.N C.sc scope jx then(cG (C.inner scope) tg).bind fun t=>(kN r (C.inner scope) t ifs elt 4 (Ox jx s.Γ)).bind fun p =>
      let J:=BX p.1 (t.J++(p.2.c.js++p.2.e.js))
      if Bv p.1 (Ox jx s.Γ) && t.J.all jx.contains && (J.isEmpty || ifs.isEmpty) then some ⟨1,PU jx s.Γ p.1,s.js++(t.J++(p.2.c.js++p.2.e.js)),match J,ifs with
        | [],[]=>Xl s.f t.f p.2.e.f
        | [],_=>Xm s.f t.f p.2.c.f p.2.e.f
        | J,_=>SA s.f t.f J p.2.e.f⟩ else none else none
  | _=>none
theorem Rv{r:Rec}{C:Cf}{tg:CG}{ifs:List Expr}{elt:Expr}:∀{n:Nat} {Γ:Gm} {p:Gm×CC},kN r C tg ifs elt n Γ=some p->RB r C p.1 tg ifs elt=some p.2/\Bv p.1 p.2.c.Γ=true/\Bv p.1 p.2.e.Γ=true
 | 0,_,_,h=>by cases h
 | n+1,Γ,p,h=>by
  obtain⟨x,e1,h⟩:=xI (show(RB r C Γ tg ifs elt).bind _=some p from h);split at h
  ·rename_i hw;rw[A2] at hw;cases h;exact⟨e1,hw.1,hw.2⟩
  ·exact Rv h
theorem iU:fY X [] (tT X.K Γ Γ [] Fi):=fun pins s σ H Q I h=>by
 obtain⟨g,m,P,r,R,k,res,e,q⟩:=h;exact wpAny_tests_nil ⟨H,I,q true m g P H e Ba.refl Step.refl r⟩
theorem LN(R:xb r){elt:Expr}{gens:List V2}{scope:N4}{pos:Pos}(ok:xT C X)(h:LO r C Γ elt gens scope=some c) :
    ∃t:TE,(∀σ H Q,tE X.K Γ c.o c.Γ c.js c.f σ H Q->t σ H Q)/\PE X (.ListComp elt gens scope pos) t/\∀{i x pos' zz},X.N[i]?=some x->Loc X.env.scope x->(X.fn x=true\/X.env.scope.names.lookup x=some .local)->T7 (.ListComp elt gens scope pos) (some (.Name x pos')) zz.line X.env=pure true->PS X (.Assign [.Name x pos'] (.ListComp elt gens scope pos) zz) (Jy t (DZ i)):=by
  unfold LO at h;split at h
  · rename_i tg iter ifs;obtain⟨s,e1,h⟩:=xI h;simp only at h;split at h
    · rename_i yj;obtain⟨t,e2,h⟩:=xI h;obtain⟨p,e3,h⟩:=xI h;split at h
      · rename_i hw;rw[A2,A2] at hw;obtain⟨hw,hq⟩:=hw;cases h;obtain⟨f1,f2,f3⟩:=Rv e3;unfold RB at f1;split at f1
        · rename_i hj;obtain⟨ct,f1a,f1⟩:=xI f1;obtain⟨ce,f1b,f1⟩:=xI f1;have ep:p.2=⟨t,ct,ce⟩:=(D0 f1).symm;have hs:∀x,O5 iter X.env x=pure x:=fun x=>by cases iter<;>first | rfl | (cases e1)
          have hI:r.I C Γ (Nw tg) iter=some s:=by cases iter<;>first | exact e1 | (cases e1)
          have hi:=R.I tg ok hI;have okI:=fun cl a s H fp=>ok.inner scope cl a s H fp
          have hg:∀cl a s H fp,PG (X.inner scope cl a s H fp) tg (t.g X.K):=fun cl a s H fp=>(Oa (okI cl a s H fp) e2).1
          have hsx:∀i∈t.J,i∈bJ C.N scope:=fun i hi=>C7.mp ((F0.mp hw.2) i hi)
          have hgo:y0 (bJ C.N scope) (t.g X.K):=(Oa (okI [] 0 X.xk X.H₀ []) e2).2.1 _ hsx;have ht:Oo X.K p.1 (t.Γ p.1) t.J (t.g X.K) t.f:=(Oa (okI [] 0 X.xk X.H₀ []) e2).2.2 hj;have he:∀cl a s H fp,PE (X.inner scope cl a s H fp) elt (tE X.K ct.Γ 0 ce.Γ ce.js ce.f):=fun cl a s H fp=>ES (R.E (okI cl a s H fp) f1b)
          have zCE:xt X.N X.env.scope scope (bJ C.N scope)=true:=by rw[ok.N,ok.sc];exact yj
          rw[ep] at f2 f3 hq ⊢;simp only at f2 f3 hq ⊢;cases ifs with
          | nil =>
            cases f1a;have hc:∀cl a s H fp,fY (X.inner scope cl a s H fp) [] (tT X.K (t.Γ p.1) (t.Γ p.1) [] Fi):=fun cl a s H fp=>iU
            refine⟨_,?_,Nb zCE ok.calm hi hg hgo hc he hs,fun{i x pos' zz} hix hx hf hsw=>NY ok.nd hix hx zCE ok.calm hi hg hgo hc he hsw hs hf⟩;intro σ H Q h;cases hJ:BX p.1 (t.J++([]++ce.js)) with
            | nil=>rw[hJ] at h;exact Wu ht hw.1 f3 f2 hsx hJ.symm h
            | cons j J=>rw[hJ] at h;exact UL ht hw.1 f3 f2 hsx hJ.symm h
          | cons i1 ifs =>
            cases ifs with
            | nil =>
              have hc:∀cl a s H fp,fY (X.inner scope cl a s H fp) [i1] (tT X.K (t.Γ p.1) ct.Γ ct.js ct.f):=fun cl a s H fp=>.one (R.T (okI cl a s H fp) f1a)
              refine⟨_,?_,Nb zCE ok.calm hi hg hgo hc he hs,fun{i x pos' zz} hix hx hf hsw=>NY ok.nd hix hx zCE ok.calm hi hg hgo hc he hsw hs hf⟩;intro σ H Q h;cases hJ:BX p.1 (t.J++(ct.js++ce.js)) with
              | nil=>rw[hJ] at h;exact Wv ht hw.1 f3 f2 hsx hJ.symm h
              | cons j J=>rw[hJ] at hq;cases hq
            | cons _ _=>cases f1a
        · cases f1
      · cases h
    · cases h
  · cases h
theorem Oc(R:xb r){elt:Expr}{gens:List V2}{scope:N4}(ok:xT C X)(h:LO r C Γ elt gens scope=some c):PE X (.ListComp elt gens scope pos) (tE X.K Γ c.o c.Γ c.js c.f):=by
 obtain⟨t,h1,h2,_⟩:=LN (pos:=pos) R ok h;exact PE.imp h2 h1
end R
namespace Q
open PySem L2
end Q
namespace HT
open PySem PyProof.Rows
section
variable {prog:F8} {w:J0} {A:J5} {E:Value->A9->Prop} {s:A9}
theorem Ny{α β:Type}{f g:α->Option β}:∀{l:List α},(∀a∈l,f a=g a)->l.filterMap f=l.filterMap g
 | [],_=>rfl
 | a::l,h=>by
  rw[P9,P9,h a B2,Ny fun b hb=>h b (A7 _ hb)]
theorem Ol(n:Nat):L9 none none (-1) (n:Int)=((n:Int) - 1,-1):=by
 unfold L9;rfl
theorem Na(n:Nat):G8 ((n:Int) - 1) (-1) (-1)=n:=by
 unfold G8;have h1:¬((-1:Int) > 0):=by omega
 simp only[h1,if_false];have h2:(-(-1:Int))=1:=by decide
 simp only[h2,wb];split<;>omega
theorem Sx(xs:Array Value):((B1 xs.size).filterMap fun(m:Nat)=>xs[((xs.size:Int) - 1+(m:Int) * (-1)).toNat]?).toArray=xs.toList.reverse.toArray:=by
 have e:(B1 xs.size).filterMap (fun(m:Nat)=>xs[((xs.size:Int) - 1+(m:Int) * (-1)).toNat]?)=((B1 xs.size).map fun k=>xs.size - 1 - k).filterMap (xs[·]?):=by
  rw[j9];refine Ny fun m hm=>?_
  have hm:=O2.mp hm;have:((xs.size:Int) - 1+(m:Int) * (-1)).toNat=xs.size - 1 - m:=by omega
  show _=xs[xs.size - 1 - m]?;rw[this]
 rw[e,W.krv_range,List.filterMap_reverse,W.krv_all]
theorem yh{t sl:B5}{items:Array Value}{k:Tok}{Q:Value->A9->Prop}(ht:IsTup s.heap t items)(hs:s.heap.IsSliceOf sl .none .none (.int (-1) k))
    (h:Q (.ref s.heap.objs.size) { s with heap:=s.heap.push { cls:=.type "tuple", data:=.seq items.toList.reverse.toArray } })
    (hsz:items.size<=sizeLine):C4 (D6 prog w) A (Y8 (.ref t) (.ref sl)) Q E s:=by
  have yq:sizeOk (.seq items.toList.reverse.toArray):=by
    show items.toList.reverse.toArray.size<=sizeLine;rw[A8,e8,U7];exact hsz
  obtain⟨os,hos,hcs,zx⟩:=id hs
  have hTs:s.TypeIs (.ref sl) "slice" := ⟨os,hos,hcs⟩
  unfold Y8
  try with_reducible refine L7 ?_
  first | refine A1 (A6 ?_) | skip
  refine A1 (o4 ht.typeIs (by decide) ?_)
  refine A1 (K7 (name:=U4 "__getitem__") ht.typeIs E7
    (K2 E7 ht.typeIs a9 ?_ (k4 _ _)))
  show C4 _ _ (Q6 (.ref t) >>= _) _ _ s;refine A1 (uZ ht ?_);refine A1 (W8 hTs ?_);rw[if_pos (by decide)];have ap:∀{A':J5} {Q:Int×Int×Nat->A9->Prop},Q ((items.size:Int) - 1,-1,items.size) s->C4 (D6 prog w) A' (Q9 (.ref sl) (pure (items.size:Int))) Q E s:=fun{A' Q} h=>by
    unfold Q9 l8;refine A1 (A1 (J6 hos zx (x:=.none) rfl (A1 (J6 hos zx (x:=.none) rfl (A1 (J6 hos zx (x:=.int (-1) k) rfl (A6 ?_)))))));refine A1 (FZ (.int (-1) k) ?_);show C4 _ _ (if((-1:Int) == 0)=true then _ else _) _ _ s;rw[if_neg (by decide)];refine A1 (j8 (A1 (j8 (A1 (A6 ?_)))));show C4 _ _ (match L9 none none (-1) (items.size:Int) with | (lo,hi)=>pure (lo,(-1:Int),G8 lo hi (-1))) _ _ s;rw[Ol];show C4 _ _ (pure (((items.size:Int) - 1),(-1:Int),G8 ((items.size:Int) - 1) (-1) (-1))) _ _ s;rw[Na];exact A6 h
  refine A1 (ap ?_);have hno:¬((((items.size:Int) - 1) == 0 && (-1:Int) == 1 && items.size == items.size)=true):=by
    intro q;rw[A2,A2] at q;exact absurd q.1.2 (by decide)
  show C4 _ _ (if(((items.size:Int) - 1) == 0 && (-1:Int) == 1 && items.size == items.size)=true then _ else _) _ _ s;rw[if_neg hno,Sx]
  first
    | exact A1 (m:=H9 _) (H8 (A6 ⟨_,rfl,A6 h⟩) yq)
    | exact A1 (m:=H9 _) (H8 (A1 (A6 (A6 ⟨_,rfl,A6 h⟩))) yq)
    | exact A1 (A1 (m:=H9 _) (H8 (A6 (A6 ⟨_,rfl,A6 h⟩)) yq))
    | exact A1 (A1 (m:=H9 _) (H8 (A6 ⟨_,rfl,A6 h⟩) yq))
end
end HT
namespace L2
open PySem PySem.Spec PyProof.Rows
section
variable {X:Cx} {e st:Expr} {te ts:TE} {pos p2:Pos}
abbrev mD(K:W.Frag)(te ts:TE):TE:=fun σ H Q=>te σ H fun x H1=>ts σ H1 fun y H2=>∃a xs b,x=.ref a/\y=.int (-1)/\Oy K H2 a xs b/\∀p,H2 p=none->Q (.ref p) (upd H2 p (bif b then .tup xs.reverse else .lst xs.reverse))
theorem bA(K:W.Frag)(he:PE X e te)(hst:PE X st ts)(hK:X.K=K:=by rfl)(zDM:∀o i,∃ops,o5 (.Slice none none (some st) p2) false o i=operate ops (Y8 o i):=by intro o i;exact⟨_,by with_unfolding_all rfl⟩):PE X (.Subscript e (.Slice none none (some st) p2) pos) (mD K te ts):=by
 subst hK;intro pins s σ H Q I h;refine wM (Ap (he pins s σ H _ I h) fun v s1 ⟨x,H1,I1,r1,q1⟩=>?_);refine wpAny_Slice ?_;rw[ua];refine A6 ?_;refine A6 ?_;rw[evalPart_some];refine Ap (hst pins s1 σ H1 _ I1 q1) fun vs s3 ⟨y,H3,I3,r3,q3⟩=>?_
 obtain⟨a,xs,b,rfl,rfl,hx,q⟩:=q3;cases r1;obtain⟨t,rfl⟩:=r3
 have I4:Inv X pins σ H3 { s3 with heap:=s3.heap.push { cls:=.type "slice", data:=.fields #[.none,.none,.int (-1) t] } }:=I3.kept (t':=s3.toks) fun b ob q=>A5 _ q
 show C4 (D6 X.prog X.w) X.A (Y9 e (.Slice none none (some st) p2) (.ref a) (.ref s3.heap.objs.size)) (EP X pins σ Q) X.xe { s3 with heap:=s3.heap.push { cls:=.type "slice", data:=.fields #[.none,.none,.int (-1) t] } }
 obtain⟨ops,zDP⟩:=zDM (.ref a) (.ref s3.heap.objs.size);cases b with
 | false =>
  obtain⟨xJ,r,ht,hz⟩:=I4.list hx;have hlen:=r.length;refine wN (ops:=ops) ht.isList.typeIs o6.lookup ?_ zDP;refine p7 ht.isList (k5 ..) .none .none (.int (-1) t) (by decide) ?_ (by rw[A8];omega);rw[W.krv_pick];rw[show xJ.toArray.toList.reverse=xJ.reverse by simp]
  have I5:=I4.laid (t':=s3.toks) (o:=.lst xs.reverse) (h':=(s3.heap.push { cls:=.type "slice", data:=.fields #[.none,.none,.int (-1) t] }).push { cls:=.type "list", data:=.seq xJ.reverse.toArray }) (fun b ob q=>A5 _ q) (B7 _) ⟨by rw[e8];exact hz,xJ.reverse,0,IS r,C8 _ rfl⟩
  exact⟨.ref _,_,I5,rfl,q _ (I4.xP.fresh (B7 _))⟩
 | true =>
  obtain⟨xJ,r,ht,hz⟩:=I4.tuple hx;have hlen:=r.length;refine wN (ops:=ops) ht.typeIs E7.lookup ?_ zDP;refine HT.yh ht (k5 ..) ?_ (by rw[A8];omega);rw[show xJ.toArray.toList.reverse=xJ.reverse by simp]
  have I5:=I4.laid (t':=s3.toks) (o:=.tup xs.reverse) (h':=(s3.heap.push { cls:=.type "slice", data:=.fields #[.none,.none,.int (-1) t] }).push { cls:=.type "tuple", data:=.seq xJ.reverse.toArray }) (fun b ob q=>A5 _ q) (B7 _) ⟨by rw[e8];exact hz,xJ.reverse,IS r,KG.new _ _⟩
  exact⟨.ref _,_,I5,rfl,q _ (I4.xP.fresh (B7 _))⟩
end
end L2
namespace Q
open PySem L2
end Q
namespace R
open PySem L2
noncomputable def jH(f:Expr)(es:List Expr):Option (List Expr):=match f,es with
 | .Name x _,[.Call (.Name y _) (a::es) [] _]=>if x == ("list" : Str) && y == ("range" : Str) then some (a::es) else none
 | _,_=>none
variable {f:Expr} {es:List Expr}
theorem Ta{as:List Expr}(h:jH f es=some as):∃p a es' p2 xw,f=.Name "list" p/\as=a::es'/\es=[.Call (.Name "range" p2) (a::es') [] xw]:=by
 unfold jH at h;split at h
 ·split at h
  ·rename_i e;rw[A2,beq_iff_eq,beq_iff_eq] at e;obtain⟨rfl,rfl⟩:=e;cases h;exact⟨_,_,_,_,_,rfl,rfl,rfl⟩
  ·cases h
 ·cases h
def qi(r:Rec)(C:Cf)(Γ:Gm)(as:List Expr):Option CE:=if QJ C.sc "list" && QJ C.sc "range" && C.bl.contains "list" && C.bl.contains "range" then(r.A C Γ (K1 as.length true) as).bind fun c=>some ⟨1,c.Γ,c.js,Fj C.T.lr (AR c.as)⟩ else none
noncomputable def gB(f:Expr)(es:List Expr):Option (List Expr):=match f,es with
 | .Name x _,[.Call (.Name y _) (a::es) [] _]=>if x == ("tuple" : Str) && y == ("range" : Str) then some (a::es) else none
 | _,_=>none
theorem Sb{as:List Expr}(h:gB f es=some as):∃p a es' p2 xw,f=.Name "tuple" p/\as=a::es'/\es=[.Call (.Name "range" p2) (a::es') [] xw]:=by
 unfold gB at h;split at h
 ·split at h
  ·rename_i e;rw[A2,beq_iff_eq,beq_iff_eq] at e;obtain⟨rfl,rfl⟩:=e;cases h;exact⟨_,_,_,_,_,rfl,rfl,rfl⟩
  ·cases h
 ·cases h
def rX(r:Rec)(C:Cf)(Γ:Gm)(as:List Expr):Option CE:=none
noncomputable def jG(f:Expr)(es:List Expr):Option Expr:=match f,es with
 | .Name x _,[.Call (.Name y _) [a] [] _]=>if x == ("list" : Str) && y == ("reversed" : Str) then some a else none
 | _,_=>none
variable {a:Expr}
theorem TZ(h:jG f es=some a):∃p p2 xw,f=.Name "list" p/\es=[.Call (.Name "reversed" p2) [a] [] xw]:=by
 unfold jG at h;split at h
 ·split at h
  ·rename_i e;rw[A2,beq_iff_eq,beq_iff_eq] at e;obtain⟨rfl,rfl⟩:=e;cases h;exact⟨_,_,_,rfl,rfl⟩
  ·cases h
 ·cases h
def rh(r:Rec)(C:Cf)(Γ:Gm)(a:Expr):Option CE:=none
variable {r:Rec} {C:Cf} {X:Cx} {Γ:Gm} {p p2 xw pos:Pos}
theorem kr(R:xb r){c:CE}(ok:xT C X)(h:rh r C Γ a=some c):PE X (.Call (.Name "list" p) [.Call (.Name "reversed" p2) [a] [] xw] [] pos) (tE X.K Γ c.o c.Γ c.js c.f):=by cases h
theorem ku(R:xb r){es':List Expr}{c:CE}(ok:xT C X)(h:qi r C Γ (a::es')=some c):PE X (.Call (.Name "list" p) [.Call (.Name "range" p2) (a::es') [] xw] [] pos) (tE X.K Γ c.o c.Γ c.js c.f):=by
 unfold qi at h;split at h
 ·rename_i hg;simp only[A2] at hg;obtain⟨⟨⟨g1,g2⟩,g3⟩,g4⟩:=hg;obtain⟨c1,e1,h⟩:=xI h;cases h;obtain⟨a1,a2,a3,a4,_⟩:=R.A ok e1;rw[I9,A2] at a4;exact PE.imp (Pg ok.calm (DC ok g1) (ok.bl _ (C7.mp g3)) (DC ok g2) (ok.bl _ (C7.mp g4)) a1 rfl rfl (AQ a4.1) (BE a4.2)) fun _ _ _ h=>Cm (C.T.zDH X ok.gx) a2 h
 ·cases h
theorem kb(R:xb r){es':List Expr}{c:CE}(ok:xT C X)(h:rX r C Γ (a::es')=some c):PE X (.Call (.Name "tuple" p) [.Call (.Name "range" p2) (a::es') [] xw] [] pos) (tE X.K Γ c.o c.Γ c.js c.f):=by cases h
def Qi(r:Rec)(C:Cf)(Γ:Gm)(f:Expr)(es:List Expr)(pos:Pos):Option CE:=match jH f es with
 | some as=>qi r C Γ as
 | none=>match jG f es with
  | some a=>rh r C Γ a
  | none=>match gB f es with
   | some as=>rX r C Γ as
   | none=>SL r C Γ f es pos
theorem Uc(R:xb r){c:CE}(ok:xT C X)(h:Qi r C Γ f es pos=some c):PE X (.Call f es [] pos) (tE X.K Γ c.o c.Γ c.js c.f):=by
 unfold Qi at h;split at h
 ·rename_i as e;obtain⟨p,a,es',p2,xw,rfl,rfl,rfl⟩:=Ta e;exact ku R ok h
 ·split at h
  ·rename_i a e;obtain⟨p,p2,xw,rfl,rfl⟩:=TZ e;exact kr R ok h
  ·split at h
   ·rename_i as e;obtain⟨p,a,es',p2,xw,rfl,rfl,rfl⟩:=Sb e;exact kb R ok h
   ·exact ZC R ok h
noncomputable def oG:Expr->Bool
 | .UnaryOp .USub (.Constant (.int 1) _ _) _=>true
 | _=>false
def ki(r:Rec)(C:Cf)(Γ:Gm)(a st:Expr):Option CE:=if oG st then(LW r C Γ a st).bind fun p=>some ⟨1,p.2.Γ,jj p,Fj (two C.T.rv) (AR [p.1.a,p.2.a])⟩ else none
theorem cP(R:xb r){st:Expr}{c:CE}(ok:xT C X)(h:ki r C Γ a st=some c):PE X (.Subscript a (.Slice none none (some st) p2) pos) (tE X.K Γ c.o c.Γ c.js c.f):=by
 unfold ki at h;split at h
 ·rename_i hm;obtain⟨p,e1,h⟩:=xI h;cases h;obtain⟨h1,h2,h3⟩:=GX R ok e1;unfold oG at hm;split at hm
  ·exact PE.imp (bA X.K h1 h2 rfl (by intro o i;exact⟨_,by with_unfolding_all rfl⟩)) fun _ _ _ h=>Cm (C.T.zDA X ok.gx) h3 h
  ·cases hm
 ·cases h
noncomputable def ba(f:Expr)(es:List Expr)(ks:List Z0):Option (Expr×Expr):=match f,es,ks with
 | .Name x _,[a],[⟨some y,e,_⟩]=>if x == ("max" : Str) && y == ("default" : Str) then some (a,e) else none
 | _,_,_=>none
theorem TX{ks:List Z0}{q:Expr×Expr}(h:ba f es ks=some q):∃p kp,f=.Name "max" p/\es=[q.1]/\ks=[⟨some "default", q.2,kp⟩]:=by
 unfold ba at h;split at h
 ·split at h
  ·rename_i e;rw[A2,beq_iff_eq,beq_iff_eq] at e;obtain⟨rfl,rfl⟩:=e;cases h;exact⟨_,_,rfl,rfl,rfl⟩
  ·cases h
 ·cases h
def rZ(r:Rec)(C:Cf)(Γ:Gm)(a e:Expr):Option CE:=none
variable {e:Expr}
theorem kq(R:xb r){kp:Pos}{c:CE}(ok:xT C X)(h:rZ r C Γ a e=some c):PE X (.Call (.Name "max" p) [a] [⟨some "default", e,kp⟩] pos) (tE X.K Γ c.o c.Γ c.js c.f):=by cases h
def Mf(r:Rec)(C:Cf)(Γ:Gm)(f:Expr)(es:List Expr)(ks:List Z0)(pos:Pos):Option CE:=match ks with
 | []=>Qi r C Γ f es pos
 | k::ks=>match ba f es (k::ks) with
  | some q=>rZ r C Γ q.1 q.2
  | none=>none
theorem Ud(R:xb r){ks:List Z0}{c:CE}(ok:xT C X)(h:Mf r C Γ f es ks pos=some c):PE X (.Call f es ks pos) (tE X.K Γ c.o c.Γ c.js c.f):=by
 cases ks with
 | nil=>exact Uc R ok h
 | cons k ks =>
  cases q:ba f es (k::ks) with
  | none=>unfold Mf at h;simp only[q] at h;cases h
  | some z =>
   unfold Mf at h;simp only[q] at h;obtain⟨p,kp,e1,e2,e3⟩:=TX q;rw[e1,e2,e3];exact kq R ok h
def fU(C:Cf)(Γ:Gm)(o:Expr)(f:Str):Option CE:=none
theorem Yx{o:Expr}{f:Str}{c:CE}(ok:xT C X)(h:fU C Γ o f=some c):PE X (.Attribute o f pos) (tE X.K Γ c.o c.Γ c.js c.f):=by cases h
def da(r:Rec)(C:Cf)(Γ:Gm)(e:Expr):Option CE:=match e with
 | .Constant k _ _=>ZA Γ k
 | .Name x _=>Yr C Γ x
 | .BinOp a op b _=>pG r C Γ a op b
 | .UnaryOp .USub a _=>oz r C Γ a
 | .UnaryOp .Not a _=>oy r C Γ a
 | .Compare a [op] [b] _=>(Qg r C Γ a op b).map lZ
 | .Compare a [op,yD] [b,c] _=>(Qh r C Γ a op b yD c).map lZ
 | .BoolOp op vs pos=>VT r C Γ op vs pos
 | .IfExp c a b _=>pC r C Γ c a b
 | .Call f es ks pos=>Mf r C Γ f es ks pos
 | .Tuple es _ _=>ow r C Γ es
 | .List es _=>pB r C Γ es
 | .Dict [] [] _=>some ⟨1,Γ,[],Xi⟩
 | .Subscript a (.Slice lo hi none _) _=>rY r C Γ a lo hi
 | .Subscript a (.Slice none none (some st) _) _=>ki r C Γ a st
 | .Subscript a b _=>if FR b then qj r C Γ a b else none
 | .ListComp e gens sc _=>LO r C Γ e gens sc
 | .Attribute o f _=>fU C Γ o f
 | _=>none
theorem VR(R:xb r){c:CE}(ok:xT C X)(h:da r C Γ e=some c):PE X e (tE X.K Γ c.o c.Γ c.js c.f):=by
 match e,h with
 | .Constant k j pos,h=>exact Ua h
 | .Name x pos,h=>exact Yq ok h
 | .BinOp a op b pos,h=>exact cg R ok h
 | .UnaryOp op a pos,h =>
  cases op with
  | USub=>exact cU R ok h
  | Not =>
   obtain⟨c1,e1,h⟩:=xI (show(r.E C Γ a).bind _=some c from h);cases h;exact PE.imp (iO (ES (R.E ok e1))) fun _ _ _ h=>gF h
  | _=>cases h
 | .Compare a ops bs pos,h =>
  match ops,bs,h with
  | [op],[b],h =>
   cases q:Qg r C Γ a op b with
   | none=>replace h:(Qg r C Γ a op b).map lZ=some c:=h;rw[q] at h;cases h
   | some t =>
    replace h:(Qg r C Γ a op b).map lZ=some c:=h;rw[q] at h;cases h;exact(SJ R ok q).2 1
  | [op,yD],[b,d],h =>
   cases q:Qh r C Γ a op b yD d with
   | none=>replace h:(Qh r C Γ a op b yD d).map lZ=some c:=h;rw[q] at h;cases h
   | some t =>
    replace h:(Qh r C Γ a op b yD d).map lZ=some c:=h;rw[q] at h;cases h;exact(SK R ok q).2 1
  | [],_,h=>cases h
  | [_],[],h=>cases h
  | [_],_::_::_,h=>cases h
  | [_,_],[],h=>cases h
  | [_,_],[_],h=>cases h
  | [_,_],_::_::_::_,h=>cases h
  | _::_::_::_,_,h=>cases h
 | .BoolOp op vs pos,h=>exact Sj R ok h
 | .IfExp c a b pos,h=>exact cX R ok h
 | .Call f es ks pos,h=>exact Ud R ok h
 | .Tuple es k pos,h=>exact cK R ok h
 | .List es pos,h=>exact cW R ok h
 | .Dict ks vs pos,h =>
  cases ks with
  | nil =>
   cases vs with
   | nil=>cases h;exact me
   | cons _ _=>cases h
  | cons _ _=>cases h
 | .Subscript a b pos,h =>
  have ix:FR b=true->(if FR b then qj r C Γ a b else none)=some c->PE X (.Subscript a b pos) (tE X.K Γ c.o c.Γ c.js c.f):=fun hb h=>by
   rw[if_pos hb] at h;exact kz R ok hb h
  match b,h with
  | .Slice lo hi st p2,h =>
   cases st with
   | none=>exact kg R ok h
   | some st =>
    cases lo with
    | none =>
     cases hi with
     | none=>exact cP R ok h
     | some _=>cases h
    | some _=>cases h
  | .NamedExpr ..,h | .BinOp ..,h | .Lambda ..,h | .Dict ..,h | .Set ..,h | .ListComp ..,h | .SetComp ..,h | .DictComp ..,h | .GeneratorExp ..,h | .Await ..,h | .Yield ..,h | .YieldFrom ..,h | .Call ..,h | .FormattedValue ..,h | .JoinedStr ..,h | .Constant ..,h | .Attribute ..,h | .Subscript ..,h | .Starred ..,h | .Name ..,h | .List ..,h | .Tuple ..,h | .UnaryOp ..,h | .BoolOp ..,h | .IfExp ..,h | .Compare ..,h=>exact ix rfl h
 | .ListComp e gens sc pos,h=>exact Oc R ok h
 | .Attribute o f pos,h=>exact Yx ok h
 | .NamedExpr ..,h | .Lambda ..,h | .Set ..,h | .SetComp ..,h | .DictComp ..,h | .GeneratorExp ..,h | .Await ..,h | .Yield ..,h | .YieldFrom ..,h | .FormattedValue ..,h | .JoinedStr ..,h | .Starred ..,h | .Slice ..,h=>cases h
noncomputable def Nh:Expr->Bool
 | .ListComp ..=>false
 | .SetComp ..=>false
 | .DictComp ..=>false
 | _=>true
variable {env:Env}
theorem Ft{t:Option Expr}{l:Nat}(h:Nh e=true):T7 e t l env=pure false:=by
 cases e<;>first | rfl | (cases h)
theorem Uu{K:W.Frag}{Γ' xa:Gm}{js:List Nat}{o:Nat}{f:Ev Dv}{σ:St}{H:Hp}{Q:VK}(hw:Bv xa Γ'=true)(h:tE K Γ o xa js f σ H Q):tE K Γ o Γ' js f σ H Q:=by
 obtain⟨g,m,P,r,R,k,res,e,q⟩:=h;refine⟨g,m,P,r,R,k,res,e,fun b m' g' P' Pv v H' hk ag s rv r1 n=>?_⟩;obtain⟨g2,P2,s2,r2⟩:=r1.weaken hw;have nn:Bi Pv P':=fun a q z=>n a z q
 refine q b m' g2 P2 Pv v H' hk ag (s.trans ((s2.frame (R:=Pv)).sub (fun _ z=>z) fun _ z=>z)) (rv.held s2 r1.xO nn) r2 fun a q z=>s2.out rv.xO nn a z q
def Vc(Γ:Gm):CS:=⟨some Γ,[],Jf,false,false,false⟩
def ox(r:Rec)(C:Cf)(Γ:Gm)(e:Expr):Option CS:=(match Ow C e with
 | some i=>(match Γ.getD i none with | some o=>some (CE.mk o (Γ.set i none) [] (Rx i)) | none=>none)
 | none=>r.E C Γ e).bind fun c=>if Bv C.F.Γr c.Γ && (C.F.ro == 0 || c.o == C.F.ro) then some ⟨none,c.js,fE c.f,true,false,false⟩ else none
variable {xN:Option Gm} {c:CS}
theorem cQ(R:xb r)(ok:xT C X)(h:ox r C Γ e=some c):PS X (.Return (some e) pos) (tS X.K C.F xN Γ c.Γ c.js c.f):=by
  obtain⟨c1,e1,h⟩:=xI h;split at h
  · rename_i hw;simp only[A2,vz,beq_iff_eq] at hw;cases h;have he:PE X e (tE X.K Γ c1.o c1.Γ c1.js c1.f):=by
      split at e1
      · rename_i i hi;split at e1
        · rename_i o ho;cases e1;exact mZ (Bd ok hi) (Aw ho)
        · cases e1
      · exact R.E ok e1
    have he2:PE X e (tE X.K Γ C.F.ro c1.Γ c1.js c1.f):=by
      rcases hw.2 with z | z
      · rw[z];exact ES he
      · rw[<- z];exact he
    exact mQ (PE.imp he2 fun _ _ _ h=>Uu hw.1 h)
  · cases h
def lB(r:Rec)(C:Cf)(Γ:Gm)(e:Expr):Option CS:=if Nh e then(r.E C Γ e).bind fun c=>some ⟨some c.Γ,c.js,Xq c.f,false,false,false⟩ else none
theorem SI(R:xb r)(ok:xT C X)(h:lB r C Γ e=some c):PS X (.Expr e pos) (tS X.K C.F xN Γ c.Γ c.js c.f):=by
 unfold lB at h;split at h
 ·rename_i hn;obtain⟨c1,e1,h⟩:=xI h;cases h;exact gZ (R.E ok e1) (Ft hn)
 ·cases h
def SH(C:Cf)(x:Str)(c:CE):Option CS:=(Mq C x).bind fun i=>if decide (i < c.Γ.length) && !C.F.io.contains i then some ⟨some (c.Γ.set i (some c.o)),c.js++[i],LF c.f (mB i),false,false,false⟩ else none
variable {pos':Pos}
theorem OZ{x:Str}{c1:CE}(ok:xT C X)(he:PE X e (tE X.K Γ c1.o c1.Γ c1.js c1.f))(hs:T7 e (some (.Name x pos')) pos.line X.env=pure false)(h:SH C x c1=some c):PS X (.Assign [.Name x pos'] e pos) (tS X.K C.F xN Γ c.Γ c.js c.f):=by
 obtain⟨i,e1,h⟩:=xI h;split at h
 ·rename_i hw;simp only[A2,decide_eq_true_eq,N7] at hw;cases h;obtain⟨h1,h2,h3⟩:=Mp ok e1;exact mP ok.nd h1 h2 (fun z=>by rw[C7.mpr z] at hw;cases hw.2) hw.1 he hs h3
 ·cases h
def qK(sc:N4)(x:Str)(pl:Nat)(scope:N4)(vl:Nat):Bool:=(if sc.kind.isAnnotationScope then ScopeKind.function else sc.kind) == .function && sc.names.lookup x == some .local && pl == vl && !(scope.names.any fun(n,k)=>n == x && (k == .local || k == .cell))
variable {gens:List V2} {scope:N4}
theorem VL(ok:xT C X){x:Str}{elt:Expr}{l:Nat}:T7 (.ListComp elt gens scope pos) (some (.Name x pos')) l X.env=pure (qK C.sc x pos'.line scope pos.line):=by
 unfold qK;rw[<- ok.sc];rfl
theorem Ub(R:xb r){elt:Expr}{pos:Pos}{c:CE}(ok:xT C X)(h:LO r C Γ elt gens scope=some c) :
    ∃t:TE,(∀σ H Q,tE X.K Γ c.o c.Γ c.js c.f σ H Q->t σ H Q)/\∀{i x pos' zz},X.N[i]?=some x->Loc X.env.scope x->(X.fn x=true\/X.env.scope.names.lookup x=some .local)->T7 (.ListComp elt gens scope pos) (some (.Name x pos')) zz.line X.env=pure true->PS X (.Assign [.Name x pos'] (.ListComp elt gens scope pos) zz) (Jy t (DZ i)):=by
  obtain⟨t,h1,_,h3⟩:=LN (pos:=pos) R ok h;exact⟨t,h1,h3⟩
def fV(r:Rec)(C:Cf)(Γ:Gm)(x:Str)(elt:Expr)(gens:List V2)(scope:N4):Option CS:=(LO r C Γ elt gens scope).bind fun c=>SH C x c
theorem ZG(R:xb r){x:Str}{elt:Expr}{xx:Pos}(ok:xT C X)(h:fV r C Γ x elt gens scope=some c):PS X (.Assign [.Name x pos'] (.ListComp elt gens scope xx) pos) (tS X.K C.F xN Γ c.Γ c.js c.f):=by
 obtain⟨c1,e1,h⟩:=xI h;cases hb:qK C.sc x pos'.line scope xx.line with
 | false=>exact OZ ok (Oc R ok e1) (by rw[VL ok,hb]) h
 | true =>
  obtain⟨i,e2,h⟩:=xI h;split at h
  ·rename_i hw;simp only[A2,decide_eq_true_eq,N7] at hw;cases h;obtain⟨h1,h2,h3⟩:=Mp ok e2;obtain⟨t,q1,q2⟩:=Ub R (pos:=xx) ok e1;refine PS.imp (q2 h1 h2 h3 (by rw[VL ok,hb])) fun D σ H h=>q1 _ _ _ (RK hw.1 (fun z=>by rw[C7.mpr z] at hw;cases hw.2) h)
  ·cases h
noncomputable def nv:Expr->Bool
 | .Tuple ..=>false
 | _=>true
theorem Sh{tg:Expr}(h:nv e=true):S0 [tg] e env=pure none:=by
 cases tg with
 | Tuple=>cases e<;>first | rfl | cases h
 | List=>cases e<;>first | rfl | cases h
 | _=>rfl
theorem RJ{tg:Expr}{l:Nat}(h:Nh e=true):Y7 [tg] e l env=pure false:=Ft h
def ZF(r:Rec)(C:Cf)(Γ:Gm)(es:List Expr)(k:Nat)(p:Pos)(e:Expr):Option CS:=if nv e && Nh e then(r.E C Γ e).bind fun c=>(cG C (.Tuple es k p)).bind fun t=>if t.J.all (fun i=>decide (i < c.Γ.length) && !C.F.io.contains i) then some ⟨some (t.Γ c.Γ),c.js++t.J,LF c.f t.f,false,false,false⟩ else none else none
theorem ZE(R:xb r){k:Nat}(ok:xT C X)(h:ZF r C Γ es k p e=some c):PS X (.Assign [.Tuple es k p] e pos) (tS X.K C.F xN Γ c.Γ c.js c.f):=by
 unfold ZF at h;split at h
 ·rename_i hn;rw[A2] at hn;obtain⟨c1,e1,h⟩:=xI h;obtain⟨t,e2,h⟩:=xI h;split at h
  ·rename_i hw;cases h;obtain⟨g1,_,g3⟩:=Oa ok e2;rw[F0] at hw;refine mV (ES (R.E ok e1)) g1 (g3 (by rw[F0];exact fun i hi=>(O4.mp (hw i hi)).1)) (fun i hi z=>?_) (RJ hn.2) (Sh hn.1) rfl;have:=(O4.mp (hw i z)).2;rw[C7.mpr hi] at this;cases this
  ·cases h
 ·cases h
def oX(i j:Nat)(fa:Ev (List Dv)):Es:=fun R m k=>fa R m fun ds m1=>match ds with | [a,b]=>k.nx ((m1.set i a).set j b) | _=>none
def iW(sc:N4)(x y:Str)(px py:Pos)(a b:Expr):Bool:=(match sc.kind with | .function=>true | _=>false) && (match sc.names.lookup x with | some .local=>true | _=>false) && (match sc.names.lookup y with | some .local=>true | _=>false) && !(x == y) && (py.line == px.line) && BV a && BV b && !(foldedForSure 8 a && foldedForSure 8 b) && !(constantsAlone 8 a && constantsAlone 8 b)
variable {pt:Pos} {kt:Nat}
theorem iV{x y:Str}{px py pt2:Pos}{k2:Nat}{b:Expr}(h:iW env.scope x y px py a b=true):S0 [.Tuple [.Name x px,.Name y py] kt pt] (.Tuple [a,b] k2 pt2) env=pure (some [x,y])/\env.scope.names.lookup x=some .local/\env.scope.names.lookup y=some .local:=by
 unfold iW at h;simp only[A2,N7] at h;obtain⟨⟨⟨⟨⟨⟨⟨⟨h1,h2⟩,h3⟩,h4⟩,h5⟩,h6⟩,h7⟩,h8⟩,h9⟩:=h;have k1:env.scope.kind=.function:=by split at h1;(assumption);(cases h1)
 have k2:env.scope.names.lookup x=some .local:=by split at h2;(assumption);(cases h2)
 have k3:env.scope.names.lookup y=some .local:=by split at h3;(assumption);(cases h3)
 refine⟨?_,k2,k3⟩;have kx:env.kindOf x=some .local:=k2;have ky:env.kindOf y=some .local:=k3;have yx:(y == x)=false:=by
  cases q:y == x with
  | false=>rfl
  | true=>rw[beq_iff_eq.mp q,beq_self_eq_true] at h4;cases h4
 unfold S0;simp[Env.blockKind,k1,ScopeKind.isAnnotationScope,kx,ky,beq_iff_eq.mp h5,h8,h9,List.eraseDups_cons,yx,h4,Expr.pos];rintro(z | z)
 ·cases a<;>first | (cases z;done) | (cases h6;done)
 ·cases b<;>first | (cases z;done) | (cases h7;done)
def kj(r:Rec)(C:Cf)(Γ:Gm)(x y:Str)(px py:Pos)(a b:Expr):Option CS:=if iW C.sc x y px py a b then(r.A C Γ [] [a,b]).bind fun c=>(Dh C.N x).bind fun i=>(Dh C.N y).bind fun j=>if decide (i < c.Γ.length) && decide (j < c.Γ.length) && !(i == j) && !C.F.io.contains i && !C.F.io.contains j then some ⟨some ((c.Γ.set i (some 0)).set j (some 0)),c.js++([i]++[j]),oX i j (AR c.as),false,false,false⟩ else none else none
theorem cR(R:xb r){x y:Str}{px py pt2:Pos}{k2:Nat}{b:Expr}(ok:xT C X)(h:kj r C Γ x y px py a b=some c):PS X (.Assign [.Tuple [.Name x px,.Name y py] kt pt] (.Tuple [a,b] k2 pt2) pos) (tS X.K C.F xN Γ c.Γ c.js c.f):=by
 unfold kj at h;split at h
 ·rename_i hp;obtain⟨c1,e1,h⟩:=xI h;obtain⟨i,e2,h⟩:=xI h;obtain⟨j,e3,h⟩:=xI h;split at h
  ·rename_i hw;simp only[A2,decide_eq_true_eq,N7,beq_eq_false_iff_ne] at hw;obtain⟨⟨⟨⟨w1,w2⟩,w3⟩,w4⟩,w5⟩:=hw;cases h;obtain⟨a1,a2,a3,a4,a5⟩:=R.A ok e1;rw[<- ok.sc] at hp;obtain⟨p1,p2,p3⟩:=iV (pt:=pt) (pt2:=pt2) (kt:=kt) (k2:=k2) hp;refine PS.imp (hX ok.calm ok.nd (by rw[ok.N];exact Bm e2) (by rw[ok.N];exact Bm e3) w3 p2 p3 a1 p1 rfl) fun D σ H h=>?_
   obtain⟨g,m,P,r',R',k,res,e,q⟩:=h;refine AM c1.as r' a2 e fun ds m1 g1 P1 vs H1 hk ag s ar r1=>?_
   have rp:=ar.zAQ (a5 rfl)
   match ds,hk,rp with
   | [d1,d2],hk,rp =>
    obtain⟨v1,us,rfl,h1,rp⟩:=Az rp;obtain⟨v2,us2,rfl,h2,rp⟩:=Az rp;cases Ay rp;obtain⟨P2,r2,s2⟩:=r1.zD w1 h1 fun _ z=>z.elim
    obtain⟨P3,r3,s3⟩:=r2.zD (by rw[D1];exact w2) h2 fun _ z=>z.elim
    refine⟨v1,v2,rfl,q.nx _ _ g1 P3 _ H1 rfl hk (ag.trans (Ba.set.trans Ba.set)) (s.less fun a z=>(s3 a z).elim (fun z=>(s2 a z).elim id E5) E5) ((Io.set ?_).trans (Io.set ?_)) r3⟩
    ·exact fun z=>by rw[C7.mpr z] at w4;cases w4
    ·exact fun z=>by rw[C7.mpr z] at w5;cases w5
   | [],hk,_=>cases hk
   | [_],hk,_=>cases hk
   | _::_::_::_,hk,_=>cases hk
  ·cases h
 ·cases h
def Ye(r:Rec)(C:Cf)(Γ:Gm)(x k e:Expr):Option CS:=if FR k then(Ow C x).bind fun i=>(r.E C Γ e).bind fun c=>(Oj r C c.Γ k).bind fun a=>if(c.Γ.getD i none).isSome && a.Γ.getD i none == some 1 then some ⟨some a.Γ,c.js++((a.js++[])++[i]),fC i C.T.st c.f (AR [a.a]),false,false,false⟩ else none else none
variable {x k:Expr} {zL:Pos}
theorem Em(hk:FR k=true):∀v,W6 (.Subscript x k zL) X.env v=(do
      let ov <- g8 [v] (N1 x X.env)
      let iv <- g8 [v,ov] (N1 k X.env)
      u9 zL
      g8 [v,ov,iv] (wC ov iv v)
      release [v,ov,iv] []):=fun v=>by
  cases k<;>first | rfl | (cases hk)
theorem NH{l:Nat}:Y7 [.Subscript x k p] e l env=pure false:=by cases e<;>rfl
theorem Yd(R:xb r)(ok:xT C X)(h:Ye r C Γ x k e=some c):PS X (.Assign [.Subscript x k zL] e pos) (tS X.K C.F xN Γ c.Γ c.js c.f):=by
 unfold Ye at h;split at h
 ·rename_i hn;obtain⟨i,e0,h⟩:=xI h;obtain⟨c1,e1,h⟩:=xI h;obtain⟨a,e2,h⟩:=xI h;split at h
  ·rename_i hw;rw[A2] at hw;cases h;obtain⟨a1,a2⟩:=FK R ok e2;obtain⟨T,t1,t2⟩:=C.T.zCB X ok.gx;refine PS.imp (Lv (ES (R.E ok e1)) (Ly (Bd ok e0) a1 t1 (Em hn)) NH ?_ rfl) fun D σ H h=>Vd t2 a2 (getD_some hw.1) (Aw (beq_iff_eq.mp hw.2)) h
   cases e<;>rfl
  ·cases h
 ·cases h
def Yg(r:Rec)(C:Cf)(Γ:Gm)(q:Nat×Str)(k e:Expr):Option CS:=if FR k then(r.E C Γ e).bind fun c=>(Oj r C c.Γ k).bind fun a=>if(c.Γ.getD q.1 none).isSome && a.Γ.getD q.1 none == some 1 then some ⟨some a.Γ,c.js++((a.js++[])++[q.1]),Xf q.1 q.2 C.T.st c.f (AR [a.a]),false,false,false⟩ else none else none
theorem Yf(R:xb r){q:Nat×Str}(ok:xT C X)(hq:eZ C x=some q)(h:Yg r C Γ q k e=some c):PS X (.Assign [.Subscript x k zL] e pos) (tS X.K C.F xN Γ c.Γ c.js c.f):=by
 unfold Yg at h;split at h
 ·rename_i hn;obtain⟨c1,e1,h⟩:=xI h;obtain⟨a,e2,h⟩:=xI h;split at h
  ·rename_i hw;rw[A2] at hw;cases h;obtain⟨a1,a2⟩:=FK R ok e2;obtain⟨T,t1,t2⟩:=C.T.zCB X ok.gx;refine PS.imp (Lv (ES (R.E ok e1)) (Ly (Je ok hq) a1 t1 (Em hn)) NH ?_ rfl) fun D σ H h=>Vi t2 a2 (getD_some hw.1) (Aw (beq_iff_eq.mp hw.2)) h
   cases e<;>rfl
  ·cases h
 ·cases h
def Yi(r:Rec)(C:Cf)(Γ:Gm)(x k e:Expr):Option CS:=match eZ C x with
 | some q=>Yg r C Γ q k e
 | none=>Ye r C Γ x k e
theorem Yh(R:xb r)(ok:xT C X)(h:Yi r C Γ x k e=some c):PS X (.Assign [.Subscript x k zL] e pos) (tS X.K C.F xN Γ c.Γ c.js c.f):=by
 unfold Yi at h;split at h
 ·rename_i q hq;exact Yf R ok hq h
 ·exact Yd R ok h
def Yz(r:Rec)(C:Cf)(Γ:Gm)(o:Expr)(f:Str)(e:Expr):Option CS:=if Nh e then(Ow C o).bind fun i=>(r.E C Γ e).bind fun c=>if decide (c.o<=1) && c.Γ.getD i none == some 1 then some ⟨some c.Γ,c.js++[i],Xp i f c.o c.f,false,false,false⟩ else none else none
theorem Yy(R:xb r){o:Expr}{f:Str}(ok:xT C X)(h:Yz r C Γ o f e=some c):PS X (.Assign [.Attribute o f zL] e pos) (tS X.K C.F xN Γ c.Γ c.js c.f):=by
 unfold Yz at h;split at h
 ·rename_i hn;obtain⟨i,hi,h⟩:=xI h;obtain⟨c1,e1,h⟩:=xI h;split at h
  ·rename_i hw;simp only[A2,decide_eq_true_eq] at hw;cases h;exact PS.imp (hZ (Bd ok hi) (R.E ok e1) (Ft hn)) fun D σ H h=>Xb hw.1 (Aw (beq_iff_eq.mp hw.2)) h
  ·cases h
 ·cases h
def eU:Option Gm->Option Gm->Option Gm
 | some a,some b=>some (Bj a b)
 | none,b=>b
 | a,none=>a
def rk(r:Rec)(C:Cf)(xN:Option Gm)(Γ:Gm)(c:Expr)(a b:List M4):Option CS:=(r.T C Γ c).bind fun t=>(r.Ss C xN t.Γ a).bind fun x=>(r.Ss C xN t.Γ b).bind fun y=>let Γn:=eU x.Γ y.Γ;let js:=t.js++(x.js++y.js);if Mv Γn x.Γ && Mv Γn y.Γ then some ⟨Γn,js,match x.Γ,y.Γ,Γn with
      | some _,some _,some Γ'=>if x.er || x.eb || x.ec || y.er || y.eb || y.ec then OC t.f x.f y.f else oY (BX Γ' js) (OC t.f x.f y.f)
      | _,_,_=>OC t.f x.f y.f,x.er || y.er,x.eb || y.eb,x.ec || y.ec⟩ else none
theorem lA(R:xb r){t:Expr}{a b:List M4}(ok:xT C X)(h:rk r C xN Γ t a b=some c):PS X (.If t a b pos) (tS X.K C.F xN Γ c.Γ c.js c.f):=by
 obtain⟨ct,e1,h⟩:=xI h;obtain⟨x,e2,h⟩:=xI h;obtain⟨y,e3,h⟩:=xI h;simp only at h;split at h
 ·rename_i hw;rw[A2] at hw;have base:PS X (.If t a b pos) (tS X.K C.F xN Γ (eU x.Γ y.Γ) (ct.js++(x.js++y.js)) (OC ct.f x.f y.f)):=qP (R.T ok e1) (Vk (R.Ss ok e2) hw.1) (Vk (R.Ss ok e3) hw.2);cases h;split
  ·rename_i Γ' _ _ hj;split
   ·exact base
   ·simp only[hj] at base ⊢;exact PS.imp base fun D σ H h=>jU (fun i o z=>BW z) (fun i z=>BF z) h
  ·exact base
 ·cases h
def pH(r:Rec)(C:Cf)(Γ:Gm)(x:Str)(op:uB)(e:Expr):Option CS:=none
theorem cj(R:xb r){x:Str}{op:uB}(ok:xT C X)(h:pH r C Γ x op e=some c):PS X (.AugAssign (.Name x pos') op e pos) (tS X.K C.F xN Γ c.Γ c.js c.f):=by cases h
def Xc(r:Rec)(C:Cf)(pre:Gm->Gm)(body:List M4):Nat->Gm->Option (Gm×CS)
 | 0,_=>none
 | n+1,Γ=>match r.Ss C (some Γ) (pre Γ) body with
  | some x=>if Mv (some Γ) x.Γ then some (Γ,x) else Xc r C pre body n (match x.Γ with | some Γ'=>Bj Γ Γ' | none=>Γ)
  | none=>Xc r C pre body n (Γ.map fun o=>o.map fun _=>0)
theorem MK{r:Rec}{C:Cf}{pre:Gm->Gm}{body:List M4}:∀{n:Nat} {Γ:Gm} {p:Gm×CS},Xc r C pre body n Γ=some p->r.Ss C (some p.1) (pre p.1) body=some p.2/\Mv (some p.1) p.2.Γ=true
 | 0,_,_,h=>by cases h
 | n+1,Γ,p,h=>by
  unfold Xc at h;split at h
  ·rename_i x hx;split at h
   ·rename_i hw;cases h;exact⟨hx,hw⟩
   ·exact MK h
  ·exact MK h
def pE(r:Rec)(C:Cf)(Γ:Gm)(tg iter:Expr)(body:List M4):Option CS:=(match iter with | .Set _ _ _=>none | _=>r.I C Γ (Nw tg) iter).bind fun s=>(cG C tg).bind fun t=>if t.J.all (fun i=>decide (i < s.Γ.length) && !C.F.io.contains i) then(Xc r C t.Γ body 4 s.Γ).bind fun p=>if Bv p.1 s.Γ then
    let jb:=t.J++p.2.js
    some ⟨some p.1,s.js++jb,if p.2.er || p.2.eb then Xn s.f t.f (BX p.1 jb) (BX C.F.Γr jb) p.2.f else Xo s.f t.f (BX p.1 jb) p.2.f,p.2.er,false,false⟩ else none else none
theorem cY(R:xb r){tg iter:Expr}{body:List M4}(ok:xT C X)(h:pE r C Γ tg iter body=some c):PS X (.For tg iter body [] pos) (tS X.K C.F xN Γ c.Γ c.js c.f):=by
 obtain⟨s,e1,h⟩:=xI h;obtain⟨t,e2,h⟩:=xI h;split at h
 ·rename_i hj;obtain⟨p,e3,h⟩:=xI h;split at h
  ·rename_i hw;have hs:∀x,O5 iter X.env x=pure x:=fun x=>by cases iter<;>first | rfl | (cases e1)
   have hI:r.I C Γ (Nw tg) iter=some s:=by cases iter<;>first | exact e1 | (cases e1)
   obtain⟨f1,f2⟩:=MK e3;obtain⟨g1,_,g3⟩:=Oa ok e2;rw[F0] at hj;have hJ:t.J.all (fun i=>decide (i < p.1.length))=true:=by
    rw[F0];intro i hi;rw[FI hw];exact(O4.mp (hj i hi)).1
   have yd:∀i∈C.F.io,i∉t.J:=fun i hi z=>by
    have:=(O4.mp (hj i z)).2;rw[C7.mpr hi] at this;cases this
   have hi:PI X tg iter (tI X.K Γ p.1 s.js s.f):=PI.imp (R.I tg ok hI) fun _ _ _ h=>Zq hw h
   have hp:i8 (D6 X.prog X.w) X.A X.env X.xe:=by rw[ok.xe];exact v9
   have hb:=R.Ss ok f1;simp only at h;cases h;split
   ·exact gX hp ok.calm hi g1 (g3 hJ) yd hb f2 rfl rfl hs
   ·exact gY hp ok.calm hi g1 (g3 hJ) yd hb f2 rfl hs
  ·cases h
 ·cases h
noncomputable def qz:Nat:=1000000
def ph(r:Rec)(C:Cf)(Γ:Gm)(c:Expr)(body:List M4):Option CS:=(fixW r C c body 4 Γ).bind fun p=>if Bv p.1 Γ && !(p.2.2.er || p.2.2.eb) then some ⟨some p.1,p.2.2.js,eg qz p.2.1.f (BX p.1 p.2.2.js) p.2.2.f,p.2.2.er,false,false⟩ else none
where
 fixW (r:Rec) (C:Cf) (c:Expr) (body:List M4):Nat->Gm->Option (Gm×CT×CS)
 | 0,_=>none
 | n+1,Γ=>(r.T C Γ c).bind fun t=>if t.js.isEmpty && Bv Γ t.Γ then(match r.Ss C (some Γ) Γ body with
  | some x=>if Mv (some Γ) x.Γ then some (Γ,t,x) else fixW r C c body n (match x.Γ with | some Γ'=>Bj Γ Γ' | none=>Γ)
  | none=>fixW r C c body n (Γ.map fun o=>o.map fun _=>0)) else fixW r C c body n (Bj Γ t.Γ)
theorem II{r:Rec}{C:Cf}{c:Expr}{body:List M4}:∀{n:Nat} {Γ:Gm} {p:Gm×CT×CS},ph.fixW r C c body n Γ=some p->r.T C p.1 c=some p.2.1/\p.2.1.js=[]/\Bv p.1 p.2.1.Γ=true/\r.Ss C (some p.1) p.1 body=some p.2.2/\Mv (some p.1) p.2.2.Γ=true
 | 0,_,_,h=>by cases h
 | n+1,Γ,p,h=>by
  unfold ph.fixW at h;obtain⟨t,e1,h⟩:=xI h;split at h
  ·rename_i hw;rw[A2] at hw;split at h
   ·rename_i x hx;split at h
    ·rename_i hl;cases h;exact⟨e1,vh.mp hw.1,hw.2,hx,hl⟩
    ·exact II h
   ·exact II h
  ·exact II h
theorem mR{F:Fr}{Γn:Option Gm}{Γ':Gm}{js:List Nat}{s:M4}{f:Es}(hw:Bv Γ' Γ=true)(h:PS X s (tS X.K F xN Γ' Γn js f)):PS X s (tS X.K F xN Γ Γn js f):=PS.imp h fun D σ H h=>by
 obtain⟨g,m,P,r,R,k,res,e,q⟩:=h;obtain⟨g2,P2,s2,r2⟩:=r.weaken hw;exact⟨g2,m,P2,r2,R,k,res,e,⟨fun Γ' m' g' P' σ' H' e hk a s'=>q.nx Γ' m' g' P' σ' H' e hk a (s2.trans s'),fun d m' g' P' Pv σ' v H' hk a s'=>q.rt d m' g' P' Pv σ' v H' hk a (s2.trans s'),fun Γ' m' g' P' σ' H' e hk a s'=>q.bk Γ' m' g' P' σ' H' e hk a (s2.trans s'),fun Γ' m' g' P' σ' H' e hk a s'=>q.ct Γ' m' g' P' σ' H' e hk a (s2.trans s')⟩⟩
theorem kY(R:xb r){t:Expr}{body:List M4}(ok:xT C X)(h:ph r C Γ t body=some c):PS X (.While t body [] pos) (tS X.K C.F xN Γ c.Γ c.js c.f):=by
 obtain⟨p,e1,h⟩:=xI h;split at h
 ·rename_i hw;cases h;obtain⟨f1,f2,f3,f4,f5⟩:=II e1;have hp:i8 (D6 X.prog X.w) X.A X.env X.xe:=by rw[ok.xe];exact v9
  have ht:=R.T ok f1;rw[f2] at ht;rw[A2] at hw;exact mR hw.1 (mO qz hp ht (R.Ss ok f4) f3 f5 rfl)
 ·cases h
def oZ:Es:=fun _ m k=>k.ct m
def kP:Es:=fun _ _ _=>none
def pF(xN:Option Gm)(Γ:Gm):Option CS:=none
def lC(xN:Option Gm)(Γ:Gm):Option CS:=match xN with
 | some Γ'=>if Bv Γ' Γ then some ⟨none,[],oZ,false,false,true⟩ else none
 | none=>none
theorem cf(h:pF xN Γ=some c):PS X (.Break pos) (tS X.K C.F xN Γ c.Γ c.js c.f):=by cases h
theorem cZ(h:lC xN Γ=some c):PS X (.Continue pos) (tS X.K C.F xN Γ c.Γ c.js c.f):=by
  unfold lC at h;split at h
  · rename_i Γ';split at h
    · rename_i hw;cases h;exact PS.imp NZ fun D σ H h=>by
        obtain⟨g,m,P,r,R,k,res,e,q⟩:=h;obtain⟨g2,P2,s2,r2⟩:=r.weaken hw;exact q.ct Γ' m g2 P2 σ H rfl e Ba.refl s2 Io.refl r2
    · cases h
  · cases h
noncomputable def eA(es:List Expr)(e:Expr):Option (Str×Pos×Str×Pos×Expr×Expr):=match es with
 | [.Name x px,.Name y py]=>match e with
  | .Tuple [a,b] _ _=>some (x,px,y,py,a,b)
  | _=>none
 | _=>none
noncomputable def VJ(es:List Expr):Option (Expr×Expr×Expr×Expr):=match es with
 | [.Subscript x k _,.Subscript y j _]=>some (x,k,y,j)
 | _=>none
theorem PK{t:Expr×Expr×Expr×Expr}(h:VJ es=some t):∃p q,es=[.Subscript t.1 t.2.1 p,.Subscript t.2.2.1 t.2.2.2 q]:=by
 unfold VJ at h;split at h
 ·cases h;exact⟨_,_,rfl⟩
 ·cases h
def kc(r:Rec)(C:Cf)(Γ:Gm)(x k y j e:Expr):Option CS:=if Nh e && FR k && FR j then(Ow C x).bind fun i=>(Ow C y).bind fun i2=>if i == i2 then(r.E C Γ e).bind fun c=>(Oj r C c.Γ k).bind fun a=>(Oj r C a.Γ j).bind fun b=>if(c.Γ.getD i none).isSome && a.Γ.getD i none == some 1 && b.Γ.getD i none == some 1 then some ⟨some b.Γ,c.js++(((a.js++[])++[i])++((b.js++[])++[i])),fA i C.T.st c.f (AR [a.a]) (AR [b.a]),false,false,false⟩ else none else none else none
theorem PJ{y j:Expr}{q:Pos}:S0 [.Tuple [.Subscript x k p,.Subscript y j q] kt pt] e env=pure none:=by
 cases e with
 | Tuple vs k2 p2 =>
  unfold S0;simp only[];split
  ·rfl
  ·split
   ·rfl
   ·rfl
 | _=>rfl
theorem cM(R:xb r){y j:Expr}{q:Pos}(ok:xT C X)(h:kc r C Γ x k y j e=some c):PS X (.Assign [.Tuple [.Subscript x k p,.Subscript y j q] kt pt] e pos) (tS X.K C.F xN Γ c.Γ c.js c.f):=by
 unfold kc at h;split at h
 ·rename_i hn;simp only[A2] at hn;obtain⟨i,e0,h⟩:=xI h;obtain⟨i2,e0',h⟩:=xI h;split at h
  ·rename_i hi;have hi:=beq_iff_eq.mp hi;subst hi;obtain⟨c1,e1,h⟩:=xI h;obtain⟨a,e2,h⟩:=xI h;obtain⟨b,e3,h⟩:=xI h;split at h
   ·rename_i hw;simp only[A2] at hw;cases h;obtain⟨a1,a2⟩:=FK R ok e2;obtain⟨b1,b2⟩:=FK R ok e3;obtain⟨T,t1,t2⟩:=C.T.zCB X ok.gx;exact PS.imp (Lv (ES (R.E ok e1)) (Pf ok.calm (EV (Ly (Bd ok e0) a1 t1 (Em hn.1.2)) (EV (Ly (Bd ok e0') b1 t1 (Em hn.2)) Lx))) (RJ hn.1.1) PJ rfl) fun D σ H h=>Zz t2 a2 b2 (getD_some hw.1.1) (Aw (beq_iff_eq.mp hw.1.2)) (Aw (beq_iff_eq.mp hw.2)) h
   ·cases h
  ·cases h
 ·cases h
def Yc(r:Rec)(C:Cf)(Γ:Gm)(es:List Expr)(k:Nat)(p:Pos)(e:Expr):Option CS:=match eA es e with
 | some t=>kj r C Γ t.1 t.2.2.1 t.2.1 t.2.2.2.1 t.2.2.2.2.1 t.2.2.2.2.2
 | none=>match VJ es with
  | some t=>kc r C Γ t.1 t.2.1 t.2.2.1 t.2.2.2 e
  | none=>ZF r C Γ es k p e
theorem Yb(R:xb r){k:Nat}(ok:xT C X)(h:Yc r C Γ es k p e=some c):PS X (.Assign [.Tuple es k p] e pos) (tS X.K C.F xN Γ c.Γ c.js c.f):=by
 unfold Yc at h;split at h
 ·rename_i t q;unfold eA at q;split at q
  ·split at q
   ·cases q;exact cR R ok h
   ·cases q
  ·cases q
 ·split at h
  ·rename_i t q;obtain⟨p1,p2,rfl⟩:=PK q;exact cM R ok h
  ·exact ZE R ok h
theorem cz(R:xb r){x:Str}(ok:xT C X)(h:(if Nh e then(r.E C Γ e).bind fun c=>SH C x c else none)=some c):PS X (.Assign [.Name x p] e pos) (tS X.K C.F xN Γ c.Γ c.js c.f):=by
 split at h
 ·rename_i hn;obtain⟨c1,e1,h⟩:=xI h;exact OZ ok (R.E ok e1) (Ft hn) h
 ·cases h
def dZ(r:Rec)(C:Cf)(xN:Option Gm)(Γ:Gm)(s:M4):Option CS:=match s with
 | .Pass _=>some (Vc Γ)
 | .Expr (.Constant (.str _) _ _) _=>some (Vc Γ)
 | .Expr e _=>lB r C Γ e
 | .Return (some e) _=>ox r C Γ e
 | .Assign [.Name x _] (.ListComp elt gens scope _) _=>fV r C Γ x elt gens scope
 | .Assign [.Name x _] e _=>if Nh e then(r.E C Γ e).bind fun c=>SH C x c else none
 | .Assign [.Tuple es k p] e _=>Yc r C Γ es k p e
 | .Assign [.Subscript x k _] e _=>Yi r C Γ x k e
 | .Assign [.Attribute o f _] e _=>Yz r C Γ o f e
 | .AugAssign (.Name x _) op e _=>pH r C Γ x op e
 | .If c a b _=>rk r C xN Γ c a b
 | .For tg iter body [] _=>pE r C Γ tg iter body
 | .While c body [] _=>ph r C Γ c body
 | .Break _=>pF xN Γ
 | .Continue _=>lC xN Γ
 | .Raise _ _ _=>some ⟨none,[],kP,false,false,false⟩
 | _=>none
theorem VO(R:xb r){s:M4}(ok:xT C X)(h:dZ r C xN Γ s=some c):PS X s (tS X.K C.F xN Γ c.Γ c.js c.f):=by
 cases s with
 | Pass _=>cases h;exact gV
 | Expr e _ =>
  cases e with
  | Constant k _ _ =>
   cases k with
   | str _=>cases h;exact mU
   | _=>exact SI R ok h
  | _=>exact SI R ok h
 | Return v _ =>
  cases v with
  | none=>cases h
  | some e=>exact cQ R ok h
 | Assign ts e _ =>
  match ts,h with
  | [],h=>cases h
  | t::_::_,h=>cases t<;>cases h
  | [t],h =>
   cases t with
   | Name x _ =>
    cases e with
    | ListComp elt gens scope _=>exact ZG R ok h
    | _=>exact cz R ok h
   | Tuple es k p=>exact Yb R ok h
   | Subscript x k _=>exact Yh R ok h
   | Attribute o f _=>exact Yy R ok h
   | _=>cases h
 | AugAssign t op e _ =>
  cases t with
  | Name x _=>exact cj R ok h
  | _=>cases h
 | If c a b _=>exact lA R ok h
 | For tg iter body o _ =>
  cases o with
  | nil=>exact cY R ok h
  | cons _ _=>cases h
 | While c body o _ =>
  cases o with
  | nil=>exact kY R ok h
  | cons _ _=>cases h
 | Break _=>exact cf h
 | Continue _=>exact cZ h
 | Raise _ _ _ =>
  cases h;intro pins s σ H D I q;obtain⟨g,m,P,r,R,k,res,e,q⟩:=q;cases e
 | _=>cases h
def VN(r:Rec)(C:Cf)(xN:Option Gm)(Γ:Gm)(ss:List M4):Option CS:=match ss with
 | []=>some (Vc Γ)
 | [s]=>r.S C xN Γ s
 | s::ss=>(r.S C xN Γ s).bind fun x=>match x.Γ with
  | none=>some x
  | some Γ'=>(r.Ss C xN Γ' ss).bind fun y=>some ⟨y.Γ,x.js++y.js,oV x.f y.f,x.er || y.er,x.eb || y.eb,x.ec || y.ec⟩
theorem Si(R:xb r){ss:List M4}(ok:xT C X)(h:VN r C xN Γ ss=some c):Ej X ss (tS X.K C.F xN Γ c.Γ c.js c.f):=by
 match ss,h with
 | [],h=>cases h;exact mT
 | [s],h=>exact mS (R.S ok h)
 | s::s2::ss,h =>
  obtain⟨x,e1,h⟩:=xI (show(r.S C xN Γ s).bind _=some c from h);have h1:=R.S ok e1;cases hx:x.Γ with
  | none =>
   simp only[hx] at h;cases h;rw[hx] at h1 ⊢;exact gW h1
  | some Γ' =>
   simp only[hx] at h;obtain⟨y,e2,h⟩:=xI h;cases h;rw[hx] at h1;exact gb (f:=x.f) (f2:=y.f) (js:=x.js) (js2:=y.js) h1 (R.Ss ok e2)
def step(r:Rec):Rec:=⟨da r,ND r,dY r,VQ r,dZ r,VN r⟩
def comp:Nat->Rec
 | 0=>⟨fun _ _ _=>none,fun _ _ _ _=>none,fun _ _ _=>none,fun _ _ _ _=>none,fun _ _ _ _=>none,fun _ _ _ _=>none⟩
 | n+1=>step (comp n)
theorem SE:∀n,xb (comp n)
 | 0=>⟨(fun _ h=>by cases h),(fun _ h=>by cases h),(fun _ h=>by cases h),(fun _ _ h=>by cases h),(fun _ h=>by cases h),(fun _ h=>by cases h),fun _ h=>by cases h⟩
 | n+1=>have R:=SE n;⟨fun ok h=>VR R ok h,fun ok h=>VU R ok h,fun ok h=>VM R ok h,fun tg ok h=>VP R tg ok h,fun ok h=>VO R ok h,fun ok h=>Si R ok h,fun ok h _ _ h0 hn=>Sk R ok h h0 hn⟩
noncomputable def nS(sc:N4):List Str:=sc.names.filterMap fun p=>match p.2 with | .local=>some p.1 | .cell=>some p.1 | _=>none
mutual
noncomputable def Ai:Expr->List Str
 | .ListComp e gs sc _=>nS sc++Ai e++Wj gs
 | .BoolOp _ vs _=>Bu vs
 | .BinOp a _ b _=>Ai a++Ai b
 | .UnaryOp _ a _=>Ai a
 | .IfExp a b c _=>Ai a++Ai b++Ai c
 | .Compare a _ bs _=>Ai a++Bu bs
 | .Call f es _ _=>Ai f++Bu es
 | .Attribute a _ _=>Ai a
 | .Subscript a b _=>Ai a++Ai b
 | .Slice a b c _=>JK a++JK b++JK c
 | .List es _=>Bu es
 | .Tuple es _ _=>Bu es
 | .Dict _ vs _=>Bu vs
 | .JoinedStr vs _=>Bu vs
 | .FormattedValue v _ _ _=>Ai v
 | _=>[]
noncomputable def Bu:List Expr->List Str
 | []=>[]
 | e::es=>Ai e++Bu es
noncomputable def JK:Option Expr->List Str
 | none=>[]
 | some e=>Ai e
noncomputable def Wj:List V2->List Str
 | []=>[]
 | ⟨_,it,ifs,_⟩::gs=>Ai it++Bu ifs++Wj gs
end
mutual
noncomputable def jA:M4->List Str
 | .Return v _=>JK v
 | .Assign ts v _=>Bu ts++Ai v
 | .AugAssign t _ v _=>Ai t++Ai v
 | .Expr v _=>Ai v
 | .If c a b _=>Ai c++FG a++FG b
 | .For _ it b _ _=>Ai it++FG b
 | .While c b _ _=>Ai c++FG b
 | .Raise e _ _=>JK e
 | _=>[]
noncomputable def FG:List M4->List Str
 | []=>[]
 | s::ss=>jA s++FG ss
end
noncomputable def YK:List Str->List Str->List Str
 | [],acc=>acc
 | x::xs,acc=>if acc.contains x then YK xs acc else YK xs (acc++[x])
def AE(st:M4):List Str:=(Ao st).args.map (·.arg)
def CM(st:M4):List Str:=YK (AE st++nS (AL st)++FG (Ab st)) []
noncomputable def hd:(io:List Nat)->Jn Dv io->Dv
 | [],t=>t
 | _::_,t=>t.1
noncomputable def Re:(J:List Nat)->Gc J->List Dv
 | [],_=>[]
 | [_],d=>[d]
 | _::j::J,t=>t.1::Re (j::J) t.2
def tl:(io:List Nat)->Jn Dv io->List Dv
 | [],_=>[]
 | i::io,t=>Re (i::io) t.2
theorem Ks:∀(J:List Nat) (m:M),Re J (An J m)=J.map m.at
 | [],_=>rfl
 | [_],_=>rfl
 | i::j::J,m=>by
  show m.at i::Re (j::J) (An (j::J) m)=_;rw[Ks (j::J) m];rfl
theorem eW(io:List Nat)(d:Dv)(m:M):hd io (eO io d m)=d:=by cases io<;>rfl
theorem dM(io:List Nat)(d:Dv)(m:M):tl io (eO io d m)=io.map m.at:=by
 cases io with
 | nil=>rfl
 | cons i io=>exact Ks (i::io) m
def Aa(ps:List Str)(io:List Nat)(ro:Nat)(nb:Bool)(F:List Dv->Option (Jn Dv io))(cl:Option Str:=none):xZ where
 ps:=ps
 io:=io
 ro:=ro
 nb:=nb
 fn:=fun ds=>(F ds).bind fun t=>some (hd io t,tl io t)
 cps:=fun R ds k=>(F ds).bind fun t=>k (hd io t) (tl io t)
 eq:=fun R ds k=>by cases F ds<;>rfl
 cl:=cl
def kJ(io:List Nat):Kt (Jn Dv io):=⟨fun m=>some (eO io .xQ m),fun d m=>some (eO io d m),fun _=>none,fun _=>none⟩
structure Md:Type 1 where
 T:Tb
 cs:List (Str×Dv)
 bl:List Str
 fl:List Str
 rf:List Str
def ou(M:Md)(fs:List (Str×xZ))(st:M4)(io:List Nat)(ro:Nat):Cf:=⟨CM st,AL st,fun _=>true,fs,M.cs,M.bl,M.T,⟨io,PV (CM st).length io,ro⟩,M.fl,M.rf⟩
noncomputable def qQ:Rec:=⟨fun _ _ _=>none,fun _ _ _ _=>none,fun _ _ _=>none,fun _ _ _ _=>none,fun _ _ _ _=>none,fun _ _ _ _=>none⟩
def cmp(n:Nat):Rec:=Nat.rec qQ (fun _ r=>step r) n
theorem YZ:∀n,cmp n=comp n
 | 0=>rfl
 | n+1=>by
  show step (cmp n)=step (comp n);rw[YZ n]
def aN(M:Md)(fs:List (Str×xZ))(st:M4)(io:List Nat)(ro:Nat):Option CS:=(cmp 100).Ss (ou M fs st io ro) none (cA (CM st).length (AE st).length io) (Ab st)
def Vl(M:Md)(fs:List (Str×xZ))(st:M4)(io:List Nat)(ro:Nat)(ds:List Dv):Option (Jn Dv io):=match aN M fs st io ro with
 | some c=>c.f (Jn Dv io) (ds++K1 ((CM st).length - (AE st).length) .xQ) (kJ io)
 | none=>none
noncomputable def isFn:ScopeKind->Bool
 | .function=>true
 | _=>false
noncomputable def bV:NameKind->Bool
 | .free=>false
 | _=>true
def gU(N P:List Str)(sc:N4):Bool:=isFn sc.kind && !sc.isCoroutine && !sc.isGenerator && decide N.Nodup && (N.take P.length == P) && (P.all fun x=>match sc.names.lookup x with | some .local=>true | some .cell=>true | _=>false) && sc.names.all fun y=>bV y.2
theorem aL{N P:List Str}{sc:N4}(h:gU N P sc=true):y8 N P sc:=by
 unfold gU at h;simp only[A2,N7,decide_eq_true_eq,F0] at h;obtain⟨⟨⟨⟨⟨⟨h1,h2⟩,h3⟩,h4⟩,h5⟩,h6⟩,h7⟩:=h;refine⟨?_,h2,h3,h4,by simpa using h5,fun x hx=>?_,fun y hy z=>?_⟩
 ·cases q:sc.kind<;>first | rfl | (rw[q] at h1;cases h1)
 ·have:=h6 x hx;split at this
  ·rename_i e;exact .inl e
  ·rename_i e;exact .inr e
  ·cases this
 ·have:=h7 y hy;rw[z] at this;cases this
def EE(M:Md)(fs:List (Str×xZ))(st:M4)(io:List Nat)(ro:Nat):Bool:=gU (CM st) (AE st) (AL st) && decide io.Nodup && (io.all fun i=>decide (i < (AE st).length)) && decide ((AE st).length<=(CM st).length) && match aN M fs st io ro with
 | some c=>Mv (some (PV (CM st).length io)) c.Γ
 | none=>false
section
variable {P:F8} {w:J0} {K:W.Frag} {mg:Str->Option Value} {base:G7}
structure Bs (M:Md) (K:W.Frag) (mg:Str->Option Value):Prop where
 cs:∀x d,(x,d)∈M.cs->∃v u,mg x=some u/\RelV v u/\∀g H,Rep K g H 0 d v xM
 bl:∀x∈M.bl,mg x=none
def Fs(P:F8)(w:J0)(K:W.Frag)(mg:Str->Option Value)(base:G7)(fl:List Str)(k:Nat)(fs:List (Str×xZ)):Prop:=∀x s,(x,s)∈fs->s.io.Nodup/\(∀i∈s.io,i < s.ps.length)/\∃j,j<=k/\Fz P w K mg base fl j x s
theorem Fs.nil{fl:List Str}{k:Nat}:Fs P w K mg base fl k []:=fun _ _ h=>by cases h
theorem Fs.zCT{fl:List Str}{k l:Nat}{x:Str}{s:xZ}{fs:List (Str×xZ)}(h:Fs P w K mg base fl k fs)(hl:k<=l)(h1:s.io.Nodup)(h2:∀i∈s.io,i < s.ps.length)(h3:Fz P w K mg base fl l x s):Fs P w K mg base fl l ((x,s)::fs):=fun y t q=>by
 rcases B9.mp q with q | q
 ·cases q;exact⟨h1,h2,l,B7 _,h3⟩
 ·obtain⟨a,b,j,hj,f⟩:=h y t q;exact⟨a,b,j,by omega,f⟩
theorem Fs.cons{fl:List Str}{k:Nat}{x:Str}{s:xZ}{fs:List (Str×xZ)}(h:Fs P w K mg base fl k fs)(h1:s.io.Nodup)(h2:∀i∈s.io,i < s.ps.length)(hc:s.cl=none)(h3:Fx P w K mg base (k+1) x s.ps (Mt K s)):Fs P w K mg base fl (k+1) ((x,s)::fs):=h.zCT (U1 k) h1 h2 (by unfold Fz;rw[hc];exact h3)
theorem QW{M:Md}{k:Nat}{fs:List (Str×xZ)}{x qual:Str}{st:M4}{f:B5}{fd:Q8}{io:List Nat}{ro:Nat}{nb:Bool}{cl:Option Str}{F:List Dv->Option (Jn Dv io)}(b:Bs M K mg)(h:Fs P w K mg base M.fl k fs)(c:EE M fs st io ro=true)(hF:∀ds,ds.length=(AE st).length->Vl M fs st io ro ds=F ds)
    (Fn:Fun K x qual st f fd):xr P w K mg base Qt (k+1) f fd (AE st) (Mt K (Aa (AE st) io ro nb F cl)):=by
  unfold EE at c;simp only[A2,decide_eq_true_eq,F0] at c;obtain⟨⟨⟨⟨c1,c2⟩,c3⟩,c4⟩,c5⟩:=c;cases e:aN M fs st io ro with
  | none=>rw[e] at c5;cases c5
  | some cs =>
    rw[e] at c5;have S:=aL c1;refine oR (s:=Aa (AE st) io ro nb F cl) (N:=CM st) (body:=cs.f) (Γn:=cs.Γ) (js:=cs.js) Fn S c2 c3 c4 c5 (fun xp A outer s' H E hr=>?_) fun ds d bs hl hf=>?_
    · have ok:xT (ou M fs st io ro) (OO Qt P w K mg base (CM st) qual (AL st) f xp A outer s' H E).nox:=⟨rfl,rfl,S.nd,rfl,fun _ _=>rfl,⟨rfl,k,hr⟩,fun y t q=>by
        obtain⟨a,b,j,hj,q⟩:=h y t q;exact⟨a,b,j,k,hj,hr,q⟩,b.cs,b.bl,rfl⟩
      unfold aN at e;rw[YZ] at e;exact(SE 100).Ss ok e
    · have hr:=hF ds hl;unfold Vl at hr;rw[e] at hr;obtain⟨t,e1,e2⟩:=xI (show(F ds).bind _=some (d,bs) from hf);cases e2;refine⟨_,kJ io,t,hr.trans e1,fun m z=>?_,fun d' m z=>?_⟩
      · have z:some (eO io .xQ m)=some t:=z;cases z;exact⟨eW io _ m,dM io _ m⟩
      · have z:some (eO io d' m)=some t:=z;cases z;exact⟨eW io _ m,dM io _ m⟩
abbrev EB(x q:Str)(st:M4):Prop:=∀(kV doc pm:Value) (an:Option B5) (xp ct:Value) (us:List Value),us.length=(AE st).length->sY (W.fnOf x q (Ao st) (Ab st) (AL st) .none kV doc pm an xp ct) ⟨us,[]⟩=pure ((AE st).zip us)
abbrev BJ(x:Str)(st:M4):Prop:=EB x x st
theorem Mb{M:Md}{fs:List (Str×xZ)}{st:M4}{io:List Nat}{ro:Nat}(c:EE M fs st io ro=true):io.Nodup/\∀i∈io,i < (AE st).length:=by
 unfold EE at c;simp only[A2,decide_eq_true_eq,F0] at c;exact⟨c.1.1.1.2,c.1.1.2⟩
theorem Fs.def{M:Md}{k:Nat}{fs:List (Str×xZ)}{x:Str}{st:M4}{io:List Nat}{ro:Nat}{nb:Bool}{F:List Dv->Option (Jn Dv io)}(h:Fs P w K mg base M.fl k fs)(b:Bs M K mg)(c:EE M fs st io ro=true)(hF:∀ds,ds.length=(AE st).length->Vl M fs st io ro ds=F ds)
    (gf:GF K x st) (hm:mg x=some (.ref (Dd K x))) (hb:BJ x st):Fs P w K mg base M.fl (k+1) ((x,Aa (AE st) io ro nb F)::fs):=
  h.cons (Mb c).1 (Mb c).2 rfl ⟨_,_,QW b h c hF (je gf),hm,gf.2.2.2,(je gf).binds hb⟩
def eQ(K:W.Frag)(c m:Str):B5:=match W.findIn K (.ref (Dd K c)) m with
 | some (some (.ref a))=>a
 | _=>0
abbrev GM(K:W.Frag)(c q m:Str)(t:M4):Prop:=W.findIn K (.ref (Dd K c)) m=some (some (.ref (eQ K c m))) /\
 K.lookup (eQ K c m)=some ⟨.type "function", none,.func (W.fnOf m q (Ao t) (Ab t) (AL t) .none .none .none (ax K (eQ K c m)) none (UM K (eQ K c m)) .none),#[]⟩ /\
 W.codeIn K (UM K (eQ K c m)) q=true/\W.keepIn K (.ref (eQ K c m))=true/\W.isFn K (.ref (eQ K c m))=true
noncomputable def ny(K:W.Frag)(C:B5)(f:Str):Bool:=match W.findIn K (.ref C) f with
 | some none=>true
 | _=>false
noncomputable def mN(K:W.Frag)(C:B5):Bool:=match W.findIn K (.ref C) "__setattr__" with
 | some (some (.builtin id))=>id == "object.__setattr__"
 | _=>false
abbrev GC(K:W.Frag)(c:Str)(fl:List Str):Prop:=W.nsIn K K9 c=some (some (.ref (Dd K c)))/\W.plainGet K (Dd K c) Str.empty=true/\W.hasDictIn K (Dd K c)=true/\W.plainOver K (Dd K c)=true/\mN K (Dd K c)=true /\
 fl.all (ny K (Dd K c))=true/\W.makesIn K (Dd K c)=true/\W.keepIn K (.ref (Dd K c))=true
theorem jg{c:Str}{fl:List Str}(g:GC K c fl):dH K c fl:=by
 obtain⟨_,h1,h2,h3,h4,h5,_⟩:=g;refine⟨⟨h1,h2,h3,?_⟩,fun f hf=>?_⟩
 ·unfold mN at h4;split at h4
  ·rename_i id e;rw[e,beq_iff_eq.mp h4]
  ·cases h4
 ·have:=(F0.mp h5) f hf;unfold ny at this;split at this
  ·rename_i e;exact e
  ·cases this
theorem Fs.zBO{M:Md}{k:Nat}{fs:List (Str×xZ)}{cl q x:Str}{st:M4}{io:List Nat}{ro:Nat}{nb:Bool}{F:List Dv->Option (Jn Dv io)}(h:Fs P w K mg base M.fl k fs)(b:Bs M K mg)(c:EE M fs st io ro=true)(hF:∀ds,ds.length=(AE st).length->Vl M fs st io ro ds=F ds)
    (gm:GM K cl q x st) (gc:GC K cl M.fl) (hm:mg cl=some (.ref (Dd K cl))) (hb:EB x q st):Fs P w K mg base M.fl (k+2) ((x,Aa (AE st) io ro nb F (some cl))::fs):=by
  have Fn:Fun K x q st (eQ K cl x) _:=XY gm.2.1 gm.2.2.1 gm.2.2.2.1;refine h.zCT (by omega) (Mb c).1 (Mb c).2 ?_;unfold Fz;refine⟨k+1,_,_,B7 _,QW (cl:=some cl) b h c hF Fn,Fn.binds hb,⟨gm.1,gm.2.2.2.2,gm.2.2.2.1⟩,jg gc,hm,fun e=>⟨gc.2.2.2.2.2.2.1,?_,gm.2.2.2.2,gc.2.2.2.2.2.2.2⟩⟩;rw[<- e];exact gm.1
theorem ZO{x q:Str}{st:M4}(hn:(AE st).length=1)(h:∀(kV doc pm:Value) (an:Option B5) (xp ct:Value) (a:Value),sY (W.fnOf x q (Ao st) (Ab st) (AL st) .none kV doc pm an xp ct) ⟨[a],[]⟩=pure ((AE st).zip [a])):EB x q st:=fun kV doc pm an xp ct us hl=>by
 rw[hn] at hl
 match us,hl with | [a],_=>exact h kV doc pm an xp ct a
theorem GW{x q:Str}{st:M4}(hn:(AE st).length=2)(h:∀(kV doc pm:Value) (an:Option B5) (xp ct:Value) (a b:Value),sY (W.fnOf x q (Ao st) (Ab st) (AL st) .none kV doc pm an xp ct) ⟨[a,b],[]⟩=pure ((AE st).zip [a,b])):EB x q st:=fun kV doc pm an xp ct us hl=>by
 rw[hn] at hl
 match us,hl with | [a,b],_=>exact h kV doc pm an xp ct a b
theorem Qk{x q:Str}{st:M4}(hn:(AE st).length=3)(h:∀(kV doc pm:Value) (an:Option B5) (xp ct:Value) (a b c:Value),sY (W.fnOf x q (Ao st) (Ab st) (AL st) .none kV doc pm an xp ct) ⟨[a,b,c],[]⟩=pure ((AE st).zip [a,b,c])):EB x q st:=fun kV doc pm an xp ct us hl=>by
 rw[hn] at hl
 match us,hl with | [a,b,c],_=>exact h kV doc pm an xp ct a b c
theorem lK{x q:Str}{st:M4}(hn:(AE st).length=4)(h:∀(kV doc pm:Value) (an:Option B5) (xp ct:Value) (a b c d:Value),sY (W.fnOf x q (Ao st) (Ab st) (AL st) .none kV doc pm an xp ct) ⟨[a,b,c,d],[]⟩=pure ((AE st).zip [a,b,c,d])):EB x q st:=fun kV doc pm an xp ct us hl=>by
 rw[hn] at hl
 match us,hl with | [a,b,c,d],_=>exact h kV doc pm an xp ct a b c d
noncomputable def Pm(K:W.Frag)(x:Str):Bool:=match W.nsIn K K9 x with | some none=>true | _=>false
theorem pJ{M:Md}{h:G7}(X:K.In h)(G:h.Ns K9 mg)(hc:M.cs=[])(hz:M.bl.all (Pm K)=true):Bs M K mg:=⟨(fun x d q=>by rw[hc] at q;cases q),fun x hx=>by
 have:=(F0.mp hz) x hx;unfold Pm at this;split at this
 ·rename_i e;exact W.mg_none_of X G e
 ·cases this⟩
noncomputable def QO{α:Type}(f:Dv->Dv->Dv->Dv->Option α)(ds:List Dv):Option α:=match ds with | [a,b,c,d]=>f a b c d | _=>none
noncomputable def FW{α:Type}(f:Dv->Dv->Dv->Option α)(ds:List Dv):Option α:=match ds with | [a,b,c]=>f a b c | _=>none
abbrev Fl(M:Md)(fs:List (Str×xZ))(st:M4)(io:List Nat)(ro:Nat)(f:List Dv->Option (Jn Dv io)):Prop:=∀ds,ds.length=(AE st).length->Vl M fs st io ro ds=f ds
theorem la{α:Type}{G:List Dv->Option α}{f:Dv->Option α}{n:Nat}(hn:n=1)(h:∀a,G [a]=f a):∀ds,ds.length=n->G ds=one f ds:=fun ds hl=>by
 subst hn
 match ds,hl with | [a],_=>exact h a
theorem SN{α:Type}{G:List Dv->Option α}{f:Dv->Dv->Option α}{n:Nat}(hn:n=2)(h:∀a b,G [a,b]=f a b):∀ds,ds.length=n->G ds=two f ds:=fun ds hl=>by
 subst hn
 match ds,hl with | [a,b],_=>exact h a b
theorem lG{α:Type}{G:List Dv->Option α}{f:Dv->Dv->Dv->Option α}{n:Nat}(hn:n=3)(h:∀a b c,G [a,b,c]=f a b c):∀ds,ds.length=n->G ds=FW f ds:=fun ds hl=>by
 subst hn
 match ds,hl with | [a,b,c],_=>exact h a b c
theorem qo{α:Type}{G:List Dv->Option α}{f:Dv->Dv->Dv->Dv->Option α}{n:Nat}(hn:n=4)(h:∀a b c d,G [a,b,c,d]=f a b c d):∀ds,ds.length=n->G ds=QO f ds:=fun ds hl=>by
 subst hn
 match ds,hl with | [a,b,c,d],_=>exact h a b c d
def RI(K:W.Frag):Sp:=fun vs H Q _=>∃(a:B5) (ns:List Int),vs=[.ref a]/\DO K H a (ns.map V.int)/\ns.length<=63/\dG H/\∀H',Q (.bl true) H'
theorem jL{k:Nat}{f:B5}{fd:Q8}{ps:List Str}{nb:Bool}{F:List Dv->Option Dv}(hp:ps.length=1)(h0:xr P w K mg base Qt k f fd ps (Mt K (Aa ps [] 1 nb F)))(h:∀ns:List Int,ns.length<=63->F [.yO ns]=some (.bl true)):xr P w K mg base Qt k f fd ps (RI K):=h0.imp fun vs H Q E q=>by
 obtain⟨a,ns,rfl,hS,hn,hO,q⟩:=q;have hs:pw K H a ns:=by
  rcases hS with(h1 | h1) | h1
  ·rcases hO a with z | ⟨o,xs,z⟩
   ·rw[h1] at z;cases z
   ·rw[h1] at z;cases z
  ·exact .inl h1
  ·exact .inr h1
 refine⟨⟨fun _=>False,[]⟩,[.yO ns],xM,?_,.bl true,[],by show(F [.yO ns]).bind _=_;rw[h ns hn];rfl,fun g' H' v Pv Pb _ rv _ _=>by rw[Bc rv];exact q H'⟩;show Rel K _ H (Ov ps.length []) _ _ _;rw[hp];refine⟨?_,fun _=>xM,⟨rfl,rfl,fun i o e=>?_,fun i e a z=>z,fun i j n a z=>z.elim⟩,fun a=>⟨fun z=>z.elim,fun⟨i,z⟩=>z⟩⟩
 ·exact fun _ z=>z.elim
 ·match i,e with
  | 0,e=>cases e;exact⟨_,_,rfl,rfl,by unfold Rep;exact⟨⟨a,rfl,hs⟩,fun _ z=>z⟩⟩
end
end R
namespace L4
open PySem PySem.Spec PyProof.Rows L2 Builtin
end L4
namespace R
open PySem L2
variable {vs:List V} {d:Dv} {o:Nat} {v:V} {P:Fp} {xs:List Dv} {α:Type}
section
variable {K:W.Frag} {g:G} {H:Hp}
theorem RA.nil(h:RA K g H [] vs):vs=[]:=by unfold RA at h;exact h
theorem RA.cons{ds:List Dv}(h:RA K g H (d::ds) vs):∃v r o P,vs=v::r/\o<=1/\Rep K g H o d v P/\RA K g H ds r:=by unfold RA at h;exact h
theorem RA.one(h:RA K g H [d] vs):∃v o P,vs=[v]/\o<=1/\Rep K g H o d v P:=by
 obtain⟨v,r,o,P,rfl,ho,h1,h2⟩:=h.cons;cases h2.nil;exact⟨v,o,P,rfl,ho,h1⟩
theorem RA.two{e:Dv}(h:RA K g H [d,e] vs):∃v o P w u R,vs=[v,w]/\o<=1/\Rep K g H o d v P/\u<=1/\Rep K g H u e w R:=by
 obtain⟨v,r,o,P,rfl,ho,h1,h2⟩:=h.cons;obtain⟨w,u,R,rfl,hu,h3⟩:=h2.one;exact⟨v,o,P,w,u,R,rfl,ho,h1,hu,h3⟩
theorem BH{l:List Nat}(h:Rep K g H o (.str l) v P):v=.str (tx l):=by unfold Rep at h;exact h.1
theorem GG(h:Rep K g H o .xQ v P):v=.xQ:=by unfold Rep at h;exact h.1
theorem FP(ho:o<=1)(h:Rep K g H o (.lst xs) v P):∃a us,v=.ref a/\DO K H a us/\AC K g H 0 xs us xM/\H a=some (.lst us):=by
 unfold Rep at h;obtain⟨a,us,P',rfl,h1,h2,_⟩:=h;rw[X8 ho] at h2;exact⟨a,us,rfl,.inl (.inl h1.1),h2.z,h1.1⟩
theorem Fo(ho:o<=1)(h:Rep K g H o (.tup xs) v P):∃a us,v=.ref a/\FL K H a us/\AC K g H 0 xs us xM/\H a=some (.tup us):=by
 unfold Rep at h;obtain⟨a,us,rfl,h1,h2⟩:=h;rw[X8 ho] at h2;exact⟨a,us,rfl,.inl (.inl h1),h2.z,h1⟩
theorem NL{ns:List Int}(h:Rep K g H o (.yO ns) v P):∃a,v=.ref a/\DO K H a (ns.map V.int):=by
 unfold Rep at h;obtain⟨⟨a,rfl,h1⟩,_⟩:=h;exact⟨a,rfl,h1.sq⟩
theorem GE(ho:o<=1){a:B5}{us:List V}(h1:H a=some (.tup us))(h2:AC K g H 0 xs us xM):Rep K g H o (.tup xs) (.ref a) xM:=by
 unfold Rep;rw[X8 ho];exact⟨a,us,rfl,h1,h2⟩
theorem Af.int(i:Int):Af K g H o (.int i) (.int i) H:=Af.old CQ
theorem Af.bl(b:Bool):Af K g H o (.bl b) (.bl b) H:=Af.old Ck
theorem Af.str(l:List Nat):Af K g H o (.str l) (.str (tx l)) H:=Af.old (by unfold Rep;exact⟨rfl,fun _ z=>z⟩)
theorem Af.tup(ho:o<=1){p:B5}(hp:H p=none)(h:AC K g H 0 xs vs xM):Af K g H o (.tup xs) (.ref p) (upd H p (.tup vs)):=
 have sm:=Cb hp (.tup vs)
 ⟨sm,xM,GE ho AH (h.held (Step.same (g:=g) (P:=xM) sm) xS.xM fun _ z=>z.elim),fun _ z=>z.elim⟩
theorem PZ(n:Nat)(h:AC K g H 0 xs vs xM):AC K g H 0 (xs.drop n) (vs.drop n) xM:=by
 have h0:=Cj.mp h;exact Cj.mpr ⟨by simp[h0.1],fun i d v e1 e2=>h0.2 (n+i) d v (by simpa using e1) (by simpa using e2)⟩
theorem PX(n:Nat)(h:AC K g H 0 xs vs xM):AC K g H 0 (xs.take n) (vs.take n) xM:=by
 have h0:=Cj.mp h;refine Cj.mpr ⟨by simp[h0.1],fun i d v e1 e2=>?_⟩;rw[List.getElem?_take] at e1 e2;split at e1
 ·rename_i hi;rw[if_pos hi] at e2;exact h0.2 i d v e1 e2
 ·cases e1
theorem Km(h:AC K g H 0 xs vs xM):AC K g H 0 xs.reverse vs.reverse xM:=by
 have h0:=Cj.mp h;refine Cj.mpr ⟨by simp[h0.1],fun i d v e1 e2=>?_⟩;have hi:i < xs.length:=by simpa using (B3.mp e1).1
 rw[tm hi] at e1;rw[tm (by rw[<- h0.1];exact hi),<- h0.1] at e2;exact h0.2 _ d v e1 e2
theorem Ci(ns:List Int):AC K g H 0 (ns.map .int) (ns.map V.int) xM:=Cj.mpr ⟨by simp,fun i d v e1 e2=>by
 rw[C9] at e1 e2;cases q:ns[i]? with
 | none=>rw[q] at e1;cases e1
 | some k=>rw[q] at e1 e2;cases e1;cases e2;exact CQ⟩
def BG(xs:List α)(lo hi:Option Int):List α:=(xs.drop (HT.xX xs.length 0 lo)).take (HT.xX xs.length xs.length hi - HT.xX xs.length 0 lo)
theorem bc{β:Type}(f:α->β)(xs:List α)(lo hi:Option Int):(BG xs lo hi).map f=BG (xs.map f) lo hi:=by
 unfold BG;rw[List.map_take,List.map_drop,D5]
theorem cx{β:Type}{f:α->β}{xs:List α}{i:Int}:FQ (xs.map f) i=(FQ xs i).map f:=by
 unfold FQ;rw[D5];cases Hq xs.length i with
 | none=>rfl
 | some j=>show(xs.map f)[j]?=_;rw[C9];rfl
theorem HD(lo hi:Option Int)(h:AC K g H 0 xs vs xM):AC K g H 0 (BG xs lo hi) (GT vs lo hi) xM:=by
 unfold BG GT;rw[h.len];exact PX _ (PZ _ h)
theorem NO{i:Int}(h:AC K g H 0 xs vs xM)(e:FQ xs i=some d):∃v,FQ vs i=some v/\Rep K g H 0 d v xM:=by
 unfold FQ at e ⊢;rw[h.len] at e;cases q:Hq vs.length i with
 | none=>rw[q] at e;cases e
 | some j =>
  rw[q] at e;obtain⟨v,R,e1,e2,_⟩:=h.get e;exact⟨v,e1,e2.z⟩
noncomputable def CK(C:Int->Int->Bool)(f:Int->Int->Int)(x y:Dv):Option Dv:=match x,y with | .int i,.int j=>if C i j=true then some (.int (f i j)) else none | _,_=>none
noncomputable def EA(f:Int->Int->Bool)(x y:Dv):Option Bool:=match x,y with | .int i,.int j=>some (f i j) | _,_=>none
abbrev Hd:=CK (fun _ _=>true) fun i j=>i - j
abbrev Eh:=CK (fun _ j=>decide (0 < j)) fun i j=>i % j
abbrev Qn:=CK (fun _ j=>decide (0 < j) && decide (j < 1073741824)) fun i j=>i / j
abbrev lQ:=CK (fun i j=>decide (0<=j) && decide (j<=1000000) && decide (i.natAbs < 2 ^ 64)) fun i j=>i ^ j.toNat
abbrev Uq:=EA fun i j=>decide (j < i)
abbrev rn:=EA fun i j=>decide (j<=i)
theorem Fm{f:Dv->Dv->Option α}{ds:List Dv}{a:α}(h:two f ds=some a):∃x y,ds=[x,y]/\f x y=some a:=by
 unfold two at h;split at h
 ·exact⟨_,_,rfl,h⟩
 ·cases h
theorem JH{f:Dv->Dv->Option Dv}{r:R2}(h:∀g H x y v w o1 o2 P R d Q,Zd g H->o1<=1->Rep K g H o1 x v P->o2<=1->Rep K g H o2 y w R->f x y=some d->(∀v H',Af K g H o d v H'->Q v H')->r v w H Q):AJ K (two f) o (LZ r):=fun g H ds vs d Q zd ra e k=>by
 obtain⟨x,y,rfl,e⟩:=Fm e;obtain⟨v,o1,P,w,o2,R,rfl,h1,h2,h3,h4⟩:=ra.two;exact h g H x y v w o1 o2 P R d Q zd h1 h2 h3 h4 e k
theorem IB{f:Dv->Dv->Option Bool}{r:R2}(h:∀g H x y v w o1 o2 P R b (Q:VK),Zd g H->o1<=1->Rep K g H o1 x v P->o2<=1->Rep K g H o2 y w R->f x y=some b->Q (.bl b) H->r v w H Q):AJ K (fun ds=>(two f ds).map .bl) 0 (LZ r):=fun g H ds vs d Q zd ra e k=>by
 have e:(two f ds).map Dv.bl=some d:=e;cases q:two f ds with
 | none=>rw[q] at e;cases e
 | some b =>
  rw[q] at e;cases e;obtain⟨x,y,rfl,e2⟩:=Fm q;obtain⟨v,o1,P,w,o2,R,rfl,h1,h2,h3,h4⟩:=ra.two;exact h g H x y v w o1 o2 P R b Q zd h1 h2 h3 h4 e2 (k _ _ (Af.bl _))
theorem IC{C:Int->Int->Bool}{C':Int->Int->Prop}{f:Int->Int->Int}(hc:∀i j,C i j=true->C' i j):AJ K (two (CK C f)) o (LZ (rI C' fun i j=>.int (f i j))):=JH fun g H x y v w o1 o2 P R d Q zd _ h1 _ h2 e k=>by
 unfold CK at e;split at e
 ·split at e
  ·rename_i c;cases e;rw[AI h1,AI h2];exact⟨_,_,rfl,rfl,hc _ _ c,k _ _ (Af.int _)⟩
  ·cases e
 ·cases e
theorem au{f:Int->Int->Int}:AJ K (two (CK (fun _ _=>true) f)) o (LZ (Vu fun i j=>.int (f i j))):=JH fun g H x y v w o1 o2 P R d Q zd _ h1 _ h2 e k=>by
 unfold CK at e;split at e
 ·cases e;rw[AI h1,AI h2];exact⟨_,_,rfl,rfl,k _ _ (Af.int _)⟩
 ·cases e
theorem ID{f:Int->Int->Bool}:AJ K (fun ds=>(two (EA f) ds).map .bl) 0 (LZ (Vu fun i j=>.bl (f i j))):=IB fun g H x y v w o1 o2 P R b Q zd _ h1 _ h2 e k=>by
 unfold EA at e;split at e
 ·cases e;rw[AI h1,AI h2];exact⟨_,_,rfl,rfl,k⟩
 ·cases e
noncomputable def AS(x y:Dv):Option Dv:=match x,y with
 | .int i,.int j=>some (.int (i+j))
 | .str a,.str b=>if a.length+b.length<=1000000 then some (.str (a++b)) else none
 | .lst xs,.lst ys=>if xs.length+ys.length<=1000000 then some (.lst (xs++ys)) else none
 | .tup xs,.tup ys=>if xs.length+ys.length<=1000000 then some (.tup (xs++ys)) else none
 | _,_=>none
theorem iH:AJ K (two AS) 1 (LZ (NU K)):=JH fun g H x y v w o1 o2 P R d Q zd l1 h1 l2 h2 e k=>by
 unfold AS at e;split at e
 ·cases e;rw[AI h1,AI h2];exact ZU (k _ _ (Af.int _))
 ·split at e
  ·rename_i hl;cases e;rw[BH h1,BH h2];refine ZS (by rw[CU,CU];exact hl) ?_;rw[PB];exact k _ _ (Af.str _)
  ·cases e
 ·split at e
  ·rename_i hl;cases e;obtain⟨a,us,rfl,_,hx,ha⟩:=FP l1 h1;obtain⟨b,ws,rfl,_,hy,hb⟩:=FP l2 h2;exact ZT ha hb (by rw[<- hx.len,<- hy.len];exact hl) fun p hp=>k _ _ (Af.lst zd (CP hx hy) hp)
  ·cases e
 ·split at e
  ·rename_i hl;cases e;obtain⟨a,us,rfl,ha,hx,ha'⟩:=Fo l1 h1;obtain⟨b,ws,rfl,hb,hy,hb'⟩:=Fo l2 h2;have al:=CP hx hy
   by_cases hu:us=[]
   ·subst hu;exact .inr ⟨a,b,ws,rfl,rfl,ha,hb,k _ _ (Af.old (GE (B7 1) hb' al))⟩
   ·refine .inl (.inr (.inr (.inr ⟨a,b,us,ws,rfl,rfl,ha,hb,hu,by rw[<- hx.len,<- hy.len];exact A4 hl (by decide),fun hw=>?_,fun _ p hp=>k _ _ (Af.tup (B7 1) hp al)⟩)));subst hw;rw[K0] at al;exact k _ _ (Af.old (GE (B7 1) ha' al))
  ·cases e
 ·cases e
noncomputable def big(i:Int):Bool:=decide (-(2 ^ 64) < i) && decide (i < 2 ^ 64)
abbrev CH:=CK (fun i j=>big i || big j) fun i j=>i * j
noncomputable def AN(x:Dv):Option Dv:=match x with
 | .str l=>if l.length<=1000000 then some (.int l.length) else none
 | .lst xs=>some (.int xs.length)
 | .tup xs=>some (.int xs.length)
 | .yO ns=>some (.int ns.length)
 | .yR ks _=>some (.int ks.length)
 | _=>none
theorem Wa{f:Dv->Option α}{ds:List Dv}{a:α}(h:one f ds=some a):∃x,ds=[x]/\f x=some a:=by
 unfold one at h;split at h
 ·exact⟨_,rfl,h⟩
 ·cases h
theorem EU{f:Dv->Option Dv}{r:Qo}(h:∀g H x v o1 P d Q,Zd g H->o1<=1->Rep K g H o1 x v P->f x=some d->(∀v H',Af K g H o d v H'->Q v H')->r [v] H Q):AJ K (one f) o r:=fun g H ds vs d Q zd ra e k=>by
 obtain⟨x,rfl,e⟩:=Wa e;obtain⟨v,o1,P,rfl,h1,h2⟩:=ra.one;exact h g H x v o1 P d Q zd h1 h2 e k
theorem iC:AJ K (one AN) o (fun xs H Q=>Su K xs H Q\/dh xs H Q):=EU fun g H x v o1 P d Q zd l1 h1 e k=>by
 unfold AN at e;split at e
 ·split at e
  ·rename_i l hl;cases e;rw[BH h1];refine .inl (Te (by rw[CU];exact hl) ?_);rw[CU];exact k _ _ (Af.int _)
  ·cases e
 ·cases e;obtain⟨a,us,rfl,ha,hx,ha'⟩:=FP l1 h1;refine .inl (bg ha' ?_);rw[<- hx.len];exact k _ _ (Af.int _)
 ·cases e;obtain⟨a,us,rfl,ha,hx,ha'⟩:=Fo l1 h1;refine .inl ⟨_,_,rfl,.inr ⟨us,ha,rfl⟩,?_⟩;rw[<- hx.len];exact k _ _ (Af.int _)
 ·cases e;obtain⟨a,rfl,ha⟩:=NL h1;refine .inl (Wz ha ?_);rw[D5];exact k _ _ (Af.int _)
 ·cases e;obtain⟨a,us,rfl,ha,hl,hx⟩:=YL h1;refine .inr ⟨a,_,rfl,ha,?_⟩;rename_i ks xs;have:(ks.zip us).length=ks.length:=by rw[Z8,hl,hx.len,tL]
  rw[this];exact k _ _ (Af.int _)
 ·cases e
def AA(x y:Dv):Option Dv:=match x,y with
 | .lst xs,.int i=>FQ xs i
 | .tup xs,.int i=>FQ xs i
 | .yO ns,.int i=>(FQ ns i).map .int
 | .str l,.int i=>if l.length<=1000000 then(FQ l i).map fun c=>.str [c] else none
 | .yR ks ds,k=>(DX k).bind fun k=>Du k ks ds
 | .zo ks ds,k=>(QF k).bind fun k=>Du k ks ds
 | _,_=>none
theorem iF:AJ K (two AA) 0 (LZ fun x y H Q=>gn K x y H Q\/rR x y H Q\/rN x y H Q):=JH fun g H x y v w o1 o2 P R d Q zd l1 h1 l2 h2 e k=>by
 unfold AA at e;split at e
 ·obtain⟨a,us,rfl,ha,hx,ha'⟩:=FP l1 h1;rw[AI h2];obtain⟨u,e2,h3⟩:=NO hx e;exact .inl (aQ ha' e2 (k _ _ (Af.old h3)))
 ·obtain⟨a,us,rfl,ha,hx,ha'⟩:=Fo l1 h1;rw[AI h2];obtain⟨u,e2,h3⟩:=NO hx e;exact .inl (.inr (.inl ⟨a,us,_,u,rfl,rfl,ha,e2,k _ _ (Af.old h3)⟩))
 ·rename_i ns i;obtain⟨a,rfl,ha⟩:=NL h1;rw[AI h2];cases q:FQ ns i with
  | none=>rw[q] at e;cases e
  | some j =>
   rw[q] at e;cases e;exact .inl (gg ha (by rw[cx,q];rfl) (k _ _ (Af.int _)))
 ·rename_i l i;split at e
  ·rename_i hl;rw[BH h1,AI h2];cases q:FQ l i with
   | none=>rw[q] at e;cases e
   | some c =>
    rw[q] at e;cases e;exact .inl (aP (by rw[CU];exact hl) (by rw[Qz];exact q) (k _ _ (Af.str [c])))
  ·cases e
 ·obtain⟨kk,ek,e⟩:=xI e;obtain⟨a,us,rfl,ha,hl,hx⟩:=YL h1;obtain⟨u,e2,h3⟩:=Jk hx e;rw[GL h2 ek];exact .inr (.inl ⟨a,u,rfl,e2▸GZ.k ha,k _ _ (Af.old h3)⟩)
 ·obtain⟨kk,ek,e⟩:=xI e;obtain⟨a,us,rfl,ha,hl,hx⟩:=oi h1;obtain⟨u,e2,h3⟩:=Jk hx e;obtain⟨b,rfl,hb⟩:=Ea h2 ek;exact .inr (.inr ⟨a,u,rfl,⟨kk,b,rfl,hb,.inl ⟨_,ha,e2.symm⟩⟩,k _ _ (Af.old h3)⟩)
 ·cases e
def FT(x:Dv)(lo hi:Option Int):Option Dv:=match x with
 | .str l=>if l.length<=1000000 then some (.str (QZ l lo hi)) else none
 | .lst xs=>some (.lst (BG xs lo hi))
 | .tup xs=>some (.tup (BG xs lo hi))
 | .yO ns=>some (.lst ((BG ns lo hi).map .int))
 | _=>none
theorem nL(lo hi:Option Int):AJ K (one fun d=>FT d lo hi) 1 (pT fun x H Q=>Sr K x lo hi H Q):=EU fun g H x v o1 P d Q zd l1 h1 e k=>by
 show Sr K v lo hi H Q;cases x with
 | str l =>
  simp only[FT.eq_def] at e;split at e
  ·rename_i hl;cases e;rw[BH h1];refine aC (by rw[CU];exact hl) ?_;rw[Uz];exact k _ _ (Af.str _)
  ·cases e
 | lst xs =>
  cases e;obtain⟨a,us,rfl,ha,hx,ha'⟩:=FP l1 h1;exact aD ha' fun p hp=>k _ _ (Af.lst zd (HD lo hi hx) hp)
 | tup xs =>
  cases e;obtain⟨a,us,rfl,ha,hx,ha'⟩:=Fo l1 h1;have al:=HD lo hi hx
  by_cases w:HT.xX us.length 0 lo=0/\HT.xX us.length us.length hi=us.length
  ·refine .inr ⟨a,us,rfl,ha,w,k _ _ (Af.old ?_)⟩;have ec:GT us lo hi=us:=by unfold GT;rw[w.1,w.2];simp
   rw[ec] at al;exact GE (B7 1) ha' al
  ·exact .inl (.inr (.inr ⟨a,us,rfl,ha,w,fun p hp=>k _ _ (Af.tup (B7 1) hp al)⟩))
 | yO ns =>
  cases e;obtain⟨a,rfl,ha⟩:=NL h1;refine gL ha fun p hp=>k _ _ (Af.lst zd ?_ hp)
  rw[bc];exact HD lo hi (Ci ns)
 | _=>cases e
end
mutual
noncomputable def toD:Dv->L3.D
 | .bl b=>.fl (.bl b)
 | .int i=>.fl (.int i)
 | .str l=>.fl (.str (tx l))
 | .tup xs=>.tup (Bl xs)
 | .lst xs=>.lst (Bl xs)
 | _=>.fl .xQ
noncomputable def Bl:List Dv->List L3.D
 | []=>[]
 | d::ds=>toD d::Bl ds
end
mutual
noncomputable def Dv.cmp:Dv->Bool
 | .xQ | .bl _ | .int _ | .str _=>true
 | .tup xs=>Ah xs
 | .lst xs=>Ah xs
 | _=>false
noncomputable def Ah:List Dv->Bool
 | []=>true
 | d::ds=>d.cmp && Ah ds
end
mutual
noncomputable def Dv.dep:Dv->Nat
 | .tup xs=>BD xs+1
 | .lst xs=>BD xs+1
 | _=>0
noncomputable def BD:List Dv->Nat
 | []=>0
 | d::ds=>max d.dep (BD ds)
end
mutual
noncomputable def yU:Dv->Dv->Bool
 | .xQ,.xQ=>true
 | .bl a,.bl b=>a == b
 | .bl a,.int b=>(if a then 1 else 0) == b
 | .int a,.bl b=>a == (if b then 1 else 0)
 | .int a,.int b=>a == b
 | .str a,.str b=>a == b
 | .tup xs,.tup ys=>zi xs ys
 | .lst xs,.lst ys=>zi xs ys
 | _,_=>false
noncomputable def zi:List Dv->List Dv->Bool
 | [],[]=>true
 | x::xs,y::ys=>yU x y && zi xs ys
 | _,_=>false
end
mutual
theorem OH:∀(d e:Dv),d.cmp=true->e.cmp=true->L3.xj (toD d) (toD e)=yU d e
 | .xQ,e,h,k | .bl _,e,h,k | .int _,e,h,k=>by cases e<;>first | (unfold toD L3.xj yU;rfl) | (unfold Dv.cmp at k;cases k)
 | .str l,e,h,k=>by
  cases e with
  | str m=>unfold toD L3.xj yU;rw[L2.zCH];exact(X9 l m).symm
  | _=>first | (unfold toD L3.xj yU;rfl) | (unfold Dv.cmp at k;cases k)
 | .tup xs,e,h,k=>by
  cases e with
  | tup ys=>unfold toD L3.xj yU;unfold Dv.cmp at h k;exact QV xs ys h k
  | _=>first | (unfold toD L3.xj yU;rfl) | (unfold Dv.cmp at k;cases k)
 | .lst xs,e,h,k=>by
  cases e with
  | lst ys=>unfold toD L3.xj yU;unfold Dv.cmp at h k;exact QV xs ys h k
  | _=>first | (unfold toD L3.xj yU;rfl) | (unfold Dv.cmp at k;cases k)
 | .yR _ _,e,h,k | .ref _,e,h,k | .yO _,e,h,k | .ty _,e,h,k | .mtp _,e,h,k | .dtt _ _,e,h,k | .zo _ _,e,h,k | .obj _ _ _ _,e,h,k=>by unfold Dv.cmp at h;cases h
theorem QV:∀(d e:List Dv),Ah d=true->Ah e=true->L3.yX (Bl d) (Bl e)=zi d e
 | [],[],_,_=>by unfold Bl L3.yX zi;rfl
 | [],_::_,_,_=>by simp only[Bl,L3.yX,zi]
 | _::_,[],_,_=>by simp only[Bl,L3.yX,zi]
 | x::xs,y::ys,h,k=>by
  unfold Ah at h k;rw[A2] at h k;simp only[Bl,L3.yX,zi];rw[OH x y h.1 k.1,QV xs ys h.2 k.2]
end
mutual
theorem fL:∀(d:Dv),(toD d).dep=d.dep
 | .xQ | .bl _ | .int _ | .str _ | .yR _ _ | .ref _ | .yO _ | .ty _ | .mtp _ | .dtt _ _ | .zo _ _ | .obj _ _ _ _=>by unfold toD L3.D.dep Dv.dep;rfl
 | .tup xs=>by unfold toD L3.D.dep Dv.dep;rw[HV xs]
 | .lst xs=>by unfold toD L3.D.dep Dv.dep;rw[HV xs]
theorem HV:∀(d:List Dv),L3.yQ (Bl d)=BD d
 | []=>by unfold Bl L3.yQ BD;rfl
 | x::xs=>by simp only[Bl,L3.yQ,BD];rw[fL x,HV xs]
end
section
variable {K:W.Frag} {g:G} {H:Hp}
mutual
theorem Rep.is:∀{o:Nat} {d:Dv} {v:V} {P:Fp},Rep K g H o d v P->d.cmp=true->L3.Is K H v (toD d)
 | _,.xQ,v,P,h,_=>by rw[GG h];unfold toD L3.Is;exact⟨rfl,rfl⟩
 | _,.bl b,v,P,h,_=>by rw[Bc h];unfold toD L3.Is;exact⟨rfl,rfl⟩
 | _,.int i,v,P,h,_=>by rw[AI h];unfold toD L3.Is;exact⟨rfl,rfl⟩
 | _,.str l,v,P,h,_=>by rw[BH h];unfold toD L3.Is;exact⟨rfl,rfl⟩
 | _,.tup xs,v,P,h,c=>by
  unfold Rep at h;obtain⟨a,vs,rfl,h1,h2⟩:=h;unfold Dv.cmp at c;unfold toD L3.Is;exact⟨a,vs,rfl,.inl (.inl h1),AC.isL h2 c⟩
 | _,.lst xs,v,P,h,c=>by
  unfold Rep at h;obtain⟨a,vs,P',rfl,h1,h2,_⟩:=h;unfold Dv.cmp at c;unfold toD L3.Is;exact⟨a,vs,rfl,.inl (.inl h1.1),AC.isL h2 c⟩
 | _,.yR _ _,v,P,h,c | _,.ref _,v,P,h,c | _,.yO _,v,P,h,c | _,.ty _,v,P,h,c | _,.mtp _,v,P,h,c | _,.dtt _ _,v,P,h,c | _,.zo _ _,v,P,h,c | _,.obj _ _ _ _,v,P,h,c=>by unfold Dv.cmp at c;cases c
theorem AC.isL:∀{o:Nat} {d:List Dv} {v:List V} {P:Fp},AC K g H o d v P->Ah d=true->L3.IsL K H v (Bl d)
 | _,[],v,P,h,_=>by
  unfold AC at h;obtain⟨rfl,_⟩:=h;unfold Bl L3.IsL
  trivial
 | _,x::xs,v,P,h,c=>by
  unfold AC at h;obtain⟨u,r,P1,P2,rfl,h1,h2,_⟩:=h;unfold Ah at c;rw[A2] at c;unfold Bl L3.IsL;exact⟨Rep.is h1 c.1,AC.isL h2 c.2⟩
end
def Mm(neg:Bool)(x y:Dv):Option Bool:=if(x.cmp && y.cmp && decide (x.dep<=150))=true then some (if neg then !yU x y else yU x y) else none
abbrev De:=Mm false
abbrev Jw:=Mm true
theorem WJ{neg:Bool}:AJ K (fun ds=>(two (Mm neg) ds).map .bl) 0 (LZ (L3.zCb K neg)):=IB fun g H x y v w o1 o2 P R b Q zd _ h1 _ h2 e k=>by
 unfold Mm at e;split at e
 ·rename_i c;cases e;rw[A2,A2,decide_eq_true_eq] at c;refine⟨toD x,toD y,by rw[fL];exact c.2,h1.is c.1.1,h2.is c.1.2,?_⟩;rw[OH x y c.1.1 c.1.2];exact k
 ·cases e
noncomputable def lV:Dv->Option (List Dv)
 | .lst xs=>some xs
 | .tup xs=>some xs
 | .mtp ls=>some (ls.map .str)
 | _=>none
def zM(e:Dv)(ds:List Dv):Bool:=ds.any fun d=>yU d e
def Hb(neg:Bool)(e s:Dv):Option Bool:=match e,s with
 | .str x,.str l=>some (if neg then !Q.zCA x l else Q.zCA x l)
 | e,.yR ks ds=>((DX e).bind fun k=>some (if neg then !(Du k ks ds).isSome else(Du k ks ds).isSome)).or (if ks.isEmpty=true then(QF e).bind fun _=>some neg else none)
 | e,.zo ks ds=>(QF e).bind fun k=>some (if neg then !(Du k ks ds).isSome else(Du k ks ds).isSome)
 | e,s=>match lV s with
  | some xs=>if(e.cmp && Ah xs && decide (BD xs<=150))=true then some (if neg then !zM e xs else zM e xs) else none
  | none=>none
abbrev pj:=Hb false
abbrev DN:=Hb true
theorem pP(e:Dv)(he:e.cmp=true):∀(ds:List Dv),Ah ds=true->((Bl ds).any fun d=>L3.xj d (toD e))=zM e ds
 | [],_=>by unfold Bl zM;rfl
 | d::ds,h=>by
  unfold Ah at h;rw[A2] at h;unfold zM;simp only[Bl,Q5];rw[OH d e h.1 he,pP e he ds h.2];rfl
theorem PY(ls:List (List Nat)):AC K g H 0 (ls.map .str) (ls.map fun l=>V.str (tx l)) xM:=Cj.mpr ⟨by simp,fun i d v e1 e2=>by
 rw[C9] at e1 e2;cases q:ls[i]? with
 | none=>rw[q] at e1;cases e1
 | some k=>rw[q] at e1 e2;cases e1;cases e2;unfold Rep;exact⟨rfl,fun _ z=>z⟩⟩
theorem WI{neg:Bool}:AJ K (fun ds=>(two (Hb neg) ds).map .bl) 0 (LZ fun x y H q=>Q.zCa K neg x y H q\/gq neg x y H q\/gk neg x y H q):=IB fun g H x y v w o1 o2 P R b Q zd l1 h1 l2 h2 e k=>by
  unfold Hb at e;split at e
  · cases e;rw[BH h1,BH h2];exact .inl (.inl ⟨_,_,rfl,rfl,k⟩)
  · rename_i ks ds;rcases X7.mp e with e | ⟨_,e⟩
    · obtain⟨kk,ek,e⟩:=xI e;cases e;obtain⟨a,us,rfl,ha,hl,hx⟩:=YL h2;rw[GL h1 ek];refine .inr (.inl ⟨a,_,rfl,.inl (GZ.k ha),?_⟩);rw[HW hl hx.len];exact k
    · split at e
      · rename_i hk;obtain⟨kk,ek,e⟩:=xI e;cases e;obtain rfl:ks=[]:=by cases ks with | nil=>rfl | cons _ _=>cases hk
        obtain⟨a,us,rfl,ha,hl,hx⟩:=YL h2;obtain⟨b,rfl,hb⟩:=Ea h1 ek;refine .inr (.inr ⟨a,none,rfl,⟨kk,b,rfl,hb,.inr ⟨ha,rfl⟩⟩,?_⟩);cases neg<;>exact k
      · cases e
  · obtain⟨kk,ek,e⟩:=xI e;cases e;obtain⟨a,us,rfl,ha,hl,hx⟩:=oi h2;obtain⟨b,rfl,hb⟩:=Ea h1 ek;refine .inr (.inr ⟨a,_,rfl,⟨kk,b,rfl,hb,.inl ⟨_,ha,rfl⟩⟩,?_⟩);rw[HW hl hx.len];exact k
  · rename_i a s _;split at e
    · rename_i xs es;split at e
      · rename_i c;cases e;rw[A2,A2,decide_eq_true_eq] at c;have go:∀p ys,w=.ref p->(DO K H p ys\/FL K H p ys)->AC K g H 0 xs ys xM->L3.zCC K neg v w H Q:=by
          rintro p ys rfl hs hr;refine⟨p,ys,Bl xs,toD x,rfl,hs,hr.isL c.1.2,h1.is c.1.1,by rw[HV];exact c.2,?_⟩;rw[pP x c.1.1 xs c.1.2];exact k
        cases y with
        | lst ys =>
          cases es;obtain⟨p,us,rfl,ha,hx,_⟩:=FP l2 h2;exact .inl (.inr (go p us rfl (.inl ha) hx))
        | tup ys =>
          cases es;obtain⟨p,us,rfl,ha,hx,_⟩:=Fo l2 h2;exact .inl (.inr (go p us rfl (.inr ha) hx))
        | mtp ls =>
          cases es;unfold Rep at h2;obtain⟨⟨p,rfl,hm⟩,_⟩:=h2;exact .inl (.inr (go p _ rfl (.inr (.inr hm)) (PY ls)))
        | _=>cases es
      · cases e
    · cases e
noncomputable def Dv.zCP:Dv->Bool
 | .xQ=>true
 | _=>false
noncomputable def Uj(x y:Dv):Option Bool:=match y with | .xQ=>some x.zCP | _=>none
theorem Sq{o:Nat}{d:Dv}{v:V}{P:Fp}(h:Rep K g H o d v P):decide (v=V.xQ)=d.zCP:=by
 cases d with
 | xQ=>rw[GG h];rfl
 | bl b=>rw[Bc h];rfl
 | int b=>rw[AI h];rfl
 | str b=>rw[BH h];rfl
 | tup b=>unfold Rep at h;obtain⟨a,vs,rfl,_⟩:=h;rfl
 | lst b=>unfold Rep at h;obtain⟨a,vs,P',rfl,_⟩:=h;rfl
 | yR b c=>unfold Rep at h;obtain⟨a,vs,rfl,_⟩:=h;rfl
 | ref k=>unfold Rep at h;obtain⟨⟨a,_,rfl⟩,_⟩:=h;rfl
 | yO ns=>obtain⟨a,rfl,_⟩:=NL h;rfl
 | ty n=>unfold Rep at h;rw[h.1];rfl
 | mtp n=>unfold Rep at h;obtain⟨⟨a,rfl,_⟩,_⟩:=h;rfl
 | dtt b c=>unfold Rep at h;obtain⟨a,vs,rfl,_⟩:=h;rfl
 | zo b c=>unfold Rep at h;obtain⟨a,vs,rfl,_⟩:=h;rfl
 | obj b c d e=>unfold Rep at h;obtain⟨a,dx,vs,P',rfl,_⟩:=h;rfl
theorem iE:AJ K (fun ds=>(two Uj ds).map .bl) 0 (LZ (fun x y H Q=>y=.xQ/\Q (.bl (decide (x=.xQ))) H)):=IB fun g H x y v w o1 o2 P R b Q zd _ h1 _ h2 e k=>by
 unfold Uj at e;split at e
 ·cases e;exact⟨GG h2,by rw[Sq h1];exact k⟩
 ·cases e
end
noncomputable def SX:List Dv->Option (List Bool)
 | []=>some []
 | .bl b::ds=>(SX ds).map (b::·)
 | _=>none
noncomputable def Dy:List Dv->Option (List Int)
 | []=>some []
 | .int b::ds=>(Dy ds).map (b::·)
 | _=>none
noncomputable def KW:List Dv->Option (List (List Nat))
 | []=>some []
 | .str b::ds=>(KW ds).map (b::·)
 | _=>none
section
variable {K:W.Frag} {g:G} {H:Hp}
theorem Mz:∀{ds:List Dv} {bs:List Bool} {vs:List V},AC K g H 0 ds vs xM->SX ds=some bs->vs=bs.map V.bl
 | [],bs,vs,h,e=>by cases e;exact Ay h
 | d::ds,bs,vs,h,e=>by
  obtain⟨v,r,rfl,h1,h2⟩:=Az h;cases d<;>simp only[SX,E6,reduceCtorEq] at e;obtain⟨bs',e,rfl⟩:=e;rw[Bc h1,Mz h2 e];rfl
theorem KY:∀{ds:List Dv} {bs:List Int} {vs:List V},AC K g H 0 ds vs xM->Dy ds=some bs->vs=bs.map V.int
 | [],bs,vs,h,e=>by cases e;exact Ay h
 | d::ds,bs,vs,h,e=>by
  obtain⟨v,r,rfl,h1,h2⟩:=Az h;cases d<;>simp only[Dy,E6,reduceCtorEq] at e;obtain⟨bs',e,rfl⟩:=e;rw[AI h1,KY h2 e];rfl
theorem KS:∀{ds:List Dv} {bs:List (List Nat)} {vs:List V},AC K g H 0 ds vs xM->KW ds=some bs->vs=(bs.map tx).map V.str
 | [],bs,vs,h,e=>by cases e;exact Ay h
 | d::ds,bs,vs,h,e=>by
  obtain⟨v,r,rfl,h1,h2⟩:=Az h;cases d<;>simp only[KW,E6,reduceCtorEq] at e;obtain⟨bs',e,rfl⟩:=e;rw[BH h1,KS h2 e];rfl
def Za(x:Dv):Option Dv:=match x with | .lst xs=>(SX xs).map fun bs=>.bl (bs.all id) | _=>none
theorem iG{o:Nat}:AJ K (one Za) o (nC K):=EU fun g H x v o1 P d Q zd l1 h1 e k=>by
 unfold Za at e;split at e
 ·simp only[E6] at e;obtain⟨bs,e,rfl⟩:=e;obtain⟨p,us,rfl,ha,hx,_⟩:=FP l1 h1;rw[Mz hx e] at ha;exact⟨p,bs,rfl,ha,k _ _ (Af.bl _)⟩
 ·cases e
def sS(x:Dv):Option Dv:=match x with
 | .lst xs=>(Dy xs).map fun ns=>.int ns.sum
 | .tup xs=>(Dy xs).map fun ns=>.int ns.sum
 | _=>none
def rq(x y:Dv):Option Dv:=match x with
 | .lst xs=>match y with
  | .int d=>match Dy xs with | some []=>some (.int d) | some (n::ns)=>some (.int (Q.mxI (n::ns))) | none=>none
  | _=>none
 | _=>none
noncomputable def Dc(x y:Dv):Option Dv:=match x,y with | .int i,.int j=>some (.int (if j > i then j else i)) | _,_=>none
noncomputable def LX(x y:Dv):Option Dv:=match x,y with | .int i,.int j=>some (.int (if j < i then j else i)) | _,_=>none
theorem FD{f:Dv->Dv->Option Dv}{o:Nat}{r:Qo}(h:∀g H x y v w o1 o2 P R d Q,Zd g H->o1<=1->Rep K g H o1 x v P->o2<=1->Rep K g H o2 y w R->f x y=some d->(∀v H',Af K g H o d v H'->Q v H')->r [v,w] H Q):AJ K (two f) o r:=fun g H ds vs d Q zd ra e k=>by
 obtain⟨x,y,rfl,e⟩:=Fm e;obtain⟨v,o1,P,w,o2,R,rfl,h1,h2,h3,h4⟩:=ra.two;exact h g H x y v w o1 o2 P R d Q zd h1 h2 h3 h4 e k
theorem ai{o:Nat}:AJ K (two Dc) o (fun xs H Q=>∃i j,xs=[.int i,.int j]/\Q (.int (if j > i then j else i)) H):=FD fun g H x y v w o1 o2 P R d Q zd _ h1 _ h2 e k=>by
 unfold Dc at e;split at e
 ·cases e;rw[AI h1,AI h2];exact⟨_,_,rfl,k _ _ (Af.int _)⟩
 ·cases e
theorem ah{o:Nat}:AJ K (two LX) o (fun xs H Q=>∃i j,xs=[.int i,.int j]/\Q (.int (if j < i then j else i)) H):=FD fun g H x y v w o1 o2 P R d Q zd _ h1 _ h2 e k=>by
 unfold LX at e;split at e
 ·cases e;rw[AI h1,AI h2];exact⟨_,_,rfl,k _ _ (Af.int _)⟩
 ·cases e
noncomputable def Hn(x:Dv):Option Dv:=match x with
 | .int i=>some (.int i)
 | .bl b=>some (.int (if b then 1 else 0))
 | _=>none
theorem aq{o:Nat}:AJ K (one Hn) o (fun xs H Q=>(∃i,xs=[.int i]/\Q (.int i) H)\/∃k,xs=[.bl k]/\Q (.int (if k then 1 else 0)) H):=EU fun g H x v o1 P d Q zd l1 h1 e k=>by
 unfold Hn at e;split at e
 ·cases e;rw[AI h1];exact .inl ⟨_,rfl,k _ _ (Af.int _)⟩
 ·cases e;rw[Bc h1];exact .inr ⟨_,rfl,k _ _ (Af.int _)⟩
 ·cases e
noncomputable def Av(x:Dv):Option Dv:=match x with | .lst xs=>some (.tup xs) | .tup xs=>some (.tup xs) | _=>none
theorem WD:AJ K (one Av) 1 (NS K):=EU fun g H x v o1 P d Q zd l1 h1 e k=>by
 unfold Av at e;split at e
 ·cases e;obtain⟨p,us,rfl,ha,hx,_⟩:=FP l1 h1;exact⟨p,us,rfl,.inl ⟨ha,fun l hl=>k _ _ (Af.tup (B7 1) hl hx)⟩⟩
 ·cases e;obtain⟨p,us,rfl,ha,hx,ha'⟩:=Fo l1 h1;exact⟨p,us,rfl,.inr ⟨ha,k _ _ (Af.old (GE (B7 1) ha' hx))⟩⟩
 ·cases e
noncomputable def Jt(x:Dv):Option Dv:=match x with | .lst xs=>some (.lst xs) | .tup xs=>some (.lst xs) | .yO ns=>some (.lst (ns.map .int)) | _=>none
theorem aj:AJ K (one Jt) 1 (RN K):=EU fun g H x v o1 P d Q zd l1 h1 e k=>by
 unfold Jt at e;split at e
 ·cases e;obtain⟨p,us,rfl,ha,hx,_⟩:=FP l1 h1;exact⟨p,us,rfl,.inl ha,fun l hl=>k _ _ (Af.lst zd hx hl)⟩
 ·cases e;obtain⟨p,us,rfl,ha,hx,_⟩:=Fo l1 h1;exact⟨p,us,rfl,.inr ha,fun l hl=>k _ _ (Af.lst zd hx hl)⟩
 ·cases e;obtain⟨p,rfl,ha⟩:=NL h1;exact⟨p,_,rfl,.inl ha,fun l hl=>k _ _ (Af.lst zd (Ci _) hl)⟩
 ·cases e
def Ju(x y:Dv):Option Dv:=match x,y with
 | .str sep,.lst xs=>match KW xs with
  | some ys=>if(ys.map U2).sum+ys.length * sep.length<=1000000 then some (.str (jn sep ys)) else none
  | none=>none
 | _,_=>none
theorem ak{o:Nat}:AJ K (two Ju) o (lT (Vt K)):=FD fun g H x y v w o1 o2 P R d Q zd l1 h1 l2 h2 e k=>by
 unfold Ju at e;split at e
 ·split at e
  ·rename_i sep xs _ ys e1;split at e
   ·rename_i hz;cases e;obtain⟨a,us,rfl,ha,hx,_⟩:=FP l2 h2;rw[BH h1];rw[KS hx e1] at ha;refine⟨tx sep,a,ys.map tx,rfl,rfl,ha,?_,?_⟩
    ·rw[fo,D5,CU];exact A4 hz (by decide)
    ·rw[lq];exact k _ _ (Af.str _)
   ·cases e
  ·cases e
 ·cases e
noncomputable def Hc(x:Dv):Option Dv:=match x with
 | .str l=>if(l.all (fun c=>decide (c < 128)) && decide (l.length<=1000000))=true then some (.str (l.map Y5)) else none
 | _=>none
theorem WC{o:Nat}:AJ K (one Hc) o (lT Vp):=EU fun g H x v o1 P d Q zd l1 h1 e k=>by
 unfold Hc at e;split at e
 ·split at e
  ·rename_i l c;cases e;rw[A2,decide_eq_true_eq,F0] at c;rw[BH h1];exact⟨l,rfl,rfl,fun x hx=>of_decide_eq_true (c.1 x hx),c.2,k _ _ (Af.str _)⟩
  ·cases e
 ·cases e
def zAT(e:Dv):List Dv->Option Nat
 | []=>none
 | d::ds=>if yU d e=true then some 0 else(zAT e ds).map (·+1)
theorem LA(e:Dv):∀(ds:List Dv) (j:Nat),zAT e ds=some j->(∃d,ds[j]?=some d/\yU d e=true)/\∀(i:Nat) (d:Dv),i < j->ds[i]?=some d->yU d e=false
 | [],j,h=>by cases h
 | d::ds,j,h=>by
  unfold zAT at h;split at h
  ·rename_i c;cases h;exact⟨⟨d,rfl,c⟩,fun i d hi=>by omega⟩
  ·rename_i c;simp only[E6] at h;obtain⟨k,hk,rfl⟩:=h;obtain⟨h1,h2⟩:=LA e ds k hk;refine⟨by simpa using h1,fun i d' hi hd=>?_⟩;cases i with
   | zero=>simp at hd;subst hd;simpa using c
   | succ i=>exact h2 i d' (by omega) (by simpa using hd)
theorem IW:∀(ds:List Dv) (i:Nat),(Bl ds)[i]?=(ds[i]?).map toD
 | [],i=>by unfold Bl;simp
 | d::ds,0=>by unfold Bl;simp
 | d::ds,i+1=>by
  have:=IW ds i;simp only[Bl,W5];exact this
theorem KZ{ds:List Dv}(h:Ah ds=true):∀{i:Nat} {d:Dv},ds[i]?=some d->d.cmp=true:=by
 induction ds with
 | nil=>intro i d e;simp at e
 | cons x xs ih =>
  unfold Ah at h;rw[A2] at h;intro i d e;cases i with
  | zero=>simp at e;subst e;exact h.1
  | succ i=>exact ih h.2 (i:=i) (by simpa using e)
theorem XO{e:Dv}{ds:List Dv}{j:Nat}(he:e.cmp=true)(hd:Ah ds=true)(h:zAT e ds=some j) :
    (∃d,(Bl ds)[j]?=some d/\L3.xj d (toD e)=true)/\∀(m:Nat) (d:L3.D),m < j->(Bl ds)[m]?=some d->L3.xj d (toD e)=false:=by
  obtain⟨⟨d,h1,h2⟩,h3⟩:=LA e ds j h;refine⟨⟨toD d,by rw[IW,h1];rfl,by rw[OH d e (KZ hd h1) he];exact h2⟩,fun m d' hm hd'=>?_⟩;rw[IW] at hd';cases q:ds[m]? with
  | none=>rw[q] at hd';cases hd'
  | some dm =>
    rw[q] at hd';cases hd';rw[OH dm e (KZ hd q) he];exact h3 m dm hm q
def Hf(x e:Dv):Option Dv:=match x with
 | .lst xs=>if(e.cmp && Ah xs && decide (BD xs<=150))=true then(zAT e xs).map fun j=>.int (j:Nat) else none
 | _=>none
theorem WH{o:Nat}:AJ K (two Hf) o (lT (Q.zAy K)):=FD fun g H x y v w o1 o2 P R d Q zd l1 h1 l2 h2 e k=>by
 unfold Hf at e;split at e
 ·split at e
  ·rename_i xs c;rw[A2,A2,decide_eq_true_eq] at c;simp only[E6] at e;obtain⟨j,e1,rfl⟩:=e;obtain⟨p,us,rfl,ha,hx,_⟩:=FP l1 h1;obtain⟨q1,q2⟩:=XO c.1.1 c.1.2 e1;exact⟨p,us,w,Bl xs,toD y,j,rfl,rfl,ha,hx.isL c.1.2,h2.is c.1.1,by rw[HV];exact c.2,q1,q2,k _ _ (Af.int _)⟩
  ·cases e
 ·cases e
def IQ(x e:Dv):Option Dv:=match x with
 | .tup xs=>if(e.cmp && Ah xs && decide (BD xs<=150))=true then(zAT e xs).map fun j=>.int (j:Nat) else none
 | _=>none
theorem Sv{o:Nat}:AJ K (two IQ) o (lT (Q.zAR K)):=FD fun g H x y v w o1 o2 P R d Q zd l1 h1 l2 h2 e k=>by
 unfold IQ at e;split at e
 ·split at e
  ·rename_i xs c;rw[A2,A2,decide_eq_true_eq] at c;simp only[E6] at e;obtain⟨j,e1,rfl⟩:=e;obtain⟨p,us,rfl,_,hx,ha⟩:=Fo l1 h1;obtain⟨q1,q2⟩:=XO c.1.1 c.1.2 e1;exact⟨p,us,w,Bl xs,toD y,j,rfl,rfl,ha,hx.isL c.1.2,h2.is c.1.1,by rw[HV];exact c.2,q1,q2,k _ _ (Af.int _)⟩
  ·cases e
 ·cases e
noncomputable def eT:Dv->Option String
 | .xQ=>some "NoneType"
 | .bl _=>some "bool"
 | .int _=>some "int"
 | .str _=>some "str"
 | .tup _=>some "tuple"
 | .lst _=>some "list"
 | _=>none
noncomputable def nc(T:String):Bool:=["int", "bool", "str", "tuple", "list"].contains T
def ZY(x y:Dv):Option Dv:=match y with
 | .ty T=>if nc T=true then(eT x).map fun k=>.bl (Q.zCO k T) else none
 | _=>none
theorem bh{o:Nat}{x:Dv}{v:V}{P:Fp}{kd:String}(l1:o<=1)(h1:Rep K g H o x v P)(e:eT x=some kd):yi K H v (.type kd)/\kd∈["NoneType", "bool", "int", "str", "tuple", "list"]:=by
 cases x with
 | xQ=>cases e;rw[GG h1];exact⟨.xQ,by simp⟩
 | bl b=>cases e;rw[Bc h1];exact⟨.bl _,by simp⟩
 | int b=>cases e;rw[AI h1];exact⟨.int _,by simp⟩
 | str b=>cases e;rw[BH h1];exact⟨.str _,by simp⟩
 | tup b=>cases e;obtain⟨p,us,rfl,_,_,ha⟩:=Fo l1 h1;exact⟨.tup ha,by simp⟩
 | lst b=>cases e;obtain⟨p,us,rfl,_,_,ha⟩:=FP l1 h1;exact⟨.lst ha,by simp⟩
 | _=>cases e
theorem iD{o:Nat}:AJ K (two ZY) o (nA K):=FD fun g H x y v w o1 o2 P R d Q zd l1 h1 l2 h2 e k=>by
 unfold ZY at e;split at e
 ·rename_i T;split at e
  ·rename_i c
   have hT:T∈["int", "bool", "str", "tuple", "list"]:=by unfold nc at c;simpa using c
   have hw:w=.ty T:=by unfold Rep at h2;exact h2.1
   subst hw;rw[E6] at e;obtain⟨kd,e1,rfl⟩:=e;obtain⟨ty,hk⟩:=bh l1 h1 e1;exact⟨v,T,.type kd,_,rfl,ty,_root_.Q.zCk K hk hT,k _ _ (Af.bl _)⟩
  ·cases e
 ·cases e
def sP(f:List Int->List Int->Bool)(xs:List Dv)(y:Dv):Option Bool:=match y with
 | .tup ys=>(Dy xs).bind fun a=>(Dy ys).map fun b=>f a b
 | _=>none
abbrev Ml:=EA fun i j=>decide (i < j)
abbrev fX:=EA fun i j=>decide (i<=j)
end
end R
namespace L2
open PySem PySem.Spec PyProof.Rows
end L2
namespace L3
open PySem PySem.Spec PyProof.Rows L2
end L3
namespace KO
open PySem PySem.W PyProof.Rows
end KO
namespace L2
open PySem PySem.Spec PyProof.Rows
end L2
namespace R
open PySem L2
noncomputable def Vj:Dv->Option (List Dv)
 | .tup ds=>some ds
 | .lst ds=>some ds
 | .yO ns=>some (ns.map .int)
 | _=>none
section
variable {K:W.Frag} {g:G} {H:Hp}
abbrev qt(K:W.Frag)(g:G)(H:Hp)(a:B5)(b:Bool)(ds:List Dv):Prop:=∀g2 H2,Jv g H g2 H2->∃vs,Oy K H2 a vs b/\AC K g2 H2 0 ds vs xM
theorem NJ{d:Dv}{ds:List Dv}{v:V}(h:Rep K g H 0 d v xM)(e:Vj d=some ds):∃a b,v=.ref a/\qt K g H a b ds:=by
 have z1:(0:Nat)<=1:=by decide
 cases d with
 | tup es =>
  cases e;obtain⟨a,vs,rfl,_⟩:=Fo z1 h;refine⟨a,true,rfl,fun g2 H2 st=>?_⟩;obtain⟨a',us,q,k1,k2,_⟩:=Fo z1 (st.rep h);cases q;exact⟨us,k1,k2⟩
 | lst es =>
  cases e;obtain⟨a,vs,rfl,_⟩:=FP z1 h;refine⟨a,false,rfl,fun g2 H2 st=>?_⟩;obtain⟨a',us,q,k1,k2,_⟩:=FP z1 (st.rep h);cases q;exact⟨us,k1,k2⟩
 | yO ns =>
  cases e;obtain⟨a,rfl,_⟩:=NL h;refine⟨a,false,rfl,fun g2 H2 st=>?_⟩;obtain⟨a',q,k1⟩:=NL (st.rep h);cases q;exact⟨_,k1,Ci ns⟩
 | _=>cases e
theorem RH:Jv g H g H:=by
 first | exact⟨xM,xM,Step.refl,fun _ z=>z.elim⟩ | exact⟨xM,xM,Step.refl,xS.xM⟩ | exact Jv.refl
noncomputable def Bw:List Dv->List Dv->List Dv
 | x1::yJ,x2::yS=>.tup [x1,x2]::Bw yJ yS
 | _,_=>[]
theorem KM:∀(yJ yS:List Dv) (i:Nat) (e:Dv),(Bw yJ yS)[i]?=some e->∃x1 x2,yJ[i]?=some x1/\yS[i]?=some x2/\e=.tup [x1,x2]
 | x1::yJ,x2::yS,0,e,h=>by simp[Bw] at h;exact⟨x1,x2,rfl,rfl,h.symm⟩
 | x1::yJ,x2::yS,i+1,e,h=>by
  obtain⟨y1,y2,h1,h2,q⟩:=KM yJ yS i e (by simpa[Bw] using h);exact⟨y1,y2,by simpa using h1,by simpa using h2,q⟩
 | [],_,i,e,h=>by simp[Bw] at h
 | x1::yJ,[],i,e,h=>by simp[Bw] at h
theorem KQ:∀(yJ yS:List Dv) (i:Nat),(Bw yJ yS).length<=i->yJ.length<=i\/yS.length<=i
 | x1::yJ,x2::yS,0,h=>by simp[Bw] at h
 | x1::yJ,x2::yS,i+1,h=>by
  have:=KQ yJ yS i (by simpa[Bw] using h);simp only[C6];omega
 | [],_,i,h=>by simp
 | x1::yJ,[],i,h=>by simp
def RL(ds:List Dv):Option (List Dv):=two (fun x y=>(Vj x).bind fun xs=>(Vj y).bind fun ys=>some (Bw xs ys)) ds
def mh(K:W.Frag):List V->Hp->(It->Hp->Prop)->Prop:=fun vs H1 R=>∃a1 a2 b1 b2,vs=[.ref a1,.ref a2]/\(∃xs,Oy K H1 a1 xs b1)/\(∃xs,Oy K H1 a2 xs b2)/\R (Zh K a1 a2 b1 b2) H1
theorem Zo{a1 a2:B5}{b1 b2:Bool}{ds1 ds2:List Dv}(h1:qt K g H a1 b1 ds1)(h2:qt K g H a2 b2 ds2):Yl K (Zh K a1 a2 b1 b2) (Bw ds1 ds2) g H:=by
 intro g2 H2 st;obtain⟨vs1,sq1,r1⟩:=h1 g2 H2 st;obtain⟨vs2,sq2,r2⟩:=h2 g2 H2 st;refine⟨fun i d e=>?_,fun i hi=>⟨vs1,vs2,sq1,sq2,by have:=KQ _ _ _ hi;rw[<- r1.len,<- r2.len];exact this⟩⟩;obtain⟨x1,x2,e1,e2,rfl⟩:=KM _ _ i d e;obtain⟨u1,_,eu1,ru1,_⟩:=r1.get e1;obtain⟨u2,_,eu2,ru2,_⟩:=r2.get e2;refine⟨⟨vs1,vs2,u1,u2,sq1,eu1,sq2,eu2⟩,fun x H3 y=>?_⟩;obtain⟨p,w1,w2,hp,rfl,rfl,y1,y2⟩:=y;have:=y1 vs1 sq1;rw[eu1] at this;cases this;have:=y2 vs2 sq2;rw[eu2] at this;cases this;exact Af.tup (by decide) hp (CP (HC ru1.z) (HC ru2.z))
theorem VW:Zc K RL (mh K):=fun g H ds vs xJ Q zd ra e q=>by
 obtain⟨x,y,rfl,e⟩:=Fm e;obtain⟨xs,e1,e⟩:=xI e;obtain⟨ys,e2,e⟩:=xI e;cases e;obtain⟨v,us,rfl,h1,h2⟩:=Az ra;obtain⟨w,us,rfl,h4,h3⟩:=Az h2;cases Ay h3;obtain⟨a,b,rfl,q1⟩:=NJ h1 e1;obtain⟨a2,b2,rfl,q2⟩:=NJ h4 e2;obtain⟨w1,s1,_⟩:=q1 g H RH;obtain⟨w2,s2,_⟩:=q2 g H RH;exact⟨a,a2,b,b2,rfl,⟨w1,s1⟩,⟨w2,s2⟩,q _ H (fun _ _ z=>z) (Zo q1 q2)⟩
end
section
variable {K:W.Frag} {g:G} {H:Hp}
def Bg(ds:List Dv):Option Dv:=match ds with
 | [.int j]=>if small j=true/\j<=1000000 then some (.lst ((B1 j.toNat).map fun k=>.int (k:Nat))) else none
 | [.int i,.int j]=>if(small i && small j)=true/\j - i<=1000000 then some (.lst ((B1 (j - i).toNat).map fun k=>.int (i+(k:Nat)))) else none
 | _=>none
theorem Pd:AJ K Bg 1 rO:=fun g H ds vs d Q zd ra e k=>by
 have fin:∀(i j:Int),(∀v H',Af K g H 1 (.lst ((B1 (j - i).toNat).map fun k=>.int (i+(k:Nat)))) v H'->Q v H')->∀l,H l=none->Q (.ref l) (upd H l (.lst ((B1 (j - i).toNat).map fun k=>.int (i+(k:Nat))))):=fun i j kk l hl=>by
  have:=Ci (K:=K) (g:=g) (H:=H) ((B1 (j - i).toNat).map fun k:Nat=>i+(k:Int));simp only[X2] at this;exact kk _ _ (Af.lst zd this hl)
 unfold Bg at e;split at e
 ·rename_i j;split at e
  ·rename_i c;cases e;obtain⟨v,o,P,rfl,_,h1⟩:=ra.one;rw[AI h1];have b:=CV c.1;refine⟨0,j,.inl ⟨rfl,rfl⟩,by omega,by omega,fin 0 j fun v H' n=>k v H' ?_⟩;simpa using n
  ·cases e
 ·rename_i i j;split at e
  ·rename_i c;cases e;obtain⟨v,o,P,w,u,R,rfl,_,h1,_,h2⟩:=ra.two;rw[AI h1,AI h2];rw[A2] at c;have b:=CV c.1.1;have b':=CV c.1.2;exact⟨i,j,.inr rfl,by omega,by omega,fin i j k⟩
  ·cases e
 ·cases e
def He(x:Dv)(ds:List Dv):Option (Dv×Dv):=match x,ds with
 | .lst xs,[.int i]=>if small i=true then(sj i xs.length).bind fun k=>(xs[k]?).map fun d=>(d,.lst (xs.eraseIdx k)) else none
 | _,_=>none
theorem Wl:Qp K He Vs:=fun g H x v P ds us r y Q zd rx rd e k=>by
 unfold He at e;split at e
 ·rename_i xs i;split at e
  ·rename_i c;obtain⟨n,en,e⟩:=xI e;simp only[E6,Prod.mk.injEq] at e;obtain⟨d,ed,rfl,rfl⟩:=e;obtain⟨a,vs,rfl,ha,hz,hx,hP,go⟩:=FE rx;obtain⟨u,yK,rfl,hu,h2⟩:=Az rd;cases Ay h2;obtain⟨s,hd,mk⟩:=go (vs.eraseIdx n);have h0:=Cj.mp hx;obtain⟨w,P1,e2,r2,_⟩:=hx.get ed;have b:=CV c;rw[AI hu];refine⟨a,vs,i,n,w,rfl,rfl,ha,by omega,by omega,by rw[<- h0.1];exact en,e2,k _ _ P s (mk _ ?_) (hd r2.z)⟩;refine Cj.mpr ⟨by simp[uK,h0.1],fun j d v e3 e4=>?_⟩;rw[List.getElem?_eraseIdx] at e3 e4;split at e3
   ·rename_i z;rw[if_pos z] at e4;exact h0.2 j d v e3 e4
   ·rename_i z;rw[if_neg z] at e4;exact h0.2 (j+1) d v e3 e4
  ·cases e
 ·cases e
end
noncomputable def Om(x y:Dv):Option Dv:=match x,y with
 | .lst xs,.int i=>if i = -1 then some (.lst xs.reverse) else none
 | .tup xs,.int i=>if i = -1 then some (.tup xs.reverse) else none
 | _,_=>none
theorem af{K:W.Frag}:AJ K (two Om) 1 (LZ (rK K)):=JH fun g H x y v w o1 o2 P R d Q zd l1 h1 l2 h2 e k=>by
 unfold Om at e;split at e
 ·split at e
  ·rename_i hi;subst hi;cases e;obtain⟨a,us,rfl,ha,hx,_⟩:=FP l1 h1;exact⟨a,us,false,rfl,AI h2,ha,fun l hl=>k _ _ (Af.lst zd (Km hx) hl)⟩
  ·cases e
 ·split at e
  ·rename_i hi;subst hi;cases e;obtain⟨a,us,rfl,ha,hx,_⟩:=Fo l1 h1;exact⟨a,us,true,rfl,AI h2,ha,fun l hl=>k _ _ (Af.tup (B7 1) hl (Km hx))⟩
  ·cases e
 ·cases e
noncomputable def Qm:Dv->Option Bool
 | .xQ=>some false
 | .bl b=>some b
 | .int i=>some (i != 0)
 | .str l=>if l.length<=1000000 then some (!l.isEmpty) else none
 | .lst xs=>some (!xs.isEmpty)
 | .tup xs=>some (!xs.isEmpty)
 | .yO xs=>some (!xs.isEmpty)
 | .yR ks _=>some (!ks.isEmpty)
 | _=>none
theorem RM{K:W.Frag}{g:G}{H:Hp}{o:Nat}{xs:List Dv}{vs:List V}{P:Fp}(h:AC K g H o xs vs P):(!xs.isEmpty)=!vs.isEmpty:=by
 have:=h.len;cases xs<;>cases vs<;>simp at this<;>rfl
theorem Zs(K:W.Frag)(g:G)(H:Hp)(o:Nat)(d:Dv)(v:V)(P:Fp)(b:Bool)(h:Rep K g H o d v P)(e:Qm d=some b):Zb K v H b:=by
 cases d with
 | xQ=>cases e;rw[GG h];exact rfl
 | bl b=>cases e;rw[Bc h];exact rfl
 | int i=>cases e;rw[AI h];exact rfl
 | str l =>
  simp only[Qm.eq_def] at e;split at e
  ·rename_i hl;cases e;rw[BH h];refine⟨by rw[CU];exact A4 hl (by decide),?_⟩;rw[CU];cases l<;>simp;omega
  ·cases e
 | lst xs =>
  cases e;unfold Rep at h;obtain⟨a,vs,P',rfl,h1,h2,_⟩:=h;exact .inl ⟨vs,.inl (.inl h1.1),RM h2⟩
 | tup xs =>
  cases e;unfold Rep at h;obtain⟨a,vs,rfl,h1,h2⟩:=h;exact .inr (.inl ⟨vs,.inl (.inl h1),RM h2⟩)
 | yO ns =>
  cases e;obtain⟨a,rfl,h1⟩:=NL h;exact .inl ⟨_,h1,by cases ns<;>rfl⟩
 | yR ks ds =>
  cases e;obtain⟨a,us,rfl,ha,hl,hx⟩:=YL h;refine .inr (.inr ⟨_,ha,?_⟩);have:=hx.len;cases ks<;>cases ds<;>cases us<;>simp at hl this<;>rfl
 | _=>cases e
noncomputable def Hk(ns:List Int):List Int:=ns.mergeSort fun a b=>decide (a<=b)
theorem QI(ns:List Int):(Hk ns).Perm ns:=List.mergeSort_perm ..
theorem XG(ns:List Int):(Hk ns).Pairwise (·<=·):=by
 have:=List.pairwise_mergeSort (le:=fun a b:Int=>decide (a<=b)) (fun a b c h1 h2=>by simp at *;omega) (fun a b=>by simp;omega) ns;exact this.imp fun h=>of_decide_eq_true h
theorem Nv{ns ms:List Int}(h:ms.Perm ns)(h2:ms.Pairwise (·<=·)):ms=Hk ns:=List.Perm.eq_of_pairwise (fun a b _ _ h1 h2=>Int.le_antisymm h1 h2) h2 (XG ns) (h.trans (QI ns).symm)
def Mr(x:Dv):Option Dv:=match x with
 | .lst xs=>(Dy xs).bind fun ns=>if ns.length < 64 then some (.lst ((Hk ns).map .int)) else none
 | .tup xs=>(Dy xs).bind fun ns=>if ns.length < 64 then some (.lst ((Hk ns).map .int)) else none
 | _=>none
theorem WE{K:W.Frag}:AJ K (one Mr) 1 (IA K):=EU fun g H x v o1 P d Q zd l1 h1 e k=>by
 have go:∀{xs:List Dv} {us:List V} {p:B5},AC K g H 0 xs us xM->((Dy xs).bind fun ns=>if ns.length < 64 then some (Dv.lst ((Hk ns).map .int)) else none)=some d->(DO K H p us\/FL K H p us)->IA K [.ref p] H Q:=fun{xs us p} hx e ha=>by
  cases e1:Dy xs with
  | none=>rw[e1] at e;cases e
  | some ns =>
   rw[e1,A0] at e
   by_cases hl:ns.length < 64
   ·rw[if_pos hl] at e;cases e;rw[KY hx e1] at ha;exact⟨p,ns,rfl,ha,hl,fun l ns' h h2 h3=>by rw[Nv h2 h3];exact k _ _ (Af.lst zd (Ci _) h)⟩
   ·rw[if_neg hl] at e;cases e
 unfold Mr at e;split at e
 ·obtain⟨p,us,rfl,ha,hx,_⟩:=FP l1 h1;exact go hx e (.inl ha)
 ·obtain⟨p,us,rfl,ha,hx,_⟩:=Fo l1 h1;exact go hx e (.inr ha)
 ·cases e
abbrev IP:=Mr
theorem Oh:Q3 "sorted" = some (.builtin "sorted"):=by decide +kernel
theorem rW{es:List Expr}(h:es.length=1):∃a,es=[a]:=List.length_eq_one_iff.mp h
theorem rV{es:List Expr}(h:es.length=2):∃a b,es=[a,b]:=by
 cases es with
 | nil=>cases h
 | cons a es=>obtain⟨b,rfl⟩:=rW (Nat.succ.inj h);exact⟨a,b,rfl⟩
theorem lu{tg:Expr}(h:Nw tg=true):∃elts x1 zL,tg=.Tuple elts x1 zL:=by
 cases tg<;>first | exact⟨_,_,_,rfl⟩ | cases h
theorem bp{X:Cx}(h:Gx X):X.A.units+1 < K6:=by obtain⟨j,r⟩:=h.2;have:=r.un;omega
theorem Rp{X:Cx}(h:Gx X):X.A.units+2 < K6:=by obtain⟨j,r⟩:=h.2;have:=r.un;omega
end R
namespace My
open PySem L2 R
theorem sM{K:W.Frag}{o:Nat}{r:Qo}:AJ K (fun _=>none) o r:=fun _ _ _ _ _ _ _ _ e _=>by cases e
theorem sL{K:W.Frag}{o:Nat}{r:Qo}:AJ K (one fun _=>none) o r:=fun _ _ ds _ _ _ _ _ e _=>by unfold one at e;split at e<;>cases e
theorem sJ{K:W.Frag}{o:Nat}{r:Qo}:AJ K (two fun _ _=>none) o r:=fun _ _ ds _ _ _ _ _ e _=>by unfold two at e;split at e<;>cases e
def tb:Tb where
 zDe:=[⟨.Add,AS,fun X h=>⟨_,bQ X.K,iH⟩⟩,
  ⟨.Sub,Hd,fun X h=>⟨_,iY,au⟩⟩,
  ⟨.Mult,CH,fun X h=>⟨_,ib,IC fun _ _ h=>by simpa[big,dI] using h⟩⟩,
  ⟨.Mod,Eh,fun X h=>⟨_,ic,IC fun _ _ h=>of_decide_eq_true h⟩⟩,
  ⟨.FloorDiv,Qn,fun X h=>⟨_,bM,IC fun _ _ h=>by rw[A2,decide_eq_true_eq,decide_eq_true_eq] at h;exact h⟩⟩,
  ⟨.Pow,lQ,fun X h=>⟨_,iZ,IC fun _ _ h=>by rw[A2,A2,decide_eq_true_eq,decide_eq_true_eq,decide_eq_true_eq] at h;exact⟨h.1.1,h.1.2,h.2⟩⟩⟩]
 zBP:=[⟨.Eq,De,fun X h=>⟨_,L3.zCf h.2.choose_spec,WJ⟩⟩,
  ⟨.NotEq,Jw,fun X h=>⟨_,L3.zCc h.2.choose_spec,WJ⟩⟩,
  ⟨.Lt,Ml,fun X h=>⟨_,nV,ID⟩⟩,
  ⟨.LtE,fX,fun X h=>⟨_,nW,ID⟩⟩,
  ⟨.Gt,Uq,fun X h=>⟨_,nX,ID⟩⟩,
  ⟨.GtE,rn,fun X h=>⟨_,nY,ID⟩⟩,
  ⟨.In,pj,fun X h=>⟨_,(Q.zCd h.2.choose_spec).or ((ij (bp h)).or (ia (Rp h))),WI⟩⟩,
  ⟨.NotIn,DN,fun X h=>⟨_,(Q.zBJ h.2.choose_spec).or ((bN (bp h)).or (bL (Rp h))),WI⟩⟩,
  ⟨.Is,Uj,fun X h=>⟨_,ie,iE⟩⟩]
 calls:=[⟨"len", 1,1,one AN,fun X h=>⟨_,iC,.inl ⟨_,(US X.K).or Qd,PySem.boot_len⟩⟩⟩,
  ⟨"tuple", 1,1,one Av,fun X h=>⟨_,WD,.inr ⟨_,OW X.K,PyProof.Rows.Boot.«tuple»⟩⟩⟩,
  ⟨"list", 1,1,one Jt,fun X h=>⟨_,aj,.inr ⟨_,Qc X.K,PyProof.Rows.Boot.«list»⟩⟩⟩,
  ⟨"int", 1,1,one Hn,fun X h=>⟨_,aq,.inr ⟨_,UW,PyProof.Rows.Boot.«int»⟩⟩⟩,
  ⟨"all", 1,1,one Za,fun X h=>⟨_,iG,.inl ⟨_,UY X.K rfl h.1,PyProof.Rows.Boot.«all»⟩⟩⟩,
  ⟨"max", 2,1,two Dc,fun X h=>⟨_,ai,.inl ⟨_,UR h.1,PyProof.Rows.Boot.«max»⟩⟩⟩,
  ⟨"min", 2,1,two LX,fun X h=>⟨_,ah,.inl ⟨_,UQ h.1,PyProof.Rows.Boot.«min»⟩⟩⟩,
  ⟨"sorted", 1,1,one IP,fun X h=>⟨_,WE,.inl ⟨_,Mc X.K,Oh⟩⟩⟩,
  ⟨"isinstance", 2,1,two ZY,fun X h=>⟨_,iD,.inl ⟨_,UV X.K,PyProof.Rows.Boot.«isinstance»⟩⟩⟩]
 meths:=[⟨"join", 1, "str", 1,two Ju,.inl (.inr (.inl rfl)),fun X h=>⟨_,_,tO,PySem.F.slot_str_join,PySem.F.type_str_join,Wo X.K,ak⟩⟩,
  ⟨"upper", 0, "str", 1,one Hc,.inl (.inr (.inl rfl)),fun X h=>⟨_,_,tO,PySem.F.slot_str_upper,PySem.F.type_str_upper,Wm,WC⟩⟩,
  ⟨"index", 1, "list", 1,two Hf,.inl (.inl rfl),fun X h=>⟨_,_,O9,PySem.F.slot_list_index,PySem.F.type_list_index,Q.zBM h.2.choose_spec,WH⟩⟩,
  ⟨"index", 1, "tuple", 1,two IQ,.inr ⟨rfl,rfl⟩,fun X h=>⟨_,_,PySem.F.plainAttrs_tuple,PySem.F.slot_tuple_index,PySem.F.type_tuple_index,Q.zAo h.2.choose_spec,Sv⟩⟩]
 zDE:=[⟨"append", 1, "list", AX,.inl rfl,fun X h=>⟨_,_,O9,PySem.F.slot_list_append,PySem.F.type_list_append,TV,TR⟩⟩,
  ⟨"pop", 0, "list", Um,.inl rfl,fun X h=>⟨_,_,O9,tq,tu,jE,jC⟩⟩,
  ⟨"pop", 1, "list", He,.inl rfl,fun X h=>⟨_,_,O9,tq,tu,Wn,Wl⟩⟩,
  ⟨"extend", 1, "list", Bh,.inl rfl,fun X h=>⟨_,_,O9,PySem.F.slot_list_extend,PySem.F.type_list_extend,Us.or TU Pz,TQ⟩⟩]
 zCy:=[⟨"range", 1,false,DH,fun X h=>⟨_,VY,fun tg es p pos ta _ hn hs hg hm ha=>by obtain⟨a,rfl⟩:=rW hn;exact Sz hg hm ha (AQ (by simpa using hs))⟩⟩,
  ⟨"range", 2,false,Sn,fun X h=>⟨_,VX,fun tg es p pos ta _ hn hs hg hm ha=>by
   obtain⟨a,b,rfl⟩:=rV hn;have z:BV a=true/\BV b=true:=by simpa using hs
   exact Sy hg hm ha ((AQ z.1).trans (by rw[AQ z.2];rfl)) (AQ z.2)⟩⟩,
  ⟨"zip", 2,true,RL,fun X h=>⟨_,VW,fun tg es p pos ta ht hn hs hg hm ha=>by
   obtain⟨elts,x1,zL,rfl⟩:=lu (ht rfl);obtain⟨a,b,rfl⟩:=rV hn;have z:BV a=true/\BV b=true:=by simpa using hs
   exact ay X.K hg hm ha rfl (AQ z.1) (BE (by simp[z.2]))⟩⟩]
 ix:=AA
 zDJ:=fun X h=>⟨_,(qU X.K).or ((oF (bp h)).or (oE (Rp h))),iF⟩
 sl:=FT
 zCz:=fun X h=>⟨_,qL X.K,nL⟩
 tru:=Qm
 zCu:=Zs
 lr:=Bg
 zDH:=fun X h=>Pd
 tr:=fun _=>none
 zCt:=fun X h=>sM
 md:=fun _ _=>none
 zDp:=fun X h=>sJ
 rv:=Om
 zDA:=fun X h=>af
 lv:=fun _=>none
 zDq:=fun X h=>sL
 st:=AU
 zCB:=fun X h=>⟨_,aK.or ((gT (bp h)).or (gR (Rp h))),gS⟩
noncomputable def top(i:Nat):M4:=PySem.Challenge.pw_shapefree_k41_papers_of_joins.main.body.getD i (.Pass ⟨0,0,0,0⟩)
def FO(i j:Nat):M4:=match top i with | .ClassDef _ _ _ cb _ _ _ _ _ _ _=>cb.getD j (.Pass ⟨0,0,0,0⟩) | s=>s
noncomputable def Tu:List Str:=["listed", "numbers", "leads"]
def md:Md:=⟨tb,[],["len", "range", "tuple", "list", "zip", "isinstance", "enumerate", "all", "any", "int", "bool", "str", "sum", "max", "min", "reversed", "sorted", "dict", "repr", "set", "abs", "type", "ord", "chr"],Tu,["listed", "numbers", "leads"]⟩
noncomputable def pf:List (Str×xZ):=[]
noncomputable def Cc(a0:Dv):Option (Dv×Dv):=
(Ds a0 "listed" (.lst [])).bind fun d0=>(Ds d0 "numbers" (.yR [] [])).bind fun d1=>some (.xQ,d1)
theorem OP:EE md pf (FO 2 0) [0] 1=true:=by kernel_rfl
theorem OD:Fl md pf (FO 2 0) [0] 1 (one Cc):=la (by kernel_rfl) fun _=>(by kernel_rfl)
def qe:List (Str×xZ):=("__init__", Aa (AE (FO 2 0)) [0] 1 true (one Cc) (some "Nodes"))::pf
noncomputable def Bn(a0:Dv)(a1:Dv):Option (Dv):=
bif Br a0 "numbers" then
(GP a0 "numbers").bind fun d0=>(DN a1 d0).bind fun b1=>if b1=true then
bif Br a0 "listed" then
(GP a0 "listed").bind fun d2=>(AN d2).bind fun d3=>bif Br a0 "numbers" then
(GP a0 "numbers").bind fun d4=>(AU d4 a1 d3).bind fun d5=>bif Br (BY a0 "numbers" d5) "listed" then
(GP (BY a0 "numbers" d5) "listed").bind fun d6=>EC "list" d6 (
(GP (BY a0 "numbers" d5) "listed").bind fun d7=>(AX d7 [a1]).bind fun r8=>some (BY (BY a0 "numbers" d5) "listed" r8.2))
else none
else none
else none
else
some a0
else none
noncomputable def BN(a0 a1:Dv):Option (Dv×Dv):=
((Bn a0 a1)).bind fun t9=>bif Br t9 "numbers" then
(GP t9 "numbers").bind fun ye=>(AA ye a1).bind fun zI=>some (zI,t9)
else none
theorem Ht:EE md qe (FO 2 1) [0] 0=true:=by kernel_rfl
theorem Hs:Fl md qe (FO 2 1) [0] 0 (two BN):=SN (by kernel_rfl) fun _ _=>(by kernel_rfl)
def oP:List (Str×xZ):=("number_of", Aa (AE (FO 2 1)) [0] 0 false (two BN) (some "Nodes"))::qe
noncomputable def DG(a1:Dv)(x5:Dv):Option Dv:=
(AA a1 x5).bind fun d6=>some d6
noncomputable def Bz(a0 a1:Dv):Option (Dv):=
(AA a0 (.int 0)).bind fun d0=>(Jw d0 (.str [100,111])).bind fun b1=>if b1=true then
some a0
else
(AA a0 (.int 1)).bind fun d2=>(AA a0 (.int 2)).bind fun d3=>(items d3).bind fun s4=>HQ s4 ((BQ (DG a1) s4).bind fun y7=>(Av (.lst y7)).bind fun d8=>some (.tup [(.str [100,111]),d2,d8]))
theorem MW:EE md oP (top 3) [] 0=true:=by kernel_rfl
theorem MQ:Fl md oP (top 3) [] 0 (two Bz):=SN (by kernel_rfl) fun _ _=>(by kernel_rfl)
def qd:List (Str×xZ):=("renumbered", Aa (AE (top 3)) [] 0 true (two Bz))::oP
noncomputable def Dl(x7:Dv)(t8:Dv×Dv):Option (Dv×Dv):=
EC "list" t8.2 (
bif Fg t8.1 "Nodes" "number_of" then
(Bz x7 t8.2).bind fun c9=>bif TL c9 then
(BN t8.1 c9).bind fun c10=>(AX t8.2 [c10.1]).bind fun r11=>some (c10.2,r11.2)
else none
else none)
noncomputable def Dk(x3:Dv)(t4:Dv×Dv):Option (Dv×Dv):=
(AA x3 (.int 0)).bind fun d5=>(items d5).bind fun s6=>(BK Dl s6 (t4.1,(.lst []))).bind fun t12=>EC "list" t4.2 (
(AA x3 (.int 1)).bind fun zp=>(AA t12.2 zp).bind fun d14=>(AX t4.2 [d14]).bind fun r15=>some (t12.1,r15.2))
noncomputable def NM(a0:Dv):Option (Dv):=
(Cc (.obj "Nodes" Tu [] [])).bind fun c0=>jF c0.1 [c0.2] fun d1=>(items a0).bind fun s2=>(BK Dk s2 (d1,(.lst []))).bind fun t16=>bif Br t16.1 "listed" then
(GP t16.1 "listed").bind fun d17=>(Av d17).bind fun d18=>(Av t16.2).bind fun d19=>some (.tup [d18,d19])
else none
theorem kW:EE md qd (top 5) [] 1=true:=by kernel_rfl
theorem kQ:Fl md qd (top 5) [] 1 (one NM):=la (by kernel_rfl) fun _=>(by kernel_rfl)
def qc:List (Str×xZ):=("laid", Aa (AE (top 5)) [] 1 false (one NM))::qd
noncomputable def Cg(a0 a1:Dv):Option (Dv×Dv):=
(Bg [a1]).bind fun d0=>(Ds a0 "leads" d0).bind fun d1=>some (.xQ,d1)
theorem OS:EE md qc (FO 7 0) [0] 1=true:=by kernel_rfl
theorem OG:Fl md qc (FO 7 0) [0] 1 (two Cg):=SN (by kernel_rfl) fun _ _=>(by kernel_rfl)
def qb:List (Str×xZ):=("__init__", Aa (AE (FO 7 0)) [0] 1 true (two Cg) (some "Joins"))::qc
noncomputable def Bb(t0:Dv×Dv):Option Bool:=
bif Br t0.1 "leads" then
(GP t0.1 "leads").bind fun d1=>(AA d1 t0.2).bind fun d2=>(Jw d2 t0.2).bind fun b3=>some b3
else none
noncomputable def Ca(t0:Dv×Dv):Option (Dv×Dv):=
bif Br t0.1 "leads" then
bif Br t0.1 "leads" then
(GP t0.1 "leads").bind fun d4=>(AA d4 t0.2).bind fun d5=>(GP t0.1 "leads").bind fun d6=>(AA d6 d5).bind fun d7=>bif Br t0.1 "leads" then
(GP t0.1 "leads").bind fun d8=>(AU d8 t0.2 d7).bind fun d9=>bif Br (BY t0.1 "leads" d9) "leads" then
(GP (BY t0.1 "leads" d9) "leads").bind fun ye=>(AA ye t0.2).bind fun zI=>some ((BY t0.1 "leads" d9),zI)
else none
else none
else none
else none
noncomputable def Al(a0 a1:Dv):Option (Dv×Dv):=
(Up Bb Ca 1000000 (a0,a1)).bind fun t12=>some (t12.2,t12.1)
theorem KC:EE md qb (FO 7 1) [0] 0=true:=by kernel_rfl
theorem KB:Fl md qb (FO 7 1) [0] 0 (two Al):=SN (by kernel_rfl) fun _ _=>(by kernel_rfl)
def qa:List (Str×xZ):=("root_of", Aa (AE (FO 7 1)) [0] 0 false (two Al) (some "Joins"))::qb
noncomputable def Aj(a0 a1 a2:Dv):Option (Dv×Dv):=
bif Fg a0 "Joins" "root_of" then
(Al a0 a1).bind fun c0=>bif Fg c0.2 "Joins" "root_of" then
(Al c0.2 a2).bind fun c1=>(De c0.1 c1.1).bind fun b2=>some ((.bl b2),c1.2)
else none
else none
theorem HX:EE md qa (FO 7 2) [0] 1=true:=by kernel_rfl
theorem HR:Fl md qa (FO 7 2) [0] 1 (FW Aj):=lG (by kernel_rfl) fun _ _ _=>(by kernel_rfl)
def qZ:List (Str×xZ):=("are_joined", Aa (AE (FO 7 2)) [0] 1 true (FW Aj) (some "Joins"))::qa
noncomputable def Ax(a0 a1 a2:Dv):Option (Dv×Dv):=
bif Fg a0 "Joins" "root_of" then
(Al a0 a1).bind fun c0=>bif Fg c0.2 "Joins" "root_of" then
(Al c0.2 a2).bind fun c1=>(IP (.lst [c0.1,c1.1])).bind fun d2=>(AA d2 (.int 0)).bind fun d3=>bif Br c1.2 "leads" then
(AA d2 (.int 1)).bind fun d4=>(GP c1.2 "leads").bind fun d5=>(AU d5 d4 d3).bind fun d6=>some (.xQ,(BY c1.2 "leads" d6))
else none
else none
else none
theorem GU:EE md qZ (FO 7 3) [0] 1=true:=by kernel_rfl
theorem GQ:Fl md qZ (FO 7 3) [0] 1 (FW Ax):=lG (by kernel_rfl) fun _ _ _=>(by kernel_rfl)
def qY:List (Str×xZ):=("make_joined", Aa (AE (FO 7 3)) [0] 1 true (FW Ax) (some "Joins"))::qZ
noncomputable def Fv(x3:Dv)(t4:Dv):Option (Dv):=
EC "list" t4 (
(Bh t4 [x3]).bind fun r5=>some r5.2)
noncomputable def Cd(a0 a1:Dv):Option (Dv):=
(Jt a0).bind fun d0=>(AS d0 (.lst [a1])).bind fun d1=>(items d1).bind fun s2=>(BK Fv s2 (.lst [])).bind fun t6=>(NM t6).bind fun c7=>some c7
theorem OQ:EE md qY (top 8) [] 1=true:=by kernel_rfl
theorem OE:Fl md qY (top 8) [] 1 (two Cd):=SN (by kernel_rfl) fun _ _=>(by kernel_rfl)
def qX:List (Str×xZ):=("laid_pairs", Aa (AE (top 8)) [] 1 false (two Cd))::qY
noncomputable def FY(a0:Dv)(a2:Dv)(a3:Dv):Option (Bool):=
(fX (.int 0) a2).bind fun b0=>if b0=true then
(AN a0).bind fun d1=>(Ml a2 d1).bind fun b2=>if(!b2)=true then
some true
else
(fX (.int 0) a3).bind fun b3=>if b3=true then
(AN a0).bind fun d4=>(Ml a3 d4).bind fun b5=>some (!b5)
else
some (!false)
else
if(!false)=true then
some true
else
(fX (.int 0) a3).bind fun b6=>if b6=true then
(AN a0).bind fun d7=>(Ml a3 d7).bind fun b8=>some (!b8)
else
some (!false)
noncomputable def FX(ye:Dv)(zI:Dv):Option (Bool):=
(AA zI (.int 0)).bind fun d14=>(Jw d14 (.str [100,111])).bind fun b15=>if b15=true then
some true
else
(AA ye (.int 1)).bind fun d16=>(AA zI (.int 1)).bind fun d17=>(Jw d16 d17).bind fun b18=>some b18
noncomputable def Dg(ye:Dv)(zI:Dv):Option (Bool):=
(AA ye (.int 0)).bind fun zU=>(Jw zU (.str [100,111])).bind fun b13=>if b13=true then
some true
else
((FX ye zI)).bind fun t19=>some t19
noncomputable def Bo(x24:Dv)(t25:Dv):Option (Dv×Dv):=
(Ou [7,8] x24).bind fun(t26:Dv×Dv)=>bif Fg t25 "Joins" "are_joined" then
(Aj t25 t26.1 t26.2).bind fun c27=>some (c27.1,c27.2)
else none
noncomputable def EO(a0 a1 a2 a3:Dv):Option (Dv×Dv):=
((FY a0 a2 a3)).bind fun t9=>if t9=true then
some ((.bl false),a1)
else
(AA a0 a2).bind fun ye=>(AA a0 a3).bind fun zI=>((Dg ye zI)).bind fun t20=>if t20=true then
some ((.bl false),a1)
else
(AA ye (.int 2)).bind fun d21=>(AA zI (.int 2)).bind fun d22=>(RL [d21,d22]).bind fun s23=>HQ s23 ((Cr Bo s23 a1).bind fun p28=>(Za (.lst p28.1)).bind fun d29=>some (d29,p28.2))
theorem UK:EE md qX (top 11) [1] 1=true:=by kernel_rfl
theorem UC:Fl md qX (top 11) [1] 1 (QO EO):=qo (by kernel_rfl) fun _ _ _ _=>(by kernel_rfl)
def kM:List (Str×xZ):=("are_like", Aa (AE (top 11)) [1] 1 true (QO EO))::qX
noncomputable def Ig(a0:Dv)(a2:Dv)(a3:Dv):Option (Dv×Dv):=
(AA a3 (.int 1)).bind fun d2=>(AA a3 (.int 2)).bind fun d3=>(EO a0 a2 d2 d3).bind fun c4=>(Qm c4.1).bind fun b5=>if b5=true then
(AA a3 (.int 1)).bind fun d6=>(AA a3 (.int 2)).bind fun d7=>some ((.tup [d6,d7]),c4.2)
else
some (.xQ,c4.2)
noncomputable def DV(a0 a1 a2 a3:Dv):Option (Dv×Dv):=
(AA a3 (.int 0)).bind fun d0=>(De d0 (.str [108,105,107,101])).bind fun b1=>if b1=true then
((Ig a0 a2 a3)).bind fun t8=>some (t8.1,t8.2)
else
(AA a3 (.int 1)).bind fun d9=>(fX (.int 0) d9).bind fun b10=>if b10=true then
(AN a1).bind fun zI=>(Qn zI (.int 2)).bind fun zU=>(Hd zU (.int 1)).bind fun zp=>(Ml d9 zp).bind fun b14=>if(!b14)=true then
some (.xQ,a2)
else
(AA a3 (.int 1)).bind fun d15=>(CH (.int 2) d15).bind fun d16=>(AA a1 d16).bind fun d17=>(AA a3 (.int 1)).bind fun d18=>(CH (.int 2) d18).bind fun d19=>(AS d19 (.int 1)).bind fun d20=>(AA a1 d20).bind fun d21=>some ((.tup [d17,d21]),a2)
else
if(!false)=true then
some (.xQ,a2)
else
(AA a3 (.int 1)).bind fun d22=>(CH (.int 2) d22).bind fun d23=>(AA a1 d23).bind fun d24=>(AA a3 (.int 1)).bind fun d25=>(CH (.int 2) d25).bind fun d26=>(AS d26 (.int 1)).bind fun d27=>(AA a1 d27).bind fun d28=>some ((.tup [d24,d28]),a2)
theorem UH:EE md kM (top 10) [2] 0=true:=by kernel_rfl
theorem Tz:Fl md kM (top 10) [2] 0 (QO DV):=qo (by kernel_rfl) fun _ _ _ _=>(by kernel_rfl)
def kL:List (Str×xZ):=("row_pair", Aa (AE (top 10)) [2] 0 false (QO DV))::kM
noncomputable def Aq(c0:Dv)(d1:Dv)(x7:Dv)(t8:Dv):Option (Lp Dv (Dv) (Unit)):=
(AA c0 (.int 0)).bind fun d9=>(DV d9 d1 t8 x7).bind fun c10=>(Uj c10.1 Dv.xQ).bind fun b11=>if b11=true then
some (.rt (.bl false) ())
else
bif Fg c10.2 "Joins" "make_joined" then
(AA c10.1 (.int 0)).bind fun zU=>(AA c10.1 (.int 1)).bind fun zp=>(Ax c10.2 zU zp).bind fun c14=>some (.go c14.2)
else none
noncomputable def CB(a0 a1 a2:Dv):Option (Dv):=
(Cd a0 a1).bind fun c0=>(AA c0 (.int 1)).bind fun d1=>(AA c0 (.int 0)).bind fun d2=>(AN d2).bind fun d3=>(Cg (.obj "Joins" Tu [] []) d3).bind fun c4=>jF c4.1 [c4.2] fun d5=>(items a2).bind fun s6=>(Ed (Aq c0 d1) s6 d5).bind fun l23=>l23.el (fun(t15:Dv)=>bif Fg t15 "Joins" "are_joined" then
(Cw (.int 2)).bind fun d18=>(AA d1 d18).bind fun d19=>(Cw (.int 1)).bind fun d20=>(AA d1 d20).bind fun d21=>(Aj t15 d19 d21).bind fun c22=>some c22.1
else none) fun(e16:Dv) (r17:Unit)=>some e16
theorem MX:EE md kL (top 9) [] 1=true:=by kernel_rfl
theorem MR:Fl md kL (top 9) [] 1 (FW CB):=lG (by kernel_rfl) fun _ _ _=>(by kernel_rfl)
def kK:List (Str×xZ):=("paper_holds", Aa (AE (top 9)) [] 1 false (FW CB))::kL
noncomputable def NI(a0:Dv)(a1:Dv)(d1:Dv):Option (Dv):=
(AN a0).bind fun d5=>(Uq d5 (.int 0)).bind fun b6=>if b6=true then
(AN a0).bind fun d7=>(Eh a1 d7).bind fun d8=>(AA a0 d8).bind fun d9=>(Eh d9 (.int 2147483629)).bind fun ye=>(CH ye (.int 31)).bind fun zI=>(CH (.int 7907) a1).bind fun zU=>(AS zI zU).bind fun zp=>some zp
else
some d1
noncomputable def Im(a0:Dv)(a1:Dv)(d1:Dv):Option (Dv):=
(AN a0).bind fun d2=>(Ml a1 d2).bind fun b3=>if b3=true then
(AA a0 a1).bind fun d4=>some d4
else
((NI a0 a1 d1)).bind fun t14=>some t14
noncomputable def Il(t15:Dv):Option (Dv):=
(lQ (.int 10) (.int 18)).bind fun d16=>(rn t15 d16).bind fun b17=>if b17=true then
some t15
else
some (.int 0)
noncomputable def Iw(a0 a1:Dv):Option (Dv):=
(CH (.int 7907) a1).bind fun d0=>(AS d0 (.int 13579)).bind fun d1=>((Im a0 a1 d1)).bind fun t15=>((Il t15)).bind fun t18=>(Eh t15 (.int 2147483629)).bind fun d19=>(CH d19 (.int 48271)).bind fun d20=>(CH (.int 40692) a1).bind fun d21=>(AS d20 d21).bind fun d22=>(Eh d22 (.int 2147483646)).bind fun d23=>(AS d23 (.int 1)).bind fun d24=>some (.lst [t18,d24])
theorem cF:EE md kK (top 13) [] 1=true:=by kernel_rfl
theorem bw:Fl md kK (top 13) [] 1 (two Iw):=SN (by kernel_rfl) fun _ _=>(by kernel_rfl)
def kH:List (Str×xZ):=("_law_feed", Aa (AE (top 13)) [] 1 false (two Iw))::kK
noncomputable def AK(a0 a1:Dv):Option (Dv×Dv):=
(AA a0 (.int 0)).bind fun d0=>(Uq d0 (.int 0)).bind fun b1=>if b1=true then
(AA a0 (.int 0)).bind fun d2=>(Eh d2 a1).bind fun d3=>(AA a0 (.int 0)).bind fun d4=>(Qn d4 a1).bind fun d5=>(AU a0 (.int 0) d5).bind fun d6=>some (d3,d6)
else
(AA a0 (.int 1)).bind fun d7=>(CH d7 (.int 48271)).bind fun d8=>(Eh d8 (.int 2147483647)).bind fun d9=>(CH d9 (.int 40692)).bind fun ye=>(AS ye (.int 30103)).bind fun zI=>(Eh zI (.int 2147483399)).bind fun zU=>(AS zU (.int 1)).bind fun zp=>(AU a0 (.int 1) zp).bind fun d14=>(CH d9 (.int 2147483647)).bind fun d15=>(AA d14 (.int 1)).bind fun d16=>(AS d15 d16).bind fun d17=>(Qn d17 (.int 8191)).bind fun d18=>(Eh d18 a1).bind fun d19=>some (d19,d14)
theorem cD:EE md kH (top 14) [0] 1=true:=by kernel_rfl
theorem bt:Fl md kH (top 14) [0] 1 (two AK):=SN (by kernel_rfl) fun _ _=>(by kernel_rfl)
def kG:List (Str×xZ):=("_law_take", Aa (AE (top 14)) [0] 1 false (two AK))::kH
noncomputable def Ew(x2:Dv)(t3:Dv):Option (Dv×Dv):=
(AK t3 (.int 26)).bind fun c4=>(AA (.str [97,98,99,100,101,102,103,104,105,106,107,108,109,110,111,112,113,114,115,116,117,118,119,120,121,122]) c4.1).bind fun d5=>some (d5,c4.2)
noncomputable def Gk(d28:Dv):Option (Dv):=
(pj d28 (.tup [(.str [100,101,102]),(.str [108,101,116]),(.str [116,101,108,108]),(.str [108,111,111,112]),(.str [112,105,99,107]),(.str [99,97,108,108])])).bind fun b29=>if b29=true then
(AS d28 (.str [113])).bind fun d30=>some d30
else
some d28
noncomputable def Ey(d7:Dv)(zEU:Dv)(zBG:Dv)(zDd:Dv)(x14:Dv)(t15:Dv):Option (Dv):=
(CH (.int 7) x14).bind fun d16=>(AS zEU d16).bind fun d17=>(Eh d17 (.int 26)).bind fun d18=>(AA (.str [97,98,99,100,101,102,103,104,105,106,107,108,109,110,111,112,113,114,115,116,117,118,119,120,121,122]) d18).bind fun d19=>SR zBG fun i20=>(FT d7 none (some i20)).bind fun d21=>(AS d21 d19).bind fun d22=>SR zBG fun i23=>(AS zDd x14).bind fun d24=>(Eh d24 (.int 4)).bind fun d25=>SR d25 fun i26=>(FT d7 (some i23) (some i26)).bind fun d27=>(AS d22 d27).bind fun d28=>((Gk d28)).bind fun t31=>EC "list" t15 (
(AX t15 [t31]).bind fun r32=>some r32.2)
noncomputable def Kd(zr:Dv)(t33:Dv):Option (Bool×Dv):=
(Cw (.int 2)).bind fun d35=>(AA t33 d35).bind fun d36=>(AN d36).bind fun d37=>(Ml d37 (.int 4)).bind fun b38=>if b38=true then
(AK zr (.int 4)).bind fun c39=>(De c39.1 (.int 0)).bind fun b40=>some (b40,c39.2)
else
some (false,zr)
noncomputable def Gf(a1:Dv)(zr:Dv)(t33:Dv):Option (Bool×Dv):=
(Uq a1 (.int 1)).bind fun b34=>if b34=true then
((Kd zr t33)).bind fun t41=>some (t41.1,t41.2)
else
some (false,zr)
noncomputable def Gj(a1:Dv)(zr:Dv)(t33:Dv):Option (Dv×Dv):=
((Gf a1 zr t33)).bind fun t42=>if t42.1=true then
(Cw (.int 2)).bind fun d43=>(AA t33 d43).bind fun d44=>(AS d44 (.str [113])).bind fun d45=>(Cw (.int 1)).bind fun d46=>(AU t33 d46 d45).bind fun d47=>some (t42.2,d47)
else
some (t42.2,t33)
noncomputable def DA(a0 a1:Dv):Option (Dv×Dv):=
EC "str" (.str []) (
(AK a0 (.int 4)).bind fun c0=>(DH [c0.1]).bind fun s1=>HQ s1 ((Cr Ew s1 c0.2).bind fun p6=>(Ju (.str []) (.lst p6.1)).bind fun d7=>(AK p6.2 (.int 26)).bind fun c8=>(AN d7).bind fun d9=>(AS d9 (.int 1)).bind fun ye=>(AK c8.2 ye).bind fun c11=>(AK c11.2 (.int 4)).bind fun c12=>(DH [a1]).bind fun s13=>(BK (Ey d7 c8.1 c11.1 c12.1) s13 (.lst [])).bind fun t33=>((Gj a1 c12.2 t33)).bind fun t48=>some (t48.2,t48.1)))
theorem YS:EE md kG (top 15) [0] 1=true:=by kernel_rfl
theorem Xv:Fl md kG (top 15) [0] 1 (two DA):=SN (by kernel_rfl) fun _ _=>(by kernel_rfl)
def kF:List (Str×xZ):=("_law_names", Aa (AE (top 15)) [0] 1 false (two DA))::kG
noncomputable def Gq(x5:Dv):Option Dv:=
(FT x5 none (some 1)).bind fun d6=>EC "str" d6 (
(Hc d6).bind fun d7=>(FT x5 (some 1) none).bind fun d8=>(AS d7 d8).bind fun d9=>some d9)
noncomputable def Gp(zBG:Dv)(x15:Dv)(t16:Dv):Option (Dv×Dv):=
(AA zBG x15).bind fun d17=>(AK t16 (.int 2)).bind fun c18=>(AS (.int 1) c18.1).bind fun d19=>some ((.tup [d17,d19]),c18.2)
noncomputable def Fw(a0:Dv):Option (Dv×Dv):=
(DA a0 (.int 4)).bind fun c0=>(AK c0.2 (.int 4)).bind fun c1=>SR c1.1 fun i2=>(FT c0.1 none (some i2)).bind fun d3=>(items d3).bind fun s4=>HQ s4 ((BQ Gq s4).bind fun y10=>(DA c1.2 (.int 3)).bind fun c11=>(AK c11.2 (.int 8)).bind fun c12=>(AA (.lst [(.int 1),(.int 2),(.int 3),(.int 2),(.int 3),(.int 1),(.int 2),(.int 0)]) c12.1).bind fun zp=>(DH [zp]).bind fun s14=>HQ s14 ((Cr (Gp c11.1) s14 c12.2).bind fun p20=>(Av (.lst y10)).bind fun d21=>(Av (.lst p20.1)).bind fun d22=>some ((.tup [d21,d22]),p20.2)))
theorem YO:EE md kF (top 16) [0] 1=true:=by kernel_rfl
theorem Xs:Fl md kF (top 16) [0] 1 (one Fw):=la (by kernel_rfl) fun _=>(by kernel_rfl)
def kD:List (Str×xZ):=("_law_shape", Aa (AE (top 16)) [0] 1 false (one Fw))::kF
noncomputable def Bx(t0:Dv×Dv×Dv):Option Bool:=
(AN t0.2.2).bind fun d1=>(Uq d1 (.int 0)).bind fun b2=>some b2
noncomputable def Cz(d14:Dv)(x19:Dv):Option Dv:=
(AA d14 x19).bind fun d20=>some d20
noncomputable def Cy(x29:Dv):Option Dv:=
some (.tup [x29,(.bl false)])
noncomputable def EK(zAJ:Dv)(zY:Dv)(zBI:Dv)(zBU:Dv)(zCX:Dv)(d6:Dv):Option (Dv×Dv×Dv):=
(Qm zCX).bind fun b12=>if b12=true then
(AN zAJ).bind fun zp=>(AU zY zBU zp).bind fun d14=>EC "list" zAJ (
(AA d6 (.int 0)).bind fun d15=>(AA d6 (.int 1)).bind fun d16=>(AA d6 (.int 2)).bind fun d17=>(items d17).bind fun s18=>HQ s18 ((BQ (Cz d14) s18).bind fun y21=>(Av (.lst y21)).bind fun d22=>(AX zAJ [(.tup [d15,d16,d22])]).bind fun r23=>some (r23.2,d14,zBI)))
else
EC "list" zBI (
(AX zBI [(.tup [zBU,(.bl true)])]).bind fun r24=>EC "list" r24.2 (
(AA d6 (.int 2)).bind fun d25=>(Cw (.int 1)).bind fun d26=>(Om d25 d26).bind fun d27=>(items d27).bind fun s28=>HQ s28 ((BQ Cy s28).bind fun y30=>(Bh r24.2 [(.lst y30)]).bind fun r31=>some (zAJ,zY,r31.2))))
noncomputable def By(zAJ:Dv)(zY:Dv)(zBI:Dv)(zBU:Dv)(zCX:Dv)(d6:Dv):Option (Dv×Dv×Dv):=
(AA d6 (.int 0)).bind fun d7=>(Jw d7 (.str [100,111])).bind fun b8=>if b8=true then
(AN zAJ).bind fun d9=>(AU zY zBU d9).bind fun ye=>EC "list" zAJ (
(AX zAJ [d6]).bind fun r11=>some (r11.2,ye,zBI))
else
((EK zAJ zY zBI zBU zCX d6)).bind fun t32=>some (t32.1,t32.2.1,t32.2.2)
noncomputable def Ad(a0:Dv)(t0:Dv×Dv×Dv):Option (Dv×Dv×Dv):=
EC "list" t0.2.2 (
(Um t0.2.2 []).bind fun r3=>(Ou [5,6] r3.1).bind fun(t4:Dv×Dv)=>(pj t4.1 t0.2.1).bind fun b5=>if b5=true then
some (t0.1,t0.2.1,r3.2)
else
(AA a0 t4.1).bind fun d6=>((By t0.1 t0.2.1 r3.2 t4.1 t4.2 d6)).bind fun t33=>some (t33.1,t33.2.1,t33.2.2))
noncomputable def BP(a0 a1:Dv):Option (Dv):=
(Up Bx (Ad a0) 1000000 ((.lst []),(.yR [] []),(.lst [(.tup [a1,(.bl false)])]))).bind fun t34=>(Av t34.1).bind fun d35=>(AN t34.1).bind fun d36=>(Hd d36 (.int 1)).bind fun d37=>some (.tup [d35,d37])
theorem Qa:EE md kD (top 17) [] 1=true:=by kernel_rfl
theorem QT:Fl md kD (top 17) [] 1 (two BP):=SN (by kernel_rfl) fun _ _=>(by kernel_rfl)
def kB:List (Str×xZ):=("_law_ordered", Aa (AE (top 17)) [] 1 false (two BP))::kD
noncomputable def Eu(x6:Dv):Option Dv:=
some (.tup [(.str [105,110,112,117,116]),x6])
noncomputable def Et(x10:Dv):Option Dv:=
some (.tup [(.str [102,105,120,101,100]),x10])
noncomputable def Kc(a1:Dv)(zq:Dv):Option (Bool×Dv):=
(AA a1 (.int 1)).bind fun d21=>(AN d21).bind fun d22=>(Uq d22 (.int 0)).bind fun b23=>if b23=true then
(AK zq (.int 4)).bind fun c24=>(Uq c24.1 (.int 0)).bind fun b25=>some (b25,c24.2)
else
some (false,zq)
noncomputable def Ge(a1:Dv)(yG:Dv)(zq:Dv):Option (Bool×Dv):=
(AN yG).bind fun d19=>(Uq d19 (.int 0)).bind fun b20=>if b20=true then
((Kc a1 zq)).bind fun t26=>some (t26.1,t26.2)
else
some (false,zq)
noncomputable def Gr(yG:Dv)(x35:Dv)(t36:Dv):Option (Dv×Dv):=
(AN yG).bind fun d37=>(Hd d37 (.int 1)).bind fun d38=>(AN yG).bind fun d39=>(AK t36 d39).bind fun c40=>(AK c40.2 (.int 2)).bind fun c41=>(AA (.lst [d38,c40.1]) c41.1).bind fun d42=>some (d42,c41.2)
noncomputable def Gi(a1:Dv)(yG:Dv)(zq:Dv)(d18:Dv):Option (Dv×Dv):=
((Ge a1 yG zq)).bind fun t27=>if t27.1=true then
(AA a1 (.int 1)).bind fun d28=>(AA a1 (.int 1)).bind fun d29=>(AN d29).bind fun d30=>(AK t27.2 d30).bind fun c31=>(AA d28 c31.1).bind fun d32=>(Ou [8,9] d32).bind fun(t33:Dv×Dv)=>(DH [t33.2]).bind fun s34=>HQ s34 ((Cr (Gr yG) s34 c31.2).bind fun p43=>(Av (.lst p43.1)).bind fun d44=>some (p43.2,(.tup [(.str [100,111]),t33.1,d44])))
else
some (t27.2,d18)
noncomputable def Ki(yG:Dv)(zCL:Dv):Option (Dv):=
(DN zCL yG).bind fun b46=>if b46=true then
EC "list" yG (
(AX yG [zCL]).bind fun r47=>some r47.2)
else
some yG
noncomputable def Gy(a1:Dv)(zU:Dv)(x14:Dv)(t15:Dv×Dv):Option (Dv×Dv):=
(AN zU).bind fun d16=>(AK t15.1 d16).bind fun c17=>(AA zU c17.1).bind fun d18=>((Gi a1 t15.2 c17.2 d18)).bind fun t45=>((Ki t15.2 t45.2)).bind fun t48=>some (t45.1,t48)
noncomputable def GA(a0 a1 a2 a3:Dv):Option (Dv×Dv):=
(AA a1 (.int 0)).bind fun d0=>(AN d0).bind fun d1=>(De d1 (.int 0)).bind fun b2=>(Hn (.bl b2)).bind fun d3=>(Dc a2 d3).bind fun d4=>(DH [d4]).bind fun s5=>HQ s5 ((BQ Eu s5).bind fun y7=>(AA a1 (.int 0)).bind fun d8=>(items d8).bind fun s9=>HQ s9 ((BQ Et s9).bind fun y11=>(AS (.lst y7) (.lst y11)).bind fun zU=>(DH [a3]).bind fun s13=>(BK (Gy a1 zU) s13 (a0,(.lst []))).bind fun t49=>some (t49.2,t49.1)))
theorem YR:EE md kB (top 18) [0] 1=true:=by kernel_rfl
theorem Xu:Fl md kB (top 18) [0] 1 (QO GA):=qo (by kernel_rfl) fun _ _ _ _=>(by kernel_rfl)
def kA:List (Str×xZ):=("_law_nodes", Aa (AE (top 18)) [0] 1 false (QO GA))::kB
noncomputable def Iq(zCW:Dv)(x12:Dv):Option Dv:=
(AA zCW x12).bind fun zp=>some zp
noncomputable def Ik(x5:Dv)(zCW:Dv):Option (Dv):=
(AA x5 (.int 0)).bind fun d7=>(De d7 (.str [100,111])).bind fun b8=>if b8=true then
(AA x5 (.int 1)).bind fun d9=>(AA x5 (.int 2)).bind fun ye=>(items ye).bind fun s11=>HQ s11 ((BQ (Iq zCW) s11).bind fun y14=>(Av (.lst y14)).bind fun d15=>some (.tup [(.str [100,111]),d9,d15]))
else
some x5
noncomputable def Ij(zBy:Dv)(t16:Dv):Option (Dv):=
(DN t16 zBy).bind fun b17=>if b17=true then
EC "list" zBy (
(AX zBy [t16]).bind fun r18=>some r18.2)
else
some zBy
noncomputable def Ii(t16:Dv)(t19:Dv):Option (Dv):=
Option.or (EC "list" t19 (
(Hf t19 t16).bind fun d20=>some d20)) (EC "tuple" t19 (
(IQ t19 t16).bind fun d21=>some d21))
noncomputable def CZ(x5:Dv)(t6:Dv×Dv):Option (Dv×Dv):=
((Ik x5 t6.2)).bind fun t16=>((Ij t6.1 t16)).bind fun t19=>EC "list" t6.2 (
((Ii t16 t19)).bind fun t22=>(AX t6.2 [t22]).bind fun r23=>some (t19,r23.2))
noncomputable def CY(x1:Dv)(t2:Dv×Dv):Option (Dv×Dv):=
(Ou [3,4] x1).bind fun(t3:Dv×Dv)=>(items t3.1).bind fun s4=>(BK CZ s4 (t2.1,(.lst []))).bind fun t24=>EC "list" t2.2 (
(AA t24.2 t3.2).bind fun d25=>(AX t2.2 [d25]).bind fun r26=>some (t24.1,r26.2))
noncomputable def EM(a0:Dv):Option (Dv):=
(items a0).bind fun s0=>(BK CY s0 ((.lst []),(.lst []))).bind fun t27=>some (.tup [t27.1,t27.2])
theorem cE:EE md kA (top 19) [] 1=true:=by kernel_rfl
theorem bu:Fl md kA (top 19) [] 1 (one EM):=la (by kernel_rfl) fun _=>(by kernel_rfl)
def jz:List (Str×xZ):=("_law_laid", Aa (AE (top 19)) [] 1 false (one EM))::kA
noncomputable def Ih(a0:Dv)(a1:Dv)(a2:Dv)(x1:Dv):Option (Dv):=
(AA a0 a2).bind fun d2=>(De x1 d2).bind fun b3=>if b3=true then
(AA a0 a1).bind fun d4=>some d4
else
some x1
noncomputable def Di(a0:Dv)(a1:Dv)(a2:Dv)(x1:Dv):Option Dv:=
((Ih a0 a1 a2 x1)).bind fun t5=>some t5
noncomputable def BO(a0 a1 a2:Dv):Option (Dv):=
(items a0).bind fun s0=>HQ s0 ((BQ (Di a0 a1 a2) s0).bind fun y6=>some (.lst y6))
theorem UI:EE md jz (top 20) [] 1=true:=by kernel_rfl
theorem UA:Fl md jz (top 20) [] 1 (FW BO):=lG (by kernel_rfl) fun _ _ _=>(by kernel_rfl)
def jy:List (Str×xZ):=("_law_merged", Aa (AE (top 20)) [] 1 false (FW BO))::jz
noncomputable def Kf(a0:Dv)(x2:Dv)(x5:Dv):Option (Bool):=
(AA a0 x2).bind fun ye=>(AA ye (.int 0)).bind fun zI=>(De zI (.str [100,111])).bind fun b12=>if b12=true then
(AA a0 x2).bind fun zp=>(FT zp none (some 2)).bind fun d14=>(AA a0 x5).bind fun d15=>(FT d15 none (some 2)).bind fun d16=>(De d14 d16).bind fun b17=>some b17
else
some false
noncomputable def Ke(a0:Dv)(a1:Dv)(x2:Dv)(x5:Dv):Option (Bool):=
(AA a1 x2).bind fun d7=>(AA a1 x5).bind fun d8=>(Jw d7 d8).bind fun b9=>if b9=true then
((Kf a0 x2 x5)).bind fun t18=>some t18
else
some false
noncomputable def Gu(a1:Dv)(x23:Dv):Option Dv:=
(AA a1 x23).bind fun d24=>some d24
noncomputable def Gs(a1:Dv)(x29:Dv):Option Dv:=
(AA a1 x29).bind fun d30=>some d30
noncomputable def Kj(a0:Dv)(a1:Dv)(x2:Dv)(x5:Dv)(t6:Dv):Option (Dv):=
(AA a0 x2).bind fun d20=>(AA d20 (.int 2)).bind fun d21=>(items d21).bind fun s22=>HQ s22 ((BQ (Gu a1) s22).bind fun y25=>(AA a0 x5).bind fun d26=>(AA d26 (.int 2)).bind fun d27=>(items d27).bind fun s28=>HQ s28 ((BQ (Gs a1) s28).bind fun y31=>(De (.lst y25) (.lst y31)).bind fun b32=>if b32=true then
EC "list" t6 (
(AX t6 [(.tup [x2,x5])]).bind fun r33=>some r33.2)
else
some t6))
noncomputable def Gn(a0:Dv)(a1:Dv)(x2:Dv)(x5:Dv)(t6:Dv):Option (Dv):=
((Ke a0 a1 x2 x5)).bind fun t19=>if t19=true then
((Kj a0 a1 x2 x5 t6)).bind fun t34=>some t34
else
some t6
noncomputable def HA(a0:Dv)(a1:Dv)(x2:Dv)(x5:Dv)(t6:Dv):Option (Dv):=
((Gn a0 a1 x2 x5 t6)).bind fun t35=>some t35
noncomputable def Gz(a0:Dv)(a1:Dv)(x2:Dv)(t3:Dv):Option (Dv):=
(DH [x2]).bind fun s4=>(BK (HA a0 a1 x2) s4 t3).bind fun t36=>some t36
noncomputable def Dn(a0 a1:Dv):Option (Dv):=
(AN a0).bind fun d0=>(DH [d0]).bind fun s1=>(BK (Gz a0 a1) s1 (.lst [])).bind fun t37=>some t37
theorem YT:EE md jy (top 21) [] 1=true:=by kernel_rfl
theorem Xw:Fl md jy (top 21) [] 1 (two Dn):=SN (by kernel_rfl) fun _ _=>(by kernel_rfl)
def jw:List (Str×xZ):=("_law_likes", Aa (AE (top 21)) [] 1 false (two Dn))::jy
noncomputable def Fe(x3:Dv)(t4:Dv):Option (Dv):=
(Ou [3,4] x3).bind fun(t5:Dv×Dv)=>(BO t4 t5.1 t5.2).bind fun c6=>some c6
noncomputable def Df(t9:Dv×Dv):Option Bool:=
(AN t9.2).bind fun ye=>(Uq ye (.int 0)).bind fun b11=>some b11
noncomputable def Fc(a0:Dv)(t9:Dv×Dv):Option (Dv×Dv):=
(AA t9.2 (.int 0)).bind fun zU=>(AA zU (.int 0)).bind fun zp=>(AA t9.2 (.int 0)).bind fun d14=>(AA d14 (.int 1)).bind fun d15=>(BO t9.1 zp d15).bind fun c16=>(Dn a0 c16).bind fun c17=>some (c16,c17)
noncomputable def EN(a0 a1:Dv):Option (Dv):=
(AN a0).bind fun d0=>(Bg [d0]).bind fun d1=>(items a1).bind fun s2=>(BK Fe s2 d1).bind fun t7=>(Dn a0 t7).bind fun c8=>(Up Df (Fc a0) 1000000 (t7,c8)).bind fun t18=>some t18.1
theorem UJ:EE md jw (top 22) [] 0=true:=by kernel_rfl
theorem UB:Fl md jw (top 22) [] 0 (two EN):=SN (by kernel_rfl) fun _ _=>(by kernel_rfl)
def jv:List (Str×xZ):=("_law_labels", Aa (AE (top 22)) [] 0 false (two EN))::jw
noncomputable def Dj(x1:Dv)(x4:Dv):Option (Option Dv):=
(Jw x4 x1).bind fun b5=>if b5=true then
some (some (.tup [x1,x4]))
else some none
noncomputable def Dm(a0:Dv)(x1:Dv)(t2:Dv):Option (Dv):=
EC "list" t2 (
(DH [a0]).bind fun s3=>HQ s3 ((JQ (Dj x1) s3).bind fun y6=>(Bh t2 [(.lst y6)]).bind fun r7=>some r7.2))
noncomputable def Ce(a0:Dv):Option (Dv):=
(DH [a0]).bind fun s0=>(BK (Dm a0) s0 (.lst [])).bind fun t8=>some t8
theorem OR:EE md jv (top 24) [] 1=true:=by kernel_rfl
theorem OF:Fl md jv (top 24) [] 1 (one Ce):=la (by kernel_rfl) fun _=>(by kernel_rfl)
def ju:List (Str×xZ):=("_law_all_pairs", Aa (AE (top 24)) [] 1 false (one Ce))::jv
noncomputable def Iv(zBr:Dv)(x12:Dv)(t13:Dv×Dv):Option (Dv×Dv):=
EC "list" t13.2 (
(AN zBr).bind fun d14=>(AK t13.1 d14).bind fun c15=>(AN zBr).bind fun d16=>(AK c15.2 d16).bind fun c17=>(AX t13.2 [(.tup [c15.1,c17.1])]).bind fun r18=>some (c17.2,r18.2))
noncomputable def NG(zBV:Dv)(c24:Dv)(zAu:Dv)(zAP:Dv):Option (Bool):=
(AA c24 zAu).bind fun d30=>(AA c24 zAP).bind fun d31=>(De d30 d31).bind fun b32=>if b32=true then
(DN (.tup [zAu,zAP]) zBV).bind fun b33=>some b33
else
some false
noncomputable def Iu(zBV:Dv)(c24:Dv)(x28:Dv):Option (Option Dv):=
(Ou [13,14] x28).bind fun(t29:Dv×Dv)=>((NG zBV c24 t29.1 t29.2)).bind fun t34=>if t34=true then
some (some (.tup [t29.1,t29.2]))
else some none
noncomputable def NF(zBF:Dv)(y35:List Dv):Option (Bool×Dv):=
(AN (.lst y35)).bind fun d36=>(Uq d36 (.int 0)).bind fun b37=>if b37=true then
(AK zBF (.int 2)).bind fun c38=>(De c38.1 (.int 0)).bind fun b39=>some (b39,c38.2)
else
some (false,zBF)
noncomputable def Ip(zDc:Dv)(zDb:Dv)(zBF:Dv)(y35:List Dv):Option (Dv×Dv×Dv):=
((NF zBF y35)).bind fun t40=>if t40.1=true then
(AN (.lst y35)).bind fun d41=>(AK t40.2 d41).bind fun c42=>(AA (.lst y35) c42.1).bind fun d43=>(Ou [7,8] d43).bind fun(t44:Dv×Dv)=>some (c42.2,t44.1,t44.2)
else
some (t40.2,zDc,zDb)
noncomputable def Ir(zBr:Dv)(x47:Dv):Option Dv:=
(Ou [13,14] x47).bind fun(t48:Dv×Dv)=>(BP zBr t48.1).bind fun c49=>(BP zBr t48.2).bind fun c50=>some (.tup [c49,c50])
noncomputable def Iy(a0 a1:Dv):Option (Dv×Dv):=
(Fw a0).bind fun c0=>(AK c0.2 (.int 4)).bind fun c1=>(AA c0.1 (.int 0)).bind fun d2=>(AN d2).bind fun d3=>(De d3 (.int 0)).bind fun b4=>(Hn (.bl b4)).bind fun d5=>(Dc c1.1 d5).bind fun d6=>(AK c1.2 a1).bind fun c7=>(AS (.int 2) c7.1).bind fun d8=>(GA c7.2 c0.1 d6 d8).bind fun c9=>(AK c9.2 (.int 7)).bind fun c10=>(DH [c10.1]).bind fun s11=>(BK (Iv c9.1) s11 (c10.2,(.lst []))).bind fun t19=>(AN c9.1).bind fun d20=>(AK t19.1 d20).bind fun c21=>(AN c9.1).bind fun d22=>(AK c21.2 d22).bind fun c23=>(EN c9.1 t19.2).bind fun c24=>(AN c9.1).bind fun d25=>(Ce d25).bind fun c26=>(items c26).bind fun s27=>HQ s27 ((JQ (Iu t19.2 c24) s27).bind fun y35=>((Ip c21.1 c23.1 c23.2 y35)).bind fun t45=>(items t19.2).bind fun s46=>HQ s46 ((BQ (Ir c9.1) s46).bind fun y51=>(Av (.lst y51)).bind fun d52=>(BP c9.1 t45.2.1).bind fun c53=>(BP c9.1 t45.2.2).bind fun c54=>some ((.tup [c0.1,d6,d52,(.tup [c53,c54])]),t45.1)))
theorem cH:EE md ju (top 23) [0] 1=true:=by kernel_rfl
theorem bx:Fl md ju (top 23) [0] 1 (two Iy):=SN (by kernel_rfl) fun _ _=>(by kernel_rfl)
def jr:List (Str×xZ):=("_law_case", Aa (AE (top 23)) [0] 1 false (two Iy))::ju
noncomputable def Kk(x2:Dv)(t3:Dv):Option (Dv):=
EC "list" t3 (
(Bh t3 [x2]).bind fun r4=>some r4.2)
noncomputable def DB(a0 a1:Dv):Option (Dv):=
(AS a0 (.tup [a1])).bind fun d0=>(items d0).bind fun s1=>(BK Kk s1 (.lst [])).bind fun t5=>some t5
theorem YV:EE md jr (top 25) [] 1=true:=by kernel_rfl
theorem Xy:Fl md jr (top 25) [] 1 (two DB):=SN (by kernel_rfl) fun _ _=>(by kernel_rfl)
def jq:List (Str×xZ):=("_law_forms", Aa (AE (top 25)) [] 1 false (two DB))::jr
noncomputable def Gh(a0:Dv)(x6:Dv):Option (Bool):=
(AA x6 (.int 0)).bind fun d8=>(De d8 (.str [103,105,118,101,110])).bind fun b9=>if b9=true then
(AA x6 (.int 1)).bind fun ye=>(fX (.int 0) ye).bind fun b11=>if b11=true then
(AN a0).bind fun zU=>(Ml ye zU).bind fun b13=>some (!b13)
else
some (!false)
else
some false
noncomputable def Gg(yf:Dv)(x19:Dv):Option (Bool):=
(fX (.int 0) x19).bind fun b20=>if b20=true then
(AN yf).bind fun d21=>(Ml x19 d21).bind fun b22=>if b22=true then
(AA yf x19).bind fun d23=>(AA d23 (.int 0)).bind fun d24=>(De d24 (.str [100,111])).bind fun b25=>some b25
else
some false
else
if false=true then
(AA yf x19).bind fun d26=>(AA d26 (.int 0)).bind fun d27=>(De d27 (.str [100,111])).bind fun b28=>some b28
else
some false
noncomputable def Ex(yf:Dv)(x19:Dv):Option (Option Dv):=
((Gg yf x19)).bind fun t29=>if t29=true then
some (some x19)
else some none
noncomputable def Eo(yf:Dv)(y30:List Dv):Option (Bool):=
(AN (.lst y30)).bind fun d31=>(Ml d31 (.int 2)).bind fun b32=>if b32=true then
some true
else
(AA (.lst y30) (.int 0)).bind fun d33=>(AA yf d33).bind fun d34=>(AA d34 (.int 1)).bind fun d35=>(AA (.lst y30) (.int 1)).bind fun d36=>(AA yf d36).bind fun d37=>(AA d37 (.int 1)).bind fun d38=>(Jw d35 d38).bind fun b39=>some b39
noncomputable def Gw(t7:Dv)(x45:Dv):Option Dv:=
(AA t7 x45).bind fun d46=>some d46
noncomputable def Gv(t7:Dv)(x52:Dv):Option Dv:=
(AA t7 x52).bind fun d53=>some d53
noncomputable def CO(a0:Dv)(yf:Dv)(zAj:Dv)(x6:Dv)(t7:Dv):Option (Lp Dv (Dv) (Unit)):=
((Gh a0 x6)).bind fun t14=>if t14=true then
some (.rt (.bl false) ())
else
(AA x6 (.int 0)).bind fun d15=>(De d15 (.str [108,105,107,101])).bind fun b16=>if b16=true then
(FT x6 (some 1) none).bind fun d17=>(items d17).bind fun s18=>HQ s18 ((JQ (Ex yf) s18).bind fun y30=>((Eo yf y30)).bind fun t40=>if t40=true then
some (.rt (.bl false) ())
else
(AA (.lst y30) (.int 0)).bind fun d41=>(AA yf d41).bind fun d42=>(AA d42 (.int 2)).bind fun d43=>(items d43).bind fun s44=>HQ s44 ((BQ (Gw t7) s44).bind fun y47=>(AA (.lst y30) (.int 1)).bind fun d48=>(AA yf d48).bind fun d49=>(AA d49 (.int 2)).bind fun d50=>(items d50).bind fun s51=>HQ s51 ((BQ (Gv t7) s51).bind fun y54=>(Jw (.lst y47) (.lst y54)).bind fun b55=>if b55=true then
some (.rt (.bl false) ())
else
(AA (.lst y30) (.int 0)).bind fun d56=>(AA (.lst y30) (.int 1)).bind fun d57=>(BO t7 d56 d57).bind fun c58=>some (.go c58))))
else
(AA x6 (.int 1)).bind fun d59=>(CH (.int 2) d59).bind fun d60=>(AA zAj d60).bind fun d61=>(AA x6 (.int 1)).bind fun d62=>(CH (.int 2) d62).bind fun d63=>(AS d63 (.int 1)).bind fun d64=>(AA zAj d64).bind fun d65=>(BO t7 d61 d65).bind fun c66=>some (.go c66)
noncomputable def GB(a0 a1 a2:Dv):Option (Dv):=
(DB a0 a1).bind fun c0=>(EM c0).bind fun c1=>(Ou [3,4] c1).bind fun(t2:Dv×Dv)=>(AN t2.1).bind fun d3=>(Bg [d3]).bind fun d4=>(items a2).bind fun s5=>(Ed (CO a0 t2.1 t2.2) s5 d4).bind fun l77=>l77.el (fun(t67:Dv)=>(Cw (.int 2)).bind fun d70=>(AA t2.2 d70).bind fun d71=>(AA t67 d71).bind fun d72=>(Cw (.int 1)).bind fun d73=>(AA t2.2 d73).bind fun d74=>(AA t67 d74).bind fun d75=>(De d72 d75).bind fun b76=>some (.bl b76)) fun(e68:Dv) (r69:Unit)=>some e68
theorem YU:EE md jq (top 26) [] 1=true:=by kernel_rfl
theorem Xx:Fl md jq (top 26) [] 1 (FW GB):=lG (by kernel_rfl) fun _ _ _=>(by kernel_rfl)
def jo:List (Str×xZ):=("_law_holds", Aa (AE (top 26)) [] 1 true (FW GB))::jq
noncomputable def DT(t7:Dv×Dv×Dv×Dv×Dv):Option Bool:=
(AN t7.2.2.1).bind fun d8=>(AN t7.2.2.2.2).bind fun d9=>(AS d8 d9).bind fun ye=>(Uq ye (.int 0)).bind fun b11=>some b11
noncomputable def Ep(zAu:Dv)(zAP:Dv)(zBY:Dv):Option (Dv):=
(Cw (.int 1)).bind fun d33=>(AA zBY d33).bind fun d34=>(AA d34 (.int 1)).bind fun d35=>(De d35 zAP).bind fun b36=>if b36=true then
(Cw (.int 1)).bind fun d37=>(AU zBY d37 (.tup [(.str [108,105,107,101]),zAP,zAu])).bind fun d38=>some d38
else
some zBY
noncomputable def Kh(zAj:Dv)(zBT:Dv)(yN:Dv)(yC:Dv)(zAi:Dv)(zBs:Dv)(zCU:Dv):Option (Dv×Dv×Dv×Dv):=
(AN yN).bind fun d16=>(Ml zBs d16).bind fun b17=>if b17=true then
EC "list" yN (
(He yN [zBs]).bind fun r18=>EC "list" yC (
(AX yC [(.tup [(.str [103,105,118,101,110]),r18.1])]).bind fun r19=>(CH (.int 2) r18.1).bind fun d20=>(AA zAj d20).bind fun d21=>(CH (.int 2) r18.1).bind fun d22=>(AS d22 (.int 1)).bind fun d23=>(AA zAj d23).bind fun d24=>(BO zBT d21 d24).bind fun c25=>some (zCU,c25,r18.2,r19.2)))
else
(AN yN).bind fun d26=>(Hd zBs d26).bind fun d27=>(AA zAi d27).bind fun d28=>(Ou [11,12] d28).bind fun(t29:Dv×Dv)=>EC "list" yC (
(AK zCU (.int 2)).bind fun c30=>(AA (.lst [t29.1,t29.2]) c30.1).bind fun d31=>(AX yC [(.tup [(.str [108,105,107,101]),d31,t29.2])]).bind fun r32=>((Ep t29.1 t29.2 r32.2)).bind fun t39=>(BO zBT t29.1 t29.2).bind fun c40=>some (c30.2,c40,yN,t39))
noncomputable def DU(yf:Dv)(zAj:Dv)(t7:Dv×Dv×Dv×Dv×Dv):Option (Dv×Dv×Dv×Dv×Dv):=
(AN t7.2.2.1).bind fun zU=>(AN t7.2.2.2.2).bind fun zp=>(AS zU zp).bind fun d14=>(AK t7.1 d14).bind fun c15=>((Kh zAj t7.2.1 t7.2.2.1 t7.2.2.2.1 t7.2.2.2.2 c15.1 c15.2)).bind fun t41=>(Dn yf t41.2.1).bind fun c42=>some (t41.1,t41.2.1,t41.2.2.1,t41.2.2.2,c42)
noncomputable def Fy(a0 a1 a2:Dv):Option (Dv×Dv):=
(DB a1 a2).bind fun c0=>(EM c0).bind fun c1=>(Ou [3,4] c1).bind fun(t2:Dv×Dv)=>(AN t2.1).bind fun d3=>(Bg [d3]).bind fun d4=>(AN a1).bind fun d5=>(Bg [d5]).bind fun d6=>(Up DT (DU t2.1 t2.2) 1000000 (a0,d4,d6,(.lst []),(.lst []))).bind fun t43=>some (t43.2.2.2.1,t43.1)
theorem YQ:EE md jo (top 27) [0] 1=true:=by kernel_rfl
theorem Xt:Fl md jo (top 27) [0] 1 (FW Fy):=lG (by kernel_rfl) fun _ _ _=>(by kernel_rfl)
def jm:List (Str×xZ):=("_law_paper", Aa (AE (top 27)) [0] 1 false (FW Fy))::jo
noncomputable def Kl(a0 a1:Dv):Option (Dv×Dv):=
(AK a0 (.int 2)).bind fun c0=>(De c0.1 (.int 0)).bind fun b1=>if b1=true then
(AK c0.2 (.int 9)).bind fun c2=>(Hd c2.1 (.int 1)).bind fun d3=>some ((.tup [(.str [103,105,118,101,110]),d3]),c2.2)
else
(AS a1 (.int 3)).bind fun d4=>(AK c0.2 d4).bind fun c5=>(Hd c5.1 (.int 1)).bind fun d6=>(AS a1 (.int 3)).bind fun d7=>(AK c5.2 d7).bind fun c8=>(Hd c8.1 (.int 1)).bind fun d9=>some ((.tup [(.str [108,105,107,101]),d6,d9]),c8.2)
theorem kX:EE md jm (top 28) [0] 1=true:=by kernel_rfl
theorem kR:Fl md jm (top 28) [0] 1 (two Kl):=SN (by kernel_rfl) fun _ _=>(by kernel_rfl)
def jl:List (Str×xZ):=("_law_row", Aa (AE (top 28)) [0] 1 false (two Kl))::jm
noncomputable def DF(d0:Dv)(zEW:Dv)(zEV:Dv):Option (Bool):=
(De zEW (.int 2)).bind fun b19=>if b19=true then
(AN d0).bind fun d20=>(Ml zEV d20).bind fun b21=>some b21
else
some false
noncomputable def CD(a0 a1 a2:Dv):Option (Dv×Dv):=
(Jt a1).bind fun d0=>(AK a0 (.int 5)).bind fun c1=>(AN d0).bind fun d2=>(AS d2 (.int 1)).bind fun d3=>(AK c1.2 d3).bind fun c4=>(De c1.1 (.int 0)).bind fun b5=>if b5=true then
SR c4.1 fun i6=>(FT d0 none (some i6)).bind fun d7=>(AS c4.1 (.int 1)).bind fun d8=>SR d8 fun i9=>(FT d0 (some i9) none).bind fun ye=>(AS d7 ye).bind fun zI=>some (zI,c4.2)
else
(De c1.1 (.int 1)).bind fun b12=>if b12=true then
(AS c4.1 (.int 1)).bind fun zp=>SR zp fun i14=>(FT d0 none (some i14)).bind fun d15=>SR c4.1 fun i16=>(FT d0 (some i16) none).bind fun d17=>(AS d15 d17).bind fun d18=>some (d18,c4.2)
else
((DF d0 c1.1 c4.1)).bind fun t22=>if t22=true then
(Cw (.int 1)).bind fun d23=>(AA d0 d23).bind fun d24=>(AA d0 c4.1).bind fun d25=>(RV (.tup [d24,d25])).bind fun(t26:Dv×Dv)=>(AU d0 c4.1 t26.1).bind fun d27=>(Cw (.int 1)).bind fun d28=>(AU d27 d28 t26.2).bind fun d29=>some (d29,c4.2)
else
(De c1.1 (.int 3)).bind fun b30=>if b30=true then
SR c4.1 fun i31=>(FT d0 none (some i31)).bind fun d32=>(Kl c4.2 a2).bind fun c33=>(AS d32 (.lst [c33.1])).bind fun d34=>(AS c4.1 (.int 1)).bind fun d35=>SR d35 fun i36=>(FT d0 (some i36) none).bind fun d37=>(AS d34 d37).bind fun d38=>some (d38,c33.2)
else
SR c4.1 fun i39=>(FT d0 none (some i39)).bind fun d40=>(Kl c4.2 a2).bind fun c41=>(AS d40 (.lst [c41.1])).bind fun d42=>SR c4.1 fun i43=>(FT d0 (some i43) none).bind fun d44=>(AS d42 d44).bind fun d45=>some (d45,c41.2)
theorem MY:EE md jl (top 29) [0] 1=true:=by kernel_rfl
theorem MS:Fl md jl (top 29) [0] 1 (FW CD):=lG (by kernel_rfl) fun _ _ _=>(by kernel_rfl)
def oO:List (Str×xZ):=("_law_otherwise", Aa (AE (top 29)) [0] 1 false (FW CD))::jl
noncomputable def PQ(zU:Dv)(x16:Dv)(t17:Dv×Dv×Dv):Option (Dv×Dv×Dv):=
(CD t17.1 t17.2.1 zU).bind fun c18=>EC "list" t17.2.2 (
(Av c18.1).bind fun d19=>(AX t17.2.2 [d19]).bind fun r20=>some (c18.2,c18.1,r20.2))
noncomputable def VV(yo:Dv)(yn:Dv)(x25:Dv)(c27:Dv):Option (Bool):=
(ZY c27 (.ty "bool")).bind fun d28=>(Qm d28).bind fun b29=>if(!b29)=true then
some true
else
(GB yo yn x25).bind fun c30=>bif TL c30 then
(Jw c27 c30).bind fun b31=>some b31
else none
noncomputable def PP(yo:Dv)(yn:Dv)(x25:Dv)(t26:Unit):Option (Lp Dv (Unit) (Unit)):=
(CB yo yn x25).bind fun c27=>((VV yo yn x25 c27)).bind fun t32=>if t32=true then
some (.rt (.bl false) ())
else
some (.go ())
noncomputable def Lm(a0:Dv)(x4:Dv)(t5:Unit):Option (Lp Dv (Unit) (Unit)):=
(Iw a0 x4).bind fun c6=>(Iy c6 (.int 10)).bind fun c7=>(Ou [3,4,5,6] c7.1).bind fun(t8:Dv×Dv×Dv×Dv)=>(DB t8.2.2.1 t8.2.2.2).bind fun c9=>(EM c9).bind fun c10=>(AA c10 (.int 0)).bind fun zI=>(AN zI).bind fun zU=>(Fy c7.2 t8.2.2.1 t8.2.2.2).bind fun c13=>(Av c13.1).bind fun d14=>(DH [(.int 3)]).bind fun s15=>(BK (PQ zU) s15 (c13.2,c13.1,(.lst [d14,(.tup [])]))).bind fun t21=>(FT t21.2.2 none (some 1)).bind fun d22=>(AS t21.2.2 d22).bind fun d23=>(items d23).bind fun s24=>(Ed (PP t8.2.2.1 t8.2.2.2) s24 ()).bind fun l36=>l36.el (fun(t33:Unit)=>some (.go ())) fun(e34:Dv) (r35:Unit)=>some (.rt e34 ())
noncomputable def aM(a0:Dv):Option (Dv):=
(AN a0).bind fun d0=>(LX (.int 6) d0).bind fun d1=>(Dc (.int 4) d1).bind fun d2=>(Sn [(.int 1),d2]).bind fun s3=>(Ed (Lm a0) s3 ()).bind fun l40=>l40.el (fun(t37:Unit)=>some (.bl true)) fun(e38:Dv) (r39:Unit)=>some e38
theorem oo:EE md oO (top 30) [] 1=true:=by kernel_rfl
theorem oh:Fl md oO (top 30) [] 1 (one aM):=la (by kernel_rfl) fun _=>(by kernel_rfl)
end My
namespace R
open PySem L2
def Fd(x:Dv):Prop:=∃a b:Int,x=.lst [.int a,.int b]
def Tx(N:Nat)(x:Dv):Prop:=∃l,x=.str l/\l.length<=N/\∀c∈l,c < 128
variable {α:Type} {xs:List Dv}
section
variable {γ τ ρ:Type}
theorem HY(g:Dv->γ->Option (Dv×γ))(P:γ->Prop)(R:Dv->Prop):∀(xs:List Dv) (c:γ),P c->(∀x∈xs,∀c,P c->∃d c',g x c=some (d,c')/\R d/\P c')->∃ds c',Cr g xs c=some (ds,c')/\ds.length=xs.length/\(∀d∈ds,R d)/\P c'
 | [],c,hc,_=>⟨[],c,rfl,rfl,fun _ z=>(J4 z).elim,hc⟩
 | x::xs,c,hc,h=>by
  obtain⟨d,c1,e1,r1,p1⟩:=h x B2 c hc;obtain⟨ds,c2,e2,l2,r2,p2⟩:=HY g P R xs c1 p1 fun y hy=>h y (A7 _ hy)
  refine⟨d::ds,c2,by simp only[Cr,e1,e2,A0],by rw[C6,C6,l2],fun y hy=>?_,p2⟩;rcases B9.mp hy with rfl | hy
  ·exact r1
  ·exact r2 y hy
theorem JZ(g:Dv->γ->Option γ)(I:Nat->γ->Prop):∀(xs:List Dv) (k:Nat) (c:γ),I k c->(∀i x,xs[i]?=some x->∀c,I (k+i) c->∃c',g x c=some c'/\I (k+i+1) c')->∃c',BK g xs c=some c'/\I (k+xs.length) c'
 | [],k,c,hc,_=>⟨c,rfl,hc⟩
 | x::xs,k,c,hc,h=>by
  obtain⟨c1,e1,i1⟩:=h 0 x rfl c hc;obtain⟨c2,e2,i2⟩:=JZ g I xs (k+1) c1 i1 fun i y hy c hc=>by
   have:=h (i+1) y hy c (by rw[show k+(i+1)=k+1+i by omega];exact hc);rw[show k+(i+1)+1=k+1+i+1 by omega] at this;exact this
  exact⟨c2,by simp only[BK,e1,e2,A0],by rw[C6,show k+(xs.length+1)=k+1+xs.length by omega];exact i2⟩
theorem XZ(g:Dv->γ->Option γ)(P:γ->Prop)(xs:List Dv)(c:γ)(hc:P c)(h:∀x∈xs,∀c,P c->∃c',g x c=some c'/\P c'):∃c',BK g xs c=some c'/\P c':=
 JZ g (fun _=>P) xs 0 c hc fun i x e c hc=>h x (N0 e) c hc
theorem JO(g:Dv->Option Dv)(R:Dv->Prop):∀(xs:List Dv),(∀x∈xs,∃d,g x=some d/\R d)->∃ds,BQ g xs=some ds/\ds.length=xs.length/\∀d∈ds,R d
 | [],_=>⟨[],rfl,rfl,fun _ z=>by cases z⟩
 | x::xs,h=>by
  obtain⟨d,e1,r1⟩:=h x B2;obtain⟨ds,e2,l2,r2⟩:=JO g R xs fun y hy=>h y (A7 _ hy)
  refine⟨d::ds,by simp only[BQ,e1,e2,A0],by rw[C6,C6,l2],fun y hy=>?_⟩;rcases B9.mp hy with rfl | hy
  ·exact r1
  ·exact r2 y hy
theorem MJ(g:Dv->γ->Option (Lp τ γ ρ))(c:γ):∀(xs:List Dv),(∀x∈xs,g x c=some (.go c))->Ed g xs c=some (.go c)
 | [],_=>rfl
 | x::xs,h=>by simp only[Ed,h x B2,A0];exact MJ g c xs fun y hy=>h y (A7 _ hy)
theorem BC{o:Option α}(h:xs.length<=1000000):HQ xs o=o:=by unfold HQ;rw[if_pos h]
end
theorem Be(xs:List α)(i:Nat)(h:i < xs.length):FQ xs (i:Int)=some xs[i]:=by
 unfold FQ Hq;rw[if_pos (by omega),if_pos (by omega)];simp[h]
theorem Mn{xs:List α}{i:Int}(h0:0<=i)(h:i < xs.length):∃x∈xs,FQ xs i=some x:=by
 obtain⟨n,rfl⟩:∃n:Nat,i=n:=⟨i.toNat,by omega⟩;exact⟨xs[n]'(by omega),G2 _,Be xs n (by omega)⟩
theorem ZZ{i:Int}(h0:0<=i)(h:i < xs.length):∃x∈xs,AA (.lst xs) (.int i)=some x:=Mn h0 h
theorem pQ{l:List Nat}{i:Int}(h0:0<=i)(h:i < l.length)(hl:l.length<=1000000):∃c∈l,AA (.str l) (.int i)=some (.str [c]):=by
 obtain⟨c,hc,e⟩:=Mn h0 h;exact⟨c,hc,by simp only[AA,if_pos hl,e,F7]⟩
theorem Lq{n:Int}(h0:-1000000000<=n)(h:n<=1000000000):DH [.int n]=some ((B1 n.toNat).map fun k=>.int (k:Nat)):=by
 have:small n=true:=by unfold small;simp[h0,h]
 simp only[DH,this,cond_true,Int.zero_add]
theorem Lr(n:Nat)(h:n<=1000000):DH [.int (n:Nat)]=some ((B1 n).map fun k=>.int (k:Nat)):=by
 have:=Lq (n:=(n:Int)) (by omega) (by omega);simpa using this
theorem Cv(xs:List Dv)(o:Option α):EC "list" (.lst xs) o=o:=rfl
theorem oH(l:List Nat)(o:Option α):EC "str" (.str l) o=o:=rfl
theorem lN{R:Type}(i:Int)(k:Int->Option R):SR (.int i) k=k i:=rfl
theorem Zt(b:Bool):Qm (.bl b)=some b:=rfl
theorem qR(b:Bool):TL (.bl b)=true:=rfl
theorem IU{β:Type}{i j:Nat}(x y:Dv)(f:Dv×Dv->Option β):((Ou [i,j] (.tup [x,y])).bind fun(t:Dv×Dv)=>f t)=f (x,y):=rfl
theorem Cs{y:Dv}(h:xs.length<=1000000):AX (.lst xs) [y]=some (.xQ,.lst (xs++[y])):=by simp only[AX,if_pos h]
theorem ef{ys:List Dv}(h:xs.length+ys.length<=1000000):Bh (.lst xs) [.lst ys]=some (.xQ,.lst (xs++ys)):=by simp only[Bh,if_pos h]
theorem GS{xs:List α}{lo hi:Option Int}{x:α}(h:x∈BG xs lo hi):x∈xs:=List.mem_of_mem_drop (uL h)
theorem IK(xs:List α)(lo hi:Option Int):(BG xs lo hi).length<=xs.length:=by
 unfold BG;rw[S5,Y3];omega
theorem Jl(l:List Nat)(lo hi:Option Int):QZ l lo hi=BG l lo hi:=rfl
theorem FV:∀ls:List (List Nat),Ah (ls.map Dv.str)=true
 | []=>rfl
 | x::xs=>by simp only[B6,Ah,Dv.cmp,FV xs,G6]
theorem FU:∀ls:List (List Nat),BD (ls.map Dv.str)=0
 | []=>rfl
 | x::xs=>by simp only[B6,BD,Dv.dep,FU xs];rfl
theorem HI(x:List Nat):∀ls:List (List Nat),zM (.str x) (ls.map Dv.str)=ls.contains x
 | []=>rfl
 | y::ys=>by
  have:=HI x ys;simp only[zM] at this;simp only[zM,B6,Q5,this,l7,yU]
  by_cases e:y=x
  ·subst e;simp
  ·have e2:¬x=y:=fun z=>e z.symm
   have h1:(y == x)=false:=by simpa using e
   have h2:(x == y)=false:=by simpa using e2
   rw[h1,h2]
theorem pM(neg:Bool)(x:List Nat)(ls:List (List Nat)):Hb neg (.str x) (.lst (ls.map Dv.str))=some (if neg=true then !ls.contains x else ls.contains x):=by
 simp only[Hb,lV,Dv.cmp,FV,FU,G6,G5,decide_true,if_true,HI]
theorem Uk(neg:Bool)(x:List Nat)(ls:List (List Nat)):Hb neg (.str x) (.tup (ls.map Dv.str))=some (if neg=true then !ls.contains x else ls.contains x):=by
 simp only[Hb,lV,Dv.cmp,FV,FU,G6,G5,decide_true,if_true,HI]
theorem Ei(i j:Int):AS (.int i) (.int j)=some (.int (i+j)):=rfl
theorem On(i j:Int)(h:0 < j):Eh (.int i) (.int j)=some (.int (i % j)):=by simp only[Eh,CK,h,decide_true,if_true]
theorem BS(i j:Int):De (.int i) (.int j)=some (decide (i=j)):=by
 simp only[Mm,Dv.cmp,Dv.dep,G6,G5,decide_true,if_true,yU,B0,if_false];congr 1
theorem Mj(i j:Int):Jw (.int i) (.int j)=some (!decide (i=j)):=by
 simp only[Mm,Dv.cmp,Dv.dep,G6,G5,decide_true,if_true,yU];congr 1
theorem Tx.cut{N:Nat}{x:Dv}(h:Tx N x)(hN:N<=1000000)(lo hi:Option Int):∃y,FT x lo hi=some y/\Tx N y:=by
 obtain⟨l,rfl,h1,h2⟩:=h;exact⟨.str (QZ l lo hi),by simp only[FT,if_pos (A4 h1 hN)],_,rfl,by rw[Jl];exact A4 (IK _ _ _) h1,fun c hc=>h2 c (GS (by rw[<- Jl];exact hc))⟩
theorem Tx.add{N M:Nat}{x y:Dv}(h:Tx N x)(h':Tx M y)(hN:N+M<=1000000):∃z,AS x y=some z/\Tx (N+M) z:=by
 obtain⟨l,rfl,h1,h2⟩:=h;obtain⟨l',rfl,h1',h2'⟩:=h';refine⟨.str (l++l'),by simp only[AS,if_pos (show l.length+l'.length<=1000000 by omega)],_,rfl,by rw[C5];omega,fun c hc=>?_⟩;rcases C0.mp hc with hc | hc
 ·exact h2 c hc
 ·exact h2' c hc
theorem fj{c:Nat}(h:c < 128):Y5 c < 128:=by
 unfold Y5;split<;>omega
theorem Tx.upper{N:Nat}{x:Dv}(h:Tx N x)(hN:N<=1000000):∃y,Hc x=some y/\Tx N y:=by
 obtain⟨l,rfl,h1,h2⟩:=h;have e:(l.all (fun c=>decide (c < 128)) && decide (l.length<=1000000))=true:=by
  rw[A2];exact⟨F0.mpr fun c hc=>decide_eq_true (h2 c hc),decide_eq_true (A4 h1 hN)⟩
 refine⟨.str (l.map Y5),by simp only[Hc,e,if_true],_,rfl,by rw[D5];exact h1,fun c hc=>?_⟩;obtain⟨d,hd,rfl⟩:=M6.mp hc;exact fj (h2 d hd)
theorem KU:∀ls:List (List Nat),KW (ls.map Dv.str)=some ls
 | []=>rfl
 | x::xs=>by simp only[B6,KW,KU xs,F7]
theorem QG:∀{xs:List Dv},(∀x∈xs,∃c,x=.str [c]/\c < 128)->xs.length<=1000->∃z,Ju (.str []) (.lst xs)=some z/\Tx xs.length z:=by
 intro xs h hl;have:∃cs:List Nat,xs=(cs.map fun c=>[c]).map Dv.str/\∀c∈cs,c < 128:=by
  clear hl
  induction xs with
  | nil=>exact⟨[],rfl,fun _ z=>by cases z⟩
  | cons x xs ih =>
   obtain⟨cs,e,h2⟩:=ih fun y hy=>h y (A7 _ hy)
   obtain⟨c,rfl,hc⟩:=h x B2;refine⟨c::cs,by rw[e];rfl,fun d hd=>?_⟩;rcases B9.mp hd with rfl | hd
   ·exact hc
   ·exact h2 d hd
 obtain⟨cs,e,h2⟩:=this;have hlen:xs.length=cs.length:=by rw[e];simp
 have hj:∀cs:List Nat,jn [] (cs.map fun c=>[c])=cs:=by
  intro cs;cases cs with
  | nil=>rfl
  | cons a b =>
   show[a]++((b.map fun c=>[c]).flatMap fun y=>[]++y)=a::b;have:∀b:List Nat,((b.map fun c=>[c]).flatMap fun y=>[]++y)=b:=by
    intro b
    induction b with
    | nil=>rfl
    | cons x y ih=>simp only[B6,o8,ih];rfl
   rw[this];rfl
 have hs:((cs.map fun c=>[c]).map U2).sum=cs.length:=by
  clear e h2 hlen
  induction cs with
  | nil=>rfl
  | cons a b ih=>rw[B6,B6,List.sum_cons,ih];simp;omega
 rw[e];refine⟨.str cs,?_,cs,rfl,by simp,h2⟩;simp only[Ju,KU,hj];rw[if_pos (by rw[hs];simp;omega)]
end R
namespace My
open PySem L2 R
theorem pI{G:Prop}(h:∀P:Prop,(G->P)->P):G:=h G id
variable {f:Dv}
theorem AO(hf:Fd f){n:Int}(h0:0 < n)(h1:n < 1073741824):∃(r:Nat) (f':Dv),AK f (.int n)=some (.int r,f')/\(r:Int) < n/\Fd f':=by
 obtain⟨a,b,rfl⟩:=hf;have i0:∀x y:Dv,AA (.lst [x,y]) (.int 0)=some x:=fun _ _=>rfl
 have i1:∀x y:Dv,AA (.lst [x,y]) (.int 1)=some y:=fun _ _=>rfl
 have s0:∀x y d:Dv,AU (.lst [x,y]) (.int 0) d=some (.lst [d,y]):=fun _ _ _=>rfl
 have s1:∀x y d:Dv,AU (.lst [x,y]) (.int 1) d=some (.lst [x,d]):=fun _ _ _=>rfl
 have m:∀x:Int,∃r:Nat,x % n=r/\(r:Int) < n:=fun x=>⟨(x % n).toNat,by have:=tV x (show n≠0 by omega);omega,by have:=tV x (show n≠0 by omega);have:=ux x h0;omega⟩
 have zEZ:big 48271=true:=by decide
 have zEY:big 40692=true:=by decide
 have zEX:big 2147483647=true:=by decide
 unfold AK;simp only[i0,A0,EA,Ml]
 by_cases h:0 < a
 ·obtain⟨r,e,hr⟩:=m a;refine⟨r,.lst [.int (a / n),.int b],?_,hr,a / n,b,rfl⟩;simp only[h,decide_true,if_true,Eh,Qn,CK,h0,h1,G6,A0,i0,s0,e]
 ·simp only[h,decide_false,B0,if_false,i1,s1,CH,zEZ,zEY,zEX,vN,if_true,A0,Eh,Qn,CK,AS,h0,decide_true,show(0:Int) < 2147483647 by decide,show(0:Int) < 2147483399 by decide,show(0:Int) < 8191 by decide,show(8191:Int) < 1073741824 by decide,G6];obtain⟨r,e,hr⟩:=m (((b * 48271 % 2147483647) * 2147483647+((b * 48271 % 2147483647 * 40692+30103) % 2147483399+1)) / 8191);exact⟨r,_,by rw[e],hr,_,_,rfl⟩
theorem Tv{ns:List Int}{k:Nat}:∃f,Iw (.yO ns) (.int k)=some f/\Fd f:=by
 have b1:big 7907=true:=by decide
 have b2:big 2147483629=true:=by decide
 have b3:big 31=true:=by decide
 have b4:big 48271=true:=by decide
 have b5:big 40692=true:=by decide
 have c1:∃c:Int,Im (.yO ns) (.int k) (.int (7907 * k+13579))=some (.int c):=by
  unfold Im NI;simp only[AN,A0,EA,Ml]
  by_cases h:(k:Int) < ns.length
  ·simp only[h,decide_true,if_true,AA,Be ns k (by omega),F7,A0];exact⟨_,rfl⟩
  ·simp only[h,decide_false,B0,if_false]
   by_cases h2:0 < (ns.length:Int)
   ·have e:=tV (k:Int) (show(ns.length:Int)≠0 by omega);have e':=ux (k:Int) h2;obtain⟨x,_,ex⟩:=Mn e e';simp only[h2,decide_true,if_true,Eh,CK,A0,AA,ex,F7,CH,b1,b3,tM,vN,AS,show(0:Int) < 2147483629 by decide];exact⟨_,rfl⟩
   ·simp only[h2,decide_false,B0,if_false];exact⟨_,rfl⟩
 obtain⟨c,e⟩:=c1;have c2:∃d:Int,Il (.int c)=some (.int d):=by
  unfold Il;simp only[lQ,CK,show(decide ((0:Int)<=18) && decide ((18:Int)<=1000000) && decide ((10:Int).natAbs < 2 ^ 64))=true by decide,if_true,A0,EA,Ml];split<;>exact⟨_,rfl⟩
 obtain⟨d,e2⟩:=c2;unfold Iw;simp only[CH,b1,b4,b5,tM,vN,if_true,A0,AS,e,e2,Eh,CK,show(0:Int) < 2147483629 by decide,show(0:Int) < 2147483646 by decide,decide_true];exact⟨_,rfl,_,_,rfl⟩
variable {n:Nat}
theorem EG(hf:Fd f)(h0:0 < n)(h1:n<=1000000):∃(r:Nat) (f':Dv),AK f (.int (n:Nat))=some (.int (r:Nat),f')/\r < n/\Fd f':=by
 obtain⟨r,f',e,b,h⟩:=AO hf (n:=((n:Nat):Int)) (by omega) (by omega);exact⟨r,f',e,by omega,h⟩
noncomputable abbrev lh:List Nat:=[97,98,99,100,101,102,103,104,105,106,107,108,109,110,111,112,113,114,115,116,117,118,119,120,121,122]
theorem lP:∀c∈lh,c < 128:=by decide
theorem jJ{i:Int}(h0:0<=i)(h:i < 26):∃c,AA (.str lh) (.int i)=some (.str [c])/\c < 128:=by
 obtain⟨c,hc,e⟩:=pQ (l:=lh) h0 h (by decide);exact⟨c,e,lP c hc⟩
theorem Sl(hf:Fd f)(xs:List Dv)(hl:xs.length<=1000):∃z f',(∃ds,Cr Ew xs f=some (ds,f')/\Ju (.str []) (.lst ds)=some z)/\Tx xs.length z/\Fd f':=by
 obtain⟨ds,f',e,l,h,hf'⟩:=HY Ew Fd (fun x=>∃c,x=.str [c]/\c < 128) xs f hf fun x _ c hc=>by
  obtain⟨r,f1,e1,b1,zw⟩:=AO hc (n:=26) (by decide) (by decide);obtain⟨c1,e2,h2⟩:=jJ (uy r) b1;exact⟨_,f1,by unfold Ew;simp only[e1,e2,A0],⟨c1,rfl,h2⟩,zw⟩
 obtain⟨z,e2,hz⟩:=QG h (l▸hl);exact⟨z,f',⟨ds,e,e2⟩,l▸hz,hf'⟩
theorem qf{α:Type}(xs:List α)(r:Nat)(h:Option Int):(BG xs (some (r:Int)) h).length<=xs.length - r:=by
 unfold BG;rw[S5,Y3,HT.zAx];exact A4 (vU _ _) (by omega)
theorem sD{N:Nat}{l:List Nat}(hN:l.length<=1000000)(h:∀c∈l,c < 128){lo hi:Option Int}(hl:(BG l lo hi).length<=N):∃y,FT (.str l) lo hi=some y/\Tx N y:=
 ⟨.str (QZ l lo hi),by simp only[FT,if_pos hN],_,rfl,by rw[Jl];exact hl,fun c hc=>h c (GS (by rw[<- Jl];exact hc))⟩
def Nm(p:List Nat)(c:Nat)(x:Dv):Prop:=∃t,x=.str (p++c::t)
noncomputable def ch(r i:Nat):Nat:=97+(r+7 * i) % 26
variable {i:Nat}
theorem fN{r j:Nat}(hi:i < 26)(hj:j < 26)(h:i≠j):ch r i≠ch r j:=by unfold ch;omega
theorem ot(r i:Nat):ch r i < 128:=by unfold ch;omega
theorem sO(r i:Nat):AA (.str lh) (.int (((r:Int)+7 * (i:Nat)) % 26))=some (.str [ch r i]):=by
 have e:∀k < 26,FQ lh ((k:Nat):Int)=some (97+k):=by decide
 have hm:(r+7 * i) % 26 < 26:=Nat.mod_lt _ (by decide);have z:((r:Int)+7 * (i:Nat)) % 26=(((r+7 * i) % 26:Nat):Int):=by omega
 rw[z];simp only[AA,if_pos (show lh.length<=1000000 by decide),e _ hm,F7];rfl
theorem YN{l:List Nat}{r:Nat}(h:r<=l.length):QZ l none (some (r:Int))=l.take r:=by
 rw[Jl];unfold BG;rw[HT.zAx,Z9 h];rfl
theorem dD{a b:List Nat}(h:a.length+b.length<=1000000):AS (.str a) (.str b)=some (.str (a++b)):=by simp only[AS,if_pos h]
theorem Py{l:List Nat}(h1:l.length<=4)(h2:∀c∈l,c < 128):∃u,Gk (.str l)=some (.str (l++u))/\Tx 5 (.str (l++u)):=by
 have e:=Uk false l [[100,101,102],[108,101,116],[116,101,108,108],[108,111,111,112],[112,105,99,107],[99,97,108,108]];simp only[B6,T3,B0,if_false] at e;have a:=dD (a:=l) (b:=[113]) (A4 (J7 h1 1) (by decide));unfold Gk;simp only[e,A0];split
 ·refine⟨[113],by rw[a];rfl,_,rfl,by rw[C5];exact J7 h1 1,fun c hc=>?_⟩;rcases C0.mp hc with hc | hc
  ·exact h2 c hc
  ·rw[D2] at hc;subst hc;decide
 ·exact⟨[],by rw[K0],_,rfl,by rw[K0];exact vO h1,by rw[K0];exact h2⟩
theorem Bq{γ:Type}{P:Nat->γ->Prop}(g:Dv->γ->Option γ)(n:Nat)(c:γ)(h0:P 0 c)(h:∀i < n,∀c,P i c->∃c',g (.int (i:Nat)) c=some c'/\P (i+1) c'):∃c',BK g ((B1 n).map fun k=>.int (k:Nat)) c=some c'/\P n c':=by
 obtain⟨c',e,p⟩:=JZ g P ((B1 n).map fun k=>.int (k:Nat)) 0 c h0 fun i x hx c hc=>by
  rw[C9] at hx;have hi:i < n:=by
   rcases X4 i n with h | h
   ·exact h
   ·rw[O1 (by simp;omega)] at hx;cases hx
  rw[A3 (by simp;omega)] at hx;simp only[F7,X3,uz] at hx;subst hx;rw[N8] at hc ⊢;exact h i hi c hc
 exact⟨c',e,by simpa using p⟩
theorem bW{zl:List Nat}(hz1:zl.length<=3)(hz2:∀c∈zl,c < 128){r7 r10 r11:Nat}(h10:r10<=zl.length){ns:List Dv}(hns:ns.length<=1000000):∃x,Ey (.str zl) (.int (r7:Nat)) (.int (r10:Nat)) (.int (r11:Nat)) (.int (i:Nat)) (.lst ns)=some (.lst (ns++[x]))/\Tx 5 x/\Nm (zl.take r10) (ch r7 i) x:=by
 have b7:big 7=true:=by decide
 have z6:zl.length<=1000000:=A4 hz1 (by decide);have e1:FT (.str zl) none (some (r10:Int))=some (.str (zl.take r10)):=by simp only[FT,if_pos z6,YN h10]
 have l1:(zl.take r10).length=r10:=List.length_take_of_le h10;obtain⟨y3,e3,t3,rfl,l3,c3⟩:=sD z6 hz2 (qf zl r10 (some (((r11:Int)+(i:Nat)) % 4)));have l4:(zl.take r10++[ch r7 i]++t3).length<=4:=by simp only[C5,l1,G0];omega
 have a2:=dD (a:=zl.take r10) (b:=[ch r7 i]) (by rw[<- C5];exact A4 (by simp) (A4 l4 (by decide)));have a4:=dD (a:=zl.take r10++[ch r7 i]) (b:=t3) (by rw[<- C5];exact A4 l4 (by decide));obtain⟨u,e5,h5⟩:=Py l4 fun c hc=>by
  rcases C0.mp hc with hc | hc
  ·rcases C0.mp hc with hc | hc
   ·exact hz2 c (uL hc)
   ·rw[D2] at hc;subst hc;exact ot _ _
  ·exact c3 c hc
 refine⟨_,?_,h5,t3++u,by simp⟩;unfold Ey;simp only[CH,CK,b7,tM,if_true,A0,Ei,On _ _ (show(0:Int) < 26 by decide),On _ _ (show(0:Int) < 4 by decide),sO,lN,e1,e3,a2,a4,e5,Cv,Cs hns]
theorem Nk{p:List Nat}{a b:Nat}{x y:Dv}(h:a≠b)(hx:Nm p a x)(hy:Nm p b y):x≠y:=fun q=>by
 obtain⟨t,rfl⟩:=hx;obtain⟨t',rfl⟩:=hy;exact h (ub (List.append_cancel_left (Dv.str.inj q))).1
theorem Pu{p:List Nat}{r:Nat}(hf:Fd f){ns:List Dv}(h2:2<=n)(hn:n<=26)(hl:ns.length=n)(hns:∀x∈ns,Tx 5 x)(hnm:∀j x,ns[j]?=some x->Nm p (ch r j) x):∃ms f',Gj (.int (n:Nat)) f (.lst ns)=some (f',.lst ms)/\ms.length=n/\(∀x∈ms,Tx 5 x)/\ms.Pairwise (·≠·)/\Fd f':=by
  subst hl;have nd:ns.Pairwise (·≠·):=O0.mpr fun i j hi hj lt=>Nk (fN (r:=r) (B8 hi hn) (B8 hj hn) (E4 lt)) (hnm i _ (A3 hi)) (hnm j _ (A3 hj))
  have k2:ns.length - 2 < ns.length:=wV (B8 (by decide) h2) (by decide);have ix:∀k:Nat,0 < k->k<=ns.length->Hq ns.length (-(k:Int))=some (ns.length - k):=fun k h0 h=>by
    unfold Hq;rw[if_neg (by omega),if_pos (by omega)];congr 1;omega
  have ex:AA (.lst ns) (.int (-2))=some ns[ns.length - 2]:=by
    show(Hq ns.length (-2)).bind (fun j=>ns[j]?)=_;rw[show Hq ns.length (-2)=some (ns.length - 2) from ix 2 (by decide) h2];exact A3 k2
  obtain⟨l,el,zS,yW⟩:=hns _ (G2 k2);have nm2:=hnm _ _ (A3 k2);rw[el] at ex nm2;have t1:∃(b:Bool) (f':Dv),Gf (.int (ns.length:Nat)) f (.lst ns)=some (b,f')/\(b=true->l.length<=3)/\Fd f':=by
    unfold Gf Kd;simp only[EA,Ml,show(1:Int) < (ns.length:Nat) by omega,decide_true,if_true,A0,Cw,ex,AN,if_pos (show l.length<=1000000 from A4 zS (by decide))];split
    · rename_i zG;obtain⟨r,f',e,_,h⟩:=AO hf (n:=4) (by decide) (by decide);simp only[e,A0,BS];exact⟨_,_,rfl,fun _=>by have:=of_decide_eq_true zG;omega,h⟩
    · exact⟨_,_,rfl,(fun z=>by cases z),hf⟩
  obtain⟨b,f',et,hb3,hf'⟩:=t1;unfold Gj;simp only[et,A0];cases b
  · exact⟨ns,f',by simp,rfl,hns,nd,hf'⟩
  · have h3:=hb3 rfl;have ey:=dD (a:=l) (b:=[113]) (A4 (J7 h3 1) (by decide));have s1:AU (.lst ns) (.int (-1)) (.str (l++[113]))=some (.lst (ns.set (ns.length - 1) (.str (l++[113])))):=by
      simp only[AU,show Hq ns.length (-1)=some (ns.length - 1) from ix 1 (by decide) (A4 (by decide) h2),A0]
    simp only[if_true,Cw,A0,ex,ey,s1];refine⟨_,f',rfl,D1,fun x hx=>?_,?_,hf'⟩
    · rcases m5 hx with hx | rfl
      · exact hns x hx
      · refine⟨_,rfl,by rw[C5];exact A4 (J7 h3 1) (by decide),fun c hc=>?_⟩;rcases C0.mp hc with hc | hc
        · exact yW c hc
        · rw[D2] at hc;subst hc;decide
    · refine O0.mpr fun i j hi hj lt=>?_
      rw[D1] at hi hj;rw[vi,vi,if_neg (show ¬ns.length - 1=i by omega)];split
      · by_cases e2:i=ns.length - 2
        · subst e2;rw[el];intro q;have:=congrArg U2 (Dv.str.inj q);simp at this
        · obtain⟨t,et⟩:=nm2;exact Nk (fN (r:=r) (B8 hi hn) (B8 k2 hn) e2) (hnm i _ (A3 hi)) ⟨t++[113],by rw[Dv.str.inj et];simp⟩
      · exact O0.mp nd i j hi hj lt
theorem JJ(hf:Fd f)(h2:2<=n)(hn:n<=26):∃ns f',DA f (.int n)=some (.lst ns,f')/\ns.length=n/\(∀x∈ns,Tx 5 x)/\ns.Pairwise (·≠·)/\Fd f':=by
  refine pI fun zP zQ=>?_
  obtain⟨r1,f1,e1,b1,zw⟩:=AO hf (n:=4) (by decide) (by decide);have l3:r1<=3:=by omega
  have l6:r1<=1000:=A4 l3 (by decide);have er:=Lr r1 (A4 l6 (by decide));have ll:((B1 r1).map fun k=>Dv.int (k:Nat)).length=r1:=by simp
  obtain⟨z,f2,⟨ds,e3,e4⟩,hz,hf2⟩:=Sl zw _ (ll.symm▸l6);rw[ll] at hz;obtain⟨zl,rfl,hz1,hz2⟩:=hz;have hz3:=A4 hz1 l3;obtain⟨r7,f7,e7,b7,hf7⟩:=AO hf2 (n:=26) (by decide) (by decide);have el:AN (.str zl)=some (.int zl.length):=by simp only[AN,if_pos (show zl.length<=1000000 from A4 hz3 (by decide))]
  obtain⟨r10,f10,e10,b10,zBl⟩:=AO hf7 (n:=(zl.length:Int)+1) (by omega) (by omega);obtain⟨r11,f11,e11,b11,zCq⟩:=AO zBl (n:=4) (by decide) (by decide);have n6:n<=1000000:=A4 hn (by decide);have en:=Lr n n6;obtain⟨c,e12,ns,rfl,hl,hns,hnm⟩:=Bq (P:=fun i c=>∃ns,c=Dv.lst ns/\ns.length=i/\(∀x∈ns,Tx 5 x)/\∀j x,ns[j]?=some x->Nm (zl.take r10) (ch r7 j) x) (Ey (.str zl) (.int r7) (.int r10) (.int r11)) n (.lst []) ⟨[],rfl,rfl,(fun _ z=>(J4 z).elim),fun j x h=>by simp at h⟩ fun i hi c hc=>by
    obtain⟨ns,rfl,rfl,hns,hnm⟩:=hc;obtain⟨x,e,hx,hm⟩:=bW hz3 hz2 (r7:=r7) (r11:=r11) (i:=ns.length) (show r10<=zl.length by omega) (A4 (R6 hi) n6);refine⟨_,e,_,rfl,by simp,fun y hy=>?_,fun j y hy=>?_⟩
    · rcases C0.mp hy with hy | hy
      · exact hns y hy
      · rw[D2] at hy;subst hy;exact hx
    · rcases X4 j ns.length with w | w
      · rw[F9 w] at hy;exact hnm j y hy
      · rw[N5 w] at hy;have z:j - ns.length=0:=by
          have:=(B3.mp hy).1;exact Nat.lt_one_iff.mp this
        rw[z] at hy;cases hy;rw[Nat.le_antisymm (Nat.le_of_sub_eq_zero z) w];exact hm
  obtain⟨ms,f',e13,hl3,hms,hnd,hf'⟩:=Pu zCq h2 hn hl hns hnm;refine zQ ?_;refine⟨ms,f',?_,hl3,hms,hnd,hf'⟩;unfold DA;simp only[oH,e1,er,A0];rw[BC (by rw[ll];exact A4 l6 (by decide))];simp only[A0,e3,e4,e7,el,Ei,e10,e11,en];rw[e12];simp only[A0,e13]
def sT(n:Nat)(xs:List Dv):Prop:=∀y∈xs,∃r:Nat,y=.int r/\r < n
def Zk(N:Nat)(x:Dv):Prop:=∃a r,x=.tup [a,.int r]/\Tx N a/\(r=1\/r=2)
noncomputable def qA(d:Dv):Dv:=match d with | .tup (a::_)=>a | _=>.xQ
abbrev DP(ds:List Dv):Prop:=ds.Pairwise fun x y=>qA x≠qA y
theorem OT{γ:Type}(g:Dv->γ->Option (Dv×γ))(P:γ->Prop)(R:Nat->Dv->Prop):∀(xs:List Dv) (o:Nat) (c:γ),P c->(∀i x,xs[i]?=some x->∀c,P c->∃d c',g x c=some (d,c')/\R (o+i) d/\P c')->∃ds c',Cr g xs c=some (ds,c')/\ds.length=xs.length/\(∀i d,ds[i]?=some d->R (o+i) d)/\P c'
 | [],o,c,hc,_=>⟨[],c,rfl,rfl,(fun i d h=>by simp at h),hc⟩
 | x::xs,o,c,hc,h=>by
  obtain⟨d,c1,e1,r1,p1⟩:=h 0 x rfl c hc;obtain⟨ds,c2,e2,l2,r2,p2⟩:=OT g P R xs (o+1) c1 p1 fun i y hy c hc=>by
   have:=h (i+1) y hy c hc;rw[show o+(i+1)=o+1+i by omega] at this;exact this
  refine⟨d::ds,c2,by simp only[Cr,e1,e2,A0],by rw[C6,C6,l2],fun i y hy=>?_,p2⟩;cases i with
  | zero=>simp at hy;subst hy;exact r1
  | succ i=>have:=r2 i y (by simpa using hy);rw[show o+(i+1)=o+1+i by omega];exact this
theorem PM(hf:Fd f):∃fs ds f',Fw f=some (.tup [.tup fs,.tup ds],f')/\fs.length<=4/\(∀x∈fs,Tx 10 x)/\ds.length<=3/\(∀x∈ds,Zk 5 x)/\DP ds/\Fd f':=by
 refine pI fun zP zQ=>?_
 obtain⟨ns,f1,e1,hl,hns,_,zw⟩:=JJ hf (n:=4) (by decide) (by decide);obtain⟨r2,f2,e2,b2,hf2⟩:=AO zw (n:=4) (by decide) (by decide);have h3:∀x∈BG ns none (some (r2:Int)),Tx 5 x:=fun x hx=>hns x (GS hx)
 have l3:=IK ns none (some (r2:Int));obtain⟨ps,e4,l4,h4⟩:=JO Gq (Tx 10) (BG ns none (some (r2:Int))) fun x hx=>by
  obtain⟨y1,ey1,hy1⟩:=(h3 x hx).cut (by decide) none (some 1);obtain⟨l1,rfl,_,_⟩:=id hy1;obtain⟨y2,ey2,hy2⟩:=hy1.upper (by decide);obtain⟨y3,ey3,hy3⟩:=(h3 x hx).cut (by decide) (some 1) none;obtain⟨y4,ey4,hy4⟩:=hy2.add hy3 (by decide);exact⟨y4,by unfold Gq;simp only[ey1,oH,ey2,ey3,ey4,A0],hy4⟩
 obtain⟨ms,f10,e10,zEg,hms,hnd,zBl⟩:=JJ hf2 (n:=3) (by decide) (by decide);obtain⟨r11,f11,e11,b11,zCq⟩:=AO zBl (n:=8) (by decide) (by decide);have m:∀x∈[(Dv.int 1),(Dv.int 2),(Dv.int 3),(Dv.int 2),(Dv.int 3),(Dv.int 1),(Dv.int 2),(Dv.int 0)],∃k:Nat,x=.int k/\k<=3:=by
  intro x hx;simp only[B9,J4,or_false] at hx;rcases hx with rfl | rfl | rfl | rfl | rfl | rfl | rfl | rfl
  all_goals first | exact⟨0,rfl,by decide⟩ | exact⟨1,rfl,by decide⟩ | exact⟨2,rfl,by decide⟩ | exact⟨3,rfl,by decide⟩
 obtain⟨x,hx,ex⟩:=ZZ (xs:=[(Dv.int 1),(Dv.int 2),(Dv.int 3),(Dv.int 2),(Dv.int 3),(Dv.int 1),(Dv.int 2),(Dv.int 0)]) (i:=r11) (by omega) b11;obtain⟨k,rfl,hk⟩:=m x hx;have er:DH [.int k]=some ((B1 (k:Int).toNat).map fun j=>.int (j:Nat)):=Lq (by omega) (by omega);obtain⟨qs,f16,e16,l6,h6,zEN⟩:=OT (Gp (.lst ms)) Fd (fun j d=>∃a r,ms[j]?=some a/\d=.tup [a,.int r]/\Tx 5 a/\(r=1\/r=2)) ((B1 (k:Int).toNat).map fun j=>.int (j:Nat)) 0 f11 zCq fun i x hx c hc=>by
  rw[C9] at hx;have hi:i < k:=by
   rcases X4 i k with h | h
   ·exact h
   ·rw[O1 (by simp;omega)] at hx;cases hx
  rw[A3 (by simp;omega)] at hx;simp only[F7,X3,uz] at hx;subst hx;have ea:AA (.lst ms) (.int (i:Nat))=some ms[i]:=Be ms i (by omega);obtain⟨r,f',e,b,hf'⟩:=AO hc (n:=2) (by decide) (by decide);exact⟨.tup [ms[i],.int (1+r)],f',by unfold Gp;simp only[ea,e,A0,Ei],⟨ms[i],1+r,by rw[N8];exact A3 (by omega),rfl,hms _ (G2 _),by omega⟩,hf'⟩
 have h6':∀x∈qs,Zk 5 x:=fun x hx=>by
  obtain⟨i,hi⟩:=Z3 hx;obtain⟨a,r,_,rfl,h⟩:=h6 i x hi;exact⟨a,r,rfl,h⟩
 have h7:qs.Pairwise (fun x y=>qA x≠qA y):=O0.mpr fun i j hi hj lt=>by
  obtain⟨a,r,ea,e,_⟩:=h6 i _ (A3 hi);obtain⟨b,q,eb,e',_⟩:=h6 j _ (A3 hj);rw[e,e'];show a≠b;rw[N8] at ea eb;obtain⟨h1,rfl⟩:=B3.mp ea;obtain⟨h2,rfl⟩:=B3.mp eb;exact O0.mp hnd i j h1 h2 lt
 refine zQ ?_;refine⟨ps,qs,f16,?_,by omega,h4,by rw[l6];simp;omega,h6',h7,zEN⟩;have e1':DA f (.int 4)=some (.lst ns,f1):=e1;have zES:DA f2 (.int 3)=some (.lst ms,f10):=e10;unfold Fw;simp only[e1',e2,A0,lN,FT,items];rw[BC (by omega),e4];simp only[A0,zES,e11];rw[ex];simp only[A0,er];rw[BC (by simp;omega),e16];rfl
noncomputable def nI(ts:List Nat):List Dv:=ts.map fun t=>Dv.int (t:Nat)
def tI(ts:List Nat):Dv:=.tup (nI ts)
theorem BB(ts:List Nat):(nI ts).length=ts.length:=by simp[nI]
theorem HF(a b:List Nat):nI (a++b)=nI a++nI b:=by simp[nI]
theorem VH(ts:List Nat):AN (tI ts)=some (.int (ts.length:Nat)):=by show some (Dv.int ((nI ts).length:Nat))=_;rw[BB]
theorem VA{n:Nat}:∀{xs:List Dv},sT n xs->∃ts,xs=nI ts/\∀t∈ts,t < n
 | [],_=>⟨[],rfl,fun _ h=>by cases h⟩
 | x::xs,h=>by
  obtain⟨ts,e,ht⟩:=VA (xs:=xs) fun y hy=>h y (A7 _ hy)
  obtain⟨r,rfl,hr⟩:=h x B2;refine⟨r::ts,by rw[e];rfl,fun t h=>?_⟩;rcases B9.mp h with rfl | h
  ·exact hr
  ·exact ht t h
variable {ts:List Nat}
theorem VB{h:Nat}(hh:h < ts.length):AA (tI ts) (.int (h:Nat))=some (.int (ts.getD h 0:Nat)):=by
 show FQ (nI ts) (h:Int)=_;rw[Be _ _ (by rw[BB];exact hh)];simp[nI,sx,hh]
theorem getD_mem{h:Nat}(hh:h < ts.length):ts.getD h 0∈ts:=by
 simp[sx,hh]
inductive Nd where
 | yE (k:Nat) | fix (c:Dv) | act (d:Dv) (ps:List Nat)
noncomputable def EH:Dv:=.str [105,110,112,117,116]
noncomputable def EI:Dv:=.str [102,105,120,101,100]
noncomputable def Hh:Dv:=.str [100,111]
def Nd.dv:Nd->Dv
 | .yE k=>.tup [EH,.int (k:Nat)]
 | .fix c=>.tup [EI,c]
 | .act d ps=>.tup [Hh,d,tI ps]
noncomputable def Nd.parts:Nd->List Nat
 | .act _ ps=>ps
 | _=>[]
def GY(I:Nat)(fs ds:List Dv)(i:Nat):Nd->Prop
 | .yE k=>k < I
 | .fix c=>c∈fs/\∃l,c=.str l
 | .act d ps=>(∃r:Int,Dv.tup [d,.int r]∈ds/\(ps.length:Int)=r/\(r=1\/r=2)/\∃l,d=.str l)/\∀p∈ps,p < i
def Ek(I:Nat)(fs ds:List Dv)(L:List Nd):Prop:=∀i x,L[i]?=some x->GY I fs ds i x
theorem GY.part{I:Nat}{fs ds:List Dv}{x:Nd}(h:GY I fs ds i x):∀p∈x.parts,p < i:=fun p hp=>by
 cases x with
 | yE k=>cases hp
 | fix c=>cases hp
 | act d ps=>exact h.2 p hp
noncomputable def nD(L:List Nd):List Dv:=L.map Nd.dv
theorem HG(L:List Nd):(nD L).length=L.length:=by simp[nD]
variable {L:List Nd}
theorem eL(h:i < L.length):AA (.lst (nD L)) (.int (i:Nat))=some L[i].dv:=by
 show FQ (nD L) (i:Int)=_;rw[Be _ _ (by rw[HG];exact h)];simp[nD]
def Nd.kd:Nd->Dv
 | .yE _=>EH
 | .fix _=>EI
 | .act _ _=>Hh
theorem sN(x:Nd):AA x.dv (.int 0)=some x.kd:=by cases x<;>rfl
noncomputable def FS(p:Nat->Bool)(N:Nat):Nat:=((B1 N).filter p).length
theorem Jo{p q:Nat->Bool}(h:∀v,q v=true->p v=true):∀N,FS q N<=FS p N
 | 0=>B7 _
 | N+1=>by
  have ih:=Jo h N;unfold FS at *;rw[a6,V8,V8,C5,C5];have:([N].filter q).length<=([N].filter p).length:=by
   cases e:q N with
   | true=>simp[o9,e,h N e]
   | false=>simp[o9,e]
  omega
theorem Qb{p q:Nat->Bool}{v:Nat}(h:∀v,q v=true->p v=true)(h1:p v=true)(h2:q v=false):∀{N},v < N->FS q N < FS p N
  | 0,hv=>by omega
  | N+1,hv=>by
    have le:=Jo h N;unfold FS at *;rw[a6,V8,V8,C5,C5]
    by_cases e:v=N
    · subst e;simp[o9,h1,h2];omega
    · have ih:=Qb h h1 h2 (N:=N) (by omega);unfold FS at ih;have:([N].filter q).length<=([N].filter p).length:=by
        cases e:q N with
        | true=>simp[o9,e,h N e]
        | false=>simp[o9,e]
      omega
theorem JI:∀{N:Nat} {l:List Nat},l.Nodup->(∀x∈l,x < N)->l.length<=N
 | 0,[],_,_=>B7 _
 | 0,x::_,_,h=>by have:=h x B2;omega
 | N+1,l,nd,h=>by
  have nd':=nd.erase N;have:=JI (N:=N) nd' fun x hx=>by
   have h1:=h x (List.mem_of_mem_erase hx);have:x≠N:=fun e=>by rw[e] at hx;exact(List.Nodup.mem_erase_iff nd).mp hx |>.1 rfl
   omega
  have e:l.length - 1<=(l.erase N).length:=by
   rw[List.length_erase];split<;>omega
  omega
def kI(ks:List Nat):List Ak:=ks.map fun k=>Sum.inl ((k:Nat):Int)
def BU(ks:List Nat):Dv:=.yR (kI ks) (nI (B1 ks.length))
theorem jR(ks:List Nat)(k:Nat):(kI ks).any (fun j=>decide (j=Sum.inl ((k:Nat):Int)))=decide (k∈ks):=by
 induction ks with
 | nil=>rfl
 | cons x xs ih =>
  unfold kI at ih;simp only[kI,B6,Q5,ih,B9]
  by_cases e:x=k
  ·subst e;simp
  ·have e1:¬(Sum.inl ((x:Nat):Int):Ak)=Sum.inl ((k:Nat):Int):=fun z=>e (by have:=tw z;omega)
   have e2:¬k=x:=fun z=>e z.symm
   simp[e1,e2]
theorem OM(k:Nat):∀(ks:List Nat) (xs:List Dv),ks.length=xs.length->(Du (.inl ((k:Nat):Int)) (kI ks) xs).isSome=decide (k∈ks)
 | [],_,_=>rfl
 | x::ks,[],h=>by cases h
 | x::ks,d::xs,h=>by
  have ih:=OM k ks xs (by simpa using h);unfold kI at ih;simp only[kI,B6,Du,B9]
  by_cases e:x=k
  ·subst e;simp
  ·have e1:¬(Sum.inl ((x:Nat):Int):Ak)=Sum.inl ((k:Nat):Int):=fun z=>e (by have:=tw z;omega)
   have e2:¬k=x:=fun z=>e z.symm
   rw[if_neg e1,ih];simp[e2]
theorem ON(k:Nat):∀(ks:List Nat) (o:Nat),k∈ks->Du (.inl ((k:Nat):Int)) (kI ks) (nI ((B1 ks.length).map (o+·)))=some (.int ((o+ks.idxOf k:Nat)))
 | [],_,h=>by cases h
 | x::ks,o,h=>by
  rw[C6,T4];simp only[kI,nI,B6,X2,Du]
  by_cases e:x=k
  ·subst e;simp
  ·have e1:¬(Sum.inl ((x:Nat):Int):Ak)=Sum.inl ((k:Nat):Int):=fun z=>e (by have:=tw z;omega)
   rw[if_neg e1,show xC k (x::ks)=xC k ks+1 by have q:(x == k)=false:=beq_eq_false_iff_ne.mpr e;rw[tW,q];rfl];have ih:=ON k ks (o+1) ((B9.mp h).resolve_left fun z=>e z.symm);unfold kI nI at ih;rw[X2] at ih;have:((fun t=>Dv.int ((t:Nat):Int))∘(fun x=>o+x)∘Nat.succ)=((fun t=>Dv.int ((t:Nat):Int))∘(fun x=>o+1+x)):=by
    funext y;simp only[Function.comp];congr 2;omega
   rw[this,ih];congr 3;omega
theorem de(ks:List Nat)(k:Nat):pj (.int (k:Nat)) (BU ks)=some (decide (k∈ks)):=by
 have:=OM k ks (nI (B1 ks.length)) (by rw[BB];simp);show some (Du (.inl ((k:Nat):Int)) (kI ks) (nI (B1 ks.length))).isSome=_;rw[this]
variable {ks:List Nat}
theorem gK{k:Nat}(h:k∈ks):AA (BU ks) (.int (k:Nat))=some (.int (ks.idxOf k:Nat)):=by
 have:=ON k ks 0 h;simp only[N8] at this;have e:(B1 ks.length).map (fun x=>x)=B1 ks.length:=wm _;rw[e] at this;simp only[BU,AA,DX,A0,this]
theorem Va{k:Nat}(h:k∉ks)(hl:ks.length<=1000000):AU (BU ks) (.int (k:Nat)) (.int (ks.length:Nat))=some (BU (ks++[k])):=by
 have a:(kI ks).any (fun j=>decide (j=Sum.inl ((k:Nat):Int)))=false:=by rw[jR];simp[h]
 have l:(kI ks).length<=1000000:=by simpa[kI] using hl
 simp only[BU,AU,DX,A0,if_pos l,QY,QX,a,B0,if_false,uM];have e1:kI ks++[Sum.inl ((k:Nat):Int)]=kI (ks++[k]):=by simp[kI]
 have e2:nI (B1 ks.length)++[Dv.int (ks.length:Nat)]=nI (B1 (ks++[k]).length):=by rw[C5,G0,a6,HF];rfl
 rw[e1,e2]
noncomputable def YE(e:Nat×Bool):Dv:=.tup [.int (e.1:Nat),.bl e.2]
def yg(s:List (Nat×Bool)):Dv:=.lst (s.reverse.map YE)
noncomputable def ae(L:List Nd)(q:Nat):List Nat:=match L[q]? with | some x=>x.parts | none=>[]
theorem EF{γ:Type}(t:γ->Option Bool)(g:γ->Option γ)(P:Nat->γ->Prop)(E:γ->Prop)(h:∀m c,P m c->(t c=some false/\E c)\/(t c=some true/\∃c' m',g c=some c'/\m' < m/\P m' c')):∀(n m:Nat) (c:γ),m < n->P m c->∃c',Up t g n c=some c'/\E c'
 | 0,m,c,hm,_=>by omega
 | n+1,m,c,hm,p=>by
  rcases h m c p with⟨e,q⟩ | ⟨e,c',m',e',lt,p'⟩
  ·exact⟨c,by simp only[Up,e,A0,B0,if_false],q⟩
  ·obtain⟨c2,e2,q⟩:=EF t g P E h n m' c' (by omega) p';exact⟨c2,by simp only[Up,e,A0,if_true,e',e2],q⟩
theorem aA(s:List (Nat×Bool)):AN (yg s)=some (.int (s.length:Nat)):=by
 show some (Dv.int ((s.reverse.map YE).length:Nat))=_;simp
theorem RG(e:Nat×Bool)(s:List (Nat×Bool)):Um (yg (e::s)) []=some (YE e,yg s):=by
 unfold yg;rw[o7,a8];simp only[Um,B6,T3,List.getLast?_concat,List.dropLast_concat]
theorem GO(F:List Nd):AN (.lst (nD F))=some (.int (F.length:Nat)):=by
 show some (Dv.int ((nD F).length:Nat))=_;rw[HG]
variable {d:Dv} {ps:List Nat}
section
variable {L F:List Nd} {ks:List Nat} {v:Nat} {b:Bool} {s:List (Nat×Bool)}
theorem bK(h:v∈ks):Ad (.lst (nD L)) (.lst (nD F),BU ks,yg ((v,b)::s))=some (.lst (nD F),BU ks,yg s):=by
 unfold Ad
 show EC "list" (yg ((v,b)::s)) _=_
 unfold yg;rw[Cv];have p:=RG (v,b) s;unfold yg at p;rw[p];simp only[A0,YE];rw[IU];simp only[de,decide_eq_true h,A0,if_true]
theorem WZ(h:v∉ks){x:Nd}(hx:L[v]?=some x):Ad (.lst (nD L)) (.lst (nD F),BU ks,yg ((v,b)::s))=(By (.lst (nD F)) (BU ks) (yg s) (.int (v:Nat)) (.bl b) x.dv).bind fun t=>some (t.1,t.2.1,t.2.2):=by
 unfold Ad
 show EC "list" (yg ((v,b)::s)) _=_
 unfold yg;rw[Cv];have p:=RG (v,b) s;unfold yg at p;rw[p];simp only[A0,YE];rw[IU];obtain⟨hv,rfl⟩:=B3.mp hx;simp only[de,decide_eq_false h,A0,B0,if_false,eL hv]
theorem oT(hl:F.length<=1000)(x:Dv):AX (.lst (nD F)) [x]=some (.xQ,.lst (nD F++[x])):=Cs (by rw[HG];omega)
theorem RX(h:v∉ks){x:Nd}(hd:Jw x.kd Hh=some true)(hx:L[v]?=some x)(hl:F.length=ks.length)(hk:ks.length<=1000):Ad (.lst (nD L)) (.lst (nD F),BU ks,yg ((v,b)::s))=some (.lst (nD (F++[x])),BU (ks++[v]),yg s):=by
 rw[WZ h hx];have e2:Jw x.kd (.str [100,111])=some true:=hd;unfold By;rw[sN];simp only[A0,e2,if_true,GO,hl,Va h (by omega),Cv,oT (F:=F) (by omega)];simp[nD]
theorem nU(h:v∉ks)(hx:L[v]?=some (.act d ps))(hp:∀p∈ps,p∈ks)(hl:F.length=ks.length)(hk:ks.length<=1000)(hps:ps.length<=1000):Ad (.lst (nD L)) (.lst (nD F),BU ks,yg ((v,true)::s))=some (.lst (nD (F++[.act d (ps.map fun p=>ks.idxOf p)])),BU (ks++[v]),yg s):=by
 rw[WZ h hx];have e0:AA (Nd.act d ps).dv (.int 0)=some Hh:=rfl;have e1:AA (Nd.act d ps).dv (.int 1)=some d:=rfl;have e2:AA (Nd.act d ps).dv (.int 2)=some (tI ps):=rfl;have ne:Jw Hh (.str [100,111])=some false:=rfl;have it:items (tI ps)=some (nI ps):=rfl;have m:BQ (Cz (BU (ks++[v]))) (nI ps)=some (nI (ps.map fun p=>ks.idxOf p)):=by
  have:∀(qs:List Nat),(∀p∈qs,p∈ks)->BQ (Cz (BU (ks++[v]))) (nI qs)=some (nI (qs.map fun p=>ks.idxOf p)):=fun qs hq=>by
   induction qs with
   | nil=>rfl
   | cons p qs ih =>
    have z9:=hq p B2;have i1:(ks++[v]).idxOf p=ks.idxOf p:=by rw[List.idxOf_append,if_pos z9]
    have ih:=ih fun q z=>hq q (A7 _ z)
    simp only[nI] at ih;simp only[nI,B6,BQ,Cz,gK (C3 [v] z9),i1,A0,ih]
  exact this ps hp
 unfold By;rw[e0];simp only[A0,ne,B0,if_false];unfold EK;simp only[Zt,A0,if_true,GO,hl,Va h (by omega),Cv,e0,e1,e2,it];rw[BC (by rw[BB];omega),m];simp only[A0,Av,oT (F:=F) (by omega)];simp[nD,Nd.dv,tI]
theorem nT(h:v∉ks)(hx:L[v]?=some (.act d ps))(hl:s.length<=1000)(hps:ps.length<=1000):Ad (.lst (nD L)) (.lst (nD F),BU ks,yg ((v,false)::s))=some (.lst (nD F),BU ks,yg (ps.map (fun p=>(p,false))++(v,true)::s)):=by
 rw[WZ h hx];have e0:AA (Nd.act d ps).dv (.int 0)=some Hh:=rfl;have e2:AA (Nd.act d ps).dv (.int 2)=some (tI ps):=rfl;have ne:Jw Hh (.str [100,111])=some false:=rfl;have ng:Cw (.int 1)=some (.int (-1)):=rfl;have rv:Om (tI ps) (.int (-1))=some (.tup (nI ps).reverse):=rfl;have it:items (.tup (nI ps).reverse)=some (nI ps).reverse:=rfl;have m:BQ Cy (nI ps).reverse=some ((ps.reverse.map fun p=>(p,false)).map YE):=by
  have:∀(qs:List Nat),BQ Cy (nI qs)=some ((qs.map fun p=>(p,false)).map YE):=fun qs=>by
   induction qs with
   | nil=>rfl
   | cons p qs ih=>simp only[nI] at ih;simp only[nI,B6,BQ,Cy,A0,ih];rfl
  rw[show(nI ps).reverse=nI ps.reverse by simp[nI]];exact this ps.reverse
 unfold By;rw[e0];simp only[A0,ne,B0,if_false];unfold EK;simp only[Zt,A0,B0,if_false,yg,Cv,Cs (show(s.reverse.map YE).length<=1000000 by simp;omega),e2,ng,rv,it];rw[BC (by simp[BB];omega),m];simp only[A0,ef (show(s.reverse.map YE++[Dv.tup [.int (v:Nat),.bl true]]).length+((ps.reverse.map fun p=>(p,false)).map YE).length<=1000000 by simp;omega)];simp[YE]
end
def Zi(L:List Nd)(top:Nat):List (Nat×Bool)->Prop
 | []=>True
 | e::r=>((r=[]/\e.1=top)\/∃q,(q,true)∈r/\e.1∈ae L q)/\(∀f∈r,f.2=true->e.1 < f.1)/\Zi L top r
def AB(L:List Nd)(ks:List Nat):List Nat->List (Nat×Bool)->Prop
 | _,[]=>True
 | a,e::r=>(e.2=true->∀x∈ae L e.1,x∈ks\/x∈a)/\AB L ks (e.1::a) r
theorem AB.mono{L:List Nd}{ks yL:List Nat}(hk:∀x∈ks,x∈yL):∀{s:List (Nat×Bool)} {a a':List Nat},(∀x∈a,x∈yL\/x∈a')->AB L ks a s->AB L yL a' s
  | [],_,_,_,_=>trivial
  | e::r,a,a',ha,h=>⟨fun z x hx=>(h.1 z x hx).elim (fun q=>.inl (hk x q)) fun q=>ha x q,h.2.mono hk fun x hx=>by
      rcases B9.mp hx with rfl | hx
      · exact .inr B2
      · exact(ha x hx).elim .inl fun q=>.inr (A7 _ q)⟩
theorem AB.app{L:List Nd}{ks:List Nat}{t:List (Nat×Bool)}:∀{ps a:List Nat},AB L ks (ps.reverse++a) t->AB L ks a (ps.map (fun p=>(p,false))++t)
 | [],a,h=>h
 | p::ps,a,h=>⟨(fun z=>by cases z),AB.app (ps:=ps) (a:=p::a) (by simpa using h)⟩
section
variable {I:Nat} {fs ds:List Dv} {L:List Nd} {top:Nat}
theorem Pc(hL:Ek I fs ds L){q x:Nat}(h:x∈ae L q):x < q:=by
 unfold ae at h;split at h
 ·rename_i y hy;exact(hL q y hy).part x h
 ·cases h
theorem IH(hL:Ek I fs ds L):∀{s:List (Nat×Bool)},Zi L top s->∀e∈s,e.1<=top
 | [],_,e,h=>by cases h
 | f::r,g,e,h=>by
  have ih:=IH hL g.2.2;rcases B9.mp h with rfl | h
  ·rcases g.1 with⟨_,z⟩ | ⟨q,hq,z⟩
   ·omega
   ·have:=ih _ hq;have:=Pc hL z;simp at *;omega
  ·exact ih e h
theorem LB(hL:Ek I fs ds L){v:Nat}{r:List (Nat×Bool)}(g:Zi L top ((v,true)::r)):∀{xs:List Nat},(∀x∈xs,x∈ae L v)->Zi L top (xs.map (fun p=>(p,false))++(v,true)::r)
 | [],_=>g
 | x::xs,h=>by
  refine⟨.inr ⟨v,B4 _ B2,h x B2⟩,fun f hf ht=>?_,LB hL g fun y hy=>h y (A7 _ hy)⟩;have xv:=Pc hL (h x B2);rcases C0.mp hf with hf | hf
  ·obtain⟨y,_,rfl⟩:=M6.mp hf;cases ht
  ·rcases B9.mp hf with rfl | hf
   ·exact xv
   ·have:=g.2.1 f hf ht;show x < f.1;simp at this;omega
structure OI (I:Nat) (fs ds:List Dv) (L:List Nd) (top:Nat) (F:List Nd) (ks:List Nat) (s:List (Nat×Bool)):Prop where
 lf:F.length=ks.length
 nd:ks.Nodup
 lt:∀k∈ks,k < L.length
 ok:Ek I fs ds F
 g:Zi L top s
 pend:∀q,(q,true)∈s->q∉ks
 ab:AB L ks [] s
 fin:(top∉ks/\s≠[])\/(s=[]/\∃k0,ks=k0++[top]/\top∉k0)
variable {F:List Nd} {ks:List Nat} {v:Nat} {b:Bool} {s:List (Nat×Bool)}
theorem OI.ym(h:OI I fs ds L top F ks ((v,b)::s)):top∉ks:=h.fin.elim (fun z=>z.1) fun z=>by cases z.1
theorem OI.one(h:OI I fs ds L top F ks ((v,b)::s))(hs:s=[]):v=top:=by
 rcases h.g.1 with⟨_,z⟩ | ⟨q,hq,_⟩
 ·exact z
 ·rw[hs] at hq;cases hq
theorem OI.skip(h:OI I fs ds L top F ks ((v,b)::s))(hv:v∈ks):OI I fs ds L top F ks s:=by
 refine⟨h.lf,h.nd,h.lt,h.ok,h.g.2.2,fun q hq=>h.pend q (A7 _ hq),h.ab.2.mono (fun _ z=>z) fun x hx=>?_,.inl ⟨h.ym,fun z=>h.ym (h.one z▸hv)⟩⟩
 ·rw[D2] at hx;rw[hx];exact .inl hv
theorem OI.emit(hL:Ek I fs ds L)(ht:top < L.length)(h:OI I fs ds L top F ks ((v,b)::s))(hv:v∉ks){y:Nd}(hy:GY I fs ds F.length y):OI I fs ds L top (F++[y]) (ks++[v]) s:=by
 have vt:v<=top:=IH hL h.g (v,b) B2;refine⟨by simp[h.lf],?_,fun k hk=>?_,fun i x hx=>?_,h.g.2.2,fun q hq hm=>?_,h.ab.2.mono (fun x z=>C3 _ z) fun x hx=>?_,?_⟩
 ·exact List.nodup_append.mpr ⟨h.nd,by simp,fun a ha b' hb=>by rw[D2] at hb;subst hb;exact fun e=>hv (e▸ha)⟩
 ·rcases C0.mp hk with hk | hk
  ·exact h.lt k hk
  ·rw[D2] at hk;subst hk;omega
 ·rcases X4 i F.length with w | w
  ·rw[F9 w] at hx;exact h.ok i x hx
  ·have:i=F.length:=by have:=(B3.mp hx).1;simp at this;omega
   subst this;rw[N5 (B7 _),wo] at hx;cases hx;exact hy
 ·rcases C0.mp hm with hm | hm
  ·exact h.pend q (A7 _ hq) hm
  ·rw[D2] at hm;subst hm;have:=h.g.2.1 (q,true) hq rfl;simp at this
 ·rw[D2] at hx;rw[hx];exact .inl (B4 _ B2)
 ·by_cases e:v=top
  ·refine .inr ⟨?_,ks,by rw[e],h.ym⟩;rcases h.g.1 with⟨z,_⟩ | ⟨q,hq,z⟩
   ·exact z
   ·have h1:=Pc hL z;have h2:=IH hL h.g (q,true) (A7 _ hq);simp at h1 h2;omega
  ·refine .inl ⟨fun z=>?_,fun z=>e (h.one z)⟩;rcases C0.mp z with z | z
   ·exact h.ym z
   ·rw[D2] at z;exact e z.symm
theorem OI.expand(hL:Ek I fs ds L)(h:OI I fs ds L top F ks ((v,false)::s))(hv:v∉ks)(hx:L[v]?=some (.act d ps)):OI I fs ds L top F ks (ps.map (fun p=>(p,false))++(v,true)::s):=by
 have pv:ae L v=ps:=by unfold ae;rw[hx];rfl
 refine⟨h.lf,h.nd,h.lt,h.ok,LB hL (v:=v) (r:=s) ⟨h.g.1,h.g.2.1,h.g.2.2⟩ fun x hx=>by rw[pv];exact hx,fun q hq=>?_,AB.app ⟨fun _ x hx=>.inr (by rw[pv] at hx;simpa using hx),h.ab.2.mono (fun _ z=>z) fun x hx=>?_⟩,.inl ⟨h.ym,by simp⟩⟩
 ·rcases C0.mp hq with hq | hq
  ·obtain⟨y,_,e⟩:=M6.mp hq;cases e
  ·rcases B9.mp hq with e | hq
   ·cases e;exact hv
   ·exact h.pend q (A7 _ hq)
 ·rw[D2] at hx;rw[hx];exact .inr B2
def mu(N:Nat)(ks:List Nat)(s:List (Nat×Bool)):Nat:=3 * FS (fun u=>decide (u∉ks) && decide ((u,true)∉s)) N+s.length
theorem Ra(hv:v∈ks)(hp:∀q,(q,true)∈(v,b)::s->q∉ks)(N:Nat):mu N ks s < mu N ks ((v,b)::s):=by
 have:FS (fun u=>decide (u∉ks) && decide ((u,true)∉s)) N<=FS (fun u=>decide (u∉ks) && decide ((u,true)∉(v,b)::s)) N:=Jo (fun u hu=>by
  simp only[A2,decide_eq_true_eq] at hu ⊢;refine⟨hu.1,fun z=>?_⟩;rcases B9.mp z with e | z
  ·cases e;exact hu.1 hv
  ·exact hu.2 z) N
 unfold mu;rw[C6];omega
theorem FH(N:Nat):mu N (ks++[v]) s < mu N ks ((v,b)::s):=by
 have:FS (fun u=>decide (u∉ks++[v]) && decide ((u,true)∉s)) N<=FS (fun u=>decide (u∉ks) && decide ((u,true)∉(v,b)::s)) N:=Jo (fun u hu=>by
  simp only[A2,decide_eq_true_eq,C0,D2,not_or] at hu ⊢;refine⟨hu.1.1,fun z=>?_⟩;rcases B9.mp z with e | z
  ·cases e;exact hu.1.2 rfl
  ·exact hu.2 z) N
 unfold mu;rw[C6];omega
theorem eM{N:Nat}(hv:v∉ks)(hN:v < N)(hs:(v,true)∉s)(hp:ps.length<=2):mu N ks (ps.map (fun p=>(p,false))++(v,true)::s) < mu N ks ((v,false)::s):=by
  have:FS (fun u=>decide (u∉ks) && decide ((u,true)∉ps.map (fun p=>(p,false))++(v,true)::s)) N < FS (fun u=>decide (u∉ks) && decide ((u,true)∉(v,false)::s)) N:=Qb (v:=v) (fun u hu=>by
      simp only[A2,decide_eq_true_eq,C0,B9,not_or] at hu ⊢;exact⟨hu.1,(fun e=>by cases e),hu.2.2.2⟩) (by
      simp only[A2,decide_eq_true_eq,B9,not_or];exact⟨hv,(fun e=>by cases e),hs⟩) (by simp) hN
  unfold mu;rw[C5,C6,C6,D5];omega
theorem SF(p:Nat->Bool)(N:Nat):FS p N<=N:=by
 have:=List.length_filter_le p (B1 N);unfold FS;simpa using this
theorem MA(hL:Ek I fs ds L)(ht:top < L.length)(hN:L.length<=100):∃F,BP (.lst (nD L)) (.int (top:Nat))=some (.tup [.tup (nD F),.int ((F.length - 1:Nat))])/\Ek I fs ds F/\0 < F.length/\F.length<=L.length:=by
  obtain⟨c,e,F,ks,rfl,o⟩:=EF Bx (Ad (.lst (nD L))) (fun m c=>∃F ks s,c=(.lst (nD F),BU ks,yg s)/\OI I fs ds L top F ks s/\mu L.length ks s=m/\m<=1000) (fun c=>∃F ks,c=(.lst (nD F),BU ks,yg [])/\OI I fs ds L top F ks []) (fun m c ⟨F,ks,s,e,o,hm,hs⟩=>by
    subst e;have t:Bx (.lst (nD F),BU ks,yg s)=some (decide (0 < s.length)):=by
      unfold Bx;simp only[aA,A0,EA,Ml];congr 1;exact decide_eq_decide.mpr (by omega)
    cases s with
    | nil=>exact .inl ⟨by rw[t];rfl,F,ks,rfl,o⟩
    | cons e s =>
      obtain⟨v,b⟩:=e;refine .inr ⟨by rw[t];simp,?_⟩;have vt:v<=top:=IH hL o.g (v,b) B2;have vL:v < L.length:=by omega
      have hx:=A3 vL;have kl:ks.length<=L.length:=JI o.nd o.lt;have lfl:=o.lf;have hs':s.length<=1000:=by unfold mu at hm;rw[C6] at hm;omega
      have dn:∀{m'},m' < m->m'<=1000:=fun h=>by omega
      by_cases hv:v∈ks
      · exact⟨_,_,bK hv,(by rw[<- hm];exact Ra hv o.pend L.length),F,ks,s,rfl,o.skip hv,rfl,dn (by rw[<- hm];exact Ra hv o.pend L.length)⟩
      · have okv:=hL v _ hx;cases q:L[v] with
        | yE k =>
          rw[q] at hx okv;exact⟨_,_,RX hv rfl hx o.lf (by omega),by rw[<- hm];exact FH L.length,_,_,s,rfl,o.emit hL ht hv okv,rfl,dn (by rw[<- hm];exact FH L.length)⟩
        | fix c =>
          rw[q] at hx okv;exact⟨_,_,RX hv rfl hx o.lf (by omega),by rw[<- hm];exact FH L.length,_,_,s,rfl,o.emit hL ht hv okv,rfl,dn (by rw[<- hm];exact FH L.length)⟩
        | act d ps =>
          rw[q] at hx okv;have pv:ae L v=ps:=by unfold ae;rw[hx];rfl
          have pl:ps.length<=2:=by obtain⟨⟨r,_,h1,h2,_⟩,_⟩:=okv;omega
          cases b with
          | true =>
            have hp:∀p∈ps,p∈ks:=fun p hp=>(o.ab.1 rfl p (by rw[pv];exact hp)).resolve_right (by simp)
            refine⟨_,_,nU hv hx hp o.lf (by omega) (by omega),by rw[<- hm];exact FH L.length,_,_,s,rfl,o.emit hL ht hv ?_,rfl,dn (by rw[<- hm];exact FH L.length)⟩
            · obtain⟨⟨r,h1,h2,h3⟩,_⟩:=okv;refine⟨⟨r,h1,by simpa using h2,h3⟩,fun p z9=>?_⟩;obtain⟨x,hx',rfl⟩:=M6.mp z9;rw[o.lf];exact q8.mpr (hp x hx')
          | false =>
            have ns:(v,true)∉s:=fun z=>by have:=o.g.2.1 (v,true) z rfl;simp at this
            exact⟨_,_,nT hv hx hs' (by omega),(by rw[<- hm];exact eM hv vL ns pl),_,_,_,rfl,o.expand hL hv hx,rfl,dn (by rw[<- hm];exact eM hv vL ns pl)⟩) 1000000 (mu L.length [] [(top,false)]) _ (by unfold mu;have:=SF (fun u=>decide (u∉([]:List Nat)) && decide ((u,true)∉[(top,false)])) L.length;simp only[G0];omega) ⟨[],[],[(top,false)],rfl,⟨rfl,by simp,(fun _ z=>by cases z),(fun i x h=>by simp at h),⟨.inl ⟨rfl,rfl⟩,(fun _ z=>by cases z),trivial⟩,(fun q hq=>by simp at hq),⟨(fun z=>by cases z),trivial⟩,.inl ⟨by simp,by simp⟩⟩,rfl,by unfold mu;have:=SF (fun u=>decide (u∉([]:List Nat)) && decide ((u,true)∉[(top,false)])) L.length;simp only[G0];omega⟩
  have kl:ks.length<=L.length:=JI o.nd o.lt;have lf:=o.lf;obtain⟨k0,rfl,nt⟩:∃k0,ks=k0++[top]/\top∉k0:=o.fin.elim (fun z=>(z.2 rfl).elim) fun z=>z.2
  have l0:0 < F.length:=by rw[lf];simp
  refine⟨F,?_,o.ok,l0,by omega⟩
  · unfold BP;have e':Up Bx (Ad (.lst (nD L))) 1000000 (.lst [],.yR [] [],.lst [.tup [.int (top:Nat),.bl false]])=some (.lst (nD F),BU (k0++[top]),yg []):=e;rw[e'];simp only[A0,Av,GO];have:Hd (.int (F.length:Nat)) (.int 1)=some (.int ((F.length - 1:Nat))):=by
      show some (Dv.int ((F.length:Int) - 1))=_;congr 2;omega
    rw[this];rfl
end
theorem VI(ts:List Nat):(tI ts).cmp=true/\(tI ts).dep<=1:=by
 have a:∀ts:List Nat,Ah (nI ts)=true/\BD (nI ts)=0:=fun ts=>by
  induction ts with
  | nil=>exact⟨rfl,rfl⟩
  | cons t ts ih =>
   simp only[nI] at ih;simp only[nI,B6,Ah,BD,Dv.cmp,Dv.dep,ih.1,ih.2,G6];exact⟨trivial,rfl⟩
 simp only[tI,Dv.cmp,Dv.dep,a ts];exact⟨trivial,B7 _⟩
theorem Oi(n:Nat):Uq (.int (n:Nat)) (.int 0)=some (decide (0 < n)):=by
 show some (decide ((0:Int) < (n:Nat)))=_;congr 1;exact decide_eq_decide.mpr (by omega)
theorem zCA(h:0 < n):Hd (.int (n:Nat)) (.int 1)=some (.int ((n - 1:Nat))):=by
 show some (Dv.int ((n:Int) - 1))=_;congr 2;omega
section
variable {I:Nat} {fs ds:List Dv}
theorem eK{x:Nd}(h:GY I fs ds i x):x.dv.cmp=true/\x.dv.dep<=2:=by
 cases x with
 | yE k=>exact⟨rfl,by simp[Nd.dv,EH,Dv.dep,BD]⟩
 | fix c=>obtain⟨_,l,rfl⟩:=h;exact⟨rfl,by simp[Nd.dv,EI,Dv.dep,BD]⟩
 | act d ps =>
  obtain⟨⟨r,_,_,_,l,rfl⟩,_⟩:=h;obtain⟨h1,h2⟩:=VI ps;simp only[Nd.dv,Hh,Dv.cmp,Ah,Dv.dep,BD,h1,G6];exact⟨trivial,by omega⟩
theorem eG:∀{L:List Nd},(∀x∈L,∃i,GY I fs ds i x)->Ah (nD L)=true/\BD (nD L)<=2
 | [],_=>⟨rfl,by decide⟩
 | x::L,h=>by
  obtain⟨h1,h2⟩:=eG (L:=L) fun y hy=>h y (A7 _ hy)
  obtain⟨i,hi⟩:=h x B2;obtain⟨h3,h4⟩:=eK hi;simp only[nD] at h1 h2;simp only[nD,B6,Ah,BD,h1,h3,G6];exact⟨trivial,by omega⟩
theorem We{x:Nd}(hx:GY I fs ds i x)(hL:Ek I fs ds L):∃b,DN x.dv (.lst (nD L))=some b/\(L=[]->b=true):=by
 obtain⟨h1,h2⟩:=eG (L:=L) fun y hy=>by obtain⟨j,hj⟩:=Z3 hy;exact⟨j,hL j y hj⟩
 have h3:=(eK hx).1;refine⟨!zM x.dv (nD L),?_,fun e=>by rw[e];rfl⟩;have c:(x.dv.cmp && Ah (nD L) && decide (BD (nD L)<=150))=true:=by rw[h1,h3,G6,S3];exact decide_eq_true (by omega)
 have v:lV (.lst (nD L))=some (nD L):=rfl;cases x<;>simp only[Nd.dv] at c ⊢<;>simp only[Hb,v,c,if_true]
theorem XA(L:List Nd):AN (.lst (nD L))=some (.int (L.length:Nat)):=GO L
theorem YW{a:Dv}{r:Int}{x:Dv}(h:x∈ds)(hd:∀x∈ds,Zk 5 x):∃a r,x=.tup [a,.int r]/\(∃l,a=.str l)/\(r=1\/r=2)/\Dv.tup [a,.int r]∈ds:=by
 obtain⟨a,r,rfl,⟨l,rfl,_⟩,hr⟩:=hd x h;exact⟨_,r,rfl,⟨l,rfl⟩,hr,h⟩
theorem Ek.snoc{x:Nd}(h:Ek I fs ds L)(hx:GY I fs ds L.length x):Ek I fs ds (L++[x]):=fun i y hy=>by
 rcases X4 i L.length with w | w
 ·rw[F9 w] at hy;exact h i y hy
 ·have:i=L.length:=by have:=(B3.mp hy).1;simp at this;omega
  subst this;rw[N5 (B7 _),wo] at hy;cases hy;exact hx
variable (hfs:∀x∈fs,Tx 10 x) (zx:∀x∈ds,Zk 5 x) (hdl:ds.length<=1000)
include zx hdl
theorem UD(hf:Fd f)(h0:0 < ds.length):∃(r:Nat) (f' a:Dv) (k:Int),AK f (.int (ds.length:Nat))=some (.int r,f')/\Fd f'/\AA (.tup ds) (.int r)=some (.tup [a,.int k])/\(∃l,a=.str l)/\(k=1\/k=2)/\Dv.tup [a,.int k]∈ds:=by
 obtain⟨r,f',e,b,hf'⟩:=EG hf h0 (A4 hdl (by decide));have ex:AA (.tup ds) (.int (r:Nat))=some ds[r]:=Be ds r b;obtain⟨a,k,ek,h1,h2,h3⟩:=YW (a:=.xQ) (r:=0) (G2 b) zx;rw[ek] at ex;exact⟨r,f',a,k,e,hf',ex,h1,h2,h3⟩
theorem oQ(hf:Fd f)(hL:Ek I fs ds L)(hl:L.length<=100){y:Nd}(hy:GY I fs ds L.length y):∃x f',Gi (.tup [.tup fs,.tup ds]) (.lst (nD L)) f y.dv=some (f',x.dv)/\GY I fs ds L.length x/\Fd f':=by
 have i1:AA (.tup [.tup fs,.tup ds]) (.int 1)=some (.tup ds):=rfl;have l1:AN (.tup ds)=some (.int (ds.length:Nat)):=rfl;have t:∃b f',Ge (.tup [.tup fs,.tup ds]) (.lst (nD L)) f=some (b,f')/\Fd f'/\(b=true->0 < L.length/\0 < ds.length):=by
  unfold Ge;simp only[XA,A0,Oi]
  by_cases h0:0 < L.length
  ·simp only[h0,decide_true,if_true];unfold Kc;simp only[i1,l1,A0,Oi]
   by_cases h1:0 < ds.length
   ·obtain⟨r,f',e,b,hf'⟩:=AO hf (n:=4) (by decide) (by decide);simp only[h1,decide_true,if_true,e,A0,Oi];exact⟨_,f',rfl,hf',fun _=>⟨trivial,trivial⟩⟩
   ·simp only[h1,decide_false,B0,if_false,A0];exact⟨_,f,rfl,hf,fun z=>by cases z⟩
  ·simp only[h0,decide_false,B0,if_false];exact⟨_,f,rfl,hf,fun z=>by cases z⟩
 obtain⟨b,f1,e1,zw,hb⟩:=t;unfold Gi;rw[e1];cases b with
 | false=>exact⟨y,f1,rfl,hy,zw⟩
 | true =>
  obtain⟨L0,d0⟩:=hb rfl;obtain⟨r,f2,a,k,e2,hf2,ex,⟨l,rfl⟩,hk,hm⟩:=UD zx hdl zw d0;have er:DH [.int k]=some ((B1 k.toNat).map fun j=>.int (j:Nat)):=Lq (by omega) (by omega);obtain⟨qs,f3,e3,l3,h3,hf3⟩:=HY (Gr (.lst (nD L))) Fd (fun d=>∃p:Nat,d=.int p/\p < L.length) ((B1 k.toNat).map fun j=>.int (j:Nat)) f2 hf2 fun x hx c hc=>by
   obtain⟨r1,g1,q1,b1,hg1⟩:=EG hc L0 (A4 hl (by decide));obtain⟨r2,g2,q2,b2,hg2⟩:=AO hg1 (n:=2) (by decide) (by decide);have s1:=zCA L0;obtain⟨z,hz,ez⟩:=ZZ (xs:=[Dv.int ((L.length - 1:Nat)),.int (r1:Nat)]) (i:=r2) (uy _) (by simpa using b2);refine⟨z,g2,by unfold Gr;simp only[XA,A0,s1,q1,q2,ez],?_,hg2⟩;simp only[B9,J4,or_false] at hz;rcases hz with rfl | rfl
   ·exact⟨_,rfl,wV L0 (by decide)⟩
   ·exact⟨_,rfl,b1⟩
  obtain⟨ps,rfl,hp⟩:=VA (n:=L.length) (xs:=qs) h3;rw[BB] at l3;refine⟨.act (.str l) ps,f3,?_,⟨⟨k,hm,by rw[l3];simp;omega,hk,l,rfl⟩,hp⟩,hf3⟩;simp only[A0,if_true,i1,l1,e2,ex];rw[IU];simp only[er,A0];rw[BC (by simp;omega),e3];rfl
include hfs
theorem Pp(hf:Fd f)(hfl:fs.length<=100){I0:Nat}(hI:I<=100)(hI0:fs.length=0->I=max I0 1)(hI1:fs.length≠0->I=I0){many:Nat}(hm0:0 < many)(hm:many<=50):∃L f',GA f (.tup [.tup fs,.tup ds]) (.int (I0:Nat)) (.int (many:Nat))=some (.lst (nD L),f')/\Ek I fs ds L/\0 < L.length/\L.length<=many/\Fd f':=by
 have i0:AA (.tup [.tup fs,.tup ds]) (.int 0)=some (.tup fs):=rfl;have l0:AN (.tup fs)=some (.int (fs.length:Nat)):=rfl;have it:items (.tup fs)=some fs:=rfl;have mx:∃d3,(De (.int (fs.length:Nat)) (.int 0)).bind (fun b2=>Hn (.bl b2))=some d3/\Dc (.int (I0:Nat)) d3=some (.int (I:Nat)):=by
  rw[BS];simp only[A0,Hn];refine⟨_,rfl,?_⟩;simp only[Dc]
  by_cases h:(fs.length:Int)=0
  ·have:=hI0 (by omega);simp only[h,decide_true,if_true];split
   ·congr 2;omega
   ·congr 2;omega
  ·have:=hI1 (by omega);simp only[h,decide_false,B0,if_false];rw[if_neg (by omega)];congr 2;omega
 obtain⟨d3,m1,m2⟩:=mx;obtain⟨b2,q1,q2⟩:=O8.mp m1;have rg:=Lr I (by omega);have y7:BQ Eu ((B1 I).map fun k=>.int (k:Nat))=some (nD ((B1 I).map Nd.yE)):=by
  have:∀l:List Nat,BQ Eu (l.map fun k=>.int (k:Nat))=some (nD (l.map Nd.yE)):=fun l=>by
   induction l with
   | nil=>rfl
   | cons a l ih=>simp only[nD] at ih;simp only[nD,B6,BQ,Eu,A0,ih];rfl
  exact this _
 have y11:BQ Et fs=some (nD (fs.map Nd.fix)):=by
  have:∀l:List Dv,BQ Et l=some (nD (l.map Nd.fix)):=fun l=>by
   induction l with
   | nil=>rfl
   | cons a l ih=>simp only[nD] at ih;simp only[nD,B6,BQ,Et,A0,ih];rfl
  exact this _
 let S:List Nd:=(B1 I).map Nd.yE++fs.map Nd.fix
 have hS:nD ((B1 I).map Nd.yE)++nD (fs.map Nd.fix)=nD S:=by simp[nD,S]
 have lS:S.length=I+fs.length:=by simp[S]
 have S6:S.length<=1000000:=by rw[lS];exact A4 (S8 hI hfl) (by decide)
 have hS0:0 < S.length:=by
  rw[lS]
  by_cases z:fs.length=0
  ·rw[hI0 z];exact B8 (B8 (by decide) (vd I0 1)) (U5 _ _)
  ·exact B8 (Nat.pos_of_ne_zero z) (Nat.le_add_left _ _)
 have okS:∀x∈S,∀i,GY I fs ds i x:=fun x hx i=>by
  rcases C0.mp hx with hx | hx
  ·obtain⟨k,hk,rfl⟩:=M6.mp hx;exact(show k < I by simpa using hk)
  ·obtain⟨c,hc,rfl⟩:=M6.mp hx;obtain⟨l,rfl,_⟩:=hfs c hc;exact⟨hc,l,rfl⟩
 have ad:AS (.lst (nD ((B1 I).map Nd.yE))) (.lst (nD (fs.map Nd.fix)))=some (.lst (nD S)):=by
  simp only[AS,if_pos (show(nD ((B1 I).map Nd.yE)).length+(nD (fs.map Nd.fix)).length<=1000000 by simp[HG];omega),hS]
 have rg2:=Lr many (by omega);obtain⟨⟨f2,l2⟩,e2,L,rfl,hL,hLl,hL0,hf2⟩:=Bq (P:=fun i c=>∃L,c.2=.lst (nD L)/\Ek I fs ds L/\L.length<=i/\(0 < i->0 < L.length)/\Fd c.1) (Gy (.tup [.tup fs,.tup ds]) (.lst (nD S))) many (f,.lst []) ⟨[],rfl,(fun i x h=>by simp at h),by simp,(fun z=>by omega),hf⟩ fun i hi c hc=>by
  obtain⟨f,l⟩:=c;obtain⟨L,rfl,hL,hLl,hL0,hf⟩:=hc;obtain⟨r,g1,e1,hr,hg1⟩:=EG hf hS0 S6;have L1:L.length<=100:=A4 hLl (A4 (R6 hi) (A4 hm (by decide)));obtain⟨x,g2,e3,hx,hg2⟩:=oQ zx hdl hg1 hL L1 (okS S[r] (G2 hr) L.length);obtain⟨b,eb,hb⟩:=We hx hL;unfold Gy;simp only[XA,A0,e1,eL hr,e3];unfold Ki;rw[eb];simp only[A0];cases b with
  | true =>
   refine⟨(g2,.lst (nD (L++[x]))),?_,L++[x],rfl,hL.snoc hx,by simpa using vW hLl,(fun _=>by simp),hg2⟩;simp only[if_true,Cv,Cs (show(nD L).length<=1000000 by rw[HG];exact A4 L1 (by decide)),A0];simp[nD]
  | false =>
   refine⟨(g2,.lst (nD L)),by simp,L,rfl,hL,vO hLl,fun _=>?_,hg2⟩;rcases Nat.eq_zero_or_pos L.length with z | z
   ·have:=hb (E9 z);cases this
   ·exact z
 refine⟨L,f2,?_,hL,hL0 (by omega),hLl,hf2⟩;unfold GA;simp only[i0,l0,A0,q1,q2,m2,rg];rw[BC (by simp;omega),y7];simp only[A0,it];rw[BC (by omega),y11];simp only[A0,ad,rg2];rw[e2];rfl
end
noncomputable def Lc:List Nat:=[105,110,112,117,116]
noncomputable def Ld:List Nat:=[102,105,120,101,100]
noncomputable def gH:List Nat:=[100,111]
set_option genInjectivity true in
inductive Ne where
 | yE (k:Nat) | fix (l:List Nat) | act (l:List Nat) (ps:List Nat)
 deriving DecidableEq
def Ne.dv:Ne->Dv
 | .yE k=>.tup [EH,.int (k:Nat)]
 | .fix l=>.tup [EI,.str l]
 | .act l ps=>.tup [Hh,.str l,tI ps]
noncomputable def Ne.parts:Ne->List Nat
 | .act _ ps=>ps
 | _=>[]
noncomputable def eD(L:List Ne):List Dv:=L.map Ne.dv
theorem HU(L:List Ne):(eD L).length=L.length:=by simp[eD]
theorem YF(a b:List Ne):eD (a++b)=eD a++eD b:=by simp[eD]
theorem Wh{I:Nat}{fs ds:List Dv}{x:Nd}(h:GY I fs ds i x):∃y:Ne,y.dv=x.dv/\(∀p∈y.parts,p < i)/\y.parts.length<=2:=by
 cases x with
 | yE k=>exact⟨.yE k,rfl,(fun _ z=>by cases z),by simp[Ne.parts]⟩
 | fix c =>
  obtain⟨_,l,rfl⟩:=h;exact⟨.fix l,rfl,(fun _ z=>by cases z),by simp[Ne.parts]⟩
 | act d ps =>
  obtain⟨⟨r,_,h1,h2,l,rfl⟩,hp⟩:=h;exact⟨.act l ps,rfl,hp,by show ps.length<=2;omega⟩
theorem Wg{I:Nat}{fs ds:List Dv}:∀(F:List Nd) (o:Nat),(∀i x,F[i]?=some x->GY I fs ds (o+i) x)->∃E:List Ne,eD E=nD F/\∀i x,E[i]?=some x->(∀p∈x.parts,p < o+i)/\x.parts.length<=2
 | [],o,_=>⟨[],rfl,fun i x h=>by simp at h⟩
 | x::F,o,h=>by
  obtain⟨y,e1,h1,h2⟩:=Wh (h 0 x rfl);obtain⟨E,e2,h3⟩:=Wg F (o+1) fun i z hz=>by
   have:=h (i+1) z (by simpa using hz);rw[show o+(i+1)=o+1+i by omega] at this;exact this
  refine⟨y::E,by show y.dv::eD E=x.dv::nD F;rw[e1,e2],fun i z hz=>?_⟩;cases i with
  | zero=>cases hz;exact⟨h1,h2⟩
  | succ i=>have:=h3 i z (by simpa using hz);rw[show o+(i+1)=o+1+i by omega];exact this
theorem MT:∀a b:List Nat,R.zi (nI a) (nI b)=decide (a=b)
 | [],[]=>rfl
 | [],_::_=>rfl
 | _::_,[]=>rfl
 | x::a,y::b=>by
  show(R.yU (.int (x:Nat)) (.int (y:Nat)) && R.zi (nI a) (nI b))=_;rw[MT a b];have:R.yU (.int (x:Nat)) (.int (y:Nat))=decide (x=y):=by
   show(((x:Nat):Int) == ((y:Nat):Int))=_
   by_cases e:x=y
   ·subst e;simp
   ·have:¬((x:Nat):Int)=((y:Nat):Int):=by omega
    simp[e,this]
  rw[this,<- wA];exact decide_eq_decide.mpr ⟨fun h=>by rw[h.1,h.2],fun h=>by cases h;exact⟨rfl,rfl⟩⟩
theorem YB(a b:Ne):R.yU a.dv b.dv=decide (a=b):=by
 have st:∀l m:List Nat,(l == m)=decide (l=m):=fun l m=>X9 l m
 cases a with
 | yE k =>
  cases b with
  | yE j =>
   show((Lc == Lc) && ((((k:Nat):Int) == ((j:Nat):Int)) && true))=_
   by_cases e:k=j
   ·subst e;simp
   ·have:¬((k:Nat):Int)=((j:Nat):Int):=by omega
    simp[e,this]
  | fix _=>rfl
  | act _ _=>rfl
 | fix l =>
  cases b with
  | yE _=>rfl
  | fix m =>
   show((Ld == Ld) && ((l == m) && true))=_;rw[st l m]
   by_cases e:l=m<;>simp[e]
  | act _ _=>rfl
 | act l ps =>
  cases b with
  | yE _=>rfl
  | fix _=>rfl
  | act m qs =>
   show((gH == gH) && ((l == m) && (R.zi (nI ps) (nI qs) && true)))=_;rw[st l m,MT]
   by_cases e:l=m
   ·by_cases e2:ps=qs<;>simp[e,e2]
   ·simp[e]
theorem Wi(x:Ne):x.dv.cmp=true/\x.dv.dep<=2:=by
 cases x with
 | yE k=>exact⟨rfl,by show max 0 (max 0 0)+1<=2;decide⟩
 | fix l=>exact⟨rfl,by show max 0 (max 0 0)+1<=2;decide⟩
 | act l ps =>
  have h:=VI ps;refine⟨?_,?_⟩
  ·show(true && (true && ((tI ps).cmp && true)))=true;rw[h.1];rfl
  ·show max 0 (max 0 (max (tI ps).dep 0))+1<=2;have:=h.2;omega
theorem Pq:∀L:List Ne,Ah (eD L)=true/\BD (eD L)<=2
 | []=>⟨rfl,G5 _⟩
 | x::L=>by
  have h:=Wi x;have k:=Pq L;exact⟨by show(x.dv.cmp && Ah (eD L))=true;rw[h.1,k.1];rfl,by show max x.dv.dep (BD (eD L))<=2;omega⟩
theorem Rc(x:Ne):∀L:List Ne,R.zM x.dv (eD L)=decide (x∈L)
 | []=>rfl
 | y::L=>by
  show(R.yU y.dv x.dv || R.zM x.dv (eD L))=_;rw[Rc x L,YB,<- wW];exact decide_eq_decide.mpr ⟨fun h=>by rcases h with h | h<;>simp[h],fun h=>by rcases B9.mp h with h | h<;>simp[h]⟩
theorem IV(x:Ne):∃xs,x.dv=.tup xs:=by cases x<;>exact⟨_,rfl⟩
theorem Wd(x:Ne)(L:List Ne):DN x.dv (.lst (eD L))=some (!decide (x∈L)):=by
 have c:(x.dv.cmp && Ah (eD L) && decide (BD (eD L)<=150))=true:=by
  have h:=Pq L;rw[(Wi x).1,h.1,G6,S3];exact decide_eq_true (by omega)
 have v:lV (.lst (eD L))=some (eD L):=rfl;have m:=Rc x L;cases x<;>simp only[Ne.dv] at c m ⊢<;>simp only[Hb,v,c,if_true,m]
theorem Ro(x:Ne):∀{L:List Ne},x∈L->R.zAT x.dv (eD L)=some (L.idxOf x)
 | y::L,h=>by
  show(if R.yU y.dv x.dv=true then some 0 else(R.zAT x.dv (eD L)).map (·+1))=_;rw[YB,tW]
  by_cases e:y=x
  ·subst e;simp
  ·have q:(y == x)=false:=beq_eq_false_iff_ne.mpr e;have h':x∈L:=(B9.mp h).resolve_left fun z=>e z.symm
   rw[Ro x h',q];simp[e]
variable {x:Ne}
theorem XM{L:List Ne}(h:x∈L):Hf (.lst (eD L)) x.dv=some (.int (L.idxOf x:Nat)):=by
 have c:(x.dv.cmp && Ah (eD L) && decide (BD (eD L)<=150))=true:=by
  have h:=Pq L;rw[(Wi x).1,h.1,G6,S3];exact decide_eq_true (by omega)
 simp only[Hf,c,if_true,Ro x h,F7]
noncomputable def put(G:List Ne)(x:Ne):List Ne:=if x∈G then G else G++[x]
theorem Lu(G:List Ne)(x:Ne):x∈put G x:=by
 unfold put;split
 ·assumption
 ·simp
noncomputable def NP(ns:List Nat):Ne->Ne
 | .act l ps=>.act l (ps.map fun p=>ns.getD p 0)
 | x=>x
def En(s:List Ne×List Nat)(x:Ne):List Ne×List Nat:=(put s.1 (NP s.2 x),s.2++[(put s.1 (NP s.2 x)).idxOf (NP s.2 x)])
theorem aV(G:List Ne)(x:Ne):(put G x).length<=G.length+1:=by
 unfold put;split
 ·omega
 ·simp
theorem Hy(s:List Ne×List Nat)(x:Ne):(En s x).1.length<=s.1.length+1/\(En s x).2.length=s.2.length+1:=⟨aV _ _,by simp[En]⟩
theorem EJ:∀(E:List Ne) (s:List Ne×List Nat),(E.foldl En s).1.length<=s.1.length+E.length/\(E.foldl En s).2.length=s.2.length+E.length
 | [],s=>⟨B7 _,rfl⟩
 | x::E,s=>by
  have h:=EJ E (En s x);have k:=Hy s x;rw[V5,C6];omega
def dF(o:Nat)(E:List Ne):Prop:=∀i x,E[i]?=some x->(∀p∈x.parts,p < o+i)/\x.parts.length<=2
theorem dF.tail{o:Nat}{E:List Ne}(h:dF o (x::E)):dF (o+1) E:=fun i z hz=>by
 have:=h (i+1) z (by simpa using hz);rw[show o+(i+1)=o+1+i by omega] at this;exact this
theorem IE{ns:List Nat}{p:Nat}(h:p < ns.length):AA (.lst (nI ns)) (.int (p:Nat))=some (.int (ns.getD p 0:Nat)):=VB h
theorem Co{g:Dv->Option Dv}{ns:List Nat}(hg:∀p:Nat,p < ns.length->g (.int (p:Nat))=some (.int (ns.getD p 0:Nat))):∀ps:List Nat,(∀p∈ps,p < ns.length)->BQ g (nI ps)=some (nI (ps.map fun p=>ns.getD p 0))
 | [],_=>rfl
 | p::ps,h=>by
  have ih:=Co hg ps fun q hq=>h q (A7 _ hq)
  have e:=hg p (h p B2);simp only[nI] at ih;simp only[nI,B6,BQ,e,A0,ih]
theorem Rh(ps:List Nat):items (tI ps)=some (nI ps):=rfl
theorem Vo{ns:List Nat}(h:∀p∈x.parts,p < ns.length)(hl:x.parts.length<=2):Bz x.dv (.lst (nI ns))=some (NP ns x).dv:=by
 cases x with
 | yE k=>rfl
 | fix l=>rfl
 | act l ps =>
  have e0:AA (Ne.act l ps).dv (.int 0)=some Hh:=rfl;have e1:AA (Ne.act l ps).dv (.int 1)=some (.str l):=rfl;have e2:AA (Ne.act l ps).dv (.int 2)=some (tI ps):=rfl;have ne:Jw Hh (.str [100,111])=some false:=rfl;have hp:ps.length<=2:=hl;have m:=Co (g:=DG (.lst (nI ns))) (ns:=ns) (fun p hp=>by unfold DG;rw[IE hp];rfl) ps h;unfold Bz;simp only[e0,e1,e2,ne,A0,B0,if_false,Rh];rw[BC (by rw[BB];omega),m];rfl
def Cp:Ne->NK Ak
 | .yE k=>[.inl (.inr (tx Lc)),.inl (.inl ((k:Nat):Int))]
 | .fix l=>[.inl (.inr (tx Ld)),.inl (.inr (tx l))]
 | .act l ps=>[.inl (.inr (tx gH)),.inl (.inr (tx l)),.inr (kI ps)]
theorem Kv:∀ps:List Nat,Ff (nI ps)=some (kI ps)
 | []=>rfl
 | p::ps=>by
  have ih:=Kv ps;simp only[nI,kI] at ih;simp only[nI,kI,B6,Ff,DX,A0,ih]
theorem ME(x:Ne):QF x.dv=some (Cp x):=by
 cases x with
 | yE k=>rfl
 | fix l=>rfl
 | act l ps =>
  have h:jQ (tI ps)=some (kI ps):=Kv ps;have k:DX (tI ps)=none:=rfl;show Kw [Hh,.str l,tI ps]=_;simp only[Kw,Hh,DX,k,h,F7,Option.map_none,uM,uN,A0];rfl
theorem Hx{a b:List Nat}(h:tx a=tx b):a=b:=by
 have:=congrArg Str.cps h;simpa[tx] using this
theorem XF:∀{a b:List Nat},kI a=kI b->a=b
 | [],[],_=>rfl
 | [],_::_,h=>by simp[kI] at h
 | _::_,[],h=>by simp[kI] at h
 | x::a,y::b,h=>by
  simp only[kI,B6,M3,V3] at h;have:x=y:=by omega
  rw[this,XF (a:=a) (b:=b) h.2]
theorem Nt{a b:Ne}(h:Cp a=Cp b):a=b:=by
 cases a with
 | yE k =>
  cases b with
  | yE j =>
   simp only[Cp,M3,V3,true_and,and_true] at h;have:k=j:=by omega
   rw[this]
  | fix m=>simp only[Cp,M3,V3,q9] at h;exact absurd (Hx h.1) (by decide)
  | act m qs=>simp[Cp] at h
 | fix l =>
  cases b with
  | yE j=>simp only[Cp,M3,V3,q9] at h;exact absurd (Hx h.1) (by decide)
  | fix m =>
   simp only[Cp,M3,V3,q9,true_and,and_true] at h;rw[Hx h]
  | act m qs=>simp[Cp] at h
 | act l ps =>
  cases b with
  | yE j=>simp[Cp] at h
  | fix m=>simp[Cp] at h
  | act m qs =>
   simp only[Cp,M3,V3,q9,true_and,and_true] at h;rw[Hx h.1,XF h.2]
theorem XD(G:List Ne)(x:Ne):((G.map Cp).any fun j=>decide (j=Cp x))=decide (x∈G):=by
 induction G with
 | nil=>rfl
 | cons y G ih =>
  rw[B6,Q5,ih,<- wW];exact decide_eq_decide.mpr ⟨fun h=>h.elim (fun h=>(Nt h)▸B2) fun h=>A7 _ h,fun h=>by rcases B9.mp h with h | h<;>simp[h]⟩
theorem fM(x:Ne):∀(G:List Ne) (o:Nat),Du (Cp x) (G.map Cp) (nI ((B1 G.length).map (o+·)))=if x∈G then some (.int ((o+G.idxOf x:Nat))) else none
 | [],_=>rfl
 | y::G,o=>by
  rw[C6,T4];simp only[nI,B6,X2,Du]
  by_cases e:y=x
  ·subst e;simp
  ·have e1:¬Cp y=Cp x:=fun z=>e (Nt z)
   have q:(y == x)=false:=beq_eq_false_iff_ne.mpr e;rw[if_neg e1,tW,q];have ih:=fM x G (o+1);unfold nI at ih;rw[X2] at ih;have:((fun t=>Dv.int ((t:Nat):Int))∘(fun x=>o+x)∘Nat.succ)=((fun t=>Dv.int ((t:Nat):Int))∘(fun x=>o+1+x)):=by
    funext z;simp only[Function.comp];congr 2;omega
   rw[this,ih];have e2:¬x=y:=fun z=>e z.symm
   by_cases h:x∈G
   ·rw[if_pos h,if_pos (A7 _ h)];congr 3;simp only[cond_false];omega
   ·rw[if_neg h,if_neg (by simp[e2,h])]
theorem YM(x:Ne)(G:List Ne):Du (Cp x) (G.map Cp) (nI (B1 G.length))=if x∈G then some (.int (G.idxOf x:Nat)) else none:=by
 have:=fM x G 0;simp only[N8] at this;have e:(B1 G.length).map (fun x=>x)=B1 G.length:=wm _;rw[e] at this;exact this
def YJ(G:List Ne):Dv:=match G with
 | []=>.yR [] []
 | G=>.zo (G.map Cp) (nI (B1 G.length))
variable {G:List Ne}
theorem IJ(h:G≠[]):YJ G=.zo (G.map Cp) (nI (B1 G.length)):=by
 cases G with
 | nil=>exact(h rfl).elim
 | cons _ _=>rfl
theorem Nr(x:Ne):DX x.dv=none:=by cases x<;>rfl
theorem UE(x:Ne)(G:List Ne):DN x.dv (YJ G)=some (!decide (x∈G)):=by
 have k:=ME x;have k0:=Nr x
 by_cases h:G=[]
 ·subst h;obtain⟨xs,e⟩:=IV x;rw[e] at k k0 ⊢;simp only[YJ,Hb,k,k0,vk,uN,sv,if_true,A0];simp
 ·rw[IJ h];obtain⟨xs,e⟩:=IV x;have d:=YM x G;rw[e] at k ⊢;simp only[Hb,k,A0,d,if_true]
  by_cases m:x∈G<;>simp[m]
theorem cC(h:x∈G):AA (YJ G) x.dv=some (.int (G.idxOf x:Nat)):=by
 have k:=ME x;have n:G≠[]:=fun z=>by rw[z] at h;cases h
 rw[IJ n];obtain⟨xs,e⟩:=IV x;have d:=YM x G;rw[if_pos h] at d;rw[e] at k ⊢;simp only[AA,k,A0,d]
theorem cB(h:x∉G)(hl:G.length<=1000000):AU (YJ G) x.dv (.int (G.length:Nat))=some (YJ (G++[x])):=by
 have k:=ME x;have k0:=Nr x;have e2:nI (B1 G.length)++[Dv.int (G.length:Nat)]=nI (B1 (G++[x]).length):=by rw[C5,G0,a6,HF];rfl
 by_cases n:G=[]
 ·subst n;obtain⟨xs,e⟩:=IV x;rw[e] at k k0;rw[e];simp only[YJ,AU,k,k0,vk,uN,sv,if_true,A0];rfl
 ·rw[IJ n,IJ (by simp)];have a:=XD G x;rw[decide_eq_false h] at a;obtain⟨xs,e⟩:=IV x;rw[e] at k;rw[e];simp only[AU,k,A0,if_pos (show(G.map Cp).length<=1000000 by simpa using hl),QY,QX,a,B0,if_false,e2];simp
def ob(G:List Ne):Dv:=.obj "Nodes" Tu ["listed", "numbers"] [.lst (eD G),YJ G]
theorem ni(G:List Ne):GP (ob G) "listed" = some (.lst (eD G)):=rfl
theorem ir(G:List Ne):GP (ob G) "numbers" = some (YJ G):=by
 show(if("numbers" : Str) == "listed" then some (Dv.lst (eD G)) else if("numbers" : Str) == "numbers" then some (YJ G) else none)=_
 rw[show(("numbers" : Str) == "listed")=false by decide,show(("numbers" : Str) == "numbers")=true by decide];rfl
theorem eF(G:List Ne):Br (ob G) "listed" = true:=rfl
theorem XH(G:List Ne):bo (YJ G)=true:=by cases G<;>rfl
theorem eC(G:List Ne):Br (ob G) "numbers" = true:=by unfold Br;rw[ir];exact XH G
def pe(xs:List Dv)(d:Dv):Dv:=.obj "Nodes" Tu ["listed", "numbers"] [.lst xs,d]
theorem nh(G:List Ne)(d:Dv):BY (ob G) "numbers" d=pe (eD G) d:=by
 show Dv.obj _ _ _ (if("numbers" : Str) == "listed" then _ else Dv.lst (eD G)::(if("numbers" : Str) == "numbers" then _ else _))=_
 rw[show(("numbers" : Str) == "listed")=false by decide,show(("numbers" : Str) == "numbers")=true by decide];rfl
theorem nk(xs:List Dv)(d:Dv):GP (pe xs d) "listed" = some (.lst xs):=rfl
theorem iw(xs:List Dv)(d:Dv):Br (pe xs d) "listed" = true:=rfl
theorem iu(xs:List Dv)(d y:Dv):BY (pe xs d) "listed" y=.obj "Nodes" Tu ["listed", "numbers"] [y,d]:=rfl
theorem Wb(hl:G.length<=100000):BN (ob G) x.dv=some (.int ((put G x).idxOf x:Nat),ob (put G x)):=by
  have s:Bn (ob G) x.dv=some (ob (put G x)):=by
    unfold Bn put;simp only[eC,cond_true,ir,A0,UE]
    by_cases h:x∈G
    · simp[h]
    · have ll:AN (.lst (eD G))=some (.int (G.length:Nat)):=by
        show some (Dv.int ((eD G).length:Nat))=_;rw[HU]
      simp only[h,decide_false,K8,if_true,eF,cond_true,ni,A0,ll,cB h (show G.length<=1000000 by omega),nh,iw,nk,Cv,Cs (show(eD G).length<=1000000 by rw[HU];omega),iu,if_false];unfold ob;rw[YF];rfl
  unfold BN;rw[s];simp only[A0,eC,cond_true,ir,cC (Lu G x)]
theorem Wf:∀ps:List Nat,Pn (nI ps)=true
 | []=>rfl
 | p::ps=>by show(true && Pn (nI ps))=true;rw[Wf ps];rfl
theorem iz(x:Ne):TL x.dv=true:=by
 cases x with
 | yE k=>rfl
 | fix l=>rfl
 | act l ps=>show(true && (true && (Pn (nI ps) && true)))=true;rw[Wf];rfl
theorem Rm:∀(E:List Ne) (o:Nat) (G:List Ne) (ns:List Nat),ns.length=o->dF o E->G.length+E.length<=100000->o+E.length<=100000->BK Dl (eD E) (ob G,.lst (nI ns))=some (ob (E.foldl En (G,ns)).1,.lst (nI (E.foldl En (G,ns)).2))
 | [],o,G,ns,_,_,_,_=>rfl
 | x::E,o,G,ns,hn,hw,hg,ho=>by
  rw[C6] at hg ho;have h0:=hw 0 x rfl;have hb:Dl x.dv (ob G,.lst (nI ns))=some (ob (En (G,ns) x).1,.lst (nI (En (G,ns) x).2)):=by
   have io:Fg (ob G) "Nodes" "number_of" = true:=rfl
   unfold Dl;simp only[Cv,io,cond_true,Vo (ns:=ns) (x:=x) (fun p hp=>by rw[hn];have:=h0.1 p hp;omega) h0.2,A0,iz,Wb (G:=G) (x:=NP ns x) (by omega),Cs (show(nI ns).length<=1000000 by rw[BB];omega)];simp only[En,HF];rfl
  have k:=Hy (G,ns) x;have ih:=Rm E (o+1) (En (G,ns) x).1 (En (G,ns) x).2 (by rw[k.2];simp[hn]) hw.tail (by have:=k.1;simp at this ⊢;omega) (by omega);show(Dl x.dv (ob G,.lst (nI ns))).bind (BK Dl (eD E))=_;rw[hb];exact ih
theorem XN:∀(E:List Ne) (o:Nat) (G:List Ne) (ns:List Nat),ns.length=o->dF o E->G.length+E.length<=100000->o+E.length<=100000->BK CZ (eD E) (.lst (eD G),.lst (nI ns))=some (.lst (eD (E.foldl En (G,ns)).1),.lst (nI (E.foldl En (G,ns)).2))
 | [],o,G,ns,_,_,_,_=>rfl
 | x::E,o,G,ns,hn,hw,hg,ho=>by
  rw[C6] at hg ho;have h0:=hw 0 x rfl;have r1:Ik x.dv (.lst (nI ns))=some (NP ns x).dv:=by
   have h:=fun p hp=>show p < ns.length by rw[hn];have:=h0.1 p hp;omega
   cases x with
   | yE k=>rfl
   | fix l=>rfl
   | act l ps =>
    have e0:AA (Ne.act l ps).dv (.int 0)=some Hh:=rfl;have e1:AA (Ne.act l ps).dv (.int 1)=some (.str l):=rfl;have e2:AA (Ne.act l ps).dv (.int 2)=some (tI ps):=rfl;have ne:De Hh (.str [100,111])=some true:=rfl;have hp:ps.length<=2:=h0.2;have m:=Co (g:=Iq (.lst (nI ns))) (ns:=ns) (fun p hp=>by unfold Iq;rw[IE hp];rfl) ps h;unfold Ik;simp only[e0,e1,e2,ne,A0,if_true,Rh];rw[BC (by rw[BB];omega),m];rfl
  have r2:Ij (.lst (eD G)) (NP ns x).dv=some (.lst (eD (put G (NP ns x)))):=by
   unfold Ij put;simp only[Wd,A0]
   by_cases h:NP ns x∈G
   ·simp[h]
   ·simp only[h,decide_false,K8,if_true,Cv,Cs (show(eD G).length<=1000000 by rw[HU];omega),A0,if_false,YF];rfl
  have r3:Ii (NP ns x).dv (.lst (eD (put G (NP ns x))))=some (.int ((put G (NP ns x)).idxOf (NP ns x):Nat)):=by
   unfold Ii;simp only[Cv,XM (Lu G (NP ns x)),A0,uM]
  have hb:CZ x.dv (.lst (eD G),.lst (nI ns))=some (.lst (eD (En (G,ns) x).1),.lst (nI (En (G,ns) x).2)):=by
   unfold CZ;simp only[r1,r2,r3,A0,Cv,Cs (show(nI ns).length<=1000000 by rw[BB];omega)];simp only[En,HF];rfl
  have k:=Hy (G,ns) x;have ih:=XN E (o+1) (En (G,ns) x).1 (En (G,ns) x).2 (by rw[k.2];simp[hn]) hw.tail (by have:=k.1;simp at this ⊢;omega) (by omega);show(CZ x.dv (.lst (eD G),.lst (nI ns))).bind (BK CZ (eD E))=_;rw[hb];exact ih
def fD(E:List Ne):Dv:=.tup [.tup (eD E),.int ((E.length - 1:Nat))]
def Zj(E:List Ne):Prop:=dF 0 E/\0 < E.length/\E.length<=30
def Ga(s:List Ne×List Nat)(E:List Ne):List Ne×List Nat:=((E.foldl En (s.1,[])).1,s.2++[(E.foldl En (s.1,[])).2.getD (E.length - 1) 0])
theorem Lg{E:List Ne}(h:Zj E)(s:List Ne×List Nat):(Ga s E).1.length<=s.1.length+30/\(Ga s E).2.length=s.2.length+1:=by
 have k:=EJ E (s.1,[]);have:=h.2.2;refine⟨?_,by simp[Ga]⟩;show(E.foldl En (s.1,[])).1.length<=_;have:=k.1;simp only at this;omega
theorem Nf:∀(Es:List (List Ne)) (G:List Ne) (ts:List Nat),(∀E∈Es,Zj E)->G.length+30 * Es.length<=10000->ts.length+Es.length<=10000->BK Dk (Es.map fD) (ob G,.lst (nI ts))=some (ob (Es.foldl Ga (G,ts)).1,.lst (nI (Es.foldl Ga (G,ts)).2))
 | [],G,ts,_,_,_=>rfl
 | E::Es,G,ts,h,hg,ht=>by
  rw[C6] at hg ht;have hE:=h E B2;have i0:AA (fD E) (.int 0)=some (.tup (eD E)):=rfl;have i1:AA (fD E) (.int 1)=some (.int ((E.length - 1:Nat))):=rfl;have it:items (.tup (eD E))=some (eD E):=rfl;have l2:=(EJ E (G,[])).2;simp only[M5,N8] at l2;have e1:=Rm E 0 G [] rfl hE.1 (by have:=hE.2.2;omega) (by have:=hE.2.2;omega);have e2:AA (.lst (nI (E.foldl En (G,[])).2)) (.int ((E.length - 1:Nat)))=some (.int ((E.foldl En (G,[])).2.getD (E.length - 1) 0:Nat)):=IE (by rw[l2];have:=hE.2.1;omega);have hb:Dk (fD E) (ob G,.lst (nI ts))=some (ob (Ga (G,ts) E).1,.lst (nI (Ga (G,ts) E).2)):=by
   unfold Dk;simp only[i0,it,A0];have e1':BK Dl (eD E) (ob G,.lst [])=_:=e1;rw[e1'];simp only[A0,Cv,i1,e2,Cs (show(nI ts).length<=1000000 by rw[BB];omega)];simp only[Ga,HF];rfl
  have k:=Lg hE (G,ts);have ih:=Nf Es (Ga (G,ts) E).1 (Ga (G,ts) E).2 (fun F hF=>h F (A7 _ hF)) (by have:=k.1;simp at this ⊢;omega) (by rw[k.2];simp;omega);show(Dk (fD E) (ob G,.lst (nI ts))).bind (BK Dk (Es.map fD))=_;rw[hb];exact ih
theorem RW:∀(Es:List (List Ne)) (G:List Ne) (ts:List Nat),(∀E∈Es,Zj E)->G.length+30 * Es.length<=10000->ts.length+Es.length<=10000->BK CY (Es.map fD) (.lst (eD G),.lst (nI ts))=some (.lst (eD (Es.foldl Ga (G,ts)).1),.lst (nI (Es.foldl Ga (G,ts)).2))
 | [],G,ts,_,_,_=>rfl
 | E::Es,G,ts,h,hg,ht=>by
  rw[C6] at hg ht;have hE:=h E B2;have it:items (.tup (eD E))=some (eD E):=rfl;have l2:=(EJ E (G,[])).2;simp only[M5,N8] at l2;have e1:=XN E 0 G [] rfl hE.1 (by have:=hE.2.2;omega) (by have:=hE.2.2;omega);have e2:AA (.lst (nI (E.foldl En (G,[])).2)) (.int ((E.length - 1:Nat)))=some (.int ((E.foldl En (G,[])).2.getD (E.length - 1) 0:Nat)):=IE (by rw[l2];have:=hE.2.1;omega);have hb:CY (fD E) (.lst (eD G),.lst (nI ts))=some (.lst (eD (Ga (G,ts) E).1),.lst (nI (Ga (G,ts) E).2)):=by
   unfold CY fD;rw[IU];simp only[it,A0];have e1':BK CZ (eD E) (.lst (eD G),.lst [])=_:=e1;rw[e1'];simp only[A0,Cv,e2,Cs (show(nI ts).length<=1000000 by rw[BB];omega)];simp only[Ga,HF];rfl
  have k:=Lg hE (G,ts);have ih:=RW Es (Ga (G,ts) E).1 (Ga (G,ts) E).2 (fun F hF=>h F (A7 _ hF)) (by have:=k.1;simp at this ⊢;omega) (by rw[k.2];simp;omega);show(CY (fD E) (.lst (eD G),.lst (nI ts))).bind (BK CY (Es.map fD))=_;rw[hb];exact ih
theorem To:Cc (.obj "Nodes" Tu [] [])=some (.xQ,ob []):=by
 have h1:Ds (.obj "Nodes" Tu [] []) "listed" (.lst [])=some (.obj "Nodes" Tu ["listed"] [.lst []]):=by rfl
 have h2:Ds (.obj "Nodes" Tu ["listed"] [.lst []]) "numbers" (.yR [] [])=some (ob []):=by rfl
 unfold Cc;rw[h1];simp only[A0,h2]
def Wc(Es:List (List Ne)):List Ne:=(Es.foldl Ga ([],[])).1
def Zu(Es:List (List Ne)):List Nat:=(Es.foldl Ga ([],[])).2
theorem HL{a:Dv}{Es:List (List Ne)}(ha:items a=some (Es.map fD))(h:∀E∈Es,Zj E)(hl:Es.length<=50):NM a=some (.tup [.tup (eD (Wc Es)),.tup (nI (Zu Es))])/\EM a=some (.tup [.lst (eD (Wc Es)),.lst (nI (Zu Es))]):=by
 have e1:=Nf Es [] [] h (by simp;omega) (by simp;omega);have e2:=RW Es [] [] h (by simp;omega) (by simp;omega);refine⟨?_,?_⟩
 ·have m1:jF Dv.xQ [ob []]=fun(k:Dv->Option Dv)=>k (ob []):=rfl
  unfold NM;rw[To];simp only[A0,m1,ha];have e1':BK Dk (Es.map fD) (ob [],.lst [])=_:=e1;rw[e1'];simp only[A0,eF,cond_true,ni,Av];rfl
 ·unfold EM;simp only[ha,A0];have e2':BK CY (Es.map fD) (.lst [],.lst [])=_:=e2;rw[e2'];rfl
def Hg(ar:List Nat->Nat):Ne->Prop
 | .act l ps=>ps.length=ar l
 | _=>True
def y0(ar:List Nat->Nat)(G:List Ne):Prop:=∀x∈G,(∀p∈x.parts,p < G.length)/\Hg ar x
section
variable {ar:List Nat->Nat}
theorem gh{ns:List Nat}(h:Hg ar x)(hp:∀p∈x.parts,p < ns.length)(hn:∀k∈ns,k < n):(∀p∈(NP ns x).parts,p < n)/\Hg ar (NP ns x):=by
 cases x with
 | yE k=>exact⟨(fun _ z=>by cases z),trivial⟩
 | fix l=>exact⟨(fun _ z=>by cases z),trivial⟩
 | act l ps =>
  refine⟨fun p z9=>?_,by show(ps.map _).length=ar l;rw[D5];exact h⟩;obtain⟨q,hq,rfl⟩:=M6.mp z9;exact hn _ (getD_mem (hp q hq))
theorem gy(h:y0 ar G)(hx:(∀p∈x.parts,p < G.length)/\Hg ar x):y0 ar (put G x)/\G.length<=(put G x).length:=by
 unfold put;split
 ·exact⟨h,B7 _⟩
 ·refine⟨fun y hy=>?_,by simp⟩;rw[C5];rcases C0.mp hy with hy | hy
  ·exact⟨fun p hp=>by have:=(h y hy).1 p hp;omega,(h y hy).2⟩
  ·rw[D2] at hy;subst hy;exact⟨fun p hp=>by have:=hx.1 p hp;omega,hx.2⟩
theorem RF:∀(E:List Ne) (o:Nat) (G:List Ne) (ns:List Nat),ns.length=o->dF o E->(∀x∈E,Hg ar x)->y0 ar G->(∀k∈ns,k < G.length)->y0 ar (E.foldl En (G,ns)).1/\(∀k∈(E.foldl En (G,ns)).2,k < (E.foldl En (G,ns)).1.length)/\G.length<=(E.foldl En (G,ns)).1.length
 | [],o,G,ns,hn,hw,ha,hG,hk=>⟨hG,hk,B7 _⟩
 | x::E,o,G,ns,hn,hw,ha,hG,hk=>by
  have h0:=hw 0 x rfl;have r:=gh (ns:=ns) (x:=x) (n:=G.length) (ha x B2) (fun p hp=>by rw[hn];have:=h0.1 p hp;omega) hk;obtain⟨p1,p2⟩:=gy hG r;have k:=Hy (G,ns) x;have ih:=RF E (o+1) (En (G,ns) x).1 (En (G,ns) x).2 (by rw[k.2];simp[hn]) hw.tail (fun y hy=>ha y (A7 _ hy)) p1 fun j hj=>by
   rcases C0.mp hj with hj | hj
   ·have:=hk j hj;show j < (put G (NP ns x)).length;omega
   ·rw[D2] at hj;subst hj;exact q8.mpr (Lu _ _)
  rw[V5];exact⟨ih.1,ih.2.1,A4 p2 ih.2.2⟩
theorem Lf:∀(Es:List (List Ne)) (s:List Ne×List Nat),(∀E∈Es,Zj E/\∀x∈E,Hg ar x)->y0 ar s.1->(∀t∈s.2,t < s.1.length)->y0 ar (Es.foldl Ga s).1/\∀t∈(Es.foldl Ga s).2,t < (Es.foldl Ga s).1.length
 | [],s,_,h,k=>⟨h,k⟩
 | E::Es,s,hE,h,k=>by
  obtain⟨f,a⟩:=hE E B2;obtain⟨o1,o2,o3⟩:=RF E 0 s.1 [] rfl f.1 a h (fun _ z=>by cases z);refine Lf Es (Ga s E) (fun F hF=>hE F (A7 _ hF)) o1 fun t ht=>?_
  rcases C0.mp ht with ht | ht
  ·have:=k t ht;show t < (E.foldl En (s.1,[])).1.length;omega
  ·rw[D2] at ht;subst ht;have l2:=(EJ E (s.1,[])).2;simp only[M5,N8] at l2;exact o2 _ (getD_mem (by rw[l2];have:=f.2.1;omega))
end
theorem IZ:∀(Es:List (List Ne)) (s:List Ne×List Nat),(∀E∈Es,Zj E)->(Es.foldl Ga s).1.length<=s.1.length+30 * Es.length/\(Es.foldl Ga s).2.length=s.2.length+Es.length
 | [],s,_=>⟨by simp,by simp⟩
 | E::Es,s,h=>by
  have k:=Lg (h E B2) s;have ih:=IZ Es (Ga s E) fun F hF=>h F (A7 _ hF)
  rw[V5,C6];omega
def pD(p:List Ne×List Ne):Dv:=.tup [fD p.1,fD p.2]
noncomputable def BL(ps:List (List Ne×List Ne)):List (List Ne):=ps.flatMap fun p=>[p.1,p.2]
theorem Da:∀ps:List (List Ne×List Ne),(BL ps).length=2 * ps.length
 | []=>rfl
 | p::ps=>by
  have ih:=Da ps;simp only[BL] at ih;simp only[BL,o8,C5,ih,C6,M5];omega
variable {xs:List Dv}
theorem ee{ys:List Dv}(h:xs.length+ys.length<=1000000):Bh (.lst xs) [.tup ys]=some (.xQ,.lst (xs++ys)):=by simp only[Bh,if_pos h]
theorem Ja{g:Dv->Dv->Option Dv}(hg:∀xs ys:List Dv,xs.length+ys.length<=1000000->g (.tup ys) (.lst xs)=some (.lst (xs++ys))):∀(ps:List (List Ne×List Ne)) (xs:List Dv),xs.length+2 * ps.length<=1000->BK g (ps.map pD) (.lst xs)=some (.lst (xs++(BL ps).map fD))
 | [],xs,_=>by simp[BK,BL]
 | p::ps,xs,h=>by
  rw[C6] at h;have e:=hg xs [fD p.1,fD p.2] (by simp;omega);have ih:=Ja hg ps (xs++[fD p.1,fD p.2]) (by simp;omega);show(g (.tup [fD p.1,fD p.2]) (.lst xs)).bind (BK g (ps.map pD))=_;rw[e];simp only[A0,ih];simp only[BL,o8,a8,B6,T3,N6]
variable {gs:List (List Ne×List Ne)} {q:List Ne×List Ne}
theorem JY(h:gs.length<=20):DB (.tup (gs.map pD)) (pD q)=some (.lst ((BL (gs++[q])).map fD)):=by
 have a:AS (.tup (gs.map pD)) (.tup [pD q])=some (.tup ((gs++[q]).map pD)):=by
  simp only[AS,D5,G0,if_pos (show gs.length+1<=1000000 by omega),a8,B6,T3]
 have it:items (.tup ((gs++[q]).map pD))=some ((gs++[q]).map pD):=rfl;unfold DB;simp only[a,A0,it];rw[Ja (fun xs ys hl=>by unfold Kk;simp only[Cv,ee hl,A0]) (gs++[q]) [] (by simp;omega)];simp
theorem Pj(h:gs.length<=20)(hE:∀E∈BL (gs++[q]),Zj E):Cd (.tup (gs.map pD)) (pD q)=some (.tup [.tup (eD (Wc (BL (gs++[q])))),.tup (nI (Zu (BL (gs++[q]))))]):=by
 have l:Jt (.tup (gs.map pD))=some (.lst (gs.map pD)):=rfl;have a:AS (.lst (gs.map pD)) (.lst [pD q])=some (.lst ((gs++[q]).map pD)):=by
  simp only[AS,D5,G0,if_pos (show gs.length+1<=1000000 by omega),a8,B6,T3]
 have it:items (.lst ((gs++[q]).map pD))=some ((gs++[q]).map pD):=rfl;have s:=(HL (a:=.lst ((BL (gs++[q])).map fD)) rfl hE (by rw[Da];simp;omega)).1;unfold Cd;simp only[l,a,A0,it];rw[Ja (fun xs ys hl=>by unfold Fv;simp only[Cv,ee hl,A0]) (gs++[q]) [] (by simp;omega)];simp only[A0,wB,s]
def Qq(ps:List Nat):Prop:=∀w,ps.getD w 0<=w
noncomputable def rt(ps:List Nat)(w:Nat):Nat:=if h:ps.getD w 0 < w then rt ps (ps.getD w 0) else w
termination_by w
theorem Iz(ps:List Nat)(w:Nat):rt ps w=if ps.getD w 0 < w then rt ps (ps.getD w 0) else w:=by
 rw[rt];split<;>rfl
theorem Lo{ps:List Nat}(hp:Qq ps):∀(n w:Nat),w < n->ps.getD (rt ps w) 0=rt ps w/\rt ps w<=w
 | 0,w,h=>by omega
 | n+1,w,h=>by
  rw[Iz]
  by_cases c:ps.getD w 0 < w
  ·rw[if_pos c];have:=Lo hp n (ps.getD w 0) (by omega);exact⟨this.1,by omega⟩
  ·rw[if_neg c];have:=hp w;exact⟨by omega,B7 _⟩
theorem HB{w:Nat}(h:ps.getD w 0=w):rt ps w=w:=by rw[Iz,if_neg (by omega)]
theorem Hz(hp:Qq ps)(w:Nat):rt ps (ps.getD w 0)=rt ps w:=by
 have:=hp w
 by_cases c:ps.getD w 0 < w
 ·rw[Iz ps w,if_pos c]
 ·rw[show ps.getD w 0=w by omega]
variable {u:Nat}
theorem Eb{x w:Nat}(h:u < ps.length):(ps.set u x).getD w 0=if w=u then x else ps.getD w 0:=by
 simp only[D7,vM]
 by_cases e:u=w
 ·subst e;simp[h]
 ·have e2:¬w=u:=fun z=>e z.symm
  simp[e,e2]
theorem YX(hp:Qq ps)(h:u < ps.length):Qq (ps.set u (ps.getD (ps.getD u 0) 0)):=fun w=>by
 rw[Eb h];split
 ·rename_i e;subst e;have a:=hp w;have b:=hp (ps.getD w 0);omega
 ·exact hp w
theorem MZ{ps:List Nat}{u:Nat}(hp:Qq ps)(h:u < ps.length):∀(n w:Nat),w < n->rt (ps.set u (ps.getD (ps.getD u 0) 0)) w=rt ps w
 | 0,w,hw=>by omega
 | n+1,w,hw=>by
  have a:=hp u;have b:=hp (ps.getD u 0);rw[Iz,Eb h]
  by_cases e:w=u
  ·subst e;rw[if_pos rfl]
   by_cases c:ps.getD (ps.getD w 0) 0 < w
   ·rw[if_pos c,MZ hp h n _ (by omega),Hz hp,Hz hp]
   ·rw[if_neg c,HB (show ps.getD w 0=w by omega)]
  ·rw[if_neg e];rw[Iz ps w]
   by_cases c:ps.getD w 0 < w
   ·rw[if_pos c,if_pos c,MZ hp h n _ (by omega)]
   ·rw[if_neg c,if_neg c]
structure JS (ps xV:List Nat):Prop where
 low:Qq xV
 len:xV.length=ps.length
 rt:∀w,rt xV w=rt ps w
theorem JS.refl(h:Qq ps):JS ps ps:=⟨h,rfl,fun _=>rfl⟩
theorem JS.trans{a b c:List Nat}(h:JS a b)(k:JS b c):JS a c:=⟨k.low,k.len.trans h.len,fun w=>(k.rt w).trans (h.rt w)⟩
def jb(ps:List Nat):Dv:=.obj "Joins" Tu ["leads"] [.lst (nI ps)]
theorem jS(ps:List Nat):GP (jb ps) "leads" = some (.lst (nI ps)):=rfl
theorem jT(ps:List Nat):Br (jb ps) "leads" = true:=rfl
theorem oC(ps qs:List Nat):BY (jb ps) "leads" (.lst (nI qs))=jb qs:=rfl
theorem jB(ps:List Nat)(u x:Nat):(nI ps).set u (.int (x:Nat))=nI (ps.set u x):=by simp[nI]
theorem Ve{x:Nat}(h:u < ps.length):AU (.lst (nI ps)) (.int (u:Nat)) (.int (x:Nat))=some (.lst (nI (ps.set u x))):=by
 have:Hq (nI ps).length (u:Int)=some u:=by
  unfold Hq;rw[if_pos (by omega),if_pos (by rw[BB];omega)];simp
 simp only[AU,this,A0,jB]
theorem Ez(hp:Qq ps)(hu:u < ps.length)(hl:ps.length<=1000):∃xV,Al (jb ps) (.int (u:Nat))=some (.int (rt ps u:Nat),jb xV)/\JS ps xV:=by
 obtain⟨c,e,xV,rfl,j⟩:=EF Bb Ca (fun m c=>∃xV,c=(jb xV,.int (m:Nat))/\JS ps xV/\m < ps.length/\rt ps m=rt ps u) (fun c=>∃xV,c=(jb xV,.int (rt ps u:Nat))/\JS ps xV) (fun m c ⟨xV,ec,j,hm,hr⟩=>by
  subst ec;have hm':m < xV.length:=by rw[j.len];exact hm
  have a:=j.low m;have t:Bb (jb xV,.int (m:Nat))=some (!decide (((xV.getD m 0:Nat):Int)=(m:Nat))):=by
   unfold Bb;simp only[jT,cond_true,jS,A0,IE hm',Mj]
  by_cases c:xV.getD m 0=m
  ·refine .inl ⟨by rw[t,c];simp,xV,?_,j⟩;rw[<- hr,<- j.rt,HB c]
  ·refine .inr ⟨by rw[t,decide_eq_false (show ¬((xV.getD m 0:Nat):Int)=(m:Nat) by omega)];rfl,?_⟩;have h1:xV.getD m 0 < xV.length:=by omega
   have lo:=YX j.low hm';refine⟨(jb (xV.set m (xV.getD (xV.getD m 0) 0)),.int (xV.getD (xV.getD m 0) 0:Nat)),xV.getD (xV.getD m 0) 0,?_,?_,_,rfl,?_,?_,?_⟩
   ·have h2:m < (xV.set m (xV.getD (xV.getD m 0) 0)).length:=by simpa using hm'
    unfold Ca;simp only[jT,cond_true,jS,A0,IE hm',IE h1,Ve hm',oC,IE h2,Eb hm',if_true]
   ·have b:=j.low (xV.getD m 0);omega
   ·exact⟨lo,by rw[D1,j.len],fun w=>by rw[MZ j.low hm' (w+1) w (by omega),j.rt]⟩
   ·have b:=j.low (xV.getD m 0);omega
   ·rw[<- hr,<- j.rt,<- j.rt,Hz j.low,Hz j.low]) 1000000 u (jb ps,.int (u:Nat)) (by omega) ⟨ps,rfl,JS.refl hp,hu,rfl⟩
 refine⟨xV,?_,j⟩;unfold Al;rw[e];rfl
theorem JR(ps:List Nat):Fg (jb ps) "Joins" "root_of" = true/\Fg (jb ps) "Joins" "are_joined" = true/\Fg (jb ps) "Joins" "make_joined" = true:=⟨rfl,rfl,rfl⟩
variable {v:Nat}
theorem Hj(hp:Qq ps)(hu:u < ps.length)(hv:v < ps.length)(hl:ps.length<=1000):∃xV,Aj (jb ps) (.int (u:Nat)) (.int (v:Nat))=some (.bl (decide (rt ps u=rt ps v)),jb xV)/\JS ps xV:=by
 obtain⟨p1,e1,j1⟩:=Ez hp hu hl;obtain⟨p2,e2,j2⟩:=Ez j1.low (show v < p1.length by rw[j1.len];exact hv) (by rw[j1.len];exact hl);refine⟨p2,?_,j1.trans j2⟩;have d:decide (((rt ps u:Nat):Int)=((rt ps v:Nat):Int))=decide (rt ps u=rt ps v):=decide_eq_decide.mpr (by omega);unfold Aj;simp only[(JR ps).1,(JR p1).1,cond_true,e1,e2,A0,BS,j1.rt,d]
theorem mM(a b:Nat):IP (.lst [.int (a:Nat),.int (b:Nat)])=some (.lst [.int ((min a b:Nat)),.int ((max a b:Nat))]):=by
 have e:Hk [(a:Int),(b:Int)]=[((min a b:Nat):Int),((max a b:Nat):Int)]:=by
  symm
  apply Nv
  ·by_cases h:a<=b
   ·rw[Z9 h,sy h]
   ·rw[s8 (by omega),tX (by omega)];exact List.Perm.swap ..
  ·simp;omega
 have:Mr (.lst [.int (a:Nat),.int (b:Nat)])=some (.lst ((Hk [(a:Int),(b:Int)]).map .int)):=rfl;unfold IP;rw[this,e];rfl
theorem MF{ps:List Nat}{m M:Nat}(hp:Qq ps)(hM:M < ps.length)(le:m<=M)(rm:ps.getD m 0=m)(rM:ps.getD M 0=M):∀(n w:Nat),w < n->rt (ps.set M m) w=if rt ps w=M then m else rt ps w
 | 0,w,hw=>by omega
 | n+1,w,hw=>by
  rw[Iz,Eb hM]
  by_cases e:w=M
  ·subst e;rw[if_pos rfl,HB rM,if_pos rfl]
   by_cases c:m < w
   ·rw[if_pos c,MF hp hM le rm rM n m (by omega),HB rm];rw[if_neg (by omega)]
   ·rw[if_neg c];omega
  ·rw[if_neg e,Iz ps w]
   by_cases c:ps.getD w 0 < w
   ·rw[if_pos c,if_pos c,MF hp hM le rm rM n _ (by omega)]
   ·rw[if_neg c,if_neg c,if_neg e]
theorem TY(hp:Qq ps)(hu:u < ps.length)(hv:v < ps.length)(hl:ps.length<=1000):∃xV,Ax (jb ps) (.int (u:Nat)) (.int (v:Nat))=some (.xQ,jb xV)/\Qq xV/\xV.length=ps.length/\∀w,rt xV w=if rt ps w=max (rt ps u) (rt ps v) then min (rt ps u) (rt ps v) else rt ps w:=by
 obtain⟨p1,e1,j1⟩:=Ez hp hu hl;obtain⟨p2,e2,j2⟩:=Ez j1.low (show v < p1.length by rw[j1.len];exact hv) (by rw[j1.len];exact hl);have j:=j1.trans j2;have ru:=Lo j.low (u+1) u (by omega);have rv:=Lo j.low (v+1) v (by omega);rw[j.rt] at ru rv;rw[j1.rt] at e2;have hM:max (rt ps u) (rt ps v) < p2.length:=by rw[j.len];omega
 have rm:p2.getD (min (rt ps u) (rt ps v)) 0=min (rt ps u) (rt ps v):=by
  rcases vP (rt ps u) (rt ps v) with h | h
  ·rw[Z9 h];exact ru.1
  ·rw[s8 h];exact rv.1
 have rM:p2.getD (max (rt ps u) (rt ps v)) 0=max (rt ps u) (rt ps v):=by
  rcases vP (rt ps u) (rt ps v) with h | h
  ·rw[sy h];exact rv.1
  ·rw[tX h];exact ru.1
 refine⟨p2.set (max (rt ps u) (rt ps v)) (min (rt ps u) (rt ps v)),?_,fun w=>?_,by rw[D1,j.len],fun w=>?_⟩
 ·have i0:∀x y:Dv,AA (.lst [x,y]) (.int 0)=some x:=fun _ _=>rfl
  have i1:∀x y:Dv,AA (.lst [x,y]) (.int 1)=some y:=fun _ _=>rfl
  unfold Ax;simp only[(JR ps).1,(JR p1).1,cond_true,e1,e2,A0,mM,i0,i1,jT,jS,Ve hM,oC]
 ·rw[Eb hM];split
  ·omega
  ·exact j.low w
 ·rw[MF j.low hM (by omega) rm rM (w+1) w (by omega),j.rt]
noncomputable def JL(ls:List Nat)(u v:Nat):List Nat:=ls.map fun l=>if l=ls.getD v 0 then ls.getD u 0 else l
theorem Rb(ls:List Nat)(u v:Nat):(JL ls u v).length=ls.length:=by simp[JL]
variable {ls:List Nat}
theorem Wq{w:Nat}(h:w < ls.length):(JL ls u v).getD w 0=if ls.getD w 0=ls.getD v 0 then ls.getD u 0 else ls.getD w 0:=by
 rw[show ls.getD w 0=ls[w] by simp[sx,h],D7,JL,C9,A3 h];rfl
theorem Np(hu:u < ls.length)(hv:v < ls.length)(hl:ls.length<=1000):BO (.lst (nI ls)) (.int (u:Nat)) (.int (v:Nat))=some (.lst (nI (JL ls u v))):=by
 have m:∀ks:List Nat,BQ (Di (.lst (nI ls)) (.int (u:Nat)) (.int (v:Nat))) (nI ks)=some (nI (ks.map fun l=>if l=ls.getD v 0 then ls.getD u 0 else l)):=fun ks=>by
  induction ks with
  | nil=>rfl
  | cons k ks ih =>
   have e:Di (.lst (nI ls)) (.int (u:Nat)) (.int (v:Nat)) (.int (k:Nat))=some (.int ((if k=ls.getD v 0 then ls.getD u 0 else k:Nat))):=by
    unfold Di Ih;simp only[IE hv,IE hu,A0,BS]
    by_cases c:k=ls.getD v 0
    ·rw[if_pos c,c];simp
    ·rw[if_neg c,decide_eq_false (show ¬((k:Nat):Int)=((ls.getD v 0:Nat):Int) by omega)];simp
   simp only[nI] at ih e;simp only[nI,B6,BQ,e,A0,ih]
 have it:items (.lst (nI ls))=some (nI ls):=rfl;unfold BO;simp only[it,A0];rw[BC (by rw[BB];omega),m ls];rfl
theorem DW(len:ls.length=n)(hn:n<=500)(hu:u < n)(hv:v < n):BO (.lst (nI ls)) (.int (u:Nat)) (.int (v:Nat))=some (.lst (nI (JL ls u v))):=by
 subst len;exact Np hu hv (A4 hn (by decide))
def Rl(n:Nat)(ps ls:List Nat):Prop:=Qq ps/\ps.length=n/\ls.length=n/\∀w x,w < n->x < n->(rt ps w=rt ps x↔ls.getD w 0=ls.getD x 0)
theorem Rl.js{xV:List Nat}(h:Rl n ps ls)(j:JS ps xV):Rl n xV ls:=⟨j.low,by rw[j.len];exact h.2.1,h.2.2.1,fun w x hw hx=>by rw[j.rt,j.rt];exact h.2.2.2 w x hw hx⟩
theorem Rn(a b m M:Nat):((if a=M then m else a)=if b=M then m else b)↔(a=b\/((a=m\/a=M)/\(b=m\/b=M))):=by
 by_cases p:a=M<;>by_cases q:b=M
 ·simp[p,q]
 ·rw[if_pos p,if_neg q];exact⟨fun h=>.inr ⟨.inr p,.inl h.symm⟩,fun h=>h.elim (fun h=>(q (h.symm.trans p)).elim) fun h=>(h.2.resolve_right q).symm⟩
 ·rw[if_neg p,if_pos q];exact⟨fun h=>.inr ⟨.inl h,.inr q⟩,fun h=>h.elim (fun h=>(p (h.trans q)).elim) fun h=>h.1.resolve_right p⟩
 ·rw[if_neg p,if_neg q];exact⟨.inl,fun h=>h.elim id fun h=>(h.1.resolve_right p).trans (h.2.resolve_right q).symm⟩
theorem eN(a b t:Nat):(t=min a b\/t=max a b)↔(t=a\/t=b):=by
 rcases vP a b with h | h
 ·rw[Z9 h,sy h]
 ·rw[s8 h,tX h];exact Or.comm
theorem Rl.make{xV:List Nat}(h:Rl n ps ls)(hu:u < n)(hv:v < n)(lo:Qq xV)(len:xV.length=ps.length)(r:∀w,rt xV w=if rt ps w=max (rt ps u) (rt ps v) then min (rt ps u) (rt ps v) else rt ps w):Rl n xV (JL ls u v):=by
 obtain⟨h1,h2,h3,h4⟩:=h;refine⟨lo,by rw[len];exact h2,by rw[Rb];exact h3,fun w x hw hx=>?_⟩;rw[r,r,Wq (h3.symm▸hw),Wq (h3.symm▸hx),Rn,Rn];have a1:=h4 w x hw hx;have a2:=h4 w u hw hu;have a3:=h4 w v hw hv;have a4:=h4 x u hx hu;have a5:=h4 x v hx hv;rw[eN,eN,a1,a2,a3,a4,a5]
theorem Jj(h:i < G.length):AA (.lst (eD G)) (.int (i:Nat))=some G[i].dv:=by
 show FQ (eD G) (i:Int)=_;rw[Be _ _ (by rw[HU];exact h)];simp[eD]
theorem Ji(h:i < G.length):AA (.tup (eD G)) (.int (i:Nat))=some G[i].dv:=Jj h
theorem QE(G:List Ne):AN (.lst (eD G))=some (.int (G.length:Nat)):=by
 show some (Dv.int ((eD G).length:Nat))=_;rw[HU]
def Ne.kd:Ne->Dv
 | .yE _=>EH
 | .fix _=>EI
 | .act _ _=>Hh
theorem qS(x:Ne):AA x.dv (.int 0)=some x.kd:=by cases x<;>rfl
def eX:Ne->List Dv
 | .yE k=>[EH,.int (k:Nat)]
 | .fix l=>[EI,.str l]
 | .act l _=>[Hh,.str l]
theorem eI(x:Ne):FT x.dv none (some 2)=some (.tup (eX x)):=by cases x<;>rfl
theorem jd(l:List Nat)(y:Ne):∃b,De (.tup [Hh,.str l]) (.tup (eX y))=some b/\(b=true->∃m qs,y=.act m qs):=by
 cases y with
 | yE k=>exact⟨false,rfl,fun z=>by cases z⟩
 | fix m=>exact⟨false,rfl,fun z=>by cases z⟩
 | act m qs=>exact⟨_,rfl,fun _=>⟨m,qs,rfl⟩⟩
theorem YY(a:List Nat):(Dv.lst (nI a)).cmp=true/\(Dv.lst (nI a)).dep<=1:=VI a
theorem ZR(neg:Bool)(a b:List Nat):Mm neg (.lst (nI a)) (.lst (nI b))=some (if neg then !decide (a=b) else decide (a=b)):=by
 have h:=YY a;have k:=YY b;have e:R.yU (.lst (nI a)) (.lst (nI b))=decide (a=b):=MT a b;unfold Mm;rw[h.1,k.1,G6,S3,if_pos (decide_eq_true (show(Dv.lst (nI a)).dep<=150 by omega)),e]
theorem Xe{qs:List Nat}(h:qs.length<=2):(nI qs).length<=1000000:=by rw[BB];exact A4 h (by decide)
noncomputable def pr(p:Nat×Nat):Dv:=.tup [.int (p.1:Nat),.int (p.2:Nat)]
section
variable {ar:List Nat->Nat} {G:List Ne} {ls:List Nat} (hG:y0 ar G) (hl:ls.length=G.length) (hn:G.length<=500)
include hG hl hn
theorem jI(hu:u < G.length)(hv:v < G.length){ps:List (Nat×Nat)}(hp:ps.length<=400000)(yP:∀l,ar l<=2):∃xV,Gn (.lst (eD G)) (.lst (nI ls)) (.int (u:Nat)) (.int (v:Nat)) (.lst (ps.map pr))=some (.lst (xV.map pr))/\(xV=ps\/(xV=ps++[(u,v)]/\ls.getD u 0≠ls.getD v 0)):=by
 have eu:=Jj hu;have ev:=Jj hv;unfold Gn Ke;simp only[IE (hl.symm▸hu),IE (hl.symm▸hv),A0,Mj]
 by_cases c:ls.getD u 0=ls.getD v 0
 ·exact⟨ps,by rw[c];simp,.inl rfl⟩
 ·rw[decide_eq_false (show ¬((ls.getD u 0:Nat):Int)=((ls.getD v 0:Nat):Int) by omega)];have gu:=hG G[u] (G2 hu);have gv:=hG G[v] (G2 hv);unfold Kf;cases qu:G[u] with
  | yE k =>
   rw[qu] at eu;have e0:AA (Ne.yE k).dv (.int 0)=some EH:=rfl;have e1:De EH (.str [100,111])=some false:=rfl;exact⟨ps,by simp only[eu,e0,e1,A0,K8,if_true,B0,if_false],.inl rfl⟩
  | fix k =>
   rw[qu] at eu;have e0:AA (Ne.fix k).dv (.int 0)=some EI:=rfl;have e1:De EI (.str [100,111])=some false:=rfl;exact⟨ps,by simp only[eu,e0,e1,A0,K8,if_true,B0,if_false],.inl rfl⟩
  | act l qs =>
   rw[qu] at eu gu;have e0:AA (Ne.act l qs).dv (.int 0)=some Hh:=rfl;have e1:De Hh (.str [100,111])=some true:=rfl;have e2:AA (Ne.act l qs).dv (.int 2)=some (tI qs):=rfl;have s1:FT (Ne.act l qs).dv none (some 2)=some (.tup [Hh,.str l]):=eI (.act l qs);obtain⟨b,eb,hb⟩:=jd l G[v];simp only[eu,ev,e0,e1,s1,eI,eb,A0,K8,if_true];cases b with
   | false=>exact⟨ps,by simp,.inl rfl⟩
   | true =>
    obtain⟨m,rs,qv⟩:=hb rfl;rw[qv] at ev gv;have e3:AA (Ne.act m rs).dv (.int 2)=some (tI rs):=rfl;have m1:=Co (g:=Gu (.lst (nI ls))) (ns:=ls) (fun p hp=>by unfold Gu;rw[IE hp];rfl) qs fun p hp=>hl.symm▸gu.1 p hp
    have m2:=Co (g:=Gs (.lst (nI ls))) (ns:=ls) (fun p hp=>by unfold Gs;rw[IE hp];rfl) rs fun p hp=>hl.symm▸gv.1 p hp
    have l1:qs.length<=2:=(show qs.length=ar l from gu.2)▸yP l;have l2:rs.length<=2:=(show rs.length=ar m from gv.2)▸yP m;unfold Kj;simp only[if_true,eu,ev,e2,e3,Rh,A0];rw[BC (Xe l1),m1];simp only[A0];rw[BC (Xe l2),m2];simp only[A0,ZR,B0,if_false]
    by_cases d:(qs.map fun p=>ls.getD p 0)=rs.map fun p=>ls.getD p 0
    ·refine⟨ps++[(u,v)],?_,.inr ⟨rfl,c⟩⟩;rw[decide_eq_true d];simp only[if_true,Cv,Cs (show(ps.map pr).length<=1000000 by rw[D5];omega),A0];simp[pr]
    ·exact⟨ps,by rw[decide_eq_false d];simp,.inl rfl⟩
def Zg(n:Nat)(ls:List Nat)(ps:List (Nat×Nat)):Prop:=∀p∈ps,p.1 < n/\p.2 < n/\ls.getD p.1 0≠ls.getD p.2 0
theorem Dr(yP:∀l,ar l<=2):∃ps,Dn (.lst (eD G)) (.lst (nI ls))=some (.lst (ps.map pr))/\Zg G.length ls ps/\ps.length<=300000:=by
 have rg:=Lr G.length (by omega);obtain⟨c,e,ps,rfl,ok,le⟩:=Bq (P:=fun i c=>∃ps:List (Nat×Nat),c=.lst (ps.map pr)/\Zg G.length ls ps/\ps.length<=500 * i) (Gz (.lst (eD G)) (.lst (nI ls))) G.length (.lst []) ⟨[],rfl,(fun _ z=>by cases z),by simp⟩ fun u hu c ⟨ps,ec,ok,le⟩=>by
  subst ec;have rg:=Lr u (by omega);obtain⟨c,e,xV,rfl,ok',le'⟩:=Bq (P:=fun i c=>∃xV:List (Nat×Nat),c=.lst (xV.map pr)/\Zg G.length ls xV/\xV.length<=500 * u+i) (HA (.lst (eD G)) (.lst (nI ls)) (.int (u:Nat))) u (.lst (ps.map pr)) ⟨ps,rfl,ok,le⟩ fun v hv c ⟨qs,ec,okq,leq⟩=>by
   subst ec;obtain⟨qs',e1,h⟩:=jI hG hl hn hu (show v < G.length by omega) (ps:=qs) (by omega) yP;refine⟨.lst (qs'.map pr),by unfold HA;rw[e1];rfl,qs',rfl,?_,?_⟩
   ·rcases h with rfl | ⟨rfl,h⟩
    ·exact okq
    ·intro p hp;rcases C0.mp hp with hp | hp
     ·exact okq p hp
     ·rw[D2] at hp;subst hp;exact⟨hu,by show v < _;omega,h⟩
   ·rcases h with rfl | ⟨rfl,h⟩
    ·omega
    ·simp;omega
  exact⟨_,by unfold Gz;simp only[rg,A0];rw[e];rfl,xV,rfl,ok',by omega⟩
 refine⟨ps,?_,ok,by omega⟩;unfold Dn;simp only[QE,A0,rg];rw[e];rfl
end
theorem Wp(hu:u < ls.length)(hb:∀x∈ls,x < n):(∀x∈JL ls u v,x < n)/\FS (fun x=>decide (x∈JL ls u v)) n<=FS (fun x=>decide (x∈ls)) n/\(v < ls.length->ls.getD u 0≠ls.getD v 0->FS (fun x=>decide (x∈JL ls u v)) n < FS (fun x=>decide (x∈ls)) n):=by
 have m:∀x∈JL ls u v,x∈ls:=fun x hx=>by
  obtain⟨l,hl,rfl⟩:=M6.mp hx;split
  ·exact getD_mem hu
  ·exact hl
 have m':∀x,decide (x∈JL ls u v)=true->decide (x∈ls)=true:=fun x hx=>decide_eq_true (m x (of_decide_eq_true hx))
 refine⟨fun x hx=>hb x (m x hx),Jo m' n,fun hv ne=>Qb (v:=ls.getD v 0) m' (decide_eq_true (getD_mem hv)) (decide_eq_false fun hx=>?_) (hb _ (getD_mem hv))⟩;obtain⟨l,hl,e⟩:=M6.mp hx;split at e
 ·exact ne e
 ·rename_i z;exact z e
theorem ML(len:ls.length=n)(hu:u < n)(hv:v < n)(hb:∀x∈ls,x < n):(JL ls u v).length=n/\(∀x∈JL ls u v,x < n)/\FS (fun x=>decide (x∈JL ls u v)) n<=FS (fun x=>decide (x∈ls)) n/\(ls.getD u 0≠ls.getD v 0->FS (fun x=>decide (x∈JL ls u v)) n < FS (fun x=>decide (x∈ls)) n):=by
 obtain⟨a,b,c⟩:=Wp (v:=v) (len.symm▸hu) hb;exact⟨by rw[Rb];exact len,a,b,c (len.symm▸hv)⟩
theorem JC(h:n<=1000000):Bg [.int (n:Nat)]=some (.lst (nI (B1 n))):=by
 have s:R.small (n:Int)=true:=by unfold R.small;simp only[A2,decide_eq_true_eq];omega
 show(if R.small (n:Int)=true/\(n:Int)<=1000000 then some (Dv.lst ((B1 (n:Int).toNat).map fun k=>Dv.int (k:Nat))) else none)=_;rw[if_pos ⟨s,by omega⟩];rfl
theorem ER{w:Nat}(h:w < n):(B1 n).getD w 0=w:=by simp[sx,h]
theorem Rl.start(n:Nat):Rl n (B1 n) (B1 n):=by
 have lo:Qq (B1 n):=fun w=>by
  rcases X4 w n with h | h
  ·rw[ER h];exact B7 _
  ·rw[D7,O1 (by simpa using h)];exact G5 _
 refine⟨lo,by simp,by simp,fun w x hw hx=>?_⟩;rw[HB (ER hw),HB (ER hx),ER hw,ER hx]
theorem dq(p:Nat×Nat):AA (pr p) (.int 0)=some (.int (p.1:Nat))/\AA (pr p) (.int 1)=some (.int (p.2:Nat)):=⟨rfl,rfl⟩
theorem Nq{ar:List Nat->Nat}(hG:y0 ar G)(hn:G.length<=500)(yP:∀l,ar l<=2){ps:List (Nat×Nat)}(hp:∀p∈ps,p.1 < G.length/\p.2 < G.length):∃ls,EN (.lst (eD G)) (.lst (ps.map pr))=some (.lst (nI ls))/\ls.length=G.length:=by
 have it:items (.lst (ps.map pr))=some (ps.map pr):=rfl;obtain⟨c1,e1,l1,rfl,zDI,b1⟩:=XZ Fe (fun c=>∃ls,c=.lst (nI ls)/\ls.length=G.length/\∀x∈ls,x < G.length) (ps.map pr) (.lst (nI (B1 G.length))) ⟨_,rfl,by simp,fun x hx=>by simpa using hx⟩ fun x hx c ⟨ls,ec,len,b⟩=>by
  subst ec;obtain⟨p,z9,rfl⟩:=M6.mp hx;obtain⟨h1,h2⟩:=hp p z9;have mf:=ML len h1 h2 b;refine⟨.lst (nI (JL ls p.1 p.2)),?_,_,rfl,mf.1,mf.2.1⟩;unfold Fe pr;rw[IU];simp only[DW len hn h1 h2,A0]
 obtain⟨yB,e2,ok2,_⟩:=Dr hG zDI hn yP;obtain⟨c,e3,ls,q,rfl,len⟩:=EF Df (Fc (.lst (eD G))) (fun m c=>∃(ls:List Nat) (yB:List (Nat×Nat)),c=(.lst (nI ls),.lst (yB.map pr))/\ls.length=G.length/\(∀x∈ls,x < G.length)/\Zg G.length ls yB/\FS (fun x=>decide (x∈ls)) G.length=m) (fun c=>∃ls q,c=(.lst (nI ls),q)/\ls.length=G.length) (fun m c ⟨ls,yB,ec,len,b,ok,hm⟩=>by
  subst ec;have t:Df (.lst (nI ls),.lst (yB.map pr))=some (decide (0 < yB.length)):=by
   unfold Df;have:AN (.lst (yB.map pr))=some (.int (yB.length:Nat)):=by
    show some (Dv.int ((yB.map pr).length:Nat))=_;rw[D5]
   simp only[this,A0,EA];congr 1;exact decide_eq_decide.mpr (by omega)
  cases yB with
  | nil=>exact .inl ⟨by rw[t];rfl,ls,_,rfl,len⟩
  | cons p yB =>
   refine .inr ⟨by rw[t];simp,?_⟩;obtain⟨h1,h2,h3⟩:=ok p B2;have mf:=ML len h1 h2 b;obtain⟨zAB,e4,ok4,_⟩:=Dr hG mf.1 hn yP;have i0:AA (.lst ((p::yB).map pr)) (.int 0)=some (pr p):=by
    show FQ (pr p::yB.map pr) ((0:Nat):Int)=_;rw[Be _ 0 (by simp)];rfl
   refine⟨(.lst (nI (JL ls p.1 p.2)),.lst (zAB.map pr)),_,?_,by rw[<- hm];exact mf.2.2.2 h3,_,_,rfl,mf.1,mf.2.1,ok4,rfl⟩;unfold Fc;simp only[i0,(dq p).1,(dq p).2,A0,DW len hn h1 h2,e4]) 1000000 _ (.lst (nI l1),.lst (yB.map pr)) (by have:=SF (fun x=>decide (x∈l1)) G.length;omega) ⟨l1,yB,rfl,zDI,b1,ok2,rfl⟩
 refine⟨ls,?_,len⟩;unfold EN;simp only[QE,A0,JC (show G.length<=1000000 by omega),it];rw[e1];simp only[A0,e2];rw[e3];rfl
inductive Rw where
 | giv (k:Int) | zt (u v:Int)
noncomputable def Sf:Dv:=.str [103,105,118,101,110]
noncomputable def Se:Dv:=.str [108,105,107,101]
def Rw.dv:Rw->Dv
 | .giv k=>.tup [Sf,.int k]
 | .zt u v=>.tup [Se,.int u,.int v]
noncomputable def dn(G:List Ne)(u:Int):Option (List Nat×List Nat):=if 0<=u/\u < G.length then(match G[u.toNat]? with
 | some (.act l qs)=>some (l,qs)
 | _=>none) else none
theorem CN{u:Int}{p:List Nat×List Nat}(h:dn G u=some p):∃(a:Nat) (ha:a < G.length),u=a/\G[a]=.act p.1 p.2:=by
 unfold dn at h;split at h
 ·rename_i c;refine⟨u.toNat,by omega,by omega,?_⟩;rw[A3 (by omega)] at h;split at h
  ·rename_i e;cases h;exact D0 e
  ·cases h
 ·cases h
theorem MV{u:Int}(h:dn G u=none)(h0:0<=u)(h1:u < G.length):∃(a:Nat) (ha:a < G.length),u=a/\Jw G[a].kd (.str [100,111])=some true/\De G[a].kd (.str [100,111])=some false:=by
 refine⟨u.toNat,by omega,by omega,?_⟩;unfold dn at h;rw[if_pos ⟨h0,h1⟩,A3 (by omega)] at h;cases q:G[u.toNat]'(by omega) with
 | yE k=>exact⟨rfl,rfl⟩
 | fix k=>exact⟨rfl,rfl⟩
 | act l qs=>rw[q] at h;cases h
theorem MU{u:Int}(h:¬(0<=u/\u < G.length)):dn G u=none:=by unfold dn;rw[if_neg h]
def lk(G:List Ne)(ls:List Nat)(u v:Int):Bool:=match dn G u,dn G v with
 | some p,some q=>decide (p.1=q.1) && decide ((p.2.map fun t=>ls.getD t 0)=q.2.map fun t=>ls.getD t 0)
 | _,_=>false
theorem IL(i j:Int):fX (.int i) (.int j)=some (decide (i<=j)):=rfl
theorem Dx(i j:Int):Ml (.int i) (.int j)=some (decide (i < j)):=rfl
theorem oA(G:List Ne):AN (.tup (eD G))=some (.int (G.length:Nat)):=QE G
theorem SO(a b:List Nat):Jw (.str a) (.str b)=some (!decide (a=b)):=by
 have:R.yU (.str a) (.str b)=decide (a=b):=X9 a b;simp only[Mm,Dv.cmp,Dv.dep,G6,G5,decide_true,if_true,this]
section
variable {ar:List Nat->Nat} {G:List Ne} {ps ls:List Nat} (hG:y0 ar G) (hn:G.length<=500) (yP:∀l,ar l<=2)
theorem jZ(u v:Int):FY (.tup (eD G)) (.int u) (.int v)=some (!(decide (0<=u/\u < G.length) && decide (0<=v/\v < G.length))):=by
 unfold FY;simp only[IL,Dx,oA,A0]
 by_cases a:0<=u<;>by_cases b:u < G.length<;>by_cases c:0<=v<;>by_cases d:v < G.length<;>simp[a,b,c,d]
theorem Mw(hn:G.length<=500):∀(qs rs:List Nat) (ps:List Nat),Rl G.length ps ls->qs.length=rs.length->(∀p∈qs,p < G.length)->(∀p∈rs,p < G.length)->∃(bs:List Bool) (xV:List Nat),Cr Bo (Bw (nI qs) (nI rs)) (jb ps)=some (bs.map Dv.bl,jb xV)/\JS ps xV/\bs.all id=decide ((qs.map fun t=>ls.getD t 0)=rs.map fun t=>ls.getD t 0)
  | [],[],ps,h,_,_,_=>⟨[],ps,rfl,JS.refl h.1,rfl⟩
  | [],_::_,_,_,h,_,_=>by cases h
  | _::_,[],_,_,h,_,_=>by cases h
  | q::qs,r::rs,ps,h,hl,hq,hr=>by
    have q1:=hq q B2;have r1:=hr r B2;obtain⟨p1,e1,j1⟩:=Hj h.1 (show q < ps.length by rw[h.2.1];exact q1) (show r < ps.length by rw[h.2.1];exact r1) (by rw[h.2.1];omega);obtain⟨bs,p2,e2,j2,b2⟩:=Mw hn qs rs p1 (h.js j1) (by simpa using hl) (fun p hp=>hq p (A7 _ hp)) fun p hp=>hr p (A7 _ hp)
    refine⟨decide (rt ps q=rt ps r)::bs,p2,?_,j1.trans j2,?_⟩
    · have s:Bo (.tup [.int (q:Nat),.int (r:Nat)]) (jb ps)=some (.bl (decide (rt ps q=rt ps r)),jb p1):=by
        unfold Bo;rw[IU];simp only[(JR ps).2.1,cond_true,e1,A0]
      show(Bo (.tup [.int (q:Nat),.int (r:Nat)]) (jb ps)).bind _=_;rw[s];simp only[A0];have e2':Cr Bo (Bw (wQ (fun t=>Dv.int (t:Nat)) qs) (wQ (fun t=>Dv.int (t:Nat)) rs)) (jb p1)=_:=e2;simp only[e2',A0,B6]
    · rw[I9,b2,id,decide_eq_decide.mpr (h.2.2.2 q r q1 r1),<- wA];exact decide_eq_decide.mpr ⟨fun z=>by rw[B6,B6,z.1,z.2],fun z=>by rw[B6,B6] at z;exact⟨(ub z).1,(ub z).2⟩⟩
theorem NA:∀bs:List Bool,SX (bs.map Dv.bl)=some bs
 | []=>rfl
 | b::bs=>by rw[B6];simp only[SX,NA bs,F7]
theorem Qu:∀(a b:List Dv),(Bw a b).length<=a.length
 | [],_=>B7 _
 | _::_,[]=>by simp[Bw]
 | _::a,_::b=>by simpa[Bw] using Qu a b
include hG hn yP
theorem Td(h:Rl G.length ps ls)(u v:Int):∃xV,EO (.tup (eD G)) (jb ps) (.int u) (.int v)=some (.bl (lk G ls u v),jb xV)/\JS ps xV:=by
  have rf:=JS.refl h.1;unfold EO;rw[jZ];simp only[A0]
  by_cases a:0<=u/\u < G.length
  · by_cases b:0<=v/\v < G.length
    · rw[decide_eq_true a,decide_eq_true b];simp only[G6,K3,B0,if_false];cases du:dn G u with
      | none =>
        obtain⟨i,hi,rfl,k1,_⟩:=MV du a.1 a.2;obtain⟨j,rfl⟩:∃j:Nat,v=j:=⟨v.toNat,by omega⟩;have l0:lk G ls i j=false:=by unfold lk;rw[du]
        refine⟨ps,?_,rf⟩;unfold Dg;simp only[Ji hi,Ji (show j < G.length by omega),A0,qS,k1,if_true,l0]
      | some p =>
        obtain⟨i,hi,rfl,k1⟩:=CN du;have gi:=hG G[i] (G2 hi);rw[k1] at gi;have ei:=Ji hi;rw[k1] at ei;have e0:AA (Ne.act p.1 p.2).dv (.int 0)=some Hh:=rfl;have e1:AA (Ne.act p.1 p.2).dv (.int 1)=some (.str p.1):=rfl;have e2:AA (Ne.act p.1 p.2).dv (.int 2)=some (tI p.2):=rfl;have d0:Jw Hh (.str [100,111])=some false:=rfl;cases dv:dn G v with
        | none =>
          obtain⟨j,hj,rfl,k2,_⟩:=MV dv b.1 b.2;have l0:lk G ls i j=false:=by unfold lk;rw[du,dv]
          refine⟨ps,?_,rf⟩;unfold Dg FX;simp only[ei,Ji hj,A0,e0,d0,qS,k2,if_true,B0,if_false,l0]
        | some q =>
          obtain⟨j,hj,rfl,k2⟩:=CN dv;have gj:=hG G[j] (G2 hj);rw[k2] at gj;have ej:=Ji hj;rw[k2] at ej;have f0:AA (Ne.act q.1 q.2).dv (.int 0)=some Hh:=rfl;have f1:AA (Ne.act q.1 q.2).dv (.int 1)=some (.str q.1):=rfl;have f2:AA (Ne.act q.1 q.2).dv (.int 2)=some (tI q.2):=rfl;have l0:lk G ls i j=(decide (p.1=q.1) && decide ((p.2.map fun t=>ls.getD t 0)=q.2.map fun t=>ls.getD t 0)):=by unfold lk;rw[du,dv]
          rw[l0];unfold Dg FX;simp only[ei,ej,A0,e0,e1,e2,f0,f1,f2,d0,B0,if_false,SO]
          by_cases c:p.1=q.1
          · have ll:p.2.length=q.2.length:=by
              have x1:p.2.length=ar p.1:=gi.2;have x2:q.2.length=ar q.1:=gj.2;rw[x1,x2,c]
            have l2:p.2.length<=2:=(show p.2.length=ar p.1 from gi.2)▸yP p.1;obtain⟨bs,xV,e,j,hb⟩:=Mw hn p.2 q.2 ps h ll gi.1 gj.1;have z:RL [tI p.2,tI q.2]=some (Bw (nI p.2) (nI q.2)):=rfl;refine⟨xV,?_,j⟩;simp only[c,decide_true,K3,B0,if_false,z,A0,S3];rw[BC (A4 (Qu (nI p.2) (nI q.2)) (Xe l2)),e];simp only[A0,Za,NA,F7,hb]
          · exact⟨ps,by simp[c],rf⟩
    · have l0:lk G ls u v=false:=by unfold lk;rw[MU b];cases dn G u<;>rfl
      exact⟨ps,by rw[decide_eq_false b,X0,l0];rfl,rf⟩
  · have l0:lk G ls u v=false:=by unfold lk;rw[MU a]
    exact⟨ps,by rw[decide_eq_false a,uA,l0];rfl,rf⟩
def bU(G:List Ne)(ts:List Nat)(g:Nat)(ls:List Nat):Rw->Option (Nat×Nat)
 | .giv k=>if 0<=k/\k < g then some (ts.getD (2 * k.toNat) 0,ts.getD (2 * k.toNat+1) 0) else none
 | .zt u v=>if lk G ls u v=true then some (u.toNat,v.toNat) else none
omit hG hn yP in
theorem RY(ts:List Nat)(g:Nat)(k:Int):bU G ts g ls (.giv k)=if 0<=k/\k < g then some (ts.getD (2 * k.toNat) 0,ts.getD (2 * k.toNat+1) 0) else none:=rfl
omit hG hn yP in
theorem MC(ts:List Nat)(g:Nat)(u v:Int):bU G ts g ls (.zt u v)=if lk G ls u v=true then some (u.toNat,v.toNat) else none:=rfl
def Zm:Option (Nat×Nat)->Dv
 | some p=>pr p
 | none=>.xQ
theorem Vn(h:Rl G.length ps ls){g:Nat}(ht:ts.length=2 * (g+1))(hg:g<=100)(r:Rw):∃xV,DV (.tup (eD G)) (.tup (nI ts)) (jb ps) r.dv=some (Zm (bU G ts g ls r),jb xV)/\JS ps xV:=by
 cases r with
 | giv k =>
  have e0:AA (Rw.giv k).dv (.int 0)=some Sf:=rfl;have e1:AA (Rw.giv k).dv (.int 1)=some (.int k):=rfl;have d0:De Sf (.str [108,105,107,101])=some false:=rfl;have lt:AN (.tup (nI ts))=some (.int (ts.length:Nat)):=VH ts;have dv:Qn (.int (ts.length:Nat)) (.int 2)=some (.int ((g+1:Nat))):=by
   show some (Dv.int ((ts.length:Int) / 2))=_;rw[ht];congr 2;omega
  have sb:Hd (.int ((g+1:Nat))) (.int 1)=some (.int (g:Nat)):=by
   show some (Dv.int (((g+1:Nat):Int) - 1))=_;congr 2;omega
  refine⟨ps,?_,JS.refl h.1⟩;unfold DV;simp only[e0,d0,e1,A0,B0,if_false,IL,lt,dv,sb,Dx]
  by_cases a:0<=k
  ·by_cases b:k < g
   ·obtain⟨i,rfl⟩:∃i:Nat,k=i:=⟨k.toNat,by omega⟩;have mu:CH (.int 2) (.int (i:Nat))=some (.int ((2 * i:Nat))):=rfl;have ad:AS (.int ((2 * i:Nat))) (.int 1)=some (.int ((2 * i+1:Nat))):=rfl;have n1:AA (.tup (nI ts)) (.int ((2 * i:Nat)))=some (.int (ts.getD (2 * i) 0:Nat)):=VB (by omega);have n2:AA (.tup (nI ts)) (.int ((2 * i+1:Nat)))=some (.int (ts.getD (2 * i+1) 0:Nat)):=VB (by omega);simp only[a,b,decide_true,if_true,K3,B0,if_false,mu,ad,n1,n2,A0,bU,and_self,Zm,pr,O7]
   ·simp only[a,b,decide_true,decide_false,if_true,K8,bU,and_false,if_false,Zm]
  ·simp only[a,decide_false,B0,if_false,K8,if_true,bU,false_and,Zm]
 | zt u v =>
  have e0:AA (Rw.zt u v).dv (.int 0)=some Se:=rfl;have e1:AA (Rw.zt u v).dv (.int 1)=some (.int u):=rfl;have e2:AA (Rw.zt u v).dv (.int 2)=some (.int v):=rfl;have d0:De Se (.str [108,105,107,101])=some true:=rfl;obtain⟨xV,e,j⟩:=Td hG hn yP h u v;refine⟨xV,?_,j⟩;unfold DV Ig;simp only[e0,d0,e1,e2,A0,if_true,e,Zt];rw[MC];cases c:lk G ls u v with
  | false=>simp only[B0,if_false,Zm,A0]
  | true =>
   have c':=c;unfold lk at c;split at c
   ·rename_i p q du dv;obtain⟨i,_,rfl,_⟩:=CN du;obtain⟨j,_,rfl,_⟩:=CN dv;simp only[if_true,Zm,pr,A0,O7]
   ·cases c
omit hn yP in
theorem iy{g:Nat}(ht:ts.length=2 * (g+1))(hT:∀t∈ts,t < G.length){r:Rw}{p:Nat×Nat}(h:bU G ts g ls r=some p):p.1 < G.length/\p.2 < G.length:=by
 cases r with
 | giv k =>
  rw[RY] at h;split at h
  ·rename_i c;cases h;exact⟨hT _ (getD_mem (by omega)),hT _ (getD_mem (by omega))⟩
  ·cases h
 | zt u v =>
  rw[MC] at h;split at h
  ·rename_i c;cases h;unfold lk at c;split at c
   ·rename_i p q du dv;obtain⟨i,hi,rfl,_⟩:=CN du;obtain⟨j,hj,rfl,_⟩:=CN dv;exact⟨by simpa using hi,by simpa using hj⟩
   ·cases c
  ·cases h
end
section
variable {ar:List Nat->Nat} {G:List Ne} {ps ls:List Nat}
theorem qM(u:Int):Gg (.lst (eD G)) (.int u)=some (dn G u).isSome:=by
 unfold Gg;simp only[IL,Dx,QE,A0]
 by_cases a:0<=u
 ·by_cases b:u < G.length
  ·cases du:dn G u with
   | none =>
    obtain⟨i,hi,rfl,_,k⟩:=MV du a b;simp only[a,b,decide_true,if_true,Jj hi,qS,k,A0];rfl
   | some p =>
    obtain⟨i,hi,rfl,k⟩:=CN du;have ei:=Jj hi;rw[k] at ei;have e0:AA (Ne.act p.1 p.2).dv (.int 0)=some Hh:=rfl;have e1:De Hh (.str [100,111])=some true:=rfl;simp only[a,b,decide_true,if_true,ei,e0,e1,A0];rfl
  ·rw[MU (by omega)];simp[a,b]
 ·rw[MU (by omega)];simp[a]
theorem qO(u:Int):Ex (.lst (eD G)) (.int u)=some (if(dn G u).isSome=true then some (.int u) else none):=by
 unfold Ex;rw[qM];simp only[A0];split<;>rfl
theorem qN(u v:Int):JQ (Ex (.lst (eD G))) [.int u,.int v]=some ((if(dn G u).isSome=true then[.int u] else[])++if(dn G v).isSome=true then[.int v] else[]):=by
 simp only[JQ,qO,A0];cases(dn G u).isSome<;>cases(dn G v).isSome<;>rfl
theorem LD{nd:Dv}(h:xs.length < 2):Eo nd xs=some true:=by
 have l:AN (.lst xs)=some (.int (xs.length:Nat)):=rfl;unfold Eo;simp only[l,A0,Dx,decide_eq_true (show((xs.length:Nat):Int) < 2 by omega),if_true]
def Wy(ls:List Nat):Option (Nat×Nat)->Lp Dv Dv Unit
 | some p=>.go (.lst (nI (JL ls p.1 p.2)))
 | none=>.rt (.bl false) ()
theorem aO(hG:y0 ar G)(hn:G.length<=500)(yP:∀l,ar l<=2)(hl:ls.length=G.length){g:Nat}{givs:List Dv}(hgv:givs.length=g)(ht:ts.length=2 * (g+1))(hT:∀t∈ts,t < G.length)(r:Rw):CO (.tup givs) (.lst (eD G)) (.lst (nI ts)) r.dv (.lst (nI ls))=some (Wy ls (bU G ts g ls r)):=by
 cases r with
 | giv k =>
  have e0:AA (Rw.giv k).dv (.int 0)=some Sf:=rfl;have e1:AA (Rw.giv k).dv (.int 1)=some (.int k):=rfl;have d0:De Sf (.str [103,105,118,101,110])=some true:=rfl;have d1:De Sf (.str [108,105,107,101])=some false:=rfl;have lt:AN (.tup givs)=some (.int (g:Nat)):=by rw[<- hgv];rfl
  rw[RY];unfold CO Gh;simp only[e0,d0,e1,A0,if_true,IL,lt,Dx]
  by_cases a:0<=k
  ·by_cases b:k < g
   ·obtain⟨i,rfl⟩:∃i:Nat,k=i:=⟨k.toNat,by omega⟩;have mu:CH (.int 2) (.int (i:Nat))=some (.int ((2 * i:Nat))):=rfl;have ad:AS (.int ((2 * i:Nat))) (.int 1)=some (.int ((2 * i+1:Nat))):=rfl;have n1:=IE (ns:=ts) (p:=2 * i) (by omega);have n2:=IE (ns:=ts) (p:=2 * i+1) (by omega);have h1:=hT _ (getD_mem (ts:=ts) (h:=2 * i) (by omega));have h2:=hT _ (getD_mem (ts:=ts) (h:=2 * i+1) (by omega));simp only[a,b,decide_true,if_true,K3,B0,if_false,d1,mu,ad,n1,n2,A0,and_self,O7,DW hl hn h1 h2,Wy]
   ·simp only[a,b,decide_true,decide_false,if_true,K8,and_false,if_false,Wy,A0]
  ·simp only[a,decide_false,B0,if_false,K8,if_true,false_and,Wy,A0]
 | zt u v =>
  have e0:AA (Rw.zt u v).dv (.int 0)=some Se:=rfl;have d0:De Se (.str [103,105,118,101,110])=some false:=rfl;have d1:De Se (.str [108,105,107,101])=some true:=rfl;have sl:FT (Rw.zt u v).dv (some 1) none=some (.tup [.int u,.int v]):=rfl;have it:items (.tup [.int u,.int v])=some [.int u,.int v]:=rfl;rw[MC];unfold CO Gh;simp only[e0,d0,d1,sl,it,A0,if_true,B0,if_false];rw[BC (by simp),qN];simp only[A0];cases du:dn G u with
  | none =>
   have l0:lk G ls u v=false:=by unfold lk;rw[du]
   rw[LD (by simp;split<;>simp)];simp only[A0,if_true,l0,B0,if_false,Wy]
  | some p =>
   cases dv:dn G v with
   | none =>
    have l0:lk G ls u v=false:=by unfold lk;rw[du,dv]
    rw[LD (by simp)];simp only[A0,if_true,l0,B0,if_false,Wy]
   | some q =>
    obtain⟨i,hi,rfl,k1⟩:=CN du;obtain⟨j,hj,rfl,k2⟩:=CN dv;have gi:=hG G[i] (G2 hi);rw[k1] at gi;have ei:=Jj hi;rw[k1] at ei;have gj:=hG G[j] (G2 hj);rw[k2] at gj;have ej:=Jj hj;rw[k2] at ej;have a1:AA (Ne.act p.1 p.2).dv (.int 1)=some (.str p.1):=rfl;have a2:AA (Ne.act p.1 p.2).dv (.int 2)=some (tI p.2):=rfl;have b1:AA (Ne.act q.1 q.2).dv (.int 1)=some (.str q.1):=rfl;have b2:AA (Ne.act q.1 q.2).dv (.int 2)=some (tI q.2):=rfl;have i0:∀x y:Dv,AA (.lst [x,y]) (.int 0)=some x:=fun _ _=>rfl
    have i1:∀x y:Dv,AA (.lst [x,y]) (.int 1)=some y:=fun _ _=>rfl
    have l0:lk G ls i j=(decide (p.1=q.1) && decide ((p.2.map fun t=>ls.getD t 0)=q.2.map fun t=>ls.getD t 0)):=by unfold lk;rw[du,dv]
    have ll:AN (.lst [Dv.int (i:Nat),.int (j:Nat)])=some (.int 2):=rfl;have m1:=Co (g:=Gw (.lst (nI ls))) (ns:=ls) (fun p hp=>by unfold Gw;rw[IE hp];rfl) p.2 fun t ht=>hl.symm▸gi.1 t ht
    have m2:=Co (g:=Gv (.lst (nI ls))) (ns:=ls) (fun p hp=>by unfold Gv;rw[IE hp];rfl) q.2 fun t ht=>hl.symm▸gj.1 t ht
    have l1:p.2.length<=2:=(show p.2.length=ar p.1 from gi.2)▸yP p.1;have l2:q.2.length<=2:=(show q.2.length=ar q.1 from gj.2)▸yP q.1;rw[l0];unfold Eo;simp only[k8,if_true,List.cons_append,wB,ll,i0,i1,ei,ej,a1,b1,A0,Dx,SO,show decide ((2:Int) < 2)=false from rfl,B0,if_false]
    by_cases c:p.1=q.1
    ·rw[decide_eq_true c];simp only[K3,B0,if_false,a2,b2,Rh,A0,S3];rw[BC (Xe l1),m1];simp only[A0];rw[BC (Xe l2),m2];simp only[A0,ZR,if_true]
     by_cases d:(p.2.map fun t=>ls.getD t 0)=q.2.map fun t=>ls.getD t 0
     ·rw[decide_eq_true d];simp only[K3,B0,if_false,if_true,DW hl hn hi hj,A0,O7,Wy]
     ·rw[decide_eq_false d];simp only[K8,if_true,B0,if_false,Wy]
    ·simp only[c,decide_false,K8,if_true,uA,B0,if_false,Wy]
theorem pK(hG:y0 ar G)(hn:G.length<=500)(yP:∀l,ar l<=2){ts:List Nat}{g:Nat}{givs:List Dv}(hgv:givs.length=g)(hg:g<=100)(ht:ts.length=2 * (g+1))(hT:∀t∈ts,t < G.length):∀(rs:List Rw) (ps ls:List Nat),Rl G.length ps ls->(Ed (Aq (.tup [.tup (eD G),.tup (nI ts)]) (.tup (nI ts))) (rs.map Rw.dv) (jb ps)=some (.rt (.bl false) ())/\Ed (CO (.tup givs) (.lst (eD G)) (.lst (nI ts))) (rs.map Rw.dv) (.lst (nI ls))=some (.rt (.bl false) ()))\/∃xV ls',Ed (Aq (.tup [.tup (eD G),.tup (nI ts)]) (.tup (nI ts))) (rs.map Rw.dv) (jb ps)=some (.go (jb xV))/\Ed (CO (.tup givs) (.lst (eD G)) (.lst (nI ts))) (rs.map Rw.dv) (.lst (nI ls))=some (.go (.lst (nI ls')))/\Rl G.length xV ls'
 | [],ps,ls,h=>.inr ⟨ps,ls,rfl,rfl,h⟩
 | r::rs,ps,ls,h=>by
  have e2:=aO hG hn yP h.2.2.1 hgv ht hT r;obtain⟨p1,e1,j1⟩:=Vn hG hn yP h ht hg r;have i0:AA (.tup [.tup (eD G),.tup (nI ts)]) (.int 0)=some (.tup (eD G)):=rfl;cases c:bU G ts g ls r with
  | none =>
   rw[c] at e1 e2;have n0:Uj (Zm none) .xQ=some true:=rfl;have b1:Aq (.tup [.tup (eD G),.tup (nI ts)]) (.tup (nI ts)) r.dv (jb ps)=some (.rt (.bl false) ()):=by
    unfold Aq;simp only[i0,e1,n0,A0,if_true]
   refine .inl ⟨?_,?_⟩
   ·simp only[B6,Ed,b1,A0]
   ·simp only[B6,Ed,e2,A0,Wy]
  | some p =>
   rw[c] at e1 e2;obtain⟨q1,q2⟩:=iy hG ht hT c;have hr:=h.js j1;obtain⟨p2,e3,lo,len,r3⟩:=TY hr.1 (u:=p.1) (v:=p.2) (by rw[hr.2.1];exact q1) (by rw[hr.2.1];exact q2) (by rw[hr.2.1];omega);have hm:=hr.make q1 q2 lo len r3;have n0:Uj (Zm (some p)) .xQ=some false:=rfl;have k0:AA (Zm (some p)) (.int 0)=some (.int (p.1:Nat)):=rfl;have k1:AA (Zm (some p)) (.int 1)=some (.int (p.2:Nat)):=rfl;have b1:Aq (.tup [.tup (eD G),.tup (nI ts)]) (.tup (nI ts)) r.dv (jb ps)=some (.go (jb p2)):=by
    unfold Aq;simp only[i0,e1,n0,A0,B0,if_false,(JR p1).2.2,cond_true,k0,k1,e3]
   have ih:=pK hG hn yP hgv hg ht hT rs p2 (JL ls p.1 p.2) hm;simp only[B6,Ed,b1,e2,A0,Wy];exact ih
end
theorem nr{k:Nat}(h0:0 < k)(h:k<=ts.length):FQ (nI ts) (-(k:Int))=some (.int (ts.getD (ts.length - k) 0:Nat)):=by
 unfold FQ Hq;rw[if_neg (by omega),if_pos (by rw[BB];omega)];simp only[A0];rw[show(-(k:Int)+(nI ts).length).toNat=ts.length - k by rw[BB];omega];have:ts.length - k < ts.length:=by omega
 simp[nI,sx,this]
theorem oB(h:n<=1000):Cg (.obj "Joins" Tu [] []) (.int (n:Nat))=some (.xQ,jb (B1 n)):=by
 have f:Ds (.obj "Joins" Tu [] []) "leads" (.lst (nI (B1 n)))=some (jb (B1 n)):=rfl
 unfold Cg;simp only[JC (show n<=1000000 by omega),A0,f]
theorem QL{ar:List Nat->Nat}(yP:∀l,ar l<=2)(hg:gs.length<=7)(hE:∀E∈BL (gs++[q]),Zj E/\∀x∈E,Hg ar x)(rs:List Rw):∃b,CB (.tup (gs.map pD)) (pD q) (.tup (rs.map Rw.dv))=some (.bl b)/\GB (.tup (gs.map pD)) (pD q) (.tup (rs.map Rw.dv))=some (.bl b):=by
 have e1:=Pj (q:=q) (show gs.length<=20 by omega) fun E h=>(hE E h).1
 have e2:=JY (q:=q) (show gs.length<=20 by omega);have e3:=(HL (a:=.lst ((BL (gs++[q])).map fD)) rfl (fun E h=>(hE E h).1) (by rw[Da];simp;omega)).2;obtain⟨g1,g2⟩:=Lf (BL (gs++[q])) ([],[]) hE (fun _ z=>by cases z) (fun _ z=>by cases z);have l:=IZ (BL (gs++[q])) ([],[]) fun E h=>(hE E h).1
 rw[Da,C5,G0] at l;simp only[M5,N8] at l;have hG:y0 ar (Wc (BL (gs++[q]))):=g1;have hT:∀t∈Zu (BL (gs++[q])),t < (Wc (BL (gs++[q]))).length:=g2;have hn:(Wc (BL (gs++[q]))).length<=500:=by have:=l.1;show(xD Ga ([],[]) (BL (gs++[q]))).1.length<=500;omega
 have ht:(Zu (BL (gs++[q]))).length=2 * (gs.length+1):=l.2;generalize Wc (BL (gs++[q]))=G at *;generalize Zu (BL (gs++[q]))=ts at *;have j0:jF Dv.xQ [jb (B1 G.length)]=fun(k:Dv->Option Dv)=>k (jb (B1 G.length)):=rfl
 have i1:AA (.tup [.tup (eD G),.tup (nI ts)]) (.int 1)=some (.tup (nI ts)):=rfl;have i0:AA (.tup [.tup (eD G),.tup (nI ts)]) (.int 0)=some (.tup (eD G)):=rfl;have it:items (.tup (rs.map Rw.dv))=some (rs.map Rw.dv):=rfl;have n2:Cw (.int 2)=some (.int (-2)):=rfl;have n1:Cw (.int 1)=some (.int (-1)):=rfl;have t2:FQ (nI ts) (-2)=some (.int (ts.getD (ts.length - 2) 0:Nat)):=nr (k:=2) (by omega) (by omega);have t1:FQ (nI ts) (-1)=some (.int (ts.getD (ts.length - 1) 0:Nat)):=nr (k:=1) (by omega) (by omega);have p2:AA (.tup (nI ts)) (.int (-2))=some (.int (ts.getD (ts.length - 2) 0:Nat)):=t2;have p1:AA (.tup (nI ts)) (.int (-1))=some (.int (ts.getD (ts.length - 1) 0:Nat)):=t1;have q2:AA (.lst (nI ts)) (.int (-2))=some (.int (ts.getD (ts.length - 2) 0:Nat)):=t2;have q1:AA (.lst (nI ts)) (.int (-1))=some (.int (ts.getD (ts.length - 1) 0:Nat)):=t1;have h2:=hT _ (getD_mem (ts:=ts) (h:=ts.length - 2) (by omega));have h1:=hT _ (getD_mem (ts:=ts) (h:=ts.length - 1) (by omega));have ji:=oB (n:=G.length) (by omega);unfold CB GB;rw[e1,e2];simp only[A0,i0,i1,oA,e3];rw[IU,ji];simp only[A0,j0,it,QE,JC (show G.length<=1000000 by omega)];rcases pK hG hn yP (givs:=gs.map pD) (g:=gs.length) (by simp) (by omega) ht hT rs _ _ (Rl.start G.length) with⟨a,b⟩ | ⟨xV,ls',a,b,r⟩
 ·rw[a,b];exact⟨false,rfl,rfl⟩
 ·rw[a,b];obtain⟨p3,e4,_⟩:=Hj r.1 (show ts.getD (ts.length - 2) 0 < xV.length by rw[r.2.1];exact h2) (show ts.getD (ts.length - 1) 0 < xV.length by rw[r.2.1];exact h1) (by rw[r.2.1];omega);refine⟨decide (rt xV (ts.getD (ts.length - 2) 0)=rt xV (ts.getD (ts.length - 1) 0)),?_,?_⟩
  ·simp only[A0,Rs.el,(JR xV).2.1,cond_true,n1,n2,p1,p2,e4]
  ·simp only[A0,Rs.el,n1,n2,q1,q2,IE (show ts.getD (ts.length - 2) 0 < ls'.length by rw[r.2.2.1];exact h2),IE (show ts.getD (ts.length - 1) 0 < ls'.length by rw[r.2.2.1];exact h1),BS];congr 2;exact decide_eq_decide.mpr (by have:=r.2.2.2 _ _ h2 h1;omega)
theorem Vw{α β:Type}{f:α->β}:∀{xs:List α},xs.Pairwise (fun x y=>f x≠f y)->∀{a b:α},a∈xs->b∈xs->f a=f b->a=b
 | [],_,_,_,h,_,_=>by cases h
 | x::xs,hp,a,b,ha,hb,e=>by
  obtain⟨h1,h2⟩:=List.pairwise_cons.mp hp;rcases B9.mp ha with ha1 | ha1
  ·rcases B9.mp hb with hb1 | hb1
   ·rw[ha1,hb1]
   ·exact(h1 b hb1 (by rw[<- ha1];exact e)).elim
  ·rcases B9.mp hb with hb1 | hb1
   ·exact(h1 a ha1 (by rw[<- hb1];exact e.symm)).elim
   ·exact Vw h2 ha1 hb1 e
theorem pN{ds:List Dv}(hd:∀x∈ds,Zk 5 x)(dp:DP ds):∃ar:List Nat->Nat,(∀l,ar l<=2)/\∀l (r:Int),Dv.tup [.str l,.int r]∈ds->(ar l:Int)=r:=by
 classical
 have key:∀l (r:Int),Dv.tup [.str l,.int r]∈ds->r=1\/r=2:=fun l r h=>by
  obtain⟨a,k,e,_,hk⟩:=hd _ h;simp only[Dv.tup.injEq,M3,Dv.int.injEq,and_true] at e;rw[e.2];exact hk
 refine⟨fun l=>if h:∃r:Int,Dv.tup [.str l,.int r]∈ds then h.choose.toNat else 0,fun l=>?_,fun l r hr=>?_⟩
 ·dsimp only;split
  ·rename_i h;have:=key l _ h.choose_spec;omega
  ·omega
 ·have h:∃r:Int,Dv.tup [.str l,.int r]∈ds:=⟨r,hr⟩;dsimp only;rw[dif_pos h];have e:=Vw dp h.choose_spec hr rfl;simp only[Dv.tup.injEq,M3,Dv.int.injEq,and_true,true_and] at e;have:=key l r hr;rw[e];omega
section
variable {I:Nat} {fs ds:List Dv} {ar:List Nat->Nat}
theorem pO{y:Nd}(h:GY I fs ds i y)(e:x.dv=y.dv)(ha:∀l (r:Int),Dv.tup [.str l,.int r]∈ds->(ar l:Int)=r):Hg ar x:=by
 cases x with
 | yE k=>trivial
 | fix l=>trivial
 | act l ps =>
  cases y with
  | yE k=>simp[Ne.dv,Nd.dv] at e
  | fix c=>simp[Ne.dv,Nd.dv] at e
  | act d qs =>
   obtain⟨⟨r,hm,hr,_⟩,_⟩:=h;simp only[Ne.dv,Nd.dv,Dv.tup.injEq,M3] at e;obtain⟨_,e1,e2,_⟩:=e;subst e1;simp only[tI,Dv.tup.injEq] at e2;have:ps.length=qs.length:=by have:=congrArg U2 e2;rw[BB,BB] at this;exact this
   have:=ha l r hm;show ps.length=ar l;omega
theorem fJ{F:List Nd}(h:Ek I fs ds F)(ha:∀l (r:Int),Dv.tup [.str l,.int r]∈ds->(ar l:Int)=r):∃E:List Ne,eD E=nD F/\E.length=F.length/\dF 0 E/\∀x∈E,Hg ar x:=by
 obtain⟨E,e,w⟩:=Wg F 0 fun i x hx=>by rw[N8];exact h i x hx
 have l:E.length=F.length:=by have:=congrArg U2 e;rw[HU,HG] at this;exact this
 refine⟨E,e,l,w,fun x hx=>?_⟩;obtain⟨i,hi,rfl⟩:=S4 hx;have zv:i < F.length:=by omega
 refine pO (h i F[i] (A3 zv)) ?_ ha;have:(eD E)[i]?=(nD F)[i]?:=by rw[e]
 simpa[eD,nD,A3 hi,A3 zv] using this
theorem lp{E:List Ne}(w:dF 0 E)(a:∀x∈E,Hg ar x):y0 ar E:=fun x hx=>by
 obtain⟨i,hi,rfl⟩:=S4 hx;exact⟨fun p hp=>by have:=(w i _ (A3 hi)).1 p hp;omega,a _ hx⟩
def FA(ar:List Nat->Nat)(E:List Ne):Prop:=Zj E/\∀x∈E,Hg ar x
theorem GI{top:Nat}(hL:Ek I fs ds L)(ht:top < L.length)(hN:L.length<=30)(ha:∀l (r:Int),Dv.tup [.str l,.int r]∈ds->(ar l:Int)=r):∃E,BP (.lst (nD L)) (.int (top:Nat))=some (fD E)/\FA ar E:=by
 obtain⟨F,e,ok,f0,fl⟩:=MA hL ht (A4 hN (by decide));obtain⟨E,e1,l1,w,a⟩:=fJ ok ha;refine⟨E,?_,⟨w,by omega,by omega⟩,a⟩;rw[e];unfold fD;rw[e1,l1]
end
def Ze(n:Nat)(xs:List Dv):Prop:=∀x∈xs,∃p:Nat×Nat,x=pr p/\p.1 < n/\p.2 < n
theorem WB{n:Nat}:∀{xs:List Dv},Ze n xs->∃ps:List (Nat×Nat),xs=ps.map pr/\∀p∈ps,p.1 < n/\p.2 < n
 | [],_=>⟨[],rfl,fun _ z=>by cases z⟩
 | x::xs,h=>by
  obtain⟨p,rfl,hp⟩:=h x B2;obtain⟨ps,rfl,hps⟩:=WB (xs:=xs) fun y hy=>h y (A7 _ hy)
  refine⟨p::ps,rfl,fun q hq=>?_⟩;rcases B9.mp hq with rfl | hq
  ·exact hp
  ·exact hps q hq
theorem Ze.snoc(h:Ze n xs){a b:Nat}(ha:a < n)(hb:b < n):Ze n (xs++[pr (a,b)]):=fun x hx=>by
 rcases C0.mp hx with hx | hx
 ·exact h x hx
 ·rw[D2] at hx;subst hx;exact⟨_,rfl,ha,hb⟩
theorem Ze.cmp{n:Nat}:∀{xs:List Dv},Ze n xs->Ah xs=true/\BD xs<=1
 | [],_=>⟨rfl,by decide⟩
 | x::xs,h=>by
  obtain⟨p,rfl,_⟩:=h x B2;have ih:=Ze.cmp (xs:=xs) fun y hy=>h y (A7 _ hy)
  exact⟨by show(true && Ah xs)=true;rw[ih.1];rfl,by show max 1 (BD xs)<=1;omega⟩
theorem WG(h:Ze n xs)(p:Nat×Nat):∃b,DN (pr p) (.lst xs)=some b:=by
 obtain⟨h1,h2⟩:=h.cmp;have c:((pr p).cmp && Ah xs && decide (BD xs<=150))=true:=by rw[h1,show(pr p).cmp=true from rfl,G6,S3];exact decide_eq_true (by omega)
 have v:lV (.lst xs)=some xs:=rfl;refine⟨!zM (pr p) xs,?_⟩;unfold pr at c ⊢;simp only[Hb,v,c,if_true]
theorem JP(g:Dv->Option (Option Dv))(R:Dv->Prop):∀(xs:List Dv),(∀x∈xs,∃o,g x=some o/\∀d,o=some d->R d)->∃ds,JQ g xs=some ds/\ds.length<=xs.length/\∀d∈ds,R d
 | [],_=>⟨[],rfl,B7 _,fun _ z=>by cases z⟩
 | x::xs,h=>by
  obtain⟨o,e1,r1⟩:=h x B2;obtain⟨ds,e2,l2,r2⟩:=JP g R xs fun y hy=>h y (A7 _ hy)
  cases o with
  | none=>exact⟨ds,by simp only[JQ,e1,e2,A0],by simp;omega,r2⟩
  | some d =>
   refine⟨d::ds,by simp only[JQ,e1,e2,A0],by simpa using l2,fun y hy=>?_⟩;rcases B9.mp hy with rfl | hy
   ·exact r1 _ rfl
   ·exact r2 y hy
theorem Ul(hn:n<=100):∃xs,Ce (.int (n:Nat))=some (.lst xs)/\Ze n xs/\xs.length<=10000:=by
 have rg:=Lr n (by omega);obtain⟨c,e,xs,rfl,h,l⟩:=Bq (P:=fun i c=>∃xs,c=.lst xs/\Ze n xs/\xs.length<=100 * i) (Dm (.int (n:Nat))) n (.lst []) ⟨[],rfl,(fun _ z=>by cases z),by simp⟩ fun a ha c ⟨xs,ec,h,l⟩=>by
  subst ec;obtain⟨ys,e1,l1,h1⟩:=JP (Dj (.int (a:Nat))) (fun d=>∃p:Nat×Nat,d=pr p/\p.1 < n/\p.2 < n) ((B1 n).map fun k=>.int (k:Nat)) fun x hx=>by
   obtain⟨b,hb,rfl⟩:=M6.mp hx;have hb:b < n:=by simpa using hb
   unfold Dj;simp only[Mj,A0]
   by_cases c:((b:Nat):Int)=(a:Nat)
   ·exact⟨none,by simp[c],fun d z=>by cases z⟩
   ·exact⟨some (pr (a,b)),by simp[c,pr],fun d z=>by cases z;exact⟨_,rfl,ha,hb⟩⟩
  have l1':ys.length<=n:=by simpa using l1
  refine⟨.lst (xs++ys),?_,_,rfl,fun x hx=>?_,by rw[C5];omega⟩
  ·unfold Dm;simp only[Cv,rg,A0];rw[BC (by simp;omega),e1];simp only[A0,ef (show xs.length+ys.length<=1000000 by omega)]
  ·rcases C0.mp hx with hx | hx
   ·exact h x hx
   ·exact h1 x hx
 refine⟨xs,?_,h,by omega⟩;unfold Ce;simp only[rg,A0];rw[e];rfl
theorem eY{ar:List Nat->Nat}:∀{xs:List Dv},(∀x∈xs,∃p,x=pD p/\FA ar p.1/\FA ar p.2)->∃gs:List (List Ne×List Ne),xs=gs.map pD/\∀p∈gs,FA ar p.1/\FA ar p.2
 | [],_=>⟨[],rfl,fun _ z=>by cases z⟩
 | x::xs,h=>by
  obtain⟨p,rfl,hp⟩:=h x B2;obtain⟨ps,rfl,hps⟩:=eY (xs:=xs) fun y hy=>h y (A7 _ hy)
  refine⟨p::ps,rfl,fun q hq=>?_⟩;rcases B9.mp hq with rfl | hq
  ·exact hp
  ·exact hps q hq
theorem UN(hf:Fd f):∃(sh d:Dv) (gs:List (List Ne×List Ne)) (q:List Ne×List Ne) (f':Dv) (ar:List Nat->Nat),Iy f (.int 10)=some (.tup [sh,d,.tup (gs.map pD),pD q],f')/\gs.length<=6/\(∀l,ar l<=2)/\(∀E∈BL (gs++[q]),Zj E/\∀x∈E,Hg ar x)/\Fd f':=by
  refine pI fun zP zQ=>?_
  obtain⟨fs,ds,f1,e1,lf,tf,ld,td,dp,zw⟩:=PM hf;obtain⟨ar,yP,ha⟩:=pN td dp;obtain⟨r2,f2,e2,b2,hf2⟩:=AO zw (n:=4) (by decide) (by decide);have i0:AA (.tup [.tup fs,.tup ds]) (.int 0)=some (.tup fs):=rfl;have l0:AN (.tup fs)=some (.int (fs.length:Nat)):=rfl;obtain⟨I,hI,m2,hI0⟩:∃I:Nat,I<=4/\(∃b2 d3,De (.int (fs.length:Nat)) (.int 0)=some b2/\Hn (.bl b2)=some d3/\Dc (.int (r2:Nat)) d3=some (.int (I:Nat)))/\(fs.length=0->1<=I):=by
    by_cases h:fs.length=0
    · refine⟨max r2 1,by omega,⟨true,.int 1,by rw[BS,h];rfl,rfl,?_⟩,fun _=>by omega⟩;simp only[Dc];split<;>(congr 2;omega)
    · refine⟨r2,by omega,⟨false,.int 0,by rw[BS,decide_eq_false (by omega)],rfl,?_⟩,fun z=>(h z).elim⟩;simp only[Dc];rw[if_neg (by omega)]
  obtain⟨b2',d3,q1,q2,q3⟩:=m2;obtain⟨r7,f7,e7,b7,hf7⟩:=AO hf2 (n:=10) (by decide) (by decide);have a7:AS (.int 2) (.int (r7:Nat))=some (.int ((2+r7:Nat))):=rfl;obtain⟨L,f9,e9,hL,L0,Ll,hf9⟩:=Pp tf td (by omega) hf7 (I:=I) (by omega) (I0:=I) (by omega) (fun h=>by have:=hI0 h;omega) (fun _=>rfl) (many:=2+r7) (by omega) (by omega);obtain⟨E,eE,lE,wE,aE⟩:=fJ hL ha;obtain⟨r10,f10,e10,b10,zBl⟩:=EG hf9 (n:=7) (by decide) (by decide);have e10:AK f9 (.int 7)=some (.int (r10:Nat),f10):=e10;have rg:=Lr r10 (A4 (R6 b10) (by decide));have L30:L.length<=30:=by omega
  have L6:L.length<=1000000:=A4 L30 (by decide);have tk:∀{g:Dv},Fd g->∃(r:Nat) (g':Dv),AK g (.int (L.length:Nat))=some (.int (r:Nat),g')/\r < L.length/\Fd g':=fun hg=>EG hg L0 L6
  obtain⟨⟨f19,l19⟩,e19,xs,hx,hP,hlen,zDT⟩:=Bq (P:=fun i c=>∃xs,c.2=.lst xs/\Ze L.length xs/\xs.length<=i/\Fd c.1) (Iv (.lst (nD L))) r10 (f10,.lst []) ⟨[],rfl,(fun _ z=>by cases z),by simp,zBl⟩ fun i hi c ⟨xs,ec,hP,hlen,hfc⟩=>by
    obtain⟨g,l⟩:=c;simp only at ec hfc;subst ec;obtain⟨a,g1,q1,ha1,hg1⟩:=tk hfc;obtain⟨b,g2,q2,hb1,hg2⟩:=tk hg1;refine⟨(g2,.lst (xs++[pr (a,b)])),?_,_,rfl,hP.snoc ha1 hb1,by simp;omega,hg2⟩;unfold Iv;simp only[Cv,XA,A0,q1,q2,Cs (A4 hlen (A4 (R6 hi) (A4 (R6 b10) (by decide))))];rfl
  simp only at hx zDT;subst hx;obtain⟨u,f21,e21,hu,zEM⟩:=tk zDT;obtain⟨v,f23,e23,hv,zDS⟩:=tk zEM;obtain⟨ps,rfl,hps⟩:=WB hP;obtain⟨ls,e24,l24⟩:=Nq (lp wE aE) (lE.symm▸A4 L30 (by decide)) yP (ps:=ps) fun p hp=>by rw[lE];exact hps p hp
  rw[eE] at e24;obtain⟨ys,e26,hys,lys⟩:=Ul (n:=L.length) (A4 L30 (by decide));have zDw:items (.lst ys)=some ys:=rfl;obtain⟨zs,e35,l35,h35⟩:=JP (Iu (.lst (ps.map pr)) (.lst (nI ls))) (fun d=>∃p:Nat×Nat,d=pr p/\p.1 < L.length/\p.2 < L.length) ys fun x hx=>by
    obtain⟨p,rfl,p1,p2⟩:=hys x hx;obtain⟨b,eb⟩:=WG hP p;unfold pr at eb;unfold Iu pr;rw[IU];unfold NG;simp only[IE (l24.symm▸lE.symm▸p1:p.1 < ls.length),IE (l24.symm▸lE.symm▸p2:p.2 < ls.length),A0,BS];split
    · have eb':DN (.tup [.int (p.1:Nat),.int (p.2:Nat)]) (.lst (ps.map fun p=>.tup [.int (p.1:Nat),.int (p.2:Nat)]))=some b:=eb;simp only[eb',A0];cases b with
      | true=>exact⟨_,rfl,fun d z=>by cases z;exact⟨p,rfl,p1,p2⟩⟩
      | false=>exact⟨_,rfl,fun d z=>by cases z⟩
    · exact⟨_,rfl,fun d z=>by cases z⟩
  have z6:zs.length<=1000000:=A4 l35 (A4 lys (by decide));have t45:∃f45 u' v',Ip (.int (u:Nat)) (.int (v:Nat)) f23 zs=some (f45,.int (u':Nat),.int (v':Nat))/\u' < L.length/\v' < L.length/\Fd f45:=by
    have lz:AN (.lst zs)=some (.int (zs.length:Nat)):=rfl;unfold Ip NF;simp only[lz,A0,Oi]
    by_cases z0:0 < zs.length
    · obtain⟨r,g1,q1,b1,hg1⟩:=AO zDS (n:=2) (by decide) (by decide);simp only[z0,decide_true,if_true,q1,A0,BS];split
      · obtain⟨r2,g2,q2,b2,hg2⟩:=EG hg1 z0 z6;have ex:AA (.lst zs) (.int (r2:Nat))=some zs[r2]:=Be zs r2 b2;have hx:=G2 b2;generalize zs[r2]=x at ex hx;obtain⟨p,rfl,p1,p2⟩:=h35 x hx;refine⟨g2,p.1,p.2,?_,p1,p2,hg2⟩;simp only[q2,ex,A0];rfl
      · exact⟨g1,u,v,rfl,hu,hv,hg1⟩
    · simp only[z0,decide_false,B0,if_false,A0];exact⟨f23,u,v,rfl,hu,hv,zDS⟩
  obtain⟨f45,u',v',e45,hu',hv',zEL⟩:=t45;have zDx:items (.lst (ps.map pr))=some (ps.map pr):=rfl;obtain⟨ws,e51,l51,h51⟩:=JO (Ir (.lst (nD L))) (fun d=>∃p,d=pD p/\FA ar p.1/\FA ar p.2) (ps.map pr) fun x hx=>by
    obtain⟨p,rfl,p1,p2⟩:=hP x hx;obtain⟨E1,q1,k1⟩:=GI hL p1 L30 ha;obtain⟨E2,q2,k2⟩:=GI hL p2 L30 ha;refine⟨pD (E1,E2),?_,_,rfl,k1,k2⟩;unfold Ir pr;rw[IU];simp only[q1,q2,A0];rfl
  obtain⟨gs,rfl,hgs⟩:=eY h51;obtain⟨E1,q53,k1⟩:=GI hL hu' L30 ha;obtain⟨E2,q54,k2⟩:=GI hL hv' L30 ha;refine zQ ?_;refine⟨.tup [.tup fs,.tup ds],.int (I:Nat),gs,(E1,E2),f45,ar,?_,?_,yP,fun E hE=>?_,zEL⟩
  · unfold Iy;simp only[e1,e2,i0,l0,q1,q2,q3,A0,e7,a7,e9,e10,rg];rw[e19];simp only[A0,XA,e21,e23,e24,e26,zDw];rw[BC (A4 lys (by decide)),e35];simp only[A0,e45,zDx];rw[BC (A4 hlen (A4 (R6 b10) (by decide))),e51];simp only[A0,Av,q53,q54];rfl
  · rw[D5] at l51 hlen;rw[D5] at l51;omega
  · obtain⟨p,hp,hE⟩:=List.mem_flatMap.mp hE;have z9:FA ar p.1/\FA ar p.2:=by
      rcases C0.mp hp with hp | hp
      · exact hgs p hp
      · rw[D2] at hp;subst hp;exact⟨k1,k2⟩
    simp only[B9,J4,or_false] at hE;rcases hE with rfl | rfl
    · exact z9.1
    · exact z9.2
def CJ(xs:List Dv):Prop:=∀x∈xs,∃r:Rw,x=r.dv
theorem PR:∀{xs:List Dv},CJ xs->∃rs:List Rw,xs=rs.map Rw.dv
 | [],_=>⟨[],rfl⟩
 | x::xs,h=>by
  obtain⟨r,rfl⟩:=h x B2;obtain⟨rs,rfl⟩:=PR (xs:=xs) fun y hy=>h y (A7 _ hy)
  exact⟨r::rs,rfl⟩
theorem CJ.app{ys:List Dv}(h:CJ xs)(k:CJ ys):CJ (xs++ys):=fun x hx=>(C0.mp hx).elim (h x) (k x)
theorem CJ.cut(h:CJ xs)(lo hi:Option Int):CJ (BG xs lo hi):=fun x hx=>h x (GS hx)
theorem CJ.one(r:Rw):CJ [r.dv]:=fun x hx=>by rw[D2] at hx;exact⟨r,hx⟩
theorem CJ.set(h:CJ xs)(hd:∃r:Rw,d=r.dv):CJ (xs.set i d):=fun x hx=>by
 rcases m5 hx with hx | rfl
 ·exact h x hx
 ·exact hd
theorem Vm(hf:Fd f)(hn:n<=1000):∃(r:Rw) (f':Dv),Kl f (.int (n:Nat))=some (r.dv,f')/\Fd f':=by
 obtain⟨r0,f0,e0,b0,hf0⟩:=AO hf (n:=2) (by decide) (by decide);have sb:∀i:Int,Hd (.int i) (.int 1)=some (.int (i - 1)):=fun _=>rfl
 unfold Kl;simp only[e0,A0,BS,Ei,sb];split
 ·obtain⟨r1,f1,e1,b1,zw⟩:=AO hf0 (n:=9) (by decide) (by decide);exact⟨.giv ((r1:Int) - 1),f1,by simp only[e1,A0];rfl,zw⟩
 ·obtain⟨r1,f1,e1,b1,zw⟩:=AO hf0 (n:=(n:Int)+3) (by omega) (by omega);obtain⟨r2,f2,e2,b2,hf2⟩:=AO zw (n:=(n:Int)+3) (by omega) (by omega);exact⟨.zt ((r1:Int) - 1) ((r2:Int) - 1),f2,by simp only[e1,e2,A0];rfl,hf2⟩
theorem dE{ys:List Dv}(h:xs.length+ys.length<=1000000):AS (.lst xs) (.lst ys)=some (.lst (xs++ys)):=by simp only[AS,if_pos h]
theorem Pk(hf:Fd f)(hx:CJ xs){m:Nat}(hn:n<=1000)(hl:xs.length<=m)(hm:m<=10000):∃ys f',CD f (.lst xs) (.int (n:Nat))=some (.lst ys,f')/\CJ ys/\ys.length<=2 * m+2/\Fd f':=by
  refine pI fun zP zQ=>?_
  have ll:Jt (.lst xs)=some (.lst xs):=rfl;have ln:AN (.lst xs)=some (.int (xs.length:Nat)):=rfl;have sl:∀lo hi,FT (.lst xs) lo hi=some (.lst (BG xs lo hi)):=fun _ _=>rfl
  have cm:∀lo hi,(BG xs lo hi).length<=m:=fun lo hi=>A4 (IK xs lo hi) hl
  have m6:m+m<=1000000:=A4 (S8 hm hm) (by decide);have m7:m+1+m<=1000000:=A4 (S8 (J7 hm 1) hm) (by decide);have m1:m+1<=1000000:=A4 (J7 hm 1) (by decide);have k6:m+m<=2 * m+2:=by rw[w9];exact U5 _ _
  have k7:m+1+m<=2 * m+2:=by rw[w9,Nat.add_right_comm];exact uW (by decide) _
  have b2:∀lo hi lo' zv,(BG xs lo hi).length+(BG xs lo' zv).length<=m+m:=fun lo hi lo' zv=>S8 (cm lo hi) (cm lo' zv)
  obtain⟨r1,f1,e1,b1,zw⟩:=AO hf (n:=5) (by decide) (by decide);obtain⟨r4,f4,e4,b4,hf4⟩:=EG zw (n:=xs.length+1) (Nat.succ_pos _) (A4 (J7 hl 1) m1);have e4:AK f1 (.int ((xs.length:Int)+1))=some (.int (r4:Nat),f4):=e4;have ad:AS (.int (xs.length:Nat)) (.int 1)=some (.int ((xs.length:Int)+1)):=rfl;obtain⟨w,f5,e5,hf5⟩:=Vm hf4 hn;have ar:∀lo hi lo' zv,AS (.lst (BG xs lo hi)) (.lst (BG xs lo' zv))=some (.lst (BG xs lo hi++BG xs lo' zv)):=fun lo hi lo' zv=>dE (A4 (b2 lo hi lo' zv) m6)
  have ar1:∀lo hi,AS (.lst (BG xs lo hi)) (.lst [w.dv])=some (.lst (BG xs lo hi++[w.dv])):=fun lo hi=>dE (A4 (J7 (cm lo hi) 1) m1)
  have b3:∀lo hi lo' zv,(BG xs lo hi++[w.dv]).length+(BG xs lo' zv).length<=m+1+m:=fun lo hi lo' zv=>by rw[C5];exact S8 (J7 (cm lo hi) 1) (cm lo' zv)
  have ar2:∀lo hi lo' zv,AS (.lst (BG xs lo hi++[w.dv])) (.lst (BG xs lo' zv))=some (.lst (BG xs lo hi++[w.dv]++BG xs lo' zv)):=fun lo hi lo' zv=>dE (A4 (b3 lo hi lo' zv) m7)
  refine zQ ?_;unfold CD;simp only[ll,ln,A0,e1,ad,e4,BS,Ei,lN,sl,ar,ar1,ar2,e5];split
  · exact⟨_,_,rfl,(hx.cut _ _).app (hx.cut _ _),by rw[C5];exact A4 (b2 _ _ _ _) k6,hf4⟩
  · split
    · exact⟨_,_,rfl,(hx.cut _ _).app (hx.cut _ _),by rw[C5];exact A4 (b2 _ _ _ _) k6,hf4⟩
    · have t:DF (.lst xs) (.int (r1:Nat)) (.int (r4:Nat))=some (decide ((r1:Int)=2) && decide ((r4:Int) < xs.length)):=by
        unfold DF;simp only[BS,A0,ln,Dx]
        by_cases c:(r1:Int)=2<;>simp[c]
      rw[t];simp only[A0];split
      · rename_i c;rw[A2] at c;have h4:=of_decide_eq_true c.2;have ng:Cw (.int 1)=some (.int (-1)):=rfl;have g4:AA (.lst xs) (.int (r4:Nat))=some xs[r4]:=Be xs r4 (by omega);have ix:Hq xs.length (-1)=some (xs.length - 1):=by
          unfold Hq;rw[if_neg (by omega),if_pos (by omega)];congr 1;omega
        have ix4:Hq xs.length (r4:Int)=some r4:=by
          unfold Hq;rw[if_pos (by omega),if_pos h4];simp
        have g1:AA (.lst xs) (.int (-1))=some (xs[xs.length - 1]'(by omega)):=by
          show(Hq xs.length (-1)).bind (fun j=>xs[j]?)=_;rw[ix];exact A3 _
        have s1:AU (.lst xs) (.int (r4:Nat)) (xs[xs.length - 1]'(by omega))=some (.lst (xs.set r4 (xs[xs.length - 1]'(by omega)))):=by simp only[AU,ix4,A0]
        have s2:∀d e:Dv,AU (.lst (xs.set r4 e)) (.int (-1)) d=some (.lst ((xs.set r4 e).set (xs.length - 1) d)):=fun d e=>by simp only[AU,D1,ix,A0]
        have po:∀x y:Dv,RV (.tup [x,y])=some (x,y):=fun _ _=>rfl
        refine⟨(xs.set r4 (xs[xs.length - 1]'(by omega))).set (xs.length - 1) xs[r4],f4,?_,(hx.set (hx _ (G2 _))).set (hx _ (G2 _)),by rw[D1,D1];exact A4 hl (A4 (U5 m m) k6),hf4⟩;simp only[ng,g1,g4,A0,po,s1,s2]
      · split
        · exact⟨_,_,rfl,((hx.cut _ _).app (CJ.one w)).app (hx.cut _ _),by rw[C5];exact A4 (b3 _ _ _ _) k7,hf5⟩
        · exact⟨_,_,rfl,((hx.cut _ _).app (CJ.one w)).app (hx.cut _ _),by rw[C5];exact A4 (b3 _ _ _ _) k7,hf5⟩
theorem cv(i j:Nat):Ml (.int (i:Nat)) (.int (j:Nat))=some (decide (i < j)):=by
 show some (decide ((i:Int) < (j:Nat)))=_;congr 1;exact decide_eq_decide.mpr (by omega)
theorem Xz{g:Nat}(h:∀k∈ks,k < g)(i:Nat):∀k∈ks.eraseIdx i,k < g:=fun k hk=>h k (List.mem_of_mem_eraseIdx hk)
theorem LG{α β:Type}(f:α->β):∀(xs:List α) (i:Nat),(xs.map f).eraseIdx i=(xs.eraseIdx i).map f
 | [],_=>rfl
 | _::_,0=>rfl
 | x::xs,i+1=>by simp only[B6,sk,LG f xs i]
theorem iI(h:i < ks.length)(hl:ks.length<=1000):He (.lst (nI ks)) [.int (i:Nat)]=some (.int (ks.getD i 0:Nat),.lst (nI (ks.eraseIdx i))):=by
 have s:R.small (i:Int)=true:=by unfold R.small;simp only[A2,decide_eq_true_eq];omega
 have q:sj (i:Int) (nI ks).length=some i:=by
  unfold sj;rw[BB];have a:¬((i:Int) < 0):=by omega
  have b:((i:Int) < (ks.length:Nat)):=by omega
  simp only[if_neg a];simp[b]
 have g:(nI ks)[i]?=some (.int (ks.getD i 0:Nat)):=by simp[nI,sx,h]
 have e:(nI ks).eraseIdx i=nI (ks.eraseIdx i):=LG _ ks i;simp only[He,s,if_true,q,A0,g,F7,e]
theorem eS(ps:List (Nat×Nat)):AN (.lst (ps.map pr))=some (.int (ps.length:Nat)):=by
 show some (Dv.int ((ps.map pr).length:Nat))=_;rw[D5]
theorem jK(ks:List Nat):AN (.lst (nI ks))=some (.int (ks.length:Nat)):=VH ks
structure PI (G:List Ne) (g m:Nat) (ls left:List Nat) (yB:List (Nat×Nat)) (xs:List Dv):Prop where
 len:ls.length=G.length
 b:∀x∈ls,x < G.length
 hk:∀k∈left,k < g
 lk:left.length<=7
 ok:Zg G.length ls yB
 dl:yB.length<=300000
 hx:CJ xs
 hm:left.length+FS (fun x=>decide (x∈ls)) G.length=m
 xm:xs.length+m<=600
section
variable {ar:List Nat->Nat} {G:List Ne} {ts:List Nat} {g:Nat} (hG:y0 ar G) (hn:G.length<=500) (yP:∀l,ar l<=2) (ht:ts.length=2 * (g+1)) (hT:∀t∈ts,t < G.length)
include hG hn yP ht hT
theorem iX(hf:Fd f){m:Nat}{left:List Nat}{yB:List (Nat×Nat)}(p:PI G g m ls left yB xs)(h0:0 < left.length+yB.length):∃f' ls' zAz zAB xs' m',DU (.lst (eD G)) (.lst (nI ts)) (f,.lst (nI ls),.lst (nI left),.lst xs,.lst (yB.map pr))=some (f',.lst (nI ls'),.lst (nI zAz),.lst xs',.lst (zAB.map pr))/\Fd f'/\m' < m/\PI G g m' ls' zAz zAB xs':=by
  obtain⟨len,b,hk,lk,ok,dl,hx,rfl,xm⟩:=p;have xl:xs.length<=600:=A4 (U5 _ _) xm;have dn:∀{m':Nat} {ys:List Dv},ys.length=xs.length+1->m' < left.length+FS (fun x=>decide (x∈ls)) G.length->ys.length+m'<=600:=fun h k=>by rw[h,V0,wk 1];exact A4 (uW k _) xm
  have ad:AS (.int (left.length:Nat)) (.int (yB.length:Nat))=some (.int ((left.length+yB.length:Nat))):=rfl;obtain⟨at_,f1,e1,b1,zw⟩:=EG hf h0 (A4 (S8 lk dl) (by decide));unfold DU;simp only[jK,eS,A0,ad,e1];unfold Kh;simp only[jK,A0,cv];have x6:xs.length<=1000000:=A4 xl (by decide)
  by_cases hat:at_ < left.length
  · have k1:=hk _ (getD_mem hat);have mu:CH (.int 2) (.int (left.getD at_ 0:Nat))=some (.int ((2 * left.getD at_ 0:Nat))):=rfl;have ad2:AS (.int ((2 * left.getD at_ 0:Nat))) (.int 1)=some (.int ((2 * left.getD at_ 0+1:Nat))):=rfl;have i2:2 * left.getD at_ 0+1 < ts.length:=by omega
    have i1:=Nat.lt_of_succ_lt i2;have n1:=IE (ns:=ts) i1;have n2:=IE (ns:=ts) i2;have h1:=hT _ (getD_mem i1);have h2:=hT _ (getD_mem i2);have mf:=ML len h1 h2 b;obtain⟨zAB,e4,ok4,dl4⟩:=Dr hG mf.1 hn yP;have el:(left.eraseIdx at_).length=left.length - 1:=by rw[uK,if_pos hat]
    have fl:(left.eraseIdx at_).length+FS (fun x=>decide (x∈JL ls (ts.getD (2 * left.getD at_ 0) 0) (ts.getD (2 * left.getD at_ 0+1) 0))) G.length < left.length+FS (fun x=>decide (x∈ls)) G.length:=el▸Nat.add_lt_add_of_lt_of_le (wV (T5 (G5 _) hat) (by decide)) mf.2.2.1;refine⟨f1,JL ls (ts.getD (2 * left.getD at_ 0) 0) (ts.getD (2 * left.getD at_ 0+1) 0),left.eraseIdx at_,zAB,xs++[(Rw.giv (left.getD at_ 0:Nat)).dv],_,?_,zw,fl,mf.1,mf.2.1,Xz hk at_,A4 (el▸Nat.sub_le _ _) lk,ok4,dl4,hx.app (CJ.one _),rfl,dn (by simp) fl⟩;simp only[hat,decide_true,if_true,Cv,iI hat (A4 lk (by decide)),A0,Cs x6,mu,ad2,n1,n2,DW len hn h1 h2,e4];rfl
  · obtain⟨j,hj,ej⟩:∃j,j < yB.length/\at_=left.length+j:=⟨at_ - left.length,by omega,by omega⟩;have sb:Hd (.int (at_:Nat)) (.int (left.length:Nat))=some (.int (j:Nat)):=by
      show some (Dv.int ((at_:Int) - (left.length:Nat)))=_;congr 2;omega
    have dj:AA (.lst (yB.map pr)) (.int (j:Nat))=some (pr yB[j]):=by
      show FQ (yB.map pr) (j:Int)=_;rw[Be _ _ (by simpa using hj)];simp
    obtain⟨h1,h2,h3⟩:=ok yB[j] (G2 hj);generalize yB[j]=p at *;obtain⟨r,f2,e2,b2,hf2⟩:=AO zw (n:=2) (by decide) (by decide);obtain⟨x,hxm,ex⟩:=ZZ (xs:=[Dv.int (p.1:Nat),.int (p.2:Nat)]) (i:=r) (by omega) (by simpa using b2);obtain⟨xi,rfl⟩:∃i:Nat,x=.int (i:Nat):=by
      simp only[B9,J4,or_false] at hxm;rcases hxm with rfl | rfl<;>exact⟨_,rfl⟩
    have mf:=ML len h1 h2 b;obtain⟨zAB,e4,ok4,dl4⟩:=Dr hG mf.1 hn yP;have si:∃ys,Ep (.int (p.1:Nat)) (.int (p.2:Nat)) (.lst (xs++[(Rw.zt xi p.2).dv]))=some (.lst ys)/\CJ ys/\ys.length=xs.length+1:=by
      have ng:Cw (.int 1)=some (.int (-1)):=rfl;have ix:Hq (xs++[(Rw.zt xi p.2).dv]).length (-1)=some xs.length:=by
        unfold Hq;rw[if_neg (by omega),if_pos (by simp;omega)];congr 1;simp;omega
      have g1:AA (.lst (xs++[(Rw.zt xi p.2).dv])) (.int (-1))=some (Rw.zt xi p.2).dv:=by
        show(Hq (xs++[(Rw.zt xi p.2).dv]).length (-1)).bind (fun j=>(xs++[(Rw.zt xi p.2).dv])[j]?)=_;rw[ix];simp
      have g2:AA (Rw.zt xi p.2).dv (.int 1)=some (.int (xi:Nat)):=rfl;have s2:∀d:Dv,AU (.lst (xs++[(Rw.zt xi p.2).dv])) (.int (-1)) d=some (.lst ((xs++[(Rw.zt xi p.2).dv]).set xs.length d)):=fun d=>by simp only[AU,ix,A0]
      unfold Ep;simp only[ng,g1,g2,A0,BS,s2];split
      · exact⟨_,rfl,(hx.app (CJ.one _)).set ⟨.zt p.2 p.1,rfl⟩,by simp⟩
      · exact⟨_,rfl,hx.app (CJ.one _),by simp⟩
    obtain⟨ys,ey,hys,ly⟩:=si;have fl:=Nat.add_lt_add_left (mf.2.2.2 h3) left.length;refine⟨f2,JL ls p.1 p.2,left,zAB,ys,_,?_,hf2,fl,mf.1,mf.2.1,hk,lk,ok4,dl4,hys,rfl,dn ly fl⟩;have dj':AA (.lst (yB.map pr)) (.int (j:Nat))=some (.tup [.int (p.1:Nat),.int (p.2:Nat)]):=dj;have ey':Ep (.int (p.1:Nat)) (.int (p.2:Nat)) (.lst (xs++[.tup [.str [108,105,107,101],.int (xi:Nat),.int (p.2:Nat)]]))=some (.lst ys):=ey;simp only[hat,decide_false,B0,if_false,sb,dj',A0];rw[IU];simp only[Cv,e2,ex,A0,Cs x6,ey',DW len hn h1 h2,e4]
end
theorem Pi{ar:List Nat->Nat}(yP:∀l,ar l<=2)(hg:gs.length<=6)(hE:∀E∈BL (gs++[q]),Zj E/\∀x∈E,Hg ar x)(hf:Fd f):∃(n:Nat) (xs:List Dv) (f':Dv),(∃c9 c10 zI,DB (.tup (gs.map pD)) (pD q)=some c9/\EM c9=some c10/\AA c10 (.int 0)=some zI/\AN zI=some (.int (n:Nat)))/\n<=500/\Fy f (.tup (gs.map pD)) (pD q)=some (.lst xs,f')/\CJ xs/\xs.length<=600/\Fd f':=by
 refine pI fun zP zQ=>?_
 have e2:=JY (q:=q) (show gs.length<=20 by omega);have e3:=(HL (a:=.lst ((BL (gs++[q])).map fD)) rfl (fun E h=>(hE E h).1) (by rw[Da];simp;omega)).2;obtain⟨g1,g2⟩:=Lf (BL (gs++[q])) ([],[]) hE (fun _ z=>by cases z) (fun _ z=>by cases z);have l:=IZ (BL (gs++[q])) ([],[]) fun E h=>(hE E h).1
 rw[Da,C5,G0] at l;simp only[M5,N8] at l;have hG:y0 ar (Wc (BL (gs++[q]))):=g1;have hT:∀t∈Zu (BL (gs++[q])),t < (Wc (BL (gs++[q]))).length:=g2;have hn:(Wc (BL (gs++[q]))).length<=500:=by have:=l.1;show(xD Ga ([],[]) (BL (gs++[q]))).1.length<=500;omega
 have ht:(Zu (BL (gs++[q]))).length=2 * (gs.length+1):=l.2;generalize Wc (BL (gs++[q]))=G at *;generalize Zu (BL (gs++[q]))=ts at *;have lg:AN (.tup (gs.map pD))=some (.int (gs.length:Nat)):=by
  show some (Dv.int ((gs.map pD).length:Nat))=_;rw[D5]
 have cN:=SF (fun x=>decide (x∈B1 G.length)) G.length;have g7:(B1 gs.length).length<=7:=by rw[U0];exact A4 hg (by decide)
 have c6:(B1 gs.length).length+FS (fun x=>decide (x∈B1 G.length)) G.length<=600:=A4 (S8 g7 (A4 cN hn)) (by decide);obtain⟨c,e,f',d1,d2,xs,d3,rfl,hx,xl,hf'⟩:=EF DT (DU (.lst (eD G)) (.lst (nI ts))) (fun m c=>∃f ls left yB xs,c=(f,Dv.lst (nI ls),Dv.lst (nI left),Dv.lst xs,Dv.lst (yB.map pr))/\Fd f/\PI G gs.length m ls left yB xs) (fun c=>∃f' d1 d2 xs d3,c=(f',d1,d2,Dv.lst xs,d3)/\CJ xs/\xs.length<=600/\Fd f') (fun m c ⟨f,ls,left,yB,xs,ec,hf,p⟩=>by
  subst ec;have t:DT (f,.lst (nI ls),.lst (nI left),.lst xs,.lst (yB.map pr))=some (decide (0 < left.length+yB.length)):=by
   unfold DT;have ad:AS (.int (left.length:Nat)) (.int (yB.length:Nat))=some (.int ((left.length+yB.length:Nat))):=rfl;simp only[jK,eS,A0,ad,Oi]
  by_cases h0:0 < left.length+yB.length
  ·obtain⟨f',ls',zAz,zAB,xs',m',e,hf',zEQ,p'⟩:=iX hG hn yP ht hT hf p h0;exact .inr ⟨by rw[t,decide_eq_true h0],_,m',e,zEQ,f',ls',zAz,zAB,xs',rfl,hf',p'⟩
  ·exact .inl ⟨by rw[t,decide_eq_false h0],f,_,_,xs,_,rfl,p.hx,A4 (U5 _ _) p.xm,hf⟩) 1000000 _ (f,.lst (nI (B1 G.length)),.lst (nI (B1 gs.length)),.lst [],.lst ([].map pr)) (T5 c6 (by decide)) ⟨f,B1 G.length,B1 gs.length,[],[],rfl,hf,U0,(fun x hx=>O2.mp hx),(fun x hx=>O2.mp hx),g7,(fun _ z=>by cases z),G5 _,(fun _ z=>by cases z),rfl,by rw[M5,N8];exact c6⟩
 refine zQ ?_;refine⟨G.length,xs,f',⟨_,_,_,e2,e3,rfl,QE G⟩,hn,?_,hx,xl,hf'⟩;unfold Fy;rw[e2];simp only[A0,e3];rw[IU];simp only[QE,lg,A0,JC (A4 hn (by decide)),JC (A4 hg (by decide))];have e':Up DT (DU (.lst (eD G)) (.lst (nI ts))) 1000000 (f,.lst (nI (B1 G.length)),.lst (nI (B1 gs.length)),.lst [],.lst [])=_:=e;rw[e'];rfl
def sU(xs:List Dv):Prop:=∀x∈xs,∃rs:List Rw,x=.tup (rs.map Rw.dv)
theorem fw(ns:List Int)(k:Nat):Lm (.yO ns) (.int (k:Nat)) ()=some (.go ()):=by
 obtain⟨f,e1,hf⟩:=Tv (ns:=ns) (k:=k);obtain⟨sh,d,gs,q,f2,ar,e2,hg,yP,hE,hf2⟩:=UN hf;obtain⟨n,xs,f3,⟨c9,c10,zI,q1,q2,q3,q4⟩,hn,e3,hx,xl,hf3⟩:=Pi yP hg hE hf2;obtain⟨rs0,rfl⟩:=PR hx;have rg:DH [.int 3]=some ((B1 3).map fun k=>.int (k:Nat)):=Lr 3 (by decide);obtain⟨⟨f4,l4,p4⟩,e4,ps,ys,hp4,hP,pl,_⟩:=Bq (P:=fun i c=>∃ps ys,c.2.2=Dv.lst ps/\sU ps/\ps.length=2+i/\c.2.1=Dv.lst ys/\CJ ys/\ys.length<=[600,1300,2700,9000].getD i 0/\Fd c.1) (PQ (.int (n:Nat))) 3 (f3,.lst (rs0.map Rw.dv),.lst [.tup (rs0.map Rw.dv),.tup []]) ⟨_,_,rfl,(fun x hx=>by
  simp only[B9,J4,or_false] at hx;rcases hx with rfl | rfl
  ·exact⟨rs0,rfl⟩
  ·exact⟨[],rfl⟩),rfl,rfl,hx,xl,hf3⟩ fun i hi c ⟨ps,ys,hc,hP,pl,hc2,hy,yl,hfc⟩=>by
  obtain⟨f,l,p⟩:=c;simp only at hc hc2 hfc;subst hc hc2;have hi3:i=0\/i=1\/i=2:=by omega
  have hm:[600,1300,2700,9000].getD i 0<=10000/\2 * [600,1300,2700,9000].getD i 0+2<=[600,1300,2700,9000].getD (i+1) 0:=by rcases hi3 with rfl | rfl | rfl<;>decide
  obtain⟨zs,f5,e5,hz,zl,hf5⟩:=Pk hfc hy (n:=n) (by omega) yl hm.1;obtain⟨rs,rfl⟩:=PR hz;refine⟨(f5,.lst (rs.map Rw.dv),.lst (ps++[.tup (rs.map Rw.dv)])),?_,_,_,rfl,fun x hx=>?_,by simp;omega,rfl,hz,by omega,hf5⟩
  ·unfold PQ;simp only[e5,A0,Cv,Av,Cs (show ps.length<=1000000 by omega)]
  ·rcases C0.mp hx with hx | hx
   ·exact hP x hx
   ·rw[D2] at hx;exact⟨rs,hx⟩
 simp only at hp4;subst hp4;have it:∀xs:List Dv,items (.lst xs)=some xs:=fun _=>rfl
 have sl:FT (.lst ps) none (some 1)=some (.lst (BG ps none (some 1))):=rfl;have cl:=IK ps none (some 1);have ad:=dE (xs:=ps) (ys:=BG ps none (some 1)) (by omega);have go:Ed (PP (.tup (gs.map pD)) (pD q)) (ps++BG ps none (some 1)) ()=some (.go ()):=MJ _ _ _ fun x hx=>by
  have hx':x∈ps:=(C0.mp hx).elim id GS;obtain⟨rs,rfl⟩:=hP x hx';obtain⟨b,h1,h2⟩:=QL yP (show gs.length<=7 by omega) hE rs
  have is:ZY (.bl b) (.ty "bool")=some (.bl true):=rfl
  have nb:Jw (.bl b) (.bl b)=some false:=by cases b<;>rfl
  unfold PP VV;simp only[h1,h2,A0,is,Zt,K3,B0,if_false,qR,cond_true,nb]
 have u4:∀{β:Type} (k:Dv×Dv×Dv×Dv->Option β),((Ou [3,4,5,6] (.tup [sh,d,.tup (gs.map pD),pD q])).bind fun(t:Dv×Dv×Dv×Dv)=>k t)=k (sh,d,.tup (gs.map pD),pD q):=fun _=>rfl
 have tp:Av (.lst (rs0.map Rw.dv))=some (.tup (rs0.map Rw.dv)):=rfl;unfold Lm;simp only[e1,e2,A0];rw[u4];simp only[q1,q2,q3,q4,e3,A0,tp,rg];rw[e4];simp only[A0,sl,ad,it,go,Rs.el]
theorem XB(ns:List Int)(h:ns.length<=63):one aM [Dv.yO ns]=some (Dv.bl true):=by
 show aM (.yO ns)=_;have ll:AN (.yO ns)=some (.int (ns.length:Nat)):=rfl;obtain⟨L,hL,mn⟩:∃L:Nat,L<=6/\LX (.int 6) (.int (ns.length:Nat))=some (.int (L:Nat)):=by
  simp only[LX];split
  ·exact⟨ns.length,by omega,rfl⟩
  ·exact⟨6,by omega,rfl⟩
 obtain⟨M,hM,hM4,mx⟩:∃M:Nat,M<=6/\4<=M/\Dc (.int 4) (.int (L:Nat))=some (.int (M:Nat)):=by
  simp only[Dc];split
  ·exact⟨L,hL,by omega,rfl⟩
  ·exact⟨4,by omega,by omega,rfl⟩
 have sm:(R.small 1 && R.small (M:Nat))=true:=by
  unfold R.small;simp only[A2,decide_eq_true_eq];omega
 have rg:Sn [.int 1,.int (M:Nat)]=some ((B1 ((M:Int) - 1).toNat).map fun k=>.int (1+(k:Nat))):=by
  simp only[Sn,sm,cond_true]
 unfold aM;simp only[ll,mn,mx,rg,A0];rw[MJ (Lm (.yO ns)) () _ fun x hx=>?_]
 ·rfl
 ·obtain⟨k,_,rfl⟩:=M6.mp hx;have:=fw ns (1+k);rw[show((1+k:Nat):Int)=1+(k:Int) by omega] at this;exact this
theorem Od:EB "__init__" "Nodes.__init__" (FO 2 0):=ZO (by kernel_rfl) (by intros;kernel_rfl)
theorem Hu:EB "number_of" "Nodes.number_of" (FO 2 1):=GW (by kernel_rfl) (by intros;kernel_rfl)
theorem Mg:BJ "renumbered" (top 3):=GW (by kernel_rfl) (by intros;kernel_rfl)
theorem lI:BJ "laid" (top 5):=ZO (by kernel_rfl) (by intros;kernel_rfl)
theorem Og:EB "__init__" "Joins.__init__" (FO 7 0):=GW (by kernel_rfl) (by intros;kernel_rfl)
theorem KF:EB "root_of" "Joins.root_of" (FO 7 1):=GW (by kernel_rfl) (by intros;kernel_rfl)
theorem HZ:EB "are_joined" "Joins.are_joined" (FO 7 2):=Qk (by kernel_rfl) (by intros;kernel_rfl)
theorem GV:EB "make_joined" "Joins.make_joined" (FO 7 3):=Qk (by kernel_rfl) (by intros;kernel_rfl)
theorem Oe:BJ "laid_pairs" (top 8):=GW (by kernel_rfl) (by intros;kernel_rfl)
theorem Ui:BJ "are_like" (top 11):=lK (by kernel_rfl) (by intros;kernel_rfl)
theorem Ue:BJ "row_pair" (top 10):=lK (by kernel_rfl) (by intros;kernel_rfl)
theorem Mh:BJ "paper_holds" (top 9):=Qk (by kernel_rfl) (by intros;kernel_rfl)
theorem cp:BJ "_law_feed" (top 13):=GW (by kernel_rfl) (by intros;kernel_rfl)
theorem ck:BJ "_law_take" (top 14):=GW (by kernel_rfl) (by intros;kernel_rfl)
theorem ZK:BJ "_law_names" (top 15):=GW (by kernel_rfl) (by intros;kernel_rfl)
theorem ZH:BJ "_law_shape" (top 16):=ZO (by kernel_rfl) (by intros;kernel_rfl)
theorem Qj:BJ "_law_ordered" (top 17):=GW (by kernel_rfl) (by intros;kernel_rfl)
theorem ZJ:BJ "_law_nodes" (top 18):=lK (by kernel_rfl) (by intros;kernel_rfl)
theorem cn:BJ "_law_laid" (top 19):=ZO (by kernel_rfl) (by intros;kernel_rfl)
theorem Ug:BJ "_law_merged" (top 20):=Qk (by kernel_rfl) (by intros;kernel_rfl)
theorem ZL:BJ "_law_likes" (top 21):=GW (by kernel_rfl) (by intros;kernel_rfl)
theorem Uh:BJ "_law_labels" (top 22):=GW (by kernel_rfl) (by intros;kernel_rfl)
theorem Of:BJ "_law_all_pairs" (top 24):=ZO (by kernel_rfl) (by intros;kernel_rfl)
theorem cq:BJ "_law_case" (top 23):=GW (by kernel_rfl) (by intros;kernel_rfl)
theorem ZN:BJ "_law_forms" (top 25):=GW (by kernel_rfl) (by intros;kernel_rfl)
theorem ZM:BJ "_law_holds" (top 26):=Qk (by kernel_rfl) (by intros;kernel_rfl)
theorem ZI:BJ "_law_paper" (top 27):=Qk (by kernel_rfl) (by intros;kernel_rfl)
theorem lJ:BJ "_law_row" (top 28):=GW (by kernel_rfl) (by intros;kernel_rfl)
theorem Mi:BJ "_law_otherwise" (top 29):=Qk (by kernel_rfl) (by intros;kernel_rfl)
theorem all_mk{l:W.OpenLaw}{w:J0}{K:W.Frag}{h:G7}{mg:Str->Option Value}{fa:B5}(X:K.In h)(G:h.Ns K9 mg)(hfa:mg "law" = some (.ref fa))(hz:md.bl.all (Pm K)=true)
    (zAW:GM K "Nodes" "Nodes.__init__" "__init__" (FO 2 0))
    (zN:GM K "Nodes" "Nodes.number_of" "number_of" (FO 2 1))
    (yr:GF K "renumbered" (top 3))
    (zBg:GF K "laid" (top 5))
    (zAe:GM K "Joins" "Joins.__init__" "__init__" (FO 7 0))
    (z8:GM K "Joins" "Joins.root_of" "root_of" (FO 7 1))
    (zF:GM K "Joins" "Joins.are_joined" "are_joined" (FO 7 2))
    (yv:GM K "Joins" "Joins.make_joined" "make_joined" (FO 7 3))
    (zJ:GF K "laid_pairs" (top 8))
    (zAF:GF K "are_like" (top 11))
    (zAC:GF K "row_pair" (top 10))
    (yt:GF K "paper_holds" (top 9))
    (zBD:GF K "_law_feed" (top 13))
    (zBB:GF K "_law_take" (top 14))
    (zAa:GF K "_law_names" (top 15))
    (zAX:GF K "_law_shape" (top 16))
    (zg:GF K "_law_ordered" (top 17))
    (zAZ:GF K "_law_nodes" (top 18))
    (zBC:GF K "_law_laid" (top 19))
    (zAD:GF K "_law_merged" (top 20))
    (zAb:GF K "_law_likes" (top 21))
    (zAE:GF K "_law_labels" (top 22))
    (zK:GF K "_law_all_pairs" (top 24))
    (zBE:GF K "_law_case" (top 23))
    (zAd:GF K "_law_forms" (top 25))
    (zAc:GF K "_law_holds" (top 26))
    (zAY:GF K "_law_paper" (top 27))
    (zBh:GF K "_law_row" (top 28))
    (yu:GF K "_law_otherwise" (top 29))
    (zCQ:GF K "law" (top 30))
    (xu:GC K "Joins" md.fl)
    (zT:GC K "Nodes" md.fl)
    : ∃fd:Q8,(∀(s:A9) (v:Value),vD s fd ⟨[v],[]⟩ [("_law_script", v)])/\∀base:G7,K.In base->base.Ns K9 mg->xr l.prog w K mg base Qt 36 fa fd ["_law_script"] (RI K):=by
  have e:=hfa.symm.trans (W.mg_of X G zCQ.1);cases e;have b:Bs md K mg:=pJ X G rfl hz
  refine⟨W.fnOf "law" "law" (Ao (top 30)) (Ab (top 30)) (AL (top 30)) .none .none .none (ax K (Dd K "law")) none (UM K (Dd K "law")) .none,fun s v=>.of_eq rfl,fun base _ _=>?_⟩
  have f0:Fs l.prog w K mg base md.fl 0 pf:=Fs.nil;have f1:=f0.zBO (nb:=true) b OP OD zAW zT (W.mg_of X G zT.1) Od;have f2:=f1.zBO (nb:=false) b Ht Hs zN zT (W.mg_of X G zT.1) Hu;have f3:=f2.def (nb:=true) b MW MQ yr (W.mg_of X G yr.1) Mg;have f4:=f3.def (nb:=false) b kW kQ zBg (W.mg_of X G zBg.1) lI;have f5:=f4.zBO (nb:=true) b OS OG zAe xu (W.mg_of X G xu.1) Og;have f6:=f5.zBO (nb:=false) b KC KB z8 xu (W.mg_of X G xu.1) KF;have f7:=f6.zBO (nb:=true) b HX HR zF xu (W.mg_of X G xu.1) HZ;have f8:=f7.zBO (nb:=true) b GU GQ yv xu (W.mg_of X G xu.1) GV;have f9:=f8.def (nb:=false) b OQ OE zJ (W.mg_of X G zJ.1) Oe;have f10:=f9.def (nb:=true) b UK UC zAF (W.mg_of X G zAF.1) Ui;have f11:=f10.def (nb:=false) b UH Tz zAC (W.mg_of X G zAC.1) Ue;have f12:=f11.def (nb:=false) b MX MR yt (W.mg_of X G yt.1) Mh;have f13:=f12.def (nb:=false) b cF bw zBD (W.mg_of X G zBD.1) cp;have f14:=f13.def (nb:=false) b cD bt zBB (W.mg_of X G zBB.1) ck;have f15:=f14.def (nb:=false) b YS Xv zAa (W.mg_of X G zAa.1) ZK;have f16:=f15.def (nb:=false) b YO Xs zAX (W.mg_of X G zAX.1) ZH;have f17:=f16.def (nb:=false) b Qa QT zg (W.mg_of X G zg.1) Qj;have f18:=f17.def (nb:=false) b YR Xu zAZ (W.mg_of X G zAZ.1) ZJ;have f19:=f18.def (nb:=false) b cE bu zBC (W.mg_of X G zBC.1) cn;have f20:=f19.def (nb:=false) b UI UA zAD (W.mg_of X G zAD.1) Ug;have f21:=f20.def (nb:=false) b YT Xw zAb (W.mg_of X G zAb.1) ZL;have f22:=f21.def (nb:=false) b UJ UB zAE (W.mg_of X G zAE.1) Uh;have f23:=f22.def (nb:=false) b OR OF zK (W.mg_of X G zK.1) Of;have f24:=f23.def (nb:=false) b cH bx zBE (W.mg_of X G zBE.1) cq;have f25:=f24.def (nb:=false) b YV Xy zAd (W.mg_of X G zAd.1) ZN;have f26:=f25.def (nb:=true) b YU Xx zAc (W.mg_of X G zAc.1) ZM;have f27:=f26.def (nb:=false) b YQ Xt zAY (W.mg_of X G zAY.1) ZI;have f28:=f27.def (nb:=false) b kX kR zBh (W.mg_of X G zBh.1) lJ;have f29:=f28.def (nb:=false) b MY MS yu (W.mg_of X G yu.1) Mi
  have hp:AE (top 30)=(["_law_script"]:List Str):=by kernel_rfl
  have r:=jL (ps:=AE (top 30)) (nb:=true) (by rw[hp];rfl) (QW b f29 oo oh (je zCQ)) XB;rw[hp] at r;exact r
theorem walk{l:W.OpenLaw}{q:F8}{loose:List Str}{XP:(Str->Option Value)->G7->Prop}{YP:J0->G7->Prop}{d:wd}{K:uo->W.Frag}(hn:l.most=some 63)(hdf:d.params.defaults=[])
    (hY:∀(w:J0) (h:G7),YP w h->(K w.params).In h)
    (F:∀(w:J0) (mg:Str->Option Value) (fa:B5) (h:G7),(K w.params).In h->h.Ns K9 mg->mg d.name=some (.ref fa) ->
      ∃fd:Q8,(∀(s:A9) (u:Value),vD s fd ⟨[u],[]⟩ [("_law_script", u)])/\∀base:G7,(K w.params).In base->base.Ns K9 mg->xr l.prog w (K w.params) mg base Qt 36 fa fd ["_law_script"] (RI (K w.params))) :
    W.WalkO q loose XP YP l.row.toRowW d [] (fun f vs=>uq f vs):=
  L2.zBx (n:=63) (k:=36) (x := "_law_script") (CX:=fun _=>Qt) (sp:=fun w=>RI (K w.params)) hn (by decide) hdf ⟨rfl,by decide,by decide,rfl⟩ hY F (fun _ _ a ns hl hO hS=>⟨a,ns,rfl,hS,hl,hO,fun _=>rfl⟩) fun _ _ _ _ _ z=>z
abbrev fO(i:Nat)(x:Str)(pm:Value)(cd:B5):Obj:=⟨.type "function", none,.func (W.fnOf x x (Ao (top i)) (Ab (top i)) (AL (top i)) .none .none .none pm none (.ref cd) .none),#[]⟩
abbrev lY(i j:Nat)(x q:Str)(pm:Value)(cd:B5):Obj:=⟨.type "function", none,.func (W.fnOf x q (Ao (FO i j)) (Ab (FO i j)) (AL (FO i j)) .none .none .none pm none (.ref cd) .none),#[]⟩
abbrev q10:PySem.Value:=.str "law_shapefree_k41_papers_of_joins" 368
abbrev q11:PySem.Value:=.str "shapefree.joins" 270
abbrev q12:PySem.Value:=.str "shapefree.nodes" 194
noncomputable def KP(P:uo):W.Frag:=[
(3,⟨.type "dict", none,.dict #[ke P "__name__" 165 q10,ke P "__doc__" 166 .none,ke P "__package__" 167 .none,ke P "__loader__" 168 (.builtin "__main__.__loader__#opaque"),ke P "__spec__" 169 .none,ke P "__annotations__" 170 (.ref 6),ke P "__builtins__" 171 (.ref 4),ke P "__file__" 173 (.str "/claim/cut.py" 172),ke P "__cached__" 174 .none,ke P "_wall" 193 (.ref 21),ke P "Nodes" 249 (.ref 59),ke P "renumbered" 255 (.ref 68),ke P "laid" 269 (.ref 75),ke P "Joins" 327 (.ref 113),ke P "laid_pairs" 337 (.ref 124),ke P "paper_holds" 351 (.ref 131),ke P "row_pair" 361 (.ref 138),ke P "are_like" 367 (.ref 143),ke P "_law_feed" 379 (.ref 150),ke P "_law_take" 389 (.ref 157),ke P "_law_names" 395 (.ref 162),ke P "_law_shape" 401 (.ref 167),ke P "_law_ordered" 407 (.ref 172),ke P "_law_nodes" 413 (.ref 177),ke P "_law_laid" 419 (.ref 182),ke P "_law_merged" 425 (.ref 187),ke P "_law_likes" 431 (.ref 192),ke P "_law_labels" 443 (.ref 199),ke P "_law_case" 449 (.ref 204),ke P "_law_all_pairs" 455 (.ref 209),ke P "_law_forms" 465 (.ref 216),ke P "_law_holds" 471 (.ref 221),ke P "_law_paper" 490 (.ref 228),ke P "_law_row" 498 (.ref 235),ke P "_law_otherwise" 510 (.ref 242),ke P "law" 529 (.ref 249)] 36,#[]⟩),
(21,fO 0 "_wall" (.str "__main__" 164) 20),
(20,cO "_wall" 187 1 1 3 15 16 .none (.ref 17) (.ref 18) 19 191),
(35,lY 2 0 "__init__" "Nodes.__init__" q12 34),
(34,⟨.type "code", none,.fields #[.str "__init__" 208,.str "Nodes.__init__" 209,.str "/claim/cut.py" 210,.int 7 0,.int 1 0,.int 0 0,.int 0 0,.int 3 0,.ref 29,.bool true,.int 181 0,.ref 30,.none,.ref 31,.ref 32,.ref 33,.int 212 0,.int 7 0,.str "/claim/cut.py" 213],#[]⟩),
(42,lY 2 1 "number_of" "Nodes.number_of" q12 41),
(41,⟨.type "code", none,.fields #[.str "number_of" 215,.str "Nodes.number_of" 216,.str "/claim/cut.py" 217,.int 11 0,.int 2 0,.int 0 0,.int 0 0,.int 3 0,.ref 36,.bool true,.int 181 0,.ref 37,.none,.ref 38,.ref 39,.ref 40,.int 220 0,.int 11 0,.str "/claim/cut.py" 221],#[]⟩),
(68,fO 3 "renumbered" q12 67),
(67,cO "renumbered" 250 22 2 3 64 65 .none .none .none 66 253),
(75,fO 5 "laid" (.str "shapefree.alike" 256) 74),
(74,cO "laid" 258 27 1 3 69 70 .none (.ref 71) (.ref 72) 73 267),
(89,lY 7 0 "__init__" "Joins.__init__" q11 88),
(88,⟨.type "code", none,.fields #[.str "__init__" 284,.str "Joins.__init__" 285,.str "/claim/cut.py" 286,.int 39 0,.int 2 0,.int 0 0,.int 0 0,.int 3 0,.ref 83,.bool true,.int 181 0,.ref 84,.none,.ref 85,.ref 86,.ref 87,.int 289 0,.int 39 0,.str "/claim/cut.py" 290],#[]⟩),
(96,lY 7 1 "root_of" "Joins.root_of" q11 95),
(95,⟨.type "code", none,.fields #[.str "root_of" 292,.str "Joins.root_of" 293,.str "/claim/cut.py" 294,.int 42 0,.int 2 0,.int 0 0,.int 0 0,.int 3 0,.ref 90,.bool true,.int 181 0,.ref 91,.none,.ref 92,.ref 93,.ref 94,.int 297 0,.int 42 0,.str "/claim/cut.py" 298],#[]⟩),
(103,lY 7 2 "are_joined" "Joins.are_joined" q11 102),
(102,⟨.type "code", none,.fields #[.str "are_joined" 300,.str "Joins.are_joined" 301,.str "/claim/cut.py" 302,.int 48 0,.int 3 0,.int 0 0,.int 0 0,.int 3 0,.ref 97,.bool true,.int 181 0,.ref 98,.none,.ref 99,.ref 100,.ref 101,.int 306 0,.int 48 0,.str "/claim/cut.py" 307],#[]⟩),
(110,lY 7 3 "make_joined" "Joins.make_joined" q11 109),
(109,⟨.type "code", none,.fields #[.str "make_joined" 309,.str "Joins.make_joined" 310,.str "/claim/cut.py" 311,.int 51 0,.int 3 0,.int 0 0,.int 0 0,.int 3 0,.ref 104,.bool true,.int 181 0,.ref 105,.none,.ref 106,.ref 107,.ref 108,.int 316 0,.int 51 0,.str "/claim/cut.py" 317],#[]⟩),
(124,fO 8 "laid_pairs" q11 123),
(123,cO "laid_pairs" 328 54 2 3 118 119 .none (.ref 120) (.ref 121) 122 335),
(131,fO 9 "paper_holds" q11 130),
(130,cO "paper_holds" 338 59 3 3 125 126 .none (.ref 127) (.ref 128) 129 349),
(138,fO 10 "row_pair" q11 137),
(137,cO "row_pair" 352 69 4 3 132 133 .none (.ref 134) (.ref 135) 136 359),
(143,fO 11 "are_like" q11 142),
(142,cO "are_like" 362 75 4 3 139 140 .none .none .none 141 365),
(150,fO 13 "_law_feed" q10 149),
(149,cO "_law_feed" 370 84 2 3 144 145 .none (.ref 146) (.ref 147) 148 377),
(157,fO 14 "_law_take" q10 156),
(156,cO "_law_take" 380 94 2 3 151 152 .none (.ref 153) (.ref 154) 155 387),
(162,fO 15 "_law_names" q10 161),
(161,cO "_law_names" 390 102 2 3 158 159 .none .none .none 160 393),
(167,fO 16 "_law_shape" q10 166),
(166,cO "_law_shape" 396 117 1 3 163 164 .none .none .none 165 399),
(172,fO 17 "_law_ordered" q10 171),
(171,cO "_law_ordered" 402 123 2 3 168 169 .none .none .none 170 405),
(177,fO 18 "_law_nodes" q10 176),
(176,cO "_law_nodes" 408 142 4 3 173 174 .none .none .none 175 411),
(182,fO 19 "_law_laid" q10 181),
(181,cO "_law_laid" 414 155 1 3 178 179 .none .none .none 180 417),
(187,fO 20 "_law_merged" q10 186),
(186,cO "_law_merged" 420 168 3 3 183 184 .none .none .none 185 423),
(192,fO 21 "_law_likes" q10 191),
(191,cO "_law_likes" 426 170 2 3 188 189 .none .none .none 190 429),
(199,fO 22 "_law_labels" q10 198),
(198,cO "_law_labels" 432 178 2 3 193 194 .none (.ref 195) (.ref 196) 197 441),
(204,fO 23 "_law_case" q10 203),
(203,cO "_law_case" 444 187 2 3 200 201 .none .none .none 202 447),
(209,fO 24 "_law_all_pairs" q10 208),
(208,cO "_law_all_pairs" 450 201 1 3 205 206 .none .none .none 207 453),
(216,fO 25 "_law_forms" q10 215),
(215,cO "_law_forms" 456 206 2 3 210 211 .none (.ref 212) (.ref 213) 214 463),
(221,fO 26 "_law_holds" q10 220),
(220,cO "_law_holds" 466 211 3 3 217 218 .none .none .none 219 469),
(228,fO 27 "_law_paper" q10 227),
(227,cO "_law_paper" 472 227 3 3 222 223 .none (.ref 224) (.ref 225) 226 488),
(235,fO 28 "_law_row" q10 234),
(234,cO "_law_row" 491 247 2 3 229 230 .none (.ref 231) (.ref 232) 233 496),
(242,fO 29 "_law_otherwise" q10 241),
(241,cO "_law_otherwise" 499 251 3 3 236 237 .none (.ref 238) (.ref 239) 240 508),
(249,fO 30 "law" q10 248),
(248,cO "law" 511 265 1 3 243 244 .none (.ref 245) (.ref 246) 247 527),
(113,⟨.type "type", none,.cls ⟨"Joins", [.type "object"],[.ref 113,.type "object"],112, "Joins", true,[],[],false,none,false⟩,#[none,none,some (.str "Joins" 272),some (.str "Joins" 280),some (.builtin "object.__new__"),some (.bool true)]⟩),
(112,⟨.type "dict", none,.dict #[ke P "__module__" 279 q11,ke P "__firstlineno__" 283 (.int 37 282),ke P "__init__" 291 (.ref 89),ke P "root_of" 299 (.ref 96),ke P "are_joined" 308 (.ref 103),ke P "make_joined" 318 (.ref 110),ke P "__static_attributes__" 320 (.ref 111),ke P "__dict__" 322 (.ref 114),ke P "__weakref__" 324 (.ref 115),ke P "__doc__" 325 .none] 4,#[]⟩),
(59,⟨.type "type", none,.cls ⟨"Nodes", [.type "object"],[.ref 59,.type "object"],58, "Nodes", true,[],[],false,none,false⟩,#[none,none,some (.str "Nodes" 196),some (.str "Nodes" 204),some (.builtin "object.__new__"),some (.bool true)]⟩),
(58,⟨.type "dict", none,.dict #[ke P "__module__" 203 q12,ke P "__firstlineno__" 207 (.int 5 206),ke P "__init__" 214 (.ref 35),ke P "number_of" 222 (.ref 42),ke P "fixed_thing" 230 (.ref 49),ke P "done_thing" 239 (.ref 56),ke P "__static_attributes__" 242 (.ref 57),ke P "__dict__" 244 (.ref 60),ke P "__weakref__" 246 (.ref 61),ke P "__doc__" 247 .none] 4,#[]⟩)]
def zDY:wd:=⟨"law", Ao (top 30),Ab (top 30),AL (top 30),kU (top 30)⟩
theorem zBS:dR PySem.Challenge.rw_shapefree_k41_papers_of_joins 31 [3,21,20,35,34,42,41,68,67,75,74,89,88,96,95,103,102,110,109,124,123,131,130,138,137,143,142,150,149,157,156,162,161,167,166,172,171,177,176,182,181,187,186,192,191,199,198,204,203,209,208,216,215,221,220,228,227,235,234,242,241,249,248,113,112,59,58] KP 2980:=fun w=>by kernel_rfl
theorem zBR:PySem.Challenge.rw_shapefree_k41_papers_of_joins.wellSaid=true:=by decide +kernel
end My
open PySem PySem.W PyProof.Rows
set_option maxRecDepth 100000 in
set_option maxHeartbeats 0 in
theorem PySem.Challenge.cw_shapefree_k41_papers_of_joins_holds : PySem.Challenge.rw_shapefree_k41_papers_of_joins.Holds := by
  refine L2.zCi (d:=My.zDY) My.zBR My.zBS (fun P=>by kernel_rfl) (by kernel_rfl) (by kernel_rfl) (by kernel_rfl) (by kernel_rfl) (by kernel_rfl) (by decide +kernel) ⟨rfl,rfl,rfl,rfl,rfl,by decide +kernel⟩ (by w_witness2) ?call
  refine My.walk (l:=PySem.Challenge.rw_shapefree_k41_papers_of_joins) (d:=My.zDY) (K:=My.KP) rfl (by kernel_rfl) (fun w h Y=>Y) fun w mg fa h KX G hmg=>My.all_mk KX G hmg (by kernel_rfl) (by and_intros<;>kernel_rfl) (by and_intros<;>kernel_rfl) (by and_intros<;>kernel_rfl) (by and_intros<;>kernel_rfl) (by and_intros<;>kernel_rfl) (by and_intros<;>kernel_rfl) (by and_intros<;>kernel_rfl) (by and_intros<;>kernel_rfl) (by and_intros<;>kernel_rfl) (by and_intros<;>kernel_rfl) (by and_intros<;>kernel_rfl) (by and_intros<;>kernel_rfl) (by and_intros<;>kernel_rfl) (by and_intros<;>kernel_rfl) (by and_intros<;>kernel_rfl) (by and_intros<;>kernel_rfl) (by and_intros<;>kernel_rfl) (by and_intros<;>kernel_rfl) (by and_intros<;>kernel_rfl) (by and_intros<;>kernel_rfl) (by and_intros<;>kernel_rfl) (by and_intros<;>kernel_rfl) (by and_intros<;>kernel_rfl) (by and_intros<;>kernel_rfl) (by and_intros<;>kernel_rfl) (by and_intros<;>kernel_rfl) (by and_intros<;>kernel_rfl) (by and_intros<;>kernel_rfl) (by and_intros<;>kernel_rfl) (by and_intros<;>kernel_rfl) (by and_intros<;>kernel_rfl) (by and_intros<;>kernel_rfl)
