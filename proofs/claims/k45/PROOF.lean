import PyProof.Rows.All
import Wide.All
import OpenK.AllK
import Lean
import PySem.Challenge.RW_shapefree_k45_whole_what_follows_goes_on
noncomputable section
set_option genInjectivity false
set_option genSizeOf false
set_option backward.eqns.nonrecursive false
set_option bootstrap.genMatcherCode false
set_option compiler.extract_closed false
set_option Elab.async false
set_option linter.all false
set_option maxRecDepth 100000
set_option maxHeartbeats 4000000
open Option renaming some→_s,none→_n
open Bool renaming true→_t,false→_f
open PySem renaming Value→_v
open Option renaming bind_eq_some_iff→Q6,bind_none→wN,bind_some→A0,isSome_iff_exists→O7,isSome_map→Q5,isSome_none→xm,isSome_some→xl,map_eq_some_iff→G3,map_none→wy,map_some→F0,none_or→Z7,or_eq_some_iff→W3,some_or→Z6
open PySem renaming Addr→B8,Around→J3,BindsTo→yJ,Builtin→U2,CmpOp→zR,Comprehension→X8,DefRec→z7,FuncData→S2,Heap→K4,IsPart→xg,KeyKind→xS,Keyword→vY,Meets→zv,Operator→xF,Params→xj,PassesOwn→u3,PlainAttrs→xi,Program→F9,Result→zy,Scope→O0,Shared→A7,Stmt→N4,Within→yC,World→J5,assign→Y8,assignEach→N3,assignInOrder→vg,atKey→Z3,attributeBase→N8,backTo→P9,backToKw→xG,behindInMarks→xX,bindArgs→zS,bindC→zU,bindL→zT,bindName→zN,bootBuiltins→R7,builtinsNs→zL,cLine→K0,call→xk,call_meetsIn→wb,callerA→xU,cellsFrom→N5,checkBuiltinCall→yp,codeAny→p9,codeAny_builtin→o5,codeAny_mono→wU,compareOp→K6,concat_meets→yK,dictSetDefault→xN,entryOfKey→zK,eqIsQuiet→yd,eqIsQuiet_byValue→yB,eval→N2,evalPart_none→xa,foldedForSure→vz,foldedSetIterable→Q3,getItem→k8,getMethod→xT,getattributeRaised→xu,getitemInPython_of_ne→w8,holding→p8,isInstance→zJ,isSubtype_tuple_tuple→Z9,keywordEach→m5,letOwnedTupleGo→m9,list_append→yM,mainGlobals→M1,meetsH_dict_get_default→wH,mem_of_lookup→G8,model→D9,newFunctionEnv→xI,noFill_tuple_add→wB,post_val_or_str→n9,pushCells→zu,pushCells_keeps→wq,pyNext→wQ,rawInt→i7,seqIndex?→wC,seqIndex_neg→yL,seqIndex_of→yv,seqSlot_of→yr,seq_tuple_add→xY,setItem→zG,sizeLine_eq→T7,sliceBounds→yw,slot_list_getitem→vX,spliced→zw,standAt→yF,starEach→E3,storedH→zH,subscripted→vW,swappedStores→U0,swapsWith→U3,swapsWithSole→k7,sysModules→Q9,tupleKind→v7,tupleKind_room_in1→V0,typeIs_int→wW,typeIs_str→zX,typeLookup→xh,unpackItems→yu,valueAt→xV,wpAny→C8,wpAny_Call_Name_kw→K9,wpAny_Name→zM,wpAny_assign_Name→yD,wpAny_binaryOp_repeat_ref→vR,wpAny_bind→A1,wpAny_callSpecial?_slot→N7,wpAny_call_entry→L8,wpAny_comprehension_free→vm,wpAny_execs_cons→yg,wpAny_execs_nil→m8,wpAny_field→M3,wpAny_forIn_list→g8,wpAny_getItem_heap→xn,wpAny_getItem_list_slice→vi,wpAny_getItem_str_slice→U5,wpAny_holding→J0,wpAny_isInstance→X0,wpAny_ite_false→V5,wpAny_letTemporaryGo→xM,wpAny_mono→R0,wpAny_newObj_type→J4,wpAny_newTuple→vM,wpAny_notOrdered_dict→w9,wpAny_operating→zB,wpAny_passesOwn→T3,wpAny_pure→A6,wpAny_pyIter_enum→yU,wpAny_pyIter_list→vZ,wpAny_pyIter_tuple→U9,wpAny_pyIter_zip→wI,wpAny_pyNext_list_end→wz,wpAny_pyNext_list_item→wR,wpAny_rule→W6,wpAny_seqItems→S1,wpAny_sequenceKey→vV,wpAny_setField_rec→V2,wpAny_setItem_heap→xq,wpAny_specialOf→T1,wpAny_standAt→k4,wpAny_truthy_bool→T6,wpAny_tupleItemsOf→u6,wpAny_typeOf→U7
open List renaming all_cons→K3,all_eq_true→G4,any_cons→O9,any_eq_true→yo,append_assoc→G9,append_nil→G7,contains_cons→vP,contains_iff_mem→D1,drop_eq_getElem_cons→S7,drop_length→ym,drop_zero→zZ,eq_nil_of_length_eq_zero→F7,eraseIdxIfInBounds_toArray→Z8,eraseIdx_cons_succ→wF,ext_getElem?→yP,filter→ve,filterMap_cons→R4,filterMap_map→vE,filter_append→V3,find?_cons→R3,find?_some→O5,flatMap_cons→vc,flatten_cons→T9,foldl→wY,foldl_cons→T4,forIn_cons→wo,getD→u5,getD_eq_getElem?_getD→D7,getElem?_append_left→E6,getElem?_append_right→J7,getElem?_cons_succ→wM,getElem?_eq_getElem→A2,getElem?_eq_none→K5,getElem?_eq_some_iff→A4,getElem?_map→D0,getElem?_of_mem→m6,getElem?_range→O3,getElem?_range'→xK,getElem?_replicate→wA,getElem?_reverse→xA,getElem?_set→yR,getElem?_set_ne→E4,getElem?_set_self→F8,getElem?_take_of_lt→vh,getElem?_toArray→M0,getElem_cons_drop→wk,getElem_inj→v8,getElem_mem→K7,getElem_of_mem→R5,getElem_range→xy,getElem_set→yt,idxOf→zAM,idxOf_append→vf,idxOf_cons→zF,idxOf_lt_length_iff→U1,isEmpty_iff→j6,isEmpty_nil→j7,isEmpty_toArray→xJ,length→W8,length_append→B5,length_cons→D4,length_drop→i9,length_eraseIdx→xR,length_filterMap_le→X7,length_filter_le→xE,length_map→C3,length_nil→O4,length_range→W5,length_range'→S5,length_replicate→V9,length_reverse→p7,length_set→D8,length_singleton→D6,length_take→N6,length_zip→V4,length_zipIdx→xt,lookup→Y3,lookup_append→S4,lookup_cons→G6,map_append→M4,map_congr_left→I9,map_cons→B7,map_eq_nil_iff→xW,map_id'→yY,map_map→V1,map_nil→N0,map_replicate→yA,mem_append→C0,mem_append_left→C7,mem_append_right→B9,mem_cons→D3,mem_cons_of_mem→A9,mem_cons_self→B1,mem_filter→T2,mem_filterMap→vB,mem_map→J8,mem_of_find?_eq_some→S9,mem_of_getElem?→K1,mem_of_mem_take→m7,mem_range→P8,mem_singleton→C4,mem_singleton_self→Y6,nil_append→n8,nodup_append→vb,nodup_cons→X9,nodup_iff_pairwise_ne→vO,not_mem_nil→X2,of_mem_zip→wm,pairwise_iff_getElem→M8,range→B2,range'→y8,range'_eq_nil_iff→wc,range_succ→T5,range_succ_eq_map→Z5,replicate→B6,replicate_succ→O2,reverse_cons→Z2,singleton_append→a9,size_toArray→B0,take_append_drop→e8,zip_append→zC,zip_cons_cons→J6
open Bool renaming and_eq_true→A3,and_eq_true_iff→Q0,and_false→vH,and_self→M5,and_true→zr,beq_eq_decide_eq→xB,false_eq_true→B4,false_ne_true→D2,false_or→zq,not_eq_true'→O1,not_false→W7,not_true→V6,or_eq_false_iff→xQ,or_eq_true→o4,or_true→yW,true_and→vp,true_or→wa
open PySem.Heap renaming ExtBut→yz,SameBut→N9,get?_push_ne→yT,get?_push_of_some→A5,get?_push_size→C9,get?_update_ne→o9,get?_update_other→U8,get?_update_self→W0,lt_size→D5,size_push→M9,size_update→yq
open Nat renaming add_assoc→j9,add_comm→z5,add_le_add_right→W9,add_right_comm→vK,le_max_right→yn,le_of_eq→yG,le_of_lt→R8,le_refl→B3,le_succ→U6,le_succ_of_le→yX,le_total→X1,le_trans→A8,lt_irrefl→V7,lt_of_le_of_lt→vJ,lt_of_lt_of_le→C6,lt_or_ge→N1,lt_succ_of_lt→va,lt_succ_self→i8,lt_trans→z8,lt_trichotomy→yZ,max_eq_left→Y0,max_eq_right→X3,min_eq_left→R1,min_eq_right→U4,min_le_right→yi,min_self→yS,mul_comm→yN,ne_of_gt→wO,ne_of_lt→E5,one_mul→zAJ,one_ne_zero→wu,sub_eq_zero_of_le→a8,sub_self→r9,succ_le_succ→j5,zero_add→E8,zero_le→H8
open Option.some renaming inj→C5,injEq→Q7
open False renaming elim→E7
open PySem.Value renaming bool→g9,builtin→zh,bytes→zAC,float→zAD,int→ye,isInt→zAB,isStrOf→zo,none→g7,ref→E9,str→yf,type→L9
open PyProof.Rows renaming AllBare→vU,IntsAre→k9,Subscript_→zV,args_tuple_getitem→vF,assignInOrder_cons→vA,assignInOrder_nil→yE,boot_range→zO,callWith_builtin1→yh,callWith_type1→G5,entry_tuple_getitem→o8,envOfC→xH,envOfC→zAK,get?_update_seq→wt,listItems_at→we,seqObj→Y2,slicePart_none→vD,slot_tuple_getitem→G0,sortedAll→wJ,subscriptTail→l7,subscriptTail_builtinR→wV,tail_any→zW,tupleItemsOf_→xZ,up1→j8,wpAny_notIn_heap→yk
open Array renaming forIn_toList→u7,getElem?_eq_getElem→X4,getElem?_toList→a6,length_toList→H9,mem_toList_iff→l9,size_append→yV,size_setIfInBounds→vn,toList→zx
open PySem.Builtin.Slice renaming sliceAdjust→M7,sliceApplied→S3,sliceFields→vQ,slicePartIndex→y9,slicePlaces→J9
open PySem.Builtin.Tuple renaming tupleExact→K2,tupleHashOf→M6,tupleIsExact→vI,tupleItemsOf→S0
open PySem.Builtin.SmallTypes renaming iterAll→vN,newClass→zI,nextOf→S8,ownedTupleHandOut→X5,ownedTupleIsFree→K8
open PySem.Obj renaming data_mapDictKeys→xO,data_mapFields→xr,mapSeq→L5
open List.cons renaming injEq→L7
open PySem.AutoSeq1 renaming wpAny_loadPart'→O6
open PySem.Builtin.List renaming listExtendWith→R9,listFitsIndex→zY,listSameRef→vo,listTooLong→O8
open PySem.Builtin.Str renaming occurrences→Q4,strSliceIndices→W4
open PySem.F renaming args_dict_get_3→Y5,args_tuple_add_2→X6,entry_dict_get→Z4,entry_tuple_add→Y4,plainAttrs_dict→Y7,plainAttrs_list→Q8,plainAttrs_str→wj,slot_dict_get→W2,slot_dict_getitem→vS,slot_dict_setdefault→o6,slot_list_append→vq,slot_list_pop→xC,slot_tuple_add→Z0,type_dict_setdefault→o7,type_list_append→vw,type_list_pop→xD
open PySem.Heap.SameBut renaming refl→yQ,update→R6
open Int renaming ediv_one→zz,emod_lt_of_pos→xw,emod_nonneg→wx,le_antisymm→zE,max_eq_right→wD,min_eq_left→zA,natCast_nonneg→Y1,ofNat_le→z4,toNat_natCast→T8
open Sum.inl renaming inj→vT,injEq→V8
open PySem.Calls renaming Constant_str→xf,Name_function_global→u9,callWith_builtin→wX,spliced_cons→vC,spliced_nil→Y9
open PySem.Str renaming join→ze,ofString→Z1
open Sum.inr renaming injEq→l8
open PySem.Around renaming under→q8,under_plainId→xP
open Iff renaming rfl→q9
open PySem.Heap.IsSliceOf renaming new→vG
open PySem.Builtin.Range renaming rangeSize→v9
open PySem.Txt renaming join→zAI,slice→wG,slice_le→wZ
open PySem.Builtin.Dict renaming keyAndDefault→zg,pairItems→z9,selfAndRest→zt,updateFrom→wK
open And renaming intro→wL
open PySem.SeqAt.EqAt renaming int_str→xb,str_int→xc
open PySem.Code renaming frames→zAF,guards→zAG,isFrame→yI,isGuard→yH
open List.Pairwise renaming nil→yO
open PySem.IsL renaming update→yj
open PySem.PassesOwn renaming never→zD
open Nat.succ renaming inj→zAA
open PySem.IsRange renaming new→zAE
open PySem.Data renaming seq→zAH
open PySem.W.WShape renaming has→zAL
open PySem.Within renaming cons→zAN
open PySem.W.WData renaming int→zAO
open PySem.Heap.DictOf renaming new→zAP
local macro_rules|`(`o)=>`((by omega))|`(`d)=>`((by decide))|`(`k)=>`((by kernel_rfl))|`(`w)=>`((by simp;omega))|`(`s)=>`((by simp))|`(`z)=>`((λ_ z=>by cases z))
namespace L2
open PySem
variable{a:B8}{h:K4}{Q:Bool->A7->Prop}
section
variable{prog:F9}{w:J5}{K:Type}[DecidableEq K]
noncomputable abbrev NK(K:Type):=List (K ⊕ List K)
structure Apart (knd:xS prog w K):Prop where
 l:∀{A:J3}{E:_v->A7->Prop}{s:A7}{k:K}{v:_v}{a:B8}{items:Array _v}{Q:Bool->A7->Prop},A.units < K0->knd.is k v=_t->s.heap.IsTuple a items->Q _f s->C8 (D9 prog w) A (eqBool v (.ref a)) Q E s
 r:∀{A:J3}{E:_v->A7->Prop}{s:A7}{k:K}{v:_v}{a:B8}{items:Array _v}{Q:Bool->A7->Prop},A.units < K0->knd.is k v=_t->s.heap.IsTuple a items->Q _f s->C8 (D9 prog w) A (eqBool (.ref a) v) Q E s
inductive ItN (knd:xS prog w K) (h:K4):NK K->List _v->Prop
 |nil:ItN knd h [] []
 |sc {k:K} {v:_v} {ks:NK K} {vs:List _v}:knd.is k v=_t->ItN knd h ks vs->ItN knd h (.inl k::ks) (v::vs)
 |tp {t:List K} {a:B8} {ks:NK K} {vs:List _v}:IsTupleKey knd h t a->ItN knd h ks vs->ItN knd h (.inr t::ks) (.ref a::vs)
def Rt(knd:xS prog w K)(h:K4)(ks:NK K)(a:B8):Prop:=∃o items n,h.get? a=_s o/\o.cls=.type "tuple" /\ o.data=.seq items n/\ItN knd h ks items.toList
variable{knd:xS prog w K}
theorem Tr{k:K}(h:knd.is k (.ref a)=_t):False:=by have:=knd.byValue _ _ h;simp[carriedByValue]at this
theorem ItN.inj{x y:NK K}{vs:List _v}(a:ItN knd h x vs)(b:ItN knd h y vs):x=y:=by
 induction a generalizing y with
 |nil=>cases b;rfl
 |sc h1 _ d=>
  cases b with|sc h2 c=>rw[knd.inj _ _ _ h1 h2,d c]|tp h2 _=>exact(Tr h1).elim
 |tp h1 _ d=>
  cases b with|sc h2 _=>exact(Tr h2).elim|tp h2 c=>rw[h1.inj h2,d c]
theorem Rt.typeIs{s:A7}{ks:NK K}(x:Rt knd s.heap ks a):s.TypeIs (.ref a) "tuple" := let ⟨o,_,_,ho,hc,_⟩:=x;⟨o,ho,hc⟩
theorem Rt.inj{x y:NK K}(g:Rt knd h x a)(f:Rt knd h y a):x=y:=by
 obtain⟨o,items,n,i,_,hd,hi⟩:=g;obtain⟨o',e,j,c,_,b,d⟩:=f;obtain rfl:o=o':=C5 (i.symm.trans c);rw[hd]at b;injection b with h1 _
 subst h1;exact hi.inj d
theorem ItN.keeps{h h':K4}{d:B8}{o:Obj}{es ep}(b:h.get? d=_s o)(hd:o.data=.dict es ep)(hs:N9 d h h'):∀{ks:NK K}{vs:List _v},ItN knd h ks vs->ItN knd h' ks vs
 |_,_,.nil=>.nil
 |_,_,.sc h1 t=>.sc h1 (t.keeps b hd hs)
 |_,_,.tp h1 t=>.tp (h1.keeps b hd hs) (t.keeps b hd hs)
theorem Rt.keeps{h':K4}{ks:NK K}{d:B8}{o:Obj}{es ep}(x:Rt knd h ks a)(f:h.get? d=_s o)(hd:o.data=.dict es ep)(hs:N9 d h h'):Rt knd h' ks a:=by
 obtain⟨o',items,n,c,g,b,hi⟩:=x;have e:a≠d:=by rintro rfl;obtain rfl:o'=o:=C5 (c.symm.trans f);rw[hd]at b;exact nomatch b
 exact⟨o',items,n,(hs.2 a e).trans c,g,b,hi.keeps f hd hs⟩
noncomputable def Dg(knd:xS prog w K):K ⊕ List K->Int
 |.inl k=>knd.hash k
 |.inr t=>tupleKeyHash knd t
noncomputable def FJ:K ⊕ List K->Nat
 |.inl _=>1
 |.inr t=>t.length+1
def ZJ(ks:NK K):Nat:=(ks.map FJ).sum+1
def YS(knd:xS prog w K)(ks:NK K):Int:=reduceHash (M6 (ks.map (Dg knd)))
variable{A:J3}{E:_v->A7->Prop}{s:A7}
theorem Wu{ks:NK K}{Q:Int->A7->Prop}(j:A.units+1 < K0)(i:Rt knd s.heap ks a)(h:Q (YS knd ks) {s with toks:=s.toks+ZJ ks}) :
    C8 (D9 prog w) A (pyHash (.ref a)) Q E s:=by
  have hT:=i.typeIs;obtain⟨o,items,n,l,_,hd,hi⟩:=i;unfold pyHash
  first|unfold pyHashByItsType|skip
  first|refine A1 (wpAny_cRoomFor_or (.inr `o) ?_)|skip
  refine A1 (T1 hT F.slot_tuple_hash.lookup ?_);show C8 _ _ (if(_s (zh "tuple.__hash__")==_s g7)=_t then _ else _) Q E s;rw[if_neg (by rw[beq_builtin_none];exact D2)];refine A1 (T1 hT F.slot_tuple_hash.lookup ?_);show C8 _ _ (callSpecialIfBoundUnlessNone? (.ref a) "__hash__" _ >>= _) Q E s;refine A1 (wpAny_callSpecialIfBoundUnlessNone?_slot hT F.slot_tuple_hash (L8 F.slot_tuple_hash hT F.entry_tuple_hash ?_ (F.args_tuple_hash_1 _)));show C8 _ _ (S0 (.ref a) >>= _) _ _ s;refine A1 (u6 l hd ?_);refine A1 ?_;rw[<- u7];refine g8 _
    (λf (b:Array Int) s'=>∃done left,ks=done++left/\ItN knd s.heap left f/\b.toList=done.map (Dg knd)/\s'={s with toks:=s.toks+(done.map FJ).sum})
    _ ?_ ?_ _ _ ⟨[],ks,rfl,hi,rfl,rfl⟩
  rintro x f b s' ⟨done,left,rfl,hl,hb,rfl⟩;cases hl with
  |@sc k _ c _ h1 d=>
    refine A1 (knd.pyHash h1 ?_);have e:{s with toks:=s.toks+(done.map FJ).sum+1}={s with toks:=s.toks+((done++[Sum.inl k]).map FJ).sum}:=by simp[FJ,j9]
    first
      |exact A6 ⟨done++[.inl k],c,by simp,d,by simp[hb,Dg],e⟩
      |exact A1 (A6 (A6 ⟨done++[.inl k],c,by simp,d,by simp[hb,Dg],e⟩))
  |@tp t m c _ h1 d=>
    have e:{s with toks:=s.toks+(done.map FJ).sum+(t.length+1)}={s with toks:=s.toks+((done++[Sum.inr t]).map FJ).sum}:=by simp[FJ,j9]
    refine A1 (wpAny_pyHash_tuple (knd:=knd) j h1 ?_)
    first
      |exact A6 ⟨done++[.inr t],c,by simp,d,by simp[hb,Dg],e⟩
      |exact A1 (A6 (A6 ⟨done++[.inr t],c,by simp,d,by simp[hb,Dg],e⟩))
  rintro b s' ⟨done,left,rfl,hl,hb,rfl⟩;cases hl;rw[G7]at h;show C8 _ _ (retInt (M6 b.toList)) _ _ _;rw[hb];refine wpAny_ret_mkInt ?_;show C8 _ _ (if(decide (-(2:Int) ^ 63<=M6 (done.map (Dg knd)))&&decide (M6 (done.map (Dg knd)) < 2 ^ 63))=_t then _ else _) Q E _;unfold YS reduceHash ZJ at h;by_cases g:(decide (-(2:Int) ^ 63<=M6 (done.map (Dg knd)))&&decide (M6 (done.map (Dg knd)) < 2 ^ 63))=_t;rw[if_pos g];rw[if_pos g]at h;exact A6 (by simpa[j9]using h);rw[if_neg g];rw[if_neg g]at h;exact A1 (W6 (A6 (by simpa[j9]using h)))
theorem IsTupleKey.isT{t:List K}(x:IsTupleKey knd h t a):∃items,h.IsTuple a items:=let ⟨o,items,n,ho,hc,hd,_⟩:=x;⟨items,o,ho,hc,n,hd⟩
theorem dS{f k2:K ⊕ List K}{u v:_v}{xs ys:List _v}{x y:NK K}(i:Apart knd)(d:A.units < K0)(j:ItN knd s.heap (f::x) (u::xs))(g:ItN knd s.heap (k2::y) (v::ys))(h:Q (decide (f=k2)) s):C8 (D9 prog w) A (eqBool u v) Q E s:=by
 cases j with
 |@sc a _ _ _ h1 _=>
  cases g with
  |@sc b _ _ _ h2 _=>
   refine knd.eqBool h1 h2 ?_;have:decide (a=b)=decide ((Sum.inl a:K ⊕ List K)=Sum.inl b):=by by_cases e:a=b<;>simp[e]
   rw[this];exact h
  |@tp t b _ _ h2 _=>
   obtain⟨c,hi⟩:=IsTupleKey.isT h2;refine i.l d h1 hi ?_;have:decide ((Sum.inl a:K ⊕ List K)=Sum.inr t)=false:=by simp
   rw[<- this];exact h
 |@tp t a _ _ h1 _=>
  cases g with
  |@sc b _ _ _ h2 _=>
   obtain⟨c,hi⟩:=IsTupleKey.isT h1;refine i.r d h2 hi ?_;have:decide ((Sum.inr t:K ⊕ List K)=Sum.inl b)=false:=by simp
   rw[<- this];exact h
  |@tp t' b _ _ h2 _=>
   refine wpAny_eqBool_tuple (knd:=knd) d h1 h2 ?_;have:decide (t=t')=decide ((Sum.inr t:K ⊕ List K)=Sum.inr t'):=by by_cases e:t=t'<;>simp[e]
   rw[this];exact h
theorem ItN.tail{k:K ⊕ List K}{ks:NK K}{v:_v}{vs:List _v}(x:ItN knd h (k::ks) (v::vs)):ItN knd h ks vs:=by
 cases x with|sc _ t=>exact t|tp _ t=>exact t
theorem ItN.split{ks:NK K}{v:_v}{vs:List _v}(x:ItN knd h ks (v::vs)):∃k r,ks=k::r:=by
 cases x with|sc _ t=>exact⟨_,_,rfl⟩|tp _ t=>exact⟨_,_,rfl⟩
theorem ItN.len{h:K4}:∀{ks:NK K}{vs:List _v},ItN knd h ks vs->ks.length=vs.length
 |_,_,.nil=>rfl
 |_,_,.sc _ t=>by simp[t.len]
 |_,_,.tp _ t=>by simp[t.len]
theorem QO{x y:NK K}{b:B8}{P:Fin->A7->Prop}(R:Apart knd)(O:A.units < K0)(N:Rt knd s.heap x a)(L:Rt knd s.heap y b)(h:P (.done (.ret (.bool (decide (x=y))))) s) :
    C8 (D9 prog w) A (U2.«tuple.__eq__» ⟨[.ref a,.ref b],[]⟩) P E s:=by
  have J:=L.typeIs;obtain⟨W,xs,X,C,_,I,G⟩:=N;obtain⟨ob,ys,nb,B,_,H,F⟩:=L;show C8 _ _ (zJ (.ref b) (.type "tuple") >>= _) _ _ s;refine A1 (X0 J Z9 ?_);simp only[V6,B4,if_false];refine A1 (u6 C I ?_);refine A1 (u6 B H ?_);refine A1 ?_;refine g8 _
    (λk r s'=>r.1=_n/\s'=s/\∃o n f c,k=List.zip f c/\ItN knd s.heap o f/\ItN knd s.heap n c/\decide (o=n)=decide (x=y)/\(f.length==c.length)=(xs.size==ys.size))
    _ ?_ ?_ _ _ ⟨rfl,rfl,x,y,xs.toList,ys.toList,rfl,G,F,rfl,by simp⟩
  rintro⟨u,v⟩ k r s' ⟨z,rfl,o,n,f,c,hz,e,d,i,g⟩;cases f with
  |nil=>simp at hz
  |cons T q=>
    cases c with
    |nil=>simp at hz
    |cons S t=>
      simp only[J6,L7,Prod.mk.injEq]at hz;obtain⟨⟨rfl,rfl⟩,rfl⟩:=hz;obtain⟨M,l,rfl⟩:=e.split;obtain⟨k2,j,rfl⟩:=d.split;refine A1 (dS R O e d ?_);by_cases D:M=k2;subst D;rw[decide_eq_true rfl];simp only[V6,B4,if_false];refine A6 ⟨rfl,rfl,l,j,q,t,rfl,e.tail,d.tail,?_,by simpa using g⟩;rw[<- i];by_cases m:l=j;simp[m];simp[m];rw[decide_eq_false D];simp only[W7,if_true];have hf:decide (x=y)=false:=by rw[<- i];simp[D]
      rw[hf]at h;exact A1 (A6 (A6 (A6 h)))
  rintro⟨V,U⟩ s' ⟨z,rfl,o,n,f,c,hz,e,d,i,g⟩;simp only at z;subst z;refine A6 ?_;have p:(xs.size==ys.size)=decide (x=y):=by
    rw[<- i,<- g];have Z:=e.len;have Y:=d.len;cases f with
    |nil=>
      cases c with|nil=>cases e;cases d;simp|cons _ _=>cases e;obtain⟨k2,j,rfl⟩:=d.split;simp
    |cons _ _=>
      cases c with|nil=>cases d;obtain⟨k2,j,rfl⟩:=e.split;simp|cons _ _=>simp at hz
  show P (.done (.ret (.bool (xs.size==ys.size)))) s';rw[p];exact h
theorem ZE{x y:NK K}{b:B8}(i:Apart knd)(g:A.units+1 < K0)(d:Rt knd s.heap x a)(f:Rt knd s.heap y b)(h:Q (decide (x=y)) s) :
    C8 (D9 prog w) A (eqBool (.ref a) (.ref b)) Q E s:=by
  unfold eqBool
  try with_reducible refine J0 ?_
  show C8 _ _ (if(E9 a==E9 b)=_t then _ else _) Q E s;by_cases c:(E9 a==E9 b)=_t;rw[if_pos c];have e:a=b:=by have:=eq_of_beq c;injection this
  subst e;obtain rfl:=d.inj f;exact A1 (W6 (A6 (by simpa using h)));rw[if_neg c];exact A1 (wpAny_richCompare_same_room (op:=.Eq) d.typeIs f.typeIs F.slot_tuple_eq
    (L8 F.slot_tuple_eq d.typeIs F.entry_tuple_eq (QO i g d f ⟨_,rfl,(λe=>nomatch e),T6 h⟩) (F.args_tuple_eq_2 _ _)) `o)
theorem bR{n:Nat}{ks:List K}(f:IsTupleKey knd s.heap ks a)(h:Q _t s):C8 (D9 prog w) A (yd (n+1) (.ref a)) Q E s:=by have hT:=f.typeIs;obtain⟨o,items,k,g,_,hd,hi⟩:=f;unfold yd;refine A1 (T1 hT F.slot_tuple_eq.lookup ?_);show C8 _ _ (zJ (.ref a) (.type "tuple") >>= _) _ _ s;refine A1 (X0 hT Z9 ?_);simp only[V6,B4,if_false];refine A1 (S1 g hd ?_);refine A1 ?_;show C8 _ _ (forIn items _ _) _ _ s;rw[<- u7];refine g8 _ (λb r s'=>r.1=_n/\s'=s/\∀v∈b,carriedByValue v=_t) _ ?_ ?_ _ _ ⟨rfl,rfl,hi.byValue⟩;rintro v b r s' ⟨e,rfl,c⟩;rw[yB _ (c v B1)];refine A1 (A6 ?_);simp only[V6,B4,if_false];exact A6 ⟨rfl,rfl,λu d=>c u (A9 _ d)⟩;rintro⟨j,i⟩ s' ⟨e,rfl,_⟩;simp only at e;subst e;exact A6 h
theorem bS{ks:NK K}(e:Rt knd s.heap ks a)(h:Q _t s):C8 (D9 prog w) A (yd 8 (.ref a)) Q E s:=by
 have hT:=e.typeIs;obtain⟨o,items,j,f,_,hd,hi⟩:=e;unfold yd;refine A1 (T1 hT F.slot_tuple_eq.lookup ?_);show C8 _ _ (zJ (.ref a) (.type "tuple") >>= _) _ _ s;refine A1 (X0 hT Z9 ?_);simp only[V6,B4,if_false];refine A1 (S1 f hd ?_);refine A1 ?_;show C8 _ _ (forIn items _ _) _ _ s;rw[<- u7];refine g8 _ (λb r s'=>r.1=_n/\s'=s/\∃l,ItN knd s.heap l b) _ ?_ ?_ _ _ ⟨rfl,rfl,ks,hi⟩;rintro v b r s' ⟨d,rfl,l,hl⟩;cases hl with|@sc k _ c _ h1 t=>rw[yB _ (knd.byValue _ _ h1)];refine A1 (A6 ?_);simp only[V6,B4,if_false];exact A6 ⟨rfl,rfl,c,t⟩|@tp t' m c _ h1 t=>refine A1 (bR (n:=6) h1 ?_);simp only[V6,B4,if_false];exact A6 ⟨rfl,rfl,c,t⟩
 rintro⟨i,g⟩ s' ⟨d,rfl,_⟩;simp only at d;subst d;exact A6 h
end
def BU{prog:F9}{w:J5}{K:Type} [DecidableEq K] (knd:xS prog w K) (g:Apart knd):HeapKind prog w (NK K) where
 is:=Rt knd
 hash:=YS knd
 draws:=ZJ
 room:=λA=>A.units+1 < K0
 inj:=λc b=>c.inj b
 keeps:=λx f hd hs=>x.keeps f hd hs
 pyHash:=λd e h=>Wu d e h
 eqBool:=λd c b h=>ZE g d c b h
 quiet:=λe h=>bS e h
end L2
namespace L2
open PySem PySem.Spec PyProof.Rows
noncomputable abbrev AO:=Sum Int Str
def Lh:AO->_v->Bool
 |.inl k,v=>zAB k v
 |.inr x,v=>zo x v
def sZ(w:J5):AO->Int
 |.inl k=>hashInt k
 |.inr x=>hashStr w x
theorem Ac:∀{k:AO}{v:_v},Lh k v=_t->(∃i t,k=Sum.inl i/\v=ye i t)\/(∃x t,k=Sum.inr x/\v=yf x t)
 |.inl i,v,h=>by obtain⟨t,e⟩:=Value.isInt_shape (k:=i) (v:=v) h;exact .inl ⟨i,t,rfl,e⟩
 |.inr x,v,h=>by obtain⟨t,e⟩:=Value.isStrOf_shape (x:=x) (v:=v) h;exact .inr ⟨x,t,rfl,e⟩
theorem Ur(i:Int)(t:Tok):Lh (.inl i) (.int i t)=true:=by simp[Lh,zAB]
theorem Uq(x:Str)(t:Tok):Lh (.inr x) (.str x t)=true:=by simp[Lh,zo]
theorem kc(a b:Int):decide ((Sum.inl a:AO)=Sum.inl b)=(a==b):=by by_cases e:a=b;subst e;simp;have h:¬(Sum.inl a:AO)=Sum.inl b:=λq=>e (vT q);rw[decide_eq_false h];exact(beq_eq_false_iff_ne.mpr e).symm
theorem kZ(a b:Str):decide ((Sum.inr a:AO)=Sum.inr b)=decide (a=b):=by by_cases e:a=b;subst e;simp;have h:¬(Sum.inr a:AO)=Sum.inr b:=λq=>e (Sum.inr.inj q);rw[decide_eq_false h,decide_eq_false e]
theorem kb(a:Int)(b:Str):decide ((Sum.inl a:AO)=Sum.inr b)=false:=decide_eq_false (λq=>nomatch q)
theorem ka(a:Str)(b:Int):decide ((Sum.inr a:AO)=Sum.inl b)=false:=decide_eq_false (λq=>nomatch q)
def AJ(prog:F9)(w:J5):PySem.KeyKind prog w AO where
 is:=Lh
 hash:=sZ w
 inj:=λv a b ha hb=>by
  rcases Ac ha with⟨i,t,rfl,rfl⟩|⟨x,t,rfl,rfl⟩
  rcases Ac hb with⟨j,u,rfl,e⟩|⟨y,u,rfl,e⟩
  injection e with c _;rw[c]
  exact nomatch e;rcases Ac hb with⟨j,u,rfl,e⟩|⟨y,u,rfl,e⟩
  exact nomatch e;injection e with c _;rw[c]
 byValue:=λk v h=>by rcases Ac h with⟨i,t,rfl,rfl⟩|⟨x,t,rfl,rfl⟩<;>rfl
 pyHash:=λhv h=>by
  rcases Ac hv with⟨i,t,rfl,rfl⟩|⟨x,t,rfl,rfl⟩
  exact wpAny_pyHash_int h;exact wpAny_pyHash_str h
 eqBool:=λd hv h=>by
  rcases Ac d with⟨i,t,rfl,rfl⟩|⟨x,t,rfl,rfl⟩
  rcases Ac hv with⟨j,u,rfl,rfl⟩|⟨y,u,rfl,rfl⟩
  rw[kc]at h;exact wpAny_eqBool_int h;rw[kb]at h;exact xb i t y u _ _ _ _ h;rcases Ac hv with⟨j,u,rfl,rfl⟩|⟨y,u,rfl,rfl⟩
  rw[ka]at h;exact xc x t j u _ _ _ _ h;rw[kZ]at h;exact wpAny_eqBool_str h
 «strs»:=λk x t v h=>by
  rcases Ac h with⟨i,u,rfl,e⟩|⟨y,u,rfl,e⟩
  exact nomatch e
  ·injection e with c _
   subst c;cases v<;>rfl
theorem BJ(prog:F9)(w:J5):Apart (AJ prog w) where
 l:=λa c b h=>by
  rcases Ac c with⟨i,t,rfl,rfl⟩|⟨x,t,rfl,rfl⟩
  exact SeqAt.EqAt.int_tuple i t b a _ _ _ _ h;exact SeqAt.EqAt.str_tuple x t b a _ _ _ _ h
 r:=λa c b h=>by
  rcases Ac c with⟨i,t,rfl,rfl⟩|⟨x,t,rfl,rfl⟩
  exact SeqAt.EqAt.tuple_int i t b a _ _ _ _ h;exact SeqAt.EqAt.tuple_str x t b a _ _ _ _ h
theorem OZ(prog:F9)(w:J5)(i:Int)(t:Tok):(AJ prog w).is (.inl i) (.int i t)=true:=Ur i t
theorem OY(prog:F9)(w:J5)(x:Str)(t:Tok):(AJ prog w).is (.inr x) (.str x t)=true:=Uq x t
set_option genInjectivity true in
inductive V where
 |non|bl (b:Bool)|int (i:Int)|str (x:Str)|byt (b:Array UInt8)|flt (b:UInt64)|ref (a:B8)|ty (n:String)
 deriving DecidableEq
def RelV:V->_v->Prop
 |.non,u=>u=g7
 |.bl b,u=>u=g9 b
 |.int i,u=>∃t,u=ye i t
 |.str x,u=>∃t,u=yf x t
 |.byt b,u=>∃t,u=zAC b t
 |.flt b,u=>∃t,u=zAD b t
 |.ref a,u=>u=E9 a
 |.ty n,u=>u=L9 n
abbrev AG:List V->List _v->Prop:=Paired RelV
variable{us:List _v}
theorem AG.length{xs:List V}(r:AG xs us):xs.length=us.length:=Paired.length r
theorem AG.get:∀{xs:List V}{us:List _v}{i:Nat}{x:V},AG xs us->xs[i]?=_s x->∃u,us[i]?=_s u/\RelV x u
 |_,_,_,_,.nil,e=>by simp at e
 |_,_,0,_,.cons r _,e=>by simp at e;subst e;exact⟨_,rfl,r⟩
 |_,_,i+1,x,.cons _ t,e=>by obtain⟨u,h1,h2⟩:=AG.get (i:=i) (x:=x) t (by simpa using e);exact⟨u,by simpa using h1,h2⟩
theorem AG.set{x:V}{u:_v}(r:RelV x u):∀{xs:List V}{us:List _v}(i:Nat),AG xs us->AG (xs.set i x) (us.set i u)
 |_,_,_,.nil=>.nil
 |_,_,0,.cons _ t=>.cons r t
 |_,_,i+1,.cons q t=>.cons q (AG.set r i t)
theorem AG.append:∀{xs ys:List V}{us ws:List _v},AG xs us->AG ys ws->AG (xs++ys) (us++ws)
 |_,_,_,_,.nil,s=>s
 |_,_,_,_,.cons r t,s=>.cons r (AG.append t s)
theorem AG.take:∀{xs:List V}{us:List _v}(n:Nat),AG xs us->AG (xs.take n) (us.take n)
 |_,_,0,_=>.nil
 |_,_,_+1,.nil=>.nil
 |_,_,n+1,.cons r t=>.cons r (AG.take n t)
theorem AG.drop:∀{xs:List V}{us:List _v}(n:Nat),AG xs us->AG (xs.drop n) (us.drop n)
 |_,_,0,r=>r
 |_,_,_+1,.nil=>.nil
 |_,_,n+1,.cons _ t=>AG.drop n t
def EF:Option V->Option _v->Prop
 |some v,_s u=>RelV v u
 |none,_n=>True
 |_,_=>False
def KV{a:Type}:List (a×V)->List (a×_v)->Prop:=Paired fun(p:a×V) (q:a×_v)=>p.1=q.1/\RelV p.2 q.2
def kV:AO->V
 |.inl i=>.int i
 |.inr x=>.str x
inductive HO where
 |lst (xs:List V)
 |tup (xs:List V)
 |dK (kvs:List (AO×V))|dT (kvs:List (List AO×V))|dN (kvs:List (NK AO×V))
 |set (S:Int->Bool) (n:Nat)
 |ins (C dx:B8) (fs:List (Str×V))
 |own (x:B8)
 |xd (fs:List (Str×V))
 |met (f x:B8)
 |rng (lo hi:Int)
 |frz (o:Obj) (u:HO)
 |tbl (ps:Array _v)
 |ext (φ:K4->Prop)
noncomputable abbrev Hp:=B8->Option HO
def aU(H:Hp):NK AO->List V->Prop
 |[],vs=>vs=[]
 |.inl k::ks,vs=>∃r,vs=kV k::r/\aU H ks r
 |.inr t::ks,vs=>∃c r,vs=.ref c::r/\H c=_s (.tup (t.map kV))/\aU H ks r
def JC(H:Hp)(k:NK AO)(b:B8):Prop:=∃vs,H b=_s (.tup vs)/\aU H k vs
theorem aU.keeps{H H':Hp}(a:∀b xs,H b=_s (.tup xs)->H' b=_s (.tup xs)):∀{k:NK AO}{vs:List V},aU H k vs->aU H' k vs
 |[],_,h=>h
 |.inl _::ks,_,⟨r,e,h⟩=>⟨r,e,aU.keeps a h⟩
 |.inr _::ks,_,⟨c,r,e,h1,h⟩=>⟨c,r,e,a _ _ h1,aU.keeps a h⟩
variable{H:Hp}{b:B8}
theorem JC.keeps{H':Hp}(a:∀b xs,H b=_s (.tup xs)->H' b=_s (.tup xs)){k:NK AO}(h:JC H k b):JC H' k b:=let ⟨vs,e,n⟩:=h;⟨vs,a _ _ e,n.keeps a⟩
def upd(H:Hp)(a:B8)(o:HO):Hp:=λb=>if b=a then _s o else H b
variable{a:B8}{o:HO}
theorem AE:upd H a o a=_s o:=by unfold upd;rw[if_pos rfl]
theorem AD(h:b≠a):upd H a o b=H b:=by unfold upd;rw[if_neg h]
theorem SB{u:HO}:upd (upd H a o) a u=upd H a u:=by funext b;unfold upd;split<;>rfl
theorem Sj{u:HO}(h:H a=_s o)(h':H b=_s u)(d:o≠u):a≠b:=by intro e;subst e;rw[h]at h';exact d (C5 h')
theorem Be(h:H a=_s o)(h':H b=_n):a≠b:=by intro e;subst e;rw[h]at h';cases h'
def IG(h:K4)(a:B8)(items:Array _v):Prop:=∃o,h.get? a=_s o/\o.cls=.type "tuple" /\ o.dict=_n/\∃n,o.data=.seq items n
variable{h:K4}
theorem IG.tup{items:Array _v}(x:IG h a items):IsTup h a items:=let ⟨o,e,c,_,d⟩:=x;⟨o,e,c,d⟩
theorem IG.new(h:K4)(items:Array _v):IG (h.push {cls:=.type "tuple", data:=.seq items}) h.objs.size items:=⟨_,C9 _ rfl,rfl,rfl,_,rfl⟩
section
variable(P:F9)(w:J5)
def BC(H:Hp)(h:K4)(a:B8):HO->Prop
  |.lst xs=>xs.length<=sizeLine/\∃(c:List _v)(n:Nat),AG xs c/\h.get? a=_s {cls:=.type "list", data:=.seq c.toArray n}
  |.tup xs=>xs.length<=sizeLine/\∃c:List _v,AG xs c/\IG h a c.toArray
  |.dK kvs=>kvs.length<=sizeLine/\(a==Q9)=_f/\∃vs,KV kvs vs/\h.DictOf (AJ P w) a vs
  | .dT kvs=>kvs.length<=sizeLine/\(a==Q9)=_f/\∃xs:List (List AO×B8×_v),
      Paired (fun(p:List AO×V) (q:List AO×B8×_v)=>p.1=q.1/\H q.2.1=_s (.tup (p.1.map kV))/\RelV p.2 q.2.2) kvs xs /\
      ∃o es d,h.get? a=_s o/\o.ExactDict/\o.data=.dict es d/\es.toList=xs.map (zK (v7 (AJ P w)))/\(xs.map (·.1)).Nodup
  | .dN kvs=>kvs.length<=sizeLine/\(a==Q9)=_f/\∃xs:List (NK AO×B8×_v),
      Paired (fun(p:NK AO×V) (q:NK AO×B8×_v)=>p.1=q.1/\JC H p.1 q.2.1/\RelV p.2 q.2.2) kvs xs /\
      ∃o es d,h.get? a=_s o/\o.ExactDict/\o.data=.dict es d/\es.toList=xs.map (zK (BU (AJ P w) (BJ P w)))/\(xs.map (·.1)).Nodup
  |.set S n=>h.SetOf (intKind P w) a S n
  | .ins C dx fs=>H dx=_s (.own a)/\fs.length<=1000/\dx≠a/\h.get? a=_s (W.instObj C dx) /\
      ∃mA,h.Ns1 dx mA/\(∀f,EF (fs.lookup f) (mA f))/\yC mA (fs.map (·.1))
  |.own _=>∃o,h.get? a=_s o
  |.xd fs=>∃mA,h.Ns1 a mA/\∀f,EF (fs.lookup f) (mA f)
  |.rng lo hi=>∃t u v,h.get? a=_s {cls:=.type "range", data:=.fields #[.int lo t,.int hi u,.int 1 v]}
  |.frz o u=>h.get? a=_s o/\BC H h a u
  |.tbl ps=>h.get? a=_s {cls:=.none,data:=.fields ps}
  |.met f x=>h.get? a=_s (W.methodObj (.ref f) (.ref x))
  |.ext φ=>φ h/\(∃o,h.get? a=_s o)/\∀h1 h2:K4,φ h1->(∀o,h1.get? a=_s o->h2.get? a=_s o)->φ h2
def Ft(H:Hp)(h:K4):Prop:=∀a o,H a=_s o->BC P w H h a o
end
section
variable{P:F9}{w:J5}{H H':Hp}{h h':K4}{a:B8}{o:HO}
theorem BC.lt(x:BC P w H h a o):a < h.objs.size:=by
 cases o with|lst xs=>obtain⟨_,_,_,_,e⟩:=x;exact D5 e|tup xs=>obtain⟨_,_,_,p⟩:=x;exact p.tup.lt|dK kvs=>obtain⟨_,_,_,_,o,_,_,e,_⟩:=x;exact D5 e|dT kvs=>obtain⟨_,_,_,_,o,_,_,e,_⟩:=x;exact D5 e|dN kvs=>obtain⟨_,_,_,_,o,_,_,e,_⟩:=x;exact D5 e|set S n=>obtain⟨o,_,_,_,e,_⟩:=x;exact D5 e|ins C dx fs=>obtain⟨_,_,_,e,_⟩:=x;exact D5 e|own y=>obtain⟨_,e⟩:=x;exact D5 e|xd fs=>obtain⟨_,⟨_,_,_,e,_⟩,_⟩:=x;exact D5 e|rng lo hi=>obtain⟨_,_,_,e⟩:=x;exact D5 e|frz ob u=>obtain⟨e,_⟩:=x;exact D5 e|tbl ps=>exact D5 (show h.get? a=_s _ from x)|met f y=>exact D5 (show h.get? a=_s _ from x)|ext φ=>obtain⟨_,⟨_,e⟩,_⟩:=x;exact D5 e
theorem Paired.zCy{α β:Type}{F G:α->β->Prop}:∀{l₁:List α}{l₂:List β},Paired F l₁ l₂->(∀a b,F a b->G a b)->Paired G l₁ l₂
 |_,_,.nil,_=>.nil
 |_,_,.cons r t,f=>.cons (f _ _ r) (Paired.zCy t f)
theorem BC.zBh(x:BC P w H h a o)(k:∀b u,(b=a\/H b=_s (.own a))->h.get? b=_s u->h'.get? b=_s u)
    (m:∀b,H b=_s (.own a)->H' b=_s (.own a)) (j:∀b xs,H b=_s (.tup xs)->H' b=_s (.tup xs)):BC P w H' h' a o:=by
  induction o with|lst xs=>obtain⟨z,i,n,r,e⟩:=x;exact⟨z,i,n,r,k _ _ (.inl rfl) e⟩|tup xs=>obtain⟨z,i,r,ob,e,c⟩:=x;exact⟨z,i,r,ob,k _ _ (.inl rfl) e,c⟩|dK kvs=>obtain⟨z,y,vs,r,ob,es,g,e,c⟩:=x;exact⟨z,y,vs,r,ob,es,g,k _ _ (.inl rfl) e,c⟩|dT kvs=>obtain⟨z,y,xs,r,ob,es,g,e,c⟩:=x;exact⟨z,y,xs,Paired.zCy r λp q z=>⟨z.1,j _ _ z.2.1,z.2.2⟩,ob,es,g,k _ _ (.inl rfl) e,c⟩|dN kvs=>obtain⟨z,y,xs,r,ob,es,g,e,c⟩:=x;exact⟨z,y,xs,Paired.zCy r λp q z=>⟨z.1,z.2.1.keeps j,z.2.2⟩,ob,es,g,k _ _ (.inl rfl) e,c⟩|set S n=>obtain⟨ob,es,g,t,e,c⟩:=x;exact⟨ob,es,g,t,k _ _ (.inl rfl) e,c⟩|ins C dx fs=>obtain⟨d,z,ne,e,mA,⟨od,es,g,s,c⟩,r⟩:=x;exact⟨m _ d,z,ne,k _ _ (.inl rfl) e,mA,⟨od,es,g,k _ _ (.inr d) s,c⟩,r⟩|own y=>obtain⟨ob,e⟩:=x;exact⟨ob,k _ _ (.inl rfl) e⟩|xd fs=>obtain⟨mA,⟨od,es,g,e,c⟩,r⟩:=x;exact⟨mA,⟨od,es,g,k _ _ (.inl rfl) e,c⟩,r⟩|rng lo hi=>obtain⟨t,u,v,e⟩:=x;exact⟨t,u,v,k _ _ (.inl rfl) e⟩|frz ob u l=>obtain⟨e,q⟩:=x;exact⟨k _ _ (.inl rfl) e,l q⟩|tbl ps=>have e:h.get? a=_s {cls:=.none,data:=.fields ps}:=x;show h'.get? a=_s {cls:=.none,data:=.fields ps};exact k a _ (.inl rfl) e|met f y=>have e:h.get? a=_s (W.methodObj (.ref f) (.ref y)):=x;show h'.get? a=_s (W.methodObj (.ref f) (.ref y));exact k a _ (.inl rfl) e|ext φ=>obtain⟨p,⟨o,e⟩,st⟩:=x;exact⟨st _ _ p λo q=>k _ _ (.inl rfl) q,⟨o,k _ _ (.inl rfl) e⟩,st⟩
theorem Ft.lt(x:Ft P w H h)(e:H a=_s o):a < h.objs.size:=(x a o e).lt
theorem Ft.fresh(x:Ft P w H h)(e:h.objs.size<=a):H a=none:=by
 cases q:H a with|none=>rfl|some u=>exact absurd (C6 (x.lt q) e) (V7 _)
theorem Ft.kept(x:Ft P w H h)(k:∀b u,h.get? b=_s u->h'.get? b=_s u):Ft P w H h':=λa o e =>
 (x a o e).zBh (λb u _ q=>k b u q) (λ_ q=>q) λ_ _ q=>q
theorem Ft.laid(x:Ft P w H h)(k:∀b u,h.get? b=_s u->h'.get? b=_s u)(f:h.objs.size<=a)(new:BC P w (upd H a o) h' a o):Ft P w (upd H a o) h':=λb u e=>by have d:=x.fresh f;by_cases hb:b=a;subst hb;rw[AE]at e;cases e;exact new;rw[AD hb]at e;exact(x b u e).zBh (λc v _ q=>k c v q) (λc q=>by rw[AD (Be q d)];exact q) λc xs q=>by rw[AD (Be q d)];exact q
end
def Rd(H:Hp)(a:B8)(u:HO):Prop:=H a=_s u\/∃o,H a=_s (.frz o u)
variable{P:F9}{w:J5}
theorem Rd.ok{u:HO}(r:Rd H a u)(x:Ft P w H h):BC P w H h a u:=by
 rcases r with r|⟨o,r⟩
 exact x a u r;obtain⟨_,q⟩:=x a _ r;exact q
def my:Option HO->Prop
 |some (.lst _)=>True
 |some (.dK _)=>True
 |some (.dT _)=>True
 |some (.dN _)=>True
 |some (.set _ _)=>True
 |some (.ins _ _ _)=>True
 |some (.ext _)=>True
 |_=>False
section
variable{P:F9}{w:J5}{H:Hp}{h h':K4}{x e:B8}{o':HO}
theorem Ft.write(ok:Ft P w H h)(mu:my (H x))(he:e=x\/H e=_s (.own x))(k:∀b u,b≠e->h.get? b=_s u->h'.get? b=_s u)(j:∃u,h'.get? e=_s u)
    (new:BC P w (upd H x o') h' x o'):Ft P w (upd H x o') h':=λb u q=>by
  have f:∀c y,H c=_s (.own y)->c≠x:=λc y r z=>by subst z;rw[r]at mu;exact mu
  have i:∀c xs,H c=_s (.tup xs)->c≠x:=λc xs r z=>by subst z;rw[r]at mu;exact mu
  by_cases hb:b=x;subst hb;rw[AE]at q;cases q;exact new;rw[AD hb]at q;by_cases d:b=e;have l:H b=_s (.own x):=by
    rcases he with z|z
    exact absurd (d.trans z) hb;rw[d];exact z
  rw[q]at l;cases l;obtain⟨v,hv⟩:=j;exact⟨v,by rw[d];exact hv⟩;refine(ok b u q).zBh (λc v g r=>k c v ?_ r) (λc r=>by rw[AD (f c b r)];exact r) λc xs r=>by rw[AD (i c xs r)];exact r
  rcases g with rfl|g
  exact d;rintro rfl;rcases he with z|z
  exact f c b g z;rw[g]at z;cases z;exact hb rfl
end
structure Un (fs ex:List B8) (H H':Hp) (h h':K4):Prop where
 keep:∀b o,h.get? b=_s o->H b=_n->b∉fs->b∉ex->h'.get? b=_s o
 slot:∀b o,h.get? b=_s o->H b=_n->b∈fs->b∉ex->∃sl,h'.get? b=_s {o with slots:=sl}
 free:∀b o,h.get? b=_s o->H b=_n->b∉ex->H' b=_n
 there:∀b o,h.get? b=_s o->b∉ex->∃o',h'.get? b=_s o'
 zBu:∀b xs,H b=_s (.tup xs)->H' b=_s (.tup xs)
 zBl:∀b o u,H b=_s (.frz o u)->H' b=_s (.frz o u)
 zBv:∀b ps,H b=_s (.tbl ps)->∃more,H' b=_s (.tbl (ps++more))
section
variable{fs fs' ex ex':List B8}{H H1 H2:Hp}{h h1 h2 h':K4}{a x e:B8}{o:HO}
theorem Un.any(u:Un fs ex H H1 h h1){ob:Obj}(q:h.get? b=_s ob)(n:H b=_n)(c:b∉ex):∃sl,h1.get? b=_s {ob with slots:=sl}:=by by_cases hb:b∈fs;exact u.slot b ob q n hb c;exact⟨ob.slots,u.keep b ob q n hb c⟩
theorem Un.kept(k:∀b u,h.get? b=_s u->h'.get? b=_s u):Un fs ex H H h h':=
 ⟨λb ob q _ _ _=>k b ob q,λb ob q _ _ _=>⟨ob.slots,k b ob q⟩,λ_ _ _ n _=>n,λb ob q _=>⟨ob,k b ob q⟩,λ_ _ q=>q,λ_ _ _ q=>q,λ_ ps q=>⟨#[],by rw[q];simp⟩⟩
theorem Un.refl:Un fs ex H H h h:=Un.kept λ_ _ q=>q
theorem Un.laid(k:∀b u,h.get? b=_s u->h'.get? b=_s u)(d:h.objs.size<=a)(c:H a=_n):Un fs ex H (upd H a o) h h' where
 keep:=λb u q _ _ _=>k b u q
 slot:=λb u q _ _ _=>⟨u.slots,k b u q⟩
 free:=λb u q n _=>by rw[AD (E5 (C6 (D5 q) d))];exact n
 there:=λb u q _=>⟨u,k b u q⟩
 zBu:=λb xs q=>by rw[AD (Be q c)];exact q
 zBl:=λb u xs q=>by rw[AD (Be q c)];exact q
 zBv:=λb ps q=>⟨#[],by rw[AD (Be q c),q];simp⟩
theorem Un.write(mu:my (H x))(he:e=x\/H e=_s (.own x))(k:∀b u,b≠e->h.get? b=_s u->h'.get? b=_s u)(d:∃u,h'.get? e=_s u):Un fs ex H (upd H x o) h h':=by
 have f:∀b,H b=_n->b≠x:=λb n z=>by subst z;rw[n]at mu;exact mu
 have hb:∀b,H b=_n->b≠e:=λb n z=>by
  subst z;rcases he with r|r
  exact f b n r;rw[n]at r;cases r
 have hm:∀b u,H b=_s u->¬my (_s u)->b≠x:=λb u q nm z=>by subst z;rw[q]at mu;exact nm mu
 refine⟨λb u q n _ _=>k b u (hb b n) q,λb u q n _ _=>⟨u.slots,k b u (hb b n) q⟩,λb u q n _=>by rw[AD (f b n)];exact n,λb u q _=>?_,
  λb xs q=>by rw[AD (hm b _ q λz=>z)];exact q,λb u xs q=>by rw[AD (hm b _ q λz=>z)];exact q,λb ps q=>⟨#[],by rw[AD (hm b _ q λz=>z),q];simp⟩⟩
 by_cases c:b=e;subst c;exact d;exact⟨u,k b u c q⟩
end
def rO(h:K4)(H:Hp):List B8:=(B2 h.objs.size).filter λa=>(H a).isSome
def Mr(h:K4)(H:Hp):K4:=W.hideAll h (rO h H)
theorem Uv(h:K4)(H:Hp):(Mr h H).objs.size=h.objs.size:=W.hideAll_size _ _
theorem YR{o:Obj}(e:h.get? b=_s o)(n:H b=_n):(Mr h H).get? b=_s o:=
 W.hideAll_get _ e λhm=>by have q:(H b).isSome=true:=(T2.mp hm).2;rw[n]at q;simp at q
theorem cR{o:Obj}(e:(Mr h H).get? b=_s o):h.get? b=_s o/\H b=none:=by
 have c:h.get? b=_s o:=W.of_hideAll (rO h H) e;refine⟨c,?_⟩;cases q:H b with|none=>rfl|some x=>have hm:b∈rO h H:=T2.mpr ⟨P8.mpr (D5 c),by simp[q]⟩;have z:(Mr h H).get? b=none:=W.hideAll_none (rO h H) hm;rw[z]at e;cases e
structure Mod (K:W.Frag) (mg:Str->Option _v) (base:K4):Prop where
 kin:K.In base
 glob:base.Ns M1 mg
 blt:∃mb,base.Ns zL mb/\∀x:Str,x ≠ "__name__" -> mb x=R7 x
 nolimit:base.NoLimit
structure Cx where
 prog:F9
 w:J5
 K:W.Frag
 mg:Str->Option _v
 base:K4
 A:J3
 N:List Str
 zAZ:A7
 H₀:Hp
 env:Env
 outer:List Env
 stack:List Env
 ex:List B8
 fn:Str->Bool
 calm:Bool
 pn:List (B8×Obj)
 xe:_v->A7->Prop
noncomputable def TK(l:List Env):List B8:=l.filterMap (·.frame)
abbrev Cx.fs(X:Cx):List B8:=TK X.outer
def rh(sc:O0)(x:Str):Prop:=sc.names.lookup x=_s .local\/sc.names.lookup x=_s .cell\/sc.names.lookup x=_s .free
def Loc(sc:O0)(x:Str):Prop:=sc.names.lookup x=_s .local\/sc.names.lookup x=_s .cell
def Look(env:Env)(h:K4)(m:Str->Option _v)(x:Str)(u:_v):Prop:=
 (env.kindOf x=_s .local/\m x=_s u)\/((env.kindOf x=_s .cell\/env.kindOf x=_s .free)/\∃c,env.cells.lookup x=_s c/\h.IsCell c (_s u))
structure Cx.Ok (X:Cx):Prop where
 mod:Mod X.K X.mg X.base
 kind:X.env.scope.kind=.function
 glob:X.env.globals=M1
 blt:X.env.builtins=zL
 above:X.zAZ.heap.objs.size<=X.env.locals
 inj:∀x y c,X.env.cells.lookup x=_s c->X.env.cells.lookup y=_s c->x=y
 has:∀x,(X.env.kindOf x=_s .cell\/X.env.kindOf x=_s .free)->∃c,X.env.cells.lookup x=_s c
 cab:∀x c,X.fn x=_t->X.env.cells.lookup x=_s c->X.zAZ.heap.objs.size<=c
 hd:X.calm=_t->X.A.handled=_n
 frames:X.A.frames=_s X.stack
 stk:X.stack=X.outer\/(X.stack=X.env::X.outer/\X.env.frame=_s X.env.locals)
 exf:∀b∈X.ex,b≠X.env.locals/\∀x c,X.env.cells.lookup x=_s c->c≠b
 bs:∀b o,X.base.get? b=_s o->X.zAZ.heap.get? b=_s o/\X.H₀ b=_n
 bsz:X.base.objs.size<=X.zAZ.heap.objs.size
 zCm:∀b o,X.base.get? b=_s o->b∉X.ex
 zDK:∀b∈X.ex,b∉X.fs
 zBK:X.zAZ.heap.FunFrames X.base X.outer
 frf:∀b∈X.fs,X.H₀ b=_n
structure Inv (X:Cx) (pins:List (B8×Obj)) (σ:List (Option V)) (H:Hp) (s:A7):Prop where
 ok:X.Ok
 os:s.os=X.zAZ.os
 bare:vU s.gens
 base:Un X.fs X.ex X.H₀ H X.zAZ.heap s.heap
 loc:∃m,s.heap.Ns X.env.locals m/\∀(i:Nat)(x:Str)(v:V),X.N[i]?=_s x->σ[i]?=_s (_s v)->rh X.env.scope x->∃u,RelV v u/\Look X.env s.heap m x u
 cell:∀x c,X.env.cells.lookup x=_s c->∃v,s.heap.IsCell c v
 free:H X.env.locals=_n
 zAl:∀x c,X.env.cells.lookup x=_s c->H c=_n
 pin:∀p∈X.pn++pins,s.heap.get? p.1=_s p.2/\H p.1=_n/\p.1≠X.env.locals/\p.1∉X.fs/\∀v,p.2.data≠.cell v
 hok:Ft X.prog X.w H s.heap
 len:σ.length=X.N.length
variable{t' i:Nat}{x:Str}{u:_v}
section
variable{X:Cx}{pins:List (B8×Obj)}{σ:List (Option V)}{H H':Hp}{s:A7}{h':K4}
theorem Cx.Ok.zFd(ok:X.Ok){o:Obj}(e:X.base.get? b=_s o):b∉X.fs:=λhb=>by have:=(ok.zBK.mem hb).1;rw[e]at this;cases this
theorem Inv.bs(I:Inv X pins σ H s):∀b o,X.base.get? b=_s o->s.heap.get? b=_s o/\H b=none:=λb o e =>
 ⟨I.base.keep b o (I.ok.bs b o e).1 (I.ok.bs b o e).2 (I.ok.zFd e) (I.ok.zCm b o e),I.base.free b o (I.ok.bs b o e).1 (I.ok.bs b o e).2 (I.ok.zCm b o e)⟩
theorem Inv.bk(I:Inv X pins σ H s):∀b o,X.base.get? b=_s o->s.heap.get? b=_s o:=λb o e=>(I.bs b o e).1
theorem Inv.mod(I:Inv X pins σ H s):Mod X.K X.mg X.base:=I.ok.mod
theorem Inv.kIn(I:Inv X pins σ H s):X.K.In s.heap:=I.ok.mod.kin.keeps I.bk
theorem Inv.fr(I:Inv X pins σ H s):∃m,Fr X.base X.env.locals s.heap m:=
 let ⟨m,hn,_⟩:=I.loc
 ⟨m,hn,I.bk,A8 I.ok.bsz I.ok.above⟩
theorem Inv.lt(I:Inv X pins σ H s):X.env.locals < s.heap.objs.size:=let ⟨_,hn,_⟩:=I.loc;hn.lt
theorem Inv.sz(I:Inv X pins σ H s):X.zAZ.heap.objs.size<=s.heap.objs.size:=A8 I.ok.above (R8 I.lt)
theorem Inv.zEj(I:Inv X pins σ H s)(h:s.heap.objs.size<=a):a∉X.fs:=λhb=>by obtain⟨_,o,c,_⟩:=I.ok.zBK.mem hb;exact absurd (C6 (D5 c) (A8 I.sz h)) (V7 _)
theorem Inv.cne(I:Inv X pins σ H s):∀x c,X.env.cells.lookup x=_s c->c≠X.env.locals:=λx c e z=>by obtain⟨v,o,g,hd⟩:=I.cell x c e;obtain⟨m,⟨o',es,j,d,f,_⟩,_⟩:=I.loc;rw[z,d]at g;cases g;rw[f]at hd;cases hd
theorem Inv.zBK(I:Inv X pins σ H s):s.heap.FunFrames X.base X.outer:=by
 have all:∀(l:List Env),(∀b∈TK l,b∈X.fs)->X.zAZ.heap.FunFrames X.base l->s.heap.FunFrames X.base l:=by
  intro l;induction l with|nil=>intro _ _;trivial|cons env r d=>intro hs hl;obtain⟨k,⟨L,o,hf,j,g,hd⟩,f⟩:=hl;have c:L∈X.fs:=hs L (by unfold TK;rw[R4,hf];exact B1);obtain⟨sl,e⟩:=I.base.slot L o g (I.ok.frf L c) c λz=>I.ok.zDK L z c;exact⟨k,⟨L,_,hf,j,e,hd⟩,d (λb hb=>hs b (by unfold TK;rw[R4,hf];exact A9 _ hb)) f⟩
 exact all X.outer (λ_ hb=>hb) I.ok.zBK
theorem Inv.stack(I:Inv X pins σ H s):s.heap.FunFrames X.base X.stack:=by
 rcases I.ok.stk with e|⟨e,hf⟩
 rw[e];exact I.zBK;rw[e];obtain⟨m,c,_⟩:=I.loc;refine .cons (by rw[I.ok.kind];decide) hf c ?_ I.zBK;exact Heap.get?_none_of_le (A8 I.ok.bsz I.ok.above)
theorem Inv.zBG(I:Inv X pins σ H s):∀b∈TK X.stack,b∈X.env.locals::X.fs:=λb hb=>by
 rcases I.ok.stk with e|⟨e,hf⟩
 rw[e]at hb;exact A9 _ hb;rw[e]at hb;unfold TK at hb;rw[R4,hf]at hb;exact hb
theorem Inv.zCW(I:Inv X pins σ H s):∀b∈TK X.stack,H b=none:=λb hb=>by
 rcases D3.mp (I.zBG b hb)with e|hb
 rw[e];exact I.free;obtain⟨_,o,c,_⟩:=I.ok.zBK.mem hb;exact I.base.free b o c (I.ok.frf b hb) λz=>I.ok.zDK b z hb
theorem Inv.step{g':Array GenState}{t':Nat}{d':Drawn}{ch:List B8}(I:Inv X pins σ H s)
    (j:∀b∈ch,(b∈X.ex\/X.zAZ.heap.objs.size<=b)/\b≠X.env.locals/\(∀x c,X.env.cells.lookup x=_s c->c≠b)/\∀p∈X.pn++pins,p.1≠b)
    (keep:∀b o,b≠X.env.locals->b∉X.fs->b∉ch->s.heap.get? b=_s o->H b=_n->h'.get? b=_s o)
    (slot:∀b o,b≠X.env.locals->b∈X.fs->b∉ch->s.heap.get? b=_s o->H b=_n->∃sl,h'.get? b=_s {o with slots:=sl}) (free:∀b o,b∉ch->s.heap.get? b=_s o->H b=_n->H' b=_n)
    (there:∀b o,b∉ch->s.heap.get? b=_s o->∃o',h'.get? b=_s o')
    (zBu:∀b xs,H b=_s (.tup xs)->H' b=_s (.tup xs)) (zBl:∀b o u,H b=_s (.frz o u)->H' b=_s (.frz o u)) (zBv:∀b ps,H b=_s (.tbl ps)->∃more,H' b=_s (.tbl (ps++more)))
    (ns:∀m,s.heap.Ns X.env.locals m->h'.Ns X.env.locals m) (hok:Ft X.prog X.w H' h') (M:vU g') :
    Inv X pins σ H' {s with heap:=h',gens:=g',drawn:=d',toks:=t' }:=by
  have B:∀b o,X.zAZ.heap.get? b=_s o->b≠X.env.locals:=λb o e=>E5 (C6 (D5 e) I.ok.above);have t:∀b o,X.zAZ.heap.get? b=_s o->b∉X.ex->b∉ch:=λb o e f hb=>by
    rcases(j b hb).1 with z|z
    exact f z;exact absurd (C6 (D5 e) z) (V7 _)
  have cellK:∀x c,X.env.cells.lookup x=_s c->∀v,s.heap.IsCell c v->h'.IsCell c v:=λx c e v ⟨o,A,hd⟩=>by have g:c∉ch:=λz=>(j c z).2.2.1 x c e rfl;by_cases G:c∈X.fs;obtain⟨sl,q⟩:=slot c o (I.cne x c e) G g A (I.zAl x c e);exact⟨_,q,hd⟩;exact⟨o,keep c o (I.cne x c e) G g A (I.zAl x c e),hd⟩
  refine⟨I.ok,I.os,M,⟨λb o e n hb f=>?_,λb o e n hb f=>?_,λb o e n f=>?_,λb o e f=>?_,λb xs e=>zBu b xs (I.base.zBu b xs e),λb o xs e=>zBl b o xs (I.base.zBl b o xs e),λb ps e=>?_⟩,?_,λx c e=>?_,?_,λx c e=>?_,λp F=>?_,hok,I.len⟩;exact keep b o (B b o e) hb (t b o e f) (I.base.keep b o e n hb f) (I.base.free b o e n f);obtain⟨sl,y⟩:=I.base.slot b o e n hb f;obtain⟨D,C⟩:=slot b _ (B b o e) hb (t b o e f) y (I.base.free b o e n f);exact⟨D,C⟩;obtain⟨o',y⟩:=I.base.there b o e f;exact free b o' (t b o e f) y (I.base.free b o e n f);obtain⟨o',y⟩:=I.base.there b o e f;exact there b o' (t b o e f) y;obtain⟨K,y⟩:=I.base.zBv b ps e;obtain⟨J,C⟩:=zBv b _ y;exact⟨K++J,by rw[C,Array.append_assoc]⟩;obtain⟨m,L,hl⟩:=I.loc;refine⟨m,ns m L,λi x v y C N=>?_⟩;obtain⟨u,r,l⟩:=hl i x v y C N;refine⟨u,r,?_⟩;rcases l with l|⟨k,c,e,z⟩
  exact .inl l;exact .inr ⟨k,c,e,cellK x c e _ z⟩;obtain⟨v,z⟩:=I.cell x c e;exact⟨v,cellK x c e v z⟩;obtain⟨m,⟨o,_,_,A,_⟩,_⟩:=I.loc;exact free _ o (λz=>(j _ z).2.1 rfl) A I.free;obtain⟨v,o,A,hd⟩:=I.cell x c e;exact free c o (λz=>(j c z).2.2.1 x c e rfl) A (I.zAl x c e);obtain⟨e,n,ne,E,d⟩:=I.pin p F;have g:p.1∉ch:=λz=>(j p.1 z).2.2.2 p F rfl;exact⟨keep p.1 p.2 ne E g e n,free p.1 p.2 g e n,ne,E,d⟩
theorem Inv.un(I:Inv X pins σ H s)(u:Un X.fs [] H H' s.heap h')(hok:Ft X.prog X.w H' h'):Inv X pins σ H' {s with heap:=h',toks:=t' }:=by
 obtain⟨m,⟨o,es,l,g,r⟩,_⟩:=id I.loc;obtain⟨sl,k⟩:=u.any g I.free `s;exact I.step (g':=s.gens) (d':=s.drawn) (ch:=[]) (λ_ z=>nomatch z) (λb o _ hb _ e n=>u.keep b o e n hb `s) (λb o _ hb _ e n=>u.slot b o e n hb `s) (λb o _ e n=>u.free b o e n `s) (λb o _ e=>u.there b o e `s) u.zBu u.zBl u.zBv (λm' hm=>by obtain⟨o',d,f,c,j⟩:=hm;rw[g]at c;cases c;exact⟨_,d,f,k,j⟩) hok I.bare
theorem Inv.call{g':Array GenState}{t':Nat}{d':Drawn}{ch:List B8}(I:Inv X pins σ H s)(u:Un (TK X.stack) ch H H' s.heap h')(hok:Ft X.prog X.w H' h')(v:vU g')
    (g:∀b∈ch,(b∈X.ex\/X.zAZ.heap.objs.size<=b)/\b≠X.env.locals/\(∀x c,X.env.cells.lookup x=_s c->c≠b)/\∀p∈X.pn++pins,p.1≠b) :
    Inv X pins σ H' {s with heap:=h',gens:=g',drawn:=d',toks:=t' }:=by
  obtain⟨m,⟨o,es,y,q,r⟩,_⟩:=id I.loc;obtain⟨sl,j⟩:=u.any q I.free λz=>(g _ z).2.1 rfl;exact I.step (ch:=ch) g (λb o j hb d e n=>u.keep b o e n (λz=>(D3.mp (I.zBG b z)).elim j hb) d) (λb o _ _ d e n=>u.any e n d) (λb o d e n=>u.free b o e n d) (λb o d e=>u.there b o e d) u.zBu u.zBl u.zBv (λm' hm=>by obtain⟨o',k,l,f,t⟩:=hm;rw[q]at f;cases f;exact⟨_,k,l,j,t⟩) hok v
theorem Inv.turned{t':Nat}{it:B8}(I:Inv X pins σ H s)(k:∀b o,b≠it->s.heap.get? b=_s o->h'.get? b=_s o)(l:H it=_n)(g:it≠X.env.locals)
    (h1:it∈X.ex\/X.zAZ.heap.objs.size<=it) (h2:∀x c,X.env.cells.lookup x=_s c->c≠it) (h3:∀p∈X.pn++pins,p.1≠it):Inv X pins σ H {s with heap:=h',toks:=t' }:=by
  have f:∀b u,H b=_s u->b≠it:=λb u e z=>by rw[z,l]at e;cases e
  refine I.step (g':=s.gens) (d':=s.drawn) (ch:=[it]) (λb hb=>?_) (λb o _ _ d e _=>k b o (λz=>d (by simp[z])) e) (λb o _ _ d e _=>⟨o.slots,k b o (λz=>d (by simp[z])) e⟩) (λ_ _ _ _ n=>n)
    (λb o d e=>⟨o,k b o (λz=>d (by simp[z])) e⟩) (λ_ _ e=>e) (λ_ _ _ e=>e) (λb ps e=>⟨#[],by rw[e];simp⟩) (λm hm=>?_) (λb u e=>?_) I.bare
  have e:b=it:=by simpa using hb
  subst e;exact⟨h1,g,h2,h3⟩;obtain⟨o,es,t,j,r⟩:=hm;exact⟨o,es,t,k _ o (Ne.symm g) j,r⟩;refine(I.hok b u e).zBh (λc v d q=>k c v ?_ q) (λ_ q=>q) λ_ _ q=>q;rcases d with z|z
  rw[z];exact f b u e;exact f c _ z
theorem Inv.tok(I:Inv X pins σ H s)(t:Nat):Inv X pins σ H {s with toks:=t}:=I.un (h':=s.heap) (t':=t) Un.refl I.hok
theorem Inv.kept(I:Inv X pins σ H s)(k:∀b u,s.heap.get? b=_s u->h'.get? b=_s u):Inv X pins σ H {s with heap:=h',toks:=t' }:=I.un (Un.kept k) (I.hok.kept k)
theorem Inv.laid{t':Nat}(I:Inv X pins σ H s)(k:∀b u,s.heap.get? b=_s u->h'.get? b=_s u)(c:s.heap.objs.size<=a)(new:BC X.prog X.w (upd H a o) h' a o) :
    Inv X pins σ (upd H a o) {s with heap:=h',toks:=t' }:=I.un (Un.laid k c (I.hok.fresh c)) (I.hok.laid k c new)
theorem Inv.write{x e:B8}{o:HO}{t':Nat}(I:Inv X pins σ H s)(mu:my (H x))(he:e=x\/H e=_s (.own x))(k:∀b u,b≠e->s.heap.get? b=_s u->h'.get? b=_s u)(c:∃u,h'.get? e=_s u)
    (new:BC X.prog X.w (upd H x o) h' x o):Inv X pins σ (upd H x o) {s with heap:=h',toks:=t' }:=I.un (Un.write mu he k c) (I.hok.write mu he k c new)
theorem Inv.weak{σ':List (Option V)}(I:Inv X pins σ H s)(hl:σ'.length=σ.length)(w:∀(i:Nat) v,σ'[i]?=_s (_s v)->σ[i]?=_s (_s v)):Inv X pins σ' H s:=
 ⟨I.ok,I.os,I.bare,I.base,let ⟨m,hn,hl'⟩:=I.loc;⟨m,hn,λi x v e d c=>hl' i x v e (w i v d) c⟩,I.cell,I.free,I.zAl,I.pin,I.hok,hl.trans I.len⟩
theorem Inv.zAp{c:List (B8×Obj)}(I:Inv X pins σ H s)(h:∀p∈c,s.heap.get? p.1=_s p.2/\H p.1=_n/\p.1≠X.env.locals/\p.1∉X.fs/\∀v,p.2.data≠.cell v):Inv X c σ H s:=
 ⟨I.ok,I.os,I.bare,I.base,I.loc,I.cell,I.free,I.zAl,λp d=>(C0.mp d).elim (λz=>I.pin p (C7 _ z)) (h p),I.hok,I.len⟩
theorem OW{N:List Str}(c:N.Nodup){j:Nat}(a:N[i]?=_s x)(b:N[j]?=_s x):i=j:=by obtain⟨h1,e⟩:=A4.mp a;obtain⟨h2,d⟩:=A4.mp b;exact(v8 c).mp (e.trans d.symm)
theorem LH{M:Model}{A:J3}{E:_v->A7->Prop}{v:V}{Q:Unit->A7->Prop}(I:Inv X pins σ H s)(hN:X.N.Nodup)(hi:X.N[i]?=_s x)(t:Loc X.env.scope x)(r:RelV v u)
    (h:∀s',Inv X pins (σ.set i (_s v)) H s'->(∃a,N9 a s.heap s'.heap/\(a=X.env.locals\/X.env.cells.lookup x=_s a))->Q () s') (hf:X.fn x=_t\/X.env.scope.names.lookup x=_s .local:=by first|exact .inl rfl|exact .inr rfl|assumption):C8 M A (storeName X.env x u) Q E s:=by
  obtain⟨m,hn,hl⟩:=id I.loc;have T:(X.env.scope.kind==.class||(X.env.scope.kind==.module&&X.env.locals != X.env.globals))=false:=by rw[I.ok.kind];rfl
  have G:i < σ.length:=by rw[I.len];exact(A4.mp hi).1
  have cne:=I.cne;have f:∀{a:B8}{h':K4},(∃o,s.heap.get? a=_s o/\H a=_n)->N9 a s.heap h'->Ft X.prog X.w H h':=fun{a h'} ha hs b ob e=>by
    obtain⟨_,_,J⟩:=ha;refine(I.hok b ob e).zBh (λc R l q=>(hs.2 c ?_).trans q) (λ_ q=>q) λ_ _ q=>q;rintro rfl;rcases l with rfl|l
    rw[J]at e;cases e;rw[J]at l;cases l
  rcases t with C|C
  refine wpAny_storeName_local C hn (λh' hn' hs=>?_) T;obtain⟨oL,_,_,hoL,_⟩:=id hn;refine h _ ⟨I.ok,I.os,I.bare,⟨λb o e n hb t=>?_,λb o e n hb t=>?_,I.base.free,λb o e t=>?_,I.base.zBu,I.base.zBl,I.base.zBv⟩,⟨_,hn',λj y W g B e3=>?_⟩,λy c e=>?_,I.free,I.zAl,λp hp=>?_,f ⟨oL,hoL,I.free⟩ hs,by simpa using I.len⟩ ⟨_,hs,.inl rfl⟩;exact(hs.2 b (E5 (C6 (D5 e) I.ok.above))).trans (I.base.keep b o e n hb t);obtain⟨sl,g⟩:=I.base.slot b o e n hb t;exact⟨sl,(hs.2 b (E5 (C6 (D5 e) I.ok.above))).trans g⟩;obtain⟨o',g⟩:=I.base.there b o e t;exact⟨o',(hs.2 b (E5 (C6 (D5 e) I.ok.above))).trans g⟩;by_cases D:j=i;subst D;rw[hi]at g;cases g;rw[F8 G]at B;cases B;exact⟨u,r,.inl ⟨C,by simp⟩⟩;rw[E4 (Ne.symm D)]at B;obtain⟨Y,Z,q⟩:=hl j y W g B e3;refine⟨Y,Z,?_⟩;rcases q with⟨k,e⟩|⟨k,c,e,z⟩
  refine .inl ⟨k,?_⟩;have:y≠x:=λe=>D (OW hN g (e▸hi));simp[this,e];exact .inr ⟨k,c,e,z.sameBut hs (cne y c e)⟩;obtain⟨R,z⟩:=I.cell y c e;exact⟨R,z.sameBut hs (cne y c e)⟩;obtain⟨e,n,ne,nf,d⟩:=I.pin p hp;exact⟨(hs.2 p.1 ne).trans e,n,ne,nf,d⟩;have F:X.fn x=true:=by
    rcases hf with z|z
    exact z;rw[z]at C;cases C
  obtain⟨c,l⟩:=I.ok.has x (.inl C);obtain⟨R,z⟩:=I.cell x c l;refine wpAny_storeName_cell I.ok.kind C l z (λh' O hs=>?_);obtain⟨oc,K,U⟩:=id z;refine h {s with heap:=h' } ⟨I.ok,I.os,I.bare,⟨λb o e n hb t=>?_,λb o e n hb t=>?_,I.base.free,λb o e t=>?_,I.base.zBu,I.base.zBl,I.base.zBv⟩,⟨m,hn.sameBut hs (Ne.symm (cne x c l)),λj y W g B e3=>?_⟩,λy S e=>?_,I.free,I.zAl,λp hp=>?_,f ⟨oc,K,I.zAl x c l⟩ hs,by simpa using I.len⟩ ⟨c,hs,.inr l⟩;exact(hs.2 b (E5 (C6 (D5 e) (I.ok.cab x c F l)))).trans (I.base.keep b o e n hb t);obtain⟨sl,g⟩:=I.base.slot b o e n hb t;exact⟨sl,(hs.2 b (E5 (C6 (D5 e) (I.ok.cab x c F l)))).trans g⟩;obtain⟨o',g⟩:=I.base.there b o e t;exact⟨o',(hs.2 b (E5 (C6 (D5 e) (I.ok.cab x c F l)))).trans g⟩;by_cases D:j=i;subst D;rw[hi]at g;cases g;rw[F8 G]at B;cases B;exact⟨u,r,.inr ⟨.inl C,c,l,O⟩⟩;rw[E4 (Ne.symm D)]at B;obtain⟨Y,Z,q⟩:=hl j y W g B e3;refine⟨Y,Z,?_⟩;rcases q with q|⟨k,S,e,z'⟩
  exact .inl q;refine .inr ⟨k,S,e,z'.sameBut hs ?_⟩;rintro rfl;exact D (OW hN g (I.ok.inj _ _ _ e l▸hi));by_cases L:S=c;subst L;exact⟨_,O⟩;obtain⟨w2,z2⟩:=I.cell y S e;exact⟨w2,z2.sameBut hs L⟩;obtain⟨e,n,ne,nf,d⟩:=I.pin p hp;refine⟨(hs.2 p.1 ?_).trans e,n,ne,nf,d⟩;intro q;rw[q,K]at e;have q':oc=p.2:=C5 e;exact d R (by rw[<- q'];exact U)
theorem GX{M:Model}{A:J3}{E:_v->A7->Prop}{v:V}{Q:Unit->A7->Prop}(I:Inv X pins σ H s)(d:X.N.Nodup)(hi:X.N[i]?=_s x)(c:Loc X.env.scope x)(r:RelV v u)
    (h:∀s',Inv X pins (σ.set i (_s v)) H s'->Q () s') (hf:X.fn x=_t\/X.env.scope.names.lookup x=_s .local:=by first|exact .inl rfl|exact .inr rfl|assumption):C8 M A (storeName X.env x u) Q E s:=
  LH I d hi c r (λs' e _=>h s' e) hf
theorem Inv.zFL{s':A7}{ch:List B8}(I:Inv X pins σ H s)(f:s'.os=s.os)(u:Un (TK X.stack) ch H H' s.heap s'.heap)(hok:Ft X.prog X.w H' s'.heap)(g:vU s'.gens)
    (d:∀b∈ch,(b∈X.ex\/X.zAZ.heap.objs.size<=b)/\b≠X.env.locals/\(∀x c,X.env.cells.lookup x=_s c->c≠b)/\∀p∈X.pn++pins,p.1≠b):Inv X pins σ H' s':=by
  obtain⟨h',g',d',t',o'⟩:=s';have e:o'=s.os:=f;subst e;exact I.call (g':=g') (t':=t') (d':=d') u hok g d
end
abbrev XK:=_v->Option B8->Hp->Prop
noncomputable abbrev St:=List (Option V)
abbrev VK:=V->Hp->Prop
abbrev TE:=St->Hp->VK->Prop
abbrev TT:=St->Hp->(Bool->Hp->Prop)->Prop
abbrev TA:=St->Hp->(List V->Hp->Prop)->Prop
structure Ends where
 nx:St->Hp->Prop
 rt:VK
 bk:St->Hp->Prop:=λ_ _=>False
 ct:St->Hp->Prop:=λ_ _=>False
abbrev TS:=Ends->St->Hp->Prop
inductive EP (X:Cx) (pins:List (B8×Obj)) (σ:St) (Q:VK) (u:_v) (s':A7):Prop
 |mk (v:V) (H':Hp) (a:Inv X pins σ H' s') (b:RelV v u) (c:Q v H')
def TP(X:Cx)(pins:List (B8×Obj))(σ:St)(Q:Bool->Hp->Prop)(b:Bool)(s':A7):Prop:=∃H',Inv X pins σ H' s'/\Q b H'
inductive AP (X:Cx) (pins:List (B8×Obj)) (σ:St) (Q:List V->Hp->Prop) (us:List _v) (s':A7):Prop
 |mk (vs:List V) (H':Hp) (a:Inv X pins σ H' s') (b:AG vs us) (c:Q vs H')
def SP(X:Cx)(pins:List (B8×Obj))(D:Ends)(f:Flow)(s':A7):Prop:=
 match f with
 |.next=>∃σ' H',Inv X pins σ' H' s'/\D.nx σ' H'
 |.brk=>∃σ' H',Inv X pins σ' H' s'/\D.bk σ' H'
 |.cont=>∃σ' H',Inv X pins σ' H' s'/\D.ct σ' H'
 |.ret u=>∃v σ' H',Inv X pins σ' H' s'/\RelV v u/\D.rt v H'
def PE(X:Cx)(e:Expr)(t:TE):Prop:=
 ∀(pins:List (B8×Obj))(s:A7)(σ:St)(H:Hp)(Q:VK),Inv X pins σ H s->t σ H Q->C8 (D9 X.prog X.w) X.A (N2 e X.env) (EP X pins σ Q) X.xe s
def PT(X:Cx)(e:Expr)(t:TT):Prop:=
 ∀(pins:List (B8×Obj))(s:A7)(σ:St)(H:Hp)(Q:Bool->Hp->Prop),Inv X pins σ H s->t σ H Q->C8 (D9 X.prog X.w) X.A (isTrue e X.env (N2 e X.env)) (TP X pins σ Q) X.xe s
def PW(X:Cx)(e:Expr)(t:TT):Prop:=
 ∀(c:Sem _v)(pins:List (B8×Obj))(s:A7)(σ:St)(H:Hp)(Q:Bool->Hp->Prop),Inv X pins σ H s->t σ H Q->C8 (D9 X.prog X.w) X.A (isTrue e X.env c) (TP X pins σ Q) X.xe s
variable{X:Cx}{e:Expr}
theorem PW.pt{t:TT}(h:PW X e t):PT X e t:=h _
def PA(X:Cx)(es:List Expr)(t:TA):Prop:=
 ∀(pos:Pos)(pins:List (B8×Obj))(s:A7)(σ:St)(H:Hp)(Q:List V->Hp->Prop),Inv X pins σ H s->t σ H Q->C8 (D9 X.prog X.w) X.A (zw (P9 pos (E3 es X.env))) (AP X pins σ Q) X.xe s
def PS(X:Cx)(st:N4)(t:TS):Prop:=
 ∀(pins:List (B8×Obj))(s:A7)(σ:St)(H:Hp)(D:Ends),Inv X pins σ H s->t D σ H->C8 (D9 X.prog X.w) X.A (exec st X.env) (SP X pins D) X.xe s
def FR(X:Cx)(st:List N4)(t:TS):Prop:=
 ∀(pins:List (B8×Obj))(s:A7)(σ:St)(H:Hp)(D:Ends),Inv X pins σ H s->t D σ H->C8 (D9 X.prog X.w) X.A (execs st X.env) (SP X pins D) X.xe s
variable{M:Model}{A:J3}{E:_v->A7->Prop}{s:A7}
theorem BM{c:Type}{t:Sem c}{Q Q':c->A7->Prop}(h:C8 M A t Q E s)(d:∀a s,Q a s->Q' a s):C8 M A t Q' E s:=R0 h d λ_ _ x=>x
variable{pos:Pos}{pins:List (B8×Obj)}{σ:St}
section
variable{X:Cx}
abbrev EI(i:Nat):TE:=λσ H Q=>∃v,σ[i]?=_s (_s v)/\Q v H
abbrev tC(v:V):TE:=λ_ H Q=>Q v H
theorem jU(n:X.N[i]?=_s x)(hv:rh X.env.scope x)(hd:(x==("__debug__" : Str))=false:=by decide)(g:(x==("__classdict__" : Str))=false:=by decide):PE X (.Name x pos) (EI i):=by
 intro pins s σ H Q I h;obtain⟨v,e,h⟩:=h;obtain⟨m,k,hl⟩:=I.loc;obtain⟨u,r,l⟩:=hl i x v n e hv;have fin:EP X pins σ Q u s:=⟨v,H,I,r,h⟩;rcases l with⟨d,hm⟩|⟨d,c,j,f⟩
 exact zM (wpAny_loadName_local I.ok.kind d k hm fin) hd;rcases d with d|d
 exact zM (wpAny_loadName_cell I.ok.kind d j f fin) hd;exact zM (wpAny_loadName_free I.ok.kind d j f fin g) hd
theorem jd{i j pos}:PE X (.Constant (.int i) j pos) (tC (.int i)):=λ_ _ _ H _ I h=>wpAny_Constant_int ⟨.int i,H,I.tok _,⟨_,rfl⟩,h⟩
theorem oi{b j pos}:PE X (.Constant (.bool b) j pos) (tC (.bl b)):=λ_ _ _ H _ I h=>Constant_bool ⟨.bl b,H,I,rfl,h⟩
theorem jZ{j pos}:PE X (.Constant .none j pos) (tC .non):=λ_ _ _ H _ I h=>Constant_none ⟨.non,H,I,rfl,h⟩
theorem jW{x j pos}:PE X (.Constant (.str x) j pos) (tC (.str x)):=λ_ _ _ H _ I h=>xf ⟨.str x,H,I.tok _,⟨_,rfl⟩,h⟩
def Gl(X:Cx)(x:Str):Prop:=X.env.kindOf x=_s .globalImplicit
theorem Gn{E:_v->A7->Prop}{pos:Pos}{Q:_v->A7->Prop}(I:Inv X pins σ H s)(c:Gl X x)(hm:X.mg x=_s u)(h:Q u s)
    (hd:(x==("__debug__" : Str))=false:=by decide):C8 (D9 X.prog X.w) X.A (N2 (.Name x pos) X.env) Q E s:=
  u9 I.ok.kind c (Calls.loadGlobal_global (by rw[I.ok.glob];exact I.mod.glob.keeps I.bk) hm h) hd
theorem DQ{E:_v->A7->Prop}{pos:Pos}{Q:_v->A7->Prop}(I:Inv X pins σ H s)(d:Gl X x)(hm:X.mg x=_n)(hv:R7 x=_s u)(h:Q u s)
    (c:x ≠ "__name__" := by decide) (hd:(x==("__debug__" : Str))=false:=by decide):C8 (D9 X.prog X.w) X.A (N2 (.Name x pos) X.env) Q E s:=by
  obtain⟨mb,h1,h2⟩:=I.mod.blt;exact u9 I.ok.kind d (Calls.loadGlobal_builtin (by rw[I.ok.glob];exact I.mod.glob.keeps I.bk) hm (by rw[I.ok.blt];exact h1.keeps I.bk) ((h2 x c).trans hv) h) hd
theorem cC{v:V}(c:Gl X x)(hm:X.mg x=_s u)(r:RelV v u)(hd:(x==("__debug__" : Str))=false:=by decide):PE X (.Name x pos) (tC v):=
 λ_ _ _ H _ I h=>Gn I c hm ⟨v,H,I,r,h⟩ hd
theorem cF{v:V}(d:Gl X x)(hm:X.mg x=_n)(hv:R7 x=_s u)(r:RelV v u)(c:x ≠ "__name__" := by decide)(hd:(x==("__debug__" : Str))=false:=by decide):PE X (.Name x pos) (tC v):=
 λ_ _ _ H _ I h=>DQ I d hm hv ⟨v,H,I,r,h⟩ c hd
variable{a b:Expr}{ta tb:TE}{pos:Pos}
variable{tA fM:TT}{rest:List Expr}
abbrev nU(t u:TT):TT:=λσ H Q=>t σ H λc d=>if c=_t then u σ d Q else Q _f d
abbrev tw(t u:TT):TT:=λσ H Q=>t σ H λc d=>if c=_t then Q _t d else u σ d Q
abbrev nO(t:TT):TT:=λσ H Q=>t σ H λc d=>Q (!c) d
theorem bT(ha:PT X a tA):PW X (.BoolOp .And [a] pos) tA:=by
 intro d pins s σ H Q I h;refine isTrue_and (BM (ha pins s σ H Q I h) λc s1 e=>?_);cases c with|true=>exact isTrue_and_nil e|false=>exact e
theorem jC(ha:PT X a tA):PW X (.BoolOp .Or [a] pos) tA:=by
 intro d pins s σ H Q I h;refine isTrue_or (BM (ha pins s σ H Q I h) λc s1 e=>?_);cases c with|false=>exact isTrue_or_nil e|true=>exact e
theorem jD(ha:PT X a tA)(hb:PW X (.BoolOp .And (b::rest) pos) fM):PW X (.BoolOp .And (a::b::rest) pos) (nU tA fM):=by
 intro j pins s σ H Q I h;refine isTrue_and (BM (ha pins s σ H _ I h) λc s1 ⟨g,f,d⟩=>?_);cases c with|true=>exact hb j pins s1 σ g Q f d|false=>exact⟨g,f,d⟩
theorem oT(ha:PT X a tA)(hb:PW X (.BoolOp .Or (b::rest) pos) fM):PW X (.BoolOp .Or (a::b::rest) pos) (tw tA fM):=by
 intro j pins s σ H Q I h;refine isTrue_or (BM (ha pins s σ H _ I h) λc s1 ⟨g,f,d⟩=>?_);cases c with|true=>exact⟨g,f,d⟩|false=>exact hb j pins s1 σ g Q f d
theorem jG(ha:PT X a tA):PT X (.UnaryOp .Not a pos) (nO tA):=by intro pins s σ H Q I h;exact isTrue_not (ha pins s σ H (λc d=>Q (!c) d) I h)
abbrev fN(ta tb:TE):TE:=λσ H Q=>ta σ H λx d=>∃c,x=.bl c/\if c=_t then tb σ d Q else Q (.bl _f) d
abbrev nN(ta tb:TE):TE:=λσ H Q=>ta σ H λx d=>∃c,x=.bl c/\if c=_t then Q (.bl _t) d else tb σ d Q
abbrev fI(ta:TE):TE:=λσ H Q=>ta σ H λx d=>∃c,x=.bl c/\Q (.bl (!c)) d
theorem jX{op}{t:TE}(h:PE X a t):PE X (.BoolOp op [a] pos) t:=λpins s σ H Q I c=>BoolOp_one (h pins s σ H Q I c)
theorem je(ha:PE X a ta)(hb:PE X (.BoolOp .And (b::rest) pos) tb):PE X (.BoolOp .And (a::b::rest) pos) (fN ta tb):=by
 intro pins s σ H Q I h;refine BoolOp_and (BM (ha pins s σ H _ I h) λv s1 ⟨x,g,f,j,d⟩=>?_);obtain⟨c,rfl,d⟩:=d;cases j;refine T6 ?_;cases c with|true=>exact hb pins s1 σ g Q f d|false=>exact⟨.bl _f,g,f,rfl,d⟩
theorem oZ(ha:PE X a ta)(hb:PE X (.BoolOp .Or (b::rest) pos) tb):PE X (.BoolOp .Or (a::b::rest) pos) (nN ta tb):=by
 intro pins s σ H Q I h;refine BoolOp_or (BM (ha pins s σ H _ I h) λv s1 ⟨x,g,f,j,d⟩=>?_);obtain⟨c,rfl,d⟩:=d;cases j;refine T6 ?_;cases c with|false=>exact hb pins s1 σ g Q f d|true=>exact⟨.bl _t,g,f,rfl,d⟩
theorem jY(ha:PE X a ta):PE X (.UnaryOp .Not a pos) (fI ta):=by intro pins s σ H Q I h;refine UnaryOp_ (BM (ha pins s σ H _ I h) λv s1 ⟨x,j,g,f,d⟩=>?_);obtain⟨c,rfl,d⟩:=d;cases f;exact not_of (T6 ⟨.bl (!c),j,g,rfl,d⟩)
abbrev uA(t:TT)(ta tb:TE):TE:=λσ H Q=>t σ H λc d=>if c=_t then ta σ d Q else tb σ d Q
theorem XY{c:Expr}(k:PT X c tA)(ha:PE X a ta)(hb:PE X b tb):PE X (.IfExp c a b pos) (uA tA ta tb):=by
 intro pins s σ H Q I h;refine wpAny_IfExp (BM (k pins s σ H _ I h) λd s1 ⟨j,g,f⟩=>?_);cases d with|true=>exact ha pins s1 σ j Q g f|false=>exact hb pins s1 σ j Q g f
end
def Dl(K:W.Frag)(H:Hp)(a:B8)(xs:List V):Prop:=
 Rd H a (.lst xs) \/
  ∃(o:Obj)(c:Array _v)(n:Nat),K.lookup a=_s o/\o.cls=.type "list" /\ o.dict=_n/\o.data=.seq c n/\c.size<=sizeLine/\AG xs c.toList
def Fo(K:W.Frag)(H:Hp)(a:B8)(xs:List V):Prop:=
 Rd H a (.tup xs) \/
  ∃(o:Obj)(c:Array _v)(n:Nat),K.lookup a=_s o/\o.cls=.type "tuple" /\ o.data=.seq c n/\c.size<=sizeLine/\AG xs c.toList
noncomputable def tN:_v->Option V
 |.none=>_s .non
 |.bool b=>_s (.bl b)
 |.int i _=>_s (.int i)
 |.str x _=>_s (.str x)
 |.bytes b _=>_s (.byt b)
 |.float b _=>_s (.flt b)
 |.ref a=>_s (.ref a)
 |.type n=>_s (.ty n)
 |_=>_n
theorem RelV.abs{x:V}(r:RelV x u):tN u=_s x:=by
 cases x with|non=>cases r;rfl|bl _=>cases r;rfl|int _=>obtain⟨t,rfl⟩:=r;rfl|str _=>obtain⟨t,rfl⟩:=r;rfl|byt _=>obtain⟨t,rfl⟩:=r;rfl|flt _=>obtain⟨t,rfl⟩:=r;rfl|ref _=>cases r;rfl|ty _=>cases r;rfl
theorem RelV.inj{x y:V}(r:RelV x u)(q:RelV y u):x=y:=C5 (r.abs.symm.trans q.abs)
theorem AG.inj:∀{xs ys:List V}{us:List _v},AG xs us->AG ys us->xs=ys
 |_,_,_,.nil,.nil=>rfl
 |_,_,_,.cons r t,.cons c t'=>by rw[r.inj c,AG.inj t t']
section
variable{X:Cx}{pins:List (B8×Obj)}{σ:St}{H:Hp}{s:A7}{a:B8}{xs ys:List V}
theorem Inv.list(I:Inv X pins σ H s)(h:Dl X.K H a xs):∃c:List _v,AG xs c/\PlainL s.heap a c.toArray/\xs.length<=sizeLine:=by
 rcases h with h|⟨o,c,n,d,f,hd,hs,hz,r⟩
 obtain⟨z,c,n,r,e⟩:=h.ok I.hok;exact⟨c,r,⟨_,n,e,rfl,rfl,rfl⟩,z⟩;refine⟨c.toList,r,⟨o,n,I.kIn a o d,f,hd,by simpa using hs⟩,?_⟩;have e:=r.length;simp only[H9]at e;omega
theorem Inv.tuple(I:Inv X pins σ H s)(h:Fo X.K H a xs):∃c:List _v,AG xs c/\IsTup s.heap a c.toArray/\xs.length<=sizeLine:=by
 rcases h with h|⟨o,c,n,d,f,hs,hz,r⟩
 obtain⟨z,c,r,p⟩:=h.ok I.hok;exact⟨c,r,p.tup,z⟩;refine⟨c.toList,r,⟨o,I.kIn a o d,f,n,by simpa using hs⟩,?_⟩;have e:=r.length;simp only[H9]at e;omega
theorem Inv.zBb(I:Inv X pins σ H s)(h:Dl X.K H a xs)(h':Dl X.K H a ys):xs=ys:=by
 obtain⟨c,r,⟨o,n,e,_,_,d⟩,_⟩:=I.list h;obtain⟨its',g,⟨o',k,f,_,_,d'⟩,_⟩:=I.list h';rw[e]at f;cases f;rw[d]at d';injection d' with j _
 have:c=its':=by simpa using congrArg zx j
 subst this;exact r.inj g
theorem Inv.zBE(I:Inv X pins σ H s)(h:Fo X.K H a xs)(h':Fo X.K H a ys):xs=ys:=by
 obtain⟨c,r,⟨o,e,_,n,d⟩,_⟩:=I.tuple h;obtain⟨its',g,⟨o',f,_,k,d'⟩,_⟩:=I.tuple h';rw[e]at f;cases f;rw[d]at d';injection d' with j _
 have:c=its':=by simpa using congrArg zx j
 subst this;exact r.inj g
end
noncomputable abbrev Cx.zBg(X:Cx)(E:_v->A7->Prop):Cx:={X with xe:=E}
noncomputable abbrev Cx.nox(X:Cx):Cx:=X.zBg λ_ _=>False
theorem Cx.Ok.zBg(ok:X.Ok)(E:_v->A7->Prop):(X.zBg E).Ok:=
 ⟨ok.mod,ok.kind,ok.glob,ok.blt,ok.above,ok.inj,ok.has,ok.cab,ok.hd,ok.frames,ok.stk,ok.exf,ok.bs,ok.bsz,ok.zCm,ok.zDK,ok.zBK,ok.frf⟩
theorem Cx.Ok.zAm(ok:(X.zBg E).Ok):X.Ok:=
 ⟨ok.mod,ok.kind,ok.glob,ok.blt,ok.above,ok.inj,ok.has,ok.cab,ok.hd,ok.frames,ok.stk,ok.exf,ok.bs,ok.bsz,ok.zCm,ok.zDK,ok.zBK,ok.frf⟩
section
variable{X:Cx}{pins:List (B8×Obj)}{σ:St}{H:Hp}{s:A7}{E:_v->A7->Prop}
theorem Inv.zBg(I:Inv X pins σ H s)(E:_v->A7->Prop):Inv (X.zBg E) pins σ H s:=⟨I.ok.zBg E,I.os,I.bare,I.base,I.loc,I.cell,I.free,I.zAl,I.pin,I.hok,I.len⟩
theorem Inv.zAm(I:Inv (X.zBg E) pins σ H s):Inv X pins σ H s:=⟨I.ok.zAm,I.os,I.bare,I.base,I.loc,I.cell,I.free,I.zAl,I.pin,I.hok,I.len⟩
theorem SP.zAm{D:Ends}{f:Flow}{s':A7}(h:SP (X.zBg E) pins D f s'):SP X pins D f s':=by
 cases f with|next=>obtain⟨σ',H',I,q⟩:=h;exact⟨σ',H',I.zAm,q⟩|brk=>obtain⟨σ',H',I,q⟩:=h;exact⟨σ',H',I.zAm,q⟩|cont=>obtain⟨σ',H',I,q⟩:=h;exact⟨σ',H',I.zAm,q⟩|ret u=>obtain⟨v,σ',H',I,r,q⟩:=h;exact⟨v,σ',H',I.zAm,r,q⟩
theorem FR.nox{st:List N4}{t:TS}(h:FR X.nox st t):FR X st t:=λpins s σ H D I hw =>
 R0 (h pins s σ H D (I.zBg _) hw) (λ_ _ q=>q.zAm) λ_ _ z=>E7 z
end
section
variable{X:Cx}{st:N4}{rest:List N4}{t u:TS}{e:Expr}{te:TE}{pos:Pos}
abbrev WL:TS:=λD σ H=>D.nx σ H
abbrev sL(t u:TS):TS:=λD σ H=>t {D with nx:=u D} σ H
theorem bX:FR X [] WL:=λ_ _ σ H _ I h=>m8 ⟨σ,H,I,h⟩
theorem ON(h1:PS X st t)(h2:FR X rest u):FR X (st::rest) (sL t u):=by
 intro pins s σ H D I h;refine yg (BM (h1 pins s σ H {D with nx:=u D} I h) λf s1 q=>?_);cases f with|next=>obtain⟨σ',H',c,q⟩:=q;exact h2 pins s1 σ' H' D c q|ret v=>exact q|brk=>exact q|cont=>exact q
theorem bW(h1:PS X st t):FR X [st] t:=by
 intro pins s σ H D I h;refine yg (BM (h1 pins s σ H D I h) λf s1 q=>?_);cases f with|next=>exact m8 q|ret v=>exact q|brk=>exact q|cont=>exact q
abbrev nT:TS:=λD σ H=>D.ct σ H
theorem bY:PS X (.Pass pos) WL:=λ_ _ σ H _ I h=>wpAny_Pass ⟨σ,H,I,h⟩
theorem OP:PS X (.Continue pos) nT:=λ_ _ σ H _ I h=>wpAny_Continue ⟨σ,H,I,h⟩
theorem Inv.quiet(I:Inv X pins σ H s):interactive X.env=false:=by simp[interactive,I.ok.kind]
theorem jL{x j pos pos'}:PS X (.Expr (.Constant (.str x) j pos) pos') WL:=λ_ s σ H _ I h=>wpAny_Expr (xf (show SP X _ _ .next {s with toks:=s.toks+1}from⟨σ,H,I.tok _,h⟩)) I.quiet
abbrev nS(te:TE):TS:=λD σ H=>te σ H λ_ c=>D.nx σ c
theorem bZ(he:PE X e te)(hs:U3 e _n pos.line X.env=pure false:=by rfl):PS X (.Expr e pos) (nS te):=by intro pins s σ H D I h;exact wpAny_Expr_any (BM (he pins s σ H _ I h) λv s1 ⟨x,f,d,g,c⟩=>⟨σ,f,d,c⟩) I.quiet hs
abbrev sM(te:TE):TS:=λD σ H=>te σ H D.rt
theorem jI(he:PE X e te):PS X (.Return (_s e) pos) (sM te):=by intro pins s σ H D I h;exact wpAny_Return_some (BM (he pins s σ H _ I h) λv s1 ⟨x,g,f,c,d⟩=>⟨x,σ,g,f,c,d⟩)
abbrev sO(c:TT)(t u:TS):TS:=λD σ H=>c σ H λb d=>if b=_t then t D σ d else u D σ d
theorem oV{c:Expr}{a b:List N4}{f:TT}(l:PT X c f)(ha:FR X a t)(hb:FR X b u):PS X (.If c a b pos) (sO f t u):=by
 intro pins s σ H D I h;refine wpAny_If (BM (l pins s σ H _ I h) λd s1 ⟨k,j,g⟩=>?_);cases d with|true=>exact ha pins s1 σ k D j g|false=>exact hb pins s1 σ k D j g
end
abbrev TG:=V->St->Hp->(St->Hp->Prop)->Prop
abbrev NX:=List V->St->Hp->(St->Hp->Prop)->Prop
def PG(X:Cx)(c:Expr)(t:TG):Prop:=
 ∀(pins:List (B8×Obj))(s:A7)(σ:St)(H:Hp)(v:V)(u:_v)(Q:St->Hp->Prop),Inv X pins σ H s->RelV v u->t v σ H Q ->
  C8 (D9 X.prog X.w) X.A (Y8 c X.env u) (λ_ s'=>∃σ' H',Inv X pins σ' H' s'/\Q σ' H') X.xe s
def mV(X:Cx)(ts:List Expr)(t:NX):Prop:=
 ∀(pins:List (B8×Obj))(s:A7)(σ:St)(H:Hp)(vs:List V)(us:List _v)(Q:St->Hp->Prop),Inv X pins σ H s->AG vs us->t vs σ H Q ->
  C8 (D9 X.prog X.w) X.A (vg ((N3 ts X.env).map (·.2)) us) (λ_ s'=>∃σ' H',Inv X pins σ' H' s'/\Q σ' H') X.xe s
abbrev NW:=V->V->V->Hp->(Hp->Prop)->Prop
def Kv(X:Cx)(t:NW):Prop:=
 ∀(pins:List (B8×Obj))(s:A7)(σ:St)(H:Hp)(o i v:V)(c d u:_v)(Q:Hp->Prop),Inv X pins σ H s->RelV o c->RelV i d->RelV v u->t o i v H Q ->
  C8 (D9 X.prog X.w) X.A (zG c d u) (λ_ s'=>∃H',Inv X pins σ H' s'/\Q H') X.xe s
variable{tg:Expr}
section
variable{X:Cx}{pos:Pos}
abbrev DY(i:Nat):TG:=λv σ H Q=>Q (σ.set i (_s v)) H
theorem bx(d:X.N.Nodup)(hi:X.N[i]?=_s x)(c:Loc X.env.scope x)(hf:X.fn x=_t\/X.env.scope.names.lookup x=_s .local:=by first|exact .inl rfl|exact .inr rfl|assumption):PG X (.Name x pos) (DY i):=by intro pins s σ H v u Q I r h;exact yD (GX I d hi c r (λs' f=>⟨_,H,f,h⟩) hf)
abbrev Oo:NX:=λvs σ H Q=>vs=[]/\Q σ H
abbrev Dz(t:TG)(u:NX):NX:=λvs σ H Q=>∃v r,vs=v::r/\t v σ H λσ' H'=>u r σ' H' Q
theorem Se:mV X [] Oo:=by intro pins s σ H vs us Q I r h;obtain⟨e,h⟩:=h;subst e;cases r;exact yE ⟨σ,H,I,h⟩
theorem Jj{es:List Expr}{t:TG}{u:NX}(h1:PG X e t)(h2:mV X es u)
    (hs:(N3 (e::es) X.env).map (·.2)=Y8 e X.env::(N3 es X.env).map (·.2):=by rfl):mV X (e::es) (Dz t u):=by
  intro pins s σ H vs us Q I r h;obtain⟨v,l,g,h⟩:=h;subst g;cases r with|cons r d=>rw[hs];refine vA (BM (h1 pins s σ H _ _ _ I r h) λ_ s1 ⟨c,k,j,f⟩=>?_);exact h2 pins s1 c k _ _ Q j d f
abbrev lA(K:W.Frag)(n:Nat)(t:NX):TG:=λv σ H Q=>∃a xs,v=.ref a/\Fo K H a xs/\xs.length=n/\t xs σ H Q
theorem XQ{es:List Expr}{k:Nat}{t:NX}{n:Nat}(p:X.calm=_t)(h:mV X es t)
    (m:(N3 es X.env).length=n:=by rfl) (d:(N3 es X.env).findIdx? (·.1)=none:=by rfl):PG X (.Tuple es k pos) (lA X.K n t):=by
  intro pins s σ H v u Q I r c;obtain⟨a,xs,q,l,hl,c⟩:=c;subst q;cases r;obtain⟨f,rv,j,hz⟩:=I.tuple l;refine assign_Tuple_tuple (I.ok.hd p) j (by simp[m,<- hl,rv.length]) d λh' g=>?_;have y:Inv X pins σ H {s with heap:=h' }:=I.kept (t':=s.toks) λb o e=>g b o (E5 (D5 e)) e;exact h pins _ σ H xs _ Q y (by simpa using rv) c
abbrev lB(to ti:TE)(t:NW):TG:=λv σ H Q=>to σ H λo f=>ti σ f λi d=>t o i v d λc=>Q σ c
theorem XR{o i:Expr}{to ti:TE}{t:NW}(m:PE X o to)(hi:PE X i ti)(hs:Kv X t)
    (ha:∀v,Y8 (.Subscript o i pos) X.env v=(do
      let c <- p8 [v] (N2 o X.env)
      let d <- p8 [v,c] (N2 i X.env)
      yF pos
      p8 [v,c,d] (zG c d v)
      release [v,c,d] []):=by intro _;rfl):PG X (.Subscript o i pos) (lB to ti t):=by
  intro pins s σ H v u Q I r h;rw[ha];refine A1 (J0 (BM (m pins s σ H _ I h) λc s1 ⟨x,C,q,g,l⟩=>?_));refine A1 (J0 (BM (hi pins s1 σ C _ q l) λd s2 ⟨y,B,p,f,k⟩=>?_));refine A1 (k4 (A1 (J0 (BM (hs pins s2 σ B x y v c d u _ p g f r k) λ_ D ⟨z,n,j⟩=>?_))));exact wpAny_release ⟨σ,z,n,j⟩
abbrev Kk(te:TE)(g:TG):TS:=λD σ H=>te σ H λx c=>g x σ c D.nx
theorem Qf{te:TE}{g:TG}(he:PE X e te)(j:PG X tg g)(hs:k7 [tg] e pos.line X.env=pure false:=by rfl)(f:U0 [tg] e X.env=pure none:=by rfl)
    (h1:(N3 [tg] X.env).map (·.2)=[Y8 tg X.env]:=by rfl):PS X (.Assign [tg] e pos) (Kk te g):=by
  intro pins s σ H D I h;refine wpAny_Assign_stores (BM (he pins s σ H _ I h) λv s1 ⟨x,l,k,c,d⟩=>?_) hs f;rw[h1];exact BM (j pins s1 σ l x v _ k c d) λ_ s2 q=>q
theorem jH{te:TE}{c:Pos}(j:X.N.Nodup)(hi:X.N[i]?=_s x)(g:Loc X.env.scope x)(he:PE X e te)(hs:U3 e (_s (.Name x c)) pos.line X.env=pure false:=by rfl)(hf:X.fn x=_t\/X.env.scope.names.lookup x=_s .local:=by first|exact .inl rfl|exact .inr rfl|assumption) :
    PS X (.Assign [.Name x c] e pos) (Kk te (DY i)):=by
  intro pins s σ H D I h;refine wpAny_Assign_Name (BM (he pins s σ H _ I h) λv s1 ⟨y,m,l,d,f⟩=>?_) hs;exact GX l j hi g d (λs2 k=>⟨_,m,k,f⟩) hf
abbrev sN(i j:Nat)(ta:TA):TS:=λD σ H=>ta σ H λvs c=>∃v w,vs=[v,w]/\D.nx ((σ.set i (_s v)).set j (_s w)) c
theorem jJ{j:Nat}{y:Str}{a b:Expr}{ta:TA}{l k pt:Pos}{kt k2 pt2}(O:X.calm=_t)(z:X.N.Nodup)(hi:X.N[i]?=_s x)(L:X.N[j]?=_s y)(n:i≠j)
    (t:X.env.scope.names.lookup x=_s .local) (r:X.env.scope.names.lookup y=_s .local) (ha:PA X [a,b] ta)
    (K:U0 [.Tuple [.Name x l,.Name y k] kt pt] (.Tuple [a,b] k2 pt2) X.env=pure (_s [x,y]))
    (hs:k7 [.Tuple [.Name x l,.Name y k] kt pt] (.Tuple [a,b] k2 pt2) pos.line X.env=pure false:=by rfl) :
    PS X (.Assign [.Tuple [.Name x l,.Name y k] kt pt] (.Tuple [a,b] k2 pt2) pos) (sN i j ta):=by
  intro pins s σ H D I h;rw[exec_Assign_arm];refine A1 (k4 ?_);rw[hs];refine A1 (A6 ?_);rw[if_neg `d];refine A1 (Tuple_ (BM (ha _ pins s σ H _ I h) λus s1 ⟨vs,C,U,F,g⟩=>?_));obtain⟨v,w,Q,g⟩:=g;subst Q;obtain⟨d,c,rfl,rv,f⟩:∃d c,us=[d,c]/\RelV v d/\RelV w c:=by
    cases F with
    |cons p q=>
      cases q with|cons J G=>cases G;exact⟨_,_,rfl,p,J⟩
  refine J4 ?_ (by show 2<=sizeLine;decide);have T:Inv X pins σ C {s1 with heap:=s1.heap.push {cls:=.type "tuple", data:=.seq [d,c].toArray} }:=U.kept (t':=s1.toks) λb o e=>A5 _ e;rw[K];refine A1 (A6 ?_);show C8 (D9 X.prog X.w) X.A (do rule "assign.swapped-stores"; let items <- yu (.ref s1.heap.objs.size) 2 _n;vg [λv=>zN X.env y v,λv=>zN X.env x v] items.reverse;pure Flow.next) _ _ _;refine A1 (W6 (A1 (unpackItems_tuple (items:=#[d,c]) (I.ok.hd O) (IsTup.new s1.heap _) λh' m=>?_)));have S:=T.kept (h':=h') (t':=s1.toks) λb o e=>m b o (E5 (D5 e)) e;show C8 _ _ (vg [λv=>zN X.env y v,λv=>zN X.env x v] [c,d] >>= λ_=>pure Flow.next) _ _ _;refine A1 (vA (wpAny_bindName (GX S z L (.inl r) f (λs2 R=>?_) (.inr r))));refine vA (wpAny_bindName (GX R z hi (.inl t) rv (λV B=>yE (A6 ?_)) (.inr t)));rw[List.set_comm _ _ (Ne.symm n)]at B;exact⟨_,C,B,g⟩
end
variable{body:List N4}
section
variable{X:Cx}{pos:Pos}
def WK(c:TT)(tb:TS):TS:=λD σ H=>∃W:Nat->St->Hp->Prop,(∃m,W m σ H)/\∀m σ H,W m σ H ->
 c σ H λb d=>if b=_t then ∃N:St->Hp->Prop,(∀σ' H',N σ' H'->∃m',m' < m/\W m' σ' H')/\tb {D with nx:=N,ct:=N,bk:=D.nx} σ d else D.nx σ d
theorem Wz{c:Expr}{t:TT}{tb:TS}(y:u3 (D9 X.prog X.w) X.A X.env X.xe)(L:PT X c t)(hb:FR X body tb):PS X (.While c body [] pos) (WK t tb):=by
 intro pins s σ H D I h;obtain⟨W,⟨K,J⟩,j⟩:=h;refine wpAny_While (codeAny_whileLoop (λn s'=>∃σ' H',Inv X pins σ' H' s'/\W n σ' H') ?_ K ⟨σ,H,I,J⟩);rintro n s1 ⟨g,F,O,G⟩;refine T3 y (BM (L pins s1 g F _ O (j n g F G)) λb s2 ⟨C,B,m⟩=>?_);cases b with
 |true=>
  obtain⟨N,z,m⟩:=m;rw[if_pos rfl];refine T3 y (BM (hb pins s2 g C _ B m) λf Q l=>?_);cases f with|next=>obtain⟨d,k,r,q⟩:=l;obtain⟨m',hm,p⟩:=z d k q;exact⟨m',hm,d,k,r,p⟩|cont=>obtain⟨d,k,r,q⟩:=l;obtain⟨m',hm,p⟩:=z d k q;exact⟨m',hm,d,k,r,p⟩|brk=>exact l|ret v=>exact l
 |false=>rw[if_neg D2];exact m8 ⟨g,C,B,m⟩
end
structure It where
 go:Nat->Hp->Prop
 yld:Nat->Hp->V->Hp->Prop
 stop:Nat->Hp->Prop
def zAS(X:Cx)(pins:List (B8×Obj))(H:Hp)(b:B8):Prop:=
 H b=_n/\b≠X.env.locals/\b∉X.fs/\(b∈X.ex\/X.zAZ.heap.objs.size<=b)/\(∀x c,X.env.cells.lookup x=_s c->c≠b)/\∀p∈X.pn++pins,p.1≠b
theorem Inv.zAR{H':Hp}(I:Inv X pins σ H s)(hb:s.heap.objs.size<=b)(f:H' b=_n):zAS X pins H' b:=by refine⟨f,wO (C6 I.lt hb),I.zEj hb,.inr (A8 I.sz hb),λx c e z=>?_,λp d z=>?_⟩;obtain⟨v,q⟩:=I.cell x c e;exact absurd (C6 q.lt (by rw[z];exact hb)) (V7 _);exact absurd (C6 (D5 (I.pin p d).1) (by rw[z];exact hb)) (V7 _)
structure Turn (P:F9) (w:J5) (K:W.Frag) (tg:Expr) (J:It) (fp:List B8) (it:B8) (tn:Nat->K4->Prop):Prop where
 mem:it∈fp
 obj:∀i h,tn i h->∀b∈fp,∃o,h.get? b=_s o/\∀v,o.data≠.cell v
 keep:∀i h h',tn i h->(∀b∈fp,∀o,h.get? b=_s o->h'.get? b=_s o)->tn i h'
 item:∀(X:Cx),X.prog=P->X.w=w->X.K=K->X.calm=_t->∀(i:Nat)(pins:List (B8×Obj))(s:A7)(σ:St)(H:Hp)(E:_v->A7->Prop),Inv X pins σ H s->(∀b∈fp,zAS X pins H b)->tn i s.heap->J.go i H ->
  C8 (D9 P w) X.A (wQ (.ref it)) (λr s1=>∃u,r=_s u /\
   C8 (D9 P w) X.A (m9 tg (.ref it) u) (λ_ s2=>∃x H',Inv X pins σ H' s2/\RelV x u/\J.yld i H x H'/\tn (i+1) s2.heap/\∀b∈fp,H' b=_n) E s1) E s
 done:∀(X:Cx),X.prog=P->X.w=w->X.K=K->X.calm=_t->∀(i:Nat)(pins:List (B8×Obj))(s:A7)(σ:St)(H:Hp)(E:_v->A7->Prop),Inv X pins σ H s->(∀b∈fp,zAS X pins H b)->tn i s.heap->J.stop i H ->
  C8 (D9 P w) X.A (wQ (.ref it)) (λr s1=>r=_n/\Inv X pins σ H s1) E s
 self:∀(A:J3)(i:Nat)(s:A7)(Q:_v->A7->Prop)(E:_v->A7->Prop),tn i s.heap->Q (.ref it) s->C8 (D9 P w) A (pyIter (.ref it)) Q E s
abbrev TI:=St->Hp->(It->Hp->Prop)->Prop
def ub(X:Cx)(pins:List (B8×Obj))(σ:St)(tg:Expr)(R:It->Hp->Prop)(c:_v)(s2:A7):Prop:=
 ∃(it:B8)(fp:List B8)(tn:Nat->K4->Prop)(J:It)(H':Hp),c=.ref it/\Inv X pins σ H' s2/\Turn X.prog X.w X.K tg J fp it tn/\tn 0 s2.heap/\(∀b∈fp,zAS X pins H' b)/\R J H'
def PI(X:Cx)(tg iter:Expr)(c:TI):Prop:=
 ∀(pins:List (B8×Obj))(s:A7)(σ:St)(H:Hp)(R:It->Hp->Prop),Inv X pins σ H s->c σ H R ->
  C8 (D9 X.prog X.w) X.A (N2 iter X.env) (λv s1=>C8 (D9 X.prog X.w) X.A (pyIter v) (ub X pins σ tg R) X.xe s1) X.xe s
theorem YW{M:Model}{A:J3}{E:_v->A7->Prop}{tg:Expr}{it:B8}{u:_v}{o:Obj}{n:String}{vs:Array _v}{Q:Unit->A7->Prop}(d:s.heap.get? it=_s o)(g:o.cls=.type n)(hd:o.data=.fields vs)
    (f:["enumerate", "zip", "dict_itemiterator", "dict_reverseitemiterator", "odict_iterator", "itertools.zip_longest", "itertools.pairwise"].contains n=_f) (c:Q () s):C8 M A (m9 tg (.ref it) u) Q E s:=by
  unfold m9;cases tg<;>first
    |exact A6 c
    | (cases u<;>first
        |exact A6 c
        | (refine A1 (wpAny_load d ?_)
           rw[g,hd];show C8 M A (if(["enumerate", "zip", "dict_itemiterator", "dict_reverseitemiterator", "odict_iterator", "itertools.zip_longest", "itertools.pairwise"].contains n&&vs[0]?==_s (i7 _))=_t then _ else _) Q E s;rw[if_neg (by intro h;rw[f,Bool.false_and]at h;cases h)];exact A6 c))
noncomputable def sE(K:W.Frag)(a:B8):It:=
 ⟨λi H=>∃xs x,Dl K H a xs/\xs[i]?=_s x,λi H x H'=>H'=H/\∀xs,Dl K H a xs->xs[i]?=_s x,λi H=>∃xs,Dl K H a xs/\xs.length<=i⟩
noncomputable def tV(K:W.Frag)(a:B8):It:=
 ⟨λi H=>∃xs x,Fo K H a xs/\xs[i]?=_s x,λi H x H'=>H'=H/\∀xs,Fo K H a xs->xs[i]?=_s x,λi H=>∃xs,Fo K H a xs/\xs.length<=i⟩
noncomputable def mY(lo:Int)(n:Nat):It:=⟨λi _=>i < n,λi H x H'=>H'=H/\x=.int (lo+i),λi _=>n<=i⟩
theorem UB{K:W.Frag}(a it:B8):Turn P w K tg (sE K a) [it] it (λi h=>h.IsListIter it a i) where
 mem:=by simp
 obj:=λi h st b hb=>by
  have e:b=it:=by simpa using hb
  subst e;obtain⟨o,e,c,d⟩:=st;exact⟨o,e,λv z=>by rw[d]at z;cases z⟩
 keep:=λi h h' st k=>st.at λo e=>k it `s o e
 item:=by intro X q m r D i pins s σ H E I hf st n;subst q m r;obtain⟨xs,x,g,l⟩:=n;obtain⟨j,rv,p,hz⟩:=I.list g;obtain⟨u,L,G⟩:=rv.get l;obtain⟨f0,C,f2,B,y,t⟩:=hf it `s;refine wR st p.isList (x:=u) (by simpa using L) λh' f F=>?_;have N:Inv X pins σ H {s with heap:=h' }:=I.turned (t':=s.toks) (λb o hb e=>(F.2 b hb).trans e) f0 C B y t;obtain⟨o,e,c,d⟩:=id f;exact⟨u,rfl,YW (s:={s with heap:=h' }) e c d `d ⟨x,H,N,G,⟨rfl,λys J=>by rw[I.zBb J g];exact l⟩,f,λb hb=>(hf b hb).1⟩⟩
 done:=by intro X q m r D i pins s σ H E I hf st n;subst q m r;obtain⟨xs,g,l⟩:=n;obtain⟨j,rv,p,hz⟩:=I.list g;obtain⟨f0,C,f2,B,y,t⟩:=hf it `s;have hl:=rv.length;exact wz (I.ok.hd D) st p.isList `w λh' eb=>⟨rfl,I.turned (t':=s.toks) (λb o hb e=>eb b o hb e) f0 C B y t⟩
 self:=λ_ _ _ _ _ st h=>wpAny_pyIter_listiter st h
theorem QL{K:W.Frag}(a it:B8):Turn P w K tg (tV K a) [it] it (λi h=>h.IsTupleIter it a i) where
 mem:=by simp
 obj:=λi h st b hb=>by
  have e:b=it:=by simpa using hb
  subst e;obtain⟨o,e,c,d⟩:=st;exact⟨o,e,λv z=>by rw[d]at z;cases z⟩
 keep:=λi h h' st k=>st.at λo e=>k it `s o e
 item:=by intro X q m r D i pins s σ H E I hf st n;subst q m r;obtain⟨xs,x,j,l⟩:=n;obtain⟨f,rv,p,hz⟩:=I.tuple j;obtain⟨u,L,G⟩:=rv.get l;obtain⟨f0,C,f2,B,y,t⟩:=hf it `s;refine wpAny_pyNext_tuple_item st (show s.heap.IsTuple a f.toArray from p) (x:=u) (by simpa using L) λh' g F=>?_;have N:Inv X pins σ H {s with heap:=h' }:=I.turned (t':=s.toks) (λb o hb e=>(F.2 b hb).trans e) f0 C B y t;obtain⟨o,e,c,d⟩:=id g;exact⟨u,rfl,YW (s:={s with heap:=h' }) e c d `d ⟨x,H,N,G,⟨rfl,λys J=>by rw[I.zBE J j];exact l⟩,g,λb hb=>(hf b hb).1⟩⟩
 done:=by intro X q m r D i pins s σ H E I hf st n;subst q m r;obtain⟨xs,j,l⟩:=n;obtain⟨f,rv,p,hz⟩:=I.tuple j;obtain⟨f0,C,f2,B,y,t⟩:=hf it `s;have hl:=rv.length;exact wpAny_pyNext_tuple_end (I.ok.hd D) st (show s.heap.IsTuple a f.toArray from p) `w λh' eb=>⟨rfl,I.turned (t':=s.toks) (λb o hb e=>eb b o hb e) f0 C B y t⟩
 self:=λ_ _ _ _ _ st h=>wpAny_pyIter_tupleiter st h
theorem QM{K:W.Frag}(it:B8)(lo:Int)(n:Nat):Turn P w K tg (mY lo n) [it] it (λi h=>IsRangeIter h it (lo+(i:Nat) * 1) ((n:Int)-(i:Nat)) 1) where
 mem:=by simp
 obj:=λi h st b hb=>by
  have e:b=it:=by simpa using hb
  subst e;exact⟨_,st,λv z=>by have B:Data.fields _=Data.cell v:=z;cases B⟩
 keep:=λi h h' st k=>k it `s _ st
 item:=by intro X j d l g i pins s σ H E I hf st f;subst j d l;obtain⟨f0,r,f2,q,p,m⟩:=hf it `s;have W:=Walks.range (prog:=X.prog) (w:=X.w) (I.ok.hd g) it lo 1 n;refine W.item i s _ _ f st λv h' y hv c kk=>?_;obtain⟨t,rfl⟩:=hv;have C:Inv X pins σ H {s with heap:=h',toks:=y}:=I.turned (λb o hb e=>kk b o (by simpa using hb) e) f0 r q p m;refine⟨_,rfl,YW (s:={s with heap:=h',toks:=y}) (n := "range_iterator") c rfl rfl `d ⟨.int (lo+i),H,C,⟨t,?_⟩,⟨rfl,rfl⟩,c,λb hb=>(hf b hb).1⟩⟩;rw[Int.mul_one]
 done:=by intro X j d l g i pins s σ H E I hf st f;subst j d l;obtain⟨f0,r,f2,q,p,m⟩:=hf it `s;exact wpAny_pyNext_range_end (I.ok.hd g) st (by have:n<=i:=f;omega) λh' eb=>⟨rfl,I.turned (t':=s.toks) (λb o hb e=>eb b o hb e) f0 r q p m⟩
 self:=λ_ _ _ _ _ st h=>wpAny_pyIter_rangeiter st h
section
variable{X:Cx}{tg:Expr}
theorem OH{R:It->Hp->Prop}{E:_v->A7->Prop}{lo hi:Int}{t u v:Tok}{c:Nat}(I:Inv X pins σ H s)(h1:-(2 ^ 62)<=lo)(h2:lo < 2 ^ 62)(h3:-(2 ^ 62)<=hi)(h4:hi < 2 ^ 62)
    (q:R (mY lo (hi-lo).toNat) H):C8 (D9 X.prog X.w) X.A (pyIter (.ref s.heap.objs.size)) (ub X pins σ tg R) E {s with heap:=s.heap.push {cls:=.type "range", data:=.fields #[.int lo t,.int hi u,.int 1 v]},toks:=c}:=by
  refine wpAny_pyIter_range (zAE ..) (small_one h1 h2 h3 h4) ?_;have d:Inv X pins σ H {s with heap:=s.heap.push {cls:=.type "range", data:=.fields #[.int lo t,.int hi u,.int 1 v]},toks:=c}:=I.kept λb o e=>A5 _ e;refine⟨(s.heap.push {cls:=.type "range", data:=.fields #[.int lo t,.int hi u,.int 1 v]}).objs.size,[(s.heap.push {cls:=.type "range", data:=.fields #[.int lo t,.int hi u,.int 1 v]}).objs.size],_,_,H,rfl,
    d.kept (t':=c) λb o e=>A5 _ e,QM _ lo (hi-lo).toNat,?_,λb hb=>?_,q⟩
  · have g:lo+((0:Nat):Int) * 1=lo:=by simp
    have f:(((hi-lo).toNat:Nat):Int)-((0:Nat):Int)=v9 lo hi 1:=by rw[rangeSize_one];split<;>omega
    show IsRangeIter _ _ (lo+((0:Nat):Int) * 1) ((((hi-lo).toNat:Nat):Int)-((0:Nat):Int)) 1;rw[g,f];exact C9 _ rfl
  have e:b=(s.heap.push {cls:=.type "range", data:=.fields #[.int lo t,.int hi u,.int 1 v]}).objs.size:=by simpa using hb
  subst e;exact d.zAR (B3 _) (d.hok.fresh (B3 _))
abbrev pV(ta:TA):TI:=λσ H R=>ta σ H λvs c=>∃j:Int,vs=[.int j]/\-(2 ^ 62)<=j/\j < 2 ^ 62/\R (mY 0 j.toNat) c
abbrev pU(ta:TA):TI:=λσ H R=>ta σ H λvs c=>∃i j:Int,vs=[.int i,.int j]/\(-(2 ^ 62)<=i/\i < 2 ^ 62/\-(2 ^ 62)<=j/\j < 2 ^ 62)/\R (mY i (j-i).toNat) c
theorem UT{a:Expr}{ta:TA}{p:Pos}(k:Gl X "range")(hm:X.mg "range" = _n)(ha:PA X [a] ta)(hs:E3 [a] X.env=[(_f,N2 a X.env)]:=by rfl):PI X tg (.Call (.Name "range" p) [a] [] pos) (pV ta):=by
 intro pins s σ H R I h;refine Call_ (DQ I k hm zO (G5 (BM (ha pos pins s σ H _ I h) λus s1 ⟨vs,m,l,f,c⟩=>?_) hs rfl));obtain⟨j,e,c,g,q⟩:=c;subst e;cases f with|cons r d=>cases d;obtain⟨t,rfl⟩:=r;exact call_range_1 (OH l `o `o c g (by simpa using q))
theorem US{a b:Expr}{ta:TA}{p pos:Pos}(v:Gl X "range")(hm:X.mg "range" = _n)(ha:PA X [a,b] ta)(hs:E3 [a,b] X.env=[(_f,N2 a X.env),(_f,N2 b X.env)]:=by rfl)(c:E3 [b] X.env=[(_f,N2 b X.env)]:=by rfl) :
    PI X tg (.Call (.Name "range" p) [a,b] [] pos) (pU ta):=by
  intro pins s σ H R I h;refine Call_ (DQ I v hm zO (G5 (BM (ha pos pins s σ H _ I h) λus s1 ⟨vs,z,y,g,f⟩=>?_) (by rw[hs,c]) (by rw[c];rfl)));obtain⟨i,j,e,⟨f,n,m,l⟩,q⟩:=f;subst e;cases g with
  |cons r d=>
    cases d with|cons k d=>cases d;obtain⟨t,rfl⟩:=r;obtain⟨t',rfl⟩:=k;exact call_range_2 (OH y f n m l q)
abbrev sP(d:TI)(g:TG)(tb:TS):TS:=λD σ H=>d σ H λJ j=>∃W:Nat->Nat->St->Hp->Prop,(∃m,W 0 m σ j)/\∀i m σ H,W i m σ H ->
 (J.stop i H/\D.nx σ H)\/(J.go i H/\∃N:St->Hp->Prop,(∀σ' H',N σ' H'->∃m',m' < m/\W (i+1) m' σ' H')/\∀x H',J.yld i H x H'->g x σ H' λc f=>tb {D with nx:=N,ct:=N,bk:=D.nx} c f)
noncomputable def Mc(fp:List B8)(h:K4):List (B8×Obj):=fp.filterMap λb=>(h.get? b).map λo=>(b,o)
theorem Eb{fp:List B8}{o:Obj}(hb:b∈fp)(e:h.get? b=_s o):(b,o)∈Mc fp h:=vB.mpr ⟨b,hb,by rw[e];rfl⟩
theorem UY{fp:List B8}{p:B8×Obj}(c:p∈Mc fp h):p.1∈fp/\h.get? p.1=_s p.2:=by
 obtain⟨b,hb,e⟩:=vB.mp c;cases q:h.get? b with|none=>rw[q]at e;cases e|some o=>rw[q]at e;have d:(b,o)=p:=C5 e;subst d;exact⟨hb,q⟩
theorem Inv.pinned{fp:List B8}(I:Inv X pins σ H s)(hf:∀b∈fp,zAS X pins H b)(g:∀b∈fp,∃o,s.heap.get? b=_s o/\∀v,o.data≠.cell v):Inv X (pins++Mc fp s.heap) σ H s:=
 I.zAp λp f=>(C0.mp f).elim (λz=>I.pin p (B9 _ z)) λz=>by obtain⟨hb,e⟩:=UY z;obtain⟨f0,f1,f2,_⟩:=hf p.1 hb;obtain⟨o,c,d⟩:=g p.1 hb;rw[e]at c;cases c;exact⟨e,f0,f1,f2,d⟩
theorem Inv.zBX{pl:List (B8×Obj)}(I:Inv X (pins++pl) σ H s):Inv X pins σ H s:=I.zAp λp c=>I.pin p (B9 _ (C7 _ c))
theorem XA{iter:Expr}{U:TI}{g:TG}{tb:TS}{pos:Pos}(C:u3 (D9 X.prog X.w) X.A X.env X.xe)(Z:X.calm=_t)(hi:PI X tg iter U)(hg:PG X tg g)(hb:FR X body tb)
    (hs:∀x,Q3 iter X.env x=pure x:=by intro _;rfl):PS X (.For tg iter body [] pos) (sP U g tb):=by
  intro pins s σ H D I h;refine wpAny_For (BM (hi pins s σ H _ I h) λv s1 h1=>BM h1 λitv s2 h2=>?_) hs;obtain⟨it,fp,tn,J,H2,e,I2,T,L,f2,W,⟨m0,w0⟩,y⟩:=h2;subst e
  -- zFV stays _t of the zEL objects through the loop
  have q:∀{H':Hp},(∀b∈fp,H' b=_n)->∀b∈fp,zAS X pins H' b:=λhn b hb=>⟨hn b hb,(f2 b hb).2⟩;refine codeAny_forLoop_any (λn s'=>∃i σ' H',Inv X pins σ' H' s'/\tn i s'.heap/\(∀b∈fp,H' b=_n)/\W i n σ' H') ?_ m0 ⟨0,σ,H2,I2,L,λb hb=>(f2 b hb).1,w0⟩;rintro n Y ⟨i,j,G,I3,z,F,w3⟩;rcases y i n j G w3 with⟨stop,qn⟩|⟨go,N,hN,step⟩
  refine T3 C (BM (T.done X rfl rfl rfl Z i pins Y j G X.xe I3 (q F) z stop) λr s4 ⟨Q,I4⟩=>?_);subst Q;exact m8 ⟨j,G,I4,qn⟩;refine T3 C (BM (T.item X rfl rfl rfl Z i pins Y j G X.xe I3 (q F) z go) λr s4 ⟨u,Q,h4⟩=>?_);subst Q;refine T3 C (BM h4 λ_ V ⟨x,H5,I5,r5,y5,t,R⟩=>?_);have S:=I5.pinned (q R) (T.obj _ _ t);refine T3 C (BM (hg _ V j H5 x u _ S r5 (step x H5 y5)) λ_ s6 ⟨K,H6,I6,q6⟩=>?_);refine T3 C (BM (hb _ s6 K H6 _ I6 q6) λf O p=>?_);have again:∀{c:St}{l:Hp},Inv X (pins++Mc fp V.heap) c l O->N c l->∃m,m < n/\∃i σ' H',Inv X pins σ' H' O/\tn i O.heap/\(∀b∈fp,H' b=_n)/\W i m σ' H':=fun{c l} k B=>by obtain⟨m',hm,w7⟩:=hN c l B;refine⟨m',hm,i+1,c,l,k.zBX,T.keep _ _ _ t λb hb o e=>(k.pin (b,o) (B9 _ (B9 _ (Eb hb e)))).1,λb hb=>?_,w7⟩;obtain⟨o,e,d⟩:=T.obj _ _ t b hb;exact(k.pin (b,o) (B9 _ (B9 _ (Eb hb e)))).2.1
  cases f with|next=>obtain⟨c,l,k,B⟩:=p;exact again k B|cont=>obtain⟨c,l,k,B⟩:=p;exact again k B|brk=>obtain⟨c,l,k,p⟩:=p;exact⟨c,l,k.zBX,p⟩|ret v=>obtain⟨x7,c,l,k,r7,p⟩:=p;exact⟨x7,c,l,k.zBX,r7,p⟩
end
abbrev R2:=V->V->Hp->VK->Prop
def Dk(X:Cx)(f:_v->_v->Sem _v)(r:R2):Prop:=
 ∀(pins:List (B8×Obj))(s:A7)(σ:St)(H:Hp)(x y:V)(v u:_v)(Q:VK),Inv X pins σ H s->RelV x v->RelV y u->r x y H Q ->
  C8 (D9 X.prog X.w) X.A (f v u) (EP X pins σ Q) X.xe s
def tP(X:Cx)(f:_v->Sem _v)(r:V->Hp->VK->Prop):Prop:=
 ∀(pins:List (B8×Obj))(s:A7)(σ:St)(H:Hp)(x:V)(v:_v)(Q:VK),Inv X pins σ H s->RelV x v->r x H Q ->
  C8 (D9 X.prog X.w) X.A (f v) (EP X pins σ Q) X.xe s
def BX(X:Cx)(f:_v)(r:List V->Hp->VK->Prop):Prop:=
 ∀(pins:List (B8×Obj))(s:A7)(σ:St)(H:Hp)(xs:List V)(us:List _v)(Q:VK),Inv X pins σ H s->AG xs us->r xs H Q ->
  C8 (D9 X.prog X.w) X.A (call f us) (EP X pins σ Q) X.xe s
def tQ(X:Cx)(r:V->Hp->(Bool->Hp->Prop)->Prop):Prop:=
 ∀(pins:List (B8×Obj))(s:A7)(σ:St)(H:Hp)(x:V)(v:_v)(Q:Bool->Hp->Prop),Inv X pins σ H s->RelV x v->r x H Q ->
  C8 (D9 X.prog X.w) X.A (truthy v) (TP X pins σ Q) X.xe s
abbrev rP(r:R2)(ta tb:TE):TE:=λσ H Q=>ta σ H λx d=>tb σ d λy c=>r x y c Q
abbrev ue(r:V->Hp->VK->Prop)(ta:TE):TE:=λσ H Q=>ta σ H λx c=>r x c Q
def rI(C:Int->Int->Prop)(g:Int->Int->V):R2:=λx y H Q=>∃i j,x=.int i/\y=.int j/\C i j/\Q (g i j) H
def aQ(g:Int->Int->V):R2:=λx y H Q=>∃i j,x=.int i/\y=.int j/\Q (g i j) H
def rU(g:Int->V):V->Hp->VK->Prop:=λx H Q=>∃i,x=.int i/\Q (g i) H
variable{r:R2}
section
variable{X:Cx}{a b c:Expr}{ta tb tc:TE}{pos:Pos}
theorem mO(ha:PE X a ta)(hb:PE X b tb){R:V->V->Hp->Prop}(I:Inv X pins σ H s)
    (h:ta σ H λx k=>tb σ k λy d=>R x y d) {Q:_v->A7->Prop} {f:_v->_v->Sem _v}
    (hf:∀v u s2 x y d,Inv X pins σ d s2->RelV x v->RelV y u->R x y d->C8 (D9 X.prog X.w) X.A (f v u) Q X.xe s2) :
    C8 (D9 X.prog X.w) X.A (N2 a X.env) (λv j=>C8 (D9 X.prog X.w) X.A (N2 b X.env) (λu g=>C8 (D9 X.prog X.w) X.A (f v u) Q X.xe g) X.xe j) X.xe s:=by
  refine BM (ha pins s σ H _ I h) λv s1 ⟨x,k,t,m,p⟩=>?_;refine BM (hb pins s1 σ k _ t p) λu s2 ⟨y,d,q,l,n⟩=>?_;exact hf v u s2 x y d q m l n
theorem og{op:xF}(g:Dk X (binaryOp op) r)(ha:PE X a ta)(hb:PE X b tb):PE X (.BinOp a op b pos) (rP r ta tb):=by intro pins s σ H Q I h;exact wpAny_BinOp (mO ha hb I h λv u s2 x y k j f d q=>g pins s2 σ k x y v u Q j f d q)
theorem oY{op:UnaryOp}{r:V->Hp->VK->Prop}(g:tP X (unaryOp op) r)(ha:PE X a ta):PE X (.UnaryOp op a pos) (ue r ta):=by intro pins s σ H Q I h;exact UnaryOp_ (BM (ha pins s σ H _ I h) λv s1 ⟨x,k,j,d,f⟩=>g pins s1 σ k x v Q j d f)
theorem rR{f:_v->_v->Sem _v}{C:Int->Int->Prop}{g:Int->Int->Int}
    (rule:∀(i j:Int)(t u:Tok)(s:A7)(Q:_v->A7->Prop)(E:_v->A7->Prop),C i j->Q (.int (g i j) s.toks) {s with toks:=s.toks+1}->C8 (D9 X.prog X.w) X.A (f (.int i t) (.int j u)) Q E s) :
    Dk X f (rI C λi j=>.int (g i j)):=by
  intro pins s σ H x y v u Q I k d h;obtain⟨i,j,rfl,rfl,l,q⟩:=h;obtain⟨t,rfl⟩:=k;obtain⟨t',rfl⟩:=d;exact rule i j t t' s _ _ l ⟨.int (g i j),H,I.tok _,⟨_,rfl⟩,q⟩
theorem ow{f:_v->_v->Sem _v}{g:Int->Int->Int}
    (rule:∀(i j:Int)(t u:Tok)(s:A7)(Q:_v->A7->Prop)(E:_v->A7->Prop),Q (.int (g i j) s.toks) {s with toks:=s.toks+1}->C8 (D9 X.prog X.w) X.A (f (.int i t) (.int j u)) Q E s) :
    Dk X f (aQ λi j=>.int (g i j)):=by
  intro pins s σ H x y v u Q I k d h;obtain⟨i,j,rfl,rfl,q⟩:=h;obtain⟨t,rfl⟩:=k;obtain⟨t',rfl⟩:=d;exact rule i j t t' s _ _ ⟨.int (g i j),H,I.tok _,⟨_,rfl⟩,q⟩
theorem kB{f:_v->_v->Sem _v}{g:Int->Int->Bool}
    (rule:∀(i j:Int)(t u:Tok)(s:A7)(Q:_v->A7->Prop)(E:_v->A7->Prop),Q (.bool (g i j)) s->C8 (D9 X.prog X.w) X.A (f (.int i t) (.int j u)) Q E s) :
    Dk X f (aQ λi j=>.bl (g i j)):=by
  intro pins s σ H x y v u Q I k d h;obtain⟨i,j,rfl,rfl,q⟩:=h;obtain⟨t,rfl⟩:=k;obtain⟨t',rfl⟩:=d;exact rule i j t t' s _ _ ⟨.bl (g i j),H,I,rfl,q⟩
def tX(i j:Int):Prop:=0 < j/\j < 1073741824
def tW(i j:Int):Prop:=0<=j/\j<=1000000/\i.natAbs < 2 ^ 64
def fA(i j:Int):Prop:=(-(2 ^ 64) < i/\i < 2 ^ 64)\/(-(2 ^ 64) < j/\j < 2 ^ 64)
theorem fA.ok{i j:Int}(h:fA i j):IntMulOk i j:=by
 rcases h with⟨h1,h2⟩|⟨h1,h2⟩
 exact .of_left (intBits_le_64 h1 h2);exact .of_right (intBits_le_64 h1 h2)
theorem kA:Dk X (binaryOp .Add) (aQ λi j=>.int (i+j)):=ow λ_ _ _ _ _ _ _ q=>add_int q
theorem jm:Dk X (binaryOp .Sub) (aQ λi j=>.int (i-j)):=ow λ_ _ _ _ _ _ _ q=>sub_int q
theorem ju:Dk X (binaryOp .Mult) (rI fA λi j=>.int (i * j)):=rR λ_ _ _ _ _ _ _ d q=>mul_int q d.ok
theorem cK:Dk X (binaryOp .FloorDiv) (rI tX λi j=>.int (i / j)):=rR λi j _ _ _ _ _ d q=>by have h1:(0:Int) < j:=d.1;have h2:j < 1073741824:=d.2;exact floordiv_int `o (by rw[Int.fdiv_eq_ediv_of_nonneg i `o];exact q) (.inl (PyProof.noPylong_small `o))
theorem jv:Dk X (binaryOp .Mod) (rI (λ_ j=>0 < j) λi j=>.int (i % j)):=rR λi j _ _ _ _ _ d q=>by have h1:(0:Int) < j:=d;exact mod_int' `o (by rw[Int.fmod_eq_emod_of_nonneg i `o];exact q)
theorem jq:Dk X (binaryOp .Pow) (rI tW λi j=>.int (i ^ j.toNat)):=rR λ_ _ _ _ _ _ _ d q=>pow_int_small d.1 d.2.1 d.2.2 q
theorem uc{f:_v->Sem _v}{g:Int->Int}
    (rule:∀(i:Int)(t:Tok)(s:A7)(Q:_v->A7->Prop)(E:_v->A7->Prop),Q (.int (g i) s.toks) {s with toks:=s.toks+1}->C8 (D9 X.prog X.w) X.A (f (.int i t)) Q E s) :
    tP X f (rU λi=>.int (g i)):=by
  intro pins s σ H x v Q I d h;obtain⟨i,rfl,q⟩:=h;obtain⟨t,rfl⟩:=d;exact rule i t s _ _ ⟨.int (g i),H,I.tok _,⟨_,rfl⟩,q⟩
theorem iA:tP X (unaryOp .USub) (rU λi=>.int (-i)):=uc λ_ _ _ _ _ q=>neg_int q
end
variable{f:_v->_v->Sem _v}
section
variable{X:Cx}{a b c:Expr}{ta tb tc:TE}{pos:Pos}
theorem lF{Q:VK}{k d:Bool}(I:Inv X pins σ H s)(q:Q (.bl k) H)(e:k=d):EP X pins σ Q (.bool d) s:=by subst e;exact⟨.bl k,H,I,rfl,q⟩
theorem oq:Dk X (K6 .Lt) (aQ λi j=>.bl (decide (i < j))):=kB λ_ _ _ _ _ _ _ q=>lt_int q
theorem ot:Dk X (K6 .Gt) (aQ λi j=>.bl (decide (j < i))):=kB λ_ _ _ _ _ _ _ q=>gt_int q
theorem ou:Dk X (K6 .GtE) (aQ λi j=>.bl (decide (j<=i))):=kB λ_ _ _ _ _ _ _ q=>ge_int q
theorem UW:Dk X (K6 .In) (λx y H Q=>∃i j,x=.str i/\y=.str j/\Q (.bl (!(Q4 j i 0 j.length 1).isEmpty)) H):=by intro pins s σ H x y v u Q I g d h;obtain⟨i,j,rfl,rfl,q⟩:=h;obtain⟨t,rfl⟩:=g;obtain⟨t',rfl⟩:=d;exact in_str (lF I q rfl)
theorem Dk.or{j:R2}(h:Dk X f r)(h':Dk X f j):Dk X f (λx y H Q=>r x y H Q\/j x y H Q):=by
 intro pins s σ H x y v u Q I g d q;rcases q with q|q
 exact h pins s σ H x y v u Q I g d q;exact h' pins s σ H x y v u Q I g d q
theorem cD{op:zR}(j:Dk X (K6 op) r)(ha:PE X a ta)(hb:PE X b tb)(hm:xX op b=_f):PE X (.Compare a [op] [b] pos) (rP r ta tb):=by intro pins s σ H Q I h;exact wpAny_Compare1 (mO ha hb I h λv u s2 x y l k g d q=>j pins s2 σ l x y v u Q k g d q) hm
abbrev nK(t:TE):TT:=λσ H Q=>t σ H λx H'=>∃k,x=.bl k/\Q k H'
theorem bV{op:zR}(p:Dk X (K6 op) r)(ha:PE X a ta)(hb:PE X b tb)(hm:xX op b=_f):PT X (.Compare a [op] [b] pos) (nK (rP r ta tb)):=by
 intro pins s σ H Q I h;refine wpAny_isTrue_Compare1 (BM (ha pins s σ H _ I h) λv s1 ⟨x,F,B,j,n⟩=>BM (hb pins s1 σ F _ B n) λu s2 ⟨y,D,t,g,m⟩ =>
  BM (p pins s2 σ D x y v u _ t j g m) λc G ⟨z,C,q,d,k,e,l⟩=>?_) hm
 subst e;cases d;exact T6 ⟨C,q,l⟩
def aG(K:W.Frag)(x:V)(H:Hp)(k:Bool):Prop:=
 match x with
 |.non=>k=_f
 |.bl b=>k=b
 |.int i=>k=(i != 0)
 |.str y=>y.length<=sizeLine/\k=((y.length:Int) != 0)
 |.byt y=>y.size<=sizeLine/\k=((y.size:Int) != 0)
 |.ref p=>(∃xs,Dl K H p xs/\k=!xs.isEmpty)\/(∃xs,Fo K H p xs/\k=!xs.isEmpty)\/∃kvs,H p=_s (.dK kvs)/\k=!kvs.isEmpty
 |_=>False
theorem RI{d:Type}{kvs:List (d×V)}{vs:List (d×_v)}(r:KV kvs vs):(!vs.isEmpty)=!kvs.isEmpty:=by cases r<;>rfl
theorem Jx{xs:List V}{d:List _v}(r:AG xs d):(!d.toArray.isEmpty)=!xs.isEmpty:=by cases r<;>simp
theorem Hr:(sizeLine:Nat) < 2 ^ 63:=by rw[T7];decide
theorem iG:tQ X (λx H Q=>∃k,aG X.K x H k/\Q k H):=by
 intro pins s σ H x v Q I j h;obtain⟨k,e,q⟩:=h;have hl:=Hr;have hs:sizeLine=16777216:=T7;cases x with
 |non=>cases j;have d:k=false:=e;subst d;exact truthy_none ⟨H,I,q⟩
 |bl b=>cases j;have d:k=b:=e;subst d;exact T6 ⟨H,I,q⟩
 |int i=>obtain⟨t,rfl⟩:=j;have d:k=(i != 0):=e;subst d;exact PySem.P.truthy_int ⟨H,I,q⟩
 |str y=>obtain⟨t,rfl⟩:=j;obtain⟨z,d⟩:y.length<=sizeLine/\k=((y.length:Int) != 0):=e;subst d;exact PySem.P.truthy_str `o ⟨H,I.tok _,q⟩
 |byt y=>obtain⟨t,rfl⟩:=j;obtain⟨z,d⟩:y.size<=sizeLine/\k=((y.size:Int) != 0):=e;subst d;exact W.truthy_bytes `o ⟨H,I.tok _,q⟩
 |ref p=>
  cases j;have d:(∃xs,Dl X.K H p xs/\k=!xs.isEmpty)\/(∃xs,Fo X.K H p xs/\k=!xs.isEmpty)\/∃kvs,H p=_s (.dK kvs)/\k=!kvs.isEmpty:=e;rcases d with⟨xs,l,d⟩|⟨xs,l,d⟩|⟨kvs,l,d⟩
  subst d;obtain⟨n,r,pl,hz⟩:=I.list l;have g:=r.length;exact wpAny_truthy_list pl.isList (by simp only[B0];omega) ⟨H,I.tok _,by rw[Jx r];exact q⟩;subst d;obtain⟨n,r,pl,hz⟩:=I.tuple l;have g:=r.length;exact truthy_tuple pl (by simp only[B0];omega) ⟨H,I.tok _,by rw[Jx r];exact q⟩;subst d;obtain⟨hz,B,vs,r,m⟩:kvs.length<=sizeLine/\(p==Q9)=_f/\∃vs,KV kvs vs/\s.heap.DictOf (AJ X.prog X.w) p vs:=I.hok p _ l;have g:kvs.length=vs.length:=Paired.length r;exact wpAny_truthy_dict B m `o ⟨H,I.tok _,by rw[RI r];exact q⟩
 |_=>exact(show False from e).elim
theorem Wy(ha:PE X a ta)(he:∀d,isTrue a X.env d=(do let v <- d;yF a.pos;p8 [v] (truthy v))) :
    PT X a (λσ H Q=>ta σ H λx H'=>∃k,aG X.K x H' k/\Q k H'):=by
  intro pins s σ H Q I h;exact isTrue_plain (BM (ha pins s σ H _ I h) λv s1 ⟨x,m,l,g,j⟩=>iG pins s1 σ m x v Q l g j) (he _)
theorem Qn:Dk X (binaryOp .Add) (λx y H Q=>∃i j,x=.str i/\y=.str j/\i.length+j.length<=sizeLine/\Q (.str (i++j)) H):=by intro pins s σ H x y v u Q I g d h;obtain⟨i,j,rfl,rfl,hz,q⟩:=h;obtain⟨t,rfl⟩:=g;obtain⟨t',rfl⟩:=d;exact add_str (λt' k=>⟨.str (i++j),H,I.tok _,⟨_,rfl⟩,q⟩) hz
theorem vals1{x:V}(r:AG [x] us):∃u,us=[u]/\RelV x u:=by
 cases r with|cons g d=>cases d;exact⟨_,rfl,g⟩
theorem fE{x y:V}(r:AG [x,y] us):∃u d,us=[u,d]/\RelV x u/\RelV y d:=by
 cases r with
 |cons l k=>
  cases k with|cons j g=>cases g;exact⟨_,_,rfl,l,j⟩
theorem VW(g:X.calm=_t):BX X (.builtin "max") (λxs H Q=>∃i j,xs=[.int i,.int j]/\Q (.int (if j > i then j else i)) H):=by intro pins s σ H xs us Q I r h;obtain⟨i,j,rfl,q⟩:=h;obtain⟨u,l,rfl,⟨t,rfl⟩,⟨t',rfl⟩⟩:=fE r;refine max_two_ints (I.ok.hd g) λh' m k=>⟨_,H,I.kept k,?_,q⟩;by_cases d:j > i;rw[if_pos d,if_pos d];exact⟨_,rfl⟩;rw[if_neg d,if_neg d];exact⟨_,rfl⟩
theorem VU(g:X.calm=_t):BX X (.builtin "min") (λxs H Q=>∃i j,xs=[.int i,.int j]/\Q (.int (if j < i then j else i)) H):=by intro pins s σ H xs us Q I r h;obtain⟨i,j,rfl,q⟩:=h;obtain⟨u,l,rfl,⟨t,rfl⟩,⟨t',rfl⟩⟩:=fE r;refine min_two_ints (I.ok.hd g) λh' m k=>⟨_,H,I.kept k,?_,q⟩;by_cases d:j < i;rw[if_pos d,if_pos d];exact⟨_,rfl⟩;rw[if_neg d,if_neg d];exact⟨_,rfl⟩
theorem Va:BX X (.type "int") (λxs H Q=>(∃i,xs=[.int i]/\Q (.int i) H)\/∃k,xs=[.bl k]/\Q (.int (if k then 1 else 0)) H):=by
 intro pins s σ H xs us Q I r h;rcases h with⟨i,rfl,q⟩|⟨k,rfl,q⟩
 obtain⟨u,rfl,t,rfl⟩:=vals1 r;exact call_int_int ⟨.int i,H,I,⟨_,rfl⟩,q⟩;obtain⟨u,rfl,d⟩:=vals1 r;cases d;exact call_int_bool ⟨.int (if k then 1 else 0),H,I.tok _,⟨_,rfl⟩,q⟩
def rE(K:W.Frag)(x:V)(H:Hp)(n:Nat):Prop:=
 match x with
 |.str y=>y.length<=sizeLine/\n=y.length
 |.byt y=>y.size<=sizeLine/\n=y.size
 |.ref p=>(∃xs,Dl K H p xs/\n=xs.length)\/∃xs,Fo K H p xs/\n=xs.length
 |_=>False
theorem ZS:BX X (.builtin "len") (λxs H Q=>∃x n,xs=[x]/\rE X.K x H n/\Q (.int n) H):=by
 intro pins s σ H xs us Q I r h;obtain⟨x,n,rfl,e,q⟩:=h;obtain⟨u,rfl,j⟩:=vals1 r;have hl:=Hr;have hs:sizeLine=16777216:=T7;cases x with
 |str y=>obtain⟨t,rfl⟩:=j;obtain⟨v,g⟩:y.length<=sizeLine/\n=y.length:=e;subst g;exact len_str `o ⟨.int _,H,I.tok _,⟨_,rfl⟩,q⟩
 |byt y=>obtain⟨t,rfl⟩:=j;obtain⟨v,g⟩:y.size<=sizeLine/\n=y.size:=e;subst g;exact W.len_bytes `o ⟨.int _,H,I.tok _,⟨_,rfl⟩,q⟩
 |ref p=>
  cases j;have g:(∃xs,Dl X.K H p xs/\n=xs.length)\/∃xs,Fo X.K H p xs/\n=xs.length:=e;rcases g with⟨xs,m,g⟩|⟨xs,m,g⟩
  subst g;obtain⟨l,k,pl,hz⟩:=I.list m;have d:=k.length;exact Calls.call_len_list pl.isList (by simp only[B0];omega) ⟨.int xs.length,H,I.tok _,⟨_,by simp only[B0];rw[d]⟩,q⟩;subst g;obtain⟨l,k,pl,hz⟩:=I.tuple m;have d:=k.length;exact len_tuple pl (by simp only[B0];omega) ⟨.int xs.length,H,I.tok _,⟨_,by simp only[B0];rw[d]⟩,q⟩
 |_=>exact(show False from e).elim
end
structure zCU (h:K4) (x dx C:B8) (mA:Str->Option _v):Prop where
 obj:h.get? x=_s (W.instObj C dx)
 ns:h.Ns1 dx mA
 ne:dx≠x
theorem Um{dx:B8}{mA:Str->Option _v}(n:h.Ns1 dx mA):∃od,h.get? dx=_s od/\∀name,W.lookIn name od=_s (mA name):=by
  obtain⟨o,es,l,g,hd,j,_,hm⟩:=n;refine⟨o,g,λname=>?_⟩;have e:=hm name;unfold nsFind findBy at e;rw[<- Array.find?_toList]at e;unfold W.lookIn;rw[hd];dsimp only;split;rename_i y q;rw[q]at e;exact congrArg _s e;rename_i q;rw[q]at e;have a:es.toList.any (·.refKey)=false:=by rw[List.any_eq_false];intro y d;obtain⟨z,t,c⟩:=j y (l9.mp d);simp[DictEntry.refKey,c]
  have k:¬es.toList.any (·.refKey)=true:=by rw[a];exact D2
  rw[if_neg k];exact congrArg _s e
variable{C:B8}
theorem zCU.look{x dx:B8}{mA:Str->Option _v}(I:zCU h x dx C mA):∃od,W.InstAt h x (W.instObj C dx) C (_s od)/\∀name,W.lookIn name od=_s (mA name):=
 let ⟨od,ho,hl⟩:=Um I.ns
 ⟨od,⟨I.obj,rfl,rfl,ho⟩,hl⟩
section
variable{prog:F9}{w:J5}{A:J3}{E:_v->A7->Prop}{s:A7}{K:W.Frag}{x dx C f:B8}{mA:Str->Option _v}{name:Str}{v:_v}
theorem dF{expr:Bool}{Q:_v->A7->Prop}(X:K.In s.heap)(I:zCU s.heap x dx C mA)(g:W.plainGet K C name=_t)(d:W.hasDictIn K C=_t)
    (ha:W.findIn K (.ref C) name=_s _n) (hv:mA name=_s v) (c:W.handedIn v=_t) (h:Q v {s with toks:=s.toks+1}) :
    C8 (D9 prog w) A (getAttr (.ref x) name expr) Q E s:=by
  obtain⟨od,J,hl⟩:=I.look;exact W.get_value X J (W.plainGet_of g).1 (W.findObj_own d ha rfl (by rw[hl,hv])) c h
theorem YX{pl:Sem Bool}{Q:_v×List _v->A7->Prop}(X:K.In s.heap)(I:zCU s.heap x dx C mA)(c:W.plainGet K C name=_t)
    (hf:W.findIn K (.ref C) name=_s (_s (.ref f))) (d:W.isFn K (.ref f)=_t) (hv:mA name=_n) (h:Q (.ref f,[.ref x]) s) :
    C8 (D9 prog w) A (xT (.ref x) name pl) Q E s:=by
  obtain⟨od,J,hl⟩:=I.look;exact W.method_fn X J (W.plainGet_of c).1 (W.plainGet_of c).2 hf (beq_iff_eq.mp d) (by show(W.lookIn name od).map (·.isSome)=_s _f;rw[hl,hv];rfl) h
theorem bF{ns:List Str}{Q:Unit->A7->Prop}(X:K.In s.heap)(I:zCU s.heap x dx C mA)
    (hs:W.findIn K (.ref C) "__setattr__" = _s (_s (.builtin "object.__setattr__"))) (q:W.plainOver K C=_t) (p:W.takerIn K C name=_s _n) (t:W.hasDictIn K C=_t)
    (n:yC mA ns) (hsz:ns.length<=sizeLine)
    (h:∀h',zCU h' x dx C (λy=>if y=name then _s v else mA y)->N9 dx s.heap h'->Q () {s with heap:=h',toks:=s.toks+2}) :
    C8 (D9 prog w) A (setAttr (.ref x) name v) Q E s:=by
  obtain⟨od,J,hl⟩:=I.look;refine W.set_plain X J hs (W.osa_open (s:={s with toks:=s.toks+1}) (r:=_n) X J q p λb=>?_);obtain⟨G,z,k⟩:=W.any_some t;have m:s.heap.get? x=_s ⟨.ref C,_s dx,.plain,#[]⟩:=I.obj;refine A1 (A6 (A1 (A1 (wpAny_loadPart m (A1 (W.Looks.here (s:={s with toks:=s.toks+1}) (W.looks_clsIn X z) ?_))))));rw[k];refine A6 (a:=_s dx) (A1 (A6 (A1 ?_)));refine wpAny_nsSet1 (s:={s with toks:=s.toks+1}) I.ns λh' d c=>?_;obtain⟨F,B,D,g,j,l⟩:=d.count (zAN name v n);refine A1 (wpAny_lookBehind g (by rw[j];exact pastItsLine_dict (A8 l (by rw[D4];omega))) ?_);exact A6 (h _ ⟨(c.2 _ (Ne.symm I.ne)).trans I.obj,d,I.ne⟩ c)
theorem YA{R:zy->A7->Prop}{vs:List _v}{c:List (Str×_v)}(X:K.In s.heap)(hm:W.makesIn K C=_t)
    (hi:W.findIn K (.ref C) "__init__" = _s (_s (.ref f))) (hf:W.typeIn K (.ref f)=_s (.type "function"))
    (h:p9 (D9 prog w) (A.under (.builtin "type.__call__" ⟨.ref C::vs,c⟩)) (.call (.ref f) ⟨.ref (s.heap.objs.size+1)::vs,c⟩) (W.InitBack (s.heap.objs.size+1) R)
      {s with heap:=(s.heap.push W.emptyDict).push (W.instObj C s.heap.objs.size)}) :
    p9 (D9 prog w) A (.call (.ref C) ⟨vs,c⟩) R s:=by
  obtain⟨j,g,d,t,os⟩:=s;exact W.make_core (W.makes_of X hm) (W.looks_findIn X hi) (λself=>W.bind_fn X self hf) (.inl rfl) h
end
noncomputable def Ex(f:Str)(v:V):List (Str×V)->List (Str×V)
 |[]=>[(f,v)]
 |(g,x)::r=>if g=f then(g,v)::r else(g,x)::Ex f v r
theorem FC(f g:Str)(v:V):∀fs:List (Str×V),(Ex f v fs).lookup g=if g=f then _s v else fs.lookup g
 |[]=>by show Y3 g [(f,v)]=_;by_cases h:g=f;have hb:(g==f)=true:=beq_iff_eq.mpr h;simp only[Y3,hb,if_pos h];have hb:(g==f)=false:=beq_eq_false_iff_ne.mpr h;simp only[Y3,hb,if_neg h]
 |(k,x)::r=>by have d:=FC f g v r;rw[show Ex f v ((k,x)::r)=(if k=f then(k,v)::r else(k,x)::Ex f v r)from rfl];by_cases c:k=f;rw[if_pos c];by_cases h:g=k;have hb:(g==k)=true:=beq_iff_eq.mpr h;simp only[Y3,hb,if_pos (h.trans c)];have hb:(g==k)=false:=beq_eq_false_iff_ne.mpr h;simp only[Y3,hb,if_neg (λe:g=f=>h (e.trans c.symm))];rw[if_neg c];by_cases h:g=k;have hb:(g==k)=true:=beq_iff_eq.mpr h;simp only[Y3,hb,if_neg (λe:g=f=>c (h.symm.trans e))];have hb:(g==k)=false:=beq_eq_false_iff_ne.mpr h;simp only[Y3,hb];exact d
theorem Hs(f:Str)(v:V):∀fs:List (Str×V),f∈(Ex f v fs).map (·.1)/\∀g,g∈fs.map (·.1)->g∈(Ex f v fs).map (·.1)
 |[]=>⟨by simp[Ex],λg h=>by simp at h⟩
 |(k,x)::r=>by
  obtain⟨j,d⟩:=Hs f v r;rw[show Ex f v ((k,x)::r)=(if k=f then(k,v)::r else(k,x)::Ex f v r)from rfl];by_cases c:k=f;rw[if_pos c];subst c;exact⟨by simp,λg h=>by simpa using h⟩;rw[if_neg c];refine⟨?_,λg h=>?_⟩;rw[B7];exact A9 _ j;rw[B7]at h ⊢;rcases D3.mp h with e|e
  exact D3.mpr (.inl e);exact A9 _ (d g e)
theorem IL(f:Str)(v:V):∀fs:List (Str×V),(Ex f v fs).length<=fs.length+1
 |[]=>by simp[Ex]
 |(k,x)::r=>by have d:=IL f v r;rw[show Ex f v ((k,x)::r)=(if k=f then(k,v)::r else(k,x)::Ex f v r)from rfl];by_cases c:k=f;rw[if_pos c,D4,D4];omega;rw[if_neg c,D4,D4];omega
theorem EF.some_of{v:V}{o:Option _v}(r:EF (_s v) o):∃u,o=_s u/\RelV v u:=by
 cases o with|none=>exact(show False from r).elim|some u=>exact⟨u,rfl,r⟩
theorem EF.none_of{o:Option _v}(r:EF _n o):o=none:=by
 cases o with|none=>rfl|some u=>exact(show False from r).elim
theorem Uw{v:V}(r:RelV v u):W.handedIn u=true:=by
 cases v with|non=>cases(show u=g7 from r);rfl|bl b=>cases(show u=g9 b from r);rfl|int i=>obtain⟨t,e⟩:=(show ∃t,u=ye i t from r);cases e;rfl|str x=>obtain⟨t,e⟩:=(show ∃t,u=yf x t from r);cases e;rfl|byt b=>obtain⟨t,e⟩:=(show ∃t,u=zAC b t from r);cases e;rfl|flt b=>obtain⟨t,e⟩:=(show ∃t,u=zAD b t from r);cases e;rfl|ref a=>cases(show u=E9 a from r);rfl|ty n=>cases(show u=L9 n from r);rfl
section
variable{P:F9}{w:J5}{H H':Hp}{h h':K4}{a C dx:B8}{fs fs':List (Str×V)}
theorem Mq(hok:Ft P w H h)(e:H a=_s (.ins C dx fs)):∃mA,zCU h a dx C mA/\(∀f,EF (fs.lookup f) (mA f))/\yC mA (fs.map (·.1))/\fs.length<=1000/\H dx=_s (.own a):=by obtain⟨d,z,ne,ob,mA,n,r,q⟩:=(show BC P w H h a (.ins C dx fs)from hok a _ e);exact⟨mA,⟨ob,n,ne⟩,r,q,z,d⟩
end
structure Cls (K:W.Frag) (C:B8):Prop where
 pg:W.plainGet K C Str.empty=_t
 hd:W.hasDictIn K C=_t
 po:W.plainOver K C=_t
 sa:W.findIn K (.ref C) "__setattr__" = _s (_s (.builtin "object.__setattr__"))
theorem Cls.get{K:W.Frag}(c:Cls K C)(f:Str):W.plainGet K C f=true:=c.pg
def FT(K:W.Frag)(C:B8)(f:Str):Prop:=W.findIn K (.ref C) f=_s _n
theorem FT.zEa{K:W.Frag}{f:Str}(n:FT K C f):W.takerIn K C f=_s none:=by unfold W.takerIn;rw[show W.findIn K (.ref C) f=_s _n from n];rfl
structure Meth (K:W.Frag) (C:B8) (m:Str) (f:B8):Prop where
 at_:W.findIn K (.ref C) m=_s (_s (.ref f))
 fn:W.isFn K (.ref f)=_t
 kp:W.keepIn K (.ref f)=_t
section
variable{X:Cx}{pins:List (B8×Obj)}{σ:St}{H:Hp}{s:A7}{a C dx:B8}{fs:List (Str×V)}{f:Str}{v:V}{A:J3}{E:_v->A7->Prop}
theorem RM{b:Bool}{Q:_v->A7->Prop}(I:Inv X pins σ H s)(e:H a=_s (.ins C dx fs))(c:Cls X.K C)(n:FT X.K C f)(l:fs.lookup f=_s v)
    (h:∀u s',Inv X pins σ H s'->RelV v u->Q u s'):C8 (D9 X.prog X.w) A (getAttr (.ref a) f b) Q E s:=by
  obtain⟨mA,O,r,_,_,_⟩:=Mq I.hok e;obtain⟨u,g,d⟩:=EF.some_of (v:=v) (o:=mA f) (by rw[<- l];exact r f);exact dF I.kIn O (c.get f) c.hd n g (Uw d) (h u _ (I.tok _) d)
theorem KB{m:Str}{g:B8}{pl:Sem Bool}{Q:_v×List _v->A7->Prop}(I:Inv X pins σ H s)(e:H a=_s (.ins C dx fs))(c:Cls X.K C)(k:Meth X.K C m g)(l:fs.lookup m=_n)
    (h:Q (.ref g,[.ref a]) s):C8 (D9 X.prog X.w) A (xT (.ref a) m pl) Q E s:=by
  obtain⟨mA,O,r,_,_,_⟩:=Mq I.hok e;have d:mA m=none:=EF.none_of (by rw[<- l];exact r m);exact YX I.kIn O (c.get m) k.at_ k.fn d h
theorem QW{y:V}{Q:Unit->A7->Prop}(I:Inv X pins σ H s)(e:H a=_s (.ins C dx fs))(c:Cls X.K C)(n:FT X.K C f)(hl:fs.length < 1000)(m:RelV y u)
    (h:∀s',Inv X pins σ (upd H a (.ins C dx (Ex f y fs))) s'->Q () s'):C8 (D9 X.prog X.w) A (setAttr (.ref a) f u) Q E s:=by
  obtain⟨mA,O,r,j,_,k⟩:=Mq I.hok e;have hz:(fs.map (·.1)).length<=sizeLine:=by rw[C3,T7];omega
  refine bF I.kIn O c.sa c.po n.zEa c.hd j hz λh' d l=>h _ ?_;have hd:∃o,h'.get? dx=_s o:=let ⟨o,_,_,e',_⟩:=d.ns;⟨o,e'⟩;refine I.write (x:=a) (e:=dx) (by rw[e];exact True.intro) (.inr k) (λb q hb z=>(l.2 b hb).trans z) hd ?_;refine⟨by rw[AD O.ne];exact k,?_,O.ne,d.obj,_,d.ns,λg=>?_,λg p=>?_⟩
  have:=IL f y fs;omega;show EF ((Ex f y fs).lookup g) (if g=f then _s u else mA g);rw[FC];by_cases q:g=f;rw[if_pos q,if_pos q];exact m;rw[if_neg q,if_neg q];exact r g;by_cases q:g=f;rw[q];exact(Hs f y fs).1;refine(Hs f y fs).2 g (j g λz=>p ?_);show(if g=f then _s u else mA g)=_n;rw[if_neg q];exact z
theorem Inv.made(I:Inv X pins σ H s):Inv X pins σ (upd (upd H s.heap.objs.size (.own (s.heap.objs.size+1))) (s.heap.objs.size+1) (.ins C s.heap.objs.size []))
    {s with heap:=(s.heap.push W.emptyDict).push (W.instObj C s.heap.objs.size)}:=by
  have c:(s.heap.push W.emptyDict).get? s.heap.objs.size=_s W.emptyDict:=C9 s.heap rfl;have j:((s.heap.push W.emptyDict).push (W.instObj C s.heap.objs.size)).get? (s.heap.objs.size+1)=_s (W.instObj C s.heap.objs.size):=by have:=C9 (s.heap.push W.emptyDict) (o:=W.instObj C s.heap.objs.size) rfl;rwa [M9]at this
  have g:(s.heap.push W.emptyDict).Ns s.heap.objs.size (λ_=>_n):=⟨W.emptyDict,#[],_,c,rfl,(λe he=>absurd he `s),λ_=>rfl⟩;have k:=I.laid (a:=s.heap.objs.size) (o:=.own (s.heap.objs.size+1)) (h':=s.heap.push W.emptyDict) (t':=s.toks) (λb u q=>A5 _ q) (B3 _) ⟨_,c⟩;refine k.laid (a:=s.heap.objs.size+1) (o:=.ins C s.heap.objs.size []) (t':=s.toks) (λb u q=>A5 _ q) (yG (M9 _ _)) ?_;have ne:s.heap.objs.size≠s.heap.objs.size+1:=E5 (i8 _);refine⟨by rw[AD ne,AE],H8 _,ne,j,λ_=>_n,(Heap.Ns1.of_empty g).at λo q=>A5 _ q,λ_=>True.intro,λy d=>absurd rfl d⟩
theorem eO{prog:F9}{w:J5}{env:Env}{f:Str}{pos:Pos}{s:A7}{Q:_v->A7->Prop}(hb:N8 e f env (N2 e env)=N2 e env)
    (h:C8 (D9 prog w) A (N2 e env) (λo c=>C8 (D9 prog w) A (getAttr o f _t) Q E c) E s):C8 (D9 prog w) A (N2 (.Attribute e f pos) env) Q E s:=
  Attribute_any_ h (by rw[arm_eval_Attribute,hb])
end
def QS(K:W.Frag)(ta:TE)(f:Str):TE:=λσ H Q=>ta σ H λx c=>∃a C dx fs v,x=.ref a/\c a=_s (.ins C dx fs)/\Cls K C/\FT K C f/\fs.lookup f=_s v/\Q v c
def nv(K:W.Frag)(ta d:TE)(f:Str):TS:=λD σ H=>d σ H λy g=>ta σ g λx c=>∃a C dx fs,x=.ref a/\c a=_s (.ins C dx fs)/\Cls K C/\FT K C f/\fs.length < 1000 /\
 D.nx σ (upd c a (.ins C dx (Ex f y fs)))
section
variable{X:Cx}{o e value:Expr}{f:Str}{pos pos' zAs:Pos}{ta tv:TE}
theorem Xa(he:PE X e ta)(hb:N8 e f X.env (N2 e X.env)=N2 e X.env):PE X (.Attribute e f pos) (QS X.K ta f):=by intro pins s σ H Q I h;refine eO hb (BM (he pins s σ H _ I h) λu s1 ⟨x,p,m,d,a,C,dx,fs,v,ex,j,c,n,l,q⟩=>?_);subst ex;obtain rfl:u=E9 a:=d;exact RM m j c n l λt s2 k g=>⟨v,p,k,g,q⟩
theorem jK(ha:PE X o ta)(hv:PE X value tv)(hs:U3 value (_s (.Attribute o f pos')) pos.line X.env=pure _f):PS X (.Assign [.Attribute o f pos'] value pos) (nv X.K ta tv f):=by intro pins s σ H D I h;refine plainObj_wpAny_Assign_Attribute (BM (hv pins s σ H _ I h) λu s1 ⟨y,z,v,d,q⟩=>BM (ha pins s1 σ z _ v q) λk s2 ⟨x,F,t,g,a,C,dx,fs,ex,m,c,n,l,j⟩=>?_) hs;subst ex;obtain rfl:k=E9 a:=g;exact QW t m c n l d λB p=>⟨σ,_,p,j⟩
end
structure zAV (k:Nat) (A:J3):Prop where
 hd:A.handled=_n
 dp:A.depth+3 * k+5 < recursionLimit
 un:A.units+16 * k+200 < K0
 gd:A.guards=_s []
variable{k:Nat}
theorem zAV.mono{j:Nat}(r:zAV k A)(h:j<=k):zAV j A:=⟨r.hd,by have:=r.dp;omega,by have:=r.un;omega,r.gd⟩
theorem zAV.deeper(r:zAV (k+1) A)(env:Env):zAV k (A.deeper env):=
 ⟨r.hd,by have:=r.dp;show A.depth+1+3 * k+5 < _;omega,by have:=r.un;show A.units+3+16 * k+200 < _;omega,r.gd⟩
theorem Qz{c:List (Str×_v)}:(A.under (.builtin "type.__call__" ⟨.ref C::us,c⟩)).depth=A.depth+1:=by first|rfl|simp[q8,Code.weight,Code.isCreation,yH,Code.isCaller,zAF,yI,guardIds]
theorem Qy{c:List (Str×_v)}:(A.under (.builtin "type.__call__" ⟨.ref C::us,c⟩)).units=A.units+1:=by first|rfl|simp[q8,Code.cUnits,zAF,yI]
theorem zAV.make(r:zAV (k+1) A)(C:B8)(us:List _v)(kw:List (Str×_v)):zAV k (A.under (.builtin "type.__call__" ⟨.ref C::us,kw⟩)):=
 ⟨r.hd,by have:=r.dp;rw[Qz];omega,by have:=r.un;rw[Qy];omega,by
 have e:(A.under (.builtin "type.__call__" ⟨.ref C::us,kw⟩)).guards=A.guards:=by first|rfl|(simp only[q8,zAG,yH];cases A.guards<;>simp[pushGuards,guardIds])|simp[q8,zAG,yH,guardIds,pushGuards]
 rw[e];exact r.gd⟩
theorem zAV.depth(r:zAV k A):A.depth < recursionLimit:=by have:=r.dp;omega
abbrev MN:TA:=λ_ H Q=>Q [] H
abbrev Np(ta:TE)(tr:TA):TA:=λσ H Q=>ta σ H λx d=>tr σ d λxs c=>Q (x::xs) c
section
variable{X:Cx}{e:Expr}{es:List Expr}{te:TE}{t:TA}{pos:Pos}
theorem Jk:PA X [] MN:=λ_ _ _ _ H Q I h=>Y9 ⟨[],H,I,.nil,h⟩
theorem CF(ha:PE X e te)(l:PA X es t)(hs:E3 (e::es) X.env=(_f,N2 e X.env)::E3 es X.env:=by rfl):PA X (e::es) (Np te t):=by intro pos pins s σ H Q I h;rw[hs];show C8 _ _ (zw ((_f,N2 e X.env)::P9 pos (E3 es X.env))) _ _ s;refine vC (BM (ha pins s σ H _ I h) λu s1 ⟨x,q,n,d,j⟩=>?_);exact BM (l pos pins s1 σ q _ n j) λus s2 ⟨xs,p,m,c,g⟩=>⟨x::xs,p,m,.cons d c,g⟩
abbrev sJ(t:TA):TE:=λσ H Q=>t σ H λxs c=>xs.length<=sizeLine/\∀p,c p=_n->Q (.ref p) (upd c p (.tup xs))
abbrev nP(t:TA):TE:=λσ H Q=>t σ H λxs c=>xs.length<=sizeLine/\∀p,c p=_n->Q (.ref p) (upd c p (.lst xs))
theorem jV{x1}(h:PA X es t):PE X (.Tuple es x1 pos) (sJ t):=by intro pins s σ H Q I g;refine wpAny_Tuple_spliced (BM (h pos pins s σ H _ I g) λus s1 ⟨xs,d,c,r,z,q⟩=>⟨by rw[<- r.length];exact z,?_⟩);have hf:d s1.heap.objs.size=none:=c.hok.fresh (B3 _);refine⟨.ref s1.heap.objs.size,upd d s1.heap.objs.size (.tup xs),c.laid (t':=s1.toks) (λb u e=>A5 _ e) (B3 _) ?_,rfl,q _ hf⟩;exact⟨z,us,r,⟨_,C9 _ rfl,rfl,rfl,_,rfl⟩⟩
theorem XX(h:PA X es t):PE X (.List es pos) (nP t):=by intro pins s σ H Q I g;refine wpAny_List_spliced (BM (h pos pins s σ H _ I g) λus s1 ⟨xs,d,c,r,z,q⟩=>⟨by rw[<- r.length];exact z,?_⟩);have hf:d s1.heap.objs.size=none:=c.hok.fresh (B3 _);refine⟨.ref s1.heap.objs.size,upd d s1.heap.objs.size (.lst xs),c.laid (t':=s1.toks) (λb u e=>A5 _ e) (B3 _) ?_,rfl,q _ hf⟩;exact⟨z,us,0,r,C9 _ rfl⟩
end
abbrev Sp:=List V->Hp->VK->XK->Prop
abbrev aM:=List Env->Hp->A7->XK->_v->A7->Prop
structure zCV (P:F9) (w:J5) (K:W.Frag) (mg:Str->Option _v) (base:K4) (A:J3) (outer:List Env) (s:A7) (H:Hp):Prop where
 frames:A.frames=_s outer
 mod:Mod K mg base
 bs:∀b o,base.get? b=_s o->s.heap.get? b=_s o/\H b=_n
 bsz:base.objs.size<=s.heap.objs.size
 zBK:s.heap.FunFrames base outer
 frf:∀b∈TK outer,H b=_n
 hok:Ft P w H s.heap
 bare:vU s.gens
def CE(outer:List Env)(P:F9)(w:J5)(H:Hp)(s:A7)(Q:VK)(u:_v)(s':A7):Prop:=
 ∃v H',s'.os=s.os/\vU s'.gens/\Un (TK outer) [] H H' s.heap s'.heap/\Ft P w H' s'.heap/\RelV v u/\Q v H'
def CR(CX:aM)(outer:List Env)(P:F9)(w:J5)(H:Hp)(s:A7)(Q:VK)(E:XK)(r:zy)(s':A7):Prop:=
 match r with
 |.ok (.ret u)=>CE outer P w H s Q u s'
 |.ok _=>False
 |.error e=>CX outer H s E e s'
structure zAb (P:F9) (w:J5) (K:W.Frag) (mg:Str->Option _v) (base:K4) (CX:aM) (k:Nat) (f:B8) (fd:S2) (ps:List Str) (sp:Sp):Prop where
 len:∀vs H Q E,sp vs H Q E->vs.length=ps.length
 run:∀(A:J3)(outer:List Env)(s:A7)(H:Hp)(args:Args)(us:List _v)(vs:List V)(Q:VK)(E:XK),zAV k A->zCV P w K mg base A outer s H->yJ s fd args (ps.zip us)->AG vs us->sp vs H Q E ->
  p9 (D9 P w) A (.call (.ref f) args) (CR CX outer P w H s Q E) s
variable{mg:Str->Option _v}{base:K4}
theorem zAb.imp{K:W.Frag}{CX:aM}{f:B8}{fd:S2}{ps:List Str}{sp c:Sp}(F:zAb P w K mg base CX k f fd ps sp)
    (h:∀vs H Q E,c vs H Q E->sp vs H Q E):zAb P w K mg base CX k f fd ps c:=
  ⟨λvs H Q E q=>F.len vs H Q E (h _ _ _ _ q),λA outer s H args us vs Q E d he hb hv hs=>F.run A outer s H args us vs Q E d he hb hv (h _ _ _ _ hs)⟩
theorem zCV.make{K:W.Frag}{outer:List Env}(e:zCV P w K mg base A outer s H)(C:B8)(us:List _v)(kw:List (Str×_v)) :
    zCV P w K mg base (A.under (.builtin "type.__call__" ⟨.ref C::us,kw⟩)) outer s H:=⟨by first|exact e.frames|(simpa[q8,Code.envs,yI,pushEnvs]using e.frames),e.mod,e.bs,e.bsz,e.zBK,e.frf,e.hok,e.bare⟩
section
variable{X:Cx}{pins:List (B8×Obj)}{σ:St}{H:Hp}{s s':A7}
theorem Inv.zFF(I:Inv X pins σ H s):zCV X.prog X.w X.K X.mg X.base X.A X.stack s H:=
 ⟨I.ok.frames,I.ok.mod,I.bs,A8 I.ok.bsz I.sz,I.stack,I.zCW,I.hok,I.bare⟩
theorem Inv.after{Q:VK}(I:Inv X pins σ H s)(h:CE X.stack X.prog X.w H s Q u s'):EP X pins σ Q u s':=by obtain⟨v,H',os,bare,un,hok,r,q⟩:=h;obtain⟨j,g,d,t,c⟩:=s';obtain rfl:c=s.os:=os;exact⟨v,H',I.call (h':=j) (g':=g) (d':=d) (t':=t) (ch:=[]) un hok bare (λb z=>absurd z `s),r,q⟩
end
abbrev fL(sp:Sp)(c:List V)(E:XK)(t:TA):TE:=λσ H Q=>t σ H λvs d=>sp (vs++c) d Q E
def SG(C:B8)(m:Str)(sp:Sp)(c:List V)(E:XK)(ta:TE)(t:TA):TE:=λσ H Q=>ta σ H λx d=>∃a dx fs,x=.ref a/\d a=_s (.ins C dx fs)/\fs.lookup m=_n /\
 t σ d λvs g=>sp (x::(vs++c)) g Q E
def SH(C:B8)(sp:Sp)(c:List V)(E:XK)(t:TA):TE:=λσ H Q=>t σ H λvs d=>∀x dx,d x=_n->d dx=_n->dx≠x ->
 sp (.ref x::(vs++c)) (upd (upd d dx (.own x)) x (.ins C dx [])) (λv g=>v=.non/\Q (.ref x) g) E
def Binds(K:W.Frag)(fd:S2)(ps:List Str)(ds:List _v):Prop:=
 ∀(s:A7)(us:List _v),K.In s.heap->(us++ds).length=ps.length->yJ s fd ⟨us,[]⟩ (ps.zip (us++ds))
theorem Binds.all{K:W.Frag}{fd:S2}{ps:List Str}(h:∀us:List _v,us.length=ps.length->zS fd ⟨us,[]⟩=pure (ps.zip us)):Binds K fd ps []:=λs us _ hl=>by rw[G7]at hl ⊢;exact .of_eq (h us hl)
def Dj(CX:aM)(X:Cx)(E:XK):Prop:=∀(pins:List (B8×Obj))(σ:St)(H:Hp)(s:A7)(e:_v)(s':A7),Inv X pins σ H s->CX X.stack H s E e s'->X.xe e s'
section
variable{X:Cx}{CX:aM}{k:Nat}{f C:B8}{fd:S2}{ps:List Str}{sp:Sp}{dvs:List V}{ds:List _v}{E:XK}{x m:Str}{p pos apos:Pos}{e o:Expr}{es:List Expr}{ta:TE}{t:TA}
theorem MS{pins:List (B8×Obj)}{σ:St}{H:Hp}{s:A7}{Q:VK}{us:List _v}{vs:List V}(F:zAb X.prog X.w X.K X.mg X.base CX k f fd ps sp)(j:zAV k X.A)(hb:Binds X.K fd ps ds)(hd:AG dvs ds)(g:Dj CX X E)
    (I:Inv X pins σ H s) (r:AG vs us) (h:sp (vs++dvs) H Q E):C8 (D9 X.prog X.w) X.A (call (.ref f) us) (EP X pins σ Q) X.xe s:=by
  have d:AG (vs++dvs) (us++ds):=r.append hd;have hl:(us++ds).length=ps.length:=by rw[<- d.length];exact F.len _ _ _ _ h
  refine wpAny_call (wU (F.run X.A X.stack s H ⟨us,[]⟩ (us++ds) (vs++dvs) Q E j I.zFF (hb s us I.kIn hl) d h) λr s' c=>?_);cases r with
  |error e=>exact g pins σ H s e s' I c
  |ok fl=>
    cases fl with|ret u=>exact I.after c|next=>exact E7 c|brk=>exact E7 c|cont=>exact E7 c
theorem cE(F:zAb X.prog X.w X.K X.mg X.base CX k f fd ps sp)(l:zAV k X.A)(v:Gl X x)(hm:X.mg x=_s (.ref f))(n:W.keepIn X.K (.ref f)=_t)(hb:Binds X.K fd ps ds)(hd:AG dvs ds)(j:Dj CX X E)
    (ha:PA X (e::es) t) (d:(x==("__debug__" : Str))=false:=by decide) (he:E3 (e::es) X.env=(_f,N2 e X.env)::E3 es X.env:=by rfl) (c:(P9 pos (E3 es X.env)).any (·.1)=false:=by rfl) :
    PE X (.Call (.Name x p) (e::es) [] pos) (fL sp dvs E t):=by
  intro pins s σ H Q I h;refine K9 (Gn I v hm ?_ d);refine W.callWith_K (h₀:=X.base) I.ok.mod.kin n (BM (ha pos pins s σ H _ I h) λus s1 ⟨vs,y,g,r,q⟩=>⟨g.kIn,?_⟩) he c;exact MS F l hb hd j g r q
theorem Xd(F:zAb X.prog X.w X.K X.mg X.base CX k f fd ps sp)(g:zAV k X.A)(l:Gl X x)(hm:X.mg x=_s (.ref f))(j:W.keepIn X.K (.ref f)=_t)(hb:Binds X.K fd ps ds)(hd:AG dvs ds)(d:Dj CX X E)
    (c:(x==("__debug__" : Str))=false:=by decide):PE X (.Call (.Name x p) [] [] pos) (fL sp dvs E MN):=by
  intro pins s σ H Q I h;refine K9 (Gn I l hm ?_ c);exact W.callWith_K0 I.kIn j (MS (us:=[]) F g hb hd d I .nil h)
theorem cA{pl:Sem Bool}(he:PE X o ta)(c:Cls X.K C)(hm:Meth X.K C m f)(F:zAb X.prog X.w X.K X.mg X.base CX k f fd ps sp)(D:zAV k X.A)(hb:Binds X.K fd ps ds)(hd:AG dvs ds)(z:Dj CX X E)(ha:PA X (e::es) t)
    (d:E3 (e::es) X.env=(_f,N2 e X.env)::E3 es X.env:=by rfl) (g:(P9 pos (E3 es X.env)).any (·.1)=false:=by rfl)
    (B:N2 (.Call (.Attribute o m apos) (e::es) [] pos) X.env=(do
      let ov <- N2 o X.env
      yF apos.atName
      let (f,first) <- p8 [ov] (xT ov m pl)
      callWith pos f first (P9 pos (E3 (e::es) X.env)) (xG pos (m5 [] X.env))):=by rfl) :
    PE X (.Call (.Attribute o m apos) (e::es) [] pos) (SG C m sp dvs E ta t):=by
  intro pins s σ H Q I h;refine W.methodCall_KW (pl:=pl) (BM (he pins s σ H _ I h) λu s1 ⟨x,J,n,v,a,dx,fs,ex,G,l,q⟩=>?_) B;subst ex;obtain rfl:u=E9 a:=v;refine KB n G c hm l ?_;refine W.callWith_K (first:=[.ref a]) (h₀:=X.base) I.ok.mod.kin hm.kp (BM (ha pos pins s1 σ J _ n q) λus s2 ⟨vs,L,j,r,y⟩=>⟨j.kIn,?_⟩) d g;exact MS (us:=.ref a::us) (vs:=.ref a::vs) F D hb hd z j (.cons rfl r) y
theorem XU{pl:Sem Bool}(he:PE X o ta)(c:Cls X.K C)(hm:Meth X.K C m f)(F:zAb X.prog X.w X.K X.mg X.base CX k f fd ps sp)(v:zAV k X.A)(hb:Binds X.K fd ps ds)(hd:AG dvs ds)(j:Dj CX X E)
    (n:N2 (.Call (.Attribute o m apos) [] [] pos) X.env=(do
      let ov <- N2 o X.env
      yF apos.atName
      let (f,first) <- p8 [ov] (xT ov m pl)
      callWith pos f first (P9 pos (E3 [] X.env)) (xG pos (m5 [] X.env))):=by rfl) :
    PE X (.Call (.Attribute o m apos) [] [] pos) (SG C m sp dvs E ta MN):=by
  intro pins s σ H Q I h;refine W.methodCall_KW (pl:=pl) (BM (he pins s σ H _ I h) λu s1 ⟨x,z,d,g,a,dx,fs,ex,y,l,q⟩=>?_) n;subst ex;obtain rfl:u=E9 a:=g;refine KB d y c hm l ?_;exact W.callWith_K0 (first:=[.ref a]) d.kIn hm.kp (MS (us:=[.ref a]) (vs:=[.ref a]) F v hb hd j d (.cons rfl .nil) q)
structure Mk (K:W.Frag) (C f:B8):Prop where
 makes:W.makesIn K C=_t
 init:W.findIn K (.ref C) "__init__" = _s (_s (.ref f))
 fn:W.isFn K (.ref f)=_t
 kp:W.keepIn K (.ref C)=_t
theorem OC{pins:List (B8×Obj)}{σ:St}{H:Hp}{s:A7}{Q:VK}{us:List _v}{vs:List V}(M:Mk X.K C f)(F:zAb X.prog X.w X.K X.mg X.base CX k f fd ps sp)(q:zAV (k+1) X.A)(hb:Binds X.K fd ps ds)(hd:AG dvs ds)
    (n:Dj CX X E) (I:Inv X pins σ H s) (r:AG vs us)
    (h:∀x dx,H x=_n->H dx=_n->dx≠x->sp (.ref x::(vs++dvs)) (upd (upd H dx (.own x)) x (.ins C dx [])) (λv z=>v=.non/\Q (.ref x) z) E) :
    C8 (D9 X.prog X.w) X.A (call (.ref C) us) (EP X pins σ Q) X.xe s:=by
  have j:=h (s.heap.objs.size+1) s.heap.objs.size (I.hok.fresh (U6 _)) (I.hok.fresh (B3 _)) (E5 (i8 _));have d:=Inv.made (C:=C) I;have g:AG (V.ref (s.heap.objs.size+1)::(vs++dvs)) (E9 (s.heap.objs.size+1)::(us++ds)):=.cons rfl (r.append hd);have hl:(E9 (s.heap.objs.size+1)::us++ds).length=ps.length:=by have e:=g.length;rw[F.len _ _ _ _ j]at e;exact e.symm
  refine wpAny_call (YA (f:=f) I.kIn M.makes M.init (beq_iff_eq.mp M.fn) (wU (F.run _ X.stack _ _ ⟨E9 (s.heap.objs.size+1)::us,[]⟩ (E9 (s.heap.objs.size+1)::(us++ds)) _ _ E (q.make C us [])
    (d.zFF.make C us []) (hb _ (E9 (s.heap.objs.size+1)::us) d.kIn hl) g j) λr s' c=>?_))
  cases r with
  |error e=>exact n pins σ _ _ e s' d c
  |ok fl=>
    cases fl with|ret u=>obtain⟨v,H',y,rv,ev,l⟩:=d.after c;subst ev;exact⟨rv,⟨V.ref (s.heap.objs.size+1),H',y,rfl,l⟩⟩|next=>exact E7 c|brk=>exact E7 c|cont=>exact E7 c
theorem cB(M:Mk X.K C f)(F:zAb X.prog X.w X.K X.mg X.base CX k f fd ps sp)(l:zAV (k+1) X.A)(n:Gl X x)(hm:X.mg x=_s (.ref C))(hb:Binds X.K fd ps ds)(hd:AG dvs ds)(j:Dj CX X E)
    (ha:PA X (e::es) t) (d:(x==("__debug__" : Str))=false:=by decide) (he:E3 (e::es) X.env=(_f,N2 e X.env)::E3 es X.env:=by rfl) (c:(P9 pos (E3 es X.env)).any (·.1)=false:=by rfl) :
    PE X (.Call (.Name x p) (e::es) [] pos) (SH C sp dvs E t):=by
  intro pins s σ H Q I h;refine K9 (Gn I n hm ?_ d);refine W.callWith_K (h₀:=X.base) I.ok.mod.kin M.kp (BM (ha pos pins s σ H _ I h) λus s1 ⟨vs,v,g,r,q⟩=>⟨g.kIn,?_⟩) he c;exact OC M F l hb hd j g r q
theorem XW(M:Mk X.K C f)(F:zAb X.prog X.w X.K X.mg X.base CX k f fd ps sp)(g:zAV (k+1) X.A)(j:Gl X x)(hm:X.mg x=_s (.ref C))(hb:Binds X.K fd ps ds)(hd:AG dvs ds)(d:Dj CX X E)
    (c:(x==("__debug__" : Str))=false:=by decide):PE X (.Call (.Name x p) [] [] pos) (SH C sp dvs E MN):=by
  intro pins s σ H Q I h;refine K9 (Gn I j hm ?_ c);exact W.callWith_K0 I.kIn M.kp (OC (us:=[]) M F g hb hd d I .nil h)
end
structure zBD (N P:List Str) (sc:O0):Prop where
 kind:sc.kind=.function
 co:sc.isCoroutine=_f
 gen:sc.isGenerator=_f
 nd:N.Nodup
 pre:N.take P.length=P
 par:∀x∈P,sc.names.lookup x=_s .local\/sc.names.lookup x=_s .cell
 zEI:∀y∈sc.names,y.2≠.free
theorem MB{kindOf:Str->Option NameKind}{x:Str}:∀{binds:List (Str×_v)}{m:Str->Option _v},(∀v,(x,v)∉binds)->zT kindOf binds m x=m x
 |[],_,_=>rfl
 |(n,v)::r,m,h=>by
  unfold zT;rw[MB λw c=>h w (A9 _ c)];split;have:x≠n:=by rintro rfl;exact h v B1
  simp[this];rfl
theorem MD{kindOf:Str->Option NameKind}{x:Str}:∀{binds:List (Str×_v)}{m:Str->Option _v},(∀v,(x,v)∉binds)->zU kindOf binds m x=m x
 |[],_,_=>rfl
 |(n,v)::r,m,h=>by
  unfold zU;rw[MD λw c=>h w (A9 _ c)];split;rfl;have:x≠n:=by rintro rfl;exact h v B1
  simp[this]
theorem MC{kindOf:Str->Option NameKind}{v:_v}:∀{P:List Str}{vs:List _v}{i:Nat}{m:Str->Option _v},P.Nodup->P[i]?=_s x->vs[i]?=_s v->kindOf x=_s .local ->
    zT kindOf (P.zip vs) m x=_s v
  |[],_,_,_,_,h,_,_=>by simp at h
  |_::_,[],_,_,_,_,h,_=>by simp at h
  |p::P,w::vs,0,m,nd,h1,h2,c=>by simp at h1 h2;subst h1;subst h2;show zT kindOf ((p,w)::P.zip vs) m p=_;unfold zT;rw[MB λv hv=>(X9.mp nd).1 (wm hv).1,if_pos c];simp
  |p::P,w::vs,i+1,m,nd,h1,h2,c=>by show zT kindOf ((p,w)::P.zip vs) m x=_;unfold zT;exact MC (i:=i) (X9.mp nd).2 (by simpa using h1) (by simpa using h2) c
theorem ME{kindOf:Str->Option NameKind}{v:_v}:∀{P:List Str}{vs:List _v}{i:Nat}{m:Str->Option _v},P.Nodup->P[i]?=_s x->vs[i]?=_s v->kindOf x≠_s .local ->
    zU kindOf (P.zip vs) m x=_s v
  |[],_,_,_,_,h,_,_=>by simp at h
  |_::_,[],_,_,_,_,h,_=>by simp at h
  |p::P,w::vs,0,m,nd,h1,h2,c=>by simp at h1 h2;subst h1;subst h2;show zU kindOf ((p,w)::P.zip vs) m p=_;unfold zU;rw[MD λv hv=>(X9.mp nd).1 (wm hv).1,if_neg c];simp
  |p::P,w::vs,i+1,m,nd,h1,h2,c=>by show zU kindOf ((p,w)::P.zip vs) m x=_;unfold zU;exact ME (i:=i) (X9.mp nd).2 (by simpa using h1) (by simpa using h2) c
def start(N:List Str)(vs:List V):St:=vs.map _s++B6 (N.length-vs.length) _n
def PP(CX:aM)(P:F9)(w:J5)(K:W.Frag)(mg:Str->Option _v)(base:K4)(N:List Str)(qual:Str)(scope:O0)(f:B8)(d:_v)(A:J3)(outer:List Env)(s:A7)(H:Hp)(E:XK):Cx where
 prog:=P
 w:=w
 K:=K
 mg:=mg
 base:=base
 A:=A.deeper (xH qual scope s.heap.objs.size f d)
 N:=N
 zAZ:=s
 H₀:=H
 env:=xH qual scope s.heap.objs.size f d
 outer:=outer
 stack:=xH qual scope s.heap.objs.size f d::outer
 ex:=[]
 calm:=_t
 fn:=λ_=>_t
 pn:=[]
 xe:=λe s'=>C8 (D9 P w) (A.deeper (xH qual scope s.heap.objs.size f d)) (leaving (xH qual scope s.heap.objs.size f d) e) (λ_ c=>CX outer H s E e c) (λg c=>CX outer H s E g c) s'
theorem PU{sc:O0}{n:Nat}(h:sc.names.lookup x=_s .cell):∃c,(N5 n sc.names []).lookup x=_s c:=by have q:=W.cellsFrom_some sc.names n [] (.inl h);exact O7.mp q
theorem Ut{CX:aM}{P:F9}{w:J5}{K:W.Frag}{mg:Str->Option _v}{base:K4}{N ps:List Str}{qual:Str}{scope:O0}{f:B8}{t:_v}{A:J3}{outer:List Env}{s s1:A7}{H:Hp}{E:XK}{us:List _v}{vs:List V}
    (S:zBD N ps scope) (hd:A.handled=_n) (d:zCV P w K mg base A outer s H) (hl:vs.length=ps.length) (r:AG vs us)
    (x:InCallC s s.heap.objs.size (zT (xH qual scope s.heap.objs.size f t).kindOf (ps.zip us) λ_=>_n) (N5 (s.heap.objs.size+1) scope.names []) (zU (xH qual scope s.heap.objs.size f t).kindOf (ps.zip us) λ_=>_n) s1) :
    Inv (PP CX P w K mg base N qual scope f t A outer s H E) [] (start N vs) H s1:=by
  have F:ps.length<=N.length:=by have:=congrArg W8 S.pre;rw[N6]at this;omega
  obtain⟨h1,G,rfl,D⟩:=x.done;have g:∀b:B8,b∉(PP CX P w K mg base N qual scope f t A outer s H E).ex:=λb z=>absurd (show b∈([]:List B8)from z) `s;refine⟨⟨d.mod,S.kind,rfl,rfl,B3 _,λy z c h1 h2=>?_,λy j=>?_,λy c _ h=>?_,λ_=>hd,Around.frames_deeper d.frames,.inr ⟨rfl,rfl⟩,λb z=>absurd z (g b),d.bs,d.bsz,λb _ _=>g b,λb z=>absurd z (g b),d.zBK,d.frf⟩,
    rfl,d.bare,Un.kept D,⟨_,x.toInCall.ns,λi y v h1 h2 h3=>?_⟩,λy c h=>⟨_,x.cell y c h⟩,d.hok.fresh (B3 _),λy c h=>?_,λp m=>absurd (show p∈([]:List (B8×Obj))from m) `s,d.hok.kept D,?_⟩
  exact name_of_addr x.apart (G8 h1) (G8 h2);have j:scope.names.lookup y=_s .cell\/scope.names.lookup y=_s .free:=j;rcases j with j|j
  exact PU j;exact absurd rfl (S.zEI _ (G8 j));exact R8 (x.above y c (G8 h));have hi:i < vs.length:=by unfold start at h2;by_cases hi:i < vs.length;exact hi;rw[J7 (by simpa using hi)]at h2;rw[wA]at h2;split at h2<;>cases h2
  have ha:vs[i]?=_s v:=by
    unfold start at h2;rw[E6 (by simpa using hi),D0]at h2;cases e:vs[i]? with|none=>rw[e]at h2;cases h2|some a=>rw[e]at h2;cases h2;rfl
  obtain⟨u,B,rv⟩:=r.get ha;have m:ps[i]?=_s y:=by rw[<- S.pre,vh `o];exact h1
  have l:ps.Nodup:=by rw[<- S.pre];exact S.nd.sublist (List.take_sublist _ _)
  refine⟨u,rv,?_⟩;rcases S.par y (K1 m)with k|k
  exact .inl ⟨k,MC l m B k⟩;obtain⟨c,e⟩:=PU (n:=s.heap.objs.size+1) k;refine .inr ⟨.inl k,c,e,?_⟩;have q:=x.cell y c e;rw[ME l m B (by show scope.names.lookup y≠_;rw[k];decide)]at q;exact q;exact d.hok.fresh (R8 (x.above y c (G8 h)));unfold start;show _=N.length;rw[B5,C3,V9];omega
theorem qN{CX:aM}{P:F9}{w:J5}{K:W.Frag}{mg:Str->Option _v}{base:K4}{k:Nat}{f:B8}{name qual:Str}{c:Arguments}{body:List N4}{scope:O0}{B kV doc pm cdv ct oc:_v}{an od:Option B8}
    {osl:Array (Option _v)} {N ps:List Str} {sp:Sp} (F:K.lookup f=_s ⟨oc,od,.func (W.fnOf name qual c body scope B kV doc pm an cdv ct),osl⟩) (z:W.codeIn K cdv qual=_t) (S:zBD N ps scope)
    (len:∀vs H Q E,sp vs H Q E->vs.length=ps.length)
    (l:∀(A:J3)(outer:List Env)(s:A7)(H:Hp)(vs:List V)(Q:VK)(E:XK),zAV k (A.deeper (xH qual scope s.heap.objs.size f cdv))->sp vs H Q E ->
      ∃t,FR (PP CX P w K mg base N qual scope f cdv A outer s H E) body t/\t {nx:=λ_ H'=>Q .non H',rt:=Q} (start N vs) H) :
    zAb P w K mg base CX (k+1) f (W.fnOf name qual c body scope B kV doc pm an cdv ct) ps sp:=by
  refine⟨len,λA outer s H args us vs Q E p g hb r d=>?_⟩;have hl:=len _ _ _ _ d;have D:K.In s.heap:=g.mod.kin.keeps λb o e=>(g.bs b o e).1;have m:s.heap.NoLimit:=g.mod.nolimit.keeps λb o e=>(g.bs b o e).1;have j:∀y∈ps.zip us,scope.names.lookup y.1=_s .local\/(scope.names.lookup y.1=_s .cell/\((N5 (s.heap.objs.size+1) scope.names []).lookup y.1).isSome=_t):=fun⟨n,v⟩ G=>by
    rcases S.par n (wm G).1 with q|q
    exact .inl q;exact .inr ⟨q,W.cellsFrom_some _ _ _ (.inl q)⟩
  refine codeAny_call_function p.depth (D _ _ F) rfl S.co S.gen rfl (W.codeRec_of D z) (hb _ _ _ _ ?_);refine wpAny_newFunctionEnv_cells S.kind j λenv he s1 x=>?_;subst he;refine⟨m.keeps x.toInCall.keep,codeAny_func ?_⟩;obtain⟨t,L,O⟩:=l A outer s H vs Q E (p.deeper _) d;have I:Inv (PP CX P w K mg base N qual scope f cdv A outer s H E) [] (start N vs) H s1:=Ut S p.hd g hl r x;refine R0 (L [] s1 (start N vs) H _ I O) (λfl s' hs=>?_) λe s' hs=>hs;have fin:∀{σ':St}{H':Hp}{v:V}{u:_v},Inv (PP CX P w K mg base N qual scope f cdv A outer s H E) [] σ' H' s'->RelV v u->Q v H'->CE outer P w H s Q u s':=
    fun{σ' H' v u} J rv q=>⟨v,H',J.os,J.bare,J.base,J.hok,rv,q⟩
  cases fl with|ret u=>obtain⟨v,σ',H',J,rv,q⟩:=hs;exact fin J rv q|next=>obtain⟨σ',H',J,q⟩:=hs;exact fin (v:=V.non) (u:=g7) J rfl q|brk=>obtain⟨_,_,_,q⟩:=hs;exact E7 q|cont=>obtain⟨_,_,_,q⟩:=hs;exact E7 q
section
variable{X:Cx}{x:Str}{p pos:Pos}{e:Expr}{es:List Expr}{t:TA}{id T:String}{r:List V->Hp->VK->Prop}
abbrev uB(r:List V->Hp->VK->Prop)(t:TA):TE:=λσ H Q=>t σ H λvs c=>r vs c Q
theorem Xc(n:BX X (.builtin id) r)(m:Gl X x)(hm:X.mg x=_n)(hv:R7 x=_s (.builtin id))(ha:PA X (e::es) t)(l:x ≠ "__name__" := by decide)(d:(x==("__debug__" : Str))=false:=by decide)
    (he:E3 (e::es) X.env=(_f,N2 e X.env)::E3 es X.env:=by rfl) (c:(P9 pos (E3 es X.env)).any (·.1)=false:=by rfl):PE X (.Call (.Name x p) (e::es) [] pos) (uB r t):=by
  intro pins s σ H Q I h;refine K9 (DQ I m hm hv ?_ l d);exact yh (BM (ha pos pins s σ H _ I h) λus s1 ⟨vs,v,q,g,j⟩=>n pins s1 σ v vs us Q q g j) he c
theorem UU(n:BX X (.type T) r)(m:Gl X x)(hm:X.mg x=_n)(hv:R7 x=_s (.type T))(ha:PA X (e::es) t)(l:x ≠ "__name__" := by decide)(d:(x==("__debug__" : Str))=false:=by decide)
    (he:E3 (e::es) X.env=(_f,N2 e X.env)::E3 es X.env:=by rfl) (c:(P9 pos (E3 es X.env)).any (·.1)=false:=by rfl):PE X (.Call (.Name x p) (e::es) [] pos) (uB r t):=by
  intro pins s σ H Q I h;refine K9 (DQ I m hm hv ?_ l d);exact G5 (BM (ha pos pins s σ H _ I h) λus s1 ⟨vs,v,q,g,j⟩=>n pins s1 σ v vs us Q q g j) he c
end
end L2
namespace HT
open PySem PyProof.Rows
section
open PySem.SeqAt
open PySem.AutoSeq1 (wpAny_loadPart')
open PySem.MeetsSeq PySem.MeetsSeq2 PySem.MeetsSeq3
end
section
variable{prog:F9}{w:J5}{A:J3}{E:_v->A7->Prop}{s:A7}
theorem zDa{t b:B8}{vs ws:List _v}{Q:_v->A7->Prop}(m:IsTup s.heap t vs.toArray)(hb:IsTup s.heap b ws.toArray)(hv:vs≠[])
    (h1:ws=[]->Q (.ref t) s) (h2:ws≠[]->Q (.ref s.heap.objs.size) {s with heap:=s.heap.push {cls:=.type "tuple", data:=.seq (vs++ws).toArray} })
    (hsz:vs.length+ws.length<=sizeLine):C8 (D9 prog w) A (binaryOp .Add (.ref t) (.ref b)) Q E s:=by
  obtain⟨⟨cls,k,data,sl⟩,h,j,n,hd⟩:=id m;obtain⟨⟨l,f,data2,c⟩,a,d,i,gK⟩:=id hb;simp only at j hd d gK;subst j hd d gK;have e:vs.toArray++ws.toArray=(vs++ws).toArray:=by simp
  by_cases g:ws=[];exact yK ⟨_,h,rfl⟩ ⟨_,a,rfl⟩ wB xY Z0 Y4 (X6 _ _)
    (tuple_addW1 t b vs.toArray ws.toArray n i k f sl c (by simpa using hv) (by simp[g])) ⟨h,a,h1 g⟩
  refine yK ⟨_,h,rfl⟩ ⟨_,a,rfl⟩ wB xY Z0 Y4 (X6 _ _)
    (tuple_addW2 t b vs.toArray ws.toArray n i k f sl c (by simpa using hv) (by simpa using g) (by rw[B0,B0];exact hsz)) ⟨h,a,?_⟩
  rw[e];exact h2 g
noncomputable def sIx(n d:Nat):Option Int->Nat
 |none=>d
 |some v=>if v < 0 then(v+(n:Int)).toNat else min v.toNat n
theorem zCY(n d k:Nat):sIx n d (_s (k:Int))=min k n:=by show(if(k:Int) < 0 then((k:Int)+(n:Int)).toNat else min (k:Int).toNat n)=min k n;rw[if_neg `o,T8]
theorem zCQ(n d:Nat)(hd:d<=n)(o:Option Int):sIx n d o<=n:=by
 cases o with|none=>exact hd|some v=>show(if v < 0 then(v+(n:Int)).toNat else min v.toNat n)<=n;by_cases hv:v < 0;rw[if_pos hv];omega;rw[if_neg hv];exact yi _ _
theorem Th(v:Int)(n d:Nat):(if v < 0 then max (v+(n:Int)) 0 else min v (n:Int))=((sIx n d (_s v):Nat):Int):=by show(if v < 0 then max (v+(n:Int)) 0 else min v (n:Int))=(((if v < 0 then(v+(n:Int)).toNat else min v.toNat n):Nat):Int);by_cases hv:v < 0;simp only[if_pos hv];omega;simp only[if_neg hv];omega
theorem Ro(lo hi:Option Int)(n:Nat):M7 lo hi 1 (n:Int)=(((sIx n 0 lo:Nat):Int),((sIx n n hi:Nat):Int)):=by
 have h1:¬((1:Int) < 0):=by omega
 unfold M7;simp only[h1,if_false];refine Prod.ext ?_ ?_;cases lo with|none=>rfl|some v=>exact Th v n 0
 cases hi with|none=>rfl|some v=>exact Th v n n
theorem Qi(i j:Nat):J9 (i:Int) (j:Int) 1=j-i:=by
 unfold J9;have h1:(1:Int) > 0:=by omega
 simp only[h1,if_true,zz];split<;>omega
theorem GH{v:_v}{o:Option Int}{Q:Option Int->A7->Prop}(p:xg v o)(h:Q o s):C8 (D9 prog w) A (y9 v) Q E s:=by
 cases p with|none=>exact vD h|int i t=>exact slicePart_int h
theorem zAg{sl:B8}{vl c:_v}{lo hi:Option Int}{n:Nat}{Q:Int×Int×Nat->A7->Prop}(hs:s.heap.IsSliceOf sl vl c .none)(pl:xg vl lo)(d:xg c hi)
    (h:Q (((sIx n 0 lo:Nat):Int),1,sIx n n hi-sIx n 0 lo) s):C8 (D9 prog w) A (S3 (.ref sl) (pure (n:Int))) Q E s:=by
  obtain⟨os,a,e,b⟩:=id hs;unfold S3 vQ;refine A1 (A1 (M3 a b (x:=vl) rfl (A1 (M3 a b (x:=c) rfl (A1 (M3 a b (x:=.none) rfl (A6 ?_)))))));refine A1 (vD ?_);show C8 _ _ (if((1:Int)==0)=_t then _ else _) _ _ s;rw[if_neg `d];refine A1 (GH pl (A1 (GH d (A1 (A6 ?_)))));show C8 _ _ (match M7 lo hi 1 (n:Int)with|(lo,hi)=>pure (lo,(1:Int),J9 lo hi 1)) _ _ s;rw[Ro lo hi n];show C8 _ _ (pure (((sIx n 0 lo:Nat):Int),(1:Int),J9 ((sIx n 0 lo:Nat):Int) ((sIx n n hi:Nat):Int) 1)) _ _ s;rw[Qi];exact A6 h
theorem XN(xs:Array _v)(i k:Nat):((B2 k).filterMap fun(m:Nat)=>xs[((i:Int)+(m:Int) * 1).toNat]?).toArray=((xs.toList.drop i).take k).toArray:=by
 have e:(fun(m:Nat)=>xs[((i:Int)+(m:Int) * 1).toNat]?)=λm=>xs[i+m]?:=by
  funext m;have:((i:Int)+(m:Int) * 1).toNat=i+m:=by omega
  rw[this]
 rw[e];have:=pick_run xs i k;rw[vE]at this;have a:((λx=>xs[x]?)∘λx=>i+x)=λm=>xs[i+m]?:=rfl;rw[a]at this;rw[this]
theorem zBB{t sl:B8}{items:Array _v}{vl g:_v}{lo hi:Option Int}{Q:_v->A7->Prop}(b:IsTup s.heap t items)(hs:s.heap.IsSliceOf sl vl g .none)(pl:xg vl lo)(i:xg g hi)
    (j:¬(sIx items.size 0 lo=0/\sIx items.size items.size hi=items.size))
    (h:Q (.ref s.heap.objs.size) {s with heap:=s.heap.push {cls:=.type "tuple", data:=.seq ((items.toList.drop (sIx items.size 0 lo)).take (sIx items.size items.size hi-sIx items.size 0 lo)).toArray} })
    (hsz:items.size<=sizeLine):C8 (D9 prog w) A (k8 (.ref t) (.ref sl)) Q E s:=by
  have a:sizeOk (.seq ((items.toList.drop (sIx items.size 0 lo)).take (sIx items.size items.size hi-sIx items.size 0 lo)).toArray):=by show((items.toList.drop (sIx items.size 0 lo)).take (sIx items.size items.size hi-sIx items.size 0 lo)).toArray.size<=sizeLine;rw[B0,N6,i9,H9];omega
  have o:sIx items.size items.size hi<=items.size:=zCQ _ _ (B3 _) hi;obtain⟨os,c,e,k⟩:=id hs;have f:s.TypeIs (.ref sl) "slice" := ⟨os,c,e⟩;unfold k8
  try with_reducible refine J0 ?_
  first|refine A1 (A6 ?_)|skip
  refine A1 (vV b.typeIs `d ?_);refine A1 (N7 (name:=Z1 "__getitem__") b.typeIs G0
    (L8 G0 b.typeIs o8 ?_ (vF _ _)))
  show C8 _ _ (S0 (.ref t) >>= _) _ _ s;refine A1 (xZ b ?_);refine A1 (U7 f ?_);rw[if_pos `d];refine A1 (zAg hs pl i ?_);have d:¬((((sIx items.size 0 lo:Nat):Int)==0&&(1:Int)==1&&(sIx items.size items.size hi-sIx items.size 0 lo)==items.size)=_t):=by intro q;rw[A3,A3]at q;have n:((sIx items.size 0 lo:Nat):Int)=0:=eq_of_beq q.1.1;have l:sIx items.size items.size hi-sIx items.size 0 lo=items.size:=eq_of_beq q.2;exact j ⟨by omega,by omega⟩
  show C8 _ _ (if(((sIx items.size 0 lo:Nat):Int)==0&&(1:Int)==1&&(sIx items.size items.size hi-sIx items.size 0 lo)==items.size)=_t then _ else _) _ _ s;rw[if_neg d,XN]
  first
    |exact A1 (m:=K2 _) (J4 (A6 ⟨_,rfl,A6 h⟩) a)
    |exact A1 (m:=K2 _) (J4 (A1 (A6 (A6 ⟨_,rfl,A6 h⟩))) a)
    |exact A1 (A1 (m:=K2 _) (J4 (A6 (A6 ⟨_,rfl,A6 h⟩)) a))
    |exact A1 (A1 (m:=K2 _) (J4 (A6 ⟨_,rfl,A6 h⟩) a))
end
end HT
namespace L2
open PySem PySem.Spec PyProof.Rows
abbrev TO:=St->Hp->(Option Int->Hp->Prop)->Prop
def PO(X:Cx)(e:Option Expr)(t:TO):Prop:=
 ∀(pins:List (B8×Obj))(s:A7)(σ:St)(H:Hp)(Q:Option Int->Hp->Prop),Inv X pins σ H s->t σ H Q ->
  C8 (D9 X.prog X.w) X.A (evalPart e X.env) (λu s'=>∃o H',Inv X pins σ H' s'/\xg u o/\Q o H') X.xe s
abbrev ai:TO:=λ_ H Q=>Q _n H
abbrev zBY(t:TE):TO:=λσ H Q=>t σ H λx a=>∃i,x=.int i/\Q (_s i) a
theorem RJ{ns:List Int}:∀{us:List _v},AG (ns.map V.int) us->k9 us ns:=by
 induction ns with
 |nil=>intro us r;rw[N0]at r;cases r;exact .nil
 |cons n ns c=>
  intro us r;rw[B7]at r;cases r with|cons b a=>obtain⟨t,e⟩:=b;subst e;exact .cons n t (c a)
section
variable{X:Cx}{e:Expr}{te:TE}{lo hi:Option Expr}{tl th:TO}{pos p2:Pos}
theorem bu:PO X _n ai:=by intro pins s σ H Q I h;rw[xa];exact A6 ⟨_n,H,I,.none,h⟩
theorem bt(h:PE X e te):PO X (_s e) (zBY te):=by intro pins s σ H Q I c;rw[evalPart_some];refine BM (h pins s σ H _ I c) λu s1 ⟨x,f,d,a,b⟩=>?_;obtain⟨i,rfl,q⟩:=b;obtain⟨t,rfl⟩:=a;exact⟨_s i,f,d,.int i t,q⟩
def Vp(X:Cx)(r:V->Option Int->Option Int->Hp->VK->Prop):Prop:=
 ∀(pins:List (B8×Obj))(s:A7)(σ:St)(H:Hp)(x:V)(v vl a:_v)(lo hi:Option Int)(sl:B8)(Q:VK),Inv X pins σ H s->RelV x v->s.heap.IsSliceOf sl vl a .none->xg vl lo->xg a hi->r x lo hi H Q ->
  ∃T id,xh (.type T) "__getitem__" = pure (_s (.builtin id))/\s.TypeIs v T/\C8 (D9 X.prog X.w) X.A (k8 v (.ref sl)) (EP X pins σ Q) X.xe s
theorem Vp.or{r c:V->Option Int->Option Int->Hp->VK->Prop}(h:Vp X r)(h':Vp X c):Vp X (λx lo hi H Q=>r x lo hi H Q\/c x lo hi H Q):=by
 intro pins s σ H x v vl a lo hi sl Q I b hs pl pu q;rcases q with q|q
 exact h pins s σ H x v vl a lo hi sl Q I b hs pl pu q;exact h' pins s σ H x v vl a lo hi sl Q I b hs pl pu q
abbrev tu(r:V->Option Int->Option Int->Hp->VK->Prop)(te:TE)(tl th:TO):TE:=λσ H Q=>te σ H λx c=>tl σ c λl b=>th σ b λu a=>r x l u a Q
theorem XT{r:V->Option Int->Option Int->Hp->VK->Prop}(o:Vp X r)(he:PE X e te)(hl:PO X lo tl)(m:PO X hi th):PE X (.Subscript e (.Slice lo hi _n p2) pos) (tu r te tl th):=by intro pins s σ H Q I h;refine zV (BM (he pins s σ H _ I h) λv s1 ⟨x,D,B,f,j⟩=>?_);refine wpAny_Slice (BM (hl pins s1 σ D _ B j) λvl s2 ⟨l,C,z,pl,i⟩=>BM (m pins s2 σ C _ z i) λc a ⟨u,d,y,k,g⟩=>?_);rw[xa];refine A6 ?_;have t:Inv X pins σ d {a with heap:=a.heap.push {cls:=.type "slice", data:=.fields #[vl,c,.none]} }:=y.kept (t':=a.toks) λb ob q=>A5 _ q;obtain⟨T,id,hT,n,p⟩:=o pins {a with heap:=a.heap.push {cls:=.type "slice", data:=.fields #[vl,c,.none]} } σ d x v vl c l u a.heap.objs.size Q t f (vG ..) pl k g;show C8 (D9 X.prog X.w) X.A (l7 e (.Slice lo hi _n p2) v (.ref a.heap.objs.size)) (EP X pins σ Q) X.xe {a with heap:=a.heap.push {cls:=.type "slice", data:=.fields #[vl,c,.none]} };exact zW (ops:=[.ref a.heap.objs.size,v]) n hT p (by with_unfolding_all rfl)
def HC(xs:List V)(lo hi:Option Int):List V:=(xs.drop (HT.sIx xs.length 0 lo)).take (HT.sIx xs.length xs.length hi-HT.sIx xs.length 0 lo)
theorem IR(xs:List V)(lo hi:Option Int):(HC xs lo hi).length<=xs.length:=by unfold HC;rw[N6,i9];omega
def oF(K:W.Frag):V->Option Int->Option Int->Hp->VK->Prop:=λx lo hi H Q=>∃a xs,x=.ref a/\Fo K H a xs /\
 ¬(HT.sIx xs.length 0 lo=0/\HT.sIx xs.length xs.length hi=xs.length)/\∀p,H p=_n->Q (.ref p) (upd H p (.tup (HC xs lo hi)))
theorem iS:Vp X (oF X.K):=by
 intro pins s σ H x v vl l lo hi sl Q I g hs pl i h;obtain⟨a,xs,rfl,j,k,q⟩:=h;cases g;obtain⟨d,r,f,hz⟩:=I.tuple j;have c:d.toArray.size=xs.length:=by rw[B0];exact r.length.symm
 refine⟨"tuple", _,G0.lookup,f.typeIs,?_⟩;refine HT.zBB f hs pl i (by rw[c];exact k) ?_ (by rw[c];exact hz);rw[c];refine⟨.ref s.heap.objs.size,_,I.laid (t':=s.toks) (o:=.tup (HC xs lo hi)) (λb ob q=>A5 _ q) (B3 _) ?_,rfl,q _ (I.hok.fresh (B3 _))⟩;exact⟨A8 (IR xs lo hi) hz,_,(r.drop (HT.sIx xs.length 0 lo)).take (HT.sIx xs.length xs.length hi-HT.sIx xs.length 0 lo),IG.new _ _⟩
def fY(K:W.Frag):R2:=λx y H Q=>∃a b xs ys,x=.ref a/\y=.ref b/\Fo K H a xs/\Fo K H b ys/\xs≠[]/\xs.length+ys.length<=sizeLine /\
 (ys=[]->Q (.ref a) H)/\(ys≠[]->∀p,H p=_n->Q (.ref p) (upd H p (.tup (xs++ys))))
theorem AG.zBx{xs:List V}{us:List _v}(r:AG xs us):us=[]↔xs=[]:=by
 cases r with|nil=>simp|cons _ _=>simp
theorem cM:Dk X (binaryOp .Add) (fY X.K):=by intro pins s σ H x y v u Q I i g h;obtain⟨a,b,xs,ys,rfl,rfl,ha,hb,m,hz,k,j⟩:=h;cases i;cases g;obtain⟨l,d,p1,_⟩:=I.tuple ha;obtain⟨f,c,p2,_⟩:=I.tuple hb;refine HT.zDa p1 p2 (λz=>m (d.zBx.mp z)) (λz=>⟨.ref a,H,I,rfl,k (c.zBx.mp z)⟩) (λz=>?_) (by rw[<- d.length,<- c.length];exact hz);refine⟨.ref s.heap.objs.size,_,I.laid (t':=s.toks) (o:=.tup (xs++ys)) (λb ob q=>A5 _ q) (B3 _) ?_,rfl,j (λw=>z (c.zBx.mpr w)) _ (I.hok.fresh (B3 _))⟩;exact⟨by rw[B5];exact hz,_,d.append c,IG.new _ _⟩
end
noncomputable def Kh(n:Nat)(i:Int):Option Nat:=if 0<=i then(if i < n then _s i.toNat else _n)else if -(n:Int)<=i then _s (i+n).toNat else _n
variable{α:Type}
def HJ(xs:List α)(i:Int):Option α:=(Kh xs.length i).bind λj=>xs[j]?
theorem Sv{n:Nat}{i:Int}{j:Nat}(h:Kh n i=_s j):wC i n=_s j/\j < n/\-(n:Int)<=i/\i < n:=by unfold Kh at h;by_cases a:0<=i;rw[if_pos a]at h;by_cases h1:i < n;rw[if_pos h1]at h;have e:i.toNat=j:=C5 h;exact⟨by rw[yv a h1,e],by omega,by omega,h1⟩;rw[if_neg h1]at h;cases h;rw[if_neg a]at h;by_cases h1:-(n:Int)<=i;rw[if_pos h1]at h;have e:(i+n).toNat=j:=C5 h;exact⟨by rw[yL `o h1,e],by omega,h1,by omega⟩;rw[if_neg h1]at h;cases h
theorem NS{xs:List α}{i:Int}{v:α}(h:HJ xs i=_s v):∃j,wC i xs.length=_s j/\xs[j]?=_s v/\j < xs.length/\-(xs.length:Int)<=i/\i < xs.length:=by
 unfold HJ at h;cases e:Kh xs.length i with|none=>rw[e]at h;cases h|some j=>rw[e]at h;obtain⟨h1,h2,h3,h4⟩:=Sv e;exact⟨j,h1,h,h2,h3,h4⟩
def Tu(b:Expr):Prop:=∀o i,vW b _f o i=operate [o,i] (k8 o i)
def Tv(X:Cx)(r:R2):Prop:=
 ∀(a slice:Expr)(pins:List (B8×Obj))(s:A7)(σ:St)(H:Hp)(x y:V)(v u:_v)(Q:VK),Inv X pins σ H s->RelV x v->RelV y u->r x y H Q ->
  vW slice _f v u=operate [v,u] (k8 v u)->C8 (D9 X.prog X.w) X.A (l7 a slice v u) (EP X pins σ Q) X.xe s
def aI(X:Cx)(id:String)(r:V->List V->Hp->VK->Prop):Prop:=
 ∀(pins:List (B8×Obj))(s:A7)(σ:St)(H:Hp)(x:V)(xs:List V)(v:_v)(us:List _v)(Q:VK),Inv X pins σ H s->RelV x v->AG xs us->r x xs H Q ->
  C8 (D9 X.prog X.w) X.A (call (.builtin id) (v::us)) (EP X pins σ Q) X.xe s
variable{pins:List (B8×Obj)}{s:A7}
section
variable{X:Cx}{a b:Expr}{ta tb:TE}{pos:Pos}
theorem Tv.or{r e:R2}(h:Tv X r)(h':Tv X e):Tv X (λx y H Q=>r x y H Q\/e x y H Q):=by
 intro value slice pins s σ H x y v u Q I d c q hs;rcases q with q|q
 exact h value slice pins s σ H x y v u Q I d c q hs;exact h' value slice pins s σ H x y v u Q I d c q hs
theorem aI.or{id:String}{r d:V->List V->Hp->VK->Prop}(h:aI X id r)(h':aI X id d):aI X id (λx xs H Q=>r x xs H Q\/d x xs H Q):=by
 intro pins s σ H x xs v us Q I c rs q;rcases q with q|q
 exact h pins s σ H x xs v us Q I c rs q;exact h' pins s σ H x xs v us Q I c rs q
theorem oh{r:R2}(e:Tv X r)(ha:PE X a ta)(hb:PE X b tb)(hs:Tu b):PE X (.Subscript a b pos) (rP r ta tb):=by intro pins s σ H Q I h;exact zV (mO ha hb I h λv u s2 x y g f d c q=>e a b pins s2 σ g x y v u Q f d c q (hs _ _))
def oP(K:W.Frag):R2:=λx y H Q=>∃p xs i v,x=.ref p/\y=.int i/\Dl K H p xs/\HJ xs i=_s v/\Q v H
def oN(K:W.Frag):R2:=λx y H Q=>∃p xs i v,x=.ref p/\y=.int i/\Fo K H p xs/\HJ xs i=_s v/\Q v H
def oO:R2:=λx y H Q=>∃z i c,x=.str z/\y=.int i/\z.length<=sizeLine/\HJ z.cps.toList i=_s c/\Q (.str ⟨#[c]⟩) H
theorem cw:Tv X (oP X.K):=by
  intro c slice pins s σ H x y v u Q I m l h hs;obtain⟨p,xs,i,z,rfl,rfl,n,he,q⟩:=h;cases m;obtain⟨t,rfl⟩:=l;obtain⟨e,r,pl,hz⟩:=I.list n;obtain⟨j,h1,h2,h3,h4,h5⟩:=NS he;obtain⟨w,k,d⟩:=r.get h2;have hl:=r.length;have o:=Hr;have fin:EP X pins σ Q w s:=⟨z,H,I,d,q⟩;by_cases g:0<=i;have f:i.toNat=j:=by rw[yv g h5]at h1;exact C5 h1
  exact item_listR pl.isList g `o (by rw[f];simpa using k) fin hs;have f:(i+(e.toArray.size:Int)).toNat=j:=by rw[yL `o h4]at h1;rw[B0,<- hl];exact C5 h1
  exact wV (x:=w) pl.isList.typeIs vX.lookup
    (wpAny_getItem_list_neg (Q:=λr s'=>r=w/\EP X pins σ Q r s') pl.isList `o (by rw[B0]<;>omega) `o (by rw[f];simpa using k) ⟨rfl,fin⟩) hs
theorem kj:Tv X (oN X.K):=by
 intro c slice pins s σ H x y v u Q I f e h hs;obtain⟨p,xs,i,z,rfl,rfl,k,he,q⟩:=h;cases f;obtain⟨t,rfl⟩:=e;obtain⟨g,r,pl,hz⟩:=I.tuple k;obtain⟨j,h1,h2,h3,h4,h5⟩:=NS he;obtain⟨w,l,d⟩:=r.get h2;have hl:=r.length;have m:=Hr;have fin:EP X pins σ Q w s:=⟨z,H,I,d,q⟩;exact wV (x:=w) pl.typeIs slot_tuple_getitem.lookup
  (getItem_tuple (j:=j) (Q:=λr s'=>r=w/\EP X pins σ Q r s') pl `o `o (by rw[B0,<- hl];exact h1) (by simpa using l) ⟨rfl,fin⟩) hs
theorem km:Tv X oO:=by
 intro d slice pins s σ H x y v u Q I f e h hs;obtain⟨z,i,c,rfl,rfl,hz,he,q⟩:=h;obtain⟨t,rfl⟩:=f;obtain⟨t',rfl⟩:=e;obtain⟨j,h1,h2,h3,h4,h5⟩:=NS he;have hl:z.cps.toList.length=z.length:=by simp[Str.length]
 rw[hl]at h1 h4 h5;have l:=Hr;exact zW (zX s z t) slot_str_getitem.lookup (getItem_str (c:=c) (by have k:decide (i < -(2 ^ 63:Int))=false:=decide_eq_false `o;have g:decide (i >= 2 ^ 63)=false:=decide_eq_false `o;rw[k,g,Bool.or_false]) (by rw[h1];simpa using h2) ⟨.str ⟨#[c]⟩,H,I.tok _,⟨_,rfl⟩,q⟩) hs
def iz(K:W.Frag):R2:=λx y H Q=>oP K x y H Q\/oN K x y H Q\/oO x y H Q
theorem kn:Tv X (iz X.K):=cw.or (kj.or km)
theorem Qx(c:List _v)(n j:Nat)(u:_v):L5 (·.setIfInBounds j u) {cls:=.type "list", data:=.seq c.toArray n}={cls:=.type "list", data:=.seq (c.set j u).toArray n}:=by simp[L5]
theorem Inv.lst{σ:St}{H:Hp}{p:B8}{xs:List V}(I:Inv X pins σ H s)(h:H p=_s (.lst xs)) :
    ∃(c:List _v)(n:Nat),AG xs c/\s.heap.get? p=_s {cls:=.type "list", data:=.seq c.toArray n}/\xs.length<=sizeLine:=by
  obtain⟨z,c,n,r,e⟩:=I.hok p _ h;exact⟨c,n,r,e,z⟩
theorem Inv.zEK{σ:St}{H:Hp}{p:B8}{xs ys:List V}{c its':List _v}{n d:Nat}{f:Obj->Obj}(I:Inv X pins σ H s)(h:H p=_s (.lst xs))
    (g:s.heap.get? p=_s {cls:=.type "list", data:=.seq c.toArray n}) (hf:f {cls:=.type "list", data:=.seq c.toArray n}={cls:=.type "list", data:=.seq its'.toArray d}) (r:AG ys its') (hz:ys.length<=sizeLine) (t:Nat) :
    Inv X pins σ (upd H p (.lst ys)) {s with heap:=s.heap.update p f,toks:=t}:=by
  have e:(s.heap.update p f).get? p=_s {cls:=.type "list", data:=.seq its'.toArray d}:=by rw[W0 f g (by rw[hf]<;>rfl),hf]
  refine I.write (x:=p) (e:=p) (by rw[h];trivial) (.inl rfl) (λb u hb q=>(U8 _ _ (Ne.symm hb)).trans q) ⟨_,e⟩ ?_;exact⟨hz,its',d,r,e⟩
def Wq:V->V->V->Hp->(Hp->Prop)->Prop:=λo i v H Q=>∃p xs k j,o=.ref p/\i=.int k/\H p=_s (.lst xs)/\Kh xs.length k=_s j/\Q (upd H p (.lst (xs.set j v)))
theorem set_list:Kv X Wq:=by
  intro pins s σ H o i v x y u Q I ro m rv h;obtain⟨p,xs,k,j,rfl,rfl,f,w,q⟩:=h;cases ro;obtain⟨t,rfl⟩:=m;obtain⟨c,n,r,d,hz⟩:=I.lst f;obtain⟨h1,h2,h3,h4⟩:=Sv w;have hl:=r.length;have z:=Hr;have l:Inv X pins σ (upd H p (.lst (xs.set j v))) {s with heap:=s.heap.update p (L5 (·.setIfInBounds j u))}:=
    I.zEK f d (Qx c n j u) (r.set rv j) (by rw[D8];exact hz) s.toks
  by_cases g:0<=k;have e:k.toNat=j:=by rw[yv g h4]at h1;exact C5 h1
  exact W.ki_setAt d g `o (by rw[B0,<- hl];exact h4) (by rw[e];exact⟨_,l,q⟩);have e:(k+(c.toArray.size:Int)).toNat=j:=by rw[yL `o h3]at h1;rw[B0,<- hl];exact C5 h1
  exact W.ki_setBack d `o (by rw[B0,<- hl];exact h3) `o (by rw[e];exact⟨_,l,q⟩)
theorem cl(i:Int)(n:Nat):max 0 (min (if i < 0 then i+(n:Int)else i) (n:Int))=(((if i < 0 then(i+(n:Int)).toNat else min i.toNat n):Nat):Int):=by
 by_cases h:i < 0;rw[if_pos h,if_pos h,zA `o,Int.max_comm];exact(Int.toNat_eq_max _).symm;obtain⟨k,rfl⟩:=Int.eq_ofNat_of_zero_le (Int.not_lt.mp h);rw[if_neg h,if_neg h,T8];rcases X1 k n with c|c
 rw[R1 c,zA (z4.mpr c)];exact wD (Y1 _);rw[U4 c,Int.min_eq_right (z4.mpr c)];exact wD (Y1 _)
theorem MQ(lo hi:Option Int)(n:Nat):(yw lo hi _n n).1=((HT.sIx n 0 lo:Nat):Int)/\(yw lo hi _n n).2.1=((HT.sIx n n hi:Nat):Int)/\(yw lo hi _n n).2.2=1:=by
 refine⟨?_,?_,rfl⟩;cases lo with|none=>rfl|some i=>exact cl i n
 cases hi with|none=>rfl|some i=>exact cl i n
theorem Km(c:List _v)(lo hi:Option Int):slicePick c.toArray lo hi _n=((c.drop (HT.sIx c.length 0 lo)).take (HT.sIx c.length c.length hi-HT.sIx c.length 0 lo)).toArray:=by obtain⟨h1,h2,h3⟩:=MQ lo hi c.toArray.size;unfold slicePick;rw[h1,h2,h3];simp only[sliceRange_one,pick_run,B0]<;>rfl
def oH(K:W.Frag):V->Option Int->Option Int->Hp->VK->Prop:=λx lo hi H Q=>∃a xs,x=.ref a/\Dl K H a xs/\∀p,H p=_n->Q (.ref p) (upd H p (.lst (HC xs lo hi)))
theorem bE:Vp X (oH X.K):=by intro pins s σ H x v vl j lo hi sl Q I e hs pl f h;obtain⟨a,xs,rfl,i,q⟩:=h;cases e;obtain⟨g,r,d,hz⟩:=I.list i;have c:=r.length;refine⟨"list", _,vX.lookup,d.isList.typeIs,?_⟩;refine vi d.isList hs pl f .none `s ?_ (by rw[B0]<;>omega);rw[Km,<- c];refine⟨.ref s.heap.objs.size,_,I.laid (t':=s.toks) (o:=.lst (HC xs lo hi)) (λb ob q=>A5 _ q) (B3 _) ?_,rfl,q _ (I.hok.fresh (B3 _))⟩;exact⟨A8 (IR xs lo hi) hz,_,0,(r.drop (HT.sIx xs.length 0 lo)).take (HT.sIx xs.length xs.length hi-HT.sIx xs.length 0 lo),C9 _ rfl⟩
noncomputable def KF:V->Bool
 |.non=>_t
 |.bl _=>_t
 |.int _=>_t
 |.str _=>_t
 |_=>_f
noncomputable def eqV:V->V->Bool
 |.non,.non=>_t
 |.bl a,.bl b=>a==b
 |.bl a,.int b=>(if a then 1 else 0)==b
 |.int a,.bl b=>a==(if b then 1 else 0)
 |.int a,.int b=>a==b
 |.str a,.str b=>a==b
 |_,_=>_f
theorem lK{A:J3}{y x:V}{u v:_v}(d:RelV y u)(c:RelV x v)(e:KF y=_t)(fx:KF x=_t):SeqAt.EqAt A s u v (eqV y x):=by
 cases y with
 |non=>
  cases d;cases x with|non=>cases c;exact SeqAt.EqAt.same _|bl b=>cases c;exact SeqAt.EqAt.none_bool b|int b=>obtain⟨t,rfl⟩:=c;exact SeqAt.EqAt.none_int b t|str b=>obtain⟨t,rfl⟩:=c;exact SeqAt.EqAt.none_str b t|_=>exact absurd (show _f=_t from fx) D2
 |bl a=>
  cases d;cases x with|non=>cases c;exact SeqAt.EqAt.bool_none a|bl b=>cases c;exact SeqAt.EqAt.bool_bool a b|int b=>obtain⟨t,rfl⟩:=c;exact SeqAt.EqAt.bool_int a b t|str b=>obtain⟨t,rfl⟩:=c;exact SeqAt.EqAt.bool_str a b t|_=>exact absurd (show _f=_t from fx) D2
 |int a=>
  obtain⟨t',rfl⟩:=d;cases x with|non=>cases c;exact SeqAt.EqAt.int_none a t'|bl b=>cases c;exact SeqAt.EqAt.int_bool a t' b|int b=>obtain⟨t,rfl⟩:=c;exact SeqAt.EqAt.int_int a t' b t|str b=>obtain⟨t,rfl⟩:=c;exact xb a t' b t|_=>exact absurd (show _f=_t from fx) D2
 |str a=>
  obtain⟨t',rfl⟩:=d;cases x with|non=>cases c;exact SeqAt.EqAt.str_none a t'|bl b=>cases c;exact SeqAt.EqAt.str_bool a t' b|int b=>obtain⟨t,rfl⟩:=c;exact xc a t' b t|str b=>obtain⟨t,rfl⟩:=c;exact SeqAt.EqAt.str_str a t' b t|_=>exact absurd (show _f=_t from fx) D2
 |_=>exact absurd (show _f=_t from e) D2
theorem Mg:Dk X (K6 .NotIn) (λx y H Q=>∃i j,x=.str i/\y=.str j/\Q (.bl (!(!(Q4 j i 0 j.length 1).isEmpty))) H):=by intro pins s σ H x y v u Q I d c h;obtain⟨i,j,rfl,rfl,q⟩:=h;obtain⟨t,rfl⟩:=d;obtain⟨t',rfl⟩:=c;exact notIn_str ⟨.bl _,H,I,rfl,q⟩
theorem BX.or{f:_v}{r c:List V->Hp->VK->Prop}(h:BX X f r)(h':BX X f c):BX X f (λxs H Q=>r xs H Q\/c xs H Q):=by
 intro pins s σ H xs us Q I rs q;rcases q with q|q
 exact h pins s σ H xs us Q I rs q;exact h' pins s σ H xs us Q I rs q
theorem NO:BX X (.type "list") (λxs H Q=>∃p ys,xs=[.ref p]/\(Dl X.K H p ys\/Fo X.K H p ys)/\∀l,H l=_n->Q (.ref l) (upd H l (.lst ys))):=by
  intro pins s σ H xs us Q I r h;obtain⟨p,ys,rfl,g,q⟩:=h;obtain⟨u,rfl,m⟩:=vals1 r;cases m;have fin:∀(c:List _v),AG ys c->ys.length<=sizeLine->∀(h':K4)(f:Nat),(∀b o',s.heap.get? b=_s o'->h'.get? b=_s o') ->
      h'.get? s.heap.objs.size=_s {cls:=.type "list", dict:=_n,data:=.seq c.toArray f,slots:=#[]}->EP X pins σ Q (.ref s.heap.objs.size) {s with heap:=h' }:=λc d hz h' f kp e =>
    ⟨.ref s.heap.objs.size,_,I.laid (t':=s.toks) kp (B3 _) (show BC X.prog X.w _ h' _ (.lst ys)from⟨hz,c,f,d,e⟩),rfl,q _ (I.hok.fresh (B3 _))⟩
  rcases g with g|g
  obtain⟨c,d,pl,hz⟩:=I.list g;have i:=d.length;obtain⟨o,j,k,n,hd⟩:=pl.isList;exact call_list_seq p (.inl rfl) j k hd (λh' f kp e=>fin c d hz h' f kp e) (by simp only[B0]<;>omega);obtain⟨c,d,pl,hz⟩:=I.tuple g;have i:=d.length;obtain⟨o,j,k,n,hd⟩:=pl;exact call_list_seq p (.inr rfl) j k hd (λh' f kp e=>fin c d hz h' f kp e) (by simp only[B0]<;>omega)
theorem Kr:BX X (.type "tuple") (λxs H Q=>∃p ys,xs=[.ref p]/\((Dl X.K H p ys/\∀l,H l=_n->Q (.ref l) (upd H l (.tup ys)))\/(Fo X.K H p ys/\Q (.ref p) H))):=by
 intro pins s σ H xs us Q I r h;obtain⟨p,ys,rfl,h⟩:=h;obtain⟨u,rfl,j⟩:=vals1 r;cases j;rcases h with⟨f,q⟩|⟨f,q⟩
 obtain⟨c,d,pl,hz⟩:=I.list f;have g:=d.length;refine call_tuple_list pl.isList (λh' kp=>?_) (by simp only[B0]<;>omega);have i:Inv X pins σ H {s with heap:=h' }:=I.kept (t':=s.toks) kp;have k:Inv X pins σ (upd H h'.objs.size (.tup ys)) {s with heap:=h'.push {cls:=.type "tuple", data:=.seq c.toArray} }:=
  i.laid (t':=s.toks) (λb o e=>A5 _ e) (B3 _) (show BC X.prog X.w _ _ _ (.tup ys)from⟨hz,c,d,IG.new _ _⟩)
 exact⟨.ref h'.objs.size,_,k,rfl,q _ (i.hok.fresh (B3 _))⟩;obtain⟨c,d,pl,hz⟩:=I.tuple f;exact call_tuple_same pl ⟨.ref p,H,I,rfl,q⟩
def rN(K:W.Frag)(T:String)(x:V)(H:Hp):Prop:=match x with
  |.str _=>T = "str"
  |.int _=>T = "int"
  | .ref p=>(T = "list" /\ ∃xs,Dl K H p xs)\/(T = "tuple" /\ ∃o,K.lookup p=_s o/\o.cls=.type "tuple" /\ o.dict=_n) \/
      (T = "dict" /\ ((∃kvs,H p=_s (.dK kvs))\/(∃kvs,H p=_s (.dT kvs))\/∃kvs,H p=_s (.dN kvs)))\/(T = "set" /\ ∃S n,H p=_s (.set S n))
  |_=>False
theorem WB{σ:St}{H:Hp}{T:String}{x:V}{v:_v}(I:Inv X pins σ H s)(r:RelV x v)(ty:rN X.K T x H) :
    s.TypeIs v T/\∀a,v=.ref a->∃ob,s.heap.get? a=_s ob/\ob.dict=none:=by
  cases x with
  |str z=>obtain⟨t,rfl⟩:=r;cases(show T = "str" from ty);exact⟨zX s z t,λ_ e=>nomatch e⟩
  |int i=>obtain⟨t,rfl⟩:=r;cases(show T = "int" from ty);exact⟨wW s i t,λ_ e=>nomatch e⟩
  |ref p=>
    cases r;rcases ty with⟨rfl,xs,h⟩|⟨rfl,o,d,j,hd⟩|⟨rfl,d⟩|⟨rfl,S,n,d⟩
    obtain⟨g,_,pl,_⟩:=I.list h;refine⟨pl.isList.typeIs,λa e=>?_⟩;cases e;obtain⟨o,n,e,c,hd,_⟩:=pl;exact⟨o,e,hd⟩;refine⟨⟨o,I.kIn p o d,j⟩,λa e=>?_⟩;cases e;exact⟨o,I.kIn _ o d,hd⟩;have z:∃o,s.heap.get? p=_s o/\o.ExactDict:=by rcases d with⟨kvs,d⟩|⟨kvs,d⟩|⟨kvs,d⟩<;>obtain⟨_,_,_,_,o,_,_,e,ex,_⟩:=I.hok p _ d<;>exact⟨o,e,ex⟩
    obtain⟨o,e,ex⟩:=z;refine⟨⟨o,e,ex.1⟩,λa f=>?_⟩;cases f;exact⟨o,e,ex.2.1⟩;obtain⟨o,_,_,_,e,ex,_⟩:=I.hok p _ d;refine⟨⟨o,e,ex.1⟩,λa f=>?_⟩;cases f;exact⟨o,e,ex.2.1⟩
  |_=>exact E7 ty
abbrev sR(K:W.Frag)(T:String)(r:V->List V->Hp->VK->Prop)(to:TE):TE:=λσ H Q=>to σ H λx c=>rN K T x c/\r x [] c Q
abbrev aO(K:W.Frag)(T:String)(r:V->List V->Hp->VK->Prop)(to:TE)(t:TA):TE:=λσ H Q=>to σ H λx c=>rN K T x c/\t σ c λxs d=>r x xs d Q
variable{o e:Expr}{es:List Expr}{to:TE}{t:TA}{name:Str}{apos zBL:Pos}{T id:String}{r:V->List V->Hp->VK->Prop}
theorem Ql(pa:xi T)(slot:Slot T name id)(f:typeOf (.builtin id)=pure (.type "method_descriptor"))(hm:aI X id r)(k:PE X o to)
    (c:N8 o name X.env (N2 o X.env)=N2 o X.env:=by rfl) (d:(apos.endLine==zBL.line)=true:=by rfl):PE X (.Call (.Attribute o name apos) [] [] zBL) (sR X.K T r to):=by
  intro pins s σ H Q I h;refine wpAny_Call_method0_late c d (BM (k pins s σ H _ I h) λv s1 ⟨x,l,i,g,ty,j⟩=>?_);obtain⟨h1,h2⟩:=WB i g ty;exact⟨T,id,pa,slot,f,h1,h2,wX rfl (PySem.evalArgs_none (hm pins s1 σ l x [] v [] Q i g .nil j))⟩
theorem LS(pa:xi T)(slot:Slot T name id)(i:typeOf (.builtin id)=pure (.type "method_descriptor"))(hm:aI X id r)(q:PE X o to)(ha:PA X (e::es) t)
    (f:N8 o name X.env (N2 o X.env)=N2 o X.env:=by rfl)
    (c:((P9 zBL (E3 (e::es) X.env)).all (λx=>!x.1)&&(xG zBL (m5 [] X.env)).all (λx=>x.1.isSome)
     &&decide ((e::es).length+([]:List vY).length+(if([]:List vY).isEmpty then 0 else 1) < 30))=true:=by rfl)
    (g:(apos.endLine==zBL.line)=true:=by rfl) (hs:E3 (e::es) X.env=(_f,N2 e X.env)::E3 es X.env:=by rfl) (d:(P9 zBL (E3 es X.env)).any (·.1)=false:=by rfl) :
    PE X (.Call (.Attribute o name apos) (e::es) [] zBL) (aO X.K T r to t):=by
  intro pins s σ H Q I h;refine wpAny_Call_method_late f c g rfl (BM (q pins s σ H _ I h) λv s1 ⟨x,y,l,j,ty,p⟩=>?_);obtain⟨h1,h2⟩:=WB l j ty;refine⟨T,id,pa,slot,i,h1,h2,?_⟩;have k:=ha zBL pins s1 σ y _ l p;rw[hs]at k ⊢;refine wX (by show(_f||(P9 zBL (E3 es X.env)).any (·.1))=_f;rw[d]<;>rfl) (Calls.evalArgs_plain ?_);exact BM k λus s2 ⟨vs,w,u,m,n⟩=>hm pins s2 σ w x vs v us Q u j m n
end
def gz(X:Cx)(id:String)(r:V->List V->Hp->VK->Prop):Prop:=
 ∀(pins:List (B8×Obj))(s:A7)(σ:St)(H:Hp)(x:V)(xs:List V)(v:_v)(us:List _v)(Q:VK),Inv X pins σ H s->RelV x v->AG xs us->r x xs H Q ->
  C8 (D9 X.prog X.w) X.A (call (.builtin id) (v::us)) (EP X pins σ Q) X.xe s
theorem AG.one:∀{x:V}{us:List _v},AG [x] us->∃u,us=[u]/\RelV x u
 := by
 intro x us h;cases h with|cons r t=>cases t;exact⟨_,rfl,r⟩
theorem AG.zero:∀{us:List _v},AG [] us->us=[]
 |_,.nil=>rfl
theorem AG.dropLast{xs:List V}{us:List _v}(h:AG xs us):AG xs.dropLast us.dropLast:=by
 induction h with
 |nil=>exact .nil
 |cons r t a=>
  cases t with|nil=>exact .nil|cons q t'=>exact .cons r a
theorem AG.eraseIdx:∀{xs:List V}{us:List _v}(i:Nat),AG xs us->AG (xs.eraseIdx i) (us.eraseIdx i)
 |_,_,_,.nil=>.nil
 |_,_,0,.cons _ t=>t
 |_,_,i+1,.cons r t=>.cons r (AG.eraseIdx i t)
theorem AG.rep{xs:List V}{us:List _v}(h:AG xs us):∀k:Nat,AG (B6 k xs).flatten (B6 k us).flatten
 |0=>.nil
 |k+1=>by rw[O2,O2,T9,T9];exact AG.append h (AG.rep h k)
theorem RW(l:List α):l.eraseIdx (l.length-1)=l.dropLast:=by
 induction l with
 |nil=>rfl
 |cons a r c=>
  cases r with
  |nil=>rfl
  |cons b r=>
   have e:(a::b::r).length-1=((b::r).length-1)+1:=by have h1:(a::b::r).length=r.length+2:=rfl;have h2:(b::r).length=r.length+1:=rfl;omega
   rw[e,wF,c]
   all_goals rfl
theorem Lg{α:Type}:∀(l:List α)(i:Nat),(l.eraseIdx i).length<=l.length
 |[],_=>B3 _
 |_::_,0=>U6 _
 |_::r,i+1=>j5 (Lg r i)
theorem foldl_rep(a:List _v):∀(k:Nat)(b:List _v),
    wY (λd c=>d++c) b.toArray (B6 k a.toArray)=(b++(B6 k a).flatten).toArray
  |0,b=>by simp
  |k+1,b=>by
    have e:b.toArray++a.toArray=(b++a).toArray:=by simp
    have f:(b++a)++(B6 k a).flatten=b++(B6 (k+1) a).flatten:=by rw[O2,T9,G9]
    rw[<- f,<- foldl_rep a k (b++a),<- e,O2,T4]
section
variable{X:Cx}{pins:List (B8×Obj)}{σ:St}{H:Hp}{s:A7}{l b:B8}{xs ys zs:List V}
theorem Inv.zCz{a its':List _v}{n:Nat}{f:Array _v->Array _v}{t':Nat}(I:Inv X pins σ H s)(d:H l=_s (.lst xs))
    (e:s.heap.get? l=_s {cls:=.type "list", data:=.seq a.toArray n}) (hf:f a.toArray=its'.toArray) (hv:AG ys its') (hz:ys.length<=sizeLine) :
    Inv X pins σ (upd H l (.lst ys)) {s with heap:=s.heap.update l (L5 f),toks:=t' }:=by
  have q:=yj e f;rw[hf]at q;refine I.write (x:=l) (e:=l) (by rw[d];exact trivial) (.inl rfl) (λg u hb c=>(U8 s.heap (L5 f) (Ne.symm hb)).trans c) ⟨_,q⟩ ?_;exact⟨hz,its',_,hv,q⟩
theorem Inv.zEp{a:List _v}{t':Nat}(I:Inv X pins σ H s)(hv:AG ys a)(hz:ys.length<=sizeLine) :
    Inv X pins σ (upd H s.heap.objs.size (.lst ys)) {s with heap:=s.heap.push {cls:=.type "list", data:=.seq a.toArray},toks:=t' }:=
  I.laid (λ_ _ q=>A5 _ q) (B3 _) ⟨hz,a,0,hv,C9 _ rfl⟩
theorem Inv.fresh(I:Inv X pins σ H s):H s.heap.objs.size=none:=I.hok.fresh (B3 _)
theorem Inv.zBy(I:Inv X pins σ H s)(c:H l=_s (.lst xs)):xs.length<=sizeLine/\∃(a:List _v)(n:Nat),AG xs a/\xs.length=a.length/\s.heap.get? l=_s {cls:=.type "list", data:=.seq a.toArray n}:=by obtain⟨z,a,n,r,e⟩:=I.hok l _ c;exact⟨z,a,n,r,r.length,e⟩
theorem Jl{n:Nat}(h:n<=sizeLine):O8 n=false:=by unfold O8;exact decide_eq_false `o
end
section
variable{X:Cx}
def MX:V->List V->Hp->VK->Prop:=λx vs H Q=>∃l xs y,x=.ref l/\vs=[y]/\H l=_s (.lst xs)/\xs.length < sizeLine/\Q .non (upd H l (.lst (xs++[y])))
theorem LX:gz X "list.append" MX:=by intro pins s σ H x vs v us Q I c rv h;obtain⟨l,xs,y,rfl,rfl,b,hz,q⟩:=h;cases c;obtain⟨u,rfl,d⟩:=rv.one;obtain⟨z,a,n,r,hl,e⟩:=I.zBy b;refine call_meets F.slot_list_append ⟨_,e,rfl⟩ F.entry_list_append (F.args_list_append_2 _ _) (yM l a.toArray n u (by rw[B0];omega)) ⟨e,?_⟩;refine⟨.non,_,I.zCz (its':=a++[u]) b e `s (r.append (.cons d .nil)) ?_,rfl,q⟩;rw[B5,D6];omega
def SZ:V->List V->Hp->VK->Prop:=λx vs H Q=>∃l b xs zs,x=.ref l/\vs=[.ref b]/\H l=_s (.lst xs)/\H b=_s (.lst zs)/\xs.length+zs.length<=sizeLine/\Q .non (upd H l (.lst (xs++zs)))
theorem Uh:gz X "list.extend" SZ:=by
 intro pins s σ H x vs v us Q I g rv h;obtain⟨l,b,xs,zs,rfl,rfl,f,o,hz,q⟩:=h;cases g;obtain⟨u,rfl,i⟩:=rv.one;cases i;obtain⟨z,a,n,r,hl,e⟩:=I.zBy f;obtain⟨t,c,k,j,m,p⟩:=I.zBy o;have hsz:a.toArray.size+c.toArray.size<=sizeLine:=by rw[B0,B0];omega
 have d:¬(!a.toArray.isEmpty&&O8 (a.toArray.size+c.toArray.size))=true:=by rw[Jl hsz,vH];exact D2
 refine call_meets F.slot_list_extend ⟨_,e,rfl⟩ F.entry_list_extend (F.args_list_extend_2 _ _)
  (AutoSeq1.list_extend_list_list_0 l a.toArray n b c.toArray k d (by rw[B0];omega) `o) ⟨e,p,?_⟩
 refine⟨.non,_,I.zCz (its':=a++c) f e `s (r.append j) ?_,rfl,q⟩;rw[B5];omega
def oM:V->List V->Hp->VK->Prop:=λx vs H Q=>∃l xs y,x=.ref l/\vs=[]/\H l=_s (.lst xs)/\xs[xs.length-1]?=_s y/\Q y (upd H l (.lst xs.dropLast))
theorem kP:gz X "list.pop" oM:=by
 intro pins s σ H x vs v us Q I f rv h;obtain⟨l,xs,y,rfl,rfl,d,i,q⟩:=h;cases f;have c:=rv.zero;subst c;obtain⟨z,a,n,r,hl,e⟩:=I.zBy d;obtain⟨u,j,g⟩:=r.get i;have b:a.toArray[a.toArray.size-1]?=_s u:=by show a.toArray[a.length-1]?=_s u;rw[<- a6,<- hl];exact j
 refine call_meets F.slot_list_pop ⟨_,e,rfl⟩ F.entry_list_pop (F.args_list_pop_1 _) (MeetsSeq.list_pop_last l a.toArray n u b (by rw[B0];omega)) ⟨e,?_⟩;refine⟨y,_,I.zCz (its':=a.dropLast) d e ?_ r.dropLast ?_,g,q⟩;show a.toArray.eraseIdxIfInBounds (a.toArray.size-1)=a.dropLast.toArray;rw[B0,Z8,RW];rw[List.length_dropLast];omega
def Wr:V->List V->Hp->VK->Prop:=λx vs H Q=>∃l xs i k y,x=.ref l/\vs=[.int i]/\H l=_s (.lst xs)/\-(2 ^ 63)<=i/\i < 2 ^ 63/\wC i xs.length=_s k/\xs[k]?=_s y/\Q y (upd H l (.lst (xs.eraseIdx k)))
theorem Xp:gz X "list.pop" Wr:=by
 intro pins s σ H x vs v us Q I d rv h;obtain⟨l,xs,i,k,y,rfl,rfl,c,h1,h2,m,g,q⟩:=h;cases d;obtain⟨u,rfl,f⟩:=rv.one;obtain⟨t,rfl⟩:=f;obtain⟨z,a,n,r,hl,e⟩:=I.zBy c;obtain⟨w,j,b⟩:=r.get g;refine call_meets F.slot_list_pop ⟨_,e,rfl⟩ F.entry_list_pop (F.args_list_pop_2 _ _)
  (MeetsSeq.list_pop_at l a.toArray n i t k w (fitsIndex_both h1 h2) (by rw[B0,<- hl];exact m) (by rw[<- a6];exact j) (by rw[B0];omega)) ⟨e,?_⟩
 refine⟨y,_,I.zCz (its':=a.eraseIdx k) c e ?_ (r.eraseIdx k) ?_,b,q⟩;show a.toArray.eraseIdxIfInBounds k=(a.eraseIdx k).toArray;rw[Z8];have:=Lg xs k;omega
def oR:R2:=λx y H Q=>∃l b xs zs,x=.ref l/\y=.ref b/\H l=_s (.lst xs)/\H b=_s (.lst zs)/\xs.length+zs.length<=sizeLine/\∀p,H p=_n->Q (.ref p) (upd H p (.lst (xs++zs)))
theorem jz:Dk X (binaryOp .Add) oR:=by
 intro pins s σ H x y v u Q I f d h;obtain⟨l,b,xs,zs,rfl,rfl,j,k,hz,q⟩:=h;cases f;cases d;obtain⟨z,c,n,r,hl,e⟩:=I.zBy j;obtain⟨p,a,t,g,i,o⟩:=I.zBy k;refine PySem.P.add_list e o ?_ (by rw[B0,B0];omega);have m:c.toArray++a.toArray=(c++a).toArray:=by simp
 rw[m];exact⟨.ref _,_,I.zEp (t':=s.toks) (r.append g) (by rw[B5];omega),rfl,q _ I.fresh⟩
def oK:R2:=λx y H Q=>∃l k xs,x=.ref l/\y=.int k/\H l=_s (.lst xs)/\-(2 ^ 63)<=k/\k < 2 ^ 63/\xs.length * k.toNat<=sizeLine /\
 ∀p,H p=_n->Q (.ref p) (upd H p (.lst (B6 k.toNat xs).flatten))
theorem len_rep(xs:List α)(k:Nat):(B6 k xs).flatten.length=k * xs.length:=by
 induction k with|zero=>simp|succ k a=>rw[O2,T9,B5,a,Nat.succ_mul,z5]
theorem jo:Dk X (binaryOp .Mult) oK:=by
 intro pins s σ H x y v u Q I w p h;obtain⟨l,k,xs,rfl,rfl,A,h1,h2,hz,q⟩:=h;cases w;obtain⟨t,rfl⟩:=p;obtain⟨z,b,n,r,hl,e⟩:=I.zBy A;have c:b.toArray.size * k.toNat<=sizeLine:=by rw[B0,<- hl];exact hz
 have d:¬b.toArray.size * k.toNat > (2 ^ 63-1) / 8:=by
  have:(sizeLine:Nat)<=(2 ^ 63-1) / 8:=by decide
  omega
 have f:¬(!zY k)=true:=by rw[fitsIndex_both h1 h2];exact D2
 have i:¬O8 (b.toArray.size * k.toNat)=true:=by rw[Jl c];exact D2
 have g:wY (λo j=>o++j) #[] (B6 (if b.toArray.isEmpty=_t then 0 else k.toNat) b.toArray)=(B6 k.toNat b).flatten.toArray:=by
  have f0:∀m:Nat,wY (λo j=>o++j) #[] (B6 m b.toArray)=(B6 m b).flatten.toArray:=λm=>by have:=foldl_rep b m [];rw[n8]at this;exact this
  rw[f0];cases b with|nil=>simp|cons a B=>rw[if_neg `s]
 refine vR (T := "list") (U := "int") `d ⟨_,e,rfl⟩ (λs'=>wW s' k t) noFill_list_mul F.fills_int_mul F.slot_int_rmul repeat_list F.slot_int_index.lookup
  (call_meets F.slot_int_rmul (wW s k t) F.entry_int_rmul (F.args_int_rmul_2 _ _) (int___rmul___int_list k t l b.toArray n)
   ⟨e,rfl,⟨_,e,rfl⟩,call_meets F.slot_list_mul ⟨_,e,rfl⟩ F.entry_list_mul (F.args_list_mul_2 _ _) (AutoListH.list___mul___list_int_3 l b.toArray n k t f d i) ⟨e,?_⟩⟩)
 rw[g];exact⟨.ref _,_,I.zEp (t':=s.toks) (r.rep k.toNat) (by rw[len_rep,yN];exact hz),rfl,q _ I.fresh⟩
end
end L2
namespace Att
open PySem PySem.W PySem.Calls PyProof.Rows
theorem IY{P:xj}{h:K4}:∀(ns:List Int)(vs:List _v),WellAll P h vs (ns.map zAO)->k9 vs ns:=by
 intro ns;induction ns with
 |nil=>intro vs w;rw[N0]at w;cases w;exact .nil
 |cons n ns c=>
  intro vs w;rw[B7]at w;cases w with|cons a b=>cases a;exact .cons _ _ (c _ b)
theorem UK{l:OpenLaw}{n:Nat}(s:l.most=_s n){P:xj}{h:K4}{args:List WData}{b:List _v}
    (c:l.row.toRowW.claim.pre args=_t) (g:WellAll P h b args) :
    ∃a vs ns,b=[E9 a]/\args=[WData.list (ns.map zAO)]/\h.get? a=_s {cls:=.type "list", data:=.seq vs.toArray}/\k9 vs ns/\ns.length<=n:=by
  have i:WShape.hasAll [] args [.list .int]=true:=(pre_splitW c).1;have j:l.pre.holds [] {args:=args}=true:=(pre_splitW c).2;obtain⟨d,r,rfl,h1,h2⟩:=hasAllW_cons i;obtain rfl:=hasAllW_nil h2;obtain⟨xs,rfl,h3⟩:=hasW_list h1;obtain⟨ns,rfl⟩:=items_int h3;have e:ns.length<=n:=by
    unfold OpenLaw.pre at j;have h4:(WTm.not (.lt (.lit (.int (n:Int))) (.len (.arg 0)))).holds [] {args:=[.list (ns.map .int)]}=true:=by have h4:=(holds_andW j).1;rw[s]at h4;exact h4
    have h5:=condW_of h4 (w_not (w_lt w_lit (w_len_list (w_arg rfl))));rw[C3]at h5;refine Nat.le_of_not_lt λq=>?_;have o:(n:Int) < ((ns.length:Nat):Int):=by omega
    first
      |(rw[decide_eq_true o]at h5;exact absurd h5 `d)
      |(simp at h5;omega)
  cases g with
  |cons m k=>
    cases k;cases m with|list p f=>exact⟨_,_,ns,rfl,rfl,p,IY ns _ f,e⟩
theorem UQ(l:OpenLaw)(args:List WData):l.row.toRowW.claim.post args (.bool _t) args=true:=
 postW_of (r:=l.row.toRowW) (X:=(_t==_t))
  (show zAL [] (.bool _t) .bool=_t by first|rfl|decide|simp[zAL,WShape.arms,WShape.armsAll])
  (show(WTm.eq .res (.lit (.bool _t))).value [] {args:=args,res:=_s (.bool _t),after:=args}=_s (.bool (_t==_t))from w_eq_bool (w_res rfl) w_lit) rfl
theorem zCN{l:OpenLaw}{n:Nat}{q:F9}{loose:List Str}{XP:(Str->Option _v)->K4->Prop}{YP:J5->K4->Prop}{d:z7}
    (A:l.most=_s n) (p:d.params.defaults=[])
    (call:∀(w:J5)(zAZ b:A7)(mg mb:Str->Option _v)(g:B8)(o:Obj)(pm h doc:_v)(a:B8)(vs:List _v)(ns:List Int),
      Ground q loose [] XP w zAZ mg mb b.heap->YP w b.heap ->
      b.heap.get? g=_s o->o.data=.func (docDef d.name d.params d.body d.scope pm h doc)->b.heap.CodeRec h d.name->mg d.name=_s (.ref g) ->
      b.heap.get? a=_s {cls:=.type "list", data:=.seq vs.toArray}->k9 vs ns->ns.length<=n->b.gens=#[] ->
      p9 (D9 l.prog w) xU (.call (.ref g) ⟨[.ref a],[]⟩) (λr s'=>r=.ok (.ret (.bool _t))/\OldK b.heap s'.heap/\s'.os=b.os/\vU s'.gens) b) :
    WalkO q loose XP YP l.row.toRowW d [] (λf vs=>xk f vs):=by
  intro w zAZ b mg mb G Y g o pm h doc D kV z hd s u m C args t as j v x k B;obtain rfl:D=.none:=Dflts.none u p;obtain rfl:kV=.none:=Dflts.noKw u;obtain⟨a,vs,ns,rfl,rfl,i,c,e⟩:=UK A j k;refine enter_call (wU (call w zAZ b mg mb g o pm h doc a vs ns G Y z (fd_plain hd) s m i c e C) λr s' y=>?_);obtain⟨rfl,h2,h3,h4⟩:=y;exact⟨.inl ⟨.bool _t,.bool _t,[],rfl,λ_=>rfl,.bool _t,UQ l _,λ_=>⟨yO,λ_ hm=>(nomatch hm)⟩⟩,h2,h3,h4⟩
end Att
namespace L2
open PySem PySem.Spec PyProof.Rows
theorem LC:∀{vs:List _v}{ns:List Int},k9 vs ns->AG (ns.map V.int) vs
 |_,_,.nil=>.nil
 |_,_,.cons n t h=>.cons ⟨t,rfl⟩ (LC h)
def eW(H:Hp):Prop:=∀b,H b=_n\/∃o xs,H b=_s (.frz o (.lst xs))
theorem YE{P:F9}{w:J5}{K:W.Frag}{mg mb:Str->Option _v}{CX:aM}{k:Nat}{I a:B8}{fd:S2}{x:Str}{sp:Sp}{c:A7}{vs:List _v}{ns:List Int}
    (O:K.In c.heap) (j:c.heap.Ns M1 mg) (hb:c.heap.Ns zL mb) (E:∀x:Str,x ≠ "__name__" -> mb x=R7 x) (t:c.heap.NoLimit) (U:c.gens=#[])
    (ha:c.heap.get? a=_s {cls:=.type "list", data:=.seq vs.toArray}) (hi:k9 vs ns) (hl:ns.length<=sizeLine) (T:zAV k xU)
    (F:∀base:K4,K.In base->base.Ns M1 mg->zAb P w K mg base CX k I fd [x] sp) (B:∀(s:A7)(u:_v),yJ s fd ⟨[u],[]⟩ [(x,u)])
    (D:∀H:Hp,eW H->Dl K H a (ns.map V.int)->sp [.ref a] H (λv _=>v=.bl _t) λ_ _ _=>False)
    (G:∀H e s',CX [] H c (λ_ _ _=>False) e s'->False) :
    p9 (D9 P w) xU (.call (.ref I) ⟨[.ref a],[]⟩) (λr s'=>r=.ok (.ret (.bool _t))/\OldK c.heap s'.heap/\s'.os=c.os/\vU s'.gens) c:=by
  have rv:=LC hi;have A:=hi.length
  -- from an abstract heap in zGZ nothing but the zEA may be tracked
  have g:∀H:Hp,eW H->Dl K H a (ns.map V.int)->Ft P w H c.heap->(∀b,H b≠_n->b=a)->(H a≠_n->K.lookup a=_n) ->
      p9 (D9 P w) xU (.call (.ref I) ⟨[.ref a],[]⟩) (λr s'=>r=.ok (.ret (.bool _t))/\OldK c.heap s'.heap/\s'.os=c.os/\vU s'.gens) c:=by
    intro H L X hok M Z;have Da:∀{b:B8}{o:Obj},c.heap.get? b=_s o->H b=_n->(Mr c.heap H).get? b=_s o:=λe n=>YR e n;have C:∀{b:B8}{o:Obj}{es:Array DictEntry}{p:Nat},c.heap.get? b=_s o->o.data=.dict es p->H b=none:=fun{b o es p} e d=>by
      cases q:H b with|none=>rfl|some u=>have J:b=a:=M b (by rw[q];simp);subst J;rw[ha]at e;cases e;have d':zAH vs.toArray _=Data.dict es p:=d;cases d'
    have f:∀{b:B8}{m:Str->Option _v},c.heap.Ns b m->(Mr c.heap H).Ns b m:=fun{b m} ⟨o,es,p,e,d,r⟩=>⟨o,es,p,Da e (C e d),d,r⟩;have l:K.In (Mr c.heap H):=λb o e=>Da (O b o e) (by
      cases q:H b with|none=>rfl|some u=>have J:b=a:=M b (by rw[q];simp);subst J;rw[Z (by rw[q];simp)]at e;cases e)
    have Y:Mod K mg (Mr c.heap H):=⟨l,f j,⟨mb,f hb,E⟩,let ⟨mc,h1,h2⟩:=t;⟨mc,f h1,h2⟩⟩;have e0:zCV P w K mg (Mr c.heap H) xU [] c H:=⟨rfl,Y,λb o e=>cR e,yG (Uv _ _),trivial,λb hb=>absurd (show b∈([]:List B8)from hb) `s,hok,.of_eq U⟩;refine wU ((F _ l (f j)).run xU [] c H ⟨[.ref a],[]⟩ [.ref a] [.ref a] _ _ T e0 (B c (.ref a)) (.cons rfl .nil) (D H L X)) λr s' h=>?_;cases r with
    |error e=>exact(G H e s' h).elim
    |ok fl=>
      cases fl with
      |next=>exact E7 h
      |brk=>exact E7 h
      |cont=>exact E7 h
      |ret u=>
        obtain⟨v,H',os,bare,un,y,R,q⟩:=h;have S:v=.bl true:=q;subst S;obtain rfl:u=g9 true:=R;refine⟨rfl,OldK.of_keep λb o e=>?_,os,bare⟩;cases q:H b with
        |none=>exact un.keep b o e q (by intro z;exact absurd (show b∈([]:List B8)from z) `s) `s
        |some u=>
          rcases L b with z|⟨ob,xs,z⟩
          rw[q]at z;cases z;have Q:=un.zBl b ob _ z;obtain⟨N,_⟩:=hok b _ z;obtain⟨e2,_⟩:=y b _ Q;rw[e]at N;cases N;exact e2
  cases hk:K.lookup a with
  |some o=>
    -- the zEA is one of the zEn own objects
    have e:=O a o hk;rw[ha]at e;cases e;refine g (λ_=>_n) (λ_=>.inl rfl) (.inr ⟨_,vs.toArray,_,hk,rfl,rfl,rfl,by rw[B0,A];exact hl,by simpa using rv⟩) (λb u z=>by have i:(_n:Option HO)=_s u:=z;cases i) (λb z=>absurd rfl z) λz=>absurd rfl z
  |none=>refine g (λb=>if b=a then _s (.frz {cls:=.type "list", data:=.seq vs.toArray} (.lst (ns.map V.int)))else _n) (λb=>?_) (.inl (.inr ⟨{cls:=.type "list", data:=.seq vs.toArray},if_pos rfl⟩)) (λb u z=>?_) (λb z=>?_) λ_=>hk;by_cases hb:b=a;exact .inr ⟨_,_,if_pos hb⟩;exact .inl (if_neg hb);by_cases hb:b=a;have i:=(if_pos hb).symm.trans z;cases i;subst hb;exact⟨ha,by rw[C3];exact hl,vs,_,rv,ha⟩;have i:=(if_neg hb).symm.trans z;cases i;by_cases hb:b=a;exact hb;exact absurd (if_neg hb) z
theorem zDQ{l:W.OpenLaw}{n k:Nat}{q:F9}{loose:List Str}{XP:(Str->Option _v)->K4->Prop}{YP:J5->K4->Prop}{d:z7}{K:xj->W.Frag}{CX:J5->aM}{sp:J5->Sp}{x:Str}
    (D:l.most=_s n) (t:n<=sizeLine) (z:d.params.defaults=[]) (C:zAV k xU)
    (J:∀(w:J5)(h:K4),YP w h->(K w.params).In h)
    (F:∀(w:J5)(mg:Str->Option _v)(j:B8)(h:K4),(K w.params).In h->h.Ns M1 mg->mg d.name=_s (.ref j) ->
      ∃fd:S2,(∀(s:A7)(u:_v),yJ s fd ⟨[u],[]⟩ [(x,u)]) /\
        ∀base:K4,(K w.params).In base->base.Ns M1 mg->zAb l.prog w (K w.params) mg base (CX w) k j fd [x] (sp w))
    (r:∀(w:J5)(H:Hp)(a:B8)(ns:List Int),ns.length<=n->eW H->Dl (K w.params) H a (ns.map V.int)->sp w [.ref a] H (λv _=>v=.bl _t) λ_ _ _=>False)
    (A:∀(w:J5)(H:Hp)(s:A7)(e:_v)(s':A7),CX w [] H s (λ_ _ _=>False) e s'->False) :
    W.WalkO q loose XP YP l.row.toRowW d [] (λf vs=>xk f vs):=by
  refine Att.zCN D z λw zAZ p mg mb j o pm P doc a vs ns G Y O hd I y m i c E=>?_;have B:=J w _ Y;obtain⟨fd,hb,N⟩:=F w mg j _ B G.T.g y;exact YE B G.T.g G.T.b G.T.builtins G.T.nolimit E m i (A8 c t) C N hb (λH M L=>r w H a ns c M L) λH e s'=>A w H p e s'
noncomputable def BQ(s:N4):Arguments:=match s with
 |.FunctionDef _ a _ _ _ _ _ _ _ _=>a
 |_=>{posonlyargs:=[],args:=[],vararg:=_n,kwonlyargs:=[],kw_defaults:=[],kwarg:=_n,defaults:=[]}
noncomputable def Ay(s:N4):List N4:=match s with
 |.FunctionDef _ _ b _ _ _ _ _ _ _=>b
 |_=>[]
noncomputable def AK(s:N4):O0:=match s with
 |.FunctionDef _ _ _ _ _ _ sc _ _ _=>sc
 |_=>{kind:=.function,names:=[],isGenerator:=_f,isCoroutine:=_f}
abbrev Rw:aM:=λ_ _ _ _ _ _=>False
abbrev E0:XK:=λ_ _ _=>False
theorem fg{X:Cx}:Dj Rw X E0:=λ_ _ _ _ _ _ _ h=>h.elim
structure Fun (K:W.Frag) (x qual:Str) (st:N4) (f:B8) (fd:S2):Prop where
 ex:∃(oc:_v)(od:Option B8)(kV doc pm:_v)(an:Option B8)(cdv ct:_v)(osl:Array (Option _v)),
  fd=W.fnOf x qual (BQ st) (Ay st) (AK st) .none kV doc pm an cdv ct/\K.lookup f=_s ⟨oc,od,.func fd,osl⟩/\W.codeIn K cdv qual=_t
 kp:W.keepIn K (.ref f)=_t
variable{x qual:Str}
section
variable{P:F9}{w:J5}{K:W.Frag}{mg:Str->Option _v}{base:K4}
theorem Fun.ok{st:N4}{f:B8}{fd:S2}{N ps:List Str}{k:Nat}{sp:Sp}(F:Fun K x qual st f fd)(S:zBD N ps (AK st))(len:∀vs H Q E,sp vs H Q E->vs.length=ps.length)
    (a:∀(cdv:_v)(A:J3)(outer:List Env)(s:A7)(H:Hp)(vs:List V)(Q:VK)(E:XK),zAV k (A.deeper (xH qual (AK st) s.heap.objs.size f cdv))->sp vs H Q E ->
      ∃t,FR (PP Rw P w K mg base N qual (AK st) f cdv A outer s H E).nox (Ay st) t/\t {nx:=λ_ H'=>Q .non H',rt:=Q} (start N vs) H):zAb P w K mg base Rw (k+1) f fd ps sp:=by
  obtain⟨oc,od,kV,doc,pm,an,cdv,ct,osl,rfl,d,c⟩:=F.ex;refine qN d c S len λA outer s H vs Q E e b=>?_;obtain⟨t,h,q⟩:=a cdv A outer s H vs Q E e b;exact⟨t,h.nox,q⟩
theorem Fun.binds{st:N4}{f:B8}{fd:S2}{ps:List Str}(F:Fun K x qual st f fd)
    (h:∀(kV doc pm:_v)(an:Option B8)(cdv ct:_v)(us:List _v),us.length=ps.length->zS (W.fnOf x qual (BQ st) (Ay st) (AK st) .none kV doc pm an cdv ct) ⟨us,[]⟩=pure (ps.zip us)):Binds K fd ps []:=by
  obtain⟨oc,od,kV,doc,pm,an,cdv,ct,osl,rfl,b,a⟩:=F.ex;exact .all (h kV doc pm an cdv ct)
theorem Ya{st:N4}{f:B8}{oc:_v}{od an:Option B8}{osl:Array (Option _v)}{kV doc pm cdv ct:_v}(l:K.lookup f=_s ⟨oc,od,.func (W.fnOf x qual (BQ st) (Ay st) (AK st) .none kV doc pm an cdv ct),osl⟩)
    (c:W.codeIn K cdv qual=_t) (k:W.keepIn K (.ref f)=_t):Fun K x qual st f (W.fnOf x qual (BQ st) (Ay st) (AK st) .none kV doc pm an cdv ct):=⟨⟨oc,od,kV,doc,pm,an,cdv,ct,osl,rfl,l,c⟩,k⟩
end
def NY(H H':Hp):Prop:=∀b o,H b=_s o->H' b=_s o
noncomputable def AR(sc:O0)(x:Str):Bool:=match sc.names.lookup x with|some .cell=>_t|_=>_f
def Cx.inner(X:Cx)(scope:O0)(cl:List (Str×B8))(C:B8)(s:A7)(H:Hp)(fp:List B8):Cx:=
 {X with zAZ:=s,H₀:=H,env:=compEnvC scope cl C X.env,outer:=X.stack,ex:=fp,fn:=AR scope,xe:=λ_ _=>False}
theorem As{scope:O0}{env:Env}{x:Str}:∀{names:List (Str×NameKind)}, 
    ((names.map fun(n,k)=>if(k==NameKind.free&&env.scope.kind==.function&&env.kindOf n==_s .cell)then(n,NameKind.cell)else(n,k)).lookup x=_s .cell \/
     (names.map fun(n,k)=>if(k==NameKind.free&&env.scope.kind==.function&&env.kindOf n==_s .cell)then(n,NameKind.cell)else(n,k)).lookup x=_s .free) ->
    names.lookup x=_s .cell\/names.lookup x=_s .free
  |[],h=>by simp at h
  |(n,k)::r,h=>by
    have b:=@As scope env x r;cases hx:x==n with
    |true=>
      simp only[B7,G6]at h ⊢;by_cases a:(k==NameKind.free&&env.scope.kind==.function&&env.kindOf n==_s .cell)=_t;have c:k=.free:=by simp only[A3,beq_iff_eq]at a;exact a.1.1
      right;simp[hx,c];rw[if_neg a]at h;simp only[G6,hx]at h ⊢;exact h
    |false=>simp only[B7,G6]at h ⊢;by_cases a:(k==NameKind.free&&env.scope.kind==.function&&env.kindOf n==_s .cell)=_t;rw[if_pos a]at h;simp only[G6,hx]at h ⊢;exact b h;rw[if_neg a]at h;simp only[G6,hx]at h ⊢;exact b h
theorem De{env:Env}{x:Str}:∀{names:List (Str×NameKind)}, 
    (names.map fun(n,k)=>if(k==NameKind.free&&env.scope.kind==.function&&env.kindOf n==_s .cell)then(n,NameKind.cell)else(n,k)).lookup x=_s .local ->
    names.lookup x=_s .local
  |[],h=>by simp at h
  |(n,k)::r,h=>by
    have b:=@De env x r;cases hx:x==n with|true=>simp only[B7,G6]at h ⊢;by_cases a:(k==NameKind.free&&env.scope.kind==.function&&env.kindOf n==_s .cell)=_t;rw[if_pos a]at h;simp only[G6,hx]at h;cases h;rw[if_neg a]at h;simp only[G6,hx]at h ⊢;exact h|false=>simp only[B7,G6]at h ⊢;by_cases a:(k==NameKind.free&&env.scope.kind==.function&&env.kindOf n==_s .cell)=_t;rw[if_pos a]at h;simp only[G6,hx]at h ⊢;exact b h;rw[if_neg a]at h;simp only[G6,hx]at h ⊢;exact b h
variable{scope:O0}
theorem Ka{env:Env}(i:∀x,scope.names.lookup x=_s .free->∃c,env.cells.lookup x=_s c)(l:∀x k,(x,k)∈scope.names->k=.free->scope.names.lookup x=_s .free) :
    ∃cl,closureFor scope env=pure cl/\(∀x c,cl.lookup x=_s c->env.cells.lookup x=_s c)/\∀x,scope.names.lookup x=_s .free->∃c,cl.lookup x=_s c:=by
  have go:∀(names:List (Str×NameKind))(cs:List (Str×B8)),(∀x k,(x,k)∈names->k=.free->∃c,env.cells.lookup x=_s c)->(∀x c,cs.lookup x=_s c->env.cells.lookup x=_s c) ->
      ∃cl,(forIn names cs (fun(x:Str×NameKind) (r:List (Str×B8))=>(if(x.2==NameKind.free)=_t then(cellOf env x.1 >>= λc=>(pure (ForInStep.yield ((x.1,c)::r)):Sem _))else pure (ForInStep.yield r))))=(pure cl:Sem _) /\
        (∀x c,cl.lookup x=_s c->env.cells.lookup x=_s c)/\(∀x,(cs.lookup x).isSome=_t->(cl.lookup x).isSome=_t)/\∀x,(x,NameKind.free)∈names->(cl.lookup x).isSome=true:=by
    intro names;induction names with
    |nil=>intro cs _ h2;exact⟨cs,by simp,h2,λ_ z=>z,λ_ z=>by simp at z⟩
    |cons p r m=>
      intro cs h1 h2;obtain⟨n,k⟩:=p;by_cases g:k=.free;subst g;obtain⟨c,o⟩:=h1 n _ B1 rfl;have j:cellOf env n=pure c:=by unfold cellOf;rw[o]
      obtain⟨cl,e,a,b,d⟩:=m ((n,c)::cs) (λx k f g=>h1 x k (A9 _ f) g) (λx t f=>by
        rw[G6]at f;cases hxn:x==n with
        | true => rw[hxn]at f; simp at f; subst f; have : x = n := by simpa using hxn
                  rw[this];exact o
        |false=>rw[hxn]at f;exact h2 x t f)
      refine⟨cl,?_,a,λx f=>b x ?_,λx f=>?_⟩;rw[wo];simp only[j];simpa using e;rw[G6];cases hxn:x==n with|true=>rfl|false=>exact f
      rcases D3.mp f with z|z
      injection z with s _
      subst s;exact b x (by rw[G6];simp);exact d x z;have hb:(k==NameKind.free)=false:=by simpa using g
      obtain⟨cl,e,a,b,d⟩:=m cs (λx k f g=>h1 x k (A9 _ f) g) h2;refine⟨cl,?_,a,b,λx f=>?_⟩;rw[wo];simp only[hb];simpa using e;rcases D3.mp f with z|z
      injection z with _ q
      exact absurd q.symm g;exact d x z
  obtain⟨cl,e,a,_,d⟩:=go scope.names [] (λx k f g=>i x (l x k f g)) (λx c h=>by simp at h);refine⟨cl,?_,a,λx f=>O7.mp (d x (G8 f))⟩;unfold closureFor;simpa using e
theorem BA:∀(names:List (Str×NameKind))(n:Nat)(a:List (Str×B8)),N5 n names a=N5 n names []++a
 |[],n,a=>by simp[N5]
 |(x,k)::r,n,a=>by unfold N5;split;rw[BA r (n+1) ((x,n)::a),BA r (n+1) [(x,n)],G9];rfl;exact BA r n a
theorem Dh{x:Str}{c:B8}:∀(names:List (Str×NameKind))(n:Nat),(x,c)∈N5 n names []->(x,NameKind.cell)∈names
 |[],n,h=>by simp[N5]at h
 |(y,k)::r,n,h=>by
  unfold N5 at h;split at h;rename_i a;have a:k=.cell:=by simpa using a
  rw[BA]at h;rcases C0.mp h with h|h
  exact A9 _ (Dh r _ h);rw[C4]at h;cases h;rw[a];exact B1;exact A9 _ (Dh r _ h)
theorem Di{x:Str}:∀(names:List (Str×NameKind))(n:Nat),(x,NameKind.cell)∈names->∃c,(N5 n names []).lookup x=_s c
 |[],n,h=>by cases h
 |(y,k)::r,n,h=>by
  unfold N5;by_cases a:(x,NameKind.cell)∈r;split;rw[BA];obtain⟨c,e⟩:=Di r (n+1) a;exact⟨c,by rw[S4,e];rfl⟩;exact Di r n a;rcases D3.mp h with e|e
  cases e;simp only[beq_self_eq_true,if_true];rw[BA];cases q:(N5 (n+1) r []).lookup x with|some c=>exact⟨c,by rw[S4,q];rfl⟩|none=>exact⟨n,by rw[S4,q];simp⟩
  exact absurd e a
theorem Ci{M:Model}{A:J3}{E:_v->A7->Prop}{s:A7}{scope:O0}{globals:B8}{a:List (Str×B8)}{qual:Str}{outer:Env}{Q:Env->A7->Prop}
    (c:Q {scope:=scope,locals:=s.heap.objs.size,globals:=globals,cells:=N5 (s.heap.objs.size+1) scope.names a,qual:=qual,func:=_n,code:=outer.code,frame:=outer.frame,builtins:=outer.builtins} {s with heap:=zu (s.heap.push {cls:=.type "dict", data:=.dict #[]}) scope.names}) :
    C8 M A (xI scope globals a [] qual _n .none (_s outer)) Q E s:=by
  simp only[xI,xl,if_true];refine A1 (wpAny_alloc ?_);refine A1 (wpAny_layCells _ (λname kind cells=>by cases b:kind==NameKind.cell<;>simp[b]) _ _ _ _ ?_);rw[show({s with heap:=s.heap.push {cls:=.type "dict", data:=.dict #[]} }:A7).heap.objs.size=s.heap.objs.size+1 from M9 ..];rw[List.forIn_nil];exact A1 (A6 (A6 c))
noncomputable def zAd(N:List Str)(sc scope:O0)(js:List Nat):Bool:=
 (match scope.kind with|.function=>_t|_=>_f) &&
 scope.names.all (λp=>(match p.2 with
  |.cell=>(match scope.names.lookup p.1 with|some .cell=>_t|_=>_f)
  |.local=>(match scope.names.lookup p.1 with|some .local=>_t|_=>_f)
  |.free=>(match scope.names.lookup p.1 with|some .free=>_t|_=>_f)&&(match sc.names.lookup p.1 with|some .cell=>_t|some .free=>_t|_=>_f)
  |_=>_t)) &&
 (N.zipIdx.all λp=>(match scope.names.lookup p.1 with|some .local=>js.contains p.2|some .cell=>js.contains p.2|_=>_t))
structure zBC (N:List Str) (sc scope:O0) (js:List Nat):Prop where
 kind:scope.kind=.function
 zEX:∀x k,(x,k)∈scope.names->k=.cell->scope.names.lookup x=_s .cell
 zDc:∀y∈scope.names,y.2=.local->scope.names.lookup y.1=_s .local
 zDd:∀x k,(x,k)∈scope.names->k=.free->scope.names.lookup x=_s .free
 fr:∀x,scope.names.lookup x=_s .free->sc.names.lookup x=_s .cell\/sc.names.lookup x=_s .free
 jsl:∀(i:Nat) x,N[i]?=_s x->scope.names.lookup x=_s .local\/scope.names.lookup x=_s .cell->i∈js
variable{js:List Nat}
theorem Jz{N:List Str}{sc:O0}(h:zAd N sc scope js=_t):zBC N sc scope js:=by
  unfold zAd at h;rw[A3,A3]at h;obtain⟨⟨h1,h2⟩,h3⟩:=h;rw[G4]at h2 h3;refine⟨?_,λx k a e=>?_,λy a e=>?_,λx k a e=>?_,λx e=>?_,λi x c b=>?_⟩;cases q:scope.kind<;>rw[q]at h1<;>first|rfl|cases h1
  have:=h2 _ a;rw[e]at this;dsimp only at this;split at this;assumption;cases this;have:=h2 y a;rw[e]at this;dsimp only at this;split at this;assumption;cases this;have:=h2 _ a;rw[e]at this;dsimp only at this;rw[A3]at this;have:=this.1;split at this;assumption;cases this;have:=h2 _ (G8 e);dsimp only at this;rw[A3]at this;have:=this.2;split at this;left;assumption;right;assumption;cases this;have hm:(x,i)∈N.zipIdx:=by rw[List.mem_zipIdx_iff_getElem?];exact c
  have:=h3 _ hm;dsimp only at this;rcases b with b|b
  rw[b]at this;dsimp only at this;simpa using this;rw[b]at this;dsimp only at this;simpa using this
def blank(js:List Nat)(σ:St):St:=js.foldl (λσ j=>σ.set j _n) σ
theorem zAi(js:List Nat):∀σ:St,(blank js σ).length=σ.length:=by
 induction js with|nil=>intro σ;rfl|cons j r a=>intro σ;unfold blank;rw[T4];have:=a (σ.set j _n);unfold blank at this;rw[this,D8]
theorem IC(js:List Nat):∀(σ:St)(i:Nat)(v:V),(blank js σ)[i]?=_s (_s v)->i∉js/\σ[i]?=_s (_s v):=by
 induction js with|nil=>intro σ i v h;exact⟨by simp,h⟩|cons j r c=>intro σ i v h;unfold blank at h;rw[T4]at h;obtain⟨a,b⟩:=c (σ.set j _n) i v h;by_cases e:i=j;subst e;by_cases hl:i < σ.length;rw[F8 hl]at b;cases b;rw[K5 (by rw[D8];omega)]at b;cases b;rw[E4 (Ne.symm e)]at b;exact⟨by simp[e,a],b⟩
def GOk(js:List Nat)(g:TG):Prop:=∀x σ H Q,g x σ H Q->g x σ H λa b=>(a.length=σ.length/\∀i,i∉js->a[i]?=σ[i]?)/\Q a b
theorem YV{j:Nat}(h:j∈js):GOk js (DY j):=λx σ H Q q=>⟨⟨D8 ..,λi hi=>E4 (fun(e:j=i)=>hi (e▸h))⟩,q⟩
def QA(js:List Nat)(g:NX):Prop:=∀x σ H Q,g x σ H Q->g x σ H λa b=>(a.length=σ.length/\∀i,i∉js->a[i]?=σ[i]?)/\Q a b
theorem On:QA js Oo:=λx σ H Q ⟨e,q⟩=>⟨e,⟨rfl,λ_ _=>rfl⟩,q⟩
theorem Ux{j:Nat}{u:NX}(h:j∈js)(g:QA js u):QA js (Dz (DY j) u):=by
 rintro x σ H Q ⟨v,r,e,q⟩;refine⟨v,r,e,?_⟩;have:=g r (σ.set j (_s v)) H Q q;show u r (σ.set j (_s v)) H _;have f:∀(P P':St->Hp->Prop),(∀a b,P a b->P' a b)->True:=λ_ _ _=>trivial;have m:(λc d=>(c.length=(σ.set j (_s v)).length/\∀(i:Nat),i∉js->c[i]?=(σ.set j (_s v))[i]?)/\Q c d)=(λc d=>(c.length=σ.length/\∀(i:Nat),i∉js->c[i]?=σ[i]?)/\Q c d):=by
  funext c d;have l:(∀(i:Nat),i∉js->c[i]?=(σ.set j (_s v))[i]?)=(∀(i:Nat),i∉js->c[i]?=σ[i]?):=by apply propext;constructor;intro k i hi;rw[k i hi,E4 (fun(e:j=i)=>hi (e▸h))];intro k i hi;rw[k i hi,E4 (fun(e:j=i)=>hi (e▸h))]
  rw[l,D8]
 rw[m]at this;exact this
theorem TC{K:W.Frag}{n:Nat}{u:NX}(b:QA js u):GOk js (lA K n u):=by rintro x σ H Q ⟨a,xs,e,c,hl,q⟩;exact⟨a,xs,e,c,hl,b _ _ _ _ q⟩
variable{a:B8}
section
variable{X:Cx}{pins:List (B8×Obj)}{σ:St}{H:Hp}{s:A7}{scope:O0}{cl:List (Str×B8)}{js:List Nat}{fp:List B8}{C D:B8}
theorem Inv.zEH(I:Inv X pins σ H s)(h:s.heap.objs.size<=a):a∉TK X.stack:=λhb=>by
 rcases D3.mp (I.zBG a hb)with e|e
 exact absurd (C6 I.lt (e▸h)) (V7 _);exact I.zEj h e
theorem Inv.zBz(I:Inv X pins σ H s){c:B8}(e:X.env.cells.lookup x=_s c):c < s.heap.objs.size:=by obtain⟨v,q⟩:=I.cell x c e;exact q.lt
theorem Inv.zDl(I:Inv X pins σ H s){p:B8×Obj}(b:p∈X.pn++pins):p.1 < s.heap.objs.size:=D5 (I.pin p b).1
structure zDO (X:Cx) (scope:O0) (cl:List (Str×B8)) (s:A7) (C:B8):Prop where
 old:∀x c,cl.lookup x=_s c->AR scope x=_f->X.env.cells.lookup x=_s c
 own:∀x c,cl.lookup x=_s c->AR scope x=_t->s.heap.objs.size<=c/\C < c
 inj:∀x y c,cl.lookup x=_s c->cl.lookup y=_s c->AR scope x=_t->AR scope y=_t->x=y
 fr:∀x,scope.names.lookup x=_s .free->∃c,cl.lookup x=_s c
 has:∀x,AR scope x=_t->∃c,cl.lookup x=_s c
theorem zDO.ne(L:zDO X scope cl s C){c b:B8}(e:cl.lookup x=_s c)(hb:b < s.heap.objs.size)(h:∀x c,X.env.cells.lookup x=_s c->c≠b):c≠b:=by
 cases q:AR scope x with|false=>exact h x c (L.old x c e q)|true=>exact wO (C6 hb (L.own x c e q).1)
theorem da{b:List (Str×B8)}(d:zBC X.N X.env.scope scope js)(g:∀x c,b.lookup x=_s c->X.env.cells.lookup x=_s c)(f:∀x,scope.names.lookup x=_s .free->∃c,b.lookup x=_s c)
    {h:K4} (l:s.heap.objs.size<=C) (hs:h.objs.size=C+1):zDO X scope (N5 (C+1) scope.names b) s C/\∀x c,(N5 (C+1) scope.names b).lookup x=_s c->AR scope x=_t->∃v,(zu h scope.names).IsCell c v:=by
  have ok:=cellsFrom_ok scope.names h (C+1) [] ⟨λ_ _ hm=>(nomatch hm),yO⟩ (by rw[hs];exact B3 _);rw[hs]at ok;rw[BA];generalize i:N5 (C+1) scope.names []=own at ok;have mem:∀x c,own.lookup x=_s c->AR scope x=true:=λx c e=>by have:=d.zEX x _ (Dh scope.names (C+1) (by rw[i];exact G8 e)) rfl;unfold AR;rw[this]
  have has:∀x,AR scope x=_t->∃c,own.lookup x=_s c:=λx e=>by unfold AR at e;split at e;rename_i q;obtain⟨c,z⟩:=Di scope.names (C+1) (G8 q);rw[i]at z;exact⟨c,z⟩;cases e
  have yes:∀x c,(own++b).lookup x=_s c->AR scope x=_t->own.lookup x=_s c:=λx c e q=>by obtain⟨o,z⟩:=has x q;rw[S4,z]at e;rw[z];exact e
  have no:∀x,AR scope x=_f->(own++b).lookup x=b.lookup x:=λx q=>by
    rw[S4];cases z:own.lookup x with|none=>rfl|some c=>rw[mem x c z]at q;cases q
  refine⟨⟨λx c e q=>g x c (by rw[<- no x q];exact e),λx c e q=>?_,λx y c n m k j=>?_,λx e=>?_,λx q=>?_⟩,λx c e q=>?_⟩;have:=(ok.empty x c (G8 (yes x c e q))).2;exact⟨A8 l (Nat.le_of_succ_le this),this⟩;exact PySem.name_of_addr ok.apart (G8 (yes x c n k)) (G8 (yes y c m j));obtain⟨c,z⟩:=f x e;exact⟨c,by rw[no x (by unfold AR;rw[e])];exact z⟩;obtain⟨c,z⟩:=has x q;exact⟨c,by rw[S4,z];rfl⟩;exact⟨_n,(ok.empty x c (G8 (yes x c e q))).1⟩
theorem Inv.zAd(I:Inv X pins σ H s)(f:zBC X.N X.env.scope scope js)(hf:∀b∈fp,zAS X pins H b)(d:∀b∈fp,b < s.heap.objs.size)(g:s.heap.objs.size<=C)
    (L:zDO X scope cl s C):(X.inner scope cl C s H fp).Ok where
  mod:=I.ok.mod
  kind:=f.kind
  glob:=I.ok.glob
  blt:=I.ok.blt
  above:=g
  inj:=λx y c a b=>by cases hx:AR scope x<;>cases hy:AR scope y;exact I.ok.inj x y c (L.old x c a hx) (L.old y c b hy);exact absurd (I.zBz (L.old x c a hx)) (Nat.not_lt.mpr (L.own y c b hy).1);exact absurd (I.zBz (L.old y c b hy)) (Nat.not_lt.mpr (L.own x c a hx).1);exact L.inj x y c a b hx hy
  has:=λx h=>by
    rcases As (scope:=scope) (env:=X.env) (names:=scope.names) h with q|q
    exact L.has x (by unfold AR;rw[q]);exact L.fr x q
  cab:=λx c h e=>(L.own x c e h).1
  hd:=I.ok.hd
  frames:=I.ok.frames
  stk:=.inl rfl
  exf:=λb hb=>⟨E5 (C6 (d b hb) g),λx c e=>L.ne e (d b hb) (hf b hb).2.2.2.2.1⟩
  bs:=I.bs
  bsz:=A8 I.ok.bsz I.sz
  zCm:=λb o e hb=>by
    rcases(hf b hb).2.2.2.1 with z|z
    exact I.ok.zCm b o e z;exact absurd (C6 (D5 e) (A8 I.ok.bsz z)) (V7 _)
  zDK:=λb hb z=>by
    rcases D3.mp (I.zBG b z)with e|e
    exact(hf b hb).2.1 e;exact(hf b hb).2.2.1 e
  zBK:=I.stack
  frf:=I.zCW
theorem Inv.enter{h':K4}{T:Nat}{o:Obj}(I:Inv X pins σ H s)(d:zBC X.N X.env.scope scope js)(hf:∀b∈fp,zAS X pins H b)(J:∀b∈fp,b < s.heap.objs.size)(M:s.heap.objs.size<=C)(R:s.heap.objs.size<=D)(K:D≠C)
    (L:zDO X scope cl s C) (n:∀x c,cl.lookup x=_s c->AR scope x=_t->∃v,h'.IsCell c v)
    (k:∀b u,s.heap.get? b=_s u->h'.get? b=_s u) {m:Str->Option _v} (E:h'.Ns C m) (V:h'.get? D=_s o) (B:∀v,o.data≠.cell v) :
    Inv (X.inner scope cl C s H fp) (pins++[(D,o)]) (blank js σ) H {s with heap:=h',toks:=T} where
  ok:=I.zAd d hf J M L
  os:=rfl
  bare:=I.bare
  base:=Un.kept k
  loc:=by
    refine⟨m,E,λi x v j O S=>?_⟩;obtain⟨G,O⟩:=IC js σ i v O;have free:scope.names.lookup x=_s .free:=by
      rcases S with q|q|q
      exact absurd (d.jsl i x j (.inl (De (env:=X.env) (names:=scope.names) q))) G;rcases As (scope:=scope) (env:=X.env) (names:=scope.names) (.inl q)with z|z
      exact absurd (d.jsl i x j (.inr z)) G;exact z;rcases As (scope:=scope) (env:=X.env) (names:=scope.names) (.inr q)with z|z
      exact absurd (d.jsl i x j (.inr z)) G;exact z
    have Q:=d.fr x free;obtain⟨m0,W,F⟩:=I.loc;obtain⟨u,r,l⟩:=F i x v j O (Q.elim (λz=>.inr (.inl z)) λz=>.inr (.inr z));refine⟨u,r,?_⟩;rcases l with⟨z,_⟩|⟨_,c,Y,t⟩
    have h:X.env.scope.names.lookup x=_s .local:=z;rcases Q with y|y
    rw[y]at h;cases h;rw[y]at h;cases h;obtain⟨P,g⟩:=L.fr x free;have:P=c:=by have q:=L.old x P g (by unfold AR;rw[free]);rw[Y]at q;exact(C5 q).symm
    subst this;obtain⟨oc,A,w⟩:=t;refine .inr ⟨?_,P,g,oc,k _ _ A,w⟩;rcases S with q|q|q
    have:=De (env:=X.env) (names:=scope.names) q;rw[free]at this;cases this;exact .inl q;exact .inr q
  cell:=λx c e=>by
    cases q:AR scope x with|true=>exact n x c e q|false=>obtain⟨v,oc,A,w⟩:=I.cell x c (L.old x c e q);exact⟨v,oc,k _ _ A,w⟩
  free:=I.hok.fresh M
  zAl:=λx c e=>by
    cases q:AR scope x with|true=>exact I.hok.fresh (L.own x c e q).1|false=>exact I.zAl x c (L.old x c e q)
  pin:=λp U=>by
    have f:p∈X.pn++(pins++[(D,o)]):=U;rw[<- G9]at f;rcases C0.mp f with z|z
    obtain⟨a1,a2,a3,a4,Z⟩:=I.pin p z;refine⟨k _ _ a1,a2,E5 (C6 (D5 a1) M),λq=>?_,Z⟩;rcases D3.mp (I.zBG p.1 q)with e|e
    exact a3 e;exact a4 e;have e:p=(D,o):=by simpa using z
    subst e;exact⟨V,I.hok.fresh R,K,I.zEH R,B⟩
  hok:=I.hok.kept k
  len:=(zAi js σ).trans I.len
theorem Inv.leave{Y:Cx}{H':Hp}{s':A7}{τ:St}{pl:List (B8×Obj)}{ys:List V}{d:List _v}{n:Nat}(I:Inv X pins σ H s)(hf:∀b∈fp,zAS X pins H b)(l:Y=X.inner scope cl C s H fp)(J:Inv Y pl τ H' s')(m:s.heap.objs.size<=D)
    (h:H' D=_n) (hz:ys.length<=sizeLine) (hv:AG ys d) (k:s'.heap.get? D=_s {cls:=.type "list", data:=.seq d.toArray n}) :
    Inv X pins σ (upd H' D (.lst ys)) s':=by
  subst l;have un:Un (TK X.stack) fp H H' s.heap s'.heap:=J.base;have ne:∀{b:B8}{o:Obj},s.heap.get? b=_s o->b≠D:=λe=>E5 (C6 (D5 e) m);have f:∀{b:B8}{o:HO},H' b=_s o->b≠D:=λe z=>by rw[z,h]at e;cases e
  have g:Un (TK X.stack) fp H (upd H' D (.lst ys)) s.heap s'.heap:=
    ⟨un.keep,un.slot,λb o e i j=>by rw[AD (ne e)];exact un.free b o e i j,un.there,λb xs e=>by have:=un.zBu b xs e;rw[AD (f this)];exact this,
      λb o u e=>by have:=un.zBl b o u e;rw[AD (f this)];exact this,λb ps e=>by obtain⟨more,q⟩:=un.zBv b ps e;exact⟨more,by rw[AD (f q)];exact q⟩⟩
  have hok:Ft X.prog X.w (upd H' D (.lst ys)) s'.heap:=λb u e=>by by_cases hb:b=D;subst hb;rw[AE]at e;cases e;exact⟨hz,d,n,hv,k⟩;rw[AD hb]at e;exact(J.hok b u e).zBh (λ_ _ _ q=>q) (λc q=>by rw[AD (f q)];exact q) λc xs q=>by rw[AD (f q)];exact q
  exact I.zFL J.os g hok J.bare λb hb=>by obtain⟨_,f1,_,r,f4,p⟩:=hf b hb;exact⟨r,f1,f4,p⟩
end
section
variable{X:Cx}
def oG:V->Option Int->Option Int->Hp->VK->Prop:=λx lo hi H Q=>∃z,x=.str z/\z.length<=sizeLine/\Q (.str (wG z lo hi)) H
theorem iT:Vp X oG:=by
 intro pins s σ H x v vl n lo hi sl Q I m hs pl g h;obtain⟨z,rfl,hz,q⟩:=h;obtain⟨t,rfl⟩:=m;have fin:∀t' k,EP X pins σ Q (.str (wG z lo hi) t') {s with toks:=k}:=λt' k=>⟨.str _,H,I.tok k,⟨_,rfl⟩,q⟩;refine⟨"str", _,F.slot_str_getitem.lookup,zX _ _ _,?_⟩;obtain⟨o,d,c,b⟩:=hs;cases pl with
 |none=>
  cases g with|none=>exact U5 (l:=_n) (u:=_n) (st:=_n) ⟨o,d,c,b⟩ rfl (n9 ⟨A8 (wZ z _ _) hz,fin⟩)|int j e=>exact U5 (l:=_n) (u:=_s (j,e)) (st:=_n) ⟨o,d,c,b⟩ rfl (n9 ⟨A8 (wZ z _ _) hz,fin⟩)
 |int i f=>
  cases g with|none=>exact U5 (l:=_s (i,f)) (u:=_n) (st:=_n) ⟨o,d,c,b⟩ rfl (n9 ⟨A8 (wZ z _ _) hz,fin⟩)|int j e=>exact U5 (l:=_s (i,f)) (u:=_s (j,e)) (st:=_n) ⟨o,d,c,b⟩ rfl (n9 ⟨A8 (wZ z _ _) hz,fin⟩)
theorem QU{ys:List Str}:∀{us:List _v},AG (ys.map V.str) us->StrsAre us ys:=by
 induction ys with
 |nil=>intro us r;rw[N0]at r;cases r;exact .nil
 |cons n ns d=>
  intro us r;rw[B7]at r;cases r with|cons c b=>obtain⟨t,e⟩:=c;subst e;exact .cons n t (d b)
def Ws(K:W.Frag):V->List V->Hp->VK->Prop:=λx vs H Q=>∃b l ys,x=.str b/\vs=[.ref l]/\Dl K H l (ys.map V.str)/\(ys.map (·.length)).sum+ys.length * b.length<=16777216/\Q (.str (zAI b ys)) H
theorem cY:gz X "str.join" (Ws X.K):=by intro pins s σ H x vs v us Q I c rv h;obtain⟨b,l,ys,rfl,rfl,hl,hz,q⟩:=h;obtain⟨t,rfl⟩:=c;obtain⟨u,rfl,d⟩:=rv.one;cases d;obtain⟨e,r,p,_⟩:=I.list hl;exact join_list p.isList (by simpa using QU r) hz λt' k=>⟨.str _,H,I.tok k,⟨_,rfl⟩,q⟩
end
structure Fx (P:F9) (w:J5) (K:W.Frag) (mg:Str->Option _v) (base:K4) (k:Nat) (x:Str) (ps:List Str) (sp:Sp):Prop where
 ex:∃(f:B8)(fd:S2),zAb P w K mg base Rw k f fd ps sp/\mg x=_s (.ref f)/\W.keepIn K (.ref f)=_t/\Binds K fd ps []
section
variable{X:Cx}{k j:Nat}{x:Str}{ps:List Str}{sp:Sp}{p pos:Pos}{e:Expr}{es:List Expr}{t:TA}
abbrev rQ(sp:Sp)(t:TA):TE:=λσ H Q=>t σ H λvs b=>sp vs b Q E0
theorem ff(F:Fx X.prog X.w X.K X.mg X.base k x ps sp)(i:zAV j X.A)(d:k<=j)(m:Gl X x)(ha:PA X (e::es) t)(g:(x==("__debug__" : Str))=false:=by decide)
    (he:E3 (e::es) X.env=(_f,N2 e X.env)::E3 es X.env:=by rfl) (c:(P9 pos (E3 es X.env)).any (·.1)=false:=by rfl):PE X (.Call (.Name x p) (e::es) [] pos) (rQ sp t):=by
  obtain⟨f,fd,G,hm,l,hb⟩:=F.ex;have q:=cE (p:=p) (pos:=pos) G (i.mono d) m hm l hb .nil fg ha g he c;intro pins s σ H Q I h;refine q pins s σ H Q I ?_;show t σ H λvs b=>sp (vs++[]) b Q E0;have n:(fun(vs:List V) (b:Hp)=>sp (vs++[]) b Q E0)=(λvs b=>sp vs b Q E0):=by funext vs b;rw[G7]
  rw[n];exact h
theorem XZ(F:Fx X.prog X.w X.K X.mg X.base k x ps sp)(d:zAV j X.A)(b:k<=j)(i:Gl X x)(c:(x==("__debug__" : Str))=false:=by decide):PE X (.Call (.Name x p) [] [] pos) (rQ sp MN):=by obtain⟨f,fd,G,hm,g,hb⟩:=F.ex;have q:=Xd (p:=p) (pos:=pos) G (d.mono b) i hm g hb .nil fg c;intro pins s σ H Q I h;exact q pins s σ H Q I h
end
variable{H:Hp}{Q:VK}{p:B8}
section
variable{X:Cx}
def oS:R2:=λx y H Q=>∃i j,x=.str i/\y=.str j/\i.length+j.length<=sizeLine/\Q (.str (i++j)) H
def OM(K:W.Frag):R2:=λx y H Q=>(aQ λi j=>.int (i+j)) x y H Q\/oS x y H Q\/oR x y H Q\/fY K x y H Q
theorem cQ:Dk X (binaryOp .Add) (OM X.K):=kA.or (Qn.or (jz.or cM))
theorem aD{K:W.Frag}{i j:Int}(q:Q (.int (i+j)) H):OM K (.int i) (.int j) H Q:=.inl ⟨i,j,rfl,rfl,q⟩
theorem aB{K:W.Frag}{i j:Str}(h:i.length+j.length<=1000000)(q:Q (.str (i++j)) H):OM K (.str i) (.str j) H Q:=.inr (.inl ⟨i,j,rfl,rfl,A8 h `d,q⟩)
theorem aC{K:W.Frag}{b:B8}{xs ys:List V}(ha:H a=_s (.lst xs))(hb:H b=_s (.lst ys))(h:xs.length+ys.length<=1000000)(q:∀p,H p=_n->Q (.ref p) (upd H p (.lst (xs++ys)))):OM K (.ref a) (.ref b) H Q:=
 .inr (.inr (.inl ⟨a,b,xs,ys,rfl,rfl,ha,hb,A8 h `d,q⟩))
theorem bP{K:W.Frag}{xs:List V}{i:Int}{v:V}(h:H p=_s (.lst xs))(e:HJ xs i=_s v)(q:Q v H):iz K (.ref p) (.int i) H Q:=.inl ⟨p,xs,i,v,rfl,rfl,.inl (.inl h),e,q⟩
theorem iq{K:W.Frag}{xs:List V}{i:Int}{v:V}(h:Dl K H p xs)(e:HJ xs i=_s v)(q:Q v H):iz K (.ref p) (.int i) H Q:=.inl ⟨p,xs,i,v,rfl,rfl,h,e,q⟩
theorem bO{K:W.Frag}{z:Str}{i:Int}{c:Nat}(h:z.length<=1000000)(e:HJ z.cps.toList i=_s c)(q:Q (.str ⟨#[c]⟩) H):iz K (.str z) (.int i) H Q:=.inr (.inr ⟨z,i,c,rfl,rfl,A8 h `d,e,q⟩)
theorem ko:Tv X (iz X.K):=kn
def Wp(K:W.Frag):V->Option Int->Option Int->Hp->VK->Prop:=λx lo hi H Q=>oG x lo hi H Q\/oH K x lo hi H Q\/oF K x lo hi H Q
theorem iV:Vp X (Wp X.K):=iT.or (bE.or iS)
theorem bB{K:W.Frag}{z:Str}{lo hi:Option Int}(h:z.length<=1000000)(q:Q (.str (wG z lo hi)) H):Wp K (.str z) lo hi H Q:=.inl ⟨z,rfl,A8 h `d,q⟩
theorem Wc{K:W.Frag}{xs:List V}{lo hi:Option Int}(h:Dl K H a xs)(q:∀p,H p=_n->Q (.ref p) (upd H p (.lst (HC xs lo hi)))):Wp K (.ref a) lo hi H Q:=.inr (.inl ⟨a,xs,rfl,h,q⟩)
theorem bC{K:W.Frag}{xs:List V}{lo hi:Option Int}(h:H a=_s (.lst xs))(q:∀p,H p=_n->Q (.ref p) (upd H p (.lst (HC xs lo hi)))):Wp K (.ref a) lo hi H Q:=Wc (.inl (.inl h)) q
theorem bG:Kv X Wq:=set_list
def UO(K:W.Frag):List V->Hp->VK->Prop:=λxs H Q=>∃x n,xs=[x]/\rE K x H n/\Q (.int n) H
theorem VZ:BX X (.builtin "len") (UO X.K):=ZS
theorem Uo{K:W.Frag}{z:Str}(h:z.length<=1000000)(q:Q (.int z.length) H):UO K [.str z] H Q:=⟨_,_,rfl,⟨A8 h `d,rfl⟩,q⟩
theorem YB{K:W.Frag}{xs:List V}(h:Dl K H p xs)(q:Q (.int xs.length) H):UO K [.ref p] H Q:=⟨_,_,rfl,.inl ⟨xs,h,rfl⟩,q⟩
theorem cj{K:W.Frag}{xs:List V}(h:H p=_s (.lst xs))(q:Q (.int xs.length) H):UO K [.ref p] H Q:=YB (.inl (.inl h)) q
abbrev sr(K:W.Frag)(tl:TE):TI:=λσ H R=>tl σ H λx b=>∃a xs,x=.ref a/\((Dl K b a xs/\R (sE K a) b)\/(Fo K b a xs/\R (tV K a) b))
theorem jT{tg l:Expr}{tl:TE}(hl:PE X l tl):PI X tg l (sr X.K tl):=by
 intro pins s σ H R I h;refine BM (hl pins s σ H _ I h) λv s1 ⟨x,g,c,i,j⟩=>?_;obtain⟨a,xs,e,q⟩:=j;subst e;cases i;rcases q with⟨f,q⟩|⟨f,q⟩
 obtain⟨d,rv,p,hz⟩:=c.list f;refine vZ p.isList ?_;refine⟨s1.heap.objs.size,[s1.heap.objs.size],_,_,g,rfl,c.kept (t':=s1.toks) λb o e=>A5 _ e,UB a _,⟨_,C9 _ rfl,rfl,rfl⟩,λb hb=>?_,q⟩;have e:b=s1.heap.objs.size:=by simpa using hb
 subst e;exact c.zAR (B3 _) (c.hok.fresh (B3 _));obtain⟨d,rv,p,hz⟩:=c.tuple f;refine U9 (show s1.heap.IsTuple a d.toArray from p) ?_;refine⟨s1.heap.objs.size,[s1.heap.objs.size],_,_,g,rfl,c.kept (t':=s1.toks) λb o e=>A5 _ e,QL a _,⟨_,C9 _ rfl,rfl,rfl⟩,λb hb=>?_,q⟩;have e:b=s1.heap.objs.size:=by simpa using hb
 subst e;exact c.zAR (B3 _) (c.hok.fresh (B3 _))
end
theorem CU(h:H p=_n)(o:HO):NY H (upd H p o):=λb u q=>by rw[AD (Be q h)];exact q
section
variable{X:Cx}
theorem sf(K:W.Frag)(h:X.K=K:=by rfl):Tv X (iz K):=by subst h;exact ko
theorem VX(K:W.Frag)(h:X.K=K:=by rfl):BX X (.builtin "len") (UO K):=by subst h;exact VZ
theorem Xq(K:W.Frag)(h:X.K=K:=by rfl):gz X "str.join" (Ws K):=by subst h;exact cY
def SY(K:W.Frag):List V->Hp->VK->Prop:=λxs H Q=>∃p ys,xs=[.ref p]/\(Dl K H p ys\/Fo K H p ys)/\∀l,H l=_n->Q (.ref l) (upd H l (.lst ys))
theorem Rb(K:W.Frag)(h:X.K=K:=by rfl):BX X (.type "list") (SY K):=by subst h;exact NO
def OJ(K:W.Frag):List V->Hp->VK->Prop:=λxs H Q=>∃p ys,xs=[.ref p]/\((Dl K H p ys/\∀l,H l=_n->Q (.ref l) (upd H l (.tup ys)))\/(Fo K H p ys/\Q (.ref p) H))
theorem PX(K:W.Frag)(h:X.K=K:=by rfl):BX X (.type "tuple") (OJ K):=by subst h;exact Kr
end
noncomputable def tx(l:List Nat):Str:=⟨l.toArray⟩
theorem SD(l:List Nat):(tx l).cps.toList=l:=by simp[tx]
theorem Cu(l:List Nat):(tx l).length=l.length:=by simp[tx,Str.length]
theorem QK(a b:List Nat):tx a++tx b=tx (a++b):=by show(⟨(tx a).cps++(tx b).cps⟩:Str)=_;simp[tx]
theorem iC{a b:List Nat}(h:tx a=tx b):a=b:=by have:=congrArg (λz:Str=>z.cps.toList) h;simpa[tx]using this
def Ra(l:List Nat)(lo hi:Option Int):List Nat:=(l.drop (HT.sIx l.length 0 lo)).take (HT.sIx l.length l.length hi-HT.sIx l.length 0 lo)
theorem XM(l:List Nat)(a k:Nat)(h:a+k<=l.length):((B2 k).map λj=>a+j).filterMap (λi=>l[i]?)=(l.drop a).take k:=by
  apply yP;intro i;by_cases hi:i < k;rw[vh hi,List.getElem?_drop];have e:(List.map (λj=>a+j) (B2 k)).filterMap (λi=>l[i]?)=(B2 k).map λj=>l[a+j]!:=by
    rw[vE];rw[show(λi=>l[i]?)∘(λj=>a+j)=λj=>l[a+j]? from rfl];have:∀(r:List Nat),(∀j∈r,a+j < l.length)->r.filterMap (λj=>l[a+j]?)=r.map λj=>l[a+j]!:=by
      intro r;induction r with|nil=>intro _;rfl|cons x r f=>intro d;have b:=d x B1;rw[R4,A2 b,B7,f λj c=>d j (A9 _ c)];simp[b]
    exact this _ λj c=>by have:=P8.mp c;omega
  rw[e,D0,O3 hi];have hl:a+i < l.length:=by omega
  simp[hl];have g:(((B2 k).map λj=>a+j).filterMap (λi=>l[i]?)).length<=k:=A8 (X7 _ _) `s;rw[K5 `o,K5 (by rw[N6];omega)]
theorem WC(l:List Nat)(lo hi:Option Int):wG (tx l) lo hi=tx (Ra l lo hi):=by
 have c:(tx l).length=l.length:=Cu l;have e:W4 lo hi 1 l.length=(B2 (HT.sIx l.length l.length hi-HT.sIx l.length 0 lo)).map λj=>HT.sIx l.length 0 lo+j:=by
  have d:W4 lo hi 1 l.length=sliceRange ((HT.sIx l.length 0 lo:Nat):Int) ((HT.sIx l.length l.length hi:Nat):Int) 1:=by unfold W4;rcases lo with _|i<;>rcases hi with _|j<;>simp only[show(1:Int) > 0 by decide,if_true,HT.sIx,cl,Int.natCast_zero]<;>rfl
  rw[d];unfold sliceRange;simp only[show(1:Int) > 0 by decide,if_true];generalize HT.sIx l.length 0 lo=a;generalize HT.sIx l.length l.length hi=b;have HI:(if(a:Int) < (b:Int)then((b:Int)-(a:Int)+1-1) / 1 else 0).toNat=b-a:=by split<;>omega
  rw[HI];apply I9;intro j _;omega
 have g:HT.sIx l.length l.length hi<=l.length:=HT.zCQ _ _ (B3 _) _;have f:HT.sIx l.length 0 lo<=l.length:=HT.zCQ _ _ (H8 _) _;unfold wG;rw[c,e];unfold Ra;generalize HT.sIx l.length 0 lo=a at *;generalize HT.sIx l.length l.length hi=b at *;have o:(List.map (λj=>a+j) (B2 (b-a))).filterMap (λi=>(tx l).cps[i]?)=(l.drop a).take (b-a):=by
  have n:(λi:Nat=>(tx l).cps[i]?)=λi=>l[i]?:=by funext i;simp[tx]
  rw[n];by_cases k:a<=b;exact XM l a (b-a) `o;have:b-a=0:=by omega
  rw[this];simp
 split;rename_i h;simp only[C3,W5,A3,beq_iff_eq]at h;have m:a=0:=by omega
 have h1:b=l.length:=by omega
 subst m h1;simp;rw[o];rfl
theorem zDZ(a b:List Nat):eqV (.str (tx a)) (.str (tx b))=decide (a=b):=by unfold eqV;by_cases h:a=b;subst h;simp;rw[decide_eq_false h];have:tx a≠tx b:=λe=>h (iC e);simpa using this
section
variable{X:Cx}
def oE(K:W.Frag):V->Option Int->Option Int->Hp->VK->Prop:=λx lo hi H Q=>∃a xs,x=.ref a/\Fo K H a xs/\(HT.sIx xs.length 0 lo=0/\HT.sIx xs.length xs.length hi=xs.length)/\Q (.ref a) H
theorem bD:Vp X (oE X.K):=by
 intro pins s σ H x v vl t lo hi sl Q I k hs pl l h;obtain⟨a,xs,rfl,n,j,q⟩:=h;cases k;obtain⟨b,r,c,hz⟩:=I.tuple n;have d:b.toArray.size=xs.length:=by rw[B0];exact r.length.symm
 refine⟨"tuple", _,G0.lookup,c.typeIs,?_⟩;obtain⟨os,f,g,o⟩:=id hs;have i:s.TypeIs (.ref sl) "slice" := ⟨os,f,g⟩;unfold k8
 try with_reducible refine J0 ?_
 first|refine A1 (A6 ?_)|skip
 refine A1 (vV c.typeIs `d ?_);refine A1 (N7 (name:=Z1 "__getitem__") c.typeIs G0
  (L8 G0 c.typeIs o8 ?_ (vF _ _)))
 show C8 _ _ (S0 (.ref a) >>= _) _ _ s;refine A1 (xZ c ?_);refine A1 (U7 i ?_);rw[if_pos `d];refine A1 (HT.zAg hs pl l ?_);have e:((((HT.sIx b.toArray.size 0 lo:Nat):Int)==0&&(1:Int)==1&&(HT.sIx b.toArray.size b.toArray.size hi-HT.sIx b.toArray.size 0 lo)==b.toArray.size)=_t):=by rw[d,j.1,j.2];simp
 show C8 _ _ (if(((HT.sIx b.toArray.size 0 lo:Nat):Int)==0&&(1:Int)==1&&(HT.sIx b.toArray.size b.toArray.size hi-HT.sIx b.toArray.size 0 lo)==b.toArray.size)=_t then _ else _) _ _ s;rw[if_pos e];have fin:EP X pins σ Q (.ref a) s:=⟨.ref a,H,I,rfl,q⟩;refine A1 (m:=vI (E9 a)) ?_;unfold vI;refine A1 (U7 c.typeIs (A6 ?_));rw[if_pos `d];exact A1 (W6 (A6 ⟨_,rfl,A6 fin⟩))
end
end L2
namespace L2
open PySem PySem.Spec PyProof.Rows PySem.SeqAt
variable{H:Hp}{Q:VK}
section
variable{X:Cx}
def fZ(K:W.Frag):R2:=λx y H Q=>∃a b ys,x=.ref a/\y=.ref b/\Fo K H a []/\Fo K H b ys/\Q (.ref b) H
theorem cN:Dk X (binaryOp .Add) (fZ X.K):=by
  intro pins s σ H x y v u Q I m l h;obtain⟨a,b,ys,rfl,rfl,ha,hb,q⟩:=h;cases m;cases l;obtain⟨t,o,p1,_⟩:=I.tuple ha;obtain⟨e,z,p,_⟩:=I.tuple hb;cases o;obtain⟨⟨cls,w,data,sl⟩,i,j,n,hd⟩:=id p1;obtain⟨⟨k,g,data2,f⟩,c,d,r,gK⟩:=id p;simp only at j hd d gK;subst j hd d gK;exact yK ⟨_,i,rfl⟩ ⟨_,c,rfl⟩ wB xY Z0 Y4 (X6 _ _)
      (tuple_addW0 a b _ e.toArray n r w g sl f `s) ⟨i,c,⟨.ref b,H,I,rfl,q⟩⟩
def OL(K:W.Frag):R2:=λx y H Q=>OM K x y H Q\/fZ K x y H Q
theorem cP(K:W.Frag)(h:X.K=K:=by rfl):Dk X (binaryOp .Add) (OL K):=by subst h;exact cQ.or cN
theorem aA{K:W.Frag}{i j:Int}(q:Q (.int (i+j)) H):OL K (.int i) (.int j) H Q:=.inl (aD q)
theorem Zy{K:W.Frag}{i j:Str}(h:i.length+j.length<=1000000)(q:Q (.str (i++j)) H):OL K (.str i) (.str j) H Q:=.inl (aB h q)
theorem Zz{K:W.Frag}{a b:B8}{xs ys:List V}(ha:H a=_s (.lst xs))(hb:H b=_s (.lst ys))(h:xs.length+ys.length<=1000000)(q:∀p,H p=_n->Q (.ref p) (upd H p (.lst (xs++ys)))):OL K (.ref a) (.ref b) H Q:=.inl (aC ha hb h q)
def UN(K:W.Frag):V->Option Int->Option Int->Hp->VK->Prop:=λx lo hi H Q=>Wp K x lo hi H Q\/oE K x lo hi H Q
theorem sT(K:W.Frag)(h:X.K=K:=by rfl):Vp X (UN K):=by subst h;exact iV.or bD
theorem az{K:W.Frag}{z:Str}{lo hi:Option Int}(h:z.length<=1000000)(q:Q (.str (wG z lo hi)) H):UN K (.str z) lo hi H Q:=.inl (bB h q)
theorem iR{K:W.Frag}{a:B8}{xs:List V}{lo hi:Option Int}(h:Dl K H a xs)(q:∀p,H p=_n->Q (.ref p) (upd H p (.lst (HC xs lo hi)))):UN K (.ref a) lo hi H Q:=.inl (Wc h q)
theorem bA{K:W.Frag}{a:B8}{xs:List V}{lo hi:Option Int}(h:H a=_s (.lst xs))(q:∀p,H p=_n->Q (.ref p) (upd H p (.lst (HC xs lo hi)))):UN K (.ref a) lo hi H Q:=.inl (bC h q)
def Wo:V->List V->Hp->VK->Prop:=λx vs H Q=>∃l,x=.str (tx l)/\vs=[]/\(∀c∈l,c < 128)/\l.length<=1000000/\Q (.str (tx (l.map up1))) H
theorem Xo:gz X "str.upper" Wo:=by
 intro pins s σ H x vs v us Q I a rv h;obtain⟨l,rfl,rfl,b,hz,q⟩:=h;obtain⟨t,rfl⟩:=a;cases rv.zero;have e:Txt.upper (tx l)=tx (l.map up1):=by rw[upper_ascii (by rw[SD];exact b)];simp[tx]
 refine SC.upper (by rw[e,Cu,C3];exact decide_eq_false (by have:sizeLine=16777216:=T7;omega)) ⟨.str (tx (l.map up1)),H,I.tok _,⟨_,by rw[e]⟩,q⟩
end
end L2
namespace L2
open PySem PySem.Spec PyProof.Rows
variable{items:Array _v}
section
variable{prog:F9}{w:J5}{A:J3}{E:_v->A7->Prop}
theorem Ls{it t:B8}(c:t≠it):∀(n i:Nat)(s:A7)(Q:List _v->A7->Prop),s.heap.IsListIter it t i->s.heap.IsList t items->i+n<=items.size ->
    (∀h',h'.IsListIter it t (i+n)->N9 it s.heap h'->Q ((items.toList.drop i).take n) {s with heap:=h' })->C8 (D9 prog w) A (draw (.ref it) n) Q E s
  |0,i,s,Q,a,_,_,j=>by show C8 _ _ (pure []) Q E s;exact A6 (by simpa using j s.heap a (yQ ..))
  |n+1,i,s,Q,a,k,l,j=>by
    have d:i < items.size:=by omega
    show C8 _ _ (wQ (.ref it) >>= _) Q E s;refine A1 (wR a k (x:=items[i]) (by simp[d]) λh₁ h b=>?_);refine A1 (J0 (Ls c n (i+1) _ _ h (k.extBut b.extBut c) `o λg f e=>A6 ?_));have hd:items.toList.drop i=items[i]::items.toList.drop (i+1):=by simp[S7,d]
    have:=j g (by rw[show i+(n+1)=i+1+n by omega];exact f) (b.trans e);rw[hd,List.take_succ_cons]at this;exact this
theorem HN{s:A7}{t:B8}{Q:List _v->A7->Prop}(l:A.handled=_n)(c:s.heap.IsList t items)
    (m:∀h',yz s.heap.objs.size s.heap h'->Q items.toList {s with heap:=h' }):C8 (D9 prog w) A (yu (.ref t) items.size _n) Q E s:=by
  have d:t≠s.heap.objs.size:=by obtain⟨o,k,_⟩:=c;exact E5 (D5 k)
  unfold yu;refine A1 ?_;unfold notIterableAtAll;refine A1 (T1 c.typeIs PySem.slot_list_iter.lookup ?_);refine A6 ?_;simp only[B4,if_false];refine A1 (J0 (vZ c ?_));refine A1 (J0 (Ls d items.size 0 _ _ ⟨_,C9 _ rfl,rfl,rfl⟩ (c.push _) `o λh₁ i a=>?_));have j:List.take items.size (List.drop 0 items.toList)=items.toList:=by rw[zZ];exact List.take_of_length_le `s
  rw[j];rw[if_neg `s];have g:h₁.IsList t items:=(c.push _).extBut a.extBut d;refine A1 (J0 (wz l i g `s λh f=>?_));simp only[xm,B4,if_false];refine A6 (m h λb o hb e=>f b o hb (a.extBut b o hb (A5 _ e)))
theorem Nj{s:A7}{t:B8}{a:List (Bool×(_v->Sem Unit))}{Q:Unit->A7->Prop}(e:A.handled=_n)(c:s.heap.IsList t items)
    (d:a.length=items.size) (b:a.findIdx? (·.1)=_n)
    (h:∀h',yz s.heap.objs.size s.heap h'->C8 (D9 prog w) A (vg (a.map (·.2)) items.toList) Q E {s with heap:=h' }) :
    C8 (D9 prog w) A (unpack (.ref t) a) Q E s:=by
  unfold unpack;rw[d,b];exact A1 (J0 (HN e c h))
end
section
variable{X:Cx}
abbrev lC(n:Nat)(t:NX):TG:=λv σ H Q=>∃a xs,v=.ref a/\H a=_s (.lst xs)/\xs.length=n/\t xs σ H Q
theorem XS{es:List Expr}{k:Nat}{t:NX}{n:Nat}{pos:Pos}(m:X.calm=_t)(h:mV X es t)
    (l:(N3 es X.env).length=n:=by rfl) (d:(N3 es X.env).findIdx? (·.1)=none:=by rfl):PG X (.Tuple es k pos) (lC n t):=by
  intro pins s σ H v u Q I r c;obtain⟨a,xs,p,j,hl,c⟩:=c;subst p;cases r;obtain⟨f,rv,i,hz⟩:=I.list (.inl (.inl j));rw[assign_Tuple];refine A1 (k4 (Nj (I.ok.hd m) i.isList (by simp[l,<- hl,rv.length]) d λh' g=>?_));have q:Inv X pins σ H {s with heap:=h' }:=I.kept (t':=s.toks) λb o e=>g b o (E5 (D5 e)) e;exact h pins _ σ H xs _ Q q (by simpa using rv) c
theorem TF{n:Nat}{js:List Nat}{u:NX}(b:QA js u):GOk js (lC n u):=by rintro x σ H Q ⟨a,xs,e,c,hl,q⟩;exact⟨a,xs,e,c,hl,b _ _ _ _ q⟩
end
end L2
namespace L2
open PySem PySem.Spec PyProof.Rows PySem.SeqAt
end L2
namespace L2
open PySem PySem.Spec PyProof.Rows
end L2
namespace L2
open PySem PySem.Spec PyProof.Rows PySem.SeqAt
end L2
namespace L2
open PySem PySem.Spec PyProof.Rows
section
variable{X:Cx}{e:Expr}{te:TE}{p1 p2 zBw zAU:Pos}
theorem JH:∀{xs:List V}{us:List _v},AG xs us->AG xs.reverse us.reverse
 |_,_,.nil=>.nil
 |_,_,.cons (a:=x) (b:=u) (l₁:=xs) (l₂:=us) r t=>by rw[Z2,Z2];exact AG.append (JH t) (.cons r .nil)
end
section
variable{X:Cx}{pins:List (B8×Obj)}{σ:St}{H:Hp}{s:A7}{h':K4}
theorem Inv.zAv{t':Nat}{ch:List B8}(I:Inv X pins σ H s)(k:∀b o,b∉ch->s.heap.get? b=_s o->h'.get? b=_s o)(hf:∀b∈ch,zAS X pins H b):Inv X pins σ H {s with heap:=h',toks:=t' }:=by
 have d:∀b u,H b=_s u->b∉ch:=λb u e z=>by have:=(hf b z).1;rw[e]at this;cases this
 refine I.step (g':=s.gens) (d':=s.drawn) (ch:=ch) (λb hb=>?_) (λb o _ _ a e _=>k b o a e) (λb o _ _ a e _=>⟨o.slots,k b o a e⟩) (λ_ _ _ _ n=>n)
  (λb o a e=>⟨o,k b o a e⟩) (λ_ _ e=>e) (λ_ _ _ e=>e) (λb ps e=>⟨#[],by rw[e];simp⟩) (λm hm=>?_) (λb u e=>?_) I.bare
 obtain⟨f0,f1,f2,h,f4,g⟩:=hf b hb;exact⟨h,f1,f4,g⟩;obtain⟨o,es,i,f,r⟩:=hm;exact⟨o,es,i,k _ o (λz=>(hf _ z).2.1 rfl) f,r⟩;refine(I.hok b u e).zBh (λc v a q=>k c v ?_ q) (λ_ q=>q) λ_ _ q=>q;rcases a with z|z
 rw[z];exact d b u e;exact d c _ z
end
section
variable{X:Cx}
def fW(K:W.Frag):List V->Hp->VK->Prop:=λxs H Q=>∃(p:B8)(ns:List Int),xs=[.ref p]/\Dl K H p (ns.map V.int)/\0 < ns.length/\∀M,M∈ns->(∀a,a∈ns->a<=M)->Q (.int M) H
theorem VV(K:W.Frag)(m:X.K=K:=by rfl)(l:X.calm=true:=by rfl):BX X (.builtin "max") (fW K):=by
 subst m;intro pins s σ H xs us Q I r h;obtain⟨p,ns,rfl,g,c,q⟩:=h;obtain⟨u,rfl,d⟩:=vals1 r;cases d;obtain⟨f,rv,pl,hz⟩:=I.list g;have hl:=pl.isList;have hi:=RJ rv;obtain⟨xs,e⟩:=hi.allInts.items;have b:ns=xs.toList.map (·.1):=by rw[<- hi.numsOf,<- nums_intItems,<- e]
 have hsz:0 < xs.size:=by have h3:=c;rw[b,C3,H9]at h3;exact h3
 rw[e]at hl;refine max_intList (I.ok.hd l) hl hsz λv h' n hv i=>?_;obtain⟨t,rfl⟩:=intItems_at hv;obtain⟨h1,h2⟩:=argBest_gt (numAt xs) (xs.size-1);refine⟨.int _,H,I.kept i,⟨t,rfl⟩,q _ ?_ λa ha=>?_⟩;rw[b,numAt_eq];exact getD_mem (by rw[C3,H9];omega);rw[b]at ha;obtain⟨j,k,rfl⟩:=mem_getD ha;rw[C3,H9]at k;rw[<- numAt_eq];exact h2 j `o
end
variable{u:_v}
section
variable{κ:Type}[DecidableEq κ]
noncomputable def Ae(kvs:List (κ×V))(k:κ):Option V:=(kvs.find? λa=>decide (a.1=k)).map (·.2)
noncomputable def BN(kvs:List (κ×V))(k:κ)(v:V):List (κ×V):=
 if(kvs.any λa=>decide (a.1=k))=_t then kvs.map (λa=>if a.1=k then(a.1,v)else a)else kvs++[(k,v)]
theorem Aj{p:κ×V}{r:List (κ×V)}{k:κ}(e:p.1=k):Ae (p::r) k=_s p.2:=by simp[Ae,R3,e]
theorem Ak{p:κ×V}{r:List (κ×V)}{k:κ}(e:¬p.1=k):Ae (p::r) k=Ae r k:=by simp[Ae,R3,e]
theorem Dn(k:κ):∀kvs:List (κ×V),(kvs.any λa=>decide (a.1=k))=(Ae kvs k).isSome
 |[]=>rfl
 |p::r=>by rw[O9];by_cases e:p.1=k;simp only[Aj e,decide_eq_true e,wa,xl];rw[Ak e,decide_eq_false e,zq];exact Dn k r
theorem Ni(k j:κ)(y:V):∀kvs:List (κ×V),Ae (kvs.map λa=>if a.1=k then(a.1,y)else a) j=(Ae kvs j).map λx=>if j=k then y else x
 |[]=>rfl
 |p::r=>by have b:=Ni k j y r;rw[B7];by_cases h:p.1=k;rw[if_pos h];by_cases e:p.1=j;rw[Aj (p:=(p.1,y)) e,Aj e,F0,if_pos (e.symm.trans h)];rw[Ak (p:=(p.1,y)) e,Ak e,b];rw[if_neg h];by_cases e:p.1=j;rw[Aj (p:=p) e,Aj e,F0,if_neg (λz=>h (e.trans z))];rw[Ak (p:=p) e,Ak e,b]
theorem LD(k j:κ)(y:V):∀kvs:List (κ×V),Ae kvs k=_n->Ae (kvs++[(k,y)]) j=if j=k then _s y else Ae kvs j
 |[],_=>by by_cases e:k=j;rw[if_pos e.symm];exact Aj (p:=(k,y)) e;rw[if_neg (λz=>e z.symm)];exact Ak (p:=(k,y)) e
 |p::r,a=>by
  rw[List.cons_append];have b:¬p.1=k:=λz=>by rw[Aj z]at a;cases a
  rw[Ak b]at a;have c:=LD k j y r a;by_cases e:p.1=j;rw[Aj e,Aj e,if_neg (λz=>b (e.trans z))];rw[Ak e,Ak e,c]
theorem Vy(kvs:List (κ×V))(k j:κ)(y:V):Ae (BN kvs k y) j=if j=k then _s y else Ae kvs j:=by
 unfold BN;by_cases a:(kvs.any λb=>decide (b.1=k))=_t;rw[if_pos a,Ni];rw[Dn]at a;by_cases e:j=k;obtain⟨x,c⟩:=O7.mp a;rw[if_pos e,e,c,F0,if_pos rfl];rw[if_neg e];cases Ae kvs j with|none=>rfl|some x=>rw[F0,if_neg e]
 rw[if_neg a];refine LD k j y kvs ?_;rw[Dn]at a;cases q:Ae kvs k with|none=>rfl|some x=>rw[q]at a;exact(a rfl).elim
theorem BV(kvs:List (κ×V))(k:κ)(v:V):(BN kvs k v).length<=kvs.length+1:=by unfold BN;split;rw[C3];omega;rw[B5,D4,O4];omega
theorem Wx{kvs:List (κ×V)}{k:κ}(v:V)(h:Ae kvs k=_n):BN kvs k v=kvs++[(k,v)]:=by unfold BN;rw[Dn,h];exact if_neg `d
theorem EF.zAX{o:Option V}{u:Option _v}(r:EF o u):o.isSome=u.isSome:=by
 cases o with
 |none=>cases u with
  |none=>rfl
  |some _=>exact(show False from r).elim
 |some _=>cases u with
  |none=>exact(show False from r).elim
  |some _=>rfl
theorem EF.getD{o:Option V}{u:Option _v}{d:V}{d':_v}(r:EF o u)(a:RelV d d'):RelV (o.getD d) (u.getD d'):=by
 cases o with
 |none=>cases u with
  |none=>exact a
  |some _=>exact(show False from r).elim
 |some _=>cases u with
  |none=>exact(show False from r).elim
  |some _=>exact r
theorem KV.val{kvs:List (κ×V)}{vs:List (κ×_v)}(r:KV kvs vs)(k:κ):EF (Ae kvs k) (xV vs k):=by
 unfold KV at r;induction r with
 |nil=>exact True.intro
 |@cons p q ps qs h t c=>
  obtain⟨h1,h2⟩:=h;by_cases e:p.1=k;have a:q.1=k:=h1.symm.trans e;have b:xV (q::qs) k=_s q.2:=by simp[xV,R3,a]
  rw[Aj e,b];exact h2;have a:¬q.1=k:=λz=>e (h1.trans z);have b:xV (q::qs) k=xV qs k:=by simp[xV,R3,a]
  rw[Ak e,b];exact c
theorem KV.any{kvs:List (κ×V)}{vs:List (κ×_v)}(r:KV kvs vs)(k:κ):(kvs.any λa=>decide (a.1=k))=vs.any λa=>decide (a.1=k):=by
 unfold KV at r;induction r with|nil=>rfl|cons h t b=>rw[O9,O9,b,h.1]
theorem KV.zCw{kvs:List (κ×V)}{vs:List (κ×_v)}(r:KV kvs vs)(k:κ){y:V}(b:RelV y u) :
    KV (kvs.map λa=>if a.1=k then(a.1,y)else a) (vs.map λa=>if a.1=k then(a.1,u)else a):=by
  unfold KV at r ⊢;induction r with|nil=>exact .nil|@cons p q ps qs h t c=>rw[B7,B7];refine .cons ?_ c;obtain⟨h1,h2⟩:=h;by_cases e:p.1=k;rw[if_pos e,if_pos (h1.symm.trans e)];exact⟨h1,b⟩;rw[if_neg e,if_neg (λz=>e (h1.trans z))];exact⟨h1,h2⟩
theorem KV.put{kvs:List (κ×V)}{vs:List (κ×_v)}(r:KV kvs vs)(k:κ){y:V}(a:RelV y u):KV (BN kvs k y) (stored vs k u):=by unfold BN stored;rw[r.any k];by_cases e:(vs.any λb=>decide (b.1=k))=_t;rw[if_pos e,if_pos e];exact r.zCw k a;rw[if_neg e,if_neg e];exact Paired.snoc r ⟨rfl,a⟩
theorem KV.length{kvs:List (κ×V)}{vs:List (κ×_v)}(r:KV kvs vs):kvs.length=vs.length:=Paired.length r
end
theorem IM{P:F9}{w:J5}{k:AO}(r:RelV (kV k) u):(AJ P w).is k u=true:=by
 cases k with|inl i=>obtain⟨t,e⟩:=(show ∃t,u=ye i t from r);subst e;exact OZ P w i t|inr x=>obtain⟨t,e⟩:=(show ∃t,u=yf x t from r);subst e;exact OY P w x t
theorem Li{P:F9}{w:J5}:∀{ks:List AO}{us:List _v},AG (ks.map kV) us->ItemsAre (AJ P w) ks us
 |[],_,r=>by rw[N0]at r;cases r;exact .nil
 |k::ks,_,r=>by
  rw[B7]at r;cases r with|cons h t=>exact .cons (IM h) (Li t)
abbrev KT(H:Hp):List (List AO×V)->List (List AO×B8×_v)->Prop:=Paired λp q=>p.1=q.1/\H q.2.1=_s (.tup (p.1.map kV))/\RelV p.2 q.2.2
variable{H:Hp}{xs:List (List AO×B8×_v)}
theorem KT.val{kvs:List (List AO×V)}(r:KT H kvs xs)(k:List AO):EF (Ae kvs k) ((Z3 xs k).map (·.2)):=by
 induction r with
 |nil=>exact True.intro
 |@cons p q ps qs h t c=>
  obtain⟨h1,_,h2⟩:=h;by_cases e:p.1=k;have a:q.1=k:=h1.symm.trans e;have b:Z3 (q::qs) k=_s q.2:=by simp[Z3,R3,a]
  rw[Aj e,b];exact h2;have a:¬q.1=k:=λz=>e (h1.trans z);have b:Z3 (q::qs) k=Z3 qs k:=by simp[Z3,R3,a]
  rw[Ak e,b];exact c
theorem KT.zCw{kvs:List (List AO×V)}(r:KT H kvs xs)(k:List AO){y:V}(b:RelV y u) :
    KT H (kvs.map λa=>if a.1=k then(a.1,y)else a) (xs.map (putAt k u)):=by
  induction r with|nil=>exact .nil|@cons p q ps qs h t c=>rw[B7,B7];refine .cons ?_ c;obtain⟨h1,h2,h3⟩:=h;unfold putAt;by_cases e:p.1=k;rw[if_pos e,if_pos (h1.symm.trans e)];exact⟨h1,h2,b⟩;rw[if_neg e,if_neg (λz=>e (h1.trans z))];exact⟨h1,h2,h3⟩
theorem KT.put{kvs:List (List AO×V)}(r:KT H kvs xs)(k:List AO){b:B8}{y:V}(hb:H b=_s (.tup (k.map kV)))(a:RelV y u) :
    KT H (BN kvs k y) (zH xs k b u):=by
  have e:(kvs.any λc=>decide (c.1=k))=(Z3 xs k).isSome:=by rw[Dn,(r.val k).zAX,Q5]
  unfold BN zH;rw[e];by_cases q:(Z3 xs k).isSome=_t;rw[if_pos q,if_pos q];exact r.zCw k a;rw[if_neg q,if_neg q];exact Paired.snoc r ⟨rfl,hb,a⟩
theorem KT.keeps{H':Hp}{kvs:List (List AO×V)}(r:KT H kvs xs)(a:∀b ys,H b=_s (.tup ys)->H' b=_s (.tup ys)):KT H' kvs xs:=
 Paired.zCy r λ_ _ z=>⟨z.1,a _ _ z.2.1,z.2.2⟩
section
variable{P:F9}{w:J5}{H:Hp}{h:K4}{a:B8}
theorem fV{u:HO}(ok:Ft P w H h)(e:Rd H a u):BC P w H h a u:=e.ok ok
theorem KQ{kvs:List (AO×V)}(ok:Ft P w H h)(e:Rd H a (.dK kvs)):kvs.length<=sizeLine/\(a==Q9)=_f/\∃vs,KV kvs vs/\h.DictOf (AJ P w) a vs:=
 show BC P w H h a (.dK kvs)from fV ok e
theorem TZ{kvs:List (AO×V)}(ok:Ft P w H h)(e:H a=_s (.dK kvs)):kvs.length<=sizeLine/\(a==Q9)=_f/\∃vs,KV kvs vs/\h.DictOf (AJ P w) a vs:=KQ ok (.inl e)
theorem GQ{ks:List AO}(ok:Ft P w H h)(e:H a=_s (.tup (ks.map kV))):(v7 (AJ P w)).is h ks a:=by obtain⟨_,b,r,o,h1,h2,_,n,h3⟩:=(show BC P w H h a (.tup (ks.map kV))from ok a _ e);exact⟨o,b.toArray,n,h1,h2,h3,by simpa using Li r⟩
theorem Lr{kvs:List (List AO×V)}(ok:Ft P w H h)(e:Rd H a (.dT kvs)):kvs.length<=sizeLine/\(a==Q9)=_f /\
    ∃xs,KT H kvs xs/\h.DictOfH (v7 (AJ P w)) a xs:=by
  obtain⟨z,y,xs,r,o,es,f,h1,h2,h3,h4,h5⟩:=(show BC P w H h a (.dT kvs)from fV ok e);refine⟨z,y,xs,r,o,es,f,h1,h2,h3,h4,λx b=>?_,h5⟩;have all:∀{l:List (List AO×V)}{m:List (List AO×B8×_v)},KT H l m->∀x∈m,(v7 (AJ P w)).is h x.1 x.2.1:=by
    intro l m q;induction q with
    |nil=>intro x b;exact nomatch b
    |@cons p q ps qs c t d=>
      intro x b;rcases D3.mp b with e|b
      subst e;exact GQ ok (by rw[<- c.1];exact c.2.1);exact d x b
  exact all r x b
theorem gW{kvs:List (List AO×V)}(ok:Ft P w H h)(e:H a=_s (.dT kvs)):kvs.length<=sizeLine/\(a==Q9)=_f /\
    ∃xs,KT H kvs xs/\h.DictOfH (v7 (AJ P w)) a xs:=Lr ok (.inl e)
end
def GA(H:Hp)(a:B8)(y:V)(r:Option V):Prop:=
 (∃kvs k,Rd H a (.dK kvs)/\y=kV k/\r=Ae kvs k)\/∃kvs k b,Rd H a (.dT kvs)/\y=.ref b/\H b=_s (.tup (k.map kV))/\r=Ae kvs k
def QB(H:Hp)(a:B8)(y v:V)(H':Hp):Prop:=
 (∃kvs k,H a=_s (.dK kvs)/\y=kV k/\kvs.length < sizeLine/\H'=upd H a (.dK (BN kvs k v))) \/
 ∃kvs k b,H a=_s (.dT kvs)/\y=.ref b/\H b=_s (.tup (k.map kV))/\kvs.length < sizeLine/\H'=upd H a (.dT (BN kvs k v))
variable{a:B8}
theorem GA.k{kvs:List (AO×V)}{k:AO}(e:H a=_s (.dK kvs)):GA H a (kV k) (Ae kvs k):=.inl ⟨kvs,k,.inl e,rfl,rfl⟩
theorem GA.t{b:B8}{kvs:List (List AO×V)}{k:List AO}(e:H a=_s (.dT kvs))(eb:H b=_s (.tup (k.map kV))):GA H a (.ref b) (Ae kvs k):=.inr ⟨kvs,k,b,.inl e,rfl,eb,rfl⟩
theorem QB.k{kvs:List (AO×V)}{k:AO}{v:V}(e:H a=_s (.dK kvs))(hl:kvs.length < sizeLine):QB H a (kV k) v (upd H a (.dK (BN kvs k v))):=.inl ⟨kvs,k,e,rfl,hl,rfl⟩
theorem QB.t{b:B8}{kvs:List (List AO×V)}{k:List AO}{v:V}(e:H a=_s (.dT kvs))(eb:H b=_s (.tup (k.map kV)))(hl:kvs.length < sizeLine) :
    QB H a (.ref b) v (upd H a (.dT (BN kvs k v))):=.inr ⟨kvs,k,b,e,rfl,eb,hl,rfl⟩
variable{Q:_v->A7->Prop}
section
variable{X:Cx}{pins:List (B8×Obj)}{σ:St}{H:Hp}{s:A7}{a:B8}{y v:V}{u r:_v}{o:Option V}{A:J3}{E:_v->A7->Prop}
theorem Inv.big(I:Inv X pins σ H s):Q9 < s.heap.objs.size:=by have h:M1 < s.heap.objs.size:=(I.mod.glob.keeps I.bk).lt;exact z8 `d h
theorem VP(q:A.units+1 < K0)(I:Inv X pins σ H s)(g:GA H a y (_s v))(n:RelV y u)(h:∀f s',Inv X pins σ H s'->RelV v f->Q f s') :
    C8 (D9 X.prog X.w) A (k8 (.ref a) u) Q E s:=by
  rcases g with⟨kvs,k,e,ey,l⟩|⟨kvs,k,b,e,ey,eb,l⟩
  subst ey;obtain⟨z,hd,vs,d,m⟩:=KQ I.hok e;obtain⟨f,i,c⟩:=EF.some_of (v:=v) (o:=xV vs k) (by rw[l];exact d.val k);exact wpAny_getItem_of (IM n) m.mapOf i (h f _ (I.tok _) c);subst ey;cases(show u=E9 b from n);obtain⟨z,hd,xs,d,m⟩:=Lr I.hok e;obtain⟨f,i,c⟩:=EF.some_of (v:=v) (o:=(Z3 xs k).map (·.2)) (by rw[l];exact d.val k);obtain⟨p,t,j⟩:=G3.mp i;refine xn (V0 q) (GQ I.hok eb) m t ?_;rw[j];exact h f _ (I.tok _) c
theorem qa(i:A.units+1 < K0)(I:Inv X pins σ H s)(g:GA H a y o)(f:RelV y u)(h:∀s',Inv X pins σ H s'->Q (.bool o.isSome) s') :
    C8 (D9 X.prog X.w) A (K6 .In u (.ref a)) Q E s:=by
  rcases g with⟨kvs,k,e,ey,l⟩|⟨kvs,k,b,e,ey,eb,l⟩
  subst ey;obtain⟨z,hd,vs,c,d⟩:=KQ I.hok e;refine wpAny_in_of (IM f) hd d.mapOf ?_;rw[<- (c.val k).zAX,<- l];exact h _ (I.tok _);subst ey;cases(show u=E9 b from f);obtain⟨z,hd,xs,c,d⟩:=Lr I.hok e;refine wpAny_in_heap (V0 i) (GQ I.hok eb) hd d ?_;have q:=(c.val k).zAX;rw[Q5]at q;rw[<- q,<- l];exact h _ (I.tok _)
theorem Ta(i:A.units+1 < K0)(I:Inv X pins σ H s)(g:GA H a y o)(f:RelV y u)(h:∀s',Inv X pins σ H s'->Q (.bool (!o.isSome)) s') :
    C8 (D9 X.prog X.w) A (K6 .NotIn u (.ref a)) Q E s:=by
  rcases g with⟨kvs,k,e,ey,l⟩|⟨kvs,k,b,e,ey,eb,l⟩
  subst ey;obtain⟨z,hd,vs,c,d⟩:=KQ I.hok e;refine wpAny_notIn_of (IM f) hd d.mapOf ?_;rw[<- (c.val k).zAX,<- l];exact h _ (I.tok _);subst ey;cases(show u=E9 b from f);obtain⟨z,hd,xs,c,d⟩:=Lr I.hok e;refine yk (V0 i) (GQ I.hok eb) hd d ?_;have q:=(c.val k).zAX;rw[Q5]at q;rw[<- q,<- l];exact h _ (I.tok _)
theorem CL{h':K4}{t':Nat}{ob:HO}(I:Inv X pins σ H s)(mu:my (H a))(hs:N9 a s.heap h')(he:∃q,h'.get? a=_s q)(new:BC X.prog X.w (upd H a ob) h' a ob) :
    Inv X pins σ (upd H a ob) {s with heap:=h',toks:=t' }:=
  I.write (x:=a) (e:=a) mu (.inl rfl) (λb q hb z=>(hs.2 b hb).trans z) he new
theorem ZK{P:F9}{w:J5}{H':Hp}{h':K4}{kvs:List (AO×V)}{vs:List (AO×_v)}(z:kvs.length<=sizeLine)(hd:(a==Q9)=_f)(b:KV kvs vs)(c:h'.DictOf (AJ P w) a vs) :
    BC P w H' h' a (.dK kvs):=⟨z,hd,vs,b,c⟩
theorem Lu{H':Hp}{Q:Unit->A7->Prop}(p:A.units+1 < K0)(I:Inv X pins σ H s)(g:QB H a y v H')(n:RelV y u)(rv:RelV v r)(h:∀s',Inv X pins σ H' s'->Q () s') :
    C8 (D9 X.prog X.w) A (zG (.ref a) u r) Q E s:=by
  rcases g with⟨kvs,k,e,ey,l,j⟩|⟨kvs,k,b,e,ey,eb,l,j⟩
  subst ey j;obtain⟨z,hd,vs,d,m⟩:=TZ I.hok e;have hz:vs.length<=sizeLine:=by rw[<- d.length];exact z
  have hl:(BN kvs k v).length<=sizeLine:=by have:=BV kvs k v;omega
  refine wpAny_setItem_pairs (hsz:=hz) (IM n) m λh' f hs=>h _ ?_;have he:∃q,h'.get? a=_s q:=let ⟨q,_,_,i,_⟩:=f;⟨q,i⟩;exact CL I (by rw[e];exact True.intro) hs he (ZK hl hd (d.put k rv) f)
  subst ey j;cases(show u=E9 b from n);obtain⟨z,hd,xs,d,m⟩:=gW I.hok e;have hz:xs.length<=sizeLine:=by rw[<- Paired.length d];exact z
  have hl:(BN kvs k v).length<=sizeLine:=by have:=BV kvs k v;omega
  refine xq (hsz:=hz) (V0 p) (GQ I.hok eb) m λh' f hs=>h _ ?_;obtain⟨q,es,t,i,h2,h3,h4,_,h5⟩:=f;refine CL I (by rw[e];exact True.intro) hs ⟨q,i⟩ ⟨hl,hd,_,(d.put k eb rv).keeps λc ys ec=>?_,q,es,t,i,h2,h3,h4,h5⟩;rw[AD (Sj ec e (λz=>nomatch z))];exact ec
end
section
variable{X:Cx}{pins:List (B8×Obj)}{σ:St}{H:Hp}{s:A7}{a:B8}{kvs:List (AO×V)}{k:AO}{u:_v}{A:J3}{E:_v->A7->Prop}
theorem qZ(I:Inv X pins σ H s)(e:Rd H a (.dK kvs))(h:∀t s',Inv X pins σ H s'->Q (.int kvs.length t) s'):C8 (D9 X.prog X.w) A (call (.builtin "len") [.ref a]) Q E s:=by obtain⟨z,hd,vs,b,c⟩:=KQ I.hok e;refine call_len_dict hd c (by rw[<- b.length];rw[T7]at z;omega) ?_;rw[<- b.length];exact h _ _ (I.tok _)
end
theorem PM{X:Cx}{pins:List (B8×Obj)}{σ:St}{s:A7}{y:V}{o:Option V}(I:Inv X pins σ H s)(g:GA H a y o):s.TypeIs (.ref a) "dict" := by
 rcases g with⟨kvs,k,e,_,_⟩|⟨kvs,k,b,e,_,_,_⟩
 obtain⟨_,_,vs,_,c⟩:=KQ I.hok e;exact c.typeIs;obtain⟨_,_,xs,_,c⟩:=Lr I.hok e;exact c.typeIs
theorem PL{P:F9}{w:J5}(h:K4)(hb:Q9 < h.objs.size):BC P w H (h.push {cls:=.type "dict", data:=.dict #[]}) h.objs.size (.dK []):=
 ⟨H8 _,beq_eq_false_iff_ne.mpr (Ne.symm (E5 hb)),[],.nil,zAP h⟩
abbrev iN:TE:=λ_ H Q=>∀p,H p=_n->Q (.ref p) (upd H p (.dK []))
section
variable{X:Cx}{pos:Pos}
theorem Xb:PE X (.Dict [] [] pos) iN:=λpins s σ H Q I h =>
 wpAny_Dict_empty ⟨.ref s.heap.objs.size,_,I.laid (a:=s.heap.objs.size) (o:=.dK []) (t':=s.toks) (λ_ _ q=>A5 _ q) (B3 _) (PL s.heap I.big),rfl,h _ (I.hok.fresh (B3 _))⟩
end
section
variable{X:Cx}{pins:List (B8×Obj)}{σ:St}{H:Hp}{s:A7}{a:B8}{y d:V}{u r:_v}{o:Option V}{A:J3}{E:_v->A7->Prop}
theorem lP(n:A.units+1 < K0)(I:Inv X pins σ H s)(g:GA H a y o)(j:RelV y u)(m:RelV d r)(h:∀i s',Inv X pins σ H s'->RelV (o.getD d) i->Q i s') :
    C8 (D9 X.prog X.w) A (call (.builtin "dict.get") [.ref a,u,r]) Q E s:=by
  rcases g with⟨kvs,k,e,ey,l⟩|⟨kvs,k,b,e,ey,eb,l⟩
  subst ey;obtain⟨z,hd,vs,c,f⟩:=KQ I.hok e;refine wb W2 f.typeIs Z4 (Y5 _ _ _) (meets_dict_get_default (AJ X.prog X.w) a (IM j) hd r) ⟨_,f.mapOf,h _ _ (I.tok _) ?_⟩;rw[l];exact(c.val k).getD m;subst ey;cases(show u=E9 b from j);obtain⟨z,hd,xs,c,f⟩:=Lr I.hok e;refine wb W2 f.typeIs Z4 (Y5 _ _ _) (wH (v7 (AJ X.prog X.w)) a b hd r) ⟨V0 n,k,xs,GQ I.hok eb,f,h _ _ (I.tok _) ?_⟩;rw[l];exact(c.val k).getD m
end
section
variable{X:Cx}
theorem VY:BX X (.builtin "len") (λxs H Q=>∃a kvs,xs=[V.ref a]/\H a=_s (.dK kvs)/\Q (.int kvs.length) H):=by intro pins s σ H xs us Q I r h;obtain⟨a,kvs,rfl,ha,q⟩:=h;obtain⟨u,rfl,b⟩:=vals1 r;cases b;exact qZ I (.inl ha) λt s' c=>⟨.int kvs.length,H,c,⟨t,rfl⟩,q⟩
end
theorem DZ:entryFor table "dict.update.loop" = _s U2.«dict.update.loop»:=entryFor_of_tree `k
theorem BP:plainId "dict.update.loop" = true:=by decide +kernel
def Ji{b:Type} [DecidableEq b] (kvs:List (b×V)) (ps:List (b×V)):List (b×V):=ps.foldl (λk p=>BN k p.1 p.2) kvs
noncomputable def jn(b:List Nat):List (List Nat)->List Nat
 |[]=>[]
 |x::ys=>x++(ys.flatMap λy=>b++y)
theorem nE(b:List Nat):∀ys:List (List Nat),zAI (tx b) (ys.map tx)=tx (jn b ys):=by
 intro ys;have h:zAI (tx b) (ys.map tx)=ze (tx b) (ys.map tx):=by simpa using join_plain_closes (tx b) (ys.map tx)
 rw[h];have:∀(x:List Nat)(ys:List (List Nat)),ze (tx b) ((x::ys).map tx)=tx (x++(ys.flatMap λy=>b++y)):=by
  intro x ys;induction ys generalizing x with|nil=>simp[ze]|cons y ys c=>show tx x++tx b++ze (tx b) ((y::ys).map tx)=_;rw[c y,QK,QK];simp
 cases ys with|nil=>rfl|cons x ys=>exact this x ys
theorem iB(ys:List (List Nat)):((ys.map tx).map (·.length)).sum=(ys.map W8).sum:=by rw[V1];congr 1
end L2
namespace L2
open PySem
abbrev fJ(l:W.OpenLaw)(n:Nat)(as:List B8)(K:xj->W.Frag)(N:Nat):Prop:=
 W.LeftO l.row.prog (W.view l.prog (B2 n)) [] (λs=>W.xlAt (W.view l.prog (B2 n)) [] s&&W.recOk [] s) (λs=>as.map s.heap.get?) (λw=>(K w.params).map λp=>_s p.2) N
theorem zEJ{l:W.OpenLaw}{n:Nat}{N:Nat}{d:z7}{K:xj->W.Frag}{as:List B8}(ws:l.wellSaid=_t)(left:fJ l n as K N)
    (has:∀P,as=(K P).map (·.1)) (h:l.row.records=[]) (a:W.defOf (W.view l.prog (B2 n)) l.row.name=_s (d,[])) (i:l.row.prog.theDef l.row.name=_s (d.params,d.body,d.scope)) (j:W.kwWritten? d.params.kwonlyargs d.params.kw_defaults=_s [])
    (c:(!l.row.writes||l.row.records.isEmpty)=_t)
    (ok:(W.chainsOk (W.view l.prog (B2 n))&&W.opensWell l.row.prog&&(W.frees l.row.toRowW&&l.row.within.isEmpty))=_t) (hb:l.row.prog.bare) (g:l.row.toRowW.promised)
    (call:W.WalkO (W.view l.prog (B2 n)) [] (W.XL (W.view l.prog (B2 n)) []) (W.InK K) l.row.toRowW d [] λf vs=>xk f vs):l.Holds:=
  W.holds_law ws λb=>W.holds_open (q:=W.view l.prog (B2 n)) (loose:=[]) (XP:=W.XL (W.view l.prog (B2 n)) []) (YP:=W.InK K) left (W.InK.of has) W.InK.keeps (λs e=>W.xl_of s (Q0.mp e).1) W.XL.keeps a i j (λs e=>W.recFacts_nil h) c b ok hb g call
noncomputable abbrev ke(P:xj)(x:Str)(t:Tok)(v:_v):DictEntry:=⟨PyData.keyHash P x,.str x t,v⟩
noncomputable abbrev cO(x:Str)(t:Tok)(l a s:Int)(h g:B8)(e d c:_v)(f:B8)(b:Nat):Obj:=⟨.type "code", _n,.fields #[.str x t,.str x (t+1),.str "/claim/cut.py" (t+2),.int l 0,.int a 0,.int 0 0,.int 0 0,.int s 0,.ref h,.bool _t,.int 181 0,.ref g,e,d,c,.ref f,.int b 0,.int l 0,.str "/claim/cut.py" (b+1)],#[]⟩
noncomputable def lN:N4->Pos
 |.FunctionDef _ _ _ _ _ _ _ _ _ p=>p
 |_=>⟨0,0,0,0⟩
noncomputable def EG(K:W.Frag)(n:Str):B8:=match W.nsIn K M1 n with
 |some (_s (.ref a))=>a
 |_=>0
noncomputable def bw(K:W.Frag)(f:B8):Value:=match K.lookup f with
 |some ⟨_,_,.func d,_⟩=>d.pyModule
 |_=>.none
noncomputable def VS(K:W.Frag)(f:B8):Value:=match K.lookup f with
 |some ⟨_,_,.func d,_⟩=>d.code
 |_=>.none
abbrev GF(K:W.Frag)(n:Str)(t:N4):Prop:=W.nsIn K M1 n=_s (_s (.ref (EG K n))) /\
 K.lookup (EG K n)=_s ⟨.type "function", _n,.func (W.fnOf n n (BQ t) (Ay t) (AK t) .none .none .none (bw K (EG K n)) _n (VS K (EG K n)) .none),#[]⟩ /\
 W.codeIn K (VS K (EG K n)) n=_t/\W.keepIn K (.ref (EG K n))=_t
theorem ku{K:W.Frag}{n:Str}{t:N4}(h:GF K n t):Fun K n n t (EG K n) (W.fnOf n n (BQ t) (Ay t) (AK t) .none .none .none (bw K (EG K n)) _n (VS K (EG K n)) .none):=Ya h.2.1 h.2.2.1 h.2.2.2
end L2
namespace R
open PySem L2
set_option genInjectivity true in
inductive Dv where
 |non|bl (b:Bool)|int (i:Int)|str (x:List Nat)|tup (xs:List Dv)|lst (xs:List Dv)|dct (ks:List AO) (xs:List Dv)|dcl (ks:List AO) (xs:List Dv)|ref (k:Nat)|scr (ns:List Int)|ty (n:String)|mtp (ls:List (List Nat))|dnt (ks:List (NK AO)) (xs:List Dv)|obj (c:Str) (fl nm:List Str) (xs:List Dv)
 deriving Inhabited
structure G where
 Z:B8->Prop
 μ:List B8
noncomputable abbrev Fp:=B8->Prop
def Bg(P Q:Fp):Prop:=∀a,P a->Q a->False
def nop:Fp:=λ_=>False
def Lk(g:G)(H:Hp)(o:Nat)(a:B8)(vs:List V):Prop:=H a=_s (.lst vs)/\(o=0->g.Z a)/\(o≠0->¬g.Z a)
def sA(K:W.Frag)(H:Hp)(a:B8)(ns:List Int):Prop:=(∃o,H a=_s (.frz o (.lst (ns.map V.int)))) \/
    ∃(o:Obj)(b:Array _v)(n:Nat),K.lookup a=_s o/\o.cls=.type "list" /\ o.dict=_n/\o.data=.seq b n/\b.size<=sizeLine/\AG (ns.map V.int) b.toList
theorem sA.sq{K:W.Frag}{H:Hp}{a:B8}{ns:List Int}(h:sA K H a ns):Dl K H a (ns.map V.int):=h.elim (λh=>.inl (.inr h)) .inr
def uy(K:W.Frag)(a:B8)(ls:List (List Nat)):Prop:=∃(o:Obj)(b:Array _v)(n:Nat),K.lookup a=_s o/\o.cls=.type "tuple" /\ o.data=.seq b n/\b.size<=sizeLine/\AG (ls.map λl=>V.str (tx l)) b.toList
def eg(K:W.Frag)(c:Str)(fl:List Str):Prop:=Cls K (EG K c)/\∀f∈fl,FT K (EG K c) f
mutual
noncomputable def Rep(K:W.Frag)(g:G)(H:Hp):Nat->Dv->V->Fp->Prop
 |_,.non,v,P=>v=.non/\∀a,¬P a
 |_,.bl b,v,P=>v=.bl b/\∀a,¬P a
 |_,.int i,v,P=>v=.int i/\∀a,¬P a
 |_,.str l,v,P=>v=.str (tx l)/\∀a,¬P a
 |o,.tup ds,v,P=>∃a vs,v=.ref a/\H a=_s (.tup vs)/\AA K g H (o-1) ds vs P
 |o,.lst ds,v,P=>∃a vs P',v=.ref a/\Lk g H o a vs/\AA K g H (o-1) ds vs P'/\¬P' a/\∀b,P b↔(o≠0/\b=a)\/P' b
 |o,.dct ks ds,v,P=>∃a vs,v=.ref a/\H a=_s (.dK (ks.zip vs))/\(o=0->g.Z a)/\(o≠0->¬g.Z a)/\(ks.length=ds.length/\∃R,AA K g H 0 ds vs R)/\∀b,P b↔(o≠0/\b=a)
 |_,.ref k,v,P=>(∃a,g.μ[k]?=_s a/\v=.ref a)/\∀a,¬P a
 |_,.scr ns,v,P=>(∃a,v=.ref a/\sA K H a ns)/\∀a,¬P a
 |_,.ty n,v,P=>v=.ty n/\∀a,¬P a
 |_,.mtp ls,v,P=>(∃a,v=.ref a/\uy K a ls)/\∀a,¬P a
 |o,.dnt ks ds,v,P=>∃a vs,v=.ref a/\H a=_s (.dN (ks.zip vs))/\(o=0->g.Z a)/\(o≠0->¬g.Z a)/\(ks.length=ds.length/\∃R,AA K g H 0 ds vs R)/\∀b,P b↔(o≠0/\b=a)
 |o,.obj c fl nm ds,v,P=>∃a dx vs P',v=.ref a/\H a=_s (.ins (EG K c) dx (nm.zip vs))/\(o=0->g.Z a)/\(o≠0->¬g.Z a)/\(eg K c fl/\nm.length=ds.length/\∀f∈nm,f∈fl)/\AA K g H o ds vs P'/\¬P' a/\∀b,P b↔(o≠0/\b=a)\/P' b
 |o,.dcl ks ds,v,P=>∃a vs P',v=.ref a/\H a=_s (.dK (ks.zip vs))/\(o=0->g.Z a)/\(o≠0->¬g.Z a)/\ks.length=ds.length/\AA K g H o ds vs P'/\¬P' a/\∀b,P b↔(o≠0/\b=a)\/P' b
noncomputable def AA(K:W.Frag)(g:G)(H:Hp):Nat->List Dv->List V->Fp->Prop
 |_,[],vs,P=>vs=[]/\∀a,¬P a
 |o,d::ds,vs,P=>∃v r P1 P2,vs=v::r/\Rep K g H o d v P1/\AA K g H o ds r P2/\Bg P1 P2/\∀a,P a↔P1 a\/P2 a
end
def Zd(g:G)(H:Hp):Prop:=∀a,g.Z a->H a≠_n
structure Step (g:G) (P:Fp) (H:Hp) (g':G) (P':Fp) (H':Hp):Prop where
 keep:∀b o,H b=_s o->¬P b->H' b=_s o
 dom:∀b,H' b=_n->H b=_n
 zm:∀a,g.Z a->g'.Z a
 zn:∀a,g'.Z a->g.Z a\/P a\/H a=_n
 mu:∃r,g'.μ=g.μ++r
 nw:∀a,P' a->P a\/H a=_n
 zd:Zd g H->Zd g' H'
 ins:∀b C dx fs,H b=_s (.ins C dx fs)->∃fs',H' b=_s (.ins C dx fs')/\∀f r,fs.lookup f=_s (.ref r)->fs'.lookup f=_s (.ref r)
theorem Step.refl{g:G}{P:Fp}{H:Hp}:Step g P H g P H:=⟨λ_ _ h _=>h,λ_ h=>h,λ_ h=>h,λ_ h=>.inl h,⟨[],by simp⟩,λ_ h=>.inl h,λh=>h,λ_ _ _ fs h=>⟨fs,h,λ_ _ z=>z⟩⟩
theorem Step.trans{g g1 g2:G}{P P1 P2:Fp}{H H1 i:Hp}(a:Step g P H g1 P1 H1)(b:Step g1 P1 H1 g2 P2 i):Step g P H g2 P2 i:=by
 refine⟨λc o h n=>?_,λc h=>a.dom c (b.dom c h),λc h=>b.zm c (a.zm c h),λc h=>?_,?_,λc h=>?_,λz=>b.zd (a.zd z),λc C dx fs h=>?_⟩;refine b.keep c o (a.keep c o h n) λz=>?_;rcases a.nw c z with z|z
 exact n z;rw[h]at z;cases z;rcases b.zn c h with z|z|z
 exact a.zn c z;exact(a.nw c z).elim (λq=>.inr (.inl q)) λq=>.inr (.inr q);exact .inr (.inr (a.dom c z));obtain⟨k,e⟩:=a.mu;obtain⟨j,d⟩:=b.mu;exact⟨k++j,by rw[d,e,G9]⟩;rcases b.nw c h with z|z
 exact a.nw c z;exact .inr (a.dom c z);obtain⟨f1,e,l⟩:=a.ins c C dx fs h;obtain⟨f2,d,k2⟩:=b.ins c C dx f1 e;exact⟨f2,d,λf r z=>k2 f r (l f r z)⟩
theorem Step.sub{g g':G}{P Q P' Q':Fp}{H H':Hp}(s:Step g P H g' P' H')(h1:∀a,P a->Q a)(h2:∀a,Q' a->P' a):Step g Q H g' Q' H':=
 ⟨λb o h n=>s.keep b o h λz=>n (h1 b z),s.dom,s.zm,λa h=>(s.zn a h).elim .inl λz=>.inr (z.elim (λq=>.inl (h1 a q)) .inr),s.mu,λa h=>(s.nw a (h2 a h)).elim (λq=>.inl (h1 a q)) .inr,s.zd,s.ins⟩
theorem Step.less{g g':G}{P P' Q':Fp}{H H':Hp}(s:Step g P H g' P' H')(h2:∀a,Q' a->P' a):Step g P H g' Q' H':=s.sub (λ_ q=>q) h2
theorem Step.frame{g g':G}{P P' R:Fp}{H H':Hp}(s:Step g P H g' P' H'):Step g (λa=>P a\/R a) H g' (λa=>P' a\/R a) H':=
 ⟨λb o h n=>s.keep b o h λz=>n (.inl z),s.dom,s.zm,λa h=>(s.zn a h).elim .inl λz=>.inr (z.elim (λq=>.inl (.inl q)) .inr),s.mu,λa h=>h.elim (λq=>(s.nw a q).elim (λz=>.inl (.inl z)) .inr) λq=>.inl (.inr q),s.zd,s.ins⟩
theorem Step.same{g:G}{P:Fp}{H H':Hp}(s:NY H H'):Step g P H g P H':=
 have c:∀b,H' b=_n->H b=none:=λb h=>by
  cases e:H b with|none=>rfl|some o=>rw[s b o e]at h;cases h
 ⟨λb o h _=>s b o h,c,λ_ h=>h,λ_ h=>.inl h,⟨[],by simp⟩,λ_ h=>.inl h,λz a h q=>z a h (c a q),λb C dx fs h=>⟨fs,s b _ h,λ_ _ z=>z⟩⟩
theorem Ii{H:Hp}{a:B8}{o u:HO}(h:H a=_s u)(c:∀C dx fs,u≠.ins C dx fs):∀b C dx fs,H b=_s (.ins C dx fs)->∃fs',upd H a o b=_s (.ins C dx fs')/\∀f r,fs.lookup f=_s (.ref r)->fs'.lookup f=_s (.ref r):=λb C dx fs e =>
 ⟨fs,by rw[AD λz=>by subst z;rw[h]at e;exact c C dx fs (C5 e)];exact e,λ_ _ z=>z⟩
def zAS(g:G)(H:Hp)(P:Fp):Prop:=∀a,P a->my (H a)/\¬g.Z a
theorem zAS.or{g:G}{H:Hp}{P Q:Fp}(h:zAS g H P)(k:zAS g H Q):zAS g H λa=>P a\/Q a:=λa q=>q.elim (h a) (k a)
theorem zAS.nop{g:G}{H:Hp}:zAS g H nop:=λ_ z=>z.elim
theorem zAS.new{g:G}{H:Hp}{P:Fp}(h:zAS g H P){a:B8}(n:H a=_n):¬P a:=λz=>by have:=(h a z).1;rw[n]at this;exact this
theorem Fh{P:Fp}(h:∀a,¬P a):P=nop:=funext λa=>propext ⟨λz=>(h a z).elim,λz=>z.elim⟩
section
variable{K:W.Frag}{g g':G}{H H':Hp}
theorem Step.out{P P' R:Fp}(s:Step g P H g' P' H')(ok:zAS g H R)(n:Bg R P):Bg R P':=λa q z=>(s.nw a z).elim (λz=>n a q z) λz=>ok.new z q
theorem Lk.held{o:Nat}{a:B8}{vs:List V}{P P':Fp}(h:Lk g H o a vs)(b:o≠0->¬P a)(s:Step g P H g' P' H')(ok:zAS g H P):Lk g' H' o a vs:=by
 have np:¬P a:=by by_cases z:o=0;exact λq=>(ok a q).2 (h.2.1 z);exact b z
 refine⟨s.keep _ _ h.1 np,λz=>s.zm _ (h.2.1 z),λz q=>?_⟩;rcases s.zn _ q with q|q|q
 exact h.2.2 z q;exact np q;rw[h.1]at q;cases q
mutual
theorem Rep.zAc:∀{d:Dv}{v:V}{R:Fp},Rep K g H 0 d v R->∀a,¬R a
 |.non,v,R,h|.bl _,v,R,h|.int _,v,R,h|.str _,v,R,h|.ty _,v,R,h|.mtp _,v,R,h|.ref _,v,R,h|.scr _,v,R,h=>by unfold Rep at h;exact h.2
 |.dnt ks ds,v,R,h=>by unfold Rep at h;obtain⟨b,vs,e,h1,h2,h3,h5,h4⟩:=h;exact λa q=>((h4 a).mp q).1 rfl
 |.obj c fl nm ds,v,R,h=>by unfold Rep at h;obtain⟨b,dx,vs,f,e,h1,hz,i,hl,h2,h3,h5⟩:=h;exact λa q=>((h5 a).mp q).elim (λz=>z.1 rfl) λz=>AA.zAc h2 a z
 |.dcl ks ds,v,R,h=>by unfold Rep at h;obtain⟨b,vs,f,e,h1,hz,i,hl,h2,h3,h5⟩:=h;exact λa q=>((h5 a).mp q).elim (λz=>z.1 rfl) λz=>AA.zAc h2 a z
 |.tup ds,v,R,h=>by unfold Rep at h;obtain⟨_,vs,e,h1,h2⟩:=h;exact AA.zAc h2
 |.lst ds,v,R,h=>by unfold Rep at h;obtain⟨b,vs,f,e,h1,h2,h3,h5⟩:=h;exact λa q=>((h5 a).mp q).elim (λz=>z.1 rfl) λz=>AA.zAc h2 a z
 |.dct ks ds,v,R,h=>by unfold Rep at h;obtain⟨b,vs,e,h1,h2,h3,h5,h4⟩:=h;exact λa q=>((h4 a).mp q).1 rfl
theorem AA.zAc:∀{ds:List Dv}{vs:List V}{R:Fp},AA K g H 0 ds vs R->∀a,¬R a
 |[],vs,R,h=>by unfold AA at h;exact h.2
 |d::ds,vs,R,h=>by unfold AA at h;obtain⟨v,r,P1,P2,e,h1,h2,h3,h4⟩:=h;exact λa q=>((h4 a).mp q).elim (λz=>Rep.zAc h1 a z) λz=>AA.zAc h2 a z
end
mutual
theorem Rep.held{P P':Fp}(s:Step g P H g' P' H')(ok:zAS g H P):∀{o:Nat}{d:Dv}{v:V}{R:Fp},Rep K g H o d v R->Bg R P->Rep K g' H' o d v R
 |_,.non,v,R,h,_|_,.bl _,v,R,h,_|_,.int _,v,R,h,_|_,.str _,v,R,h,_|_,.ty _,v,R,h,_|_,.mtp _,v,R,h,_=>by unfold Rep at h ⊢;exact h
 |o,.dnt ks ds,v,R,h,d=>by
  unfold Rep at h ⊢;obtain⟨a,vs,e,h1,h2,h3,⟨h5,i,h6⟩,h4⟩:=h;have f:¬P a:=λz=>by by_cases q:o=0;exact(ok a z).2 (h2 q);exact d a ((h4 a).mpr ⟨q,rfl⟩) z
  refine⟨a,vs,e,s.keep _ _ h1 f,λq=>s.zm _ (h2 q),λq z=>?_,⟨h5,i,AA.held s ok h6 λb q z=>(AA.zAc h6 b q).elim⟩,h4⟩;rcases s.zn _ z with z|z|z
  exact h3 q z;exact f z;rw[h1]at z;cases z
 |o,.obj c fl nm ds,v,R,h,d=>by
  unfold Rep at h ⊢;obtain⟨a,dx,vs,i,e,h1,h2,h3,hl,h6,h7,h4⟩:=h;have f:¬P a:=λz=>by by_cases q:o=0;exact(ok a z).2 (h2 q);exact d a ((h4 a).mpr (.inl ⟨q,rfl⟩)) z
  refine⟨a,dx,vs,i,e,s.keep _ _ h1 f,λq=>s.zm _ (h2 q),λq z=>?_,hl,AA.held s ok h6 λb q z=>d b ((h4 b).mpr (.inr q)) z,h7,h4⟩;rcases s.zn _ z with z|z|z
  exact h3 q z;exact f z;rw[h1]at z;cases z
 |o,.dcl ks ds,v,R,h,d=>by
  unfold Rep at h ⊢;obtain⟨a,vs,i,e,h1,h2,h3,hl,h6,h7,h4⟩:=h;have f:¬P a:=λz=>by by_cases q:o=0;exact(ok a z).2 (h2 q);exact d a ((h4 a).mpr (.inl ⟨q,rfl⟩)) z
  refine⟨a,vs,i,e,s.keep _ _ h1 f,λq=>s.zm _ (h2 q),λq z=>?_,hl,AA.held s ok h6 λb q z=>d b ((h4 b).mpr (.inr q)) z,h7,h4⟩;rcases s.zn _ z with z|z|z
  exact h3 q z;exact f z;rw[h1]at z;cases z
 |o,.tup ds,v,R,h,n=>by unfold Rep at h ⊢;obtain⟨a,vs,e,h1,h2⟩:=h;exact⟨a,vs,e,s.keep _ _ h1 λz=>(by have:=(ok a z).1;rw[h1]at this;exact this),AA.held s ok h2 n⟩
 |o,.lst ds,v,R,h,n=>by unfold Rep at h ⊢;obtain⟨a,vs,i,e,h1,h2,h3,h5⟩:=h;exact⟨a,vs,i,e,h1.held (λz q=>n a ((h5 a).mpr (.inl ⟨z,rfl⟩)) q) s ok,AA.held s ok h2 λb q z=>n b ((h5 b).mpr (.inr q)) z,h3,h5⟩
 |o,.dct ks ds,v,R,h,d=>by
  unfold Rep at h ⊢;obtain⟨a,vs,e,h1,h2,h3,⟨h5,i,h6⟩,h4⟩:=h;have f:¬P a:=λz=>by by_cases q:o=0;exact(ok a z).2 (h2 q);exact d a ((h4 a).mpr ⟨q,rfl⟩) z
  refine⟨a,vs,e,s.keep _ _ h1 f,λq=>s.zm _ (h2 q),λq z=>?_,⟨h5,i,AA.held s ok h6 λb q z=>(AA.zAc h6 b q).elim⟩,h4⟩;rcases s.zn _ z with z|z|z
  exact h3 q z;exact f z;rw[h1]at z;cases z
 |_,.ref k,v,R,h,_=>by unfold Rep at h ⊢;obtain⟨⟨a,h1,h2⟩,h3⟩:=h;obtain⟨r,e⟩:=s.mu;refine⟨⟨a,?_,h2⟩,h3⟩;rw[e,E6 (A4.mp h1).1];exact h1
 |_,.scr ns,v,R,h,_=>by
  unfold Rep at h ⊢;obtain⟨⟨a,h1,h2⟩,h3⟩:=h;refine⟨⟨a,h1,?_⟩,h3⟩;rcases h2 with⟨o,h2⟩|h2
  exact .inl ⟨o,s.keep _ _ h2 λz=>by have:=(ok a z).1;rw[h2]at this;exact this⟩;exact .inr h2
theorem AA.held{P P':Fp}(s:Step g P H g' P' H')(ok:zAS g H P):∀{o:Nat}{ds:List Dv}{vs:List V}{R:Fp},AA K g H o ds vs R->Bg R P->AA K g' H' o ds vs R
 |_,[],vs,R,h,_=>by unfold AA at h ⊢;exact h
 |o,d::ds,vs,R,h,n=>by unfold AA at h ⊢;obtain⟨v,r,P1,P2,e,h1,h2,h3,h4⟩:=h;exact⟨v,r,P1,P2,e,Rep.held s ok h1 λa q z=>n a ((h4 a).mpr (.inl q)) z,AA.held s ok h2 λa q z=>n a ((h4 a).mpr (.inr q)) z,h3,h4⟩
end
mutual
theorem Rep.zAR:∀{o:Nat}{d:Dv}{v:V}{R:Fp},Rep K g H o d v R->zAS g H R
 |_,.non,v,R,h,a,q|_,.bl _,v,R,h,a,q|_,.int _,v,R,h,a,q|_,.str _,v,R,h,a,q|_,.ty _,v,R,h,a,q|_,.mtp _,v,R,h,a,q|_,.ref _,v,R,h,a,q|_,.scr _,v,R,h,a,q=>by unfold Rep at h;exact(h.2 a q).elim
 |o,.dnt ks ds,v,R,h,a,q=>by unfold Rep at h;obtain⟨b,vs,e,h1,h2,h3,h5,h4⟩:=h;obtain⟨f,rfl⟩:=(h4 a).mp q;exact⟨by rw[h1];trivial,h3 f⟩
 |o,.obj c fl nm ds,v,R,h,a,q=>by
  unfold Rep at h;obtain⟨b,dx,vs,i,e,h1,h2,h3,hl,h6,h7,h4⟩:=h;rcases(h4 a).mp q with⟨z,rfl⟩|z
  exact⟨by rw[h1];trivial,h3 z⟩;exact AA.zAR h6 a z
 |o,.dcl ks ds,v,R,h,a,q=>by
  unfold Rep at h;obtain⟨b,vs,i,e,h1,h2,h3,hl,h6,h7,h4⟩:=h;rcases(h4 a).mp q with⟨z,rfl⟩|z
  exact⟨by rw[h1];trivial,h3 z⟩;exact AA.zAR h6 a z
 |o,.tup ds,v,R,h,a,q=>by unfold Rep at h;obtain⟨_,vs,e,h1,h2⟩:=h;exact AA.zAR h2 a q
 |o,.lst ds,v,R,h,a,q=>by
  unfold Rep at h;obtain⟨b,vs,i,e,h1,h2,h3,h5⟩:=h;rcases(h5 a).mp q with⟨z,rfl⟩|z
  exact⟨by rw[h1.1];trivial,h1.2.2 z⟩;exact AA.zAR h2 a z
 |o,.dct ks ds,v,R,h,a,q=>by unfold Rep at h;obtain⟨b,vs,e,h1,h2,h3,h5,h4⟩:=h;obtain⟨f,rfl⟩:=(h4 a).mp q;exact⟨by rw[h1];trivial,h3 f⟩
theorem AA.zAR:∀{o:Nat}{ds:List Dv}{vs:List V}{R:Fp},AA K g H o ds vs R->zAS g H R
 |_,[],vs,R,h,a,q=>by unfold AA at h;exact(h.2 a q).elim
 |o,d::ds,vs,R,h,a,q=>by
  unfold AA at h;obtain⟨v,r,P1,P2,e,h1,h2,h3,h4⟩:=h;rcases(h4 a).mp q with z|z
  exact Rep.zAR h1 a z;exact AA.zAR h2 a z
end
theorem AA.iff{o:Nat}{d:List Dv}{v:List V}{P Q:Fp}(h:AA K g H o d v P)(e:∀a,Q a↔P a):AA K g H o d v Q:=by have:Q=P:=funext λa=>propext (e a);rw[this];exact h
theorem Rep.z{d:Dv}{v:V}{R:Fp}(h:Rep K g H 0 d v R):Rep K g H 0 d v nop:=by rw[<- Fh h.zAc];exact h
theorem AA.z{d:List Dv}{v:List V}{R:Fp}(h:AA K g H 0 d v R):AA K g H 0 d v nop:=by rw[<- Fh h.zAc];exact h
def G.add(g:G)(P:Fp):G:={g with Z:=λa=>g.Z a\/P a}
mutual
theorem Rep.freeze{P:Fp}:∀{o:Nat}{d:Dv}{v:V}{R:Fp},Rep K g H o d v R->(∀a,R a->P a)->Rep K (g.add P) H 0 d v nop
 |_,.non,v,R,h,_|_,.bl _,v,R,h,_|_,.int _,v,R,h,_|_,.str _,v,R,h,_|_,.ty _,v,R,h,_|_,.mtp _,v,R,h,_|_,.ref _,v,R,h,_|_,.scr _,v,R,h,_=>by unfold Rep at h ⊢;exact⟨h.1,λ_ z=>z⟩
 |o,.dnt ks ds,v,R,h,s=>by unfold Rep at h ⊢;obtain⟨a,vs,e,h1,h2,h3,⟨h5,f,h6⟩,h4⟩:=h;refine⟨a,vs,e,h1,λ_=>?_,λz=>(z rfl).elim,⟨h5,nop,AA.freeze h6 λb q=>(AA.zAc h6 b q).elim⟩,λb=>⟨λz=>z.elim,λz=>(z.1 rfl).elim⟩⟩;by_cases q:o=0;exact .inl (h2 q);exact .inr (s a ((h4 a).mpr ⟨q,rfl⟩))
 |o,.obj c fl nm ds,v,R,h,s=>by unfold Rep at h ⊢;obtain⟨a,dx,vs,f,e,h1,h2,h3,hl,h6,h7,h4⟩:=h;refine⟨a,dx,vs,nop,e,h1,λ_=>?_,λz=>(z rfl).elim,hl,AA.freeze h6 (λb q=>s b ((h4 b).mpr (.inr q))),λz=>z,λb=>⟨λz=>z.elim,λz=>z.elim (λq=>(q.1 rfl).elim) id⟩⟩;by_cases q:o=0;exact .inl (h2 q);exact .inr (s a ((h4 a).mpr (.inl ⟨q,rfl⟩)))
 |o,.dcl ks ds,v,R,h,s=>by unfold Rep at h ⊢;obtain⟨a,vs,f,e,h1,h2,h3,hl,h6,h7,h4⟩:=h;refine⟨a,vs,nop,e,h1,λ_=>?_,λz=>(z rfl).elim,hl,AA.freeze h6 (λb q=>s b ((h4 b).mpr (.inr q))),λz=>z,λb=>⟨λz=>z.elim,λz=>z.elim (λq=>(q.1 rfl).elim) id⟩⟩;by_cases q:o=0;exact .inl (h2 q);exact .inr (s a ((h4 a).mpr (.inl ⟨q,rfl⟩)))
 |o,.tup ds,v,R,h,s=>by unfold Rep at h ⊢;obtain⟨a,vs,e,h1,h2⟩:=h;exact⟨a,vs,e,h1,AA.freeze h2 s⟩
 |o,.lst ds,v,R,h,s=>by unfold Rep at h ⊢;obtain⟨a,vs,f,e,h1,h2,h3,h5⟩:=h;refine⟨a,vs,nop,e,⟨h1.1,λ_=>?_,λz=>(z rfl).elim⟩,AA.freeze h2 (λb q=>s b ((h5 b).mpr (.inr q))),λz=>z,λb=>⟨λz=>z.elim,λz=>z.elim (λq=>(q.1 rfl).elim) id⟩⟩;by_cases q:o=0;exact .inl (h1.2.1 q);exact .inr (s a ((h5 a).mpr (.inl ⟨q,rfl⟩)))
 |o,.dct ks ds,v,R,h,s=>by unfold Rep at h ⊢;obtain⟨a,vs,e,h1,h2,h3,⟨h5,f,h6⟩,h4⟩:=h;refine⟨a,vs,e,h1,λ_=>?_,λz=>(z rfl).elim,⟨h5,nop,AA.freeze h6 λb q=>(AA.zAc h6 b q).elim⟩,λb=>⟨λz=>z.elim,λz=>(z.1 rfl).elim⟩⟩;by_cases q:o=0;exact .inl (h2 q);exact .inr (s a ((h4 a).mpr ⟨q,rfl⟩))
theorem AA.freeze{P:Fp}:∀{o:Nat}{ds:List Dv}{vs:List V}{R:Fp},AA K g H o ds vs R->(∀a,R a->P a)->AA K (g.add P) H 0 ds vs nop
 |_,[],vs,R,h,_=>by unfold AA at h ⊢;exact⟨h.1,λ_ z=>z⟩
 |o,d::ds,vs,R,h,s=>by unfold AA at h ⊢;obtain⟨v,r,P1,P2,e,h1,h2,h3,h4⟩:=h;exact⟨v,r,nop,nop,e,Rep.freeze h1 (λa q=>s a ((h4 a).mpr (.inl q))),AA.freeze h2 (λa q=>s a ((h4 a).mpr (.inr q))),λ_ z=>z.elim,λa=>⟨λz=>z.elim,λz=>z.elim id id⟩⟩
end
theorem Step.freeze{P:Fp}(ok:zAS g H P):Step g P H (g.add P) nop H:=
 ⟨λ_ _ h _=>h,λ_ h=>h,λ_ h=>.inl h,λa h=>h.elim .inl λq=>.inr (.inl q),⟨[],by show g.μ=_;simp⟩,λ_ h=>h.elim,λz a h q=>h.elim (λh=>z a h q) λh=>by have:=(ok a h).1;rw[q]at this;exact this,λ_ _ _ fs h=>⟨fs,h,λ_ _ z=>z⟩⟩
theorem AA.nil{o:Nat}:AA K g H o [] [] nop:=by unfold AA;exact⟨rfl,λ_ z=>z⟩
theorem AA.cons{o:Nat}{d:Dv}{v:V}{ds:List Dv}{vs:List V}{P1 P2:Fp}(h1:Rep K g H o d v P1)(h2:AA K g H o ds vs P2)(n:Bg P1 P2):AA K g H o (d::ds) (v::vs) λa=>P1 a\/P2 a:=by unfold AA;exact⟨v,vs,P1,P2,rfl,h1,h2,n,λ_=>q9⟩
theorem AA.len:∀{o:Nat}{ds:List Dv}{vs:List V}{R:Fp},AA K g H o ds vs R->ds.length=vs.length
 |_,[],vs,R,h=>by unfold AA at h;rw[h.1];rfl
 |_,d::ds,vs,R,h=>by unfold AA at h;obtain⟨v,r,P1,P2,rfl,h1,h2,_⟩:=h;simp[h2.len]
theorem AA.get:∀{o:Nat}{ds:List Dv}{vs:List V}{R:Fp}{i:Nat}{d:Dv},AA K g H o ds vs R->ds[i]?=_s d->∃v P,vs[i]?=_s v/\Rep K g H o d v P/\∀a,P a->R a
 |_,[],_,_,_,_,_,e=>by simp at e
 |_,d::ds,vs,R,i,d',h,e=>by
  unfold AA at h;obtain⟨v,r,P1,P2,rfl,h1,h2,_,h4⟩:=h;cases i with|zero=>simp at e;subst e;exact⟨v,P1,rfl,h1,λa q=>(h4 a).mpr (.inl q)⟩|succ i=>obtain⟨b,P,c,h',s⟩:=h2.get (i:=i) (by simpa using e);exact⟨b,P,by simpa using c,h',λa q=>(h4 a).mpr (.inr (s a q))⟩
theorem AA.app:∀{o:Nat}{ds es:List Dv}{vs us:List V}{P Q:Fp},AA K g H o ds vs P->AA K g H o es us Q->Bg P Q->AA K g H o (ds++es) (vs++us) λa=>P a\/Q a
 |_,[],es,vs,us,P,Q,h,k,_=>by unfold AA at h;obtain⟨rfl,n⟩:=h;exact k.iff λa=>⟨λz=>z.elim (λq=>(n a q).elim) id,.inr⟩
 |_,d::ds,es,vs,us,P,Q,h,k,n=>by unfold AA at h;obtain⟨v,r,P1,P2,rfl,h1,h2,h3,h4⟩:=h;have t:=AA.app h2 k λa q z=>n a ((h4 a).mpr (.inr q)) z;refine(AA.cons h1 t λa q z=>z.elim (λz=>h3 a q z) λz=>n a ((h4 a).mpr (.inl q)) z).iff λa=>?_;rw[h4 a,or_assoc]
end
noncomputable abbrev M:=List Dv
noncomputable abbrev Gm:=List (Option Nat)
noncomputable def M.at(m:M)(i:Nat):Dv:=m.getD i .non
structure zGV (K:W.Frag) (g:G) (H:Hp) (Γ:Gm) (ρ:List Dv) (σ:St) (F:Nat->Fp):Prop where
 l1:ρ.length=Γ.length
 l2:σ.length=Γ.length
 rep:∀i o,Γ[i]?=_s (_s o)->∃d v,ρ[i]?=_s d/\σ[i]?=_s (_s v)/\Rep K g H o d v (F i)
 out:∀i,(∀o,Γ[i]?≠_s (_s o))->∀a,¬F i a
 dj:∀i j,i≠j->Bg (F i) (F j)
def Rel(K:W.Frag)(g:G)(H:Hp)(Γ:Gm)(m:M)(σ:St)(P:Fp):Prop:=Zd g H/\∃F,zGV K g H Γ m σ F/\∀a,P a↔∃i,F i a
theorem FV{a:Type}{l:List a}{i j:Nat}{x y:a}(h:(l.set i x)[j]?=_s y):(i=j/\y=x)\/(i≠j/\l[j]?=_s y):=by by_cases e:i=j;subst e;refine .inl ⟨rfl,?_⟩;rw[yR]at h;simp only[if_true]at h;split at h;exact(C5 h).symm;cases h;rw[E4 e]at h;exact .inr ⟨e,h⟩
theorem MF{m:M}{i:Nat}{d:Dv}(h:m[i]?=_s d):m.at i=d:=by unfold M.at;rw[D7,h];rfl
section
variable{K:W.Frag}{g g':G}{H H':Hp}{Γ:Gm}{m:M}{σ:St}{P:Fp}
theorem Rel.zd(h:Rel K g H Γ m σ P):Zd g H:=h.1
theorem Rel.len(h:Rel K g H Γ m σ P):m.length=Γ.length/\σ.length=Γ.length:=let ⟨_,_,h1,_⟩:=h;⟨h1.l1,h1.l2⟩
theorem Rel.zAR(h:Rel K g H Γ m σ P):zAS g H P:=by obtain⟨_,F,h1,h4⟩:=h;intro a q;obtain⟨i,z⟩:=(h4 a).mp q;by_cases e:∃o,Γ[i]?=_s (_s o);obtain⟨o,e⟩:=e;obtain⟨d,v,_,_,r⟩:=h1.rep i o e;exact r.zAR a z;exact(h1.out i (λo z=>e ⟨o,z⟩) a z).elim
theorem Rel.held{P' R:Fp}(s:Step g P H g' P' H')(ok:zAS g H P)(h:Rel K g H Γ m σ R)(n:Bg R P):Rel K g' H' Γ m σ R:=by obtain⟨zd,F,h1,h4⟩:=h;refine⟨s.zd zd,F,⟨h1.l1,h1.l2,λi o e=>?_,h1.out,h1.dj⟩,h4⟩;obtain⟨d,v,c,b,r⟩:=h1.rep i o e;exact⟨d,v,c,b,r.held s ok λa q z=>n a ((h4 a).mpr ⟨i,q⟩) z⟩
theorem Rel.same(h:Rel K g H Γ m σ P)(s:NY H H'):Rel K g H' Γ m σ P:=h.held (Step.same (P:=nop) s) zAS.nop λ_ _ z=>z
theorem Rel.see{i o:Nat}(h:Rel K g H Γ m σ P)(e:Γ[i]?=_s (_s o)):∃v P1,σ[i]?=_s (_s v)/\Rep K g H o (m.at i) v P1/\∀a,P1 a->P a:=by obtain⟨_,F,h1,h4⟩:=h;obtain⟨d,v,c,b,r⟩:=h1.rep i o e;exact⟨v,F i,b,by rw[MF c];exact r,λa q=>(h4 a).mpr ⟨i,q⟩⟩
theorem Rel.agree{a:M}(h:Rel K g H Γ m σ P)(hl:a.length=m.length)(ha:∀i o,Γ[i]?=_s (_s o)->a.at i=m.at i):Rel K g H Γ a σ P:=by
 obtain⟨zd,F,h1,h4⟩:=h;refine⟨zd,F,⟨hl.trans h1.l1,h1.l2,λi o e=>?_,h1.out,h1.dj⟩,h4⟩;obtain⟨d,v,b,c,r⟩:=h1.rep i o e;have hi:i < a.length:=by rw[hl];exact(A4.mp b).1
 refine⟨d,v,?_,c,r⟩;have:=ha i o e;unfold M.at at this;rw[D7,D7,b,A2 hi]at this;rw[A2 hi];exact congrArg _s this
theorem Rel.drop(i:Nat)(d:Dv)(x:Option V)(h:Rel K g H Γ m σ P):∃P2,Rel K g H (Γ.set i _n) (m.set i d) (σ.set i x) P2/\∀a,P2 a->P a:=by
 obtain⟨zd,F,h1,h4⟩:=h;refine⟨λa=>∃j,j≠i/\F j a,⟨zd,λj a=>j≠i/\F j a,⟨by rw[D8,D8,h1.l1],by rw[D8,D8,h1.l2],λj o e=>?_,λj e a q=>?_,λj k n a q z=>h1.dj j k n a q.2 z.2⟩,λ_=>q9⟩,λa ⟨j,_,q⟩=>(h4 a).mpr ⟨j,q⟩⟩;rcases FV e with⟨_,z⟩|⟨n,e⟩
 cases z;obtain⟨d',v,c,b,r⟩:=h1.rep j o e;have eq:(λa=>j≠i/\F j a)=F j:=funext λa=>propext ⟨λz=>z.2,λz=>⟨λq=>n q.symm,z⟩⟩;exact⟨d',v,by rw[E4 n];exact c,by rw[E4 n];exact b,by show Rep K g H o d' v (λa=>j≠i/\F j a);rw[eq];exact r⟩;refine h1.out j (λo z=>e o ?_) a q.2;rw[E4 λz=>q.1 z.symm];exact z
theorem Rel.fill{i o:Nat}{d:Dv}{v:V}{P1:Fp}(h:Rel K g H Γ m σ P)(e:Γ[i]?=_s _n)(hd:m[i]?=_s d)(hv:σ[i]?=_s (_s v))(r:Rep K g H o d v P1)(n:Bg P1 P):Rel K g H (Γ.set i (_s o)) m σ λa=>P1 a\/P a:=by
 obtain⟨zd,F,h1,h4⟩:=h;have t:∀a,¬F i a:=h1.out i λo z=>by rw[e]at z;cases z
 have hi:i < Γ.length:=(A4.mp e).1;refine⟨zd,λj a=>if j=i then P1 a else F j a,⟨by rw[D8];exact h1.l1,by rw[D8];exact h1.l2,λj o' c=>?_,λj c a q=>?_,λj k nn a q z=>?_⟩,λa=>?_⟩;rcases FV c with⟨rfl,z⟩|⟨nn,c⟩
 cases z;have eq:(λa=>if i=i then P1 a else F i a)=P1:=funext λa=>by rw[if_pos rfl]
 exact⟨d,v,hd,hv,by show Rep K g H o d v λa=>if i=i then P1 a else F i a;rw[eq];exact r⟩;obtain⟨d',l,x,u,s⟩:=h1.rep j o' c;have eq:(λa=>if j=i then P1 a else F j a)=F j:=funext λa=>by rw[if_neg λz=>nn z.symm]
 exact⟨d',l,x,u,by show Rep K g H o' d' l λa=>if j=i then P1 a else F j a;rw[eq];exact s⟩;by_cases z:j=i;subst z;exact c o (F8 hi);simp only[if_neg z]at q;exact h1.out j (λo' p=>c o' (by rw[E4 λw=>z w.symm];exact p)) a q;by_cases b:j=i;by_cases f:k=i;exact nn (b.trans f.symm);simp only[if_pos b,if_neg f]at q z;exact n a q ((h4 a).mpr ⟨k,z⟩);by_cases f:k=i;simp only[if_neg b,if_pos f]at q z;exact n a z ((h4 a).mpr ⟨j,q⟩);simp only[if_neg b,if_neg f]at q z;exact h1.dj j k nn a q z;show P1 a\/P a↔_;rw[h4 a];refine⟨λz=>?_,fun⟨j,z⟩=>?_⟩;rcases z with z|⟨j,z⟩
 exact⟨i,by simp only[if_true];exact z⟩;have:j≠i:=λw=>t a (w▸z);exact⟨j,by simp only[if_neg this];exact z⟩;by_cases b:j=i;simp only[if_pos b]at z;exact .inl z;simp only[if_neg b]at z;exact .inr ⟨j,z⟩
theorem Cy{a:Type}{l:List a}{i:Nat}{x:a}(h:l[i]?=_s x):l.set i x=l:=by apply yP;intro j;by_cases e:i=j;subst e;rw[F8 (A4.mp h).1,h];rw[E4 e]
inductive Tk (K:W.Frag) (g:G) (H:Hp) (Γ:Gm) (m:M) (σ:St) (P:Fp) (i o:Nat):Prop
 |mk (v:V) (P1 P2:Fp) (a:σ[i]?=_s (_s v)) (b:m[i]?=_s (m.at i)) (c:Rep K g H o (m.at i) v P1) (d:Rel K g H (Γ.set i _n) m σ P2) (e:Bg P1 P2) (f:∀a,P a↔P1 a\/P2 a)
theorem Rel.take{i o:Nat}(h:Rel K g H Γ m σ P)(e:Γ[i]?=_s (_s o)):Tk K g H Γ m σ P i o:=by
 obtain⟨zd,F,h1,h4⟩:=h;obtain⟨d,v,c,u,r⟩:=h1.rep i o e;refine⟨v,F i,λa=>∃j,j≠i/\F j a,u,by rw[MF c];exact c,by rw[MF c];exact r,⟨zd,λj a=>j≠i/\F j a,⟨by rw[D8];exact h1.l1,by rw[D8];exact h1.l2,λj o' b=>?_,λj b a q=>?_,λj k n a q z=>h1.dj j k n a q.2 z.2⟩,λ_=>q9⟩,λa q ⟨j,n,z⟩=>h1.dj i j (λw=>n w.symm) a q z,λa=>?_⟩;rcases FV b with⟨_,z⟩|⟨n,b⟩
 cases z;obtain⟨d',l,t,s,p⟩:=h1.rep j o' b;have eq:(λa=>j≠i/\F j a)=F j:=funext λa=>propext ⟨λz=>z.2,λz=>⟨λq=>n q.symm,z⟩⟩;exact⟨d',l,t,s,by show Rep K g H o' d' l (λa=>j≠i/\F j a);rw[eq];exact p⟩;exact h1.out j (λo' z=>b o' (by rw[E4 λw=>q.1 w.symm];exact z)) a q.2;rw[h4 a];refine⟨fun⟨j,z⟩=>?_,λz=>?_⟩;by_cases f:j=i;exact .inl (f▸z);exact .inr ⟨j,f,z⟩;rcases z with z|⟨j,_,z⟩
 exact⟨i,z⟩;exact⟨j,z⟩
theorem Eo{a:Type}(l:List a)(i:Nat)(x y:a):(l.set i x).set i y=l.set i y:=List.set_set ..
theorem Rel.zBI{Pv:Fp}{i o:Nat}{d:Dv}{v:V}(h:Rel K g H Γ m σ P)(hi:i < Γ.length)(hv:Rep K g H o d v Pv)(n:Bg Pv P) :
    ∃P2,Rel K g H (Γ.set i (_s o)) (m.set i d) (σ.set i (_s v)) P2/\∀a,P2 a->P a\/Pv a:=by
  obtain⟨P2,h2,s⟩:=h.drop i d (_s v);have l:=h.len;have:=h2.fill (i:=i) (F8 hi) (F8 `o) (F8 `o) hv λa q z=>n a q (s a z);rw[Eo]at this;exact⟨_,this,λa q=>q.elim .inr λq=>.inl (s a q)⟩
theorem Rel.putIn{P1:Fp}{i o:Nat}{d:Dv}{v:V}(h:Rel K g H (Γ.set i _n) m σ P)(hi:i < Γ.length)(hv:σ[i]?=_s (_s v))(r:Rep K g H o d v P1)(n:Bg P1 P):∃P2,Rel K g H (Γ.set i (_s o)) (m.set i d) σ P2/\∀a,P2 a->P1 a\/P a:=by obtain⟨P2,h2,s⟩:=h.drop i d (_s v);rw[Cy hv]at h2;have l:=h.len;rw[D8]at l;have h3:=h2.fill (i:=i) (by rw[Eo];exact F8 hi) (F8 `o) hv r λa q z=>n a q (s a z);rw[Eo,Eo]at h3;exact⟨_,h3,λa q=>q.elim .inl λq=>.inr (s a q)⟩
theorem Rel.freeze{i o:Nat}(h:Rel K g H Γ m σ P)(e:Γ[i]?=_s (_s o)):∃g' P' v,Step g P H g' P' H/\Rel K g' H (Γ.set i (_s 0)) m σ P'/\σ[i]?=_s (_s v)/\Rep K g' H 0 (m.at i) v nop:=by obtain⟨v,P1,P2,ev,j,r,d,n,f⟩:=h.take e;have st:Step g P1 H (g.add P1) nop H:=Step.freeze r.zAR;have fr:Rep K (g.add P1) H 0 (m.at i) v nop:=r.freeze λ_ q=>q;have c:=d.held st r.zAR λa q z=>n a z q;have hi:i < Γ.length:=(A4.mp e).1;have b:=c.fill (i:=i) (F8 hi) j ev fr λ_ z=>z.elim;rw[Eo]at b;refine⟨_,_,v,?_,b,ev,fr⟩;exact(st.frame (R:=P2)).sub (λa q=>(f a).mpr q) λa q=>q.elim (λz=>z.elim) .inr
def Cd:Gm->Gm->Bool
 |[],[]=>_t
 |none::a,_::b=>Cd a b
 |some o::a,_s o'::b=>(o==0||o==o')&&Cd a b
 |_,_=>_f
theorem Fl:∀{a b:Gm},Cd a b=_t->a.length=b.length
 |[],[],_=>rfl
 |none::a,_::b,h=>by unfold Cd at h;simp[Fl h]
 |some o::a,_s o'::b,h=>by unfold Cd at h;simp[Fl (Q0.mp h).2]
 |[],_::_,h=>by cases h
 |some _::_,_n::_,h=>by cases h
 |some _::_,[],h=>by cases h
 |none::_,[],h=>by cases h
theorem Gk:∀{a b:Gm}{i o:Nat},Cd a b=_t->a[i]?=_s (_s o)->∃o',b[i]?=_s (_s o')/\(o=0\/o=o')
 |[],_,i,o,_,e=>by simp at e
 |none::a,x::b,i,o,h,e=>by
  unfold Cd at h;cases i with|zero=>simp at e|succ i=>obtain⟨o',c,z⟩:=Gk (i:=i) h (by simpa using e);exact⟨o',by simpa using c,z⟩
 |some p::a,_s d::b,i,o,h,e=>by
  unfold Cd at h;rw[A3]at h;cases i with|zero=>simp at e;subst e;refine⟨d,rfl,?_⟩;have:=h.1;rw[o4,beq_iff_eq,beq_iff_eq]at this;exact this|succ i=>obtain⟨o',c,z⟩:=Gk (i:=i) h.2 (by simpa using e);exact⟨o',by simpa using c,z⟩
 |some _::_,_n::_,_,_,h,_=>by cases h
 |some _::_,[],_,_,h,_=>by cases h
 |none::_,[],_,_,h,_=>by cases h
theorem Rel.weaken{Γ':Gm}(h:Rel K g H Γ m σ P)(e:Cd Γ' Γ=_t):∃g' P',Step g P H g' P' H/\Rel K g' H Γ' m σ P':=by
 have ok:=h.zAR;obtain⟨zd,F,h1,h4⟩:=h
 let D:Fp:=λa=>∃i,Γ'[i]?=_s (_s 0)/\F i a
 have c:zAS g H D:=λa ⟨i,_,q⟩=>ok a ((h4 a).mpr ⟨i,q⟩);have st:Step g D H (g.add D) nop H:=Step.freeze c
 let f:Nat->Fp:=λi a=>(∃o,Γ'[i]?=_s (_s (o+1)))/\F i a
 refine⟨g.add D,λa=>∃i,f i a,?_,st.zd zd,f,⟨by rw[Fl e];exact h1.l1,by rw[Fl e];exact h1.l2,λi o b=>?_,λi b a q=>?_,λi j n a q z=>h1.dj i j n a q.2 z.2⟩,λ_=>q9⟩;refine(st.frame (R:=λa=>∃i,f i a)).sub (λa q=>?_) λa q=>.inr q;rcases q with⟨i,_,q⟩|⟨i,q⟩
 exact(h4 a).mpr ⟨i,q⟩;exact(h4 a).mpr ⟨i,q.2⟩;obtain⟨o',l,z⟩:=Gk e b;obtain⟨d,v,s,p,r⟩:=h1.rep i o' l;refine⟨d,v,s,p,?_⟩;cases o with
 |zero=>
  have eq:f i=nop:=Fh λa ⟨⟨o,w⟩,_⟩=>by rw[b]at w;cases w
  rw[eq];exact r.freeze λa q=>⟨i,b,q⟩
 |succ o=>
  have eq:f i=F i:=funext λa=>propext ⟨λw=>w.2,λw=>⟨⟨o,b⟩,w⟩⟩;rcases z with z|z
  cases z;subst z;rw[eq];refine r.held st c λa q ⟨j,k,z⟩=>?_;by_cases w:i=j;subst w;rw[b]at k;cases k;exact h1.dj i j w a q z
 obtain⟨⟨o,w⟩,_⟩:=q;exact b _ w
end
theorem PE.imp{X:Cx}{e:Expr}{t t':TE}(h:PE X e t)(k:∀σ H Q,t' σ H Q->t σ H Q):PE X e t':=λpins s σ H Q I q=>h pins s σ H Q I (k σ H Q q)
theorem PT.imp{X:Cx}{e:Expr}{t t':TT}(h:PT X e t)(k:∀σ H Q,t' σ H Q->t σ H Q):PT X e t':=λpins s σ H Q I q=>h pins s σ H Q I (k σ H Q q)
theorem PW.imp{X:Cx}{e:Expr}{t t':TT}(h:PW X e t)(k:∀σ H Q,t' σ H Q->t σ H Q):PW X e t':=λa pins s σ H Q I q=>h a pins s σ H Q I (k σ H Q q)
theorem PS.imp{X:Cx}{e:N4}{t t':TS}(h:PS X e t)(k:∀D σ H,t' D σ H->t D σ H):PS X e t':=λpins s σ H D I q=>h pins s σ H D I (k D σ H q)
theorem FR.imp{X:Cx}{e:List N4}{t t':TS}(h:FR X e t)(k:∀D σ H,t' D σ H->t D σ H):FR X e t':=λpins s σ H D I q=>h pins s σ H D I (k D σ H q)
noncomputable abbrev Ev(a:Type):=(R:Type)->M->(a->M->Option R)->Option R
def Bm(js:List Nat)(m m':M):Prop:=m'.length=m.length/\∀i,i∉js->m'.at i=m.at i
theorem Bm.refl{js:List Nat}{m:M}:Bm js m m:=⟨rfl,λ_ _=>rfl⟩
theorem Bm.trans{js ks:List Nat}{m d c:M}(a:Bm js m d)(b:Bm ks d c):Bm (js++ks) m c:=⟨b.1.trans a.1,λi h=>(b.2 i λz=>h (B9 _ z)).trans (a.2 i λz=>h (C7 _ z))⟩
theorem Bm.set{m:M}{i:Nat}{d:Dv}:Bm [i] m (m.set i d):=⟨D8 ..,λj h=>by have n:i≠j:=λz=>h (by rw[z];exact Y6 _);unfold M.at;rw[D7,D7,E4 n]⟩
theorem Bm.mono{js ks:List Nat}{m b:M}(a:Bm js m b)(h:∀i∈js,i∈ks):Bm ks m b:=⟨a.1,λi n=>a.2 i λz=>n (h i z)⟩
inductive tE (K:W.Frag) (Γ:Gm) (o:Nat) (Γ':Gm) (js:List Nat) (f:Ev Dv) (σ:St) (H:Hp) (Q:VK):Prop
 | mk (g:G) (m:M) (P:Fp) (a:Rel K g H Γ m σ P) (R:Type) (k:Dv->M->Option R) (r:R) (b:f R m k=_s r)
  (c:∀d m' g' P' Pv v H',k d m'=_s r->Bm js m m'->Step g P H g' (λa=>P' a\/Pv a) H'->Rep K g' H' o d v Pv->Rel K g' H' Γ' m' σ P'->Bg P' Pv->Q v H')
inductive tT (K:W.Frag) (Γ Γ':Gm) (js:List Nat) (f:Ev Bool) (σ:St) (H:Hp) (Q:Bool->Hp->Prop):Prop
 | mk (g:G) (m:M) (P:Fp) (a:Rel K g H Γ m σ P) (R:Type) (k:Bool->M->Option R) (r:R) (b:f R m k=_s r)
  (c:∀b m' g' P' H',k b m'=_s r->Bm js m m'->Step g P H g' P' H'->Rel K g' H' Γ' m' σ P'->Q b H')
noncomputable def VB(f:Str):List Str->List Dv->Option Dv
 |n::ns,d::ds=>if f==n then _s d else VB f ns ds
 |_,_=>_n
noncomputable def Ov(f:Str)(x:Dv):List Str->List Dv->List Dv
 |n::ns,d::ds=>if f==n then x::ds else d::Ov f x ns ds
 |_,ds=>ds
def GU(d:Dv)(f:Str):Option Dv:=match d with
 |.obj _ _ nm xs=>VB f nm xs
 |_=>_n
def Bf(d:Dv)(f:Str)(x:Dv):Dv:=match d with
 |.obj c fl nm xs=>.obj c fl nm (Ov f x nm xs)
 |d=>d
noncomputable def cy:Dv->Bool
 |.lst _=>_t
 |.dct _ _=>_t
 |.dnt _ _=>_t
 |.tup _=>_t
 |.obj _ _ _ _=>_t
 |_=>_f
def CB(d:Dv)(f:Str):Bool:=match GU d f with
 |some x=>cy x
 |none=>_f
section
variable{K:W.Frag}{g:G}{H:Hp}
theorem Jw{o:Nat}{d:Dv}{v:V}{P:Fp}(h:Rep K g H o d v P)(e:cy d=_t):∃r,v=.ref r:=by
 cases d with|lst _=>unfold Rep at h;obtain⟨a,_,_,e,_⟩:=h;exact⟨a,e⟩|tup _=>unfold Rep at h;obtain⟨a,_,e,_⟩:=h;exact⟨a,e⟩|dct _ _=>unfold Rep at h;obtain⟨a,_,e,_⟩:=h;exact⟨a,e⟩|dnt _ _=>unfold Rep at h;obtain⟨a,_,e,_⟩:=h;exact⟨a,e⟩|obj _ _ _ _=>unfold Rep at h;obtain⟨a,_,_,_,e,_⟩:=h;exact⟨a,e⟩|_=>cases e
theorem Ow{f:Str}{o:Nat}:∀{nm:List Str}{ds:List Dv}{vs:List V}{P:Fp}{d:Dv},AA K g H o ds vs P->VB f nm ds=_s d ->
    ∃v P1 P2,(nm.zip vs).lookup f=_s v/\Rep K g H o d v P1/\Bg P1 P2/\(∀a,P a↔P1 a\/P2 a)/\∀{g':G}{H':Hp}{y:Dv}{P1':Fp},Step g P1 H g' P1' H'->Rep K g' H' o y v P1'->AA K g' H' o (Ov f y nm ds) vs λa=>P1' a\/P2 a
  |[],ds,vs,P,d,h,e=>by cases ds<;>cases e
  |n::nm,[],vs,P,d,h,e=>by cases e
  |n::nm,x::ds,vs,P,d,h,e=>by
    unfold AA at h;obtain⟨v,r,P1,P2,rfl,h1,h2,h3,h4⟩:=h;unfold VB at e;rw[J6,G6];cases c:f==n with
    |true=>rw[c]at e;simp only[if_true]at e;cases e;refine⟨v,P1,P2,rfl,h1,h3,h4,fun{g' H' y P1'} st i=>?_⟩;unfold Ov;rw[c];simp only[if_true];have m:=st.out h2.zAR λa q z=>h3 a z q;exact AA.cons i (h2.held st h1.zAR λa q z=>h3 a z q) λa q z=>m a z q
    |false=>rw[c]at e;simp only[B4,if_false]at e;obtain⟨w,l,A,u,j,t,b,s⟩:=Ow h2 e;refine⟨w,l,λa=>P1 a\/A a,u,j,λa q z=>z.elim (λz=>h3 a z ((b a).mpr (.inl q))) λz=>t a q z,λa=>?_,fun{g' H' y P1'} st i=>?_⟩;rw[h4 a,b a];exact⟨λz=>z.elim (λz=>.inr (.inl z)) λz=>z.elim .inl λz=>.inr (.inr z),λz=>z.elim (λz=>.inr (.inl z)) λz=>z.elim .inl λz=>.inr (.inr z)⟩;unfold Ov;rw[c];simp only[B4,if_false];have k:Bg P1 l:=λa q z=>h3 a q ((b a).mpr (.inl z));have p:=st.out h1.zAR k;refine(AA.cons (h1.held st j.zAR k) (s st i) λa q z=>z.elim (λz=>p a q z) λz=>h3 a q ((b a).mpr (.inr z))).iff λa=>?_;exact⟨λz=>z.elim (λz=>.inr (.inl z)) λz=>z.elim .inl λz=>.inr (.inr z),λz=>z.elim (λz=>.inr (.inl z)) λz=>z.elim .inl λz=>.inr (.inr z)⟩
inductive OFd (K:W.Frag) (g:G) (H:Hp) (f:Str) (o:Nat) (x d:Dv) (v:V) (P:Fp):Prop
 | mk (a C dx:B8) (fs:List (Str×V)) (w:V) (P1 P2:Fp) (e:v=.ref a) (h1:H a=_s (.ins C dx fs)) (h2:Cls K C) (h3:FT K C f) (h4:fs.lookup f=_s w) (h5:Rep K g H o d w P1) (h6:Bg P1 P2) (h7:∀b,P b↔P1 b\/P2 b)
  (h8:∀{g':G}{H':Hp}{y:Dv}{P1':Fp},Step g P1 H g' P1' H'->Rep K g' H' o y w P1'->Rep K g' H' o (Bf x f y) v λa=>P1' a\/P2 a)
theorem DW{f:Str}{o:Nat}{x d:Dv}{v:V}{P:Fp}(h:Rep K g H o x v P)(hf:GU x f=_s d):OFd K g H f o x d v P:=by
 cases x with
 |obj c fl nm xs=>
  have ok:=h.zAR;unfold Rep at h;obtain⟨a,dx,vs,B,rfl,h1,h2,h3,⟨m,hl,p⟩,h6,h7,h4⟩:=h;obtain⟨w,P1,P2,A,u,t,i,s⟩:=Ow h6 hf;have mem:f∈nm:=by
   have go:∀{nm:List Str}{xs:List Dv},VB f nm xs=_s d->f∈nm:=by
    intro nm;induction nm with
    |nil=>intro xs e;cases xs<;>cases e
    |cons n nm l=>
     intro xs e;cases xs with|nil=>cases e|cons x xs=>unfold VB at e;split at e;rename_i z;rw[beq_iff_eq.mp z];exact B1;exact A9 _ (l e)
   exact go hf
  have len:∀{nm:List Str}{xs:List Dv}{y:Dv},nm.length=xs.length->nm.length=(Ov f y nm xs).length:=by
   intro nm;induction nm with
   |nil=>intro xs y e;cases xs<;>first|rfl|cases e
   |cons n nm l=>
    intro xs y e;cases xs with|nil=>cases e|cons x xs=>unfold Ov;split;exact e;simp[l (y:=y) (by simpa using e)]
  refine⟨a,_,dx,_,w,P1,λb=>(o≠0/\b=a)\/P2 b,rfl,h1,m.1,m.2 f (p f mem),A,u,λb q z=>z.elim (λz=>h7 ((i a).mpr (.inl (z.2▸q)))) λz=>t b q z,λb=>?_,fun{g' H' y P1'} st r=>?_⟩;rw[h4 b,i b];exact⟨λz=>z.elim (λz=>.inr (.inl z)) λz=>z.elim .inl λz=>.inr (.inr z),λz=>z.elim (λz=>.inr (.inl z)) λz=>z.elim .inl λz=>.inr (.inr z)⟩;have k:¬P1 a:=λz=>h7 ((i a).mpr (.inl z));have j:¬P1' a:=λz=>(st.nw a z).elim k λz=>by rw[h1]at z;cases z
  show Rep K g' H' o (.obj c fl nm (Ov f y nm xs)) _ _;unfold Rep;refine⟨a,dx,vs,_,rfl,st.keep _ _ h1 k,λq=>st.zm _ (h2 q),λq z=>?_,⟨m,len hl,p⟩,s st r,λz=>z.elim j λz=>h7 ((i a).mpr (.inr z)),λb=>?_⟩;rcases st.zn _ z with z|z|z
  exact h3 q z;exact k z;rw[h1]at z;cases z;exact⟨λz=>z.elim (λz=>.inr (.inl z)) λz=>z.elim .inl λz=>.inr (.inr z),λz=>z.elim (λz=>.inr (.inl z)) λz=>z.elim .inl λz=>.inr (.inr z)⟩
 |_=>cases hf
end
inductive Ar:Type 1 where
 |rf (i:Nat)
 |ev (Γ Γ':Gm) (js:List Nat) (f:Ev Dv)
 |fd (i:Nat) (f:Str)
def QT(K:W.Frag):Ar->TE
 |.rf i=>EI i
 |.ev Γ Γ' js f=>tE K Γ 0 Γ' js f
 |.fd i f=>QS K (EI i) f
def Bd(K:W.Frag):List Ar->TA
 |[]=>MN
 |a::as=>Np (QT K a) (Bd K as)
def AQ:List Ar->Ev (List Dv)
 |[],_,m,k=>k [] m
 |.rf i::as,R,m,k=>AQ as R m λds a=>k (a.at i::ds) a
 |.ev _ _ _ f::as,R,m,k=>f R m λd a=>AQ as R a λds b=>k (d::ds) b
 |.fd i f::as,R,m,k=>bif CB (m.at i) f then AQ as R m λds a=>(GU (a.at i) f).bind λd=>k (d::ds) a else _n
def AF:Gm->List Ar->Gm->List Nat->Prop
 |Γ,[],Γ',js=>Γ'=Γ/\js=[]
 |Γ,.rf i::as,Γ',js=>(∃o,Γ[i]?=_s (_s o))/\(∃o,o<=1/\Γ'[i]?=_s (_s o))/\AF Γ as Γ' js
 |Γ,.ev b a c _::as,Γ',js=>b=Γ/\∃js2,js=c++js2/\AF a as Γ' js2
 |Γ,.fd i _::as,Γ',js=>(∃o,Γ[i]?=_s (_s o))/\(∃o,o<=1/\Γ'[i]?=_s (_s o))/\AF Γ as Γ' js
def BE(K:W.Frag)(g:G)(H:Hp)(Γ:Gm)(m:M)(σ:St):List Ar->List Dv->List V->Prop
 |[],ds,vs=>ds=[]/\vs=[]
 |.rf i::as,ds,vs=>∃v c b,ds=m.at i::c/\vs=v::b/\σ[i]?=_s (_s v)/\(∃o,o<=1/\Γ[i]?=_s (_s o))/\BE K g H Γ m σ as c b
 |.ev _ _ _ _::as,ds,vs=>∃d v c b,ds=d::c/\vs=v::b/\Rep K g H 0 d v nop/\BE K g H Γ m σ as c b
 |.fd i f::as,ds,vs=>∃d v c b,ds=d::c/\vs=v::b/\(GU (m.at i) f=_s d/\∃a C dx fs,σ[i]?=_s (_s (.ref a))/\H a=_s (.ins C dx fs)/\fs.lookup f=_s v)/\(∃o,o<=1/\Γ[i]?=_s (_s o))/\BE K g H Γ m σ as c b
theorem AM{K:W.Frag}{σ:St}:∀(as:List Ar){g:G}{Γ Γ':Gm}{js:List Nat}{m:M}{P:Fp}{H:Hp}{R:Type}{k:List Dv->M->Option R}{r:R}{Q:List V->Hp->Prop},Rel K g H Γ m σ P->AF Γ as Γ' js->AQ as R m k=_s r ->
    (∀ds m' g' P' vs H',k ds m'=_s r->Bm js m m'->Step g P H g' P' H'->BE K g' H' Γ' m' σ as ds vs->Rel K g' H' Γ' m' σ P'->Q vs H')->Bd K as σ H Q
  |[],g,Γ,Γ',js,m,P,H,R,k,r,Q,rl,c,e,q=>by unfold AF at c;obtain⟨rfl,rfl⟩:=c;exact q [] m g P [] H e Bm.refl Step.refl (by unfold BE;exact⟨rfl,rfl⟩) rl
  |.rf i::as,g,Γ,Γ',js,m,P,H,R,k,r,Q,rl,c,e,q=>by unfold AF at c;obtain⟨⟨o,t⟩,h2,c⟩:=c;obtain⟨v,_,hv,_⟩:=rl.see t;refine⟨v,hv,AM as rl c e λds m' g' P' vs H' j l s ar b=>q _ m' g' P' _ H' j l s ?_ b⟩;unfold BE;exact⟨v,ds,vs,rfl,rfl,hv,h2,ar⟩
  |.ev D B J f::as,g,Γ,Γ',js,m,P,H,R,k,r,Q,rl,c,e,q=>by unfold AF at c;obtain⟨rfl,js2,rfl,c⟩:=c;refine⟨g,m,P,rl,R,_,r,e,λd h Y P1 Pv v H1 j l s rv b n=>?_⟩;refine AM as b c j λds I O P2 vs U x A s2 ar F=>q _ I O P2 _ U x (l.trans A) ((s.less λ_ q=>.inl q).trans s2) ?_ F;unfold BE;exact⟨d,v,ds,vs,rfl,rfl,rv.z.held s2 b.zAR λ_ z=>z.elim,ar⟩
  |.fd i f::as,g,Γ,Γ',js,m,P,H,R,k,r,Q,rl,c,e,q=>by
    unfold AF at c;obtain⟨⟨o,t⟩,h2,c⟩:=c;have e:(bif CB (m.at i) f then AQ as R m λds h=>(GU (h.at i) f).bind λd=>k (d::ds) h else _n)=_s r:=e;cases hr:CB (m.at i) f with
    |false=>rw[hr]at e;cases e
    |true=>
      rw[hr]at e;have e:(AQ as R m λds h=>(GU (h.at i) f).bind λd=>k (d::ds) h)=_s r:=e;unfold CB at hr;cases hd:GU (m.at i) f with|none=>rw[hd]at hr;cases hr|some Z=>rw[hd]at hr;obtain⟨X,P1,hv,rv,_⟩:=rl.see t;obtain⟨a,C,dx,fs,w,_,_,rfl,h1,N,L,hl,p,_⟩:=DW rv hd;obtain⟨E,rfl⟩:=Jw p hr;refine⟨_,hv,a,C,dx,fs,_,rfl,h1,N,L,hl,AM as rl c e λds m' g' P' vs H' j l s ar b=>?_⟩;obtain⟨d,T,S⟩:=Q6.mp j;obtain⟨fs',y,u⟩:=s.ins a C dx fs h1;refine q _ m' g' P' _ H' S l s ?_ b;unfold BE;exact⟨d,_,ds,vs,rfl,rfl,⟨T,a,C,dx,fs',hv,y,u f E hl⟩,h2,ar⟩
def RA(K:W.Frag)(g:G)(H:Hp):List Dv->List V->Prop
 |[],vs=>vs=[]
 |d::ds,vs=>∃v r o P,vs=v::r/\o<=1/\Rep K g H o d v P/\RA K g H ds r
def Ad(K:W.Frag)(g:G)(H:Hp)(o:Nat)(d:Dv)(v:V)(H':Hp):Prop:=NY H H'/\∃Pv,Rep K g H' o d v Pv/\∀a,Pv a->H a=_n
noncomputable abbrev Pr:=List Dv->Option Dv
abbrev QG:=List V->Hp->VK->Prop
def AL(K:W.Frag)(p:Pr)(o:Nat)(R:QG):Prop:=∀g H ds vs d Q,Zd g H->RA K g H ds vs->p ds=_s d->(∀v H',Ad K g H o d v H'->Q v H')->R vs H Q
def Ed(p:Pr)(a:Ev (List Dv)):Ev Dv:=λR m k=>a R m λds m'=>(p ds).bind λd=>k d m'
theorem zAj.{u,v}{α:Type u}{β:Type v}{x:Option α}{f:α->Option β}{b:β}(h:x.bind f=_s b):∃a,x=_s a/\f a=_s b:=Q6.mp h
theorem zAQ.{u,v}{α:Type u}{β:Type v}{x:Option α}{f:α->Option β}{b:β}{P:Prop}(h:x.bind f=_s b)(k:∀a,x=_s a->f a=_s b->P):P:=
 Exists.elim (zAj h) λa q=>k a q.1 q.2
section
variable{K:W.Frag}{g:G}{H H':Hp}{σ:St}{Γ Γ':Gm}{m:M}{P:Fp}
theorem BE.ra(r:Rel K g H Γ m σ P):∀{as:List Ar}{ds:List Dv}{vs:List V},BE K g H Γ m σ as ds vs->RA K g H ds vs
 |[],ds,vs,h=>by unfold BE at h;obtain⟨rfl,rfl⟩:=h;unfold RA;rfl
 |.ev _ _ _ f::as,ds,vs,h=>by unfold BE at h;obtain⟨d,v,l,b,rfl,rfl,h1,h2⟩:=h;unfold RA;exact⟨v,b,0,nop,rfl,by decide,h1,BE.ra r h2⟩
 |.rf i::as,ds,vs,h=>by unfold BE at h;obtain⟨v,l,b,rfl,rfl,h1,⟨o,hl,p⟩,h3⟩:=h;obtain⟨s,P1,e,k,_⟩:=r.see p;rw[h1]at e;cases e;unfold RA;exact⟨v,b,o,P1,rfl,hl,k,BE.ra r h3⟩
 |.fd i f::as,ds,vs,h=>by unfold BE at h;obtain⟨d,v,l,b,rfl,rfl,⟨h1,a,C,dx,fs,hv,ha,q⟩,⟨o,hl,p⟩,h3⟩:=h;obtain⟨s,P1,e,k,_⟩:=r.see p;rw[hv]at e;cases e;obtain⟨y,A,u,fs',w,x,z,t,j,_,_,c,n,_⟩:=DW k h1;cases t;rw[ha]at j;cases j;rw[q]at c;cases c;unfold RA;exact⟨v,b,o,x,rfl,hl,n,BE.ra r h3⟩
theorem Ad.go{e:G}{f:Fp}{H0:Hp}{o:Nat}{d:Dv}{v:V}(s:Step e f H0 g P H)(r:Rel K g H Γ m σ P)(n:Ad K g H o d v H') :
    ∃Pv,Step e f H0 g (λa=>P a\/Pv a) H'/\Rep K g H' o d v Pv/\Rel K g H' Γ m σ P/\Bg P Pv:=by
  obtain⟨c,Pv,h1,h2⟩:=n;refine⟨Pv,s.trans ⟨λb o h _=>c b o h,(Step.same (g:=g) (P:=nop) c).dom,λ_ h=>h,λ_ h=>.inl h,⟨[],by simp⟩,λa h=>h.elim .inl λq=>.inr (h2 a q),(Step.same (g:=g) (P:=nop) c).zd,(Step.same (g:=g) (P:=nop) c).ins⟩,h1,r.same c,λa q z=>r.zAR.new (h2 a z) q⟩
theorem DN{p:Pr}{o:Nat}{as:List Ar}{js:List Nat}{R:QG}(j:AL K p o R)(c:AF Γ as Γ' js){Q:VK}(h:tE K Γ o Γ' js (Ed p (AQ as)) σ H Q):Bd K as σ H λvs b=>R vs b Q:=by obtain⟨g,m,P,r,x,k,res,e,q⟩:=h;refine AM as r c e λds m' g' P' vs b l u s ar a=>?_;refine zAQ l λd t n=>?_;refine j g' b ds vs d Q a.zd (ar.ra a) t λv w nw=>?_;obtain⟨Pv,s2,h1,f,i⟩:=Ad.go s a nw;exact q d m' g' P' Pv v w n u s2 h1 f i
end
def QH(r:R2):QG:=λvs H Q=>match vs with|[x,y]=>r x y H Q|_=>False
def mX(r:V->Hp->VK->Prop):QG:=λvs H Q=>match vs with|[x]=>r x H Q|_=>False
def Ox(d:Dv):Ev Dv:=λ_ m k=>k d m
def TQ(i:Nat):Ev Dv:=λ_ m k=>k (m.at i) m
section
variable{X:Cx}{e:Expr}{Γ Γ':Gm}{js:List Nat}{o:Nat}{f:Ev Dv}
theorem mj{v:V}{d:Dv}(h:PE X e (tC v))(hd:∀g H,Rep X.K g H o d v nop):PE X e (tE X.K Γ o Γ [] (Ox d)):=PE.imp h λσ H Q q=>by obtain⟨g,m,P,r,R,k,res,e,q⟩:=q;exact q d m g P nop v H e Bm.refl (Step.refl.less λ_ q=>q.elim id E7) (hd g H) r λ_ _ z=>z
theorem ny{i:Nat}(h:PE X e (EI i)){o:Nat}(hi:Γ[i]?=_s (_s o)):PE X e (tE X.K Γ 0 (Γ.set i (_s 0)) [] (TQ i)):=PE.imp h λσ H Q q=>by obtain⟨g,m,P,r,R,k,res,e,q⟩:=q;obtain⟨g',P',v,s,a,ev,rv⟩:=r.freeze hi;exact⟨v,ev,q _ m g' P' nop v H e Bm.refl (s.less λ_ q=>q.elim id E7) rv a λ_ _ z=>z⟩
theorem oA{i:Nat}(h:PE X e (EI i))(hi:Γ[i]?=_s (_s o)):PE X e (tE X.K Γ o (Γ.set i _n) [] (TQ i)):=PE.imp h λσ H Q q=>by obtain⟨g,m,P,r,R,k,res,e,q⟩:=q;obtain⟨v,P1,P2,ev,_,rv,b,n,c⟩:=r.take hi;exact⟨v,ev,q _ m g P2 P1 v H e Bm.refl (Step.refl.less λa q=>(c a).mpr q.symm) rv b λa q z=>n a z q⟩
theorem Ew(h:PE X e (tE X.K Γ o Γ' js f)):PE X e (tE X.K Γ 0 Γ' js f):=PE.imp h λσ H Q q=>by obtain⟨g,m,P,r,R,k,res,e,q⟩:=q;refine⟨g,m,P,r,R,k,res,e,λd m' g' P' Pv v H' c i s rv b n=>?_⟩;have st:Step g' Pv H' (g'.add Pv) nop H':=Step.freeze rv.zAR;refine q d m' (g'.add Pv) P' nop v H' c i (s.trans ?_) (rv.freeze λ_ q=>q) (b.held st rv.zAR n) λ_ _ z=>z;exact(st.frame (R:=P')).sub (λa q=>q.symm) λa q=>q.elim .inr E7
end
def TR(t:List Dv->Dv)(a:Ev (List Dv)):Ev Dv:=λR m k=>a R m λds m'=>if ds.length<=1000000 then k (t ds) m' else _n
noncomputable def Nb:List Ar->Bool
 |[]=>_t
 |.ev _ _ _ _::as=>Nb as
 |.rf _::_=>_f
 |.fd _ _::_=>_f
theorem BE.zBi{K:W.Frag}{g:G}{H:Hp}{Γ:Gm}{m:M}{σ:St}:∀{as:List Ar}{ds:List Dv}{vs:List V},Nb as=_t->BE K g H Γ m σ as ds vs->AA K g H 0 ds vs nop
 |[],ds,vs,_,h=>by unfold BE at h;obtain⟨rfl,rfl⟩:=h;exact AA.nil
 |.ev _ _ _ f::as,ds,vs,e,h=>by unfold BE at h;obtain⟨d,v,c,b,rfl,rfl,h1,h2⟩:=h;exact(AA.cons h1 (BE.zBi (by unfold Nb at e;exact e) h2) λ_ z=>z.elim).iff λa=>⟨λz=>z.elim,λz=>z.elim id id⟩
 |.rf i::as,ds,vs,e,h=>by unfold Nb at e;cases e
 |.fd i _::as,ds,vs,e,h=>by unfold Nb at e;cases e
section
variable{X:Cx}{es:List Expr}{Γ Γ':Gm}{js:List Nat}{as:List Ar}{pos:Pos}
theorem nz{x1}(h:PA X es (Bd X.K as))(c:AF Γ as Γ' js)(he:Nb as=_t):PE X (.Tuple es x1 pos) (tE X.K Γ 1 Γ' js (TR .tup (AQ as))):=PE.imp (jV h) λσ H Q q=>by obtain⟨g,m,P,r,R,k,res,e,q⟩:=q;refine AM as r c e λds m' g' P' vs l b j s ar f=>?_;split at b;rename_i hz;have d:=ar.zBi he;refine⟨by rw[<- d.len];exact A8 hz `d,λp i=>?_⟩;have a:=CU i (.tup vs);have st:=Step.same (g:=g') (P:=nop) a;refine q _ m' g' P' nop (.ref p) _ b j ((s.trans (Step.same a)).less λ_ q=>q.elim id E7) ?_ (f.same a) λ_ _ z=>z;unfold Rep;exact⟨p,vs,rfl,AE,d.held st zAS.nop λ_ _ z=>z⟩;cases b
theorem Ad.lst{K:W.Frag}{g:G}{H:Hp}{ds:List Dv}{vs:List V}{p:B8}(zd:Zd g H)(e:AA K g H 0 ds vs nop)(c:H p=_n):Ad K g H 1 (.lst ds) (.ref p) (upd H p (.lst vs)):=by have d:=CU c (.lst vs);refine⟨d,λb=>b=p,?_,λa q=>q▸c⟩;unfold Rep;exact⟨p,vs,nop,rfl,⟨AE,(λz=>by cases z),λ_ z=>zd p z c⟩,e.held (Step.same (g:=g) (P:=nop) d) zAS.nop λ_ _ z=>z,λz=>z,λb=>⟨λz=>.inl ⟨by decide,z⟩,λz=>z.elim (λz=>z.2) E7⟩⟩
theorem oB(i:PA X es (Bd X.K as))(c:AF Γ as Γ' js)(he:Nb as=_t):PE X (.List es pos) (tE X.K Γ 1 Γ' js (TR .lst (AQ as))):=PE.imp (XX i) λσ H Q q=>by obtain⟨g,m,P,r,R,k,res,e,q⟩:=q;refine AM as r c e λds m' g' P' vs n a l s ar d=>?_;split at a;rename_i hz;have b:=ar.zBi he;refine⟨by rw[<- b.len];exact A8 hz `d,λp j=>?_⟩;obtain⟨Pv,s2,h1,f,h⟩:=Ad.go s d (Ad.lst d.zd b j);exact q _ m' g' P' Pv (.ref p) _ a l s2 h1 f h;cases a
end
def HK:List Nat->Type
 |[]=>Unit
 |[_]=>Dv
 |_::i::J=>Dv×HK (i::J)
noncomputable def Aw:(J:List Nat)->M->HK J
 |[],_=>()
 |[i],m=>m.at i
 |i::j::J,m=>(m.at i,Aw (j::J) m)
noncomputable def BH:(J:List Nat)->M->HK J->M
 |[],m,_=>m
 |[i],m,d=>m.set i d
 |i::j::J,m,t=>BH (j::J) (m.set i t.1) t.2
theorem Wf{m:M}{i:Nat}{d:Dv}(h:i < m.length):M.at (m.set i d) i=d:=MF (F8 h)
theorem Jg:∀(J:List Nat)(m:M)(t:HK J),(BH J m t).length=m.length
 |[],_,_=>rfl
 |[i],m,d=>D8 ..
 |i::j::J,m,t=>by unfold BH;rw[Jg];exact D8 ..
theorem AW:∀(J:List Nat)(m:M)(t:HK J),Bm J m (BH J m t)
 |[],_,_=>Bm.refl
 |[i],m,d=>Bm.set
 |i::j::J,m,t=>by unfold BH;exact(Bm.set (i:=i)).trans (AW (j::J) _ _)
theorem Sb:∀(J:List Nat)(m m':M)(i:Nat),i < m.length->i∈J->M.at (BH J m (Aw J m')) i=m'.at i
 |[],_,_,_,_,h=>by cases h
 |[i],m,m',k,a,h=>by have e:=C4.mp h;subst e;exact Wf a
 |i::j::J,m,m',k,a,h=>by
  show M.at (BH (j::J) (m.set i (m'.at i)) (Aw (j::J) m')) k=_;by_cases z:k∈j::J;exact Sb (j::J) _ m' k (by rw[D8];exact a) z;rw[(AW (j::J) _ _).2 k z];rcases D3.mp h with e|e
  subst e;exact Wf a;exact(z e).elim
def Bl(Γ:Gm)(js:List Nat):List Nat:=(B2 Γ.length).filter λi=>js.contains i&&(Γ.getD i _n).isSome
theorem Br{Γ:Gm}{js:List Nat}{i o:Nat}(h:Γ[i]?=_s (_s o)):i∈Bl Γ js\/i∉js:=by by_cases e:i∈js;refine .inl (T2.mpr ⟨P8.mpr (A4.mp h).1,?_⟩);rw[A3,D1,D7,h];exact⟨e,rfl⟩;exact .inr e
theorem BW{Γ:Gm}{js:List Nat}{i:Nat}(h:i∈Bl Γ js):i∈js:=by have:=(T2.mp h).2;rw[A3,D1]at this;exact this.1
theorem Rel.join{K:W.Frag}{g:G}{H:Hp}{Γ:Gm}{m m':M}{σ:St}{P:Fp}{J js:List Nat}(r:Rel K g H Γ m' σ P)(a:Bm js m m')(b:∀i o,Γ[i]?=_s (_s o)->i∈J\/i∉js):Rel K g H Γ (BH J m (Aw J m')) σ P:=by
 refine r.agree ((Jg ..).trans a.1.symm) λi o e=>?_;have hi:i < m.length:=by rw[<- a.1,r.len.1];exact(A4.mp e).1
 by_cases z:i∈J;exact Sb J m m' i hi z;rw[(AW J m _).2 i z];exact(a.2 i ((b i o e).elim (λq=>(z q).elim) id)).symm
def rV(p:List Dv->Option Bool)(a:Ev (List Dv)):Ev Bool:=λR m k=>a R m λds m'=>(p ds).bind λb=>k b m'
def dJ(f:Ev Bool):Ev Dv:=λR m k=>f R m λb m'=>k (.bl b) m'
def gT(f:Ev Bool):Ev Bool:=λR m k=>f R m λb m'=>k (!b) m'
def Ln{a:Type}(c:Ev Bool)(f g:Ev a):Ev a:=λR m k=>c R m λb d=>if b=_t then f R d k else g R d k
def Jn(a:Type):List Nat->Type
 |[]=>a
 |i::J=>a×HK (i::J)
def gD{b:Type}:(J:List Nat)->b->M->Jn b J
 |[],a,_=>a
 |i::J,a,m=>(a,Aw (i::J) m)
def tj{b R:Type}:(J:List Nat)->M->Jn b J->(b->M->Option R)->Option R
 |[],m,a,k=>k a m
 |i::J,m,t,k=>k t.1 (BH (i::J) m t.2)
theorem WA{b R:Type}(J:List Nat)(m m':M)(a:b)(k:b->M->Option R):tj J m (gD J a m') k=k a (BH J m (Aw J m')):=by cases J<;>rfl
def VD{b:Type}(J:List Nat)(f:Ev b):Ev b:=λR m k=>(f (Jn b J) m λa m'=>_s (gD J a m')).bind λt=>tj J m t k
section
variable{K:W.Frag}{Γ Γ' Γ2 Γ3:Gm}{js js2 js3 J:List Nat}{σ:St}{H:Hp}{o:Nat}
theorem Mm{f:Ev Dv}{Q:VK}(j:∀i o,Γ'[i]?=_s (_s o)->i∈J\/i∉js)(hs:∀i∈J,i∈js)(h:tE K Γ o Γ' js (VD J f) σ H Q):tE K Γ o Γ' js f σ H Q:=by obtain⟨g,m,P,r,R,k,res,e,q⟩:=h;refine zAQ e λt l a=>?_;refine⟨g,m,P,r,_,_,t,l,λd m' g' P' Pv v H' c p s rv b n=>?_⟩;cases c;rw[WA]at a;exact q d _ g' P' Pv v H' a ((AW J m _).mono hs) s rv (b.join p j) n
theorem Su{f:Ev Bool}{Q:Bool->Hp->Prop}(j:∀i o,Γ'[i]?=_s (_s o)->i∈J\/i∉js)(hs:∀i∈J,i∈js)(h:tT K Γ Γ' js (VD J f) σ H Q):tT K Γ Γ' js f σ H Q:=by obtain⟨g,m,P,r,R,k,res,e,q⟩:=h;refine zAQ e λt l a=>?_;refine⟨g,m,P,r,_,_,t,l,λd m' g' P' H' c n s b=>?_⟩;cases c;rw[WA]at a;exact q d _ g' P' H' a ((AW J m _).mono hs) s (b.join n j)
theorem Ry{f:Ev Bool}{Q:Bool->Hp->Prop}(d:Cd Γ2 Γ'=_t)(hs:∀i∈js,i∈js2)(h:tT K Γ Γ2 js2 f σ H Q):tT K Γ Γ' js f σ H Q:=by obtain⟨g,m,P,r,R,k,res,e,q⟩:=h;refine⟨g,m,P,r,R,k,res,e,λb m' g' P' H' j n s c=>?_⟩;obtain⟨l,P2,s2,a⟩:=c.weaken d;exact q b m' l P2 H' j (n.mono hs) (s.trans s2) a
theorem Ih{f:Ev Dv}{Q:VK}(d:Cd Γ2 Γ'=_t)(hs:∀i∈js,i∈js2)(h:tE K Γ 0 Γ2 js2 f σ H Q):tE K Γ 0 Γ' js f σ H Q:=by obtain⟨g,m,P,r,R,k,res,e,q⟩:=h;refine⟨g,m,P,r,R,k,res,e,λb m' g' P' Pv v H' j p s rv a n=>?_⟩;obtain⟨l,P2,s2,c⟩:=a.weaken d;exact q b m' l P2 nop v H' j (p.mono hs) (((s.less λ_ q=>.inl q).trans s2).less λ_ q=>q.elim id E7) (rv.z.held s2 a.zAR λ_ z=>z.elim) c λ_ _ z=>z
theorem qr{p:List Dv->Option Bool}{as:List Ar}{r:QG}(i:AL K (λds=>(p ds).map .bl) 0 r)(c:AF Γ as Γ' js){Q:Bool->Hp->Prop}(h:tT K Γ Γ' js (rV p (AQ as)) σ H Q):Bd K as σ H λvs d=>r vs d λx H'=>∃k,x=.bl k/\Q k H':=by obtain⟨g,m,P,rl,y,k,res,e,q⟩:=h;refine AM as rl c e λds m' g' P' vs d j t s ar a=>?_;refine zAQ j λb n l=>?_;refine i g' d ds vs (.bl b) _ a.zd (ar.ra a) (by show(p ds).map _=_;rw[n];rfl) λv u nw=>?_;obtain⟨Pv,s2,h1,f,w⟩:=Ad.go s a nw;refine⟨b,by unfold Rep at h1;exact h1.1,q b m' g' P' u l t (s2.less λ_ q=>.inl q) f⟩
theorem Eu{g:G}{o:Nat}{b:Bool}{v:V}{P:Fp}(h:Rep K g H o (.bl b) v P):v=.bl b:=by unfold Rep at h;exact h.1
theorem Dr{g:G}{b:Bool}:Rep K g H o (.bl b) (.bl b) nop:=by unfold Rep;exact⟨rfl,λ_ z=>z⟩
theorem iJ{t u:Ev Bool}{Q:Bool->Hp->Prop}(h:tT K Γ Γ' (js++js2) (Ln t u (λR m k=>k _f m)) σ H Q)(w:Cd Γ' Γ2=_t):nU (tT K Γ Γ2 js t) (tT K Γ2 Γ' js2 u) σ H Q:=by
 obtain⟨g,m,P,r,R,k,res,e,q⟩:=h;refine⟨g,m,P,r,R,_,res,e,λb n x P1 A a p s l=>?_⟩;cases b with|true=>rw[if_pos rfl]at a ⊢;exact⟨x,n,P1,l,R,k,res,a,λc v i P2 y f j s2 d=>q c v i P2 y f (p.trans j) (s.trans s2) d⟩|false=>rw[if_neg D2]at a ⊢;obtain⟨i,P2,s2,d⟩:=l.weaken w;exact q _f n i P2 A a (p.mono λ_ z=>C7 _ z) (s.trans s2) d
theorem nL{t u:Ev Bool}{Q:Bool->Hp->Prop}(h:tT K Γ Γ' (js++js2) (Ln t (λR m k=>k _t m) u) σ H Q)(w:Cd Γ' Γ2=_t):tw (tT K Γ Γ2 js t) (tT K Γ2 Γ' js2 u) σ H Q:=by
 obtain⟨g,m,P,r,R,k,res,e,q⟩:=h;refine⟨g,m,P,r,R,_,res,e,λb n x P1 A a p s l=>?_⟩;cases b with|false=>rw[if_neg D2]at a ⊢;exact⟨x,n,P1,l,R,k,res,a,λc v i P2 y f j s2 d=>q c v i P2 y f (p.trans j) (s.trans s2) d⟩|true=>rw[if_pos rfl]at a ⊢;obtain⟨i,P2,s2,d⟩:=l.weaken w;exact q _t n i P2 A a (p.mono λ_ z=>C7 _ z) (s.trans s2) d
theorem iI{t:Ev Bool}{Q:Bool->Hp->Prop}(h:tT K Γ Γ' js (gT t) σ H Q):nO (tT K Γ Γ' js t) σ H Q:=by obtain⟨g,m,P,r,R,k,res,e,q⟩:=h;exact⟨g,m,P,r,R,_,res,e,λb c f P1 j d i s a=>q (!b) c f P1 j d i s a⟩
theorem nR{c:Ev Bool}{B A:Ev Dv}{Q:VK}(h:tE K Γ 0 Γ' (js++(js2++js3)) (Ln c B A) σ H Q):uA (tT K Γ Γ2 js c) (tE K Γ2 0 Γ' js2 B) (tE K Γ2 0 Γ' js3 A) σ H Q:=by
 obtain⟨g,m,P,r,R,k,res,e,q⟩:=h;refine⟨g,m,P,r,R,_,res,e,λb x y P1 D j C s w=>?_⟩;cases b with|true=>rw[if_pos rfl]at j ⊢;exact⟨y,x,P1,w,R,k,res,j,λd p t P2 Pv v u a f s2 rv l n=>q d p t P2 Pv v u a ((C.trans f).mono λi z=>(C0.mp z).elim (λz=>C7 _ z) λz=>B9 _ (C7 _ z)) (s.trans s2) rv l n⟩|false=>rw[if_neg D2]at j ⊢;exact⟨y,x,P1,w,R,k,res,j,λd p t P2 Pv v u a f s2 rv l n=>q d p t P2 Pv v u a ((C.trans f).mono λi z=>(C0.mp z).elim (λz=>C7 _ z) λz=>B9 _ (B9 _ z)) (s.trans s2) rv l n⟩
end
structure Kt (R:Type) where
 nx:M->Option R
 rt:Dv->M->Option R
 bk:M->Option R
 ct:M->Option R
noncomputable abbrev Es:=(R:Type)->M->Kt R->Option R
def Io(io:List Nat)(σ σ':St):Prop:=∀i∈io,σ'[i]?=σ[i]?
theorem Io.refl{io:List Nat}{σ:St}:Io io σ σ:=λ_ _=>rfl
theorem Io.trans{io:List Nat}{σ d c:St}(a:Io io σ d)(b:Io io d c):Io io σ c:=λi h=>(b i h).trans (a i h)
theorem Io.set{io:List Nat}{σ:St}{i:Nat}{x:Option V}(h:i∉io):Io io σ (σ.set i x):=λj a=>E4 λz=>h (by rw[z];exact a)
structure Fr where
 io:List Nat
 Γr:Gm
 ro:Nat
structure AcS (K:W.Frag) (F:Fr) (Γl:Option Gm) (g:G) (P:Fp) (H:Hp) (σ:St) (D:Ends) (Γn:Option Gm) (js:List Nat) (m:M) {R:Type} (k:Kt R) (r:R):Prop where
 nx:∀Γ' m' g' P' σ' H',Γn=_s Γ'->k.nx m'=_s r->Bm js m m'->Step g P H g' P' H'->Io F.io σ σ'->Rel K g' H' Γ' m' σ' P'->D.nx σ' H'
 rt:∀d m' g' P' Pv σ' v H',k.rt d m'=_s r->Bm js m m'->Step g P H g' (λa=>P' a\/Pv a) H'->Io F.io σ σ'->Rep K g' H' F.ro d v Pv->Rel K g' H' F.Γr m' σ' P'->Bg P' Pv->D.rt v H'
 bk:∀Γ' m' g' P' σ' H',Γl=_s Γ'->k.bk m'=_s r->Bm js m m'->Step g P H g' P' H'->Io F.io σ σ'->Rel K g' H' Γ' m' σ' P'->D.bk σ' H'
 ct:∀Γ' m' g' P' σ' H',Γl=_s Γ'->k.ct m'=_s r->Bm js m m'->Step g P H g' P' H'->Io F.io σ σ'->Rel K g' H' Γ' m' σ' P'->D.ct σ' H'
inductive tS (K:W.Frag) (F:Fr) (Γl:Option Gm) (Γ:Gm) (Γn:Option Gm) (js:List Nat) (f:Es) (D:Ends) (σ:St) (H:Hp):Prop
 |mk (g:G) (m:M) (P:Fp) (a:Rel K g H Γ m σ P) (R:Type) (k:Kt R) (r:R) (b:f R m k=_s r) (c:AcS K F Γl g P H σ D Γn js m k r)
theorem AcS.later{K:W.Frag}{F:Fr}{Γl Γn:Option Gm}{g g1:G}{P P1:Fp}{H H1:Hp}{σ j:St}{D:Ends}{js ks:List Nat}{m o:M}{R:Type}{k:Kt R}{r:R}(s:Step g P H g1 P1 H1)(i:Io F.io σ j)(l:Bm js m o)(h:AcS K F Γl g P H σ D Γn (js++ks) m k r):AcS K F Γl g1 P1 H1 j D Γn ks o k r:=
  ⟨λΓ' m' g' P' σ' H' e f a s' c b=>h.nx Γ' m' g' P' σ' H' e f (l.trans a) (s.trans s') (i.trans c) b,
   λd m' g' P' Pv σ' v H' f a s' c rv b n=>h.rt d m' g' P' Pv σ' v H' f (l.trans a) (s.trans s') (i.trans c) rv b n,
   λΓ' m' g' P' σ' H' e f a s' c b=>h.bk Γ' m' g' P' σ' H' e f (l.trans a) (s.trans s') (i.trans c) b,
   λΓ' m' g' P' σ' H' e f a s' c b=>h.ct Γ' m' g' P' σ' H' e f (l.trans a) (s.trans s') (i.trans c) b⟩
def KI:Es:=λ_ m k=>k.nx m
def qS(f g:Es):Es:=λR m k=>f R m {k with nx:=λa=>g R a k}
def Oy(c:Ev Bool)(f g:Es):Es:=λR m k=>c R m λb a=>if b=_t then f R a k else g R a k
def gR(f:Ev Dv):Es:=λR m k=>f R m k.rt
def Yu(f:Ev Dv):Es:=λR m k=>f R m λ_ a=>k.nx a
section
variable{X:Cx}{F:Fr}{Γl Γn zDw:Option Gm}{Γ Γ' Γ2:Gm}{js js2 js3 J:List Nat}{s:N4}{ss rest a b:List N4}{e c:Expr}{pos:Pos}{f f2:Es}{fe:Ev Dv}{t:Ev Bool}{o:Nat}
theorem JR{K:W.Frag}{D:Ends}{σ:St}{H:Hp}(h:tS K F Γl Γ (_s Γ) [] KI D σ H):D.nx σ H:=by obtain⟨g,m,P,r,R,k,res,e,q⟩:=h;exact q.nx Γ m g P σ H rfl e Bm.refl Step.refl Io.refl r
theorem ni:FR X [] (tS X.K F Γl Γ (_s Γ) [] KI):=FR.imp bX λD σ H h=>JR h
theorem ic:PS X (.Pass pos) (tS X.K F Γl Γ (_s Γ) [] KI):=PS.imp bY λD σ H h=>JR h
theorem nk{x j pos'}:PS X (.Expr (.Constant (.str x) j pos) pos') (tS X.K F Γl Γ (_s Γ) [] KI):=PS.imp jL λD σ H h=>JR h
theorem il(h1:PS X s (tS X.K F Γl Γ (_s Γ2) js f))(h2:FR X rest (tS X.K F Γl Γ2 Γn js2 f2)):FR X (s::rest) (tS X.K F Γl Γ Γn (js++js2) (qS f f2)):=FR.imp (ON h1 h2) λD σ H h=>by obtain⟨g,m,P,r,R,k,res,e,q⟩:=h;refine⟨g,m,P,r,R,_,res,e,⟨λΓ' m' g' P' σ' H' e i j s' n l=>?_,λd m' g' P' Pv σ' v H' i j=>q.rt d m' g' P' Pv σ' v H' i (j.mono λ_ z=>C7 _ z),λΓ' m' g' P' σ' H' e i j=>q.bk Γ' m' g' P' σ' H' e i (j.mono λ_ z=>C7 _ z),λΓ' m' g' P' σ' H' e i j=>q.ct Γ' m' g' P' σ' H' e i (j.mono λ_ z=>C7 _ z)⟩⟩;cases e;exact⟨g',m',P',l,R,k,res,i,q.later s' n j⟩
theorem ie(h1:PS X s (tS X.K F Γl Γ _n js f)):FR X (s::rest) (tS X.K F Γl Γ _n js f):=FR.imp (ON h1 (u:=λ_ _ _=>False) λ_ _ _ _ _ _ z=>z.elim) λD σ H h=>by obtain⟨g,m,P,r,R,k,res,e,q⟩:=h;exact⟨g,m,P,r,R,k,res,e,(λ_ _ _ _ _ _ e=>by cases e),q.rt,q.bk,q.ct⟩
theorem nh(h1:PS X s (tS X.K F Γl Γ Γn js f)):FR X [s] (tS X.K F Γl Γ Γn js f):=bW h1
theorem nZ(j:PE X e (tE X.K Γ F.ro F.Γr js fe)):PS X (.Return (_s e) pos) (tS X.K F Γl Γ _n js (gR fe)):=PS.imp (jI j) λD σ H h=>by obtain⟨g,m,P,r,R,k,res,e,q⟩:=h;exact⟨g,m,P,r,R,_,res,e,λd m' g' P' Pv v H' l p s rv i n=>q.rt d m' g' P' Pv σ v H' l p s Io.refl rv i n⟩
theorem ik(j:PE X e (tE X.K Γ o Γ' js fe))(hs:U3 e _n pos.line X.env=pure _f):PS X (.Expr e pos) (tS X.K F Γl Γ (_s Γ') js (Yu fe)):=PS.imp (bZ j hs) λD σ H h=>by obtain⟨g,m,P,r,R,k,res,e,q⟩:=h;exact⟨g,m,P,r,R,_,res,e,λd m' g' P' Pv v H' l p s rv i n=>q.nx Γ' m' g' P' σ H' rfl l p (s.less λ_ q=>.inl q) Io.refl i⟩
theorem sU(y:PT X c (tT X.K Γ Γ2 js t))(ha:FR X a (tS X.K F Γl Γ2 Γn js2 f))(hb:FR X b (tS X.K F Γl Γ2 Γn js3 f2)):PS X (.If c a b pos) (tS X.K F Γl Γ Γn (js++(js2++js3)) (Oy t f f2)):=PS.imp (oV y ha hb) λD σ H h=>by
 obtain⟨g,m,P,r,R,k,res,e,q⟩:=h;refine⟨g,m,P,r,R,_,res,e,λb p u P1 B j A s w=>?_⟩;have n:=q.later s Io.refl A;have x:∀(ks:List Nat),(∀i∈ks,i∈js2++js3)->AcS X.K F Γl u P1 B σ D Γn ks p k res:=λks l =>
  ⟨λΓ' m' g' P' σ' H' e j a=>n.nx Γ' m' g' P' σ' H' e j (a.mono l),λd m' g' P' Pv σ' v H' j a=>n.rt d m' g' P' Pv σ' v H' j (a.mono l),λΓ' m' g' P' σ' H' e j a=>n.bk Γ' m' g' P' σ' H' e j (a.mono l),λΓ' m' g' P' σ' H' e j a=>n.ct Γ' m' g' P' σ' H' e j (a.mono l)⟩
 cases b with|true=>rw[if_pos rfl]at j;show(if _t=_t then _ else _);rw[if_pos rfl];exact⟨u,p,P1,w,R,k,res,j,x js2 λ_ z=>C7 _ z⟩|false=>rw[if_neg D2]at j;show(if _f=_t then _ else _);rw[if_neg D2];exact⟨u,p,P1,w,R,k,res,j,x js3 λ_ z=>B9 _ z⟩
def Na:Option Gm->Option Gm->Bool
 |some a,_s b=>Cd a b
 |_,_n=>_t
 |none,_s _=>_f
theorem Wk(h:FR X ss (tS X.K F Γl Γ Γn js f))(i:Na zDw Γn=_t):FR X ss (tS X.K F Γl Γ zDw js f):=FR.imp h λD σ H h=>by
 obtain⟨g,m,P,r,R,k,res,e,q⟩:=h;refine⟨g,m,P,r,R,k,res,e,λΓ' m' g' P' σ' H' e p v s' n l=>?_,q.rt,q.bk,q.ct⟩;subst e;cases zDw with|none=>cases i|some d=>obtain⟨u,P2,s2,j⟩:=l.weaken (by unfold Na at i;exact i);exact q.nx d m' u P2 σ' H' rfl p v (s'.trans s2) n j
def qV(J:List Nat)(f:Es):Es:=λR m k=>(f (HK J) m ⟨λm'=>_s (Aw J m'),λ_ _=>_n,λ_=>_n,λ_=>_n⟩).bind λt=>k.nx (BH J m t)
theorem ki{K:W.Frag}{D:Ends}{σ:St}{H:Hp}(n:∀i o,Γ'[i]?=_s (_s o)->i∈J\/i∉js)(hs:∀i∈J,i∈js)(h:tS K F Γl Γ (_s Γ') js (qV J f) D σ H):tS K F Γl Γ (_s Γ') js f D σ H:=by obtain⟨g,m,P,r,R,k,res,e,q⟩:=h;refine zAQ e λt u p=>?_;refine⟨g,m,P,r,_,_,t,u,⟨λΓ2 m' g' P' σ' H' e d v s' l j=>?_,(λ_ _ _ _ _ _ _ _ d=>by cases d),(λ_ _ _ _ _ _ _ d=>by cases d),λ_ _ _ _ _ _ _ d=>by cases d⟩⟩;cases e;cases d;exact q.nx Γ' _ g' P' σ' H' rfl p ((AW J m _).mono hs) s' l (j.join v n)
end
noncomputable abbrev Tg:=(R:Type)->Dv->M->(M->Option R)->Option R
def Ag(js:List Nat)(σ σ':St):Prop:=σ'.length=σ.length/\∀i,i∉js->σ'[i]?=σ[i]?
theorem Ag.io{js io:List Nat}{σ σ':St}(h:Ag js σ σ')(d:∀i∈io,i∉js):Io io σ σ':=λi hi=>h.2 i (d i hi)
theorem Ag.trans{js ks:List Nat}{σ d c:St}(a:Ag js σ d)(b:Ag ks d c):Ag (js++ks) σ c:=⟨b.1.trans a.1,λi h=>(b.2 i λz=>h (B9 _ z)).trans (a.2 i λz=>h (C7 _ z))⟩
theorem Ag.set{σ:St}{i:Nat}{x:Option V}:Ag [i] σ (σ.set i x):=⟨D8 ..,λj h=>E4 λz=>h (by rw[z];exact Y6 _)⟩
def Pu(K:W.Frag)(Γ Γ':Gm)(js:List Nat)(tg:TG)(f:Tg):Prop:=∀(g:G)(m:M)(P:Fp)(d:Dv)(v:V)(σ:St)(H:Hp)(R:Type)(k:M->Option R)(r:R)(Q:St->Hp->Prop),Rel K g H Γ m σ P->Rep K g H 0 d v nop->f R d m k=_s r ->
 (∀m' P' σ',k m'=_s r->Bm js m m'->(∀a,P' a->P a)->Ag js σ σ'->Rel K g H Γ' m' σ' P'->Q σ' H)->tg v σ H Q
def nG(i:Nat):Tg:=λ_ d m k=>k (m.set i d)
theorem af{K:W.Frag}{Γ:Gm}{i:Nat}(hi:i < Γ.length):Pu K Γ (Γ.set i (_s 0)) [i] (DY i) (nG i):=λg m P d v σ H R k r Q rl rv e q=>by obtain⟨P2,b,s⟩:=rl.zBI hi rv λ_ z=>z.elim;exact q _ P2 _ e Bm.set (λa z=>(s a z).elim id E7) Ag.set b
noncomputable def iH:(J:List Nat)->List Dv->Option (HK J)
 |[],[]=>_s ()
 |[_],[d]=>_s d
 |_::j::J,d::ds=>(iH (j::J) ds).bind λt=>_s (d,t)
 |_,_=>_n
def MM(J:List Nat)(d:Dv):Option (HK J):=match d with
 |.tup ds=>iH J ds
 |.lst ds=>iH J ds
 |_=>_n
def tq(J:List Nat):Tg:=λ_ d m k=>(MM J d).bind λt=>k (BH J m t)
def FH:List Nat->NX
 |[]=>Oo
 |i::J=>Dz (DY i) (FH J)
def Wh(Γ:Gm)(J:List Nat)(x:Option Nat):Gm:=J.foldl (λΓ i=>Γ.set i x) Γ
theorem Wg(J:List Nat)(x:Option Nat):∀Γ:Gm,(Wh Γ J x).length=Γ.length:=by
 induction J with|nil=>intro Γ;rfl|cons i J a=>intro Γ;show(Wh (Γ.set i x) J x).length=_;rw[a,D8]
theorem LV{K:W.Frag}:∀(J:List Nat){Γ:Gm}{g:G}{m:M}{P:Fp}{ds:List Dv}{vs:List V}{σ:St}{H:Hp}{t:HK J}{Q:St->Hp->Prop},(∀i∈J,i < Γ.length)->Rel K g H Γ m σ P->AA K g H 0 ds vs nop->iH J ds=_s t ->
    (∀P' σ',(∀a,P' a->P a)->Ag J σ σ'->Rel K g H (Wh Γ J (_s 0)) (BH J m t) σ' P'->Q σ' H)->ds.length=J.length/\FH J vs σ H Q
  |[],Γ,g,m,P,ds,vs,σ,H,t,Q,b,r,rv,e,q=>by
    cases ds with|nil=>unfold AA at rv;exact⟨rfl,rv.1,q P σ (λ_ z=>z) ⟨rfl,λ_ _=>rfl⟩ r⟩|cons d ds=>cases e
  |[i],Γ,g,m,P,ds,vs,σ,H,t,Q,b,r,rv,e,q=>by
    match ds,e with
    |[d],e=>cases e;unfold AA at rv;obtain⟨v,c,P1,P2,rfl,h1,h2,_,h4⟩:=rv;unfold AA at h2;obtain⟨P3,f,s⟩:=r.zBI (b i B1) h1.z λ_ z=>z.elim;exact⟨rfl,v,c,rfl,h2.1,q P3 _ (λa z=>(s a z).elim id E7) Ag.set f⟩
    |[],e=>cases e
    |_::_::_,e=>cases e
  |i::j::J,Γ,g,m,P,ds,vs,σ,H,t,Q,b,r,rv,e,q=>by
    match ds,e with
    |[],e=>cases e
    |d::ds,e=>refine zAQ (show(iH (j::J) ds).bind (λt=>_s (d,t))=_s t from e) λt' o n=>?_;cases n;unfold AA at rv;obtain⟨v,c,P1,P2,rfl,h1,h2,_,h4⟩:=rv;obtain⟨P3,f,s⟩:=r.zBI (b i B1) h1.z λ_ z=>z.elim;have s':∀a,P3 a->P a:=λa z=>(s a z).elim id E7;have:=LV (j::J) (Q:=Q) (λk l=>by rw[D8];exact b k (A9 _ l)) f h2.z o λP' σ' sp p h=>q P' σ' (λa z=>s' a (sp a z)) (Ag.set.trans p) h;exact⟨by simp[this.1],v,c,rfl,this.2⟩
abbrev YY(K:W.Frag)(n:Nat)(t:NX):TG:=λv σ H Q=>lA K n t v σ H Q\/lC n t v σ H Q
theorem WJ{K:W.Frag}{Γ:Gm}{J:List Nat}(f:∀i∈J,i < Γ.length):Pu K Γ (Wh Γ J (_s 0)) J (YY K J.length (FH J)) (tq J):=λg m P d v σ H R k r Q rl rv e q=>by
 refine zAQ e λt b h=>?_;have go:∀{ds vs},AA K g H 0 ds vs nop->iH J ds=_s t->ds.length=J.length/\FH J vs σ H Q:=λh1 h2=>LV J f rl h1 h2 λP' σ' sp j c=>q _ P' σ' h (AW J m t) sp j c;cases d with|tup ds=>unfold Rep at rv;obtain⟨a,vs,rfl,h1,h2⟩:=rv;obtain⟨l,z⟩:=go h2 b;exact .inl ⟨a,vs,rfl,.inl (.inl h1),by rw[<- h2.len];exact l,z⟩|lst ds=>unfold Rep at rv;obtain⟨a,vs,P',rfl,h1,h2,_⟩:=rv;obtain⟨l,z⟩:=go h2.z b;exact .inr ⟨a,vs,rfl,h1.1,by rw[<- h2.len];exact l,z⟩|_=>cases b
theorem PG.or{X:Cx}{e:Expr}{t u:TG}(h:PG X e t)(k:PG X e u):PG X e λv σ H Q=>t v σ H Q\/u v σ H Q:=λpins s σ H v w Q I r q=>q.elim (h pins s σ H v w Q I r) (k pins s σ H v w Q I r)
theorem YU{js:List Nat}{t u:TG}(h:GOk js t)(k:GOk js u):GOk js λv σ H Q=>t v σ H Q\/u v σ H Q:=λx σ H Q q=>q.elim (λq=>.inl (h x σ H Q q)) λq=>.inr (k x σ H Q q)
theorem GR{js:List Nat}:∀(J:List Nat),(∀i∈J,i∈js)->QA js (FH J)
 |[],_=>On
 |i::J,h=>Ux (h i B1) (GR J λk a=>h k (A9 _ a))
def tm(b f2:Tg):Tg:=λR d m k=>(MM [0,1] d).bind λt=>b R t.1 m λa=>f2 R t.2 a k
theorem ae{K:W.Frag}{Γ h f:Gm}{D C:List Nat}{p o:TG}{B f2:Tg}(h1:Pu K Γ h D p B)(h2:Pu K h f C o f2):Pu K Γ f (D++C) (YY K 2 (Dz p (Dz o Oo))) (tm B f2):=λg m P d v σ H R k r Q rl rv e q=>by
 refine zAQ e λt s M=>?_;have go:∀{ds vs},AA K g H 0 ds vs nop->iH [0,1] ds=_s t->vs.length=2/\Dz p (Dz o Oo) vs σ H Q:=fun{ds vs} c b=>by
  match ds,b with
  |[x,y],b=>cases b;unfold AA at c;obtain⟨u,A,P1,P2,rfl,L,c,_⟩:=c;unfold AA at c;obtain⟨n,w,P3,S,rfl,J,c,_⟩:=c;unfold AA at c;obtain⟨rfl,_⟩:=c;exact⟨rfl,u,[n],rfl,h1 g m P x u σ H R _ r _ rl L.z M λG P1 j I O p1 s1 A=>⟨n,[],rfl,h2 g G P1 y n j H R k r _ A J.z I λF P2 i k2 N E s2 w=>⟨rfl,q F P2 i k2 (O.trans N) (λa z=>p1 a (E a z)) (s1.trans s2) w⟩⟩⟩
  |[],b=>cases b
  |[_],b=>cases b
  |_::_::_::_,b=>cases b
 cases d with|tup ds=>unfold Rep at rv;obtain⟨a,vs,rfl,h1,h2⟩:=rv;obtain⟨l,z⟩:=go h2 s;exact .inl ⟨a,vs,rfl,.inl (.inl h1),l,z⟩|lst ds=>unfold Rep at rv;obtain⟨a,vs,P',rfl,h1,h2,_⟩:=rv;obtain⟨l,z⟩:=go h2.z s;exact .inr ⟨a,vs,rfl,h1.1,l,z⟩|_=>cases s
def aJ(t:TG):Prop:=∀v σ H (Q Q':St->Hp->Prop),t v σ H Q->(∀σ H,Q σ H->Q' σ H)->t v σ H Q'
def ML(t:NX):Prop:=∀v σ H (Q Q':St->Hp->Prop),t v σ H Q->(∀σ H,Q σ H->Q' σ H)->t v σ H Q'
theorem LY{i:Nat}:aJ (DY i):=λ_ _ _ _ _ h q=>q _ _ h
theorem Jq:ML Oo:=λ_ _ _ _ _ h q=>⟨h.1,q _ _ h.2⟩
theorem LZ{t:TG}{u:NX}(b:aJ t)(a:ML u):ML (Dz t u):=λ_ _ _ _ _ ⟨v,r,e,h⟩ q=>⟨v,r,e,b _ _ _ _ _ h λ_ _ h=>a _ _ _ _ _ h q⟩
theorem Js:∀J:List Nat,ML (FH J)
 |[]=>Jq
 |_::J=>LZ LY (Js J)
theorem Xt{K:W.Frag}{n:Nat}{u:NX}(b:ML u):aJ (YY K n u):=λ_ _ _ _ _ h q=>h.elim (fun⟨a,xs,e,s,l,h⟩=>.inl ⟨a,xs,e,s,l,b _ _ _ _ _ h q⟩) fun⟨a,xs,e,s,l,h⟩=>.inr ⟨a,xs,e,s,l,b _ _ _ _ _ h q⟩
theorem KA{js:List Nat}{t:TG}{u:NX}(f:aJ t)(mu:ML u)(h:GOk js t)(g:QA js u):QA js (Dz t u):=λx σ H Q ⟨v,r,e,q⟩=>⟨v,r,e,f _ _ _ _ _ (h v σ H _ q) λa k ⟨⟨l1,j⟩,d⟩=>mu _ _ _ _ _ (g r a k _ d) λb l ⟨⟨l2,f2⟩,c⟩=>⟨⟨l2.trans l1,λi hi=>(f2 i hi).trans (j i hi)⟩,c⟩⟩
def Lo(f:Ev Dv)(tg:Tg):Es:=λR m k=>f R m λd a=>tg R d a k.nx
section
variable{X:Cx}{F:Fr}{Γl:Option Gm}{Γ Γ' Γ2:Gm}{js js2:List Nat}{e tg:Expr}{pos pos':Pos}{fe:Ev Dv}{g:TG}{ft:Tg}{i o:Nat}{x:Str}
theorem eR{K:W.Frag}(u:Pu K Γ2 Γ' js2 g ft)(f:∀i∈F.io,i∉js2){D:Ends}{σ:St}{H:Hp}(h:tS K F Γl Γ (_s Γ') (js++js2) (Lo fe ft) D σ H):Kk (tE K Γ 0 Γ2 js fe) g D σ H:=by obtain⟨y,m,P,r,R,k,res,e,q⟩:=h;refine⟨y,m,P,r,R,_,res,e,λd t g' P' Pv v H' w A s rv p n=>u g' t P' d v σ H' R k.nx res _ p rv.z w λm' P2 b c j s2 i l=>?_⟩;exact q.nx Γ' m' g' P2 b H' rfl c (A.trans j) (s.less λa z=>.inl (s2 a z)) (i.io f) l
theorem SO{K:W.Frag}(hi:i < Γ2.length)(b:i∉F.io){D:Ends}{σ:St}{H:Hp}(h:tS K F Γl Γ (_s (Γ2.set i (_s o))) (js++[i]) (Lo fe (nG i)) D σ H):Kk (tE K Γ o Γ2 js fe) (DY i) D σ H:=by obtain⟨l,m,P,r,R,k,res,e,q⟩:=h;refine⟨l,m,P,r,R,_,res,e,λd t g' P' Pv v H' j p s rv f n=>?_⟩;obtain⟨P2,c,s2⟩:=f.zBI hi rv λa q z=>n a z q;exact q.nx _ _ g' P2 _ H' rfl j (p.trans Bm.set) (s.less λa z=>s2 a z) (Io.set b) c
theorem nY(d:X.N.Nodup)(a:X.N[i]?=_s x)(c:Loc X.env.scope x)(b:i∉F.io)(hi:i < Γ2.length)(he:PE X e (tE X.K Γ o Γ2 js fe))(hs:U3 e (_s (.Name x pos')) pos.line X.env=pure _f)(hf:X.fn x=_t\/X.env.scope.names.lookup x=_s .local) :
    PS X (.Assign [.Name x pos'] e pos) (tS X.K F Γl Γ (_s (Γ2.set i (_s o))) (js++[i]) (Lo fe (nG i))):=PS.imp (jH d a c he hs hf) λ_ _ _ h=>SO hi b h
theorem nr(he:PE X e (tE X.K Γ 0 Γ2 js fe))(d:PG X tg g)(c:Pu X.K Γ2 Γ' js2 g ft)(a:∀i∈F.io,i∉js2)(hs:k7 [tg] e pos.line X.env=pure _f)(b:U0 [tg] e X.env=pure _n)
    (h1:(N3 [tg] X.env).map (·.2)=[Y8 tg X.env]):PS X (.Assign [tg] e pos) (tS X.K F Γl Γ (_s Γ') (js++js2) (Lo fe ft)):=PS.imp (Qf he d hs b h1) λ_ _ _ h=>eR c a h
end
def Kf(g:G)(H:Hp)(a:G)(b:Hp):Prop:=∃P P',Step g P H a P' b/\zAS g H P
def Yl(K:W.Frag)(J:It)(ds:List Dv)(g:G)(H:Hp):Prop:=∀b a,Kf g H b a ->
 (∀i d,ds[i]?=_s d->J.go i a/\∀x c,J.yld i a x c->Ad K b a 0 d x c)/\∀i,ds.length<=i->J.stop i a
inductive tI (K:W.Frag) (Γ Γ':Gm) (js:List Nat) (f:Ev (List Dv)) (σ:St) (H:Hp) (Q:It->Hp->Prop):Prop
 | mk (g:G) (m:M) (P:Fp) (a:Rel K g H Γ m σ P) (R:Type) (k:List Dv->M->Option R) (r:R) (b:f R m k=_s r)
  (c:∀ds m' g' P' H' J,k ds m'=_s r->Bm js m m'->Step g P H g' P' H'->Rel K g' H' Γ' m' σ P'->Yl K J ds g' H'->Q J H')
theorem PI.imp{X:Cx}{tg e:Expr}{t t':TI}(h:PI X tg e t)(k:∀σ H R,t' σ H R->t σ H R):PI X tg e t':=λpins s σ H R I q=>h pins s σ H R I (k σ H R q)
theorem Ad.old{K:W.Frag}{g:G}{H:Hp}{o:Nat}{d:Dv}{v:V}(h:Rep K g H o d v nop):Ad K g H o d v H:=⟨λ_ _ q=>q,nop,h,λ_ z=>z.elim⟩
theorem Kf.rep{K:W.Frag}{g g2:G}{H a:Hp}{d:Dv}{v:V}(s:Kf g H g2 a)(h:Rep K g H 0 d v nop):Rep K g2 a 0 d v nop:=by obtain⟨P,P',st,ok⟩:=s;exact h.held st ok λ_ z=>z.elim
section
variable{τ γ ρ:Type}
inductive Lp (τ γ ρ:Type) where
 |go (c:γ)|bk (c:γ)|rt (d:τ) (r:ρ)
inductive Rs (τ γ ρ:Type) where
 |go (c:γ)|rt (d:τ) (r:ρ)
noncomputable def Rs.el{a:Type}(x:Rs τ γ ρ)(f:γ->a)(h:τ->ρ->a):a:=match x with|.go c=>f c|.rt d r=>h d r
noncomputable def BO(g:Dv->γ->Option γ):List Dv->γ->Option γ
 |[],c=>_s c
 |x::xs,c=>(g x c).bind λa=>BO g xs a
noncomputable def Oq(g:Dv->γ->Option (Lp τ γ ρ)):List Dv->γ->Option (Rs τ γ ρ)
 |[],c=>_s (.go c)
 |x::xs,c=>(g x c).bind λl=>match l with
  |.go a=>Oq g xs a
  |.bk a=>_s (.go a)
  |.rt d r=>_s (.rt d r)
noncomputable def Tz(t:γ->Option Bool)(g:γ->Option γ):Nat->γ->Option γ
 |0,_=>_n
 |n+1,c=>(t c).bind λb=>if b=_t then(g c).bind (Tz t g n)else _s c
end
def kC(J:List Nat):Kt (HK J):=⟨λm'=>_s (Aw J m'),λ_ _=>_n,λ_=>_n,λm'=>_s (Aw J m')⟩
def kE(J Jr:List Nat):Kt (Lp Dv (HK J) (HK Jr)):=⟨λm'=>_s (.go (Aw J m')),λd m'=>_s (.rt d (Aw Jr m')),λm'=>_s (.bk (Aw J m')),λm'=>_s (.go (Aw J m'))⟩
def Yr(a:Ev (List Dv))(tg:Tg)(J:List Nat)(b:Es):Es:=λR m k=>a R m λds c =>
 (BO (λd t=>tg (HK J) d (BH J c t) λe=>b (HK J) e (kC J)) ds (Aw J c)).bind λt=>k.nx (BH J c t)
def Yq(c:Ev (List Dv))(tg:Tg)(J Jr:List Nat)(b:Es):Es:=λR m k=>c R m λds a =>
 (Oq (λd t=>tg (Lp Dv (HK J) (HK Jr)) d (BH J a t) λe=>b (Lp Dv (HK J) (HK Jr)) e (kE J Jr)) ds (Aw J a)).bind λx=>x.el (λt=>k.nx (BH J a t)) λd t=>k.rt d (BH Jr a t)
theorem RL{J:List Nat}{Γ:Gm}{K:W.Frag}{g:G}{H:Hp}{m:M}{σ:St}{P:Fp}(r:Rel K g H Γ m σ P):Rel K g H Γ (BH J m (Aw J m)) σ P:=r.join (js:=[]) Bm.refl λ_ _ _=>.inr `s
theorem TL{K:W.Frag}{F:Fr}{zCA:Option Gm}{Γ S:Gm}{T:Option Gm}{s jb:List Nat}{g:TG}{ft:Tg}{b:Es}{J Jr:List Nat}(ht:Pu K Γ S s g ft)(hio:∀i∈F.io,i∉s)(hw:Na (_s Γ) T=_t)
    (hJ:J=Bl Γ (s++jb)) (V:Jr=Bl F.Γr (s++jb)) {ds:List Dv} {c:M} {D:Ends} {σ:St} {C:Hp} {A:G} {P1:Fp} {I:It} {R:Type} {k:Kt R} {res:R}
    (r1:Rel K A C Γ c σ P1) (yl:Yl K I ds A C) (run:List Dv->HK J->Prop) (h0:run ds (Aw J c)) (hn:∀t,run [] t->k.nx (BH J c t)=_s res)
    (hc:∀d ds t,run (d::ds) t->∃(B:Type)(E:Kt B)(r:B),ft B d (BH J c t) (λU=>b B U E)=_s r/\(∀m',E.nx m'=_s r->run ds (Aw J m'))/\(∀m',E.ct m'=_s r->run ds (Aw J m')) /\
      (∀m',E.bk m'=_s r->k.nx (BH J c (Aw J m'))=_s res)/\∀d m',E.rt d m'=_s r->k.rt d (BH Jr c (Aw Jr m'))=_s res)
    (q:AcS K F zCA A P1 C σ D (_s Γ) (s++jb) c k res) :
    ∃W:Nat->Nat->St->Hp->Prop,(∃m,W 0 m σ C)/\∀i m σ H,W i m σ H ->
      (I.stop i H/\D.nx σ H)\/(I.go i H/\∃N:St->Hp->Prop,(∀σ' H',N σ' H'->∃m',m' < m/\W (i+1) m' σ' H')/\∀x H',I.yld i H x H'->g x σ H' λw Q=>tS K F (_s Γ) S T jb b {D with nx:=N,ct:=N,bk:=D.nx} w Q):=by
  have sub:∀i∈J,i∈s++jb:=λi h=>BW (hJ▸h);have zDy:∀i∈Jr,i∈s++jb:=λi h=>BW (V▸h);refine⟨λi j σ' H'=>j=ds.length-i/\i<=ds.length/\∃u t P2,Step A P1 C u P2 H'/\Io F.io σ σ'/\Rel K u H' Γ (BH J c t) σ' P2/\run (ds.drop i) t,⟨ds.length,by simp,H8 _,A,Aw J c,P1,Step.refl,Io.refl,RL r1,by simpa using h0⟩,?_⟩;rintro i j w Q ⟨rfl,hi,u,t,P2,s2,i2,r2,e2⟩;have st:Kf A C u Q:=⟨P1,P2,s2,r1.zAR⟩;by_cases P:i < ds.length;rw[S7 P]at e2;obtain⟨B,E,rB,e3,knx,kct,kbk,krt⟩:=hc _ _ _ e2;obtain⟨go,yy⟩:=(yl u Q st).1 i ds[i] (A2 P);refine .inr ⟨go,λσ' H'=>∃Z P5 m',Step A P1 C Z P5 H'/\Io F.io σ σ'/\Rel K Z H' Γ m' σ' P5/\Bm (s++jb) c m'/\run (ds.drop (i+1)) (Aw J m'),?_,λx H3 hy=>?_⟩;rintro σ' H' ⟨Z,P5,m',s5,i5,r5,ag,hr⟩;exact⟨ds.length-(i+1),by omega,rfl,P,Z,Aw J m',P5,s5,i5,r5.join ag λi o h=>hJ▸Br h,hr⟩;obtain⟨Pv,s3,h3,r3,n3⟩:=Ad.go s2 r2 (yy x H3 hy);refine ht u _ P2 ds[i] x w H3 B _ rB _ r3 h3.z e3 λU P' σ' y ag sp ip r'=>?_;have X:Step A P1 C u P' H3:=s3.less λa z=>.inl (sp a z);have Y:=i2.trans (ip.io hio);have a4:Bm (s++jb) c U:=((AW J c t).mono sub).trans ag |>.mono λi z=>(C0.mp z).elim id λz=>C7 _ z
  have a5:∀{m'},Bm jb U m'->Bm (s++jb) c m':=λh=>(a4.trans h).mono λi z=>(C0.mp z).elim id λz=>B9 _ z;refine⟨u,U,P',r',B,E,rB,y,⟨λΓ' m' g' l p H' e y f s' O L=>?_,λd m' g' l Pv p v H' y f s' O rv L n=>?_,λΓ' m' g' l p H' e y f s' O L=>?_,λΓ' m' g' l p H' e y f s' O L=>?_⟩⟩;subst e;obtain⟨g6,P6,s6,r6⟩:=L.weaken (by unfold Na at hw;exact hw);exact⟨g6,P6,m',(X.trans s').trans s6,Y.trans O,r6,a5 f,knx m' y⟩;exact q.rt d _ g' l Pv p v H' (krt d m' y) ((AW Jr c _).mono zDy) (X.trans s') (Y.trans O) rv (L.join (a5 f) λi o h=>V▸Br h) n;cases e;exact q.nx Γ _ g' l p H' rfl (kbk m' y) ((AW J c _).mono sub) (X.trans s') (Y.trans O) (L.join (a5 f) λi o h=>hJ▸Br h);cases e;exact⟨g',l,m',X.trans s',Y.trans O,L,a5 f,kct m' y⟩;have ei:i=ds.length:=by omega
  subst ei;rw[ym]at e2;exact .inl ⟨(yl u Q st).2 _ (B3 _),q.nx Γ _ u P2 w Q rfl (hn t e2) ((AW J c _).mono sub) s2 i2 r2⟩
section
variable{X:Cx}{F:Fr}{zCA:Option Gm}{Γ Γ1 Γ2 Γt:Gm}{Γo:Option Gm}{js jt jb J Jr:List Nat}{tg iter:Expr}{body:List N4}{src:Ev (List Dv)}{g:TG}{ft:Tg}{b:Es}{pos:Pos}
theorem Kf.pre{g g2 g3:G}{H e:Hp}{P P2:Fp}(s:Step g P H g2 P2 H)(ok:zAS g H P)(st:Kf g2 H g3 e):Kf g H g3 e:=by obtain⟨P3,d,s3,c⟩:=st;exact⟨λa=>P a\/P3 a,d,(s.frame (R:=P3)).trans (s3.sub (λ_ z=>.inr z) λ_ z=>z),ok.or λa z=>⟨(c a z).1,λw=>(c a z).2 (s.zm a w)⟩⟩
theorem aY{K:W.Frag}{σ:St}{H:Hp}{Q:It->Hp->Prop}(f:Cd Γ2 Γ1=_t)(h:tI K Γ Γ2 js src σ H Q):tI K Γ Γ1 js src σ H Q:=by obtain⟨g,m,P,r,R,k,res,e,q⟩:=h;refine⟨g,m,P,r,R,k,res,e,λds m' g' P' H' J i n s a c=>?_⟩;obtain⟨l,P2,s2,d⟩:=a.weaken f;exact q ds m' l P2 H' J i n (s.trans s2) d λj o st=>c j o (st.pre s2 a.zAR)
theorem ij(u:u3 (D9 X.prog X.w) X.A X.env X.xe)(y:X.calm=_t)(hi:PI X tg iter (tI X.K Γ Γ1 js src))(v:PG X tg g)(p:Pu X.K Γ1 Γt jt g ft)(f:∀i∈F.io,i∉jt)(hb:FR X body (tS X.K F (_s Γ1) Γt Γo jb b))(o:Na (_s Γ1) Γo=_t)(z:J=Bl Γ1 (jt++jb))
    (hs:∀x,Q3 iter X.env x=pure x):PS X (.For tg iter body [] pos) (tS X.K F zCA Γ (_s Γ1) (js++(jt++jb)) (Yr src ft J b)):=PS.imp (XA u y hi v hb hs) λD σ H h=>by
  obtain⟨B,m,P,r,R,k,res,e,q⟩:=h;refine⟨B,m,P,r,R,_,res,e,λds L M P1 N I a G s n j=>?_⟩;refine zAQ a λt E C=>?_;refine TL (Jr:=Bl F.Γr (jt++jb)) p f o z rfl n j (λds c=>BO _ ds c=_s t) E (λc h=>?_) (λd ds c h=>?_) (q.later s Io.refl G);cases h;exact C;refine zAQ h λl h1 h2=>?_;refine⟨HK J,kC J,l,h1,λm' a=>?_,λm' a=>?_,(λm' a=>by cases a),λd m' a=>by cases a⟩;cases a;exact h2;cases a;exact h2
theorem ig(v:u3 (D9 X.prog X.w) X.A X.env X.xe)(z:X.calm=_t)(hi:PI X tg iter (tI X.K Γ Γ1 js src))(y:PG X tg g)(u:Pu X.K Γ1 Γt jt g ft)(f:∀i∈F.io,i∉jt)(hb:FR X body (tS X.K F (_s Γ1) Γt Γo jb b))(t:Na (_s Γ1) Γo=_t)(B:J=Bl Γ1 (jt++jb))(j:Jr=Bl F.Γr (jt++jb))
    (hs:∀x,Q3 iter X.env x=pure x):PS X (.For tg iter body [] pos) (tS X.K F zCA Γ (_s Γ1) (js++(jt++jb)) (Yq src ft J Jr b)):=PS.imp (XA v z hi y hb hs) λD σ H h=>by
  obtain⟨C,m,P,r,R,k,res,e,q⟩:=h;refine⟨C,m,P,r,R,_,res,e,λds L M P1 N I a G s p o=>?_⟩;refine zAQ a λx E n=>?_;refine TL u f t B j p o (λds c=>Oq _ ds c=_s x) E (λc h=>?_) (λd ds c h=>?_) (q.later s Io.refl G);cases h;exact n;refine zAQ h λl h1 h2=>?_;refine⟨_,kE J Jr,l,h1,λm' a=>?_,λm' a=>?_,λm' a=>?_,λd m' a=>?_⟩;cases a;exact h2;cases a;exact h2;cases a;cases h2;exact n;cases a;cases h2;exact n
end
def gN(n:Nat)(c:Ev Bool)(J:List Nat)(b:Es):Es:=λR m k =>
 (Tz (λt=>c Bool (BH J m t) λb _=>_s b) (λt=>b (HK J) (BH J m t) (kC J)) n (Aw J m)).bind λt=>k.nx (BH J m t)
theorem hX{K:W.Frag}{F:Fr}{S:Option Gm}{Γ x:Gm}{w:Option Gm}{jb:List Nat}{c:Ev Bool}{b:Es}{J Jr:List Nat}(hwc:Cd Γ x=_t)(hw:Na (_s Γ) w=_t)
    (hJ:J=Bl Γ jb) (E:Jr=Bl F.Γr jb) {a:M} {D:Ends} {σ:St} {L:Hp} {H:G} {P1:Fp} {R:Type} {k:Kt R} {res:R}
    (r1:Rel K H L Γ a σ P1) (run:Nat->HK J->Prop) {n:Nat} (h0:run n (Aw J a))
    (hc:∀n t,run n t->∃I,c Bool (BH J a t) (λb _=>_s b)=_s I/\if I=_t then ∃A,A < n/\∃(B:Type)(m:Kt B)(r:B),b B (BH J a t) m=_s r/\(∀m',m.nx m'=_s r->run A (Aw J m'))/\(∀m',m.ct m'=_s r->run A (Aw J m')) /\
      (∀m',m.bk m'=_s r->k.nx (BH J a (Aw J m'))=_s res)/\(∀d m',m.rt d m'=_s r->k.rt d (BH Jr a (Aw Jr m'))=_s res)else k.nx (BH J a t)=_s res)
    (q:AcS K F S H P1 L σ D (_s Γ) jb a k res):WK (tT K Γ x [] c) (tS K F (_s Γ) Γ w jb b) D σ L:=by
  have sub:∀i∈J,i∈jb:=λi h=>BW (hJ▸h);have Q:∀i∈Jr,i∈jb:=λi h=>BW (E▸h);refine⟨λn σ' H'=>∃N t P2,Step H P1 L N P2 H'/\Io F.io σ σ'/\Rel K N H' Γ (BH J a t) σ' P2/\run n t,⟨n,H,Aw J a,P1,Step.refl,Io.refl,RL r1,h0⟩,?_⟩;rintro A u H2 ⟨N,t,P2,s2,C,r2,e2⟩;obtain⟨I,e3,O⟩:=hc A t e2;refine⟨N,_,P2,r2,Bool,_,I,e3,λb' m' g3 P3 H3 l ag s3 r3=>?_⟩;cases l;obtain⟨g4,P4,s4,r4⟩:=r3.weaken hwc;have r5:Rel K g4 H3 Γ (BH J a t) u P4:=r4.agree ag.1.symm λi o _=>(ag.2 i `s).symm;have y:=(s2.trans s3).trans s4;cases I with|false=>rw[if_neg D2]at O ⊢;exact q.nx Γ _ g4 P4 u H3 rfl O ((AW J a _).mono sub) y C r5|true=>rw[if_pos rfl]at O ⊢;obtain⟨n2,hn,B,m,rB,eb,X,Y,Z,V⟩:=O;have P:∀{m'},Bm jb (BH J a t) m'->Bm jb a m':=λh=>(((AW J a t).mono sub).trans h).mono λi z=>(C0.mp z).elim id id;refine⟨λσ' H'=>∃g5 P5 m',Step H P1 L g5 P5 H'/\Io F.io σ σ'/\Rel K g5 H' Γ m' σ' P5/\Bm jb a m'/\run n2 (Aw J m'),?_,g4,_,P4,r5,B,m,rB,eb,⟨λΓ' m' g' g j H' e l f s' s p=>?_,λd m' g' g Pv j v H' l f s' s rv p n=>?_,λΓ' m' g' g j H' e l f s' s p=>?_,λΓ' m' g' g j H' e l f s' s p=>?_⟩⟩;rintro σ' H' ⟨g6,P6,m',T,i6,U,ag6,hr⟩;exact⟨n2,hn,g6,Aw J m',P6,T,i6,U.join ag6 λi o h=>hJ▸Br h,hr⟩;subst e;obtain⟨g6,P6,T,U⟩:=p.weaken (by unfold Na at hw;exact hw);exact⟨g6,P6,m',(y.trans s').trans T,C.trans s,U,P f,X m' l⟩;exact q.rt d _ g' g Pv j v H' (V d m' l) ((AW Jr a _).mono Q) (y.trans s') (C.trans s) rv (p.join (P f) λi o h=>E▸Br h) n;cases e;exact q.nx Γ _ g' g j H' rfl (Z m' l) ((AW J a _).mono sub) (y.trans s') (C.trans s) (p.join (P f) λi o h=>hJ▸Br h);cases e;exact⟨g',g,m',y.trans s',C.trans s,p,P f,Y m' l⟩
section
variable{X:Cx}{F:Fr}{zCA:Option Gm}{Γ Γc:Gm}{Γo:Option Gm}{jb J Jr:List Nat}{c:Expr}{body:List N4}{t:Ev Bool}{b:Es}{pos:Pos}
theorem nX(n:Nat)(o:u3 (D9 X.prog X.w) X.A X.env X.xe)(p:PT X c (tT X.K Γ Γc [] t))(hb:FR X body (tS X.K F (_s Γ) Γ Γo jb b))(f:Cd Γ Γc=_t)(l:Na (_s Γ) Γo=_t)(s:J=Bl Γ jb) :
    PS X (.While c body [] pos) (tS X.K F zCA Γ (_s Γ) jb (gN n t J b)):=PS.imp (Wz o p hb) λD σ H h=>by
  obtain⟨x,m,P,r,R,k,res,e,q⟩:=h;refine zAQ e λt' v u=>?_;refine hX (Jr:=Bl F.Γr jb) f l s rfl r (λn g=>Tz _ _ n g=_s t') v (λn g h=>?_) q;cases n with
  |zero=>cases h
  |succ n=>
    refine zAQ h λi h1 h2=>?_;refine⟨i,h1,?_⟩;cases i with|false=>rw[if_neg D2]at h2 ⊢;cases h2;exact u|true=>rw[if_pos rfl]at h2 ⊢;refine zAQ h2 λj h3 h4=>?_;refine⟨n,i8 n,HK J,kC J,j,h3,λm' a=>?_,λm' a=>?_,(λm' a=>by cases a),λd m' a=>by cases a⟩;cases a;exact h4;cases a;exact h4
end
end R
namespace Q
open PySem L2
end Q
namespace L3
open PySem PySem.Spec PyProof.Rows PySem.SeqAt L2
abbrev St:=L2.St
inductive D where
 |fl (v:V)
 |tup (ds:List D)
 |lst (ds:List D)
mutual
noncomputable def eqD:D->D->Bool
 |.fl a,.fl b=>eqV a b
 |.tup a,.tup b=>zAq a b
 |.lst a,.lst b=>zAq a b
 |_,_=>_f
noncomputable def zAq:List D->List D->Bool
 |[],[]=>_t
 |x::xs,y::ys=>eqD x y&&zAq xs ys
 |_,_=>_f
end
mutual
noncomputable def D.dep:D->Nat
 |.fl _=>0
 |.tup ds=>zAu ds+1
 |.lst ds=>zAu ds+1
noncomputable def zAu:List D->Nat
 |[]=>0
 |d::ds=>max d.dep (zAu ds)
end
mutual
noncomputable def Is(K:W.Frag)(H:Hp):V->D->Prop
 |x,.fl v=>x=v/\KF v=_t
 |x,.tup ds=>∃a xs,x=.ref a/\Fo K H a xs/\IsL K H xs ds
 |x,.lst ds=>∃a xs,x=.ref a/\Dl K H a xs/\IsL K H xs ds
noncomputable def IsL(K:W.Frag)(H:Hp):List V->List D->Prop
 |[],[]=>True
 |x::xs,d::ds=>Is K H x d/\IsL K H xs ds
 |_,_=>False
end
theorem IsL.inv{K:W.Frag}{H:Hp}{x:V}{xs:List V}{es:List D}(h:IsL K H (x::xs) es):∃d ds,es=d::ds/\Is K H x d/\IsL K H xs ds:=by
 cases es with|nil=>unfold IsL at h;exact h.elim|cons d ds=>unfold IsL at h;exact⟨d,ds,rfl,h.1,h.2⟩
theorem IsL.length{K:W.Frag}{H:Hp}:∀{xs:List V}{ds:List D},IsL K H xs ds->xs.length=ds.length
 |[],[],_=>rfl
 |[],_::_,h=>by unfold IsL at h;exact h.elim
 |_::_,[],h=>by unfold IsL at h;exact h.elim
 |x::xs,d::ds,h=>by unfold IsL at h;rw[D4,D4,IsL.length h.2]
theorem IsL.get{K:W.Frag}{H:Hp}:∀{xs:List V}{ds:List D}{i:Nat}{d:D},IsL K H xs ds->ds[i]?=_s d->∃x,xs[i]?=_s x/\Is K H x d
 |[],[],_,_,_,e=>by simp at e
 |[],_::_,_,_,h,_=>by unfold IsL at h;exact h.elim
 |_::_,[],_,_,_,e=>by simp at e
 |x::xs,d::ds,0,d',h,e=>by
  unfold IsL at h;have:d=d':=by simpa using e
  subst this;exact⟨x,rfl,h.1⟩
 |x::xs,d::ds,i+1,_,h,e=>by unfold IsL at h;obtain⟨y,b,a⟩:=IsL.get (i:=i) h.2 (by simpa using e);exact⟨y,by simpa using b,a⟩
theorem SF{X:Cx}{pins:List (B8×Obj)}{σ:St}{H:Hp}{s:A7}{a:B8}{xs ys:List V}(I:Inv X pins σ H s)(h:Fo X.K H a xs)(k:Dl X.K H a ys):False:=by
 obtain⟨_,_,⟨o,e,c,_⟩,_⟩:=I.tuple h;obtain⟨_,_,⟨o',n,b,d,_⟩,_⟩:=I.list k;rw[e]at b;cases b;rw[c]at d;injection d with q
 exact absurd q `d
mutual
theorem Is.inj{X:Cx}{pins:List (B8×Obj)}{σ:St}{H:Hp}{s:A7}(I:Inv X pins σ H s):∀{d e:D}{x:V},Is X.K H x d->Is X.K H x e->d=e
 |.fl v,e,x,h,k=>by
  unfold Is at h;obtain⟨rfl,hf⟩:=h;cases e with|fl u=>unfold Is at k;rw[k.1]|tup es=>unfold Is at k;obtain⟨a,xs,rfl,_⟩:=k;cases hf|lst es=>unfold Is at k;obtain⟨a,xs,rfl,_⟩:=k;cases hf
 |.tup ds,e,x,h,k=>by
  unfold Is at h;obtain⟨a,xs,rfl,h1,h2⟩:=h;cases e with|fl u=>unfold Is at k;obtain⟨c,k2⟩:=k;rw[<- c]at k2;cases k2|tup es=>unfold Is at k;obtain⟨b,ys,e,c,k2⟩:=k;cases e;rw[I.zBE h1 c]at h2;rw[IsL.inj I h2 k2]|lst es=>unfold Is at k;obtain⟨b,ys,e,c,k2⟩:=k;cases e;exact(SF I h1 c).elim
 |.lst ds,e,x,h,k=>by
  unfold Is at h;obtain⟨a,xs,rfl,h1,h2⟩:=h;cases e with|fl u=>unfold Is at k;obtain⟨c,k2⟩:=k;rw[<- c]at k2;cases k2|lst es=>unfold Is at k;obtain⟨b,ys,e,c,k2⟩:=k;cases e;rw[I.zBb h1 c]at h2;rw[IsL.inj I h2 k2]|tup es=>unfold Is at k;obtain⟨b,ys,e,c,k2⟩:=k;cases e;exact(SF I c h1).elim
theorem IsL.inj{X:Cx}{pins:List (B8×Obj)}{σ:St}{H:Hp}{s:A7}(I:Inv X pins σ H s):∀{ds es:List D}{xs:List V},IsL X.K H xs ds->IsL X.K H xs es->ds=es
 |[],es,[],h,k=>by
  cases es with|nil=>rfl|cons e es=>unfold IsL at k;exact k.elim
 |[],_,_::_,h,_=>by unfold IsL at h;exact h.elim
 |_::_,_,[],h,_=>by unfold IsL at h;exact h.elim
 |d::ds,es,x::xs,h,k=>by unfold IsL at h;obtain⟨e,b,rfl,a,k2⟩:=k.inv;rw[Is.inj I h.1 a,IsL.inj I h.2 k2]
end
theorem ZC{v:V}(h:KF v=_t):eqV v v=true:=by cases v<;>first|rfl|(simp[eqV];done)|cases h
mutual
theorem KL{K:W.Frag}{H:Hp}:∀{d:D}{x:V},Is K H x d->eqD d d=_t
 |.fl v,x,h=>by unfold Is at h;unfold eqD;exact ZC h.2
 |.tup ds,x,h=>by unfold Is at h;obtain⟨_,_,_,_,h2⟩:=h;unfold eqD;exact Hw h2
 |.lst ds,x,h=>by unfold Is at h;obtain⟨_,_,_,_,h2⟩:=h;unfold eqD;exact Hw h2
theorem Hw{K:W.Frag}{H:Hp}:∀{ds:List D}{xs:List V},IsL K H xs ds->zAq ds ds=_t
 |[],_,_=>by unfold zAq;rfl
 |_::_,[],h=>by unfold IsL at h;exact h.elim
 |d::ds,x::xs,h=>by unfold IsL at h;unfold zAq;rw[KL h.1,Hw h.2];rfl
end
theorem CD:∀(xs ys:List D)(e:Nat->Bool),(∀i x y,xs[i]?=_s x->ys[i]?=_s y->e i=eqD x y)->((B2 (min xs.length ys.length)).all e&&xs.length==ys.length)=zAq xs ys
 |[],[],_,_=>by unfold zAq;rfl
 |[],_::_,_,_=>by unfold zAq;simp
 |_::_,[],_,_=>by unfold zAq;simp
 |x::xs,y::ys,e,h=>by
  have c:=CD xs ys (λi=>e (i+1)) λi a b h1 h2=>h (i+1) a b (by simpa using h1) (by simpa using h2);have d:=h 0 x y rfl rfl;unfold zAq;rw[<- c,<- d,D4,D4,Nat.succ_min_succ,Z5,K3,List.all_map];have:((xs.length+1==ys.length+1):Bool)=(xs.length==ys.length):=by simp
  rw[this,Bool.and_assoc];rfl
theorem Gz:∀{ds:List D}{i:Nat}{d:D},ds[i]?=_s d->d.dep<=zAu ds
 |[],_,_,e=>by simp at e
 |d::ds,0,d',e=>by
  have:d=d':=by simpa using e
  subst this;show d.dep<=zAu (d::ds);unfold zAu;exact Nat.le_max_left _ _
 |d::ds,i+1,x,e=>by have:=Gz (ds:=ds) (i:=i) (d:=x) (by simpa using e);unfold zAu;exact A8 this (yn _ _)
section
variable{X:Cx}{pins:List (B8×Obj)}{σ:St}{H:Hp}{s:A7}
def TY(ds es:List D)(i:Nat):Bool:=match ds[i]?,es[i]? with|some a,_s b=>eqD a b|_,_=>_t
theorem FI{ds es:List D}{i:Nat}{a b:D}(h1:ds[i]?=_s a)(h2:es[i]?=_s b):TY ds es i=eqD a b:=by unfold TY;rw[h1,h2]
theorem Az{x:V}(h:KF x=_t):x=.non\/(∃b,x=.bl b)\/(∃i,x=.int i)\/∃z,x=.str z:=by
 cases x with|non=>exact .inl rfl|bl b=>exact .inr (.inl ⟨b,rfl⟩)|int i=>exact .inr (.inr (.inl ⟨i,rfl⟩))|str z=>exact .inr (.inr (.inr ⟨z,rfl⟩))|_=>cases h
theorem ZF(I:Inv X pins σ H s):∀(n:Nat)(A:J3)(d e:D)(x y:V)(u v:_v),d.dep<=n->A.units+n < K0->RelV x u->RelV y v->Is X.K H x d->Is X.K H y e->EqAt A s u v (eqD d e):=by
 intro n;induction n with
 |zero=>
  intro A d e x y u v hd G p k F h;cases d with
  |fl a=>
   unfold Is at F;obtain⟨rfl,fx⟩:=F;cases e with
   |fl b=>unfold Is at h;obtain⟨rfl,R⟩:=h;unfold eqD;exact lK p k fx R
   |tup es=>
    unfold Is at h;obtain⟨b,ys,rfl,h1,h2⟩:=h;cases k;obtain⟨o,r,g,_⟩:=I.tuple h1;unfold eqD;rcases Az fx with rfl|⟨c,rfl⟩|⟨c,rfl⟩|⟨c,rfl⟩
    cases p;exact EqAt.none_tuple g G;cases p;exact EqAt.bool_tuple c g G;obtain⟨t,rfl⟩:=p;exact EqAt.int_tuple c t g G;obtain⟨t,rfl⟩:=p;exact EqAt.str_tuple c t g G
   |lst es=>
    unfold Is at h;obtain⟨b,ys,rfl,h1,h2⟩:=h;cases k;obtain⟨o,r,g,_⟩:=I.list h1;unfold eqD;rcases Az fx with rfl|⟨c,rfl⟩|⟨c,rfl⟩|⟨c,rfl⟩
    cases p;exact EqAt.none_list g.isList G;cases p;exact EqAt.bool_list c g.isList G;obtain⟨t,rfl⟩:=p;exact EqAt.int_list c t g.isList G;obtain⟨t,rfl⟩:=p;exact EqAt.str_list c t g.isList G
  |tup ds=>unfold D.dep at hd;omega
  |lst ds=>unfold D.dep at hd;omega
 |succ n ih=>
  intro A d e x y u v hd G p k F h;have f:A.units < K0:=by omega
  cases d with
  |fl a=>exact ih A (.fl a) e x y u v (by unfold D.dep;omega) `o p k F h
  |tup ds=>
   unfold D.dep at hd;have L:=F;unfold Is at F;obtain⟨a,xs,rfl,h1,h2⟩:=F;cases p;obtain⟨o,r,g,_⟩:=I.tuple h1;cases e with
   |fl b=>
    unfold Is at h;obtain⟨rfl,R⟩:=h;unfold eqD;rcases Az R with rfl|⟨c,rfl⟩|⟨c,rfl⟩|⟨c,rfl⟩
    cases k;exact EqAt.tuple_none g f;cases k;exact EqAt.tuple_bool c g f;obtain⟨t,rfl⟩:=k;exact EqAt.tuple_int c t g f;obtain⟨t,rfl⟩:=k;exact EqAt.tuple_str c t g f
   |tup es=>
    have B:=h;unfold Is at h;obtain⟨b,ys,rfl,J,k2⟩:=h;cases k;obtain⟨m,E,l,_⟩:=I.tuple J;by_cases C:a=b;subst C;rw[Is.inj I L B,KL B];exact EqAt.same _;refine EqAt.of_refs C ?_;have q:=RcAt.tuples (e:=TY ds es) g l f (λj j1 j2=>?_);have M:=CD ds es (TY ds es) λi a b Q P=>FI Q P;rw[B0,B0,<- r.length,<- E.length,h2.length,k2.length,M]at q;unfold eqD;exact q;have z:j < o.length:=by simpa using j1
    have w:j < m.length:=by simpa using j2
    have l1:j < ds.length:=by rw[<- h2.length,r.length];exact z
    have l2:j < es.length:=by rw[<- k2.length,E.length];exact w
    obtain⟨Y,ex,px⟩:=h2.get (i:=j) (A2 l1);obtain⟨W,ey,py⟩:=k2.get (i:=j) (A2 l2);obtain⟨O,S,Z⟩:=r.get ex;obtain⟨N,ev,rv⟩:=E.get ey;rw[FI (A2 l1) (A2 l2)];have U:o.toArray[j]=O:=by rw[A2 z]at S;simpa using C5 S
    have T:m.toArray[j]=N:=by rw[A2 w]at ev;simpa using C5 ev
    rw[U,T];exact ih A.in1 _ _ Y W O N (A8 (Gz (A2 l1)) `o) (by show A.units+1+n < K0;omega) Z rv px py
   |lst es=>unfold Is at h;obtain⟨b,ys,rfl,J,k2⟩:=h;cases k;obtain⟨m,E,l,_⟩:=I.list J;unfold eqD;exact EqAt.tuple_list g l.isList f
  |lst ds=>
   unfold D.dep at hd;have L:=F;unfold Is at F;obtain⟨a,xs,rfl,h1,h2⟩:=F;cases p;obtain⟨o,r,g,_⟩:=I.list h1;cases e with
   |fl b=>
    unfold Is at h;obtain⟨rfl,R⟩:=h;unfold eqD;rcases Az R with rfl|⟨c,rfl⟩|⟨c,rfl⟩|⟨c,rfl⟩
    cases k;exact EqAt.list_none g.isList f;cases k;exact EqAt.list_bool c g.isList f;obtain⟨t,rfl⟩:=k;exact EqAt.list_int c t g.isList f;obtain⟨t,rfl⟩:=k;exact EqAt.list_str c t g.isList f
   |tup es=>unfold Is at h;obtain⟨b,ys,rfl,J,k2⟩:=h;cases k;obtain⟨m,E,l,_⟩:=I.tuple J;unfold eqD;exact EqAt.list_tuple g.isList l f
   |lst es=>
    have B:=h;unfold Is at h;obtain⟨b,ys,rfl,J,k2⟩:=h;cases k;obtain⟨m,E,l,_⟩:=I.list J;by_cases C:a=b;subst C;rw[Is.inj I L B,KL B];exact EqAt.same _;refine EqAt.of_refs C ?_;by_cases hsz:ds.length=es.length;have M:=CD ds es (TY ds es) λi a b Q P=>FI Q P;rw[hsz,yS,beq_self_eq_true,zr]at M;have q:=RcAt.lists (e:=TY ds es) g.isList l.isList (by rw[B0,B0,<- r.length,<- E.length,h2.length,k2.length];exact hsz) f (λj j1 j2=>?_);rw[B0,<- r.length,h2.length,hsz,M]at q;unfold eqD;exact q;have z:j < o.length:=by simpa using j1
    have w:j < m.length:=by simpa using j2
    have l1:j < ds.length:=by rw[<- h2.length,r.length];exact z
    have l2:j < es.length:=by rw[<- k2.length,E.length];exact w
    obtain⟨Y,ex,px⟩:=h2.get (i:=j) (A2 l1);obtain⟨W,ey,py⟩:=k2.get (i:=j) (A2 l2);obtain⟨O,S,Z⟩:=r.get ex;obtain⟨N,ev,rv⟩:=E.get ey;rw[FI (A2 l1) (A2 l2)];have U:o.toArray[j]=O:=by rw[A2 z]at S;simpa using C5 S
    have T:m.toArray[j]=N:=by rw[A2 w]at ev;simpa using C5 ev
    rw[U,T];exact ih A.in1 _ _ Y W O N (A8 (Gz (A2 l1)) `o) (by show A.units+1+n < K0;omega) Z rv px py;have q:=RcAt.lists_lengths (A:=A) g.isList l.isList (by rw[B0,B0,<- r.length,<- E.length,h2.length,k2.length];simpa using hsz) f;have M:=CD ds es (TY ds es) λi a b Q P=>FI Q P;have:(ds.length==es.length)=false:=by simpa using hsz
    rw[this,vH]at M;unfold eqD;rw[<- M];exact q
end
noncomputable def D.seq:D->Bool
 |.fl _=>_f
 |_=>_t
section
variable{X:Cx}{pins:List (B8×Obj)}{σ:St}{H:Hp}{s:A7}
theorem Oi(I:Inv X pins σ H s){n:Nat}{A:J3}{xs ys:List V}{ds es:List D}{b a:List _v}(hd:zAu ds<=n)(w:A.units+1+n < K0)(r:AG xs b)(g:AG ys a)(h2:IsL X.K H xs ds)(k2:IsL X.K H ys es) :
    ∀j (h1:j < b.toArray.size) (h2:j < a.toArray.size),EqAt A.in1 s b.toArray[j] a.toArray[j] (TY ds es j):=λj v u=>by
  have d:j < b.length:=by simpa using v
  have c:j < a.length:=by simpa using u
  have l1:j < ds.length:=by rw[<- h2.length,r.length];exact d
  have l2:j < es.length:=by rw[<- k2.length,g.length];exact c
  obtain⟨o,ex,t⟩:=h2.get (i:=j) (A2 l1);obtain⟨m,ey,q⟩:=k2.get (i:=j) (A2 l2);obtain⟨f,h,p⟩:=r.get ex;obtain⟨e,ev,rv⟩:=g.get ey;rw[FI (A2 l1) (A2 l2)];have l:b.toArray[j]=f:=by rw[A2 d]at h;simpa using C5 h
  have k:a.toArray[j]=e:=by rw[A2 c]at ev;simpa using C5 ev
  rw[l,k];exact ZF I n A.in1 _ _ o m f e (A8 (Gz (A2 l1)) hd) (by show A.units+1+n < K0;exact w) p rv t q
theorem MW(I:Inv X pins σ H s){A:J3}{d e:D}{x y:V}{u v:_v}(G:d.seq=_t)(C:e.seq=_t)(F:A.units+d.dep+1 < K0)(E:RelV x u)(t:RelV y v)(w:Is X.K H x d)(k:Is X.K H y e):RcAt A s u v (eqD d e)/\RcNeAt A s u v (!eqD d e):=by
 have f:A.units < K0:=by omega
 cases d with
 |fl a=>cases G
 |tup ds=>
  unfold D.dep at F;unfold Is at w;obtain⟨a,xs,rfl,h1,h2⟩:=w;cases E;obtain⟨m,r,h,_⟩:=I.tuple h1;cases e with|fl b=>cases C|tup es=>unfold Is at k;obtain⟨b,ys,rfl,l,k2⟩:=k;cases t;obtain⟨g,j,c,_⟩:=I.tuple l;have o:=CD ds es (TY ds es) λi a b B z=>FI B z;have it:=Oi I (A:=A) (n:=zAu ds) (B3 _) `o r j h2 k2;have q:=RcAt.tuples (e:=TY ds es) h c f it;have p:=RcNeAt.tuples (e:=TY ds es) h c f it;rw[B0,B0,<- r.length,<- j.length,h2.length,k2.length,o]at q p;unfold eqD;exact⟨q,p⟩|lst es=>unfold Is at k;obtain⟨b,ys,rfl,l,k2⟩:=k;cases t;obtain⟨g,j,c,_⟩:=I.list l;unfold eqD;exact⟨RcAt.tuple_list h c.isList f,RcNeAt.tuple_list h c.isList f⟩
 |lst ds=>
  unfold D.dep at F;unfold Is at w;obtain⟨a,xs,rfl,h1,h2⟩:=w;cases E;obtain⟨m,r,h,_⟩:=I.list h1;cases e with
  |fl b=>cases C
  |tup es=>unfold Is at k;obtain⟨b,ys,rfl,l,k2⟩:=k;cases t;obtain⟨g,j,c,_⟩:=I.tuple l;unfold eqD;exact⟨RcAt.list_tuple h.isList c f,RcNeAt.list_tuple h.isList c f⟩
  |lst es=>
   unfold Is at k;obtain⟨b,ys,rfl,l,k2⟩:=k;cases t;obtain⟨g,j,c,_⟩:=I.list l;have o:=CD ds es (TY ds es) λi a b B z=>FI B z;unfold eqD;by_cases hsz:ds.length=es.length;rw[hsz,yS,beq_self_eq_true,zr]at o;have it:=Oi I (A:=A) (n:=zAu ds) (B3 _) `o r j h2 k2;have sz:m.toArray.size=g.toArray.size:=by rw[B0,B0,<- r.length,<- j.length,h2.length,k2.length];exact hsz
   have q:=RcAt.lists (e:=TY ds es) h.isList c.isList sz f it;have p:=RcNeAt.lists (e:=TY ds es) h.isList c.isList sz f it;rw[B0,<- r.length,h2.length,hsz,o]at q p;exact⟨q,p⟩;have sz:(m.toArray.size != g.toArray.size)=true:=by rw[B0,B0,<- r.length,<- j.length,h2.length,k2.length];simpa using hsz
   have:(ds.length==es.length)=false:=by simpa using hsz
   rw[this,vH]at o;rw[<- o];exact⟨RcAt.lists_lengths h.isList c.isList sz f,RcNeAt.lists_lengths h.isList c.isList sz f⟩
end
section
variable{X:Cx}{pins:List (B8×Obj)}{σ:L2.St}{H:Hp}{s:A7}
theorem bQ{A:J3}{x y:V}{u v:_v}(e:RelV x u)(b:RelV y v)(fx:KF x=_t)(f:KF y=_t):RcAt A s u v (eqV x y)/\RcNeAt A s u v (!eqV x y):=by
 rcases Az fx with rfl|⟨c,rfl⟩|⟨c,rfl⟩|⟨c,rfl⟩<;>rcases Az f with rfl|⟨d,rfl⟩|⟨d,rfl⟩|⟨d,rfl⟩
 cases e;cases b;exact⟨RcAt.none_none , RcNeAt.none_none ⟩;cases e;cases b;exact⟨RcAt.none_bool d,RcNeAt.none_bool d⟩;cases e;obtain⟨a,rfl⟩:=b;exact⟨RcAt.none_int d a,RcNeAt.none_int d a⟩;cases e;obtain⟨a,rfl⟩:=b;exact⟨RcAt.none_str d a,RcNeAt.none_str d a⟩;cases e;cases b;exact⟨RcAt.bool_none c,RcNeAt.bool_none c⟩;cases e;cases b;exact⟨RcAt.bool_bool c d,RcNeAt.bool_bool c d⟩;cases e;obtain⟨a,rfl⟩:=b;exact⟨RcAt.bool_int c d a,RcNeAt.bool_int c d a⟩;cases e;obtain⟨a,rfl⟩:=b;exact⟨RcAt.bool_str c d a,RcNeAt.bool_str c d a⟩;obtain⟨ct,rfl⟩:=e;cases b;exact⟨RcAt.int_none c ct,RcNeAt.int_none c ct⟩;obtain⟨ct,rfl⟩:=e;cases b;exact⟨RcAt.int_bool c ct d,RcNeAt.int_bool c ct d⟩;obtain⟨ct,rfl⟩:=e;obtain⟨a,rfl⟩:=b;exact⟨RcAt.int_int c ct d a,RcNeAt.int_int c ct d a⟩;obtain⟨ct,rfl⟩:=e;obtain⟨a,rfl⟩:=b;exact⟨RcAt.int_str c ct d a,RcNeAt.int_str c ct d a⟩;obtain⟨ct,rfl⟩:=e;cases b;exact⟨RcAt.str_none c ct,RcNeAt.str_none c ct⟩;obtain⟨ct,rfl⟩:=e;cases b;exact⟨RcAt.str_bool c ct d,RcNeAt.str_bool c ct d⟩;obtain⟨ct,rfl⟩:=e;obtain⟨a,rfl⟩:=b;exact⟨RcAt.str_int c ct d a,RcNeAt.str_int c ct d a⟩;obtain⟨ct,rfl⟩:=e;obtain⟨a,rfl⟩:=b;exact⟨RcAt.str_str c ct d a,RcNeAt.str_str c ct d a⟩
theorem OG(I:Inv X pins σ H s){A:J3}{d e:D}{x y:V}{u v:_v}(o:A.units+d.dep+1 < K0)(i:RelV x u)(h:RelV y v)(k:Is X.K H x d)(j:Is X.K H y e):RcAt A s u v (eqD d e)/\RcNeAt A s u v (!eqD d e):=by
 have g:A.units < K0:=by omega
 cases d with
 |fl a=>
  unfold Is at k;obtain⟨rfl,fx⟩:=k;cases e with
  |fl b=>unfold Is at j;obtain⟨rfl,n⟩:=j;unfold eqD;exact bQ i h fx n
  |tup es=>
   unfold Is at j;obtain⟨b,ys,rfl,m,k2⟩:=j;cases h;obtain⟨l,p,f,_⟩:=I.tuple m;unfold eqD;rcases Az fx with rfl|⟨c,rfl⟩|⟨c,rfl⟩|⟨c,rfl⟩
   cases i;exact⟨RcAt.none_tuple f g,RcNeAt.none_tuple f g⟩;cases i;exact⟨RcAt.bool_tuple c f g,RcNeAt.bool_tuple c f g⟩;obtain⟨t,rfl⟩:=i;exact⟨RcAt.int_tuple c t f g,RcNeAt.int_tuple c t f g⟩;obtain⟨t,rfl⟩:=i;exact⟨RcAt.str_tuple c t f g,RcNeAt.str_tuple c t f g⟩
  |lst es=>
   unfold Is at j;obtain⟨b,ys,rfl,m,k2⟩:=j;cases h;obtain⟨l,p,f,_⟩:=I.list m;unfold eqD;rcases Az fx with rfl|⟨c,rfl⟩|⟨c,rfl⟩|⟨c,rfl⟩
   cases i;exact⟨RcAt.none_list f.isList g,RcNeAt.none_list f.isList g⟩;cases i;exact⟨RcAt.bool_list c f.isList g,RcNeAt.bool_list c f.isList g⟩;obtain⟨t,rfl⟩:=i;exact⟨RcAt.int_list c t f.isList g,RcNeAt.int_list c t f.isList g⟩;obtain⟨t,rfl⟩:=i;exact⟨RcAt.str_list c t f.isList g,RcNeAt.str_list c t f.isList g⟩
 |tup ds=>
  cases e with
  |fl b=>
   unfold Is at k j;obtain⟨q,ys,rfl,m,k2⟩:=k;obtain⟨rfl,n⟩:=j;cases i;obtain⟨l,p,f,_⟩:=I.tuple m;unfold eqD;rcases Az n with rfl|⟨c,rfl⟩|⟨c,rfl⟩|⟨c,rfl⟩
   cases h;exact⟨RcAt.tuple_none f g,RcNeAt.tuple_none f g⟩;cases h;exact⟨RcAt.tuple_bool c f g,RcNeAt.tuple_bool c f g⟩;obtain⟨t,rfl⟩:=h;exact⟨RcAt.tuple_int c t f g,RcNeAt.tuple_int c t f g⟩;obtain⟨t,rfl⟩:=h;exact⟨RcAt.tuple_str c t f g,RcNeAt.tuple_str c t f g⟩
  |tup es=>exact MW I rfl rfl o i h k j
  |lst es=>exact MW I rfl rfl o i h k j
 |lst ds=>
  cases e with
  |fl b=>
   unfold Is at k j;obtain⟨q,ys,rfl,m,k2⟩:=k;obtain⟨rfl,n⟩:=j;cases i;obtain⟨l,p,f,_⟩:=I.list m;unfold eqD;rcases Az n with rfl|⟨c,rfl⟩|⟨c,rfl⟩|⟨c,rfl⟩
   cases h;exact⟨RcAt.list_none f.isList g,RcNeAt.list_none f.isList g⟩;cases h;exact⟨RcAt.list_bool c f.isList g,RcNeAt.list_bool c f.isList g⟩;obtain⟨t,rfl⟩:=h;exact⟨RcAt.list_int c t f.isList g,RcNeAt.list_int c t f.isList g⟩;obtain⟨t,rfl⟩:=h;exact⟨RcAt.list_str c t f.isList g,RcNeAt.list_str c t f.isList g⟩
  |tup es=>exact MW I rfl rfl o i h k j
  |lst es=>exact MW I rfl rfl o i h k j
def zEC(K:W.Frag)(neg:Bool):R2:=λx y H Q=>∃d e,d.dep<=150/\Is K H x d/\Is K H y e/\Q (.bl (if neg then !eqD d e else eqD d e)) H
theorem zEG{j:Nat}(g:zAV j X.A):Dk X (K6 .Eq) (zEC X.K _f):=by intro pins s σ H x y v u Q I b a h;obtain⟨d,e,hd,f,c,q⟩:=h;have:=g.un;exact(OG I `o b a f c).1 X.prog X.w _ _ ⟨.bl _,H,I,rfl,q⟩
theorem zED{j:Nat}(g:zAV j X.A):Dk X (K6 .NotEq) (zEC X.K _t):=by intro pins s σ H x y v u Q I b a h;obtain⟨d,e,hd,f,c,q⟩:=h;have:=g.un;exact(OG I `o b a f c).2 X.prog X.w _ _ ⟨.bl _,H,I,rfl,q⟩
open Classical in
def QE(a:List _v)(ds:List D)(e:D)(u:_v):Bool:=decide (∃(i:Nat)(d:D),a[i]?=_s u/\ds[i]?=_s d/\eqD d e=_t)
open Classical in
theorem RX(I:Inv X pins σ H s){xs:List V}{a:List _v}{ds:List D}(r:AG xs a)(h:IsL X.K H xs ds){e:D}{i:Nat}{u:_v}{d:D}(f:a[i]?=_s u)(hd:ds[i]?=_s d):QE a ds e u=eqD d e:=by
 have b:∀(j:Nat)(d':D),a[j]?=_s u->ds[j]?=_s d'->d'=d:=λj d' h1 h2=>by obtain⟨x,ex,n⟩:=h.get hd;obtain⟨y,ey,c⟩:=h.get h2;obtain⟨p,k,m⟩:=r.get ex;obtain⟨o,g,l⟩:=r.get ey;rw[f]at k;cases k;rw[h1]at g;cases g;rw[l.inj m]at c;exact Is.inj I c n
 unfold QE;cases q:eqD d e with|true=>exact decide_eq_true ⟨i,d,f,hd,q⟩|false=>refine decide_eq_false ?_;rintro⟨j,d',h1,h2,h3⟩;rw[b j d' h1 h2,q]at h3;cases h3
theorem Iz(I:Inv X pins σ H s){xs:List V}{a:List _v}{ds:List D}(r:AG xs a)(h:IsL X.K H xs ds)(e:D):a.any (QE a ds e)=ds.any λd=>eqD d e:=by
 rw[Bool.eq_iff_iff,yo,yo];have hl:a.length=ds.length:=by rw[<- r.length,h.length]
 constructor;rintro⟨u,b,q⟩;obtain⟨i,hi,rfl⟩:=R5 b;have hd:ds[i]?=_s ds[i]:=A2 `o;rw[RX I r h (A2 hi) hd]at q;exact⟨_,K1 hd,q⟩;rintro⟨d,hd,q⟩;obtain⟨i,hi,rfl⟩:=R5 hd;have b:a[i]?=_s a[i]:=A2 `o;exact⟨_,K1 b,by rw[RX I r h b (A2 hi)];exact q⟩
theorem JA(I:Inv X pins σ H s){A:J3}{xs:List V}{a:List _v}{ds:List D}(r:AG xs a)(h:IsL X.K H xs ds){e:D}{y:V}{v:_v}(d:RelV y v)(j:Is X.K H y e)(hd:zAu ds<=150)(l:A.units+150 < K0):∀w∈a,EqAt A s w v (QE a ds e w):=λw k=>by
 obtain⟨i,hi,rfl⟩:=R5 k;have hl:a.length=ds.length:=by rw[<- r.length,h.length]
 have b:ds[i]?=_s ds[i]:=A2 `o;rw[RX I r h (A2 hi) b];obtain⟨x,ex,g⟩:=h.get b;obtain⟨m,c,f⟩:=r.get ex;rw[A2 hi]at c;cases c;exact ZF I 150 A _ _ x y _ _ (A8 (Gz b) hd) l f d g j
def zDS(K:W.Frag)(neg:Bool):R2:=λx y H Q=>∃p ys ds e,y=.ref p/\(Dl K H p ys\/Fo K H p ys)/\IsL K H ys ds/\Is K H x e/\zAu ds<=150/\Q (.bl (if neg then !(ds.any λd=>eqD d e)else ds.any λd=>eqD d e)) H
theorem zEF{j:Nat}(k:zAV j X.A):Dk X (K6 .In) (zDS X.K _f):=by
 intro pins s σ H x y v u Q I d i h;obtain⟨p,ys,ds,e,rfl,b,hl,f,hd,q⟩:=h;have g:X.A.units+1+150 < K0:=by have:=k.un;omega
 cases i;rcases b with b|b
 obtain⟨a,r,pl,hz⟩:=I.list b;refine SeqAt.in_listAt (QE a ds e) pl.isList (λw c=>JA I r hl d f hd g w (by simpa using c)) ⟨.bl _,H,I,rfl,?_⟩;rw[show a.toArray.any (QE a ds e)=a.any (QE a ds e) by simp,Iz I r hl];exact q;obtain⟨a,r,pl,hz⟩:=I.tuple b;refine SeqAt.in_tupleAt (QE a ds e) pl (λw c=>JA I r hl d f hd g w (by simpa using c)) ⟨.bl _,H,I,rfl,?_⟩;rw[show a.toArray.any (QE a ds e)=a.any (QE a ds e) by simp,Iz I r hl];exact q
theorem zCl{j:Nat}(k:zAV j X.A):Dk X (K6 .NotIn) (zDS X.K _t):=by
 intro pins s σ H x y v u Q I d i h;obtain⟨p,ys,ds,e,rfl,b,hl,f,hd,q⟩:=h;have g:X.A.units+1+150 < K0:=by have:=k.un;omega
 cases i;rcases b with b|b
 obtain⟨a,r,pl,hz⟩:=I.list b;refine SeqAt.notIn_listAt (QE a ds e) pl.isList (λw c=>JA I r hl d f hd g w (by simpa using c)) ⟨.bl _,H,I,rfl,?_⟩;rw[show a.toArray.any (QE a ds e)=a.any (QE a ds e) by simp,Iz I r hl];exact q;obtain⟨a,r,pl,hz⟩:=I.tuple b;refine SeqAt.notIn_tupleAt (QE a ds e) pl (λw c=>JA I r hl d f hd g w (by simpa using c)) ⟨.bl _,H,I,rfl,?_⟩;rw[show a.toArray.any (QE a ds e)=a.any (QE a ds e) by simp,Iz I r hl];exact q
end
end L3
namespace Q
open PySem L2
section
variable{K:W.Frag}{g:G}{H:Hp}
def zDR(x l:List Nat):Bool:=!(Q4 (tx l) (tx x) 0 (tx l).length 1).isEmpty
def jA(neg:Bool):R2:=λx y H Q=>∃i j,x=.str i/\y=.str j/\Q (.bl (if neg then !(!(Q4 j i 0 j.length 1).isEmpty)else !(Q4 j i 0 j.length 1).isEmpty)) H
def zEB(K:W.Frag)(neg:Bool):R2:=λx y H Q=>jA neg x y H Q\/L3.zDS K neg x y H Q
noncomputable def mxI:List Int->Int
 |[]=>0
 |[a]=>a
 |a::r=>max a (mxI r)
theorem zBa:∀(ns:List Int),ns≠[]->mxI ns∈ns/\∀a∈ns,a<=mxI ns
 |[],h=>absurd rfl h
 |[a],_=>by simp[mxI]
 |a::b::r,_=>by
  obtain⟨h1,h2⟩:=zBa (b::r) `s;show max a (mxI (b::r))∈_/\∀c∈a::b::r,c<=max a (mxI (b::r));constructor;rcases Int.le_total a (mxI (b::r))with h|h
  rw[wD h];exact A9 _ h1;rw[Int.max_eq_left h];exact B1;intro c d;rcases D3.mp d with rfl|d
  exact Int.le_max_left _ _;exact Int.le_trans (h2 c d) (Int.le_max_right _ _)
end
variable{X:Cx}
theorem jw:Dk X (K6 .In) (jA _f):=UW
theorem UV:Dk X (K6 .NotIn) (jA _t):=Mg
theorem zEE{j:Nat}(a:zAV j X.A):Dk X (K6 .In) (zEB X.K _f):=jw.or (L3.zEF a)
theorem zCk{j:Nat}(a:zAV j X.A):Dk X (K6 .NotIn) (zEB X.K _t):=UV.or (L3.zCl a)
end Q
namespace L2
open PySem PySem.Spec PyProof.Rows
noncomputable def cT(ifs:List Expr)(env:Env):Sem Bool:=forIn ifs _t λc r=>if r=_t then do let ok <- isTrue c env (N2 c env);pure (ForInStep.yield ok)else pure (ForInStep.yield r)
def gy(X:Cx)(ifs:List Expr)(t:TT):Prop:=
 ∀(pins:List (B8×Obj))(s:A7)(σ:St)(H:Hp)(Q:Bool->Hp->Prop),Inv X pins σ H s->t σ H Q->C8 (D9 X.prog X.w) X.A (cT ifs X.env) (TP X pins σ Q) X.xe s
theorem gy.one{X:Cx}{c:Expr}{t:TT}(h:PT X c t):gy X [c] t:=λpins s σ H Q I q=>wpAny_tests_one (h pins s σ H Q I q)
theorem NJ{prog:F9}{w:J5}{A:J3}{R:zy->A7->Prop}{s:A7}{d a iter:Expr}{ifs:List Expr}{scope:O0}{pos:Pos}{it f:_v}{env:Env}(I:Nat->A7->Prop)
    (o:∀n s,I n s->C8 (D9 prog w) A (wQ it) (λr c=>match r with
      |none=>R (.ok .next) c
      |some v=>C8 (D9 prog w) A (m9 a it v) (λ_ k=>C8 (D9 prog w) A (Y8 a env v) (λ_ l=>C8 (D9 prog w) A (cT ifs env) (λok b=>if ok=_t then C8 (D9 prog w) A (N2 d env) (λx i=>C8 (D9 prog w) A (call (.builtin "list.append") [f,x]) (λ_ j=>∃m,m < n/\I m j) (λ_ _=>False) i) (λ_ _=>False) b else ∃m,m < n/\I m b) (λ_ _=>False) l) (λ_ _=>False) k) (λ_ _=>False) c) (λ_ _=>False) s)
    (n:Nat) (h:I n s) :
    p9 (D9 prog w) A (.compLoop (.ListComp d [⟨a,iter,ifs,0⟩] scope pos) 0 it f env) R s:=by
  refine codeAny_loop rfl I (λn s hI=>?_) n h;show C8 _ _ ((compTurn (.ListComp d [⟨a,iter,ifs,0⟩] scope pos) 0 it f env).onRaise (λx=>do noteFrame x env;theTreesLotGoes x)) _ _ s;refine wpAny_noted ?_;rw[compTurn_list];have no:∀{E:_v->A7->Prop},∀(e:_v)(s:A7),False->E e s:=λ_ _ z=>z.elim;refine A1 (k4 (A1 (R0 (o n s hI) (λr c h₁=>?_) no)));cases r with
  |none=>exact A6 h₁
  |some v=>
    refine A1 (R0 h₁ (λ_ k t=>?_) no);refine A1 (R0 t (λ_ l u=>A1 (R0 u (λok b g=>?_) no)) no);cases ok with|false=>exact A6 ⟨rfl,g⟩|true=>exact A1 (A1 (R0 g (λx i p=>A1 (R0 p (λ_ j q=>A6 (A6 ⟨rfl,q⟩)) no)) no))
section
variable{X:Cx}{tg iter elt:Expr}{ifs:List Expr}{scope:O0}{pos:Pos}{g:TG}{te:TE}{tc:TT}{js:List Nat}{wi:TI}
def Rv(js:List Nat)(g:TG)(tc:TT)(te:TE)(J:It)(σ:St)(Fin:List V->Hp->Prop)(W:Nat->Nat->List V->Hp->Prop):Prop:=∀i m ys H,W i m ys H ->
 (J.stop i H/\Fin ys H)\/(J.go i H/\ys.length < sizeLine/\∃N:List V->Hp->Prop,(∀zs H',N zs H'->∃m',m' < m/\W (i+1) m' zs H')/\∀x H',J.yld i H x H'->g x (blank js σ) H' λa e=>tc a e λb c=>if b=_t then te a c λv d=>N (ys++[v]) d else N ys c)
theorem IS{pins:List (B8×Obj)}{s2:A7}{σ:St}{j:Hp}{it:B8}{fp:List B8}{tn:Nat->K4->Prop}{J:It}{cl:List (Str×B8)}{W:Nat->Nat->List V->Hp->Prop}{Fin:List V->Hp->Prop}{E:_v->A7->Prop}{RR:_v->B8->zy->A7->Prop}
    (hin:zBC X.N X.env.scope scope js) (hc:X.calm=_t) (hg:∀cl C s H fp,PG (X.inner scope cl C s H fp) tg g) (hgo:GOk js g) (hcn:∀cl C s H fp,gy (X.inner scope cl C s H fp) ifs tc) (he:∀cl C s H fp,PE (X.inner scope cl C s H fp) elt te)
    (I2:Inv X pins σ j s2) (T:Turn X.prog X.w X.K tg J fp it tn) (t0:tn 0 s2.heap) (hf:∀b∈fp,zAS X pins j b)
    (hcl:∀x c,cl.lookup x=_s c->X.env.cells.lookup x=_s c) (hfr:∀x,scope.names.lookup x=_s .free->∃c,cl.lookup x=_s c)
    {m0:Nat} (w0:W 0 m0 [] j) (turn:Rv js g tc te J σ Fin W)
    (hRR:∀D C s' H' ys m,Inv X pins σ (upd H' D (.lst ys)) s'->H' D=_n->Fin ys H'->s'.heap.Ns C m->C≠X.env.locals->X.zAZ.heap.objs.size<=C->(∀x c,X.env.cells.lookup x=_s c->c≠C)->(∀p∈X.pn++pins,p.1≠C)->H' C=_n->D≠C->RR (.ref D) C (.ok .next) s') :
    C8 (D9 X.prog X.w) X.A (newList []) (λacc O=>C8 (D9 X.prog X.w) X.A (xI scope X.env.globals cl [] X.env.qual _n .none (_s X.env)) (λzFK zCu =>
      p9 (D9 X.prog X.w) X.A (.compStart (.ListComp elt [⟨tg,iter,ifs,0⟩] scope pos) 0 (.ref it) acc {zFK with scope:=relabel scope X.env}) (RR acc zFK.locals) zCu) E O) E s2:=by
  have Q:∀b∈fp,b < s2.heap.objs.size:=λb hb=>let ⟨_,e,_⟩:=T.obj _ _ t0 b hb;D5 e
  refine J4 (Ci ?_);dsimp only
  generalize hHH:s2.heap.push {cls:=.type "list", dict:=_n,data:=.seq ([]:List _v).toArray}=U;have hC:U.objs.size=s2.heap.objs.size+1:=by rw[<- hHH,M9]
  have hDC:s2.heap.objs.size≠U.objs.size:=by rw[hC];exact E5 (i8 _)
  have zEW:s2.heap.objs.size<=U.objs.size:=by rw[hC];exact U6 _
  have below:∀b,b < s2.heap.objs.size->b≠U.objs.size/\b≠s2.heap.objs.size:=λb hb=>⟨by rw[hC];exact E5 (va hb),E5 hb⟩;obtain⟨h₁,M⟩:∃h₁,zu (U.push {cls:=.type "dict", data:=.dict #[]}) scope.names=h₁:=⟨_,rfl⟩;have old:∀b o,s2.heap.get? b=_s o->h₁.get? b=_s o:=λb o e=>M▸wq _ _ b o (A5 _ (hHH▸A5 _ e));have zDY:h₁.get? s2.heap.objs.size=_s {cls:=.type "list", data:=.seq ([]:List _v).toArray 0}:=M▸wq _ _ _ _ (A5 _ (hHH▸C9 _ rfl));have zES:h₁.Ns U.objs.size (λ_=>_n):=M▸(Heap.Ns.new U (.type "dict")).keeps (wq _ _);obtain⟨L,zDE⟩:=da (s:=s2) (C:=U.objs.size) hin hcl hfr (h:=U.push {cls:=.type "dict", data:=.dict #[]}) zEW (M9 ..);rw[M]at zDE ⊢;generalize hcc:N5 (U.objs.size+1) scope.names cl=f at L zDE ⊢;clear M hcc;generalize hDD:s2.heap.objs.size=D at *;generalize hCC:U.objs.size=C at *;have G:s2.heap.objs.size<=D:=yG hDD;have I:s2.heap.objs.size<=C:=by rw[hDD];exact zEW
  have zCR:∀(d:List _v)(n:Nat) v,({cls:=.type "list", data:=.seq d.toArray n}:Obj).data≠.cell v:=λ_ _ _ z=>by cases z
  have I4:Inv (X.inner scope f C s2 j fp) (pins++[(D,{cls:=.type "list", data:=.seq ([]:List _v).toArray 0})]) (blank js σ) j {s2 with heap:=h₁,toks:=s2.toks}:=
    I2.enter hin hf (by rw[hDD];exact Q) I G hDC L zDE old zES zDY (zCR _ _)
  have zCP:∀{H':Hp}{o:Obj},(∀b∈fp,H' b=_n)->∀b∈fp,zAS (X.inner scope f C s2 j fp) (pins++[(D,o)]) H' b:=fun{H' o} hn b hb=>by
    obtain⟨_,f1,f2,f3,f4,f5⟩:=hf b hb;refine⟨hn b hb,(below b (Q b hb)).1,λz=>?_,.inl hb,λx c e=>L.ne e (by rw[hDD];exact Q b hb) f4,λp B=>?_⟩;rcases D3.mp (I2.zBG b z)with e|e
    exact f1 e;exact f2 e;have hp':p∈X.pn++(pins++[(D,o)]):=B;rw[<- G9]at hp';rcases C0.mp hp' with z|z
    exact f5 p z;have e:p=(D,o):=by simpa using z
    subst e;exact λz=>(below b (Q b hb)).2 z.symm
  have loop:∀O:A7,O={s2 with heap:=h₁,toks:=s2.toks} ->
      p9 (D9 X.prog X.w) X.A (.compLoop (.ListComp elt [⟨tg,iter,ifs,0⟩] scope pos) 0 (.ref it) (.ref D) (compEnvC scope f C X.env)) (RR (.ref D) C) O:=by
    rintro O rfl;refine NJ (λn s'=>∃i ys d k H',Inv (X.inner scope f C s2 j fp) (pins++[(D,{cls:=.type "list", data:=.seq d.toArray k})]) (blank js σ) H' s'/\tn i s'.heap/\(∀b∈fp,H' b=_n)/\AG ys d/\ys.length<=sizeLine/\W i n ys H') ?_ m0
      ⟨0,[],[],0,j,I4,T.keep _ _ _ t0 λb hb o e=>old b o e,λb hb=>(hf b hb).1,.nil,H8 _,w0⟩
    rintro n s3 ⟨i,ys,d,k,H3,I3,st3,fr3,hv3,hz3,w3⟩;rcases turn i n ys H3 w3 with⟨stop,fin⟩|⟨go,hlt,N,hN,step⟩
    refine BM (T.done (X.inner scope f C s2 j fp) rfl rfl rfl hc i _ s3 _ H3 _ I3 (zCP fr3) st3 stop) λr s4 ⟨hr,I4⟩=>?_;subst hr;have pD:=I4.pin (D,{cls:=.type "list", data:=.seq d.toArray k}) (B9 _ (B9 _ B1));obtain⟨m,hn,_⟩:=id I4.loc;refine hRR D C s4 H3 ys m (I2.leave (fp:=fp) hf rfl I4 G pD.2.1 hz3 hv3 pD.1) pD.2.1 fin hn ?_ ?_ (λx c e=>?_) (λp B=>?_) I4.free hDC;exact wO (C6 I2.lt I);exact A8 I2.sz I;exact E5 (C6 (I2.zBz e) I);exact E5 (C6 (I2.zDl B) I);refine BM (T.item (X.inner scope f C s2 j fp) rfl rfl rfl hc i _ s3 _ H3 _ I3 (zCP fr3) st3 go) λr s4 ⟨u,hr,h4⟩=>?_;subst hr;refine BM h4 λ_ s5 ⟨x,H5,I5,r5,y5,P,fr5⟩=>?_;have I5':=I5.pinned (zCP fr5) (T.obj _ _ P);refine BM (hg f C s2 j fp _ s5 _ H5 x u _ I5' r5 (hgo _ _ _ _ (step x H5 y5))) λ_ s6 ⟨Z,H6,I6,⟨hl6,hs6⟩,q6⟩=>?_;refine BM (hcn f C s2 j fp _ s6 Z H6 _ I6 q6) λok s6b ⟨Y,S,q6b⟩=>?_;have t:∀(l:A7)(v:_v)(b:B8)(u:Obj),b≠D->l.heap.get? b=_s u->(l.heap.update D (L5 λa=>a.push v)).get? b=_s u:=λl v b u hb hu=>(U8 l.heap (L5 λa=>a.push v) (Ne.symm hb)).trans hu;cases ok with
    |false=>
      obtain⟨m',hm,w7⟩:=hN _ _ q6b;have pD:=S.pin (D,{cls:=.type "list", data:=.seq d.toArray k}) (B9 _ (C7 _ (B9 _ B1)));have R:∀b∈fp,∀o,s5.heap.get? b=_s o->s6b.heap.get? b=_s o/\Y b=none:=λb hb o e =>
        let z:=S.pin (b,o) (B9 _ (B9 _ (Eb hb e)));⟨z.1,z.2.1⟩
      have I8:Inv (X.inner scope f C s2 j fp) pins (blank js σ) Y s6b:=by
        have Ia:Inv (X.inner scope f C s2 j fp) pins Z Y s6b:=S.zAp λp B=>S.pin p (B9 _ (C7 _ (C7 _ B)));exact Ia.weak hl6.symm λi v e=>by obtain⟨hj,_⟩:=IC js σ i v e;rw[hs6 i hj];exact e
      refine⟨m',hm,i+1,ys,d,k,Y,I8.zAp (λp B=>?_),T.keep _ _ _ P λb hb o e=>(R b hb o e).1,λb hb=>?_,hv3,hz3,w7⟩;rcases C0.mp B with z|z
      exact I8.pin p (B9 _ z);have e:p=(D,_):=C4.mp z;subst e;exact⟨pD.1,pD.2.1,pD.2.2.1,pD.2.2.2.1,zCR _ _⟩;obtain⟨o,e,_⟩:=T.obj _ _ P b hb;exact(R b hb o e).2
    |true=>
    refine BM (he f C s2 j fp _ s6b Z Y _ S q6b) λv l ⟨y,H7,I7,r7,n7⟩=>?_;obtain⟨m',hm,w7⟩:=hN _ _ n7;have pD:=I7.pin (D,{cls:=.type "list", data:=.seq d.toArray k}) (B9 _ (C7 _ (B9 _ B1)));have lt:d.toArray.size<=sizeLine:=by rw[B0,<- hv3.length];exact hz3
    refine call_meets F.slot_list_append ⟨_,pD.1,rfl⟩ F.entry_list_append (F.args_list_append_2 _ _) (yM D d.toArray k v lt) ⟨pD.1,?_⟩;obtain⟨k',q⟩:∃k',(l.heap.update D (L5 λa=>a.push v)).get? D=_s {cls:=.type "list", data:=.seq (d.toArray.push v) k' }:=⟨_,yj pD.1 (λa=>a.push v)⟩;have eq:(d.toArray.push v)=(d++[v]).toArray:=by simp
    have R:∀b∈fp,∀o,s5.heap.get? b=_s o->l.heap.get? b=_s o/\H7 b=none:=λb hb o e =>
      let z:=I7.pin (b,o) (B9 _ (B9 _ (Eb hb e)));⟨z.1,z.2.1⟩
    have t:∀b u,b≠D->l.heap.get? b=_s u->(l.heap.update D (L5 λa=>a.push v)).get? b=_s u:=λb u hb hu=>(U8 l.heap (L5 λa=>a.push v) (Ne.symm hb)).trans hu;have I8:Inv (X.inner scope f C s2 j fp) pins (blank js σ) H7 {l with heap:=l.heap.update D (L5 λa=>a.push v),toks:=l.toks}:=by
      have Ia:Inv (X.inner scope f C s2 j fp) pins Z H7 l:=I7.zAp λp B=>I7.pin p (B9 _ (C7 _ (C7 _ B)));have Ib:Inv (X.inner scope f C s2 j fp) pins (blank js σ) H7 l:=Ia.weak hl6.symm λi v e=>by obtain⟨hj,_⟩:=IC js σ i v e;rw[hs6 i hj];exact e
      refine Ib.turned (it:=D) (λb o hb e=>t b o hb e) pD.2.1 pD.2.2.1 (.inr G) (λx c e=>?_) (λp B=>?_);cases q:AR scope x with|false=>exact E5 (C6 (I2.zBz (L.old x c e q)) G)|true=>exact wO (vJ zEW (L.own x c e q).2)
      exact E5 (C6 (I2.zDl B) G)
    refine⟨m',hm,i+1,ys++[y],d++[v],k',H7,I8.zAp (λp B=>?_),T.keep _ _ _ P λb hb o e=>t b o (below b (Q b hb)).2 (R b hb o e).1,λb hb=>?_,hv3.append (.cons r7 .nil),by rw[B5,D6];omega,w7⟩;rcases C0.mp B with z|z
    exact I8.pin p (B9 _ z);have e:p=(D,_):=C4.mp z;subst e;rw[<- eq];exact⟨q,pD.2.1,pD.2.2.1,pD.2.2.2.1,zCR _ _⟩;obtain⟨o,e,_⟩:=T.obj _ _ P b hb;exact(R b hb o e).2
  exact codeAny_compStart_list (loop _ rfl) (T.self _ 0 _ _ _ (T.keep _ _ _ t0 λb hb o e=>old b o e) (loop _ rfl))
def JN(wi:TI)(js:List Nat)(g:TG)(tc:TT)(te:TE):TE:=λσ H Q=>wi σ H λJ a=>∃W:Nat->Nat->List V->Hp->Prop,(∃m,W 0 m [] a)/\Rv js g tc te J σ (λys H=>∀p,H p=_n->Q (.ref p) (upd H p (.lst ys))) W
theorem OR(a:zAd X.N X.env.scope scope js=_t)(z:X.calm=_t)(hi:PI X tg iter wi)(y:∀cl C s H fp,PG (X.inner scope cl C s H fp) tg g)(i:GOk js g)(k:∀cl C s H fp,gy (X.inner scope cl C s H fp) ifs tc)(he:∀cl C s H fp,PE (X.inner scope cl C s H fp) elt te)
    (hs:∀x,Q3 iter X.env x=pure x:=by intro _;rfl):PE X (.ListComp elt [⟨tg,iter,ifs,0⟩] scope pos) (JN wi js g tc te):=by
  intro pins s σ H Q I h;have a:=Jz a;obtain⟨cl,d,l,j⟩:=Ka (scope:=scope) (env:=X.env) (λx t=>I.ok.has x (a.fr x t)) a.zDd;rw[eval_ListComp];refine vm (use:=_n) rfl hs d a.kind a.zDc ?_;refine BM (hi pins s σ H _ I h) λv s1 h1=>BM h1 λr s2 h2=>?_;obtain⟨it,fp,tn,J,S,e,O,T,f,f2,W,⟨R,p⟩,c⟩:=h2;subst e;refine IS (RR:=λn C=>compPost (D9 X.prog X.w) X.A X.xe _n (EP X pins σ Q) n C) a z y i k he O T f f2 l j p c ?_;intro D C s' H' ys m P B fin u M L K G F E;refine⟨m,u,λh' q=>⟨.ref D,_,P.turned (t':=s'.toks) (it:=C) (λb o hb e=>(q.2 b hb).trans e) ?_ M (.inr L) K G,rfl,fin D B⟩⟩;rw[AD (Ne.symm E)];exact F
theorem OO{i:Nat}{x:Str}{c f:Pos}(Z:X.N.Nodup)(t:X.N[i]?=_s x)(q:Loc X.env.scope x)
    (d:zAd X.N X.env.scope scope js=_t) (Y:X.calm=_t) (hi:PI X tg iter wi) (V:∀cl C s H fp,PG (X.inner scope cl C s H fp) tg g) (u:GOk js g) (B:∀cl C s H fp,gy (X.inner scope cl C s H fp) ifs tc) (he:∀cl C s H fp,PE (X.inner scope cl C s H fp) elt te)
    (r:U3 (.ListComp elt [⟨tg,iter,ifs,0⟩] scope pos) (_s (.Name x c)) f.line X.env=pure true:=by rfl)
    (hs:∀x,Q3 iter X.env x=pure x:=by intro _;rfl)
    (hf:X.fn x=_t\/X.env.scope.names.lookup x=_s .local:=by first|exact .inl rfl|exact .inr rfl|assumption) :
    PS X (.Assign [.Name x c] (.ListComp elt [⟨tg,iter,ifs,0⟩] scope pos) f) (Kk (JN wi js g tc te) (DY i)):=by
  intro pins s σ H D I h;have d:=Jz d;obtain⟨cl,k,E,y⟩:=Ka (scope:=scope) (env:=X.env) (λx q=>I.ok.has x (d.fr x q)) d.zDd;rw[exec_Assign_Name_used _ _ _ _ r];refine A1 (k4 (A1 ?_));show C8 _ _ (do let _ <- comprehension (.ListComp elt [⟨tg,iter,ifs,0⟩] scope pos) scope X.env _ (newList []) _f (N2 iter X.env) (_s (Y8 (.Name x c) X.env))) _ _ s;refine A1 (BM (vm (use:=_s (Y8 (.Name x c) X.env)) (Q:=λ_ s'=>SP X pins D .next s') rfl hs k d.kind d.zDc ?_) (λ_ s' S=>A6 (A6 S)));refine BM (hi pins s σ H _ I h) λv s1 h1=>BM h1 λR s2 h2=>?_;obtain⟨it,fp,tn,J,H2,e,I2,T,l,f2,W,⟨m0,O⟩,j⟩:=h2;subst e;refine IS (RR:=λF C=>compPost (D9 X.prog X.w) X.A X.xe (_s (Y8 (.Name x c) X.env)) (λ_ s'=>SP X pins D .next s') F C) d Y V u B he I2 T l f2 E y O j ?_;intro K C s' H' ys m I' hD fin U M c2 L c4 c5 c6;show C8 _ _ (Y8 (.Name x c) X.env (.ref K)) _ _ _;refine yD (LH (v:=.ref K) I' Z t q rfl (λp G ⟨a,P,ha⟩=>?_) hf);have ne:C≠a:=by
    rcases ha with z|z
    rw[z];exact M;exact(L x a z).symm
  refine⟨m,U.sameBut P ne,λh' n=>⟨_,_,G.turned (t':=p.toks) (it:=C) (λb o hb e=>(n.2 b hb).trans e) ?_ M (.inr c2) L c4,fin K hD⟩⟩;rw[AD (Ne.symm c6)];exact c5
end
end L2
namespace R
open PySem L2
section
variable{γ:Type}
noncomputable def Ce(g:Dv->γ->Option (Dv×γ)):List Dv->γ->Option (List Dv×γ)
 |[],c=>_s ([],c)
 |x::xs,c=>(g x c).bind λp=>(Ce g xs p.2).bind λq=>_s (p.1::q.1,q.2)
noncomputable def BD(g:Dv->Option Dv):List Dv->Option (List Dv)
 |[]=>_s []
 |x::xs=>(g x).bind λp=>(BD g xs).bind λq=>_s (p::q)
noncomputable def Od(g:Dv->Option (Option Dv)):List Dv->Option (List Dv)
 |[]=>_s []
 |x::xs=>(g x).bind λp=>(Od g xs).bind λq=>_s (match p with|some d=>d::q|none=>q)
noncomputable def Gv{a:Type}(xs:List Dv)(o:Option a):Option a:=if xs.length<=1000000 then o else _n
end
theorem KG{b:Type}{xs:List Dv}{o:Option b}{a:b}(h:Gv xs o=_s a):xs.length<=1000000/\o=_s a:=by unfold Gv at h;split at h;rename_i z;exact⟨z,h⟩;cases h
section
variable{K:W.Frag}{g g':G}{H H':Hp}{Γ:Gm}{m:M}{σ:St}{P:Fp}
theorem Rel.sub{Γ':Gm}{σ':St}(h:Rel K g H Γ m σ P)(hl:Γ'.length=Γ.length)(hs:σ'.length=σ.length)(k:∀(i o:Nat),Γ'[i]?=_s (_s o)->Γ[i]?=_s (_s o)/\σ'[i]?=σ[i]?):∃P',Rel K g H Γ' m σ' P'/\∀a,P' a->P a:=by obtain⟨zd,F,h1,h4⟩:=h;refine⟨λa=>∃i,(∃o,Γ'[i]?=_s (_s o))/\F i a,⟨zd,λi a=>(∃o,Γ'[i]?=_s (_s o))/\F i a,⟨by rw[hl];exact h1.l1,by rw[hs,hl];exact h1.l2,λi o e=>?_,λi e a q=>q.1.elim λo z=>e o z,λi j n a q z=>h1.dj i j n a q.2 z.2⟩,λ_=>q9⟩,λa ⟨i,_,q⟩=>(h4 a).mpr ⟨i,q⟩⟩;obtain⟨f,es⟩:=k i o e;obtain⟨d,v,c,b,r⟩:=h1.rep i o f;have eq:(λa=>(∃o,Γ'[i]?=_s (_s o))/\F i a)=F i:=funext λa=>propext ⟨λz=>z.2,λz=>⟨⟨o,e⟩,z⟩⟩;exact⟨d,v,c,by rw[es];exact b,by show Rep K g H o d v λa=>(∃o,Γ'[i]?=_s (_s o))/\F i a;rw[eq];exact r⟩
theorem Rel.more{Γ':Gm}{σ':St}(h:Rel K g H Γ m σ P)(hl:Γ'.length=Γ.length)(hs:σ'.length=σ.length)(k:∀(i o:Nat),Γ'[i]?=_s (_s o)->(Γ[i]?=_s (_s o)/\σ'[i]?=σ[i]?)\/(o=0/\∃d v,m[i]?=_s d/\σ'[i]?=_s (_s v)/\Rep K g H 0 d v nop)):∃P',Rel K g H Γ' m σ' P'/\∀a,P' a->P a:=by
 obtain⟨zd,F,h1,h4⟩:=h
 let C:Nat->Prop:=λi=>∃o,Γ'[i]?=_s (_s o)/\Γ[i]?=_s (_s o)/\σ'[i]?=σ[i]?
 refine⟨λa=>∃i,C i/\F i a,⟨zd,λi a=>C i/\F i a,⟨by rw[hl];exact h1.l1,by rw[hs,hl];exact h1.l2,λi o e=>?_,λi e a q=>q.1.elim λo z=>e o z.1,λi j n a q z=>h1.dj i j n a q.2 z.2⟩,λ_=>q9⟩,λa ⟨i,_,q⟩=>(h4 a).mpr ⟨i,q⟩⟩;by_cases c:C i;obtain⟨o',f,b,l⟩:=c;rw[e]at f;cases f;obtain⟨d,v,s,p,r⟩:=h1.rep i o b;have eq:(λa=>C i/\F i a)=F i:=funext λa=>propext ⟨λz=>z.2,λz=>⟨⟨o,e,b,l⟩,z⟩⟩;exact⟨d,v,s,by rw[l];exact p,by show Rep K g H o d v λa=>C i/\F i a;rw[eq];exact r⟩;have eq:(λa=>C i/\F i a)=nop:=Fh λa z=>c z.1;rcases k i o e with z|⟨rfl,d,v,f,b,r⟩
 exact(c ⟨o,e,z⟩).elim;exact⟨d,v,f,b,by show Rep K g H 0 d v λa=>C i/\F i a;rw[eq];exact r⟩
end
def QF(js:List Nat)(Γ:Gm):Gm:=(B2 Γ.length).map λi=>if js.contains i then _n else Γ.getD i _n
def QZ(js:List Nat)(a Γ:Gm):Gm:=(B2 Γ.length).map λi=>if js.contains i then(if a.getD i _n==_s 0 then _s 0 else _n)else Γ.getD i _n
theorem Fe{a:Type}{n i:Nat}{f:Nat->a}{x:a}(h:((B2 n).map f)[i]?=_s x):i < n/\x=f i:=by rw[D0]at h;by_cases z:i < n;rw[O3 z]at h;exact⟨z,(C5 h).symm⟩;rw[List.getElem?_eq_none_iff.mpr (by simpa using z)]at h;cases h
theorem BF{Γ:Gm}{i o:Nat}(h:Γ.getD i _n=_s o):Γ[i]?=_s (_s o):=by
 rw[D7]at h;cases e:Γ[i]? with|none=>rw[e]at h;cases h|some x=>rw[e]at h;exact congrArg _s h
theorem Eg{js:List Nat}{Γ:Gm}{i o:Nat}(h:(QF js Γ)[i]?=_s (_s o)):i∉js/\Γ[i]?=_s (_s o):=by obtain⟨_,e⟩:=Fe h;split at e;cases e;rename_i z;exact⟨λq=>z (D1.mpr q),BF e.symm⟩
theorem MA(js:List Nat):∀(σ:St)(i:Nat),i∉js->(L2.blank js σ)[i]?=σ[i]?:=by
 induction js with|nil=>intro σ i _;rfl|cons j js a=>intro σ i h;show(L2.blank js (σ.set j _n))[i]?=_;rw[a _ i λz=>h (A9 _ z),E4 λz=>h (by rw[<- z];exact B1)]
theorem KY{K:W.Frag}{l Γl Γt S Γf:Gm}{u U jc jf J:List Nat}{g:TG}{ft:Tg}{c:Ev Bool}{f:Ev Dv}(ht:Pu K Γl Γt U g ft)(L:Cd Γl (QF u l)=_t)(hwf:Cd Γl Γf=_t)(hwc:Cd Γl S=_t)(hsx:∀i∈U,i∈u)
    (hJ:J=Bl Γl (U++(jc++jf))) {ds:List Dv} (hz:ds.length<=1000000) {n:M} {σ:St} {D:Hp} {O:G} {P1:Fp} {I:It} {R:Type} {k:Dv->M->Option R} {res:R} {Q:VK}
    (r1:Rel K O D l n σ P1) (yl:Yl K I ds O D) (run:List Dv->HK J->List Dv->Prop) (h0:run ds (Aw J n) []) (hn:∀t s,run [] t s->k (.lst s) (BH J n t)=_s res)
    (hc:∀d ds t s,run (d::ds) t s->∃(B:Type)(kx:Dv->M->Option B)(kf:M->Option B)(r:B),ft B d (BH J n t) (λm2=>c B m2 λb Z=>if b=_t then f B Z kx else kf Z)=_s r/\(∀x m',kx x m'=_s r->run ds (Aw J m') (s++[x]))/\∀m',kf m'=_s r->run ds (Aw J m') s)
    (q:∀d m' g' P' Pv v H',k d m'=_s res->Bm (U++(jc++jf)) n m'->Step O P1 D g' (λa=>P' a\/Pv a) H'->Rep K g' H' 1 d v Pv->Rel K g' H' (QZ u l Γl) m' σ P'->Bg P' Pv->Q v H') :
    ∃W:Nat->Nat->List V->Hp->Prop,(∃m,W 0 m [] D)/\Rv u g (tT K Γt S jc c) (tE K S 0 Γf jf f) I σ (λys H=>∀p,H p=_n->Q (.ref p) (upd H p (.lst ys))) W:=by
  have sub:∀i∈J,i∈U++(jc++jf):=λi h=>BW (hJ▸h);have nJ:∀i∈J,i∉u:=λi h z=>by
    rw[hJ]at h;have:=(T2.mp h).2;rw[A3]at this;cases e:Γl.getD i _n with|none=>rw[e]at this;cases this.2|some o=>obtain⟨o',e',_⟩:=Gk L (BF e);exact(Eg e').1 z
  have lb:(QF u l).length=l.length:=by unfold QF;simp
  obtain⟨Pb,rb,sb⟩:=r1.sub (Γ':=QF u l) (σ':=L2.blank u σ) lb (L2.zAi ..) λi o e=>⟨(Eg e).2,MA u σ i (Eg e).1⟩;obtain⟨g0,P0,s0,r0⟩:=rb.weaken L;have s10:Step O P1 D g0 P0 D:=s0.sub sb λ_ z=>z;refine⟨λi j ys H=>j=ds.length-i/\i<=ds.length/\ys.length<=i/\∃A t P2 s,Step O P1 D A P2 H/\Rel K A H Γl (BH J n t) (L2.blank u σ) P2/\AA K A H 0 s ys nop/\run (ds.drop i) t s,
    ⟨ds.length,by simp,H8 _,H8 _,g0,Aw J n,P0,[],s10,RL r0,AA.nil,by simpa using h0⟩,?_⟩
  rintro i j ys H2 ⟨rfl,hi,hyl,A,t,P2,s,s2,r2,ry,e2⟩;have st:Kf O D A H2:=⟨P1,P2,s2,r1.zAR⟩;by_cases E:i < ds.length;rw[S7 E]at e2;obtain⟨B,kx,kf,rB,e3,hx,hf⟩:=hc _ _ _ _ e2;obtain⟨go,yy⟩:=(yl A H2 st).1 i ds[i] (A2 E);refine .inr ⟨go,vJ hyl (C6 E (A8 hz `d)),λzs H'=>zs.length<=i+1/\∃C N m' za,Step O P1 D C N H'/\Rel K C H' Γl m' (L2.blank u σ) N/\Bm (U++(jc++jf)) n m'/\AA K C H' 0 za zs nop/\run (ds.drop (i+1)) (Aw J m') za,?_,λy H3 hy=>?_⟩;rintro zs H' ⟨hl,C,N,m',za,s5,X,ag,rz,hr⟩;exact⟨ds.length-(i+1),by omega,rfl,E,hl,C,Aw J m',N,za,s5,X.join ag λi o h=>hJ▸Br h,rz,hr⟩;obtain⟨Pv,s3,h3,r3,n3⟩:=Ad.go s2 r2 (yy y H3 hy);have ry3:AA K A H3 0 s ys nop:=ry.held (Step.same (P:=nop) (yy y H3 hy).1) zAS.nop λ_ _ z=>z;refine ht A _ P2 ds[i] y _ H3 B _ rB _ r3 h3.z e3 λm2 P' σ' hk ag sp ip r'=>?_;have s4:Step O P1 D A P' H3:=s3.less λa z=>.inl (sp a z);have a4:Bm (U++(jc++jf)) n m2:=((AW J n t).mono sub).trans ag |>.mono λi z=>(C0.mp z).elim id λz=>C7 _ z
  -- outside of the zCo own slots nothing is bound
  have back:∀{C:G}{N:Fp}{m':M}{H':Hp},Rel K C H' Γl m' σ' N->∃P6,Rel K C H' Γl m' (L2.blank u σ) P6/\∀a,P6 a->N a:=fun{C N m' H'} X=>X.sub rfl (by rw[ip.1]) λi o e=>⟨e,(ip.2 i λz=>by obtain⟨o',e',_⟩:=Gk L e;exact(Eg e').1 (hsx i z)).symm⟩
  refine⟨A,m2,P',r',B,_,rB,hk,λb Z g4 P4 H4 F ag4 s5 Y=>?_⟩;have ry4:=ry3.held s5 r'.zAR λ_ z=>z.elim;cases b with|false=>rw[if_neg D2]at F;show(if _f=_t then _ else _);rw[if_neg D2];obtain⟨g6,P6,s6,r6⟩:=Y.weaken hwc;obtain⟨P7,r7,T⟩:=back r6;exact⟨by omega,g6,P7,Z,s,((s4.trans s5).trans s6).less T,r7,(a4.trans ag4).mono λi z=>(C0.mp z).elim id λz=>B9 _ (C7 _ z),ry4.held s6 Y.zAR λ_ z=>z.elim,hf Z F⟩|true=>rw[if_pos rfl]at F;show(if _t=_t then _ else _);rw[if_pos rfl];refine⟨g4,Z,P4,Y,B,kx,rB,F,λx m4 C N Pv v H5 hk5 ag5 s6 rv X n5=>?_⟩;have ry5:=ry4.held s6 Y.zAR λ_ z=>z.elim;obtain⟨g6,P6,s7,r6⟩:=X.weaken hwf;obtain⟨P7,r7,T⟩:=back r6;refine⟨by rw[B5,D6];omega,g6,P7,m4,s++[x],(((s4.trans s5).trans (s6.less λ_ z=>.inl z)).trans s7).less T,r7,?_,?_,hx x m4 hk5⟩;exact((a4.trans ag4).trans ag5).mono λi z=>(C0.mp z).elim (λz=>(C0.mp z).elim id λz=>B9 _ (C7 _ z)) λz=>B9 _ (B9 _ z);refine((AA.app ry5 (AA.cons rv.z AA.nil λ_ z=>z.elim) λ_ z=>z.elim).iff (Q:=nop) λa=>⟨λz=>z.elim,λz=>z.elim id λz=>z.elim id id⟩).held s7 X.zAR λ_ z=>z.elim
  have ei:i=ds.length:=by omega
  subst ei;rw[ym]at e2;refine .inl ⟨(yl A H2 st).2 _ (B3 _),λp hp=>?_⟩;obtain⟨Pv,s3,h1,r3,n3⟩:=Ad.go s2 r2 (Ad.lst r2.zd ry hp);have l1:Γl.length=l.length:=(Fl L).trans lb;obtain⟨P4,Y,sp4⟩:=r3.more (Γ':=QZ u l Γl) (σ':=σ) (by unfold QZ;simp) (by rw[L2.zAi]) λi o e=>by
    obtain⟨hi,e⟩:=Fe e;split at e;rename_i z;split at e;rename_i z0;cases e;refine .inr ⟨rfl,?_⟩;obtain⟨v,Px,ev,rx,_⟩:=r1.see (BF (beq_iff_eq.mp z0));have ji:i∉J:=λw=>nJ i w (D1.mp z);have hl:i < n.length:=by rw[r1.len.1,<- l1];exact hi
    refine⟨n.at i,v,?_,ev,(rx.z.held s2 r1.zAR λ_ z=>z.elim).held (Step.same (P:=nop) (CU hp (.lst ys))) zAS.nop λ_ _ z=>z⟩;have:=(AW J n t).2 i ji;have hl':i < (BH J n t).length:=by rw[Jg];exact hl
    rw[A2 hl',<- this];unfold M.at;rw[D7,A2 hl'];rfl;cases e;rename_i z;exact .inl ⟨BF e.symm,(MA u σ i λw=>z (D1.mpr w)).symm⟩
  exact q _ _ A P4 Pv _ _ (hn t s e2) ((AW J n t).mono sub) (s3.less λa z=>z.elim (λz=>.inl (sp4 a z)) .inr) h1 Y λa z w=>n3 a (sp4 a z) w
def Yo(a:Ev (List Dv))(tg:Tg)(f:Ev Dv):Ev Dv:=λR m k=>a R m λds b=>Gv ds ((BD (λd=>tg Dv d b λc=>f Dv c λx _=>_s x) ds).bind λxs=>k (.lst xs) b)
def Yp(a:Ev (List Dv))(tg:Tg)(c:Ev Bool)(f:Ev Dv):Ev Dv:=λR m k=>a R m λds e=>Gv ds ((Od (λd=>tg (Option Dv) d e λh=>c (Option Dv) h λb g=>if b=_t then f (Option Dv) g λx _=>_s (_s x)else _s _n) ds).bind λxs=>k (.lst xs) e)
def TV(a:Ev (List Dv))(tg:Tg)(J:List Nat)(f:Ev Dv):Ev Dv:=λR m k=>a R m λds b=>Gv ds ((Ce (λd t=>tg (Dv×HK J) d (BH J b t) λe=>f (Dv×HK J) e λx c=>_s (x,Aw J c)) ds (Aw J b)).bind λp=>k (.lst p.1) (BH J b p.2))
def GT:Ev Bool:=λ_ m k=>k _t m
section
variable{K:W.Frag}{Γ Γ1 Γl Γt Γc Γf:Gm}{js jx jt jc jf J:List Nat}{g:TG}{ft:Tg}{c:Ev Bool}{f:Ev Dv}{src:Ev (List Dv)}{σ:St}{H:Hp}{Q:VK}
theorem Xw(B:Pu K Γl Γt jt g ft)(p:Cd Γl (QF jx Γ1)=_t)(l:Cd Γl Γf=_t)(n:Cd Γl Γt=_t)(o:∀i∈jt,i∈jx)(C:([]:List Nat)=Bl Γl (jt++([]++jf)))
    (h:tE K Γ 1 (QZ jx Γ1 Γl) (js++(jt++([]++jf))) (Yo src ft f) σ H Q):JN (tI K Γ Γ1 js src) jx g (tT K Γt Γt [] GT) (tE K Γt 0 Γf jf f) σ H Q:=by
  obtain⟨D,m,P,r,R,k,res,e,q⟩:=h;refine⟨D,m,P,r,R,_,res,e,λds L M P1 N I a G s A w=>?_⟩;obtain⟨hz,a⟩:=KG a;refine zAQ a λxs F E=>?_;refine KY (c:=GT) B p l n o C hz A w (λds _ j=>∃b,xs=j++b/\BD _ ds=_s b) ⟨xs,rfl,F⟩ (λt j ⟨b,h1,h2⟩=>?_) (λd ds t j ⟨b,h1,h2⟩=>?_) λd m' g' P' Pv v H' a u s'=>q d m' g' P' Pv v H' a (G.trans u) (s.trans s');cases h2;rw[G7]at h1;subst h1;exact E;refine zAQ h2 λx h3 h4=>?_;refine zAQ h4 λz h5 h6=>?_;cases h6;exact⟨Dv,λx _=>_s x,λ_=>_n,x,h3,(λy m' a=>by cases a;exact⟨z,by rw[h1,G9];rfl,h5⟩),λm' a=>by cases a⟩
theorem Xx(B:Pu K Γl Γt jt g ft)(p:Cd Γl (QF jx Γ1)=_t)(l:Cd Γl Γf=_t)(n:Cd Γl Γc=_t)(o:∀i∈jt,i∈jx)(C:([]:List Nat)=Bl Γl (jt++(jc++jf)))
    (h:tE K Γ 1 (QZ jx Γ1 Γl) (js++(jt++(jc++jf))) (Yp src ft c f) σ H Q):JN (tI K Γ Γ1 js src) jx g (tT K Γt Γc jc c) (tE K Γc 0 Γf jf f) σ H Q:=by
  obtain⟨D,m,P,r,R,k,res,e,q⟩:=h;refine⟨D,m,P,r,R,_,res,e,λds L M P1 N I a G s A z=>?_⟩;obtain⟨hz,a⟩:=KG a;refine zAQ a λxs F E=>?_;refine KY B p l n o C hz A z (λds _ j=>∃b,xs=j++b/\Od _ ds=_s b) ⟨xs,rfl,F⟩ (λt j ⟨b,h1,h2⟩=>?_) (λd ds t j ⟨b,h1,h2⟩=>?_) λd m' g' P' Pv v H' a u s'=>q d m' g' P' Pv v H' a (G.trans u) (s.trans s');cases h2;rw[G7]at h1;subst h1;exact E;refine zAQ h2 λx h3 h4=>?_;refine zAQ h4 λw h5 h6=>?_;cases h6;refine⟨Option Dv,λx _=>_s (_s x),λ_=>_s _n,x,h3,(λy m' a=>?_),λm' a=>?_⟩;cases a;exact⟨w,by rw[h1,G9];rfl,h5⟩;cases a;exact⟨w,h1,h5⟩
theorem VR(D:Pu K Γl Γt jt g ft)(u:Cd Γl (QF jx Γ1)=_t)(l:Cd Γl Γf=_t)(n:Cd Γl Γt=_t)(o:∀i∈jt,i∈jx)(E:J=Bl Γl (jt++([]++jf)))
    (h:tE K Γ 1 (QZ jx Γ1 Γl) (js++(jt++([]++jf))) (TV src ft J f) σ H Q):JN (tI K Γ Γ1 js src) jx g (tT K Γt Γt [] GT) (tE K Γt 0 Γf jf f) σ H Q:=by
  obtain⟨F,m,P,r,R,k,res,e,q⟩:=h;refine⟨F,m,P,r,R,_,res,e,λds N O P1 S I a M s B z=>?_⟩;obtain⟨hz,a⟩:=KG a;refine zAQ a λp L G=>?_;refine KY (c:=GT) D u l n o E hz B z (λds t j=>∃b,p.1=j++b/\Ce _ ds t=_s (b,p.2)) ⟨p.1,rfl,L⟩ (λt j ⟨b,h1,h2⟩=>?_) (λd ds t j ⟨b,h1,h2⟩=>?_) λd m' g' P' Pv v H' a w s'=>q d m' g' P' Pv v H' a (M.trans w) (s.trans s');simp only[Ce,Q7,Prod.mk.injEq]at h2;obtain⟨rfl,rfl⟩:=h2;rw[G7]at h1;rw[<- h1];exact G;refine zAQ h2 λx h3 h4=>?_;refine zAQ h4 λA h5 h6=>?_;simp only[Q7,Prod.mk.injEq]at h6;obtain⟨rfl,h7⟩:=h6;refine⟨_,λx C=>_s (x,Aw J C),λ_=>_n,x,h3,(λy m' a=>?_),λm' a=>by cases a⟩;cases a;exact⟨A.1,by rw[h1,G9];rfl,by rw[<- h7];exact h5⟩
end
end R
namespace L2
open PySem PySem.Spec PyProof.Rows
theorem HG{a b:Nat}(h:a≠b):@Ne B8 a b:=h
def NZ(h:K4)(it l:B8)(i:Nat):Bool->Prop
 |false=>h.IsListIter it l i
 |true=>h.IsTupleIter it l i
def Py(h:K4)(l:B8)(xs:Array _v):Bool->Prop
 |false=>h.IsList l xs
 |true=>h.IsTuple l xs
noncomputable def gH(l:B8):Bool->Obj
 |false=>{cls:=.type "list_iterator", data:=.fields #[.ref l,.int 0 0]}
 |true=>{cls:=.type "tuple_iterator", data:=.fields #[.ref l,.int 0 0]}
variable{h:K4}{l:B8}{i:Nat}{b:Bool}
theorem NZ.at{h':K4}{it:B8}(x:NZ h it l i b)(k:∀o,h.get? it=_s o->h'.get? it=_s o):NZ h' it l i b:=by
 cases b with|false=>obtain⟨o,e,r⟩:=x;exact⟨o,k o e,r⟩|true=>obtain⟨o,e,r⟩:=x;exact⟨o,k o e,r⟩
theorem Py.at{h':K4}{xs:Array _v}(x:Py h l xs b)(k:∀o,h.get? l=_s o->h'.get? l=_s o):Py h' l xs b:=by
 cases b with|false=>obtain⟨o,e,r⟩:=x;exact⟨o,k o e,r⟩|true=>obtain⟨o,e,r⟩:=x;exact⟨o,k o e,r⟩
theorem NZ.obj{it:B8}(x:NZ h it l i b):∃o,h.get? it=_s o/\∀v,o.data≠.cell v:=by
 cases b with|false=>obtain⟨o,e,c,d⟩:=x;exact⟨o,e,λv z=>by rw[d]at z;cases z⟩|true=>obtain⟨o,e,c,d⟩:=x;exact⟨o,e,λv z=>by rw[d]at z;cases z⟩
theorem NZ.new:NZ (h.push (gH l b)) h.objs.size l 0 b:=by
 cases b with|false=>exact⟨_,C9 _ rfl,rfl,rfl⟩|true=>exact⟨_,C9 _ rfl,rfl,rfl⟩
variable{Q:_v->A7->Prop}
section
variable{prog:F9}{w:J5}{A:J3}{E:_v->A7->Prop}{s:A7}
theorem UI{xs:Array _v}(hl:Py s.heap l xs b)(a:Q (.ref s.heap.objs.size) {s with heap:=s.heap.push (gH l b)}):C8 (D9 prog w) A (pyIter (.ref l)) Q E s:=by
 cases b with|false=>exact vZ hl a|true=>exact U9 hl a
theorem SM{it:B8}{items:Array _v}{Q:_v->A7->Prop}(g:A.handled=_n)(c:NZ s.heap it l i b)(hl:Py s.heap l items b)
    (p:∀x h',items[i]?=_s x->NZ h' it l (i+1) b->N9 it s.heap h'->Q x {s with heap:=h' })
    (q:items[i]?=_n->∀h' e,yz it s.heap h'->(∃o,h'.get? e=_s o/\o.cls=.type "StopIteration")->E (.ref e) {s with heap:=h' }):C8 (D9 prog w) A (S8 (.ref it)) Q E s:=by
  cases b with
  |false=>
    cases hx:items[i]? with|none=>exact wpAny_nextOf_list_end g c hl hx (q hx)|some x=>exact wpAny_nextOf_list_item c hl hx (p x · hx)
  |true=>
    obtain⟨o,d,n,hd⟩:=id c;obtain⟨r,f,_,t,j⟩:=hl;have k:s.TypeIs (.ref it) "tuple_iterator" := ⟨o,d,n⟩;unfold S8;refine A1 (N7 (name:=Z1 "__next__") k F.slot_tuple_iterator_next
      (L8 F.slot_tuple_iterator_next k F.entry_tuple_iterator_next ?_ (F.args_tuple_iterator_next_1 _)))
    show C8 _ _ (field (.ref it) 0 >>= _) _ _ s;refine A1 (M3 d hd (x:=.ref l) rfl ?_);show C8 _ _ (if(E9 l==g7)=_t then _ else _) _ _ s;rw[if_neg (show ¬((E9 l==g7)=_t)from D2)];show C8 _ _ (field (.ref it) 1 >>= _) _ _ s;refine A1 (M3 d hd (x:=.int i 0) rfl ?_);show C8 _ _ (seqItems? (.ref l) >>= _) _ _ s;refine A1 (S1 f j ?_);cases hx:items[i]? with
    |some x=>
      simp only[T8,hx];refine A1 (wpAny_setField d hd `s (A6 ⟨x,rfl,A6 (p x _ hx ?_ (R6 ..))⟩));exact⟨_,W0 _ d (Obj.isFreed_of_fields (xr hd _)),(Obj.cls_mapFields ..).trans n,by rw[xr hd];simp[i7]⟩
    |none=>
      simp only[T8,hx];refine A1 (W6 (A1 (wpAny_setField d hd `s ?_)));show C8 _ _ (newExc (.type "StopIteration") [] >>= _) _ _ _;refine A1 ?_;simp only[newExc,newTuple];refine A1 (J4 ?_ (by size_fits));refine A1 (m:=firstArgMember _ _) (wpAny_of_eq (a:=g7) (by first|rfl|(simp only[firstArgMember];rfl)) ?_);refine J4 ?_ (by size_fits);simp only[raiseNew];refine A1 (wpAny_handled ?_)
      first|rw[show A.in1.handled=_n from g]|rw[g]
      refine A1 (A6 (wpAny_throw ?_));exact q hx _ _ (((R6 ..).extBut.push _).push _) ⟨_,C9 _ rfl,rfl⟩
end
def IH(K:W.Frag)(H:Hp)(a:B8)(xs:List V):Bool->Prop
 |false=>Dl K H a xs
 |true=>Fo K H a xs
section
variable{X:Cx}{pins:List (B8×Obj)}{σ:St}{H:Hp}{s:A7}{a:B8}{xs ys:List V}{b:Bool}
theorem Inv.sqB(I:Inv X pins σ H s)(h:IH X.K H a xs b):∃c:List _v,AG xs c/\Py s.heap a c.toArray b/\a < s.heap.objs.size:=by
 cases b with|false=>obtain⟨c,r,p,_⟩:=I.list h;exact⟨c,r,p.isList,by obtain⟨o,n,e,_⟩:=p;exact D5 e⟩|true=>obtain⟨c,r,p,_⟩:=I.tuple h;exact⟨c,r,p,by obtain⟨o,e,_⟩:=p;exact D5 e⟩
theorem Inv.zCX(I:Inv X pins σ H s)(h:IH X.K H a xs b)(h':IH X.K H a ys b):xs=ys:=by
 cases b with|false=>exact I.zBb h h'|true=>exact I.zBE h h'
end
noncomputable abbrev Sq:=Nat×Bool
abbrev FQ(h:K4)(T:Nat)(vs:Array _v):Prop:=h.get? T=_s {cls:=.type "tuple", data:=.seq vs}
noncomputable abbrev aP(I n:Nat):List Value:=(y8 I n).map .ref
theorem BL{a:Type}{P:Nat->a->Prop}{x:a}{r:List a}(h:P 0 x)(t:∀k y,r[k]?=_s y->P (k+1) y):∀k y,(x::r)[k]?=_s y->P k y
 |0,_,e=>C5 e▸h
 |k+1,y,e=>t k y e
theorem FN{a:Type}{P:Nat->a->Prop}:∀(k:Nat)(y:a),([]:List a)[k]?=_s y->P k y:=nofun
theorem dG{M:Model}{A:J3}{E:_v->A7->Prop}{d a:Type}{f:d->a->Sem (ForInStep a)}{Q:a->A7->Prop}(P:Nat->a->A7->Prop):∀(xs:List d)(k:Nat)(r:a)(s:A7),P k r s->(∀j x r s,xs[j]?=_s x->P (k+j) r s->C8 M A (f x r) (λt s'=>∃c,t=.yield c/\P (k+j+1) c s') E s)->(∀r s,P (k+xs.length) r s->Q r s)->C8 M A (forIn xs r f) Q E s
 |[],k,r,s,p,_,q=>A6 (q r s p)
 |x::xs,k,r,s,p,h,q=>by rw[wo];refine A1 (R0 (h 0 x r s rfl p) ?_ λ_ _ e=>e);rintro t s' ⟨c,rfl,g⟩;exact dG P xs (k+1) c s' g (λj y r s e p=>vK k 1 j▸h (j+1) y r s e (vK k j 1▸p)) (λr s p=>q r s (vK k xs.length 1▸p))
structure Zst (h:K4) (I:Nat) (ls:List Sq) (i:Nat) (f0:_v):Prop where
 z:IsZip h (I+ls.length+2) (I+ls.length) (I+ls.length+1) f0
 ti:FQ h (I+ls.length) (aP I ls.length).toArray
 to:∃vs:Array _v,vs.size=ls.length/\FQ h (I+ls.length+1) vs
 s:∀k l,ls[k]?=_s l->NZ h (I+k) l.1 i l.2
theorem Bv{a:Type}{ls:List a}{k:Nat}{x:a}(e:ls[k]?=_s x):k < ls.length:=(A4.mp e).1
variable{I:Nat}{ls:List Sq}
theorem Zst.at{h':K4}{f0:_v}(x:Zst h I ls i f0)(k:∀(c:Nat) o,I<=c->c < I+ls.length+3->h.get? c=_s o->h'.get? c=_s o):Zst h' I ls i f0:=
 ⟨k _ _ `o `o x.z,k _ _ `o `o x.ti,let ⟨vs,n,e⟩:=x.to;⟨vs,n,k _ _ `o `o e⟩,λj l e=>(x.s j l e).at λo=>k _ o `o (by have:=Bv e;omega)⟩
structure Zin (h h':K4) (I:Nat) (ls:List Sq) (i:Nat) (W:Nat->Array _v) (k:Nat) (vs:Array _v):Prop where
 z:IsZip h' (I+ls.length+2) (I+ls.length) (I+ls.length+1) .ellipsis
 n:vs.size=ls.length
 to:FQ h' (I+ls.length+1) vs
 kp:∀(c:Nat) o,c≠I+ls.length+2->c≠I+ls.length+1->(c < I\/I+k<=c)->h.get? c=_s o->h'.get? c=_s o
 sz:h'.objs.size=h.objs.size
 s:∀j l,j < k->ls[j]?=_s l->NZ h' (I+j) l.1 (i+1) l.2
 v:∀j,j < k->vs[j]?=(W j)[i]?
section
variable{prog:F9}{w:J5}{A:J3}{E:_v->A7->Prop}{s:A7}
theorem Vs{W:Nat->Array _v}{Q:_v->A7->Prop}(hh:A.handled=_n)(U:ls.length<=3)(n0:0 < ls.length)(hz:Zst s.heap I ls i .none)(hl:∀k l,ls[k]?=_s l->l.1 < I/\Py s.heap l.1 (W k) l.2)
    (hQ:∀h' vs,vs.size=ls.length->(∀k,k < ls.length->vs[k]?=(W k)[i]?)->Zst h' I ls (i+1) (i7 s.heap.objs.size)->FQ h' s.heap.objs.size vs->(∀(c:Nat) o,(c < I\/I+ls.length+3<=c)->s.heap.get? c=_s o->h'.get? c=_s o)->Q (.ref s.heap.objs.size) {s with heap:=h' })
    (hE:∀h' e,(∃k,k < ls.length/\(W k)[i]?=_n)->(∀(c:Nat) o,(c < I\/I+ls.length+3<=c)->s.heap.get? c=_s o->h'.get? c=_s o)->(∃o,h'.get? e=_s o/\o.cls=.type "StopIteration")->E (.ref e) {s with heap:=h' }) :
    C8 (D9 prog w) A (U2.«zip.__next__» ⟨[.ref (I+ls.length+2)],[]⟩) (λfin s'=>∃v,fin=.done (.ret v)/\Q v s') E s:=by
  obtain⟨t,J,⟨v0,n1,T⟩,s0⟩:=hz;show C8 _ _ (field (.ref (I+ls.length+2)) 2 >>= _) _ _ _;refine A1 (M3 t rfl (x:=.bool _f) rfl ?_);show C8 _ _ (field (.ref (I+ls.length+2)) 3 >>= _) _ _ _;refine A1 (M3 t rfl (x:=.ref (I+ls.length)) rfl ?_);refine A1 (S1 J rfl ?_);show C8 _ _ (if(aP I ls.length).toArray.isEmpty=_t then _ else _) _ _ _;rw[if_neg (by simp only[xJ,j6,xW,wc];omega)];show C8 _ _ (K8 (.ref (I+ls.length+2)) >>= _) _ _ _;refine A1 ?_;unfold K8;refine A1 (M3 t rfl (x:=.none) rfl (A6 ?_));simp only[if_true];refine A1 (W6 ?_);refine A1 (M3 t rfl (x:=.ref (I+ls.length+1)) rfl ?_);refine A1 (V2 t `s λh₁ R p=>?_);refine A1 (dG (λk r s'=>r=(_n,())/\∃h' vs,s'={s with heap:=h' }/\Zin s.heap h' I ls i W k vs) _ 0 _ _ ⟨rfl,h₁,v0,rfl,R,n1,p.extBut _ _ (HG `o) T,λc o B _ _ e=>p.extBut _ _ B e,p.1,nofun,nofun⟩ ?_ ?_);rintro j x r s1 e ⟨rfl,h2,vs,rfl,a⟩;rw[E8]at a ⊢;obtain⟨x,N,rfl⟩:∃l,ls[j]?=_s l/\x=(.ref (I+j),j):=by have u:=Bv e;simp only[xt,C3,S5]at u;refine⟨_,A2 u,?_⟩;simp only[List.getElem?_zipIdx,D0,xK,u,F0,Q7,zAJ,E8,if_true]at e;exact e.symm
  have u:=Bv N;obtain⟨lI,at_⟩:=hl j x N;refine A1 (wpAny_onRaise ?_);show C8 _ _ (S8 (.ref (I+j)) >>= _) _ _ _;refine A1 (SM hh ((s0 j x N).at λo e=>a.kp _ o `o `o `o e) (at_.at λo e=>a.kp _ o `o `o `o e) (λy p1 V si sp=>A6 ?_) λV p1 Z K he=>?_);have S:FQ p1 (I+ls.length+1) vs:=sp.extBut _ _ (HG `o) a.to;refine A1 (S1 S rfl ?_);refine A1 (wpAny_updateSeq S rfl ?_ (A8 (a.n▸U) `d) (by simp only[vn];exact A8 (a.n▸U) `d));have sq:N9 (I+ls.length+1) p1 (p1.update (I+ls.length+1) (L5 (·.setIfInBounds j y))):=R6 ..;refine A1 (wpAny_letGo (A6 ⟨_,rfl,rfl,_,vs.setIfInBounds j y,rfl,sq.extBut _ _ (HG `o) (sp.extBut _ _ (HG `o) a.z),by rw[vn];exact a.n,by show Heap.get? _ _=_;rw[W0 _ S rfl];simp[L5],λc o B c2 c3 e=>sq.extBut _ _ c2 (sp.extBut _ _ (HG `o) (a.kp c o B c2 `o e)),by rw[sq.1,sp.1];exact a.sz,λm l hm Y=>?_,λm hm=>?_⟩));by_cases d:m=j;subst d;cases N.symm.trans Y;exact si.at λo=>sq.extBut _ _ (HG `o);exact(a.s m l `o Y).at λo e=>sq.extBut _ _ (HG `o) (sp.extBut _ _ (HG `o) e);by_cases d:m=j;subst d;rw[V];exact Array.getElem?_setIfInBounds_self_of_lt (a.n▸u);rw[Array.getElem?_setIfInBounds_ne (Ne.symm d)];exact a.v m `o;obtain⟨oe,q,L⟩:=he;have G:=K _ _ (HG `o) a.z;have X:Z≠I+ls.length+2:=λx=>by subst x;rw[G]at q;cases q;simp at L
  exact V2 G `s λP _ C=>hE P Z ⟨j,u,V⟩ (λc o hc x=>C.extBut _ _ (HG `o) (K _ _ (HG `o) (a.kp c o `o `o `o x))) ⟨oe,C.extBut _ _ X q,L⟩;rintro r s1 ⟨rfl,h2,vs,rfl,a⟩;rw[E8,xt,C3,S5]at a;refine A1 (S1 a.to rfl ?_);refine A1 (vM ?_ (by rw[H9];exact A8 (a.n▸U) `d));show C8 _ _ (X5 (.ref (I+ls.length+2)) (.ref h2.objs.size) >>= _) _ _ _;refine A1 ?_;unfold X5;have lt:I+ls.length+2 < s.heap.objs.size:=D5 t;have hsz:h2.objs.size=s.heap.objs.size:=a.sz;have z6:IsZip (h2.push {cls:=.type "tuple", data:=.seq vs.toList.toArray}) (I+ls.length+2) (I+ls.length) (I+ls.length+1) .ellipsis:=A5 _ a.z;refine A1 (V2 z6 `s λO g D=>?_);replace g:IsZip O (I+ls.length+2) (I+ls.length) (I+ls.length+1) (i7 h2.objs.size):=g;refine V2 g `s λf H F=>A6 ⟨_,rfl,?_⟩;have M:∀(c:Nat) o,c≠I+ls.length+2->h2.get? c=_s o->f.get? c=_s o:=λc o B e=>F.extBut _ _ B (D.extBut _ _ B (A5 _ e));have hT:FQ f h2.objs.size vs:=F.extBut _ _ (HG `o) (D.extBut _ _ (HG `o) (C9 _ rfl));rw[hsz]at hT H;show Q (.ref h2.objs.size) _;rw[hsz];exact hQ f vs a.n a.v ⟨H,M _ _ `o (a.kp _ _ `o `o `o J),⟨vs,a.n,M _ _ `o a.to⟩,λk l e=>(a.s k l (Bv e) e).at λo=>M _ o (by have:=Bv e;omega)⟩ hT λc o hc e=>M c o `o (a.kp c o `o `o `o e)
theorem GL{W:Nat->Array _v}{Q:Option _v->A7->Prop}(m:A.handled=_n)(a:ls.length<=3)(d:0 < ls.length)(hz:Zst s.heap I ls i .none)(hl:∀k l,ls[k]?=_s l->l.1 < I/\Py s.heap l.1 (W k) l.2)
    (p:∀h' vs,vs.size=ls.length->(∀k,k < ls.length->vs[k]?=(W k)[i]?)->Zst h' I ls (i+1) (i7 s.heap.objs.size)->FQ h' s.heap.objs.size vs->(∀(c:Nat) o,(c < I\/I+ls.length+3<=c)->s.heap.get? c=_s o->h'.get? c=_s o)->Q (_s (.ref s.heap.objs.size)) {s with heap:=h' })
    (q:∀h',(∃k,k < ls.length/\(W k)[i]?=_n)->(∀(c:Nat) o,(c < I\/I+ls.length+3<=c)->s.heap.get? c=_s o->h'.get? c=_s o)->Q _n {s with heap:=h' }) :
    C8 (D9 prog w) A (wQ (.ref (I+ls.length+2))) Q E s:=by
  have hT:s.TypeIs (.ref (I+ls.length+2)) "zip" := ⟨_,hz.z,rfl⟩;unfold wQ;refine A1 (wpAny_attempt (N7 (name:=Z1 "__next__") hT F.slot_zip_next
    (L8 F.slot_zip_next hT F.entry_zip_next (Vs m a d hz hl (λh' vs x v u t r=>A6 (p h' vs x v u t r)) λh' e f j he=>?_) (F.args_zip_next_1 _))))
  obtain⟨o,g,n⟩:=he;exact A1 (X0 (T := "StopIteration") (b:=_t) ⟨o,g,n⟩ isSubtype_stop (A6 (q _ f j)))
end
noncomputable abbrev fz(I n:Nat):List Nat:=(I+n+2)::y8 I (n+2)
theorem FF{n b:Nat}:b∈fz I n↔I<=b/\b < I+n+3:=by simp only[D3,List.mem_range'_1];omega
def sD(K:W.Frag)(ls:List Sq):It:=
 ⟨λi H=>∀(k:Nat)(l:Sq),ls[k]?=_s l->∃xs,IH K H l.1 xs l.2/\i < xs.length,λi H x H'=>∃p ys,H p=_n/\x=.ref p/\H'=upd H p (.tup ys)/\ys.length=ls.length/\∀(k:Nat)(l:Sq),ls[k]?=_s l->∀xs,IH K H l.1 xs l.2->ys[k]?=xs[i]?,
  λi H=>(∀(k:Nat)(l:Sq),ls[k]?=_s l->∃xs,IH K H l.1 xs l.2)/\∃(k:Nat),∃(l:Sq),∃xs,ls[k]?=_s l/\IH K H l.1 xs l.2/\xs.length<=i⟩
section
variable{X:Cx}{pins:List (B8×Obj)}{σ:St}{H:Hp}{s:A7}{ls:List Sq}
theorem Inv.sqs(I:Inv X pins σ H s)(h:∀(k:Nat)(l:Sq),ls[k]?=_s l->∃xs,IH X.K H l.1 xs l.2):∃(B:Nat->List V)(W:Nat->List _v),∀(k:Nat)(l:Sq),ls[k]?=_s l->(∀xs,IH X.K H l.1 xs l.2->xs=B k)/\AG (B k) (W k)/\Py s.heap l.1 (W k).toArray l.2/\l.1 < s.heap.objs.size:=by
 have:∀k:Nat,∃(p:List V×List _v),∀(l:Sq),ls[k]?=_s l->(∀xs,IH X.K H l.1 xs l.2->xs=p.1)/\AG p.1 p.2/\Py s.heap l.1 p.2.toArray l.2/\l.1 < s.heap.objs.size:=λk=>by
  cases e:ls[k]? with|none=>exact⟨([],[]),nofun⟩|some l=>obtain⟨xs,q⟩:=h k l e;obtain⟨a,r⟩:=I.sqB q;exact⟨(xs,a),λd c=>by cases c;exact⟨λys y=>I.zCX y q,r⟩⟩
 obtain⟨f,hf⟩:=Classical.axiomOfChoice this;exact⟨λk=>(f k).1,λk=>(f k).2,hf⟩
end
theorem Sf:∀(us:List _v)(f:Nat->Option V),(∀k u,us[k]?=_s u->∃y,f k=_s y/\RelV y u)->∃ys,AG ys us/\∀k,k < us.length->ys[k]?=f k
 |[],f,_=>⟨[],.nil,nofun⟩
 |u::us,f,h=>by obtain⟨y,e,r⟩:=h 0 u rfl;obtain⟨ys,v,q⟩:=Sf us (λk=>f (k+1)) λk=>h (k+1);exact⟨y::ys,.cons r v,λk=>by cases k with|zero=>exact λ_=>e.symm|succ k=>exact λh=>q k (Nat.lt_of_succ_lt_succ h)⟩
variable{pos:Pos}
theorem WD{P:F9}{w:J5}{K:W.Frag}{x:List Expr}{x1}(I:Nat)(ls:List Sq)(A:ls.length<=3)(N:0 < ls.length)(lt:∀(k:Nat)(l:Sq),ls[k]?=_s l->l.1 < I):Turn P w K (.Tuple x x1 pos) (sD K ls) (fz I ls.length) (I+ls.length+2) (λi h=>Zst h I ls i .none) where
  mem:=FF.mpr `o
  obj:=λi h st b hb=>by
    have hb:=FF.mp hb;by_cases R:@Eq Nat b (I+ls.length+2);exact R▸⟨_,st.z,nofun⟩;by_cases O:@Eq Nat b (I+ls.length);exact O▸⟨_,st.ti,nofun⟩;by_cases c3:@Eq Nat b (I+ls.length+1);obtain⟨vs,_,e⟩:=st.to;exact c3▸⟨_,e,nofun⟩;obtain⟨j,Z⟩:=Nat.exists_eq_add_of_le hb.1;have:j < ls.length:=by omega
    exact Z▸(st.s j _ (A2 this)).obj
  keep:=λi h h' st k=>st.at λc o R O=>k c (FF.mpr `o) o
  item:=by
    intro X J D L G i pins s σ H E f hf st m;subst J D L;obtain⟨B,W,hb⟩:=f.sqs λk l e=>let ⟨xs,q,_⟩:=m k l e;⟨xs,q⟩
    have bl:∀k,k < ls.length->i < (B k).length:=λk g=>by obtain⟨xs,q,lt⟩:=m k _ (A2 g);exact(hb k _ (A2 g)).1 xs q▸lt
    refine GL (f.ok.hd G) A N st (W:=λk=>(W k).toArray) (λk l e=>⟨lt k l e,(hb k l e).2.2.1⟩) (λh1 vs n v d S T=>?_) λh' ⟨k,g,e⟩ _=>?_;refine⟨_,rfl,wpAny_letOwnedTupleGo_zip (s:={s with heap:=h1}) d.z λh2 e2 y=>?_⟩;have U:I+ls.length+2 < s.heap.objs.size:=D5 st.z;have F:=f.hok.fresh (B3 s.heap.objs.size);obtain⟨ys,M,Y,hv⟩:∃ys:List V,ys.length=ls.length/\AG ys vs.toList/\∀k,k < ls.length->ys[k]?=(B k)[i]?:=by
      obtain⟨ys,q,e⟩:=Sf vs.toList (λk=>(B k)[i]?) λk u e=>by have C:=n▸H9▸Bv e;rw[a6,v k C,M0]at e;have z:=A2 (bl k C);obtain⟨u',e',r⟩:=(hb k _ (A2 C)).2.1.get z;cases e.symm.trans e';exact⟨_,z,r⟩
      rw[H9,n]at e;exact⟨ys,q.length.trans (H9.trans n),q,e⟩
    have I2:Inv X pins σ (upd H s.heap.objs.size (.tup ys)) {s with heap:=s.heap.push {cls:=.type "tuple", data:=.seq vs},toks:=s.toks}:=
      f.laid (λb o q=>A5 _ q) (B3 _) (show BC X.prog X.w _ _ _ (.tup ys)from⟨A8 (M▸A) `d,_,Y,IG.new _ _⟩)
    have p:∀b∈fz I ls.length,zAS X pins (upd H s.heap.objs.size (.tup ys)) b:=λb a=>⟨by rw[AD (E5 (C6 (FF.mp a).2 `o))];exact(hf b a).1,(hf b a).2⟩
    have I3:Inv X pins σ (upd H s.heap.objs.size (.tup ys)) {s with heap:=h2,toks:=s.toks}:=by refine Inv.zAv (s:={s with heap:=s.heap.push {cls:=.type "tuple", data:=.seq vs},toks:=s.toks}) (h':=h2) (t':=s.toks) (ch:=fz I ls.length) I2 (λb o a q=>?_) p;have q:(s.heap.push {cls:=.type "tuple", data:=.seq vs}).get? b=_s o:=q;have a:=mt FF.mpr a;refine(y.2 b (HG `o)).trans ?_;by_cases t:b=s.heap.objs.size;subst t;rw[C9 _ rfl]at q;rw[<- q];exact S;rw[yT _ _ _ t]at q;exact T b o `o q
    refine⟨.ref s.heap.objs.size,_,I3,rfl,⟨_,ys,F,rfl,rfl,M,λk l e xs q=>(hb k l e).1 xs q▸hv k (Bv e)⟩,⟨e2,y.extBut _ _ (HG `o) d.ti,let ⟨vs,n,e⟩:=d.to;⟨vs,n,y.extBut _ _ (HG `o) e⟩,λk l e=>(d.s k l e).at λo=>y.extBut _ _ (HG (by have:=Bv e;omega))⟩,λb a=>(p b a).1⟩;have:=bl k g;rw[(hb k _ (A2 g)).2.1.length]at this;simp at e;omega
  done:=by intro X J D L G i pins s σ H E f hf st m;subst J D L;obtain⟨B,W,hb⟩:=f.sqs m.1;obtain⟨k,l,xs,e,q,le⟩:=m.2;refine GL (f.ok.hd G) A N st (W:=λk=>(W k).toArray) (λk l e=>⟨lt k l e,(hb k l e).2.2.1⟩) (λh' vs n v=>?_) λh' _ k=>⟨rfl,Inv.zAv (t':=s.toks) f (λb o a e=>k b o (by have:=mt FF.mpr a;omega) e) hf⟩;have v:=v k (Bv e);rw[(hb k l e).1 xs q,(hb k l e).2.1.length]at le;rw[X4 (n.symm▸Bv e),M0,K5 le]at v;cases v
  self:=λ_ _ _ _ _ st h=>wI st.z h
section
variable{prog:F9}{w:J5}{A:J3}{E:_v->A7->Prop}{s:A7}
theorem cx{Q:List _v->A7->Prop}(hI:s.heap.objs.size=I)(hl:∀(k:Nat)(l:Sq),ls[k]?=_s l->∃xs,Py s.heap l.1 xs l.2)
    (p:∀h',h'.objs.size=I+ls.length->(∀(c:Nat) o,s.heap.get? c=_s o->h'.get? c=_s o)->(∀(k:Nat)(l:Sq),ls[k]?=_s l->NZ h' (I+k) l.1 0 l.2)->Q (aP I ls.length) {s with heap:=h' }) :
    C8 (D9 prog w) A (vN (ls.map λl=>.ref l.1)) Q E s:=by
  unfold vN;refine A1 (dG (λk r s'=>r=(aP I k).toArray/\∃h',s'={s with heap:=h' }/\h'.objs.size=I+k/\(∀(c:Nat) o,s.heap.get? c=_s o->h'.get? c=_s o)/\∀(j:Nat)(l:Sq),j < k->ls[j]?=_s l->NZ h' (I+j) l.1 0 l.2) _ 0 _ _ ⟨rfl,_,rfl,hI,λ_ _ e=>e,nofun⟩ ?_ ?_);rintro j x r s1 e ⟨rfl,h',rfl,hz,a,hs⟩;rw[E8]at hz hs ⊢;obtain⟨l,f,rfl⟩:=D0 ..▸e |> G3.mp
  obtain⟨xs,q⟩:=hl j l f;refine A1 (J0 (UI (q.at (a _)) (A6 ⟨_,rfl,?_,_,rfl,?_,λc o e=>A5 _ (a c o e),λm n hm g=>?_⟩)));show(aP I j).toArray.push (.ref h'.objs.size)=(aP I (j+1)).toArray;rw[hz,List.push_toArray];simp only[aP,List.range'_1_concat,M4,B7,N0];rw[M9];show h'.objs.size+1=_;rw[hz];rfl;by_cases d:m=j;subst d;cases f.symm.trans g;exact hz▸NZ.new (h:=h');exact(hs m n `o g).at λo=>A5 _;rintro r s1 ⟨rfl,h',rfl,hz,a,hs⟩;rw[E8,C3]at hz hs ⊢;exact A6 (p h' hz a λk l e=>hs k l (Bv e) e)
theorem Ui(ls:List Sq) :
    zv (U2.«zip.__new__» ⟨.type "zip" :: ls.map λl=>.ref l.1,[]⟩) (λ_ R s=>ls.length<=3/\(∀(k:Nat)(l:Sq),ls[k]?=_s l->∃xs,Py s.heap l.1 xs l.2) /\
      ∀h',Zst h' s.heap.objs.size ls 0 .none->(∀(c:Nat) o,s.heap.get? c=_s o->h'.get? c=_s o)->R (.ok (.ret (.ref (s.heap.objs.size+ls.length+2)))) {s with heap:=h' }):=
  .of_wp λprog w A R s h=>by
    obtain⟨g,hl,h⟩:=h;have m:=sub_zip;unfold U2.«zip.__new__» zI
    wp_walk using cx rfl hl
    intro h' hz n hs;have f:(aP s.heap.objs.size ls.length).length=ls.length:=by simp only[C3,S5]
    refine A1 (vM ?_ (f.symm▸A8 g `d));refine A1 (vM ?_ (by rw[C3,f];exact A8 g `d));refine A1 ?_;show C8 _ _ (newObj (.type "zip") (.fields #[.none,.bool _f,.bool _f,.ref h'.objs.size,.ref (h'.push _).objs.size])) _ _ _;refine J4 ?_ (by size_fits);refine A6 ⟨_,rfl,?_⟩;have d:∀(c:Nat)(o x y z:Obj),h'.get? c=_s o->(((h'.push x).push y).push z).get? c=_s o:=λc o x y z e=>A5 _ (A5 _ (A5 _ e));have a:∀x,(h'.push x).objs.size=s.heap.objs.size+ls.length+1:=λx=>by rw[M9,hz]
    have j:∀x y,((h'.push x).push y).objs.size=s.heap.objs.size+ls.length+2:=λx y=>by rw[M9,a]
    rw[j,a,hz];refine h _ ⟨j _ _▸C9 _ rfl,hz▸A5 _ (A5 _ (C9 _ rfl)),⟨_,by simp only[B0,C3,S5],a _▸A5 _ (C9 _ rfl)⟩,λk l e=>(hs k l e).at λo=>d _ o _ _ _⟩ λc o e=>d c o _ _ _ (n c o e)
theorem PV{Q:_v->A7->Prop}(a:ls.length<=3)(hl:∀(k:Nat)(l:Sq),ls[k]?=_s l->∃xs,Py s.heap l.1 xs l.2)(ct:checkTypeCall "zip" ⟨ls.map λl=>.ref l.1,[]⟩=pure ())(d:yp "zip.__new__" ⟨.type "zip" :: ls.map λl=>.ref l.1,[]⟩=pure ())(ok:∀obj,argsOk "object.__init__" ⟨obj::ls.map λl=>.ref l.1,[]⟩)
    (h:∀h',Zst h' s.heap.objs.size ls 0 .none->(∀(c:Nat) o,s.heap.get? c=_s o->h'.get? c=_s o)->Q (.ref (s.heap.objs.size+ls.length+2)) {s with heap:=h' }) :
    C8 (D9 prog w) A (call (.type "zip") (ls.map λl=>.ref l.1)) Q E s:=
  callType_new F.called_zip `d ct d ok F.entry_zip_new (Ui ls) ⟨a,hl,λh' st k=>⟨⟨_,st.z,rfl⟩,h h' st k⟩⟩
end
section
variable{X:Cx}{elts:List Expr}{x1}{zAs:Pos}
def rC(n:Nat):Prop:=∀ls:List Sq,ls.length=n->checkTypeCall "zip" ⟨ls.map λl=>.ref l.1,[]⟩=pure ()/\yp "zip.__new__" ⟨.type "zip" :: ls.map λl=>.ref l.1,[]⟩=pure ()/\∀obj,argsOk "object.__init__" ⟨obj::ls.map λl=>.ref l.1,[]⟩
theorem fB:rC 2:=λls h=>by
 match ls,h with
 |[a,b],_=>exact⟨F.typeCall_zip_2 _ _,F.newCall_zip_2 _ _,λobj=>F.args_object_init_3 obj _ _⟩
def iw(n:Nat)(K:W.Frag):List V->Hp->(It->Hp->Prop)->Prop:=λvs a R=>∃ls:List Sq,ls.length=n/\vs=ls.map (λl=>.ref l.1)/\(∀(k:Nat)(l:Sq),ls[k]?=_s l->∃xs,IH K a l.1 xs l.2)/\R (sD K ls) a
theorem MV:∀{ls:List Sq}{us:List _v},AG (ls.map λl=>.ref l.1) us->us=ls.map λl=>.ref l.1
 |[],_,.nil=>rfl
 |_::_,_,.cons r t=>by cases r;rw[MV t];rfl
theorem jS(K:W.Frag){n:Nat}(f:n<=3)(o:0 < n)(g:rC n){e:Expr}{es:List Expr}{ta:TA}{p:Pos}(u:Gl X "zip")(hm:X.mg "zip" = _n)(ha:PA X (e::es) ta)(v:X.K=K:=by rfl)(hs:E3 (e::es) X.env=(_f,N2 e X.env)::E3 es X.env:=by rfl)(c:(P9 pos (E3 es X.env)).any (·.1)=false:=by rfl):PI X (.Tuple elts x1 zAs) (.Call (.Name "zip" p) (e::es) [] pos) λσ H R=>ta σ H λvs d=>iw n K vs d R:=by subst v;intro pins s σ H R I h;refine Call_ (DQ I u hm PyProof.Rows.Boot.«zip» (G5 (BM (ha pos pins s σ H _ I h) λus s1 ⟨vs,d,a,j,ls,r,m,hl,q⟩=>?_) hs c));subst r m;obtain⟨y,x,w⟩:=g ls rfl;obtain⟨B,W,hb⟩:=a.sqs hl;rw[MV j];refine PV f (λk l e=>⟨_,(hb k l e).2.2.1⟩) y x w λh' st t=>?_;refine wI (s:={s1 with heap:=h' }) st.z ?_;refine⟨_,fz s1.heap.objs.size ls.length,λi h=>Zst h s1.heap.objs.size ls i .none,sD X.K ls,d,rfl,a.kept (t':=s1.toks) t,WD _ ls f o λk l e=>(hb k l e).2.2.2,st,λb hb=>?_,q⟩;have hb:=(FF.mp hb).1;exact a.zAR hb (a.hok.fresh hb)
end
theorem Draws.sq{prog:F9}{w:J5}{A:J3}(j:A.handled=_n)(it l:B8)(f:l≠it)(items:Array _v)(b:Bool) :
    Draws prog w A it [it,l] items.size (λi v=>items[i]?=_s v) (λi h=>NZ h it l i b/\Py h l items b) where
  live:=λ_ _ st=>let ⟨o,ho,_⟩:=st.1.obj;⟨o,ho⟩
  frame:=λ_ _ _ st g=>⟨st.1.at λo e=>g it `s o e,st.2.at λo e=>g l `s o e⟩
  item:=λi s Q E hi st k=>by refine SM j st.1 st.2 (λx h' a d c=>k _ h' s.toks a ⟨d,st.2.at λo e=>c.extBut _ _ f e⟩ c) λa=>?_;rw[X4 hi]at a;cases a
  done:=λs Q E st m=>SM j st.1 st.2 (λx h' a=>by rw[Array.getElem?_eq_none (B3 _)]at a;cases a) λ_=>m
def eZ(K:W.Frag)(a:B8)(b:Bool)(n:Nat):It:=
 ⟨λi H=>∃xs x,IH K H a xs b/\xs.length=n/\xs[i]?=_s x,λi H x H'=>∃p y,H p=_n/\x=.ref p/\H'=upd H p (.tup [.int i,y])/\∀xs,IH K H a xs b->xs[i]?=_s y,λi H=>∃xs,IH K H a xs b/\xs.length=n/\n<=i⟩
theorem QN{P:F9}{w:J5}{K:W.Frag}{F:List Expr}{x1}(a e it:B8)(b:Bool)(n:Nat)(m:e≠it)(V:a≠e)(D:a≠it):Turn P w K (.Tuple F x1 pos) (eZ K a b n) [e,it] e (λi h=>(∃old,IsEnum h e it i old)/\NZ h it a i b/\i<=n) where
 mem:=by simp
 obj:=λi h st c hb=>by
  obtain⟨⟨old,he⟩,hi,g⟩:=st;rcases D3.mp hb with z|z
  subst z;exact⟨_,he,λv z=>by cases z⟩;have z:=C4.mp z;subst z;exact hi.obj
 keep:=λi h h' st k=>by obtain⟨⟨old,he⟩,hi,g⟩:=st;exact⟨⟨old,k e `s _ he⟩,hi.at λo q=>k it `s o q,g⟩
 item:=by
  intro X Y M Z S i pins s σ H E I hf st N;subst Y M Z;obtain⟨xs,x,J,hxn,G⟩:=N;obtain⟨⟨old,he⟩,hi,g⟩:=st;obtain⟨d,rv,p,hz⟩:=I.sqB J;obtain⟨u,hu,ru⟩:=rv.get G;have t:i < d.toArray.size:=by have:=(A4.mp hu).1;simpa using this
  refine wpAny_pyNext_enum_itemD (Draws.sq (A:=X.A.in1) (I.ok.hd S) it a D d.toArray b) he ⟨hi,p⟩ t m (by simp[m,V.symm]) λj h1 f L o1 i1 t1 z1 k1=>?_;have ex:j=u:=by have L:d.toArray[i]?=_s j:=L;rw[M0,hu]at L;exact(C5 L).symm
  subst ex;refine⟨_,rfl,wpAny_letOwnedTupleGo_enum (s:={s with heap:=h1,toks:=f+1}) o1 λh2 e2 sb=>?_⟩;have R:e < s.heap.objs.size:=D5 he;have t:it < s.heap.objs.size:=by obtain⟨o,q,_⟩:=hi.obj;exact D5 q
  have O:=I.hok.fresh (B3 s.heap.objs.size);have I1:Inv X pins σ (upd H s.heap.objs.size (.tup [.int i,x])) {s with heap:=s.heap.push {cls:=.type "tuple", data:=.seq #[.int i f,j]},toks:=f+1}:=
   I.laid (λb o q=>A5 _ q) (B3 _) (show BC X.prog X.w _ _ _ (.tup [.int i,x])from⟨by show 2<=sizeLine;decide,[.int i f,j],.cons ⟨_,rfl⟩ (.cons ru .nil),IG.new _ _⟩)
  have y:∀b∈[e,it],zAS X pins (upd H s.heap.objs.size (.tup [.int i,x])) b:=λb hb=>by
   obtain⟨f0,r⟩:=hf b hb;refine⟨?_,r⟩;have T:b≠s.heap.objs.size:=by
    rcases D3.mp hb with z|z
    rw[z];exact E5 R;rw[C4.mp z];exact E5 t
   rw[AD T];exact f0
  have I2:Inv X pins σ (upd H s.heap.objs.size (.tup [.int i,x])) {s with heap:=h2,toks:=f+1}:=by refine Inv.zAv (s:={s with heap:=s.heap.push {cls:=.type "tuple", data:=.seq #[.int i f,j]},toks:=f+1}) (h':=h2) (t':=f+1) (ch:=[e,it]) I1 (λb o hb q=>?_) y;have q:(s.heap.push {cls:=.type "tuple", data:=.seq #[.int i f,j]}).get? b=_s o:=q;have C:b≠e:=λz=>hb (by simp[z]);have U:b≠it:=λz=>hb (by simp[z]);refine(sb.2 b C).trans ?_;by_cases B:b=s.heap.objs.size;subst B;rw[C9 _ rfl]at q;rw[<- q];exact t1;refine k1 b o C U ?_;rw[yT _ _ _ B]at q;exact q
  refine⟨.ref s.heap.objs.size,_,I2,rfl,⟨_,x,O,rfl,rfl,λys hy=>by rw[I.zCX hy J];exact G⟩,⟨⟨j,by simpa using e2⟩,?_,?_⟩,λb hb=>(y b hb).1⟩;exact i1.1.at λo q=>(sb.2 it m.symm).trans q;have:=(A4.mp G).1;omega
 done:=by
  intro X Y M Z S i pins s σ H E I hf st N;subst Y M Z;obtain⟨xs,J,G,hx2⟩:=N;obtain⟨⟨old,he⟩,hi,g⟩:=st;obtain⟨d,rv,p,hz⟩:=I.sqB J;obtain⟨f0,f1,f2,f3,f4,f5⟩:=hf it `s;have hl:=rv.length;have ei:d.toArray.size=i:=by simp;omega
  exact wpAny_pyNext_enum_endD (Draws.sq (A:=X.A.in1) (I.ok.hd S) it a D d.toArray b) he (by rw[ei];exact⟨hi,p⟩) λh' eb=>⟨rfl,I.turned (t':=s.toks) (λb o hb e=>eb b o hb e) f0 f1 f3 f4 f5⟩
 self:=λ_ _ _ _ _ st h=>yU st.1.choose_spec h
theorem Oc(l:B8)(items:Array _v)(n:Nat)(dct:Option B8)(sl:Array (Option _v)) :
    zv (U2.«enumerate.__new__» ⟨[.type "enumerate", .ref l],[]⟩) (λ_ R s=>s.heap.get? l=_s {cls:=.type "tuple", dict:=dct,data:=.seq items n,slots:=sl} /\
      R (.ok (.ret (.ref (s.heap.push {cls:=.type "tuple_iterator", data:=.fields #[.ref l,.int 0 0]}).objs.size)))
        {s with heap:=(s.heap.push {cls:=.type "tuple_iterator", data:=.fields #[.ref l,.int 0 0]}).push {cls:=.type "enumerate", data:=.fields #[.none,.bool _f,.ref s.heap.objs.size,i7 0,.none,.none]} }):=
  .of_wp λprog w A R s h=>by
    obtain⟨j,g,d,f,os⟩:=s;obtain⟨hl,h⟩:=h;have e:=sub_enumerate;have a:Heap.IsTuple (Shared.heap ⟨j,g,d,f,os⟩) l items:=⟨_,hl,rfl,n,rfl⟩
    wp_walk using O6 hl
    refine wpAny_stack_any λst=>A6 ?_;split;rename_i c _ _ _ _ _;cases(c==L9 "enumerate")
    wp_walk using O6 hl,U9 a
    exact⟨_,rfl,h⟩
    wp_walk using O6 hl,U9 a
    exact⟨_,rfl,h⟩
    wp_walk using O6 hl,U9 a
    exact⟨_,rfl,h⟩
section
variable{prog:F9}{w:J5}{A:J3}{E:_v->A7->Prop}{s:A7}
theorem Re{items:Array _v}{Q:_v->A7->Prop}(d:Py s.heap l items b)
    (h:∀h',IsEnum h' (s.heap.objs.size+1) s.heap.objs.size 0 .none->NZ h' s.heap.objs.size l 0 b->h'.objs.size=s.heap.objs.size+2 ->
      (∀b o,s.heap.get? b=_s o->h'.get? b=_s o)->Q (.ref (s.heap.objs.size+1)) {s with heap:=h' }) :
    C8 (D9 prog w) A (call (.type "enumerate") [.ref l]) Q E s:=by
  cases b with
  |false=>exact call_enumerate_list d h
  |true=>
    obtain⟨⟨c,dct,e,sl⟩,hl,a,n,hd⟩:=d;replace a:c=.type "tuple" := a;replace hd:e=.seq items n:=hd;subst a hd;refine callType_new F.called_enumerate `d (F.typeCall_enumerate_1 _) (F.newCall_enumerate_1 _) (λobj=>F.args_object_init_2 obj _) F.entry_enumerate_new
      (Oc l items n dct sl) ⟨hl,?_⟩
    have hz:(s.heap.push {cls:=.type "tuple_iterator", data:=.fields #[.ref l,.int 0 0]}).objs.size=s.heap.objs.size+1:=M9 ..;show _/\_;rw[hz];have he:IsEnum ((s.heap.push {cls:=.type "tuple_iterator", data:=.fields #[.ref l,.int 0 0]}).push
        {cls:=.type "enumerate", data:=.fields #[.none,.bool _f,.ref s.heap.objs.size,i7 0,.none,.none]}) (s.heap.objs.size+1) s.heap.objs.size 0 .none:=by
      have:=C9 (s.heap.push {cls:=.type "tuple_iterator", data:=.fields #[.ref l,.int 0 0]})
        (o:={cls:=.type "enumerate", data:=.fields #[.none,.bool _f,.ref s.heap.objs.size,i7 0,.none,.none]}) rfl
      rw[hz]at this;exact this
    refine⟨⟨_,he,rfl⟩,h _ he ⟨_,A5 _ (C9 _ rfl),rfl,rfl⟩ (by rw[M9,hz]) λb o x=>A5 _ (A5 _ x)⟩
end
section
variable{X:Cx}{elts:List Expr}{x1}{zAs:Pos}
abbrev kq(K:W.Frag)(ta:TA):TI:=λσ H R=>ta σ H λvs c=>∃a b xs,vs=[.ref a]/\IH K c a xs b/\R (eZ K a b xs.length) c
theorem XO(K:W.Frag){a:Expr}{ta:TA}{p:Pos}(u:Gl X "enumerate")(hm:X.mg "enumerate" = _n)(ha:PA X [a] ta)(v:X.K=K:=by rfl)(hs:E3 [a] X.env=[(_f,N2 a X.env)]:=by rfl):PI X (.Tuple elts x1 zAs) (.Call (.Name "enumerate" p) [a] [] pos) (kq K ta):=by
 subst v;intro pins s σ H R I h;refine Call_ (DQ I u hm PyProof.Rows.Boot.«enumerate» (G5 (BM (ha pos pins s σ H _ I h) λus s1 ⟨vs,w,f,k,m⟩=>?_) hs rfl));obtain⟨l,b,xs,e,o,q⟩:=m;subst e;cases k with
 |cons r j=>
  cases j;cases r;obtain⟨n,rv,pl,hz⟩:=f.sqB o;refine Re pl λh' g hI hsz t=>?_;refine yU (s:={s1 with heap:=h' }) g ?_;refine⟨s1.heap.objs.size+1,[s1.heap.objs.size+1,s1.heap.objs.size],_,_,w,rfl,f.kept (t':=s1.toks) t,QN l _ _ b xs.length (Nat.succ_ne_self _) (E5 (va hz)) (E5 hz),⟨⟨_,g⟩,hI,H8 _⟩,λc hb=>?_,q⟩;have d:s1.heap.objs.size<=c:=by
   rcases D3.mp hb with z|z
   rw[z];exact U6 _;rw[C4.mp z];exact B3 _
  exact f.zAR d (f.hok.fresh d)
end
section
variable{X:Cx}{p1 p2 zBw zAU:Pos}{es:List Expr}{e:Expr}{ta:TA}
abbrev Nn(ta:TA):TE:=λσ H Q=>ta σ H λvs a=>∃(i j:Int),(vs=[.int j]/\i=0\/vs=[.int i,.int j])/\(-(2 ^ 62)<=i/\i < 2 ^ 62/\-(2 ^ 62)<=j/\j < 2 ^ 62)/\(j-i).toNat<=1000000/\∀l,a l=_n->Q (.ref l) (upd a l (.lst ((B2 (j-i).toNat).map λk=>.int (i+(k:Nat)))))
theorem LR{A:J3}{E:_v->A7->Prop}{pins:List (B8×Obj)}{σ:St}{H:Hp}{s:A7}{Q:VK}{i j:Int}{t u v:Tok}{g:Nat}(y:A.handled=_n)(I:Inv X pins σ H s)(h1:-(2 ^ 62)<=i)(h2:i < 2 ^ 62)(h3:-(2 ^ 62)<=j)(h4:j < 2 ^ 62)(hl:(j-i).toNat<=1000000)
    (q:∀l,H l=_n->Q (.ref l) (upd H l (.lst ((B2 (j-i).toNat).map λk=>.int (i+(k:Nat)))))) :
    C8 (D9 X.prog X.w) A (call (.type "list") [.ref s.heap.objs.size]) (EP X pins σ Q) E {s with heap:=s.heap.push {cls:=.type "range", data:=.fields #[.int i t,.int j u,.int 1 v]},toks:=g}:=by
  have r:v9 i j 1=((j-i).toNat:Nat):=by rw[rangeSize_one];split<;>omega
  refine call_list_range (n:=(j-i).toNat) y (zAE ..) (small_one h1 h2 h3 h4) r `o λh' f c B x z d=>?_;have kp:∀b o,s.heap.get? b=_s o->h'.get? b=_s o:=λb o e=>x b o (A5 _ e);have hsz:(s.heap.push {cls:=.type "range", data:=.fields #[.int i t,.int j u,.int 1 v]}).objs.size=s.heap.objs.size+1:=M9 ..;have hv:AG ((B2 (j-i).toNat).map λk=>V.int (i+(k:Nat))) c.toList:=by
    have:∀(n m:Nat)(l:List _v),l.length=n->(∀(q:Nat)(v:_v),l[q]?=_s v->∃t,v=.int (i+((m+q:Nat):Int)) t)->AG ((y8 m n).map λk=>V.int (i+(k:Nat))) l:=by
      intro n;induction n with
      |zero=>intro m l e _;cases l with|nil=>exact .nil|cons a b=>cases e
      |succ n p=>
        intro m l e h;cases l with|nil=>cases e|cons a b=>rw[List.range'_succ,B7];refine .cons ?_ (p (m+1) b (by simpa using e) λq v hv=>?_);obtain⟨t,rfl⟩:=h 0 a rfl;exact⟨t,rfl⟩;obtain⟨t,rfl⟩:=h (q+1) v (by simpa using hv);exact⟨t,by rw[j9,z5 1 q]⟩
    rw[List.range_eq_range'];refine this (j-i).toNat 0 c.toList (by simp[d.1]) λq v hv=>?_;obtain⟨t,e⟩:=d.2 q v (by simpa using hv);exact⟨t,by rw[e];simp⟩
  refine⟨.ref _,_,I.laid (t':=f) kp (by rw[hsz];exact U6 _) (show BC X.prog X.w _ h' _ (.lst ((B2 (j-i).toNat).map λk=>.int (i+(k:Nat))))from⟨by rw[C3,W5];exact A8 hl (show 1000000<=sizeLine by decide),c.toList,B,hv,by rw[z]⟩),rfl,q _ (I.hok.fresh (by rw[hsz];exact U6 _))⟩
theorem Qj(v:X.calm=_t)(p:Gl X "list")(n:X.mg "list" = _n)(o:Gl X "range")(m:X.mg "range" = _n)(ha:PA X (e::es) ta)
    (c:E3 [.Call (.Name "range" p2) (e::es) [] zAU] X.env=(_f,N2 (.Call (.Name "range" p2) (e::es) [] zAU) X.env)::E3 [] X.env:=by rfl)
    (f:(P9 zBw (E3 [] X.env)).any (·.1)=false:=by rfl)
    (k:E3 (e::es) X.env=(_f,N2 e X.env)::E3 es X.env:=by rfl) (g:(P9 zAU (E3 es X.env)).any (·.1)=false:=by rfl) :
    PE X (.Call (.Name "list" p1) [.Call (.Name "range" p2) (e::es) [] zAU] [] zBw) (Nn ta):=by
  intro pins s σ H Q I h;refine K9 (DQ I p n PyProof.Rows.Boot.«list» ?_ `d `d);refine G5 ?_ c f;rw[c];show C8 _ _ (zw ((_f,N2 (.Call (.Name "range" p2) (e::es) [] zAU) X.env)::P9 zBw (E3 [] X.env))) _ _ s;refine vC ?_;refine K9 (DQ I o m zO ?_ `d `d);refine G5 (BM (ha zAU pins s σ H _ I h) λus s1 ⟨vs,C,d,u,B⟩=>?_) k g;obtain⟨i,j,ev,⟨z,y,x,w⟩,hl,q⟩:=B;rcases ev with⟨ev,rfl⟩|ev
  subst ev;cases u with|cons r a=>cases a;obtain⟨t,rfl⟩:=r;refine call_range_1 (Y9 ?_);exact LR (d.ok.hd v) d z y x w hl q
  subst ev;cases u with
  |cons r a=>
    cases a with|cons A a=>cases a;obtain⟨t,rfl⟩:=r;obtain⟨t',rfl⟩:=A;refine call_range_2 (Y9 ?_);exact LR (d.ok.hd v) d z y x w hl q
end
end L2
namespace R
open PySem L2
noncomputable def items:Dv->Option (List Dv)
 |.tup ds=>_s ds
 |.lst ds=>_s ds
 |.scr ns=>_s (ns.map .int)
 |_=>_n
def TU(f:Ev Dv):Ev (List Dv):=λR m k=>f R m λd m'=>(items d).bind λds=>k ds m'
section
variable{K:W.Frag}{g:G}{H:Hp}
theorem AI{o:Nat}{i:Int}{v:V}{P:Fp}(h:Rep K g H o (.int i) v P):v=.int i:=by unfold Rep at h;exact h.1
theorem Bz{o:Nat}{i:Int}:Rep K g H o (.int i) (.int i) nop:=by unfold Rep;exact⟨rfl,λ_ z=>z⟩
theorem aV{a:B8}{ds:List Dv}(h:Rep K g H 0 (.lst ds) (.ref a) nop):Yl K (sE K a) ds g H:=by intro f c st;have h2:=st.rep h;unfold Rep at h2;obtain⟨b,vs,P',e,h1,h2,_⟩:=h2;cases e;have sq:Dl K c a vs:=.inl (.inl h1.1);refine⟨λi d e=>?_,λi hi=>⟨vs,sq,by rw[<- h2.len];exact hi⟩⟩;obtain⟨v,P,ev,rv,_⟩:=h2.get e;refine⟨⟨vs,v,sq,ev⟩,λx j y=>?_⟩;obtain⟨rfl,y⟩:=y;have:=y vs sq;rw[ev]at this;cases this;exact Ad.old rv.z
theorem hV{a:B8}{ds:List Dv}(h:Rep K g H 0 (.tup ds) (.ref a) nop):Yl K (tV K a) ds g H:=by intro f c st;have h2:=st.rep h;unfold Rep at h2;obtain⟨b,vs,e,h1,h2⟩:=h2;cases e;have sq:Fo K c a vs:=.inl (.inl h1);refine⟨λi d e=>?_,λi hi=>⟨vs,sq,by rw[<- h2.len];exact hi⟩⟩;obtain⟨v,P,ev,rv,_⟩:=h2.get e;refine⟨⟨vs,v,sq,ev⟩,λx j y=>?_⟩;obtain⟨rfl,y⟩:=y;have:=y vs sq;rw[ev]at this;cases this;exact Ad.old rv.z
theorem hW{a:B8}{ns:List Int}(h:Rep K g H 0 (.scr ns) (.ref a) nop):Yl K (sE K a) (ns.map .int) g H:=by
 intro c j st;have h2:=st.rep h;unfold Rep at h2;obtain⟨⟨b,e,h1⟩,_⟩:=h2;cases e;have sq:=h1.sq;refine⟨λi d e=>?_,λi hi=>⟨_,sq,by rw[C3]at hi ⊢;exact hi⟩⟩;rw[D0]at e;cases q:ns[i]? with|none=>rw[q]at e;cases e|some k=>rw[q]at e;cases e;refine⟨⟨_,.int k,sq,by rw[D0,q];rfl⟩,λx f y=>?_⟩;obtain⟨rfl,y⟩:=y;have:=y _ sq;rw[D0,q]at this;cases this;exact Ad.old Bz
theorem Nf{lo:Int}{n:Nat}:Yl K (mY lo n) ((B2 n).map λk=>.int (lo+(k:Nat))) g H:=by intro a c st;refine⟨λi d e=>?_,λi hi=>by rw[C3,W5]at hi;exact hi⟩;obtain⟨hi,rfl⟩:=Fe e;refine⟨hi,λx b y=>?_⟩;obtain⟨rfl,rfl⟩:=y;exact Ad.old Bz
end
section
variable{X:Cx}{tg e a b:Expr}{es:List Expr}{f:Ev Dv}{p pos:Pos}{Γ Γ':Gm}{js:List Nat}{as:List Ar}
theorem pT(h:PE X e (tE X.K Γ 0 Γ' js f)):PI X tg e (tI X.K Γ Γ' js (TU f)):=PI.imp (jT h) λσ H Q q=>by
 obtain⟨g,m,P,r,R,k,res,e,q⟩:=q;refine⟨g,m,P,r,R,_,res,e,λd m' g' P' Pv v H' u t s rv l n=>?_⟩;obtain⟨ds,j,o⟩:=zAj u;have s':Step g P H g' P' H':=s.less λ_ z=>.inl z;have i:=rv.z;cases d with|tup es=>cases j;have c:=i;unfold Rep at c;obtain⟨a,vs,rfl,h1,h2⟩:=c;exact⟨a,vs,rfl,.inr ⟨.inl (.inl h1),q _ m' g' P' H' _ o t s' l (hV i)⟩⟩|lst es=>cases j;have c:=i;unfold Rep at c;obtain⟨a,vs,P1,rfl,h1,h2,_⟩:=c;exact⟨a,vs,rfl,.inl ⟨.inl (.inl h1.1),q _ m' g' P' H' _ o t s' l (aV i)⟩⟩|scr ns=>cases j;have c:=i;unfold Rep at c;obtain⟨⟨a,rfl,h1⟩,_⟩:=c;exact⟨a,_,rfl,.inl ⟨h1.sq,q _ m' g' P' H' _ o t s' l (hW i)⟩⟩|_=>cases j
def Rr(K:W.Frag)(p:List Dv->Option (List Dv))(r:List V->Hp->(It->Hp->Prop)->Prop):Prop:=∀g H ds vs c Q,Zd g H->AA K g H 0 ds vs nop->p ds=_s c->(∀J H',NY H H'->Yl K J c g H'->Q J H')->r vs H Q
def gO(p:List Dv->Option (List Dv))(d:Ev (List Dv)):Ev (List Dv):=λR m k=>d R m λds m'=>(p ds).bind λc=>k c m'
abbrev gI(r:List V->Hp->(It->Hp->Prop)->Prop)(ta:TA):TI:=λσ H Q=>ta σ H λvs c=>r vs c Q
theorem aw{K:W.Frag}{pr:List Dv->Option (List Dv)}{r:List V->Hp->(It->Hp->Prop)->Prop}(n:Rr K pr r)(c:AF Γ as Γ' js)(he:Nb as=_t){σ:St}{H:Hp}{Q:It->Hp->Prop}(h:tI K Γ Γ' js (gO pr (AQ as)) σ H Q):gI r (Bd K as) σ H Q:=by obtain⟨g,m,P,rl,y,k,res,e,q⟩:=h;refine AM as rl c e λds m' g' P' vs x o v s ar j=>?_;refine zAQ o λd u t=>?_;exact n g' x ds vs d Q j.zd (ar.zBi he) u λJ w i l=>q d m' g' P' w J t v ((s.trans (Step.same i)).less λ_ z=>z) (j.same i) l
noncomputable def small(i:Int):Bool:=-1000000000<=i&&i<=1000000000
theorem Cw{i:Int}(h:small i=_t):-1000000000<=i/\i<=1000000000:=by unfold small at h;rw[A3,decide_eq_true_eq,decide_eq_true_eq]at h;exact h
def DL(ds:List Dv):Option (List Dv):=match ds with
 |[.int n]=>bif small n then _s ((B2 n.toNat).map λk=>.int (0+(k:Nat)))else _n
 |_=>_n
def UL(ds:List Dv):Option (List Dv):=match ds with
 |[.int i,.int n]=>bif small i&&small n then _s ((B2 (n-i).toNat).map λk=>.int (i+(k:Nat)))else _n
 |_=>_n
def oJ:List V->Hp->(It->Hp->Prop)->Prop:=λvs c R=>∃j:Int,vs=[.int j]/\-(2 ^ 62)<=j/\j < 2 ^ 62/\R (mY 0 j.toNat) c
def oI:List V->Hp->(It->Hp->Prop)->Prop:=λvs c R=>∃i j:Int,vs=[.int i,.int j]/\(-(2 ^ 62)<=i/\i < 2 ^ 62/\-(2 ^ 62)<=j/\j < 2 ^ 62)/\R (mY i (j-i).toNat) c
theorem WZ{K:W.Frag}:Rr K DL oJ:=λg H ds vs d Q zd ra e q=>by
 unfold DL at e;split at e;rename_i n;cases c:small n with|false=>rw[c]at e;cases e|true=>rw[c]at e;cases e;have i:=Cw c;unfold AA at ra;obtain⟨v,h,_,_,rfl,h1,h2,_⟩:=ra;unfold AA at h2;obtain⟨rfl,_⟩:=h2;rw[AI h1];exact⟨n,rfl,by omega,by omega,q _ H (λ_ _ z=>z) Nf⟩
 cases e
theorem WY{K:W.Frag}:Rr K UL oI:=λg H ds vs h Q zd ra e q=>by
 unfold UL at e;split at e;rename_i i n;cases c:small i&&small n with|false=>rw[c]at e;cases e|true=>rw[c]at e;cases e;rw[A3]at c;have hi:=Cw c.1;have l:=Cw c.2;unfold AA at ra;obtain⟨v,j,_,_,rfl,h1,h2,_⟩:=ra;unfold AA at h2;obtain⟨k,d,_,_,rfl,h3,h4,_⟩:=h2;unfold AA at h4;obtain⟨rfl,_⟩:=h4;rw[AI h1,AI h3];exact⟨i,n,rfl,by omega,q _ H (λ_ _ z=>z) Nf⟩
 cases e
end
structure Sig:Type 1 where
 ps:List Str
 io:List Nat
 ro:Nat
 nb:Bool
 fn:List Dv->Option (Dv×List Dv)
 cps:(R:Type)->List Dv->(Dv->List Dv->Option R)->Option R
 eq:∀R ds k,cps R ds k=(fn ds).bind λp=>k p.1 p.2
 cl:Option Str:=_n
def QD(n:Nat)(io:List Nat):Gm:=(B2 n).map λi=>_s (if io.contains i then 1 else 0)
def Bk(K:W.Frag)(g:G)(H:Hp)(io:List Nat)(bs:List Dv)(vs:List V)(P:Fp):Prop:=Rel K g H (io.map λ_=>_s 1) bs (io.map λi=>(vs[i]?).map id) P
inductive spF (K:W.Frag) (s:Sig) (vs:List V) (H:Hp) (Q:VK) (_:XK):Prop
 |mk (g:G) (ds:M) (P:Fp) (a:Rel K g H (QD s.ps.length s.io) ds (vs.map _s) P) (d:Dv) (bs:List Dv) (b:s.fn ds=_s (d,bs)) (c:∀g' H' v Pv Pb,Step g P H g' (λa=>Pv a\/Pb a) H'->Rep K g' H' s.ro d v Pv->Bk K g' H' s.io bs vs Pb->Bg Pv Pb->Q v H')
def Qb(n:Nat)(io:List Nat):Gm:=(B2 n).map λi=>if io.contains i then _s 1 else _n
def dU(n p:Nat)(io:List Nat):Gm:=QD p io++B6 (n-p) _n
section
variable{K:W.Frag}{g:G}{H:Hp}
theorem Rel.pad{Γ:Gm}{m:M}{vs:List V}{P:Fp}(h:Rel K g H Γ m (vs.map _s) P)(n:Nat):Rel K g H (Γ++B6 n _n) (m++B6 n .non) (vs.map _s++B6 n _n) P:=by
 obtain⟨zd,F,h1,h4⟩:=h;have old:∀{i o:Nat},(Γ++B6 n _n)[i]?=_s (_s o)->i < Γ.length/\Γ[i]?=_s (_s o):=fun{i o} e=>by by_cases z:i < Γ.length;rw[E6 z]at e;exact⟨z,e⟩;rw[J7 `o,wA]at e;split at e<;>cases e
 refine⟨zd,F,⟨by simp[h1.l1],by have:=h1.l2;simp at this ⊢;omega,λi o e=>?_,λi e=>?_,h1.dj⟩,h4⟩;obtain⟨hi,e⟩:=old e;obtain⟨d,v,b,a,r⟩:=h1.rep i o e;exact⟨d,v,by rw[E6 (by rw[h1.l1];exact hi)];exact b,by rw[E6 (by rw[h1.l2];exact hi)];exact a,r⟩;refine h1.out i λo z=>e o ?_;rw[E6 (A4.mp z).1];exact z
theorem Rel.pick{Γ:Gm}{m:M}{σ:St}{P:Fp}{io:List Nat}(h:Rel K g H Γ m σ P)(nd:io.Nodup)(hl:∀i∈io,Γ[i]?=_s (_s 1)):∃P',Rel K g H (io.map λ_=>_s 1) (io.map m.at) (io.map λi=>(σ[i]?).join) P'/\∀a,P' a->P a:=by
 obtain⟨zd,F,h1,h4⟩:=h;refine⟨λa=>∃j i,io[j]?=_s i/\F i a,⟨zd,λj a=>∃i,io[j]?=_s i/\F i a,⟨by simp,by simp,λj o e=>?_,λj e a ⟨i,u,_⟩=>?_,λj k n a ⟨i,f,t⟩ ⟨b,c,s⟩=>?_⟩,λ_=>q9⟩,λa ⟨j,i,_,q⟩=>(h4 a).mpr ⟨i,q⟩⟩;rw[D0]at e;cases ej:io[j]? with
 |none=>rw[ej]at e;cases e
 |some i=>rw[ej]at e;cases e;obtain⟨d,v,f,c,r⟩:=h1.rep i 1 (hl i (K1 ej));have eq:(λa=>∃b,_s i=_s b/\F b a)=F i:=funext λa=>propext ⟨fun⟨b,z,q⟩=>by cases z;exact q,λq=>⟨i,rfl,q⟩⟩;exact⟨d,v,by rw[D0,ej,F0,MF f],by rw[D0,ej,F0,c];rfl,by show Rep K g H 1 d v λa=>∃b,_s i=_s b/\F b a;rw[eq];exact r⟩
 refine e 1 ?_;rw[D0,u];rfl;by_cases z:i=b;subst z;refine n ?_;have p:=(A4.mp f);have l:=(A4.mp c);exact(v8 (h₀:=p.1) (h₁:=l.1) nd).mp (p.2.trans l.2.symm);exact h1.dj i b z a t s
end
theorem qM{P:F9}{w:J5}{K:W.Frag}{mg:Str->Option _v}{base:K4}{x qual:Str}{st:N4}{f:B8}{fd:S2}{N:List Str}{k:Nat}{s:Sig}(Z:Fun K x qual st f fd)(S:zBD N s.ps (AK st))(nd:s.io.Nodup)(l:∀i∈s.io,i < s.ps.length)(hn:s.ps.length<=N.length)
    {body:Es} {Γn:Option Gm} {js:List Nat} (J:Na (_s (Qb N.length s.io)) Γn=_t)
    (hb:∀(cdv:_v)(A:J3)(outer:List Env)(s':A7)(H:Hp)(E:XK),zAV k (A.deeper (zAK qual (AK st) s'.heap.objs.size f cdv))->FR (PP Rw P w K mg base N qual (AK st) f cdv A outer s' H E).nox (Ay st) (tS K ⟨s.io,Qb N.length s.io,s.ro⟩ _n (dU N.length s.ps.length s.io) Γn js body))
    (t:∀ds d bs,ds.length=s.ps.length->s.fn ds=_s (d,bs)->∃(R:Type)(k:Kt R)(r:R),body R (ds++B6 (N.length-s.ps.length) .non) k=_s r/\(∀m,k.nx m=_s r->d=.non/\bs=s.io.map m.at)/\(∀d' m,k.rt d' m=_s r->d=d'/\bs=s.io.map m.at)):zAb P w K mg base Rw (k+1) f fd s.ps (spF K s):=by
  have I:∀n io,(QD n io).length=n:=λn io=>by unfold QD;simp
  refine Z.ok S (λvs H Q E h=>?_) λcdv A outer s' H vs Q E U h=>⟨_,hb cdv A outer s' H E U,?_⟩;obtain⟨g,ds,o,r,_⟩:=h;have:=r.len.2;rw[I]at this;simpa using this
  · obtain⟨g,ds,o,r,d,bs,e,q⟩:=h;have l1:=r.len.1;have l2:=r.len.2;rw[I]at l1 l2;rw[C3]at l2;have T:Rel K g H (dU N.length s.ps.length s.io) (ds++B6 (N.length-s.ps.length) .non) (L2.start N vs) o:=by unfold L2.start dU;rw[l2];exact r.pad _
    have hv:∀{σ':St},Io s.io (L2.start N vs) σ'->∀i∈s.io,(σ'[i]?).join=vs[i]?:=fun{σ'} hi i hm=>by
      rw[hi i hm];unfold L2.start;have hl:i < vs.length:=by rw[l2];exact l i hm
      rw[E6 (by simpa using hl),D0];cases vs[i]?<;>rfl
    have L:∀i∈s.io,(Qb N.length s.io)[i]?=_s (_s 1):=λi hi=>by unfold Qb;rw[D0,O3 (by have:=l i hi;omega),F0,if_pos (D1.mpr hi)]
    obtain⟨Y,kt,rt,C,y,u⟩:=t ds d bs l1 e;have fin:∀{d':Dv}{m':M}{g':G}{P' Pv:Fp}{σ':St}{v:V}{H':Hp},d=d'/\bs=s.io.map m'.at->Step g o H g' (λa=>P' a\/Pv a) H'->Io s.io (L2.start N vs) σ'->Rep K g' H' s.ro d' v Pv->Rel K g' H' (Qb N.length s.io) m' σ' P'->Bg P' Pv->Q v H':=fun{d' m' g' P' Pv σ' v H'} j st io rv c n=>by
      obtain⟨rfl,rfl⟩:=j;obtain⟨Pb,B,F⟩:=c.pick nd L;refine q g' H' v Pv Pb (st.less λa z=>z.elim .inr λz=>.inl (F a z)) rv ?_ λa z w=>n a (F a w) z;have e:(s.io.map λi=>(σ'[i]?).join)=s.io.map λi=>(vs[i]?).map id:=I9 λi hi=>by rw[hv io i hi];cases vs[i]?<;>rfl
      unfold Bk;rw[<- e];exact B
    refine⟨g,_,o,T,Y,kt,rt,C,⟨λΓ' m' g' P' σ' H' D j X b p c=>?_,λd' m' g' P' Pv σ' v H' j X b p rv c n=>fin (u d' m' j) b p rv c n,(λ_ _ _ _ _ _ z=>by cases z),λ_ _ _ _ _ _ z=>by cases z⟩⟩;subst D;obtain⟨g2,P2,s2,O⟩:=c.weaken (by unfold Na at J;exact J);exact fin (Pv:=nop) (v:=.non) (y m' j) ((b.trans s2).less λ_ z=>z.elim id E7) p (by unfold Rep;exact⟨rfl,λ_ z=>z⟩) O λ_ _ z=>z
noncomputable def Fw(as:List Ar)(i:Nat):Option Nat:=match as[i]? with|some (.rf j)=>_s j|_=>_n
def slots(as:List Ar)(io:List Nat):List Nat:=io.map λi=>(Fw as i).getD 0
noncomputable def Ua:Ar->Bool
 |.fd _ _=>_f
 |_=>_t
def fU(as:List Ar)(io:List Nat):Bool:=as.all Ua&&(B2 as.length).all λi=>((Fw as i).isSome==io.contains i)&&(B2 as.length).all λj=>i==j||(Fw as i).isNone||(Fw as i != Fw as j)
noncomputable def Jf:List Nat->List Dv->M->M
 |s::sl,b::bs,m=>Jf sl bs (m.set s b)
 |_,_,m=>m
def NA(s:Sig)(as:List Ar):Ev Dv:=λR m k=>AQ as R m λds a=>s.cps R ds λd bs=>k d (Jf (slots as s.io) bs a)
theorem Je:∀(sl:List Nat)(bs:List Dv)(m:M),(Jf sl bs m).length=m.length
 |[],_,_=>rfl
 |_::_,[],_=>rfl
 |s::sl,b::bs,m=>by unfold Jf;rw[Je,D8]
theorem Gi:∀(sl:List Nat)(bs:List Dv)(m:M)(j:Nat),j∉sl->(Jf sl bs m)[j]?=m[j]?
 |[],_,_,_,_=>rfl
 |_::_,[],_,_,_=>rfl
 |s::sl,b::bs,m,j,h=>by unfold Jf;rw[Gi sl bs _ j λz=>h (A9 _ z),E4 λz=>h (by rw[z];exact B1)]
theorem Sa:∀(sl:List Nat)(bs:List Dv)(m:M)(k j:Nat)(b:Dv),sl.Nodup->sl[k]?=_s j->bs[k]?=_s b->j < m.length->(Jf sl bs m)[j]?=_s b
 |[],_,_,k,_,_,_,h,_,_=>by simp at h
 |_::_,[],_,k,_,_,_,_,h,_=>by simp at h
 |s::sl,c::bs,m,k,j,b,nd,h1,h2,hl=>by
  unfold Jf;rw[X9]at nd;cases k with|zero=>simp at h1 h2;subst h1 h2;rw[Gi sl bs _ s nd.1,F8 hl]|succ k=>exact Sa sl bs _ k j b nd.2 (by simpa using h1) (by simpa using h2) (by rw[D8];exact hl)
theorem Ww(sl:List Nat)(bs:List Dv)(m:M):Bm sl m (Jf sl bs m):=⟨Je ..,λi h=>by unfold M.at;rw[D7,D7,Gi sl bs m i h]⟩
section
variable{K:W.Frag}{g:G}{H:Hp}{σ:St}{Γ Γ':Gm}{js:List Nat}{m:M}{P:Fp}{as:List Ar}
theorem BE.len:∀{as:List Ar}{ds:List Dv}{vs:List V},BE K g H Γ m σ as ds vs->ds.length=as.length/\vs.length=as.length
 |[],ds,vs,h=>by unfold BE at h;obtain⟨rfl,rfl⟩:=h;exact⟨rfl,rfl⟩
 |.ev _ _ _ _::as,ds,vs,h=>by unfold BE at h;obtain⟨d,v,b,a,rfl,rfl,_,h2⟩:=h;simp[h2.len.1,h2.len.2]
 |.rf i::as,ds,vs,h=>by unfold BE at h;obtain⟨v,b,a,rfl,rfl,_,_,h3⟩:=h;simp[h3.len.1,h3.len.2]
 |.fd i _::as,ds,vs,h=>by unfold BE at h;obtain⟨d,v,b,a,rfl,rfl,_,_,h3⟩:=h;simp[h3.len.1,h3.len.2]
theorem BE.get:∀{as:List Ar}{ds:List Dv}{vs:List V}{i:Nat},as.all Ua=_t->BE K g H Γ m σ as ds vs->i < as.length->∃d v,ds[i]?=_s d/\vs[i]?=_s v/\((∃j,Fw as i=_s j/\d=m.at j/\σ[j]?=_s (_s v))\/(Fw as i=_n/\Rep K g H 0 d v nop))
 |[],_,_,i,_,_,h=>by simp at h
 |.fd _ _::as,ds,vs,i,a,h,hi=>by simp[Ua]at a
 |.ev _ _ _ f::as,ds,vs,i,a,h,hi=>by
  unfold BE at h;obtain⟨d,v,k,b,rfl,rfl,h1,h2⟩:=h;cases i with|zero=>exact⟨d,v,rfl,rfl,.inr ⟨rfl,h1⟩⟩|succ i=>obtain⟨d,v,e,c,z⟩:=h2.get (i:=i) (by simpa[Ua]using a) (by simpa using hi);exact⟨d,v,by simpa using e,by simpa using c,z⟩
 |.rf j::as,ds,vs,i,a,h,hi=>by
  unfold BE at h;obtain⟨v,k,b,rfl,rfl,h1,_,h3⟩:=h;cases i with|zero=>exact⟨_,v,rfl,rfl,.inl ⟨j,rfl,rfl,h1⟩⟩|succ i=>obtain⟨d,v,e,c,z⟩:=h3.get (i:=i) (by simpa[Ua]using a) (by simpa using hi);exact⟨d,v,by simpa using e,by simpa using c,z⟩
theorem Gh{i j:Nat}(h:Fw as i=_s j):i < as.length:=by
 unfold Fw at h;cases e:as[i]? with|none=>rw[e]at h;cases h|some a=>exact(A4.mp e).1
theorem iW{io:List Nat}(h:fU as io=_t):(∀i,i < as.length->((Fw as i).isSome=_t↔i∈io))/\∀i a j,Fw as i=_s j->Fw as a=_s j->i=a:=by unfold fU at h;rw[A3]at h;replace h:=h.2;rw[G4]at h;refine⟨λi hi=>?_,λi a j e b=>?_⟩;have:=h i (P8.mpr hi);rw[A3,beq_iff_eq]at this;rw[this.1,D1];have:=h i (P8.mpr (Gh e));rw[A3,G4]at this;have:=this.2 a (P8.mpr (Gh b));rw[e,b]at this;simp at this;exact this
theorem Vb{s:Sig}{C:G}{J:Hp}{A:M}{P1:Fp}{ds:List Dv}{vs:List V}{d:Dv}{bs:List Dv}(hs:fU as s.io=_t)(Z:as.length=s.ps.length)(nd:s.io.Nodup)(hio:∀i∈s.io,i < s.ps.length)(hl:∀i∈slots as s.io,Γ'[i]?=_s (_s 1)){Q:VK}
    (r1:Rel K C J Γ' A σ P1) (ar:BE K C J Γ' A σ as ds vs) (e1:s.fn ds=_s (d,bs))
    (q:∀N P2 Pv v I,Step C P1 J N (λa=>P2 a\/Pv a) I->Rep K N I s.ro d v Pv->Rel K N I Γ' (Jf (slots as s.io) bs A) σ P2->Bg P2 Pv->Q v I):spF K s vs J Q E0:=by
  obtain⟨Y,X⟩:=iW hs;have nf:as.all Ua=true:=by unfold fU at hs;rw[A3]at hs;exact hs.1
  have r1':=r1;obtain⟨zd,F,h1,h4⟩:=r1'
  -- the slots,one by one
  have sl:∀{i j:Nat},Fw as i=_s j->i∈s.io/\j∈slots as s.io:=fun{i j} e=>by have hi:=(Y i (Gh e)).mp (by rw[e];rfl);exact⟨hi,J8.mpr ⟨i,hi,by rw[e];rfl⟩⟩
  have r:∀{i:Nat},i∈s.io->∃j,Fw as i=_s j:=fun{i} hi=>O7.mp ((Y i (by rw[Z];exact hio i hi)).mpr hi);have U:(slots as s.io).Nodup:=by unfold slots;rw[vO,List.pairwise_map];refine(vO.mp nd).imp_of_mem fun{a b} ha hb n z=>?_;obtain⟨ja,ea⟩:=r ha;obtain⟨jb,eb⟩:=r hb;rw[ea,eb]at z;simp only[Option.getD_some]at z;subst z;exact n (X a b ja ea eb)
  let T:Nat->Fp:=λi a=>∃j,Fw as i=_s j/\F j a
  have al:=ar.len;have rA:Rel K C J (QD s.ps.length s.io) ds (vs.map _s) λa=>∃i,T i a:=by
    refine⟨zd,T,⟨by unfold QD;simp;rw[al.1,Z],by unfold QD;simp;rw[al.2,Z],λi o O=>?_,λi O a ⟨j,c,_⟩=>?_,λi i' n a ⟨j,c,z⟩ ⟨L,D,z'⟩=>?_⟩,λ_=>q9⟩;obtain⟨hi,eo⟩:=Fe O;obtain⟨d',v,S,E,z⟩:=ar.get (i:=i) nf (by rw[Z];exact hi);refine⟨d',v,S,by rw[D0,E];rfl,?_⟩;rcases z with⟨j,c,rfl,hv⟩|⟨c,z⟩
    have:o=1:=by have:=C5 eo;rw[if_pos (D1.mpr (sl c).1)]at this;exact this
    subst this;obtain⟨d3,v3,e3,e4,r3⟩:=h1.rep j 1 (hl j (sl c).2);rw[hv]at e4;cases e4;have eq:T i=F j:=funext λa=>propext ⟨fun⟨L,z,q⟩=>by rw[c]at z;cases z;exact q,λq=>⟨j,c,q⟩⟩;rw[MF e3,eq];exact r3;have:o=0:=by have:=C5 eo;rw[if_neg λw=>?_]at this;exact this;obtain⟨j,w⟩:=r (D1.mp w);rw[c]at w;cases w
    subst this;have eq:T i=nop:=Fh λa ⟨j,w,_⟩=>by rw[c]at w;cases w
    rw[eq];exact z;refine O (if s.io.contains i then 1 else 0) ?_;unfold QD;rw[D0,O3 (by rw[<- Z];exact Gh c)];rfl;by_cases w:j=L;subst w;exact n (X i i' j c D);exact h1.dj j L w a z z'
  let Fr:Nat->Fp:=λj a=>j∉slots as s.io/\F j a
  have rr:Rel K C J (QF (slots as s.io) Γ') A σ λa=>∃j,Fr j a:=by refine⟨zd,Fr,⟨by unfold QF;simp;exact h1.l1,by unfold QF;simp;exact h1.l2,λj o c=>?_,λj c a ⟨n,z⟩=>?_,λi j n a q z=>h1.dj i j n a q.2 z.2⟩,λ_=>q9⟩;obtain⟨nj,c⟩:=Eg c;obtain⟨d',v,S,E,z⟩:=h1.rep j o c;have eq:Fr j=F j:=funext λa=>propext ⟨λw=>w.2,λw=>⟨nj,w⟩⟩;exact⟨d',v,S,E,by rw[eq];exact z⟩;refine h1.out j (λo w=>c o ?_) a z;unfold QF;have p:=(A4.mp w).1;rw[D0,O3 p,F0,if_neg (λq=>n (D1.mp q)),D7,w];rfl
  have dA:Bg (λa=>∃j,Fr j a) λa=>∃i,T i a:=λa ⟨j,nj,z⟩ ⟨i,L,c,z'⟩=>by by_cases w:j=L;subst w;exact nj (sl c).2;exact h1.dj j L w a z z'
  have okA:zAS C J λa=>∃i,T i a:=rA.zAR;refine⟨C,ds,_,rA,d,bs,e1,λN I v Pv Pb s2 rv hb n=>?_⟩;have rr2:=rr.held s2 okA dA;have dB:Bg (λa=>∃j,Fr j a) λa=>Pv a\/Pb a:=s2.out rr.zAR dA;obtain⟨zd2,Fq,q1,q4⟩:=rr2;obtain⟨zb,Fb,b1,b4⟩:=hb;have lb:bs.length=s.io.length:=by have:=b1.l1;simpa using this
  have fq:∀{a:B8},(∃j,Fr j a)↔∃j,Fq j a:=fun{a}=>q4 a
  let Fz:Nat->Fp:=λj a=>(∃k,(slots as s.io)[k]?=_s j/\Fb k a)\/Fq j a
  have nq:∀j∈slots as s.io,∀a,¬Fq j a:=λj p=>q1.out j λo w=>(Eg w).1 p;have rz:Rel K N I Γ' (Jf (slots as s.io) bs A) σ λa=>∃j,Fz j a:=by
    refine⟨zd2,Fz,⟨by rw[Je];exact h1.l1,h1.l2,λj o c=>?_,λj c a z=>?_,λi j n' a z w=>?_⟩,λ_=>q9⟩;have hjl:j < A.length:=by rw[h1.l1];exact(A4.mp c).1
    by_cases p:j∈slots as s.io;obtain⟨kk,h⟩:=m6 p;have t:kk < s.io.length:=by have:=(A4.mp h).1;unfold slots at this;simpa using this
    rw[hl j p]at c;cases c;obtain⟨b,u,c1,c2,c3⟩:=b1.rep kk 1 (by rw[D0,A2 t];rfl);have O:(slots as s.io)[kk]?=_s ((Fw as s.io[kk]).getD 0):=by unfold slots;rw[D0,A2 t];rfl
    obtain⟨jj,y⟩:=r (K7 t);rw[h,y]at O;have zGL:j=jj:=C5 O;subst zGL;obtain⟨d3,v3,S,E,z3⟩:=ar.get (i:=s.io[kk]) nf (Gh y);rw[D0,A2 t,F0,E]at c2;have eu:u=v3:=by simpa using c2.symm
    subst eu;have hv:σ[j]?=_s (_s u):=by
      rcases z3 with⟨j2,l,_,z3⟩|⟨l,_⟩
      rw[y]at l;cases l;exact z3;rw[y]at l;cases l
    have eq:Fz j=Fb kk:=funext λa=>propext ⟨λw=>w.elim (fun⟨B,h',w⟩=>by have x:=A4.mp h;have f:=A4.mp h';have:B=kk:=(v8 (h₀:=f.1) (h₁:=x.1) U).mp (f.2.trans x.2.symm);exact this▸w) λw=>(nq j p a w).elim,λw=>.inl ⟨kk,h,w⟩⟩
    exact⟨b,u,Sa _ bs A kk j b U h c1 hjl,hv,by rw[eq];exact c3⟩;have D:(QF (slots as s.io) Γ')[j]?=_s (_s o):=by unfold QF;rw[D0,O3 (A4.mp c).1,F0,if_neg (λw=>p (D1.mp w)),D7,c];rfl
    obtain⟨d3,v3,S,E,r3⟩:=q1.rep j o D;have eq:Fz j=Fq j:=funext λa=>propext ⟨λw=>w.elim (fun⟨B,h',_⟩=>(p (K1 h')).elim) id,.inr⟩;exact⟨d3,v3,by rw[Gi _ _ _ _ p];exact S,E,by rw[eq];exact r3⟩;rcases z with⟨B,h',z⟩|z
    exact c 1 (hl j (K1 h'));refine q1.out j (λo w=>c o (Eg w).2) a z;rcases z with⟨k1,x,z⟩|z
    rcases w with⟨k2,f,w⟩|w
    by_cases kk:k1=k2;subst kk;rw[x]at f;exact n' (C5 f);exact b1.dj k1 k2 kk a z w;exact dB a (fq.mpr ⟨j,w⟩) (.inr ((b4 a).mpr ⟨k1,z⟩));rcases w with⟨k2,f,w⟩|w
    exact dB a (fq.mpr ⟨i,z⟩) (.inr ((b4 a).mpr ⟨k2,w⟩));exact q1.dj i j n' a z w
  refine q N _ Pv v I ((s2.frame (R:=λa=>∃j,Fr j a)).sub (λa z=>?_) λa z=>?_) rv rz λa z w=>?_;rcases z with⟨i,j,_,z⟩|⟨j,_,z⟩
  exact(h4 a).mpr ⟨j,z⟩;exact(h4 a).mpr ⟨j,z⟩;rcases z with⟨j,z⟩|z
  rcases z with⟨B,_,z⟩|z
  exact .inl (.inr ((b4 a).mpr ⟨B,z⟩));exact .inr (fq.mpr ⟨j,z⟩);exact .inl (.inl z);obtain⟨j,z⟩:=z;rcases z with⟨B,_,z⟩|z
  exact n a w ((b4 a).mpr ⟨B,z⟩);exact dB a (fq.mpr ⟨j,z⟩) (.inl w)
theorem PZ{s:Sig}(c:AF Γ as Γ' js)(hs:fU as s.io=_t)(u:as.length=s.ps.length)(nd:s.io.Nodup)(b:∀i∈s.io,i < s.ps.length)(hl:∀i∈slots as s.io,Γ'[i]?=_s (_s 1)){Q:VK}
    (h:tE K Γ s.ro Γ' (js++slots as s.io) (NA s as) σ H Q):Bd K as σ H λvs j=>spF K s vs j Q E0:=by
  obtain⟨g,m,P,r,R,k,res,e,q⟩:=h;refine AM as r c e λds t B P1 vs j f z st ar p=>?_;rw[s.eq]at f;refine zAQ f λl y x=>?_;obtain⟨d,bs⟩:=l;exact Vb hs u nd b hl p ar y λw P2 Pv v A a rv o n=>q d _ w P2 Pv v A x (z.trans (Ww _ bs t)) (st.trans a) rv o n
mutual
noncomputable def UZ:Dv->Bool
 |.non|.bl _|.int _|.str _=>_t
 |.tup ds=>Qr ds
 |_=>_f
noncomputable def Qr:List Dv->Bool
 |[]=>_t
 |d::ds=>UZ d&&Qr ds
end
mutual
theorem Mh{g':G}:∀{o o':Nat}{d:Dv}{v:V}{Pv:Fp},Rep K g' H o d v Pv->UZ d=_t->Rep K g H o' d v nop
 |_,_,.non,_,_,h,_|_,_,.bl _,_,_,h,_|_,_,.int _,_,_,h,_|_,_,.str _,_,_,h,_=>by unfold Rep at h ⊢;exact⟨h.1,λ_ z=>z⟩
 |_,_,.tup ds,v,_,h,e=>by unfold Rep at h ⊢;obtain⟨a,vs,b,h1,h2⟩:=h;unfold UZ at e;exact⟨a,vs,b,h1,OV h2 e⟩
 |_,_,.lst _,_,_,_,e|_,_,.dct _ _,_,_,_,e|_,_,.ref _,_,_,_,e|_,_,.scr _,_,_,_,e|_,_,.ty _,_,_,_,e|_,_,.mtp _,_,_,_,e|_,_,.dnt _ _,_,_,_,e|_,_,.dcl _ _,_,_,_,e|_,_,.obj _ _ _ _,_,_,_,e=>by unfold UZ at e;cases e
theorem OV{g':G}:∀{o o':Nat}{ds:List Dv}{vs:List V}{Pv:Fp},AA K g' H o ds vs Pv->Qr ds=_t->AA K g H o' ds vs nop
 |_,_,[],_,_,h,_=>by unfold AA at h ⊢;exact⟨h.1,λ_ z=>z⟩
 |_,_,d::ds,_,_,h,e=>by unfold AA at h ⊢;obtain⟨v,r,P1,P2,b,h1,h2,_,_⟩:=h;unfold Qr at e;rw[A3]at e;exact⟨v,r,nop,nop,b,Mh h1 e.1,OV h2 e.2,λ_ z=>z.elim,λa=>⟨λz=>z.elim,λz=>z.elim id id⟩⟩
end
theorem BE.fz(r:Rel K g H Γ m σ P):∀{as:List Ar}{ds:List Dv}{vs:List V},BE K g H Γ m σ as ds vs->AA K (g.add P) H 0 ds vs nop
 |[],ds,vs,h=>by unfold BE at h;obtain⟨rfl,rfl⟩:=h;exact AA.nil
 |.ev _ _ _ f::as,ds,vs,h=>by unfold BE at h;obtain⟨d,v,n,c,rfl,rfl,h1,h2⟩:=h;exact(AA.cons (h1.freeze (P:=P) λ_ z=>z.elim) (BE.fz r h2) λ_ z=>z.elim).iff λa=>⟨λz=>z.elim,λz=>z.elim id id⟩
 |.rf i::as,ds,vs,h=>by unfold BE at h;obtain⟨v,n,c,rfl,rfl,h1,⟨o,_,s⟩,h3⟩:=h;obtain⟨u,P1,e,k,p⟩:=r.see s;rw[h1]at e;cases e;exact(AA.cons (k.freeze (P:=P) p) (BE.fz r h3) λ_ z=>z.elim).iff λa=>⟨λz=>z.elim,λz=>z.elim id id⟩
 |.fd i f::as,ds,vs,h=>by unfold BE at h;obtain⟨d,v,n,c,rfl,rfl,⟨h1,a,C,dx,fs,hv,ha,t⟩,⟨o,hl,s⟩,h3⟩:=h;obtain⟨u,P1,e,k,p⟩:=r.see s;rw[hv]at e;cases e;obtain⟨B,F,A,fs',w,E,D,y,l,_,_,j,q,_,x,_⟩:=DW k h1;cases y;rw[ha]at l;cases l;rw[t]at j;cases j;exact(AA.cons (q.freeze (P:=P) λb z=>p b ((x b).mpr (.inl z))) (BE.fz r h3) λ_ z=>z.elim).iff λa=>⟨λz=>z.elim,λz=>z.elim id id⟩
theorem cg{n:Nat}{ds:List Dv}{vs:List V}(zd:Zd g H)(h:AA K g H 0 ds vs nop)(b:ds.length=n):Rel K g H (QD n []) ds (vs.map _s) nop:=by refine⟨zd,λ_=>nop,⟨by unfold QD;simp[b],by unfold QD;simp[<- b,h.len],λi o e=>?_,λi e a z=>z,λi j n a z=>z.elim⟩,λa=>⟨λz=>z.elim,fun⟨i,z⟩=>z⟩⟩;obtain⟨hi,e⟩:=Fe e;have c:o=0:=(C5 e);subst c;obtain⟨v,_,ev,rv,_⟩:=h.get (A2 (by omega:i < ds.length));exact⟨_,v,A2 `o,by rw[D0,ev];rfl,rv.z⟩
def Mz(s:Sig)(as:List Ar):Ev Dv:=λR m k=>AQ as R m λds a=>s.cps R ds λd _=>bif UZ d then k d a else _n
theorem VT{s:Sig}(c:AF Γ as Γ' js)(hs:s.io=[])(u:as.length=s.ps.length){Q:VK}(h:tE K Γ 1 Γ' js (Mz s as) σ H Q):Bd K as σ H λvs a=>spF K s vs a Q E0:=by
 obtain⟨g,m,P,r,R,k,res,e,q⟩:=h;refine AM as r c e λds t i P1 vs a n x st ar f=>?_;rw[s.eq]at n;refine zAQ n λp w j=>?_;obtain⟨d,bs⟩:=p;cases c:UZ d with|false=>simp only[c,cond_false]at j;cases j|true=>simp only[c,cond_true]at j;have fs:Step i P1 a (i.add P1) nop a:=Step.freeze f.zAR;refine⟨i.add P1,ds,nop,by rw[hs];exact cg (fs.zd f.zd) (ar.fz f) (ar.len.1.trans u),d,bs,w,λg' H' v Pv Pb s2 rv _ _=>?_⟩;have l:NY a H':=λb o hb=>s2.keep b o hb λz=>z;exact q d t i P1 nop v H' j x ((st.trans (Step.same l)).less λ_ z=>z.elim id E7) (Mh rv c) (f.same l) λ_ _ z=>z
end
end R
namespace L2
open PySem PySem.Spec PyProof.Rows
section
variable{prog:F9}{w:J5}{A:J3}{E:_v->A7->Prop}{s:A7}
theorem PR{l:B8}{T:String}{o:Obj}{n:Nat}{vs:List _v}{Q:List _v->A7->Prop}(hT:T = "list" \/ T = "tuple")(c:s.heap.get? l=_s o)(d:o.cls=.type T)(hd:o.data=.seq vs.toArray n)
    (h:Q vs {s with heap:=(s.heap.push (Y2 "list" #[] 0)).update s.heap.objs.size (L5 (·++vs.toArray))}) (hsz:vs.length<=sizeLine) :
    C8 (D9 prog w) A (collect (.ref l)) Q E s:=by
  unfold collect;refine A1 (wpAny_runValue (o5 entry_proto_collect' ?_));show C8 _ _ (do again (.builtin "list.__iadd__" ⟨[<- newList [],.ref l],[]⟩)) _ _ s;refine A1 (wpAny_newList (A6 ⟨Code.quiet_builtin _ (by decide +kernel),o5 entry_list_iadd' ?_⟩));show C8 _ _ (R9 (.ref s.heap.objs.size) (.ref l) (.ref s.heap.objs.size)) _ _ {s with heap:=s.heap.push (Y2 "list" #[] 0)};unfold R9;have a:(s.heap.push (Y2 "list" #[] 0)).get? l=_s o:=A5 _ c;refine A1 (U7 (T:=T) ⟨o,a,d⟩ ?_);have b:((vo (.ref s.heap.objs.size) (.ref l)||L9 T==L9 "list")||L9 T==L9 "tuple")=true:=by
    rcases hT with rfl|rfl
    have:(L9 "list"==L9 "list")=true:=by rfl
    rw[this];simp;have:(L9 "tuple"==L9 "tuple")=true:=by rfl
    rw[this];simp
  rw[if_pos b];refine A1 (we a hd ?_);refine A1 (we (xs:=#[]) (n:=0) (C9 _ rfl) rfl ?_);rw[if_neg `s];refine A1 (listUpdate_at (xs:=#[]) (n:=0) (C9 _ rfl) rfl ?_ (H8 _) (by show(#[]++vs.toArray).size<=sizeLine+1;simp only[yV,B0,O4];omega));refine A6 ?_;show C8 (D9 prog w) A (do
      let o <- load s.heap.objs.size
      match o.data with
      |.seq xs _=>pure xs.toList
      |_=>unsupported "internal:collect") Q E {s with heap:=(s.heap.push (Y2 "list" #[] 0)).update s.heap.objs.size (L5 (·++vs.toArray))}
  refine A1 (wpAny_load (wt (C9 _ rfl) _) ?_);show C8 _ _ (pure ((#[]:Array _v)++vs.toArray).toList) Q E _;rw[show((#[]:Array _v)++vs.toArray).toList=vs by simp];exact A6 h
theorem JP{l:B8}{T:String}{o:Obj}{n:Nat}{vs:List _v}{ns:List Int}{Q:_v->A7->Prop}(hT:T = "list" \/ T = "tuple")(d:s.heap.get? l=_s o)(e:o.cls=.type T)(hd:o.data=.seq vs.toArray n)(hI:k9 vs ns)(c:vs.length < 64)
    (h:∀(out:Array _v)(a:List Int),k9 out.toList a->a.Perm ns->a.Pairwise (·<=·)->Q (.ref (s.heap.objs.size+1)) {s with heap:=wJ s.heap vs out}) :
    C8 (D9 prog w) A (call (.builtin "sorted") [.ref l]) Q E s:=by
  refine Calls.call_function_entry kind_sorted plain_sorted entry_sorted (args_sorted1 _) ?_;unfold U2.«sorted»;refine A1 (m:=checkCount "sorted" 1 1 _) (A6 ?_);refine A1 (PR hT d e hd ?_ (by rw[T7];omega));refine A1 (wpAny_newList ?_);have hsz:((s.heap.push (Y2 "list" #[] 0)).update s.heap.objs.size (L5 (·++vs.toArray))).objs.size=s.heap.objs.size+1:=by rw[yq,size_push']
  have b:(((s.heap.push (Y2 "list" #[] 0)).update s.heap.objs.size (L5 (·++vs.toArray))).push (Y2 "list" vs.toArray 0)).get? (s.heap.objs.size+1)=_s (Y2 "list" vs.toArray 0):=by rw[<- hsz];exact C9 _ rfl
  show C8 _ _ _ _ _ {s with heap:=((s.heap.push (Y2 "list" #[] 0)).update s.heap.objs.size (L5 (·++vs.toArray))).push (Y2 "list" vs.toArray 0)};rw[hsz];refine A1 (J0 (L8 slot_list_sort ⟨_,b,rfl⟩ entry_list_sort (list_sort_tree b hI c λout a i g f=>⟨_,rfl,?_⟩) (args_list_sort _)));exact A6 ⟨_,rfl,h out a i g f⟩
theorem MP(h:K4)(vs:List _v)(out:Array _v):∃c,(wJ h vs out).get? (h.objs.size+1)=_s {cls:=.type "list", dict:=_n,data:=.seq out c,slots:=#[]}:=by
 unfold wJ sortedHeap;have hsz:((h.push (Y2 "list" #[] 0)).update h.objs.size (L5 (·++vs.toArray))).objs.size=h.objs.size+1:=by rw[yq,size_push']
 have a:(((h.push (Y2 "list" #[] 0)).update h.objs.size (L5 (·++vs.toArray))).push (Y2 "list" vs.toArray 0)).get? (h.objs.size+1)=_s (Y2 "list" vs.toArray 0):=by rw[<- hsz];exact C9 _ rfl
 have h1:=wt a (λ_=>#[]);have h2:=wt (A5 (Y2 "list" #[] 0) (A5 (Y2 "tuple" vs.toArray 0) h1)) (λ_=>out);exact⟨_,h2⟩
theorem Kl(h:K4)(vs:List _v)(out:Array _v){b:B8}{o:Obj}(e:h.get? b=_s o):(wJ h vs out).get? b=_s o:=by have hb:b < h.objs.size:=D5 e;have c:b≠h.objs.size:=E5 hb;have a:b≠h.objs.size+1:=E5 (va hb);unfold wJ sortedHeap;refine(o9 _ _ _ _ a).trans ?_;refine A5 _ (A5 _ ?_);refine(o9 _ _ _ _ a).trans ?_;refine A5 _ ?_;refine(o9 _ _ _ _ c).trans ?_;exact A5 _ e
end
theorem Mp:∀{ns:List Int}{a:List _v},AG (ns.map V.int) a->k9 a ns
 |[],_,.nil=>.nil
 |n::ns,_,.cons r rs=>by obtain⟨t,rfl⟩:=r;exact .cons _ _ (Mp rs)
theorem Sy:∀{ns:List Int}{a:List _v},k9 a ns->AG (ns.map V.int) a
 |_,_,.nil=>.nil
 |_,_,.cons n t rs=>.cons ⟨t,rfl⟩ (Sy rs)
def Im(K:W.Frag):List V->Hp->VK->Prop:=λxs H Q=>∃(p:B8)(ns:List Int),xs=[.ref p]/\(Dl K H p (ns.map V.int)\/Fo K H p (ns.map V.int))/\ns.length < 64/\∀(l:B8)(a:List Int),H l=_n->a.Perm ns->a.Pairwise (·<=·)->Q (.ref l) (upd H l (.lst (a.map V.int)))
variable{X:Cx}
theorem PY:BX X (.builtin "sorted") (Im X.K):=by
 intro pins s σ H xs us Q I r h;obtain⟨p,ns,rfl,i,hl,q⟩:=h;obtain⟨u,rfl,m⟩:=vals1 r;cases m;have fin:∀(a:List _v)(hv:AG (ns.map V.int) a)(out:Array _v)(d:List Int),k9 out.toList d->d.Perm ns->d.Pairwise (·<=·)->EP X pins σ Q (.ref (s.heap.objs.size+1)) {s with heap:=wJ s.heap a out}:=λa hv out d y l x=>by
  obtain⟨c,e⟩:=MP s.heap a out;have v:=Sy y;have t:out=out.toList.toArray:=by simp
  exact⟨.ref (s.heap.objs.size+1),_,I.laid (t':=s.toks) (λb o e=>Kl _ _ _ e) (U6 _) (show BC X.prog X.w _ _ _ (.lst (d.map V.int))from⟨by rw[C3,l.length_eq,T7];omega,out.toList,c,v,by rw[<- t];exact e⟩),rfl,q _ d (I.hok.fresh (U6 _)) l x⟩
 rcases i with i|i
 obtain⟨a,g,pl,hz⟩:=I.list i;have f:=g.length;rw[C3]at f;obtain⟨o,j,k,n,hd⟩:=pl.isList;exact JP (.inl rfl) j k hd (Mp g) `o (fin a g);obtain⟨a,g,pl,hz⟩:=I.tuple i;have f:=g.length;rw[C3]at f;obtain⟨o,j,k,n,hd⟩:=pl;exact JP (.inr rfl) j k hd (Mp g) `o (fin a g)
theorem NN(K:W.Frag)(h:X.K=K:=by rfl):BX X (.builtin "sorted") (Im K):=by subst h;exact PY
end L2
namespace L2
open PySem PySem.Spec PyProof.Rows PySem.Builtin PySem.Builtin.Str
variable{X:Cx}
def OK:V->List V->Hp->VK->Prop:=λx vs H Q=>∃l b xs zs,x=.ref l/\vs=[.ref b]/\H l=_s (.lst xs)/\H b=_s (.tup zs)/\xs.length+zs.length<=sizeLine/\Q .non (upd H l (.lst (xs++zs)))
theorem Qv:gz X "list.extend" OK:=by
 intro pins s σ H x vs v us Q I k rv h;obtain⟨l,b,xs,zs,rfl,rfl,j,y,hz,q⟩:=h;cases k;obtain⟨u,rfl,m⟩:=rv.one;cases m;obtain⟨z,c,n,r,hl,e⟩:=I.zBy j;obtain⟨d,g,⟨o,i,w,A,hd⟩,_⟩:=I.tuple (a:=b) (xs:=zs) (.inl (.inl y));have t:=g.length;have hsz:c.toArray.size+d.toArray.size<=sizeLine:=by rw[B0,B0];omega
 have f:¬(!c.toArray.isEmpty&&O8 (c.toArray.size+d.toArray.size))=true:=by rw[Jl hsz,vH];exact D2
 refine L8 F.slot_list_extend ⟨_,e,rfl⟩ F.entry_list_extend ?_ (F.args_list_extend_2 _ _);show C8 _ _ (R9 (.ref l) (.ref b) .none) _ _ s;unfold R9;refine A1 (U7 (T := "tuple") ⟨o,i,w⟩ ?_);have p:((vo (.ref l) (.ref b)||L9 "tuple"==L9 "list")||L9 "tuple"==L9 "tuple")=true:=by
  have:(L9 "tuple"==L9 "tuple")=true:=by rfl
  rw[this];simp
 rw[if_pos p];refine A1 (we i hd ?_);refine A1 (we e rfl ?_);rw[if_neg f];refine A1 (listUpdate_at e rfl ?_ (by rw[B0];omega) (by rw[yV];omega));refine A6 ?_;refine⟨_,rfl,.non,_,I.zCz (its':=c++d) j e `s (r.append g) ?_,rfl,q⟩;rw[B5];omega
end L2
namespace L2
open PySem PySem.Spec PyProof.Rows
variable{H:Hp}
section
variable{X:Cx}{pins:List (B8×Obj)}{σ:St}{H:Hp}{s:A7}{a:B8}
theorem Vz{a:B8}{o:HO}(e:H a=_s o)(o':HO):upd (upd H a o') a o=H:=by funext b;by_cases h:b=a;subst h;rw[AE,e];rw[AD h,AD h]
theorem Inv.reT(I:Inv X pins σ H s)(e:H a=_s (.dK [])):Inv X pins σ (upd H a (.dT [])) s:=by
 obtain⟨_,hd,vs,rel,o,es,b,h1,h2,h3,_,h4,_⟩:=TZ I.hok e;cases rel;have h4:es.toList=[]:=by generalize es.toList=l at h4;cases h4;rfl
 exact CL (t':=s.toks) (h':=s.heap) I (by rw[e];exact True.intro) ⟨rfl,λ_ _=>rfl⟩ ⟨o,h1⟩ ⟨H8 _,hd,[],.nil,o,es,b,h1,h2,h3,h4,.nil⟩
theorem Inv.reK(I:Inv X pins σ (upd H a (.dT [])) s)(e:H a=_s (.dK [])):Inv X pins σ H s:=by obtain⟨_,hd,xs,rel,o,es,c,h1,h2,h3,h4,_⟩:=gW I.hok (AE (H:=H));cases rel;have h4:es.toList=[]:=h4;have:=CL (t':=s.toks) (h':=s.heap) (ob:=.dK []) I (by rw[AE];exact True.intro) ⟨rfl,λ_ _=>rfl⟩ ⟨o,h1⟩ ⟨H8 _,hd,[],.nil,o,es,c,h1,h2,h3,λx b=>(by rw[<- l9,h4]at b;cases b),(by rw[h4];exact .nil),.nil⟩;rw[Vz e]at this;exact this
end
def rG(H:Hp)(a:B8)(y:V)(r:Option V):Prop:=GA H a y r\/(r=_n/\H a=_s (.dK [])/\∃(k:List AO)(b:B8),y=.ref b/\H b=_s (.tup (k.map kV)))
def rF(H:Hp)(a:B8)(y v:V)(H':Hp):Prop:=QB H a y v H'\/(H a=_s (.dK [])/\∃(k:List AO)(b:B8),y=.ref b/\H b=_s (.tup (k.map kV))/\H'=upd H a (.dT [(k,v)]))
theorem QP{a b:B8}{k:List V}(e:H a=_s (.dK []))(eb:H b=_s (.tup k))(o:HO):upd H a o b=_s (.tup k):=by rw[AD λz=>by subst z;rw[e]at eb;cases eb];exact eb
section
variable{X:Cx}
def uH:R2:=λx y H Q=>∃a v,x=.ref a/\GA H a y (_s v)/\Q v H
theorem pN(j:X.A.units+1 < K0):Tv X uH:=by
 intro b slice pins s σ H x y v u Q I i f h hs;obtain⟨a,z,rfl,g,q⟩:=h;obtain rfl:v=E9 a:=i;have hT:=PM I g;have h2:=VP (Q:=EP X pins σ Q) (E:=X.xe) (A:=X.A) j I g f λl m k e=>⟨z,H,k,e,q⟩;unfold l7;refine A1 ?_;rw[w8 hT.not_modules];refine A1 (T1 hT vS.lookup ?_);have fin:C8 (D9 X.prog X.w) X.A (vW slice _f (.ref a) u) (λr c=>C8 (D9 X.prog X.w) X.A (letTemporaryGo b (.ref a) r >>= λ_=>pure r) (EP X pins σ Q) X.xe c) X.xe s:=by rw[hs];exact zB (R0 h2 (λr c d=>A1 (xM (A6 d))) λ_ _ x=>x)
 first
  |exact A6 (A1 fin)
  |exact A1 (A6 (A1 fin))
  |exact A1 fin
def uG:NW:=λo i v H Q=>∃a H',o=.ref a/\rF H a i v H'/\Q H'
theorem iZ(j:X.A.units+1 < K0):Kv X uG:=by
 intro pins s σ H o i v m n u Q I ro f rv h;obtain⟨a,H',rfl,g,q⟩:=h;obtain rfl:m=E9 a:=ro;rcases g with g|⟨e,k,b,rfl,eb,rfl⟩
 exact Lu j I g f rv λl d=>⟨H',d,q⟩;refine Lu j (I.reT e) (QB.t AE (QP e eb _) `d) f rv λl d=>⟨upd H a (.dT [(k,v)]),?_,q⟩;have:upd (upd H a (.dT [])) a (.dT (BN [] k v))=upd H a (.dT [(k,v)]):=by funext c;by_cases h:c=a;subst h;rw[AE,AE];rfl;rw[AD h,AD h,AD h]
 rw[this]at d;exact d
theorem Kv.or{t t':NW}(h:Kv X t)(h':Kv X t'):Kv X (λo i v H Q=>t o i v H Q\/t' o i v H Q):=by
 intro pins s σ H o i v b c u Q I ro a rv q;rcases q with q|q
 exact h pins s σ H o i v b c u Q I ro a rv q;exact h' pins s σ H o i v b c u Q I ro a rv q
def jB(neg:Bool):R2:=λy x H Q=>∃a o,x=.ref a/\rG H a y o/\Q (.bl (if neg then !o.isSome else o.isSome)) H
theorem jy(f:X.A.units+1 < K0):Dk X (K6 .In) (jB _f):=by
 intro pins s σ H y x u v Q I d j h;obtain⟨a,o,rfl,g,q⟩:=h;obtain rfl:v=E9 a:=j;rcases g with g|⟨rfl,e,k,b,rfl,eb⟩
 exact qa f I g d λi c=>⟨.bl o.isSome,H,c,rfl,q⟩;exact qa f (I.reT e) (GA.t AE (QP e eb _)) d λi c=>⟨.bl _f,H,c.reK e,rfl,q⟩
theorem cL(f:X.A.units+1 < K0):Dk X (K6 .NotIn) (jB _t):=by
 intro pins s σ H y x u v Q I d j h;obtain⟨a,o,rfl,g,q⟩:=h;obtain rfl:v=E9 a:=j;rcases g with g|⟨rfl,e,k,b,rfl,eb⟩
 exact Ta f I g d λi c=>⟨.bl (!o.isSome),H,c,rfl,q⟩;exact Ta f (I.reT e) (GA.t AE (QP e eb _)) d λi c=>⟨.bl _t,H,c.reK e,rfl,q⟩
def fX:List V->Hp->VK->Prop:=λxs H Q=>∃a kvs,xs=[V.ref a]/\H a=_s (.dK kvs)/\Q (.int kvs.length) H
theorem Rc:BX X (.builtin "len") fX:=VY
end
abbrev KN(H:Hp):List (NK AO×V)->List (NK AO×B8×_v)->Prop:=Paired λp q=>p.1=q.1/\JC H p.1 q.2.1/\RelV p.2 q.2.2
variable{xs:List (NK AO×B8×_v)}
theorem KN.val{kvs:List (NK AO×V)}(r:KN H kvs xs)(k:NK AO):EF (Ae kvs k) ((Z3 xs k).map (·.2)):=by
 induction r with
 |nil=>exact True.intro
 |@cons p q ps qs h t c=>
  obtain⟨h1,_,h2⟩:=h;by_cases e:p.1=k;have a:q.1=k:=h1.symm.trans e;have b:Z3 (q::qs) k=_s q.2:=by simp[Z3,R3,a]
  rw[Aj e,b];exact h2;have a:¬q.1=k:=λz=>e (h1.trans z);have b:Z3 (q::qs) k=Z3 qs k:=by simp[Z3,R3,a]
  rw[Ak e,b];exact c
theorem KN.zCw{kvs:List (NK AO×V)}(r:KN H kvs xs)(k:NK AO){y:V}{u:_v}(b:RelV y u) :
    KN H (kvs.map λa=>if a.1=k then(a.1,y)else a) (xs.map (putAt k u)):=by
  induction r with|nil=>exact .nil|@cons p q ps qs h t c=>rw[B7,B7];refine .cons ?_ c;obtain⟨h1,h2,h3⟩:=h;unfold putAt;by_cases e:p.1=k;rw[if_pos e,if_pos (h1.symm.trans e)];exact⟨h1,h2,b⟩;rw[if_neg e,if_neg (λz=>e (h1.trans z))];exact⟨h1,h2,h3⟩
theorem KN.put{kvs:List (NK AO×V)}(r:KN H kvs xs)(k:NK AO){b:B8}{y:V}{u:_v}(hb:JC H k b)(a:RelV y u) :
    KN H (BN kvs k y) (zH xs k b u):=by
  have e:(kvs.any λc=>decide (c.1=k))=(Z3 xs k).isSome:=by rw[Dn,(r.val k).zAX,Q5]
  unfold BN zH;rw[e];by_cases q:(Z3 xs k).isSome=_t;rw[if_pos q,if_pos q];exact r.zCw k a;rw[if_neg q,if_neg q];exact Paired.snoc r ⟨rfl,hb,a⟩
theorem KN.keeps{H':Hp}{kvs:List (NK AO×V)}(r:KN H kvs xs)(a:∀b ys,H b=_s (.tup ys)->H' b=_s (.tup ys)):KN H' kvs xs:=
 Paired.zCy r λ_ _ z=>⟨z.1,z.2.1.keeps a,z.2.2⟩
section
variable{P:F9}{w:J5}{H:Hp}{h:K4}{a:B8}
theorem RG(ok:Ft P w H h):∀{k:NK AO}{vs:List V}{b:List _v},aU H k vs->AG vs b->ItN (AJ P w) h k b
 |[],_,b,e,r=>by have e:_=[]:=e;subst e;cases r;exact .nil
 |.inl k::ks,_,b,⟨g,e,n⟩,r=>by
  subst e;cases r with|cons f d=>exact .sc (IM f) (RG ok n d)
 |.inr t::ks,_,b,⟨c,g,e,h1,n⟩,r=>by
  subst e;cases r with|cons f d=>cases(show _=E9 c from f);exact .tp (GQ ok h1) (RG ok n d)
theorem DX{k:NK AO}(ok:Ft P w H h)(e:JC H k a):(BU (AJ P w) (BJ P w)).is h k a:=by obtain⟨vs,e,n⟩:=e;obtain⟨_,b,r,o,h1,h2,_,c,h3⟩:=(show BC P w H h a (.tup vs)from ok a _ e);exact⟨o,b.toArray,c,h1,h2,h3,by simpa using RG ok n r⟩
theorem Gy{kvs:List (NK AO×V)}(ok:Ft P w H h)(e:H a=_s (.dN kvs)):kvs.length<=sizeLine/\(a==Q9)=_f /\
    ∃xs,KN H kvs xs/\h.DictOfH (BU (AJ P w) (BJ P w)) a xs:=by
  obtain⟨z,y,xs,r,o,es,f,h1,h2,h3,h4,h5⟩:=(show BC P w H h a (.dN kvs)from ok a _ e);refine⟨z,y,xs,r,o,es,f,h1,h2,h3,h4,λx b=>?_,h5⟩;have all:∀{l:List (NK AO×V)}{m:List (NK AO×B8×_v)},KN H l m->∀x∈m,(BU (AJ P w) (BJ P w)).is h x.1 x.2.1:=by
    intro l m q;induction q with
    |nil=>intro x b;exact nomatch b
    |@cons p q ps qs c t d=>
      intro x b;rcases D3.mp b with e|b
      subst e;exact DX ok (by rw[<- c.1];exact c.2.1);exact d x b
  exact all r x b
end
section
variable{X:Cx}{pins:List (B8×Obj)}{σ:St}{H:Hp}{s:A7}{a b:B8}{v:V}{r:_v}{kvs:List (NK AO×V)}{k:NK AO}{A:J3}{E:_v->A7->Prop}
theorem Uc{Q:_v->A7->Prop}(n:A.units+2 < K0)(I:Inv X pins σ H s)(e:H a=_s (.dN kvs))(eb:JC H k b)(l:Ae kvs k=_s v)(h:∀c s',Inv X pins σ H s'->RelV v c->Q c s') :
    C8 (D9 X.prog X.w) A (k8 (.ref a) (.ref b)) Q E s:=by
  obtain⟨z,hd,xs,f,m⟩:=Gy I.hok e;obtain⟨c,i,d⟩:=EF.some_of (v:=v) (o:=(Z3 xs k).map (·.2)) (by rw[<- l];exact f.val k);obtain⟨p,j,g⟩:=G3.mp i;refine xn (knd:=BU (AJ X.prog X.w) (BJ X.prog X.w)) (show A.in1.units+1 < K0 by show A.units+1+1 < K0;omega) (DX I.hok eb) m j ?_;rw[g];exact h c _ (I.tok _) d
theorem pF{Q:_v->A7->Prop}(f:A.units+2 < K0)(I:Inv X pins σ H s)(e:H a=_s (.dN kvs))(eb:JC H k b)(h:∀s',Inv X pins σ H s'->Q (.bool (Ae kvs k).isSome) s') :
    C8 (D9 X.prog X.w) A (K6 .In (.ref b) (.ref a)) Q E s:=by
  obtain⟨z,hd,xs,c,d⟩:=Gy I.hok e;refine wpAny_in_heap (knd:=BU (AJ X.prog X.w) (BJ X.prog X.w)) (show A.in1.units+1 < K0 by show A.units+1+1 < K0;omega) (DX I.hok eb) hd d ?_;have q:=(c.val k).zAX;rw[Q5]at q;rw[<- q];exact h _ (I.tok _)
theorem Sk{Q:_v->A7->Prop}(f:A.units+2 < K0)(I:Inv X pins σ H s)(e:H a=_s (.dN kvs))(eb:JC H k b)(h:∀s',Inv X pins σ H s'->Q (.bool (!(Ae kvs k).isSome)) s') :
    C8 (D9 X.prog X.w) A (K6 .NotIn (.ref b) (.ref a)) Q E s:=by
  obtain⟨z,hd,xs,c,d⟩:=Gy I.hok e;refine yk (knd:=BU (AJ X.prog X.w) (BJ X.prog X.w)) (show A.in1.units+1 < K0 by show A.units+1+1 < K0;omega) (DX I.hok eb) hd d ?_;have q:=(c.val k).zAX;rw[Q5]at q;rw[<- q];exact h _ (I.tok _)
theorem LW{Q:Unit->A7->Prop}(m:A.units+2 < K0)(I:Inv X pins σ H s)(e:H a=_s (.dN kvs))(eb:JC H k b)(l:kvs.length < sizeLine)(rv:RelV v r)(h:∀s',Inv X pins σ (upd H a (.dN (BN kvs k v))) s'->Q () s') :
    C8 (D9 X.prog X.w) A (zG (.ref a) (.ref b) r) Q E s:=by
  obtain⟨z,hd,xs,d,j⟩:=Gy I.hok e;have hz:xs.length<=sizeLine:=by rw[<- Paired.length d];exact z
  have hl:(BN kvs k v).length<=sizeLine:=by have:=BV kvs k v;omega
  refine xq (knd:=BU (AJ X.prog X.w) (BJ X.prog X.w)) (hsz:=hz) (show A.in1.units+1 < K0 by show A.units+1+1 < K0;omega) (DX I.hok eb) j λh' f hs=>h _ ?_;obtain⟨q,es,i,g,h2,h3,h4,_,h5⟩:=f;refine CL I (by rw[e];exact True.intro) hs ⟨q,g⟩ ⟨hl,hd,_,(d.put k eb rv).keeps λc ys ec=>?_,q,es,i,g,h2,h3,h4,h5⟩;rw[AD (Sj ec e (λz=>nomatch z))];exact ec
theorem Inv.reN(I:Inv X pins σ H s)(e:H a=_s (.dK [])):Inv X pins σ (upd H a (.dN [])) s:=by
 obtain⟨_,hd,vs,rel,o,es,c,h1,h2,h3,_,h4,_⟩:=TZ I.hok e;cases rel;have h4:es.toList=[]:=by generalize es.toList=l at h4;cases h4;rfl
 exact CL (t':=s.toks) (h':=s.heap) I (by rw[e];exact True.intro) ⟨rfl,λ_ _=>rfl⟩ ⟨o,h1⟩ ⟨H8 _,hd,[],.nil,o,es,c,h1,h2,h3,h4,.nil⟩
theorem Inv.zEh(I:Inv X pins σ (upd H a (.dN [])) s)(e:H a=_s (.dK [])):Inv X pins σ H s:=by obtain⟨_,hd,xs,rel,o,es,d,h1,h2,h3,h4,_⟩:=Gy I.hok (AE (H:=H));cases rel;have h4:es.toList=[]:=h4;have:=CL (t':=s.toks) (h':=s.heap) (ob:=.dK []) I (by rw[AE];exact True.intro) ⟨rfl,λ_ _=>rfl⟩ ⟨o,h1⟩ ⟨H8 _,hd,[],.nil,o,es,d,h1,h2,h3,λx c=>(by rw[<- l9,h4]at c;cases c),(by rw[h4];exact .nil),.nil⟩;rw[Vz e]at this;exact this
end
def rD(H:Hp)(a:B8)(y:V)(r:Option V):Prop:=∃k b,y=.ref b/\JC H k b/\((∃kvs,H a=_s (.dN kvs)/\r=Ae kvs k)\/H a=_s (.dK [])/\r=_n)
def tU(H:Hp)(a:B8)(y v:V)(H':Hp):Prop:=∃k b,y=.ref b/\JC H k b/\((∃kvs,H a=_s (.dN kvs)/\kvs.length < sizeLine/\H'=upd H a (.dN (BN kvs k v)))\/H a=_s (.dK [])/\H'=upd H a (.dN [(k,v)]))
theorem Mi{a:B8}{k:NK AO}{b:B8}(e:H a=_s (.dK []))(n:JC H k b)(o:HO):JC (upd H a o) k b:=n.keeps λc xs ec=>by rw[AD λz=>by subst z;rw[e]at ec;cases ec];exact ec
section
variable{X:Cx}
def uE:R2:=λx y H Q=>∃a v,x=.ref a/\rD H a y (_s v)/\Q v H
theorem pM(n:X.A.units+2 < K0):Tv X uE:=by
 intro c slice pins s σ H x y v u Q I m j h hs;obtain⟨a,z,rfl,⟨k,b,rfl,eb,g⟩,q⟩:=h;obtain rfl:v=E9 a:=m;obtain rfl:u=E9 b:=j;obtain⟨kvs,e,l⟩:∃kvs,H a=_s (.dN kvs)/\_s z=Ae kvs k:=g.elim id λh=>by cases h.2
 have hT:s.TypeIs (.ref a) "dict" := by obtain⟨_,_,xs,_,o⟩:=Gy I.hok e;exact o.typeIs
 have h2:=Uc (Q:=EP X pins σ Q) (E:=X.xe) (A:=X.A) n I e eb l.symm λt B p i=>⟨z,H,p,i,q⟩;unfold l7;refine A1 ?_;rw[w8 hT.not_modules];refine A1 (T1 hT vS.lookup ?_);have fin:C8 (D9 X.prog X.w) X.A (vW slice _f (.ref a) (.ref b)) (λr d=>C8 (D9 X.prog X.w) X.A (letTemporaryGo c (.ref a) r >>= λ_=>pure r) (EP X pins σ Q) X.xe d) X.xe s:=by rw[hs];exact zB (R0 h2 (λr d f=>A1 (xM (A6 f))) λ_ _ x=>x)
 first
  |exact A6 (A1 fin)
  |exact A1 (A6 (A1 fin))
  |exact A1 fin
def uD:NW:=λo i v H Q=>∃a H',o=.ref a/\tU H a i v H'/\Q H'
theorem iX(f:X.A.units+2 < K0):Kv X uD:=by
 intro pins s σ H o i v m n u Q I ro l rv h;obtain⟨a,H',rfl,⟨k,b,rfl,eb,g⟩,q⟩:=h;obtain rfl:m=E9 a:=ro;obtain rfl:n=E9 b:=l;rcases g with⟨kvs,e,hl,rfl⟩|⟨e,rfl⟩
 exact LW f I e eb hl rv λj d=>⟨_,d,q⟩;refine LW f (I.reN e) AE (Mi e eb _) `d rv λj d=>⟨upd H a (.dN [(k,v)]),?_,q⟩;have:upd (upd H a (.dN [])) a (.dN (BN [] k v))=upd H a (.dN [(k,v)]):=by funext c;by_cases h:c=a;subst h;rw[AE,AE];rfl;rw[AD h,AD h,AD h]
 rw[this]at d;exact d
def iy(neg:Bool):R2:=λy x H Q=>∃a o,x=.ref a/\rD H a y o/\Q (.bl (if neg then !o.isSome else o.isSome)) H
theorem jr(d:X.A.units+2 < K0):Dk X (K6 .In) (iy _f):=by
 intro pins s σ H y x u v Q I i j h;obtain⟨a,o,rfl,⟨k,b,rfl,eb,g⟩,q⟩:=h;obtain rfl:v=E9 a:=j;obtain rfl:u=E9 b:=i;rcases g with⟨kvs,e,rfl⟩|⟨e,rfl⟩
 exact pF d I e eb λf c=>⟨.bl (Ae kvs k).isSome,H,c,rfl,q⟩;exact pF d (I.reN e) AE (Mi e eb _) λf c=>⟨.bl _f,H,c.zEh e,rfl,q⟩
theorem cJ(d:X.A.units+2 < K0):Dk X (K6 .NotIn) (iy _t):=by
 intro pins s σ H y x u v Q I i j h;obtain⟨a,o,rfl,⟨k,b,rfl,eb,g⟩,q⟩:=h;obtain rfl:v=E9 a:=j;obtain rfl:u=E9 b:=i;rcases g with⟨kvs,e,rfl⟩|⟨e,rfl⟩
 exact Sk d I e eb λf c=>⟨.bl (!(Ae kvs k).isSome),H,c,rfl,q⟩;exact Sk d (I.reN e) AE (Mi e eb _) λf c=>⟨.bl _t,H,c.zEh e,rfl,q⟩
end
end L2
namespace R
open PySem L2
def Av:Dv->Option AO
 |.int i=>_s (.inl i)
 |.str l=>_s (.inr (tx l))
 |_=>_n
def GP:List Dv->Option (List AO)
 |[]=>_s []
 |d::ds=>(Av d).bind λk=>(GP ds).bind λks=>_s (k::ks)
def YI:Dv->Option (List AO)
 |.tup ds=>GP ds
 |_=>_n
section
variable{κ:Type}[DecidableEq κ]
noncomputable def AX(k:κ):List κ->List Dv->Option Dv
 |j::ks,d::ds=>if j=k then _s d else AX k ks ds
 |_,_=>_n
noncomputable def Ie(k:κ)(ks:List κ):List κ:=if ks.any (λj=>decide (j=k))=_t then ks else ks++[k]
noncomputable def VQ(k:κ)(x:Dv):List κ->List Dv->List Dv
 |j::ks,d::ds=>(if j=k then x else d)::VQ k x ks ds
 |_,_=>[]
def Ic(k:κ)(x:Dv)(ks:List κ)(ds:List Dv):List Dv:=if ks.any (λj=>decide (j=k))=_t then VQ k x ks ds else ds++[x]
end
variable{o:Nat}{d:Dv}{P:Fp}{ds:List Dv}
section
variable{K:W.Frag}{g:G}{H:Hp}{κ:Type}[DecidableEq κ]
theorem CJ{v:V}{k:AO}(h:Rep K g H o d v P)(e:Av d=_s k):v=kV k:=by
 cases d with|int i=>cases e;unfold Rep at h;exact h.1|str l=>cases e;unfold Rep at h;exact h.1|_=>cases e
theorem FK{k:κ}:∀{ks:List κ}{ds:List Dv}{us:List V}{R:Fp}{d:Dv},AA K g H 0 ds us R->AX k ks ds=_s d->∃v,Ae (ks.zip us) k=_s v/\Rep K g H 0 d v nop
 |[],ds,us,R,d,_,e=>by cases ds<;>cases e
 |j::ks,[],us,R,d,_,e=>by cases e
 |j::ks,x::ds,us,R,d,h,e=>by unfold AA at h;obtain⟨v,r,P1,P2,rfl,h1,h2,_⟩:=h;unfold AX at e;split at e;rename_i c;cases e;exact⟨v,by rw[J6];exact Aj c,h1.z⟩;rename_i c;obtain⟨w,b,a⟩:=FK h2 e;exact⟨w,by rw[J6,Ak c];exact b,a⟩
theorem Cs{k:κ}:∀{ks:List κ}{ds:List Dv}{us:List V},ks.length=ds.length->ds.length=us.length->(Ae (ks.zip us) k).isSome=(AX k ks ds).isSome
 |[],[],_,_,_=>rfl
 |j::ks,d::ds,[],_,h=>by cases h
 |j::ks,d::ds,u::us,h1,h2=>by have a:=Cs (k:=k) (ks:=ks) (ds:=ds) (us:=us) (by simpa using h1) (by simpa using h2);rw[J6];unfold AX;by_cases c:j=k;rw[Aj (p:=(j,u)) c,if_pos c];rfl;rw[Ak (p:=(j,u)) c,if_neg c];exact a
theorem HA{k:κ}{x:Dv}{w:V}{ks:List κ}{us:List V}{R:Fp}(hl:ks.length=ds.length)(h:AA K g H 0 ds us R)(l:Rep K g H 0 x w nop) :
    ∃b,BN (ks.zip us) k w=(Ie k ks).zip b/\AA K g H 0 (Ic k x ks ds) b nop/\(Ie k ks).length=(Ic k x ks ds).length:=by
  have f:ks.length=us.length:=by rw[hl,h.len]
  have any_eq:∀{ks:List κ}{us:List V},ks.length=us.length->((ks.zip us).any λe=>decide (e.1=k))=ks.any λj=>decide (j=k):=fun{ks us} h=>by
    induction ks generalizing us with
    |nil=>rfl
    |cons j ks i=>
      cases us with|nil=>cases h|cons u us=>rw[J6,O9,O9,i (by simpa using h)]
  unfold BN Ie Ic;rw[any_eq f];by_cases c:(ks.any λj=>decide (j=k))=_t;rw[if_pos c,if_pos c,if_pos c];have:∀{ks:List κ}{ds:List Dv}{us:List V}{R:Fp},ks.length=ds.length->AA K g H 0 ds us R->∃b,((ks.zip us).map λe=>if e.1=k then(e.1,w)else e)=ks.zip b/\AA K g H 0 (VQ k x ks ds) b nop/\ks.length=(VQ k x ks ds).length:=fun{ks ds us R} hl h=>by
    induction ks generalizing ds us R with
    |nil=>exact⟨[],by simp,by cases ds<;>exact AA.nil,by cases ds<;>rfl⟩
    |cons j ks i=>
      cases ds with|nil=>cases hl|cons d ds=>unfold AA at h;obtain⟨v,r,P1,P2,rfl,h1,h2,_⟩:=h;obtain⟨b,n,m,p⟩:=i (by simpa using hl) h2;refine⟨(if j=k then w else v)::b,?_,?_,by simp[VQ];omega⟩;rw[J6,B7,J6,n];by_cases q:j=k<;>simp[q];unfold VQ;refine((AA.cons (P1:=nop) (P2:=nop) ?_ m (λ_ z=>z.elim)).iff λa=>⟨λz=>z.elim,λz=>z.elim id id⟩);by_cases q:j=k;rw[if_pos q,if_pos q];exact l;rw[if_neg q,if_neg q];exact h1.z
  exact this hl h;rw[if_neg c,if_neg c,if_neg c];refine⟨us++[w],?_,?_,by simp[hl]⟩;rw[zC f];rfl;exact(AA.app (P:=nop) (Q:=nop) h.z ((AA.cons (P1:=nop) (P2:=nop) l AA.nil λ_ z=>z.elim).iff λa=>⟨λz=>z.elim,λz=>z.elim id id⟩) λ_ z=>z.elim).iff λa=>⟨λz=>z.elim,λz=>z.elim id id⟩
theorem VO{ks:List AO}{v:V}(h:Rep K g H o (.dct ks ds) v P):∃a us,v=.ref a/\H a=_s (.dK (ks.zip us))/\ks.length=ds.length/\AA K g H 0 ds us nop:=by unfold Rep at h;obtain⟨a,us,e,h1,_,_,⟨h5,R,h6⟩,_⟩:=h;exact⟨a,us,e,h1,h5,h6.z⟩
theorem Sh{ks:List AO}{v:V}(h:Rep K g H 1 (.dct ks ds) v P):∃a us,v=.ref a/\H a=_s (.dK (ks.zip us))/\ks.length=ds.length/\AA K g H 0 ds us nop /\
    ∀f i c,f.length=i.length->AA K g H 0 i c nop->Step g P H g P (upd H a (.dK (f.zip c)))/\Rep K g (upd H a (.dK (f.zip c))) 1 (.dct f i) (.ref a) P:=by
  have ok:=h.zAR;unfold Rep at h;obtain⟨a,us,e,h1,h2,h3,⟨h5,R,h6⟩,h4⟩:=h;have pa:P a:=(h4 a).mpr ⟨by decide,rfl⟩;refine⟨a,us,e,h1,h5,h6.z,λf i c hl j=>?_⟩;have st:Step g P H g P (upd H a (.dK (f.zip c))):=by refine⟨λb o hb n=>?_,λb hb=>?_,λ_ z=>z,λ_ z=>.inl z,⟨[],by simp⟩,λ_ z=>.inl z,λz b hb q=>?_,Ii h1 (λ_ _ _ z=>by cases z)⟩;unfold upd;rw[if_neg λe=>n (by rw[e];exact pa)];exact hb;unfold upd at hb;split at hb;cases hb;exact hb;unfold upd at q;split at q;cases q;exact z b hb q
  refine⟨st,?_⟩;unfold Rep;exact⟨a,c,rfl,by unfold upd;rw[if_pos rfl],(λz=>(wu z).elim),(λ_=>h3 `d),⟨hl,nop,j.held st ok λ_ z=>z.elim⟩,h4⟩
theorem AA.zFQ:∀{o:Nat}{ds:List Dv}{vs:List V}{P:Fp}{ks:List AO},AA K g H o ds vs P->GP ds=_s ks->vs=ks.map kV
 |o,[],vs,P,ks,h,e=>by cases e;unfold AA at h;exact h.1
 |o,d::ds,vs,P,ks,h,e=>by
  unfold AA at h;obtain⟨v,r,P1,P2,rfl,h1,h2,_⟩:=h;unfold GP at e;cases e1:Av d with
  |none=>rw[e1]at e;cases e
  |some k=>
   cases e2:GP ds with|none=>rw[e1,e2]at e;cases e|some a=>rw[e1,e2]at e;cases e;rw[CJ h1 e1,AA.zFQ h2 e2];rfl
theorem YH{v:V}{k:List AO}(h:Rep K g H o d v P)(e:YI d=_s k):∃b,v=.ref b/\H b=_s (.tup (k.map kV)):=by
 cases d with|tup ds=>unfold Rep at h;obtain⟨b,vs,rfl,h1,h2⟩:=h;rw[AA.zFQ h2 e]at h1;exact⟨b,rfl,h1⟩|_=>cases e
theorem lM{ks:List (NK AO)}{v:V}(h:Rep K g H o (.dnt ks ds) v P):∃a us,v=.ref a/\H a=_s (.dN (ks.zip us))/\ks.length=ds.length/\AA K g H 0 ds us nop:=by unfold Rep at h;obtain⟨a,us,e,h1,_,_,⟨h5,R,h6⟩,_⟩:=h;exact⟨a,us,e,h1,h5,h6.z⟩
theorem Sg{ks:List (NK AO)}{v:V}(h:Rep K g H 1 (.dnt ks ds) v P):∃a us,v=.ref a/\H a=_s (.dN (ks.zip us))/\ks.length=ds.length/\AA K g H 0 ds us nop /\
    ∀(f:List (NK AO)) i c,f.length=i.length->AA K g H 0 i c nop->Step g P H g P (upd H a (.dN (f.zip c)))/\Rep K g (upd H a (.dN (f.zip c))) 1 (.dnt f i) (.ref a) P:=by
  have ok:=h.zAR;unfold Rep at h;obtain⟨a,us,e,h1,h2,h3,⟨h5,R,h6⟩,h4⟩:=h;have pa:P a:=(h4 a).mpr ⟨by decide,rfl⟩;refine⟨a,us,e,h1,h5,h6.z,λf i c hl j=>?_⟩;have st:Step g P H g P (upd H a (.dN (f.zip c))):=by refine⟨λb o hb n=>?_,λb hb=>?_,λ_ z=>z,λ_ z=>.inl z,⟨[],by simp⟩,λ_ z=>.inl z,λz b hb q=>?_,Ii h1 (λ_ _ _ z=>by cases z)⟩;unfold upd;rw[if_neg λe=>n (by rw[e];exact pa)];exact hb;unfold upd at hb;split at hb;cases hb;exact hb;unfold upd at q;split at q;cases q;exact z b hb q
  refine⟨st,?_⟩;unfold Rep;exact⟨a,c,rfl,by unfold upd;rw[if_pos rfl],(λz=>(wu z).elim),(λ_=>h3 `d),⟨hl,nop,j.held st ok λ_ z=>z.elim⟩,h4⟩
def FD:List Dv->Option (NK AO)
 |[]=>_s []
 |d::ds=>((Av d).map Sum.inl |>.or ((YI d).map Sum.inr)).bind λk=>(FD ds).bind λks=>_s (k::ks)
def Gq:Dv->Option (NK AO)
 |.tup ds=>FD ds
 |_=>_n
theorem Hu:∀{o:Nat}{ds:List Dv}{vs:List V}{P:Fp}{k:NK AO},AA K g H o ds vs P->FD ds=_s k->aU H k vs
 |o,[],vs,P,ks,h,e=>by cases e;unfold AA at h;exact h.1
 |o,d::ds,vs,P,ks,h,e=>by
  unfold AA at h;obtain⟨v,r,P1,P2,rfl,h1,h2,_⟩:=h;unfold FD at e;obtain⟨k,a,e⟩:=Q6.mp e;obtain⟨f,c,e⟩:=Q6.mp e;cases e;rcases W3.mp a with a|⟨_,a⟩
  obtain⟨x,ex,rfl⟩:=G3.mp a;exact⟨r,by rw[CJ h1 ex],Hu h2 c⟩;obtain⟨x,ex,rfl⟩:=G3.mp a;obtain⟨b,rfl,hb⟩:=YH h1 ex;exact⟨b,r,rfl,hb,Hu h2 c⟩
theorem Bq{v:V}{k:NK AO}(h:Rep K g H o d v P)(e:Gq d=_s k):∃b,v=.ref b/\JC H k b:=by
 cases d with|tup ds=>unfold Rep at h;obtain⟨b,vs,rfl,h1,h2⟩:=h;exact⟨b,rfl,vs,h1,Hu h2 e⟩|_=>cases e
theorem LU{v:V}(h:Rep K g H 1 (.dct [] ds) v P):∃a,v=.ref a/\H a=_s (.dK []) /\
    ∀(f:List (NK AO)) i c,f.length=i.length->AA K g H 0 i c nop->Step g P H g P (upd H a (.dN (f.zip c)))/\Rep K g (upd H a (.dN (f.zip c))) 1 (.dnt f i) (.ref a) P:=by
  have ok:=h.zAR;unfold Rep at h;obtain⟨a,us,e,h1,h2,h3,⟨h5,R,h6⟩,h4⟩:=h;have pa:P a:=(h4 a).mpr ⟨by decide,rfl⟩;refine⟨a,e,h1,λf i c hl j=>?_⟩;have st:Step g P H g P (upd H a (.dN (f.zip c))):=by refine⟨λb o hb n=>?_,λb hb=>?_,λ_ z=>z,λ_ z=>.inl z,⟨[],by simp⟩,λ_ z=>.inl z,λz b hb q=>?_,Ii h1 (λ_ _ _ z=>by cases z)⟩;unfold upd;rw[if_neg λe=>n (by rw[e];exact pa)];exact hb;unfold upd at hb;split at hb;cases hb;exact hb;unfold upd at q;split at q;cases q;exact z b hb q
  refine⟨st,?_⟩;unfold Rep;exact⟨a,c,rfl,by unfold upd;rw[if_pos rfl],(λz=>(wu z).elim),(λ_=>h3 `d),⟨hl,nop,j.held st ok λ_ z=>z.elim⟩,h4⟩
end
noncomputable abbrev Mu:=Dv->List Dv->Option (Dv×Dv)
def Pz(K:W.Frag)(p:Mu)(R:V->List V->Hp->VK->Prop):Prop:=∀g H x v P ds us r y Q,Zd g H->Rep K g H 1 x v P->AA K g H 0 ds us nop->p x ds=_s (r,y) ->
 (∀w H' P',Step g P H g P' H'->Rep K g H' 1 y v P'->Rep K g H' 0 r w nop->Q w H')->R v us H Q
noncomputable def kind:Dv->String
 |.lst _=> "list"
 |.scr _=> "list"
 |.str _=> "str"
 |.int _=> "int"
 |.dct _ _=> "dict"
 |.dnt _ _=> "dict"
 |.dcl _ _=> "dict"
 |.tup _=> "tuple"
 |_=> "?"
def DR{a:Type}(T:String)(d:Dv)(o:Option a):Option a:=if kind d=T then o else _n
variable{T:String}
theorem Dx{b:Type}{o:Option b}{a:b}(h:DR T d o=_s a):kind d=T/\o=_s a:=by unfold DR at h;split at h;rename_i z;exact⟨z,h⟩;cases h
def Ym(T:String)(i:Nat)(p:Mu)(b:Ev (List Dv)):Ev Dv:=λR m k=>DR T (m.at i) (b R m λds a=>(p (a.at i) ds).bind λr=>k r.1 (a.set i r.2))
section
variable{K:W.Frag}{g:G}{H:Hp}{σ:St}{Γ Γ':Gm}{js:List Nat}{as:List Ar}
theorem HQ{v:V}(h:Rep K g H o d v P)(e:kind d=T)(hT:T = "list" \/ T = "str" \/ T = "int" \/ T = "dict"):rN K T v H:=by
 subst e;cases d with
 |lst ds=>unfold Rep at h;obtain⟨a,vs,P',rfl,h1,_⟩:=h;exact .inl ⟨rfl,vs,.inl (.inl h1.1)⟩
 |scr ns=>unfold Rep at h;obtain⟨⟨a,rfl,h1⟩,_⟩:=h;exact .inl ⟨rfl,_,h1.sq⟩
 |str l=>unfold Rep at h;rw[h.1];rfl
 |int i=>unfold Rep at h;rw[h.1];rfl
 |dnt ks l=>unfold Rep at h;obtain⟨a,vs,rfl,h1,_⟩:=h;exact .inr (.inr (.inl ⟨rfl,.inr (.inr ⟨_,h1⟩)⟩))
 |dcl ks l=>unfold Rep at h;obtain⟨a,vs,P',rfl,h1,_⟩:=h;exact .inr (.inr (.inl ⟨rfl,.inl ⟨_,h1⟩⟩))
 |dct ks l=>unfold Rep at h;obtain⟨a,vs,rfl,h1,_⟩:=h;exact .inr (.inr (.inl ⟨rfl,.inl ⟨_,h1⟩⟩))
 |_=>rcases hT with h|h|h|h<;>simp[kind]at h
theorem cW{i:Nat}{p:Mu}{R:V->List V->Hp->VK->Prop}(L:Pz K p R)(hT:T = "list" \/ T = "str" \/ T = "int" \/ T = "dict")(c:AF Γ as Γ' js)(he:Nb as=_t)(l:∃o,Γ[i]?=_s (_s o))(hi:Γ'[i]?=_s (_s 1)){Q:VK}
    (h:tE K Γ 0 Γ' (js++[i]) (Ym T i p (AQ as)) σ H Q):aO K T R (EI i) (Bd K as) σ H Q:=by
  obtain⟨g,m,P,r,R',k,res,e,q⟩:=h;obtain⟨S,e⟩:=Dx e;obtain⟨o0,l⟩:=l;obtain⟨t,P0,b,f,_⟩:=r.see l;refine⟨t,b,HQ f S hT,AM as r c e λds m1 B P1 vs H1 J U s ar A=>?_⟩;refine zAQ J λC O N=>?_;obtain⟨rs,y⟩:=C;obtain⟨v,X,Pr,ev,em,rv,x,n,M⟩:=A.take hi;rw[b]at ev;cases ev;refine L B H1 _ t X ds vs rs y Q A.zd rv (ar.zBi he) O λw Z P' s2 D E=>?_;have F:=x.held s2 rv.zAR λa q z=>n a z q;have I:=s2.out x.zAR λa q z=>n a z q;have j:i < Γ'.length:=(A4.mp hi).1;obtain⟨Y,u,sp⟩:=F.putIn j b D λa q z=>I a z q;rw[Cy hi]at u;refine q rs _ B Y nop w Z N (U.trans Bm.set) (s.trans ((s2.frame (R:=Pr)).sub (λa z=>(M a).mpr z) λa z=>z.elim (λz=>sp a z) E7)) E u λ_ _ z=>z
theorem Step.upd{a:B8}{o u:HO}{P':Fp}(h:H a=_s u)(f:∀C dx fs,u≠.ins C dx fs)(hs:∀b,P' b->b=a\/H b=_n):Step g (λb=>b=a) H g P' (upd H a o):=by
 have c:∀b,L2.upd H a o b=_n->H b=none:=λb q=>by by_cases hb:b=a;subst hb;rw[AE]at q;cases q;rw[AD hb]at q;exact q
 exact⟨λb u q n=>by rw[AD n];exact q,c,λ_ q=>q,λ_ q=>.inl q,⟨[],by simp⟩,hs,λz b q e=>z b q (c b e),Ii h f⟩
inductive OwL (K:W.Frag) (g:G) (H:Hp) (xs:List Dv) (v:V) (P:Fp):Prop
 | mk (a:B8) (vs:List V) (e:v=.ref a) (b:H a=_s (.lst vs)) (c:¬g.Z a) (d:AA K g H 0 xs vs nop) (f:∀b,P b↔b=a)
  (h:∀ws,Step g P H g P (upd H a (.lst ws))/\(∀{d:Dv}{u:V},Rep K g H 0 d u nop->Rep K g (upd H a (.lst ws)) 0 d u nop)/\∀ys,AA K g H 0 ys ws nop->Rep K g (upd H a (.lst ws)) 1 (.lst ys) (.ref a) P)
theorem Ea{xs:List Dv}{v:V}(h:Rep K g H 1 (.lst xs) v P):OwL K g H xs v P:=by
 unfold Rep at h;obtain⟨a,vs,P',rfl,h1,h2,h3,h5⟩:=h;have e:∀b,P b↔b=a:=λb=>by rw[h5 b];exact⟨λz=>z.elim (λz=>z.2) λz=>(h2.zAc b z).elim,λz=>.inl ⟨by decide,z⟩⟩
 have f:P=λb=>b=a:=funext λb=>propext (e b);have hz:=h1.2.2 `d;have c:zAS g H λb=>b=a:=λb q=>by subst q;exact⟨by rw[h1.1];trivial,hz⟩
 refine⟨a,vs,rfl,h1.1,hz,h2.z,e,λws=>?_⟩;have st:Step g (λb=>b=a) H g (λb=>b=a) (upd H a (.lst ws)):=Step.upd h1.1 (λ_ _ _ z=>by cases z) λb z=>.inl z;refine⟨by rw[f];exact st,λr=>r.held st c λ_ z=>z.elim,λys r=>?_⟩;unfold Rep;exact⟨a,ws,nop,rfl,⟨AE,(λz=>by cases z),λ_=>hz⟩,r.held st c λ_ z=>z.elim,λz=>z,λb=>by rw[e b];exact⟨λz=>.inl ⟨by decide,z⟩,λz=>z.elim (λz=>z.2) E7⟩⟩
theorem CW:∀{ds:List Dv}{vs:List V},AA K g H 0 ds vs nop↔ds.length=vs.length/\∀(i:Nat)(d:Dv)(v:V),ds[i]?=_s d->vs[i]?=_s v->Rep K g H 0 d v nop
 |[],vs=>⟨λh=>⟨h.len,λi d v e=>by simp at e⟩,λh=>by have:vs=[]:=F7 h.1.symm;subst this;exact AA.nil⟩
 |x::xs,vs=>by
  refine⟨λh=>⟨h.len,λi d v c b=>?_⟩,λh=>?_⟩;obtain⟨j,P,f,r,_⟩:=h.get c;rw[b]at f;cases f;exact r.z;cases vs with|nil=>simp at h|cons v vs=>exact(AA.cons (h.2 0 x v rfl rfl) (CW.mpr ⟨by simpa using h.1,λi d u c b=>h.2 (i+1) d u (by simpa using c) (by simpa using b)⟩) λ_ z=>z.elim).iff λa=>⟨λz=>z.elim,λz=>z.elim id id⟩
theorem Bi{es:List Dv}{vs us:List V}(h:AA K g H 0 ds vs nop)(k:AA K g H 0 es us nop):AA K g H 0 (ds++es) (vs++us) nop:=(AA.app h k λ_ z=>z.elim).iff λa=>⟨λz=>z.elim,λz=>z.elim id id⟩
theorem Ff{v:V}(h:Rep K g H 0 d v nop):AA K g H 0 [d] [v] nop:=(AA.cons h AA.nil λ_ z=>z.elim).iff λa=>⟨λz=>z.elim,λz=>z.elim id id⟩
theorem Ab{vs:List V}(h:AA K g H 0 (d::ds) vs nop):∃v us,vs=v::us/\Rep K g H 0 d v nop/\AA K g H 0 ds us nop:=by unfold AA at h;obtain⟨v,r,P1,P2,rfl,h1,h2,_⟩:=h;exact⟨v,r,rfl,h1.z,h2.z⟩
theorem Ai{vs:List V}(h:AA K g H 0 [] vs nop):vs=[]:=by unfold AA at h;exact h.1
theorem UM{vs:List V}{v:V}(j:Nat)(h:AA K g H 0 ds vs nop)(r:Rep K g H 0 d v nop):AA K g H 0 (ds.set j d) (vs.set j v) nop:=by
 have c:=CW.mp h;refine CW.mpr ⟨by simp[c.1],λi x y b a=>?_⟩;rcases FV b with⟨rfl,rfl⟩|⟨n,b⟩
 rcases FV a with⟨_,rfl⟩|⟨n,_⟩
 exact r;exact(n rfl).elim;rcases FV a with⟨z,_⟩|⟨_,a⟩
 exact(n z).elim;exact c.2 i x y b a
theorem Dq:Rep K g H o .non .non nop:=by unfold Rep;exact⟨rfl,λ_ z=>z⟩
noncomputable def Aa(x:Dv)(ds:List Dv):Option (Dv×Dv):=match x,ds with
 |.lst xs,[d]=>if xs.length<=1000000 then _s (.non,.lst (xs++[d]))else _n
 |_,_=>_n
noncomputable def Vn(x:Dv)(ds:List Dv):Option (Dv×Dv):=match x,ds with
 |.lst xs,[]=>match xs.getLast? with
  |some d=>_s (d,.lst xs.dropLast)
  |none=>_n
 |_,_=>_n
noncomputable def Bt(x:Dv)(ds:List Dv):Option (Dv×Dv):=match x,ds with
 |.lst xs,[.lst ys]=>if xs.length+ys.length<=1000000 then _s (.non,.lst (xs++ys))else _n
 |.lst xs,[.tup ys]=>if xs.length+ys.length<=1000000 then _s (.non,.lst (xs++ys))else _n
 |_,_=>_n
theorem Ug:Pz K Aa MX:=λg H x v P ds us r y Q zd f h e k=>by unfold Aa at e;split at e;rename_i xs d;split at e;rename_i hl;cases e;obtain⟨a,vs,rfl,ha,hz,b,j,go⟩:=Ea f;obtain⟨u,c,rfl,i,h2⟩:=Ab h;cases Ai h2;obtain⟨s,hd,mk⟩:=go (vs++[u]);exact⟨a,vs,u,rfl,rfl,ha,vJ (by rw[<- b.len];exact hl) `d,k _ _ P s (mk _ (Bi b (Ff i))) Dq⟩;cases e;cases e
theorem kN:Pz K Vn oM:=λg H x v P ds us r y Q zd j l e k=>by unfold Vn at e;split at e;rename_i xs;split at e;rename_i d el;cases e;obtain⟨a,vs,rfl,ha,hz,h,p,go⟩:=Ea j;cases Ai l;obtain⟨s,hd,mk⟩:=go vs.dropLast;have f:=CW.mp h;rw[List.getLast?_eq_getElem?]at el;obtain⟨u,P1,n,m,_⟩:=h.get el;refine⟨a,vs,u,rfl,rfl,ha,by rw[<- f.1];exact n,k _ _ P s (mk _ ?_) (hd m.z)⟩;refine CW.mpr ⟨by simp[f.1],λi d v c b=>?_⟩;rw[List.getElem?_dropLast]at c b;split at c;split at b;exact f.2 i d v c b;cases b;cases c;cases e;cases e
theorem Ue:Pz K Bt (λx vs H Q=>SZ x vs H Q\/OK x vs H Q):=λg H x v P ds us r y Q zd i j e k=>by unfold Bt at e;split at e;rename_i xs ys;split at e;rename_i hl;cases e;obtain⟨a,vs,rfl,ha,hz,c,l,go⟩:=Ea i;obtain⟨u,h,rfl,f,h2⟩:=Ab j;cases Ai h2;unfold Rep at f;obtain⟨b,ws,P',rfl,h1,h3,_⟩:=f;obtain⟨s,hd,mk⟩:=go (vs++ws);exact .inl ⟨a,b,vs,ws,rfl,rfl,ha,h1.1,A8 (by rw[<- c.len,<- h3.len];exact hl) `d,k _ _ P s (mk _ (Bi c h3.z)) Dq⟩;cases e;rename_i xs ys;split at e;rename_i hl;cases e;obtain⟨a,vs,rfl,ha,hz,c,l,go⟩:=Ea i;obtain⟨u,h,rfl,f,h2⟩:=Ab j;cases Ai h2;unfold Rep at f;obtain⟨b,ws,rfl,h1,h3⟩:=f;obtain⟨s,hd,mk⟩:=go (vs++ws);exact .inr ⟨a,b,vs,ws,rfl,rfl,ha,h1,A8 (by rw[<- c.len,<- h3.len];exact hl) `d,k _ _ P s (mk _ (Bi c h3.z)) Dq⟩;cases e;cases e
end
def gP(i:Nat)(p:Dv->Dv->Dv->Option Dv)(f:Ev Dv)(c:Ev (List Dv)):Es:=λR m k=>f R m λd b=>c R b λks a=>match ks with|[j]=>(p (a.at i) j d).bind λy=>k.nx (a.set i y)|_=>_n
def Ao(x k d:Dv):Option Dv:=match x,k with
 |.lst xs,.int k=>(Kh xs.length k).bind λj=>_s (.lst (xs.set j d))
 |.dct ks ds,k=>((Av k).bind λk=>if ks.length<=1000000 then _s (.dct (Ie k ks) (Ic k d ks ds))else _n).or (if ks.isEmpty=_t then(Gq k).bind λk=>_s (.dnt [k] [d])else _n)
 |.dnt ks ds,k=>(Gq k).bind λk=>if ks.length<=1000000 then _s (.dnt (Ie k ks) (Ic k d ks ds))else _n
 |_,_=>_n
def eV(K:W.Frag)(p:Dv->Dv->Dv->Option Dv)(T:NW):Prop:=∀g H x v P j a d u y (Q:Hp->Prop),Zd g H->Rep K g H 1 x v P->RA K g H [j] [a]->Rep K g H 0 d u nop->p x j d=_s y->(∀H' P',Step g P H g P' H'->Rep K g H' 1 y v P'->Q H')->T v a u H Q
theorem iY{K:W.Frag}:eV K Ao (λo i v H Q=>Wq o i v H Q\/uG o i v H Q\/uD o i v H Q):=λg H x v P j G d u y Q zd p f r e q=>by
 unfold Ao at e;split at e;rename_i xs kk;refine zAQ e λjj F e=>?_;cases e;obtain⟨a,vs,rfl,ha,hz,n,I,go⟩:=Ea p;unfold RA at f;obtain⟨w,t,o,D,m,_,c,_⟩:=f;cases m;rw[AI c];obtain⟨s,hd,mk⟩:=go (vs.set jj u);exact .inl ⟨a,vs,kk,jj,rfl,rfl,ha,by rw[<- n.len];exact F,q _ P s (mk _ (UM jj n r))⟩;rename_i ks ds;rcases W3.mp e with e|⟨_,e⟩
 refine zAQ e λk ek e=>?_;split at e;rename_i hl;cases e;obtain⟨a,us,rfl,ha,l,n,go⟩:=Sh p;unfold RA at f;obtain⟨w,t,o,D,m,_,c,_⟩:=f;cases m;obtain⟨h,C,B,A⟩:=HA (k:=k) l n r;obtain⟨s,mk⟩:=go _ _ h A B;refine .inr (.inl ⟨a,_,rfl,.inl ?_,q _ P s mk⟩);rw[CJ c ek,<- C];refine QB.k ha ?_;have:(ks.zip us).length<=ks.length:=by rw[V4];omega
 have z:(1000000:Nat) < sizeLine:=by decide
 omega;cases e;split at e;rename_i E;refine zAQ e λk ek e=>?_;cases e;obtain rfl:ks=[]:=by cases ks with|nil=>rfl|cons _ _=>cases E
 obtain⟨a,rfl,ha,go⟩:=LU p;unfold RA at f;obtain⟨w,t,o,D,m,_,c,_⟩:=f;cases m;obtain⟨b,rfl,hb⟩:=Bq c ek;obtain⟨s,mk⟩:=go [k] [d] [u] rfl ((AA.cons (P1:=nop) (P2:=nop) r AA.nil λ_ z=>z.elim).iff λa=>⟨λz=>z.elim,λz=>z.elim id id⟩);exact .inr (.inr ⟨a,_,rfl,⟨k,b,rfl,hb,.inr ⟨ha,rfl⟩⟩,q _ P s mk⟩);cases e;rename_i ks ds;refine zAQ e λk ek e=>?_;split at e;rename_i hl;cases e;obtain⟨a,us,rfl,ha,l,n,go⟩:=Sg p;unfold RA at f;obtain⟨w,t,o,D,m,_,c,_⟩:=f;cases m;obtain⟨h,C,B,A⟩:=HA (k:=k) l n r;obtain⟨s,mk⟩:=go _ _ h A B;obtain⟨b,rfl,hb⟩:=Bq c ek;refine .inr (.inr ⟨a,_,rfl,⟨k,b,rfl,hb,.inl ⟨_,ha,?_,?_⟩⟩,q _ P s mk⟩);have:(ks.zip us).length<=ks.length:=by rw[V4];omega
 have z:(1000000:Nat) < sizeLine:=by decide
 omega;rw[<- C];cases e;cases e
section
variable{K:W.Frag}{F:Fr}{Γl:Option Gm}{Γ Γ1 Γ':Gm}{js js2:List Nat}{i:Nat}{f:Ev Dv}{a:Ar}{p:Dv->Dv->Dv->Option Dv}{T:NW}
theorem We(hp:eV K p T)(c:AF Γ1 [a] Γ' js2)(N:∃o,Γ1[i]?=_s (_s o))(hi:Γ'[i]?=_s (_s 1)){D:Ends}{σ:St}{H:Hp}(h:tS K F Γl Γ (_s Γ') (js++(js2++[i])) (gP i p f (AQ [a])) D σ H):Kk (tE K Γ 0 Γ1 js f) (lB (EI i) (QT K a) T) D σ H:=by
 obtain⟨g,m,P,r,R,k,res,e,q⟩:=h;refine⟨g,m,P,r,R,_,res,e,λd m1 g1 P1 Pv u B hk ag s rv L n=>?_⟩;obtain⟨o0,N⟩:=N;obtain⟨E,P0,x,_,_⟩:=L.see N;refine⟨E,x,?_⟩;have rz:=rv.z;have s':Step g P H g1 P1 B:=s.less λ_ z=>.inl z;have M:Bd K [a] σ B λvs A=>∃w,vs=[w]/\T E w u A λU=>D.nx σ U:=by
  refine AM [a] L c hk λds m2 g2 P2 vs A b O s2 ar J=>?_;have al:=ar.len;have ra:=ar.ra J
  match ds,al.1,b,ra with
  |[j],_,b,ra=>have I:=ra;unfold RA at ra;obtain⟨w,wr,o,Po,rfl,_,h1,h2⟩:=ra;unfold RA at h2;subst h2;refine zAQ b λy e1 e2=>?_;obtain⟨v,Pa,Pr,ev,em,V,Y,Z,hP⟩:=J.take hi;rw[x]at ev;cases ev;refine⟨w,rfl,hp g2 A _ E Pa j w d u y _ J.zd V I (rz.held s2 L.zAR λ_ z=>z.elim) e1 λU P' G ry=>?_⟩;have r4:=Y.held G V.zAR λa q z=>Z a z q;have n4:=G.out Y.zAR λa q z=>Z a z q;obtain⟨P5,X,sp⟩:=r4.putIn (A4.mp hi).1 x ry λa q z=>n4 a z q;rw[Cy hi]at X;exact q.nx Γ' _ g2 P5 σ U rfl e2 (ag.trans (O.trans Bm.set)) ((s'.trans s2).trans ((G.frame (R:=Pr)).sub (λa z=>(hP a).mpr z) λa z=>sp a z)) Io.refl X
 have mono:∀(S Q:VK),(∀v H,S v H->Q v H)->QT K a σ B S->QT K a σ B Q:=by
  intro S Q l t;cases a with|ev Γa Γb ja fa=>obtain⟨g,m,P,r,R,k,res,e,q⟩:=t;exact⟨g,m,P,r,R,k,res,e,λd m' g' P' Pv v H' h1 h2 h3 h4 h5 h6=>l _ _ (q d m' g' P' Pv v H' h1 h2 h3 h4 h5 h6)⟩|rf i=>obtain⟨v,e,q⟩:=t;exact⟨v,e,l _ _ q⟩|fd i f=>obtain⟨v,e,a,C,dx,fs,w,h1,h2,h3,h4,h5,q⟩:=t;exact⟨v,e,a,C,dx,fs,w,h1,h2,h3,h4,h5,l _ _ q⟩
 refine mono _ _ (λv A z=>?_) M;obtain⟨w,ew,z⟩:=z;cases ew;exact z
end
def Yn(T:String)(a:Ar)(as:List Ar)(p:Pr):Ev Dv:=match a with
 |.rf i=>λR m k=>DR T (m.at i) (AQ as R m λds b=>(p (b.at i::ds)).bind λd=>k d b)
 |.ev _ _ _ f=>λR m k=>f R m λx b=>DR T x (AQ as R b λds c=>(p (x::ds)).bind λd=>k d c)
 |.fd _ _=>λ_ _ _=>_n
def mW(r:V->List V->Hp->VK->Prop):QG:=λvs H Q=>match vs with|x::us=>r x us H Q|_=>False
theorem kO{K:W.Frag}{σ:St}{H:Hp}{Γ Γ':Gm}{js:List Nat}{a:Ar}{as:List Ar}{p:Pr}{r:V->List V->Hp->VK->Prop}(R:AL K p o (mW r))(hT:T = "list" \/ T = "str" \/ T = "int" \/ T = "dict")(c:AF Γ (a::as) Γ' js){Q:VK}
    (h:tE K Γ o Γ' js (Yn T a as p) σ H Q):aO K T r (QT K a) (Bd K as) σ H Q:=by
  obtain⟨g,m,P,rl,R',k,res,e,q⟩:=h;cases a with|fd i f=>cases e|rf i=>obtain⟨G,e⟩:=Dx e;unfold AF at c;obtain⟨⟨o0,h0⟩,⟨o1,C,h1⟩,c⟩:=c;obtain⟨j,P0,w,B,_⟩:=rl.see h0;refine⟨j,w,HQ B G hT,AM as rl c e λds O y P1 vs M t J s ar b=>?_⟩;refine zAQ t λd F E=>?_;obtain⟨v1,P1',u,A,_⟩:=b.see h1;rw[w]at u;cases u;refine R y M _ (j::vs) d Q b.zd (by unfold RA;exact⟨j,vs,o1,P1',rfl,C,A,ar.ra b⟩) F λv L nw=>?_;obtain⟨Pv,s2,h1,l,n2⟩:=Ad.go s b nw;exact q d O y P1 Pv v L E J s2 h1 l n2|ev X U js1 f=>unfold AF at c;obtain⟨rfl,js2,rfl,c⟩:=c;refine⟨g,m,P,rl,R',_,res,e,λx O y P1 Pv j M t J s rv b n=>?_⟩;obtain⟨G,t⟩:=Dx t;have N:=rv.z;have s':Step g P H y P1 M:=s.less λ_ z=>.inl z;refine⟨HQ N G hT,AM as b c t λds m2 S P2 vs L D I s2 ar l=>?_⟩;refine zAQ D λd F E=>?_;refine R S L _ (j::vs) d Q l.zd (by unfold RA;exact⟨j,vs,0,nop,rfl,by decide,N.held s2 b.zAR λ_ z=>z.elim,ar.ra l⟩) F λv H3 nw=>?_;obtain⟨Pw,Y,h1,Z,n3⟩:=Ad.go (s'.trans s2) l nw;exact q d m2 S P2 Pw v H3 E (J.trans I) Y h1 Z n3
end R
namespace L2
open PySem PySem.Spec PyProof.Rows
variable{a:B8}
section
variable{prog:F9}{w:J5}{K:Type}[DecidableEq K]{knd:HeapKind prog w K}{A:J3}{E:_v->A7->Prop}{s:A7}
theorem Fy{d:B8}{xs:List (K×B8×_v)}{k:K}{v:_v}{Q:_v->A7->Prop}(n:knd.room A)(f:knd.is s.heap k a)(hm:s.heap.DictOfH knd d xs)
    (h1:∀u,(Z3 xs k).map (·.2)=_s u->Q u {s with toks:=s.toks+knd.draws k})
    (h2:Z3 xs k=_n->∀h',h'.DictOfH knd d (zH xs k a v)->N9 d s.heap h'->Q v {s with heap:=h',toks:=s.toks+knd.draws k})
    (hsz:xs.length<=sizeLine):C8 (D9 prog w) A (xN d (.ref a) v) Q E s:=by
  obtain⟨o,es,t,g,r,hd,he,h,l⟩:=hm;unfold xN
  try with_reducible refine J0 ?_
  refine A1 (knd.pyHash n f ?_);refine A1 (wpAny_dictFind_heap (s:={s with toks:=s.toks+knd.draws k}) n f g hd he h l ?_ ?_);intro b;have i:k∉xs.map (·.1):=not_mem_keys_of_get b;refine A1 (W6 (A1 (wpAny_updateDictKeys (hz:=by have e:=size_of_entries he;omega) (s:={s with toks:=s.toks+knd.draws k}) g hd (A6 (h2 (atKey_none_of_get b) _ ⟨_,_,t+1,W0 _ g (Obj.isFreed_of_dict (xO hd _)),
    r.mapDictKeys _,xO hd _,?_,?_,?_⟩ (R6 ..))))))
  rw[storedH_new (atKey_none_of_get b)];simp[he,zK];rw[storedH_new (atKey_none_of_get b)];intro x c;rcases C0.mp c with c|c
  exact knd.keeps (h x c) g hd (R6 ..);simp only[C4]at c;subst c;exact knd.keeps f g hd (R6 ..);rw[storedH_new (atKey_none_of_get b)];rw[M4,vb];refine⟨l,by simp,?_⟩;intro x c y m;simp only[B7,N0,C4]at m;subst m;exact λe=>i (e▸c);intro j p q;refine A1 (wpAny_dictEntries (s:={s with toks:=s.toks+knd.draws k}) g hd ?_);rw[entry_at he j,q];exact A1 (W6 (A6 (h1 p.2 (by rw[atKey_of_get l q];rfl))))
end
def Wt:V->List V->Hp->VK->Prop:=λx vs H Q=>∃a y z,x=.ref a/\vs=[y,z]/\((∃o,GA H a y o/\Q (o.getD z) H)\/∃kvs k b,y=.ref b/\JC H k b/\H a=_s (.dN kvs)/\Q ((Ae kvs k).getD z) H)
def tR{b:Type} [DecidableEq b] (mk:List (b×V)->HO) (H:Hp) (a:B8) (kvs:List (b×V)) (k:b) (z:V) (Q:VK):Prop:=(∀v,Ae kvs k=_s v->Q v H)/\(Ae kvs k=_n->kvs.length < sizeLine/\Q z (upd H a (mk (BN kvs k z))))
def SX:V->List V->Hp->VK->Prop:=λx vs H Q=>∃a y z,x=.ref a/\vs=[y,z]/\((∃kvs k,H a=_s (.dK kvs)/\y=kV k/\tR .dK H a kvs k z Q)\/(∃kvs k b,y=.ref b/\JC H k b/\H a=_s (.dN kvs)/\tR .dN H a kvs k z Q) \/
 ∃k b,y=.ref b/\JC H k b/\H a=_s (.dK [])/\Q z (upd H a (.dN [(k,z)])))
section
variable{X:Cx}
theorem cZ(C:X.A.units+2 < K0):aI X "dict.get" Wt:=by
 intro pins s σ H x vs v us Q I l rv h;obtain⟨a,y,z,rfl,rfl,h⟩:=h;cases l;obtain⟨u,r,rfl,f,i⟩:∃u r,us=[u,r]/\RelV y u/\RelV z r:=by cases rv with|cons n t=>cases t with|cons m t=>cases t;exact⟨_,_,rfl,n,m⟩
 rcases h with⟨o,g,q⟩|⟨kvs,k,b,rfl,hb,e,q⟩
 exact lP `o I g f i λB s' p c=>⟨_,H,p,c,q⟩;cases f;obtain⟨z,hd,xs,d,j⟩:=Gy I.hok e;refine wb W2 j.typeIs Z4 (Y5 _ _ _) (wH (BU (AJ X.prog X.w) (BJ X.prog X.w)) a b hd r) ⟨(show X.A.in1.units+1 < K0 by show X.A.units+1+1 < K0;omega),k,xs,DX I.hok hb,j,⟨_,H,I.tok _,?_,q⟩⟩;exact(d.val k).getD i
theorem pE{pins:List (B8×Obj)}{σ:St}{H:Hp}{s:A7}{b:B8}{kvs:List (NK AO×V)}{k:NK AO}{z:V}{r:_v}{E:_v->A7->Prop}{Q:_v->A7->Prop}(x:X.A.units+2 < K0)(I:Inv X pins σ H s)(e:H a=_s (.dN kvs))(hb:JC H k b)(n:RelV z r)
    (h1:∀v m s',Ae kvs k=_s v->Inv X pins σ H s'->RelV v m->Q m s') (h2:Ae kvs k=_n->kvs.length < sizeLine/\∀s',Inv X pins σ (upd H a (.dN (BN kvs k z))) s'->Q r s') :
    C8 (D9 X.prog X.w) X.A (call (.builtin "dict.setdefault") [.ref a,.ref b,r]) Q E s:=by
  obtain⟨hz,hd,xs,d,l⟩:=Gy I.hok e;refine L8 F.slot_dict_setdefault l.typeIs F.entry_dict_setdefault ?_ (F.args_dict_setdefault_3 _ _ _);unfold U2.«dict.setdefault»;refine A1 ?_;unfold zg;refine A1 (w9 l.typeIs ?_);show C8 _ _ (pure (a,E9 b,_s r)) _ _ s;refine A6 ?_;show C8 _ _ (if(a==Q9)=_t then _ else(xN a (.ref b) r >>= _)) _ _ s;rw[if_neg (by rw[hd];exact D2)];refine A1 (Fy (knd:=BU (AJ X.prog X.w) (BJ X.prog X.w)) (show X.A.in1.units+1 < K0 by show X.A.units+1+1 < K0;omega) (DX I.hok hb) l (λu g=>A6 ⟨u,rfl,?_⟩) (λp h' j hs=>A6 ⟨r,rfl,?_⟩) (by rw[<- Paired.length d];exact hz));have q:=d.val k;rw[g]at q;cases ev:Ae kvs k with|none=>rw[ev]at q;exact q.elim|some v=>rw[ev]at q;exact h1 v u _ ev (I.tok _) q
  have q:=(d.val k).zAX;rw[Q5,p]at q;have ev:Ae kvs k=none:=by cases c:Ae kvs k with|none=>rfl|some _=>rw[c]at q;cases q
  obtain⟨hl,o⟩:=h2 ev;refine o _ ?_;have h:(BN kvs k z).length<=sizeLine:=by have:=BV kvs k z;omega
  obtain⟨q,es,t,f,i,h3,h4,_,h5⟩:=j;refine CL I (by rw[e];exact True.intro) hs ⟨q,f⟩ ⟨h,hd,_,(d.put k hb n).keeps λc ys ec=>?_,q,es,t,f,i,h3,h4,h5⟩;rw[AD (Sj ec e (λz=>nomatch z))];exact ec
theorem Sm(n:X.A.units+2 < K0):aI X "dict.setdefault" SX:=by
  intro pins s σ H x vs v us Q I B rv h;obtain⟨a,y,z,rfl,rfl,h⟩:=h;cases B;obtain⟨u,r,rfl,l,g⟩:∃u r,us=[u,r]/\RelV y u/\RelV z r:=by cases rv with|cons D t=>cases t with|cons C t=>cases t;exact⟨_,_,rfl,D,C⟩
  rcases h with⟨kvs,k,e,rfl,h1,h2⟩|⟨kvs,k,b,rfl,hb,e,h1,h2⟩|⟨k,b,rfl,hb,e,q⟩
  obtain⟨hz,hd,ps,d,o⟩:=TZ I.hok e;have rv:=d.val k;refine wb F.slot_dict_setdefault o.typeIs F.entry_dict_setdefault (F.args_dict_setdefault_3 _ _ _) (kt_meets_setdefault (AJ X.prog X.w) a (IM l) hd r) ⟨ps,o,by rw[<- d.length];exact hz,λw E=>?_,λG h' j hs=>?_⟩;rw[E]at rv;cases ev:Ae kvs k with|none=>rw[ev]at rv;exact rv.elim|some v=>rw[ev]at rv;exact⟨v,H,I.tok _,rv,h1 v ev⟩
  have ev:Ae kvs k=none:=by rw[G]at rv;cases c:Ae kvs k with|none=>rfl|some _=>rw[c]at rv;exact rv.elim
  obtain⟨hl,q⟩:=h2 ev;have m:(BN kvs k z).length<=sizeLine:=by have:=BV kvs k z;omega
  have he:∃q,h'.get? a=_s q:=let ⟨q,_,_,hq,_⟩:=j;⟨q,hq⟩;exact⟨z,_,CL I (by rw[e];exact True.intro) hs he (ZK m hd (d.put k g) j),g,q⟩
  cases l;exact pE n I e hb g (λv p s' ev f i=>⟨v,H,f,i,h1 v ev⟩) λev=>⟨(h2 ev).1,λs' f=>⟨z,_,f,g,(h2 ev).2⟩⟩;cases l;refine pE n (I.reN e) AE (Mi e hb _) g (λv p s' ev f i=>by cases ev) λev=>⟨by decide,λs' f=>⟨z,upd H a (.dN [(k,z)]),?_,g,q⟩⟩;have:upd (upd H a (.dN [])) a (.dN (BN [] k z))=upd H a (.dN [(k,z)]):=by funext c;by_cases h:c=a;subst h;rw[AE,AE];rfl;rw[AD h,AD h,AD h]
  rw[this]at f;exact f
end
theorem Nc:xh (.type "zip") "keys" = pure none:=am_miss_of_fast (by decide +kernel)
theorem HL:xh (.type "zip") "__getattr__" = pure none:=by rw[typeLookup_type,builtinLookup_eq_fast];kernel_rfl
theorem Ee:entryFor table "zip.__getattribute__" = _s U2.«object.__getattribute__»:=
 entryFor_alias (id' := "object.__getattribute__") `k (by decide +kernel) (by decide +kernel) `k
theorem Jt(a:B8)(xs:Array _v)(sl:Array (Option _v))(name:Str)(u:Tok)(c:xh (.type "zip") name=pure _n)(b:(["__module__", "__name__", "__qualname__", "__doc__", "__annotations__"]:List Str).contains name=_f)(hsz:name.length+100<=sizeLine:=by size_fits) :
    zv (U2.«object.__getattribute__» ⟨[.ref a,.str name u],[]⟩) (λA R s=>s.heap.get? a=_s {cls:=.type "zip", dict:=_n,data:=.fields xs,slots:=sl}/\raisesAttr (.ref a) name A R s):=
  Meets.of_wp λprog w A R s hs=>by
    obtain⟨h,g,d,e,os⟩:=s;obtain⟨f,hs⟩:=hs;have hT:(⟨h,g,d,e,os⟩:A7).TypeIs (.ref a) "zip" := ⟨_,f,rfl⟩;unfold U2.«object.__getattribute__»
    repeat (any_goals (first|assumption|wp_step))
    simp only[b,B4,if_false]
    repeat (any_goals (first|assumption|wp_step))
    exact wpAny_raiseAttrError hs.1 hs.2 (attrMsg_fits (by decide +kernel) hsz)
theorem Xi{prog:F9}{w:J5}{A:J3}{E:_v->A7->Prop}{s:A7}{a:B8}{xs:Array _v}{Q:Option _v->A7->Prop}
    (j:s.heap.get? a=_s {cls:=.type "zip", dict:=_n,data:=.fields xs,slots:=#[]}) (l:A.handled=_n)
    (h:∀h' i,(∀b o,s.heap.get? b=_s o->h'.get? b=_s o)->Q _n {s with heap:=h',toks:=i}) :
    C8 (D9 prog w) A (getAttr? (.ref a) "keys") Q E s:=by
  obtain⟨k,g,d,i,os⟩:=s;have hT:∀c,(⟨k,g,d,c,os⟩:A7).TypeIs (.ref a) "zip" := λ_=>⟨_,j,rfl⟩;have r:=sub_AttributeError;have q:=F.slot_zip_getattribute.lookup;have p:=F.slot_zip_getattribute.bind (.ref a);have n:=HL;unfold getAttr? getAttrBy? getAttrBy
  repeat (any_goals (first|assumption|exact hT _|((with_reducible show C8 _ _ (call (zh "zip.__getattribute__") _ _) _ _ _);refine call_meets F.slot_zip_getattribute (hT _) Ee (F.args_zip_getattribute_2 _ _) (Jt a xs #[] "keys" _ Nc (by decide +kernel) (by decide +kernel)) ⟨j,l,λh' c e f=>?_⟩)|wp_step))
  obtain⟨t',m,he⟩:=f.there;show C8 _ _ (xu _ _ _ _ _ _ _) _ _ _;unfold xu
  repeat (any_goals (first|assumption|wp_step))
  exact h _ _ f.keeps
structure Zs2 (h:K4) (I:Nat) (ls:List Sq) (i:Nat) (f0:_v) (f:Bool):Prop where
 z:h.get? (I+ls.length+2)=_s {cls:=.type "zip", dict:=_n,data:=.fields #[f0,.bool f,.bool _f,.ref (I+ls.length),.ref (I+ls.length+1)],slots:=#[]}
 ti:FQ h (I+ls.length) (aP I ls.length).toArray
 to:∃vs:Array _v,vs.size=ls.length/\FQ h (I+ls.length+1) vs
 s:∀k l,ls[k]?=_s l->NZ h (I+k) l.1 i l.2
theorem Zs2.at{h h':K4}{I:Nat}{ls:List Sq}{i:Nat}{f0:_v}{f:Bool}(x:Zs2 h I ls i f0 f)(k:∀(c:Nat) o,I<=c->c < I+ls.length+3->h.get? c=_s o->h'.get? c=_s o):Zs2 h' I ls i f0 f:=
 ⟨k _ _ `o `o x.z,k _ _ `o `o x.ti,let ⟨vs,n,e⟩:=x.to;⟨vs,n,k _ _ `o `o e⟩,λj l e=>(x.s j l e).at λo=>k _ o `o (by have:=Bv e;omega)⟩
def mU(h:K4)(I n:Nat)(f0:_v)(f:Bool):Prop:=(f0=.none/\f=_f)\/∃(a:Nat)(b:Obj),f0=i7 a/\h.get? a=_s b/\(a < I\/I+n+3<=a)
section
variable{prog:F9}{w:J5}{A:J3}{E:_v->A7->Prop}{s:A7}
theorem Tw{I:Nat}{ls:List Sq}{i:Nat}{Y:Nat->Array _v}{a:Nat}{P:Obj}{f:Bool}{Q:_v->A7->Prop}(T:A.handled=_n)(R:ls.length<=3)(n0:0 < ls.length)(hz:Zs2 s.heap I ls i (i7 a) f)(ha:s.heap.get? a=_s P)(V:a < I\/I+ls.length+3<=a)(hl:∀k l,ls[k]?=_s l->l.1 < I/\Py s.heap l.1 (Y k) l.2)
    (X:∀h' vs,vs.size=ls.length->(∀k,k < ls.length->vs[k]?=(Y k)[i]?)->Zs2 h' I ls (i+1) (i7 a) _t->FQ h' s.heap.objs.size vs->(∀(c:Nat) o,(c < I\/I+ls.length+3<=c)->s.heap.get? c=_s o->h'.get? c=_s o)->Q (.ref s.heap.objs.size) {s with heap:=h' })
    (Z:∀h' e,(∃k,k < ls.length/\(Y k)[i]?=_n)->(∀(c:Nat) o,(c < I\/I+ls.length+3<=c)->s.heap.get? c=_s o->h'.get? c=_s o)->(∃o,h'.get? e=_s o/\o.cls=.type "StopIteration")->E (.ref e) {s with heap:=h' }) :
    C8 (D9 prog w) A (U2.«zip.__next__» ⟨[.ref (I+ls.length+2)],[]⟩) (λfin s'=>∃v,fin=.done (.ret v)/\Q v s') E s:=by
  obtain⟨q,u,⟨M,S,D⟩,O⟩:=hz;show C8 _ _ (field (.ref (I+ls.length+2)) 2 >>= _) _ _ _;refine A1 (M3 q rfl (x:=.bool _f) rfl ?_);show C8 _ _ (field (.ref (I+ls.length+2)) 3 >>= _) _ _ _;refine A1 (M3 q rfl (x:=.ref (I+ls.length)) rfl ?_);refine A1 (S1 u rfl ?_);show C8 _ _ (if(aP I ls.length).toArray.isEmpty=_t then _ else _) _ _ _;rw[if_neg (by simp only[xJ,j6,xW,wc];omega)];have F:C8 (D9 prog w) A (K8 (.ref (I+ls.length+2))) (λb s'=>b=_f/\∃h₁:K4,s'={s with heap:=h₁}/\h₁.get? (I+ls.length+2)=_s {cls:=.type "zip", dict:=_n,data:=.fields #[i7 a,.bool _t,.bool _f,.ref (I+ls.length),.ref (I+ls.length+1)],slots:=#[]}/\N9 (I+ls.length+2) s.heap h₁) E s:=by
    unfold K8;refine A1 (M3 q rfl (x:=i7 a) rfl ?_);show C8 _ _ (loadIfAlive ((a:Int).toNat) >>= _) _ _ _;rw[T8];refine A1 (W.kdx_alive ha ?_);simp only[Option.isNone_some,B4,if_false];refine A1 (M3 q rfl (x:=.bool f) rfl ?_);cases f with|true=>rw[if_neg (show ¬((g9 _t != g9 _t)=_t)from D2)];exact A6 ⟨rfl,_,rfl,q,yQ _ _⟩|false=>rw[if_pos (show(g9 _f != g9 _t)=_t from rfl)];exact A1 (V2 q `s λh₁ p d=>A6 ⟨rfl,h₁,rfl,p,d⟩)
  show C8 _ _ (K8 (.ref (I+ls.length+2)) >>= _) _ _ _;refine A1 (R0 F ?_ λ_ _ e=>e);rintro b s1 ⟨rfl,h₁,rfl,p,d⟩;simp only[B4,if_false];rw[List.forIn_toArray];refine A1 (dG (λk r s'=>∃(h':K4)(vs:Array _v),r=(_n,vs)/\s'={s with heap:=h' }/\vs.size=k/\(∀j,j < k->vs[j]?=(Y j)[i]?)/\(∀(c:Nat) o,(c < I\/I+k<=c)->h₁.get? c=_s o->h'.get? c=_s o)/\h'.objs.size=h₁.objs.size/\∀j l,j < k->ls[j]?=_s l->NZ h' (I+j) l.1 (i+1) l.2) _ 0 _ _ ⟨h₁,#[],rfl,rfl,rfl,nofun,λ_ _ _ e=>e,rfl,nofun⟩ ?_ ?_);rintro j x r s1 e ⟨h2,vs,rfl,rfl,g,hv,t,hsz,h⟩;rw[E8]at g hv t h ⊢;obtain⟨x,C,rfl⟩:∃l,ls[j]?=_s l/\x=.ref (I+j):=by have z:=Bv e;simp only[C3,S5]at z;refine⟨_,A2 z,?_⟩;simp only[D0,xK,z,F0,Q7,zAJ,if_true]at e;exact e.symm
  have z:=Bv C;obtain⟨lI,at_⟩:=hl j x C;have up1:∀(c:Nat) o,c≠I+ls.length+2->(c < I\/I+j<=c)->s.heap.get? c=_s o->h2.get? c=_s o:=λc o L K e=>t c o K (d.extBut _ _ L e);refine A1 (J0 ?_);show C8 _ _ (S8 (.ref (I+j)) >>= _) _ _ _;refine A1 (SM T ((O j x C).at λo e=>up1 _ o `o `o e) (at_.at λo e=>up1 _ o `o `o e) (λy p1 G N sp=>A6 ?_) λG p1 e' H he=>?_);refine A6 ⟨_,rfl,p1,vs.push y,rfl,rfl,by rw[Array.size_push,g],λm hm=>?_,λc o K e=>sp.extBut _ _ (HG `o) (t c o `o e),by rw[sp.1,hsz],λm l hm J=>?_⟩;rw[Array.getElem?_push,g];by_cases n:m=j;subst n;rw[if_pos rfl,G];rw[if_neg n];exact hv m `o;by_cases n:m=j;subst n;cases C.symm.trans J;exact N;exact(h m l `o J).at λo e=>sp.extBut _ _ (HG `o) e;exact Z p1 e' ⟨j,z,G⟩ (λc o U x=>H _ _ (HG `o) (up1 c o `o `o x)) he;rintro r s1 ⟨h2,vs,rfl,rfl,g,hv,t,hsz,h⟩;rw[E8,C3,S5]at g hv t h;have lt:I+ls.length+2 < s.heap.objs.size:=D5 q;have hsz:h2.objs.size=s.heap.objs.size:=hsz.trans d.1;refine A1 (vM ?_ (by rw[H9];exact A8 (g▸R) `d));refine A6 ⟨_,rfl,?_⟩;have B:∀(c:Nat) o,I+ls.length<=c\/c < I->h₁.get? c=_s o->(h2.push {cls:=.type "tuple", data:=.seq vs.toList.toArray}).get? c=_s o:=λc o L e=>A5 _ (t c o `o e);show Q (.ref h2.objs.size) _;rw[hsz];exact X _ vs g hv ⟨B _ _ `o p,B _ _ `o (d.extBut _ _ (HG `o) u),⟨M,S,B _ _ `o (d.extBut _ _ (HG `o) D)⟩,λk l e=>(h k l (Bv e) e).at λo=>A5 _⟩ (hsz▸C9 _ rfl) λc o U e=>B c o `o (d.extBut _ _ (HG `o) e)
theorem Ky{I:Nat}{ls:List Sq}{i:Nat}{Y:Nat->Array _v}{f0:_v}{f:Bool}{Q:Option _v->A7->Prop}(u:A.handled=_n)(r:ls.length<=3)(t:0 < ls.length)(hz:Zs2 s.heap I ls i f0 f)(n:mU s.heap I ls.length f0 f)(hl:∀k l,ls[k]?=_s l->l.1 < I/\Py s.heap l.1 (Y k) l.2)
    (v:∀h' vs y g,vs.size=ls.length->(∀k,k < ls.length->vs[k]?=(Y k)[i]?)->Zs2 h' I ls (i+1) y g->mU h' I ls.length y g->FQ h' s.heap.objs.size vs->(∀(c:Nat) o,(c < I\/I+ls.length+3<=c)->s.heap.get? c=_s o->h'.get? c=_s o)->Q (_s (.ref s.heap.objs.size)) {s with heap:=h' })
    (x:∀h',(∃k,k < ls.length/\(Y k)[i]?=_n)->(∀(c:Nat) o,(c < I\/I+ls.length+3<=c)->s.heap.get? c=_s o->h'.get? c=_s o)->Q _n {s with heap:=h' }) :
    C8 (D9 prog w) A (wQ (.ref (I+ls.length+2))) Q E s:=by
  have lt:I+ls.length+2 < s.heap.objs.size:=D5 hz.z;rcases n with⟨rfl,rfl⟩|⟨a,B,rfl,ha,d⟩
  exact GL u r t ⟨hz.z,hz.ti,hz.to,hz.s⟩ hl (λh' vs q p h m j=>v h' vs _ _f q p ⟨h.z,h.ti,h.to,h.s⟩ (.inr ⟨_,_,rfl,m,.inr `o⟩) m j) x;have hT:s.TypeIs (.ref (I+ls.length+2)) "zip" := ⟨_,hz.z,rfl⟩;unfold wQ;refine A1 (wpAny_attempt (N7 (name:=Z1 "__next__") hT F.slot_zip_next
    (L8 F.slot_zip_next hT F.entry_zip_next (Tw u r t hz ha d hl (λh' vs q p h m j=>A6 (v h' vs _ _t q p h (.inr ⟨a,B,rfl,j _ _ d ha,d⟩) m j)) λh' e C D he=>?_) (F.args_zip_next_1 _))))
  obtain⟨o,n,G⟩:=he;exact A1 (X0 (T := "StopIteration") (b:=_t) ⟨o,n,G⟩ isSubtype_stop (A6 (x _ C D)))
end
section
variable{X:Cx}{pins:List (B8×Obj)}{σ:St}{H:Hp}{s:A7}{a b:B8}{v:V}{r:_v}{kvs:List (NK AO×V)}{k:NK AO}{A:J3}{E:_v->A7->Prop}
theorem Ud{Q:Unit->A7->Prop}(i:A.units+1 < K0)(I:Inv X pins σ H s)(e:H a=_s (.dN kvs))(eb:JC H k b)(l:kvs.length < sizeLine)(rv:RelV v r)
    (h:∀s',N9 a s.heap s'.heap->(∃o,s'.heap.get? a=_s o)->Inv X pins σ (upd H a (.dN (BN kvs k v))) s'->Q () s'):C8 (D9 X.prog X.w) A (dictSet a (.ref b) r) Q E s:=by
  obtain⟨z,hd,xs,d,m⟩:=Gy I.hok e;have hz:xs.length<=sizeLine:=by rw[<- Paired.length d];exact z
  have hl:(BN kvs k v).length<=sizeLine:=by have:=BV kvs k v;omega
  refine wpAny_dictSet_heap (knd:=BU (AJ X.prog X.w) (BJ X.prog X.w)) (hsz:=hz) (show A.units+1 < K0 from i) (DX I.hok eb) m λh' g hs=>?_;obtain⟨q,es,j,f,h2,h3,h4,_,h5⟩:=g;refine h _ hs ⟨q,f⟩ (CL I (by rw[e];exact True.intro) hs ⟨q,f⟩ ⟨hl,hd,_,(d.put k eb rv).keeps λc ys ec=>?_,q,es,j,f,h2,h3,h4,h5⟩);rw[AD (Sj ec e (λz=>nomatch z))];exact ec
end
theorem IH.upd{K:W.Frag}{H:Hp}{d:B8}{xs:List V}{b:Bool}{o:HO}(h:IH K H a xs b)(hd:H d=_n)(c:a≠d):IH K (upd H d o) a xs b:=by
 cases b with
 |false=>rcases h with(h|⟨n,h⟩)|h<;>first|exact .inl (.inl (by rw[AD c];exact h))|exact .inl (.inr ⟨n,by rw[AD c];exact h⟩)|exact .inr h
 |true=>rcases h with(h|⟨n,h⟩)|h<;>first|exact .inl (.inl (by rw[AD c];exact h))|exact .inl (.inr ⟨n,by rw[AD c];exact h⟩)|exact .inr h
structure ZPs (K:W.Frag) (H:Hp) (l1 l2:Sq) (ps:List (NK AO×V)) (xs ys:List V):Prop where
 h1:IH K H l1.1 xs l1.2
 h2:IH K H l2.1 ys l2.2
 n:ps.length=min xs.length ys.length
 p:∀(i:Nat) q,ps[i]?=_s q->∃b,xs[i]?=_s (.ref b)/\JC H q.1 b/\ys[i]?=_s q.2
section
variable{X:Cx}{pins:List (B8×Obj)}{σ:St}{d I0:Nat}{l1 l2:Sq}{xs ys:List V}{ps:List (NK AO×V)}{H0:Hp}{R:zy->A7->Prop}
theorem YZ{I n b:Nat}(h:b∉fz I n):b < I\/I+n+3<=b:=by have:=mt FF.mpr h;omega
theorem iE{c:Type}{l:List c}{a b:c}(n:l.length=2)(f:l[0]?=_s a)(e:l[1]?=_s b):l.toArray=#[a,b]:=by
 rcases l with _|⟨x,_|⟨y,_|⟨z,l⟩⟩⟩
 cases f;cases e;cases f;cases e;rfl;exact absurd n `s
theorem OS{A:J3}(hsz:ps.length<=sizeLine)(hh:A.handled=_n)(hu:A.units+4 < K0)(aR:H0 d=_n)(m:l1.1 < I0/\l1.1≠d)(h:l2.1 < I0/\l2.1≠d)(hdz:d < I0\/I0+5<=d)(r:ZPs X.K H0 l1 l2 ps xs ys) :
    ∀(n i:Nat)(j:Int)(kvs:List (NK AO×V))(s:A7)(f0:_v)(f:Bool),ps.length-i=n->i<=ps.length->kvs.length<=i->Inv X pins σ (upd H0 d (.dN kvs)) s->Zs2 s.heap I0 [l1,l2] i f0 f->mU s.heap I0 2 f0 f->(∀b∈fz I0 2,zAS X pins (upd H0 d (.dN kvs)) b) ->
    (∀s',Inv X pins σ (upd H0 d (.dN (Ji kvs (ps.drop i)))) s'->R (.ok (.ret .none)) s') ->
    p9 (D9 X.prog X.w) A (.builtin "dict.update.loop" ⟨[.ref d,.ref (I0+4),i7 j,.none],[]⟩) R s:=by
  intro n;induction n with
  |zero=>intro i j kvs s f0 f hn hi hk I st J hf S;obtain⟨B,Y,hb⟩:=I.sqs (ls:=[l1,l2]) (BL ⟨xs,r.h1.upd aR m.2⟩ (BL ⟨ys,r.h2.upd aR h.2⟩ FN));have F:=hb 0 l1 rfl;have E:=hb 1 l2 rfl;refine o5 DZ ?_;rw[xP BP _];show C8 _ A.in1 (wQ (.ref (I0+2+2)) >>= _) _ _ s;refine A1 (Ky (ls:=[l1,l2]) (Y:=λk=>(Y k).toArray) (show A.in1.handled=_n from hh) (show 2<=3 by decide) (show 0 < 2 by decide) st J (λk l e=>⟨?_,(hb k l e).2.2.1⟩) (λh' vs g0 g L v=>?_) λh' _ k=>?_);exact BL (P:=λk (l:Sq)=>l.1 < I0) m.1 (BL h.1 FN) k l e;exfalso;have z:=v 0 (show 0 < 2 by decide);have y:=v 1 (show 1 < 2 by decide);have q0:xs=B 0:=F.1 xs (r.h1.upd aR m.2);have q1:ys=B 1:=E.1 ys (r.h2.upd aR h.2);have z0:=F.2.1.length;have z1:=E.2.1.length;rw[X4 (by rw[L];show _ < 2;decide),M0]at z y;have y0:=(A4.mp z.symm).1;have y1:=(A4.mp y.symm).1;have:=r.n;rw[q0,q1,z0,z1]at this;omega;have W:Inv X pins σ (upd H0 d (.dN kvs)) {s with heap:=h' }:=Inv.zAv (t':=s.toks) I (λb o x e=>k b o (YZ x) e) hf;refine A1 (A6 ?_);refine A6 (S _ ?_);rw[List.drop_eq_nil_of_le `o];exact W
  |succ n ih=>
    intro i j kvs s f0 f hn hi hk I st J hf S;obtain⟨B,Y,hb⟩:=I.sqs (ls:=[l1,l2]) (BL ⟨xs,r.h1.upd aR m.2⟩ (BL ⟨ys,r.h2.upd aR h.2⟩ FN));have F:=hb 0 l1 rfl;have E:=hb 1 l2 rfl;have u:i < ps.length:=by omega
    obtain⟨b,ex,N,ey⟩:=r.p i ps[i] (A2 u);rw[F.1 xs (r.h1.upd aR m.2)]at ex;rw[E.1 ys (r.h2.upd aR h.2)]at ey;obtain⟨u0,w0,r0⟩:=F.2.1.get ex;obtain⟨u1,Z,r1⟩:=E.2.1.get ey;cases r0;refine o5 DZ ?_;rw[xP BP _];show C8 _ A.in1 (wQ (.ref (I0+2+2)) >>= _) _ _ s;refine A1 (Ky (ls:=[l1,l2]) (Y:=λk=>(Y k).toArray) (show A.in1.handled=_n from hh) (show 2<=3 by decide) (show 0 < 2 by decide) st J (λk l e=>⟨?_,(hb k l e).2.2.1⟩) (λh' vs g0 g L v H t tt k=>?_) λh' ⟨k,Q,e⟩ _=>?_);exact BL (P:=λk (l:Sq)=>l.1 < I0) m.1 (BL h.1 FN) k l e;have W:Inv X pins σ (upd H0 d (.dN kvs)) {s with heap:=h' }:=Inv.zAv (t':=s.toks) I (λb o x e=>k b o (YZ x) e) hf;have U:vs=#[.ref b,u1]:=by have z:=v 0 (show 0 < 2 by decide);have y:=v 1 (show 1 < 2 by decide);rw[M0]at z y;obtain⟨l⟩:=vs;rw[M0]at z y;exact iE L (z.trans w0) (y.trans Z)
    subst U;refine A1 (J0 (A1 (wpAny_tryCatch ?_)));unfold z9;refine A1 (U7 (T := "tuple") ⟨_,tt,rfl⟩ ?_);rw[if_pos `d];refine A1 (S1 tt rfl ?_);refine A6 ?_;have O:kvs.length < sizeLine:=by omega
    have G:JC (upd H0 d (.dN kvs)) (ps[i]).1 b:=N.keeps λc zs ec=>by rw[AD (Be ec aR)];exact ec
    refine J0 (Ud (show A.units+1+1 < K0 by omega) W AE G O r1 λs2 sb ⟨od,M⟩ I2=>?_);rw[SB]at I2;have up:∀(c:Nat) o,c≠d->h'.get? c=_s o->s2.heap.get? c=_s o:=λc o C e=>sb.extBut c o C e;refine A6 ⟨plainId_quiet BP _,ih (i+1) (j+1) (BN kvs (ps[i]).1 (ps[i]).2) s2 g0 g `o u (by have:=BV kvs (ps[i]).1 (ps[i]).2;omega) I2 (H.at λc o c1 c2=>up c o (by simp only[D4,O4]at c2;omega)) ?_ (λc C=>⟨?_,(hf c C).2⟩) λs' I'=>S s' ?_⟩;rcases t with t|⟨a,oa,e,ha,hI⟩
    exact .inl t;by_cases D:a=d;exact .inr ⟨a,od,e,by rw[D];exact M,hI⟩;exact .inr ⟨a,oa,e,up a oa D ha,hI⟩;have hc':=FF.mp C;have q:=(hf c C).1;rw[AD (HG `o)]at q ⊢;exact q;rw[S7 u];exact I';exfalso
    match k,Q,e with
    |0,_,e=>simp only[M0]at e;rw[w0]at e;cases e
    |1,_,e=>simp only[M0]at e;rw[Z]at e;cases e
end
def sW(K:W.Frag):List V->Hp->VK->Prop:=λvs H Q=>∃(l1 l2:Sq)(xs ys:List V)(ps:List (NK AO×V)),vs=[.ref l1.1,.ref l2.1]/\ZPs K H l1 l2 ps xs ys/\ps.length<=sizeLine/\∀d,H d=_n->Q (.ref d) (upd H d (.dN (Ji [] ps)))
section
variable{X:Cx}{p1 p2 zBw zAU:Pos}{e1 e2:Expr}{ta:TA}
theorem Qk{j:Nat}(hr:zAV j X.A)(hc:X.calm=_t)(R:Gl X "dict")(N:X.mg "dict" = _n)(P:Gl X "zip")(M:X.mg "zip" = _n)(ha:PA X [e1,e2] ta)
    (t:E3 [.Call (.Name "zip" p2) [e1,e2] [] zAU] X.env=(_f,N2 (.Call (.Name "zip" p2) [e1,e2] [] zAU) X.env)::E3 [] X.env)
    (x:(P9 zBw (E3 [] X.env)).any (·.1)=_f)
    (L:E3 [e1,e2] X.env=(_f,N2 e1 X.env)::E3 [e2] X.env) (y:(P9 zAU (E3 [e2] X.env)).any (·.1)=_f) :
    PE X (.Call (.Name "dict" p1) [.Call (.Name "zip" p2) [e1,e2] [] zAU] [] zBw) (λσ H Q=>ta σ H λvs n=>sW X.K vs n Q):=by
  intro pins s σ H Q I h;have hun:=hr.un;refine K9 (DQ I R N PyProof.Rows.Boot.«dict» ?_ `d `d);refine G5 ?_ t x;rw[t];show C8 _ _ (zw ((_f,N2 (.Call (.Name "zip" p2) [e1,e2] [] zAU) X.env)::P9 zBw (E3 [] X.env))) _ _ s;refine vC ?_;refine K9 (DQ I P M PyProof.Rows.Boot.«zip» ?_ `d `d);refine G5 (BM (ha zAU pins s σ H _ I h) λus s1 ⟨vs,n,p,r1,l1,l2,xs,ys,ps,e0,v,hsz,q⟩=>?_) L y;subst e0;have V:X.A.handled=none:=p.ok.hd hc;have O:∀(k:Nat)(l:Sq),[l1,l2][k]?=_s l->∃xs,IH X.K n l.1 xs l.2:=BL ⟨xs,v.h1⟩ (BL ⟨ys,v.h2⟩ FN);obtain⟨c1,c2,c3⟩:=fB [l1,l2] rfl;obtain⟨B,Y,hb⟩:=p.sqs O;rw[show us=[E9 l1.1,E9 l2.1]from MV (ls:=[l1,l2]) r1];refine PV (ls:=[l1,l2]) (show 2<=3 by decide) (λk l e=>⟨_,(hb k l e).2.2.1⟩) c1 c2 c3 λh' st hk=>?_;refine Y9 ?_;have U:Inv X pins σ n {s1 with heap:=h' }:=p.kept (t':=s1.toks) hk;have G:l1.1 < s1.heap.objs.size:=(hb 0 l1 rfl).2.2.2;have E:l2.1 < s1.heap.objs.size:=(hb 1 l2 rfl).2.2.2;have hzl:s1.heap.objs.size+4 < h'.objs.size:=D5 st.z;refine callType_codes (Q₁:=λobj C=>obj=.ref h'.objs.size/\C={s1 with heap:=h'.push {cls:=.type "dict", data:=.dict #[]} }) PySem.F.kt_called_dict (PySem.F.kt_typeCall_dict_1 _) PySem.F.entry_dict_init (kt_code_dict_new _ ⟨rfl,rfl⟩) ?_;rintro obj Z ⟨rfl,rfl⟩;have I0:Inv X pins σ (upd n h'.objs.size (.dK [])) {s1 with heap:=h'.push {cls:=.type "dict", data:=.dict #[]} }:=
    U.laid (a:=h'.objs.size) (o:=.dK []) (t':=s1.toks) (λ_ _ q=>A5 _ q) (B3 _) (PL h' U.big)
  have u:n h'.objs.size=none:=U.hok.fresh (B3 _);have hT:Shared.TypeIs {s1 with heap:=h'.push {cls:=.type "dict", data:=.dict #[]} } (.ref h'.objs.size) "dict" := ⟨_,C9 _ rfl,rfl⟩;have D:Zst (h'.push {cls:=.type "dict", data:=.dict #[]}) s1.heap.objs.size [l1,l2] 0 .none:=st.at λc o _ _ e=>A5 _ e;have S:∀b∈fz s1.heap.objs.size 2,zAS X pins (upd n h'.objs.size (.dK [])) b:=λb g=>by have i:=FF.mp g;refine p.zAR i.1 ?_;rw[AD (HG `o)];exact p.hok.fresh i.1
  generalize w:({s1 with heap:=h'.push {cls:=.type "dict", data:=.dict #[]} }:A7)=s2 at I0 hT;have m:Zst s2.heap s1.heap.objs.size [l1,l2] 0 .none:=by rw[<- w];exact D
  generalize hd:h'.objs.size=d at *;refine⟨hT,PySem.F.args_dict_init_2 _ _,?_⟩;unfold U2.«dict.__init__»;refine A1 ?_;unfold zt;refine A1 (w9 hT ?_);show C8 _ _ (pure (d,[E9 (s1.heap.objs.size+2+2)])) _ _ _;refine A6 ?_;show C8 _ _ (wK "dict.__init__" d (.ref (s1.heap.objs.size+2+2)) [] .none) _ _ _;unfold wK;refine A1 (U7 (T := "zip") ⟨_,m.z,rfl⟩ ?_);rw[if_pos `d];refine A1 ?_;refine Xi m.z (show X.A.in1.in1.handled=_n from V) λh3 r J=>?_;have I3:Inv X pins σ (upd n d (.dK [])) {s2 with heap:=h3,toks:=r}:=I0.kept J;rw[if_pos `d];refine A1 (W6 ?_);refine A1 (wI (s:={s2 with heap:=h3,toks:=r}) (J _ _ m.z) ?_);have W:=I3.reN AE;rw[SB]at W;have f:Zst h3 s1.heap.objs.size [l1,l2] 0 .none:=m.at λc o _ _ e=>J c o e;refine A6 ⟨plainId_quiet BP _,OS (X:=X) (A:=X.A.in1) (H0:=n) (I0:=s1.heap.objs.size) (d:=d) hsz (show X.A.in1.handled=_n from V) (show X.A.units+1+4 < K0 by omega) u
    ⟨G,HG `o⟩ ⟨E,HG `o⟩ (.inr `o) v ps.length 0 0 [] _ .none _f `o (H8 _) (B3 _) W ⟨f.z,f.ti,f.to,f.s⟩ (.inl ⟨rfl,rfl⟩) (λb g=>⟨?_,(S b g).2⟩) λs' I'=>⟨rfl,.ref d,_,I',rfl,q _ u⟩⟩
  have i:=FF.mp g;rw[AD (HG `o)];exact p.hok.fresh i.1
end
end L2
namespace R
open PySem L2
def mi{a:Type} [DecidableEq a] (mk:List a->List Dv->Dv) (k:a) (d:Dv) (ks:List a) (vs:List Dv):Option (Dv×Dv):=if ks.length<=1000000 then _s (match AX k ks vs with|some v=>(v,mk ks vs)|none=>(d,mk (Ie k ks) (Ic k d ks vs)))else _n
def GB(x:Dv)(ds:List Dv):Option (Dv×Dv):=match ds with
 |[k,d]=>(match x with
  |.dct ks vs=>((Av k).bind λk=>mi .dct k d ks vs).or (if ks.isEmpty=_t then(Gq k).bind λk=>_s (d,.dnt [k] [d])else _n)
  |.dnt ks vs=>(Gq k).bind λk=>mi .dnt k d ks vs
  |_=>_n)
 |_=>_n
variable{P:Fp}{Q:VK}
section
variable{K:W.Frag}{g:G}{H:Hp}
theorem Wj{h:Type} [DecidableEq h] {mk:List h->List Dv->Dv} {i:List (h×V)->HO} {k:h} {d r y:Dv} {ks:List h} {vs:List Dv} {a:B8} {us:List V} {w:V} {Q:VK} (e:mi mk k d ks vs=_s (r,y)) (m:Rep K g H 1 (mk ks vs) (.ref a) P) (hl:ks.length=vs.length) (l:AA K g H 0 vs us nop) (n:Rep K g H 0 d w nop)
    (go:∀c f b,c.length=f.length->AA K g H 0 f b nop->Step g P H g P (upd H a (i (c.zip b)))/\Rep K g (upd H a (i (c.zip b))) 1 (mk c f) (.ref a) P) (q:∀w H' P',Step g P H g P' H'->Rep K g H' 1 y (.ref a) P'->Rep K g H' 0 r w nop->Q w H'):tR i H a (ks.zip us) k w Q:=by
  unfold mi at e;split at e;rename_i B;have hs:=Cs (k:=k) hl l.len;cases e1:AX k ks vs with
  |some v=>rw[e1]at e;cases e;obtain⟨u,o,t⟩:=FK l e1;exact wL (λp ev=>by rw[o]at ev;cases ev;exact q u H P Step.refl m t) λev=>by rw[o]at ev;cases ev
  |none=>
    rw[e1]at e hs;cases e;obtain⟨b,p1,A,x⟩:=HA (k:=k) hl l n;obtain⟨s,j⟩:=go _ _ b x A;refine wL (λp ev=>by rw[ev]at hs;cases hs) λ_=>wL ?_ ?_;have:(ks.zip us).length<=ks.length:=by rw[V4];omega
    have z:(1000000:Nat) < sizeLine:=by decide
    omega;rw[p1];exact q w _ P s j (n.held s m.zAR λ_ z=>z.elim)
  cases e
theorem cX:Pz K GB SX:=λg H x v P ds us r y Q zd i f e q=>by
 unfold GB at e;split at e;rename_i k d;obtain⟨w,p,rfl,j,l⟩:=Ab f;clear f;obtain⟨n,o,rfl,f,t⟩:=Ab l;cases Ai t;split at e;rename_i ks vs;have c:=i;rcases W3.mp e with e|⟨_,e⟩
 refine zAQ e λk ek e=>?_;obtain⟨a,us,rfl,ha,h,m,go⟩:=Sh i;exact⟨a,_,_,rfl,rfl,.inl ⟨_,k,ha,CJ j ek,Wj (mk:=.dct) e c h m f go q⟩⟩;split at e;rename_i u;refine zAQ e λk ek e=>?_;cases e;obtain rfl:ks=[]:=by cases ks with|nil=>rfl|cons _ _=>cases u
 obtain⟨a,rfl,ha,go⟩:=LU i;obtain⟨b,rfl,hb⟩:=Bq j ek;obtain⟨s,mk⟩:=go [k] [r] [n] rfl ((AA.cons (P1:=nop) (P2:=nop) f AA.nil λ_ z=>z.elim).iff λa=>⟨λz=>z.elim,λz=>z.elim id id⟩);exact⟨a,_,_,rfl,rfl,.inr (.inr ⟨k,b,rfl,hb,ha,q n _ P s mk (f.held s c.zAR λ_ z=>z.elim)⟩)⟩;cases e;rename_i ks vs;have c:=i;refine zAQ e λk ek e=>?_;obtain⟨a,us,rfl,ha,h,m,go⟩:=Sg i;obtain⟨b,rfl,hb⟩:=Bq j ek;exact⟨a,_,_,rfl,rfl,.inr (.inl ⟨_,k,b,rfl,hb,ha,Wj (mk:=.dnt) e c h m f go q⟩)⟩;cases e;cases e
def MK(K:W.Frag)(p:Pr)(o:Nat)(R:QG):Prop:=∀g H ds vs d Q,Zd g H->AA K g H 0 ds vs nop->p ds=_s d->(∀v H',Ad K g H o d v H'->Q v H')->R vs H Q
def FP(ds:List Dv):Option Dv:=match ds with
 |[x,k,d]=>(match x with
  |.dct ks vs=>(Av k).bind λk=>_s ((AX k ks vs).getD d)
  |.dcl ks vs=>(Av k).bind λk=>_s ((AX k ks vs).getD d)
  |.dnt ks vs=>(Gq k).bind λk=>_s ((AX k ks vs).getD d)
  |_=>_n)
 |_=>_n
theorem RN{a:Type} [DecidableEq a] {k:a} {ks:List a} {vs:List Dv} {us:List V} {d:Dv} {w:V} (hl:ks.length=vs.length) (b:AA K g H 0 vs us nop) (e:Rep K g H 0 d w nop):Rep K g H 0 ((AX k ks vs).getD d) ((Ae (ks.zip us) k).getD w) nop:=by
 have hs:=Cs (k:=k) hl b.len;cases e1:AX k ks vs with
 |some v=>obtain⟨u,f,c⟩:=FK b e1;rw[f];exact c
 |none=>
  rw[e1]at hs;cases e2:Ae (ks.zip us) k with|some _=>rw[e2]at hs;cases hs|none=>exact e
theorem lO{o:Nat}{ks:List AO}{ds:List Dv}{v:V}(h:Rep K g H o (.dcl ks ds) v P):∃a us P',v=.ref a/\H a=_s (.dK (ks.zip us))/\ks.length=ds.length/\AA K g H o ds us P'/\¬P' a/\(o≠0->¬g.Z a)/\∀b,P b↔(o≠0/\b=a)\/P' b:=by unfold Rep at h;obtain⟨a,us,P',e,h1,_,hz,h5,h6,h7,h8⟩:=h;exact⟨a,us,P',e,h1,h5,h6,h7,hz,h8⟩
theorem kK{d:Dv}{v:V}(h:Rep K g H 0 d v nop):Ad K g H 0 d v H:=⟨λ_ _ h=>h,nop,h,λ_ z=>z.elim⟩
theorem br:MK K FP 0 (mW Wt):=λg H ds vs d Q zd rs e q=>by unfold FP at e;split at e;rename_i x k d;obtain⟨o,m,rfl,f,rs⟩:=Ab rs;obtain⟨p,l,rfl,h,rs⟩:=Ab rs;obtain⟨r,j,rfl,i,n⟩:=Ab rs;cases Ai n;split at e;refine zAQ e λk ek e=>?_;cases e;obtain⟨a,us,rfl,ha,hl,c⟩:=VO f;exact⟨a,_,_,rfl,rfl,.inl ⟨_,.inl ⟨_,k,.inl ha,CJ h ek,rfl⟩,q _ _ (kK (RN hl c i))⟩⟩;refine zAQ e λk ek e=>?_;cases e;obtain⟨a,us,P',rfl,ha,hl,c,_⟩:=lO f;exact⟨a,_,_,rfl,rfl,.inl ⟨_,.inl ⟨_,k,.inl ha,CJ h ek,rfl⟩,q _ _ (kK (RN hl c.z i))⟩⟩;refine zAQ e λk ek e=>?_;cases e;obtain⟨a,us,rfl,ha,hl,c⟩:=lM f;obtain⟨b,rfl,hb⟩:=Bq h ek;exact⟨a,_,_,rfl,rfl,.inr ⟨_,k,b,rfl,hb,ha,q _ _ (kK (RN hl c i))⟩⟩;cases e;cases e
theorem UP{Γ Γ':Gm}{σ:St}{p:Pr}{o:Nat}{as:List Ar}{js:List Nat}{R:QG}(j:MK K p o R)(c:AF Γ as Γ' js)(he:Nb as=_t)(h:tE K Γ o Γ' js (Ed p (AQ as)) σ H Q):Bd K as σ H λvs a=>R vs a Q:=by obtain⟨g,m,P,r,x,k,res,e,q⟩:=h;refine AM as r c e λds m' g' P' vs a l u s ar b=>?_;refine zAQ l λd t n=>?_;refine j g' a ds vs d Q b.zd (ar.zBi he) t λv w nw=>?_;obtain⟨Pv,s2,h1,f,i⟩:=Ad.go s b nw;exact q d m' g' P' Pv v w n u s2 h1 f i
theorem dE{σ:St}{Γ Γ':Gm}{js:List Nat}{a:Ar}{as:List Ar}{p:Pr}{o:Nat}{r:V->List V->Hp->VK->Prop}(J:MK K p o (mW r))(ha:Nb [a]=_t)(c:AF Γ (a::as) Γ' js)(he:Nb as=_t){Q:VK}
    (h:tE K Γ o Γ' js (Yn "dict" a as p) σ H Q):aO K "dict" r (QT K a) (Bd K as) σ H Q:=by
  cases a with|ev A y I f=>obtain⟨g,m,P,rl,S,k,res,e,q⟩:=h;unfold AF at c;obtain⟨rfl,js2,rfl,c⟩:=c;refine⟨g,m,P,rl,S,_,res,e,λx Z L P1 Pv B Y i R s rv u n=>?_⟩;obtain⟨O,i⟩:=Dx i;have l:=rv.z;have s':Step g P H L P1 Y:=s.less λ_ z=>.inl z;refine⟨HQ l O (.inr (.inr (.inr rfl))),AM as u c i λds F w P2 vs X b j s2 ar t=>?_⟩;refine zAQ b λd N M=>?_;refine J w X (x::ds) (B::vs) d Q t.zd ((AA.cons (l.held s2 u.zAR λ_ z=>z.elim) (ar.zBi he) λ_ z=>z.elim).iff λa=>⟨λz=>z.elim,λz=>z.elim id id⟩) N λv U nw=>?_;obtain⟨T,C,h1,D,E⟩:=Ad.go (s'.trans s2) t nw;exact q d F w P2 T v U M (R.trans j) C h1 D E|_=>cases ha
end
def CY(k:AO)(x:Dv):List AO->List Dv->List Dv
 |j::ks,d::ds=>if j=k then x::ds else d::CY k x ks ds
 |_,ds=>ds
noncomputable def isL:Dv->Bool
 |.lst _=>_t
 |_=>_f
def Rq(x k:Dv):Option Dv:=match x with
 |.dcl ks ds=>(Av k).bind λk=>if ks.length<=1000000 then(match AX k ks ds with|some d=>if isL d=_t then _s (.dcl ks ds)else _n|none=>_s (.dcl (ks++[k]) (ds++[.lst []])))else _n
 |.dct ks _=>(Av k).bind λk=>if ks.isEmpty=_t then _s (.dcl [k] [.lst []])else _n
 |_=>_n
def Vm(x k d:Dv):Option Dv:=match x with
 |.dcl ks ds=>(Av k).bind λk=>(AX k ks ds).bind λl=>match l with|.lst xs=>if xs.length<=1000000 then _s (.dcl ks (CY k (.lst (xs++[d])) ks ds))else _n|_=>_n
 |_=>_n
section
variable{K:W.Frag}{g:G}{H:Hp}
theorem Hz{k:AO}{x:Dv}:∀{ks:List AO}{ds:List Dv},(CY k x ks ds).length=ds.length
 |[],_=>by unfold CY;rfl
 |_::_,[]=>by unfold CY;rfl
 |j::ks,d::ds=>by unfold CY;split;rfl;simp[Hz (ks:=ks)]
inductive zGW (K:W.Frag) (g:G) (H:Hp) (k:AO) (xs:List Dv) (ks:List AO) (ds:List Dv) (us:List V) (R:Fp):Prop
 | mk (b:B8) (ws:List V) (e:Ae (ks.zip us) k=_s (.ref b)) (rb:R b) (hb:H b=_s (.lst ws)) (hl:xs.length=ws.length)
  (go:∀u d,Rep K g H 0 d u nop->Step g R H g R (upd H b (.lst (ws++[u])))/\AA K g (upd H b (.lst (ws++[u]))) 1 (CY k (.lst (xs++[d])) ks ds) us R)
theorem NF{k:AO}{xs:List Dv}:∀{ks:List AO}{ds:List Dv}{us:List V}{R:Fp},AA K g H 1 ds us R->AX k ks ds=_s (.lst xs)->zGW K g H k xs ks ds us R
 |[],ds,us,R,h,e=>by cases ds<;>cases e
 |j::ks,[],us,R,h,e=>by cases e
 |j::ks,d::ds,us,R,h,e=>by unfold AA at h;obtain⟨v,r,P1,P2,rfl,h1,h2,h3,h4⟩:=h;unfold AX at e;split at e;rename_i c;cases e;obtain⟨b,ws,rfl,hb,hz,i,l,go⟩:=Ea h1;refine⟨b,ws,by rw[J6];exact Aj c,(h4 b).mpr (.inl ((l b).mpr rfl)),hb,i.len,λu d f=>?_⟩;obtain⟨s,hd,mk⟩:=go (ws++[u]);refine⟨s.frame.sub (λa z=>(h4 a).mpr z) λa z=>(h4 a).mp z,?_⟩;unfold CY;rw[if_pos c];exact(AA.cons (mk _ (Bi i (Ff f))) (h2.held s h1.zAR λa x z=>h3 a z x) h3).iff h4;rename_i c;obtain⟨b,ws,m,rb,hb,hl,go⟩:=NF h2 e;refine⟨b,ws,by rw[J6,Ak c];exact m,(h4 b).mpr (.inr rb),hb,hl,λu d f=>?_⟩;obtain⟨s,mk⟩:=go u d f;refine⟨(s.frame (R:=P1)).sub (λa z=>(h4 a).mpr z.symm) λa z=>((h4 a).mp z).symm,?_⟩;unfold CY;rw[if_neg c];exact(AA.cons (h1.held s h2.zAR h3) mk h3).iff h4
inductive SdR (K:W.Frag) (g:G) (k:Dv) (P:Fp) (H:Hp) (x:Dv) (v:V) (y:V) (H':Hp):Prop
 |mk (a b:B8) (kk:AO) (ks:List AO) (ds:List Dv) (us:List V) (P':Fp) (ek:Av k=_s kk) (ex:x=.dcl ks ds) (ev:v=.ref a) (ey:y=.ref b) (s:Step g P H g P' H') (r:Rep K g H' 1 x v P') (hl:ks.length=ds.length) (ha:H' a=_s (.dK (ks.zip us))) (pa:P' a) (hv:Ae (ks.zip us) kk=_s (.ref b)) (tb:∃ws,H' b=_s (.lst ws))
theorem SR{x t kd:Dv}{v:V}{l a:B8}{ks:List AO}{ds:List Dv}{us:List V}{P':Fp}{k:AO}{C:VK}(zd:Zd g H)(D:Rep K g H 1 x v P)(hl:H l=_n)(ek:Av kd=_s k)(ev:v=.ref a)(j:¬g.Z a)(ha:H a=_s (.dK (ks.zip us)))(c:ks.length=ds.length)(p:AA K g H 1 ds us P')(u:¬P' a)(s:∀b,P b↔b=a\/P' b)(ex:t=.dcl (ks++[k]) (ds++[.lst []]))(hv:Ae (ks.zip us) k=_n)(q:∀y H',SdR K g kd P H t v y H'->C y H'):C (.ref l) (upd (upd H l (.lst [])) a (.dK (BN (ks.zip us) k (.ref l)))):=by
 have f:a≠l:=λz=>by rw[z,hl]at ha;cases ha
 have r:ks.length=us.length:=c.trans p.len;have i:¬g.Z l:=λz=>zd l z hl;have A:BN (ks.zip us) k (.ref l)=(ks++[k]).zip (us++[.ref l]):=by rw[Wx _ hv,zC r];rfl
 have B:Ae ((ks++[k]).zip (us++[.ref l])) k=_s (.ref l):=by rw[<- A,Vy,if_pos rfl]
 rw[A];have d:P a:=(s a).mpr (.inl rfl);have s1:Step g P H g (λb=>P b\/b=l) (upd (upd H l (.lst [])) a (.dK ((ks++[k]).zip (us++[.ref l])))):=by
  refine⟨λb o hb n=>?_,λb hb=>?_,λ_ z=>z,λ_ z=>.inl z,⟨[],by simp⟩,λb z=>z.elim .inl λz=>.inr (z▸hl),λz b hb w=>?_,λb C dx fs hb=>⟨fs,?_,λ_ _ z=>z⟩⟩;have h1:b≠a:=λz=>n (z▸d);have h2:b≠l:=λz=>by rw[z,hl]at hb;cases hb
  rw[AD h1,AD h2];exact hb;by_cases h1:b=a;subst h1;rw[AE]at hb;cases hb;rw[AD h1]at hb;by_cases h2:b=l;subst h2;exact hl;rw[AD h2]at hb;exact hb;by_cases h1:b=a;subst h1;rw[AE]at w;cases w;rw[AD h1]at w;by_cases h2:b=l;subst h2;rw[AE]at w;cases w;rw[AD h2]at w;exact z b hb w;have h1:b≠a:=λz=>by rw[z,ha]at hb;cases hb
  have h2:b≠l:=λz=>by rw[z,hl]at hb;cases hb
  rw[AD h1,AD h2];exact hb
 have s2:Step g (λb=>b=a) H g (λb=>b=a\/b=l) (upd (upd H l (.lst [])) a (.dK ((ks++[k]).zip (us++[.ref l])))):=by
  refine⟨λb o hb n=>?_,s1.dom,λ_ z=>z,λ_ z=>.inl z,⟨[],by simp⟩,λb z=>z.elim .inl λz=>.inr (z▸hl),s1.zd,s1.ins⟩;have h2:b≠l:=λz=>by rw[z,hl]at hb;cases hb
  rw[AD n,AD h2];exact hb
 have h:zAS g H λb=>b=a:=λb z=>D.zAR b ((s b).mpr (.inl z));have m:=p.held s2 h λb z w=>u (w▸z);have e:upd (upd H l (.lst [])) a (.dK ((ks++[k]).zip (us++[.ref l]))) l=_s (.lst []):=by rw[AD f.symm,AE]
 have F:¬P' l:=λz=>by have:=(p.zAR l z).1;rw[hl]at this;exact this
 have rl:Rep K g (upd (upd H l (.lst [])) a (.dK ((ks++[k]).zip (us++[.ref l])))) 1 (.lst []) (.ref l) λb=>b=l:=by unfold Rep;exact⟨l,[],nop,rfl,⟨e,(λz=>by cases z),λ_=>i⟩,AA.nil,λz=>z,λb=>⟨λz=>.inl ⟨by decide,z⟩,λz=>z.elim (λz=>z.2) E7⟩⟩
 have E:=(AA.app m (AA.cons rl AA.nil λ_ _ z=>z) λb z w=>w.elim (λw=>F (w▸z)) id).iff (Q:=λb=>P' b\/b=l) λb=>⟨λz=>z.elim .inl λz=>.inr (.inl z),λz=>z.elim .inl λz=>z.elim .inr E7⟩;refine q _ _ ⟨a,l,k,_,_,_,λb=>P b\/b=l,ek,ex,ev,rfl,s1,?_,by simp[c],AE,.inl d,B,[],e⟩;subst ev ex;unfold Rep;exact⟨a,_,_,rfl,AE,(λz=>by cases z),(λ_=>j),by simp[c],E,λz=>z.elim u f,λb=>by show P b\/b=l↔_;rw[s b];exact⟨λz=>z.elim (λz=>z.elim (λz=>.inl ⟨by decide,z⟩) λz=>.inr (.inl z)) λz=>.inr (.inr z),λz=>z.elim (λz=>.inl (.inl z.2)) λz=>z.elim (λz=>.inl (.inr z)) .inr⟩⟩
theorem bK{x j kd:Dv}{v E:V}{l:B8}{C:VK}(zd:Zd g H)(f:Rep K g H 1 x v P)(hl:H l=_n)(D:Rep K g H 0 kd E nop)(e:Rq x kd=_s j)(q:∀y H',SdR K g kd P H j v y H'->C y H'):SX v [E,.ref l] (upd H l (.lst [])) C:=by
 have A:∀{n m:Nat},n<=m->m<=1000000->n < sizeLine:=λa b=>by
  have z:(1000000:Nat) < sizeLine:=by decide
  omega
 unfold Rq at e;split at e;rename_i ks ds;refine zAQ e λk ek e=>?_;split at e;rename_i h1;obtain⟨a,us,P',rfl,ha,c,s,I,hz,u⟩:=lO f;have hs:=Cs (k:=k) c s.len;have d:a≠l:=λz=>by rw[z,hl]at ha;cases ha
 have i:∀b,P b↔b=a\/P' b:=λb=>by rw[u b];exact⟨λz=>z.elim (λz=>.inl z.2) .inr,λz=>z.elim (λz=>.inl ⟨by decide,z⟩) .inr⟩
 have t:(ks.zip us).length<=ks.length:=by rw[V4];omega
 refine⟨a,_,_,rfl,rfl,.inl ⟨_,k,by rw[AD d];exact ha,CJ D ek,?_⟩⟩;cases ed:AX k ks ds with
 |some B=>
  rw[ed]at e hs;replace e:(if isL B=_t then _s (Dv.dcl ks ds)else _n)=_s j:=e;split at e;rename_i h2;cases e;have p:NY H (upd H l (.lst [])):=λb o hb=>by rw[AD λz=>by rw[z,hl]at hb;cases hb];exact hb
  refine wL (λw h=>?_) λev=>by rw[ev]at hs;cases hs
  obtain⟨xs,rfl⟩:∃xs,B=.lst xs:=by cases B with|lst xs=>exact⟨xs,rfl⟩|_=>cases h2
  obtain⟨b,ws,F,rb,hb,_⟩:=NF s ed;rw[h]at F;cases F;exact q _ _ ⟨a,b,k,ks,ds,us,P,ek,rfl,rfl,rfl,Step.same p,f.held (Step.same (P:=nop) p) zAS.nop λ_ _ z=>z,c,by rw[AD d];exact ha,(i a).mpr (.inl rfl),h,ws,p _ _ hb⟩;cases e
 |none=>rw[ed]at e hs;cases e;refine wL (λw h=>by rw[h]at hs;cases hs) λev=>⟨A t h1,SR zd f hl ek rfl (hz `d) ha c s I i rfl ev q⟩
 cases e;rename_i ks ds;refine zAQ e λk ek e=>?_;split at e;rename_i h1;cases e;obtain rfl:ks=[]:=by cases ks with|nil=>rfl|cons _ _=>cases h1
 have r:=f;unfold Rep at f;obtain⟨a,us,rfl,ha,_,hz,_,u⟩:=f;have d:a≠l:=λz=>by rw[z,hl]at ha;cases ha
 refine⟨a,_,_,rfl,rfl,.inl ⟨[],k,by rw[AD d];exact ha,CJ D ek,wL (λw h=>by cases h) λev=>⟨by decide,?_⟩⟩⟩;exact SR (ks:=[]) (ds:=[]) (us:=[]) (P':=nop) zd r hl ek rfl (hz `d) ha rfl AA.nil (λz=>z) (λb=>by rw[u b];exact⟨λz=>.inl z.2,λz=>z.elim (λz=>⟨by decide,z⟩) E7⟩) rfl rfl q;cases e;cases e
def gQ(i:Nat)(f h:Ev Dv):Ev Dv:=λR m k=>DR "dict" (m.at i) (f R m λkd b=>(Rq (b.at i) kd).bind λa=>h R (b.set i a) λd e=>(Vm a kd d).bind λc=>k .non (e.set i c))
theorem bJ{σ:St}{Γ p n:Gm}{J js2:List Nat}{i:Nat}{fk fe:Ev Dv}(h0:∃o,Γ[i]?=_s (_s o))(hi:p[i]?=_s (_s 1))(h2:n[i]?=_s _n)(h:tE K Γ 0 (n.set i (_s 1)) (J++(js2++[i])) (gQ i fk fe) σ H Q) :
    aO K "list" MX (aO K "dict" SX (EI i) (Np (tE K Γ 0 p J fk) (Np (nP MN) MN))) (Np (tE K (p.set i _n) 0 n js2 fe) MN) σ H Q:=by
  obtain⟨g,m,P,r,R',k,res,e,q⟩:=h;obtain⟨e0,e⟩:=Dx e;obtain⟨o0,h0⟩:=h0;obtain⟨v0,P0,u,rv0,_⟩:=r.see h0;refine⟨v0,u,HQ rv0 e0 (.inr (.inr (.inr rfl))),⟨g,m,P,r,R',_,res,e,λkd m1 g1 P1 Pk vk H1 hk ag1 s1 rk r1 n1=>?_⟩⟩;refine zAQ hk λx1 e1 hk=>?_;refine⟨H8 _,λl hl=>?_⟩;obtain⟨v,Pa,Pr,ev,em,rv,r2,n2,hP⟩:=r1.take hi;rw[u]at ev;cases ev;refine bK r1.zd rv hl rk.z e1 λy H2 sd=>?_;obtain⟨a,b,kk,ks,ds,us,P',ek,ex,rfl,rfl,s2,B,L,ha,pa,hv,ws,hb⟩:=sd;subst ex;refine⟨.inl ⟨rfl,ws,.inl (.inl hb)⟩,?_⟩;have I:Bg Pr Pa:=λa q z=>n2 a z q;have r3:=r2.held s2 rv.zAR I;have np:=s2.out r2.zAR I;have C:Rel K g1 H2 (p.set i _n) (m1.set i (.dcl ks ds)) σ Pr:=r3.agree (D8 ..) λj o N=>by
    have:i≠j:=λz=>by subst z;rw[F8 (A4.mp hi).1]at N;cases N
    unfold M.at;rw[D7,D7,E4 this]
  refine⟨g1,_,Pr,C,R',_,res,hk,λd m2 Z P2 Pd X H3 t ag2 Y rd r4 n4=>?_⟩;refine zAQ t λx2 f t=>?_;have E:Bg P' Pr:=λc z w=>np c w z;have A:=B.held Y C.zAR E;have nq:=Y.out B.zAR E;have O:=Y.keep a _ ha λz=>np a z pa;have f:((Av kd).bind λk=>(AX k ks ds).bind λl=>match l with|.lst xs=>if xs.length<=1000000 then _s (Dv.dcl ks (CY k (.lst (xs++[d])) ks ds))else _n|_=>_n)=_s x2:=f;rw[ek,A0]at f;replace f:=zAj f;obtain⟨l0,ed,f⟩:=f;split at f;rename_i xs;split at f;rename_i hxl;cases f;obtain⟨a',x,V,ea,S,zGb,hx',F,hz',T⟩:=lO A;cases ea;rw[O]at S;have ez:ks.zip us=ks.zip x:=by injection S with h;injection h
  obtain⟨b',s,U,rb,hb',hl',go⟩:=NF hx' ed;rw[<- ez,hv]at U;cases U;have z6:(1000000:Nat) < sizeLine:=by decide
  refine⟨b,s,X,rfl,rfl,hb',by omega,?_⟩;obtain⟨s5,mk⟩:=go X d rd.z;have pe:∀c,P' c↔c=a\/V c:=λc=>by rw[T c];exact⟨λz=>z.elim (λz=>.inl z.2) .inr,λz=>z.elim (λz=>.inl ⟨by decide,z⟩) .inr⟩
  have s6:Step Z P' H3 Z P' (upd H3 b (.lst (s++[X]))):=(s5.frame (R:=λc=>c=a)).sub (λc z=>(pe c).mpr z.symm) λc z=>((pe c).mp z).symm;have hab:a≠b:=λz=>F (z▸rb);have rx3:Rep K Z (upd H3 b (.lst (s++[X]))) 1 (.dcl ks (CY kk (.lst (xs++[d])) ks ds)) (.ref a) P':=by unfold Rep;exact⟨a,x,V,rfl,by rw[AD hab,<- ez];exact O,(λz=>by cases z),hz',by rw[Hz];exact L,mk,F,T⟩
  have D:Bg P2 P':=λc z w=>nq c w (.inl z);have r5:=r4.held s6 A.zAR D;have hil:i < n.length:=(A4.mp h2).1;rw[<- Cy h2]at r5;obtain⟨P5,r6,sp⟩:=r5.putIn hil u rx3 λc z w=>D c w z;refine q .non _ Z P5 nop .non _ t ?_ ?_ Dq r6 λ_ _ z=>z;exact(((ag1.trans Bm.set).trans ag2).trans Bm.set).mono λj N=>by
    simp only[C0,C4]at N ⊢;rcases N with((h|h)|h)|h
    exact .inl h;exact .inr (.inr h);exact .inr (.inl h);exact .inr (.inr h)
  refine(s1.less λ_ z=>.inl z).trans (((s2.frame (R:=Pr)).sub (λc z=>(hP c).mpr z) λc z=>z).trans (((Y.frame (R:=P')).sub (Q':=λc=>P2 c\/P' c) (λc z=>z.symm) λc z=>z.elim (λz=>.inl (.inl z)) .inr).trans ((s6.frame (R:=P2)).sub (λc z=>z.symm) λc z=>?_)));exact z.elim (λz=>sp c z) E7;cases f;cases f
end
end R
namespace L2
open PySem PySem.Spec PyProof.Rows
def ug(K:W.Frag):V->Hp->VK->Prop:=λv H Q=>∃(p:B8)(ns:List Int),v=.ref p/\(Dl K H p (ns.map V.int)\/Fo K H p (ns.map V.int))/\ns.length < 64/\∀(l:B8)(a:List Int),H l=_n->a.Perm (ns.foldl step_dedup [])->a.Pairwise (·<=·)->Q (.ref l) (upd H l (.lst (a.map V.int)))
def uz(H0 H:Hp)(S:B8)(xs:List V)(ps:List B8):Prop:=
 (∀c u,H0 c=_s u->H c=_s u)/\H S=_s (.lst (ps.map V.ref))/\∀(j:Nat) p,ps[j]?=_s p->p≠S/\∃y,xs[j]?=_s y/\H p=_s (.tup [.int j,y])
def um(K:W.Frag):V->Hp->VK->Prop:=λv H Q=>∃(a:B8)(xs:List V)(b:Bool),v=.ref a/\IH K H a xs b/\xs.length<=sizeLine/\∀(l:B8)(ps:List B8)(H':Hp),H l=_n->uz H H' l xs ps->ps.length=xs.length->Q (.ref l) H'
end L2
namespace R
open PySem L2
def Mw(T:String)(i:Nat)(f:Str)(p:Mu)(c:Ev (List Dv)):Ev Dv:=λR m k=>bif CB (m.at i) f then(GU (m.at i) f).bind λb=>DR T b (c R m λds a=>(GU (a.at i) f).bind λx=>(p x ds).bind λr=>k r.1 (a.set i (Bf (a.at i) f r.2)))else _n
section
variable{K:W.Frag}{g:G}{H:Hp}{σ:St}{Γ Γ':Gm}{js:List Nat}{as:List Ar}
theorem Lm{d:Dv}{f:Str}(h:CB d f=_t):∃x,GU d f=_s x/\cy x=true:=by
 unfold CB at h;cases e:GU d f with|none=>rw[e]at h;cases h|some x=>rw[e]at h;exact⟨x,rfl,h⟩
theorem Xm{T:String}{i:Nat}{f:Str}{p:Mu}{R:V->List V->Hp->VK->Prop}(hR:Pz K p R)(hT:T = "list" \/ T = "str" \/ T = "int" \/ T = "dict")(c:AF Γ as Γ' js)(he:Nb as=_t)(S:∃o,Γ[i]?=_s (_s o))(hi:Γ'[i]?=_s (_s 1)){Q:VK}
    (h:tE K Γ 0 Γ' (js++[i]) (Mw T i f p (AQ as)) σ H Q):aO K T R (QS K (EI i) f) (Bd K as) σ H Q:=by
  obtain⟨g,m,P,r,R',k,res,e,q⟩:=h;unfold Mw at e;cases hr:CB (m.at i) f with|false=>rw[hr]at e;cases e|true=>rw[hr]at e;obtain⟨x0,l,I⟩:=Lm hr;rw[l]at e;obtain⟨e0,e⟩:=Dx (show DR T x0 _=_s res from e);obtain⟨o0,S⟩:=S;obtain⟨v0,P0,d,E,_⟩:=r.see S;obtain⟨a,C,dx,fs,w,_,_,rfl,h1,hc,hn,hl,j,_⟩:=DW E l;obtain⟨U,rfl⟩:=Jw j I;refine⟨_,d,a,C,dx,fs,_,rfl,h1,hc,hn,hl,HQ j e0 hT,AM as r c e λds m1 A P1 vs H1 L ag s ar Z=>?_⟩;refine zAQ L λx ex L=>?_;refine zAQ L λxp e1 e2=>?_;obtain⟨rs,y⟩:=xp;obtain⟨v,Pa,Pr,ev,em,rv,Y,n,hP⟩:=Z.take hi;rw[d]at ev;cases ev;obtain⟨fs',O,J⟩:=s.ins a C dx fs h1;obtain⟨a2,C2,dx2,rT,w2,F1,F2,ea,u,_,_,t,D,dj,N,mk⟩:=DW rv ex;cases ea;rw[O]at u;cases u;rw[J f U hl]at t;cases t;refine hR A H1 _ (.ref U) F1 ds vs rs y Q Z.zd D (ar.zBi he) e1 λw H2 P' s2 ry F=>?_;have ro:=mk s2 ry;have B:Step A Pa H1 A (λb=>P' b\/F2 b) H2:=(s2.frame (R:=F2)).sub (λb z=>(N b).mpr z) λ_ z=>z;have r3:=Y.held B rv.zAR λa q z=>n a z q;have n3:=B.out Y.zAR λa q z=>n a z q;have M:i < Γ'.length:=(A4.mp hi).1;obtain⟨P4,X,sp⟩:=r3.putIn M d ro λa q z=>n3 a z q;rw[Cy hi]at X;refine q rs _ A P4 nop w H2 e2 (ag.trans Bm.set) (s.trans ((B.frame (R:=Pr)).sub (λa z=>(hP a).mpr z) λa z=>z.elim (λz=>sp a z) E7)) F X λ_ _ z=>z
end
def Yi(i:Nat)(f:Str)(p:Dv->Dv->Dv->Option Dv)(e:Ev Dv)(c:Ev (List Dv)):Es:=λR m k=>e R m λd b=>bif CB (b.at i) f then c R b λks a=>(match ks with|[j]=>(GU (a.at i) f).bind λx=>(p x j d).bind λy=>k.nx (a.set i (Bf (a.at i) f y))|_=>_n)else _n
section
variable{K:W.Frag}{F:Fr}{Γl:Option Gm}{Γ Γ1 Γ':Gm}{js js2:List Nat}{i:Nat}{f:Str}{fe:Ev Dv}{a:Ar}{p:Dv->Dv->Dv->Option Dv}{T:NW}
theorem eT{σ:St}{j:Hp}{h c:VK}(b:∀v H,h v H->c v H)(t:QT K a σ j h):QT K a σ j c:=by
 cases a with|ev n l o s=>obtain⟨g,m,P,r,R,k,res,e,q⟩:=t;exact⟨g,m,P,r,R,k,res,e,λd m' g' P' Pv v H' h1 h2 h3 h4 h5 h6=>b _ _ (q d m' g' P' Pv v H' h1 h2 h3 h4 h5 h6)⟩|rf i=>obtain⟨v,e,q⟩:=t;exact⟨v,e,b _ _ q⟩|fd i f=>obtain⟨v,e,a,C,dx,fs,w,h1,h2,h3,h4,h5,q⟩:=t;exact⟨v,e,a,C,dx,fs,w,h1,h2,h3,h4,h5,b _ _ q⟩
theorem Wi(hp:eV K p T)(c:AF Γ1 [a] Γ' js2)(h0:∃o,Γ1[i]?=_s (_s o))(hi:Γ'[i]?=_s (_s 1)){D:Ends}{σ:St}{H:Hp}(h:tS K F Γl Γ (_s Γ') (js++(js2++[i])) (Yi i f p fe (AQ [a])) D σ H):Kk (tE K Γ 0 Γ1 js fe) (lB (QS K (EI i) f) (QT K a) T) D σ H:=by
 obtain⟨g,m,P,r,R,k,res,e,q⟩:=h;refine⟨g,m,P,r,R,_,res,e,λd m1 g1 P1 Pv u H1 I ag s rv X n=>?_⟩;cases hr:CB (m1.at i) f with
 |false=>rw[hr]at I;cases I
 |true=>
  rw[hr]at I;obtain⟨x0,Z,hrf⟩:=Lm hr;obtain⟨o0,h0⟩:=h0;obtain⟨v0,P0,t,Q,_⟩:=X.see h0;obtain⟨ao,C,dx,fs,w,_,_,rfl,h1,hc,hn,hl,O,_⟩:=DW Q Z;obtain⟨S,rfl⟩:=Jw O hrf;refine⟨_,t,ao,C,dx,fs,_,rfl,h1,hc,hn,hl,?_⟩;have rz:=rv.z;have s':Step g P H g1 P1 H1:=s.less λ_ z=>.inl z;have Y:Bd K [a] σ H1 λvs G=>∃w,vs=[w]/\T (.ref S) w u G λL=>D.nx σ L:=by
   refine AM [a] X c I λds m2 J P2 vs G l ag2 s2 ar V=>?_;have al:=ar.len;have ra:=ar.ra V
   match ds,al.1,l,ra with
   |[j],_,l,ra=>have U:=ra;unfold RA at ra;obtain⟨w,wr,o,Po,rfl,_,h1w,B⟩:=ra;unfold RA at B;subst B;refine zAQ l λx ex l=>?_;refine zAQ l λy e1 e2=>?_;obtain⟨v,Pa,Pr,ev,em,rx,r3,n3,hP⟩:=V.take hi;rw[t]at ev;cases ev;obtain⟨fs',h1',hl'⟩:=s2.ins ao C dx fs h1;obtain⟨a2,C2,dx2,rT,w2,F1,F2,ea,E,_,_,A,N,dj,hPa,mk⟩:=DW rx ex;cases ea;rw[h1']at E;cases E;rw[hl' f S hl]at A;cases A;refine⟨w,rfl,hp J G _ (.ref S) F1 j w d u y _ V.zd N U (rz.held s2 X.zAR λ_ z=>z.elim) e1 λL P' s3 ry=>?_⟩;have ro:=mk s3 ry;have M:Step J Pa G J (λb=>P' b\/F2 b) L:=(s3.frame (R:=F2)).sub (λb z=>(hPa b).mpr z) λ_ z=>z;have r4:=r3.held M rx.zAR λa q z=>n3 a z q;have n4:=M.out r3.zAR λa q z=>n3 a z q;obtain⟨P5,r5,sp⟩:=r4.putIn (A4.mp hi).1 t ro λa q z=>n4 a z q;rw[Cy hi]at r5;exact q.nx Γ' _ J P5 σ L rfl e2 (ag.trans (ag2.trans Bm.set)) ((s'.trans s2).trans ((M.frame (R:=Pr)).sub (λa z=>(hP a).mpr z) λa z=>sp a z)) Io.refl r5
  refine eT (λv G z=>?_) Y;obtain⟨w,ew,z⟩:=z;cases ew;exact z
end
noncomputable def Ec(x:Dv)(f:Str)(d:Dv):Option Dv:=match x with
 |.obj c fl nm xs=>bif !nm.contains f&&fl.contains f&&decide (nm.length < 900)then _s (.obj c fl (nm++[f]) (xs++[d]))else _n
 |_=>_n
def Ys(i:Nat)(f:Str)(o:Nat)(b:Ev Dv):Es:=λR m k=>b R m λd a=>bif o==1||UZ d then(Ec (a.at i) f d).bind λy=>k.nx (a.set i y)else _n
theorem Jh{f:Str}{u:V}:∀{nm:List Str}{vs:List V},nm.contains f=_f->nm.length=vs.length->Ex f u (nm.zip vs)=(nm++[f]).zip (vs++[u])
 |[],[],_,_=>rfl
 |[],_::_,_,h=>by cases h
 |_::_,[],_,h=>by cases h
 |n::nm,v::vs,h,hl=>by
  rw[vP,xQ]at h;have a:n≠f:=λz=>by subst z;simp at h
  rw[J6];show(if n=f then _ else _)=_;rw[if_neg a,Jh h.2 (by simpa using hl)];rfl
theorem Hq{f:Str}:∀{nm:List Str}{vs:List V},nm.contains f=_f->(nm.zip vs).lookup f=_n
 |[],_,_=>by simp
 |_::_,[],_=>by simp
 |n::nm,v::vs,h=>by rw[vP,xQ]at h;rw[J6,G6,h.1];exact Hq h.2
theorem Yc{K:W.Frag}{F:Fr}{Γl:Option Gm}{Γ Γ':Gm}{js:List Nat}{i o:Nat}{f:Str}{fe:Ev Dv}(ho:o<=1)(hi:Γ'[i]?=_s (_s 1)){D:Ends}{σ:St}{H:Hp}(h:tS K F Γl Γ (_s Γ') (js++[i]) (Ys i f o fe) D σ H):nv K (EI i) (tE K Γ o Γ' js fe) f D σ H:=by
 obtain⟨g,m,P,r,R,k,res,e,q⟩:=h;refine⟨g,m,P,r,R,_,res,e,λd Z p P1 Pv u l B ag s rv r1 n=>?_⟩;have E:(o==1||UZ d)=_t->∃j,Rep K p l 1 d u j/\∀b,j b->Pv b:=λz=>by
  rcases Bool.or_eq_true_iff.mp z with z|z
  rw[beq_iff_eq.mp z]at rv;exact⟨Pv,rv,λ_ q=>q⟩;exact⟨nop,Mh rv z,λ_ q=>q.elim⟩
 cases c:(o==1||UZ d)with
 |false=>rw[c]at B;cases B
 |true=>
  rw[c]at B;refine zAQ (show(Ec (Z.at i) f d).bind _=_s res from B) λy ey B=>?_;obtain⟨j,N,L⟩:=E c;obtain⟨v,A,Pr,ev,em,ra,r2,Y,J⟩:=r1.take hi;have O:=ra.zAR;cases M:Z.at i with
  |obj c fl nm xs=>
   rw[M]at ey ra;unfold Ec at ey;simp only at ey;cases hc:(!nm.contains f&&fl.contains f&&decide (nm.length < 900))with
   |false=>rw[hc]at ey;cases ey
   |true=>
    rw[hc]at ey;cases ey;simp only[A3,O1,decide_eq_true_eq]at hc;obtain⟨⟨w,I⟩,hc3⟩:=hc;unfold Rep at ra;obtain⟨a,dx,vs,T,rfl,h1,h2,h3,⟨t,hl,S⟩,h6,h7,h4⟩:=ra;have lv:nm.length=vs.length:=by rw[hl,h6.len]
    refine⟨_,ev,a,_,dx,_,rfl,h1,t.1,t.2 f (D1.mp I),by rw[V4];omega,?_⟩;rw[Jh w lv];have pa:A a:=(h4 a).mpr (.inl ⟨by decide,rfl⟩);have hz:=h3 `d;have G:zAS p l λb=>b=a:=λb z=>by subst z;exact⟨by rw[h1];trivial,hz⟩
    have st:Step p (λb=>b=a) l p (λb=>b=a) (upd l a (.ins (EG K c) dx ((nm++[f]).zip (vs++[u])))):=by
     have dm:∀b,L2.upd l a (.ins (EG K c) dx ((nm++[f]).zip (vs++[u]))) b=_n->l b=none:=λb z=>by by_cases hb:b=a;subst hb;rw[AE]at z;cases z;rw[AD hb]at z;exact z
     refine⟨λb o hb nb=>by rw[AD nb];exact hb,dm,λ_ z=>z,λ_ z=>.inl z,⟨[],by simp⟩,λb z=>.inl z,λz b hb e=>z b hb (dm b e),λb C' dx' fs' hb=>?_⟩;by_cases z:b=a;subst z;rw[h1]at hb;cases hb;refine⟨_,AE,λf' r' Q=>?_⟩;rw[<- Jh w lv,FC];by_cases U:f'=f;subst U;rw[Hq w]at Q;cases Q;rw[if_neg U];exact Q;exact⟨fs',by rw[AD z];exact hb,λ_ _ q=>q⟩
    have X:¬j a:=λz=>n a ((J a).mpr (.inl pa)) (L a z);have rd:=N.held st G λb q z=>X (z▸q);have rx:=h6.held st G λb q z=>h7 (z▸q);have dj:Bg T j:=λb q z=>n b ((J b).mpr (.inl ((h4 b).mpr (.inr q)))) (L b z);have ro:Rep K p (upd l a (.ins (EG K c) dx ((nm++[f]).zip (vs++[u])))) 1 (.obj c fl (nm++[f]) (xs++[d])) (.ref a) λb=>A b\/j b:=by
     unfold Rep;refine⟨a,dx,vs++[u],λb=>T b\/j b,rfl,AE,(λz=>by cases z),λ_=>hz,⟨t,by simp[hl],λx M=>?_⟩,?_,λz=>z.elim h7 X,λb=>?_⟩;rcases C0.mp M with z|z
     exact S x z;rw[C4.mp z];exact D1.mp I;exact AA.app rx ((AA.cons rd AA.nil λ_ _ z=>z).iff λb=>⟨.inl,λz=>z.elim id E7⟩) dj;show A b\/j b↔(1≠0/\b=a)\/T b\/j b;rw[h4 b];exact⟨λz=>z.elim (λz=>z.elim .inl λz=>.inr (.inl z)) λz=>.inr (.inr z),λz=>z.elim (λz=>.inl (.inl z)) λz=>z.elim (λz=>.inl (.inr z)) .inr⟩
    have C:Step p A l p A (upd l a (.ins (EG K c) dx ((nm++[f]).zip (vs++[u])))):=(st.frame (R:=A)).sub (λb z=>z.elim (λz=>z▸pa) id) λb z=>.inr z;have r3:=r2.held C O λa q z=>Y a z q;have dr:Bg (λb=>A b\/j b) Pr:=λb q z=>q.elim (λq=>Y b q z) λq=>n b ((J b).mpr (.inr z)) (L b q);obtain⟨P5,V,sp⟩:=r3.putIn (A4.mp hi).1 ev ro dr;rw[Cy hi]at V;refine q.nx Γ' _ p P5 σ _ rfl B (ag.trans Bm.set) (s.trans ((C.frame (R:=λb=>Pr b\/Pv b)).sub (λb z=>?_) λb z=>?_)) Io.refl V;rcases z with z|z|z
    exact .inl ((J b).mpr (.inl z));exact .inl ((J b).mpr (.inr z));exact .inr z;rcases sp b z with z|z
    exact z.elim .inl λz=>.inr (.inr (L b z));exact .inr (.inl z)
  |_=>rw[M]at ey;cases ey
noncomputable def Ei(d:Dv)(c a:Str):Bool:=match d with
 |.obj b _ nm _=>b==c&&!nm.contains a
 |_=>_f
def Mx(s:Sig)(c a:Str)(i:Nat)(as:List Ar):Ev Dv:=λR m k=>bif Ei (m.at i) c a then NA s (.rf i::as) R m k else _n
section
variable{K:W.Frag}{Γ Γ':Gm}{js:List Nat}{as:List Ar}{σ:St}{H:Hp}{i:Nat}{s:Sig}{cl mt:Str}
theorem Xv(c:AF Γ (.rf i::as) Γ' js)(hs:fU (.rf i::as) s.io=_t)(u:(Ar.rf i::as).length=s.ps.length)(nd:s.io.Nodup)(n:∀i∈s.io,i < s.ps.length)(hl:∀j∈slots (.rf i::as) s.io,Γ'[j]?=_s (_s 1)){Q:VK}
    (h:tE K Γ s.ro Γ' (js++slots (.rf i::as) s.io) (Mx s cl mt i as) σ H Q):SG (EG K cl) mt (spF K s) [] E0 (EI i) (Bd K as) σ H Q:=by
  obtain⟨g,m,P,r,R,k,res,e,q⟩:=h;unfold Mx at e;cases b:Ei (m.at i) cl mt with
  |false=>rw[b]at e;cases e
  |true=>
    rw[b]at e;have t:=c;unfold AF at t;obtain⟨⟨o,p⟩,_,_⟩:=t;obtain⟨x,P1,hv,rv,_⟩:=r.see p;obtain⟨w,f,d⟩:=PZ c hs u nd n hl ⟨g,m,P,r,R,k,res,e,q⟩;rw[hv]at f;cases f;cases hx:m.at i with
    |obj y fl nm xs=>
      rw[hx]at b rv;unfold Ei at b;simp only[A3,beq_iff_eq,O1]at b;obtain⟨rfl,b⟩:=b;unfold Rep at rv;obtain⟨a,dx,vs,z,rfl,h1,_⟩:=rv;refine⟨_,hv,a,dx,_,rfl,h1,Hq b,?_⟩;have v:(fun(vs:List V) (l:Hp)=>spF K s (V.ref a::(vs++[])) l Q E0)=λvs l=>spF K s (V.ref a::vs) l Q E0:=by funext vs l;rw[G7]
      rw[v];exact d
    |_=>rw[hx]at b;cases b
noncomputable def kQ{R:Type}(d:Dv)(bs:List Dv)(k:Dv->Option R):Option R:=match d,bs with
 |.non,[o]=>k o
 |_,_=>_n
theorem Xu{R:Type}{d:Dv}{bs:List Dv}{k:Dv->Option R}{r:R}(h:kQ d bs k=_s r):d=.non/\∃o,bs=[o]/\k o=_s r:=by unfold kQ at h;split at h;exact⟨rfl,_,rfl,h⟩;cases h
def RS(s:Sig)(c:Str)(fl:List Str)(as:List Ar):Ev Dv:=λR m k=>AQ as R m λds a=>s.cps R (.obj c fl [] []::ds) λd bs=>kQ d bs λo=>k o a
theorem Xy{fl:List Str}(X:eg K cl fl)(hs:s.io=[0])(hn:as.length+1=s.ps.length)(he:Nb as=_t)(c:AF Γ as Γ' js){Q:VK}(h:tE K Γ 1 Γ' js (RS s cl fl as) σ H Q):SH (EG K cl) (spF K s) [] E0 (Bd K as) σ H Q:=by
 obtain⟨g,m,P,r,R,k,res,e,q⟩:=h;refine AM as r c e λds U p P1 vs f L ag st ar I=>λx dx B hd nx=>?_;rw[s.eq]at L;refine zAQ L λM Y E=>?_;obtain⟨d,bs⟩:=M;obtain⟨rfl,ob,rfl,E⟩:=Xu E;rw[G7];have t:NY f (upd f dx (.own x)):=CU hd _;have A:upd f dx (.own x) x=none:=by rw[AD λz=>nx z.symm];exact B
 have F:NY f (upd (upd f dx (.own x)) x (.ins (EG K cl) dx [])):=λb o hb=>CU A _ b o (t b o hb);have hz:¬p.Z x:=λz=>I.zd x z B;have nw:Ad K p f 1 (.obj cl fl [] []) (.ref x) (upd (upd f dx (.own x)) x (.ins (EG K cl) dx [])):=by refine⟨F,λb=>b=x,?_,λa z=>z▸B⟩;unfold Rep;exact⟨x,dx,[],nop,rfl,AE,(λz=>by cases z),λ_=>hz,⟨X,rfl,λ_ z=>by cases z⟩,AA.nil,λz=>z,λb=>⟨λz=>.inl ⟨by decide,z⟩,λz=>z.elim (λz=>z.2) E7⟩⟩
 obtain⟨Pv,s1,ro,y,J⟩:=Ad.go st I nw;have u:=(ar.zBi he).held (Step.same (g:=p) (P:=nop) F) zAS.nop λ_ _ z=>z;have al:=ar.len;have O:Rel K p (upd (upd f dx (.own x)) x (.ins (EG K cl) dx [])) (QD s.ps.length s.io) (.obj cl fl [] []::ds) ((V.ref x::vs).map _s) Pv:=by
  refine⟨y.zd,λi b=>i=0/\Pv b,⟨by unfold QD;simp;omega,by unfold QD;simp;omega,λi o D=>?_,λi D b z=>?_,λi j n b z w=>n (z.1.trans w.1.symm)⟩,λb=>⟨λz=>⟨0,rfl,z⟩,fun⟨_,_,z⟩=>z⟩⟩;obtain⟨hi,C⟩:=Fe D;rw[hs]at C;cases i with
  |zero=>have:o=1:=C5 C;subst this;have eq:(λb=>(0=0/\Pv b))=Pv:=funext λb=>propext ⟨λz=>z.2,λz=>⟨rfl,z⟩⟩;exact⟨_,_,rfl,rfl,by rw[eq];exact ro⟩
  |succ i=>
   have:o=0:=C5 C;subst this;obtain⟨v,_,ev,rv,_⟩:=u.get (A2 (by omega:i < ds.length));have eq:(λb=>(i+1=0/\Pv b))=nop:=Fh λb z=>by cases z.1
   exact⟨_,v,by rw[wM];exact A2 `o,by rw[B7,wM,D0,ev];rfl,by rw[eq];exact rv.z⟩
  obtain⟨rfl,z⟩:=z;refine D 1 ?_;unfold QD;rw[D0,O3 `o,hs];rfl
 refine⟨p,_,Pv,O,.non,[ob],Y,λg' H' v Pw Pb s2 rv hb n=>?_⟩;refine⟨by unfold Rep at rv;exact rv.1,?_⟩;have S:=y.held s2 ro.zAR J;have T:=s2.out y.zAR J;unfold Bk at hb;rw[hs]at hb;obtain⟨N,P4,l,rb,G⟩:=hb.see (i:=0) (o:=1) rfl;have l:_s (_s (V.ref x))=_s (_s N):=l;cases l;exact q ob U g' P1 P4 (.ref x) H' E ag (s1.trans ((s2.frame (R:=P1)).sub (λa z=>z.symm) λa z=>z.elim .inr λz=>.inl (.inr (G a z)))) rb S λa z w=>T a z (.inr (G a w))
end
end R
namespace L2
open PySem PySem.Spec PyProof.Rows
open AutoSeq1 (wpAny_loadPart')
section
variable{X:Cx}{p1 p2 zBw zAU:Pos}{es:List Expr}{e:Expr}{ta:TA}
abbrev ah(ta:TA):TE:=λσ H Q=>ta σ H λvs a=>∃(i j:Int),(vs=[.int j]/\i=0\/vs=[.int i,.int j])/\(-(2 ^ 62)<=i/\i < 2 ^ 62/\-(2 ^ 62)<=j/\j < 2 ^ 62)/\(j-i).toNat<=1000000/\∀l,a l=_n->Q (.ref l) (upd a l (.tup ((B2 (j-i).toNat).map λk=>.int (i+(k:Nat)))))
end
end L2
namespace L2
open PySem PySem.Spec PyProof.Rows
section
variable{X:Cx}{a e:Expr}{ta te:TE}{p pos kp:Pos}
def uh(K:W.Frag)(x y:V)(H:Hp)(Q:VK):Prop:=∃(l:B8)(ns:List Int)(d:Int),x=.ref l/\y=.int d/\Dl K H l (ns.map V.int)/\∀M,(ns=[]/\M=d\/M∈ns/\∀a,a∈ns->a<=M)->Q (.int M) H
end
end L2
namespace R
open PySem L2
def Gx(X:Cx):Prop:=X.calm=_t/\∃j,zAV j X.A
noncomputable def two{c:Type}(f:Dv->Dv->Option c)(ds:List Dv):Option c:=match ds with|[a,b]=>f a b|_=>_n
noncomputable def one{b:Type}(f:Dv->Option b)(ds:List Dv):Option b:=match ds with|[a]=>f a|_=>_n
noncomputable def BI:Expr->Bool
 |.Starred _ _=>_f
 |_=>_t
structure zGY where
 op:xF
 f:Dv->Dv->Option Dv
 ok:∀X,Gx X->∃r,Dk X (binaryOp op) r/\AL X.K (two f) 1 (QH r)
structure zGX where
 op:zR
 f:Dv->Dv->Option Bool
 ok:∀X,Gx X->∃r,Dk X (K6 op) r/\AL X.K (λds=>(two f ds).map .bl) 0 (QH r)
structure zDP where
 x:Str
 n:Nat
 o:Nat
 f:List Dv->Option Dv
 ok:∀X,Gx X->∃r,AL X.K f o r/\((∃id,BX X (.builtin id) r/\R7 x=_s (.builtin id))\/∃T,BX X (.type T) r/\R7 x=_s (.type T))
abbrev uI(T:String):Prop:=T = "list" \/ T = "str" \/ T = "int" \/ T = "dict"
structure zCh where
 x:Str
 n:Nat
 T:String
 o:Nat
 f:List Dv->Option Dv
 hT:uI T
 ok:∀X,Gx X->∃id r,xi T/\Slot T x id/\typeOf (.builtin id)=pure (.type "method_descriptor")/\aI X id r/\AL X.K f o (mW r)
structure zDN where
 x:Str
 n:Nat
 T:String
 p:Mu
 hT:uI T
 ok:∀X,Gx X->∃id r,xi T/\Slot T x id/\typeOf (.builtin id)=pure (.type "method_descriptor")/\aI X id r/\Pz X.K p r
noncomputable def Ol:Expr->Bool
 |.Tuple _ _ _=>_t
 |_=>_f
structure zFS where
 x:Str
 n:Nat
 tt:Bool
 f:List Dv->Option (List Dv)
 ok:∀X,Gx X->∃r,Rr X.K f r/\∀tg es p pos ta,(tt=_t->Ol tg=_t)->es.length=n->es.all BI=_t->Gl X x->X.mg x=_n->PA X es ta->PI X tg (.Call (.Name x p) es [] pos) (gI r ta)
def uF:QG:=λvs a Q=>Nn (λ_ H R=>R vs H) [] a Q
def uf:QG:=λvs a Q=>ah (λ_ H R=>R vs H) [] a Q
def uC(K:W.Frag):R2:=λx y c Q=>∃a xs b,x=.ref a/\y=.int (-1)/\IH K c a xs b/\∀p,c p=_n->Q (.ref p) (upd c p (bif b then .tup xs.reverse else .lst xs.reverse))
def uk(K:W.Frag):V->Hp->VK->Prop:=λv b Q=>∃a xs,v=.ref a/\Dl K b a xs/\∀l,b l=_n->Q (.ref l) (upd b l (.lst xs.reverse))
structure Tb where
 zFP:List zGY
 zFJ:List zGX
 calls:List zDP
 meths:List zCh
 zEk:List zDN
 zEe:List zFS
 ix:Dv->Dv->Option Dv
 zEq:∀X,Gx X->∃r,Tv X r/\AL X.K (two ix) 0 (QH r)
 sl:Dv->Option Int->Option Int->Option Dv
 zEf:∀X,Gx X->∃r,Vp X r/\∀lo hi,AL X.K (one λd=>sl d lo hi) 1 (mX λx H Q=>r x lo hi H Q)
 tru:Dv->Option Bool
 zEZ:∀K g H o d v P b,Rep K g H o d v P->tru d=_s b->aG K v H b
 lr:List Dv->Option Dv
 zEo:∀X,Gx X->AL X.K lr 1 uF
 tr:List Dv->Option Dv
 zEY:∀X,Gx X->AL X.K tr 1 uf
 md:Dv->Dv->Option Dv
 zFe:∀X,Gx X->AL X.K (two md) 1 (QH (uh X.K))
 rv:Dv->Dv->Option Dv
 zEg:∀X,Gx X->AL X.K (two rv) 1 (QH (uC X.K))
 lv:Dv->Option Dv
 zFf:∀X,Gx X->AL X.K (one lv) 1 (mX (uk X.K))
 ss:Dv->Option Dv
 zFX:∀X,Gx X->AL X.K (one ss) 1 (mX (ug X.K))
 le:Dv->Option Dv
 zFg:∀X,Gx X->AL X.K (one le) 1 (mX (um X.K))
 gt:List Dv->Option Dv
 zFD:∀X,Gx X->MK X.K gt 0 (mW Wt)
 dz:List Dv->Option Dv
 zFG:∀X,Gx X->MK X.K dz 1 (sW X.K)
 st:Dv->Dv->Dv->Option Dv
 zDz:∀X,Gx X->∃T,Kv X T/\eV X.K st T
structure Cf:Type 1 where
 N:List Str
 sc:O0
 fn:Str->Bool
 fs:List (Str×Sig)
 cs:List (Str×Dv)
 bl:List Str
 T:Tb
 F:Fr
 fl:List Str
 rf:List Str
def Fz(P:F9)(w:J5)(K:W.Frag)(mg:Str->Option _v)(base:K4)(fl:List Str)(j:Nat)(x:Str)(s:Sig):Prop:=match s.cl with
 |none=>Fx P w K mg base j x s.ps (spF K s)
 |some c=>∃a f fd,a+1<=j/\zAb P w K mg base Rw a f fd s.ps (spF K s)/\Binds K fd s.ps []/\Meth K (EG K c) x f/\eg K c fl/\mg c=_s (.ref (EG K c))/\(x = "__init__" -> Mk K (EG K c) f)
structure Cok (C:Cf) (X:Cx):Prop where
 N:X.N=C.N
 sc:X.env.scope=C.sc
 nd:X.N.Nodup
 calm:X.calm=_t
 fn:∀x,C.fn x=_t->X.fn x=_t
 room:Gx X
 fs:∀x s,(x,s)∈C.fs->s.io.Nodup/\(∀i∈s.io,i < s.ps.length)/\∃j k,j<=k/\zAV k X.A/\Fz X.prog X.w X.K X.mg X.base C.fl j x s
 cs:∀x d,(x,d)∈C.cs->∃v u,X.mg x=_s u/\RelV v u/\∀g H,Rep X.K g H 0 d v nop
 bl:∀x∈C.bl,X.mg x=_n
 xe:X.xe=λ_ _=>False
variable{C:Cf}{X:Cx}{x:Str}{s:Sig}
theorem Cok.fx(ok:Cok C X)(h:(x,s)∈C.fs/\s.cl=_n):s.io.Nodup/\(∀i∈s.io,i < s.ps.length)/\∃j k,j<=k/\zAV k X.A/\Fx X.prog X.w X.K X.mg X.base j x s.ps (spF X.K s):=by obtain⟨a,b,j,k,d,c,F⟩:=ok.fs x s h.1;unfold Fz at F;rw[h.2]at F;exact⟨a,b,j,k,d,c,F⟩
noncomputable def EK:List Str->Str->Option Nat
 |[],_=>_n
 |y::r,x=>if y==x then _s 0 else(EK r x).map (·+1)
theorem Bw:∀{N:List Str}{x:Str}{i:Nat},EK N x=_s i->N[i]?=_s x
 |[],_,_,h=>by cases h
 |y::r,x,i,h=>by
  unfold EK at h;split at h;rename_i e;cases h;rw[beq_iff_eq.mp e];rfl;cases q:EK r x with|none=>rw[q]at h;cases h|some j=>rw[q]at h;cases h;simpa using Bw q
noncomputable def YO(sc:O0)(x:Str):Bool:=match sc.names.lookup x with
 |some .local=>_t
 |some .cell=>_t
 |some .free=>_t
 |_=>_f
noncomputable def Mo(sc:O0)(x:Str):Bool:=match sc.names.lookup x with
 |some .globalImplicit=>_t
 |_=>_f
noncomputable def UX(x:Str):Bool:=!(x==("__debug__" : Str))&&!(x==("__classdict__" : Str))&&!(x==("__name__" : Str))
def lv(C:Cf)(x:Str):Option Nat:=if YO C.sc x&&UX x then EK C.N x else _n
def RB(C:Cf)(e:Expr):Option Nat:=match e with
 |.Name x _=>lv C x
 |_=>_n
theorem DO(h:UX x=_t):(x==("__debug__" : Str))=_f/\(x==("__classdict__" : Str))=_f/\x ≠ "__name__" := by unfold UX at h;simp only[A3,O1]at h;exact⟨h.1.1,h.1.2,λz=>by rw[z]at h;simp at h⟩
theorem Us{sc:O0}(h:YO sc x=_t):rh sc x:=by unfold YO at h;unfold rh;split at h;rename_i e;exact .inl e;rename_i e;exact .inr (.inl e);rename_i e;exact .inr (.inr e);cases h
theorem CK(ok:Cok C X)(h:Mo C.sc x=_t):Gl X x:=by unfold Mo at h;unfold Gl Env.kindOf;rw[ok.sc];split at h;rename_i e;exact e;cases h
variable{i:Nat}{pos:Pos}
theorem gF(ok:Cok C X)(h:lv C x=_s i):PE X (.Name x pos) (EI i):=by unfold lv at h;split at h;rename_i e;rw[A3]at e;have n:=DO e.2;exact jU (by rw[ok.N];exact Bw h) (by rw[ok.sc];exact Us e.1) n.1 n.2.1;cases h
variable{e:Expr}
theorem Cc(ok:Cok C X)(h:RB C e=_s i):PE X e (EI i):=by
 cases e with|Name x pos=>exact gF ok h|_=>cases h
def aS(C:Cf)(e:Expr):Option (Nat×Str):=match e with
 |.Attribute o f _=>if C.rf.contains f then(RB C o).map λi=>(i,f)else _n
 |_=>_n
variable{o:Expr}{env:Env}
theorem Ot{f:Str}(h:RB C o=_s i):N8 o f env (N2 o env)=N2 o env:=by cases o<;>first|rfl|(cases h)
theorem KH(ok:Cok C X){q:Nat×Str}(h:aS C e=_s q):PE X e (QS X.K (EI q.1) q.2):=by
 cases e with|Attribute o f pos=>unfold aS at h;simp only at h;split at h;obtain⟨i,hi,rfl⟩:=G3.mp h;exact Xa (Cc ok hi) (Ot hi);cases h|_=>cases h
structure CE:Type 1 where
 o:Nat
 Γ:Gm
 js:List Nat
 f:Ev Dv
structure CT:Type 1 where
 Γ:Gm
 js:List Nat
 f:Ev Bool
structure CA:Type 1 where
 as:List Ar
 Γ:Gm
 js:List Nat
structure CI:Type 1 where
 Γ:Gm
 js:List Nat
 f:Ev (List Dv)
structure CS:Type 1 where
 Γ:Option Gm
 js:List Nat
 f:Es
 er:Bool
 eb:Bool
 ec:Bool
structure Rec:Type 1 where
 E:Cf->Gm->Expr->Option CE
 A:Cf->Gm->List Bool->List Expr->Option CA
 T:Cf->Gm->Expr->Option CT
 I:Cf->Gm->Bool->Expr->Option CI
 S:Cf->Option Gm->Gm->N4->Option CS
 Ss:Cf->Option Gm->Gm->List N4->Option CS
abbrev fH(t:TA)(te:TE):TA:=λσ H Q=>t σ H λvs b=>te σ b λx a=>Q (vs++[x]) a
structure OkR (r:Rec):Prop where
 E:∀{C X Γ e c},Cok C X->r.E C Γ e=_s c->PE X e (tE X.K Γ c.o c.Γ c.js c.f)
 A:∀{C X Γ md es c},Cok C X->r.A C Γ md es=_s c->PA X es (Bd X.K c.as)/\AF Γ c.as c.Γ c.js/\c.as.length=es.length/\es.all BI=_t/\(md=[]->Nb c.as=_t)
 T:∀{C X Γ e c},Cok C X->r.T C Γ e=_s c->PT X e (tT X.K Γ c.Γ c.js c.f)
 I:∀{C X Γ e c}(tg),Cok C X->r.I C Γ (Ol tg) e=_s c->PI X tg e (tI X.K Γ c.Γ c.js c.f)
 S:∀{C X Γl Γ s c},Cok C X->r.S C Γl Γ s=_s c->PS X s (tS X.K C.F Γl Γ c.Γ c.js c.f)
 Ss:∀{C X Γl Γ s c},Cok C X->r.Ss C Γl Γ s=_s c->FR X s (tS X.K C.F Γl Γ c.Γ c.js c.f)
 B:∀{C X Γ md es c},Cok C X->r.A C Γ md es=_s c->∀{e te},PE X e te->BI e=_t->PA X (es++[e]) (fH (Bd X.K c.as) te)
def low(Γ:Gm)(i:Nat):Bool:=match Γ.getD i _n with
 |some o=>decide (o<=1)
 |none=>_f
variable{Γ:Gm}
theorem Ho(h:low Γ i=_t):∃o,o<=1/\Γ[i]?=_s (_s o):=by unfold low at h;split at h;rename_i o e;exact⟨o,of_decide_eq_true h,BF e⟩;cases h
def Nt(r:Rec)(C:Cf)(Γ:Gm)(md:List Bool)(es:List Expr):Option CA:=match es with
  |[]=>_s ⟨[],Γ,[]⟩
  | e::es=>if BI e then
      match(if md.headD _f then RB C e else _n)with
      |some i=>if(Γ.getD i _n).isSome then(r.A C Γ md.tail es).bind λc=>if low c.Γ i then _s ⟨.rf i::c.as,c.Γ,c.js⟩ else _n else _n
      |none=>match(if md.headD _f then aS C e else _n)with
        |some q=>if(Γ.getD q.1 _n).isSome then(r.A C Γ md.tail es).bind λc=>if low c.Γ q.1 then _s ⟨.fd q.1 q.2::c.as,c.Γ,c.js⟩ else _n else _n
        |none=>(r.E C Γ e).bind λa=>(r.A C a.Γ md.tail es).bind λc=>_s ⟨.ev Γ a.Γ a.js a.f::c.as,c.Γ,a.js++c.js⟩
    else _n
variable{es:List Expr}
theorem AH(h:BI e=_t):E3 (e::es) env=(_f,N2 e env)::E3 es env:=by cases e<;>first|rfl|(cases h)
theorem getD_some(h:(Γ.getD i _n).isSome=_t):∃o,Γ[i]?=_s (_s o):=by obtain⟨o,e⟩:=O7.mp h;exact⟨o,BF e⟩
variable{r:Rec}
theorem UG(R:OkR r){md:List Bool}{c:CA}(ok:Cok C X)(h:Nt r C Γ md es=_s c){k:Expr}{te:TE}(j:PE X k te)(a:BI k=_t):PA X (es++[k]) (fH (Bd X.K c.as) te):=by
  cases es with
  |nil=>cases h;exact CF j Jk (AH a)
  |cons e es=>
    unfold Nt at h;simp only at h;split at h;rename_i hs;have b:=AH (es:=es++[k]) (env:=X.env) hs;split at h;rename_i i hi;have d:md.headD _f=true:=by
      cases q:md.headD _f with|true=>rfl|false=>rw[q]at hi;cases hi
    rw[d]at hi;split at h;refine zAQ h λl f h=>?_;split at h;cases h;exact CF (Cc ok hi) (R.B ok f j a) b;cases h;cases h;split at h;rename_i q g;have d:md.headD _f=true:=by
      cases z:md.headD _f with|true=>rfl|false=>rw[z]at g;cases g
    rw[d]at g;split at h;refine zAQ h λl f h=>?_;split at h;cases h;exact CF (KH ok g) (R.B ok f j a) b;cases h;cases h;refine zAQ h λn m h=>?_;refine zAQ h λl f h=>?_;cases h;exact CF (Ew (R.E ok m)) (R.B ok f j a) b;cases h
theorem WW(R:OkR r){md:List Bool}{c:CA}(ok:Cok C X)(h:Nt r C Γ md es=_s c):PA X es (Bd X.K c.as)/\AF Γ c.as c.Γ c.js/\c.as.length=es.length/\es.all BI=_t/\(md=[]->Nb c.as=_t):=by
  cases es with
  |nil=>cases h;exact⟨Jk,by unfold AF;exact⟨rfl,rfl⟩,rfl,rfl,λ_=>rfl⟩
  |cons e es=>
    unfold Nt at h;simp only at h;split at h;rename_i hs;have b:=AH (es:=es) (env:=X.env) hs;split at h;rename_i i hi;have a:md.headD _f=true:=by
      cases q:md.headD _f with|true=>rfl|false=>rw[q]at hi;cases hi
    rw[a]at hi;split at h;rename_i h1;refine zAQ h λm d h=>?_;split at h;rename_i h2;cases h;obtain⟨k,j,g,f,n⟩:=R.A ok d;refine⟨CF (Cc ok hi) k b,?_,by simp[g],by simp[hs,f],λz=>by rw[z]at a;cases a⟩;unfold AF;exact⟨getD_some h1,Ho h2,j⟩;cases h;cases h;split at h;rename_i q l;have a:md.headD _f=true:=by
      cases z:md.headD _f with|true=>rfl|false=>rw[z]at l;cases l
    rw[a]at l;split at h;rename_i h1;refine zAQ h λm d h=>?_;split at h;rename_i h2;cases h;obtain⟨k,j,g,f,n⟩:=R.A ok d;refine⟨CF (KH ok l) k b,?_,by simp[g],by simp[hs,f],λz=>by rw[z]at a;cases a⟩;unfold AF;exact⟨getD_some h1,Ho h2,j⟩;cases h;cases h;refine zAQ h λt p h=>?_;refine zAQ h λm d h=>?_;cases h;obtain⟨k,j,g,f,n⟩:=R.A ok d;refine⟨CF (Ew (R.E ok p)) k b,?_,by simp[g],by simp[hs,f],λz=>?_⟩;unfold AF;exact⟨rfl,_,rfl,j⟩;show Nb m.as=_t;exact n (by rw[z];rfl);cases h
def Zt(Γ:Gm):Const->Option CE
 |.int i=>_s ⟨1,Γ,[],Ox (.int i)⟩
 |.bool b=>_s ⟨1,Γ,[],Ox (.bl b)⟩
 |.none=>_s ⟨1,Γ,[],Ox .non⟩
 |.str x=>_s ⟨1,Γ,[],Ox (.str x.cps.toList)⟩
 |_=>_n
theorem iD(x:Str):tx x.cps.toList=x:=by unfold tx;cases x;rfl
variable{c:CE}
theorem Vd{k:Const}{j:Nat}(h:Zt Γ k=_s c):PE X (.Constant k j pos) (tE X.K Γ c.o c.Γ c.js c.f):=by
 cases k with|int i=>cases h;exact mj jd λ_ _=>Bz|bool b=>cases h;exact mj oi λ_ _=>Dr|none=>cases h;exact mj jZ λ_ _=>Dq|str x=>cases h;exact mj jW λ_ _=>by unfold Rep;exact⟨by rw[iD],λ_ z=>z⟩|_=>cases h
noncomputable def aZ(x:Str):Option String:=if x==("int" : Str)then _s "int" else if x==("bool" : Str)then _s "bool" else if x==("str" : Str)then _s "str" else if x==("tuple" : Str)then _s "tuple" else if x==("list" : Str)then _s "list" else _n
theorem UA{T:String}(h:aZ x=_s T):R7 x=_s (.type T):=by
 unfold aZ at h
 repeat' split at h
 all_goals first|(rename_i e;rw[beq_iff_eq.mp e];cases h;first|exact PyProof.Rows.Boot.«int» | exact PyProof.Rows.Boot.«bool» | exact PyProof.Rows.Boot.«str» | exact PyProof.Rows.Boot.«tuple» | exact PyProof.Rows.Boot.«list»)|cases h
def Zk(C:Cf)(Γ:Gm)(x:Str):Option CE:=match lv C x with
  |some i=>if(Γ.getD i _n).isSome then _s ⟨0,Γ.set i (_s 0),[],TQ i⟩ else _n
  |none=>if Mo C.sc x&&UX x then(match C.cs.find? λp=>p.1==x with
      |some p=>_s ⟨0,Γ,[],Ox p.2⟩
      |none=>if C.bl.contains x then(aZ x).map λT=>⟨0,Γ,[],Ox (.ty T)⟩ else _n)else _n
theorem Zj(ok:Cok C X)(h:Zk C Γ x=_s c):PE X (.Name x pos) (tE X.K Γ c.o c.Γ c.js c.f):=by
 unfold Zk at h;split at h;rename_i i hi;split at h;rename_i h1;cases h;obtain⟨o,b⟩:=getD_some h1;exact ny (gF ok hi) b;cases h;split at h;rename_i a;rw[A3]at a;cases q:C.cs.find? λp=>p.1==x with
 |none=>
  rw[q]at h;simp only at h;split at h;rename_i hb;cases t:aZ x with|none=>rw[t]at h;cases h|some T=>rw[t]at h;cases h;exact mj (cF (v:=.ty T) (CK ok a.1) (ok.bl x (D1.mp hb)) (UA t) rfl (DO a.2).2.2 (DO a.2).1) λ_ _=>by unfold Rep;exact⟨rfl,λ_ z=>z⟩
  cases h
 |some p=>rw[q]at h;cases h;have e:p.1=x:=beq_iff_eq.mp (by simpa using O5 q);obtain⟨v,u,h1,h3,h2⟩:=ok.cs p.1 p.2 (S9 q);rw[e]at h1;exact mj (cC (CK ok a.1) h1 h3 (DO a.2).1) h2
 cases h
structure C1:Type 1 where
 a:Ar
 Γ:Gm
 js:List Nat
def IT(r:Rec)(C:Cf)(Γ:Gm)(m:Bool)(e:Expr):Option C1:=match(if m then RB C e else _n)with
 |some i=>if(Γ.getD i _n).isSome then _s ⟨.rf i,Γ,[]⟩ else _n
 |none=>match(if m then aS C e else _n)with
  |some q=>if(Γ.getD q.1 _n).isSome then _s ⟨.fd q.1 q.2,Γ,[]⟩ else _n
  |none=>(r.E C Γ e).bind λc=>_s ⟨.ev Γ c.Γ c.js c.f,c.Γ,c.js⟩
def Ga(a:Ar)(Γ:Gm):Bool:=match a with
 |.rf i=>low Γ i
 |.fd i _=>low Γ i
 |_=>_t
theorem EB(R:OkR r){m:Bool}{c:C1}(ok:Cok C X)(h:IT r C Γ m e=_s c):PE X e (QT X.K c.a)/\(m=_f->Nb [c.a]=_t)/\∀{as Γ' js},AF c.Γ as Γ' js->Ga c.a Γ'=_t->AF Γ (c.a::as) Γ' (c.js++js):=by
 unfold IT at h;split at h;rename_i i hi;split at h;rename_i h1;cases h;have hm:m=true:=by cases m with|true=>rfl|false=>cases hi
 subst hm;refine⟨Cc ok hi,(λz=>by cases z),λch hs=>?_⟩;unfold AF;exact⟨getD_some h1,Ho hs,ch⟩;cases h;split at h;rename_i q b;split at h;rename_i h1;cases h;have hm:m=true:=by cases m with|true=>rfl|false=>cases b
 subst hm;refine⟨KH ok b,(λz=>by cases z),λch hs=>?_⟩;unfold AF;exact⟨getD_some h1,Ho hs,ch⟩;cases h;refine zAQ h λf d h=>?_;cases h;refine⟨Ew (R.E ok d),λ_=>rfl,λch hs=>?_⟩;unfold AF;exact⟨rfl,_,rfl,ch⟩
theorem EA:AF Γ [] Γ []:=by unfold AF;exact⟨rfl,rfl⟩
def MG(r:Rec)(C:Cf)(Γ:Gm)(a b:Expr):Option (C1×C1):=(IT r C Γ _t a).bind λx=>(IT r C x.Γ _t b).bind λy=>if Ga x.a y.Γ&&Ga y.a y.Γ then _s (x,y)else _n
noncomputable def jj(p:C1×C1):List Nat:=p.1.js++(p.2.js++[])
variable{a b:Expr}
theorem HD(R:OkR r){p:C1×C1}(ok:Cok C X)(h:MG r C Γ a b=_s p):PE X a (QT X.K p.1.a)/\PE X b (QT X.K p.2.a)/\AF Γ [p.1.a,p.2.a] p.2.Γ (jj p):=by unfold MG at h;refine zAQ h λx f h=>?_;refine zAQ h λy d h=>?_;split at h;rename_i z;rw[A3]at z;cases h;obtain⟨l,_,k⟩:=EB R ok f;obtain⟨j,_,g⟩:=EB R ok d;exact⟨l,j,k (g EA z.2) z.1⟩;cases h
def Vk(r:Rec)(C:Cf)(Γ:Gm)(a:Expr):Option C1:=(IT r C Γ _t a).bind λx=>if Ga x.a x.Γ then _s x else _n
theorem Iy(R:OkR r){x:C1}(ok:Cok C X)(h:Vk r C Γ a=_s x):PE X a (QT X.K x.a)/\AF Γ [x.a] x.Γ (x.js++[]):=by unfold Vk at h;refine zAQ h λy d h=>?_;split at h;rename_i z;cases h;obtain⟨g,_,f⟩:=EB R ok d;exact⟨g,f EA z⟩;cases h
theorem Cok.gx(ok:Cok C X):Gx X:=ok.room
def qo(r:Rec)(C:Cf)(Γ:Gm)(a:Expr)(op:xF)(b:Expr):Option CE:=(C.T.zFP.find? λe=>e.op==op).bind λen=>(MG r C Γ a b).bind λp=>_s ⟨1,p.2.Γ,jj p,Ed (two en.f) (AQ [p.1.a,p.2.a])⟩
theorem eL(R:OkR r){op:xF}(ok:Cok C X)(h:qo r C Γ a op b=_s c):PE X (.BinOp a op b pos) (tE X.K Γ c.o c.Γ c.js c.f):=by
 refine zAQ h λen l h=>?_;refine zAQ h λp k h=>?_;cases h;have j:en.op=op:=by simpa using O5 l
 obtain⟨h1,h2,h3⟩:=HD R ok k;obtain⟨m,d,g⟩:=en.ok X ok.gx;rw[j]at d;exact PE.imp (og d h1 h2) λ_ _ _ h=>DN g h3 h
noncomputable def EC(x:Dv):Option Dv:=match x with|.int i=>_s (.int (-i))|_=>_n
theorem jM{K:W.Frag}:AL K (one EC) 1 (mX (rU λi=>.int (-i))):=λg H ds vs d Q zd ra e k=>by unfold one at e;split at e;rename_i a;unfold EC at e;split at e;rename_i i;cases e;unfold RA at ra;obtain⟨v,r,o,P,rfl,_,h1,h2⟩:=ra;unfold RA at h2;subst h2;rw[AI h1];exact⟨i,rfl,k _ H (Ad.old Bz)⟩;cases e;cases e
def qh(r:Rec)(C:Cf)(Γ:Gm)(a:Expr):Option CE:=(Vk r C Γ a).bind λx=>_s ⟨1,x.Γ,x.js++[],Ed (one EC) (AQ [x.a])⟩
theorem dw(R:OkR r)(ok:Cok C X)(h:qh r C Γ a=_s c):PE X (.UnaryOp .USub a pos) (tE X.K Γ c.o c.Γ c.js c.f):=by refine zAQ h λx d h=>?_;cases h;obtain⟨h1,h2⟩:=Iy R ok d;exact PE.imp (oY iA h1) λ_ _ _ h=>DN jM h2 h
def mr(t:CT):CE:=⟨1,t.Γ,t.js,dJ t.f⟩
def Rj(r:Rec)(C:Cf)(Γ:Gm)(a:Expr)(op:zR)(b:Expr):Option CT:=if xX op b then _n else(C.T.zFJ.find? λe=>e.op==op).bind λen=>(MG r C Γ a b).bind λp=>_s ⟨p.2.Γ,jj p,rV (two en.f) (AQ [p.1.a,p.2.a])⟩
theorem mL{K:W.Frag}{Γ':Gm}{js:List Nat}{σ:St}{H:Hp}{o:Nat}{p:List Dv->Option Bool}{as:List Ar}{r:QG}(l:AL K (λds=>(p ds).map .bl) 0 r)(c:AF Γ as Γ' js){Q:VK}(h:tE K Γ o Γ' js (dJ (rV p (AQ as))) σ H Q):Bd K as σ H λvs f=>r vs f Q:=by obtain⟨g,m,P,rl,B,k,res,e,q⟩:=h;refine AM as rl c e λds m' g' P' vs f n w s ar d=>?_;refine zAQ n λb u t=>?_;refine l g' f ds vs (.bl b) _ d.zd (ar.ra d) (by show(p ds).map _=_;rw[u];rfl) λv y nw=>?_;obtain⟨Pv,s2,h1,j,A⟩:=Ad.go s d nw;have ev:=Eu h1;subst ev;exact q (.bl b) m' g' P' nop _ y t w (s2.less λ_ z=>z.elim .inl E7) Dr j λ_ _ z=>z
theorem Tn(R:OkR r){op:zR}{c:CT}(ok:Cok C X)(h:Rj r C Γ a op b=_s c):PT X (.Compare a [op] [b] pos) (tT X.K Γ c.Γ c.js c.f)/\∀o,PE X (.Compare a [op] [b] pos) (tE X.K Γ o c.Γ c.js (dJ c.f)):=by
 unfold Rj at h;split at h;cases h;rename_i hm;rw[Bool.not_eq_true]at hm;refine zAQ h λen l h=>?_;refine zAQ h λp k h=>?_;cases h;have j:en.op=op:=by simpa using O5 l
 obtain⟨h1,h2,h3⟩:=HD R ok k;obtain⟨m,d,g⟩:=en.ok X ok.gx;rw[j]at d;exact⟨PT.imp (bV d h1 h2 hm) λ_ _ _ h=>qr g h3 h,λo=>PE.imp (cD d h1 h2 hm) λ_ _ _ h=>mL g h3 h⟩
noncomputable def IK:Expr->Bool
 |.Slice _ _ _ _=>_f
 |_=>_t
theorem XJ(h:IK b=_t):Tu b:=λo i=>by cases b<;>first|rfl|(cases h)
def tH(r:Rec)(C:Cf)(Γ:Gm)(a b:Expr):Option CE:=(MG r C Γ a b).bind λp=>_s ⟨0,p.2.Γ,jj p,Ed (two C.T.ix) (AQ [p.1.a,p.2.a])⟩
theorem mF(R:OkR r)(ok:Cok C X)(hb:IK b=_t)(h:tH r C Γ a b=_s c):PE X (.Subscript a b pos) (tE X.K Γ c.o c.Γ c.js c.f):=by refine zAQ h λp j h=>?_;cases h;obtain⟨h1,h2,h3⟩:=HD R ok j;obtain⟨k,g,d⟩:=C.T.zEq X ok.gx;exact PE.imp (oh g h1 h2 (XJ hb)) λ_ _ _ h=>DN d h3 h
noncomputable def gr{R:Type}(d:Dv)(k:Int->Option R):Option R:=match d with|.int i=>k i|_=>_n
def mN(o:Option (Ev Dv)):Ev (Option Int):=match o with
 |none=>λ_ m k=>k _n m
 |some f=>λR m k=>f R m λd g=>gr d λi=>k (_s i) g
def qT(p:Dv->Option Int->Option Int->Option Dv)(a:Ar)(lo hi:Option (Ev Dv)):Ev Dv:=match a with
 |.rf i=>λR m k=>mN lo R m λl h=>mN hi R h λu g=>(p (g.at i) l u).bind λd=>k d g
 |.ev _ _ _ f=>λR m k=>f R m λx h=>mN lo R h λl g=>mN hi R g λu j=>(p x l u).bind λd=>k d j
 |.fd _ _=>λ_ _ _=>_n
def tK(r:Rec)(C:Cf)(Γ:Gm)(o:Option Expr):Option (Option (Ev Dv)×Gm×List Nat):=match o with
 |none=>_s (_n,Γ,[])
 |some e=>(r.E C Γ e).bind λc=>_s (_s c.f,c.Γ,c.js)
def fM(K:W.Frag)(Γ Γ':Gm)(js:List Nat)(f:Ev (Option Int)):TO:=λσ H Q=>∃g m P,Rel K g H Γ m σ P/\∃(R:Type)(k:Option Int->M->Option R)(r:R),f R m k=_s r /\
 ∀b m' g' P' H',k b m'=_s r->Bm js m m'->Step g P H g' P' H'->Rel K g' H' Γ' m' σ P'->Q b H'
theorem PO.imp{e:Option Expr}{t t':TO}(h:PO X e t)(k:∀σ H Q,t' σ H Q->t σ H Q):PO X e t':=λpins s σ H Q I q=>h pins s σ H Q I (k σ H Q q)
theorem Zv(R:OkR r){e:Option Expr}{p:Option (Ev Dv)×Gm×List Nat}(ok:Cok C X)(h:tK r C Γ e=_s p):PO X e (fM X.K Γ p.2.1 p.2.2 (mN p.1)):=by
 cases e with
 |none=>
  cases h;exact PO.imp bu λσ H Q q=>by obtain⟨g,m,P,r,R,k,res,e,q⟩:=q;exact q _n m g P H e Bm.refl Step.refl r
 |some e=>
  refine zAQ h λc l h=>?_;cases h;exact PO.imp (bt (Ew (R.E ok l))) λσ H Q q=>by
   obtain⟨g,m,P,r,R,k,res,e,q⟩:=q;refine⟨g,m,P,r,R,_,res,e,λd m' g' P' Pv v H' f t s rv j n=>?_⟩;cases d<;>first|(cases f;done)|skip
   rename_i i;exact⟨i,AI rv,q (_s i) m' g' P' H' f t (s.less λ_ z=>.inl z) j⟩
def uT(r:Rec)(C:Cf)(Γ:Gm)(a:Expr)(lo hi:Option Expr):Option CE:=(IT r C Γ _t a).bind λx=>(tK r C x.Γ lo).bind λl=>(tK r C l.2.1 hi).bind λu=>if Ga x.a u.2.1 then _s ⟨1,u.2.1,x.js++(l.2.2++u.2.2),qT C.T.sl x.a l.1 u.1⟩ else _n
theorem iU{K:W.Frag}{Γ j N Γ':Gm}{L y t:List Nat}{p:Dv->Option Int->Option Int->Option Dv}{rr:V->Option Int->Option Int->Hp->VK->Prop}(hp:∀lo hi,AL K (one λd=>p d lo hi) 1 (mX λx H Q=>rr x lo hi H Q)){a:Ar}{lo hi:Option (Ev Dv)}
    (ha:∀{as Γ' js},AF j as Γ' js->Ga a Γ'=_t->AF Γ (a::as) Γ' (L++js)) (hs:Ga a Γ'=_t) {σ:St} {H:Hp} {Q:VK}
    (h:tE K Γ 1 Γ' (L++(y++t)) (qT p a lo hi) σ H Q):tu rr (QT K a) (fM K j N y (mN lo)) (fM K N Γ' t (mN hi)) σ H Q:=by
  obtain⟨g,m,P,r,R,k,res,e,q⟩:=h;have fin:∀{x:Dv}{l u:Option Int}{J:M}{D:G}{P3:Fp}{I:Hp}{v:V}{o:Nat}{Px:Fp},(p x l u).bind (λd=>k d J)=_s res->Bm (L++(y++t)) m J->Step g P H D P3 I->Rel K D I Γ' J σ P3->o<=1->Rep K D I o x v Px->rr v l u I Q:=fun{x l u J D P3 I v o Px} hk ag s U hlo rx=>by refine zAQ hk λd e1 Z=>?_;refine hp l u D I [x] [v] d Q U.zd (by unfold RA;exact⟨v,[],o,Px,rfl,hlo,rx,by unfold RA;rfl⟩) e1 λw H4 nw=>?_;obtain⟨Pv,s2,h1,n,n2⟩:=Ad.go s U nw;exact q d J D P3 Pv w H4 Z ag s2 h1 n n2
  cases a with
  |fd i f=>cases e
  |rf i=>
    have c0:=ha (as:=[]) (Γ':=j) (js:=[]) EA;have hs':=hs
    -- the slot is set ahead
    have O:(∃o,Γ[i]?=_s (_s o))/\j=Γ/\L=[]:=by have:=ha (as:=[.ev j Γ' (y++t) (λ_ m k=>k .non m)]) (Γ':=Γ') (js:=(y++t)++[]) (by unfold AF;exact⟨rfl,[],rfl,EA⟩) hs;unfold AF at this;refine⟨this.1,?_⟩;obtain⟨_,_,c⟩:=this;unfold AF at c;refine⟨c.1,?_⟩;obtain⟨_,js2,e,c⟩:=c;unfold AF at c;rw[c.2]at e;have l:(L++((y++t)++[])).length=((y++t)++[]).length:=congrArg W8 e;simp at l;exact l
    obtain⟨⟨o0,O⟩,rfl,rfl⟩:=O;obtain⟨v0,P0,T,rv0,_⟩:=r.see O;refine⟨v0,T,g,m,P,r,R,_,res,e,λl m1 g1 P1 H1 B F s1 Y=>⟨g1,m1,P1,Y,R,_,res,B,λu m2 g2 P2 H2 A E s2 n=>?_⟩⟩;obtain⟨o1,hl1,h1⟩:=Ho hs;obtain⟨v1,Px,S,rv1,_⟩:=n.see h1;rw[T]at S;cases S;exact fin A (F.trans E) (s1.trans s2) n hl1 rv1
  |ev Γa Γb ja f=>
    have O:Γa=Γ/\Γb=j/\L=ja:=by have:=ha (as:=[.ev j j [] (λ_ m k=>k .non m)]) (Γ':=j) (js:=[]) (by unfold AF;exact⟨rfl,[],rfl,EA⟩) rfl;unfold AF at this;obtain⟨e1,js2,Z,c⟩:=this;unfold AF at c;obtain⟨e3,js3,e4,c⟩:=c;unfold AF at c;rw[c.2]at e4;subst e4;simp at Z;exact⟨e1,e3.symm,Z⟩
    obtain⟨rfl,rfl,rfl⟩:=O;refine⟨g,m,P,r,R,_,res,e,λx m1 g1 P1 Pv v H1 B F s1 rv Y n1=>⟨g1,m1,P1,Y,R,_,res,B,λl m2 g2 P2 H2 A E s2 n=>⟨g2,m2,P2,n,R,_,res,A,λu J D P3 I hk3 ag3 s3 U=>?_⟩⟩⟩;exact fin hk3 (F.trans (E.trans ag3)) (((s1.less λ_ z=>.inl z).trans s2).trans s3) U (by decide:0<=1) ((rv.z.held s2 Y.zAR λ_ z=>z.elim).held s3 n.zAR λ_ z=>z.elim)
theorem lV(R:OkR r){lo hi:Option Expr}{j:Pos}(ok:Cok C X)(h:uT r C Γ a lo hi=_s c):PE X (.Subscript a (.Slice lo hi _n j) pos) (tE X.K Γ c.o c.Γ c.js c.f):=by refine zAQ h λx n h=>?_;refine zAQ h λl m h=>?_;refine zAQ h λu k h=>?_;split at h;rename_i hs;cases h;obtain⟨h1,_,h2⟩:=EB R ok n;obtain⟨p,g,d⟩:=C.T.zEf X ok.gx;exact PE.imp (XT g h1 (Zv R ok m) (Zv R ok k)) λ_ _ _ h=>iU d h2 hs h;cases h
def qe(r:Rec)(C:Cf)(Γ:Gm)(es:List Expr):Option CE:=(r.A C Γ [] es).bind λc=>_s ⟨1,c.Γ,c.js,TR .tup (AQ c.as)⟩
def qj(r:Rec)(C:Cf)(Γ:Gm)(es:List Expr):Option CE:=(r.A C Γ [] es).bind λc=>_s ⟨1,c.Γ,c.js,TR .lst (AQ c.as)⟩
def Yk:Ev Dv:=Ox (.dct [] [])
theorem Ad.dct{K:W.Frag}{g:G}{H:Hp}{p:B8}(zd:Zd g H)(d:H p=_n):Ad K g H 1 (.dct [] []) (.ref p) (upd H p (.dK [])):=by have f:=CU d (.dK []);refine⟨f,λb=>b=p,?_,λa q=>q▸d⟩;unfold Rep;exact⟨p,[],rfl,AE,(λz=>by cases z),(λ_ z=>zd p z d),⟨rfl,nop,AA.nil⟩,λb=>⟨λz=>⟨by decide,z⟩,λz=>z.2⟩⟩
theorem oC:PE X (.Dict [] [] pos) (tE X.K Γ 1 Γ [] Yk):=PE.imp Xb λσ H Q q=>by obtain⟨g,m,P,r,R,k,res,e,q⟩:=q;intro p h;obtain⟨Pv,s2,h1,d,f⟩:=Ad.go Step.refl r (Ad.dct r.zd h);exact q _ m g P Pv _ _ e Bm.refl s2 h1 d f
theorem de(R:OkR r){d:Nat}(ok:Cok C X)(h:qe r C Γ es=_s c):PE X (.Tuple es d pos) (tE X.K Γ c.o c.Γ c.js c.f):=by refine zAQ h λx g h=>?_;cases h;obtain⟨l,k,_,_,j⟩:=R.A ok g;exact nz l k (j rfl)
theorem eA(R:OkR r)(ok:Cok C X)(h:qj r C Γ es=_s c):PE X (.List es pos) (tE X.K Γ c.o c.Γ c.js c.f):=by refine zAQ h λx d h=>?_;cases h;obtain⟨k,j,_,_,g⟩:=R.A ok d;exact oB k j (g rfl)
def Bu:Gm->Gm->Gm
 |some a::x,_s b::y=>_s (if a==b then a else 0)::Bu x y
 |_::x,_::y=>_n::Bu x y
 |_,_=>[]
def qR(t:Dv->Option Bool)(d:Ev (List Dv)):Ev Bool:=rV (one t) d
def lT(r:Rec)(C:Cf)(Γ:Gm)(a:Expr):Option CT:=(Vk r C Γ a).bind λx=>_s ⟨x.Γ,x.js++[],qR C.T.tru (AQ [x.a])⟩
noncomputable def Sx:Expr->Bool
 |.UnaryOp .Not _ _=>_f
 |.BoolOp _ _ _=>_f
 |.IfExp _ _ _ _=>_f
 |.Compare _ _ _ _=>_f
 |_=>_t
theorem df(R:OkR r){c:CT}(ok:Cok C X)(hv:Sx a=_t)(h:lT r C Γ a=_s c):PT X a (tT X.K Γ c.Γ c.js c.f):=by
  refine zAQ h λx j h=>?_;cases h;obtain⟨h1,h2⟩:=Iy R ok j;refine PT.imp (Wy h1 λp=>?_) λσ H Q h=>?_;cases a<;>first|rfl|(cases hv;done)|skip
  rename_i op b pos;cases op<;>first|rfl|(cases hv;done)
  obtain⟨g,m,P,rl,V,k,res,e,q⟩:=h;have t:Bd X.K [x.a] σ H λvs n=>∃w,vs=[w]/\∃b,aG X.K w n b/\Q b n:=by refine AM [x.a] rl h2 e λds m' g' P' vs n J M s ar u=>?_;refine zAQ J λb j L=>?_;unfold one at j;split at j;rename_i d;have ra:=ar.ra u;unfold RA at ra;obtain⟨w,O,o,W,rfl,_,h3,h4⟩:=ra;unfold RA at h4;subst h4;exact⟨w,rfl,b,C.T.zEZ _ _ _ _ _ _ _ _ h3 j,q b m' g' P' n L M s u⟩;cases j
  revert t
  cases x.a with|ev A y S U=>rintro⟨g,m,P,r,R,k,res,e,q⟩;refine⟨g,m,P,r,R,k,res,e,λd m' g' P' Pv v H' h1 h2 h3 h4 h5 h6=>?_⟩;obtain⟨w,l,z⟩:=q d m' g' P' Pv v H' h1 h2 h3 h4 h5 h6;cases l;exact z|rf i=>rintro⟨v,e,w,l,z⟩;cases l;exact⟨v,e,z⟩|fd i f=>rintro⟨v,e,a,N,dx,fs,B,I,G,F,E,D,w,l,z⟩;cases l;exact⟨v,e,a,N,dx,fs,B,I,G,F,E,D,z⟩
def lh(t:CT):CT:=⟨t.Γ,t.js,gT t.f⟩
def tL(a b:CT):CT:=let Γ':=Bu a.Γ b.Γ;let js:=a.js++b.js;⟨Γ',js,VD (Bl Γ' js) (Ln a.f b.f λ_ m k=>k _f m)⟩
def uv(a b:CT):CT:=let Γ':=Bu a.Γ b.Γ;let js:=a.js++b.js;⟨Γ',js,VD (Bl Γ' js) (Ln a.f (λ_ m k=>k _t m) b.f)⟩
theorem oU{op:BoolOp}{vs:List Expr}{t:TT}(h:PT X (.BoolOp op vs pos) t):PW X (.BoolOp op vs pos) t:=λd pins s σ H Q I q=>h pins s σ H Q I q
def fS(r:Rec)(C:Cf)(Γ:Gm)(op:BoolOp)(vs:List Expr)(pos:Pos):Option CT:=match vs with
 |[]=>_n
 |[a]=>r.T C Γ a
 |a::b::vs=>(r.T C Γ a).bind λx=>(r.T C x.Γ (.BoolOp op (b::vs) pos)).bind λy=>if Cd (Bu x.Γ y.Γ) x.Γ&&Cd (Bu x.Γ y.Γ) y.Γ then _s (match op with|.And=>tL x y|.Or=>uv x y)else _n
theorem WU(R:OkR r){op:BoolOp}{vs:List Expr}{c:CT}(ok:Cok C X)(h:fS r C Γ op vs pos=_s c):PT X (.BoolOp op vs pos) (tT X.K Γ c.Γ c.js c.f):=by
 match vs,h with
 |[],h=>cases h
 |[a],h=>
  cases op with|And=>exact PW.pt (bT (R.T ok h))|Or=>exact PW.pt (jC (R.T ok h))
 |a::b::vs,h=>
  refine zAQ h λx k h=>?_;refine zAQ h λy j h=>?_;split at h;rename_i d;rw[A3]at d;have ha:=R.T ok k;have hb:=oU (R.T ok j);have g:∀(i o:Nat),(Bu x.Γ y.Γ)[i]?=_s (_s o)->i∈Bl (Bu x.Γ y.Γ) (x.js++y.js)\/i∉x.js++y.js:=λi o h=>Br h;cases op with|And=>cases h;exact PW.pt (PW.imp (jD ha (PW.imp hb λ_ _ _ h=>Ry d.2 (λ_ z=>z) h)) λσ H Q h=>iJ (Su g (λi z=>BW z) h) d.1)|Or=>cases h;exact PW.pt (PW.imp (oT ha (PW.imp hb λ_ _ _ h=>Ry d.2 (λ_ z=>z) h)) λσ H Q h=>nL (Su g (λi z=>BW z) h) d.1)
  cases h
def Vf(r:Rec)(C:Cf)(Γ:Gm)(a:Expr)(op:zR)(b:Expr)(d:zR)(c:Expr):Option CT:=_n
theorem To(R:OkR r){c:Expr}{op d:zR}{t:CT}(ok:Cok C X)(h:Vf r C Γ a op b d c=_s t):PT X (.Compare a [op,d] [b,c] pos) (tT X.K Γ t.Γ t.js t.f)/\∀o,PE X (.Compare a [op,d] [b,c] pos) (tE X.K Γ o t.Γ t.js (dJ t.f)):=by cases h
def fP(r:Rec)(C:Cf)(Γ:Gm)(e:Expr):Option CT:=match e with
 |.Compare a [op] [b] _=>Rj r C Γ a op b
 |.Compare a [op,d] [b,c] _=>Vf r C Γ a op b d c
 |.UnaryOp .Not x _=>(r.T C Γ x).map lh
 |.BoolOp op vs pos=>fS r C Γ op vs pos
 |e=>if Sx e then lT r C Γ e else _n
theorem WN(R:OkR r){c:CT}(ok:Cok C X)(h:fP r C Γ e=_s c):PT X e (tT X.K Γ c.Γ c.js c.f):=by
 have val:Sx e=_t->(if Sx e then lT r C Γ e else _n)=_s c->PT X e (tT X.K Γ c.Γ c.js c.f):=λhv h=>by rw[if_pos hv]at h;exact df R ok hv h
 match e,h with
 |.Compare a ops bs pos,h=>
  match ops,bs,h with
  |[op],[b],h=>exact(Tn R ok h).1
  |[op,g],[b,c],h=>exact(To R ok h).1
  |[],_,h=>cases h
  |[_],[],h=>cases h
  |[_],_::_::_,h=>cases h
  |[_,_],[],h=>cases h
  |[_,_],[_],h=>cases h
  |[_,_],_::_::_::_,h=>cases h
  |_::_::_::_,_,h=>cases h
 |.UnaryOp op x pos,h=>
  cases op with
  |Not=>
   cases q:r.T C Γ x with|none=>replace h:(r.T C Γ x).map lh=_s c:=h;rw[q]at h;cases h|some t=>replace h:(r.T C Γ x).map lh=_s c:=h;rw[q]at h;cases h;exact PT.imp (jG (R.T ok q)) λ_ _ _ h=>iI h
  |_=>exact val rfl h
 |.BoolOp op vs pos,h=>exact WU R ok h
 |.IfExp a b j d,h=>cases h
 |.NamedExpr ..,h|.BinOp ..,h|.Lambda ..,h|.Dict ..,h|.Set ..,h|.ListComp ..,h|.SetComp ..,h|.DictComp ..,h|.GeneratorExp ..,h|.Await ..,h|.Yield ..,h|.YieldFrom ..,h|.Call ..,h|.FormattedValue ..,h|.JoinedStr ..,h|.Constant ..,h|.Attribute ..,h|.Subscript ..,h|.Starred ..,h|.Name ..,h|.List ..,h|.Tuple ..,h|.Slice ..,h=>exact val rfl h
noncomputable def rZ{R:Type}(d:Dv)(k:Bool->Option R):Option R:=match d with|.bl b=>k b|_=>_n
theorem Kb{R:Type}{d:Dv}{k:Bool->Option R}{r:R}(h:rZ d k=_s r):∃b,d=.bl b/\k b=_s r:=by cases d<;>first|(cases h;done)|exact⟨_,rfl,h⟩
def Yv(f g:Ev Dv):Ev Dv:=λR m k=>f R m λd h=>rZ d λb=>if b=_t then g R h k else k (.bl _f) h
def gS(f g:Ev Dv):Ev Dv:=λR m k=>f R m λd h=>rZ d λb=>if b=_t then k (.bl _t) h else g R h k
def Yj(f:Ev Dv):Ev Dv:=λR m k=>f R m λd g=>rZ d λb=>k (.bl (!b)) g
section
variable{K:W.Frag}{Γ Γ' Γ2:Gm}{js js2:List Nat}{σ:St}{H:Hp}{f u:Ev Dv}{Q:VK}
theorem iM(L:Cd Γ' Γ2=_t)(h:tE K Γ 0 Γ' (js++js2) (Yv f u) σ H Q):fN (tE K Γ 0 Γ2 js f) (tE K Γ2 0 Γ' js2 u) σ H Q:=by
 obtain⟨g,m,P,r,R,k,res,e,q⟩:=h;refine⟨g,m,P,r,R,_,res,e,λd D E P1 Pv v G j F s rv B n=>?_⟩;replace j:=Kb j;obtain⟨b,rfl,j⟩:=j;have s1:Step _ _ _ E P1 G:=s.less λ_ z=>.inl z;refine⟨b,Eu rv,?_⟩;cases b with|true=>rw[if_pos rfl]at j ⊢;exact⟨E,D,P1,B,R,k,res,j,λd J y P2 M w N t A s2 l p I=>q d J y P2 M w N t (F.trans A) (s1.trans s2) l p I⟩|false=>rw[if_neg D2]at j ⊢;obtain⟨y,P2,s2,p⟩:=B.weaken L;exact q _ D y P2 nop _ G j (F.mono λ_ z=>C7 _ z) ((s1.trans s2).less λ_ z=>z.elim id E7) Dr p λ_ _ z=>z
theorem nQ(L:Cd Γ' Γ2=_t)(h:tE K Γ 0 Γ' (js++js2) (gS f u) σ H Q):nN (tE K Γ 0 Γ2 js f) (tE K Γ2 0 Γ' js2 u) σ H Q:=by
 obtain⟨g,m,P,r,R,k,res,e,q⟩:=h;refine⟨g,m,P,r,R,_,res,e,λd D E P1 Pv v G j F s rv B n=>?_⟩;replace j:=Kb j;obtain⟨b,rfl,j⟩:=j;have s1:Step _ _ _ E P1 G:=s.less λ_ z=>.inl z;refine⟨b,Eu rv,?_⟩;cases b with|false=>rw[if_neg D2]at j ⊢;exact⟨E,D,P1,B,R,k,res,j,λd J y P2 M w N t A s2 l p I=>q d J y P2 M w N t (F.trans A) (s1.trans s2) l p I⟩|true=>rw[if_pos rfl]at j ⊢;obtain⟨y,P2,s2,p⟩:=B.weaken L;exact q _ D y P2 nop _ G j (F.mono λ_ z=>C7 _ z) ((s1.trans s2).less λ_ z=>z.elim id E7) Dr p λ_ _ z=>z
theorem iL(h:tE K Γ 0 Γ' js (Yj f) σ H Q):fI (tE K Γ 0 Γ' js f) σ H Q:=by obtain⟨g,m,P,r,R,k,res,e,q⟩:=h;refine⟨g,m,P,r,R,_,res,e,λd p t P1 Pv v y j w s rv l n=>?_⟩;replace j:=Kb j;obtain⟨b,rfl,j⟩:=j;exact⟨b,Eu rv,q _ p t P1 nop _ y j w (s.less λ_ z=>z.elim .inl E7) Dr l λ_ _ z=>z⟩
end
def qg(r:Rec)(C:Cf)(Γ:Gm)(x:Expr):Option CE:=(r.E C Γ x).bind λc=>_s ⟨0,c.Γ,c.js,Yj c.f⟩
def WV(r:Rec)(C:Cf)(Γ:Gm)(op:BoolOp)(vs:List Expr)(pos:Pos):Option CE:=match vs with
 |[]=>_n
 |[a]=>r.E C Γ a
 |a::b::vs=>(r.E C Γ a).bind λx=>(r.E C x.Γ (.BoolOp op (b::vs) pos)).bind λy=>let Γ':=Bu x.Γ y.Γ;let js:=x.js++y.js;if Cd Γ' x.Γ&&Cd Γ' y.Γ then _s ⟨0,Γ',js,VD (Bl Γ' js) (match op with|.And=>Yv x.f y.f|.Or=>gS x.f y.f)⟩ else _n
theorem UF(R:OkR r){op:BoolOp}{vs:List Expr}(ok:Cok C X)(h:WV r C Γ op vs pos=_s c):PE X (.BoolOp op vs pos) (tE X.K Γ c.o c.Γ c.js c.f):=by
 match vs,h with
 |[],h=>cases h
 |[a],h=>exact jX (R.E ok h)
 |a::b::vs,h=>
  refine zAQ h λx k h=>?_;refine zAQ h λy j h=>?_;simp only at h;split at h;rename_i d;rw[A3]at d;have ha:=Ew (R.E ok k);have hb:=Ew (R.E ok j);have g:∀(i o:Nat),(Bu x.Γ y.Γ)[i]?=_s (_s o)->i∈Bl (Bu x.Γ y.Γ) (x.js++y.js)\/i∉x.js++y.js:=λi o h=>Br h;cases op with|And=>cases h;exact PE.imp (je ha (PE.imp hb λ_ _ _ h=>Ih d.2 (λ_ z=>z) h)) λσ H Q h=>iM d.1 (Mm g (λi z=>BW z) h)|Or=>cases h;exact PE.imp (oZ ha (PE.imp hb λ_ _ _ h=>Ih d.2 (λ_ z=>z) h)) λσ H Q h=>nQ d.1 (Mm g (λi z=>BW z) h)
  cases h
def qk(r:Rec)(C:Cf)(Γ:Gm)(c a b:Expr):Option CE:=(r.T C Γ c).bind λt=>(r.E C t.Γ a).bind λx=>(r.E C t.Γ b).bind λy=>let Γ':=Bu x.Γ y.Γ;let js:=t.js++(x.js++y.js);if Cd Γ' x.Γ&&Cd Γ' y.Γ then _s ⟨0,Γ',js,VD (Bl Γ' js) (Ln t.f x.f y.f)⟩ else _n
theorem eB(R:OkR r){c:Expr}{d:CE}(ok:Cok C X)(h:qk r C Γ c a b=_s d):PE X (.IfExp c a b pos) (tE X.K Γ d.o d.Γ d.js d.f):=by refine zAQ h λt l h=>?_;refine zAQ h λx k h=>?_;refine zAQ h λy j h=>?_;simp only at h;split at h;rename_i g;rw[A3]at g;cases h;exact PE.imp (XY (R.T ok l) (PE.imp (Ew (R.E ok k)) λ_ _ _ h=>Ih g.1 (λ_ z=>z) h) (PE.imp (Ew (R.E ok j)) λ_ _ _ h=>Ih g.2 (λ_ z=>z) h)) λσ H Q h=>nR (Mm (λi o z=>Br z) (λi z=>BW z) h);cases h
theorem Au(h:es.all BI=_t):(P9 pos (E3 es env)).any (·.1)=false:=by
 induction es with|nil=>rfl|cons e es d=>rw[K3,A3]at h;rw[AH h.1];show(_f||(P9 pos (E3 es env)).any (·.1))=_f;rw[d h.2];rfl
theorem mR(h:es.all BI=_t):(P9 pos (E3 es env)).all (λx=>!x.1)=true:=by
 induction es with|nil=>rfl|cons e es d=>rw[K3,A3]at h;rw[AH h.1];show(_t&&(P9 pos (E3 es env)).all (λx=>!x.1))=_t;rw[d h.2];rfl
def gk(r:Rec)(C:Cf)(Γ:Gm)(s:Sig)(es:List Expr):Option CE:=(r.A C Γ ((B2 es.length).map s.io.contains) es).bind λc=>if fU c.as s.io&&(es.length==s.ps.length)&&(slots c.as s.io).all (λi=>c.Γ.getD i _n==_s 1)then _s ⟨s.ro,c.Γ,c.js++slots c.as s.io,NA s c.as⟩ else _n
variable{p:Pos}
theorem Zi(R:OkR r)(ok:Cok C X)(hs:(x,s)∈C.fs/\s.cl=_n)(t:Gl X x)(n:UX x=_t)(h:gk r C Γ s es=_s c):PE X (.Call (.Name x p) es [] pos) (tE X.K Γ c.o c.Γ c.js c.f):=by
 refine zAQ h λd v h=>?_;split at h;rename_i k;simp only[A3,G4,beq_iff_eq]at k;cases h;obtain⟨y,w,u,m,_⟩:=R.A ok v;obtain⟨nd,l,j,kk,q,g,F⟩:=ok.fx hs;have run:∀{σ H Q},tE X.K Γ s.ro d.Γ (d.js++slots d.as s.io) (NA s d.as) σ H Q->rQ (spF X.K s) (Bd X.K d.as) σ H Q:=λh=>PZ w k.1.1 (u.trans k.1.2) nd l (λi hi=>BF (k.2 i hi)) h;cases es with|nil=>have e:d.as=[]:=F7 u;refine PE.imp (XZ F g q t (DO n).1) λσ H Q h=>?_;have:=run h;rw[e]at this;exact this|cons e es=>rw[K3,A3]at m;exact PE.imp (ff F g q t y (DO n).1 (AH m.1) (Au m.2)) λσ H Q h=>run h
 cases h
def gg(r:Rec)(C:Cf)(Γ:Gm)(s:Sig)(es:List Expr):Option CE:=(r.A C Γ (B6 es.length _t) es).bind λc=>if es.length==s.ps.length then _s ⟨1,c.Γ,c.js,Mz s c.as⟩ else _n
theorem Zf(R:OkR r)(ok:Cok C X)(hs:(x,s)∈C.fs/\s.cl=_n)(k:s.io=[])(t:Gl X x)(n:UX x=_t)(h:gg r C Γ s es=_s c):PE X (.Call (.Name x p) es [] pos) (tE X.K Γ c.o c.Γ c.js c.f):=by
 refine zAQ h λg v h=>?_;split at h;rename_i m;rw[beq_iff_eq]at m;cases h;obtain⟨y,w,u,l,_⟩:=R.A ok v;obtain⟨nd,_,j,kk,q,d,F⟩:=ok.fx hs;have run:∀{σ H Q},tE X.K Γ 1 g.Γ g.js (Mz s g.as) σ H Q->rQ (spF X.K s) (Bd X.K g.as) σ H Q:=λh=>VT w k (u.trans m) h;cases es with|nil=>have e:g.as=[]:=F7 u;refine PE.imp (XZ F d q t (DO n).1) λσ H Q h=>?_;have:=run h;rw[e]at this;exact this|cons e es=>rw[K3,A3]at l;exact PE.imp (ff F d q t y (DO n).1 (AH l.1) (Au l.2)) λσ H Q h=>run h
 cases h
noncomputable def YN:Expr->Bool
 |.Dict [] [] _=>_t
 |_=>_f
def gj(r:Rec)(C:Cf)(Γ:Gm)(s:Sig)(es:List Expr):Option CE:=_n
theorem Zh(R:OkR r)(ok:Cok C X)(hs:(x,s)∈C.fs/\s.cl=_n)(g:Gl X x)(d:UX x=_t)(hd:(es.getLast?.map YN).getD _f=_t)(h:gj r C Γ s es=_s c):PE X (.Call (.Name x p) es [] pos) (tE X.K Γ c.o c.Γ c.js c.f):=by cases h
noncomputable def sj:Expr->Bool
 |.Call ..=>_t
 |_=>_f
def gh(r:Rec)(C:Cf)(Γ:Gm)(s:Sig)(es:List Expr):Option CE:=_n
theorem Zg(R:OkR r)(ok:Cok C X)(hs:(x,s)∈C.fs/\s.cl=_n)(g:Gl X x)(d:UX x=_t)(h:gh r C Γ s es=_s c):PE X (.Call (.Name x p) es [] pos) (tE X.K Γ c.o c.Γ c.js c.f):=by cases h
def la(r:Rec)(C:Cf)(Γ:Gm)(s:Sig)(es:List Expr):Option CE:=if s.nb&&s.io.isEmpty then gg r C Γ s es else if(es.getLast?.map YN).getD _f&&s.io.contains (es.length-1)then gj r C Γ s es else if(es.head?.map sj).getD _f&&s.io.contains 0 then gh r C Γ s es else gk r C Γ s es
theorem du(R:OkR r)(ok:Cok C X)(hs:(x,s)∈C.fs/\s.cl=_n)(g:Gl X x)(d:UX x=_t)(h:la r C Γ s es=_s c):PE X (.Call (.Name x p) es [] pos) (tE X.K Γ c.o c.Γ c.js c.f):=by unfold la at h;split at h;rename_i z;rw[A3,j6]at z;exact Zf R ok hs z.2 g d h;split at h;rename_i z;rw[A3]at z;exact Zh R ok hs g d z.1 h;split at h;exact Zg R ok hs g d h;exact Zi R ok hs g d h
def Ze(r:Rec)(C:Cf)(Γ:Gm)(en:zDP)(es:List Expr):Option CE:=if es.isEmpty then _n else(r.A C Γ (B6 es.length _t) es).bind λc=>_s ⟨en.o,c.Γ,c.js,Ed en.f (AQ c.as)⟩
theorem Zc(R:OkR r){en:zDP}(ok:Cok C X)(hb:en.x∈C.bl)(l:Gl X en.x)(t:UX en.x=_t)(h:Ze r C Γ en es=_s c):PE X (.Call (.Name en.x p) es [] pos) (tE X.K Γ c.o c.Γ c.js c.f):=by
 cases es with
 |nil=>cases h
 |cons e es=>
  unfold Ze at h;rw[if_neg `s]at h;refine zAQ h λw u h=>?_;cases h;obtain⟨q,m,y,g,_⟩:=R.A ok u;rw[K3,A3]at g;obtain⟨v,k,d⟩:=en.ok X ok.gx;have n:=DO t;rcases d with⟨id,d,j⟩|⟨T,d,j⟩
  exact PE.imp (Xc d l (ok.bl _ hb) j q n.2.2 n.1 (AH g.1) (Au g.2)) λ_ _ _ h=>DN k m h;exact PE.imp (UU d l (ok.bl _ hb) j q n.2.2 n.1 (AH g.1) (Au g.2)) λ_ _ _ h=>DN k m h
noncomputable def Rn:Expr->Bool
 |.Call _ _ _ _=>_f
 |_=>_t
theorem Da{name:Str}{w:Sem _v}(h:Rn o=_t):N8 o name env w=w:=by cases o<;>first|rfl|(cases h)
def lu(r:Rec)(C:Cf)(Γ:Gm)(en:zDN)(i:Nat)(es:List Expr):Option CE:=if es.length < 29&&(Γ.getD i _n).isSome then(r.A C Γ [] es).bind λc=>if c.Γ.getD i _n==_s 1 then _s ⟨0,c.Γ,c.js++[i],Ym en.T i en.p (AQ c.as)⟩ else _n else _n
theorem GS(h:(e::es).all BI=_t)(hl:(e::es).length < 29):((P9 pos (E3 (e::es) env)).all (λx=>!x.1)&&(xG pos (m5 [] env)).all (λx=>x.1.isSome)
     &&decide ((e::es).length+([]:List vY).length+(if([]:List vY).isEmpty then 0 else 1) < 30))=true:=by
  rw[mR h];show(_t&&_t&&decide _)=_t;simp only[M5,vp,decide_eq_true_eq,O4,j7,if_true];omega
variable{apos:Pos}
theorem dy(R:OkR r){en:zDN}(ok:Cok C X)(hi:RB C o=_s i)(g:(apos.endLine==pos.line)=_t)(h:lu r C Γ en i es=_s c):PE X (.Call (.Attribute o en.x apos) es [] pos) (tE X.K Γ c.o c.Γ c.js c.f):=by
 unfold lu at h;split at h;rename_i l;simp only[A3,decide_eq_true_eq]at l;refine zAQ h λj z h=>?_;split at h;rename_i h1;cases h;obtain⟨F,E,D,k,B⟩:=R.A ok z;obtain⟨id,w,u,t,q,n,y⟩:=en.ok X ok.gx;have v:=Cc ok hi;have d:N8 o en.x X.env (N2 o X.env)=N2 o X.env:=Da (by cases o<;>first|rfl|(cases hi));have run:∀{σ H Q},tE X.K Γ 0 j.Γ (j.js++[i]) (Ym en.T i en.p (AQ j.as)) σ H Q->aO X.K en.T w (EI i) (Bd X.K j.as) σ H Q:=λh=>cW y en.hT E (B rfl) (getD_some l.2) (BF (beq_iff_eq.mp h1)) h;cases es with
 |nil=>have e:j.as=[]:=F7 D;refine PE.imp (Ql u t q n v d g) λσ H Q h=>?_;have:=run h;rw[e]at this;exact this
 |cons e es=>have m:=k;rw[K3,A3]at k;exact PE.imp (LS u t q n v F d (GS m l.1) g (AH k.1) (Au k.2)) λσ H Q h=>run h
 cases h;cases h
def qi(r:Rec)(C:Cf)(Γ:Gm)(en:zCh)(o:Expr)(es:List Expr):Option CE:=if es.length < 29&&Rn o then(IT r C Γ _t o).bind λx=>(r.A C x.Γ (B6 es.length _t) es).bind λc=>if Ga x.a c.Γ then _s ⟨en.o,c.Γ,x.js++c.js,Yn en.T x.a c.as en.f⟩ else _n else _n
theorem Rf(R:OkR r){en:zCh}(ok:Cok C X)(g:(apos.endLine==pos.line)=_t)(J:en.n=es.length)(h:qi r C Γ en o es=_s c):PE X (.Call (.Attribute o en.x apos) es [] pos) (tE X.K Γ c.o c.Γ c.js c.f):=by
 unfold qi at h;split at h;rename_i l;simp only[A3,decide_eq_true_eq]at l;refine zAQ h λx E h=>?_;refine zAQ h λj D h=>?_;split at h;rename_i h1;cases h;obtain⟨w,_,B⟩:=EB R ok E;obtain⟨I,G,F,k,L⟩:=R.A ok D;obtain⟨id,y,v,u,t,q,z⟩:=en.ok X ok.gx;have d:N8 o en.x X.env (N2 o X.env)=N2 o X.env:=Da l.2;have hT:=en.hT;have run:∀{σ H Q},tE X.K Γ en.o j.Γ (x.js++j.js) (Yn en.T x.a j.as en.f) σ H Q->aO X.K en.T y (QT X.K x.a) (Bd X.K j.as) σ H Q:=λh=>kO z hT (B G h1) h;cases es with|nil=>have e:j.as=[]:=F7 F;refine PE.imp (Ql v u t q w d g) λσ H Q h=>?_;have:=run h;rw[e]at this;exact this|cons e es=>have m:=k;rw[K3,A3]at k;exact PE.imp (LS v u t q w I d (GS m l.1) g (AH k.1) (Au k.2)) λσ H Q h=>run h
 cases h;cases h
noncomputable def qd(f d:CE):Option CE:=_n
theorem dc{g d:CE}(h1:PE X e (tE X.K Γ g.o g.Γ g.js g.f))(h2:PE X e (tE X.K Γ d.o d.Γ d.js d.f))(h:qd g d=_s c):PE X e (tE X.K Γ c.o c.Γ c.js c.f):=by cases h
def Zm(r:Rec)(C:Cf)(Γ:Gm)(en:zDN)(i:Nat)(f:Str)(es:List Expr):Option CE:=if es.length < 29&&(Γ.getD i _n).isSome then(r.A C Γ [] es).bind λc=>if c.Γ.getD i _n==_s 1 then _s ⟨0,c.Γ,c.js++[i],Mw en.T i f en.p (AQ c.as)⟩ else _n else _n
theorem Zl(R:OkR r){en:zDN}{q:Nat×Str}(ok:Cok C X)(hi:aS C o=_s q)(g:(apos.endLine==pos.line)=_t)(h:Zm r C Γ en q.1 q.2 es=_s c):PE X (.Call (.Attribute o en.x apos) es [] pos) (tE X.K Γ c.o c.Γ c.js c.f):=by
 unfold Zm at h;split at h;rename_i l;simp only[A3,decide_eq_true_eq]at l;refine zAQ h λj B h=>?_;split at h;rename_i h1;cases h;obtain⟨G,F,E,k,D⟩:=R.A ok B;obtain⟨id,y,v,u,t,n,z⟩:=en.ok X ok.gx;have w:=KH ok hi;have d:N8 o en.x X.env (N2 o X.env)=N2 o X.env:=Da (by cases o<;>first|rfl|(cases hi));have run:∀{σ H Q},tE X.K Γ 0 j.Γ (j.js++[q.1]) (Mw en.T q.1 q.2 en.p (AQ j.as)) σ H Q->aO X.K en.T y (QS X.K (EI q.1) q.2) (Bd X.K j.as) σ H Q:=λh=>Xm z en.hT F (D rfl) (getD_some l.2) (BF (beq_iff_eq.mp h1)) h;cases es with
 |nil=>have e:j.as=[]:=F7 E;refine PE.imp (Ql v u t n w d g) λσ H Q h=>?_;have:=run h;rw[e]at this;exact this
 |cons e es=>have m:=k;rw[K3,A3]at k;exact PE.imp (LS v u t n w G d (GS m l.1) g (AH k.1) (Au k.2)) λσ H Q h=>run h
 cases h;cases h
def Zo(r:Rec)(C:Cf)(Γ:Gm)(d:Str)(s:Sig)(i:Nat)(es:List Expr):Option CE:=if es.length < 29&&(Γ.getD i _n).isSome then(r.A C Γ ((B2 es.length).map λj=>s.io.contains (j+1)) es).bind λc=>if low c.Γ i&&fU (.rf i::c.as) s.io&&(es.length+1==s.ps.length)&&(slots (.rf i::c.as) s.io).all (λj=>c.Γ.getD j _n==_s 1)then _s ⟨s.ro,c.Γ,c.js++slots (.rf i::c.as) s.io,Mx s (s.cl.getD "") d i c.as⟩ else _n else _n
theorem Ly{name:Str}{apos pos:Pos}{args:List Expr}(h:N8 o name env (N2 o env)=N2 o env)
    (g:methodCallForm (args.length+([]:List vY).length) (P9 pos (E3 args env)) (xG pos (m5 [] env))=_t) (j:(apos.endLine==pos.line)=_t) :
    N2 (.Call (.Attribute o name apos) args [] pos) env=(do
      let ov <- N2 o env
      yF apos.atName
      let (f,first) <- p8 [ov] (xT ov name (do return (<- importBound o env).getD _t))
      callWith pos f first (P9 pos (E3 args env)) (xG pos (m5 [] env))):=by
  have d:methodCallPos _t o env apos pos=pure pos:=by unfold methodCallPos;simp[j]
  rw[arm_eval_Call,h];unfold methodCall;rw[g,d];rfl
theorem Me(h:X.xe=λ_ _=>False):Dj Rw X E0:=λ_ _ _ _ _ _ _ z=>z.elim
theorem Zn(R:OkR r){g cl:Str}(ok:Cok C X)(hs:(g,s)∈C.fs)(n:s.cl=_s cl)(hi:RB C o=_s i)(k:(apos.endLine==pos.line)=_t)(h:Zo r C Γ g s i es=_s c):PE X (.Call (.Attribute o g apos) es [] pos) (tE X.K Γ c.o c.Γ c.js c.f):=by
 obtain⟨z,po,rfl⟩:∃z po,o=.Name z po:=by cases o<;>first|exact⟨_,_,rfl⟩|(cases hi)
 unfold Zo at h;split at h;rename_i q;simp only[A3,decide_eq_true_eq]at q;obtain⟨w,q⟩:=q;refine zAQ h λd M h=>?_;split at h;rename_i l;simp only[A3,G4,beq_iff_eq]at l;cases h;obtain⟨O,N,B,t,_⟩:=R.A ok M;obtain⟨nd,v,j,kk,P,u,F⟩:=ok.fs g s hs;unfold Fz at F;rw[n]at F;obtain⟨J,f,fd,L,I,G,E,D,S,_⟩:=F;have ch:AF Γ (.rf i::d.as) d.Γ d.js:=by unfold AF;exact⟨getD_some q,Ho l.1.1.1,N⟩
 have run:∀{σ H Q},tE X.K Γ s.ro d.Γ (d.js++slots (.rf i::d.as) s.io) (Mx s (s.cl.getD "") g i d.as) σ H Q->SG (EG X.K cl) g (spF X.K s) [] E0 (EI i) (Bd X.K d.as) σ H Q:=λh=>by rw[n]at h;exact Xv ch l.1.1.2 (by rw[<- l.1.2];simp[B]) nd v (λi hi=>BF (l.2 i hi)) h
 have m:zAV J X.A:=u.mono `o;cases es with|nil=>have e:d.as=[]:=F7 B;refine PE.imp (XU (Cc ok hi) D.1 E I m G .nil (Me ok.xe) (Ly rfl rfl k)) λσ H Q h=>?_;have:=run h;rw[e]at this;exact this|cons e es=>have y:=t;rw[K3,A3]at t;exact PE.imp (cA (Cc ok hi) D.1 E I m G .nil (Me ok.xe) O (AH t.1) (Au t.2) (Ly rfl (GS y w) k)) λσ H Q h=>run h
 cases h;cases h
def gn(r:Rec)(C:Cf)(Γ:Gm)(s:Sig)(x:Str)(es:List Expr):Option CE:=(r.A C Γ [] es).bind λc=>if(es.length+1==s.ps.length)&&s.io==[0]then _s ⟨1,c.Γ,c.js,RS s x C.fl c.as⟩ else _n
theorem Zp(R:OkR r)(ok:Cok C X)(hs:(("__init__" : Str),s)∈C.fs)(m:s.cl=_s x)(t:Gl X x)(q:UX x=_t)(h:gn r C Γ s x es=_s c):PE X (.Call (.Name x p) es [] pos) (tE X.K Γ c.o c.Γ c.js c.f):=by
 refine zAQ h λg G h=>?_;split at h;rename_i k;simp only[A3,beq_iff_eq]at k;cases h;obtain⟨L,J,u,n,I⟩:=R.A ok G;obtain⟨nd,E,j,kk,N,l,F⟩:=ok.fs "__init__" s hs;unfold Fz at F;rw[m]at F;obtain⟨B,f,fd,D,z,y,O,M,w,v⟩:=F;have run:∀{σ H Q},tE X.K Γ 1 g.Γ g.js (RS s x C.fl g.as) σ H Q->SH (EG X.K x) (spF X.K s) [] E0 (Bd X.K g.as) σ H Q:=λh=>Xy M k.2 (by rw[<- k.1,u]) (I rfl) J h;have d:zAV (B+1) X.A:=l.mono `o;cases es with|nil=>have e:g.as=[]:=F7 u;refine PE.imp (XW (v rfl) z d t w y .nil (Me ok.xe) (DO q).1) λσ H Q h=>?_;have:=run h;rw[e]at this;exact this|cons e es=>rw[K3,A3]at n;exact PE.imp (cB (v rfl) z d t w y .nil (Me ok.xe) L (DO q).1 (AH n.1) (Au n.2)) λσ H Q h=>run h
 cases h
def tF(r:Rec)(C:Cf)(Γ:Gm)(o:Expr)(es:List Expr):List zCh->Option CE
 |[]=>_n
 |[en]=>qi r C Γ en o es
 |en::d::_=>(qi r C Γ en o es).bind λg=>(qi r C Γ d o es).bind λf=>qd g f
def Tp(r:Rec)(C:Cf)(Γ:Gm)(f:Expr)(es:List Expr)(pos:Pos):Option CE:=match f with
  |.Name x _=>if Mo C.sc x&&UX x then(match C.fs.find? λp=>p.1==x&&p.2.cl==_n with
      |some p=>la r C Γ p.2 es
      |none=>match C.fs.find? λp=>p.1==("__init__" : Str)&&p.2.cl==_s x with
      |some p=>gn r C Γ p.2 x es
      |none=>(C.T.calls.find? λe=>e.x==x&&e.n==es.length).bind λen=>if C.bl.contains x then Ze r C Γ en es else _n)else _n
  |.Attribute o name apos=>if apos.endLine==pos.line then(match C.T.zEk.find? λe=>e.x==name&&e.n==es.length with
      |some en=>(match aS C o with
        |some q=>Zm r C Γ en q.1 q.2 es
        |none=>(RB C o).bind λi=>lu r C Γ en i es)
      |none=>match C.fs.find? λp=>p.1==name&&p.2.cl != _n with
        |some p=>(RB C o).bind λi=>Zo r C Γ name p.2 i es
        |none=>tF r C Γ o es (C.T.meths.filter λe=>e.x==name&&e.n==es.length))else _n
  |_=>_n
variable{f:Expr}
theorem Zu(R:OkR r)(ok:Cok C X)(h:Tp r C Γ f es pos=_s c):PE X (.Call f es [] pos) (tE X.K Γ c.o c.Γ c.js c.f):=by
 cases f with
 |Name x p=>simp only[Tp]at h;split at h;rename_i g;rw[A3]at g;split at h;rename_i k d;have e:=O5 d;simp only[A3,beq_iff_eq]at e;have hm:=S9 d;exact du R ok (s:=k.2) ⟨by rw[<- e.1];exact hm,e.2⟩ (CK ok g.1) g.2 h;split at h;rename_i k d;have e:=O5 d;simp only[A3,beq_iff_eq]at e;have hm:=S9 d;exact Zp R ok (s:=k.2) (by rw[<- e.1];exact hm) e.2 (CK ok g.1) g.2 h;replace h:=zAj h;obtain⟨en,j,h⟩:=h;split at h;rename_i hb;have e:=O5 j;simp only[A3,beq_iff_eq]at e;obtain⟨rfl,_⟩:=e;exact Zc R ok (D1.mp hb) (CK ok g.1) g.2 h;cases h;cases h
 |Attribute o name apos=>
  simp only[Tp]at h;split at h;rename_i hl;split at h;rename_i en he;have e:=O5 he;simp only[A3,beq_iff_eq]at e;obtain⟨rfl,_⟩:=e;split at h;rename_i q A;exact Zl R ok A hl h;refine zAQ h λi j h=>?_;exact dy R ok j hl h;split at h;rename_i k d;have e:=O5 d;simp only[A3,beq_iff_eq,bne_iff_ne,ne_eq]at e;obtain⟨cl,l⟩:=Option.ne_none_iff_exists'.mp e.2;have hm:=S9 d;refine zAQ h λi j h=>?_;exact Zn R ok (s:=k.2) (by rw[<- e.1];exact hm) l j hl h;have hm:∀en∈C.T.meths.filter λe=>e.x==name&&e.n==es.length,en.x=name/\en.n=es.length:=λen he=>by have:=(T2.mp he).2;simp only[A3,beq_iff_eq]at this;exact this
  revert h hm
  generalize (C.T.meths.filter λe=>e.x==name&&e.n==es.length)=L;intro h hm
  match L,hm,h with
  |[],hm,h=>cases h
  |[en],hm,h=>obtain⟨rfl,t⟩:=hm en B1;exact Rf R ok hl t h
  |en::m::_,hm,h=>refine zAQ h λD j h=>?_;refine zAQ h λB t h=>?_;obtain⟨z,y⟩:=hm en B1;obtain⟨w,v⟩:=hm m (A9 _ B1);have p1:=Rf (pos:=pos) (apos:=apos) R ok hl y j;have u:=Rf (pos:=pos) (apos:=apos) R ok hl v t;rw[z]at p1;rw[w]at u;exact dc p1 u h
  cases h
 |_=>cases h
theorem yno.{u}{α:Type u}{x:α}{P:Prop}(h:(_n:Option α)=_s x):P:=by cases h
noncomputable def rK:Expr->Option Str
 |.Name x _=>_s x
 |_=>_n
theorem QI(h:rK e=_s x):∃p,e=.Name x p:=by
 cases e with|Name y p=>exact⟨p,by rw[C5 h]⟩|_=>exact yno h
noncomputable def sH:Expr->Option (Expr×List Expr×Pos)
 |.Call f es ks p=>bif ks.isEmpty then _s (f,es,p)else _n
 |_=>_n
theorem Vu{q:Expr×List Expr×Pos}(h:sH e=_s q):e=.Call q.1 q.2.1 [] q.2.2:=by
 cases e with
 |Call f es ks p=>
  cases ks with|nil=>rw[<- C5 h]|cons _ _=>exact yno h
 |_=>exact yno h
noncomputable def sI:Expr->Option (Expr×Str×Pos)
 |.Attribute o n p=>_s (o,n,p)
 |_=>_n
theorem Vv{q:Expr×Str×Pos}(h:sI e=_s q):e=.Attribute q.1 q.2.1 q.2.2:=by
 cases e with|Attribute o n p=>rw[<- C5 h]|_=>exact yno h
noncomputable def y1.{u}{α:Type u}(l:List α):Option α:=bif l.length==1 then l.head? else _n
theorem zBn.{u}{α:Type u}{l:List α}{a:α}(h:y1 l=_s a):l=[a]:=by
 cases l with
 |nil=>exact yno h
 |cons b t=>
  cases t with|nil=>rw[C5 h]|cons _ _=>exact yno h
noncomputable def y2.{u}{α:Type u}(l:List α):Option (α×α):=l.head?.bind λa=>(y1 l.tail).bind λb=>_s (a,b)
theorem zDb.{u}{α:Type u}{l:List α}{q:α×α}(h:y2 l=_s q):l=[q.1,q.2]:=by
 cases l with|nil=>exact yno h|cons b t=>refine zAQ h λa e h=>?_;refine zAQ h λc d h=>?_;rw[<- C5 h,zBn (l:=t) d,C5 (e:_s b=_s a)]
noncomputable def mz:Expr->Bool
 |.List es _=>es.isEmpty
 |_=>_f
theorem aX(h:mz e=_t):∃p,e=.List [] p:=by
 cases e with
 |List es p=>
  cases es with|nil=>exact⟨p,rfl⟩|cons _ _=>exact(D2 h).elim
 |_=>exact(D2 h).elim
def Ub(s u:Str)(f:Expr)(es:List Expr):Option (List Expr):=(rK f).bind λx=>(y1 es).bind λc=>(sH c).bind λq=>(rK q.1).bind λy=>if x==s&&y==u then _s q.2.1 else _n
theorem Du{s u:Str}{as:List Expr}(h:Ub s u f es=_s as):∃p g d,f=.Name s p/\es=[.Call (.Name u g) as [] d]:=by refine zAQ h λx m h=>?_;refine zAQ h λc l h=>?_;refine zAQ h λq k h=>?_;refine zAQ h λy j h=>?_;split at h;rename_i e;have v:=C5 h;rw[A3,beq_iff_eq,beq_iff_eq]at e;obtain⟨rfl,rfl⟩:=e;obtain⟨p,rfl⟩:=QI m;obtain⟨g,w⟩:=QI j;exact⟨p,g,q.2.2,rfl,by rw[zBn l,Vu k,w,v]⟩;exact yno h
noncomputable def TJ(f:Expr)(es:List Expr):Option (Expr×Pos):=match f with
 |.Attribute o m d=>if m==("get" : Str)&&es.length==2 then _s (o,d)else _n
 |_=>_n
theorem RO{d:Pos}(h:TJ f es=_s (o,d)):f=.Attribute o "get" d/\es.length=2:=by unfold TJ at h;split at h;split at h;rename_i e;rw[A3,beq_iff_eq,beq_iff_eq]at e;cases h;exact⟨by rw[e.1],e.2⟩;cases h;cases h
def eF(r:Rec)(C:Cf)(Γ:Gm)(o:Expr)(es:List Expr):Option CE:=if Rn o then(IT r C Γ _f o).bind λx=>(r.A C x.Γ [] es).bind λc=>if Ga x.a c.Γ then _s ⟨0,c.Γ,x.js++c.js,Yn "dict" x.a c.as C.T.gt⟩ else _n else _n
theorem YT(h:Gx X):X.A.units+2 < K0:=by obtain⟨j,r⟩:=h.2;have:=r.un;omega
theorem eC(R:OkR r)(ok:Cok C X)(g:(apos.endLine==pos.line)=_t)(k:es.length=2)(h:eF r C Γ o es=_s c):PE X (.Call (.Attribute o "get" apos) es [] pos) (tE X.K Γ c.o c.Γ c.js c.f):=by
 unfold eF at h;split at h;rename_i q;refine zAQ h λx u h=>?_;refine zAQ h λz t h=>?_;split at h;rename_i h1;cases h;obtain⟨n,l,m⟩:=EB R ok u;obtain⟨y,w,B,d,v⟩:=R.A ok t;cases es with|nil=>cases k|cons e es=>have j:=d;rw[K3,A3]at d;exact PE.imp (LS Y7 W2 PySem.F.type_dict_get (cZ (YT ok.gx)) n y (Da q) (GS j (by rw[k];decide)) g (AH d.1) (Au d.2)) λσ H Q h=>dE (C.T.zFD X ok.gx) (l rfl) (m w h1) (v rfl) h
 cases h;cases h
def ia(f:Expr):Option (Expr×Expr×Pos):=(sI f).bind λp=>(sH p.1).bind λq=>(sI q.1).bind λs=>(y2 q.2.1).bind λk=>if(s.2.1==("setdefault" : Str)&&p.2.1==("append" : Str))&&(mz k.2&&s.2.2.endLine==q.2.2.line)then _s (s.1,k.1,p.2.2)else _n
theorem UJ{k:Expr}{d:Pos}(h:ia f=_s (o,k,d)):∃m j l,f=.Attribute (.Call (.Attribute o "setdefault" m) [k,.List [] j] [] l) "append" d/\(m.endLine==l.line)=true:=by refine zAQ h λp v h=>?_;refine zAQ h λq u h=>?_;refine zAQ h λs t h=>?_;refine zAQ h λk2 g h=>?_;split at h;rename_i e;rw[A3,A3,A3,beq_iff_eq,beq_iff_eq]at e;obtain⟨j,n⟩:=aX e.2.1;have h:=C5 h;have g:=zDb g;rw[n]at g;exact⟨s.2.2,j,q.2.2,by rw[Vv v,Vu u,Vv t,g,e.1.1,e.1.2,<- (Prod.mk.inj h).1,<- (Prod.mk.inj (Prod.mk.inj h).2).1,<- (Prod.mk.inj (Prod.mk.inj h).2).2],e.2.2⟩;exact yno h
def dh(r:Rec)(C:Cf)(Γ:Gm)(i:Nat)(k e:Expr):Option CE:=if(Γ.getD i _n).isSome&&BI k&&BI e then(r.E C Γ k).bind λg=>if g.Γ.getD i _n==_s 1 then(r.E C (g.Γ.set i _n) e).bind λd=>if d.Γ[i]?==_s _n then _s ⟨0,d.Γ.set i (_s 1),g.js++(d.js++[i]),gQ i g.f d.f⟩ else _n else _n else _n
theorem dg(R:OkR r){k:Expr}{q j n g:Pos}(ok:Cok C X)(hi:RB C o=_s i)(m:(q.endLine==n.line)=_t)(l:(g.endLine==pos.line)=_t)(h:dh r C Γ i k e=_s c):PE X (.Call (.Attribute (.Call (.Attribute o "setdefault" q) [k,.List [] j] [] n) "append" g) [e] [] pos) (tE X.K Γ c.o c.Γ c.js c.f):=by
 unfold dh at h;split at h;rename_i d;simp only[A3]at d;refine zAQ h λA y h=>?_;split at h;rename_i h1;refine zAQ h λz w h=>?_;split at h;rename_i h2;cases h;have t:([k,.List [] j]:List Expr).all BI=true:=by rw[K3,d.1.2];rfl
 have u:([e]:List Expr).all BI=true:=by rw[K3,d.2];rfl
 have hb:N8 o "setdefault" X.env (N2 o X.env)=N2 o X.env:=Da (by cases o<;>first|rfl|(cases hi));have v:=LS Y7 o6 o7 (Sm (YT ok.gx)) (Cc ok hi) (CF (Ew (R.E ok y)) (CF (XX (pos:=j) Jk) Jk rfl) (AH d.1.2)) hb (GS (pos:=n) t (show 2 < 29 by decide)) m (AH d.1.2) (Au rfl);exact PE.imp (LS Q8 vq vw LX v (CF (Ew (R.E ok w)) Jk (AH d.2)) rfl (GS (pos:=pos) u (show 1 < 29 by decide)) l (AH d.2) rfl) λσ H Q h=>bJ (getD_some d.1.1) (BF (beq_iff_eq.mp h1)) (beq_iff_eq.mp h2) h;cases h;cases h;cases h
def Rk(r:Rec)(C:Cf)(Γ:Gm)(f:Expr)(es:List Expr)(pos:Pos):Option CE:=match TJ f es with
 |some p=>if p.2.endLine==pos.line then eF r C Γ p.1 es else _n
 |none=>match ia f with
  |some p=>(match es with
   |[e]=>if p.2.2.endLine==pos.line then(RB C p.1).bind λi=>dh r C Γ i p.2.1 e else _n
   |_=>_n)
  |none=>Tp r C Γ f es pos
theorem Vg(R:OkR r)(ok:Cok C X)(h:Rk r C Γ f es pos=_s c):PE X (.Call f es [] pos) (tE X.K Γ c.o c.Γ c.js c.f):=by
 unfold Rk at h;cases e1:TJ f es with
 |some p=>rw[e1]at h;obtain⟨rfl,g⟩:=RO e1;replace h:(if p.2.endLine==pos.line then eF r C Γ p.1 es else _n)=_s c:=h;split at h;rename_i hl;exact eC R ok hl g h;cases h
 |none=>
  rw[e1]at h;cases e2:ia f with
  |some p=>
   rw[e2]at h;obtain⟨l,j,k,rfl,d⟩:=UJ e2;cases es with
   |nil=>cases h
   |cons e es=>
    cases es with|cons _ _=>cases h|nil=>replace h:(if p.2.2.endLine==pos.line then(RB C p.1).bind λi=>dh r C Γ i p.2.1 e else _n)=_s c:=h;split at h;rename_i hl;refine zAQ h λi hi h=>?_;exact dg R ok hi d hl h;cases h
  |none=>rw[e2]at h;exact Zu R ok h
def NU(C:Cf)(x:Str):Option Nat:=if UX x then(match C.sc.names.lookup x with
 |some .local=>EK C.N x
 |some .cell=>if C.fn x then EK C.N x else _n
 |_=>_n)else _n
theorem NT(ok:Cok C X)(h:NU C x=_s i):X.N[i]?=_s x/\Loc X.env.scope x/\(X.fn x=_t\/X.env.scope.names.lookup x=_s .local):=by unfold NU at h;split at h;split at h;rename_i e;rw[ok.N,ok.sc];exact⟨Bw h,.inl e,.inr e⟩;rename_i e;split at h;rename_i hf;rw[ok.N,ok.sc];exact⟨Bw h,.inr e,.inl (ok.fn x hf)⟩;cases h;cases h;cases h
theorem Tt(ok:Cok C X)(h:NU C x=_s i):PG X (.Name x pos) (DY i):=by obtain⟨h1,h2,h3⟩:=NT ok h;exact bx ok.nd h1 h2 h3
def mh(C:Cf):List Expr->Option (List Nat)
 |[]=>_s []
 |.Name x _::es=>(NU C x).bind λi=>(mh C es).bind λJ=>_s (i::J)
 |_::_=>_n
theorem WI{C:Cf}{X:Cx}(ok:Cok C X):∀{es:List Expr}{J:List Nat},mh C es=_s J->mV X es (FH J)/\(N3 es X.env).length=J.length/\(N3 es X.env).findIdx? (·.1)=_n
 |[],J,h=>by cases h;exact⟨Se,rfl,rfl⟩
 |e::es,J,h=>by
  cases e with|Name x pos=>refine zAQ (show(NU C x).bind (λi=>(mh C es).bind λJ=>_s (i::J))=_s J from h) λi g h=>?_;refine zAQ h λj d h=>?_;cases h;obtain⟨h1,h2,h3⟩:=WI ok d;refine⟨Jj (Tt ok g) h1 rfl,?_,?_⟩;show(N3 es X.env).length+1=_;rw[h2];rfl;show List.findIdx? (·.1) ((_f,Y8 (.Name x pos) X.env)::N3 es X.env)=_n;rw[List.findIdx?_cons,h3];rfl|_=>cases h
structure CG:Type 1 where
 J:List Nat
 f:Tg
 g:W.Frag->TG
 Γ:Gm->Gm
def Vc(C:Cf)(e:Expr):Option CG:=match e with
 |.Name x _=>(NU C x).map λi=>⟨[i],nG i,λ_=>DY i,λΓ=>Γ.set i (_s 0)⟩
 |.Tuple es _ _=>(mh C es).map λJ=>⟨J,tq J,λK=>YY K J.length (FH J),λΓ=>Wh Γ J (_s 0)⟩
 |_=>_n
theorem Rg{c:CG}(ok:Cok C X)(h:Vc C e=_s c):PG X e (c.g X.K)/\(∀js,(∀i∈c.J,i∈js)->GOk js (c.g X.K))/\∀{K Γ},c.J.all (λi=>decide (i < Γ.length))=_t->Pu K Γ (c.Γ Γ) c.J (c.g K) c.f:=by
 cases e with
 |Name x pos=>
  cases q:NU C x with|none=>simp only[Vc,q]at h;cases h|some i=>simp only[Vc,q]at h;cases h;exact⟨Tt ok q,λjs d=>YV (d i (Y6 _)),λh=>af (by simpa using h)⟩
 |Tuple es k pos=>
  cases q:mh C es with|none=>simp only[Vc,q]at h;cases h|some J=>simp only[Vc,q]at h;cases h;obtain⟨h1,h2,h3⟩:=WI ok q;exact⟨PG.or (XQ ok.calm h1 h2 h3) (XS ok.calm h1 h2 h3),λjs d=>YU (TC (GR J d)) (TF (GR J d)),λh=>WJ (by simpa using h)⟩
 |_=>cases h
theorem Pf{c:CG}(h:Vc C e=_s c):(∀K,aJ (c.g K))/\(∀Γ,(c.Γ Γ).length=Γ.length)/\(∀es env,N3 (e::es) env=(_f,Y8 e env)::N3 es env):=by
 cases e with
 |Name x pos=>
  cases q:NU C x with|none=>simp only[Vc,q]at h;cases h|some i=>simp only[Vc,q]at h;cases h;exact⟨λ_=>LY,λ_=>D8 ..,λ_ _=>rfl⟩
 |Tuple es k pos=>
  cases q:mh C es with|none=>simp only[Vc,q]at h;cases h|some J=>simp only[Vc,q]at h;cases h;exact⟨λ_=>Xt (Js J),λ_=>Wg ..,λ_ _=>rfl⟩
 |_=>cases h
def uw(C:Cf)(k j:Expr):Option CG:=(Vc C k).bind λh=>(Vc C j).bind λd=>_s ⟨h.J++d.J,tm h.f d.f,λK=>YY K 2 (Dz (h.g K) (Dz (d.g K) Oo)),λΓ=>d.Γ (h.Γ Γ)⟩
def cG(C:Cf)(e:Expr):Option CG:=match Vc C e with
 |some c=>_s c
 |none=>match e with
  |.Tuple [g,d] _ _=>uw C g d
  |_=>_n
theorem Pe{c:CG}(ok:Cok C X)(h:cG C e=_s c):PG X e (c.g X.K)/\(∀js,(∀i∈c.J,i∈js)->GOk js (c.g X.K))/\∀{K Γ},c.J.all (λi=>decide (i < Γ.length))=_t->Pu K Γ (c.Γ Γ) c.J (c.g K) c.f:=by
 unfold cG at h;split at h;rename_i I q;cases h;exact Rg ok q;split at h;rename_i l j k pos _;refine zAQ h λH n h=>?_;refine zAQ h λG m h=>?_;cases h;obtain⟨p1,E,A⟩:=Rg ok n;obtain⟨B,D,z⟩:=Rg ok m;obtain⟨F,l1,y⟩:=Pf n;obtain⟨t,l2,w⟩:=Pf m;have d:N3 [l,j] X.env=[(_f,Y8 l X.env),(_f,Y8 j X.env)]:=by rw[y,w];rfl
 have u:mV X [l,j] (Dz (H.g X.K) (Dz (G.g X.K) Oo)):=Jj p1 (Jj B Se (by rw[w];rfl)) (by rw[y];rfl);refine⟨PG.or (XQ ok.calm u (by rw[d];rfl) (by rw[d];rfl)) (XS ok.calm u (by rw[d];rfl) (by rw[d];rfl)),λjs v=>?_,fun{K Γ} h=>?_⟩;have g:=KA (F X.K) (LZ (t X.K) Jq) (E js λi hi=>v i (C7 _ hi)) (KA (t X.K) Jq (D js λi hi=>v i (B9 _ hi)) On);exact YU (TC g) (TF g);rw[List.all_append,A3]at h;exact ae (A h.1) (z (by rw[l1];exact h.2));cases h
def tD(r:Rec)(C:Cf)(Γ:Gm)(en:zFS)(es:List Expr):Option CI:=(r.A C Γ [] es).bind λc=>_s ⟨c.Γ,c.js,gO en.f (AQ c.as)⟩
def lW(r:Rec)(C:Cf)(Γ:Gm)(e:Expr):Option CI:=(r.E C Γ e).bind λc=>_s ⟨c.Γ,c.js,TU c.f⟩
def WS(r:Rec)(C:Cf)(Γ:Gm)(tt:Bool)(e:Expr):Option CI:=match e with
  |.Call (.Name x _) es [] _=>(match C.T.zEe.find? λen=>en.x==x&&en.n==es.length&&(!en.tt||tt)with
      |some en=>if Mo C.sc x&&C.bl.contains x&&(C.fs.find? λp=>p.1==x).isNone then tD r C Γ en es else _n
      |none=>lW r C Γ e)
  |e=>lW r C Γ e
theorem WR(R:OkR r){c:CI}(tg:Expr)(ok:Cok C X)(h:WS r C Γ (Ol tg) e=_s c):PI X tg e (tI X.K Γ c.Γ c.js c.f):=by
 have seq:lW r C Γ e=_s c->PI X tg e (tI X.K Γ c.Γ c.js c.f):=λh=>by refine zAQ h λn j h=>?_;cases h;exact pT (Ew (R.E ok j))
 unfold WS at h;split at h;rename_i x p es pos;split at h;rename_i en he;split at h;rename_i g;simp only[A3]at g;have e:=O5 he;simp only[A3,beq_iff_eq]at e;obtain⟨⟨rfl,m⟩,d⟩:=e;refine zAQ h λn j h=>?_;cases h;obtain⟨v,u,y,t,q⟩:=R.A ok j;obtain⟨w,l,k⟩:=en.ok X ok.gx;exact PI.imp (k tg es p pos _ (λz=>by rw[z]at d;simpa using d) m.symm t (CK ok g.1.1) (ok.bl _ (D1.mp g.1.2)) v) λ_ _ _ h=>aw l u (q rfl) h;cases h;exact seq h;exact seq h
def Jd(scope sc:O0):O0:={scope with names:=scope.names.map fun(n,k)=>if(k==.free&&sc.kind==.function&&sc.names.lookup n==_s .cell)then(n,.cell)else(n,k)}
def Cf.inner(C:Cf)(scope:O0):Cf:={C with sc:=Jd scope C.sc,fn:=AR scope}
theorem Cok.inner(ok:Cok C X)(scope:O0)(cl:List (Str×B8))(a:B8)(s:A7)(H:Hp)(fp:List B8):Cok (C.inner scope) (X.inner scope cl a s H fp) where
 N:=ok.N
 sc:=by show relabel scope X.env=Jd scope C.sc;unfold relabel Jd Env.kindOf;rw[ok.sc]
 nd:=ok.nd
 calm:=ok.calm
 fn:=λ_ h=>h
 room:=ok.room
 fs:=ok.fs
 cs:=ok.cs
 bl:=ok.bl
 xe:=rfl
noncomputable def cH(N:List Str)(scope:O0):List Nat:=(B2 N.length).filter λi=>match N[i]? with
 |some x=>(match scope.names.lookup x with|some .local=>_t|some .cell=>_t|_=>_f)
 |none=>_f
structure CC:Type 1 where
 t:CG
 c:CT
 e:CE
def SE(r:Rec)(C:Cf)(Γl:Gm)(tg:CG)(ifs:List Expr)(d:Expr):Option CC:=if tg.J.all (λi=>decide (i < Γl.length))then(match ifs with
 |[]=>_s (CT.mk (tg.Γ Γl) [] GT)
 |[c]=>r.T C (tg.Γ Γl) c
 |_=>_n).bind λc=>(r.E C c.Γ d).bind λe=>_s ⟨tg,c,e⟩ else _n
def lD(r:Rec)(C:Cf)(tg:CG)(ifs:List Expr)(d:Expr):Nat->Gm->Option (Gm×CC)
 |0,_=>_n
 |n+1,Γl=>(SE r C Γl tg ifs d).bind λx=>if Cd Γl x.c.Γ&&Cd Γl x.e.Γ then _s (Γl,x)else lD r C tg ifs d n (Bu Γl (Bu x.c.Γ x.e.Γ))
def Ri(r:Rec)(C:Cf)(Γ:Gm)(g:Expr)(gens:List X8)(scope:O0):Option CE:=match gens with
  |[⟨tg,iter,ifs,0⟩]=>(match iter with|.Set _ _ _=>_n|_=>r.I C Γ (Ol tg) iter).bind λs=>let d:=cH C.N scope;if zAd C.N C.sc scope d then(cG (C.inner scope) tg).bind λt=>(lD r (C.inner scope) t ifs g 4 (QF d s.Γ)).bind λp=>
      let J:=Bl p.1 (t.J++(p.2.c.js++p.2.e.js))
      if Cd p.1 (QF d s.Γ)&&t.J.all d.contains&&(J.isEmpty||ifs.isEmpty)then _s ⟨1,QZ d s.Γ p.1,s.js++(t.J++(p.2.c.js++p.2.e.js)),match J,ifs with
        |[],[]=>Yo s.f t.f p.2.e.f
        |[],_=>Yp s.f t.f p.2.c.f p.2.e.f
        |J,_=>TV s.f t.f J p.2.e.f⟩ else _n else _n
  |_=>_n
theorem TN{r:Rec}{C:Cf}{tg:CG}{ifs:List Expr}{d:Expr}:∀{n:Nat}{Γ:Gm}{p:Gm×CC},lD r C tg ifs d n Γ=_s p->SE r C p.1 tg ifs d=_s p.2/\Cd p.1 p.2.c.Γ=_t/\Cd p.1 p.2.e.Γ=_t
 |0,_,_,h=>by cases h
 |n+1,Γ,p,h=>by refine zAQ (show(SE r C Γ tg ifs d).bind _=_s p from h) λx j h=>?_;split at h;rename_i g;rw[A3]at g;cases h;exact⟨j,g.1,g.2⟩;exact TN h
theorem jg:gy X [] (tT X.K Γ Γ [] GT):=λpins s σ H Q I h=>by obtain⟨g,m,P,r,R,k,res,e,q⟩:=h;exact wpAny_tests_nil ⟨H,I,q _t m g P H e Bm.refl Step.refl r⟩
variable{gens:List X8}{scope:O0}
theorem Rh(R:OkR r){l:Expr}{pos:Pos}(ok:Cok C X)(h:Ri r C Γ l gens scope=_s c) :
    ∃t:TE,(∀σ H Q,tE X.K Γ c.o c.Γ c.js c.f σ H Q->t σ H Q)/\PE X (.ListComp l gens scope pos) t/\∀{i x d n},X.N[i]?=_s x->Loc X.env.scope x->(X.fn x=_t\/X.env.scope.names.lookup x=_s .local)->U3 (.ListComp l gens scope pos) (_s (.Name x d)) n.line X.env=pure _t->PS X (.Assign [.Name x d] (.ListComp l gens scope pos) n) (Kk t (DY i)):=by
  unfold Ri at h;split at h;rename_i tg iter ifs;refine zAQ h λs V h=>?_;simp only at h;split at h;rename_i P;refine zAQ h λt U h=>?_;refine zAQ h λp e3 h=>?_;split at h;rename_i w;rw[A3,A3]at w;obtain⟨w,G⟩:=w;cases h;obtain⟨v,f2,F⟩:=TN e3;unfold SE at v;split at v;rename_i Y;refine zAQ v λct A v=>?_;refine zAQ v λB S v=>?_;have Z:p.2=⟨t,ct,B⟩:=(C5 v).symm;have hs:∀x,Q3 iter X.env x=pure x:=λx=>by cases iter<;>first|rfl|(cases V)
  have hI:r.I C Γ (Ol tg) iter=_s s:=by cases iter<;>first|exact V|(cases V)
  have hi:=R.I tg ok hI;have k:=λcl a s H fp=>ok.inner scope cl a s H fp;have L:∀cl a s H fp,PG (X.inner scope cl a s H fp) tg (t.g X.K):=λcl a s H fp=>(Pe (k cl a s H fp) U).1;have q:∀i∈t.J,i∈cH C.N scope:=λi hi=>D1.mp ((G4.mp w.2) i hi);have u:GOk (cH C.N scope) (t.g X.K):=(Pe (k [] 0 X.zAZ X.H₀ []) U).2.1 _ q;have O:Pu X.K p.1 (t.Γ p.1) t.J (t.g X.K) t.f:=(Pe (k [] 0 X.zAZ X.H₀ []) U).2.2 Y;have he:∀cl a s H fp,PE (X.inner scope cl a s H fp) l (tE X.K ct.Γ 0 B.Γ B.js B.f):=λcl a s H fp=>Ew (R.E (k cl a s H fp) S);have m:zAd X.N X.env.scope scope (cH C.N scope)=true:=by rw[ok.N,ok.sc];exact P
  rw[Z]at f2 F G ⊢;simp only at f2 F G ⊢;cases ifs with
  |nil=>
    cases A;have D:∀cl a s H fp,gy (X.inner scope cl a s H fp) [] (tT X.K (t.Γ p.1) (t.Γ p.1) [] GT):=λcl a s H fp=>jg;refine⟨_,?_,OR m ok.calm hi L u D he hs,fun{i x d n} z M hf y=>OO ok.nd z M m ok.calm hi L u D he y hs hf⟩;intro σ H Q h;cases hJ:Bl p.1 (t.J++([]++B.js))with|nil=>rw[hJ]at h;exact Xw O w.1 F f2 q hJ.symm h|cons j J=>rw[hJ]at h;exact VR O w.1 F f2 q hJ.symm h
  |cons W ifs=>
    cases ifs with
    |nil=>
      have D:∀cl a s H fp,gy (X.inner scope cl a s H fp) [W] (tT X.K (t.Γ p.1) ct.Γ ct.js ct.f):=λcl a s H fp=>.one (R.T (k cl a s H fp) A);refine⟨_,?_,OR m ok.calm hi L u D he hs,fun{i x d n} z M hf y=>OO ok.nd z M m ok.calm hi L u D he y hs hf⟩;intro σ H Q h;cases hJ:Bl p.1 (t.J++(ct.js++B.js))with|nil=>rw[hJ]at h;exact Xx O w.1 F f2 q hJ.symm h|cons j J=>rw[hJ]at G;cases G
    |cons _ _=>cases A
  cases v;cases h;cases h;cases h
def Ph(r:Rec)(C:Cf)(Γ:Gm)(d:Expr)(gens:List X8)(scope:O0):Option CE:=Ri r C Γ d gens scope
theorem Lz(R:OkR r){d:Expr}{pos:Pos}(ok:Cok C X)(h:Ph r C Γ d gens scope=_s c) :
    ∃t:TE,(∀σ H Q,tE X.K Γ c.o c.Γ c.js c.f σ H Q->t σ H Q)/\PE X (.ListComp d gens scope pos) t/\∀{i x g j},X.N[i]?=_s x->Loc X.env.scope x->(X.fn x=_t\/X.env.scope.names.lookup x=_s .local)->U3 (.ListComp d gens scope pos) (_s (.Name x g)) j.line X.env=pure _t->PS X (.Assign [.Name x g] (.ListComp d gens scope pos) j) (Kk t (DY i)):=by
  exact Rh R ok h
theorem Pg(R:OkR r){d:Expr}(ok:Cok C X)(h:Ph r C Γ d gens scope=_s c):PE X (.ListComp d gens scope pos) (tE X.K Γ c.o c.Γ c.js c.f):=by obtain⟨t,h1,h2,_⟩:=Lz (pos:=pos) R ok h;exact PE.imp h2 h1
end R
namespace Q
open PySem L2
end Q
namespace HT
open PySem PyProof.Rows
section
variable{prog:F9}{w:J5}{A:J3}{E:_v->A7->Prop}{s:A7}
theorem Os{c d:Type}{f g:c->Option d}:∀{l:List c},(∀a∈l,f a=g a)->l.filterMap f=l.filterMap g
 |[],_=>rfl
 |a::l,h=>by rw[R4,R4,h a B1,Os λb hb=>h b (A9 _ hb)]
theorem Pn(n:Nat):M7 _n _n (-1) (n:Int)=((n:Int)-1,-1):=by unfold M7;rfl
theorem OQ(n:Nat):J9 ((n:Int)-1) (-1) (-1)=n:=by
 unfold J9;have h1:¬((-1:Int) > 0):=by omega
 simp only[h1,if_false];have h2:(-(-1:Int))=1:=by decide
 simp only[h2,zz];split<;>omega
theorem UR(xs:Array _v):((B2 xs.size).filterMap fun(m:Nat)=>xs[((xs.size:Int)-1+(m:Int) * (-1)).toNat]?).toArray=xs.toList.reverse.toArray:=by
 have e:(B2 xs.size).filterMap (fun(m:Nat)=>xs[((xs.size:Int)-1+(m:Int) * (-1)).toNat]?)=((B2 xs.size).map λk=>xs.size-1-k).filterMap (xs[·]?):=by
  rw[vE];refine Os λm hm=>?_;have hm:=P8.mp hm;have:((xs.size:Int)-1+(m:Int) * (-1)).toNat=xs.size-1-m:=by omega
  show _=xs[xs.size-1-m]?;rw[this]
 rw[e,W.krv_range,List.filterMap_reverse,W.krv_all]
theorem zAt{t sl:B8}{items:Array _v}{k:Tok}{Q:_v->A7->Prop}(d:IsTup s.heap t items)(hs:s.heap.IsSliceOf sl .none .none (.int (-1) k))
    (h:Q (.ref s.heap.objs.size) {s with heap:=s.heap.push {cls:=.type "tuple", data:=.seq items.toList.reverse.toArray} })
    (hsz:items.size<=sizeLine):C8 (D9 prog w) A (k8 (.ref t) (.ref sl)) Q E s:=by
  have a:sizeOk (.seq items.toList.reverse.toArray):=by show items.toList.reverse.toArray.size<=sizeLine;rw[B0,p7,H9];exact hsz
  obtain⟨os,b,f,c⟩:=id hs;have g:s.TypeIs (.ref sl) "slice" := ⟨os,b,f⟩;unfold k8
  try with_reducible refine J0 ?_
  first|refine A1 (A6 ?_)|skip
  refine A1 (vV d.typeIs `d ?_);refine A1 (N7 (name:=Z1 "__getitem__") d.typeIs G0
    (L8 G0 d.typeIs o8 ?_ (vF _ _)))
  show C8 _ _ (S0 (.ref t) >>= _) _ _ s;refine A1 (xZ d ?_);refine A1 (U7 g ?_);rw[if_pos `d];have j:∀{i:J3}{Q:Int×Int×Nat->A7->Prop},Q ((items.size:Int)-1,-1,items.size) s->C8 (D9 prog w) i (S3 (.ref sl) (pure (items.size:Int))) Q E s:=fun{i Q} h=>by unfold S3 vQ;refine A1 (A1 (M3 b c (x:=.none) rfl (A1 (M3 b c (x:=.none) rfl (A1 (M3 b c (x:=.int (-1) k) rfl (A6 ?_)))))));refine A1 (GH (.int (-1) k) ?_);show C8 _ _ (if((-1:Int)==0)=_t then _ else _) _ _ s;rw[if_neg `d];refine A1 (vD (A1 (vD (A1 (A6 ?_)))));show C8 _ _ (match M7 _n _n (-1) (items.size:Int)with|(lo,hi)=>pure (lo,(-1:Int),J9 lo hi (-1))) _ _ s;rw[Pn];show C8 _ _ (pure (((items.size:Int)-1),(-1:Int),J9 ((items.size:Int)-1) (-1) (-1))) _ _ s;rw[OQ];exact A6 h
  refine A1 (j ?_);have e:¬((((items.size:Int)-1)==0&&(-1:Int)==1&&items.size==items.size)=_t):=by intro q;rw[A3,A3]at q;exact absurd q.1.2 `d
  show C8 _ _ (if(((items.size:Int)-1)==0&&(-1:Int)==1&&items.size==items.size)=_t then _ else _) _ _ s;rw[if_neg e,UR]
  first
    |exact A1 (m:=K2 _) (J4 (A6 ⟨_,rfl,A6 h⟩) a)
    |exact A1 (m:=K2 _) (J4 (A1 (A6 (A6 ⟨_,rfl,A6 h⟩))) a)
    |exact A1 (A1 (m:=K2 _) (J4 (A6 (A6 ⟨_,rfl,A6 h⟩)) a))
    |exact A1 (A1 (m:=K2 _) (J4 (A6 ⟨_,rfl,A6 h⟩) a))
end
end HT
namespace L2
open PySem PySem.Spec PyProof.Rows
section
variable{X:Cx}{e st:Expr}{te ts:TE}{pos p2:Pos}
abbrev nM(K:W.Frag)(te ts:TE):TE:=λσ H Q=>te σ H λx d=>ts σ d λy c=>∃a xs b,x=.ref a/\y=.int (-1)/\IH K c a xs b/\∀p,c p=_n->Q (.ref p) (upd c p (bif b then .tup xs.reverse else .lst xs.reverse))
theorem bz(K:W.Frag)(he:PE X e te)(m:PE X st ts)(D:X.K=K:=by rfl)(l:∀o i,∃ops,vW (.Slice _n _n (_s st) p2) _f o i=operate ops (k8 o i):=by intro o i;exact⟨_,by with_unfolding_all rfl⟩):PE X (.Subscript e (.Slice _n _n (_s st) p2) pos) (nM K te ts):=by
 subst D;intro pins s σ H Q I h;refine zV (BM (he pins s σ H _ I h) λv s1 ⟨x,J,F,z,C⟩=>?_);refine wpAny_Slice ?_;rw[xa];refine A6 ?_;refine A6 ?_;rw[evalPart_some];refine BM (m pins s1 σ J _ F C) λvs d ⟨y,G,E,u,B⟩=>?_;obtain⟨a,xs,b,rfl,rfl,p,q⟩:=B;cases z;obtain⟨t,rfl⟩:=u;have f:Inv X pins σ G {d with heap:=d.heap.push {cls:=.type "slice", data:=.fields #[.none,.none,.int (-1) t]} }:=E.kept (t':=d.toks) λb ob q=>A5 _ q;show C8 (D9 X.prog X.w) X.A (l7 e (.Slice _n _n (_s st) p2) (.ref a) (.ref d.heap.objs.size)) (EP X pins σ Q) X.xe {d with heap:=d.heap.push {cls:=.type "slice", data:=.fields #[.none,.none,.int (-1) t]} };obtain⟨ops,g⟩:=l (.ref a) (.ref d.heap.objs.size);cases b with|false=>obtain⟨c,r,j,hz⟩:=f.list p;have k:=r.length;refine zW (ops:=ops) j.isList.typeIs vX.lookup ?_ g;refine vi j.isList (vG ..) .none .none (.int (-1) t) `d ?_ (by rw[B0];omega);rw[W.krv_pick];rw[show c.toArray.toList.reverse=c.reverse by simp];have n:=f.laid (t':=d.toks) (o:=.lst xs.reverse) (h':=(d.heap.push {cls:=.type "slice", data:=.fields #[.none,.none,.int (-1) t]}).push {cls:=.type "list", data:=.seq c.reverse.toArray}) (λb ob q=>A5 _ q) (B3 _) ⟨by rw[p7];exact hz,c.reverse,0,JH r,C9 _ rfl⟩;exact⟨.ref _,_,n,rfl,q _ (f.hok.fresh (B3 _))⟩|true=>obtain⟨c,r,j,hz⟩:=f.tuple p;have k:=r.length;refine zW (ops:=ops) j.typeIs G0.lookup ?_ g;refine HT.zAt j (vG ..) ?_ (by rw[B0];omega);rw[show c.toArray.toList.reverse=c.reverse by simp];have n:=f.laid (t':=d.toks) (o:=.tup xs.reverse) (h':=(d.heap.push {cls:=.type "slice", data:=.fields #[.none,.none,.int (-1) t]}).push {cls:=.type "tuple", data:=.seq c.reverse.toArray}) (λb ob q=>A5 _ q) (B3 _) ⟨by rw[p7];exact hz,c.reverse,JH r,IG.new _ _⟩;exact⟨.ref _,_,n,rfl,q _ (f.hok.fresh (B3 _))⟩
end
end L2
namespace Q
open PySem L2
end Q
namespace R
open PySem L2
def pI(f:Expr)(es:List Expr):Option (List Expr):=(Ub "list" "range" f es).bind λas=>bif as.isEmpty then _n else _s as
variable{f:Expr}{es:List Expr}
theorem Ul{as:List Expr}(h:pI f es=_s as):∃p a c d b,f=.Name "list" p/\as=a::c/\es=[.Call (.Name "range" d) (a::c) [] b]:=by
 refine zAQ h λq e h=>?_;obtain⟨p,d,b,rfl,rfl⟩:=Du e;cases q with|nil=>exact yno h|cons a t=>exact⟨p,a,t,d,b,rfl,(C5 h).symm,rfl⟩
def tG(r:Rec)(C:Cf)(Γ:Gm)(as:List Expr):Option CE:=if Mo C.sc "list"&&Mo C.sc "range"&&C.bl.contains "list"&&C.bl.contains "range" then(r.A C Γ (B6 as.length _t) as).bind λc=>_s ⟨1,c.Γ,c.js,Ed C.T.lr (AQ c.as)⟩ else _n
def nF(f:Expr)(es:List Expr):Option (List Expr):=(Ub "tuple" "range" f es).bind λas=>bif as.isEmpty then _n else _s as
theorem UC{as:List Expr}(h:nF f es=_s as):∃p a c d b,f=.Name "tuple" p/\as=a::c/\es=[.Call (.Name "range" d) (a::c) [] b]:=by
 refine zAQ h λq e h=>?_;obtain⟨p,d,b,rfl,rfl⟩:=Du e;cases q with|nil=>exact yno h|cons a t=>exact⟨p,a,t,d,b,rfl,(C5 h).symm,rfl⟩
def uS(r:Rec)(C:Cf)(Γ:Gm)(as:List Expr):Option CE:=_n
def pH(f:Expr)(es:List Expr):Option Expr:=(Ub "list" "reversed" f es).bind y1
variable{a:Expr}
theorem Uk(h:pH f es=_s a):∃p c b,f=.Name "list" p/\es=[.Call (.Name "reversed" c) [a] [] b]:=by refine zAQ h λq e h=>?_;rw[<- zBn h];exact Du e
def uW(r:Rec)(C:Cf)(Γ:Gm)(a:Expr):Option CE:=_n
variable{r:Rec}{C:Cf}{X:Cx}{Γ:Gm}{p p2 zAU pos:Pos}
theorem mC(R:OkR r){c:CE}(ok:Cok C X)(h:uW r C Γ a=_s c):PE X (.Call (.Name "list" p) [.Call (.Name "reversed" p2) [a] [] zAU] [] pos) (tE X.K Γ c.o c.Γ c.js c.f):=by cases h
theorem mD(R:OkR r){b:List Expr}{c:CE}(ok:Cok C X)(h:tG r C Γ (a::b)=_s c):PE X (.Call (.Name "list" p) [.Call (.Name "range" p2) (a::b) [] zAU] [] pos) (tE X.K Γ c.o c.Γ c.js c.f):=by unfold tG at h;split at h;rename_i e;simp only[A3]at e;obtain⟨⟨⟨k,j⟩,i⟩,g⟩:=e;refine zAQ h λq l h=>?_;cases h;obtain⟨n,m,s,d,_⟩:=R.A ok l;rw[K3,A3]at d;exact PE.imp (Qj ok.calm (CK ok k) (ok.bl _ (D1.mp i)) (CK ok j) (ok.bl _ (D1.mp g)) n rfl rfl (AH d.1) (Au d.2)) λ_ _ _ h=>DN (C.T.zEo X ok.gx) m h;cases h
theorem lU(R:OkR r){b:List Expr}{c:CE}(ok:Cok C X)(h:uS r C Γ (a::b)=_s c):PE X (.Call (.Name "tuple" p) [.Call (.Name "range" p2) (a::b) [] zAU] [] pos) (tE X.K Γ c.o c.Γ c.js c.f):=by cases h
def lQ(n m:Str)(f:Expr)(es:List Expr):Option Expr:=(Ub n m f es).bind y1
theorem Lw{n m:Str}(h:lQ n m f es=_s a):∃p p2 zAU,f=.Name n p/\es=[.Call (.Name m p2) [a] [] zAU]:=by refine zAQ h λq e h=>?_;rw[<- zBn h];exact Du e
def uU(r:Rec)(C:Cf)(Γ:Gm)(a:Expr):Option CE:=_n
theorem lX(R:OkR r){c:CE}(ok:Cok C X)(h:uU r C Γ a=_s c):PE X (.Call (.Name "sorted" p) [.Call (.Name "set" p2) [a] [] zAU] [] pos) (tE X.K Γ c.o c.Γ c.js c.f):=by cases h
def uX(r:Rec)(C:Cf)(Γ:Gm)(a:Expr):Option CE:=_n
theorem mE(R:OkR r){c:CE}(ok:Cok C X)(h:uX r C Γ a=_s c):PE X (.Call (.Name "list" p) [.Call (.Name "enumerate" p2) [a] [] zAU] [] pos) (tE X.K Γ c.o c.Γ c.js c.f):=by cases h
def qY(f:Expr)(es:List Expr):Option (Expr×Expr):=(Ub "dict" "zip" f es).bind y2
variable{b:Expr}
theorem VJ(h:qY f es=_s (a,b)):∃p p2 zAU,f=.Name "dict" p/\es=[.Call (.Name "zip" p2) [a,b] [] zAU]:=by refine zAQ h λq e h=>?_;rw[<- (zDb h:q=[a,b])];exact Du e
def tJ(r:Rec)(C:Cf)(Γ:Gm)(a b:Expr):Option CE:=if Mo C.sc "dict"&&Mo C.sc "zip"&&C.bl.contains "dict"&&C.bl.contains "zip" then(r.A C Γ [] [a,b]).bind λc=>_s ⟨1,c.Γ,c.js,Ed C.T.dz (AQ c.as)⟩ else _n
theorem mI(R:OkR r){c:CE}(ok:Cok C X)(h:tJ r C Γ a b=_s c):PE X (.Call (.Name "dict" p) [.Call (.Name "zip" p2) [a,b] [] zAU] [] pos) (tE X.K Γ c.o c.Γ c.js c.f):=by unfold tJ at h;split at h;rename_i e;simp only[A3]at e;obtain⟨⟨⟨m,l⟩,k⟩,i⟩:=e;refine zAQ h λu n h=>?_;cases h;obtain⟨t,s,v,d,q⟩:=R.A ok n;rw[K3,A3]at d;obtain⟨j,g⟩:=ok.gx.2;exact PE.imp (Qk g ok.calm (CK ok m) (ok.bl _ (D1.mp k)) (CK ok l) (ok.bl _ (D1.mp i)) t rfl rfl (AH d.1) (Au d.2)) λ_ _ _ h=>UP (C.T.zFG X ok.gx) s (q rfl) h;cases h
def Rm(r:Rec)(C:Cf)(Γ:Gm)(f:Expr)(es:List Expr)(pos:Pos):Option CE:=match pI f es with
 |some as=>tG r C Γ as
 |none=>match pH f es with
  |some a=>uW r C Γ a
  |none=>match nF f es with
   |some as=>uS r C Γ as
   |none=>match lQ "sorted" "set" f es with
    |some a=>uU r C Γ a
    |none=>match lQ "list" "enumerate" f es with
     |some a=>uX r C Γ a
     |none=>match qY f es with
      |some p=>tJ r C Γ p.1 p.2
      |none=>Rk r C Γ f es pos
theorem Vh(R:OkR r){c:CE}(ok:Cok C X)(h:Rm r C Γ f es pos=_s c):PE X (.Call f es [] pos) (tE X.K Γ c.o c.Γ c.js c.f):=by unfold Rm at h;split at h;rename_i as e;obtain⟨p,a,d,p2,zAU,rfl,rfl,rfl⟩:=Ul e;exact mD R ok h;split at h;rename_i a e;obtain⟨p,p2,zAU,rfl,rfl⟩:=Uk e;exact mC R ok h;split at h;rename_i as e;obtain⟨p,a,d,p2,zAU,rfl,rfl,rfl⟩:=UC e;exact lU R ok h;split at h;rename_i a e;obtain⟨p,p2,zAU,rfl,rfl⟩:=Lw e;exact lX R ok h;split at h;rename_i a e;obtain⟨p,p2,zAU,rfl,rfl⟩:=Lw e;exact mE R ok h;split at h;rename_i q e;obtain⟨p,p2,zAU,rfl,rfl⟩:=VJ e;exact mI R ok h;exact Vg R ok h
noncomputable def pS:Expr->Bool
 |.Constant (.int n) _ _=>n==1
 |_=>_f
variable{e:Expr}
theorem dC(h:pS e=_t):∃p q,e=.Constant (.int 1) p q:=by
 cases e with
 |Constant c p q=>
  cases c with|int n=>rw[show n=1 from beq_iff_eq.mp h];exact⟨p,q,rfl⟩|_=>exact(D2 h).elim
 |_=>exact(D2 h).elim
def pO:Expr->Bool
 |.UnaryOp .USub a _=>pS a
 |_=>_f
theorem cz(h:pO e=_t):∃p q s,e=.UnaryOp .USub (.Constant (.int 1) p q) s:=by
 cases e with
 |UnaryOp o a s=>
  cases o with|USub=>obtain⟨p,q,rfl⟩:=dC h;exact⟨p,q,s,rfl⟩|_=>exact(D2 h).elim
 |_=>exact(D2 h).elim
def lY(r:Rec)(C:Cf)(Γ:Gm)(a st:Expr):Option CE:=if pO st then(MG r C Γ a st).bind λp=>_s ⟨1,p.2.Γ,jj p,Ed (two C.T.rv) (AQ [p.1.a,p.2.a])⟩ else _n
theorem di(R:OkR r){st:Expr}{c:CE}(ok:Cok C X)(h:lY r C Γ a st=_s c):PE X (.Subscript a (.Slice _n _n (_s st) p2) pos) (tE X.K Γ c.o c.Γ c.js c.f):=by unfold lY at h;split at h;rename_i hm;refine zAQ h λp d h=>?_;cases h;obtain⟨h1,h2,h3⟩:=HD R ok d;obtain⟨_,_,_,rfl⟩:=cz hm;exact PE.imp (bz X.K h1 h2 rfl (by intro o i;exact⟨_,by with_unfolding_all rfl⟩)) λ_ _ _ h=>DN (C.T.zEg X ok.gx) h3 h;cases h
def kS(f:Expr)(es:List Expr)(ks:List vY):Option (Expr×Expr):=(rK f).bind λx=>(y1 es).bind λa=>(y1 ks).bind λk=>k.arg.bind λy=>if x==("max" : Str)&&y==("default" : Str)then _s (a,k.value)else _n
theorem Uj{ks:List vY}{q:Expr×Expr}(h:kS f es ks=_s q):∃p kp,f=.Name "max" p/\es=[q.1]/\ks=[⟨_s "default", q.2,kp⟩]:=by refine zAQ h λx l h=>?_;refine zAQ h λa j h=>?_;refine zAQ h λk i h=>?_;refine zAQ h λy g h=>?_;split at h;rename_i e;have v:=C5 h;rw[A3,beq_iff_eq,beq_iff_eq]at e;obtain⟨rfl,rfl⟩:=e;obtain⟨p,rfl⟩:=QI l;obtain⟨b,c,d⟩:=k;rw[<- v,<- (show b=_ from g)];exact⟨p,d,rfl,zBn j,zBn i⟩;exact yno h
def uV(r:Rec)(C:Cf)(Γ:Gm)(a e:Expr):Option CE:=_n
theorem mB(R:OkR r){kp:Pos}{c:CE}(ok:Cok C X)(h:uV r C Γ a e=_s c):PE X (.Call (.Name "max" p) [a] [⟨_s "default", e,kp⟩] pos) (tE X.K Γ c.o c.Γ c.js c.f):=by cases h
def NP(r:Rec)(C:Cf)(Γ:Gm)(f:Expr)(es:List Expr)(ks:List vY)(pos:Pos):Option CE:=match ks with
 |[]=>Rm r C Γ f es pos
 |k::ks=>match kS f es (k::ks)with
  |some q=>uV r C Γ q.1 q.2
  |none=>_n
theorem Vi(R:OkR r){ks:List vY}{c:CE}(ok:Cok C X)(h:NP r C Γ f es ks pos=_s c):PE X (.Call f es ks pos) (tE X.K Γ c.o c.Γ c.js c.f):=by
 cases ks with
 |nil=>exact Vh R ok h
 |cons k ks=>
  cases q:kS f es (k::ks)with|none=>unfold NP at h;simp only[q]at h;cases h|some z=>unfold NP at h;simp only[q]at h;obtain⟨p,kp,i,g,d⟩:=Uj q;rw[i,g,d];exact mB R ok h
def Yt(i:Nat)(f:Str):Ev Dv:=λ_ m k=>(GU (m.at i) f).bind λd=>k d m
theorem Xs{K:W.Frag}{i o:Nat}{f:Str}{σ:St}{H:Hp}{Q:VK}(hi:Γ[i]?=_s (_s o))(h:tE K Γ o (Γ.set i _n) [] (Yt i f) σ H Q):QS K (EI i) f σ H Q:=by obtain⟨g,m,P,r,R,k,res,e,q⟩:=h;refine zAQ e λd A e=>?_;obtain⟨v,B,Pb,ev,_,rv,l,n,u⟩:=r.take hi;obtain⟨a,C,dx,fs,w,P1,P2,rfl,h1,t,s,hl,j,dj,c,_⟩:=DW rv A;exact⟨_,ev,a,C,dx,fs,w,rfl,h1,t,s,hl,q d m g Pb P1 w H e Bm.refl (Step.refl.less λb z=>(u b).mpr (z.elim .inr λz=>.inl ((c b).mpr (.inl z)))) j l λb x y=>n b ((c b).mpr (.inl y)) x⟩
def gp(C:Cf)(Γ:Gm)(o:Expr)(f:Str):Option CE:=_n
theorem Zq{o:Expr}{f:Str}{c:CE}(ok:Cok C X)(h:gp C Γ o f=_s c):PE X (.Attribute o f pos) (tE X.K Γ c.o c.Γ c.js c.f):=by cases h
def fR(r:Rec)(C:Cf)(Γ:Gm)(e:Expr):Option CE:=match e with
 |.Constant k _ _=>Zt Γ k
 |.Name x _=>Zk C Γ x
 |.BinOp a op b _=>qo r C Γ a op b
 |.UnaryOp .USub a _=>qh r C Γ a
 |.UnaryOp .Not a _=>qg r C Γ a
 |.Compare a [op] [b] _=>(Rj r C Γ a op b).map mr
 |.Compare a [op,d] [b,c] _=>(Vf r C Γ a op b d c).map mr
 |.BoolOp op vs pos=>WV r C Γ op vs pos
 |.IfExp c a b _=>qk r C Γ c a b
 |.Call f es ks pos=>NP r C Γ f es ks pos
 |.Tuple es _ _=>qe r C Γ es
 |.List es _=>qj r C Γ es
 |.Dict [] [] _=>_s ⟨1,Γ,[],Yk⟩
 |.Subscript a (.Slice lo hi _n _) _=>uT r C Γ a lo hi
 |.Subscript a (.Slice _n _n (_s st) _) _=>lY r C Γ a st
 |.Subscript a b _=>if IK b then tH r C Γ a b else _n
 |.ListComp e gens sc _=>Ph r C Γ e gens sc
 |.Attribute o f _=>gp C Γ o f
 |_=>_n
theorem WT(R:OkR r){c:CE}(ok:Cok C X)(h:fR r C Γ e=_s c):PE X e (tE X.K Γ c.o c.Γ c.js c.f):=by
 match e,h with
 |.Constant k j pos,h=>exact Vd h
 |.Name x pos,h=>exact Zj ok h
 |.BinOp a op b pos,h=>exact eL R ok h
 |.UnaryOp op a pos,h=>
  cases op with|USub=>exact dw R ok h|Not=>refine zAQ (show(r.E C Γ a).bind _=_s c from h) λl i h=>?_;cases h;exact PE.imp (jY (Ew (R.E ok i))) λ_ _ _ h=>iL h|_=>cases h
 |.Compare a ops bs pos,h=>
  match ops,bs,h with
  |[op],[b],h=>
   cases q:Rj r C Γ a op b with|none=>replace h:(Rj r C Γ a op b).map mr=_s c:=h;rw[q]at h;cases h|some t=>replace h:(Rj r C Γ a op b).map mr=_s c:=h;rw[q]at h;cases h;exact(Tn R ok q).2 1
  |[op,g],[b,d],h=>
   cases q:Vf r C Γ a op b g d with|none=>replace h:(Vf r C Γ a op b g d).map mr=_s c:=h;rw[q]at h;cases h|some t=>replace h:(Vf r C Γ a op b g d).map mr=_s c:=h;rw[q]at h;cases h;exact(To R ok q).2 1
  |[],_,h=>cases h
  |[_],[],h=>cases h
  |[_],_::_::_,h=>cases h
  |[_,_],[],h=>cases h
  |[_,_],[_],h=>cases h
  |[_,_],_::_::_::_,h=>cases h
  |_::_::_::_,_,h=>cases h
 |.BoolOp op vs pos,h=>exact UF R ok h
 |.IfExp c a b pos,h=>exact eB R ok h
 |.Call f es ks pos,h=>exact Vi R ok h
 |.Tuple es k pos,h=>exact de R ok h
 |.List es pos,h=>exact eA R ok h
 |.Dict ks vs pos,h=>
  cases ks with
  |nil=>
   cases vs with|nil=>cases h;exact oC|cons _ _=>cases h
  |cons _ _=>cases h
 |.Subscript a b pos,h=>
  have ix:IK b=_t->(if IK b then tH r C Γ a b else _n)=_s c->PE X (.Subscript a b pos) (tE X.K Γ c.o c.Γ c.js c.f):=λhb h=>by rw[if_pos hb]at h;exact mF R ok hb h
  match b,h with
  |.Slice lo hi st p2,h=>
   cases st with
   |none=>exact lV R ok h
   |some st=>
    cases lo with
    |none=>
     cases hi with|none=>exact di R ok h|some _=>cases h
    |some _=>cases h
  |.NamedExpr ..,h|.BinOp ..,h|.Lambda ..,h|.Dict ..,h|.Set ..,h|.ListComp ..,h|.SetComp ..,h|.DictComp ..,h|.GeneratorExp ..,h|.Await ..,h|.Yield ..,h|.YieldFrom ..,h|.Call ..,h|.FormattedValue ..,h|.JoinedStr ..,h|.Constant ..,h|.Attribute ..,h|.Subscript ..,h|.Starred ..,h|.Name ..,h|.List ..,h|.Tuple ..,h|.UnaryOp ..,h|.BoolOp ..,h|.IfExp ..,h|.Compare ..,h=>exact ix rfl h
 |.ListComp e gens sc pos,h=>exact Pg R ok h
 |.Attribute o f pos,h=>exact Zq ok h
 |.NamedExpr ..,h|.Lambda ..,h|.Set ..,h|.SetComp ..,h|.DictComp ..,h|.GeneratorExp ..,h|.Await ..,h|.Yield ..,h|.YieldFrom ..,h|.FormattedValue ..,h|.JoinedStr ..,h|.Starred ..,h|.Slice ..,h=>cases h
noncomputable def Qq:Expr->Bool
 |.ListComp ..=>_f
 |.SetComp ..=>_f
 |.DictComp ..=>_f
 |_=>_t
variable{env:Env}
theorem GW{t:Option Expr}{l:Nat}(h:Qq e=_t):U3 e t l env=pure false:=by cases e<;>first|rfl|(cases h)
theorem Vw{K:W.Frag}{Γ' c:Gm}{js:List Nat}{o:Nat}{f:Ev Dv}{σ:St}{H:Hp}{Q:VK}(l:Cd c Γ'=_t)(h:tE K Γ o c js f σ H Q):tE K Γ o Γ' js f σ H Q:=by obtain⟨g,m,P,r,R,k,res,e,q⟩:=h;refine⟨g,m,P,r,R,k,res,e,λb m' g' P' Pv v H' t w s rv d n=>?_⟩;obtain⟨u,P2,s2,j⟩:=d.weaken l;have i:Bg Pv P':=λa q z=>n a z q;refine q b m' u P2 Pv v H' t w (s.trans ((s2.frame (R:=Pv)).sub (λ_ z=>z) λ_ z=>z)) (rv.held s2 d.zAR i) j λa q z=>s2.out rv.zAR i a z q
def Wd(Γ:Gm):CS:=⟨_s Γ,[],KI,_f,_f,_f⟩
def qf(r:Rec)(C:Cf)(Γ:Gm)(e:Expr):Option CS:=(match RB C e with
 |some i=>(match Γ.getD i _n with|some o=>_s (CE.mk o (Γ.set i _n) [] (TQ i))|none=>_n)
 |none=>(match aS C e with
  |some q=>if Γ.getD q.1 _n==_s 1&&!C.F.io.contains q.1 then _s (CE.mk 1 (Γ.set q.1 _n) [] (Yt q.1 q.2))else r.E C Γ e
  |none=>r.E C Γ e)).bind λc=>if Cd C.F.Γr c.Γ&&(C.F.ro==0||c.o==C.F.ro)then _s ⟨_n,c.js,gR c.f,_t,_f,_f⟩ else _n
variable{Γl:Option Gm}{c:CS}
theorem dk(R:OkR r)(ok:Cok C X)(h:qf r C Γ e=_s c):PS X (.Return (_s e) pos) (tS X.K C.F Γl Γ c.Γ c.js c.f):=by
  refine zAQ h λj d h=>?_;split at h;rename_i k;simp only[A3,o4,beq_iff_eq]at k;cases h;have he:PE X e (tE X.K Γ j.o j.Γ j.js j.f):=by split at d;rename_i i hi;split at d;rename_i o n;cases d;exact oA (Cc ok hi) (BF n);cases d;split at d;rename_i q g;split at d;rename_i m;rw[A3]at m;cases d;unfold aS at g;split at g;split at g;obtain⟨i,hi,g⟩:=G3.mp g;cases g;exact PE.imp (Xa (Cc ok hi) (Ot hi)) λ_ _ _ h=>Xs (BF (eq_of_beq m.1)) h;cases g;cases g;exact R.E ok d;exact R.E ok d
  have l:PE X e (tE X.K Γ C.F.ro j.Γ j.js j.f):=by
    rcases k.2 with z|z
    rw[z];exact Ew he;rw[<- z];exact he
  exact nZ (PE.imp l λ_ _ _ h=>Vw k.1 h);cases h
def gb(C:Cf)(Γ:Gm):Option CS:=_n
theorem Zb(h:gb C Γ=_s c):PS X (.Return _n pos) (tS X.K C.F Γl Γ c.Γ c.js c.f):=by cases h
def mH(r:Rec)(C:Cf)(Γ:Gm)(e:Expr):Option CS:=if Qq e then(r.E C Γ e).bind λc=>_s ⟨_s c.Γ,c.js,Yu c.f,_f,_f,_f⟩ else _n
theorem Tj(R:OkR r)(ok:Cok C X)(h:mH r C Γ e=_s c):PS X (.Expr e pos) (tS X.K C.F Γl Γ c.Γ c.js c.f):=by unfold mH at h;split at h;rename_i d;refine zAQ h λi g h=>?_;cases h;exact ik (R.E ok g) (GW d);cases h
def Ti(C:Cf)(x:Str)(c:CE):Option CS:=(NU C x).bind λi=>if decide (i < c.Γ.length)&&!C.F.io.contains i then _s ⟨_s (c.Γ.set i (_s c.o)),c.js++[i],Lo c.f (nG i),_f,_f,_f⟩ else _n
variable{x:Str}{pos':Pos}
theorem Pc{d:CE}(ok:Cok C X)(he:PE X e (tE X.K Γ d.o d.Γ d.js d.f))(hs:U3 e (_s (.Name x pos')) pos.line X.env=pure _f)(h:Ti C x d=_s c):PS X (.Assign [.Name x pos'] e pos) (tS X.K C.F Γl Γ c.Γ c.js c.f):=by refine zAQ h λi j h=>?_;split at h;rename_i g;simp only[A3,decide_eq_true_eq,O1]at g;cases h;obtain⟨h1,h2,h3⟩:=NT ok j;exact nY ok.nd h1 h2 (λz=>by rw[D1.mpr z]at g;cases g.2) g.1 he hs h3;cases h
def sS(sc:O0)(x:Str)(pl:Nat)(scope:O0)(vl:Nat):Bool:=(if sc.kind.isAnnotationScope then ScopeKind.function else sc.kind)==.function&&sc.names.lookup x==_s .local&&pl==vl&&!(scope.names.any fun(n,k)=>n==x&&(k==.local||k==.cell))
variable{gens:List X8}{scope:O0}
theorem WM(ok:Cok C X){d:Expr}{l:Nat}:U3 (.ListComp d gens scope pos) (_s (.Name x pos')) l X.env=pure (sS C.sc x pos'.line scope pos.line):=by unfold sS;rw[<- ok.sc];rfl
theorem Ve(R:OkR r){d:Expr}{pos:Pos}{c:CE}(ok:Cok C X)(h:Ph r C Γ d gens scope=_s c) :
    ∃t:TE,(∀σ H Q,tE X.K Γ c.o c.Γ c.js c.f σ H Q->t σ H Q)/\∀{i x pos' g},X.N[i]?=_s x->Loc X.env.scope x->(X.fn x=_t\/X.env.scope.names.lookup x=_s .local)->U3 (.ListComp d gens scope pos) (_s (.Name x pos')) g.line X.env=pure _t->PS X (.Assign [.Name x pos'] (.ListComp d gens scope pos) g) (Kk t (DY i)):=by
  obtain⟨t,h1,_,h3⟩:=Lz (pos:=pos) R ok h;exact⟨t,h1,h3⟩
def gq(r:Rec)(C:Cf)(Γ:Gm)(x:Str)(d:Expr)(gens:List X8)(scope:O0):Option CS:=(Ph r C Γ d gens scope).bind λc=>Ti C x c
theorem Zw(R:OkR r){g:Expr}{d:Pos}(ok:Cok C X)(h:gq r C Γ x g gens scope=_s c):PS X (.Assign [.Name x pos'] (.ListComp g gens scope d) pos) (tS X.K C.F Γl Γ c.Γ c.js c.f):=by
 refine zAQ h λo k h=>?_;cases hb:sS C.sc x pos'.line scope d.line with|false=>exact Pc ok (Pg R ok k) (by rw[WM ok,hb]) h|true=>refine zAQ h λi n h=>?_;split at h;rename_i j;simp only[A3,decide_eq_true_eq,O1]at j;cases h;obtain⟨h1,h2,h3⟩:=NT ok n;obtain⟨t,m,l⟩:=Ve R (pos:=d) ok k;refine PS.imp (l h1 h2 h3 (by rw[WM ok,hb])) λD σ H h=>m _ _ _ (SO j.1 (λz=>by rw[D1.mpr z]at j;cases j.2) h);cases h
noncomputable def pA:Expr->Bool
 |.Tuple ..=>_f
 |_=>_t
theorem UD{tg:Expr}(h:pA e=_t):U0 [tg] e env=pure none:=by
 cases tg with
 |Tuple=>cases e<;>first|rfl|cases h
 |List=>cases e<;>first|rfl|cases h
 |_=>rfl
theorem ay{tg:Expr}{l:Nat}(h:Qq e=_t):k7 [tg] e l env=pure false:=GW h
noncomputable def gM:Expr->Bool
 |.Tuple vs _ _=>vs.all (vz 8)
 |_=>_f
theorem Nr{k:Nat}(h:gM e=_t):U0 [.Tuple es k p] e env=pure none:=by
 cases e with
 |Tuple vs d p1=>
  have h:vs.all (vz 8)=true:=h;unfold U0;simp only[h,if_true]
  repeat' split
  all_goals rfl
 |_=>cases h
def Tq(r:Rec)(C:Cf)(Γ:Gm)(es:List Expr)(k:Nat)(p:Pos)(e:Expr):Option CS:=if(pA e||gM e)&&Qq e then(r.E C Γ e).bind λc=>(cG C (.Tuple es k p)).bind λt=>if t.J.all (λi=>decide (i < c.Γ.length)&&!C.F.io.contains i)then _s ⟨_s (t.Γ c.Γ),c.js++t.J,Lo c.f t.f,_f,_f,_f⟩ else _n else _n
theorem Pi(R:OkR r){k:Nat}(ok:Cok C X)(h:Tq r C Γ es k p e=_s c):PS X (.Assign [.Tuple es k p] e pos) (tS X.K C.F Γl Γ c.Γ c.js c.f):=by unfold Tq at h;split at h;rename_i g;rw[A3,o4]at g;refine zAQ h λo n h=>?_;refine zAQ h λt m h=>?_;split at h;rename_i d;cases h;obtain⟨l,_,j⟩:=Pe ok m;rw[G4]at d;refine nr (Ew (R.E ok n)) l (j (by rw[G4];exact λi hi=>(Q0.mp (d i hi)).1)) (λi hi z=>?_) (ay g.2) (g.1.elim UD Nr) rfl;have:=(Q0.mp (d i z)).2;rw[D1.mpr hi]at this;cases this;cases h;cases h
def qU(i j:Nat)(g:Ev (List Dv)):Es:=λR m k=>g R m λds d=>match ds with|[a,b]=>k.nx ((d.set i a).set j b)|_=>_n
def jl(sc:O0)(x y:Str)(g d:Pos)(a b:Expr):Bool:=(match sc.kind with|.function=>_t|_=>_f)&&(match sc.names.lookup x with|some .local=>_t|_=>_f)&&(match sc.names.lookup y with|some .local=>_t|_=>_f)&&!(x==y)&&(d.line==g.line)&&BI a&&BI b&&!(vz 8 a&&vz 8 b)&&!(constantsAlone 8 a&&constantsAlone 8 b)
theorem jh{y:Str}{g d pt pt2:Pos}{kt k2:Nat}(h:jl env.scope x y g d a b=_t):U0 [.Tuple [.Name x g,.Name y d] kt pt] (.Tuple [a,b] k2 pt2) env=pure (_s [x,y])/\env.scope.names.lookup x=_s .local/\env.scope.names.lookup y=_s .local:=by
 unfold jl at h;simp only[A3,O1]at h;obtain⟨⟨⟨⟨⟨⟨⟨⟨h1,h2⟩,h3⟩,h4⟩,h5⟩,h6⟩,h7⟩,h8⟩,n⟩:=h;have m:env.scope.kind=.function:=by split at h1;(assumption);(cases h1)
 have k2:env.scope.names.lookup x=_s .local:=by split at h2;(assumption);(cases h2)
 have i:env.scope.names.lookup y=_s .local:=by split at h3;(assumption);(cases h3)
 refine⟨?_,k2,i⟩;have l:env.kindOf x=_s .local:=k2;have k:env.kindOf y=_s .local:=i;have j:(y==x)=false:=by
  cases q:y==x with|false=>rfl|true=>rw[beq_iff_eq.mp q,beq_self_eq_true]at h4;cases h4
 unfold U0;simp[Env.blockKind,m,ScopeKind.isAnnotationScope,l,k,beq_iff_eq.mp h5,h8,n,List.eraseDups_cons,j,h4,Expr.pos];rintro(z|z);cases a<;>first|(cases z;done)|(cases h6;done)
 cases b<;>first|(cases z;done)|(cases h7;done)
def lZ(r:Rec)(C:Cf)(Γ:Gm)(x y:Str)(g d:Pos)(a b:Expr):Option CS:=if jl C.sc x y g d a b then(r.A C Γ [] [a,b]).bind λc=>(EK C.N x).bind λi=>(EK C.N y).bind λj=>if decide (i < c.Γ.length)&&decide (j < c.Γ.length)&&!(i==j)&&!C.F.io.contains i&&!C.F.io.contains j then _s ⟨_s ((c.Γ.set i (_s 0)).set j (_s 0)),c.js++([i]++[j]),qU i j (AQ c.as),_f,_f,_f⟩ else _n else _n
theorem dq(R:OkR r){y:Str}{u t pt pt2:Pos}{kt k2:Nat}(ok:Cok C X)(h:lZ r C Γ x y u t a b=_s c):PS X (.Assign [.Tuple [.Name x u,.Name y t] kt pt] (.Tuple [a,b] k2 pt2) pos) (tS X.K C.F Γl Γ c.Γ c.js c.f):=by
 unfold lZ at h;split at h;rename_i w;refine zAQ h λc1 Z h=>?_;refine zAQ h λi Y h=>?_;refine zAQ h λj W h=>?_;split at h;rename_i v;simp only[A3,decide_eq_true_eq,O1,beq_eq_false_iff_ne]at v;obtain⟨⟨⟨⟨G,E⟩,B⟩,o⟩,n⟩:=v;cases h;obtain⟨a1,a2,a3,a4,a5⟩:=R.A ok Z;rw[<- ok.sc]at w;obtain⟨p1,p2,U⟩:=jh (pt:=pt) (pt2:=pt2) (kt:=kt) (k2:=k2) w;refine PS.imp (jJ ok.calm ok.nd (by rw[ok.N];exact Bw Y) (by rw[ok.N];exact Bw W) B p2 U a1 p1 rfl) λD σ H h=>?_;obtain⟨g,m,P,T,R',k,res,e,q⟩:=h;refine AM c1.as T a2 e λds m1 V P1 vs H1 d ag s ar S=>?_;have l:=ar.zBi (a5 rfl)
 match ds,d,l with
 |[d1,d2],d,l=>
  obtain⟨J,us,rfl,h1,l⟩:=Ab l;obtain⟨I,L,rfl,h2,l⟩:=Ab l;cases Ai l;obtain⟨P2,Q,s2⟩:=S.zBI G h1 λ_ z=>z.elim;obtain⟨P3,O,M⟩:=Q.zBI (by rw[D8];exact E) h2 λ_ z=>z.elim;refine⟨J,I,rfl,q.nx _ _ V P3 _ H1 rfl d (ag.trans (Bm.set.trans Bm.set)) (s.less λa z=>(M a z).elim (λz=>(s2 a z).elim id E7) E7) ((Io.set ?_).trans (Io.set ?_)) O⟩;exact λz=>by rw[D1.mpr z]at o;cases o
  exact λz=>by rw[D1.mpr z]at n;cases n
 |[],d,_=>cases d
 |[_],d,_=>cases d
 |_::_::_::_,d,_=>cases d
 cases h;cases h
def ZW(r:Rec)(C:Cf)(Γ:Gm)(x k e:Expr):Option CS:=if IK k then(RB C x).bind λi=>(r.E C Γ e).bind λc=>(Vk r C c.Γ k).bind λa=>if(c.Γ.getD i _n).isSome&&a.Γ.getD i _n==_s 1 then _s ⟨_s a.Γ,c.js++((a.js++[])++[i]),gP i C.T.st c.f (AQ [a.a]),_f,_f,_f⟩ else _n else _n
variable{k:Expr}{zAs:Pos}
theorem LG{x:Expr}(d:IK k=_t):∀v,Y8 (.Subscript x k zAs) X.env v=(do
      let ov <- p8 [v] (N2 x X.env)
      let iv <- p8 [v,ov] (N2 k X.env)
      yF zAs
      p8 [v,ov,iv] (zG ov iv v)
      release [v,ov,iv] []):=λv=>by
  cases k<;>first|rfl|(cases d)
theorem Ny{x:Expr}{l:Nat}:k7 [.Subscript x k p] e l env=pure false:=by cases e<;>rfl
theorem ZV(R:OkR r){x:Expr}(ok:Cok C X)(h:ZW r C Γ x k e=_s c):PS X (.Assign [.Subscript x k zAs] e pos) (tS X.K C.F Γl Γ c.Γ c.js c.f):=by
 unfold ZW at h;split at h
 ·rename_i l;refine zAQ h λi o h=>?_
  refine zAQ h λt n h=>?_;refine zAQ h λa m h=>?_;split at h
  ·rename_i d;rw[A3]at d;cases h;obtain⟨s,q⟩:=Iy R ok m;obtain⟨T,j,g⟩:=C.T.zDz X ok.gx;refine PS.imp (Qf (Ew (R.E ok n)) (XR (Cc ok o) s j (LG l)) Ny ?_ rfl) λD σ H h=>We g q (getD_some d.1) (BF (beq_iff_eq.mp d.2)) h
   cases e<;>rfl
  cases h
 cases h
def ZY(r:Rec)(C:Cf)(Γ:Gm)(q:Nat×Str)(k e:Expr):Option CS:=if IK k then(r.E C Γ e).bind λc=>(Vk r C c.Γ k).bind λa=>if(c.Γ.getD q.1 _n).isSome&&a.Γ.getD q.1 _n==_s 1 then _s ⟨_s a.Γ,c.js++((a.js++[])++[q.1]),Yi q.1 q.2 C.T.st c.f (AQ [a.a]),_f,_f,_f⟩ else _n else _n
theorem ZX(R:OkR r){x:Expr}{q:Nat×Str}(ok:Cok C X)(j:aS C x=_s q)(h:ZY r C Γ q k e=_s c):PS X (.Assign [.Subscript x k zAs] e pos) (tS X.K C.F Γl Γ c.Γ c.js c.f):=by
 unfold ZY at h;split at h
 ·rename_i l;refine zAQ h λt n h=>?_
  refine zAQ h λa m h=>?_;split at h
  ·rename_i d;rw[A3]at d;cases h;obtain⟨s,o⟩:=Iy R ok m;obtain⟨T,i,g⟩:=C.T.zDz X ok.gx;refine PS.imp (Qf (Ew (R.E ok n)) (XR (KH ok j) s i (LG l)) Ny ?_ rfl) λD σ H h=>Wi g o (getD_some d.1) (BF (beq_iff_eq.mp d.2)) h
   cases e<;>rfl
  cases h
 cases h
def Za(r:Rec)(C:Cf)(Γ:Gm)(x k e:Expr):Option CS:=match aS C x with
 |some q=>ZY r C Γ q k e
 |none=>ZW r C Γ x k e
theorem ZZ(R:OkR r){x:Expr}(ok:Cok C X)(h:Za r C Γ x k e=_s c):PS X (.Assign [.Subscript x k zAs] e pos) (tS X.K C.F Γl Γ c.Γ c.js c.f):=by unfold Za at h;split at h;rename_i q d;exact ZX R ok d h;exact ZV R ok h
def Zs(r:Rec)(C:Cf)(Γ:Gm)(o:Expr)(f:Str)(e:Expr):Option CS:=if Qq e then(RB C o).bind λi=>(r.E C Γ e).bind λc=>if decide (c.o<=1)&&c.Γ.getD i _n==_s 1 then _s ⟨_s c.Γ,c.js++[i],Ys i f c.o c.f,_f,_f,_f⟩ else _n else _n
theorem Zr(R:OkR r){o:Expr}{f:Str}(ok:Cok C X)(h:Zs r C Γ o f e=_s c):PS X (.Assign [.Attribute o f zAs] e pos) (tS X.K C.F Γl Γ c.Γ c.js c.f):=by unfold Zs at h;split at h;rename_i g;refine zAQ h λi hi h=>?_;refine zAQ h λl j h=>?_;split at h;rename_i d;simp only[A3,decide_eq_true_eq]at d;cases h;exact PS.imp (jK (Cc ok hi) (R.E ok j) (GW g)) λD σ H h=>Yc d.1 (BF (beq_iff_eq.mp d.2)) h;cases h;cases h
def gG:Option Gm->Option Gm->Option Gm
 |some a,_s b=>_s (Bu a b)
 |none,b=>b
 |a,_n=>a
def uY(r:Rec)(C:Cf)(Γl:Option Gm)(Γ:Gm)(c:Expr)(a b:List N4):Option CS:=(r.T C Γ c).bind λt=>(r.Ss C Γl t.Γ a).bind λx=>(r.Ss C Γl t.Γ b).bind λy=>let Γn:=gG x.Γ y.Γ;let js:=t.js++(x.js++y.js);if Na Γn x.Γ&&Na Γn y.Γ then _s ⟨Γn,js,match x.Γ,y.Γ,Γn with
      |some _,_s _,_s Γ'=>if x.er||x.eb||x.ec||y.er||y.eb||y.ec then Oy t.f x.f y.f else qV (Bl Γ' js) (Oy t.f x.f y.f)
      |_,_,_=>Oy t.f x.f y.f,x.er||y.er,x.eb||y.eb,x.ec||y.ec⟩ else _n
theorem mG(R:OkR r){t:Expr}{a b:List N4}(ok:Cok C X)(h:uY r C Γl Γ t a b=_s c):PS X (.If t a b pos) (tS X.K C.F Γl Γ c.Γ c.js c.f):=by refine zAQ h λct m h=>?_;refine zAQ h λx l h=>?_;refine zAQ h λy j h=>?_;simp only at h;split at h;rename_i d;rw[A3]at d;have base:PS X (.If t a b pos) (tS X.K C.F Γl Γ (gG x.Γ y.Γ) (ct.js++(x.js++y.js)) (Oy ct.f x.f y.f)):=sU (R.T ok m) (Wk (R.Ss ok l) d.1) (Wk (R.Ss ok j) d.2);cases h;split;rename_i Γ' _ _ g;split;exact base;simp only[g]at base ⊢;exact PS.imp base λD σ H h=>ki (λi o z=>Br z) (λi z=>BW z) h;exact base;cases h
def qp(r:Rec)(C:Cf)(Γ:Gm)(x:Str)(op:xF)(e:Expr):Option CS:=_n
theorem eN(R:OkR r){op:xF}(ok:Cok C X)(h:qp r C Γ x op e=_s c):PS X (.AugAssign (.Name x pos') op e pos) (tS X.K C.F Γl Γ c.Γ c.js c.f):=by cases h
def Ye(r:Rec)(C:Cf)(pre:Gm->Gm)(body:List N4):Nat->Gm->Option (Gm×CS)
 |0,_=>_n
 |n+1,Γ=>match r.Ss C (_s Γ) (pre Γ) body with
  |some x=>if Na (_s Γ) x.Γ then _s (Γ,x)else Ye r C pre body n (match x.Γ with|some Γ'=>Bu Γ Γ' | none=>Γ)
  |none=>Ye r C pre body n (Γ.map λo=>o.map λ_=>0)
theorem Mv{r:Rec}{C:Cf}{pre:Gm->Gm}{body:List N4}:∀{n:Nat}{Γ:Gm}{p:Gm×CS},Ye r C pre body n Γ=_s p->r.Ss C (_s p.1) (pre p.1) body=_s p.2/\Na (_s p.1) p.2.Γ=_t
 |0,_,_,h=>by cases h
 |n+1,Γ,p,h=>by unfold Ye at h;split at h;rename_i x d;split at h;rename_i g;cases h;exact⟨d,g⟩;exact Mv h;exact Mv h
def ql(r:Rec)(C:Cf)(Γ:Gm)(tg iter:Expr)(body:List N4):Option CS:=(match iter with|.Set _ _ _=>_n|_=>r.I C Γ (Ol tg) iter).bind λs=>(cG C tg).bind λt=>if t.J.all (λi=>decide (i < s.Γ.length)&&!C.F.io.contains i)then(Ye r C t.Γ body 4 s.Γ).bind λp=>if Cd p.1 s.Γ then
    let jb:=t.J++p.2.js
    _s ⟨_s p.1,s.js++jb,if p.2.er||p.2.eb then Yq s.f t.f (Bl p.1 jb) (Bl C.F.Γr jb) p.2.f else Yr s.f t.f (Bl p.1 jb) p.2.f,p.2.er,_f,_f⟩ else _n else _n
theorem eI(R:OkR r){tg iter:Expr}{body:List N4}(ok:Cok C X)(h:ql r C Γ tg iter body=_s c):PS X (.For tg iter body [] pos) (tS X.K C.F Γl Γ c.Γ c.js c.f):=by
 refine zAQ h λs j h=>?_;refine zAQ h λt y h=>?_;split at h;rename_i g;refine zAQ h λp v h=>?_;split at h;rename_i l;have hs:∀x,Q3 iter X.env x=pure x:=λx=>by cases iter<;>first|rfl|(cases j)
 have hI:r.I C Γ (Ol tg) iter=_s s:=by cases iter<;>first|exact j|(cases j)
 obtain⟨u,f2⟩:=Mv v;obtain⟨q,_,o⟩:=Pe ok y;rw[G4]at g;have n:t.J.all (λi=>decide (i < p.1.length))=true:=by rw[G4];intro i hi;rw[Fl l];exact(Q0.mp (g i hi)).1
 have d:∀i∈C.F.io,i∉t.J:=λi hi z=>by have:=(Q0.mp (g i z)).2;rw[D1.mpr hi]at this;cases this
 have hi:PI X tg iter (tI X.K Γ p.1 s.js s.f):=PI.imp (R.I tg ok hI) λ_ _ _ h=>aY l h;have m:u3 (D9 X.prog X.w) X.A X.env X.xe:=by rw[ok.xe];exact zD
 have hb:=R.Ss ok u;simp only at h;cases h;split;exact ig m ok.calm hi q (o n) d hb f2 rfl rfl hs;exact ij m ok.calm hi q (o n) d hb f2 rfl hs;cases h;cases h
noncomputable def tZ:Nat:=1000000
def rW(r:Rec)(C:Cf)(Γ:Gm)(c:Expr)(body:List N4):Option CS:=(fixW r C c body 4 Γ).bind λp=>if Cd p.1 Γ&&!(p.2.2.er||p.2.2.eb)then _s ⟨_s p.1,p.2.2.js,gN tZ p.2.1.f (Bl p.1 p.2.2.js) p.2.2.f,p.2.2.er,_f,_f⟩ else _n
where
 fixW (r:Rec) (C:Cf) (c:Expr) (body:List N4):Nat->Gm->Option (Gm×CT×CS)
 |0,_=>_n
 |n+1,Γ=>(r.T C Γ c).bind λt=>if t.js.isEmpty&&Cd Γ t.Γ then(match r.Ss C (_s Γ) Γ body with
  |some x=>if Na (_s Γ) x.Γ then _s (Γ,t,x)else fixW r C c body n (match x.Γ with|some Γ'=>Bu Γ Γ' | none=>Γ)
  |none=>fixW r C c body n (Γ.map λo=>o.map λ_=>0))else fixW r C c body n (Bu Γ t.Γ)
theorem Iu{r:Rec}{C:Cf}{c:Expr}{body:List N4}:∀{n:Nat}{Γ:Gm}{p:Gm×CT×CS},rW.fixW r C c body n Γ=_s p->r.T C p.1 c=_s p.2.1/\p.2.1.js=[]/\Cd p.1 p.2.1.Γ=_t/\r.Ss C (_s p.1) p.1 body=_s p.2.2/\Na (_s p.1) p.2.2.Γ=_t
 |0,_,_,h=>by cases h
 |n+1,Γ,p,h=>by unfold rW.fixW at h;refine zAQ h λt i h=>?_;split at h;rename_i d;rw[A3]at d;split at h;rename_i x g;split at h;rename_i hl;cases h;exact⟨i,j6.mp d.1,d.2,g,hl⟩;exact Iu h;exact Iu h;exact Iu h
theorem nc{F:Fr}{Γn:Option Gm}{Γ':Gm}{js:List Nat}{s:N4}{f:Es}(l:Cd Γ' Γ=_t)(h:PS X s (tS X.K F Γl Γ' Γn js f)):PS X s (tS X.K F Γl Γ Γn js f):=PS.imp h λD σ H h=>by obtain⟨g,m,P,r,R,k,res,e,q⟩:=h;obtain⟨n,P2,s2,j⟩:=r.weaken l;exact⟨n,m,P2,j,R,k,res,e,⟨λΓ' m' g' P' σ' H' e i a s'=>q.nx Γ' m' g' P' σ' H' e i a (s2.trans s'),λd m' g' P' Pv σ' v H' i a s'=>q.rt d m' g' P' Pv σ' v H' i a (s2.trans s'),λΓ' m' g' P' σ' H' e i a s'=>q.bk Γ' m' g' P' σ' H' e i a (s2.trans s'),λΓ' m' g' P' σ' H' e i a s'=>q.ct Γ' m' g' P' σ' H' e i a (s2.trans s')⟩⟩
theorem lR(R:OkR r){t:Expr}{body:List N4}(ok:Cok C X)(h:rW r C Γ t body=_s c):PS X (.While t body [] pos) (tS X.K C.F Γl Γ c.Γ c.js c.f):=by
 refine zAQ h λp o h=>?_;split at h;rename_i d;cases h;obtain⟨n,f2,m,l,j⟩:=Iu o;have i:u3 (D9 X.prog X.w) X.A X.env X.xe:=by rw[ok.xe];exact zD
 have g:=R.T ok n;rw[f2]at g;rw[A3]at d;exact nc d.1 (nX tZ i g (R.Ss ok l) m j rfl);cases h
def qW:Es:=λ_ m k=>k.ct m
def lH:Es:=λ_ _ _=>_n
def qm(Γl:Option Gm)(Γ:Gm):Option CS:=_n
def mJ(Γl:Option Gm)(Γ:Gm):Option CS:=match Γl with
 |some Γ'=>if Cd Γ' Γ then _s ⟨_n,[],qW,_f,_f,_t⟩ else _n
 |none=>_n
theorem eK(h:qm Γl Γ=_s c):PS X (.Break pos) (tS X.K C.F Γl Γ c.Γ c.js c.f):=by cases h
theorem eJ(h:mJ Γl Γ=_s c):PS X (.Continue pos) (tS X.K C.F Γl Γ c.Γ c.js c.f):=by
  unfold mJ at h;split at h;rename_i Γ';split at h;rename_i i;cases h;exact PS.imp OP λD σ H h=>by obtain⟨g,m,P,r,R,k,res,e,q⟩:=h;obtain⟨j,P2,s2,d⟩:=r.weaken i;exact q.ct Γ' m j P2 σ H rfl e Bm.refl s2 Io.refl d
  cases h;cases h
noncomputable def fh(es:List Expr)(e:Expr):Option (Str×Pos×Str×Pos×Expr×Expr):=match es with
 |[.Name x g,.Name y d]=>match e with
  |.Tuple [a,b] _ _=>_s (x,g,y,d,a,b)
  |_=>_n
 |_=>_n
def ZU(r:Rec)(C:Cf)(Γ:Gm)(es:List Expr)(k:Nat)(p:Pos)(e:Expr):Option CS:=match fh es e with
 |some t=>(match lZ r C Γ t.1 t.2.2.1 t.2.1 t.2.2.2.1 t.2.2.2.2.1 t.2.2.2.2.2 with
  |some c=>_s c
  |none=>Tq r C Γ es k p e)
 |none=>Tq r C Γ es k p e
theorem ZT(R:OkR r){k:Nat}(ok:Cok C X)(h:ZU r C Γ es k p e=_s c):PS X (.Assign [.Tuple es k p] e pos) (tS X.K C.F Γl Γ c.Γ c.js c.f):=by unfold ZU at h;split at h;rename_i t q;split at h;rename_i g d;cases h;unfold fh at q;split at q;split at q;cases q;exact dq R ok d;cases q;cases q;exact Pi R ok h;exact Pi R ok h
theorem eS(R:OkR r)(ok:Cok C X)(h:(if Qq e then(r.E C Γ e).bind λc=>Ti C x c else _n)=_s c):PS X (.Assign [.Name x p] e pos) (tS X.K C.F Γl Γ c.Γ c.js c.f):=by split at h;rename_i d;refine zAQ h λi g h=>?_;exact Pc ok (R.E ok g) (GW d) h;cases h
def fQ(r:Rec)(C:Cf)(Γl:Option Gm)(Γ:Gm)(s:N4):Option CS:=match s with
 |.Pass _=>_s (Wd Γ)
 |.Expr (.Constant (.str _) _ _) _=>_s (Wd Γ)
 |.Expr e _=>mH r C Γ e
 |.Return (_s e) _=>qf r C Γ e
 |.Return _n _=>gb C Γ
 |.Assign [.Name x _] (.ListComp d gens scope _) _=>gq r C Γ x d gens scope
 |.Assign [.Name x _] e _=>if Qq e then(r.E C Γ e).bind λc=>Ti C x c else _n
 |.Assign [.Tuple es k p] e _=>ZU r C Γ es k p e
 |.Assign [.Subscript x k _] e _=>Za r C Γ x k e
 |.Assign [.Attribute o f _] e _=>Zs r C Γ o f e
 |.AugAssign (.Name x _) op e _=>qp r C Γ x op e
 |.If c a b _=>uY r C Γl Γ c a b
 |.For tg iter body [] _=>ql r C Γ tg iter body
 |.While c body [] _=>rW r C Γ c body
 |.Break _=>qm Γl Γ
 |.Continue _=>mJ Γl Γ
 |.Raise _ _ _=>_s ⟨_n,[],lH,_f,_f,_f⟩
 |_=>_n
theorem WQ(R:OkR r){s:N4}(ok:Cok C X)(h:fQ r C Γl Γ s=_s c):PS X s (tS X.K C.F Γl Γ c.Γ c.js c.f):=by
 cases s with
 |Pass _=>cases h;exact ic
 |Expr e _=>
  cases e with
  |Constant k _ _=>
   cases k with|str _=>cases h;exact nk|_=>exact Tj R ok h
  |_=>exact Tj R ok h
 |Return v _=>
  cases v with|none=>exact Zb h|some e=>exact dk R ok h
 |Assign ts e _=>
  match ts,h with
  |[],h=>cases h
  |t::_::_,h=>cases t<;>cases h
  |[t],h=>
   cases t with
   |Name x _=>
    cases e with|ListComp d gens scope _=>exact Zw R ok h|_=>exact eS R ok h
   |Tuple es k p=>exact ZT R ok h
   |Subscript x k _=>exact ZZ R ok h
   |Attribute o f _=>exact Zr R ok h
   |_=>cases h
 |AugAssign t op e _=>
  cases t with|Name x _=>exact eN R ok h|_=>cases h
 |If c a b _=>exact mG R ok h
 |For tg iter body o _=>
  cases o with|nil=>exact eI R ok h|cons _ _=>cases h
 |While c body o _=>
  cases o with|nil=>exact lR R ok h|cons _ _=>cases h
 |Break _=>exact eK h
 |Continue _=>exact eJ h
 |Raise _ _ _=>cases h;intro pins s σ H D I q;obtain⟨g,m,P,r,R,k,res,e,q⟩:=q;cases e
 |_=>cases h
def WO(r:Rec)(C:Cf)(Γl:Option Gm)(Γ:Gm)(ss:List N4):Option CS:=match ss with
 |[]=>_s (Wd Γ)
 |[s]=>r.S C Γl Γ s
 |s::ss=>(r.S C Γl Γ s).bind λx=>match x.Γ with
  |none=>_s x
  |some Γ'=>(r.Ss C Γl Γ' ss).bind λy=>_s ⟨y.Γ,x.js++y.js,qS x.f y.f,x.er||y.er,x.eb||y.eb,x.ec||y.ec⟩
theorem UE(R:OkR r){ss:List N4}(ok:Cok C X)(h:WO r C Γl Γ ss=_s c):FR X ss (tS X.K C.F Γl Γ c.Γ c.js c.f):=by
 match ss,h with
 |[],h=>cases h;exact ni
 |[s],h=>exact nh (R.S ok h)
 |s::s2::ss,h=>
  refine zAQ (show(r.S C Γl Γ s).bind _=_s c from h) λx g h=>?_;have h1:=R.S ok g;cases hx:x.Γ with|none=>simp only[hx]at h;cases h;rw[hx]at h1 ⊢;exact ie h1|some Γ'=>simp only[hx]at h;refine zAQ h λy d h=>?_;cases h;rw[hx]at h1;exact il (f:=x.f) (f2:=y.f) (js:=x.js) (js2:=y.js) h1 (R.Ss ok d)
def step(r:Rec):Rec:=⟨fR r,Nt r,fP r,WS r,fQ r,WO r⟩
def comp:Nat->Rec
 |0=>⟨λ_ _ _=>_n,λ_ _ _ _=>_n,λ_ _ _=>_n,λ_ _ _ _=>_n,λ_ _ _ _=>_n,λ_ _ _ _=>_n⟩
 |n+1=>step (comp n)
theorem Te:∀n,OkR (comp n)
 |0=>⟨(λ_ h=>by cases h),(λ_ h=>by cases h),(λ_ h=>by cases h),(λ_ _ h=>by cases h),(λ_ h=>by cases h),(λ_ h=>by cases h),λ_ h=>by cases h⟩
 |n+1=>have R:=Te n;⟨λok h=>WT R ok h,λok h=>WW R ok h,λok h=>WN R ok h,λtg ok h=>WR R tg ok h,λok h=>WQ R ok h,λok h=>UE R ok h,λok h _ _ g d=>UG R ok h g d⟩
noncomputable def oj(sc:O0):List Str:=sc.names.filterMap λp=>match p.2 with|.local=>_s p.1|.cell=>_s p.1|_=>_n
mutual
noncomputable def An:Expr->List Str
 |.ListComp e gs sc _=>oj sc++An e++Xl gs
 |.BoolOp _ vs _=>CH vs
 |.BinOp a _ b _=>An a++An b
 |.UnaryOp _ a _=>An a
 |.IfExp a b c _=>An a++An b++An c
 |.Compare a _ bs _=>An a++CH bs
 |.Call f es _ _=>An f++CH es
 |.Attribute a _ _=>An a
 |.Subscript a b _=>An a++An b
 |.Slice a b c _=>Jp a++Jp b++Jp c
 |.List es _=>CH es
 |.Tuple es _ _=>CH es
 |.Dict _ vs _=>CH vs
 |.JoinedStr vs _=>CH vs
 |.FormattedValue v _ _ _=>An v
 |_=>[]
noncomputable def CH:List Expr->List Str
 |[]=>[]
 |e::es=>An e++CH es
noncomputable def Jp:Option Expr->List Str
 |none=>[]
 |some e=>An e
noncomputable def Xl:List X8->List Str
 |[]=>[]
 |⟨_,it,ifs,_⟩::gs=>An it++CH ifs++Xl gs
end
mutual
noncomputable def kL:N4->List Str
 |.Return v _=>Jp v
 |.Assign ts v _=>CH ts++An v
 |.AugAssign t _ v _=>An t++An v
 |.Expr v _=>An v
 |.If c a b _=>An c++Fi a++Fi b
 |.For _ it b _ _=>An it++Fi b
 |.While c b _ _=>An c++Fi b
 |.Raise e _ _=>Jp e
 |_=>[]
noncomputable def Fi:List N4->List Str
 |[]=>[]
 |s::ss=>kL s++Fi ss
end
noncomputable def ZM:List Str->List Str->List Str
 |[],a=>a
 |x::xs,a=>if a.contains x then ZM xs a else ZM xs (a++[x])
def Am(st:N4):List Str:=(BQ st).args.map (·.arg)
def Cj(st:N4):List Str:=ZM (Am st++oj (AK st)++Fi (Ay st)) []
noncomputable def hd:(io:List Nat)->Jn Dv io->Dv
 |[],t=>t
 |_::_,t=>t.1
noncomputable def So:(J:List Nat)->HK J->List Dv
 |[],_=>[]
 |[_],d=>[d]
 |_::j::J,t=>t.1::So (j::J) t.2
def tl:(io:List Nat)->Jn Dv io->List Dv
 |[],_=>[]
 |i::io,t=>So (i::io) t.2
theorem Le:∀(J:List Nat)(m:M),So J (Aw J m)=J.map m.at
 |[],_=>rfl
 |[_],_=>rfl
 |i::j::J,m=>by show m.at i::So (j::J) (Aw (j::J) m)=_;rw[Le (j::J) m];rfl
theorem gJ(io:List Nat)(d:Dv)(m:M):hd io (gD io d m)=d:=by cases io<;>rfl
theorem fF(io:List Nat)(d:Dv)(m:M):tl io (gD io d m)=io.map m.at:=by
 cases io with|nil=>rfl|cons i io=>exact Le (i::io) m
def La(ps:List Str)(io:List Nat)(ro:Nat)(nb:Bool)(F:List Dv->Option (Jn Dv io))(cl:Option Str:=_n):Sig where
 ps:=ps
 io:=io
 ro:=ro
 nb:=nb
 fn:=λds=>(F ds).bind λt=>_s (hd io t,tl io t)
 cps:=λR ds k=>(F ds).bind λt=>k (hd io t) (tl io t)
 eq:=λR ds k=>by cases F ds<;>rfl
 cl:=cl
def kJ(io:List Nat):Kt (Jn Dv io):=⟨λm=>_s (gD io .non m),λd m=>_s (gD io d m),λ_=>_n,λ_=>_n⟩
@[reducible] def eX{b:Type}:Nat->(List b->Prop)->Prop
 |0,P=>P []
 |n+1,P=>∀a,eX n λl=>P (a::l)
theorem pC{b:Type}{n:Nat}:∀{P:List b->Prop},eX n P->∀l:List b,l.length=n->P l:=by
 induction n with
 |zero=>intro P h l e;cases l with|nil=>exact h|cons a t=>cases e
 |succ n c=>intro P h l e;cases l with|nil=>cases e|cons a t=>exact c (h a) t (zAA e)
structure Md:Type 1 where
 T:Tb
 cs:List (Str×Dv)
 bl:List Str
 fl:List Str
 rf:List Str
def qc(M:Md)(fs:List (Str×Sig))(st:N4)(io:List Nat)(ro:Nat):Cf:=⟨Cj st,AK st,λ_=>_t,fs,M.cs,M.bl,M.T,⟨io,Qb (Cj st).length io,ro⟩,M.fl,M.rf⟩
noncomputable def sV:Rec:=⟨λ_ _ _=>_n,λ_ _ _ _=>_n,λ_ _ _=>_n,λ_ _ _ _=>_n,λ_ _ _ _=>_n,λ_ _ _ _=>_n⟩
def cmp(n:Nat):Rec:=Nat.rec sV (λ_ r=>step r) n
theorem ZR:∀n,cmp n=comp n
 |0=>rfl
 |n+1=>by show step (cmp n)=step (comp n);rw[ZR n]
def bN(M:Md)(fs:List (Str×Sig))(st:N4)(io:List Nat)(ro:Nat):Option CS:=(cmp 100).Ss (qc M fs st io ro) _n (dU (Cj st).length (Am st).length io) (Ay st)
def Wl(M:Md)(fs:List (Str×Sig))(st:N4)(io:List Nat)(ro:Nat)(ds:List Dv):Option (Jn Dv io):=match bN M fs st io ro with
 |some c=>c.f (Jn Dv io) (ds++B6 ((Cj st).length-(Am st).length) .non) (kJ io)
 |none=>_n
noncomputable def isFn:ScopeKind->Bool
 |.function=>_t
 |_=>_f
noncomputable def cS:NameKind->Bool
 |.free=>_f
 |_=>_t
def ib(N P:List Str)(sc:O0):Bool:=isFn sc.kind&&!sc.isCoroutine&&!sc.isGenerator&&decide N.Nodup&&(N.take P.length==P)&&(P.all λx=>match sc.names.lookup x with|some .local=>_t|some .cell=>_t|_=>_f)&&sc.names.all λy=>cS y.2
theorem bL{N P:List Str}{sc:O0}(h:ib N P sc=_t):zBD N P sc:=by
 unfold ib at h;simp only[A3,O1,decide_eq_true_eq,G4]at h;obtain⟨⟨⟨⟨⟨⟨h1,h2⟩,h3⟩,h4⟩,h5⟩,h6⟩,h7⟩:=h;refine⟨?_,h2,h3,h4,by simpa using h5,λx b=>?_,λy a z=>?_⟩;cases q:sc.kind<;>first|rfl|(rw[q]at h1;cases h1)
 have:=h6 x b;split at this;rename_i e;exact .inl e;rename_i e;exact .inr e;cases this;have:=h7 y a;rw[z]at this;cases this
def mq(M:Md)(fs:List (Str×Sig))(st:N4)(io:List Nat)(ro:Nat):Bool:=ib (Cj st) (Am st) (AK st)&&decide io.Nodup&&(io.all λi=>decide (i < (Am st).length))&&decide ((Am st).length<=(Cj st).length)&&match bN M fs st io ro with
 |some c=>Na (_s (Qb (Cj st).length io)) c.Γ
 |none=>_f
section
variable{P:F9}{w:J5}{K:W.Frag}{mg:Str->Option _v}{base:K4}
structure Bs (M:Md) (K:W.Frag) (mg:Str->Option _v):Prop where
 cs:∀x d,(x,d)∈M.cs->∃v u,mg x=_s u/\RelV v u/\∀g H,Rep K g H 0 d v nop
 bl:∀x∈M.bl,mg x=_n
def Fs(P:F9)(w:J5)(K:W.Frag)(mg:Str->Option _v)(base:K4)(fl:List Str)(k:Nat)(fs:List (Str×Sig)):Prop:=∀x s,(x,s)∈fs->s.io.Nodup/\(∀i∈s.io,i < s.ps.length)/\∃j,j<=k/\Fz P w K mg base fl j x s
theorem Fs.nil{fl:List Str}{k:Nat}:Fs P w K mg base fl k []:=λ_ _ h=>by cases h
theorem Fs.zDv{fl:List Str}{k l:Nat}{x:Str}{s:Sig}{fs:List (Str×Sig)}(h:Fs P w K mg base fl k fs)(hl:k<=l)(h1:s.io.Nodup)(h2:∀i∈s.io,i < s.ps.length)(h3:Fz P w K mg base fl l x s):Fs P w K mg base fl l ((x,s)::fs):=λy t q=>by
 rcases D3.mp q with q|q
 cases q;exact⟨h1,h2,l,B3 _,h3⟩;obtain⟨a,b,j,c,f⟩:=h y t q;exact⟨a,b,j,by omega,f⟩
theorem Fs.cons{fl:List Str}{k:Nat}{x:Str}{s:Sig}{fs:List (Str×Sig)}(h:Fs P w K mg base fl k fs)(h1:s.io.Nodup)(h2:∀i∈s.io,i < s.ps.length)(a:s.cl=_n)(h3:Fx P w K mg base (k+1) x s.ps (spF K s)):Fs P w K mg base fl (k+1) ((x,s)::fs):=h.zDv (U6 k) h1 h2 (by unfold Fz;rw[a];exact h3)
theorem RZ{M:Md}{k:Nat}{fs:List (Str×Sig)}{x qual:Str}{st:N4}{f:B8}{fd:S2}{io:List Nat}{ro:Nat}{nb:Bool}{cl:Option Str}{F:List Dv->Option (Jn Dv io)}(b:Bs M K mg)(h:Fs P w K mg base M.fl k fs)(c:mq M fs st io ro=_t)(n:∀ds,ds.length=(Am st).length->Wl M fs st io ro ds=F ds)
    (C:Fun K x qual st f fd):zAb P w K mg base Rw (k+1) f fd (Am st) (spF K (La (Am st) io ro nb F cl)):=by
  unfold mq at c;simp only[A3,decide_eq_true_eq,G4]at c;obtain⟨⟨⟨⟨B,v⟩,u⟩,r⟩,i⟩:=c;cases e:bN M fs st io ro with
  |none=>rw[e]at i;cases i
  |some cs=>
    rw[e]at i;have S:=bL B;refine qM (s:=La (Am st) io ro nb F cl) (N:=Cj st) (body:=cs.f) (Γn:=cs.Γ) (js:=cs.js) C S v u r i (λcdv A outer s' H E g=>?_) λds d bs hl hf=>?_;have ok:Cok (qc M fs st io ro) (PP Rw P w K mg base (Cj st) qual (AK st) f cdv A outer s' H E).nox:=⟨rfl,rfl,S.nd,rfl,λ_ _=>rfl,⟨rfl,k,g⟩,λy t q=>by obtain⟨a,b,j,l,q⟩:=h y t q;exact⟨a,b,j,k,l,g,q⟩,b.cs,b.bl,rfl⟩
    unfold bN at e;rw[ZR]at e;exact(Te 100).Ss ok e;have g:=n ds hl;unfold Wl at g;rw[e]at g;refine zAQ (show(F ds).bind _=_s (d,bs)from hf) λt p o=>?_;cases o;refine⟨_,kJ io,t,g.trans p,λm z=>?_,λd' m z=>?_⟩;have z:_s (gD io .non m)=_s t:=z;cases z;exact⟨gJ io _ m,fF io _ m⟩;have z:_s (gD io d' m)=_s t:=z;cases z;exact⟨gJ io _ m,fF io _ m⟩
abbrev aN(x q:Str)(st:N4):Prop:=∀(kV doc pm:_v)(an:Option B8)(cdv ct:_v)(us:List _v),us.length=(Am st).length->zS (W.fnOf x q (BQ st) (Ay st) (AK st) .none kV doc pm an cdv ct) ⟨us,[]⟩=pure ((Am st).zip us)
abbrev rJ(x:Str)(st:N4):Prop:=aN x x st
theorem NM{M:Md}{fs:List (Str×Sig)}{st:N4}{io:List Nat}{ro:Nat}(c:mq M fs st io ro=_t):io.Nodup/\∀i∈io,i < (Am st).length:=by unfold mq at c;simp only[A3,decide_eq_true_eq,G4]at c;exact⟨c.1.1.1.2,c.1.1.2⟩
theorem Fs.def{M:Md}{k:Nat}{fs:List (Str×Sig)}{x:Str}{st:N4}{io:List Nat}{ro:Nat}{nb:Bool}{F:List Dv->Option (Jn Dv io)}(h:Fs P w K mg base M.fl k fs)(b:Bs M K mg)(c:mq M fs st io ro=_t)(d:∀ds,ds.length=(Am st).length->Wl M fs st io ro ds=F ds)
    (a:GF K x st) (hm:mg x=_s (.ref (EG K x))) (hb:rJ x st):Fs P w K mg base M.fl (k+1) ((x,La (Am st) io ro nb F)::fs):=
  h.cons (NM c).1 (NM c).2 rfl ⟨_,_,RZ b h c d (ku a),hm,a.2.2.2,(ku a).binds hb⟩
def gE(K:W.Frag)(c m:Str):B8:=match W.findIn K (.ref (EG K c)) m with
 |some (_s (.ref a))=>a
 |_=>0
abbrev GM(K:W.Frag)(c q m:Str)(t:N4):Prop:=W.findIn K (.ref (EG K c)) m=_s (_s (.ref (gE K c m))) /\
 K.lookup (gE K c m)=_s ⟨.type "function", _n,.func (W.fnOf m q (BQ t) (Ay t) (AK t) .none .none .none (bw K (gE K c m)) _n (VS K (gE K c m)) .none),#[]⟩ /\
 W.codeIn K (VS K (gE K c m)) q=_t/\W.keepIn K (.ref (gE K c m))=_t/\W.isFn K (.ref (gE K c m))=_t
noncomputable def pB(K:W.Frag)(C:B8)(f:Str):Bool:=match W.findIn K (.ref C) f with
 |some _n=>_t
 |_=>_f
noncomputable def nW(K:W.Frag)(C:B8):Bool:=match W.findIn K (.ref C) "__setattr__" with
 |some (_s (.builtin id))=>id == "object.__setattr__"
 |_=>_f
abbrev GC(K:W.Frag)(c:Str)(fl:List Str):Prop:=W.nsIn K M1 c=_s (_s (.ref (EG K c)))/\W.plainGet K (EG K c) Str.empty=_t/\W.hasDictIn K (EG K c)=_t/\W.plainOver K (EG K c)=_t/\nW K (EG K c)=_t /\
 fl.all (pB K (EG K c))=_t/\W.makesIn K (EG K c)=_t/\W.keepIn K (.ref (EG K c))=_t
theorem kz{c:Str}{fl:List Str}(g:GC K c fl):eg K c fl:=by obtain⟨_,h1,h2,h3,h4,h5,_⟩:=g;refine⟨⟨h1,h2,h3,?_⟩,λf hf=>?_⟩;unfold nW at h4;split at h4;rename_i id e;rw[e,beq_iff_eq.mp h4];cases h4;have:=(G4.mp h5) f hf;unfold pB at this;split at this;rename_i e;exact e;cases this
theorem Fs.zCn{M:Md}{k:Nat}{fs:List (Str×Sig)}{cl q x:Str}{st:N4}{io:List Nat}{ro:Nat}{nb:Bool}{F:List Dv->Option (Jn Dv io)}(h:Fs P w K mg base M.fl k fs)(b:Bs M K mg)(c:mq M fs st io ro=_t)(g:∀ds,ds.length=(Am st).length->Wl M fs st io ro ds=F ds)
    (a:GM K cl q x st) (d:GC K cl M.fl) (hm:mg cl=_s (.ref (EG K cl))) (hb:aN x q st):Fs P w K mg base M.fl (k+2) ((x,La (Am st) io ro nb F (_s cl))::fs):=by
  have f:Fun K x q st (gE K cl x) _:=Ya a.2.1 a.2.2.1 a.2.2.2.1;refine h.zDv `o (NM c).1 (NM c).2 ?_;unfold Fz;refine⟨k+1,_,_,B3 _,RZ (cl:=_s cl) b h c g f,f.binds hb,⟨a.1,a.2.2.2.2,a.2.2.2.1⟩,kz d,hm,λe=>⟨d.2.2.2.2.2.2.1,?_,a.2.2.2.2,d.2.2.2.2.2.2.2⟩⟩;rw[<- e];exact a.1
def Fv(x:Str)(st:N4)(fs:List (Str×Sig))(io:List Nat)(ro:Nat)(nb:Bool)(F:List Dv->Option (Jn Dv io))(cl:Option Str:=_n):List (Str×Sig):=(x,La (Am st) io ro nb F cl)::fs
theorem Ba{x q:Str}{st:N4}(n:Nat)(a:(Am st).length=n)(h:∀(kV doc pm:_v)(an:Option B8)(cdv ct:_v),eX n λus=>zS (W.fnOf x q (BQ st) (Ay st) (AK st) .none kV doc pm an cdv ct) ⟨us,[]⟩=pure ((Am st).zip us)):aN x q st:=
 λkV doc pm an cdv ct us hl=>pC (h kV doc pm an cdv ct) us (hl.trans a)
noncomputable def Qo(K:W.Frag)(x:Str):Bool:=match W.nsIn K M1 x with|some _n=>_t|_=>_f
theorem qq{M:Md}{h:K4}(X:K.In h)(G:h.Ns M1 mg)(b:M.cs=[])(hz:M.bl.all (Qo K)=_t):Bs M K mg:=⟨(λx d q=>by rw[b]at q;cases q),λx a=>by have:=(G4.mp hz) x a;unfold Qo at this;split at this;rename_i e;exact W.mg_none_of X G e;cases this⟩
noncomputable def Uy{e:Type}(f:Dv->Dv->Dv->Dv->Option e)(ds:List Dv):Option e:=match ds with|[a,b,c,d]=>f a b c d|_=>_n
noncomputable def qO{g:Type}(f:Dv->Dv->Dv->Dv->Dv->Option g)(ds:List Dv):Option g:=match ds with|[a,b,c,d,e]=>f a b c d e|_=>_n
noncomputable def Kj{d:Type}(f:Dv->Dv->Dv->Option d)(ds:List Dv):Option d:=match ds with|[a,b,c]=>f a b c|_=>_n
noncomputable def zero{a:Type}(f:Option a)(ds:List Dv):Option a:=match ds with|[]=>f|_=>_n
abbrev Fu(M:Md)(fs:List (Str×Sig))(st:N4)(io:List Nat)(ro:Nat)(f:List Dv->Option (Jn Dv io)):Prop:=∀ds,ds.length=(Am st).length->Wl M fs st io ro ds=f ds
theorem Fm{a:Type}{G F:List Dv->a}{m:Nat}(n:Nat)(b:m=n)(h:eX n λds=>G ds=F ds):∀ds,ds.length=m->G ds=F ds:=λds hl=>pC h ds (hl.trans b)
def SN(K:W.Frag):Sp:=λvs H Q _=>∃(a:B8)(ns:List Int),vs=[.ref a]/\Dl K H a (ns.map V.int)/\ns.length<=63/\eW H/\∀H',Q (.bl _t) H'
theorem kY{k:Nat}{f:B8}{fd:S2}{ps:List Str}{nb:Bool}{F:List Dv->Option Dv}(b:ps.length=1)(l:zAb P w K mg base Rw k f fd ps (spF K (La ps [] 1 nb F)))(h:∀ns:List Int,ns.length<=63->F [.scr ns]=_s (.bl _t)):zAb P w K mg base Rw k f fd ps (SN K):=l.imp λvs H Q E q=>by
 obtain⟨a,ns,rfl,d,c,g,q⟩:=q;have hs:sA K H a ns:=by
  rcases d with(h1|h1)|h1
  rcases g a with z|⟨o,xs,z⟩
  rw[h1]at z;cases z;rw[h1]at z;cases z;exact .inl h1;exact .inr h1
 refine⟨⟨λ_=>False,[]⟩,[.scr ns],nop,?_,.bl _t,[],by show(F [.scr ns]).bind _=_;rw[h ns c];rfl,λg' H' v Pv Pb _ rv _ _=>by rw[Eu rv];exact q H'⟩;show Rel K _ H (QD ps.length []) _ _ _;rw[b];refine⟨?_,λ_=>nop,⟨rfl,rfl,λi o e=>?_,λi e a z=>z,λi j n a z=>z.elim⟩,λa=>⟨λz=>z.elim,fun⟨i,z⟩=>z⟩⟩;exact λ_ z=>z.elim
 match i,e with
 |0,e=>cases e;exact⟨_,_,rfl,rfl,by unfold Rep;exact⟨⟨a,rfl,hs⟩,λ_ z=>z⟩⟩
end
end R
namespace L4
open PySem PySem.Spec PyProof.Rows L2 Builtin
theorem Hm:fillsNumberSlot (.type "tuple") "mul" = pure false:=
 PySem.fillsNumberSlot_seq (id := "tuple.__mul__") (r:=_s (.builtin "tuple.__rmul__")) F.slot_tuple_mul.lookup (by decide +kernel) F.slot_tuple_rmul.lookup (by decide +kernel)
theorem MU:seqRepeat? (.type "tuple")=pure (_s (.builtin "tuple.__mul__")):=by unfold seqRepeat?;rw[yr (T := "tuple") (name := "__mul__") (id := "tuple.__mul__") F.slot_tuple_mul.lookup (by decide +kernel),yr (T := "tuple") (name := "__rmul__") (id := "tuple.__rmul__") F.slot_tuple_rmul.lookup (by decide +kernel)];rfl
theorem Jy(a:Int)(t:Tok)(l:B8)(items:Array _v)(n:Nat) :
    zv (U2.«int.__rmul__» ⟨[.int a t,.ref l],[]⟩) (λ_ R s=>(∃o,s.heap.get? l=_s o/\o.cls=.type "tuple" /\ o.data=.seq items n)/\R (.ok (.ret Value.notImplemented)) s):=
  .of_wp λprog w A R s h=>by
    obtain⟨i,g,d,f,os⟩:=s;obtain⟨⟨⟨c,j,e,sl⟩,hl,b,hd⟩,h⟩:=h;simp only at b hd;subst b;subst hd
    wp_walk;exact⟨_,rfl,h⟩
theorem JK(l:B8)(items:Array _v)(n:Nat)(x:Int)(u:Tok)(h1:1 < x)(h2:x < 2 ^ 63)(hz:items.size * x.toNat<=1000000)(a:items.isEmpty=_f) :
    zv (U2.«tuple.__mul__» ⟨[.ref l,.int x u],[]⟩) (λ_ R s=>(∃o,s.heap.get? l=_s o/\o.cls=.type "tuple" /\ o.data=.seq items n)/\R (.ok (.ret (E9 s.heap.objs.size))) {s with heap:=s.heap.push {cls:=L9 "tuple", data:=zAH ((B6 x.toNat items).foldl (·++·) #[])},toks:=s.toks}):=
  .of_wp λprog w A R s h=>by
    obtain⟨k,g,d,j,os⟩:=s;obtain⟨⟨⟨c,m,i,sl⟩,hl,b,hd⟩,h⟩:=h;simp only at b hd;subst b;subst hd;have f:(items.size:Int) * x<=1000000:=by
      have e:x=(x.toNat:Int):=by omega
      rw[e,<- Int.natCast_mul];omega
    wp_walk
    refine V5 `w ?_
    wp_walk
    refine V5 (by rw[a];simp;omega) ?_
    wp_walk
    refine V5 (by rw[a];simp;omega) ?_
    wp_walk
    refine V5 (decide_eq_false (by have:((2:Int) ^ 63-1) / 8 > 1000000:=`d;omega)) ?_
    wp_walk
    refine V5 (decide_eq_false (by unfold Tuple.tupleTooMany;rw[decide_eq_true_eq,T7];omega)) ?_
    wp_walk
    refine V5 (decide_eq_false (by rw[AutoListH.size_joined,T7];simp only[Array.size_empty];have:=yN items.size x.toNat;omega)) ?_
    wp_walk
    exact⟨_,rfl,h⟩
theorem JJ(l:B8)(items:Array _v)(n:Nat)(u:Tok)(b:items.isEmpty=_f) :
    zv (U2.«tuple.__mul__» ⟨[.ref l,.int 0 u],[]⟩) (λ_ R s=>(∃o,s.heap.get? l=_s o/\o.cls=.type "tuple" /\ o.data=.seq items n)/\R (.ok (.ret (E9 s.heap.objs.size))) {s with heap:=s.heap.push {cls:=L9 "tuple", data:=zAH #[]},toks:=s.toks}):=
  .of_wp λprog w A R s h=>by
    obtain⟨i,g,d,f,os⟩:=s;obtain⟨⟨⟨c,j,e,sl⟩,hl,a,hd⟩,h⟩:=h;simp only at a hd;subst a;subst hd
    wp_walk
    exact⟨_,rfl,h⟩
theorem Ki(l:B8)(items:Array _v)(n:Nat)(u:Tok) :
    zv (U2.«tuple.__mul__» ⟨[.ref l,.int 1 u],[]⟩) (λ_ R s=>(∃o,s.heap.get? l=_s o/\o.cls=.type "tuple" /\ o.data=.seq items n)/\R (.ok (.ret (E9 l))) s):=
  .of_wp λprog w A R s h=>by
    obtain⟨f,g,d,e,os⟩:=s;obtain⟨⟨⟨c,i,b,sl⟩,hl,a,hd⟩,h⟩:=h;simp only at a hd;subst a;subst hd
    wp_walk
    exact⟨_,rfl,h⟩
def zDj:R2:=λx y H Q=>∃l k xs,x=.ref l/\y=.int k/\H l=_s (.tup xs)/\xs≠[]/\0<=k/\k < 2 ^ 63/\xs.length * k.toNat<=1000000/\(k=1->Q (.ref l) H) /\
 (k≠1->∀p,H p=_n->Q (.ref p) (upd H p (.tup (B6 k.toNat xs).flatten)))
theorem zDT{X:Cx}:Dk X (binaryOp .Mult) zDj:=by
 intro pins s σ H x y v u Q I w p h;obtain⟨l,k,xs,rfl,rfl,A,d,h1,h2,hz,z,g⟩:=h;cases w;obtain⟨t,rfl⟩:=p;obtain⟨a,r,⟨o,e,c,n,C⟩,_⟩:=I.tuple (show Fo X.K H l xs from .inl (.inl A));have hl:a.length=xs.length:=r.length.symm;have b:∃o,s.heap.get? l=_s o/\o.cls=.type "tuple" /\ o.data=.seq a.toArray n:=⟨o,e,c,C⟩;have i:a.toArray.isEmpty=false:=by
  cases a with
  |nil=>cases xs with
   |nil=>exact absurd rfl d
   |cons _ _=>simp at hl
  |cons _ _=>rfl
 refine vR (T := "tuple") (U := "int") `d ⟨_,e,c⟩ (λs'=>wW s' k t) Hm F.fills_int_mul F.slot_int_rmul MU F.slot_int_index.lookup
  (call_meets F.slot_int_rmul (wW s k t) F.entry_int_rmul (F.args_int_rmul_2 _ _) (Jy k t l a.toArray n)
   ⟨b,rfl,⟨_,e,c⟩,?_⟩)
 by_cases f:k=1;subst f;exact call_meets F.slot_tuple_mul ⟨_,e,c⟩ F.entry_tuple_mul (F.args_tuple_mul_2 _ _) (Ki l a.toArray n t) ⟨b,.ref l,H,I,rfl,z rfl⟩;by_cases B:k=0;subst B;exact call_meets F.slot_tuple_mul ⟨_,e,c⟩ F.entry_tuple_mul (F.args_tuple_mul_2 _ _) (JJ l a.toArray n t i) ⟨b,.ref _,_,I.laid (t':=s.toks) (λ_ _ q=>A5 _ q) (B3 _) (o:=.tup (B6 (Int.toNat 0) xs).flatten) ⟨H8 _,[],.nil,IG.new _ _⟩,rfl,g f _ I.fresh⟩;refine call_meets F.slot_tuple_mul ⟨_,e,c⟩ F.entry_tuple_mul (F.args_tuple_mul_2 _ _) (JK l a.toArray n k t `o h2 (by rw[B0,hl];exact hz) i) ⟨b,?_⟩;have f0:wY (λm j=>m++j) #[] (B6 k.toNat a.toArray)=(B6 k.toNat a).flatten.toArray:=by have:=foldl_rep a k.toNat [];rw[n8]at this;exact this
 rw[f0];refine⟨.ref _,_,I.laid (t':=s.toks) (λ_ _ q=>A5 _ q) (B3 _) (o:=.tup (B6 k.toNat xs).flatten) ⟨?_,_,r.rep k.toNat,IG.new _ _⟩,rfl,g f _ I.fresh⟩;rw[len_rep,yN];exact A8 hz `d
end L4
namespace R
open PySem L2
variable{d:Dv}{o:Nat}{P:Fp}{xs:List Dv}{α:Type}
section
variable{K:W.Frag}{g:G}{H:Hp}
theorem RA.nil{vs:List V}(h:RA K g H [] vs):vs=[]:=by unfold RA at h;exact h
theorem RA.cons{ds:List Dv}{vs:List V}(h:RA K g H (d::ds) vs):∃v r o P,vs=v::r/\o<=1/\Rep K g H o d v P/\RA K g H ds r:=by unfold RA at h;exact h
theorem RA.one{vs:List V}(h:RA K g H [d] vs):∃v o P,vs=[v]/\o<=1/\Rep K g H o d v P:=by obtain⟨v,r,o,P,rfl,a,h1,h2⟩:=h.cons;cases h2.nil;exact⟨v,o,P,rfl,a,h1⟩
theorem RA.two{e:Dv}{vs:List V}(h:RA K g H [d,e] vs):∃v o P w u R,vs=[v,w]/\o<=1/\Rep K g H o d v P/\u<=1/\Rep K g H u e w R:=by obtain⟨v,r,o,P,rfl,b,h1,h2⟩:=h.cons;obtain⟨w,u,R,rfl,a,h3⟩:=h2.one;exact⟨v,o,P,w,u,R,rfl,b,h1,a,h3⟩
theorem Bc{l:List Nat}{v:V}(h:Rep K g H o (.str l) v P):v=.str (tx l):=by unfold Rep at h;exact h.1
theorem SW{v:V}(h:Rep K g H o .non v P):v=.non:=by unfold Rep at h;exact h.1
inductive SeV (K:W.Frag) (g:G) (H:Hp) (xs:List Dv) (v:V) (S:B8->List V->Prop) (o:List V->HO):Prop
 |mk (a:B8) (us:List V) (e:v=.ref a) (b:S a us) (c:AA K g H 0 xs us nop) (d:H a=_s (o us))
theorem GO{v:V}(b:o<=1)(h:Rep K g H o (.lst xs) v P):SeV K g H xs v (Dl K H) .lst:=by unfold Rep at h;obtain⟨a,us,P',rfl,h1,h2,_⟩:=h;rw[a8 b]at h2;exact⟨a,us,rfl,.inl (.inl h1.1),h2.z,h1.1⟩
theorem HR{v:V}(b:o<=1)(h:Rep K g H o (.tup xs) v P):SeV K g H xs v (Fo K H) .tup:=by unfold Rep at h;obtain⟨a,us,rfl,h1,h2⟩:=h;rw[a8 b]at h2;exact⟨a,us,rfl,.inl (.inl h1),h2.z,h1⟩
theorem QY{ns:List Int}{v:V}(h:Rep K g H o (.scr ns) v P):∃a,v=.ref a/\Dl K H a (ns.map V.int):=by unfold Rep at h;obtain⟨⟨a,rfl,h1⟩,_⟩:=h;exact⟨a,rfl,h1.sq⟩
theorem Fg(b:o<=1){a:B8}{us:List V}(h1:H a=_s (.tup us))(h2:AA K g H 0 xs us nop):Rep K g H o (.tup xs) (.ref a) nop:=by unfold Rep;rw[a8 b];exact⟨a,us,rfl,h1,h2⟩
theorem Ad.int(i:Int):Ad K g H o (.int i) (.int i) H:=Ad.old Bz
theorem Ad.bl(b:Bool):Ad K g H o (.bl b) (.bl b) H:=Ad.old Dr
theorem Ad.str(l:List Nat):Ad K g H o (.str l) (.str (tx l)) H:=Ad.old (by unfold Rep;exact⟨rfl,λ_ z=>z⟩)
theorem Ad.tup(c:o<=1){vs:List V}{p:B8}(b:H p=_n)(h:AA K g H 0 xs vs nop):Ad K g H o (.tup xs) (.ref p) (upd H p (.tup vs)):=
 have a:=CU b (.tup vs)
 ⟨a,nop,Fg c AE (h.held (Step.same (g:=g) (P:=nop) a) zAS.nop λ_ z=>z.elim),λ_ z=>z.elim⟩
theorem Hj{xs:List Dv}{vs:List V}(h:AA K g H 0 xs vs nop):∀n,AA K g H 0 (B6 n xs).flatten (B6 n vs).flatten nop
 |0=>by simpa using AA.nil
 |n+1=>by rw[O2,O2,T9,T9];exact Bi h (Hj h n)
theorem Qe{vs:List V}(n:Nat)(h:AA K g H 0 xs vs nop):AA K g H 0 (xs.drop n) (vs.drop n) nop:=by have a:=CW.mp h;exact CW.mpr ⟨by simp[a.1],λi d v c b=>a.2 (n+i) d v (by simpa using c) (by simpa using b)⟩
theorem Qc{vs:List V}(n:Nat)(h:AA K g H 0 xs vs nop):AA K g H 0 (xs.take n) (vs.take n) nop:=by have c:=CW.mp h;refine CW.mpr ⟨by simp[c.1],λi d v a b=>?_⟩;rw[List.getElem?_take]at a b;split at a;rename_i hi;rw[if_pos hi]at b;exact c.2 i d v a b;cases a
theorem LP{vs:List V}(h:AA K g H 0 xs vs nop):AA K g H 0 xs.reverse vs.reverse nop:=by
 have a:=CW.mp h;refine CW.mpr ⟨by simp[a.1],λi d v b c=>?_⟩;have hi:i < xs.length:=by simpa using (A4.mp b).1
 rw[xA hi]at b;rw[xA (by rw[<- a.1];exact hi),<- a.1]at c;exact a.2 _ d v b c
theorem DM(ns:List Int):AA K g H 0 (ns.map .int) (ns.map V.int) nop:=CW.mpr ⟨by simp,λi d v a b=>by
 rw[D0]at a b;cases q:ns[i]? with|none=>rw[q]at a;cases a|some k=>rw[q]at a b;cases a;cases b;exact Bz⟩
def Cn(xs:List α)(lo hi:Option Int):List α:=(xs.drop (HT.sIx xs.length 0 lo)).take (HT.sIx xs.length xs.length hi-HT.sIx xs.length 0 lo)
theorem Mj{a:Type}(f:α->a)(xs:List α)(lo hi:Option Int):(Cn xs lo hi).map f=Cn (xs.map f) lo hi:=by unfold Cn;rw[List.map_take,List.map_drop,C3]
theorem eQ{a:Type}{f:α->a}{xs:List α}{i:Int}:HJ (xs.map f) i=(HJ xs i).map f:=by
 unfold HJ;rw[C3];cases Kh xs.length i with|none=>rfl|some j=>show(xs.map f)[j]?=_;rw[D0];rfl
theorem Hk{vs:List V}(lo hi:Option Int)(h:AA K g H 0 xs vs nop):AA K g H 0 (Cn xs lo hi) (HC vs lo hi) nop:=by unfold Cn HC;rw[h.len];exact Qc _ (Qe _ h)
theorem OF{vs:List V}{i:Int}(h:AA K g H 0 xs vs nop)(e:HJ xs i=_s d):∃v,HJ vs i=_s v/\Rep K g H 0 d v nop:=by
 unfold HJ at e ⊢;rw[h.len]at e;cases q:Kh vs.length i with|none=>rw[q]at e;cases e|some j=>rw[q]at e;obtain⟨v,R,b,a,_⟩:=h.get e;exact⟨v,b,a.z⟩
noncomputable def Cg(C:Int->Int->Bool)(f:Int->Int->Int)(x y:Dv):Option Dv:=match x,y with|.int i,.int j=>if C i j=_t then _s (.int (f i j))else _n|_,_=>_n
noncomputable def FM(f:Int->Int->Bool)(x y:Dv):Option Bool:=match x,y with|.int i,.int j=>_s (f i j)|_,_=>_n
abbrev Rp:=Cg (λ_ _=>_t) λi j=>i-j
abbrev FO:=Cg (λ_ j=>decide (0 < j)) λi j=>i % j
abbrev Pq:=Cg (λ_ j=>decide (0 < j)&&decide (j < 1073741824)) λi j=>i / j
abbrev mT:=Cg (λi j=>decide (0<=j)&&decide (j<=1000000)&&decide (i.natAbs < 2 ^ 64)) λi j=>i ^ j.toNat
abbrev Vo:=FM λi j=>decide (j < i)
abbrev uZ:=FM λi j=>decide (j<=i)
theorem JI{f:Dv->Dv->Option α}{ds:List Dv}{a:α}(h:two f ds=_s a):∃x y,ds=[x,y]/\f x y=_s a:=by unfold two at h;split at h;exact⟨_,_,rfl,h⟩;cases h
theorem Hl{f:Dv->Dv->Option Dv}{r:R2}(h:∀g H x y v w b a P R d Q,Zd g H->b<=1->Rep K g H b x v P->a<=1->Rep K g H a y w R->f x y=_s d->(∀v H',Ad K g H o d v H'->Q v H')->r v w H Q):AL K (two f) o (QH r):=λg H ds vs d Q zd ra e k=>by obtain⟨x,y,rfl,e⟩:=JI e;obtain⟨v,b,P,w,a,R,rfl,h1,h2,h3,h4⟩:=ra.two;exact h g H x y v w b a P R d Q zd h1 h2 h3 h4 e k
theorem MZ{f:Dv->Dv->Option Bool}{r:R2}(h:∀g H x y v w c a P R b (Q:VK),Zd g H->c<=1->Rep K g H c x v P->a<=1->Rep K g H a y w R->f x y=_s b->Q (.bl b) H->r v w H Q):AL K (λds=>(two f ds).map .bl) 0 (QH r):=λg H ds vs d Q zd ra e k=>by
 have e:(two f ds).map Dv.bl=_s d:=e;cases q:two f ds with|none=>rw[q]at e;cases e|some b=>rw[q]at e;cases e;obtain⟨x,y,rfl,i⟩:=JI q;obtain⟨v,c,P,w,a,R,rfl,h1,h2,h3,h4⟩:=ra.two;exact h g H x y v w c a P R b Q zd h1 h2 h3 h4 i (k _ _ (Ad.bl _))
theorem Ma{C:Int->Int->Bool}{a:Int->Int->Prop}{f:Int->Int->Int}(b:∀i j,C i j=_t->a i j):AL K (two (Cg C f)) o (QH (rI a λi j=>.int (f i j))):=Hl λg H x y v w l h P R d Q zd _ h1 _ h2 e k=>by unfold Cg at e;split at e;split at e;rename_i c;cases e;rw[AI h1,AI h2];exact⟨_,_,rfl,rfl,b _ _ c,k _ _ (Ad.int _)⟩;cases e;cases e
theorem bq{f:Int->Int->Int}:AL K (two (Cg (λ_ _=>_t) f)) o (QH (aQ λi j=>.int (f i j))):=Hl λg H x y v w b a P R d Q zd _ h1 _ h2 e k=>by unfold Cg at e;split at e;cases e;rw[AI h1,AI h2];exact⟨_,_,rfl,rfl,k _ _ (Ad.int _)⟩;cases e
theorem Mb{f:Int->Int->Bool}:AL K (λds=>(two (FM f) ds).map .bl) 0 (QH (aQ λi j=>.bl (f i j))):=MZ λg H x y v w c a P R b Q zd _ h1 _ h2 e k=>by unfold FM at e;split at e;cases e;rw[AI h1,AI h2];exact⟨_,_,rfl,rfl,k⟩;cases e
noncomputable def AV(x y:Dv):Option Dv:=match x,y with
 |.int i,.int j=>_s (.int (i+j))
 |.str a,.str b=>if a.length+b.length<=1000000 then _s (.str (a++b))else _n
 |.lst xs,.lst ys=>if xs.length+ys.length<=1000000 then _s (.lst (xs++ys))else _n
 |.tup xs,.tup ys=>if xs.length+ys.length<=1000000 then _s (.tup (xs++ys))else _n
 |_,_=>_n
theorem jQ:AL K (two AV) 1 (QH (OL K)):=Hl λg H x y v w r q P R d Q zd l1 h1 l2 h2 e k=>by unfold AV at e;split at e;cases e;rw[AI h1,AI h2];exact aA (k _ _ (Ad.int _));split at e;rename_i hl;cases e;rw[Bc h1,Bc h2];refine Zy (by rw[Cu,Cu];exact hl) ?_;rw[QK];exact k _ _ (Ad.str _);cases e;split at e;rename_i hl;cases e;obtain⟨a,us,rfl,_,f,ha⟩:=GO l1 h1;obtain⟨b,ws,rfl,_,c,hb⟩:=GO l2 h2;exact Zz ha hb (by rw[<- f.len,<- c.len];exact hl) λp i=>k _ _ (Ad.lst zd (Bi f c) i);cases e;split at e;rename_i hl;cases e;obtain⟨a,us,rfl,ha,f,l⟩:=HR l1 h1;obtain⟨b,ws,rfl,hb,c,j⟩:=HR l2 h2;have h:=Bi f c;by_cases m:us=[];subst m;exact .inr ⟨a,b,ws,rfl,rfl,ha,hb,k _ _ (Ad.old (Fg (B3 1) j h))⟩;refine .inl (.inr (.inr (.inr ⟨a,b,us,ws,rfl,rfl,ha,hb,m,by rw[<- f.len,<- c.len];exact A8 hl `d,λn=>?_,λ_ p i=>k _ _ (Ad.tup (B3 1) i h)⟩)));subst n;rw[G7]at h;exact k _ _ (Ad.old (Fg (B3 1) l h));cases e;cases e
noncomputable def big(i:Int):Bool:=decide (-(2 ^ 64) < i)&&decide (i < 2 ^ 64)
def Cp(x y:Dv):Option Dv:=match x,y with
 |.int i,.int j=>if(big i||big j)=_t then _s (.int (i * j))else _n
 |.lst xs,.int k=>if xs.length * k.toNat<=1000000/\k < 1000000/\-1000000 < k then _s (.lst (B6 k.toNat xs).flatten)else _n
 |.tup xs,.int k=>if xs≠[]/\0<=k/\k < 1000000/\xs.length * k.toNat<=1000000 then _s (.tup (B6 k.toNat xs).flatten)else _n
 |_,_=>_n
theorem jN:AL K (two Cp) 1 (QH (λx y H Q=>(rI fA λi j=>.int (i * j)) x y H Q\/oK x y H Q\/L4.zDj x y H Q)):=Hl λg H x y v w n m P R d Q zd l1 h1 l2 h2 e k=>by
 unfold Cp at e;split at e;split at e;rename_i c;cases e;rw[AI h1,AI h2];refine .inl ⟨_,_,rfl,rfl,?_,k _ _ (Ad.int _)⟩;rw[o4]at c;unfold big at c;rw[A3,A3,decide_eq_true_eq,decide_eq_true_eq,decide_eq_true_eq,decide_eq_true_eq]at c;exact c;cases e;split at e;rename_i hl;cases e;obtain⟨a,us,rfl,ha,f,b⟩:=GO l1 h1;rw[AI h2];exact .inr (.inl ⟨a,_,us,rfl,rfl,b,by omega,by omega,by rw[<- f.len];exact A8 hl.1 `d,λp h=>k _ _ (Ad.lst zd (Hj f _) h)⟩);cases e;split at e;rename_i hl;cases e;obtain⟨a,us,rfl,ha,f,b⟩:=HR l1 h1;rw[AI h2];refine .inr (.inr ⟨a,_,us,rfl,rfl,b,?_,hl.2.1,by omega,by rw[<- f.len];exact hl.2.2.2,λz=>?_,λ_ p h=>k _ _ (Ad.tup (B3 1) h (Hj f _))⟩);intro z;have:=f.len;rw[z]at this;exact hl.1 (F7 this);subst z;have:∀(l:List Dv),(B6 (Int.toNat 1) l).flatten=l:=λl=>by simp
 rw[this]at k;exact k _ _ (Ad.old (Fg (B3 1) b f));cases e;cases e
noncomputable def AS(x:Dv):Option Dv:=match x with
 |.str l=>if l.length<=1000000 then _s (.int l.length)else _n
 |.lst xs=>_s (.int xs.length)
 |.tup xs=>_s (.int xs.length)
 |.scr ns=>_s (.int ns.length)
 |.dct ks _=>_s (.int ks.length)
 |_=>_n
theorem OU{f:Dv->Option α}{ds:List Dv}{a:α}(h:one f ds=_s a):∃x,ds=[x]/\f x=_s a:=by unfold one at h;split at h;exact⟨_,rfl,h⟩;cases h
theorem Ey{f:Dv->Option Dv}{r:QG}(h:∀g H x v a P d Q,Zd g H->a<=1->Rep K g H a x v P->f x=_s d->(∀v H',Ad K g H o d v H'->Q v H')->r [v] H Q):AL K (one f) o r:=λg H ds vs d Q zd ra e k=>by obtain⟨x,rfl,e⟩:=OU e;obtain⟨v,a,P,rfl,h1,h2⟩:=ra.one;exact h g H x v a P d Q zd h1 h2 e k
theorem jO:AL K (one AS) o (λxs H Q=>UO K xs H Q\/fX xs H Q):=Ey λg H x v f P d Q zd l1 h1 e k=>by
 unfold AS at e;split at e;split at e;rename_i l hl;cases e;rw[Bc h1];refine .inl (Uo (by rw[Cu];exact hl) ?_);rw[Cu];exact k _ _ (Ad.int _);cases e;cases e;obtain⟨a,us,rfl,ha,b,c⟩:=GO l1 h1;refine .inl (cj c ?_);rw[<- b.len];exact k _ _ (Ad.int _);cases e;obtain⟨a,us,rfl,ha,b,c⟩:=HR l1 h1;refine .inl ⟨_,_,rfl,.inr ⟨us,ha,rfl⟩,?_⟩;rw[<- b.len];exact k _ _ (Ad.int _);cases e;obtain⟨a,rfl,ha⟩:=QY h1;refine .inl (YB ha ?_);rw[C3];exact k _ _ (Ad.int _);cases e;obtain⟨a,us,rfl,ha,hl,b⟩:=VO h1;refine .inr ⟨a,_,rfl,ha,?_⟩;rename_i ks xs;have:(ks.zip us).length=ks.length:=by rw[V4,hl,b.len,yS]
 rw[this];exact k _ _ (Ad.int _);cases e
def AC(x y:Dv):Option Dv:=match x,y with
 |.lst xs,.int i=>HJ xs i
 |.tup xs,.int i=>HJ xs i
 |.scr ns,.int i=>(HJ ns i).map .int
 |.str l,.int i=>if l.length<=1000000 then(HJ l i).map λc=>.str [c]else _n
 |.dct ks ds,k=>(Av k).bind λk=>AX k ks ds
 |.dnt ks ds,k=>(Gq k).bind λk=>AX k ks ds
 |_,_=>_n
theorem jP:AL K (two AC) 0 (QH λx y H Q=>iz K x y H Q\/uH x y H Q\/uE x y H Q):=Hl λg H x y v w p n P R d Q zd l1 h1 l2 h2 e k=>by
 unfold AC at e;split at e;obtain⟨a,us,rfl,ha,f,m⟩:=GO l1 h1;rw[AI h2];obtain⟨u,h,h3⟩:=OF f e;exact .inl (bP m h (k _ _ (Ad.old h3)));obtain⟨a,us,rfl,ha,f,m⟩:=HR l1 h1;rw[AI h2];obtain⟨u,h,h3⟩:=OF f e;exact .inl (.inr (.inl ⟨a,us,_,u,rfl,rfl,ha,h,k _ _ (Ad.old h3)⟩));rename_i ns i;obtain⟨a,rfl,ha⟩:=QY h1;rw[AI h2];cases q:HJ ns i with|none=>rw[q]at e;cases e|some j=>rw[q]at e;cases e;exact .inl (iq ha (by rw[eQ,q];rfl) (k _ _ (Ad.int _)))
 rename_i l i;split at e;rename_i hl;rw[Bc h1,AI h2];cases q:HJ l i with|none=>rw[q]at e;cases e|some c=>rw[q]at e;cases e;exact .inl (bO (by rw[Cu];exact hl) (by rw[SD];exact q) (k _ _ (Ad.str [c])))
 cases e;refine zAQ e λkk ek e=>?_;obtain⟨a,us,rfl,ha,hl,f⟩:=VO h1;obtain⟨u,h,h3⟩:=FK f e;rw[CJ h2 ek];exact .inr (.inl ⟨a,u,rfl,h▸GA.k ha,k _ _ (Ad.old h3)⟩);refine zAQ e λkk ek e=>?_;obtain⟨a,us,rfl,ha,hl,f⟩:=lM h1;obtain⟨u,h,h3⟩:=FK f e;obtain⟨b,rfl,hb⟩:=Bq h2 ek;exact .inr (.inr ⟨a,u,rfl,⟨kk,b,rfl,hb,.inl ⟨_,ha,h.symm⟩⟩,k _ _ (Ad.old h3)⟩);cases e
def JB(x:Dv)(lo hi:Option Int):Option Dv:=match x with
 |.str l=>if l.length<=1000000 then _s (.str (Ra l lo hi))else _n
 |.lst xs=>_s (.lst (Cn xs lo hi))
 |.tup xs=>_s (.tup (Cn xs lo hi))
 |.scr ns=>_s (.lst ((Cn ns lo hi).map .int))
 |_=>_n
theorem oW(lo hi:Option Int):AL K (one λd=>JB d lo hi) 1 (mX λx H Q=>UN K x lo hi H Q):=Ey λg H x v i P d Q zd l1 h1 e k=>by
 show UN K v lo hi H Q;cases x with
 |str l=>simp only[JB.eq_def]at e;split at e;rename_i hl;cases e;rw[Bc h1];refine az (by rw[Cu];exact hl) ?_;rw[WC];exact k _ _ (Ad.str _);cases e
 |lst xs=>cases e;obtain⟨a,us,rfl,ha,f,b⟩:=GO l1 h1;exact bA b λp c=>k _ _ (Ad.lst zd (Hk lo hi f) c)
 |tup xs=>
  cases e;obtain⟨a,us,rfl,ha,f,b⟩:=HR l1 h1;have h:=Hk lo hi f;by_cases w:HT.sIx us.length 0 lo=0/\HT.sIx us.length us.length hi=us.length;refine .inr ⟨a,us,rfl,ha,w,k _ _ (Ad.old ?_)⟩;have ec:HC us lo hi=us:=by unfold HC;rw[w.1,w.2];simp
  rw[ec]at h;exact Fg (B3 1) b h;exact .inl (.inr (.inr ⟨a,us,rfl,ha,w,λp c=>k _ _ (Ad.tup (B3 1) c h)⟩))
 |scr ns=>cases e;obtain⟨a,rfl,ha⟩:=QY h1;refine iR ha λp c=>k _ _ (Ad.lst zd ?_ c);rw[Mj];exact Hk lo hi (DM ns)
 |_=>cases e
end
mutual
noncomputable def toD:Dv->L3.D
 |.bl b=>.fl (.bl b)
 |.int i=>.fl (.int i)
 |.str l=>.fl (.str (tx l))
 |.tup xs=>.tup (EH xs)
 |.lst xs=>.lst (EH xs)
 |_=>.fl .non
noncomputable def EH:List Dv->List L3.D
 |[]=>[]
 |d::ds=>toD d::EH ds
end
mutual
noncomputable def Dv.cmp:Dv->Bool
 |.non|.bl _|.int _|.str _=>_t
 |.tup xs=>BZ xs
 |.lst xs=>BZ xs
 |_=>_f
noncomputable def BZ:List Dv->Bool
 |[]=>_t
 |d::ds=>d.cmp&&BZ ds
end
mutual
noncomputable def Dv.dep:Dv->Nat
 |.tup xs=>Bh xs+1
 |.lst xs=>Bh xs+1
 |_=>0
noncomputable def Bh:List Dv->Nat
 |[]=>0
 |d::ds=>max d.dep (Bh ds)
end
mutual
noncomputable def eqV:Dv->Dv->Bool
 |.non,.non=>_t
 |.bl a,.bl b=>a==b
 |.bl a,.int b=>(if a then 1 else 0)==b
 |.int a,.bl b=>a==(if b then 1 else 0)
 |.int a,.int b=>a==b
 |.str a,.str b=>a==b
 |.tup xs,.tup ys=>zBm xs ys
 |.lst xs,.lst ys=>zBm xs ys
 |_,_=>_f
noncomputable def zBm:List Dv->List Dv->Bool
 |[],[]=>_t
 |x::xs,y::ys=>eqV x y&&zBm xs ys
 |_,_=>_f
end
mutual
theorem ZD:∀(d e:Dv),d.cmp=_t->e.cmp=_t->L3.eqD (toD d) (toD e)=eqV d e
 |.non,e,h,k|.bl _,e,h,k|.int _,e,h,k=>by cases e<;>first|(unfold toD L3.eqD eqV;rfl)|(unfold Dv.cmp at k;cases k)
 |.str l,e,h,k=>by
  cases e with
  |str m=>unfold toD L3.eqD eqV;rw[L2.zDZ];exact(xB l m).symm
  |_=>first|(unfold toD L3.eqD eqV;rfl)|(unfold Dv.cmp at k;cases k)
 |.tup xs,e,h,k=>by
  cases e with
  |tup ys=>unfold toD L3.eqD eqV;unfold Dv.cmp at h k;exact RY xs ys h k
  |_=>first|(unfold toD L3.eqD eqV;rfl)|(unfold Dv.cmp at k;cases k)
 |.lst xs,e,h,k=>by
  cases e with
  |lst ys=>unfold toD L3.eqD eqV;unfold Dv.cmp at h k;exact RY xs ys h k
  |_=>first|(unfold toD L3.eqD eqV;rfl)|(unfold Dv.cmp at k;cases k)
 |.dct _ _,e,h,k|.ref _,e,h,k|.scr _,e,h,k|.ty _,e,h,k|.mtp _,e,h,k|.dnt _ _,e,h,k|.dcl _ _,e,h,k|.obj _ _ _ _,e,h,k=>by unfold Dv.cmp at h;cases h
theorem RY:∀(d e:List Dv),BZ d=_t->BZ e=_t->L3.zAq (EH d) (EH e)=zBm d e
 |[],[],_,_=>by unfold EH L3.zAq zBm;rfl
 |[],_::_,_,_=>by simp only[EH,L3.zAq,zBm]
 |_::_,[],_,_=>by simp only[EH,L3.zAq,zBm]
 |x::xs,y::ys,h,k=>by unfold BZ at h k;rw[A3]at h k;simp only[EH,L3.zAq,zBm];rw[ZD x y h.1 k.1,RY xs ys h.2 k.2]
end
mutual
theorem gX:∀(d:Dv),(toD d).dep=d.dep
 |.non|.bl _|.int _|.str _|.dct _ _|.ref _|.scr _|.ty _|.mtp _|.dnt _ _|.dcl _ _|.obj _ _ _ _=>by unfold toD L3.D.dep Dv.dep;rfl
 |.tup xs=>by unfold toD L3.D.dep Dv.dep;rw[ND xs]
 |.lst xs=>by unfold toD L3.D.dep Dv.dep;rw[ND xs]
theorem ND:∀(d:List Dv),L3.zAu (EH d)=Bh d
 |[]=>by unfold EH L3.zAu Bh;rfl
 |x::xs=>by simp only[EH,L3.zAu,Bh];rw[gX x,ND xs]
end
section
variable{K:W.Frag}{g:G}{H:Hp}
mutual
theorem Rep.is:∀{o:Nat}{d:Dv}{v:V}{P:Fp},Rep K g H o d v P->d.cmp=_t->L3.Is K H v (toD d)
 |_,.non,v,P,h,_=>by rw[SW h];unfold toD L3.Is;exact⟨rfl,rfl⟩
 |_,.bl b,v,P,h,_=>by rw[Eu h];unfold toD L3.Is;exact⟨rfl,rfl⟩
 |_,.int i,v,P,h,_=>by rw[AI h];unfold toD L3.Is;exact⟨rfl,rfl⟩
 |_,.str l,v,P,h,_=>by rw[Bc h];unfold toD L3.Is;exact⟨rfl,rfl⟩
 |_,.tup xs,v,P,h,c=>by unfold Rep at h;obtain⟨a,vs,rfl,h1,h2⟩:=h;unfold Dv.cmp at c;unfold toD L3.Is;exact⟨a,vs,rfl,.inl (.inl h1),AA.isL h2 c⟩
 |_,.lst xs,v,P,h,c=>by unfold Rep at h;obtain⟨a,vs,P',rfl,h1,h2,_⟩:=h;unfold Dv.cmp at c;unfold toD L3.Is;exact⟨a,vs,rfl,.inl (.inl h1.1),AA.isL h2 c⟩
 |_,.dct _ _,v,P,h,c|_,.ref _,v,P,h,c|_,.scr _,v,P,h,c|_,.ty _,v,P,h,c|_,.mtp _,v,P,h,c|_,.dnt _ _,v,P,h,c|_,.dcl _ _,v,P,h,c|_,.obj _ _ _ _,v,P,h,c=>by unfold Dv.cmp at c;cases c
theorem AA.isL:∀{o:Nat}{d:List Dv}{v:List V}{P:Fp},AA K g H o d v P->BZ d=_t->L3.IsL K H v (EH d)
 |_,[],v,P,h,_=>by
  unfold AA at h;obtain⟨rfl,_⟩:=h;unfold EH L3.IsL
  trivial
 |_,x::xs,v,P,h,c=>by unfold AA at h;obtain⟨u,r,P1,P2,rfl,h1,h2,_⟩:=h;unfold BZ at c;rw[A3]at c;unfold EH L3.IsL;exact⟨Rep.is h1 c.1,AA.isL h2 c.2⟩
end
def Pm(neg:Bool)(x y:Dv):Option Bool:=if(x.cmp&&y.cmp&&decide (x.dep<=150))=_t then _s (if neg then !eqV x y else eqV x y)else _n
abbrev Ek:=Pm _f
abbrev Iw:=Pm _t
theorem XH{neg:Bool}:AL K (λds=>(two (Pm neg) ds).map .bl) 0 (QH (L3.zEC K neg)):=MZ λg H x y v w d a P R b Q zd _ h1 _ h2 e k=>by unfold Pm at e;split at e;rename_i c;cases e;rw[A3,A3,decide_eq_true_eq]at c;refine⟨toD x,toD y,by rw[gX];exact c.2,h1.is c.1.1,h2.is c.1.2,?_⟩;rw[ZD x y c.1.1 c.1.2];exact k;cases e
noncomputable def rL:Dv->Option (List Dv)
 |.lst xs=>_s xs
 |.tup xs=>_s xs
 |.mtp ls=>_s (ls.map .str)
 |_=>_n
def Ko(e:Dv)(ds:List Dv):Bool:=ds.any λd=>eqV d e
def Ks(neg:Bool)(e s:Dv):Option Bool:=match e,s with
 |.str x,.str l=>_s (if neg then !Q.zDR x l else Q.zDR x l)
 |e,.dct ks ds=>((Av e).bind λk=>_s (if neg then !(AX k ks ds).isSome else(AX k ks ds).isSome)).or (if ks.isEmpty=_t then(Gq e).bind λ_=>_s neg else _n)
 |e,.dnt ks ds=>(Gq e).bind λk=>_s (if neg then !(AX k ks ds).isSome else(AX k ks ds).isSome)
 |e,s=>match rL s with
  |some xs=>if(e.cmp&&BZ xs&&decide (Bh xs<=150))=_t then _s (if neg then !Ko e xs else Ko e xs)else _n
  |none=>_n
abbrev rY:=Ks _f
abbrev FL:=Ks _t
theorem qx(e:Dv)(he:e.cmp=_t):∀(ds:List Dv),BZ ds=_t->((EH ds).any λd=>L3.eqD d (toD e))=Ko e ds
 |[],_=>by unfold EH Ko;rfl
 |d::ds,h=>by unfold BZ at h;rw[A3]at h;unfold Ko;simp only[EH,O9];rw[ZD d e h.1 he,qx e he ds h.2];rfl
theorem Qd(ls:List (List Nat)):AA K g H 0 (ls.map .str) (ls.map λl=>V.str (tx l)) nop:=CW.mpr ⟨by simp,λi d v a b=>by
 rw[D0]at a b;cases q:ls[i]? with|none=>rw[q]at a;cases a|some k=>rw[q]at a b;cases a;cases b;unfold Rep;exact⟨rfl,λ_ z=>z⟩⟩
theorem XG{neg:Bool}:AL K (λds=>(two (Ks neg) ds).map .bl) 0 (QH λx y H q=>Q.zEB K neg x y H q\/jB neg x y H q\/iy neg x y H q):=MZ λg H x y v w j i P R b Q zd l1 h1 l2 h2 e k=>by
  unfold Ks at e;split at e;cases e;rw[Bc h1,Bc h2];exact .inl (.inl ⟨_,_,rfl,rfl,k⟩);rename_i ks ds;rcases W3.mp e with e|⟨_,e⟩
  refine zAQ e λkk ek e=>?_;cases e;obtain⟨a,us,rfl,ha,hl,d⟩:=VO h2;rw[CJ h1 ek];refine .inr (.inl ⟨a,_,rfl,.inl (GA.k ha),?_⟩);rw[Cs hl d.len];exact k;split at e;rename_i h;refine zAQ e λkk ek e=>?_;cases e;obtain rfl:ks=[]:=by cases ks with|nil=>rfl|cons _ _=>cases h
  obtain⟨a,us,rfl,ha,hl,d⟩:=VO h2;obtain⟨b,rfl,hb⟩:=Bq h1 ek;refine .inr (.inr ⟨a,_n,rfl,⟨kk,b,rfl,hb,.inr ⟨ha,rfl⟩⟩,?_⟩);cases neg<;>exact k;cases e;refine zAQ e λkk ek e=>?_;cases e;obtain⟨a,us,rfl,ha,hl,d⟩:=lM h2;obtain⟨b,rfl,hb⟩:=Bq h1 ek;refine .inr (.inr ⟨a,_,rfl,⟨kk,b,rfl,hb,.inl ⟨_,ha,rfl⟩⟩,?_⟩);rw[Cs hl d.len];exact k;rename_i a s _;split at e;rename_i xs es;split at e;rename_i c;cases e;rw[A3,A3,decide_eq_true_eq]at c;have go:∀p ys,w=.ref p->(Dl K H p ys\/Fo K H p ys)->AA K g H 0 xs ys nop->L3.zDS K neg v w H Q:=by rintro p ys rfl hs f;refine⟨p,ys,EH xs,toD x,rfl,hs,f.isL c.1.2,h1.is c.1.1,by rw[ND];exact c.2,?_⟩;rw[qx x c.1.1 xs c.1.2];exact k
  cases y with|lst ys=>cases es;obtain⟨p,us,rfl,ha,d,_⟩:=GO l2 h2;exact .inl (.inr (go p us rfl (.inl ha) d))|tup ys=>cases es;obtain⟨p,us,rfl,ha,d,_⟩:=HR l2 h2;exact .inl (.inr (go p us rfl (.inr ha) d))|mtp ls=>cases es;unfold Rep at h2;obtain⟨⟨p,rfl,hm⟩,_⟩:=h2;exact .inl (.inr (go p _ rfl (.inr (.inr hm)) (Qd ls)))|_=>cases es
  cases e;cases e
end
end R
namespace L2
open PySem PySem.Spec PyProof.Rows
end L2
namespace HT
open PySem PyProof.Rows
section
open PySem.SeqAt
open PySem.AutoSeq1 (wpAny_loadPart')
open PySem.MeetsSeq PySem.MeetsSeq2 PySem.MeetsSeq3
end
end HT
namespace L2
open PySem PySem.Spec PyProof.Rows
end L2
namespace R
open PySem L2
noncomputable def El:List Dv->Option (List Int)
 |[]=>_s []
 |.int b::ds=>(El ds).map (b::·)
 |_=>_n
noncomputable def LB:List Dv->Option (List (List Nat))
 |[]=>_s []
 |.str b::ds=>(LB ds).map (b::·)
 |_=>_n
variable{o:Nat}
section
variable{K:W.Frag}{g:G}{H:Hp}
theorem HM:∀{ds:List Dv}{bs:List Int}{vs:List V},AA K g H 0 ds vs nop->El ds=_s bs->vs=bs.map V.int
 |[],bs,vs,h,e=>by cases e;exact Ai h
 |d::ds,bs,vs,h,e=>by obtain⟨v,r,rfl,h1,h2⟩:=Ab h;cases d<;>simp only[El,G3,reduceCtorEq]at e;obtain⟨a,e,rfl⟩:=e;rw[AI h1,HM h2 e];rfl
theorem Kz:∀{ds:List Dv}{bs:List (List Nat)}{vs:List V},AA K g H 0 ds vs nop->LB ds=_s bs->vs=(bs.map tx).map V.str
 |[],bs,vs,h,e=>by cases e;exact Ai h
 |d::ds,bs,vs,h,e=>by obtain⟨v,r,rfl,h1,h2⟩:=Ab h;cases d<;>simp only[LB,G3,reduceCtorEq]at e;obtain⟨a,e,rfl⟩:=e;rw[Bc h1,Kz h2 e];rfl
def MI(x:Dv):Option Dv:=match x with
 |.lst xs=>match El xs with|some (n::ns)=>_s (.int (Q.mxI (n::ns)))|_=>_n
 |_=>_n
theorem cV{n M:Int}{ns:List Int}(e:M∈n::ns)(b:∀a,a∈n::ns->a<=M):M=_root_.Q.mxI (n::ns):=by obtain⟨d,c⟩:=_root_.Q.zBa (n::ns) `s;exact zE (c M e) (b _ d)
theorem bg:AL K (one MI) o (fW K):=Ey λg H x v h P d Q zd l1 h1 e k=>by unfold MI at e;split at e;split at e;rename_i n ns f;cases e;obtain⟨p,us,rfl,ha,b,_⟩:=GO l1 h1;rw[HM b f]at ha;refine⟨p,n::ns,rfl,ha,by simp,λM c a=>?_⟩;rw[cV c a];exact k _ _ (Ad.int _);cases e;cases e
noncomputable def ED(x y:Dv):Option Dv:=match x,y with|.int i,.int j=>_s (.int (if j > i then j else i))|_,_=>_n
noncomputable def MH(x y:Dv):Option Dv:=match x,y with|.int i,.int j=>_s (.int (if j < i then j else i))|_,_=>_n
theorem MY{f:Dv->Dv->Option Dv}{r:QG}(h:∀g H x y v w b a P R d Q,Zd g H->b<=1->Rep K g H b x v P->a<=1->Rep K g H a y w R->f x y=_s d->(∀v H',Ad K g H o d v H'->Q v H')->r [v,w] H Q):AL K (two f) o r:=λg H ds vs d Q zd ra e k=>by obtain⟨x,y,rfl,e⟩:=JI e;obtain⟨v,b,P,w,a,R,rfl,h1,h2,h3,h4⟩:=ra.two;exact h g H x y v w b a P R d Q zd h1 h2 h3 h4 e k
theorem bh:AL K (two ED) o (λxs H Q=>∃i j,xs=[.int i,.int j]/\Q (.int (if j > i then j else i)) H):=MY λg H x y v w b a P R d Q zd _ h1 _ h2 e k=>by unfold ED at e;split at e;cases e;rw[AI h1,AI h2];exact⟨_,_,rfl,k _ _ (Ad.int _)⟩;cases e
theorem bf:AL K (two MH) o (λxs H Q=>∃i j,xs=[.int i,.int j]/\Q (.int (if j < i then j else i)) H):=MY λg H x y v w b a P R d Q zd _ h1 _ h2 e k=>by unfold MH at e;split at e;cases e;rw[AI h1,AI h2];exact⟨_,_,rfl,k _ _ (Ad.int _)⟩;cases e
noncomputable def IU(x:Dv):Option Dv:=match x with
 |.int i=>_s (.int i)
 |.bl b=>_s (.int (if b then 1 else 0))
 |_=>_n
theorem bp:AL K (one IU) o (λxs H Q=>(∃i,xs=[.int i]/\Q (.int i) H)\/∃k,xs=[.bl k]/\Q (.int (if k then 1 else 0)) H):=Ey λg H x v a P d Q zd l1 h1 e k=>by unfold IU at e;split at e;cases e;rw[AI h1];exact .inl ⟨_,rfl,k _ _ (Ad.int _)⟩;cases e;rw[Eu h1];exact .inr ⟨_,rfl,k _ _ (Ad.int _)⟩;cases e
noncomputable def AY(x:Dv):Option Dv:=match x with|.lst xs=>_s (.tup xs)|.tup xs=>_s (.tup xs)|_=>_n
theorem XD:AL K (one AY) 1 (OJ K):=Ey λg H x v c P d Q zd l1 h1 e k=>by unfold AY at e;split at e;cases e;obtain⟨p,us,rfl,ha,a,_⟩:=GO l1 h1;exact⟨p,us,rfl,.inl ⟨ha,λl hl=>k _ _ (Ad.tup (B3 1) hl a)⟩⟩;cases e;obtain⟨p,us,rfl,ha,a,b⟩:=HR l1 h1;exact⟨p,us,rfl,.inr ⟨ha,k _ _ (Ad.old (Fg (B3 1) b a))⟩⟩;cases e
noncomputable def Kd(x:Dv):Option Dv:=match x with|.lst xs=>_s (.lst xs)|.tup xs=>_s (.lst xs)|.scr ns=>_s (.lst (ns.map .int))|_=>_n
theorem bj:AL K (one Kd) 1 (SY K):=Ey λg H x v b P d Q zd l1 h1 e k=>by unfold Kd at e;split at e;cases e;obtain⟨p,us,rfl,ha,a,_⟩:=GO l1 h1;exact⟨p,us,rfl,.inl ha,λl hl=>k _ _ (Ad.lst zd a hl)⟩;cases e;obtain⟨p,us,rfl,ha,a,_⟩:=HR l1 h1;exact⟨p,us,rfl,.inr ha,λl hl=>k _ _ (Ad.lst zd a hl)⟩;cases e;obtain⟨p,rfl,ha⟩:=QY h1;exact⟨p,_,rfl,.inl ha,λl hl=>k _ _ (Ad.lst zd (DM _) hl)⟩;cases e
def Ke(x y:Dv):Option Dv:=match x,y with
 |.str a,.lst xs=>match LB xs with
  |some ys=>if(ys.map W8).sum+ys.length * a.length<=1000000 then _s (.str (jn a ys))else _n
  |none=>_n
 |_,_=>_n
theorem bo:AL K (two Ke) o (mW (Ws K)):=MY λg H x y v w i h P R d Q zd l1 h1 l2 h2 e k=>by unfold Ke at e;split at e;split at e;rename_i b xs _ ys f;split at e;rename_i hz;cases e;obtain⟨a,us,rfl,ha,c,_⟩:=GO l2 h2;rw[Bc h1];rw[Kz c f]at ha;refine⟨tx b,a,ys.map tx,rfl,rfl,ha,?_,?_⟩;rw[iB,C3,Cu];exact A8 hz `d;rw[nE];exact k _ _ (Ad.str _);cases e;cases e;cases e
noncomputable def ID(x:Dv):Option Dv:=match x with
 |.str l=>if(l.all (λc=>decide (c < 128))&&decide (l.length<=1000000))=_t then _s (.str (l.map j8))else _n
 |_=>_n
theorem XC:AL K (one ID) o (mW Wo):=Ey λg H x v b P d Q zd l1 h1 e k=>by unfold ID at e;split at e;split at e;rename_i l c;cases e;rw[A3,decide_eq_true_eq,G4]at c;rw[Bc h1];exact⟨l,rfl,rfl,λx a=>of_decide_eq_true (c.1 x a),c.2,k _ _ (Ad.str _)⟩;cases e;cases e
abbrev aT:=FM λi j=>decide (i < j)
end
end R
namespace L2
open PySem PySem.Spec PyProof.Rows
end L2
namespace L3
open PySem PySem.Spec PyProof.Rows L2
end L3
namespace KO
open PySem PySem.W PyProof.Rows
end KO
namespace L2
open PySem PySem.Spec PyProof.Rows
end L2
namespace R
open PySem L2
noncomputable def OA:Dv->Option (List Dv)
 |.tup ds=>_s ds
 |.lst ds=>_s ds
 |.scr ns=>_s (ns.map .int)
 |_=>_n
section
variable{K:W.Frag}{g:G}{H:Hp}
abbrev rq(K:W.Frag)(g:G)(H:Hp)(a:B8)(b:Bool)(ds:List Dv):Prop:=∀d c,Kf g H d c->∃vs,IH K c a vs b/\AA K d c 0 ds vs nop
theorem Gb{d:Dv}{ds:List Dv}{v:V}(h:Rep K g H 0 d v nop)(e:OA d=_s ds):∃a b,v=.ref a/\rq K g H a b ds:=by
 have f:(0:Nat)<=1:=by decide
 cases d with|tup es=>cases e;obtain⟨a,vs,rfl,_⟩:=HR f h;refine⟨a,_t,rfl,λi k st=>?_⟩;obtain⟨j,us,q,c,k2,_⟩:=HR f (st.rep h);cases q;exact⟨us,c,k2⟩|lst es=>cases e;obtain⟨a,vs,rfl,_⟩:=GO f h;refine⟨a,_f,rfl,λi k st=>?_⟩;obtain⟨j,us,q,c,k2,_⟩:=GO f (st.rep h);cases q;exact⟨us,c,k2⟩|scr ns=>cases e;obtain⟨a,rfl,_⟩:=QY h;refine⟨a,_f,rfl,λi k st=>?_⟩;obtain⟨j,q,c⟩:=QY (st.rep h);cases q;exact⟨_,c,DM ns⟩|_=>cases e
theorem Ij:Kf g H g H:=by first|exact⟨nop,nop,Step.refl,λ_ z=>z.elim⟩|exact⟨nop,nop,Step.refl,zAS.nop⟩|exact Kf.refl
def bI:List Dv->Option (List (List Dv))
 |[]=>_s []
 |d::ds=>(OA d).bind λx=>(bI ds).bind λr=>_s (x::r)
theorem SQ:∀{ds:List Dv}{vs:List V}{dss:List (List Dv)},AA K g H 0 ds vs nop->bI ds=_s dss->∃ls:List Sq,vs=ls.map (λl=>.ref l.1)/\ls.length=dss.length/\∀(k:Nat)(l:Sq),ls[k]?=_s l->∃ds,dss[k]?=_s ds/\rq K g H l.1 l.2 ds
 |[],vs,dss,r,e=>by cases e;cases Ai r;exact⟨[],rfl,rfl,FN⟩
 |d::ds,vs,dss,r,e=>by refine zAQ e λxs f e=>?_;refine zAQ e λrs c e=>?_;cases e;obtain⟨v,us,rfl,h1,h2⟩:=Ab r;obtain⟨a,b,rfl,q⟩:=Gb h1 f;obtain⟨ls,rfl,n,h⟩:=SQ h2 c;exact⟨(a,b)::ls,rfl,congrArg (·+1) n,BL ⟨xs,rfl,q⟩ h⟩
structure zFR (dss:List (List Dv)) (n:Nat) (zs:List Dv):Prop where
 len:dss.length=n
 i:∀(i:Nat) d,zs[i]?=_s d->∃row,d=.tup row/\row.length=n/\∀(k:Nat) ds,dss[k]?=_s ds->∃x,row[k]?=_s x/\ds[i]?=_s x
 e:∀i,zs.length<=i->∃(k:Nat)(ds:List Dv),dss[k]?=_s ds/\ds.length<=i
theorem hU{ls:List Sq}{dss:List (List Dv)}{zs:List Dv}(z:zFR dss ls.length zs)(hs:∀(k:Nat)(l:Sq),ls[k]?=_s l->∃ds,dss[k]?=_s ds/\rq K g H l.1 l.2 ds):Yl K (sD K ls) zs g H:=by
 intro m f st;have q:∀(k:Nat)(l:Sq),ls[k]?=_s l->∃ds vs,dss[k]?=_s ds/\IH K f l.1 vs l.2/\AA K m f 0 ds vs nop:=λk l e=>by obtain⟨ds,a,s⟩:=hs k l e;obtain⟨vs,s⟩:=s m f st;exact⟨ds,vs,a,s⟩
 refine⟨λi d e=>?_,λi hi=>?_⟩;obtain⟨row,rfl,rl,j⟩:=z.i i d e;refine⟨λk l e=>?_,?_⟩;obtain⟨ds,vs,a,s,r⟩:=q k l e;obtain⟨x,_,c⟩:=j k ds a;exact⟨vs,s,r.len▸Bv c⟩;rintro x A ⟨p,ys,o,rfl,rfl,h,n⟩;refine Ad.tup `d o (CW.mpr ⟨rl.trans h.symm,λk d v a c=>?_⟩);have b:=A2 (h▸Bv c);obtain⟨ds,vs,w,s,r⟩:=q k _ b;obtain⟨x,u,t⟩:=j k ds w;cases a.symm.trans u;exact(CW.mp r).2 i _ _ t ((n k _ b vs s).symm.trans c);obtain⟨k,ds,e,le⟩:=z.e i hi;have b:=A2 (z.len▸Bv e);obtain⟨y,vs,a,s,r⟩:=q k _ b;cases e.symm.trans a;exact⟨λk l e=>let ⟨_,vs,_,s,_⟩:=q k l e;⟨vs,s⟩,k,_,vs,b,s,r.len▸le⟩
theorem au{f:List (List Dv)->Option (List Dv)}{n:Nat}(hf:∀dss zs,f dss=_s zs->zFR dss n zs):Rr K (λds=>(bI ds).bind f) (iw n K):=λg H ds vs b Q zd ra e q=>by refine zAQ e λdss c e=>?_;have z:=hf dss b e;obtain⟨ls,rfl,a,hs⟩:=SQ ra c;have a:=a.trans z.len;refine⟨ls,a,rfl,λk l e=>?_,q _ H (λ_ _ z=>z) (hU (a▸z) hs)⟩;obtain⟨ds,_,s⟩:=hs k l e;obtain⟨w,s,_⟩:=s g H Ij;exact⟨w,s⟩
noncomputable def Ct:List Dv->List Dv->List Dv
 |d::b,c::a=>.tup [d,c]::Ct b a
 |_,_=>[]
theorem Kw:∀(a b:List Dv)(i:Nat)(e:Dv),(Ct a b)[i]?=_s e->∃row,e=.tup row/\row.length=2/\∀(k:Nat) ds,[a,b][k]?=_s ds->∃x,row[k]?=_s x/\ds[i]?=_s x
 |c::a,d::b,0,e,h=>by simp[Ct]at h;exact⟨_,h.symm,rfl,BL ⟨c,rfl,rfl⟩ (BL ⟨d,rfl,rfl⟩ FN)⟩
 |c::a,d::b,i+1,e,h=>by obtain⟨row,q,n,h⟩:=Kw a b i e h;exact⟨row,q,n,BL (h 0 _ rfl) (BL (h 1 _ rfl) FN)⟩
 |[],_,i,e,h=>by simp[Ct]at h
 |c::a,[],i,e,h=>by simp[Ct]at h
theorem Kx:∀(a b:List Dv)(i:Nat),(Ct a b).length<=i->∃(k:Nat)(ds:List Dv),[a,b][k]?=_s ds/\ds.length<=i
 |c::a,d::b,0,h=>nomatch h
 |c::a,d::b,i+1,h=>by
  obtain⟨k,ds,e,h⟩:=Kx a b i (Nat.le_of_succ_le_succ h)
  match k,e with
  |0,e=>exact⟨0,_,rfl,C5 e▸j5 h⟩
  |1,e=>exact⟨1,_,rfl,C5 e▸j5 h⟩
 |[],_,i,h=>⟨0,_,rfl,H8 _⟩
 |c::a,[],i,h=>⟨1,_,rfl,H8 _⟩
def tY:List (List Dv)->Option (List Dv)
 |[a,b]=>_s (Ct a b)
 |_=>_n
def SS(ds:List Dv):Option (List Dv):=(bI ds).bind tY
theorem WX:Rr K SS (iw 2 K):=au λdss zs e=>by unfold tY at e;split at e;cases e;exact⟨rfl,Kw _ _,Kx _ _⟩;cases e
noncomputable def Eh(k:Nat):List Dv->List Dv
 |[]=>[]
 |d::ds=>.tup [.int (k:Nat),d]::Eh (k+1) ds
theorem Hy:∀(ds:List Dv)(k i:Nat)(e:Dv),(Eh k ds)[i]?=_s e->∃d,ds[i]?=_s d/\e=.tup [.int ((k+i:Nat):Int),d]
 |[],k,i,e,h=>by simp[Eh]at h
 |d::ds,k,0,e,h=>by simp[Eh]at h;exact⟨d,rfl,h.symm⟩
 |d::ds,k,i+1,e,h=>by obtain⟨d',h1,h2⟩:=Hy ds (k+1) i e (by simpa[Eh]using h);exact⟨d',by simpa using h1,by rw[h2];congr 3;omega⟩
theorem Hx:∀(ds:List Dv)(k:Nat),(Eh k ds).length=ds.length
 |[],k=>rfl
 |d::ds,k=>by simp[Eh,Hx ds]
def SU(ds:List Dv):Option (List Dv):=one (λx=>(OA x).bind λxs=>_s (Eh 0 xs)) ds
def oQ(K:W.Frag):List V->Hp->(It->Hp->Prop)->Prop:=λvs c R=>∃a b xs,vs=[.ref a]/\IH K c a xs b/\R (eZ K a b xs.length) c
theorem aW{a:B8}{b:Bool}{ds:List Dv}(h:rq K g H a b ds):Yl K (eZ K a b ds.length) (Eh 0 ds) g H:=by
 intro f j st;obtain⟨vs,sq,c⟩:=h f j st;refine⟨λi d e=>?_,λi hi=>⟨vs,sq,c.len.symm,by rw[Hx]at hi;exact hi⟩⟩;obtain⟨d',m,rfl⟩:=Hy ds 0 i d e;obtain⟨v,_,ev,rv,_⟩:=c.get m;refine⟨⟨vs,v,sq,c.len.symm,ev⟩,λx n y=>?_⟩;obtain⟨p,w,l,rfl,rfl,y⟩:=y;have:=y vs sq;rw[ev]at this;cases this;have k:Rep K f j 0 (.int ((0+i:Nat):Int)) (.int (i:Nat)) nop:=by rw[E8];exact Bz
 exact Ad.tup `d l (Bi (Ff k) (Ff rv.z))
theorem Wa:Rr K SU (oQ K):=λg H ds vs h Q zd ra e q=>by obtain⟨x,rfl,e⟩:=OU e;refine zAQ e λxs i e=>?_;cases e;obtain⟨v,us,rfl,h1,h2⟩:=Ab ra;cases Ai h2;obtain⟨a,b,rfl,c⟩:=Gb h1 i;obtain⟨d,s1,f⟩:=c g H Ij;exact⟨a,b,d,rfl,s1,by rw[<- f.len];exact q _ H (λ_ _ z=>z) (aW c)⟩
end
section
variable{K:W.Frag}{g:G}{H:Hp}
def EE(ds:List Dv):Option Dv:=match ds with
 |[.int j]=>if small j=_t/\j<=1000000 then _s (.lst ((B2 j.toNat).map λk=>.int (k:Nat)))else _n
 |[.int i,.int j]=>if(small i&&small j)=_t/\j-i<=1000000 then _s (.lst ((B2 (j-i).toNat).map λk=>.int (i+(k:Nat))))else _n
 |_=>_n
theorem Qh:AL K EE 1 uF:=λg H ds vs d Q zd ra e k=>by
 have fin:∀(i j:Int),(∀v H',Ad K g H 1 (.lst ((B2 (j-i).toNat).map λk=>.int (i+(k:Nat)))) v H'->Q v H')->∀l,H l=_n->Q (.ref l) (upd H l (.lst ((B2 (j-i).toNat).map λk=>.int (i+(k:Nat))))):=λi j kk l hl=>by have:=DM (K:=K) (g:=g) (H:=H) ((B2 (j-i).toNat).map λk:Nat=>i+(k:Int));simp only[V1]at this;exact kk _ _ (Ad.lst zd this hl)
 unfold EE at e;split at e;rename_i j;split at e;rename_i c;cases e;obtain⟨v,o,P,rfl,_,h1⟩:=ra.one;rw[AI h1];have b:=Cw c.1;refine⟨0,j,.inl ⟨rfl,rfl⟩,by omega,by omega,fin 0 j λv H' n=>k v H' ?_⟩;simpa using n;cases e;rename_i i j;split at e;rename_i c;cases e;obtain⟨v,o,P,w,u,R,rfl,_,h1,_,h2⟩:=ra.two;rw[AI h1,AI h2];rw[A3]at c;have b:=Cw c.1.1;have a:=Cw c.1.2;exact⟨i,j,.inr rfl,by omega,by omega,fin i j k⟩;cases e;cases e
def IF(x:Dv)(ds:List Dv):Option (Dv×Dv):=match x,ds with
 |.lst xs,[.int i]=>if small i=_t then(wC i xs.length).bind λk=>(xs[k]?).map λd=>(d,.lst (xs.eraseIdx k))else _n
 |_,_=>_n
theorem Xn:Pz K IF Wr:=λg H x v P ds us r y Q zd p q e k=>by unfold IF at e;split at e;rename_i xs i;split at e;rename_i c;refine zAQ e λn en e=>?_;simp only[G3,Prod.mk.injEq]at e;obtain⟨d,B,rfl,rfl⟩:=e;obtain⟨a,vs,rfl,ha,hz,m,D,go⟩:=Ea p;obtain⟨u,o,rfl,A,h2⟩:=Ab q;cases Ai h2;obtain⟨s,hd,mk⟩:=go (vs.eraseIdx n);have h:=CW.mp m;obtain⟨w,P1,C,t,_⟩:=m.get B;have b:=Cw c;rw[AI A];refine⟨a,vs,i,n,w,rfl,rfl,ha,by omega,by omega,by rw[<- h.1];exact en,C,k _ _ P s (mk _ ?_) (hd t.z)⟩;refine CW.mpr ⟨by simp[xR,h.1],λj d v l f=>?_⟩;rw[List.getElem?_eraseIdx]at l f;split at l;rename_i z;rw[if_pos z]at f;exact h.2 j d v l f;rename_i z;rw[if_neg z]at f;exact h.2 (j+1) d v l f;cases e;cases e
end
noncomputable def Kc(x y:Dv):Option Dv:=match x,y with
 |.lst xs,.int i=>if i = -1 then _s (.lst xs.reverse)else _n
 |.tup xs,.int i=>if i = -1 then _s (.tup xs.reverse)else _n
 |_,_=>_n
theorem bc{K:W.Frag}:AL K (two Kc) 1 (QH (uC K)):=Hl λg H x y v w f c P R d Q zd l1 h1 l2 h2 e k=>by unfold Kc at e;split at e;split at e;rename_i hi;subst hi;cases e;obtain⟨a,us,rfl,ha,b,_⟩:=GO l1 h1;exact⟨a,us,_f,rfl,AI h2,ha,λl hl=>k _ _ (Ad.lst zd (LP b) hl)⟩;cases e;split at e;rename_i hi;subst hi;cases e;obtain⟨a,us,rfl,ha,b,_⟩:=HR l1 h1;exact⟨a,us,_t,rfl,AI h2,ha,λl hl=>k _ _ (Ad.tup (B3 1) hl (LP b))⟩;cases e;cases e
noncomputable def Ku:Dv->Option Bool
 |.non=>_s _f
 |.bl b=>_s b
 |.int i=>_s (i != 0)
 |.str l=>if l.length<=1000000 then _s (!l.isEmpty)else _n
 |.lst xs=>_s (!xs.isEmpty)
 |.tup xs=>_s (!xs.isEmpty)
 |.scr xs=>_s (!xs.isEmpty)
 |.dct ks _=>_s (!ks.isEmpty)
 |_=>_n
theorem SV{K:W.Frag}{g:G}{H:Hp}{o:Nat}{xs:List Dv}{vs:List V}{P:Fp}(h:AA K g H o xs vs P):(!xs.isEmpty)=!vs.isEmpty:=by have:=h.len;cases xs<;>cases vs<;>simp at this<;>rfl
theorem aa(K:W.Frag)(g:G)(H:Hp)(o:Nat)(d:Dv)(v:V)(P:Fp)(b:Bool)(h:Rep K g H o d v P)(e:Ku d=_s b):aG K v H b:=by
 cases d with|non=>cases e;rw[SW h];exact rfl|bl b=>cases e;rw[Eu h];exact rfl|int i=>cases e;rw[AI h];exact rfl|str l=>simp only[Ku.eq_def]at e;split at e;rename_i hl;cases e;rw[Bc h];refine⟨by rw[Cu];exact A8 hl `d,?_⟩;rw[Cu];cases l<;>simp;omega;cases e|lst xs=>cases e;unfold Rep at h;obtain⟨a,vs,P',rfl,h1,h2,_⟩:=h;exact .inl ⟨vs,.inl (.inl h1.1),SV h2⟩|tup xs=>cases e;unfold Rep at h;obtain⟨a,vs,rfl,h1,h2⟩:=h;exact .inr (.inl ⟨vs,.inl (.inl h1),SV h2⟩)|scr ns=>cases e;obtain⟨a,rfl,h1⟩:=QY h;exact .inl ⟨_,h1,by cases ns<;>rfl⟩|dct ks ds=>cases e;obtain⟨a,us,rfl,ha,hl,c⟩:=VO h;refine .inr (.inr ⟨_,ha,?_⟩);have:=c.len;cases ks<;>cases ds<;>cases us<;>simp at hl this<;>rfl|_=>cases e
noncomputable def IQ(ns:List Int):List Int:=ns.mergeSort λa b=>decide (a<=b)
theorem RH(ns:List Int):(IQ ns).Perm ns:=List.mergeSort_perm ..
theorem YL(ns:List Int):(IQ ns).Pairwise (·<=·):=by have:=List.pairwise_mergeSort (le:=λa b:Int=>decide (a<=b)) (λa b c h1 h2=>by simp at *;omega) (λa b=>by simp;omega) ns;exact this.imp λh=>of_decide_eq_true h
theorem Oj{ns c:List Int}(h:c.Perm ns)(h2:c.Pairwise (·<=·)):c=IQ ns:=List.Perm.eq_of_pairwise (λa b _ _ h1 h2=>zE h1 h2) h2 (YL ns) (h.trans (RH ns).symm)
def IE(x:Dv):Option Dv:=match x with
 |.lst xs=>(El xs).bind λns=>if ns.length < 64 then _s (.lst ((IQ ns).map .int))else _n
 |.tup xs=>(El xs).bind λns=>if ns.length < 64 then _s (.lst ((IQ ns).map .int))else _n
 |_=>_n
theorem XE{K:W.Frag}:AL K (one IE) 1 (Im K):=Ey λg H x v c P d Q zd l1 h1 e k=>by
 have go:∀{xs:List Dv}{us:List V}{p:B8},AA K g H 0 xs us nop->((El xs).bind λns=>if ns.length < 64 then _s (Dv.lst ((IQ ns).map .int))else _n)=_s d->(Dl K H p us\/Fo K H p us)->Im K [.ref p] H Q:=fun{xs us p} a e ha=>by
  cases e1:El xs with|none=>rw[e1]at e;cases e|some ns=>rw[e1,A0]at e;by_cases hl:ns.length < 64;rw[if_pos hl]at e;cases e;rw[HM a e1]at ha;exact⟨p,ns,rfl,ha,hl,λl b h h2 h3=>by rw[Oj h2 h3];exact k _ _ (Ad.lst zd (DM _) h)⟩;rw[if_neg hl]at e;cases e
 unfold IE at e;split at e;obtain⟨p,us,rfl,ha,a,_⟩:=GO l1 h1;exact go a e (.inl ha);obtain⟨p,us,rfl,ha,a,_⟩:=HR l1 h1;exact go a e (.inr ha);cases e
noncomputable def aR:List (List Int)->Bool
 |(_::_)::_::_=>_f
 |_=>_t
theorem Pj:R7 "sorted" = _s (.builtin "sorted"):=by decide +kernel
theorem sy{es:List Expr}(h:es.length=1):∃a,es=[a]:=List.length_eq_one_iff.mp h
theorem uR{es:List Expr}(h:es.length=2):∃a b,es=[a,b]:=by
 cases es with|nil=>cases h|cons a es=>obtain⟨b,rfl⟩:=sy (zAA h);exact⟨a,b,rfl⟩
theorem fG{tg:Expr}(h:Ol tg=_t):∃a c b,tg=.Tuple a c b:=by cases tg<;>first|exact⟨_,_,_,rfl⟩|cases h
theorem dD{X:Cx}(h:Gx X):X.A.units+1 < K0:=by obtain⟨j,r⟩:=h.2;have:=r.un;omega
theorem Om{X:Cx}(h:Gx X):X.A.units+2 < K0:=by obtain⟨j,r⟩:=h.2;have:=r.un;omega
section
variable{κ:Type}[DecidableEq κ]{K:W.Frag}{g:G}{H:Hp}
def HB:List κ->List Dv->List (κ×Dv)->List κ×List Dv
 |ks,ds,[]=>(ks,ds)
 |ks,ds,p::ps=>HB (Ie p.1 ks) (Ic p.1 p.2 ks ds) ps
theorem PN:∀{qs:List (κ×Dv)}{ps:List (κ×V)}{ks:List κ}{ds:List Dv}{us:List V}{R:Fp},ks.length=ds.length->AA K g H 0 ds us R->qs.map (·.1)=ps.map (·.1)->AA K g H 0 (qs.map (·.2)) (ps.map (·.2)) nop->∃b,Ji (ks.zip us) ps=(HB ks ds qs).1.zip b/\AA K g H 0 (HB ks ds qs).2 b nop/\(HB ks ds qs).1.length=(HB ks ds qs).2.length
 |[],[],ks,ds,us,R,hl,h,_,_=>⟨us,rfl,h.z,hl⟩
 |[],_::_,_,_,_,_,_,_,e,_=>by cases e
 |_::_,[],_,_,_,_,_,_,e,_=>by cases e
 |q::qs,p::ps,ks,ds,us,R,hl,h,e,c=>by rw[B7,B7,L7]at e;rw[B7,B7]at c;unfold AA at c;obtain⟨v,r,P1,P2,ev,h1,h2,_⟩:=c;cases ev;obtain⟨d,m,l,j⟩:=HA (k:=q.1) hl h h1.z;obtain⟨a,i,f2,f⟩:=PN j l e.2 h2.z;refine⟨a,?_,f2,f⟩;show Ji (BN (ks.zip us) p.1 p.2) ps=(HB (Ie q.1 ks) (Ic q.1 q.2 ks ds) qs).1.zip a;rw[<- i,<- m,e.1]
end
def jR:List Dv->List Dv->Option (List (NK AO×Dv))
 |x::xs,y::ys=>(Gq x).bind λk=>(jR xs ys).bind λps=>_s ((k,y)::ps)
 |_,_=>_s []
def qz(ds:List Dv):Option Dv:=two (λx y=>(OA x).bind λxs=>(OA y).bind λys=>(jR xs ys).bind λqs=>if qs.length<=1000000 then _s (.dnt (HB [] [] qs).1 (HB [] [] qs).2)else _n) ds
section
variable{K:W.Frag}{g:G}{H:Hp}
theorem Ad.zFH{ks:List (NK AO)}{ds:List Dv}{us:List V}{p:B8}(zd:Zd g H)(hl:ks.length=ds.length)(e:AA K g H 0 ds us nop)(c:H p=_n):Ad K g H 1 (.dnt ks ds) (.ref p) (upd H p (.dN (ks.zip us))):=by have d:=CU c (.dN (ks.zip us));refine⟨d,λb=>b=p,?_,λa q=>q▸c⟩;unfold Rep;exact⟨p,us,rfl,AE,(λz=>by cases z),(λ_ z=>zd p z c),⟨hl,nop,e.held (Step.same (g:=g) (P:=nop) d) zAS.nop λ_ _ z=>z⟩,λb=>⟨λz=>⟨by decide,z⟩,λz=>z.2⟩⟩
theorem Sd:∀{xs ys:List Dv}{us ws:List V}{P P':Fp}{qs:List (NK AO×Dv)},AA K g H 0 xs us P->AA K g H 0 ys ws P'->jR xs ys=_s qs ->
    ∃ps:List (NK AO×V),ps.length=min us.length ws.length/\ps.length=qs.length/\(∀(i:Nat) q,ps[i]?=_s q->∃b,us[i]?=_s (.ref b)/\JC H q.1 b/\ws[i]?=_s q.2)/\qs.map (·.1)=ps.map (·.1)/\AA K g H 0 (qs.map (·.2)) (ps.map (·.2)) nop
  |[],ys,us,ws,P,P',qs,h,h',e=>by
    have e:_s []=_s qs:=by cases ys<;>exact e
    cases e;unfold AA at h;obtain⟨rfl,_⟩:=h;exact⟨[],by simp,rfl,(λi q z=>by simp at z),rfl,AA.nil⟩
  |_::_,[],us,ws,P,P',qs,h,h',e=>by cases e;unfold AA at h';obtain⟨rfl,_⟩:=h';exact⟨[],by simp,rfl,(λi q z=>by simp at z),rfl,AA.nil⟩
  |x::xs,y::ys,us,ws,P,P',qs,h,h',e=>by
    unfold jR at e;refine zAQ e λk ek e=>?_;refine zAQ e λl p e=>?_;cases e;unfold AA at h h';obtain⟨v,r,P1,P2,rfl,h1,h2,_⟩:=h;obtain⟨j,t,P1',s,rfl,f,d,_⟩:=h';obtain⟨b,rfl,hb⟩:=Bq h1 ek;obtain⟨ps,p1,p0,o,n,m⟩:=Sd h2 d p;refine⟨(k,j)::ps,by simp only[D4,p1];omega,by simp[p0],λi q c=>?_,by simp[n],?_⟩;cases i with|zero=>simp only[List.getElem?_cons_zero,Q7]at c;subst c;exact⟨b,rfl,hb,rfl⟩|succ i=>exact o i q (by simpa using c)
    exact(AA.cons (P1:=nop) (P2:=nop) f.z m λ_ z=>z.elim).iff λa=>⟨λz=>z.elim,λz=>z.elim id id⟩
theorem oX:MK K qz 1 (sW K):=λg H ds vs d Q zd rs e q=>by
 unfold qz two at e;split at e;rename_i x y;obtain⟨C,h,rfl,k,rs⟩:=Ab rs;obtain⟨B,f,rfl,j,n⟩:=Ab rs;cases Ai n;refine zAQ e λxs ex e=>?_;refine zAQ e λys ey e=>?_;refine zAQ e λqs eq e=>?_;split at e;rename_i hl;cases e;obtain⟨a,b,rfl,st⟩:=Gb k ex;obtain⟨z,w,rfl,c⟩:=Gb j ey;obtain⟨us,s1,m⟩:=st g H Ij;obtain⟨ws,s2,l⟩:=c g H Ij;obtain⟨ps,p1,p0,s,r,o⟩:=Sd m l eq;obtain⟨i,v,f2,u⟩:=PN (qs:=qs) (ps:=ps) (ks:=[]) (ds:=[]) (us:=[]) rfl AA.nil r o;have A:(1000000:Nat) < sizeLine:=by decide
 refine⟨(a,b),(z,w),us,ws,ps,rfl,⟨s1,s2,p1,s⟩,by omega,λp t=>?_⟩;rw[show Ji [] ps=_ from v];exact q _ _ (Ad.zFH zd u f2 t);cases e;cases e
end
end R
namespace KO
open PySem PySem.W PyProof.Rows
end KO
namespace L2
open PySem PySem.Spec PyProof.Rows
end L2
namespace R
open PySem L2 PyProof.Rows
end R
namespace My
open PySem L2 R
theorem uq{K:W.Frag}{o:Nat}{r:QG}:AL K (λ_=>_n) o r:=λ_ _ _ _ _ _ _ _ e _=>by cases e
theorem sY{K:W.Frag}{o:Nat}{r:QG}:AL K (one λ_=>_n) o r:=λ_ _ ds _ _ _ _ _ e _=>by unfold one at e;split at e<;>cases e
theorem uo{K:W.Frag}{o:Nat}{r:QG}:AL K (two λ_ _=>_n) o r:=λ_ _ ds _ _ _ _ _ e _=>by unfold two at e;split at e<;>cases e
def tb:Tb where
 zFP:=[⟨.Add,AV,λX h=>⟨_,cP X.K,jQ⟩⟩,
  ⟨.Sub,Rp,λX h=>⟨_,jm,bq⟩⟩,
  ⟨.Mult,Cp,λX h=>⟨_,ju.or (jo.or L4.zDT),jN⟩⟩,
  ⟨.Mod,FO,λX h=>⟨_,jv,Ma λ_ _ h=>of_decide_eq_true h⟩⟩,
  ⟨.FloorDiv,Pq,λX h=>⟨_,cK,Ma λ_ _ h=>by rw[A3,decide_eq_true_eq,decide_eq_true_eq]at h;exact h⟩⟩,
  ⟨.Pow,mT,λX h=>⟨_,jq,Ma λ_ _ h=>by rw[A3,A3,decide_eq_true_eq,decide_eq_true_eq,decide_eq_true_eq]at h;exact⟨h.1.1,h.1.2,h.2⟩⟩⟩]
 zFJ:=[⟨.Eq,Ek,λX h=>⟨_,L3.zEG h.2.choose_spec,XH⟩⟩,
  ⟨.NotEq,Iw,λX h=>⟨_,L3.zED h.2.choose_spec,XH⟩⟩,
  ⟨.Lt,aT,λX h=>⟨_,oq,Mb⟩⟩,
  ⟨.Gt,Vo,λX h=>⟨_,ot,Mb⟩⟩,
  ⟨.GtE,uZ,λX h=>⟨_,ou,Mb⟩⟩,
  ⟨.In,rY,λX h=>⟨_,(Q.zEE h.2.choose_spec).or ((jy (dD h)).or (jr (Om h))),XG⟩⟩,
  ⟨.NotIn,FL,λX h=>⟨_,(Q.zCk h.2.choose_spec).or ((cL (dD h)).or (cJ (Om h))),XG⟩⟩]
 calls:=[⟨"len", 1,1,one AS,λX h=>⟨_,jO,.inl ⟨_,(VX X.K).or Rc,PySem.boot_len⟩⟩⟩,
  ⟨"tuple", 1,1,one AY,λX h=>⟨_,XD,.inr ⟨_,PX X.K,PyProof.Rows.Boot.«tuple»⟩⟩⟩,
  ⟨"list", 1,1,one Kd,λX h=>⟨_,bj,.inr ⟨_,Rb X.K,PyProof.Rows.Boot.«list»⟩⟩⟩,
  ⟨"int", 1,1,one IU,λX h=>⟨_,bp,.inr ⟨_,Va,PyProof.Rows.Boot.«int»⟩⟩⟩,
  ⟨"max", 1,1,one MI,λX h=>⟨_,bg,.inl ⟨_,VV X.K rfl h.1,PyProof.Rows.Boot.«max»⟩⟩⟩,
  ⟨"max", 2,1,two ED,λX h=>⟨_,bh,.inl ⟨_,VW h.1,PyProof.Rows.Boot.«max»⟩⟩⟩,
  ⟨"min", 2,1,two MH,λX h=>⟨_,bf,.inl ⟨_,VU h.1,PyProof.Rows.Boot.«min»⟩⟩⟩,
  ⟨"sorted", 1,1,one IE,λX h=>⟨_,XE,.inl ⟨_,NN X.K,Pj⟩⟩⟩]
 meths:=[⟨"join", 1, "str", 1,two Ke,(.inr (.inl rfl)),λX h=>⟨_,_,wj,PySem.F.slot_str_join,PySem.F.type_str_join,Xq X.K,bo⟩⟩,
  ⟨"upper", 0, "str", 1,one ID,(.inr (.inl rfl)),λX h=>⟨_,_,wj,PySem.F.slot_str_upper,PySem.F.type_str_upper,Xo,XC⟩⟩]
 zEk:=[⟨"setdefault", 2, "dict", GB,.inr (.inr (.inr rfl)),λX h=>⟨_,_,Y7,o6,o7,Sm (Om h),cX⟩⟩,
  ⟨"append", 1, "list", Aa,.inl rfl,λX h=>⟨_,_,Q8,vq,vw,LX,Ug⟩⟩,
  ⟨"pop", 0, "list", Vn,.inl rfl,λX h=>⟨_,_,Q8,xC,xD,kP,kN⟩⟩,
  ⟨"pop", 1, "list", IF,.inl rfl,λX h=>⟨_,_,Q8,xC,xD,Xp,Xn⟩⟩,
  ⟨"extend", 1, "list", Bt,.inl rfl,λX h=>⟨_,_,Q8,PySem.F.slot_list_extend,PySem.F.type_list_extend,aI.or Uh Qv,Ue⟩⟩]
 zEe:=[⟨"range", 1,_f,DL,λX h=>⟨_,WZ,λtg es p pos ta _ c hs d hm ha=>by obtain⟨a,rfl⟩:=sy c;exact UT d hm ha (AH (by simpa using hs))⟩⟩,
  ⟨"range", 2,_f,UL,λX h=>⟨_,WY,λtg es p pos ta _ c hs d hm ha=>by
   obtain⟨a,b,rfl⟩:=uR c;have z:BI a=_t/\BI b=true:=by simpa using hs
   exact US d hm ha ((AH z.1).trans (by rw[AH z.2];rfl)) (AH z.2)⟩⟩,
  ⟨"zip", 2,_t,SS,λX h=>⟨_,WX,λtg es p pos ta g c hs d hm ha=>by
   obtain⟨e,i,f,rfl⟩:=fG (g rfl);obtain⟨a,b,rfl⟩:=uR c;have z:BI a=_t/\BI b=true:=by simpa using hs
   exact jS X.K `d `d fB d hm ha rfl (AH z.1) (Au (by simp[z.2]))⟩⟩,
  ⟨"enumerate", 1,_t,SU,λX h=>⟨_,Wa,λtg es p pos ta g c hs d hm ha=>by obtain⟨e,i,f,rfl⟩:=fG (g rfl);obtain⟨a,rfl⟩:=sy c;exact XO X.K d hm ha rfl (AH (by simpa using hs))⟩⟩]
 ix:=AC
 zEq:=λX h=>⟨_,(sf X.K).or ((pN (dD h)).or (pM (Om h))),jP⟩
 sl:=JB
 zEf:=λX h=>⟨_,sT X.K,oW⟩
 tru:=Ku
 zEZ:=aa
 lr:=EE
 zEo:=λX h=>Qh
 tr:=λ_=>_n
 zEY:=λX h=>uq
 md:=λ_ _=>_n
 zFe:=λX h=>uo
 rv:=Kc
 zEg:=λX h=>bc
 lv:=λ_=>_n
 zFf:=λX h=>sY
 ss:=λ_=>_n
 zFX:=λX h=>sY
 le:=λ_=>_n
 zFg:=λX h=>sY
 gt:=FP
 zFD:=λX h=>br
 dz:=qz
 zFG:=λX h=>oX
 st:=Ao
 zDz:=λX h=>⟨_,bG.or ((iZ (dD h)).or (iX (Om h))),iY⟩
noncomputable def top(i:Nat):N4:=PySem.Challenge.pw_shapefree_k45_whole_what_follows_goes_on.main.body.getD i (.Pass ⟨0,0,0,0⟩)
def Kn(i j:Nat):N4:=match top i with|.ClassDef _ _ _ a _ _ _ _ _ _ _=>a.getD j (.Pass ⟨0,0,0,0⟩)|s=>s
noncomputable def Uz:List Str:=["listed", "numbers", "leads"]
def md:Md:=⟨tb,[],["len", "range", "tuple", "list", "zip", "isinstance", "enumerate", "all", "any", "int", "bool", "str", "sum", "max", "min", "reversed", "sorted", "dict", "repr", "set", "abs", "type", "ord", "chr"],Uz,["listed", "numbers", "leads"]⟩
noncomputable def sx:List (Str×Sig):=[]
def GY(f:Dv)(a:Dv):Option (Bool):=
(AC a (.int 0)).bind λc=>(Ek c (.str [100,111])).bind λe=>if e=_t then
(AC a (.int 1)).bind λb=>(Ek b f).bind λd=>_s d
else
_s _f
def ES(c:Dv)(a:Dv):Option Dv:=
(AC c a).bind λb=>_s b
def GZ(j:Dv)(i:Dv)(e:Dv)(a:Dv)(c:Dv):Option (Dv):=
((GY j a)).bind λg=>if g=_t then
DR "list" e (
(AC a (.int 2)).bind λh=>(items h).bind λb=>Gv b ((BD (ES i) b).bind λd=>(Aa e [(.tup [(.lst d),c])]).bind λf=>_s f.2))
else
_s e
def EZ(f:Dv)(e:Dv)(c:Dv)(d:Dv):Option (Dv):=
(MM [4,5] c).bind fun(b:Dv×Dv)=>((GZ f e d b.1 b.2)).bind λa=>_s a
def DJ(e d b:Dv):Option (Dv):=
(SS [d,b]).bind λc=>(BO (EZ e b) c (.lst [])).bind λa=>_s a
theorem PK:Fu md sx (top 3) [] 1 (Kj DJ):=Fm 3 `k λ_ _ _=>by kernel_rfl
def uQ:List (Str×Sig):=Fv "entries_of" (top 3) sx [] 1 _f (Kj DJ)
def By(b:Dv)(c:Dv):Option (Dv):=
(MM [3,4] b).bind fun(a:Dv×Dv)=>(Ao c a.1 a.2).bind λd=>_s d
def Do(e d:Dv):Option (Dv):=
(Cp (.lst [(.int 0)]) d).bind λc=>(items e).bind λs1=>(BO By s1 c).bind λa=>(AY a).bind λb=>_s b
theorem VE:Fu md uQ (top 5) [] 1 (two Do):=Fm 2 `k λ_ _=>by kernel_rfl
def rT:List (Str×Sig):=Fv "made_row" (top 5) uQ [] 1 _f (two Do)
def Ck(b:Dv):Option Dv:=
(MM [3,4] b).bind fun(a:Dv×Dv)=>(AC a.1 (.int 0)).bind λc=>_s (.tup [c,a.2])
def ET(g:Dv)(f:Dv):Option (Dv):=
(MM [3,4] g).bind fun(a:Dv×Dv)=>DR "dict" f (
(AC a.1 (.int 0)).bind λb=>(Rq f b).bind λe=>(AC a.1 (.int 1)).bind λd=>(Vm e b (.tup [d,a.2])).bind λc=>_s c)
def Bo(e:Dv)(a:Dv)(b:Dv):Option Dv:=
DR "dict" a (
(FP [a,b,(.lst [])]).bind λc=>(Do c e).bind λd=>_s d)
def DC(k f e:Dv):Option (Dv):=
(Ek k (.int 1)).bind λj=>if j=_t then
(items f).bind λs1=>Gv s1 ((BD Ck s1).bind λg=>(Do (.lst g) e).bind λi=>_s i)
else
(items f).bind λh=>(BO ET h (.dct [] [])).bind λc=>(DL [e]).bind λa=>Gv a ((BD (Bo e c) a).bind λb=>(AY (.lst b)).bind λd=>_s d)
theorem PC:Fu md rT (top 4) [] 1 (Kj DC):=Fm 3 `k λ_ _ _=>by kernel_rfl
def uP:List (Str×Sig):=Fv "made_table" (top 4) rT [] 1 _f (Kj DC)
def EN(a:Dv)(b:Dv):Option Dv:=
DR "dict" a (
(FP [a,(.tup [(.str [102,105,120,101,100]),b]),(.int 0)]).bind λc=>_s c)
def EM(h:Dv)(g:Dv)(f:Dv)(d:Dv):Option Dv:=
(AC d (.int 1)).bind λe=>(AC d (.int 0)).bind λa=>(DJ a h g).bind λc=>(DC e c f).bind λb=>_s b
def EL(c:Dv)(a:Dv):Option Dv:=
DR "dict" c (
(FP [c,(.tup [(.str [105,110,112,117,116]),a]),(.int 0)]).bind λb=>_s b)
def DB(l p k j i:Dv):Option (Dv):=
(qz [k,j]).bind λh=>(AC l (.int 0)).bind λo=>(items o).bind λs2=>Gv s2 ((BD (EN h) s2).bind λm=>(AC l (.int 1)).bind λn=>(items n).bind λg=>Gv g ((BD (EM k j i) g).bind λc=>(DL [p]).bind λa=>Gv a ((BD (EL h) a).bind λb=>(AY (.lst m)).bind λf=>(AY (.lst c)).bind λe=>(AY (.lst b)).bind λd=>_s (.tup [(.tup [i,f,e]),d]))))
theorem PB:Fu md uP (top 2) [] 1 (qO DB):=Fm 5 `k λ_ _ _ _ _=>by kernel_rfl
def uO:List (Str×Sig):=Fv "made_world" (top 2) uP [] 1 _f (qO DB)
def DA(c:Dv):Option (Dv×Dv):=
(Ec c "listed" (.lst [])).bind λb=>(Ec b "numbers" (.dct [] [])).bind λa=>_s (.non,a)
theorem Oz:Fu md uO (Kn 7 0) [0] 1 (one DA):=Fm 1 `k λ_=>by kernel_rfl
def uN:List (Str×Sig):=Fv "__init__" (Kn 7 0) uO [0] 1 _t (one DA) (_s "Nodes")
def Bx(a:Dv)(c:Dv):Option (Dv):=
bif CB a "numbers" then
(GU a "numbers").bind λj=>(FL c j).bind λk=>if k=_t then
bif CB a "listed" then
(GU a "listed").bind λi=>(AS i).bind λh=>bif CB a "numbers" then
(GU a "numbers").bind λg=>(Ao g c h).bind λb=>bif CB (Bf a "numbers" b) "listed" then
(GU (Bf a "numbers" b) "listed").bind λf=>DR "list" f (
(GU (Bf a "numbers" b) "listed").bind λe=>(Aa e [c]).bind λd=>_s (Bf (Bf a "numbers" b) "listed" d.2))
else _n
else _n
else _n
else
_s a
else _n
def BR(e d:Dv):Option (Dv×Dv):=
((Bx e d)).bind λa=>bif CB a "numbers" then
(GU a "numbers").bind λc=>(AC c d).bind λb=>_s (b,a)
else _n
theorem IZ:Fu md uN (Kn 7 1) [0] 0 (two BR):=Fm 2 `k λ_ _=>by kernel_rfl
def uM:List (Str×Sig):=Fv "number_of" (Kn 7 1) uN [0] 0 _f (two BR) (_s "Nodes")
def Dd(c:Dv)(a:Dv):Option Dv:=
(AC c a).bind λb=>_s b
def CV(a i:Dv):Option (Dv):=
(AC a (.int 0)).bind λg=>(Iw g (.str [100,111])).bind λh=>if h=_t then
_s a
else
(AC a (.int 1)).bind λf=>(AC a (.int 2)).bind λe=>(items e).bind λb=>Gv b ((BD (Dd i) b).bind λc=>(AY (.lst c)).bind λd=>_s (.tup [(.str [100,111]),f,d]))
theorem NB:Fu md uM (top 8) [] 0 (two CV):=Fm 2 `k λ_ _=>by kernel_rfl
def uL:List (Str×Sig):=Fv "renumbered" (top 8) uM [] 0 _t (two CV)
def EV(d:Dv)(a:Dv×Dv):Option (Dv×Dv):=
DR "list" a.2 (
bif Ei a.1 "Nodes" "number_of" then
(CV d a.2).bind λc=>bif UZ c then
(BR a.1 c).bind λb=>(Aa a.2 [b.1]).bind λr11=>_s (b.2,r11.2)
else _n
else _n)
def EU(f:Dv)(b:Dv×Dv):Option (Dv×Dv):=
(AC f (.int 0)).bind λh=>(items h).bind λg=>(BO EV g (b.1,(.lst []))).bind λa=>DR "list" b.2 (
(AC f (.int 1)).bind λe=>(AC a.2 e).bind λd=>(Aa b.2 [d]).bind λc=>_s (a.1,c.2))
def OB(g:Dv):Option (Dv):=
(DA (.obj "Nodes" Uz [] [])).bind λe=>kQ e.1 [e.2] λf=>(items g).bind λs2=>(BO EU s2 (f,(.lst []))).bind λa=>bif CB a.1 "listed" then
(GU a.1 "listed").bind λd=>(AY d).bind λc=>(AY a.2).bind λb=>_s (.tup [c,b])
else _n
theorem lJ:Fu md uL (top 10) [] 1 (one OB):=Fm 1 `k λ_=>by kernel_rfl
def uK:List (Str×Sig):=Fv "laid" (top 10) uL [] 1 _f (one OB)
def DH(d c:Dv):Option (Dv×Dv):=
(EE [c]).bind λb=>(Ec d "leads" b).bind λa=>_s (.non,a)
theorem PH:Fu md uK (Kn 12 0) [0] 1 (two DH):=Fm 2 `k λ_ _=>by kernel_rfl
def uJ:List (Str×Sig):=Fv "__init__" (Kn 12 0) uK [0] 1 _t (two DH) (_s "Joins")
def Bn(a:Dv×Dv):Option Bool:=
bif CB a.1 "leads" then
(GU a.1 "leads").bind λc=>(AC c a.2).bind λb=>(Iw b a.2).bind λd=>_s d
else _n
def Cz(a:Dv×Dv):Option (Dv×Dv):=
bif CB a.1 "leads" then
bif CB a.1 "leads" then
(GU a.1 "leads").bind λi=>(AC i a.2).bind λh=>(GU a.1 "leads").bind λg=>(AC g h).bind λf=>bif CB a.1 "leads" then
(GU a.1 "leads").bind λe=>(Ao e a.2 f).bind λb=>bif CB (Bf a.1 "leads" b) "leads" then
(GU (Bf a.1 "leads" b) "leads").bind λd=>(AC d a.2).bind λc=>_s ((Bf a.1 "leads" b),c)
else _n
else _n
else _n
else _n
def AZ(c b:Dv):Option (Dv×Dv):=
(Tz Bn Cz 1000000 (c,b)).bind λa=>_s (a.2,a.1)
theorem Kq:Fu md uJ (Kn 12 1) [0] 0 (two AZ):=Fm 2 `k λ_ _=>by kernel_rfl
def qK:List (Str×Sig):=Fv "root_of" (Kn 12 1) uJ [0] 0 _f (two AZ) (_s "Joins")
def Aq(c f e:Dv):Option (Dv×Dv):=
bif Ei c "Joins" "root_of" then
(AZ c f).bind λa=>bif Ei a.2 "Joins" "root_of" then
(AZ a.2 e).bind λb=>(Ek a.1 b.1).bind λd=>_s ((.bl d),b.2)
else _n
else _n
theorem Hv:Fu md qK (Kn 12 2) [0] 1 (Kj Aq):=Fm 3 `k λ_ _ _=>by kernel_rfl
def qJ:List (Str×Sig):=Fv "are_joined" (Kn 12 2) qK [0] 1 _t (Kj Aq) (_s "Joins")
def Ah(d j i:Dv):Option (Dv×Dv):=
bif Ei d "Joins" "root_of" then
(AZ d j).bind λb=>bif Ei b.2 "Joins" "root_of" then
(AZ b.2 i).bind λa=>(IE (.lst [b.1,a.1])).bind λc=>(AC c (.int 0)).bind λh=>bif CB a.2 "leads" then
(AC c (.int 1)).bind λg=>(GU a.2 "leads").bind λf=>(Ao f g h).bind λe=>_s (.non,(Bf a.2 "leads" e))
else _n
else _n
else _n
theorem Gw:Fu md qJ (Kn 12 3) [0] 1 (Kj Ah):=Fm 3 `k λ_ _ _=>by kernel_rfl
def qI:List (Str×Sig):=Fv "make_joined" (Kn 12 3) qJ [0] 1 _t (Kj Ah) (_s "Joins")
def Gc(b:Dv)(a:Dv):Option (Dv):=
DR "list" a (
(Bt a [b]).bind λc=>_s c.2)
def DE(f e:Dv):Option (Dv):=
(Kd f).bind λc=>(AV c (.lst [e])).bind λb=>(items b).bind λs2=>(BO Gc s2 (.lst [])).bind λa=>(OB a).bind λd=>_s d
theorem PD:Fu md qI (top 13) [] 1 (two DE):=Fm 2 `k λ_ _=>by kernel_rfl
def qH:List (Str×Sig):=Fv "laid_pairs" (top 13) qI [] 1 _f (two DE)
def Cb(d:Dv)(a:Dv×Dv×Dv):Option (Dv×Dv×Dv):=
DR "list" a.2.1 (
DR "dict" a.2.2 (
bif Ei a.1 "Joins" "root_of" then
(AZ a.1 d).bind λc=>(AS a.2.2).bind λf=>(GB a.2.2 [c.1,f]).bind λb=>(Aa a.2.1 [b.1]).bind λe=>_s (c.2,e.2,b.2)
else _n))
def Bb(d c:Dv):Option (Dv×Dv):=
(DL [c]).bind λb=>(BO Cb b (d,(.lst []),(.dct [] []))).bind λa=>_s (a.2.1,a.1)
theorem KJ:Fu md qH (top 16) [0] 1 (two Bb):=Fm 2 `k λ_ _=>by kernel_rfl
def qG:List (Str×Sig):=Fv "values_by_root" (top 16) qH [0] 1 _f (two Bb)
def EY(f:Dv)(b:Dv)(a:Dv×Dv):Option (Dv×Dv):=
DR "list" a.2 (
(Aa a.2 [(.tup [(.str [103,105,118,101,110]),b])]).bind λg=>bif Ei a.1 "Joins" "make_joined" then
(Cp (.int 2) b).bind λj=>(AC f j).bind λi=>(Cp (.int 2) b).bind λh=>(AV h (.int 1)).bind λd=>(AC f d).bind λc=>(Ah a.1 i c).bind λe=>_s (e.2,g.2)
else _n)
def DI(b g:Dv):Option (Dv×Dv):=
(AS b).bind λf=>(Pq f (.int 2)).bind λe=>(Rp e (.int 1)).bind λd=>(DL [d]).bind λc=>(BO (EY b) c (g,(.lst []))).bind λa=>_s (a.2,a.1)
theorem PJ:Fu md qG (top 17) [1] 1 (two DI):=Fm 2 `k λ_ _=>by kernel_rfl
def qF:List (Str×Sig):=Fv "given_rows" (top 17) qG [1] 1 _f (two DI)
def CP(c:Dv)(a:Dv):Option (Dv×Dv):=
bif Ei a "Joins" "root_of" then
(AZ a c).bind λb=>_s (b.1,b.2)
else _n
def IJ(d:Dv)(c:Dv)(e:Dv)(b:Dv):Option (Dv×Dv):=
bif Ei e "Joins" "are_joined" then
(Aq e b c).bind λa=>(Ku a.1).bind λh=>if(!h)=_t then
DR "list" d (
(Aa d [(.tup [(.str [108,105,107,101]),b,c])]).bind λf=>bif Ei a.2 "Joins" "make_joined" then
(Ah a.2 b c).bind λg=>_s (g.2,f.2)
else _n)
else
_s (a.2,d)
else _n
def II(c:Dv)(e:Dv)(b:Dv)(d:Dv)(a:Dv):Option (Dv×Dv×Dv):=
(AC a (.int 0)).bind λm=>(Ek m (.str [100,111])).bind λn=>if n=_t then
DR "dict" b (
(AC a (.int 1)).bind λl=>(AC a (.int 2)).bind λk=>(items k).bind λj=>Gv j ((Ce CP j c).bind λh=>(AY (.lst h.1)).bind λi=>(GB b [(.tup [l,i]),d]).bind λg=>((IJ e d h.2 g.1)).bind λf=>_s (f.1,f.2,g.2)))
else
_s (c,e,b)
def CQ(d:Dv)(b:Dv×Dv×Dv):Option (Dv×Dv×Dv):=
(MM [4,5] d).bind fun(c:Dv×Dv)=>((II b.1 b.2.1 b.2.2 c.1 c.2)).bind λa=>_s (a.1,a.2.1,a.2.2)
def Cq(d c:Dv):Option (Dv×Dv):=
(SU [d]).bind λb=>(BO CQ b (c,(.lst []),(.dct [] []))).bind λa=>_s (a.2.1,a.1)
theorem RU:Fu md qF (top 18) [1] 1 (two Cq):=Fm 2 `k λ_ _=>by kernel_rfl
def qE:List (Str×Sig):=Fv "like_rows" (top 18) qF [1] 1 _f (two Cq)
def GG(a:Dv×Dv×Dv):Option Bool:=
(Ku a.2.2).bind λb=>_s b
def GK(d:Dv)(b:Dv×Dv×Dv):Option (Dv×Dv×Dv):=
DR "list" b.2.1 (
(Bt b.2.1 [b.2.2]).bind λc=>(Cq d b.1).bind λa=>_s (a.2,c.2,a.1))
def Dp(A z y x:Dv):Option (Dv):=
(DE y x).bind λu=>(AC u (.int 0)).bind λb=>(AC u (.int 1)).bind λk=>(AS b).bind λw=>(DH (.obj "Joins" Uz [] []) w).bind λt=>kQ t.1 [t.2] λv=>(DI k v).bind λs=>(Cq b s.2).bind λr=>(Tz GG (GK b) 1000000 (r.2,s.1,r.1)).bind λa=>bif Ei a.1 "Joins" "are_joined" then
(EC (.int 2)).bind λp=>(AC k p).bind λo=>(EC (.int 1)).bind λn=>(AC k n).bind λm=>(Aq a.1 o m).bind λe=>(Ku e.1).bind λq=>if q=_t then
(AY a.2.1).bind λl=>_s (.tup [(.str [102,111,108,108,111,119,115]),l])
else
(AS b).bind λj=>(Bb e.2 j).bind λd=>(MI d.1).bind λi=>(AV (.int 1) i).bind λh=>(DB A z b d.1 h).bind λc=>(AC c (.int 0)).bind λg=>(AC c (.int 1)).bind λf=>_s (.tup [(.str [112,97,114,116]),g,f])
else _n
theorem VI:Fu md qE (top 15) [] 1 (Uy Dp):=Fm 4 `k λ_ _ _ _=>by kernel_rfl
def qD:List (Str×Sig):=Fv "follows" (top 15) qE [] 1 _f (Uy Dp)
def Nz(e:Dv)(f:Dv)(k:Dv):Option (Dv):=
(AS e).bind λj=>(Vo j (.int 0)).bind λl=>if l=_t then
(AS e).bind λi=>(FO f i).bind λh=>(AC e h).bind λg=>(FO g (.int 2147483629)).bind λd=>(Cp d (.int 31)).bind λc=>(Cp (.int 7907) f).bind λb=>(AV c b).bind λa=>_s a
else
_s k
def JV(c:Dv)(b:Dv)(f:Dv):Option (Dv):=
(AS c).bind λe=>(aT b e).bind λg=>if g=_t then
(AC c b).bind λd=>_s d
else
((Nz c b f)).bind λa=>_s a
def JU(a:Dv):Option (Dv):=
(mT (.int 10) (.int 18)).bind λb=>(uZ a b).bind λc=>if c=_t then
_s a
else
_s (.int 0)
def Ja(l i:Dv):Option (Dv):=
(Cp (.int 7907) i).bind λk=>(AV k (.int 13579)).bind λj=>((JV l i j)).bind λa=>((JU a)).bind λb=>(FO a (.int 2147483629)).bind λh=>(Cp h (.int 48271)).bind λg=>(Cp (.int 40692) i).bind λf=>(AV g f).bind λe=>(FO e (.int 2147483646)).bind λd=>(AV d (.int 1)).bind λc=>_s (.lst [b,c])
theorem dP:Fu md qD (top 20) [] 1 (two Ja):=Fm 2 `k λ_ _=>by kernel_rfl
def qC:List (Str×Sig):=Fv "_law_feed" (top 20) qD [] 1 _f (two Ja)
def AN(a l:Dv):Option (Dv×Dv):=
(AC a (.int 0)).bind λu=>(Vo u (.int 0)).bind λv=>if v=_t then
(AC a (.int 0)).bind λt=>(FO t l).bind λs=>(AC a (.int 0)).bind λr=>(Pq r l).bind λq=>(Ao a (.int 0) q).bind λp=>_s (s,p)
else
(AC a (.int 1)).bind λo=>(Cp o (.int 48271)).bind λn=>(FO n (.int 2147483647)).bind λm=>(Cp m (.int 40692)).bind λk=>(AV k (.int 30103)).bind λj=>(FO j (.int 2147483399)).bind λi=>(AV i (.int 1)).bind λh=>(Ao a (.int 1) h).bind λb=>(Cp m (.int 2147483647)).bind λg=>(AC b (.int 1)).bind λf=>(AV g f).bind λe=>(Pq e (.int 8191)).bind λd=>(FO d l).bind λc=>_s (c,b)
theorem dO:Fu md qC (top 21) [0] 1 (two AN):=Fm 2 `k λ_ _=>by kernel_rfl
def qB:List (Str×Sig):=Fv "_law_take" (top 21) qC [0] 1 _f (two AN)
def FY(d:Dv)(b:Dv):Option (Dv×Dv):=
(AN b (.int 26)).bind λa=>(AC (.str [97,98,99,100,101,102,103,104,105,106,107,108,109,110,111,112,113,114,115,116,117,118,119,120,121,122]) a.1).bind λc=>_s (c,a.2)
def HX(a:Dv):Option (Dv):=
(rY a (.tup [(.str [100,101,102]),(.str [108,101,116]),(.str [116,101,108,108]),(.str [108,111,111,112]),(.str [112,105,99,107]),(.str [99,97,108,108])])).bind λc=>if c=_t then
(AV a (.str [113])).bind λb=>_s b
else
_s a
def FZ(u:Dv)(d:Dv)(a:Dv)(e:Dv)(b:Dv)(c:Dv):Option (Dv):=
(Cp (.int 7) b).bind λt=>(AV d t).bind λs=>(FO s (.int 26)).bind λr=>(AC (.str [97,98,99,100,101,102,103,104,105,106,107,108,109,110,111,112,113,114,115,116,117,118,119,120,121,122]) r).bind λq=>gr a λj=>(JB u _n (_s j)).bind λp=>(AV p q).bind λo=>gr a λi=>(AV e b).bind λn=>(FO n (.int 4)).bind λm=>gr m λh=>(JB u (_s i) (_s h)).bind λl=>(AV o l).bind λk=>((HX k)).bind λf=>DR "list" c (
(Aa c [f]).bind λg=>_s g.2)
def LK(a:Dv)(c:Dv):Option (Bool×Dv):=
(EC (.int 2)).bind λf=>(AC c f).bind λe=>(AS e).bind λd=>(aT d (.int 4)).bind λh=>if h=_t then
(AN a (.int 4)).bind λb=>(Ek b.1 (.int 0)).bind λg=>_s (g,b.2)
else
_s (_f,a)
def HU(e:Dv)(a:Dv)(c:Dv):Option (Bool×Dv):=
(Vo e (.int 1)).bind λd=>if d=_t then
((LK a c)).bind λb=>_s (b.1,b.2)
else
_s (_f,a)
def HW(i:Dv)(c:Dv)(a:Dv):Option (Dv×Dv):=
((HU i c a)).bind λb=>if b.1=_t then
(EC (.int 2)).bind λh=>(AC a h).bind λg=>(AV g (.str [113])).bind λf=>(EC (.int 1)).bind λe=>(Ao a e f).bind λd=>_s (b.2,d)
else
_s (b.2,a)
def DV(m k:Dv):Option (Dv×Dv):=
DR "str" (.str []) (
(AN m (.int 4)).bind λj=>(DL [j.1]).bind λs1=>Gv s1 ((Ce FY s1 j.2).bind λg=>(Ke (.str []) (.lst g.1)).bind λh=>(AN g.2 (.int 26)).bind λi=>(AS h).bind λl=>(AV l (.int 1)).bind λf=>(AN i.2 f).bind λc=>(AN c.2 (.int 4)).bind λb=>(DL [k]).bind λe=>(BO (FZ h i.1 c.1 b.1) e (.lst [])).bind λd=>((HW k b.2 d)).bind λa=>_s (a.2,a.1)))
theorem Yz:Fu md qB (top 22) [0] 1 (two DV):=Fm 2 `k λ_ _=>by kernel_rfl
def qA:List (Str×Sig):=Fv "_law_names" (top 22) qB [0] 1 _f (two DV)
def Ha(a:Dv):Option Dv:=
(JB a _n (_s 1)).bind λb=>DR "str" b (
(ID b).bind λe=>(JB a (_s 1) _n).bind λd=>(AV e d).bind λc=>_s c)
def HZ(b:Dv)(c:Dv)(d:Dv):Option (Dv×Dv):=
(AC b c).bind λf=>(AN d (.int 2)).bind λa=>(AV (.int 1) a.1).bind λe=>_s ((.tup [f,e]),a.2)
def Gd(n:Dv):Option (Dv×Dv):=
(DV n (.int 4)).bind λk=>(AN k.2 (.int 4)).bind λj=>gr j.1 λl=>(JB k.1 _n (_s l)).bind λm=>(items m).bind λi=>Gv i ((BD Ha i).bind λe=>(DV j.2 (.int 3)).bind λd=>(AN d.2 (.int 8)).bind λc=>(AC (.lst [(.int 1),(.int 2),(.int 3),(.int 2),(.int 3),(.int 1),(.int 2),(.int 0)]) c.1).bind λh=>(DL [h]).bind λa=>Gv a ((Ce (HZ d.1) a c.2).bind λb=>(AY (.lst e)).bind λg=>(AY (.lst b.1)).bind λf=>_s ((.tup [g,f]),b.2)))
theorem Yw:Fu md qA (top 23) [0] 1 (one Gd):=Fm 1 `k λ_=>by kernel_rfl
def pz:List (Str×Sig):=Fv "_law_shape" (top 23) qA [0] 1 _f (one Gd)
def CN(a:Dv×Dv×Dv):Option Bool:=
(AS a.2.2).bind λb=>(Vo b (.int 0)).bind λc=>_s c
def DT(c:Dv)(a:Dv):Option Dv:=
(AC c a).bind λb=>_s b
noncomputable def DS(a:Dv):Option Dv:=
_s (.tup [a,(.bl _f)])
def En(a:Dv)(d:Dv)(b:Dv)(c:Dv)(j:Dv)(i:Dv):Option (Dv×Dv×Dv):=
(Ku j).bind λw=>if w=_t then
(AS a).bind λv=>(Ao d c v).bind λh=>DR "list" a (
(AC i (.int 0)).bind λu=>(AC i (.int 1)).bind λt=>(AC i (.int 2)).bind λs=>(items s).bind λf=>Gv f ((BD (DT h) f).bind λl=>(AY (.lst l)).bind λr=>(Aa a [(.tup [u,t,r])]).bind λn=>_s (n.2,h,b)))
else
DR "list" b (
(Aa b [(.tup [c,(.bl _t)])]).bind λg=>DR "list" g.2 (
(AC i (.int 2)).bind λq=>(EC (.int 1)).bind λp=>(Kc q p).bind λo=>(items o).bind λe=>Gv e ((BD DS e).bind λk=>(Bt g.2 [(.lst k)]).bind λm=>_s (a,d,m.2))))
def CO(a:Dv)(e:Dv)(d:Dv)(c:Dv)(f:Dv)(g:Dv):Option (Dv×Dv×Dv):=
(AC g (.int 0)).bind λj=>(Iw j (.str [100,111])).bind λk=>if k=_t then
(AS a).bind λi=>(Ao e c i).bind λh=>DR "list" a (
(Aa a [g]).bind λr11=>_s (r11.2,h,d))
else
((En a e d c f g)).bind λb=>_s (b.1,b.2.1,b.2.2)
def Af(g:Dv)(b:Dv×Dv×Dv):Option (Dv×Dv×Dv):=
DR "list" b.2.2 (
(Vn b.2.2 []).bind λd=>(MM [5,6] d.1).bind fun(c:Dv×Dv)=>(rY c.1 b.2.1).bind λf=>if f=_t then
_s (b.1,b.2.1,d.2)
else
(AC g c.1).bind λe=>((CO b.1 b.2.1 d.2 c.1 c.2 e)).bind λa=>_s (a.1,a.2.1,a.2.2))
def BY(f e:Dv):Option (Dv):=
(Tz CN (Af f) 1000000 ((.lst []),(.dct [] []),(.lst [(.tup [e,(.bl _f)])]))).bind λa=>(AY a.1).bind λd=>(AS a.1).bind λc=>(Rp c (.int 1)).bind λb=>_s (.tup [d,b])
theorem RV:Fu md pz (top 24) [] 1 (two BY):=Fm 2 `k λ_ _=>by kernel_rfl
def pq:List (Str×Sig):=Fv "_law_ordered" (top 24) pz [] 1 _f (two BY)
noncomputable def FX(a:Dv):Option Dv:=
_s (.tup [(.str [105,110,112,117,116]),a])
noncomputable def FW(a:Dv):Option Dv:=
_s (.tup [(.str [102,105,120,101,100]),a])
def LJ(g:Dv)(a:Dv):Option (Bool×Dv):=
(AC g (.int 1)).bind λd=>(AS d).bind λc=>(Vo c (.int 0)).bind λf=>if f=_t then
(AN a (.int 4)).bind λb=>(Vo b.1 (.int 0)).bind λe=>_s (e,b.2)
else
_s (_f,a)
def HS(f:Dv)(c:Dv)(a:Dv):Option (Bool×Dv):=
(AS c).bind λd=>(Vo d (.int 0)).bind λe=>if e=_t then
((LJ f a)).bind λb=>_s (b.1,b.2)
else
_s (_f,a)
def Hb(a:Dv)(i:Dv)(d:Dv):Option (Dv×Dv):=
(AS a).bind λh=>(Rp h (.int 1)).bind λg=>(AS a).bind λf=>(AN d f).bind λc=>(AN c.2 (.int 2)).bind λb=>(AC (.lst [g,c.1]) b.1).bind λe=>_s (e,b.2)
def HV(n:Dv)(b:Dv)(g:Dv)(m:Dv):Option (Dv×Dv):=
((HS n b g)).bind λa=>if a.1=_t then
(AC n (.int 1)).bind λl=>(AC n (.int 1)).bind λk=>(AS k).bind λj=>(AN a.2 j).bind λf=>(AC l f.1).bind λi=>(MM [8,9] i).bind fun(c:Dv×Dv)=>(DL [c.2]).bind λd=>Gv d ((Ce (Hb b) d f.2).bind λe=>(AY (.lst e.1)).bind λh=>_s (e.2,(.tup [(.str [100,111]),c.1,h])))
else
_s (a.2,m)
def LN(a:Dv)(b:Dv):Option (Dv):=
(FL b a).bind λd=>if d=_t then
DR "list" a (
(Aa a [b]).bind λc=>_s c.2)
else
_s a
def Hf(i:Dv)(c:Dv)(h:Dv)(a:Dv×Dv):Option (Dv×Dv):=
(AS c).bind λg=>(AN a.1 g).bind λd=>(AC c d.1).bind λf=>((HV i a.2 d.2 f)).bind λb=>((LN a.2 b.2)).bind λe=>_s (b.1,e)
def Gf(q e p o:Dv):Option (Dv×Dv):=
(AC e (.int 0)).bind λm=>(AS m).bind λl=>(Ek l (.int 0)).bind λn=>(IU (.bl n)).bind λk=>(ED p k).bind λj=>(DL [j]).bind λg=>Gv g ((BD FX g).bind λh=>(AC e (.int 0)).bind λi=>(items i).bind λf=>Gv f ((BD FW f).bind λb=>(AV (.lst h) (.lst b)).bind λd=>(DL [o]).bind λc=>(BO (Hf e d) c (q,(.lst []))).bind λa=>_s (a.2,a.1)))
theorem Yy:Fu md pq (top 25) [0] 1 (Uy Gf):=Fm 4 `k λ_ _ _ _=>by kernel_rfl
def pk:List (Str×Sig):=Fv "_law_nodes" (top 25) pq [0] 1 _f (Uy Gf)
def JT(b:Dv)(g:Dv)(f:Dv)(a:Dv):Option (Dv):=
(AC b f).bind λd=>(Ek a d).bind λe=>if e=_t then
(AC b g).bind λc=>_s c
else
_s a
def EO(e:Dv)(d:Dv)(c:Dv)(a:Dv):Option Dv:=
((JT e d c a)).bind λb=>_s b
def DF(b e d:Dv):Option (Dv):=
(items b).bind λa=>Gv a ((BD (EO b e d) a).bind λc=>_s (.lst c))
theorem VG:Fu md pk (top 26) [] 1 (Kj DF):=Fm 3 `k λ_ _ _=>by kernel_rfl
def pj:List (Str×Sig):=Fv "_law_merged" (top 26) pk [] 1 _f (Kj DF)
def LM(i:Dv)(j:Dv)(k:Dv):Option (Bool):=
(AC i j).bind λf=>(AC f (.int 0)).bind λe=>(Ek e (.str [100,111])).bind λh=>if h=_t then
(AC i j).bind λd=>(JB d _n (_s 2)).bind λc=>(AC i k).bind λb=>(JB b _n (_s 2)).bind λa=>(Ek c a).bind λg=>_s g
else
_s _f
def LL(h:Dv)(d:Dv)(c:Dv)(b:Dv):Option (Bool):=
(AC d c).bind λf=>(AC d b).bind λe=>(Iw f e).bind λg=>if g=_t then
((LM h c b)).bind λa=>_s a
else
_s _f
def Hd(c:Dv)(a:Dv):Option Dv:=
(AC c a).bind λb=>_s b
def Hc(c:Dv)(a:Dv):Option Dv:=
(AC c a).bind λb=>_s b
def LO(o:Dv)(n:Dv)(m:Dv)(l:Dv)(e:Dv):Option (Dv):=
(AC o m).bind λj=>(AC j (.int 2)).bind λi=>(items i).bind λb=>Gv b ((BD (Hd n) b).bind λd=>(AC o l).bind λh=>(AC h (.int 2)).bind λg=>(items g).bind λa=>Gv a ((BD (Hc n) a).bind λc=>(Ek (.lst d) (.lst c)).bind λk=>if k=_t then
DR "list" e (
(Aa e [(.tup [m,l])]).bind λf=>_s f.2)
else
_s e))
def HY(g:Dv)(f:Dv)(d:Dv)(c:Dv)(e:Dv):Option (Dv):=
((LL g f d c)).bind λb=>if b=_t then
((LO g f d c e)).bind λa=>_s a
else
_s e
def Hh(f:Dv)(e:Dv)(c:Dv)(b:Dv)(d:Dv):Option (Dv):=
((HY f e c b d)).bind λa=>_s a
def Hg(f:Dv)(e:Dv)(b:Dv)(c:Dv):Option (Dv):=
(DL [b]).bind λd=>(BO (Hh f e b) d c).bind λa=>_s a
def Fc(b d:Dv):Option (Dv):=
(AS b).bind λc=>(DL [c]).bind λs1=>(BO (Hg b d) s1 (.lst [])).bind λa=>_s a
theorem ZA:Fu md pj (top 27) [] 1 (two Fc):=Fm 2 `k λ_ _=>by kernel_rfl
def ph:List (Str×Sig):=Fv "_law_likes" (top 27) pj [] 1 _f (two Fc)
def GJ(b:Dv)(c:Dv):Option (Dv):=
(MM [3,4] b).bind fun(a:Dv×Dv)=>(DF c a.1 a.2).bind λd=>_s d
def EJ(c:Dv×Dv):Option Bool:=
(AS c.2).bind λa=>(Vo a (.int 0)).bind λb=>_s b
def GI(h:Dv)(b:Dv×Dv):Option (Dv×Dv):=
(AC b.2 (.int 0)).bind λf=>(AC f (.int 0)).bind λe=>(AC b.2 (.int 0)).bind λd=>(AC d (.int 1)).bind λc=>(DF b.1 e c).bind λa=>(Fc h a).bind λg=>_s (a,g)
def Er(b g:Dv):Option (Dv):=
(AS b).bind λe=>(EE [e]).bind λd=>(items g).bind λs2=>(BO GJ s2 d).bind λc=>(Fc b c).bind λf=>(Tz EJ (GI b) 1000000 (c,f)).bind λa=>_s a.1
theorem VH:Fu md ph (top 28) [] 0 (two Er):=Fm 2 `k λ_ _=>by kernel_rfl
def pf:List (Str×Sig):=Fv "_law_labels" (top 28) ph [] 0 _f (two Er)
def ER(b:Dv)(a:Dv):Option (Option Dv):=
(Iw a b).bind λc=>if c=_t then
_s (_s (.tup [b,a]))
else _s _n
def EX(e:Dv)(d:Dv)(a:Dv):Option (Dv):=
DR "list" a (
(DL [e]).bind λb=>Gv b ((Od (ER d) b).bind λc=>(Bt a [(.lst c)]).bind λr7=>_s r7.2))
def DG(a:Dv):Option (Dv):=
(DL [a]).bind λc=>(BO (EX a) c (.lst [])).bind λb=>_s b
theorem PF:Fu md pf (top 30) [] 1 (one DG):=Fm 1 `k λ_=>by kernel_rfl
def pd:List (Str×Sig):=Fv "_law_all_pairs" (top 30) pf [] 1 _f (one DG)
def JZ(b:Dv)(h:Dv)(a:Dv×Dv):Option (Dv×Dv):=
DR "list" a.2 (
(AS b).bind λg=>(AN a.1 g).bind λd=>(AS b).bind λf=>(AN d.2 f).bind λc=>(Aa a.2 [(.tup [d.1,c.1])]).bind λe=>_s (c.2,e.2))
def Nx(d:Dv)(c:Dv)(a:Dv)(b:Dv):Option (Bool):=
(AC c a).bind λf=>(AC c b).bind λe=>(Ek f e).bind λh=>if h=_t then
(FL (.tup [a,b]) d).bind λg=>_s g
else
_s _f
def JY(b:Dv)(e:Dv)(c:Dv):Option (Option Dv):=
(MM [13,14] c).bind fun(a:Dv×Dv)=>((Nx b e a.1 a.2)).bind λd=>if d=_t then
_s (_s (.tup [a.1,a.2]))
else _s _n
def Nw(a:Dv)(c:List Dv):Option (Bool×Dv):=
(AS (.lst c)).bind λd=>(Vo d (.int 0)).bind λf=>if f=_t then
(AN a (.int 2)).bind λb=>(Ek b.1 (.int 0)).bind λe=>_s (e,b.2)
else
_s (_f,a)
def JW(e:Dv)(f:Dv)(g:Dv)(a:List Dv):Option (Dv×Dv×Dv):=
((Nw g a)).bind λb=>if b.1=_t then
(AS (.lst a)).bind λi=>(AN b.2 i).bind λd=>(AC (.lst a) d.1).bind λh=>(MM [7,8] h).bind fun(c:Dv×Dv)=>_s (d.2,c.1,c.2)
else
_s (b.2,e,f)
def JX(a:Dv)(c:Dv):Option Dv:=
(MM [13,14] c).bind fun(b:Dv×Dv)=>(BY a b.1).bind λe=>(BY a b.2).bind λd=>_s (.tup [e,d])
def Hi(D C:Dv):Option (Dv×Dv):=
(Gd D).bind λi=>(AN i.2 (.int 4)).bind λw=>(AC i.1 (.int 0)).bind λA=>(AS A).bind λz=>(Ek z (.int 0)).bind λB=>(IU (.bl B)).bind λy=>(ED w.1 y).bind λu=>(AN w.2 C).bind λv=>(AV (.int 2) v.1).bind λx=>(Gf v.2 i.1 u x).bind λb=>(AN b.2 (.int 6)).bind λh=>(DL [h.1]).bind λl=>(BO (JZ b.1) l (h.2,(.lst []))).bind λa=>(AS b.1).bind λp=>(AN a.1 p).bind λg=>(AS b.1).bind λo=>(AN g.2 o).bind λf=>(Er b.1 a.2).bind λt=>(AS b.1).bind λn=>(DG n).bind λs=>(items s).bind λe=>Gv e ((Od (JY a.2 t) e).bind λk=>((JW g.1 f.1 f.2 k)).bind λc=>(items a.2).bind λd=>Gv d ((BD (JX b.1) d).bind λj=>(AY (.lst j)).bind λm=>(BY b.1 c.2.1).bind λr=>(BY b.1 c.2.2).bind λq=>_s ((.tup [i.1,u,m,(.tup [r,q])]),c.1)))
theorem dR:Fu md pd (top 29) [0] 1 (two Hi):=Fm 2 `k λ_ _=>by kernel_rfl
def pb:List (Str×Sig):=Fv "_law_case" (top 29) pd [0] 1 _f (two Hi)
def BS(f e d c:Dv):Option (Dv):=
(Dp f e d c).bind λb=>(AC b (.int 0)).bind λa=>_s a
theorem dM:Fu md pb (top 31) [] 0 (Uy BS):=Fm 4 `k λ_ _ _ _=>by kernel_rfl
def pZ:List (Str×Sig):=Fv "_law_word" (top 31) pb [] 0 _f (Uy BS)
def Et(h b:Dv):Option (Dv):=
(MM [2,3] h).bind fun(a:Dv×Dv)=>(AC b (.int 0)).bind λg=>(AC b (.int 1)).bind λf=>(Cp (.tup [a.2]) f).bind λe=>(AV a.1 (.tup [(.tup [(.str [100,111]),g,e])])).bind λd=>(AV a.2 (.int 1)).bind λc=>_s (.tup [d,c])
theorem dQ:Fu md pZ (top 32) [] 1 (two Et):=Fm 2 `k λ_ _=>by kernel_rfl
def pY:List (Str×Sig):=Fv "_law_done" (top 32) pZ [] 1 _f (two Et)
def Cv(a:Dv×Dv×Dv):Option Bool:=
(AS a.2.1).bind λb=>(Vo b (.int 0)).bind λc=>_s c
def EW(a:Dv×Dv×Dv):Option (Dv×Dv×Dv):=
DR "list" a.2.1 (
(AS a.2.1).bind λh=>(AN a.1 h).bind λf=>(IF a.2.1 [f.1]).bind λd=>(MM [4,5] d.1).bind fun(b:Dv×Dv)=>DR "list" a.2.2 (
(AN f.2 (.int 2)).bind λe=>(AC (.lst [(.tup [b.1,b.2]),(.tup [b.2,b.1])]) e.1).bind λg=>(Aa a.2.2 [g]).bind λc=>_s (e.2,d.2,c.2)))
def Ep(e d:Dv):Option (Dv×Dv):=
(Kd d).bind λc=>(Tz Cv EW 1000000 (e,c,(.lst []))).bind λa=>(AY a.2.2).bind λb=>_s (b,a.1)
theorem VF:Fu md pY (top 33) [0] 1 (two Ep):=Fm 2 `k λ_ _=>by kernel_rfl
def pX:List (Str×Sig):=Fv "_law_turned" (top 33) pY [0] 1 _f (two Ep)
def He(c:Dv)(d:Dv)(b:Dv)(a:Dv)(o:Dv)(e:Dv)(p:Unit):Option (Lp Dv (Unit) (Unit)):=
(AC a (.int 0)).bind λj=>(Et j e).bind λg=>(AC a (.int 1)).bind λi=>(Et i e).bind λf=>(BS c d b (.tup [g,f])).bind λl=>(Iw l o).bind λn=>if n=_t then
_s (.rt (.bl _f) ())
else
(AV b (.tup [a])).bind λh=>(BS c d h (.tup [g,f])).bind λk=>(Iw k o).bind λm=>if m=_t then
_s (.rt (.bl _f) ())
else
_s (.go ())
def Ge(B A:Dv):Option (Dv×Dv):=
(MM [2,3,4,5] A).bind fun(a:Dv×Dv×Dv×Dv)=>(BS a.1 a.2.1 a.2.2.1 a.2.2.2).bind λc=>(Ep B a.2.2.1).bind λb=>(EC (.int 1)).bind λx=>(Kc a.2.2.2 x).bind λw=>(BS a.1 a.2.1 b.1 w).bind λy=>(Iw y c).bind λz=>if z=_t then
_s ((.bl _f),b.2)
else
(AC a.2.2.2 (.int 0)).bind λv=>(AC a.2.2.2 (.int 0)).bind λu=>(AV a.2.2.1 (.tup [(.tup [v,u])])).bind λt=>(BS a.1 a.2.1 t a.2.2.2).bind λm=>(Iw m c).bind λq=>if q=_t then
_s ((.bl _f),b.2)
else
(Ek c (.str [112,97,114,116])).bind λp=>if p=_t then
(AV a.2.2.1 (.tup [a.2.2.2])).bind λj=>(BS a.1 a.2.1 j a.2.2.2).bind λl=>(Ek l (.str [102,111,108,108,111,119,115])).bind λo=>_s ((.bl o),b.2)
else
(JB a.2.2.1 _n (_s 1)).bind λi=>(AV a.2.2.1 i).bind λh=>(BS a.1 a.2.1 h a.2.2.2).bind λk=>(Iw k c).bind λn=>if n=_t then
_s ((.bl _f),b.2)
else
(AC a.1 (.int 1)).bind λg=>(items g).bind λd=>(Oq (He a.1 a.2.1 a.2.2.1 a.2.2.2 c) d ()).bind λe=>e.el (fun(r:Unit)=>_s ((.bl _t),b.2)) fun(f:Dv) (s:Unit)=>_s (f,b.2)
theorem Yx:Fu md pX (top 34) [0] 1 (two Ge):=Fm 2 `k λ_ _=>by kernel_rfl
def pW:List (Str×Sig):=Fv "_law_right" (top 34) pX [0] 1 _t (two Ge)
def Bp(q:Dv):Option (Dv):=
(MM [1,2,3,4] q).bind fun(a:Dv×Dv×Dv×Dv)=>(AS a.2.2.1).bind λm=>(aT m (.int 2)).bind λp=>if p=_t then
_s (.bl _t)
else
(EC (.int 1)).bind λl=>gr l λh=>(JB a.2.2.1 _n (_s h)).bind λk=>(EC (.int 1)).bind λj=>(AC a.2.2.1 j).bind λi=>(BS a.1 a.2.1 k i).bind λn=>(Iw n (.str [102,111,108,108,111,119,115])).bind λo=>if o=_t then
_s (.bl _t)
else
(BS a.1 a.2.1 a.2.2.1 a.2.2.2).bind λf=>(EC (.int 1)).bind λd=>gr d λb=>(JB a.2.2.1 _n (_s b)).bind λc=>(BS a.1 a.2.1 c a.2.2.2).bind λe=>(Ek e f).bind λg=>_s (.bl g)
theorem Kp:Fu md pW (top 35) [] 1 (one Bp):=Fm 1 `k λ_=>by kernel_rfl
def sv:List (Str×Sig):=Fv "_law_fewer_right" (top 35) pW [] 1 _t (one Bp)
def MR(q:Dv)(n:Dv)(r:Unit):Option (Lp Dv (Unit) (Unit)):=
(Ja q n).bind λo=>(Hi o (.int 8)).bind λi=>(Ge i.2 i.1).bind λm=>(Ku m.1).bind λp=>if(!p)=_t then
_s (.rt (.bl _f) ())
else
(Hi m.2 (.int 8)).bind λa=>(Bp i.1).bind λb=>bif UZ b then
(Ku b).bind λl=>if(!l)=_t then
_s (.rt (.bl _f) ())
else
(AC a.1 (.int 2)).bind λh=>(AC a.1 (.int 3)).bind λg=>(AV h (.tup [g])).bind λf=>(AC a.1 (.int 0)).bind λe=>(AC a.1 (.int 1)).bind λd=>(AC a.1 (.int 3)).bind λc=>(BS e d f c).bind λj=>(Iw j (.str [102,111,108,108,111,119,115])).bind λk=>if k=_t then
_s (.rt (.bl _f) ())
else
_s (.go ())
else _n
def bM(c:Dv):Option (Dv):=
(AS c).bind λi=>(MH (.int 5) i).bind λh=>(ED (.int 4) h).bind λg=>(UL [(.int 1),g]).bind λe=>(Oq (MR c) e ()).bind λa=>a.el (fun(d:Unit)=>_s (.bl _t)) fun(b:Dv) (f:Unit)=>_s b
theorem qX:Fu md sv (top 36) [] 1 (one bM):=Fm 1 `k λ_=>by kernel_rfl
end My
namespace R
open PySem L2
def Fd(x:Dv):Prop:=∃a b:Int,x=.lst [.int a,.int b]
def Tx(N:Nat)(x:Dv):Prop:=∃l,x=.str l/\l.length<=N/\∀c∈l,c < 128
variable{α:Type}{xs:List Dv}
section
variable{γ τ ρ:Type}
theorem IB(g:Dv->γ->Option (Dv×γ))(P:γ->Prop)(R:Dv->Prop):∀(xs:List Dv)(c:γ),P c->(∀x∈xs,∀c,P c->∃d b,g x c=_s (d,b)/\R d/\P b)->∃ds b,Ce g xs c=_s (ds,b)/\ds.length=xs.length/\(∀d∈ds,R d)/\P b
 |[],c,e,_=>⟨[],c,rfl,rfl,λ_ z=>(X2 z).elim,e⟩
 |x::xs,c,e,h=>by
  obtain⟨d,n,l,i,p1⟩:=h x B1 c e;obtain⟨ds,m,k,l2,f,j⟩:=IB g P R xs n p1 λy a=>h y (A9 _ a);refine⟨d::ds,m,by simp only[Ce,l,k,A0],by rw[D4,D4,l2],λy a=>?_,j⟩;rcases D3.mp a with rfl|a
  exact i;exact f y a
theorem KC(g:Dv->γ->Option γ)(I:Nat->γ->Prop):∀(xs:List Dv)(k:Nat)(c:γ),I k c->(∀i x,xs[i]?=_s x->∀c,I (k+i) c->∃b,g x c=_s b/\I (k+i+1) b)->∃b,BO g xs c=_s b/\I (k+xs.length) b
 |[],k,c,a,_=>⟨c,rfl,a⟩
 |x::xs,k,c,a,h=>by
  obtain⟨n,l,e⟩:=h 0 x rfl c a;obtain⟨m,j,d⟩:=KC g I xs (k+1) n e λi y f c a=>by have:=h (i+1) y f c (by rw[show k+(i+1)=k+1+i by omega];exact a);rw[show k+(i+1)+1=k+1+i+1 by omega]at this;exact this
  exact⟨m,by simp only[BO,l,j,A0],by rw[D4,show k+(xs.length+1)=k+1+xs.length by omega];exact d⟩
theorem Yb(g:Dv->γ->Option γ)(P:γ->Prop)(xs:List Dv)(c:γ)(b:P c)(h:∀x∈xs,∀c,P c->∃a,g x c=_s a/\P a):∃a,BO g xs c=_s a/\P a:=
 KC g (λ_=>P) xs 0 c b λi x e c b=>h x (K1 e) c b
theorem Dw(g:Dv->Option Dv)(R:Dv->Prop):∀(xs:List Dv),(∀x∈xs,∃d,g x=_s d/\R d)->∃ds,BD g xs=_s ds/\ds.length=xs.length/\∀d∈ds,R d
 |[],_=>⟨[],rfl,rfl,λ_ z=>by cases z⟩
 |x::xs,h=>by
  obtain⟨d,f,c⟩:=h x B1;obtain⟨ds,e,l2,b⟩:=Dw g R xs λy a=>h y (A9 _ a);refine⟨d::ds,by simp only[BD,f,e,A0],by rw[D4,D4,l2],λy a=>?_⟩;rcases D3.mp a with rfl|a
  exact c;exact b y a
theorem Ms(g:Dv->γ->Option (Lp τ γ ρ))(c:γ):∀(xs:List Dv),(∀x∈xs,g x c=_s (.go c))->Oq g xs c=_s (.go c)
 |[],_=>rfl
 |x::xs,h=>by simp only[Oq,h x B1,A0];exact Ms g c xs λy a=>h y (A9 _ a)
theorem Ap{o:Option α}(h:xs.length<=1000000):Gv xs o=o:=by unfold Gv;rw[if_pos h]
end
theorem CM(xs:List α)(i:Nat)(h:i < xs.length):HJ xs (i:Int)=_s xs[i]:=by unfold HJ Kh;rw[if_pos `o,if_pos `o];simp[h]
theorem NR{xs:List α}{i:Int}(a:0<=i)(h:i < xs.length):∃x∈xs,HJ xs i=_s x:=by obtain⟨n,rfl⟩:∃n:Nat,i=n:=⟨i.toNat,by omega⟩;exact⟨xs[n]'`o,K7 _,CM xs n `o⟩
theorem gw{i:Int}(a:0<=i)(h:i < xs.length):∃x∈xs,AC (.lst xs) (.int i)=_s x:=NR a h
theorem qy{l:List Nat}{i:Int}(b:0<=i)(h:i < l.length)(hl:l.length<=1000000):∃c∈l,AC (.str l) (.int i)=_s (.str [c]):=by obtain⟨c,a,e⟩:=NR b h;exact⟨c,a,by simp only[AC,if_pos hl,e,F0]⟩
theorem MT{n:Int}(a:-1000000000<=n)(h:n<=1000000000):DL [.int n]=_s ((B2 n.toNat).map λk=>.int (k:Nat)):=by
 have:small n=true:=by unfold small;simp[a,h]
 simp only[DL,this,cond_true,Int.zero_add]
theorem IW(n:Nat)(h:n<=1000000):DL [.int (n:Nat)]=_s ((B2 n).map λk=>.int (k:Nat)):=by have:=MT (n:=(n:Int)) `o `o;simpa using this
theorem Df(xs:List Dv)(o:Option α):DR "list" (.lst xs) o=o:=rfl
theorem pQ(l:List Nat)(o:Option α):DR "str" (.str l) o=o:=rfl
theorem mQ{R:Type}(i:Int)(k:Int->Option R):gr (.int i) k=k i:=rfl
theorem QQ(b:Bool):Ku (.bl b)=_s b:=rfl
theorem sX(b:Bool):UZ (.bl b)=true:=rfl
theorem HP{a:Type}{i j:Nat}(x y:Dv)(f:Dv×Dv->Option a):((MM [i,j] (.tup [x,y])).bind fun(t:Dv×Dv)=>f t)=f (x,y):=rfl
theorem Dc{y:Dv}(h:xs.length<=1000000):Aa (.lst xs) [y]=_s (.non,.lst (xs++[y])):=by simp only[Aa,if_pos h]
theorem Yh{ys:List Dv}(h:xs.length+ys.length<=1000000):Bt (.lst xs) [.lst ys]=_s (.non,.lst (xs++ys)):=by simp only[Bt,if_pos h]
theorem NH{xs:List α}{lo hi:Option Int}{x:α}(h:x∈Cn xs lo hi):x∈xs:=List.mem_of_mem_drop (m7 h)
theorem Td(xs:List α)(lo hi:Option Int):(Cn xs lo hi).length<=xs.length:=by unfold Cn;rw[N6,i9];omega
theorem KU(l:List Nat)(lo hi:Option Int):Ra l lo hi=Cn l lo hi:=rfl
theorem JG:∀ls:List (List Nat),BZ (ls.map Dv.str)=_t
 |[]=>rfl
 |x::xs=>by simp only[B7,BZ,Dv.cmp,JG xs,M5]
theorem JF:∀ls:List (List Nat),Bh (ls.map Dv.str)=0
 |[]=>rfl
 |x::xs=>by simp only[B7,Bh,Dv.dep,JF xs];rfl
theorem Lb(x:List Nat):∀ls:List (List Nat),Ko (.str x) (ls.map Dv.str)=ls.contains x
 |[]=>rfl
 |y::ys=>by
  have:=Lb x ys;simp only[Ko]at this;simp only[Ko,B7,O9,this,vP,eqV];by_cases e:y=x;subst e;simp;have a:¬x=y:=λz=>e z.symm;have h1:(y==x)=false:=by simpa using e
  have h2:(x==y)=false:=by simpa using a
  rw[h1,h2]
theorem Vj(neg:Bool)(x:List Nat)(ls:List (List Nat)):Ks neg (.str x) (.tup (ls.map Dv.str))=_s (if neg=_t then !ls.contains x else ls.contains x):=by simp only[Ks,rL,Dv.cmp,JG,JF,M5,H8,decide_true,if_true,Lb]
theorem HE(i j:Int):AV (.int i) (.int j)=_s (.int (i+j)):=rfl
theorem Pp(i j:Int)(h:0 < j):FO (.int i) (.int j)=_s (.int (i % j)):=by simp only[FO,Cg,h,decide_true,if_true]
theorem Co(i j:Int):Ek (.int i) (.int j)=_s (decide (i=j)):=by simp only[Pm,Dv.cmp,Dv.dep,M5,H8,decide_true,if_true,eqV,B4,if_false];congr 1
theorem NQ(i j:Int):Iw (.int i) (.int j)=_s (!decide (i=j)):=by simp only[Pm,Dv.cmp,Dv.dep,M5,H8,decide_true,if_true,eqV];congr 1
theorem Tx.cut{N:Nat}{x:Dv}(h:Tx N x)(b:N<=1000000)(lo hi:Option Int):∃y,JB x lo hi=_s y/\Tx N y:=by obtain⟨l,rfl,h1,h2⟩:=h;exact⟨.str (Ra l lo hi),by simp only[JB,if_pos (A8 h1 b)],_,rfl,by rw[KU];exact A8 (Td _ _ _) h1,λc a=>h2 c (NH (by rw[<- KU];exact a))⟩
theorem Tx.add{N M:Nat}{x y:Dv}(h:Tx N x)(h':Tx M y)(f:N+M<=1000000):∃z,AV x y=_s z/\Tx (N+M) z:=by
 obtain⟨l,rfl,h1,h2⟩:=h;obtain⟨d,rfl,e,b⟩:=h';refine⟨.str (l++d),by simp only[AV,if_pos (show l.length+d.length<=1000000 by omega)],_,rfl,by rw[B5];omega,λc a=>?_⟩;rcases C0.mp a with a|a
 exact h2 c a;exact b c a
theorem hZ{c:Nat}(h:c < 128):j8 c < 128:=by unfold j8;split<;>omega
theorem Tx.upper{N:Nat}{x:Dv}(h:Tx N x)(b:N<=1000000):∃y,ID x=_s y/\Tx N y:=by
 obtain⟨l,rfl,h1,h2⟩:=h;have e:(l.all (λc=>decide (c < 128))&&decide (l.length<=1000000))=true:=by rw[A3];exact⟨G4.mpr λc a=>decide_eq_true (h2 c a),decide_eq_true (A8 h1 b)⟩
 refine⟨.str (l.map j8),by simp only[ID,e,if_true],_,rfl,by rw[C3];exact h1,λc a=>?_⟩;obtain⟨d,hd,rfl⟩:=J8.mp a;exact hZ (h2 d hd)
theorem LA:∀ls:List (List Nat),LB (ls.map Dv.str)=_s ls
 |[]=>rfl
 |x::xs=>by simp only[B7,LB,LA xs,F0]
theorem RF:∀{xs:List Dv},(∀x∈xs,∃c,x=.str [c]/\c < 128)->xs.length<=1000->∃z,Ke (.str []) (.lst xs)=_s z/\Tx xs.length z:=by
 intro xs h hl;have:∃cs:List Nat,xs=(cs.map λc=>[c]).map Dv.str/\∀c∈cs,c < 128:=by
  clear hl;induction xs with
  |nil=>exact⟨[],rfl,λ_ z=>by cases z⟩
  |cons x xs f=>
   obtain⟨cs,e,h2⟩:=f λy i=>h y (A9 _ i);obtain⟨c,rfl,k⟩:=h x B1;refine⟨c::cs,by rw[e];rfl,λd hd=>?_⟩;rcases D3.mp hd with rfl|hd
   exact k;exact h2 d hd
 obtain⟨cs,e,h2⟩:=this;have g:xs.length=cs.length:=by rw[e];simp
 have j:∀cs:List Nat,jn [] (cs.map λc=>[c])=cs:=by
  intro cs;cases cs with
  |nil=>rfl
  |cons a b=>
   show[a]++((b.map λc=>[c]).flatMap λy=>[]++y)=a::b;have:∀b:List Nat,((b.map λc=>[c]).flatMap λy=>[]++y)=b:=by
    intro b;induction b with|nil=>rfl|cons x y f=>simp only[B7,vc,f];rfl
   rw[this];rfl
 have hs:((cs.map λc=>[c]).map W8).sum=cs.length:=by
  clear e h2 g;induction cs with|nil=>rfl|cons a b f=>rw[B7,B7,List.sum_cons,f];simp;omega
 rw[e];refine⟨.str cs,?_,cs,rfl,by simp,h2⟩;simp only[Ke,LA,j];rw[if_pos (by rw[hs];simp;omega)]
end R
namespace My
open PySem L2 R
theorem rX{G:Prop}(h:∀P:Prop,(G->P)->P):G:=h G id
variable{f:Dv}
theorem AU(hf:Fd f){n:Int}(k:0 < n)(h1:n < 1073741824):∃(r:Nat)(o:Dv),AN f (.int n)=_s (.int r,o)/\(r:Int) < n/\Fd o:=by
 obtain⟨a,b,rfl⟩:=hf;have l:∀x y:Dv,AC (.lst [x,y]) (.int 0)=_s x:=λ_ _=>rfl;have q:∀x y:Dv,AC (.lst [x,y]) (.int 1)=_s y:=λ_ _=>rfl;have p:∀x y d:Dv,Ao (.lst [x,y]) (.int 0) d=_s (.lst [d,y]):=λ_ _ _=>rfl;have s1:∀x y d:Dv,Ao (.lst [x,y]) (.int 1) d=_s (.lst [x,d]):=λ_ _ _=>rfl;have m:∀x:Int,∃r:Nat,x % n=r/\(r:Int) < n:=λx=>⟨(x % n).toNat,by have:=wx x (show n≠0 by omega);omega,by have:=wx x (show n≠0 by omega);have:=xw x k;omega⟩;have c:big 48271=true:=by decide
 have g:big 40692=true:=by decide
 have i:big 2147483647=true:=by decide
 unfold AN;simp only[l,A0,FM,aT];by_cases h:0 < a;obtain⟨r,e,j⟩:=m a;refine⟨r,.lst [.int (a / n),.int b],?_,j,a / n,b,rfl⟩;simp only[h,decide_true,if_true,FO,Pq,Cg,k,h1,M5,A0,l,p,e];simp only[h,decide_false,B4,if_false,q,s1,Cp,c,g,i,yW,if_true,A0,FO,Pq,Cg,AV,k,decide_true,show(0:Int) < 2147483647 by decide,show(0:Int) < 2147483399 by decide,show(0:Int) < 8191 by decide,show(8191:Int) < 1073741824 by decide,M5];obtain⟨r,e,j⟩:=m (((b * 48271 % 2147483647) * 2147483647+((b * 48271 % 2147483647 * 40692+30103) % 2147483399+1)) / 8191);exact⟨r,_,by rw[e],j,_,_,rfl⟩
theorem VA{ns:List Int}{k:Nat}:∃f,Ja (.scr ns) (.int k)=_s f/\Fd f:=by
 have a:big 7907=true:=by decide
 have o:big 2147483629=true:=by decide
 have n:big 31=true:=by decide
 have m:big 48271=true:=by decide
 have l:big 40692=true:=by decide
 have j:∃c:Int,JV (.scr ns) (.int k) (.int (7907 * k+13579))=_s (.int c):=by unfold JV Nz;simp only[AS,A0,FM,aT];by_cases h:(k:Int) < ns.length;simp only[h,decide_true,if_true,AC,CM ns k `o,F0,A0];exact⟨_,rfl⟩;simp only[h,decide_false,B4,if_false];by_cases h2:0 < (ns.length:Int);have e:=wx (k:Int) (show(ns.length:Int)≠0 by omega);have g:=xw (k:Int) h2;obtain⟨x,_,ex⟩:=NR e g;simp only[h2,decide_true,if_true,FO,Cg,A0,AC,ex,F0,Cp,a,n,wa,yW,AV,show(0:Int) < 2147483629 by decide];exact⟨_,rfl⟩;simp only[h2,decide_false,B4,if_false];exact⟨_,rfl⟩
 obtain⟨c,e⟩:=j;have i:∃d:Int,JU (.int c)=_s (.int d):=by unfold JU;simp only[mT,Cg,show(decide ((0:Int)<=18)&&decide ((18:Int)<=1000000)&&decide ((10:Int).natAbs < 2 ^ 64))=_t by decide,if_true,A0,FM,aT];split<;>exact⟨_,rfl⟩
 obtain⟨d,b⟩:=i;unfold Ja;simp only[Cp,a,m,l,wa,yW,if_true,A0,AV,e,b,FO,Cg,show(0:Int) < 2147483629 by decide,show(0:Int) < 2147483646 by decide,decide_true];exact⟨_,rfl,_,_,rfl⟩
variable{n:Nat}
theorem GE(hf:Fd f)(c:0 < n)(h1:n<=1000000):∃(r:Nat)(a:Dv),AN f (.int (n:Nat))=_s (.int (r:Nat),a)/\r < n/\Fd a:=by obtain⟨r,a,e,b,h⟩:=AU hf (n:=((n:Nat):Int)) `o `o;exact⟨r,a,e,by omega,h⟩
noncomputable abbrev mv:List Nat:=[97,98,99,100,101,102,103,104,105,106,107,108,109,110,111,112,113,114,115,116,117,118,119,120,121,122]
theorem mS:∀c∈mv,c < 128:=by decide
theorem kW{i:Int}(b:0<=i)(h:i < 26):∃c,AC (.str mv) (.int i)=_s (.str [c])/\c < 128:=by obtain⟨c,a,e⟩:=qy (l:=mv) b h `d;exact⟨c,e,mS c a⟩
theorem UH(hf:Fd f)(xs:List Dv)(hl:xs.length<=1000):∃z a,(∃ds,Ce FY xs f=_s (ds,a)/\Ke (.str []) (.lst ds)=_s z)/\Tx xs.length z/\Fd a:=by
 obtain⟨ds,a,e,l,h,d⟩:=IB FY Fd (λx=>∃c,x=.str [c]/\c < 128) xs f hf λx _ c i=>by obtain⟨r,j,k,o,b⟩:=AU i (n:=26) `d `d;obtain⟨m,g,h2⟩:=kW (Y1 r) o;exact⟨_,j,by unfold FY;simp only[k,g,A0],⟨m,rfl,h2⟩,b⟩
 obtain⟨z,g,hz⟩:=RF h (l▸hl);exact⟨z,a,⟨ds,e,g⟩,l▸hz,d⟩
variable{α:Type}
theorem tB(xs:List α)(r:Nat)(h:Option Int):(Cn xs (_s (r:Int)) h).length<=xs.length-r:=by unfold Cn;rw[N6,i9,HT.zCY];exact A8 (yi _ _) `o
variable{N:Nat}{l:List Nat}
theorem ud(b:l.length<=1000000)(h:∀c∈l,c < 128){lo hi:Option Int}(hl:(Cn l lo hi).length<=N):∃y,JB (.str l) lo hi=_s y/\Tx N y:=
 ⟨.str (Ra l lo hi),by simp only[JB,if_pos b],_,rfl,by rw[KU];exact hl,λc a=>h c (NH (by rw[<- KU];exact a))⟩
def Nm(p:List Nat)(c:Nat)(x:Dv):Prop:=∃t,x=.str (p++c::t)
noncomputable def ch(r i:Nat):Nat:=97+(r+7 * i) % 26
variable{r i:Nat}
theorem gZ{j:Nat}(hi:i < 26)(a:j < 26)(h:i≠j):ch r i≠ch r j:=by unfold ch;omega
theorem qb(r i:Nat):ch r i < 128:=by unfold ch;omega
theorem uu(r i:Nat):AC (.str mv) (.int (((r:Int)+7 * (i:Nat)) % 26))=_s (.str [ch r i]):=by
 have e:∀k < 26,HJ mv ((k:Nat):Int)=_s (97+k):=by decide
 have hm:(r+7 * i) % 26 < 26:=Nat.mod_lt _ `d;have z:((r:Int)+7 * (i:Nat)) % 26=(((r+7 * i) % 26:Nat):Int):=by omega
 rw[z];simp only[AC,if_pos (show mv.length<=1000000 by decide),e _ hm,F0];rfl
theorem ZO(h:r<=l.length):Ra l _n (_s (r:Int))=l.take r:=by rw[KU];unfold Cn;rw[HT.zCY,R1 h];rfl
variable{a b:List Nat}
theorem eU(h:a.length+b.length<=1000000):AV (.str a) (.str b)=_s (.str (a++b)):=by simp only[AV,if_pos h]
theorem Qu(h1:l.length<=4)(h2:∀c∈l,c < 128):∃u,HX (.str l)=_s (.str (l++u))/\Tx 5 (.str (l++u)):=by
 have e:=Vj _f l [[100,101,102],[108,101,116],[116,101,108,108],[108,111,111,112],[112,105,99,107],[99,97,108,108]];simp only[B7,N0,B4,if_false]at e;have a:=eU (a:=l) (b:=[113]) (A8 (W9 h1 1) `d);unfold HX;simp only[e,A0];split;refine⟨[113],by rw[a];rfl,_,rfl,by rw[B5];exact W9 h1 1,λc d=>?_⟩;rcases C0.mp d with d|d
 exact h2 c d;rw[C4]at d;subst d;decide;exact⟨[],by rw[G7],_,rfl,by rw[G7];exact yX h1,by rw[G7];exact h2⟩
theorem Bj{γ:Type}{P:Nat->γ->Prop}(g:Dv->γ->Option γ)(n:Nat)(c:γ)(o:P 0 c)(h:∀i < n,∀c,P i c->∃d,g (.int (i:Nat)) c=_s d/\P (i+1) d):∃d,BO g ((B2 n).map λk=>.int (k:Nat)) c=_s d/\P n d:=by
 obtain⟨d,e,p⟩:=KC g P ((B2 n).map λk=>.int (k:Nat)) 0 c o λi x j c m=>by
  rw[D0]at j;have hi:i < n:=by
   rcases N1 i n with h|h
   exact h;rw[K5 `w]at j;cases j
  rw[A2 `w]at j;simp only[F0,Q7,xy]at j;subst j;rw[E8]at m ⊢;exact h i hi c m
 exact⟨d,e,by simpa using p⟩
theorem cU{e:List Nat}(o:e.length<=3)(h:∀c∈e,c < 128){r7 d r11:Nat}(j:d<=e.length){ns:List Dv}(p:ns.length<=1000000):∃x,FZ (.str e) (.int (r7:Nat)) (.int (d:Nat)) (.int (r11:Nat)) (.int (i:Nat)) (.lst ns)=_s (.lst (ns++[x]))/\Tx 5 x/\Nm (e.take d) (ch r7 i) x:=by
 have y:big 7=true:=by decide
 have q:e.length<=1000000:=A8 o `d;have v:JB (.str e) _n (_s (d:Int))=_s (.str (e.take d)):=by simp only[JB,if_pos q,ZO j]
 have l1:(e.take d).length=d:=List.length_take_of_le j;obtain⟨B,t,k,rfl,C,w⟩:=ud q h (tB e d (_s (((r11:Int)+(i:Nat)) % 4)));have m:(e.take d++[ch r7 i]++k).length<=4:=by simp only[B5,l1,D6];omega
 have A:=eU (a:=e.take d) (b:=[ch r7 i]) (by rw[<- B5];exact A8 `s (A8 m `d));have z:=eU (a:=e.take d++[ch r7 i]) (b:=k) (by rw[<- B5];exact A8 m `d);obtain⟨u,s,h5⟩:=Qu m λc g=>by
  rcases C0.mp g with g|g
  rcases C0.mp g with g|g
  exact h c (m7 g);rw[C4]at g;subst g;exact qb _ _;exact w c g
 refine⟨_,?_,h5,k++u,by simp⟩;unfold FZ;simp only[Cp,Cg,y,wa,if_true,A0,HE,Pp _ _ (show(0:Int) < 26 by decide),Pp _ _ (show(0:Int) < 4 by decide),show decide ((0:Int) < 26)=_t from rfl,show decide ((0:Int) < 4)=_t from rfl,uu,mQ,v,t,A,z,s,Df,Dc p]
theorem OX{p:List Nat}{a b:Nat}{x y:Dv}(h:a≠b)(d:Nm p a x)(c:Nm p b y):x≠y:=λq=>by obtain⟨t,rfl⟩:=d;obtain⟨t',rfl⟩:=c;exact h (List.cons.inj (List.append_cancel_left (Dv.str.inj q))).1
theorem Qt{p:List Nat}(hf:Fd f){ns:List Dv}(h2:2<=n)(y:n<=26)(hl:ns.length=n)(m:∀x∈ns,Tx 5 x)(d:∀j x,ns[j]?=_s x->Nm p (ch r j) x):∃w g,HW (.int (n:Nat)) f (.lst ns)=_s (g,.lst w)/\w.length=n/\(∀x∈w,Tx 5 x)/\w.Pairwise (·≠·)/\Fd g:=by
  subst hl;have nd:ns.Pairwise (·≠·):=M8.mpr λi j hi u lt=>OX (gZ (r:=r) (C6 hi y) (C6 u y) (E5 lt)) (d i _ (A2 hi)) (d j _ (A2 u));have k2:ns.length-2 < ns.length:=Nat.sub_lt (C6 `d h2) `d;have ix:∀k:Nat,0 < k->k<=ns.length->Kh ns.length (-(k:Int))=_s (ns.length-k):=λk I h=>by unfold Kh;rw[if_neg `o,if_pos `o];congr 1;omega
  have ex:AC (.lst ns) (.int (-2))=_s ns[ns.length-2]:=by show(Kh ns.length (-2)).bind (λj=>ns[j]?)=_;rw[show Kh ns.length (-2)=_s (ns.length-2)from ix 2 `d h2];exact A2 k2
  obtain⟨l,el,D,C⟩:=m _ (K7 k2);have s:=d _ _ (A2 k2);rw[el]at ex s;have H:∃(b:Bool)(g:Dv),HU (.int (ns.length:Nat)) f (.lst ns)=_s (b,g)/\(b=_t->l.length<=3)/\Fd g:=by unfold HU LK;simp only[FM,aT,show(1:Int) < (ns.length:Nat) by omega,decide_true,if_true,A0,EC,ex,AS,if_pos (show l.length<=1000000 from A8 D `d)];split;rename_i B;obtain⟨r,g,e,_,h⟩:=AU hf (n:=4) `d `d;simp only[e,A0,Co];exact⟨_,_,rfl,λ_=>by have:=of_decide_eq_true B;omega,h⟩;exact⟨_,_,rfl,(λz=>by cases z),hf⟩
  obtain⟨b,g,F,E,v⟩:=H;unfold HW;simp only[F,A0];cases b;exact⟨ns,g,by simp,rfl,m,nd,v⟩;have h3:=E rfl;have ey:=eU (a:=l) (b:=[113]) (A8 (W9 h3 1) `d);have s1:Ao (.lst ns) (.int (-1)) (.str (l++[113]))=_s (.lst (ns.set (ns.length-1) (.str (l++[113])))):=by simp only[Ao,show Kh ns.length (-1)=_s (ns.length-1)from ix 1 `d (A8 `d h2),A0]
  simp only[if_true,EC,A0,ex,ey,s1];refine⟨_,g,rfl,D8,λx A=>?_,?_,v⟩;rcases List.mem_or_eq_of_mem_set A with A|rfl
  exact m x A;refine⟨_,rfl,by rw[B5];exact A8 (W9 h3 1) `d,λc o=>?_⟩;rcases C0.mp o with o|o
  exact C c o;rw[C4]at o;subst o;decide;refine M8.mpr λi j hi u lt=>?_;rw[D8]at hi u;rw[yt,yt,if_neg (show ¬ns.length-1=i by omega)];split;by_cases G:i=ns.length-2;subst G;rw[el];intro q;have:=congrArg W8 (Dv.str.inj q);simp at this;obtain⟨t,F⟩:=s;exact OX (gZ (r:=r) (C6 hi y) (C6 k2 y) G) (d i _ (A2 hi)) ⟨t++[113],by rw[Dv.str.inj F];simp⟩;exact M8.mp nd i j hi u lt
theorem Jo(hf:Fd f)(h2:2<=n)(T:n<=26):∃ns t,DV f (.int n)=_s (.lst ns,t)/\ns.length=n/\(∀x∈ns,Tx 5 x)/\ns.Pairwise (·≠·)/\Fd t:=by
  refine rX λzP U=>?_;obtain⟨q,f1,e1,b1,J⟩:=AU hf (n:=4) `d `d;have S:q<=3:=by omega
  have B:q<=1000:=A8 S `d;have er:=IW q (A8 B `d);have A:((B2 q).map λk=>Dv.int (k:Nat)).length=q:=by simp
  obtain⟨z,f2,⟨ds,e3,e4⟩,hz,I⟩:=UH J _ (A.symm▸B);rw[A]at hz;obtain⟨g,rfl,D,C⟩:=hz;have s:=A8 D S;obtain⟨r7,f7,e7,b7,H⟩:=AU I (n:=26) `d `d;have el:AS (.str g)=_s (.int g.length):=by simp only[AS,if_pos (show g.length<=1000000 from A8 s `d)]
  obtain⟨m,Z,Q,b10,v⟩:=AU H (n:=(g.length:Int)+1) `o `o;obtain⟨r11,Y,O,b11,u⟩:=AU v (n:=4) `d `d;have R:n<=1000000:=A8 T `d;have en:=IW n R;obtain⟨c,M,ns,rfl,hl,o,p⟩:=Bj (P:=λi c=>∃ns,c=Dv.lst ns/\ns.length=i/\(∀x∈ns,Tx 5 x)/\∀j x,ns[j]?=_s x->Nm (g.take m) (ch r7 j) x) (FZ (.str g) (.int r7) (.int m) (.int r11)) n (.lst []) ⟨[],rfl,rfl,(λ_ z=>(X2 z).elim),λj x h=>by simp at h⟩ λi hi c X=>by
    obtain⟨ns,rfl,rfl,o,p⟩:=X;obtain⟨x,e,W,hm⟩:=cU s C (r7:=r7) (r11:=r11) (i:=ns.length) (show m<=g.length by omega) (A8 (R8 hi) R);refine⟨_,e,_,rfl,by simp,λy d=>?_,λj y d=>?_⟩;rcases C0.mp d with d|d
    exact o y d;rw[C4]at d;subst d;exact W;rcases N1 j ns.length with w|w
    rw[E6 w]at d;exact p j y d;rw[J7 w]at d;have z:j-ns.length=0:=by have:=(A4.mp d).1;exact Nat.lt_one_iff.mp this
    rw[z]at d;cases d;rw[Nat.le_antisymm (Nat.le_of_sub_eq_zero z) w];exact hm
  obtain⟨V,t,L,G,F,E,K⟩:=Qt u h2 T hl o p;refine U ?_;refine⟨V,t,?_,G,F,E,K⟩;unfold DV;simp only[pQ,e1,er,A0];rw[Ap (by rw[A];exact A8 B `d)];simp only[A0,e3,e4,e7,el,HE,Q,O,en];rw[M];simp only[A0,L]
def ux(n:Nat)(xs:List Dv):Prop:=∀y∈xs,∃r:Nat,y=.int r/\r < n
def Ru(N:Nat)(x:Dv):Prop:=∃a r,x=.tup [a,.int r]/\Tx N a/\(r=1\/r=2)
noncomputable def sG(d:Dv):Dv:=match d with|.tup (a::_)=>a|_=>.non
abbrev DP(ds:List Dv):Prop:=ds.Pairwise λx y=>sG x≠sG y
theorem PQ{γ:Type}(g:Dv->γ->Option (Dv×γ))(P:γ->Prop)(R:Nat->Dv->Prop):∀(xs:List Dv)(o:Nat)(c:γ),P c->(∀i x,xs[i]?=_s x->∀c,P c->∃d k,g x c=_s (d,k)/\R (o+i) d/\P k)->∃ds k,Ce g xs c=_s (ds,k)/\ds.length=xs.length/\(∀i d,ds[i]?=_s d->R (o+i) d)/\P k
 |[],o,c,j,_=>⟨[],c,rfl,rfl,(λi d h=>by simp at h),j⟩
 |x::xs,o,c,j,h=>by
  obtain⟨d,v,t,p,p1⟩:=h 0 x rfl c j;obtain⟨ds,u,s,l2,m,q⟩:=PQ g P R xs (o+1) v p1 λi y e c j=>by have:=h (i+1) y e c j;rw[show o+(i+1)=o+1+i by omega]at this;exact this
  refine⟨d::ds,u,by simp only[Ce,t,s,A0],by rw[D4,D4,l2],λi y e=>?_,q⟩;cases i with|zero=>simp at e;subst e;exact p|succ i=>have:=m i y (by simpa using e);rw[show o+(i+1)=o+1+i by omega];exact this
theorem QV(hf:Fd f):∃fs ds s,Gd f=_s (.tup [.tup fs,.tup ds],s)/\fs.length<=4/\(∀x∈fs,Tx 10 x)/\ds.length<=3/\(∀x∈ds,Ru 5 x)/\DP ds/\Fd s:=by
 refine rX λzP Y=>?_;obtain⟨ns,f1,e1,hl,E,_,I⟩:=Jo hf (n:=4) `d `d;obtain⟨A,f2,e2,b2,H⟩:=AU I (n:=4) `d `d;have h3:∀x∈Cn ns _n (_s (A:Int)),Tx 5 x:=λx g=>E x (NH g);have l3:=Td ns _n (_s (A:Int));obtain⟨ps,e4,l4,h4⟩:=Dw Ha (Tx 10) (Cn ns _n (_s (A:Int))) λx g=>by obtain⟨y1,S,p⟩:=(h3 x g).cut `d _n (_s 1);obtain⟨l1,rfl,_,_⟩:=id p;obtain⟨y2,R,D⟩:=p.upper `d;obtain⟨y3,Q,C⟩:=(h3 x g).cut `d (_s 1) _n;obtain⟨y4,P,B⟩:=D.add C `d;exact⟨y4,by unfold Ha;simp only[S,pQ,R,Q,P,A0],B⟩
 obtain⟨o,O,V,Z,G,F,z⟩:=Jo H (n:=3) `d `d;obtain⟨r11,M,U,X,w⟩:=AU z (n:=8) `d `d;have m:∀x∈[(Dv.int 1),(Dv.int 2),(Dv.int 3),(Dv.int 2),(Dv.int 3),(Dv.int 1),(Dv.int 2),(Dv.int 0)],∃k:Nat,x=.int k/\k<=3:=by
  intro x g;simp only[D3,X2,or_false]at g;rcases g with rfl|rfl|rfl|rfl|rfl|rfl|rfl|rfl
  all_goals first|exact⟨0,rfl,by decide⟩|exact⟨1,rfl,by decide⟩|exact⟨2,rfl,by decide⟩|exact⟨3,rfl,by decide⟩
 obtain⟨x,g,ex⟩:=gw (xs:=[(Dv.int 1),(Dv.int 2),(Dv.int 3),(Dv.int 2),(Dv.int 3),(Dv.int 1),(Dv.int 2),(Dv.int 0)]) (i:=r11) `o X;obtain⟨k,rfl,hk⟩:=m x g;have er:DL [.int k]=_s ((B2 (k:Int).toNat).map λj=>.int (j:Nat)):=MT `o `o;obtain⟨qs,L,T,l6,h6,v⟩:=PQ (HZ (.lst o)) Fd (λj d=>∃a r,o[j]?=_s a/\d=.tup [a,.int r]/\Tx 5 a/\(r=1\/r=2)) ((B2 (k:Int).toNat).map λj=>.int (j:Nat)) 0 M w λi x g c hc=>by
  rw[D0]at g;have hi:i < k:=by
   rcases N1 i k with h|h
   exact h;rw[K5 `w]at g;cases g
  rw[A2 `w]at g;simp only[F0,Q7,xy]at g;subst g;have t:AC (.lst o) (.int (i:Nat))=_s o[i]:=CM o i `o;obtain⟨r,s,e,b,J⟩:=AU hc (n:=2) `d `d;exact⟨.tup [o[i],.int (1+r)],s,by unfold HZ;simp only[t,e,A0,HE],⟨o[i],1+r,by rw[E8];exact A2 `o,rfl,G _ (K7 _),by omega⟩,J⟩
 have K:∀x∈qs,Ru 5 x:=λx g=>by obtain⟨i,hi⟩:=m6 g;obtain⟨a,r,_,rfl,h⟩:=h6 i x hi;exact⟨a,r,rfl,h⟩
 have h7:qs.Pairwise (λx y=>sG x≠sG y):=M8.mpr λi j hi hj lt=>by obtain⟨a,r,t,e,_⟩:=h6 i _ (A2 hi);obtain⟨b,q,eb,e',_⟩:=h6 j _ (A2 hj);rw[e,e'];show a≠b;rw[E8]at t eb;obtain⟨h1,rfl⟩:=A4.mp t;obtain⟨h2,rfl⟩:=A4.mp eb;exact M8.mp F i j h1 h2 lt
 refine Y ?_;refine⟨ps,qs,L,?_,by omega,h4,by rw[l6];simp;omega,K,h7,v⟩;have W:DV f (.int 4)=_s (.lst ns,f1):=e1;have u:DV f2 (.int 3)=_s (.lst o,O):=V;unfold Gd;simp only[W,e2,A0,mQ,JB,items];rw[Ap `o,e4];simp only[A0,u,U];rw[ex];simp only[A0,er];rw[Ap `w,T];rfl
noncomputable def nI(ts:List Nat):List Dv:=ts.map λt=>Dv.int (t:Nat)
def tI(ts:List Nat):Dv:=.tup (nI ts)
theorem BK(ts:List Nat):(nI ts).length=ts.length:=by simp[nI]
theorem GN(a b:List Nat):nI (a++b)=nI a++nI b:=by simp[nI]
theorem iK(ts:List Nat):AS (tI ts)=_s (.int (ts.length:Nat)):=by show _s (Dv.int ((nI ts).length:Nat))=_;rw[BK]
theorem WE{n:Nat}:∀{xs:List Dv},ux n xs->∃ts,xs=nI ts/\∀t∈ts,t < n
 |[],_=>⟨[],rfl,λ_ h=>by cases h⟩
 |x::xs,h=>by
  obtain⟨ts,e,d⟩:=WE (xs:=xs) λy c=>h y (A9 _ c);obtain⟨r,rfl,g⟩:=h x B1;refine⟨r::ts,by rw[e];rfl,λt h=>?_⟩;rcases D3.mp h with rfl|h
  exact g;exact d t h
variable{ts:List Nat}
theorem WH{h:Nat}(c:h < ts.length):AC (tI ts) (.int (h:Nat))=_s (.int (ts.getD h 0:Nat)):=by show HJ (nI ts) (h:Int)=_;rw[CM _ _ (by rw[BK];exact c)];simp[nI,u5,c]
theorem getD_mem{h:Nat}(c:h < ts.length):ts.getD h 0∈ts:=by simp[u5,c]
inductive Nd where
 |inp (k:Nat)|fix (c:Dv)|act (d:Dv) (ps:List Nat)
noncomputable def CZ:Dv:=.str [105,110,112,117,116]
noncomputable def Ca:Dv:=.str [102,105,120,101,100]
noncomputable def JM:Dv:=.str [100,111]
def Nd.dv:Nd->Dv
 |.inp k=>.tup [CZ,.int (k:Nat)]
 |.fix c=>.tup [Ca,c]
 |.act d ps=>.tup [JM,d,tI ps]
noncomputable def Nd.parts:Nd->List Nat
 |.act _ ps=>ps
 |_=>[]
def HF(I:Nat)(fs ds:List Dv)(i:Nat):Nd->Prop
 |.inp k=>k < I
 |.fix c=>c∈fs/\∃l,c=.str l
 |.act d ps=>(∃r:Int,Dv.tup [d,.int r]∈ds/\(ps.length:Int)=r/\(r=1\/r=2)/\∃l,d=.str l)/\∀p∈ps,p < i
def FS(I:Nat)(fs ds:List Dv)(L:List Nd):Prop:=∀i x,L[i]?=_s x->HF I fs ds i x
theorem HF.part{I:Nat}{fs ds:List Dv}{x:Nd}(h:HF I fs ds i x):∀p∈x.parts,p < i:=λp e=>by
 cases x with|inp k=>cases e|fix c=>cases e|act d ps=>exact h.2 p e
noncomputable def nD(L:List Nd):List Dv:=L.map Nd.dv
theorem Hn(L:List Nd):(nD L).length=L.length:=by simp[nD]
variable{L:List Nd}
theorem gB(h:i < L.length):AC (.lst (nD L)) (.int (i:Nat))=_s L[i].dv:=by show HJ (nD L) (i:Int)=_;rw[CM _ _ (by rw[Hn];exact h)];simp[nD]
def Nd.kd:Nd->Dv
 |.inp _=>CZ
 |.fix _=>Ca
 |.act _ _=>JM
theorem ur(x:Nd):AC x.dv (.int 0)=_s x.kd:=by cases x<;>rfl
noncomputable def HI(p:Nat->Bool)(N:Nat):Nat:=((B2 N).filter p).length
theorem KZ{p q:Nat->Bool}(h:∀v,q v=_t->p v=_t):∀N,HI q N<=HI p N
 |0=>B3 _
 |N+1=>by
  have c:=KZ h N;unfold HI at *;rw[T5,V3,V3,B5,B5];have:([N].filter q).length<=([N].filter p).length:=by
   cases e:q N with|true=>simp[ve,e,h N e]|false=>simp[ve,e]
  omega
theorem NL{p q:Nat->Bool}{v:Nat}(h:∀v,q v=_t->p v=_t)(h1:p v=_t)(h2:q v=_f):∀{N},v < N->HI q N < HI p N
  |0,hv=>by omega
  |N+1,hv=>by
    have le:=KZ h N;unfold HI at *;rw[T5,V3,V3,B5,B5];by_cases e:v=N;subst e;simp[ve,h1,h2];omega;have c:=NL h h1 h2 (N:=N) `o;unfold HI at c;have:([N].filter q).length<=([N].filter p).length:=by
      cases e:q N with|true=>simp[ve,e,h N e]|false=>simp[ve,e]
    omega
theorem Jm:∀{N:Nat}{l:List Nat},l.Nodup->(∀x∈l,x < N)->l.length<=N
 |0,[],_,_=>B3 _
 |0,x::_,_,h=>by have:=h x B1;omega
 |N+1,l,nd,h=>by
  have c:=nd.erase N;have:=Jm (N:=N) c λx d=>by
   have h1:=h x (List.mem_of_mem_erase d);have:x≠N:=λe=>by rw[e]at d;exact(List.Nodup.mem_erase_iff nd).mp d |>.1 rfl
   omega
  have e:l.length-1<=(l.erase N).length:=by rw[List.length_erase];split<;>omega
  omega
def kI(ks:List Nat):List AO:=ks.map λk=>Sum.inl ((k:Nat):Int)
def BB(ks:List Nat):Dv:=.dct (kI ks) (nI (B2 ks.length))
theorem YK(ks:List Nat)(k:Nat):(kI ks).any (λj=>decide (j=Sum.inl ((k:Nat):Int)))=decide (k∈ks):=by
 induction ks with|nil=>rfl|cons x xs c=>unfold kI at c;simp only[kI,B7,O9,c,D3];by_cases e:x=k;subst e;simp;have g:¬(Sum.inl ((x:Nat):Int):AO)=Sum.inl ((k:Nat):Int):=λz=>e (by have:=vT z;omega);have d:¬k=x:=λz=>e z.symm;simp[g,d]
theorem KR(k:Nat):∀(ks:List Nat)(xs:List Dv),ks.length=xs.length->(AX (.inl ((k:Nat):Int)) (kI ks) xs).isSome=decide (k∈ks)
 |[],_,_=>rfl
 |x::ks,[],h=>by cases h
 |x::ks,d::xs,h=>by have c:=KR k ks xs (by simpa using h);unfold kI at c;simp only[kI,B7,AX,D3];by_cases e:x=k;subst e;simp;have j:¬(Sum.inl ((x:Nat):Int):AO)=Sum.inl ((k:Nat):Int):=λz=>e (by have:=vT z;omega);have g:¬k=x:=λz=>e z.symm;rw[if_neg j,c];simp[g]
theorem KS(k:Nat):∀(ks:List Nat)(o:Nat),k∈ks->AX (.inl ((k:Nat):Int)) (kI ks) (nI ((B2 ks.length).map (o+·)))=_s (.int ((o+ks.idxOf k:Nat)))
 |[],_,h=>by cases h
 |x::ks,o,h=>by
  rw[D4,Z5];simp only[kI,nI,B7,V1,AX];by_cases e:x=k;subst e;simp;have d:¬(Sum.inl ((x:Nat):Int):AO)=Sum.inl ((k:Nat):Int):=λz=>e (by have:=vT z;omega);rw[if_neg d,show zAM k (x::ks)=zAM k ks+1 by have q:(x==k)=false:=beq_eq_false_iff_ne.mpr e;rw[zF,q];rfl];have c:=KS k ks (o+1) ((D3.mp h).resolve_left λz=>e z.symm);unfold kI nI at c;rw[V1]at c;have:((λt=>Dv.int ((t:Nat):Int))∘(λx=>o+x)∘Nat.succ)=((λt=>Dv.int ((t:Nat):Int))∘(λx=>o+1+x)):=by funext y;simp only[Function.comp];congr 2;omega
  rw[this,c];congr 3;omega
theorem fT(ks:List Nat)(k:Nat):rY (.int (k:Nat)) (BB ks)=_s (decide (k∈ks)):=by have:=KR k ks (nI (B2 ks.length)) (by rw[BK];simp);show _s (AX (.inl ((k:Nat):Int)) (kI ks) (nI (B2 ks.length))).isSome=_;rw[this]
variable{ks:List Nat}
theorem iP{k:Nat}(h:k∈ks):AC (BB ks) (.int (k:Nat))=_s (.int (ks.idxOf k:Nat)):=by have:=KS k ks 0 h;simp only[E8]at this;have e:(B2 ks.length).map (λx=>x)=B2 ks.length:=yY _;rw[e]at this;simp only[BB,AC,Av,A0,this]
theorem Wb{k:Nat}(h:k∉ks)(hl:ks.length<=1000000):Ao (BB ks) (.int (k:Nat)) (.int (ks.length:Nat))=_s (BB (ks++[k])):=by
 have a:(kI ks).any (λj=>decide (j=Sum.inl ((k:Nat):Int)))=false:=by rw[YK];simp[h]
 have l:(kI ks).length<=1000000:=by simpa[kI]using hl
 simp only[BB,Ao,Av,A0,if_pos l,Ie,Ic,a,B4,if_false,Z6];have d:kI ks++[Sum.inl ((k:Nat):Int)]=kI (ks++[k]):=by simp[kI]
 have c:nI (B2 ks.length)++[Dv.int (ks.length:Nat)]=nI (B2 (ks++[k]).length):=by rw[B5,D6,T5,GN];rfl
 rw[d,c]
noncomputable def ZG(e:Nat×Bool):Dv:=.tup [.int (e.1:Nat),.bl e.2]
def stk(s:List (Nat×Bool)):Dv:=.lst (s.reverse.map ZG)
noncomputable def ba(L:List Nd)(q:Nat):List Nat:=match L[q]? with|some x=>x.parts|none=>[]
theorem Dm{γ:Type}(t:γ->Option Bool)(g:γ->Option γ)(P:Nat->γ->Prop)(E:γ->Prop)(h:∀m c,P m c->(t c=_s _f/\E c)\/(t c=_s _t/\∃d m',g c=_s d/\m' < m/\P m' d)):∀(n m:Nat)(c:γ),m < n->P m c->∃d,Tz t g n c=_s d/\E d
 |0,m,c,hm,_=>by omega
 |n+1,m,c,hm,p=>by
  rcases h m c p with⟨e,q⟩|⟨e,d,m',o,lt,j⟩
  exact⟨c,by simp only[Tz,e,A0,B4,if_false],q⟩;obtain⟨s,k,q⟩:=Dm t g P E h n m' d `o j;exact⟨s,by simp only[Tz,e,A0,if_true,o,k],q⟩
theorem aq(s:List (Nat×Bool)):AS (stk s)=_s (.int (s.length:Nat)):=by show _s (Dv.int ((s.reverse.map ZG).length:Nat))=_;simp
theorem SJ(e:Nat×Bool)(s:List (Nat×Bool)):Vn (stk (e::s)) []=_s (ZG e,stk s):=by unfold stk;rw[Z2,M4];simp only[Vn,B7,N0,List.getLast?_concat,List.dropLast_concat]
theorem Gs(F:List Nd):AS (.lst (nD F))=_s (.int (F.length:Nat)):=by show _s (Dv.int ((nD F).length:Nat))=_;rw[Hn]
variable{d:Dv}{ps:List Nat}
section
variable{L F:List Nd}{ks:List Nat}{v:Nat}{b:Bool}{s:List (Nat×Bool)}
theorem cI(h:v∈ks):Af (.lst (nD L)) (.lst (nD F),BB ks,stk ((v,b)::s))=_s (.lst (nD F),BB ks,stk s):=by unfold Af;show DR "list" (stk ((v,b)::s)) _=_;unfold stk;rw[Df];have p:=SJ (v,b) s;unfold stk at p;rw[p];simp only[A0,ZG];rw[HP];simp only[fT,decide_eq_true h,A0,if_true]
theorem Xe(h:v∉ks){x:Nd}(c:L[v]?=_s x):Af (.lst (nD L)) (.lst (nD F),BB ks,stk ((v,b)::s))=(CO (.lst (nD F)) (BB ks) (stk s) (.int (v:Nat)) (.bl b) x.dv).bind λt=>_s (t.1,t.2.1,t.2.2):=by unfold Af;show DR "list" (stk ((v,b)::s)) _=_;unfold stk;rw[Df];have p:=SJ (v,b) s;unfold stk at p;rw[p];simp only[A0,ZG];rw[HP];obtain⟨hv,rfl⟩:=A4.mp c;simp only[fT,decide_eq_false h,A0,B4,if_false,gB hv]
theorem qP(hl:F.length<=1000)(x:Dv):Aa (.lst (nD F)) [x]=_s (.non,.lst (nD F++[x])):=Dc (by rw[Hn];omega)
theorem Si(h:v∉ks){x:Nd}(hd:Iw x.kd JM=_s _t)(c:L[v]?=_s x)(hl:F.length=ks.length)(g:ks.length<=1000):Af (.lst (nD L)) (.lst (nD F),BB ks,stk ((v,b)::s))=_s (.lst (nD (F++[x])),BB (ks++[v]),stk s):=by rw[Xe h c];have e:Iw x.kd (.str [100,111])=_s true:=hd;unfold CO;rw[ur];simp only[A0,e,if_true,Gs,hl,Wb h `o,Df,qP (F:=F) `o];simp[nD]
theorem oo(h:v∉ks)(o:L[v]?=_s (.act d ps))(u:∀p∈ps,p∈ks)(hl:F.length=ks.length)(y:ks.length<=1000)(t:ps.length<=1000):Af (.lst (nD L)) (.lst (nD F),BB ks,stk ((v,_t)::s))=_s (.lst (nD (F++[.act d (ps.map λp=>ks.idxOf p)])),BB (ks++[v]),stk s):=by
 rw[Xe h o];have j:AC (Nd.act d ps).dv (.int 0)=_s JM:=rfl;have x:AC (Nd.act d ps).dv (.int 1)=_s d:=rfl;have w:AC (Nd.act d ps).dv (.int 2)=_s (tI ps):=rfl;have ne:Iw JM (.str [100,111])=_s false:=rfl;have it:items (tI ps)=_s (nI ps):=rfl;have m:BD (DT (BB (ks++[v]))) (nI ps)=_s (nI (ps.map λp=>ks.idxOf p)):=by
  have:∀(qs:List Nat),(∀p∈qs,p∈ks)->BD (DT (BB (ks++[v]))) (nI qs)=_s (nI (qs.map λp=>ks.idxOf p)):=λqs g=>by
   induction qs with
   |nil=>rfl
   |cons p qs e=>
    have c:=g p B1;have k:(ks++[v]).idxOf p=ks.idxOf p:=by rw[vf,if_pos c]
    have e:=e λq z=>g q (A9 _ z);simp only[nI]at e;simp only[nI,B7,BD,DT,iP (C7 [v] c),k,A0,e]
  exact this ps u
 unfold CO;rw[j];simp only[A0,ne,B4,if_false];unfold En;simp only[QQ,A0,if_true,Gs,hl,Wb h `o,Df,j,x,w,it];rw[Ap (by rw[BK];omega),m];simp only[A0,AY,qP (F:=F) `o];simp[nD,Nd.dv,tI]
theorem om(h:v∉ks)(g:L[v]?=_s (.act d ps))(hl:s.length<=1000)(j:ps.length<=1000):Af (.lst (nD L)) (.lst (nD F),BB ks,stk ((v,_f)::s))=_s (.lst (nD F),BB ks,stk (ps.map (λp=>(p,_f))++(v,_t)::s)):=by
 rw[Xe h g];have o:AC (Nd.act d ps).dv (.int 0)=_s JM:=rfl;have k:AC (Nd.act d ps).dv (.int 2)=_s (tI ps):=rfl;have ne:Iw JM (.str [100,111])=_s false:=rfl;have e:EC (.int 1)=_s (.int (-1)):=rfl;have rv:Kc (tI ps) (.int (-1))=_s (.tup (nI ps).reverse):=rfl;have it:items (.tup (nI ps).reverse)=_s (nI ps).reverse:=rfl;have m:BD DS (nI ps).reverse=_s ((ps.reverse.map λp=>(p,_f)).map ZG):=by
  have:∀(qs:List Nat),BD DS (nI qs)=_s ((qs.map λp=>(p,_f)).map ZG):=λqs=>by
   induction qs with|nil=>rfl|cons p qs c=>simp only[nI]at c;simp only[nI,B7,BD,DS,A0,c];rfl
  rw[show(nI ps).reverse=nI ps.reverse by simp[nI]];exact this ps.reverse
 unfold CO;rw[o];simp only[A0,ne,B4,if_false];unfold En;simp only[QQ,A0,B4,if_false,stk,Df,Dc (show(s.reverse.map ZG).length<=1000000 by simp;omega),k,e,rv,it];rw[Ap (by simp[BK];omega),m];simp only[A0,Yh (show(s.reverse.map ZG++[Dv.tup [.int (v:Nat),.bl _t]]).length+((ps.reverse.map λp=>(p,_f)).map ZG).length<=1000000 by simp;omega)];simp[ZG]
end
def aK(L:List Nd)(top:Nat):List (Nat×Bool)->Prop
 |[]=>True
 |e::r=>((r=[]/\e.1=top)\/∃q,(q,_t)∈r/\e.1∈ba L q)/\(∀f∈r,f.2=_t->e.1 < f.1)/\aK L top r
def AB(L:List Nd)(ks:List Nat):List Nat->List (Nat×Bool)->Prop
 |_,[]=>True
 |a,e::r=>(e.2=_t->∀x∈ba L e.1,x∈ks\/x∈a)/\AB L ks (e.1::a) r
theorem AB.mono{L:List Nd}{ks c:List Nat}(k:∀x∈ks,x∈c):∀{s:List (Nat×Bool)}{a j:List Nat},(∀x∈a,x∈c\/x∈j)->AB L ks a s->AB L c j s
  |[],_,_,_,_=>trivial
  |e::r,a,j,ha,h=>⟨λz x g=>(h.1 z x g).elim (λq=>.inl (k x q)) λq=>ha x q,h.2.mono k λx g=>by
      rcases D3.mp g with rfl|g
      exact .inr B1;exact(ha x g).elim .inl λq=>.inr (A9 _ q)⟩
theorem aF{L:List Nd}{ks:List Nat}{t:List (Nat×Bool)}:∀{ps a:List Nat},AB L ks (ps.reverse++a) t->AB L ks a (ps.map (λp=>(p,_f))++t)
 |[],a,h=>h
 |p::ps,a,h=>⟨(λz=>by cases z),aF (ps:=ps) (a:=p::a) (by simpa using h)⟩
section
variable{I:Nat}{fs ds:List Dv}{L:List Nd}{top:Nat}
theorem Qg(e:FS I fs ds L){q x:Nat}(h:x∈ba L q):x < q:=by unfold ba at h;split at h;rename_i y c;exact(e q y c).part x h;cases h
theorem Ir(j:FS I fs ds L):∀{s:List (Nat×Bool)},aK L top s->∀e∈s,e.1<=top
 |[],_,e,h=>by cases h
 |f::r,g,e,h=>by
  have c:=Ir j g.2.2;rcases D3.mp h with rfl|h
  rcases g.1 with⟨_,z⟩|⟨q,k,z⟩
  omega;have:=c _ k;have:=Qg j z;simp at *;omega;exact c e h
theorem Lj(e:FS I fs ds L){v:Nat}{r:List (Nat×Bool)}(g:aK L top ((v,_t)::r)):∀{xs:List Nat},(∀x∈xs,x∈ba L v)->aK L top (xs.map (λp=>(p,_f))++(v,_t)::r)
 |[],_=>g
 |x::xs,h=>by
  refine⟨.inr ⟨v,B9 _ B1,h x B1⟩,λf hf c=>?_,Lj e g λy k=>h y (A9 _ k)⟩;have j:=Qg e (h x B1);rcases C0.mp hf with hf|hf
  obtain⟨y,_,rfl⟩:=J8.mp hf;cases c;rcases D3.mp hf with rfl|hf
  exact j;have:=g.2.1 f hf c;show x < f.1;simp at this;omega
structure OI (I:Nat) (fs ds:List Dv) (L:List Nd) (top:Nat) (F:List Nd) (ks:List Nat) (s:List (Nat×Bool)):Prop where
 lf:F.length=ks.length
 nd:ks.Nodup
 lt:∀k∈ks,k < L.length
 ok:FS I fs ds F
 g:aK L top s
 pend:∀q,(q,_t)∈s->q∉ks
 ab:AB L ks [] s
 fin:(top∉ks/\s≠[])\/(s=[]/\∃k0,ks=k0++[top]/\top∉k0)
variable{F:List Nd}{ks:List Nat}{v:Nat}{b:Bool}{s:List (Nat×Bool)}
theorem OI.zAw(h:OI I fs ds L top F ks ((v,b)::s)):top∉ks:=h.fin.elim (λz=>z.1) λz=>by cases z.1
theorem OI.one(h:OI I fs ds L top F ks ((v,b)::s))(hs:s=[]):v=top:=by
 rcases h.g.1 with⟨_,z⟩|⟨q,c,_⟩
 exact z;rw[hs]at c;cases c
theorem OI.skip(h:OI I fs ds L top F ks ((v,b)::s))(hv:v∈ks):OI I fs ds L top F ks s:=by refine⟨h.lf,h.nd,h.lt,h.ok,h.g.2.2,λq e=>h.pend q (A9 _ e),h.ab.2.mono (λ_ z=>z) λx c=>?_,.inl ⟨h.zAw,λz=>h.zAw (h.one z▸hv)⟩⟩;rw[C4]at c;rw[c];exact .inl hv
theorem OI.emit(o:FS I fs ds L)(u:top < L.length)(h:OI I fs ds L top F ks ((v,b)::s))(hv:v∉ks){y:Nd}(p:HF I fs ds F.length y):OI I fs ds L top (F++[y]) (ks++[v]) s:=by
 have t:v<=top:=Ir o h.g (v,b) B1;refine⟨by simp[h.lf],?_,λk j=>?_,λi x c=>?_,h.g.2.2,λq m hm=>?_,h.ab.2.mono (λx z=>C7 _ z) λx c=>?_,?_⟩;exact vb.mpr ⟨h.nd,by simp,λa ha A hb=>by rw[C4]at hb;subst hb;exact λe=>hv (e▸ha)⟩;rcases C0.mp j with j|j
 exact h.lt k j;rw[C4]at j;subst j;omega;rcases N1 i F.length with w|w
 rw[E6 w]at c;exact h.ok i x c;have:i=F.length:=by have:=(A4.mp c).1;simp at this;omega
 subst this;rw[J7 (B3 _),r9]at c;cases c;exact p;rcases C0.mp hm with hm|hm
 exact h.pend q (A9 _ m) hm;rw[C4]at hm;subst hm;have:=h.g.2.1 (q,_t) m rfl;simp at this;rw[C4]at c;rw[c];exact .inl (B9 _ B1);by_cases e:v=top;refine .inr ⟨?_,ks,by rw[e],h.zAw⟩;rcases h.g.1 with⟨z,_⟩|⟨q,m,z⟩
 exact z;have h1:=Qg o z;have h2:=Ir o h.g (q,_t) (A9 _ m);simp at h1 h2;omega;refine .inl ⟨λz=>?_,λz=>e (h.one z)⟩;rcases C0.mp z with z|z
 exact h.zAw z;rw[C4]at z;exact e z.symm
theorem OI.expand(m:FS I fs ds L)(h:OI I fs ds L top F ks ((v,_f)::s))(hv:v∉ks)(c:L[v]?=_s (.act d ps)):OI I fs ds L top F ks (ps.map (λp=>(p,_f))++(v,_t)::s):=by
 have k:ba L v=ps:=by unfold ba;rw[c];rfl
 refine⟨h.lf,h.nd,h.lt,h.ok,Lj m (v:=v) (r:=s) ⟨h.g.1,h.g.2.1,h.g.2.2⟩ λx c=>by rw[k];exact c,λq j=>?_,aF ⟨λ_ x c=>.inr (by rw[k]at c;simpa using c),h.ab.2.mono (λ_ z=>z) λx c=>?_⟩,.inl ⟨h.zAw,by simp⟩⟩;rcases C0.mp j with j|j
 obtain⟨y,_,e⟩:=J8.mp j;cases e;rcases D3.mp j with e|j
 cases e;exact hv;exact h.pend q (A9 _ j);rw[C4]at c;rw[c];exact .inr B1
def mu(N:Nat)(ks:List Nat)(s:List (Nat×Bool)):Nat:=3 * HI (λu=>decide (u∉ks)&&decide ((u,_t)∉s)) N+s.length
theorem Sl(hv:v∈ks)(g:∀q,(q,_t)∈(v,b)::s->q∉ks)(N:Nat):mu N ks s < mu N ks ((v,b)::s):=by
 have:HI (λu=>decide (u∉ks)&&decide ((u,_t)∉s)) N<=HI (λu=>decide (u∉ks)&&decide ((u,_t)∉(v,b)::s)) N:=KZ (λu c=>by
  simp only[A3,decide_eq_true_eq]at c ⊢;refine⟨c.1,λz=>?_⟩;rcases D3.mp z with e|z
  cases e;exact c.1 hv;exact c.2 z) N
 unfold mu;rw[D4];omega
theorem Fj(N:Nat):mu N (ks++[v]) s < mu N ks ((v,b)::s):=by
 have:HI (λu=>decide (u∉ks++[v])&&decide ((u,_t)∉s)) N<=HI (λu=>decide (u∉ks)&&decide ((u,_t)∉(v,b)::s)) N:=KZ (λu c=>by
  simp only[A3,decide_eq_true_eq,C0,C4,not_or]at c ⊢;refine⟨c.1.1,λz=>?_⟩;rcases D3.mp z with e|z
  cases e;exact c.1.2 rfl;exact c.2 z) N
 unfold mu;rw[D4];omega
theorem gC(hv:v∉ks)(g:v < N)(hs:(v,_t)∉s)(h:ps.length<=2):mu N ks (ps.map (λp=>(p,_f))++(v,_t)::s) < mu N ks ((v,_f)::s):=by
  have:HI (λu=>decide (u∉ks)&&decide ((u,_t)∉ps.map (λp=>(p,_f))++(v,_t)::s)) N < HI (λu=>decide (u∉ks)&&decide ((u,_t)∉(v,_f)::s)) N:=NL (v:=v) (λu c=>by
      simp only[A3,decide_eq_true_eq,C0,D3,not_or]at c ⊢;exact⟨c.1,(λe=>by cases e),c.2.2.2⟩) (by
      simp only[A3,decide_eq_true_eq,D3,not_or];exact⟨hv,(λe=>by cases e),hs⟩) `s g
  unfold mu;rw[B5,D4,D4,C3];omega
theorem Tf(p:Nat->Bool)(N:Nat):HI p N<=N:=by have:=xE p (B2 N);unfold HI;simpa using this
theorem Mf(y:FS I fs ds L)(E:top < L.length)(S:L.length<=100):∃F,BY (.lst (nD L)) (.int (top:Nat))=_s (.tup [.tup (nD F),.int ((F.length-1:Nat))])/\FS I fs ds F/\0 < F.length/\F.length<=L.length:=by
  obtain⟨c,e,F,ks,rfl,o⟩:=Dm CN (Af (.lst (nD L))) (λm c=>∃F ks s,c=(.lst (nD F),BB ks,stk s)/\OI I fs ds L top F ks s/\mu L.length ks s=m/\m<=1000) (λc=>∃F ks,c=(.lst (nD F),BB ks,stk [])/\OI I fs ds L top F ks []) (λm c ⟨F,ks,s,e,o,hm,hs⟩=>by
    subst e;have t:CN (.lst (nD F),BB ks,stk s)=_s (decide (0 < s.length)):=by unfold CN;simp only[aq,A0,FM,aT];congr 1;exact decide_eq_decide.mpr `o
    cases s with
    |nil=>exact .inl ⟨by rw[t];rfl,F,ks,rfl,o⟩
    |cons e s=>
      obtain⟨v,b⟩:=e;refine .inr ⟨by rw[t];simp,?_⟩;have Q:v<=top:=Ir y o.g (v,b) B1;have C:v < L.length:=by omega
      have w:=A2 C;have kl:ks.length<=L.length:=Jm o.nd o.lt;have K:=o.lf;have G:s.length<=1000:=by unfold mu at hm;rw[D4]at hm;omega
      have A:∀{m'},m' < m->m'<=1000:=λh=>by omega
      by_cases hv:v∈ks;exact⟨_,_,cI hv,(by rw[<- hm];exact Sl hv o.pend L.length),F,ks,s,rfl,o.skip hv,rfl,A (by rw[<- hm];exact Sl hv o.pend L.length)⟩;have j:=y v _ w;cases q:L[v]with
      |inp k=>rw[q]at w j;exact⟨_,_,Si hv rfl w o.lf `o,by rw[<- hm];exact Fj L.length,_,_,s,rfl,o.emit y E hv j,rfl,A (by rw[<- hm];exact Fj L.length)⟩
      |fix c=>rw[q]at w j;exact⟨_,_,Si hv rfl w o.lf `o,by rw[<- hm];exact Fj L.length,_,_,s,rfl,o.emit y E hv j,rfl,A (by rw[<- hm];exact Fj L.length)⟩
      |act d ps=>
        rw[q]at w j;have J:ba L v=ps:=by unfold ba;rw[w];rfl
        have pl:ps.length<=2:=by obtain⟨⟨r,_,h1,h2,_⟩,_⟩:=j;omega
        cases b with
        |true=>have B:∀p∈ps,p∈ks:=λp B=>(o.ab.1 rfl p (by rw[J];exact B)).resolve_right `s;refine⟨_,_,oo hv w B o.lf `o `o,by rw[<- hm];exact Fj L.length,_,_,s,rfl,o.emit y E hv ?_,rfl,A (by rw[<- hm];exact Fj L.length)⟩;obtain⟨⟨r,h1,h2,h3⟩,_⟩:=j;refine⟨⟨r,h1,by simpa using h2,h3⟩,λp H=>?_⟩;obtain⟨x,D,rfl⟩:=J8.mp H;rw[o.lf];exact U1.mpr (B x D)
        |false=>
          have ns:(v,_t)∉s:=λz=>by have:=o.g.2.1 (v,_t) z rfl;simp at this
          exact⟨_,_,om hv w G `o,(by rw[<- hm];exact gC hv C ns pl),_,_,_,rfl,o.expand y hv w,rfl,A (by rw[<- hm];exact gC hv C ns pl)⟩) 1000000 (mu L.length [] [(top,_f)]) _ (by unfold mu;have:=Tf (λu=>decide (u∉([]:List Nat))&&decide ((u,_t)∉[(top,_f)])) L.length;simp only[D6];omega) ⟨[],[],[(top,_f)],rfl,⟨rfl,by simp,`z,(λi x h=>by simp at h),⟨.inl ⟨rfl,rfl⟩,`z,trivial⟩,(λq O=>by simp at O),⟨(λz=>by cases z),trivial⟩,.inl ⟨by simp,by simp⟩⟩,rfl,by unfold mu;have:=Tf (λu=>decide (u∉([]:List Nat))&&decide ((u,_t)∉[(top,_f)])) L.length;simp only[D6];omega⟩
  have kl:ks.length<=L.length:=Jm o.nd o.lt;have lf:=o.lf;obtain⟨k0,rfl,R⟩:∃k0,ks=k0++[top]/\top∉k0:=o.fin.elim (λz=>(z.2 rfl).elim) λz=>z.2;have M:0 < F.length:=by rw[lf];simp
  refine⟨F,?_,o.ok,M,by omega⟩;unfold BY;have P:Tz CN (Af (.lst (nD L))) 1000000 (.lst [],.dct [] [],.lst [.tup [.int (top:Nat),.bl _f]])=_s (.lst (nD F),BB (k0++[top]),stk []):=e;rw[P];simp only[A0,AY,Gs];have:Rp (.int (F.length:Nat)) (.int 1)=_s (.int ((F.length-1:Nat))):=by show _s (Dv.int ((F.length:Int)-1))=_;congr 2;omega
  rw[this];rfl
end
theorem fK(ts:List Nat):(tI ts).cmp=_t/\(tI ts).dep<=1:=by
 have a:∀ts:List Nat,BZ (nI ts)=_t/\Bh (nI ts)=0:=λts=>by
  induction ts with|nil=>exact⟨rfl,rfl⟩|cons t ts c=>simp only[nI]at c;simp only[nI,B7,BZ,Bh,Dv.cmp,Dv.dep,c.1,c.2,M5];exact⟨trivial,rfl⟩
 simp only[tI,Dv.cmp,Dv.dep,a ts];exact⟨trivial,B3 _⟩
theorem Pl(n:Nat):Vo (.int (n:Nat)) (.int 0)=_s (decide (0 < n)):=by show _s (decide ((0:Int) < (n:Nat)))=_;congr 1;exact decide_eq_decide.mpr `o
theorem zDR(h:0 < n):Rp (.int (n:Nat)) (.int 1)=_s (.int ((n-1:Nat))):=by show _s (Dv.int ((n:Int)-1))=_;congr 2;omega
section
variable{I:Nat}{fs ds:List Dv}
theorem gA{x:Nd}(h:HF I fs ds i x):x.dv.cmp=_t/\x.dv.dep<=2:=by
 cases x with|inp k=>exact⟨rfl,by simp[Nd.dv,CZ,Dv.dep,Bh]⟩|fix c=>obtain⟨_,l,rfl⟩:=h;exact⟨rfl,by simp[Nd.dv,Ca,Dv.dep,Bh]⟩|act d ps=>obtain⟨⟨r,_,_,_,l,rfl⟩,_⟩:=h;obtain⟨h1,h2⟩:=fK ps;simp only[Nd.dv,JM,Dv.cmp,BZ,Dv.dep,Bh,h1,M5];exact⟨trivial,by omega⟩
theorem fu:∀{L:List Nd},(∀x∈L,∃i,HF I fs ds i x)->BZ (nD L)=_t/\Bh (nD L)<=2
 |[],_=>⟨rfl,by decide⟩
 |x::L,h=>by obtain⟨h1,h2⟩:=fu (L:=L) λy c=>h y (A9 _ c);obtain⟨i,hi⟩:=h x B1;obtain⟨h3,h4⟩:=gA hi;simp only[nD]at h1 h2;simp only[nD,B7,BZ,Bh,h1,h3,M5];exact⟨trivial,by omega⟩
theorem Xg{x:Nd}(h:HF I fs ds i x)(m:FS I fs ds L):∃b,FL x.dv (.lst (nD L))=_s b/\(L=[]->b=_t):=by
 obtain⟨h1,h2⟩:=fu (L:=L) λy g=>by obtain⟨j,k⟩:=m6 g;exact⟨j,m j y k⟩
 have h3:=(gA h).1;refine⟨!Ko x.dv (nD L),?_,λe=>by rw[e];rfl⟩;have c:(x.dv.cmp&&BZ (nD L)&&decide (Bh (nD L)<=150))=true:=by rw[h1,h3,M5,vp];exact decide_eq_true `o
 have v:rL (.lst (nD L))=_s (nD L):=rfl;cases x<;>simp only[Nd.dv]at c ⊢<;>simp only[Ks,v,c,if_true]
theorem YC(L:List Nd):AS (.lst (nD L))=_s (.int (L.length:Nat)):=Gs L
theorem KW{a:Dv}{r:Int}{x:Dv}(h:x∈ds)(hd:∀x∈ds,Ru 5 x):∃a r,x=.tup [a,.int r]/\(∃l,a=.str l)/\(r=1\/r=2)/\Dv.tup [a,.int r]∈ds:=by obtain⟨a,r,rfl,⟨l,rfl,_⟩,c⟩:=hd x h;exact⟨_,r,rfl,⟨l,rfl⟩,c,h⟩
theorem FS.snoc{x:Nd}(h:FS I fs ds L)(e:HF I fs ds L.length x):FS I fs ds (L++[x]):=λi y c=>by
 rcases N1 i L.length with w|w
 rw[E6 w]at c;exact h i y c;have:i=L.length:=by have:=(A4.mp c).1;simp at this;omega
 subst this;rw[J7 (B3 _),r9]at c;cases c;exact e
variable(hfs:∀x∈fs,Tx 10 x)(hds:∀x∈ds,Ru 5 x)(hdl:ds.length<=1000)
include hds hdl
theorem VL(hf:Fd f)(h:0 < ds.length):∃(r:Nat)(c a:Dv)(k:Int),AN f (.int (ds.length:Nat))=_s (.int r,c)/\Fd c/\AC (.tup ds) (.int r)=_s (.tup [a,.int k])/\(∃l,a=.str l)/\(k=1\/k=2)/\Dv.tup [a,.int k]∈ds:=by obtain⟨r,c,e,b,g⟩:=GE hf h (A8 hdl `d);have ex:AC (.tup ds) (.int (r:Nat))=_s ds[r]:=CM ds r b;obtain⟨a,k,ek,h1,h2,h3⟩:=KW (a:=.non) (r:=0) (K7 b) hds;rw[ek]at ex;exact⟨r,c,a,k,e,g,ex,h1,h2,h3⟩
theorem qL(hf:Fd f)(Y:FS I fs ds L)(hl:L.length<=100){y:Nd}(G:HF I fs ds L.length y):∃x g,HV (.tup [.tup fs,.tup ds]) (.lst (nD L)) f y.dv=_s (g,x.dv)/\HF I fs ds L.length x/\Fd g:=by
 have A:AC (.tup [.tup fs,.tup ds]) (.int 1)=_s (.tup ds):=rfl;have l1:AS (.tup ds)=_s (.int (ds.length:Nat)):=rfl;have t:∃b g,HS (.tup [.tup fs,.tup ds]) (.lst (nD L)) f=_s (b,g)/\Fd g/\(b=_t->0 < L.length/\0 < ds.length):=by unfold HS;simp only[YC,A0,Pl];by_cases B:0 < L.length;simp only[B,decide_true,if_true];unfold LJ;simp only[A,l1,A0,Pl];by_cases h1:0 < ds.length;obtain⟨r,g,e,b,u⟩:=AU hf (n:=4) `d `d;simp only[h1,decide_true,if_true,e,A0,Pl];exact⟨_,g,rfl,u,λ_=>⟨trivial,trivial⟩⟩;simp only[h1,decide_false,B4,if_false,A0];exact⟨_,f,rfl,hf,λz=>by cases z⟩;simp only[B,decide_false,B4,if_false];exact⟨_,f,rfl,hf,λz=>by cases z⟩
 obtain⟨b,P,T,h,hb⟩:=t;unfold HV;rw[T];cases b with
 |false=>exact⟨y,P,rfl,G,h⟩
 |true=>
  obtain⟨v,U⟩:=hb rfl;obtain⟨r,f2,a,k,S,s,ex,⟨l,rfl⟩,J,hm⟩:=VL hds hdl h U;have er:DL [.int k]=_s ((B2 k.toNat).map λj=>.int (j:Nat)):=MT `o `o;obtain⟨qs,O,R,w,h3,q⟩:=IB (Hb (.lst (nD L))) Fd (λd=>∃p:Nat,d=.int p/\p < L.length) ((B2 k.toNat).map λj=>.int (j:Nat)) f2 s λx X c K=>by
   obtain⟨D,Z,F,W,o⟩:=GE K v (A8 hl `d);obtain⟨C,M,E,V,m⟩:=AU o (n:=2) `d `d;have s1:=zDR v;obtain⟨z,hz,Q⟩:=gw (xs:=[Dv.int ((L.length-1:Nat)),.int (D:Nat)]) (i:=C) (Y1 _) (by simpa using V);refine⟨z,M,by unfold Hb;simp only[YC,A0,s1,F,E,Q],?_,m⟩;simp only[D3,X2,or_false]at hz;rcases hz with rfl|rfl
   exact⟨_,rfl,Nat.sub_lt v `d⟩;exact⟨_,rfl,W⟩
  obtain⟨ps,rfl,H⟩:=WE (n:=L.length) (xs:=qs) h3;rw[BK]at w;refine⟨.act (.str l) ps,O,?_,⟨⟨k,hm,by rw[w];simp;omega,J,l,rfl⟩,H⟩,q⟩;simp only[A0,if_true,A,l1,S,ex];rw[HP];simp only[er,A0];rw[Ap `w,R];rfl
include hfs
theorem Qs(hf:Fd f)(y:fs.length<=100){I0:Nat}(hI:I<=100)(q:fs.length=0->I=max I0 1)(C:fs.length≠0->I=I0){many:Nat}(Y:0 < many)(hm:many<=50):∃L H,Gf f (.tup [.tup fs,.tup ds]) (.int (I0:Nat)) (.int (many:Nat))=_s (.lst (nD L),H)/\FS I fs ds L/\0 < L.length/\L.length<=many/\Fd H:=by
 have X:AC (.tup [.tup fs,.tup ds]) (.int 0)=_s (.tup fs):=rfl;have W:AS (.tup fs)=_s (.int (fs.length:Nat)):=rfl;have it:items (.tup fs)=_s fs:=rfl;have T:∃D,(Ek (.int (fs.length:Nat)) (.int 0)).bind (λJ=>IU (.bl J))=_s D/\ED (.int (I0:Nat)) D=_s (.int (I:Nat)):=by rw[Co];simp only[A0,IU];refine⟨_,rfl,?_⟩;simp only[ED];by_cases h:(fs.length:Int)=0;have:=q `o;simp only[h,decide_true,if_true];split;congr 2;omega;congr 2;omega;have:=C `o;simp only[h,decide_false,B4,if_false];rw[if_neg `o];congr 2;omega
 obtain⟨D,V,U⟩:=T;obtain⟨J,R,Q⟩:=Q6.mp V;have O:=IW I `o;have M:BD FX ((B2 I).map λk=>.int (k:Nat))=_s (nD ((B2 I).map Nd.inp)):=by
  have:∀l:List Nat,BD FX (l.map λk=>.int (k:Nat))=_s (nD (l.map Nd.inp)):=λl=>by
   induction l with|nil=>rfl|cons a l m=>simp only[nD]at m;simp only[nD,B7,BD,FX,A0,m];rfl
  exact this _
 have t:BD FW fs=_s (nD (fs.map Nd.fix)):=by
  have:∀l:List Dv,BD FW l=_s (nD (l.map Nd.fix)):=λl=>by
   induction l with|nil=>rfl|cons a l m=>simp only[nD]at m;simp only[nD,B7,BD,FW,A0,m];rfl
  exact this _
 let S:List Nd:=(B2 I).map Nd.inp++fs.map Nd.fix
 have hS:nD ((B2 I).map Nd.inp)++nD (fs.map Nd.fix)=nD S:=by simp[nD,S]
 have E:S.length=I+fs.length:=by simp[S]
 have S6:S.length<=1000000:=by rw[E];exact A8 (Nat.add_le_add hI y) `d
 have B:0 < S.length:=by rw[E];by_cases z:fs.length=0;rw[q z];exact C6 (C6 `d (yn I0 1)) (Nat.le_add_right _ _);exact C6 (Nat.pos_of_ne_zero z) (Nat.le_add_left _ _)
 have v:∀x∈S,∀i,HF I fs ds i x:=λx g i=>by
  rcases C0.mp g with g|g
  obtain⟨k,Z,rfl⟩:=J8.mp g;exact(show k < I by simpa using Z);obtain⟨c,s,rfl⟩:=J8.mp g;obtain⟨l,rfl,_⟩:=hfs c s;exact⟨s,l,rfl⟩
 have ad:AV (.lst (nD ((B2 I).map Nd.inp))) (.lst (nD (fs.map Nd.fix)))=_s (.lst (nD S)):=by simp only[AV,if_pos (show(nD ((B2 I).map Nd.inp)).length+(nD (fs.map Nd.fix)).length<=1000000 by simp[Hn];omega),hS]
 have u:=IW many `o;obtain⟨⟨f2,l2⟩,e2,L,rfl,j,e,p,A⟩:=Bj (P:=λi c=>∃L,c.2=.lst (nD L)/\FS I fs ds L/\L.length<=i/\(0 < i->0 < L.length)/\Fd c.1) (Hf (.tup [.tup fs,.tup ds]) (.lst (nD S))) many (f,.lst []) ⟨[],rfl,(λi x h=>by simp at h),by simp,(λz=>by omega),hf⟩ λi hi c s=>by
  obtain⟨f,l⟩:=c;obtain⟨L,rfl,j,e,p,hf⟩:=s;obtain⟨r,g1,e1,F,w⟩:=GE hf B S6;have K:L.length<=100:=A8 e (A8 (R8 hi) (A8 hm `d));obtain⟨x,G,e3,g,o⟩:=qL hds hdl w j K (v S[r] (K7 F) L.length);obtain⟨b,eb,hb⟩:=Xg g j;unfold Hf;simp only[YC,A0,e1,gB F,e3];unfold LN;rw[eb];simp only[A0];cases b with
  |true=>refine⟨(G,.lst (nD (L++[x]))),?_,L++[x],rfl,j.snoc g,by simpa using j5 e,(λ_=>by simp),o⟩;simp only[if_true,Df,Dc (show(nD L).length<=1000000 by rw[Hn];exact A8 K `d),A0];simp[nD]
  |false=>
   refine⟨(G,.lst (nD L)),by simp,L,rfl,j,yX e,λ_=>?_,o⟩;rcases Nat.eq_zero_or_pos L.length with z|z
   have:=hb (F7 z);cases this;exact z
 refine⟨L,f2,?_,j,p `o,e,A⟩;unfold Gf;simp only[X,W,A0,R,Q,U,O];rw[Ap `w,M];simp only[A0,it];rw[Ap `o,t];simp only[A0,ad,u];rw[e2];rfl
end
noncomputable def aj:List Nat:=[105,110,112,117,116]
noncomputable def ak:List Nat:=[102,105,120,101,100]
noncomputable def sQ:List Nat:=[100,111]
set_option genInjectivity true in
inductive Ne where
 |inp (k:Nat)|fix (l:List Nat)|act (l:List Nat) (ps:List Nat)
 deriving DecidableEq
def Ne.dv:Ne->Dv
 |.inp k=>.tup [CZ,.int (k:Nat)]
 |.fix l=>.tup [Ca,.str l]
 |.act l ps=>.tup [JM,.str l,tI ps]
noncomputable def Ne.parts:Ne->List Nat
 |.act _ ps=>ps
 |_=>[]
noncomputable def eD(L:List Ne):List Dv:=L.map Ne.dv
theorem Ef(L:List Ne):(eD L).length=L.length:=by simp[eD]
theorem ZI(a b:List Ne):eD (a++b)=eD a++eD b:=by simp[eD]
theorem Xk{I:Nat}{fs ds:List Dv}{x:Nd}(h:HF I fs ds i x):∃y:Ne,y.dv=x.dv/\(∀p∈y.parts,p < i)/\y.parts.length<=2:=by
 cases x with|inp k=>exact⟨.inp k,rfl,`z,by simp[Ne.parts]⟩|fix c=>obtain⟨_,l,rfl⟩:=h;exact⟨.fix l,rfl,`z,by simp[Ne.parts]⟩|act d ps=>obtain⟨⟨r,_,h1,h2,l,rfl⟩,e⟩:=h;exact⟨.act l ps,rfl,e,by show ps.length<=2;omega⟩
theorem Xj{I:Nat}{fs ds:List Dv}:∀(F:List Nd)(o:Nat),(∀i x,F[i]?=_s x->HF I fs ds (o+i) x)->∃E:List Ne,eD E=nD F/\∀i x,E[i]?=_s x->(∀p∈x.parts,p < o+i)/\x.parts.length<=2
 |[],o,_=>⟨[],rfl,λi x h=>by simp at h⟩
 |x::F,o,h=>by
  obtain⟨y,e,h1,h2⟩:=Xk (h 0 x rfl);obtain⟨E,c,h3⟩:=Xj F (o+1) λi z hz=>by have:=h (i+1) z (by simpa using hz);rw[show o+(i+1)=o+1+i by omega]at this;exact this
  refine⟨y::E,by show y.dv::eD E=x.dv::nD F;rw[e,c],λi z hz=>?_⟩;cases i with|zero=>cases hz;exact⟨h1,h2⟩|succ i=>have:=h3 i z (by simpa using hz);rw[show o+(i+1)=o+1+i by omega];exact this
theorem TX:∀a b:List Nat,R.zBm (nI a) (nI b)=decide (a=b)
 |[],[]=>rfl
 |[],_::_=>rfl
 |_::_,[]=>rfl
 |x::a,y::b=>by
  show(R.eqV (.int (x:Nat)) (.int (y:Nat))&&R.zBm (nI a) (nI b))=_;rw[TX a b];have:R.eqV (.int (x:Nat)) (.int (y:Nat))=decide (x=y):=by
   show(((x:Nat):Int)==((y:Nat):Int))=_;by_cases e:x=y;subst e;simp;have:¬((x:Nat):Int)=((y:Nat):Int):=by omega
   simp[e,this]
  rw[this,<- Bool.decide_and];exact decide_eq_decide.mpr ⟨λh=>by rw[h.1,h.2],λh=>by cases h;exact⟨rfl,rfl⟩⟩
theorem JL(x:Ne):∃xs,x.dv=.tup xs:=by cases x<;>exact⟨_,rfl⟩
noncomputable def put(G:List Ne)(x:Ne):List Ne:=if x∈G then G else G++[x]
theorem Ip(G:List Ne)(x:Ne):x∈put G x:=by unfold put;split;assumption;simp
noncomputable def IX(ns:List Nat):Ne->Ne
 |.act l ps=>.act l (ps.map λp=>ns.getD p 0)
 |x=>x
def Ej(s:List Ne×List Nat)(x:Ne):List Ne×List Nat:=(put s.1 (IX s.2 x),s.2++[(put s.1 (IX s.2 x)).idxOf (IX s.2 x)])
theorem bU(G:List Ne)(x:Ne):(put G x).length<=G.length+1:=by unfold put;split;omega;simp
theorem MO(s:List Ne×List Nat)(x:Ne):(Ej s x).1.length<=s.1.length+1/\(Ej s x).2.length=s.2.length+1:=⟨bU _ _,by simp[Ej]⟩
theorem Em:∀(E:List Ne)(s:List Ne×List Nat),(E.foldl Ej s).1.length<=s.1.length+E.length/\(E.foldl Ej s).2.length=s.2.length+E.length
 |[],s=>⟨B3 _,rfl⟩
 |x::E,s=>by have h:=Em E (Ej s x);have k:=MO s x;rw[T4,D4];omega
def Pt(o:Nat)(E:List Ne):Prop:=∀i x,E[i]?=_s x->(∀p∈x.parts,p < o+i)/\x.parts.length<=2
variable{x:Ne}
theorem Pt.tail{o:Nat}{E:List Ne}(h:Pt o (x::E)):Pt (o+1) E:=λi z hz=>by have:=h (i+1) z (by simpa using hz);rw[show o+(i+1)=o+1+i by omega]at this;exact this
variable{ns:List Nat}
theorem QC{p:Nat}(h:p < ns.length):AC (.lst (nI ns)) (.int (p:Nat))=_s (.int (ns.getD p 0:Nat)):=WH h
theorem Ez{g:Dv->Option Dv}{ns:List Nat}(j:∀p:Nat,p < ns.length->g (.int (p:Nat))=_s (.int (ns.getD p 0:Nat))):∀ps:List Nat,(∀p∈ps,p < ns.length)->BD g (nI ps)=_s (nI (ps.map λp=>ns.getD p 0))
 |[],_=>rfl
 |p::ps,h=>by have c:=Ez j ps λq k=>h q (A9 _ k);have e:=j p (h p B1);simp only[nI]at c;simp only[nI,B7,BD,e,A0,c]
theorem Sw(ps:List Nat):items (tI ps)=_s (nI ps):=rfl
theorem Wm(h:∀p∈x.parts,p < ns.length)(hl:x.parts.length<=2):CV x.dv (.lst (nI ns))=_s (IX ns x).dv:=by
 cases x with|inp k=>rfl|fix l=>rfl|act l ps=>have o:AC (Ne.act l ps).dv (.int 0)=_s JM:=rfl;have j:AC (Ne.act l ps).dv (.int 1)=_s (.str l):=rfl;have e:AC (Ne.act l ps).dv (.int 2)=_s (tI ps):=rfl;have ne:Iw JM (.str [100,111])=_s false:=rfl;have c:ps.length<=2:=hl;have m:=Ez (g:=Dd (.lst (nI ns))) (ns:=ns) (λp c=>by unfold Dd;rw[QC c];rfl) ps h;unfold CV;simp only[o,j,e,ne,A0,B4,if_false,Sw];rw[Ap (by rw[BK];omega),m];rfl
def Cm:Ne->NK AO
 |.inp k=>[.inl (.inr (tx aj)),.inl (.inl ((k:Nat):Int))]
 |.fix l=>[.inl (.inr (tx ak)),.inl (.inr (tx l))]
 |.act l ps=>[.inl (.inr (tx sQ)),.inl (.inr (tx l)),.inr (kI ps)]
theorem Ht:∀ps:List Nat,GP (nI ps)=_s (kI ps)
 |[]=>rfl
 |p::ps=>by have c:=Ht ps;simp only[nI,kI]at c;simp only[nI,kI,B7,GP,Av,A0,c]
theorem Iq(x:Ne):Gq x.dv=_s (Cm x):=by
 cases x with|inp k=>rfl|fix l=>rfl|act l ps=>have h:YI (tI ps)=_s (kI ps):=Ht ps;have k:Av (tI ps)=none:=rfl;show FD [JM,.str l,tI ps]=_;simp only[FD,JM,Av,k,h,F0,wy,Z6,Z7,A0];rfl
theorem GV(h:tx a=tx b):a=b:=by have:=congrArg Str.cps h;simpa[tx]using this
theorem RE:∀{a b:List Nat},kI a=kI b->a=b
 |[],[],_=>rfl
 |[],_::_,h=>by simp[kI]at h
 |_::_,[],h=>by simp[kI]at h
 |x::a,y::b,h=>by
  simp only[kI,B7,L7,V8]at h;have:x=y:=by omega
  rw[this,RE (a:=a) (b:=b) h.2]
theorem Oh{a b:Ne}(h:Cm a=Cm b):a=b:=by
 cases a with
 |inp k=>
  cases b with
  |inp j=>
   simp only[Cm,L7,V8,true_and,and_true]at h;have:k=j:=by omega
   rw[this]
  |fix m=>simp only[Cm,L7,V8,l8]at h;exact absurd (GV h.1) `d
  |act m qs=>simp[Cm]at h
 |fix l=>
  cases b with|inp j=>simp only[Cm,L7,V8,l8]at h;exact absurd (GV h.1) `d|fix m=>simp only[Cm,L7,V8,l8,true_and,and_true]at h;rw[GV h]|act m qs=>simp[Cm]at h
 |act l ps=>
  cases b with|inp j=>simp[Cm]at h|fix m=>simp[Cm]at h|act m qs=>simp only[Cm,L7,V8,l8,true_and,and_true]at h;rw[GV h.1,RE h.2]
theorem YG(G:List Ne)(x:Ne):((G.map Cm).any λj=>decide (j=Cm x))=decide (x∈G):=by
 induction G with
 |nil=>rfl
 |cons y G c=>rw[B7,O9,c,<- Bool.decide_or];exact decide_eq_decide.mpr ⟨λh=>h.elim (λh=>(Oh h)▸B1) λh=>A9 _ h,λh=>by rcases D3.mp h with h|h<;>simp[h]⟩
theorem gY(x:Ne):∀(G:List Ne)(o:Nat),AX (Cm x) (G.map Cm) (nI ((B2 G.length).map (o+·)))=if x∈G then _s (.int ((o+G.idxOf x:Nat)))else _n
 |[],_=>rfl
 |y::G,o=>by
  rw[D4,Z5];simp only[nI,B7,V1,AX];by_cases e:y=x;subst e;simp;have j:¬Cm y=Cm x:=λz=>e (Oh z);have q:(y==x)=false:=beq_eq_false_iff_ne.mpr e;rw[if_neg j,zF,q];have c:=gY x G (o+1);unfold nI at c;rw[V1]at c;have:((λt=>Dv.int ((t:Nat):Int))∘(λx=>o+x)∘Nat.succ)=((λt=>Dv.int ((t:Nat):Int))∘(λx=>o+1+x)):=by funext z;simp only[Function.comp];congr 2;omega
  rw[this,c];have g:¬x=y:=λz=>e z.symm;by_cases h:x∈G;rw[if_pos h,if_pos (A9 _ h)];congr 3;simp only[cond_false];omega;rw[if_neg h,if_neg (by simp[g,h])]
theorem ZN(x:Ne)(G:List Ne):AX (Cm x) (G.map Cm) (nI (B2 G.length))=if x∈G then _s (.int (G.idxOf x:Nat))else none:=by have:=gY x G 0;simp only[E8]at this;have e:(B2 G.length).map (λx=>x)=B2 G.length:=yY _;rw[e]at this;exact this
def ZL(G:List Ne):Dv:=match G with
 |[]=>.dct [] []
 |G=>.dnt (G.map Cm) (nI (B2 G.length))
variable{G:List Ne}
theorem Iv(h:G≠[]):ZL G=.dnt (G.map Cm) (nI (B2 G.length)):=by
 cases G with|nil=>exact(h rfl).elim|cons _ _=>rfl
theorem Og(x:Ne):Av x.dv=none:=by cases x<;>rfl
theorem VN(x:Ne)(G:List Ne):FL x.dv (ZL G)=_s (!decide (x∈G)):=by have k:=Iq x;have k0:=Og x;by_cases h:G=[];subst h;obtain⟨xs,e⟩:=JL x;rw[e]at k k0 ⊢;simp only[ZL,Ks,k,k0,wN,Z7,j7,if_true,A0];simp;rw[Iv h];obtain⟨xs,e⟩:=JL x;have d:=ZN x G;rw[e]at k ⊢;simp only[Ks,k,A0,d,if_true];by_cases m:x∈G<;>simp[m]
theorem dY(h:x∈G):AC (ZL G) x.dv=_s (.int (G.idxOf x:Nat)):=by
 have k:=Iq x;have n:G≠[]:=λz=>by rw[z]at h;cases h
 rw[Iv n];obtain⟨xs,e⟩:=JL x;have d:=ZN x G;rw[if_pos h]at d;rw[e]at k ⊢;simp only[AC,k,A0,d]
theorem dX(h:x∉G)(hl:G.length<=1000000):Ao (ZL G) x.dv (.int (G.length:Nat))=_s (ZL (G++[x])):=by
 have k:=Iq x;have k0:=Og x;have c:nI (B2 G.length)++[Dv.int (G.length:Nat)]=nI (B2 (G++[x]).length):=by rw[B5,D6,T5,GN];rfl
 by_cases n:G=[];subst n;obtain⟨xs,e⟩:=JL x;rw[e]at k k0;rw[e];simp only[ZL,Ao,k,k0,wN,Z7,j7,if_true,A0];rfl;rw[Iv n,Iv `s];have a:=YG G x;rw[decide_eq_false h]at a;obtain⟨xs,e⟩:=JL x;rw[e]at k;rw[e];simp only[Ao,k,A0,if_pos (show(G.map Cm).length<=1000000 by simpa using hl),Ie,Ic,a,B4,if_false,c];simp
def ob(G:List Ne):Dv:=.obj "Nodes" Uz ["listed", "numbers"] [.lst (eD G),ZL G]
theorem oy(G:List Ne):GU (ob G) "listed" = _s (.lst (eD G)):=rfl
theorem kD(G:List Ne):GU (ob G) "numbers" = _s (ZL G):=by show(if("numbers" : Str) == "listed" then _s (Dv.lst (eD G))else if("numbers" : Str) == "numbers" then _s (ZL G)else _n)=_;rw[show(("numbers" : Str) == "listed")=_f by decide,show(("numbers" : Str) == "numbers")=_t by decide];rfl
theorem fm(G:List Ne):CB (ob G) "listed" = true:=rfl
theorem YM(G:List Ne):cy (ZL G)=true:=by cases G<;>rfl
theorem fj(G:List Ne):CB (ob G) "numbers" = true:=by unfold CB;rw[kD];exact YM G
def rS(xs:List Dv)(d:Dv):Dv:=.obj "Nodes" Uz ["listed", "numbers"] [.lst xs,d]
theorem ox(G:List Ne)(d:Dv):Bf (ob G) "numbers" d=rS (eD G) d:=by show Dv.obj _ _ _ (if("numbers" : Str) == "listed" then _ else Dv.lst (eD G)::(if("numbers" : Str) == "numbers" then _ else _))=_;rw[show(("numbers" : Str) == "listed")=_f by decide,show(("numbers" : Str) == "numbers")=_t by decide];rfl
theorem oz(xs:List Dv)(d:Dv):GU (rS xs d) "listed" = _s (.lst xs):=rfl
theorem kG(xs:List Dv)(d:Dv):CB (rS xs d) "listed" = true:=rfl
theorem kF(xs:List Dv)(d y:Dv):Bf (rS xs d) "listed" y=.obj "Nodes" Uz ["listed", "numbers"] [y,d]:=rfl
theorem Xf(hl:G.length<=100000):BR (ob G) x.dv=_s (.int ((put G x).idxOf x:Nat),ob (put G x)):=by
  have s:Bx (ob G) x.dv=_s (ob (put G x)):=by
    unfold Bx put;simp only[fj,cond_true,kD,A0,VN];by_cases h:x∈G;simp[h];have c:AS (.lst (eD G))=_s (.int (G.length:Nat)):=by show _s (Dv.int ((eD G).length:Nat))=_;rw[Ef]
    simp only[h,decide_false,W7,if_true,fm,cond_true,oy,A0,c,dX h (show G.length<=1000000 by omega),ox,kG,oz,Df,Dc (show(eD G).length<=1000000 by rw[Ef];omega),kF,if_false];unfold ob;rw[ZI];rfl
  unfold BR;rw[s];simp only[A0,fj,cond_true,kD,dY (Ip G x)]
theorem Xh:∀ps:List Nat,Qr (nI ps)=_t
 |[]=>rfl
 |p::ps=>by show(_t&&Qr (nI ps))=_t;rw[Xh ps];rfl
theorem kH(x:Ne):UZ x.dv=true:=by
 cases x with|inp k=>rfl|fix l=>rfl|act l ps=>show(_t&&(_t&&(Qr (nI ps)&&_t)))=_t;rw[Xh];rfl
theorem Sz:∀(E:List Ne)(o:Nat)(G:List Ne)(ns:List Nat),ns.length=o->Pt o E->G.length+E.length<=100000->o+E.length<=100000->BO EV (eD E) (ob G,.lst (nI ns))=_s (ob (E.foldl Ej (G,ns)).1,.lst (nI (E.foldl Ej (G,ns)).2))
 |[],o,G,ns,_,_,_,_=>rfl
 |x::E,o,G,ns,e,c,q,m=>by
  rw[D4]at q m;have g:=c 0 x rfl;have hb:EV x.dv (ob G,.lst (nI ns))=_s (ob (Ej (G,ns) x).1,.lst (nI (Ej (G,ns) x).2)):=by have io:Ei (ob G) "Nodes" "number_of" = true:=rfl;unfold EV;simp only[Df,io,cond_true,Wm (ns:=ns) (x:=x) (λp j=>by rw[e];have:=g.1 p j;omega) g.2,A0,kH,Xf (G:=G) (x:=IX ns x) `o,Dc (show(nI ns).length<=1000000 by rw[BK];omega)];simp only[Ej,GN];rfl
  have k:=MO (G,ns) x;have h:=Sz E (o+1) (Ej (G,ns) x).1 (Ej (G,ns) x).2 (by rw[k.2];simp[e]) c.tail (by have:=k.1;simp at this ⊢;omega) `o;show(EV x.dv (ob G,.lst (nI ns))).bind (BO EV (eD E))=_;rw[hb];exact h
def fD(E:List Ne):Dv:=.tup [.tup (eD E),.int ((E.length-1:Nat))]
def aL(E:List Ne):Prop:=Pt 0 E/\0 < E.length/\E.length<=30
def JO(s:List Ne×List Nat)(E:List Ne):List Ne×List Nat:=((E.foldl Ej (s.1,[])).1,s.2++[(E.foldl Ej (s.1,[])).2.getD (E.length-1) 0])
theorem SL{E:List Ne}(h:aL E)(s:List Ne×List Nat):(JO s E).1.length<=s.1.length+30/\(JO s E).2.length=s.2.length+1:=by have k:=Em E (s.1,[]);have:=h.2.2;refine⟨?_,by simp[JO]⟩;show(E.foldl Ej (s.1,[])).1.length<=_;have:=k.1;simp only at this;omega
theorem OT:∀(Es:List (List Ne))(G:List Ne)(ts:List Nat),(∀E∈Es,aL E)->G.length+30 * Es.length<=10000->ts.length+Es.length<=10000->BO EU (Es.map fD) (ob G,.lst (nI ts))=_s (ob (Es.foldl JO (G,ts)).1,.lst (nI (Es.foldl JO (G,ts)).2))
 |[],G,ts,_,_,_=>rfl
 |E::Es,G,ts,h,p,o=>by
  rw[D4]at p o;have c:=h E B1;have m:AC (fD E) (.int 0)=_s (.tup (eD E)):=rfl;have j:AC (fD E) (.int 1)=_s (.int ((E.length-1:Nat))):=rfl;have it:items (.tup (eD E))=_s (eD E):=rfl;have l2:=(Em E (G,[])).2;simp only[O4,E8]at l2;have t:=Sz E 0 G [] rfl c.1 (by have:=c.2.2;omega) (by have:=c.2.2;omega);have s:AC (.lst (nI (E.foldl Ej (G,[])).2)) (.int ((E.length-1:Nat)))=_s (.int ((E.foldl Ej (G,[])).2.getD (E.length-1) 0:Nat)):=QC (by rw[l2];have:=c.2.1;omega);have hb:EU (fD E) (ob G,.lst (nI ts))=_s (ob (JO (G,ts) E).1,.lst (nI (JO (G,ts) E).2)):=by unfold EU;simp only[m,it,A0];have e:BO EV (eD E) (ob G,.lst [])=_:=t;rw[e];simp only[A0,Df,j,s,Dc (show(nI ts).length<=1000000 by rw[BK];omega)];simp only[JO,GN];rfl
  have k:=SL c (G,ts);have g:=OT Es (JO (G,ts) E).1 (JO (G,ts) E).2 (λF q=>h F (A9 _ q)) (by have:=k.1;simp at this ⊢;omega) (by rw[k.2];simp;omega);show(EU (fD E) (ob G,.lst (nI ts))).bind (BO EU (Es.map fD))=_;rw[hb];exact g
theorem Uu:DA (.obj "Nodes" Uz [] [])=_s (.non,ob []):=by
 have h1:Ec (.obj "Nodes" Uz [] []) "listed" (.lst [])=_s (.obj "Nodes" Uz ["listed"] [.lst []]):=by rfl
 have h2:Ec (.obj "Nodes" Uz ["listed"] [.lst []]) "numbers" (.dct [] [])=_s (ob []):=by rfl
 unfold DA;rw[h1];simp only[A0,h2]
def Qp(Es:List (List Ne)):List Ne:=(Es.foldl JO ([],[])).1
def Nl(Es:List (List Ne)):List Nat:=(Es.foldl JO ([],[])).2
theorem Up{a:Dv}{Es:List (List Ne)}(ha:items a=_s (Es.map fD))(h:∀E∈Es,aL E)(hl:Es.length<=50):OB a=_s (.tup [.tup (eD (Qp Es)),.tup (nI (Nl Es))]):=by have g:=OT Es [] [] h `w `w;have e:kQ Dv.non [ob []]=fun(k:Dv->Option Dv)=>k (ob []):=rfl;unfold OB;rw[Uu];simp only[A0,e,ha];have c:BO EU (Es.map fD) (ob [],.lst [])=_:=g;rw[c];simp only[A0,fm,cond_true,oy,AY];rfl
def Kg(ar:List Nat->Nat):Ne->Prop
 |.act l ps=>ps.length=ar l
 |_=>True
def GOk(ar:List Nat->Nat)(G:List Ne):Prop:=∀x∈G,(∀p∈x.parts,p < G.length)/\Kg ar x
section
variable{ar:List Nat->Nat}
theorem iu(h:Kg ar x)(g:∀p∈x.parts,p < ns.length)(j:∀k∈ns,k < n):(∀p∈(IX ns x).parts,p < n)/\Kg ar (IX ns x):=by
 cases x with|inp k=>exact⟨`z,trivial⟩|fix l=>exact⟨`z,trivial⟩|act l ps=>refine⟨λp c=>?_,by show(ps.map _).length=ar l;rw[C3];exact h⟩;obtain⟨q,e,rfl⟩:=J8.mp c;exact j _ (getD_mem (g q e))
theorem jF(h:GOk ar G)(g:(∀p∈x.parts,p < G.length)/\Kg ar x):GOk ar (put G x)/\G.length<=(put G x).length:=by
 unfold put;split;exact⟨h,B3 _⟩;refine⟨λy c=>?_,by simp⟩;rw[B5];rcases C0.mp c with c|c
 exact⟨λp e=>by have:=(h y c).1 p e;omega,(h y c).2⟩;rw[C4]at c;subst c;exact⟨λp e=>by have:=g.1 p e;omega,g.2⟩
theorem SI:∀(E:List Ne)(o:Nat)(G:List Ne)(ns:List Nat),ns.length=o->Pt o E->(∀x∈E,Kg ar x)->GOk ar G->(∀k∈ns,k < G.length)->GOk ar (E.foldl Ej (G,ns)).1/\(∀k∈(E.foldl Ej (G,ns)).2,k < (E.foldl Ej (G,ns)).1.length)/\G.length<=(E.foldl Ej (G,ns)).1.length
 |[],o,G,ns,m,h,ha,q,e=>⟨q,e,B3 _⟩
 |x::E,o,G,ns,m,h,ha,q,e=>by
  have v:=h 0 x rfl;have r:=iu (ns:=ns) (x:=x) (n:=G.length) (ha x B1) (λp u=>by rw[m];have:=v.1 p u;omega) e;obtain⟨p1,s⟩:=jF q r;have k:=MO (G,ns) x;have g:=SI E (o+1) (Ej (G,ns) x).1 (Ej (G,ns) x).2 (by rw[k.2];simp[m]) h.tail (λy t=>ha y (A9 _ t)) p1 λj c=>by
   rcases C0.mp c with c|c
   have:=e j c;show j < (put G (IX ns x)).length;omega;rw[C4]at c;subst c;exact U1.mpr (Ip _ _)
  rw[T4];exact⟨g.1,g.2.1,A8 s g.2.2⟩
theorem SK:∀(Es:List (List Ne))(s:List Ne×List Nat),(∀E∈Es,aL E/\∀x∈E,Kg ar x)->GOk ar s.1->(∀t∈s.2,t < s.1.length)->GOk ar (Es.foldl JO s).1/\∀t∈(Es.foldl JO s).2,t < (Es.foldl JO s).1.length
 |[],s,_,h,k=>⟨h,k⟩
 |E::Es,s,e,h,k=>by
  obtain⟨f,a⟩:=e E B1;obtain⟨j,g,o⟩:=SI E 0 s.1 [] rfl f.1 a h `z;refine SK Es (JO s E) (λF m=>e F (A9 _ m)) j λt c=>?_;rcases C0.mp c with c|c
  have:=k t c;show t < (E.foldl Ej (s.1,[])).1.length;omega;rw[C4]at c;subst c;have l2:=(Em E (s.1,[])).2;simp only[O4,E8]at l2;exact g _ (getD_mem (by rw[l2];have:=f.2.1;omega))
end
theorem Nv:∀(Es:List (List Ne))(s:List Ne×List Nat),(∀E∈Es,aL E)->(Es.foldl JO s).1.length<=s.1.length+30 * Es.length/\(Es.foldl JO s).2.length=s.2.length+Es.length
 |[],s,_=>⟨by simp,by simp⟩
 |E::Es,s,h=>by have k:=SL (h E B1) s;have e:=Nv Es (JO s E) λF c=>h F (A9 _ c);rw[T4,D4];omega
def pD(p:List Ne×List Ne):Dv:=.tup [fD p.1,fD p.2]
noncomputable def Ax(ps:List (List Ne×List Ne)):List (List Ne):=ps.flatMap λp=>[p.1,p.2]
theorem KD:∀ps:List (List Ne×List Ne),(Ax ps).length=2 * ps.length
 |[]=>rfl
 |p::ps=>by have c:=KD ps;simp only[Ax]at c;simp only[Ax,vc,B5,c,D4,O4];omega
theorem qQ{xs ys:List Dv}(h:xs.length+ys.length<=1000000):Bt (.lst xs) [.tup ys]=_s (.non,.lst (xs++ys)):=by simp only[Bt,if_pos h]
theorem Ou{g:Dv->Dv->Option Dv}(c:∀xs ys:List Dv,xs.length+ys.length<=1000000->g (.tup ys) (.lst xs)=_s (.lst (xs++ys))):∀(ps:List (List Ne×List Ne))(xs:List Dv),xs.length+2 * ps.length<=1000->BO g (ps.map pD) (.lst xs)=_s (.lst (xs++(Ax ps).map fD))
 |[],xs,_=>by simp[BO,Ax]
 |p::ps,xs,h=>by rw[D4]at h;have e:=c xs [fD p.1,fD p.2] `w;have j:=Ou c ps (xs++[fD p.1,fD p.2]) `w;show(g (.tup [fD p.1,fD p.2]) (.lst xs)).bind (BO g (ps.map pD))=_;rw[e];simp only[A0,j];simp only[Ax,vc,M4,B7,N0,G9]
theorem Qm{gs:List (List Ne×List Ne)}{q:List Ne×List Ne}(h:gs.length<=20)(c:∀E∈Ax (gs++[q]),aL E):DE (.tup (gs.map pD)) (pD q)=_s (.tup [.tup (eD (Qp (Ax (gs++[q])))),.tup (nI (Nl (Ax (gs++[q]))))]):=by
 have l:Kd (.tup (gs.map pD))=_s (.lst (gs.map pD)):=rfl;have a:AV (.lst (gs.map pD)) (.lst [pD q])=_s (.lst ((gs++[q]).map pD)):=by simp only[AV,C3,D6,if_pos (show gs.length+1<=1000000 by omega),M4,B7,N0]
 have it:items (.lst ((gs++[q]).map pD))=_s ((gs++[q]).map pD):=rfl;have s:=(Up (a:=.lst ((Ax (gs++[q])).map fD)) rfl c (by rw[KD];simp;omega));unfold DE;simp only[l,a,A0,it];rw[Ou (λxs ys hl=>by unfold Gc;simp only[Df,qQ hl,A0]) (gs++[q]) [] `w];simp only[A0,n8,s]
def Ig(ps:List Nat):Prop:=∀w,ps.getD w 0<=w
noncomputable def rt(ps:List Nat)(w:Nat):Nat:=if h:ps.getD w 0 < w then rt ps (ps.getD w 0)else w
termination_by w
theorem Jb(ps:List Nat)(w:Nat):rt ps w=if ps.getD w 0 < w then rt ps (ps.getD w 0)else w:=by rw[rt];split<;>rfl
theorem Gg{ps:List Nat}(e:Ig ps):∀(n w:Nat),w < n->ps.getD (rt ps w) 0=rt ps w/\rt ps w<=w
 |0,w,h=>by omega
 |n+1,w,h=>by rw[Jb];by_cases c:ps.getD w 0 < w;rw[if_pos c];have:=Gg e n (ps.getD w 0) `o;exact⟨this.1,by omega⟩;rw[if_neg c];have:=e w;exact⟨by omega,B3 _⟩
theorem DK{w:Nat}(h:ps.getD w 0=w):rt ps w=w:=by rw[Jb,if_neg `o]
theorem Il(e:Ig ps)(w:Nat):rt ps (ps.getD w 0)=rt ps w:=by have:=e w;by_cases c:ps.getD w 0 < w;rw[Jb ps w,if_pos c];rw[show ps.getD w 0=w by omega]
variable{u:Nat}
theorem FG{x w:Nat}(h:u < ps.length):(ps.set u x).getD w 0=if w=u then x else ps.getD w 0:=by simp only[D7,yR];by_cases e:u=w;subst e;simp[h];have c:¬w=u:=λz=>e z.symm;simp[e,c]
theorem ZP(c:Ig ps)(h:u < ps.length):Ig (ps.set u (ps.getD (ps.getD u 0) 0)):=λw=>by rw[FG h];split;rename_i e;subst e;have a:=c w;have b:=c (ps.getD w 0);omega;exact c w
theorem NI{ps:List Nat}{u:Nat}(g:Ig ps)(h:u < ps.length):∀(n w:Nat),w < n->rt (ps.set u (ps.getD (ps.getD u 0) 0)) w=rt ps w
 |0,w,j=>by omega
 |n+1,w,j=>by have a:=g u;have b:=g (ps.getD u 0);rw[Jb,FG h];by_cases e:w=u;subst e;rw[if_pos rfl];by_cases c:ps.getD (ps.getD w 0) 0 < w;rw[if_pos c,NI g h n _ `o,Il g,Il g];rw[if_neg c,DK (show ps.getD w 0=w by omega)];rw[if_neg e];rw[Jb ps w];by_cases c:ps.getD w 0 < w;rw[if_pos c,if_pos c,NI g h n _ `o];rw[if_neg c,if_neg c]
structure JS (ps ps':List Nat):Prop where
 low:Ig ps'
 len:ps'.length=ps.length
 rt:∀w,rt ps' w=rt ps w
theorem JS.refl(h:Ig ps):JS ps ps:=⟨h,rfl,λ_=>rfl⟩
theorem JS.trans{c:List Nat}(h:JS a b)(k:JS b c):JS a c:=⟨k.low,k.len.trans h.len,λw=>(k.rt w).trans (h.rt w)⟩
def jb(ps:List Nat):Dv:=.obj "Joins" Uz ["leads"] [.lst (nI ps)]
theorem kg(ps:List Nat):GU (jb ps) "leads" = _s (.lst (nI ps)):=rfl
theorem kh(ps:List Nat):CB (jb ps) "leads" = true:=rfl
theorem pL(ps qs:List Nat):Bf (jb ps) "leads" (.lst (nI qs))=jb qs:=rfl
theorem kM(ps:List Nat)(u x:Nat):(nI ps).set u (.int (x:Nat))=nI (ps.set u x):=by simp[nI]
theorem QX{x:Nat}(h:u < ps.length):Ao (.lst (nI ps)) (.int (u:Nat)) (.int (x:Nat))=_s (.lst (nI (ps.set u x))):=by
 have:Kh (nI ps).length (u:Int)=_s u:=by unfold Kh;rw[if_pos `o,if_pos (by rw[BK];omega)];simp
 simp only[Ao,this,A0,kM]
theorem Cr(o:Ig ps)(k:u < ps.length)(hl:ps.length<=1000):∃ps',AZ (jb ps) (.int (u:Nat))=_s (.int (rt ps u:Nat),jb ps')/\JS ps ps':=by
 obtain⟨c,e,ps',rfl,j⟩:=Dm Bn Cz (λm c=>∃ps',c=(jb ps',.int (m:Nat))/\JS ps ps'/\m < ps.length/\rt ps m=rt ps u) (λc=>∃ps',c=(jb ps',.int (rt ps u:Nat))/\JS ps ps') (λm c ⟨ps',ec,j,hm,h⟩=>by
  subst ec;have g:m < ps'.length:=by rw[j.len];exact hm
  have a:=j.low m;have t:Bn (jb ps',.int (m:Nat))=_s (!decide (((ps'.getD m 0:Nat):Int)=(m:Nat))):=by unfold Bn;simp only[kh,cond_true,kg,A0,QC g,NQ]
  by_cases c:ps'.getD m 0=m;refine .inl ⟨by rw[t,c];simp,ps',?_,j⟩;rw[<- h,<- j.rt,DK c];refine .inr ⟨by rw[t,decide_eq_false (show ¬((ps'.getD m 0:Nat):Int)=(m:Nat) by omega)];rfl,?_⟩;have h1:ps'.getD m 0 < ps'.length:=by omega
  have lo:=ZP j.low g;refine⟨(jb (ps'.set m (ps'.getD (ps'.getD m 0) 0)),.int (ps'.getD (ps'.getD m 0) 0:Nat)),ps'.getD (ps'.getD m 0) 0,?_,?_,_,rfl,?_,?_,?_⟩;have h2:m < (ps'.set m (ps'.getD (ps'.getD m 0) 0)).length:=by simpa using g
  unfold Cz;simp only[kh,cond_true,kg,A0,QC g,QC h1,QX g,pL,QC h2,FG g,if_true];have b:=j.low (ps'.getD m 0);omega;exact⟨lo,by rw[D8,j.len],λw=>by rw[NI j.low g (w+1) w `o,j.rt]⟩;have b:=j.low (ps'.getD m 0);omega;rw[<- h,<- j.rt,<- j.rt,Il j.low,Il j.low]) 1000000 u (jb ps,.int (u:Nat)) `o ⟨ps,rfl,JS.refl o,k,rfl⟩
 refine⟨ps',?_,j⟩;unfold AZ;rw[e];rfl
theorem FE(ps:List Nat):Ei (jb ps) "Joins" "root_of" = _t/\Ei (jb ps) "Joins" "are_joined" = _t/\Ei (jb ps) "Joins" "make_joined" = true:=⟨rfl,rfl,rfl⟩
variable{v:Nat}
theorem IP(j:Ig ps)(h:u < ps.length)(hv:v < ps.length)(hl:ps.length<=1000):∃ps',Aq (jb ps) (.int (u:Nat)) (.int (v:Nat))=_s (.bl (decide (rt ps u=rt ps v)),jb ps')/\JS ps ps':=by obtain⟨p1,m,c⟩:=Cr j h hl;obtain⟨e,k,g⟩:=Cr c.low (show v < p1.length by rw[c.len];exact hv) (by rw[c.len];exact hl);refine⟨e,?_,c.trans g⟩;have d:decide (((rt ps u:Nat):Int)=((rt ps v:Nat):Int))=decide (rt ps u=rt ps v):=decide_eq_decide.mpr `o;unfold Aq;simp only[(FE ps).1,(FE p1).1,cond_true,m,k,A0,Co,c.rt,d]
theorem nV(a b:Nat):IE (.lst [.int (a:Nat),.int (b:Nat)])=_s (.lst [.int ((min a b:Nat)),.int ((max a b:Nat))]):=by
 have e:IQ [(a:Int),(b:Int)]=[((min a b:Nat):Int),((max a b:Nat):Int)]:=by
  symm
  apply Oj;by_cases h:a<=b;rw[R1 h,X3 h];rw[U4 `o,Y0 `o];exact List.Perm.swap ..;simp;omega
 have:IE (.lst [.int (a:Nat),.int (b:Nat)])=_s (.lst ((IQ [(a:Int),(b:Int)]).map .int)):=rfl;rw[this,e];rfl
theorem Mn{ps:List Nat}{m M:Nat}(k:Ig ps)(j:M < ps.length)(le:m<=M)(g:ps.getD m 0=m)(h:ps.getD M 0=M):∀(n w:Nat),w < n->rt (ps.set M m) w=if rt ps w=M then m else rt ps w
 |0,w,o=>by omega
 |n+1,w,o=>by rw[Jb,FG j];by_cases e:w=M;subst e;rw[if_pos rfl,DK h,if_pos rfl];by_cases c:m < w;rw[if_pos c,Mn k j le g h n m `o,DK g];rw[if_neg `o];rw[if_neg c];omega;rw[if_neg e,Jb ps w];by_cases c:ps.getD w 0 < w;rw[if_pos c,if_pos c,Mn k j le g h n _ `o];rw[if_neg c,if_neg c,if_neg e]
theorem Lc(A:Ig ps)(z:u < ps.length)(hv:v < ps.length)(hl:ps.length<=1000):∃ps',Ah (jb ps) (.int (u:Nat)) (.int (v:Nat))=_s (.non,jb ps')/\Ig ps'/\ps'.length=ps.length/\∀w,rt ps' w=if rt ps w=max (rt ps u) (rt ps v)then min (rt ps u) (rt ps v)else rt ps w:=by
 obtain⟨p1,B,c⟩:=Cr A z hl;obtain⟨e,m,q⟩:=Cr c.low (show v < p1.length by rw[c.len];exact hv) (by rw[c.len];exact hl);have j:=c.trans q;have g:=Gg j.low (u+1) u `o;have rv:=Gg j.low (v+1) v `o;rw[j.rt]at g rv;rw[c.rt]at m;have k:max (rt ps u) (rt ps v) < e.length:=by rw[j.len];omega
 have o:e.getD (min (rt ps u) (rt ps v)) 0=min (rt ps u) (rt ps v):=by
  rcases X1 (rt ps u) (rt ps v)with h|h
  rw[R1 h];exact g.1;rw[U4 h];exact rv.1
 have p:e.getD (max (rt ps u) (rt ps v)) 0=max (rt ps u) (rt ps v):=by
  rcases X1 (rt ps u) (rt ps v)with h|h
  rw[X3 h];exact rv.1;rw[Y0 h];exact g.1
 refine⟨e.set (max (rt ps u) (rt ps v)) (min (rt ps u) (rt ps v)),?_,λw=>?_,by rw[D8,j.len],λw=>?_⟩;have t:∀x y:Dv,AC (.lst [x,y]) (.int 0)=_s x:=λ_ _=>rfl;have s:∀x y:Dv,AC (.lst [x,y]) (.int 1)=_s y:=λ_ _=>rfl;unfold Ah;simp only[(FE ps).1,(FE p1).1,cond_true,B,m,A0,nV,t,s,kh,kg,QX k,pL];rw[FG k];split;omega;exact j.low w;rw[Mn j.low k `o o p (w+1) w `o,j.rt]
noncomputable def Qw(ls:List Nat)(u v:Nat):List Nat:=ls.map λl=>if l=ls.getD v 0 then ls.getD u 0 else l
theorem cc(ls:List Nat)(u v:Nat):(Qw ls u v).length=ls.length:=by simp[Qw]
variable{ls:List Nat}
theorem Oa(h:u < ls.length)(hv:v < ls.length)(hl:ls.length<=1000):DF (.lst (nI ls)) (.int (u:Nat)) (.int (v:Nat))=_s (.lst (nI (Qw ls u v))):=by
 have m:∀ks:List Nat,BD (EO (.lst (nI ls)) (.int (u:Nat)) (.int (v:Nat))) (nI ks)=_s (nI (ks.map λl=>if l=ls.getD v 0 then ls.getD u 0 else l)):=λks=>by
  induction ks with
  |nil=>rfl
  |cons k ks g=>
   have e:EO (.lst (nI ls)) (.int (u:Nat)) (.int (v:Nat)) (.int (k:Nat))=_s (.int ((if k=ls.getD v 0 then ls.getD u 0 else k:Nat))):=by unfold EO JT;simp only[QC hv,QC h,A0,Co];by_cases c:k=ls.getD v 0;rw[if_pos c,c];simp;rw[if_neg c,decide_eq_false (show ¬((k:Nat):Int)=((ls.getD v 0:Nat):Int) by omega)];simp
   simp only[nI]at g e;simp only[nI,B7,BD,e,A0,g]
 have it:items (.lst (nI ls))=_s (nI ls):=rfl;unfold DF;simp only[it,A0];rw[Ap (by rw[BK];omega),m ls];rfl
theorem Ob(len:ls.length=n)(e:n<=500)(c:u < n)(hv:v < n):DF (.lst (nI ls)) (.int (u:Nat)) (.int (v:Nat))=_s (.lst (nI (Qw ls u v))):=by subst len;exact Oa c hv (A8 e `d)
def Rl(n:Nat)(ps ls:List Nat):Prop:=Ig ps/\ps.length=n/\ls.length=n/\∀w x,w < n->x < n->(rt ps w=rt ps x↔ls.getD w 0=ls.getD x 0)
theorem gV(h:i < G.length):AC (.lst (eD G)) (.int (i:Nat))=_s G[i].dv:=by show HJ (eD G) (i:Int)=_;rw[CM _ _ (by rw[Ef];exact h)];simp[eD]
theorem kX(G:List Ne):AS (.lst (eD G))=_s (.int (G.length:Nat)):=by show _s (Dv.int ((eD G).length:Nat))=_;rw[Ef]
def Ne.kd:Ne->Dv
 |.inp _=>CZ
 |.fix _=>Ca
 |.act _ _=>JM
def gK:Ne->List Dv
 |.inp k=>[CZ,.int (k:Nat)]
 |.fix l=>[Ca,.str l]
 |.act l _=>[JM,.str l]
theorem fw(x:Ne):JB x.dv _n (_s 2)=_s (.tup (gK x)):=by cases x<;>rfl
theorem kr(l:List Nat)(y:Ne):∃b,Ek (.tup [JM,.str l]) (.tup (gK y))=_s b/\(b=_t->∃m qs,y=.act m qs):=by
 cases y with|inp k=>exact⟨_f,rfl,λz=>by cases z⟩|fix m=>exact⟨_f,rfl,λz=>by cases z⟩|act m qs=>exact⟨_,rfl,λ_=>⟨m,qs,rfl⟩⟩
theorem ZQ(a:List Nat):(Dv.lst (nI a)).cmp=_t/\(Dv.lst (nI a)).dep<=1:=fK a
theorem mP(neg:Bool)(a b:List Nat):Pm neg (.lst (nI a)) (.lst (nI b))=_s (if neg then !decide (a=b)else decide (a=b)):=by have h:=ZQ a;have k:=ZQ b;have e:R.eqV (.lst (nI a)) (.lst (nI b))=decide (a=b):=TX a b;unfold Pm;rw[h.1,k.1,M5,vp,if_pos (decide_eq_true (show(Dv.lst (nI a)).dep<=150 by omega)),e]
theorem dI{qs:List Nat}(h:qs.length<=2):(nI qs).length<=1000000:=by rw[BK];exact A8 h `d
noncomputable def pr(p:Nat×Nat):Dv:=.tup [.int (p.1:Nat),.int (p.2:Nat)]
section
variable{ar:List Nat->Nat}{G:List Ne}{ls:List Nat}(hG:GOk ar G)(hl:ls.length=G.length)(hn:G.length<=500)
include hG hl hn
theorem kU(q:u < G.length)(hv:v < G.length){ps:List (Nat×Nat)}(e:ps.length<=400000)(har:∀l,ar l<=2):∃ps',HY (.lst (eD G)) (.lst (nI ls)) (.int (u:Nat)) (.int (v:Nat)) (.lst (ps.map pr))=_s (.lst (ps'.map pr))/\(ps'=ps\/(ps'=ps++[(u,v)]/\ls.getD u 0≠ls.getD v 0)):=by
 have h:=gV q;have ev:=gV hv;unfold HY LL;simp only[QC (hl.symm▸q),QC (hl.symm▸hv),A0,NQ];by_cases c:ls.getD u 0=ls.getD v 0;exact⟨ps,by rw[c];simp,.inl rfl⟩;rw[decide_eq_false (show ¬((ls.getD u 0:Nat):Int)=((ls.getD v 0:Nat):Int) by omega)];have t:=hG G[u] (K7 q);have s:=hG G[v] (K7 hv);unfold LM;cases qu:G[u]with
 |inp k=>rw[qu]at h;have o:AC (Ne.inp k).dv (.int 0)=_s CZ:=rfl;have j:Ek CZ (.str [100,111])=_s false:=rfl;exact⟨ps,by simp only[h,o,j,A0,W7,if_true,B4,if_false],.inl rfl⟩
 |fix k=>rw[qu]at h;have o:AC (Ne.fix k).dv (.int 0)=_s Ca:=rfl;have j:Ek Ca (.str [100,111])=_s false:=rfl;exact⟨ps,by simp only[h,o,j,A0,W7,if_true,B4,if_false],.inl rfl⟩
 |act l qs=>
  rw[qu]at h t;have o:AC (Ne.act l qs).dv (.int 0)=_s JM:=rfl;have j:Ek JM (.str [100,111])=_s true:=rfl;have B:AC (Ne.act l qs).dv (.int 2)=_s (tI qs):=rfl;have s1:JB (Ne.act l qs).dv _n (_s 2)=_s (.tup [JM,.str l]):=fw (.act l qs);obtain⟨b,eb,hb⟩:=kr l G[v];simp only[h,ev,o,j,s1,fw,eb,A0,W7,if_true];cases b with|false=>exact⟨ps,by simp,.inl rfl⟩|true=>obtain⟨m,rs,w⟩:=hb rfl;rw[w]at ev s;have A:AC (Ne.act m rs).dv (.int 2)=_s (tI rs):=rfl;have z:=Ez (g:=Hd (.lst (nI ls))) (ns:=ls) (λp e=>by unfold Hd;rw[QC e];rfl) qs λp e=>hl.symm▸t.1 p e;have y:=Ez (g:=Hc (.lst (nI ls))) (ns:=ls) (λp e=>by unfold Hc;rw[QC e];rfl) rs λp e=>hl.symm▸s.1 p e;have l1:qs.length<=2:=(show qs.length=ar l from t.2)▸har l;have l2:rs.length<=2:=(show rs.length=ar m from s.2)▸har m;unfold LO;simp only[if_true,h,ev,B,A,Sw,A0];rw[Ap (dI l1),z];simp only[A0];rw[Ap (dI l2),y];simp only[A0,mP,B4,if_false];by_cases d:(qs.map λp=>ls.getD p 0)=rs.map λp=>ls.getD p 0;refine⟨ps++[(u,v)],?_,.inr ⟨rfl,c⟩⟩;rw[decide_eq_true d];simp only[if_true,Df,Dc (show(ps.map pr).length<=1000000 by rw[C3];omega),A0];simp[pr];exact⟨ps,by rw[decide_eq_false d];simp,.inl rfl⟩
def eY(n:Nat)(ls:List Nat)(ps:List (Nat×Nat)):Prop:=∀p∈ps,p.1 < n/\p.2 < n/\ls.getD p.1 0≠ls.getD p.2 0
theorem Jv(har:∀l,ar l<=2):∃ps,Fc (.lst (eD G)) (.lst (nI ls))=_s (.lst (ps.map pr))/\eY G.length ls ps/\ps.length<=300000:=by
 have m:=IW G.length `o;obtain⟨c,e,ps,rfl,ok,le⟩:=Bj (P:=λi c=>∃ps:List (Nat×Nat),c=.lst (ps.map pr)/\eY G.length ls ps/\ps.length<=500 * i) (Hg (.lst (eD G)) (.lst (nI ls))) G.length (.lst []) ⟨[],rfl,`z,by simp⟩ λu q c ⟨ps,ec,ok,le⟩=>by
  subst ec;have m:=IW u `o;obtain⟨c,e,ps',rfl,o,t⟩:=Bj (P:=λi c=>∃ps':List (Nat×Nat),c=.lst (ps'.map pr)/\eY G.length ls ps'/\ps'.length<=500 * u+i) (Hh (.lst (eD G)) (.lst (nI ls)) (.int (u:Nat))) u (.lst (ps.map pr)) ⟨ps,rfl,ok,le⟩ λv hv c ⟨qs,ec,k,s⟩=>by
   subst ec;obtain⟨j,w,h⟩:=kU hG hl hn q (show v < G.length by omega) (ps:=qs) `o har;refine⟨.lst (j.map pr),by unfold Hh;rw[w];rfl,j,rfl,?_,?_⟩;rcases h with rfl|⟨rfl,h⟩
   exact k;intro p g;rcases C0.mp g with g|g
   exact k p g;rw[C4]at g;subst g;exact⟨q,by show v < _;omega,h⟩;rcases h with rfl|⟨rfl,h⟩
   omega;simp;omega
  exact⟨_,by unfold Hg;simp only[m,A0];rw[e];rfl,ps',rfl,o,by omega⟩
 refine⟨ps,?_,ok,by omega⟩;unfold Fc;simp only[kX,A0,m];rw[e];rfl
end
theorem Xr(g:u < ls.length)(hb:∀x∈ls,x < n):(∀x∈Qw ls u v,x < n)/\HI (λx=>decide (x∈Qw ls u v)) n<=HI (λx=>decide (x∈ls)) n/\(v < ls.length->ls.getD u 0≠ls.getD v 0->HI (λx=>decide (x∈Qw ls u v)) n < HI (λx=>decide (x∈ls)) n):=by
 have m:∀x∈Qw ls u v,x∈ls:=λx c=>by obtain⟨l,hl,rfl⟩:=J8.mp c;split;exact getD_mem g;exact hl
 have m':∀x,decide (x∈Qw ls u v)=_t->decide (x∈ls)=true:=λx c=>decide_eq_true (m x (of_decide_eq_true c));refine⟨λx c=>hb x (m x c),KZ m' n,λhv ne=>NL (v:=ls.getD v 0) m' (decide_eq_true (getD_mem hv)) (decide_eq_false λc=>?_) (hb _ (getD_mem hv))⟩;obtain⟨l,hl,e⟩:=J8.mp c;split at e;exact ne e;rename_i z;exact z e
theorem Yg(len:ls.length=n)(e:u < n)(hv:v < n)(hb:∀x∈ls,x < n):(Qw ls u v).length=n/\(∀x∈Qw ls u v,x < n)/\HI (λx=>decide (x∈Qw ls u v)) n<=HI (λx=>decide (x∈ls)) n/\(ls.getD u 0≠ls.getD v 0->HI (λx=>decide (x∈Qw ls u v)) n < HI (λx=>decide (x∈ls)) n):=by obtain⟨a,b,c⟩:=Xr (v:=v) (len.symm▸e) hb;exact⟨by rw[cc];exact len,a,b,c (len.symm▸hv)⟩
theorem Wn(h:n<=1000000):EE [.int (n:Nat)]=_s (.lst (nI (B2 n))):=by
 have s:R.small (n:Int)=true:=by unfold R.small;simp only[A3,decide_eq_true_eq];omega
 show(if R.small (n:Int)=_t/\(n:Int)<=1000000 then _s (Dv.lst ((B2 (n:Int).toNat).map λk=>Dv.int (k:Nat)))else _n)=_;rw[if_pos ⟨s,by omega⟩];rfl
theorem Dt{w:Nat}(h:w < n):(B2 n).getD w 0=w:=by simp[u5,h]
theorem Rl.start(n:Nat):Rl n (B2 n) (B2 n):=by
 have lo:Ig (B2 n):=λw=>by
  rcases N1 w n with h|h
  rw[Dt h];exact B3 _;rw[D7,K5 (by simpa using h)];exact H8 _
 refine⟨lo,by simp,by simp,λw x hw c=>?_⟩;rw[DK (Dt hw),DK (Dt c),Dt hw,Dt c]
theorem fc(p:Nat×Nat):AC (pr p) (.int 0)=_s (.int (p.1:Nat))/\AC (pr p) (.int 1)=_s (.int (p.2:Nat)):=⟨rfl,rfl⟩
theorem Of{ar:List Nat->Nat}(z:GOk ar G)(j:G.length<=500)(har:∀l,ar l<=2){ps:List (Nat×Nat)}(B:∀p∈ps,p.1 < G.length/\p.2 < G.length):∃ls,Er (.lst (eD G)) (.lst (ps.map pr))=_s (.lst (nI ls))/\ls.length=G.length:=by
 have it:items (.lst (ps.map pr))=_s (ps.map pr):=rfl;obtain⟨I,F,l1,rfl,h,H⟩:=Yb GJ (λc=>∃ls,c=.lst (nI ls)/\ls.length=G.length/\∀x∈ls,x < G.length) (ps.map pr) (.lst (nI (B2 G.length))) ⟨_,rfl,by simp,λx w=>by simpa using w⟩ λx w c ⟨ls,ec,len,b⟩=>by subst ec;obtain⟨p,y,rfl⟩:=J8.mp w;obtain⟨h1,h2⟩:=B p y;have g:=Yg len h1 h2 b;refine⟨.lst (nI (Qw ls p.1 p.2)),?_,_,rfl,g.1,g.2.1⟩;unfold GJ pr;rw[HP];simp only[Ob len j h1 h2,A0]
 obtain⟨e,E,s,_⟩:=Jv z h j har;obtain⟨c,D,ls,q,rfl,len⟩:=Dm EJ (GI (.lst (eD G))) (λm c=>∃(ls:List Nat)(e:List (Nat×Nat)),c=(.lst (nI ls),.lst (e.map pr))/\ls.length=G.length/\(∀x∈ls,x < G.length)/\eY G.length ls e/\HI (λx=>decide (x∈ls)) G.length=m) (λc=>∃ls q,c=(.lst (nI ls),q)/\ls.length=G.length) (λm c ⟨ls,e,ec,len,b,ok,hm⟩=>by
  subst ec;have t:EJ (.lst (nI ls),.lst (e.map pr))=_s (decide (0 < e.length)):=by
   unfold EJ;have:AS (.lst (e.map pr))=_s (.int (e.length:Nat)):=by show _s (Dv.int ((e.map pr).length:Nat))=_;rw[C3]
   simp only[this,A0,FM];congr 1;exact decide_eq_decide.mpr `o
  cases e with
  |nil=>exact .inl ⟨by rw[t];rfl,ls,_,rfl,len⟩
  |cons p e=>
   refine .inr ⟨by rw[t];simp,?_⟩;obtain⟨h1,h2,h3⟩:=ok p B1;have g:=Yg len h1 h2 b;obtain⟨k,C,o,_⟩:=Jv z g.1 j har;have A:AC (.lst ((p::e).map pr)) (.int 0)=_s (pr p):=by show HJ (pr p::e.map pr) ((0:Nat):Int)=_;rw[CM _ 0 `s];rfl
   refine⟨(.lst (nI (Qw ls p.1 p.2)),.lst (k.map pr)),_,?_,by rw[<- hm];exact g.2.2.2 h3,_,_,rfl,g.1,g.2.1,o,rfl⟩;unfold GI;simp only[A,(fc p).1,(fc p).2,A0,Ob len j h1 h2,C]) 1000000 _ (.lst (nI l1),.lst (e.map pr)) (by have:=Tf (λx=>decide (x∈l1)) G.length;omega) ⟨l1,e,rfl,h,H,s,rfl⟩
 refine⟨ls,?_,len⟩;unfold Er;simp only[kX,A0,Wn (show G.length<=1000000 by omega),it];rw[F];simp only[A0,E];rw[D];rfl
structure Al where
 inp:Nat->Nat
 fix:List Nat->Nat
 act:List Nat->List Nat->Nat
noncomputable def vl(A:Al)(vs:List Nat):Ne->Nat
 |.inp k=>A.inp k
 |.fix l=>A.fix l
 |.act l ps=>A.act l (ps.map λp=>vs.getD p 0)
def vs(A:Al)(E:List Ne):List Nat:=E.foldl (λs x=>s++[vl A s x]) []
def fv(A:Al)(E:List Ne):Nat:=(vs A E).getD (E.length-1) 0
theorem FU(A:Al)(E:List Ne)(x:Ne):vs A (E++[x])=vs A E++[vl A (vs A E) x]:=by unfold vs;rw[List.foldl_append];rfl
theorem JQ{P:List α->Prop}(e:P [])(h1:∀l x,P l->P (l++[x]))(l:List α):P l:=by
 rw[<- List.reverse_reverse l];induction l.reverse with|nil=>exact e|cons x l c=>rw[Z2];exact h1 _ _ c
theorem JD(A:Al)(E:List Ne):(vs A E).length=E.length:=JQ (P:=λE=>(vs A E).length=E.length) rfl (λl x h=>by rw[FU,B5,B5,h];rfl) E
theorem Gr(h:i < a.length):(a++b).getD i 0=a.getD i 0:=by simp only[D7,E6 h]
theorem Dy(a:List Nat)(x:Nat):(a++[x]).getD a.length 0=x:=by simp[u5]
theorem JE(A:Al)(G c:List Ne)(h:i < G.length):(vs A (G++c)).getD i 0=(vs A G).getD i 0:=
 JQ (P:=λc=>(vs A (G++c)).getD i 0=(vs A G).getD i 0) (by rw[G7]) (λl x e=>by rw[<- G9,FU,Gr (by rw[JD,B5];omega),e]) c
theorem nB{A:Al}(h:∀p∈x.parts,a.getD p 0=b.getD p 0):vl A a x=vl A b x:=by
 cases x with|inp k=>rfl|fix l=>rfl|act l ps=>exact congrArg (A.act l) (I9 h)
theorem SA{A:Al}(w:Pt 0 G)(e:G[i]?=_s x):(vs A G).getD i 0=vl A (vs A G) x:=by
 obtain⟨hi,rfl⟩:=A4.mp e;have c:=(w i _ e).1;rw[E8]at c;have hs:G=(G.take i++[G[i]])++G.drop (i+1):=by rw[G9,a9,wk,e8]
 have lt:(G.take i).length=i:=by rw[N6];omega
 have h:(vs A G).getD i 0=vl A (vs A (G.take i)) G[i]:=by
  have:=JE A (G.take i++[G[i]]) (G.drop (i+1)) (i:=i) `w;rw[<- hs]at this;rw[this,FU];have l2:(vs A (G.take i)).length=i:=by rw[JD,lt]
  have:=Dy (vs A (G.take i)) (vl A (vs A (G.take i)) G[i]);rw[l2]at this;exact this
 rw[h];refine nB λp g=>?_;have:=JE A (G.take i) (G.drop i) (i:=p) (by rw[lt];exact c p g);rw[e8]at this;exact this.symm
theorem Pt.snoc(w:Pt 0 G)(h:∀p∈x.parts,p < G.length)(l:x.parts.length<=2):Pt 0 (G++[x]):=λi y e=>by
 rw[E8];rcases yZ i G.length with c|c|c
 rw[E6 c]at e;have:=w i y e;rw[E8]at this;exact this;subst c;rw[J7 (B3 _),r9]at e;cases e;exact⟨h,l⟩;rw[K5 `w]at e;cases e
structure WG (G:List Ne):Prop where
 w:Pt 0 G
 nd:G.Nodup
theorem jE{y:Ne}(h:WG G)(c:∀p∈y.parts,p < G.length)(hl:y.parts.length<=2):WG (put G y)/\∃e,put G y=G++e:=by unfold put;split;exact⟨h,[],by rw[G7]⟩;rename_i n;refine⟨⟨h.w.snoc c hl,?_⟩,[y],rfl⟩;rw[vb];refine⟨h.nd,by simp,λa ha b hb=>?_⟩;rw[C4]at hb;subst hb;exact λz=>n (z▸ha)
theorem TB{y:Ne}(h:y∈G):G[G.idxOf y]?=_s y:=by have:=U1.mpr h;rw[A2 this];congr 1;exact List.getElem_idxOf this
theorem LQ:(IX ns x).parts=x.parts.map λp=>ns.getD p 0:=by cases x<;>rfl
theorem ir{A:Al}(h:∀p∈x.parts,a.getD (ns.getD p 0) 0=b.getD p 0):vl A a (IX ns x)=vl A b x:=by
 cases x with|inp k=>rfl|fix l=>rfl|act l ps=>show A.act l ((ps.map λp=>ns.getD p 0).map λp=>a.getD p 0)=A.act l _;rw[V1];exact congrArg (A.act l) (I9 h)
theorem Nq(A:Al):∀(E E0 G:List Ne)(ns:List Nat),ns.length=E0.length->Pt E0.length E->WG G->(∀k∈ns,k < G.length)->(∀i,i < E0.length->(vs A G).getD (ns.getD i 0) 0=(vs A E0).getD i 0) ->
    WG (E.foldl Ej (G,ns)).1/\(∀k∈(E.foldl Ej (G,ns)).2,k < (E.foldl Ej (G,ns)).1.length)/\(∀i,i < E0.length+E.length->(vs A (E.foldl Ej (G,ns)).1).getD ((E.foldl Ej (G,ns)).2.getD i 0) 0=(vs A (E0++E)).getD i 0)/\∃S,(E.foldl Ej (G,ns)).1=G++S
  |[],E0,G,ns,m,_,z,g,hv=>⟨z,g,λi hi=>by rw[G7];exact hv i hi,[],by simp⟩
  |x::E,E0,G,ns,m,D,z,g,hv=>by
    have o:=D 0 x rfl;rw[Nat.add_zero]at o;have e:∀p∈(IX ns x).parts,p < G.length:=λp e=>by rw[LQ]at e;obtain⟨q,P,rfl⟩:=J8.mp e;exact g _ (getD_mem (by rw[m];exact o.1 q P))
    have hl:(IX ns x).parts.length<=2:=by rw[LQ,C3];exact o.2
    obtain⟨C,B,s⟩:=jE z e hl;have Q:(put G (IX ns x)).idxOf (IX ns x) < (put G (IX ns x)).length:=U1.mpr (Ip _ _);have y:=TB (Ip G (IX ns x));have ev:(vs A (put G (IX ns x))).getD ((put G (IX ns x)).idxOf (IX ns x)) 0=vl A (vs A E0) x:=by rw[SA C.w y];refine ir λp e=>?_;have j:=o.1 p e;rw[s,JE A G B (g _ (getD_mem (by rw[m];exact j)))];exact hv p j
    have I:=Nq A E (E0++[x]) (put G (IX ns x)) (ns++[(put G (IX ns x)).idxOf (IX ns x)]) (by simp[m]) (by rw[B5,D6];exact D.tail) C (λk t=>by
      rcases C0.mp t with h|h
      have:=g k h;rw[s,B5];omega;rw[C4]at h;subst h;exact Q) λi hi=>by
      rw[B5,D6]at hi;rcases N1 i E0.length with c|c
      rw[Gr (show i < ns.length by omega),FU,Gr (show i < (vs A E0).length by rw[JD];exact c),s,JE A G B (g _ (getD_mem `o))];exact hv i c;have:i=E0.length:=by omega
      subst this;have H:=Dy ns ((put G (IX ns x)).idxOf (IX ns x));rw[m]at H;have F:=Dy (vs A E0) (vl A (vs A E0) x);rw[JD]at F;rw[H,FU,F,ev]
    rw[T4];obtain⟨O,M,K,R,J⟩:=I;refine⟨O,M,λi hi=>?_,B++R,?_⟩;have:=K i (by rw[B5,D6];rw[D4]at hi;omega);rw[G9,a9]at this;exact this;show(E.foldl Ej (put G (IX ns x),_)).1=_;rw[<- G9,<- s];exact J
theorem Nu(A:Al):∀(Es e:List (List Ne))(G:List Ne)(ts:List Nat),(∀E∈Es,aL E)->WG G->(∀t∈ts,t < G.length)->ts.length=e.length->(∀(i:Nat) D,e[i]?=_s D->(vs A G).getD (ts.getD i 0) 0=fv A D) ->
    WG (Es.foldl JO (G,ts)).1/\∀(i:Nat) D,(e++Es)[i]?=_s D->(vs A (Es.foldl JO (G,ts)).1).getD ((Es.foldl JO (G,ts)).2.getD i 0) 0=fv A D
  |[],e,G,ts,_,g,_,_,hv=>⟨g,λi D h=>hv i D (by rw[G7]at h;exact h)⟩
  |E::Es,e,G,ts,m,g,k,hl,hv=>by
    have f:=m E B1;obtain⟨B,y,s,C,q⟩:=Nq A E [] G [] rfl f.1 g `z (λi z=>by cases z);have l2:=(Em E (G,[])).2;simp only[O4,E8]at l2 s;have le:E.length-1 < E.length:=by have:=f.2.1;omega
    have hm:=y _ (getD_mem (ts:=(E.foldl Ej (G,[])).2) (h:=E.length-1) (by rw[l2];exact le));have p:=s (E.length-1) le;rw[n8]at p;have j:=Nu A Es (e++[E]) (E.foldl Ej (G,[])).1 (ts++[(E.foldl Ej (G,[])).2.getD (E.length-1) 0]) (λF w=>m F (A9 _ w)) B (λt h=>by
      rcases C0.mp h with h|h
      have:=k t h;rw[q,B5];omega;rw[C4]at h;subst h;exact hm) (by simp[hl]) λi D h=>by
      rcases N1 i e.length with c|c
      rw[E6 c]at h;rw[Gr `o,q,JE A G C (k _ (getD_mem `o))];exact hv i D h;have:i=e.length:=by
        rcases N1 i (e.length+1)with z|z
        omega;rw[K5 `w]at h;cases h
      subst this;rw[J7 (B3 _),r9]at h;cases h;have o:=Dy ts ((E.foldl Ej (G,[])).2.getD (E.length-1) 0);rw[hl]at o;rw[o];exact p
    rw[G9,a9]at j;exact j
theorem Gp(A:Al){Es:List (List Ne)}(h:∀E∈Es,aL E):WG (Qp Es)/\∀(i:Nat) D,Es[i]?=_s D->(vs A (Qp Es)).getD ((Nl Es).getD i 0) 0=fv A D:=
 Nu A Es [] [] [] h ⟨λi x h=>by simp at h,List.nodup_nil⟩ `z rfl λi D h=>by simp at h
def Vq(gs:List (List Ne×List Ne))(q:List Ne×List Ne):Prop:=∀A:Al,(∀p∈gs,fv A p.1=fv A p.2)->fv A q.1=fv A q.2
theorem TM:∀{gs:List (List Ne×List Ne)}{k:Nat}{p:List Ne×List Ne},gs[k]?=_s p->(Ax gs)[2 * k]?=_s p.1/\(Ax gs)[2 * k+1]?=_s p.2
 |[],k,p,h=>by simp at h
 |g::gs,0,p,h=>by cases h;exact⟨rfl,rfl⟩
 |g::gs,k+1,p,h=>by have c:=TM (gs:=gs) (k:=k) (by simpa using h);have e:Ax (g::gs)=g.1::g.2::Ax gs:=rfl;rw[e,show 2 * (k+1)=2 * k+2 by omega,show 2 * k+2+1=2 * k+1+2 by omega];exact c
def MJ(V:Nat->Nat)(n:Nat)(ps:List Nat):Prop:=∀w,w < n->V (rt ps w)=V w
def VC(G:List Ne)(V:Nat->Nat):Prop:=∀(u v:Nat)(l:List Nat)(qs rs:List Nat),G[u]?=_s (.act l qs)->G[v]?=_s (.act l rs)->qs.map V=rs.map V->V u=V v
def nrt(ps:List Nat)(n:Nat):Nat:=HI (λw=>decide (rt ps w=w)) n
variable{ps':List Nat}
theorem JS.nrt(j:JS ps ps')(n:Nat):nrt ps' n=nrt ps n:=by unfold My.nrt;congr 1;funext w;rw[j.rt]
theorem JS.rsv{V:Nat->Nat}(j:JS ps ps')(h:MJ V n ps):MJ V n ps':=λw hw=>by rw[j.rt];exact h w hw
abbrev sC(ps ps':List Nat)(u v:Nat):Prop:=∀w,rt ps' w=if rt ps w=max (rt ps u) (rt ps v)then min (rt ps u) (rt ps v)else rt ps w
theorem Oe(j:u < n)(hv:v < n)(r:sC ps ps' u v){V:Nat->Nat}(h:MJ V n ps)(e:V u=V v):MJ V n ps':=λw g=>by
 rw[r];have h1:=h u j;have h2:=h v hv;have k:V (min (rt ps u) (rt ps v))=V (max (rt ps u) (rt ps v)):=by
  rcases X1 (rt ps u) (rt ps v)with c|c
  rw[R1 c,X3 c,h1,h2,e];rw[U4 c,Y0 c,h1,h2,e]
 split;rename_i c;rw[k,<- c];exact h w g;exact h w g
theorem cf(r:sC ps ps' u v):rt ps' u=rt ps' v:=by
 rw[r,r];rcases X1 (rt ps u) (rt ps v)with c|c
 ·rw[R1 c,X3 c,if_pos rfl];split<;>rfl
 ·rw[U4 c,Y0 c,if_pos rfl];split<;>rfl
theorem Xz(lo:Ig ps)(j:u < n)(hv:v < n)(r:sC ps ps' u v)(ne:rt ps u≠rt ps v):nrt ps' n < nrt ps n:=by
 have g:=Gg lo (u+1) u `o;have rv:=Gg lo (v+1) v `o;have h:rt ps (max (rt ps u) (rt ps v))=max (rt ps u) (rt ps v):=by
  rcases X1 (rt ps u) (rt ps v)with c|c
  rw[X3 c];exact DK rv.1;rw[Y0 c];exact DK g.1
 have hm:rt ps (min (rt ps u) (rt ps v))=min (rt ps u) (rt ps v):=by
  rcases X1 (rt ps u) (rt ps v)with c|c
  rw[R1 c];exact DK g.1;rw[U4 c];exact DK rv.1
 refine NL (v:=max (rt ps u) (rt ps v)) (λw e=>?_) (decide_eq_true h) (decide_eq_false ?_) `o;have e:=of_decide_eq_true e;refine decide_eq_true ?_;rw[r]at e;split at e;rw[<- e];exact hm;exact e;rw[r,if_pos h];omega
theorem Ld(r:sC ps ps' u v){w x:Nat}(e:rt ps w=rt ps x):rt ps' w=rt ps' x:=by rw[r,r,e]
noncomputable abbrev Vr:=(List Nat×List Nat)×Nat
def YF(k:List Nat×List Nat):NK AO:=[.inl (.inr (tx k.1)),.inr (kI k.2)]
theorem Sr{a b:List Nat×List Nat}(h:YF a=YF b):a=b:=by obtain⟨j,g⟩:=a;obtain⟨e,c⟩:=b;simp only[YF,L7,V8,l8,and_true]at h;rw[GV h.1,RE h.2]
theorem cu(l rs:List Nat):Gq (.tup [.str l,tI rs])=_s (YF (l,rs)):=by have h:YI (tI rs)=_s (kI rs):=Ht rs;have k:Av (tI rs)=none:=rfl;show FD [.str l,tI rs]=_;simp only[FD,Av,k,h,F0,wy,Z6,Z7,A0];rfl
def fl(K:List Vr)(k:List Nat×List Nat):Option Nat:=match K with
 |[]=>_n
 |e::K=>if e.1=k then _s e.2 else fl K k
theorem Yd:∀{K:List Vr}{k:List Nat×List Nat}{u:Nat},fl K k=_s u->(k,u)∈K
 |e::K,k,u,h=>by unfold fl at h;split at h;rename_i c;cases h;rw[<- c];exact B1;exact A9 _ (Yd h)
theorem RP:∀(K:List Vr)(e:Vr)(k:List Nat×List Nat),fl (K++[e]) k=(fl K k).or (if e.1=k then _s e.2 else _n)
 |[],e,k=>rfl
 |d::K,e,k=>by show(if d.1=k then _s d.2 else fl (K++[e]) k)=_;rw[RP K e k];show _=(if d.1=k then _s d.2 else fl K k).or _;split<;>rfl
def fd(K:List Vr):Dv:=match K with
 |[]=>.dct [] []
 |K=>.dnt (K.map λe=>YF e.1) (nI (K.map (·.2)))
variable{K:List Vr}
theorem Yf(h:K≠[]):fd K=.dnt (K.map λe=>YF e.1) (nI (K.map (·.2))):=by
 cases K with|nil=>exact(h rfl).elim|cons _ _=>rfl
theorem Tc(k:List Nat×List Nat):∀K:List Vr,AX (YF k) (K.map λe=>YF e.1) (nI (K.map (·.2)))=(fl K k).map λu=>.int (u:Nat)
 |[]=>rfl
 |e::K=>by have g:=Tc k K;simp only[nI,B7,AX,fl]at g ⊢;by_cases c:e.1=k;rw[if_pos c,if_pos (by rw[c])];rfl;rw[if_neg c,if_neg λz=>c (Sr z),g]
theorem Zx(k:List Nat×List Nat):∀K:List Vr,((K.map λe=>YF e.1).any λj=>decide (j=YF k))=(fl K k).isSome
 |[]=>rfl
 |e::K=>by rw[B7,O9,Zx k K];show _=(if e.1=k then _s e.2 else fl K k).isSome;by_cases c:e.1=k;rw[if_pos c,decide_eq_true (by rw[c])];rfl;rw[if_neg c,decide_eq_false λz=>c (Sr z),zq]
def pK(K:List Vr)(k:List Nat×List Nat)(v:Nat):List Vr:=if(fl K k).isSome=_t then K else K++[(k,v)]
theorem bH{rs:List Nat}(hl:K.length<=1000000):GB (fd K) [.tup [.str l,tI rs],.int (v:Nat)]=_s (.int ((fl K (l,rs)).getD v:Nat),fd (pK K (l,rs) v)):=by
 have k:=cu l rs;have k0:Av (.tup [.str l,tI rs])=none:=rfl;by_cases h:K=[];subst h;simp only[fd,GB,k,k0,wN,Z7,j7,if_true,A0];rfl;rw[Yf h];have h2:pK K (l,rs) v≠[]:=by unfold pK;split<;>simp[h]
 rw[Yf h2];have c:(K.map λe=>YF e.1).length<=1000000:=by rw[C3];exact hl
 simp only[GB,k,A0,mi,if_pos c,Tc];cases e:fl K (l,rs)with
 |some u=>
  have:pK K (l,rs) v=K:=by unfold pK;rw[e];rfl
  rw[this];rfl
 |none=>
  have a:=Zx (l,rs) K;rw[e]at a;have:pK K (l,rs) v=K++[((l,rs),v)]:=by unfold pK;rw[e];rfl
  rw[this];simp only[wy,Ie,Ic,a,xm,B4,if_false,Option.getD_none,M4,B7,N0,GN];rfl
theorem Jc{n:Nat}:∀(qs:List Nat){ps:List Nat},Ig ps->ps.length=n->n<=1000->(∀q∈qs,q < n)->∃ps',Ce CP (nI qs) (jb ps)=_s (nI (qs.map (rt ps)),jb ps')/\JS ps ps'
 |[],ps,lo,_,_,_=>⟨ps,rfl,JS.refl lo⟩
 |q::qs,ps,lo,len,m,h=>by
  obtain⟨p1,s,c⟩:=Cr lo (u:=q) (by rw[len];exact h q B1) `o;obtain⟨g,e,j⟩:=Jc qs c.low (c.len.trans len) m λx k=>h x (A9 _ k);refine⟨g,?_,c.trans j⟩;have p:CP (.int (q:Nat)) (jb ps)=_s (.int (rt ps q:Nat),jb p1):=by unfold CP;simp only[(FE ps).1,cond_true,s,A0]
  have o:(qs.map (rt p1))=qs.map (rt ps):=I9 λx _=>c.rt x;rw[o]at e;show Ce CP (Dv.int (q:Nat)::nI qs) (jb ps)=_;simp only[Ce,p,e,A0];rfl
theorem Gu{γ:Type}(g:Dv->γ->Option γ)(P:Nat->γ->Prop):∀(xs:List Dv)(o:Nat)(c:γ),P o c->(∀i x,xs[i]?=_s x->∀c,P (o+i) c->∃j,g x c=_s j/\P (o+i+1) j)->∃j,BO g xs c=_s j/\P (o+xs.length) j
 |[],o,c,e,_=>⟨c,rfl,e⟩
 |x::xs,o,c,e,h=>by
  obtain⟨t,q,p1⟩:=h 0 x rfl c e;obtain⟨s,p,k⟩:=Gu g P xs (o+1) t p1 λi y m c e=>by have:=h (i+1) y m c;rw[show o+(i+1)=o+1+i by omega]at this;exact this e
  refine⟨s,by simp only[BO,q,p,A0],?_⟩;rw[D4,show o+(xs.length+1)=o+1+xs.length by omega];exact k
def rH(G:List Ne)(ps:List Nat):Prop:=∀(u v:Nat)(l:List Nat)(qs rs:List Nat),G[u]?=_s (.act l qs)->G[v]?=_s (.act l rs)->qs.map (rt ps)=rs.map (rt ps)->rt ps u=rt ps v
structure LI (G:List Ne) (p0:List Nat) (i:Nat) (ps:List Nat) (rows:List Dv) (K:List Vr):Prop where
 lo:Ig ps
 len:ps.length=G.length
 mono:∀w x,rt p0 w=rt p0 x->rt ps w=rt ps x
 snd:∀V,VC G V->MJ V G.length p0->MJ V G.length ps
 ks:∀e∈K,e.2 < G.length/\∃qs,G[e.2]?=_s (.act e.1.1 qs)/\∀V,VC G V->MJ V G.length p0->e.1.2.map V=qs.map V
 no:rows=[]->(∀w,rt ps w=rt p0 w)/\∀(u:Nat)(l qs:List Nat),u < i->G[u]?=_s (.act l qs)->∃u0,fl K (l,qs.map (rt p0))=_s u0/\rt p0 u0=rt p0 u
 yes:rows≠[]->nrt ps G.length < nrt p0 G.length
 le:nrt ps G.length<=nrt p0 G.length
 rl:rows.length<=i
 kl:K.length<=i
theorem LI.js{p0:List Nat}{rows:List Dv}(h:LI G p0 i ps rows K)(j:JS ps ps'):LI G p0 i ps' rows K:=
 ⟨j.low,j.len.trans h.len,λw x e=>by rw[j.rt,j.rt];exact h.mono w x e,λV a b=>j.rsv (h.snd V a b),h.ks,λe=>⟨λw=>(j.rt w).trans ((h.no e).1 w),(h.no e).2⟩,λe=>by rw[j.nrt];exact h.yes e,by rw[j.nrt];exact h.le,h.rl,h.kl⟩
theorem Sn{V:Nat->Nat}{qs:List Nat}(h:MJ V n ps)(e:∀q∈qs,q < n):(qs.map (rt ps)).map V=qs.map V:=by rw[V1];exact I9 λq c=>h q (e q c)
theorem sg(K:List Vr)(o:Option α):DR "dict" (fd K) o=o:=by cases K<;>rfl
section
variable{G:List Ne}{p0:List Nat}(hw:Pt 0 G)(hn:G.length<=500)
include hw hn
theorem pJ(m:G[i]?=_s x){rows:List Dv}(h:LI G p0 i ps rows K):∃ps' t Z,CQ (.tup [.int (i:Nat),x.dv]) (jb ps,.lst rows,fd K)=_s (jb ps',.lst t,fd Z)/\LI G p0 (i+1) ps' t Z:=by
 obtain⟨hi,ex⟩:=A4.mp m;have hi':i < 500:=by omega
 have zBh:(∀l qs,x≠.act l qs)->LI G p0 (i+1) ps rows K:=λna=>⟨h.lo,h.len,h.mono,h.snd,h.ks,λe=>⟨(h.no e).1,λu l qs hu p=>by
  rcases N1 u i with c|c
  exact(h.no e).2 u l qs c p;have:u=i:=by omega
  subst this;rw[m]at p;exact absurd (C5 p) (na l qs)⟩,h.yes,h.le,by have:=h.rl;omega,by have:=h.kl;omega⟩
 unfold CQ;rw[HP];unfold II;cases x with
 |inp k=>have F:AC (Ne.inp k).dv (.int 0)=_s CZ:=rfl;have E:Ek CZ (.str [100,111])=_s false:=rfl;exact⟨ps,rows,K,by simp only[F,E,A0,B4,if_false],zBh λl qs z=>by cases z⟩
 |fix k=>have F:AC (Ne.fix k).dv (.int 0)=_s Ca:=rfl;have E:Ek Ca (.str [100,111])=_s false:=rfl;exact⟨ps,rows,K,by simp only[F,E,A0,B4,if_false],zBh λl qs z=>by cases z⟩
 |act l qs=>
  have F:AC (Ne.act l qs).dv (.int 0)=_s JM:=rfl;have E:Ek JM (.str [100,111])=_s true:=rfl;have e2:AC (Ne.act l qs).dv (.int 1)=_s (.str l):=rfl;have e3:AC (Ne.act l qs).dv (.int 2)=_s (tI qs):=rfl;have J:=hw i _ m;rw[E8]at J;have A:∀q∈qs,q < G.length:=λq A=>z8 (J.1 q A) hi;have l2:qs.length<=2:=J.2;obtain⟨p1,e4,W⟩:=Jc qs h.lo h.len `o A;have h1:=h.js W;have er:qs.map (rt p1)=qs.map (rt ps):=I9 λq _=>W.rt q;have tp:AY (.lst (nI (qs.map (rt ps))))=_s (tI (qs.map (rt ps))):=rfl;have e5:=bH (K:=K) (l:=l) (rs:=qs.map (rt ps)) (v:=i) (by have:=h.kl;omega);simp only[F,E,e2,e3,A0,if_true,sg,Sw];rw[Ap (dI l2),e4];simp only[A0,tp,e5]
  -- zFV zGf first with this y
  have y:∃u0 g,(fl K (l,qs.map (rt ps))).getD i=u0/\u0 < G.length/\G[u0]?=_s (.act l g)/\(∀V,VC G V->MJ V G.length p0->V u0=V i)/\(fl K (l,qs.map (rt ps))=_n->u0=i):=by
   cases ef:fl K (l,qs.map (rt ps))with|none=>exact⟨i,qs,rfl,hi,m,λ_ _ _=>rfl,λ_=>rfl⟩|some u0=>obtain⟨a1,g,Y,a3⟩:=h.ks _ (Yd ef);refine⟨u0,g,rfl,a1,Y,λV c r=>?_,λz=>by cases z⟩;have b:=a3 V c r;simp only at b;rw[Sn (h.snd V c r) A]at b;exact c u0 i l g qs Y m b.symm
  obtain⟨u0,g,p,j,gu,M,nn⟩:=y;rw[p];have C:∀e∈pK K (l,qs.map (rt ps)) i,e.2 < G.length/\∃qs,G[e.2]?=_s (.act e.1.1 qs)/\∀V,VC G V->MJ V G.length p0->e.1.2.map V=qs.map V:=λe he=>by
   unfold pK at he;split at he;exact h.ks e he;rcases C0.mp he with he|he
   exact h.ks e he;rw[C4]at he;subst he;exact⟨hi,qs,m,λV c r=>Sn (h.snd V c r) A⟩
  have B:(pK K (l,qs.map (rt ps)) i).length<=i+1:=by have:=h.kl;unfold pK;split<;>simp<;>omega
  have R:∀k u,fl K k=_s u->fl (pK K (l,qs.map (rt ps)) i) k=_s u:=λk u e=>by unfold pK;split;exact e;rw[RP,e];rfl
  have S:fl (pK K (l,qs.map (rt ps)) i) (l,qs.map (rt ps))=_s u0:=by
   unfold pK;cases ef:fl K (l,qs.map (rt ps))with|some u=>rw[ef]at p;rw[if_pos (show(_s u).isSome=_t from rfl),ef];exact congrArg _s p|none=>rw[if_neg `s,RP,ef,if_pos rfl,nn ef];rfl
  obtain⟨H,e6,U⟩:=IP h1.lo (u:=u0) (v:=i) (by rw[h1.len];exact j) (by rw[h1.len];exact hi) (by rw[h1.len];omega);have h2:=h1.js U;have D:∀w,rt p1 w=rt ps w:=W.rt;unfold IJ;simp only[(FE p1).2.1,cond_true,e6,A0,QQ];by_cases c:rt p1 u0=rt p1 i;refine⟨H,rows,pK K (l,qs.map (rt ps)) i,by rw[decide_eq_true c];rfl,h2.lo,h2.len,h2.mono,h2.snd,C,λe=>⟨(h2.no e).1,λu l' Q hu o=>?_⟩,h2.yes,h2.le,by have:=h2.rl;omega,B⟩;rcases N1 u i with X|X
  obtain⟨v0,f1,f2⟩:=(h2.no e).2 u l' Q X o;exact⟨v0,R _ _ f1,f2⟩;have:u=i:=by omega
  subst this;rw[m]at o;cases o;have O:=(h.no e).1;have em:qs.map (rt p0)=qs.map (rt ps):=I9 λq _=>(O q).symm;refine⟨u0,by rw[em];exact S,?_⟩;rw[<- O,<- O,<- D,<- D];exact c;obtain⟨p3,e7,T,I,P⟩:=Lc h2.lo (u:=u0) (v:=i) (by rw[h2.len];exact j) (by rw[h2.len];exact hi) (by rw[h2.len];omega);have c2:rt H u0≠rt H i:=by rw[U.rt,U.rt];exact c
  have s:=Xz h2.lo j hi P c2;refine⟨p3,rows++[.tup [.str [108,105,107,101],.int (u0:Nat),.int (i:Nat)]],pK K (l,qs.map (rt ps)) i,?_,T,I.trans h2.len,λw x e=>Ld P (h2.mono w x e),λV a b=>Oe j hi P (h2.snd V a b) (M V a b),C,λe=>by simp at e,λ_=>C6 s h2.le,R8 (C6 s h2.le),by have:=h2.rl;simp;omega,B⟩;rw[decide_eq_false c];simp only[W7,if_true,Df,Dc (show rows.length<=1000000 by have:=h.rl;omega),A0,(FE H).2.2,cond_true,e7]
theorem Lf(lo:Ig p0)(len:p0.length=G.length):∃ps rows,Cq (.tup (eD G)) (jb p0)=_s (.lst rows,jb ps)/\Ig ps/\ps.length=G.length/\(∀w x,rt p0 w=rt p0 x->rt ps w=rt ps x)/\(∀V,VC G V->MJ V G.length p0->MJ V G.length ps)/\(rows=[]->rH G ps)/\(rows≠[]->nrt ps G.length < nrt p0 G.length)/\rows.length<=500:=by
  have en:SU [.tup (eD G)]=_s (Eh 0 (eD G)):=rfl;obtain⟨c,e,ps,rows,K,rfl,h⟩:=Gu CQ (λi c=>∃ps rows K,c=(jb ps,Dv.lst rows,fd K)/\LI G p0 i ps rows K) (Eh 0 (eD G)) 0 (jb p0,.lst [],fd []) ⟨p0,[],[],rfl,lo,len,λ_ _ e=>e,λ_ _ h=>h,`z,λ_=>⟨λ_=>rfl,λ_ _ _ z=>by omega⟩,λz=>(z rfl).elim,B3 _,B3 _,B3 _⟩ λi x A c ⟨ps,rows,K,ec,h⟩=>by
    subst ec;obtain⟨d,hd,rfl⟩:=Hy (eD G) 0 i x A;obtain⟨y,k,rfl⟩:∃y,G[i]?=_s y/\d=y.dv:=by unfold eD at hd;rw[D0]at hd;obtain⟨y,k,rfl⟩:=G3.mp hd;exact⟨y,k,rfl⟩
    rw[E8]at h ⊢;obtain⟨ps',j,F,o,h'⟩:=pJ hw hn k h;exact⟨_,o,ps',j,F,rfl,h'⟩
  rw[Hx,Ef,E8]at h;refine⟨ps,rows,?_,h.lo,h.len,h.mono,h.snd,λer u v l qs rs s p E=>?_,h.yes,A8 h.rl hn⟩;unfold Cq;simp only[en,A0];have o:BO CQ (Eh 0 (eD G)) (jb p0,.lst [],.dct [] [])=_:=e;rw[o];rfl;obtain⟨g,all⟩:=h.no er;have B:=(A4.mp s).1;have hv:=(A4.mp p).1;have m:qs.map (rt p0)=rs.map (rt p0):=by rw[I9 λq _=>(g q).symm,E];exact I9 λq _=>g q
  obtain⟨a,t,f2⟩:=all u l qs B s;obtain⟨b,D,C⟩:=all v l rs hv p;rw[m,D]at t;cases t;rw[g,g,<- f2,<- C]
end
theorem RK{g:Nat}{p0:List Nat}(Q:G.length<=500)(S:g<=20)(H:ts.length=2 * (g+1))(hT:∀t∈ts,t < G.length)(lo:Ig p0)(len:p0.length=G.length):∃ps rows,DI (.tup (nI ts)) (jb p0)=_s (.lst rows,jb ps)/\Ig ps/\ps.length=G.length/\(∀V,(∀k,k < g->V (ts.getD (2 * k) 0)=V (ts.getD (2 * k+1) 0))->MJ V G.length p0->MJ V G.length ps)/\(∀k,k < g->rt ps (ts.getD (2 * k) 0)=rt ps (ts.getD (2 * k+1) 0))/\rows.length=g:=by
 have F:AS (.tup (nI ts))=_s (.int ((2 * (g+1):Nat))):=by rw[<- H];exact iK ts
 have M:Pq (.int ((2 * (g+1):Nat))) (.int 2)=_s (.int ((g+1:Nat))):=by
  have z:((2 * (g+1):Nat):Int) / 2=((g+1:Nat):Int):=by omega
  simp only[Pq,Cg,show(0:Int) < 2 by decide,decide_true,if_true,z];rfl
 have s1:Rp (.int ((g+1:Nat))) (.int 1)=_s (.int (g:Nat)):=by show _s (Dv.int (((g+1:Nat):Int)-1))=_;congr 2;omega
 have C:=IW g `o;obtain⟨c,e,ps,rows,rfl,w,o,snd,jn,rl⟩:=Bj (P:=λi c=>∃ps rows,c=(jb ps,Dv.lst rows)/\Ig ps/\ps.length=G.length/\(∀V,(∀k,k < g->V (ts.getD (2 * k) 0)=V (ts.getD (2 * k+1) 0))->MJ V G.length p0->MJ V G.length ps)/\(∀k,k < i->rt ps (ts.getD (2 * k) 0)=rt ps (ts.getD (2 * k+1) 0))/\rows.length=i) (EY (.tup (nI ts))) g (jb p0,.lst []) ⟨p0,[],rfl,lo,len,λ_ _ h=>h,(λ_ z=>by omega),rfl⟩ λk I c ⟨ps,rows,ec,lo,len,snd,jn,rl⟩=>by
  subst ec;have B:2 * k < ts.length:=by omega
  have A:2 * k+1 < ts.length:=by omega
  have h1:=hT _ (getD_mem B);have h2:=hT _ (getD_mem A);obtain⟨y,J,s,p,q⟩:=Lc lo (u:=ts.getD (2 * k) 0) (v:=ts.getD (2 * k+1) 0) (by rw[len];exact h1) (by rw[len];exact h2) (by rw[len];omega);have m:Cp (.int 2) (.int (k:Nat))=_s (.int ((2 * k:Nat))):=rfl;have O:AV (.int ((2 * k:Nat))) (.int 1)=_s (.int ((2 * k+1:Nat))):=rfl;have E:AC (.tup (nI ts)) (.int ((2 * k:Nat)))=_:=WH B;have D:AC (.tup (nI ts)) (.int ((2 * k+1:Nat)))=_:=WH A;refine⟨(jb y,.lst (rows++[.tup [.str [103,105,118,101,110],.int (k:Nat)]])),?_,y,_,rfl,s,p.trans len,λV a b=>Oe h1 h2 q (snd V a b) (a k I),λj R=>?_,by simp[rl]⟩;unfold EY;simp only[Df,Dc (show rows.length<=1000000 by omega),A0,(FE ps).2.2,cond_true,m,O,E,D,J];rcases N1 j k with c|c
  exact Ld q (jn j c);have:j=k:=by omega
  subst this;exact cf q
 refine⟨ps,rows,?_,w,o,snd,jn,rl⟩;unfold DI;simp only[F,M,s1,C,A0];rw[e];rfl
noncomputable def kin(ks:List Nat)(r:Nat):List Nat:=if r∈ks then ks else ks++[r]
theorem cm(ks:List Nat)(r:Nat):r∈kin ks r:=by unfold kin;split<;>simp[*]
theorem ck{x:Nat}(h:x∈ks):x∈kin ks r:=by unfold kin;split<;>simp[*]
theorem cq{x:Nat}(h:x∈ks):(kin ks r).idxOf x=ks.idxOf x:=by unfold kin;split;rfl;rw[vf,if_pos h]
theorem iO(ks:List Nat):AS (BB ks)=_s (.int (ks.length:Nat)):=by show _s (Dv.int ((kI ks).length:Nat))=_;simp[kI]
theorem ax(hl:ks.length<=1000000):GB (BB ks) [.int (r:Nat),.int (ks.length:Nat)]=_s (.int ((kin ks r).idxOf r:Nat),BB (kin ks r)):=by
 have l:(kI ks).length<=1000000:=by simpa[kI]using hl
 have m:=KR r ks (nI (B2 ks.length)) (by rw[BK];simp);unfold BB;simp only[GB,Av,A0,mi,if_pos l];by_cases h:r∈ks;have e:=KS r ks 0 h;simp only[E8]at e;have c:(B2 ks.length).map (λx=>x)=B2 ks.length:=yY _;rw[c]at e;rw[e];simp only[kin,if_pos h,Z6];rw[decide_eq_false h]at m;cases ed:AX (.inl ((r:Nat):Int)) (kI ks) (nI (B2 ks.length))with
 |some d=>rw[ed]at m;cases m
 |none=>
  have a:(kI ks).any (λj=>decide (j=Sum.inl ((r:Nat):Int)))=false:=by rw[YK];simp[h]
  have k:kI ks++[Sum.inl ((r:Nat):Int)]=kI (ks++[r]):=by simp[kI]
  have c:nI (B2 ks.length)++[Dv.int (ks.length:Nat)]=nI (B2 (ks++[r]).length):=by rw[B5,D6,T5,GN];rfl
  have g:(ks++[r]).idxOf r=ks.length:=by rw[vf,if_neg h];simp
  simp only[Ie,Ic,a,B4,if_false,kin,if_neg h,Z6,k,c,g]
def dZ(ks:List Nat)(ps:List Nat)(n:Nat):List Nat:=(B2 n).map λu=>ks.idxOf (rt ps u)
theorem NG(ks ps:List Nat)(n:Nat):(dZ ks ps n).length=n:=by simp[dZ]
theorem pP(ks:List Nat)(o:Option α):DR "dict" (BB ks) o=o:=rfl
theorem Nh{p0:List Nat}(s:n<=500)(lo:Ig p0)(len:p0.length=n):∃ks ps,Bb (jb p0) (.int (n:Nat))=_s (.lst (nI (dZ ks p0 n)),jb ps)/\(∀u,u < n->rt p0 u∈ks)/\ks.length<=n:=by
 have k:=IW n `o;obtain⟨c,e,ps,ks,rfl,j,hm,hl⟩:=Bj (P:=λi c=>∃ps ks,c=(jb ps,Dv.lst (nI (dZ ks p0 i)),BB ks)/\JS p0 ps/\(∀u,u < i->rt p0 u∈ks)/\ks.length<=i) Cb n (jb p0,.lst [],.dct [] []) ⟨p0,[],rfl,JS.refl lo,(λ_ z=>by omega),B3 _⟩ λu o c ⟨ps,ks,ec,j,hm,hl⟩=>by
  subst ec;obtain⟨p1,h,m⟩:=Cr j.low (u:=u) (by rw[j.len,len];exact o) (by rw[j.len,len];omega);rw[j.rt]at h;have q:=ax (ks:=ks) (r:=rt p0 u) `o;have p:nI (dZ ks p0 u)++[Dv.int ((kin ks (rt p0 u)).idxOf (rt p0 u):Nat)]=nI (dZ (kin ks (rt p0 u)) p0 (u+1)):=by unfold dZ;rw[T5,M4,GN];congr 1;rw[I9 λw g=>cq (hm w (P8.mp g))]
  refine⟨_,?_,p1,kin ks (rt p0 u),rfl,j.trans m,λw g=>?_,by unfold kin;split;omega;rw[B5,D6];omega⟩
  unfold Cb;simp only[Df,pP,(FE ps).1,cond_true,h,iO,A0,q,Dc (show(nI (dZ ks p0 u)).length<=1000000 by rw[BK,NG];omega),p];rcases N1 w u with c|c
  exact ck (hm w c);rw[show w=u by omega];exact cm _ _
 refine⟨ks,ps,?_,hm,hl⟩;unfold Bb;simp only[k,A0];rw[e];rfl
theorem Ng:∀ts:List Nat,El (nI ts)=_s (ts.map fun(t:Nat)=>(t:Int))
 |[]=>rfl
 |t::ts=>by have c:=Ng ts;simp only[nI]at c;simp only[nI,B7,El,c,A0,F0]
theorem kT(h:0 < ts.length):∃M:Nat,MI (.lst (nI ts))=_s (.int (M:Nat))/\(∀t∈ts,t<=M)/\M∈ts:=by
 cases ts with
 |nil=>cases h
 |cons t ts=>
  obtain⟨g,c⟩:=_root_.Q.zBa (((t:Nat):Int)::ts.map fun(t:Nat)=>(t:Int)) `s;have e:MI (.lst (nI (t::ts)))=_s (.int (_root_.Q.mxI (((t:Nat):Int)::ts.map fun(t:Nat)=>(t:Int)))):=by have v:=Ng (t::ts);show(match El (nI (t::ts))with|some (n::ns)=>_s (Dv.int (_root_.Q.mxI (n::ns)))|_=>_n)=_;rw[v];rfl
  rw[<- B7 (f:=fun(t:Nat)=>(t:Int))]at g c;obtain⟨M,m,j⟩:=J8.mp g;refine⟨M,by rw[e];congr 2;exact j.symm,λx k=>?_,m⟩;have:=c _ (List.mem_map_of_mem k);rw[<- j]at this;omega
noncomputable def OE(N:Nat)(es:List (Nat×Nat)):List Nat:=es.foldl (λr e=>r.set e.1 e.2) (B6 N 0)
theorem OD(o:N<=1000){es:List (Nat×Nat)}(h:∀e∈es,e.1 < N):Do (.lst (es.map pr)) (.int (N:Nat))=_s (tI (OE N es)):=by
 have m:Cp (.lst [.int 0]) (.int (N:Nat))=_s (.lst (nI (B6 N 0))):=by
  have e:(B6 N [Dv.int 0]).flatten=nI (B6 N 0):=by rw[List.flatten_replicate_singleton];simp[nI]
  have z:([Dv.int 0]).length * ((N:Nat):Int).toNat<=1000000/\((N:Nat):Int) < 1000000/\-1000000 < ((N:Nat):Int):=⟨by simp;omega,by omega,by omega⟩;show(if[Dv.int 0].length * ((N:Nat):Int).toNat<=1000000/\((N:Nat):Int) < 1000000/\-1000000 < ((N:Nat):Int)then _s (Dv.lst (B6 ((N:Nat):Int).toNat [Dv.int 0]).flatten)else _n)=_;rw[if_pos z,T8,e]
 have go:∀(es:List (Nat×Nat))(r:List Nat),r.length=N->(∀e∈es,e.1 < N)->BO By (es.map pr) (.lst (nI r))=_s (.lst (nI (es.foldl (λr e=>r.set e.1 e.2) r))):=λes=>by
  induction es with
  |nil=>intro r _ _;rfl
  |cons e es g=>
   intro r c h;have k:By (pr e) (.lst (nI r))=_s (.lst (nI (r.set e.1 e.2))):=by unfold By pr;rw[HP];simp only[QX (show e.1 < r.length by rw[c];exact h e B1),A0]
   show(By (pr e) (.lst (nI r))).bind (BO By (es.map pr))=_;rw[k];exact g _ (by rw[D8];exact c) λx j=>h x (A9 _ j)
 have it:items (.lst (es.map pr))=_s (es.map pr):=rfl;unfold Do;simp only[m,A0,it];rw[go es _ (V9 ..) h];rfl
def en(e:List Nat×Nat):Dv:=.tup [.lst (nI e.1),.int (e.2:Nat)]
noncomputable def mm(G:List Ne)(c:List Nat)(d:List Nat)(u:Nat):Option (List Nat×Nat):=match G[u]? with
 |some (.act l qs)=>if l=d then _s (qs.map λq=>c.getD q 0,c.getD u 0)else _n
 |_=>_n
def KM(G:List Ne)(c:List Nat)(d:List Nat)(n:Nat):List (List Nat×Nat):=(B2 n).filterMap (mm G c d)
theorem Vt:∀{xs ys:List Dv}{i:Nat}{e:Dv},(Ct xs ys)[i]?=_s e->∃x y,xs[i]?=_s x/\ys[i]?=_s y/\e=.tup [x,y]
 |x::xs,y::ys,0,e,h=>by cases h;exact⟨x,y,rfl,rfl,rfl⟩
 |x::xs,y::ys,i+1,e,h=>Vt (xs:=xs) (ys:=ys) (i:=i) h
 |[],_,_,_,h=>by simp[Ct]at h
 |_::_,[],_,_,h=>by simp[Ct]at h
theorem Rx:∀{xs ys:List Dv},xs.length=ys.length->(Ct xs ys).length=xs.length
 |[],[],_=>rfl
 |x::xs,y::ys,h=>by simp only[Ct,D4];rw[Rx (by simpa using h)]
theorem NC{h d:List Nat}(C:Pt 0 G)(S:G.length<=500)(M:h.length=G.length):DJ (.str d) (.tup (eD G)) (.lst (nI h))=_s (.lst ((KM G h d G.length).map en)):=by
 have sz:SS [.tup (eD G),.lst (nI h)]=_s (Ct (eD G) (nI h)):=rfl;have E:(Ct (eD G) (nI h)).length=G.length:=by rw[Rx (by rw[Ef,BK,M]),Ef]
 obtain⟨c,e,m⟩:=Gu (EZ (.str d) (.lst (nI h))) (λi c=>i<=G.length->c=Dv.lst ((KM G h d i).map en)) (Ct (eD G) (nI h)) 0 (.lst []) (λ_=>rfl) λi x I c ec=>by
  obtain⟨y,z,B,hz,rfl⟩:=Vt I;obtain⟨w,j,rfl⟩:∃w,G[i]?=_s w/\y=w.dv:=by unfold eD at B;rw[D0]at B;obtain⟨w,C,rfl⟩:=G3.mp B;exact⟨w,C,rfl⟩
  have hi:=(A4.mp j).1;have A:z=.int (h.getD i 0:Nat):=by unfold nI at hz;rw[D0,A2 `o]at hz;simp[u5,show i < h.length by omega];exact(C5 hz).symm
  subst A;rw[E8]at ec ⊢;have ec:=ec `o;subst ec;have sc:KM G h d (i+1)=KM G h d i++(mm G h d i).toList:=by unfold KM;rw[T5,List.filterMap_append];congr 1
  have H:((KM G h d i).map en).length<=1000000:=by rw[C3];have:=X7 (mm G h d) (B2 i);rw[W5]at this;unfold KM;omega
  refine⟨.lst ((KM G h d (i+1)).map en),?_,λ_=>rfl⟩;unfold EZ;rw[HP];unfold GZ GY;rw[sc];unfold mm;rw[j];cases w with
  |inp k=>have s:AC (Ne.inp k).dv (.int 0)=_s CZ:=rfl;have o:Ek CZ (.str [100,111])=_s false:=rfl;simp[s,o]
  |fix k=>have s:AC (Ne.fix k).dv (.int 0)=_s Ca:=rfl;have o:Ek Ca (.str [100,111])=_s false:=rfl;simp[s,o]
  |act l qs=>
   have s:AC (Ne.act l qs).dv (.int 0)=_s JM:=rfl;have o:Ek JM (.str [100,111])=_s true:=rfl;have Q:AC (Ne.act l qs).dv (.int 1)=_s (.str l):=rfl;have P:AC (Ne.act l qs).dv (.int 2)=_s (tI qs):=rfl;have O:Ek (.str l) (.str d)=_s (decide (l=d)):=by show _s (R.eqV (.str l) (.str d))=_;exact congrArg _s (xB l d)
   have t:=C i _ j;rw[E8]at t;have D:∀q∈qs,q < h.length:=λq D=>by have:=t.1 q D;omega
   have l2:qs.length<=2:=t.2;have F:=Ez (g:=ES (.lst (nI h))) (ns:=h) (λp J=>by unfold ES;rw[QC J];rfl) qs D;simp only[s,o,Q,P,O,A0,if_true];by_cases c:l=d;simp only[decide_eq_true c,if_true,Df,Sw,A0];rw[Ap (dI l2),F];simp only[A0,Dc H,if_pos c,Option.toList_some,M4,B7,N0];rfl;simp only[decide_eq_false c,B4,if_false,A0,if_neg c,Option.toList_none,G7]
 rw[E,E8]at m;unfold DJ;simp only[sz,A0];rw[e,m (B3 _)];rfl
noncomputable def th(e:List Nat×Nat)(j:Nat):Nat:=e.1.getD j 0
def p0(e:List Nat×Nat):Nat×Nat:=(th e 0,e.2)
def p1(e:List Nat×Nat):Nat×Nat:=(th e 1,e.2)
def Fk(E:List (List Nat×Nat))(k:Nat):List (Nat×Nat):=(E.filter λe=>decide (th e 0=k)).map p1
def tbl(r:Nat)(N:Nat)(E:List (List Nat×Nat)):Dv:=if r=1 then tI (OE N (E.map p0))else .tup ((B2 N).map λk=>tI (OE N (Fk E k)))
theorem IA{k:AO}{x:Dv}{j:AO}:∀{ks:List AO}{xs:List Dv},ks.length=xs.length->AX j (ks++[k]) (xs++[x])=(AX j ks xs).or (if k=j then _s x else _n)
 |[],[],_=>by show(if k=j then _s x else AX j [] [])=_;split<;>rfl
 |i::ks,y::xs,h=>by show(if i=j then _s y else AX j (ks++[k]) (xs++[x]))=(if i=j then _s y else AX j ks xs).or _;rw[IA (by simpa using h)];split<;>rfl
theorem Lv{k j:AO}{x:Dv}:∀{ks:List AO}{xs:List Dv},AX j ks (CY k x ks xs)=if k=j then(AX k ks xs).map (λ_=>x)else AX j ks xs
  |[],xs=>by unfold CY AX;split<;>rfl
  |i::ks,[]=>by unfold CY AX;split<;>rfl
  |i::ks,y::xs=>by
    unfold CY;by_cases c:i=k;subst c;rw[if_pos rfl];unfold AX;by_cases d:i=j;simp[d];simp[d];rw[if_neg c];show(if i=j then _s y else AX j ks (CY k x ks xs))=_;rw[Lv];have g:AX k (i::ks) (y::xs)=AX k ks xs:=by show(if i=k then _s y else _)=_;rw[if_neg c]
    have e:AX j (i::ks) (y::xs)=if i=j then _s y else AX j ks xs:=rfl;rw[g,e];by_cases d:k=j;subst d;rw[if_neg c,if_pos rfl,if_pos rfl];rw[if_neg d,if_neg d]
def RD(d:Dv)(E:List (List Nat×Nat)):Prop:=∃(ks:List AO)(xs:List Dv),(d=.dcl ks xs\/d=.dct [] []/\ks=[]/\xs=[])/\ks.length=xs.length/\ks.length<=E.length/\∀k:Nat,AX (.inl (k:Int)) ks xs=if Fk E k=[]then _n else _s (.lst ((Fk E k).map pr))
theorem ee(E:List (List Nat×Nat))(e:List Nat×Nat)(k:Nat):Fk (E++[e]) k=if th e 0=k then Fk E k++[p1 e]else Fk E k:=by unfold Fk;rw[V3,M4];by_cases c:th e 0=k;rw[if_pos c];simp[c];rw[if_neg c];simp[c]
theorem mZ(E:List (List Nat×Nat))(k:Nat):(Fk E k).length<=E.length:=by unfold Fk;rw[C3];exact xE ..
theorem YJ(k:Nat):Av (.int (k:Nat))=_s (.inl (k:Int)):=rfl
theorem RC{a b:Nat}(h:¬a=b):¬(Sum.inl (a:Int):AO)=Sum.inl (b:Int):=λz=>h (by have:=vT z;omega)
variable{E:List (List Nat×Nat)}
theorem RD.put{e:List Nat×Nat}(h:RD d E)(hl:E.length<=1000):∃x d',Rq d (.int (th e 0:Nat))=_s x/\Vm x (.int (th e 0:Nat)) (pr (p1 e))=_s d'/\RD d' (E++[e]):=by
  obtain⟨ks,xs,hd,o,p,m⟩:=h
  -- behind setdefault: the list zFW at its key
  have fin:∀(ks:List AO)(xs:List Dv),ks.length=xs.length->ks.length<=E.length+1->AX (.inl (th e 0:Int)) ks xs=_s (.lst ((Fk E (th e 0)).map pr))->(∀k:Nat,¬th e 0=k->AX (.inl (k:Int)) ks xs=if Fk E k=[]then _n else _s (.lst ((Fk E k).map pr)))->∃d',Vm (.dcl ks xs) (.int (th e 0:Nat)) (pr (p1 e))=_s d'/\RD d' (E++[e]):=λks xs o p h0 m=>by
    have s:((Fk E (th e 0)).map pr).length<=1000000:=by rw[C3];have:=mZ E (th e 0);omega
    refine⟨.dcl ks (CY (.inl (th e 0:Int)) (.lst ((Fk E (th e 0)).map pr++[pr (p1 e)])) ks xs),?_,ks,_,.inl rfl,by rw[Hz];exact o,by simpa using p,λk=>?_⟩;simp only[Vm,YJ,A0,h0,if_pos s];rw[Lv,ee];by_cases c:th e 0=k;subst c;rw[if_pos rfl,if_pos rfl,h0,if_neg `s];simp;rw[if_neg (RC c),if_neg c];exact m k c
  rcases hd with rfl|⟨rfl,rfl,rfl⟩
  have g:=m (th e 0);by_cases c:Fk E (th e 0)=[];rw[if_pos c]at g;obtain⟨d',q,r⟩:=fin (ks++[.inl (th e 0:Int)]) (xs++[.lst []]) (by simp[o]) `w (by rw[IA o,g,if_pos rfl,c];rfl) λk j=>by rw[IA o,if_neg (RC j),Option.or_none];exact m k
  exact⟨_,d',by simp only[Rq,YJ,A0,g,if_pos (show ks.length<=1000000 by omega)],q,r⟩;rw[if_neg c]at g;obtain⟨d',q,r⟩:=fin ks xs o `o g λk _=>m k;exact⟨_,d',by simp only[Rq,YJ,A0,g,if_pos (show ks.length<=1000000 by omega),isL,if_true],q,r⟩;have g:Fk E (th e 0)=[]:=by have:=m (th e 0);by_cases c:Fk E (th e 0)=[];exact c;rw[if_neg c]at this;cases this
  obtain⟨d',q,r⟩:=fin [.inl (th e 0:Int)] [.lst []] rfl `s (by rw[g];show(if _=_ then _ else _)=_;rw[if_pos rfl];rfl) λk j=>by show(if _=_ then _ else _)=_;rw[if_neg (RC j)];exact m k
  exact⟨_,d',rfl,q,r⟩
theorem pR(h:RD d E)(o:Option α):DR "dict" d o=o:=by obtain⟨ks,xs,rfl|⟨rfl,_⟩,_⟩:=h<;>rfl
theorem RD.get(h:RD d E)(k:Nat):FP [d,.int (k:Nat),.lst []]=_s (.lst ((Fk E k).map pr)):=by
 obtain⟨ks,xs,hd,_,_,j⟩:=h;have e:=j k;have g:(AX (.inl (k:Int)) ks xs).getD (.lst [])=.lst ((Fk E k).map pr):=by rw[e];by_cases c:Fk E k=[];rw[if_pos c,c];rfl;rw[if_neg c];rfl
 rcases hd with rfl|⟨rfl,rfl,rfl⟩
 simp only[FP,YJ,A0,g];simp only[FP,YJ,A0,g]
theorem ZH(e:List Nat×Nat){j:Nat}(h:j < e.1.length):AC (.lst (nI e.1)) (.int (j:Nat))=_s (.int (th e j:Nat)):=QC h
theorem QR(C:N<=1000)(hl:E.length<=1000)(O:r=1\/r=2)(h:∀e∈E,e.1.length=r/\∀j,j < r->th e j < N):DC (.int (r:Nat)) (.lst (E.map en)) (.int (N:Nat))=_s (tbl r N E):=by
  have it:items (.lst (E.map en))=_s (E.map en):=rfl;unfold DC tbl;rw[Co];simp only[A0,it];rcases O with rfl|rfl
  have m:∀L:List (List Nat×Nat),(∀e∈L,e∈E)->BD Ck (L.map en)=_s ((L.map p0).map pr):=λL=>by
    induction L with
    |nil=>intro _;rfl
    |cons e L w=>
      intro q;have h1:=h e (q e B1);have p:Ck (en e)=_s (pr (p0 e)):=by have A:AC (.lst (nI e.1)) (.int 0)=_s (.int (th e 0:Nat)):=ZH e (j:=0) `o;unfold Ck en;rw[HP];simp only[A,A0];rfl
      simp only[B7,BD,p,w λx g=>q x (A9 _ g),A0]
  rw[if_pos `d,Ap (by rw[C3];omega),m E λ_ h=>h];simp only[A0];rw[OD C λe he=>?_];rfl;obtain⟨x,g,rfl⟩:=J8.mp he;exact(h x g).2 0 `d;rw[if_neg `d];obtain⟨c,e,z⟩:=Gu ET (λi c=>RD c (E.take i)) (E.map en) 0 (.dct [] []) ⟨[],[],.inr ⟨rfl,rfl,rfl⟩,rfl,by simp,λk=>rfl⟩ λi x g c s=>by rw[D0]at g;obtain⟨y,B,rfl⟩:=G3.mp g;have h1:=h y (K1 B);rw[E8]at s ⊢;obtain⟨D,d',I,H,r⟩:=s.put (e:=y) (by rw[N6];omega);have A:AC (.lst (nI y.1)) (.int 0)=_s (.int (th y 0:Nat)):=ZH y (j:=0) `o;have p:AC (.lst (nI y.1)) (.int 1)=_s (.int (th y 1:Nat)):=ZH y (j:=1) `o;have t:Vm D (.int (th y 0:Nat)) (.tup [.int (th y 1:Nat),.int (y.2:Nat)])=_s d':=H;refine⟨d',?_,by rw[List.take_add_one,B];exact r⟩;unfold ET en;rw[HP];simp only[pR s,A,p,I,t,A0]
  rw[E8,C3,List.take_length]at z;have F:=IW N `o;have m:∀L:List Nat,(∀k∈L,k < N)->BD (Bo (.int (N:Nat)) c) (nI L)=_s (L.map λk=>tI (OE N (Fk E k))):=λL=>by
    induction L with
    |nil=>intro _;rfl
    |cons k L w=>
      intro q;have p:Bo (.int (N:Nat)) c (.int (k:Nat))=_s (tI (OE N (Fk E k))):=by unfold Bo;simp only[pR z,z.get,A0];rw[OD C λe he=>?_];rfl;unfold Fk at he;obtain⟨x,g,rfl⟩:=J8.mp he;exact(h x (T2.mp g).1).2 1 `d
      have o:=w λx g=>q x (A9 _ g);simp only[nI]at o;simp only[nI,B7,BD,p,o,A0]
  have M:=m (B2 N) λk P=>P8.mp P;rw[e];simp only[A0,F];rw[Ap `w];have J:BD (Bo (.int (N:Nat)) c) ((B2 N).map λk=>.int (k:Nat))=_:=M;rw[J];rfl
theorem XI:∀(G:List Ne)(ys:List Dv),∃qs,jR (eD G) ys=_s qs/\qs.length<=G.length
 |[],ys=>⟨[],by cases ys<;>rfl,B3 _⟩
 |x::G,[]=>⟨[],rfl,H8 _⟩
 |x::G,y::ys=>by obtain⟨qs,e,l⟩:=XI G ys;refine⟨(Cm x,y)::qs,?_,by simpa using l⟩;show((Gq x.dv).bind λk=>(jR (eD G) ys).bind λps=>_s ((k,y)::ps))=_;rw[Iq,e];rfl
theorem TH{ks:List (NK AO)}{xs:List Dv}{t:List Nat}{c:Dv}(h:∃k,Av c=_s k):∃d,FP [.dnt ks xs,.tup [.str t,c],.int 0]=_s d:=by
 obtain⟨k,g⟩:=h;have e:Gq (.tup [.str t,c])=_s [.inl (.inr (tx t)),.inl k]:=by
  have j:FD [c]=_s [.inl k]:=by unfold FD;rw[g];rfl
  show(((Av (.str t)).map Sum.inl |>.or ((YI (.str t)).map Sum.inr)).bind λk=>(FD [c]).bind λks=>_s (k::ks))=_;rw[j];rfl
 refine⟨(AX [.inl (.inr (tx t)),.inl k] ks xs).getD (.int 0),?_⟩;simp only[FP,e,A0]
theorem QJ{ar:List Nat->Nat}{fs ds:List Dv}{h:List Nat}{I:Nat}(W:Pt 0 G)(Z:GOk ar G)(X:G.length<=500)(H:h.length=G.length)(Y:N<=1000)(hv:∀t∈h,t < N)(hI:I<=100)(lf:fs.length<=100)(tf:∀x∈fs,Tx 10 x)(ld:ds.length<=100)(td:∀x∈ds,Ru 5 x)(ha:∀l (r:Int),Dv.tup [.str l,.int r]∈ds->(ar l:Int)=r):∃w g,DB (.tup [.tup fs,.tup ds]) (.int (I:Nat)) (.tup (eD G)) (.lst (nI h)) (.int (N:Nat))=_s (.tup [w,g]):=by
 obtain⟨qs,e1,l1⟩:=XI G (nI h);have dz:qz [.tup (eD G),.lst (nI h)]=_s (.dnt (HB [] [] qs).1 (HB [] [] qs).2):=by show((jR (eD G) (nI h)).bind λqs=>if qs.length<=1000000 then _s (Dv.dnt (HB [] [] qs).1 (HB [] [] qs).2)else _n)=_;rw[e1];exact if_pos `o
 generalize (HB [] [] qs).1=kk at dz;generalize (HB [] [] qs).2=s at dz;have V:AC (.tup [.tup fs,.tup ds]) (.int 0)=_s (.tup fs):=rfl;have U:AC (.tup [.tup fs,.tup ds]) (.int 1)=_s (.tup ds):=rfl;have it:∀xs:List Dv,items (.tup xs)=_s xs:=λ_=>rfl;have kd:∀{α:Type}(o:Option α),DR "dict" (.dnt kk s) o=o:=λ_=>rfl;obtain⟨M,e5,l5,_⟩:=Dw (EN (.dnt kk s)) (λ_=>True) fs λx y=>by obtain⟨l,rfl,_⟩:=tf x y;obtain⟨d,e⟩:=TH (ks:=kk) (xs:=s) (t:=[102,105,120,101,100]) (c:=.str l) ⟨_,rfl⟩;exact⟨d,by unfold EN;rw[kd,e];rfl,trivial⟩
 obtain⟨B,F,Q,_⟩:=Dw (EM (.tup (eD G)) (.lst (nI h)) (.int (N:Nat))) (λ_=>True) ds λx y=>by
  obtain⟨a,r,rfl,⟨l,rfl⟩,hr,hm⟩:=KW (a:=.non) (r:=0) y td;have C:=ha l r hm;obtain⟨m,rfl⟩:∃m:Nat,r=(m:Nat):=⟨ar l,C.symm⟩;have T:AC (.tup [.str l,.int (m:Nat)]) (.int 0)=_s (.str l):=rfl;have S:AC (.tup [.str l,.int (m:Nat)]) (.int 1)=_s (.int (m:Nat)):=rfl;have le:(KM G h l G.length).length<=1000:=by have:=X7 (mm G h l) (B2 G.length);rw[W5]at this;unfold KM;omega
  have tb:=QR (N:=N) (r:=m) Y le `o λe he=>by
   obtain⟨u,_,p⟩:=vB.mp he;unfold mm at p;split at p;rename_i R qs gu;split at p;rename_i c;cases p;subst c;have J:=Z _ (K1 gu);have lq:qs.length=ar R:=J.2;refine⟨by rw[C3];omega,λj hj=>?_⟩;refine hv _ ?_;show(qs.map λq=>h.getD q 0).getD j 0∈h;have z:j < qs.length:=by omega
   rw[show(qs.map λq=>h.getD q 0).getD j 0=h.getD qs[j] 0 by simp[u5,z]];exact getD_mem (by rw[H];exact J.1 _ (K7 z));cases p;cases p
  exact⟨tbl m N (KM G h l G.length),by unfold EM;simp only[T,S,A0,NC W X H,tb],trivial⟩
 have O:=IW I `o;obtain⟨A,D,P,_⟩:=Dw (EL (.dnt kk s)) (λ_=>True) ((B2 I).map λk=>.int (k:Nat)) λx y=>by obtain⟨k,_,rfl⟩:=J8.mp y;obtain⟨d,e⟩:=TH (ks:=kk) (xs:=s) (t:=[105,110,112,117,116]) (c:=.int (k:Nat)) ⟨_,rfl⟩;exact⟨d,by unfold EL;rw[kd,e];rfl,trivial⟩
 refine⟨.tup [.int (N:Nat),.tup M,.tup B],.tup A,?_⟩;unfold DB;simp only[dz,V,U,it,A0];rw[Ap `o,e5];simp only[A0];rw[Ap `o,F];simp only[A0,O];rw[Ap `w,D];simp only[A0,AY]
end My
namespace My
open PySem L2 R
open Classical in
noncomputable def ma(G:List Ne)(ρ:Nat->Nat):Al:=⟨λk=>ρ (G.idxOf (.inp k)),λl=>ρ (G.idxOf (.fix l)),λl ds=>if h:∃u qs,G[u]?=_s (Ne.act l qs)/\qs.map ρ=ds then ρ h.choose else 0⟩
theorem YQ{G:List Ne}(nd:G.Nodup){u:Nat}{x:Ne}(e:G[u]?=_s x):G.idxOf x=u:=by
 have h1:=TB (K1 e);obtain⟨a,f⟩:=A4.mp h1;obtain⟨b,eb⟩:=A4.mp e;have d:=M8.mp nd;rcases yZ (G.idxOf x) u with c|c|c
 exact(d _ _ a b c (f.trans eb.symm)).elim;exact c;exact(d _ _ b a c (eb.trans f.symm)).elim
open Classical in
theorem Ts{G:List Ne}(w:WG G){ps:List Nat}(d:rH G ps):∀(n u:Nat),u < n->u < G.length->(vs (ma G (rt ps)) G).getD u 0=rt ps u
 |0,u,h,_=>by omega
 |n+1,u,h,i=>by
  have e:=A2 i;rw[SA w.w e];generalize G[u]=x at e;have f:=w.w u x e;rw[E8]at f;cases x with
  |inp k=>exact congrArg (rt ps) (YQ w.nd e)
  |fix l=>exact congrArg (rt ps) (YQ w.nd e)
  |act l qs=>
   have m:(qs.map λp=>(vs (ma G (rt ps)) G).getD p 0)=qs.map (rt ps):=I9 λq j=>by have:=f.1 q j;exact Ts w d n q `o `o
   show(ma G (rt ps)).act l (qs.map λp=>(vs (ma G (rt ps)) G).getD p 0)=_;rw[m];have g:∃u c,G[u]?=_s (Ne.act l c)/\c.map (rt ps)=qs.map (rt ps):=⟨u,qs,e,rfl⟩;show(if h:∃u c,G[u]?=_s (Ne.act l c)/\c.map (rt ps)=qs.map (rt ps)then rt ps h.choose else 0)=_;rw[dif_pos g];obtain⟨c,a,b⟩:=g.choose_spec;exact d _ _ l c qs a e b
theorem nC(A:Al){G:List Ne}(w:WG G):VC G λi=>(vs A G).getD i 0:=λu v l qs rs b a c=>by show(vs A G).getD u 0=(vs A G).getD v 0;rw[SA w.w b,SA w.w a];exact congrArg (A.act l) c
theorem dH{gs:List (List Ne×List Ne)}{q:List Ne×List Ne}(f:∀E∈Ax (gs++[q]),aL E){ps:List Nat}(l:∀t∈Nl (Ax (gs++[q])),t < (Qp (Ax (gs++[q]))).length)(tl:(Nl (Ax (gs++[q]))).length=2 * (gs.length+1))(g:rH (Qp (Ax (gs++[q]))) ps)
    (jn:∀k,k < gs.length->rt ps ((Nl (Ax (gs++[q]))).getD (2 * k) 0)=rt ps ((Nl (Ax (gs++[q]))).getD (2 * k+1) 0))
    (snd:∀V,VC (Qp (Ax (gs++[q]))) V->(∀k,k < gs.length->V ((Nl (Ax (gs++[q]))).getD (2 * k) 0)=V ((Nl (Ax (gs++[q]))).getD (2 * k+1) 0))->MJ V (Qp (Ax (gs++[q]))).length ps) :
    Vq gs q↔rt ps ((Nl (Ax (gs++[q]))).getD (2 * gs.length) 0)=rt ps ((Nl (Ax (gs++[q]))).getD (2 * gs.length+1) 0):=by
  have at_:∀(A:Al)(k:Nat) p,(gs++[q])[k]?=_s p->(vs A (Qp (Ax (gs++[q])))).getD ((Nl (Ax (gs++[q]))).getD (2 * k) 0) 0=fv A p.1/\(vs A (Qp (Ax (gs++[q])))).getD ((Nl (Ax (gs++[q]))).getD (2 * k+1) 0) 0=fv A p.2:=λA k p h=>by obtain⟨a,b⟩:=TM h;exact⟨(Gp A f).2 _ _ a,(Gp A f).2 _ _ b⟩
  have m:(gs++[q])[gs.length]?=_s q:=by rw[J7 (B3 _),r9];rfl
  have n:∀(k:Nat) p,gs[k]?=_s p->(gs++[q])[k]?=_s p:=λk p h=>by rw[E6 (A4.mp h).1];exact h
  have j:=(Gp ⟨λ_=>0,λ_=>0,λ_ _=>0⟩ f).1;generalize Qp (Ax (gs++[q]))=G at *;generalize Nl (Ax (gs++[q]))=ts at *;have hT:∀k,k<=gs.length->ts.getD (2 * k) 0 < G.length/\ts.getD (2 * k+1) 0 < G.length:=λk c=>⟨l _ (getD_mem `o),l _ (getD_mem `o)⟩;constructor;intro F;have d:=λu v=>Ts j g (u+1) u `o v;have:=F (ma G (rt ps)) λp w=>by obtain⟨k,c,rfl⟩:=R5 w;obtain⟨a,b⟩:=at_ (ma G (rt ps)) k _ (n k _ (A2 c));rw[<- a,<- b,d _ (hT k `o).1,d _ (hT k `o).2];exact jn k c
  obtain⟨a,b⟩:=at_ (ma G (rt ps)) _ _ m;rw[<- a,<- b,d _ (hT _ (B3 _)).1,d _ (hT _ (B3 _)).2]at this;exact this;intro e A x;have r:=snd (λi=>(vs A G).getD i 0) (nC A j) λk c=>by obtain⟨a,b⟩:=at_ A k _ (n k _ (A2 c));show(vs A G).getD _ 0=(vs A G).getD _ 0;rw[a,b];exact x _ (K7 c)
  obtain⟨a,b⟩:=at_ A _ _ m;rw[<- a,<- b];have s:(vs A G).getD (rt ps (ts.getD (2 * gs.length) 0)) 0=(vs A G).getD (ts.getD (2 * gs.length) 0) 0:=r _ (hT _ (B3 _)).1;have o:(vs A G).getD (rt ps (ts.getD (2 * gs.length+1) 0)) 0=(vs A G).getD (ts.getD (2 * gs.length+1) 0) 0:=r _ (hT _ (B3 _)).2;rw[<- s,<- o,e]
noncomputable def IV:Dv:=.str [102,111,108,108,111,119,115]
noncomputable def zBY:Dv:=.str [112,97,114,116]
open Classical in
def wd(gs:List (List Ne×List Ne))(q:List Ne×List Ne):Dv:=if Vq gs q then IV else zBY
structure zDM (fs ds:List Dv) (I:Nat) (ar:List Nat->Nat):Prop where
 lf:fs.length<=100
 tf:∀x∈fs,Tx 10 x
 ld:ds.length<=100
 td:∀x∈ds,Ru 5 x
 ha:∀l (r:Int),Dv.tup [.str l,.int r]∈ds->(ar l:Int)=r
 har:∀l,ar l<=2
 hI:I<=100
abbrev ua(ar:List Nat->Nat)(gs:List (List Ne×List Ne))(q:List Ne×List Ne):Prop:=gs.length<=7/\∀E∈Ax (gs++[q]),aL E/\∀x∈E,Kg ar x
theorem Mt{fs ds:List Dv}{I:Nat}{ar:List Nat->Nat}(n:zDM fs ds I ar){gs:List (List Ne×List Ne)}{q:List Ne×List Ne}(hQ:ua ar gs q):∃r,Dp (.tup [.tup fs,.tup ds]) (.int (I:Nat)) (.tup (gs.map pD)) (pD q)=_s (.tup (wd gs q::r)):=by
  refine rX λzP zQ=>?_;obtain⟨hg,hE⟩:=hQ;have e:=λE h=>(hE E h).1;have e0:=Qm (gs:=gs) (q:=q) `o e;obtain⟨g1,g2⟩:=SK (Ax (gs++[q])) ([],[]) hE `z `z;have l:=Nv (Ax (gs++[q])) ([],[]) e;rw[KD,B5,D6]at l;simp only[O4,E8]at l;have hG:GOk ar (Qp (Ax (gs++[q]))):=g1;have hT:∀t∈Nl (Ax (gs++[q])),t < (Qp (Ax (gs++[q]))).length:=g2;have x:(Qp (Ax (gs++[q]))).length<=500:=by have:=l.1;show(wY JO ([],[]) (Ax (gs++[q]))).1.length<=500;omega
  have ht:(Nl (Ax (gs++[q]))).length=2 * (gs.length+1):=l.2;have Q:=(Gp ⟨λ_=>0,λ_=>0,λ_ _=>0⟩ e).1;have iff:=fun{ps:List Nat}=>dH (ps:=ps) e hT ht;generalize Qp (Ax (gs++[q]))=G at *;generalize Nl (Ax (gs++[q]))=ts at *;have C:0 < G.length:=by have:=hT _ (getD_mem (ts:=ts) (h:=0) `o);omega
  have i0:∀a b:Dv,AC (.tup [a,b]) (.int 0)=_s a:=λ_ _=>rfl;have i1:∀a b:Dv,AC (.tup [a,b]) (.int 1)=_s b:=λ_ _=>rfl;have lG:AS (.tup (eD G))=_s (.int (G.length:Nat)):=kX G;have ji:DH (.obj "Joins" Uz [] []) (.int (G.length:Nat))=_s (.non,jb (B2 G.length)):=by
    have h1:Ec (.obj "Joins" Uz [] []) "leads" (.lst (nI (B2 G.length)))=_s (jb (B2 G.length)):=by rfl
    unfold DH;simp only[Wn (show G.length<=1000000 by omega),A0,h1]
  have m1:kQ Dv.non [jb (B2 G.length)]=fun(k:Dv->Option Dv)=>k (jb (B2 G.length)):=rfl;have st:=Rl.start G.length;have s0:∀V,MJ V G.length (B2 G.length):=λV w hw=>by rw[DK (Dt hw)]
  obtain⟨p1,p,e1,lo1,O,F,jn1,rl1⟩:=RK (G:=G) (ts:=ts) x (show gs.length<=20 by omega) ht hT st.1 st.2.1;obtain⟨X,s,e2,Z,D,K,H,A,zGc,rl2⟩:=Lf Q.w x lo1 O;have cl:=Tf (λw=>decide (rt X w=w)) G.length;obtain⟨c,ew,ps,d,rfl,lo,len,i,jn,snd⟩:=Dm GG (GK (.tup (eD G))) (λm c=>∃ps d more,c=(jb ps,Dv.lst d,Dv.lst more)/\Ig ps/\ps.length=G.length/\(∀k,k < gs.length->rt ps (ts.getD (2 * k) 0)=rt ps (ts.getD (2 * k+1) 0))/\(∀V,VC G V->(∀k,k < gs.length->V (ts.getD (2 * k) 0)=V (ts.getD (2 * k+1) 0))->MJ V G.length ps)/\(more=[]->rH G ps)/\m=(if more=[]then 0 else 1+nrt ps G.length)/\d.length+more.length+500 * m<=300000)
    (λc=>∃ps d,c=(jb ps,Dv.lst d,Dv.lst [])/\Ig ps/\ps.length=G.length/\rH G ps/\(∀k,k < gs.length->rt ps (ts.getD (2 * k) 0)=rt ps (ts.getD (2 * k+1) 0))/\(∀V,VC G V->(∀k,k < gs.length->V (ts.getD (2 * k) 0)=V (ts.getD (2 * k+1) 0))->MJ V G.length ps)) (λm c ⟨ps,d,more,ec,lo,len,jn,snd,i,hm,hb⟩=>by
    subst ec;by_cases h:more=[];subst h;exact .inl ⟨rfl,ps,d,rfl,lo,len,i rfl,jn,snd⟩;rw[if_neg h]at hm;have t:GG (jb ps,.lst d,.lst more)=_s true:=by
      cases more with|nil=>exact(h rfl).elim|cons _ _=>rfl
    obtain⟨W,f,e3,Y,P,L,J,B,o,rl3⟩:=Lf Q.w x lo len;refine .inr ⟨t,(jb W,.lst (d++more),.lst f),if f=[]then 0 else 1+nrt W G.length,?_,?_,W,_,f,rfl,Y,P,λk y=>L _ _ (jn k y),λV a b=>J V a (snd V a b),B,rfl,?_⟩;unfold GK;simp only[Df,Yh (show d.length+more.length<=1000000 by omega),A0,e3];subst hm;split;omega;rename_i h3;have:=o h3;omega;rw[B5];split;omega;rename_i h3;have:=o h3;omega) 1000000 _ (jb X,.lst p,.lst s) (by unfold nrt at *;split<;>omega) ⟨X,p,s,rfl,Z,D,λk y=>K _ _ (jn1 k y),λV a b=>H V a (F V b (s0 V)),A,rfl,by unfold nrt;split<;>omega⟩
  have S:2 * gs.length < ts.length:=by omega
  have R:2 * gs.length+1 < ts.length:=by omega
  have h1:=hT _ (getD_mem S);have h2:=hT _ (getD_mem R);have n2:EC (.int 2)=_s (.int (-2)):=rfl;have n1:EC (.int 1)=_s (.int (-1)):=rfl;have ix:∀(j k:Nat),j+k=ts.length->0 < k->k < 1000->AC (.tup (nI ts)) (.int (-(k:Int)))=_s (.int (ts.getD j 0:Nat)):=λj k hj y hk2=>by
    have z:Kh (nI ts).length (-(k:Int))=_s j:=by unfold Kh;rw[if_neg `o,if_pos (by rw[BK];omega)];congr 1;rw[BK];omega
    show(Kh (nI ts).length (-(k:Int))).bind (λj=>(nI ts)[j]?)=_;rw[z];simp[nI,u5,show j < ts.length by omega]
  have x2:AC (.tup (nI ts)) (.int (-2))=_s (.int (ts.getD (2 * gs.length) 0:Nat)):=ix _ 2 `o `d `d;have x1:AC (.tup (nI ts)) (.int (-1))=_s (.int (ts.getD (2 * gs.length+1) 0:Nat)):=ix _ 1 `o `d `d;obtain⟨U,e4,j4⟩:=IP lo (u:=ts.getD (2 * gs.length) 0) (v:=ts.getD (2 * gs.length+1) 0) (by rw[len];exact h1) (by rw[len];exact h2) (by rw[len];omega);have fi:=iff i jn snd;refine zQ ?_;have T:AY (.lst d)=_s (.tup d):=rfl;by_cases c:rt ps (ts.getD (2 * gs.length) 0)=rt ps (ts.getD (2 * gs.length+1) 0);refine⟨[.tup d],?_⟩;have w:wd gs q=IV:=if_pos (fi.mpr c);rw[w];unfold Dp;simp only[e0,i0,i1,lG,A0,ji,m1,e1,e2];rw[ew];simp only[A0,(FE ps).2.1,cond_true,n2,n1,x2,x1,e4,QQ,decide_eq_true c,if_true,T];rfl;obtain⟨ks,p5,e5,hks,kl⟩:=Nh x j4.low (j4.len.trans len);obtain⟨M,eM,hM,mM⟩:=kT (ts:=dZ ks U G.length) (by rw[NG];exact C);have ad:AV (.int 1) (.int (M:Nat))=_s (.int ((1+M:Nat))):=by show _s (Dv.int (1+(M:Int)))=_;congr 2
  have Ml:M<=500:=by obtain⟨u,_,rfl⟩:=J8.mp mM;have:=List.idxOf_le_length (a:=rt U u) (l:=ks);omega
  obtain⟨w,g,e6⟩:=QJ (I:=I) (N:=1+M) Q.w hG x (NG ks U G.length) `o (λt h=>by have:=hM t h;omega) n.hI n.lf n.tf n.ld n.td n.ha;refine⟨[w,g],?_⟩;have w:wd gs q=zBY:=if_neg λz=>c (fi.mp z);rw[w];unfold Dp;simp only[e0,i0,i1,lG,A0,ji,m1,e1,e2];rw[ew];simp only[A0,(FE ps).2.1,cond_true,n2,n1,x2,x1,e4,QQ,decide_eq_false c,B4,if_false,e5,eM,ad,e6,i0,i1];rfl
end My
namespace My
open PySem L2 R
theorem Wv{g i:Type}{f:g->i}:∀{xs:List g},xs.Pairwise (λx y=>f x≠f y)->∀{a b:g},a∈xs->b∈xs->f a=f b->a=b
 |[],_,_,_,h,_,_=>by cases h
 |x::xs,j,a,b,ha,hb,e=>by
  obtain⟨h1,h2⟩:=List.pairwise_cons.mp j;rcases D3.mp ha with d|d
  rcases D3.mp hb with c|c
  rw[d,c];exact(h1 b c (by rw[<- d];exact e)).elim;rcases D3.mp hb with c|c
  exact(h1 a d (by rw[<- c];exact e.symm)).elim;exact Wv h2 d c e
theorem qt{ds:List Dv}(hd:∀x∈ds,Ru 5 x)(dp:DP ds):∃ar:List Nat->Nat,(∀l,ar l<=2)/\∀l (r:Int),Dv.tup [.str l,.int r]∈ds->(ar l:Int)=r:=by
 classical
 have b:∀l (r:Int),Dv.tup [.str l,.int r]∈ds->r=1\/r=2:=λl r h=>by obtain⟨a,k,e,_,d⟩:=hd _ h;simp only[Dv.tup.injEq,L7,Dv.int.injEq,and_true]at e;rw[e.2];exact d
 refine⟨λl=>if h:∃r:Int,Dv.tup [.str l,.int r]∈ds then h.choose.toNat else 0,λl=>?_,λl r c=>?_⟩;dsimp only;split;rename_i h;have:=b l _ h.choose_spec;omega;omega;have h:∃r:Int,Dv.tup [.str l,.int r]∈ds:=⟨r,c⟩;dsimp only;rw[dif_pos h];have e:=Wv dp h.choose_spec c rfl;simp only[Dv.tup.injEq,L7,Dv.int.injEq,and_true,true_and]at e;have:=b l r c;rw[e];omega
variable{E:List Ne}
section
variable{I:Nat}{fs ds:List Dv}{ar:List Nat->Nat}
theorem qw{x:Ne}{y:Nd}{i:Nat}(h:HF I fs ds i y)(e:x.dv=y.dv)(ha:∀l (r:Int),Dv.tup [.str l,.int r]∈ds->(ar l:Int)=r):Kg ar x:=by
 cases x with
 |inp k=>trivial
 |fix l=>trivial
 |act l ps=>
  cases y with
  |inp k=>simp[Ne.dv,Nd.dv]at e
  |fix c=>simp[Ne.dv,Nd.dv]at e
  |act d qs=>
   obtain⟨⟨r,hm,f,_⟩,_⟩:=h;simp only[Ne.dv,Nd.dv,Dv.tup.injEq,L7]at e;obtain⟨_,b,a,_⟩:=e;subst b;simp only[tI,Dv.tup.injEq]at a;have:ps.length=qs.length:=by have:=congrArg W8 a;rw[BK,BK]at this;exact this
   have:=ha l r hm;show ps.length=ar l;omega
theorem gU{F:List Nd}(h:FS I fs ds F)(ha:∀l (r:Int),Dv.tup [.str l,.int r]∈ds->(ar l:Int)=r):∃E:List Ne,eD E=nD F/\E.length=F.length/\Pt 0 E/\∀x∈E,Kg ar x:=by
 obtain⟨E,e,w⟩:=Xj F 0 λi x b=>by rw[E8];exact h i x b
 have l:E.length=F.length:=by have:=congrArg W8 e;rw[Ef,Hn]at this;exact this
 refine⟨E,e,l,w,λx b=>?_⟩;obtain⟨i,hi,rfl⟩:=R5 b;have a:i < F.length:=by omega
 refine qw (h i F[i] (A2 a)) ?_ ha;have:(eD E)[i]?=(nD F)[i]?:=by rw[e]
 simpa[eD,nD,A2 hi,A2 a]using this
theorem nA(w:Pt 0 E)(a:∀x∈E,Kg ar x):GOk ar E:=λx b=>by obtain⟨i,hi,rfl⟩:=R5 b;exact⟨λp c=>by have:=(w i _ (A2 hi)).1 p c;omega,a _ b⟩
def FB(ar:List Nat->Nat)(E:List Ne):Prop:=aL E/\∀x∈E,Kg ar x
def FA(ar:List Nat->Nat)(E:List Ne):Prop:=FB ar E/\E.length<=20
def PO(ar:List Nat->Nat)(p:List Ne×List Ne):Prop:=FA ar p.1/\FA ar p.2
theorem Gj{L:List Nd}{top:Nat}(d:FS I fs ds L)(b:top < L.length)(c:L.length<=20)(ha:∀l (r:Int),Dv.tup [.str l,.int r]∈ds->(ar l:Int)=r):∃E,BY (.lst (nD L)) (.int (top:Nat))=_s (fD E)/\FA ar E:=by obtain⟨F,e,ok,f0,fl⟩:=Mf d b (A8 c `d);obtain⟨E,f,l1,w,a⟩:=gU ok ha;refine⟨E,?_,⟨⟨w,by omega,by omega⟩,a⟩,by omega⟩;rw[e];unfold fD;rw[f,l1]
end
def aH(n:Nat)(xs:List Dv):Prop:=∀x∈xs,∃p:Nat×Nat,x=pr p/\p.1 < n/\p.2 < n
theorem XB{n:Nat}:∀{xs:List Dv},aH n xs->∃ps:List (Nat×Nat),xs=ps.map pr/\∀p∈ps,p.1 < n/\p.2 < n
 |[],_=>⟨[],rfl,λ_ z=>by cases z⟩
 |x::xs,h=>by
  obtain⟨p,rfl,d⟩:=h x B1;obtain⟨ps,rfl,b⟩:=XB (xs:=xs) λy c=>h y (A9 _ c);refine⟨p::ps,rfl,λq a=>?_⟩;rcases D3.mp a with rfl|a
  exact d;exact b q a
theorem aH.snoc{n:Nat}{xs:List Dv}(h:aH n xs){a b:Nat}(ha:a < n)(hb:b < n):aH n (xs++[pr (a,b)]):=λx c=>by
 rcases C0.mp c with c|c
 exact h x c;rw[C4]at c;subst c;exact⟨_,rfl,ha,hb⟩
theorem aH.cmp{n:Nat}:∀{xs:List Dv},aH n xs->BZ xs=_t/\Bh xs<=1
 |[],_=>⟨rfl,by decide⟩
 |x::xs,h=>by obtain⟨p,rfl,_⟩:=h x B1;have a:=aH.cmp (xs:=xs) λy b=>h y (A9 _ b);exact⟨by show(_t&&BZ xs)=_t;rw[a.1];rfl,by show max 1 (Bh xs)<=1;omega⟩
theorem XF{n:Nat}{xs:List Dv}(h:aH n xs)(p:Nat×Nat):∃b,FL (pr p) (.lst xs)=_s b:=by
 obtain⟨h1,h2⟩:=h.cmp;have c:((pr p).cmp&&BZ xs&&decide (Bh xs<=150))=true:=by rw[h1,show(pr p).cmp=_t from rfl,M5,vp];exact decide_eq_true `o
 have v:rL (.lst xs)=_s xs:=rfl;refine⟨!Ko (pr p) xs,?_⟩;unfold pr at c ⊢;simp only[Ks,v,c,if_true]
theorem Ju(g:Dv->Option (Option Dv))(R:Dv->Prop):∀(xs:List Dv),(∀x∈xs,∃o,g x=_s o/\∀d,o=_s d->R d)->∃ds,Od g xs=_s ds/\ds.length<=xs.length/\∀d∈ds,R d
 |[],_=>⟨[],rfl,B3 _,λ_ z=>by cases z⟩
 |x::xs,h=>by
  obtain⟨o,e,f⟩:=h x B1;obtain⟨ds,c,l2,b⟩:=Ju g R xs λy a=>h y (A9 _ a);cases o with
  |none=>exact⟨ds,by simp only[Od,e,c,A0],by simp;omega,b⟩
  |some d=>
   refine⟨d::ds,by simp only[Od,e,c,A0],by simpa using l2,λy a=>?_⟩;rcases D3.mp a with rfl|a
   exact f _ rfl;exact b y a
theorem Vl{n:Nat}(o:n<=100):∃xs,DG (.int (n:Nat))=_s (.lst xs)/\aH n xs/\xs.length<=10000:=by
 have g:=IW n `o;obtain⟨c,e,xs,rfl,h,l⟩:=Bj (P:=λi c=>∃xs,c=.lst xs/\aH n xs/\xs.length<=100 * i) (EX (.int (n:Nat))) n (.lst []) ⟨[],rfl,`z,by simp⟩ λa ha c ⟨xs,ec,h,l⟩=>by
  subst ec;obtain⟨ys,m,l1,h1⟩:=Ju (ER (.int (a:Nat))) (λd=>∃p:Nat×Nat,d=pr p/\p.1 < n/\p.2 < n) ((B2 n).map λk=>.int (k:Nat)) λx f=>by
   obtain⟨b,hb,rfl⟩:=J8.mp f;have hb:b < n:=by simpa using hb
   unfold ER;simp only[NQ,A0];by_cases c:((b:Nat):Int)=(a:Nat);exact⟨_n,by simp[c],λd z=>by cases z⟩;exact⟨_s (pr (a,b)),by simp[c,pr],λd z=>by cases z;exact⟨_,rfl,ha,hb⟩⟩
  have j:ys.length<=n:=by simpa using l1
  refine⟨.lst (xs++ys),?_,_,rfl,λx f=>?_,by rw[B5];omega⟩;unfold EX;simp only[Df,g,A0];rw[Ap `w,m];simp only[A0,Yh (show xs.length+ys.length<=1000000 by omega)];rcases C0.mp f with f|f
  exact h x f;exact h1 x f
 refine⟨xs,?_,h,by omega⟩;unfold DG;simp only[g,A0];rw[e];rfl
theorem gL{ar:List Nat->Nat}:∀{xs:List Dv},(∀x∈xs,∃p,x=pD p/\FA ar p.1/\FA ar p.2)->∃gs:List (List Ne×List Ne),xs=gs.map pD/\∀p∈gs,FA ar p.1/\FA ar p.2
 |[],_=>⟨[],rfl,λ_ z=>by cases z⟩
 |x::xs,h=>by
  obtain⟨p,rfl,d⟩:=h x B1;obtain⟨ps,rfl,b⟩:=gL (xs:=xs) λy c=>h y (A9 _ c);refine⟨p::ps,rfl,λq a=>?_⟩;rcases D3.mp a with rfl|a
  exact d;exact b q a
theorem Lx{f:Dv}(hf:Fd f):∃(fs ds:List Dv)(I:Nat)(gs:List (List Ne×List Ne))(q:List Ne×List Ne)(f':Dv)(ar:List Nat->Nat),Hi f (.int 8)=_s (.tup [.tup [.tup fs,.tup ds],.int (I:Nat),.tup (gs.map pD),pD q],f')/\gs.length<=5/\zDM fs ds I ar/\(∀p∈gs,PO ar p)/\PO ar q/\Fd f':=by
 refine rX λzP zQ=>?_;obtain⟨fs,ds,f1,e1,lf,tf,ld,td,dp,hf1⟩:=QV hf;obtain⟨ar,har,ha⟩:=qt td dp;obtain⟨s,f2,e2,F,hf2⟩:=AU hf1 (n:=4) `d `d;have i0:AC (.tup [.tup fs,.tup ds]) (.int 0)=_s (.tup fs):=rfl;have l0:AS (.tup fs)=_s (.int (fs.length:Nat)):=rfl;obtain⟨I,hI,m2,hI0⟩:∃I:Nat,I<=4/\(∃F d3,Ek (.int (fs.length:Nat)) (.int 0)=_s F/\IU (.bl F)=_s d3/\ED (.int (s:Nat)) d3=_s (.int (I:Nat)))/\(fs.length=0->1<=I):=by by_cases h:fs.length=0;refine⟨max s 1,by omega,⟨_t,.int 1,by rw[Co,h];rfl,rfl,?_⟩,λ_=>by omega⟩;simp only[ED];split<;>(congr 2;omega);refine⟨s,by omega,⟨_f,.int 0,by rw[Co,decide_eq_false `o],rfl,?_⟩,λz=>(h z).elim⟩;simp only[ED];rw[if_neg `o]
 obtain⟨b2',d3,y,w,q3⟩:=m2;obtain⟨r7,f7,e7,b7,hf7⟩:=AU hf2 (n:=8) `d `d;have a7:AV (.int 2) (.int (r7:Nat))=_s (.int ((2+r7:Nat))):=rfl;obtain⟨L,f9,e9,Q,L0,Ll,hf9⟩:=Qs tf td `o hf7 (I:=I) `o (I0:=I) `o (λh=>by have:=hI0 h;omega) (λ_=>rfl) (many:=2+r7) `o `o;obtain⟨E,eE,V,wE,aE⟩:=gU Q ha;obtain⟨t,S,B,C,zDG⟩:=GE hf9 (n:=6) `d `d;have B:AN f9 (.int 6)=_s (.int (t:Nat),S):=B;have rg:=IW t (A8 (R8 C) `d);have e:L.length<=20:=by omega
 have L6:L.length<=1000000:=A8 e `d;have U:∀{g:Dv},Fd g->∃(r:Nat)(g':Dv),AN g (.int (L.length:Nat))=_s (.int (r:Nat),g')/\r < L.length/\Fd g':=λhg=>GE hg L0 L6;obtain⟨⟨f19,l19⟩,e19,xs,k,O,j,G⟩:=Bj (P:=λi c=>∃xs,c.2=.lst xs/\aH L.length xs/\xs.length<=i/\Fd c.1) (JZ (.lst (nD L))) t (S,.lst []) ⟨[],rfl,`z,by simp,zDG⟩ λi hi c ⟨xs,ec,O,j,N⟩=>by obtain⟨g,l⟩:=c;simp only at ec N;subst ec;obtain⟨a,g1,y,ha1,m⟩:=U N;obtain⟨b,g2,w,hb1,A⟩:=U m;refine⟨(g2,.lst (xs++[pr (a,b)])),?_,_,rfl,O.snoc ha1 hb1,by simp;omega,A⟩;unfold JZ;simp only[Df,YC,A0,y,w,Dc (A8 j (A8 (R8 hi) (A8 (R8 C) `d)))];rfl
 simp only at k G;subst k;obtain⟨u,f21,e21,hu,W⟩:=U G;obtain⟨v,R,e23,hv,H⟩:=U W;obtain⟨ps,rfl,hps⟩:=XB O;obtain⟨ls,T,M⟩:=Of (nA wE aE) (V.symm▸A8 e `d) har (ps:=ps) λp hp=>by rw[V];exact hps p hp
 rw[eE]at T;obtain⟨ys,e26,hys,J⟩:=Vl (n:=L.length) (A8 e `d);have Z:items (.lst ys)=_s ys:=rfl;obtain⟨zs,e35,l35,h35⟩:=Ju (JY (.lst (ps.map pr)) (.lst (nI ls))) (λd=>∃p:Nat×Nat,d=pr p/\p.1 < L.length/\p.2 < L.length) ys λx k=>by
  obtain⟨p,rfl,p1,D⟩:=hys x k;obtain⟨b,eb⟩:=XF O p;unfold pr at eb;unfold JY pr;rw[HP];unfold Nx;simp only[QC (M.symm▸V.symm▸p1:p.1 < ls.length),QC (M.symm▸V.symm▸D:p.2 < ls.length),A0,Co];split;have eb':FL (.tup [.int (p.1:Nat),.int (p.2:Nat)]) (.lst (ps.map λp=>.tup [.int (p.1:Nat),.int (p.2:Nat)]))=_s b:=eb;simp only[eb',A0];cases b with|true=>exact⟨_,rfl,λd z=>by cases z;exact⟨p,rfl,p1,D⟩⟩|false=>exact⟨_,rfl,λd z=>by cases z⟩
  exact⟨_,rfl,λd z=>by cases z⟩
 have z6:zs.length<=1000000:=A8 l35 (A8 J `d);have t45:∃o u' v',JW (.int (u:Nat)) (.int (v:Nat)) R zs=_s (o,.int (u':Nat),.int (v':Nat))/\u' < L.length/\v' < L.length/\Fd o:=by have lz:AS (.lst zs)=_s (.int (zs.length:Nat)):=rfl;unfold JW Nw;simp only[lz,A0,Pl];by_cases z0:0 < zs.length;obtain⟨r,g1,y,b1,m⟩:=AU H (n:=2) `d `d;simp only[z0,decide_true,if_true,y,A0,Co];split;obtain⟨s,g2,w,F,A⟩:=GE m z0 z6;have ex:AC (.lst zs) (.int (s:Nat))=_s zs[s]:=CM zs s F;have k:=K7 F;generalize zs[s]=x at ex k;obtain⟨p,rfl,p1,D⟩:=h35 x k;refine⟨g2,p.1,p.2,?_,p1,D,A⟩;simp only[w,ex,A0];rfl;exact⟨g1,u,v,rfl,hu,hv,m⟩;simp only[z0,decide_false,B4,if_false,A0];exact⟨R,u,v,rfl,hu,hv,H⟩
 obtain⟨o,u',v',e45,hu',hv',X⟩:=t45;have Y:items (.lst (ps.map pr))=_s (ps.map pr):=rfl;obtain⟨ws,e51,K,h51⟩:=Dw (JX (.lst (nD L))) (λd=>∃p,d=pD p/\FA ar p.1/\FA ar p.2) (ps.map pr) λx k=>by obtain⟨p,rfl,p1,D⟩:=O x k;obtain⟨E1,y,k1⟩:=Gj Q p1 e ha;obtain⟨E2,w,k2⟩:=Gj Q D e ha;refine⟨pD (E1,E2),?_,_,rfl,k1,k2⟩;unfold JX pr;rw[HP];simp only[y,w,A0];rfl
 obtain⟨gs,rfl,hgs⟩:=gL h51;obtain⟨E1,q53,k1⟩:=Gj Q hu' e ha;obtain⟨E2,q54,k2⟩:=Gj Q hv' e ha;refine zQ ?_;refine⟨fs,ds,I,gs,(E1,E2),o,ar,?_,?_,⟨by omega,tf,by omega,td,ha,har,by omega⟩,hgs,⟨k1,k2⟩,X⟩;unfold Hi;simp only[e1,e2,i0,l0,y,w,q3,A0,e7,a7,e9,B,rg];rw[e19];simp only[A0,YC,e21,e23,T,e26,Z];rw[Ap (A8 J `d),e35];simp only[A0,e45,Y];rw[Ap (A8 j (A8 (R8 C) `d)),e51];simp only[A0,AY,q53,q54];rfl;rw[C3]at K j;rw[C3]at K;omega
theorem Lq{a b:Type}(f:a->b):∀(xs:List a)(i:Nat),(xs.map f).eraseIdx i=(xs.eraseIdx i).map f
 |[],_=>rfl
 |_::_,0=>rfl
 |x::xs,i+1=>by simp only[B7,wF,Lq f xs i]
noncomputable abbrev LF:=List Ne
variable{gs:List (LF×LF)}{q:LF×LF}
theorem PO.qok{ar:List Nat->Nat}(hl:gs.length<=7)(h:∀p∈gs,PO ar p)(h1:FB ar q.1)(h2:FB ar q.2):ua ar gs q:=⟨hl,λE c=>by
 obtain⟨p,a,c⟩:=List.mem_flatMap.mp c;have b:FB ar p.1/\FB ar p.2:=by
  rcases C0.mp a with a|a
  exact⟨(h p a).1.1,(h p a).2.1⟩;rw[C4]at a;subst a;exact⟨h1,h2⟩
 simp only[D3,X2,or_false]at c;rcases c with rfl|rfl
 exact b.1;exact b.2⟩
def mw(A:Al)(gs:List (LF×LF)):Prop:=∀p∈gs,fv A p.1=fv A p.2
theorem Vx{a:List (LF×LF)}{b:LF×LF}(h:Vq gs q↔Vq a b):wd gs q=wd a b:=by unfold wd;by_cases c:Vq gs q;rw[if_pos c,if_pos (h.mp c)];rw[if_neg c,if_neg λz=>c (h.mpr z)]
theorem GD(h:Vq gs q):wd gs q=IV:=if_pos h
theorem Rz(h:¬Vq gs q):wd gs q=zBY:=if_neg h
theorem fC:Iw (wd gs q) (wd gs q)=_s false:=by unfold wd;split<;>rfl
theorem NV{hs:List (LF×LF)}(h:gs.length+hs.length<=100):AV (.tup (gs.map pD)) (.tup (hs.map pD))=_s (.tup ((gs++hs).map pD)):=by simp only[AV,C3,if_pos (show gs.length+hs.length<=1000000 by omega),M4]
theorem DU{A:Al}{hs:List (LF×LF)}:mw A (gs++hs)↔mw A gs/\mw A hs:=⟨λh=>⟨λp a=>h p (C7 _ a),λp a=>h p (B9 _ a)⟩,λh p a=>(C0.mp a).elim (h.1 p) (h.2 p)⟩
theorem Ik{A:Al}{p:LF×LF}:mw A [p]↔fv A p.1=fv A p.2:=⟨λh=>h p B1,λh q a=>by rw[C4]at a;subst a;exact h⟩
theorem pG(d:Dv){a:Nat}(h:a=1\/a=2):Cp (.tup [d]) (.int (a:Nat))=_s (.tup (B6 a d)):=by rcases h with rfl|rfl<;>rfl
theorem tM(x:Ne)(h:E.length<=100):AV (.tup (eD E)) (.tup [x.dv])=_s (.tup (eD (E++[x]))):=by have a:eD (E++[x])=eD E++[x.dv]:=ZI _ _;rw[a];simp only[AV,Ef,D6,if_pos (show E.length+1<=1000000 by omega)]
theorem tO(x:Ne)(a:0 < E.length):AV (.int ((E.length-1:Nat))) (.int 1)=_s (.int (((E++[x]).length-1:Nat))):=by
 have z:((E.length-1:Nat):Int)+1=(((E++[x]).length-1:Nat):Int):=by rw[B5,D6];omega
 rw[HE,z]
theorem su(A:Al)(E:List Ne)(l:List Nat)(a:Nat):fv A (E++[.act l (B6 a (E.length-1))])=A.act l (B6 a (fv A E)):=by unfold fv;have b:=Dy (vs A E) (vl A (vs A E) (.act l (B6 a (E.length-1))));rw[JD]at b;rw[FU,B5,D6,Nat.add_sub_cancel,b];show A.act l ((B6 a (E.length-1)).map λp=>(vs A E).getD p 0)=_;rw[yA]
theorem dW{b a x g f e d c:Dv}(h1:AC x (.int 0)=_s g)(h2:AC x (.int 1)=_s f)(h3:Cp (.tup [a]) f=_s e)(h4:AV b (.tup [.tup [.str [100,111],g,e]])=_s d)(h5:AV a (.int 1)=_s c):Et (.tup [b,a]) x=_s (.tup [d,c]):=by unfold Et;rw[HP];simp only[h1,h2,h3,h4,h5,A0]
theorem lL{l:List Nat}{a:Nat}(b:a=1\/a=2)(e:0 < E.length)(len:E.length<=20):Et (fD E) (.tup [.str l,.int (a:Nat)])=_s (fD (E++[.act l (B6 a (E.length-1))])):=by
 have d:AC (.tup [.str l,.int (a:Nat)]) (.int 0)=_s (.str l):=rfl;have c:AC (.tup [.str l,.int (a:Nat)]) (.int 1)=_s (.int (a:Nat)):=rfl;have m:=pG (.int ((E.length-1:Nat))) b;have f:=tO (.act l (B6 a (E.length-1))) e;have ad:AV (.tup (eD E)) (.tup [.tup [.str [100,111],.str l,.tup (B6 a (.int ((E.length-1:Nat))))]])=_s (.tup (eD (E++[.act l (B6 a (E.length-1))]))):=by have:=tM (.act l (B6 a (E.length-1))) (show E.length<=100 by omega);simp only[Ne.dv,tI,nI,yA]at this;exact this
 exact dW d c m ad f
section
variable{fs ds:List Dv}{I:Nat}{ar:List Nat->Nat}(sh:zDM fs ds I ar)
include sh
theorem BG(hl:gs.length<=7)(h:∀p∈gs,PO ar p)(h1:FB ar q.1)(h2:FB ar q.2):BS (.tup [.tup fs,.tup ds]) (.int (I:Nat)) (.tup (gs.map pD)) (pD q)=_s (wd gs q):=by obtain⟨r,e⟩:=Mt sh (PO.qok hl h h1 h2);have a:AC (.tup (wd gs q::r)) (.int 0)=_s (wd gs q):=CM (wd gs q::r) 0 `s;unfold BS;simp only[e,a,A0]
theorem VM{x:Dv}(f:x∈ds):∃l r,∀E:LF,FA ar E->Et (fD E) x=_s (fD (E++[.act l (B6 r (E.length-1))]))/\FB ar (E++[.act l (B6 r (E.length-1))])/\∀A,fv A (E++[.act l (B6 r (E.length-1))])=A.act l (B6 r (fv A E)):=by
 obtain⟨a,r,rfl,⟨l,rfl⟩,j,hm⟩:=KW (a:=.non) (r:=0) f sh.td;have d:=sh.ha l r hm;obtain⟨b,rfl⟩:∃b:Nat,r=(b:Nat):=⟨ar l,d.symm⟩;have e:b=1\/b=2:=by omega
 refine⟨l,b,λE h=>?_⟩;obtain⟨⟨⟨w,i,_⟩,ha⟩,len⟩:=h;refine⟨lL e i len,⟨⟨w.snoc (λp g=>?_) ?_,by simp,?_⟩,λy c=>?_⟩,λA=>su A E l b⟩;have:=List.eq_of_mem_replicate g;omega;show(B6 b (E.length-1)).length<=2;rw[V9];omega;rw[B5,D6];omega;rcases C0.mp c with c|c
 exact ha y c;rw[C4]at c;subst c;show(B6 b (E.length-1)).length=ar l;rw[V9];omega
end
theorem u4{e:Type}{i j k l:Nat}{a b c d:Dv}(g:Dv×Dv×Dv×Dv->Option e):((MM [i,j,k,l] (.tup [a,b,c,d])).bind fun(t:Dv×Dv×Dv×Dv)=>g t)=g (a,b,c,d):=rfl
theorem iQ{r:Nat}(h:r < gs.length)(hl:gs.length<=1000):IF (.lst (gs.map pD)) [.int (r:Nat)]=_s (pD gs[r],.lst ((gs.eraseIdx r).map pD)):=by
 have s:R.small (r:Int)=true:=by unfold R.small;simp only[A3,decide_eq_true_eq];omega
 have q:wC (r:Int) (gs.map pD).length=_s r:=by
  unfold wC;rw[C3];have a:¬((r:Int) < 0):=by omega
  have b:((r:Int) < (gs.length:Nat)):=by omega
  simp only[if_neg a];simp[b]
 have g:(gs.map pD)[r]?=_s (pD gs[r]):=by rw[D0,A2 h];rfl
 simp only[IF,s,if_true,q,A0,g,F0,Lq]
theorem kR{b:Type}{xs:List b}{r:Nat}(h:r < xs.length){x:b}(a:x∈xs):x=xs[r]\/x∈xs.eraseIdx r:=by
 rw[List.eraseIdx_eq_take_drop_succ];have e:xs=xs.take r++xs[r]::xs.drop (r+1):=by rw[wk,e8]
 rw[e]at a;rcases C0.mp a with a|a
 exact .inr (C7 _ a);rcases D3.mp a with a|a
 exact .inl a;exact .inr (B9 _ a)
theorem Nk{f:Dv}(hf:Fd f)(hl:gs.length<=7):∃(d:List (LF×LF))(j:Dv),Ep f (.tup (gs.map pD))=_s (.tup (d.map pD),j)/\Fd j/\d.length=gs.length/\(∀p∈d,p∈gs\/p.swap∈gs)/\∀p∈gs,p∈d\/p.swap∈d:=by
 obtain⟨c,e,j,a,rfl,w,lf,h1,h2⟩:=Dm Cv EW (λm c=>∃(f:Dv)(left a:List (LF×LF)),c=(f,Dv.lst (left.map pD),Dv.lst (a.map pD))/\Fd f/\left.length=m/\left.length+a.length=gs.length/\(∀p∈left,p∈gs)/\(∀p∈a,p∈gs\/p.swap∈gs)/\∀p∈gs,p∈left\/p∈a\/p.swap∈a)
  (λc=>∃(f:Dv)(a:List (LF×LF)),c=(f,Dv.lst [],Dv.lst (a.map pD))/\Fd f/\a.length=gs.length/\(∀p∈a,p∈gs\/p.swap∈gs)/\∀p∈gs,p∈a\/p.swap∈a) (λm c ⟨f,left,a,ec,hf,hm,I,A,h1,h2⟩=>by
  subst ec;have C:AS (.lst (left.map pD))=_s (.int (left.length:Nat)):=by show _s (Dv.int ((left.map pD).length:Nat))=_;rw[C3]
  have t:Cv (f,.lst (left.map pD),.lst (a.map pD))=_s (decide (0 < left.length)):=by unfold Cv;simp only[C,A0,Pl]
  by_cases hz:0 < left.length;obtain⟨r,N,K,l,v⟩:=GE hf hz `o;obtain⟨k,f2,J,O,u⟩:=AU v (n:=2) `d `d;have F:=iQ l `o;have s:=K7 l;have B:=λx b=>kR (x:=x) l b;generalize left[r]=p at F s B;have o:∃g,(g=p\/g=p.swap)/\AC (.lst [.tup [fD p.1,fD p.2],.tup [fD p.2,fD p.1]]) (.int (k:Nat))=_s (pD g):=by
   have:k=0\/k=1:=by omega
   rcases this with rfl|rfl
   exact⟨p,.inl rfl,rfl⟩;exact⟨p.swap,.inr rfl,rfl⟩
  obtain⟨g,i,D⟩:=o;have el:(left.eraseIdx r).length=left.length-1:=by rw[xR,if_pos l]
  refine .inr ⟨by rw[t,decide_eq_true hz],(f2,.lst ((left.eraseIdx r).map pD),.lst ((a++[g]).map pD)),(left.eraseIdx r).length,?_,by omega,f2,_,_,rfl,u,rfl,by rw[B5,D6];omega,λx b=>A x (List.mem_of_mem_eraseIdx b),λx b=>?_,λx b=>?_⟩;unfold EW;simp only[Df,C,K,F,A0];unfold pD at D ⊢;rw[HP];simp only[Df,J,D,A0,Dc (show(a.map λp=>Dv.tup [fD p.1,fD p.2]).length<=1000000 by rw[C3];omega),M4,B7,N0];rcases C0.mp b with b|b
  exact h1 x b;rw[C4]at b;subst b;rcases i with rfl|rfl
  exact .inl (A _ s);exact .inr (by rw[Prod.swap_swap];exact A _ s);have G:∀{y:LF×LF},y∈a->y∈a++[g]:=λh=>C7 _ h;rcases h2 x b with h|h|h
  rcases B x h with rfl|h
  rcases i with rfl|rfl
  exact .inr (.inl `s);exact .inr (.inr `s);exact .inl h;exact .inr (.inl (G h));exact .inr (.inr (G h));have:left=[]:=F7 `o;subst this;exact .inl ⟨by rw[t,decide_eq_false hz],f,a,rfl,hf,by simpa using I,h1,λp H=>(h2 p H).elim (λz=>by cases z) id⟩) 1000000 gs.length (f,.lst (gs.map pD),.lst (([]:List (LF×LF)).map pD)) `o ⟨f,gs,[],rfl,hf,rfl,by simp,λ_ h=>h,`z,λp h=>.inl h⟩
 refine⟨a,j,?_,w,lf,h1,h2⟩;have M:Kd (.tup (gs.map pD))=_s (.lst (gs.map pD)):=rfl;unfold Ep;simp only[M,A0];have L:Tz Cv EW 1000000 (f,.lst (gs.map pD),.lst [])=_:=e;rw[L];rfl
section
variable{fs ds:List Dv}{I:Nat}{ar:List Nat->Nat}(sh:zDM fs ds I ar){gs:List (LF×LF)}{q:LF×LF}(hl:gs.length<=5)(hg:∀p∈gs,PO ar p)(hq:PO ar q)
include sh hl hg hq
theorem Qa{f:Dv}(hf:Fd f):∃J,Ge f (.tup [.tup [.tup fs,.tup ds],.int (I:Nat),.tup (gs.map pD),pD q])=_s (.bl _t,J)/\Fd J:=by
  have S:=BG sh (gs:=gs) (q:=q) `o hg hq.1.1 hq.2.1;obtain⟨hs,Z,e1,t,ll,D,T⟩:=Nk hf (gs:=gs) `o;refine⟨Z,?_,t⟩;have U:EC (.int 1)=_s (.int (-1)):=rfl;have rv:Kc (pD q) (.int (-1))=_s (pD q.swap):=rfl;have s:∀p∈hs,PO ar p:=λp b=>(D p b).elim (hg p) λh=>⟨(hg _ h).2,(hg _ h).1⟩;have R:=BG sh (gs:=hs) (q:=q.swap) `o s hq.2.1 hq.1.1;have j:∀A,mw A hs↔mw A gs:=λA=>⟨λh p b=>(T p b).elim (h p) λz=>(h _ z).symm,λh p b=>(D p b).elim (h p) λz=>(h _ z).symm⟩;have u:wd hs q.swap=wd gs q:=Vx ⟨λF A a=>(F A ((j A).mpr a)).symm,λF A a=>(F A ((j A).mp a)).symm⟩;have H:AC (pD q) (.int 0)=_s (fD q.1):=rfl;have V:AC (pD q) (.int 1)=_s (fD q.2):=rfl;have a1:=NV (gs:=gs) (hs:=[(q.1,q.1)]) `w;have Q:=BG sh (gs:=gs++[(q.1,q.1)]) (q:=q) `w (λp b=>(C0.mp b).elim (hg p) λh=>by rw[C4]at h;subst h;exact⟨hq.1,hq.1⟩) hq.1.1 hq.2.1;have f2:wd (gs++[(q.1,q.1)]) q=wd gs q:=Vx ⟨λF A a=>F A (DU.mpr ⟨a,Ik.mpr rfl⟩),λF A a=>F A (DU.mp a).1⟩;have M:=NV (gs:=gs) (hs:=[q]) `w;have P3:∀p∈gs++[q],PO ar p:=λp b=>(C0.mp b).elim (hg p) λh=>by rw[C4]at h;subst h;exact hq
  have P:=BG sh (gs:=gs++[q]) (q:=q) `w P3 hq.1.1 hq.2.1;have Y:wd (gs++[q]) q=IV:=GD λA a=>Ik.mp (DU.mp a).2;unfold Ge;rw[u4];simp only[S,e1,U,rv,R,u,fC,A0,B4,if_false,H];have v:AV (.tup (gs.map pD)) (.tup [.tup [fD q.1,fD q.1]])=_:=a1;simp only[v,Q,f2,fC,A0,B4,if_false];by_cases c:Vq gs q;have eb:Ek IV (.str [112,97,114,116])=_s false:=rfl;have cl:Cn gs _n (_s 1)=gs.take 1:=by
    unfold Cn;show(gs.drop 0).take (min (1:Int).toNat gs.length-0)=gs.take 1;rw[zZ,Nat.sub_zero];cases gs with|nil=>rfl|cons g gs=>show(g::gs).take (min 1 (gs.length+1))=_;rw[R1 `o]
  have sl:JB (.tup (gs.map pD)) _n (_s 1)=_s (.tup ((gs.take 1).map pD)):=by show _s (Dv.tup (Cn (gs.map pD) _n (_s 1)))=_;rw[<- Mj,cl]
  have l1:(gs.take 1).length<=1:=by rw[N6];omega
  have a4:=NV (gs:=gs) (hs:=gs.take 1) `o;have O:=BG sh (gs:=gs++gs.take 1) (q:=q) (by rw[B5];omega) (λp b=>(C0.mp b).elim (hg p) λh=>hg p (m7 h)) hq.1.1 hq.2.1;have X:wd (gs++gs.take 1) q=IV:=GD λA a=>c A (DU.mp a).1;have d1:AC (.tup [.tup fs,.tup ds]) (.int 1)=_s (.tup ds):=rfl;have it:items (.tup ds)=_s ds:=rfl;have G:Iw IV IV=_s false:=rfl;have go:Oq (He (.tup [.tup fs,.tup ds]) (.int (I:Nat)) (.tup (gs.map pD)) (pD q) IV) ds ()=_s (.go ()):=Ms _ _ _ λx W=>by
    obtain⟨l,r,hd⟩:=VM sh W;obtain⟨L,o,C⟩:=hd q.1 hq.1;obtain⟨K,n,B⟩:=hd q.2 hq.2;generalize q.1++[Ne.act l (B6 r (q.1.length-1))]=i at L o C;generalize q.2++[Ne.act l (B6 r (q.2.length-1))]=e at K n B;have N:Vq gs (i,e):=λA a=>by show fv A i=fv A e;rw[C,B,c A a]
    have y:=BG sh (gs:=gs) (q:=(i,e)) `o hg o n;have w:=BG sh (gs:=gs++[q]) (q:=(i,e)) `w P3 o n;have F6:Vq (gs++[q]) (i,e):=λA a=>N A (DU.mp a).1;rw[GD N]at y;rw[GD F6]at w;have m:BS (.tup [.tup fs,.tup ds]) (.int (I:Nat)) (.tup (gs.map pD)) (.tup [fD i,fD e])=_:=y;have k:BS (.tup [.tup fs,.tup ds]) (.int (I:Nat)) (.tup ((gs++[q]).map pD)) (.tup [fD i,fD e])=_:=w;have d:AV (.tup (gs.map pD)) (.tup [pD q])=_:=M;unfold He;simp only[H,V,L,K,m,k,d,G,A0,B4,if_false]
  rw[GD c];simp only[eb,sl,a4,O,X,G,d1,it,go,A0,B4,if_false,Rs.el];have eb:Ek zBY (.str [112,97,114,116])=_s true:=rfl;have ef:Ek IV (.str [102,111,108,108,111,119,115])=_s true:=rfl;have d:AV (.tup (gs.map pD)) (.tup [pD q])=_:=M;rw[Rz c];simp only[eb,d,P,Y,ef,A0,if_true]
end
theorem mK{a:Type}(x:a)(xs:List a):Cn (xs++[x]) _n (_s (-1))=xs:=by
 unfold Cn;have h:HT.sIx (xs++[x]).length (xs++[x]).length (_s (-1))=xs.length:=by show(if(-1:Int) < 0 then((-1:Int)+((xs++[x]).length:Int)).toNat else min (-1:Int).toNat (xs++[x]).length)=_;rw[if_pos `d,B5,D6];omega
 rw[h];show((xs++[x]).drop 0).take (xs.length-0)=xs;simp
section
variable{fs ds:List Dv}{I:Nat}{ar:List Nat->Nat}(sh:zDM fs ds I ar){gs:List (LF×LF)}{q:LF×LF}(hl:gs.length<=5)(hg:∀p∈gs,PO ar p)(hq:PO ar q)
include sh hl hg hq
theorem RQ:Bp (.tup [.tup [.tup fs,.tup ds],.int (I:Nat),.tup (gs.map pD),pD q])=_s (.bl _t):=by
  have r:AS (.tup (gs.map pD))=_s (.int (gs.length:Nat)):=by show _s (Dv.int ((gs.map pD).length:Nat))=_;rw[C3]
  have lt:aT (.int (gs.length:Nat)) (.int 2)=_s (decide (gs.length < 2)):=by show _s (decide (((gs.length:Nat):Int) < 2))=_;congr 1;exact decide_eq_decide.mpr `o
  unfold Bp;rw[u4];simp only[r,lt,A0];by_cases c:gs.length < 2;rw[decide_eq_true c];rfl
  · rw[decide_eq_false c];obtain⟨b,f,rfl⟩:∃b f,gs=b++[f]:=by refine JQ (P:=λgs=>¬gs.length < 2->∃b f,gs=b++[f]) (λh=>(h `d).elim) (λl x _ _=>⟨l,x,rfl⟩) gs c
    have o:EC (.int 1)=_s (.int (-1)):=rfl;have sl:JB (.tup ((b++[f]).map pD)) _n (_s (-1))=_s (.tup (b.map pD)):=by show _s (Dv.tup (Cn ((b++[f]).map pD) _n (_s (-1))))=_;rw[<- Mj,mK]
    have ix:AC (.tup ((b++[f]).map pD)) (.int (-1))=_s (pD f):=by
      have z:Kh ((b++[f]).map pD).length (-1)=_s b.length:=by unfold Kh;rw[if_neg `o,if_pos `w];congr 1;simp;omega
      show(Kh ((b++[f]).map pD).length (-1)).bind (λj=>((b++[f]).map pD)[j]?)=_;rw[z];simp
    rw[B5,D6]at hl;have hi:∀p∈b,PO ar p:=λp s=>hg p (C7 _ s);have g:=hg f `s;have n:=BG sh (gs:=b) (q:=f) `o hi g.1.1 g.2.1;simp only[o,mQ,sl,ix,n,A0,B4,if_false];by_cases d:Vq b f
    · have i:Iw IV (.str [102,111,108,108,111,119,115])=_s false:=rfl;have m:=BG sh (gs:=b++[f]) (q:=q) (by rw[B5,D6];omega) hg hq.1.1 hq.2.1;have k:=BG sh (gs:=b) (q:=q) `o hi hq.1.1 hq.2.1;have e:wd (b++[f]) q=wd b q:=Vx ⟨λF A a=>F A (DU.mpr ⟨a,Ik.mpr (d A a)⟩),λF A a=>F A (DU.mp a).1⟩;have eq:Ek (wd b q) (wd b q)=_s true:=by unfold wd;split<;>rfl
      rw[GD d];simp only[i,m,k,e,eq,A0,B4,if_false]
    have i:Iw zBY (.str [102,111,108,108,111,119,115])=_s true:=rfl;rw[Rz d];simp only[i,A0,if_true]
end
theorem iF(ns:List Int)(k:Nat):MR (.scr ns) (.int (k:Nat)) ()=_s (.go ()):=by obtain⟨f,H,hf⟩:=VA (ns:=ns) (k:=k);obtain⟨fs,ds,I,gs,q,f2,ar,G,hl,n,r,o,m⟩:=Lx hf;obtain⟨L,D,l⟩:=Qa n hl r o m;have C:=RQ n hl r o;obtain⟨fs',d,g,b,c,K,J,B,z,i,j,e,_⟩:=Lx l;have u:AC (.tup [.tup [.tup fs',.tup d],.int (g:Nat),.tup (b.map pD),pD c]) (.int 2)=_s (.tup (b.map pD)):=rfl;have t:AC (.tup [.tup [.tup fs',.tup d],.int (g:Nat),.tup (b.map pD),pD c]) (.int 3)=_s (pD c):=rfl;have x:AC (.tup [.tup [.tup fs',.tup d],.int (g:Nat),.tup (b.map pD),pD c]) (.int 0)=_s (.tup [.tup fs',.tup d]):=rfl;have v:AC (.tup [.tup [.tup fs',.tup d],.int (g:Nat),.tup (b.map pD),pD c]) (.int 1)=_s (.int (g:Nat)):=rfl;have a:AV (.tup (b.map pD)) (.tup [pD c])=_:=NV (gs:=b) (hs:=[c]) `w;have w:=BG i (gs:=b++[c]) (q:=c) `w (λp y=>(C0.mp y).elim (j p) λh=>by rw[C4]at h;subst h;exact e) e.1.1 e.2.1;have F:Vq (b++[c]) c:=λA a=>Ik.mp (DU.mp a).2;rw[GD F]at w;have s:Iw IV (.str [102,111,108,108,111,119,115])=_s false:=rfl;unfold MR;rw[H,A0,G,A0];dsimp only;rw[D,A0];dsimp only;rw[QQ,A0,if_neg `d,B,A0];dsimp only;rw[C,A0,sX,cond_true,QQ,A0,if_neg `d,u,A0,t,A0,a,A0,x,A0,v,A0,A0,w,A0,s,A0,if_neg `d]
theorem YD(ns:List Int)(h:ns.length<=63):one bM [Dv.scr ns]=_s (Dv.bl _t):=by
 show bM (.scr ns)=_;have e:AS (.scr ns)=_s (.int (ns.length:Nat)):=rfl;obtain⟨L,i,d⟩:∃L:Nat,L<=5/\MH (.int 5) (.int (ns.length:Nat))=_s (.int (L:Nat)):=by simp only[MH];split;exact⟨ns.length,by omega,rfl⟩;exact⟨5,by omega,rfl⟩
 obtain⟨M,j,g,c⟩:∃M:Nat,M<=5/\4<=M/\ED (.int 4) (.int (L:Nat))=_s (.int (M:Nat)):=by simp only[ED];split;exact⟨L,i,by omega,rfl⟩;exact⟨4,by omega,by omega,rfl⟩
 have a:(R.small 1&&R.small (M:Nat))=true:=by unfold R.small;simp only[A3,decide_eq_true_eq];omega
 have b:UL [.int 1,.int (M:Nat)]=_s ((B2 ((M:Int)-1).toNat).map λk=>.int (1+(k:Nat))):=by simp only[UL,a,cond_true]
 unfold bM;simp only[e,d,c,b,A0];rw[Ms (MR (.scr ns)) () _ λx f=>?_];rfl;obtain⟨k,_,rfl⟩:=J8.mp f;have:=iF ns (1+k);rw[show((1+k:Nat):Int)=1+(k:Int) by omega]at this;exact this
theorem all_mk{l:W.OpenLaw}{w:J5}{K:W.Frag}{h:K4}{mg:Str->Option _v}{fa:B8}(X:K.In h)(G:h.Ns M1 mg)(Y:mg "law" = _s (.ref fa))(hz:md.bl.all (Qo K)=_t)
    (F:GF K "entries_of" (top 3))
    (B:GF K "made_row" (top 5))
    (L:GF K "made_table" (top 4))
    (M:GF K "made_world" (top 2))
    (R:GM K "Nodes" "Nodes.__init__" "__init__" (Kn 7 0))
    (T:GM K "Nodes" "Nodes.number_of" "number_of" (Kn 7 1))
    (N:GF K "renumbered" (top 8))
    (f:GF K "laid" (top 10))
    (Q:GM K "Joins" "Joins.__init__" "__init__" (Kn 12 0))
    (S:GM K "Joins" "Joins.root_of" "root_of" (Kn 12 1))
    (U:GM K "Joins" "Joins.are_joined" "are_joined" (Kn 12 2))
    (V:GM K "Joins" "Joins.make_joined" "make_joined" (Kn 12 3))
    (J:GF K "laid_pairs" (top 13))
    (P:GF K "values_by_root" (top 16))
    (H:GF K "given_rows" (top 17))
    (D:GF K "like_rows" (top 18))
    (x:GF K "follows" (top 15))
    (j:GF K "_law_feed" (top 20))
    (k:GF K "_law_take" (top 21))
    (o:GF K "_law_names" (top 22))
    (u:GF K "_law_shape" (top 23))
    (C:GF K "_law_ordered" (top 24))
    (p:GF K "_law_nodes" (top 25))
    (z:GF K "_law_merged" (top 26))
    (n:GF K "_law_likes" (top 27))
    (y:GF K "_law_labels" (top 28))
    (I:GF K "_law_all_pairs" (top 30))
    (g:GF K "_law_case" (top 29))
    (m:GF K "_law_word" (top 31))
    (i:GF K "_law_done" (top 32))
    (A:GF K "_law_turned" (top 33))
    (t:GF K "_law_right" (top 34))
    (O:GF K "_law_fewer_right" (top 35))
    (d:GF K "law" (top 36))
    (a:GC K "Joins" md.fl)
    (c:GC K "Nodes" md.fl)
    : ∃fd:S2,(∀(s:A7)(v:_v),yJ s fd ⟨[v],[]⟩ [("_law_script", v)])/\∀base:K4,K.In base->base.Ns M1 mg->zAb l.prog w K mg base Rw 40 fa fd ["_law_script"] (SN K):=by
  have e:=Y.symm.trans (W.mg_of X G d.1);cases e;have b:Bs md K mg:=qq X G rfl hz;refine⟨W.fnOf "law" "law" (BQ (top 36)) (Ay (top 36)) (AK (top 36)) .none .none .none (bw K (EG K "law")) _n (VS K (EG K "law")) .none,λs v=>.of_eq rfl,λbase _ _=>?_⟩;have f0:Fs l.prog w K mg base md.fl 0 sx:=Fs.nil;have f1:=f0.def (nb:=_f) b `k PK F (W.mg_of X G F.1) (Ba 3 `k λ_ _ _ _ _ _ _ _ _=>by kernel_rfl);have f2:=f1.def (nb:=_f) b `k VE B (W.mg_of X G B.1) (Ba 2 `k λ_ _ _ _ _ _ _ _=>by kernel_rfl);have f3:=f2.def (nb:=_f) b `k PC L (W.mg_of X G L.1) (Ba 3 `k λ_ _ _ _ _ _ _ _ _=>by kernel_rfl);have f4:=f3.def (nb:=_f) b `k PB M (W.mg_of X G M.1) (Ba 5 `k λ_ _ _ _ _ _ _ _ _ _ _=>by kernel_rfl);have f5:=f4.zCn (nb:=_t) b `k Oz R c (W.mg_of X G c.1) (Ba 1 `k λ_ _ _ _ _ _ _=>by kernel_rfl);have f6:=f5.zCn (nb:=_f) b `k IZ T c (W.mg_of X G c.1) (Ba 2 `k λ_ _ _ _ _ _ _ _=>by kernel_rfl);have f7:=f6.def (nb:=_t) b `k NB N (W.mg_of X G N.1) (Ba 2 `k λ_ _ _ _ _ _ _ _=>by kernel_rfl);have f8:=f7.def (nb:=_f) b `k lJ f (W.mg_of X G f.1) (Ba 1 `k λ_ _ _ _ _ _ _=>by kernel_rfl);have f9:=f8.zCn (nb:=_t) b `k PH Q a (W.mg_of X G a.1) (Ba 2 `k λ_ _ _ _ _ _ _ _=>by kernel_rfl);have f10:=f9.zCn (nb:=_f) b `k Kq S a (W.mg_of X G a.1) (Ba 2 `k λ_ _ _ _ _ _ _ _=>by kernel_rfl);have f11:=f10.zCn (nb:=_t) b `k Hv U a (W.mg_of X G a.1) (Ba 3 `k λ_ _ _ _ _ _ _ _ _=>by kernel_rfl);have f12:=f11.zCn (nb:=_t) b `k Gw V a (W.mg_of X G a.1) (Ba 3 `k λ_ _ _ _ _ _ _ _ _=>by kernel_rfl);have f13:=f12.def (nb:=_f) b `k PD J (W.mg_of X G J.1) (Ba 2 `k λ_ _ _ _ _ _ _ _=>by kernel_rfl);have f14:=f13.def (nb:=_f) b `k KJ P (W.mg_of X G P.1) (Ba 2 `k λ_ _ _ _ _ _ _ _=>by kernel_rfl);have f15:=f14.def (nb:=_f) b `k PJ H (W.mg_of X G H.1) (Ba 2 `k λ_ _ _ _ _ _ _ _=>by kernel_rfl);have f16:=f15.def (nb:=_f) b `k RU D (W.mg_of X G D.1) (Ba 2 `k λ_ _ _ _ _ _ _ _=>by kernel_rfl);have f17:=f16.def (nb:=_f) b `k VI x (W.mg_of X G x.1) (Ba 4 `k λ_ _ _ _ _ _ _ _ _ _=>by kernel_rfl);have f18:=f17.def (nb:=_f) b `k dP j (W.mg_of X G j.1) (Ba 2 `k λ_ _ _ _ _ _ _ _=>by kernel_rfl);have f19:=f18.def (nb:=_f) b `k dO k (W.mg_of X G k.1) (Ba 2 `k λ_ _ _ _ _ _ _ _=>by kernel_rfl);have f20:=f19.def (nb:=_f) b `k Yz o (W.mg_of X G o.1) (Ba 2 `k λ_ _ _ _ _ _ _ _=>by kernel_rfl);have f21:=f20.def (nb:=_f) b `k Yw u (W.mg_of X G u.1) (Ba 1 `k λ_ _ _ _ _ _ _=>by kernel_rfl);have f22:=f21.def (nb:=_f) b `k RV C (W.mg_of X G C.1) (Ba 2 `k λ_ _ _ _ _ _ _ _=>by kernel_rfl);have f23:=f22.def (nb:=_f) b `k Yy p (W.mg_of X G p.1) (Ba 4 `k λ_ _ _ _ _ _ _ _ _ _=>by kernel_rfl);have f24:=f23.def (nb:=_f) b `k VG z (W.mg_of X G z.1) (Ba 3 `k λ_ _ _ _ _ _ _ _ _=>by kernel_rfl);have f25:=f24.def (nb:=_f) b `k ZA n (W.mg_of X G n.1) (Ba 2 `k λ_ _ _ _ _ _ _ _=>by kernel_rfl);have f26:=f25.def (nb:=_f) b `k VH y (W.mg_of X G y.1) (Ba 2 `k λ_ _ _ _ _ _ _ _=>by kernel_rfl);have f27:=f26.def (nb:=_f) b `k PF I (W.mg_of X G I.1) (Ba 1 `k λ_ _ _ _ _ _ _=>by kernel_rfl);have f28:=f27.def (nb:=_f) b `k dR g (W.mg_of X G g.1) (Ba 2 `k λ_ _ _ _ _ _ _ _=>by kernel_rfl);have f29:=f28.def (nb:=_f) b `k dM m (W.mg_of X G m.1) (Ba 4 `k λ_ _ _ _ _ _ _ _ _ _=>by kernel_rfl);have f30:=f29.def (nb:=_f) b `k dQ i (W.mg_of X G i.1) (Ba 2 `k λ_ _ _ _ _ _ _ _=>by kernel_rfl);have f31:=f30.def (nb:=_f) b `k VF A (W.mg_of X G A.1) (Ba 2 `k λ_ _ _ _ _ _ _ _=>by kernel_rfl);have f32:=f31.def (nb:=_t) b `k Yx t (W.mg_of X G t.1) (Ba 2 `k λ_ _ _ _ _ _ _ _=>by kernel_rfl);have Z:=f32.def (nb:=_t) b `k Kp O (W.mg_of X G O.1) (Ba 1 `k λ_ _ _ _ _ _ _=>by kernel_rfl);have hp:Am (top 36)=(["_law_script"]:List Str):=by kernel_rfl
  have r:=kY (ps:=Am (top 36)) (nb:=_t) (by rw[hp];rfl) (RZ b Z `k qX (ku d)) YD;rw[hp]at r;exact r
theorem walk{l:W.OpenLaw}{q:F9}{loose:List Str}{XP:(Str->Option _v)->K4->Prop}{YP:J5->K4->Prop}{d:z7}{K:xj->W.Frag}(e:l.most=_s 63)(b:d.params.defaults=[])
    (g:∀(w:J5)(h:K4),YP w h->(K w.params).In h)
    (F:∀(w:J5)(mg:Str->Option _v)(c:B8)(h:K4),(K w.params).In h->h.Ns M1 mg->mg d.name=_s (.ref c) ->
      ∃fd:S2,(∀(s:A7)(u:_v),yJ s fd ⟨[u],[]⟩ [("_law_script", u)])/\∀base:K4,(K w.params).In base->base.Ns M1 mg->zAb l.prog w (K w.params) mg base Rw 40 c fd ["_law_script"] (SN (K w.params))) :
    W.WalkO q loose XP YP l.row.toRowW d [] (λf vs=>xk f vs):=
  L2.zDQ (n:=63) (k:=40) (x := "_law_script") (CX:=λ_=>Rw) (sp:=λw=>SN (K w.params)) e `d b ⟨rfl,by decide,by decide,rfl⟩ g F (λ_ _ a ns hl j i=>⟨a,ns,rfl,i,hl,j,λ_=>rfl⟩) λ_ _ _ _ _ z=>z
abbrev fO(i:Nat)(x:Str)(pm:_v)(a:B8):Obj:=⟨.type "function", _n,.func (W.fnOf x x (BQ (top i)) (Ay (top i)) (AK (top i)) .none .none .none pm _n (.ref a) .none),#[]⟩
abbrev ml(i j:Nat)(x q:Str)(pm:_v)(a:B8):Obj:=⟨.type "function", _n,.func (W.fnOf x q (BQ (Kn i j)) (Ay (Kn i j)) (AK (Kn i j)) .none .none .none pm _n (.ref a) .none),#[]⟩
abbrev q10:PySem.Value:=.str "law_shapefree_k45_whole_what_follows_goes_on" 416
abbrev q11:PySem.Value:=.str "shapefree.joins" 301
abbrev q12:PySem.Value:=.str "shapefree.madeworlds" 194
abbrev q13:PySem.Value:=.str "shapefree.nodes" 225
abbrev q14:PySem.Value:=.str "shapefree.given" 369
def KP(P:xj):W.Frag:=[
(3,⟨.type "dict", _n,.dict #[ke P "__name__" 165 q10,ke P "__doc__" 166 .none,ke P "__package__" 167 .none,ke P "__loader__" 168 (.builtin "__main__.__loader__#opaque"),ke P "__spec__" 169 .none,ke P "__annotations__" 170 (.ref 6),ke P "__builtins__" 171 (.ref 4),ke P "__file__" 173 (.str "/claim/cut.py" 172),ke P "__cached__" 174 .none,ke P "_wall" 193 (.ref 21),ke P "made_world" 201 (.ref 26),ke P "entries_of" 207 (.ref 31),ke P "made_table" 213 (.ref 36),ke P "made_row" 224 (.ref 43),ke P "Nodes" 280 (.ref 81),ke P "renumbered" 286 (.ref 90),ke P "laid" 300 (.ref 97),ke P "Joins" 358 (.ref 135),ke P "laid_pairs" 368 (.ref 146),ke P "follows" 388 (.ref 153),ke P "values_by_root" 399 (.ref 160),ke P "given_rows" 409 (.ref 167),ke P "like_rows" 415 (.ref 172),ke P "_law_feed" 427 (.ref 179),ke P "_law_take" 437 (.ref 186),ke P "_law_names" 443 (.ref 191),ke P "_law_shape" 449 (.ref 196),ke P "_law_ordered" 455 (.ref 201),ke P "_law_nodes" 461 (.ref 206),ke P "_law_merged" 467 (.ref 211),ke P "_law_likes" 473 (.ref 216),ke P "_law_labels" 485 (.ref 223),ke P "_law_case" 491 (.ref 228),ke P "_law_all_pairs" 497 (.ref 233),ke P "_law_word" 507 (.ref 240),ke P "_law_done" 517 (.ref 247),ke P "_law_turned" 529 (.ref 254),ke P "_law_right" 546 (.ref 261),ke P "_law_fewer_right" 558 (.ref 268),ke P "law" 570 (.ref 275)] 40,#[]⟩),
(21,fO 0 "_wall" (.str "__main__" 164) 20),
(20,cO "_wall" 187 1 1 3 15 16 .none (.ref 17) (.ref 18) 19 191),
(26,fO 2 "made_world" q12 25),
(25,cO "made_world" 196 5 5 3 22 23 .none .none .none 24 199),
(31,fO 3 "entries_of" q12 30),
(30,cO "entries_of" 202 11 3 3 27 28 .none .none .none 29 205),
(36,fO 4 "made_table" q12 35),
(35,cO "made_table" 208 17 3 3 32 33 .none .none .none 34 211),
(43,fO 5 "made_row" q12 42),
(42,cO "made_row" 214 24 2 3 37 38 .none (.ref 39) (.ref 40) 41 222),
(57,ml 7 0 "__init__" "Nodes.__init__" q13 56),
(56,⟨.type "code", _n,.fields #[.str "__init__" 239,.str "Nodes.__init__" 240,.str "/claim/cut.py" 241,.int 32 0,.int 1 0,.int 0 0,.int 0 0,.int 3 0,.ref 51,.bool _t,.int 181 0,.ref 52,.none,.ref 53,.ref 54,.ref 55,.int 243 0,.int 32 0,.str "/claim/cut.py" 244],#[]⟩),
(64,ml 7 1 "number_of" "Nodes.number_of" q13 63),
(63,⟨.type "code", _n,.fields #[.str "number_of" 246,.str "Nodes.number_of" 247,.str "/claim/cut.py" 248,.int 36 0,.int 2 0,.int 0 0,.int 0 0,.int 3 0,.ref 58,.bool _t,.int 181 0,.ref 59,.none,.ref 60,.ref 61,.ref 62,.int 251 0,.int 36 0,.str "/claim/cut.py" 252],#[]⟩),
(90,fO 8 "renumbered" q13 89),
(89,cO "renumbered" 281 47 2 3 86 87 .none .none .none 88 284),
(97,fO 10 "laid" (.str "shapefree.alike" 287) 96),
(96,cO "laid" 289 52 1 3 91 92 .none (.ref 93) (.ref 94) 95 298),
(111,ml 12 0 "__init__" "Joins.__init__" q11 110),
(110,⟨.type "code", _n,.fields #[.str "__init__" 315,.str "Joins.__init__" 316,.str "/claim/cut.py" 317,.int 64 0,.int 2 0,.int 0 0,.int 0 0,.int 3 0,.ref 105,.bool _t,.int 181 0,.ref 106,.none,.ref 107,.ref 108,.ref 109,.int 320 0,.int 64 0,.str "/claim/cut.py" 321],#[]⟩),
(118,ml 12 1 "root_of" "Joins.root_of" q11 117),
(117,⟨.type "code", _n,.fields #[.str "root_of" 323,.str "Joins.root_of" 324,.str "/claim/cut.py" 325,.int 67 0,.int 2 0,.int 0 0,.int 0 0,.int 3 0,.ref 112,.bool _t,.int 181 0,.ref 113,.none,.ref 114,.ref 115,.ref 116,.int 328 0,.int 67 0,.str "/claim/cut.py" 329],#[]⟩),
(125,ml 12 2 "are_joined" "Joins.are_joined" q11 124),
(124,⟨.type "code", _n,.fields #[.str "are_joined" 331,.str "Joins.are_joined" 332,.str "/claim/cut.py" 333,.int 73 0,.int 3 0,.int 0 0,.int 0 0,.int 3 0,.ref 119,.bool _t,.int 181 0,.ref 120,.none,.ref 121,.ref 122,.ref 123,.int 337 0,.int 73 0,.str "/claim/cut.py" 338],#[]⟩),
(132,ml 12 3 "make_joined" "Joins.make_joined" q11 131),
(131,⟨.type "code", _n,.fields #[.str "make_joined" 340,.str "Joins.make_joined" 341,.str "/claim/cut.py" 342,.int 76 0,.int 3 0,.int 0 0,.int 0 0,.int 3 0,.ref 126,.bool _t,.int 181 0,.ref 127,.none,.ref 128,.ref 129,.ref 130,.int 347 0,.int 76 0,.str "/claim/cut.py" 348],#[]⟩),
(146,fO 13 "laid_pairs" q11 145),
(145,cO "laid_pairs" 359 79 2 3 140 141 .none (.ref 142) (.ref 143) 144 366),
(153,fO 15 "follows" q14 152),
(152,cO "follows" 371 85 4 3 147 148 .none (.ref 149) (.ref 150) 151 386),
(160,fO 16 "values_by_root" q14 159),
(159,cO "values_by_root" 389 100 2 3 154 155 .none (.ref 156) (.ref 157) 158 397),
(167,fO 17 "given_rows" q14 166),
(166,cO "given_rows" 400 106 2 3 161 162 .none (.ref 163) (.ref 164) 165 407),
(172,fO 18 "like_rows" q14 171),
(171,cO "like_rows" 410 112 2 3 168 169 .none .none .none 170 413),
(179,fO 20 "_law_feed" q10 178),
(178,cO "_law_feed" 418 123 2 3 173 174 .none (.ref 175) (.ref 176) 177 425),
(186,fO 21 "_law_take" q10 185),
(185,cO "_law_take" 428 133 2 3 180 181 .none (.ref 182) (.ref 183) 184 435),
(191,fO 22 "_law_names" q10 190),
(190,cO "_law_names" 438 141 2 3 187 188 .none .none .none 189 441),
(196,fO 23 "_law_shape" q10 195),
(195,cO "_law_shape" 444 156 1 3 192 193 .none .none .none 194 447),
(201,fO 24 "_law_ordered" q10 200),
(200,cO "_law_ordered" 450 162 2 3 197 198 .none .none .none 199 453),
(206,fO 25 "_law_nodes" q10 205),
(205,cO "_law_nodes" 456 181 4 3 202 203 .none .none .none 204 459),
(211,fO 26 "_law_merged" q10 210),
(210,cO "_law_merged" 462 194 3 3 207 208 .none .none .none 209 465),
(216,fO 27 "_law_likes" q10 215),
(215,cO "_law_likes" 468 196 2 3 212 213 .none .none .none 214 471),
(223,fO 28 "_law_labels" q10 222),
(222,cO "_law_labels" 474 204 2 3 217 218 .none (.ref 219) (.ref 220) 221 483),
(228,fO 29 "_law_case" q10 227),
(227,cO "_law_case" 486 213 2 3 224 225 .none .none .none 226 489),
(233,fO 30 "_law_all_pairs" q10 232),
(232,cO "_law_all_pairs" 492 227 1 3 229 230 .none .none .none 231 495),
(240,fO 31 "_law_word" q10 239),
(239,cO "_law_word" 498 232 4 3 234 235 .none (.ref 236) (.ref 237) 238 505),
(247,fO 32 "_law_done" q10 246),
(246,cO "_law_done" 508 234 2 3 241 242 .none (.ref 243) (.ref 244) 245 515),
(254,fO 33 "_law_turned" q10 253),
(253,cO "_law_turned" 518 237 2 3 248 249 .none (.ref 250) (.ref 251) 252 527),
(261,fO 34 "_law_right" q10 260),
(260,cO "_law_right" 530 244 2 3 255 256 .none (.ref 257) (.ref 258) 259 544),
(268,fO 35 "_law_fewer_right" q10 267),
(267,cO "_law_fewer_right" 547 264 1 3 262 263 .none (.ref 264) (.ref 265) 266 556),
(275,fO 36 "law" q10 274),
(274,cO "law" 559 272 1 3 269 270 .none (.ref 271) (.ref 272) 273 568),
(135,⟨.type "type", _n,.cls ⟨"Joins", [.type "object"],[.ref 135,.type "object"],134, "Joins", _t,[],[],_f,_n,_f⟩,#[_n,_n,_s (.str "Joins" 303),_s (.str "Joins" 311),_s (.builtin "object.__new__"),_s (.bool _t)]⟩),
(134,⟨.type "dict", _n,.dict #[ke P "__module__" 310 q11,ke P "__firstlineno__" 314 (.int 62 313),ke P "__init__" 322 (.ref 111),ke P "root_of" 330 (.ref 118),ke P "are_joined" 339 (.ref 125),ke P "make_joined" 349 (.ref 132),ke P "__static_attributes__" 351 (.ref 133),ke P "__dict__" 353 (.ref 136),ke P "__weakref__" 355 (.ref 137),ke P "__doc__" 356 .none] 4,#[]⟩),
(81,⟨.type "type", _n,.cls ⟨"Nodes", [.type "object"],[.ref 81,.type "object"],80, "Nodes", _t,[],[],_f,_n,_f⟩,#[_n,_n,_s (.str "Nodes" 227),_s (.str "Nodes" 235),_s (.builtin "object.__new__"),_s (.bool _t)]⟩),
(80,⟨.type "dict", _n,.dict #[ke P "__module__" 234 q13,ke P "__firstlineno__" 238 (.int 30 237),ke P "__init__" 245 (.ref 57),ke P "number_of" 253 (.ref 64),ke P "fixed_thing" 261 (.ref 71),ke P "done_thing" 270 (.ref 78),ke P "__static_attributes__" 273 (.ref 79),ke P "__dict__" 275 (.ref 82),ke P "__weakref__" 277 (.ref 83),ke P "__doc__" 278 .none] 4,#[]⟩)]
def zFI:z7:=⟨"law", BQ (top 36),Ay (top 36),AK (top 36),lN (top 36)⟩
theorem zCq:fJ PySem.Challenge.rw_shapefree_k45_whole_what_follows_goes_on 37 [3,21,20,26,25,31,30,36,35,43,42,57,56,64,63,90,89,97,96,111,110,118,117,125,124,132,131,146,145,153,152,160,159,167,166,172,171,179,178,186,185,191,190,196,195,201,200,206,205,211,210,216,215,223,222,228,227,233,232,240,239,247,246,254,253,261,260,268,267,275,274,135,134,81,80] KP 3262:=λw=>by kernel_rfl
theorem zCp:PySem.Challenge.rw_shapefree_k45_whole_what_follows_goes_on.wellSaid=true:=by decide +kernel
end My
open PySem PySem.W PyProof.Rows
set_option maxRecDepth 100000 in
set_option maxHeartbeats 0 in
theorem PySem.Challenge.cw_shapefree_k45_whole_what_follows_goes_on_holds : PySem.Challenge.rw_shapefree_k45_whole_what_follows_goes_on.Holds := by
  refine L2.zEJ (d:=My.zFI) My.zCp My.zCq (λP=>by kernel_rfl) `k `k `k `k `k (by decide +kernel) ⟨rfl,rfl,rfl,rfl,rfl,by decide +kernel⟩ (by w_witness2) ?call;refine My.walk (l:=PySem.Challenge.rw_shapefree_k45_whole_what_follows_goes_on) (d:=My.zFI) (K:=My.KP) rfl `k (λw h Y=>Y) λw mg fa h KX G hmg=>?_;refine My.all_mk KX G hmg `k ?_ ?_ ?_ ?_ ?_ ?_ ?_ ?_ ?_ ?_ ?_ ?_ ?_ ?_ ?_ ?_ ?_ ?_ ?_ ?_ ?_ ?_ ?_ ?_ ?_ ?_ ?_ ?_ ?_ ?_ ?_ ?_ ?_ ?_ ?_ ?_<;>and_intros<;>kernel_rfl
