import PyProof.Rows.All
import Wide.All
import OpenK.AllK
import Lean
import PySem.Challenge.RW_shapefree_k69_rows_gained
noncomputable section
set_option genInjectivity false
set_option genSizeOf false
set_option backward.eqns.nonrecursive false
set_option Elab.async false
set_option linter.all false
set_option maxRecDepth 100000
set_option maxHeartbeats 4000000
open Option renaming some→_s,none→_n
open Bool renaming true→_t,false→_f
open PySem renaming Value→_v
open Option renaming bind_eq_some_iff→L9,bind_fun_none→S9,bind_fun_some→i7,bind_none→N7,bind_some→A0,getD_none→xA,getD_some→ux,isNone_iff_eq_none→r8,isSome_iff_exists→O8,isSome_map→t6,isSome_some→wI,map_eq_some_iff→E9,map_some→G0,none_or→K8,or→Q8,or_none→q8,some_or→Q3
open PySem renaming Addr→A8,Around→G3,BindsTo→wX,Builtin→Z0,CmpOp→o5,Comprehension→X1,DefRec→yV,FuncData→N1,Heap→G2,IsPart→wB,IsZip→vX,KeyKind→ve,Keyword→d8,Meets→yP,Model→xQ,Operator→n0,Params→wG,PassesOwn→b9,PlainAttrs→u9,Program→E8,Result→xt,Scope→M4,Shared→A5,Stmt→G5,Within→wL,World→G7,argBest→g8,argBest_gt→x9,assign→W5,assignEach→N3,assignInOrder→t9,atKey→yC,attributeBase→N0,backTo→P8,backToKw→o6,behindInMarks→vt,bindArgs→xu,bindC→xx,bindL→xw,bindName→vQ,bootBuiltins→S6,builtinsNs→xn,cLine→O5,call→wH,callWith→xv,call_meets→T4,callerA→vi,cameBackBy→yD,cellsFrom→N5,checkBuiltinCall→uy,codeAny→Z3,codeAny_builtin→xc,codeAny_call_builtin→i3,codeAny_mono→Z4,compareOp→J0,concat_meets→wZ,eqIsQuiet→wx,eqIsQuiet_byValue→wK,eval→L8,excClassObj→Y8,exec_Assign_Name_used→vO,field→yB,foldedForSure→uk,foldedSetIterable→K3,getAttr→xl,getItem→wa,getMethod→uq,holding→Z1,intItems→p8,intItems_at→s9,isInstance→m8,isSubtype_tuple_tuple→a7,isTrue→yQ,keywordEach→V5,lastMarks→yN,letOwnedTupleGo→i9,list_append→wg,mainGlobals→K4,mem_of_lookup→G1,model→C7,newFunctionEnv→vU,noFill_tuple_add→uu,noteFrame→V0,numAt→xV,numAt_eq→vW,nums_intItems→vw,pastItsLine_dict→w8,plainId_quiet→uh,plainObj_wpAny_Assign_Attribute→a6,post_val_or_str→j7,pushCells→yO,pushCells_keeps→vK,pyIter→yT,pyNext→o4,rawInt→P9,seqIndex_neg→wd,seqIndex_of→xS,seqItems?→xD,seqSlot_of→xK,seq_tuple_add→vv,setFlight→d6,setItem→yS,sizeLine_eq→R5,sliceBounds→Y5,slot_list_getitem→we,standAt→vh,starEach→D7,storeName→yL,swappedStores→T2,swapsWith→O0,swapsWithSole→d7,sysModules→V4,typeIs_int→u7,typeIs_str→x5,typeLookup→xy,typeOf→x6,unbindBehindTheSuite→vc,unpackItems→xR,updateSeq→xG,wpAny→B4,wpAny_Assign_Name→wR,wpAny_Call_Name_kw→M0,wpAny_Call_method_late→vA,wpAny_Name→xq,wpAny_Return_some→wN,wpAny_assign_Name→wO,wpAny_attempt→vz,wpAny_binaryOp_repeat_ref→q9,wpAny_bind→A1,wpAny_call→d4,wpAny_callSpecial?_slot→N6,wpAny_call_entry→N4,wpAny_comprehension_free→T6,wpAny_execs_cons→T8,wpAny_execs_nil→X3,wpAny_field→H9,wpAny_forIn_list→V9,wpAny_getItem_str_slice→U2,wpAny_holding→J8,wpAny_isInstance→b8,wpAny_isSubtype_exc→R4,wpAny_ite_false→U9,wpAny_letGo→Y6,wpAny_loadName_cell→vk,wpAny_loadName_local→vP,wpAny_loadPart_at→M8,wpAny_lookBehind→wy,wpAny_madeBy_exc→xM,wpAny_mono→J4,wpAny_newObj_type→L6,wpAny_onRaise→ug,wpAny_passesOwn→S5,wpAny_pure→A6,wpAny_pyIter_enum→wt,wpAny_pyIter_list→r9,wpAny_pyIter_tuple→R7,wpAny_pyIter_zip→xI,wpAny_pyNext_list_end→vN,wpAny_pyNext_list_item→u4,wpAny_rule→X7,wpAny_seqItems→K2,wpAny_sequenceKey→wb,wpAny_setField→V7,wpAny_setField_rec→R8,wpAny_specialOf→X2,wpAny_standAt→T1,wpAny_truthy_bool→L5,wpAny_tryCatch→Z9,wpAny_tupleItemsOf→m6,wpAny_typeOf→l5,wpAny_updateSeq→X6,wpAt_bind→xj,wpAt_of_wpAny→vo
open Bool renaming and_eq_true→A2,and_eq_true_iff→Q0,and_false→U1,and_self→L0,and_true→uf,false_and→xr,false_eq_true→B3,false_ne_true→D1,not_eq_true→xJ,not_eq_true'→J7,not_false→xm,not_true→O7,or_eq_false_iff→vZ,or_eq_true→j9,or_true→wu,true_and→T7,true_or→vD
open List renaming all_cons→M1,all_eq_true→E4,any_cons→T5,any_eq_true→xC,append_assoc→J3,append_nil→G4,cons_append→U5,contains_cons→U6,contains_iff_mem→C6,drop_eq_getElem_cons→S1,drop_length→uw,eq_nil_of_length_eq_zero→G9,ext_getElem→u0,ext_getElem?→wm,filterMap_cons→W4,filterMap_map→wC,filter_cons→u3,filter_map→xk,find?_cons→j8,find?_some→M3,flatMap_cons→Q9,flatten_cons→Q5,foldl→wF,foldl_cons→X5,foldl_nil→yF,forIn_cons→j6,forIn_nil→vV,getD→R3,getD_eq_getElem?_getD→E5,getElem?_append_left→F9,getElem?_append_right→V6,getElem?_cons_succ→Y7,getElem?_eq_getElem→A3,getElem?_eq_none→M9,getElem?_eq_some_iff→A7,getElem?_map→C8,getElem?_of_mem→vY,getElem?_range→M7,getElem?_replicate→ur,getElem?_set_ne→D9,getElem?_set_self→E7,getElem?_take_of_lt→ue,getElem_inj→uo,getElem_mem→W0,getElem_of_mem→W6,getElem_range→U8,getElem_set→xN,isEmpty_iff→U3,isEmpty_nil→uz,length→Y3,length_append→F0,length_cons→E3,length_drop→d5,length_eq_one_iff→vF,length_map→B9,length_nil→vJ,length_range→Z8,length_range'→X8,length_set→D8,length_singleton→H8,length_take→U0,length_zip→vL,lookup→Y1,lookup_append→R6,lookup_cons→F7,map_append→vM,map_congr_left→K1,map_cons→A9,map_flatMap→xO,map_id→yj,map_map→L7,map_nil→S7,mem_append→E6,mem_append_left→C0,mem_append_right→B5,mem_cons→C9,mem_cons_of_mem→B1,mem_cons_self→B2,mem_filter→S4,mem_filterMap→wA,mem_flatMap→W2,mem_map→G6,mem_of_find?_eq_some→S2,mem_of_getElem?→K5,mem_of_mem_drop→vd,mem_of_mem_take→V8,mem_range→I0,mem_singleton→D5,mem_singleton_self→Q6,nil_append→j4,nodup_cons→X4,nodup_iff_pairwise_ne→R9,nodup_nil→yE,not_mem_nil→O3,of_mem_zip→vI,pairwise_cons→Y0,pairwise_iff_getElem→S3,pairwise_map→t5,range→B6,range'→s8,range_succ→k7,range_succ_eq_map→vE,replicate→C5,replicate_succ→M6,set_comm→yI,set_set→wo,size_toArray→B0,take_sublist→wY,zipIdx_cons→xH,zipIdx_nil→xY,zip_cons_cons→K7
open PySem.Heap renaming ExtBut→xU,SameBut→O6,get?_push_ne→wq,get?_push_of_some→A4,get?_push_size→D3,get?_update_ne→vq,get?_update_other→F8,get?_update_self→K0,lt_size→B8,size_push→J6
open Nat renaming add_assoc→t8,add_sub_cancel→o9,le_of_ble_eq_true→V1,le_of_eq→u5,le_of_lt→wM,le_refl→C4,le_succ→Y2,le_trans→D0,lt_irrefl→K9,lt_of_le_of_lt→p7,lt_of_lt_of_le→B7,lt_or_ge→l9,lt_succ_of_lt→t4,lt_succ_self→T9,min_self→vC,mul_comm→wj,ne_of_gt→Z2,ne_of_lt→D6,one_ne_zero→xZ,sub_eq_zero_of_le→a9,sub_zero→yX,succ_mul→yU,zero_add→U7,zero_le→G8
open Option.some renaming inj→C3,injEq→Q7
open False renaming elim→D2
open PySem.Value renaming bool→v8,builtin→t7,bytes→ye,float→xP,int→vf,isInt→yd,isStrOf→yH,none→K6,ref→D4,str→vg,type→O1
open Array renaming forIn_toList→m7,getElem?_eq_some_iff→N9,length_toList→I9,mem_toList_iff→vR,toList→yR
open PySem.Builtin.SmallTypes renaming nextOf→J5,ownedTupleHandOut→W8,ownedTupleIsFree→N2
open PyProof.Rows renaming AllBare→k8,IntsAre→wc,args_tuple_getitem→wD,assignInOrder_cons→o3,assignInOrder_nil→wQ,callWith_builtin1→w9,callWith_type1→N8,entry_tuple_getitem→vm,envOfC→W9,envOfC→vS,slot_tuple_getitem→J9,subscriptTail_builtinR→u6,up1→U4
open PySem.Builtin.Tuple renaming tupleExact→T3,tupleHashOf→M5,tupleIsExact→o8,tupleItemsOf→V3
open PySem.Obj renaming data_mapFields→X9,isFreed_of_fields→a8,mapFields→g9,mapSeq→O2
open PySem.AutoSeq1 renaming wpAny_loadPart'→O4
open PySem.Builtin.List renaming listExtendWith→l7,listFitsIndex→x8,listSameRef→yJ,listTooLong→O9
open PySem.Builtin.Str renaming occurrences→Q4,strSliceIndices→V2
open PySem.Builtin.Slice renaming sliceAdjust→W3,sliceApplied→o7,sliceFields→yG,slicePartIndex→xX,slicePlaces→S0
open Int renaming emod_lt_of_pos→p9,emod_nonneg→k6,le_antisymm→xi,toNat_natCast→S8
open PySem.Heap.SameBut renaming refl→yp,update→W7
open PySem.F renaming args_tuple_add_2→X0,entry_tuple_add→Y4,plainAttrs_list→Y9,plainAttrs_str→vH,slot_tuple_add→Z5
open PySem.Str renaming join→yA,ofString→Z6
open PySem.Calls renaming Constant_str→v9,Name_function_global→m9,callWith_builtin→Z7,evalArgs_plain→vT
open Iff renaming rfl→d9
open List.cons renaming inj→um,injEq→i8
open PySem.Around renaming under→k9,under_plainId→va
open PySem.Builtin.Builtins renaming bindParams→l8
open PySem.Txt renaming join→yi,slice→uv,slice_le→vB
open PySem.W renaming findIn→yZ,looks_findIn→vG
open PySem.EntryCells renaming newEntry→vp
open PySem.SeqAt.EqAt renaming int_str→v5,str_int→v7
open PySem.Code renaming frames→yf,guards→yg,isFrame→wW,isGuard→wV,quiet_builtin→wJ
open PySem.Heap.Ns1 renaming of_empty→wU
open List.Pairwise renaming nil→wk
open PySem.IsL renaming update→xB
open PySem.Shared renaming heap→xW
open PySem.PassesOwn renaming never→xh
open PySem.CmpOf renaming ints_gt→yK
open PySem.Builtin.Range renaming rangeSize→yM
open Except renaming error→yW
open Nat.succ renaming inj→yY
open PySem.Data renaming seq→yh
open PySem.Heap.IsSliceOf renaming new→yk
open PySem.W.WShape renaming has→ym
open PySem.W.Looks renaming here→yn
open PySem.Within renaming cons→yo
open PySem.W.WData renaming int→yq
open PySem.Heap.DictOf renaming new→yr
namespace L2
open PySem
variable{a:A8}{h:G2}{Q:Bool->A5->Prop}
section
variable{prog:E8}{w:G7}{K:Type}[DecidableEq K]
noncomputable abbrev NK(K:Type):=List (K ⊕ List K)
structure Apart (knd:ve prog w K):Prop where
 l:∀{A:G3}{E:_v->A5->Prop}{s:A5}{k:K}{v:_v}{a:A8}{items:Array _v}{Q:Bool->A5->Prop},A.units < O5->knd.is k v=_t->s.heap.IsTuple a items->Q _f s->B4 (C7 prog w) A (eqBool v (.ref a)) Q E s
 r:∀{A:G3}{E:_v->A5->Prop}{s:A5}{k:K}{v:_v}{a:A8}{items:Array _v}{Q:Bool->A5->Prop},A.units < O5->knd.is k v=_t->s.heap.IsTuple a items->Q _f s->B4 (C7 prog w) A (eqBool (.ref a) v) Q E s
inductive ItN (knd:ve prog w K) (h:G2):NK K->List _v->Prop
 |nil:ItN knd h [] []
 |sc {k:K} {v:_v} {ks:NK K} {vs:List _v}:knd.is k v=_t->ItN knd h ks vs->ItN knd h (.inl k::ks) (v::vs)
 |tp {t:List K} {a:A8} {ks:NK K} {vs:List _v}:IsTupleKey knd h t a->ItN knd h ks vs->ItN knd h (.inr t::ks) (.ref a::vs)
def Qx(knd:ve prog w K)(h:G2)(ks:NK K)(a:A8):Prop:=∃o items n,h.get? a=_s o/\o.cls=.type "tuple" /\ o.data=.seq items n/\ItN knd h ks items.toList
variable{knd:ve prog w K}
theorem Sk{k:K}(h:knd.is k (.ref a)=_t):False:=by have:=knd.byValue _ _ h;simp[carriedByValue]at this
theorem ItN.inj{h:G2}:∀{x y:NK K}{vs:List _v},ItN knd h x vs->ItN knd h y vs->x=y
 |_,_,_,.nil,.nil=>rfl
 |_,_,_,.sc h1 t1,.sc h2 b=>by rw[knd.inj _ _ _ h1 h2,ItN.inj t1 b]
 |_,_,_,.sc h1 t1,.tp h2 b=>(Sk h1).elim
 |_,_,_,.tp h1 t1,.sc h2 b=>(Sk h2).elim
 |_,_,_,.tp h1 t1,.tp h2 b=>by rw[h1.inj h2,ItN.inj t1 b]
theorem Qx.typeIs{s:A5}{ks:NK K}(x:Qx knd s.heap ks a):s.TypeIs (.ref a) "tuple" := let ⟨o,_,_,ho,hc,_⟩:=x;⟨o,ho,hc⟩
theorem Qx.inj{x y:NK K}(g:Qx knd h x a)(f:Qx knd h y a):x=y:=by
 obtain⟨o,items,n,i,_,hd,hi⟩:=g;obtain⟨o',e,j,c,_,b,d⟩:=f;obtain rfl:o=o':=C3 (i.symm.trans c);rw[hd]at b;injection b with h1 _
 subst h1;exact hi.inj d
theorem ItN.keeps{h h':G2}{d:A8}{o:Obj}{es ep}(c:h.get? d=_s o)(hd:o.data=.dict es ep)(b:O6 d h h'):∀{ks:NK K}{vs:List _v},ItN knd h ks vs->ItN knd h' ks vs
 |_,_,.nil=>.nil
 |_,_,.sc h1 t=>.sc h1 (t.keeps c hd b)
 |_,_,.tp h1 t=>.tp (h1.keeps c hd b) (t.keeps c hd b)
theorem Qx.keeps{h':G2}{ks:NK K}{d:A8}{o:Obj}{es ep}(x:Qx knd h ks a)(g:h.get? d=_s o)(hd:o.data=.dict es ep)(f:O6 d h h'):Qx knd h' ks a:=by
 obtain⟨o',items,n,c,hc,b,hi⟩:=x;have e:a≠d:=by rintro rfl;obtain rfl:o'=o:=C3 (c.symm.trans g);rw[hd]at b;exact nomatch b
 exact⟨o',items,n,(f.2 a e).trans c,hc,b,hi.keeps g hd f⟩
noncomputable def DM(knd:ve prog w K):K ⊕ List K->Int
 |.inl k=>knd.hash k
 |.inr t=>tupleKeyHash knd t
noncomputable def Ej:K ⊕ List K->Nat
 |.inl _=>1
 |.inr t=>t.length+1
def Yp(ks:NK K):Nat:=(ks.map Ej).sum+1
def Xu(knd:ve prog w K)(ks:NK K):Int:=reduceHash (M5 (ks.map (DM knd)))
variable{A:G3}{E:_v->A5->Prop}{s:A5}
theorem WS{ks:NK K}{Q:Int->A5->Prop}(l:A.units+1 < O5)(j:Qx knd s.heap ks a)(h:Q (Xu knd ks) {s with toks:=s.toks+Yp ks}) :
    B4 (C7 prog w) A (pyHash (.ref a)) Q E s:=by
  have hT:=j.typeIs;obtain⟨o,items,n,m,_,hd,hi⟩:=j;unfold pyHash
  first|unfold pyHashByItsType|skip
  first|refine A1 (wpAny_cRoomFor_or (.inr (by omega)) ?_)|skip
  refine A1 (X2 hT F.slot_tuple_hash.lookup ?_);show B4 _ _ (if(_s (t7 "tuple.__hash__")==_s K6)=_t then _ else _) Q E s;rw[if_neg (by rw[beq_builtin_none];exact D1)];refine A1 (X2 hT F.slot_tuple_hash.lookup ?_);show B4 _ _ (callSpecialIfBoundUnlessNone? (.ref a) "__hash__" _ >>= _) Q E s;refine A1 (wpAny_callSpecialIfBoundUnlessNone?_slot hT F.slot_tuple_hash (N4 F.slot_tuple_hash hT F.entry_tuple_hash ?_ (F.args_tuple_hash_1 _)));show B4 _ _ (V3 (.ref a) >>= _) _ _ s;refine A1 (m6 m hd ?_);refine A1 ?_;rw[<- m7];refine V9 _
    (λrest (b:Array Int) s'=>∃done left,ks=done++left/\ItN knd s.heap left rest/\b.toList=done.map (DM knd)/\s'={s with toks:=s.toks+(done.map Ej).sum})
    _ ?_ ?_ _ _ ⟨[],ks,rfl,hi,rfl,rfl⟩
  rintro x rest b s' ⟨done,left,rfl,i,f,rfl⟩;cases i with
  |@sc k _ c _ h1 d=>
    refine A1 (knd.pyHash h1 ?_);have e:{s with toks:=s.toks+(done.map Ej).sum+1}={s with toks:=s.toks+((done++[Sum.inl k]).map Ej).sum}:=by simp[Ej,t8]
    first
      |exact A6 ⟨done++[.inl k],c,by simp,d,by simp[f,DM],e⟩
      |exact A1 (A6 (A6 ⟨done++[.inl k],c,by simp,d,by simp[f,DM],e⟩))
  |@tp t p c _ h1 d=>
    have e:{s with toks:=s.toks+(done.map Ej).sum+(t.length+1)}={s with toks:=s.toks+((done++[Sum.inr t]).map Ej).sum}:=by simp[Ej,t8]
    refine A1 (wpAny_pyHash_tuple (knd:=knd) l h1 ?_)
    first
      |exact A6 ⟨done++[.inr t],c,by simp,d,by simp[f,DM],e⟩
      |exact A1 (A6 (A6 ⟨done++[.inr t],c,by simp,d,by simp[f,DM],e⟩))
  rintro b s' ⟨done,left,rfl,i,f,rfl⟩;cases i;rw[G4]at h;show B4 _ _ (retInt (M5 b.toList)) _ _ _;rw[f];refine wpAny_ret_mkInt ?_;show B4 _ _ (if(decide (-(2:Int) ^ 63<=M5 (done.map (DM knd)))&&decide (M5 (done.map (DM knd)) < 2 ^ 63))=_t then _ else _) Q E _;unfold Xu reduceHash Yp at h;by_cases g:(decide (-(2:Int) ^ 63<=M5 (done.map (DM knd)))&&decide (M5 (done.map (DM knd)) < 2 ^ 63))=_t;rw[if_pos g];rw[if_pos g]at h;exact A6 (by simpa[t8]using h);rw[if_neg g];rw[if_neg g]at h;exact A1 (X7 (A6 (by simpa[t8]using h)))
theorem IsTupleKey.isT{t:List K}(x:IsTupleKey knd h t a):∃items,h.IsTuple a items:=let ⟨o,items,n,ho,hc,hd,_⟩:=x;⟨items,o,ho,hc,n,hd⟩
theorem dH{k1 k2:K ⊕ List K}{u v:_v}{xs ys:List _v}{x y:NK K}(f:Apart knd)(c:A.units < O5)(i:ItN knd s.heap (k1::x) (u::xs))(d:ItN knd s.heap (k2::y) (v::ys))(h:Q (decide (k1=k2)) s):B4 (C7 prog w) A (eqBool u v) Q E s:=by
 cases i with
 |@sc a _ _ _ h1 _=>
  cases d with
  |@sc b _ _ _ h2 _=>
   refine knd.eqBool h1 h2 ?_;have:decide (a=b)=decide ((Sum.inl a:K ⊕ List K)=Sum.inl b):=by by_cases e:a=b<;>simp[e]
   rw[this];exact h
  |@tp t b _ _ h2 _=>
   obtain⟨g,hi⟩:=IsTupleKey.isT h2;refine f.l c h1 hi ?_;have:decide ((Sum.inl a:K ⊕ List K)=Sum.inr t)=false:=by simp
   rw[<- this];exact h
 |@tp t a _ _ h1 _=>
  cases d with
  |@sc b _ _ _ h2 _=>
   obtain⟨g,hi⟩:=IsTupleKey.isT h1;refine f.r c h2 hi ?_;have:decide ((Sum.inr t:K ⊕ List K)=Sum.inl b)=false:=by simp
   rw[<- this];exact h
  |@tp t' b _ _ h2 _=>
   refine wpAny_eqBool_tuple (knd:=knd) c h1 h2 ?_;have:decide (t=t')=decide ((Sum.inr t:K ⊕ List K)=Sum.inr t'):=by by_cases e:t=t'<;>simp[e]
   rw[this];exact h
theorem ItN.tail{k:K ⊕ List K}{ks:NK K}{v:_v}{vs:List _v}(x:ItN knd h (k::ks) (v::vs)):ItN knd h ks vs:=by
 cases x with|sc _ t=>exact t|tp _ t=>exact t
theorem ItN.split{ks:NK K}{v:_v}{vs:List _v}(x:ItN knd h ks (v::vs)):∃k r,ks=k::r:=by
 cases x with|sc _ t=>exact⟨_,_,rfl⟩|tp _ t=>exact⟨_,_,rfl⟩
theorem ItN.len{h:G2}:∀{ks:NK K}{vs:List _v},ItN knd h ks vs->ks.length=vs.length
 |_,_,.nil=>rfl
 |_,_,.sc _ t=>by simp[t.len]
 |_,_,.tp _ t=>by simp[t.len]
theorem PQ{x y:NK K}{b:A8}{P:Fin->A5->Prop}(R:Apart knd)(N:A.units < O5)(M:Qx knd s.heap x a)(L:Qx knd s.heap y b)(h:P (.done (.ret (.bool (decide (x=y))))) s) :
    B4 (C7 prog w) A (Z0.«tuple.__eq__» ⟨[.ref a,.ref b],[]⟩) P E s:=by
  have J:=L.typeIs;obtain⟨W,xs,X,C,_,I,G⟩:=M;obtain⟨ob,ys,nb,B,_,H,F⟩:=L;show B4 _ _ (m8 (.ref b) (.type "tuple") >>= _) _ _ s;refine A1 (b8 J a7 ?_);simp only[O7,B3,if_false];refine A1 (m6 C I ?_);refine A1 (m6 B H ?_);refine A1 ?_;refine V9 _
    (λrest r s'=>r.1=_n/\s'=s/\∃o n f c,rest=List.zip f c/\ItN knd s.heap o f/\ItN knd s.heap n c/\decide (o=n)=decide (x=y)/\(f.length==c.length)=(xs.size==ys.size))
    _ ?_ ?_ _ _ ⟨rfl,rfl,x,y,xs.toList,ys.toList,rfl,G,F,rfl,by simp⟩
  rintro⟨u,v⟩ rest r s' ⟨z,rfl,o,n,f,c,k,e,d,i,g⟩;cases f with
  |nil=>simp at k
  |cons T q=>
    cases c with
    |nil=>simp at k
    |cons S t=>
      simp only[K7,i8,Prod.mk.injEq]at k;obtain⟨⟨rfl,rfl⟩,rfl⟩:=k;obtain⟨k1,l,rfl⟩:=e.split;obtain⟨k2,j,rfl⟩:=d.split;refine A1 (dH R N e d ?_);by_cases D:k1=k2;subst D;rw[decide_eq_true rfl];simp only[O7,B3,if_false];refine A6 ⟨rfl,rfl,l,j,q,t,rfl,e.tail,d.tail,?_,by simpa using g⟩;rw[<- i];by_cases m:l=j;simp[m];simp[m];rw[decide_eq_false D];simp only[xm,if_true];have O:decide (x=y)=false:=by rw[<- i];simp[D]
      rw[O]at h;exact A1 (A6 (A6 (A6 h)))
  rintro⟨V,U⟩ s' ⟨z,rfl,o,n,f,c,k,e,d,i,g⟩;simp only at z;subst z;refine A6 ?_;have p:(xs.size==ys.size)=decide (x=y):=by
    rw[<- i,<- g];have Z:=e.len;have Y:=d.len;cases f with
    |nil=>
      cases c with|nil=>cases e;cases d;simp|cons _ _=>cases e;obtain⟨k2,j,rfl⟩:=d.split;simp
    |cons _ _=>
      cases c with|nil=>cases d;obtain⟨k2,j,rfl⟩:=e.split;simp|cons _ _=>simp at k
  show P (.done (.ret (.bool (xs.size==ys.size)))) s';rw[p];exact h
theorem Yn{x y:NK K}{b:A8}(i:Apart knd)(g:A.units+1 < O5)(d:Qx knd s.heap x a)(f:Qx knd s.heap y b)(h:Q (decide (x=y)) s) :
    B4 (C7 prog w) A (eqBool (.ref a) (.ref b)) Q E s:=by
  unfold eqBool
  try with_reducible refine J8 ?_
  show B4 _ _ (if(D4 a==D4 b)=_t then _ else _) Q E s;by_cases c:(D4 a==D4 b)=_t;rw[if_pos c];have e:a=b:=by have:=eq_of_beq c;injection this
  subst e;obtain rfl:=d.inj f;exact A1 (X7 (A6 (by simpa using h)));rw[if_neg c];exact A1 (wpAny_richCompare_same_room (op:=.Eq) d.typeIs f.typeIs F.slot_tuple_eq
    (N4 F.slot_tuple_eq d.typeIs F.entry_tuple_eq (PQ i g d f ⟨_,rfl,(λe=>nomatch e),L5 h⟩) (F.args_tuple_eq_2 _ _)) (by omega))
theorem bC{n:Nat}{ks:List K}(e:IsTupleKey knd s.heap ks a)(h:Q _t s):B4 (C7 prog w) A (wx (n+1) (.ref a)) Q E s:=by have hT:=e.typeIs;obtain⟨o,items,j,f,_,hd,hi⟩:=e;unfold wx;refine A1 (X2 hT F.slot_tuple_eq.lookup ?_);show B4 _ _ (m8 (.ref a) (.type "tuple") >>= _) _ _ s;refine A1 (b8 hT a7 ?_);simp only[O7,B3,if_false];refine A1 (K2 f hd ?_);refine A1 ?_;show B4 _ _ (forIn items _ _) _ _ s;rw[<- m7];refine V9 _ (λrest r s'=>r.1=_n/\s'=s/\∀v∈rest,carriedByValue v=_t) _ ?_ ?_ _ _ ⟨rfl,rfl,hi.byValue⟩;rintro v rest r s' ⟨d,rfl,b⟩;rw[wK _ (b v B2)];refine A1 (A6 ?_);simp only[O7,B3,if_false];exact A6 ⟨rfl,rfl,λu c=>b u (B1 _ c)⟩;rintro⟨i,g⟩ s' ⟨d,rfl,_⟩;simp only at d;subst d;exact A6 h
theorem bD{ks:NK K}(d:Qx knd s.heap ks a)(h:Q _t s):B4 (C7 prog w) A (wx 8 (.ref a)) Q E s:=by
 have hT:=d.typeIs;obtain⟨o,items,j,e,_,hd,hi⟩:=d;unfold wx;refine A1 (X2 hT F.slot_tuple_eq.lookup ?_);show B4 _ _ (m8 (.ref a) (.type "tuple") >>= _) _ _ s;refine A1 (b8 hT a7 ?_);simp only[O7,B3,if_false];refine A1 (K2 e hd ?_);refine A1 ?_;show B4 _ _ (forIn items _ _) _ _ s;rw[<- m7];refine V9 _ (λrest r s'=>r.1=_n/\s'=s/\∃l,ItN knd s.heap l rest) _ ?_ ?_ _ _ ⟨rfl,rfl,ks,hi⟩;rintro v rest r s' ⟨c,rfl,l,f⟩;cases f with|@sc k _ b _ h1 t=>rw[wK _ (knd.byValue _ _ h1)];refine A1 (A6 ?_);simp only[O7,B3,if_false];exact A6 ⟨rfl,rfl,b,t⟩|@tp t' m b _ h1 t=>refine A1 (bC (n:=6) h1 ?_);simp only[O7,B3,if_false];exact A6 ⟨rfl,rfl,b,t⟩
 rintro⟨i,g⟩ s' ⟨c,rfl,_⟩;simp only at c;subst c;exact A6 h
end
def Cs{prog:E8}{w:G7}{K:Type} [DecidableEq K] (knd:ve prog w K) (i:Apart knd):HeapKind prog w (NK K) where
 is:=Qx knd
 hash:=Xu knd
 draws:=Yp
 room:=λA=>A.units+1 < O5
 inj:=λc b=>c.inj b
 keeps:=λx g hd f=>x.keeps g hd f
 pyHash:=λd e h=>WS d e h
 eqBool:=λd c b h=>Yn i d c b h
 quiet:=λe h=>bD e h
end L2
namespace L2
open PySem PySem.Spec PyProof.Rows
noncomputable abbrev BY:=Sum Int Str
def LV:BY->_v->Bool
 |.inl k,v=>yd k v
 |.inr x,v=>yH x v
def rh(w:G7):BY->Int
 |.inl k=>hashInt k
 |.inr x=>hashStr w x
theorem Ab:∀{k:BY}{v:_v},LV k v=_t->(∃i t,k=Sum.inl i/\v=vf i t)\/(∃x t,k=Sum.inr x/\v=vg x t)
 |.inl i,v,h=>by obtain⟨t,e⟩:=Value.isInt_shape (k:=i) (v:=v) h;exact .inl ⟨i,t,rfl,e⟩
 |.inr x,v,h=>by obtain⟨t,e⟩:=Value.isStrOf_shape (x:=x) (v:=v) h;exact .inr ⟨x,t,rfl,e⟩
theorem UM(i:Int)(t:Tok):LV (.inl i) (.int i t)=true:=by simp[LV,yd]
theorem UL(x:Str)(t:Tok):LV (.inr x) (.str x t)=true:=by simp[LV,yH]
theorem kD(a b:Int):decide ((Sum.inl a:BY)=Sum.inl b)=(a==b):=by by_cases e:a=b;subst e;simp;have h:¬(Sum.inl a:BY)=Sum.inl b:=λq=>e (Sum.inl.inj q);rw[decide_eq_false h];exact(beq_eq_false_iff_ne.mpr e).symm
theorem jy(a b:Str):decide ((Sum.inr a:BY)=Sum.inr b)=decide (a=b):=by by_cases e:a=b;subst e;simp;have h:¬(Sum.inr a:BY)=Sum.inr b:=λq=>e (Sum.inr.inj q);rw[decide_eq_false h,decide_eq_false e]
theorem kB(a:Int)(b:Str):decide ((Sum.inl a:BY)=Sum.inr b)=false:=decide_eq_false (λq=>nomatch q)
theorem jz(a:Str)(b:Int):decide ((Sum.inr a:BY)=Sum.inl b)=false:=decide_eq_false (λq=>nomatch q)
def Ak(prog:E8)(w:G7):PySem.KeyKind prog w BY where
 is:=LV
 hash:=rh w
 inj:=λv a b ha f=>by
  rcases Ab ha with⟨i,t,rfl,rfl⟩|⟨x,t,rfl,rfl⟩
  rcases Ab f with⟨j,u,rfl,e⟩|⟨y,u,rfl,e⟩
  injection e with c _;rw[c]
  exact nomatch e;rcases Ab f with⟨j,u,rfl,e⟩|⟨y,u,rfl,e⟩
  exact nomatch e;injection e with c _;rw[c]
 byValue:=λk v h=>by rcases Ab h with⟨i,t,rfl,rfl⟩|⟨x,t,rfl,rfl⟩<;>rfl
 pyHash:=λd h=>by
  rcases Ab d with⟨i,t,rfl,rfl⟩|⟨x,t,rfl,rfl⟩
  exact wpAny_pyHash_int h;exact wpAny_pyHash_str h
 eqBool:=λg d h=>by
  rcases Ab g with⟨i,t,rfl,rfl⟩|⟨x,t,rfl,rfl⟩
  rcases Ab d with⟨j,u,rfl,rfl⟩|⟨y,u,rfl,rfl⟩
  rw[kD]at h;exact wpAny_eqBool_int h;rw[kB]at h;exact v5 i t y u _ _ _ _ h;rcases Ab d with⟨j,u,rfl,rfl⟩|⟨y,u,rfl,rfl⟩
  rw[jz]at h;exact v7 x t j u _ _ _ _ h;rw[jy]at h;exact wpAny_eqBool_str h
 «strs»:=λk x t v h=>by
  rcases Ab h with⟨i,u,rfl,e⟩|⟨y,u,rfl,e⟩
  exact nomatch e
  ·injection e with c _
   subst c;cases v<;>rfl
theorem CB(prog:E8)(w:G7):Apart (Ak prog w) where
 l:=λa c b h=>by
  rcases Ab c with⟨i,t,rfl,rfl⟩|⟨x,t,rfl,rfl⟩
  exact SeqAt.EqAt.int_tuple i t b a _ _ _ _ h;exact SeqAt.EqAt.str_tuple x t b a _ _ _ _ h
 r:=λa c b h=>by
  rcases Ab c with⟨i,t,rfl,rfl⟩|⟨x,t,rfl,rfl⟩
  exact SeqAt.EqAt.tuple_int i t b a _ _ _ _ h;exact SeqAt.EqAt.tuple_str x t b a _ _ _ _ h
theorem OL(prog:E8)(w:G7)(i:Int)(t:Tok):(Ak prog w).is (.inl i) (.int i t)=true:=UM i t
theorem OK(prog:E8)(w:G7)(x:Str)(t:Tok):(Ak prog w).is (.inr x) (.str x t)=true:=UL x t
set_option genInjectivity true in
inductive V where
 |yw|bl (b:Bool)|int (i:Int)|str (x:Str)|byt (b:Array UInt8)|flt (b:UInt64)|ref (a:A8)|ty (n:String)
 deriving DecidableEq
def RelV:V->_v->Prop
 |.yw,u=>u=K6
 |.bl b,u=>u=v8 b
 |.int i,u=>∃t,u=vf i t
 |.str x,u=>∃t,u=vg x t
 |.byt b,u=>∃t,u=ye b t
 |.flt b,u=>∃t,u=xP b t
 |.ref a,u=>u=D4 a
 |.ty n,u=>u=O1 n
abbrev AI:List V->List _v->Prop:=Paired RelV
variable{us:List _v}
theorem AI.length{xs:List V}(r:AI xs us):xs.length=us.length:=Paired.length r
theorem AI.get:∀{xs:List V}{us:List _v}{i:Nat}{x:V},AI xs us->xs[i]?=_s x->∃u,us[i]?=_s u/\RelV x u
 |_,_,_,_,.nil,e=>by simp at e
 |_,_,0,_,.cons r _,e=>by simp at e;subst e;exact⟨_,rfl,r⟩
 |_,_,i+1,x,.cons _ t,e=>by obtain⟨u,h1,h2⟩:=AI.get (i:=i) (x:=x) t (by simpa using e);exact⟨u,by simpa using h1,h2⟩
theorem AI.set{x:V}{u:_v}(r:RelV x u):∀{xs:List V}{us:List _v}(i:Nat),AI xs us->AI (xs.set i x) (us.set i u)
 |_,_,_,.nil=>.nil
 |_,_,0,.cons _ t=>.cons r t
 |_,_,i+1,.cons q t=>.cons q (AI.set r i t)
theorem AI.append:∀{xs ys:List V}{us ws:List _v},AI xs us->AI ys ws->AI (xs++ys) (us++ws)
 |_,_,_,_,.nil,s=>s
 |_,_,_,_,.cons r t,s=>.cons r (AI.append t s)
theorem AI.take:∀{xs:List V}{us:List _v}(n:Nat),AI xs us->AI (xs.take n) (us.take n)
 |_,_,0,_=>.nil
 |_,_,_+1,.nil=>.nil
 |_,_,n+1,.cons r t=>.cons r (AI.take n t)
theorem AI.drop:∀{xs:List V}{us:List _v}(n:Nat),AI xs us->AI (xs.drop n) (us.drop n)
 |_,_,0,r=>r
 |_,_,_+1,.nil=>.nil
 |_,_,n+1,.cons _ t=>AI.drop n t
def Gh:Option V->Option _v->Prop
 |some v,_s u=>RelV v u
 |none,_n=>True
 |_,_=>False
def KV{a:Type}:List (a×V)->List (a×_v)->Prop:=Paired fun(p:a×V) (q:a×_v)=>p.1=q.1/\RelV p.2 q.2
def kV:BY->V
 |.inl i=>.int i
 |.inr x=>.str x
inductive HO where
 |lst (xs:List V)
 |tup (xs:List V)
 |dK (y7:List (BY×V))|dT (y7:List (List BY×V))|dN (y7:List (NK BY×V))
 |set (S:Int->Bool) (n:Nat)
 |ins (C dx:A8) (fs:List (Str×V))
 |own (x:A8)
 |xd (fs:List (Str×V))
 |met (f x:A8)
 |rng (lo hi:Int)
 |frz (o:Obj) (u:HO)
 |tbl (ps:Array _v)
 |ext (φ:G2->Prop)
noncomputable abbrev Hp:=A8->Option HO
def aD(H:Hp):NK BY->List V->Prop
 |[],vs=>vs=[]
 |.inl k::ks,vs=>∃r,vs=kV k::r/\aD H ks r
 |.inr t::ks,vs=>∃c r,vs=.ref c::r/\H c=_s (.tup (t.map kV))/\aD H ks r
def Qw(H:Hp)(k:NK BY)(b:A8):Prop:=∃vs,H b=_s (.tup vs)/\aD H k vs
theorem aD.keeps{H H':Hp}(a:∀b xs,H b=_s (.tup xs)->H' b=_s (.tup xs)):∀{k:NK BY}{vs:List V},aD H k vs->aD H' k vs
 |[],_,h=>h
 |.inl _::ks,_,⟨r,e,h⟩=>⟨r,e,aD.keeps a h⟩
 |.inr _::ks,_,⟨c,r,e,h1,h⟩=>⟨c,r,e,a _ _ h1,aD.keeps a h⟩
variable{H:Hp}{b:A8}
theorem Qw.keeps{H':Hp}(a:∀b xs,H b=_s (.tup xs)->H' b=_s (.tup xs)){k:NK BY}(h:Qw H k b):Qw H' k b:=let ⟨vs,e,n⟩:=h;⟨vs,a _ _ e,n.keeps a⟩
def upd(H:Hp)(a:A8)(o:HO):Hp:=λb=>if b=a then _s o else H b
variable{a:A8}{o:HO}
theorem AG:upd H a o a=_s o:=by unfold upd;rw[if_pos rfl]
theorem AC(h:b≠a):upd H a o b=H b:=by unfold upd;rw[if_neg h]
theorem oi{u:HO}(h:H a=_s o)(h':H b=_s u)(d:o≠u):a≠b:=by intro e;subst e;rw[h]at h';exact d (C3 h')
theorem AY(h:H a=_s o)(h':H b=_n):a≠b:=by intro e;subst e;rw[h]at h';cases h'
def IB(h:G2)(a:A8)(items:Array _v):Prop:=∃o,h.get? a=_s o/\o.cls=.type "tuple" /\ o.dict=_n/\∃n,o.data=.seq items n
variable{h:G2}
theorem IB.tup{items:Array _v}(x:IB h a items):IsTup h a items:=let ⟨o,e,c,_,d⟩:=x;⟨o,e,c,d⟩
theorem IB.new(h:G2)(items:Array _v):IB (h.push {cls:=.type "tuple", data:=.seq items}) h.objs.size items:=⟨_,D3 _ rfl,rfl,rfl,_,rfl⟩
section
variable(P:E8)(w:G7)
def An(H:Hp)(h:G2)(a:A8):HO->Prop
  |.lst xs=>xs.length<=sizeLine/\∃(c:List _v)(n:Nat),AI xs c/\h.get? a=_s {cls:=.type "list", data:=.seq c.toArray n}
  |.tup xs=>xs.length<=sizeLine/\∃c:List _v,AI xs c/\IB h a c.toArray
  |.dK y7=>y7.length<=sizeLine/\(a==V4)=_f/\∃vs,KV y7 vs/\h.DictOf (Ak P w) a vs
  | .dT y7=>y7.length<=sizeLine/\(a==V4)=_f/\∃xs:List (List BY×A8×_v),
      Paired (fun(p:List BY×V) (q:List BY×A8×_v)=>p.1=q.1/\H q.2.1=_s (.tup (p.1.map kV))/\RelV p.2 q.2.2) y7 xs /\
      ∃o es d,h.get? a=_s o/\o.ExactDict/\o.data=.dict es d/\es.toList=xs.map (entryOfKey (tupleKind (Ak P w)))/\(xs.map (·.1)).Nodup
  | .dN y7=>y7.length<=sizeLine/\(a==V4)=_f/\∃xs:List (NK BY×A8×_v),
      Paired (fun(p:NK BY×V) (q:NK BY×A8×_v)=>p.1=q.1/\Qw H p.1 q.2.1/\RelV p.2 q.2.2) y7 xs /\
      ∃o es d,h.get? a=_s o/\o.ExactDict/\o.data=.dict es d/\es.toList=xs.map (entryOfKey (Cs (Ak P w) (CB P w)))/\(xs.map (·.1)).Nodup
  |.set S n=>h.SetOf (intKind P w) a S n
  | .ins C dx fs=>H dx=_s (.own a)/\fs.length<=1000/\dx≠a/\h.get? a=_s (W.instObj C dx) /\
      ∃mA,h.Ns1 dx mA/\(∀f,Gh (fs.lookup f) (mA f))/\wL mA (fs.map (·.1))
  |.own _=>∃o,h.get? a=_s o
  |.xd fs=>∃mA,h.Ns1 a mA/\∀f,Gh (fs.lookup f) (mA f)
  |.rng lo hi=>∃t u v,h.get? a=_s {cls:=.type "range", data:=.fields #[.int lo t,.int hi u,.int 1 v]}
  |.frz o u=>h.get? a=_s o/\An H h a u
  |.tbl ps=>h.get? a=_s {cls:=.none,data:=.fields ps}
  |.met f x=>h.get? a=_s (W.methodObj (.ref f) (.ref x))
  |.ext φ=>φ h/\(∃o,h.get? a=_s o)/\∀h1 h2:G2,φ h1->(∀o,h1.get? a=_s o->h2.get? a=_s o)->φ h2
def EM(H:Hp)(h:G2):Prop:=∀a o,H a=_s o->An P w H h a o
end
section
variable{P:E8}{w:G7}{H H':Hp}{h h':G2}{a:A8}{o:HO}
theorem An.lt(x:An P w H h a o):a < h.objs.size:=by
 cases o with|lst xs=>obtain⟨_,_,_,_,e⟩:=x;exact B8 e|tup xs=>obtain⟨_,_,_,p⟩:=x;exact p.tup.lt|dK y7=>obtain⟨_,_,_,_,o,_,_,e,_⟩:=x;exact B8 e|dT y7=>obtain⟨_,_,_,_,o,_,_,e,_⟩:=x;exact B8 e|dN y7=>obtain⟨_,_,_,_,o,_,_,e,_⟩:=x;exact B8 e|set S n=>obtain⟨o,_,_,_,e,_⟩:=x;exact B8 e|ins C dx fs=>obtain⟨_,_,_,e,_⟩:=x;exact B8 e|own y=>obtain⟨_,e⟩:=x;exact B8 e|xd fs=>obtain⟨_,⟨_,_,_,e,_⟩,_⟩:=x;exact B8 e|rng lo hi=>obtain⟨_,_,_,e⟩:=x;exact B8 e|frz ob u=>obtain⟨e,_⟩:=x;exact B8 e|tbl ps=>exact B8 (show h.get? a=_s _ from x)|met f y=>exact B8 (show h.get? a=_s _ from x)|ext φ=>obtain⟨_,⟨_,e⟩,_⟩:=x;exact B8 e
theorem Paired.zCV{α β:Type}{F G:α->β->Prop}:∀{c:List α}{d:List β},Paired F c d->(∀a b,F a b->G a b)->Paired G c d
 |_,_,.nil,_=>.nil
 |_,_,.cons r t,f=>.cons (f _ _ r) (Paired.zCV t f)
theorem An.zAv(x:An P w H h a o)(k:∀b u,(b=a\/H b=_s (.own a))->h.get? b=_s u->h'.get? b=_s u)
    (m:∀b,H b=_s (.own a)->H' b=_s (.own a)) (j:∀b xs,H b=_s (.tup xs)->H' b=_s (.tup xs)):An P w H' h' a o:=by
  induction o with|lst xs=>obtain⟨z,i,n,r,e⟩:=x;exact⟨z,i,n,r,k _ _ (.inl rfl) e⟩|tup xs=>obtain⟨z,i,r,ob,e,c⟩:=x;exact⟨z,i,r,ob,k _ _ (.inl rfl) e,c⟩|dK y7=>obtain⟨z,y,vs,r,ob,es,g,e,c⟩:=x;exact⟨z,y,vs,r,ob,es,g,k _ _ (.inl rfl) e,c⟩|dT y7=>obtain⟨z,y,xs,r,ob,es,g,e,c⟩:=x;exact⟨z,y,xs,Paired.zCV r λp q z=>⟨z.1,j _ _ z.2.1,z.2.2⟩,ob,es,g,k _ _ (.inl rfl) e,c⟩|dN y7=>obtain⟨z,y,xs,r,ob,es,g,e,c⟩:=x;exact⟨z,y,xs,Paired.zCV r λp q z=>⟨z.1,z.2.1.keeps j,z.2.2⟩,ob,es,g,k _ _ (.inl rfl) e,c⟩|set S n=>obtain⟨ob,es,g,t,e,c⟩:=x;exact⟨ob,es,g,t,k _ _ (.inl rfl) e,c⟩|ins C dx fs=>obtain⟨d,z,ne,e,mA,⟨od,es,g,s,c⟩,r⟩:=x;exact⟨m _ d,z,ne,k _ _ (.inl rfl) e,mA,⟨od,es,g,k _ _ (.inr d) s,c⟩,r⟩|own y=>obtain⟨ob,e⟩:=x;exact⟨ob,k _ _ (.inl rfl) e⟩|xd fs=>obtain⟨mA,⟨od,es,g,e,c⟩,r⟩:=x;exact⟨mA,⟨od,es,g,k _ _ (.inl rfl) e,c⟩,r⟩|rng lo hi=>obtain⟨t,u,v,e⟩:=x;exact⟨t,u,v,k _ _ (.inl rfl) e⟩|frz ob u l=>obtain⟨e,q⟩:=x;exact⟨k _ _ (.inl rfl) e,l q⟩|tbl ps=>have e:h.get? a=_s {cls:=.none,data:=.fields ps}:=x;show h'.get? a=_s {cls:=.none,data:=.fields ps};exact k a _ (.inl rfl) e|met f y=>have e:h.get? a=_s (W.methodObj (.ref f) (.ref y)):=x;show h'.get? a=_s (W.methodObj (.ref f) (.ref y));exact k a _ (.inl rfl) e|ext φ=>obtain⟨p,⟨o,e⟩,st⟩:=x;exact⟨st _ _ p λo q=>k _ _ (.inl rfl) q,⟨o,k _ _ (.inl rfl) e⟩,st⟩
theorem EM.lt(x:EM P w H h)(e:H a=_s o):a < h.objs.size:=(x a o e).lt
theorem EM.fresh(x:EM P w H h)(e:h.objs.size<=a):H a=none:=by
 cases q:H a with|none=>rfl|some u=>exact absurd (B7 (x.lt q) e) (K9 _)
theorem EM.kept(x:EM P w H h)(k:∀b u,h.get? b=_s u->h'.get? b=_s u):EM P w H h':=λa o e =>
 (x a o e).zAv (λb u _ q=>k b u q) (λ_ q=>q) λ_ _ q=>q
theorem EM.laid(x:EM P w H h)(k:∀b u,h.get? b=_s u->h'.get? b=_s u)(hp:h.objs.size<=a)(new:An P w (upd H a o) h' a o):EM P w (upd H a o) h':=λb u e=>by have hn:=x.fresh hp;by_cases d:b=a;subst d;rw[AG]at e;cases e;exact new;rw[AC d]at e;exact(x b u e).zAv (λc v _ q=>k c v q) (λc q=>by rw[AC (AY q hn)];exact q) λc xs q=>by rw[AC (AY q hn)];exact q
end
def Rd(H:Hp)(a:A8)(u:HO):Prop:=H a=_s u\/∃o,H a=_s (.frz o u)
variable{P:E8}{w:G7}
theorem Rd.ok{u:HO}(r:Rd H a u)(x:EM P w H h):An P w H h a u:=by
 rcases r with r|⟨o,r⟩
 exact x a u r;obtain⟨_,q⟩:=x a _ r;exact q
def mE:Option HO->Prop
 |some (.lst _)=>True
 |some (.dK _)=>True
 |some (.dT _)=>True
 |some (.dN _)=>True
 |some (.set _ _)=>True
 |some (.ins _ _ _)=>True
 |some (.ext _)=>True
 |_=>False
section
variable{P:E8}{w:G7}{H:Hp}{h h':G2}{x e:A8}{o':HO}
theorem EM.write(ok:EM P w H h)(mu:mE (H x))(he:e=x\/H e=_s (.own x))(k:∀b u,b≠e->h.get? b=_s u->h'.get? b=_s u)(j:∃u,h'.get? e=_s u)
    (new:An P w (upd H x o') h' x o'):EM P w (upd H x o') h':=λb u q=>by
  have f:∀c y,H c=_s (.own y)->c≠x:=λc y r z=>by subst z;rw[r]at mu;exact mu
  have i:∀c xs,H c=_s (.tup xs)->c≠x:=λc xs r z=>by subst z;rw[r]at mu;exact mu
  by_cases g:b=x;subst g;rw[AG]at q;cases q;exact new;rw[AC g]at q;by_cases d:b=e;have l:H b=_s (.own x):=by
    rcases he with z|z
    exact absurd (d.trans z) g;rw[d];exact z
  rw[q]at l;cases l;obtain⟨v,m⟩:=j;exact⟨v,by rw[d];exact m⟩;refine(ok b u q).zAv (λc v hc r=>k c v ?_ r) (λc r=>by rw[AC (f c b r)];exact r) λc xs r=>by rw[AC (i c xs r)];exact r
  rcases hc with rfl|hc
  exact d;rintro rfl;rcases he with z|z
  exact f c b hc z;rw[hc]at z;cases z;exact g rfl
end
structure Un (fs ex:List A8) (H H':Hp) (h h':G2):Prop where
 keep:∀b o,h.get? b=_s o->H b=_n->b∉fs->b∉ex->h'.get? b=_s o
 slot:∀b o,h.get? b=_s o->H b=_n->b∈fs->b∉ex->∃sl,h'.get? b=_s {o with slots:=sl}
 free:∀b o,h.get? b=_s o->H b=_n->b∉ex->H' b=_n
 there:∀b o,h.get? b=_s o->b∉ex->∃o',h'.get? b=_s o'
 zAi:∀b xs,H b=_s (.tup xs)->H' b=_s (.tup xs)
 zAe:∀b o u,H b=_s (.frz o u)->H' b=_s (.frz o u)
 zAj:∀b ps,H b=_s (.tbl ps)->∃more,H' b=_s (.tbl (ps++more))
section
variable{fs fs' ex ex':List A8}{H H1 H2:Hp}{h h1 h2 h':G2}{a x e:A8}{o:HO}
theorem Un.any(u:Un fs ex H H1 h h1){ob:Obj}(q:h.get? b=_s ob)(n:H b=_n)(c:b∉ex):∃sl,h1.get? b=_s {ob with slots:=sl}:=by by_cases d:b∈fs;exact u.slot b ob q n d c;exact⟨ob.slots,u.keep b ob q n d c⟩
theorem Un.kept(k:∀b u,h.get? b=_s u->h'.get? b=_s u):Un fs ex H H h h':=
 ⟨λb ob q _ _ _=>k b ob q,λb ob q _ _ _=>⟨ob.slots,k b ob q⟩,λ_ _ _ n _=>n,λb ob q _=>⟨ob,k b ob q⟩,λ_ _ q=>q,λ_ _ _ q=>q,λ_ ps q=>⟨#[],by rw[q];simp⟩⟩
theorem Un.refl:Un fs ex H H h h:=Un.kept λ_ _ q=>q
theorem Un.laid(k:∀b u,h.get? b=_s u->h'.get? b=_s u)(hp:h.objs.size<=a)(hn:H a=_n):Un fs ex H (upd H a o) h h' where
 keep:=λb u q _ _ _=>k b u q
 slot:=λb u q _ _ _=>⟨u.slots,k b u q⟩
 free:=λb u q n _=>by rw[AC (D6 (B7 (B8 q) hp))];exact n
 there:=λb u q _=>⟨u,k b u q⟩
 zAi:=λb xs q=>by rw[AC (AY q hn)];exact q
 zAe:=λb u xs q=>by rw[AC (AY q hn)];exact q
 zAj:=λb ps q=>⟨#[],by rw[AC (AY q hn),q];simp⟩
theorem Un.write(mu:mE (H x))(he:e=x\/H e=_s (.own x))(k:∀b u,b≠e->h.get? b=_s u->h'.get? b=_s u)(d:∃u,h'.get? e=_s u):Un fs ex H (upd H x o) h h':=by
 have f:∀b,H b=_n->b≠x:=λb n z=>by subst z;rw[n]at mu;exact mu
 have g:∀b,H b=_n->b≠e:=λb n z=>by
  subst z;rcases he with r|r
  exact f b n r;rw[n]at r;cases r
 have hm:∀b u,H b=_s u->¬mE (_s u)->b≠x:=λb u q nm z=>by subst z;rw[q]at mu;exact nm mu
 refine⟨λb u q n _ _=>k b u (g b n) q,λb u q n _ _=>⟨u.slots,k b u (g b n) q⟩,λb u q n _=>by rw[AC (f b n)];exact n,λb u q _=>?_,
  λb xs q=>by rw[AC (hm b _ q λz=>z)];exact q,λb u xs q=>by rw[AC (hm b _ q λz=>z)];exact q,λb ps q=>⟨#[],by rw[AC (hm b _ q λz=>z),q];simp⟩⟩
 by_cases c:b=e;subst c;exact d;exact⟨u,k b u c q⟩
end
def qi(h:G2)(H:Hp):List A8:=(B6 h.objs.size).filter λa=>(H a).isSome
def Mg(h:G2)(H:Hp):G2:=W.hideAll h (qi h H)
theorem UQ(h:G2)(H:Hp):(Mg h H).objs.size=h.objs.size:=W.hideAll_size _ _
theorem Xt{o:Obj}(e:h.get? b=_s o)(n:H b=_n):(Mg h H).get? b=_s o:=
 W.hideAll_get _ e λhm=>by have q:(H b).isSome=true:=(S4.mp hm).2;rw[n]at q;simp at q
theorem cK{o:Obj}(e:(Mg h H).get? b=_s o):h.get? b=_s o/\H b=none:=by
 have c:h.get? b=_s o:=W.of_hideAll (qi h H) e;refine⟨c,?_⟩;cases q:H b with|none=>rfl|some x=>have hm:b∈qi h H:=S4.mpr ⟨I0.mpr (B8 c),by simp[q]⟩;have z:(Mg h H).get? b=none:=W.hideAll_none (qi h H) hm;rw[z]at e;cases e
noncomputable def eE(g h:G2)(L:A8):List (A8×Obj):=(B6 h.objs.size).filterMap λa=>if a=L\/(g.get? a).isSome=_t then _n else(h.get? a).map λo=>(a,o)
def rest(g h:G2)(L d:A8):List (A8×Obj):=(eE g h L).filter λp=>decide (p.1≠d)
structure Mod (K:W.Frag) (mg:Str->Option _v) (base:G2):Prop where
 kin:K.In base
 glob:base.Ns K4 mg
 blt:∃mb,base.Ns xn mb/\∀x:Str,x ≠ "__name__" -> mb x=S6 x
 nolimit:base.NoLimit
structure Cx where
 prog:E8
 w:G7
 K:W.Frag
 mg:Str->Option _v
 base:G2
 A:G3
 N:List Str
 zQ:A5
 H₀:Hp
 env:Env
 outer:List Env
 stack:List Env
 ex:List A8
 fn:Str->Bool
 calm:Bool
 pn:List (A8×Obj)
 xe:_v->A5->Prop
noncomputable def IT(l:List Env):List A8:=l.filterMap (·.frame)
abbrev Cx.fs(X:Cx):List A8:=IT X.outer
def mB(sc:M4)(x:Str):Prop:=sc.names.lookup x=_s .local\/sc.names.lookup x=_s .cell\/sc.names.lookup x=_s .free
def Loc(sc:M4)(x:Str):Prop:=sc.names.lookup x=_s .local\/sc.names.lookup x=_s .cell
def Look(env:Env)(h:G2)(m:Str->Option _v)(x:Str)(u:_v):Prop:=
 (env.kindOf x=_s .local/\m x=_s u)\/((env.kindOf x=_s .cell\/env.kindOf x=_s .free)/\∃c,env.cells.lookup x=_s c/\h.IsCell c (_s u))
structure Cx.Ok (X:Cx):Prop where
 mod:Mod X.K X.mg X.base
 kind:X.env.scope.kind=.function
 glob:X.env.globals=K4
 blt:X.env.builtins=xn
 above:X.zQ.heap.objs.size<=X.env.locals
 inj:∀x y c,X.env.cells.lookup x=_s c->X.env.cells.lookup y=_s c->x=y
 has:∀x,(X.env.kindOf x=_s .cell\/X.env.kindOf x=_s .free)->∃c,X.env.cells.lookup x=_s c
 cab:∀x c,X.fn x=_t->X.env.cells.lookup x=_s c->X.zQ.heap.objs.size<=c
 hd:X.calm=_t->X.A.handled=_n
 frames:X.A.frames=_s X.stack
 stk:X.stack=X.outer\/(X.stack=X.env::X.outer/\X.env.frame=_s X.env.locals)
 exf:∀b∈X.ex,b≠X.env.locals/\∀x c,X.env.cells.lookup x=_s c->c≠b
 bs:∀b o,X.base.get? b=_s o->X.zQ.heap.get? b=_s o/\X.H₀ b=_n
 bsz:X.base.objs.size<=X.zQ.heap.objs.size
 zBc:∀b o,X.base.get? b=_s o->b∉X.ex
 zBy:∀b∈X.ex,b∉X.fs
 zAT:X.zQ.heap.FunFrames X.base X.outer
 frf:∀b∈X.fs,X.H₀ b=_n
structure Inv (X:Cx) (pins:List (A8×Obj)) (σ:List (Option V)) (H:Hp) (s:A5):Prop where
 ok:X.Ok
 os:s.os=X.zQ.os
 bare:k8 s.gens
 base:Un X.fs X.ex X.H₀ H X.zQ.heap s.heap
 loc:∃m,s.heap.Ns X.env.locals m/\∀(i:Nat)(x:Str)(v:V),X.N[i]?=_s x->σ[i]?=_s (_s v)->mB X.env.scope x->∃u,RelV v u/\Look X.env s.heap m x u
 cell:∀x c,X.env.cells.lookup x=_s c->∃v,s.heap.IsCell c v
 free:H X.env.locals=_n
 ze:∀x c,X.env.cells.lookup x=_s c->H c=_n
 pin:∀p∈X.pn++pins,s.heap.get? p.1=_s p.2/\H p.1=_n/\p.1≠X.env.locals/\p.1∉X.fs/\∀v,p.2.data≠.cell v
 y8:EM X.prog X.w H s.heap
 len:σ.length=X.N.length
variable{t' i:Nat}{x:Str}{v:V}{u:_v}
section
variable{X:Cx}{pins:List (A8×Obj)}{σ:List (Option V)}{H H':Hp}{s:A5}{h':G2}
theorem Cx.Ok.zES(ok:X.Ok){o:Obj}(e:X.base.get? b=_s o):b∉X.fs:=λc=>by have:=(ok.zAT.mem c).1;rw[e]at this;cases this
theorem Inv.bs(I:Inv X pins σ H s):∀b o,X.base.get? b=_s o->s.heap.get? b=_s o/\H b=none:=λb o e =>
 ⟨I.base.keep b o (I.ok.bs b o e).1 (I.ok.bs b o e).2 (I.ok.zES e) (I.ok.zBc b o e),I.base.free b o (I.ok.bs b o e).1 (I.ok.bs b o e).2 (I.ok.zBc b o e)⟩
theorem Inv.bk(I:Inv X pins σ H s):∀b o,X.base.get? b=_s o->s.heap.get? b=_s o:=λb o e=>(I.bs b o e).1
theorem Inv.mod(I:Inv X pins σ H s):Mod X.K X.mg X.base:=I.ok.mod
theorem Inv.zx(I:Inv X pins σ H s):X.K.In s.heap:=I.ok.mod.kin.keeps I.bk
theorem Inv.lt(I:Inv X pins σ H s):X.env.locals < s.heap.objs.size:=let ⟨_,hn,_⟩:=I.loc;hn.lt
theorem Inv.sz(I:Inv X pins σ H s):X.zQ.heap.objs.size<=s.heap.objs.size:=D0 I.ok.above (wM I.lt)
theorem Inv.zDY(I:Inv X pins σ H s)(h:s.heap.objs.size<=a):a∉X.fs:=λd=>by obtain⟨_,o,c,_⟩:=I.ok.zAT.mem d;exact absurd (B7 (B8 c) (D0 I.sz h)) (K9 _)
theorem Inv.cne(I:Inv X pins σ H s):∀x c,X.env.cells.lookup x=_s c->c≠X.env.locals:=λx c e z=>by obtain⟨v,o,g,hd⟩:=I.cell x c e;obtain⟨m,⟨o',es,j,d,f,_⟩,_⟩:=I.loc;rw[z,d]at g;cases g;rw[f]at hd;cases hd
theorem Inv.zAT(I:Inv X pins σ H s):s.heap.FunFrames X.base X.outer:=by
 have all:∀(l:List Env),(∀b∈IT l,b∈X.fs)->X.zQ.heap.FunFrames X.base l->s.heap.FunFrames X.base l:=by
  intro l;induction l with|nil=>intro _ _;trivial|cons env r g=>intro f m;obtain⟨n,⟨L,o,hf,hn,k,hd⟩,j⟩:=m;have d:L∈X.fs:=f L (by unfold IT;rw[W4,hf];exact B2);obtain⟨sl,e⟩:=I.base.slot L o k (I.ok.frf L d) d λz=>I.ok.zBy L z d;exact⟨n,⟨L,_,hf,hn,e,hd⟩,g (λb c=>f b (by unfold IT;rw[W4,hf];exact B1 _ c)) j⟩
 exact all X.outer (λ_ c=>c) I.ok.zAT
theorem Inv.stack(I:Inv X pins σ H s):s.heap.FunFrames X.base X.stack:=by
 rcases I.ok.stk with e|⟨e,hf⟩
 rw[e];exact I.zAT;rw[e];obtain⟨m,hn,_⟩:=I.loc;refine .cons (by rw[I.ok.kind];decide) hf hn ?_ I.zAT;exact Heap.get?_none_of_le (D0 I.ok.bsz I.ok.above)
theorem Inv.zAA(I:Inv X pins σ H s):∀b∈IT X.stack,b∈X.env.locals::X.fs:=λb c=>by
 rcases I.ok.stk with e|⟨e,hf⟩
 rw[e]at c;exact B1 _ c;rw[e]at c;unfold IT at c;rw[W4,hf]at c;exact c
theorem Inv.zAg(I:Inv X pins σ H s):∀b∈IT X.stack,H b=none:=λb c=>by
 rcases C9.mp (I.zAA b c)with e|c
 rw[e];exact I.free;obtain⟨_,o,d,_⟩:=I.ok.zAT.mem c;exact I.base.free b o d (I.ok.frf b c) λz=>I.ok.zBy b z c
theorem Inv.step{g':Array GenState}{t':Nat}{d':Drawn}{ch:List A8}(I:Inv X pins σ H s)
    (j:∀b∈ch,(b∈X.ex\/X.zQ.heap.objs.size<=b)/\b≠X.env.locals/\(∀x c,X.env.cells.lookup x=_s c->c≠b)/\∀p∈X.pn++pins,p.1≠b)
    (keep:∀b o,b≠X.env.locals->b∉X.fs->b∉ch->s.heap.get? b=_s o->H b=_n->h'.get? b=_s o)
    (slot:∀b o,b≠X.env.locals->b∈X.fs->b∉ch->s.heap.get? b=_s o->H b=_n->∃sl,h'.get? b=_s {o with slots:=sl}) (free:∀b o,b∉ch->s.heap.get? b=_s o->H b=_n->H' b=_n)
    (there:∀b o,b∉ch->s.heap.get? b=_s o->∃o',h'.get? b=_s o')
    (zAi:∀b xs,H b=_s (.tup xs)->H' b=_s (.tup xs)) (zAe:∀b o u,H b=_s (.frz o u)->H' b=_s (.frz o u)) (zAj:∀b ps,H b=_s (.tbl ps)->∃more,H' b=_s (.tbl (ps++more)))
    (ns:∀m,s.heap.Ns X.env.locals m->h'.Ns X.env.locals m) (y8:EM X.prog X.w H' h') (L:k8 g') :
    Inv X pins σ H' {s with heap:=h',gens:=g',drawn:=d',toks:=t' }:=by
  have C:∀b o,X.zQ.heap.get? b=_s o->b≠X.env.locals:=λb o e=>D6 (B7 (B8 e) I.ok.above);have t:∀b o,X.zQ.heap.get? b=_s o->b∉X.ex->b∉ch:=λb o e f A=>by
    rcases(j b A).1 with z|z
    exact f z;exact absurd (B7 (B8 e) z) (K9 _)
  have cellK:∀x c,X.env.cells.lookup x=_s c->∀v,s.heap.IsCell c v->h'.IsCell c v:=λx c e v ⟨o,B,hd⟩=>by have g:c∉ch:=λz=>(j c z).2.2.1 x c e rfl;by_cases hc:c∈X.fs;obtain⟨sl,q⟩:=slot c o (I.cne x c e) hc g B (I.ze x c e);exact⟨_,q,hd⟩;exact⟨o,keep c o (I.cne x c e) hc g B (I.ze x c e),hd⟩
  refine⟨I.ok,I.os,L,⟨λb o e n A f=>?_,λb o e n A f=>?_,λb o e n f=>?_,λb o e f=>?_,λb xs e=>zAi b xs (I.base.zAi b xs e),λb o xs e=>zAe b o xs (I.base.zAe b o xs e),λb ps e=>?_⟩,?_,λx c e=>?_,?_,λx c e=>?_,λp hp=>?_,y8,I.len⟩;exact keep b o (C b o e) A (t b o e f) (I.base.keep b o e n A f) (I.base.free b o e n f);obtain⟨sl,y⟩:=I.base.slot b o e n A f;obtain⟨E,D⟩:=slot b _ (C b o e) A (t b o e f) y (I.base.free b o e n f);exact⟨E,D⟩;obtain⟨o',y⟩:=I.base.there b o e f;exact free b o' (t b o e f) y (I.base.free b o e n f);obtain⟨o',y⟩:=I.base.there b o e f;exact there b o' (t b o e f) y;obtain⟨J,y⟩:=I.base.zAj b ps e;obtain⟨G,D⟩:=zAj b _ y;exact⟨J++G,by rw[D,Array.append_assoc]⟩;obtain⟨m,hn,K⟩:=I.loc;refine⟨m,ns m hn,λi x v y D M=>?_⟩;obtain⟨u,r,l⟩:=K i x v y D M;refine⟨u,r,?_⟩;rcases l with l|⟨k,c,e,z⟩
  exact .inl l;exact .inr ⟨k,c,e,cellK x c e _ z⟩;obtain⟨v,z⟩:=I.cell x c e;exact⟨v,cellK x c e v z⟩;obtain⟨m,⟨o,_,_,B,_⟩,_⟩:=I.loc;exact free _ o (λz=>(j _ z).2.1 rfl) B I.free;obtain⟨v,o,B,hd⟩:=I.cell x c e;exact free c o (λz=>(j c z).2.2.1 x c e rfl) B (I.ze x c e);obtain⟨e,n,ne,F,d⟩:=I.pin p hp;have g:p.1∉ch:=λz=>(j p.1 z).2.2.2 p hp rfl;exact⟨keep p.1 p.2 ne F g e n,free p.1 p.2 g e n,ne,F,d⟩
theorem Inv.un(I:Inv X pins σ H s)(u:Un X.fs [] H H' s.heap h')(y8:EM X.prog X.w H' h'):Inv X pins σ H' {s with heap:=h',toks:=t' }:=by
 obtain⟨m,⟨o,es,p,j,r⟩,_⟩:=id I.loc;obtain⟨sl,l⟩:=u.any j I.free (by simp);exact I.step (g':=s.gens) (d':=s.drawn) (ch:=[]) (λ_ z=>nomatch z) (λb o _ d _ e n=>u.keep b o e n d (by simp)) (λb o _ d _ e n=>u.slot b o e n d (by simp)) (λb o _ e n=>u.free b o e n (by simp)) (λb o _ e=>u.there b o e (by simp)) u.zAi u.zAe u.zAj (λm' hm=>by obtain⟨o',f,g,c,k⟩:=hm;rw[j]at c;cases c;exact⟨_,f,g,l,k⟩) y8 I.bare
theorem Inv.call{g':Array GenState}{t':Nat}{d':Drawn}{ch:List A8}(I:Inv X pins σ H s)(u:Un (IT X.stack) ch H H' s.heap h')(y8:EM X.prog X.w H' h')(t:k8 g')
    (f:∀b∈ch,(b∈X.ex\/X.zQ.heap.objs.size<=b)/\b≠X.env.locals/\(∀x c,X.env.cells.lookup x=_s c->c≠b)/\∀p∈X.pn++pins,p.1≠b) :
    Inv X pins σ H' {s with heap:=h',gens:=g',drawn:=d',toks:=t' }:=by
  obtain⟨m,⟨o,es,A,l,r⟩,_⟩:=id I.loc;obtain⟨sl,g⟩:=u.any l I.free λz=>(f _ z).2.1 rfl;exact I.step (ch:=ch) f (λb o g y hc e n=>u.keep b o e n (λz=>(C9.mp (I.zAA b z)).elim g y) hc) (λb o _ _ hc e n=>u.any e n hc) (λb o hc e n=>u.free b o e n hc) (λb o hc e=>u.there b o e hc) u.zAi u.zAe u.zAj (λm' hm=>by obtain⟨o',j,k,d,q⟩:=hm;rw[l]at d;cases d;exact⟨_,j,k,g,q⟩) y8 t
theorem Inv.turned{t':Nat}{it:A8}(I:Inv X pins σ H s)(k:∀b o,b≠it->s.heap.get? b=_s o->h'.get? b=_s o)(hn:H it=_n)(f:it≠X.env.locals)
    (h1:it∈X.ex\/X.zQ.heap.objs.size<=it) (h2:∀x c,X.env.cells.lookup x=_s c->c≠it) (h3:∀p∈X.pn++pins,p.1≠it):Inv X pins σ H {s with heap:=h',toks:=t' }:=by
  have d:∀b u,H b=_s u->b≠it:=λb u e z=>by rw[z,hn]at e;cases e
  refine I.step (g':=s.gens) (d':=s.drawn) (ch:=[it]) (λb j=>?_) (λb o _ _ hc e _=>k b o (λz=>hc (by simp[z])) e) (λb o _ _ hc e _=>⟨o.slots,k b o (λz=>hc (by simp[z])) e⟩) (λ_ _ _ _ n=>n)
    (λb o hc e=>⟨o,k b o (λz=>hc (by simp[z])) e⟩) (λ_ _ e=>e) (λ_ _ _ e=>e) (λb ps e=>⟨#[],by rw[e];simp⟩) (λm hm=>?_) (λb u e=>?_) I.bare
  have e:b=it:=by simpa using j
  subst e;exact⟨h1,f,h2,h3⟩;obtain⟨o,es,l,g,r⟩:=hm;exact⟨o,es,l,k _ o (Ne.symm f) g,r⟩;refine(I.y8 b u e).zAv (λc v hc q=>k c v ?_ q) (λ_ q=>q) λ_ _ q=>q;rcases hc with z|z
  rw[z];exact d b u e;exact d c _ z
theorem Inv.tok(I:Inv X pins σ H s)(t:Nat):Inv X pins σ H {s with toks:=t}:=I.un (h':=s.heap) (t':=t) Un.refl I.y8
theorem Inv.kept(I:Inv X pins σ H s)(k:∀b u,s.heap.get? b=_s u->h'.get? b=_s u):Inv X pins σ H {s with heap:=h',toks:=t' }:=I.un (Un.kept k) (I.y8.kept k)
theorem Inv.laid{t':Nat}(I:Inv X pins σ H s)(k:∀b u,s.heap.get? b=_s u->h'.get? b=_s u)(hp:s.heap.objs.size<=a)(new:An X.prog X.w (upd H a o) h' a o) :
    Inv X pins σ (upd H a o) {s with heap:=h',toks:=t' }:=I.un (Un.laid k hp (I.y8.fresh hp)) (I.y8.laid k hp new)
theorem Inv.write{x e:A8}{o:HO}{t':Nat}(I:Inv X pins σ H s)(mu:mE (H x))(he:e=x\/H e=_s (.own x))(k:∀b u,b≠e->s.heap.get? b=_s u->h'.get? b=_s u)(c:∃u,h'.get? e=_s u)
    (new:An X.prog X.w (upd H x o) h' x o):Inv X pins σ (upd H x o) {s with heap:=h',toks:=t' }:=I.un (Un.write mu he k c) (I.y8.write mu he k c new)
theorem Inv.weak{σ':List (Option V)}(I:Inv X pins σ H s)(c:σ'.length=σ.length)(w:∀(i:Nat) v,σ'[i]?=_s (_s v)->σ[i]?=_s (_s v)):Inv X pins σ' H s:=
 ⟨I.ok,I.os,I.bare,I.base,let ⟨m,hn,hl'⟩:=I.loc;⟨m,hn,λi x v f e d=>hl' i x v f (w i v e) d⟩,I.cell,I.free,I.ze,I.pin,I.y8,c.trans I.len⟩
theorem Inv.zAD{c:List (A8×Obj)}(I:Inv X pins σ H s)(h:∀p∈c,s.heap.get? p.1=_s p.2/\H p.1=_n/\p.1≠X.env.locals/\p.1∉X.fs/\∀v,p.2.data≠.cell v):Inv X c σ H s:=
 ⟨I.ok,I.os,I.bare,I.base,I.loc,I.cell,I.free,I.ze,λp hp=>(E6.mp hp).elim (λz=>I.pin p (C0 _ z)) (h p),I.y8,I.len⟩
theorem JY{N:List Str}(c:N.Nodup){j:Nat}(a:N[i]?=_s x)(b:N[j]?=_s x):i=j:=by obtain⟨h1,e⟩:=A7.mp a;obtain⟨h2,d⟩:=A7.mp b;exact(uo c).mp (e.trans d.symm)
theorem Kv{M:xQ}{A:G3}{E:_v->A5->Prop}{Q:Unit->A5->Prop}(I:Inv X pins σ H s)(hN:X.N.Nodup)(hi:X.N[i]?=_s x)(t:Loc X.env.scope x)(r:RelV v u)
    (h:∀s',Inv X pins (σ.set i (_s v)) H s'->(∃a,O6 a s.heap s'.heap/\(a=X.env.locals\/X.env.cells.lookup x=_s a))->Q () s') (hf:X.fn x=_t\/X.env.scope.names.lookup x=_s .local:=by first|exact .inl rfl|exact .inr rfl|assumption):B4 M A (yL X.env x u) Q E s:=by
  obtain⟨m,hn,hl⟩:=id I.loc;have U:(X.env.scope.kind==.class||(X.env.scope.kind==.module&&X.env.locals != X.env.globals))=false:=by rw[I.ok.kind];rfl
  have J:i < σ.length:=by rw[I.len];exact(A7.mp hi).1
  have cne:=I.cne;have g:∀{a:A8}{h':G2},(∃o,s.heap.get? a=_s o/\H a=_n)->O6 a s.heap h'->EM X.prog X.w H h':=fun{a h'} ha f b ob e=>by
    obtain⟨_,_,K⟩:=ha;refine(I.y8 b ob e).zAv (λc S hc q=>(f.2 c ?_).trans q) (λ_ q=>q) λ_ _ q=>q;rintro rfl;rcases hc with rfl|hc
    rw[K]at e;cases e;rw[K]at hc;cases hc
  rcases t with C|C
  refine wpAny_storeName_local C hn (λh' hn' f=>?_) U;obtain⟨oL,_,_,hoL,_⟩:=id hn;refine h _ ⟨I.ok,I.os,I.bare,⟨λb o e n G t=>?_,λb o e n G t=>?_,I.base.free,λb o e t=>?_,I.base.zAi,I.base.zAe,I.base.zAj⟩,⟨_,hn',λj y Y l B e3=>?_⟩,λy c e=>?_,I.free,I.ze,λp hp=>?_,g ⟨oL,hoL,I.free⟩ f,by simpa using I.len⟩ ⟨_,f,.inl rfl⟩;exact(f.2 b (D6 (B7 (B8 e) I.ok.above))).trans (I.base.keep b o e n G t);obtain⟨sl,l⟩:=I.base.slot b o e n G t;exact⟨sl,(f.2 b (D6 (B7 (B8 e) I.ok.above))).trans l⟩;obtain⟨o',l⟩:=I.base.there b o e t;exact⟨o',(f.2 b (D6 (B7 (B8 e) I.ok.above))).trans l⟩;by_cases D:j=i;subst D;rw[hi]at l;cases l;rw[E7 J]at B;cases B;exact⟨u,r,.inl ⟨C,by simp⟩⟩;rw[D9 (Ne.symm D)]at B;obtain⟨Z,r',q⟩:=hl j y Y l B e3;refine⟨Z,r',?_⟩;rcases q with⟨k,e⟩|⟨k,c,e,z⟩
  refine .inl ⟨k,?_⟩;have:y≠x:=λe=>D (JY hN l (e▸hi));simp[this,e];exact .inr ⟨k,c,e,z.sameBut f (cne y c e)⟩;obtain⟨S,z⟩:=I.cell y c e;exact⟨S,z.sameBut f (cne y c e)⟩;obtain⟨e,n,ne,nf,d⟩:=I.pin p hp;exact⟨(f.2 p.1 ne).trans e,n,ne,nf,d⟩;have F:X.fn x=true:=by
    rcases hf with z|z
    exact z;rw[z]at C;cases C
  obtain⟨c,hc⟩:=I.ok.has x (.inl C);obtain⟨S,z⟩:=I.cell x c hc;refine wpAny_storeName_cell I.ok.kind C hc z (λh' R f=>?_);obtain⟨oc,L,W⟩:=id z;refine h {s with heap:=h' } ⟨I.ok,I.os,I.bare,⟨λb o e n G t=>?_,λb o e n G t=>?_,I.base.free,λb o e t=>?_,I.base.zAi,I.base.zAe,I.base.zAj⟩,⟨m,hn.sameBut f (Ne.symm (cne x c hc)),λj y Y l B e3=>?_⟩,λy T e=>?_,I.free,I.ze,λp hp=>?_,g ⟨oc,L,I.ze x c hc⟩ f,by simpa using I.len⟩ ⟨c,f,.inr hc⟩;exact(f.2 b (D6 (B7 (B8 e) (I.ok.cab x c F hc)))).trans (I.base.keep b o e n G t);obtain⟨sl,l⟩:=I.base.slot b o e n G t;exact⟨sl,(f.2 b (D6 (B7 (B8 e) (I.ok.cab x c F hc)))).trans l⟩;obtain⟨o',l⟩:=I.base.there b o e t;exact⟨o',(f.2 b (D6 (B7 (B8 e) (I.ok.cab x c F hc)))).trans l⟩;by_cases D:j=i;subst D;rw[hi]at l;cases l;rw[E7 J]at B;cases B;exact⟨u,r,.inr ⟨.inl C,c,hc,R⟩⟩;rw[D9 (Ne.symm D)]at B;obtain⟨Z,r',q⟩:=hl j y Y l B e3;refine⟨Z,r',?_⟩;rcases q with q|⟨k,T,e,z'⟩
  exact .inl q;refine .inr ⟨k,T,e,z'.sameBut f ?_⟩;rintro rfl;exact D (JY hN l (I.ok.inj _ _ _ e hc▸hi));by_cases O:T=c;subst O;exact⟨_,R⟩;obtain⟨w2,z2⟩:=I.cell y T e;exact⟨w2,z2.sameBut f O⟩;obtain⟨e,n,ne,nf,d⟩:=I.pin p hp;refine⟨(f.2 p.1 ?_).trans e,n,ne,nf,d⟩;intro q;rw[q,L]at e;have q':oc=p.2:=C3 e;exact d S (by rw[<- q'];exact W)
theorem DU{M:xQ}{A:G3}{E:_v->A5->Prop}{Q:Unit->A5->Prop}(I:Inv X pins σ H s)(e:X.N.Nodup)(hi:X.N[i]?=_s x)(c:Loc X.env.scope x)(r:RelV v u)
    (h:∀s',Inv X pins (σ.set i (_s v)) H s'->Q () s') (d:X.fn x=_t\/X.env.scope.names.lookup x=_s .local:=by first|exact .inl rfl|exact .inr rfl|assumption):B4 M A (yL X.env x u) Q E s:=
  Kv I e hi c r (λs' f _=>h s' f) d
theorem Inv.zDx{s':A5}{ch:List A8}(I:Inv X pins σ H s)(f:s'.os=s.os)(u:Un (IT X.stack) ch H H' s.heap s'.heap)(y8:EM X.prog X.w H' s'.heap)(g:k8 s'.gens)
    (d:∀b∈ch,(b∈X.ex\/X.zQ.heap.objs.size<=b)/\b≠X.env.locals/\(∀x c,X.env.cells.lookup x=_s c->c≠b)/\∀p∈X.pn++pins,p.1≠b):Inv X pins σ H' s':=by
  obtain⟨h',g',d',t',o'⟩:=s';have e:o'=s.os:=f;subst e;exact I.call (g':=g') (t':=t') (d':=d') u y8 g d
end
abbrev XK:=_v->Option A8->Hp->Prop
noncomputable abbrev St:=List (Option V)
abbrev VK:=V->Hp->Prop
abbrev TE:=St->Hp->VK->Prop
abbrev TT:=St->Hp->(Bool->Hp->Prop)->Prop
abbrev TA:=St->Hp->(List V->Hp->Prop)->Prop
structure Ends where
 nx:St->Hp->Prop
 rt:VK
 bk:St->Hp->Prop:=λ_ _=>False
 ct:St->Hp->Prop:=λ_ _=>False
abbrev TS:=Ends->St->Hp->Prop
inductive EP (X:Cx) (pins:List (A8×Obj)) (σ:St) (Q:VK) (u:_v) (s':A5):Prop
 |mk (v:V) (H':Hp) (a:Inv X pins σ H' s') (b:RelV v u) (c:Q v H')
def TP(X:Cx)(pins:List (A8×Obj))(σ:St)(Q:Bool->Hp->Prop)(b:Bool)(s':A5):Prop:=∃H',Inv X pins σ H' s'/\Q b H'
inductive AP (X:Cx) (pins:List (A8×Obj)) (σ:St) (Q:List V->Hp->Prop) (us:List _v) (s':A5):Prop
 |mk (vs:List V) (H':Hp) (a:Inv X pins σ H' s') (b:AI vs us) (c:Q vs H')
def SP(X:Cx)(pins:List (A8×Obj))(D:Ends)(f:Flow)(s':A5):Prop:=
 match f with
 |.next=>∃σ' H',Inv X pins σ' H' s'/\D.nx σ' H'
 |.brk=>∃σ' H',Inv X pins σ' H' s'/\D.bk σ' H'
 |.cont=>∃σ' H',Inv X pins σ' H' s'/\D.ct σ' H'
 |.ret u=>∃v σ' H',Inv X pins σ' H' s'/\RelV v u/\D.rt v H'
def PE(X:Cx)(e:Expr)(t:TE):Prop:=
 ∀(pins:List (A8×Obj))(s:A5)(σ:St)(H:Hp)(Q:VK),Inv X pins σ H s->t σ H Q->B4 (C7 X.prog X.w) X.A (L8 e X.env) (EP X pins σ Q) X.xe s
def PT(X:Cx)(e:Expr)(t:TT):Prop:=
 ∀(pins:List (A8×Obj))(s:A5)(σ:St)(H:Hp)(Q:Bool->Hp->Prop),Inv X pins σ H s->t σ H Q->B4 (C7 X.prog X.w) X.A (yQ e X.env (L8 e X.env)) (TP X pins σ Q) X.xe s
def PW(X:Cx)(e:Expr)(t:TT):Prop:=
 ∀(c:Sem _v)(pins:List (A8×Obj))(s:A5)(σ:St)(H:Hp)(Q:Bool->Hp->Prop),Inv X pins σ H s->t σ H Q->B4 (C7 X.prog X.w) X.A (yQ e X.env c) (TP X pins σ Q) X.xe s
variable{X:Cx}{e:Expr}
theorem PW.pt{t:TT}(h:PW X e t):PT X e t:=h _
def PA(X:Cx)(es:List Expr)(t:TA):Prop:=
 ∀(pos:Pos)(pins:List (A8×Obj))(s:A5)(σ:St)(H:Hp)(Q:List V->Hp->Prop),Inv X pins σ H s->t σ H Q->B4 (C7 X.prog X.w) X.A (spliced (P8 pos (D7 es X.env))) (AP X pins σ Q) X.xe s
def PS(X:Cx)(st:G5)(t:TS):Prop:=
 ∀(pins:List (A8×Obj))(s:A5)(σ:St)(H:Hp)(D:Ends),Inv X pins σ H s->t D σ H->B4 (C7 X.prog X.w) X.A (exec st X.env) (SP X pins D) X.xe s
def Cu(X:Cx)(st:List G5)(t:TS):Prop:=
 ∀(pins:List (A8×Obj))(s:A5)(σ:St)(H:Hp)(D:Ends),Inv X pins σ H s->t D σ H->B4 (C7 X.prog X.w) X.A (execs st X.env) (SP X pins D) X.xe s
variable{M:xQ}{A:G3}{E:_v->A5->Prop}{s:A5}
theorem Ai{c:Type}{t:Sem c}{Q d:c->A5->Prop}(h:B4 M A t Q E s)(f:∀a s,Q a s->d a s):B4 M A t d E s:=J4 h f λ_ _ x=>x
variable{pins:List (A8×Obj)}{pos:Pos}
section
variable{X:Cx}
theorem bin{a b:Expr}{ta tb:TE}(ha:PE X a ta)(r:PE X b tb){σ:St}{R:V->V->Hp->Prop}(I:Inv X pins σ H s)(h:ta σ H λx d=>tb σ d λy c=>R x y c)
    {g:Type} {Q:g->A5->Prop} {f:_v->_v->Sem g}
    (q:∀v u s2 x y c,Inv X pins σ c s2->RelV x v->RelV y u->R x y c->B4 (C7 X.prog X.w) X.A (f v u) Q X.xe s2) :
    B4 (C7 X.prog X.w) X.A (L8 a X.env) (λv k=>B4 (C7 X.prog X.w) X.A (L8 b X.env) (λu j=>B4 (C7 X.prog X.w) X.A (f v u) Q X.xe j) X.xe k) X.xe s:=by
  refine Ai (ha pins s σ H _ I h) λv s1 ⟨x,d,z,m,p⟩=>?_;refine Ai (r pins s1 σ d _ z p) λu s2 ⟨y,c,t,l,n⟩=>?_;exact q v u s2 x y c t m l n
abbrev Cb(i:Nat):TE:=λσ H Q=>∃v,σ[i]?=_s (_s v)/\Q v H
abbrev tC(v:V):TE:=λ_ H Q=>Q v H
theorem Wp(p:X.N[i]?=_s x)(k:mB X.env.scope x)(hd:(x==("__debug__" : Str))=false:=by decide)(j:(x==("__classdict__" : Str))=false:=by decide):PE X (.Name x pos) (Cb i):=by
 intro pins s σ H Q I h;obtain⟨v,e,h⟩:=h;obtain⟨m,hn,n⟩:=I.loc;obtain⟨u,r,l⟩:=n i x v p e k;have f:EP X pins σ Q u s:=⟨v,H,I,r,h⟩;rcases l with⟨d,hm⟩|⟨d,c,hc,g⟩
 exact xq (vP I.ok.kind d hn hm f) hd;rcases d with d|d
 exact xq (vk I.ok.kind d hc g f) hd;exact xq (wpAny_loadName_free I.ok.kind d hc g f j) hd
theorem jK{i j pos}:PE X (.Constant (.int i) j pos) (tC (.int i)):=λ_ _ _ H _ I h=>wpAny_Constant_int ⟨.int i,H,I.tok _,⟨_,rfl⟩,h⟩
theorem oR{b j pos}:PE X (.Constant (.bool b) j pos) (tC (.bl b)):=λ_ _ _ H _ I h=>Constant_bool ⟨.bl b,H,I,rfl,h⟩
theorem jI{j pos}:PE X (.Constant .none j pos) (tC .yw):=λ_ _ _ H _ I h=>Constant_none ⟨.yw,H,I,rfl,h⟩
theorem Wr{x j pos}:PE X (.Constant (.str x) j pos) (tC (.str x)):=λ_ _ _ H _ I h=>v9 ⟨.str x,H,I.tok _,⟨_,rfl⟩,h⟩
def Gl(X:Cx)(x:Str):Prop:=X.env.kindOf x=_s .globalImplicit
theorem DB{E:_v->A5->Prop}{σ:St}{pos:Pos}{Q:_v->A5->Prop}(I:Inv X pins σ H s)(c:Gl X x)(hm:X.mg x=_s u)(h:Q u s)
    (hd:(x==("__debug__" : Str))=false:=by decide):B4 (C7 X.prog X.w) X.A (L8 (.Name x pos) X.env) Q E s:=
  m9 I.ok.kind c (Calls.loadGlobal_global (by rw[I.ok.glob];exact I.mod.glob.keeps I.bk) hm h) hd
theorem Ef{E:_v->A5->Prop}{σ:St}{pos:Pos}{Q:_v->A5->Prop}(I:Inv X pins σ H s)(d:Gl X x)(hm:X.mg x=_n)(c:S6 x=_s u)(h:Q u s)
    (hn:x ≠ "__name__" := by decide) (hd:(x==("__debug__" : Str))=false:=by decide):B4 (C7 X.prog X.w) X.A (L8 (.Name x pos) X.env) Q E s:=by
  obtain⟨mb,h1,h2⟩:=I.mod.blt;exact m9 I.ok.kind d (Calls.loadGlobal_builtin (by rw[I.ok.glob];exact I.mod.glob.keeps I.bk) hm (by rw[I.ok.blt];exact h1.keeps I.bk) ((h2 x hn).trans c) h) hd
theorem bo(c:Gl X x)(hm:X.mg x=_s u)(r:RelV v u)(hd:(x==("__debug__" : Str))=false:=by decide):PE X (.Name x pos) (tC v):=
 λ_ _ _ H _ I h=>DB I c hm ⟨v,H,I,r,h⟩ hd
theorem br(d:Gl X x)(hm:X.mg x=_n)(c:S6 x=_s u)(r:RelV v u)(hn:x ≠ "__name__" := by decide)(hd:(x==("__debug__" : Str))=false:=by decide):PE X (.Name x pos) (tC v):=
 λ_ _ _ H _ I h=>Ef I d hm c ⟨v,H,I,r,h⟩ hn hd
variable{a b:Expr}{ta tb:TE}{pos:Pos}
variable{tA eU:TT}{rest:List Expr}
abbrev mj(t u:TT):TT:=λσ H Q=>t σ H λc d=>if c=_t then u σ d Q else Q _f d
abbrev tOr(t u:TT):TT:=λσ H Q=>t σ H λc d=>if c=_t then Q _t d else u σ d Q
abbrev ma(t:TT):TT:=λσ H Q=>t σ H λc d=>Q (!c) d
theorem bI(ha:PT X a tA):PW X (.BoolOp .And [a] pos) tA:=by
 intro d pins s σ H Q I h;refine isTrue_and (Ai (ha pins s σ H Q I h) λc s1 e=>?_);cases c with|true=>exact isTrue_and_nil e|false=>exact e
theorem ib(ha:PT X a tA):PW X (.BoolOp .Or [a] pos) tA:=by
 intro d pins s σ H Q I h;refine isTrue_or (Ai (ha pins s σ H Q I h) λc s1 e=>?_);cases c with|false=>exact isTrue_or_nil e|true=>exact e
theorem ic(ha:PT X a tA)(k:PW X (.BoolOp .And (b::rest) pos) eU):PW X (.BoolOp .And (a::b::rest) pos) (mj tA eU):=by
 intro j pins s σ H Q I h;refine isTrue_and (Ai (ha pins s σ H _ I h) λc s1 ⟨g,f,d⟩=>?_);cases c with|true=>exact k j pins s1 σ g Q f d|false=>exact⟨g,f,d⟩
theorem oE(ha:PT X a tA)(k:PW X (.BoolOp .Or (b::rest) pos) eU):PW X (.BoolOp .Or (a::b::rest) pos) (tOr tA eU):=by
 intro j pins s σ H Q I h;refine isTrue_or (Ai (ha pins s σ H _ I h) λc s1 ⟨g,f,d⟩=>?_);cases c with|true=>exact⟨g,f,d⟩|false=>exact k j pins s1 σ g Q f d
theorem ie(ha:PT X a tA):PT X (.UnaryOp .Not a pos) (ma tA):=by intro pins s σ H Q I h;exact isTrue_not (ha pins s σ H (λc d=>Q (!c) d) I h)
abbrev eV(ta tb:TE):TE:=λσ H Q=>ta σ H λx d=>∃c,x=.bl c/\if c=_t then tb σ d Q else Q (.bl _f) d
abbrev mZ(ta tb:TE):TE:=λσ H Q=>ta σ H λx d=>∃c,x=.bl c/\if c=_t then Q (.bl _t) d else tb σ d Q
abbrev eQ(ta:TE):TE:=λσ H Q=>ta σ H λx d=>∃c,x=.bl c/\Q (.bl (!c)) d
theorem jG{op}{t:TE}(h:PE X a t):PE X (.BoolOp op [a] pos) t:=λpins s σ H Q I c=>BoolOp_one (h pins s σ H Q I c)
theorem jM(ha:PE X a ta)(k:PE X (.BoolOp .And (b::rest) pos) tb):PE X (.BoolOp .And (a::b::rest) pos) (eV ta tb):=by
 intro pins s σ H Q I h;refine BoolOp_and (Ai (ha pins s σ H _ I h) λv s1 ⟨x,g,f,j,d⟩=>?_);obtain⟨c,rfl,d⟩:=d;cases j;refine L5 ?_;cases c with|true=>exact k pins s1 σ g Q f d|false=>exact⟨.bl _f,g,f,rfl,d⟩
theorem oM(ha:PE X a ta)(k:PE X (.BoolOp .Or (b::rest) pos) tb):PE X (.BoolOp .Or (a::b::rest) pos) (mZ ta tb):=by
 intro pins s σ H Q I h;refine BoolOp_or (Ai (ha pins s σ H _ I h) λv s1 ⟨x,g,f,j,d⟩=>?_);obtain⟨c,rfl,d⟩:=d;cases j;refine L5 ?_;cases c with|false=>exact k pins s1 σ g Q f d|true=>exact⟨.bl _t,g,f,rfl,d⟩
theorem jH(ha:PE X a ta):PE X (.UnaryOp .Not a pos) (eQ ta):=by intro pins s σ H Q I h;refine UnaryOp_ (Ai (ha pins s σ H _ I h) λv s1 ⟨x,j,g,f,d⟩=>?_);obtain⟨c,rfl,d⟩:=d;cases f;exact not_of (L5 ⟨.bl (!c),j,g,rfl,d⟩)
abbrev tL(t:TT)(ta tb:TE):TE:=λσ H Q=>t σ H λc d=>if c=_t then ta σ d Q else tb σ d Q
theorem Wv{c:Expr}(hc:PT X c tA)(ha:PE X a ta)(k:PE X b tb):PE X (.IfExp c a b pos) (tL tA ta tb):=by
 intro pins s σ H Q I h;refine wpAny_IfExp (Ai (hc pins s σ H _ I h) λd s1 ⟨j,g,f⟩=>?_);cases d with|true=>exact ha pins s1 σ j Q g f|false=>exact k pins s1 σ j Q g f
end
def Dk(K:W.Frag)(H:Hp)(a:A8)(xs:List V):Prop:=
 Rd H a (.lst xs) \/
  ∃(o:Obj)(c:Array _v)(n:Nat),K.lookup a=_s o/\o.cls=.type "list" /\ o.dict=_n/\o.data=.seq c n/\c.size<=sizeLine/\AI xs c.toList
def FR(K:W.Frag)(H:Hp)(a:A8)(xs:List V):Prop:=
 Rd H a (.tup xs) \/
  ∃(o:Obj)(c:Array _v)(n:Nat),K.lookup a=_s o/\o.cls=.type "tuple" /\ o.data=.seq c n/\c.size<=sizeLine/\AI xs c.toList
noncomputable def sV:_v->Option V
 |.none=>_s .yw
 |.bool b=>_s (.bl b)
 |.int i _=>_s (.int i)
 |.str x _=>_s (.str x)
 |.bytes b _=>_s (.byt b)
 |.float b _=>_s (.flt b)
 |.ref a=>_s (.ref a)
 |.type n=>_s (.ty n)
 |_=>_n
theorem RelV.abs{x:V}(r:RelV x u):sV u=_s x:=by
 cases x with|yw=>cases r;rfl|bl _=>cases r;rfl|int _=>obtain⟨t,rfl⟩:=r;rfl|str _=>obtain⟨t,rfl⟩:=r;rfl|byt _=>obtain⟨t,rfl⟩:=r;rfl|flt _=>obtain⟨t,rfl⟩:=r;rfl|ref _=>cases r;rfl|ty _=>cases r;rfl
theorem RelV.inj{x y:V}(r:RelV x u)(q:RelV y u):x=y:=C3 (r.abs.symm.trans q.abs)
theorem AI.inj:∀{xs ys:List V}{us:List _v},AI xs us->AI ys us->xs=ys
 |_,_,_,.nil,.nil=>rfl
 |_,_,_,.cons r t,.cons c t'=>by rw[r.inj c,AI.inj t t']
section
variable{X:Cx}{pins:List (A8×Obj)}{σ:St}{H:Hp}{s:A5}{a:A8}{xs ys:List V}
theorem Inv.list(I:Inv X pins σ H s)(h:Dk X.K H a xs):∃c:List _v,AI xs c/\PlainL s.heap a c.toArray/\xs.length<=sizeLine:=by
 rcases h with h|⟨o,c,n,f,hc,hd,d,g,r⟩
 obtain⟨z,c,n,r,e⟩:=h.ok I.y8;exact⟨c,r,⟨_,n,e,rfl,rfl,rfl⟩,z⟩;refine⟨c.toList,r,⟨o,n,I.zx a o f,hc,hd,by simpa using d⟩,?_⟩;have e:=r.length;simp only[I9]at e;omega
theorem Inv.tuple(I:Inv X pins σ H s)(h:FR X.K H a xs):∃c:List _v,AI xs c/\IsTup s.heap a c.toArray/\xs.length<=sizeLine:=by
 rcases h with h|⟨o,c,n,f,hc,d,g,r⟩
 obtain⟨z,c,r,p⟩:=h.ok I.y8;exact⟨c,r,p.tup,z⟩;refine⟨c.toList,r,⟨o,I.zx a o f,hc,n,by simpa using d⟩,?_⟩;have e:=r.length;simp only[I9]at e;omega
theorem Inv.zAk(I:Inv X pins σ H s)(h:Dk X.K H a xs)(h':Dk X.K H a ys):xs=ys:=by
 obtain⟨f,r,⟨o,n,e,_,_,d⟩,_⟩:=I.list h;obtain⟨its',g,⟨o',k,c,_,_,d'⟩,_⟩:=I.list h';rw[e]at c;cases c;rw[d]at d';injection d' with j _
 have:f=its':=by simpa using congrArg yR j
 subst this;exact r.inj g
theorem Inv.zAW(I:Inv X pins σ H s)(h:FR X.K H a xs)(h':FR X.K H a ys):xs=ys:=by
 obtain⟨f,r,⟨o,e,_,n,d⟩,_⟩:=I.tuple h;obtain⟨its',g,⟨o',c,_,k,d'⟩,_⟩:=I.tuple h';rw[e]at c;cases c;rw[d]at d';injection d' with j _
 have:f=its':=by simpa using congrArg yR j
 subst this;exact r.inj g
end
noncomputable abbrev Cx.zE(X:Cx)(E:_v->A5->Prop):Cx:={X with xe:=E}
noncomputable abbrev Cx.zo(X:Cx):Cx:=X.zE λ_ _=>False
theorem Cx.Ok.zE(ok:X.Ok)(E:_v->A5->Prop):(X.zE E).Ok:=
 ⟨ok.mod,ok.kind,ok.glob,ok.blt,ok.above,ok.inj,ok.has,ok.cab,ok.hd,ok.frames,ok.stk,ok.exf,ok.bs,ok.bsz,ok.zBc,ok.zBy,ok.zAT,ok.frf⟩
theorem Cx.Ok.zG(ok:(X.zE E).Ok):X.Ok:=
 ⟨ok.mod,ok.kind,ok.glob,ok.blt,ok.above,ok.inj,ok.has,ok.cab,ok.hd,ok.frames,ok.stk,ok.exf,ok.bs,ok.bsz,ok.zBc,ok.zBy,ok.zAT,ok.frf⟩
section
variable{X:Cx}{pins:List (A8×Obj)}{σ:St}{H:Hp}{s:A5}{E:_v->A5->Prop}
theorem Inv.zE(I:Inv X pins σ H s)(E:_v->A5->Prop):Inv (X.zE E) pins σ H s:=⟨I.ok.zE E,I.os,I.bare,I.base,I.loc,I.cell,I.free,I.ze,I.pin,I.y8,I.len⟩
theorem Inv.zG(I:Inv (X.zE E) pins σ H s):Inv X pins σ H s:=⟨I.ok.zG,I.os,I.bare,I.base,I.loc,I.cell,I.free,I.ze,I.pin,I.y8,I.len⟩
theorem SP.zG{D:Ends}{f:Flow}{s':A5}(h:SP (X.zE E) pins D f s'):SP X pins D f s':=by
 cases f with|next=>obtain⟨σ',H',I,q⟩:=h;exact⟨σ',H',I.zG,q⟩|brk=>obtain⟨σ',H',I,q⟩:=h;exact⟨σ',H',I.zG,q⟩|cont=>obtain⟨σ',H',I,q⟩:=h;exact⟨σ',H',I.zG,q⟩|ret u=>obtain⟨v,σ',H',I,r,q⟩:=h;exact⟨v,σ',H',I.zG,r,q⟩
theorem PE.zo{t:TE}(h:PE X.zo e t):PE X e t:=λpins s σ H Q I hw =>
 J4 (h pins s σ H Q (I.zE _) hw) (λ_ _ ⟨v,H',c,r,q⟩=>⟨v,H',c.zG,r,q⟩) λ_ _ z=>D2 z
theorem PT.zo{t:TT}(h:PT X.zo e t):PT X e t:=λpins s σ H Q I hw =>
 J4 (h pins s σ H Q (I.zE _) hw) (λ_ _ ⟨H',c,q⟩=>⟨H',c.zG,q⟩) λ_ _ z=>D2 z
theorem Cu.zo{st:List G5}{t:TS}(h:Cu X.zo st t):Cu X st t:=λpins s σ H D I hw =>
 J4 (h pins s σ H D (I.zE _) hw) (λ_ _ q=>q.zG) λ_ _ z=>D2 z
end
section
variable{X:Cx}{st:G5}{rest:List G5}{t u:TS}{e:Expr}{te:TE}{pos:Pos}
abbrev Vg:TS:=λD σ H=>D.nx σ H
abbrev rK(t u:TS):TS:=λD σ H=>t {D with nx:=u D} σ H
theorem MT:Cu X [] Vg:=λ_ _ σ H _ I h=>X3 ⟨σ,H,I,h⟩
theorem GP(h1:PS X st t)(h2:Cu X rest u):Cu X (st::rest) (rK t u):=by
 intro pins s σ H D I h;refine T8 (Ai (h1 pins s σ H {D with nx:=u D} I h) λf s1 q=>?_);cases f with|next=>obtain⟨σ',H',c,q⟩:=q;exact h2 pins s1 σ' H' D c q|ret v=>exact q|brk=>exact q|cont=>exact q
theorem bK(h1:PS X st t):Cu X [st] t:=by
 intro pins s σ H D I h;refine T8 (Ai (h1 pins s σ H D I h) λf s1 q=>?_);cases f with|next=>exact X3 q|ret v=>exact q|brk=>exact q|cont=>exact q
theorem bM:PS X (.Pass pos) Vg:=λ_ _ σ H _ I h=>wpAny_Pass ⟨σ,H,I,h⟩
theorem Inv.quiet{σ:St}(I:Inv X pins σ H s):interactive X.env=false:=by simp[interactive,I.ok.kind]
theorem ir{x j pos pos'}:PS X (.Expr (.Constant (.str x) j pos) pos') Vg:=λ_ s σ H _ I h=>wpAny_Expr (v9 (show SP X _ _ .next {s with toks:=s.toks+1}from⟨σ,H,I.tok _,h⟩)) I.quiet
abbrev mh(te:TE):TS:=λD σ H=>te σ H λ_ c=>D.nx σ c
theorem bO(f:PE X e te)(d:O0 e _n pos.line X.env=pure false:=by rfl):PS X (.Expr e pos) (mh te):=by intro pins s σ H D I h;exact wpAny_Expr_any (Ai (f pins s σ H _ I h) λv s1 ⟨x,j,g,k,c⟩=>⟨σ,j,g,c⟩) I.quiet d
abbrev rL(te:TE):TS:=λD σ H=>te σ H D.rt
theorem ig(f:PE X e te):PS X (.Return (_s e) pos) (rL te):=by intro pins s σ H D I h;exact wN (Ai (f pins s σ H _ I h) λv s1 ⟨x,j,g,c,d⟩=>⟨x,σ,j,g,c,d⟩)
abbrev mX:TS:=λD _ H=>D.rt .yw H
theorem bL:PS X (.Return _n pos) mX:=λ_ _ σ H _ I h=>wpAny_Return_none ⟨.yw,σ,H,I,rfl,h⟩
abbrev rO(c:TT)(t u:TS):TS:=λD σ H=>c σ H λb d=>if b=_t then t D σ d else u D σ d
theorem oG{c:Expr}{a b:List G5}{f:TT}(hc:PT X c f)(ha:Cu X a t)(l:Cu X b u):PS X (.If c a b pos) (rO f t u):=by
 intro pins s σ H D I h;refine wpAny_If (Ai (hc pins s σ H _ I h) λd s1 ⟨k,j,g⟩=>?_);cases d with|true=>exact ha pins s1 σ k D j g|false=>exact l pins s1 σ k D j g
end
abbrev TG:=V->St->Hp->(St->Hp->Prop)->Prop
abbrev NL:=List V->St->Hp->(St->Hp->Prop)->Prop
def PG(X:Cx)(c:Expr)(t:TG):Prop:=
 ∀(pins:List (A8×Obj))(s:A5)(σ:St)(H:Hp)(v:V)(u:_v)(Q:St->Hp->Prop),Inv X pins σ H s->RelV v u->t v σ H Q ->
  B4 (C7 X.prog X.w) X.A (W5 c X.env u) (λ_ s'=>∃σ' H',Inv X pins σ' H' s'/\Q σ' H') X.xe s
def lS(X:Cx)(ts:List Expr)(t:NL):Prop:=
 ∀(pins:List (A8×Obj))(s:A5)(σ:St)(H:Hp)(vs:List V)(us:List _v)(Q:St->Hp->Prop),Inv X pins σ H s->AI vs us->t vs σ H Q ->
  B4 (C7 X.prog X.w) X.A (t9 ((N3 ts X.env).map (·.2)) us) (λ_ s'=>∃σ' H',Inv X pins σ' H' s'/\Q σ' H') X.xe s
abbrev Oz:=V->V->V->Hp->(Hp->Prop)->Prop
def NM(X:Cx)(t:Oz):Prop:=
 ∀(pins:List (A8×Obj))(s:A5)(σ:St)(H:Hp)(o i v:V)(c d u:_v)(Q:Hp->Prop),Inv X pins σ H s->RelV o c->RelV i d->RelV v u->t o i v H Q ->
  B4 (C7 X.prog X.w) X.A (yS c d u) (λ_ s'=>∃H',Inv X pins σ H' s'/\Q H') X.xe s
abbrev qu:=V->V->Hp->VK->Prop
def sY(X:Cx)(op:n0)(t:qu):Prop:=
 ∀(pins:List (A8×Obj))(s:A5)(σ:St)(H:Hp)(x y:V)(v u:_v)(Q:VK),Inv X pins σ H s->RelV x v->RelV y u->t x y H Q ->
  B4 (C7 X.prog X.w) X.A (inplaceOp op v u) (EP X pins σ Q) X.xe s
variable{tg:Expr}
section
variable{X:Cx}{pos:Pos}
abbrev DC(i:Nat):TG:=λv σ H Q=>Q (σ.set i (_s v)) H
theorem ba(f:X.N.Nodup)(hi:X.N[i]?=_s x)(c:Loc X.env.scope x)(d:X.fn x=_t\/X.env.scope.names.lookup x=_s .local:=by first|exact .inl rfl|exact .inr rfl|assumption):PG X (.Name x pos) (DC i):=by intro pins s σ H v u Q I r h;exact wO (DU I f hi c r (λs' g=>⟨_,H,g,h⟩) d)
abbrev OX:NL:=λvs σ H Q=>vs=[]/\Q σ H
abbrev Dg(t:TG)(u:NL):NL:=λvs σ H Q=>∃v r,vs=v::r/\t v σ H λσ' H'=>u r σ' H' Q
theorem Rq:lS X [] OX:=by intro pins s σ H vs us Q I r h;obtain⟨e,h⟩:=h;subst e;cases r;exact wQ ⟨σ,H,I,h⟩
theorem JS{es:List Expr}{t:TG}{u:NL}(h1:PG X e t)(h2:lS X es u)
    (g:(N3 (e::es) X.env).map (·.2)=W5 e X.env::(N3 es X.env).map (·.2):=by rfl):lS X (e::es) (Dg t u):=by
  intro pins s σ H vs us Q I r h;obtain⟨v,m,j,h⟩:=h;subst j;cases r with|cons r d=>rw[g];refine o3 (Ai (h1 pins s σ H _ _ _ I r h) λ_ s1 ⟨c,l,k,f⟩=>?_);exact h2 pins s1 c l _ _ Q k d f
abbrev kO(K:W.Frag)(n:Nat)(t:NL):TG:=λv σ H Q=>∃a xs,v=.ref a/\FR K H a xs/\xs.length=n/\t xs σ H Q
theorem Wm{es:List Expr}{k:Nat}{t:NL}{n:Nat}(hc:X.calm=_t)(h:lS X es t)
    (hn:(N3 es X.env).length=n:=by rfl) (d:(N3 es X.env).findIdx? (·.1)=none:=by rfl):PG X (.Tuple es k pos) (kO X.K n t):=by
  intro pins s σ H v u Q I r c;obtain⟨a,xs,m,j,l,c⟩:=c;subst m;cases r;obtain⟨q,rv,g,y⟩:=I.tuple j;refine assign_Tuple_tuple (I.ok.hd hc) g (by simp[hn,<- l,rv.length]) d λh' f=>?_;have p:Inv X pins σ H {s with heap:=h' }:=I.kept (t':=s.toks) λb o e=>f b o (D6 (B8 e)) e;exact h pins _ σ H xs _ Q p (by simpa using rv) c
abbrev kP(to ti:TE)(t:Oz):TG:=λv σ H Q=>to σ H λo f=>ti σ f λi d=>t o i v d λc=>Q σ c
theorem Wn{o i:Expr}{to ti:TE}{t:Oz}(n:PE X o to)(hi:PE X i ti)(m:NM X t)
    (ha:∀v,W5 (.Subscript o i pos) X.env v=(do
      let c <- Z1 [v] (L8 o X.env)
      let d <- Z1 [v,c] (L8 i X.env)
      vh pos
      Z1 [v,c,d] (yS c d v)
      release [v,c,d] []):=by intro _;rfl):PG X (.Subscript o i pos) (kP to ti t):=by
  intro pins s σ H v u Q I r h;rw[ha];refine A1 (J8 (Ai (n pins s σ H _ I h) λc s1 ⟨x,D,z,g,l⟩=>?_));refine A1 (J8 (Ai (hi pins s1 σ D _ z l) λd s2 ⟨y,C,q,f,k⟩=>?_));refine A1 (T1 (A1 (J8 (Ai (m pins s2 σ C x y v c d u _ q g f r k) λ_ F ⟨B,p,j⟩=>?_))));exact wpAny_release ⟨σ,B,p,j⟩
abbrev KM(te:TE)(g:TG):TS:=λD σ H=>te σ H λx c=>g x σ c D.nx
theorem Pu{te:TE}{g:TG}(l:PE X e te)(k:PG X tg g)(j:d7 [tg] e pos.line X.env=pure false:=by rfl)(f:T2 [tg] e X.env=pure none:=by rfl)
    (h1:(N3 [tg] X.env).map (·.2)=[W5 tg X.env]:=by rfl):PS X (.Assign [tg] e pos) (KM te g):=by
  intro pins s σ H D I h;refine wpAny_Assign_stores (Ai (l pins s σ H _ I h) λv s1 ⟨x,n,m,c,d⟩=>?_) j f;rw[h1];exact Ai (k pins s1 σ n x v _ m c d) λ_ s2 q=>q
theorem WZ{te:TE}{c:Pos}(m:X.N.Nodup)(hi:X.N[i]?=_s x)(g:Loc X.env.scope x)(l:PE X e te)(j:O0 e (_s (.Name x c)) pos.line X.env=pure false:=by rfl)(k:X.fn x=_t\/X.env.scope.names.lookup x=_s .local:=by first|exact .inl rfl|exact .inr rfl|assumption) :
    PS X (.Assign [.Name x c] e pos) (KM te (DC i)):=by
  intro pins s σ H D I h;refine wR (Ai (l pins s σ H _ I h) λv s1 ⟨y,q,p,d,f⟩=>?_) j;exact DU p m hi g d (λs2 n=>⟨_,q,n,f⟩) k
abbrev rM(i j:Nat)(ta:TA):TS:=λD σ H=>ta σ H λvs c=>∃v w,vs=[v,w]/\D.nx ((σ.set i (_s v)).set j (_s w)) c
theorem ik{j:Nat}{y:Str}{a b:Expr}{ta:TA}{l k pt:Pos}{kt k2 pt2}(hc:X.calm=_t)(z:X.N.Nodup)(hi:X.N[i]?=_s x)(O:X.N[j]?=_s y)(n:i≠j)
    (t:X.env.scope.names.lookup x=_s .local) (r:X.env.scope.names.lookup y=_s .local) (ha:PA X [a,b] ta)
    (K:T2 [.Tuple [.Name x l,.Name y k] kt pt] (.Tuple [a,b] k2 pt2) X.env=pure (_s [x,y]))
    (L:d7 [.Tuple [.Name x l,.Name y k] kt pt] (.Tuple [a,b] k2 pt2) pos.line X.env=pure false:=by rfl) :
    PS X (.Assign [.Tuple [.Name x l,.Name y k] kt pt] (.Tuple [a,b] k2 pt2) pos) (rM i j ta):=by
  intro pins s σ H D I h;rw[exec_Assign_arm];refine A1 (T1 ?_);rw[L];refine A1 (A6 ?_);rw[if_neg (by decide)];refine A1 (Tuple_ (Ai (ha _ pins s σ H _ I h) λus s1 ⟨vs,C,U,F,g⟩=>?_));obtain⟨v,w,Q,g⟩:=g;subst Q;obtain⟨d,c,rfl,rv,f⟩:∃d c,us=[d,c]/\RelV v d/\RelV w c:=by
    cases F with
    |cons p q=>
      cases q with|cons J G=>cases G;exact⟨_,_,rfl,p,J⟩
  refine L6 ?_ (by show 2<=sizeLine;decide);have T:Inv X pins σ C {s1 with heap:=s1.heap.push {cls:=.type "tuple", data:=.seq [d,c].toArray} }:=U.kept (t':=s1.toks) λb o e=>A4 _ e;rw[K];refine A1 (A6 ?_);show B4 (C7 X.prog X.w) X.A (do rule "assign.swapped-stores"; let items <- xR (.ref s1.heap.objs.size) 2 _n;t9 [λv=>vQ X.env y v,λv=>vQ X.env x v] items.reverse;pure Flow.next) _ _ _;refine A1 (X7 (A1 (unpackItems_tuple (items:=#[d,c]) (I.ok.hd hc) (IsTup.new s1.heap _) λh' m=>?_)));have S:=T.kept (h':=h') (t':=s1.toks) λb o e=>m b o (D6 (B8 e)) e;show B4 _ _ (t9 [λv=>vQ X.env y v,λv=>vQ X.env x v] [c,d] >>= λ_=>pure Flow.next) _ _ _;refine A1 (o3 (wpAny_bindName (DU S z O (.inl r) f (λs2 R=>?_) (.inr r))));refine o3 (wpAny_bindName (DU R z hi (.inl t) rv (λW B=>wQ (A6 ?_)) (.inr t)));rw[yI _ _ (Ne.symm n)]at B;exact⟨_,C,B,g⟩
abbrev mi(i:Nat)(te:TE)(ti:qu):TS:=λD σ H=>∃x,σ[i]?=_s (_s x)/\te σ H λy d=>ti x y d λz c=>D.nx (σ.set i (_s z)) c
theorem Wa{te:TE}{op:n0}{ti:qu}{f:Pos}(O:X.N.Nodup)(hi:X.N[i]?=_s x)(p:Loc X.env.scope x)(L:PE X e te)(G:sY X op ti)(K:X.fn x=_t\/X.env.scope.names.lookup x=_s .local:=by first|exact .inl rfl|exact .inr rfl|assumption) :
    PS X (.AugAssign (.Name x f) op e pos) (mi i te ti):=by
  intro pins s σ H D I h;obtain⟨v,Q,h⟩:=h;obtain⟨m,hn,J⟩:=I.loc;have n:mB X.env.scope x:=by rcases p with k|k;exact .inl k;exact .inr (.inl k)
  obtain⟨u,r,l⟩:=J i x v hi Q n;refine wpAny_AugAssign_Name ?_;have go:B4 (C7 X.prog X.w) X.A (L8 e X.env) (λw q=>B4 (C7 X.prog X.w) X.A (inplaceOp op u w) (λr g=>B4 (C7 X.prog X.w) X.A (yL X.env x r) (λ_=>SP X pins D .next) X.xe g) X.xe q) X.xe s:=by refine Ai (L pins s σ H _ I h) λw s1 ⟨y,W,T,B,F⟩=>?_;refine Ai (G pins s1 σ W v y u w _ T r B F) λz s2 ⟨Y,U,S,t,C⟩=>?_;exact DU S O hi p t (λZ R=>⟨_,U,R,C⟩) K
  rcases l with⟨d,hm⟩|⟨d,c,hc,j⟩
  exact vP I.ok.kind d hn hm go;rcases d with d|d
  exact vk I.ok.kind d hc j go;rcases p with k|k
  have:X.env.scope.names.lookup x=_s .free:=d;rw[k]at this;cases this;have:X.env.scope.names.lookup x=_s .free:=d;rw[k]at this;cases this
def rq(f:Int->Int->Int):qu:=λx y H Q=>∃i j,x=.int i/\y=.int j/\Q (.int (f i j)) H
theorem kM:sY X .Add (rq λi j=>i+j):=by intro pins s σ H x y v u Q I d c h;obtain⟨i,j,g,f,q⟩:=h;subst g;subst f;obtain⟨t,rfl⟩:=d;obtain⟨t',rfl⟩:=c;exact iadd_int ⟨.int _,H,I.tok _,⟨_,rfl⟩,q⟩
theorem kL:sY X .Sub (rq λi j=>i-j):=by intro pins s σ H x y v u Q I d c h;obtain⟨i,j,g,f,q⟩:=h;subst g;subst f;obtain⟨t,rfl⟩:=d;obtain⟨t',rfl⟩:=c;exact isub_int ⟨.int _,H,I.tok _,⟨_,rfl⟩,q⟩
end
variable{body:List G5}
section
variable{X:Cx}{pos:Pos}
def Vf(c:TT)(tb:TS):TS:=λD σ H=>∃W:Nat->St->Hp->Prop,(∃m,W m σ H)/\∀m σ H,W m σ H ->
 c σ H λb d=>if b=_t then ∃N:St->Hp->Prop,(∀σ' H',N σ' H'->∃m',m' < m/\W m' σ' H')/\tb {D with nx:=N,ct:=N,bk:=D.nx} σ d else D.nx σ d
theorem OA{c:Expr}{t:TT}{tb:TS}(hp:b9 (C7 X.prog X.w) X.A X.env X.xe)(hc:PT X c t)(J:Cu X body tb):PS X (.While c body [] pos) (Vf t tb):=by
 intro pins s σ H D I h;obtain⟨W,⟨G,F⟩,j⟩:=h;refine wpAny_While (codeAny_whileLoop (λn s'=>∃σ' H',Inv X pins σ' H' s'/\W n σ' H') ?_ G ⟨σ,H,I,F⟩);rintro n s1 ⟨g,C,K,w1⟩;refine S5 hp (Ai (hc pins s1 g C _ K (j n g C w1)) λb s2 ⟨B,z,m⟩=>?_);cases b with
 |true=>
  obtain⟨N,y,m⟩:=m;rw[if_pos rfl];refine S5 hp (Ai (J pins s2 g B _ z m) λf L l=>?_);cases f with|next=>obtain⟨d,k,r,q⟩:=l;obtain⟨m',hm,p⟩:=y d k q;exact⟨m',hm,d,k,r,p⟩|cont=>obtain⟨d,k,r,q⟩:=l;obtain⟨m',hm,p⟩:=y d k q;exact⟨m',hm,d,k,r,p⟩|brk=>exact l|ret v=>exact l
 |false=>rw[if_neg D1];exact X3 ⟨g,B,z,m⟩
end
structure It where
 go:Nat->Hp->Prop
 yld:Nat->Hp->V->Hp->Prop
 stop:Nat->Hp->Prop
def zA(X:Cx)(pins:List (A8×Obj))(H:Hp)(b:A8):Prop:=
 H b=_n/\b≠X.env.locals/\b∉X.fs/\(b∈X.ex\/X.zQ.heap.objs.size<=b)/\(∀x c,X.env.cells.lookup x=_s c->c≠b)/\∀p∈X.pn++pins,p.1≠b
theorem Inv.y6{σ:St}{H':Hp}(I:Inv X pins σ H s)(d:s.heap.objs.size<=b)(hn:H' b=_n):zA X pins H' b:=by refine⟨hn,Z2 (B7 I.lt d),I.zDY d,.inr (D0 I.sz d),λx c e z=>?_,λp hp z=>?_⟩;obtain⟨v,q⟩:=I.cell x c e;exact absurd (B7 q.lt (by rw[z];exact d)) (K9 _);exact absurd (B7 (B8 (I.pin p hp).1) (by rw[z];exact d)) (K9 _)
structure Turn (P:E8) (w:G7) (K:W.Frag) (tg:Expr) (J:It) (fp:List A8) (it:A8) (tn:Nat->G2->Prop):Prop where
 mem:it∈fp
 obj:∀i h,tn i h->∀b∈fp,∃o,h.get? b=_s o/\∀v,o.data≠.cell v
 keep:∀i h h',tn i h->(∀b∈fp,∀o,h.get? b=_s o->h'.get? b=_s o)->tn i h'
 item:∀(X:Cx),X.prog=P->X.w=w->X.K=K->X.calm=_t->∀(i:Nat)(pins:List (A8×Obj))(s:A5)(σ:St)(H:Hp)(E:_v->A5->Prop),Inv X pins σ H s->(∀b∈fp,zA X pins H b)->tn i s.heap->J.go i H ->
  B4 (C7 P w) X.A (o4 (.ref it)) (λr s1=>∃u,r=_s u /\
   B4 (C7 P w) X.A (i9 tg (.ref it) u) (λ_ s2=>∃x H',Inv X pins σ H' s2/\RelV x u/\J.yld i H x H'/\tn (i+1) s2.heap/\∀b∈fp,H' b=_n) E s1) E s
 done:∀(X:Cx),X.prog=P->X.w=w->X.K=K->X.calm=_t->∀(i:Nat)(pins:List (A8×Obj))(s:A5)(σ:St)(H:Hp)(E:_v->A5->Prop),Inv X pins σ H s->(∀b∈fp,zA X pins H b)->tn i s.heap->J.stop i H ->
  B4 (C7 P w) X.A (o4 (.ref it)) (λr s1=>r=_n/\Inv X pins σ H s1) E s
 self:∀(A:G3)(i:Nat)(s:A5)(Q:_v->A5->Prop)(E:_v->A5->Prop),tn i s.heap->Q (.ref it) s->B4 (C7 P w) A (yT (.ref it)) Q E s
abbrev TI:=St->Hp->(It->Hp->Prop)->Prop
def uB(X:Cx)(pins:List (A8×Obj))(σ:St)(tg:Expr)(R:It->Hp->Prop)(c:_v)(s2:A5):Prop:=
 ∃(it:A8)(fp:List A8)(tn:Nat->G2->Prop)(J:It)(H':Hp),c=.ref it/\Inv X pins σ H' s2/\Turn X.prog X.w X.K tg J fp it tn/\tn 0 s2.heap/\(∀b∈fp,zA X pins H' b)/\R J H'
def PI(X:Cx)(tg iter:Expr)(c:TI):Prop:=
 ∀(pins:List (A8×Obj))(s:A5)(σ:St)(H:Hp)(R:It->Hp->Prop),Inv X pins σ H s->c σ H R ->
  B4 (C7 X.prog X.w) X.A (L8 iter X.env) (λv s1=>B4 (C7 X.prog X.w) X.A (yT v) (uB X pins σ tg R) X.xe s1) X.xe s
theorem Xz{M:xQ}{A:G3}{E:_v->A5->Prop}{tg:Expr}{it:A8}{u:_v}{o:Obj}{n:String}{vs:Array _v}{Q:Unit->A5->Prop}(d:s.heap.get? it=_s o)(hc:o.cls=.type n)(hd:o.data=.fields vs)
    (hn:["enumerate", "zip", "dict_itemiterator", "dict_reverseitemiterator", "odict_iterator", "itertools.zip_longest", "itertools.pairwise"].contains n=_f) (c:Q () s):B4 M A (i9 tg (.ref it) u) Q E s:=by
  unfold i9;cases tg<;>first
    |exact A6 c
    | (cases u<;>first
        |exact A6 c
        | (refine A1 (wpAny_load d ?_)
           rw[hc,hd];show B4 M A (if(["enumerate", "zip", "dict_itemiterator", "dict_reverseitemiterator", "odict_iterator", "itertools.zip_longest", "itertools.pairwise"].contains n&&vs[0]?==_s (P9 _))=_t then _ else _) Q E s;rw[if_neg (by intro h;rw[hn,xr]at h;cases h)];exact A6 c))
noncomputable def qf(K:W.Frag)(a:A8):It:=
 ⟨λi H=>∃xs x,Dk K H a xs/\xs[i]?=_s x,λi H x H'=>H'=H/\∀xs,Dk K H a xs->xs[i]?=_s x,λi H=>∃xs,Dk K H a xs/\xs.length<=i⟩
noncomputable def qx(K:W.Frag)(a:A8):It:=
 ⟨λi H=>∃xs x,FR K H a xs/\xs[i]?=_s x,λi H x H'=>H'=H/\∀xs,FR K H a xs->xs[i]?=_s x,λi H=>∃xs,FR K H a xs/\xs.length<=i⟩
noncomputable def lV(lo:Int)(n:Nat):It:=⟨λi _=>i < n,λi H x H'=>H'=H/\x=.int (lo+i),λi _=>n<=i⟩
theorem TF{K:W.Frag}(a it:A8):Turn P w K tg (qf K a) [it] it (λi h=>h.IsListIter it a i) where
 mem:=by simp
 obj:=λi h st b f=>by
  have e:b=it:=by simpa using f
  subst e;obtain⟨o,e,c,d⟩:=st;exact⟨o,e,λv z=>by rw[d]at z;cases z⟩
 keep:=λi h h' st k=>st.at λo e=>k it (by simp) o e
 item:=by intro X hP n r hc i pins s σ H E I l st q;subst hP n r;obtain⟨xs,x,j,m⟩:=q;obtain⟨D,rv,p,J⟩:=I.list j;obtain⟨u,N,G⟩:=rv.get m;obtain⟨f0,C,f2,B,y,t⟩:=l it (by simp);refine u4 st p.isList (x:=u) (by simpa using N) λh' g F=>?_;have O:Inv X pins σ H {s with heap:=h' }:=I.turned (t':=s.toks) (λb o f e=>(F.2 b f).trans e) f0 C B y t;obtain⟨o,e,c,d⟩:=id g;exact⟨u,rfl,Xz (s:={s with heap:=h' }) e c d (by decide) ⟨x,H,O,G,⟨rfl,λys L=>by rw[I.zAk L j];exact m⟩,g,λb f=>(l b f).1⟩⟩
 done:=by intro X hP n r hc i pins s σ H E I l st q;subst hP n r;obtain⟨xs,j,m⟩:=q;obtain⟨D,rv,p,J⟩:=I.list j;obtain⟨f0,C,f2,B,y,t⟩:=l it (by simp);have Q:=rv.length;exact vN (I.ok.hd hc) st p.isList (by simp;omega) λh' eb=>⟨rfl,I.turned (t':=s.toks) (λb o f e=>eb b o f e) f0 C B y t⟩
 self:=λ_ _ _ _ _ st h=>wpAny_pyIter_listiter st h
theorem PM{K:W.Frag}(a it:A8):Turn P w K tg (qx K a) [it] it (λi h=>h.IsTupleIter it a i) where
 mem:=by simp
 obj:=λi h st b f=>by
  have e:b=it:=by simpa using f
  subst e;obtain⟨o,e,c,d⟩:=st;exact⟨o,e,λv z=>by rw[d]at z;cases z⟩
 keep:=λi h h' st k=>st.at λo e=>k it (by simp) o e
 item:=by intro X hP q t hc i pins s σ H E I l st r;subst hP q t;obtain⟨xs,x,j,n⟩:=r;obtain⟨m,rv,p,J⟩:=I.tuple j;obtain⟨u,N,G⟩:=rv.get n;obtain⟨f0,D,f2,C,B,y⟩:=l it (by simp);refine wpAny_pyNext_tuple_item st (show s.heap.IsTuple a m.toArray from p) (x:=u) (by simpa using N) λh' g F=>?_;have O:Inv X pins σ H {s with heap:=h' }:=I.turned (t':=s.toks) (λb o f e=>(F.2 b f).trans e) f0 D C B y;obtain⟨o,e,c,d⟩:=id g;exact⟨u,rfl,Xz (s:={s with heap:=h' }) e c d (by decide) ⟨x,H,O,G,⟨rfl,λys L=>by rw[I.zAW L j];exact n⟩,g,λb f=>(l b f).1⟩⟩
 done:=by intro X hP q t hc i pins s σ H E I l st r;subst hP q t;obtain⟨xs,j,n⟩:=r;obtain⟨m,rv,p,J⟩:=I.tuple j;obtain⟨f0,D,f2,C,B,y⟩:=l it (by simp);have Q:=rv.length;exact wpAny_pyNext_tuple_end (I.ok.hd hc) st (show s.heap.IsTuple a m.toArray from p) (by simp;omega) λh' eb=>⟨rfl,I.turned (t':=s.toks) (λb o f e=>eb b o f e) f0 D C B y⟩
 self:=λ_ _ _ _ _ st h=>wpAny_pyIter_tupleiter st h
theorem PN{K:W.Frag}(it:A8)(lo:Int)(n:Nat):Turn P w K tg (lV lo n) [it] it (λi h=>IsRangeIter h it (lo+(i:Nat) * 1) ((n:Int)-(i:Nat)) 1) where
 mem:=by simp
 obj:=λi h st b c=>by
  have e:b=it:=by simpa using c
  subst e;exact⟨_,st,λv z=>by have B:Data.fields _=Data.cell v:=z;cases B⟩
 keep:=λi h h' st k=>k it (by simp) _ st
 item:=by intro X hP g l hc i pins s σ H E I f st j;subst hP g l;obtain⟨f0,r,f2,q,p,m⟩:=f it (by simp);have W:=Walks.range (prog:=X.prog) (w:=X.w) (I.ok.hd hc) it lo 1 n;refine W.item i s _ _ j st λv h' y D d C=>?_;obtain⟨t,rfl⟩:=D;have F:Inv X pins σ H {s with heap:=h',toks:=y}:=I.turned (λb o c e=>C b o (by simpa using c) e) f0 r q p m;refine⟨_,rfl,Xz (s:={s with heap:=h',toks:=y}) (n := "range_iterator") d rfl rfl (by decide) ⟨.int (lo+i),H,F,⟨t,?_⟩,⟨rfl,rfl⟩,d,λb c=>(f b c).1⟩⟩;rw[Int.mul_one]
 done:=by intro X hP g l hc i pins s σ H E I f st j;subst hP g l;obtain⟨f0,r,f2,q,p,m⟩:=f it (by simp);exact wpAny_pyNext_range_end (I.ok.hd hc) st (by have:n<=i:=j;omega) λh' eb=>⟨rfl,I.turned (t':=s.toks) (λb o c e=>eb b o c e) f0 r q p m⟩
 self:=λ_ _ _ _ _ st h=>wpAny_pyIter_rangeiter st h
section
variable{X:Cx}{tg:Expr}
theorem Nt{σ:St}{R:It->Hp->Prop}{E:_v->A5->Prop}{lo hi:Int}{t u v:Tok}{c:Nat}(I:Inv X pins σ H s)(h1:-(2 ^ 62)<=lo)(h2:lo < 2 ^ 62)(h3:-(2 ^ 62)<=hi)(h4:hi < 2 ^ 62)
    (q:R (lV lo (hi-lo).toNat) H):B4 (C7 X.prog X.w) X.A (yT (.ref s.heap.objs.size)) (uB X pins σ tg R) E {s with heap:=s.heap.push {cls:=.type "range", data:=.fields #[.int lo t,.int hi u,.int 1 v]},toks:=c}:=by
  refine wpAny_pyIter_range (IsRange.new ..) (small_one h1 h2 h3 h4) ?_;have d:Inv X pins σ H {s with heap:=s.heap.push {cls:=.type "range", data:=.fields #[.int lo t,.int hi u,.int 1 v]},toks:=c}:=I.kept λb o e=>A4 _ e;refine⟨(s.heap.push {cls:=.type "range", data:=.fields #[.int lo t,.int hi u,.int 1 v]}).objs.size,[(s.heap.push {cls:=.type "range", data:=.fields #[.int lo t,.int hi u,.int 1 v]}).objs.size],_,_,H,rfl,
    d.kept (t':=c) λb o e=>A4 _ e,PN _ lo (hi-lo).toNat,?_,λb f=>?_,q⟩
  · have j:lo+((0:Nat):Int) * 1=lo:=by simp
    have g:(((hi-lo).toNat:Nat):Int)-((0:Nat):Int)=yM lo hi 1:=by rw[rangeSize_one];split<;>omega
    show IsRangeIter _ _ (lo+((0:Nat):Int) * 1) ((((hi-lo).toNat:Nat):Int)-((0:Nat):Int)) 1;rw[j,g];exact D3 _ rfl
  have e:b=(s.heap.push {cls:=.type "range", data:=.fields #[.int lo t,.int hi u,.int 1 v]}).objs.size:=by simpa using f
  subst e;exact d.y6 (C4 _) (d.y8.fresh (C4 _))
abbrev pG(ta:TA):TI:=λσ H R=>ta σ H λvs c=>∃j:Int,vs=[.int j]/\-(2 ^ 62)<=j/\j < 2 ^ 62/\R (lV 0 j.toNat) c
abbrev pF(ta:TA):TI:=λσ H R=>ta σ H λvs c=>∃i j:Int,vs=[.int i,.int j]/\(-(2 ^ 62)<=i/\i < 2 ^ 62/\-(2 ^ 62)<=j/\j < 2 ^ 62)/\R (lV i (j-i).toNat) c
theorem Th{a:Expr}{ta:TA}{p:Pos}(l:Gl X "range")(hm:X.mg "range" = _n)(ha:PA X [a] ta)(k:D7 [a] X.env=[(_f,L8 a X.env)]:=by rfl):PI X tg (.Call (.Name "range" p) [a] [] pos) (pG ta):=by
 intro pins s σ H R I h;refine Call_ (Ef I l hm boot_range (N8 (Ai (ha pos pins s σ H _ I h) λus s1 ⟨vs,n,m,f,c⟩=>?_) k rfl));obtain⟨j,e,c,g,q⟩:=c;subst e;cases f with|cons r d=>cases d;obtain⟨t,rfl⟩:=r;exact call_range_1 (Nt m (by omega) (by omega) c g (by simpa using q))
theorem Tf{a b:Expr}{ta:TA}{p pos:Pos}(z:Gl X "range")(hm:X.mg "range" = _n)(ha:PA X [a,b] ta)(y:D7 [a,b] X.env=[(_f,L8 a X.env),(_f,L8 b X.env)]:=by rfl)(c:D7 [b] X.env=[(_f,L8 b X.env)]:=by rfl) :
    PI X tg (.Call (.Name "range" p) [a,b] [] pos) (pF ta):=by
  intro pins s σ H R I h;refine Call_ (Ef I z hm boot_range (N8 (Ai (ha pos pins s σ H _ I h) λus s1 ⟨vs,C,B,g,f⟩=>?_) (by rw[y,c]) (by rw[c];rfl)));obtain⟨i,j,e,⟨f,n,m,l⟩,q⟩:=f;subst e;cases g with
  |cons r d=>
    cases d with|cons k d=>cases d;obtain⟨t,rfl⟩:=r;obtain⟨t',rfl⟩:=k;exact call_range_2 (Nt B f n m l q)
abbrev rQ(d:TI)(g:TG)(tb:TS):TS:=λD σ H=>d σ H λJ j=>∃W:Nat->Nat->St->Hp->Prop,(∃m,W 0 m σ j)/\∀i m σ H,W i m σ H ->
 (J.stop i H/\D.nx σ H)\/(J.go i H/\∃N:St->Hp->Prop,(∀σ' H',N σ' H'->∃m',m' < m/\W (i+1) m' σ' H')/\∀x H',J.yld i H x H'->g x σ H' λc f=>tb {D with nx:=N,ct:=N,bk:=D.nx} c f)
noncomputable def MV(fp:List A8)(h:G2):List (A8×Obj):=fp.filterMap λb=>(h.get? b).map λo=>(b,o)
theorem Dw{fp:List A8}{o:Obj}(c:b∈fp)(e:h.get? b=_s o):(b,o)∈MV fp h:=wA.mpr ⟨b,c,by rw[e];rfl⟩
theorem Tq{fp:List A8}{p:A8×Obj}(hp:p∈MV fp h):p.1∈fp/\h.get? p.1=_s p.2:=by
 obtain⟨b,c,e⟩:=wA.mp hp;cases q:h.get? b with|none=>rw[q]at e;cases e|some o=>rw[q]at e;have d:(b,o)=p:=C3 e;subst d;exact⟨c,q⟩
theorem Inv.pinned{σ:St}{fp:List A8}(I:Inv X pins σ H s)(hf:∀b∈fp,zA X pins H b)(g:∀b∈fp,∃o,s.heap.get? b=_s o/\∀v,o.data≠.cell v):Inv X (pins++MV fp s.heap) σ H s:=
 I.zAD λp hp=>(E6.mp hp).elim (λz=>I.pin p (B5 _ z)) λz=>by obtain⟨c,e⟩:=Tq z;obtain⟨f0,f1,f2,_⟩:=hf p.1 c;obtain⟨o,f,d⟩:=g p.1 c;rw[e]at f;cases f;exact⟨e,f0,f1,f2,d⟩
theorem Inv.zAh{pl:List (A8×Obj)}{σ:St}(I:Inv X (pins++pl) σ H s):Inv X pins σ H s:=I.zAD λp hp=>I.pin p (B5 _ (C0 _ hp))
theorem Pt{iter:Expr}{U:TI}{g:TG}{tb:TS}{pos:Pos}(hp:b9 (C7 X.prog X.w) X.A X.env X.xe)(hc:X.calm=_t)(hi:PI X tg iter U)(hg:PG X tg g)(k:Cu X body tb)
    (hs:∀x,K3 iter X.env x=pure x:=by intro _;rfl):PS X (.For tg iter body [] pos) (rQ U g tb):=by
  intro pins s σ H D I h;refine wpAny_For (Ai (hi pins s σ H _ I h) λv s1 h1=>Ai h1 λitv s2 h2=>?_) hs;obtain⟨it,fp,tn,J,H2,e,I2,T,L,f2,W,⟨m0,w0⟩,z⟩:=h2;subst e
  -- zFF stays _t of the zDE objects through the loop
  have t:∀{H':Hp},(∀b∈fp,H' b=_n)->∀b∈fp,zA X pins H' b:=λhn b k=>⟨hn b k,(f2 b k).2⟩;refine codeAny_forLoop_any (λn s'=>∃i σ' H',Inv X pins σ' H' s'/\tn i s'.heap/\(∀b∈fp,H' b=_n)/\W i n σ' H') ?_ m0 ⟨0,σ,H2,I2,L,λb k=>(f2 b k).1,w0⟩;rintro n Z ⟨i,j,G,I3,B,F,w3⟩;rcases z i n j G w3 with⟨stop,qn⟩|⟨go,N,hN,step⟩
  refine S5 hp (Ai (T.done X rfl rfl rfl hc i pins Z j G X.xe I3 (t F) B stop) λr s4 ⟨Q,I4⟩=>?_);subst Q;exact X3 ⟨j,G,I4,qn⟩;refine S5 hp (Ai (T.item X rfl rfl rfl hc i pins Z j G X.xe I3 (t F) B go) λr s4 ⟨u,Q,h4⟩=>?_);subst Q;refine S5 hp (Ai h4 λ_ Y ⟨x,H5,I5,r5,y5,y,R⟩=>?_);have S:=I5.pinned (t R) (T.obj _ _ y);refine S5 hp (Ai (hg _ Y j H5 x u _ S r5 (step x H5 y5)) λ_ s6 ⟨K,H6,I6,q6⟩=>?_);refine S5 hp (Ai (k _ s6 K H6 _ I6 q6) λf O q=>?_);have again:∀{c:St}{p:Hp},Inv X (pins++MV fp Y.heap) c p O->N c p->∃m,m < n/\∃i σ' H',Inv X pins σ' H' O/\tn i O.heap/\(∀b∈fp,H' b=_n)/\W i m σ' H':=fun{c p} l C=>by obtain⟨m',hm,w7⟩:=hN c p C;refine⟨m',hm,i+1,c,p,l.zAh,T.keep _ _ _ y λb k o e=>(l.pin (b,o) (B5 _ (B5 _ (Dw k e)))).1,λb k=>?_,w7⟩;obtain⟨o,e,d⟩:=T.obj _ _ y b k;exact(l.pin (b,o) (B5 _ (B5 _ (Dw k e)))).2.1
  cases f with|next=>obtain⟨c,p,l,C⟩:=q;exact again l C|cont=>obtain⟨c,p,l,C⟩:=q;exact again l C|brk=>obtain⟨c,p,l,q⟩:=q;exact⟨c,p,l.zAh,q⟩|ret v=>obtain⟨x7,c,p,l,r7,q⟩:=q;exact⟨x7,c,p,l.zAh,r7,q⟩
end
abbrev R2:=V->V->Hp->VK->Prop
def Ce(X:Cx)(f:_v->_v->Sem _v)(r:R2):Prop:=
 ∀(pins:List (A8×Obj))(s:A5)(σ:St)(H:Hp)(x y:V)(v u:_v)(Q:VK),Inv X pins σ H s->RelV x v->RelV y u->r x y H Q ->
  B4 (C7 X.prog X.w) X.A (f v u) (EP X pins σ Q) X.xe s
def sW(X:Cx)(f:_v->Sem _v)(r:V->Hp->VK->Prop):Prop:=
 ∀(pins:List (A8×Obj))(s:A5)(σ:St)(H:Hp)(x:V)(v:_v)(Q:VK),Inv X pins σ H s->RelV x v->r x H Q ->
  B4 (C7 X.prog X.w) X.A (f v) (EP X pins σ Q) X.xe s
def Bb(X:Cx)(f:_v)(r:List V->Hp->VK->Prop):Prop:=
 ∀(pins:List (A8×Obj))(s:A5)(σ:St)(H:Hp)(xs:List V)(us:List _v)(Q:VK),Inv X pins σ H s->AI xs us->r xs H Q ->
  B4 (C7 X.prog X.w) X.A (call f us) (EP X pins σ Q) X.xe s
def sX(X:Cx)(r:V->Hp->(Bool->Hp->Prop)->Prop):Prop:=
 ∀(pins:List (A8×Obj))(s:A5)(σ:St)(H:Hp)(x:V)(v:_v)(Q:Bool->Hp->Prop),Inv X pins σ H s->RelV x v->r x H Q ->
  B4 (C7 X.prog X.w) X.A (truthy v) (TP X pins σ Q) X.xe s
abbrev qj(r:R2)(ta tb:TE):TE:=λσ H Q=>ta σ H λx d=>tb σ d λy c=>r x y c Q
abbrev uI(r:V->Hp->VK->Prop)(ta:TE):TE:=λσ H Q=>ta σ H λx c=>r x c Q
def rI(C:Int->Int->Prop)(g:Int->Int->V):R2:=λx y H Q=>∃i j,x=.int i/\y=.int j/\C i j/\Q (g i j) H
def WQ(g:Int->Int->V):R2:=λx y H Q=>∃i j,x=.int i/\y=.int j/\Q (g i j) H
def rU(g:Int->V):V->Hp->VK->Prop:=λx H Q=>∃i,x=.int i/\Q (g i) H
variable{r:R2}
section
variable{X:Cx}{a b c:Expr}{ta tb tc:TE}{pos:Pos}
theorem lL(ha:PE X a ta)(t:PE X b tb){σ:St}{R:V->V->Hp->Prop}(I:Inv X pins σ H s)
    (h:ta σ H λx g=>tb σ g λy d=>R x y d) {Q:_v->A5->Prop} {f:_v->_v->Sem _v}
    (q:∀v u s2 x y d,Inv X pins σ d s2->RelV x v->RelV y u->R x y d->B4 (C7 X.prog X.w) X.A (f v u) Q X.xe s2) :
    B4 (C7 X.prog X.w) X.A (L8 a X.env) (λv k=>B4 (C7 X.prog X.w) X.A (L8 b X.env) (λu j=>B4 (C7 X.prog X.w) X.A (f v u) Q X.xe j) X.xe k) X.xe s:=by
  refine Ai (ha pins s σ H _ I h) λv s1 ⟨x,g,B,m,p⟩=>?_;refine Ai (t pins s1 σ g _ B p) λu s2 ⟨y,d,z,l,n⟩=>?_;exact q v u s2 x y d z m l n
theorem oN{op:n0}(g:Ce X (binaryOp op) r)(ha:PE X a ta)(j:PE X b tb):PE X (.BinOp a op b pos) (qj r ta tb):=by intro pins s σ H Q I h;exact wpAny_BinOp (lL ha j I h λv u s2 x y l k f d q=>g pins s2 σ l x y v u Q k f d q)
theorem oK{op:UnaryOp}{r:V->Hp->VK->Prop}(g:sW X (unaryOp op) r)(ha:PE X a ta):PE X (.UnaryOp op a pos) (uI r ta):=by intro pins s σ H Q I h;exact UnaryOp_ (Ai (ha pins s σ H _ I h) λv s1 ⟨x,k,j,d,f⟩=>g pins s1 σ k x v Q j d f)
theorem ql{f:_v->_v->Sem _v}{C:Int->Int->Prop}{g:Int->Int->Int}
    (rule:∀(i j:Int)(t u:Tok)(s:A5)(Q:_v->A5->Prop)(E:_v->A5->Prop),C i j->Q (.int (g i j) s.toks) {s with toks:=s.toks+1}->B4 (C7 X.prog X.w) X.A (f (.int i t) (.int j u)) Q E s) :
    Ce X f (rI C λi j=>.int (g i j)):=by
  intro pins s σ H x y v u Q I k d h;obtain⟨i,j,rfl,rfl,hc,q⟩:=h;obtain⟨t,rfl⟩:=k;obtain⟨t',rfl⟩:=d;exact rule i j t t' s _ _ hc ⟨.int (g i j),H,I.tok _,⟨_,rfl⟩,q⟩
theorem oY{f:_v->_v->Sem _v}{g:Int->Int->Int}
    (rule:∀(i j:Int)(t u:Tok)(s:A5)(Q:_v->A5->Prop)(E:_v->A5->Prop),Q (.int (g i j) s.toks) {s with toks:=s.toks+1}->B4 (C7 X.prog X.w) X.A (f (.int i t) (.int j u)) Q E s) :
    Ce X f (WQ λi j=>.int (g i j)):=by
  intro pins s σ H x y v u Q I k d h;obtain⟨i,j,rfl,rfl,q⟩:=h;obtain⟨t,rfl⟩:=k;obtain⟨t',rfl⟩:=d;exact rule i j t t' s _ _ ⟨.int (g i j),H,I.tok _,⟨_,rfl⟩,q⟩
theorem cJ{f:_v->_v->Sem _v}{g:Int->Int->Bool}
    (rule:∀(i j:Int)(t u:Tok)(s:A5)(Q:_v->A5->Prop)(E:_v->A5->Prop),Q (.bool (g i j)) s->B4 (C7 X.prog X.w) X.A (f (.int i t) (.int j u)) Q E s) :
    Ce X f (WQ λi j=>.bl (g i j)):=by
  intro pins s σ H x y v u Q I k d h;obtain⟨i,j,rfl,rfl,q⟩:=h;obtain⟨t,rfl⟩:=k;obtain⟨t',rfl⟩:=d;exact rule i j t t' s _ _ ⟨.bl (g i j),H,I,rfl,q⟩
def sh(i j:Int):Prop:=0 < j/\j < 1073741824
def sg(i j:Int):Prop:=0<=j/\j<=1000000/\i.natAbs < 2 ^ 64
def eL(i j:Int):Prop:=(-(2 ^ 64) < i/\i < 2 ^ 64)\/(-(2 ^ 64) < j/\j < 2 ^ 64)
theorem eL.ok{i j:Int}(h:eL i j):IntMulOk i j:=by
 rcases h with⟨h1,h2⟩|⟨h1,h2⟩
 exact .of_left (intBits_le_64 h1 h2);exact .of_right (intBits_le_64 h1 h2)
theorem jm:Ce X (binaryOp .Add) (WQ λi j=>.int (i+j)):=oY λ_ _ _ _ _ _ _ q=>add_int q
theorem jU:Ce X (binaryOp .Sub) (WQ λi j=>.int (i-j)):=oY λ_ _ _ _ _ _ _ q=>sub_int q
theorem jY:Ce X (binaryOp .Mult) (rI eL λi j=>.int (i * j)):=ql λ_ _ _ _ _ _ _ hc q=>mul_int q hc.ok
theorem cA:Ce X (binaryOp .FloorDiv) (rI sh λi j=>.int (i / j)):=ql λi j _ _ _ _ _ hc q=>by have h1:(0:Int) < j:=hc.1;have h2:j < 1073741824:=hc.2;exact floordiv_int (by omega) (by rw[Int.fdiv_eq_ediv_of_nonneg i (by omega)];exact q) (.inl (PyProof.noPylong_small (by omega)))
theorem jZ:Ce X (binaryOp .Mod) (rI (λ_ j=>0 < j) λi j=>.int (i % j)):=ql λi j _ _ _ _ _ hc q=>by have h1:(0:Int) < j:=hc;exact mod_int' (by omega) (by rw[Int.fmod_eq_emod_of_nonneg i (by omega)];exact q)
theorem jW:Ce X (binaryOp .Pow) (rI sg λi j=>.int (i ^ j.toNat)):=ql λ_ _ _ _ _ _ _ hc q=>pow_int_small hc.1 hc.2.1 hc.2.2 q
theorem uG{f:_v->Sem _v}{g:Int->Int}
    (rule:∀(i:Int)(t:Tok)(s:A5)(Q:_v->A5->Prop)(E:_v->A5->Prop),Q (.int (g i) s.toks) {s with toks:=s.toks+1}->B4 (C7 X.prog X.w) X.A (f (.int i t)) Q E s) :
    sW X f (rU λi=>.int (g i)):=by
  intro pins s σ H x v Q I d h;obtain⟨i,rfl,q⟩:=h;obtain⟨t,rfl⟩:=d;exact rule i t s _ _ ⟨.int (g i),H,I.tok _,⟨_,rfl⟩,q⟩
theorem gq:sW X (unaryOp .USub) (rU λi=>.int (-i)):=uG λ_ _ _ _ _ q=>neg_int q
end
variable{f:_v->_v->Sem _v}{op:o5}
section
variable{X:Cx}{a b c:Expr}{ta tb tc:TE}{pos:Pos}
theorem QU{σ:St}{Q:VK}{k d:Bool}(I:Inv X pins σ H s)(q:Q (.bl k) H)(e:k=d):EP X pins σ Q (.bool d) s:=by subst e;exact⟨.bl k,H,I,rfl,q⟩
theorem oU:Ce X (J0 .Lt) (WQ λi j=>.bl (decide (i < j))):=cJ λ_ _ _ _ _ _ _ q=>lt_int q
theorem oV:Ce X (J0 .LtE) (WQ λi j=>.bl (decide (i<=j))):=cJ λ_ _ _ _ _ _ _ q=>le_int q
theorem oW:Ce X (J0 .Gt) (WQ λi j=>.bl (decide (j < i))):=cJ λ_ _ _ _ _ _ _ q=>gt_int q
theorem oX:Ce X (J0 .GtE) (WQ λi j=>.bl (decide (j<=i))):=cJ λ_ _ _ _ _ _ _ q=>ge_int q
theorem Tp:Ce X (J0 .In) (λx y H Q=>∃i j,x=.str i/\y=.str j/\Q (.bl (!(Q4 j i 0 j.length 1).isEmpty)) H):=by intro pins s σ H x y v u Q I g d h;obtain⟨i,j,rfl,rfl,q⟩:=h;obtain⟨t,rfl⟩:=g;obtain⟨t',rfl⟩:=d;exact in_str (QU I q rfl)
theorem jd:Ce X (J0 .Is) (λx y H Q=>y=.yw/\Q (.bl (decide (x=.yw))) H):=by
 intro pins s σ H x y v u Q I d g h;obtain⟨rfl,q⟩:=h;cases g;refine is_none_gen (QU I q ?_);cases x<;>first
  |(cases d;rfl)
  |(obtain⟨t,rfl⟩:=d;rfl)
theorem bw:Ce X (J0 .IsNot) (λx y H Q=>y=.yw/\Q (.bl (!decide (x=.yw))) H):=by
 intro pins s σ H x y v u Q I d g h;obtain⟨rfl,q⟩:=h;cases g;refine isnot_none_gen (QU I q ?_);cases x<;>first
  |(cases d;rfl)
  |(obtain⟨t,rfl⟩:=d;rfl)
theorem Ce.or{j:R2}(h:Ce X f r)(h':Ce X f j):Ce X f (λx y H Q=>r x y H Q\/j x y H Q):=by
 intro pins s σ H x y v u Q I g d q;rcases q with q|q
 exact h pins s σ H x y v u Q I g d q;exact h' pins s σ H x y v u Q I g d q
theorem bp(j:Ce X (J0 op) r)(ha:PE X a ta)(k:PE X b tb)(hm:vt op b=_f):PE X (.Compare a [op] [b] pos) (qj r ta tb):=by intro pins s σ H Q I h;exact wpAny_Compare1 (lL ha k I h λv u s2 x y m l g d q=>j pins s2 σ m x y v u Q l g d q) hm
abbrev eN(t:TE):TT:=λσ H Q=>t σ H λx H'=>∃k,x=.bl k/\Q k H'
theorem bJ(p:Ce X (J0 op) r)(ha:PE X a ta)(q:PE X b tb)(hm:vt op b=_f):PT X (.Compare a [op] [b] pos) (eN (qj r ta tb)):=by
 intro pins s σ H Q I h;refine wpAny_isTrue_Compare1 (Ai (ha pins s σ H _ I h) λv s1 ⟨x,G,C,j,n⟩=>Ai (q pins s1 σ G _ C n) λu s2 ⟨y,F,B,g,m⟩ =>
  Ai (p pins s2 σ F x y v u _ B j g m) λc J ⟨z,D,t,d,k,e,l⟩=>?_) hm
 subst e;cases d;exact L5 ⟨D,t,l⟩
abbrev PV(r j:R2)(ta tb tc:TE):TE:=λσ H Q=>ta σ H λx n=>tb σ n λy m=>r x y m λz d=>∃k,z=.bl k /\
 (if k=_t then tc σ d λg l=>j y g l Q else Q (.bl _f) d)
theorem Wy{g:o5}{m:R2}(O:Ce X (J0 op) r)(j:Ce X (J0 g) m)(ha:PE X a ta)(R:PE X b tb)(hc:PE X c tc)
    (hm:yN [op,g] [b,c]=false:=by with_unfolding_all rfl):PE X (.Compare a [op,g] [b,c] pos) (PV r m ta tb tc):=by
  intro pins s σ H Q I h;refine Compare_chain (Ai (ha pins s σ H _ I h) λv s1 ⟨x,Z,U,J,N⟩=>chain_link (Ai (R pins s1 σ Z _ U N) λu s2 ⟨y,Y,T,l,L⟩ =>
    Ai (O pins s2 σ Y x y v u _ T J l L) λd D ⟨z,q,p,G,k,e,n⟩=>?_)) hm
  subst e;cases G;refine L5 ?_;cases k with|false=>exact ite_ff ⟨.bl _f,q,p,rfl,n⟩|true=>exact ite_tt (chain_last (Ai (hc pins D σ q _ p n) λB C ⟨t,W,S,F,K⟩=>j pins C σ W y t u B Q S l F K))
theorem WY{g:o5}{m:R2}(T:Ce X (J0 op) r)(j:Ce X (J0 g) m)(ha:PE X a ta)(U:PE X b tb)(hc:PE X c tc)
    (hm:yN [op,g] [b,c]=false:=by with_unfolding_all rfl):PT X (.Compare a [op,g] [b,c] pos) (eN (PV r m ta tb tc)):=by
  intro pins s σ H Q I h;refine isTrue_chain (Ai (ha pins s σ H _ I h) λv s1 ⟨x,H1,I1,K,R⟩=>test_link (Ai (U pins s1 σ H1 _ I1 R) λu s2 ⟨y,H2,I2,l,O⟩ =>
    Ai (T pins s2 σ H2 x y v u _ I2 K l O) λd D ⟨z,q,p,J,k,e,n⟩=>?_)) hm
  subst e;cases J;refine L5 ?_;cases k with|false=>obtain⟨k',Y,S⟩:=n;cases Y;exact ite_ff ⟨q,p,S⟩|true=>refine ite_tt (test_last (Ai (hc pins D σ q _ p n) λB C ⟨t,H4,I4,G,N⟩=>Ai (j pins C σ H4 y t u B _ I4 l G N) λd' s5 ⟨z2,H5,Z,F,k2,W,L⟩=>?_));subst W;cases F;exact L5 ⟨H5,Z,L⟩
def Zs(K:W.Frag)(x:V)(H:Hp)(k:Bool):Prop:=
 match x with
 |.yw=>k=_f
 |.bl b=>k=b
 |.int i=>k=(i != 0)
 |.str y=>y.length<=sizeLine/\k=((y.length:Int) != 0)
 |.byt y=>y.size<=sizeLine/\k=((y.size:Int) != 0)
 |.ref p=>(∃xs,Dk K H p xs/\k=!xs.isEmpty)\/(∃xs,FR K H p xs/\k=!xs.isEmpty)\/∃y7,H p=_s (.dK y7)/\k=!y7.isEmpty
 |_=>False
theorem QQ{d:Type}{y7:List (d×V)}{vs:List (d×_v)}(r:KV y7 vs):(!vs.isEmpty)=!y7.isEmpty:=by cases r<;>rfl
theorem Jl{xs:List V}{d:List _v}(r:AI xs d):(!d.toArray.isEmpty)=!xs.isEmpty:=by cases r<;>simp
theorem HQ:(sizeLine:Nat) < 2 ^ 63:=by rw[R5];decide
theorem gv:sX X (λx H Q=>∃k,Zs X.K x H k/\Q k H):=by
 intro pins s σ H x v Q I j h;obtain⟨k,e,q⟩:=h;have F:=HQ;have D:sizeLine=16777216:=R5;cases x with
 |yw=>cases j;have d:k=false:=e;subst d;exact truthy_none ⟨H,I,q⟩
 |bl b=>cases j;have d:k=b:=e;subst d;exact L5 ⟨H,I,q⟩
 |int i=>obtain⟨t,rfl⟩:=j;have d:k=(i != 0):=e;subst d;exact PySem.P.truthy_int ⟨H,I,q⟩
 |str y=>obtain⟨t,rfl⟩:=j;obtain⟨B,d⟩:y.length<=sizeLine/\k=((y.length:Int) != 0):=e;subst d;exact PySem.P.truthy_str (by omega) ⟨H,I.tok _,q⟩
 |byt y=>obtain⟨t,rfl⟩:=j;obtain⟨B,d⟩:y.size<=sizeLine/\k=((y.size:Int) != 0):=e;subst d;exact W.truthy_bytes (by omega) ⟨H,I.tok _,q⟩
 |ref p=>
  cases j;have d:(∃xs,Dk X.K H p xs/\k=!xs.isEmpty)\/(∃xs,FR X.K H p xs/\k=!xs.isEmpty)\/∃y7,H p=_s (.dK y7)/\k=!y7.isEmpty:=e;rcases d with⟨xs,l,d⟩|⟨xs,l,d⟩|⟨y7,l,d⟩
  subst d;obtain⟨z,r,pl,n⟩:=I.list l;have g:=r.length;exact wpAny_truthy_list pl.isList (by simp only[B0];omega) ⟨H,I.tok _,by rw[Jl r];exact q⟩;subst d;obtain⟨z,r,pl,n⟩:=I.tuple l;have g:=r.length;exact truthy_tuple pl (by simp only[B0];omega) ⟨H,I.tok _,by rw[Jl r];exact q⟩;subst d;obtain⟨n,C,vs,r,m⟩:y7.length<=sizeLine/\(p==V4)=_f/\∃vs,KV y7 vs/\s.heap.DictOf (Ak X.prog X.w) p vs:=I.y8 p _ l;have g:y7.length=vs.length:=Paired.length r;exact wpAny_truthy_dict C m (by omega) ⟨H,I.tok _,by rw[QQ r];exact q⟩
 |_=>exact(show False from e).elim
theorem WX(ha:PE X a ta)(l:∀d,yQ a X.env d=(do let v <- d;vh a.pos;Z1 [v] (truthy v))) :
    PT X a (λσ H Q=>ta σ H λx H'=>∃k,Zs X.K x H' k/\Q k H'):=by
  intro pins s σ H Q I h;exact isTrue_plain (Ai (ha pins s σ H _ I h) λv s1 ⟨x,n,m,g,j⟩=>gv pins s1 σ n x v Q m g j) (l _)
theorem QC:Ce X (binaryOp .Add) (λx y H Q=>∃i j,x=.str i/\y=.str j/\i.length+j.length<=sizeLine/\Q (.str (i++j)) H):=by intro pins s σ H x y v u Q I g d h;obtain⟨i,j,rfl,rfl,k,q⟩:=h;obtain⟨t,rfl⟩:=g;obtain⟨t',rfl⟩:=d;exact add_str (λt' l=>⟨.str (i++j),H,I.tok _,⟨_,rfl⟩,q⟩) k
theorem vals1{x:V}(r:AI [x] us):∃u,us=[u]/\RelV x u:=by
 cases r with|cons g d=>cases d;exact⟨_,rfl,g⟩
theorem mN{x y:V}(r:AI [x,y] us):∃u d,us=[u,d]/\RelV x u/\RelV y d:=by
 cases r with
 |cons l k=>
  cases k with|cons j g=>cases g;exact⟨_,_,rfl,l,j⟩
theorem Uq(hc:X.calm=_t):Bb X (.builtin "max") (λxs H Q=>∃i j,xs=[.int i,.int j]/\Q (.int (if j > i then j else i)) H):=by intro pins s σ H xs us Q I r h;obtain⟨i,j,rfl,q⟩:=h;obtain⟨u,g,rfl,⟨t,rfl⟩,⟨t',rfl⟩⟩:=mN r;refine max_two_ints (I.ok.hd hc) λh' l k=>⟨_,H,I.kept k,?_,q⟩;by_cases d:j > i;rw[if_pos d,if_pos d];exact⟨_,rfl⟩;rw[if_neg d,if_neg d];exact⟨_,rfl⟩
theorem Uv:Bb X (.type "int") (λxs H Q=>(∃i,xs=[.int i]/\Q (.int i) H)\/∃k,xs=[.bl k]/\Q (.int (if k then 1 else 0)) H):=by
 intro pins s σ H xs us Q I r h;rcases h with⟨i,rfl,q⟩|⟨k,rfl,q⟩
 obtain⟨u,rfl,t,rfl⟩:=vals1 r;exact call_int_int ⟨.int i,H,I,⟨_,rfl⟩,q⟩;obtain⟨u,rfl,d⟩:=vals1 r;cases d;exact call_int_bool ⟨.int (if k then 1 else 0),H,I.tok _,⟨_,rfl⟩,q⟩
def qe(K:W.Frag)(x:V)(H:Hp)(n:Nat):Prop:=
 match x with
 |.str y=>y.length<=sizeLine/\n=y.length
 |.byt y=>y.size<=sizeLine/\n=y.size
 |.ref p=>(∃xs,Dk K H p xs/\n=xs.length)\/∃xs,FR K H p xs/\n=xs.length
 |_=>False
theorem Yy:Bb X (.builtin "len") (λxs H Q=>∃x n,xs=[x]/\qe X.K x H n/\Q (.int n) H):=by
 intro pins s σ H xs us Q I r h;obtain⟨x,n,rfl,e,q⟩:=h;obtain⟨u,rfl,j⟩:=vals1 r;have D:=HQ;have C:sizeLine=16777216:=R5;cases x with
 |str y=>obtain⟨t,rfl⟩:=j;obtain⟨B,g⟩:y.length<=sizeLine/\n=y.length:=e;subst g;exact len_str (by omega) ⟨.int _,H,I.tok _,⟨_,rfl⟩,q⟩
 |byt y=>obtain⟨t,rfl⟩:=j;obtain⟨B,g⟩:y.size<=sizeLine/\n=y.size:=e;subst g;exact W.len_bytes (by omega) ⟨.int _,H,I.tok _,⟨_,rfl⟩,q⟩
 |ref p=>
  cases j;have g:(∃xs,Dk X.K H p xs/\n=xs.length)\/∃xs,FR X.K H p xs/\n=xs.length:=e;rcases g with⟨xs,l,g⟩|⟨xs,l,g⟩
  subst g;obtain⟨m,k,pl,z⟩:=I.list l;have d:=k.length;exact Calls.call_len_list pl.isList (by simp only[B0];omega) ⟨.int xs.length,H,I.tok _,⟨_,by simp only[B0];rw[d]⟩,q⟩;subst g;obtain⟨m,k,pl,z⟩:=I.tuple l;have d:=k.length;exact len_tuple pl (by simp only[B0];omega) ⟨.int xs.length,H,I.tok _,⟨_,by simp only[B0];rw[d]⟩,q⟩
 |_=>exact(show False from e).elim
end
structure zBi (h:G2) (x dx C:A8) (mA:Str->Option _v):Prop where
 obj:h.get? x=_s (W.instObj C dx)
 ns:h.Ns1 dx mA
 ne:dx≠x
theorem LR{dx:A8}{mA:Str->Option _v}(n:h.Ns1 dx mA):∃od,h.get? dx=_s od/\∀name,W.lookIn name od=_s (mA name):=by
  obtain⟨o,es,l,g,hd,j,_,hm⟩:=n;refine⟨o,g,λname=>?_⟩;have e:=hm name;unfold nsFind findBy at e;rw[<- Array.find?_toList]at e;unfold W.lookIn;rw[hd];dsimp only;split;rename_i y q;rw[q]at e;exact congrArg _s e;rename_i q;rw[q]at e;have a:es.toList.any (·.refKey)=false:=by rw[List.any_eq_false];intro y d;obtain⟨z,t,c⟩:=j y (vR.mp d);simp[DictEntry.refKey,c]
  have k:¬es.toList.any (·.refKey)=true:=by rw[a];exact D1
  rw[if_neg k];exact congrArg _s e
variable{C:A8}
theorem zBi.look{x dx:A8}{mA:Str->Option _v}(I:zBi h x dx C mA):∃od,W.InstAt h x (W.instObj C dx) C (_s od)/\∀name,W.lookIn name od=_s (mA name):=
 let ⟨od,ho,hl⟩:=LR I.ns
 ⟨od,⟨I.obj,rfl,rfl,ho⟩,hl⟩
section
variable{prog:E8}{w:G7}{A:G3}{E:_v->A5->Prop}{s:A5}{K:W.Frag}{x dx C f:A8}{mA:Str->Option _v}{name:Str}{v:_v}
theorem cn{expr:Bool}{Q:_v->A5->Prop}(X:K.In s.heap)(I:zBi s.heap x dx C mA)(k:W.plainGet K C name=_t)(j:W.hasDictIn K C=_t)
    (ha:W.findIn K (.ref C) name=_s _n) (d:mA name=_s v) (c:W.handedIn v=_t) (h:Q v {s with toks:=s.toks+1}) :
    B4 (C7 prog w) A (xl (.ref x) name expr) Q E s:=by
  obtain⟨od,J,g⟩:=I.look;exact W.get_value X J (W.plainGet_of k).1 (W.findObj_own j ha rfl (by rw[g,d])) c h
theorem YA{pl:Sem Bool}{Q:_v×List _v->A5->Prop}(X:K.In s.heap)(I:zBi s.heap x dx C mA)(c:W.plainGet K C name=_t)
    (k:W.findIn K (.ref C) name=_s (_s (.ref f))) (g:W.isFn K (.ref f)=_t) (d:mA name=_n) (h:Q (.ref f,[.ref x]) s) :
    B4 (C7 prog w) A (uq (.ref x) name pl) Q E s:=by
  obtain⟨od,J,j⟩:=I.look;exact W.method_fn X J (W.plainGet_of c).1 (W.plainGet_of c).2 k (beq_iff_eq.mp g) (by show(W.lookIn name od).map (·.isSome)=_s _f;rw[j,d];rfl) h
theorem ak{ns:List Str}{Q:Unit->A5->Prop}(X:K.In s.heap)(I:zBi s.heap x dx C mA)
    (q:W.findIn K (.ref C) "__setattr__" = _s (_s (.builtin "object.__setattr__"))) (hp:W.plainOver K C=_t) (p:W.takerIn K C name=_s _n) (t:W.hasDictIn K C=_t)
    (n:wL mA ns) (hsz:ns.length<=sizeLine)
    (h:∀h',zBi h' x dx C (λy=>if y=name then _s v else mA y)->O6 dx s.heap h'->Q () {s with heap:=h',toks:=s.toks+2}) :
    B4 (C7 prog w) A (setAttr (.ref x) name v) Q E s:=by
  obtain⟨od,J,F⟩:=I.look;refine W.set_plain X J q (W.osa_open (s:={s with toks:=s.toks+1}) (r:=_n) X J hp p λb=>?_);obtain⟨G,hc,k⟩:=W.any_some t;have m:s.heap.get? x=_s ⟨.ref C,_s dx,.plain,#[]⟩:=I.obj;refine A1 (A6 (A1 (A1 (wpAny_loadPart m (A1 (W.Looks.here (s:={s with toks:=s.toks+1}) (W.looks_clsIn X hc) ?_))))));rw[k];refine A6 (a:=_s dx) (A1 (A6 (A1 ?_)));refine wpAny_nsSet1 (s:={s with toks:=s.toks+1}) I.ns λh' d c=>?_;obtain⟨D,z,B,g,j,l⟩:=d.count (yo name v n);refine A1 (wy g (by rw[j];exact w8 (D0 l (by rw[E3];omega))) ?_);exact A6 (h _ ⟨(c.2 _ (Ne.symm I.ne)).trans I.obj,d,I.ne⟩ c)
theorem Xa{R:xt->A5->Prop}{vs:List _v}{c:List (Str×_v)}(X:K.In s.heap)(hm:W.makesIn K C=_t)
    (hi:W.findIn K (.ref C) "__init__" = _s (_s (.ref f))) (j:W.typeIn K (.ref f)=_s (.type "function"))
    (h:Z3 (C7 prog w) (A.under (.builtin "type.__call__" ⟨.ref C::vs,c⟩)) (.call (.ref f) ⟨.ref (s.heap.objs.size+1)::vs,c⟩) (W.InitBack (s.heap.objs.size+1) R)
      {s with heap:=(s.heap.push W.emptyDict).push (W.instObj C s.heap.objs.size)}) :
    Z3 (C7 prog w) A (.call (.ref C) ⟨vs,c⟩) R s:=by
  obtain⟨k,g,d,t,os⟩:=s;exact W.make_core (W.makes_of X hm) (W.looks_findIn X hi) (λself=>W.bind_fn X self j) (.inl rfl) h
end
noncomputable def Ed(f:Str)(v:V):List (Str×V)->List (Str×V)
 |[]=>[(f,v)]
 |(g,x)::r=>if g=f then(g,v)::r else(g,x)::Ed f v r
theorem Ee(f g:Str)(v:V):∀fs:List (Str×V),(Ed f v fs).lookup g=if g=f then _s v else fs.lookup g
 |[]=>by show Y1 g [(f,v)]=_;by_cases h:g=f;have c:(g==f)=true:=beq_iff_eq.mpr h;simp only[Y1,c,if_pos h];have c:(g==f)=false:=beq_eq_false_iff_ne.mpr h;simp only[Y1,c,if_neg h]
 |(k,x)::r=>by have j:=Ee f g v r;rw[show Ed f v ((k,x)::r)=(if k=f then(k,v)::r else(k,x)::Ed f v r)from rfl];by_cases d:k=f;rw[if_pos d];by_cases h:g=k;have c:(g==k)=true:=beq_iff_eq.mpr h;simp only[Y1,c,if_pos (h.trans d)];have c:(g==k)=false:=beq_eq_false_iff_ne.mpr h;simp only[Y1,c,if_neg (λe:g=f=>h (e.trans d.symm))];rw[if_neg d];by_cases h:g=k;have c:(g==k)=true:=beq_iff_eq.mpr h;simp only[Y1,c,if_neg (λe:g=f=>d (h.symm.trans e))];have c:(g==k)=false:=beq_eq_false_iff_ne.mpr h;simp only[Y1,c];exact j
theorem HR(f:Str)(v:V):∀fs:List (Str×V),f∈(Ed f v fs).map (·.1)/\∀g,g∈fs.map (·.1)->g∈(Ed f v fs).map (·.1)
 |[]=>⟨by simp[Ed],λg h=>by simp at h⟩
 |(k,x)::r=>by
  obtain⟨j,d⟩:=HR f v r;rw[show Ed f v ((k,x)::r)=(if k=f then(k,v)::r else(k,x)::Ed f v r)from rfl];by_cases c:k=f;rw[if_pos c];subst c;exact⟨by simp,λg h=>by simpa using h⟩;rw[if_neg c];refine⟨?_,λg h=>?_⟩;rw[A9];exact B1 _ j;rw[A9]at h ⊢;rcases C9.mp h with e|e
  exact C9.mpr (.inl e);exact B1 _ (d g e)
theorem Hr(f:Str)(v:V):∀fs:List (Str×V),(Ed f v fs).length<=fs.length+1
 |[]=>by simp[Ed]
 |(k,x)::r=>by have d:=Hr f v r;rw[show Ed f v ((k,x)::r)=(if k=f then(k,v)::r else(k,x)::Ed f v r)from rfl];by_cases c:k=f;rw[if_pos c,E3,E3];omega;rw[if_neg c,E3,E3];omega
theorem Gh.some_of{o:Option _v}(r:Gh (_s v) o):∃u,o=_s u/\RelV v u:=by
 cases o with|none=>exact(show False from r).elim|some u=>exact⟨u,rfl,r⟩
theorem Gh.none_of{o:Option _v}(r:Gh _n o):o=none:=by
 cases o with|none=>rfl|some u=>exact(show False from r).elim
theorem LZ(r:RelV v u):W.handedIn u=true:=by
 cases v with|yw=>cases(show u=K6 from r);rfl|bl b=>cases(show u=v8 b from r);rfl|int i=>obtain⟨t,e⟩:=(show ∃t,u=vf i t from r);cases e;rfl|str x=>obtain⟨t,e⟩:=(show ∃t,u=vg x t from r);cases e;rfl|byt b=>obtain⟨t,e⟩:=(show ∃t,u=ye b t from r);cases e;rfl|flt b=>obtain⟨t,e⟩:=(show ∃t,u=xP b t from r);cases e;rfl|ref a=>cases(show u=D4 a from r);rfl|ty n=>cases(show u=O1 n from r);rfl
section
variable{P:E8}{w:G7}{H H':Hp}{h h':G2}{a C dx:A8}{fs fs':List (Str×V)}
theorem IS(y8:EM P w H h)(e:H a=_s (.ins C dx fs)):∃mA,zBi h a dx C mA/\(∀f,Gh (fs.lookup f) (mA f))/\wL mA (fs.map (·.1))/\fs.length<=1000/\H dx=_s (.own a):=by obtain⟨d,z,ne,ob,mA,n,r,q⟩:=(show An P w H h a (.ins C dx fs)from y8 a _ e);exact⟨mA,⟨ob,n,ne⟩,r,q,z,d⟩
end
structure Cls (K:W.Frag) (C:A8):Prop where
 pg:W.plainGet K C Str.empty=_t
 hd:W.hasDictIn K C=_t
 po:W.plainOver K C=_t
 sa:W.findIn K (.ref C) "__setattr__" = _s (_s (.builtin "object.__setattr__"))
theorem Cls.get{K:W.Frag}(c:Cls K C)(f:Str):W.plainGet K C f=true:=c.pg
def Em(K:W.Frag)(C:A8)(f:Str):Prop:=W.findIn K (.ref C) f=_s _n
theorem Em.zDO{K:W.Frag}{f:Str}(n:Em K C f):W.takerIn K C f=_s none:=by unfold W.takerIn;rw[show W.findIn K (.ref C) f=_s _n from n];rfl
structure Meth (K:W.Frag) (C:A8) (m:Str) (f:A8):Prop where
 at_:W.findIn K (.ref C) m=_s (_s (.ref f))
 fn:W.isFn K (.ref f)=_t
 kp:W.keepIn K (.ref f)=_t
section
variable{X:Cx}{pins:List (A8×Obj)}{σ:St}{H:Hp}{s:A5}{a C dx:A8}{fs:List (Str×V)}{f:Str}{v:V}{A:G3}{E:_v->A5->Prop}
theorem QS{b:Bool}{Q:_v->A5->Prop}(I:Inv X pins σ H s)(e:H a=_s (.ins C dx fs))(c:Cls X.K C)(n:Em X.K C f)(l:fs.lookup f=_s v)
    (h:∀u s',Inv X pins σ H s'->RelV v u->Q u s'):B4 (C7 X.prog X.w) A (xl (.ref a) f b) Q E s:=by
  obtain⟨mA,O,r,_,_,_⟩:=IS I.y8 e;obtain⟨u,g,d⟩:=Gh.some_of (v:=v) (o:=mA f) (by rw[<- l];exact r f);exact cn I.zx O (c.get f) c.hd n g (LZ d) (h u _ (I.tok _) d)
theorem Fm{m:Str}{g:A8}{pl:Sem Bool}{Q:_v×List _v->A5->Prop}(I:Inv X pins σ H s)(e:H a=_s (.ins C dx fs))(c:Cls X.K C)(k:Meth X.K C m g)(l:fs.lookup m=_n)
    (h:Q (.ref g,[.ref a]) s):B4 (C7 X.prog X.w) A (uq (.ref a) m pl) Q E s:=by
  obtain⟨mA,O,r,_,_,_⟩:=IS I.y8 e;have hn:mA m=none:=Gh.none_of (by rw[<- l];exact r m);exact YA I.zx O (c.get m) k.at_ k.fn hn h
theorem Pf{y:V}{Q:Unit->A5->Prop}(I:Inv X pins σ H s)(e:H a=_s (.ins C dx fs))(c:Cls X.K C)(n:Em X.K C f)(D:fs.length < 1000)(m:RelV y u)
    (h:∀s',Inv X pins σ (upd H a (.ins C dx (Ed f y fs))) s'->Q () s'):B4 (C7 X.prog X.w) A (setAttr (.ref a) f u) Q E s:=by
  obtain⟨mA,O,r,j,_,k⟩:=IS I.y8 e;have p:(fs.map (·.1)).length<=sizeLine:=by rw[B9,R5];omega
  refine ak I.zx O c.sa c.po n.zDO c.hd j p λh' d l=>h _ ?_;have hd:∃o,h'.get? dx=_s o:=let ⟨o,_,_,e',_⟩:=d.ns;⟨o,e'⟩;refine I.write (x:=a) (e:=dx) (by rw[e];exact True.intro) (.inr k) (λb q B z=>(l.2 b B).trans z) hd ?_;refine⟨by rw[AC O.ne];exact k,?_,O.ne,d.obj,_,d.ns,λg=>?_,λg t=>?_⟩
  have:=Hr f y fs;omega;show Gh ((Ed f y fs).lookup g) (if g=f then _s u else mA g);rw[Ee];by_cases q:g=f;rw[if_pos q,if_pos q];exact m;rw[if_neg q,if_neg q];exact r g;by_cases q:g=f;rw[q];exact(HR f y fs).1;refine(HR f y fs).2 g (j g λz=>t ?_);show(if g=f then _s u else mA g)=_n;rw[if_neg q];exact z
theorem Inv.made(I:Inv X pins σ H s):Inv X pins σ (upd (upd H s.heap.objs.size (.own (s.heap.objs.size+1))) (s.heap.objs.size+1) (.ins C s.heap.objs.size []))
    {s with heap:=(s.heap.push W.emptyDict).push (W.instObj C s.heap.objs.size)}:=by
  have c:(s.heap.push W.emptyDict).get? s.heap.objs.size=_s W.emptyDict:=D3 s.heap rfl;have j:((s.heap.push W.emptyDict).push (W.instObj C s.heap.objs.size)).get? (s.heap.objs.size+1)=_s (W.instObj C s.heap.objs.size):=by have:=D3 (s.heap.push W.emptyDict) (o:=W.instObj C s.heap.objs.size) rfl;rwa [J6]at this
  have g:(s.heap.push W.emptyDict).Ns s.heap.objs.size (λ_=>_n):=⟨W.emptyDict,#[],_,c,rfl,(λe he=>absurd he (by simp)),λ_=>rfl⟩;have k:=I.laid (a:=s.heap.objs.size) (o:=.own (s.heap.objs.size+1)) (h':=s.heap.push W.emptyDict) (t':=s.toks) (λb u q=>A4 _ q) (C4 _) ⟨_,c⟩;refine k.laid (a:=s.heap.objs.size+1) (o:=.ins C s.heap.objs.size []) (t':=s.toks) (λb u q=>A4 _ q) (u5 (J6 _ _)) ?_;have ne:s.heap.objs.size≠s.heap.objs.size+1:=D6 (T9 _);refine⟨by rw[AC ne,AG],G8 _,ne,j,λ_=>_n,(wU g).at λo q=>A4 _ q,λ_=>True.intro,λy d=>absurd rfl d⟩
theorem Sn{prog:E8}{w:G7}{env:Env}{f:Str}{pos:Pos}{s:A5}{Q:_v->A5->Prop}(d:N0 e f env (L8 e env)=L8 e env)
    (h:B4 (C7 prog w) A (L8 e env) (λo c=>B4 (C7 prog w) A (xl o f _t) Q E c) E s):B4 (C7 prog w) A (L8 (.Attribute e f pos) env) Q E s:=
  Attribute_any_ h (by rw[arm_eval_Attribute,d])
end
def MG(K:W.Frag)(ta:TE)(f:Str):TE:=λσ H Q=>ta σ H λx c=>∃a C dx fs v,x=.ref a/\c a=_s (.ins C dx fs)/\Cls K C/\Em K C f/\fs.lookup f=_s v/\Q v c
def nC(K:W.Frag)(ta d:TE)(f:Str):TS:=λD σ H=>d σ H λy g=>ta σ g λx c=>∃a C dx fs,x=.ref a/\c a=_s (.ins C dx fs)/\Cls K C/\Em K C f/\fs.length < 1000 /\
 D.nx σ (upd c a (.ins C dx (Ed f y fs)))
section
variable{X:Cx}{o e value:Expr}{f:Str}{pos pos' zAK:Pos}{ta tv:TE}
theorem MW(j:PE X e ta)(k:N0 e f X.env (L8 e X.env)=L8 e X.env):PE X (.Attribute e f pos) (MG X.K ta f):=by intro pins s σ H Q I h;refine Sn k (Ai (j pins s σ H _ I h) λu s1 ⟨x,y,t,d,a,C,dx,fs,v,ex,m,c,n,l,q⟩=>?_);subst ex;obtain rfl:u=D4 a:=d;exact QS t m c n l λz s2 p g=>⟨v,y,p,g,q⟩
theorem iq(ha:PE X o ta)(m:PE X value tv)(p:O0 value (_s (.Attribute o f pos')) pos.line X.env=pure _f):PS X (.Assign [.Attribute o f pos'] value pos) (nC X.K ta tv f):=by intro pins s σ H D I h;refine a6 (Ai (m pins s σ H _ I h) λu s1 ⟨y,G,F,d,q⟩=>Ai (ha pins s1 σ G _ F q) λk s2 ⟨x,L,B,g,a,C,dx,fs,ex,t,c,n,l,j⟩=>?_) p;subst ex;obtain rfl:k=D4 a:=g;exact Pf B t c n l d λJ z=>⟨σ,_,z,j⟩
end
section
variable{X:Cx}{pins:List (A8×Obj)}{σ:St}{H:Hp}{s:A5}{A:G3}{E:_v->A5->Prop}{Q:_v->A5->Prop}{c:_v}{b:Bool}
inductive zAU (K:W.Frag) (H:Hp):V->_v->Prop where
  |yw:zAU K H .yw (.type "NoneType")
  |bl (x:Bool):zAU K H (.bl x) (.type "bool")
  |int (i:Int):zAU K H (.int i) (.type "int")
  |str (x:Str):zAU K H (.str x) (.type "str")
  |flt (x:UInt64):zAU K H (.flt x) (.type "float")
  |lst {a:A8} {xs:List V} (e:H a=_s (.lst xs)):zAU K H (.ref a) (.type "list")
  |frz {a:A8} {o:Obj} {xs:List V} (e:H a=_s (.frz o (.lst xs))):zAU K H (.ref a) (.type "list")
  |tup {a:A8} {xs:List V} (e:H a=_s (.tup xs)):zAU K H (.ref a) (.type "tuple")
  |dK {a:A8} {y7:List (BY×V)} (e:H a=_s (.dK y7)):zAU K H (.ref a) (.type "dict")
  |dT {a:A8} {y7:List (List BY×V)} (e:H a=_s (.dT y7)):zAU K H (.ref a) (.type "dict")
  | ins {a C dx:A8} {fs:List (Str×V)} (e:H a=_s (.ins C dx fs)) (cl:Cls K C) (ha:W.findIn K (.ref C) "__class__" = _s (_s (.builtin "object.__class__")))
      (hn:W.specialIn K (.builtin "object.__class__") "__get__" = _s (_s (.builtin "getset_descriptor.__get__"))) (htk:W.takesIn K (.builtin "object.__class__")=_s _t)
      (hm:W.mroIn K C (.type "object")=_s _t):zAU K H (.ref a) (.ref C)
theorem UN{x:V}{t:_v}(I:Inv X pins σ H s)(d:RelV x u)(ty:zAU X.K H x t)(e:W.kitOne X.K t c=_s b)(h:∀j,Q (.bool b) {s with toks:=j}) :
    B4 (C7 X.prog X.w) A (call (.builtin "isinstance") [u,c]) Q E s:=by
  cases ty with|yw=>cases(show u=K6 from d);exact W.kia_one W.kitx_none I.zx True.intro e (λz=>nomatch z) h|bl y=>cases(show u=v8 y from d);exact W.kia_one W.kitx_bool I.zx True.intro e (λz=>nomatch z) h|int i=>obtain⟨t,q⟩:=(show ∃t,u=vf i t from d);cases q;exact W.kia_one W.kitx_int I.zx True.intro e (λz=>nomatch z) h|str y=>obtain⟨t,q⟩:=(show ∃t,u=vg y t from d);cases q;exact W.kia_one W.kitx_str I.zx True.intro e (λz=>nomatch z) h|flt y=>obtain⟨t,q⟩:=(show ∃t,u=xP y t from d);cases q;exact W.kia_one W.kitx_float I.zx True.intro e (λz=>nomatch z) h|@lst a xs g=>cases(show u=D4 a from d);obtain⟨_,_,n,_,h1⟩:=(show An X.prog X.w H s.heap a (.lst xs)from I.y8 a _ g);exact W.kia_one W.kitx_list I.zx ⟨_,h1,rfl⟩ e (λz=>nomatch z) h|@frz a ob xs g=>cases(show u=D4 a from d);obtain⟨_,_,_,n,_,h1⟩:=(show An X.prog X.w H s.heap a (.frz ob (.lst xs))from I.y8 a _ g);exact W.kia_one W.kitx_list I.zx ⟨_,h1,rfl⟩ e (λz=>nomatch z) h|@tup a xs g=>cases(show u=D4 a from d);obtain⟨_,_,_,p⟩:=(show An X.prog X.w H s.heap a (.tup xs)from I.y8 a _ g);obtain⟨o,h1,h2,_⟩:=p;exact W.kia_one W.kitx_tuple I.zx ⟨o,h1,h2⟩ e (λz=>nomatch z) h|@dK a y7 g=>cases(show u=D4 a from d);obtain⟨_,_,vs,_,p⟩:=(show An X.prog X.w H s.heap a (.dK y7)from I.y8 a _ g);obtain⟨o,es,k,h1,h2,_⟩:=p;exact W.kia_one W.kitx_dict I.zx ⟨o,h1,h2.1⟩ e (λz=>nomatch z) h|@dT a y7 g=>cases(show u=D4 a from d);obtain⟨_,_,xs,_,o,es,k,h1,h2,_⟩:=(show An X.prog X.w H s.heap a (.dT y7)from I.y8 a _ g);exact W.kia_one W.kitx_dict I.zx ⟨o,h1,h2.1⟩ e (λz=>nomatch z) h|@ins a C dx fs g cl ha hn htk hm=>cases(show u=D4 a from d);obtain⟨mA,O,_⟩:=IS I.y8 g;obtain⟨od,J,_⟩:=O.look;exact W.kia_one (W.kitx_own (cl.get _) cl.hd ha hn htk hm) I.zx J e (λz=>nomatch z) h
end
structure y9 (k:Nat) (A:G3):Prop where
 hd:A.handled=_n
 dp:A.depth+3 * k+5 < recursionLimit
 un:A.units+16 * k+200 < O5
 gd:A.guards=_s []
variable{k:Nat}
theorem y9.mono{j:Nat}(r:y9 k A)(h:j<=k):y9 j A:=⟨r.hd,by have:=r.dp;omega,by have:=r.un;omega,r.gd⟩
theorem y9.deeper(r:y9 (k+1) A)(env:Env):y9 k (A.deeper env):=
 ⟨r.hd,by have:=r.dp;show A.depth+1+3 * k+5 < _;omega,by have:=r.un;show A.units+3+16 * k+200 < _;omega,r.gd⟩
theorem QN{c:List (Str×_v)}:(A.under (.builtin "type.__call__" ⟨.ref C::us,c⟩)).depth=A.depth+1:=by first|rfl|simp[k9,Code.weight,Code.isCreation,wV,Code.isCaller,yf,wW,guardIds]
theorem QM{c:List (Str×_v)}:(A.under (.builtin "type.__call__" ⟨.ref C::us,c⟩)).units=A.units+1:=by first|rfl|simp[k9,Code.cUnits,yf,wW]
theorem y9.make(r:y9 (k+1) A)(C:A8)(us:List _v)(kw:List (Str×_v)):y9 k (A.under (.builtin "type.__call__" ⟨.ref C::us,kw⟩)):=
 ⟨r.hd,by have:=r.dp;rw[QN];omega,by have:=r.un;rw[QM];omega,by
 have e:(A.under (.builtin "type.__call__" ⟨.ref C::us,kw⟩)).guards=A.guards:=by first|rfl|(simp only[k9,yg,wV];cases A.guards<;>simp[pushGuards,guardIds])|simp[k9,yg,wV,guardIds,pushGuards]
 rw[e];exact r.gd⟩
theorem y9.depth(r:y9 k A):A.depth < recursionLimit:=by have:=r.dp;omega
abbrev TJ:TA:=λ_ H Q=>Q [] H
abbrev eS(ta:TE)(tr:TA):TA:=λσ H Q=>ta σ H λx d=>tr σ d λxs c=>Q (x::xs) c
section
variable{X:Cx}{e:Expr}{es:List Expr}{te:TE}{t:TA}{pos:Pos}
theorem MY:PA X [] TJ:=λ_ _ _ _ H Q I h=>Calls.spliced_nil ⟨[],H,I,.nil,h⟩
theorem CL(ha:PE X e te)(m:PA X es t)(l:D7 (e::es) X.env=(_f,L8 e X.env)::D7 es X.env:=by rfl):PA X (e::es) (eS te t):=by intro pos pins s σ H Q I h;rw[l];show B4 _ _ (spliced ((_f,L8 e X.env)::P8 pos (D7 es X.env))) _ _ s;refine Calls.spliced_cons (Ai (ha pins s σ H _ I h) λu s1 ⟨x,y,p,d,j⟩=>?_);exact Ai (m pos pins s1 σ y _ p j) λus s2 ⟨xs,q,n,c,g⟩=>⟨x::xs,q,n,.cons d c,g⟩
abbrev rJ(t:TA):TE:=λσ H Q=>t σ H λxs c=>xs.length<=sizeLine/\∀p,c p=_n->Q (.ref p) (upd c p (.tup xs))
abbrev rN(t:TA):TE:=λσ H Q=>t σ H λxs c=>xs.length<=sizeLine/\∀p,c p=_n->Q (.ref p) (upd c p (.lst xs))
theorem Wq{x1}(h:PA X es t):PE X (.Tuple es x1 pos) (rJ t):=by intro pins s σ H Q I g;refine wpAny_Tuple_spliced (Ai (h pos pins s σ H _ I g) λus s1 ⟨xs,d,c,r,z,q⟩=>⟨by rw[<- r.length];exact z,?_⟩);have j:d s1.heap.objs.size=none:=c.y8.fresh (C4 _);refine⟨.ref s1.heap.objs.size,upd d s1.heap.objs.size (.tup xs),c.laid (t':=s1.toks) (λb u e=>A4 _ e) (C4 _) ?_,rfl,q _ j⟩;exact⟨z,us,r,⟨_,D3 _ rfl,rfl,rfl,_,rfl⟩⟩
theorem jJ(h:PA X es t):PE X (.List es pos) (rN t):=by intro pins s σ H Q I g;refine wpAny_List_spliced (Ai (h pos pins s σ H _ I g) λus s1 ⟨xs,d,c,r,z,q⟩=>⟨by rw[<- r.length];exact z,?_⟩);have j:d s1.heap.objs.size=none:=c.y8.fresh (C4 _);refine⟨.ref s1.heap.objs.size,upd d s1.heap.objs.size (.lst xs),c.laid (t':=s1.toks) (λb u e=>A4 _ e) (C4 _) ?_,rfl,q _ j⟩;exact⟨z,us,0,r,D3 _ rfl⟩
end
abbrev Sp:=List V->Hp->VK->XK->Prop
abbrev VM:=List Env->Hp->A5->XK->_v->A5->Prop
structure zBj (P:E8) (w:G7) (K:W.Frag) (mg:Str->Option _v) (base:G2) (A:G3) (outer:List Env) (s:A5) (H:Hp):Prop where
 frames:A.frames=_s outer
 mod:Mod K mg base
 bs:∀b o,base.get? b=_s o->s.heap.get? b=_s o/\H b=_n
 bsz:base.objs.size<=s.heap.objs.size
 zAT:s.heap.FunFrames base outer
 frf:∀b∈IT outer,H b=_n
 y8:EM P w H s.heap
 bare:k8 s.gens
def CE(outer:List Env)(P:E8)(w:G7)(H:Hp)(s:A5)(Q:VK)(u:_v)(s':A5):Prop:=
 ∃v H',s'.os=s.os/\k8 s'.gens/\Un (IT outer) [] H H' s.heap s'.heap/\EM P w H' s'.heap/\RelV v u/\Q v H'
def CR(CX:VM)(outer:List Env)(P:E8)(w:G7)(H:Hp)(s:A5)(Q:VK)(E:XK)(r:xt)(s':A5):Prop:=
 match r with
 |.ok (.ret u)=>CE outer P w H s Q u s'
 |.ok _=>False
 |.error e=>CX outer H s E e s'
structure zI (P:E8) (w:G7) (K:W.Frag) (mg:Str->Option _v) (base:G2) (CX:VM) (k:Nat) (f:A8) (fd:N1) (ps:List Str) (sp:Sp):Prop where
 len:∀vs H Q E,sp vs H Q E->vs.length=ps.length
 run:∀(A:G3)(outer:List Env)(s:A5)(H:Hp)(args:Args)(us:List _v)(vs:List V)(Q:VK)(E:XK),y9 k A->zBj P w K mg base A outer s H->wX s fd args (ps.zip us)->AI vs us->sp vs H Q E ->
  Z3 (C7 P w) A (.call (.ref f) args) (CR CX outer P w H s Q E) s
variable{mg:Str->Option _v}{base:G2}
theorem zI.imp{K:W.Frag}{CX:VM}{f:A8}{fd:N1}{ps:List Str}{sp c:Sp}(F:zI P w K mg base CX k f fd ps sp)
    (h:∀vs H Q E,c vs H Q E->sp vs H Q E):zI P w K mg base CX k f fd ps c:=
  ⟨λvs H Q E q=>F.len vs H Q E (h _ _ _ _ q),λA outer s H args us vs Q E j he l d g=>F.run A outer s H args us vs Q E j he l d (h _ _ _ _ g)⟩
theorem zBj.make{K:W.Frag}{outer:List Env}(e:zBj P w K mg base A outer s H)(C:A8)(us:List _v)(kw:List (Str×_v)) :
    zBj P w K mg base (A.under (.builtin "type.__call__" ⟨.ref C::us,kw⟩)) outer s H:=⟨by first|exact e.frames|(simpa[k9,Code.envs,wW,pushEnvs]using e.frames),e.mod,e.bs,e.bsz,e.zAT,e.frf,e.y8,e.bare⟩
section
variable{X:Cx}{pins:List (A8×Obj)}{σ:St}{H:Hp}{s s':A5}
theorem Inv.zCc(I:Inv X pins σ H s):zBj X.prog X.w X.K X.mg X.base X.A X.stack s H:=
 ⟨I.ok.frames,I.ok.mod,I.bs,D0 I.ok.bsz I.sz,I.stack,I.zAg,I.y8,I.bare⟩
theorem Inv.after{Q:VK}(I:Inv X pins σ H s)(h:CE X.stack X.prog X.w H s Q u s'):EP X pins σ Q u s':=by obtain⟨v,H',os,bare,un,y8,r,q⟩:=h;obtain⟨j,g,d,t,c⟩:=s';obtain rfl:c=s.os:=os;exact⟨v,H',I.call (h':=j) (g':=g) (d':=d) (t':=t) (ch:=[]) un y8 bare (λb z=>absurd z (by simp)),r,q⟩
end
abbrev eT(sp:Sp)(c:List V)(E:XK)(t:TA):TE:=λσ H Q=>t σ H λvs d=>sp (vs++c) d Q E
def RP(C:A8)(m:Str)(sp:Sp)(c:List V)(E:XK)(ta:TE)(t:TA):TE:=λσ H Q=>ta σ H λx d=>∃a dx fs,x=.ref a/\d a=_s (.ins C dx fs)/\fs.lookup m=_n /\
 t σ d λvs g=>sp (x::(vs++c)) g Q E
def RQ(C:A8)(sp:Sp)(c:List V)(E:XK)(t:TA):TE:=λσ H Q=>t σ H λvs d=>∀x dx,d x=_n->d dx=_n->dx≠x ->
 sp (.ref x::(vs++c)) (upd (upd d dx (.own x)) x (.ins C dx [])) (λv g=>v=.yw/\Q (.ref x) g) E
def Binds(K:W.Frag)(fd:N1)(ps:List Str)(ds:List _v):Prop:=
 ∀(s:A5)(us:List _v),K.In s.heap->(us++ds).length=ps.length->wX s fd ⟨us,[]⟩ (ps.zip (us++ds))
theorem Binds.all{K:W.Frag}{fd:N1}{ps:List Str}(h:∀us:List _v,us.length=ps.length->xu fd ⟨us,[]⟩=pure (ps.zip us)):Binds K fd ps []:=λs us _ c=>by rw[G4]at c ⊢;exact .of_eq (h us c)
def DQ(CX:VM)(X:Cx)(E:XK):Prop:=∀(pins:List (A8×Obj))(σ:St)(H:Hp)(s:A5)(e:_v)(s':A5),Inv X pins σ H s->CX X.stack H s E e s'->X.xe e s'
section
variable{X:Cx}{CX:VM}{k:Nat}{f C:A8}{fd:N1}{ps:List Str}{sp:Sp}{dvs:List V}{ds:List _v}{E:XK}{x m:Str}{p pos apos:Pos}{e o:Expr}{es:List Expr}{ta:TE}{t:TA}
theorem MQ{pins:List (A8×Obj)}{σ:St}{H:Hp}{s:A5}{Q:VK}{us:List _v}{vs:List V}(F:zI X.prog X.w X.K X.mg X.base CX k f fd ps sp)(j:y9 k X.A)(n:Binds X.K fd ps ds)(hd:AI dvs ds)(g:DQ CX X E)
    (I:Inv X pins σ H s) (r:AI vs us) (h:sp (vs++dvs) H Q E):B4 (C7 X.prog X.w) X.A (call (.ref f) us) (EP X pins σ Q) X.xe s:=by
  have d:AI (vs++dvs) (us++ds):=r.append hd;have l:(us++ds).length=ps.length:=by rw[<- d.length];exact F.len _ _ _ _ h
  refine d4 (Z4 (F.run X.A X.stack s H ⟨us,[]⟩ (us++ds) (vs++dvs) Q E j I.zCc (n s us I.zx l) d h) λr s' c=>?_);cases r with
  |error e=>exact g pins σ H s e s' I c
  |ok fl=>
    cases fl with|ret u=>exact I.after c|next=>exact D2 c|brk=>exact D2 c|cont=>exact D2 c
theorem bq(F:zI X.prog X.w X.K X.mg X.base CX k f fd ps sp)(l:y9 k X.A)(y:Gl X x)(hm:X.mg x=_s (.ref f))(n:W.keepIn X.K (.ref f)=_t)(B:Binds X.K fd ps ds)(hd:AI dvs ds)(j:DQ CX X E)
    (ha:PA X (e::es) t) (d:(x==("__debug__" : Str))=false:=by decide) (z:D7 (e::es) X.env=(_f,L8 e X.env)::D7 es X.env:=by rfl) (c:(P8 pos (D7 es X.env)).any (·.1)=false:=by rfl) :
    PE X (.Call (.Name x p) (e::es) [] pos) (eT sp dvs E t):=by
  intro pins s σ H Q I h;refine M0 (DB I y hm ?_ d);refine W.callWith_K (h₀:=X.base) I.ok.mod.kin n (Ai (ha pos pins s σ H _ I h) λus s1 ⟨vs,D,g,r,q⟩=>⟨g.zx,?_⟩) z c;exact MQ F l B hd j g r q
theorem XA(F:zI X.prog X.w X.K X.mg X.base CX k f fd ps sp)(g:y9 k X.A)(l:Gl X x)(hm:X.mg x=_s (.ref f))(j:W.keepIn X.K (.ref f)=_t)(n:Binds X.K fd ps ds)(hd:AI dvs ds)(d:DQ CX X E)
    (c:(x==("__debug__" : Str))=false:=by decide):PE X (.Call (.Name x p) [] [] pos) (eT sp dvs E TJ):=by
  intro pins s σ H Q I h;refine M0 (DB I l hm ?_ c);exact W.callWith_K0 I.zx j (MQ (us:=[]) F g n hd d I .nil h)
theorem bf{pl:Sem Bool}(J:PE X o ta)(c:Cls X.K C)(hm:Meth X.K C m f)(F:zI X.prog X.w X.K X.mg X.base CX k f fd ps sp)(G:y9 k X.A)(L:Binds X.K fd ps ds)(hd:AI dvs ds)(B:DQ CX X E)(ha:PA X (e::es) t)
    (n:D7 (e::es) X.env=(_f,L8 e X.env)::D7 es X.env:=by rfl) (d:(P8 pos (D7 es X.env)).any (·.1)=false:=by rfl)
    (D:L8 (.Call (.Attribute o m apos) (e::es) [] pos) X.env=(do
      let ov <- L8 o X.env
      vh apos.atName
      let (f,first) <- Z1 [ov] (uq ov m pl)
      xv pos f first (P8 pos (D7 (e::es) X.env)) (o6 pos (V5 [] X.env))):=by rfl) :
    PE X (.Call (.Attribute o m apos) (e::es) [] pos) (RP C m sp dvs E ta t):=by
  intro pins s σ H Q I h;refine W.methodCall_KW (pl:=pl) (Ai (J pins s σ H _ I h) λu s1 ⟨x,O,j,y,a,dx,fs,ex,N,l,q⟩=>?_) D;subst ex;obtain rfl:u=D4 a:=y;refine Fm j N c hm l ?_;refine W.callWith_K (first:=[.ref a]) (h₀:=X.base) I.ok.mod.kin hm.kp (Ai (ha pos pins s1 σ O _ j q) λus s2 ⟨vs,R,g,r,z⟩=>⟨g.zx,?_⟩) n d;exact MQ (us:=.ref a::us) (vs:=.ref a::vs) F G L hd B g (.cons rfl r) z
theorem Wt{pl:Sem Bool}(z:PE X o ta)(c:Cls X.K C)(hm:Meth X.K C m f)(F:zI X.prog X.w X.K X.mg X.base CX k f fd ps sp)(y:y9 k X.A)(B:Binds X.K fd ps ds)(hd:AI dvs ds)(j:DQ CX X E)
    (n:L8 (.Call (.Attribute o m apos) [] [] pos) X.env=(do
      let ov <- L8 o X.env
      vh apos.atName
      let (f,first) <- Z1 [ov] (uq ov m pl)
      xv pos f first (P8 pos (D7 [] X.env)) (o6 pos (V5 [] X.env))):=by rfl) :
    PE X (.Call (.Attribute o m apos) [] [] pos) (RP C m sp dvs E ta TJ):=by
  intro pins s σ H Q I h;refine W.methodCall_KW (pl:=pl) (Ai (z pins s σ H _ I h) λu s1 ⟨x,G,d,g,a,dx,fs,ex,D,l,q⟩=>?_) n;subst ex;obtain rfl:u=D4 a:=g;refine Fm d D c hm l ?_;exact W.callWith_K0 (first:=[.ref a]) d.zx hm.kp (MQ (us:=[.ref a]) (vs:=[.ref a]) F y B hd j d (.cons rfl .nil) q)
structure Mk (K:W.Frag) (C f:A8):Prop where
 makes:W.makesIn K C=_t
 init:W.findIn K (.ref C) "__init__" = _s (_s (.ref f))
 fn:W.isFn K (.ref f)=_t
 kp:W.keepIn K (.ref C)=_t
theorem Nl{pins:List (A8×Obj)}{σ:St}{H:Hp}{s:A5}{Q:VK}{us:List _v}{vs:List V}(M:Mk X.K C f)(F:zI X.prog X.w X.K X.mg X.base CX k f fd ps sp)(q:y9 (k+1) X.A)(z:Binds X.K fd ps ds)(hd:AI dvs ds)
    (n:DQ CX X E) (I:Inv X pins σ H s) (r:AI vs us)
    (h:∀x dx,H x=_n->H dx=_n->dx≠x->sp (.ref x::(vs++dvs)) (upd (upd H dx (.own x)) x (.ins C dx [])) (λv D=>v=.yw/\Q (.ref x) D) E) :
    B4 (C7 X.prog X.w) X.A (call (.ref C) us) (EP X pins σ Q) X.xe s:=by
  have j:=h (s.heap.objs.size+1) s.heap.objs.size (I.y8.fresh (Y2 _)) (I.y8.fresh (C4 _)) (D6 (T9 _));have d:=Inv.made (C:=C) I;have g:AI (V.ref (s.heap.objs.size+1)::(vs++dvs)) (D4 (s.heap.objs.size+1)::(us++ds)):=.cons rfl (r.append hd);have y:(D4 (s.heap.objs.size+1)::us++ds).length=ps.length:=by have e:=g.length;rw[F.len _ _ _ _ j]at e;exact e.symm
  refine d4 (Xa (f:=f) I.zx M.makes M.init (beq_iff_eq.mp M.fn) (Z4 (F.run _ X.stack _ _ ⟨D4 (s.heap.objs.size+1)::us,[]⟩ (D4 (s.heap.objs.size+1)::(us++ds)) _ _ E (q.make C us [])
    (d.zCc.make C us []) (z _ (D4 (s.heap.objs.size+1)::us) d.zx y) g j) λr s' c=>?_))
  cases r with
  |error e=>exact n pins σ _ _ e s' d c
  |ok fl=>
    cases fl with|ret u=>obtain⟨v,H',B,rv,ev,l⟩:=d.after c;subst ev;exact⟨rv,⟨V.ref (s.heap.objs.size+1),H',B,rfl,l⟩⟩|next=>exact D2 c|brk=>exact D2 c|cont=>exact D2 c
theorem bj(M:Mk X.K C f)(F:zI X.prog X.w X.K X.mg X.base CX k f fd ps sp)(l:y9 (k+1) X.A)(n:Gl X x)(hm:X.mg x=_s (.ref C))(z:Binds X.K fd ps ds)(hd:AI dvs ds)(j:DQ CX X E)
    (ha:PA X (e::es) t) (d:(x==("__debug__" : Str))=false:=by decide) (y:D7 (e::es) X.env=(_f,L8 e X.env)::D7 es X.env:=by rfl) (c:(P8 pos (D7 es X.env)).any (·.1)=false:=by rfl) :
    PE X (.Call (.Name x p) (e::es) [] pos) (RQ C sp dvs E t):=by
  intro pins s σ H Q I h;refine M0 (DB I n hm ?_ d);refine W.callWith_K (h₀:=X.base) I.ok.mod.kin M.kp (Ai (ha pos pins s σ H _ I h) λus s1 ⟨vs,B,g,r,q⟩=>⟨g.zx,?_⟩) y c;exact Nl M F l z hd j g r q
theorem Wu(M:Mk X.K C f)(F:zI X.prog X.w X.K X.mg X.base CX k f fd ps sp)(g:y9 (k+1) X.A)(j:Gl X x)(hm:X.mg x=_s (.ref C))(l:Binds X.K fd ps ds)(hd:AI dvs ds)(d:DQ CX X E)
    (c:(x==("__debug__" : Str))=false:=by decide):PE X (.Call (.Name x p) [] [] pos) (RQ C sp dvs E TJ):=by
  intro pins s σ H Q I h;refine M0 (DB I j hm ?_ c);exact W.callWith_K0 I.zx M.kp (Nl (us:=[]) M F g l hd d I .nil h)
end
structure zp (N P:List Str) (sc:M4):Prop where
 kind:sc.kind=.function
 co:sc.isCoroutine=_f
 gen:sc.isGenerator=_f
 nd:N.Nodup
 pre:N.take P.length=P
 par:∀x∈P,sc.names.lookup x=_s .local\/sc.names.lookup x=_s .cell
 zCy:∀y∈sc.names,y.2≠.free
theorem Lr{kindOf:Str->Option NameKind}{x:Str}:∀{binds:List (Str×_v)}{m:Str->Option _v},(∀v,(x,v)∉binds)->xw kindOf binds m x=m x
 |[],_,_=>rfl
 |(n,v)::r,m,h=>by
  unfold xw;rw[Lr λw c=>h w (B1 _ c)];split;have:x≠n:=by rintro rfl;exact h v B2
  simp[this];rfl
theorem Lu{kindOf:Str->Option NameKind}{x:Str}:∀{binds:List (Str×_v)}{m:Str->Option _v},(∀v,(x,v)∉binds)->xx kindOf binds m x=m x
 |[],_,_=>rfl
 |(n,v)::r,m,h=>by
  unfold xx;rw[Lu λw c=>h w (B1 _ c)];split;rfl;have:x≠n:=by rintro rfl;exact h v B2
  simp[this]
theorem Ls{kindOf:Str->Option NameKind}{v:_v}:∀{P:List Str}{vs:List _v}{i:Nat}{m:Str->Option _v},P.Nodup->P[i]?=_s x->vs[i]?=_s v->kindOf x=_s .local ->
    xw kindOf (P.zip vs) m x=_s v
  |[],_,_,_,_,h,_,_=>by simp at h
  |_::_,[],_,_,_,_,h,_=>by simp at h
  |p::P,w::vs,0,m,nd,h1,h2,c=>by simp at h1 h2;subst h1;subst h2;show xw kindOf ((p,w)::P.zip vs) m p=_;unfold xw;rw[Lr λv d=>(X4.mp nd).1 (vI d).1,if_pos c];simp
  |p::P,w::vs,i+1,m,nd,h1,h2,c=>by show xw kindOf ((p,w)::P.zip vs) m x=_;unfold xw;exact Ls (i:=i) (X4.mp nd).2 (by simpa using h1) (by simpa using h2) c
theorem Lv{kindOf:Str->Option NameKind}{v:_v}:∀{P:List Str}{vs:List _v}{i:Nat}{m:Str->Option _v},P.Nodup->P[i]?=_s x->vs[i]?=_s v->kindOf x≠_s .local ->
    xx kindOf (P.zip vs) m x=_s v
  |[],_,_,_,_,h,_,_=>by simp at h
  |_::_,[],_,_,_,_,h,_=>by simp at h
  |p::P,w::vs,0,m,nd,h1,h2,c=>by simp at h1 h2;subst h1;subst h2;show xx kindOf ((p,w)::P.zip vs) m p=_;unfold xx;rw[Lu λv d=>(X4.mp nd).1 (vI d).1,if_neg c];simp
  |p::P,w::vs,i+1,m,nd,h1,h2,c=>by show xx kindOf ((p,w)::P.zip vs) m x=_;unfold xx;exact Lv (i:=i) (X4.mp nd).2 (by simpa using h1) (by simpa using h2) c
def start(N:List Str)(vs:List V):St:=vs.map _s++C5 (N.length-vs.length) _n
def Dh(CX:VM)(P:E8)(w:G7)(K:W.Frag)(mg:Str->Option _v)(base:G2)(N:List Str)(qual:Str)(scope:M4)(f:A8)(d:_v)(A:G3)(outer:List Env)(s:A5)(H:Hp)(E:XK):Cx where
 prog:=P
 w:=w
 K:=K
 mg:=mg
 base:=base
 A:=A.deeper (vS qual scope s.heap.objs.size f d)
 N:=N
 zQ:=s
 H₀:=H
 env:=vS qual scope s.heap.objs.size f d
 outer:=outer
 stack:=vS qual scope s.heap.objs.size f d::outer
 ex:=[]
 calm:=_t
 fn:=λ_=>_t
 pn:=[]
 xe:=λe s'=>B4 (C7 P w) (A.deeper (vS qual scope s.heap.objs.size f d)) (leaving (vS qual scope s.heap.objs.size f d) e) (λ_ c=>CX outer H s E e c) (λg c=>CX outer H s E g c) s'
theorem On{sc:M4}{n:Nat}(h:sc.names.lookup x=_s .cell):∃c,(N5 n sc.names []).lookup x=_s c:=by have q:=W.cellsFrom_some sc.names n [] (.inl h);exact O8.mp q
theorem UP{CX:VM}{P:E8}{w:G7}{K:W.Frag}{mg:Str->Option _v}{base:G2}{N ps:List Str}{qual:Str}{scope:M4}{f:A8}{m:_v}{A:G3}{outer:List Env}{s s1:A5}{H:Hp}{E:XK}{us:List _v}{vs:List V}
    (S:zp N ps scope) (hd:A.handled=_n) (d:zBj P w K mg base A outer s H) (G:vs.length=ps.length) (r:AI vs us)
    (x:InCallC s s.heap.objs.size (xw (vS qual scope s.heap.objs.size f m).kindOf (ps.zip us) λ_=>_n) (N5 (s.heap.objs.size+1) scope.names []) (xx (vS qual scope s.heap.objs.size f m).kindOf (ps.zip us) λ_=>_n) s1) :
    Inv (Dh CX P w K mg base N qual scope f m A outer s H E) [] (start N vs) H s1:=by
  have D:ps.length<=N.length:=by have:=congrArg Y3 S.pre;rw[U0]at this;omega
  obtain⟨h1,F,rfl,B⟩:=x.done;have g:∀b:A8,b∉(Dh CX P w K mg base N qual scope f m A outer s H E).ex:=λb z=>absurd (show b∈([]:List A8)from z) (by simp);refine⟨⟨d.mod,S.kind,rfl,rfl,C4 _,λy z c h1 h2=>?_,λy j=>?_,λy c _ h=>?_,λ_=>hd,Around.frames_deeper d.frames,.inr ⟨rfl,rfl⟩,λb z=>absurd z (g b),d.bs,d.bsz,λb _ _=>g b,λb z=>absurd z (g b),d.zAT,d.frf⟩,
    rfl,d.bare,Un.kept B,⟨_,x.toInCall.ns,λi y v h1 h2 h3=>?_⟩,λy c h=>⟨_,x.cell y c h⟩,d.y8.fresh (C4 _),λy c h=>?_,λp hp=>absurd (show p∈([]:List (A8×Obj))from hp) (by simp),d.y8.kept B,?_⟩
  exact name_of_addr x.apart (G1 h1) (G1 h2);have j:scope.names.lookup y=_s .cell\/scope.names.lookup y=_s .free:=j;rcases j with j|j
  exact On j;exact absurd rfl (S.zCy _ (G1 j));exact wM (x.above y c (G1 h));have hi:i < vs.length:=by unfold start at h2;by_cases hi:i < vs.length;exact hi;rw[V6 (by simpa using hi)]at h2;rw[ur]at h2;split at h2<;>cases h2
  have ha:vs[i]?=_s v:=by
    unfold start at h2;rw[F9 (by simpa using hi),C8]at h2;cases e:vs[i]? with|none=>rw[e]at h2;cases h2|some a=>rw[e]at h2;cases h2;rfl
  obtain⟨u,t,rv⟩:=r.get ha;have hp:ps[i]?=_s y:=by rw[<- S.pre,ue (by omega)];exact h1
  have l:ps.Nodup:=by rw[<- S.pre];exact S.nd.sublist (wY _ _)
  refine⟨u,rv,?_⟩;rcases S.par y (K5 hp)with k|k
  exact .inl ⟨k,Ls l hp t k⟩;obtain⟨c,e⟩:=On (n:=s.heap.objs.size+1) k;refine .inr ⟨.inl k,c,e,?_⟩;have q:=x.cell y c e;rw[Lv l hp t (by show scope.names.lookup y≠_;rw[k];decide)]at q;exact q;exact d.y8.fresh (wM (x.above y c (G1 h)));unfold start;show _=N.length;rw[F0,B9,List.length_replicate];omega
theorem zBt{CX:VM}{P:E8}{w:G7}{K:W.Frag}{mg:Str->Option _v}{base:G2}{k:Nat}{f:A8}{name qual:Str}{c:Arguments}{body:List G5}{scope:M4}{F kV doc pm zV ct oc:_v}{an od:Option A8}
    {osl:Array (Option _v)} {N ps:List Str} {sp:Sp} (lk:K.lookup f=_s ⟨oc,od,.func (W.fnOf name qual c body scope F kV doc pm an zV ct),osl⟩) (D:W.codeIn K zV qual=_t) (S:zp N ps scope)
    (len:∀vs H Q E,sp vs H Q E->vs.length=ps.length)
    (p:∀(A:G3)(outer:List Env)(s:A5)(H:Hp)(vs:List V)(Q:VK)(E:XK),y9 k (A.deeper (vS qual scope s.heap.objs.size f zV))->sp vs H Q E ->
      ∃t,Cu (Dh CX P w K mg base N qual scope f zV A outer s H E) body t/\t {nx:=λ_ H'=>Q .yw H',rt:=Q} (start N vs) H) :
    zI P w K mg base CX (k+1) f (W.fnOf name qual c body scope F kV doc pm an zV ct) ps sp:=by
  refine⟨len,λA outer s H args us vs Q E B l Y r g=>?_⟩;have T:=len _ _ _ _ g;have G:K.In s.heap:=l.mod.kin.keeps λb o e=>(l.bs b o e).1;have z:s.heap.NoLimit:=l.mod.nolimit.keeps λb o e=>(l.bs b o e).1;have m:∀y∈ps.zip us,scope.names.lookup y.1=_s .local\/(scope.names.lookup y.1=_s .cell/\((N5 (s.heap.objs.size+1) scope.names []).lookup y.1).isSome=_t):=fun⟨n,v⟩ L=>by
    rcases S.par n (vI L).1 with q|q
    exact .inl q;exact .inr ⟨q,W.cellsFrom_some _ _ _ (.inl q)⟩
  refine codeAny_call_function B.depth (G _ _ lk) rfl S.co S.gen rfl (W.codeRec_of G D) (Y _ _ _ _ ?_);refine wpAny_newFunctionEnv_cells S.kind m λenv U s1 x=>?_;subst U;refine⟨z.keeps x.toInCall.keep,codeAny_func ?_⟩;obtain⟨t,O,R⟩:=p A outer s H vs Q E (B.deeper _) g;have I:Inv (Dh CX P w K mg base N qual scope f zV A outer s H E) [] (start N vs) H s1:=UP S B.hd l T r x;refine J4 (O [] s1 (start N vs) H _ I R) (λfl s' d=>?_) λe s' d=>d;have j:∀{σ':St}{H':Hp}{v:V}{u:_v},Inv (Dh CX P w K mg base N qual scope f zV A outer s H E) [] σ' H' s'->RelV v u->Q v H'->CE outer P w H s Q u s':=
    fun{σ' H' v u} J rv q=>⟨v,H',J.os,J.bare,J.base,J.y8,rv,q⟩
  cases fl with|ret u=>obtain⟨v,σ',H',J,rv,q⟩:=d;exact j J rv q|next=>obtain⟨σ',H',J,q⟩:=d;exact j (v:=V.yw) (u:=K6) J rfl q|brk=>obtain⟨_,_,_,q⟩:=d;exact D2 q|cont=>obtain⟨_,_,_,q⟩:=d;exact D2 q
section
variable{X:Cx}{x:Str}{p pos:Pos}{e:Expr}{es:List Expr}{t:TA}{id T:String}{r:List V->Hp->VK->Prop}
abbrev tM(r:List V->Hp->VK->Prop)(t:TA):TE:=λσ H Q=>t σ H λvs c=>r vs c Q
theorem Wz(hc:Bb X (.builtin id) r)(m:Gl X x)(hm:X.mg x=_n)(l:S6 x=_s (.builtin id))(ha:PA X (e::es) t)(hn:x ≠ "__name__" := by decide)(d:(x==("__debug__" : Str))=false:=by decide)
    (n:D7 (e::es) X.env=(_f,L8 e X.env)::D7 es X.env:=by rfl) (c:(P8 pos (D7 es X.env)).any (·.1)=false:=by rfl):PE X (.Call (.Name x p) (e::es) [] pos) (tM r t):=by
  intro pins s σ H Q I h;refine M0 (Ef I m hm l ?_ hn d);exact w9 (Ai (ha pos pins s σ H _ I h) λus s1 ⟨vs,y,q,g,j⟩=>hc pins s1 σ y vs us Q q g j) n c
theorem Ti(hc:Bb X (.type T) r)(m:Gl X x)(hm:X.mg x=_n)(l:S6 x=_s (.type T))(ha:PA X (e::es) t)(hn:x ≠ "__name__" := by decide)(d:(x==("__debug__" : Str))=false:=by decide)
    (n:D7 (e::es) X.env=(_f,L8 e X.env)::D7 es X.env:=by rfl) (c:(P8 pos (D7 es X.env)).any (·.1)=false:=by rfl):PE X (.Call (.Name x p) (e::es) [] pos) (tM r t):=by
  intro pins s σ H Q I h;refine M0 (Ef I m hm l ?_ hn d);exact N8 (Ai (ha pos pins s σ H _ I h) λus s1 ⟨vs,y,q,g,j⟩=>hc pins s1 σ y vs us Q q g j) n c
end
end L2
namespace HT
open PySem PyProof.Rows
noncomputable def oq:List Int->List Int->Bool
 |[],[]=>_f
 |[],_::_=>_t
 |_::_,[]=>_f
 |x::xs,y::ys=>if x=y then oq xs ys else decide (x < y)
section
open PySem.SeqAt
open PySem.AutoSeq1 (wpAny_loadPart')
open PySem.MeetsSeq PySem.MeetsSeq2 PySem.MeetsSeq3
end
section
variable{prog:E8}{w:G7}{A:G3}{E:_v->A5->Prop}{s:A5}
theorem zCe{t b:A8}{vs ws:List _v}{Q:_v->A5->Prop}(m:IsTup s.heap t vs.toArray)(o:IsTup s.heap b ws.toArray)(k:vs≠[])
    (h1:ws=[]->Q (.ref t) s) (h2:ws≠[]->Q (.ref s.heap.objs.size) {s with heap:=s.heap.push {cls:=.type "tuple", data:=.seq (vs++ws).toArray} })
    (hsz:vs.length+ws.length<=sizeLine):B4 (C7 prog w) A (binaryOp .Add (.ref t) (.ref b)) Q E s:=by
  obtain⟨⟨cls,dd,data,sl⟩,i,hc,n,hd⟩:=id m;obtain⟨⟨l,g,data2,c⟩,a,f,j,d⟩:=id o;simp only at hc hd f d;subst hc hd f d;have e:vs.toArray++ws.toArray=(vs++ws).toArray:=by simp
  by_cases h:ws=[];exact wZ ⟨_,i,rfl⟩ ⟨_,a,rfl⟩ uu vv Z5 Y4 (X0 _ _)
    (tuple_addW1 t b vs.toArray ws.toArray n j dd g sl c (by simpa using k) (by simp[h])) ⟨i,a,h1 h⟩
  refine wZ ⟨_,i,rfl⟩ ⟨_,a,rfl⟩ uu vv Z5 Y4 (X0 _ _)
    (tuple_addW2 t b vs.toArray ws.toArray n j dd g sl c (by simpa using k) (by simpa using h) (by rw[B0,B0];exact hsz)) ⟨i,a,?_⟩
  rw[e];exact h2 h
noncomputable def zD(n d:Nat):Option Int->Nat
 |none=>d
 |some v=>if v < 0 then(v+(n:Int)).toNat else min v.toNat n
theorem zBa(n d:Nat)(hd:d<=n)(o:Option Int):zD n d o<=n:=by
 cases o with|none=>exact hd|some v=>show(if v < 0 then(v+(n:Int)).toNat else min v.toNat n)<=n;by_cases a:v < 0;rw[if_pos a];omega;rw[if_neg a];exact Nat.min_le_right _ _
theorem Sd(v:Int)(n d:Nat):(if v < 0 then max (v+(n:Int)) 0 else min v (n:Int))=((zD n d (_s v):Nat):Int):=by show(if v < 0 then max (v+(n:Int)) 0 else min v (n:Int))=(((if v < 0 then(v+(n:Int)).toNat else min v.toNat n):Nat):Int);by_cases a:v < 0;simp only[if_pos a];omega;simp only[if_neg a];omega
theorem Qv(lo hi:Option Int)(n:Nat):W3 lo hi 1 (n:Int)=(((zD n 0 lo:Nat):Int),((zD n n hi:Nat):Int)):=by
 have h1:¬((1:Int) < 0):=by omega
 unfold W3;simp only[h1,if_false];refine Prod.ext ?_ ?_;cases lo with|none=>rfl|some v=>exact Sd v n 0
 cases hi with|none=>rfl|some v=>exact Sd v n n
theorem Py(i j:Nat):S0 (i:Int) (j:Int) 1=j-i:=by
 unfold S0;have h1:(1:Int) > 0:=by omega
 simp only[h1,if_true,Int.ediv_one];split<;>omega
theorem Iy{v:_v}{o:Option Int}{Q:Option Int->A5->Prop}(p:wB v o)(h:Q o s):B4 (C7 prog w) A (xX v) Q E s:=by
 cases p with|none=>exact slicePart_none h|int i t=>exact slicePart_int h
theorem zq{sl:A8}{d c:_v}{lo hi:Option Int}{n:Nat}{Q:Int×Int×Nat->A5->Prop}(f:s.heap.IsSliceOf sl d c .none)(pl:wB d lo)(e:wB c hi)
    (h:Q (((zD n 0 lo:Nat):Int),1,zD n n hi-zD n 0 lo) s):B4 (C7 prog w) A (o7 (.ref sl) (pure (n:Int))) Q E s:=by
  obtain⟨os,a,g,b⟩:=id f;unfold o7 yG;refine A1 (A1 (H9 a b (x:=d) rfl (A1 (H9 a b (x:=c) rfl (A1 (H9 a b (x:=.none) rfl (A6 ?_)))))));refine A1 (slicePart_none ?_);show B4 _ _ (if((1:Int)==0)=_t then _ else _) _ _ s;rw[if_neg (by decide)];refine A1 (Iy pl (A1 (Iy e (A1 (A6 ?_)))));show B4 _ _ (match W3 lo hi 1 (n:Int)with|(lo,hi)=>pure (lo,(1:Int),S0 lo hi 1)) _ _ s;rw[Qv lo hi n];show B4 _ _ (pure (((zD n 0 lo:Nat):Int),(1:Int),S0 ((zD n 0 lo:Nat):Int) ((zD n n hi:Nat):Int) 1)) _ _ s;rw[Py];exact A6 h
theorem Wi(xs:Array _v)(i k:Nat):((B6 k).filterMap fun(m:Nat)=>xs[((i:Int)+(m:Int) * 1).toNat]?).toArray=((xs.toList.drop i).take k).toArray:=by
 have e:(fun(m:Nat)=>xs[((i:Int)+(m:Int) * 1).toNat]?)=λm=>xs[i+m]?:=by
  funext m;have:((i:Int)+(m:Int) * 1).toNat=i+m:=by omega
  rw[this]
 rw[e];have:=pick_run xs i k;rw[wC]at this;have a:((λx=>xs[x]?)∘λx=>i+x)=λm=>xs[i+m]?:=rfl;rw[a]at this;rw[this]
theorem zAS{t sl:A8}{items:Array _v}{i g:_v}{lo hi:Option Int}{Q:_v->A5->Prop}(b:IsTup s.heap t items)(j:s.heap.IsSliceOf sl i g .none)(pl:wB i lo)(k:wB g hi)
    (l:¬(zD items.size 0 lo=0/\zD items.size items.size hi=items.size))
    (h:Q (.ref s.heap.objs.size) {s with heap:=s.heap.push {cls:=.type "tuple", data:=.seq ((items.toList.drop (zD items.size 0 lo)).take (zD items.size items.size hi-zD items.size 0 lo)).toArray} })
    (hsz:items.size<=sizeLine):B4 (C7 prog w) A (wa (.ref t) (.ref sl)) Q E s:=by
  have a:sizeOk (.seq ((items.toList.drop (zD items.size 0 lo)).take (zD items.size items.size hi-zD items.size 0 lo)).toArray):=by show((items.toList.drop (zD items.size 0 lo)).take (zD items.size items.size hi-zD items.size 0 lo)).toArray.size<=sizeLine;rw[B0,U0,d5,I9];omega
  have r:zD items.size items.size hi<=items.size:=zBa _ _ (C4 _) hi;obtain⟨os,c,e,n⟩:=id j;have f:s.TypeIs (.ref sl) "slice" := ⟨os,c,e⟩;unfold wa
  try with_reducible refine J8 ?_
  first|refine A1 (A6 ?_)|skip
  refine A1 (wb b.typeIs (by decide) ?_);refine A1 (N6 (name:=Z6 "__getitem__") b.typeIs J9
    (N4 J9 b.typeIs vm ?_ (wD _ _)))
  show B4 _ _ (V3 (.ref t) >>= _) _ _ s;refine A1 (tupleItemsOf_ b ?_);refine A1 (l5 f ?_);rw[if_pos (by decide)];refine A1 (zq j pl k ?_);have d:¬((((zD items.size 0 lo:Nat):Int)==0&&(1:Int)==1&&(zD items.size items.size hi-zD items.size 0 lo)==items.size)=_t):=by intro q;rw[A2,A2]at q;have p:((zD items.size 0 lo:Nat):Int)=0:=eq_of_beq q.1.1;have o:zD items.size items.size hi-zD items.size 0 lo=items.size:=eq_of_beq q.2;exact l ⟨by omega,by omega⟩
  show B4 _ _ (if(((zD items.size 0 lo:Nat):Int)==0&&(1:Int)==1&&(zD items.size items.size hi-zD items.size 0 lo)==items.size)=_t then _ else _) _ _ s;rw[if_neg d,Wi]
  first
    |exact A1 (m:=T3 _) (L6 (A6 ⟨_,rfl,A6 h⟩) a)
    |exact A1 (m:=T3 _) (L6 (A1 (A6 (A6 ⟨_,rfl,A6 h⟩))) a)
    |exact A1 (A1 (m:=T3 _) (L6 (A6 (A6 ⟨_,rfl,A6 h⟩)) a))
    |exact A1 (A1 (m:=T3 _) (L6 (A6 ⟨_,rfl,A6 h⟩) a))
end
end HT
namespace L2
open PySem PySem.Spec PyProof.Rows
abbrev TO:=St->Hp->(Option Int->Hp->Prop)->Prop
def PO(X:Cx)(e:Option Expr)(t:TO):Prop:=
 ∀(pins:List (A8×Obj))(s:A5)(σ:St)(H:Hp)(Q:Option Int->Hp->Prop),Inv X pins σ H s->t σ H Q ->
  B4 (C7 X.prog X.w) X.A (evalPart e X.env) (λu s'=>∃o H',Inv X pins σ H' s'/\wB u o/\Q o H') X.xe s
abbrev aW:TO:=λ_ H Q=>Q _n H
abbrev mY(t:TE):TO:=λσ H Q=>t σ H λx a=>∃i,x=.int i/\Q (_s i) a
theorem Fk{ns:List Int}:∀{us:List _v},AI (ns.map V.int) us->wc us ns:=by
 induction ns with
 |nil=>intro us r;rw[S7]at r;cases r;exact .nil
 |cons n ns c=>
  intro us r;rw[A9]at r;cases r with|cons b a=>obtain⟨t,e⟩:=b;subst e;exact .cons n t (c a)
section
variable{X:Cx}{e:Expr}{te:TE}{lo hi:Option Expr}{tl th:TO}{pos p2:Pos}
theorem bX:PO X _n aW:=by intro pins s σ H Q I h;rw[evalPart_none];exact A6 ⟨_n,H,I,.none,h⟩
theorem bW(h:PE X e te):PO X (_s e) (mY te):=by intro pins s σ H Q I c;rw[evalPart_some];refine Ai (h pins s σ H _ I c) λu s1 ⟨x,f,d,a,b⟩=>?_;obtain⟨i,rfl,q⟩:=b;obtain⟨t,rfl⟩:=a;exact⟨_s i,f,d,.int i t,q⟩
def VO(X:Cx)(r:V->Option Int->Option Int->Hp->VK->Prop):Prop:=
 ∀(pins:List (A8×Obj))(s:A5)(σ:St)(H:Hp)(x:V)(v b a:_v)(lo hi:Option Int)(sl:A8)(Q:VK),Inv X pins σ H s->RelV x v->s.heap.IsSliceOf sl b a .none->wB b lo->wB a hi->r x lo hi H Q ->
  ∃T id,xy (.type T) "__getitem__" = pure (_s (.builtin id))/\s.TypeIs v T/\B4 (C7 X.prog X.w) X.A (wa v (.ref sl)) (EP X pins σ Q) X.xe s
theorem VO.or{r d:V->Option Int->Option Int->Hp->VK->Prop}(h:VO X r)(h':VO X d):VO X (λx lo hi H Q=>r x lo hi H Q\/d x lo hi H Q):=by
 intro pins s σ H x v b a lo hi sl Q I c f pl pu q;rcases q with q|q
 exact h pins s σ H x v b a lo hi sl Q I c f pl pu q;exact h' pins s σ H x v b a lo hi sl Q I c f pl pu q
abbrev tK(r:V->Option Int->Option Int->Hp->VK->Prop)(te:TE)(tl th:TO):TE:=λσ H Q=>te σ H λx c=>tl σ c λl b=>th σ b λu a=>r x l u a Q
theorem Ws{r:V->Option Int->Option Int->Hp->VK->Prop}(p:VO X r)(z:PE X e te)(t:PO X lo tl)(n:PO X hi th):PE X (.Subscript e (.Slice lo hi _n p2) pos) (tK r te tl th):=by intro pins s σ H Q I h;refine Subscript_ (Ai (z pins s σ H _ I h) λv s1 ⟨x,G,E,g,k⟩=>?_);refine wpAny_Slice (Ai (t pins s1 σ G _ E k) λd s2 ⟨l,F,D,pl,j⟩=>Ai (n pins s2 σ F _ D j) λc a ⟨u,f,C,m,i⟩=>?_);rw[evalPart_none];refine A6 ?_;have B:Inv X pins σ f {a with heap:=a.heap.push {cls:=.type "slice", data:=.fields #[d,c,.none]} }:=C.kept (t':=a.toks) λb ob q=>A4 _ q;obtain⟨T,id,hT,o,y⟩:=p pins {a with heap:=a.heap.push {cls:=.type "slice", data:=.fields #[d,c,.none]} } σ f x v d c l u a.heap.objs.size Q B g (yk ..) pl m i;show B4 (C7 X.prog X.w) X.A (subscriptTail e (.Slice lo hi _n p2) v (.ref a.heap.objs.size)) (EP X pins σ Q) X.xe {a with heap:=a.heap.push {cls:=.type "slice", data:=.fields #[d,c,.none]} };exact tail_any (ops:=[.ref a.heap.objs.size,v]) o hT y (by with_unfolding_all rfl)
def Gb(xs:List V)(lo hi:Option Int):List V:=(xs.drop (HT.zD xs.length 0 lo)).take (HT.zD xs.length xs.length hi-HT.zD xs.length 0 lo)
theorem Hs(xs:List V)(lo hi:Option Int):(Gb xs lo hi).length<=xs.length:=by unfold Gb;rw[U0,d5];omega
def nP(K:W.Frag):V->Option Int->Option Int->Hp->VK->Prop:=λx lo hi H Q=>∃a xs,x=.ref a/\FR K H a xs /\
 ¬(HT.zD xs.length 0 lo=0/\HT.zD xs.length xs.length hi=xs.length)/\∀p,H p=_n->Q (.ref p) (upd H p (.tup (Gb xs lo hi)))
theorem iG:VO X (nP X.K):=by
 intro pins s σ H x v p n lo hi sl Q I i m pl j h;obtain⟨a,xs,rfl,k,l,q⟩:=h;cases i;obtain⟨g,r,f,d⟩:=I.tuple k;have c:g.toArray.size=xs.length:=by rw[B0];exact r.length.symm
 refine⟨"tuple", _,J9.lookup,f.typeIs,?_⟩;refine HT.zAS f m pl j (by rw[c];exact l) ?_ (by rw[c];exact d);rw[c];refine⟨.ref s.heap.objs.size,_,I.laid (t':=s.toks) (o:=.tup (Gb xs lo hi)) (λb ob q=>A4 _ q) (C4 _) ?_,rfl,q _ (I.y8.fresh (C4 _))⟩;exact⟨D0 (Hs xs lo hi) d,_,(r.drop (HT.zD xs.length 0 lo)).take (HT.zD xs.length xs.length hi-HT.zD xs.length 0 lo),IB.new _ _⟩
def fJ(K:W.Frag):R2:=λx y H Q=>∃a b xs ys,x=.ref a/\y=.ref b/\FR K H a xs/\FR K H b ys/\xs≠[]/\xs.length+ys.length<=sizeLine /\
 (ys=[]->Q (.ref a) H)/\(ys≠[]->∀p,H p=_n->Q (.ref p) (upd H p (.tup (xs++ys))))
theorem AI.zBF{xs:List V}{us:List _v}(r:AI xs us):us=[]↔xs=[]:=by
 cases r with|nil=>simp|cons _ _=>simp
theorem cB:Ce X (binaryOp .Add) (fJ X.K):=by intro pins s σ H x y v u Q I i g h;obtain⟨a,b,xs,ys,rfl,rfl,ha,m,l,f,k,j⟩:=h;cases i;cases g;obtain⟨p,d,p1,_⟩:=I.tuple ha;obtain⟨n,c,p2,_⟩:=I.tuple m;refine HT.zCe p1 p2 (λz=>l (d.zBF.mp z)) (λz=>⟨.ref a,H,I,rfl,k (c.zBF.mp z)⟩) (λz=>?_) (by rw[<- d.length,<- c.length];exact f);refine⟨.ref s.heap.objs.size,_,I.laid (t':=s.toks) (o:=.tup (xs++ys)) (λb ob q=>A4 _ q) (C4 _) ?_,rfl,j (λw=>z (c.zBF.mpr w)) _ (I.y8.fresh (C4 _))⟩;exact⟨by rw[F0];exact f,_,d.append c,IB.new _ _⟩
end
noncomputable def Xn(n:Nat)(i:Int):Option Nat:=if 0<=i then(if i < n then _s i.toNat else _n)else if -(n:Int)<=i then _s (i+n).toNat else _n
def Gp{a:Type}(xs:List a)(i:Int):Option a:=(Xn xs.length i).bind λj=>xs[j]?
theorem SE{n:Nat}{i:Int}{j:Nat}(h:Xn n i=_s j):seqIndex? i n=_s j/\j < n/\-(n:Int)<=i/\i < n:=by unfold Xn at h;by_cases h0:0<=i;rw[if_pos h0]at h;by_cases h1:i < n;rw[if_pos h1]at h;have e:i.toNat=j:=C3 h;exact⟨by rw[xS h0 h1,e],by omega,by omega,h1⟩;rw[if_neg h1]at h;cases h;rw[if_neg h0]at h;by_cases h1:-(n:Int)<=i;rw[if_pos h1]at h;have e:(i+n).toNat=j:=C3 h;exact⟨by rw[wd (by omega) h1,e],by omega,h1,by omega⟩;rw[if_neg h1]at h;cases h
theorem NH{a:Type}{xs:List a}{i:Int}{v:a}(h:Gp xs i=_s v):∃j,seqIndex? i xs.length=_s j/\xs[j]?=_s v/\j < xs.length/\-(xs.length:Int)<=i/\i < xs.length:=by
 unfold Gp at h;cases e:Xn xs.length i with|none=>rw[e]at h;cases h|some j=>rw[e]at h;obtain⟨h1,h2,h3,h4⟩:=SE e;exact⟨j,h1,h,h2,h3,h4⟩
def Su(b:Expr):Prop:=∀o i,subscripted b _f o i=operate [o,i] (wa o i)
def VQ(X:Cx)(r:R2):Prop:=
 ∀(a slice:Expr)(pins:List (A8×Obj))(s:A5)(σ:St)(H:Hp)(x y:V)(v u:_v)(Q:VK),Inv X pins σ H s->RelV x v->RelV y u->r x y H Q ->
  subscripted slice _f v u=operate [v,u] (wa v u)->B4 (C7 X.prog X.w) X.A (subscriptTail a slice v u) (EP X pins σ Q) X.xe s
def VP(X:Cx)(id:String)(r:V->List V->Hp->VK->Prop):Prop:=
 ∀(pins:List (A8×Obj))(s:A5)(σ:St)(H:Hp)(x:V)(xs:List V)(v:_v)(us:List _v)(Q:VK),Inv X pins σ H s->RelV x v->AI xs us->r x xs H Q ->
  B4 (C7 X.prog X.w) X.A (call (.builtin id) (v::us)) (EP X pins σ Q) X.xe s
variable{pins:List (A8×Obj)}{s:A5}
section
variable{X:Cx}{a b:Expr}{ta tb:TE}{pos:Pos}
theorem VQ.or{r e:R2}(h:VQ X r)(h':VQ X e):VQ X (λx y H Q=>r x y H Q\/e x y H Q):=by
 intro value slice pins s σ H x y v u Q I d c q f;rcases q with q|q
 exact h value slice pins s σ H x y v u Q I d c q f;exact h' value slice pins s σ H x y v u Q I d c q f
theorem VP.or{id:String}{r d:V->List V->Hp->VK->Prop}(h:VP X id r)(h':VP X id d):VP X id (λx xs H Q=>r x xs H Q\/d x xs H Q):=by
 intro pins s σ H x xs v us Q I c rs q;rcases q with q|q
 exact h pins s σ H x xs v us Q I c rs q;exact h' pins s σ H x xs v us Q I c rs q
theorem oO{r:R2}(f:VQ X r)(ha:PE X a ta)(g:PE X b tb)(e:Su b):PE X (.Subscript a b pos) (qj r ta tb):=by intro pins s σ H Q I h;exact Subscript_ (lL ha g I h λv u s2 x y j i d c q=>f a b pins s2 σ j x y v u Q i d c q (e _ _))
def nX(K:W.Frag):R2:=λx y H Q=>∃p xs i v,x=.ref p/\y=.int i/\Dk K H p xs/\Gp xs i=_s v/\Q v H
def nV(K:W.Frag):R2:=λx y H Q=>∃p xs i v,x=.ref p/\y=.int i/\FR K H p xs/\Gp xs i=_s v/\Q v H
def nW:R2:=λx y H Q=>∃z i c,x=.str z/\y=.int i/\z.length<=sizeLine/\Gp z.cps.toList i=_s c/\Q (.str ⟨#[c]⟩) H
theorem cc:VQ X (nX X.K):=by
  intro d slice pins s σ H x y v u Q I n m h g;obtain⟨p,xs,i,z,rfl,rfl,o,B,q⟩:=h;cases n;obtain⟨t,rfl⟩:=m;obtain⟨l,r,pl,C⟩:=I.list o;obtain⟨j,h1,h2,h3,h4,h5⟩:=NH B;obtain⟨w,k,e⟩:=r.get h2;have A:=r.length;have hn:=HQ;have c:EP X pins σ Q w s:=⟨z,H,I,e,q⟩;by_cases h0:0<=i;have f:i.toNat=j:=by rw[xS h0 h5]at h1;exact C3 h1
  exact item_listR pl.isList h0 (by omega) (by rw[f];simpa using k) c g;have f:(i+(l.toArray.size:Int)).toNat=j:=by rw[wd (by omega) h4]at h1;rw[B0,<- A];exact C3 h1
  exact u6 (x:=w) pl.isList.typeIs we.lookup
    (wpAny_getItem_list_neg (Q:=λr s'=>r=w/\EP X pins σ Q r s') pl.isList (by omega) (by rw[B0]<;>omega) (by omega) (by rw[f];simpa using k) ⟨rfl,c⟩) g
theorem kG:VQ X (nV X.K):=by
 intro c slice pins s σ H x y v u Q I g f h k;obtain⟨p,xs,i,z,rfl,rfl,l,n,q⟩:=h;cases g;obtain⟨t,rfl⟩:=f;obtain⟨A,r,pl,B⟩:=I.tuple l;obtain⟨j,h1,h2,h3,h4,h5⟩:=NH n;obtain⟨w,o,d⟩:=r.get h2;have m:=r.length;have hn:=HQ;have e:EP X pins σ Q w s:=⟨z,H,I,d,q⟩;exact u6 (x:=w) pl.typeIs slot_tuple_getitem.lookup
  (getItem_tuple (j:=j) (Q:=λr s'=>r=w/\EP X pins σ Q r s') pl (by omega) (by omega) (by rw[B0,<- m];exact h1) (by simpa using o) ⟨rfl,e⟩) k
theorem kH:VQ X nW:=by
 intro d slice pins s σ H x y v u Q I f e h g;obtain⟨z,i,c,rfl,rfl,o,l,q⟩:=h;obtain⟨t,rfl⟩:=f;obtain⟨t',rfl⟩:=e;obtain⟨j,h1,h2,h3,h4,h5⟩:=NH l;have k:z.cps.toList.length=z.length:=by simp[Str.length]
 rw[k]at h1 h4 h5;have hn:=HQ;exact tail_any (x5 s z t) slot_str_getitem.lookup (getItem_str (c:=c) (by have n:decide (i < -(2 ^ 63:Int))=false:=decide_eq_false (by omega);have m:decide (i >= 2 ^ 63)=false:=decide_eq_false (by omega);rw[n,m,Bool.or_false]) (by rw[h1];simpa using h2) ⟨.str ⟨#[c]⟩,H,I.tok _,⟨_,rfl⟩,q⟩) g
def iV(K:W.Frag):R2:=λx y H Q=>nX K x y H Q\/nV K x y H Q\/nW x y H Q
theorem kI:VQ X (iV X.K):=cc.or (kG.or kH)
theorem QL(c:List _v)(n j:Nat)(u:_v):O2 (·.setIfInBounds j u) {cls:=.type "list", data:=.seq c.toArray n}={cls:=.type "list", data:=.seq (c.set j u).toArray n}:=by simp[O2]
theorem Inv.lst{σ:St}{H:Hp}{p:A8}{xs:List V}(I:Inv X pins σ H s)(h:H p=_s (.lst xs)) :
    ∃(c:List _v)(n:Nat),AI xs c/\s.heap.get? p=_s {cls:=.type "list", data:=.seq c.toArray n}/\xs.length<=sizeLine:=by
  obtain⟨z,c,n,r,e⟩:=I.y8 p _ h;exact⟨c,n,r,e,z⟩
theorem Inv.zDA{σ:St}{H:Hp}{p:A8}{xs ys:List V}{d its':List _v}{n c:Nat}{f:Obj->Obj}(I:Inv X pins σ H s)(h:H p=_s (.lst xs))
    (i:s.heap.get? p=_s {cls:=.type "list", data:=.seq d.toArray n}) (hf:f {cls:=.type "list", data:=.seq d.toArray n}={cls:=.type "list", data:=.seq its'.toArray c}) (r:AI ys its') (g:ys.length<=sizeLine) (t:Nat) :
    Inv X pins σ (upd H p (.lst ys)) {s with heap:=s.heap.update p f,toks:=t}:=by
  have e:(s.heap.update p f).get? p=_s {cls:=.type "list", data:=.seq its'.toArray c}:=by rw[K0 f i (by rw[hf]<;>rfl),hf]
  refine I.write (x:=p) (e:=p) (by rw[h];trivial) (.inl rfl) (λb u j q=>(F8 _ _ (Ne.symm j)).trans q) ⟨_,e⟩ ?_;exact⟨g,its',c,r,e⟩
def WM:V->V->V->Hp->(Hp->Prop)->Prop:=λo i v H Q=>∃p xs k j,o=.ref p/\i=.int k/\H p=_s (.lst xs)/\Xn xs.length k=_s j/\Q (upd H p (.lst (xs.set j v)))
theorem set_list:NM X WM:=by
  intro pins s σ H o i v x y u Q I ro l rv h;obtain⟨p,xs,k,j,rfl,rfl,hp,w,q⟩:=h;cases ro;obtain⟨t,rfl⟩:=l;obtain⟨f,n,r,c,m⟩:=I.lst hp;obtain⟨h1,h2,h3,h4⟩:=SE w;have d:=r.length;have hn:=HQ;have g:Inv X pins σ (upd H p (.lst (xs.set j v))) {s with heap:=s.heap.update p (O2 (·.setIfInBounds j u))}:=
    I.zDA hp c (QL f n j u) (r.set rv j) (by rw[D8];exact m) s.toks
  by_cases h0:0<=k;have e:k.toNat=j:=by rw[xS h0 h4]at h1;exact C3 h1
  exact W.ki_setAt c h0 (by omega) (by rw[B0,<- d];exact h4) (by rw[e];exact⟨_,g,q⟩);have e:(k+(f.toArray.size:Int)).toNat=j:=by rw[wd (by omega) h3]at h1;rw[B0,<- d];exact C3 h1
  exact W.ki_setBack c (by omega) (by rw[B0,<- d];exact h3) (by omega) (by rw[e];exact⟨_,g,q⟩)
theorem MK(lo hi:Option Int)(n:Nat):(Y5 lo hi _n n).1=((HT.zD n 0 lo:Nat):Int)/\(Y5 lo hi _n n).2.1=((HT.zD n n hi:Nat):Int)/\(Y5 lo hi _n n).2.2=1:=by
 refine⟨?_,?_,rfl⟩
 ·cases lo with
  |none=>simp[Y5,HT.zD]
  |some i=>
   simp only[Y5,HT.zD,xA,show(1:Int) > 0 by decide,if_true];by_cases h:i < 0
   ·simp only[h,if_true]<;>omega
   ·simp only[h,if_false]<;>omega
 ·cases hi with
  |none=>simp[Y5,HT.zD]
  |some i=>
   simp only[Y5,HT.zD,xA,show(1:Int) > 0 by decide,if_true];by_cases h:i < 0
   ·simp only[h,if_true]<;>omega
   ·simp only[h,if_false]<;>omega
theorem KS(c:List _v)(lo hi:Option Int):slicePick c.toArray lo hi _n=((c.drop (HT.zD c.length 0 lo)).take (HT.zD c.length c.length hi-HT.zD c.length 0 lo)).toArray:=by obtain⟨h1,h2,h3⟩:=MK lo hi c.toArray.size;unfold slicePick;rw[h1,h2,h3];simp only[sliceRange_one,pick_run,B0]<;>rfl
def nR(K:W.Frag):V->Option Int->Option Int->Hp->VK->Prop:=λx lo hi H Q=>∃a xs,x=.ref a/\Dk K H a xs/\∀p,H p=_n->Q (.ref p) (upd H p (.lst (Gb xs lo hi)))
theorem aj:VO X (nR X.K):=by intro pins s σ H x v m l lo hi sl Q I e j pl f h;obtain⟨a,xs,rfl,i,q⟩:=h;cases e;obtain⟨k,r,d,g⟩:=I.list i;have c:=r.length;refine⟨"list", _,we.lookup,d.isList.typeIs,?_⟩;refine wpAny_getItem_list_slice d.isList j pl f .none (by simp) ?_ (by rw[B0]<;>omega);rw[KS,<- c];refine⟨.ref s.heap.objs.size,_,I.laid (t':=s.toks) (o:=.lst (Gb xs lo hi)) (λb ob q=>A4 _ q) (C4 _) ?_,rfl,q _ (I.y8.fresh (C4 _))⟩;exact⟨D0 (Hs xs lo hi) g,_,0,(r.drop (HT.zD xs.length 0 lo)).take (HT.zD xs.length xs.length hi-HT.zD xs.length 0 lo),D3 _ rfl⟩
noncomputable def Jt:V->Bool
 |.yw=>_t
 |.bl _=>_t
 |.int _=>_t
 |.str _=>_t
 |_=>_f
noncomputable def zw:V->V->Bool
 |.yw,.yw=>_t
 |.bl a,.bl b=>a==b
 |.bl a,.int b=>(if a then 1 else 0)==b
 |.int a,.bl b=>a==(if b then 1 else 0)
 |.int a,.int b=>a==b
 |.str a,.str b=>a==b
 |_,_=>_f
theorem ki{A:G3}{y x:V}{u v:_v}(d:RelV y u)(c:RelV x v)(e:Jt y=_t)(fx:Jt x=_t):SeqAt.EqAt A s u v (zw y x):=by
 cases y with
 |yw=>
  cases d;cases x with|yw=>cases c;exact SeqAt.EqAt.same _|bl b=>cases c;exact SeqAt.EqAt.none_bool b|int b=>obtain⟨t,rfl⟩:=c;exact SeqAt.EqAt.none_int b t|str b=>obtain⟨t,rfl⟩:=c;exact SeqAt.EqAt.none_str b t|_=>exact absurd (show _f=_t from fx) D1
 |bl a=>
  cases d;cases x with|yw=>cases c;exact SeqAt.EqAt.bool_none a|bl b=>cases c;exact SeqAt.EqAt.bool_bool a b|int b=>obtain⟨t,rfl⟩:=c;exact SeqAt.EqAt.bool_int a b t|str b=>obtain⟨t,rfl⟩:=c;exact SeqAt.EqAt.bool_str a b t|_=>exact absurd (show _f=_t from fx) D1
 |int a=>
  obtain⟨t',rfl⟩:=d;cases x with|yw=>cases c;exact SeqAt.EqAt.int_none a t'|bl b=>cases c;exact SeqAt.EqAt.int_bool a t' b|int b=>obtain⟨t,rfl⟩:=c;exact SeqAt.EqAt.int_int a t' b t|str b=>obtain⟨t,rfl⟩:=c;exact v5 a t' b t|_=>exact absurd (show _f=_t from fx) D1
 |str a=>
  obtain⟨t',rfl⟩:=d;cases x with|yw=>cases c;exact SeqAt.EqAt.str_none a t'|bl b=>cases c;exact SeqAt.EqAt.str_bool a t' b|int b=>obtain⟨t,rfl⟩:=c;exact v7 a t' b t|str b=>obtain⟨t,rfl⟩:=c;exact SeqAt.EqAt.str_str a t' b t|_=>exact absurd (show _f=_t from fx) D1
 |_=>exact absurd (show _f=_t from e) D1
theorem Ma:Ce X (J0 .NotIn) (λx y H Q=>∃i j,x=.str i/\y=.str j/\Q (.bl (!(!(Q4 j i 0 j.length 1).isEmpty))) H):=by intro pins s σ H x y v u Q I d c h;obtain⟨i,j,rfl,rfl,q⟩:=h;obtain⟨t,rfl⟩:=d;obtain⟨t',rfl⟩:=c;exact notIn_str ⟨.bl _,H,I,rfl,q⟩
theorem Bb.or{f:_v}{r c:List V->Hp->VK->Prop}(h:Bb X f r)(h':Bb X f c):Bb X f (λxs H Q=>r xs H Q\/c xs H Q):=by
 intro pins s σ H xs us Q I rs q;rcases q with q|q
 exact h pins s σ H xs us Q I rs q;exact h' pins s σ H xs us Q I rs q
theorem Kh:Bb X (.type "tuple") (λxs H Q=>∃p ys,xs=[.ref p]/\((Dk X.K H p ys/\∀l,H l=_n->Q (.ref l) (upd H l (.tup ys)))\/(FR X.K H p ys/\Q (.ref p) H))):=by
 intro pins s σ H xs us Q I r h;obtain⟨p,ys,rfl,h⟩:=h;obtain⟨u,rfl,k⟩:=vals1 r;cases k;rcases h with⟨f,q⟩|⟨f,q⟩
 obtain⟨c,d,pl,g⟩:=I.list f;have i:=d.length;refine call_tuple_list pl.isList (λh' kp=>?_) (by simp only[B0]<;>omega);have j:Inv X pins σ H {s with heap:=h' }:=I.kept (t':=s.toks) kp;have m:Inv X pins σ (upd H h'.objs.size (.tup ys)) {s with heap:=h'.push {cls:=.type "tuple", data:=.seq c.toArray} }:=
  j.laid (t':=s.toks) (λb o e=>A4 _ e) (C4 _) (show An X.prog X.w _ _ _ (.tup ys)from⟨g,c,d,IB.new _ _⟩)
 exact⟨.ref h'.objs.size,_,m,rfl,q _ (j.y8.fresh (C4 _))⟩;obtain⟨c,d,pl,g⟩:=I.tuple f;exact call_tuple_same pl ⟨.ref p,H,I,rfl,q⟩
def qh(K:W.Frag)(T:String)(x:V)(H:Hp):Prop:=match x with
  |.str _=>T = "str"
  |.int _=>T = "int"
  | .ref p=>(T = "list" /\ ∃xs,Dk K H p xs)\/(T = "tuple" /\ ∃o,K.lookup p=_s o/\o.cls=.type "tuple" /\ o.dict=_n) \/
      (T = "dict" /\ ((∃y7,H p=_s (.dK y7))\/∃y7,H p=_s (.dT y7)))\/(T = "set" /\ ∃S n,H p=_s (.set S n))
  |_=>False
theorem VZ{σ:St}{H:Hp}{T:String}{x:V}{v:_v}(I:Inv X pins σ H s)(r:RelV x v)(ty:qh X.K T x H) :
    s.TypeIs v T/\∀a,v=.ref a->∃ob,s.heap.get? a=_s ob/\ob.dict=none:=by
  cases x with
  |str z=>obtain⟨t,rfl⟩:=r;cases(show T = "str" from ty);exact⟨x5 s z t,λ_ e=>nomatch e⟩
  |int i=>obtain⟨t,rfl⟩:=r;cases(show T = "int" from ty);exact⟨u7 s i t,λ_ e=>nomatch e⟩
  |ref p=>
    cases r;rcases ty with⟨rfl,xs,g⟩|⟨rfl,o,d,hc,hd⟩|⟨rfl,d⟩|⟨rfl,S,n,d⟩
    obtain⟨h,_,pl,_⟩:=I.list g;refine⟨pl.isList.typeIs,λa e=>?_⟩;cases e;obtain⟨o,n,e,c,hd,_⟩:=pl;exact⟨o,e,hd⟩;refine⟨⟨o,I.zx p o d,hc⟩,λa e=>?_⟩;cases e;exact⟨o,I.zx _ o d,hd⟩;have z:∃o,s.heap.get? p=_s o/\o.ExactDict:=by
      rcases d with⟨y7,d⟩|⟨y7,d⟩
      obtain⟨_,_,_,_,o,_,_,e,ex,_⟩:=I.y8 p _ d;exact⟨o,e,ex⟩;obtain⟨_,_,_,_,o,_,_,e,ex,_⟩:=I.y8 p _ d;exact⟨o,e,ex⟩
    obtain⟨o,e,ex⟩:=z;refine⟨⟨o,e,ex.1⟩,λa f=>?_⟩;cases f;exact⟨o,e,ex.2.1⟩;obtain⟨o,_,_,_,e,ex,_⟩:=I.y8 p _ d;refine⟨⟨o,e,ex.1⟩,λa f=>?_⟩;cases f;exact⟨o,e,ex.2.1⟩
  |_=>exact D2 ty
abbrev rS(K:W.Frag)(T:String)(r:V->List V->Hp->VK->Prop)(to:TE):TE:=λσ H Q=>to σ H λx c=>qh K T x c/\r x [] c Q
abbrev iD(K:W.Frag)(T:String)(r:V->List V->Hp->VK->Prop)(to:TE)(t:TA):TE:=λσ H Q=>to σ H λx c=>qh K T x c/\t σ c λxs d=>r x xs d Q
variable{o e:Expr}{es:List Expr}{to:TE}{t:TA}{name:Str}{apos zU:Pos}{T id:String}{r:V->List V->Hp->VK->Prop}
theorem QA(k:u9 T)(slot:Slot T name id)(c:x6 (.builtin id)=pure (.type "method_descriptor"))(hm:VP X id r)(l:PE X o to)
    (g:N0 o name X.env (L8 o X.env)=L8 o X.env:=by rfl) (i:(apos.endLine==zU.line)=true:=by rfl):PE X (.Call (.Attribute o name apos) [] [] zU) (rS X.K T r to):=by
  intro pins s σ H Q I h;refine wpAny_Call_method0_late g i (Ai (l pins s σ H _ I h) λv s1 ⟨x,m,f,d,ty,j⟩=>?_);obtain⟨h1,h2⟩:=VZ f d ty;exact⟨T,id,k,slot,c,h1,h2,Z7 rfl (PySem.evalArgs_none (hm pins s1 σ m x [] v [] Q f d .nil j))⟩
theorem XB(q:u9 T)(slot:Slot T name id)(f:x6 (.builtin id)=pure (.type "method_descriptor"))(hm:VP X id r)(w:PE X o to)(ha:PA X (e::es) t)
    (k:N0 o name X.env (L8 o X.env)=L8 o X.env:=by rfl)
    (c:((P8 zU (D7 (e::es) X.env)).all (λx=>!x.1)&&(o6 zU (V5 [] X.env)).all (λx=>x.1.isSome)
     &&decide ((e::es).length+([]:List d8).length+(if([]:List d8).isEmpty then 0 else 1) < 30))=true:=by rfl)
    (l:(apos.endLine==zU.line)=true:=by rfl) (u:D7 (e::es) X.env=(_f,L8 e X.env)::D7 es X.env:=by rfl) (d:(P8 zU (D7 es X.env)).any (·.1)=false:=by rfl) :
    PE X (.Call (.Attribute o name apos) (e::es) [] zU) (iD X.K T r to t):=by
  intro pins s σ H Q I h;refine vA k c l rfl (Ai (w pins s σ H _ I h) λv s1 ⟨x,A,j,g,ty,p⟩=>?_);obtain⟨h1,h2⟩:=VZ j g ty;refine⟨T,id,q,slot,f,h1,h2,?_⟩;have i:=ha zU pins s1 σ A _ j p;rw[u]at i ⊢;refine Z7 (by show(_f||(P8 zU (D7 es X.env)).any (·.1))=_f;rw[d]<;>rfl) (vT ?_);exact Ai i λus s2 ⟨vs,z,y,m,n⟩=>hm pins s2 σ z x vs v us Q y g m n
end
def mF(X:Cx)(id:String)(r:V->List V->Hp->VK->Prop):Prop:=
 ∀(pins:List (A8×Obj))(s:A5)(σ:St)(H:Hp)(x:V)(xs:List V)(v:_v)(us:List _v)(Q:VK),Inv X pins σ H s->RelV x v->AI xs us->r x xs H Q ->
  B4 (C7 X.prog X.w) X.A (call (.builtin id) (v::us)) (EP X pins σ Q) X.xe s
theorem AI.one:∀{x:V}{us:List _v},AI [x] us->∃u,us=[u]/\RelV x u
 := by
 intro x us h;cases h with|cons r t=>cases t;exact⟨_,rfl,r⟩
theorem AI.two:∀{x y:V}{us:List _v},AI [x,y] us->∃u v,us=[u,v]/\RelV x u/\RelV y v
 := by
 intro x y us h;cases h with|cons r t=>cases t with|cons q t=>cases t;exact⟨_,_,rfl,r,q⟩
theorem AI.zero:∀{us:List _v},AI [] us->us=[]
 |_,.nil=>rfl
theorem AI.rep{xs:List V}{us:List _v}(h:AI xs us):∀k:Nat,AI (C5 k xs).flatten (C5 k us).flatten
 |0=>.nil
 |k+1=>by rw[M6,M6,Q5,Q5];exact AI.append h (AI.rep h k)
theorem foldl_rep(b:List _v):∀(k:Nat)(a:List _v),
    wF (λx1 c=>x1++c) a.toArray (C5 k b.toArray)=(a++(C5 k b).flatten).toArray
  |0,a=>by simp
  |k+1,a=>by
    have e:a.toArray++b.toArray=(a++b).toArray:=by simp
    have d:(a++b)++(C5 k b).flatten=a++(C5 (k+1) b).flatten:=by rw[M6,Q5,J3]
    rw[<- d,<- foldl_rep b k (a++b),<- e,M6,X5]
section
variable{X:Cx}{pins:List (A8×Obj)}{σ:St}{H:Hp}{s:A5}{l b:A8}{xs ys zs:List V}
theorem Inv.zDB{a its':List _v}{n:Nat}{f:Array _v->Array _v}{t':Nat}(I:Inv X pins σ H s)(i:H l=_s (.lst xs))
    (e:s.heap.get? l=_s {cls:=.type "list", data:=.seq a.toArray n}) (hf:f a.toArray=its'.toArray) (d:AI ys its') (c:ys.length<=sizeLine) :
    Inv X pins σ (upd H l (.lst ys)) {s with heap:=s.heap.update l (O2 f),toks:=t' }:=by
  have q:=xB e f;rw[hf]at q;refine I.write (x:=l) (e:=l) (by rw[i];exact trivial) (.inl rfl) (λj u h g=>(F8 s.heap (O2 f) (Ne.symm h)).trans g) ⟨_,q⟩ ?_;exact⟨c,its',_,d,q⟩
theorem Inv.zDf{a:List _v}{t':Nat}(I:Inv X pins σ H s)(d:AI ys a)(c:ys.length<=sizeLine) :
    Inv X pins σ (upd H s.heap.objs.size (.lst ys)) {s with heap:=s.heap.push {cls:=.type "list", data:=.seq a.toArray},toks:=t' }:=
  I.laid (λ_ _ q=>A4 _ q) (C4 _) ⟨c,a,0,d,D3 _ rfl⟩
theorem Inv.fresh(I:Inv X pins σ H s):H s.heap.objs.size=none:=I.y8.fresh (C4 _)
theorem Inv.zBf(I:Inv X pins σ H s)(c:H l=_s (.lst xs)):xs.length<=sizeLine/\∃(a:List _v)(n:Nat),AI xs a/\xs.length=a.length/\s.heap.get? l=_s {cls:=.type "list", data:=.seq a.toArray n}:=by obtain⟨z,a,n,r,e⟩:=I.y8 l _ c;exact⟨z,a,n,r,r.length,e⟩
theorem JW{n:Nat}(h:n<=sizeLine):O9 n=false:=by unfold O9;exact decide_eq_false (by omega)
end
section
variable{X:Cx}
def Rh:V->List V->Hp->VK->Prop:=λx vs H Q=>∃l xs y,x=.ref l/\vs=[y]/\H l=_s (.lst xs)/\xs.length < sizeLine/\Q .yw (upd H l (.lst (xs++[y])))
theorem UB:mF X "list.append" Rh:=by intro pins s σ H x vs v us Q I c rv h;obtain⟨l,xs,y,rfl,rfl,b,f,q⟩:=h;cases c;obtain⟨u,rfl,d⟩:=rv.one;obtain⟨z,a,n,r,g,e⟩:=I.zBf b;refine T4 F.slot_list_append ⟨_,e,rfl⟩ F.entry_list_append (F.args_list_append_2 _ _) (wg l a.toArray n u (by rw[B0];omega)) ⟨e,?_⟩;refine⟨.yw,_,I.zDB (its':=a++[u]) b e (by simp) (r.append (.cons d .nil)) ?_,rfl,q⟩;rw[F0,H8];omega
def Rg:V->List V->Hp->VK->Prop:=λx vs H Q=>∃l b xs a,x=.ref l/\vs=[.ref b]/\H l=_s (.lst xs)/\H b=_s (.lst a)/\xs.length+a.length<=sizeLine/\Q .yw (upd H l (.lst (xs++a)))
theorem UA:mF X "list.extend" Rg:=by
 intro pins s σ H x vs v us Q I g rv h;obtain⟨l,b,xs,t,rfl,rfl,f,m,y,q⟩:=h;cases g;obtain⟨u,rfl,i⟩:=rv.one;cases i;obtain⟨z,a,n,r,A,e⟩:=I.zBf f;obtain⟨w,c,k,j,p,o⟩:=I.zBf m;have hsz:a.toArray.size+c.toArray.size<=sizeLine:=by rw[B0,B0];omega
 have d:¬(!a.toArray.isEmpty&&O9 (a.toArray.size+c.toArray.size))=true:=by rw[JW hsz,U1];exact D1
 refine T4 F.slot_list_extend ⟨_,e,rfl⟩ F.entry_list_extend (F.args_list_extend_2 _ _)
  (AutoSeq1.list_extend_list_list_0 l a.toArray n b c.toArray k d (by rw[B0];omega) (by omega)) ⟨e,o,?_⟩
 refine⟨.yw,_,I.zDB (its':=a++c) f e (by simp) (r.append j) ?_,rfl,q⟩;rw[F0];omega
def nh:R2:=λx y H Q=>∃l b xs a,x=.ref l/\y=.ref b/\H l=_s (.lst xs)/\H b=_s (.lst a)/\xs.length+a.length<=sizeLine/\∀p,H p=_n->Q (.ref p) (upd H p (.lst (xs++a)))
theorem jh:Ce X (binaryOp .Add) nh:=by
 intro pins s σ H x y v u Q I f d h;obtain⟨l,b,xs,p,rfl,rfl,i,j,A,q⟩:=h;cases f;cases d;obtain⟨z,c,n,r,B,e⟩:=I.zBf i;obtain⟨t,a,w,g,o,m⟩:=I.zBf j;refine PySem.P.add_list e m ?_ (by rw[B0,B0];omega);have k:c.toArray++a.toArray=(c++a).toArray:=by simp
 rw[k];exact⟨.ref _,_,I.zDf (t':=s.toks) (r.append g) (by rw[F0];omega),rfl,q _ I.fresh⟩
def nU:R2:=λx y H Q=>∃l k xs,x=.ref l/\y=.int k/\H l=_s (.lst xs)/\-(2 ^ 63)<=k/\k < 2 ^ 63/\xs.length * k.toNat<=sizeLine /\
 ∀p,H p=_n->Q (.ref p) (upd H p (.lst (C5 k.toNat xs).flatten))
theorem len_rep{a:Type}(xs:List a)(k:Nat):(C5 k xs).flatten.length=k * xs.length:=by
 induction k with|zero=>simp|succ k b=>rw[M6,Q5,F0,b,yU,Nat.add_comm]
theorem jV:Ce X (binaryOp .Mult) nU:=by
 intro pins s σ H x y v u Q I w p h;obtain⟨l,k,xs,rfl,rfl,B,h1,h2,o,q⟩:=h;cases w;obtain⟨t,rfl⟩:=p;obtain⟨z,b,n,r,A,e⟩:=I.zBf B;have c:b.toArray.size * k.toNat<=sizeLine:=by rw[B0,<- A];exact o
 have d:¬b.toArray.size * k.toNat > (2 ^ 63-1) / 8:=by
  have:(sizeLine:Nat)<=(2 ^ 63-1) / 8:=by decide
  omega
 have f:¬(!x8 k)=true:=by rw[fitsIndex_both h1 h2];exact D1
 have i:¬O9 (b.toArray.size * k.toNat)=true:=by rw[JW c];exact D1
 have g:wF (λx1 j=>x1++j) #[] (C5 (if b.toArray.isEmpty=_t then 0 else k.toNat) b.toArray)=(C5 k.toNat b).flatten.toArray:=by
  have f0:∀m:Nat,wF (λx1 j=>x1++j) #[] (C5 m b.toArray)=(C5 m b).flatten.toArray:=λm=>by have:=foldl_rep b m [];rw[j4]at this;exact this
  rw[f0];cases b with|nil=>simp|cons a C=>rw[if_neg (by simp)]
 refine q9 (T := "list") (U := "int") (by decide) ⟨_,e,rfl⟩ (λs'=>u7 s' k t) noFill_list_mul F.fills_int_mul F.slot_int_rmul repeat_list F.slot_int_index.lookup
  (T4 F.slot_int_rmul (u7 s k t) F.entry_int_rmul (F.args_int_rmul_2 _ _) (int___rmul___int_list k t l b.toArray n)
   ⟨e,rfl,⟨_,e,rfl⟩,T4 F.slot_list_mul ⟨_,e,rfl⟩ F.entry_list_mul (F.args_list_mul_2 _ _) (AutoListH.list___mul___list_int_3 l b.toArray n k t f d i) ⟨e,?_⟩⟩)
 rw[g];exact⟨.ref _,_,I.zDf (t':=s.toks) (r.rep k.toNat) (by rw[len_rep,wj];exact o),rfl,q _ I.fresh⟩
end
end L2
namespace Att
open PySem PySem.W PySem.Calls PyProof.Rows
theorem Hy{P:wG}{h:G2}:∀(ns:List Int)(vs:List _v),WellAll P h vs (ns.map yq)->wc vs ns:=by
 intro ns;induction ns with
 |nil=>intro vs w;rw[S7]at w;cases w;exact .nil
 |cons n ns c=>
  intro vs w;rw[A9]at w;cases w with|cons a b=>cases a;exact .cons _ _ (c _ b)
theorem TU{l:OpenLaw}{n:Nat}(hn:l.most=_s n){P:wG}{h:G2}{args:List WData}{b:List _v}
    (c:l.row.toRowW.claim.pre args=_t) (g:WellAll P h b args) :
    ∃a vs ns,b=[D4 a]/\args=[WData.list (ns.map yq)]/\h.get? a=_s {cls:=.type "list", data:=.seq vs.toArray}/\wc vs ns/\ns.length<=n:=by
  have i:WShape.hasAll [] args [.list .int]=true:=(pre_splitW c).1;have hc:l.pre.holds [] {args:=args}=true:=(pre_splitW c).2;obtain⟨d,r,rfl,h1,h2⟩:=hasAllW_cons i;obtain rfl:=hasAllW_nil h2;obtain⟨xs,rfl,h3⟩:=hasW_list h1;obtain⟨ns,rfl⟩:=items_int h3;have e:ns.length<=n:=by
    unfold OpenLaw.pre at hc;have h4:(WTm.not (.lt (.lit (.int (n:Int))) (.len (.arg 0)))).holds [] {args:=[.list (ns.map .int)]}=true:=by have h4:=(holds_andW hc).1;rw[hn]at h4;exact h4
    have h5:=condW_of h4 (w_not (w_lt w_lit (w_len_list (w_arg rfl))));rw[B9]at h5;refine Nat.le_of_not_lt λq=>?_;have j:(n:Int) < ((ns.length:Nat):Int):=by omega
    first
      |(rw[decide_eq_true j]at h5;exact absurd h5 (by decide))
      |(simp at h5;omega)
  cases g with
  |cons w1 w2=>
    cases w2;cases w1 with|list k f=>exact⟨_,_,ns,rfl,rfl,k,Hy ns _ f,e⟩
theorem Td(l:OpenLaw)(args:List WData):l.row.toRowW.claim.post args (.bool _t) args=true:=
 postW_of (r:=l.row.toRowW) (X:=(_t==_t))
  (show ym [] (.bool _t) .bool=_t by first|rfl|decide|simp[ym,WShape.arms,WShape.armsAll])
  (show(WTm.eq .res (.lit (.bool _t))).value [] {args:=args,res:=_s (.bool _t),after:=args}=_s (.bool (_t==_t))from w_eq_bool (w_res rfl) w_lit) rfl
theorem zBY{l:OpenLaw}{n:Nat}{q:E8}{loose:List Str}{XP:(Str->Option _v)->G2->Prop}{YP:G7->G2->Prop}{d:yV}
    (hn:l.most=_s n) (p:d.params.defaults=[])
    (call:∀(w:G7)(zQ b:A5)(mg mb:Str->Option _v)(g:A8)(o:Obj)(pm h doc:_v)(a:A8)(vs:List _v)(ns:List Int),
      Ground q loose [] XP w zQ mg mb b.heap->YP w b.heap ->
      b.heap.get? g=_s o->o.data=.func (docDef d.name d.params d.body d.scope pm h doc)->b.heap.CodeRec h d.name->mg d.name=_s (.ref g) ->
      b.heap.get? a=_s {cls:=.type "list", data:=.seq vs.toArray}->wc vs ns->ns.length<=n->b.gens=#[] ->
      Z3 (C7 l.prog w) vi (.call (.ref g) ⟨[.ref a],[]⟩) (λr s'=>r=.ok (.ret (.bool _t))/\OldK b.heap s'.heap/\s'.os=b.os/\k8 s'.gens) b) :
    WalkO q loose XP YP l.row.toRowW d [] (λf vs=>wH f vs):=by
  intro w zQ b mg mb G Y g o pm h doc C kV z hd s u m B args t as j v x k A;obtain rfl:C=.none:=Dflts.none u p;obtain rfl:kV=.none:=Dflts.noKw u;obtain⟨a,vs,ns,rfl,rfl,i,c,e⟩:=TU hn j k;refine enter_call (Z4 (call w zQ b mg mb g o pm h doc a vs ns G Y z (fd_plain hd) s m i c e B) λr s' y=>?_);obtain⟨rfl,h2,h3,h4⟩:=y;exact⟨.inl ⟨.bool _t,.bool _t,[],rfl,λ_=>rfl,.bool _t,Td l _,λ_=>⟨wk,λ_ hm=>(nomatch hm)⟩⟩,h2,h3,h4⟩
end Att
namespace L2
open PySem PySem.Spec PyProof.Rows
theorem Ks:∀{vs:List _v}{ns:List Int},wc vs ns->AI (ns.map V.int) vs
 |_,_,.nil=>.nil
 |_,_,.cons n t h=>.cons ⟨t,rfl⟩ (Ks h)
def eG(H:Hp):Prop:=∀b,H b=_n\/∃o xs,H b=_s (.frz o (.lst xs))
theorem Xl{P:E8}{w:G7}{K:W.Frag}{mg mb:Str->Option _v}{CX:VM}{k:Nat}{J a:A8}{fd:N1}{x:Str}{sp:Sp}{c:A5}{vs:List _v}{ns:List Int}
    (R:K.In c.heap) (l:c.heap.Ns K4 mg) (f:c.heap.Ns xn mb) (G:∀x:Str,x ≠ "__name__" -> mb x=S6 x) (y:c.heap.NoLimit) (Y:c.gens=#[])
    (ha:c.heap.get? a=_s {cls:=.type "list", data:=.seq vs.toArray}) (hi:wc vs ns) (M:ns.length<=sizeLine) (X:y9 k vi)
    (F:∀base:G2,K.In base->base.Ns K4 mg->zI P w K mg base CX k J fd [x] sp) (C:∀(s:A5)(u:_v),wX s fd ⟨[u],[]⟩ [(x,u)])
    (E:∀H:Hp,eG H->Dk K H a (ns.map V.int)->sp [.ref a] H (λv _=>v=.bl _t) λ_ _ _=>False)
    (I:∀H e s',CX [] H c (λ_ _ _=>False) e s'->False) :
    Z3 (C7 P w) vi (.call (.ref J) ⟨[.ref a],[]⟩) (λr s'=>r=.ok (.ret (.bool _t))/\OldK c.heap s'.heap/\s'.os=c.os/\k8 s'.gens) c:=by
  have rv:=Ks hi;have B:=hi.length
  -- from an abstract heap in zFE nothing but the zCq may be tracked
  have i:∀H:Hp,eG H->Dk K H a (ns.map V.int)->EM P w H c.heap->(∀b,H b≠_n->b=a)->(H a≠_n->K.lookup a=_n) ->
      Z3 (C7 P w) vi (.call (.ref J) ⟨[.ref a],[]⟩) (λr s'=>r=.ok (.ret (.bool _t))/\OldK c.heap s'.heap/\s'.os=c.os/\k8 s'.gens) c:=by
    intro H N Z y8 O hK;have FI:∀{b:A8}{o:Obj},c.heap.get? b=_s o->H b=_n->(Mg c.heap H).get? b=_s o:=λe n=>Xt e n;have D:∀{b:A8}{o:Obj}{es:Array DictEntry}{t:Nat},c.heap.get? b=_s o->o.data=.dict es t->H b=none:=fun{b o es t} e d=>by
      cases q:H b with|none=>rfl|some u=>have L:b=a:=O b (by rw[q];simp);subst L;rw[ha]at e;cases e;have d':yh vs.toArray _=Data.dict es t:=d;cases d'
    have g:∀{b:A8}{m:Str->Option _v},c.heap.Ns b m->(Mg c.heap H).Ns b m:=fun{b m} ⟨o,es,t,e,d,r⟩=>⟨o,es,t,FI e (D e d),d,r⟩;have p:K.In (Mg c.heap H):=λb o e=>FI (R b o e) (by
      cases q:H b with|none=>rfl|some u=>have L:b=a:=O b (by rw[q];simp);subst L;rw[hK (by rw[q];simp)]at e;cases e)
    have hM:Mod K mg (Mg c.heap H):=⟨p,g l,⟨mb,g f,G⟩,let ⟨mc,h1,h2⟩:=y;⟨mc,g h1,h2⟩⟩;have e0:zBj P w K mg (Mg c.heap H) vi [] c H:=⟨rfl,hM,λb o e=>cK e,u5 (UQ _ _),trivial,λb f=>absurd (show b∈([]:List A8)from f) (by simp),y8,.of_eq Y⟩;refine Z4 ((F _ p (g l)).run vi [] c H ⟨[.ref a],[]⟩ [.ref a] [.ref a] _ _ X e0 (C c (.ref a)) (.cons rfl .nil) (E H N Z)) λr s' h=>?_;cases r with
    |error e=>exact(I H e s' h).elim
    |ok fl=>
      cases fl with
      |next=>exact D2 h
      |brk=>exact D2 h
      |cont=>exact D2 h
      |ret u=>
        obtain⟨v,H',os,bare,un,A,T,q⟩:=h;have U:v=.bl true:=q;subst U;obtain rfl:u=v8 true:=T;refine⟨rfl,OldK.of_keep λb o e=>?_,os,bare⟩;cases q:H b with
        |none=>exact un.keep b o e q (by intro z;exact absurd (show b∈([]:List A8)from z) (by simp)) (by simp)
        |some u=>
          rcases N b with z|⟨ob,xs,z⟩
          rw[q]at z;cases z;have S:=un.zAe b ob _ z;obtain⟨Q,_⟩:=y8 b _ z;obtain⟨e2,_⟩:=A b _ S;rw[e]at Q;cases Q;exact e2
  cases hk:K.lookup a with
  |some o=>
    -- the zCq is one of the zDa own objects
    have e:=R a o hk;rw[ha]at e;cases e;refine i (λ_=>_n) (λ_=>.inl rfl) (.inr ⟨_,vs.toArray,_,hk,rfl,rfl,rfl,by rw[B0,B];exact M,by simpa using rv⟩) (λb u z=>by have j:(_n:Option HO)=_s u:=z;cases j) (λb z=>absurd rfl z) λz=>absurd rfl z
  |none=>refine i (λb=>if b=a then _s (.frz {cls:=.type "list", data:=.seq vs.toArray} (.lst (ns.map V.int)))else _n) (λb=>?_) (.inl (.inr ⟨{cls:=.type "list", data:=.seq vs.toArray},if_pos rfl⟩)) (λb u z=>?_) (λb z=>?_) λ_=>hk;by_cases f:b=a;exact .inr ⟨_,_,if_pos f⟩;exact .inl (if_neg f);by_cases f:b=a;have j:=(if_pos f).symm.trans z;cases j;subst f;exact⟨ha,by rw[B9];exact M,vs,_,rv,ha⟩;have j:=(if_neg f).symm.trans z;cases j;by_cases f:b=a;exact f;exact absurd (if_neg f) z
theorem zCS{l:W.OpenLaw}{n k:Nat}{q:E8}{loose:List Str}{XP:(Str->Option _v)->G2->Prop}{YP:G7->G2->Prop}{d:yV}{K:wG->W.Frag}{CX:G7->VM}{sp:G7->Sp}{x:Str}
    (hn:l.most=_s n) (r:n<=sizeLine) (y:d.params.defaults=[]) (C:y9 k vi)
    (J:∀(w:G7)(h:G2),YP w h->(K w.params).In h)
    (F:∀(w:G7)(mg:Str->Option _v)(j:A8)(h:G2),(K w.params).In h->h.Ns K4 mg->mg d.name=_s (.ref j) ->
      ∃fd:N1,(∀(s:A5)(u:_v),wX s fd ⟨[u],[]⟩ [(x,u)]) /\
        ∀base:G2,(K w.params).In base->base.Ns K4 mg->zI l.prog w (K w.params) mg base (CX w) k j fd [x] (sp w))
    (p:∀(w:G7)(H:Hp)(a:A8)(ns:List Int),ns.length<=n->eG H->Dk (K w.params) H a (ns.map V.int)->sp w [.ref a] H (λv _=>v=.bl _t) λ_ _ _=>False)
    (z:∀(w:G7)(H:Hp)(s:A5)(e:_v)(s':A5),CX w [] H s (λ_ _ _=>False) e s'->False) :
    W.WalkO q loose XP YP l.row.toRowW d [] (λf vs=>wH f vs):=by
  refine Att.zBY hn y λw zQ B mg mb j o pm P doc a vs ns G Y O hd E t m i c D=>?_;have A:=J w _ Y;obtain⟨fd,I,N⟩:=F w mg j _ A G.T.g t;exact Xl A G.T.g G.T.b G.T.builtins G.T.nolimit D m i (D0 c r) C N I (λH M L=>p w H a ns c M L) λH e s'=>z w H B e s'
noncomputable def BM(s:G5):Arguments:=match s with
 |.FunctionDef _ a _ _ _ _ _ _ _ _=>a
 |_=>{posonlyargs:=[],args:=[],vararg:=_n,kwonlyargs:=[],kw_defaults:=[],kwarg:=_n,defaults:=[]}
noncomputable def AZ(s:G5):List G5:=match s with
 |.FunctionDef _ _ b _ _ _ _ _ _ _=>b
 |_=>[]
noncomputable def AE(s:G5):M4:=match s with
 |.FunctionDef _ _ _ _ _ _ sc _ _ _=>sc
 |_=>{kind:=.function,names:=[],isGenerator:=_f,isCoroutine:=_f}
abbrev Gq:VM:=λ_ _ _ _ _ _=>False
abbrev E0:XK:=λ_ _ _=>False
theorem fL{X:Cx}:DQ Gq X E0:=λ_ _ _ _ _ _ _ h=>h.elim
structure Fun (K:W.Frag) (x qual:Str) (st:G5) (f:A8) (fd:N1):Prop where
 ex:∃(oc:_v)(od:Option A8)(kV doc pm:_v)(an:Option A8)(zV ct:_v)(osl:Array (Option _v)),
  fd=W.fnOf x qual (BM st) (AZ st) (AE st) .none kV doc pm an zV ct/\K.lookup f=_s ⟨oc,od,.func fd,osl⟩/\W.codeIn K zV qual=_t
 kp:W.keepIn K (.ref f)=_t
variable{x qual:Str}
section
variable{P:E8}{w:G7}{K:W.Frag}{mg:Str->Option _v}{base:G2}
theorem Fun.ok{st:G5}{f:A8}{fd:N1}{N ps:List Str}{k:Nat}{sp:Sp}(F:Fun K x qual st f fd)(S:zp N ps (AE st))(len:∀vs H Q E,sp vs H Q E->vs.length=ps.length)
    (a:∀(zV:_v)(A:G3)(outer:List Env)(s:A5)(H:Hp)(vs:List V)(Q:VK)(E:XK),y9 k (A.deeper (vS qual (AE st) s.heap.objs.size f zV))->sp vs H Q E ->
      ∃t,Cu (Dh Gq P w K mg base N qual (AE st) f zV A outer s H E).zo (AZ st) t/\t {nx:=λ_ H'=>Q .yw H',rt:=Q} (start N vs) H):zI P w K mg base Gq (k+1) f fd ps sp:=by
  obtain⟨oc,od,kV,doc,pm,an,zV,ct,osl,rfl,lk,c⟩:=F.ex;refine zBt lk c S len λA outer s H vs Q E d b=>?_;obtain⟨t,h,q⟩:=a zV A outer s H vs Q E d b;exact⟨t,h.zo,q⟩
theorem Fun.binds{st:G5}{f:A8}{fd:N1}{ps:List Str}(F:Fun K x qual st f fd)
    (h:∀(kV doc pm:_v)(an:Option A8)(zV ct:_v)(us:List _v),us.length=ps.length->xu (W.fnOf x qual (BM st) (AZ st) (AE st) .none kV doc pm an zV ct) ⟨us,[]⟩=pure (ps.zip us)):Binds K fd ps []:=by
  obtain⟨oc,od,kV,doc,pm,an,zV,ct,osl,rfl,lk,a⟩:=F.ex;exact .all (h kV doc pm an zV ct)
theorem Mi{st:G5}{f:A8}{oc:_v}{od an:Option A8}{osl:Array (Option _v)}{kV doc pm zV ct:_v}(l:K.lookup f=_s ⟨oc,od,.func (W.fnOf x qual (BM st) (AZ st) (AE st) .none kV doc pm an zV ct),osl⟩)
    (c:W.codeIn K zV qual=_t) (k:W.keepIn K (.ref f)=_t):Fun K x qual st f (W.fnOf x qual (BM st) (AZ st) (AE st) .none kV doc pm an zV ct):=⟨⟨oc,od,kV,doc,pm,an,zV,ct,osl,rfl,l,c⟩,k⟩
end
def ID(H H':Hp):Prop:=∀b o,H b=_s o->H' b=_s o
noncomputable def AV(sc:M4)(x:Str):Bool:=match sc.names.lookup x with|some .cell=>_t|_=>_f
def Cx.inner(X:Cx)(scope:M4)(cl:List (Str×A8))(C:A8)(s:A5)(H:Hp)(fp:List A8):Cx:=
 {X with zQ:=s,H₀:=H,env:=compEnvC scope cl C X.env,outer:=X.stack,ex:=fp,fn:=AV scope,xe:=λ_ _=>False}
theorem Ay{scope:M4}{env:Env}{x:Str}:∀{names:List (Str×NameKind)}, 
    ((names.map fun(n,k)=>if(k==NameKind.free&&env.scope.kind==.function&&env.kindOf n==_s .cell)then(n,NameKind.cell)else(n,k)).lookup x=_s .cell \/
     (names.map fun(n,k)=>if(k==NameKind.free&&env.scope.kind==.function&&env.kindOf n==_s .cell)then(n,NameKind.cell)else(n,k)).lookup x=_s .free) ->
    names.lookup x=_s .cell\/names.lookup x=_s .free
  |[],h=>by simp at h
  |(n,k)::r,h=>by
    have a:=@Ay scope env x r;cases hx:x==n with
    |true=>
      simp only[A9,F7]at h ⊢;by_cases hc:(k==NameKind.free&&env.scope.kind==.function&&env.kindOf n==_s .cell)=_t;have b:k=.free:=by simp only[A2,beq_iff_eq]at hc;exact hc.1.1
      right;simp[hx,b];rw[if_neg hc]at h;simp only[F7,hx]at h ⊢;exact h
    |false=>simp only[A9,F7]at h ⊢;by_cases hc:(k==NameKind.free&&env.scope.kind==.function&&env.kindOf n==_s .cell)=_t;rw[if_pos hc]at h;simp only[F7,hx]at h ⊢;exact a h;rw[if_neg hc]at h;simp only[F7,hx]at h ⊢;exact a h
theorem DK{env:Env}{x:Str}:∀{names:List (Str×NameKind)}, 
    (names.map fun(n,k)=>if(k==NameKind.free&&env.scope.kind==.function&&env.kindOf n==_s .cell)then(n,NameKind.cell)else(n,k)).lookup x=_s .local ->
    names.lookup x=_s .local
  |[],h=>by simp at h
  |(n,k)::r,h=>by
    have a:=@DK env x r;cases hx:x==n with|true=>simp only[A9,F7]at h ⊢;by_cases hc:(k==NameKind.free&&env.scope.kind==.function&&env.kindOf n==_s .cell)=_t;rw[if_pos hc]at h;simp only[F7,hx]at h;cases h;rw[if_neg hc]at h;simp only[F7,hx]at h ⊢;exact h|false=>simp only[A9,F7]at h ⊢;by_cases hc:(k==NameKind.free&&env.scope.kind==.function&&env.kindOf n==_s .cell)=_t;rw[if_pos hc]at h;simp only[F7,hx]at h ⊢;exact a h;rw[if_neg hc]at h;simp only[F7,hx]at h ⊢;exact a h
variable{scope:M4}
theorem EC{env:Env}(i:∀x,scope.names.lookup x=_s .free->∃c,env.cells.lookup x=_s c)(l:∀x k,(x,k)∈scope.names->k=.free->scope.names.lookup x=_s .free) :
    ∃cl,closureFor scope env=pure cl/\(∀x c,cl.lookup x=_s c->env.cells.lookup x=_s c)/\∀x,scope.names.lookup x=_s .free->∃c,cl.lookup x=_s c:=by
  have go:∀(names:List (Str×NameKind))(cs:List (Str×A8)),(∀x k,(x,k)∈names->k=.free->∃c,env.cells.lookup x=_s c)->(∀x c,cs.lookup x=_s c->env.cells.lookup x=_s c) ->
      ∃cl,(forIn names cs (fun(x:Str×NameKind) (r:List (Str×A8))=>(if(x.2==NameKind.free)=_t then(cellOf env x.1 >>= λc=>(pure (ForInStep.yield ((x.1,c)::r)):Sem _))else pure (ForInStep.yield r))))=(pure cl:Sem _) /\
        (∀x c,cl.lookup x=_s c->env.cells.lookup x=_s c)/\(∀x,(cs.lookup x).isSome=_t->(cl.lookup x).isSome=_t)/\∀x,(x,NameKind.free)∈names->(cl.lookup x).isSome=true:=by
    intro names;induction names with
    |nil=>intro cs _ h2;exact⟨cs,by simp,h2,λ_ z=>z,λ_ z=>by simp at z⟩
    |cons p r m=>
      intro cs h1 h2;obtain⟨n,k⟩:=p;by_cases g:k=.free;subst g;obtain⟨c,hc⟩:=h1 n _ B2 rfl;have j:cellOf env n=pure c:=by unfold cellOf;rw[hc]
      obtain⟨cl,e,a,b,d⟩:=m ((n,c)::cs) (λx k f g=>h1 x k (B1 _ f) g) (λx t f=>by
        rw[F7]at f;cases hxn:x==n with
        | true => rw[hxn]at f; simp at f; subst f; have : x = n := by simpa using hxn
                  rw[this];exact hc
        |false=>rw[hxn]at f;exact h2 x t f)
      refine⟨cl,?_,a,λx f=>b x ?_,λx f=>?_⟩;rw[j6];simp only[j];simpa using e;rw[F7];cases hxn:x==n with|true=>rfl|false=>exact f
      rcases C9.mp f with z|z
      injection z with q _
      subst q;exact b x (by rw[F7];simp);exact d x z;have s:(k==NameKind.free)=false:=by simpa using g
      obtain⟨cl,e,a,b,d⟩:=m cs (λx k f g=>h1 x k (B1 _ f) g) h2;refine⟨cl,?_,a,b,λx f=>?_⟩;rw[j6];simp only[s];simpa using e;rcases C9.mp f with z|z
      injection z with _ o
      exact absurd o.symm g;exact d x z
  obtain⟨cl,e,a,_,d⟩:=go scope.names [] (λx k f g=>i x (l x k f g)) (λx c h=>by simp at h);refine⟨cl,?_,a,λx f=>O8.mp (d x (G1 f))⟩;unfold closureFor;simpa using e
theorem BC:∀(names:List (Str×NameKind))(n:Nat)(a:List (Str×A8)),N5 n names a=N5 n names []++a
 |[],n,a=>by simp[N5]
 |(x,k)::r,n,a=>by unfold N5;split;rw[BC r (n+1) ((x,n)::a),BC r (n+1) [(x,n)],J3];rfl;exact BC r n a
theorem DN{x:Str}{c:A8}:∀(names:List (Str×NameKind))(n:Nat),(x,c)∈N5 n names []->(x,NameKind.cell)∈names
 |[],n,h=>by simp[N5]at h
 |(y,k)::r,n,h=>by
  unfold N5 at h;split at h;rename_i a;have a:k=.cell:=by simpa using a
  rw[BC]at h;rcases E6.mp h with h|h
  exact B1 _ (DN r _ h);rw[D5]at h;cases h;rw[a];exact B2;exact B1 _ (DN r _ h)
theorem DO{x:Str}:∀(names:List (Str×NameKind))(n:Nat),(x,NameKind.cell)∈names->∃c,(N5 n names []).lookup x=_s c
 |[],n,h=>by cases h
 |(y,k)::r,n,h=>by
  unfold N5;by_cases a:(x,NameKind.cell)∈r;split;rw[BC];obtain⟨c,e⟩:=DO r (n+1) a;exact⟨c,by rw[R6,e];rfl⟩;exact DO r n a;rcases C9.mp h with e|e
  cases e;simp only[beq_self_eq_true,if_true];rw[BC];cases q:(N5 (n+1) r []).lookup x with|some c=>exact⟨c,by rw[R6,q];rfl⟩|none=>exact⟨n,by rw[R6,q];simp⟩
  exact absurd e a
theorem Cg{M:xQ}{A:G3}{E:_v->A5->Prop}{s:A5}{scope:M4}{globals:A8}{a:List (Str×A8)}{qual:Str}{outer:Env}{Q:Env->A5->Prop}
    (c:Q {scope:=scope,locals:=s.heap.objs.size,globals:=globals,cells:=N5 (s.heap.objs.size+1) scope.names a,qual:=qual,func:=_n,code:=outer.code,frame:=outer.frame,builtins:=outer.builtins} {s with heap:=yO (s.heap.push {cls:=.type "dict", data:=.dict #[]}) scope.names}) :
    B4 M A (vU scope globals a [] qual _n .none (_s outer)) Q E s:=by
  simp only[vU,wI,if_true];refine A1 (wpAny_alloc ?_);refine A1 (wpAny_layCells _ (λname kind cells=>by cases b:kind==NameKind.cell<;>simp[b]) _ _ _ _ ?_);rw[show({s with heap:=s.heap.push {cls:=.type "dict", data:=.dict #[]} }:A5).heap.objs.size=s.heap.objs.size+1 from J6 ..];rw[vV];exact A1 (A6 (A6 c))
noncomputable def zO(N:List Str)(sc scope:M4)(js:List Nat):Bool:=
 (match scope.kind with|.function=>_t|_=>_f) &&
 scope.names.all (λp=>(match p.2 with
  |.cell=>(match scope.names.lookup p.1 with|some .cell=>_t|_=>_f)
  |.local=>(match scope.names.lookup p.1 with|some .local=>_t|_=>_f)
  |.free=>(match scope.names.lookup p.1 with|some .free=>_t|_=>_f)&&(match sc.names.lookup p.1 with|some .cell=>_t|some .free=>_t|_=>_f)
  |_=>_t)) &&
 (N.zipIdx.all λp=>(match scope.names.lookup p.1 with|some .local=>js.contains p.2|some .cell=>js.contains p.2|_=>_t))
structure zAV (N:List Str) (sc scope:M4) (js:List Nat):Prop where
 kind:scope.kind=.function
 zDL:∀x k,(x,k)∈scope.names->k=.cell->scope.names.lookup x=_s .cell
 zBk:∀y∈scope.names,y.2=.local->scope.names.lookup y.1=_s .local
 zBl:∀x k,(x,k)∈scope.names->k=.free->scope.names.lookup x=_s .free
 fr:∀x,scope.names.lookup x=_s .free->sc.names.lookup x=_s .cell\/sc.names.lookup x=_s .free
 jsl:∀(i:Nat) x,N[i]?=_s x->scope.names.lookup x=_s .local\/scope.names.lookup x=_s .cell->i∈js
variable{js:List Nat}
theorem Dz{N:List Str}{sc:M4}(h:zO N sc scope js=_t):zAV N sc scope js:=by
  unfold zO at h;rw[A2,A2]at h;obtain⟨⟨h1,h2⟩,h3⟩:=h;rw[E4]at h2 h3;refine⟨?_,λx k a e=>?_,λy a e=>?_,λx k a e=>?_,λx e=>?_,λi x c b=>?_⟩;cases q:scope.kind<;>rw[q]at h1<;>first|rfl|cases h1
  have:=h2 _ a;rw[e]at this;dsimp only at this;split at this;assumption;cases this;have:=h2 y a;rw[e]at this;dsimp only at this;split at this;assumption;cases this;have:=h2 _ a;rw[e]at this;dsimp only at this;rw[A2]at this;have:=this.1;split at this;assumption;cases this;have:=h2 _ (G1 e);dsimp only at this;rw[A2]at this;have:=this.2;split at this;left;assumption;right;assumption;cases this;have hm:(x,i)∈N.zipIdx:=by rw[List.mem_zipIdx_iff_getElem?];exact c
  have:=h3 _ hm;dsimp only at this;rcases b with b|b
  rw[b]at this;dsimp only at this;simpa using this;rw[b]at this;dsimp only at this;simpa using this
def blank(js:List Nat)(σ:St):St:=js.foldl (λσ j=>σ.set j _n) σ
theorem z9(js:List Nat):∀σ:St,(blank js σ).length=σ.length:=by
 induction js with|nil=>intro σ;rfl|cons j r a=>intro σ;unfold blank;rw[X5];have:=a (σ.set j _n);unfold blank at this;rw[this,D8]
theorem Hc(js:List Nat):∀(σ:St)(i:Nat)(v:V),(blank js σ)[i]?=_s (_s v)->i∉js/\σ[i]?=_s (_s v):=by
 induction js with|nil=>intro σ i v h;exact⟨by simp,h⟩|cons j r c=>intro σ i v h;unfold blank at h;rw[X5]at h;obtain⟨a,b⟩:=c (σ.set j _n) i v h;by_cases e:i=j;subst e;by_cases d:i < σ.length;rw[E7 d]at b;cases b;rw[M9 (by rw[D8];omega)]at b;cases b;rw[D9 (Ne.symm e)]at b;exact⟨by simp[e,a],b⟩
def VL(js:List Nat)(g:TG):Prop:=∀x σ H Q,g x σ H Q->g x σ H λa b=>(a.length=σ.length/\∀i,i∉js->a[i]?=σ[i]?)/\Q a b
theorem Xy{j:Nat}(h:j∈js):VL js (DC j):=λx σ H Q q=>⟨⟨D8 ..,λi hi=>D9 (fun(e:j=i)=>hi (e▸h))⟩,q⟩
def PB(js:List Nat)(g:NL):Prop:=∀x σ H Q,g x σ H Q->g x σ H λa b=>(a.length=σ.length/\∀i,i∉js->a[i]?=σ[i]?)/\Q a b
theorem OW:PB js OX:=λx σ H Q ⟨e,q⟩=>⟨e,⟨rfl,λ_ _=>rfl⟩,q⟩
theorem US{j:Nat}{u:NL}(h:j∈js)(g:PB js u):PB js (Dg (DC j) u):=by
 rintro x σ H Q ⟨v,r,e,q⟩;refine⟨v,r,e,?_⟩;have:=g r (σ.set j (_s v)) H Q q;show u r (σ.set j (_s v)) H _;have f:∀(P P':St->Hp->Prop),(∀a b,P a b->P' a b)->True:=λ_ _ _=>trivial;have m:(λc d=>(c.length=(σ.set j (_s v)).length/\∀(i:Nat),i∉js->c[i]?=(σ.set j (_s v))[i]?)/\Q c d)=(λc d=>(c.length=σ.length/\∀(i:Nat),i∉js->c[i]?=σ[i]?)/\Q c d):=by
  funext c d;have l:(∀(i:Nat),i∉js->c[i]?=(σ.set j (_s v))[i]?)=(∀(i:Nat),i∉js->c[i]?=σ[i]?):=by apply propext;constructor;intro k i hi;rw[k i hi,D9 (fun(e:j=i)=>hi (e▸h))];intro k i hi;rw[k i hi,D9 (fun(e:j=i)=>hi (e▸h))]
  rw[l,D8]
 rw[m]at this;exact this
theorem SM{K:W.Frag}{n:Nat}{u:NL}(b:PB js u):VL js (kO K n u):=by rintro x σ H Q ⟨a,xs,e,c,d,q⟩;exact⟨a,xs,e,c,d,b _ _ _ _ q⟩
variable{a:A8}
section
variable{X:Cx}{pins:List (A8×Obj)}{σ:St}{H:Hp}{s:A5}{scope:M4}{cl:List (Str×A8)}{js:List Nat}{fp:List A8}{C D:A8}
theorem Inv.zCx(I:Inv X pins σ H s)(h:s.heap.objs.size<=a):a∉IT X.stack:=λb=>by
 rcases C9.mp (I.zAA a b)with e|e
 exact absurd (B7 I.lt (e▸h)) (K9 _);exact I.zDY h e
theorem Inv.zBG(I:Inv X pins σ H s){c:A8}(e:X.env.cells.lookup x=_s c):c < s.heap.objs.size:=by obtain⟨v,q⟩:=I.cell x c e;exact q.lt
theorem Inv.zCh(I:Inv X pins σ H s){p:A8×Obj}(hp:p∈X.pn++pins):p.1 < s.heap.objs.size:=B8 (I.pin p hp).1
structure zCQ (X:Cx) (scope:M4) (cl:List (Str×A8)) (s:A5) (C:A8):Prop where
 old:∀x c,cl.lookup x=_s c->AV scope x=_f->X.env.cells.lookup x=_s c
 own:∀x c,cl.lookup x=_s c->AV scope x=_t->s.heap.objs.size<=c/\C < c
 inj:∀x y c,cl.lookup x=_s c->cl.lookup y=_s c->AV scope x=_t->AV scope y=_t->x=y
 fr:∀x,scope.names.lookup x=_s .free->∃c,cl.lookup x=_s c
 has:∀x,AV scope x=_t->∃c,cl.lookup x=_s c
theorem zCQ.ne(L:zCQ X scope cl s C){c b:A8}(e:cl.lookup x=_s c)(d:b < s.heap.objs.size)(h:∀x c,X.env.cells.lookup x=_s c->c≠b):c≠b:=by
 cases q:AV scope x with|false=>exact h x c (L.old x c e q)|true=>exact Z2 (B7 d (L.own x c e q).1)
theorem dM{b:List (Str×A8)}(Bi:zAV X.N X.env.scope scope js)(g:∀x c,b.lookup x=_s c->X.env.cells.lookup x=_s c)(f:∀x,scope.names.lookup x=_s .free->∃c,b.lookup x=_s c)
    {h:G2} (m:s.heap.objs.size<=C) (j:h.objs.size=C+1):zCQ X scope (N5 (C+1) scope.names b) s C/\∀x c,(N5 (C+1) scope.names b).lookup x=_s c->AV scope x=_t->∃v,(yO h scope.names).IsCell c v:=by
  have ok:=cellsFrom_ok scope.names h (C+1) [] ⟨λ_ _ hm=>(nomatch hm),wk⟩ (by rw[j];exact C4 _);rw[j]at ok;rw[BC];generalize i:N5 (C+1) scope.names []=own at ok;have mem:∀x c,own.lookup x=_s c->AV scope x=true:=λx c e=>by have:=Bi.zDL x _ (DN scope.names (C+1) (by rw[i];exact G1 e)) rfl;unfold AV;rw[this]
  have has:∀x,AV scope x=_t->∃c,own.lookup x=_s c:=λx e=>by unfold AV at e;split at e;rename_i q;obtain⟨c,z⟩:=DO scope.names (C+1) (G1 q);rw[i]at z;exact⟨c,z⟩;cases e
  have d:∀x c,(own++b).lookup x=_s c->AV scope x=_t->own.lookup x=_s c:=λx c e q=>by obtain⟨p,z⟩:=has x q;rw[R6,z]at e;rw[z];exact e
  have no:∀x,AV scope x=_f->(own++b).lookup x=b.lookup x:=λx q=>by
    rw[R6];cases z:own.lookup x with|none=>rfl|some c=>rw[mem x c z]at q;cases q
  refine⟨⟨λx c e q=>g x c (by rw[<- no x q];exact e),λx c e q=>?_,λx y c o n l k=>?_,λx e=>?_,λx q=>?_⟩,λx c e q=>?_⟩;have:=(ok.empty x c (G1 (d x c e q))).2;exact⟨D0 m (Nat.le_of_succ_le this),this⟩;exact PySem.name_of_addr ok.apart (G1 (d x c o l)) (G1 (d y c n k));obtain⟨c,z⟩:=f x e;exact⟨c,by rw[no x (by unfold AV;rw[e])];exact z⟩;obtain⟨c,z⟩:=has x q;exact⟨c,by rw[R6,z];rfl⟩;exact⟨_n,(ok.empty x c (G1 (d x c e q))).1⟩
theorem Inv.zO(I:Inv X pins σ H s)(Bi:zAV X.N X.env.scope scope js)(hf:∀b∈fp,zA X pins H b)(f:∀b∈fp,b < s.heap.objs.size)(g:s.heap.objs.size<=C)
    (L:zCQ X scope cl s C):(X.inner scope cl C s H fp).Ok where
  mod:=I.ok.mod
  kind:=Bi.kind
  glob:=I.ok.glob
  blt:=I.ok.blt
  above:=g
  inj:=λx y c a b=>by cases hx:AV scope x<;>cases hy:AV scope y;exact I.ok.inj x y c (L.old x c a hx) (L.old y c b hy);exact absurd (I.zBG (L.old x c a hx)) (Nat.not_lt.mpr (L.own y c b hy).1);exact absurd (I.zBG (L.old y c b hy)) (Nat.not_lt.mpr (L.own x c a hx).1);exact L.inj x y c a b hx hy
  has:=λx h=>by
    rcases Ay (scope:=scope) (env:=X.env) (names:=scope.names) h with q|q
    exact L.has x (by unfold AV;rw[q]);exact L.fr x q
  cab:=λx c h e=>(L.own x c e h).1
  hd:=I.ok.hd
  frames:=I.ok.frames
  stk:=.inl rfl
  exf:=λb d=>⟨D6 (B7 (f b d) g),λx c e=>L.ne e (f b d) (hf b d).2.2.2.2.1⟩
  bs:=I.bs
  bsz:=D0 I.ok.bsz I.sz
  zBc:=λb o e d=>by
    rcases(hf b d).2.2.2.1 with z|z
    exact I.ok.zBc b o e z;exact absurd (B7 (B8 e) (D0 I.ok.bsz z)) (K9 _)
  zBy:=λb d z=>by
    rcases C9.mp (I.zAA b z)with e|e
    exact(hf b d).2.1 e;exact(hf b d).2.2.1 e
  zAT:=I.stack
  frf:=I.zAg
theorem Inv.enter{h':G2}{S:Nat}{o:Obj}(I:Inv X pins σ H s)(Bi:zAV X.N X.env.scope scope js)(hf:∀b∈fp,zA X pins H b)(G:∀b∈fp,b < s.heap.objs.size)(K:s.heap.objs.size<=C)(Q:s.heap.objs.size<=D)(J:D≠C)
    (L:zCQ X scope cl s C) (j:∀x c,cl.lookup x=_s c->AV scope x=_t->∃v,h'.IsCell c v)
    (k:∀b u,s.heap.get? b=_s u->h'.get? b=_s u) {m:Str->Option _v} (B:h'.Ns C m) (T:h'.get? D=_s o) (A:∀v,o.data≠.cell v) :
    Inv (X.inner scope cl C s H fp) (pins++[(D,o)]) (blank js σ) H {s with heap:=h',toks:=S} where
  ok:=I.zO Bi hf G K L
  os:=rfl
  bare:=I.bare
  base:=Un.kept k
  loc:=by
    refine⟨m,B,λi x v h M R=>?_⟩;obtain⟨F,M⟩:=Hc js σ i v M;have free:scope.names.lookup x=_s .free:=by
      rcases R with q|q|q
      exact absurd (Bi.jsl i x h (.inl (DK (env:=X.env) (names:=scope.names) q))) F;rcases Ay (scope:=scope) (env:=X.env) (names:=scope.names) (.inl q)with z|z
      exact absurd (Bi.jsl i x h (.inr z)) F;exact z;rcases Ay (scope:=scope) (env:=X.env) (names:=scope.names) (.inr q)with z|z
      exact absurd (Bi.jsl i x h (.inr z)) F;exact z
    have P:=Bi.fr x free;obtain⟨m0,U,E⟩:=I.loc;obtain⟨u,r,l⟩:=E i x v h M (P.elim (λz=>.inr (.inl z)) λz=>.inr (.inr z));refine⟨u,r,?_⟩;rcases l with⟨z,_⟩|⟨_,c,hc,n⟩
    have g:X.env.scope.names.lookup x=_s .local:=z;rcases P with y|y
    rw[y]at g;cases g;rw[y]at g;cases g;obtain⟨O,f⟩:=L.fr x free;have:O=c:=by have q:=L.old x O f (by unfold AV;rw[free]);rw[hc]at q;exact(C3 q).symm
    subst this;obtain⟨oc,w,t⟩:=n;refine .inr ⟨?_,O,f,oc,k _ _ w,t⟩;rcases R with q|q|q
    have:=DK (env:=X.env) (names:=scope.names) q;rw[free]at this;cases this;exact .inl q;exact .inr q
  cell:=λx c e=>by
    cases q:AV scope x with|true=>exact j x c e q|false=>obtain⟨v,oc,w,t⟩:=I.cell x c (L.old x c e q);exact⟨v,oc,k _ _ w,t⟩
  free:=I.y8.fresh K
  ze:=λx c e=>by
    cases q:AV scope x with|true=>exact I.y8.fresh (L.own x c e q).1|false=>exact I.ze x c (L.old x c e q)
  pin:=λp hp=>by
    have d:p∈X.pn++(pins++[(D,o)]):=hp;rw[<- J3]at d;rcases E6.mp d with z|z
    obtain⟨a1,a2,Y,W,V⟩:=I.pin p z;refine⟨k _ _ a1,a2,D6 (B7 (B8 a1) K),λq=>?_,V⟩;rcases C9.mp (I.zAA p.1 q)with e|e
    exact Y e;exact W e;have e:p=(D,o):=by simpa using z
    subst e;exact⟨T,I.y8.fresh Q,J,I.zCx Q,A⟩
  y8:=I.y8.kept k
  len:=(z9 js σ).trans I.len
theorem Inv.leave{Y:Cx}{H':Hp}{s':A5}{τ:St}{pl:List (A8×Obj)}{ys:List V}{g:List _v}{n:Nat}(I:Inv X pins σ H s)(hf:∀b∈fp,zA X pins H b)(r:Y=X.inner scope cl C s H fp)(J:Inv Y pl τ H' s')(t:s.heap.objs.size<=D)
    (i:H' D=_n) (k:ys.length<=sizeLine) (m:AI ys g) (p:s'.heap.get? D=_s {cls:=.type "list", data:=.seq g.toArray n}) :
    Inv X pins σ (upd H' D (.lst ys)) s':=by
  subst r;have un:Un (IT X.stack) fp H H' s.heap s'.heap:=J.base;have ne:∀{b:A8}{o:Obj},s.heap.get? b=_s o->b≠D:=λe=>D6 (B7 (B8 e) t);have d:∀{b:A8}{o:HO},H' b=_s o->b≠D:=λe z=>by rw[z,i]at e;cases e
  have h:Un (IT X.stack) fp H (upd H' D (.lst ys)) s.heap s'.heap:=
    ⟨un.keep,un.slot,λb o e j l=>by rw[AC (ne e)];exact un.free b o e j l,un.there,λb xs e=>by have:=un.zAi b xs e;rw[AC (d this)];exact this,
      λb o u e=>by have:=un.zAe b o u e;rw[AC (d this)];exact this,λb ps e=>by obtain⟨more,q⟩:=un.zAj b ps e;exact⟨more,by rw[AC (d q)];exact q⟩⟩
  have y8:EM X.prog X.w (upd H' D (.lst ys)) s'.heap:=λb u e=>by by_cases f:b=D;subst f;rw[AG]at e;cases e;exact⟨k,g,n,m,p⟩;rw[AC f]at e;exact(J.y8 b u e).zAv (λ_ _ _ q=>q) (λc q=>by rw[AC (d q)];exact q) λc xs q=>by rw[AC (d q)];exact q
  exact I.zDx J.os h y8 J.bare λb f=>by obtain⟨_,f1,_,y,f4,v⟩:=hf b f;exact⟨y,f1,f4,v⟩
end
section
variable{X:Cx}
def nQ:V->Option Int->Option Int->Hp->VK->Prop:=λx lo hi H Q=>∃z,x=.str z/\z.length<=sizeLine/\Q (.str (uv z lo hi)) H
theorem iH:VO X nQ:=by
 intro pins s σ H x v y w lo hi sl Q I p r pl n h;obtain⟨z,rfl,c,q⟩:=h;obtain⟨t,rfl⟩:=p;have b:∀t' k,EP X pins σ Q (.str (uv z lo hi) t') {s with toks:=k}:=λt' k=>⟨.str _,H,I.tok k,⟨_,rfl⟩,q⟩;refine⟨"str", _,F.slot_str_getitem.lookup,x5 _ _ _,?_⟩;obtain⟨o,f,e,d⟩:=r;cases pl with
 |none=>
  cases n with|none=>exact U2 (l:=_n) (u:=_n) (st:=_n) ⟨o,f,e,d⟩ rfl (j7 ⟨D0 (vB z _ _) c,b⟩)|int j g=>exact U2 (l:=_n) (u:=_s (j,g)) (st:=_n) ⟨o,f,e,d⟩ rfl (j7 ⟨D0 (vB z _ _) c,b⟩)
 |int i m=>
  cases n with|none=>exact U2 (l:=_s (i,m)) (u:=_n) (st:=_n) ⟨o,f,e,d⟩ rfl (j7 ⟨D0 (vB z _ _) c,b⟩)|int j g=>exact U2 (l:=_s (i,m)) (u:=_s (j,g)) (st:=_n) ⟨o,f,e,d⟩ rfl (j7 ⟨D0 (vB z _ _) c,b⟩)
theorem PY{ys:List Str}:∀{us:List _v},AI (ys.map V.str) us->StrsAre us ys:=by
 induction ys with
 |nil=>intro us r;rw[S7]at r;cases r;exact .nil
 |cons n ns d=>
  intro us r;rw[A9]at r;cases r with|cons c b=>obtain⟨t,e⟩:=c;subst e;exact .cons n t (d b)
def WO(K:W.Frag):V->List V->Hp->VK->Prop:=λx vs H Q=>∃b l ys,x=.str b/\vs=[.ref l]/\Dk K H l (ys.map V.str)/\(ys.map (·.length)).sum+ys.length * b.length<=16777216/\Q (.str (yi b ys)) H
theorem cP:mF X "str.join" (WO X.K):=by intro pins s σ H x vs v us Q I c rv h;obtain⟨b,l,ys,rfl,rfl,f,e,q⟩:=h;obtain⟨t,rfl⟩:=c;obtain⟨u,rfl,d⟩:=rv.one;cases d;obtain⟨g,r,p,_⟩:=I.list f;exact join_list p.isList (by simpa using PY r) e λt' k=>⟨.str _,H,I.tok k,⟨_,rfl⟩,q⟩
end
structure Fx (P:E8) (w:G7) (K:W.Frag) (mg:Str->Option _v) (base:G2) (k:Nat) (x:Str) (ps:List Str) (sp:Sp):Prop where
 ex:∃(f:A8)(fd:N1),zI P w K mg base Gq k f fd ps sp/\mg x=_s (.ref f)/\W.keepIn K (.ref f)=_t/\Binds K fd ps []
section
variable{X:Cx}{k j:Nat}{x:Str}{ps:List Str}{sp:Sp}{p pos:Pos}{e:Expr}{es:List Expr}{t:TA}
abbrev rP(sp:Sp)(t:TA):TE:=λσ H Q=>t σ H λvs b=>sp vs b Q E0
theorem oP(F:Fx X.prog X.w X.K X.mg X.base k x ps sp)(i:y9 j X.A)(d:k<=j)(m:Gl X x)(ha:PA X (e::es) t)(g:(x==("__debug__" : Str))=false:=by decide)
    (n:D7 (e::es) X.env=(_f,L8 e X.env)::D7 es X.env:=by rfl) (c:(P8 pos (D7 es X.env)).any (·.1)=false:=by rfl):PE X (.Call (.Name x p) (e::es) [] pos) (rP sp t):=by
  obtain⟨f,fd,G,hm,l,o⟩:=F.ex;have q:=bq (p:=p) (pos:=pos) G (i.mono d) m hm l o .nil fL ha g n c;intro pins s σ H Q I h;refine q pins s σ H Q I ?_;show t σ H λvs b=>sp (vs++[]) b Q E0;have r:(fun(vs:List V) (b:Hp)=>sp (vs++[]) b Q E0)=(λvs b=>sp vs b Q E0):=by funext vs b;rw[G4]
  rw[r];exact h
theorem jL(F:Fx X.prog X.w X.K X.mg X.base k x ps sp)(d:y9 j X.A)(b:k<=j)(i:Gl X x)(c:(x==("__debug__" : Str))=false:=by decide):PE X (.Call (.Name x p) [] [] pos) (rP sp TJ):=by obtain⟨f,fd,G,hm,g,l⟩:=F.ex;have q:=XA (p:=p) (pos:=pos) G (d.mono b) i hm g l .nil fL c;intro pins s σ H Q I h;exact q pins s σ H Q I h
end
variable{H:Hp}{Q:VK}{xs:List V}{p:A8}
section
variable{X:Cx}
def nt:R2:=λx y H Q=>∃i j,x=.str i/\y=.str j/\i.length+j.length<=sizeLine/\Q (.str (i++j)) H
def Nx(K:W.Frag):R2:=λx y H Q=>(WQ λi j=>.int (i+j)) x y H Q\/nt x y H Q\/nh x y H Q\/fJ K x y H Q
theorem cH:Ce X (binaryOp .Add) (Nx X.K):=jm.or (QC.or (jh.or cB))
theorem Zn{K:W.Frag}{i j:Int}(q:Q (.int (i+j)) H):Nx K (.int i) (.int j) H Q:=.inl ⟨i,j,rfl,rfl,q⟩
theorem Zl{K:W.Frag}{i j:Str}(h:i.length+j.length<=1000000)(q:Q (.str (i++j)) H):Nx K (.str i) (.str j) H Q:=.inr (.inl ⟨i,j,rfl,rfl,D0 h (by decide),q⟩)
theorem Zm{K:W.Frag}{b:A8}{ys:List V}(ha:H a=_s (.lst xs))(c:H b=_s (.lst ys))(h:xs.length+ys.length<=1000000)(q:∀p,H p=_n->Q (.ref p) (upd H p (.lst (xs++ys)))):Nx K (.ref a) (.ref b) H Q:=
 .inr (.inr (.inl ⟨a,b,xs,ys,rfl,rfl,ha,c,D0 h (by decide),q⟩))
theorem az{K:W.Frag}{i:Int}{v:V}(h:H p=_s (.lst xs))(e:Gp xs i=_s v)(q:Q v H):iV K (.ref p) (.int i) H Q:=.inl ⟨p,xs,i,v,rfl,rfl,.inl (.inl h),e,q⟩
theorem iS{K:W.Frag}{i:Int}{v:V}(h:Dk K H p xs)(e:Gp xs i=_s v)(q:Q v H):iV K (.ref p) (.int i) H Q:=.inl ⟨p,xs,i,v,rfl,rfl,h,e,q⟩
theorem ay{K:W.Frag}{z:Str}{i:Int}{c:Nat}(h:z.length<=1000000)(e:Gp z.cps.toList i=_s c)(q:Q (.str ⟨#[c]⟩) H):iV K (.str z) (.int i) H Q:=.inr (.inr ⟨z,i,c,rfl,rfl,D0 h (by decide),e,q⟩)
theorem kK:VQ X (iV X.K):=kI
def WL(K:W.Frag):V->Option Int->Option Int->Hp->VK->Prop:=λx lo hi H Q=>nQ x lo hi H Q\/nR K x lo hi H Q\/nP K x lo hi H Q
theorem iJ:VO X (WL X.K):=iH.or (aj.or iG)
theorem ae{K:W.Frag}{z:Str}{lo hi:Option Int}(h:z.length<=1000000)(q:Q (.str (uv z lo hi)) H):WL K (.str z) lo hi H Q:=.inl ⟨z,rfl,D0 h (by decide),q⟩
theorem Vx{K:W.Frag}{lo hi:Option Int}(h:Dk K H a xs)(q:∀p,H p=_n->Q (.ref p) (upd H p (.lst (Gb xs lo hi)))):WL K (.ref a) lo hi H Q:=.inr (.inl ⟨a,xs,rfl,h,q⟩)
theorem af{K:W.Frag}{lo hi:Option Int}(h:H a=_s (.lst xs))(q:∀p,H p=_n->Q (.ref p) (upd H p (.lst (Gb xs lo hi)))):WL K (.ref a) lo hi H Q:=Vx (.inl (.inl h)) q
theorem aq:NM X WM:=set_list
def Ta(K:W.Frag):List V->Hp->VK->Prop:=λxs H Q=>∃x n,xs=[x]/\qe K x H n/\Q (.int n) H
theorem Ut:Bb X (.builtin "len") (Ta X.K):=Yy
theorem UJ{K:W.Frag}{z:Str}(h:z.length<=1000000)(q:Q (.int z.length) H):Ta K [.str z] H Q:=⟨_,_,rfl,⟨D0 h (by decide),rfl⟩,q⟩
theorem Xh{K:W.Frag}(h:Dk K H p xs)(q:Q (.int xs.length) H):Ta K [.ref p] H Q:=⟨_,_,rfl,.inl ⟨xs,h,rfl⟩,q⟩
theorem cW{K:W.Frag}(h:H p=_s (.lst xs))(q:Q (.int xs.length) H):Ta K [.ref p] H Q:=Xh (.inl (.inl h)) q
abbrev sA(K:W.Frag)(tl:TE):TI:=λσ H R=>tl σ H λx b=>∃a xs,x=.ref a/\((Dk K b a xs/\R (qf K a) b)\/(FR K b a xs/\R (qx K a) b))
theorem jE{tg l:Expr}{tl:TE}(n:PE X l tl):PI X tg l (sA X.K tl):=by
 intro pins s σ H R I h;refine Ai (n pins s σ H _ I h) λv s1 ⟨x,i,c,j,k⟩=>?_;obtain⟨a,xs,e,q⟩:=k;subst e;cases j;rcases q with⟨d,q⟩|⟨d,q⟩
 obtain⟨g,rv,p,m⟩:=c.list d;refine r9 p.isList ?_;refine⟨s1.heap.objs.size,[s1.heap.objs.size],_,_,i,rfl,c.kept (t':=s1.toks) λb o e=>A4 _ e,TF a _,⟨_,D3 _ rfl,rfl,rfl⟩,λb f=>?_,q⟩;have e:b=s1.heap.objs.size:=by simpa using f
 subst e;exact c.y6 (C4 _) (c.y8.fresh (C4 _));obtain⟨g,rv,p,m⟩:=c.tuple d;refine R7 (show s1.heap.IsTuple a g.toArray from p) ?_;refine⟨s1.heap.objs.size,[s1.heap.objs.size],_,_,i,rfl,c.kept (t':=s1.toks) λb o e=>A4 _ e,PM a _,⟨_,D3 _ rfl,rfl,rfl⟩,λb f=>?_,q⟩;have e:b=s1.heap.objs.size:=by simpa using f
 subst e;exact c.y6 (C4 _) (c.y8.fresh (C4 _))
end
theorem CV(h:H p=_n)(o:HO):ID H (upd H p o):=λb u q=>by rw[AC (AY q h)];exact q
section
variable{X:Cx}
theorem rk(K:W.Frag)(h:X.K=K:=by rfl):VQ X (iV K):=by subst h;exact kK
theorem Ur(K:W.Frag)(h:X.K=K:=by rfl):Bb X (.builtin "len") (Ta K):=by subst h;exact Ut
theorem XM(K:W.Frag)(h:X.K=K:=by rfl):mF X "str.join" (WO K):=by subst h;exact cP
def Nu(K:W.Frag):List V->Hp->VK->Prop:=λxs H Q=>∃p ys,xs=[.ref p]/\((Dk K H p ys/\∀l,H l=_n->Q (.ref l) (upd H l (.tup ys)))\/(FR K H p ys/\Q (.ref p) H))
theorem Oo(K:W.Frag)(h:X.K=K:=by rfl):Bb X (.type "tuple") (Nu K):=by subst h;exact Kh
end
noncomputable def tx(l:List Nat):Str:=⟨l.toArray⟩
theorem RK(l:List Nat):(tx l).cps.toList=l:=by simp[tx]
theorem Cn(l:List Nat):(tx l).length=l.length:=by simp[tx,Str.length]
theorem PL(a b:List Nat):tx a++tx b=tx (a++b):=by show(⟨(tx a).cps++(tx b).cps⟩:Str)=_;simp[tx]
theorem gu{a b:List Nat}(h:tx a=tx b):a=b:=by have:=congrArg (λz:Str=>z.cps.toList) h;simpa[tx]using this
def Uh(l:List Nat)(lo hi:Option Int):List Nat:=(l.drop (HT.zD l.length 0 lo)).take (HT.zD l.length l.length hi-HT.zD l.length 0 lo)
theorem Wh(l:List Nat)(a k:Nat)(h:a+k<=l.length):((B6 k).map λj=>a+j).filterMap (λi=>l[i]?)=(l.drop a).take k:=by
  apply wm;intro i;by_cases hi:i < k;rw[ue hi,List.getElem?_drop];have e:(List.map (λj=>a+j) (B6 k)).filterMap (λi=>l[i]?)=(B6 k).map λj=>l[a+j]!:=by
    rw[wC];rw[show(λi=>l[i]?)∘(λj=>a+j)=λj=>l[a+j]? from rfl];have:∀(r:List Nat),(∀j∈r,a+j < l.length)->r.filterMap (λj=>l[a+j]?)=r.map λj=>l[a+j]!:=by
      intro r;induction r with|nil=>intro _;rfl|cons x r f=>intro d;have b:=d x B2;rw[W4,A3 b,A9,f λj c=>d j (B1 _ c)];simp[b]
    exact this _ λj c=>by have:=I0.mp c;omega
  rw[e,C8,M7 hi];have g:a+i < l.length:=by omega
  simp[g];have m:(((B6 k).map λj=>a+j).filterMap (λi=>l[i]?)).length<=k:=D0 (List.length_filterMap_le _ _) (by simp);rw[M9 (by omega),M9 (by rw[U0];omega)]
theorem cl(i:Int)(n:Nat):max 0 (min (if i < 0 then i+(n:Int)else i) (n:Int))=(((if i < 0 then(i+(n:Int)).toNat else min i.toNat n):Nat):Int):=by by_cases h:i < 0;simp only[h,if_true];omega;simp only[h,if_false];omega
theorem Va(l:List Nat)(lo hi:Option Int):uv (tx l) lo hi=tx (Uh l lo hi):=by
 have c:(tx l).length=l.length:=Cn l;have e:V2 lo hi 1 l.length=(B6 (HT.zD l.length l.length hi-HT.zD l.length 0 lo)).map λj=>HT.zD l.length 0 lo+j:=by
  have d:V2 lo hi 1 l.length=sliceRange ((HT.zD l.length 0 lo:Nat):Int) ((HT.zD l.length l.length hi:Nat):Int) 1:=by unfold V2;rcases lo with _|i<;>rcases hi with _|j<;>simp only[show(1:Int) > 0 by decide,if_true,HT.zD,cl,Int.natCast_zero]<;>rfl
  rw[d];unfold sliceRange;simp only[show(1:Int) > 0 by decide,if_true];generalize HT.zD l.length 0 lo=a;generalize HT.zD l.length l.length hi=b;have cnt:(if(a:Int) < (b:Int)then((b:Int)-(a:Int)+1-1) / 1 else 0).toNat=b-a:=by split<;>omega
  rw[cnt];apply K1;intro j _;omega
 have g:HT.zD l.length l.length hi<=l.length:=HT.zBa _ _ (C4 _) _;have f:HT.zD l.length 0 lo<=l.length:=HT.zBa _ _ (G8 _) _;unfold uv;rw[c,e];unfold Uh;generalize HT.zD l.length 0 lo=a at *;generalize HT.zD l.length l.length hi=b at *;have m:(List.map (λj=>a+j) (B6 (b-a))).filterMap (λi=>(tx l).cps[i]?)=(l.drop a).take (b-a):=by
  have k:(λi:Nat=>(tx l).cps[i]?)=λi=>l[i]?:=by funext i;simp[tx]
  rw[k];by_cases h:a<=b;exact Wh l a (b-a) (by omega);have:b-a=0:=by omega
  rw[this];simp
 split;rename_i hc;simp only[B9,Z8,A2,beq_iff_eq]at hc;have h0:a=0:=by omega
 have h1:b=l.length:=by omega
 subst h0 h1;simp;rw[m];rfl
theorem zCb(a b:List Nat):zw (.str (tx a)) (.str (tx b))=decide (a=b):=by unfold zw;by_cases h:a=b;subst h;simp;rw[decide_eq_false h];have:tx a≠tx b:=λe=>h (gu e);simpa using this
section
variable{X:Cx}
def nY(K:W.Frag):List V->Hp->VK->Prop:=λxs H Q=>∃x T t b,xs=[x,.ty T]/\zAU K H x t/\W.kitOne K t (.type T)=_s b/\Q (.bl b) H
theorem Uu(K:W.Frag)(f:X.K=K:=by rfl):Bb X (.builtin "isinstance") (nY K):=by subst f;intro pins s σ H xs us Q I r h;obtain⟨x,T,t,b,rfl,ty,e,q⟩:=h;obtain⟨u,v,rfl,d,rv⟩:=r.two;cases rv;exact UN I d ty e λc=>⟨.bl b,H,I.tok c,rfl,q⟩
theorem jo{h h':G2}{o:Obj}(c:∀b x,b∉[h.objs.size]->(h.push o).get? b=_s x->h'.get? b=_s x):∀b x,h.get? b=_s x->h'.get? b=_s x:=
 λb x e=>c b x (λhm=>by rw[D5.mp hm]at e;exact K9 _ (B8 e)) (A4 _ e)
def nO(K:W.Frag):V->Option Int->Option Int->Hp->VK->Prop:=λx lo hi H Q=>∃a xs,x=.ref a/\FR K H a xs/\(HT.zD xs.length 0 lo=0/\HT.zD xs.length xs.length hi=xs.length)/\Q (.ref a) H
theorem ah:VO X (nO X.K):=by
 intro pins s σ H x v y w lo hi sl Q I n l pl o h;obtain⟨a,xs,rfl,t,k,q⟩:=h;cases n;obtain⟨b,r,c,z⟩:=I.tuple t;have d:b.toArray.size=xs.length:=by rw[B0];exact r.length.symm
 refine⟨"tuple", _,J9.lookup,c.typeIs,?_⟩;obtain⟨os,f,g,u⟩:=id l;have i:s.TypeIs (.ref sl) "slice" := ⟨os,f,g⟩;unfold wa
 try with_reducible refine J8 ?_
 first|refine A1 (A6 ?_)|skip
 refine A1 (wb c.typeIs (by decide) ?_);refine A1 (N6 (name:=Z6 "__getitem__") c.typeIs J9
  (N4 J9 c.typeIs vm ?_ (wD _ _)))
 show B4 _ _ (V3 (.ref a) >>= _) _ _ s;refine A1 (tupleItemsOf_ c ?_);refine A1 (l5 i ?_);rw[if_pos (by decide)];refine A1 (HT.zq l pl o ?_);have e:((((HT.zD b.toArray.size 0 lo:Nat):Int)==0&&(1:Int)==1&&(HT.zD b.toArray.size b.toArray.size hi-HT.zD b.toArray.size 0 lo)==b.toArray.size)=_t):=by rw[d,k.1,k.2];simp
 show B4 _ _ (if(((HT.zD b.toArray.size 0 lo:Nat):Int)==0&&(1:Int)==1&&(HT.zD b.toArray.size b.toArray.size hi-HT.zD b.toArray.size 0 lo)==b.toArray.size)=_t then _ else _) _ _ s;rw[if_pos e];have j:EP X pins σ Q (.ref a) s:=⟨.ref a,H,I,rfl,q⟩;refine A1 (m:=o8 (D4 a)) ?_;unfold o8;refine A1 (l5 c.typeIs (A6 ?_));rw[if_pos (by decide)];exact A1 (X7 (A6 ⟨_,rfl,A6 j⟩))
end
end L2
namespace L2
open PySem PySem.Spec PyProof.Rows PySem.SeqAt
theorem KL(l:A8)(items:Array _v)(n:Nat)(dd:Option A8)(sl:Array (Option _v))(x:_v)(e:_v->Bool)(j:Nat)(I:j < items.size) 
    (u:e items[j]=_t) (t:∀m (hm:m < items.size),m < j->e items[m]=_f) :
    yP (Z0.«tuple.index» ⟨[.ref l,x],[]⟩)
      (λA R s=>s.heap.get? l=_s {cls:=.type "tuple", dict:=dd,data:=.seq items n,slots:=sl}/\(∀y,y∈items->EqAt A.in1 s y x (e y))/\R (.ok (.ret (.int j s.toks))) {s with toks:=s.toks+1}):=
  .of_wp λprog w A R s h=>by
    obtain⟨hp,g,d,C,os⟩:=s;obtain⟨E,F,h⟩:=h;have f2:=AutoSeq1.sub_tuple_tuple
    wp_walk using wpAny_loadPart' E
    let f:Nat->(Option Fin×Unit)->Sem (ForInStep (Option Fin×Unit)):=λi __s =>
            match items[i]? with
            | some y=>do
              let __do_lift <- eqBool y x
              if __do_lift=_t then do
                  let __do_lift <- retInt ↑i
                  pure (ForInStep.done (_s __do_lift,()))
                else pure (ForInStep.yield (_n,()))
            |x=>pure (ForInStep.yield (_n,()))
    have p:B4 (C7 prog w) A.in1 (forIn [:min items.size items.size] ((_n,()):Option Fin×Unit) f) (λa s' =>
      B4 (C7 prog w) A.in1
        (match a.fst with
        |some r=>pure r
        | none=>do
          rule "tuple.index.not-found"
          raiseErrorWords "ValueError" "tuple.index(x): x not in tuple")
        (λB s'=>∃v,B=Fin.done (Flow.ret v)/\R (Except.ok (Flow.ret v)) s')
        (λe s'=>R (yW e) s') s') (λe s'=>R (yW e) s') {heap:=hp,gens:=g,drawn:=d,toks:=C,os:=os}:=by
      rw[Std.Legacy.Range.forIn_eq_forIn_range'];simp only[Std.Legacy.Range.size,yX,o9,Nat.div_one,vC];refine V9 _ (λrest b s'=>b=(_n,())/\s'=⟨hp,g,d,C,os⟩/\∃i,rest=s8 i (items.size-i)/\i<=j) _ ?_ ?_ _ _ ⟨rfl,rfl,0,by simp,G8 _⟩;rintro y rest b s' ⟨G,rfl,i,c,hi⟩;have k:i < items.size:=by omega
      obtain⟨D,o⟩:y=i/\rest=s8 (i+1) (items.size-(i+1)):=by
        have e:items.size-i=(items.size-(i+1))+1:=by omega
        rw[e,List.range'_succ]at c;injection c with h1 h2
        exact⟨h1,h2⟩
      subst D;show B4 _ _ (match items[y]? with
          | some z=>do
            let __do_lift <- eqBool z x
            if __do_lift=_t then do
                let __do_lift <- retInt ↑y
                pure (ForInStep.done (_s __do_lift,()))
              else pure (ForInStep.yield (_n,()))
          |x=>pure (ForInStep.yield (_n,()))) _ _ _
      rw[Array.getElem?_eq_getElem k];refine A1 (F _ (Array.getElem_mem k) prog w _ _ ?_);by_cases q:y=j;subst q;rw[u]
      wp_walk
      exact⟨_,rfl,h⟩;rw[t y k (by omega)]
      wp_walk
      exact⟨rfl,rfl,y+1,o,by omega⟩;rintro b s' ⟨G,rfl,i,c,hi⟩;have:(s8 i (items.size-i)).length=0:=by rw[<- c];rfl
      rw[X8]at this;omega
    refine cast ?_ p;congr 1;funext a s';obtain⟨H,J⟩:=a;cases H with|none=>rfl|some r=>rfl
variable{H:Hp}{Q:VK}
section
variable{X:Cx}
def rR(r:V->List V->Hp->VK->Prop)(to:TE)(t:TA):TE:=λσ H Q=>to σ H λx a=>(∃p xs,x=.ref p/\a p=_s (.tup xs))/\t σ a λxs b=>r x xs b Q
theorem oQ{o e:Expr}{es:List Expr}{to:TE}{t:TA}{name:Str}{apos b:Pos}{id:String}{r:V->List V->Hp->VK->Prop}(u:u9 "tuple")(slot:Slot "tuple" name id)(f:x6 (.builtin id)=pure (.type "method_descriptor"))(hm:VP X id r)(y:PE X o to)(ha:PA X (e::es) t)
    (j:N0 o name X.env (L8 o X.env)=L8 o X.env:=by rfl)
    (c:((P8 b (D7 (e::es) X.env)).all (λx=>!x.1)&&(o6 b (V5 [] X.env)).all (λx=>x.1.isSome)
     &&decide ((e::es).length+([]:List d8).length+(if([]:List d8).isEmpty then 0 else 1) < 30))=true:=by rfl)
    (k:(apos.endLine==b.line)=true:=by rfl) (w:D7 (e::es) X.env=(_f,L8 e X.env)::D7 es X.env:=by rfl) (d:(P8 b (D7 es X.env)).any (·.1)=false:=by rfl) :
    PE X (.Call (.Attribute o name apos) (e::es) [] b) (rR r to t):=by
  intro pins s σ H Q I h;refine vA j c k rfl (Ai (y pins s σ H _ I h) λv s1 ⟨x,B,i,m,ty,q⟩=>?_);obtain⟨p,xs,rfl,hp⟩:=ty;cases m;obtain⟨_,C,_,ob,h1,hc,hd,_⟩:=i.y8 p _ hp;refine⟨"tuple", id,u,slot,f,⟨ob,h1,hc⟩,λa e=>by cases e;exact⟨ob,h1,hd⟩,?_⟩;have g:=ha b pins s1 σ B _ i q;rw[w]at g ⊢;refine Z7 (by show(_f||(P8 b (D7 es X.env)).any (·.1))=_f;rw[d]<;>rfl) (vT ?_);exact Ai g λus s2 ⟨vs,A,z,l,n⟩=>hm pins s2 σ A (.ref p) vs (.ref p) us Q z rfl l n
def fK(K:W.Frag):R2:=λx y H Q=>∃a b ys,x=.ref a/\y=.ref b/\FR K H a []/\FR K H b ys/\Q (.ref b) H
theorem cE:Ce X (binaryOp .Add) (fK X.K):=by
  intro pins s σ H x y v u Q I m l h;obtain⟨a,b,ys,rfl,rfl,ha,r,q⟩:=h;cases m;cases l;obtain⟨t,o,p1,_⟩:=I.tuple ha;obtain⟨j,w,p2,_⟩:=I.tuple r;cases o;obtain⟨⟨cls,dd,data,sl⟩,i,hc,n,hd⟩:=id p1;obtain⟨⟨k,g,data2,f⟩,c,e,p,d⟩:=id p2;simp only at hc hd e d;subst hc hd e d;exact wZ ⟨_,i,rfl⟩ ⟨_,c,rfl⟩ uu vv Z5 Y4 (X0 _ _)
      (tuple_addW0 a b _ j.toArray n p dd g sl f (by simp)) ⟨i,c,⟨.ref b,H,I,rfl,q⟩⟩
def Nw(K:W.Frag):R2:=λx y H Q=>Nx K x y H Q\/fK K x y H Q
theorem cF(K:W.Frag)(h:X.K=K:=by rfl):Ce X (binaryOp .Add) (Nw K):=by subst h;exact cH.or cE
theorem Zk{K:W.Frag}{i j:Int}(q:Q (.int (i+j)) H):Nw K (.int i) (.int j) H Q:=.inl (Zn q)
theorem Zi{K:W.Frag}{i j:Str}(h:i.length+j.length<=1000000)(q:Q (.str (i++j)) H):Nw K (.str i) (.str j) H Q:=.inl (Zl h q)
theorem Zj{K:W.Frag}{a b:A8}{xs ys:List V}(ha:H a=_s (.lst xs))(c:H b=_s (.lst ys))(h:xs.length+ys.length<=1000000)(q:∀p,H p=_n->Q (.ref p) (upd H p (.lst (xs++ys)))):Nw K (.ref a) (.ref b) H Q:=.inl (Zm ha c h q)
def TZ(K:W.Frag):V->Option Int->Option Int->Hp->VK->Prop:=λx lo hi H Q=>WL K x lo hi H Q\/nO K x lo hi H Q
theorem rT(K:W.Frag)(h:X.K=K:=by rfl):VO X (TZ K):=by subst h;exact iJ.or ah
theorem aZ{K:W.Frag}{z:Str}{lo hi:Option Int}(h:z.length<=1000000)(q:Q (.str (uv z lo hi)) H):TZ K (.str z) lo hi H Q:=.inl (ae h q)
theorem iF{K:W.Frag}{a:A8}{xs:List V}{lo hi:Option Int}(h:Dk K H a xs)(q:∀p,H p=_n->Q (.ref p) (upd H p (.lst (Gb xs lo hi)))):TZ K (.ref a) lo hi H Q:=.inl (Vx h q)
theorem aa{K:W.Frag}{a:A8}{xs:List V}{lo hi:Option Int}(h:H a=_s (.lst xs))(q:∀p,H p=_n->Q (.ref p) (upd H p (.lst (Gb xs lo hi)))):TZ K (.ref a) lo hi H Q:=.inl (af h q)
def WJ:V->List V->Hp->VK->Prop:=λx vs H Q=>∃l,x=.str (tx l)/\vs=[]/\(∀c∈l,c < 128)/\l.length<=1000000/\Q (.str (tx (l.map up1))) H
theorem XJ:mF X "str.upper" WJ:=by
 intro pins s σ H x vs v us Q I a rv h;obtain⟨l,rfl,rfl,b,c,q⟩:=h;obtain⟨t,rfl⟩:=a;cases rv.zero;have e:Txt.upper (tx l)=tx (l.map up1):=by rw[upper_ascii (by rw[RK];exact b)];simp[tx]
 refine SC.upper (by rw[e,Cn,B9];exact decide_eq_false (by have:sizeLine=16777216:=R5;omega)) ⟨.str (tx (l.map up1)),H,I.tok _,⟨_,by rw[e]⟩,q⟩
end
end L2
namespace L2
open PySem PySem.Spec PyProof.Rows
variable{items:Array _v}
section
variable{prog:E8}{w:G7}{A:G3}{E:_v->A5->Prop}
theorem Lh{it t:A8}(c:t≠it):∀(n i:Nat)(s:A5)(Q:List _v->A5->Prop),s.heap.IsListIter it t i->s.heap.IsList t items->i+n<=items.size ->
    (∀h',h'.IsListIter it t (i+n)->O6 it s.heap h'->Q ((items.toList.drop i).take n) {s with heap:=h' })->B4 (C7 prog w) A (draw (.ref it) n) Q E s
  |0,i,s,Q,a,_,_,h=>by show B4 _ _ (pure []) Q E s;exact A6 (by simpa using h s.heap a (yp ..))
  |n+1,i,s,Q,a,k,l,h=>by
    have j:i < items.size:=by omega
    show B4 _ _ (o4 (.ref it) >>= _) Q E s;refine A1 (u4 a k (x:=items[i]) (by simp[j]) λh₁ e b=>?_);refine A1 (J8 (Lh c n (i+1) _ _ e (k.extBut b.extBut c) (by omega) λg d f=>A6 ?_));have hd:items.toList.drop i=items[i]::items.toList.drop (i+1):=by simp[S1,j]
    have:=h g (by rw[show i+(n+1)=i+1+n by omega];exact d) (b.trans f);rw[hd,List.take_succ_cons]at this;exact this
theorem Gs{s:A5}{t:A8}{Q:List _v->A5->Prop}(m:A.handled=_n)(c:s.heap.IsList t items)
    (n:∀h',xU s.heap.objs.size s.heap h'->Q items.toList {s with heap:=h' }):B4 (C7 prog w) A (xR (.ref t) items.size _n) Q E s:=by
  have j:t≠s.heap.objs.size:=by obtain⟨o,l,_⟩:=c;exact D6 (B8 l)
  unfold xR;refine A1 ?_;unfold notIterableAtAll;refine A1 (X2 c.typeIs PySem.slot_list_iter.lookup ?_);refine A6 ?_;simp only[B3,if_false];refine A1 (J8 (r9 c ?_));refine A1 (J8 (Lh j items.size 0 _ _ ⟨_,D3 _ rfl,rfl,rfl⟩ (c.push _) (by omega) λh₁ g a=>?_));have i:List.take items.size (List.drop 0 items.toList)=items.toList:=by rw[List.drop_zero];exact List.take_of_length_le (by simp)
  rw[i];rw[if_neg (by simp)];have f:h₁.IsList t items:=(c.push _).extBut a.extBut j;refine A1 (J8 (vN m g f (by simp) λh d=>?_));simp only[Option.isSome_none,B3,if_false];refine A6 (n h λb o k e=>d b o k (a.extBut b o k (A4 _ e)))
theorem NV{s:A5}{t:A8}{a:List (Bool×(_v->Sem Unit))}{Q:Unit->A5->Prop}(d:A.handled=_n)(c:s.heap.IsList t items)
    (hn:a.length=items.size) (b:a.findIdx? (·.1)=_n)
    (h:∀h',xU s.heap.objs.size s.heap h'->B4 (C7 prog w) A (t9 (a.map (·.2)) items.toList) Q E {s with heap:=h' }) :
    B4 (C7 prog w) A (unpack (.ref t) a) Q E s:=by
  unfold unpack;rw[hn,b];exact A1 (J8 (Gs d c h))
end
section
variable{X:Cx}
abbrev kQ(n:Nat)(t:NL):TG:=λv σ H Q=>∃a xs,v=.ref a/\H a=_s (.lst xs)/\xs.length=n/\t xs σ H Q
theorem Wo{es:List Expr}{k:Nat}{t:NL}{n:Nat}{pos:Pos}(hc:X.calm=_t)(h:lS X es t)
    (hn:(N3 es X.env).length=n:=by rfl) (d:(N3 es X.env).findIdx? (·.1)=none:=by rfl):PG X (.Tuple es k pos) (kQ n t):=by
  intro pins s σ H v u Q I r c;obtain⟨a,xs,l,i,j,c⟩:=c;subst l;cases r;obtain⟨p,rv,g,q⟩:=I.list (.inl (.inl i));rw[assign_Tuple];refine A1 (T1 (NV (I.ok.hd hc) g.isList (by simp[hn,<- j,rv.length]) d λh' f=>?_));have m:Inv X pins σ H {s with heap:=h' }:=I.kept (t':=s.toks) λb o e=>f b o (D6 (B8 e)) e;exact h pins _ σ H xs _ Q m (by simpa using rv) c
theorem SN{n:Nat}{js:List Nat}{u:NL}(b:PB js u):VL js (kQ n u):=by rintro x σ H Q ⟨a,xs,e,c,d,q⟩;exact⟨a,xs,e,c,d,b _ _ _ _ q⟩
end
end L2
namespace L2
open PySem PySem.Spec PyProof.Rows PySem.SeqAt
inductive D where
 |fl (v:V)
 |tup (ds:List D)
 |lst (ds:List D)
end L2
namespace L2
open PySem PySem.Spec PyProof.Rows
inductive T where
 |leaf (k:Str) (v:V)
 |op (s:Str) (m n:T)
 |many (k w:Str) (ts:List T)
 |zFG (x:Str) (a b:T)
 |loop (i:Str) (n:T) (x:Str) (a b:T)
 |pick (n:T) (ts:List T)
end L2
namespace L2
open PySem PySem.Spec PyProof.Rows PySem.SeqAt
end L2
namespace L2
open PySem PySem.Spec PyProof.Rows
section
variable{X:Cx}{pins:List (A8×Obj)}{σ:St}{H:Hp}{s:A5}{h':G2}
theorem Inv.zBC{t':Nat}{ch:List A8}(I:Inv X pins σ H s)(k:∀b o,b∉ch->s.heap.get? b=_s o->h'.get? b=_s o)(hf:∀b∈ch,zA X pins H b):Inv X pins σ H {s with heap:=h',toks:=t' }:=by
 have a:∀b u,H b=_s u->b∉ch:=λb u e z=>by have:=(hf b z).1;rw[e]at this;cases this
 refine I.step (g':=s.gens) (d':=s.drawn) (ch:=ch) (λb f=>?_) (λb o _ _ hc e _=>k b o hc e) (λb o _ _ hc e _=>⟨o.slots,k b o hc e⟩) (λ_ _ _ _ n=>n)
  (λb o hc e=>⟨o,k b o hc e⟩) (λ_ _ e=>e) (λ_ _ _ e=>e) (λb ps e=>⟨#[],by rw[e];simp⟩) (λm hm=>?_) (λb u e=>?_) I.bare
 obtain⟨f0,f1,f2,h,f4,g⟩:=hf b f;exact⟨h,f1,f4,g⟩;obtain⟨o,es,i,d,r⟩:=hm;exact⟨o,es,i,k _ o (λz=>(hf _ z).2.1 rfl) d,r⟩;refine(I.y8 b u e).zAv (λc v hc q=>k c v ?_ q) (λ_ q=>q) λ_ _ q=>q;rcases hc with z|z
 rw[z];exact a b u e;exact a c _ z
end
section
variable{X:Cx}
def fG(K:W.Frag):List V->Hp->VK->Prop:=λxs H Q=>∃(p:A8)(ns:List Int),xs=[.ref p]/\Dk K H p (ns.map V.int)/\0 < ns.length/\∀M,M∈ns->(∀a,a∈ns->a<=M)->Q (.int M) H
theorem Uo(K:W.Frag)(l:X.K=K:=by rfl)(hc:X.calm=true:=by rfl):Bb X (.builtin "max") (fG K):=by
 subst l;intro pins s σ H xs us Q I r h;obtain⟨p,ns,rfl,hp,c,q⟩:=h;obtain⟨u,rfl,f⟩:=vals1 r;cases f;obtain⟨m,rv,pl,o⟩:=I.list hp;have d:=pl.isList;have hi:=Fk rv;obtain⟨xs,e⟩:=hi.allInts.items;have b:ns=xs.toList.map (·.1):=by rw[<- hi.numsOf,<- vw,<- e]
 have hsz:0 < xs.size:=by have h3:=c;rw[b,B9,I9]at h3;exact h3
 rw[e]at d;refine max_intList (I.ok.hd hc) d hsz λv h' n g i=>?_;obtain⟨t,rfl⟩:=s9 g;obtain⟨h1,h2⟩:=x9 (xV xs) (xs.size-1);refine⟨.int _,H,I.kept i,⟨t,rfl⟩,q _ ?_ λa ha=>?_⟩;rw[b,vW];exact getD_mem (by rw[B9,I9];omega);rw[b]at ha;obtain⟨j,k,rfl⟩:=mem_getD ha;rw[B9,I9]at k;rw[<- vW];exact h2 j (by omega)
end
section
variable{κ:Type}[DecidableEq κ]
noncomputable def Gr(y7:List (κ×V))(k:κ):Option V:=(y7.find? λa=>decide (a.1=k)).map (·.2)
noncomputable def KZ(y7:List (κ×V))(k:κ)(v:V):List (κ×V):=
 if(y7.any λa=>decide (a.1=k))=_t then y7.map (λa=>if a.1=k then(a.1,v)else a)else y7++[(k,v)]
theorem Il{p:κ×V}{r:List (κ×V)}{k:κ}(e:p.1=k):Gr (p::r) k=_s p.2:=by simp[Gr,j8,e]
theorem Im{p:κ×V}{r:List (κ×V)}{k:κ}(e:¬p.1=k):Gr (p::r) k=Gr r k:=by simp[Gr,j8,e]
theorem NU(k:κ):∀y7:List (κ×V),(y7.any λa=>decide (a.1=k))=(Gr y7 k).isSome
 |[]=>rfl
 |p::r=>by rw[T5];by_cases e:p.1=k;simp only[Il e,decide_eq_true e,vD,wI];rw[Im e,decide_eq_false e,Bool.false_or];exact NU k r
theorem OR(y7:List (κ×V))(k:κ)(v:V):(KZ y7 k v).length<=y7.length+1:=by unfold KZ;split;rw[B9];omega;rw[F0,E3,vJ];omega
theorem Gh.zAY{o:Option V}{u:Option _v}(r:Gh o u):o.isSome=u.isSome:=by
 cases o with
 |none=>cases u with
  |none=>rfl
  |some _=>exact(show False from r).elim
 |some _=>cases u with
  |none=>exact(show False from r).elim
  |some _=>rfl
theorem KV.length{y7:List (κ×V)}{vs:List (κ×_v)}(r:KV y7 vs):y7.length=vs.length:=Paired.length r
end
theorem fS{P:E8}{w:G7}{k:BY}{u:_v}(r:RelV (kV k) u):(Ak P w).is k u=true:=by
 cases k with|inl i=>obtain⟨t,e⟩:=(show ∃t,u=vf i t from r);subst e;exact OL P w i t|inr x=>obtain⟨t,e⟩:=(show ∃t,u=vg x t from r);subst e;exact OK P w x t
theorem LW{P:E8}{w:G7}:∀{ks:List BY}{us:List _v},AI (ks.map kV) us->ItemsAre (Ak P w) ks us
 |[],_,r=>by rw[S7]at r;cases r;exact .nil
 |k::ks,_,r=>by
  rw[A9]at r;cases r with|cons h t=>exact .cons (fS h) (LW t)
section
variable{P:E8}{w:G7}{H:Hp}{h:G2}{a:A8}
theorem nD{u:HO}(ok:EM P w H h)(e:Rd H a u):An P w H h a u:=e.ok ok
theorem gA{y7:List (BY×V)}(ok:EM P w H h)(e:Rd H a (.dK y7)):y7.length<=sizeLine/\(a==V4)=_f/\∃vs,KV y7 vs/\h.DictOf (Ak P w) a vs:=
 show An P w H h a (.dK y7)from nD ok e
theorem pv{y7:List (BY×V)}(ok:EM P w H h)(e:H a=_s (.dK y7)):y7.length<=sizeLine/\(a==V4)=_f/\∃vs,KV y7 vs/\h.DictOf (Ak P w) a vs:=gA ok (.inl e)
theorem kA{ks:List BY}(ok:EM P w H h)(e:H a=_s (.tup (ks.map kV))):(tupleKind (Ak P w)).is h ks a:=by obtain⟨_,b,r,o,h1,h2,_,n,h3⟩:=(show An P w H h a (.tup (ks.map kV))from ok a _ e);exact⟨o,b.toArray,n,h1,h2,h3,by simpa using LW r⟩
end
section
variable{X:Cx}{pins:List (A8×Obj)}{σ:St}{H:Hp}{s:A5}{a:A8}{y v:V}{u r:_v}{o:Option V}{A:G3}{E:_v->A5->Prop}
theorem Inv.big(I:Inv X pins σ H s):V4 < s.heap.objs.size:=by have h:K4 < s.heap.objs.size:=(I.mod.glob.keeps I.bk).lt;exact Nat.lt_trans (by decide) h
theorem Mx{h':G2}{t':Nat}{ob:HO}(I:Inv X pins σ H s)(mu:mE (H a))(c:O6 a s.heap h')(d:∃q,h'.get? a=_s q)(new:An X.prog X.w (upd H a ob) h' a ob) :
    Inv X pins σ (upd H a ob) {s with heap:=h',toks:=t' }:=
  I.write (x:=a) (e:=a) mu (.inl rfl) (λb q f z=>(c.2 b f).trans z) d new
end
section
variable{X:Cx}{pins:List (A8×Obj)}{σ:St}{H:Hp}{s:A5}{a:A8}{y7:List (BY×V)}{k:BY}{u:_v}{A:G3}{E:_v->A5->Prop}
theorem pz{Q:_v->A5->Prop}(I:Inv X pins σ H s)(e:Rd H a (.dK y7))(h:∀t s',Inv X pins σ H s'->Q (.int y7.length t) s'):B4 (C7 X.prog X.w) A (call (.builtin "len") [.ref a]) Q E s:=by obtain⟨z,hd,vs,b,dd⟩:=gA I.y8 e;refine call_len_dict hd dd (by rw[<- b.length];rw[R5]at z;omega) ?_;rw[<- b.length];exact h _ _ (I.tok _)
end
theorem Yq{P:E8}{w:G7}{H:Hp}(h:G2)(a:V4 < h.objs.size):An P w H (h.push {cls:=.type "dict", data:=.dict #[]}) h.objs.size (.dK []):=
 ⟨G8 _,beq_eq_false_iff_ne.mpr (Ne.symm (D6 a)),[],.nil,yr h⟩
abbrev iC:TE:=λ_ H Q=>∀p,H p=_n->Q (.ref p) (upd H p (.dK []))
section
variable{X:Cx}{pos:Pos}
theorem Ww:PE X (.Dict [] [] pos) iC:=λpins s σ H Q I h =>
 wpAny_Dict_empty ⟨.ref s.heap.objs.size,_,I.laid (a:=s.heap.objs.size) (o:=.dK []) (t':=s.toks) (λ_ _ q=>A4 _ q) (C4 _) (Yq s.heap I.big),rfl,h _ (I.y8.fresh (C4 _))⟩
end
section
variable{X:Cx}
theorem Us:Bb X (.builtin "len") (λxs H Q=>∃a y7,xs=[V.ref a]/\H a=_s (.dK y7)/\Q (.int y7.length) H):=by intro pins s σ H xs us Q I r h;obtain⟨a,y7,rfl,ha,q⟩:=h;obtain⟨u,rfl,b⟩:=vals1 r;cases b;exact pz I (.inl ha) λt s' c=>⟨.int y7.length,H,c,⟨t,rfl⟩,q⟩
end
noncomputable def cs(z:Str):List Nat:=z.cps.toList
noncomputable def jn(a:List Nat):List (List Nat)->List Nat
 |[]=>[]
 |x::ys=>x++(ys.flatMap λy=>a++y)
theorem mQ(a:List Nat):∀ys:List (List Nat),yi (tx a) (ys.map tx)=tx (jn a ys):=by
 intro ys;have h:yi (tx a) (ys.map tx)=yA (tx a) (ys.map tx):=by simpa using join_plain_closes (tx a) (ys.map tx)
 rw[h];have:∀(x:List Nat)(ys:List (List Nat)),yA (tx a) ((x::ys).map tx)=tx (x++(ys.flatMap λy=>a++y)):=by
  intro x ys;induction ys generalizing x with|nil=>simp[yA]|cons y ys b=>show tx x++tx a++yA (tx a) ((y::ys).map tx)=_;rw[b y,PL,PL];simp
 cases ys with|nil=>rfl|cons x ys=>exact this x ys
theorem gr(ys:List (List Nat)):((ys.map tx).map (·.length)).sum=(ys.map Y3).sum:=by rw[L7];congr 1
end L2
namespace L2
open PySem
abbrev eR(l:W.OpenLaw)(n:Nat)(as:List A8)(K:wG->W.Frag)(N:Nat):Prop:=
 W.LeftO l.row.prog (W.view l.prog (B6 n)) [] (λs=>W.xlAt (W.view l.prog (B6 n)) [] s&&W.recOk [] s) (λs=>as.map s.heap.get?) (λw=>(K w.params).map λp=>_s p.2) N
theorem zCz{l:W.OpenLaw}{n:Nat}{N:Nat}{d:yV}{K:wG->W.Frag}{as:List A8}(ws:l.wellSaid=_t)(left:eR l n as K N)
    (has:∀P,as=(K P).map (·.1)) (h:l.row.records=[]) (a:W.defOf (W.view l.prog (B6 n)) l.row.name=_s (d,[])) (hp:l.row.prog.theDef l.row.name=_s (d.params,d.body,d.scope)) (i:W.kwWritten? d.params.kwonlyargs d.params.kw_defaults=_s [])
    (c:(!l.row.writes||l.row.records.isEmpty)=_t)
    (ok:(W.chainsOk (W.view l.prog (B6 n))&&W.opensWell l.row.prog&&(W.frees l.row.toRowW&&l.row.within.isEmpty))=_t) (j:l.row.prog.bare) (g:l.row.toRowW.promised)
    (call:W.WalkO (W.view l.prog (B6 n)) [] (W.XL (W.view l.prog (B6 n)) []) (W.InK K) l.row.toRowW d [] λf vs=>wH f vs):l.Holds:=
  W.holds_law ws λb=>W.holds_open (q:=W.view l.prog (B6 n)) (loose:=[]) (XP:=W.XL (W.view l.prog (B6 n)) []) (YP:=W.InK K) left (W.InK.of has) W.InK.keeps (λs e=>W.xl_of s (Q0.mp e).1) W.XL.keeps a hp i (λs e=>W.recFacts_nil h) c b ok j g call
noncomputable abbrev ke(P:wG)(x:Str)(t:Tok)(v:_v):DictEntry:=⟨PyData.keyHash P x,.str x t,v⟩
noncomputable abbrev cO(x:Str)(t:Tok)(l a s:Int)(f e:A8)(v1 v2 c:_v)(d:A8)(b:Nat):Obj:=⟨.type "code", _n,.fields #[.str x t,.str x (t+1),.str "/claim/cut.py" (t+2),.int l 0,.int a 0,.int 0 0,.int 0 0,.int s 0,.ref f,.bool _t,.int 181 0,.ref e,v1,v2,c,.ref d,.int b 0,.int l 0,.str "/claim/cut.py" (b+1)],#[]⟩
noncomputable def kj:G5->Pos
 |.FunctionDef _ _ _ _ _ _ _ _ _ p=>p
 |_=>⟨0,0,0,0⟩
noncomputable def As(K:W.Frag)(n:Str):A8:=match W.nsIn K K4 n with
 |some (_s (.ref a))=>a
 |_=>0
noncomputable def bY(K:W.Frag)(f:A8):Value:=match K.lookup f with
 |some ⟨_,_,.func d,_⟩=>d.pyModule
 |_=>.none
noncomputable def Uk(K:W.Frag)(f:A8):Value:=match K.lookup f with
 |some ⟨_,_,.func d,_⟩=>d.code
 |_=>.none
abbrev GF(K:W.Frag)(n:Str)(t:G5):Prop:=W.nsIn K K4 n=_s (_s (.ref (As K n))) /\
 K.lookup (As K n)=_s ⟨.type "function", _n,.func (W.fnOf n n (BM t) (AZ t) (AE t) .none .none .none (bY K (As K n)) _n (Uk K (As K n)) .none),#[]⟩ /\
 W.codeIn K (Uk K (As K n)) n=_t/\W.keepIn K (.ref (As K n))=_t
theorem QR{K:W.Frag}{n:Str}{t:G5}(h:GF K n t):Fun K n n t (As K n) (W.fnOf n n (BM t) (AZ t) (AE t) .none .none .none (bY K (As K n)) _n (Uk K (As K n)) .none):=Mi h.2.1 h.2.2.1 h.2.2.2
end L2
namespace R
open PySem L2
set_option genInjectivity true in
inductive Dv where
 |yw|bl (b:Bool)|int (i:Int)|str (x:List Nat)|tup (xs:List Dv)|lst (xs:List Dv)|dct (ks:List BY) (xs:List Dv)|ref (k:Nat)|scr (ns:List Int)|ty (n:String)|mtp (ls:List (List Nat))|dtt (ks:List (List BY)) (xs:List Dv)|dnt (ks:List (NK BY)) (xs:List Dv)|obj (c:Str) (fl nm:List Str) (xs:List Dv)
 deriving Inhabited
structure G where
 Z:A8->Prop
 μ:List A8
noncomputable abbrev Fp:=A8->Prop
def Bu(P Q:Fp):Prop:=∀a,P a->Q a->False
def yv:Fp:=λ_=>False
def Lk(g:G)(H:Hp)(o:Nat)(a:A8)(vs:List V):Prop:=H a=_s (.lst vs)/\(o=0->g.Z a)/\(o≠0->¬g.Z a)
def qw(K:W.Frag)(H:Hp)(a:A8)(ns:List Int):Prop:=(∃o,H a=_s (.frz o (.lst (ns.map V.int)))) \/
    ∃(o:Obj)(b:Array _v)(n:Nat),K.lookup a=_s o/\o.cls=.type "list" /\ o.dict=_n/\o.data=.seq b n/\b.size<=sizeLine/\AI (ns.map V.int) b.toList
theorem qw.sq{K:W.Frag}{H:Hp}{a:A8}{ns:List Int}(h:qw K H a ns):Dk K H a (ns.map V.int):=h.elim (λh=>.inl (.inr h)) .inr
def ua(K:W.Frag)(a:A8)(ls:List (List Nat)):Prop:=∃(o:Obj)(b:Array _v)(n:Nat),K.lookup a=_s o/\o.cls=.type "tuple" /\ o.data=.seq b n/\b.size<=sizeLine/\AI (ls.map λl=>V.str (tx l)) b.toList
def eK(K:W.Frag)(c:Str)(fl:List Str):Prop:=Cls K (As K c)/\∀f∈fl,Em K (As K c) f
mutual
noncomputable def Rep(K:W.Frag)(g:G)(H:Hp):Nat->Dv->V->Fp->Prop
 |_,.yw,v,P=>v=.yw/\∀a,¬P a
 |_,.bl b,v,P=>v=.bl b/\∀a,¬P a
 |_,.int i,v,P=>v=.int i/\∀a,¬P a
 |_,.str l,v,P=>v=.str (tx l)/\∀a,¬P a
 |o,.tup ds,v,P=>∃a vs,v=.ref a/\H a=_s (.tup vs)/\AA K g H (o-1) ds vs P
 |o,.lst ds,v,P=>∃a vs P',v=.ref a/\Lk g H o a vs/\AA K g H (o-1) ds vs P'/\¬P' a/\∀b,P b↔(o≠0/\b=a)\/P' b
 |o,.dct ks ds,v,P=>∃a vs,v=.ref a/\H a=_s (.dK (ks.zip vs))/\(o=0->g.Z a)/\(o≠0->¬g.Z a)/\(ks.length=ds.length/\∃R,AA K g H 0 ds vs R)/\∀b,P b↔(o≠0/\b=a)
 |_,.ref k,v,P=>(∃a,g.μ[k]?=_s a/\v=.ref a)/\∀a,¬P a
 |_,.scr ns,v,P=>(∃a,v=.ref a/\qw K H a ns)/\∀a,¬P a
 |_,.ty n,v,P=>v=.ty n/\∀a,¬P a
 |_,.mtp ls,v,P=>(∃a,v=.ref a/\ua K a ls)/\∀a,¬P a
 |o,.dtt ks ds,v,P=>∃a vs,v=.ref a/\H a=_s (.dT (ks.zip vs))/\(o=0->g.Z a)/\(o≠0->¬g.Z a)/\(ks.length=ds.length/\∃R,AA K g H 0 ds vs R)/\∀b,P b↔(o≠0/\b=a)
 |o,.dnt ks ds,v,P=>∃a vs,v=.ref a/\H a=_s (.dN (ks.zip vs))/\(o=0->g.Z a)/\(o≠0->¬g.Z a)/\(ks.length=ds.length/\∃R,AA K g H 0 ds vs R)/\∀b,P b↔(o≠0/\b=a)
 |o,.obj c fl nm ds,v,P=>∃a dx vs P',v=.ref a/\H a=_s (.ins (As K c) dx (nm.zip vs))/\(o=0->g.Z a)/\(o≠0->¬g.Z a)/\(eK K c fl/\nm.length=ds.length/\∀f∈nm,f∈fl)/\AA K g H o ds vs P'/\¬P' a/\∀b,P b↔(o≠0/\b=a)\/P' b
noncomputable def AA(K:W.Frag)(g:G)(H:Hp):Nat->List Dv->List V->Fp->Prop
 |_,[],vs,P=>vs=[]/\∀a,¬P a
 |o,d::ds,vs,P=>∃v r P1 P2,vs=v::r/\Rep K g H o d v P1/\AA K g H o ds r P2/\Bu P1 P2/\∀a,P a↔P1 a\/P2 a
end
def Zd(g:G)(H:Hp):Prop:=∀a,g.Z a->H a≠_n
structure Step (g:G) (P:Fp) (H:Hp) (g':G) (P':Fp) (H':Hp):Prop where
 keep:∀b o,H b=_s o->¬P b->H' b=_s o
 dom:∀b,H' b=_n->H b=_n
 zm:∀a,g.Z a->g'.Z a
 zn:∀a,g'.Z a->g.Z a\/P a\/H a=_n
 mu:∃r,g'.μ=g.μ++r
 nw:∀a,P' a->P a\/H a=_n
 zd:Zd g H->Zd g' H'
 ins:∀b C dx fs,H b=_s (.ins C dx fs)->∃fs',H' b=_s (.ins C dx fs')/\∀f r,fs.lookup f=_s (.ref r)->fs'.lookup f=_s (.ref r)
theorem Step.refl{g:G}{P:Fp}{H:Hp}:Step g P H g P H:=⟨λ_ _ h _=>h,λ_ h=>h,λ_ h=>h,λ_ h=>.inl h,⟨[],by simp⟩,λ_ h=>.inl h,λh=>h,λ_ _ _ fs h=>⟨fs,h,λ_ _ z=>z⟩⟩
theorem Step.trans{g g1 g2:G}{P P1 P2:Fp}{H H1 i:Hp}(a:Step g P H g1 P1 H1)(b:Step g1 P1 H1 g2 P2 i):Step g P H g2 P2 i:=by
 refine⟨λc o h n=>?_,λc h=>a.dom c (b.dom c h),λc h=>b.zm c (a.zm c h),λc h=>?_,?_,λc h=>?_,λz=>b.zd (a.zd z),λc C dx fs h=>?_⟩;refine b.keep c o (a.keep c o h n) λz=>?_;rcases a.nw c z with z|z
 exact n z;rw[h]at z;cases z;rcases b.zn c h with z|z|z
 exact a.zn c z;exact(a.nw c z).elim (λq=>.inr (.inl q)) λq=>.inr (.inr q);exact .inr (.inr (a.dom c z));obtain⟨k,e⟩:=a.mu;obtain⟨j,d⟩:=b.mu;exact⟨k++j,by rw[d,e,J3]⟩;rcases b.nw c h with z|z
 exact a.nw c z;exact .inr (a.dom c z);obtain⟨f1,e,k1⟩:=a.ins c C dx fs h;obtain⟨f2,d,k2⟩:=b.ins c C dx f1 e;exact⟨f2,d,λf r z=>k2 f r (k1 f r z)⟩
theorem Step.sub{g g':G}{P Q P' c:Fp}{H H':Hp}(s:Step g P H g' P' H')(h1:∀a,P a->Q a)(h2:∀a,c a->P' a):Step g Q H g' c H':=
 ⟨λb o h n=>s.keep b o h λz=>n (h1 b z),s.dom,s.zm,λa h=>(s.zn a h).elim .inl λz=>.inr (z.elim (λq=>.inl (h1 a q)) .inr),s.mu,λa h=>(s.nw a (h2 a h)).elim (λq=>.inl (h1 a q)) .inr,s.zd,s.ins⟩
theorem Step.less{g g':G}{P P' b:Fp}{H H':Hp}(s:Step g P H g' P' H')(h2:∀a,b a->P' a):Step g P H g' b H':=s.sub (λ_ q=>q) h2
theorem Step.frame{g g':G}{P P' R:Fp}{H H':Hp}(s:Step g P H g' P' H'):Step g (λa=>P a\/R a) H g' (λa=>P' a\/R a) H':=
 ⟨λb o h n=>s.keep b o h λz=>n (.inl z),s.dom,s.zm,λa h=>(s.zn a h).elim .inl λz=>.inr (z.elim (λq=>.inl (.inl q)) .inr),s.mu,λa h=>h.elim (λq=>(s.nw a q).elim (λz=>.inl (.inl z)) .inr) λq=>.inl (.inr q),s.zd,s.ins⟩
theorem Step.same{g:G}{P:Fp}{H H':Hp}(s:ID H H'):Step g P H g P H':=
 have c:∀b,H' b=_n->H b=none:=λb h=>by
  cases e:H b with|none=>rfl|some o=>rw[s b o e]at h;cases h
 ⟨λb o h _=>s b o h,c,λ_ h=>h,λ_ h=>.inl h,⟨[],by simp⟩,λ_ h=>.inl h,λz a h q=>z a h (c a q),λb C dx fs h=>⟨fs,s b _ h,λ_ _ z=>z⟩⟩
theorem IF{H:Hp}{a:A8}{o u:HO}(h:H a=_s u)(c:∀C dx fs,u≠.ins C dx fs):∀b C dx fs,H b=_s (.ins C dx fs)->∃fs',upd H a o b=_s (.ins C dx fs')/\∀f r,fs.lookup f=_s (.ref r)->fs'.lookup f=_s (.ref r):=λb C dx fs e =>
 ⟨fs,by rw[AC λz=>by subst z;rw[h]at e;exact c C dx fs (C3 e)];exact e,λ_ _ z=>z⟩
def zA(g:G)(H:Hp)(P:Fp):Prop:=∀a,P a->mE (H a)/\¬g.Z a
theorem zA.or{g:G}{H:Hp}{P Q:Fp}(h:zA g H P)(k:zA g H Q):zA g H λa=>P a\/Q a:=λa q=>q.elim (h a) (k a)
theorem zA.yv{g:G}{H:Hp}:zA g H yv:=λ_ z=>z.elim
theorem zA.new{g:G}{H:Hp}{P:Fp}(h:zA g H P){a:A8}(n:H a=_n):¬P a:=λz=>by have:=(h a z).1;rw[n]at this;exact this
theorem DA{P:Fp}(h:∀a,¬P a):P=yv:=funext λa=>propext ⟨λz=>(h a z).elim,λz=>z.elim⟩
section
variable{K:W.Frag}{g g':G}{H H':Hp}
theorem Step.out{P P' R:Fp}(s:Step g P H g' P' H')(ok:zA g H R)(n:Bu R P):Bu R P':=λa q z=>(s.nw a z).elim (λz=>n a q z) λz=>ok.new z q
theorem Lk.held{o:Nat}{a:A8}{vs:List V}{P P':Fp}(h:Lk g H o a vs)(hn:o≠0->¬P a)(s:Step g P H g' P' H')(ok:zA g H P):Lk g' H' o a vs:=by
 have np:¬P a:=by by_cases z:o=0;exact λq=>(ok a q).2 (h.2.1 z);exact hn z
 refine⟨s.keep _ _ h.1 np,λz=>s.zm _ (h.2.1 z),λz q=>?_⟩;rcases s.zn _ q with q|q|q
 exact h.2.2 z q;exact np q;rw[h.1]at q;cases q
mutual
theorem Rep.zS:∀{d:Dv}{v:V}{R:Fp},Rep K g H 0 d v R->∀a,¬R a
 |.yw,v,R,h|.bl _,v,R,h|.int _,v,R,h|.str _,v,R,h|.ty _,v,R,h|.mtp _,v,R,h|.ref _,v,R,h|.scr _,v,R,h=>by unfold Rep at h;exact h.2
 |.dtt ks ds,v,R,h=>by unfold Rep at h;obtain⟨b,vs,e,h1,h2,h3,h5,h4⟩:=h;exact λa q=>((h4 a).mp q).1 rfl
 |.dnt ks ds,v,R,h=>by unfold Rep at h;obtain⟨b,vs,e,h1,h2,h3,h5,h4⟩:=h;exact λa q=>((h4 a).mp q).1 rfl
 |.obj c fl nm ds,v,R,h=>by unfold Rep at h;obtain⟨b,dx,vs,R',e,h1,f,hn,i,h2,h3,h5⟩:=h;exact λa q=>((h5 a).mp q).elim (λz=>z.1 rfl) λz=>AA.zS h2 a z
 |.tup ds,v,R,h=>by unfold Rep at h;obtain⟨_,vs,e,h1,h2⟩:=h;exact AA.zS h2
 |.lst ds,v,R,h=>by unfold Rep at h;obtain⟨b,vs,R',e,h1,h2,h3,h5⟩:=h;exact λa q=>((h5 a).mp q).elim (λz=>z.1 rfl) λz=>AA.zS h2 a z
 |.dct ks ds,v,R,h=>by unfold Rep at h;obtain⟨b,vs,e,h1,h2,h3,h5,h4⟩:=h;exact λa q=>((h4 a).mp q).1 rfl
theorem AA.zS:∀{ds:List Dv}{vs:List V}{R:Fp},AA K g H 0 ds vs R->∀a,¬R a
 |[],vs,R,h=>by unfold AA at h;exact h.2
 |d::ds,vs,R,h=>by unfold AA at h;obtain⟨v,r,P1,P2,e,h1,h2,h3,h4⟩:=h;exact λa q=>((h4 a).mp q).elim (λz=>Rep.zS h1 a z) λz=>AA.zS h2 a z
end
mutual
theorem Rep.held{P P':Fp}(s:Step g P H g' P' H')(ok:zA g H P):∀{o:Nat}{d:Dv}{v:V}{R:Fp},Rep K g H o d v R->Bu R P->Rep K g' H' o d v R
 |_,.yw,v,R,h,_|_,.bl _,v,R,h,_|_,.int _,v,R,h,_|_,.str _,v,R,h,_|_,.ty _,v,R,h,_|_,.mtp _,v,R,h,_=>by unfold Rep at h ⊢;exact h
 |o,.dtt ks ds,v,R,h,d=>by
  unfold Rep at h ⊢;obtain⟨a,vs,e,h1,h2,h3,⟨h5,R',h6⟩,h4⟩:=h;have hn:¬P a:=λz=>by by_cases q:o=0;exact(ok a z).2 (h2 q);exact d a ((h4 a).mpr ⟨q,rfl⟩) z
  refine⟨a,vs,e,s.keep _ _ h1 hn,λq=>s.zm _ (h2 q),λq z=>?_,⟨h5,R',AA.held s ok h6 λb q z=>(AA.zS h6 b q).elim⟩,h4⟩;rcases s.zn _ z with z|z|z
  exact h3 q z;exact hn z;rw[h1]at z;cases z
 |o,.dnt ks ds,v,R,h,d=>by
  unfold Rep at h ⊢;obtain⟨a,vs,e,h1,h2,h3,⟨h5,R',h6⟩,h4⟩:=h;have hn:¬P a:=λz=>by by_cases q:o=0;exact(ok a z).2 (h2 q);exact d a ((h4 a).mpr ⟨q,rfl⟩) z
  refine⟨a,vs,e,s.keep _ _ h1 hn,λq=>s.zm _ (h2 q),λq z=>?_,⟨h5,R',AA.held s ok h6 λb q z=>(AA.zS h6 b q).elim⟩,h4⟩;rcases s.zn _ z with z|z|z
  exact h3 q z;exact hn z;rw[h1]at z;cases z
 |o,.obj c fl nm ds,v,R,h,d=>by
  unfold Rep at h ⊢;obtain⟨a,dx,vs,R',e,h1,h2,h3,f,h6,h7,h4⟩:=h;have hn:¬P a:=λz=>by by_cases q:o=0;exact(ok a z).2 (h2 q);exact d a ((h4 a).mpr (.inl ⟨q,rfl⟩)) z
  refine⟨a,dx,vs,R',e,s.keep _ _ h1 hn,λq=>s.zm _ (h2 q),λq z=>?_,f,AA.held s ok h6 λb q z=>d b ((h4 b).mpr (.inr q)) z,h7,h4⟩;rcases s.zn _ z with z|z|z
  exact h3 q z;exact hn z;rw[h1]at z;cases z
 |o,.tup ds,v,R,h,n=>by unfold Rep at h ⊢;obtain⟨a,vs,e,h1,h2⟩:=h;exact⟨a,vs,e,s.keep _ _ h1 λz=>(by have:=(ok a z).1;rw[h1]at this;exact this),AA.held s ok h2 n⟩
 |o,.lst ds,v,R,h,n=>by unfold Rep at h ⊢;obtain⟨a,vs,R',e,h1,h2,h3,h5⟩:=h;exact⟨a,vs,R',e,h1.held (λz q=>n a ((h5 a).mpr (.inl ⟨z,rfl⟩)) q) s ok,AA.held s ok h2 λb q z=>n b ((h5 b).mpr (.inr q)) z,h3,h5⟩
 |o,.dct ks ds,v,R,h,d=>by
  unfold Rep at h ⊢;obtain⟨a,vs,e,h1,h2,h3,⟨h5,R',h6⟩,h4⟩:=h;have hn:¬P a:=λz=>by by_cases q:o=0;exact(ok a z).2 (h2 q);exact d a ((h4 a).mpr ⟨q,rfl⟩) z
  refine⟨a,vs,e,s.keep _ _ h1 hn,λq=>s.zm _ (h2 q),λq z=>?_,⟨h5,R',AA.held s ok h6 λb q z=>(AA.zS h6 b q).elim⟩,h4⟩;rcases s.zn _ z with z|z|z
  exact h3 q z;exact hn z;rw[h1]at z;cases z
 |_,.ref k,v,R,h,_=>by unfold Rep at h ⊢;obtain⟨⟨a,h1,h2⟩,h3⟩:=h;obtain⟨r,e⟩:=s.mu;refine⟨⟨a,?_,h2⟩,h3⟩;rw[e,F9 (A7.mp h1).1];exact h1
 |_,.scr ns,v,R,h,_=>by
  unfold Rep at h ⊢;obtain⟨⟨a,h1,h2⟩,h3⟩:=h;refine⟨⟨a,h1,?_⟩,h3⟩;rcases h2 with⟨o,h2⟩|h2
  exact .inl ⟨o,s.keep _ _ h2 λz=>by have:=(ok a z).1;rw[h2]at this;exact this⟩;exact .inr h2
theorem AA.held{P P':Fp}(s:Step g P H g' P' H')(ok:zA g H P):∀{o:Nat}{ds:List Dv}{vs:List V}{R:Fp},AA K g H o ds vs R->Bu R P->AA K g' H' o ds vs R
 |_,[],vs,R,h,_=>by unfold AA at h ⊢;exact h
 |o,d::ds,vs,R,h,n=>by unfold AA at h ⊢;obtain⟨v,r,P1,P2,e,h1,h2,h3,h4⟩:=h;exact⟨v,r,P1,P2,e,Rep.held s ok h1 λa q z=>n a ((h4 a).mpr (.inl q)) z,AA.held s ok h2 λa q z=>n a ((h4 a).mpr (.inr q)) z,h3,h4⟩
end
mutual
theorem Rep.y6:∀{o:Nat}{d:Dv}{v:V}{R:Fp},Rep K g H o d v R->zA g H R
 |_,.yw,v,R,h,a,q|_,.bl _,v,R,h,a,q|_,.int _,v,R,h,a,q|_,.str _,v,R,h,a,q|_,.ty _,v,R,h,a,q|_,.mtp _,v,R,h,a,q|_,.ref _,v,R,h,a,q|_,.scr _,v,R,h,a,q=>by unfold Rep at h;exact(h.2 a q).elim
 |o,.dtt ks ds,v,R,h,a,q=>by unfold Rep at h;obtain⟨b,vs,e,h1,h2,h3,h5,h4⟩:=h;obtain⟨f,rfl⟩:=(h4 a).mp q;exact⟨by rw[h1];trivial,h3 f⟩
 |o,.dnt ks ds,v,R,h,a,q=>by unfold Rep at h;obtain⟨b,vs,e,h1,h2,h3,h5,h4⟩:=h;obtain⟨f,rfl⟩:=(h4 a).mp q;exact⟨by rw[h1];trivial,h3 f⟩
 |o,.obj c fl nm ds,v,R,h,a,q=>by
  unfold Rep at h;obtain⟨b,dx,vs,R',e,h1,h2,h3,i,h6,h7,h4⟩:=h;rcases(h4 a).mp q with⟨z,rfl⟩|z
  exact⟨by rw[h1];trivial,h3 z⟩;exact AA.y6 h6 a z
 |o,.tup ds,v,R,h,a,q=>by unfold Rep at h;obtain⟨_,vs,e,h1,h2⟩:=h;exact AA.y6 h2 a q
 |o,.lst ds,v,R,h,a,q=>by
  unfold Rep at h;obtain⟨b,vs,R',e,h1,h2,h3,h5⟩:=h;rcases(h5 a).mp q with⟨z,rfl⟩|z
  exact⟨by rw[h1.1];trivial,h1.2.2 z⟩;exact AA.y6 h2 a z
 |o,.dct ks ds,v,R,h,a,q=>by unfold Rep at h;obtain⟨b,vs,e,h1,h2,h3,h5,h4⟩:=h;obtain⟨f,rfl⟩:=(h4 a).mp q;exact⟨by rw[h1];trivial,h3 f⟩
theorem AA.y6:∀{o:Nat}{ds:List Dv}{vs:List V}{R:Fp},AA K g H o ds vs R->zA g H R
 |_,[],vs,R,h,a,q=>by unfold AA at h;exact(h.2 a q).elim
 |o,d::ds,vs,R,h,a,q=>by
  unfold AA at h;obtain⟨v,r,P1,P2,e,h1,h2,h3,h4⟩:=h;rcases(h4 a).mp q with z|z
  exact Rep.y6 h1 a z;exact AA.y6 h2 a z
end
theorem AA.iff{o:Nat}{d:List Dv}{v:List V}{P Q:Fp}(h:AA K g H o d v P)(e:∀a,Q a↔P a):AA K g H o d v Q:=by have:Q=P:=funext λa=>propext (e a);rw[this];exact h
theorem Rep.z{d:Dv}{v:V}{R:Fp}(h:Rep K g H 0 d v R):Rep K g H 0 d v yv:=by rw[<- DA h.zS];exact h
theorem AA.z{d:List Dv}{v:List V}{R:Fp}(h:AA K g H 0 d v R):AA K g H 0 d v yv:=by rw[<- DA h.zS];exact h
def G.add(g:G)(P:Fp):G:={g with Z:=λa=>g.Z a\/P a}
mutual
theorem Rep.freeze{P:Fp}:∀{o:Nat}{d:Dv}{v:V}{R:Fp},Rep K g H o d v R->(∀a,R a->P a)->Rep K (g.add P) H 0 d v yv
 |_,.yw,v,R,h,_|_,.bl _,v,R,h,_|_,.int _,v,R,h,_|_,.str _,v,R,h,_|_,.ty _,v,R,h,_|_,.mtp _,v,R,h,_|_,.ref _,v,R,h,_|_,.scr _,v,R,h,_=>by unfold Rep at h ⊢;exact⟨h.1,λ_ z=>z⟩
 |o,.dtt ks ds,v,R,h,s=>by unfold Rep at h ⊢;obtain⟨a,vs,e,h1,h2,h3,⟨h5,R',h6⟩,h4⟩:=h;refine⟨a,vs,e,h1,λ_=>?_,λz=>(z rfl).elim,⟨h5,yv,AA.freeze h6 λb q=>(AA.zS h6 b q).elim⟩,λb=>⟨λz=>z.elim,λz=>(z.1 rfl).elim⟩⟩;by_cases q:o=0;exact .inl (h2 q);exact .inr (s a ((h4 a).mpr ⟨q,rfl⟩))
 |o,.dnt ks ds,v,R,h,s=>by unfold Rep at h ⊢;obtain⟨a,vs,e,h1,h2,h3,⟨h5,R',h6⟩,h4⟩:=h;refine⟨a,vs,e,h1,λ_=>?_,λz=>(z rfl).elim,⟨h5,yv,AA.freeze h6 λb q=>(AA.zS h6 b q).elim⟩,λb=>⟨λz=>z.elim,λz=>(z.1 rfl).elim⟩⟩;by_cases q:o=0;exact .inl (h2 q);exact .inr (s a ((h4 a).mpr ⟨q,rfl⟩))
 |o,.obj c fl nm ds,v,R,h,s=>by unfold Rep at h ⊢;obtain⟨a,dx,vs,R',e,h1,h2,h3,f,h6,h7,h4⟩:=h;refine⟨a,dx,vs,yv,e,h1,λ_=>?_,λz=>(z rfl).elim,f,AA.freeze h6 (λb q=>s b ((h4 b).mpr (.inr q))),λz=>z,λb=>⟨λz=>z.elim,λz=>z.elim (λq=>(q.1 rfl).elim) id⟩⟩;by_cases q:o=0;exact .inl (h2 q);exact .inr (s a ((h4 a).mpr (.inl ⟨q,rfl⟩)))
 |o,.tup ds,v,R,h,s=>by unfold Rep at h ⊢;obtain⟨a,vs,e,h1,h2⟩:=h;exact⟨a,vs,e,h1,AA.freeze h2 s⟩
 |o,.lst ds,v,R,h,s=>by unfold Rep at h ⊢;obtain⟨a,vs,R',e,h1,h2,h3,h5⟩:=h;refine⟨a,vs,yv,e,⟨h1.1,λ_=>?_,λz=>(z rfl).elim⟩,AA.freeze h2 (λb q=>s b ((h5 b).mpr (.inr q))),λz=>z,λb=>⟨λz=>z.elim,λz=>z.elim (λq=>(q.1 rfl).elim) id⟩⟩;by_cases q:o=0;exact .inl (h1.2.1 q);exact .inr (s a ((h5 a).mpr (.inl ⟨q,rfl⟩)))
 |o,.dct ks ds,v,R,h,s=>by unfold Rep at h ⊢;obtain⟨a,vs,e,h1,h2,h3,⟨h5,R',h6⟩,h4⟩:=h;refine⟨a,vs,e,h1,λ_=>?_,λz=>(z rfl).elim,⟨h5,yv,AA.freeze h6 λb q=>(AA.zS h6 b q).elim⟩,λb=>⟨λz=>z.elim,λz=>(z.1 rfl).elim⟩⟩;by_cases q:o=0;exact .inl (h2 q);exact .inr (s a ((h4 a).mpr ⟨q,rfl⟩))
theorem AA.freeze{P:Fp}:∀{o:Nat}{ds:List Dv}{vs:List V}{R:Fp},AA K g H o ds vs R->(∀a,R a->P a)->AA K (g.add P) H 0 ds vs yv
 |_,[],vs,R,h,_=>by unfold AA at h ⊢;exact⟨h.1,λ_ z=>z⟩
 |o,d::ds,vs,R,h,s=>by unfold AA at h ⊢;obtain⟨v,r,P1,P2,e,h1,h2,h3,h4⟩:=h;exact⟨v,r,yv,yv,e,Rep.freeze h1 (λa q=>s a ((h4 a).mpr (.inl q))),AA.freeze h2 (λa q=>s a ((h4 a).mpr (.inr q))),λ_ z=>z.elim,λa=>⟨λz=>z.elim,λz=>z.elim id id⟩⟩
end
theorem Step.freeze{P:Fp}(ok:zA g H P):Step g P H (g.add P) yv H:=
 ⟨λ_ _ h _=>h,λ_ h=>h,λ_ h=>.inl h,λa h=>h.elim .inl λq=>.inr (.inl q),⟨[],by show g.μ=_;simp⟩,λ_ h=>h.elim,λz a h q=>h.elim (λh=>z a h q) λh=>by have:=(ok a h).1;rw[q]at this;exact this,λ_ _ _ fs h=>⟨fs,h,λ_ _ z=>z⟩⟩
theorem AA.nil{o:Nat}:AA K g H o [] [] yv:=by unfold AA;exact⟨rfl,λ_ z=>z⟩
theorem AA.cons{o:Nat}{d:Dv}{v:V}{ds:List Dv}{vs:List V}{P1 P2:Fp}(h1:Rep K g H o d v P1)(h2:AA K g H o ds vs P2)(n:Bu P1 P2):AA K g H o (d::ds) (v::vs) λa=>P1 a\/P2 a:=by unfold AA;exact⟨v,vs,P1,P2,rfl,h1,h2,n,λ_=>d9⟩
theorem AA.len:∀{o:Nat}{ds:List Dv}{vs:List V}{R:Fp},AA K g H o ds vs R->ds.length=vs.length
 |_,[],vs,R,h=>by unfold AA at h;rw[h.1];rfl
 |_,d::ds,vs,R,h=>by unfold AA at h;obtain⟨v,r,P1,P2,rfl,h1,h2,_⟩:=h;simp[h2.len]
theorem AA.get:∀{o:Nat}{ds:List Dv}{vs:List V}{R:Fp}{i:Nat}{d:Dv},AA K g H o ds vs R->ds[i]?=_s d->∃v P,vs[i]?=_s v/\Rep K g H o d v P/\∀a,P a->R a
 |_,[],_,_,_,_,_,e=>by simp at e
 |_,d::ds,vs,R,i,d',h,e=>by
  unfold AA at h;obtain⟨v,r,P1,P2,rfl,h1,h2,_,h4⟩:=h;cases i with|zero=>simp at e;subst e;exact⟨v,P1,rfl,h1,λa q=>(h4 a).mpr (.inl q)⟩|succ i=>obtain⟨b,P,c,h',s⟩:=h2.get (i:=i) (by simpa using e);exact⟨b,P,by simpa using c,h',λa q=>(h4 a).mpr (.inr (s a q))⟩
theorem AA.app:∀{o:Nat}{ds es:List Dv}{vs us:List V}{P Q:Fp},AA K g H o ds vs P->AA K g H o es us Q->Bu P Q->AA K g H o (ds++es) (vs++us) λa=>P a\/Q a
 |_,[],es,vs,us,P,Q,h,k,_=>by unfold AA at h;obtain⟨rfl,n⟩:=h;exact k.iff λa=>⟨λz=>z.elim (λq=>(n a q).elim) id,.inr⟩
 |_,d::ds,es,vs,us,P,Q,h,k,n=>by unfold AA at h;obtain⟨v,r,P1,P2,rfl,h1,h2,h3,h4⟩:=h;have t:=AA.app h2 k λa q z=>n a ((h4 a).mpr (.inr q)) z;refine(AA.cons h1 t λa q z=>z.elim (λz=>h3 a q z) λz=>n a ((h4 a).mpr (.inl q)) z).iff λa=>?_;rw[h4 a,or_assoc]
end
noncomputable abbrev M:=List Dv
noncomputable abbrev Gm:=List (Option Nat)
noncomputable def M.at(m:M)(i:Nat):Dv:=m.getD i .yw
structure zFB (K:W.Frag) (g:G) (H:Hp) (Γ:Gm) (ρ:List Dv) (σ:St) (F:Nat->Fp):Prop where
 l1:ρ.length=Γ.length
 l2:σ.length=Γ.length
 rep:∀i o,Γ[i]?=_s (_s o)->∃d v,ρ[i]?=_s d/\σ[i]?=_s (_s v)/\Rep K g H o d v (F i)
 out:∀i,(∀o,Γ[i]?≠_s (_s o))->∀a,¬F i a
 dj:∀i j,i≠j->Bu (F i) (F j)
def Rel(K:W.Frag)(g:G)(H:Hp)(Γ:Gm)(m:M)(σ:St)(P:Fp):Prop:=Zd g H/\∃F,zFB K g H Γ m σ F/\∀a,P a↔∃i,F i a
theorem En{a:Type}{l:List a}{i j:Nat}{x y:a}(h:(l.set i x)[j]?=_s y):(i=j/\y=x)\/(i≠j/\l[j]?=_s y):=by by_cases e:i=j;subst e;refine .inl ⟨rfl,?_⟩;rw[List.getElem?_set]at h;simp only[if_true]at h;split at h;exact(C3 h).symm;cases h;rw[D9 e]at h;exact .inr ⟨e,h⟩
theorem Hu{m:M}{i:Nat}{d:Dv}(h:m[i]?=_s d):m.at i=d:=by unfold M.at;rw[E5,h];rfl
section
variable{K:W.Frag}{g g':G}{H H':Hp}{Γ:Gm}{m:M}{σ:St}{P:Fp}
theorem Rel.zd(h:Rel K g H Γ m σ P):Zd g H:=h.1
theorem Rel.len(h:Rel K g H Γ m σ P):m.length=Γ.length/\σ.length=Γ.length:=let ⟨_,_,h1,_⟩:=h;⟨h1.l1,h1.l2⟩
theorem Rel.y6(h:Rel K g H Γ m σ P):zA g H P:=by obtain⟨_,F,h1,h4⟩:=h;intro a q;obtain⟨i,z⟩:=(h4 a).mp q;by_cases e:∃o,Γ[i]?=_s (_s o);obtain⟨o,e⟩:=e;obtain⟨d,v,_,_,r⟩:=h1.rep i o e;exact r.y6 a z;exact(h1.out i (λo z=>e ⟨o,z⟩) a z).elim
theorem Rel.held{P' R:Fp}(s:Step g P H g' P' H')(ok:zA g H P)(h:Rel K g H Γ m σ R)(n:Bu R P):Rel K g' H' Γ m σ R:=by obtain⟨zd,F,h1,h4⟩:=h;refine⟨s.zd zd,F,⟨h1.l1,h1.l2,λi o e=>?_,h1.out,h1.dj⟩,h4⟩;obtain⟨d,v,c,b,r⟩:=h1.rep i o e;exact⟨d,v,c,b,r.held s ok λa q z=>n a ((h4 a).mpr ⟨i,q⟩) z⟩
theorem Rel.same(h:Rel K g H Γ m σ P)(s:ID H H'):Rel K g H' Γ m σ P:=h.held (Step.same (P:=yv) s) zA.yv λ_ _ z=>z
theorem Rel.see{i o:Nat}(h:Rel K g H Γ m σ P)(e:Γ[i]?=_s (_s o)):∃v P1,σ[i]?=_s (_s v)/\Rep K g H o (m.at i) v P1/\∀a,P1 a->P a:=by obtain⟨_,F,h1,h4⟩:=h;obtain⟨d,v,c,b,r⟩:=h1.rep i o e;exact⟨v,F i,b,by rw[Hu c];exact r,λa q=>(h4 a).mpr ⟨i,q⟩⟩
theorem Rel.agree{a:M}(h:Rel K g H Γ m σ P)(b:a.length=m.length)(ha:∀i o,Γ[i]?=_s (_s o)->a.at i=m.at i):Rel K g H Γ a σ P:=by
 obtain⟨zd,F,h1,h4⟩:=h;refine⟨zd,F,⟨b.trans h1.l1,h1.l2,λi o e=>?_,h1.out,h1.dj⟩,h4⟩;obtain⟨d,v,c,f,r⟩:=h1.rep i o e;have hi:i < a.length:=by rw[b];exact(A7.mp c).1
 refine⟨d,v,?_,f,r⟩;have:=ha i o e;unfold M.at at this;rw[E5,E5,c,A3 hi]at this;rw[A3 hi];exact congrArg _s this
theorem Rel.drop(i:Nat)(d:Dv)(x:Option V)(h:Rel K g H Γ m σ P):∃P2,Rel K g H (Γ.set i _n) (m.set i d) (σ.set i x) P2/\∀a,P2 a->P a:=by
 obtain⟨zd,F,h1,h4⟩:=h;refine⟨λa=>∃j,j≠i/\F j a,⟨zd,λj a=>j≠i/\F j a,⟨by rw[D8,D8,h1.l1],by rw[D8,D8,h1.l2],λj o e=>?_,λj e a q=>?_,λj k n a q z=>h1.dj j k n a q.2 z.2⟩,λ_=>d9⟩,λa ⟨j,_,q⟩=>(h4 a).mpr ⟨j,q⟩⟩;rcases En e with⟨_,z⟩|⟨n,e⟩
 cases z;obtain⟨d',v,c,b,r⟩:=h1.rep j o e;have eq:(λa=>j≠i/\F j a)=F j:=funext λa=>propext ⟨λz=>z.2,λz=>⟨λq=>n q.symm,z⟩⟩;exact⟨d',v,by rw[D9 n];exact c,by rw[D9 n];exact b,by show Rep K g H o d' v (λa=>j≠i/\F j a);rw[eq];exact r⟩;refine h1.out j (λo z=>e o ?_) a q.2;rw[D9 λz=>q.1 z.symm];exact z
theorem Rel.fill{i o:Nat}{d:Dv}{v:V}{P1:Fp}(h:Rel K g H Γ m σ P)(e:Γ[i]?=_s _n)(hd:m[i]?=_s d)(t:σ[i]?=_s (_s v))(r:Rep K g H o d v P1)(n:Bu P1 P):Rel K g H (Γ.set i (_s o)) m σ λa=>P1 a\/P a:=by
 obtain⟨zd,F,h1,h4⟩:=h;have u:∀a,¬F i a:=h1.out i λo z=>by rw[e]at z;cases z
 have hi:i < Γ.length:=(A7.mp e).1;refine⟨zd,λj a=>if j=i then P1 a else F j a,⟨by rw[D8];exact h1.l1,by rw[D8];exact h1.l2,λj o' c=>?_,λj c a q=>?_,λj k nn a q z=>?_⟩,λa=>?_⟩;rcases En c with⟨rfl,z⟩|⟨nn,c⟩
 cases z;have eq:(λa=>if i=i then P1 a else F i a)=P1:=funext λa=>by rw[if_pos rfl]
 exact⟨d,v,hd,t,by show Rep K g H o d v λa=>if i=i then P1 a else F i a;rw[eq];exact r⟩;obtain⟨d',l,y,x,s⟩:=h1.rep j o' c;have eq:(λa=>if j=i then P1 a else F j a)=F j:=funext λa=>by rw[if_neg λz=>nn z.symm]
 exact⟨d',l,y,x,by show Rep K g H o' d' l λa=>if j=i then P1 a else F j a;rw[eq];exact s⟩;by_cases z:j=i;subst z;exact c o (E7 hi);simp only[if_neg z]at q;exact h1.out j (λo' p=>c o' (by rw[D9 λw=>z w.symm];exact p)) a q;by_cases b:j=i;by_cases f:k=i;exact nn (b.trans f.symm);simp only[if_pos b,if_neg f]at q z;exact n a q ((h4 a).mpr ⟨k,z⟩);by_cases f:k=i;simp only[if_neg b,if_pos f]at q z;exact n a z ((h4 a).mpr ⟨j,q⟩);simp only[if_neg b,if_neg f]at q z;exact h1.dj j k nn a q z;show P1 a\/P a↔_;rw[h4 a];refine⟨λz=>?_,fun⟨j,z⟩=>?_⟩;rcases z with z|⟨j,z⟩
 exact⟨i,by simp only[if_true];exact z⟩;have:j≠i:=λw=>u a (w▸z);exact⟨j,by simp only[if_neg this];exact z⟩;by_cases b:j=i;simp only[if_pos b]at z;exact .inl z;simp only[if_neg b]at z;exact .inr ⟨j,z⟩
theorem CP{a:Type}{l:List a}{i:Nat}{x:a}(h:l[i]?=_s x):l.set i x=l:=by apply wm;intro j;by_cases e:i=j;subst e;rw[E7 (A7.mp h).1,h];rw[D9 e]
inductive Tk (K:W.Frag) (g:G) (H:Hp) (Γ:Gm) (m:M) (σ:St) (P:Fp) (i o:Nat):Prop
 |mk (v:V) (P1 P2:Fp) (a:σ[i]?=_s (_s v)) (b:m[i]?=_s (m.at i)) (c:Rep K g H o (m.at i) v P1) (d:Rel K g H (Γ.set i _n) m σ P2) (e:Bu P1 P2) (f:∀a,P a↔P1 a\/P2 a)
theorem Rel.take{i o:Nat}(h:Rel K g H Γ m σ P)(e:Γ[i]?=_s (_s o)):Tk K g H Γ m σ P i o:=by
 obtain⟨zd,F,h1,h4⟩:=h;obtain⟨d,v,c,u,r⟩:=h1.rep i o e;refine⟨v,F i,λa=>∃j,j≠i/\F j a,u,by rw[Hu c];exact c,by rw[Hu c];exact r,⟨zd,λj a=>j≠i/\F j a,⟨by rw[D8];exact h1.l1,by rw[D8];exact h1.l2,λj o' b=>?_,λj b a q=>?_,λj k n a q z=>h1.dj j k n a q.2 z.2⟩,λ_=>d9⟩,λa q ⟨j,n,z⟩=>h1.dj i j (λw=>n w.symm) a q z,λa=>?_⟩;rcases En b with⟨_,z⟩|⟨n,b⟩
 cases z;obtain⟨d',l,t,s,p⟩:=h1.rep j o' b;have eq:(λa=>j≠i/\F j a)=F j:=funext λa=>propext ⟨λz=>z.2,λz=>⟨λq=>n q.symm,z⟩⟩;exact⟨d',l,t,s,by show Rep K g H o' d' l (λa=>j≠i/\F j a);rw[eq];exact p⟩;exact h1.out j (λo' z=>b o' (by rw[D9 λw=>q.1 w.symm];exact z)) a q.2;rw[h4 a];refine⟨fun⟨j,z⟩=>?_,λz=>?_⟩;by_cases f:j=i;exact .inl (f▸z);exact .inr ⟨j,f,z⟩;rcases z with z|⟨j,_,z⟩
 exact⟨i,z⟩;exact⟨j,z⟩
theorem EV{a:Type}(l:List a)(i:Nat)(x y:a):(l.set i x).set i y=l.set i y:=wo ..
theorem Rel.zAL{Pv:Fp}{i o:Nat}{d:Dv}{v:V}(h:Rel K g H Γ m σ P)(hi:i < Γ.length)(b:Rep K g H o d v Pv)(n:Bu Pv P) :
    ∃P2,Rel K g H (Γ.set i (_s o)) (m.set i d) (σ.set i (_s v)) P2/\∀a,P2 a->P a\/Pv a:=by
  obtain⟨P2,h2,s⟩:=h.drop i d (_s v);have l:=h.len;have:=h2.fill (i:=i) (E7 hi) (E7 (by omega)) (E7 (by omega)) b λa q z=>n a q (s a z);rw[EV]at this;exact⟨_,this,λa q=>q.elim .inr λq=>.inl (s a q)⟩
theorem Rel.putIn{P1:Fp}{i o:Nat}{d:Dv}{v:V}(h:Rel K g H (Γ.set i _n) m σ P)(hi:i < Γ.length)(b:σ[i]?=_s (_s v))(r:Rep K g H o d v P1)(n:Bu P1 P):∃P2,Rel K g H (Γ.set i (_s o)) (m.set i d) σ P2/\∀a,P2 a->P1 a\/P a:=by obtain⟨P2,h2,s⟩:=h.drop i d (_s v);rw[CP b]at h2;have l:=h.len;rw[D8]at l;have h3:=h2.fill (i:=i) (by rw[EV];exact E7 hi) (E7 (by omega)) b r λa q z=>n a q (s a z);rw[EV,EV]at h3;exact⟨_,h3,λa q=>q.elim .inl λq=>.inr (s a q)⟩
theorem Rel.freeze{i o:Nat}(h:Rel K g H Γ m σ P)(e:Γ[i]?=_s (_s o)):∃g' P' v,Step g P H g' P' H/\Rel K g' H (Γ.set i (_s 0)) m σ P'/\σ[i]?=_s (_s v)/\Rep K g' H 0 (m.at i) v yv:=by obtain⟨v,P1,P2,ev,f,r,d,n,hP⟩:=h.take e;have st:Step g P1 H (g.add P1) yv H:=Step.freeze r.y6;have fr:Rep K (g.add P1) H 0 (m.at i) v yv:=r.freeze λ_ q=>q;have c:=d.held st r.y6 λa q z=>n a z q;have hi:i < Γ.length:=(A7.mp e).1;have b:=c.fill (i:=i) (E7 hi) f ev fr λ_ z=>z.elim;rw[EV]at b;refine⟨_,_,v,?_,b,ev,fr⟩;exact(st.frame (R:=P2)).sub (λa q=>(hP a).mpr q) λa q=>q.elim (λz=>z.elim) .inr
def Bc:Gm->Gm->Bool
 |[],[]=>_t
 |none::a,_::b=>Bc a b
 |some o::a,_s o'::b=>(o==0||o==o')&&Bc a b
 |_,_=>_f
theorem Dy:∀{a b:Gm},Bc a b=_t->a.length=b.length
 |[],[],_=>rfl
 |none::a,_::b,h=>by unfold Bc at h;simp[Dy h]
 |some o::a,_s o'::b,h=>by unfold Bc at h;simp[Dy (Q0.mp h).2]
 |[],_::_,h=>by cases h
 |some _::_,_n::_,h=>by cases h
 |some _::_,[],h=>by cases h
 |none::_,[],h=>by cases h
theorem GT:∀{a b:Gm}{i o:Nat},Bc a b=_t->a[i]?=_s (_s o)->∃o',b[i]?=_s (_s o')/\(o=0\/o=o')
 |[],_,i,o,_,e=>by simp at e
 |none::a,x::b,i,o,h,e=>by
  unfold Bc at h;cases i with|zero=>simp at e|succ i=>obtain⟨o',c,z⟩:=GT (i:=i) h (by simpa using e);exact⟨o',by simpa using c,z⟩
 |some p::a,_s d::b,i,o,h,e=>by
  unfold Bc at h;rw[A2]at h;cases i with|zero=>simp at e;subst e;refine⟨d,rfl,?_⟩;have:=h.1;rw[j9,beq_iff_eq,beq_iff_eq]at this;exact this|succ i=>obtain⟨o',c,z⟩:=GT (i:=i) h.2 (by simpa using e);exact⟨o',by simpa using c,z⟩
 |some _::_,_n::_,_,_,h,_=>by cases h
 |some _::_,[],_,_,h,_=>by cases h
 |none::_,[],_,_,h,_=>by cases h
theorem Rel.weaken{Γ':Gm}(h:Rel K g H Γ m σ P)(e:Bc Γ' Γ=_t):∃g' P',Step g P H g' P' H/\Rel K g' H Γ' m σ P':=by
 have ok:=h.y6;obtain⟨zd,F,h1,h4⟩:=h
 let D:Fp:=λa=>∃i,Γ'[i]?=_s (_s 0)/\F i a
 have c:zA g H D:=λa ⟨i,_,q⟩=>ok a ((h4 a).mpr ⟨i,q⟩);have st:Step g D H (g.add D) yv H:=Step.freeze c
 let f:Nat->Fp:=λi a=>(∃o,Γ'[i]?=_s (_s (o+1)))/\F i a
 refine⟨g.add D,λa=>∃i,f i a,?_,st.zd zd,f,⟨by rw[Dy e];exact h1.l1,by rw[Dy e];exact h1.l2,λi o b=>?_,λi b a q=>?_,λi j n a q z=>h1.dj i j n a q.2 z.2⟩,λ_=>d9⟩;refine(st.frame (R:=λa=>∃i,f i a)).sub (λa q=>?_) λa q=>.inr q;rcases q with⟨i,_,q⟩|⟨i,q⟩
 exact(h4 a).mpr ⟨i,q⟩;exact(h4 a).mpr ⟨i,q.2⟩;obtain⟨o',l,z⟩:=GT e b;obtain⟨d,v,s,p,r⟩:=h1.rep i o' l;refine⟨d,v,s,p,?_⟩;cases o with
 |zero=>
  have eq:f i=yv:=DA λa ⟨⟨o,w⟩,_⟩=>by rw[b]at w;cases w
  rw[eq];exact r.freeze λa q=>⟨i,b,q⟩
 |succ o=>
  have eq:f i=F i:=funext λa=>propext ⟨λw=>w.2,λw=>⟨⟨o,b⟩,w⟩⟩;rcases z with z|z
  cases z;subst z;rw[eq];refine r.held st c λa q ⟨j,k,z⟩=>?_;by_cases w:i=j;subst w;rw[b]at k;cases k;exact h1.dj i j w a q z
 obtain⟨⟨o,w⟩,_⟩:=q;exact b _ w
end
theorem PE.imp{X:Cx}{e:Expr}{t t':TE}(h:PE X e t)(k:∀σ H Q,t' σ H Q->t σ H Q):PE X e t':=λpins s σ H Q I q=>h pins s σ H Q I (k σ H Q q)
theorem PT.imp{X:Cx}{e:Expr}{t t':TT}(h:PT X e t)(k:∀σ H Q,t' σ H Q->t σ H Q):PT X e t':=λpins s σ H Q I q=>h pins s σ H Q I (k σ H Q q)
theorem PW.imp{X:Cx}{e:Expr}{t t':TT}(h:PW X e t)(k:∀σ H Q,t' σ H Q->t σ H Q):PW X e t':=λa pins s σ H Q I q=>h a pins s σ H Q I (k σ H Q q)
theorem PS.imp{X:Cx}{e:G5}{t t':TS}(h:PS X e t)(k:∀D σ H,t' D σ H->t D σ H):PS X e t':=λpins s σ H D I q=>h pins s σ H D I (k D σ H q)
theorem Cu.imp{X:Cx}{e:List G5}{t t':TS}(h:Cu X e t)(k:∀D σ H,t' D σ H->t D σ H):Cu X e t':=λpins s σ H D I q=>h pins s σ H D I (k D σ H q)
noncomputable abbrev Ev(a:Type):=(R:Type)->M->(a->M->Option R)->Option R
def BU(js:List Nat)(m m':M):Prop:=m'.length=m.length/\∀i,i∉js->m'.at i=m.at i
theorem BU.refl{js:List Nat}{m:M}:BU js m m:=⟨rfl,λ_ _=>rfl⟩
theorem BU.trans{js ks:List Nat}{m d c:M}(a:BU js m d)(b:BU ks d c):BU (js++ks) m c:=⟨b.1.trans a.1,λi h=>(b.2 i λz=>h (B5 _ z)).trans (a.2 i λz=>h (C0 _ z))⟩
theorem BU.set{m:M}{i:Nat}{d:Dv}:BU [i] m (m.set i d):=⟨D8 ..,λj h=>by have n:i≠j:=λz=>h (by rw[z];exact Q6 _);unfold M.at;rw[E5,E5,D9 n]⟩
theorem BU.mono{js ks:List Nat}{m b:M}(a:BU js m b)(h:∀i∈js,i∈ks):BU ks m b:=⟨a.1,λi n=>a.2 i λz=>n (h i z)⟩
inductive tE (K:W.Frag) (Γ:Gm) (o:Nat) (Γ':Gm) (js:List Nat) (f:Ev Dv) (σ:St) (H:Hp) (Q:VK):Prop
 | mk (g:G) (m:M) (P:Fp) (a:Rel K g H Γ m σ P) (R:Type) (k:Dv->M->Option R) (r:R) (b:f R m k=_s r)
  (c:∀d m' g' P' Pv v H',k d m'=_s r->BU js m m'->Step g P H g' (λa=>P' a\/Pv a) H'->Rep K g' H' o d v Pv->Rel K g' H' Γ' m' σ P'->Bu P' Pv->Q v H')
inductive tT (K:W.Frag) (Γ Γ':Gm) (js:List Nat) (f:Ev Bool) (σ:St) (H:Hp) (Q:Bool->Hp->Prop):Prop
 | mk (g:G) (m:M) (P:Fp) (a:Rel K g H Γ m σ P) (R:Type) (k:Bool->M->Option R) (r:R) (b:f R m k=_s r)
  (c:∀b m' g' P' H',k b m'=_s r->BU js m m'->Step g P H g' P' H'->Rel K g' H' Γ' m' σ P'->Q b H')
noncomputable def UX(f:Str):List Str->List Dv->Option Dv
 |n::ns,d::ds=>if f==n then _s d else UX f ns ds
 |_,_=>_n
noncomputable def Oa(f:Str)(x:Dv):List Str->List Dv->List Dv
 |n::ns,d::ds=>if f==n then x::ds else d::Oa f x ns ds
 |_,ds=>ds
def EB(d:Dv)(f:Str):Option Dv:=match d with
 |.obj _ _ nm xs=>UX f nm xs
 |_=>_n
def CF(d:Dv)(f:Str)(x:Dv):Dv:=match d with
 |.obj c fl nm xs=>.obj c fl nm (Oa f x nm xs)
 |d=>d
noncomputable def cf:Dv->Bool
 |.lst _=>_t
 |.dct _ _=>_t
 |.dtt _ _=>_t
 |.dnt _ _=>_t
 |.tup _=>_t
 |.obj _ _ _ _=>_t
 |_=>_f
def CD(d:Dv)(f:Str):Bool:=match EB d f with
 |some x=>cf x
 |none=>_f
section
variable{K:W.Frag}{g:G}{H:Hp}
theorem Jk{o:Nat}{d:Dv}{v:V}{P:Fp}(h:Rep K g H o d v P)(e:cf d=_t):∃r,v=.ref r:=by
 cases d with|lst _=>unfold Rep at h;obtain⟨a,_,_,e,_⟩:=h;exact⟨a,e⟩|tup _=>unfold Rep at h;obtain⟨a,_,e,_⟩:=h;exact⟨a,e⟩|dct _ _=>unfold Rep at h;obtain⟨a,_,e,_⟩:=h;exact⟨a,e⟩|dtt _ _=>unfold Rep at h;obtain⟨a,_,e,_⟩:=h;exact⟨a,e⟩|dnt _ _=>unfold Rep at h;obtain⟨a,_,e,_⟩:=h;exact⟨a,e⟩|obj _ _ _ _=>unfold Rep at h;obtain⟨a,_,_,_,e,_⟩:=h;exact⟨a,e⟩|_=>cases e
theorem Oc{f:Str}{o:Nat}:∀{nm:List Str}{ds:List Dv}{vs:List V}{P:Fp}{d:Dv},AA K g H o ds vs P->UX f nm ds=_s d ->
    ∃v P1 P2,(nm.zip vs).lookup f=_s v/\Rep K g H o d v P1/\Bu P1 P2/\(∀a,P a↔P1 a\/P2 a)/\∀{g':G}{H':Hp}{y:Dv}{P1':Fp},Step g P1 H g' P1' H'->Rep K g' H' o y v P1'->AA K g' H' o (Oa f y nm ds) vs λa=>P1' a\/P2 a
  |[],ds,vs,P,d,h,e=>by cases ds<;>cases e
  |n::nm,[],vs,P,d,h,e=>by cases e
  |n::nm,x::ds,vs,P,d,h,e=>by
    unfold AA at h;obtain⟨v,r,P1,P2,rfl,h1,h2,h3,h4⟩:=h;unfold UX at e;rw[K7,F7];cases c:f==n with
    |true=>rw[c]at e;simp only[if_true]at e;cases e;refine⟨v,P1,P2,rfl,h1,h3,h4,fun{g' H' y P1'} st i=>?_⟩;unfold Oa;rw[c];simp only[if_true];have m:=st.out h2.y6 λa q z=>h3 a z q;exact AA.cons i (h2.held st h1.y6 λa q z=>h3 a z q) λa q z=>m a z q
    |false=>rw[c]at e;simp only[B3,if_false]at e;obtain⟨w,l,A,u,j,t,b,s⟩:=Oc h2 e;refine⟨w,l,λa=>P1 a\/A a,u,j,λa q z=>z.elim (λz=>h3 a z ((b a).mpr (.inl q))) λz=>t a q z,λa=>?_,fun{g' H' y P1'} st i=>?_⟩;rw[h4 a,b a];exact⟨λz=>z.elim (λz=>.inr (.inl z)) λz=>z.elim .inl λz=>.inr (.inr z),λz=>z.elim (λz=>.inr (.inl z)) λz=>z.elim .inl λz=>.inr (.inr z)⟩;unfold Oa;rw[c];simp only[B3,if_false];have k:Bu P1 l:=λa q z=>h3 a q ((b a).mpr (.inl z));have p:=st.out h1.y6 k;refine(AA.cons (h1.held st j.y6 k) (s st i) λa q z=>z.elim (λz=>p a q z) λz=>h3 a q ((b a).mpr (.inr z))).iff λa=>?_;exact⟨λz=>z.elim (λz=>.inr (.inl z)) λz=>z.elim .inl λz=>.inr (.inr z),λz=>z.elim (λz=>.inr (.inl z)) λz=>z.elim .inl λz=>.inr (.inr z)⟩
inductive OFd (K:W.Frag) (g:G) (H:Hp) (f:Str) (o:Nat) (x d:Dv) (v:V) (P:Fp):Prop
 | mk (a C dx:A8) (fs:List (Str×V)) (w:V) (P1 P2:Fp) (e:v=.ref a) (h1:H a=_s (.ins C dx fs)) (h2:Cls K C) (h3:Em K C f) (h4:fs.lookup f=_s w) (h5:Rep K g H o d w P1) (h6:Bu P1 P2) (h7:∀b,P b↔P1 b\/P2 b)
  (h8:∀{g':G}{H':Hp}{y:Dv}{P1':Fp},Step g P1 H g' P1' H'->Rep K g' H' o y w P1'->Rep K g' H' o (CF x f y) v λa=>P1' a\/P2 a)
theorem Cj{f:Str}{o:Nat}{x d:Dv}{v:V}{P:Fp}(h:Rep K g H o x v P)(m:EB x f=_s d):OFd K g H f o x d v P:=by
 cases x with
 |obj c fl nm xs=>
  have ok:=h.y6;unfold Rep at h;obtain⟨a,dx,vs,R',rfl,h1,h2,h3,⟨hc,r,hn⟩,h6,h7,h4⟩:=h;obtain⟨w,P1,P2,A,u,t,i,s⟩:=Oc h6 m;have mem:f∈nm:=by
   have go:∀{nm:List Str}{xs:List Dv},UX f nm xs=_s d->f∈nm:=by
    intro nm;induction nm with
    |nil=>intro xs e;cases xs<;>cases e
    |cons n nm l=>
     intro xs e;cases xs with|nil=>cases e|cons x xs=>unfold UX at e;split at e;rename_i z;rw[beq_iff_eq.mp z];exact B2;exact B1 _ (l e)
   exact go m
  have len:∀{nm:List Str}{xs:List Dv}{y:Dv},nm.length=xs.length->nm.length=(Oa f y nm xs).length:=by
   intro nm;induction nm with
   |nil=>intro xs y e;cases xs<;>first|rfl|cases e
   |cons n nm l=>
    intro xs y e;cases xs with|nil=>cases e|cons x xs=>unfold Oa;split;exact e;simp[l (y:=y) (by simpa using e)]
  refine⟨a,_,dx,_,w,P1,λb=>(o≠0/\b=a)\/P2 b,rfl,h1,hc.1,hc.2 f (hn f mem),A,u,λb q z=>z.elim (λz=>h7 ((i a).mpr (.inl (z.2▸q)))) λz=>t b q z,λb=>?_,fun{g' H' y P1'} st p=>?_⟩;rw[h4 b,i b];exact⟨λz=>z.elim (λz=>.inr (.inl z)) λz=>z.elim .inl λz=>.inr (.inr z),λz=>z.elim (λz=>.inr (.inl z)) λz=>z.elim .inl λz=>.inr (.inr z)⟩;have k:¬P1 a:=λz=>h7 ((i a).mpr (.inl z));have j:¬P1' a:=λz=>(st.nw a z).elim k λz=>by rw[h1]at z;cases z
  show Rep K g' H' o (.obj c fl nm (Oa f y nm xs)) _ _;unfold Rep;refine⟨a,dx,vs,_,rfl,st.keep _ _ h1 k,λq=>st.zm _ (h2 q),λq z=>?_,⟨hc,len r,hn⟩,s st p,λz=>z.elim j λz=>h7 ((i a).mpr (.inr z)),λb=>?_⟩;rcases st.zn _ z with z|z|z
  exact h3 q z;exact k z;rw[h1]at z;cases z;exact⟨λz=>z.elim (λz=>.inr (.inl z)) λz=>z.elim .inl λz=>.inr (.inr z),λz=>z.elim (λz=>.inr (.inl z)) λz=>z.elim .inl λz=>.inr (.inr z)⟩
 |_=>cases m
end
inductive Ar:Type 1 where
 |rf (i:Nat)
 |ev (Γ Γ':Gm) (js:List Nat) (f:Ev Dv)
 |fd (i:Nat) (f:Str)
def KQ(K:W.Frag):Ar->TE
 |.rf i=>Cb i
 |.ev Γ Γ' js f=>tE K Γ 0 Γ' js f
 |.fd i f=>MG K (Cb i) f
def BO(K:W.Frag):List Ar->TA
 |[]=>TJ
 |a::as=>eS (KQ K a) (BO K as)
def AQ:List Ar->Ev (List Dv)
 |[],_,m,k=>k [] m
 |.rf i::as,R,m,k=>AQ as R m λds a=>k (a.at i::ds) a
 |.ev _ _ _ f::as,R,m,k=>f R m λd a=>AQ as R a λds b=>k (d::ds) b
 |.fd i f::as,R,m,k=>bif CD (m.at i) f then AQ as R m λds a=>(EB (a.at i) f).bind λd=>k (d::ds) a else _n
def AD:Gm->List Ar->Gm->List Nat->Prop
 |Γ,[],Γ',js=>Γ'=Γ/\js=[]
 |Γ,.rf i::as,Γ',js=>(∃o,Γ[i]?=_s (_s o))/\(∃o,o<=1/\Γ'[i]?=_s (_s o))/\AD Γ as Γ' js
 |Γ,.ev b c a _::as,Γ',js=>b=Γ/\∃js2,js=a++js2/\AD c as Γ' js2
 |Γ,.fd i _::as,Γ',js=>(∃o,Γ[i]?=_s (_s o))/\(∃o,o<=1/\Γ'[i]?=_s (_s o))/\AD Γ as Γ' js
def BD(K:W.Frag)(g:G)(H:Hp)(Γ:Gm)(m:M)(σ:St):List Ar->List Dv->List V->Prop
 |[],ds,vs=>ds=[]/\vs=[]
 |.rf i::as,ds,vs=>∃v b c,ds=m.at i::b/\vs=v::c/\σ[i]?=_s (_s v)/\(∃o,o<=1/\Γ[i]?=_s (_s o))/\BD K g H Γ m σ as b c
 |.ev _ _ _ _::as,ds,vs=>∃d v b c,ds=d::b/\vs=v::c/\Rep K g H 0 d v yv/\BD K g H Γ m σ as b c
 |.fd i f::as,ds,vs=>∃d v b c,ds=d::b/\vs=v::c/\(EB (m.at i) f=_s d/\∃a C dx fs,σ[i]?=_s (_s (.ref a))/\H a=_s (.ins C dx fs)/\fs.lookup f=_s v)/\(∃o,o<=1/\Γ[i]?=_s (_s o))/\BD K g H Γ m σ as b c
theorem AM{K:W.Frag}{σ:St}:∀(as:List Ar){g:G}{Γ Γ':Gm}{js:List Nat}{m:M}{P:Fp}{H:Hp}{R:Type}{k:List Dv->M->Option R}{r:R}{Q:List V->Hp->Prop},Rel K g H Γ m σ P->AD Γ as Γ' js->AQ as R m k=_s r ->
    (∀ds m' g' P' vs H',k ds m'=_s r->BU js m m'->Step g P H g' P' H'->BD K g' H' Γ' m' σ as ds vs->Rel K g' H' Γ' m' σ P'->Q vs H')->BO K as σ H Q
  |[],g,Γ,Γ',js,m,P,H,R,k,r,Q,b,c,e,q=>by unfold AD at c;obtain⟨rfl,rfl⟩:=c;exact q [] m g P [] H e BU.refl Step.refl (by unfold BD;exact⟨rfl,rfl⟩) b
  |.rf i::as,g,Γ,Γ',js,m,P,H,R,k,r,Q,b,c,e,q=>by unfold AD at c;obtain⟨⟨o,y⟩,h2,c⟩:=c;obtain⟨v,_,l,_⟩:=b.see y;refine⟨v,l,AM as b c e λds m' g' P' vs H' p u s t h=>q _ m' g' P' _ H' p u s ?_ h⟩;unfold BD;exact⟨v,ds,vs,rfl,rfl,l,h2,t⟩
  |.ev X Y N f::as,g,Γ,Γ',js,m,P,H,R,k,r,Q,b,c,e,q=>by unfold AD at c;obtain⟨rfl,js2,rfl,c⟩:=c;refine⟨g,m,P,b,R,_,r,e,λd j g1 P1 Pv v H1 p u s rv h n=>?_⟩;refine AM as h c p λds L O P2 vs U F D s2 t J=>q _ L O P2 _ U F (u.trans D) ((s.less λ_ q=>.inl q).trans s2) ?_ J;unfold BD;exact⟨d,v,ds,vs,rfl,rfl,rv.z.held s2 h.y6 λ_ z=>z.elim,t⟩
  |.fd i f::as,g,Γ,Γ',js,m,P,H,R,k,r,Q,b,c,e,q=>by
    unfold AD at c;obtain⟨⟨o,y⟩,h2,c⟩:=c;have e:(bif CD (m.at i) f then AQ as R m λds j=>(EB (j.at i) f).bind λd=>k (d::ds) j else _n)=_s r:=e;cases hr:CD (m.at i) f with
    |false=>rw[hr]at e;cases e
    |true=>
      rw[hr]at e;have e:(AQ as R m λds j=>(EB (j.at i) f).bind λd=>k (d::ds) j)=_s r:=e;unfold CD at hr;cases hd:EB (m.at i) f with|none=>rw[hd]at hr;cases hr|some d0=>rw[hd]at hr;obtain⟨Z,P1,l,rv,_⟩:=b.see y;obtain⟨a,C,dx,fs,w,_,_,rfl,h1,hc,hn,E,x,_⟩:=Cj rv hd;obtain⟨I,rfl⟩:=Jk x hr;refine⟨_,l,a,C,dx,fs,_,rfl,h1,hc,hn,E,AM as b c e λds m' g' P' vs H' p u s t h=>?_⟩;obtain⟨d,T,S⟩:=L9.mp p;obtain⟨fs',B,A⟩:=s.ins a C dx fs h1;refine q _ m' g' P' _ H' S u s ?_ h;unfold BD;exact⟨d,_,ds,vs,rfl,rfl,⟨T,a,C,dx,fs',l,B,A f I E⟩,h2,t⟩
def RA(K:W.Frag)(g:G)(H:Hp):List Dv->List V->Prop
 |[],vs=>vs=[]
 |d::ds,vs=>∃v r o P,vs=v::r/\o<=1/\Rep K g H o d v P/\RA K g H ds r
def Ap(K:W.Frag)(g:G)(H:Hp)(o:Nat)(d:Dv)(v:V)(H':Hp):Prop:=ID H H'/\∃Pv,Rep K g H' o d v Pv/\∀a,Pv a->H a=_n
noncomputable abbrev Pr:=List Dv->Option Dv
abbrev Sr:=List V->Hp->VK->Prop
def AN(K:W.Frag)(p:Pr)(o:Nat)(R:Sr):Prop:=∀g H ds vs d Q,Zd g H->RA K g H ds vs->p ds=_s d->(∀v H',Ap K g H o d v H'->Q v H')->R vs H Q
def HY(p:Pr)(a:Ev (List Dv)):Ev Dv:=λR m k=>a R m λds m'=>(p ds).bind λd=>k d m'
theorem zK.{u,v}{α:Type u}{β:Type v}{x:Option α}{f:α->Option β}{b:β}(h:x.bind f=_s b):∃a,x=_s a/\f a=_s b:=L9.mp h
theorem yt.{u,v}{α:Type u}{β:Type v}{x:Option α}{f:α->Option β}{b:β}{P:Prop}(h:x.bind f=_s b)(k:∀a,x=_s a->f a=_s b->P):P:=
 Exists.elim (zK h) λa q=>k a q.1 q.2
section
variable{K:W.Frag}{g:G}{H H':Hp}{σ:St}{Γ Γ':Gm}{m:M}{P:Fp}
theorem BD.ra(r:Rel K g H Γ m σ P):∀{as:List Ar}{ds:List Dv}{vs:List V},BD K g H Γ m σ as ds vs->RA K g H ds vs
 |[],ds,vs,h=>by unfold BD at h;obtain⟨rfl,rfl⟩:=h;unfold RA;rfl
 |.ev _ _ _ f::as,ds,vs,h=>by unfold BD at h;obtain⟨d,v,l,b,rfl,rfl,h1,h2⟩:=h;unfold RA;exact⟨v,b,0,yv,rfl,by decide,h1,BD.ra r h2⟩
 |.rf i::as,ds,vs,h=>by unfold BD at h;obtain⟨v,l,b,rfl,rfl,h1,⟨o,s,p⟩,h3⟩:=h;obtain⟨t,P1,e,k,_⟩:=r.see p;rw[h1]at e;cases e;unfold RA;exact⟨v,b,o,P1,rfl,s,k,BD.ra r h3⟩
 |.fd i f::as,ds,vs,h=>by unfold BD at h;obtain⟨d,v,l,b,rfl,rfl,⟨h1,a,C,dx,fs,u,ha,q⟩,⟨o,s,p⟩,h3⟩:=h;obtain⟨t,P1,e,k,_⟩:=r.see p;rw[u]at e;cases e;obtain⟨A,D,y,fs',w,z,B,x,j,_,_,c,n,_⟩:=Cj k h1;cases x;rw[ha]at j;cases j;rw[q]at c;cases c;unfold RA;exact⟨v,b,o,z,rfl,s,n,BD.ra r h3⟩
theorem Ap.go{e:G}{f:Fp}{i:Hp}{o:Nat}{d:Dv}{v:V}(s:Step e f i g P H)(r:Rel K g H Γ m σ P)(n:Ap K g H o d v H') :
    ∃Pv,Step e f i g (λa=>P a\/Pv a) H'/\Rep K g H' o d v Pv/\Rel K g H' Γ m σ P/\Bu P Pv:=by
  obtain⟨c,Pv,h1,h2⟩:=n;refine⟨Pv,s.trans ⟨λb o h _=>c b o h,(Step.same (g:=g) (P:=yv) c).dom,λ_ h=>h,λ_ h=>.inl h,⟨[],by simp⟩,λa h=>h.elim .inl λq=>.inr (h2 a q),(Step.same (g:=g) (P:=yv) c).zd,(Step.same (g:=g) (P:=yv) c).ins⟩,h1,r.same c,λa q z=>r.y6.new (h2 a z) q⟩
theorem Da{p:Pr}{o:Nat}{as:List Ar}{js:List Nat}{R:Sr}(hp:AN K p o R)(c:AD Γ as Γ' js){Q:VK}(h:tE K Γ o Γ' js (HY p (AQ as)) σ H Q):BO K as σ H λvs b=>R vs b Q:=by obtain⟨g,m,P,r,R',k,res,e,q⟩:=h;refine AM as r c e λds m' g' P' vs b j u s t a=>?_;refine yt j λd n l=>?_;refine hp g' b ds vs d Q a.zd (t.ra a) n λv w nw=>?_;obtain⟨Pv,s2,h1,f,i⟩:=Ap.go s a nw;exact q d m' g' P' Pv v w l u s2 h1 f i
end
def MC(r:R2):Sr:=λvs H Q=>match vs with|[x,y]=>r x y H Q|_=>False
def lU(r:V->Hp->VK->Prop):Sr:=λvs H Q=>match vs with|[x]=>r x H Q|_=>False
def Mm(d:Dv):Ev Dv:=λ_ m k=>k d m
def SS(i:Nat):Ev Dv:=λ_ m k=>k (m.at i) m
section
variable{X:Cx}{e:Expr}{Γ Γ':Gm}{js:List Nat}{o:Nat}{f:Ev Dv}
theorem la{v:V}{d:Dv}(h:PE X e (tC v))(hd:∀g H,Rep X.K g H o d v yv):PE X e (tE X.K Γ o Γ [] (Mm d)):=PE.imp h λσ H Q q=>by obtain⟨g,m,P,r,R,k,res,e,q⟩:=q;exact q d m g P yv v H e BU.refl (Step.refl.less λ_ q=>q.elim id D2) (hd g H) r λ_ _ z=>z
theorem nE{i:Nat}(h:PE X e (Cb i)){o:Nat}(hi:Γ[i]?=_s (_s o)):PE X e (tE X.K Γ 0 (Γ.set i (_s 0)) [] (SS i)):=PE.imp h λσ H Q q=>by obtain⟨g,m,P,r,R,k,res,e,q⟩:=q;obtain⟨g',P',v,s,a,ev,rv⟩:=r.freeze hi;exact⟨v,ev,q _ m g' P' yv v H e BU.refl (s.less λ_ q=>q.elim id D2) rv a λ_ _ z=>z⟩
theorem nG{i:Nat}(h:PE X e (Cb i))(hi:Γ[i]?=_s (_s o)):PE X e (tE X.K Γ o (Γ.set i _n) [] (SS i)):=PE.imp h λσ H Q q=>by obtain⟨g,m,P,r,R,k,res,e,q⟩:=q;obtain⟨v,P1,P2,ev,_,rv,b,n,hP⟩:=r.take hi;exact⟨v,ev,q _ m g P2 P1 v H e BU.refl (Step.refl.less λa q=>(hP a).mpr q.symm) rv b λa q z=>n a z q⟩
theorem EK(h:PE X e (tE X.K Γ o Γ' js f)):PE X e (tE X.K Γ 0 Γ' js f):=PE.imp h λσ H Q q=>by obtain⟨g,m,P,r,R,k,res,e,q⟩:=q;refine⟨g,m,P,r,R,k,res,e,λd m' g' P' Pv v H' c i s rv b n=>?_⟩;have st:Step g' Pv H' (g'.add Pv) yv H':=Step.freeze rv.y6;refine q d m' (g'.add Pv) P' yv v H' c i (s.trans ?_) (rv.freeze λ_ q=>q) (b.held st rv.y6 n) λ_ _ z=>z;exact(st.frame (R:=P')).sub (λa q=>q.symm) λa q=>q.elim .inr D2
end
def SU(t:List Dv->Dv)(a:Ev (List Dv)):Ev Dv:=λR m k=>a R m λds m'=>if ds.length<=1000000 then k (t ds) m' else _n
noncomputable def PJ:List Ar->Bool
 |[]=>_t
 |.ev _ _ _ _::as=>PJ as
 |.rf _::_=>_f
 |.fd _ _::_=>_f
theorem BD.zBE{K:W.Frag}{g:G}{H:Hp}{Γ:Gm}{m:M}{σ:St}:∀{as:List Ar}{ds:List Dv}{vs:List V},PJ as=_t->BD K g H Γ m σ as ds vs->AA K g H 0 ds vs yv
 |[],ds,vs,_,h=>by unfold BD at h;obtain⟨rfl,rfl⟩:=h;exact AA.nil
 |.ev _ _ _ f::as,ds,vs,e,h=>by unfold BD at h;obtain⟨d,v,b,c,rfl,rfl,h1,h2⟩:=h;exact(AA.cons h1 (BD.zBE (by unfold PJ at e;exact e) h2) λ_ z=>z.elim).iff λa=>⟨λz=>z.elim,λz=>z.elim id id⟩
 |.rf i::as,ds,vs,e,h=>by unfold PJ at e;cases e
 |.fd i _::as,ds,vs,e,h=>by unfold PJ at e;cases e
section
variable{X:Cx}{es:List Expr}{Γ Γ':Gm}{js:List Nat}{as:List Ar}{pos:Pos}
theorem nF{x1}(i:PA X es (BO X.K as))(c:AD Γ as Γ' js)(j:PJ as=_t):PE X (.Tuple es x1 pos) (tE X.K Γ 1 Γ' js (SU .tup (AQ as))):=PE.imp (Wq i) λσ H Q q=>by obtain⟨g,m,P,r,R,k,res,e,q⟩:=q;refine AM as r c e λds m' g' P' vs o b n s l f=>?_;split at b;rename_i h;have d:=l.zBE j;refine⟨by rw[<- d.len];exact D0 h (by decide),λp hp=>?_⟩;have a:=CV hp (.tup vs);have st:=Step.same (g:=g') (P:=yv) a;refine q _ m' g' P' yv (.ref p) _ b n ((s.trans (Step.same a)).less λ_ q=>q.elim id D2) ?_ (f.same a) λ_ _ z=>z;unfold Rep;exact⟨p,vs,rfl,AG,d.held st zA.yv λ_ _ z=>z⟩;cases b
theorem Ap.lst{K:W.Frag}{g:G}{H:Hp}{ds:List Dv}{vs:List V}{p:A8}(zd:Zd g H)(d:AA K g H 0 ds vs yv)(hp:H p=_n):Ap K g H 1 (.lst ds) (.ref p) (upd H p (.lst vs)):=by have c:=CV hp (.lst vs);refine⟨c,λb=>b=p,?_,λa q=>q▸hp⟩;unfold Rep;exact⟨p,vs,yv,rfl,⟨AG,(λz=>by cases z),λ_ z=>zd p z hp⟩,d.held (Step.same (g:=g) (P:=yv) c) zA.yv λ_ _ z=>z,λz=>z,λb=>⟨λz=>.inl ⟨by decide,z⟩,λz=>z.elim (λz=>z.2) D2⟩⟩
theorem nK(j:PA X es (BO X.K as))(c:AD Γ as Γ' js)(l:PJ as=_t):PE X (.List es pos) (tE X.K Γ 1 Γ' js (SU .lst (AQ as))):=PE.imp (jJ j) λσ H Q q=>by obtain⟨g,m,P,r,R,k,res,e,q⟩:=q;refine AM as r c e λds m' g' P' vs t a o s n d=>?_;split at a;rename_i i;have b:=n.zBE l;refine⟨by rw[<- b.len];exact D0 i (by decide),λp hp=>?_⟩;obtain⟨Pv,s2,h1,f,h⟩:=Ap.go s d (Ap.lst d.zd b hp);exact q _ m' g' P' Pv (.ref p) _ a o s2 h1 f h;cases a
end
def DR:List Nat->Type
 |[]=>Unit
 |[_]=>Dv
 |_::i::J=>Dv×DR (i::J)
noncomputable def Ac:(J:List Nat)->M->DR J
 |[],_=>()
 |[i],m=>m.at i
 |i::j::J,m=>(m.at i,Ac (j::J) m)
noncomputable def AR:(J:List Nat)->M->DR J->M
 |[],m,_=>m
 |[i],m,d=>m.set i d
 |i::j::J,m,t=>AR (j::J) (m.set i t.1) t.2
theorem WB{m:M}{i:Nat}{d:Dv}(h:i < m.length):M.at (m.set i d) i=d:=Hu (E7 h)
theorem JQ:∀(J:List Nat)(m:M)(t:DR J),(AR J m t).length=m.length
 |[],_,_=>rfl
 |[i],m,d=>D8 ..
 |i::j::J,m,t=>by unfold AR;rw[JQ];exact D8 ..
theorem AU:∀(J:List Nat)(m:M)(t:DR J),BU J m (AR J m t)
 |[],_,_=>BU.refl
 |[i],m,d=>BU.set
 |i::j::J,m,t=>by unfold AR;exact(BU.set (i:=i)).trans (AU (j::J) _ _)
theorem Rp:∀(J:List Nat)(m m':M)(i:Nat),i < m.length->i∈J->M.at (AR J m (Ac J m')) i=m'.at i
 |[],_,_,_,_,h=>by cases h
 |[i],m,m',k,a,h=>by have e:=D5.mp h;subst e;exact WB a
 |i::j::J,m,m',k,a,h=>by
  show M.at (AR (j::J) (m.set i (m'.at i)) (Ac (j::J) m')) k=_;by_cases z:k∈j::J;exact Rp (j::J) _ m' k (by rw[D8];exact a) z;rw[(AU (j::J) _ _).2 k z];rcases C9.mp h with e|e
  subst e;exact WB a;exact(z e).elim
def BN(Γ:Gm)(js:List Nat):List Nat:=(B6 Γ.length).filter λi=>js.contains i&&(Γ.getD i _n).isSome
theorem BL{Γ:Gm}{js:List Nat}{i o:Nat}(h:Γ[i]?=_s (_s o)):i∈BN Γ js\/i∉js:=by by_cases e:i∈js;refine .inl (S4.mpr ⟨I0.mpr (A7.mp h).1,?_⟩);rw[A2,C6,E5,h];exact⟨e,rfl⟩;exact .inr e
theorem Az{Γ:Gm}{js:List Nat}{i:Nat}(h:i∈BN Γ js):i∈js:=by have:=(S4.mp h).2;rw[A2,C6]at this;exact this.1
theorem Rel.join{K:W.Frag}{g:G}{H:Hp}{Γ:Gm}{m m':M}{σ:St}{P:Fp}{J js:List Nat}(r:Rel K g H Γ m' σ P)(a:BU js m m')(b:∀i o,Γ[i]?=_s (_s o)->i∈J\/i∉js):Rel K g H Γ (AR J m (Ac J m')) σ P:=by
 refine r.agree ((JQ ..).trans a.1.symm) λi o e=>?_;have hi:i < m.length:=by rw[<- a.1,r.len.1];exact(A7.mp e).1
 by_cases z:i∈J;exact Rp J m m' i hi z;rw[(AU J m _).2 i z];exact(a.2 i ((b i o e).elim (λq=>(z q).elim) id)).symm
def qo(p:List Dv->Option Bool)(a:Ev (List Dv)):Ev Bool:=λR m k=>a R m λds m'=>(p ds).bind λb=>k b m'
def QZ(f:Ev Bool):Ev Dv:=λR m k=>f R m λb m'=>k (.bl b) m'
def fo(f:Ev Bool):Ev Bool:=λR m k=>f R m λb m'=>k (!b) m'
def Ld{a:Type}(c:Ev Bool)(f g:Ev a):Ev a:=λR m k=>c R m λb d=>if b=_t then f R d k else g R d k
def Jn(a:Type):List Nat->Type
 |[]=>a
 |i::J=>a×DR (i::J)
def Zz{b:Type}:(J:List Nat)->b->M->Jn b J
 |[],a,_=>a
 |i::J,a,m=>(a,Ac (i::J) m)
def tG{b R:Type}:(J:List Nat)->M->Jn b J->(b->M->Option R)->Option R
 |[],m,a,k=>k a m
 |i::J,m,t,k=>k t.1 (AR (i::J) m t.2)
theorem VY{b R:Type}(J:List Nat)(m m':M)(a:b)(k:b->M->Option R):tG J m (Zz J a m') k=k a (AR J m (Ac J m')):=by cases J<;>rfl
def QY{b:Type}(J:List Nat)(f:Ev b):Ev b:=λR m k=>(f (Jn b J) m λa m'=>_s (Zz J a m')).bind λt=>tG J m t k
section
variable{K:W.Frag}{Γ Γ' zC Γ3:Gm}{js js2 js3 J:List Nat}{σ:St}{H:Hp}{o:Nat}
theorem IR{f:Ev Dv}{Q:VK}(l:∀i o,Γ'[i]?=_s (_s o)->i∈J\/i∉js)(c:∀i∈J,i∈js)(h:tE K Γ o Γ' js (QY J f) σ H Q):tE K Γ o Γ' js f σ H Q:=by obtain⟨g,m,P,r,R,k,res,e,q⟩:=h;refine yt e λt p a=>?_;refine⟨g,m,P,r,_,_,t,p,λd m' g' P' Pv v H' j u s rv b n=>?_⟩;cases j;rw[VY]at a;exact q d _ g' P' Pv v H' a ((AU J m _).mono c) s rv (b.join u l) n
theorem SD{f:Ev Bool}{Q:Bool->Hp->Prop}(l:∀i o,Γ'[i]?=_s (_s o)->i∈J\/i∉js)(c:∀i∈J,i∈js)(h:tT K Γ Γ' js (QY J f) σ H Q):tT K Γ Γ' js f σ H Q:=by obtain⟨g,m,P,r,R,k,res,e,q⟩:=h;refine yt e λt n a=>?_;refine⟨g,m,P,r,_,_,t,n,λd m' g' P' H' j p s b=>?_⟩;cases j;rw[VY]at a;exact q d _ g' P' H' a ((AU J m _).mono c) s (b.join p l)
theorem RH{f:Ev Bool}{Q:Bool->Hp->Prop}(d:Bc zC Γ'=_t)(j:∀i∈js,i∈js2)(h:tT K Γ zC js2 f σ H Q):tT K Γ Γ' js f σ H Q:=by obtain⟨g,m,P,r,R,k,res,e,q⟩:=h;refine⟨g,m,P,r,R,k,res,e,λb m' g' P' H' l p s c=>?_⟩;obtain⟨n,P2,s2,a⟩:=c.weaken d;exact q b m' n P2 H' l (p.mono j) (s.trans s2) a
theorem IE{f:Ev Dv}{Q:VK}(d:Bc zC Γ'=_t)(j:∀i∈js,i∈js2)(h:tE K Γ 0 zC js2 f σ H Q):tE K Γ 0 Γ' js f σ H Q:=by obtain⟨g,m,P,r,R,k,res,e,q⟩:=h;refine⟨g,m,P,r,R,k,res,e,λb m' g' P' Pv v H' l t s rv a n=>?_⟩;obtain⟨p,P2,s2,c⟩:=a.weaken d;exact q b m' p P2 yv v H' l (t.mono j) (((s.less λ_ q=>.inl q).trans s2).less λ_ q=>q.elim id D2) (rv.z.held s2 a.y6 λ_ z=>z.elim) c λ_ _ z=>z
theorem qV{p:List Dv->Option Bool}{as:List Ar}{r:Sr}(hp:AN K (λds=>(p ds).map .bl) 0 r)(c:AD Γ as Γ' js){Q:Bool->Hp->Prop}(h:tT K Γ Γ' js (qo p (AQ as)) σ H Q):BO K as σ H λvs d=>r vs d λx H'=>∃k,x=.bl k/\Q k H':=by obtain⟨g,m,P,f,R',k,res,e,q⟩:=h;refine AM as f c e λds m' g' P' vs d j u s t a=>?_;refine yt j λb n l=>?_;refine hp g' d ds vs (.bl b) _ a.zd (t.ra a) (by show(p ds).map _=_;rw[n];rfl) λv w nw=>?_;obtain⟨Pv,s2,h1,i,y⟩:=Ap.go s a nw;refine⟨b,by unfold Rep at h1;exact h1.1,q b m' g' P' w l u (s2.less λ_ q=>.inl q) i⟩
theorem BX{g:G}{o:Nat}{b:Bool}{v:V}{P:Fp}(h:Rep K g H o (.bl b) v P):v=.bl b:=by unfold Rep at h;exact h.1
theorem Cr{g:G}{b:Bool}:Rep K g H o (.bl b) (.bl b) yv:=by unfold Rep;exact⟨rfl,λ_ z=>z⟩
theorem hG{t u:Ev Bool}{Q:Bool->Hp->Prop}(h:tT K Γ Γ' (js++js2) (Ld t u (λR m k=>k _f m)) σ H Q)(w:Bc Γ' zC=_t):mj (tT K Γ zC js t) (tT K zC Γ' js2 u) σ H Q:=by
 obtain⟨g,m,P,r,R,k,res,e,q⟩:=h;refine⟨g,m,P,r,R,_,res,e,λb l x P1 A a n s j=>?_⟩;cases b with|true=>rw[if_pos rfl]at a ⊢;exact⟨x,l,P1,j,R,k,res,a,λc v f P2 y p i s2 d=>q c v f P2 y p (n.trans i) (s.trans s2) d⟩|false=>rw[if_neg D1]at a ⊢;obtain⟨f,P2,s2,d⟩:=j.weaken w;exact q _f l f P2 A a (n.mono λ_ z=>C0 _ z) (s.trans s2) d
theorem mW{t u:Ev Bool}{Q:Bool->Hp->Prop}(h:tT K Γ Γ' (js++js2) (Ld t (λR m k=>k _t m) u) σ H Q)(w:Bc Γ' zC=_t):tOr (tT K Γ zC js t) (tT K zC Γ' js2 u) σ H Q:=by
 obtain⟨g,m,P,r,R,k,res,e,q⟩:=h;refine⟨g,m,P,r,R,_,res,e,λb l x P1 A a n s j=>?_⟩;cases b with|false=>rw[if_neg D1]at a ⊢;exact⟨x,l,P1,j,R,k,res,a,λc v f P2 y p i s2 d=>q c v f P2 y p (n.trans i) (s.trans s2) d⟩|true=>rw[if_pos rfl]at a ⊢;obtain⟨f,P2,s2,d⟩:=j.weaken w;exact q _t l f P2 A a (n.mono λ_ z=>C0 _ z) (s.trans s2) d
theorem gy{t:Ev Bool}{Q:Bool->Hp->Prop}(h:tT K Γ Γ' js (fo t) σ H Q):ma (tT K Γ Γ' js t) σ H Q:=by obtain⟨g,m,P,r,R,k,res,e,q⟩:=h;exact⟨g,m,P,r,R,_,res,e,λb c f P1 j d i s a=>q (!b) c f P1 j d i s a⟩
theorem mf{c:Ev Bool}{B A:Ev Dv}{Q:VK}(h:tE K Γ 0 Γ' (js++(js2++js3)) (Ld c B A) σ H Q):tL (tT K Γ zC js c) (tE K zC 0 Γ' js2 B) (tE K zC 0 Γ' js3 A) σ H Q:=by
 obtain⟨g,m,P,r,R,k,res,e,q⟩:=h;refine⟨g,m,P,r,R,_,res,e,λb x y P1 D f C s w=>?_⟩;cases b with|true=>rw[if_pos rfl]at f ⊢;exact⟨y,x,P1,w,R,k,res,f,λd p t P2 Pv v u j a s2 rv l n=>q d p t P2 Pv v u j ((C.trans a).mono λi z=>(E6.mp z).elim (λz=>C0 _ z) λz=>B5 _ (C0 _ z)) (s.trans s2) rv l n⟩|false=>rw[if_neg D1]at f ⊢;exact⟨y,x,P1,w,R,k,res,f,λd p t P2 Pv v u j a s2 rv l n=>q d p t P2 Pv v u j ((C.trans a).mono λi z=>(E6.mp z).elim (λz=>C0 _ z) λz=>B5 _ (B5 _ z)) (s.trans s2) rv l n⟩
end
structure Kt (R:Type) where
 nx:M->Option R
 rt:Dv->M->Option R
 bk:M->Option R
 ct:M->Option R
noncomputable abbrev Es:=(R:Type)->M->Kt R->Option R
def Io(io:List Nat)(σ σ':St):Prop:=∀i∈io,σ'[i]?=σ[i]?
theorem Io.refl{io:List Nat}{σ:St}:Io io σ σ:=λ_ _=>rfl
theorem Io.trans{io:List Nat}{σ c d:St}(a:Io io σ c)(b:Io io c d):Io io σ d:=λi h=>(b i h).trans (a i h)
theorem Io.set{io:List Nat}{σ:St}{i:Nat}{x:Option V}(h:i∉io):Io io σ (σ.set i x):=λj a=>D9 λz=>h (by rw[z];exact a)
structure Fr where
 io:List Nat
 Γr:Gm
 ro:Nat
structure AcS (K:W.Frag) (F:Fr) (yz:Option Gm) (g:G) (P:Fp) (H:Hp) (σ:St) (D:Ends) (Γn:Option Gm) (js:List Nat) (m:M) {R:Type} (k:Kt R) (r:R):Prop where
 nx:∀Γ' m' g' P' σ' H',Γn=_s Γ'->k.nx m'=_s r->BU js m m'->Step g P H g' P' H'->Io F.io σ σ'->Rel K g' H' Γ' m' σ' P'->D.nx σ' H'
 rt:∀d m' g' P' Pv σ' v H',k.rt d m'=_s r->BU js m m'->Step g P H g' (λa=>P' a\/Pv a) H'->Io F.io σ σ'->Rep K g' H' F.ro d v Pv->Rel K g' H' F.Γr m' σ' P'->Bu P' Pv->D.rt v H'
 bk:∀Γ' m' g' P' σ' H',yz=_s Γ'->k.bk m'=_s r->BU js m m'->Step g P H g' P' H'->Io F.io σ σ'->Rel K g' H' Γ' m' σ' P'->D.bk σ' H'
 ct:∀Γ' m' g' P' σ' H',yz=_s Γ'->k.ct m'=_s r->BU js m m'->Step g P H g' P' H'->Io F.io σ σ'->Rel K g' H' Γ' m' σ' P'->D.ct σ' H'
inductive tS (K:W.Frag) (F:Fr) (yz:Option Gm) (Γ:Gm) (Γn:Option Gm) (js:List Nat) (f:Es) (D:Ends) (σ:St) (H:Hp):Prop
 |mk (g:G) (m:M) (P:Fp) (a:Rel K g H Γ m σ P) (R:Type) (k:Kt R) (r:R) (b:f R m k=_s r) (c:AcS K F yz g P H σ D Γn js m k r)
theorem AcS.later{K:W.Frag}{F:Fr}{yz Γn:Option Gm}{g g1:G}{P P1:Fp}{H H1:Hp}{σ j:St}{D:Ends}{js ks:List Nat}{m o:M}{R:Type}{k:Kt R}{r:R}(s:Step g P H g1 P1 H1)(i:Io F.io σ j)(l:BU js m o)(h:AcS K F yz g P H σ D Γn (js++ks) m k r):AcS K F yz g1 P1 H1 j D Γn ks o k r:=
  ⟨λΓ' m' g' P' σ' H' e f a s' c b=>h.nx Γ' m' g' P' σ' H' e f (l.trans a) (s.trans s') (i.trans c) b,
   λd m' g' P' Pv σ' v H' f a s' c rv b n=>h.rt d m' g' P' Pv σ' v H' f (l.trans a) (s.trans s') (i.trans c) rv b n,
   λΓ' m' g' P' σ' H' e f a s' c b=>h.bk Γ' m' g' P' σ' H' e f (l.trans a) (s.trans s') (i.trans c) b,
   λΓ' m' g' P' σ' H' e f a s' c b=>h.ct Γ' m' g' P' σ' H' e f (l.trans a) (s.trans s') (i.trans c) b⟩
def Jw:Es:=λ_ m k=>k.nx m
def dC(f g:Es):Es:=λR m k=>f R m {k with nx:=λa=>g R a k}
def Of(c:Ev Bool)(f g:Es):Es:=λR m k=>c R m λb a=>if b=_t then f R a k else g R a k
def YO(f:Ev Dv):Es:=λR m k=>f R m k.rt
def Yb(f:Ev Dv):Es:=λR m k=>f R m λ_ a=>k.nx a
section
variable{X:Cx}{F:Fr}{yz Γn zCn:Option Gm}{Γ Γ' zC:Gm}{js js2 js3 J:List Nat}{s:G5}{ss rest a b:List G5}{e c:Expr}{pos:Pos}{f f2:Es}{fe:Ev Dv}{t:Ev Bool}{o:Nat}
theorem Iz{K:W.Frag}{D:Ends}{σ:St}{H:Hp}(h:tS K F yz Γ (_s Γ) [] Jw D σ H):D.nx σ H:=by obtain⟨g,m,P,r,R,k,res,e,q⟩:=h;exact q.nx Γ m g P σ H rfl e BU.refl Step.refl Io.refl r
theorem my:Cu X [] (tS X.K F yz Γ (_s Γ) [] Jw):=Cu.imp MT λD σ H h=>Iz h
theorem iN:PS X (.Pass pos) (tS X.K F yz Γ (_s Γ) [] Jw):=PS.imp bM λD σ H h=>Iz h
theorem mz{x j pos'}:PS X (.Expr (.Constant (.str x) j pos) pos') (tS X.K F yz Γ (_s Γ) [] Jw):=PS.imp ir λD σ H h=>Iz h
theorem Pj(h1:PS X s (tS X.K F yz Γ (_s zC) js f))(h2:Cu X rest (tS X.K F yz zC Γn js2 f2)):Cu X (s::rest) (tS X.K F yz Γ Γn (js++js2) (dC f f2)):=Cu.imp (GP h1 h2) λD σ H h=>by obtain⟨g,m,P,r,R,k,res,e,q⟩:=h;refine⟨g,m,P,r,R,_,res,e,⟨λΓ' m' g' P' σ' H' e i j s' n l=>?_,λd m' g' P' Pv σ' v H' i j=>q.rt d m' g' P' Pv σ' v H' i (j.mono λ_ z=>C0 _ z),λΓ' m' g' P' σ' H' e i j=>q.bk Γ' m' g' P' σ' H' e i (j.mono λ_ z=>C0 _ z),λΓ' m' g' P' σ' H' e i j=>q.ct Γ' m' g' P' σ' H' e i (j.mono λ_ z=>C0 _ z)⟩⟩;cases e;exact⟨g',m',P',l,R,k,res,i,q.later s' n j⟩
theorem iO(h1:PS X s (tS X.K F yz Γ _n js f)):Cu X (s::rest) (tS X.K F yz Γ _n js f):=Cu.imp (GP h1 (u:=λ_ _ _=>False) λ_ _ _ _ _ _ z=>z.elim) λD σ H h=>by obtain⟨g,m,P,r,R,k,res,e,q⟩:=h;exact⟨g,m,P,r,R,k,res,e,(λ_ _ _ _ _ _ e=>by cases e),q.rt,q.bk,q.ct⟩
theorem mw(h1:PS X s (tS X.K F yz Γ Γn js f)):Cu X [s] (tS X.K F yz Γ Γn js f):=bK h1
theorem mv(j:PE X e (tE X.K Γ F.ro F.Γr js fe)):PS X (.Return (_s e) pos) (tS X.K F yz Γ _n js (YO fe)):=PS.imp (ig j) λD σ H h=>by obtain⟨g,m,P,r,R,k,res,e,q⟩:=h;exact⟨g,m,P,r,R,_,res,e,λd m' g' P' Pv v H' l p s rv i n=>q.rt d m' g' P' Pv σ v H' l p s Io.refl rv i n⟩
theorem iR(l:PE X e (tE X.K Γ o Γ' js fe))(j:O0 e _n pos.line X.env=pure _f):PS X (.Expr e pos) (tS X.K F yz Γ (_s Γ') js (Yb fe)):=PS.imp (bO l j) λD σ H h=>by obtain⟨g,m,P,r,R,k,res,e,q⟩:=h;exact⟨g,m,P,r,R,_,res,e,λd m' g' P' Pv v H' p u s rv i n=>q.nx Γ' m' g' P' σ H' rfl p u (s.less λ_ q=>.inl q) Io.refl i⟩
theorem rV(hc:PT X c (tT X.K Γ zC js t))(ha:Cu X a (tS X.K F yz zC Γn js2 f))(y:Cu X b (tS X.K F yz zC Γn js3 f2)):PS X (.If c a b pos) (tS X.K F yz Γ Γn (js++(js2++js3)) (Of t f f2)):=PS.imp (oG hc ha y) λD σ H h=>by
 obtain⟨g,m,P,r,R,k,res,e,q⟩:=h;refine⟨g,m,P,r,R,_,res,e,λb p u P1 B j A s w=>?_⟩;have n:=q.later s Io.refl A;have x:∀(ks:List Nat),(∀i∈ks,i∈js2++js3)->AcS X.K F yz u P1 B σ D Γn ks p k res:=λks l =>
  ⟨λΓ' m' g' P' σ' H' e j a=>n.nx Γ' m' g' P' σ' H' e j (a.mono l),λd m' g' P' Pv σ' v H' j a=>n.rt d m' g' P' Pv σ' v H' j (a.mono l),λΓ' m' g' P' σ' H' e j a=>n.bk Γ' m' g' P' σ' H' e j (a.mono l),λΓ' m' g' P' σ' H' e j a=>n.ct Γ' m' g' P' σ' H' e j (a.mono l)⟩
 cases b with|true=>rw[if_pos rfl]at j;show(if _t=_t then _ else _);rw[if_pos rfl];exact⟨u,p,P1,w,R,k,res,j,x js2 λ_ z=>C0 _ z⟩|false=>rw[if_neg D1]at j;show(if _f=_t then _ else _);rw[if_neg D1];exact⟨u,p,P1,w,R,k,res,j,x js3 λ_ z=>B5 _ z⟩
def IM:Option Gm->Option Gm->Bool
 |some a,_s b=>Bc a b
 |_,_n=>_t
 |none,_s _=>_f
theorem WG(h:Cu X ss (tS X.K F yz Γ Γn js f))(i:IM zCn Γn=_t):Cu X ss (tS X.K F yz Γ zCn js f):=Cu.imp h λD σ H h=>by
 obtain⟨g,m,P,r,R,k,res,e,q⟩:=h;refine⟨g,m,P,r,R,k,res,e,λΓ' m' g' P' σ' H' e p v s' n l=>?_,q.rt,q.bk,q.ct⟩;subst e;cases zCn with|none=>cases i|some d=>obtain⟨u,P2,s2,j⟩:=l.weaken (by unfold IM at i;exact i);exact q.nx d m' u P2 σ' H' rfl p v (s'.trans s2) n j
def pj(J:List Nat)(f:Es):Es:=λR m k=>(f (DR J) m ⟨λm'=>_s (Ac J m'),λ_ _=>_n,λ_=>_n,λ_=>_n⟩).bind λt=>k.nx (AR J m t)
theorem kF{K:W.Frag}{D:Ends}{σ:St}{H:Hp}(p:∀i o,Γ'[i]?=_s (_s o)->i∈J\/i∉js)(n:∀i∈J,i∈js)(h:tS K F yz Γ (_s Γ') js (pj J f) D σ H):tS K F yz Γ (_s Γ') js f D σ H:=by obtain⟨g,m,P,r,R,k,res,e,q⟩:=h;refine yt e λt v u=>?_;refine⟨g,m,P,r,_,_,t,v,⟨λzC m' g' P' σ' H' e d w s' l j=>?_,(λ_ _ _ _ _ _ _ _ d=>by cases d),(λ_ _ _ _ _ _ _ d=>by cases d),λ_ _ _ _ _ _ _ d=>by cases d⟩⟩;cases e;cases d;exact q.nx Γ' _ g' P' σ' H' rfl u ((AU J m _).mono n) s' l (j.join w p)
end
noncomputable abbrev Tg:=(R:Type)->Dv->M->(M->Option R)->Option R
def Ag(js:List Nat)(σ σ':St):Prop:=σ'.length=σ.length/\∀i,i∉js->σ'[i]?=σ[i]?
theorem Ag.io{js io:List Nat}{σ σ':St}(h:Ag js σ σ')(d:∀i∈io,i∉js):Io io σ σ':=λi hi=>h.2 i (d i hi)
theorem Ag.trans{js ks:List Nat}{σ c d:St}(a:Ag js σ c)(b:Ag ks c d):Ag (js++ks) σ d:=⟨b.1.trans a.1,λi h=>(b.2 i λz=>h (B5 _ z)).trans (a.2 i λz=>h (C0 _ z))⟩
theorem Ag.set{σ:St}{i:Nat}{x:Option V}:Ag [i] σ (σ.set i x):=⟨D8 ..,λj h=>D9 λz=>h (by rw[z];exact Q6 _)⟩
def NJ(K:W.Frag)(Γ Γ':Gm)(js:List Nat)(tg:TG)(f:Tg):Prop:=∀(g:G)(m:M)(P:Fp)(d:Dv)(v:V)(σ:St)(H:Hp)(R:Type)(k:M->Option R)(r:R)(Q:St->Hp->Prop),Rel K g H Γ m σ P->Rep K g H 0 d v yv->f R d m k=_s r ->
 (∀m' P' σ',k m'=_s r->BU js m m'->(∀a,P' a->P a)->Ag js σ σ'->Rel K g H Γ' m' σ' P'->Q σ' H)->tg v σ H Q
def mT(i:Nat):Tg:=λ_ d m k=>k (m.set i d)
theorem aS{K:W.Frag}{Γ:Gm}{i:Nat}(hi:i < Γ.length):NJ K Γ (Γ.set i (_s 0)) [i] (DC i) (mT i):=λg m P d v σ H R k r Q b rv e q=>by obtain⟨P2,c,s⟩:=b.zAL hi rv λ_ z=>z.elim;exact q _ P2 _ e BU.set (λa z=>(s a z).elim id D2) Ag.set c
noncomputable def gw:(J:List Nat)->List Dv->Option (DR J)
 |[],[]=>_s ()
 |[_],[d]=>_s d
 |_::j::J,d::ds=>(gw (j::J) ds).bind λt=>_s (d,t)
 |_,_=>_n
def He(J:List Nat)(d:Dv):Option (DR J):=match d with
 |.tup ds=>gw J ds
 |.lst ds=>gw J ds
 |_=>_n
def tJ(J:List Nat):Tg:=λ_ d m k=>(He J d).bind λt=>k (AR J m t)
def Eh:List Nat->NL
 |[]=>OX
 |i::J=>Dg (DC i) (Eh J)
def WD(Γ:Gm)(J:List Nat)(x:Option Nat):Gm:=J.foldl (λΓ i=>Γ.set i x) Γ
theorem WC(J:List Nat)(x:Option Nat):∀Γ:Gm,(WD Γ J x).length=Γ.length:=by
 induction J with|nil=>intro Γ;rfl|cons i J a=>intro Γ;show(WD (Γ.set i x) J x).length=_;rw[a,D8]
theorem LK{K:W.Frag}:∀(J:List Nat){Γ:Gm}{g:G}{m:M}{P:Fp}{ds:List Dv}{vs:List V}{σ:St}{H:Hp}{t:DR J}{Q:St->Hp->Prop},(∀i∈J,i < Γ.length)->Rel K g H Γ m σ P->AA K g H 0 ds vs yv->gw J ds=_s t ->
    (∀P' σ',(∀a,P' a->P a)->Ag J σ σ'->Rel K g H (WD Γ J (_s 0)) (AR J m t) σ' P'->Q σ' H)->ds.length=J.length/\Eh J vs σ H Q
  |[],Γ,g,m,P,ds,vs,σ,H,t,Q,b,r,rv,e,q=>by
    cases ds with|nil=>unfold AA at rv;exact⟨rfl,rv.1,q P σ (λ_ z=>z) ⟨rfl,λ_ _=>rfl⟩ r⟩|cons d ds=>cases e
  |[i],Γ,g,m,P,ds,vs,σ,H,t,Q,b,r,rv,e,q=>by
    match ds,e with
    |[d],e=>cases e;unfold AA at rv;obtain⟨v,c,P1,P2,rfl,h1,h2,_,h4⟩:=rv;unfold AA at h2;obtain⟨P3,f,s⟩:=r.zAL (b i B2) h1.z λ_ z=>z.elim;exact⟨rfl,v,c,rfl,h2.1,q P3 _ (λa z=>(s a z).elim id D2) Ag.set f⟩
    |[],e=>cases e
    |_::_::_,e=>cases e
  |i::j::J,Γ,g,m,P,ds,vs,σ,H,t,Q,b,r,rv,e,q=>by
    match ds,e with
    |[],e=>cases e
    |d::ds,e=>refine yt (show(gw (j::J) ds).bind (λt=>_s (d,t))=_s t from e) λt' o n=>?_;cases n;unfold AA at rv;obtain⟨v,c,P1,P2,rfl,h1,h2,_,h4⟩:=rv;obtain⟨P3,f,s⟩:=r.zAL (b i B2) h1.z λ_ z=>z.elim;have s':∀a,P3 a->P a:=λa z=>(s a z).elim id D2;have:=LK (j::J) (Q:=Q) (λk l=>by rw[D8];exact b k (B1 _ l)) f h2.z o λP' σ' sp p h=>q P' σ' (λa z=>s' a (sp a z)) (Ag.set.trans p) h;exact⟨by simp[this.1],v,c,rfl,this.2⟩
abbrev YD(K:W.Frag)(n:Nat)(t:NL):TG:=λv σ H Q=>kO K n t v σ H Q\/kQ n t v σ H Q
theorem Ve{K:W.Frag}{Γ:Gm}{J:List Nat}(h:∀i∈J,i < Γ.length):NJ K Γ (WD Γ J (_s 0)) J (YD K J.length (Eh J)) (tJ J):=λg m P d v σ H R k r Q c rv e q=>by
 refine yt e λt b j=>?_;have go:∀{ds vs},AA K g H 0 ds vs yv->gw J ds=_s t->ds.length=J.length/\Eh J vs σ H Q:=λh1 h2=>LK J h c h1 h2 λP' σ' sp n f=>q _ P' σ' j (AU J m t) sp n f;cases d with|tup ds=>unfold Rep at rv;obtain⟨a,vs,rfl,h1,h2⟩:=rv;obtain⟨l,z⟩:=go h2 b;exact .inl ⟨a,vs,rfl,.inl (.inl h1),by rw[<- h2.len];exact l,z⟩|lst ds=>unfold Rep at rv;obtain⟨a,vs,P',rfl,h1,h2,_⟩:=rv;obtain⟨l,z⟩:=go h2.z b;exact .inr ⟨a,vs,rfl,h1.1,by rw[<- h2.len];exact l,z⟩|_=>cases b
theorem PG.or{X:Cx}{e:Expr}{t u:TG}(h:PG X e t)(k:PG X e u):PG X e λv σ H Q=>t v σ H Q\/u v σ H Q:=λpins s σ H v w Q I r q=>q.elim (h pins s σ H v w Q I r) (k pins s σ H v w Q I r)
theorem Xx{js:List Nat}{t u:TG}(h:VL js t)(k:VL js u):VL js λv σ H Q=>t v σ H Q\/u v σ H Q:=λx σ H Q q=>q.elim (λq=>.inl (h x σ H Q q)) λq=>.inr (k x σ H Q q)
theorem Fl{js:List Nat}:∀(J:List Nat),(∀i∈J,i∈js)->PB js (Eh J)
 |[],_=>OW
 |i::J,h=>US (h i B2) (Fl J λk a=>h k (B1 _ a))
def tH(b f2:Tg):Tg:=λR d m k=>(He [0,1] d).bind λt=>b R t.1 m λa=>f2 R t.2 a k
theorem aR{K:W.Frag}{Γ o p:Gm}{C B:List Nat}{j i:TG}{A f2:Tg}(h1:NJ K Γ o C j A)(h2:NJ K o p B i f2):NJ K Γ p (C++B) (YD K 2 (Dg j (Dg i OX))) (tH A f2):=λg m P d v σ H R k r Q E rv e q=>by
 refine yt e λt n L=>?_;have go:∀{ds vs},AA K g H 0 ds vs yv->gw [0,1] ds=_s t->vs.length=2/\Dg j (Dg i OX) vs σ H Q:=fun{ds vs} c b=>by
  match ds,b with
  |[x,y],b=>cases b;unfold AA at c;obtain⟨s,w,P1,P2,rfl,J,c,_⟩:=c;unfold AA at c;obtain⟨h,u,P3,O,rfl,I,c,_⟩:=c;unfold AA at c;obtain⟨rfl,_⟩:=c;exact⟨rfl,s,[h],rfl,h1 g m P x s σ H R _ r _ E J.z L λG P1 f k1 N p1 s1 w=>⟨h,[],rfl,h2 g G P1 y h f H R k r _ w I.z k1 λF P2 D k2 M p2 s2 u=>⟨rfl,q F P2 D k2 (N.trans M) (λa z=>p1 a (p2 a z)) (s1.trans s2) u⟩⟩⟩
  |[],b=>cases b
  |[_],b=>cases b
  |_::_::_::_,b=>cases b
 cases d with|tup ds=>unfold Rep at rv;obtain⟨a,vs,rfl,h1,h2⟩:=rv;obtain⟨l,z⟩:=go h2 n;exact .inl ⟨a,vs,rfl,.inl (.inl h1),l,z⟩|lst ds=>unfold Rep at rv;obtain⟨a,vs,P',rfl,h1,h2,_⟩:=rv;obtain⟨l,z⟩:=go h2.z n;exact .inr ⟨a,vs,rfl,h1.1,l,z⟩|_=>cases n
def Zv(t:TG):Prop:=∀v σ H (Q a:St->Hp->Prop),t v σ H Q->(∀σ H,Q σ H->a σ H)->t v σ H a
def MB(t:NL):Prop:=∀v σ H (Q a:St->Hp->Prop),t v σ H Q->(∀σ H,Q σ H->a σ H)->t v σ H a
theorem LM{i:Nat}:Zv (DC i):=λ_ _ _ _ _ h q=>q _ _ h
theorem Jd:MB OX:=λ_ _ _ _ _ h q=>⟨h.1,q _ _ h.2⟩
theorem LN{t:TG}{u:NL}(b:Zv t)(a:MB u):MB (Dg t u):=λ_ _ _ _ _ ⟨v,r,e,h⟩ q=>⟨v,r,e,b _ _ _ _ _ h λ_ _ h=>a _ _ _ _ _ h q⟩
theorem Je:∀J:List Nat,MB (Eh J)
 |[]=>Jd
 |_::J=>LN LM (Je J)
theorem XO{K:W.Frag}{n:Nat}{u:NL}(b:MB u):Zv (YD K n u):=λ_ _ _ _ _ h q=>h.elim (fun⟨a,xs,e,s,l,h⟩=>.inl ⟨a,xs,e,s,l,b _ _ _ _ _ h q⟩) fun⟨a,xs,e,s,l,h⟩=>.inr ⟨a,xs,e,s,l,b _ _ _ _ _ h q⟩
theorem Jo{js:List Nat}{t:TG}{u:NL}(d:Zv t)(mu:MB u)(g:VL js t)(f:PB js u):PB js (Dg t u):=λx σ H Q ⟨v,r,e,q⟩=>⟨v,r,e,d _ _ _ _ _ (g v σ H _ q) λa j ⟨⟨l1,h⟩,c⟩=>mu _ _ _ _ _ (f r a j _ c) λk l ⟨⟨l2,f2⟩,b⟩=>⟨⟨l2.trans l1,λi hi=>(f2 i hi).trans (h i hi)⟩,b⟩⟩
def Le(f:Ev Dv)(tg:Tg):Es:=λR m k=>f R m λd a=>tg R d a k.nx
section
variable{X:Cx}{F:Fr}{yz:Option Gm}{Γ Γ' zC:Gm}{js js2:List Nat}{e tg:Expr}{pos pos':Pos}{fe:Ev Dv}{g:TG}{ft:Tg}{i o:Nat}{x:Str}
theorem eA{K:W.Frag}(u:NJ K zC Γ' js2 g ft)(j:∀i∈F.io,i∉js2){D:Ends}{σ:St}{H:Hp}(h:tS K F yz Γ (_s Γ') (js++js2) (Le fe ft) D σ H):KM (tE K Γ 0 zC js fe) g D σ H:=by obtain⟨y,m,P,r,R,k,res,e,q⟩:=h;refine⟨y,m,P,r,R,_,res,e,λd t g' P' Pv v H' w A s rv p n=>u g' t P' d v σ H' R k.nx res _ p rv.z w λm' P2 f c b s2 i l=>?_⟩;exact q.nx Γ' m' g' P2 f H' rfl c (A.trans b) (s.less λa z=>.inl (s2 a z)) (i.io j) l
theorem RU{K:W.Frag}(hi:i < zC.length)(b:i∉F.io){D:Ends}{σ:St}{H:Hp}(h:tS K F yz Γ (_s (zC.set i (_s o))) (js++[i]) (Le fe (mT i)) D σ H):KM (tE K Γ o zC js fe) (DC i) D σ H:=by obtain⟨l,m,P,r,R,k,res,e,q⟩:=h;refine⟨l,m,P,r,R,_,res,e,λd t g' P' Pv v H' j p s rv f n=>?_⟩;obtain⟨P2,c,s2⟩:=f.zAL hi rv λa q z=>n a z q;exact q.nx _ _ g' P2 _ H' rfl j (p.trans BU.set) (s.less λa z=>s2 a z) (Io.set b) c
theorem mq(k:X.N.Nodup)(a:X.N[i]?=_s x)(c:Loc X.env.scope x)(b:i∉F.io)(hi:i < zC.length)(j:PE X e (tE X.K Γ o zC js fe))(d:O0 e (_s (.Name x pos')) pos.line X.env=pure _f)(f:X.fn x=_t\/X.env.scope.names.lookup x=_s .local) :
    PS X (.Assign [.Name x pos'] e pos) (tS X.K F yz Γ (_s (zC.set i (_s o))) (js++[i]) (Le fe (mT i))):=PS.imp (WZ k a c j d f) λ_ _ _ h=>RU hi b h
theorem nA(j:PE X e (tE X.K Γ 0 zC js fe))(f:PG X tg g)(c:NJ X.K zC Γ' js2 g ft)(a:∀i∈F.io,i∉js2)(d:d7 [tg] e pos.line X.env=pure _f)(b:T2 [tg] e X.env=pure _n)
    (h1:(N3 [tg] X.env).map (·.2)=[W5 tg X.env]):PS X (.Assign [tg] e pos) (tS X.K F yz Γ (_s Γ') (js++js2) (Le fe ft)):=PS.imp (Pu j f d b h1) λ_ _ _ h=>eA c a h
end
def IC(g:G)(H:Hp)(a:G)(b:Hp):Prop:=∃P P',Step g P H a P' b/\zA g H P
def Yl(K:W.Frag)(J:It)(ds:List Dv)(g:G)(H:Hp):Prop:=∀b a,IC g H b a ->
 (∀i d,ds[i]?=_s d->J.go i a/\∀x c,J.yld i a x c->Ap K b a 0 d x c)/\∀i,ds.length<=i->J.stop i a
inductive tI (K:W.Frag) (Γ Γ':Gm) (js:List Nat) (f:Ev (List Dv)) (σ:St) (H:Hp) (Q:It->Hp->Prop):Prop
 | mk (g:G) (m:M) (P:Fp) (a:Rel K g H Γ m σ P) (R:Type) (k:List Dv->M->Option R) (r:R) (b:f R m k=_s r)
  (c:∀ds m' g' P' H' J,k ds m'=_s r->BU js m m'->Step g P H g' P' H'->Rel K g' H' Γ' m' σ P'->Yl K J ds g' H'->Q J H')
theorem PI.imp{X:Cx}{tg e:Expr}{t t':TI}(h:PI X tg e t)(k:∀σ H R,t' σ H R->t σ H R):PI X tg e t':=λpins s σ H R I q=>h pins s σ H R I (k σ H R q)
theorem Ap.old{K:W.Frag}{g:G}{H:Hp}{o:Nat}{d:Dv}{v:V}(h:Rep K g H o d v yv):Ap K g H o d v H:=⟨λ_ _ q=>q,yv,h,λ_ z=>z.elim⟩
theorem IC.rep{K:W.Frag}{g g2:G}{H a:Hp}{d:Dv}{v:V}(s:IC g H g2 a)(h:Rep K g H 0 d v yv):Rep K g2 a 0 d v yv:=by obtain⟨P,P',st,ok⟩:=s;exact h.held st ok λ_ z=>z.elim
section
variable{τ γ ρ:Type}
inductive Lp (τ γ ρ:Type) where
 |go (c:γ)|bk (c:γ)|rt (d:τ) (r:ρ)
inductive Rs (τ γ ρ:Type) where
 |go (c:γ)|rt (d:τ) (r:ρ)
noncomputable def Rs.el{a:Type}(x:Rs τ γ ρ)(f:γ->a)(h:τ->ρ->a):a:=match x with|.go c=>f c|.rt d r=>h d r
noncomputable def AW(g:Dv->γ->Option γ):List Dv->γ->Option γ
 |[],c=>_s c
 |x::xs,c=>(g x c).bind λa=>AW g xs a
noncomputable def UT(g:Dv->γ->Option (Lp τ γ ρ)):List Dv->γ->Option (Rs τ γ ρ)
 |[],c=>_s (.go c)
 |x::xs,c=>(g x c).bind λl=>match l with
  |.go a=>UT g xs a
  |.bk a=>_s (.go a)
  |.rt d r=>_s (.rt d r)
noncomputable def PF(t:γ->Option Bool)(g:γ->Option γ):Nat->γ->Option γ
 |0,_=>_n
 |n+1,c=>(t c).bind λb=>if b=_t then(g c).bind (PF t g n)else _s c
end
def kC(J:List Nat):Kt (DR J):=⟨λm'=>_s (Ac J m'),λ_ _=>_n,λ_=>_n,λm'=>_s (Ac J m')⟩
def kE(J Jr:List Nat):Kt (Lp Dv (DR J) (DR Jr)):=⟨λm'=>_s (.go (Ac J m')),λd m'=>_s (.rt d (Ac Jr m')),λm'=>_s (.bk (Ac J m')),λm'=>_s (.go (Ac J m'))⟩
def YY(a:Ev (List Dv))(tg:Tg)(J:List Nat)(b:Es):Es:=λR m k=>a R m λds c =>
 (AW (λd t=>tg (DR J) d (AR J c t) λe=>b (DR J) e (kC J)) ds (Ac J c)).bind λt=>k.nx (AR J c t)
def YX(c:Ev (List Dv))(tg:Tg)(J Jr:List Nat)(b:Es):Es:=λR m k=>c R m λds a =>
 (UT (λd t=>tg (Lp Dv (DR J) (DR Jr)) d (AR J a t) λe=>b (Lp Dv (DR J) (DR Jr)) e (kE J Jr)) ds (Ac J a)).bind λx=>x.el (λt=>k.nx (AR J a t)) λd t=>k.rt d (AR Jr a t)
theorem Jp{J:List Nat}{Γ:Gm}{K:W.Frag}{g:G}{H:Hp}{m:M}{σ:St}{P:Fp}(r:Rel K g H Γ m σ P):Rel K g H Γ (AR J m (Ac J m)) σ P:=r.join (js:=[]) BU.refl λ_ _ _=>.inr (by simp)
theorem SO{K:W.Frag}{F:Fr}{zBB:Option Gm}{Γ P:Gm}{Q:Option Gm}{p s:List Nat}{g:TG}{ft:Tg}{b:Es}{J Jr:List Nat}(ht:NJ K Γ P p g ft)(zY:∀i∈F.io,i∉p)(hw:IM (_s Γ) Q=_t)
    (hJ:J=BN Γ (p++s)) (U:Jr=BN F.Γr (p++s)) {ds:List Dv} {c:M} {D:Ends} {σ:St} {A:Hp} {y:G} {P1:Fp} {I:It} {R:Type} {k:Kt R} {res:R}
    (r1:Rel K y A Γ c σ P1) (yl:Yl K I ds y A) (run:List Dv->DR J->Prop) (h0:run ds (Ac J c)) (hn:∀t,run [] t->k.nx (AR J c t)=_s res)
    (hc:∀d ds t,run (d::ds) t->∃(B:Type)(C:Kt B)(r:B),ft B d (AR J c t) (λT=>b B T C)=_s r/\(∀m',C.nx m'=_s r->run ds (Ac J m'))/\(∀m',C.ct m'=_s r->run ds (Ac J m')) /\
      (∀m',C.bk m'=_s r->k.nx (AR J c (Ac J m'))=_s res)/\∀d m',C.rt d m'=_s r->k.rt d (AR Jr c (Ac Jr m'))=_s res)
    (q:AcS K F zBB y P1 A σ D (_s Γ) (p++s) c k res) :
    ∃W:Nat->Nat->St->Hp->Prop,(∃m,W 0 m σ A)/\∀i m σ H,W i m σ H ->
      (I.stop i H/\D.nx σ H)\/(I.go i H/\∃N:St->Hp->Prop,(∀σ' H',N σ' H'->∃m',m' < m/\W (i+1) m' σ' H')/\∀x H',I.yld i H x H'->g x σ H' λV O=>tS K F (_s Γ) P Q s b {D with nx:=N,ct:=N,bk:=D.nx} V O):=by
  have sub:∀i∈J,i∈p++s:=λi h=>Az (hJ▸h);have zCo:∀i∈Jr,i∈p++s:=λi h=>Az (U▸h);refine⟨λi j σ' H'=>j=ds.length-i/\i<=ds.length/\∃u t P2,Step y P1 A u P2 H'/\Io F.io σ σ'/\Rel K u H' Γ (AR J c t) σ' P2/\run (ds.drop i) t,⟨ds.length,by simp,G8 _,y,Ac J c,P1,Step.refl,Io.refl,Jp r1,by simpa using h0⟩,?_⟩;rintro i j V O ⟨rfl,hi,u,t,P2,s2,i2,r2,e2⟩;have st:IC y A u O:=⟨P1,P2,s2,r1.y6⟩;by_cases zg:i < ds.length;rw[S1 zg]at e2;obtain⟨B,C,rB,e3,knx,kct,kbk,krt⟩:=hc _ _ _ e2;obtain⟨go,yy⟩:=(yl u O st).1 i ds[i] (A3 zg);refine .inr ⟨go,λσ' H'=>∃Z P5 m',Step y P1 A Z P5 H'/\Io F.io σ σ'/\Rel K Z H' Γ m' σ' P5/\BU (p++s) c m'/\run (ds.drop (i+1)) (Ac J m'),?_,λx H3 hy=>?_⟩;rintro σ' H' ⟨Z,P5,m',s5,i5,r5,ag,hr⟩;exact⟨ds.length-(i+1),by omega,rfl,zg,Z,Ac J m',P5,s5,i5,r5.join ag λi o h=>hJ▸BL h,hr⟩;obtain⟨Pv,s3,h3,r3,n3⟩:=Ap.go s2 r2 (yy x H3 hy);refine ht u _ P2 ds[i] x V H3 B _ rB _ r3 h3.z e3 λT P' σ' w ag sp ip r'=>?_;have X:Step y P1 A u P' H3:=s3.less λa z=>.inl (sp a z);have Y:=i2.trans (ip.io zY);have a4:BU (p++s) c T:=((AU J c t).mono sub).trans ag |>.mono λi z=>(E6.mp z).elim id λz=>C0 _ z
  have a5:∀{m'},BU s T m'->BU (p++s) c m':=λh=>(a4.trans h).mono λi z=>(E6.mp z).elim id λz=>B5 _ z;refine⟨u,T,P',r',B,C,rB,w,⟨λΓ' m' g' l S H' e w f s' L E=>?_,λd m' g' l Pv S v H' w f s' L rv E n=>?_,λΓ' m' g' l S H' e w f s' L E=>?_,λΓ' m' g' l S H' e w f s' L E=>?_⟩⟩;subst e;obtain⟨g6,P6,s6,r6⟩:=E.weaken (by unfold IM at hw;exact hw);exact⟨g6,P6,m',(X.trans s').trans s6,Y.trans L,r6,a5 f,knx m' w⟩;exact q.rt d _ g' l Pv S v H' (krt d m' w) ((AU Jr c _).mono zCo) (X.trans s') (Y.trans L) rv (E.join (a5 f) λi o h=>U▸BL h) n;cases e;exact q.nx Γ _ g' l S H' rfl (kbk m' w) ((AU J c _).mono sub) (X.trans s') (Y.trans L) (E.join (a5 f) λi o h=>hJ▸BL h);cases e;exact⟨g',l,m',X.trans s',Y.trans L,E,a5 f,kct m' w⟩;have ei:i=ds.length:=by omega
  subst ei;rw[uw]at e2;exact .inl ⟨(yl u O st).2 _ (C4 _),q.nx Γ _ u P2 V O rfl (hn t e2) ((AU J c _).mono sub) s2 i2 r2⟩
section
variable{X:Cx}{F:Fr}{zBB:Option Gm}{Γ zL zC Γt:Gm}{Γo:Option Gm}{js jt jb J Jr:List Nat}{tg iter:Expr}{body:List G5}{src:Ev (List Dv)}{g:TG}{ft:Tg}{b:Es}{pos:Pos}
theorem IC.pre{g g2 g3:G}{H e:Hp}{P P2:Fp}(s:Step g P H g2 P2 H)(ok:zA g H P)(st:IC g2 H g3 e):IC g H g3 e:=by obtain⟨P3,d,s3,c⟩:=st;exact⟨λa=>P a\/P3 a,d,(s.frame (R:=P3)).trans (s3.sub (λ_ z=>.inr z) λ_ z=>z),ok.or λa z=>⟨(c a z).1,λw=>(c a z).2 (s.zm a w)⟩⟩
theorem RI{K:W.Frag}{σ:St}{H:Hp}{Q:It->Hp->Prop}(f:Bc zC zL=_t)(h:tI K Γ zC js src σ H Q):tI K Γ zL js src σ H Q:=by obtain⟨g,m,P,r,R,k,res,e,q⟩:=h;refine⟨g,m,P,r,R,k,res,e,λds m' g' P' H' J i n s a c=>?_⟩;obtain⟨l,P2,s2,d⟩:=a.weaken f;exact q ds m' l P2 H' J i n (s.trans s2) d λj o st=>c j o (st.pre s2 a.y6)
theorem iQ(hp:b9 (C7 X.prog X.w) X.A X.env X.xe)(hc:X.calm=_t)(hi:PI X tg iter (tI X.K Γ zL js src))(v:PG X tg g)(p:NJ X.K zL Γt jt g ft)(f:∀i∈F.io,i∉jt)(y:Cu X body (tS X.K F (_s zL) Γt Γo jb b))(o:IM (_s zL) Γo=_t)(z:J=BN zL (jt++jb))
    (u:∀x,K3 iter X.env x=pure x):PS X (.For tg iter body [] pos) (tS X.K F zBB Γ (_s zL) (js++(jt++jb)) (YY src ft J b)):=PS.imp (Pt hp hc hi v y u) λD σ H h=>by
  obtain⟨B,m,P,r,R,k,res,e,q⟩:=h;refine⟨B,m,P,r,R,_,res,e,λds L M P1 N I a G s n j=>?_⟩;refine yt a λt E C=>?_;refine SO (Jr:=BN F.Γr (jt++jb)) p f o z rfl n j (λds c=>AW _ ds c=_s t) E (λc h=>?_) (λd ds c h=>?_) (q.later s Io.refl G);cases h;exact C;refine yt h λl h1 h2=>?_;refine⟨DR J,kC J,l,h1,λm' a=>?_,λm' a=>?_,(λm' a=>by cases a),λd m' a=>by cases a⟩;cases a;exact h2;cases a;exact h2
theorem iP(hp:b9 (C7 X.prog X.w) X.A X.env X.xe)(hc:X.calm=_t)(hi:PI X tg iter (tI X.K Γ zL js src))(y:PG X tg g)(u:NJ X.K zL Γt jt g ft)(n:∀i∈F.io,i∉jt)(z:Cu X body (tS X.K F (_s zL) Γt Γo jb b))(t:IM (_s zL) Γo=_t)(B:J=BN zL (jt++jb))(f:Jr=BN F.Γr (jt++jb))
    (v:∀x,K3 iter X.env x=pure x):PS X (.For tg iter body [] pos) (tS X.K F zBB Γ (_s zL) (js++(jt++jb)) (YX src ft J Jr b)):=PS.imp (Pt hp hc hi y z v) λD σ H h=>by
  obtain⟨C,m,P,r,R,k,res,e,q⟩:=h;refine⟨C,m,P,r,R,_,res,e,λds L M P1 N I a G s p o=>?_⟩;refine yt a λx E j=>?_;refine SO u n t B f p o (λds c=>UT _ ds c=_s x) E (λc h=>?_) (λd ds c h=>?_) (q.later s Io.refl G);cases h;exact j;refine yt h λl h1 h2=>?_;refine⟨_,kE J Jr,l,h1,λm' a=>?_,λm' a=>?_,λm' a=>?_,λd m' a=>?_⟩;cases a;exact h2;cases a;exact h2;cases a;cases h2;exact j;cases a;cases h2;exact j
end
def ff(n:Nat)(c:Ev Bool)(J:List Nat)(b:Es):Es:=λR m k =>
 (PF (λt=>c Bool (AR J m t) λb _=>_s b) (λt=>b (DR J) (AR J m t) (kC J)) n (Ac J m)).bind λt=>k.nx (AR J m t)
theorem gi{K:W.Frag}{F:Fr}{S:Option Gm}{Γ w:Gm}{u:Option Gm}{j:List Nat}{c:Ev Bool}{b:Es}{J Jr:List Nat}(hwc:Bc Γ w=_t)(hw:IM (_s Γ) u=_t)
    (hJ:J=BN Γ j) (E:Jr=BN F.Γr j) {a:M} {D:Ends} {σ:St} {L:Hp} {H:G} {P1:Fp} {R:Type} {k:Kt R} {res:R}
    (r1:Rel K H L Γ a σ P1) (run:Nat->DR J->Prop) {n:Nat} (h0:run n (Ac J a))
    (hc:∀n t,run n t->∃I,c Bool (AR J a t) (λb _=>_s b)=_s I/\if I=_t then ∃A,A < n/\∃(B:Type)(m:Kt B)(r:B),b B (AR J a t) m=_s r/\(∀m',m.nx m'=_s r->run A (Ac J m'))/\(∀m',m.ct m'=_s r->run A (Ac J m')) /\
      (∀m',m.bk m'=_s r->k.nx (AR J a (Ac J m'))=_s res)/\(∀d m',m.rt d m'=_s r->k.rt d (AR Jr a (Ac Jr m'))=_s res)else k.nx (AR J a t)=_s res)
    (q:AcS K F S H P1 L σ D (_s Γ) j a k res):Vf (tT K Γ w [] c) (tS K F (_s Γ) Γ u j b) D σ L:=by
  have sub:∀i∈J,i∈j:=λi h=>Az (hJ▸h);have Q:∀i∈Jr,i∈j:=λi h=>Az (E▸h);refine⟨λn σ' H'=>∃N t P2,Step H P1 L N P2 H'/\Io F.io σ σ'/\Rel K N H' Γ (AR J a t) σ' P2/\run n t,⟨n,H,Ac J a,P1,Step.refl,Io.refl,Jp r1,h0⟩,?_⟩;rintro A zc H2 ⟨N,t,P2,s2,C,r2,e2⟩;obtain⟨I,e3,O⟩:=hc A t e2;refine⟨N,_,P2,r2,Bool,_,I,e3,λb' m' g3 P3 H3 l ag s3 r3=>?_⟩;cases l;obtain⟨g4,P4,s4,r4⟩:=r3.weaken hwc;have r5:Rel K g4 H3 Γ (AR J a t) zc P4:=r4.agree ag.1.symm λi o _=>(ag.2 i (by simp)).symm;have y:=(s2.trans s3).trans s4;cases I with|false=>rw[if_neg D1]at O ⊢;exact q.nx Γ _ g4 P4 zc H3 rfl O ((AU J a _).mono sub) y C r5|true=>rw[if_pos rfl]at O ⊢;obtain⟨n2,hn,B,m,rB,eb,X,Y,Z,V⟩:=O;have P:∀{m'},BU j (AR J a t) m'->BU j a m':=λh=>(((AU J a t).mono sub).trans h).mono λi z=>(E6.mp z).elim id id;refine⟨λσ' H'=>∃g5 P5 m',Step H P1 L g5 P5 H'/\Io F.io σ σ'/\Rel K g5 H' Γ m' σ' P5/\BU j a m'/\run n2 (Ac J m'),?_,g4,_,P4,r5,B,m,rB,eb,⟨λΓ' m' g' g x H' e l f s' s p=>?_,λd m' g' g Pv x v H' l f s' s rv p n=>?_,λΓ' m' g' g x H' e l f s' s p=>?_,λΓ' m' g' g x H' e l f s' s p=>?_⟩⟩;rintro σ' H' ⟨g6,P6,m',T,i6,U,ag6,hr⟩;exact⟨n2,hn,g6,Ac J m',P6,T,i6,U.join ag6 λi o h=>hJ▸BL h,hr⟩;subst e;obtain⟨g6,P6,T,U⟩:=p.weaken (by unfold IM at hw;exact hw);exact⟨g6,P6,m',(y.trans s').trans T,C.trans s,U,P f,X m' l⟩;exact q.rt d _ g' g Pv x v H' (V d m' l) ((AU Jr a _).mono Q) (y.trans s') (C.trans s) rv (p.join (P f) λi o h=>E▸BL h) n;cases e;exact q.nx Γ _ g' g x H' rfl (Z m' l) ((AU J a _).mono sub) (y.trans s') (C.trans s) (p.join (P f) λi o h=>hJ▸BL h);cases e;exact⟨g',g,m',y.trans s',C.trans s,p,P f,Y m' l⟩
section
variable{X:Cx}{F:Fr}{zBB:Option Gm}{Γ Γc:Gm}{Γo:Option Gm}{jb J Jr:List Nat}{c:Expr}{body:List G5}{t:Ev Bool}{b:Es}{pos:Pos}
theorem mn(n:Nat)(hp:b9 (C7 X.prog X.w) X.A X.env X.xe)(hc:PT X c (tT X.K Γ Γc [] t))(o:Cu X body (tS X.K F (_s Γ) Γ Γo jb b))(f:Bc Γ Γc=_t)(l:IM (_s Γ) Γo=_t)(p:J=BN Γ jb) :
    PS X (.While c body [] pos) (tS X.K F zBB Γ (_s Γ) jb (ff n t J b)):=PS.imp (OA hp hc o) λD σ H h=>by
  obtain⟨v,m,P,r,R,k,res,e,q⟩:=h;refine yt e λt' u s=>?_;refine gi (Jr:=BN F.Γr jb) f l p rfl r (λn g=>PF _ _ n g=_s t') u (λn g h=>?_) q;cases n with
  |zero=>cases h
  |succ n=>
    refine yt h λi h1 h2=>?_;refine⟨i,h1,?_⟩;cases i with|false=>rw[if_neg D1]at h2 ⊢;cases h2;exact s|true=>rw[if_pos rfl]at h2 ⊢;refine yt h2 λj h3 h4=>?_;refine⟨n,T9 n,DR J,kC J,j,h3,λm' a=>?_,λm' a=>?_,(λm' a=>by cases a),λd m' a=>by cases a⟩;cases a;exact h4;cases a;exact h4
end
end R
namespace Q
open PySem L2
set_option genInjectivity true in
inductive Dt where
 |yw|bl (b:Bool)|int (i:Int)|str (x:List Nat)
 |tup (xs:List Dt)|lst (o:Bool) (xs:List Dt)|dic (o:Bool) (y7:List (Dt×Dt))|ref (k:Nat)|scr (ns:List Int)|ty (n:String)|mtp (ls:List (List Nat))|dti (o:Bool) (y7:List (List Int×Int))
 deriving Inhabited
structure G where
 Z:A8->Prop
 μ:List A8
structure Ob where
 c:Nat
 fs:List (Str×Dt)
structure M where
 ρ:List (Option Dt)
 S:List Ob
noncomputable def tru:Dt->Option Bool
 |.yw=>_s _f
 |.bl b=>_s b
 |.int i=>_s (i != 0)
 |.str l=>if l.length<=1000000 then _s (!l.isEmpty)else _n
 |.tup ds=>_s (!ds.isEmpty)
 |.lst _ ds=>_s (!ds.isEmpty)
 |.scr ns=>_s (!ns.isEmpty)
 |_=>_n
end Q
namespace L3
open PySem PySem.Spec PyProof.Rows PySem.SeqAt L2
abbrev St:=L2.St
inductive D where
 |fl (v:V)
 |tup (ds:List D)
 |lst (ds:List D)
mutual
noncomputable def zX:D->D->Bool
 |.fl a,.fl b=>zw a b
 |.tup a,.tup b=>zAH a b
 |.lst a,.lst b=>zAH a b
 |_,_=>_f
noncomputable def zAH:List D->List D->Bool
 |[],[]=>_t
 |x::xs,y::ys=>zX x y&&zAH xs ys
 |_,_=>_f
end
mutual
noncomputable def D.dep:D->Nat
 |.fl _=>0
 |.tup ds=>zAC ds+1
 |.lst ds=>zAC ds+1
noncomputable def zAC:List D->Nat
 |[]=>0
 |d::ds=>max d.dep (zAC ds)
end
mutual
noncomputable def Is(K:W.Frag)(H:Hp):V->D->Prop
 |x,.fl v=>x=v/\Jt v=_t
 |x,.tup ds=>∃a xs,x=.ref a/\FR K H a xs/\IsL K H xs ds
 |x,.lst ds=>∃a xs,x=.ref a/\Dk K H a xs/\IsL K H xs ds
noncomputable def IsL(K:W.Frag)(H:Hp):List V->List D->Prop
 |[],[]=>True
 |x::xs,d::ds=>Is K H x d/\IsL K H xs ds
 |_,_=>False
end
theorem IsL.inv{K:W.Frag}{H:Hp}{x:V}{xs:List V}{es:List D}(h:IsL K H (x::xs) es):∃d ds,es=d::ds/\Is K H x d/\IsL K H xs ds:=by
 cases es with|nil=>unfold IsL at h;exact h.elim|cons d ds=>unfold IsL at h;exact⟨d,ds,rfl,h.1,h.2⟩
theorem IsL.length{K:W.Frag}{H:Hp}:∀{xs:List V}{ds:List D},IsL K H xs ds->xs.length=ds.length
 |[],[],_=>rfl
 |[],_::_,h=>by unfold IsL at h;exact h.elim
 |_::_,[],h=>by unfold IsL at h;exact h.elim
 |x::xs,d::ds,h=>by unfold IsL at h;rw[E3,E3,IsL.length h.2]
theorem IsL.get{K:W.Frag}{H:Hp}:∀{xs:List V}{ds:List D}{i:Nat}{d:D},IsL K H xs ds->ds[i]?=_s d->∃x,xs[i]?=_s x/\Is K H x d
 |[],[],_,_,_,e=>by simp at e
 |[],_::_,_,_,h,_=>by unfold IsL at h;exact h.elim
 |_::_,[],_,_,_,e=>by simp at e
 |x::xs,d::ds,0,d',h,e=>by
  unfold IsL at h;have:d=d':=by simpa using e
  subst this;exact⟨x,rfl,h.1⟩
 |x::xs,d::ds,i+1,_,h,e=>by unfold IsL at h;obtain⟨y,b,a⟩:=IsL.get (i:=i) h.2 (by simpa using e);exact⟨y,by simpa using b,a⟩
theorem RM{X:Cx}{pins:List (A8×Obj)}{σ:St}{H:Hp}{s:A5}{a:A8}{xs ys:List V}(I:Inv X pins σ H s)(h:FR X.K H a xs)(k:Dk X.K H a ys):False:=by
 obtain⟨_,_,⟨o,e,c,_⟩,_⟩:=I.tuple h;obtain⟨_,_,⟨o',n,b,d,_⟩,_⟩:=I.list k;rw[e]at b;cases b;rw[c]at d;injection d with q
 exact absurd q (by decide)
mutual
theorem Is.inj{X:Cx}{pins:List (A8×Obj)}{σ:St}{H:Hp}{s:A5}(I:Inv X pins σ H s):∀{d e:D}{x:V},Is X.K H x d->Is X.K H x e->d=e
 |.fl v,e,x,h,k=>by
  unfold Is at h;obtain⟨rfl,hf⟩:=h;cases e with|fl u=>unfold Is at k;rw[k.1]|tup es=>unfold Is at k;obtain⟨a,xs,rfl,_⟩:=k;cases hf|lst es=>unfold Is at k;obtain⟨a,xs,rfl,_⟩:=k;cases hf
 |.tup ds,e,x,h,k=>by
  unfold Is at h;obtain⟨a,xs,rfl,h1,h2⟩:=h;cases e with|fl u=>unfold Is at k;obtain⟨k1,k2⟩:=k;rw[<- k1]at k2;cases k2|tup es=>unfold Is at k;obtain⟨b,ys,e,k1,k2⟩:=k;cases e;rw[I.zAW h1 k1]at h2;rw[IsL.inj I h2 k2]|lst es=>unfold Is at k;obtain⟨b,ys,e,k1,k2⟩:=k;cases e;exact(RM I h1 k1).elim
 |.lst ds,e,x,h,k=>by
  unfold Is at h;obtain⟨a,xs,rfl,h1,h2⟩:=h;cases e with|fl u=>unfold Is at k;obtain⟨k1,k2⟩:=k;rw[<- k1]at k2;cases k2|lst es=>unfold Is at k;obtain⟨b,ys,e,k1,k2⟩:=k;cases e;rw[I.zAk h1 k1]at h2;rw[IsL.inj I h2 k2]|tup es=>unfold Is at k;obtain⟨b,ys,e,k1,k2⟩:=k;cases e;exact(RM I k1 h1).elim
theorem IsL.inj{X:Cx}{pins:List (A8×Obj)}{σ:St}{H:Hp}{s:A5}(I:Inv X pins σ H s):∀{ds es:List D}{xs:List V},IsL X.K H xs ds->IsL X.K H xs es->ds=es
 |[],es,[],h,k=>by
  cases es with|nil=>rfl|cons e es=>unfold IsL at k;exact k.elim
 |[],_,_::_,h,_=>by unfold IsL at h;exact h.elim
 |_::_,_,[],h,_=>by unfold IsL at h;exact h.elim
 |d::ds,es,x::xs,h,k=>by unfold IsL at h;obtain⟨e,a,rfl,k1,k2⟩:=k.inv;rw[Is.inj I h.1 k1,IsL.inj I h.2 k2]
end
theorem Ym{v:V}(h:Jt v=_t):zw v v=true:=by cases v<;>first|rfl|(simp[zw];done)|cases h
mutual
theorem Jx{K:W.Frag}{H:Hp}:∀{d:D}{x:V},Is K H x d->zX d d=_t
 |.fl v,x,h=>by unfold Is at h;unfold zX;exact Ym h.2
 |.tup ds,x,h=>by unfold Is at h;obtain⟨_,_,_,_,h2⟩:=h;unfold zX;exact HZ h2
 |.lst ds,x,h=>by unfold Is at h;obtain⟨_,_,_,_,h2⟩:=h;unfold zX;exact HZ h2
theorem HZ{K:W.Frag}{H:Hp}:∀{ds:List D}{xs:List V},IsL K H xs ds->zAH ds ds=_t
 |[],_,_=>by unfold zAH;rfl
 |_::_,[],h=>by unfold IsL at h;exact h.elim
 |d::ds,x::xs,h=>by unfold IsL at h;unfold zAH;rw[Jx h.1,HZ h.2];rfl
end
theorem CH:∀(xs ys:List D)(e:Nat->Bool),(∀i x y,xs[i]?=_s x->ys[i]?=_s y->e i=zX x y)->((B6 (min xs.length ys.length)).all e&&xs.length==ys.length)=zAH xs ys
 |[],[],_,_=>by unfold zAH;rfl
 |[],_::_,_,_=>by unfold zAH;simp
 |_::_,[],_,_=>by unfold zAH;simp
 |x::xs,y::ys,e,h=>by
  have c:=CH xs ys (λi=>e (i+1)) λi a b h1 h2=>h (i+1) a b (by simpa using h1) (by simpa using h2);have h0:=h 0 x y rfl rfl;unfold zAH;rw[<- c,<- h0,E3,E3,Nat.succ_min_succ,vE,M1,List.all_map];have:((xs.length+1==ys.length+1):Bool)=(xs.length==ys.length):=by simp
  rw[this,Bool.and_assoc];rfl
theorem Ga:∀{ds:List D}{i:Nat}{d:D},ds[i]?=_s d->d.dep<=zAC ds
 |[],_,_,e=>by simp at e
 |d::ds,0,d',e=>by
  have:d=d':=by simpa using e
  subst this;show d.dep<=zAC (d::ds);unfold zAC;exact Nat.le_max_left _ _
 |d::ds,i+1,x,e=>by have:=Ga (ds:=ds) (i:=i) (d:=x) (by simpa using e);unfold zAC;exact D0 this (Nat.le_max_right _ _)
section
variable{X:Cx}{pins:List (A8×Obj)}{σ:St}{H:Hp}{s:A5}
def SY(ds es:List D)(i:Nat):Bool:=match ds[i]?,es[i]? with|some a,_s b=>zX a b|_,_=>_t
theorem Ei{ds es:List D}{i:Nat}{a b:D}(h1:ds[i]?=_s a)(h2:es[i]?=_s b):SY ds es i=zX a b:=by unfold SY;rw[h1,h2]
theorem BB{x:V}(h:Jt x=_t):x=.yw\/(∃b,x=.bl b)\/(∃i,x=.int i)\/∃z,x=.str z:=by
 cases x with|yw=>exact .inl rfl|bl b=>exact .inr (.inl ⟨b,rfl⟩)|int i=>exact .inr (.inr (.inl ⟨i,rfl⟩))|str z=>exact .inr (.inr (.inr ⟨z,rfl⟩))|_=>cases h
theorem Yo(I:Inv X pins σ H s):∀(n:Nat)(A:G3)(d e:D)(x y:V)(u v:_v),d.dep<=n->A.units+n < O5->RelV x u->RelV y v->Is X.K H x d->Is X.K H y e->EqAt A s u v (zX d e):=by
 intro n;induction n with
 |zero=>
  intro A d e x y u v hd C l h B g;cases d with
  |fl a=>
   unfold Is at B;obtain⟨rfl,fx⟩:=B;cases e with
   |fl b=>unfold Is at g;obtain⟨rfl,Q⟩:=g;unfold zX;exact ki l h fx Q
   |tup es=>
    unfold Is at g;obtain⟨b,ys,rfl,h1,h2⟩:=g;cases h;obtain⟨G,r,f,_⟩:=I.tuple h1;unfold zX;rcases BB fx with rfl|⟨c,rfl⟩|⟨c,rfl⟩|⟨c,rfl⟩
    cases l;exact EqAt.none_tuple f C;cases l;exact EqAt.bool_tuple c f C;obtain⟨t,rfl⟩:=l;exact EqAt.int_tuple c t f C;obtain⟨t,rfl⟩:=l;exact EqAt.str_tuple c t f C
   |lst es=>
    unfold Is at g;obtain⟨b,ys,rfl,h1,h2⟩:=g;cases h;obtain⟨G,r,f,_⟩:=I.list h1;unfold zX;rcases BB fx with rfl|⟨c,rfl⟩|⟨c,rfl⟩|⟨c,rfl⟩
    cases l;exact EqAt.none_list f.isList C;cases l;exact EqAt.bool_list c f.isList C;obtain⟨t,rfl⟩:=l;exact EqAt.int_list c t f.isList C;obtain⟨t,rfl⟩:=l;exact EqAt.str_list c t f.isList C
  |tup ds=>unfold D.dep at hd;omega
  |lst ds=>unfold D.dep at hd;omega
 |succ n ih=>
  intro A d e x y u v hd C l h B g;have k:A.units < O5:=by omega
  cases d with
  |fl a=>exact ih A (.fl a) e x y u v (by unfold D.dep;omega) (by omega) l h B g
  |tup ds=>
   unfold D.dep at hd;have J:=B;unfold Is at B;obtain⟨a,xs,rfl,h1,h2⟩:=B;cases l;obtain⟨G,r,f,_⟩:=I.tuple h1;cases e with
   |fl b=>
    unfold Is at g;obtain⟨rfl,Q⟩:=g;unfold zX;rcases BB Q with rfl|⟨c,rfl⟩|⟨c,rfl⟩|⟨c,rfl⟩
    cases h;exact EqAt.tuple_none f k;cases h;exact EqAt.tuple_bool c f k;obtain⟨t,rfl⟩:=h;exact EqAt.tuple_int c t f k;obtain⟨t,rfl⟩:=h;exact EqAt.tuple_str c t f k
   |tup es=>
    have p:=g;unfold Is at g;obtain⟨b,ys,rfl,k1,k2⟩:=g;cases h;obtain⟨F,z,E,_⟩:=I.tuple k1;by_cases w:a=b;subst w;rw[Is.inj I J p,Jx p];exact EqAt.same _;refine EqAt.of_refs w ?_;have q:=RcAt.tuples (e:=SY ds es) f E k (λj j1 j2=>?_);have L:=CH ds es (SY ds es) λi a b P O=>Ei P O;rw[B0,B0,<- r.length,<- z.length,h2.length,k2.length,L]at q;unfold zX;exact q;have o:j < G.length:=by simpa using j1
    have m:j < F.length:=by simpa using j2
    have l1:j < ds.length:=by rw[<- h2.length,r.length];exact o
    have l2:j < es.length:=by rw[<- k2.length,z.length];exact m
    obtain⟨W,ex,px⟩:=h2.get (i:=j) (A3 l1);obtain⟨U,ey,Z⟩:=k2.get (i:=j) (A3 l2);obtain⟨N,R,Y⟩:=r.get ex;obtain⟨M,ev,rv⟩:=z.get ey;rw[Ei (A3 l1) (A3 l2)];have T:G.toArray[j]=N:=by rw[A3 o]at R;simpa using C3 R
    have S:F.toArray[j]=M:=by rw[A3 m]at ev;simpa using C3 ev
    rw[T,S];exact ih A.in1 _ _ W U N M (D0 (Ga (A3 l1)) (by omega)) (by show A.units+1+n < O5;omega) Y rv px Z
   |lst es=>unfold Is at g;obtain⟨b,ys,rfl,k1,k2⟩:=g;cases h;obtain⟨F,z,E,_⟩:=I.list k1;unfold zX;exact EqAt.tuple_list f E.isList k
  |lst ds=>
   unfold D.dep at hd;have J:=B;unfold Is at B;obtain⟨a,xs,rfl,h1,h2⟩:=B;cases l;obtain⟨G,r,f,_⟩:=I.list h1;cases e with
   |fl b=>
    unfold Is at g;obtain⟨rfl,Q⟩:=g;unfold zX;rcases BB Q with rfl|⟨c,rfl⟩|⟨c,rfl⟩|⟨c,rfl⟩
    cases h;exact EqAt.list_none f.isList k;cases h;exact EqAt.list_bool c f.isList k;obtain⟨t,rfl⟩:=h;exact EqAt.list_int c t f.isList k;obtain⟨t,rfl⟩:=h;exact EqAt.list_str c t f.isList k
   |tup es=>unfold Is at g;obtain⟨b,ys,rfl,k1,k2⟩:=g;cases h;obtain⟨F,z,E,_⟩:=I.tuple k1;unfold zX;exact EqAt.list_tuple f.isList E k
   |lst es=>
    have p:=g;unfold Is at g;obtain⟨b,ys,rfl,k1,k2⟩:=g;cases h;obtain⟨F,z,E,_⟩:=I.list k1;by_cases w:a=b;subst w;rw[Is.inj I J p,Jx p];exact EqAt.same _;refine EqAt.of_refs w ?_;by_cases hsz:ds.length=es.length;have L:=CH ds es (SY ds es) λi a b P O=>Ei P O;rw[hsz,vC,beq_self_eq_true,uf]at L;have q:=RcAt.lists (e:=SY ds es) f.isList E.isList (by rw[B0,B0,<- r.length,<- z.length,h2.length,k2.length];exact hsz) k (λj j1 j2=>?_);rw[B0,<- r.length,h2.length,hsz,L]at q;unfold zX;exact q;have o:j < G.length:=by simpa using j1
    have m:j < F.length:=by simpa using j2
    have l1:j < ds.length:=by rw[<- h2.length,r.length];exact o
    have l2:j < es.length:=by rw[<- k2.length,z.length];exact m
    obtain⟨W,ex,px⟩:=h2.get (i:=j) (A3 l1);obtain⟨U,ey,Z⟩:=k2.get (i:=j) (A3 l2);obtain⟨N,R,Y⟩:=r.get ex;obtain⟨M,ev,rv⟩:=z.get ey;rw[Ei (A3 l1) (A3 l2)];have T:G.toArray[j]=N:=by rw[A3 o]at R;simpa using C3 R
    have S:F.toArray[j]=M:=by rw[A3 m]at ev;simpa using C3 ev
    rw[T,S];exact ih A.in1 _ _ W U N M (D0 (Ga (A3 l1)) (by omega)) (by show A.units+1+n < O5;omega) Y rv px Z;have q:=RcAt.lists_lengths (A:=A) f.isList E.isList (by rw[B0,B0,<- r.length,<- z.length,h2.length,k2.length];simpa using hsz) k;have L:=CH ds es (SY ds es) λi a b P O=>Ei P O;have:(ds.length==es.length)=false:=by simpa using hsz
    rw[this,U1]at L;unfold zX;rw[<- L];exact q
end
noncomputable def D.seq:D->Bool
 |.fl _=>_f
 |_=>_t
section
variable{X:Cx}{pins:List (A8×Obj)}{σ:St}{H:Hp}{s:A5}
theorem OU(I:Inv X pins σ H s){n:Nat}{A:G3}{xs ys:List V}{ds es:List D}{b a:List _v}(hd:zAC ds<=n)(w:A.units+1+n < O5)(r:AI xs b)(g:AI ys a)(h2:IsL X.K H xs ds)(k2:IsL X.K H ys es) :
    ∀j (h1:j < b.toArray.size) (h2:j < a.toArray.size),EqAt A.in1 s b.toArray[j] a.toArray[j] (SY ds es j):=λj v u=>by
  have d:j < b.length:=by simpa using v
  have c:j < a.length:=by simpa using u
  have l1:j < ds.length:=by rw[<- h2.length,r.length];exact d
  have l2:j < es.length:=by rw[<- k2.length,g.length];exact c
  obtain⟨o,ex,t⟩:=h2.get (i:=j) (A3 l1);obtain⟨m,x,q⟩:=k2.get (i:=j) (A3 l2);obtain⟨f,h,p⟩:=r.get ex;obtain⟨e,ev,rv⟩:=g.get x;rw[Ei (A3 l1) (A3 l2)];have l:b.toArray[j]=f:=by rw[A3 d]at h;simpa using C3 h
  have k:a.toArray[j]=e:=by rw[A3 c]at ev;simpa using C3 ev
  rw[l,k];exact Yo I n A.in1 _ _ o m f e (D0 (Ga (A3 l1)) hd) (by show A.units+1+n < O5;exact w) p rv t q
theorem MS(I:Inv X pins σ H s){A:G3}{d e:D}{x y:V}{u v:_v}(F:d.seq=_t)(B:e.seq=_t)(E:A.units+d.dep+1 < O5)(C:RelV x u)(o:RelV y v)(p:Is X.K H x d)(j:Is X.K H y e):RcAt A s u v (zX d e)/\RcNeAt A s u v (!zX d e):=by
 have g:A.units < O5:=by omega
 cases d with
 |fl a=>cases F
 |tup ds=>
  unfold D.dep at E;unfold Is at p;obtain⟨a,xs,rfl,h1,h2⟩:=p;cases C;obtain⟨t,r,f,_⟩:=I.tuple h1;cases e with|fl b=>cases B|tup es=>unfold Is at j;obtain⟨b,ys,rfl,k1,k2⟩:=j;cases o;obtain⟨l,h,c,_⟩:=I.tuple k1;have k:=CH ds es (SY ds es) λi a b z w=>Ei z w;have it:=OU I (A:=A) (n:=zAC ds) (C4 _) (by omega) r h h2 k2;have q:=RcAt.tuples (e:=SY ds es) f c g it;have m:=RcNeAt.tuples (e:=SY ds es) f c g it;rw[B0,B0,<- r.length,<- h.length,h2.length,k2.length,k]at q m;unfold zX;exact⟨q,m⟩|lst es=>unfold Is at j;obtain⟨b,ys,rfl,k1,k2⟩:=j;cases o;obtain⟨l,h,c,_⟩:=I.list k1;unfold zX;exact⟨RcAt.tuple_list f c.isList g,RcNeAt.tuple_list f c.isList g⟩
 |lst ds=>
  unfold D.dep at E;unfold Is at p;obtain⟨a,xs,rfl,h1,h2⟩:=p;cases C;obtain⟨t,r,f,_⟩:=I.list h1;cases e with
  |fl b=>cases B
  |tup es=>unfold Is at j;obtain⟨b,ys,rfl,k1,k2⟩:=j;cases o;obtain⟨l,h,c,_⟩:=I.tuple k1;unfold zX;exact⟨RcAt.list_tuple f.isList c g,RcNeAt.list_tuple f.isList c g⟩
  |lst es=>
   unfold Is at j;obtain⟨b,ys,rfl,k1,k2⟩:=j;cases o;obtain⟨l,h,c,_⟩:=I.list k1;have k:=CH ds es (SY ds es) λi a b z w=>Ei z w;unfold zX;by_cases hsz:ds.length=es.length;rw[hsz,vC,beq_self_eq_true,uf]at k;have it:=OU I (A:=A) (n:=zAC ds) (C4 _) (by omega) r h h2 k2;have sz:t.toArray.size=l.toArray.size:=by rw[B0,B0,<- r.length,<- h.length,h2.length,k2.length];exact hsz
   have q:=RcAt.lists (e:=SY ds es) f.isList c.isList sz g it;have m:=RcNeAt.lists (e:=SY ds es) f.isList c.isList sz g it;rw[B0,<- r.length,h2.length,hsz,k]at q m;exact⟨q,m⟩;have sz:(t.toArray.size != l.toArray.size)=true:=by rw[B0,B0,<- r.length,<- h.length,h2.length,k2.length];simpa using hsz
   have:(ds.length==es.length)=false:=by simpa using hsz
   rw[this,U1]at k;rw[<- k];exact⟨RcAt.lists_lengths f.isList c.isList sz g,RcNeAt.lists_lengths f.isList c.isList sz g⟩
end
section
variable{X:Cx}{pins:List (A8×Obj)}{σ:L2.St}{H:Hp}{s:A5}
theorem bB{A:G3}{x y:V}{u v:_v}(e:RelV x u)(b:RelV y v)(fx:Jt x=_t)(f:Jt y=_t):RcAt A s u v (zw x y)/\RcNeAt A s u v (!zw x y):=by
 rcases BB fx with rfl|⟨c,rfl⟩|⟨c,rfl⟩|⟨c,rfl⟩<;>rcases BB f with rfl|⟨d,rfl⟩|⟨d,rfl⟩|⟨d,rfl⟩
 cases e;cases b;exact⟨RcAt.none_none , RcNeAt.none_none ⟩;cases e;cases b;exact⟨RcAt.none_bool d,RcNeAt.none_bool d⟩;cases e;obtain⟨a,rfl⟩:=b;exact⟨RcAt.none_int d a,RcNeAt.none_int d a⟩;cases e;obtain⟨a,rfl⟩:=b;exact⟨RcAt.none_str d a,RcNeAt.none_str d a⟩;cases e;cases b;exact⟨RcAt.bool_none c,RcNeAt.bool_none c⟩;cases e;cases b;exact⟨RcAt.bool_bool c d,RcNeAt.bool_bool c d⟩;cases e;obtain⟨a,rfl⟩:=b;exact⟨RcAt.bool_int c d a,RcNeAt.bool_int c d a⟩;cases e;obtain⟨a,rfl⟩:=b;exact⟨RcAt.bool_str c d a,RcNeAt.bool_str c d a⟩;obtain⟨ct,rfl⟩:=e;cases b;exact⟨RcAt.int_none c ct,RcNeAt.int_none c ct⟩;obtain⟨ct,rfl⟩:=e;cases b;exact⟨RcAt.int_bool c ct d,RcNeAt.int_bool c ct d⟩;obtain⟨ct,rfl⟩:=e;obtain⟨a,rfl⟩:=b;exact⟨RcAt.int_int c ct d a,RcNeAt.int_int c ct d a⟩;obtain⟨ct,rfl⟩:=e;obtain⟨a,rfl⟩:=b;exact⟨RcAt.int_str c ct d a,RcNeAt.int_str c ct d a⟩;obtain⟨ct,rfl⟩:=e;cases b;exact⟨RcAt.str_none c ct,RcNeAt.str_none c ct⟩;obtain⟨ct,rfl⟩:=e;cases b;exact⟨RcAt.str_bool c ct d,RcNeAt.str_bool c ct d⟩;obtain⟨ct,rfl⟩:=e;obtain⟨a,rfl⟩:=b;exact⟨RcAt.str_int c ct d a,RcNeAt.str_int c ct d a⟩;obtain⟨ct,rfl⟩:=e;obtain⟨a,rfl⟩:=b;exact⟨RcAt.str_str c ct d a,RcNeAt.str_str c ct d a⟩
theorem Nr(I:Inv X pins σ H s){A:G3}{d e:D}{x y:V}{u v:_v}(m:A.units+d.dep+1 < O5)(i:RelV x u)(h:RelV y v)(k:Is X.K H x d)(j:Is X.K H y e):RcAt A s u v (zX d e)/\RcNeAt A s u v (!zX d e):=by
 have g:A.units < O5:=by omega
 cases d with
 |fl a=>
  unfold Is at k;obtain⟨rfl,fx⟩:=k;cases e with
  |fl b=>unfold Is at j;obtain⟨rfl,l⟩:=j;unfold zX;exact bB i h fx l
  |tup es=>
   unfold Is at j;obtain⟨b,ys,rfl,k1,k2⟩:=j;cases h;obtain⟨n,o,f,_⟩:=I.tuple k1;unfold zX;rcases BB fx with rfl|⟨c,rfl⟩|⟨c,rfl⟩|⟨c,rfl⟩
   cases i;exact⟨RcAt.none_tuple f g,RcNeAt.none_tuple f g⟩;cases i;exact⟨RcAt.bool_tuple c f g,RcNeAt.bool_tuple c f g⟩;obtain⟨t,rfl⟩:=i;exact⟨RcAt.int_tuple c t f g,RcNeAt.int_tuple c t f g⟩;obtain⟨t,rfl⟩:=i;exact⟨RcAt.str_tuple c t f g,RcNeAt.str_tuple c t f g⟩
  |lst es=>
   unfold Is at j;obtain⟨b,ys,rfl,k1,k2⟩:=j;cases h;obtain⟨n,o,f,_⟩:=I.list k1;unfold zX;rcases BB fx with rfl|⟨c,rfl⟩|⟨c,rfl⟩|⟨c,rfl⟩
   cases i;exact⟨RcAt.none_list f.isList g,RcNeAt.none_list f.isList g⟩;cases i;exact⟨RcAt.bool_list c f.isList g,RcNeAt.bool_list c f.isList g⟩;obtain⟨t,rfl⟩:=i;exact⟨RcAt.int_list c t f.isList g,RcNeAt.int_list c t f.isList g⟩;obtain⟨t,rfl⟩:=i;exact⟨RcAt.str_list c t f.isList g,RcNeAt.str_list c t f.isList g⟩
 |tup ds=>
  cases e with
  |fl b=>
   unfold Is at k j;obtain⟨p,ys,rfl,k1,k2⟩:=k;obtain⟨rfl,l⟩:=j;cases i;obtain⟨n,o,f,_⟩:=I.tuple k1;unfold zX;rcases BB l with rfl|⟨c,rfl⟩|⟨c,rfl⟩|⟨c,rfl⟩
   cases h;exact⟨RcAt.tuple_none f g,RcNeAt.tuple_none f g⟩;cases h;exact⟨RcAt.tuple_bool c f g,RcNeAt.tuple_bool c f g⟩;obtain⟨t,rfl⟩:=h;exact⟨RcAt.tuple_int c t f g,RcNeAt.tuple_int c t f g⟩;obtain⟨t,rfl⟩:=h;exact⟨RcAt.tuple_str c t f g,RcNeAt.tuple_str c t f g⟩
  |tup es=>exact MS I rfl rfl m i h k j
  |lst es=>exact MS I rfl rfl m i h k j
 |lst ds=>
  cases e with
  |fl b=>
   unfold Is at k j;obtain⟨p,ys,rfl,k1,k2⟩:=k;obtain⟨rfl,l⟩:=j;cases i;obtain⟨n,o,f,_⟩:=I.list k1;unfold zX;rcases BB l with rfl|⟨c,rfl⟩|⟨c,rfl⟩|⟨c,rfl⟩
   cases h;exact⟨RcAt.list_none f.isList g,RcNeAt.list_none f.isList g⟩;cases h;exact⟨RcAt.list_bool c f.isList g,RcNeAt.list_bool c f.isList g⟩;obtain⟨t,rfl⟩:=h;exact⟨RcAt.list_int c t f.isList g,RcNeAt.list_int c t f.isList g⟩;obtain⟨t,rfl⟩:=h;exact⟨RcAt.list_str c t f.isList g,RcNeAt.list_str c t f.isList g⟩
  |tup es=>exact MS I rfl rfl m i h k j
  |lst es=>exact MS I rfl rfl m i h k j
def zCs(K:W.Frag)(neg:Bool):R2:=λx y H Q=>∃d e,d.dep<=150/\Is K H x d/\Is K H y e/\Q (.bl (if neg then !zX d e else zX d e)) H
theorem zCw{j:Nat}(g:y9 j X.A):Ce X (J0 .Eq) (zCs X.K _f):=by intro pins s σ H x y v u Q I b a h;obtain⟨d,e,hd,f,c,q⟩:=h;have:=g.un;exact(Nr I (by omega) b a f c).1 X.prog X.w _ _ ⟨.bl _,H,I,rfl,q⟩
theorem zCt{j:Nat}(g:y9 j X.A):Ce X (J0 .NotEq) (zCs X.K _t):=by intro pins s σ H x y v u Q I b a h;obtain⟨d,e,hd,f,c,q⟩:=h;have:=g.un;exact(Nr I (by omega) b a f c).2 X.prog X.w _ _ ⟨.bl _,H,I,rfl,q⟩
open Classical in
def eqW(a:List _v)(ds:List D)(e:D)(u:_v):Bool:=decide (∃(i:Nat)(d:D),a[i]?=_s u/\ds[i]?=_s d/\zX d e=_t)
open Classical in
theorem zAu(I:Inv X pins σ H s){xs:List V}{a:List _v}{ds:List D}(r:AI xs a)(h:IsL X.K H xs ds){e:D}{i:Nat}{u:_v}{d:D}(f:a[i]?=_s u)(hd:ds[i]?=_s d):eqW a ds e u=zX d e:=by
 have b:∀(j:Nat)(d':D),a[j]?=_s u->ds[j]?=_s d'->d'=d:=λj d' h1 h2=>by obtain⟨x,ex,n⟩:=h.get hd;obtain⟨y,o,c⟩:=h.get h2;obtain⟨t,k,m⟩:=r.get ex;obtain⟨p,g,l⟩:=r.get o;rw[f]at k;cases k;rw[h1]at g;cases g;rw[l.inj m]at c;exact Is.inj I c n
 unfold eqW;cases q:zX d e with|true=>exact decide_eq_true ⟨i,d,f,hd,q⟩|false=>refine decide_eq_false ?_;rintro⟨j,d',h1,h2,h3⟩;rw[b j d' h1 h2,q]at h3;cases h3
theorem IZ(I:Inv X pins σ H s){xs:List V}{a:List _v}{ds:List D}(r:AI xs a)(h:IsL X.K H xs ds)(e:D):a.any (eqW a ds e)=ds.any λd=>zX d e:=by
 rw[Bool.eq_iff_iff,xC,xC];have c:a.length=ds.length:=by rw[<- r.length,h.length]
 constructor;rintro⟨u,b,q⟩;obtain⟨i,hi,rfl⟩:=W6 b;have hd:ds[i]?=_s ds[i]:=A3 (by omega);rw[zAu I r h (A3 hi) hd]at q;exact⟨_,K5 hd,q⟩;rintro⟨d,hd,q⟩;obtain⟨i,hi,rfl⟩:=W6 hd;have b:a[i]?=_s a[i]:=A3 (by omega);exact⟨_,K5 b,by rw[zAu I r h b (A3 hi)];exact q⟩
theorem zAG(I:Inv X pins σ H s){A:G3}{xs:List V}{b:List _v}{ds:List D}(r:AI xs b)(h:IsL X.K H xs ds){e:D}{y:V}{v:_v}(d:RelV y v)(j:Is X.K H y e)(hd:zAC ds<=150)(l:A.units+150 < O5):∀w∈b,EqAt A s w v (eqW b ds e w):=λw k=>by
 obtain⟨i,hi,rfl⟩:=W6 k;have n:b.length=ds.length:=by rw[<- r.length,h.length]
 have a:ds[i]?=_s ds[i]:=A3 (by omega);rw[zAu I r h (A3 hi) a];obtain⟨x,ex,g⟩:=h.get a;obtain⟨m,c,f⟩:=r.get ex;rw[A3 hi]at c;cases c;exact Yo I 150 A _ _ x y _ _ (D0 (Ga a) hd) l f d g j
def zCT(K:W.Frag)(neg:Bool):R2:=λx y H Q=>∃p ys ds e,y=.ref p/\(Dk K H p ys\/FR K H p ys)/\IsL K H ys ds/\Is K H x e/\zAC ds<=150/\Q (.bl (if neg then !(ds.any λd=>zX d e)else ds.any λd=>zX d e)) H
theorem zCv{j:Nat}(m:y9 j X.A):Ce X (J0 .In) (zCT X.K _f):=by
 intro pins s σ H x y v u Q I f k h;obtain⟨p,ys,ds,e,rfl,b,c,g,hd,q⟩:=h;have i:X.A.units+1+150 < O5:=by have:=m.un;omega
 cases k;rcases b with b|b
 obtain⟨a,r,pl,l⟩:=I.list b;refine SeqAt.in_listAt (eqW a ds e) pl.isList (λw d=>zAG I r c f g hd i w (by simpa using d)) ⟨.bl _,H,I,rfl,?_⟩;rw[show a.toArray.any (eqW a ds e)=a.any (eqW a ds e) by simp,IZ I r c];exact q;obtain⟨a,r,pl,l⟩:=I.tuple b;refine SeqAt.in_tupleAt (eqW a ds e) pl (λw d=>zAG I r c f g hd i w (by simpa using d)) ⟨.bl _,H,I,rfl,?_⟩;rw[show a.toArray.any (eqW a ds e)=a.any (eqW a ds e) by simp,IZ I r c];exact q
theorem zBw{j:Nat}(m:y9 j X.A):Ce X (J0 .NotIn) (zCT X.K _t):=by
 intro pins s σ H x y v u Q I f k h;obtain⟨p,ys,ds,e,rfl,b,c,g,hd,q⟩:=h;have i:X.A.units+1+150 < O5:=by have:=m.un;omega
 cases k;rcases b with b|b
 obtain⟨a,r,pl,l⟩:=I.list b;refine SeqAt.notIn_listAt (eqW a ds e) pl.isList (λw d=>zAG I r c f g hd i w (by simpa using d)) ⟨.bl _,H,I,rfl,?_⟩;rw[show a.toArray.any (eqW a ds e)=a.any (eqW a ds e) by simp,IZ I r c];exact q;obtain⟨a,r,pl,l⟩:=I.tuple b;refine SeqAt.notIn_tupleAt (eqW a ds e) pl (λw d=>zAG I r c f g hd i w (by simpa using d)) ⟨.bl _,H,I,rfl,?_⟩;rw[show a.toArray.any (eqW a ds e)=a.any (eqW a ds e) by simp,IZ I r c];exact q
end
end L3
namespace Q
open PySem L2
mutual
noncomputable def toD:Dt->L3.D
 |.yw=>.fl .yw
 |.bl b=>.fl (.bl b)
 |.int i=>.fl (.int i)
 |.str l=>.fl (.str (tx l))
 |.tup xs=>.tup (zP xs)
 |.lst _ xs=>.lst (zP xs)
 |_=>.fl .yw
noncomputable def zP:List Dt->List L3.D
 |[]=>[]
 |d::ds=>toD d::zP ds
end
mutual
noncomputable def Dt.cmp:Dt->Bool
 |.yw=>_t
 |.bl _=>_t
 |.int _=>_t
 |.str _=>_t
 |.tup xs=>zBX xs
 |.lst _ xs=>zBX xs
 |_=>_f
noncomputable def zBX:List Dt->Bool
 |[]=>_t
 |d::ds=>d.cmp&&zBX ds
end
mutual
noncomputable def eqT:Dt->Dt->Bool
 |.yw,.yw=>_t
 |.bl a,.bl b=>a==b
 |.bl a,.int b=>(if a then 1 else 0)==b
 |.int a,.bl b=>a==(if b then 1 else 0)
 |.int a,.int b=>a==b
 |.str a,.str b=>a==b
 |.tup xs,.tup ys=>kh xs ys
 |.lst _ xs,.lst _ ys=>kh xs ys
 |_,_=>_f
noncomputable def kh:List Dt->List Dt->Bool
 |[],[]=>_t
 |x::xs,y::ys=>eqT x y&&kh xs ys
 |_,_=>_f
end
section
variable{K:W.Frag}{g:G}{H:Hp}
def zDR(x l:List Nat):Bool:=!(Q4 (tx l) (tx x) 0 (tx l).length 1).isEmpty
def iW(neg:Bool):R2:=λx y H Q=>∃i j,x=.str i/\y=.str j/\Q (.bl (if neg then !(!(Q4 j i 0 j.length 1).isEmpty)else !(Q4 j i 0 j.length 1).isEmpty)) H
def zCr(K:W.Frag)(neg:Bool):R2:=λx y H Q=>iW neg x y H Q\/L3.zCT K neg x y H Q
noncomputable def mxI:List Int->Int
 |[]=>0
 |[a]=>a
 |a::r=>max a (mxI r)
theorem zAB:∀(ns:List Int),ns≠[]->mxI ns∈ns/\∀a∈ns,a<=mxI ns
 |[],h=>absurd rfl h
 |[a],_=>by simp[mxI]
 |a::b::r,_=>by
  obtain⟨h1,h2⟩:=zAB (b::r) (by simp);show max a (mxI (b::r))∈_/\∀c∈a::b::r,c<=max a (mxI (b::r));constructor;rcases Int.le_total a (mxI (b::r))with h|h
  rw[Int.max_eq_right h];exact B1 _ h1;rw[Int.max_eq_left h];exact B2;intro c hc;rcases C9.mp hc with rfl|hc
  exact Int.le_max_left _ _;exact Int.le_trans (h2 c hc) (Int.le_max_right _ _)
end
section
variable{K:W.Frag}
def zBm(K:W.Frag):V->List V->Hp->VK->Prop:=λx vs H Q=>∃p xs y ds e j,x=.ref p/\vs=[y]/\Dk K H p xs/\L3.IsL K H xs ds/\L3.Is K H y e/\L3.zAC ds<=150/\(∃d,ds[j]?=_s d/\L3.zX d e=_t)/\(∀(m:Nat)(d:L3.D),m < j->ds[m]?=_s d->L3.zX d e=_f)/\Q (.int (j:Nat)) H
theorem zBx{X:Cx}{j:Nat}(N:y9 j X.A):VP X "list.index" (zBm X.K):=by
 intro pins s σ H x vs v us Q I D rv h;obtain⟨p,xs,y,ds,e,j,rfl,rfl,hp,b,G,k,⟨dj,B,i⟩,f,q⟩:=h;cases D;obtain⟨u,rfl,E⟩:=rv.one;obtain⟨a,r,pl,O⟩:=I.list hp;obtain⟨⟨cls,dd,data,sl⟩,o,hc,n,hd⟩:=pl.isList;simp only at hc hd;subst hc hd;have M:X.A.units+1+150 < O5:=by have:=N.un;omega
 have t:a.length=ds.length:=by rw[<- r.length,b.length]
 have z:j < ds.length:=(A7.mp B).1;have P:sizeLine=16777216:=R5;have J:=r.length;have at_:∀m (hm:m < a.toArray.size),∃d,ds[m]?=_s d/\L3.eqW a ds e a.toArray[m]=L3.zX d e:=λm hm=>by
  have g:m < a.length:=by simpa using hm
  have hd:ds[m]?=_s ds[m]:=A3 (by omega);exact⟨ds[m],hd,by simpa using L3.zAu I r b (A3 g) hd⟩
 refine T4 F.slot_list_index ⟨_,o,rfl⟩ F.entry_list_index (F.args_list_index_2 _ _)
  (SeqAt.list_indexAt p a.toArray n dd sl u (L3.eqW a ds e) j (by simpa[t]using z) (by omega) ?_ ?_) ⟨o,λw L=>L3.zAG I r b E G k M w (by simpa using L),⟨.int (j:Nat),H,I.tok _,⟨_,rfl⟩,q⟩⟩
 obtain⟨w,c,l⟩:=at_ j (by simpa[t]using z);rw[B]at c;cases c;rw[l];exact i;intro m hm C;obtain⟨w,c,l⟩:=at_ m hm;rw[l];exact f m w C c
def zBH(K:W.Frag):V->List V->Hp->VK->Prop:=λx vs H Q=>∃p xs y ds e j,x=.ref p/\vs=[y]/\H p=_s (.tup xs)/\L3.IsL K H xs ds/\L3.Is K H y e/\L3.zAC ds<=150/\(∃d,ds[j]?=_s d/\L3.zX d e=_t)/\(∀(m:Nat)(d:L3.D),m < j->ds[m]?=_s d->L3.zX d e=_f)/\Q (.int (j:Nat)) H
theorem zBe{X:Cx}{j:Nat}(M:y9 j X.A):VP X "tuple.index" (zBH X.K):=by
 intro pins s σ H x vs v us Q I D rv h;obtain⟨p,xs,y,ds,e,j,rfl,rfl,hp,b,G,k,⟨dj,B,i⟩,f,q⟩:=h;cases D;obtain⟨u,rfl,E⟩:=rv.one;obtain⟨O,a,r,⟨cls,dd,data,sl⟩,o,hc,N,n,hd⟩:=I.y8 p _ hp;simp only at hc hd;subst hc hd;have L:X.A.units+1+150 < O5:=by have:=M.un;omega
 have t:a.length=ds.length:=by rw[<- r.length,b.length]
 have z:j < ds.length:=(A7.mp B).1;have at_:∀m (hm:m < a.toArray.size),∃d,ds[m]?=_s d/\L3.eqW a ds e a.toArray[m]=L3.zX d e:=λm hm=>by
  have g:m < a.length:=by simpa using hm
  have hd:ds[m]?=_s ds[m]:=A3 (by omega);exact⟨ds[m],hd,by simpa using L3.zAu I r b (A3 g) hd⟩
 refine T4 F.slot_tuple_index ⟨_,o,rfl⟩ F.entry_tuple_index (F.args_tuple_index_2 _ _)
  (KL p a.toArray n dd sl u (L3.eqW a ds e) j (by simpa[t]using z) ?_ ?_) ⟨o,λw J=>L3.zAG I r b E G k L w (by simpa using J),⟨.int (j:Nat),H,I.tok _,⟨_,rfl⟩,q⟩⟩
 obtain⟨w,c,l⟩:=at_ j (by simpa[t]using z);rw[B]at c;cases c;rw[l];exact i;intro m hm C;obtain⟨w,c,l⟩:=at_ m hm;rw[l];exact f m w C c
end
section
variable{K:W.Frag}
noncomputable def zCi(k T:String):Bool:=k==T||(k == "bool"&&T == "int")
theorem zDC(K:W.Frag){k T:String}(a:k∈["NoneType", "bool", "int", "str", "tuple", "list"])(hT:T∈["int", "bool", "str", "tuple", "list"]):W.kitOne K (.type k) (.type T)=_s (zCi k T):=by simp only[C9,O3,or_false]at a hT;rcases a with rfl|rfl|rfl|rfl|rfl|rfl<;>rcases hT with rfl|rfl|rfl|rfl|rfl<;>kernel_rfl
end
theorem jg{X:Cx}:Ce X (J0 .In) (iW _f):=Tp
theorem To{X:Cx}:Ce X (J0 .NotIn) (iW _t):=Ma
theorem zCu{X:Cx}{j:Nat}(a:y9 j X.A):Ce X (J0 .In) (zCr X.K _f):=jg.or (L3.zCv a)
theorem zBv{X:Cx}{j:Nat}(a:y9 j X.A):Ce X (J0 .NotIn) (zCr X.K _t):=To.or (L3.zBw a)
end Q
namespace L2
open PySem PySem.Spec PyProof.Rows
noncomputable def cT(ifs:List Expr)(env:Env):Sem Bool:=forIn ifs _t λc r=>if r=_t then do let ok <- yQ c env (L8 c env);pure (ForInStep.yield ok)else pure (ForInStep.yield r)
def gM(X:Cx)(ifs:List Expr)(t:TT):Prop:=
 ∀(pins:List (A8×Obj))(s:A5)(σ:St)(H:Hp)(Q:Bool->Hp->Prop),Inv X pins σ H s->t σ H Q->B4 (C7 X.prog X.w) X.A (cT ifs X.env) (TP X pins σ Q) X.xe s
theorem gM.one{X:Cx}{c:Expr}{t:TT}(h:PT X c t):gM X [c] t:=λpins s σ H Q I q=>wpAny_tests_one (h pins s σ H Q I q)
theorem NA{prog:E8}{w:G7}{A:G3}{R:xt->A5->Prop}{s:A5}{elt a iter:Expr}{ifs:List Expr}{scope:M4}{pos:Pos}{it c:_v}{env:Env}(I:Nat->A5->Prop)
    (j:∀n s,I n s->B4 (C7 prog w) A (o4 it) (λr q=>match r with
      |none=>R (.ok .next) q
      |some v=>B4 (C7 prog w) A (i9 a it v) (λ_ t=>B4 (C7 prog w) A (W5 a env v) (λ_ i=>B4 (C7 prog w) A (cT ifs env) (λok b=>if ok=_t then B4 (C7 prog w) A (L8 elt env) (λx f=>B4 (C7 prog w) A (call (.builtin "list.append") [c,x]) (λ_ g=>∃m,m < n/\I m g) (λ_ _=>False) f) (λ_ _=>False) b else ∃m,m < n/\I m b) (λ_ _=>False) i) (λ_ _=>False) t) (λ_ _=>False) q) (λ_ _=>False) s)
    (n:Nat) (h:I n s) :
    Z3 (C7 prog w) A (.compLoop (.ListComp elt [⟨a,iter,ifs,0⟩] scope pos) 0 it c env) R s:=by
  refine codeAny_loop rfl I (λn s hI=>?_) n h;show B4 _ _ ((compTurn (.ListComp elt [⟨a,iter,ifs,0⟩] scope pos) 0 it c env).onRaise (λx=>do V0 x env;theTreesLotGoes x)) _ _ s;refine wpAny_noted ?_;rw[compTurn_list];have no:∀{E:_v->A5->Prop},∀(e:_v)(s:A5),False->E e s:=λ_ _ z=>z.elim;refine A1 (T1 (A1 (J4 (j n s hI) (λr q h₁=>?_) no)));cases r with
  |none=>exact A6 h₁
  |some v=>
    refine A1 (J4 h₁ (λ_ t p=>?_) no);refine A1 (J4 p (λ_ i o=>A1 (J4 o (λok b d=>?_) no)) no);cases ok with|false=>exact A6 ⟨rfl,d⟩|true=>exact A1 (A1 (J4 d (λx f k=>A1 (J4 k (λ_ g l=>A6 (A6 ⟨rfl,l⟩)) no)) no))
section
variable{X:Cx}{tg iter elt:Expr}{ifs:List Expr}{scope:M4}{pos:Pos}{g:TG}{te:TE}{tc:TT}{js:List Nat}{wi:TI}
def Qz(js:List Nat)(g:TG)(tc:TT)(te:TE)(J:It)(σ:St)(Fin:List V->Hp->Prop)(W:Nat->Nat->List V->Hp->Prop):Prop:=∀i m ys H,W i m ys H ->
 (J.stop i H/\Fin ys H)\/(J.go i H/\ys.length < sizeLine/\∃N:List V->Hp->Prop,(∀a H',N a H'->∃m',m' < m/\W (i+1) m' a H')/\∀x H',J.yld i H x H'->g x (blank js σ) H' λc f=>tc c f λb d=>if b=_t then te c d λv e=>N (ys++[v]) e else N ys d)
theorem Ht{pins:List (A8×Obj)}{s2:A5}{σ:St}{j:Hp}{it:A8}{fp:List A8}{tn:Nat->G2->Prop}{J:It}{cl:List (Str×A8)}{W:Nat->Nat->List V->Hp->Prop}{Fin:List V->Hp->Prop}{E:_v->A5->Prop}{RR:_v->A8->xt->A5->Prop}
    (Bi:zAV X.N X.env.scope scope js) (hc:X.calm=_t) (hg:∀cl C s H fp,PG (X.inner scope cl C s H fp) tg g) (hgo:VL js g) (hcn:∀cl C s H fp,gM (X.inner scope cl C s H fp) ifs tc) (he:∀cl C s H fp,PE (X.inner scope cl C s H fp) elt te)
    (I2:Inv X pins σ j s2) (T:Turn X.prog X.w X.K tg J fp it tn) (t0:tn 0 s2.heap) (hf:∀b∈fp,zA X pins j b)
    (hcl:∀x c,cl.lookup x=_s c->X.env.cells.lookup x=_s c) (hfr:∀x,scope.names.lookup x=_s .free->∃c,cl.lookup x=_s c)
    {m0:Nat} (w0:W 0 m0 [] j) (turn:Qz js g tc te J σ Fin W)
    (hRR:∀D C s' H' ys m,Inv X pins σ (upd H' D (.lst ys)) s'->H' D=_n->Fin ys H'->s'.heap.Ns C m->C≠X.env.locals->X.zQ.heap.objs.size<=C->(∀x c,X.env.cells.lookup x=_s c->c≠C)->(∀p∈X.pn++pins,p.1≠C)->H' C=_n->D≠C->RR (.ref D) C (.ok .next) s') :
    B4 (C7 X.prog X.w) X.A (newList []) (λacc P=>B4 (C7 X.prog X.w) X.A (vU scope X.env.globals cl [] X.env.qual _n .none (_s X.env)) (λzDw zCC =>
      Z3 (C7 X.prog X.w) X.A (.compStart (.ListComp elt [⟨tg,iter,ifs,0⟩] scope pos) 0 (.ref it) acc {zDw with scope:=relabel scope X.env}) (RR acc zDw.locals) zCC) E P) E s2:=by
  have R:∀b∈fp,b < s2.heap.objs.size:=λb d=>let ⟨_,e,_⟩:=T.obj _ _ t0 b d;B8 e
  refine L6 (Cg ?_);dsimp only
  generalize hHH:s2.heap.push {cls:=.type "list", dict:=_n,data:=.seq ([]:List _v).toArray}=Y;have hC:Y.objs.size=s2.heap.objs.size+1:=by rw[<- hHH,J6]
  have hDC:s2.heap.objs.size≠Y.objs.size:=by rw[hC];exact D6 (T9 _)
  have zDK:s2.heap.objs.size<=Y.objs.size:=by rw[hC];exact Y2 _
  have below:∀b,b < s2.heap.objs.size->b≠Y.objs.size/\b≠s2.heap.objs.size:=λb d=>⟨by rw[hC];exact D6 (t4 d),D6 d⟩;obtain⟨h₁,O⟩:∃h₁,yO (Y.push {cls:=.type "dict", data:=.dict #[]}) scope.names=h₁:=⟨_,rfl⟩;have old:∀b o,s2.heap.get? b=_s o->h₁.get? b=_s o:=λb o e=>O▸vK _ _ b o (A4 _ (hHH▸A4 _ e));have zDr:h₁.get? s2.heap.objs.size=_s {cls:=.type "list", data:=.seq ([]:List _v).toArray 0}:=O▸vK _ _ _ _ (A4 _ (hHH▸D3 _ rfl));have zDG:h₁.Ns Y.objs.size (λ_=>_n):=O▸(Heap.Ns.new Y (.type "dict")).keeps (vK _ _);obtain⟨L,zCL⟩:=dM (s:=s2) (C:=Y.objs.size) Bi hcl hfr (h:=Y.push {cls:=.type "dict", data:=.dict #[]}) zDK (J6 ..);rw[O]at zCL ⊢;generalize hcc:N5 (Y.objs.size+1) scope.names cl=f at L zCL ⊢;clear O hcc;generalize hDD:s2.heap.objs.size=D at *;generalize hCC:Y.objs.size=C at *;have I:s2.heap.objs.size<=D:=u5 hDD;have M:s2.heap.objs.size<=C:=by rw[hDD];exact zDK
  have zBd:∀(t:List _v)(n:Nat) v,({cls:=.type "list", data:=.seq t.toArray n}:Obj).data≠.cell v:=λ_ _ _ z=>by cases z
  have I4:Inv (X.inner scope f C s2 j fp) (pins++[(D,{cls:=.type "list", data:=.seq ([]:List _v).toArray 0})]) (blank js σ) j {s2 with heap:=h₁,toks:=s2.toks}:=
    I2.enter Bi hf (by rw[hDD];exact R) M I hDC L zCL old zDG zDr (zBd _ _)
  have zBZ:∀{H':Hp}{o:Obj},(∀b∈fp,H' b=_n)->∀b∈fp,zA (X.inner scope f C s2 j fp) (pins++[(D,o)]) H' b:=fun{H' o} hn b d=>by
    obtain⟨_,f1,f2,f3,f4,f5⟩:=hf b d;refine⟨hn b d,(below b (R b d)).1,λz=>?_,.inl d,λx c e=>L.ne e (by rw[hDD];exact R b d) f4,λp hp=>?_⟩;rcases C9.mp (I2.zAA b z)with e|e
    exact f1 e;exact f2 e;have hp':p∈X.pn++(pins++[(D,o)]):=hp;rw[<- J3]at hp';rcases E6.mp hp' with z|z
    exact f5 p z;have e:p=(D,o):=by simpa using z
    subst e;exact λz=>(below b (R b d)).2 z.symm
  have loop:∀P:A5,P={s2 with heap:=h₁,toks:=s2.toks} ->
      Z3 (C7 X.prog X.w) X.A (.compLoop (.ListComp elt [⟨tg,iter,ifs,0⟩] scope pos) 0 (.ref it) (.ref D) (compEnvC scope f C X.env)) (RR (.ref D) C) P:=by
    rintro P rfl;refine NA (λn s'=>∃i ys t k H',Inv (X.inner scope f C s2 j fp) (pins++[(D,{cls:=.type "list", data:=.seq t.toArray k})]) (blank js σ) H' s'/\tn i s'.heap/\(∀b∈fp,H' b=_n)/\AI ys t/\ys.length<=sizeLine/\W i n ys H') ?_ m0
      ⟨0,[],[],0,j,I4,T.keep _ _ _ t0 λb d o e=>old b o e,λb d=>(hf b d).1,.nil,G8 _,w0⟩
    rintro n s3 ⟨i,ys,t,k,H3,I3,st3,fr3,hv3,hz3,w3⟩;rcases turn i n ys H3 w3 with⟨stop,fin⟩|⟨go,zg,N,hN,step⟩
    refine Ai (T.done (X.inner scope f C s2 j fp) rfl rfl rfl hc i _ s3 _ H3 _ I3 (zBZ fr3) st3 stop) λr s4 ⟨hr,I4⟩=>?_;subst hr;have l:=I4.pin (D,{cls:=.type "list", data:=.seq t.toArray k}) (B5 _ (B5 _ B2));obtain⟨m,hn,_⟩:=id I4.loc;refine hRR D C s4 H3 ys m (I2.leave (fp:=fp) hf rfl I4 I l.2.1 hz3 hv3 l.1) l.2.1 fin hn ?_ ?_ (λx c e=>?_) (λp hp=>?_) I4.free hDC;exact Z2 (B7 I2.lt M);exact D0 I2.sz M;exact D6 (B7 (I2.zBG e) M);exact D6 (B7 (I2.zCh hp) M);refine Ai (T.item (X.inner scope f C s2 j fp) rfl rfl rfl hc i _ s3 _ H3 _ I3 (zBZ fr3) st3 go) λr s4 ⟨u,hr,h4⟩=>?_;subst hr;refine Ai h4 λ_ s5 ⟨x,H5,I5,r5,y5,Q,fr5⟩=>?_;have I5':=I5.pinned (zBZ fr5) (T.obj _ _ Q);refine Ai (hg f C s2 j fp _ s5 _ H5 x u _ I5' r5 (hgo _ _ _ _ (step x H5 y5))) λ_ s6 ⟨σ6,H6,I6,⟨hl6,hs6⟩,q6⟩=>?_;refine Ai (hcn f C s2 j fp _ s6 σ6 H6 _ I6 q6) λok s6b ⟨Z,U,q6b⟩=>?_;have G:∀(B:A5)(v:_v)(b:A8)(u:Obj),b≠D->B.heap.get? b=_s u->(B.heap.update D (O2 λa=>a.push v)).get? b=_s u:=λB v b u d hu=>(F8 B.heap (O2 λa=>a.push v) (Ne.symm d)).trans hu;cases ok with
    |false=>
      obtain⟨m',hm,w7⟩:=hN _ _ q6b;have l:=U.pin (D,{cls:=.type "list", data:=.seq t.toArray k}) (B5 _ (C0 _ (B5 _ B2)));have S:∀b∈fp,∀o,s5.heap.get? b=_s o->s6b.heap.get? b=_s o/\Z b=none:=λb d o e =>
        let z:=U.pin (b,o) (B5 _ (B5 _ (Dw d e)));⟨z.1,z.2.1⟩
      have I8:Inv (X.inner scope f C s2 j fp) pins (blank js σ) Z s6b:=by
        have Ia:Inv (X.inner scope f C s2 j fp) pins σ6 Z s6b:=U.zAD λp hp=>U.pin p (B5 _ (C0 _ (C0 _ hp)));exact Ia.weak hl6.symm λi v e=>by obtain⟨hj,_⟩:=Hc js σ i v e;rw[hs6 i hj];exact e
      refine⟨m',hm,i+1,ys,t,k,Z,I8.zAD (λp hp=>?_),T.keep _ _ _ Q λb d o e=>(S b d o e).1,λb d=>?_,hv3,hz3,w7⟩;rcases E6.mp hp with z|z
      exact I8.pin p (B5 _ z);have e:p=(D,_):=D5.mp z;subst e;exact⟨l.1,l.2.1,l.2.2.1,l.2.2.2.1,zBd _ _⟩;obtain⟨o,e,_⟩:=T.obj _ _ Q b d;exact(S b d o e).2
    |true=>
    refine Ai (he f C s2 j fp _ s6b σ6 Z _ U q6b) λv B ⟨y,H7,I7,r7,n7⟩=>?_;obtain⟨m',hm,w7⟩:=hN _ _ n7;have l:=I7.pin (D,{cls:=.type "list", data:=.seq t.toArray k}) (B5 _ (C0 _ (B5 _ B2)));have lt:t.toArray.size<=sizeLine:=by rw[B0,<- hv3.length];exact hz3
    refine T4 F.slot_list_append ⟨_,l.1,rfl⟩ F.entry_list_append (F.args_list_append_2 _ _) (wg D t.toArray k v lt) ⟨l.1,?_⟩;obtain⟨k',q⟩:∃k',(B.heap.update D (O2 λa=>a.push v)).get? D=_s {cls:=.type "list", data:=.seq (t.toArray.push v) k' }:=⟨_,xB l.1 (λa=>a.push v)⟩;have eq:(t.toArray.push v)=(t++[v]).toArray:=by simp
    have S:∀b∈fp,∀o,s5.heap.get? b=_s o->B.heap.get? b=_s o/\H7 b=none:=λb d o e =>
      let z:=I7.pin (b,o) (B5 _ (B5 _ (Dw d e)));⟨z.1,z.2.1⟩
    have G:∀b u,b≠D->B.heap.get? b=_s u->(B.heap.update D (O2 λa=>a.push v)).get? b=_s u:=λb u d hu=>(F8 B.heap (O2 λa=>a.push v) (Ne.symm d)).trans hu;have I8:Inv (X.inner scope f C s2 j fp) pins (blank js σ) H7 {B with heap:=B.heap.update D (O2 λa=>a.push v),toks:=B.toks}:=by
      have Ia:Inv (X.inner scope f C s2 j fp) pins σ6 H7 B:=I7.zAD λp hp=>I7.pin p (B5 _ (C0 _ (C0 _ hp)));have Ib:Inv (X.inner scope f C s2 j fp) pins (blank js σ) H7 B:=Ia.weak hl6.symm λi v e=>by obtain⟨hj,_⟩:=Hc js σ i v e;rw[hs6 i hj];exact e
      refine Ib.turned (it:=D) (λb o d e=>G b o d e) l.2.1 l.2.2.1 (.inr I) (λx c e=>?_) (λp hp=>?_);cases q:AV scope x with|false=>exact D6 (B7 (I2.zBG (L.old x c e q)) I)|true=>exact Z2 (p7 zDK (L.own x c e q).2)
      exact D6 (B7 (I2.zCh hp) I)
    refine⟨m',hm,i+1,ys++[y],t++[v],k',H7,I8.zAD (λp hp=>?_),T.keep _ _ _ Q λb d o e=>G b o (below b (R b d)).2 (S b d o e).1,λb d=>?_,hv3.append (.cons r7 .nil),by rw[F0,H8];omega,w7⟩;rcases E6.mp hp with z|z
    exact I8.pin p (B5 _ z);have e:p=(D,_):=D5.mp z;subst e;rw[<- eq];exact⟨q,l.2.1,l.2.2.1,l.2.2.2.1,zBd _ _⟩;obtain⟨o,e,_⟩:=T.obj _ _ Q b d;exact(S b d o e).2
  exact codeAny_compStart_list (loop _ rfl) (T.self _ 0 _ _ _ (T.keep _ _ _ t0 λb d o e=>old b o e) (loop _ rfl))
def Iu(wi:TI)(js:List Nat)(g:TG)(tc:TT)(te:TE):TE:=λσ H Q=>wi σ H λJ a=>∃W:Nat->Nat->List V->Hp->Prop,(∃m,W 0 m [] a)/\Qz js g tc te J σ (λys H=>∀p,H p=_n->Q (.ref p) (upd H p (.lst ys))) W
theorem OD(Bi:zO X.N X.env.scope scope js=_t)(hc:X.calm=_t)(hi:PI X tg iter wi)(y:∀cl C s H fp,PG (X.inner scope cl C s H fp) tg g)(f:VL js g)(j:∀cl C s H fp,gM (X.inner scope cl C s H fp) ifs tc)(z:∀cl C s H fp,PE (X.inner scope cl C s H fp) elt te)
    (u:∀x,K3 iter X.env x=pure x:=by intro _;rfl):PE X (.ListComp elt [⟨tg,iter,ifs,0⟩] scope pos) (Iu wi js g tc te):=by
  intro pins s σ H Q I h;have Bi:=Dz Bi;obtain⟨cl,c,k,i⟩:=EC (scope:=scope) (env:=X.env) (λx t=>I.ok.has x (Bi.fr x t)) Bi.zBl;rw[eval_ListComp];refine T6 (use:=_n) rfl u c Bi.kind Bi.zBk ?_;refine Ai (hi pins s σ H _ I h) λv s1 h1=>Ai h1 λr s2 h2=>?_;obtain⟨it,fp,tn,J,U,e,P,T,d,f2,W,⟨S,p⟩,a⟩:=h2;subst e;refine Ht (RR:=λn C=>compPost (C7 X.prog X.w) X.A X.xe _n (EP X pins σ Q) n C) Bi hc y f j z P T d f2 k i p a ?_;intro D C s' H' ys m R E l hn O M L K G F;refine⟨m,hn,λh' q=>⟨.ref D,_,R.turned (t':=s'.toks) (it:=C) (λb o B e=>(q.2 b B).trans e) ?_ O (.inr M) L K,rfl,l D E⟩⟩;rw[AC (Ne.symm F)];exact G
theorem OB{i:Nat}{x:Str}{c d:Pos}(hN:X.N.Nodup)(r:X.N[i]?=_s x)(p:Loc X.env.scope x)
    (Bi:zO X.N X.env.scope scope js=_t) (hc:X.calm=_t) (hi:PI X tg iter wi) (V:∀cl C s H fp,PG (X.inner scope cl C s H fp) tg g) (t:VL js g) (y:∀cl C s H fp,gM (X.inner scope cl C s H fp) ifs tc) (Z:∀cl C s H fp,PE (X.inner scope cl C s H fp) elt te)
    (q:O0 (.ListComp elt [⟨tg,iter,ifs,0⟩] scope pos) (_s (.Name x c)) d.line X.env=pure true:=by rfl)
    (S:∀x,K3 iter X.env x=pure x:=by intro _;rfl)
    (Y:X.fn x=_t\/X.env.scope.names.lookup x=_s .local:=by first|exact .inl rfl|exact .inr rfl|assumption) :
    PS X (.Assign [.Name x c] (.ListComp elt [⟨tg,iter,ifs,0⟩] scope pos) d) (KM (Iu wi js g tc te) (DC i)):=by
  intro pins s σ H D I h;have Bi:=Dz Bi;obtain⟨cl,j,B,u⟩:=EC (scope:=scope) (env:=X.env) (λx p=>I.ok.has x (Bi.fr x p)) Bi.zBl;rw[vO _ _ _ _ q];refine A1 (T1 (A1 ?_));show B4 _ _ (do let _ <- comprehension (.ListComp elt [⟨tg,iter,ifs,0⟩] scope pos) scope X.env _ (newList []) _f (L8 iter X.env) (_s (W5 (.Name x c) X.env))) _ _ s;refine A1 (Ai (T6 (use:=_s (W5 (.Name x c) X.env)) (Q:=λ_ s'=>SP X pins D .next s') rfl S j Bi.kind Bi.zBk ?_) (λ_ s' U=>A6 (A6 U)));refine Ai (hi pins s σ H _ I h) λv s1 h1=>Ai h1 λR s2 h2=>?_;obtain⟨it,fp,tn,J,H2,e,I2,T,k,f2,W,⟨m0,O⟩,f⟩:=h2;subst e;refine Ht (RR:=λF C=>compPost (C7 X.prog X.w) X.A X.xe (_s (W5 (.Name x c) X.env)) (λ_ s'=>SP X pins D .next s') F C) Bi hc V t y Z I2 T k f2 B u O f ?_;intro K C s' H' ys m I' hD E hn M c2 L c4 c5 c6;show B4 _ _ (W5 (.Name x c) X.env (.ref K)) _ _ _;refine wO (Kv (v:=.ref K) I' hN r p rfl (λn G ⟨a,P,ha⟩=>?_) Y);have ne:C≠a:=by
    rcases ha with z|z
    rw[z];exact M;exact(L x a z).symm
  refine⟨m,hn.sameBut P ne,λh' l=>⟨_,_,G.turned (t':=n.toks) (it:=C) (λb o hb e=>(l.2 b hb).trans e) ?_ M (.inr c2) L c4,E K hD⟩⟩;rw[AC (Ne.symm c6)];exact c5
end
end L2
namespace R
open PySem L2
section
variable{γ:Type}
noncomputable def Bp(g:Dv->γ->Option (Dv×γ)):List Dv->γ->Option (List Dv×γ)
 |[],c=>_s ([],c)
 |x::xs,c=>(g x c).bind λp=>(Bp g xs p.2).bind λq=>_s (p.1::q.1,q.2)
noncomputable def AO(g:Dv->Option Dv):List Dv->Option (List Dv)
 |[]=>_s []
 |x::xs=>(g x).bind λp=>(AO g xs).bind λq=>_s (p::q)
noncomputable def qA(g:Dv->γ->Option (Option Dv×γ)):List Dv->γ->Option (List Dv×γ)
 |[],c=>_s ([],c)
 |x::xs,c=>(g x c).bind λp=>(qA g xs p.2).bind λq=>_s (match p.1 with|some d=>d::q.1|none=>q.1,q.2)
noncomputable def Jf(g:Dv->Option (Option Dv)):List Dv->Option (List Dv)
 |[]=>_s []
 |x::xs=>(g x).bind λp=>(Jf g xs).bind λq=>_s (match p with|some d=>d::q|none=>q)
noncomputable def Cd{a:Type}(xs:List Dv)(o:Option a):Option a:=if xs.length<=1000000 then o else _n
end
theorem Ju{b:Type}{xs:List Dv}{o:Option b}{a:b}(h:Cd xs o=_s a):xs.length<=1000000/\o=_s a:=by unfold Cd at h;split at h;rename_i z;exact⟨z,h⟩;cases h
section
variable{K:W.Frag}{g g':G}{H H':Hp}{Γ:Gm}{m:M}{σ:St}{P:Fp}
theorem Rel.sub{Γ':Gm}{σ':St}(h:Rel K g H Γ m σ P)(b:Γ'.length=Γ.length)(c:σ'.length=σ.length)(k:∀(i o:Nat),Γ'[i]?=_s (_s o)->Γ[i]?=_s (_s o)/\σ'[i]?=σ[i]?):∃P',Rel K g H Γ' m σ' P'/\∀a,P' a->P a:=by obtain⟨zd,F,h1,h4⟩:=h;refine⟨λa=>∃i,(∃o,Γ'[i]?=_s (_s o))/\F i a,⟨zd,λi a=>(∃o,Γ'[i]?=_s (_s o))/\F i a,⟨by rw[b];exact h1.l1,by rw[c,b];exact h1.l2,λi o e=>?_,λi e a q=>q.1.elim λo z=>e o z,λi j n a q z=>h1.dj i j n a q.2 z.2⟩,λ_=>d9⟩,λa ⟨i,_,q⟩=>(h4 a).mpr ⟨i,q⟩⟩;obtain⟨p,es⟩:=k i o e;obtain⟨d,v,l,f,r⟩:=h1.rep i o p;have eq:(λa=>(∃o,Γ'[i]?=_s (_s o))/\F i a)=F i:=funext λa=>propext ⟨λz=>z.2,λz=>⟨⟨o,e⟩,z⟩⟩;exact⟨d,v,l,by rw[es];exact f,by show Rep K g H o d v λa=>(∃o,Γ'[i]?=_s (_s o))/\F i a;rw[eq];exact r⟩
theorem Rel.more{Γ':Gm}{σ':St}(h:Rel K g H Γ m σ P)(l:Γ'.length=Γ.length)(s:σ'.length=σ.length)(k:∀(i o:Nat),Γ'[i]?=_s (_s o)->(Γ[i]?=_s (_s o)/\σ'[i]?=σ[i]?)\/(o=0/\∃d v,m[i]?=_s d/\σ'[i]?=_s (_s v)/\Rep K g H 0 d v yv)):∃P',Rel K g H Γ' m σ' P'/\∀a,P' a->P a:=by
 obtain⟨zd,F,h1,h4⟩:=h
 let C:Nat->Prop:=λi=>∃o,Γ'[i]?=_s (_s o)/\Γ[i]?=_s (_s o)/\σ'[i]?=σ[i]?
 refine⟨λa=>∃i,C i/\F i a,⟨zd,λi a=>C i/\F i a,⟨by rw[l];exact h1.l1,by rw[s,l];exact h1.l2,λi o e=>?_,λi e a q=>q.1.elim λo z=>e o z.1,λi j n a q z=>h1.dj i j n a q.2 z.2⟩,λ_=>d9⟩,λa ⟨i,_,q⟩=>(h4 a).mpr ⟨i,q⟩⟩;by_cases c:C i;obtain⟨o',f,b,p⟩:=c;rw[e]at f;cases f;obtain⟨d,v,u,t,r⟩:=h1.rep i o b;have eq:(λa=>C i/\F i a)=F i:=funext λa=>propext ⟨λz=>z.2,λz=>⟨⟨o,e,b,p⟩,z⟩⟩;exact⟨d,v,u,by rw[p];exact t,by show Rep K g H o d v λa=>C i/\F i a;rw[eq];exact r⟩;have eq:(λa=>C i/\F i a)=yv:=DA λa z=>c z.1;rcases k i o e with z|⟨rfl,d,v,f,b,r⟩
 exact(c ⟨o,e,z⟩).elim;exact⟨d,v,f,b,by show Rep K g H 0 d v λa=>C i/\F i a;rw[eq];exact r⟩
end
def PK(js:List Nat)(Γ:Gm):Gm:=(B6 Γ.length).map λi=>if js.contains i then _n else Γ.getD i _n
def Pk(js:List Nat)(a Γ:Gm):Gm:=(B6 Γ.length).map λi=>if js.contains i then(if a.getD i _n==_s 0 then _s 0 else _n)else Γ.getD i _n
theorem FA{a:Type}{n i:Nat}{f:Nat->a}{x:a}(h:((B6 n).map f)[i]?=_s x):i < n/\x=f i:=by rw[C8]at h;by_cases z:i < n;rw[M7 z]at h;exact⟨z,(C3 h).symm⟩;rw[List.getElem?_eq_none_iff.mpr (by simpa using z)]at h;cases h
theorem Aq{Γ:Gm}{i o:Nat}(h:Γ.getD i _n=_s o):Γ[i]?=_s (_s o):=by
 rw[E5]at h;cases e:Γ[i]? with|none=>rw[e]at h;cases h|some x=>rw[e]at h;exact congrArg _s h
theorem ED{js:List Nat}{Γ:Gm}{i o:Nat}(h:(PK js Γ)[i]?=_s (_s o)):i∉js/\Γ[i]?=_s (_s o):=by obtain⟨_,e⟩:=FA h;split at e;cases e;rename_i z;exact⟨λq=>z (C6.mpr q),Aq e.symm⟩
theorem Lq(js:List Nat):∀(σ:St)(i:Nat),i∉js->(L2.blank js σ)[i]?=σ[i]?:=by
 induction js with|nil=>intro σ i _;rfl|cons j js a=>intro σ i h;show(L2.blank js (σ.set j _n))[i]?=_;rw[a _ i λz=>h (B1 _ z),D9 λz=>h (by rw[<- z];exact B2)]
theorem Jz{K:W.Frag}{L yz Γt O Γf:Gm}{s T jc Z J:List Nat}{g:TG}{ft:Tg}{c:Ev Bool}{f:Ev Dv}(ht:NJ K yz Γt T g ft)(E:Bc yz (PK s L)=_t)(hwf:Bc yz Γf=_t)(hwc:Bc yz O=_t)(hsx:∀i∈T,i∈s)
    (hJ:J=BN yz (T++(jc++Z))) {ds:List Dv} (hz:ds.length<=1000000) {l:M} {σ:St} {C:Hp} {N:G} {P1:Fp} {I:It} {R:Type} {k:Dv->M->Option R} {res:R} {Q:VK}
    (r1:Rel K N C L l σ P1) (yl:Yl K I ds N C) (run:List Dv->DR J->List Dv->Prop) (h0:run ds (Ac J l) []) (hn:∀t n,run [] t n->k (.lst n) (AR J l t)=_s res)
    (hc:∀d ds t n,run (d::ds) t n->∃(B:Type)(kx:Dv->M->Option B)(kf:M->Option B)(r:B),ft B d (AR J l t) (λm2=>c B m2 λb Y=>if b=_t then f B Y kx else kf Y)=_s r/\(∀x m',kx x m'=_s r->run ds (Ac J m') (n++[x]))/\∀m',kf m'=_s r->run ds (Ac J m') n)
    (q:∀d m' g' P' Pv v H',k d m'=_s res->BU (T++(jc++Z)) l m'->Step N P1 C g' (λa=>P' a\/Pv a) H'->Rep K g' H' 1 d v Pv->Rel K g' H' (Pk s L yz) m' σ P'->Bu P' Pv->Q v H') :
    ∃W:Nat->Nat->List V->Hp->Prop,(∃m,W 0 m [] C)/\Qz s g (tT K Γt O jc c) (tE K O 0 Γf Z f) I σ (λys H=>∀p,H p=_n->Q (.ref p) (upd H p (.lst ys))) W:=by
  have sub:∀i∈J,i∈T++(jc++Z):=λi h=>Az (hJ▸h);have nJ:∀i∈J,i∉s:=λi h z=>by
    rw[hJ]at h;have:=(S4.mp h).2;rw[A2]at this;cases e:yz.getD i _n with|none=>rw[e]at this;cases this.2|some o=>obtain⟨o',e',_⟩:=GT E (Aq e);exact(ED e').1 z
  have lb:(PK s L).length=L.length:=by unfold PK;simp
  obtain⟨Pb,rb,sb⟩:=r1.sub (Γ':=PK s L) (σ':=L2.blank s σ) lb (L2.z9 ..) λi o e=>⟨(ED e).2,Lq s σ i (ED e).1⟩;obtain⟨g0,P0,s0,r0⟩:=rb.weaken E;have s10:Step N P1 C g0 P0 C:=s0.sub sb λ_ z=>z;refine⟨λi j ys H=>j=ds.length-i/\i<=ds.length/\ys.length<=i/\∃u t P2 n,Step N P1 C u P2 H/\Rel K u H yz (AR J l t) (L2.blank s σ) P2/\AA K u H 0 n ys yv/\run (ds.drop i) t n,
    ⟨ds.length,by simp,G8 _,G8 _,g0,Ac J l,P0,[],s10,Jp r0,AA.nil,by simpa using h0⟩,?_⟩
  rintro i j ys H2 ⟨rfl,hi,hyl,u,t,P2,n,s2,r2,ry,e2⟩;have st:IC N C u H2:=⟨P1,P2,s2,r1.y6⟩;by_cases zg:i < ds.length;rw[S1 zg]at e2;obtain⟨B,kx,kf,rB,e3,hx,hf⟩:=hc _ _ _ _ e2;obtain⟨go,yy⟩:=(yl u H2 st).1 i ds[i] (A3 zg);refine .inr ⟨go,p7 hyl (B7 zg (D0 hz (by decide))),λzs H'=>zs.length<=i+1/\∃A F m' za,Step N P1 C A F H'/\Rel K A H' yz m' (L2.blank s σ) F/\BU (T++(jc++Z)) l m'/\AA K A H' 0 za zs yv/\run (ds.drop (i+1)) (Ac J m') za,?_,λy H3 hy=>?_⟩;rintro zs H' ⟨hl,A,F,m',za,s5,U,ag,rz,hr⟩;exact⟨ds.length-(i+1),by omega,rfl,zg,hl,A,Ac J m',F,za,s5,U.join ag λi o h=>hJ▸BL h,rz,hr⟩;obtain⟨Pv,s3,h3,r3,n3⟩:=Ap.go s2 r2 (yy y H3 hy);have ry3:AA K u H3 0 n ys yv:=ry.held (Step.same (P:=yv) (yy y H3 hy).1) zA.yv λ_ _ z=>z;refine ht u _ P2 ds[i] y _ H3 B _ rB _ r3 h3.z e3 λm2 P' σ' hk ag sp ip r'=>?_;have s4:Step N P1 C u P' H3:=s3.less λa z=>.inl (sp a z);have a4:BU (T++(jc++Z)) l m2:=((AU J l t).mono sub).trans ag |>.mono λi z=>(E6.mp z).elim id λz=>C0 _ z
  -- outside of the zBz own slots nothing is bound
  have back:∀{A:G}{F:Fp}{m':M}{H':Hp},Rel K A H' yz m' σ' F->∃P6,Rel K A H' yz m' (L2.blank s σ) P6/\∀a,P6 a->F a:=fun{A F m' H'} U=>U.sub rfl (by rw[ip.1]) λi o e=>⟨e,(ip.2 i λz=>by obtain⟨o',e',_⟩:=GT E e;exact(ED e').1 (hsx i z)).symm⟩
  refine⟨u,m2,P',r',B,_,rB,hk,λb Y g4 P4 H4 D ag4 s5 X=>?_⟩;have ry4:=ry3.held s5 r'.y6 λ_ z=>z.elim;cases b with|false=>rw[if_neg D1]at D;show(if _f=_t then _ else _);rw[if_neg D1];obtain⟨g6,P6,s6,r6⟩:=X.weaken hwc;obtain⟨P7,r7,S⟩:=back r6;exact⟨by omega,g6,P7,Y,n,((s4.trans s5).trans s6).less S,r7,(a4.trans ag4).mono λi z=>(E6.mp z).elim id λz=>B5 _ (C0 _ z),ry4.held s6 X.y6 λ_ z=>z.elim,hf Y D⟩|true=>rw[if_pos rfl]at D;show(if _t=_t then _ else _);rw[if_pos rfl];refine⟨g4,Y,P4,X,B,kx,rB,D,λx m4 A F Pv v H5 hk5 ag5 s6 rv U n5=>?_⟩;have ry5:=ry4.held s6 X.y6 λ_ z=>z.elim;obtain⟨g6,P6,s7,r6⟩:=U.weaken hwf;obtain⟨P7,r7,S⟩:=back r6;refine⟨by rw[F0,H8];omega,g6,P7,m4,n++[x],(((s4.trans s5).trans (s6.less λ_ z=>.inl z)).trans s7).less S,r7,?_,?_,hx x m4 hk5⟩;exact((a4.trans ag4).trans ag5).mono λi z=>(E6.mp z).elim (λz=>(E6.mp z).elim id λz=>B5 _ (C0 _ z)) λz=>B5 _ (B5 _ z);refine((AA.app ry5 (AA.cons rv.z AA.nil λ_ z=>z.elim) λ_ z=>z.elim).iff (Q:=yv) λa=>⟨λz=>z.elim,λz=>z.elim id λz=>z.elim id id⟩).held s7 U.y6 λ_ z=>z.elim
  have ei:i=ds.length:=by omega
  subst ei;rw[uw]at e2;refine .inl ⟨(yl u H2 st).2 _ (C4 _),λp hp=>?_⟩;obtain⟨Pv,s3,h1,r3,n3⟩:=Ap.go s2 r2 (Ap.lst r2.zd ry hp);have l1:yz.length=L.length:=(Dy E).trans lb;obtain⟨P4,X,sp4⟩:=r3.more (Γ':=Pk s L yz) (σ':=σ) (by unfold Pk;simp) (by rw[L2.z9]) λi o e=>by
    obtain⟨hi,e⟩:=FA e;split at e;rename_i z;split at e;rename_i z0;cases e;refine .inr ⟨rfl,?_⟩;obtain⟨v,Px,ev,rx,_⟩:=r1.see (Aq (beq_iff_eq.mp z0));have ji:i∉J:=λw=>nJ i w (C6.mp z);have hl:i < l.length:=by rw[r1.len.1,<- l1];exact hi
    refine⟨l.at i,v,?_,ev,(rx.z.held s2 r1.y6 λ_ z=>z.elim).held (Step.same (P:=yv) (CV hp (.lst ys))) zA.yv λ_ _ z=>z⟩;have:=(AU J l t).2 i ji;have hl':i < (AR J l t).length:=by rw[JQ];exact hl
    rw[A3 hl',<- this];unfold M.at;rw[E5,A3 hl'];rfl;cases e;rename_i z;exact .inl ⟨Aq e.symm,(Lq s σ i λw=>z (C6.mpr w)).symm⟩
  exact q _ _ u P4 Pv _ _ (hn t n e2) ((AU J l t).mono sub) (s3.less λa z=>z.elim (λz=>.inl (sp4 a z)) .inr) h1 X λa z w=>n3 a (sp4 a z) w
def YU(a:Ev (List Dv))(tg:Tg)(f:Ev Dv):Ev Dv:=λR m k=>a R m λds b=>Cd ds ((AO (λd=>tg Dv d b λc=>f Dv c λx _=>_s x) ds).bind λxs=>k (.lst xs) b)
def YV(a:Ev (List Dv))(tg:Tg)(c:Ev Bool)(f:Ev Dv):Ev Dv:=λR m k=>a R m λds e=>Cd ds ((Jf (λd=>tg (Option Dv) d e λh=>c (Option Dv) h λb g=>if b=_t then f (Option Dv) g λx _=>_s (_s x)else _s _n) ds).bind λxs=>k (.lst xs) e)
def SX(a:Ev (List Dv))(tg:Tg)(J:List Nat)(f:Ev Dv):Ev Dv:=λR m k=>a R m λds b=>Cd ds ((Bp (λd t=>tg (Dv×DR J) d (AR J b t) λe=>f (Dv×DR J) e λx c=>_s (x,Ac J c)) ds (Ac J b)).bind λp=>k (.lst p.1) (AR J b p.2))
def Fo:Ev Bool:=λ_ m k=>k _t m
section
variable{K:W.Frag}{Γ zL yz Γt Γc Γf:Gm}{js jx jt jc jf J:List Nat}{g:TG}{ft:Tg}{c:Ev Bool}{f:Ev Dv}{src:Ev (List Dv)}{σ:St}{H:Hp}{Q:VK}
theorem XX(C:NJ K yz Γt jt g ft)(p:Bc yz (PK jx zL)=_t)(l:Bc yz Γf=_t)(n:Bc yz Γt=_t)(o:∀i∈jt,i∈jx)(D:([]:List Nat)=BN yz (jt++([]++jf)))
    (h:tE K Γ 1 (Pk jx zL yz) (js++(jt++([]++jf))) (YU src ft f) σ H Q):Iu (tI K Γ zL js src) jx g (tT K Γt Γt [] Fo) (tE K Γt 0 Γf jf f) σ H Q:=by
  obtain⟨E,m,P,r,R,k,res,e,q⟩:=h;refine⟨E,m,P,r,R,_,res,e,λds M N P1 O I a L s A w=>?_⟩;obtain⟨B,a⟩:=Ju a;refine yt a λxs G F=>?_;refine Jz (c:=Fo) C p l n o D B A w (λds _ j=>∃b,xs=j++b/\AO _ ds=_s b) ⟨xs,rfl,G⟩ (λt j ⟨b,h1,h2⟩=>?_) (λd ds t j ⟨b,h1,h2⟩=>?_) λd m' g' P' Pv v H' a u s'=>q d m' g' P' Pv v H' a (L.trans u) (s.trans s');cases h2;rw[G4]at h1;subst h1;exact F;refine yt h2 λx h3 h4=>?_;refine yt h4 λz h5 h6=>?_;cases h6;exact⟨Dv,λx _=>_s x,λ_=>_n,x,h3,(λy m' a=>by cases a;exact⟨z,by rw[h1,J3];rfl,h5⟩),λm' a=>by cases a⟩
theorem XY(C:NJ K yz Γt jt g ft)(p:Bc yz (PK jx zL)=_t)(l:Bc yz Γf=_t)(n:Bc yz Γc=_t)(o:∀i∈jt,i∈jx)(D:([]:List Nat)=BN yz (jt++(jc++jf)))
    (h:tE K Γ 1 (Pk jx zL yz) (js++(jt++(jc++jf))) (YV src ft c f) σ H Q):Iu (tI K Γ zL js src) jx g (tT K Γt Γc jc c) (tE K Γc 0 Γf jf f) σ H Q:=by
  obtain⟨E,m,P,r,R,k,res,e,q⟩:=h;refine⟨E,m,P,r,R,_,res,e,λds M N P1 O I a L s A z=>?_⟩;obtain⟨B,a⟩:=Ju a;refine yt a λxs G F=>?_;refine Jz C p l n o D B A z (λds _ j=>∃b,xs=j++b/\Jf _ ds=_s b) ⟨xs,rfl,G⟩ (λt j ⟨b,h1,h2⟩=>?_) (λd ds t j ⟨b,h1,h2⟩=>?_) λd m' g' P' Pv v H' a u s'=>q d m' g' P' Pv v H' a (L.trans u) (s.trans s');cases h2;rw[G4]at h1;subst h1;exact F;refine yt h2 λx h3 h4=>?_;refine yt h4 λw h5 h6=>?_;cases h6;refine⟨Option Dv,λx _=>_s (_s x),λ_=>_s _n,x,h3,(λy m' a=>?_),λm' a=>?_⟩;cases a;exact⟨w,by rw[h1,J3];rfl,h5⟩;cases a;exact⟨w,h1,h5⟩
theorem Ui(E:NJ K yz Γt jt g ft)(u:Bc yz (PK jx zL)=_t)(l:Bc yz Γf=_t)(n:Bc yz Γt=_t)(o:∀i∈jt,i∈jx)(F:J=BN yz (jt++([]++jf)))
    (h:tE K Γ 1 (Pk jx zL yz) (js++(jt++([]++jf))) (SX src ft J f) σ H Q):Iu (tI K Γ zL js src) jx g (tT K Γt Γt [] Fo) (tE K Γt 0 Γf jf f) σ H Q:=by
  obtain⟨G,m,P,r,R,k,res,e,q⟩:=h;refine⟨G,m,P,r,R,_,res,e,λds O S P1 T I a N s B z=>?_⟩;obtain⟨D,a⟩:=Ju a;refine yt a λp M L=>?_;refine Jz (c:=Fo) E u l n o F D B z (λds t j=>∃b,p.1=j++b/\Bp _ ds t=_s (b,p.2)) ⟨p.1,rfl,M⟩ (λt j ⟨b,h1,h2⟩=>?_) (λd ds t j ⟨b,h1,h2⟩=>?_) λd m' g' P' Pv v H' a w s'=>q d m' g' P' Pv v H' a (N.trans w) (s.trans s');simp only[Bp,Q7,Prod.mk.injEq]at h2;obtain⟨rfl,rfl⟩:=h2;rw[G4]at h1;rw[<- h1];exact L;refine yt h2 λx h3 h4=>?_;refine yt h4 λA h5 h6=>?_;simp only[Q7,Prod.mk.injEq]at h6;obtain⟨rfl,h7⟩:=h6;refine⟨_,λx C=>_s (x,Ac J C),λ_=>_n,x,h3,(λy m' a=>?_),λm' a=>by cases a⟩;cases a;exact⟨A.1,by rw[h1,J3];rfl,by rw[<- h7];exact h5⟩
end
end R
namespace L2
open PySem PySem.Spec PyProof.Rows
theorem Gn{a b:Nat}(h:a≠b):@Ne A8 a b:=h
def Ic(h:G2)(it l:A8)(i:Nat):Bool->Prop
 |false=>h.IsListIter it l i
 |true=>h.IsTupleIter it l i
def KH(h:G2)(l:A8)(xs:Array _v):Bool->Prop
 |false=>h.IsList l xs
 |true=>h.IsTuple l xs
noncomputable def SG(l:A8):Bool->Obj
 |false=>{cls:=.type "list_iterator", data:=.fields #[.ref l,.int 0 0]}
 |true=>{cls:=.type "tuple_iterator", data:=.fields #[.ref l,.int 0 0]}
variable{h:G2}{it l:A8}{i:Nat}{b:Bool}
theorem Ic.at{h':G2}(x:Ic h it l i b)(k:∀o,h.get? it=_s o->h'.get? it=_s o):Ic h' it l i b:=by
 cases b with|false=>obtain⟨o,e,r⟩:=x;exact⟨o,k o e,r⟩|true=>obtain⟨o,e,r⟩:=x;exact⟨o,k o e,r⟩
theorem KH.at{h':G2}{xs:Array _v}(x:KH h l xs b)(k:∀o,h.get? l=_s o->h'.get? l=_s o):KH h' l xs b:=by
 cases b with|false=>obtain⟨o,e,r⟩:=x;exact⟨o,k o e,r⟩|true=>obtain⟨o,e,r⟩:=x;exact⟨o,k o e,r⟩
theorem Ic.obj(x:Ic h it l i b):∃o,h.get? it=_s o/\∀v,o.data≠.cell v:=by
 cases b with|false=>obtain⟨o,e,c,d⟩:=x;exact⟨o,e,λv z=>by rw[d]at z;cases z⟩|true=>obtain⟨o,e,c,d⟩:=x;exact⟨o,e,λv z=>by rw[d]at z;cases z⟩
theorem Ic.new:Ic (h.push (SG l b)) h.objs.size l 0 b:=by
 cases b with|false=>exact⟨_,D3 _ rfl,rfl,rfl⟩|true=>exact⟨_,D3 _ rfl,rfl,rfl⟩
variable{Q:_v->A5->Prop}{items:Array _v}
section
variable{prog:E8}{w:G7}{A:G3}{E:_v->A5->Prop}{s:A5}
theorem Kx{xs:Array _v}(a:KH s.heap l xs b)(c:Q (.ref s.heap.objs.size) {s with heap:=s.heap.push (SG l b)}):B4 (C7 prog w) A (yT (.ref l)) Q E s:=by
 cases b with|false=>exact r9 a c|true=>exact R7 a c
theorem IG{x:_v}{Q:_v->A5->Prop}(c:Ic s.heap it l i b)(g:KH s.heap l items b)(e:items[i]?=_s x)
    (j:∀h',Ic h' it l (i+1) b->O6 it s.heap h'->Q x {s with heap:=h' }):B4 (C7 prog w) A (J5 (.ref it)) Q E s:=by
  cases b with
  |false=>exact wpAny_nextOf_list_item c g e j
  |true=>
    obtain⟨o,a,hc,hd⟩:=id c;obtain⟨k,d,_,m,hdl⟩:=g;have f:s.TypeIs (.ref it) "tuple_iterator" := ⟨o,a,hc⟩;unfold J5;refine A1 (N6 (name:=Z6 "__next__") f F.slot_tuple_iterator_next
      (N4 F.slot_tuple_iterator_next f F.entry_tuple_iterator_next ?_ (F.args_tuple_iterator_next_1 _)))
    show B4 _ _ (yB (.ref it) 0 >>= _) _ _ s;refine A1 (H9 a hd (x:=.ref l) rfl ?_);show B4 _ _ (if(D4 l==K6)=_t then _ else _) _ _ s;rw[if_neg (show ¬((D4 l==K6)=_t)from D1)];show B4 _ _ (yB (.ref it) 1 >>= _) _ _ s;refine A1 (H9 a hd (x:=.int i 0) rfl ?_);show B4 _ _ (xD (.ref l) >>= _) _ _ s;refine A1 (K2 d hdl ?_);simp only[S8,e];refine A1 (V7 a hd (by simp) (A6 ⟨x,rfl,A6 (j _ ?_ (W7 ..))⟩));exact⟨_,K0 _ a (a8 (X9 hd _)),(Obj.cls_mapFields ..).trans hc,by rw[X9 hd];simp[P9]⟩
theorem PZ{Q:_v->A5->Prop}(g:A.handled=_n)(c:Ic s.heap it l i b)(n:KH s.heap l items b)(j:items[i]?=_n)
    (p:∀h' e,xU it s.heap h'->(∃o,h'.get? e=_s o/\o.cls=.type "StopIteration")->E (.ref e) {s with heap:=h' }):B4 (C7 prog w) A (J5 (.ref it)) Q E s:=by
  cases b with
  |false=>exact wpAny_nextOf_list_end g c n j p
  |true=>
    obtain⟨o,d,hc,hd⟩:=id c;obtain⟨q,f,_,r,hdl⟩:=n;have k:s.TypeIs (.ref it) "tuple_iterator" := ⟨o,d,hc⟩;unfold J5;refine A1 (N6 (name:=Z6 "__next__") k F.slot_tuple_iterator_next
      (N4 F.slot_tuple_iterator_next k F.entry_tuple_iterator_next ?_ (F.args_tuple_iterator_next_1 _)))
    show B4 _ _ (yB (.ref it) 0 >>= _) _ _ s;refine A1 (H9 d hd (x:=.ref l) rfl ?_);show B4 _ _ (if(D4 l==K6)=_t then _ else _) _ _ s;rw[if_neg (show ¬((D4 l==K6)=_t)from D1)];show B4 _ _ (yB (.ref it) 1 >>= _) _ _ s;refine A1 (H9 d hd (x:=.int i 0) rfl ?_);show B4 _ _ (xD (.ref l) >>= _) _ _ s;refine A1 (K2 f hdl ?_);simp only[S8,j];refine A1 (X7 (A1 (V7 d hd (by simp) ?_)));show B4 _ _ (newExc (.type "StopIteration") [] >>= _) _ _ _;refine A1 ?_;simp only[newExc,newTuple];refine A1 (L6 ?_ (by size_fits));refine A1 (m:=firstArgMember _ _) (wpAny_of_eq (a:=K6) (by first|rfl|(simp only[firstArgMember];rfl)) ?_);refine L6 ?_ (by size_fits);simp only[raiseNew];refine A1 (wpAny_handled ?_)
    first|rw[show A.in1.handled=_n from g]|rw[g]
    refine A1 (A6 (wpAny_throw ?_));exact p _ _ (((W7 ..).extBut.push _).push _) ⟨_,D3 _ rfl,rfl⟩
end
def Kk(K:W.Frag)(H:Hp)(a:A8)(xs:List V):Bool->Prop
 |false=>Dk K H a xs
 |true=>FR K H a xs
section
variable{X:Cx}{pins:List (A8×Obj)}{σ:St}{H:Hp}{s:A5}{a:A8}{xs ys:List V}{b:Bool}
theorem Inv.sqB(I:Inv X pins σ H s)(h:Kk X.K H a xs b):∃c:List _v,AI xs c/\KH s.heap a c.toArray b/\a < s.heap.objs.size:=by
 cases b with|false=>obtain⟨c,r,p,_⟩:=I.list h;exact⟨c,r,p.isList,by obtain⟨o,n,e,_⟩:=p;exact B8 e⟩|true=>obtain⟨c,r,p,_⟩:=I.tuple h;exact⟨c,r,p,by obtain⟨o,e,_⟩:=p;exact B8 e⟩
theorem Inv.zBD(I:Inv X pins σ H s)(h:Kk X.K H a xs b)(h':Kk X.K H a ys b):xs=ys:=by
 cases b with|false=>exact I.zAk h h'|true=>exact I.zAW h h'
end
abbrev Sw(h:G2)(T:A8)(v1 v2:_v):Prop:=h.get? T=_s {cls:=.type "tuple", data:=.seq #[v1,v2]}
variable{I l1 l2:Nat}{b1 b2:Bool}{xs1 xs2:Array _v}
section
variable{prog:E8}{w:G7}{A:G3}{E:_v->A5->Prop}{s:A5}
theorem VX{T:A8}{v1 v2 x:_v}{Q:Unit->A5->Prop}(hT:Sw s.heap T v1 v2)(h:∀h',Sw h' T x v2->O6 T s.heap h'->Q () {s with heap:=h' }):B4 (C7 prog w) A (xG T (·.setIfInBounds 0 x)) Q E s:=by refine X6 hT rfl (h _ ?_ (W7 ..));show Heap.get? _ _=_;rw[K0 _ hT rfl];simp[O2]
theorem gk{T:A8}{v1 v2 x:_v}{Q:Unit->A5->Prop}(hT:Sw s.heap T v1 v2)(h:∀h',Sw h' T v1 x->O6 T s.heap h'->Q () {s with heap:=h' }):B4 (C7 prog w) A (xG T (·.setIfInBounds 1 x)) Q E s:=by refine X6 hT rfl (h _ ?_ (W7 ..));show Heap.get? _ _=_;rw[K0 _ hT rfl];simp[O2]
structure zAf (h:G2) (I:Nat) (l1 l2:Nat) (b1 b2:Bool) (i:Nat) (f0:_v):Prop where
 z:vX h (I+4) (I+2) (I+3) f0
 ti:Sw h (I+2) (.ref I) (.ref (I+1))
 to:∃v1 v2,Sw h (I+3) v1 v2
 s1:Ic h I l1 i b1
 s2:Ic h (I+1) l2 i b2
theorem zAf.at{h':G2}{f0:_v}(x:zAf h I l1 l2 b1 b2 i f0)(k:∀(c:Nat) o,I<=c->c < I+5->h.get? c=_s o->h'.get? c=_s o):zAf h' I l1 l2 b1 b2 i f0:=
 ⟨k _ _ (by omega) (by omega) x.z,k _ _ (by omega) (by omega) x.ti,let ⟨v1,v2,e⟩:=x.to;⟨v1,v2,k _ _ (by omega) (by omega) e⟩,x.s1.at λo e=>k _ o (by omega) (by omega) e,x.s2.at λo e=>k _ o (by omega) (by omega) e⟩
theorem Sy{y1 y2:_v}{Q:_v->A5->Prop}(hz:zAf s.heap I l1 l2 b1 b2 i .none)(Y:KH s.heap l1 xs1 b1)(lt1:l1 < I)(zt:KH s.heap l2 xs2 b2)(lt2:l2 < I)(X:xs1[i]?=_s y1)(W:xs2[i]?=_s y2)
    (hQ:∀h',zAf h' I l1 l2 b1 b2 (i+1) (P9 s.heap.objs.size)->Sw h' s.heap.objs.size y1 y2->h'.objs.size=s.heap.objs.size+1->(∀(c:Nat) o,(c < I\/I+5<=c)->s.heap.get? c=_s o->h'.get? c=_s o)->Q (.ref s.heap.objs.size) {s with heap:=h' }) :
    B4 (C7 prog w) A (Z0.«zip.__next__» ⟨[.ref (I+4)],[]⟩) (λZ s'=>∃v,Z=.done (.ret v)/\Q v s') E s:=by
  obtain⟨B,D,⟨v1,v2,P⟩,U,T⟩:=hz;show B4 _ _ (yB (.ref (I+4)) 2 >>= _) _ _ _;refine A1 (H9 B rfl (x:=.bool _f) rfl ?_);show B4 _ _ (yB (.ref (I+4)) 3 >>= _) _ _ _;refine A1 (H9 B rfl (x:=.ref (I+2)) rfl ?_);refine A1 (K2 D rfl ?_);show B4 _ _ (N2 (.ref (I+4)) >>= _) _ _ _;refine A1 ?_;unfold N2;refine A1 (H9 B rfl (x:=.none) rfl (A6 ?_));simp only[if_true];refine A1 (X7 ?_);refine A1 (H9 B rfl (x:=.ref (I+3)) rfl ?_);refine A1 (R8 B (by simp) λh₁ t z=>?_);replace t:vX h₁ (I+4) (I+2) (I+3) .ellipsis:=t;refine A1 ?_;simp only[xH,xY,j6,vV];have g0:∀(c:Nat) o,c≠(I+4)->s.heap.get? c=_s o->h₁.get? c=_s o:=λc o j e=>z.extBut _ _ j e;have k0:∀(c:Nat) o,c≠(I+4)->c≠(I+3)->(c < I\/I<=c)->s.heap.get? c=_s o->h₁.get? c=_s o:=λc o j _ _ e=>g0 c o j e;have O:Sw h₁ (I+3) v1 v2:=g0 _ _ (by omega) P;refine A1 (A1 (ug ?_));show B4 _ _ (J5 (.ref I) >>= _) _ _ _;refine A1 (IG (U.at λo e=>k0 _ o (by omega) (by omega) (by omega) e) (Y.at λo e=>k0 _ o (by omega) (by omega) (by omega) e) X λp1 S n=>A6 ?_);have u1:Sw p1 (I+3) v1 v2:=n.extBut _ _ (Gn (by omega)) O;refine A1 (K2 u1 rfl ?_);refine A1 (VX u1 λV N m=>?_);have k1:∀(c:Nat) o,c≠(I+4)->c≠(I+3)->(c < I\/I+1<=c)->s.heap.get? c=_s o->V.get? c=_s o:=λc o j G c3 e=>m.extBut _ _ G (n.extBut _ _ (Gn (by omega)) (k0 c o j G (by omega) e));have H:vX V (I+4) (I+2) (I+3) .ellipsis:=m.extBut _ _ (Gn (by omega)) (n.extBut _ _ (Gn (by omega)) t);have K:Ic V I l1 (i+1) b1:=S.at λo e=>m.extBut _ _ (Gn (by omega)) e;refine A1 (Y6 (A6 ?_));refine A1 (A1 (ug ?_));show B4 _ _ (J5 (.ref (I+1)) >>= _) _ _ _;refine A1 (IG (T.at λo e=>k1 _ o (by omega) (by omega) (by omega) e) (zt.at λo e=>k1 _ o (by omega) (by omega) (by omega) e) W λp2 R g=>A6 ?_);have u2:Sw p2 (I+3) y1 v2:=g.extBut _ _ (Gn (by omega)) N;refine A1 (K2 u2 rfl ?_);refine A1 (gk u2 λa C f=>?_);have k2:∀(c:Nat) o,c≠(I+4)->c≠(I+3)->(c < I\/I+2<=c)->s.heap.get? c=_s o->a.get? c=_s o:=λc o j G c3 e=>f.extBut _ _ G (g.extBut _ _ (Gn (by omega)) (k1 c o j G (by omega) e));have u:vX a (I+4) (I+2) (I+3) .ellipsis:=f.extBut _ _ (Gn (by omega)) (g.extBut _ _ (Gn (by omega)) H);have M:Ic a (I+1) l2 (i+1) b2:=R.at λo e=>f.extBut _ _ (Gn (by omega)) e;have L:Ic a I l1 (i+1) b1:=K.at λo e=>f.extBut _ _ (Gn (by omega)) (g.extBut _ _ (Gn (by omega)) e);refine A1 (Y6 (A6 (A6 ?_)));refine A1 (K2 C rfl ?_);refine A1 (wpAny_newTuple ?_);have hsz:a.objs.size=s.heap.objs.size:=by rw[f.1,g.1,m.1,n.1,z.1]
  have zlt:(I+4) < a.objs.size:=B8 u;show B4 _ _ (W8 (.ref (I+4)) (.ref a.objs.size) >>= _) _ _ _;refine A1 ?_;unfold W8;have z6:vX (a.push {cls:=.type "tuple", data:=.seq #[y1,y2]}) (I+4) (I+2) (I+3) .ellipsis:=A4 _ u;refine A1 (R8 z6 (by simp) λJ r p=>?_);replace r:vX J (I+4) (I+2) (I+3) (P9 a.objs.size):=r;refine R8 r (by simp) λd k q=>?_;replace k:vX d (I+4) (I+2) (I+3) (P9 a.objs.size):=k;have up:∀(c:Nat) o,c≠(I+4)->a.get? c=_s o->d.get? c=_s o:=λc o j e=>q.extBut _ _ j (p.extBut _ _ j (A4 _ e));have y:Sw d a.objs.size y1 y2:=q.extBut _ _ (Gn (by omega)) (p.extBut _ _ (Gn (by omega)) (D3 _ rfl));have F:d.objs.size=a.objs.size+1:=by rw[q.1,p.1,J6]
  rw[hsz]at k y F;refine A6 ⟨_,rfl,?_⟩;show Q (.ref a.objs.size) _;rw[hsz];exact hQ d ⟨k,up _ _ (by omega) (k2 _ _ (by omega) (by omega) (by omega) D),⟨y1,y2,up _ _ (by omega) C⟩,L.at λo e=>up _ o (by omega) e,M.at λo e=>up _ o (by omega) e⟩ y F λc o hc e=>up c o (by omega) (k2 c o (by omega) (by omega) (by omega) e)
theorem VR{Q:Fin->A5->Prop}(N:A.handled=_n)(X:zAf s.heap I l1 l2 b1 b2 i .none)(y:KH s.heap l1 xs1 b1)(W:l1 < I)(S:KH s.heap l2 xs2 b2)(V:l2 < I)(C:xs1[i]?=_n\/xs2[i]?=_n)
    (O:∀h' e,(∀(c:Nat) o,(c < I\/I+5<=c)->s.heap.get? c=_s o->h'.get? c=_s o)->(∃o,h'.get? e=_s o/\o.cls=.type "StopIteration")->E (.ref e) {s with heap:=h' }) :
    B4 (C7 prog w) A (Z0.«zip.__next__» ⟨[.ref (I+4)],[]⟩) Q E s:=by
  obtain⟨t,H,⟨v1,v2,G⟩,v,J⟩:=X;show B4 _ _ (yB (.ref (I+4)) 2 >>= _) _ _ _;refine A1 (H9 t rfl (x:=.bool _f) rfl ?_);show B4 _ _ (yB (.ref (I+4)) 3 >>= _) _ _ _;refine A1 (H9 t rfl (x:=.ref (I+2)) rfl ?_);refine A1 (K2 H rfl ?_);show B4 _ _ (N2 (.ref (I+4)) >>= _) _ _ _;refine A1 ?_;unfold N2;refine A1 (H9 t rfl (x:=.none) rfl (A6 ?_));simp only[if_true];refine A1 (X7 ?_);refine A1 (H9 t rfl (x:=.ref (I+3)) rfl ?_);refine A1 (R8 t (by simp) λh₁ m D=>?_);replace m:vX h₁ (I+4) (I+2) (I+3) .ellipsis:=m;refine A1 ?_;simp only[xH,xY,j6,vV];have P:∀(c:Nat) o,c≠(I+4)->s.heap.get? c=_s o->h₁.get? c=_s o:=λc o z e=>D.extBut _ _ z e;have k0:∀(c:Nat) o,c≠(I+4)->c≠(I+3)->(c < I\/I<=c)->s.heap.get? c=_s o->h₁.get? c=_s o:=λc o z _ _ e=>P c o z e;have F:Sw h₁ (I+3) v1 v2:=P _ _ (by omega) G;have r:vX h₁ (I+4) (I+2) (I+3) .ellipsis:=m;refine A1 (A1 (ug ?_));show B4 _ _ (J5 (.ref I) >>= _) _ _ _;cases hx1:xs1[i]? with
  |none=>
    refine A1 (PZ N (v.at λo e=>k0 _ o (by omega) (by omega) (by omega) e) (y.at λo e=>k0 _ o (by omega) (by omega) (by omega) e) hx1 λn e g K=>?_);obtain⟨oe,a,j⟩:=K;have f:vX n (I+4) (I+2) (I+3) .ellipsis:=g _ _ (Gn (by omega)) r;have q:e≠(I+4):=λx=>by subst x;rw[f]at a;cases a;simp at j
    exact R8 f (by simp) λk _ d=>O k e (λc o hc x=>d.extBut _ _ (Gn (by omega)) (g _ _ (Gn (by omega)) (k0 c o (by omega) (by omega) (by omega) x))) ⟨oe,d.extBut _ _ q a,j⟩
  |some y1=>
    refine A1 (IG (v.at λo e=>k0 _ o (by omega) (by omega) (by omega) e) (y.at λo e=>k0 _ o (by omega) (by omega) (by omega) e) hx1 λp1 U p=>A6 ?_);have L:Sw p1 (I+3) v1 v2:=p.extBut _ _ (Gn (by omega)) F;refine A1 (K2 L rfl ?_);refine A1 (VX L λM T u=>?_);have k1:∀(c:Nat) o,c≠(I+4)->c≠(I+3)->(c < I\/I+1<=c)->s.heap.get? c=_s o->M.get? c=_s o:=λc o z R Y e=>u.extBut _ _ R (p.extBut _ _ (Gn (by omega)) (k0 c o z R (by omega) e));have B:vX M (I+4) (I+2) (I+3) .ellipsis:=u.extBut _ _ (Gn (by omega)) (p.extBut _ _ (Gn (by omega)) r);refine A1 (Y6 (A6 ?_));refine A1 (A1 (ug ?_));show B4 _ _ (J5 (.ref (I+1)) >>= _) _ _ _;cases hx2:xs2[i]? with
    |none=>
      refine A1 (PZ N (J.at λo e=>k1 _ o (by omega) (by omega) (by omega) e) (S.at λo e=>k1 _ o (by omega) (by omega) (by omega) e) hx2 λn e g K=>?_);obtain⟨oe,a,j⟩:=K;have f:vX n (I+4) (I+2) (I+3) .ellipsis:=g _ _ (Gn (by omega)) B;have q:e≠(I+4):=λx=>by subst x;rw[f]at a;cases a;simp at j
      exact R8 f (by simp) λk _ d=>O k e (λc o hc x=>d.extBut _ _ (Gn (by omega)) (g _ _ (Gn (by omega)) (k1 c o (by omega) (by omega) (by omega) x))) ⟨oe,d.extBut _ _ q a,j⟩
    |some y2=>simp[hx1,hx2]at C
theorem HK{y1 y2:_v}{Q:Option _v->A5->Prop}(j:zAf s.heap I l1 l2 b1 b2 i .none)(g:KH s.heap l1 xs1 b1)(d:l1 < I)(k:KH s.heap l2 xs2 b2)(a:l2 < I)(f:xs1[i]?=_s y1)(e:xs2[i]?=_s y2)
    (m:∀h',zAf h' I l1 l2 b1 b2 (i+1) (P9 s.heap.objs.size)->Sw h' s.heap.objs.size y1 y2->h'.objs.size=s.heap.objs.size+1->(∀(c:Nat) o,(c < I\/I+5<=c)->s.heap.get? c=_s o->h'.get? c=_s o)->Q (_s (.ref s.heap.objs.size)) {s with heap:=h' }) :
    B4 (C7 prog w) A (o4 (.ref (I+4))) Q E s:=by
  have hT:s.TypeIs (.ref (I+4)) "zip" := ⟨_,j.z,rfl⟩;unfold o4;exact A1 (vz (N6 (name:=Z6 "__next__") hT F.slot_zip_next
    (N4 F.slot_zip_next hT F.entry_zip_next (Sy j g d k a f e λh' r q p n=>A6 (m h' r q p n)) (F.args_zip_next_1 _))))
theorem Hx{Q:Option _v->A5->Prop}(p:A.handled=_n)(j:zAf s.heap I l1 l2 b1 b2 i .none)(g:KH s.heap l1 xs1 b1)(f:l1 < I)(k:KH s.heap l2 xs2 b2)(d:l2 < I)(a:xs1[i]?=_n\/xs2[i]?=_n)
    (r:∀h',(∀(c:Nat) o,(c < I\/I+5<=c)->s.heap.get? c=_s o->h'.get? c=_s o)->Q _n {s with heap:=h' }) :
    B4 (C7 prog w) A (o4 (.ref (I+4))) Q E s:=by
  have hT:s.TypeIs (.ref (I+4)) "zip" := ⟨_,j.z,rfl⟩;unfold o4;refine A1 (vz (N6 (name:=Z6 "__next__") hT F.slot_zip_next
    (N4 F.slot_zip_next hT F.entry_zip_next (VR p j g f k d a λh' e n q=>?_) (F.args_zip_next_1 _))))
  obtain⟨o,m,hc⟩:=q;refine A1 (b8 (T := "StopIteration") (b:=_t) ⟨o,m,hc⟩ isSubtype_stop ?_);exact A6 (r _ n)
abbrev Kn(h:G2)(l1 l2:Nat)(b1 b2:Bool):G2:=h.push (SG l1 b1)
abbrev RF(h:G2)(l1 l2:Nat)(b1 b2:Bool):G2:=(Kn h l1 l2 b1 b2).push (SG l2 b2)
abbrev RE(h:G2)(l1 l2:Nat)(b1 b2:Bool):G2:=(RF h l1 l2 b1 b2).push {cls:=.type "tuple", data:=.seq #[.ref h.objs.size,.ref (Kn h l1 l2 b1 b2).objs.size]}
abbrev RD(h:G2)(l1 l2:Nat)(b1 b2:Bool):G2:=(RE h l1 l2 b1 b2).push {cls:=.type "tuple", data:=.seq #[.none,.none]}
abbrev Ie(h:G2)(l1 l2:Nat)(b1 b2:Bool):G2:=(RD h l1 l2 b1 b2).push {cls:=.type "zip", data:=.fields #[.none,.bool _f,.bool _f,.ref (RF h l1 l2 b1 b2).objs.size,.ref (RE h l1 l2 b1 b2).objs.size]}
theorem QK(l1 l2:Nat)(b1 b2:Bool)(xs1 xs2:Array _v) :
    yP (Z0.«zip.__new__» ⟨[.type "zip", .ref l1,.ref l2],[]⟩) (λ_ R s=>KH s.heap l1 xs1 b1/\KH s.heap l2 xs2 b2 /\
      R (.ok (.ret (.ref (RD s.heap l1 l2 b1 b2).objs.size))) {s with heap:=Ie s.heap l1 l2 b1 b2}):=
  .of_wp λprog w A R s h=>by
    obtain⟨hp,g,d,j,os⟩:=s;obtain⟨a,k,h⟩:=h;have m:=sub_zip;have f:KH (xW ⟨hp,g,d,j,os⟩) l1 xs1 b1:=a.at λo e=>e;have c:KH (xW ⟨(Kn hp l1 l2 b1 b2),g,d,j,os⟩) l2 xs2 b2:=k.at λo e=>A4 _ e
    wp_walk using Kx f,Kx c
    exact⟨_,rfl,h⟩
theorem Ul{Q:_v->A5->Prop}(n:KH s.heap l1 xs1 b1)(r:KH s.heap l2 xs2 b2)
    (h:∀h',zAf h' s.heap.objs.size l1 l2 b1 b2 0 .none->h'.objs.size=s.heap.objs.size+5->(∀(c:Nat) o,s.heap.get? c=_s o->h'.get? c=_s o)->Q (.ref (s.heap.objs.size+4)) {s with heap:=h' }) :
    B4 (C7 prog w) A (call (.type "zip") [.ref l1,.ref l2]) Q E s:=by
  refine callType_new F.called_zip (by decide) (F.typeCall_zip_2 _ _) (F.newCall_zip_2 _ _) (λobj=>F.args_object_init_3 obj _ _) F.entry_zip_new (QK l1 l2 b1 b2 xs1 xs2) ⟨n,r,?_⟩;have m:(Kn s.heap l1 l2 b1 b2).objs.size=s.heap.objs.size+1:=by exact J6 ..
  have k:(RF s.heap l1 l2 b1 b2).objs.size=s.heap.objs.size+2:=by rw[J6,m]
  have j:(RE s.heap l1 l2 b1 b2).objs.size=s.heap.objs.size+3:=by rw[J6,k]
  have g:(RD s.heap l1 l2 b1 b2).objs.size=s.heap.objs.size+4:=by rw[J6,j]
  have t:(Ie s.heap l1 l2 b1 b2).objs.size=s.heap.objs.size+5:=by rw[J6,g]
  have p:(Ie s.heap l1 l2 b1 b2).get? (RD s.heap l1 l2 b1 b2).objs.size=_s _:=D3 _ rfl;have a:(Ie s.heap l1 l2 b1 b2).get? (RE s.heap l1 l2 b1 b2).objs.size=_s _:=(A4 _ (D3 _ rfl));have d:(Ie s.heap l1 l2 b1 b2).get? (RF s.heap l1 l2 b1 b2).objs.size=_s _:=(A4 _ (A4 _ (D3 _ rfl)));have q:Ic (Ie s.heap l1 l2 b1 b2) s.heap.objs.size l1 0 b1:=Ic.at (Ic.new (h:=s.heap)) λo e=>(A4 _ (A4 _ (A4 _ (A4 _ e))));have f:Ic (Ie s.heap l1 l2 b1 b2) (Kn s.heap l1 l2 b1 b2).objs.size l2 0 b2:=Ic.at (Ic.new (h:=(Kn s.heap l1 l2 b1 b2))) λo e=>(A4 _ (A4 _ (A4 _ e)));show _/\_;rw[k,j,g]at p;rw[j]at a;rw[m,k]at d;rw[m]at f;rw[g];exact⟨⟨_,p,rfl⟩,h _ ⟨p,d,⟨_,_,a⟩,q,f⟩ t λc o x=>(A4 _ (A4 _ (A4 _ (A4 _ (A4 _ x)))))⟩
end
theorem fN{b:Nat}(h:¬b∈([(I+4),(I+2),(I+3),I,(I+1)]:List Nat)):b < I\/I+5<=b:=by simp only[C9,O3,or_false,not_or]at h;omega
theorem pA{b:Nat}(h:b∈([(I+4),(I+2),(I+3),I,(I+1)]:List Nat)):I<=b/\b < I+5:=by simp only[C9,O3,or_false]at h;omega
def Zw(K:W.Frag)(c a:Nat)(b1 b2:Bool):It:=
 ⟨λi H=>∃xs1 xs2 y1 y2,Kk K H c xs1 b1/\xs1[i]?=_s y1/\Kk K H a xs2 b2/\xs2[i]?=_s y2,λi H x H'=>∃p y1 y2,H p=_n/\x=.ref p/\H'=upd H p (.tup [y1,y2])/\(∀xs,Kk K H c xs b1->xs[i]?=_s y1)/\(∀xs,Kk K H a xs b2->xs[i]?=_s y2),λi H=>∃xs1 xs2,Kk K H c xs1 b1/\Kk K H a xs2 b2/\(xs1.length<=i\/xs2.length<=i)⟩
variable{pos:Pos}
theorem TB{P:E8}{w:G7}{K:W.Frag}{J:List Expr}{x1}(I a1 a2:Nat)(b1 b2:Bool)(B:a1 < I)(A:a2 < I):Turn P w K (.Tuple J x1 pos) (Zw K a1 a2 b1 b2) [(I+4),(I+2),(I+3),I,(I+1)] (I+4) (λi h=>zAf h I a1 a2 b1 b2 i .none) where
 mem:=by simp
 obj:=λi h st b p=>by
  obtain⟨z0,S,⟨v1,v2,R⟩,U,T⟩:=st;simp only[C9,O3,or_false]at p;rcases p with rfl|rfl|rfl|rfl|rfl
  exact⟨_,z0,λv z=>by cases z⟩;exact⟨_,S,λv z=>by cases z⟩;exact⟨_,R,λv z=>by cases z⟩;exact U.obj;exact T.obj
 keep:=λi h h' st k=>st.at λc o c1 c2 e=>k c (by show c∈([(I+4),(I+2),(I+3),I,(I+1)]:List Nat);simp only[C9,O3,or_false];omega) o e
 item:=by
  intro X hP hw hK hc i pins s σ H E f hf st hg;subst hP hw hK;obtain⟨O,N,y1,y2,j,D,g,C⟩:=hg;obtain⟨t,n,p1,hl1⟩:=f.sqB j;obtain⟨x,hu1,Y⟩:=n.get D;obtain⟨zF,m,p2,zt⟩:=f.sqB g;obtain⟨u,hu2,V⟩:=m.get C;refine HK st p1 B p2 A (y1:=x) (y2:=u) (by simpa using hu1) (by simpa using hu2) λh1 d t1 z1 k1=>?_;refine⟨_,rfl,wpAny_letOwnedTupleGo_zip (s:={s with heap:=h1}) d.z λh2 e2 y=>?_⟩;have hzl:(I+4) < s.heap.objs.size:=B8 st.z;have hfr:=f.y8.fresh (C4 s.heap.objs.size);have I2:Inv X pins σ (upd H s.heap.objs.size (.tup [y1,y2])) {s with heap:=s.heap.push {cls:=.type "tuple", data:=.seq #[x,u]},toks:=s.toks}:=
   f.laid (λb o q=>A4 _ q) (C4 _) (show An X.prog X.w _ _ _ (.tup [y1,y2])from⟨by show 2<=sizeLine;decide,[x,u],(.cons Y (.cons V .nil)),IB.new _ _⟩)
  have p:∀b∈([(I+4),(I+2),(I+3),I,(I+1)]:List Nat),I<=b/\b < I+5:=λb p=>pA p;have F:∀b∈([(I+4),(I+2),(I+3),I,(I+1)]:List Nat),zA X pins (upd H s.heap.objs.size (.tup [y1,y2])) b:=λb a=>by obtain⟨f0,r⟩:=hf b a;refine⟨?_,r⟩;rw[AC (D6 (B7 (p b a).2 (by omega)))];exact f0
  have I3:Inv X pins σ (upd H s.heap.objs.size (.tup [y1,y2])) {s with heap:=h2,toks:=s.toks}:=by refine Inv.zBC (s:={s with heap:=s.heap.push {cls:=.type "tuple", data:=.seq #[x,u]},toks:=s.toks}) (h':=h2) (t':=s.toks) (ch:=[(I+4),(I+2),(I+3),I,(I+1)]) I2 (λb o a q=>?_) F;have q:(s.heap.push {cls:=.type "tuple", data:=.seq #[x,u]}).get? b=_s o:=q;have hbe:b≠(I+4):=λz=>a (by simp[z]);refine(y.2 b hbe).trans ?_;by_cases G:b=s.heap.objs.size;subst G;rw[D3 _ rfl]at q;rw[<- q];exact t1;rw[wq _ _ _ G]at q;exact k1 b o (fN a) q
  refine⟨.ref s.heap.objs.size,_,I3,rfl,⟨_,y1,y2,hfr,rfl,rfl,λzs Z=>by rw[f.zBD Z j];exact D,λzs Z=>by rw[f.zBD Z g];exact C⟩,?_,λb a=>(F b a).1⟩;exact⟨e2,y.extBut _ _ (Gn (by omega)) d.ti,let ⟨v1,v2,e⟩:=d.to;⟨v1,v2,y.extBut _ _ (Gn (by omega)) e⟩,d.s1.at λo e=>y.extBut _ _ (Gn (by omega)) e,d.s2.at λo e=>y.extBut _ _ (Gn (by omega)) e⟩
 done:=by
  intro X hP hw hK hc i pins s σ H E f hf st hg;subst hP hw hK;obtain⟨O,N,j,g,M⟩:=hg;obtain⟨t,n,p1,hl1⟩:=f.sqB j;have le1:=n.length;obtain⟨zF,m,p2,zt⟩:=f.sqB g;have le2:=m.length;have L:t.toArray[i]?=_n\/zF.toArray[i]?=none:=by
   rcases M with h|h
   exact .inl (by simp;omega);exact .inr (by simp;omega)
  refine Hx (f.ok.hd hc) st p1 B p2 A L λh' k=>⟨rfl,?_⟩;refine Inv.zBC (t':=s.toks) (ch:=[(I+4),(I+2),(I+3),I,(I+1)]) f (λb o a e=>k b o (fN a) e) hf
 self:=λ_ _ _ _ _ st h=>xI st.z h
section
variable{X:Cx}{elts:List Expr}{x1}{zAK:Pos}
abbrev pE(K:W.Frag)(ta:TA):TI:=λσ H R=>ta σ H λvs d=>∃c a b1 b2,vs=[.ref c,.ref a]/\(∃xs,Kk K d c xs b1)/\(∃xs,Kk K d a xs b2)/\R (Zw K c a b1 b2) d
theorem bZ(K:W.Frag){f c:Expr}{ta:TA}{p:Pos}(E:Gl X "zip")(hm:X.mg "zip" = _n)(ha:PA X [f,c] ta)(G:X.K=K:=by rfl)(C:D7 (f::[c]) X.env=(_f,L8 f X.env)::D7 [c] X.env:=by rfl)(k:(P8 pos (D7 [c] X.env)).any (·.1)=false:=by rfl):PI X (.Tuple elts x1 zAK) (.Call (.Name "zip" p) [f,c] [] pos) (pE K ta):=by
 subst G;intro pins s σ H R I h;refine Call_ (Ef I E hm PyProof.Rows.Boot.«zip» (N8 (Ai (ha pos pins s σ H _ I h) λus s1 ⟨vs,J,d,e,B⟩=>?_) C k));obtain⟨o,n,b1,b2,rfl,⟨v,j⟩,⟨u,g⟩,q⟩:=B;obtain⟨t,x,p1,m⟩:=d.sqB j;obtain⟨L,w,p2,r⟩:=d.sqB g;have y:=e;clear e;cases y with
 |cons e w1=>
  cases w1 with
  |cons A w2=>cases w2;cases e;cases A;refine Ul p1 p2 λh' st hsz D=>?_;refine xI (s:={s1 with heap:=h' }) st.z ?_;refine⟨s1.heap.objs.size+4,[(s1.heap.objs.size+4),(s1.heap.objs.size+2),(s1.heap.objs.size+3),s1.heap.objs.size,(s1.heap.objs.size+1)],λi h=>zAf h s1.heap.objs.size o n b1 b2 i .none,Zw X.K o n b1 b2,J,rfl,d.kept (t':=s1.toks) D,TB s1.heap.objs.size o n b1 b2 m r,st,λb F=>?_,q⟩;have a:s1.heap.objs.size<=b:=(pA (I:=s1.heap.objs.size) F).1;exact d.y6 a (d.y8.fresh a)
end
noncomputable def uc(x:Str):It:=⟨λi H=>∃c,x.cps[i]?=_s c,λi H v H'=>H'=H/\∃c,x.cps[i]?=_s c/\v=.str ⟨#[c]⟩,λi H=>x.cps[i]?=_n⟩
section
variable{X:Cx}
abbrev tR(K:W.Frag)(tl:TE):TI:=λσ H R=>tl σ H λx c=>(∃a xs,x=.ref a/\((Dk K c a xs/\R (qf K a) c)\/(FR K c a xs/\R (qx K a) c)))\/∃z,x=.str z/\R (uc z) c
end
theorem Draws.sq{prog:E8}{w:G7}{A:G3}(g:A.handled=_n)(it l:A8)(d:l≠it)(items:Array _v)(b:Bool) :
    Draws prog w A it [it,l] items.size (λi v=>items[i]?=_s v) (λi h=>Ic h it l i b/\KH h l items b) where
  live:=λ_ _ st=>let ⟨o,ho,_⟩:=st.1.obj;⟨o,ho⟩
  frame:=λ_ _ _ st f=>⟨st.1.at λo e=>f it (by simp) o e,st.2.at λo e=>f l (by simp) o e⟩
  item:=λi s Q E hi st j=>by refine IG st.1 st.2 (x:=items[i]) (by simp[hi]) λh' c a=>?_;exact j _ h' s.toks (by simp[hi]) ⟨c,st.2.at λo e=>a.extBut _ _ d e⟩ a
  done:=λs Q E st k=>PZ g st.1 st.2 (by simp) k
def eJ(K:W.Frag)(a:A8)(b:Bool)(n:Nat):It:=
 ⟨λi H=>∃xs x,Kk K H a xs b/\xs.length=n/\xs[i]?=_s x,λi H x H'=>∃p y,H p=_n/\x=.ref p/\H'=upd H p (.tup [.int i,y])/\∀xs,Kk K H a xs b->xs[i]?=_s y,λi H=>∃xs,Kk K H a xs b/\xs.length=n/\n<=i⟩
theorem PP{P:E8}{w:G7}{K:W.Frag}{G:List Expr}{x1}(a e it:A8)(b:Bool)(n:Nat)(m:e≠it)(Y:a≠e)(F:a≠it):Turn P w K (.Tuple G x1 pos) (eJ K a b n) [e,it] e (λi h=>(∃old,IsEnum h e it i old)/\Ic h it a i b/\i<=n) where
 mem:=by simp
 obj:=λi h st c d=>by
  obtain⟨⟨old,g⟩,hi,Bi⟩:=st;rcases C9.mp d with z|z
  subst z;exact⟨_,g,λv z=>by cases z⟩;have z:=D5.mp z;subst z;exact hi.obj
 keep:=λi h h' st k=>by obtain⟨⟨old,g⟩,hi,Bi⟩:=st;exact⟨⟨old,k e (by simp) _ g⟩,hi.at λo q=>k it (by simp) o q,Bi⟩
 item:=by
  intro X hP N Z hc i pins s σ H E I S st O;subst hP N Z;obtain⟨xs,x,L,hxn,J⟩:=O;obtain⟨⟨old,g⟩,hi,Bi⟩:=st;obtain⟨y,rv,p,hz⟩:=I.sqB L;obtain⟨u,hu,ru⟩:=rv.get J;have t:i < y.toArray.size:=by have:=(A7.mp hu).1;simpa using this
  refine wpAny_pyNext_enum_itemD (Draws.sq (A:=X.A.in1) (I.ok.hd hc) it a F y.toArray b) g ⟨hi,p⟩ t m (by simp[m,Y.symm]) λj h1 f M o1 i1 t1 z1 k1=>?_;have ex:j=u:=by have M:y.toArray[i]?=_s j:=M;rw[List.getElem?_toArray,hu]at M;exact(C3 M).symm
  subst ex;refine⟨_,rfl,wpAny_letOwnedTupleGo_enum (s:={s with heap:=h1,toks:=f+1}) o1 λh2 e2 sb=>?_⟩;have T:e < s.heap.objs.size:=B8 g;have t:it < s.heap.objs.size:=by obtain⟨o,q,_⟩:=hi.obj;exact B8 q
  have R:=I.y8.fresh (C4 s.heap.objs.size);have I1:Inv X pins σ (upd H s.heap.objs.size (.tup [.int i,x])) {s with heap:=s.heap.push {cls:=.type "tuple", data:=.seq #[.int i f,j]},toks:=f+1}:=
   I.laid (λb o q=>A4 _ q) (C4 _) (show An X.prog X.w _ _ _ (.tup [.int i,x])from⟨by show 2<=sizeLine;decide,[.int i f,j],.cons ⟨_,rfl⟩ (.cons ru .nil),IB.new _ _⟩)
  have B:∀b∈[e,it],zA X pins (upd H s.heap.objs.size (.tup [.int i,x])) b:=λb d=>by
   obtain⟨f0,r⟩:=S b d;refine⟨?_,r⟩;have U:b≠s.heap.objs.size:=by
    rcases C9.mp d with z|z
    rw[z];exact D6 T;rw[D5.mp z];exact D6 t
   rw[AC U];exact f0
  have I2:Inv X pins σ (upd H s.heap.objs.size (.tup [.int i,x])) {s with heap:=h2,toks:=f+1}:=by refine Inv.zBC (s:={s with heap:=s.heap.push {cls:=.type "tuple", data:=.seq #[.int i f,j]},toks:=f+1}) (h':=h2) (t':=f+1) (ch:=[e,it]) I1 (λb o d q=>?_) B;have q:(s.heap.push {cls:=.type "tuple", data:=.seq #[.int i f,j]}).get? b=_s o:=q;have D:b≠e:=λz=>d (by simp[z]);have V:b≠it:=λz=>d (by simp[z]);refine(sb.2 b D).trans ?_;by_cases C:b=s.heap.objs.size;subst C;rw[D3 _ rfl]at q;rw[<- q];exact t1;refine k1 b o D V ?_;rw[wq _ _ _ C]at q;exact q
  refine⟨.ref s.heap.objs.size,_,I2,rfl,⟨_,x,R,rfl,rfl,λys hy=>by rw[I.zBD hy L];exact J⟩,⟨⟨j,by simpa using e2⟩,?_,?_⟩,λb d=>(B b d).1⟩;exact i1.1.at λo q=>(sb.2 it m.symm).trans q;have:=(A7.mp J).1;omega
 done:=by
  intro X hP N Z hc i pins s σ H E I S st O;subst hP N Z;obtain⟨xs,L,J,hx2⟩:=O;obtain⟨⟨old,g⟩,hi,Bi⟩:=st;obtain⟨y,rv,p,hz⟩:=I.sqB L;obtain⟨f0,f1,f2,f3,f4,f5⟩:=S it (by simp);have hl:=rv.length;have ei:y.toArray.size=i:=by simp;omega
  exact wpAny_pyNext_enum_endD (Draws.sq (A:=X.A.in1) (I.ok.hd hc) it a F y.toArray b) g (by rw[ei];exact⟨hi,p⟩) λh' eb=>⟨rfl,I.turned (t':=s.toks) (λb o d e=>eb b o d e) f0 f1 f3 f4 f5⟩
 self:=λ_ _ _ _ _ st h=>wt st.1.choose_spec h
theorem OM(l:A8)(items:Array _v)(n:Nat)(dct:Option A8)(sl:Array (Option _v)) :
    yP (Z0.«enumerate.__new__» ⟨[.type "enumerate", .ref l],[]⟩) (λ_ R s=>s.heap.get? l=_s {cls:=.type "tuple", dict:=dct,data:=.seq items n,slots:=sl} /\
      R (.ok (.ret (.ref (s.heap.push {cls:=.type "tuple_iterator", data:=.fields #[.ref l,.int 0 0]}).objs.size)))
        {s with heap:=(s.heap.push {cls:=.type "tuple_iterator", data:=.fields #[.ref l,.int 0 0]}).push {cls:=.type "enumerate", data:=.fields #[.none,.bool _f,.ref s.heap.objs.size,P9 0,.none,.none]} }):=
  .of_wp λprog w A R s h=>by
    obtain⟨hp,g,d,j,os⟩:=s;obtain⟨a,h⟩:=h;have f:=sub_enumerate;have e:Heap.IsTuple (xW ⟨hp,g,d,j,os⟩) l items:=⟨_,a,rfl,n,rfl⟩
    wp_walk using O4 a
    refine wpAny_stack_any λst=>A6 ?_;split;rename_i c _ _ _ _ _;cases(c==O1 "enumerate")
    wp_walk using O4 a,R7 e
    exact⟨_,rfl,h⟩
    wp_walk using O4 a,R7 e
    exact⟨_,rfl,h⟩
    wp_walk using O4 a,R7 e
    exact⟨_,rfl,h⟩
section
variable{prog:E8}{w:G7}{A:G3}{E:_v->A5->Prop}{s:A5}
theorem Qm{Q:_v->A5->Prop}(e:KH s.heap l items b)
    (h:∀h',IsEnum h' (s.heap.objs.size+1) s.heap.objs.size 0 .none->Ic h' s.heap.objs.size l 0 b->h'.objs.size=s.heap.objs.size+2 ->
      (∀b o,s.heap.get? b=_s o->h'.get? b=_s o)->Q (.ref (s.heap.objs.size+1)) {s with heap:=h' }) :
    B4 (C7 prog w) A (call (.type "enumerate") [.ref l]) Q E s:=by
  cases b with
  |false=>exact call_enumerate_list e h
  |true=>
    obtain⟨⟨c,dct,g,sl⟩,f,hc,n,hd⟩:=e;replace hc:c=.type "tuple" := hc;replace hd:g=.seq items n:=hd;subst hc hd;refine callType_new F.called_enumerate (by decide) (F.typeCall_enumerate_1 _) (F.newCall_enumerate_1 _) (λobj=>F.args_object_init_2 obj _) F.entry_enumerate_new
      (OM l items n dct sl) ⟨f,?_⟩
    have a:(s.heap.push {cls:=.type "tuple_iterator", data:=.fields #[.ref l,.int 0 0]}).objs.size=s.heap.objs.size+1:=J6 ..;show _/\_;rw[a];have d:IsEnum ((s.heap.push {cls:=.type "tuple_iterator", data:=.fields #[.ref l,.int 0 0]}).push
        {cls:=.type "enumerate", data:=.fields #[.none,.bool _f,.ref s.heap.objs.size,P9 0,.none,.none]}) (s.heap.objs.size+1) s.heap.objs.size 0 .none:=by
      have:=D3 (s.heap.push {cls:=.type "tuple_iterator", data:=.fields #[.ref l,.int 0 0]})
        (o:={cls:=.type "enumerate", data:=.fields #[.none,.bool _f,.ref s.heap.objs.size,P9 0,.none,.none]}) rfl
      rw[a]at this;exact this
    refine⟨⟨_,d,rfl⟩,h _ d ⟨_,A4 _ (D3 _ rfl),rfl,rfl⟩ (by rw[J6,a]) λb o x=>A4 _ (A4 _ x)⟩
end
section
variable{X:Cx}{elts:List Expr}{x1}{zAK:Pos}
abbrev kN(K:W.Frag)(ta:TA):TI:=λσ H R=>ta σ H λvs c=>∃a b xs,vs=[.ref a]/\Kk K c a xs b/\R (eJ K a b xs.length) c
theorem Wj(K:W.Frag){a:Expr}{ta:TA}{p:Pos}(v:Gl X "enumerate")(hm:X.mg "enumerate" = _n)(ha:PA X [a] ta)(x:X.K=K:=by rfl)(o:D7 [a] X.env=[(_f,L8 a X.env)]:=by rfl):PI X (.Tuple elts x1 zAK) (.Call (.Name "enumerate" p) [a] [] pos) (kN K ta):=by
 subst x;intro pins s σ H R I h;refine Call_ (Ef I v hm PyProof.Rows.Boot.«enumerate» (N8 (Ai (ha pos pins s σ H _ I h) λus s1 ⟨vs,y,f,m,n⟩=>?_) o rfl));obtain⟨l,b,xs,e,t,q⟩:=n;subst e;cases m with
 |cons r k=>
  cases k;cases r;obtain⟨A,rv,pl,g⟩:=f.sqB t;refine Qm pl λh' j hI hsz u=>?_;refine wt (s:={s1 with heap:=h' }) j ?_;refine⟨s1.heap.objs.size+1,[s1.heap.objs.size+1,s1.heap.objs.size],_,_,y,rfl,f.kept (t':=s1.toks) u,PP l _ _ b xs.length (Nat.succ_ne_self _) (D6 (t4 g)) (D6 g),⟨⟨_,j⟩,hI,G8 _⟩,λc w=>?_,q⟩;have d:s1.heap.objs.size<=c:=by
   rcases C9.mp w with z|z
   rw[z];exact Y2 _;rw[D5.mp z];exact C4 _
  exact f.y6 d (f.y8.fresh d)
end
section
variable{X:Cx}{p1 p2 zEQ zEP:Pos}{es:List Expr}{e:Expr}{ta:TA}
abbrev Vh(ta:TA):TE:=λσ H Q=>ta σ H λvs a=>∃(i j:Int),(vs=[.int j]/\i=0\/vs=[.int i,.int j])/\(-(2 ^ 62)<=i/\i < 2 ^ 62/\-(2 ^ 62)<=j/\j < 2 ^ 62)/\(j-i).toNat<=1000000/\∀l,a l=_n->Q (.ref l) (upd a l (.lst ((B6 (j-i).toNat).map λk=>.int (i+(k:Nat)))))
end
end L2
namespace R
open PySem L2
noncomputable def items:Dv->Option (List Dv)
 |.tup ds=>_s ds
 |.lst ds=>_s ds
 |.scr ns=>_s (ns.map .int)
 |_=>_n
def SW(f:Ev Dv):Ev (List Dv):=λR m k=>f R m λd m'=>(items d).bind λds=>k ds m'
section
variable{K:W.Frag}{g:G}{H:Hp}
theorem AK{o:Nat}{i:Int}{v:V}{P:Fp}(h:Rep K g H o (.int i) v P):v=.int i:=by unfold Rep at h;exact h.1
theorem Bh{o:Nat}{i:Int}:Rep K g H o (.int i) (.int i) yv:=by unfold Rep;exact⟨rfl,λ_ z=>z⟩
theorem aF{a:A8}{ds:List Dv}(h:Rep K g H 0 (.lst ds) (.ref a) yv):Yl K (qf K a) ds g H:=by intro f c st;have h2:=st.rep h;unfold Rep at h2;obtain⟨b,vs,P',e,h1,h2,_⟩:=h2;cases e;have sq:Dk K c a vs:=.inl (.inl h1.1);refine⟨λi d e=>?_,λi hi=>⟨vs,sq,by rw[<- h2.len];exact hi⟩⟩;obtain⟨v,P,ev,rv,_⟩:=h2.get e;refine⟨⟨vs,v,sq,ev⟩,λx j y=>?_⟩;obtain⟨rfl,y⟩:=y;have:=y vs sq;rw[ev]at this;cases this;exact Ap.old rv.z
theorem gN{a:A8}{ds:List Dv}(h:Rep K g H 0 (.tup ds) (.ref a) yv):Yl K (qx K a) ds g H:=by intro f c st;have h2:=st.rep h;unfold Rep at h2;obtain⟨b,vs,e,h1,h2⟩:=h2;cases e;have sq:FR K c a vs:=.inl (.inl h1);refine⟨λi d e=>?_,λi hi=>⟨vs,sq,by rw[<- h2.len];exact hi⟩⟩;obtain⟨v,P,ev,rv,_⟩:=h2.get e;refine⟨⟨vs,v,sq,ev⟩,λx j y=>?_⟩;obtain⟨rfl,y⟩:=y;have:=y vs sq;rw[ev]at this;cases this;exact Ap.old rv.z
theorem gO{a:A8}{ns:List Int}(h:Rep K g H 0 (.scr ns) (.ref a) yv):Yl K (qf K a) (ns.map .int) g H:=by
 intro c j st;have h2:=st.rep h;unfold Rep at h2;obtain⟨⟨b,e,h1⟩,_⟩:=h2;cases e;have sq:=h1.sq;refine⟨λi d e=>?_,λi hi=>⟨_,sq,by rw[B9]at hi ⊢;exact hi⟩⟩;rw[C8]at e;cases q:ns[i]? with|none=>rw[q]at e;cases e|some k=>rw[q]at e;cases e;refine⟨⟨_,.int k,sq,by rw[C8,q];rfl⟩,λx f y=>?_⟩;obtain⟨rfl,y⟩:=y;have:=y _ sq;rw[C8,q]at this;cases this;exact Ap.old Bh
theorem NP{lo:Int}{n:Nat}:Yl K (lV lo n) ((B6 n).map λk=>.int (lo+(k:Nat))) g H:=by intro a c st;refine⟨λi d e=>?_,λi hi=>by rw[B9,Z8]at hi;exact hi⟩;obtain⟨hi,rfl⟩:=FA e;refine⟨hi,λx b y=>?_⟩;obtain⟨rfl,rfl⟩:=y;exact Ap.old Bh
end
section
variable{X:Cx}{tg e a b:Expr}{es:List Expr}{f:Ev Dv}{p pos:Pos}{Γ Γ':Gm}{js:List Nat}{as:List Ar}
theorem pC(h:PE X e (tE X.K Γ 0 Γ' js f)):PI X tg e (tI X.K Γ Γ' js (SW f)):=PI.imp (jE h) λσ H Q q=>by
 obtain⟨g,m,P,r,R,k,res,e,q⟩:=q;refine⟨g,m,P,r,R,_,res,e,λd m' g' P' Pv v H' t o s rv j n=>?_⟩;obtain⟨ds,i,l⟩:=zK t;have s':Step g P H g' P' H':=s.less λ_ z=>.inl z;have c:=rv.z;cases d with|tup es=>cases i;have h0:=c;unfold Rep at h0;obtain⟨a,vs,rfl,h1,h2⟩:=h0;exact⟨a,vs,rfl,.inr ⟨.inl (.inl h1),q _ m' g' P' H' _ l o s' j (gN c)⟩⟩|lst es=>cases i;have h0:=c;unfold Rep at h0;obtain⟨a,vs,P1,rfl,h1,h2,_⟩:=h0;exact⟨a,vs,rfl,.inl ⟨.inl (.inl h1.1),q _ m' g' P' H' _ l o s' j (aF c)⟩⟩|scr ns=>cases i;have h0:=c;unfold Rep at h0;obtain⟨⟨a,rfl,h1⟩,_⟩:=h0;exact⟨a,_,rfl,.inl ⟨h1.sq,q _ m' g' P' H' _ l o s' j (gO c)⟩⟩|_=>cases i
def VH(K:W.Frag)(p:List Dv->Option (List Dv))(r:List V->Hp->(It->Hp->Prop)->Prop):Prop:=∀g H ds vs c Q,Zd g H->AA K g H 0 ds vs yv->p ds=_s c->(∀J H',ID H H'->Yl K J c g H'->Q J H')->r vs H Q
def fg(p:List Dv->Option (List Dv))(d:Ev (List Dv)):Ev (List Dv):=λR m k=>d R m λds m'=>(p ds).bind λc=>k c m'
abbrev fV(r:List V->Hp->(It->Hp->Prop)->Prop)(ta:TA):TI:=λσ H Q=>ta σ H λvs c=>r vs c Q
theorem aX{K:W.Frag}{l:List Dv->Option (List Dv)}{r:List V->Hp->(It->Hp->Prop)->Prop}(hp:VH K l r)(c:AD Γ as Γ' js)(u:PJ as=_t){σ:St}{H:Hp}{Q:It->Hp->Prop}(h:tI K Γ Γ' js (fg l (AQ as)) σ H Q):fV r (BO K as) σ H Q:=by obtain⟨g,m,P,o,R',k,res,e,q⟩:=h;refine AM as o c e λds m' g' P' vs B t y s x j=>?_;refine yt t λd w v=>?_;exact hp g' B ds vs d Q j.zd (x.zBE u) w λJ A i n=>q d m' g' P' A J v y ((s.trans (Step.same i)).less λ_ z=>z) (j.same i) n
noncomputable def small(i:Int):Bool:=-1000000000<=i&&i<=1000000000
theorem Iw{i:Int}(h:small i=_t):-1000000000<=i/\i<=1000000000:=by unfold small at h;rw[A2,decide_eq_true_eq,decide_eq_true_eq]at h;exact h
def CZ(ds:List Dv):Option (List Dv):=match ds with
 |[.int n]=>bif small n then _s ((B6 n.toNat).map λk=>.int (0+(k:Nat)))else _n
 |_=>_n
def KY(ds:List Dv):Option (List Dv):=match ds with
 |[.int i,.int n]=>bif small i&&small n then _s ((B6 (n-i).toNat).map λk=>.int (i+(k:Nat)))else _n
 |_=>_n
def nT:List V->Hp->(It->Hp->Prop)->Prop:=λvs c R=>∃j:Int,vs=[.int j]/\-(2 ^ 62)<=j/\j < 2 ^ 62/\R (lV 0 j.toNat) c
def nS:List V->Hp->(It->Hp->Prop)->Prop:=λvs c R=>∃i j:Int,vs=[.int i,.int j]/\(-(2 ^ 62)<=i/\i < 2 ^ 62/\-(2 ^ 62)<=j/\j < 2 ^ 62)/\R (lV i (j-i).toNat) c
theorem Vu{K:W.Frag}:VH K CZ nT:=λg H ds vs d Q zd ra e q=>by
 unfold CZ at e;split at e;rename_i n;cases c:small n with|false=>rw[c]at e;cases e|true=>rw[c]at e;cases e;have hn:=Iw c;unfold AA at ra;obtain⟨v,h,_,_,rfl,h1,h2,_⟩:=ra;unfold AA at h2;obtain⟨rfl,_⟩:=h2;rw[AK h1];exact⟨n,rfl,by omega,by omega,q _ H (λ_ _ z=>z) NP⟩
 cases e
theorem Vt{K:W.Frag}:VH K KY nS:=λg H ds vs h Q zd ra e q=>by
 unfold KY at e;split at e;rename_i i n;cases c:small i&&small n with|false=>rw[c]at e;cases e|true=>rw[c]at e;cases e;rw[A2]at c;have hi:=Iw c.1;have hn:=Iw c.2;unfold AA at ra;obtain⟨v,j,_,_,rfl,h1,h2,_⟩:=ra;unfold AA at h2;obtain⟨v2,d,_,_,rfl,h3,h4,_⟩:=h2;unfold AA at h4;obtain⟨rfl,_⟩:=h4;rw[AK h1,AK h3];exact⟨i,n,rfl,by omega,q _ H (λ_ _ z=>z) NP⟩
 cases e
end
structure zN:Type 1 where
 ps:List Str
 io:List Nat
 ro:Nat
 nb:Bool
 fn:List Dv->Option (Dv×List Dv)
 cps:(R:Type)->List Dv->(Dv->List Dv->Option R)->Option R
 eq:∀R ds k,cps R ds k=(fn ds).bind λp=>k p.1 p.2
 cl:Option Str:=_n
def Kb(n:Nat)(io:List Nat):Gm:=(B6 n).map λi=>_s (if io.contains i then 1 else 0)
def Bk(K:W.Frag)(g:G)(H:Hp)(io:List Nat)(bs:List Dv)(vs:List V)(P:Fp):Prop:=Rel K g H (io.map λ_=>_s 1) bs (io.map λi=>(vs[i]?).map id) P
inductive spF (K:W.Frag) (s:zN) (vs:List V) (H:Hp) (Q:VK) (_:XK):Prop
 |mk (g:G) (ds:M) (P:Fp) (a:Rel K g H (Kb s.ps.length s.io) ds (vs.map _s) P) (d:Dv) (bs:List Dv) (b:s.fn ds=_s (d,bs)) (c:∀g' H' v Pv Pb,Step g P H g' (λa=>Pv a\/Pb a) H'->Rep K g' H' s.ro d v Pv->Bk K g' H' s.io bs vs Pb->Bu Pv Pb->Q v H')
def Np(n:Nat)(io:List Nat):Gm:=(B6 n).map λi=>if io.contains i then _s 1 else _n
def Kg(n p:Nat)(io:List Nat):Gm:=Kb p io++C5 (n-p) _n
section
variable{K:W.Frag}{g:G}{H:Hp}
theorem Rel.pad{Γ:Gm}{m:M}{vs:List V}{P:Fp}(h:Rel K g H Γ m (vs.map _s) P)(n:Nat):Rel K g H (Γ++C5 n _n) (m++C5 n .yw) (vs.map _s++C5 n _n) P:=by
 obtain⟨zd,F,h1,h4⟩:=h;have old:∀{i o:Nat},(Γ++C5 n _n)[i]?=_s (_s o)->i < Γ.length/\Γ[i]?=_s (_s o):=fun{i o} e=>by by_cases z:i < Γ.length;rw[F9 z]at e;exact⟨z,e⟩;rw[V6 (by omega),ur]at e;split at e<;>cases e
 refine⟨zd,F,⟨by simp[h1.l1],by have:=h1.l2;simp at this ⊢;omega,λi o e=>?_,λi e=>?_,h1.dj⟩,h4⟩;obtain⟨hi,e⟩:=old e;obtain⟨d,v,b,a,r⟩:=h1.rep i o e;exact⟨d,v,by rw[F9 (by rw[h1.l1];exact hi)];exact b,by rw[F9 (by rw[h1.l2];exact hi)];exact a,r⟩;refine h1.out i λo z=>e o ?_;rw[F9 (A7.mp z).1];exact z
theorem Rel.pick{Γ:Gm}{m:M}{σ:St}{P:Fp}{io:List Nat}(h:Rel K g H Γ m σ P)(nd:io.Nodup)(u:∀i∈io,Γ[i]?=_s (_s 1)):∃P',Rel K g H (io.map λ_=>_s 1) (io.map m.at) (io.map λi=>(σ[i]?).join) P'/\∀a,P' a->P a:=by
 obtain⟨zd,F,h1,h4⟩:=h;refine⟨λa=>∃j i,io[j]?=_s i/\F i a,⟨zd,λj a=>∃i,io[j]?=_s i/\F i a,⟨by simp,by simp,λj o e=>?_,λj e a ⟨i,w,_⟩=>?_,λj k n a ⟨i,f,t⟩ ⟨b,c,s⟩=>?_⟩,λ_=>d9⟩,λa ⟨j,i,_,q⟩=>(h4 a).mpr ⟨i,q⟩⟩;rw[C8]at e;cases ej:io[j]? with
 |none=>rw[ej]at e;cases e
 |some i=>rw[ej]at e;cases e;obtain⟨d,v,f,c,r⟩:=h1.rep i 1 (u i (K5 ej));have eq:(λa=>∃b,_s i=_s b/\F b a)=F i:=funext λa=>propext ⟨fun⟨b,z,q⟩=>by cases z;exact q,λq=>⟨i,rfl,q⟩⟩;exact⟨d,v,by rw[C8,ej,G0,Hu f],by rw[C8,ej,G0,c];rfl,by show Rep K g H 1 d v λa=>∃b,_s i=_s b/\F b a;rw[eq];exact r⟩
 refine e 1 ?_;rw[C8,w];rfl;by_cases z:i=b;subst z;refine n ?_;have p:=(A7.mp f);have l:=(A7.mp c);exact(uo (h₀:=p.1) (h₁:=l.1) nd).mp (p.2.trans l.2.symm);exact h1.dj i b z a t s
end
theorem fY{P:E8}{w:G7}{K:W.Frag}{mg:Str->Option _v}{base:G2}{x qual:Str}{st:G5}{f:A8}{fd:N1}{N:List Str}{k:Nat}{s:zN}(Fn:Fun K x qual st f fd)(S:zp N s.ps (AE st))(nd:s.io.Nodup)(F:∀i∈s.io,i < s.ps.length)(hn:s.ps.length<=N.length)
    {body:Es} {Γn:Option Gm} {js:List Nat} (L:IM (_s (Np N.length s.io)) Γn=_t)
    (hb:∀(zV:_v)(A:G3)(outer:List Env)(s':A5)(H:Hp)(E:XK),y9 k (A.deeper (W9 qual (AE st) s'.heap.objs.size f zV))->Cu (Dh Gq P w K mg base N qual (AE st) f zV A outer s' H E).zo (AZ st) (tS K ⟨s.io,Np N.length s.io,s.ro⟩ _n (Kg N.length s.ps.length s.io) Γn js body))
    (t:∀ds d bs,ds.length=s.ps.length->s.fn ds=_s (d,bs)->∃(R:Type)(k:Kt R)(r:R),body R (ds++C5 (N.length-s.ps.length) .yw) k=_s r/\(∀m,k.nx m=_s r->d=.yw/\bs=s.io.map m.at)/\(∀d' m,k.rt d' m=_s r->d=d'/\bs=s.io.map m.at)):zI P w K mg base Gq (k+1) f fd s.ps (spF K s):=by
  have J:∀n io,(Kb n io).length=n:=λn io=>by unfold Kb;simp
  refine Fn.ok S (λvs H Q E h=>?_) λzV A outer s' H vs Q E Y h=>⟨_,hb zV A outer s' H E Y,?_⟩;obtain⟨g,ds,o,r,_⟩:=h;have:=r.len.2;rw[J]at this;simpa using this
  · obtain⟨g,ds,o,r,d,bs,e,q⟩:=h;have l1:=r.len.1;have l2:=r.len.2;rw[J]at l1 l2;rw[B9]at l2;have U:Rel K g H (Kg N.length s.ps.length s.io) (ds++C5 (N.length-s.ps.length) .yw) (L2.start N vs) o:=by unfold L2.start Kg;rw[l2];exact r.pad _
    have X:∀{σ':St},Io s.io (L2.start N vs) σ'->∀i∈s.io,(σ'[i]?).join=vs[i]?:=fun{σ'} hi i hm=>by
      rw[hi i hm];unfold L2.start;have Z:i < vs.length:=by rw[l2];exact F i hm
      rw[F9 (by simpa using Z),C8];cases vs[i]?<;>rfl
    have O:∀i∈s.io,(Np N.length s.io)[i]?=_s (_s 1):=λi hi=>by unfold Np;rw[C8,M7 (by have:=F i hi;omega),G0,if_pos (C6.mpr hi)]
    obtain⟨RT,kt,rt,C,y,u⟩:=t ds d bs l1 e;have l:∀{d':Dv}{m':M}{g':G}{P' Pv:Fp}{σ':St}{v:V}{H':Hp},d=d'/\bs=s.io.map m'.at->Step g o H g' (λa=>P' a\/Pv a) H'->Io s.io (L2.start N vs) σ'->Rep K g' H' s.ro d' v Pv->Rel K g' H' (Np N.length s.io) m' σ' P'->Bu P' Pv->Q v H':=fun{d' m' g' P' Pv σ' v H'} j st io rv c n=>by
      obtain⟨rfl,rfl⟩:=j;obtain⟨Pb,B,I⟩:=c.pick nd O;refine q g' H' v Pv Pb (st.less λa z=>z.elim .inr λz=>.inl (I a z)) rv ?_ λa z w=>n a (I a w) z;have e:(s.io.map λi=>(σ'[i]?).join)=s.io.map λi=>(vs[i]?).map id:=K1 λi hi=>by rw[X io i hi];cases vs[i]?<;>rfl
      unfold Bk;rw[<- e];exact B
    refine⟨g,_,o,U,RT,kt,rt,C,⟨λΓ' m' g' P' σ' H' D j ag b p c=>?_,λd' m' g' P' Pv σ' v H' j ag b p rv c n=>l (u d' m' j) b p rv c n,(λ_ _ _ _ _ _ z=>by cases z),λ_ _ _ _ _ _ z=>by cases z⟩⟩;subst D;obtain⟨g2,P2,s2,T⟩:=c.weaken (by unfold IM at L;exact L);exact l (Pv:=yv) (v:=.yw) (y m' j) ((b.trans s2).less λ_ z=>z.elim id D2) p (by unfold Rep;exact⟨rfl,λ_ z=>z⟩) T λ_ _ z=>z
noncomputable def Dr(as:List Ar)(i:Nat):Option Nat:=match as[i]? with|some (.rf j)=>_s j|_=>_n
def slots(as:List Ar)(io:List Nat):List Nat:=io.map λi=>(Dr as i).getD 0
noncomputable def QG:Ar->Bool
 |.fd _ _=>_f
 |_=>_t
def zH(as:List Ar)(io:List Nat):Bool:=as.all QG&&(B6 as.length).all λi=>((Dr as i).isSome==io.contains i)&&(B6 as.length).all λj=>i==j||(Dr as i).isNone||(Dr as i != Dr as j)
noncomputable def JP:List Nat->List Dv->M->M
 |s::sl,b::bs,m=>JP sl bs (m.set s b)
 |_,_,m=>m
def Mq(s:zN)(as:List Ar):Ev Dv:=λR m k=>AQ as R m λds a=>s.cps R ds λd bs=>k d (JP (slots as s.io) bs a)
theorem JO:∀(sl:List Nat)(bs:List Dv)(m:M),(JP sl bs m).length=m.length
 |[],_,_=>rfl
 |_::_,[],_=>rfl
 |s::sl,b::bs,m=>by unfold JP;rw[JO,D8]
theorem GO:∀(sl:List Nat)(bs:List Dv)(m:M)(j:Nat),j∉sl->(JP sl bs m)[j]?=m[j]?
 |[],_,_,_,_=>rfl
 |_::_,[],_,_,_=>rfl
 |s::sl,b::bs,m,j,h=>by unfold JP;rw[GO sl bs _ j λz=>h (B1 _ z),D9 λz=>h (by rw[z];exact B2)]
theorem Ro:∀(sl:List Nat)(bs:List Dv)(m:M)(k j:Nat)(b:Dv),sl.Nodup->sl[k]?=_s j->bs[k]?=_s b->j < m.length->(JP sl bs m)[j]?=_s b
 |[],_,_,k,_,_,_,h,_,_=>by simp at h
 |_::_,[],_,k,_,_,_,_,h,_=>by simp at h
 |s::sl,c::bs,m,k,j,b,nd,h1,h2,a=>by
  unfold JP;rw[X4]at nd;cases k with|zero=>simp at h1 h2;subst h1 h2;rw[GO sl bs _ s nd.1,E7 a]|succ k=>exact Ro sl bs _ k j b nd.2 (by simpa using h1) (by simpa using h2) (by rw[D8];exact a)
theorem WW(sl:List Nat)(bs:List Dv)(m:M):BU sl m (JP sl bs m):=⟨JO ..,λi h=>by unfold M.at;rw[E5,E5,GO sl bs m i h]⟩
section
variable{K:W.Frag}{g:G}{H:Hp}{σ:St}{Γ Γ':Gm}{js:List Nat}{m:M}{P:Fp}{as:List Ar}
theorem BD.len:∀{as:List Ar}{ds:List Dv}{vs:List V},BD K g H Γ m σ as ds vs->ds.length=as.length/\vs.length=as.length
 |[],ds,vs,h=>by unfold BD at h;obtain⟨rfl,rfl⟩:=h;exact⟨rfl,rfl⟩
 |.ev _ _ _ _::as,ds,vs,h=>by unfold BD at h;obtain⟨d,v,a,b,rfl,rfl,_,h2⟩:=h;simp[h2.len.1,h2.len.2]
 |.rf i::as,ds,vs,h=>by unfold BD at h;obtain⟨v,a,b,rfl,rfl,_,_,h3⟩:=h;simp[h3.len.1,h3.len.2]
 |.fd i _::as,ds,vs,h=>by unfold BD at h;obtain⟨d,v,a,b,rfl,rfl,_,_,h3⟩:=h;simp[h3.len.1,h3.len.2]
theorem BD.get:∀{as:List Ar}{ds:List Dv}{vs:List V}{i:Nat},as.all QG=_t->BD K g H Γ m σ as ds vs->i < as.length->∃d v,ds[i]?=_s d/\vs[i]?=_s v/\((∃j,Dr as i=_s j/\d=m.at j/\σ[j]?=_s (_s v))\/(Dr as i=_n/\Rep K g H 0 d v yv))
 |[],_,_,i,_,_,h=>by simp at h
 |.fd _ _::as,ds,vs,i,a,h,hi=>by simp[QG]at a
 |.ev _ _ _ f::as,ds,vs,i,a,h,hi=>by
  unfold BD at h;obtain⟨d,v,e,k,rfl,rfl,h1,h2⟩:=h;cases i with|zero=>exact⟨d,v,rfl,rfl,.inr ⟨rfl,h1⟩⟩|succ i=>obtain⟨d,v,c,b,z⟩:=h2.get (i:=i) (by simpa[QG]using a) (by simpa using hi);exact⟨d,v,by simpa using c,by simpa using b,z⟩
 |.rf j::as,ds,vs,i,a,h,hi=>by
  unfold BD at h;obtain⟨v,e,k,rfl,rfl,h1,_,h3⟩:=h;cases i with|zero=>exact⟨_,v,rfl,rfl,.inl ⟨j,rfl,rfl,h1⟩⟩|succ i=>obtain⟨d,v,c,b,z⟩:=h3.get (i:=i) (by simpa[QG]using a) (by simpa using hi);exact⟨d,v,by simpa using c,by simpa using b,z⟩
theorem Dq{i j:Nat}(h:Dr as i=_s j):i < as.length:=by
 unfold Dr at h;cases e:as[i]? with|none=>rw[e]at h;cases h|some a=>exact(A7.mp e).1
theorem Vz{io:List Nat}(h:zH as io=_t):(∀i,i < as.length->((Dr as i).isSome=_t↔i∈io))/\∀i a j,Dr as i=_s j->Dr as a=_s j->i=a:=by unfold zH at h;rw[A2]at h;replace h:=h.2;rw[E4]at h;refine⟨λi hi=>?_,λi a j e b=>?_⟩;have:=h i (I0.mpr hi);rw[A2,beq_iff_eq]at this;rw[this.1,C6];have:=h i (I0.mpr (Dq e));rw[A2,E4]at this;have:=this.2 a (I0.mpr (Dq b));rw[e,b]at this;simp at this;exact this
theorem Uw{s:zN}{D:G}{L:Hp}{B:M}{P1:Fp}{ds:List Dv}{vs:List V}{d:Dv}{bs:List Dv}(hs:zH as s.io=_t)(hn:as.length=s.ps.length)(nd:s.io.Nodup)(zY:∀i∈s.io,i < s.ps.length)(hl:∀i∈slots as s.io,Γ'[i]?=_s (_s 1)){Q:VK}
    (r1:Rel K D L Γ' B σ P1) (ar:BD K D L Γ' B σ as ds vs) (e1:s.fn ds=_s (d,bs))
    (q:∀O P2 Pv v J,Step D P1 L O (λa=>P2 a\/Pv a) J->Rep K O J s.ro d v Pv->Rel K O J Γ' (JP (slots as s.io) bs B) σ P2->Bu P2 Pv->Q v J):spF K s vs L Q E0:=by
  obtain⟨Z,Y⟩:=Vz hs;have nf:as.all QG=true:=by unfold zH at hs;rw[A2]at hs;exact hs.1
  have r1':=r1;obtain⟨zd,F,h1,h4⟩:=r1'
  -- the slots,one by one
  have sl:∀{i j:Nat},Dr as i=_s j->i∈s.io/\j∈slots as s.io:=fun{i j} e=>by have hi:=(Z i (Dq e)).mp (by rw[e];rfl);exact⟨hi,G6.mpr ⟨i,hi,by rw[e];rfl⟩⟩
  have t:∀{i:Nat},i∈s.io->∃j,Dr as i=_s j:=fun{i} hi=>O8.mp ((Z i (by rw[hn];exact zY i hi)).mpr hi);have X:(slots as s.io).Nodup:=by unfold slots;rw[R9,t5];refine(R9.mp nd).imp_of_mem fun{a b} ha hb n z=>?_;obtain⟨ja,ea⟩:=t ha;obtain⟨jb,eb⟩:=t hb;rw[ea,eb]at z;simp only[ux]at z;subst z;exact n (Y a b ja ea eb)
  let U:Nat->Fp:=λi a=>∃j,Dr as i=_s j/\F j a
  have al:=ar.len;have rA:Rel K D L (Kb s.ps.length s.io) ds (vs.map _s) λa=>∃i,U i a:=by
    refine⟨zd,U,⟨by unfold Kb;simp;rw[al.1,hn],by unfold Kb;simp;rw[al.2,hn],λi o S=>?_,λi S a ⟨j,c,_⟩=>?_,λi i' n a ⟨j,c,z⟩ ⟨N,E,z'⟩=>?_⟩,λ_=>d9⟩;obtain⟨hi,eo⟩:=FA S;obtain⟨d',v,T,I,z⟩:=ar.get (i:=i) nf (by rw[hn];exact hi);refine⟨d',v,T,by rw[C8,I];rfl,?_⟩;rcases z with⟨j,c,rfl,hv⟩|⟨c,z⟩
    have:o=1:=by have:=C3 eo;rw[if_pos (C6.mpr (sl c).1)]at this;exact this
    subst this;obtain⟨d3,v3,e3,e4,r3⟩:=h1.rep j 1 (hl j (sl c).2);rw[hv]at e4;cases e4;have eq:U i=F j:=funext λa=>propext ⟨fun⟨N,z,q⟩=>by rw[c]at z;cases z;exact q,λq=>⟨j,c,q⟩⟩;rw[Hu e3,eq];exact r3;have:o=0:=by have:=C3 eo;rw[if_neg λw=>?_]at this;exact this;obtain⟨j,w⟩:=t (C6.mp w);rw[c]at w;cases w
    subst this;have eq:U i=yv:=DA λa ⟨j,w,_⟩=>by rw[c]at w;cases w
    rw[eq];exact z;refine S (if s.io.contains i then 1 else 0) ?_;unfold Kb;rw[C8,M7 (by rw[<- hn];exact Dq c)];rfl;by_cases w:j=N;subst w;exact n (Y i i' j c E);exact h1.dj j N w a z z'
  let Fr:Nat->Fp:=λj a=>j∉slots as s.io/\F j a
  have rr:Rel K D L (PK (slots as s.io) Γ') B σ λa=>∃j,Fr j a:=by refine⟨zd,Fr,⟨by unfold PK;simp;exact h1.l1,by unfold PK;simp;exact h1.l2,λj o c=>?_,λj c a ⟨n,z⟩=>?_,λi j n a q z=>h1.dj i j n a q.2 z.2⟩,λ_=>d9⟩;obtain⟨nj,c⟩:=ED c;obtain⟨d',v,T,I,z⟩:=h1.rep j o c;have eq:Fr j=F j:=funext λa=>propext ⟨λw=>w.2,λw=>⟨nj,w⟩⟩;exact⟨d',v,T,I,by rw[eq];exact z⟩;refine h1.out j (λo w=>c o ?_) a z;unfold PK;have r:=(A7.mp w).1;rw[C8,M7 r,G0,if_neg (λq=>n (C6.mp q)),E5,w];rfl
  have dA:Bu (λa=>∃j,Fr j a) λa=>∃i,U i a:=λa ⟨j,nj,z⟩ ⟨i,N,c,z'⟩=>by by_cases w:j=N;subst w;exact nj (sl c).2;exact h1.dj j N w a z z'
  have okA:zA D L λa=>∃i,U i a:=rA.y6;refine⟨D,ds,_,rA,d,bs,e1,λO J v Pv Pb s2 rv hb n=>?_⟩;have rr2:=rr.held s2 okA dA;have dB:Bu (λa=>∃j,Fr j a) λa=>Pv a\/Pb a:=s2.out rr.y6 dA;obtain⟨zd2,Fq,q1,q4⟩:=rr2;obtain⟨zb,Fb,b1,b4⟩:=hb;have lb:bs.length=s.io.length:=by have:=b1.l1;simpa using this
  have fq:∀{a:A8},(∃j,Fr j a)↔∃j,Fq j a:=fun{a}=>q4 a
  let Fz:Nat->Fp:=λj a=>(∃k,(slots as s.io)[k]?=_s j/\Fb k a)\/Fq j a
  have nq:∀j∈slots as s.io,∀a,¬Fq j a:=λj r=>q1.out j λo w=>(ED w).1 r;have rz:Rel K O J Γ' (JP (slots as s.io) bs B) σ λa=>∃j,Fz j a:=by
    refine⟨zd2,Fz,⟨by rw[JO];exact h1.l1,h1.l2,λj o c=>?_,λj c a z=>?_,λi j n' a z w=>?_⟩,λ_=>d9⟩;have hjl:j < B.length:=by rw[h1.l1];exact(A7.mp c).1
    by_cases r:j∈slots as s.io;obtain⟨h,l⟩:=vY r;have x:h < s.io.length:=by have:=(A7.mp l).1;unfold slots at this;simpa using this
    rw[hl j r]at c;cases c;obtain⟨b,u,c1,c2,c3⟩:=b1.rep h 1 (by rw[C8,A3 x];rfl);have S:(slots as s.io)[h]?=_s ((Dr as s.io[h]).getD 0):=by unfold slots;rw[C8,A3 x];rfl
    obtain⟨jj,A⟩:=t (W0 x);rw[l,A]at S;have zEu:j=jj:=C3 S;subst zEu;obtain⟨d3,v3,T,I,z3⟩:=ar.get (i:=s.io[h]) nf (Dq A);rw[C8,A3 x,G0,I]at c2;have eu:u=v3:=by simpa using c2.symm
    subst eu;have hv:σ[j]?=_s (_s u):=by
      rcases z3 with⟨j2,p,_,z3⟩|⟨p,_⟩
      rw[A]at p;cases p;exact z3;rw[A]at p;cases p
    have eq:Fz j=Fb h:=funext λa=>propext ⟨λw=>w.elim (fun⟨C,h',w⟩=>by have y:=A7.mp l;have f:=A7.mp h';have:C=h:=(uo (h₀:=f.1) (h₁:=y.1) X).mp (f.2.trans y.2.symm);exact this▸w) λw=>(nq j r a w).elim,λw=>.inl ⟨h,l,w⟩⟩
    exact⟨b,u,Ro _ bs B h j b X l c1 hjl,hv,by rw[eq];exact c3⟩;have E:(PK (slots as s.io) Γ')[j]?=_s (_s o):=by unfold PK;rw[C8,M7 (A7.mp c).1,G0,if_neg (λw=>r (C6.mp w)),E5,c];rfl
    obtain⟨d3,v3,T,I,r3⟩:=q1.rep j o E;have eq:Fz j=Fq j:=funext λa=>propext ⟨λw=>w.elim (fun⟨C,h',_⟩=>(r (K5 h')).elim) id,.inr⟩;exact⟨d3,v3,by rw[GO _ _ _ _ r];exact T,I,by rw[eq];exact r3⟩;rcases z with⟨C,h',z⟩|z
    exact c 1 (hl j (K5 h'));refine q1.out j (λo w=>c o (ED w).2) a z;rcases z with⟨k1,y,z⟩|z
    rcases w with⟨k2,f,w⟩|w
    by_cases h:k1=k2;subst h;rw[y]at f;exact n' (C3 f);exact b1.dj k1 k2 h a z w;exact dB a (fq.mpr ⟨j,w⟩) (.inr ((b4 a).mpr ⟨k1,z⟩));rcases w with⟨k2,f,w⟩|w
    exact dB a (fq.mpr ⟨i,z⟩) (.inr ((b4 a).mpr ⟨k2,w⟩));exact q1.dj i j n' a z w
  refine q O _ Pv v J ((s2.frame (R:=λa=>∃j,Fr j a)).sub (λa z=>?_) λa z=>?_) rv rz λa z w=>?_;rcases z with⟨i,j,_,z⟩|⟨j,_,z⟩
  exact(h4 a).mpr ⟨j,z⟩;exact(h4 a).mpr ⟨j,z⟩;rcases z with⟨j,z⟩|z
  rcases z with⟨C,_,z⟩|z
  exact .inl (.inr ((b4 a).mpr ⟨C,z⟩));exact .inr (fq.mpr ⟨j,z⟩);exact .inl (.inl z);obtain⟨j,z⟩:=z;rcases z with⟨C,_,z⟩|z
  exact n a w ((b4 a).mpr ⟨C,z⟩);exact dB a (fq.mpr ⟨j,z⟩) (.inl w)
theorem Oq{s:zN}(c:AD Γ as Γ' js)(u:zH as s.io=_t)(hn:as.length=s.ps.length)(nd:s.io.Nodup)(j:∀i∈s.io,i < s.ps.length)(w:∀i∈slots as s.io,Γ'[i]?=_s (_s 1)){Q:VK}
    (h:tE K Γ s.ro Γ' (js++slots as s.io) (Mq s as) σ H Q):BO K as σ H λvs f=>spF K s vs f Q E0:=by
  obtain⟨g,m,P,r,R,k,res,e,q⟩:=h;refine AM as r c e λds t D P1 vs f b B st A p=>?_;rw[s.eq]at b;refine yt b λl z y=>?_;obtain⟨d,bs⟩:=l;exact Uw u hn nd j w p A z λx P2 Pv v C a rv o n=>q d _ x P2 Pv v C y (B.trans (WW _ bs t)) (st.trans a) rv o n
mutual
noncomputable def Mc:Dv->Bool
 |.yw|.bl _|.int _|.str _=>_t
 |.tup ds=>Ka ds
 |_=>_f
noncomputable def Ka:List Dv->Bool
 |[]=>_t
 |d::ds=>Mc d&&Ka ds
end
mutual
theorem IK{g':G}:∀{o o':Nat}{d:Dv}{v:V}{Pv:Fp},Rep K g' H o d v Pv->Mc d=_t->Rep K g H o' d v yv
 |_,_,.yw,_,_,h,_|_,_,.bl _,_,_,h,_|_,_,.int _,_,_,h,_|_,_,.str _,_,_,h,_=>by unfold Rep at h ⊢;exact⟨h.1,λ_ z=>z⟩
 |_,_,.tup ds,v,_,h,e=>by unfold Rep at h ⊢;obtain⟨a,vs,b,h1,h2⟩:=h;unfold Mc at e;exact⟨a,vs,b,h1,JX h2 e⟩
 |_,_,.lst _,_,_,_,e|_,_,.dct _ _,_,_,_,e|_,_,.ref _,_,_,_,e|_,_,.scr _,_,_,_,e|_,_,.ty _,_,_,_,e|_,_,.mtp _,_,_,_,e|_,_,.dtt _ _,_,_,_,e|_,_,.dnt _ _,_,_,_,e|_,_,.obj _ _ _ _,_,_,_,e=>by unfold Mc at e;cases e
theorem JX{g':G}:∀{o o':Nat}{ds:List Dv}{vs:List V}{Pv:Fp},AA K g' H o ds vs Pv->Ka ds=_t->AA K g H o' ds vs yv
 |_,_,[],_,_,h,_=>by unfold AA at h ⊢;exact⟨h.1,λ_ z=>z⟩
 |_,_,d::ds,_,_,h,e=>by unfold AA at h ⊢;obtain⟨v,r,P1,P2,b,h1,h2,_,_⟩:=h;unfold Ka at e;rw[A2]at e;exact⟨v,r,yv,yv,b,IK h1 e.1,JX h2 e.2,λ_ z=>z.elim,λa=>⟨λz=>z.elim,λz=>z.elim id id⟩⟩
end
def YE(Γ:Gm):Gm:=Γ.map λx=>x.map λ_=>0
theorem Mj:∀(Γ:Gm),Bc (YE Γ) Γ=_t
 |[]=>rfl
 |none::Γ=>by unfold YE Bc;exact Mj Γ
 |some o::Γ=>by show Bc (_s 0::YE Γ) (_s o::Γ)=_t;unfold Bc;rw[Mj Γ];rfl
def YW(f:Ev Dv):Ev Dv:=λR m k=>f R m λd a=>bif Mc d then k d a else _n
theorem Xg{f:Ev Dv}{l:Gm}{o:Nat}(y:∀i o,Γ[i]?=_s (_s o)->i∉js){Q:VK}(h:tE K Γ 1 Γ js (YW f) σ H Q):tE K (YE Γ) o l js f σ H Q:=by
  obtain⟨g,m,P,r,R,k,res,e,q⟩:=h;obtain⟨B,P2,s2,t⟩:=r.weaken (Mj Γ);have np:∀a,¬P2 a:=λa z=>by
    obtain⟨_,F,h1,h4⟩:=t;obtain⟨i,z⟩:=(h4 a).mp z;by_cases c:∃o,(YE Γ)[i]?=_s (_s o);obtain⟨o',c⟩:=c;have:o'=0:=by unfold YE at c;rw[C8]at c;obtain⟨x,_,c⟩:=E9.mp c;obtain⟨_,_,c⟩:=E9.mp c;exact c.symm
    subst this;obtain⟨_,_,_,_,u⟩:=h1.rep i 0 c;exact u.zS a z;exact h1.out i (λo' z=>c ⟨o',z⟩) a z
  refine⟨B,m,P2,t,R,_,res,e,λd m' g' P' Pv v H' j n s rv _ _=>?_⟩;cases c:Mc d with|false=>simp only[c,cond_false]at j;cases j|true=>simp only[c,cond_true]at j;have p:ID H H':=λb o A=>s.keep b o A (np b);have w:Rel K g H Γ m' σ P:=r.agree (by rw[n.1]) λi o hi=>n.2 i (y i o hi);exact q d m' g P yv v H' j n ((Step.same p).less λ_ z=>z.elim id D2) (IK rv c) (w.same p) λ_ _ z=>z
end
end R
namespace L2
open PySem PySem.Spec PyProof.Rows
end L2
namespace L2
open PySem PySem.Spec PyProof.Rows PySem.Builtin PySem.Builtin.Str
variable{X:Cx}
def Nv:V->List V->Hp->VK->Prop:=λx vs H Q=>∃l b xs a,x=.ref l/\vs=[.ref b]/\H l=_s (.lst xs)/\H b=_s (.tup a)/\xs.length+a.length<=sizeLine/\Q .yw (upd H l (.lst (xs++a)))
theorem QJ:mF X "list.extend" Nv:=by
 intro pins s σ H x vs v us Q I m rv h;obtain⟨l,b,xs,k,rfl,rfl,j,w,B,q⟩:=h;cases m;obtain⟨u,rfl,p⟩:=rv.one;cases p;obtain⟨z,c,n,r,C,e⟩:=I.zBf j;obtain⟨d,g,⟨o,i,hc,A,hd⟩,_⟩:=I.tuple (a:=b) (xs:=k) (.inl (.inl w));have y:=g.length;have hsz:c.toArray.size+d.toArray.size<=sizeLine:=by rw[B0,B0];omega
 have f:¬(!c.toArray.isEmpty&&O9 (c.toArray.size+d.toArray.size))=true:=by rw[JW hsz,U1];exact D1
 refine N4 F.slot_list_extend ⟨_,e,rfl⟩ F.entry_list_extend ?_ (F.args_list_extend_2 _ _);show B4 _ _ (l7 (.ref l) (.ref b) .none) _ _ s;unfold l7;refine A1 (l5 (T := "tuple") ⟨o,i,hc⟩ ?_);have t:((yJ (.ref l) (.ref b)||O1 "tuple"==O1 "list")||O1 "tuple"==O1 "tuple")=true:=by
  have:(O1 "tuple"==O1 "tuple")=true:=by rfl
  rw[this];simp
 rw[if_pos t];refine A1 (listItems_at i hd ?_);refine A1 (listItems_at e rfl ?_);rw[if_neg f];refine A1 (listUpdate_at e rfl ?_ (by rw[B0];omega) (by rw[Array.size_append];omega));refine A6 ?_;refine⟨_,rfl,.yw,_,I.zDB (its':=c++d) j e (by simp) (r.append g) ?_,rfl,q⟩;rw[F0];omega
end L2
namespace L2
open PySem PySem.Spec PyProof.Rows
variable{H:Hp}
section
variable{X:Cx}{pins:List (A8×Obj)}{σ:St}{H:Hp}{s:A5}{a:A8}
theorem gj{a:A8}{o:HO}(e:H a=_s o)(o':HO):upd (upd H a o') a o=H:=by funext b;by_cases h:b=a;subst h;rw[AG,e];rw[AC h,AC h]
end
section
variable{X:Cx}
theorem NM.or{t t':Oz}(h:NM X t)(h':NM X t'):NM X (λo i v H Q=>t o i v H Q\/t' o i v H Q):=by
 intro pins s σ H o i v b c u Q I ro a rv q;rcases q with q|q
 exact h pins s σ H o i v b c u Q I ro a rv q;exact h' pins s σ H o i v b c u Q I ro a rv q
def fH:List V->Hp->VK->Prop:=λxs H Q=>∃a y7,xs=[V.ref a]/\H a=_s (.dK y7)/\Q (.int y7.length) H
theorem Ql:Bb X (.builtin "len") fH:=Us
end
abbrev KN(H:Hp):List (NK BY×V)->List (NK BY×A8×_v)->Prop:=Paired λp q=>p.1=q.1/\Qw H p.1 q.2.1/\RelV p.2 q.2.2
variable{y7:List (NK BY×V)}{xs:List (NK BY×A8×_v)}
theorem KN.val(r:KN H y7 xs)(k:NK BY):Gh (Gr y7 k) ((yC xs k).map (·.2)):=by
 induction r with
 |nil=>exact True.intro
 |@cons p q ps a h t d=>
  obtain⟨h1,_,h2⟩:=h;by_cases e:p.1=k;have c:q.1=k:=h1.symm.trans e;have b:yC (q::a) k=_s q.2:=by simp[yC,j8,c]
  rw[Il e,b];exact h2;have c:¬q.1=k:=λz=>e (h1.trans z);have b:yC (q::a) k=yC a k:=by simp[yC,j8,c]
  rw[Im e,b];exact d
theorem KN.zEN(r:KN H y7 xs)(k:NK BY){y:V}{u:_v}(b:RelV y u) :
    KN H (y7.map λa=>if a.1=k then(a.1,y)else a) (xs.map (putAt k u)):=by
  induction r with|nil=>exact .nil|@cons p q ps d h t c=>rw[A9,A9];refine .cons ?_ c;obtain⟨h1,h2,h3⟩:=h;unfold putAt;by_cases e:p.1=k;rw[if_pos e,if_pos (h1.symm.trans e)];exact⟨h1,h2,b⟩;rw[if_neg e,if_neg (λz=>e (h1.trans z))];exact⟨h1,h2,h3⟩
theorem KN.put(r:KN H y7 xs)(k:NK BY){b:A8}{y:V}{u:_v}(d:Qw H k b)(a:RelV y u) :
    KN H (KZ y7 k y) (storedH xs k b u):=by
  have e:(y7.any λc=>decide (c.1=k))=(yC xs k).isSome:=by rw[NU,(r.val k).zAY,t6]
  unfold KZ storedH;rw[e];by_cases q:(yC xs k).isSome=_t;rw[if_pos q,if_pos q];exact r.zEN k a;rw[if_neg q,if_neg q];exact Paired.snoc r ⟨rfl,d,a⟩
theorem KN.keeps{H':Hp}(r:KN H y7 xs)(a:∀b ys,H b=_s (.tup ys)->H' b=_s (.tup ys)):KN H' y7 xs:=
 Paired.zCV r λ_ _ z=>⟨z.1,z.2.1.keeps a,z.2.2⟩
section
variable{P:E8}{w:G7}{H:Hp}{h:G2}{a:A8}
theorem QP(ok:EM P w H h):∀{k:NK BY}{vs:List V}{b:List _v},aD H k vs->AI vs b->ItN (Ak P w) h k b
 |[],_,b,e,r=>by have e:_=[]:=e;subst e;cases r;exact .nil
 |.inl k::ks,_,b,⟨g,e,n⟩,r=>by
  subst e;cases r with|cons f d=>exact .sc (fS f) (QP ok n d)
 |.inr t::ks,_,b,⟨c,g,e,h1,n⟩,r=>by
  subst e;cases r with|cons f d=>cases(show _=D4 c from f);exact .tp (kA ok h1) (QP ok n d)
theorem IQ{k:NK BY}(ok:EM P w H h)(e:Qw H k a):(Cs (Ak P w) (CB P w)).is h k a:=by obtain⟨vs,e,n⟩:=e;obtain⟨_,b,r,o,h1,h2,_,c,h3⟩:=(show An P w H h a (.tup vs)from ok a _ e);exact⟨o,b.toArray,c,h1,h2,h3,by simpa using QP ok n r⟩
theorem SZ(ok:EM P w H h)(e:H a=_s (.dN y7)):y7.length<=sizeLine/\(a==V4)=_f /\
    ∃xs,KN H y7 xs/\h.DictOfH (Cs (Ak P w) (CB P w)) a xs:=by
  obtain⟨z,y,xs,r,o,es,f,h1,h2,h3,h4,h5⟩:=(show An P w H h a (.dN y7)from ok a _ e);refine⟨z,y,xs,r,o,es,f,h1,h2,h3,h4,λx b=>?_,h5⟩;have all:∀{l:List (NK BY×V)}{m:List (NK BY×A8×_v)},KN H l m->∀x∈m,(Cs (Ak P w) (CB P w)).is h x.1 x.2.1:=by
    intro l m q;induction q with
    |nil=>intro x b;exact nomatch b
    |@cons p q ps g c t d=>
      intro x b;rcases C9.mp b with e|b
      subst e;exact IQ ok (by rw[<- c.1];exact c.2.1);exact d x b
  exact all r x b
end
section
variable{X:Cx}{pins:List (A8×Obj)}{σ:St}{H:Hp}{s:A5}{a b:A8}{v:V}{r:_v}{y7:List (NK BY×V)}{k:NK BY}{A:G3}{E:_v->A5->Prop}
theorem om{Q:_v->A5->Prop}(d:A.units+2 < O5)(I:Inv X pins σ H s)(e:H a=_s (.dN y7))(eb:Qw H k b)(h:∀s',Inv X pins σ H s'->Q (.bool (Gr y7 k).isSome) s') :
    B4 (C7 X.prog X.w) A (J0 .In (.ref b) (.ref a)) Q E s:=by
  obtain⟨z,hd,xs,c,dd⟩:=SZ I.y8 e;refine wpAny_in_heap (knd:=Cs (Ak X.prog X.w) (CB X.prog X.w)) (show A.in1.units+1 < O5 by show A.units+1+1 < O5;omega) (IQ I.y8 eb) hd dd ?_;have q:=(c.val k).zAY;rw[t6]at q;rw[<- q];exact h _ (I.tok _)
theorem Ru{Q:_v->A5->Prop}(d:A.units+2 < O5)(I:Inv X pins σ H s)(e:H a=_s (.dN y7))(eb:Qw H k b)(h:∀s',Inv X pins σ H s'->Q (.bool (!(Gr y7 k).isSome)) s') :
    B4 (C7 X.prog X.w) A (J0 .NotIn (.ref b) (.ref a)) Q E s:=by
  obtain⟨z,hd,xs,c,dd⟩:=SZ I.y8 e;refine wpAny_notIn_heap (knd:=Cs (Ak X.prog X.w) (CB X.prog X.w)) (show A.in1.units+1 < O5 by show A.units+1+1 < O5;omega) (IQ I.y8 eb) hd dd ?_;have q:=(c.val k).zAY;rw[t6]at q;rw[<- q];exact h _ (I.tok _)
theorem LL{Q:Unit->A5->Prop}(o:A.units+2 < O5)(I:Inv X pins σ H s)(e:H a=_s (.dN y7))(eb:Qw H k b)(l:y7.length < sizeLine)(rv:RelV v r)(h:∀s',Inv X pins σ (upd H a (.dN (KZ y7 k v))) s'->Q () s') :
    B4 (C7 X.prog X.w) A (yS (.ref a) (.ref b) r) Q E s:=by
  obtain⟨z,hd,xs,d,dd⟩:=SZ I.y8 e;have i:xs.length<=sizeLine:=by rw[<- Paired.length d];exact z
  have m:(KZ y7 k v).length<=sizeLine:=by have:=OR y7 k v;omega
  refine wpAny_setItem_heap (knd:=Cs (Ak X.prog X.w) (CB X.prog X.w)) (hsz:=i) (show A.in1.units+1 < O5 by show A.units+1+1 < O5;omega) (IQ I.y8 eb) dd λh' f j=>h _ ?_;obtain⟨q,es,n,g,h2,h3,h4,_,h5⟩:=f;refine Mx I (by rw[e];exact True.intro) j ⟨q,g⟩ ⟨m,hd,_,(d.put k eb rv).keeps λc ys ec=>?_,q,es,n,g,h2,h3,h4,h5⟩;rw[AC (oi ec e (λz=>nomatch z))];exact ec
theorem Inv.reN(I:Inv X pins σ H s)(e:H a=_s (.dK [])):Inv X pins σ (upd H a (.dN [])) s:=by
 obtain⟨_,hd,vs,rel,o,es,c,h1,h2,h3,_,h4,_⟩:=pv I.y8 e;cases rel;have h4:es.toList=[]:=by generalize es.toList=l at h4;cases h4;rfl
 exact Mx (t':=s.toks) (h':=s.heap) I (by rw[e];exact True.intro) ⟨rfl,λ_ _=>rfl⟩ ⟨o,h1⟩ ⟨G8 _,hd,[],.nil,o,es,c,h1,h2,h3,h4,.nil⟩
theorem Inv.zDW(I:Inv X pins σ (upd H a (.dN [])) s)(e:H a=_s (.dK [])):Inv X pins σ H s:=by obtain⟨_,hd,xs,rel,o,es,d,h1,h2,h3,h4,_⟩:=SZ I.y8 (AG (H:=H));cases rel;have h4:es.toList=[]:=h4;have:=Mx (t':=s.toks) (h':=s.heap) (ob:=.dK []) I (by rw[AG];exact True.intro) ⟨rfl,λ_ _=>rfl⟩ ⟨o,h1⟩ ⟨G8 _,hd,[],.nil,o,es,d,h1,h2,h3,λx c=>(by rw[<- vR,h4]at c;cases c),(by rw[h4];exact .nil),.nil⟩;rw[gj e]at this;exact this
end
def sf(H:Hp)(a:A8)(y:V)(r:Option V):Prop:=∃k b,y=.ref b/\Qw H k b/\((∃y7,H a=_s (.dN y7)/\r=Gr y7 k)\/H a=_s (.dK [])/\r=_n)
def sZ(H:Hp)(a:A8)(y v:V)(H':Hp):Prop:=∃k b,y=.ref b/\Qw H k b/\((∃y7,H a=_s (.dN y7)/\y7.length < sizeLine/\H'=upd H a (.dN (KZ y7 k v)))\/H a=_s (.dK [])/\H'=upd H a (.dN [(k,v)]))
theorem QH{a:A8}{k:NK BY}{b:A8}(e:H a=_s (.dK []))(n:Qw H k b)(o:HO):Qw (upd H a o) k b:=n.keeps λc xs ec=>by rw[AC λz=>by subst z;rw[e]at ec;cases ec];exact ec
section
variable{X:Cx}
def tN:Oz:=λo i v H Q=>∃a H',o=.ref a/\sZ H a i v H'/\Q H'
theorem iK(f:X.A.units+2 < O5):NM X tN:=by
 intro pins s σ H o i v m n u Q I ro l rv h;obtain⟨a,H',rfl,⟨k,b,rfl,eb,g⟩,q⟩:=h;obtain rfl:m=D4 a:=ro;obtain rfl:n=D4 b:=l;rcases g with⟨y7,e,p,rfl⟩|⟨e,rfl⟩
 exact LL f I e eb p rv λj d=>⟨_,d,q⟩;refine LL f (I.reN e) AG (QH e eb _) (by decide) rv λj d=>⟨upd H a (.dN [(k,v)]),?_,q⟩;have:upd (upd H a (.dN [])) a (.dN (KZ [] k v))=upd H a (.dN [(k,v)]):=by funext c;by_cases h:c=a;subst h;rw[AG,AG];rfl;rw[AC h,AC h,AC h]
 rw[this]at d;exact d
def iU(neg:Bool):R2:=λy x H Q=>∃a o,x=.ref a/\sf H a y o/\Q (.bl (if neg then !o.isSome else o.isSome)) H
theorem jX(d:X.A.units+2 < O5):Ce X (J0 .In) (iU _f):=by
 intro pins s σ H y x u v Q I i j h;obtain⟨a,o,rfl,⟨k,b,rfl,eb,g⟩,q⟩:=h;obtain rfl:v=D4 a:=j;obtain rfl:u=D4 b:=i;rcases g with⟨y7,e,rfl⟩|⟨e,rfl⟩
 exact om d I e eb λf c=>⟨.bl (Gr y7 k).isSome,H,c,rfl,q⟩;exact om d (I.reN e) AG (QH e eb _) λf c=>⟨.bl _f,H,c.zDW e,rfl,q⟩
theorem bz(d:X.A.units+2 < O5):Ce X (J0 .NotIn) (iU _t):=by
 intro pins s σ H y x u v Q I i j h;obtain⟨a,o,rfl,⟨k,b,rfl,eb,g⟩,q⟩:=h;obtain rfl:v=D4 a:=j;obtain rfl:u=D4 b:=i;rcases g with⟨y7,e,rfl⟩|⟨e,rfl⟩
 exact Ru d I e eb λf c=>⟨.bl (!(Gr y7 k).isSome),H,c,rfl,q⟩;exact Ru d (I.reN e) AG (QH e eb _) λf c=>⟨.bl _t,H,c.zDW e,rfl,q⟩
end
end L2
namespace R
open PySem L2
def Jj:Dv->Option BY
 |.int i=>_s (.inl i)
 |.str l=>_s (.inr (tx l))
 |_=>_n
def Ji:List Dv->Option (List BY)
 |[]=>_s []
 |d::ds=>(Jj d).bind λk=>(Ji ds).bind λks=>_s (k::ks)
def ox:Dv->Option (List BY)
 |.tup ds=>Ji ds
 |_=>_n
section
variable{κ:Type}[DecidableEq κ]
noncomputable def Qj(k:κ):List κ->List Dv->Option Dv
 |j::ks,d::ds=>if j=k then _s d else Qj k ks ds
 |_,_=>_n
noncomputable def Yu(k:κ)(ks:List κ):List κ:=if ks.any (λj=>decide (j=k))=_t then ks else ks++[k]
noncomputable def Ug(k:κ)(x:Dv):List κ->List Dv->List Dv
 |j::ks,d::ds=>(if j=k then x else d)::Ug k x ks ds
 |_,_=>[]
def Ys(k:κ)(x:Dv)(ks:List κ)(ds:List Dv):List Dv:=if ks.any (λj=>decide (j=k))=_t then Ug k x ks ds else ds++[x]
end
variable{o:Nat}{d:Dv}{v:V}{P:Fp}{ds:List Dv}
section
variable{K:W.Frag}{g:G}{H:Hp}{κ:Type}[DecidableEq κ]
theorem SB{k:BY}(h:Rep K g H o d v P)(e:Jj d=_s k):v=kV k:=by
 cases d with|int i=>cases e;unfold Rep at h;exact h.1|str l=>cases e;unfold Rep at h;exact h.1|_=>cases e
theorem Li{k:κ}:∀{ks:List κ}{ds:List Dv}{us:List V},ks.length=ds.length->ds.length=us.length->(Gr (ks.zip us) k).isSome=(Qj k ks ds).isSome
 |[],[],_,_,_=>rfl
 |j::ks,d::ds,[],_,h=>by cases h
 |j::ks,d::ds,u::us,h1,h2=>by have a:=Li (k:=k) (ks:=ks) (ds:=ds) (us:=us) (by simpa using h1) (by simpa using h2);rw[K7];unfold Qj;by_cases c:j=k;rw[Il (p:=(j,u)) c,if_pos c];rfl;rw[Im (p:=(j,u)) c,if_neg c];exact a
theorem Yt{k:κ}{x:Dv}{w:V}{ks:List κ}{us:List V}{R:Fp}(e:ks.length=ds.length)(h:AA K g H 0 ds us R)(m:Rep K g H 0 x w yv) :
    ∃b,KZ (ks.zip us) k w=(Yu k ks).zip b/\AA K g H 0 (Ys k x ks ds) b yv/\(Yu k ks).length=(Ys k x ks ds).length:=by
  have l:ks.length=us.length:=by rw[e,h.len]
  have any_eq:∀{ks:List κ}{us:List V},ks.length=us.length->((ks.zip us).any λf=>decide (f.1=k))=ks.any λj=>decide (j=k):=fun{ks us} h=>by
    induction ks generalizing us with
    |nil=>rfl
    |cons j ks i=>
      cases us with|nil=>cases h|cons u us=>rw[K7,T5,T5,i (by simpa using h)]
  unfold KZ Yu Ys;rw[any_eq l];by_cases c:(ks.any λj=>decide (j=k))=_t;rw[if_pos c,if_pos c,if_pos c];have:∀{ks:List κ}{ds:List Dv}{us:List V}{R:Fp},ks.length=ds.length->AA K g H 0 ds us R->∃b,((ks.zip us).map λf=>if f.1=k then(f.1,w)else f)=ks.zip b/\AA K g H 0 (Ug k x ks ds) b yv/\ks.length=(Ug k x ks ds).length:=fun{ks ds us R} e h=>by
    induction ks generalizing ds us R with
    |nil=>exact⟨[],by simp,by cases ds<;>exact AA.nil,by cases ds<;>rfl⟩
    |cons j ks i=>
      cases ds with|nil=>cases e|cons d ds=>unfold AA at h;obtain⟨v,r,P1,P2,rfl,h1,h2,_⟩:=h;obtain⟨b,p,n,s⟩:=i (by simpa using e) h2;refine⟨(if j=k then w else v)::b,?_,?_,by simp[Ug];omega⟩;rw[K7,A9,K7,p];by_cases q:j=k<;>simp[q];unfold Ug;refine((AA.cons (P1:=yv) (P2:=yv) ?_ n (λ_ z=>z.elim)).iff λa=>⟨λz=>z.elim,λz=>z.elim id id⟩);by_cases q:j=k;rw[if_pos q,if_pos q];exact m;rw[if_neg q,if_neg q];exact h1.z
  exact this e h;rw[if_neg c,if_neg c,if_neg c];refine⟨us++[w],?_,?_,by simp[e]⟩;rw[List.zip_append l];rfl;exact(AA.app (P:=yv) (Q:=yv) h.z ((AA.cons (P1:=yv) (P2:=yv) m AA.nil λ_ z=>z.elim).iff λa=>⟨λz=>z.elim,λz=>z.elim id id⟩) λ_ z=>z.elim).iff λa=>⟨λz=>z.elim,λz=>z.elim id id⟩
theorem kl{ks:List BY}(h:Rep K g H o (.dct ks ds) v P):∃a us,v=.ref a/\H a=_s (.dK (ks.zip us))/\ks.length=ds.length/\AA K g H 0 ds us yv:=by unfold Rep at h;obtain⟨a,us,e,h1,_,_,⟨h5,R,h6⟩,_⟩:=h;exact⟨a,us,e,h1,h5,h6.z⟩
theorem AA.zEA:∀{o:Nat}{ds:List Dv}{vs:List V}{P:Fp}{ks:List BY},AA K g H o ds vs P->Ji ds=_s ks->vs=ks.map kV
 |o,[],vs,P,ks,h,e=>by cases e;unfold AA at h;exact h.1
 |o,d::ds,vs,P,ks,h,e=>by
  unfold AA at h;obtain⟨v,r,P1,P2,rfl,h1,h2,_⟩:=h;unfold Ji at e;cases e1:Jj d with
  |none=>rw[e1]at e;cases e
  |some k=>
   cases e2:Ji ds with|none=>rw[e1,e2]at e;cases e|some a=>rw[e1,e2]at e;cases e;rw[SB h1 e1,AA.zEA h2 e2];rfl
theorem Xm{k:List BY}(h:Rep K g H o d v P)(e:ox d=_s k):∃b,v=.ref b/\H b=_s (.tup (k.map kV)):=by
 cases d with|tup ds=>unfold Rep at h;obtain⟨b,vs,rfl,h1,h2⟩:=h;rw[AA.zEA h2 e]at h1;exact⟨b,rfl,h1⟩|_=>cases e
theorem sL{ks:List (NK BY)}(h:Rep K g H o (.dnt ks ds) v P):∃a us,v=.ref a/\H a=_s (.dN (ks.zip us))/\ks.length=ds.length/\AA K g H 0 ds us yv:=by unfold Rep at h;obtain⟨a,us,e,h1,_,_,⟨h5,R,h6⟩,_⟩:=h;exact⟨a,us,e,h1,h5,h6.z⟩
theorem bu{ks:List (NK BY)}(h:Rep K g H 1 (.dnt ks ds) v P):∃a us,v=.ref a/\H a=_s (.dN (ks.zip us))/\ks.length=ds.length/\AA K g H 0 ds us yv /\
    ∀(f:List (NK BY)) i c,f.length=i.length->AA K g H 0 i c yv->Step g P H g P (upd H a (.dN (f.zip c)))/\Rep K g (upd H a (.dN (f.zip c))) 1 (.dnt f i) (.ref a) P:=by
  have ok:=h.y6;unfold Rep at h;obtain⟨a,us,e,h1,h2,h3,⟨h5,R,h6⟩,h4⟩:=h;have k:P a:=(h4 a).mpr ⟨by decide,rfl⟩;refine⟨a,us,e,h1,h5,h6.z,λf i c m l=>?_⟩;have st:Step g P H g P (upd H a (.dN (f.zip c))):=by refine⟨λb o j n=>?_,λb j=>?_,λ_ z=>z,λ_ z=>.inl z,⟨[],by simp⟩,λ_ z=>.inl z,λz b j q=>?_,IF h1 (λ_ _ _ z=>by cases z)⟩;unfold upd;rw[if_neg λe=>n (by rw[e];exact k)];exact j;unfold upd at j;split at j;cases j;exact j;unfold upd at q;split at q;cases q;exact z b j q
  refine⟨st,?_⟩;unfold Rep;exact⟨a,c,rfl,by unfold upd;rw[if_pos rfl],(λz=>(xZ z).elim),(λ_=>h3 (by decide)),⟨m,yv,l.held st ok λ_ z=>z.elim⟩,h4⟩
def LU:List Dv->Option (NK BY)
 |[]=>_s []
 |d::ds=>((Jj d).map Sum.inl |>.or ((ox d).map Sum.inr)).bind λk=>(LU ds).bind λks=>_s (k::ks)
def Kc:Dv->Option (NK BY)
 |.tup ds=>LU ds
 |_=>_n
theorem HS:∀{o:Nat}{ds:List Dv}{vs:List V}{P:Fp}{k:NK BY},AA K g H o ds vs P->LU ds=_s k->aD H k vs
 |o,[],vs,P,ks,h,e=>by cases e;unfold AA at h;exact h.1
 |o,d::ds,vs,P,ks,h,e=>by
  unfold AA at h;obtain⟨v,r,P1,P2,rfl,h1,h2,_⟩:=h;unfold LU at e;obtain⟨k,a,e⟩:=L9.mp e;obtain⟨f,c,e⟩:=L9.mp e;cases e;rcases Option.or_eq_some_iff.mp a with a|⟨_,a⟩
  obtain⟨x,ex,rfl⟩:=E9.mp a;exact⟨r,by rw[SB h1 ex],HS h2 c⟩;obtain⟨x,ex,rfl⟩:=E9.mp a;obtain⟨b,rfl,i⟩:=Xm h1 ex;exact⟨b,r,rfl,i,HS h2 c⟩
theorem GU{k:NK BY}(h:Rep K g H o d v P)(e:Kc d=_s k):∃b,v=.ref b/\Qw H k b:=by
 cases d with|tup ds=>unfold Rep at h;obtain⟨b,vs,rfl,h1,h2⟩:=h;exact⟨b,rfl,vs,h1,HS h2 e⟩|_=>cases e
theorem Tj(h:Rep K g H 1 (.dct [] ds) v P):∃a,v=.ref a/\H a=_s (.dK []) /\
    ∀(f:List (NK BY)) i c,f.length=i.length->AA K g H 0 i c yv->Step g P H g P (upd H a (.dN (f.zip c)))/\Rep K g (upd H a (.dN (f.zip c))) 1 (.dnt f i) (.ref a) P:=by
  have ok:=h.y6;unfold Rep at h;obtain⟨a,us,e,h1,h2,h3,⟨h5,R,h6⟩,h4⟩:=h;have k:P a:=(h4 a).mpr ⟨by decide,rfl⟩;refine⟨a,e,h1,λf i c m l=>?_⟩;have st:Step g P H g P (upd H a (.dN (f.zip c))):=by refine⟨λb o j n=>?_,λb j=>?_,λ_ z=>z,λ_ z=>.inl z,⟨[],by simp⟩,λ_ z=>.inl z,λz b j q=>?_,IF h1 (λ_ _ _ z=>by cases z)⟩;unfold upd;rw[if_neg λe=>n (by rw[e];exact k)];exact j;unfold upd at j;split at j;cases j;exact j;unfold upd at q;split at q;cases q;exact z b j q
  refine⟨st,?_⟩;unfold Rep;exact⟨a,c,rfl,by unfold upd;rw[if_pos rfl],(λz=>(xZ z).elim),(λ_=>h3 (by decide)),⟨m,yv,l.held st ok λ_ z=>z.elim⟩,h4⟩
end
noncomputable abbrev Mu:=Dv->List Dv->Option (Dv×Dv)
def Zu(K:W.Frag)(p:Mu)(R:V->List V->Hp->VK->Prop):Prop:=∀g H x v P ds us r y Q,Zd g H->Rep K g H 1 x v P->AA K g H 0 ds us yv->p x ds=_s (r,y) ->
 (∀w H' P',Step g P H g P' H'->Rep K g H' 1 y v P'->Rep K g H' 0 r w yv->Q w H')->R v us H Q
noncomputable def kind:Dv->String
 |.lst _=> "list"
 |.scr _=> "list"
 |.str _=> "str"
 |.int _=> "int"
 |.dtt _ _=> "dict"
 |.dct _ _=> "dict"
 |.tup _=> "tuple"
 |_=> "?"
def EN{a:Type}(T:String)(d:Dv)(o:Option a):Option a:=if kind d=T then o else _n
variable{T:String}
theorem Dd{b:Type}{o:Option b}{a:b}(h:EN T d o=_s a):kind d=T/\o=_s a:=by unfold EN at h;split at h;rename_i z;exact⟨z,h⟩;cases h
def YS(T:String)(i:Nat)(p:Mu)(b:Ev (List Dv)):Ev Dv:=λR m k=>EN T (m.at i) (b R m λds a=>(p (a.at i) ds).bind λr=>k r.1 (a.set i r.2))
variable{vs:List V}
section
variable{K:W.Frag}{g:G}{H:Hp}{σ:St}{Γ Γ':Gm}{js:List Nat}{as:List Ar}
theorem MF(h:Rep K g H o d v P)(e:kind d=T)(hT:T = "list" \/ T = "str" \/ T = "int" \/ T = "dict"):qh K T v H:=by
 subst e;cases d with
 |lst ds=>unfold Rep at h;obtain⟨a,vs,P',rfl,h1,_⟩:=h;exact .inl ⟨rfl,vs,.inl (.inl h1.1)⟩
 |scr ns=>unfold Rep at h;obtain⟨⟨a,rfl,h1⟩,_⟩:=h;exact .inl ⟨rfl,_,h1.sq⟩
 |str l=>unfold Rep at h;rw[h.1];rfl
 |int i=>unfold Rep at h;rw[h.1];rfl
 |dtt ks l=>unfold Rep at h;obtain⟨a,vs,rfl,h1,_⟩:=h;exact .inr (.inr (.inl ⟨rfl,.inr ⟨_,h1⟩⟩))
 |dct ks l=>unfold Rep at h;obtain⟨a,vs,rfl,h1,_⟩:=h;exact .inr (.inr (.inl ⟨rfl,.inl ⟨_,h1⟩⟩))
 |_=>rcases hT with h|h|h|h<;>simp[kind]at h
theorem cN{i:Nat}{p:Mu}{R:V->List V->Hp->VK->Prop}(L:Zu K p R)(hT:T = "list" \/ T = "str" \/ T = "int" \/ T = "dict")(c:AD Γ as Γ' js)(J:PJ as=_t)(h0:∃o,Γ[i]?=_s (_s o))(hi:Γ'[i]?=_s (_s 1)){Q:VK}
    (h:tE K Γ 0 Γ' (js++[i]) (YS T i p (AQ as)) σ H Q):iD K T R (Cb i) (BO K as) σ H Q:=by
  obtain⟨g,m,P,r,R',k,res,e,q⟩:=h;obtain⟨O,e⟩:=Dd e;obtain⟨o0,h0⟩:=h0;obtain⟨l,P0,b,f,_⟩:=r.see h0;refine⟨l,b,MF f O hT,AM as r c e λds m1 A P1 vs H1 I U s S x=>?_⟩;refine yt I λB N M=>?_;obtain⟨rs,y⟩:=B;obtain⟨v,X,Pr,ev,em,rv,u,n,hP⟩:=x.take hi;rw[b]at ev;cases ev;refine L A H1 _ l X ds vs rs y Q x.zd rv (S.zBE J) N λw Z P' s2 C D=>?_;have E:=u.held s2 rv.y6 λa q z=>n a z q;have F:=s2.out u.y6 λa q z=>n a z q;have j:i < Γ'.length:=(A7.mp hi).1;obtain⟨Y,t,sp⟩:=E.putIn j b C λa q z=>F a z q;rw[CP hi]at t;refine q rs _ A Y yv w Z M (U.trans BU.set) (s.trans ((s2.frame (R:=Pr)).sub (λa z=>(hP a).mpr z) λa z=>z.elim (λz=>sp a z) D2)) D t λ_ _ z=>z
theorem Step.upd{a:A8}{o u:HO}{P':Fp}(h:H a=_s u)(i:∀C dx fs,u≠.ins C dx fs)(j:∀b,P' b->b=a\/H b=_n):Step g (λb=>b=a) H g P' (upd H a o):=by
 have f:∀b,L2.upd H a o b=_n->H b=none:=λb q=>by by_cases c:b=a;subst c;rw[AG]at q;cases q;rw[AC c]at q;exact q
 exact⟨λb u q n=>by rw[AC n];exact q,f,λ_ q=>q,λ_ q=>.inl q,⟨[],by simp⟩,j,λz b q e=>z b q (f b e),IF h i⟩
inductive OwL (K:W.Frag) (g:G) (H:Hp) (xs:List Dv) (v:V) (P:Fp):Prop
 | mk (a:A8) (vs:List V) (e:v=.ref a) (b:H a=_s (.lst vs)) (c:¬g.Z a) (d:AA K g H 0 xs vs yv) (f:∀b,P b↔b=a)
  (h:∀ws,Step g P H g P (upd H a (.lst ws))/\(∀{d:Dv}{u:V},Rep K g H 0 d u yv->Rep K g (upd H a (.lst ws)) 0 d u yv)/\∀ys,AA K g H 0 ys ws yv->Rep K g (upd H a (.lst ws)) 1 (.lst ys) (.ref a) P)
theorem IJ{xs:List Dv}(h:Rep K g H 1 (.lst xs) v P):OwL K g H xs v P:=by
 unfold Rep at h;obtain⟨a,vs,P',rfl,h1,h2,h3,h5⟩:=h;have hP:∀b,P b↔b=a:=λb=>by rw[h5 b];exact⟨λz=>z.elim (λz=>z.2) λz=>(h2.zS b z).elim,λz=>.inl ⟨by decide,z⟩⟩
 have f:P=λb=>b=a:=funext λb=>propext (hP b);have e:=h1.2.2 (by decide);have c:zA g H λb=>b=a:=λb q=>by subst q;exact⟨by rw[h1.1];trivial,e⟩
 refine⟨a,vs,rfl,h1.1,e,h2.z,hP,λws=>?_⟩;have st:Step g (λb=>b=a) H g (λb=>b=a) (upd H a (.lst ws)):=Step.upd h1.1 (λ_ _ _ z=>by cases z) λb z=>.inl z;refine⟨by rw[f];exact st,λr=>r.held st c λ_ z=>z.elim,λys r=>?_⟩;unfold Rep;exact⟨a,ws,yv,rfl,⟨AG,(λz=>by cases z),λ_=>e⟩,r.held st c λ_ z=>z.elim,λz=>z,λb=>by rw[hP b];exact⟨λz=>.inl ⟨by decide,z⟩,λz=>z.elim (λz=>z.2) D2⟩⟩
theorem GN:∀{ds:List Dv}{vs:List V},AA K g H 0 ds vs yv↔ds.length=vs.length/\∀(i:Nat)(d:Dv)(v:V),ds[i]?=_s d->vs[i]?=_s v->Rep K g H 0 d v yv
 |[],vs=>⟨λh=>⟨h.len,λi d v e=>by simp at e⟩,λh=>by have:vs=[]:=G9 h.1.symm;subst this;exact AA.nil⟩
 |x::xs,vs=>by
  refine⟨λh=>⟨h.len,λi d v c b=>?_⟩,λh=>?_⟩;obtain⟨j,P,f,r,_⟩:=h.get c;rw[b]at f;cases f;exact r.z;cases vs with|nil=>simp at h|cons v vs=>exact(AA.cons (h.2 0 x v rfl rfl) (GN.mpr ⟨by simpa using h.1,λi d u c b=>h.2 (i+1) d u (by simpa using c) (by simpa using b)⟩) λ_ z=>z.elim).iff λa=>⟨λz=>z.elim,λz=>z.elim id id⟩
theorem Bg{es:List Dv}{us:List V}(h:AA K g H 0 ds vs yv)(k:AA K g H 0 es us yv):AA K g H 0 (ds++es) (vs++us) yv:=(AA.app h k λ_ z=>z.elim).iff λa=>⟨λz=>z.elim,λz=>z.elim id id⟩
theorem DZ(h:Rep K g H 0 d v yv):AA K g H 0 [d] [v] yv:=(AA.cons h AA.nil λ_ z=>z.elim).iff λa=>⟨λz=>z.elim,λz=>z.elim id id⟩
theorem Ba(h:AA K g H 0 (d::ds) vs yv):∃v us,vs=v::us/\Rep K g H 0 d v yv/\AA K g H 0 ds us yv:=by unfold AA at h;obtain⟨v,r,P1,P2,rfl,h1,h2,_⟩:=h;exact⟨v,r,rfl,h1.z,h2.z⟩
theorem Bf(h:AA K g H 0 [] vs yv):vs=[]:=by unfold AA at h;exact h.1
theorem TY(j:Nat)(h:AA K g H 0 ds vs yv)(r:Rep K g H 0 d v yv):AA K g H 0 (ds.set j d) (vs.set j v) yv:=by
 have h0:=GN.mp h;refine GN.mpr ⟨by simp[h0.1],λi x y b a=>?_⟩;rcases En b with⟨rfl,rfl⟩|⟨n,b⟩
 rcases En a with⟨_,rfl⟩|⟨n,_⟩
 exact r;exact(n rfl).elim;rcases En a with⟨z,_⟩|⟨_,a⟩
 exact(n z).elim;exact h0.2 i x y b a
theorem FB:Rep K g H o .yw .yw yv:=by unfold Rep;exact⟨rfl,λ_ z=>z⟩
noncomputable def Aa(x:Dv)(ds:List Dv):Option (Dv×Dv):=match x,ds with
 |.lst xs,[d]=>if xs.length<=1000000 then _s (.yw,.lst (xs++[d]))else _n
 |_,_=>_n
noncomputable def EG(x:Dv)(ds:List Dv):Option (Dv×Dv):=match x,ds with
 |.lst xs,[.lst ys]=>if xs.length+ys.length<=1000000 then _s (.yw,.lst (xs++ys))else _n
 |.lst xs,[.tup ys]=>if xs.length+ys.length<=1000000 then _s (.yw,.lst (xs++ys))else _n
 |_,_=>_n
theorem Tw:Zu K Aa Rh:=λg H x v P ds us r y Q zd f h e k=>by unfold Aa at e;split at e;rename_i xs d;split at e;rename_i j;cases e;obtain⟨a,vs,rfl,ha,l,b,hP,go⟩:=IJ f;obtain⟨u,c,rfl,i,h2⟩:=Ba h;cases Bf h2;obtain⟨s,hd,mk⟩:=go (vs++[u]);exact⟨a,vs,u,rfl,rfl,ha,p7 (by rw[<- b.len];exact j) (by decide),k _ _ P s (mk _ (Bg b (DZ i))) FB⟩;cases e;cases e
theorem Tv:Zu K EG (λx vs H Q=>Rg x vs H Q\/Nv x vs H Q):=λg H x v P ds us r y Q zd j l e k=>by unfold EG at e;split at e;rename_i xs ys;split at e;rename_i i;cases e;obtain⟨a,vs,rfl,ha,m,c,hP,go⟩:=IJ j;obtain⟨u,h,rfl,f,h2⟩:=Ba l;cases Bf h2;unfold Rep at f;obtain⟨b,ws,P',rfl,h1,h3,_⟩:=f;obtain⟨s,hd,mk⟩:=go (vs++ws);exact .inl ⟨a,b,vs,ws,rfl,rfl,ha,h1.1,D0 (by rw[<- c.len,<- h3.len];exact i) (by decide),k _ _ P s (mk _ (Bg c h3.z)) FB⟩;cases e;rename_i xs ys;split at e;rename_i i;cases e;obtain⟨a,vs,rfl,ha,m,c,hP,go⟩:=IJ j;obtain⟨u,h,rfl,f,h2⟩:=Ba l;cases Bf h2;unfold Rep at f;obtain⟨b,ws,rfl,h1,h3⟩:=f;obtain⟨s,hd,mk⟩:=go (vs++ws);exact .inr ⟨a,b,vs,ws,rfl,rfl,ha,h1,D0 (by rw[<- c.len,<- h3.len];exact i) (by decide),k _ _ P s (mk _ (Bg c h3.z)) FB⟩;cases e;cases e
end
def fh(i:Nat)(p:Dv->Dv->Dv->Option Dv)(f:Ev Dv)(c:Ev (List Dv)):Es:=λR m k=>f R m λd b=>c R b λks a=>match ks with|[j]=>(p (a.at i) j d).bind λy=>k.nx (a.set i y)|_=>_n
def Bq(x k d:Dv):Option Dv:=match x,k with
 |.lst xs,.int k=>(Xn xs.length k).bind λj=>_s (.lst (xs.set j d))
 |.dct ks _,k=>if ks.isEmpty=_t then(Kc k).bind λk=>_s (.dnt [k] [d])else _n
 |.dnt ks ds,k=>(Kc k).bind λk=>if ks.length<=1000000 then _s (.dnt (Yu k ks) (Ys k d ks ds))else _n
 |_,_=>_n
def eF(K:W.Frag)(p:Dv->Dv->Dv->Option Dv)(T:Oz):Prop:=∀g H x v P j a d u y (Q:Hp->Prop),Zd g H->Rep K g H 1 x v P->RA K g H [j] [a]->Rep K g H 0 d u yv->p x j d=_s y->(∀H' P',Step g P H g P' H'->Rep K g H' 1 y v P'->Q H')->T v a u H Q
theorem iL{K:W.Frag}:eF K Bq (λo i v H Q=>WM o i v H Q\/tN o i v H Q):=λg H x v P j L d u y Q zd n f p e q=>by
 unfold Bq at e;split at e;rename_i xs D;obtain⟨jj,F,e⟩:=zK e;cases e;obtain⟨a,vs,rfl,ha,M,l,hP,go⟩:=IJ n;unfold RA at f;obtain⟨w,A,o,B,h,_,c,_⟩:=f;cases h;rw[AK c];obtain⟨s,hd,mk⟩:=go (vs.set jj u);exact .inl ⟨a,vs,D,jj,rfl,rfl,ha,by rw[<- l.len];exact F,q _ P s (mk _ (TY jj l p))⟩;rename_i ks ds;split at e;rename_i E;obtain⟨k,t,e⟩:=zK e;cases e;obtain rfl:ks=[]:=by cases ks with|nil=>rfl|cons _ _=>cases E
 obtain⟨a,rfl,ha,go⟩:=Tj n;unfold RA at f;obtain⟨w,A,o,B,h,_,c,_⟩:=f;cases h;obtain⟨b,rfl,r⟩:=GU c t;obtain⟨s,mk⟩:=go [k] [d] [u] rfl ((AA.cons (P1:=yv) (P2:=yv) p AA.nil λ_ z=>z.elim).iff λa=>⟨λz=>z.elim,λz=>z.elim id id⟩);exact .inr ⟨a,_,rfl,⟨k,b,rfl,r,.inr ⟨ha,rfl⟩⟩,q _ P s mk⟩;cases e;rename_i ks ds;obtain⟨k,t,e⟩:=zK e;split at e;rename_i N;cases e;obtain⟨a,us,rfl,ha,C,l,go⟩:=bu n;unfold RA at f;obtain⟨w,A,o,B,h,_,c,_⟩:=f;cases h;obtain⟨m,J,I,G⟩:=Yt (k:=k) C l p;obtain⟨s,mk⟩:=go _ _ m G I;obtain⟨b,rfl,r⟩:=GU c t;refine .inr ⟨a,_,rfl,⟨k,b,rfl,r,.inl ⟨_,ha,?_,?_⟩⟩,q _ P s mk⟩;have:(ks.zip us).length<=ks.length:=by rw[vL];omega
 have z:(1000000:Nat) < sizeLine:=by decide
 omega;rw[<- J];cases e;cases e
variable{H:Hp}
section
variable{K:W.Frag}{F:Fr}{yz:Option Gm}{Γ zL Γ':Gm}{js js2:List Nat}{i:Nat}{f:Ev Dv}{a:Ar}{p:Dv->Dv->Dv->Option Dv}{T:Oz}
theorem WA(hp:eF K p T)(c:AD zL [a] Γ' js2)(h0:∃o,zL[i]?=_s (_s o))(hi:Γ'[i]?=_s (_s 1)){D:Ends}{σ:St}(h:tS K F yz Γ (_s Γ') (js++(js2++[i])) (fh i p f (AQ [a])) D σ H):KM (tE K Γ 0 zL js f) (kP (Cb i) (KQ K a) T) D σ H:=by
 obtain⟨g,m,P,r,R,k,res,e,q⟩:=h;refine⟨g,m,P,r,R,_,res,e,λd m1 g1 P1 Pv u A hk ag s rv L n=>?_⟩;obtain⟨o0,h0⟩:=h0;obtain⟨E,P0,l,_,_⟩:=L.see h0;refine⟨E,l,?_⟩;have rz:=rv.z;have s':Step g P H g1 P1 A:=s.less λ_ z=>.inl z;have M:BO K [a] σ A λvs x=>∃w,vs=[w]/\T E w u x λS=>D.nx σ S:=by
  refine AM [a] L c hk λds m2 g2 P2 vs x B N s2 ar J=>?_;have al:=ar.len;have ra:=ar.ra J
  match ds,al.1,B,ra with
  |[j],_,B,ra=>have I:=ra;unfold RA at ra;obtain⟨w,wr,o,Po,rfl,_,h1,h2⟩:=ra;unfold RA at h2;subst h2;refine yt B λy e1 e2=>?_;obtain⟨v,Pa,Pr,ev,em,U,Y,Z,hP⟩:=J.take hi;rw[l]at ev;cases ev;refine⟨w,rfl,hp g2 x _ E Pa j w d u y _ J.zd U I (rz.held s2 L.y6 λ_ z=>z.elim) e1 λS P' G ry=>?_⟩;have r4:=Y.held G U.y6 λa q z=>Z a z q;have n4:=G.out Y.y6 λa q z=>Z a z q;obtain⟨P5,X,sp⟩:=r4.putIn (A7.mp hi).1 l ry λa q z=>n4 a z q;rw[CP hi]at X;exact q.nx Γ' _ g2 P5 σ S rfl e2 (ag.trans (N.trans BU.set)) ((s'.trans s2).trans ((G.frame (R:=Pr)).sub (λa z=>(hP a).mpr z) λa z=>sp a z)) Io.refl X
 have mono:∀(Q O:VK),(∀v H,Q v H->O v H)->KQ K a σ A Q->KQ K a σ A O:=by
  intro Q O b t;cases a with|ev Γa Γb ja fa=>obtain⟨g,m,P,r,R,k,res,e,q⟩:=t;exact⟨g,m,P,r,R,k,res,e,λd m' g' P' Pv v H' h1 h2 h3 h4 h5 h6=>b _ _ (q d m' g' P' Pv v H' h1 h2 h3 h4 h5 h6)⟩|rf i=>obtain⟨v,e,q⟩:=t;exact⟨v,e,b _ _ q⟩|fd i f=>obtain⟨v,e,a,C,dx,fs,w,h1,h2,h3,h4,h5,q⟩:=t;exact⟨v,e,a,C,dx,fs,w,h1,h2,h3,h4,h5,b _ _ q⟩
 refine mono _ _ (λv x z=>?_) M;obtain⟨w,ew,z⟩:=z;cases ew;exact z
end
def YT(T:String)(a:Ar)(as:List Ar)(p:Pr):Ev Dv:=match a with
 |.rf i=>λR m k=>EN T (m.at i) (AQ as R m λds b=>(p (b.at i::ds)).bind λd=>k d b)
 |.ev _ _ _ f=>λR m k=>f R m λx b=>EN T x (AQ as R b λds c=>(p (x::ds)).bind λd=>k d c)
 |.fd _ _=>λ_ _ _=>_n
def lT(r:V->List V->Hp->VK->Prop):Sr:=λvs H Q=>match vs with|x::us=>r x us H Q|_=>False
theorem jr{K:W.Frag}{σ:St}{H:Hp}{Γ Γ':Gm}{js:List Nat}{a:Ar}{as:List Ar}{p:Pr}{r:V->List V->Hp->VK->Prop}(hp:AN K p o (lT r))(hT:T = "list" \/ T = "str" \/ T = "int" \/ T = "dict")(c:AD Γ (a::as) Γ' js){Q:VK}
    (h:tE K Γ o Γ' js (YT T a as p) σ H Q):iD K T r (KQ K a) (BO K as) σ H Q:=by
  obtain⟨g,m,P,C,R',k,res,e,q⟩:=h;cases a with|fd i f=>cases e|rf i=>obtain⟨G,e⟩:=Dd e;unfold AD at c;obtain⟨⟨o0,h0⟩,⟨Z,D,h1⟩,c⟩:=c;obtain⟨j,P0,w,B,_⟩:=C.see h0;refine⟨j,w,MF B G hT,AM as C c e λds R y P1 vs N t L s I b=>?_⟩;refine yt t λd F E=>?_;obtain⟨v1,P1',u,A,_⟩:=b.see h1;rw[w]at u;cases u;refine hp y N _ (j::vs) d Q b.zd (by unfold RA;exact⟨j,vs,Z,P1',rfl,D,A,I.ra b⟩) F λv M nw=>?_;obtain⟨Pv,s2,h1,l,n2⟩:=Ap.go s b nw;exact q d R y P1 Pv v M E L s2 h1 l n2|ev zL zC js1 f=>unfold AD at c;obtain⟨rfl,js2,rfl,c⟩:=c;refine⟨g,m,P,C,R',_,res,e,λx R y P1 Pv j N t L s rv b n=>?_⟩;obtain⟨G,t⟩:=Dd t;have O:=rv.z;have s':Step g P H y P1 N:=s.less λ_ z=>.inl z;refine⟨MF O G hT,AM as b c t λds m2 S P2 vs M U J s2 I l=>?_⟩;refine yt U λd F E=>?_;refine hp S M _ (j::vs) d Q l.zd (by unfold RA;exact⟨j,vs,0,yv,rfl,by decide,O.held s2 b.y6 λ_ z=>z.elim,I.ra l⟩) F λv H3 nw=>?_;obtain⟨Pw,X,h1,Y,n3⟩:=Ap.go (s'.trans s2) l nw;exact q d m2 S P2 Pw v H3 E (L.trans J) X h1 Y n3
theorem cQ{K:W.Frag}{σ:St}{H:Hp}{Γ Γ':Gm}{js:List Nat}{a:Ar}{as:List Ar}{p:Pr}{r:V->List V->Hp->VK->Prop}(hp:AN K p o (lT r))(c:AD Γ (a::as) Γ' js){Q:VK}
    (h:tE K Γ o Γ' js (YT "tuple" a as p) σ H Q):rR r (KQ K a) (BO K as) σ H Q:=by
  obtain⟨g,m,P,C,R',k,res,e,q⟩:=h;have ty:∀{g:G}{H:Hp}{o:Nat}{d:Dv}{v:V}{P:Fp},Rep K g H o d v P->kind d = "tuple" -> ∃a us,v=.ref a/\H a=_s (.tup us):=fun{g H o d v P} h e=>by
    cases d with|tup ds=>unfold Rep at h;obtain⟨a,vs,rfl,h1,_⟩:=h;exact⟨a,vs,rfl,h1⟩|_=>simp[kind]at e
  cases a with|fd i f=>cases e|rf i=>obtain⟨I,e⟩:=Dd e;unfold AD at c;obtain⟨⟨o0,h0⟩,⟨o1,D,h1⟩,c⟩:=c;obtain⟨j,P0,w,B,_⟩:=C.see h0;refine⟨j,w,ty B I,AM as C c e λds S y P1 vs O t M s J b=>?_⟩;refine yt t λd F E=>?_;obtain⟨v1,P1',u,A,_⟩:=b.see h1;rw[w]at u;cases u;refine hp y O _ (j::vs) d Q b.zd (by unfold RA;exact⟨j,vs,o1,P1',rfl,D,A,J.ra b⟩) F λv N nw=>?_;obtain⟨Pv,s2,h1,l,n2⟩:=Ap.go s b nw;exact q d S y P1 Pv v N E M s2 h1 l n2|ev zL zC js1 f=>unfold AD at c;obtain⟨rfl,js2,rfl,c⟩:=c;refine⟨g,m,P,C,R',_,res,e,λx S y P1 Pv j O t M s rv b n=>?_⟩;obtain⟨I,t⟩:=Dd t;have R:=rv.z;have s':Step g P H y P1 O:=s.less λ_ z=>.inl z;refine⟨ty R I,AM as b c t λds m2 U P2 vs N X L s2 J l=>?_⟩;refine yt X λd F E=>?_;refine hp U N _ (j::vs) d Q l.zd (by unfold RA;exact⟨j,vs,0,yv,rfl,by decide,R.held s2 b.y6 λ_ z=>z.elim,J.ra l⟩) F λv H3 nw=>?_;obtain⟨Pw,Y,h1,Z,n3⟩:=Ap.go (s'.trans s2) l nw;exact q d m2 U P2 Pw v H3 E (M.trans L) Y h1 Z n3
def kb(f g:Ev Dv):Ev Dv:=λR m k=>(f R m k).or (g R m k)
variable{Q:VK}
theorem hZ{K:W.Frag}{Γ Γ':Gm}{js:List Nat}{σ:St}{f g:Ev Dv}(h:tE K Γ o Γ' js (kb f g) σ H Q):tE K Γ o Γ' js f σ H Q\/tE K Γ o Γ' js g σ H Q:=by
 obtain⟨a,m,P,r,R,k,res,e,q⟩:=h;unfold kb at e;cases e1:f R m k with|some z=>rw[e1]at e;exact .inl ⟨a,m,P,r,R,k,z,e1,by cases e;exact q⟩|none=>rw[e1]at e;exact .inr ⟨a,m,P,r,R,k,res,e,q⟩
end R
namespace L2
open PySem PySem.Spec PyProof.Rows
def uL(K:W.Frag):V->Hp->VK->Prop:=λv H Q=>∃(p:A8)(ns:List Int),v=.ref p/\(Dk K H p (ns.map V.int)\/FR K H p (ns.map V.int))/\ns.length < 64/\∀(l:A8)(a:List Int),H l=_n->a.Perm (ns.foldl step_dedup [])->a.Pairwise (·<=·)->Q (.ref l) (upd H l (.lst (a.map V.int)))
def ud(a H:Hp)(S:A8)(xs:List V)(ps:List A8):Prop:=
 (∀c u,a c=_s u->H c=_s u)/\H S=_s (.lst (ps.map V.ref))/\∀(j:Nat) p,ps[j]?=_s p->p≠S/\∃y,xs[j]?=_s y/\H p=_s (.tup [.int j,y])
def uP(K:W.Frag):V->Hp->VK->Prop:=λv H Q=>∃(a:A8)(xs:List V)(b:Bool),v=.ref a/\Kk K H a xs b/\xs.length<=sizeLine/\∀(l:A8)(ps:List A8)(H':Hp),H l=_n->ud H H' l xs ps->ps.length=xs.length->Q (.ref l) H'
end L2
namespace R
open PySem L2
def Mn(T:String)(i:Nat)(f:Str)(p:Mu)(c:Ev (List Dv)):Ev Dv:=λR m k=>bif CD (m.at i) f then(EB (m.at i) f).bind λb=>EN T b (c R m λds a=>(EB (a.at i) f).bind λx=>(p x ds).bind λr=>k r.1 (a.set i (CF (a.at i) f r.2)))else _n
section
variable{K:W.Frag}{g:G}{H:Hp}{σ:St}{Γ Γ':Gm}{js:List Nat}{as:List Ar}
theorem Lc{d:Dv}{f:Str}(h:CD d f=_t):∃x,EB d f=_s x/\cf x=true:=by
 unfold CD at h;cases e:EB d f with|none=>rw[e]at h;cases h|some x=>rw[e]at h;exact⟨x,rfl,h⟩
theorem XI{T:String}{i:Nat}{f:Str}{p:Mu}{R:V->List V->Hp->VK->Prop}(hR:Zu K p R)(hT:T = "list" \/ T = "str" \/ T = "int" \/ T = "dict")(c:AD Γ as Γ' js)(he:PJ as=_t)(h0:∃o,Γ[i]?=_s (_s o))(hi:Γ'[i]?=_s (_s 1)){Q:VK}
    (h:tE K Γ 0 Γ' (js++[i]) (Mn T i f p (AQ as)) σ H Q):iD K T R (MG K (Cb i) f) (BO K as) σ H Q:=by
  obtain⟨g,m,P,r,R',k,res,e,q⟩:=h;unfold Mn at e;cases hr:CD (m.at i) f with|false=>rw[hr]at e;cases e|true=>rw[hr]at e;obtain⟨x0,l,F⟩:=Lc hr;rw[l]at e;obtain⟨e0,e⟩:=Dd (show EN T x0 _=_s res from e);obtain⟨o0,h0⟩:=h0;obtain⟨v0,P0,d,D,_⟩:=r.see h0;obtain⟨a,C,dx,fs,w,_,_,rfl,h1,hc,hn,Z,j,_⟩:=Cj D l;obtain⟨S,rfl⟩:=Jk j F;refine⟨_,d,a,C,dx,fs,_,rfl,h1,hc,hn,Z,MF j e0 hT,AM as r c e λds m1 u P1 vs H1 J ag s ar Y=>?_⟩;refine yt J λx ex J=>?_;refine yt J λxp e1 e2=>?_;obtain⟨rs,y⟩:=xp;obtain⟨v,Pa,Pr,ev,em,rv,X,n,hP⟩:=Y.take hi;rw[d]at ev;cases ev;obtain⟨fs',N,I⟩:=s.ins a C dx fs h1;obtain⟨a2,C2,dx2,qm,w2,F1,F2,ea,t,_,_,O,B,dj,M,mk⟩:=Cj rv ex;cases ea;rw[N]at t;cases t;rw[I f S Z]at O;cases O;refine hR u H1 _ (.ref S) F1 ds vs rs y Q Y.zd B (ar.zBE he) e1 λw H2 P' s2 ry E=>?_;have ro:=mk s2 ry;have A:Step u Pa H1 u (λb=>P' b\/F2 b) H2:=(s2.frame (R:=F2)).sub (λb z=>(M b).mpr z) λ_ z=>z;have r3:=X.held A rv.y6 λa q z=>n a z q;have n3:=A.out X.y6 λa q z=>n a z q;have L:i < Γ'.length:=(A7.mp hi).1;obtain⟨P4,U,sp⟩:=r3.putIn L d ro λa q z=>n3 a z q;rw[CP hi]at U;refine q rs _ u P4 yv w H2 e2 (ag.trans BU.set) (s.trans ((A.frame (R:=Pr)).sub (λa z=>(hP a).mpr z) λa z=>z.elim (λz=>sp a z) D2)) E U λ_ _ z=>z
end
def YN(i:Nat)(f:Str)(p:Dv->Dv->Dv->Option Dv)(e:Ev Dv)(c:Ev (List Dv)):Es:=λR m k=>e R m λd b=>bif CD (b.at i) f then c R b λks a=>(match ks with|[j]=>(EB (a.at i) f).bind λx=>(p x j d).bind λy=>k.nx (a.set i (CF (a.at i) f y))|_=>_n)else _n
section
variable{K:W.Frag}{F:Fr}{yz:Option Gm}{Γ zL Γ':Gm}{js js2:List Nat}{i:Nat}{f:Str}{fe:Ev Dv}{a:Ar}{p:Dv->Dv->Dv->Option Dv}{T:Oz}
theorem eD{σ:St}{j:Hp}{h c:VK}(b:∀v H,h v H->c v H)(t:KQ K a σ j h):KQ K a σ j c:=by
 cases a with|ev n l o s=>obtain⟨g,m,P,r,R,k,res,e,q⟩:=t;exact⟨g,m,P,r,R,k,res,e,λd m' g' P' Pv v H' h1 h2 h3 h4 h5 h6=>b _ _ (q d m' g' P' Pv v H' h1 h2 h3 h4 h5 h6)⟩|rf i=>obtain⟨v,e,q⟩:=t;exact⟨v,e,b _ _ q⟩|fd i f=>obtain⟨v,e,a,C,dx,fs,w,h1,h2,h3,h4,h5,q⟩:=t;exact⟨v,e,a,C,dx,fs,w,h1,h2,h3,h4,h5,b _ _ q⟩
theorem WE(hp:eF K p T)(c:AD zL [a] Γ' js2)(h0:∃o,zL[i]?=_s (_s o))(hi:Γ'[i]?=_s (_s 1)){D:Ends}{σ:St}{H:Hp}(h:tS K F yz Γ (_s Γ') (js++(js2++[i])) (YN i f p fe (AQ [a])) D σ H):KM (tE K Γ 0 zL js fe) (kP (MG K (Cb i) f) (KQ K a) T) D σ H:=by
 obtain⟨g,m,P,r,R,k,res,e,q⟩:=h;refine⟨g,m,P,r,R,_,res,e,λd m1 g1 P1 Pv u H1 G ag s rv V n=>?_⟩;cases hr:CD (m1.at i) f with
 |false=>rw[hr]at G;cases G
 |true=>
  rw[hr]at G;obtain⟨x0,Y,Z⟩:=Lc hr;obtain⟨o0,h0⟩:=h0;obtain⟨v0,P0,l,O,_⟩:=V.see h0;obtain⟨ao,C,dx,fs,w,_,_,rfl,h1,hc,hn,hl,N,_⟩:=Cj O Y;obtain⟨Q,rfl⟩:=Jk N Z;refine⟨_,l,ao,C,dx,fs,_,rfl,h1,hc,hn,hl,?_⟩;have rz:=rv.z;have s':Step g P H g1 P1 H1:=s.less λ_ z=>.inl z;have X:BO K [a] σ H1 λvs E=>∃w,vs=[w]/\T (.ref Q) w u E λJ=>D.nx σ J:=by
   refine AM [a] V c G λds m2 I P2 vs E t ag2 s2 ar U=>?_;have al:=ar.len;have ra:=ar.ra U
   match ds,al.1,t,ra with
   |[j],_,t,ra=>have S:=ra;unfold RA at ra;obtain⟨w,wr,o,Po,rfl,_,h1w,A⟩:=ra;unfold RA at A;subst A;refine yt t λx ex t=>?_;refine yt t λy e1 e2=>?_;obtain⟨v,Pa,Pr,ev,em,rx,r3,n3,hP⟩:=U.take hi;rw[l]at ev;cases ev;obtain⟨fs',h1',hl'⟩:=s2.ins ao C dx fs h1;obtain⟨a2,C2,dx2,qm,w2,F1,F2,ea,B,_,_,zt,M,dj,hPa,mk⟩:=Cj rx ex;cases ea;rw[h1']at B;cases B;rw[hl' f Q hl]at zt;cases zt;refine⟨w,rfl,hp I E _ (.ref Q) F1 j w d u y _ U.zd M S (rz.held s2 V.y6 λ_ z=>z.elim) e1 λJ P' s3 ry=>?_⟩;have ro:=mk s3 ry;have L:Step I Pa E I (λb=>P' b\/F2 b) J:=(s3.frame (R:=F2)).sub (λb z=>(hPa b).mpr z) λ_ z=>z;have r4:=r3.held L rx.y6 λa q z=>n3 a z q;have n4:=L.out r3.y6 λa q z=>n3 a z q;obtain⟨P5,r5,sp⟩:=r4.putIn (A7.mp hi).1 l ro λa q z=>n4 a z q;rw[CP hi]at r5;exact q.nx Γ' _ I P5 σ J rfl e2 (ag.trans (ag2.trans BU.set)) ((s'.trans s2).trans ((L.frame (R:=Pr)).sub (λa z=>(hP a).mpr z) λa z=>sp a z)) Io.refl r5
  refine eD (λv E z=>?_) X;obtain⟨w,ew,z⟩:=z;cases ew;exact z
end
def YZ(i:Nat)(f:Str):Ev Dv:=λ_ m k=>(EB (m.at i) f).bind λd=>bif Mc d then k d m else _n
variable{Q:VK}
theorem YI{K:W.Frag}{Γ:Gm}{i o:Nat}{f:Str}{σ:St}{H:Hp}(hi:Γ[i]?=_s (_s o))(h:tE K Γ 0 Γ [] (YZ i f) σ H Q):MG K (Cb i) f σ H Q:=by
 obtain⟨g,m,P,r,R,k,res,e,q⟩:=h;refine yt e λd n e=>?_;cases c:Mc d with|false=>rw[c]at e;cases e|true=>rw[c]at e;obtain⟨p,P1,j,rv,_⟩:=r.see hi;obtain⟨a,C,dx,fs,w,_,_,rfl,h1,hc,hn,l,b,_⟩:=Cj rv n;exact⟨_,j,a,C,dx,fs,w,rfl,h1,hc,hn,l,q d m g P yv w H e BU.refl (Step.refl.less λ_ z=>z.elim id D2) (IK b c) r λ_ _ z=>z⟩
noncomputable def HW(x:Dv)(f:Str)(d:Dv):Option Dv:=match x with
 |.obj c fl nm xs=>bif !nm.contains f&&fl.contains f&&decide (nm.length < 900)then _s (.obj c fl (nm++[f]) (xs++[d]))else _n
 |_=>_n
def Ya(i:Nat)(f:Str)(o:Nat)(b:Ev Dv):Es:=λR m k=>b R m λd a=>bif o==1||Mc d then(HW (a.at i) f d).bind λy=>k.nx (a.set i y)else _n
theorem JR{f:Str}{u:V}:∀{nm:List Str}{vs:List V},nm.contains f=_f->nm.length=vs.length->Ed f u (nm.zip vs)=(nm++[f]).zip (vs++[u])
 |[],[],_,_=>rfl
 |[],_::_,_,h=>by cases h
 |_::_,[],_,h=>by cases h
 |n::nm,v::vs,h,a=>by
  rw[U6,vZ]at h;have hn:n≠f:=λz=>by subst z;simp at h
  rw[K7];show(if n=f then _ else _)=_;rw[if_neg hn,JR h.2 (by simpa using a)];rfl
theorem FE{f:Str}:∀{nm:List Str}{vs:List V},nm.contains f=_f->(nm.zip vs).lookup f=_n
 |[],_,_=>by simp
 |_::_,[],_=>by simp
 |n::nm,v::vs,h=>by rw[U6,vZ]at h;rw[K7,F7,h.1];exact FE h.2
theorem YJ{K:W.Frag}{F:Fr}{yz:Option Gm}{Γ Γ':Gm}{js:List Nat}{i o:Nat}{f:Str}{fe:Ev Dv}(ho:o<=1)(hi:Γ'[i]?=_s (_s 1)){D:Ends}{σ:St}{H:Hp}(h:tS K F yz Γ (_s Γ') (js++[i]) (Ya i f o fe) D σ H):nC K (Cb i) (tE K Γ o Γ' js fe) f D σ H:=by
 obtain⟨g,m,P,r,R,k,res,e,q⟩:=h;refine⟨g,m,P,r,R,_,res,e,λd m1 w P1 Pv u t E ag s rv r1 n=>?_⟩;have I:(o==1||Mc d)=_t->∃l,Rep K w t 1 d u l/\∀b,l b->Pv b:=λz=>by
  rcases Bool.or_eq_true_iff.mp z with z|z
  rw[beq_iff_eq.mp z]at rv;exact⟨Pv,rv,λ_ q=>q⟩;exact⟨yv,IK rv z,λ_ q=>q.elim⟩
 cases c:(o==1||Mc d)with
 |false=>rw[c]at E;cases E
 |true=>
  rw[c]at E;refine yt (show(HW (m1.at i) f d).bind _=_s res from E) λy p E=>?_;obtain⟨l,O,M⟩:=I c;obtain⟨v,C,Pr,ev,em,ra,r2,n2,hP⟩:=r1.take hi;have S:=ra.y6;cases N:m1.at i with
  |obj c fl nm xs=>
   rw[N]at p ra;unfold HW at p;simp only at p;cases hc:(!nm.contains f&&fl.contains f&&decide (nm.length < 900))with
   |false=>rw[hc]at p;cases p
   |true=>
    rw[hc]at p;cases p;simp only[A2,J7,decide_eq_true_eq]at hc;obtain⟨⟨B,L⟩,hc3⟩:=hc;unfold Rep at ra;obtain⟨a,dx,vs,R',rfl,h1,h2,h3,⟨A,hl,U⟩,h6,h7,h4⟩:=ra;have lv:nm.length=vs.length:=by rw[hl,h6.len]
    refine⟨_,ev,a,_,dx,_,rfl,h1,A.1,A.2 f (C6.mp L),by rw[vL];omega,?_⟩;rw[JR B lv];have Y:C a:=(h4 a).mpr (.inl ⟨by decide,rfl⟩);have hz:=h3 (by decide);have J:zA w t λb=>b=a:=λb z=>by subst z;exact⟨by rw[h1];trivial,hz⟩
    have st:Step w (λb=>b=a) t w (λb=>b=a) (upd t a (.ins (As K c) dx ((nm++[f]).zip (vs++[u])))):=by
     have dm:∀b,L2.upd t a (.ins (As K c) dx ((nm++[f]).zip (vs++[u]))) b=_n->t b=none:=λb z=>by by_cases j:b=a;subst j;rw[AG]at z;cases z;rw[AC j]at z;exact z
     refine⟨λb o j nb=>by rw[AC nb];exact j,dm,λ_ z=>z,λ_ z=>.inl z,⟨[],by simp⟩,λb z=>.inl z,λz b j e=>z b j (dm b e),λb C' dx' fs' j=>?_⟩;by_cases z:b=a;subst z;rw[h1]at j;cases j;refine⟨_,AG,λf' r' T=>?_⟩;rw[<- JR B lv,Ee];by_cases V:f'=f;subst V;rw[FE B]at T;cases T;rw[if_neg V];exact T;exact⟨fs',by rw[AC z];exact j,λ_ _ q=>q⟩
    have Z:¬l a:=λz=>n a ((hP a).mpr (.inl Y)) (M a z);have rd:=O.held st J λb q z=>Z (z▸q);have rx:=h6.held st J λb q z=>h7 (z▸q);have dj:Bu R' l:=λb q z=>n b ((hP b).mpr (.inl ((h4 b).mpr (.inr q)))) (M b z);have ro:Rep K w (upd t a (.ins (As K c) dx ((nm++[f]).zip (vs++[u])))) 1 (.obj c fl (nm++[f]) (xs++[d])) (.ref a) λb=>C b\/l b:=by
     unfold Rep;refine⟨a,dx,vs++[u],λb=>R' b\/l b,rfl,AG,(λz=>by cases z),λ_=>hz,⟨A,by simp[hl],λx N=>?_⟩,?_,λz=>z.elim h7 Z,λb=>?_⟩;rcases E6.mp N with z|z
     exact U x z;rw[D5.mp z];exact C6.mp L;exact AA.app rx ((AA.cons rd AA.nil λ_ _ z=>z).iff λb=>⟨.inl,λz=>z.elim id D2⟩) dj;show C b\/l b↔(1≠0/\b=a)\/R' b\/l b;rw[h4 b];exact⟨λz=>z.elim (λz=>z.elim .inl λz=>.inr (.inl z)) λz=>.inr (.inr z),λz=>z.elim (λz=>.inl (.inl z)) λz=>z.elim (λz=>.inl (.inr z)) .inr⟩
    have G:Step w C t w C (upd t a (.ins (As K c) dx ((nm++[f]).zip (vs++[u])))):=(st.frame (R:=C)).sub (λb z=>z.elim (λz=>z▸Y) id) λb z=>.inr z;have r3:=r2.held G S λa q z=>n2 a z q;have dr:Bu (λb=>C b\/l b) Pr:=λb q z=>q.elim (λq=>n2 b q z) λq=>n b ((hP b).mpr (.inr z)) (M b q);obtain⟨P5,X,sp⟩:=r3.putIn (A7.mp hi).1 ev ro dr;rw[CP hi]at X;refine q.nx Γ' _ w P5 σ _ rfl E (ag.trans BU.set) (s.trans ((G.frame (R:=λb=>Pr b\/Pv b)).sub (λb z=>?_) λb z=>?_)) Io.refl X;rcases z with z|z|z
    exact .inl ((hP b).mpr (.inl z));exact .inl ((hP b).mpr (.inr z));exact .inr z;rcases sp b z with z|z
    exact z.elim .inl λz=>.inr (.inr (M b z));exact .inr (.inl z)
  |_=>rw[N]at p;cases p
noncomputable def EL(d:Dv)(c a:Str):Bool:=match d with
 |.obj b _ nm _=>b==c&&!nm.contains a
 |_=>_f
def Mo(s:zN)(c a:Str)(i:Nat)(as:List Ar):Ev Dv:=λR m k=>bif EL (m.at i) c a then Mq s (.rf i::as) R m k else _n
section
variable{K:W.Frag}{Γ Γ':Gm}{js:List Nat}{as:List Ar}{σ:St}{H:Hp}{i:Nat}{s:zN}{cl mt:Str}
theorem XR(c:AD Γ (.rf i::as) Γ' js)(u:zH (.rf i::as) s.io=_t)(hn:(Ar.rf i::as).length=s.ps.length)(nd:s.io.Nodup)(t:∀i∈s.io,i < s.ps.length)(v:∀j∈slots (.rf i::as) s.io,Γ'[j]?=_s (_s 1)){Q:VK}
    (h:tE K Γ s.ro Γ' (js++slots (.rf i::as) s.io) (Mo s cl mt i as) σ H Q):RP (As K cl) mt (spF K s) [] E0 (Cb i) (BO K as) σ H Q:=by
  obtain⟨g,m,P,r,R,k,res,e,q⟩:=h;unfold Mo at e;cases b:EL (m.at i) cl mt with
  |false=>rw[b]at e;cases e
  |true=>
    rw[b]at e;have p:=c;unfold AD at p;obtain⟨⟨o,l⟩,_,_⟩:=p;obtain⟨x,P1,n,rv,_⟩:=r.see l;obtain⟨v1,d,rest⟩:=Oq c u hn nd t v ⟨g,m,P,r,R,k,res,e,q⟩;rw[n]at d;cases d;cases hx:m.at i with
    |obj y fl nm xs=>
      rw[hx]at b rv;unfold EL at b;simp only[A2,beq_iff_eq,J7]at b;obtain⟨rfl,b⟩:=b;unfold Rep at rv;obtain⟨a,dx,vs,R',rfl,h1,_⟩:=rv;refine⟨_,n,a,dx,_,rfl,h1,FE b,?_⟩;have w:(fun(vs:List V) (f:Hp)=>spF K s (V.ref a::(vs++[])) f Q E0)=λvs f=>spF K s (V.ref a::vs) f Q E0:=by funext vs f;rw[G4]
      rw[w];exact rest
    |_=>rw[hx]at b;cases b
noncomputable def lg{R:Type}(d:Dv)(bs:List Dv)(k:Dv->Option R):Option R:=match d,bs with
 |.yw,[o]=>k o
 |_,_=>_n
theorem XQ{R:Type}{d:Dv}{bs:List Dv}{k:Dv->Option R}{r:R}(h:lg d bs k=_s r):d=.yw/\∃o,bs=[o]/\k o=_s r:=by unfold lg at h;split at h;exact⟨rfl,_,rfl,h⟩;cases h
def QX(s:zN)(c:Str)(fl:List Str)(as:List Ar):Ev Dv:=λR m k=>AQ as R m λds a=>s.cps R (.obj c fl [] []::ds) λd bs=>lg d bs λo=>k o a
theorem XZ{fl:List Str}(hc:eK K cl fl)(D:s.io=[0])(hn:as.length+1=s.ps.length)(he:PJ as=_t)(c:AD Γ as Γ' js)(h:tE K Γ 1 Γ' js (QX s cl fl as) σ H Q):RQ (As K cl) (spF K s) [] E0 (BO K as) σ H Q:=by
 obtain⟨g,m,P,r,R,k,res,e,q⟩:=h;refine AM as r c e λds m1 t P1 vs f N ag st O L=>λx dx C hd nx=>?_;rw[s.eq]at N;refine yt N λS e1 G=>?_;obtain⟨d,bs⟩:=S;obtain⟨rfl,ob,rfl,G⟩:=XQ G;rw[G4];have u:ID f (upd f dx (.own x)):=CV hd _;have B:upd f dx (.own x) x=none:=by rw[AC λz=>nx z.symm];exact C
 have I:ID f (upd (upd f dx (.own x)) x (.ins (As K cl) dx [])):=λb o p=>CV B _ b o (u b o p);have hz:¬t.Z x:=λz=>L.zd x z C;have nw:Ap K t f 1 (.obj cl fl [] []) (.ref x) (upd (upd f dx (.own x)) x (.ins (As K cl) dx [])):=by refine⟨I,λb=>b=x,?_,λa z=>z▸C⟩;unfold Rep;exact⟨x,dx,[],yv,rfl,AG,(λz=>by cases z),λ_=>hz,⟨hc,rfl,λ_ z=>by cases z⟩,AA.nil,λz=>z,λb=>⟨λz=>.inl ⟨by decide,z⟩,λz=>z.elim (λz=>z.2) D2⟩⟩
 obtain⟨Pv,s1,ro,A,M⟩:=Ap.go st L nw;have y:=(O.zBE he).held (Step.same (g:=t) (P:=yv) I) zA.yv λ_ _ z=>z;have al:=O.len;have U:Rel K t (upd (upd f dx (.own x)) x (.ins (As K cl) dx [])) (Kb s.ps.length s.io) (.obj cl fl [] []::ds) ((V.ref x::vs).map _s) Pv:=by
  refine⟨A.zd,λi b=>i=0/\Pv b,⟨by unfold Kb;simp;omega,by unfold Kb;simp;omega,λi o F=>?_,λi F b z=>?_,λi j n b z w=>n (z.1.trans w.1.symm)⟩,λb=>⟨λz=>⟨0,rfl,z⟩,fun⟨_,_,z⟩=>z⟩⟩;obtain⟨hi,E⟩:=FA F;rw[D]at E;cases i with
  |zero=>have:o=1:=C3 E;subst this;have eq:(λb=>(0=0/\Pv b))=Pv:=funext λb=>propext ⟨λz=>z.2,λz=>⟨rfl,z⟩⟩;exact⟨_,_,rfl,rfl,by rw[eq];exact ro⟩
  |succ i=>
   have:o=0:=C3 E;subst this;obtain⟨v,_,ev,rv,_⟩:=y.get (A3 (by omega:i < ds.length));have eq:(λb=>(i+1=0/\Pv b))=yv:=DA λb z=>by cases z.1
   exact⟨_,v,by rw[Y7];exact A3 (by omega),by rw[A9,Y7,C8,ev];rfl,by rw[eq];exact rv.z⟩
  obtain⟨rfl,z⟩:=z;refine F 1 ?_;unfold Kb;rw[C8,M7 (by omega),D];rfl
 refine⟨t,_,Pv,U,.yw,[ob],e1,λg' H' v Pw Pb s2 rv p n=>?_⟩;refine⟨by unfold Rep at rv;exact rv.1,?_⟩;have X:=A.held s2 ro.y6 M;have Y:=s2.out A.y6 M;unfold Bk at p;rw[D]at p;obtain⟨v1,P4,l,T,J⟩:=p.see (i:=0) (o:=1) rfl;have l:_s (_s (V.ref x))=_s (_s v1):=l;cases l;exact q ob m1 g' P1 P4 (.ref x) H' G ag (s1.trans ((s2.frame (R:=P1)).sub (λa z=>z.symm) λa z=>z.elim .inr λz=>.inl (.inr (J a z)))) T X λa z w=>Y a z (.inr (J a w))
end
end R
namespace L2
open PySem PySem.Spec PyProof.Rows
open AutoSeq1 (wpAny_loadPart')
section
variable{X:Cx}{p1 p2 zEQ zEP:Pos}{es:List Expr}{e:Expr}{ta:TA}
abbrev aU(ta:TA):TE:=λσ H Q=>ta σ H λvs a=>∃(i j:Int),(vs=[.int j]/\i=0\/vs=[.int i,.int j])/\(-(2 ^ 62)<=i/\i < 2 ^ 62/\-(2 ^ 62)<=j/\j < 2 ^ 62)/\(j-i).toNat<=1000000/\∀l,a l=_n->Q (.ref l) (upd a l (.tup ((B6 (j-i).toNat).map λk=>.int (i+(k:Nat)))))
end
end L2
namespace L2
open PySem PySem.Spec PyProof.Rows
noncomputable def aA(d:_v):List (Str×_v):=[("default", d)]
section
variable{prog:E8}{w:G7}{A:G3}{E:_v->A5->Prop}{s:A5}
theorem UE{x d:_v}{Q:_v->A5->Prop} (hc:B4 (C7 prog w) A.in1 (Z0.«max» ⟨[x],aA d⟩) (λc s'=>match c with
      |.done f=>wants Q E (.ok f) s'
      |.again g=>g.quiet=_t/\Z3 (C7 prog w) A g (wants Q E) s') (λe s'=>wants Q E (.error e) s') s):B4 (C7 prog w) A (call (.builtin "max") [x] (aA d)) Q E s:=by
  refine d4 (i3 F.plain_max F.entry_max ?_);have ha:argsOk "max" ⟨[x],aA d⟩:=by unfold argsOk;kernel_rfl
  simp only[uy,F.kind_max];cases zEf:Manifest.signature? "max" with
  |none=>exact A6 hc
  |some a=>
    have b:Bind.checkArgs "max" a ⟨[x],aA d⟩=pure ():=by simpa only[argsOk,zEf]using ha
    simp only[b];exact A6 hc
end
section
variable{prog:E8}{w:G7}{A:G3}{R:xt->A5->Prop}{I:A8}{fp wr:List A8}{n:Nat}{P:Nat->_v->Prop}{St:Nat->G2->Prop}{d:_v}
def si(P:Nat->_v->Prop)(a:Nat->Nat->Bool)(S:A8)(j:Nat)(h:G2):Prop:=∃c,(j=0/\h.get? S=_s {cls:=.type "list", dict:=_n,data:=.seq #[] c,slots:=#[]})\/(0 < j/\∃v,P (g8 a (j-1)) v/\h.get? S=_s {cls:=.type "list", dict:=_n,data:=.seq #[v,v] c,slots:=#[]})
theorem UF(W:Walks prog w A.in1 I fp wr n P St)(q:Nat->Nat->Bool)(K:CmpOf prog w A.in1 .Gt P q)(S:A8)(z:S∉fp):∀(k j:Nat)(s:A5),n-j=k->j<=n->St j s.heap->si P q S j s.heap ->
    (∀v h' u,(n=0/\v=d\/0 < n/\P (g8 q (n-1)) v)->(∀b o,b∉wr->b≠S->s.heap.get? b=_s o->h'.get? b=_s o)->R (.ok (.ret v)) {s with heap:=h',toks:=u}) ->
    Z3 (C7 prog w) A (.builtin "max.loop" ⟨[.ref I,.none,.ref S],aA d⟩) R s:=by
  have y:S∉wr:=λh=>z (W.sub _ h);have t:(toString "max" ++ toString ".loop" : String) = "max.loop" := by decide
  intro k;induction k with
  |zero=>
    intro j s V X D Q B;have Bi:j=n:=by omega
    subst Bi;refine xc F.entry_max_loop ?_;rw[va F.plain_max_loop _];show B4 _ A.in1 (xD (.ref S) >>= _) _ _ s;obtain⟨c,⟨J,p⟩|⟨J,v,U,p⟩⟩:=Q;refine A1 (K2 p rfl ?_);show B4 _ A.in1 (tryCatch (o4 (.ref I)) _ >>= _) _ _ s;refine A1 (Z9 (W.done s _ _ D λh' u a=>?_));show B4 _ A.in1 (rule _ >>= λ_=>ret d) _ _ _;exact A1 (X7 (A6 (B d h' u (.inl ⟨J,rfl⟩) λb o i _ e=>a b o i e)));refine A1 (K2 p rfl ?_);show B4 _ A.in1 (tryCatch (o4 (.ref I)) _ >>= _) _ _ s;refine A1 (Z9 (W.done s _ _ D λh' u a=>?_));have g:=a S _ y p;show B4 _ A.in1 (xG S (λ_=>#[]) >>= _) _ _ _;refine A1 (X6 g rfl (A1 (Y6 (A6 ?_))));exact B v _ u (.inr ⟨J,U⟩) λb o N O e=>(F8 _ _ (Ne.symm O)).trans (a b o N e)
  |succ k M=>
    intro j s V X D Q B;have E:j < n:=by omega
    refine xc F.entry_max_loop ?_;rw[va F.plain_max_loop _];show B4 _ A.in1 (xD (.ref S) >>= _) _ _ s;have keep:∀{h':G2}{f:Array _v->Array _v},(∀b o,b∉wr->s.heap.get? b=_s o->h'.get? b=_s o)->∀b o,b∉wr->b≠S->s.heap.get? b=_s o->(h'.update S (O2 f)).get? b=_s o:=λa b o i hn e=>(F8 _ _ (Ne.symm hn)).trans (a b o i e);obtain⟨c,⟨rfl,p⟩|⟨J,L,H,p⟩⟩:=Q;refine A1 (K2 p rfl ?_);show B4 _ A.in1 (tryCatch (o4 (.ref I)) _ >>= _) _ _ s;refine A1 (Z9 (W.item 0 s _ _ E D λv h' u hP r a=>?_));have g:=a S _ y p;show B4 _ A.in1 (xG S (λ_=>#[v,v]) >>= _) _ _ _;refine A1 (X6 g rfl ?_);rw[t];exact A6 ⟨uh F.plain_max_loop _,M 1 _ (by omega) E (W.frame _ _ _ r λb x o e=>(F8 _ _ (λh:S=b=>z (h▸x))).trans e) ⟨_,.inr ⟨by decide,v,hP,K0 _ g rfl⟩⟩ λG h2 l m C=>B G h2 l m λb o i hn e=>C b o i hn (keep a b o i hn e)⟩;refine A1 (K2 p rfl ?_);show B4 _ A.in1 (tryCatch (o4 (.ref I)) _ >>= _) _ _ s;refine A1 (Z9 (W.item j s _ _ E D λv h' u hP r a=>?_));have g:=a S _ y p;have T:j=(j-1)+1:=by omega
    have ab:g8 q j=if q j (g8 q (j-1))then j else g8 q (j-1):=by
      conv=>lhs;rw[T];unfold g8
      rw[<- T]
    show B4 _ A.in1 (tryCatch (Z1 [v,v] (richCompare .Gt v L >>= _)) _ >>= _) _ _ _;refine A1 (Z9 (J8 (A1 (K j (g8 q (j-1)) v L _ _ _ hP H ?_))));refine A1 (J8 (L5 ?_));refine A1 (Y6 (A6 ?_));cases hb:q j (g8 q (j-1))with|true=>simp only[if_true];refine A1 (X6 g rfl (A1 (Y6 ?_)));rw[t];exact A6 ⟨uh F.plain_max_loop _,M (j+1) _ (by omega) E (W.frame _ _ _ r λb x o e=>(F8 _ _ (λh:S=b=>z (h▸x))).trans e) ⟨_,.inr ⟨by omega,v,by rw[o9,ab,hb];exact hP,K0 _ g rfl⟩⟩ λG h2 l m C=>B G h2 l m λb o i hn e=>C b o i hn (keep a b o i hn e)⟩|false=>simp only[B3,if_false];refine A1 (Y6 ?_);rw[t];exact A6 ⟨uh F.plain_max_loop _,M (j+1) _ (by omega) E r ⟨c,.inr ⟨by omega,L,by rw[o9,ab,hb];exact H,g⟩⟩ λG h2 l m C=>B G h2 l m λb o i hn e=>C b o i hn (a b o i e)⟩
end
section
variable{prog:E8}{w:G7}{A:G3}{E:_v->A5->Prop}{s:A5}
theorem UD{x d:_v}{Q:_v->A5->Prop}
    (h:B4 (C7 prog w) A.in1 (yT x) (λit a=>∃I fp j n P St c,it=.ref I/\Walks prog w A.in1 I fp j n P St/\St 0 a.heap/\(∀b∈fp,b < a.heap.objs.size)/\CmpOf prog w A.in1 .Gt P c /\
      ∀v h' k,(n=0/\v=d\/0 < n/\P (g8 c (n-1)) v)->(∀b o,b∉j->a.heap.get? b=_s o->h'.get? b=_s o)->Q v {a with heap:=h',toks:=k}) E s) :
    B4 (C7 prog w) A (call (.builtin "max") [x] (aA d)) Q E s:=by
  have g:(toString "max" ++ toString ".loop" : String) = "max.loop" := by decide
  refine UE ?_;show B4 _ A.in1 (l8 "max" ["key", "default"] 0 ⟨[],aA d⟩ >>= _) _ _ s;refine A1 (wpAny_of_eq (show l8 "max" ["key", "default"] 0 ⟨[],aA d⟩=pure [_n,_s d]from rfl) ?_);refine A1 (A6 ?_);refine A1 (J4 h (λit a i=>?_) λ_ _ e=>e);obtain⟨I,fp,j,n,P,St,c,rfl,W,p,hfp,f,r⟩:=i;refine A1 (L6 ?_);have m:a.heap.objs.size∉fp:=λhm=>K9 _ (hfp _ hm);rw[g];refine A6 ⟨uh F.plain_max_loop _,UF W c f a.heap.objs.size m n 0 _ (by omega) (G8 _) (W.frame _ _ _ p λb _ o e=>A4 _ e) ⟨0,.inl ⟨rfl,D3 _ rfl⟩⟩ λv h' k hP q=>?_⟩;exact r v h' k hP λb o l e=>q b o l (D6 (B8 e)) (A4 _ e)
end
section
variable{prog:E8}{w:G7}{A:G3}{E:_v->A5->Prop}{s:A5}
theorem UG{l:A8}{d:_v}{xs:Array (Int×Tok)}{Q:_v->A5->Prop}(k:A.handled=_n)(f:s.heap.IsList l (p8 xs))
    (h:∀v h' a,(xs.size=0/\v=d\/0 < xs.size/\(p8 xs)[g8 (λi j=>decide (xV xs i > xV xs j)) (xs.size-1)]?=_s v)->(∀b o,s.heap.get? b=_s o->h'.get? b=_s o)->Q v {s with heap:=h',toks:=a}) :
    B4 (C7 prog w) A (call (.builtin "max") [.ref l] (aA d)) Q E s:=by
  refine UD (iter_intList f λm e st hfp c=>?_);subst e;refine⟨_,_,_,_,_,_,_,rfl,Walks.list (A:=A.in1) k _ l c (p8 xs),st,hfp,yK (xV xs) (λ_ _=>s9),λv h' a hP g=>?_⟩;exact h v h' a (by simpa[p8]using hP) (old_kept g)
end
section
variable{X:Cx}{a e:Expr}{ta te:TE}{p pos kp:Pos}
def qk(K:W.Frag)(x y:V)(H:Hp)(Q:VK):Prop:=∃(l:A8)(ns:List Int)(d:Int),x=.ref l/\y=.int d/\Dk K H l (ns.map V.int)/\∀M,(ns=[]/\M=d\/M∈ns/\∀a,a∈ns->a<=M)->Q (.int M) H
theorem bh(hc:X.calm=_t)(F:Gl X "max")(hm:X.mg "max" = _n)(ha:PE X a ta)(G:PE X e te)(m:D7 [a] X.env=[(_f,L8 a X.env)]):PE X (.Call (.Name "max" p) [a] [⟨_s "default", e,kp⟩] pos) (λσ H Q=>ta σ H λx f=>te σ f λy c=>qk X.K x y c Q):=by
 intro pins s σ H Q I h;refine M0 (Ef I F hm PyProof.Rows.Boot.«max» ?_);refine callWith_kw ?_ (by rw[m];rfl) (by rw[m];rfl);refine Ai (CL ha MY m pos pins s σ H (λvs f=>te σ f λy c=>(match vs with|[x]=>qk X.K x y c Q|_=>False)) I h) λus s1 ⟨vs,f,J,C,D⟩=>?_;refine kws_cons (Ai (G pins s1 σ f _ J D) λu s2 ⟨y,c,g,B,i⟩=>kws_nil ?_);cases C with
 |nil=>exact i.elim
 |cons r z=>
  cases z with
  |cons _ _=>exact i.elim
  |nil=>
   obtain⟨l,ns,d,rfl,rfl,hp,q⟩:=i;cases r;obtain⟨t,rfl⟩:=B;obtain⟨L,rv,pl,N⟩:=g.list hp;have n:=pl.isList;have hi:=Fk rv;obtain⟨xs,e⟩:=hi.allInts.items;have b:ns=xs.toList.map (·.1):=by rw[<- hi.numsOf,<- vw,<- e]
   have hsz:ns.length=xs.size:=by rw[b,B9,I9]
   rw[e]at n;show B4 (C7 X.prog X.w) X.A (call (.builtin "max") [.ref l] (aA (.int d t))) _ _ _;refine UG (g.ok.hd hc) n λv h' M k o=>?_;obtain⟨h0,rfl⟩|⟨h0,k⟩:=k
   exact⟨.int _,c,g.kept o,⟨t,rfl⟩,q _ (.inl ⟨List.length_eq_zero_iff.mp (hsz.trans h0),rfl⟩)⟩;obtain⟨t,rfl⟩:=s9 k;obtain⟨h1,h2⟩:=x9 (xV xs) (xs.size-1);refine⟨.int _,c,g.kept o,⟨t,rfl⟩,q _ (.inr ⟨?_,λa ha=>?_⟩)⟩;rw[b,vW];exact getD_mem (by rw[B9,I9];omega);rw[b]at ha;obtain⟨j,E,rfl⟩:=mem_getD ha;rw[B9,I9]at E;rw[<- vW];exact h2 j (by omega)
end
end L2
namespace R
open PySem L2
def Gx(X:Cx):Prop:=X.calm=_t/\∃j,y9 j X.A
noncomputable def two{c:Type}(f:Dv->Dv->Option c)(ds:List Dv):Option c:=match ds with|[a,b]=>f a b|_=>_n
noncomputable def one{b:Type}(f:Dv->Option b)(ds:List Dv):Option b:=match ds with|[a]=>f a|_=>_n
noncomputable def noStar:Expr->Bool
 |.Starred _ _=>_f
 |_=>_t
structure zFD where
 op:n0
 f:Dv->Dv->Option Dv
 ok:∀X,Gx X->∃r,Ce X (binaryOp op) r/\AN X.K (two f) 1 (MC r)
structure zFC where
 op:o5
 f:Dv->Dv->Option Bool
 ok:∀X,Gx X->∃r,Ce X (J0 op) r/\AN X.K (λds=>(two f ds).map .bl) 0 (MC r)
structure zCR where
 x:Str
 n:Nat
 o:Nat
 f:List Dv->Option Dv
 ok:∀X,Gx X->∃r,AN X.K f o r/\((∃id,Bb X (.builtin id) r/\S6 x=_s (.builtin id))\/∃T,Bb X (.type T) r/\S6 x=_s (.type T))
abbrev tO(T:String):Prop:=T = "list" \/ T = "str" \/ T = "int" \/ T = "dict"
structure zBu where
 x:Str
 n:Nat
 T:String
 o:Nat
 f:List Dv->Option Dv
 hT:tO T\/T = "tuple" /\ n=1
 ok:∀X,Gx X->∃id r,u9 T/\Slot T x id/\x6 (.builtin id)=pure (.type "method_descriptor")/\VP X id r/\AN X.K f o (lT r)
structure zCP where
 x:Str
 n:Nat
 T:String
 p:Mu
 hT:tO T
 ok:∀X,Gx X->∃id r,u9 T/\Slot T x id/\x6 (.builtin id)=pure (.type "method_descriptor")/\VP X id r/\Zu X.K p r
noncomputable def Mf:Expr->Bool
 |.Tuple _ _ _=>_t
 |_=>_f
structure zED where
 x:Str
 n:Nat
 tt:Bool
 f:List Dv->Option (List Dv)
 ok:∀X,Gx X->∃r,VH X.K f r/\∀tg es p pos ta,(tt=_t->Mf tg=_t)->es.length=n->es.all noStar=_t->Gl X x->X.mg x=_n->PA X es ta->PI X tg (.Call (.Name x p) es [] pos) (fV r ta)
def uO:Sr:=λvs a Q=>Vh (λ_ H R=>R vs H) [] a Q
def uK:Sr:=λvs a Q=>aU (λ_ H R=>R vs H) [] a Q
def uM(K:W.Frag):R2:=λx y c Q=>∃a xs b,x=.ref a/\y=.int (-1)/\Kk K c a xs b/\∀p,c p=_n->Q (.ref p) (upd c p (bif b then .tup xs.reverse else .lst xs.reverse))
def uN(K:W.Frag):V->Hp->VK->Prop:=λv b Q=>∃a xs,v=.ref a/\Dk K b a xs/\∀l,b l=_n->Q (.ref l) (upd b l (.lst xs.reverse))
structure Tb where
 zDz:List zFD
 zBX:List zFC
 calls:List zCR
 meths:List zBu
 zDZ:List zCP
 zDU:List zED
 ix:Dv->Dv->Option Dv
 zDg:∀X,Gx X->∃r,VQ X r/\AN X.K (two ix) 0 (MC r)
 sl:Dv->Option Int->Option Int->Option Dv
 zDV:∀X,Gx X->∃r,VO X r/\∀lo hi,AN X.K (one λd=>sl d lo hi) 1 (lU λx H Q=>r x lo hi H Q)
 tru:Dv->Option Bool
 zDN:∀K g H o d v P b,Rep K g H o d v P->tru d=_s b->Zs K v H b
 lr:List Dv->Option Dv
 zEU:∀X,Gx X->AN X.K lr 1 uO
 tr:List Dv->Option Dv
 zDM:∀X,Gx X->AN X.K tr 1 uK
 md:Dv->Dv->Option Dv
 zDc:∀X,Gx X->AN X.K (two md) 1 (MC (qk X.K))
 rv:Dv->Dv->Option Dv
 zEM:∀X,Gx X->AN X.K (two rv) 1 (MC (uM X.K))
 lv:Dv->Option Dv
 zET:∀X,Gx X->AN X.K (one lv) 1 (lU (uN X.K))
 ss:Dv->Option Dv
 zEK:∀X,Gx X->AN X.K (one ss) 1 (lU (uL X.K))
 le:Dv->Option Dv
 zEV:∀X,Gx X->AN X.K (one le) 1 (lU (uP X.K))
 st:Dv->Dv->Dv->Option Dv
 zCp:∀X,Gx X->∃T,NM X T/\eF X.K st T
structure Cf:Type 1 where
 N:List Str
 sc:M4
 fn:Str->Bool
 fs:List (Str×zN)
 cs:List (Str×Dv)
 bl:List Str
 T:Tb
 F:Fr
 fl:List Str
 rf:List Str
def Fz(P:E8)(w:G7)(K:W.Frag)(mg:Str->Option _v)(base:G2)(fl:List Str)(j:Nat)(x:Str)(s:zN):Prop:=match s.cl with
 |none=>Fx P w K mg base j x s.ps (spF K s)
 |some c=>∃a f fd,a+1<=j/\zI P w K mg base Gq a f fd s.ps (spF K s)/\Binds K fd s.ps []/\Meth K (As K c) x f/\eK K c fl/\mg c=_s (.ref (As K c))/\(x = "__init__" -> Mk K (As K c) f)
structure zB (C:Cf) (X:Cx):Prop where
 N:X.N=C.N
 sc:X.env.scope=C.sc
 nd:X.N.Nodup
 calm:X.calm=_t
 fn:∀x,C.fn x=_t->X.fn x=_t
 room:Gx X
 fs:∀x s,(x,s)∈C.fs->s.io.Nodup/\(∀i∈s.io,i < s.ps.length)/\∃j k,j<=k/\y9 k X.A/\Fz X.prog X.w X.K X.mg X.base C.fl j x s
 cs:∀x d,(x,d)∈C.cs->∃v u,X.mg x=_s u/\RelV v u/\∀g H,Rep X.K g H 0 d v yv
 bl:∀x∈C.bl,X.mg x=_n
 xe:X.xe=λ_ _=>False
variable{C:Cf}{X:Cx}{x:Str}{s:zN}
theorem zB.fx(ok:zB C X)(h:(x,s)∈C.fs/\s.cl=_n):s.io.Nodup/\(∀i∈s.io,i < s.ps.length)/\∃j k,j<=k/\y9 k X.A/\Fx X.prog X.w X.K X.mg X.base j x s.ps (spF X.K s):=by obtain⟨a,b,j,k,d,c,F⟩:=ok.fs x s h.1;unfold Fz at F;rw[h.2]at F;exact⟨a,b,j,k,d,c,F⟩
noncomputable def Co:List Str->Str->Option Nat
 |[],_=>_n
 |y::r,x=>if y==x then _s 0 else(Co r x).map (·+1)
theorem BP:∀{N:List Str}{x:Str}{i:Nat},Co N x=_s i->N[i]?=_s x
 |[],_,_,h=>by cases h
 |y::r,x,i,h=>by
  unfold Co at h;split at h;rename_i e;cases h;rw[beq_iff_eq.mp e];rfl;cases q:Co r x with|none=>rw[q]at h;cases h|some j=>rw[q]at h;cases h;simpa using BP q
noncomputable def Xo(sc:M4)(x:Str):Bool:=match sc.names.lookup x with
 |some .local=>_t
 |some .cell=>_t
 |some .free=>_t
 |_=>_f
noncomputable def Kd(sc:M4)(x:Str):Bool:=match sc.names.lookup x with
 |some .globalImplicit=>_t
 |_=>_f
noncomputable def OG(x:Str):Bool:=!(x==("__debug__" : Str))&&!(x==("__classdict__" : Str))&&!(x==("__name__" : Str))
def lv(C:Cf)(x:Str):Option Nat:=if Xo C.sc x&&OG x then Co C.N x else _n
def PH(C:Cf)(e:Expr):Option Nat:=match e with
 |.Name x _=>lv C x
 |_=>_n
theorem Bm(h:OG x=_t):(x==("__debug__" : Str))=_f/\(x==("__classdict__" : Str))=_f/\x ≠ "__name__" := by unfold OG at h;simp only[A2,J7]at h;exact⟨h.1.1,h.1.2,λz=>by rw[z]at h;simp at h⟩
theorem UO{sc:M4}(h:Xo sc x=_t):mB sc x:=by unfold Xo at h;unfold mB;split at h;rename_i e;exact .inl e;rename_i e;exact .inr (.inl e);rename_i e;exact .inr (.inr e);cases h
theorem Ck(ok:zB C X)(h:Kd C.sc x=_t):Gl X x:=by unfold Kd at h;unfold Gl Env.kindOf;rw[ok.sc];split at h;rename_i e;exact e;cases h
variable{i:Nat}{pos:Pos}
theorem Rz(ok:zB C X)(h:lv C x=_s i):PE X (.Name x pos) (Cb i):=by unfold lv at h;split at h;rename_i e;rw[A2]at e;have n:=Bm e.2;exact Wp (by rw[ok.N];exact BP h) (by rw[ok.sc];exact UO e.1) n.1 n.2.1;cases h
variable{e:Expr}
theorem Bn(ok:zB C X)(h:PH C e=_s i):PE X e (Cb i):=by
 cases e with|Name x pos=>exact Rz ok h|_=>cases h
def aB(C:Cf)(e:Expr):Option (Nat×Str):=match e with
 |.Attribute o f _=>if C.rf.contains f then(PH C o).map λi=>(i,f)else _n
 |_=>_n
variable{o:Expr}{env:Env}
theorem GW{f:Str}(h:PH C o=_s i):N0 o f env (L8 o env)=L8 o env:=by cases o<;>first|rfl|(cases h)
theorem Jv(ok:zB C X){q:Nat×Str}(h:aB C e=_s q):PE X e (MG X.K (Cb q.1) q.2):=by
 cases e with|Attribute o f pos=>unfold aB at h;simp only at h;split at h;obtain⟨i,hi,rfl⟩:=E9.mp h;exact MW (Bn ok hi) (GW hi);cases h|_=>cases h
structure CE:Type 1 where
 o:Nat
 Γ:Gm
 js:List Nat
 f:Ev Dv
structure CT:Type 1 where
 Γ:Gm
 js:List Nat
 f:Ev Bool
structure CA:Type 1 where
 as:List Ar
 Γ:Gm
 js:List Nat
structure CI:Type 1 where
 Γ:Gm
 js:List Nat
 f:Ev (List Dv)
structure CS:Type 1 where
 Γ:Option Gm
 js:List Nat
 f:Es
 er:Bool
 eb:Bool
 ec:Bool
structure Rec:Type 1 where
 E:Cf->Gm->Expr->Option CE
 A:Cf->Gm->List Bool->List Expr->Option CA
 T:Cf->Gm->Expr->Option CT
 I:Cf->Gm->Bool->Expr->Option CI
 S:Cf->Option Gm->Gm->G5->Option CS
 Ss:Cf->Option Gm->Gm->List G5->Option CS
abbrev eO(t:TA)(te:TE):TA:=λσ H Q=>t σ H λvs b=>te σ b λx a=>Q (vs++[x]) a
structure zJ (r:Rec):Prop where
 E:∀{C X Γ e c},zB C X->r.E C Γ e=_s c->PE X e (tE X.K Γ c.o c.Γ c.js c.f)
 A:∀{C X Γ md es c},zB C X->r.A C Γ md es=_s c->PA X es (BO X.K c.as)/\AD Γ c.as c.Γ c.js/\c.as.length=es.length/\es.all noStar=_t/\(md=[]->PJ c.as=_t)
 T:∀{C X Γ e c},zB C X->r.T C Γ e=_s c->PT X e (tT X.K Γ c.Γ c.js c.f)
 I:∀{C X Γ e c}(tg),zB C X->r.I C Γ (Mf tg) e=_s c->PI X tg e (tI X.K Γ c.Γ c.js c.f)
 S:∀{C X yz Γ s c},zB C X->r.S C yz Γ s=_s c->PS X s (tS X.K C.F yz Γ c.Γ c.js c.f)
 Ss:∀{C X yz Γ s c},zB C X->r.Ss C yz Γ s=_s c->Cu X s (tS X.K C.F yz Γ c.Γ c.js c.f)
 B:∀{C X Γ md es c},zB C X->r.A C Γ md es=_s c->∀{e te},PE X e te->noStar e=_t->PA X (es++[e]) (eO (BO X.K c.as) te)
def cU(Γ:Gm)(i:Nat):Bool:=match Γ.getD i _n with
 |some o=>decide (o<=1)
 |none=>_f
variable{Γ:Gm}
theorem Fi(h:cU Γ i=_t):∃o,o<=1/\Γ[i]?=_s (_s o):=by unfold cU at h;split at h;rename_i o e;exact⟨o,of_decide_eq_true h,Aq e⟩;cases h
def Nb(r:Rec)(C:Cf)(Γ:Gm)(md:List Bool)(es:List Expr):Option CA:=match es with
  |[]=>_s ⟨[],Γ,[]⟩
  | e::es=>if noStar e then
      match(if md.headD _f then PH C e else _n)with
      |some i=>if(Γ.getD i _n).isSome then(r.A C Γ md.tail es).bind λc=>if cU c.Γ i then _s ⟨.rf i::c.as,c.Γ,c.js⟩ else _n else _n
      |none=>match(if md.headD _f then aB C e else _n)with
        |some q=>if(Γ.getD q.1 _n).isSome then(r.A C Γ md.tail es).bind λc=>if cU c.Γ q.1 then _s ⟨.fd q.1 q.2::c.as,c.Γ,c.js⟩ else _n else _n
        |none=>(r.E C Γ e).bind λa=>(r.A C a.Γ md.tail es).bind λc=>_s ⟨.ev Γ a.Γ a.js a.f::c.as,c.Γ,a.js++c.js⟩
    else _n
variable{es:List Expr}
theorem AJ(h:noStar e=_t):D7 (e::es) env=(_f,L8 e env)::D7 es env:=by cases e<;>first|rfl|(cases h)
theorem getD_some(h:(Γ.getD i _n).isSome=_t):∃o,Γ[i]?=_s (_s o):=by obtain⟨o,e⟩:=O8.mp h;exact⟨o,Aq e⟩
variable{r:Rec}
theorem TN(R:zJ r){md:List Bool}{c:CA}(ok:zB C X)(h:Nb r C Γ md es=_s c){g:Expr}{te:TE}(h0:PE X g te)(a:noStar g=_t):PA X (es++[g]) (eO (BO X.K c.as) te):=by
  cases es with
  |nil=>cases h;exact CL h0 MY (AJ a)
  |cons e es=>
    unfold Nb at h;simp only at h;split at h;rename_i l;have j:=AJ (es:=es++[g]) (env:=X.env) l;split at h;rename_i i hi;have b:md.headD _f=true:=by
      cases q:md.headD _f with|true=>rfl|false=>rw[q]at hi;cases hi
    rw[b]at hi;split at h;refine yt h λk d h=>?_;split at h;cases h;exact CL (Bn ok hi) (R.B ok d h0 a) j;cases h;cases h;split at h;rename_i q f;have b:md.headD _f=true:=by
      cases z:md.headD _f with|true=>rfl|false=>rw[z]at f;cases f
    rw[b]at f;split at h;refine yt h λk d h=>?_;split at h;cases h;exact CL (Jv ok f) (R.B ok d h0 a) j;cases h;cases h;refine yt h λn m h=>?_;refine yt h λk d h=>?_;cases h;exact CL (EK (R.E ok m)) (R.B ok d h0 a) j;cases h
theorem Vr(R:zJ r){md:List Bool}{c:CA}(ok:zB C X)(h:Nb r C Γ md es=_s c):PA X es (BO X.K c.as)/\AD Γ c.as c.Γ c.js/\c.as.length=es.length/\es.all noStar=_t/\(md=[]->PJ c.as=_t):=by
  cases es with
  |nil=>cases h;exact⟨MY,by unfold AD;exact⟨rfl,rfl⟩,rfl,rfl,λ_=>rfl⟩
  |cons e es=>
    unfold Nb at h;simp only at h;split at h;rename_i k;have m:=AJ (es:=es) (env:=X.env) k;split at h;rename_i i hi;have a:md.headD _f=true:=by
      cases q:md.headD _f with|true=>rfl|false=>rw[q]at hi;cases hi
    rw[a]at hi;split at h;rename_i h1;refine yt h λn b h=>?_;split at h;rename_i h2;cases h;obtain⟨j,g,f,d,p⟩:=R.A ok b;refine⟨CL (Bn ok hi) j m,?_,by simp[f],by simp[k,d],λz=>by rw[z]at a;cases a⟩;unfold AD;exact⟨getD_some h1,Fi h2,g⟩;cases h;cases h;split at h;rename_i q l;have a:md.headD _f=true:=by
      cases z:md.headD _f with|true=>rfl|false=>rw[z]at l;cases l
    rw[a]at l;split at h;rename_i h1;refine yt h λn b h=>?_;split at h;rename_i h2;cases h;obtain⟨j,g,f,d,p⟩:=R.A ok b;refine⟨CL (Jv ok l) j m,?_,by simp[f],by simp[k,d],λz=>by rw[z]at a;cases a⟩;unfold AD;exact⟨getD_some h1,Fi h2,g⟩;cases h;cases h;refine yt h λu t h=>?_;refine yt h λn b h=>?_;cases h;obtain⟨j,g,f,d,p⟩:=R.A ok b;refine⟨CL (EK (R.E ok t)) j m,?_,by simp[f],by simp[k,d],λz=>?_⟩;unfold AD;exact⟨rfl,_,rfl,g⟩;show PJ n.as=_t;exact p (by rw[z];rfl);cases h
def ZY(Γ:Gm):Const->Option CE
 |.int i=>_s ⟨1,Γ,[],Mm (.int i)⟩
 |.bool b=>_s ⟨1,Γ,[],Mm (.bl b)⟩
 |.none=>_s ⟨1,Γ,[],Mm .yw⟩
 |.str x=>_s ⟨1,Γ,[],Mm (.str x.cps.toList)⟩
 |_=>_n
theorem Vb(x:Str):tx x.cps.toList=x:=by unfold tx;cases x;rfl
variable{c:CE}
theorem Uy{k:Const}{j:Nat}(h:ZY Γ k=_s c):PE X (.Constant k j pos) (tE X.K Γ c.o c.Γ c.js c.f):=by
 cases k with|int i=>cases h;exact la jK λ_ _=>Bh|bool b=>cases h;exact la oR λ_ _=>Cr|none=>cases h;exact la jI λ_ _=>FB|str x=>cases h;exact la Wr λ_ _=>by unfold Rep;exact⟨by rw[Vb],λ_ z=>z⟩|_=>cases h
noncomputable def aP(x:Str):Option String:=if x==("int" : Str)then _s "int" else if x==("bool" : Str)then _s "bool" else if x==("str" : Str)then _s "str" else if x==("tuple" : Str)then _s "tuple" else if x==("list" : Str)then _s "list" else _n
theorem Sz{T:String}(h:aP x=_s T):S6 x=_s (.type T):=by
 unfold aP at h
 repeat' split at h
 all_goals first|(rename_i e;rw[beq_iff_eq.mp e];cases h;first|exact PyProof.Rows.Boot.«int» | exact PyProof.Rows.Boot.«bool» | exact PyProof.Rows.Boot.«str» | exact PyProof.Rows.Boot.«tuple» | exact PyProof.Rows.Boot.«list»)|cases h
def ZP(C:Cf)(Γ:Gm)(x:Str):Option CE:=match lv C x with
  |some i=>if(Γ.getD i _n).isSome then _s ⟨0,Γ.set i (_s 0),[],SS i⟩ else _n
  |none=>if Kd C.sc x&&OG x then(match C.cs.find? λp=>p.1==x with
      |some p=>_s ⟨0,Γ,[],Mm p.2⟩
      |none=>if C.bl.contains x then(aP x).map λT=>⟨0,Γ,[],Mm (.ty T)⟩ else _n)else _n
theorem ZO(ok:zB C X)(h:ZP C Γ x=_s c):PE X (.Name x pos) (tE X.K Γ c.o c.Γ c.js c.f):=by
 unfold ZP at h;split at h;rename_i i hi;split at h;rename_i h1;cases h;obtain⟨o,b⟩:=getD_some h1;exact nE (Rz ok hi) b;cases h;split at h;rename_i a;rw[A2]at a;cases q:C.cs.find? λp=>p.1==x with
 |none=>
  rw[q]at h;simp only at h;split at h;rename_i d;cases t:aP x with|none=>rw[t]at h;cases h|some T=>rw[t]at h;cases h;exact la (br (v:=.ty T) (Ck ok a.1) (ok.bl x (C6.mp d)) (Sz t) rfl (Bm a.2).2.2 (Bm a.2).1) λ_ _=>by unfold Rep;exact⟨rfl,λ_ z=>z⟩
  cases h
 |some p=>rw[q]at h;cases h;have e:p.1=x:=beq_iff_eq.mp (by simpa using M3 q);obtain⟨v,u,h1,h3,h2⟩:=ok.cs p.1 p.2 (S2 q);rw[e]at h1;exact la (bo (Ck ok a.1) h1 h3 (Bm a.2).1) h2
 cases h
structure C1:Type 1 where
 a:Ar
 Γ:Gm
 js:List Nat
def Gf(r:Rec)(C:Cf)(Γ:Gm)(m:Bool)(e:Expr):Option C1:=match(if m then PH C e else _n)with
 |some i=>if(Γ.getD i _n).isSome then _s ⟨.rf i,Γ,[]⟩ else _n
 |none=>match(if m then aB C e else _n)with
  |some q=>if(Γ.getD q.1 _n).isSome then _s ⟨.fd q.1 q.2,Γ,[]⟩ else _n
  |none=>(r.E C Γ e).bind λc=>_s ⟨.ev Γ c.Γ c.js c.f,c.Γ,c.js⟩
def FM(a:Ar)(Γ:Gm):Bool:=match a with
 |.rf i=>cU Γ i
 |.fd i _=>cU Γ i
 |_=>_t
theorem Ct(R:zJ r){m:Bool}{c:C1}(ok:zB C X)(h:Gf r C Γ m e=_s c):PE X e (KQ X.K c.a)/\(m=_f->PJ [c.a]=_t)/\∀{as Γ' js},AD c.Γ as Γ' js->FM c.a Γ'=_t->AD Γ (c.a::as) Γ' (c.js++js):=by
 unfold Gf at h;split at h;rename_i i hi;split at h;rename_i h1;cases h;have hm:m=true:=by cases m with|true=>rfl|false=>cases hi
 subst hm;refine⟨Bn ok hi,(λz=>by cases z),λch b=>?_⟩;unfold AD;exact⟨getD_some h1,Fi b,ch⟩;cases h;split at h;rename_i q d;split at h;rename_i h1;cases h;have hm:m=true:=by cases m with|true=>rfl|false=>cases d
 subst hm;refine⟨Jv ok d,(λz=>by cases z),λch b=>?_⟩;unfold AD;exact⟨getD_some h1,Fi b,ch⟩;cases h;refine yt h λg f h=>?_;cases h;refine⟨EK (R.E ok f),λ_=>rfl,λch b=>?_⟩;unfold AD;exact⟨rfl,_,rfl,ch⟩
theorem CJ:AD Γ [] Γ []:=by unfold AD;exact⟨rfl,rfl⟩
def Lx(r:Rec)(C:Cf)(Γ:Gm)(a b:Expr):Option (C1×C1):=(Gf r C Γ _t a).bind λx=>(Gf r C x.Γ _t b).bind λy=>if FM x.a y.Γ&&FM y.a y.Γ then _s (x,y)else _n
noncomputable def jj(p:C1×C1):List Nat:=p.1.js++(p.2.js++[])
variable{a b:Expr}
theorem Ge(R:zJ r){p:C1×C1}(ok:zB C X)(h:Lx r C Γ a b=_s p):PE X a (KQ X.K p.1.a)/\PE X b (KQ X.K p.2.a)/\AD Γ [p.1.a,p.2.a] p.2.Γ (jj p):=by unfold Lx at h;refine yt h λx f h=>?_;refine yt h λy d h=>?_;split at h;rename_i z;rw[A2]at z;cases h;obtain⟨j,_,g⟩:=Ct R ok f;obtain⟨b1,_,b2⟩:=Ct R ok d;exact⟨j,b1,g (b2 CJ z.2) z.1⟩;cases h
def VE(r:Rec)(C:Cf)(Γ:Gm)(a:Expr):Option C1:=(Gf r C Γ _t a).bind λx=>if FM x.a x.Γ then _s x else _n
theorem IY(R:zJ r){x:C1}(ok:zB C X)(h:VE r C Γ a=_s x):PE X a (KQ X.K x.a)/\AD Γ [x.a] x.Γ (x.js++[]):=by unfold VE at h;refine yt h λy d h=>?_;split at h;rename_i z;cases h;obtain⟨g,_,f⟩:=Ct R ok d;exact⟨g,f CJ z⟩;cases h
theorem zB.gx(ok:zB C X):Gx X:=ok.room
def qQ(r:Rec)(C:Cf)(Γ:Gm)(a:Expr)(op:n0)(b:Expr):Option CE:=(C.T.zDz.find? λe=>e.op==op).bind λen=>(Lx r C Γ a b).bind λp=>_s ⟨1,p.2.Γ,jj p,HY (two en.f) (AQ [p.1.a,p.2.a])⟩
theorem dk(R:zJ r){op:n0}(ok:zB C X)(h:qQ r C Γ a op b=_s c):PE X (.BinOp a op b pos) (tE X.K Γ c.o c.Γ c.js c.f):=by
 refine yt h λen l h=>?_;refine yt h λp k h=>?_;cases h;have j:en.op=op:=by simpa using M3 l
 obtain⟨h1,h2,h3⟩:=Ge R ok k;obtain⟨m,d,g⟩:=en.ok X ok.gx;rw[j]at d;exact PE.imp (oN d h1 h2) λ_ _ _ h=>Da g h3 h
noncomputable def Kj(x:Dv):Option Dv:=match x with|.int i=>_s (.int (-i))|_=>_n
theorem iu{K:W.Frag}:AN K (one Kj) 1 (lU (rU λi=>.int (-i))):=λg H ds vs d Q zd ra e k=>by unfold one at e;split at e;rename_i a;unfold Kj at e;split at e;rename_i i;cases e;unfold RA at ra;obtain⟨v,r,o,P,rfl,_,h1,h2⟩:=ra;unfold RA at h2;subst h2;rw[AK h1];exact⟨i,rfl,k _ H (Ap.old Bh)⟩;cases e;cases e
def qJ(r:Rec)(C:Cf)(Γ:Gm)(a:Expr):Option CE:=(VE r C Γ a).bind λx=>_s ⟨1,x.Γ,x.js++[],HY (one Kj) (AQ [x.a])⟩
theorem dX(R:zJ r)(ok:zB C X)(h:qJ r C Γ a=_s c):PE X (.UnaryOp .USub a pos) (tE X.K Γ c.o c.Γ c.js c.f):=by refine yt h λx d h=>?_;cases h;obtain⟨h1,h2⟩:=IY R ok d;exact PE.imp (oK gq h1) λ_ _ _ h=>Da iu h2 h
def lq(t:CT):CE:=⟨1,t.Γ,t.js,QZ t.f⟩
def Qp(r:Rec)(C:Cf)(Γ:Gm)(a:Expr)(op:o5)(b:Expr):Option CT:=if vt op b then _n else(C.T.zBX.find? λe=>e.op==op).bind λen=>(Lx r C Γ a b).bind λp=>_s ⟨p.2.Γ,jj p,qo (two en.f) (AQ [p.1.a,p.2.a])⟩
variable{H:Hp}{Q:VK}
theorem lJ{K:W.Frag}{Γ':Gm}{js:List Nat}{σ:St}{o:Nat}{p:List Dv->Option Bool}{as:List Ar}{r:Sr}(hp:AN K (λds=>(p ds).map .bl) 0 r)(c:AD Γ as Γ' js)(h:tE K Γ o Γ' js (QZ (qo p (AQ as))) σ H Q):BO K as σ H λvs f=>r vs f Q:=by obtain⟨g,m,P,j,R',k,res,e,q⟩:=h;refine AM as j c e λds m' g' P' vs f n y s w d=>?_;refine yt n λb u t=>?_;refine hp g' f ds vs (.bl b) _ d.zd (w.ra d) (by show(p ds).map _=_;rw[u];rfl) λv A nw=>?_;obtain⟨Pv,s2,h1,l,B⟩:=Ap.go s d nw;have ev:=BX h1;subst ev;exact q (.bl b) m' g' P' yv _ A t y (s2.less λ_ z=>z.elim .inl D2) Cr l λ_ _ z=>z
variable{op:o5}
theorem Sh(R:zJ r){c:CT}(ok:zB C X)(h:Qp r C Γ a op b=_s c):PT X (.Compare a [op] [b] pos) (tT X.K Γ c.Γ c.js c.f)/\∀o,PE X (.Compare a [op] [b] pos) (tE X.K Γ o c.Γ c.js (QZ c.f)):=by
 unfold Qp at h;split at h;cases h;rename_i hm;rw[xJ]at hm;refine yt h λen l h=>?_;refine yt h λp k h=>?_;cases h;have j:en.op=op:=by simpa using M3 l
 obtain⟨h1,h2,h3⟩:=Ge R ok k;obtain⟨m,d,g⟩:=en.ok X ok.gx;rw[j]at d;exact⟨PT.imp (bJ d h1 h2 hm) λ_ _ _ h=>qV g h3 h,λo=>PE.imp (bp d h1 h2 hm) λ_ _ _ h=>lJ g h3 h⟩
noncomputable def Hq:Expr->Bool
 |.Slice _ _ _ _=>_f
 |_=>_t
theorem Wg(h:Hq b=_t):Su b:=λo i=>by cases b<;>first|rfl|(cases h)
def sR(r:Rec)(C:Cf)(Γ:Gm)(a b:Expr):Option CE:=(Lx r C Γ a b).bind λp=>_s ⟨0,p.2.Γ,jj p,HY (two C.T.ix) (AQ [p.1.a,p.2.a])⟩
theorem lE(R:zJ r)(ok:zB C X)(j:Hq b=_t)(h:sR r C Γ a b=_s c):PE X (.Subscript a b pos) (tE X.K Γ c.o c.Γ c.js c.f):=by refine yt h λp k h=>?_;cases h;obtain⟨h1,h2,h3⟩:=Ge R ok k;obtain⟨l,g,d⟩:=C.T.zDg X ok.gx;exact PE.imp (oO g h1 h2 (Wg j)) λ_ _ _ h=>Da d h3 h
noncomputable def lz{R:Type}(d:Dv)(k:Int->Option R):Option R:=match d with|.int i=>k i|_=>_n
def lK(o:Option (Ev Dv)):Ev (Option Int):=match o with
 |none=>λ_ m k=>k _n m
 |some f=>λR m k=>f R m λd g=>lz d λi=>k (_s i) g
def pe(p:Dv->Option Int->Option Int->Option Dv)(a:Ar)(lo hi:Option (Ev Dv)):Ev Dv:=match a with
 |.rf i=>λR m k=>lK lo R m λl h=>lK hi R h λu g=>(p (g.at i) l u).bind λd=>k d g
 |.ev _ _ _ f=>λR m k=>f R m λx h=>lK lo R h λl g=>lK hi R g λu j=>(p x l u).bind λd=>k d j
 |.fd _ _=>λ_ _ _=>_n
def sS(r:Rec)(C:Cf)(Γ:Gm)(o:Option Expr):Option (Option (Ev Dv)×Gm×List Nat):=match o with
 |none=>_s (_n,Γ,[])
 |some e=>(r.E C Γ e).bind λc=>_s (_s c.f,c.Γ,c.js)
def eU(K:W.Frag)(Γ Γ':Gm)(js:List Nat)(f:Ev (Option Int)):TO:=λσ H Q=>∃g m P,Rel K g H Γ m σ P/\∃(R:Type)(k:Option Int->M->Option R)(r:R),f R m k=_s r /\
 ∀b m' g' P' H',k b m'=_s r->BU js m m'->Step g P H g' P' H'->Rel K g' H' Γ' m' σ P'->Q b H'
theorem PO.imp{e:Option Expr}{t t':TO}(h:PO X e t)(k:∀σ H Q,t' σ H Q->t σ H Q):PO X e t':=λpins s σ H Q I q=>h pins s σ H Q I (k σ H Q q)
theorem Za(R:zJ r){e:Option Expr}{p:Option (Ev Dv)×Gm×List Nat}(ok:zB C X)(h:sS r C Γ e=_s p):PO X e (eU X.K Γ p.2.1 p.2.2 (lK p.1)):=by
 cases e with
 |none=>
  cases h;exact PO.imp bX λσ H Q q=>by obtain⟨g,m,P,r,R,k,res,e,q⟩:=q;exact q _n m g P H e BU.refl Step.refl r
 |some e=>
  refine yt h λc l h=>?_;cases h;exact PO.imp (bW (EK (R.E ok l))) λσ H Q q=>by
   obtain⟨g,m,P,r,R,k,res,e,q⟩:=q;refine⟨g,m,P,r,R,_,res,e,λd m' g' P' Pv v H' f t s rv j n=>?_⟩;cases d<;>first|(cases f;done)|skip
   rename_i i;exact⟨i,AK rv,q (_s i) m' g' P' H' f t (s.less λ_ z=>.inl z) j⟩
def tq(r:Rec)(C:Cf)(Γ:Gm)(a:Expr)(lo hi:Option Expr):Option CE:=(Gf r C Γ _t a).bind λx=>(sS r C x.Γ lo).bind λl=>(sS r C l.2.1 hi).bind λu=>if FM x.a u.2.1 then _s ⟨1,u.2.1,x.js++(l.2.2++u.2.2),pe C.T.sl x.a l.1 u.1⟩ else _n
theorem iI{K:W.Frag}{Γ j zC Γ':Gm}{J y t:List Nat}{p:Dv->Option Int->Option Int->Option Dv}{rr:V->Option Int->Option Int->Hp->VK->Prop}(hp:∀lo hi,AN K (one λd=>p d lo hi) 1 (lU λx H Q=>rr x lo hi H Q)){a:Ar}{lo hi:Option (Ev Dv)}
    (ha:∀{as Γ' js},AD j as Γ' js->FM a Γ'=_t->AD Γ (a::as) Γ' (J++js)) (hs:FM a Γ'=_t) {σ:St} {H:Hp} {Q:VK}
    (h:tE K Γ 1 Γ' (J++(y++t)) (pe p a lo hi) σ H Q):tK rr (KQ K a) (eU K j zC y (lK lo)) (eU K zC Γ' t (lK hi)) σ H Q:=by
  obtain⟨g,m,P,r,R,k,res,e,q⟩:=h;have L:∀{x:Dv}{l u:Option Int}{I:M}{B:G}{P3:Fp}{F:Hp}{v:V}{o:Nat}{Y:Fp},(p x l u).bind (λd=>k d I)=_s res->BU (J++(y++t)) m I->Step g P H B P3 F->Rel K B F Γ' I σ P3->o<=1->Rep K B F o x v Y->rr v l u F Q:=fun{x l u I B P3 F v o Y} hk ag s S hlo rx=>by refine yt hk λd e1 U=>?_;refine hp l u B F [x] [v] d Q S.zd (by unfold RA;exact⟨v,[],o,Y,rfl,hlo,rx,by unfold RA;rfl⟩) e1 λw H4 nw=>?_;obtain⟨Pv,s2,h1,n,n2⟩:=Ap.go s S nw;exact q d I B P3 Pv w H4 U ag s2 h1 n n2
  cases a with
  |fd i f=>cases e
  |rf i=>
    have c0:=ha (as:=[]) (Γ':=j) (js:=[]) CJ;have hs':=hs
    -- the slot is set ahead
    have h0:(∃o,Γ[i]?=_s (_s o))/\j=Γ/\J=[]:=by have:=ha (as:=[.ev j Γ' (y++t) (λ_ m k=>k .yw m)]) (Γ':=Γ') (js:=(y++t)++[]) (by unfold AD;exact⟨rfl,[],rfl,CJ⟩) hs;unfold AD at this;refine⟨this.1,?_⟩;obtain⟨_,_,c⟩:=this;unfold AD at c;refine⟨c.1,?_⟩;obtain⟨_,js2,e,c⟩:=c;unfold AD at c;rw[c.2]at e;have l:(J++((y++t)++[])).length=((y++t)++[]).length:=congrArg Y3 e;simp at l;exact l
    obtain⟨⟨o0,h0⟩,rfl,rfl⟩:=h0;obtain⟨v0,P0,O,rv0,_⟩:=r.see h0;refine⟨v0,O,g,m,P,r,R,_,res,e,λl m1 g1 P1 H1 A E s1 T=>⟨g1,m1,P1,T,R,_,res,A,λu m2 g2 P2 H2 zu D s2 n=>?_⟩⟩;obtain⟨o1,hl1,h1⟩:=Fi hs;obtain⟨v1,Y,N,rv1,_⟩:=n.see h1;rw[O]at N;cases N;exact L zu (E.trans D) (s1.trans s2) n hl1 rv1
  |ev Γa Z ja f=>
    have h0:Γa=Γ/\Z=j/\J=ja:=by have:=ha (as:=[.ev j j [] (λ_ m k=>k .yw m)]) (Γ':=j) (js:=[]) (by unfold AD;exact⟨rfl,[],rfl,CJ⟩) rfl;unfold AD at this;obtain⟨e1,js2,U,c⟩:=this;unfold AD at c;obtain⟨e3,js3,e4,c⟩:=c;unfold AD at c;rw[c.2]at e4;subst e4;simp at U;exact⟨e1,e3.symm,U⟩
    obtain⟨rfl,rfl,rfl⟩:=h0;refine⟨g,m,P,r,R,_,res,e,λx m1 g1 P1 Pv v H1 A E s1 rv T n1=>⟨g1,m1,P1,T,R,_,res,A,λl m2 g2 P2 H2 zu D s2 n=>⟨g2,m2,P2,n,R,_,res,zu,λu I B P3 F hk3 ag3 s3 S=>?_⟩⟩⟩;exact L hk3 (E.trans (D.trans ag3)) (((s1.less λ_ z=>.inl z).trans s2).trans s3) S (by decide:0<=1) ((rv.z.held s2 T.y6 λ_ z=>z.elim).held s3 n.y6 λ_ z=>z.elim)
theorem ku(R:zJ r){lo hi:Option Expr}{p2:Pos}(ok:zB C X)(h:tq r C Γ a lo hi=_s c):PE X (.Subscript a (.Slice lo hi _n p2) pos) (tE X.K Γ c.o c.Γ c.js c.f):=by refine yt h λx n h=>?_;refine yt h λl m h=>?_;refine yt h λu k h=>?_;split at h;rename_i j;cases h;obtain⟨h1,_,h2⟩:=Ct R ok n;obtain⟨p,g,d⟩:=C.T.zDV X ok.gx;exact PE.imp (Ws g h1 (Za R ok m) (Za R ok k)) λ_ _ _ h=>iI d h2 j h;cases h
def qE(r:Rec)(C:Cf)(Γ:Gm)(es:List Expr):Option CE:=(r.A C Γ [] es).bind λc=>_s ⟨1,c.Γ,c.js,SU .tup (AQ c.as)⟩
def qL(r:Rec)(C:Cf)(Γ:Gm)(es:List Expr):Option CE:=(r.A C Γ [] es).bind λc=>_s ⟨1,c.Γ,c.js,SU .lst (AQ c.as)⟩
def YR:Ev Dv:=Mm (.dct [] [])
theorem Ap.dct{K:W.Frag}{g:G}{p:A8}(zd:Zd g H)(hp:H p=_n):Ap K g H 1 (.dct [] []) (.ref p) (upd H p (.dK [])):=by have d:=CV hp (.dK []);refine⟨d,λb=>b=p,?_,λa q=>q▸hp⟩;unfold Rep;exact⟨p,[],rfl,AG,(λz=>by cases z),(λ_ z=>zd p z hp),⟨rfl,yv,AA.nil⟩,λb=>⟨λz=>⟨by decide,z⟩,λz=>z.2⟩⟩
theorem nM:PE X (.Dict [] [] pos) (tE X.K Γ 1 Γ [] YR):=PE.imp Ww λσ H Q q=>by obtain⟨g,m,P,r,R,k,res,e,q⟩:=q;intro p hp;obtain⟨Pv,s2,h1,d,f⟩:=Ap.go Step.refl r (Ap.dct r.zd hp);exact q _ m g P Pv _ _ e BU.refl s2 h1 d f
theorem dP(R:zJ r){x1:Nat}(ok:zB C X)(h:qE r C Γ es=_s c):PE X (.Tuple es x1 pos) (tE X.K Γ c.o c.Γ c.js c.f):=by refine yt h λx d h=>?_;cases h;obtain⟨k,j,_,_,g⟩:=R.A ok d;exact nF k j (g rfl)
theorem dZ(R:zJ r)(ok:zB C X)(h:qL r C Γ es=_s c):PE X (.List es pos) (tE X.K Γ c.o c.Γ c.js c.f):=by refine yt h λx d h=>?_;cases h;obtain⟨k,j,_,_,g⟩:=R.A ok d;exact nK k j (g rfl)
def Bv:Gm->Gm->Gm
 |some a::x,_s b::y=>_s (if a==b then a else 0)::Bv x y
 |_::x,_::y=>_n::Bv x y
 |_,_=>[]
def pb(t:Dv->Option Bool)(d:Ev (List Dv)):Ev Bool:=qo (one t) d
def kr(r:Rec)(C:Cf)(Γ:Gm)(a:Expr):Option CT:=(VE r C Γ a).bind λx=>_s ⟨x.Γ,x.js++[],pb C.T.tru (AQ [x.a])⟩
noncomputable def SH:Expr->Bool
 |.UnaryOp .Not _ _=>_f
 |.BoolOp _ _ _=>_f
 |.IfExp _ _ _ _=>_f
 |.Compare _ _ _ _=>_f
 |_=>_t
theorem dQ(R:zJ r){c:CT}(ok:zB C X)(y:SH a=_t)(h:kr r C Γ a=_s c):PT X a (tT X.K Γ c.Γ c.js c.f):=by
  refine yt h λx j h=>?_;cases h;obtain⟨h1,h2⟩:=IY R ok j;refine PT.imp (WX h1 λp=>?_) λσ H Q h=>?_;cases a<;>first|rfl|(cases y;done)|skip
  rename_i op b pos;cases op<;>first|rfl|(cases y;done)
  obtain⟨g,m,P,E,R',k,res,e,q⟩:=h;have t:BO X.K [x.a] σ H λvs n=>∃w,vs=[w]/\∃b,Zs X.K w n b/\Q b n:=by refine AM [x.a] E h2 e λds m' g' P' vs n M S s O u=>?_;refine yt M λb j N=>?_;unfold one at j;split at j;rename_i d;have ra:=O.ra u;unfold RA at ra;obtain⟨w,V,o,Z,rfl,_,h3,h4⟩:=ra;unfold RA at h4;subst h4;exact⟨w,rfl,b,C.T.zDN _ _ _ _ _ _ _ _ h3 j,q b m' g' P' n N S s u⟩;cases j
  revert t
  cases x.a with|ev B A W Y=>rintro⟨g,m,P,r,R,k,res,e,q⟩;refine⟨g,m,P,r,R,k,res,e,λd m' g' P' Pv v H' h1 h2 h3 h4 h5 h6=>?_⟩;obtain⟨w,l,z⟩:=q d m' g' P' Pv v H' h1 h2 h3 h4 h5 h6;cases l;exact z|rf i=>rintro⟨v,e,w,l,z⟩;cases l;exact⟨v,e,z⟩|fd i f=>rintro⟨v,e,a,U,dx,fs,D,L,J,I,G,F,w,l,z⟩;cases l;exact⟨v,e,a,U,dx,fs,D,L,J,I,G,F,z⟩
def lB(t:CT):CT:=⟨t.Γ,t.js,fo t.f⟩
def sT(a b:CT):CT:=let Γ':=Bv a.Γ b.Γ;let js:=a.js++b.js;⟨Γ',js,QY (BN Γ' js) (Ld a.f b.f λ_ m k=>k _f m)⟩
def uU(a b:CT):CT:=let Γ':=Bv a.Γ b.Γ;let js:=a.js++b.js;⟨Γ',js,QY (BN Γ' js) (Ld a.f (λ_ m k=>k _t m) b.f)⟩
theorem oF{op:BoolOp}{vs:List Expr}{t:TT}(h:PT X (.BoolOp op vs pos) t):PW X (.BoolOp op vs pos) t:=λd pins s σ H Q I q=>h pins s σ H Q I q
def eZ(r:Rec)(C:Cf)(Γ:Gm)(op:BoolOp)(vs:List Expr)(pos:Pos):Option CT:=match vs with
 |[]=>_n
 |[a]=>r.T C Γ a
 |a::b::vs=>(r.T C Γ a).bind λx=>(r.T C x.Γ (.BoolOp op (b::vs) pos)).bind λy=>if Bc (Bv x.Γ y.Γ) x.Γ&&Bc (Bv x.Γ y.Γ) y.Γ then _s (match op with|.And=>sT x y|.Or=>uU x y)else _n
theorem Vp(R:zJ r){op:BoolOp}{vs:List Expr}{c:CT}(ok:zB C X)(h:eZ r C Γ op vs pos=_s c):PT X (.BoolOp op vs pos) (tT X.K Γ c.Γ c.js c.f):=by
 match vs,h with
 |[],h=>cases h
 |[a],h=>
  cases op with|And=>exact PW.pt (bI (R.T ok h))|Or=>exact PW.pt (ib (R.T ok h))
 |a::b::vs,h=>
  refine yt h λx l h=>?_;refine yt h λy k h=>?_;split at h;rename_i d;rw[A2]at d;have ha:=R.T ok l;have j:=oF (R.T ok k);have g:∀(i o:Nat),(Bv x.Γ y.Γ)[i]?=_s (_s o)->i∈BN (Bv x.Γ y.Γ) (x.js++y.js)\/i∉x.js++y.js:=λi o h=>BL h;cases op with|And=>cases h;exact PW.pt (PW.imp (ic ha (PW.imp j λ_ _ _ h=>RH d.2 (λ_ z=>z) h)) λσ H Q h=>hG (SD g (λi z=>Az z) h) d.1)|Or=>cases h;exact PW.pt (PW.imp (oE ha (PW.imp j λ_ _ _ h=>RH d.2 (λ_ z=>z) h)) λσ H Q h=>mW (SD g (λi z=>Az z) h) d.1)
  cases h
section
variable{K:W.Frag}{Γ zC Γ':Gm}{js js2:List Nat}{σ:St}{H:Hp}
theorem aV{f:Ev Bool}{Q d:Bool->Hp->Prop}(h:tT K Γ Γ' js f σ H Q)(m:∀b H',Q b H'->d b H'):tT K Γ Γ' js f σ H d:=by obtain⟨g,m',P,r,R,k,res,e,q⟩:=h;exact⟨g,m',P,r,R,k,res,e,λb j l P1 n h1 h2 h3 h4=>m _ _ (q b j l P1 n h1 h2 h3 h4)⟩
theorem NY{a:Ar}{l j:VK}(h:∀v H,l v H->j v H)(t:KQ K a σ H l):KQ K a σ H j:=by
 cases a with|ev p n u y=>obtain⟨g,m,P,r,R,k,res,e,q⟩:=t;exact⟨g,m,P,r,R,k,res,e,λd m' g' P' Pv v H' h1 h2 h3 h4 h5 h6=>h _ _ (q d m' g' P' Pv v H' h1 h2 h3 h4 h5 h6)⟩|rf i=>obtain⟨v,e,q⟩:=t;exact⟨v,e,h _ _ q⟩|fd i f=>obtain⟨v,e,a,C,dx,fs,w,h1,h2,h3,h4,h5,q⟩:=t;exact⟨v,e,a,C,dx,fs,w,h1,h2,h3,h4,h5,h _ _ q⟩
theorem qT{o:Nat}{f:Ev Bool}(h:tE K Γ o Γ' js (QZ f) σ H Q):tT K Γ Γ' js f σ H λb H'=>Q (.bl b) H':=by obtain⟨g,m,P,r,R,k,res,e,q⟩:=h;exact⟨g,m,P,r,R,_,res,e,λb j n P1 t l p s d=>q (.bl b) j n P1 yv _ t l p (s.less λ_ z=>z.elim id D2) Cr d λ_ _ z=>z⟩
end
def fz(p f:List Dv->Option Bool)(a b c:Ar):Ev Bool:=λR m k=>AQ [a,b] R m λds d=>(p ds).bind λt=>if t=_t then AQ [c] R d λcs g=>(f (ds.getD 1 .yw::cs)).bind λu=>k u g else k _f d
theorem KB{K:W.Frag}{Z Γ' n l:Gm}{js js2 S:List Nat}{σ:St}{H:Hp}{p O:List Dv->Option Bool}{a c:Ar}{T:Ev Dv}{r N:R2}(hp:AN K (λds=>(p ds).map .bl) 0 (MC r))(hp':AN K (λds=>(O ds).map .bl) 0 (MC N))(c1:AD Γ [a,.ev n l S T] Z js)(c2:AD Z [c] Γ' js2)(hw:Bc Γ' Z=_t){Q:VK}
    (h:tT K Γ Γ' (js++js2) (fz p O a (.ev n l S T) c) σ H λb H'=>Q (.bl b) H'):PV r N (KQ K a) (tE K n 0 l S T) (KQ K c) σ H Q:=by
  obtain⟨g,m,P,rl,R,k,res,e,q⟩:=h;have key:BO K [a,.ev n l S T] σ H λvs L=>∃x y,vs=[x,y]/\r x y L λz H3=>∃k,z=.bl k/\(if k=_t then KQ K c σ H3 λw' D=>N y w' D Q else Q (.bl _f) H3):=by
    refine AM _ rl c1 e λds m1 I P1 vs L hk ag s f r1=>?_;refine yt hk λt e1 U=>?_;have ra:=f.ra r1
    -- the zDb value is frozen
    obtain⟨dx,A,x,y,rfl,rfl,ry⟩:∃dx A x y,ds=[dx,A]/\vs=[x,y]/\Rep K I L 0 A y yv:=by
      cases a with|rf i=>unfold BD at f;obtain⟨v,j,E,rfl,rfl,_,_,f⟩:=f;unfold BD at f;obtain⟨d,v',j,E,rfl,rfl,h1,f⟩:=f;unfold BD at f;obtain⟨rfl,rfl⟩:=f;exact⟨_,_,_,_,rfl,rfl,h1⟩|fd _ _=>unfold BD at f;obtain⟨d0,v,j,E,rfl,rfl,_,_,f⟩:=f;unfold BD at f;obtain⟨d,v',j,E,rfl,rfl,h1,f⟩:=f;unfold BD at f;obtain⟨rfl,rfl⟩:=f;exact⟨_,_,_,_,rfl,rfl,h1⟩|ev _ _ _ _=>unfold BD at f;obtain⟨d0,v,j,E,rfl,rfl,_,f⟩:=f;unfold BD at f;obtain⟨d,v',j,E,rfl,rfl,h1,f⟩:=f;unfold BD at f;obtain⟨rfl,rfl⟩:=f;exact⟨_,_,_,_,rfl,rfl,h1⟩
    refine⟨x,y,rfl,hp I L [dx,A] [x,y] (.bl t) _ r1.zd ra (by show(p _).map _=_;rw[e1];rfl) λv V nw=>?_⟩;obtain⟨Pv,s2,h1,r2,n2⟩:=Ap.go s r1 nw;have sm:=nw.1;have ry2:Rep K I V 0 A y yv:=ry.held (Step.same (g:=I) (P:=yv) sm) zA.yv λ_ z=>z.elim;have s3:Step g P H I P1 V:=s2.less λ_ z=>.inl z;refine⟨t,BX h1,?_⟩;cases t with
    |false=>rw[if_neg D1]at U ⊢;obtain⟨G,P4,M,F⟩:=r2.weaken hw;exact q _f m1 G P4 V U (ag.mono λ_ z=>C0 _ z) (s3.trans M) F
    |true=>
      rw[if_pos rfl]at U ⊢;have Y:BO K [c] σ V λws D=>∃w,ws=[w]/\N y w D Q:=by
        refine AM _ r2 c2 U λcs m2 G P4 ws D zu ag2 M J F=>?_;refine yt zu λu e3 e4=>?_;have B:=J.ra F;have al:=J.len
        match cs,ws,al.1,al.2,B,e3 with
        |[cd],[w],_,_,B,e3=>have ry4:Rep K G D 0 A y yv:=ry2.held M r2.y6 λ_ z=>z.elim;refine⟨w,rfl,hp' G D [A,cd] [y,w] (.bl u) Q F.zd (by unfold RA;exact⟨y,[w],0,yv,rfl,by decide,ry4,B⟩) (by show(O _).map _=_;rw[show O [A,cd]=_s u from e3];rfl) λv' H5 nw'=>?_⟩;obtain⟨Pv',s5,h5,r5,n5⟩:=Ap.go (s3.trans M) F nw';rw[BX h5];exact q u m2 G P4 H5 e4 (ag.trans ag2) (s5.less λ_ z=>.inl z) r5
      refine NY (λw D z=>?_) Y;obtain⟨w',ew,z⟩:=z;cases ew;exact z
  refine NY (λx L z=>?_) key;obtain⟨g,m,P,r,R,k,res,e,q⟩:=z;refine⟨g,m,P,r,R,k,res,e,λd m' g' P' Pv v H' h1 h2 h3 h4 h5 h6=>?_⟩;obtain⟨x',y',ev,z⟩:=q d m' g' P' Pv v H' h1 h2 h3 h4 h5 h6;cases ev;exact z
def lI(r:Rec)(C:Cf)(Γ:Gm)(a:Expr)(op:o5)(b:Expr)(d:o5)(c:Expr):Option CT:=if yN [op,d] [b,c]then _n else(C.T.zBX.find? λe=>e.op==op).bind λen=>(C.T.zBX.find? λe=>e.op==d).bind λg=>(Gf r C Γ _t a).bind λx=>(r.E C x.Γ b).bind λy=>(Gf r C y.Γ _t c).bind λz =>
 if FM x.a y.Γ&&FM z.a z.Γ&&Bc z.Γ y.Γ then _s ⟨z.Γ,(x.js++(y.js++[]))++(z.js++[]),fz (two en.f) (two g.f) x.a (.ev x.Γ y.Γ y.js y.f) z.a⟩ else _n
theorem dh(R:zJ r){c:Expr}{d:o5}{t:CT}(ok:zB C X)(h:lI r C Γ a op b d c=_s t):PT X (.Compare a [op,d] [b,c] pos) (tT X.K Γ t.Γ t.js t.f)/\∀o,PE X (.Compare a [op,d] [b,c] pos) (tE X.K Γ o t.Γ t.js (QZ t.f)):=by
 unfold lI at h;split at h;cases h;rename_i hm;rw[xJ]at hm;refine yt h λen P h=>?_;refine yt h λl O h=>?_;refine yt h λx N h=>?_;refine yt h λy L h=>?_;refine yt h λz M h=>?_;split at h;rename_i w;simp only[A2]at w;obtain⟨⟨w2,G⟩,p⟩:=w;cases h;have J:en.op=op:=by simpa using M3 P
 have n:l.op=d:=by simpa using M3 O
 obtain⟨T,m,u⟩:=en.ok X ok.gx;obtain⟨I,g,j⟩:=l.ok X ok.gx;rw[J]at m;rw[n]at g;obtain⟨F,_,S⟩:=Ct R ok N;obtain⟨b1,_,b2⟩:=Ct R ok M;have A:=EK (R.E ok L);have D:AD Γ [x.a,.ev x.Γ y.Γ y.js y.f] y.Γ (x.js++(y.js++[])):=S (by unfold AD;exact⟨rfl,_,rfl,CJ⟩) w2;have B:AD y.Γ [z.a] z.Γ (z.js++[]):=b2 CJ G;exact⟨PT.imp (WY m g F A b1 hm) λσ H Q h=>KB (Q:=λv H'=>∃k,v=V.bl k/\Q k H') u j D B p (aV h λb H' q=>⟨b,rfl,q⟩),λo=>PE.imp (Wy m g F A b1 hm) λσ H Q h=>KB u j D B p (qT h)⟩;cases h
def tw(r:Rec)(C:Cf)(Γ:Gm)(a:Expr)(op:o5)(b:Expr)(d:o5)(c:Expr):Option CT:=_n
theorem lH(R:zJ r){c:Expr}{d:o5}{t:CT}(ok:zB C X)(h:tw r C Γ a op b d c=_s t):PT X (.Compare a [op,d] [b,c] pos) (tT X.K Γ t.Γ t.js t.f)/\∀o,PE X (.Compare a [op,d] [b,c] pos) (tE X.K Γ o t.Γ t.js (QZ t.f)):=by cases h
def Qq(r:Rec)(C:Cf)(Γ:Gm)(a:Expr)(op:o5)(b:Expr)(d:o5)(c:Expr):Option CT:=match PH C b with
 |some _=>tw r C Γ a op b d c
 |none=>lI r C Γ a op b d c
theorem Si(R:zJ r){c:Expr}{d:o5}{t:CT}(ok:zB C X)(h:Qq r C Γ a op b d c=_s t):PT X (.Compare a [op,d] [b,c] pos) (tT X.K Γ t.Γ t.js t.f)/\∀o,PE X (.Compare a [op,d] [b,c] pos) (tE X.K Γ o t.Γ t.js (QZ t.f)):=by unfold Qq at h;split at h;exact lH R ok h;exact dh R ok h
def eW(r:Rec)(C:Cf)(Γ:Gm)(e:Expr):Option CT:=match e with
 |.Compare a [op] [b] _=>Qp r C Γ a op b
 |.Compare a [op,d] [b,c] _=>Qq r C Γ a op b d c
 |.UnaryOp .Not x _=>(r.T C Γ x).map lB
 |.BoolOp op vs pos=>eZ r C Γ op vs pos
 |e=>if SH e then kr r C Γ e else _n
theorem Vj(R:zJ r){c:CT}(ok:zB C X)(h:eW r C Γ e=_s c):PT X e (tT X.K Γ c.Γ c.js c.f):=by
 have val:SH e=_t->(if SH e then kr r C Γ e else _n)=_s c->PT X e (tT X.K Γ c.Γ c.js c.f):=λg h=>by rw[if_pos g]at h;exact dQ R ok g h
 match e,h with
 |.Compare a ops bs pos,h=>
  match ops,bs,h with
  |[op],[b],h=>exact(Sh R ok h).1
  |[op,j],[b,c],h=>exact(Si R ok h).1
  |[],_,h=>cases h
  |[_],[],h=>cases h
  |[_],_::_::_,h=>cases h
  |[_,_],[],h=>cases h
  |[_,_],[_],h=>cases h
  |[_,_],_::_::_::_,h=>cases h
  |_::_::_::_,_,h=>cases h
 |.UnaryOp op x pos,h=>
  cases op with
  |Not=>
   cases q:r.T C Γ x with|none=>replace h:(r.T C Γ x).map lB=_s c:=h;rw[q]at h;cases h|some t=>replace h:(r.T C Γ x).map lB=_s c:=h;rw[q]at h;cases h;exact PT.imp (ie (R.T ok q)) λ_ _ _ h=>gy h
  |_=>exact val rfl h
 |.BoolOp op vs pos,h=>exact Vp R ok h
 |.IfExp a b k d,h=>cases h
 |.NamedExpr ..,h|.BinOp ..,h|.Lambda ..,h|.Dict ..,h|.Set ..,h|.ListComp ..,h|.SetComp ..,h|.DictComp ..,h|.GeneratorExp ..,h|.Await ..,h|.Yield ..,h|.YieldFrom ..,h|.Call ..,h|.FormattedValue ..,h|.JoinedStr ..,h|.Constant ..,h|.Attribute ..,h|.Subscript ..,h|.Starred ..,h|.Name ..,h|.List ..,h|.Tuple ..,h|.Slice ..,h=>exact val rfl h
noncomputable def qq{R:Type}(d:Dv)(k:Bool->Option R):Option R:=match d with|.bl b=>k b|_=>_n
theorem KD{R:Type}{d:Dv}{k:Bool->Option R}{r:R}(h:qq d k=_s r):∃b,d=.bl b/\k b=_s r:=by cases d<;>first|(cases h;done)|exact⟨_,rfl,h⟩
def Yd(f g:Ev Dv):Ev Dv:=λR m k=>f R m λd h=>qq d λb=>if b=_t then g R h k else k (.bl _f) h
def fj(f g:Ev Dv):Ev Dv:=λR m k=>f R m λd h=>qq d λb=>if b=_t then k (.bl _t) h else g R h k
def YQ(f:Ev Dv):Ev Dv:=λR m k=>f R m λd g=>qq d λb=>k (.bl (!b)) g
section
variable{K:W.Frag}{Γ Γ' zC:Gm}{js js2:List Nat}{σ:St}{H:Hp}{f u:Ev Dv}{Q:VK}
theorem iB(L:Bc Γ' zC=_t)(h:tE K Γ 0 Γ' (js++js2) (Yd f u) σ H Q):eV (tE K Γ 0 zC js f) (tE K zC 0 Γ' js2 u) σ H Q:=by
 obtain⟨g,m,P,r,R,k,res,e,q⟩:=h;refine⟨g,m,P,r,R,_,res,e,λd B D P1 Pv v F j E s rv A n=>?_⟩;replace j:=KD j;obtain⟨b,rfl,j⟩:=j;have s1:Step _ _ _ D P1 F:=s.less λ_ z=>.inl z;refine⟨b,BX rv,?_⟩;cases b with|true=>rw[if_pos rfl]at j ⊢;exact⟨D,B,P1,A,R,k,res,j,λd J t P2 M w N G y s2 l p I=>q d J t P2 M w N G (E.trans y) (s1.trans s2) l p I⟩|false=>rw[if_neg D1]at j ⊢;obtain⟨t,P2,s2,p⟩:=A.weaken L;exact q _ B t P2 yv _ F j (E.mono λ_ z=>C0 _ z) ((s1.trans s2).less λ_ z=>z.elim id D2) Cr p λ_ _ z=>z
theorem me(L:Bc Γ' zC=_t)(h:tE K Γ 0 Γ' (js++js2) (fj f u) σ H Q):mZ (tE K Γ 0 zC js f) (tE K zC 0 Γ' js2 u) σ H Q:=by
 obtain⟨g,m,P,r,R,k,res,e,q⟩:=h;refine⟨g,m,P,r,R,_,res,e,λd B D P1 Pv v F j E s rv A n=>?_⟩;replace j:=KD j;obtain⟨b,rfl,j⟩:=j;have s1:Step _ _ _ D P1 F:=s.less λ_ z=>.inl z;refine⟨b,BX rv,?_⟩;cases b with|false=>rw[if_neg D1]at j ⊢;exact⟨D,B,P1,A,R,k,res,j,λd J t P2 M w N G y s2 l p I=>q d J t P2 M w N G (E.trans y) (s1.trans s2) l p I⟩|true=>rw[if_pos rfl]at j ⊢;obtain⟨t,P2,s2,p⟩:=A.weaken L;exact q _ B t P2 yv _ F j (E.mono λ_ z=>C0 _ z) ((s1.trans s2).less λ_ z=>z.elim id D2) Cr p λ_ _ z=>z
theorem iA(h:tE K Γ 0 Γ' js (YQ f) σ H Q):eQ (tE K Γ 0 Γ' js f) σ H Q:=by obtain⟨g,m,P,r,R,k,res,e,q⟩:=h;refine⟨g,m,P,r,R,_,res,e,λd p t P1 Pv v y j w s rv l n=>?_⟩;replace j:=KD j;obtain⟨b,rfl,j⟩:=j;exact⟨b,BX rv,q _ p t P1 yv _ y j w (s.less λ_ z=>z.elim .inl D2) Cr l λ_ _ z=>z⟩
end
def qI(r:Rec)(C:Cf)(Γ:Gm)(x:Expr):Option CE:=(r.E C Γ x).bind λc=>_s ⟨0,c.Γ,c.js,YQ c.f⟩
def Vq(r:Rec)(C:Cf)(Γ:Gm)(op:BoolOp)(vs:List Expr)(pos:Pos):Option CE:=match vs with
 |[]=>_n
 |[a]=>r.E C Γ a
 |a::b::vs=>(r.E C Γ a).bind λx=>(r.E C x.Γ (.BoolOp op (b::vs) pos)).bind λy=>let Γ':=Bv x.Γ y.Γ;let js:=x.js++y.js;if Bc Γ' x.Γ&&Bc Γ' y.Γ then _s ⟨0,Γ',js,QY (BN Γ' js) (match op with|.And=>Yd x.f y.f|.Or=>fj x.f y.f)⟩ else _n
theorem TM(R:zJ r){op:BoolOp}{vs:List Expr}(ok:zB C X)(h:Vq r C Γ op vs pos=_s c):PE X (.BoolOp op vs pos) (tE X.K Γ c.o c.Γ c.js c.f):=by
 match vs,h with
 |[],h=>cases h
 |[a],h=>exact jG (R.E ok h)
 |a::b::vs,h=>
  refine yt h λx l h=>?_;refine yt h λy k h=>?_;simp only at h;split at h;rename_i d;rw[A2]at d;have ha:=EK (R.E ok l);have j:=EK (R.E ok k);have g:∀(i o:Nat),(Bv x.Γ y.Γ)[i]?=_s (_s o)->i∈BN (Bv x.Γ y.Γ) (x.js++y.js)\/i∉x.js++y.js:=λi o h=>BL h;cases op with|And=>cases h;exact PE.imp (jM ha (PE.imp j λ_ _ _ h=>IE d.2 (λ_ z=>z) h)) λσ H Q h=>iB d.1 (IR g (λi z=>Az z) h)|Or=>cases h;exact PE.imp (oM ha (PE.imp j λ_ _ _ h=>IE d.2 (λ_ z=>z) h)) λσ H Q h=>me d.1 (IR g (λi z=>Az z) h)
  cases h
def qM(r:Rec)(C:Cf)(Γ:Gm)(c a b:Expr):Option CE:=(r.T C Γ c).bind λt=>(r.E C t.Γ a).bind λx=>(r.E C t.Γ b).bind λy=>let Γ':=Bv x.Γ y.Γ;let js:=t.js++(x.js++y.js);if Bc Γ' x.Γ&&Bc Γ' y.Γ then _s ⟨0,Γ',js,QY (BN Γ' js) (Ld t.f x.f y.f)⟩ else _n
theorem de(R:zJ r){c:Expr}{d:CE}(ok:zB C X)(h:qM r C Γ c a b=_s d):PE X (.IfExp c a b pos) (tE X.K Γ d.o d.Γ d.js d.f):=by refine yt h λt l h=>?_;refine yt h λx k h=>?_;refine yt h λy j h=>?_;simp only at h;split at h;rename_i g;rw[A2]at g;cases h;exact PE.imp (Wv (R.T ok l) (PE.imp (EK (R.E ok k)) λ_ _ _ h=>IE g.1 (λ_ z=>z) h) (PE.imp (EK (R.E ok j)) λ_ _ _ h=>IE g.2 (λ_ z=>z) h)) λσ H Q h=>mf (IR (λi o z=>BL z) (λi z=>Az z) h);cases h
theorem BI(h:es.all noStar=_t):(P8 pos (D7 es env)).any (·.1)=false:=by
 induction es with|nil=>rfl|cons e es d=>rw[M1,A2]at h;rw[AJ h.1];show(_f||(P8 pos (D7 es env)).any (·.1))=_f;rw[d h.2];rfl
theorem lN(h:es.all noStar=_t):(P8 pos (D7 es env)).all (λx=>!x.1)=true:=by
 induction es with|nil=>rfl|cons e es d=>rw[M1,A2]at h;rw[AJ h.1];show(_t&&(P8 pos (D7 es env)).all (λx=>!x.1))=_t;rw[d h.2];rfl
def gE(r:Rec)(C:Cf)(Γ:Gm)(s:zN)(es:List Expr):Option CE:=(r.A C Γ ((B6 es.length).map s.io.contains) es).bind λc=>if zH c.as s.io&&(es.length==s.ps.length)&&(slots c.as s.io).all (λi=>c.Γ.getD i _n==_s 1)then _s ⟨s.ro,c.Γ,c.js++slots c.as s.io,Mq s c.as⟩ else _n
theorem ZN(R:zJ r){p:Pos}(ok:zB C X)(u:(x,s)∈C.fs/\s.cl=_n)(n:Gl X x)(hn:OG x=_t)(h:gE r C Γ s es=_s c):PE X (.Call (.Name x p) es [] pos) (tE X.K Γ c.o c.Γ c.js c.f):=by
 refine yt h λd v h=>?_;split at h;rename_i k;simp only[A2,E4,beq_iff_eq]at k;cases h;obtain⟨y,w,q,l,_⟩:=R.A ok v;obtain⟨nd,t,j,z,m,g,F⟩:=ok.fx u;have run:∀{σ H Q},tE X.K Γ s.ro d.Γ (d.js++slots d.as s.io) (Mq s d.as) σ H Q->rP (spF X.K s) (BO X.K d.as) σ H Q:=λh=>Oq w k.1.1 (q.trans k.1.2) nd t (λi hi=>Aq (k.2 i hi)) h;cases es with|nil=>have e:d.as=[]:=G9 q;refine PE.imp (jL F g m n (Bm hn).1) λσ H Q h=>?_;have:=run h;rw[e]at this;exact this|cons e es=>rw[M1,A2]at l;exact PE.imp (oP F g m n y (Bm hn).1 (AJ l.1) (BI l.2)) λσ H Q h=>run h
 cases h
noncomputable def uS:Expr->Bool
 |.Call ..=>_t
 |_=>_f
def qH(r:Rec)(C:Cf)(Γ:Gm)(s:zN)(es:List Expr):Option CE:=gE r C Γ s es
theorem dW(R:zJ r){p:Pos}(ok:zB C X)(d:(x,s)∈C.fs/\s.cl=_n)(g:Gl X x)(hn:OG x=_t)(h:qH r C Γ s es=_s c):PE X (.Call (.Name x p) es [] pos) (tE X.K Γ c.o c.Γ c.js c.f):=ZN R ok d g hn h
def ZM(r:Rec)(C:Cf)(Γ:Gm)(en:zCR)(es:List Expr):Option CE:=if es.isEmpty then _n else(r.A C Γ (C5 es.length _t) es).bind λc=>_s ⟨en.o,c.Γ,c.js,HY en.f (AQ c.as)⟩
theorem ZL(R:zJ r){en:zCR}{p:Pos}(ok:zB C X)(m:en.x∈C.bl)(l:Gl X en.x)(hn:OG en.x=_t)(h:ZM r C Γ en es=_s c):PE X (.Call (.Name en.x p) es [] pos) (tE X.K Γ c.o c.Γ c.js c.f):=by
 cases es with
 |nil=>cases h
 |cons e es=>
  unfold ZM at h;rw[if_neg (by simp)]at h;refine yt h λw u h=>?_;cases h;obtain⟨t,q,y,g,_⟩:=R.A ok u;rw[M1,A2]at g;obtain⟨v,k,d⟩:=en.ok X ok.gx;have n:=Bm hn;rcases d with⟨id,d,j⟩|⟨T,d,j⟩
  exact PE.imp (Wz d l (ok.bl _ m) j t n.2.2 n.1 (AJ g.1) (BI g.2)) λ_ _ _ h=>Da k q h;exact PE.imp (Ti d l (ok.bl _ m) j t n.2.2 n.1 (AJ g.1) (BI g.2)) λ_ _ _ h=>Da k q h
noncomputable def Zc:Expr->Bool
 |.Call _ _ _ _=>_f
 |_=>_t
theorem FI{name:Str}{w:Sem _v}(h:Zc o=_t):N0 o name env w=w:=by cases o<;>first|rfl|(cases h)
def lC(r:Rec)(C:Cf)(Γ:Gm)(en:zCP)(i:Nat)(es:List Expr):Option CE:=if es.length < 29&&(Γ.getD i _n).isSome then(r.A C Γ [] es).bind λc=>if c.Γ.getD i _n==_s 1 then _s ⟨0,c.Γ,c.js++[i],YS en.T i en.p (AQ c.as)⟩ else _n else _n
theorem HX(h:(e::es).all noStar=_t)(d:(e::es).length < 29):((P8 pos (D7 (e::es) env)).all (λx=>!x.1)&&(o6 pos (V5 [] env)).all (λx=>x.1.isSome)
     &&decide ((e::es).length+([]:List d8).length+(if([]:List d8).isEmpty then 0 else 1) < 30))=true:=by
  rw[lN h];show(_t&&_t&&decide _)=_t;simp only[L0,T7,decide_eq_true_eq,vJ,uz,if_true];omega
variable{apos:Pos}
theorem dY(R:zJ r){en:zCP}(ok:zB C X)(hi:PH C o=_s i)(l:(apos.endLine==pos.line)=_t)(h:lC r C Γ en i es=_s c):PE X (.Call (.Attribute o en.x apos) es [] pos) (tE X.K Γ c.o c.Γ c.js c.f):=by
 unfold lC at h;split at h;rename_i h0;simp only[A2,decide_eq_true_eq]at h0;refine yt h λd y h=>?_;split at h;rename_i h1;cases h;obtain⟨E,D,B,g,z⟩:=R.A ok y;obtain⟨id,v,t,q,n,m,w⟩:=en.ok X ok.gx;have u:=Bn ok hi;have k:N0 o en.x X.env (L8 o X.env)=L8 o X.env:=FI (by cases o<;>first|rfl|(cases hi));have run:∀{σ H Q},tE X.K Γ 0 d.Γ (d.js++[i]) (YS en.T i en.p (AQ d.as)) σ H Q->iD X.K en.T v (Cb i) (BO X.K d.as) σ H Q:=λh=>cN w en.hT D (z rfl) (getD_some h0.2) (Aq (beq_iff_eq.mp h1)) h;cases es with
 |nil=>have e:d.as=[]:=G9 B;refine PE.imp (QA t q n m u k l) λσ H Q h=>?_;have:=run h;rw[e]at this;exact this
 |cons e es=>have j:=g;rw[M1,A2]at g;exact PE.imp (XB t q n m u E k (HX j h0.1) l (AJ g.1) (BI g.2)) λσ H Q h=>run h
 cases h;cases h
def qK(r:Rec)(C:Cf)(Γ:Gm)(en:zBu)(o:Expr)(es:List Expr):Option CE:=if es.length < 29&&Zc o then(Gf r C Γ _t o).bind λx=>(r.A C x.Γ (C5 es.length _t) es).bind λc=>if FM x.a c.Γ then _s ⟨en.o,c.Γ,x.js++c.js,YT en.T x.a c.as en.f⟩ else _n else _n
theorem Qn(R:zJ r){en:zBu}(ok:zB C X)(p:(apos.endLine==pos.line)=_t)(hn:en.n=es.length)(h:qK r C Γ en o es=_s c):PE X (.Call (.Attribute o en.x apos) es [] pos) (tE X.K Γ c.o c.Γ c.js c.f):=by
 unfold qK at h;split at h;rename_i h0;simp only[A2,decide_eq_true_eq]at h0;refine yt h λx F h=>?_;refine yt h λd E h=>?_;split at h;rename_i h1;cases h;obtain⟨u,_,z⟩:=Ct R ok F;obtain⟨D,B,G,g,I⟩:=R.A ok E;obtain⟨id,w,l,k,t,q,y⟩:=en.ok X ok.gx;have m:N0 o en.x X.env (L8 o X.env)=L8 o X.env:=FI h0.2;rcases en.hT with hT|⟨hT,v⟩
 have run:∀{σ H Q},tE X.K Γ en.o d.Γ (x.js++d.js) (YT en.T x.a d.as en.f) σ H Q->iD X.K en.T w (KQ X.K x.a) (BO X.K d.as) σ H Q:=λh=>jr y hT (z B h1) h;cases es with|nil=>have e:d.as=[]:=G9 G;refine PE.imp (QA l k t q u m p) λσ H Q h=>?_;have:=run h;rw[e]at this;exact this|cons e es=>have j:=g;rw[M1,A2]at g;exact PE.imp (XB l k t q u D m (HX j h0.1) p (AJ g.1) (BI g.2)) λσ H Q h=>run h
 have run:∀{σ H Q},tE X.K Γ en.o d.Γ (x.js++d.js) (YT en.T x.a d.as en.f) σ H Q->rR w (KQ X.K x.a) (BO X.K d.as) σ H Q:=λh=>cQ y (z B h1) (by rw[hT]at h;exact h);rw[hT]at l k;cases es with|nil=>rw[v]at hn;cases hn|cons e es=>have j:=g;rw[M1,A2]at g;exact PE.imp (oQ l k t q u D m (HX j h0.1) p (AJ g.1) (BI g.2)) λσ H Q h=>run h
 cases h;cases h
def kq(d g:CE):Option CE:=if d.o==g.o&&d.Γ==g.Γ&&d.js==g.js then _s ⟨d.o,d.Γ,d.js,QY (BN d.Γ d.js) (kb d.f g.f)⟩ else _n
theorem dO{g d:CE}(h1:PE X e (tE X.K Γ g.o g.Γ g.js g.f))(h2:PE X e (tE X.K Γ d.o d.Γ d.js d.f))(h:kq g d=_s c):PE X e (tE X.K Γ c.o c.Γ c.js c.f):=by
 unfold kq at h;split at h;rename_i h0;simp only[A2,beq_iff_eq]at h0;obtain⟨⟨l,k⟩,j⟩:=h0;cases h;rw[<- l,<- k,<- j]at h2;intro pins s σ H Q I q;rcases hZ (IR (λi o z=>BL z) (λi z=>Az z) q)with q|q
 exact h1 pins s σ H Q I q;exact h2 pins s σ H Q I q;cases h
def ZR(r:Rec)(C:Cf)(Γ:Gm)(en:zCP)(i:Nat)(f:Str)(es:List Expr):Option CE:=if es.length < 29&&(Γ.getD i _n).isSome then(r.A C Γ [] es).bind λc=>if c.Γ.getD i _n==_s 1 then _s ⟨0,c.Γ,c.js++[i],Mn en.T i f en.p (AQ c.as)⟩ else _n else _n
theorem ZQ(R:zJ r){en:zCP}{q:Nat×Str}(ok:zB C X)(hi:aB C o=_s q)(l:(apos.endLine==pos.line)=_t)(h:ZR r C Γ en q.1 q.2 es=_s c):PE X (.Call (.Attribute o en.x apos) es [] pos) (tE X.K Γ c.o c.Γ c.js c.f):=by
 unfold ZR at h;split at h;rename_i h0;simp only[A2,decide_eq_true_eq]at h0;refine yt h λd z h=>?_;split at h;rename_i h1;cases h;obtain⟨F,E,D,g,B⟩:=R.A ok z;obtain⟨id,w,u,t,n,m,y⟩:=en.ok X ok.gx;have v:=Jv ok hi;have k:N0 o en.x X.env (L8 o X.env)=L8 o X.env:=FI (by cases o<;>first|rfl|(cases hi));have run:∀{σ H Q},tE X.K Γ 0 d.Γ (d.js++[q.1]) (Mn en.T q.1 q.2 en.p (AQ d.as)) σ H Q->iD X.K en.T w (MG X.K (Cb q.1) q.2) (BO X.K d.as) σ H Q:=λh=>XI y en.hT E (B rfl) (getD_some h0.2) (Aq (beq_iff_eq.mp h1)) h;cases es with
 |nil=>have e:d.as=[]:=G9 D;refine PE.imp (QA u t n m v k l) λσ H Q h=>?_;have:=run h;rw[e]at this;exact this
 |cons e es=>have j:=g;rw[M1,A2]at g;exact PE.imp (XB u t n m v F k (HX j h0.1) l (AJ g.1) (BI g.2)) λσ H Q h=>run h
 cases h;cases h
def ZT(r:Rec)(C:Cf)(Γ:Gm)(d:Str)(s:zN)(i:Nat)(es:List Expr):Option CE:=if es.length < 29&&(Γ.getD i _n).isSome then(r.A C Γ ((B6 es.length).map λj=>s.io.contains (j+1)) es).bind λc=>if cU c.Γ i&&zH (.rf i::c.as) s.io&&(es.length+1==s.ps.length)&&(slots (.rf i::c.as) s.io).all (λj=>c.Γ.getD j _n==_s 1)then _s ⟨s.ro,c.Γ,c.js++slots (.rf i::c.as) s.io,Mo s (s.cl.getD "") d i c.as⟩ else _n else _n
theorem Hb{name:Str}{apos pos:Pos}{args:List Expr}(g:N0 o name env (L8 o env)=L8 o env)
    (d:methodCallForm (args.length+([]:List d8).length) (P8 pos (D7 args env)) (o6 pos (V5 [] env))=_t) (h:(apos.endLine==pos.line)=_t) :
    L8 (.Call (.Attribute o name apos) args [] pos) env=(do
      let ov <- L8 o env
      vh apos.atName
      let (f,first) <- Z1 [ov] (uq ov name (do return (<- importBound o env).getD _t))
      xv pos f first (P8 pos (D7 args env)) (o6 pos (V5 [] env))):=by
  have hpos:methodCallPos _t o env apos pos=pure pos:=by unfold methodCallPos;simp[h]
  rw[arm_eval_Call,g];unfold methodCall;rw[d,hpos];rfl
theorem MX(h:X.xe=λ_ _=>False):DQ Gq X E0:=λ_ _ _ _ _ _ _ z=>z.elim
theorem ZS(R:zJ r){g cl:Str}(ok:zB C X)(I:(g,s)∈C.fs)(m:s.cl=_s cl)(hi:PH C o=_s i)(u:(apos.endLine==pos.line)=_t)(h:ZT r C Γ g s i es=_s c):PE X (.Call (.Attribute o g apos) es [] pos) (tE X.K Γ c.o c.Γ c.js c.f):=by
 obtain⟨v,po,rfl⟩:∃v po,o=.Name v po:=by cases o<;>first|exact⟨_,_,rfl⟩|(cases hi)
 unfold ZT at h;split at h;rename_i h0;simp only[A2,decide_eq_true_eq]at h0;obtain⟨q,h0⟩:=h0;refine yt h λd L h=>?_;split at h;rename_i k;simp only[A2,E4,beq_iff_eq]at k;cases h;obtain⟨N,M,w,n,_⟩:=R.A ok L;obtain⟨nd,E,j,O,P,p,F⟩:=ok.fs g s I;unfold Fz at F;rw[m]at F;obtain⟨G,f,fd,J,D,B,z,y,S,_⟩:=F;have ch:AD Γ (.rf i::d.as) d.Γ d.js:=by unfold AD;exact⟨getD_some h0,Fi k.1.1.1,M⟩
 have run:∀{σ H Q},tE X.K Γ s.ro d.Γ (d.js++slots (.rf i::d.as) s.io) (Mo s (s.cl.getD "") g i d.as) σ H Q->RP (As X.K cl) g (spF X.K s) [] E0 (Cb i) (BO X.K d.as) σ H Q:=λh=>by rw[m]at h;exact XR ch k.1.1.2 (by rw[<- k.1.2];simp[w]) nd E (λi hi=>Aq (k.2 i hi)) h
 have l:y9 G X.A:=p.mono (by omega);cases es with|nil=>have e:d.as=[]:=G9 w;refine PE.imp (Wt (Bn ok hi) y.1 z D l B .nil (MX ok.xe) (Hb rfl rfl u)) λσ H Q h=>?_;have:=run h;rw[e]at this;exact this|cons e es=>have t:=n;rw[M1,A2]at n;exact PE.imp (bf (Bn ok hi) y.1 z D l B .nil (MX ok.xe) N (AJ n.1) (BI n.2) (Hb rfl (HX t q) u)) λσ H Q h=>run h
 cases h;cases h
def gF(r:Rec)(C:Cf)(Γ:Gm)(s:zN)(x:Str)(es:List Expr):Option CE:=(r.A C Γ [] es).bind λc=>if(es.length+1==s.ps.length)&&s.io==[0]then _s ⟨1,c.Γ,c.js,QX s x C.fl c.as⟩ else _n
theorem ZU(R:zJ r){p:Pos}(ok:zB C X)(B:(("__init__" : Str),s)∈C.fs)(m:s.cl=_s x)(q:Gl X x)(hn:OG x=_t)(h:gF r C Γ s x es=_s c):PE X (.Call (.Name x p) es [] pos) (tE X.K Γ c.o c.Γ c.js c.f):=by
 refine yt h λg E h=>?_;split at h;rename_i k;simp only[A2,beq_iff_eq]at k;cases h;obtain⟨J,I,t,n,G⟩:=R.A ok E;obtain⟨nd,M,j,N,O,l,F⟩:=ok.fs "__init__" s B;unfold Fz at F;rw[m]at F;obtain⟨z,f,fd,D,y,w,P,L,v,u⟩:=F;have run:∀{σ H Q},tE X.K Γ 1 g.Γ g.js (QX s x C.fl g.as) σ H Q->RQ (As X.K x) (spF X.K s) [] E0 (BO X.K g.as) σ H Q:=λh=>XZ L k.2 (by rw[<- k.1,t]) (G rfl) I h;have d:y9 (z+1) X.A:=l.mono (by omega);cases es with|nil=>have e:g.as=[]:=G9 t;refine PE.imp (Wu (u rfl) y d q v w .nil (MX ok.xe) (Bm hn).1) λσ H Q h=>?_;have:=run h;rw[e]at this;exact this|cons e es=>rw[M1,A2]at n;exact PE.imp (bj (u rfl) y d q v w .nil (MX ok.xe) J (Bm hn).1 (AJ n.1) (BI n.2)) λσ H Q h=>run h
 cases h
def sP(r:Rec)(C:Cf)(Γ:Gm)(o:Expr)(es:List Expr):List zBu->Option CE
 |[]=>_n
 |[en]=>qK r C Γ en o es
 |en::d::_=>(qK r C Γ en o es).bind λg=>(qK r C Γ d o es).bind λf=>kq g f
def Ow(r:Rec)(C:Cf)(Γ:Gm)(f:Expr)(es:List Expr)(pos:Pos):Option CE:=match f with
  |.Name x _=>if Kd C.sc x&&OG x then(match C.fs.find? λp=>p.1==x&&p.2.cl==_n with
      |some p=>qH r C Γ p.2 es
      |none=>match C.fs.find? λp=>p.1==("__init__" : Str)&&p.2.cl==_s x with
      |some p=>gF r C Γ p.2 x es
      |none=>(C.T.calls.find? λe=>e.x==x&&e.n==es.length).bind λen=>if C.bl.contains x then ZM r C Γ en es else _n)else _n
  |.Attribute o name apos=>if apos.endLine==pos.line then(match C.T.zDZ.find? λe=>e.x==name&&e.n==es.length with
      |some en=>(match aB C o with
        |some q=>ZR r C Γ en q.1 q.2 es
        |none=>(PH C o).bind λi=>lC r C Γ en i es)
      |none=>match C.fs.find? λp=>p.1==name&&p.2.cl != _n with
        |some p=>(PH C o).bind λi=>ZT r C Γ name p.2 i es
        |none=>sP r C Γ o es (C.T.meths.filter λe=>e.x==name&&e.n==es.length))else _n
  |_=>_n
theorem Ov(R:zJ r){f:Expr}(ok:zB C X)(h:Ow r C Γ f es pos=_s c):PE X (.Call f es [] pos) (tE X.K Γ c.o c.Γ c.js c.f):=by
 cases f with
 |Name x p=>simp only[Ow]at h;split at h;rename_i h0;rw[A2]at h0;split at h;rename_i j hp;have e:=M3 hp;simp only[A2,beq_iff_eq]at e;have hm:=S2 hp;exact dW R ok (s:=j.2) ⟨by rw[<- e.1];exact hm,e.2⟩ (Ck ok h0.1) h0.2 h;split at h;rename_i j hp;have e:=M3 hp;simp only[A2,beq_iff_eq]at e;have hm:=S2 hp;exact ZU R ok (s:=j.2) (by rw[<- e.1];exact hm) e.2 (Ck ok h0.1) h0.2 h;replace h:=zK h;obtain⟨en,d,h⟩:=h;split at h;rename_i A;have e:=M3 d;simp only[A2,beq_iff_eq]at e;obtain⟨rfl,_⟩:=e;exact ZL R ok (C6.mp A) (Ck ok h0.1) h0.2 h;cases h;cases h
 |Attribute o name apos=>
  simp only[Ow]at h;split at h;rename_i g;split at h;rename_i en k;have e:=M3 k;simp only[A2,beq_iff_eq]at e;obtain⟨rfl,_⟩:=e;split at h;rename_i q z;exact ZQ R ok z g h;refine yt h λi d h=>?_;exact dY R ok d g h;split at h;rename_i j hp;have e:=M3 hp;simp only[A2,beq_iff_eq,bne_iff_ne,ne_eq]at e;obtain⟨cl,l⟩:=Option.ne_none_iff_exists'.mp e.2;have hm:=S2 hp;refine yt h λi d h=>?_;exact ZS R ok (s:=j.2) (by rw[<- e.1];exact hm) l d g h;have hm:∀en∈C.T.meths.filter λe=>e.x==name&&e.n==es.length,en.x=name/\en.n=es.length:=λen k=>by have:=(S4.mp k).2;simp only[A2,beq_iff_eq]at this;exact this
  revert h hm
  generalize (C.T.meths.filter λe=>e.x==name&&e.n==es.length)=L;intro h hm
  match L,hm,h with
  |[],hm,h=>cases h
  |[en],hm,h=>obtain⟨rfl,t⟩:=hm en B2;exact Qn R ok g t h
  |en::m::_,hm,h=>refine yt h λD d h=>?_;refine yt h λB t h=>?_;obtain⟨y,w⟩:=hm en B2;obtain⟨v,u⟩:=hm m (B1 _ B2);have p1:=Qn (pos:=pos) (apos:=apos) R ok g w d;have p2:=Qn (pos:=pos) (apos:=apos) R ok g u t;rw[y]at p1;rw[v]at p2;exact dO p1 p2 h
  cases h
 |_=>cases h
def Ki(C:Cf)(x:Str):Option Nat:=if OG x then(match C.sc.names.lookup x with
 |some .local=>Co C.N x
 |some .cell=>if C.fn x then Co C.N x else _n
 |_=>_n)else _n
theorem IX(ok:zB C X)(h:Ki C x=_s i):X.N[i]?=_s x/\Loc X.env.scope x/\(X.fn x=_t\/X.env.scope.names.lookup x=_s .local):=by unfold Ki at h;split at h;split at h;rename_i e;rw[ok.N,ok.sc];exact⟨BP h,.inl e,.inr e⟩;rename_i e;split at h;rename_i d;rw[ok.N,ok.sc];exact⟨BP h,.inr e,.inl (ok.fn x d)⟩;cases h;cases h;cases h
theorem So(ok:zB C X)(h:Ki C x=_s i):PG X (.Name x pos) (DC i):=by obtain⟨h1,h2,h3⟩:=IX ok h;exact ba ok.nd h1 h2 h3
def lZ(C:Cf):List Expr->Option (List Nat)
 |[]=>_s []
 |.Name x _::es=>(Ki C x).bind λi=>(lZ C es).bind λJ=>_s (i::J)
 |_::_=>_n
theorem Vd{C:Cf}{X:Cx}(ok:zB C X):∀{es:List Expr}{J:List Nat},lZ C es=_s J->lS X es (Eh J)/\(N3 es X.env).length=J.length/\(N3 es X.env).findIdx? (·.1)=_n
 |[],J,h=>by cases h;exact⟨Rq,rfl,rfl⟩
 |e::es,J,h=>by
  cases e with|Name x pos=>refine yt (show(Ki C x).bind (λi=>(lZ C es).bind λJ=>_s (i::J))=_s J from h) λi f h=>?_;refine yt h λg d h=>?_;cases h;obtain⟨h1,h2,h3⟩:=Vd ok d;refine⟨JS (So ok f) h1 rfl,?_,?_⟩;show(N3 es X.env).length+1=_;rw[h2];rfl;show List.findIdx? (·.1) ((_f,W5 (.Name x pos) X.env)::N3 es X.env)=_n;rw[List.findIdx?_cons,h3];rfl|_=>cases h
structure CG:Type 1 where
 J:List Nat
 f:Tg
 g:W.Frag->TG
 Γ:Gm->Gm
def Ux(C:Cf)(e:Expr):Option CG:=match e with
 |.Name x _=>(Ki C x).map λi=>⟨[i],mT i,λ_=>DC i,λΓ=>Γ.set i (_s 0)⟩
 |.Tuple es _ _=>(lZ C es).map λJ=>⟨J,tJ J,λK=>YD K J.length (Eh J),λΓ=>WD Γ J (_s 0)⟩
 |_=>_n
theorem Qo{c:CG}(ok:zB C X)(h:Ux C e=_s c):PG X e (c.g X.K)/\(∀js,(∀i∈c.J,i∈js)->VL js (c.g X.K))/\∀{K Γ},c.J.all (λi=>decide (i < Γ.length))=_t->NJ K Γ (c.Γ Γ) c.J (c.g K) c.f:=by
 cases e with
 |Name x pos=>
  cases q:Ki C x with|none=>simp only[Ux,q]at h;cases h|some i=>simp only[Ux,q]at h;cases h;exact⟨So ok q,λjs d=>Xy (d i (Q6 _)),λh=>aS (by simpa using h)⟩
 |Tuple es k pos=>
  cases q:lZ C es with|none=>simp only[Ux,q]at h;cases h|some J=>simp only[Ux,q]at h;cases h;obtain⟨h1,h2,h3⟩:=Vd ok q;exact⟨PG.or (Wm ok.calm h1 h2 h3) (Wo ok.calm h1 h2 h3),λjs d=>Xx (SM (Fl J d)) (SN (Fl J d)),λh=>Ve (by simpa using h)⟩
 |_=>cases h
theorem Ot{c:CG}(h:Ux C e=_s c):(∀K,Zv (c.g K))/\(∀Γ,(c.Γ Γ).length=Γ.length)/\(∀es env,N3 (e::es) env=(_f,W5 e env)::N3 es env):=by
 cases e with
 |Name x pos=>
  cases q:Ki C x with|none=>simp only[Ux,q]at h;cases h|some i=>simp only[Ux,q]at h;cases h;exact⟨λ_=>LM,λ_=>D8 ..,λ_ _=>rfl⟩
 |Tuple es k pos=>
  cases q:lZ C es with|none=>simp only[Ux,q]at h;cases h|some J=>simp only[Ux,q]at h;cases h;exact⟨λ_=>XO (Je J),λ_=>WC ..,λ_ _=>rfl⟩
 |_=>cases h
def uV(C:Cf)(k j:Expr):Option CG:=(Ux C k).bind λh=>(Ux C j).bind λd=>_s ⟨h.J++d.J,tH h.f d.f,λK=>YD K 2 (Dg (h.g K) (Dg (d.g K) OX)),λΓ=>d.Γ (h.Γ Γ)⟩
def cG(C:Cf)(e:Expr):Option CG:=match Ux C e with
 |some c=>_s c
 |none=>match e with
  |.Tuple [f,d] _ _=>uV C f d
  |_=>_n
theorem Lm{c:CG}(ok:zB C X)(h:cG C e=_s c):PG X e (c.g X.K)/\(∀js,(∀i∈c.J,i∈js)->VL js (c.g X.K))/\∀{K Γ},c.J.all (λi=>decide (i < Γ.length))=_t->NJ K Γ (c.Γ Γ) c.J (c.g K) c.f:=by
 unfold cG at h;split at h;rename_i F q;cases h;exact Qo ok q;split at h;rename_i l j k pos _;refine yt h λE n h=>?_;refine yt h λD m h=>?_;cases h;obtain⟨p1,A,y⟩:=Qo ok n;obtain⟨p2,z,w⟩:=Qo ok m;obtain⟨B,l1,v⟩:=Ot n;obtain⟨p,l2,u⟩:=Ot m;have d:N3 [l,j] X.env=[(_f,W5 l X.env),(_f,W5 j X.env)]:=by rw[v,u];rfl
 have hp:lS X [l,j] (Dg (E.g X.K) (Dg (D.g X.K) OX)):=JS p1 (JS p2 Rq (by rw[u];rfl)) (by rw[v];rfl);refine⟨PG.or (Wm ok.calm hp (by rw[d];rfl) (by rw[d];rfl)) (Wo ok.calm hp (by rw[d];rfl) (by rw[d];rfl)),λjs t=>?_,fun{K Γ} h=>?_⟩;have g:=Jo (B X.K) (LN (p X.K) Jd) (A js λi hi=>t i (C0 _ hi)) (Jo (p X.K) Jd (z js λi hi=>t i (B5 _ hi)) OW);exact Xx (SM g) (SN g);rw[List.all_append,A2]at h;exact aR (y h.1) (w (by rw[l1];exact h.2));cases h
def sO(r:Rec)(C:Cf)(Γ:Gm)(en:zED)(es:List Expr):Option CI:=(r.A C Γ [] es).bind λc=>_s ⟨c.Γ,c.js,fg en.f (AQ c.as)⟩
def kz(r:Rec)(C:Cf)(Γ:Gm)(e:Expr):Option CI:=(r.E C Γ e).bind λc=>_s ⟨c.Γ,c.js,SW c.f⟩
def Vn(r:Rec)(C:Cf)(Γ:Gm)(tt:Bool)(e:Expr):Option CI:=match e with
  |.Call (.Name x _) es [] _=>(match C.T.zDU.find? λen=>en.x==x&&en.n==es.length&&(!en.tt||tt)with
      |some en=>if Kd C.sc x&&C.bl.contains x&&(C.fs.find? λp=>p.1==x).isNone then sO r C Γ en es else _n
      |none=>kz r C Γ e)
  |e=>kz r C Γ e
theorem Vm(R:zJ r){c:CI}(tg:Expr)(ok:zB C X)(h:Vn r C Γ (Mf tg) e=_s c):PI X tg e (tI X.K Γ c.Γ c.js c.f):=by
 have seq:kz r C Γ e=_s c->PI X tg e (tI X.K Γ c.Γ c.js c.f):=λh=>by refine yt h λm g h=>?_;cases h;exact pC (EK (R.E ok g))
 unfold Vn at h;split at h;rename_i x p es pos;split at h;rename_i en l;split at h;rename_i h0;simp only[A2]at h0;have e:=M3 l;simp only[A2,beq_iff_eq]at e;obtain⟨⟨rfl,hn⟩,d⟩:=e;refine yt h λm g h=>?_;cases h;obtain⟨u,t,w,q,n⟩:=R.A ok g;obtain⟨v,k,j⟩:=en.ok X ok.gx;exact PI.imp (j tg es p pos _ (λz=>by rw[z]at d;simpa using d) hn.symm q (Ck ok h0.1.1) (ok.bl _ (C6.mp h0.1.2)) u) λ_ _ _ h=>aX k t (n rfl) h;cases h;exact seq h;exact seq h
def JM(scope sc:M4):M4:={scope with names:=scope.names.map fun(n,k)=>if(k==.free&&sc.kind==.function&&sc.names.lookup n==_s .cell)then(n,.cell)else(n,k)}
def Cf.inner(C:Cf)(scope:M4):Cf:={C with sc:=JM scope C.sc,fn:=AV scope}
theorem zB.inner(ok:zB C X)(scope:M4)(cl:List (Str×A8))(a:A8)(s:A5)(H:Hp)(fp:List A8):zB (C.inner scope) (X.inner scope cl a s H fp) where
 N:=ok.N
 sc:=by show relabel scope X.env=JM scope C.sc;unfold relabel JM Env.kindOf;rw[ok.sc]
 nd:=ok.nd
 calm:=ok.calm
 fn:=λ_ h=>h
 room:=ok.room
 fs:=ok.fs
 cs:=ok.cs
 bl:=ok.bl
 xe:=rfl
noncomputable def Tn(N:List Str)(scope:M4):List Nat:=(B6 N.length).filter λi=>match N[i]? with
 |some x=>(match scope.names.lookup x with|some .local=>_t|some .cell=>_t|_=>_f)
 |none=>_f
structure CC:Type 1 where
 t:CG
 c:CT
 e:CE
def RL(r:Rec)(C:Cf)(yz:Gm)(tg:CG)(ifs:List Expr)(elt:Expr):Option CC:=if tg.J.all (λi=>decide (i < yz.length))then(match ifs with
 |[]=>_s (CT.mk (tg.Γ yz) [] Fo)
 |[c]=>r.T C (tg.Γ yz) c
 |_=>_n).bind λc=>(r.E C c.Γ elt).bind λe=>_s ⟨tg,c,e⟩ else _n
def ka(r:Rec)(C:Cf)(tg:CG)(ifs:List Expr)(elt:Expr):Nat->Gm->Option (Gm×CC)
 |0,_=>_n
 |n+1,yz=>(RL r C yz tg ifs elt).bind λx=>if Bc yz x.c.Γ&&Bc yz x.e.Γ then _s (yz,x)else ka r C tg ifs elt n (Bv yz (Bv x.c.Γ x.e.Γ))
def ND(r:Rec)(C:Cf)(Γ:Gm)(elt:Expr)(gens:List X1)(scope:M4):Option CE:=match gens with
  |[⟨tg,iter,ifs,0⟩]=>(match iter with|.Set _ _ _=>_n|_=>r.I C Γ (Mf tg) iter).bind λs=>let d:=Tn C.N scope;if zO C.N C.sc scope d then(cG (C.inner scope) tg).bind λt=>(ka r (C.inner scope) t ifs elt 4 (PK d s.Γ)).bind λp=>
      let J:=BN p.1 (t.J++(p.2.c.js++p.2.e.js))
      if Bc p.1 (PK d s.Γ)&&t.J.all d.contains&&(J.isEmpty||ifs.isEmpty)then _s ⟨1,Pk d s.Γ p.1,s.js++(t.J++(p.2.c.js++p.2.e.js)),match J,ifs with
        |[],[]=>YU s.f t.f p.2.e.f
        |[],_=>YV s.f t.f p.2.c.f p.2.e.f
        |J,_=>SX s.f t.f J p.2.e.f⟩ else _n else _n
  |_=>_n
theorem SR{r:Rec}{C:Cf}{tg:CG}{ifs:List Expr}{elt:Expr}:∀{n:Nat}{Γ:Gm}{p:Gm×CC},ka r C tg ifs elt n Γ=_s p->RL r C p.1 tg ifs elt=_s p.2/\Bc p.1 p.2.c.Γ=_t/\Bc p.1 p.2.e.Γ=_t
 |0,_,_,h=>by cases h
 |n+1,Γ,p,h=>by refine yt (show(RL r C Γ tg ifs elt).bind _=_s p from h) λx f h=>?_;split at h;rename_i d;rw[A2]at d;cases h;exact⟨f,d.1,d.2⟩;exact SR h
theorem jN:gM X [] (tT X.K Γ Γ [] Fo):=λpins s σ H Q I h=>by obtain⟨g,m,P,r,R,k,res,e,q⟩:=h;exact wpAny_tests_nil ⟨H,I,q _t m g P H e BU.refl Step.refl r⟩
variable{gens:List X1}{scope:M4}
theorem KC(R:zJ r){elt:Expr}{pos:Pos}(ok:zB C X)(h:ND r C Γ elt gens scope=_s c) :
    ∃t:TE,(∀σ H Q,tE X.K Γ c.o c.Γ c.js c.f σ H Q->t σ H Q)/\PE X (.ListComp elt gens scope pos) t/\∀{i x d m},X.N[i]?=_s x->Loc X.env.scope x->(X.fn x=_t\/X.env.scope.names.lookup x=_s .local)->O0 (.ListComp elt gens scope pos) (_s (.Name x d)) m.line X.env=pure _t->PS X (.Assign [.Name x d] (.ListComp elt gens scope pos) m) (KM t (DC i)):=by
  unfold ND at h;split at h;rename_i tg iter ifs;refine yt h λs V h=>?_;simp only at h;split at h;rename_i Bi;refine yt h λt U h=>?_;refine yt h λp e3 h=>?_;split at h;rename_i v;rw[A2,A2]at v;obtain⟨v,F⟩:=v;cases h;obtain⟨u,f2,B⟩:=SR e3;unfold RL at u;split at u;rename_i Y;refine yt u λct z u=>?_;refine yt u λA S u=>?_;have Z:p.2=⟨t,ct,A⟩:=(C3 u).symm;have D:∀x,K3 iter X.env x=pure x:=λx=>by cases iter<;>first|rfl|(cases V)
  have hI:r.I C Γ (Mf tg) iter=_s s:=by cases iter<;>first|exact V|(cases V)
  have hi:=R.I tg ok hI;have k:=λcl a s H fp=>ok.inner scope cl a s H fp;have G:∀cl a s H fp,PG (X.inner scope cl a s H fp) tg (t.g X.K):=λcl a s H fp=>(Lm (k cl a s H fp) U).1;have n:∀i∈t.J,i∈Tn C.N scope:=λi hi=>C6.mp ((E4.mp v.2) i hi);have q:VL (Tn C.N scope) (t.g X.K):=(Lm (k [] 0 X.zQ X.H₀ []) U).2.1 _ n;have O:NJ X.K p.1 (t.Γ p.1) t.J (t.g X.K) t.f:=(Lm (k [] 0 X.zQ X.H₀ []) U).2.2 Y;have L:∀cl a s H fp,PE (X.inner scope cl a s H fp) elt (tE X.K ct.Γ 0 A.Γ A.js A.f):=λcl a s H fp=>EK (R.E (k cl a s H fp) S);have l:zO X.N X.env.scope scope (Tn C.N scope)=true:=by rw[ok.N,ok.sc];exact Bi
  rw[Z]at f2 B F ⊢;simp only at f2 B F ⊢;cases ifs with
  |nil=>
    cases z;have hc:∀cl a s H fp,gM (X.inner scope cl a s H fp) [] (tT X.K (t.Γ p.1) (t.Γ p.1) [] Fo):=λcl a s H fp=>jN;refine⟨_,?_,OD l ok.calm hi G q hc L D,fun{i x d m} y M P w=>OB ok.nd y M l ok.calm hi G q hc L w D P⟩;intro σ H Q h;cases hJ:BN p.1 (t.J++([]++A.js))with|nil=>rw[hJ]at h;exact XX O v.1 B f2 n hJ.symm h|cons j J=>rw[hJ]at h;exact Ui O v.1 B f2 n hJ.symm h
  |cons W ifs=>
    cases ifs with
    |nil=>
      have hc:∀cl a s H fp,gM (X.inner scope cl a s H fp) [W] (tT X.K (t.Γ p.1) ct.Γ ct.js ct.f):=λcl a s H fp=>.one (R.T (k cl a s H fp) z);refine⟨_,?_,OD l ok.calm hi G q hc L D,fun{i x d m} y M P w=>OB ok.nd y M l ok.calm hi G q hc L w D P⟩;intro σ H Q h;cases hJ:BN p.1 (t.J++(ct.js++A.js))with|nil=>rw[hJ]at h;exact XY O v.1 B f2 n hJ.symm h|cons j J=>rw[hJ]at F;cases F
    |cons _ _=>cases z
  cases u;cases h;cases h;cases h
def Tt:Dv->Bool
 |.lst xs=>Ka xs
 |_=>_f
def SV(f:Ev Dv):Ev Dv:=λR m k=>f R m λd g=>bif Tt d then k d g else _n
theorem UI{K:W.Frag}{l:Gm}{js:List Nat}{f:Ev Dv}{σ:St}(G:∀i o,Γ[i]?=_s (_s o)->i∉js)(h:tE K Γ 1 Γ js (SV f) σ H Q):tE K (YE Γ) 1 l js f σ H Q:=by
  obtain⟨g,m,P,r,R,k,res,e,q⟩:=h;obtain⟨J,P2,s2,u⟩:=r.weaken (Mj Γ);have np:∀a,¬P2 a:=λa z=>by
    obtain⟨_,F,h1,h4⟩:=u;obtain⟨i,z⟩:=(h4 a).mp z;by_cases c:∃o,(YE Γ)[i]?=_s (_s o);obtain⟨o',c⟩:=c;have:o'=0:=by unfold YE at c;rw[C8]at c;obtain⟨x,_,c⟩:=E9.mp c;obtain⟨_,_,c⟩:=E9.mp c;exact c.symm
    subst this;obtain⟨_,_,_,_,A⟩:=h1.rep i 0 c;exact A.zS a z;exact h1.out i (λo' z=>c ⟨o',z⟩) a z
  refine⟨J,m,P2,u,R,_,res,e,λd m' g' P' Pv v H' j p s rv _ _=>?_⟩;cases d with
  |lst xs=>
    cases c:Ka xs with
    |false=>simp only[Tt,c,cond_false]at j;cases j
    |true=>
      simp only[Tt,c,cond_true]at j;have w:ID H H':=λb o I=>s.keep b o I (np b);have B:Rel K g H Γ m' σ P:=r.agree (by rw[p.1]) λi o hi=>p.2 i (G i o hi);unfold Rep at rv;obtain⟨a,vs,R',rfl,lk,rs,L,hP⟩:=rv;have nw:Ap K g H 1 (.lst xs) (.ref a) H':=by refine⟨w,λb=>b=a,?_,λb z=>?_⟩;unfold Rep;exact⟨a,vs,yv,rfl,⟨lk.1,(λz=>by cases z),λ_ z=>lk.2.2 (by decide) (s.zm a (s2.zm a z))⟩,JX rs c,λz=>z,λb=>⟨λz=>.inl ⟨by decide,z⟩,λz=>z.elim (λz=>z.2) D2⟩⟩;subst z;exact((s.nw b (.inr ((hP b).mpr (.inl ⟨by decide,rfl⟩)))).resolve_left (np b))
      obtain⟨t,y,n,D,E⟩:=Ap.go (Step.refl (g:=g) (P:=P)) B nw;exact q (.lst xs) m' g P t (.ref a) H' j p y n D E
  |_=>cases j
def Lo(r:Rec)(C:Cf)(Γ:Gm)(elt:Expr)(gens:List X1)(scope:M4):Option CE:=match gens with
 |[⟨_,.Attribute _ _ _,_,0⟩]=>(ND r C (YE Γ) elt gens scope).bind λc=>if c.js.all (λi=>(Γ.getD i _n).isNone)&&c.o==1 then _s ⟨1,Γ,c.js,SV c.f⟩ else _n
 |_=>ND r C Γ elt gens scope
theorem Ln(R:zJ r){elt:Expr}{pos:Pos}(ok:zB C X)(h:Lo r C Γ elt gens scope=_s c) :
    ∃t:TE,(∀σ H Q,tE X.K Γ c.o c.Γ c.js c.f σ H Q->t σ H Q)/\PE X (.ListComp elt gens scope pos) t/\∀{i x d g},X.N[i]?=_s x->Loc X.env.scope x->(X.fn x=_t\/X.env.scope.names.lookup x=_s .local)->O0 (.ListComp elt gens scope pos) (_s (.Name x d)) g.line X.env=pure _t->PS X (.Assign [.Name x d] (.ListComp elt gens scope pos) g) (KM t (DC i)):=by
  unfold Lo at h;split at h;refine yt h λn e h=>?_;split at h;rename_i j;rw[A2]at j;cases h;obtain⟨t,m,l,k⟩:=KC R (pos:=pos) ok e;refine⟨t,λσ H Q h=>m _ _ _ ?_,l,k⟩;rw[show n.o=1 from eq_of_beq j.2];refine UI (λi o hi z=>?_) h;have:=(E4.mp j.1) i z;rw[E5,hi]at this;cases this;cases h;exact KC R ok h
theorem Ou(R:zJ r){elt:Expr}(ok:zB C X)(h:Lo r C Γ elt gens scope=_s c):PE X (.ListComp elt gens scope pos) (tE X.K Γ c.o c.Γ c.js c.f):=by obtain⟨t,h1,h2,_⟩:=Ln (pos:=pos) R ok h;exact PE.imp h2 h1
end R
namespace Q
open PySem L2
end Q
namespace HT
open PySem PyProof.Rows
end HT
namespace L2
open PySem PySem.Spec PyProof.Rows
end L2
namespace Q
open PySem L2
end Q
namespace R
open PySem L2
noncomputable def uR(f:Expr)(es:List Expr):Option (List Expr):=match f,es with
 |.Name x _,[.Call (.Name y _) (a::es) [] _]=>if x==("list" : Str)&&y==("range" : Str)then _s (a::es)else _n
 |_,_=>_n
noncomputable def sU(f:Expr)(es:List Expr):Bool:=match f with
 |.Name x _=>x==("all" : Str)&&(match es with|[.ListComp ..]=>_t|_=>_f)
 |_=>_f
def qS(r:Rec)(C:Cf)(Γ:Gm)(f:Expr)(es:List Expr)(pos:Pos):Option CE:=(Ow r C Γ f es pos).bind λc=>if sU f es&&!(c.Γ==Γ)then(match Ow r C (YE Γ) f es pos with
 |some a=>if a.js.all λi=>(Γ.getD i _n).isNone then _s ⟨1,Γ,a.js,YW a.f⟩ else _s c
 |none=>_s c)else _s c
variable{r:Rec}{C:Cf}{X:Cx}{Γ:Gm}{f:Expr}{es:List Expr}{pos:Pos}
theorem du(R:zJ r){c:CE}(ok:zB C X)(h:qS r C Γ f es pos=_s c):PE X (.Call f es [] pos) (tE X.K Γ c.o c.Γ c.js c.f):=by refine yt h λg e h=>?_;have a:=Ov R ok e;split at h;split at h;rename_i j d;split at h;rename_i b;cases h;refine PE.imp (Ov R ok d) λ_ _ _ h=>Xg (λi o hi z=>?_) h;have:=(E4.mp b) i z;rw[E5,hi]at this;cases this;cases h;exact a;cases h;exact a;cases h;exact a
def ZZ(r:Rec)(C:Cf)(Γ:Gm)(f:Expr)(es:List Expr)(pos:Pos):Option CE:=qS r C Γ f es pos
theorem VA(R:zJ r){c:CE}(ok:zB C X)(h:ZZ r C Γ f es pos=_s c):PE X (.Call f es [] pos) (tE X.K Γ c.o c.Γ c.js c.f):=du R ok h
def qF(r:Rec)(C:Cf)(Γ:Gm)(a st:Expr):Option CE:=_n
variable{a:Expr}
theorem dR(R:zJ r){st:Expr}{p2:Pos}{c:CE}(ok:zB C X)(h:qF r C Γ a st=_s c):PE X (.Subscript a (.Slice _n _n (_s st) p2) pos) (tE X.K Γ c.o c.Γ c.js c.f):=by cases h
noncomputable def cR(f:Expr)(es:List Expr)(ks:List d8):Option (Expr×Expr):=match f,es,ks with
 |.Name x _,[a],[⟨_s y,e,_⟩]=>if x==("max" : Str)&&y==("default" : Str)then _s (a,e)else _n
 |_,_,_=>_n
theorem UC{ks:List d8}{q:Expr×Expr}(h:cR f es ks=_s q):∃p kp,f=.Name "max" p/\es=[q.1]/\ks=[⟨_s "default", q.2,kp⟩]:=by unfold cR at h;split at h;split at h;rename_i e;rw[A2,beq_iff_eq,beq_iff_eq]at e;obtain⟨rfl,rfl⟩:=e;cases h;exact⟨_,_,rfl,rfl,rfl⟩;cases h;cases h
def sQ(r:Rec)(C:Cf)(Γ:Gm)(a e:Expr):Option CE:=if Kd C.sc "max"&&C.bl.contains "max"&&noStar a then(Lx r C Γ a e).bind λp=>_s ⟨1,p.2.Γ,jj p,HY (two C.T.md) (AQ [p.1.a,p.2.a])⟩ else _n
variable{e:Expr}{p:Pos}
theorem lD(R:zJ r){kp:Pos}{c:CE}(ok:zB C X)(h:sQ r C Γ a e=_s c):PE X (.Call (.Name "max" p) [a] [⟨_s "default", e,kp⟩] pos) (tE X.K Γ c.o c.Γ c.js c.f):=by unfold sQ at h;split at h;rename_i b;simp only[A2]at b;obtain⟨⟨i,g⟩,d⟩:=b;refine yt h λp j h=>?_;cases h;obtain⟨h1,h2,h3⟩:=Ge R ok j;exact PE.imp (bh ok.calm (Ck ok i) (ok.bl _ (C6.mp g)) h1 h2 (AJ d)) λ_ _ _ h=>Da (C.T.zDc X ok.gx) h3 h;cases h
def NF(r:Rec)(C:Cf)(Γ:Gm)(f:Expr)(es:List Expr)(ks:List d8)(pos:Pos):Option CE:=match ks with
 |[]=>ZZ r C Γ f es pos
 |k::ks=>match cR f es (k::ks)with
  |some q=>sQ r C Γ q.1 q.2
  |none=>_n
theorem VB(R:zJ r){ks:List d8}{c:CE}(ok:zB C X)(h:NF r C Γ f es ks pos=_s c):PE X (.Call f es ks pos) (tE X.K Γ c.o c.Γ c.js c.f):=by
 cases ks with
 |nil=>exact VA R ok h
 |cons k ks=>
  cases q:cR f es (k::ks)with|none=>unfold NF at h;simp only[q]at h;cases h|some z=>unfold NF at h;simp only[q]at h;obtain⟨p,kp,g,d,b⟩:=UC q;rw[g,d,b];exact lD R ok h
def Mp(i:Nat)(f:Str):Ev Dv:=λ_ m k=>(EB (m.at i) f).bind λd=>k d m
variable{H:Hp}
theorem YK{K:W.Frag}{i:Nat}{f:Str}{σ:St}{Q:VK}(hi:Γ[i]?=_s (_s 0))(h:tE K Γ 0 Γ [] (Mp i f) σ H Q):MG K (Cb i) f σ H Q:=by obtain⟨g,m,P,r,R,k,res,e,q⟩:=h;refine yt e λd l e=>?_;obtain⟨n,P1,c,rv,_⟩:=r.see hi;obtain⟨a,C,dx,fs,w,_,_,rfl,h1,hc,hn,j,b,_⟩:=Cj rv l;exact⟨_,c,a,C,dx,fs,w,rfl,h1,hc,hn,j,q d m g P yv w H e BU.refl (Step.refl.less λ_ z=>z.elim id D2) b.z r λ_ _ z=>z⟩
theorem XN{K:W.Frag}{i o:Nat}{f:Str}{σ:St}{Q:VK}(hi:Γ[i]?=_s (_s o))(h:tE K Γ o (Γ.set i _n) [] (Mp i f) σ H Q):MG K (Cb i) f σ H Q:=by obtain⟨g,m,P,r,R,k,res,e,q⟩:=h;refine yt e λd t e=>?_;obtain⟨v,u,Pb,ev,_,rv,l,n,hP⟩:=r.take hi;obtain⟨a,C,dx,fs,w,P1,P2,rfl,h1,hc,hn,s,j,dj,c,_⟩:=Cj rv t;exact⟨_,ev,a,C,dx,fs,w,rfl,h1,hc,hn,s,q d m g Pb P1 w H e BU.refl (Step.refl.less λb z=>(hP b).mpr (z.elim .inr λz=>.inl ((c b).mpr (.inl z)))) j l λb x y=>n b ((c b).mpr (.inl y)) x⟩
def gG(C:Cf)(Γ:Gm)(o:Expr)(f:Str):Option CE:=(PH C o).bind λi=>if(Γ.getD i _n).isSome then(if Γ.getD i _n==_s 0 then _s ⟨0,Γ,[],Mp i f⟩ else _s ⟨0,Γ,[],YZ i f⟩)else _n
theorem ZV{o:Expr}{f:Str}{c:CE}(ok:zB C X)(h:gG C Γ o f=_s c):PE X (.Attribute o f pos) (tE X.K Γ c.o c.Γ c.js c.f):=by refine yt h λi hi h=>?_;split at h;rename_i h0;split at h;rename_i h1;cases h;exact PE.imp (MW (Bn ok hi) (GW hi)) λ_ _ _ h=>YK (Aq (eq_of_beq h1)) h;cases h;obtain⟨o',h0⟩:=getD_some h0;exact PE.imp (MW (Bn ok hi) (GW hi)) λ_ _ _ h=>YI h0 h;cases h
def eY(r:Rec)(C:Cf)(Γ:Gm)(e:Expr):Option CE:=match e with
 |.Constant k _ _=>ZY Γ k
 |.Name x _=>ZP C Γ x
 |.BinOp a op b _=>qQ r C Γ a op b
 |.UnaryOp .USub a _=>qJ r C Γ a
 |.UnaryOp .Not a _=>qI r C Γ a
 |.Compare a [op] [b] _=>(Qp r C Γ a op b).map lq
 |.Compare a [op,d] [b,c] _=>(Qq r C Γ a op b d c).map lq
 |.BoolOp op vs pos=>Vq r C Γ op vs pos
 |.IfExp c a b _=>qM r C Γ c a b
 |.Call f es ks pos=>NF r C Γ f es ks pos
 |.Tuple es _ _=>qE r C Γ es
 |.List es _=>qL r C Γ es
 |.Dict [] [] _=>_s ⟨1,Γ,[],YR⟩
 |.Subscript a (.Slice lo hi _n _) _=>tq r C Γ a lo hi
 |.Subscript a (.Slice _n _n (_s st) _) _=>qF r C Γ a st
 |.Subscript a b _=>if Hq b then sR r C Γ a b else _n
 |.ListComp e gens sc _=>Lo r C Γ e gens sc
 |.Attribute o f _=>gG C Γ o f
 |_=>_n
theorem Vo(R:zJ r){c:CE}(ok:zB C X)(h:eY r C Γ e=_s c):PE X e (tE X.K Γ c.o c.Γ c.js c.f):=by
 match e,h with
 |.Constant k j pos,h=>exact Uy h
 |.Name x pos,h=>exact ZO ok h
 |.BinOp a op b pos,h=>exact dk R ok h
 |.UnaryOp op a pos,h=>
  cases op with|USub=>exact dX R ok h|Not=>refine yt (show(r.E C Γ a).bind _=_s c from h) λm l h=>?_;cases h;exact PE.imp (jH (EK (R.E ok l))) λ_ _ _ h=>iA h|_=>cases h
 |.Compare a ops bs pos,h=>
  match ops,bs,h with
  |[op],[b],h=>
   cases q:Qp r C Γ a op b with|none=>replace h:(Qp r C Γ a op b).map lq=_s c:=h;rw[q]at h;cases h|some t=>replace h:(Qp r C Γ a op b).map lq=_s c:=h;rw[q]at h;cases h;exact(Sh R ok q).2 1
  |[op,g],[b,d],h=>
   cases q:Qq r C Γ a op b g d with|none=>replace h:(Qq r C Γ a op b g d).map lq=_s c:=h;rw[q]at h;cases h|some t=>replace h:(Qq r C Γ a op b g d).map lq=_s c:=h;rw[q]at h;cases h;exact(Si R ok q).2 1
  |[],_,h=>cases h
  |[_],[],h=>cases h
  |[_],_::_::_,h=>cases h
  |[_,_],[],h=>cases h
  |[_,_],[_],h=>cases h
  |[_,_],_::_::_::_,h=>cases h
  |_::_::_::_,_,h=>cases h
 |.BoolOp op vs pos,h=>exact TM R ok h
 |.IfExp c a b pos,h=>exact de R ok h
 |.Call f es ks pos,h=>exact VB R ok h
 |.Tuple es k pos,h=>exact dP R ok h
 |.List es pos,h=>exact dZ R ok h
 |.Dict ks vs pos,h=>
  cases ks with
  |nil=>
   cases vs with|nil=>cases h;exact nM|cons _ _=>cases h
  |cons _ _=>cases h
 |.Subscript a b pos,h=>
  have ix:Hq b=_t->(if Hq b then sR r C Γ a b else _n)=_s c->PE X (.Subscript a b pos) (tE X.K Γ c.o c.Γ c.js c.f):=λi h=>by rw[if_pos i]at h;exact lE R ok i h
  match b,h with
  |.Slice lo hi st p2,h=>
   cases st with
   |none=>exact ku R ok h
   |some st=>
    cases lo with
    |none=>
     cases hi with|none=>exact dR R ok h|some _=>cases h
    |some _=>cases h
  |.NamedExpr ..,h|.BinOp ..,h|.Lambda ..,h|.Dict ..,h|.Set ..,h|.ListComp ..,h|.SetComp ..,h|.DictComp ..,h|.GeneratorExp ..,h|.Await ..,h|.Yield ..,h|.YieldFrom ..,h|.Call ..,h|.FormattedValue ..,h|.JoinedStr ..,h|.Constant ..,h|.Attribute ..,h|.Subscript ..,h|.Starred ..,h|.Name ..,h|.List ..,h|.Tuple ..,h|.UnaryOp ..,h|.BoolOp ..,h|.IfExp ..,h|.Compare ..,h=>exact ix rfl h
 |.ListComp e gens sc pos,h=>exact Ou R ok h
 |.Attribute o f pos,h=>exact ZV ok h
 |.NamedExpr ..,h|.Lambda ..,h|.Set ..,h|.SetComp ..,h|.DictComp ..,h|.GeneratorExp ..,h|.Await ..,h|.Yield ..,h|.YieldFrom ..,h|.FormattedValue ..,h|.JoinedStr ..,h|.Starred ..,h|.Slice ..,h=>cases h
noncomputable def Fc:Expr->Bool
 |.ListComp ..=>_f
 |.SetComp ..=>_f
 |.DictComp ..=>_f
 |_=>_t
variable{env:Env}
theorem CO{t:Option Expr}{l:Nat}(h:Fc e=_t):O0 e t l env=pure false:=by cases e<;>first|rfl|(cases h)
theorem VW{K:W.Frag}{Γ' c:Gm}{js:List Nat}{o:Nat}{f:Ev Dv}{σ:St}{Q:VK}(l:Bc c Γ'=_t)(h:tE K Γ o c js f σ H Q):tE K Γ o Γ' js f σ H Q:=by obtain⟨g,m,P,r,R,k,res,e,q⟩:=h;refine⟨g,m,P,r,R,k,res,e,λb m' g' P' Pv v H' t w s rv d n=>?_⟩;obtain⟨u,P2,s2,j⟩:=d.weaken l;have i:Bu Pv P':=λa q z=>n a z q;refine q b m' u P2 Pv v H' t w (s.trans ((s2.frame (R:=Pv)).sub (λ_ z=>z) λ_ z=>z)) (rv.held s2 d.y6 i) j λa q z=>s2.out rv.y6 i a z q
def Vy(Γ:Gm):CS:=⟨_s Γ,[],Jw,_f,_f,_f⟩
def qG(r:Rec)(C:Cf)(Γ:Gm)(e:Expr):Option CS:=(match PH C e with
 |some i=>(match Γ.getD i _n with|some o=>_s (CE.mk o (Γ.set i _n) [] (SS i))|none=>_n)
 |none=>(match aB C e with
  |some q=>if Γ.getD q.1 _n==_s 1&&!C.F.io.contains q.1 then _s (CE.mk 1 (Γ.set q.1 _n) [] (Mp q.1 q.2))else r.E C Γ e
  |none=>r.E C Γ e)).bind λc=>if Bc C.F.Γr c.Γ&&(C.F.ro==0||c.o==C.F.ro)then _s ⟨_n,c.js,YO c.f,_t,_f,_f⟩ else _n
variable{yz:Option Gm}{c:CS}
theorem dS(R:zJ r)(ok:zB C X)(h:qG r C Γ e=_s c):PS X (.Return (_s e) pos) (tS X.K C.F yz Γ c.Γ c.js c.f):=by
  refine yt h λg b h=>?_;split at h;rename_i j;simp only[A2,j9,beq_iff_eq]at j;cases h;have m:PE X e (tE X.K Γ g.o g.Γ g.js g.f):=by split at b;rename_i i hi;split at b;rename_i o n;cases b;exact nG (Bn ok hi) (Aq n);cases b;split at b;rename_i q d;split at b;rename_i l;rw[A2]at l;cases b;unfold aB at d;split at d;split at d;obtain⟨i,hi,d⟩:=E9.mp d;cases d;exact PE.imp (MW (Bn ok hi) (GW hi)) λ_ _ _ h=>XN (Aq (eq_of_beq l.1)) h;cases d;cases d;exact R.E ok b;exact R.E ok b
  have k:PE X e (tE X.K Γ C.F.ro g.Γ g.js g.f):=by
    rcases j.2 with z|z
    rw[z];exact EK m;rw[<- z];exact m
  exact mv (PE.imp k λ_ _ _ h=>VW j.1 h);cases h
def ZK(C:Cf)(Γ:Gm):Option CS:=if Bc C.F.Γr Γ then _s ⟨_n,[],YO (Mm .yw),_t,_f,_f⟩ else _n
theorem ZJ(h:ZK C Γ=_s c):PS X (.Return _n pos) (tS X.K C.F yz Γ c.Γ c.js c.f):=by unfold ZK at h;split at h;rename_i d;cases h;refine PS.imp bL λD σ H q=>?_;obtain⟨g,m,P,r,R,k,res,e,q⟩:=q;obtain⟨i,P2,s2,b⟩:=r.weaken d;exact q.rt .yw m i P2 yv σ .yw H e BU.refl (s2.less λ_ z=>z.elim id D2) Io.refl (by unfold Rep;exact⟨rfl,λ_ z=>z⟩) b λ_ _ z=>z;cases h
def lG(r:Rec)(C:Cf)(Γ:Gm)(e:Expr):Option CS:=if Fc e then(r.E C Γ e).bind λc=>_s ⟨_s c.Γ,c.js,Yb c.f,_f,_f,_f⟩ else _n
theorem Sg(R:zJ r)(ok:zB C X)(h:lG r C Γ e=_s c):PS X (.Expr e pos) (tS X.K C.F yz Γ c.Γ c.js c.f):=by unfold lG at h;split at h;rename_i hn;refine yt h λd b h=>?_;cases h;exact iR (R.E ok b) (CO hn);cases h
def Sf(C:Cf)(x:Str)(c:CE):Option CS:=(Ki C x).bind λi=>if decide (i < c.Γ.length)&&!C.F.io.contains i then _s ⟨_s (c.Γ.set i (_s c.o)),c.js++[i],Le c.f (mT i),_f,_f,_f⟩ else _n
variable{x:Str}{pos':Pos}
theorem Os{b:CE}(ok:zB C X)(j:PE X e (tE X.K Γ b.o b.Γ b.js b.f))(g:O0 e (_s (.Name x pos')) pos.line X.env=pure _f)(h:Sf C x b=_s c):PS X (.Assign [.Name x pos'] e pos) (tS X.K C.F yz Γ c.Γ c.js c.f):=by refine yt h λi k h=>?_;split at h;rename_i d;simp only[A2,decide_eq_true_eq,J7]at d;cases h;obtain⟨h1,h2,h3⟩:=IX ok k;exact mq ok.nd h1 h2 (λz=>by rw[C6.mpr z]at d;cases d.2) d.1 j g h3;cases h
def ml(sc:M4)(x:Str)(pl:Nat)(scope:M4)(b:Nat):Bool:=(if sc.kind.isAnnotationScope then ScopeKind.function else sc.kind)==.function&&sc.names.lookup x==_s .local&&pl==b&&!(scope.names.any fun(n,k)=>n==x&&(k==.local||k==.cell))
variable{gens:List X1}{scope:M4}
theorem PX(ok:zB C X){elt:Expr}{l:Nat}:O0 (.ListComp elt gens scope pos) (_s (.Name x pos')) l X.env=pure (ml C.sc x pos'.line scope pos.line):=by unfold ml;rw[<- ok.sc];rfl
theorem Uz(R:zJ r){elt:Expr}{pos:Pos}{c:CE}(ok:zB C X)(h:Lo r C Γ elt gens scope=_s c) :
    ∃t:TE,(∀σ H Q,tE X.K Γ c.o c.Γ c.js c.f σ H Q->t σ H Q)/\∀{i x pos' b},X.N[i]?=_s x->Loc X.env.scope x->(X.fn x=_t\/X.env.scope.names.lookup x=_s .local)->O0 (.ListComp elt gens scope pos) (_s (.Name x pos')) b.line X.env=pure _t->PS X (.Assign [.Name x pos'] (.ListComp elt gens scope pos) b) (KM t (DC i)):=by
  obtain⟨t,h1,_,h3⟩:=Ln (pos:=pos) R ok h;exact⟨t,h1,h3⟩
def gH(r:Rec)(C:Cf)(Γ:Gm)(x:Str)(elt:Expr)(gens:List X1)(scope:M4):Option CS:=(Lo r C Γ elt gens scope).bind λc=>Sf C x c
theorem Zb(R:zJ r){elt:Expr}{d:Pos}(ok:zB C X)(h:gH r C Γ x elt gens scope=_s c):PS X (.Assign [.Name x pos'] (.ListComp elt gens scope d) pos) (tS X.K C.F yz Γ c.Γ c.js c.f):=by
 refine yt h λm g h=>?_;cases hb:ml C.sc x pos'.line scope d.line with|false=>exact Os ok (Ou R ok g) (by rw[PX ok,hb]) h|true=>refine yt h λi l h=>?_;split at h;rename_i b;simp only[A2,decide_eq_true_eq,J7]at b;cases h;obtain⟨h1,h2,h3⟩:=IX ok l;obtain⟨t,k,j⟩:=Uz R (pos:=d) ok g;refine PS.imp (j h1 h2 h3 (by rw[PX ok,hb])) λD σ H h=>k _ _ _ (RU b.1 (λz=>by rw[C6.mpr z]at b;cases b.2) h);cases h
noncomputable def og:Expr->Bool
 |.Tuple ..=>_f
 |_=>_t
theorem TK{tg:Expr}(h:og e=_t):T2 [tg] e env=pure none:=by
 cases tg with
 |Tuple=>cases e<;>first|rfl|cases h
 |List=>cases e<;>first|rfl|cases h
 |_=>rfl
theorem aY{tg:Expr}{l:Nat}(h:Fc e=_t):d7 [tg] e l env=pure false:=CO h
noncomputable def fX:Expr->Bool
 |.Tuple vs _ _=>vs.all (uk 8)
 |_=>_f
theorem NZ{k:Nat}(h:fX e=_t):T2 [.Tuple es k p] e env=pure none:=by
 cases e with
 |Tuple vs k1 p1=>
  have h:vs.all (uk 8)=true:=h;unfold T2;simp only[h,if_true]
  repeat' split
  all_goals rfl
 |_=>cases h
def Sj(r:Rec)(C:Cf)(Γ:Gm)(es:List Expr)(k:Nat)(p:Pos)(e:Expr):Option CS:=if(og e||fX e)&&Fc e then(r.E C Γ e).bind λc=>(cG C (.Tuple es k p)).bind λt=>if t.J.all (λi=>decide (i < c.Γ.length)&&!C.F.io.contains i)then _s ⟨_s (t.Γ c.Γ),c.js++t.J,Le c.f t.f,_f,_f,_f⟩ else _n else _n
theorem Ox(R:zJ r){k:Nat}(ok:zB C X)(h:Sj r C Γ es k p e=_s c):PS X (.Assign [.Tuple es k p] e pos) (tS X.K C.F yz Γ c.Γ c.js c.f):=by unfold Sj at h;split at h;rename_i hn;rw[A2,j9]at hn;refine yt h λm l h=>?_;refine yt h λt j h=>?_;split at h;rename_i b;cases h;obtain⟨g,_,d⟩:=Lm ok j;rw[E4]at b;refine nA (EK (R.E ok l)) g (d (by rw[E4];exact λi hi=>(Q0.mp (b i hi)).1)) (λi hi z=>?_) (aY hn.2) (hn.1.elim TK NZ) rfl;have:=(Q0.mp (b i z)).2;rw[C6.mpr hi]at this;cases this;cases h;cases h
def ph(i j:Nat)(g:Ev (List Dv)):Es:=λR m k=>g R m λds d=>match ds with|[a,b]=>k.nx ((d.set i a).set j b)|_=>_n
def jP(sc:M4)(x y:Str)(g d:Pos)(a b:Expr):Bool:=(match sc.kind with|.function=>_t|_=>_f)&&(match sc.names.lookup x with|some .local=>_t|_=>_f)&&(match sc.names.lookup y with|some .local=>_t|_=>_f)&&!(x==y)&&(d.line==g.line)&&noStar a&&noStar b&&!(uk 8 a&&uk 8 b)&&!(constantsAlone 8 a&&constantsAlone 8 b)
theorem jO{y:Str}{g d pt pt2:Pos}{kt k2:Nat}{b:Expr}(h:jP env.scope x y g d a b=_t):T2 [.Tuple [.Name x g,.Name y d] kt pt] (.Tuple [a,b] k2 pt2) env=pure (_s [x,y])/\env.scope.names.lookup x=_s .local/\env.scope.names.lookup y=_s .local:=by
 unfold jP at h;simp only[A2,J7]at h;obtain⟨⟨⟨⟨⟨⟨⟨⟨h1,h2⟩,h3⟩,h4⟩,h5⟩,h6⟩,h7⟩,h8⟩,l⟩:=h;have k1:env.scope.kind=.function:=by split at h1;(assumption);(cases h1)
 have k2:env.scope.names.lookup x=_s .local:=by split at h2;(assumption);(cases h2)
 have k3:env.scope.names.lookup y=_s .local:=by split at h3;(assumption);(cases h3)
 refine⟨?_,k2,k3⟩;have k:env.kindOf x=_s .local:=k2;have j:env.kindOf y=_s .local:=k3;have i:(y==x)=false:=by
  cases q:y==x with|false=>rfl|true=>rw[beq_iff_eq.mp q,beq_self_eq_true]at h4;cases h4
 unfold T2;simp[Env.blockKind,k1,ScopeKind.isAnnotationScope,k,j,beq_iff_eq.mp h5,h8,l,List.eraseDups_cons,i,h4,Expr.pos];rintro(z|z);cases a<;>first|(cases z;done)|(cases h6;done)
 cases b<;>first|(cases z;done)|(cases h7;done)
def lA(r:Rec)(C:Cf)(Γ:Gm)(x y:Str)(g d:Pos)(a b:Expr):Option CS:=if jP C.sc x y g d a b then(r.A C Γ [] [a,b]).bind λc=>(Co C.N x).bind λi=>(Co C.N y).bind λj=>if decide (i < c.Γ.length)&&decide (j < c.Γ.length)&&!(i==j)&&!C.F.io.contains i&&!C.F.io.contains j then _s ⟨_s ((c.Γ.set i (_s 0)).set j (_s 0)),c.js++([i]++[j]),ph i j (AQ c.as),_f,_f,_f⟩ else _n else _n
theorem dU(R:zJ r){y:Str}{u t pt pt2:Pos}{kt k2:Nat}{b:Expr}(ok:zB C X)(h:lA r C Γ x y u t a b=_s c):PS X (.Assign [.Tuple [.Name x u,.Name y t] kt pt] (.Tuple [a,b] k2 pt2) pos) (tS X.K C.F yz Γ c.Γ c.js c.f):=by
 unfold lA at h;split at h;rename_i hp;refine yt h λT S h=>?_;refine yt h λi Q h=>?_;refine yt h λj O h=>?_;split at h;rename_i v;simp only[A2,decide_eq_true_eq,J7,beq_eq_false_iff_ne]at v;obtain⟨⟨⟨⟨w1,w2⟩,w⟩,o⟩,n⟩:=v;cases h;obtain⟨Z,Y,a3,a4,W⟩:=R.A ok S;rw[<- ok.sc]at hp;obtain⟨p1,p2,p3⟩:=jO (pt:=pt) (pt2:=pt2) (kt:=kt) (k2:=k2) hp;refine PS.imp (ik ok.calm ok.nd (by rw[ok.N];exact BP Q) (by rw[ok.N];exact BP O) w p2 p3 Z p1 rfl) λD σ H h=>?_;obtain⟨g,m,P,L,R',k,res,e,q⟩:=h;refine AM T.as L Y e λds m1 M P1 vs H1 d V s U J=>?_;have l:=U.zBE (W rfl)
 match ds,d,l with
 |[d1,d2],d,l=>
  obtain⟨v1,us,rfl,h1,l⟩:=Ba l;obtain⟨v2,B,rfl,h2,l⟩:=Ba l;cases Bf l;obtain⟨P2,I,s2⟩:=J.zAL w1 h1 λ_ z=>z.elim;obtain⟨P3,G,E⟩:=I.zAL (by rw[D8];exact w2) h2 λ_ z=>z.elim;refine⟨v1,v2,rfl,q.nx _ _ M P3 _ H1 rfl d (V.trans (BU.set.trans BU.set)) (s.less λa z=>(E a z).elim (λz=>(s2 a z).elim id D2) D2) ((Io.set ?_).trans (Io.set ?_)) G⟩;exact λz=>by rw[C6.mpr z]at o;cases o
  exact λz=>by rw[C6.mpr z]at n;cases n
 |[],d,_=>cases d
 |[_],d,_=>cases d
 |_::_::_::_,d,_=>cases d
 cases h;cases h
def ZE(r:Rec)(C:Cf)(Γ:Gm)(x k e:Expr):Option CS:=if Hq k then(PH C x).bind λi=>(r.E C Γ e).bind λc=>(VE r C c.Γ k).bind λa=>if(c.Γ.getD i _n).isSome&&a.Γ.getD i _n==_s 1 then _s ⟨_s a.Γ,c.js++((a.js++[])++[i]),fh i C.T.st c.f (AQ [a.a]),_f,_f,_f⟩ else _n else _n
variable{k:Expr}{zAK:Pos}
theorem Ku{x:Expr}(b:Hq k=_t):∀v,W5 (.Subscript x k zAK) X.env v=(do
      let ov <- Z1 [v] (L8 x X.env)
      let iv <- Z1 [v,ov] (L8 k X.env)
      vh zAK
      Z1 [v,ov,iv] (yS ov iv v)
      release [v,ov,iv] []):=λv=>by
  cases k<;>first|rfl|(cases b)
theorem Nc{x:Expr}{l:Nat}:d7 [.Subscript x k p] e l env=pure false:=by cases e<;>rfl
theorem ZD(R:zJ r){x:Expr}(ok:zB C X)(h:ZE r C Γ x k e=_s c):PS X (.Assign [.Subscript x k zAK] e pos) (tS X.K C.F yz Γ c.Γ c.js c.f):=by
 unfold ZE at h;split at h
 ·rename_i hn;refine yt h λi m h=>?_
  refine yt h λq l h=>?_;refine yt h λa j h=>?_;split at h
  ·rename_i b;rw[A2]at b;cases h;obtain⟨o,n⟩:=IY R ok j;obtain⟨T,g,d⟩:=C.T.zCp X ok.gx;refine PS.imp (Pu (EK (R.E ok l)) (Wn (Bn ok m) o g (Ku hn)) Nc ?_ rfl) λD σ H h=>WA d n (getD_some b.1) (Aq (beq_iff_eq.mp b.2)) h
   cases e<;>rfl
  cases h
 cases h
def ZG(r:Rec)(C:Cf)(Γ:Gm)(q:Nat×Str)(k e:Expr):Option CS:=if Hq k then(r.E C Γ e).bind λc=>(VE r C c.Γ k).bind λa=>if(c.Γ.getD q.1 _n).isSome&&a.Γ.getD q.1 _n==_s 1 then _s ⟨_s a.Γ,c.js++((a.js++[])++[q.1]),YN q.1 q.2 C.T.st c.f (AQ [a.a]),_f,_f,_f⟩ else _n else _n
theorem ZF(R:zJ r){x:Expr}{q:Nat×Str}(ok:zB C X)(i:aB C x=_s q)(h:ZG r C Γ q k e=_s c):PS X (.Assign [.Subscript x k zAK] e pos) (tS X.K C.F yz Γ c.Γ c.js c.f):=by
 unfold ZG at h;split at h
 ·rename_i hn;refine yt h λo l h=>?_
  refine yt h λa j h=>?_;split at h
  ·rename_i b;rw[A2]at b;cases h;obtain⟨n,m⟩:=IY R ok j;obtain⟨T,g,d⟩:=C.T.zCp X ok.gx;refine PS.imp (Pu (EK (R.E ok l)) (Wn (Jv ok i) n g (Ku hn)) Nc ?_ rfl) λD σ H h=>WE d m (getD_some b.1) (Aq (beq_iff_eq.mp b.2)) h
   cases e<;>rfl
  cases h
 cases h
def ZI(r:Rec)(C:Cf)(Γ:Gm)(x k e:Expr):Option CS:=match aB C x with
 |some q=>ZG r C Γ q k e
 |none=>ZE r C Γ x k e
theorem ZH(R:zJ r){x:Expr}(ok:zB C X)(h:ZI r C Γ x k e=_s c):PS X (.Assign [.Subscript x k zAK] e pos) (tS X.K C.F yz Γ c.Γ c.js c.f):=by unfold ZI at h;split at h;rename_i q b;exact ZF R ok b h;exact ZD R ok h
def ZX(r:Rec)(C:Cf)(Γ:Gm)(o:Expr)(f:Str)(e:Expr):Option CS:=if Fc e then(PH C o).bind λi=>(r.E C Γ e).bind λc=>if decide (c.o<=1)&&c.Γ.getD i _n==_s 1 then _s ⟨_s c.Γ,c.js++[i],Ya i f c.o c.f,_f,_f,_f⟩ else _n else _n
theorem ZW(R:zJ r){o:Expr}{f:Str}(ok:zB C X)(h:ZX r C Γ o f e=_s c):PS X (.Assign [.Attribute o f zAK] e pos) (tS X.K C.F yz Γ c.Γ c.js c.f):=by unfold ZX at h;split at h;rename_i hn;refine yt h λi hi h=>?_;refine yt h λg d h=>?_;split at h;rename_i b;simp only[A2,decide_eq_true_eq]at b;cases h;exact PS.imp (iq (Bn ok hi) (R.E ok d) (CO hn)) λD σ H h=>YJ b.1 (Aq (beq_iff_eq.mp b.2)) h;cases h;cases h
def fT:Option Gm->Option Gm->Option Gm
 |some a,_s b=>_s (Bv a b)
 |none,b=>b
 |a,_n=>a
def tu(r:Rec)(C:Cf)(yz:Option Gm)(Γ:Gm)(c:Expr)(a b:List G5):Option CS:=(r.T C Γ c).bind λt=>(r.Ss C yz t.Γ a).bind λx=>(r.Ss C yz t.Γ b).bind λy=>let Γn:=fT x.Γ y.Γ;let js:=t.js++(x.js++y.js);if IM Γn x.Γ&&IM Γn y.Γ then _s ⟨Γn,js,match x.Γ,y.Γ,Γn with
      |some _,_s _,_s Γ'=>if x.er||x.eb||x.ec||y.er||y.eb||y.ec then Of t.f x.f y.f else pj (BN Γ' js) (Of t.f x.f y.f)
      |_,_,_=>Of t.f x.f y.f,x.er||y.er,x.eb||y.eb,x.ec||y.ec⟩ else _n
theorem lF(R:zJ r){t:Expr}{a b:List G5}(ok:zB C X)(h:tu r C yz Γ t a b=_s c):PS X (.If t a b pos) (tS X.K C.F yz Γ c.Γ c.js c.f):=by refine yt h λct m h=>?_;refine yt h λx l h=>?_;refine yt h λy j h=>?_;simp only at h;split at h;rename_i d;rw[A2]at d;have base:PS X (.If t a b pos) (tS X.K C.F yz Γ (fT x.Γ y.Γ) (ct.js++(x.js++y.js)) (Of ct.f x.f y.f)):=rV (R.T ok m) (WG (R.Ss ok l) d.1) (WG (R.Ss ok j) d.2);cases h;split;rename_i Γ' _ _ g;split;exact base;simp only[g]at base ⊢;exact PS.imp base λD σ H h=>kF (λi o z=>BL z) (λi z=>Az z) h;exact base;cases h
noncomputable def Zg(f:Int->Int->Int)(x y:Dv):Option Dv:=match x,y with|.int i,.int j=>_s (.int (f i j))|_,_=>_n
theorem VD{f:Int->Int->Int}{x y z:Dv}(h:Zg f x y=_s z):∃i j,x=.int i/\y=.int j/\z=.int (f i j):=by unfold Zg at h;split at h;cases h;exact⟨_,_,rfl,rfl,rfl⟩;cases h
def Sq:=Zg λi j=>i+j
def lR:=Zg λi j=>i-j
def Yc(i:Nat)(p:Dv->Dv->Option Dv)(f:Ev Dv):Es:=λR m k=>f R m λd b=>(p (m.at i) d).bind λy=>k.nx (b.set i y)
theorem Sm{K:W.Frag}{F:Fr}{j:Gm}{js:List Nat}{t:Ev Dv}{i o:Nat}{f:Int->Int->Int}(h0:Γ[i]?=_s (_s o))(hi:i < j.length)(u:i∉F.io){D:Ends}{σ:St}(h:tS K F yz Γ (_s (j.set i (_s 0))) (js++[i]) (Yc i (Zg f) t) D σ H):mi i (tE K Γ 0 j js t) (rq f) D σ H:=by obtain⟨G,m,P,r,R,k,res,e,q⟩:=h;obtain⟨w,O,l,g,_⟩:=r.see h0;refine⟨w,l,G,m,P,r,R,_,res,e,λd N g' P' Pv v H' E M s rv B n=>?_⟩;refine yt E λy L J=>?_;obtain⟨a,b,I,rfl,rfl⟩:=VD L;rw[I]at g;refine⟨a,b,AK g,AK rv,?_⟩;obtain⟨P2,A,s2⟩:=B.zAL (o:=0) (v:=.int (f a b)) (d:=.int (f a b)) (Pv:=yv) hi Bh λ_ z=>z.elim;exact q.nx _ _ g' P2 _ H' rfl J (M.trans BU.set) (s.less λa z=>(s2 a z).elim .inl D2) (Io.set u) A
def qR(r:Rec)(C:Cf)(Γ:Gm)(x:Str)(op:n0)(e:Expr):Option CS:=(Ki C x).bind λi=>if(Γ.getD i _n).isSome then(r.E C Γ e).bind λc=>if decide (i < c.Γ.length)&&!C.F.io.contains i then(match op with
    |.Add=>_s ⟨_s (c.Γ.set i (_s 0)),c.js++[i],Yc i Sq c.f,_f,_f,_f⟩
    |.Sub=>_s ⟨_s (c.Γ.set i (_s 0)),c.js++[i],Yc i lR c.f,_f,_f,_f⟩
    |_=>_n)else _n else _n
theorem dq(R:zJ r){op:n0}(ok:zB C X)(h:qR r C Γ x op e=_s c):PS X (.AugAssign (.Name x pos') op e pos) (tS X.K C.F yz Γ c.Γ c.js c.f):=by
 refine yt h λi m h=>?_;split at h;rename_i l;refine yt h λn j h=>?_;split at h;rename_i b;simp only[A2,decide_eq_true_eq,J7]at b;obtain⟨o,g⟩:=getD_some l;obtain⟨h1,h2,h3⟩:=IX ok m;have d:i∉C.F.io:=λz=>by rw[C6.mpr z]at b;cases b.2
 split at h;cases h;exact PS.imp (Wa ok.nd h1 h2 (EK (R.E ok j)) kM h3) λ_ _ _ h=>Sm g b.1 d h;cases h;exact PS.imp (Wa ok.nd h1 h2 (EK (R.E ok j)) kL h3) λ_ _ _ h=>Sm g b.1 d h;cases h;cases h;cases h
def UV(r:Rec)(C:Cf)(pre:Gm->Gm)(body:List G5):Nat->Gm->Option (Gm×CS)
 |0,_=>_n
 |n+1,Γ=>match r.Ss C (_s Γ) (pre Γ) body with
  |some x=>if IM (_s Γ) x.Γ then _s (Γ,x)else UV r C pre body n (match x.Γ with|some Γ'=>Bv Γ Γ' | none=>Γ)
  |none=>UV r C pre body n (Γ.map λo=>o.map λ_=>0)
theorem IU{r:Rec}{C:Cf}{pre:Gm->Gm}{body:List G5}:∀{n:Nat}{Γ:Gm}{p:Gm×CS},UV r C pre body n Γ=_s p->r.Ss C (_s p.1) (pre p.1) body=_s p.2/\IM (_s p.1) p.2.Γ=_t
 |0,_,_,h=>by cases h
 |n+1,Γ,p,h=>by unfold UV at h;split at h;rename_i x b;split at h;rename_i d;cases h;exact⟨b,d⟩;exact IU h;exact IU h
def qN(r:Rec)(C:Cf)(Γ:Gm)(tg iter:Expr)(body:List G5):Option CS:=(match iter with|.Set _ _ _=>_n|_=>r.I C Γ (Mf tg) iter).bind λs=>(cG C tg).bind λt=>if t.J.all (λi=>decide (i < s.Γ.length)&&!C.F.io.contains i)then(UV r C t.Γ body 4 s.Γ).bind λp=>if Bc p.1 s.Γ then
    let b:=t.J++p.2.js
    _s ⟨_s p.1,s.js++b,if p.2.er||p.2.eb then YX s.f t.f (BN p.1 b) (BN C.F.Γr b) p.2.f else YY s.f t.f (BN p.1 b) p.2.f,p.2.er,_f,_f⟩ else _n else _n
theorem df(R:zJ r){tg iter:Expr}{body:List G5}(ok:zB C X)(h:qN r C Γ tg iter body=_s c):PS X (.For tg iter body [] pos) (tS X.K C.F yz Γ c.Γ c.js c.f):=by
 refine yt h λs d h=>?_;refine yt h λt y h=>?_;split at h;rename_i b;refine yt h λp v h=>?_;split at h;rename_i j;have l:∀x,K3 iter X.env x=pure x:=λx=>by cases iter<;>first|rfl|(cases d)
 have hI:r.I C Γ (Mf tg) iter=_s s:=by cases iter<;>first|exact d|(cases d)
 obtain⟨u,f2⟩:=IU v;obtain⟨q,_,o⟩:=Lm ok y;rw[E4]at b;have n:t.J.all (λi=>decide (i < p.1.length))=true:=by rw[E4];intro i hi;rw[Dy j];exact(Q0.mp (b i hi)).1
 have g:∀i∈C.F.io,i∉t.J:=λi hi z=>by have:=(Q0.mp (b i z)).2;rw[C6.mpr hi]at this;cases this
 have hi:PI X tg iter (tI X.K Γ p.1 s.js s.f):=PI.imp (R.I tg ok hI) λ_ _ _ h=>RI j h;have hp:b9 (C7 X.prog X.w) X.A X.env X.xe:=by rw[ok.xe];exact xh
 have m:=R.Ss ok u;simp only at h;cases h;split;exact iP hp ok.calm hi q (o n) g m f2 rfl rfl l;exact iQ hp ok.calm hi q (o n) g m f2 rfl l;cases h;cases h
noncomputable def qg:Nat:=1000000
def qD(r:Rec)(C:Cf)(Γ:Gm)(c:Expr)(body:List G5):Option CS:=(fixW r C c body 4 Γ).bind λp=>if Bc p.1 Γ&&!(p.2.2.er||p.2.2.eb)then _s ⟨_s p.1,p.2.2.js,ff qg p.2.1.f (BN p.1 p.2.2.js) p.2.2.f,p.2.2.er,_f,_f⟩ else _n
where
 fixW (r:Rec) (C:Cf) (c:Expr) (body:List G5):Nat->Gm->Option (Gm×CT×CS)
 |0,_=>_n
 |n+1,Γ=>(r.T C Γ c).bind λt=>if t.js.isEmpty&&Bc Γ t.Γ then(match r.Ss C (_s Γ) Γ body with
  |some x=>if IM (_s Γ) x.Γ then _s (Γ,t,x)else fixW r C c body n (match x.Γ with|some Γ'=>Bv Γ Γ' | none=>Γ)
  |none=>fixW r C c body n (Γ.map λo=>o.map λ_=>0))else fixW r C c body n (Bv Γ t.Γ)
theorem GY{r:Rec}{C:Cf}{c:Expr}{body:List G5}:∀{n:Nat}{Γ:Gm}{p:Gm×CT×CS},qD.fixW r C c body n Γ=_s p->r.T C p.1 c=_s p.2.1/\p.2.1.js=[]/\Bc p.1 p.2.1.Γ=_t/\r.Ss C (_s p.1) p.1 body=_s p.2.2/\IM (_s p.1) p.2.2.Γ=_t
 |0,_,_,h=>by cases h
 |n+1,Γ,p,h=>by unfold qD.fixW at h;refine yt h λt i h=>?_;split at h;rename_i b;rw[A2]at b;split at h;rename_i x d;split at h;rename_i g;cases h;exact⟨i,U3.mp b.1,b.2,d,g⟩;exact GY h;exact GY h;exact GY h
theorem fA{F:Fr}{Γn:Option Gm}{Γ':Gm}{js:List Nat}{s:G5}{f:Es}(j:Bc Γ' Γ=_t)(h:PS X s (tS X.K F yz Γ' Γn js f)):PS X s (tS X.K F yz Γ Γn js f):=PS.imp h λD σ H h=>by obtain⟨g,m,P,r,R,k,res,e,q⟩:=h;obtain⟨l,P2,s2,i⟩:=r.weaken j;exact⟨l,m,P2,i,R,k,res,e,⟨λΓ' m' g' P' σ' H' e b a s'=>q.nx Γ' m' g' P' σ' H' e b a (s2.trans s'),λd m' g' P' Pv σ' v H' b a s'=>q.rt d m' g' P' Pv σ' v H' b a (s2.trans s'),λΓ' m' g' P' σ' H' e b a s'=>q.bk Γ' m' g' P' σ' H' e b a (s2.trans s'),λΓ' m' g' P' σ' H' e b a s'=>q.ct Γ' m' g' P' σ' H' e b a (s2.trans s')⟩⟩
theorem ko(R:zJ r){t:Expr}{body:List G5}(ok:zB C X)(h:qD r C Γ t body=_s c):PS X (.While t body [] pos) (tS X.K C.F yz Γ c.Γ c.js c.f):=by
 refine yt h λp m h=>?_;split at h;rename_i b;cases h;obtain⟨l,f2,j,i,g⟩:=GY m;have hp:b9 (C7 X.prog X.w) X.A X.env X.xe:=by rw[ok.xe];exact xh
 have d:=R.T ok l;rw[f2]at d;rw[A2]at b;exact fA b.1 (mn qg hp d (R.Ss ok i) j g rfl);cases h
def kc:Es:=λ_ _ _=>_n
def qP(yz:Option Gm)(Γ:Gm):Option CS:=_n
def qO(yz:Option Gm)(Γ:Gm):Option CS:=_n
theorem di(h:qP yz Γ=_s c):PS X (.Break pos) (tS X.K C.F yz Γ c.Γ c.js c.f):=by cases h
theorem dg(h:qO yz Γ=_s c):PS X (.Continue pos) (tS X.K C.F yz Γ c.Γ c.js c.f):=by cases h
noncomputable def fM(es:List Expr)(e:Expr):Option (Str×Pos×Str×Pos×Expr×Expr):=match es with
 |[.Name x g,.Name y d]=>match e with
  |.Tuple [a,b] _ _=>_s (x,g,y,d,a,b)
  |_=>_n
 |_=>_n
def ZA(r:Rec)(C:Cf)(Γ:Gm)(es:List Expr)(k:Nat)(p:Pos)(e:Expr):Option CS:=match fM es e with
 |some t=>(match lA r C Γ t.1 t.2.2.1 t.2.1 t.2.2.2.1 t.2.2.2.2.1 t.2.2.2.2.2 with
  |some c=>_s c
  |none=>Sj r C Γ es k p e)
 |none=>Sj r C Γ es k p e
theorem Yz(R:zJ r){k:Nat}(ok:zB C X)(h:ZA r C Γ es k p e=_s c):PS X (.Assign [.Tuple es k p] e pos) (tS X.K C.F yz Γ c.Γ c.js c.f):=by unfold ZA at h;split at h;rename_i t q;split at h;rename_i b hp;cases h;unfold fM at q;split at q;split at q;cases q;exact dU R ok hp;cases q;cases q;exact Ox R ok h;exact Ox R ok h
theorem eB(R:zJ r)(ok:zB C X)(h:(if Fc e then(r.E C Γ e).bind λc=>Sf C x c else _n)=_s c):PS X (.Assign [.Name x p] e pos) (tS X.K C.F yz Γ c.Γ c.js c.f):=by split at h;rename_i hn;refine yt h λd b h=>?_;exact Os ok (R.E ok b) (CO hn) h;cases h
def eX(r:Rec)(C:Cf)(yz:Option Gm)(Γ:Gm)(s:G5):Option CS:=match s with
 |.Pass _=>_s (Vy Γ)
 |.Expr (.Constant (.str _) _ _) _=>_s (Vy Γ)
 |.Expr e _=>lG r C Γ e
 |.Return (_s e) _=>qG r C Γ e
 |.Return _n _=>ZK C Γ
 |.Assign [.Name x _] (.ListComp elt gens scope _) _=>gH r C Γ x elt gens scope
 |.Assign [.Name x _] e _=>if Fc e then(r.E C Γ e).bind λc=>Sf C x c else _n
 |.Assign [.Tuple es k p] e _=>ZA r C Γ es k p e
 |.Assign [.Subscript x k _] e _=>ZI r C Γ x k e
 |.Assign [.Attribute o f _] e _=>ZX r C Γ o f e
 |.AugAssign (.Name x _) op e _=>qR r C Γ x op e
 |.If c a b _=>tu r C yz Γ c a b
 |.For tg iter body [] _=>qN r C Γ tg iter body
 |.While c body [] _=>qD r C Γ c body
 |.Break _=>qP yz Γ
 |.Continue _=>qO yz Γ
 |.Raise _ _ _=>_s ⟨_n,[],kc,_f,_f,_f⟩
 |_=>_n
theorem Vl(R:zJ r){s:G5}(ok:zB C X)(h:eX r C yz Γ s=_s c):PS X s (tS X.K C.F yz Γ c.Γ c.js c.f):=by
 cases s with
 |Pass _=>cases h;exact iN
 |Expr e _=>
  cases e with
  |Constant k _ _=>
   cases k with|str _=>cases h;exact mz|_=>exact Sg R ok h
  |_=>exact Sg R ok h
 |Return v _=>
  cases v with|none=>exact ZJ h|some e=>exact dS R ok h
 |Assign ts e _=>
  match ts,h with
  |[],h=>cases h
  |t::_::_,h=>cases t<;>cases h
  |[t],h=>
   cases t with
   |Name x _=>
    cases e with|ListComp elt gens scope _=>exact Zb R ok h|_=>exact eB R ok h
   |Tuple es k p=>exact Yz R ok h
   |Subscript x k _=>exact ZH R ok h
   |Attribute o f _=>exact ZW R ok h
   |_=>cases h
 |AugAssign t op e _=>
  cases t with|Name x _=>exact dq R ok h|_=>cases h
 |If c a b _=>exact lF R ok h
 |For tg iter body o _=>
  cases o with|nil=>exact df R ok h|cons _ _=>cases h
 |While c body o _=>
  cases o with|nil=>exact ko R ok h|cons _ _=>cases h
 |Break _=>exact di h
 |Continue _=>exact dg h
 |Raise _ _ _=>cases h;intro pins s σ H D I q;obtain⟨g,m,P,r,R,k,res,e,q⟩:=q;cases e
 |_=>cases h
def Vk(r:Rec)(C:Cf)(yz:Option Gm)(Γ:Gm)(ss:List G5):Option CS:=match ss with
 |[]=>_s (Vy Γ)
 |[s]=>r.S C yz Γ s
 |s::ss=>(r.S C yz Γ s).bind λx=>match x.Γ with
  |none=>_s x
  |some Γ'=>(r.Ss C yz Γ' ss).bind λy=>_s ⟨y.Γ,x.js++y.js,dC x.f y.f,x.er||y.er,x.eb||y.eb,x.ec||y.ec⟩
theorem TL(R:zJ r){ss:List G5}(ok:zB C X)(h:Vk r C yz Γ ss=_s c):Cu X ss (tS X.K C.F yz Γ c.Γ c.js c.f):=by
 match ss,h with
 |[],h=>cases h;exact my
 |[s],h=>exact mw (R.S ok h)
 |s::s2::ss,h=>
  refine yt (show(r.S C yz Γ s).bind _=_s c from h) λx d h=>?_;have h1:=R.S ok d;cases hx:x.Γ with|none=>simp only[hx]at h;cases h;rw[hx]at h1 ⊢;exact iO h1|some Γ'=>simp only[hx]at h;refine yt h λy b h=>?_;cases h;rw[hx]at h1;exact Pj (f:=x.f) (f2:=y.f) (js:=x.js) (js2:=y.js) h1 (R.Ss ok b)
def step(r:Rec):Rec:=⟨eY r,Nb r,eW r,Vn r,eX r,Vk r⟩
def comp:Nat->Rec
 |0=>⟨λ_ _ _=>_n,λ_ _ _ _=>_n,λ_ _ _=>_n,λ_ _ _ _=>_n,λ_ _ _ _=>_n,λ_ _ _ _=>_n⟩
 |n+1=>step (comp n)
theorem FG:∀n,zJ (comp n)
 |0=>⟨(λ_ h=>by cases h),(λ_ h=>by cases h),(λ_ h=>by cases h),(λ_ _ h=>by cases h),(λ_ h=>by cases h),(λ_ h=>by cases h),λ_ h=>by cases h⟩
 |n+1=>have R:=FG n;⟨λok h=>Vo R ok h,λok h=>Vr R ok h,λok h=>Vj R ok h,λtg ok h=>Vm R tg ok h,λok h=>Vl R ok h,λok h=>TL R ok h,λok h _ _ h0 hn=>TN R ok h h0 hn⟩
noncomputable def oS(sc:M4):List Str:=sc.names.filterMap λp=>match p.2 with|.local=>_s p.1|.cell=>_s p.1|_=>_n
mutual
noncomputable def Ao:Expr->List Str
 |.ListComp e d sc _=>oS sc++Ao e++XH d
 |.BoolOp _ vs _=>CM vs
 |.BinOp a _ b _=>Ao a++Ao b
 |.UnaryOp _ a _=>Ao a
 |.IfExp a b c _=>Ao a++Ao b++Ao c
 |.Compare a _ bs _=>Ao a++CM bs
 |.Call f es _ _=>Ao f++CM es
 |.Attribute a _ _=>Ao a
 |.Subscript a b _=>Ao a++Ao b
 |.Slice a b c _=>Jb a++Jb b++Jb c
 |.List es _=>CM es
 |.Tuple es _ _=>CM es
 |.Dict _ vs _=>CM vs
 |.JoinedStr vs _=>CM vs
 |.FormattedValue v _ _ _=>Ao v
 |_=>[]
noncomputable def CM:List Expr->List Str
 |[]=>[]
 |e::es=>Ao e++CM es
noncomputable def Jb:Option Expr->List Str
 |none=>[]
 |some e=>Ao e
noncomputable def XH:List X1->List Str
 |[]=>[]
 |⟨_,it,ifs,_⟩::b=>Ao it++CM ifs++XH b
end
mutual
noncomputable def jq:G5->List Str
 |.Return v _=>Jb v
 |.Assign ts v _=>CM ts++Ao v
 |.AugAssign t _ v _=>Ao t++Ao v
 |.Expr v _=>Ao v
 |.If c a b _=>Ao c++FD a++FD b
 |.For _ it b _ _=>Ao it++FD b
 |.While c b _ _=>Ao c++FD b
 |.Raise e _ _=>Jb e
 |_=>[]
noncomputable def FD:List G5->List Str
 |[]=>[]
 |s::ss=>jq s++FD ss
end
noncomputable def Yr:List Str->List Str->List Str
 |[],a=>a
 |x::xs,a=>if a.contains x then Yr xs a else Yr xs (a++[x])
def AF(st:G5):List Str:=(BM st).args.map (·.arg)
def AH(st:G5):List Str:=Yr (AF st++oS (AE st)++FD (AZ st)) []
noncomputable def hd:(io:List Nat)->Jn Dv io->Dv
 |[],t=>t
 |_::_,t=>t.1
noncomputable def SA:(J:List Nat)->DR J->List Dv
 |[],_=>[]
 |[_],d=>[d]
 |_::j::J,t=>t.1::SA (j::J) t.2
def tl:(io:List Nat)->Jn Dv io->List Dv
 |[],_=>[]
 |i::io,t=>SA (i::io) t.2
theorem LS:∀(J:List Nat)(m:M),SA J (Ac J m)=J.map m.at
 |[],_=>rfl
 |[_],_=>rfl
 |i::j::J,m=>by show m.at i::SA (j::J) (Ac (j::J) m)=_;rw[LS (j::J) m];rfl
theorem SL(io:List Nat)(d:Dv)(m:M):hd io (Zz io d m)=d:=by cases io<;>rfl
theorem RN(io:List Nat)(d:Dv)(m:M):tl io (Zz io d m)=io.map m.at:=by
 cases io with|nil=>rfl|cons i io=>exact LS (i::io) m
def GS(ps:List Str)(io:List Nat)(ro:Nat)(nb:Bool)(F:List Dv->Option (Jn Dv io))(cl:Option Str:=_n):zN where
 ps:=ps
 io:=io
 ro:=ro
 nb:=nb
 fn:=λds=>(F ds).bind λt=>_s (hd io t,tl io t)
 cps:=λR ds k=>(F ds).bind λt=>k (hd io t) (tl io t)
 eq:=λR ds k=>by cases F ds<;>rfl
 cl:=cl
def kJ(io:List Nat):Kt (Jn Dv io):=⟨λm=>_s (Zz io .yw m),λd m=>_s (Zz io d m),λ_=>_n,λ_=>_n⟩
@[reducible] def eI{b:Type}:Nat->(List b->Prop)->Prop
 |0,P=>P []
 |n+1,P=>∀a,eI n λl=>P (a::l)
theorem oj{b:Type}{n:Nat}:∀{P:List b->Prop},eI n P->∀l:List b,l.length=n->P l:=by
 induction n with
 |zero=>intro P h l e;cases l with|nil=>exact h|cons a t=>cases e
 |succ n c=>intro P h l e;cases l with|nil=>cases e|cons a t=>exact c (h a) t (yY e)
structure Md:Type 1 where
 T:Tb
 cs:List (Str×Dv)
 bl:List Str
 fl:List Str
 rf:List Str
def Gd(M:Md)(fs:List (Str×zN))(st:G5)(io:List Nat)(ro:Nat):Cf:=⟨AH st,AE st,λ_=>_t,fs,M.cs,M.bl,M.T,⟨io,Np (AH st).length io,ro⟩,M.fl,M.rf⟩
noncomputable def rW:Rec:=⟨λ_ _ _=>_n,λ_ _ _ _=>_n,λ_ _ _=>_n,λ_ _ _ _=>_n,λ_ _ _ _=>_n,λ_ _ _ _=>_n⟩
def cmp(n:Nat):Rec:=Nat.rec rW (λ_ r=>step r) n
theorem NB:∀n,cmp n=comp n
 |0=>rfl
 |n+1=>by show step (cmp n)=step (comp n);rw[NB n]
def ax(M:Md)(fs:List (Str×zN))(st:G5)(io:List Nat)(ro:Nat):Option CS:=(cmp 100).Ss (Gd M fs st io ro) _n (Kg (AH st).length (AF st).length io) (AZ st)
def WI(M:Md)(fs:List (Str×zN))(st:G5)(io:List Nat)(ro:Nat)(ds:List Dv):Option (Jn Dv io):=match ax M fs st io ro with
 |some c=>c.f (Jn Dv io) (ds++C5 ((AH st).length-(AF st).length) .yw) (kJ io)
 |none=>_n
noncomputable def isFn:ScopeKind->Bool
 |.function=>_t
 |_=>_f
noncomputable def cL:NameKind->Bool
 |.free=>_f
 |_=>_t
def Ng(N P:List Str)(sc:M4):Bool:=isFn sc.kind&&!sc.isCoroutine&&!sc.isGenerator&&decide N.Nodup&&(N.take P.length==P)&&(P.all λx=>match sc.names.lookup x with|some .local=>_t|some .cell=>_t|_=>_f)&&sc.names.all λy=>cL y.2
theorem GB{N P:List Str}{sc:M4}(h:Ng N P sc=_t):zp N P sc:=by
 unfold Ng at h;simp only[A2,J7,decide_eq_true_eq,E4]at h;obtain⟨⟨⟨⟨⟨⟨h1,h2⟩,h3⟩,h4⟩,h5⟩,h6⟩,h7⟩:=h;refine⟨?_,h2,h3,h4,by simpa using h5,λx b=>?_,λy a z=>?_⟩;cases q:sc.kind<;>first|rfl|(rw[q]at h1;cases h1)
 have:=h6 x b;split at this;rename_i e;exact .inl e;rename_i e;exact .inr e;cases this;have:=h7 y a;rw[z]at this;cases this
def lp(M:Md)(fs:List (Str×zN))(st:G5)(io:List Nat)(ro:Nat):Bool:=Ng (AH st) (AF st) (AE st)&&decide io.Nodup&&(io.all λi=>decide (i < (AF st).length))&&decide ((AF st).length<=(AH st).length)&&match ax M fs st io ro with
 |some c=>IM (_s (Np (AH st).length io)) c.Γ
 |none=>_f
section
variable{P:E8}{w:G7}{K:W.Frag}{mg:Str->Option _v}{base:G2}
structure Bs (M:Md) (K:W.Frag) (mg:Str->Option _v):Prop where
 cs:∀x d,(x,d)∈M.cs->∃v u,mg x=_s u/\RelV v u/\∀g H,Rep K g H 0 d v yv
 bl:∀x∈M.bl,mg x=_n
def Fs(P:E8)(w:G7)(K:W.Frag)(mg:Str->Option _v)(base:G2)(fl:List Str)(k:Nat)(fs:List (Str×zN)):Prop:=∀x s,(x,s)∈fs->s.io.Nodup/\(∀i∈s.io,i < s.ps.length)/\∃j,j<=k/\Fz P w K mg base fl j x s
theorem Fs.nil{fl:List Str}{k:Nat}:Fs P w K mg base fl k []:=λ_ _ h=>by cases h
theorem Fs.zCm{fl:List Str}{k l:Nat}{x:Str}{s:zN}{fs:List (Str×zN)}(h:Fs P w K mg base fl k fs)(c:k<=l)(h1:s.io.Nodup)(h2:∀i∈s.io,i < s.ps.length)(h3:Fz P w K mg base fl l x s):Fs P w K mg base fl l ((x,s)::fs):=λy t q=>by
 rcases C9.mp q with q|q
 cases q;exact⟨h1,h2,l,C4 _,h3⟩;obtain⟨a,b,j,d,f⟩:=h y t q;exact⟨a,b,j,by omega,f⟩
theorem Fs.cons{fl:List Str}{k:Nat}{x:Str}{s:zN}{fs:List (Str×zN)}(h:Fs P w K mg base fl k fs)(h1:s.io.Nodup)(h2:∀i∈s.io,i < s.ps.length)(hc:s.cl=_n)(h3:Fx P w K mg base (k+1) x s.ps (spF K s)):Fs P w K mg base fl (k+1) ((x,s)::fs):=h.zCm (Y2 k) h1 h2 (by unfold Fz;rw[hc];exact h3)
theorem Qi{M:Md}{k:Nat}{fs:List (Str×zN)}{x qual:Str}{st:G5}{f:A8}{fd:N1}{io:List Nat}{ro:Nat}{nb:Bool}{cl:Option Str}{F:List Dv->Option (Jn Dv io)}(b:Bs M K mg)(h:Fs P w K mg base M.fl k fs)(c:lp M fs st io ro=_t)(p:∀ds,ds.length=(AF st).length->WI M fs st io ro ds=F ds)
    (G:Fun K x qual st f fd):zI P w K mg base Gq (k+1) f fd (AF st) (spF K (GS (AF st) io ro nb F cl)):=by
  unfold lp at c;simp only[A2,decide_eq_true_eq,E4]at c;obtain⟨⟨⟨⟨D,C⟩,B⟩,v⟩,i⟩:=c;cases e:ax M fs st io ro with
  |none=>rw[e]at i;cases i
  |some cs=>
    rw[e]at i;have S:=GB D;refine fY (s:=GS (AF st) io ro nb F cl) (N:=AH st) (body:=cs.f) (Γn:=cs.Γ) (js:=cs.js) G S C B v i (λzV A outer s' H E g=>?_) λds d bs l o=>?_;have ok:zB (Gd M fs st io ro) (Dh Gq P w K mg base (AH st) qual (AE st) f zV A outer s' H E).zo:=⟨rfl,rfl,S.nd,rfl,λ_ _=>rfl,⟨rfl,k,g⟩,λy t q=>by obtain⟨a,b,j,n,q⟩:=h y t q;exact⟨a,b,j,k,n,g,q⟩,b.cs,b.bl,rfl⟩
    unfold ax at e;rw[NB]at e;exact(FG 100).Ss ok e;have g:=p ds l;unfold WI at g;rw[e]at g;refine yt (show(F ds).bind _=_s (d,bs)from o) λt u r=>?_;cases r;refine⟨_,kJ io,t,g.trans u,λm z=>?_,λd' m z=>?_⟩;have z:_s (Zz io .yw m)=_s t:=z;cases z;exact⟨SL io _ m,RN io _ m⟩;have z:_s (Zz io d' m)=_s t:=z;cases z;exact⟨SL io _ m,RN io _ m⟩
abbrev PD(x q:Str)(st:G5):Prop:=∀(kV doc pm:_v)(an:Option A8)(zV ct:_v)(us:List _v),us.length=(AF st).length->xu (W.fnOf x q (BM st) (AZ st) (AE st) .none kV doc pm an zV ct) ⟨us,[]⟩=pure ((AF st).zip us)
abbrev Zx(x:Str)(st:G5):Prop:=PD x x st
theorem NC{M:Md}{fs:List (Str×zN)}{st:G5}{io:List Nat}{ro:Nat}(c:lp M fs st io ro=_t):io.Nodup/\∀i∈io,i < (AF st).length:=by unfold lp at c;simp only[A2,decide_eq_true_eq,E4]at c;exact⟨c.1.1.1.2,c.1.1.2⟩
theorem Fs.def{M:Md}{k:Nat}{fs:List (Str×zN)}{x:Str}{st:G5}{io:List Nat}{ro:Nat}{nb:Bool}{F:List Dv->Option (Jn Dv io)}(h:Fs P w K mg base M.fl k fs)(b:Bs M K mg)(c:lp M fs st io ro=_t)(e:∀ds,ds.length=(AF st).length->WI M fs st io ro ds=F ds)
    (a:GF K x st) (hm:mg x=_s (.ref (As K x))) (d:Zx x st):Fs P w K mg base M.fl (k+1) ((x,GS (AF st) io ro nb F)::fs):=
  h.cons (NC c).1 (NC c).2 rfl ⟨_,_,Qi b h c e (QR a),hm,a.2.2.2,(QR a).binds d⟩
def Xd(K:W.Frag)(c m:Str):A8:=match W.findIn K (.ref (As K c)) m with
 |some (_s (.ref a))=>a
 |_=>0
abbrev GM(K:W.Frag)(c q m:Str)(t:G5):Prop:=W.findIn K (.ref (As K c)) m=_s (_s (.ref (Xd K c m))) /\
 K.lookup (Xd K c m)=_s ⟨.type "function", _n,.func (W.fnOf m q (BM t) (AZ t) (AE t) .none .none .none (bY K (Xd K c m)) _n (Uk K (Xd K c m)) .none),#[]⟩ /\
 W.codeIn K (Uk K (Xd K c m)) q=_t/\W.keepIn K (.ref (Xd K c m))=_t/\W.isFn K (.ref (Xd K c m))=_t
noncomputable def oh(K:W.Frag)(C:A8)(f:Str):Bool:=match W.findIn K (.ref C) f with
 |some _n=>_t
 |_=>_f
noncomputable def mm(K:W.Frag)(C:A8):Bool:=match W.findIn K (.ref C) "__setattr__" with
 |some (_s (.builtin id))=>id == "object.__setattr__"
 |_=>_f
abbrev GC(K:W.Frag)(c:Str)(fl:List Str):Prop:=W.nsIn K K4 c=_s (_s (.ref (As K c)))/\W.plainGet K (As K c) Str.empty=_t/\W.hasDictIn K (As K c)=_t/\W.plainOver K (As K c)=_t/\mm K (As K c)=_t /\
 fl.all (oh K (As K c))=_t/\W.makesIn K (As K c)=_t/\W.keepIn K (.ref (As K c))=_t
theorem YC{c:Str}{fl:List Str}(g:GC K c fl):eK K c fl:=by obtain⟨_,h1,h2,h3,h4,h5,_⟩:=g;refine⟨⟨h1,h2,h3,?_⟩,λf a=>?_⟩;unfold mm at h4;split at h4;rename_i id e;rw[e,beq_iff_eq.mp h4];cases h4;have:=(E4.mp h5) f a;unfold oh at this;split at this;rename_i e;exact e;cases this
theorem Fs.zCd{M:Md}{k:Nat}{fs:List (Str×zN)}{cl q x:Str}{st:G5}{io:List Nat}{ro:Nat}{nb:Bool}{F:List Dv->Option (Jn Dv io)}(h:Fs P w K mg base M.fl k fs)(b:Bs M K mg)(c:lp M fs st io ro=_t)(i:∀ds,ds.length=(AF st).length->WI M fs st io ro ds=F ds)
    (a:GM K cl q x st) (d:GC K cl M.fl) (hm:mg cl=_s (.ref (As K cl))) (g:PD x q st):Fs P w K mg base M.fl (k+2) ((x,GS (AF st) io ro nb F (_s cl))::fs):=by
  have f:Fun K x q st (Xd K cl x) _:=Mi a.2.1 a.2.2.1 a.2.2.2.1;refine h.zCm (by omega) (NC c).1 (NC c).2 ?_;unfold Fz;refine⟨k+1,_,_,C4 _,Qi (cl:=_s cl) b h c i f,f.binds g,⟨a.1,a.2.2.2.2,a.2.2.2.1⟩,YC d,hm,λe=>⟨d.2.2.2.2.2.2.1,?_,a.2.2.2.2,d.2.2.2.2.2.2.2⟩⟩;rw[<- e];exact a.1
def GA(x:Str)(st:G5)(fs:List (Str×zN))(io:List Nat)(ro:Nat)(nb:Bool)(F:List Dv->Option (Jn Dv io))(cl:Option Str:=_n):List (Str×zN):=(x,GS (AF st) io ro nb F cl)::fs
theorem BV{x q:Str}{st:G5}(n:Nat)(hn:(AF st).length=n)(h:∀(kV doc pm:_v)(an:Option A8)(zV ct:_v),eI n λus=>xu (W.fnOf x q (BM st) (AZ st) (AE st) .none kV doc pm an zV ct) ⟨us,[]⟩=pure ((AF st).zip us)):PD x q st:=
 λkV doc pm an zV ct us a=>oj (h kV doc pm an zV ct) us (a.trans hn)
noncomputable def QD(K:W.Frag)(x:Str):Bool:=match W.nsIn K K4 x with|some _n=>_t|_=>_f
theorem qU{M:Md}{h:G2}(X:K.In h)(G:h.Ns K4 mg)(hc:M.cs=[])(a:M.bl.all (QD K)=_t):Bs M K mg:=⟨(λx d q=>by rw[hc]at q;cases q),λx b=>by have:=(E4.mp a) x b;unfold QD at this;split at this;rename_i e;exact W.mg_none_of X G e;cases this⟩
noncomputable def Ke{e:Type}(f:Dv->Dv->Dv->Dv->Option e)(ds:List Dv):Option e:=match ds with|[a,b,c,d]=>f a b c d|_=>_n
noncomputable def cz{g:Type}(f:Dv->Dv->Dv->Dv->Dv->Option g)(ds:List Dv):Option g:=match ds with|[a,b,c,d,e]=>f a b c d e|_=>_n
noncomputable def eh{g:Type}(F:Dv->Dv->Dv->Dv->Dv->Dv->Option g)(ds:List Dv):Option g:=match ds with|[a,b,c,d,e,f]=>F a b c d e f|_=>_n
noncomputable def DT{d:Type}(f:Dv->Dv->Dv->Option d)(ds:List Dv):Option d:=match ds with|[a,b,c]=>f a b c|_=>_n
abbrev Gj(M:Md)(fs:List (Str×zN))(st:G5)(io:List Nat)(ro:Nat)(f:List Dv->Option (Jn Dv io)):Prop:=∀ds,ds.length=(AF st).length->WI M fs st io ro ds=f ds
theorem FH{a:Type}{G F:List Dv->a}{m:Nat}(n:Nat)(hn:m=n)(h:eI n λds=>G ds=F ds):∀ds,ds.length=m->G ds=F ds:=λds b=>oj h ds (b.trans hn)
def RS(K:W.Frag):Sp:=λvs H Q _=>∃(a:A8)(ns:List Int),vs=[.ref a]/\Dk K H a (ns.map V.int)/\ns.length<=63/\eG H/\∀H',Q (.bl _t) H'
theorem jw{k:Nat}{f:A8}{fd:N1}{ps:List Str}{nb:Bool}{F:List Dv->Option Dv}(hp:ps.length=1)(h0:zI P w K mg base Gq k f fd ps (spF K (GS ps [] 1 nb F)))(h:∀ns:List Int,ns.length<=63->F [.scr ns]=_s (.bl _t)):zI P w K mg base Gq k f fd ps (RS K):=h0.imp λvs H Q E q=>by
 obtain⟨a,ns,rfl,c,hn,d,q⟩:=q;have b:qw K H a ns:=by
  rcases c with(h1|h1)|h1
  rcases d a with z|⟨o,xs,z⟩
  rw[h1]at z;cases z;rw[h1]at z;cases z;exact .inl h1;exact .inr h1
 refine⟨⟨λ_=>False,[]⟩,[.scr ns],yv,?_,.bl _t,[],by show(F [.scr ns]).bind _=_;rw[h ns hn];rfl,λg' H' v Pv Pb _ rv _ _=>by rw[BX rv];exact q H'⟩;show Rel K _ H (Kb ps.length []) _ _ _;rw[hp];refine⟨?_,λ_=>yv,⟨rfl,rfl,λi o e=>?_,λi e a z=>z,λi j n a z=>z.elim⟩,λa=>⟨λz=>z.elim,fun⟨i,z⟩=>z⟩⟩;exact λ_ z=>z.elim
 match i,e with
 |0,e=>cases e;exact⟨_,_,rfl,rfl,by unfold Rep;exact⟨⟨a,rfl,b⟩,λ_ z=>z⟩⟩
end
end R
namespace L4
open PySem PySem.Spec PyProof.Rows L2 Builtin
theorem HN:fillsNumberSlot (.type "tuple") "mul" = pure false:=
 PySem.fillsNumberSlot_seq (id := "tuple.__mul__") (r:=_s (.builtin "tuple.__rmul__")) F.slot_tuple_mul.lookup (by decide +kernel) F.slot_tuple_rmul.lookup (by decide +kernel)
theorem MR:seqRepeat? (.type "tuple")=pure (_s (.builtin "tuple.__mul__")):=by unfold seqRepeat?;rw[xK (T := "tuple") (name := "__mul__") (id := "tuple.__mul__") F.slot_tuple_mul.lookup (by decide +kernel),xK (T := "tuple") (name := "__rmul__") (id := "tuple.__rmul__") F.slot_tuple_rmul.lookup (by decide +kernel)];rfl
theorem Jm(a:Int)(t:Tok)(l:A8)(items:Array _v)(n:Nat) :
    yP (Z0.«int.__rmul__» ⟨[.int a t,.ref l],[]⟩) (λ_ R s=>(∃o,s.heap.get? l=_s o/\o.cls=.type "tuple" /\ o.data=.seq items n)/\R (.ok (.ret Value.notImplemented)) s):=
  .of_wp λprog w A R s h=>by
    obtain⟨hp,g,d,e,os⟩:=s;obtain⟨⟨⟨c,dd,b,sl⟩,f,hc,hd⟩,h⟩:=h;simp only at hc hd;subst hc;subst hd
    wp_walk;exact⟨_,rfl,h⟩
theorem Iq(l:A8)(items:Array _v)(n:Nat)(x:Int)(u:Tok)(h1:1 < x)(h2:x < 2 ^ 63)(j:items.size * x.toNat<=1000000)(a:items.isEmpty=_f) :
    yP (Z0.«tuple.__mul__» ⟨[.ref l,.int x u],[]⟩) (λ_ R s=>(∃o,s.heap.get? l=_s o/\o.cls=.type "tuple" /\ o.data=.seq items n)/\R (.ok (.ret (D4 s.heap.objs.size))) {s with heap:=s.heap.push {cls:=O1 "tuple", data:=yh ((C5 x.toNat items).foldl (·++·) #[])},toks:=s.toks}):=
  .of_wp λprog w A R s h=>by
    obtain⟨hp,g,d,i,os⟩:=s;obtain⟨⟨⟨c,dd,f,sl⟩,k,hc,hd⟩,h⟩:=h;simp only at hc hd;subst hc;subst hd;have b:(items.size:Int) * x<=1000000:=by
      have e:x=(x.toNat:Int):=by omega
      rw[e,<- Int.natCast_mul];omega
    wp_walk
    refine U9 (by simp;omega) ?_
    wp_walk
    refine U9 (by rw[a];simp;omega) ?_
    wp_walk
    refine U9 (by rw[a];simp;omega) ?_
    wp_walk
    refine U9 (decide_eq_false (by have:((2:Int) ^ 63-1) / 8 > 1000000:=(by decide);omega)) ?_
    wp_walk
    refine U9 (decide_eq_false (by unfold Tuple.tupleTooMany;rw[decide_eq_true_eq,R5];omega)) ?_
    wp_walk
    refine U9 (decide_eq_false (by rw[AutoListH.size_joined,R5];simp only[Array.size_empty];have:=wj items.size x.toNat;omega)) ?_
    wp_walk
    exact⟨_,rfl,h⟩
theorem Ip(l:A8)(items:Array _v)(n:Nat)(u:Tok)(a:items.isEmpty=_f) :
    yP (Z0.«tuple.__mul__» ⟨[.ref l,.int 0 u],[]⟩) (λ_ R s=>(∃o,s.heap.get? l=_s o/\o.cls=.type "tuple" /\ o.data=.seq items n)/\R (.ok (.ret (D4 s.heap.objs.size))) {s with heap:=s.heap.push {cls:=O1 "tuple", data:=yh #[]},toks:=s.toks}):=
  .of_wp λprog w A R s h=>by
    obtain⟨hp,g,d,e,os⟩:=s;obtain⟨⟨⟨c,dd,b,sl⟩,f,hc,hd⟩,h⟩:=h;simp only at hc hd;subst hc;subst hd
    wp_walk
    exact⟨_,rfl,h⟩
theorem KJ(l:A8)(items:Array _v)(n:Nat)(u:Tok) :
    yP (Z0.«tuple.__mul__» ⟨[.ref l,.int 1 u],[]⟩) (λ_ R s=>(∃o,s.heap.get? l=_s o/\o.cls=.type "tuple" /\ o.data=.seq items n)/\R (.ok (.ret (D4 l))) s):=
  .of_wp λprog w A R s h=>by
    obtain⟨hp,g,d,b,os⟩:=s;obtain⟨⟨⟨c,dd,a,sl⟩,e,hc,hd⟩,h⟩:=h;simp only at hc hd;subst hc;subst hd
    wp_walk
    exact⟨_,rfl,h⟩
def zCg:R2:=λx y H Q=>∃l k xs,x=.ref l/\y=.int k/\H l=_s (.tup xs)/\xs≠[]/\0<=k/\k < 2 ^ 63/\xs.length * k.toNat<=1000000/\(k=1->Q (.ref l) H) /\
 (k≠1->∀p,H p=_n->Q (.ref p) (upd H p (.tup (C5 k.toNat xs).flatten)))
theorem zCU{X:Cx}:Ce X (binaryOp .Mult) zCg:=by
 intro pins s σ H x y v u Q I z w h;obtain⟨l,k,xs,rfl,rfl,B,d,h1,h2,i,A,g⟩:=h;cases z;obtain⟨t,rfl⟩:=w;obtain⟨a,r,⟨o,e,c,n,C⟩,_⟩:=I.tuple (show FR X.K H l xs from .inl (.inl B));have j:a.length=xs.length:=r.length.symm;have b:∃o,s.heap.get? l=_s o/\o.cls=.type "tuple" /\ o.data=.seq a.toArray n:=⟨o,e,c,C⟩;have m:a.toArray.isEmpty=false:=by
  cases a with
  |nil=>cases xs with
   |nil=>exact absurd rfl d
   |cons _ _=>simp at j
  |cons _ _=>rfl
 refine q9 (T := "tuple") (U := "int") (by decide) ⟨_,e,c⟩ (λs'=>u7 s' k t) HN F.fills_int_mul F.slot_int_rmul MR F.slot_int_index.lookup
  (T4 F.slot_int_rmul (u7 s k t) F.entry_int_rmul (F.args_int_rmul_2 _ _) (Jm k t l a.toArray n)
   ⟨b,rfl,⟨_,e,c⟩,?_⟩)
 by_cases f:k=1;subst f;exact T4 F.slot_tuple_mul ⟨_,e,c⟩ F.entry_tuple_mul (F.args_tuple_mul_2 _ _) (KJ l a.toArray n t) ⟨b,.ref l,H,I,rfl,A rfl⟩;by_cases h0:k=0;subst h0;exact T4 F.slot_tuple_mul ⟨_,e,c⟩ F.entry_tuple_mul (F.args_tuple_mul_2 _ _) (Ip l a.toArray n t m) ⟨b,.ref _,_,I.laid (t':=s.toks) (λ_ _ q=>A4 _ q) (C4 _) (o:=.tup (C5 (Int.toNat 0) xs).flatten) ⟨G8 _,[],.nil,IB.new _ _⟩,rfl,g f _ I.fresh⟩;refine T4 F.slot_tuple_mul ⟨_,e,c⟩ F.entry_tuple_mul (F.args_tuple_mul_2 _ _) (Iq l a.toArray n k t (by omega) h2 (by rw[B0,j];exact i) m) ⟨b,?_⟩;have f0:wF (λx1 p=>x1++p) #[] (C5 k.toNat a.toArray)=(C5 k.toNat a).flatten.toArray:=by have:=foldl_rep a k.toNat [];rw[j4]at this;exact this
 rw[f0];refine⟨.ref _,_,I.laid (t':=s.toks) (λ_ _ q=>A4 _ q) (C4 _) (o:=.tup (C5 k.toNat xs).flatten) ⟨?_,_,r.rep k.toNat,IB.new _ _⟩,rfl,g f _ I.fresh⟩;rw[len_rep,wj];exact D0 i (by decide)
end L4
namespace R
open PySem L2
variable{vs:List V}{d:Dv}{o:Nat}{v:V}{P:Fp}{xs:List Dv}{α:Type}
section
variable{K:W.Frag}{g:G}{H:Hp}
theorem RA.nil(h:RA K g H [] vs):vs=[]:=by unfold RA at h;exact h
theorem RA.cons{ds:List Dv}(h:RA K g H (d::ds) vs):∃v r o P,vs=v::r/\o<=1/\Rep K g H o d v P/\RA K g H ds r:=by unfold RA at h;exact h
theorem RA.one(h:RA K g H [d] vs):∃v o P,vs=[v]/\o<=1/\Rep K g H o d v P:=by obtain⟨v,r,o,P,rfl,a,h1,h2⟩:=h.cons;cases h2.nil;exact⟨v,o,P,rfl,a,h1⟩
theorem RA.two{e:Dv}(h:RA K g H [d,e] vs):∃v o P w u R,vs=[v,w]/\o<=1/\Rep K g H o d v P/\u<=1/\Rep K g H u e w R:=by obtain⟨v,r,o,P,rfl,b,h1,h2⟩:=h.cons;obtain⟨w,u,R,rfl,a,h3⟩:=h2.one;exact⟨v,o,P,w,u,R,rfl,b,h1,a,h3⟩
theorem BK{l:List Nat}(h:Rep K g H o (.str l) v P):v=.str (tx l):=by unfold Rep at h;exact h.1
theorem FC(h:Rep K g H o .yw v P):v=.yw:=by unfold Rep at h;exact h.1
inductive SeV (K:W.Frag) (g:G) (H:Hp) (xs:List Dv) (v:V) (S:A8->List V->Prop) (o:List V->HO):Prop
 |mk (a:A8) (us:List V) (e:v=.ref a) (b:S a us) (c:AA K g H 0 xs us yv) (d:H a=_s (o us))
theorem Fg(b:o<=1)(h:Rep K g H o (.lst xs) v P):SeV K g H xs v (Dk K H) .lst:=by unfold Rep at h;obtain⟨a,us,P',rfl,h1,h2,_⟩:=h;rw[a9 b]at h2;exact⟨a,us,rfl,.inl (.inl h1.1),h2.z,h1.1⟩
theorem Gu(b:o<=1)(h:Rep K g H o (.tup xs) v P):SeV K g H xs v (FR K H) .tup:=by unfold Rep at h;obtain⟨a,us,rfl,h1,h2⟩:=h;rw[a9 b]at h2;exact⟨a,us,rfl,.inl (.inl h1),h2.z,h1⟩
theorem Pg{ns:List Int}(h:Rep K g H o (.scr ns) v P):∃a,v=.ref a/\Dk K H a (ns.map V.int):=by unfold Rep at h;obtain⟨⟨a,rfl,h1⟩,_⟩:=h;exact⟨a,rfl,h1.sq⟩
theorem Ds(b:o<=1){a:A8}{us:List V}(h1:H a=_s (.tup us))(h2:AA K g H 0 xs us yv):Rep K g H o (.tup xs) (.ref a) yv:=by unfold Rep;rw[a9 b];exact⟨a,us,rfl,h1,h2⟩
theorem Ap.int(i:Int):Ap K g H o (.int i) (.int i) H:=Ap.old Bh
theorem Ap.bl(b:Bool):Ap K g H o (.bl b) (.bl b) H:=Ap.old Cr
theorem Ap.str(l:List Nat):Ap K g H o (.str l) (.str (tx l)) H:=Ap.old (by unfold Rep;exact⟨rfl,λ_ z=>z⟩)
theorem Ap.tup(b:o<=1){p:A8}(hp:H p=_n)(h:AA K g H 0 xs vs yv):Ap K g H o (.tup xs) (.ref p) (upd H p (.tup vs)):=
 have a:=CV hp (.tup vs)
 ⟨a,yv,Ds b AG (h.held (Step.same (g:=g) (P:=yv) a) zA.yv λ_ z=>z.elim),λ_ z=>z.elim⟩
theorem HI{xs:List Dv}{vs:List V}(h:AA K g H 0 xs vs yv):∀n,AA K g H 0 (C5 n xs).flatten (C5 n vs).flatten yv
 |0=>by simpa using AA.nil
 |n+1=>by rw[M6,M6,Q5,Q5];exact Bg h (HI h n)
theorem Pp(n:Nat)(h:AA K g H 0 xs vs yv):AA K g H 0 (xs.drop n) (vs.drop n) yv:=by have h0:=GN.mp h;exact GN.mpr ⟨by simp[h0.1],λi d v b a=>h0.2 (n+i) d v (by simpa using b) (by simpa using a)⟩
theorem Pm(n:Nat)(h:AA K g H 0 xs vs yv):AA K g H 0 (xs.take n) (vs.take n) yv:=by have h0:=GN.mp h;refine GN.mpr ⟨by simp[h0.1],λi d v a b=>?_⟩;rw[List.getElem?_take]at a b;split at a;rename_i hi;rw[if_pos hi]at b;exact h0.2 i d v a b;cases a
theorem JL(ns:List Int):AA K g H 0 (ns.map .int) (ns.map V.int) yv:=GN.mpr ⟨by simp,λi d v a b=>by
 rw[C8]at a b;cases q:ns[i]? with|none=>rw[q]at a;cases a|some k=>rw[q]at a b;cases a;cases b;exact Bh⟩
def Bo(xs:List α)(lo hi:Option Int):List α:=(xs.drop (HT.zD xs.length 0 lo)).take (HT.zD xs.length xs.length hi-HT.zD xs.length 0 lo)
theorem cS{a:Type}(f:α->a)(xs:List α)(lo hi:Option Int):(Bo xs lo hi).map f=Bo (xs.map f) lo hi:=by unfold Bo;rw[List.map_take,List.map_drop,B9]
theorem dz{a:Type}{f:α->a}{xs:List α}{i:Int}:Gp (xs.map f) i=(Gp xs i).map f:=by
 unfold Gp;rw[B9];cases Xn xs.length i with|none=>rfl|some j=>show(xs.map f)[j]?=_;rw[C8];rfl
theorem HJ(lo hi:Option Int)(h:AA K g H 0 xs vs yv):AA K g H 0 (Bo xs lo hi) (Gb vs lo hi) yv:=by unfold Bo Gb;rw[h.len];exact Pm _ (Pp _ h)
theorem Nq{i:Int}(h:AA K g H 0 xs vs yv)(e:Gp xs i=_s d):∃v,Gp vs i=_s v/\Rep K g H 0 d v yv:=by
 unfold Gp at e ⊢;rw[h.len]at e;cases q:Xn vs.length i with|none=>rw[q]at e;cases e|some j=>rw[q]at e;obtain⟨v,R,b,a,_⟩:=h.get e;exact⟨v,b,a.z⟩
noncomputable def DG(C:Int->Int->Bool)(f:Int->Int->Int)(x y:Dv):Option Dv:=match x,y with|.int i,.int j=>if C i j=_t then _s (.int (f i j))else _n|_,_=>_n
noncomputable def FP(f:Int->Int->Bool)(x y:Dv):Option Bool:=match x,y with|.int i,.int j=>_s (f i j)|_,_=>_n
abbrev Zp:=DG (λ_ _=>_t) λi j=>i-j
abbrev Ek:=DG (λ_ j=>decide (0 < j)) λi j=>i % j
abbrev Zr:=DG (λ_ j=>decide (0 < j)&&decide (j < 1073741824)) λi j=>i / j
abbrev lQ:=DG (λi j=>decide (0<=j)&&decide (j<=1000000)&&decide (i.natAbs < 2 ^ 64)) λi j=>i ^ j.toNat
abbrev qp:=FP λi j=>decide (j < i)
abbrev dw:=FP λi j=>decide (j<=i)
theorem Fw{f:Dv->Dv->Option α}{ds:List Dv}{a:α}(h:two f ds=_s a):∃x y,ds=[x,y]/\f x y=_s a:=by unfold two at h;split at h;exact⟨_,_,rfl,h⟩;cases h
theorem HL{f:Dv->Dv->Option Dv}{r:R2}(h:∀g H x y v w b a P R d Q,Zd g H->b<=1->Rep K g H b x v P->a<=1->Rep K g H a y w R->f x y=_s d->(∀v H',Ap K g H o d v H'->Q v H')->r v w H Q):AN K (two f) o (MC r):=λg H ds vs d Q zd ra e k=>by obtain⟨x,y,rfl,e⟩:=Fw e;obtain⟨v,b,P,w,a,R,rfl,h1,h2,h3,h4⟩:=ra.two;exact h g H x y v w b a P R d Q zd h1 h2 h3 h4 e k
theorem GR{f:Dv->Dv->Option Bool}{r:R2}(h:∀g H x y v w c a P R b (Q:VK),Zd g H->c<=1->Rep K g H c x v P->a<=1->Rep K g H a y w R->f x y=_s b->Q (.bl b) H->r v w H Q):AN K (λds=>(two f ds).map .bl) 0 (MC r):=λg H ds vs d Q zd ra e k=>by
 have e:(two f ds).map Dv.bl=_s d:=e;cases q:two f ds with|none=>rw[q]at e;cases e|some b=>rw[q]at e;cases e;obtain⟨x,y,rfl,i⟩:=Fw q;obtain⟨v,c,P,w,a,R,rfl,h1,h2,h3,h4⟩:=ra.two;exact h g H x y v w c a P R b Q zd h1 h2 h3 h4 i (k _ _ (Ap.bl _))
theorem MU{C:Int->Int->Bool}{a:Int->Int->Prop}{f:Int->Int->Int}(hc:∀i j,C i j=_t->a i j):AN K (two (DG C f)) o (MC (rI a λi j=>.int (f i j))):=HL λg H x y v w h b P R d Q zd _ h1 _ h2 e k=>by unfold DG at e;split at e;split at e;rename_i c;cases e;rw[AK h1,AK h2];exact⟨_,_,rfl,rfl,hc _ _ c,k _ _ (Ap.int _)⟩;cases e;cases e
theorem bV{f:Int->Int->Int}:AN K (two (DG (λ_ _=>_t) f)) o (MC (WQ λi j=>.int (f i j))):=HL λg H x y v w b a P R d Q zd _ h1 _ h2 e k=>by unfold DG at e;split at e;cases e;rw[AK h1,AK h2];exact⟨_,_,rfl,rfl,k _ _ (Ap.int _)⟩;cases e
theorem II{f:Int->Int->Bool}:AN K (λds=>(two (FP f) ds).map .bl) 0 (MC (WQ λi j=>.bl (f i j))):=GR λg H x y v w c a P R b Q zd _ h1 _ h2 e k=>by unfold FP at e;split at e;cases e;rw[AK h1,AK h2];exact⟨_,_,rfl,rfl,k⟩;cases e
noncomputable def Ad(x y:Dv):Option Dv:=match x,y with
 |.int i,.int j=>_s (.int (i+j))
 |.str a,.str b=>if a.length+b.length<=1000000 then _s (.str (a++b))else _n
 |.lst xs,.lst ys=>if xs.length+ys.length<=1000000 then _s (.lst (xs++ys))else _n
 |.tup xs,.tup ys=>if xs.length+ys.length<=1000000 then _s (.tup (xs++ys))else _n
 |_,_=>_n
theorem jC:AN K (two Ad) 1 (MC (Nw K)):=HL λg H x y v w s r P R d Q zd l1 h1 l2 h2 e k=>by unfold Ad at e;split at e;cases e;rw[AK h1,AK h2];exact Zk (k _ _ (Ap.int _));split at e;rename_i h;cases e;rw[BK h1,BK h2];refine Zi (by rw[Cn,Cn];exact h) ?_;rw[PL];exact k _ _ (Ap.str _);cases e;split at e;rename_i h;cases e;obtain⟨a,us,rfl,_,f,ha⟩:=Fg l1 h1;obtain⟨b,ws,rfl,_,c,i⟩:=Fg l2 h2;exact Zj ha i (by rw[<- f.len,<- c.len];exact h) λp hp=>k _ _ (Ap.lst zd (Bg f c) hp);cases e;split at e;rename_i h;cases e;obtain⟨a,us,rfl,ha,f,m⟩:=Gu l1 h1;obtain⟨b,ws,rfl,i,c,l⟩:=Gu l2 h2;have j:=Bg f c;by_cases n:us=[];subst n;exact .inr ⟨a,b,ws,rfl,rfl,ha,i,k _ _ (Ap.old (Ds (C4 1) l j))⟩;refine .inl (.inr (.inr (.inr ⟨a,b,us,ws,rfl,rfl,ha,i,n,by rw[<- f.len,<- c.len];exact D0 h (by decide),λq=>?_,λ_ p hp=>k _ _ (Ap.tup (C4 1) hp j)⟩)));subst q;rw[G4]at j;exact k _ _ (Ap.old (Ds (C4 1) m j));cases e;cases e
noncomputable def big(i:Int):Bool:=decide (-(2 ^ 64) < i)&&decide (i < 2 ^ 64)
def EF(x y:Dv):Option Dv:=match x,y with
 |.int i,.int j=>if(big i||big j)=_t then _s (.int (i * j))else _n
 |.lst xs,.int k=>if xs.length * k.toNat<=1000000/\k < 1000000/\-1000000 < k then _s (.lst (C5 k.toNat xs).flatten)else _n
 |.tup xs,.int k=>if xs≠[]/\0<=k/\k < 1000000/\xs.length * k.toNat<=1000000 then _s (.tup (C5 k.toNat xs).flatten)else _n
 |_,_=>_n
theorem iw:AN K (two EF) 1 (MC (λx y H Q=>(rI eL λi j=>.int (i * j)) x y H Q\/nU x y H Q\/L4.zCg x y H Q)):=HL λg H x y v w n m P R d Q zd l1 h1 l2 h2 e k=>by
 unfold EF at e;split at e;split at e;rename_i c;cases e;rw[AK h1,AK h2];refine .inl ⟨_,_,rfl,rfl,?_,k _ _ (Ap.int _)⟩;rw[j9]at c;unfold big at c;rw[A2,A2,decide_eq_true_eq,decide_eq_true_eq,decide_eq_true_eq,decide_eq_true_eq]at c;exact c;cases e;split at e;rename_i h;cases e;obtain⟨a,us,rfl,ha,f,b⟩:=Fg l1 h1;rw[AK h2];exact .inr (.inl ⟨a,_,us,rfl,rfl,b,by omega,by omega,by rw[<- f.len];exact D0 h.1 (by decide),λp hp=>k _ _ (Ap.lst zd (HI f _) hp)⟩);cases e;split at e;rename_i h;cases e;obtain⟨a,us,rfl,ha,f,b⟩:=Gu l1 h1;rw[AK h2];refine .inr (.inr ⟨a,_,us,rfl,rfl,b,?_,h.2.1,by omega,by rw[<- f.len];exact h.2.2.2,λz=>?_,λ_ p hp=>k _ _ (Ap.tup (C4 1) hp (HI f _))⟩);intro z;have:=f.len;rw[z]at this;exact h.1 (G9 this);subst z;have:∀(l:List Dv),(C5 (Int.toNat 1) l).flatten=l:=λl=>by simp
 rw[this]at k;exact k _ _ (Ap.old (Ds (C4 1) b f));cases e;cases e
noncomputable def Au(x:Dv):Option Dv:=match x with
 |.str l=>if l.length<=1000000 then _s (.int l.length)else _n
 |.lst xs=>_s (.int xs.length)
 |.tup xs=>_s (.int xs.length)
 |.scr ns=>_s (.int ns.length)
 |.dct ks _=>_s (.int ks.length)
 |_=>_n
theorem OF{f:Dv->Option α}{ds:List Dv}{a:α}(h:one f ds=_s a):∃x,ds=[x]/\f x=_s a:=by unfold one at h;split at h;exact⟨_,rfl,h⟩;cases h
theorem HM{f:Dv->Option Dv}{r:Sr}(h:∀g H x v a P d Q,Zd g H->a<=1->Rep K g H a x v P->f x=_s d->(∀v H',Ap K g H o d v H'->Q v H')->r [v] H Q):AN K (one f) o r:=λg H ds vs d Q zd ra e k=>by obtain⟨x,rfl,e⟩:=OF e;obtain⟨v,a,P,rfl,h1,h2⟩:=ra.one;exact h g H x v a P d Q zd h1 h2 e k
theorem iy:AN K (one Au) o (λxs H Q=>Ta K xs H Q\/fH xs H Q):=HM λg H x v h P d Q zd l1 h1 e k=>by
 unfold Au at e;split at e;split at e;rename_i l f;cases e;rw[BK h1];refine .inl (UJ (by rw[Cn];exact f) ?_);rw[Cn];exact k _ _ (Ap.int _);cases e;cases e;obtain⟨a,us,rfl,ha,b,c⟩:=Fg l1 h1;refine .inl (cW c ?_);rw[<- b.len];exact k _ _ (Ap.int _);cases e;obtain⟨a,us,rfl,ha,b,c⟩:=Gu l1 h1;refine .inl ⟨_,_,rfl,.inr ⟨us,ha,rfl⟩,?_⟩;rw[<- b.len];exact k _ _ (Ap.int _);cases e;obtain⟨a,rfl,ha⟩:=Pg h1;refine .inl (Xh ha ?_);rw[B9];exact k _ _ (Ap.int _);cases e;obtain⟨a,us,rfl,ha,f,b⟩:=kl h1;refine .inr ⟨a,_,rfl,ha,?_⟩;rename_i ks xs;have:(ks.zip us).length=ks.length:=by rw[vL,f,b.len,vC]
 rw[this];exact k _ _ (Ap.int _);cases e
def AB(x y:Dv):Option Dv:=match x,y with
 |.lst xs,.int i=>Gp xs i
 |.tup xs,.int i=>Gp xs i
 |.scr ns,.int i=>(Gp ns i).map .int
 |.str l,.int i=>if l.length<=1000000 then(Gp l i).map λc=>.str [c]else _n
 |_,_=>_n
theorem jB:AN K (two AB) 0 (MC (iV K)):=HL λg H x y v w p n P R d Q zd l1 h1 l2 h2 e k=>by
 unfold AB at e;split at e;obtain⟨a,us,rfl,ha,f,b⟩:=Fg l1 h1;rw[AK h2];obtain⟨u,h,h3⟩:=Nq f e;exact az b h (k _ _ (Ap.old h3));obtain⟨a,us,rfl,ha,f,b⟩:=Gu l1 h1;rw[AK h2];obtain⟨u,h,h3⟩:=Nq f e;exact .inr (.inl ⟨a,us,_,u,rfl,rfl,ha,h,k _ _ (Ap.old h3)⟩);rename_i ns i;obtain⟨a,rfl,ha⟩:=Pg h1;rw[AK h2];cases q:Gp ns i with|none=>rw[q]at e;cases e|some j=>rw[q]at e;cases e;exact iS ha (by rw[dz,q];rfl) (k _ _ (Ap.int _))
 rename_i l i;split at e;rename_i m;rw[BK h1,AK h2];cases q:Gp l i with|none=>rw[q]at e;cases e|some c=>rw[q]at e;cases e;exact ay (by rw[Cn];exact m) (by rw[RK];exact q) (k _ _ (Ap.str [c]))
 cases e;cases e
def NI(x:Dv)(lo hi:Option Int):Option Dv:=match x with
 |.str l=>if l.length<=1000000 then _s (.str (Uh l lo hi))else _n
 |.lst xs=>_s (.lst (Bo xs lo hi))
 |.tup xs=>_s (.tup (Bo xs lo hi))
 |.scr ns=>_s (.lst ((Bo ns lo hi).map .int))
 |_=>_n
theorem oJ(lo hi:Option Int):AN K (one λd=>NI d lo hi) 1 (lU λx H Q=>TZ K x lo hi H Q):=HM λg H x v i P d Q zd l1 h1 e k=>by
 show TZ K v lo hi H Q;cases x with
 |str l=>simp only[NI.eq_def]at e;split at e;rename_i h;cases e;rw[BK h1];refine aZ (by rw[Cn];exact h) ?_;rw[Va];exact k _ _ (Ap.str _);cases e
 |lst xs=>cases e;obtain⟨a,us,rfl,ha,c,b⟩:=Fg l1 h1;exact aa b λp hp=>k _ _ (Ap.lst zd (HJ lo hi c) hp)
 |tup xs=>
  cases e;obtain⟨a,us,rfl,ha,c,b⟩:=Gu l1 h1;have f:=HJ lo hi c;by_cases w:HT.zD us.length 0 lo=0/\HT.zD us.length us.length hi=us.length;refine .inr ⟨a,us,rfl,ha,w,k _ _ (Ap.old ?_)⟩;have ec:Gb us lo hi=us:=by unfold Gb;rw[w.1,w.2];simp
  rw[ec]at f;exact Ds (C4 1) b f;exact .inl (.inr (.inr ⟨a,us,rfl,ha,w,λp hp=>k _ _ (Ap.tup (C4 1) hp f)⟩))
 |scr ns=>cases e;obtain⟨a,rfl,ha⟩:=Pg h1;refine iF ha λp hp=>k _ _ (Ap.lst zd ?_ hp);rw[cS];exact HJ lo hi (JL ns)
 |_=>cases e
end
mutual
noncomputable def toD:Dv->L3.D
 |.bl b=>.fl (.bl b)
 |.int i=>.fl (.int i)
 |.str l=>.fl (.str (tx l))
 |.tup xs=>.tup (zP xs)
 |.lst xs=>.lst (zP xs)
 |_=>.fl .yw
noncomputable def zP:List Dv->List L3.D
 |[]=>[]
 |d::ds=>toD d::zP ds
end
mutual
noncomputable def Dv.cmp:Dv->Bool
 |.yw|.bl _|.int _|.str _=>_t
 |.tup xs=>Al xs
 |.lst xs=>Al xs
 |_=>_f
noncomputable def Al:List Dv->Bool
 |[]=>_t
 |d::ds=>d.cmp&&Al ds
end
mutual
noncomputable def Dv.dep:Dv->Nat
 |.tup xs=>BH xs+1
 |.lst xs=>BH xs+1
 |_=>0
noncomputable def BH:List Dv->Nat
 |[]=>0
 |d::ds=>max d.dep (BH ds)
end
mutual
noncomputable def zw:Dv->Dv->Bool
 |.yw,.yw=>_t
 |.bl a,.bl b=>a==b
 |.bl a,.int b=>(if a then 1 else 0)==b
 |.int a,.bl b=>a==(if b then 1 else 0)
 |.int a,.int b=>a==b
 |.str a,.str b=>a==b
 |.tup xs,.tup ys=>zAa xs ys
 |.lst xs,.lst ys=>zAa xs ys
 |_,_=>_f
noncomputable def zAa:List Dv->List Dv->Bool
 |[],[]=>_t
 |x::xs,y::ys=>zw x y&&zAa xs ys
 |_,_=>_f
end
mutual
theorem Oh:∀(d e:Dv),d.cmp=_t->e.cmp=_t->L3.zX (toD d) (toD e)=zw d e
 |.yw,e,h,k|.bl _,e,h,k|.int _,e,h,k=>by cases e<;>first|(unfold toD L3.zX zw;rfl)|(unfold Dv.cmp at k;cases k)
 |.str l,e,h,k=>by
  cases e with
  |str m=>unfold toD L3.zX zw;rw[L2.zCb];exact(Bool.beq_eq_decide_eq l m).symm
  |_=>first|(unfold toD L3.zX zw;rfl)|(unfold Dv.cmp at k;cases k)
 |.tup xs,e,h,k=>by
  cases e with
  |tup ys=>unfold toD L3.zX zw;unfold Dv.cmp at h k;exact Qg xs ys h k
  |_=>first|(unfold toD L3.zX zw;rfl)|(unfold Dv.cmp at k;cases k)
 |.lst xs,e,h,k=>by
  cases e with
  |lst ys=>unfold toD L3.zX zw;unfold Dv.cmp at h k;exact Qg xs ys h k
  |_=>first|(unfold toD L3.zX zw;rfl)|(unfold Dv.cmp at k;cases k)
 |.dct _ _,e,h,k|.ref _,e,h,k|.scr _,e,h,k|.ty _,e,h,k|.mtp _,e,h,k|.dtt _ _,e,h,k|.dnt _ _,e,h,k|.obj _ _ _ _,e,h,k=>by unfold Dv.cmp at h;cases h
theorem Qg:∀(d e:List Dv),Al d=_t->Al e=_t->L3.zAH (zP d) (zP e)=zAa d e
 |[],[],_,_=>by unfold zP L3.zAH zAa;rfl
 |[],_::_,_,_=>by simp only[zP,L3.zAH,zAa]
 |_::_,[],_,_=>by simp only[zP,L3.zAH,zAa]
 |x::xs,y::ys,h,k=>by unfold Al at h k;rw[A2]at h k;simp only[zP,L3.zAH,zAa];rw[Oh x y h.1 k.1,Qg xs ys h.2 k.2]
end
mutual
theorem gB:∀(d:Dv),(toD d).dep=d.dep
 |.yw|.bl _|.int _|.str _|.dct _ _|.ref _|.scr _|.ty _|.mtp _|.dtt _ _|.dnt _ _|.obj _ _ _ _=>by unfold toD L3.D.dep Dv.dep;rfl
 |.tup xs=>by unfold toD L3.D.dep Dv.dep;rw[Ha xs]
 |.lst xs=>by unfold toD L3.D.dep Dv.dep;rw[Ha xs]
theorem Ha:∀(d:List Dv),L3.zAC (zP d)=BH d
 |[]=>by unfold zP L3.zAC BH;rfl
 |x::xs=>by simp only[zP,L3.zAC,BH];rw[gB x,Ha xs]
end
section
variable{K:W.Frag}{g:G}{H:Hp}
mutual
theorem Rep.is:∀{o:Nat}{d:Dv}{v:V}{P:Fp},Rep K g H o d v P->d.cmp=_t->L3.Is K H v (toD d)
 |_,.yw,v,P,h,_=>by rw[FC h];unfold toD L3.Is;exact⟨rfl,rfl⟩
 |_,.bl b,v,P,h,_=>by rw[BX h];unfold toD L3.Is;exact⟨rfl,rfl⟩
 |_,.int i,v,P,h,_=>by rw[AK h];unfold toD L3.Is;exact⟨rfl,rfl⟩
 |_,.str l,v,P,h,_=>by rw[BK h];unfold toD L3.Is;exact⟨rfl,rfl⟩
 |_,.tup xs,v,P,h,c=>by unfold Rep at h;obtain⟨a,vs,rfl,h1,h2⟩:=h;unfold Dv.cmp at c;unfold toD L3.Is;exact⟨a,vs,rfl,.inl (.inl h1),AA.isL h2 c⟩
 |_,.lst xs,v,P,h,c=>by unfold Rep at h;obtain⟨a,vs,P',rfl,h1,h2,_⟩:=h;unfold Dv.cmp at c;unfold toD L3.Is;exact⟨a,vs,rfl,.inl (.inl h1.1),AA.isL h2 c⟩
 |_,.dct _ _,v,P,h,c|_,.ref _,v,P,h,c|_,.scr _,v,P,h,c|_,.ty _,v,P,h,c|_,.mtp _,v,P,h,c|_,.dtt _ _,v,P,h,c|_,.dnt _ _,v,P,h,c|_,.obj _ _ _ _,v,P,h,c=>by unfold Dv.cmp at c;cases c
theorem AA.isL:∀{o:Nat}{d:List Dv}{v:List V}{P:Fp},AA K g H o d v P->Al d=_t->L3.IsL K H v (zP d)
 |_,[],v,P,h,_=>by
  unfold AA at h;obtain⟨rfl,_⟩:=h;unfold zP L3.IsL
  trivial
 |_,x::xs,v,P,h,c=>by unfold AA at h;obtain⟨u,r,P1,P2,rfl,h1,h2,_⟩:=h;unfold Al at c;rw[A2]at c;unfold zP L3.IsL;exact⟨Rep.is h1 c.1,AA.isL h2 c.2⟩
end
def Ze(neg:Bool)(x y:Dv):Option Bool:=if(x.cmp&&y.cmp&&decide (x.dep<=150))=_t then _s (if neg then !zw x y else zw x y)else _n
abbrev Zf:=Ze _f
abbrev lu:=Ze _t
theorem Wf{neg:Bool}:AN K (λds=>(two (Ze neg) ds).map .bl) 0 (MC (L3.zCs K neg)):=GR λg H x y v w d a P R b Q zd _ h1 _ h2 e k=>by unfold Ze at e;split at e;rename_i c;cases e;rw[A2,A2,decide_eq_true_eq]at c;refine⟨toD x,toD y,by rw[gB];exact c.2,h1.is c.1.1,h2.is c.1.2,?_⟩;rw[Oh x y c.1.1 c.1.2];exact k;cases e
noncomputable def tF:Dv->Option (List Dv)
 |.lst xs=>_s xs
 |.tup xs=>_s xs
 |.mtp ls=>_s (ls.map .str)
 |_=>_n
def Ff(e:Dv)(ds:List Dv):Bool:=ds.any λd=>zw d e
def NG(neg:Bool)(e s:Dv):Option Bool:=match e,s with
 |.str x,.str l=>_s (if neg then !Q.zDR x l else Q.zDR x l)
 |e,.dct ks _=>if ks.isEmpty=_t then(Kc e).bind λ_=>_s neg else _n
 |e,.dnt ks ds=>(Kc e).bind λk=>_s (if neg then !(Qj k ks ds).isSome else(Qj k ks ds).isSome)
 |e,s=>match tF s with
  |some xs=>if(e.cmp&&Al xs&&decide (BH xs<=150))=_t then _s (if neg then !Ff e xs else Ff e xs)else _n
  |none=>_n
abbrev Qs:=NG _f
abbrev EE:=NG _t
theorem qY(e:Dv)(a:e.cmp=_t):∀(ds:List Dv),Al ds=_t->((zP ds).any λd=>L3.zX d (toD e))=Ff e ds
 |[],_=>by unfold zP Ff;rfl
 |d::ds,h=>by unfold Al at h;rw[A2]at h;unfold Ff;simp only[zP,T5];rw[Oh d e h.1 a,qY e a ds h.2];rfl
theorem Pn(ls:List (List Nat)):AA K g H 0 (ls.map .str) (ls.map λl=>V.str (tx l)) yv:=GN.mpr ⟨by simp,λi d v a b=>by
 rw[C8]at a b;cases q:ls[i]? with|none=>rw[q]at a;cases a|some k=>rw[q]at a b;cases a;cases b;unfold Rep;exact⟨rfl,λ_ z=>z⟩⟩
theorem We{neg:Bool}:AN K (λds=>(two (NG neg) ds).map .bl) 0 (MC λx y H q=>Q.zCr K neg x y H q\/iU neg x y H q):=GR λg H x y v w r o P R b Q zd l1 h1 l2 h2 e k=>by
  unfold NG at e;split at e;cases e;rw[BK h1,BK h2];exact .inl (.inl ⟨_,_,rfl,rfl,k⟩);rename_i ks ds;split at e;rename_i n;obtain⟨f,i,e⟩:=zK e;cases e;obtain rfl:ks=[]:=by cases ks with|nil=>rfl|cons _ _=>cases n
  obtain⟨a,us,rfl,ha,j,d⟩:=kl h2;obtain⟨b,rfl,h⟩:=GU h1 i;refine .inr ⟨a,_n,rfl,⟨f,b,rfl,h,.inr ⟨ha,rfl⟩⟩,?_⟩;cases neg<;>exact k;cases e;obtain⟨f,i,e⟩:=zK e;cases e;obtain⟨a,us,rfl,ha,j,d⟩:=sL h2;obtain⟨b,rfl,h⟩:=GU h1 i;refine .inr ⟨a,_,rfl,⟨f,b,rfl,h,.inl ⟨_,ha,rfl⟩⟩,?_⟩;rw[Li j d.len];exact k;rename_i a s _;split at e;rename_i xs es;split at e;rename_i c;cases e;rw[A2,A2,decide_eq_true_eq]at c;have go:∀p ys,w=.ref p->(Dk K H p ys\/FR K H p ys)->AA K g H 0 xs ys yv->L3.zCT K neg v w H Q:=by rintro p ys rfl l m;refine⟨p,ys,zP xs,toD x,rfl,l,m.isL c.1.2,h1.is c.1.1,by rw[Ha];exact c.2,?_⟩;rw[qY x c.1.1 xs c.1.2];exact k
  cases y with|lst ys=>cases es;obtain⟨p,us,rfl,ha,d,_⟩:=Fg l2 h2;exact .inl (.inr (go p us rfl (.inl ha) d))|tup ys=>cases es;obtain⟨p,us,rfl,ha,d,_⟩:=Gu l2 h2;exact .inl (.inr (go p us rfl (.inr ha) d))|mtp ls=>cases es;unfold Rep at h2;obtain⟨⟨p,rfl,hm⟩,_⟩:=h2;exact .inl (.inr (go p _ rfl (.inr (.inr hm)) (Pn ls)))|_=>cases es
  cases e;cases e
noncomputable def Dv.zCE:Dv->Bool
 |.yw=>_t
 |_=>_f
noncomputable def Qr(x y:Dv):Option Bool:=match y,x with|.yw,x=>_s x.zCE|.bl b,.bl a=>_s (a==b)|_,_=>_n
noncomputable def Lw(x y:Dv):Option Bool:=match y,x with|.yw,x=>_s (!x.zCE)|.bl b,.bl a=>_s (!(a==b))|_,_=>_n
theorem LH{o:Nat}{d:Dv}{v:V}{P:Fp}(h:Rep K g H o d v P):decide (v=V.yw)=d.zCE:=by
 cases d with|yw=>rw[FC h];rfl|bl b=>rw[BX h];rfl|int b=>rw[AK h];rfl|str b=>rw[BK h];rfl|tup b=>unfold Rep at h;obtain⟨a,vs,rfl,_⟩:=h;rfl|lst b=>unfold Rep at h;obtain⟨a,vs,P',rfl,_⟩:=h;rfl|dct b c=>unfold Rep at h;obtain⟨a,vs,rfl,_⟩:=h;rfl|ref k=>unfold Rep at h;obtain⟨⟨a,_,rfl⟩,_⟩:=h;rfl|scr ns=>obtain⟨a,rfl,_⟩:=Pg h;rfl|ty n=>unfold Rep at h;rw[h.1];rfl|mtp n=>unfold Rep at h;obtain⟨⟨a,rfl,_⟩,_⟩:=h;rfl|dtt b c=>unfold Rep at h;obtain⟨a,vs,rfl,_⟩:=h;rfl|dnt b c=>unfold Rep at h;obtain⟨a,vs,rfl,_⟩:=h;rfl|obj b c d e=>unfold Rep at h;obtain⟨a,dx,vs,P',rfl,_⟩:=h;rfl
theorem jA:AN K (λds=>(two Qr ds).map .bl) 0 (MC (λx y H Q=>(y=.yw/\Q (.bl (decide (x=.yw))) H)\/∃a b,x=.bl a/\y=.bl b/\Q (.bl (a==b)) H)):=GR λg H x y v w d c P R b Q zd _ h1 _ h2 e k=>by unfold Qr at e;split at e;cases e;exact .inl ⟨FC h2,by rw[LH h1];exact k⟩;cases e;exact .inr ⟨_,_,BX h1,BX h2,k⟩;cases e
theorem bP:AN K (λds=>(two Lw ds).map .bl) 0 (MC (λx y H Q=>(y=.yw/\Q (.bl (!decide (x=.yw))) H)\/∃a b,x=.bl a/\y=.bl b/\Q (.bl (!(a==b))) H)):=GR λg H x y v w d c P R b Q zd _ h1 _ h2 e k=>by unfold Lw at e;split at e;cases e;exact .inl ⟨FC h2,by rw[LH h1];exact k⟩;cases e;exact .inr ⟨_,_,BX h1,BX h2,k⟩;cases e
end
theorem je{X:Cx}:Ce X (J0 .Is) (λx y H Q=>∃a b,x=.bl a/\y=.bl b/\Q (.bl (a==b)) H):=by intro pins s σ H x y v u Q I d c h;obtain⟨a,b,rfl,rfl,q⟩:=h;cases d;cases c;exact wpAny_is_plain rfl ⟨.bl (a==b),H,I,by cases a<;>cases b<;>rfl,q⟩
theorem bx{X:Cx}:Ce X (J0 .IsNot) (λx y H Q=>∃a b,x=.bl a/\y=.bl b/\Q (.bl (!(a==b))) H):=by intro pins s σ H x y v u Q I d c h;obtain⟨a,b,rfl,rfl,q⟩:=h;cases d;cases c;exact wpAny_isNot_plain rfl ⟨.bl (!(a==b)),H,I,by cases a<;>cases b<;>rfl,q⟩
end R
namespace L2
open PySem PySem.Spec PyProof.Rows
section
variable{X:Cx}
def fF(K:W.Frag):List V->Hp->VK->Prop:=λxs H Q=>∃(p:A8)(ns:List Int),xs=[.ref p]/\FR K H p (ns.map V.int)/\0 < ns.length/\∀M,M∈ns->(∀a,a∈ns->a<=M)->Q (.int M) H
theorem Um(K:W.Frag)(y:X.K=K:=by rfl)(hc:X.calm=true:=by rfl):Bb X (.builtin "max") (fF K):=by
 subst y;intro pins s σ H xs us Q I r h;obtain⟨p,ns,rfl,hp,f,q⟩:=h;obtain⟨u,rfl,l⟩:=vals1 r;cases l;obtain⟨k,rv,pl,C⟩:=I.tuple hp;have d:s.heap.IsTuple p k.toArray:=pl;have g:p < s.heap.objs.size:=by obtain⟨_,e,_⟩:=d;exact B8 e
 have hi:=Fk rv;obtain⟨xs,e⟩:=hi.allInts.items;have c:ns=xs.toList.map (·.1):=by rw[<- hi.numsOf,<- vw,<- e]
 have hsz:0 < xs.size:=by have h3:=f;rw[c,B9,I9]at h3;exact h3
 rw[e]at d;refine call_max_walk (R7 d ?_);refine⟨s.heap.objs.size,[s.heap.objs.size,p],[s.heap.objs.size],_,_,_,_,rfl,Walks.tuple (A:=X.A.in1) (I.ok.hd hc) _ p (D6 g) (p8 xs),
  ⟨⟨_,D3 _ rfl,rfl,rfl⟩,?_⟩,λb x=>?_,by simpa[p8]using hsz,yK (xV xs) (λ_ _=>s9),λv h' B hP n=>?_⟩
 obtain⟨o,e,z⟩:=d;exact⟨o,A4 _ e,z⟩;rw[J6];rcases C9.mp x with z|z
 rw[z];exact T9 _;have:b=p:=by simpa using z
 rw[this];exact t4 g;have m:(p8 xs)[g8 (λi j=>decide (xV xs i > xV xs j)) (xs.size-1)]?=_s v:=by simpa[p8]using hP
 obtain⟨t,rfl⟩:=s9 m;obtain⟨h1,h2⟩:=x9 (xV xs) (xs.size-1);refine⟨.int _,H,I.kept (jo n),⟨t,rfl⟩,q _ ?_ λa ha=>?_⟩;rw[c,vW];exact getD_mem (by rw[B9,I9];omega);rw[c]at ha;obtain⟨j,w,rfl⟩:=mem_getD ha;rw[B9,I9]at w;rw[<- vW];exact h2 j (by omega)
def WN(K:W.Frag):List V->Hp->VK->Prop:=λxs H Q=>fG K xs H Q\/fF K xs H Q
theorem Qk(K:W.Frag)(a:X.K=K:=by rfl)(hc:X.calm=true:=by rfl):Bb X (.builtin "max") (WN K):=by
 intro pins s σ H xs us Q I r h;rcases h with h|h
 exact Uo K a hc pins s σ H xs us Q I r h;exact Um K a hc pins s σ H xs us Q I r h
end
end L2
namespace HT
open PySem PyProof.Rows
section
open PySem.SeqAt
open PySem.AutoSeq1 (wpAny_loadPart')
open PySem.MeetsSeq PySem.MeetsSeq2 PySem.MeetsSeq3
end
end HT
namespace L2
open PySem PySem.Spec PyProof.Rows
end L2
namespace R
open PySem L2
noncomputable def mM:List Dv->Option (List Bool)
 |[]=>_s []
 |.bl b::ds=>(mM ds).map (b::·)
 |_=>_n
noncomputable def EH:List Dv->Option (List Int)
 |[]=>_s []
 |.int b::ds=>(EH ds).map (b::·)
 |_=>_n
noncomputable def Kq:List Dv->Option (List (List Nat))
 |[]=>_s []
 |.str b::ds=>(Kq ds).map (b::·)
 |_=>_n
variable{o:Nat}
section
variable{K:W.Frag}{g:G}{H:Hp}
theorem DS:∀{ds:List Dv}{bs:List Int}{vs:List V},AA K g H 0 ds vs yv->EH ds=_s bs->vs=bs.map V.int
 |[],bs,vs,h,e=>by cases e;exact Bf h
 |d::ds,bs,vs,h,e=>by obtain⟨v,r,rfl,h1,h2⟩:=Ba h;cases d<;>simp only[EH,E9,reduceCtorEq]at e;obtain⟨a,e,rfl⟩:=e;rw[AK h1,DS h2 e];rfl
theorem Ko:∀{ds:List Dv}{bs:List (List Nat)}{vs:List V},AA K g H 0 ds vs yv->Kq ds=_s bs->vs=(bs.map tx).map V.str
 |[],bs,vs,h,e=>by cases e;exact Bf h
 |d::ds,bs,vs,h,e=>by obtain⟨v,r,rfl,h1,h2⟩:=Ba h;cases d<;>simp only[Kq,E9,reduceCtorEq]at e;obtain⟨a,e,rfl⟩:=e;rw[BK h1,Ko h2 e];rfl
def uX(x:Dv):Option Dv:=match x with|.lst xs=>(mM xs).map λbs=>.bl (bs.all id)|_=>_n
def uW(x:Dv):Option Dv:=match x with
 |.lst xs=>(EH xs).map λns=>.int ns.sum
 |.tup xs=>(EH xs).map λns=>.int ns.sum
 |_=>_n
def FQ(x:Dv):Option Dv:=match x with
 |.lst xs=>match EH xs with|some (n::ns)=>_s (.int (Q.mxI (n::ns)))|_=>_n
 |.tup xs=>match EH xs with|some (n::ns)=>_s (.int (Q.mxI (n::ns)))|_=>_n
 |_=>_n
theorem Rv{n M:Int}{ns:List Int}(e:M∈n::ns)(b:∀a,a∈n::ns->a<=M):M=_root_.Q.mxI (n::ns):=by obtain⟨d,c⟩:=_root_.Q.zAB (n::ns) (by simp);exact xi (c M e) (b _ d)
theorem bQ:AN K (one FQ) o (WN K):=HM λg H x v h P d Q zd l1 h1 e k=>by unfold FQ at e;split at e;split at e;rename_i n ns f;cases e;obtain⟨p,us,rfl,ha,b,_⟩:=Fg l1 h1;rw[DS b f]at ha;refine .inl ⟨p,n::ns,rfl,ha,by simp,λM c a=>?_⟩;rw[Rv c a];exact k _ _ (Ap.int _);cases e;split at e;rename_i n ns f;cases e;obtain⟨p,us,rfl,ha,b,_⟩:=Gu l1 h1;rw[DS b f]at ha;refine .inr ⟨p,n::ns,rfl,ha,by simp,λM c a=>?_⟩;rw[Rv c a];exact k _ _ (Ap.int _);cases e;cases e
def Ly(x y:Dv):Option Dv:=match x with
 |.lst xs=>match y with
  |.int d=>match EH xs with|some []=>_s (.int d)|some (n::ns)=>_s (.int (Q.mxI (n::ns)))|none=>_n
  |_=>_n
 |_=>_n
theorem bR:AN K (two Ly) 1 (MC (qk K)):=HL λg H x y v w m l P R d Q zd l1 h1 l2 h2 e k=>by
 unfold Ly at e;split at e;split at e;rename_i i;obtain⟨p,us,rfl,ha,f,_⟩:=Fg l1 h1;split at e;rename_i c;cases e;rw[DS f c]at ha;refine⟨p,[],i,rfl,AK h2,ha,λM a=>?_⟩;obtain⟨_,rfl⟩|⟨a,_⟩:=a
 exact k _ _ (Ap.int _);cases a;rename_i n ns c;cases e;rw[DS f c]at ha;refine⟨p,n::ns,i,rfl,AK h2,ha,λM a=>?_⟩;obtain⟨h0,_⟩|⟨a,b⟩:=a
 cases h0;obtain⟨j,h⟩:=_root_.Q.zAB (n::ns) (by simp);have:M=_root_.Q.mxI (n::ns):=xi (h M a) (b _ j);rw[this];exact k _ _ (Ap.int _);cases e;cases e;cases e
noncomputable def Hv(x y:Dv):Option Dv:=match x,y with|.int i,.int j=>_s (.int (if j > i then j else i))|_,_=>_n
theorem GQ{f:Dv->Dv->Option Dv}{r:Sr}(h:∀g H x y v w b a P R d Q,Zd g H->b<=1->Rep K g H b x v P->a<=1->Rep K g H a y w R->f x y=_s d->(∀v H',Ap K g H o d v H'->Q v H')->r [v,w] H Q):AN K (two f) o r:=λg H ds vs d Q zd ra e k=>by obtain⟨x,y,rfl,e⟩:=Fw e;obtain⟨v,b,P,w,a,R,rfl,h1,h2,h3,h4⟩:=ra.two;exact h g H x y v w b a P R d Q zd h1 h2 h3 h4 e k
theorem bS:AN K (two Hv) o (λxs H Q=>∃i j,xs=[.int i,.int j]/\Q (.int (if j > i then j else i)) H):=GQ λg H x y v w b a P R d Q zd _ h1 _ h2 e k=>by unfold Hv at e;split at e;cases e;rw[AK h1,AK h2];exact⟨_,_,rfl,k _ _ (Ap.int _)⟩;cases e
noncomputable def Lz(x:Dv):Option Dv:=match x with
 |.int i=>_s (.int i)
 |.bl b=>_s (.int (if b then 1 else 0))
 |_=>_n
theorem bU:AN K (one Lz) o (λxs H Q=>(∃i,xs=[.int i]/\Q (.int i) H)\/∃k,xs=[.bl k]/\Q (.int (if k then 1 else 0)) H):=HM λg H x v a P d Q zd l1 h1 e k=>by unfold Lz at e;split at e;cases e;rw[AK h1];exact .inl ⟨_,rfl,k _ _ (Ap.int _)⟩;cases e;rw[BX h1];exact .inr ⟨_,rfl,k _ _ (Ap.int _)⟩;cases e
noncomputable def AS(x:Dv):Option Dv:=match x with|.lst xs=>_s (.tup xs)|.tup xs=>_s (.tup xs)|_=>_n
theorem Wc:AN K (one AS) 1 (Nu K):=HM λg H x v f P d Q zd l1 h1 e k=>by unfold AS at e;split at e;cases e;obtain⟨p,us,rfl,ha,a,_⟩:=Fg l1 h1;exact⟨p,us,rfl,.inl ⟨ha,λl c=>k _ _ (Ap.tup (C4 1) c a)⟩⟩;cases e;obtain⟨p,us,rfl,ha,a,b⟩:=Gu l1 h1;exact⟨p,us,rfl,.inr ⟨ha,k _ _ (Ap.old (Ds (C4 1) b a))⟩⟩;cases e
def KG(x y:Dv):Option Dv:=match x,y with
 |.str a,.lst xs=>match Kq xs with
  |some ys=>if(ys.map Y3).sum+ys.length * a.length<=1000000 then _s (.str (jn a ys))else _n
  |none=>_n
 |_,_=>_n
theorem bT:AN K (two KG) o (lT (WO K)):=GQ λg H x y v w j i P R d Q zd l1 h1 l2 h2 e k=>by unfold KG at e;split at e;split at e;rename_i b xs _ ys h;split at e;rename_i c;cases e;obtain⟨a,us,rfl,ha,f,_⟩:=Fg l2 h2;rw[BK h1];rw[Ko f h]at ha;refine⟨tx b,a,ys.map tx,rfl,rfl,ha,?_,?_⟩;rw[gr,B9,Cn];exact D0 c (by decide);rw[mQ];exact k _ _ (Ap.str _);cases e;cases e;cases e
noncomputable def Fu(x:Dv):Option Dv:=match x with
 |.str l=>if(l.all (λc=>decide (c < 128))&&decide (l.length<=1000000))=_t then _s (.str (l.map U4))else _n
 |_=>_n
theorem Wb:AN K (one Fu) o (lT WJ):=HM λg H x v b P d Q zd l1 h1 e k=>by unfold Fu at e;split at e;split at e;rename_i l c;cases e;rw[A2,decide_eq_true_eq,E4]at c;rw[BK h1];exact⟨l,rfl,rfl,λx a=>of_decide_eq_true (c.1 x a),c.2,k _ _ (Ap.str _)⟩;cases e;cases e
def EA(e:Dv):List Dv->Option Nat
 |[]=>_n
 |d::ds=>if zw d e=_t then _s 0 else(EA e ds).map (·+1)
theorem LY(e:Dv):∀(ds:List Dv)(j:Nat),EA e ds=_s j->(∃d,ds[j]?=_s d/\zw d e=_t)/\∀(i:Nat)(d:Dv),i < j->ds[i]?=_s d->zw d e=_f
 |[],j,h=>by cases h
 |d::ds,j,h=>by
  unfold EA at h;split at h;rename_i c;cases h;exact⟨⟨d,rfl,c⟩,λi d hi=>by omega⟩;rename_i c;simp only[E9]at h;obtain⟨k,a,rfl⟩:=h;obtain⟨h1,h2⟩:=LY e ds k a;refine⟨by simpa using h1,λi d' hi hd=>?_⟩;cases i with|zero=>simp at hd;subst hd;simpa using c|succ i=>exact h2 i d' (by omega) (by simpa using hd)
theorem Ir:∀(ds:List Dv)(i:Nat),(zP ds)[i]?=(ds[i]?).map toD
 |[],i=>by unfold zP;simp
 |d::ds,0=>by unfold zP;simp
 |d::ds,i+1=>by have:=Ir ds i;simp only[zP,Y7];exact this
theorem Kr{ds:List Dv}(h:Al ds=_t):∀{i:Nat}{d:Dv},ds[i]?=_s d->d.cmp=true:=by
 induction ds with
 |nil=>intro i d e;simp at e
 |cons x xs a=>
  unfold Al at h;rw[A2]at h;intro i d e;cases i with|zero=>simp at e;subst e;exact h.1|succ i=>exact a h.2 (i:=i) (by simpa using e)
theorem Xr{e:Dv}{ds:List Dv}{j:Nat}(b:e.cmp=_t)(hd:Al ds=_t)(h:EA e ds=_s j) :
    (∃d,(zP ds)[j]?=_s d/\L3.zX d (toD e)=_t)/\∀(m:Nat)(d:L3.D),m < j->(zP ds)[m]?=_s d->L3.zX d (toD e)=false:=by
  obtain⟨⟨d,h1,h2⟩,h3⟩:=LY e ds j h;refine⟨⟨toD d,by rw[Ir,h1];rfl,by rw[Oh d e (Kr hd h1) b];exact h2⟩,λm d' hm a=>?_⟩;rw[Ir]at a;cases q:ds[m]? with|none=>rw[q]at a;cases a|some c=>rw[q]at a;cases a;rw[Oh c e (Kr hd q) b];exact h3 m c hm q
def El(x e:Dv):Option Dv:=match x with
 |.lst xs=>if(e.cmp&&Al xs&&decide (BH xs<=150))=_t then(EA e xs).map λj=>.int (j:Nat)else _n
 |_=>_n
theorem Wd:AN K (two El) o (lT (Q.zBm K)):=GQ λg H x y v w l i P R d Q zd l1 h1 l2 h2 e k=>by unfold El at e;split at e;split at e;rename_i xs c;rw[A2,A2,decide_eq_true_eq]at c;simp only[E9]at e;obtain⟨j,h,rfl⟩:=e;obtain⟨p,us,rfl,ha,f,_⟩:=Fg l1 h1;obtain⟨b,a⟩:=Xr c.1.1 c.1.2 h;exact⟨p,us,w,zP xs,toD y,j,rfl,rfl,ha,f.isL c.1.2,h2.is c.1.1,by rw[Ha];exact c.2,b,a,k _ _ (Ap.int _)⟩;cases e;cases e
def DH(x e:Dv):Option Dv:=match x with
 |.tup xs=>if(e.cmp&&Al xs&&decide (BH xs<=150))=_t then(EA e xs).map λj=>.int (j:Nat)else _n
 |_=>_n
theorem Tc:AN K (two DH) o (lT (Q.zBH K)):=GQ λg H x y v w l i P R d Q zd l1 h1 l2 h2 e k=>by unfold DH at e;split at e;split at e;rename_i xs c;rw[A2,A2,decide_eq_true_eq]at c;simp only[E9]at e;obtain⟨j,h,rfl⟩:=e;obtain⟨p,us,rfl,_,f,ha⟩:=Gu l1 h1;obtain⟨b,a⟩:=Xr c.1.1 c.1.2 h;exact⟨p,us,w,zP xs,toD y,j,rfl,rfl,ha,f.isL c.1.2,h2.is c.1.1,by rw[Ha];exact c.2,b,a,k _ _ (Ap.int _)⟩;cases e;cases e
noncomputable def fR:Dv->Option String
 |.yw=>_s "NoneType"
 |.bl _=>_s "bool"
 |.int _=>_s "int"
 |.str _=>_s "str"
 |.tup _=>_s "tuple"
 |.lst _=>_s "list"
 |_=>_n
noncomputable def oZ(T:String):Bool:=["int", "bool", "str", "tuple", "list"].contains T
def Zq(x y:Dv):Option Dv:=match y with
 |.ty T=>if oZ T=_t then(fR x).map λk=>.bl (Q.zCi k T)else _n
 |_=>_n
theorem cZ{x:Dv}{v:V}{P:Fp}{a:String}(l1:o<=1)(h1:Rep K g H o x v P)(e:fR x=_s a):zAU K H v (.type a)/\a∈["NoneType", "bool", "int", "str", "tuple", "list"]:=by
 cases x with|yw=>cases e;rw[FC h1];exact⟨.yw,by simp⟩|bl b=>cases e;rw[BX h1];exact⟨.bl _,by simp⟩|int b=>cases e;rw[AK h1];exact⟨.int _,by simp⟩|str b=>cases e;rw[BK h1];exact⟨.str _,by simp⟩|tup b=>cases e;obtain⟨p,us,rfl,_,_,ha⟩:=Gu l1 h1;exact⟨.tup ha,by simp⟩|lst b=>cases e;obtain⟨p,us,rfl,_,_,ha⟩:=Fg l1 h1;exact⟨.lst ha,by simp⟩|_=>cases e
theorem iz:AN K (two Zq) o (nY K):=GQ λg H x y v w j i P R d Q zd l1 h1 l2 h2 e k=>by
 unfold Zq at e;split at e;rename_i T;split at e;rename_i c;have hT:T∈["int", "bool", "str", "tuple", "list"]:=by unfold oZ at c;simpa using c
 have b:w=.ty T:=by unfold Rep at h2;exact h2.1
 subst b;rw[E9]at e;obtain⟨a,h,rfl⟩:=e;obtain⟨ty,f⟩:=cZ l1 h1 h;exact⟨v,T,.type a,_,rfl,ty,_root_.Q.zDC K f hT,k _ _ (Ap.bl _)⟩;cases e;cases e
abbrev VN:=FP λi j=>decide (i < j)
abbrev qW:=FP λi j=>decide (i<=j)
end
end R
namespace L2
open PySem PySem.Spec PyProof.Rows
end L2
namespace L3
open PySem PySem.Spec PyProof.Rows L2
end L3
namespace KO
open PySem PySem.W PyProof.Rows
end KO
namespace L2
open PySem PySem.Spec PyProof.Rows
end L2
namespace R
open PySem L2
noncomputable def RV:Dv->Option (List Dv)
 |.tup ds=>_s ds
 |.lst ds=>_s ds
 |.scr ns=>_s (ns.map .int)
 |_=>_n
section
variable{K:W.Frag}{g:G}{H:Hp}
abbrev qv(K:W.Frag)(g:G)(H:Hp)(a:A8)(b:Bool)(ds:List Dv):Prop:=∀d c,IC g H d c->∃vs,Kk K c a vs b/\AA K d c 0 ds vs yv
theorem JD{d:Dv}{ds:List Dv}{v:V}(h:Rep K g H 0 d v yv)(e:RV d=_s ds):∃a b,v=.ref a/\qv K g H a b ds:=by
 have c:(0:Nat)<=1:=by decide
 cases d with|tup es=>cases e;obtain⟨a,vs,rfl,_⟩:=Gu c h;refine⟨a,_t,rfl,λf j st=>?_⟩;obtain⟨i,us,q,k1,k2,_⟩:=Gu c (st.rep h);cases q;exact⟨us,k1,k2⟩|lst es=>cases e;obtain⟨a,vs,rfl,_⟩:=Fg c h;refine⟨a,_f,rfl,λf j st=>?_⟩;obtain⟨i,us,q,k1,k2,_⟩:=Fg c (st.rep h);cases q;exact⟨us,k1,k2⟩|scr ns=>cases e;obtain⟨a,rfl,_⟩:=Pg h;refine⟨a,_f,rfl,λf j st=>?_⟩;obtain⟨i,q,k1⟩:=Pg (st.rep h);cases q;exact⟨_,k1,JL ns⟩|_=>cases e
theorem MI:IC g H g H:=by first|exact⟨yv,yv,Step.refl,λ_ z=>z.elim⟩|exact⟨yv,yv,Step.refl,zA.yv⟩|exact IC.refl
noncomputable def CN:List Dv->List Dv->List Dv
 |x1::b,c::a=>.tup [x1,c]::CN b a
 |_,_=>[]
theorem Kl:∀(a b:List Dv)(i:Nat)(e:Dv),(CN a b)[i]?=_s e->∃x1 c,a[i]?=_s x1/\b[i]?=_s c/\e=.tup [x1,c]
 |x1::a,c::b,0,e,h=>by simp[CN]at h;exact⟨x1,c,rfl,rfl,h.symm⟩
 |x1::a,c::b,i+1,e,h=>by obtain⟨y1,y2,h1,h2,q⟩:=Kl a b i e (by simpa[CN]using h);exact⟨y1,y2,by simpa using h1,by simpa using h2,q⟩
 |[],_,i,e,h=>by simp[CN]at h
 |x1::a,[],i,e,h=>by simp[CN]at h
theorem Km:∀(a b:List Dv)(i:Nat),(CN a b).length<=i->a.length<=i\/b.length<=i
 |x1::a,c::b,0,h=>by simp[CN]at h
 |x1::a,c::b,i+1,h=>by have:=Km a b i (by simpa[CN]using h);simp only[E3];omega
 |[],_,i,h=>by simp
 |x1::a,[],i,h=>by simp
def DW(ds:List Dv):Option (List Dv):=two (λx y=>(RV x).bind λxs=>(RV y).bind λys=>_s (CN xs ys)) ds
def nN(K:W.Frag):List V->Hp->(It->Hp->Prop)->Prop:=λvs c R=>∃b a b1 b2,vs=[.ref b,.ref a]/\(∃xs,Kk K c b xs b1)/\(∃xs,Kk K c a xs b2)/\R (Zw K b a b1 b2) c
theorem aE{t s:A8}{b1 b2:Bool}{l k:List Dv}(h1:qv K g H t b1 l)(h2:qv K g H s b2 k):Yl K (Zw K t s b1 b2) (CN l k) g H:=by intro r u st;obtain⟨b,f,q⟩:=h1 r u st;obtain⟨a,c,o⟩:=h2 r u st;refine⟨λi d e=>?_,λi hi=>⟨b,a,f,c,by have:=Km _ _ _ hi;rw[<- q.len,<- o.len];exact this⟩⟩;obtain⟨x1,C,B,A,rfl⟩:=Kl _ _ i d e;obtain⟨w,_,j,n,_⟩:=q.get B;obtain⟨v,_,h,m,_⟩:=o.get A;refine⟨⟨b,a,w,v,f,j,c,h⟩,λx D y=>?_⟩;obtain⟨p,w1,w2,hp,rfl,rfl,y1,y2⟩:=y;have:=y1 b f;rw[j]at this;cases this;have:=y2 a c;rw[h]at this;cases this;exact Ap.tup (by decide) hp (Bg (DZ n.z) (DZ m.z))
theorem Vs:VH K DW (nN K):=λg H ds vs j Q zd ra e q=>by obtain⟨x,y,rfl,e⟩:=Fw e;refine yt e λxs h e=>?_;refine yt e λys f e=>?_;cases e;obtain⟨v,us,rfl,h1,h2⟩:=Ba ra;obtain⟨w,us,rfl,h4,h3⟩:=Ba h2;cases Bf h3;obtain⟨a,b,rfl,d⟩:=JD h1 h;obtain⟨i,b2,rfl,c⟩:=JD h4 f;obtain⟨w1,s1,_⟩:=d g H MI;obtain⟨w2,s2,_⟩:=c g H MI;exact⟨a,i,b,b2,rfl,⟨w1,s1⟩,⟨w2,s2⟩,q _ H (λ_ _ z=>z) (aE d c)⟩
noncomputable def EJ(k:Nat):List Dv->List Dv
 |[]=>[]
 |d::ds=>.tup [.int (k:Nat),d]::EJ (k+1) ds
theorem Lg:∀(ds:List Dv)(k i:Nat)(e:Dv),(EJ k ds)[i]?=_s e->∃d,ds[i]?=_s d/\e=.tup [.int ((k+i:Nat):Int),d]
 |[],k,i,e,h=>by simp[EJ]at h
 |d::ds,k,0,e,h=>by simp[EJ]at h;exact⟨d,rfl,h.symm⟩
 |d::ds,k,i+1,e,h=>by obtain⟨d',h1,h2⟩:=Lg ds (k+1) i e (by simpa[EJ]using h);exact⟨d',by simpa using h1,by rw[h2];congr 3;omega⟩
theorem Lf:∀(ds:List Dv)(k:Nat),(EJ k ds).length=ds.length
 |[],k=>rfl
 |d::ds,k=>by simp[EJ,Lf ds]
def Ra(ds:List Dv):Option (List Dv):=one (λx=>(RV x).bind λxs=>_s (EJ 0 xs)) ds
def nZ(K:W.Frag):List V->Hp->(It->Hp->Prop)->Prop:=λvs c R=>∃a b xs,vs=[.ref a]/\Kk K c a xs b/\R (eJ K a b xs.length) c
theorem aG{a:A8}{b:Bool}{ds:List Dv}(h:qv K g H a b ds):Yl K (eJ K a b ds.length) (EJ 0 ds) g H:=by
 intro f j st;obtain⟨vs,sq,c⟩:=h f j st;refine⟨λi d e=>?_,λi hi=>⟨vs,sq,c.len.symm,by rw[Lf]at hi;exact hi⟩⟩;obtain⟨d',l,rfl⟩:=Lg ds 0 i d e;obtain⟨v,_,ev,rv,_⟩:=c.get l;refine⟨⟨vs,v,sq,c.len.symm,ev⟩,λx m y=>?_⟩;obtain⟨p,w,hp,rfl,rfl,y⟩:=y;have:=y vs sq;rw[ev]at this;cases this;have k:Rep K f j 0 (.int ((0+i:Nat):Int)) (.int (i:Nat)) yv:=by rw[U7];exact Bh
 exact Ap.tup (by decide) hp (Bg (DZ k) (DZ rv.z))
theorem Vv:VH K Ra (nZ K):=λg H ds vs h Q zd ra e q=>by obtain⟨x,rfl,e⟩:=OF e;refine yt e λxs f e=>?_;cases e;obtain⟨v,us,rfl,h1,h2⟩:=Ba ra;cases Bf h2;obtain⟨a,b,rfl,c⟩:=JD h1 f;obtain⟨w1,s1,d⟩:=c g H MI;exact⟨a,b,w1,rfl,s1,by rw[<- d.len];exact q _ H (λ_ _ z=>z) (aG c)⟩
end
noncomputable def Zo:Dv->Option Bool
 |.yw=>_s _f
 |.bl b=>_s b
 |.int i=>_s (i != 0)
 |.str l=>if l.length<=1000000 then _s (!l.isEmpty)else _n
 |.lst xs=>_s (!xs.isEmpty)
 |.tup xs=>_s (!xs.isEmpty)
 |.scr xs=>_s (!xs.isEmpty)
 |.dct ks _=>_s (!ks.isEmpty)
 |_=>_n
theorem Rf{K:W.Frag}{g:G}{H:Hp}{o:Nat}{xs:List Dv}{vs:List V}{P:Fp}(h:AA K g H o xs vs P):(!xs.isEmpty)=!vs.isEmpty:=by have:=h.len;cases xs<;>cases vs<;>simp at this<;>rfl
theorem aQ(K:W.Frag)(g:G)(H:Hp)(o:Nat)(d:Dv)(v:V)(P:Fp)(b:Bool)(h:Rep K g H o d v P)(e:Zo d=_s b):Zs K v H b:=by
 cases d with|yw=>cases e;rw[FC h];exact rfl|bl b=>cases e;rw[BX h];exact rfl|int i=>cases e;rw[AK h];exact rfl|str l=>simp only[Zo.eq_def]at e;split at e;rename_i c;cases e;rw[BK h];refine⟨by rw[Cn];exact D0 c (by decide),?_⟩;rw[Cn];cases l<;>simp;omega;cases e|lst xs=>cases e;unfold Rep at h;obtain⟨a,vs,P',rfl,h1,h2,_⟩:=h;exact .inl ⟨vs,.inl (.inl h1.1),Rf h2⟩|tup xs=>cases e;unfold Rep at h;obtain⟨a,vs,rfl,h1,h2⟩:=h;exact .inr (.inl ⟨vs,.inl (.inl h1),Rf h2⟩)|scr ns=>cases e;obtain⟨a,rfl,h1⟩:=Pg h;exact .inl ⟨_,h1,by cases ns<;>rfl⟩|dct ks ds=>cases e;obtain⟨a,us,rfl,ha,c,f⟩:=kl h;refine .inr (.inr ⟨_,ha,?_⟩);have:=f.len;cases ks<;>cases ds<;>cases us<;>simp at c this<;>rfl|_=>cases e
theorem sJ{es:List Expr}(h:es.length=1):∃a,es=[a]:=vF.mp h
theorem tm{es:List Expr}(h:es.length=2):∃a b,es=[a,b]:=by
 cases es with|nil=>cases h|cons a es=>obtain⟨b,rfl⟩:=sJ (yY h);exact⟨a,b,rfl⟩
theorem eM{tg:Expr}(h:Mf tg=_t):∃a x1 b,tg=.Tuple a x1 b:=by cases tg<;>first|exact⟨_,_,_,rfl⟩|cases h
theorem uT{X:Cx}(h:Gx X):X.A.units+1 < O5:=by obtain⟨j,r⟩:=h.2;have:=r.un;omega
theorem Xv{X:Cx}(h:Gx X):X.A.units+2 < O5:=by obtain⟨j,r⟩:=h.2;have:=r.un;omega
end R
namespace KO
open PySem PySem.W PyProof.Rows
end KO
namespace L2
open PySem PySem.Spec PyProof.Rows
end L2
namespace R
open PySem L2 PyProof.Rows
end R
namespace XC
open PySem PySem.W PySem.Spec PyProof.Rows L2 Builtin Builtin.ObjectAttr
section
variable{prog:E8}{w:G7}{A:G3}{E:_v->A5->Prop}{R:xt->A5->Prop}{h:G2}{g:Array GenState}{d:Drawn}{t:Nat}{os:OsState}
variable{nm q:Str}{C N:A8}{bs bm:List _v}{hdct:Bool}{sn:List Str}{sub:List _v}{ab:Bool}{col:Option Bool}{dd:Option A8}{k0 k1 k2 k3 k5:Option _v}
noncomputable abbrev KI:String := "ValueError.__new__"
noncomputable abbrev lW(C a:A8):Obj:={cls:=.ref C,data:=.fields #[.ref a,.none,.none,.none,.bool _f,.none]}
noncomputable abbrev lY(us:List _v):Obj:={cls:=.type "tuple", data:=.seq us.toArray}
structure Abv (bm:List _v):Prop where
 v:bm.contains (.type "ValueError")=_t
 b:bm.contains (.type "BaseException")=_t
 a:bm.contains (.type "AttributeError")=_f
 n:bm.contains (.type "NameError")=_f
theorem lh{bm:List _v}{C:A8}{X:String}{b:Bool}(e:bm.contains (.type X)=b):(D4 C::bm).contains (.type X)=b:=by rw[U6,e];rfl
theorem aL{M:xQ}{us:List _v}{Q:Unit->A5->Prop}(T:Abv bm)(a:h.get? C=_s (Y8 nm q C N bs bm hdct sn sub ab col dd k0 k1 k2 k3 k5 KI))(z:Q () ⟨h,g,d,t,os⟩) :
    B4 M A (uy KI ⟨.ref C::us,[]⟩) Q E ⟨h,g,d,t,os⟩:=by
  have F:=F.excBase_ValueError;have b:=lh (C:=C) T.v;have st:=F.noStar;simp only[uy,F.newKind,F.newSplit,F.newRow]
  repeat (first
    |refine M8 a ?_
    |(refine R4 a ?_;rw[b])
    |refine wpAny_staticBase_exc a ?_
    |refine xM a ?_
    |simp only[bne_self_eq_false,B3,if_false]
    |wp_step)
  exact z
theorem mH{us:List _v}(T:Abv bm)(b:h.get? C=_s (Y8 nm q C N bs bm hdct sn sub ab col dd k0 k1 k2 k3 k5 KI))
    (z:R (.ok (.ret (.ref (h.objs.size+1)))) ⟨(h.push (lY us)).push (lW C h.objs.size),g,d,t,os⟩) (i:us.length<=sizeLine):Z3 (C7 prog w) A (.builtin KI ⟨.ref C::us,[]⟩) R ⟨h,g,d,t,os⟩:=by
  have F:=F.excBase_ValueError;have j:=F.ends;have f:=lh (C:=C) T.v;have e:=lh (C:=C) T.a;have c:=lh (C:=C) T.n;refine codeAny_builtinAt F.entry ?_;unfold Z0.«BaseException.__new__»;refine xj ?_;show PySem.wpAt _ _ _ (stack >>= _) _ _ _;refine xj (PySem.wpAt_stack λp below=>vo ?_)
  wp_walk
  refine vo ?_;rw[F.owner]
  repeat (first
    |with_reducible refine wpAny_madeHere_exc F.canon b ?_
    |with_reducible refine M8 b ?_
    |(with_reducible refine R4 b ?_;first|rw[f]|rw[e]|rw[c])
    |wp_step)
  show R _ _;rw[J6];exact z
theorem gQ{us:List _v}{fI:A8}{i:Obj}{Q:_v->A5->Prop}(T:Abv bm)(a:h.get? C=_s (Y8 nm q C N bs bm hdct sn sub ab col dd k0 k1 k2 k3 k5 KI))
    (hi:Looks (C7 prog w) h (xy (.ref C) "__init__") (_s (.ref fI))) (n:h.get? fI=_s i) (hc:i.cls=.type "function") (l:us.length<=sizeLine)
    (z:B4 (C7 prog w) (A.under (.builtin "type.__call__" ⟨.ref C::us,[]⟩)) (call (.ref fI) (.ref (h.objs.size+1)::us)) (λr s'=>r=.none/\Q (.ref (h.objs.size+1)) s') E ⟨(h.push (lY us)).push (lW C h.objs.size),g,d,t,os⟩) :
    B4 (C7 prog w) A (call (.ref C) us) Q E ⟨h,g,d,t,os⟩:=by
  have F:=F.excBase_ValueError;have u:=tc_lookup;have f2:=tc_bind (.ref C);have hT:(⟨h,g,d,t,os⟩:A5).TypeIs (.ref C) "type" := ⟨_,a,rfl⟩;refine d4 (codeAny_of_tree ?_);show B4 _ _ (callAny (.ref C) _) _ _ _
  repeat (any_goals (first|assumption|with_reducible refine M8 a ?_|wp_step))
  refine⟨rfl,?_⟩;refine codeAny_call_builtin_at (wJ _ (by decide +kernel)) entry_typeCall (wpAny_check_type_call_sub a ?_)
  repeat (first
    |with_reducible refine M8 a ?_
    |with_reducible refine xM a ?_
    |wp_step)
  refine codeAny_call_builtin_code (wJ _ F.quiet) (aL T a ?_);refine mH (us:=us) T a ?_ l;show B4 _ _ _ _ _ _;have k:∀b o,h.get? b=_s o->((h.push (lY us)).push (lW C h.objs.size)).get? b=_s o:=λb o e=>A4 _ (A4 _ e);have f:=k _ _ a;have m:((h.push (lY us)).push (lW C h.objs.size)).get? (h.objs.size+1)=_s (lW C h.objs.size):=by heap_get
  have s:(D4 C::bm).contains (.ref C)=true:=by simp
  have c:=hi.keeps k;unfold m8
  repeat (first
    |with_reducible refine M8 m ?_
    |(refine R4 (C:=C) f ?_;rw[s])
    |wp_step)
  show B4 _ _ (xy (.ref C) _) _ _ _;refine c.at ?_;refine J8 (A1 ?_);unfold bindSpecial;refine A1 (l5 (T := "function") ⟨_,k _ _ n,hc⟩ ?_);rw[if_pos (by decide)];refine A6 (A1 (J4 z (λr s' j=>?_) λ_ _ x=>x));obtain⟨rfl,p⟩:=j
  wp_walk
  exact p
end
end XC
namespace XC
open PySem PySem.W PySem.Spec PyProof.Rows L2
section
variable{M:xQ}{A:G3}{E:_v->A5->Prop}{s:A5}{env:Env}
variable{nm q:Str}{C N:A8}{bs bm:List _v}{hdct:Bool}{sn:List Str}{sub:List _v}{ab:Bool}{col:Option Bool}{dd:Option A8}{k0 k1 k2 k3 k5:Option _v}
theorem aJ{x:Sem _v}{Q:Flow->A5->Prop}(T:Abv bm)(f:A.handled=_n)
    (z:B4 M A x (λv a=>∃e od vs sl,v=.ref e/\a.heap.get? C=_s (Y8 nm q C N bs bm hdct sn sub ab col dd k0 k1 k2 k3 k5 KI) /\
      a.heap.get? e=_s ⟨.ref C,od,.fields vs,sl⟩/\vs[1]?=_s .none/\E (.ref e) a) E s):B4 M A (raiseStmt env (_s x) _n) Q E s:=by
  have j:=lh (C:=C) T.b;unfold raiseStmt;refine A1 (J4 z (λv a h₁=>?_) λ_ _ y=>y);obtain⟨e,od,vs,sl,rfl,c,h,h1,i⟩:=h₁;obtain⟨hp,g,d,k,os⟩:=a
  repeat (first
    |with_reducible refine M8 h ?_
    |with_reducible refine M8 c ?_
    |(with_reducible refine R4 c ?_;rw[j])
    |wp_step)
  rw[h1];refine A6 ?_;rw[if_neg (by decide)];exact A6 (wpAny_raiseNew_none f i)
end
structure Trc (h:G2) (e:A8) (oe:Obj) (T:A8) (v:_v):Prop where
 obj:h.get? e=_s oe
 ent:∃vs oT ts,oe.data=.fields vs/\vs[1]?=_s (.ref T)/\h.get? T=_s oT/\oT.data=.fields ts/\ts[3]?=_s v
 ne:T≠e
structure Ntd (fr:List A8) (e:A8) (old:A8->Prop) (h h':G2):Prop where
 keep:∀b o,h.get? b=_s o->b∉fr->b≠e->¬old b->h'.get? b=_s o
 slot:∀b o,h.get? b=_s o->b≠e->¬old b->∃sl,h'.get? b=_s {o with slots:=sl}
variable{Q:Unit->A5->Prop}
section
variable{M:xQ}{A:G3}{E:_v->A5->Prop}{s:A5}{env:Env}{outer:List Env}{base:G2}{L e:A8}{oe:Obj}{vs:Array _v}
theorem kZ{T:A8}{v:_v}(fl:Option A8){Q:Unit->A5->Prop}(t:Trc s.heap e oe T v)
    (z:∀h',(∀b,b≠T->h'.get? b=s.heap.get? b)->Trc h' e oe T (fl.elim .none λf=>P9 f)->Q () {s with heap:=h' }):B4 M A (d6 (.ref e) fl) Q E s:=by
  obtain⟨h,⟨vs,oT,ts,hd,h1,hT,c,h3⟩,a⟩:=t;unfold d6;refine A1 (H9 h hd h1 ?_);rw[if_pos (show(D4 T != K6)=_t from by simp)];have g:∀b,b≠T->(s.heap.update T (g9 (·.setIfInBounds 3 (fl.elim K6 λf=>P9 f)))).get? b=s.heap.get? b:=λb j=>F8 _ _ (Ne.symm j);have i:=X9 c (·.setIfInBounds 3 (fl.elim K6 λf=>P9 f));have d:=(N9.mp h3).1;exact V7 hT c d (z _ g ⟨(g e (Ne.symm a)).trans h,⟨_,_,_,hd,h1,K0 _ hT (a8 i),i,by simp[d]⟩,a⟩)
theorem OJ{head:_v}{b:Bool}{Q:Unit->A5->Prop}(j:A.frames=_s (env::outer))(t:s.heap.FunFrames base (env::outer))(B:env.frame=_s L)
    (u:s.heap.get? e=_s oe) (hd:oe.data=.fields vs) (p:1 < vs.size)
    (z:∀h' T v,Ntd (IT (env::outer)) e (λ_=>False) s.heap h'->s.heap.objs.size<=T->Trc h' e {oe with data:=.fields v} T (P9 L)->Q () {s with heap:=h' }) :
    B4 M A (do let a <- frameOf env;let pl <- entryPlaceOf L b;let c <- vp head a .none (P9 L) .none pl;setField (.ref e) 1 c) Q E s:=by
  have ne:e∉IT (env::outer):=λhm=>by obtain⟨_,o,r,hn⟩:=t.mem hm;rw[u]at r;cases r;exact hn vs hd
  refine A1 (wpAny_frameOf_fun j t B λh₁ i=>?_);refine A1 (wpAny_entryPlaceOf λpl hp=>?_);unfold vp newFields;refine A1 (L6 ?_ (hp.sizeOk5 _ _ _ _ _));generalize y:(([head,.ref L,.none,P9 L,.none]:List _v)++(if pl.isEmpty then C5 6 K6 else pl)).toArray=ts;have w:ts[3]?=_s (P9 L):=by rw[<- y];simp
  have g:h₁.get? e=_s oe:=(i.2.1 e ne).trans u;have f:=A4 (h:=h₁) {cls:=.type "traceback", dict:=_n,data:=.fields ts} g;have hT:h₁.objs.size≠e:=Z2 (B8 g);have l:=X9 hd (·.setIfInBounds 1 (D4 h₁.objs.size));have k:=K0 (g9 (·.setIfInBounds 1 (D4 h₁.objs.size))) f (a8 l);have n:=(F8 (h₁.push {cls:=.type "traceback", dict:=_n,data:=.fields ts}) (g9 (·.setIfInBounds 1 (D4 h₁.objs.size))) (Ne.symm hT)).trans (D3 h₁ rfl);have kp:∀b o,b≠e->h₁.get? b=_s o->((h₁.push {cls:=.type "traceback", dict:=_n,data:=.fields ts}).update e (g9 (·.setIfInBounds 1 (D4 h₁.objs.size)))).get? b=_s o:=λb o m q=>by rw[F8 _ _ (Ne.symm m)];exact A4 _ q
  refine V7 f hd p (z _ h₁.objs.size (vs.setIfInBounds 1 (.ref h₁.objs.size)) ⟨λb o q m d _=>kp b o d ((i.2.1 b m).trans q),λb o q d _=>?_⟩ (u5 i.1.symm) ⟨?_,⟨_,_,_,rfl,by simp[p],n,rfl,w⟩,hT⟩);obtain⟨sl,x⟩:=i.2.2 b o q;exact⟨sl,kp b _ d x⟩;refine k.trans (congrArg _s ?_);obtain⟨c,C,D,sl⟩:=oe;cases hd;rfl
theorem QE{Q:Unit->A5->Prop}(a:A.frames=_s (env::outer))(f:s.heap.FunFrames base (env::outer))(b:env.frame=_s L)
    (c:s.heap.get? e=_s oe) (hd:oe.data=.fields vs) (h1:vs[1]?=_s .none)
    (z:∀h' T d,Ntd (IT (env::outer)) e (λ_=>False) s.heap h'->s.heap.objs.size<=T->Trc h' e {oe with data:=.fields d} T (P9 L)->Q () {s with heap:=h' }) :
    B4 M A (V0 (.ref e) env) Q E s:=by
  unfold V0;simp only[b];refine A1 (H9 c hd h1 ?_);rw[if_neg (by decide)];exact OJ a f b c hd (N9.mp h1).1 z
theorem Ts{T:A8}{Q:Unit->A5->Prop}(k:A.frames=_s (env::outer))(u:s.heap.FunFrames base (env::outer))(l:env.frame=_s L)(t:Trc s.heap e oe T .none)
    (z:∀h' g h,Ntd (IT (env::outer)) e (·=T) s.heap h'->s.heap.objs.size<=g->Trc h' e {oe with data:=.fields h} g (P9 L)->Q () {s with heap:=h' }) :
    B4 M A (V0 (.ref e) env) Q E s:=by
  obtain⟨m,⟨vs,oT,ts,hd,h1,hT,c,h3⟩,j⟩:=t;unfold V0;simp only[l];refine A1 (H9 m hd h1 ?_);rw[if_pos (show(D4 T != K6)=_t from by simp)];refine A1 (H9 hT c h3 ?_);rw[if_neg (show ¬((K6==P9 L)=_t)from by simp[P9])];refine A1 (V7 hT c (N9.mp h3).1 ?_);have f:∀b,b≠T->(s.heap.update T (g9 (·.setIfInBounds 3 K6))).get? b=s.heap.get? b:=λb a=>F8 _ _ (Ne.symm a);have p:∀b o,s.heap.get? b=_s o->(∀vs,o.data≠.fields vs)->b≠T:=λb o a hn q=>by rw[q,hT]at a;cases a;exact hn ts c
  refine OJ (base:=base) k (u.of_keeps λb o a hn=>⟨o,(f b (p b o a hn)).trans a,rfl⟩) l ((f e (Ne.symm j)).trans m) hd (N9.mp h1).1 λh' g h n r t'=>z h' g h ⟨λb o q a d i=>n.keep b o ((f b i).trans q) a d λz=>z,λb o q d i=>n.slot b o ((f b i).trans q) d λz=>z⟩ ?_ t';simpa using r
theorem Tr{T:A8}(c:env.frame=_s L)(t:Trc s.heap e oe T (P9 L))(z:Q () s):B4 M A (V0 (.ref e) env) Q E s:=by obtain⟨d,⟨vs,oT,ts,hd,h1,hT,a,h3⟩,b⟩:=t;unfold V0;simp only[c];refine A1 (H9 d hd h1 ?_);rw[if_pos (show(D4 T != K6)=_t from by simp)];refine A1 (H9 hT a h3 ?_);rw[if_pos (show(P9 L==P9 L)=_t from by simp)];exact A6 z
end
end XC
namespace XC
open PySem PySem.W PySem.Spec PyProof.Rows L2 Builtin Builtin.ObjectAttr
noncomputable abbrev aO:List Value:=[.type "ValueError", .type "Exception", .type "BaseException", .type "object"]
def jS:List _v->Bool
 |.ref _::r=>jS r
 |.type n::r=>(O1 n::r)==aO
 |_=>_f
theorem Du{X:String}:∀{l:List _v},jS l=_t->l.contains (.type X)=aO.contains (.type X)
 |[],e=>by cases e
 |v::r,e=>by
  cases v with|ref c=>rw[U6,Du (l:=r) e];rfl|type n=>rw[show(O1 n::r)=aO from eq_of_beq e]|_=>cases e
theorem JV(self:_v):∀{l:List _v},jS l=_t->refuseLoop self "__setattr__" l=pure ()
 |[],e=>by cases e
 |v::r,e=>by
  cases v with|ref c=>rw[refuseLoop_ref];exact JV self (l:=r) e|type n=>rw[show(O1 n::r)=aO from eq_of_beq e];exact F.store_ValueError.passes self|_=>cases e
theorem MZ{bm:List _v}(e:jS bm=_t):Abv bm:=⟨by rw[Du e];decide,by rw[Du e];decide,by rw[Du e];decide,by rw[Du e];decide⟩
inductive XLk (K:Frag) (C:A8) (hd:Bool):Prop
 |mk (nm:Str) (q:Str) (N:A8) (bs bm:List _v) (sn:List Str) (sub:List _v) (ab:Bool) (col:Option Bool) (dd:Option A8) (k0 k1 k2 k3 k5:Option _v) (e:K.lookup C=_s (Y8 nm q C N bs bm hd sn sub ab col dd k0 k1 k2 k3 k5 KI)) (o:jS bm=_t)
structure XCl (K:Frag) (C:A8) (f:Str):Prop where
 lk:XLk K C _t
 sa:yZ K (.ref C) "__setattr__" = _s (_s (.builtin "object.__setattr__"))
 ga:yZ K (.ref C) "__getattribute__" = _s (_s (.builtin "BaseException.__getattribute__"))
 gh:yZ K (.ref C) "__getattr__" = _s _n
 no:yZ K (.ref C) f=_s _n
section
variable{prog:E8}{w:G7}{A:G3}{E:_v->A5->Prop}{s:A5}{K:Frag}{C x:A8}{f:Str}{v:_v}
theorem XCl.cls(c:XCl K C f):∃cd,clsIn K C=_s cd/\jS cd.mro=_t/\cd.hasDict=true:=by obtain⟨nm,q,N,bs,bm,sn,sub,ab,col,dd,k0,k1,k2,k3,k5,e,o⟩:=c.lk;exact⟨_,by unfold clsIn;rw[e],o,rfl⟩
theorem aI{vs:Array _v}{sl:Array (Option _v)}{Q:Unit->A5->Prop}(X:K.In s.heap)(c:XCl K C f)(i:s.heap.get? x=_s ⟨.ref C,_n,.fields vs,sl⟩)
    (z:∀h' r,h'.get? x=_s ⟨.ref C,_s s.heap.objs.size,.fields vs,sl⟩->h'.Ns1 s.heap.objs.size (λy=>if y=f then _s v else _n)->(∀b o,b≠x->s.heap.get? b=_s o->h'.get? b=_s o)->Q () {s with heap:=h',toks:=r}) :
    B4 (C7 prog w) A (setAttr (.ref x) f v) Q E s:=by
  obtain⟨k,hc,j,hd⟩:=c.cls;have h:=F.store_object;have I:InstAt s.heap x ⟨.ref C,_n,.fields vs,sl⟩ C none:=⟨i,rfl,rfl,True.intro⟩;have ne:k.mro.isEmpty=false:=by cases q:k.mro with|nil=>rw[q]at j;cases j|cons _ _=>rfl
  have ct:k.mro.contains (.type "object")=true:=by rw[Du j];decide
  have t:Looks (C7 prog w) s.heap (m8 (.ref x) (.type "object")) true:=I.type.andThen (looks_mroIn X (by unfold mroIn;rw[hc,A0,if_neg (by rw[ne];decide),ct]));refine set_plain X I c.sa ?_;refine i3 h.slot.plain h.entry (@check_slot (C7 prog w) _ _ {s with toks:=s.toks+1} "object.__setattr__" "object" "__setattr__" (.ref x) [.str f s.toks,v] [] _ h.kind h.split t (h.args (.ref x) (.str f s.toks) v) ?_);have hm:Looks (C7 prog w) s.heap (mroOf (.ref C)) k.mro:=(looks_clsIn X hc).andThen .now;rw[osa_eq,refuse_eq];refine A1 (A1 (I.type.here (s:={s with toks:=s.toks+1}) (A1 (hm.here (s:={s with toks:=s.toks+1}) ?_))));rw[JV _ j];refine A6 (A1 (I.type.here (s:={s with toks:=s.toks+1}) (A1 (yn (s:={s with toks:=s.toks+1}) (vG X c.no) (A1 (A6 ?_))))));show B4 _ _ (storeInOwnDict _ _ _ _ _ _) _ _ _;have d:(s.heap.push {cls:=.type "dict", data:=.dict #[]}).get? x=_s ⟨.ref C,_n,.fields vs,sl⟩:=A4 _ i;have a:x≠s.heap.objs.size:=D6 (B8 i);refine A1 (A6 (A1 (A1 (wpAny_loadPart i (A1 (yn (s:={s with toks:=s.toks+1}) (looks_clsIn X hc) ?_))))));rw[hd];refine A1 (wpAny_alloc ?_);refine A1 (wpAny_update d ?_);refine A6 ?_;have u:((s.heap.push {cls:=.type "dict", data:=.dict #[]}).update x λo=>{cls:=o.cls,dict:=_s s.heap.objs.size,data:=o.data,slots:=o.slots}).get? s.heap.objs.size=_s {cls:=.type "dict", data:=.dict #[]}:=
    (vq _ _ _ _ a.symm).trans (Heap.get?_push_at rfl rfl)
  have hn:((s.heap.push {cls:=.type "dict", data:=.dict #[]}).update x λo=>{cls:=o.cls,dict:=_s s.heap.objs.size,data:=o.data,slots:=o.slots}).Ns s.heap.objs.size (λ_=>_n):=
    ⟨_,#[],_,u,rfl,λe B=>absurd B (by simp),λ_=>rfl⟩
  show B4 _ _ (storeInDict s.heap.objs.size _ _ _) _ _ _;unfold storeInDict newKeyGuard;refine A1 (A6 (A1 (wpAny_nsSet1 (wU hn) λh' g p=>?_)));obtain⟨J,G,H,l,m,n⟩:=g.count (Within.cons f v Within.nil);refine A1 (wy l (by rw[m];exact w8 (D0 n (by rw[E3,vJ,R5];omega))) ?_);refine A6 ?_;show Q () _;refine z h' _ ((p.2 x a).trans (K0 _ d rfl)) g λb o D q=>(p.2 b (D6 (B8 q))).trans ((vq _ _ _ _ D).trans (A4 _ q))
theorem mI{expr:Bool}{dx:A8}{d:Data}{sl:Array (Option _v)}{mA:Str->Option _v}{Q:_v->A5->Prop}(X:K.In s.heap)(c:XCl K C f)(k:s.heap.get? x=_s ⟨.ref C,_s dx,d,sl⟩)(b:notCls ⟨.ref C,_s dx,d,sl⟩=_t)(hn:s.heap.Ns1 dx mA)
    (l:mA f=_s v) (n:handedIn v=_t) (z:Q v {s with toks:=s.toks+1}):B4 (C7 prog w) A (xl (.ref x) f expr) Q E s:=by
  obtain⟨e,hc,a,hd⟩:=c.cls;obtain⟨g,u,m⟩:=LR hn;have I:InstAt s.heap x ⟨.ref C,_s dx,d,sl⟩ C (_s g):=⟨k,rfl,b,u⟩;have o:=findObj_own (K:=K) (C:=C) (name:=f) (od:=g) (v:=v) (by unfold hasDictIn;rw[hc];exact hd) c.no rfl (by rw[m,l]);have ne:e.mro.isEmpty=false:=by cases q:e.mro with|nil=>rw[q]at a;cases a|cons _ _=>rfl
  have ct:e.mro.contains (.type "BaseException")=true:=by rw[Du a];decide
  have j:Looks (C7 prog w) s.heap (m8 (.ref x) (.type "BaseException")) true:=I.type.andThen (looks_mroIn X (by unfold mroIn;rw[hc,A0,if_neg (by rw[ne];decide),ct]));have i:=F.excAttr_ValueError;have p:=i.ga.bind (.ref x);have h:Looks (C7 prog w) s.heap (x6 (.ref x)) (.ref C):=I.type;have L2:=vG (M:=C7 prog w) X c.ga;have L3:=vG (M:=C7 prog w) X c.gh;have L4:=looks_find (M:=C7 prog w) X I o;have t:(t7 "BaseException.__getattribute__"==t7 "object.__getattribute__")=false:=by decide +kernel
  have r:(expr&&onTheHeap (t7 "BaseException.__getattribute__"))=false:=by cases expr<;>rfl
  unfold xl getAttrBy;refine A1 (wpAny_mkText (J8 (A1 (h.here (s:={s with toks:=s.toks+1}) (A1 (L2.here (s:={s with toks:=s.toks+1}) ?_))))));dsimp only;rw[t,U1,if_neg (by decide)];unfold getAttrByItsOwn hookBefore callGetattribute boundAndCalled;rw[r,if_pos (show onTheHeap (D4 C)=_t from rfl),if_neg (show ¬(_f=_t) by decide),p];refine A1 (L3.here (s:={s with toks:=s.toks+1}) (A1 (vz (J8 (A1 (A6 ?_))))));refine d4 ?_;refine i3 i.ga.plain F.entry_bexc_ga (@check_slot (C7 prog w) _ _ {s with toks:=s.toks+1} "BaseException.__getattribute__" "BaseException" "__getattribute__" (.ref x) [.str f s.toks] [] _ (by decide +kernel) (by decide +kernel) j (F.args_bexc_ga (.ref x) (.str f s.toks)) ?_);refine A1 (A6 (A1 (A6 (A1 (h.here (s:={s with toks:=s.toks+1}) (A1 (L4.here (s:={s with toks:=s.toks+1}) ?_)))))));refine A6 ?_;show B4 _ _ (handedOut v) _ _ _;rw[handedOut_of n];exact A6 z
end
end XC
namespace XC
open PySem PySem.W PySem.Spec PyProof.Rows L2
def gL(e C:A8)(h:G2):Prop:=∃vs sl,h.get? e=_s ⟨.ref C,_n,.fields vs,sl⟩/\vs[1]?=_s .none
def FS(e C dx:A8)(T:_v)(h:G2):Prop:=∃vs sl,h.get? e=_s ⟨.ref C,_s dx,.fields vs,sl⟩/\vs[1]?=_s T
variable{P:E8}{w:G7}{H:Hp}{h:G2}{e C:A8}
theorem iT(x:gL e C h):An P w H h e (.ext (gL e C)):=
 ⟨x,let ⟨_,_,q,_⟩:=x;⟨_,q⟩,λ_ _ ⟨vs,sl,q,r⟩ k=>⟨vs,sl,k _ q,r⟩⟩
theorem YH{dx:A8}{T:_v}(x:FS e C dx T h):An P w H h e (.ext (FS e C dx T)):=
 ⟨x,let ⟨_,_,q,_⟩:=x;⟨_,q⟩,λ_ _ ⟨vs,sl,q,r⟩ k=>⟨vs,sl,k _ q,r⟩⟩
variable{h':G2}{φ:G2->Prop}
theorem ck{n:A8}{d a:HO}(ok:EM P w H h)(i:H e=_s (.ext φ))(hn:H n=_n)(ne:n≠e)(k:∀b o,b≠e->h.get? b=_s o->h'.get? b=_s o)
    (m:An P w (upd (upd H n d) e a) h' n d) (l:An P w (upd (upd H n d) e a) h' e a):EM P w (upd (upd H n d) e a) h':=λb u q=>by
  by_cases g:b=e;subst g;rw[AG]at q;cases q;exact l;rw[AC g]at q;by_cases f:b=n;subst f;rw[AG]at q;cases q;exact m;rw[AC f]at q;have st:∀c x,H c=_s x->(∀j,x≠.ext j)->upd (upd H n d) e a c=_s x:=λc x z nx=>by rw[AC (λy=>by subst y;rw[i]at z;cases z;exact nx _ rfl),AC (AY z hn)];exact z
  refine(ok b u q).zAv (λc v hc z=>k c v ?_ z) (λc z=>st c _ z λ_ y=>by cases y) λc xs z=>st c _ z λ_ y=>by cases y
  rcases hc with rfl|hc
  exact g;rintro rfl;rw[i]at hc;cases hc
theorem gp{fs:List A8}{n:A8}{d a:HO}(f:H e=_s (.ext φ))(hn:H n=_n)(j:h.objs.size<=n)(k:∀b o,b≠e->h.get? b=_s o->h'.get? b=_s o)(l:∃o,h'.get? e=_s o):Un fs [] H (upd (upd H n d) e a) h h':=by
 have st:∀c x,H c=_s x->(∀i,x≠.ext i)->upd (upd H n d) e a c=_s x:=λc x z nx=>by rw[AC (λy=>by subst y;rw[f]at z;cases z;exact nx _ rfl),AC (AY z hn)];exact z
 have ne:∀b,H b=_n->b≠e:=λb z y=>by subst y;rw[f]at z;cases z
 refine⟨λb o q z _ _=>k b o (ne b z) q,λb o q z _ _=>⟨o.slots,k b o (ne b z) q⟩,λb o q z _=>?_,λb o q _=>?_,(λc xs z=>st c _ z (λ_ y=>nomatch y)),(λc o u z=>st c _ z (λ_ y=>nomatch y)),λc ps z=>⟨#[],by rw[st c _ z (λ_ y=>nomatch y)];simp⟩⟩;rw[AC (ne b z),AC (D6 (B7 (B8 q) j))];exact z;by_cases g:b=e;subst g;exact l;exact⟨o,k b o g q⟩
def Iv(C:A8)(f:Str):Sp:=λvs H Q _=>∃e x,vs=[.ref e,x]/\H e=_s (.ext (gL e C))/\∀dx,H dx=_n->dx≠e->Q .yw (upd (upd H dx (.xd [(f,x)])) e (.ext (FS e C dx .none)))
section
variable{X:Cx}{C fI:A8}{f:Str}{i j:Nat}
def nB(C:A8)(f:Str)(i j:Nat):TS:=λD σ H=>∃e x,σ[i]?=_s (_s (.ref e))/\σ[j]?=_s (_s x)/\H e=_s (.ext (gL e C))/\∀dx,H dx=_n->dx≠e->D.nx σ (upd (upd H dx (.xd [(f,x)])) e (.ext (FS e C dx .none)))
theorem bN{o a:Expr}{p pos:Pos}(c:XCl X.K C f)(ha:PE X o (Cb i))(E:PE X a (Cb j))(F:O0 a (_s (.Attribute o f p)) pos.line X.env=pure _f):PS X (.Assign [.Attribute o f p] a pos) (nB C f i j):=by
  intro pins s σ H D I ⟨e,x,h1,h2,h3,h4⟩;refine a6 (Ai (E pins s σ H (λy d=>y=x/\d=H) I ⟨x,h2,rfl,rfl⟩) λu s1 ⟨y,d,J,v,G,k⟩=>?_) F;subst G k;refine Ai (ha pins s1 σ d (λy l=>y=.ref e/\l=d) J ⟨.ref e,h1,rfl,rfl⟩) λB s2 ⟨y2,l,b,z,ex,k⟩=>?_;subst ex k;obtain rfl:B=D4 e:=z;obtain⟨⟨vs,sl,r,hn⟩,_,_⟩:=b.y8 e _ h3;have fr:l s2.heap.objs.size=none:=b.y8.fresh (C4 _);have ne:s2.heap.objs.size≠e:=Z2 (B8 r);refine aI b.zx c r λh' t n A m=>⟨σ,_,?_,h4 _ fr ne⟩;refine b.un (h':=h') (t':=t) (gp h3 fr (C4 _) m ⟨_,n⟩) (ck b.y8 h3 fr ne m ⟨_,A,λg=>?_⟩ (YH ⟨vs,sl,n,hn⟩));by_cases q:g=f;subst q;rw[if_pos rfl];simp only[F7,beq_self_eq_true];exact v;rw[if_neg q];have:([(f,y)]:List (Str×V)).lookup g=none:=by rw[F7,beq_eq_false_iff_ne.mpr q];rfl
  rw[this];exact True.intro
structure XMk (K:Frag) (C:A8) (f:Str) (fI:A8):Prop where
 cl:XCl K C f
 init:yZ K (.ref C) "__init__" = _s (_s (.ref fI))
 fn:∃o,K.lookup fI=_s o/\o.cls=.type "function"
 kp:keepIn K (.ref C)=_t
def mV(C:A8)(f:Str)(t:TA):TE:=λσ H Q=>t σ H λvs a=>∃x,vs=[x]/\∀e dx,a e=_n->a dx=_n->dx≠e->Q (.ref e) (upd (upd (upd a e (.ext (gL e C))) dx (.xd [(f,x)])) e (.ext (FS e C dx .none)))
variable{x:Str}{p pos:Pos}{k:Nat}{fd:N1}{ps:List Str}{e:Expr}{t:TA}
theorem jF(M:XMk X.K C f fI)(F:zI X.prog X.w X.K X.mg X.base Gq k fI fd ps (Iv C f))(hp:ps.length=2)(T:y9 (k+1) X.A)(U:Gl X x)(hm:X.mg x=_s (.ref C))(Z:Binds X.K fd ps [])
    (ha:PA X [e] t) (o:(x==("__debug__" : Str))=_f) (Y:D7 [e] X.env=(_f,L8 e X.env)::D7 [] X.env):PE X (.Call (.Name x p) [e] [] pos) (mV C f t):=by
  intro pins s σ H Q I h;refine M0 (DB I U hm ?_ o);refine W.callWith_K (h₀:=X.base) I.ok.mod.kin M.kp (Ai (ha pos pins s σ H _ I h) λus s1 ⟨vs,m,c,r,x,ex,q⟩=>⟨c.zx,?_⟩) Y rfl;subst ex;obtain⟨nm,qn,N,bs,bm,sn,sub,ab,col,dd,k0,k1,k2,k3,k5,lk,R⟩:=M.cl.lk;obtain⟨oI,n,cI⟩:=M.fn;have D:us.length=1:=r.length.symm;have S:m (s1.heap.objs.size+1)=none:=c.y8.fresh (Y2 _);have B:Inv X pins σ (upd m (s1.heap.objs.size+1) (.ext (gL (s1.heap.objs.size+1) C))) {s1 with heap:=(s1.heap.push (lY us)).push (lW C s1.heap.objs.size)}:=by
    have J:Inv X pins σ m {s1 with heap:=s1.heap.push (lY us)}:=c.kept (t':=s1.toks) λb u z=>A4 _ z;refine J.laid (t':=s1.toks) (λb u z=>A4 _ z) (by simp) (iT ⟨#[.ref s1.heap.objs.size,.none,.none,.none,.bool _f,.none],#[],?_,rfl⟩)
    heap_get
  have L:AI [V.ref (s1.heap.objs.size+1),x] (D4 (s1.heap.objs.size+1)::us):=.cons rfl r;have E:(D4 (s1.heap.objs.size+1)::us++[]).length=ps.length:=by rw[G4,E3,D,hp]
  obtain⟨l,g,d,tk,os⟩:=s1;refine gQ (MZ R) (c.zx _ _ lk) (vG c.zx M.init) (c.zx _ _ n) cI (by rw[j4,D,R5];decide) ?_;refine d4 (Z4 (F.run _ X.stack _ _ ⟨D4 (l.objs.size+1)::us,[]⟩ (D4 (l.objs.size+1)::us) _ (λv H2=>v=.yw/\Q (.ref (l.objs.size+1)) H2) E0 (T.make C us []) (B.zCc.make C us []) (by have:=Z _ (D4 (l.objs.size+1)::us) B.zx E;rw[G4]at this;exact this) L ⟨_,x,rfl,AG,λdx z y=>⟨rfl,?_⟩⟩) λr s' a=>?_);have G:m dx=none:=by rw[AC y]at z;exact z
  exact q _ dx S G y;cases r with
  |error e=>exact D2 a
  |ok fl=>
    cases fl with|ret u=>obtain⟨v,H',I3,rv,ev,O⟩:=B.after a;subst ev;exact⟨rv,⟨V.ref (l.objs.size+1),H',I3,rfl,O⟩⟩|next=>exact D2 a|brk=>exact D2 a|cont=>exact D2 a
end
structure Hd (h:G2) (H:Hp) (a t:A8) (v:Value:=.none):Prop where
 ex:∃o ts,h.get? t=_s o/\o.data=.fields ts/\ts[3]?=_s v
 ne:t≠a
 fr:H t=_n
def Up(X:Cx)(pins:List (A8×Obj))(H:Hp)(s:A5)(a C dx:A8):Prop:=
 H a=_s (.ext (FS a C dx .none))\/∃t,H a=_s (.ext (FS a C dx (.ref t)))/\(Hd s.heap H a t\/Hd s.heap H a t (P9 X.env.locals))/\X.zQ.heap.objs.size<=t/\t∉X.ex/\∀p∈X.pn++pins,p.1≠t
abbrev WK:=A8->A8->A8->Hp->Prop
def Ew(W:WK):XK:=λv o H=>match v,o with
 |.int i C,_s dx=>W i.toNat C dx H
 |_,_=>False
def Sx(P:E8)(w:G7):VM:=λouter H s E v s'=>∃(a C dx t:A8)(H':Hp),v=.ref a/\s'.os=s.os/\k8 s'.gens/\Un (IT outer) [] H H' s.heap s'.heap/\EM P w H' s'.heap/\H' a=_s (.ext (FS a C dx (.ref t)))/\Hd s'.heap H' a t/\s.heap.objs.size<=t/\E (.int (a:Nat) C) (_s dx) H'
def qc(W:WK):Prop:=∀a C dx H φ φ',H a=_s (.ext φ)->W a C dx H->W a C dx (upd H a (.ext φ'))
def Wx(X:Cx)(W:WK):Prop:=∀(pins:List (A8×Obj))(σ:L2.St)(H:Hp)(s:A5)(a C dx:A8),Inv X pins σ H s->Up X pins H s a C dx->W a C dx H->X.xe (.ref a) s
variable{A':G3}{t:A8}
section
variable{X:Cx}{pins:List (A8×Obj)}{σ:L2.St}{H:Hp}{s:A5}{a C dx:A8}
def PC(X:Cx)(pins:List (A8×Obj))(H:Hp)(t:A8):Prop:=H t=_n/\X.zQ.heap.objs.size<=t/\∀p∈X.pn++pins,p.1≠t
theorem OI{E:_v->A5->Prop}{Q:Unit->A5->Prop}(A:A'.frames=_s X.stack)(I:Inv X pins σ H s)(u:Up X pins H s a C dx)(g:X.stack=X.env::X.outer)(x:X.env.frame=_s X.env.locals)
    (z:∀h' t (ch:List A8) i sl,(∀b∈ch,PC X pins H b/\∃o vs,s.heap.get? b=_s o/\o.data=.fields vs)->Ntd (IT X.stack) a (·∈ch) s.heap h'->(t∈ch\/s.heap.objs.size<=t)->PC X pins H t->Trc h' a ⟨.ref C,_s dx,.fields i,sl⟩ t (P9 X.env.locals)->Q () {s with heap:=h' }) :
    B4 (C7 X.prog X.w) A' (V0 (.ref a) X.env) Q E s:=by
  rw[g]at A;have fr:∀{t:A8},s.heap.objs.size<=t->PC X pins H t:=fun{t} d=>⟨I.y8.fresh d,D0 I.sz d,λp hp y=>by have:=B8 (I.pin p hp).1;rw[y]at this;exact absurd (B7 this d) (K9 _)⟩
  rcases u with u|⟨t,u,ent,B,D,hp⟩
  obtain⟨⟨vs,sl,m,h1⟩,_,_⟩:=I.y8 a _ u;exact QE (base:=X.base) A (by rw[<- g];exact I.stack) x m rfl h1 λh' t i n d tr=>z h' t [] i sl (λb y=>nomatch y) ⟨λb o q f c _=>n.keep b o q (by rw[<- g];exact f) c λy=>y,λb o q c _=>n.slot b o q c λy=>y⟩ (.inr d) (fr d) tr;obtain⟨⟨vs,sl,m,h1⟩,_,_⟩:=I.y8 a _ u;have one:∀{v:_v},Hd s.heap H a t v->PC X pins H t/\∃o vs,s.heap.get? t=_s o/\o.data=.fields vs:=λent=>⟨⟨ent.fr,B,hp⟩,let ⟨oT,ts,k,j,_⟩:=ent.ex;⟨oT,ts,k,j⟩⟩;have no:∀b,b∉[t]->b≠t:=λb q y=>q (by rw[y];exact Q6 _);rcases ent with ent|ent
  have l:=one ent;obtain⟨⟨oT,ts,k,j,r⟩,ne,_⟩:=ent;exact Ts (base:=X.base) A (by rw[<- g];exact I.stack) x ⟨m,⟨vs,oT,ts,rfl,h1,k,j,r⟩,ne⟩ λh' t' i n d tr=>z h' t' [t] i sl (λb f=>by rw[D5.mp f];exact l) ⟨λb o q f c hn=>n.keep b o q (by rw[<- g];exact f) c (no b hn),λb o q c hn=>n.slot b o q c (no b hn)⟩ (.inr d) (fr d) tr;have l:=one ent;obtain⟨⟨oT,ts,k,j,r⟩,ne,_⟩:=ent;have tr:Trc s.heap a ⟨.ref C,_s dx,.fields vs,sl⟩ t (P9 X.env.locals):=⟨m,⟨vs,oT,ts,rfl,h1,k,j,r⟩,ne⟩;exact Tr x tr (z s.heap t [t] vs sl (λb f=>by rw[D5.mp f];exact l) ⟨λb o q _ _ _=>q,λb o q _ _=>⟨o.slots,q⟩⟩ (.inl (Q6 _)) l.1 tr)
theorem fZ{fl:Option A8}{A':G3}{E:_v->A5->Prop}{Q:Unit->A5->Prop}{ch:List A8}{u:Array _v}{sl:Array (Option _v)}{v:_v}(n:Ntd (IT X.stack) a (·∈ch) s.heap h')(i:t∈ch\/s.heap.objs.size<=t)(fr:PC X pins H t)(tr:Trc h' a ⟨.ref C,_s dx,.fields u,sl⟩ t v)
    (z:∀h2,Ntd (IT X.stack) a (·∈ch) s.heap h2->FS a C dx (.ref t) h2->Hd h2 (upd H a (.ext (FS a C dx (.ref t)))) a t (fl.elim .none λf=>P9 f)->Q () {s with heap:=h2}) :
    B4 (C7 X.prog X.w) A' (d6 (.ref a) fl) Q E {s with heap:=h' }:=by
  refine kZ (s:={s with heap:=h' }) fl tr λh2 g d=>z h2 ⟨λb o q y c hn=>(g b ?_).trans (n.keep b o q y c hn),λb o q c hn=>let ⟨sl,x⟩:=n.slot b o q c hn;⟨sl,(g b ?_).trans x⟩⟩ ?_ ?_;rintro rfl;exact i.elim hn λw=>absurd (B7 (B8 q) w) (K9 _);rintro rfl;exact i.elim hn λw=>absurd (B7 (B8 q) w) (K9 _);obtain⟨r,⟨vs,oT,ts,p,m,l,k,j⟩,ne⟩:=d;cases p;exact⟨_,sl,r,m⟩;obtain⟨r,⟨vs,oT,ts,p,m,l,k,j⟩,ne⟩:=d;exact⟨⟨oT,ts,l,k,j⟩,ne,by rw[AC ne];exact fr.1⟩
theorem Rt{E:_v->A5->Prop}{Q:Unit->A5->Prop}(k:A'.frames=_s X.stack)(I:Inv X pins σ H s)(u:Up X pins H s a C dx)(f:X.stack=X.env::X.outer)(j:X.env.frame=_s X.env.locals)
    (z:∀h' t (ch:List A8),(∀b∈ch,PC X pins H b/\∃o vs,s.heap.get? b=_s o/\o.data=.fields vs)->Ntd (IT X.stack) a (·∈ch) s.heap h'->PC X pins H t->FS a C dx (.ref t) h'->Hd h' (upd H a (.ext (FS a C dx (.ref t)))) a t->Q () {s with heap:=h' }) :
    B4 (C7 X.prog X.w) A' (V0 (.ref a) X.env) (λ_ s'=>B4 (C7 X.prog X.w) A' (d6 (.ref a) _n) Q E s') E s:=
  OI k I u f j λh' t ch l sl c n i fr tr=>fZ (fl:=_n) n i fr tr λh2 g d en=>z h2 t ch c g fr d en
theorem OV{fr ch:List A8}{T:_v}(ok:EM P w H h)(n:Ntd fr a (·∈ch) h h')(i:∀b∈fr,H b=_n)(hc:∀b∈ch,H b=_n)(ha:H a=_s (.ext φ))(fl:FS a C dx T h'):EM P w (upd H a (.ext (FS a C dx T))) h':=λb u q=>by
  by_cases f:b=a;subst f;rw[AG]at q;cases q;exact YH fl;rw[AC f]at q;have st:∀c x,H c=_s x->(∀g,x≠.ext g)->upd H a (.ext (FS a C dx T)) c=_s x:=λc x z nx=>by rw[AC (λy=>by subst y;rw[ha]at z;cases z;exact nx _ rfl)];exact z
  have kp:∀c v x,H c=_s x->c≠a->h.get? c=_s v->h'.get? c=_s v:=λc v x z ne y=>n.keep c v y (λm=>by rw[i c m]at z;cases z) ne λm=>by rw[hc c m]at z;cases z
  refine(ok b u q).zAv (λc v d z=>?_) (λc z=>st c _ z (λ_ y=>nomatch y)) λc xs z=>st c _ z (λ_ y=>nomatch y);rcases d with rfl|d
  exact kp _ v _ q f z;exact kp _ v _ d (λy=>by subst y;rw[ha]at d;cases d) z
theorem Up.ext(u:Up X pins H s a C dx):∃φ,H a=_s (.ext φ):=by
 rcases u with u|⟨t,u,_⟩
 exact⟨_,u⟩;exact⟨_,u⟩
theorem LX{ch:List A8}(I:Inv X pins σ H s)(ha:H a=_s (.ext φ))(d:∀b∈ch,PC X pins H b/\∃o vs,s.heap.get? b=_s o/\o.data=.fields vs)(n:Ntd (IT X.stack) a (·∈ch) s.heap h')(fl:FS a C dx (.ref t) h') :
    Inv X pins σ (upd H a (.ext (FS a C dx (.ref t)))) {s with heap:=h' }:=by
  have j:∀b,H b=_n->b≠a:=λb y x=>by subst x;rw[ha]at y;cases y
  obtain⟨E,⟨D,es,z,l,p,B⟩,_⟩:=id I.loc;have u:∀b∈ch,b≠X.env.locals:=λb f y=>by obtain⟨_,o,vs,i,g⟩:=d b f;rw[y,l]at i;cases i;rw[p]at g;cases g
  have st:∀c x,H c=_s x->(∀A,x≠.ext A)->upd H a (.ext (FS a C dx (.ref t))) c=_s x:=λc x y nx=>by rw[AC (λw=>by subst w;rw[ha]at y;cases y;exact nx _ rfl)];exact y
  refine I.step (h':=h') (g':=s.gens) (t':=s.toks) (d':=s.drawn) (ch:=ch) (λb f=>⟨.inr (d b f).1.2.1,u b f,λx c e y=>?_,(d b f).1.2.2⟩) (λb o h1 h2 h3 e y=>n.keep b o e (λw=>(C9.mp (I.zAA b w)).elim h1 h2) (j b y) h3) (λb o h1 h2 h3 e y=>n.slot b o e (j b y) h3)
    (λb o h3 e y=>by rw[AC (j b y)];exact y) (λb o h3 e=>?_) (λc xs y=>st c _ y (λ_ w=>nomatch w)) (λc o v y=>st c _ y (λ_ w=>nomatch w)) (λc ps y=>⟨#[],by rw[st c _ y (λ_ w=>nomatch w)];simp⟩) (λm hm=>?_) (OV I.y8 n I.zAg (λb f=>(d b f).1.1) ha fl) I.bare
  obtain⟨_,o,vs,i,g⟩:=d b f;obtain⟨v,oc,k,hd⟩:=I.cell x c e;rw[y,i]at k;cases k;rw[hd]at g;cases g;by_cases f:b=a;obtain⟨vs,sl,q,_⟩:=fl;rw[f];exact⟨_,q⟩;obtain⟨sl,q⟩:=n.slot b o e f h3;exact⟨_,q⟩;obtain⟨o,es,z,k,r⟩:=hm;obtain⟨sl,q⟩:=n.slot _ o k (j _ I.free) λw=>u _ w rfl;exact⟨_,es,z,q,r⟩
theorem rZ{E:_v->A5->Prop}{Q:Unit->A5->Prop}(f:A'.frames=_s X.stack)(I:Inv X pins σ H s)(u:Up X pins H s a C dx)(c:X.stack=X.env::X.outer)(d:X.env.frame=_s X.env.locals)
    (z:∀t h',Inv X pins σ (upd H a (.ext (FS a C dx (.ref t)))) {s with heap:=h' }->Hd h' (upd H a (.ext (FS a C dx (.ref t)))) a t->X.zQ.heap.objs.size<=t->(∀p∈X.pn++pins,p.1≠t)->Q () {s with heap:=h' }) :
    B4 (C7 X.prog X.w) A' (V0 (.ref a) X.env) (λ_ s'=>B4 (C7 X.prog X.w) A' (d6 (.ref a) _n) Q E s') E s:=by
  obtain⟨φ,ha⟩:=u.ext;exact Rt f I u c d λh' t ch b n fr fl en=>z t h' (LX I ha b n fl) en fr.2.1 fr.2.2
theorem sN{E:_v->A5->Prop}(k:A'.frames=_s X.stack)(i:X.ex=[])(I:Inv X pins σ H s)(u:Up X pins H s a C dx)(f:X.stack=X.env::X.outer)(d:X.env.frame=_s X.env.locals)
    (z:∀t h',Inv X pins σ (upd H a (.ext (FS a C dx (.ref t)))) {s with heap:=h' }->Up X pins (upd H a (.ext (FS a C dx (.ref t)))) {s with heap:=h' } a C dx->E (.ref a) {s with heap:=h' }) :
    notedBy (C7 X.prog X.w) A' X.env (yD (C7 X.prog X.w) A' X.env E) (.ref a) s:=by
  obtain⟨φ,ha⟩:=u.ext;unfold notedBy;refine OI k I u f d λh' t ch p sl b n j fr tr=>?_;show yD _ _ _ _ _ _;unfold yD;obtain⟨o,⟨vs,oT,ts,m,l,v,r,q⟩,ne⟩:=id tr;refine A1 (H9 o m l ?_);rw[if_neg (show ¬((D4 t==K6)=_t)from by simp),d];exact fZ (fl:=_s X.env.locals) n j fr tr λh2 g c en=>z t h2 (LX I ha b g c) (.inr ⟨t,AG,.inr en,fr.2.1,by rw[i];exact(λw=>nomatch w),fr.2.2⟩)
end
theorem leave{P:E8}{w:G7}{K:Frag}{mg:Str->Option _v}{base:G2}{N:List Str}{qual:Str}{scope:M4}{f:A8}{D:_v}{A:G3}{outer:List Env}{s:A5}{H:Hp}{E:XK}{W:WK}(J:qc W)(M:∀(a:Nat) C dx H',W a C dx H'->E (.int (a:Nat) C) (_s dx) H') :
    Wx (Dh (Sx P w) P w K mg base N qual scope f D A outer s H E) W:=λpins σ k s1 a C dx I u L=>by
  obtain⟨φ,ha⟩:=u.ext;show B4 _ _ (leaving _ _) _ _ _;refine A1 (Rt (A':=(Dh (Sx P w) P w K mg base N qual scope f D A outer s H E).A) I.ok.frames I u rfl rfl λh' t ch j n fr fl en=>?_);have z:∀b,k b=_n->b≠a:=λb y x=>by subst x;rw[ha]at y;cases y
  have st:∀c x,k c=_s x->(∀F,x≠.ext F)->upd k a (.ext (FS a C dx (.ref t))) c=_s x:=λc x y nx=>by rw[AC (λw=>by subst w;rw[ha]at y;cases y;exact nx _ rfl)];exact y
  have r:∀b o,s.heap.get? b=_s o->b∉ch:=λb o q y=>absurd (B7 (B8 q) (j b y).1.2.1) (K9 _);have G:∀b o,s.heap.get? b=_s o->b≠s.heap.objs.size:=λb o q=>D6 (B8 q);have B:=I.base;refine⟨a,C,dx,t,_,rfl,I.os,I.bare,⟨λb o q y d _=>?_,λb o q y d _=>?_,λb o q y _=>?_,λb o q _=>?_,λc xs y=>st c _ (B.zAi c xs y) (λ_ w=>nomatch w),λc o v y=>st c _ (B.zAe c o v y) (λ_ w=>nomatch w),λc ps y=>?_⟩,OV I.y8 n I.zAg (λb d=>(j b d).1.1) ha fl,AG,en,fr.2.1,M a C dx _ (J a C dx k φ _ ha L)⟩;have i:=B.keep b o q y d (λw=>nomatch w);have g:=B.free b o q y (λw=>nomatch w);exact n.keep b o i (λw=>(C9.mp (I.zAA b w)).elim (G b o q) d) (z b g) (r b o q);obtain⟨sl,i⟩:=B.slot b o q y d (λw=>nomatch w);have g:=B.free b o q y (λw=>nomatch w);obtain⟨l,p⟩:=n.slot b _ i (z b g) (r b o q);exact⟨l,p⟩;have g:=B.free b o q y (λw=>nomatch w);rw[AC (z b g)];exact g;obtain⟨O,i⟩:=B.there b o q (λw=>nomatch w);by_cases d:b=a;obtain⟨vs,sl,q,_⟩:=fl;rw[d];exact⟨_,q⟩;obtain⟨sl,p⟩:=n.slot b _ i d (r b o q);exact⟨_,p⟩;obtain⟨m,q⟩:=B.zAj c ps y;exact⟨m,st c _ q (λ_ w=>nomatch w)⟩
section
variable{X:Cx}{pins:List (A8×Obj)}{σ:L2.St}{H:Hp}{s:A5}
theorem cj{t':Nat}{m m':Str->Option _v}{σ':L2.St}(I:Inv X pins σ H s)(hn:s.heap.Ns X.env.locals m)(j:h'.Ns X.env.locals m')(a:O6 X.env.locals s.heap h')(F:σ'.length=σ.length)
    (hm:∀(i:Nat)(x:Str)(v:V),X.N[i]?=_s x->σ'[i]?=_s (_s v)->mB X.env.scope x->∃u,RelV v u/\Look X.env s.heap m' x u):Inv X pins σ' H {s with heap:=h',toks:=t' }:=by
  obtain⟨K,_,_,E,_⟩:=id hn;have cne:=I.cne;refine⟨I.ok,I.os,I.bare,⟨λb o e n A f=>?_,λb o e n A f=>?_,I.base.free,λb o e f=>?_,I.base.zAi,I.base.zAe,I.base.zAj⟩,⟨m',j,λi x v g J G=>?_⟩,λy c e=>?_,I.free,I.ze,λp hp=>?_,λb ob e=>?_,F.trans I.len⟩;exact(a.2 b (D6 (B7 (B8 e) I.ok.above))).trans (I.base.keep b o e n A f);obtain⟨sl,g⟩:=I.base.slot b o e n A f;exact⟨sl,(a.2 b (D6 (B7 (B8 e) I.ok.above))).trans g⟩;obtain⟨o',g⟩:=I.base.there b o e f;exact⟨o',(a.2 b (D6 (B7 (B8 e) I.ok.above))).trans g⟩;obtain⟨u,r,l⟩:=hm i x v g J G;refine⟨u,r,?_⟩;rcases l with l|⟨k,c,e,z⟩
  exact .inl l;exact .inr ⟨k,c,e,z.sameBut a (cne x c e)⟩;obtain⟨B,z⟩:=I.cell y c e;exact⟨B,z.sameBut a (cne y c e)⟩;obtain⟨e,n,ne,D,d⟩:=I.pin p hp;exact⟨(a.2 p.1 ne).trans e,n,ne,D,d⟩;refine(I.y8 b ob e).zAv (λc B hc q=>(a.2 c ?_).trans q) (λ_ q=>q) λ_ _ q=>q;rintro rfl;rcases hc with rfl|hc
  rw[I.free]at e;cases e;rw[I.free]at hc;cases hc
theorem Tu{A:G3}{E:_v->A5->Prop}{i:Nat}{n:Str}{pos:Pos}{Q:Unit->A5->Prop}(I:Inv X pins σ H s)(g:X.N.Nodup)(hi:X.N[i]?=_s n)(f:X.env.scope.names.lookup n=_s .local)
    (z:∀s',Inv X pins (σ.set i _n) H s'->Q () s'):B4 (C7 X.prog X.w) A (do vQ X.env n .none;vc X.env n pos) Q E s:=by
  obtain⟨m,hn,hm⟩:=id I.loc;refine wpAny_nameGoes_keeps f hn (by rw[I.ok.kind];rfl) λh' v b d=>z _ (cj I hn b d (by simp) λj x w c a o=>?_);have ne:i≠j:=λy=>by subst y;rw[E7 (by rw[I.len];exact(A7.mp hi).1)]at a;cases a
  rw[D9 ne]at a;obtain⟨u,r,l⟩:=hm j x w c a o;refine⟨u,r,?_⟩;rcases l with⟨k,e⟩|l
  refine .inl ⟨k,?_⟩;have:x≠n:=λy=>ne (JY g hi (y▸c));show(if x=n then v else m x)=_s u;rw[if_neg this];exact e;exact .inr l
end
section
variable{M:xQ}{A:G3}{E:_v->A5->Prop}{s:A5}
variable{nm q nm' q':Str}{C N D N':A8}{bs bm bs' bm':List _v}{hdct zDp:Bool}{sn sn':List Str}{sub zDS:List _v}{ab ab':Bool}{col zDv:Option Bool}{dd dd':Option A8}{k0 k1 k2 k3 k5 j0 j1 j2 j3 j5:Option _v}
theorem aK{e:A8}{oe:Obj}{Q:Bool->A5->Prop}(i:s.heap.get? C=_s (Y8 nm q C N bs bm hdct sn sub ab col dd k0 k1 k2 k3 k5 KI))(a:s.heap.get? D=_s (Y8 nm' q' D N' bs' bm' zDp sn' zDS ab' zDv dd' j0 j1 j2 j3 j5 KI))
    (T:Abv bm') (c:s.heap.get? e=_s oe) (hc:oe.cls=.ref C) (z:Q ((D4 C::bm).contains (.ref D)) s):B4 M A (excMatches (.ref e) (.ref D)) Q E s:=by
  have j:=lh (C:=D) T.b;have f:=tc_notTuple;obtain⟨h,g,d,t,os⟩:=s;unfold excMatches
  repeat (first
    |(with_reducible refine M8 c ?_;rw[hc])
    |with_reducible refine M8 a ?_
    |(with_reducible refine R4 a ?_;rw[j])
    |with_reducible refine R4 i ?_
    |wp_step)
  cases hb:(D4 C::bm).contains (.ref D)<;>(rw[hb]at z;wp_walk;exact z)
end
noncomputable abbrev cm(X:Cx)(a:A8):Cx:={X with A:=X.A.mark (_s (.ref a)),calm:=_f,xe:=λ_ _=>False}
section
variable{X:Cx}{pins:List (A8×Obj)}{σ:L2.St}{H:Hp}{s:A5}{a:A8}
theorem rX(ok:X.Ok):(cm X a).Ok:=
 ⟨ok.mod,ok.kind,ok.glob,ok.blt,ok.above,ok.inj,ok.has,ok.cab,λz=>(nomatch z),ok.frames,ok.stk,ok.exf,ok.bs,ok.bsz,ok.zBc,ok.zBy,ok.zAT,ok.frf⟩
theorem fU(I:Inv X pins σ H s):Inv (cm X a) pins σ H s:=⟨rX I.ok,I.os,I.bare,I.base,I.loc,I.cell,I.free,I.ze,I.pin,I.y8,I.len⟩
theorem pB(I:Inv (cm X a) pins σ H s)(ok:X.Ok):Inv X pins σ H s:=⟨ok,I.os,I.bare,I.base,I.loc,I.cell,I.free,I.ze,I.pin,I.y8,I.len⟩
theorem Pl{A:G3}{E:_v->A5->Prop}{dx:A8}{Q:Unit->A5->Prop}(I:Inv X pins σ H s)(ha:H a=_s (.ext (FS a C dx (.ref t))))(en:Hd s.heap H a t)(l:X.zQ.heap.objs.size<=t)(hp:∀p∈X.pn++pins,p.1≠t)
    (z:∀s',Inv X pins σ H s'->Q () s'):B4 (C7 X.prog X.w) A (d6 (.ref a) _n) Q E s:=by
  obtain⟨⟨vs,sl,n,h1⟩,_,_⟩:=I.y8 a _ ha;obtain⟨⟨oT,ts,i,d,k⟩,ne,fr⟩:=en;unfold d6;refine A1 (H9 n rfl h1 ?_);rw[if_pos (show(D4 t != K6)=_t from by simp)];refine V7 i d (N9.mp k).1 (z _ ?_);refine I.turned (it:=t) (t':=s.toks) (λb o q e=>(F8 _ _ (Ne.symm q)).trans e) fr (λy=>?_) (.inr l) (λx c e y=>?_) hp;obtain⟨m,⟨r,es,u,g,j,_⟩,_⟩:=I.loc;rw[<- y,i]at g;cases g;rw[j]at d;cases d;obtain⟨v,oc,f,hd⟩:=I.cell x c e;rw[y,i]at f;cases f;rw[hd]at d;cases d
structure XD (K:Frag) (D:A8):Prop where
 hd:∃hd,XLk K D hd
noncomputable def below(K:Frag)(C D:A8):Bool:=match clsIn K C with
 |some b=>b.mro.contains (.ref D)
 |none=>_f
theorem UR{C dx t D:A8}{dn n:Str}{i:Nat}{np hpos:Pos}{b:G5}{c:List G5}{rest:List ExceptHandler}{E:_v->A5->Prop}{Q:Flow->A5->Prop}{f:Str}{tS:TS}{De:Ends}
    (I:Inv X pins σ H s) (ha:H a=_s (.ext (FS a C dx (.ref t)))) (en:Hd s.heap H a t) (L:X.zQ.heap.objs.size<=t) (hp:∀p∈X.pn++pins,p.1≠t)
    (Y:XCl X.K C f) (W:XD X.K D) (l:below X.K C D=_t) (R:Gl X dn) (hm:X.mg dn=_s (.ref D)) (k:(dn==("__debug__" : Str))=_f)
    (U:X.N.Nodup) (hi:X.N[i]?=_s n) (m:X.env.scope.names.lookup n=_s .local)
    (T:Cu (cm X a) (b::c) tS) (M:tS De (σ.set i (_s (.ref a))) H)
    (z:∀fl g,SP (cm X a) pins De fl g->B4 (C7 X.prog X.w) X.A (do vQ X.env n .none;vc X.env n hpos) (λ_ x=>Q fl x) E g) :
    B4 (C7 X.prog X.w) X.A (handleBy (.ref a) X.env (.ExceptHandler (_s (.Name dn np)) (_s n) (b::c) hpos::rest)) Q E s:=by
  refine wpAny_handleBy_cons (codeAny_handlers_test ?_) (by intro q;cases q);refine DB (X:=cm X a) (fU I) R hm ?_ k;obtain⟨nm,q,N,bs,bm,sn,sub,ab,col,dd,k0,k1,k2,k3,k5,d,oC⟩:=Y.lk;obtain⟨S,J,q',N',Z,bm',u,r,ab',o,V,j0,j1,j2,j3,j5,j,G⟩:=W.hd;obtain⟨⟨vs,sl,O,h1⟩,_,_⟩:=I.y8 a _ ha;refine aK (I.zx _ _ d) (I.zx _ _ j) (MZ G) O rfl ?_;have hc:(D4 C::bm).contains (.ref D)=true:=by unfold below clsIn at l;rw[d]at l;exact l
  rw[hc];refine codeAny_handlers_suite_as ?_;refine Pl (X:=cm X a) (fU I) ha en L hp λs2 I2=>?_;refine DU (X:=cm X a) I2 U hi (.inl m) (v:=.ref a) rfl (λB I3=>?_) (.inr m);exact J4 (T pins B _ H De I3 M) (λfl g F=>z fl g F) λ_ _ y=>D2 y
end
end XC
namespace R
open PySem L2 XC
structure Ex where
 c:Str
 f:Str
 d:Dv
def WR(K:W.Frag)(g:G)(P:Fp)(b:Hp)(r:Ex):WK:=λa C dx H=>C=As K r.c/\b a=_n/\dx≠a/\∃g' v,Step g P b g' yv H/\¬g'.Z a/\H dx=_s (.xd [(r.f,v)])/\Rep K g' H 0 r.d v yv
variable{H:Hp}
section
variable{K:W.Frag}{g g1:G}{P P1:Fp}{H0 H1:Hp}{r:Ex}
theorem Na{a:A8}{φ φ':G2->Prop}(h:H a=_s (.ext φ)):Step g (·=a) H g yv (upd H a (.ext φ')):=
 ⟨λb o q n=>by rw[AC n];exact q,λb q=>by
  by_cases e:b=a;subst e;rw[AG]at q;cases q;rw[AC e]at q;exact q,λ_ z=>z,λ_ z=>.inl z,⟨[],by simp⟩,λ_ z=>z.elim,λzd b z q=>by
  by_cases e:b=a;subst e;rw[AG]at q;cases q;rw[AC e]at q;exact zd b z q,IF h (λ_ _ _ z=>nomatch z)⟩
theorem WR.stb:qc (WR K g P H0 r):=λa C dx H φ φ' h ⟨e,n,ne,g',v,st,z,hd,c⟩=>by
 refine⟨e,n,ne,g',v,?_,z,by rw[AC ne];exact hd,?_⟩;have s2:Step g' (·=a) H g' yv (upd H a (.ext φ')):=Na h;refine⟨λb o q np=>?_,λb q=>st.dom b (s2.dom b q),st.zm,st.zn,st.mu,λb q=>q.elim,λzd=>s2.zd (st.zd zd),λb C dx fs q=>?_⟩;have:b≠a:=λy=>by subst y;rw[n]at q;cases q
 rw[AC this];exact st.keep b o q np;obtain⟨fs',f,d⟩:=st.ins b C dx fs q;have:b≠a:=λy=>by subst y;rw[n]at q;cases q
 exact⟨fs',by rw[AC this];exact f,d⟩;refine c.held (Na (φ':=φ') h) (λb q=>?_) (λ_ y=>y.elim);rw[show b=a from q,h];exact⟨True.intro,z⟩
theorem WR.later{a C dx:A8}(s:Step g P H0 g1 P1 H1)(w:WR K g1 P1 H1 r a C dx H):WR K g P H0 r a C dx H:=
 let ⟨e,n,ne,g',v,st,z,hd,rp⟩:=w
 ⟨e,s.dom a n,ne,g',v,s.trans st,z,hd,rp⟩
end
abbrev TX:=WK->St->Hp->Prop
inductive tX (K:W.Frag) (Γ:Gm) (x:M->Option Ex) (Wk:WK) (σ:St) (H:Hp):Prop
 |mk (g:G) (m:M) (P:Fp) (a:Rel K g H Γ m σ P) (r:Ex) (b:x m=_s r) (c:∀a C dx H',WR K g P H r a C dx H'->Wk a C dx H')
def qr(X:Cx)(pins:List (A8×Obj))(σ:St)(Wk:WK):Prop:=∀(H:Hp)(s:A5)(a C dx:A8),Inv X pins σ H s->Up X pins H s a C dx->Wk a C dx H->X.xe (.ref a) s
def NN(X:Cx)(e:Expr)(t:TX):Prop:=∀(pins:List (A8×Obj))(s:A5)(σ:St)(H:Hp)(Wk:WK)(Q:_v->A5->Prop),Inv X pins σ H s->t Wk σ H->qr X pins σ Wk->B4 (C7 X.prog X.w) X.A (L8 e X.env) Q X.xe s
def qd(X:Cx)(e:Expr)(t:TX):Prop:=∀(pins:List (A8×Obj))(s:A5)(σ:St)(H:Hp)(Wk:WK)(Q:Bool->A5->Prop),Inv X pins σ H s->t Wk σ H->qr X pins σ Wk->B4 (C7 X.prog X.w) X.A (yQ e X.env (L8 e X.env)) Q X.xe s
def VJ(X:Cx)(e:G5)(t:TX):Prop:=∀(pins:List (A8×Obj))(s:A5)(σ:St)(H:Hp)(Wk:WK)(Q:Flow->A5->Prop),Inv X pins σ H s->t Wk σ H->qr X pins σ Wk->B4 (C7 X.prog X.w) X.A (exec e X.env) Q X.xe s
def MA(X:Cx)(e:G5)(t:TX):Prop:=∀(pins:List (A8×Obj))(s:A5)(σ:St)(H:Hp)(Wk:WK)(Q:Flow->A5->Prop),Inv X pins σ H s->t Wk σ H->Wx X Wk->B4 (C7 X.prog X.w) X.A (exec e X.env) Q X.xe s
def Fv(X:Cx)(e:List G5)(t:TX):Prop:=∀(pins:List (A8×Obj))(s:A5)(σ:St)(H:Hp)(Wk:WK)(Q:Flow->A5->Prop),Inv X pins σ H s->t Wk σ H->Wx X Wk->B4 (C7 X.prog X.w) X.A (execs e X.env) Q X.xe s
section
variable{X:Cx}{Γ zC:Gm}{js js2:List Nat}{e c:Expr}{es:List Expr}{st:G5}{a b rest:List G5}{pos p cp:Pos}{x x2 xa xb:M->Option Ex}
theorem VJ.s{t:TX}(h:VJ X st t):MA X st t:=λpins s σ H Wk Q I q w=>h pins s σ H Wk Q I q λH' s' a C dx J u z=>w pins σ H' s' a C dx J u z
theorem oB(h:qd X c (tX X.K Γ x)):VJ X (.If c a b pos) (tX X.K Γ x):=λpins s σ H Wk Q I q w=>wpAny_If (h pins s σ H Wk _ I q w)
theorem ia{op:o5}{y:Expr}(h:NN X e (tX X.K Γ x)):qd X (.Compare e [op] [y] pos) (tX X.K Γ x):=λpins s σ H Wk Q I q w=>A1 (h pins s σ H Wk _ I q w)
theorem iY{t:Ev Bool}(hc:PT X c (tT X.K Γ zC js t))(ha:Fv X a (tX X.K zC xa))(o:Fv X b (tX X.K zC xb)):MA X (.If c a b pos) (tX X.K Γ λm=>t Ex m λb h=>if b=_t then xa h else xb h):=by
 intro pins s σ H Wk Q I ⟨g,m,P,r,res,e,q⟩ w;refine wpAny_If (Ai (hc pins s σ H (λb f=>if b=_t then tX X.K zC xa Wk σ f else tX X.K zC xb Wk σ f) I ⟨g,m,P,r,Ex,_,res,e,λb h l P1 f j u st k=>?_⟩) λd s1 ⟨f,n,i⟩=>?_);cases b with|true=>rw[if_pos rfl]at j ⊢;exact⟨l,h,P1,k,res,j,λa C dx H' z=>q a C dx H' (z.later st)⟩|false=>rw[if_neg D1]at j ⊢;exact⟨l,h,P1,k,res,j,λa C dx H' z=>q a C dx H' (z.later st)⟩
 cases d with|true=>exact ha pins s1 σ f Wk Q n (by rw[if_pos rfl]at i;exact i) w|false=>exact o pins s1 σ f Wk Q n (by rw[if_neg D1]at i;exact i) w
theorem Ri:Fv X a (tX X.K Γ λ_=>_n):=λ_ _ _ _ _ _ _ ⟨_,_,_,_,_,e,_⟩=>by cases e
theorem Nz:MA X st (tX X.K Γ λ_=>_n):=λ_ _ _ _ _ _ _ ⟨_,_,_,_,_,e,_⟩=>by cases e
noncomputable def kX(x:M->Option Ex):Kt Ex:=⟨x,λ_ _=>_n,λ_=>_n,λ_=>_n⟩
theorem bH{F:Fr}{f:Es}(h0:MA X st (tX X.K Γ x))(h1:PS X st (tS X.K F _n Γ (_s zC) js f))(h2:Fv X rest (tX X.K zC x2)):Fv X (st::rest) (tX X.K Γ λm=>(x m).or (f Ex m (kX x2))):=by
 intro pins s σ H Wk Q I ⟨g,m,P,r,res,e,q⟩ w;replace e:(x m).or (f Ex m (kX x2))=_s res:=e;cases q0:x m with
 |some t=>rw[q0]at e;cases e;exact T8 (h0 pins s σ H Wk _ I ⟨g,m,P,r,res,q0,q⟩ w)
 |none=>
  rw[q0]at e;refine T8 (Ai (h1 pins s σ H ⟨λσ' H'=>tX X.K zC x2 Wk σ' H',λ_ _=>False,λ_ _=>False,λ_ _=>False⟩ I ⟨g,m,P,r,Ex,kX x2,res,e,⟨λΓ' m' g' P' σ' H' j i y h v l=>?_,(λ_ _ _ _ _ _ _ _ i=>by cases i),(λ_ _ _ _ _ _ z=>by cases z),λ_ _ _ _ _ _ z=>by cases z⟩⟩) λfl s1 d=>?_);cases j;exact⟨g',m',P',l,res,i,λa C dx k z=>q a C dx k (z.later h)⟩;cases fl with|next=>obtain⟨σ',H',o,n⟩:=d;exact h2 pins s1 σ' H' Wk Q o n w|brk=>obtain⟨_,_,_,z⟩:=d;exact z.elim|cont=>obtain⟨_,_,_,z⟩:=d;exact z.elim|ret u=>obtain⟨_,_,_,_,_,z⟩:=d;exact z.elim
theorem Rj(h0:MA X st (tX X.K Γ x)):Fv X (st::rest) (tX X.K Γ x):=λpins s σ H Wk Q I q w=>T8 (h0 pins s σ H Wk _ I q w)
end
variable{pins:List (A8×Obj)}{s:A5}{Wk:WK}
section
variable{X:Cx}{Γ zC:Gm}{js:List Nat}{e:Expr}{es:List Expr}{pos p cp:Pos}{c f x:Str}{as:List Ar}{k:Nat}{fI:A8}{fd:N1}{ps:List Str}
theorem WT(hc:X.calm=_t)(M:XMk X.K (As X.K c) f fI)(F:zI X.prog X.w X.K X.mg X.base Gq k fI fd ps (Iv (As X.K c) f))(hp:ps.length=2)(R:y9 (k+1) X.A)(T:Gl X c)(hm:X.mg c=_s (.ref (As X.K c)))(V:L2.Binds X.K fd ps [])
    (ha:PA X [e] (BO X.K as)) (ch:AD Γ as zC js) (ev:PJ as=_t) (B:(c==("__debug__" : Str))=_f) (U:D7 [e] X.env=(_f,L8 e X.env)::D7 [] X.env) :
    VJ X (.Raise (_s (.Call (.Name c p) [e] [] cp)) _n pos) (tX X.K Γ λm=>AQ as Ex m λds _=>match ds with|[d]=>_s ⟨c,f,d⟩|_=>_n):=by
  intro pins s σ H Wk Q I ⟨g,m,P,r,res,Y,q⟩ w;obtain⟨nm,L,N,bs,bm,sn,sub,ab,col,dd,k0,k1,k2,k3,k5,lk,O⟩:=M.cl.lk;rw[arm_exec_Raise];refine A1 (T1 (aJ (C:=As X.K c) (nm:=nm) (q:=L) (N:=N) (bs:=bs) (bm:=bm) (hdct:=_t) (sn:=sn) (sub:=sub) (ab:=ab) (col:=col) (dd:=dd) (k0:=k0) (k1:=k1) (k2:=k2) (k3:=k3) (k5:=k5) (MZ O) (I.ok.hd hc) ?_));refine A1 (J4 (jF M F hp R T hm V ha B U pins s σ H (λv t=>∃a dx,v=.ref a/\t a=_s (.ext (FS a (As X.K c) dx .none))/\Wk a (As X.K c) dx t) I ?_) (λv G h3=>A1 (T1 (A6 ?_))) λ_ _ y=>y);unfold mV;refine AM as r ch Y λds m' g' P' vs l h ag s' Z J=>?_;have n:=Z.zBE ev
  match ds,h,n with
  |[d],h,n=>
    cases h;unfold AA at n;obtain⟨v,vr,P1,P2,rfl,h1,h2,_,_⟩:=n;unfold AA at h2;obtain⟨rfl,_⟩:=h2;refine⟨v,rfl,λa dx i nd ne=>⟨a,dx,rfl,AG,q _ _ _ _ ⟨rfl,s'.dom a i,ne,g',v,?_,λz=>J.zd a z i,by rw[AC ne,AG],?_⟩⟩⟩;have u:ID l (upd (upd (upd l a (.ext (gL a (As X.K c)))) dx (.xd [(f,v)])) a (.ext (FS a (As X.K c) dx .none))):=λb o z=>by rw[AC (AY z i),AC (AY z nd),AC (AY z i)];exact z
    exact(s'.trans (Step.same u)).less λ_ z=>z.elim;have u:ID l (upd (upd (upd l a (.ext (gL a (As X.K c)))) dx (.xd [(f,v)])) a (.ext (FS a (As X.K c) dx .none))):=λb o z=>by rw[AC (AY z i),AC (AY z nd),AC (AY z i)];exact z
    have D:Rep X.K g' l 0 d v yv:=by have z:P1=yv:=DA h1.zS;rw[<- z];exact h1
    exact D.held (Step.same (P:=yv) u) zA.yv λ_ y=>y.elim
  |[],h,_=>cases h
  |_::_::_,h,_=>cases h
  obtain⟨v1,t,E,rv,a,dx,rfl,j,W⟩:=h3;obtain rfl:v=.ref a:=rv;obtain⟨⟨vs,sl,S,h1⟩,_,_⟩:=E.y8 a _ j;exact⟨a,_,vs,sl,rfl,E.zx _ _ lk,S,h1,w t G a _ dx E (.inl j) W⟩
theorem mP{σ:St}{s':A5}{v:_v}(m:X.ex=[])(I:Inv X pins σ H s)(h:Sx X.prog X.w X.stack H s (Ew Wk) v s'):∃a C dx H',v=.ref a/\Inv X pins σ H' s'/\Up X pins H' s' a C dx/\Wk a C dx H':=by obtain⟨a,C,dx,t,H',B,A,y,u,r,q,o,i,n⟩:=h;obtain⟨l,g,d,j,os⟩:=s';obtain rfl:os=s.os:=A;refine⟨a,C,dx,H',B,I.call (h':=l) (g':=g) (d':=d) (t':=j) (ch:=[]) u r y (λb z=>nomatch z),.inr ⟨t,q,.inl o,D0 I.sz i,λz=>?_,λp hp z=>?_⟩,n⟩;rw[m]at z;cases z;have:=B8 (I.pin p hp).1;rw[z]at this;exact absurd (B7 this i) (K9 _)
end
variable{pos:Pos}
section
variable{Y:Cx}{C:A8}{f c n y:Str}{i j:Nat}
def mU(C:A8)(f:Str)(i:Nat):TE:=λσ H Q=>∃a dx T v,σ[i]?=_s (_s (.ref a))/\H a=_s (.ext (FS a C dx T))/\H dx=_s (.xd [(f,v)])/\Q v H
theorem bc{o:Expr}(cl:XCl Y.K C f)(p:PE Y o (Cb i))(r:N0 o f Y.env (L8 o Y.env)=L8 o Y.env):PE Y (.Attribute o f pos) (mU C f i):=λpins s σ H Q I ⟨a,dx,T,v,h1,h2,h3,q⟩=>by
 refine Sn r (Ai (p pins s σ H (λy d=>y=.ref a/\d=H) I ⟨.ref a,h1,rfl,rfl⟩) λu s1 ⟨y,d,b,g,t,w⟩=>?_);subst t w;obtain rfl:u=D4 a:=g;obtain⟨⟨vs,sl,k,_⟩,_,_⟩:=b.y8 a _ h2;obtain⟨mA,ns,h⟩:=b.y8 dx _ h3;have l:([(f,v)]:List (Str×V)).lookup f=_s v:=by simp only[F7,beq_self_eq_true]
 obtain⟨u,m,e⟩:=Gh.some_of (v:=v) (o:=mA f) (by rw[<- l];exact h f);exact mI b.zx cl k rfl ns m (LZ e) ⟨v,d,b.tok _,e,q⟩
end
variable{Γ:Gm}
theorem bA{K:W.Frag}{g:G}{m:M}{σ:St}{P:Fp}(c:∀(i o:Nat),Γ[i]?=_s (_s o)->o=0)(r:Rel K g H Γ m σ P):∀a,¬P a:=λa z=>by obtain⟨_,F,h1,h4⟩:=r;obtain⟨i,q⟩:=(h4 a).mp z;by_cases e:∃o,Γ[i]?=_s (_s o);obtain⟨o,e⟩:=e;obtain⟨d,v,_,_,b⟩:=h1.rep i o e;rw[c i o e]at b;exact b.zS a q;exact h1.out i (λo y=>e ⟨o,y⟩) a q
variable{st:G5}{es:List Expr}
section
variable{X:Cx}
theorem PS.zCD{t:TS}(h:PS X.zo st t):PS X st t:=λpins s σ H D I hw =>
 J4 (h pins s σ H D (I.zE _) hw) (λ_ _ q=>q.zG) λ_ _ z=>D2 z
theorem PA.zCD{t:TA}(h:PA X.zo es t):PA X es t:=λpos pins s σ H Q I hw =>
 J4 (h pos pins s σ H Q (I.zE _) hw) (λ_ _ ⟨v,H',a,r,q⟩=>⟨v,H',a.zG,r,q⟩) λ_ _ z=>D2 z
end
noncomputable abbrev Xs:=List (Str×Str)
def gU(f c:Str)(as:List Ar)(m:M):Option Ex:=AQ as Ex m λds _=>match ds with|[d]=>_s ⟨c,f,d⟩|_=>_n
theorem ns.{u}{α:Type u}{x:α}{P:Prop}(h:(_n:Option α)=_s x):P:=by cases h
noncomputable def gd.{u}{α:Type u}(b:Bool)(o:Option α):Option α:=bif b then o else _n
theorem zT.{u}{α:Type u}{b:Bool}{o:Option α}{x:α}(h:gd b o=_s x):b=_t/\o=_s x:=by
 cases b with|false=>exact ns h|true=>exact⟨rfl,h⟩
noncomputable def x1{b:Type}:List b->Option b
 |[a]=>_s a
 |_=>_n
theorem NR{c:Type}{l:List c}{a:c}(h:x1 l=_s a):l=[a]:=by
 cases l with
 |nil=>exact ns h
 |cons b t=>
  cases t with|nil=>rw[C3 h]|cons _ _=>exact ns h
noncomputable def rF:Expr->Option Str
 |.Name x _=>_s x
 |_=>_n
variable{e:Expr}{x:Str}
theorem VS(h:rF e=_s x):∃p,e=.Name x p:=by
 cases e with|Name y p=>exact⟨p,by rw[C3 h]⟩|_=>exact ns h
def tB:Expr->Option (Str×List Expr)
 |.Call f es ks _=>gd ks.isEmpty ((rF f).bind λx=>_s (x,es))
 |_=>_n
theorem gZ(h:tB e=_s (x,es)):∃p pos,e=.Call (.Name x p) es [] pos:=by
 cases e with|Call f fs ks pos=>obtain⟨h1,h2⟩:=zT h;refine yt h2 λy h3 h4=>?_;obtain⟨p,rfl⟩:=VS h3;cases U3.mp h1;cases h4;exact⟨p,pos,rfl⟩|_=>exact ns h
noncomputable def MD(o:Option (M->Option Ex)):M->Option Ex:=o.getD λ_=>_n
variable{X:Cx}
theorem Ho{o:Option (M->Option Ex)}(h:∀x,o=_s x->MA X st (tX X.K Γ x)):MA X st (tX X.K Γ (MD o)):=by
 cases o with|none=>exact Nz|some x=>exact h x rfl
def sr(r:Rec)(C:Cf)(cx:Xs)(Γ:Gm)(o k:Option Expr):Option (M->Option Ex):=gd k.isNone (o.bind λa=>(tB a).bind λp=>(x1 p.2).bind λe=>(cx.lookup p.1).bind λf=>gd (Kd C.sc p.1&&OG p.1&&noStar e) ((r.A C Γ [] [e]).bind λb=>_s (gU f p.1 b.as)))
def sv(r:Rec)(C:Cf)(go:Gm->List G5->M->Option Ex)(Γ:Gm)(t:Expr)(a b:List G5):Option (M->Option Ex):=(r.T C Γ t).bind λct=>_s λm=>ct.f Ex m λb1 c=>if b1=_t then go ct.Γ a c else go ct.Γ b c
def uA(X:Cx)(c f:Str):Prop:=∃fI fd ps k,XMk X.K (As X.K c) f fI/\zI X.prog X.w X.K X.mg X.base Gq k fI fd ps (Iv (As X.K c) f)/\ps.length=2/\y9 (k+1) X.A/\X.mg c=_s (.ref (As X.K c))/\L2.Binds X.K fd ps []
theorem Fj{a:Type}{l:List (Str×a)}{c:Str}{v:a}(h:l.lookup c=_s v):(c,v)∈l:=G1 h
section
variable{X:Cx}{r:Rec}{C:Cf}{cx:Xs}
theorem Xp(ok:zB C X.zo)(h:Kd C.sc x=_t):Gl X x:=Ck (X:=X.zo) ok h
theorem gT(t:zJ r)(ok:zB C X.zo)(hc:X.calm=_t)(b:∀c f,(c,f)∈cx->uA X c f)(Γ:Gm){o k:Option Expr}:MA X (.Raise o k pos) (tX X.K Γ (MD (sr r C cx Γ o k))):=by refine Ho λx h=>?_;obtain⟨i,h⟩:=zT h;refine yt h λu g h=>?_;refine yt h λa h1 h=>?_;obtain⟨c,es⟩:=a;refine yt h λe h2 h=>?_;refine yt h λf j h=>?_;obtain⟨h4,h⟩:=zT h;refine yt h λw ha h=>?_;cases h;cases g;obtain⟨p,v,rfl⟩:=gZ h1;cases NR h2;cases r8.mp i;simp only[A2]at h4;obtain⟨q,n,z,y,m⟩:=t.A ok ha;obtain⟨fI,fd,ps,k,M,F,hp,d,hm,l⟩:=b c f (Fj j);exact(WT hc M F hp d (Xp ok h4.1.1) hm l (PA.zCD q) n (m rfl) (Bm h4.1.2).1 (AJ h4.2)).s
theorem gW(f:zJ r)(ok:zB C X.zo){go:Gm->List G5->M->Option Ex}(c:∀Γ ss,Fv X ss (tX X.K Γ (go Γ ss)))(Γ:Gm){t:Expr}{a b:List G5}:MA X (.If t a b pos) (tX X.K Γ (MD (sv r C go Γ t a b))):=by refine Ho λx h=>?_;refine yt h λct d h=>?_;cases h;exact iY (PT.zo (f.T ok d)) (c ct.Γ a) (c ct.Γ b)
end
variable{tg:Expr}{body:List G5}
section
variable{X:Cx}
theorem PI.zo{t:TI}(h:PI X.zo tg e t):PI X tg e t:=λpins s σ H Q I hw =>
 J4 (h pins s σ H Q (I.zE _) hw) (λ_ _ q=>J4 q (λ_ _ ⟨it,fp,tn,J,H',e,d,T,c,b,a⟩=>⟨it,fp,tn,J,H',e,d.zG,T,c,b,a⟩) λ_ _ z=>D2 z) λ_ _ z=>D2 z
theorem PG.zo{t:TG}(h:PG X.zo e t):PG X e t:=λpins s σ H v u Q I r hw =>
 J4 (h pins s σ H v u Q (I.zE _) r hw) (λ_ _ ⟨σ',H',a,q⟩=>⟨σ',H',a.zG,q⟩) λ_ _ z=>D2 z
def VG(X:Cx)(Wk:WK):_v->A5->Prop:=λv s=>∃pins σ H a C dx,v=.ref a/\Inv X pins σ H s/\Up X pins H s a C dx/\Wk a C dx H
theorem VG.own(f:X.ex=[])(b:X.stack=X.env::X.outer)(hf:X.env.frame=_s X.env.locals)(d:qc Wk):b9 (C7 X.prog X.w) X.A X.env (VG X Wk):=λe s' ⟨pins,σ,H,a,C,dx,g,I,u,w⟩=>by subst g;obtain⟨φ,ha⟩:=u.ext;exact sN I.ok.frames f I u b hf λt h' h c=>⟨pins,σ,_,a,C,dx,rfl,h,c,d a C dx H φ _ ha w⟩
def tOr(t:TS)(x:St->Hp->Prop):TS:=λD σ H=>t D σ H\/x σ H
theorem mO{E:_v->A5->Prop}(h:∀v s,VG X Wk v s->E v s):Wx (X.zE E) Wk:=λpins σ H s a C dx I u b=>h _ _ ⟨pins,σ,H,a,C,dx,rfl,I.zG,u,b⟩
theorem Sl{t:TS}{tx:TX}(b:Cu X.zo body t)(a:∀E,Fv (X.zE E) body tx):Cu (X.zE (VG X Wk)) body (tOr t (tx Wk)):=λpins s σ H D I q=>by
 rcases q with q|q
 exact(Cu.zo (X:=X.zE (VG X Wk)) b) pins s σ H D I q;exact a (VG X Wk) pins s σ H Wk _ I q (mO λ_ _ z=>z)
end
noncomputable def GV{τ:Type}(g:Dv->τ->Option τ)(a:Dv->τ->Option Ex):List Dv->τ->Option Ex
 |[],_=>_n
 |d::ds,t=>(a d t).or ((g d t).bind (GV g a ds))
def mL(a:Ev (List Dv))(f:Tg)(J:List Nat)(b:Es)(g:M->Option Ex)(m:M):Option Ex:=a Ex m λds c =>
 GV (λd t=>f (DR J) d (AR J c t) λh=>b (DR J) h (kC J)) (λd t=>f Ex d (AR J c t) g) ds (Ac J c)
theorem YF{K:W.Frag}{F:Fr}{y:Gm}{L:Option Gm}{E A:List Nat}{g:TG}{u:Tg}{b:Es}{J:List Nat}(ht:NJ K Γ y E g u)(hw:IM (_s Γ) L=_t)(hJ:J=BN Γ (E++A)){ds:List Dv}{c:M}{D:Ends}{σ:St}{r:Hp}{n:G}{P1:Fp}{I:It}{O:M->Option Ex}{res:Ex}{Wk:WK}
    (r1:Rel K n r Γ c σ P1) (yl:Yl K I ds n r) (h0:GV (λd t=>u (DR J) d (AR J c t) λf=>b (DR J) f (kC J)) (λd t=>u Ex d (AR J c t) O) ds (Ac J c)=_s res) (q:∀a C dx H',WR K n P1 r res a C dx H'->Wk a C dx H') :
    ∃W:Nat->Nat->St->Hp->Prop,(∃m,W 0 m σ r)/\∀i m σ H,W i m σ H ->
      (I.stop i H/\D.nx σ H)\/(I.go i H/\∃N:St->Hp->Prop,(∀σ' H',N σ' H'->∃m',m' < m/\W (i+1) m' σ' H')/\∀x H',I.yld i H x H'->g x σ H' λQ V=>tOr (tS K F (_s Γ) y L A b) (tX K y O Wk) {D with nx:=N,ct:=N,bk:=D.nx} Q V):=by
  have sub:∀i∈J,i∈E++A:=λi h=>Az (hJ▸h);refine⟨λi j σ' H'=>j=ds.length-i/\i<=ds.length/\∃l t P2,Step n P1 r l P2 H'/\Rel K l H' Γ (AR J c t) σ' P2/\GV (λd t=>u (DR J) d (AR J c t) λf=>b (DR J) f (kC J)) (λd t=>u Ex d (AR J c t) O) (ds.drop i) t=_s res,⟨ds.length,by simp,G8 _,n,Ac J c,P1,Step.refl,Jp r1,by simpa using h0⟩,?_⟩;rintro i j Q V ⟨rfl,hi,l,t,P2,s2,r2,w⟩;have st:IC n r l V:=⟨P1,P2,s2,r1.y6⟩;by_cases Z:i < ds.length;rw[S1 Z]at w;unfold GV at w;obtain⟨go,yy⟩:=(yl l V st).1 i ds[i] (A3 Z);refine .inr ⟨go,λσ' H'=>∃S U m',Step n P1 r S U H'/\Rel K S H' Γ m' σ' U/\BU (E++A) c m'/\GV (λd t=>u (DR J) d (AR J c t) λf=>b (DR J) f (kC J)) (λd t=>u Ex d (AR J c t) O) (ds.drop (i+1)) (Ac J m')=_s res,?_,λx P hy=>?_⟩;rintro σ' H' ⟨S,U,m',s5,r5,T,hr⟩;exact⟨ds.length-(i+1),by omega,rfl,Z,S,Ac J m',U,s5,r5.join T λi o h=>hJ▸BL h,hr⟩;obtain⟨Pv,s3,h3,r3,n3⟩:=Ap.go s2 r2 (yy x P hy);cases e4:u Ex ds[i] (AR J c t) O with
  |some r0=>rw[e4,Q3]at w;cases w;refine ht l _ P2 ds[i] x Q P Ex _ res _ r3 h3.z e4 λf P' σ' k T sp ip r'=>.inr ?_;have R:Step n P1 r l P' P:=s3.less λa z=>.inl (sp a z);exact⟨l,f,P',r',res,k,λa C dx H' z=>q a C dx H' (z.later R)⟩
  |none=>
    rw[e4,K8]at w;refine yt w λt1 e5 e6=>?_;refine ht l _ P2 ds[i] x Q P (DR J) _ t1 _ r3 h3.z e5 λf P' σ' k T sp ip r'=>.inl ?_;have R:Step n P1 r l P' P:=s3.less λa z=>.inl (sp a z);have a4:BU (E++A) c f:=((AU J c t).mono sub).trans T |>.mono λi z=>(E6.mp z).elim id λz=>C0 _ z
    have a5:∀{m'},BU A f m'->BU (E++A) c m':=λh=>(a4.trans h).mono λi z=>(E6.mp z).elim id λz=>B5 _ z;refine⟨l,f,P',r',DR J,kC J,t1,k,⟨λΓ' m' g' p Y H' e k B s' i' rr=>?_,(λd m' g' p Pv Y v H' k=>by cases k),(λΓ' m' g' p Y H' e k=>by cases k),λΓ' m' g' p Y H' e k B s' i' rr=>?_⟩⟩;subst e;cases k;obtain⟨g6,P6,s6,r6⟩:=rr.weaken (by unfold IM at hw;exact hw);exact⟨g6,P6,m',(R.trans s').trans s6,r6,a5 B,e6⟩;cases e;cases k;exact⟨g',p,m',R.trans s',rr,a5 B,e6⟩
  have ei:i=ds.length:=by omega
  subst ei;rw[uw]at w;cases w
section
variable{X:Cx}{F:Fr}{zBB:Option Gm}{Γ zL zC Γt Γc:Gm}{Γo:Option Gm}{js jt jb J Jr:List Nat}{tg iter c:Expr}{body:List G5}{src:Ev (List Dv)}{g:TG}{ft:Tg}{b:Es}{t:Ev Bool}{pos:Pos}{xb:M->Option Ex}
theorem eg{f:Flow}{Q:Prop}(h:SP X pins ⟨λ_ _=>False,λ_ _=>False,λ_ _=>False,λ_ _=>False⟩ f s):Q:=by
 cases f with|next=>obtain⟨_,_,_,z⟩:=h;exact z.elim|brk=>obtain⟨_,_,_,z⟩:=h;exact z.elim|cont=>obtain⟨_,_,_,z⟩:=h;exact z.elim|ret u=>obtain⟨_,_,_,_,_,z⟩:=h;exact z.elim
theorem iZ(p:X.ex=[])(k:X.stack=X.env::X.outer)(L:X.env.frame=_s X.env.locals)(hc:X.calm=_t)(hi:PI X.zo tg iter (tI X.K Γ zL js src))(G:PG X.zo tg g)(A:NJ X.K zL Γt jt g ft)(N:Cu X.zo body (tS X.K F (_s zL) Γt Γo jb b))(j:∀E,Fv (X.zE E) body (tX X.K Γt xb))(y:IM (_s zL) Γo=_t)(O:J=BN zL (jt++jb))
    (B:∀x,K3 iter X.env x=pure x):MA X (.For tg iter body [] pos) (tX X.K Γ (mL src ft J b xb)):=λpins s σ H Wk Q I ⟨d,m,P,r,res,e,q⟩ w=>by
  have n:qc (WR X.K d P H res):=WR.stb;refine J4 ((Pt (X:=X.zE (VG X (WR X.K d P H res))) (VG.own p k L n) hc (PI.zo (X:=X.zE (VG X (WR X.K d P H res))) hi) (PG.zo (X:=X.zE (VG X (WR X.K d P H res))) G) (Sl N j) B) pins s σ H ⟨λ_ _=>False,λ_ _=>False,λ_ _=>False,λ_ _=>False⟩ (I.zE _) ?_) (λf s' z=>eg z) λv s' ⟨h,σ',H',a,C,dx,R,S,u,i⟩=>R▸w h σ' H' s' a C dx S u (q a C dx H' i);refine⟨d,m,P,r,Ex,_,res,e,λds T U P1 Y W D V s1 o l=>?_⟩;exact YF A y O o l D λa C dx H' z=>z.later s1
noncomputable def Zy{τ:Type}(c:τ->Option Bool)(g:τ->Option τ)(a:τ->Option Ex):Nat->τ->Option Ex
 |0,_=>_n
 |n+1,t=>(c t).bind λb=>if b=_t then(a t).or ((g t).bind (Zy c g a n))else _n
def sk(n:Nat)(c:Ev Bool)(J:List Nat)(b:Es)(xb:M->Option Ex)(m:M):Option Ex:=
 (Zy (λt=>c Bool (AR J m t) λb _=>_s b) (λt=>b (DR J) (AR J m t) (kC J)) (λt=>xb (AR J m t)) n (Ac J m)).bind _s
theorem ny(n:Nat)(hx:X.ex=[])(zr:X.stack=X.env::X.outer)(hf:X.env.frame=_s X.env.locals)(hc:PT X.zo c (tT X.K Γ Γc [] t))(hb:Cu X.zo body (tS X.K F (_s Γ) Γ Γo jb b))(U:∀E,Fv (X.zE E) body (tX X.K Γ xb))(S:Bc Γ Γc=_t)(hw:IM (_s Γ) Γo=_t)(hJ:J=BN Γ jb) :
    MA X (.While c body [] pos) (tX X.K Γ (sk n t J b xb)):=λpins s σ H Wk Q I ⟨y,j,P1,r1,res,e,q⟩ w=>by
  refine yt e λ_ e Y=>?_;cases Y;have sb:qc (WR X.K y P1 H res):=WR.stb;refine J4 ((OA (X:=X.zE (VG X (WR X.K y P1 H res))) (VG.own hx zr hf sb) (PT.zo (X:=X.zE (VG X (WR X.K y P1 H res))) hc) (Sl hb U)) pins s σ H ⟨λ_ _=>False,λ_ _=>False,λ_ _=>False,λ_ _=>False⟩ (I.zE _) ?_) (λf s' z=>eg z) λv s' ⟨G,σ',H',a,C,dx,Y,I',u,T⟩=>Y▸w G σ' H' s' a C dx I' u (q a C dx H' T);have sub:∀i∈J,i∈jb:=λi h=>Az (hJ▸h);refine⟨λn σ' H'=>∃B m P2,Step y P1 H B P2 H'/\Rel X.K B H' Γ (AR J j m) σ' P2/\Zy (λL=>t Bool (AR J j L) λb _=>_s b) (λt=>b (DR J) (AR J j t) (kC J)) (λt=>xb (AR J j t)) n m=_s res,⟨n,y,Ac J j,P1,Step.refl,Jp r1,e⟩,?_⟩;rintro A zc H2 ⟨B,m,P2,s2,r2,Z⟩;cases A with
  |zero=>cases Z
  |succ A=>
    unfold Zy at Z;refine yt Z λbb e3 p=>?_;refine⟨B,_,P2,r2,Bool,_,bb,e3,λb' m' g3 P3 H3 k ag s3 r3=>?_⟩;cases k;obtain⟨W,P4,s4,r4⟩:=r3.weaken S;have r5:Rel X.K W H3 Γ (AR J j m) zc P4:=r4.agree ag.1.symm λi o _=>(ag.2 i (by simp)).symm;have O:=(s2.trans s3).trans s4;cases bb with
    |false=>rw[if_neg D1]at p;cases p
    |true=>
      rw[if_pos rfl]at p ⊢;have a5:∀{m'},BU jb (AR J j m) m'->BU jb j m':=λh=>(((AU J j m).mono sub).trans h).mono λi z=>(E6.mp z).elim id id;refine⟨λσ' H'=>∃g5 P5 m',Step y P1 H g5 P5 H'/\Rel X.K g5 H' Γ m' σ' P5/\BU jb j m'/\Zy (λL=>t Bool (AR J j L) λb _=>_s b) (λt=>b (DR J) (AR J j t) (kC J)) (λt=>xb (AR J j t)) A (Ac J m')=_s res,?_,?_⟩;rintro σ' H' ⟨V,P6,m',N,R,ag6,hr⟩;exact⟨A,T9 _,V,Ac J m',P6,N,R.join ag6 λi o h=>hJ▸BL h,hr⟩;cases e6:xb (AR J j m)with|some r0=>rw[e6,Q3]at p;cases p;exact .inr ⟨W,_,P4,r5,res,e6,λa C dx H' z=>z.later O⟩|none=>rw[e6,K8]at p;refine yt p λt1 eb e7=>?_;refine .inl ⟨W,_,P4,r5,DR J,kC J,t1,eb,⟨λΓ' m' g' l D H' e k r s' i' P=>?_,(λd m' g' l Pv D v H' k=>by cases k),(λΓ' m' g' l D H' e k=>by cases k),λΓ' m' g' l D H' e k r s' i' P=>?_⟩⟩;subst e;cases k;obtain⟨V,P6,N,R⟩:=P.weaken (by unfold IM at hw;exact hw);exact⟨V,P6,m',(O.trans s').trans N,R,a5 r,e7⟩;cases e;cases k;exact⟨g',l,m',O.trans s',P,a5 r,e7⟩
end
structure zEB where
 n:Nat
 io:List Nat
 cl:Option Str
 xf:List Dv->Option Ex
inductive zAd (K:W.Frag) (n:Nat) (io:List Nat) (xf:List Dv->Option Ex) (vs:List V) (H:Hp) (_:VK) (E:XK):Prop
 |mk (g:G) (ds:M) (P:Fp) (a:Rel K g H (Kb n io) ds (vs.map _s) P) (r:Ex) (b:xf ds=_s r) (c:∀(a:Nat) C dx H',WR K g P H r a C dx H'->E (.int (a:Nat) C) (_s dx) H')
theorem WR.wide{K:W.Frag}{g:G}{P P':Fp}{b:Hp}{r:Ex}{a C dx:A8}(h:∀a,P a->P' a)(w:WR K g P b r a C dx H):WR K g P' b r a C dx H:=
 let ⟨e,n,ne,g2,v,st,z,hd,rp⟩:=w
 ⟨e,n,ne,g2,v,st.sub h λ_ y=>y,z,hd,rp⟩
variable{n:Nat}{io:List Nat}
section
variable{K:W.Frag}{σ:St}{Γ':Gm}{as:List Ar}
theorem Yx{k:G}{l:Hp}{y:M}{P1:Fp}{ds:List Dv}{vs:List V}(h:zH as io=_t)(hn:as.length=n)(nd:io.Nodup)(J:∀i∈io,i < n)(Y:∀i∈slots as io,Γ'[i]?=_s (_s 1))
    (P:Rel K k l Γ' y σ P1) (D:BD K k l Γ' y σ as ds vs):∃I,Rel K k l (Kb n io) ds (vs.map _s) I/\∀a,I a->P1 a:=by
  obtain⟨g,f⟩:=Vz h;have Q:as.all QG=true:=by unfold zH at h;rw[A2]at h;exact h.1
  have p:=P;obtain⟨zd,F,h1,h4⟩:=p
  -- the slots,one by one
  have sl:∀{i j:Nat},Dr as i=_s j->i∈io/\j∈slots as io:=fun{i j} e=>by have hi:=(g i (Dq e)).mp (by rw[e];rfl);exact⟨hi,G6.mpr ⟨i,hi,by rw[e];rfl⟩⟩
  have d:∀{i:Nat},i∈io->∃j,Dr as i=_s j:=fun{i} hi=>O8.mp ((g i (by rw[hn];exact J i hi)).mpr hi);have R:(slots as io).Nodup:=by unfold slots;rw[R9,t5];refine(R9.mp nd).imp_of_mem fun{a b} ha Z n z=>?_;obtain⟨S,B⟩:=d ha;obtain⟨jb,eb⟩:=d Z;rw[B,eb]at z;simp only[ux]at z;subst z;exact n (f a b S B eb)
  let m:Nat->Fp:=λi a=>∃j,Dr as i=_s j/\F j a
  have E:=D.len;have N:Rel K k l (Kb n io) ds (vs.map _s) λa=>∃i,m i a:=by
    refine⟨zd,m,⟨by unfold Kb;simp;rw[E.1,hn],by unfold Kb;simp;rw[E.2,hn],λi o u=>?_,λi u a ⟨j,c,_⟩=>?_,λi T n a ⟨j,c,z⟩ ⟨r,t,L⟩=>?_⟩,λ_=>d9⟩;obtain⟨hi,A⟩:=FA u;obtain⟨d',v,d1,d2,z⟩:=D.get (i:=i) Q (by rw[hn];exact hi);refine⟨d',v,d1,by rw[C8,d2];rfl,?_⟩;rcases z with⟨j,c,rfl,U⟩|⟨c,z⟩
    have:o=1:=by have:=C3 A;rw[if_pos (C6.mpr (sl c).1)]at this;exact this
    subst this;obtain⟨d3,v3,e3,C,O⟩:=h1.rep j 1 (Y j (sl c).2);rw[U]at C;cases C;have eq:m i=F j:=funext λa=>propext ⟨fun⟨r,z,q⟩=>by rw[c]at z;cases z;exact q,λq=>⟨j,c,q⟩⟩;rw[Hu e3,eq];exact O;have:o=0:=by have:=C3 A;rw[if_neg λw=>?_]at this;exact this;obtain⟨j,w⟩:=d (C6.mp w);rw[c]at w;cases w
    subst this;have eq:m i=yv:=DA λa ⟨j,w,_⟩=>by rw[c]at w;cases w
    rw[eq];exact z;refine u (if io.contains i then 1 else 0) ?_;unfold Kb;rw[C8,M7 (by rw[<- hn];exact Dq c)];rfl;by_cases w:j=r;subst w;exact n (f i T j c t);exact h1.dj j r w a z L
  exact⟨_,N,λa ⟨i,j,_,z⟩=>(h4 a).mpr ⟨j,z⟩⟩
end
variable{fa:A8}{iter:Expr}
section
variable{X:Cx}{Γ zC:Gm}{js:List Nat}{e:Expr}{es:List Expr}{pos p:Pos}{x:Str}{as:List Ar}{k:Nat}{fd:N1}{ps:List Str}{xf:List Dv->Option Ex}{xa xb:M->Option Ex}{st:G5}
theorem fC{pins:List (A8×Obj)}{σ:St}{d:Hp}{s1:A5}{Wk:WK}{Q:_v->A5->Prop}{us:List _v}{vs:List V}(g:X.ex=[])(F:zI X.prog X.w X.K X.mg X.base (Sx X.prog X.w) k fa fd ps (zAd X.K n io xf))(h:y9 k X.A)(j:L2.Binds X.K fd ps [])
    (c:Inv X pins σ d s1) (rv:AI vs us) (f:zAd X.K n io xf vs d (λ_ _=>False) (Ew Wk)) (w:qr X pins σ Wk):B4 (C7 X.prog X.w) X.A (call (.ref fa) us) Q X.xe s1:=by
  have i:(us++[]).length=ps.length:=by rw[G4,<- rv.length];exact F.len _ _ _ _ f
  refine d4 (Z4 (F.run X.A X.stack s1 d ⟨us,[]⟩ us vs _ (Ew Wk) h c.zCc (by have:=j s1 us c.zx i;rw[G4]at this;exact this) rv f) λr s' b=>?_);cases r with
  |error e=>obtain⟨a,C,dx,H',rfl,J,u,l⟩:=mP g c b;exact w H' s' a C dx J u l
  |ok fl=>
    cases fl with|ret u=>obtain⟨_,_,_,_,_,_,_,z⟩:=b;exact z.elim|next=>exact D2 b|brk=>exact D2 b|cont=>exact D2 b
theorem Zh{σ:St}{g:G}{m:M}{P:Fp}{res:Ex}(ch:AD Γ as zC js)(f:zH as io=_t)(hn:as.length=n)(nd:io.Nodup)(c:∀i∈io,i < n)(h:∀i∈slots as io,zC[i]?=_s (_s 1))(r:Rel X.K g H Γ m σ P)(l:(AQ as Ex m λds _=>xf ds)=_s res)(q:∀a C dx H',WR X.K g P H res a C dx H'->Wk a C dx H') :
    BO X.K as σ H λvs b=>zAd X.K n io xf vs b (λ_ _=>False) (Ew Wk):=
  AM as r ch l λds m' g' P' vs b j t s' o d=>let ⟨Pa,rA,sb⟩:=Yx f hn nd c h d o;⟨g',ds,Pa,rA,res,j,λa C dx H' z=>q _ _ _ _ ((z.wide sb).later s')⟩
theorem WU(h:X.ex=[])(F:zI X.prog X.w X.K X.mg X.base (Sx X.prog X.w) k fa fd ps (zAd X.K n io xf))(l:y9 k X.A)(u:Gl X x)(hm:X.mg x=_s (.ref fa))(t:W.keepIn X.K (.ref fa)=_t)(y:L2.Binds X.K fd ps [])
    (ha:PA X (e::es) (BO X.K as)) (ch:AD Γ as zC js) (j:zH as io=_t) (hn:as.length=n) (nd:io.Nodup) (d:∀i∈io,i < n) (o:∀i∈slots as io,zC[i]?=_s (_s 1)) (b:(x==("__debug__" : Str))=_f) (v:D7 (e::es) X.env=(_f,L8 e X.env)::D7 es X.env) (a:(P8 pos (D7 es X.env)).any (·.1)=_f) :
    NN X (.Call (.Name x p) (e::es) [] pos) (tX X.K Γ λm=>AQ as Ex m λds _=>xf ds):=by
  intro pins s σ H Wk Q I ⟨g,m,P,r,res,z,q⟩ w;refine M0 (DB I u hm ?_ b);exact W.callWith_K (h₀:=X.base) I.ok.mod.kin t (Ai (ha pos pins s σ H _ I (Zh ch j hn nd d o r z q)) λus s1 ⟨vs,B,c,rv,f⟩=>⟨c.zx,fC h F l y c rv f w⟩) v a
theorem bG{G:A8}{i:Nat}{o:Expr}{d cl:Str}{apos:Pos}{pl:Sem Bool}(S:X.ex=[])(F:zI X.prog X.w X.K X.mg X.base (Sx X.prog X.w) k G fd ps (zAd X.K n io xf))(V:y9 k X.A)(hm:Meth X.K (As X.K cl) d G)(hc:Cls X.K (As X.K cl))(hb:L2.Binds X.K fd ps [])
    (Y:PE X o (Cb i)) (ha:PA X (e::es) (BO X.K as)) (ch:AD Γ (.rf i::as) zC js) (U:zH (.rf i::as) io=_t) (hn:(Ar.rf i::as).length=n) (nd:io.Nodup) (N:∀i∈io,i < n) (Z:∀j∈slots (.rf i::as) io,zC[j]?=_s (_s 1)) (he:D7 (e::es) X.env=(_f,L8 e X.env)::D7 es X.env) (z:(P8 pos (D7 es X.env)).any (·.1)=_f)
    (T:L8 (.Call (.Attribute o d apos) (e::es) [] pos) X.env=(do
      let ov <- L8 o X.env
      vh apos.atName
      let (f,first) <- Z1 [ov] (uq ov d pl)
      xv pos f first (P8 pos (D7 (e::es) X.env)) (o6 pos (V5 [] X.env)))) :
    NN X (.Call (.Attribute o d apos) (e::es) [] pos) (tX X.K Γ λm=>bif EL (m.at i) cl d then AQ (.rf i::as) Ex m λds _=>xf ds else _n):=by
  intro pins s σ H Wk Q I ⟨g,m,P,r,res,h,q⟩ w;replace h:(bif EL (m.at i) cl d then AQ (.rf i::as) Ex m λds _=>xf ds else _n)=_s res:=h;cases b:EL (m.at i) cl d with
  |false=>rw[b]at h;cases h
  |true=>
    rw[b]at h;have J:=ch;unfold AD at J;obtain⟨⟨o1,B⟩,_,_⟩:=J;obtain⟨v0,P1,E,c,_⟩:=r.see B;obtain⟨v1,l,rest⟩:=Zh (X:=X) (Wk:=Wk) ch U hn nd N Z r h q;rw[E]at l;cases l;cases hxo:m.at i with
    |obj c' fl nm xs=>rw[hxo]at b c;unfold EL at b;simp only[A2,beq_iff_eq,J7]at b;obtain⟨rfl,b⟩:=b;unfold Rep at c;obtain⟨a,dx,vs,R',rfl,h1,_⟩:=c;refine W.methodCall_KW (pl:=pl) (Ai (Y pins s σ H (λy D=>y=.ref a/\D=H) I ⟨.ref a,E,rfl,rfl⟩) λu s1 ⟨y,D,C,O,ey,eH⟩=>?_) T;subst ey eH;obtain rfl:u=D4 a:=O;refine Fm C h1 hc hm (FE b) ?_;exact W.callWith_K (first:=[.ref a]) (h₀:=X.base) C.ok.mod.kin hm.kp (Ai (ha pos pins s1 σ D _ C rest) λus s2 ⟨t,H2,L,v,R⟩=>⟨L.zx,fC (us:=.ref a::us) (vs:=.ref a::t) S F V hb L (.cons rfl v) R w⟩) he z
    |_=>rw[hxo]at b;cases b
theorem Rk(h:NN X e (tX X.K Γ xa))(a:O0 e _n pos.line X.env=pure _f):VJ X (.Expr e pos) (tX X.K Γ xa):=λpins s σ H Wk Q I q w=>wpAny_Expr_any (h pins s σ H Wk _ I q w) I.quiet a
theorem iX(h:NN X e (tX X.K Γ xa)):VJ X (.Return (_s e) pos) (tX X.K Γ xa):=λpins s σ H Wk Q I q w=>wN (h pins s σ H Wk _ I q w)
theorem Pq(h:NN X e (tX X.K Γ xa))(a:O0 e (_s (.Name x p)) pos.line X.env=pure _f):VJ X (.Assign [.Name x p] e pos) (tX X.K Γ xa):=λpins s σ H Wk Q I q w=>wR (h pins s σ H Wk _ I q w) a
theorem oA(ha:MA X st (tX X.K Γ xa))(a:MA X st (tX X.K Γ xb)):MA X st (tX X.K Γ λm=>(xa m).or (xb m)):=λpins s σ H Wk Q I ⟨g,m,P,r,res,e,q⟩ w=>by
 replace e:(xa m).or (xb m)=_s res:=e;cases q0:xa m with|some b=>rw[q0,Q3]at e;cases e;exact ha pins s σ H Wk Q I ⟨g,m,P,r,_,q0,q⟩ w|none=>rw[q0,K8]at e;exact a pins s σ H Wk Q I ⟨g,m,P,r,_,e,q⟩ w
theorem Rn{elt:Expr}{ifs:List Expr}{scope:M4}{b:List Nat}(h:NN X iter (tX X.K Γ xa))(Bi:zO X.N X.env.scope scope b=_t)(d:∀x,K3 iter X.env x=pure x):NN X (.ListComp elt [⟨tg,iter,ifs,0⟩] scope pos) (tX X.K Γ xa):=λpins s σ H Wk Q I q w=>by have Bi:=Dz Bi;obtain⟨cl,a,g,f⟩:=EC (scope:=scope) (env:=X.env) (λx c=>I.ok.has x (Bi.fr x c)) Bi.zBl;rw[eval_ListComp];exact T6 (use:=_n) rfl d a Bi.kind Bi.zBk (h pins s σ H Wk _ I q w)
theorem bF{elt tg:Expr}{ifs:List Expr}{scope:M4}{d:List Nat}{a:Pos}(h:NN X iter (tX X.K Γ xa))(Bi:zO X.N X.env.scope scope d=_t)(g:∀x,K3 iter X.env x=pure x)
    (c:O0 (.ListComp elt [⟨tg,iter,ifs,0⟩] scope a) (_s (.Name x p)) pos.line X.env=pure _t):VJ X (.Assign [.Name x p] (.ListComp elt [⟨tg,iter,ifs,0⟩] scope a) pos) (tX X.K Γ xa):=λpins s σ H Wk Q I q w=>by
  have Bi:=Dz Bi;obtain⟨cl,b,l,j⟩:=EC (scope:=scope) (env:=X.env) (λx f=>I.ok.has x (Bi.fr x f)) Bi.zBl;rw[vO _ _ _ _ c];refine A1 (T1 (A1 ?_));show B4 _ _ (do let _ <- comprehension (.ListComp elt [⟨tg,iter,ifs,0⟩] scope a) scope X.env _ (newList []) _f (L8 iter X.env) (_s (W5 (.Name x p) X.env))) _ _ s;exact A1 (Ai (T6 (use:=_s (W5 (.Name x p) X.env)) (Q:=λ_ s'=>Q .next s') rfl g b Bi.kind Bi.zBk (h pins s σ H Wk _ I q w)) (λ_ s' i=>A6 (A6 i)))
end
noncomputable abbrev IA:=List (Str×zEB)
noncomputable def Mb:Expr->Bool
 |.Set _ _ _=>_f
 |_=>_t
def lX(C:Cf):Expr->Option Expr
 |.ListComp _ a scope _=>(x1 a).bind λg=>gd ((g.is_async==0)&&(zO C.N C.sc scope (Tn C.N scope)&&Mb g.iter)) (_s g.iter)
 |_=>_n
inductive XLc (C:Cf) (e it:Expr):Prop
 |mk (elt tg:Expr) (ifs:List Expr) (scope:M4) (pos:Pos) (h:e=.ListComp elt [⟨tg,it,ifs,0⟩] scope pos) (h1:zO C.N C.sc scope (Tn C.N scope)=_t) (h2:Mb it=_t)
variable{C:Cf}
theorem VU{it:Expr}(h:lX C e=_s it):XLc C e it:=by
 cases e with|ListComp elt a scope pos=>refine yt (show(x1 a).bind _=_s it from h) λg b h=>?_;obtain⟨h1,h⟩:=zT h;rw[A2,A2]at h1;obtain⟨tg,iter,ifs,as⟩:=g;cases eq_of_beq h1.1;cases h;exact⟨elt,tg,ifs,scope,pos,congrArg (λl=>Expr.ListComp elt l scope pos) (NR b),h1.2.1,h1.2.2⟩|_=>exact ns h
def tD(r:Rec)(C:Cf)(xd:IA)(Γ:Gm)(x:Str)(es:List Expr):Option (M->Option Ex):=(xd.lookup x).bind λs=>gd (Kd C.sc x&&OG x&&s.cl.isNone) ((r.A C Γ ((B6 es.length).map s.io.contains) es).bind λc =>
 gd (zH c.as s.io&&(es.length==s.n)&&(slots c.as s.io).all λi=>c.Γ.getD i _n==_s 1) (_s λm=>AQ c.as Ex m λds _=>s.xf ds))
def sy(r:Rec)(C:Cf)(xd:IA)(Γ:Gm)(o:Expr)(a:Str)(es:List Expr):Option (M->Option Ex):=(xd.lookup a).bind λs=>s.cl.bind λcl=>(PH C o).bind λi=>gd (es.length < 29&&(Γ.getD i _n).isSome) ((r.A C Γ ((B6 es.length).map λj=>s.io.contains (j+1)) es).bind λc =>
 gd (cU c.Γ i&&zH (.rf i::c.as) s.io&&(es.length+1==s.n)&&(slots (.rf i::c.as) s.io).all λj=>c.Γ.getD j _n==_s 1) (_s λm=>bif EL (m.at i) cl a then AQ (.rf i::c.as) Ex m λds _=>s.xf ds else _n))
def uF(r:Rec)(C:Cf)(xd:IA)(Γ:Gm)(f:Expr)(a:Expr)(es:List Expr)(pos:Pos):Option (M->Option Ex):=match f with
 |.Name x _=>tD r C xd Γ x (a::es)
 |.Attribute o b apos=>gd (apos.endLine==pos.line) (sy r C xd Γ o b (a::es))
 |_=>_n
def uE(r:Rec)(C:Cf)(xd:IA)(Γ:Gm)(go:Expr->M->Option Ex)(e:Expr):Option (M->Option Ex):=match e with
 |.Call f es ks pos=>(match es with
  |[]=>_n
  |a::es=>gd ks.isEmpty (uF r C xd Γ f a es pos))
 |_=>(lX C e).bind λit=>_s (go it)
def xE(r:Rec)(C:Cf)(xd:IA)(Γ:Gm):Nat->Expr->M->Option Ex
 |0,_=>λ_=>_n
 |n+1,e=>MD (uE r C xd Γ (xE r C xd Γ n) e)
def uY(X:Cx)(x:Str)(s:zEB):Prop:=s.io.Nodup/\(∀i∈s.io,i < s.n)/\match s.cl with
 |none=>∃k fd ps,zI X.prog X.w X.K X.mg X.base (Sx X.prog X.w) k (As X.K x) fd ps (zAd X.K s.n s.io s.xf)/\y9 k X.A/\X.mg x=_s (.ref (As X.K x))/\W.keepIn X.K (.ref (As X.K x))=_t/\L2.Binds X.K fd ps []
 |some c=>∃k fd ps a,zI X.prog X.w X.K X.mg X.base (Sx X.prog X.w) k a fd ps (zAd X.K s.n s.io s.xf)/\y9 k X.A/\Meth X.K (As X.K c) x a/\Cls X.K (As X.K c)/\L2.Binds X.K fd ps []
structure XCx (X:Cx) (C:Cf) (cx:Xs) (xd:IA):Prop where
 ok:zB C X.zo
 hc:X.calm=_t
 ex:X.ex=[]
 st:X.stack=X.env::X.outer
 fr:X.env.frame=_s X.env.locals
 cx:∀c f,(c,f)∈cx->uA X c f
 xd:∀x s,(x,s)∈xd->uY X x s
variable{cx:Xs}{xd:IA}
theorem XCx.zE(h:XCx X C cx xd)(E:_v->A5->Prop):XCx (X.zE E) C cx xd:=⟨h.ok,h.hc,h.ex,h.st,h.fr,h.cx,h.xd⟩
theorem Dl{env:Env}(h:Mb iter=_t):∀x,K3 iter env x=pure x:=λx=>by cases iter<;>first|rfl|(cases h)
theorem Xe{i:Nat}(h:PH C e=_s i):∃x p,e=.Name x p:=by
 cases e with|Name x p=>exact⟨x,p,rfl⟩|_=>exact ns h
section
variable{X:Cx}{r:Rec}{C:Cf}{cx:Xs}{xd:IA}
theorem Ny:NN X e (tX X.K Γ λ_=>_n):=λ_ _ _ _ _ _ _ z _=>by cases z with|mk _ _ _ _ _ e _=>cases e
theorem nv{o:Option (M->Option Ex)}(h:∀x,o=_s x->NN X e (tX X.K Γ x)):NN X e (tX X.K Γ (MD o)):=by
 cases o with|none=>exact Ny|some x=>exact h x rfl
theorem gb(z:zJ r)(h:XCx X C cx xd)(Γ:Gm){g:Expr}{p:Pos}{y:M->Option Ex}(e:tD r C xd Γ x (g::es)=_s y):NN X (.Call (.Name x p) (g::es) [] pos) (tX X.K Γ y):=by have ok:=h.ok;refine yt e λs l e=>?_;obtain⟨b,e⟩:=zT e;refine yt e λc t e=>?_;obtain⟨a,e⟩:=zT e;cases e;simp only[A2,r8]at b;simp only[A2,E4,beq_iff_eq]at a;obtain⟨w,v,u,f,_⟩:=z.A ok t;obtain⟨nd,j,q⟩:=h.xd x s (Fj l);rw[b.2]at q;obtain⟨k,fd,ps,F,m,hm,d,o⟩:=q;rw[M1,A2]at f;exact WU h.ex F m (Xp ok b.1.1) hm d o (PA.zCD w) v a.1.1 (u.trans a.1.2) nd j (λi hi=>Aq (a.2 i hi)) (Bm b.1.2).1 (AJ f.1) (BI f.2)
theorem gY(G:zJ r)(h:XCx X C cx xd)(Γ:Gm){o:Expr}{d:Str}{l:Expr}{apos:Pos}{y:M->Option Ex}(p:(apos.endLine==pos.line)=_t)(e:sy r C xd Γ o d (l::es)=_s y):NN X (.Call (.Attribute o d apos) (l::es) [] pos) (tX X.K Γ y):=by
 have ok:=h.ok;refine yt e λs t e=>?_;refine yt e λcl f e=>?_;refine yt e λi hi e=>?_;obtain⟨h0,e⟩:=zT e;refine yt e λc z e=>?_;obtain⟨a,e⟩:=zT e;cases e;simp only[A2,decide_eq_true_eq]at h0;simp only[A2,E4,beq_iff_eq]at a;obtain⟨E,D,B,b,_⟩:=G.A ok z;obtain⟨nd,m,q⟩:=h.xd d s (Fj t);rw[f]at q;obtain⟨k,fd,ps,J,F,u,hm,hc,w⟩:=q;have ch:AD Γ (.rf i::c.as) c.Γ c.js:=by unfold AD;exact⟨getD_some h0.2,Fi a.1.1.1,D⟩
 have g:=b;rw[M1,A2]at b;obtain⟨I,po,rfl⟩:=Xe hi;exact bG h.ex F u hm hc w (PE.zo (Bn ok hi)) (PA.zCD E) ch a.1.1.2 (by rw[<- a.1.2];simp[B]) nd m (λj v=>Aq (a.2 j v)) (AJ b.1) (BI b.2) (Hb rfl (HX g h0.1) p)
theorem gV(h:XCx X C cx xd){it:Expr}{y:M->Option Ex}(l:lX C e=_s it)(h1:NN X it (tX X.K Γ y)):NN X e (tX X.K Γ y):=by obtain⟨elt,tg,ifs,scope,pos,rfl,Bi,a⟩:=VU l;rw[<- show X.N=C.N from h.ok.N,<- show X.env.scope=C.sc from h.ok.sc]at Bi;exact Rn h1 Bi (Dl a)
theorem Ig(g:zJ r)(h:XCx X C cx xd)(Γ:Gm)(n:Nat):∀e,NN X e (tX X.K Γ (xE r C xd Γ n e)):=by
 induction n with
 |zero=>exact λ_=>Ny
 |succ n j=>
  intro e;refine nv λy c=>?_;have i:(lX C e).bind (λit=>_s (xE r C xd Γ n it))=_s y->NN X e (tX X.K Γ y):=λz=>yt z λit d k=>by cases k;exact gV h d (j it)
  cases e with
  |Call f es ks pos=>
   cases es with
   |nil=>exact ns c
   |cons d es=>
    obtain⟨h1,b⟩:=zT c;cases U3.mp h1;cases f with|Name x p=>exact gb g h Γ b|Attribute o l apos=>obtain⟨h2,a⟩:=zT b;exact gY g h Γ h2 a|_=>exact ns b
  |_=>exact i c
end
def xT(r:Rec)(C:Cf)(xd:IA)(Γ:Gm):Expr->M->Option Ex
 |.Compare e ops ys _=>MD ((x1 ops).bind λ_=>(x1 ys).bind λ_=>_s (xE r C xd Γ 20 e))
 |_=>λ_=>_n
def mK(ts:List Expr):Option Str:=(x1 ts).bind rF
def rG(r:Rec)(C:Cf)(xd:IA)(Γ:Gm)(e:Expr):M->Option Ex:=match lX C e with
 |some it=>xE r C xd Γ 19 it
 |none=>MD (gd (Fc e) (_s (xE r C xd Γ 20 e)))
def sx(r:Rec)(C:Cf)(go:Gm->List G5->M->Option Ex)(Γ:Gm)(tg iter:Expr)(body:List G5):Option (M->Option Ex):=(gd (Mb iter) (r.I C Γ (Mf tg) iter)).bind λs=>(cG C tg).bind λt=>gd (t.J.all λi=>decide (i < s.Γ.length)) ((UV r C t.Γ body 4 s.Γ).bind λp =>
 gd (Bc p.1 s.Γ) (_s (mL s.f t.f (BN p.1 (t.J++p.2.js)) p.2.f (go (t.Γ p.1) body))))
def sj(r:Rec)(C:Cf)(go:Gm->List G5->M->Option Ex)(Γ:Gm)(c:Expr)(body:List G5):Option (M->Option Ex):=(qD.fixW r C c body 4 Γ).bind λp=>gd (Bc p.1 Γ) (_s (sk qg p.2.1.f (BN p.1 p.2.2.js) p.2.2.f (go p.1 body)))
def aN(r:Rec)(C:Cf)(cx:Xs)(xd:IA)(go:Gm->List G5->M->Option Ex)(Γ:Gm)(st:G5):M->Option Ex:=match st with
 |.Raise o k _=>MD (sr r C cx Γ o k)
 |.If t a b _=>λm=>(xT r C xd Γ t m).or (MD (sv r C go Γ t a b) m)
 |.Expr e _=>MD (gd (Fc e) (_s (xE r C xd Γ 20 e)))
 |.Return o _=>MD (o.bind λe=>_s (xE r C xd Γ 20 e))
 |.Assign ts e _=>MD ((mK ts).bind λ_=>_s (rG r C xd Γ e))
 |.For tg iter body d _=>MD (gd d.isEmpty (sx r C go Γ tg iter body))
 |.While c body d _=>MD (gd d.isEmpty (sj r C go Γ c body))
 |_=>λ_=>_n
def NQ(r:Rec)(C:Cf)(cx:Xs)(xd:IA):Nat->Gm->List G5->M->Option Ex
 |0,_,_=>λ_=>_n
 |_+1,_,[]=>λ_=>_n
 |n+1,Γ,st::rest=>match r.S C _n Γ st with
  |some c=>(match c.Γ with
   |some a=>λm=>(aN r C cx xd (NQ r C cx xd n) Γ st m).or (c.f Ex m (kX (NQ r C cx xd n a rest)))
   |none=>aN r C cx xd (NQ r C cx xd n) Γ st)
  |none=>aN r C cx xd (NQ r C cx xd n) Γ st
section
variable{r:Rec}{C:Cf}{cx:Xs}{xd:IA}
theorem bE{Γ':Gm}{x:M->Option Ex}(c:Bc Γ' Γ=_t)(h:MA X st (tX X.K Γ' x)):MA X st (tX X.K Γ x):=λpins s σ H Wk Q I ⟨g,m,P,r,res,e,q⟩ w=>by obtain⟨d,P2,s2,b⟩:=r.weaken c;exact h pins s σ H Wk Q I ⟨d,m,P2,b,res,e,λa C dx H' z=>q a C dx H' (z.later s2)⟩ w
theorem mJ(b:zJ r)(h:XCx X C cx xd)(Γ:Gm)(e:Expr):qd X e (tX X.K Γ (xT r C xd Γ e)):=by
 have no:∀e,qd X e (tX X.K Γ λ_=>_n):=λe _ _ _ _ _ _ _ z _=>by cases z with|mk _ _ _ _ _ e _=>cases e
 cases e with
 |Compare e ops ys pos=>
  show qd X _ (tX X.K Γ (MD _));cases a:(x1 ops).bind λ_=>(x1 ys).bind λ_=>_s (xE r C xd Γ 20 e)with|none=>exact no _|some x=>refine yt a λ_ h1 a=>?_;refine yt a λ_ h2 a=>?_;cases a;rw[NR h1,NR h2];exact ia (Ig b h Γ 20 _)
 |_=>exact no _
theorem VT{ts:List Expr}(h:mK ts=_s x):∃p,ts=[.Name x p]:=yt h λt h1 h=>by obtain⟨p,rfl⟩:=VS h;exact⟨p,NR h1⟩
theorem gg(f:zJ r)(h:XCx X C cx xd)(Γ:Gm){p:Pos}:MA X (.Assign [.Name x p] e pos) (tX X.K Γ (rG r C xd Γ e)):=by
 unfold rG;cases hl:lX C e with
 |some it=>
  have h1:=Ig f h Γ 19 it;obtain⟨elt,tg,ifs,scope,b,rfl,Bi,d⟩:=VU hl;rw[<- show X.N=C.N from h.ok.N,<- show X.env.scope=C.sc from h.ok.sc]at Bi;have a:O0 (.ListComp elt [⟨tg,it,ifs,0⟩] scope b) (_s (.Name x p)) pos.line X.env=pure (ml C.sc x p.line scope b.line):=PX (X:=X.zo) h.ok;cases hb:ml C.sc x p.line scope b.line with|false=>rw[hb]at a;exact(Pq (Rn h1 Bi (Dl d)) a).s|true=>rw[hb]at a;exact(bF h1 Bi (Dl d) a).s
 |none=>refine Ho λy c=>?_;obtain⟨hn,c⟩:=zT c;cases c;exact(Pq (Ig f h Γ 20 e) (CO hn)).s
theorem gX(b:zJ r)(h:XCx X C cx xd){go:Gm->List G5->M->Option Ex}(f:∀E Γ ss,Fv (X.zE E) ss (tX X.K Γ (go Γ ss)))(Γ:Gm){y:M->Option Ex}(e:sx r C go Γ tg iter body=_s y):MA X (.For tg iter body [] pos) (tX X.K Γ y):=by
 have ok:=h.ok;refine yt e λs q e=>?_;refine yt e λt o e=>?_;obtain⟨d,e⟩:=zT e;refine yt e λp m e=>?_;obtain⟨a,e⟩:=zT e;cases e;obtain⟨c,hI⟩:=zT q;obtain⟨l,f2⟩:=IU m;obtain⟨k,_,j⟩:=Lm ok o;have g:t.J.all (λi=>decide (i < p.1.length))=true:=by rw[Dy a];exact d
 exact iZ h.ex h.st h.fr h.hc (PI.imp (b.I tg ok hI) λ_ _ _ h=>RI a h) k (j g) (b.Ss ok l) (λE=>f E _ _) f2 rfl (Dl c)
theorem gR(b:zJ r)(h:XCx X C cx xd){go:Gm->List G5->M->Option Ex}(f:∀E Γ ss,Fv (X.zE E) ss (tX X.K Γ (go Γ ss)))(Γ:Gm){c:Expr}{y:M->Option Ex}(e:sj r C go Γ c body=_s y):MA X (.While c body [] pos) (tX X.K Γ y):=by have ok:=h.ok;refine yt e λp l e=>?_;obtain⟨d,e⟩:=zT e;cases e;obtain⟨k,f2,j,i,g⟩:=GY l;have a:=b.T ok k;rw[f2]at a;exact bE d (ny qg h.ex h.st h.fr a (b.Ss ok i) (λE=>f E _ _) j g rfl)
theorem aM(f:zJ r)(h:XCx X C cx xd){go:Gm->List G5->M->Option Ex}(i:∀E Γ ss,Fv (X.zE E) ss (tX X.K Γ (go Γ ss)))(Γ:Gm)(st:G5):MA X st (tX X.K Γ (aN r C cx xd go Γ st)):=by
 cases st with
 |Raise o k pos=>exact gT f h.ok h.hc h.cx Γ
 |If t a b pos=>exact oA (oB (mJ f h Γ _)).s (gW f h.ok (i X.xe) Γ)
 |Expr e pos=>refine Ho λy d=>?_;obtain⟨hn,d⟩:=zT d;cases d;exact(Rk (Ig f h Γ 20 e) (CO hn)).s
 |Return o pos=>
  refine Ho λy d=>?_;cases o with|none=>exact ns d|some e=>cases d;exact(iX (Ig f h Γ 20 _)).s
 |Assign ts e pos=>refine Ho λy d=>yt d λx h1 d=>?_;cases d;obtain⟨p,rfl⟩:=VT h1;exact gg f h Γ
 |For tg iter body j pos=>refine Ho λy d=>?_;obtain⟨h1,g⟩:=zT d;cases U3.mp h1;exact gX f h i Γ g
 |While c body j pos=>refine Ho λy d=>?_;obtain⟨h1,g⟩:=zT d;cases U3.mp h1;exact gR f h i Γ g
 |_=>exact Nz
theorem ME(a:zJ r):∀n {X:Cx},XCx X C cx xd->∀Γ ss,Fv X ss (tX X.K Γ (NQ r C cx xd n Γ ss))
 |0,X,h,Γ,ss=>Ri
 |n+1,X,h,Γ,[]=>Ri
 |n+1,X,h,Γ,st::rest=>by
  have h0:=aM a h (λE Γ ss=>ME a n (h.zE E) Γ ss) Γ st;unfold NQ;cases hs:r.S C _n Γ st with
  |none=>exact Rj h0
  |some c=>
   cases hΓ:c.Γ with|none=>simp only[hΓ];exact Rj h0|some b=>simp only[hΓ];have h1:=a.S h.ok hs;rw[hΓ]at h1;exact bH h0 (PS.zCD h1) (ME a n h b rest)
end
def pZ(K:W.Frag)(C:A8):Bool:=match K.lookup C with
 |some o=>(match o.data with
  |.cls a=>o.cls==.type "type"&&a.mro.head?==_s (.ref C)&&jS a.mro.tail&&a.hasDict&&!a.hasDel&&(match o.slots.toList with
   |[_,_,_,_,_s (.builtin id),_]=>id==KI
   |_=>_f)
  |_=>_f)
 |none=>_f
variable{k:Nat}{fs:List (Str×zN)}{qual:Str}{fd:N1}
section
variable{P:E8}{w:G7}{K:W.Frag}{mg:Str->Option _v}{base:G2}{C:A8}{c f q:Str}{st:G5}{M:Md}
theorem YM(h:pZ K C=_t):XLk K C true:=by
 unfold pZ at h;cases ho:K.lookup C with
 |none=>rw[ho]at h;cases h
 |some o=>
  rw[ho]at h;obtain⟨oc,od,t,⟨sl⟩⟩:=o;cases t with
  |cls u=>
   obtain⟨p,l,r,j,i,y,g,d,b,a,m⟩:=u;simp only[A2,J7]at h;obtain⟨⟨⟨⟨⟨h1,h2⟩,h3⟩,h4⟩,h5⟩,h6⟩:=h;have h1:=eq_of_beq h1;cases r with|nil=>cases h2|cons v bm=>have h2:=C3 (eq_of_beq h2);split at h6;rename_i k0 k1 k2 k3 id k5;have h6:=eq_of_beq h6;subst h1 h2 h4 h5 h6;exact⟨p,i,j,l,bm,g,d,b,a,od,k0,k1,k2,k3,k5,ho,h3⟩;cases h6
  |_=>cases h
theorem mG(h:pZ K C=_t):XD K C:=⟨_,YM h⟩
abbrev GX(K:W.Frag)(c f q:Str)(t:G5):Prop:=W.nsIn K K4 c=_s (_s (.ref (As K c)))/\pZ K (As K c)=_t/\W.findIn K (.ref (As K c)) "__setattr__" = _s (_s (.builtin "object.__setattr__")) /\
 W.findIn K (.ref (As K c)) "__getattribute__" = _s (_s (.builtin "BaseException.__getattribute__"))/\W.findIn K (.ref (As K c)) "__getattr__" = _s _n/\W.findIn K (.ref (As K c)) f=_s _n/\W.keepIn K (.ref (As K c))=_t/\GM K c q "__init__" t
theorem Xw(g:GX K c f q st):XCl K (As K c) f:=⟨YM g.2.1,g.2.2.1,g.2.2.2.1,g.2.2.2.2.1,g.2.2.2.2.2.1⟩
theorem pH(g:GX K c f q st):XMk K (As K c) f (Xd K c "__init__"):=⟨Xw g,g.2.2.2.2.2.2.2.1,⟨_,g.2.2.2.2.2.2.2.2.1,rfl⟩,g.2.2.2.2.2.2.1⟩
inductive zEE (M:Md) (st:G5) (f:Str):Prop
 | mk {a b:Str} {p1 p2 p3 p4:Pos} (e:AZ st=[.Assign [.Attribute (.Name a p1) f p2] (.Name b p3) p4])
  (h:(Ng (AH st) (AF st) (AE st)&&decide ((AF st).length=2)&&decide ((AH st).length=2)&&(lv (Gd M [] st [] 0) a==_s 0)&&(lv (Gd M [] st [] 0) b==_s 1))=_t)
theorem km{io:List Nat}{ro:Nat}{CX:VM}{zV:_v}{A:G3}{outer:List Env}{H:Hp}{E:XK}(b:Bs M K mg)(h:Fs P w K mg base M.fl k fs)(S:zp (AH st) (AF st) (AE st))(d:y9 k (A.deeper (W9 qual (AE st) s.heap.objs.size fa zV))) :
    zB (Gd M fs st io ro) (Dh CX P w K mg base (AH st) qual (AE st) fa zV A outer s H E).zo:=⟨rfl,rfl,S.nd,rfl,λ_ _=>rfl,⟨rfl,k,d⟩,λy t q=>by obtain⟨a,b,j,g,q⟩:=h y t q;exact⟨a,b,j,k,g,d,q⟩,b.cs,b.bl,rfl⟩
theorem aH{fI:A8}(b:Bs M K mg)(cl:XCl K C f)(i:Fun K x q st fI fd)(hi:zEE M st f):(AF st).length=2/\zI P w K mg base Gq 1 fI fd (AF st) (Iv C f):=by
 obtain⟨a,h4⟩:=hi;simp only[A2,decide_eq_true_eq]at h4;refine⟨h4.1.1.1.2,i.ok (k:=0) (GB h4.1.1.1.1) (λvs H Q E z=>?_) λzV A outer s H vs Q E d z=>?_⟩;obtain⟨e,x,ev,_⟩:=z;rw[ev,h4.1.1.1.2];rfl;obtain⟨e,x,ev,h,g⟩:=z;have ok:zB (Gd M [] st [] 0) (Dh Gq P w K mg base (AH st) q (AE st) fI zV A outer s H E).zo:=km b (Fs.nil (k:=0)) (GB h4.1.1.1.1) d;rw[a];refine⟨_,GP (bN cl (Rz ok (eq_of_beq h4.1.2)) (Rz ok (eq_of_beq h4.2)) rfl) MT,?_⟩;subst ev;have es:L2.start (AH st) [.ref e,x]=[_s (.ref e),_s x]:=by unfold L2.start;rw[h4.1.1.2];rfl
 exact⟨e,x,by rw[es];rfl,by rw[es];rfl,h,λdx z y=>g dx z y⟩
def Xk(P:E8)(w:G7)(K:W.Frag)(mg:Str->Option _v)(base:G2)(cx:Xs):Prop:=∀c f,(c,f)∈cx->∃fI fd ps,XMk K (As K c) f fI/\zI P w K mg base Gq 1 fI fd ps (Iv (As K c) f)/\ps.length=2/\mg c=_s (.ref (As K c))/\L2.Binds K fd ps []
theorem Xk.nil:Xk P w K mg base []:=λ_ _ h=>by cases h
theorem Xk.cons(h:Xk P w K mg base cx)(b:Bs M K mg)(g:GX K c f q st)(hm:mg c=_s (.ref (As K c)))(hi:zEE M st f)(l:PD "__init__" q st):Xk P w K mg base ((c,f)::cx):=λo m a=>by
 rcases C9.mp a with e|e
 cases e;have d:=g.2.2.2.2.2.2.2;have j:Fun K "__init__" q st (Xd K c "__init__") _:=Mi d.2.1 d.2.2.1 d.2.2.2.1;have i:=aH (P:=P) (w:=w) (base:=base) b (Xw g) j hi;exact⟨_,_,_,pH g,i.2,i.1,hm,j.binds l⟩;exact h o m e
end
structure Hn where
 dn:Str
 n:Str
 c:Str
 y:Str
 f:Str
def frz(Γ:Gm):Bool:=Γ.all λo=>match o with|some n=>n==0|none=>_t
theorem kY(h:frz Γ=_t):∀(i o:Nat),Γ[i]?=_s (_s o)->o=0:=λi o e=>by have:=(E4.mp h) _ (K5 e);exact eq_of_beq this
def sG(Γ:Gm):Gm:=Γ.map λo=>o.map λ_=>0
noncomputable def cg(sc:M4)(x:Str):Bool:=match sc.names.lookup x with
 |some .local=>_t
 |_=>_f
theorem SI{sc:M4}(h:cg sc x=_t):sc.names.lookup x=_s .local:=by unfold cg at h;split at h;assumption;cases h
structure Xc (K:W.Frag) (mg:Str->Option _v) (h:Hn):Prop where
 cl:XCl K (As K h.c) h.f
 up:XD K (As K h.dn)
 bl:below K (As K h.c) (As K h.dn)=_t
 mc:mg h.c=_s (.ref (As K h.c))
 md:mg h.dn=_s (.ref (As K h.dn))
def JJ(M:Md)(fs:List (Str×zN))(cx:Xs)(xd:IA)(st:G5)(io:List Nat)(ro:Nat)(ds:List Dv):Option Ex:=NQ (cmp 100) (Gd M fs st io ro) cx xd 100 (Kg (AH st).length (AF st).length io) (AZ st) (ds++C5 ((AH st).length-(AF st).length) .yw)
theorem cw{P:E8}{w:G7}{K:W.Frag}{mg:Str->Option _v}{base:G2}{f:A8}{N ps:List Str}{k:Nat}{io:List Nat}{xs:M->Option Ex}{xf:List Dv->Option Ex}(t:Fun K x qual st f fd)(S:zp N ps (AE st))(hn:ps.length<=N.length)
    (m:∀(zV:_v)(A:G3)(outer:List Env)(s':A5)(H:Hp)(E:XK),y9 k (A.deeper (W9 qual (AE st) s'.heap.objs.size f zV))->Fv (Dh (Sx P w) P w K mg base N qual (AE st) f zV A outer s' H E) (AZ st) (tX K (Kg N.length ps.length io) xs))
    (c:∀ds r,ds.length=ps.length->xf ds=_s r->xs (ds++C5 (N.length-ps.length) .yw)=_s r):zI P w K mg base (Sx P w) (k+1) f fd ps (zAd K ps.length io xf):=by
  obtain⟨oc,od,kV,doc,pm,an,zV,ct,osl,rfl,lk,h⟩:=t.ex;have i:(Kb ps.length io).length=ps.length:=by unfold Kb;simp
  have len:∀vs H Q E,zAd K ps.length io xf vs H Q E->vs.length=ps.length:=λvs H Q E ⟨g,ds,b,r,_,_,_⟩=>by have:=r.len.2;rw[i]at this;simpa using this
  refine zBt lk h S len λA outer s H vs Q E l d=>⟨λD σ H'=>σ=L2.start N vs/\H'=H,λpins s' σ H' D I ⟨p,o⟩=>?_,rfl,rfl⟩;subst p o;obtain⟨g,ds,b,r,res,e,q⟩:=d;have l1:=r.len.1;have l2:=r.len.2;rw[i]at l1 l2;rw[B9]at l2;have j:Rel K g H' (Kg N.length ps.length io) (ds++C5 (N.length-ps.length) .yw) (L2.start N vs) b:=by unfold L2.start Kg;rw[l2];exact r.pad _
  exact m zV A outer s H' E l pins s' _ H' (WR K g b H' res) _ I ⟨g,_,b,j,res,c ds res l1 e,λa C dx u z=>z⟩ (leave WR.stb q)
section
variable{P:E8}{w:G7}{K:W.Frag}{mg:Str->Option _v}{base:G2}{st:G5}{M:Md}
def Hz(P:E8)(w:G7)(K:W.Frag)(mg:Str->Option _v)(base:G2)(k:Nat)(xd:IA):Prop:=∀x s,(x,s)∈xd->s.io.Nodup/\(∀i∈s.io,i < s.n)/\match s.cl with
 |none=>∃j fd ps,j<=k/\zI P w K mg base (Sx P w) j (As K x) fd ps (zAd K s.n s.io s.xf)/\mg x=_s (.ref (As K x))/\W.keepIn K (.ref (As K x))=_t/\L2.Binds K fd ps []
 |some c=>∃j fd ps a,j<=k/\zI P w K mg base (Sx P w) j a fd ps (zAd K s.n s.io s.xf)/\Meth K (As K c) x a/\Cls K (As K c)/\L2.Binds K fd ps []
theorem Hz.nil:Hz P w K mg base k []:=λ_ _ h=>by cases h
theorem Hz.mono{l:Nat}(h:Hz P w K mg base k xd)(f:k<=l):Hz P w K mg base l xd:=λx s q=>by
 obtain⟨a,b,c⟩:=h x s q;refine⟨a,b,?_⟩;cases hc:s.cl with|none=>rw[hc]at c;obtain⟨j,fd,ps,d,c⟩:=c;exact⟨j,fd,ps,D0 d f,c⟩|some cl=>rw[hc]at c;obtain⟨j,fd,ps,g,d,c⟩:=c;exact⟨j,fd,ps,g,D0 d f,c⟩
theorem gP{io:List Nat}{ro:Nat}{zV:_v}{A:G3}{outer:List Env}{H:Hp}{E:XK}(b:Bs M K mg)(h:Fs P w K mg base M.fl k fs)(u:Xk P w K mg base cx)(hd:Hz P w K mg base k xd)(y:2<=k)(S:zp (AH st) (AF st) (AE st))(d:y9 k (A.deeper (W9 qual (AE st) s.heap.objs.size fa zV))) :
    XCx (Dh (Sx P w) P w K mg base (AH st) qual (AE st) fa zV A outer s H E) (Gd M fs st io ro) cx xd:=by
  refine⟨km b h S d,rfl,rfl,rfl,rfl,λc f hc=>?_,λx s' v=>?_⟩;obtain⟨fI,fd,ps,t,r,p,o,m⟩:=u c f hc;exact⟨fI,fd,ps,1,t,r,p,d.mono y,o,m⟩;obtain⟨l,i,a⟩:=hd x s' v;refine⟨l,i,?_⟩;cases hc:s'.cl with|none=>rw[hc]at a;obtain⟨j,fd,ps,g,q,c⟩:=a;exact⟨j,fd,ps,q,d.mono g,c⟩|some cl=>rw[hc]at a;obtain⟨j,fd,ps,z,g,q,c⟩:=a;exact⟨j,fd,ps,z,q,d.mono g,c⟩
theorem Oj{x qual:Str}{fa:A8}{fd:N1}{io:List Nat}{ro:Nat}{a:List Dv->Option Ex}(b:Bs M K mg)(h:Fs P w K mg base M.fl k fs)(c:Xk P w K mg base cx)(hd:Hz P w K mg base k xd)(g:2<=k)(m:Ng (AH st) (AF st) (AE st)=_t)(l:(AF st).length<=(AH st).length)
    (j:∀ds,ds.length=(AF st).length->JJ M fs cx xd st io ro ds=a ds) (o:Fun K x qual st fa fd):zI P w K mg base (Sx P w) (k+1) fa fd (AF st) (zAd K (AF st).length io a):=by
  have S:=GB m;refine cw (N:=AH st) (xs:=NQ (cmp 100) (Gd M fs st io ro) cx xd 100 (Kg (AH st).length (AF st).length io) (AZ st)) o S l (λzV A outer s' H E d=>?_) λds r f i=>(j ds f).trans i;exact ME (NB 100▸FG 100) 100 (gP b h c hd g S d) _ _
theorem Hz.def{x:Str}{ro:Nat}{c:List Dv->Option Ex}(hd:Hz P w K mg base k xd)(b:Bs M K mg)(h:Fs P w K mg base M.fl k fs)(f:Xk P w K mg base cx)(g:2<=k)(o:Ng (AH st) (AF st) (AE st)=_t)(m:(AF st).length<=(AH st).length)(hn:(AF st).length=n)(nd:io.Nodup)(d:(io.all λi=>decide (i < n))=_t)
    (l:∀ds,ds.length=(AF st).length->JJ M fs cx xd st io ro ds=c ds) (a:GF K x st) (hm:mg x=_s (.ref (As K x))) (j:Zx x st):Hz P w K mg base (k+1) ((x,⟨n,io,_n,c⟩)::xd):=λy s q=>by
  rcases C9.mp q with q|q
  cases q;subst hn;exact⟨nd,λi hi=>of_decide_eq_true (E4.mp d i hi),_,_,_,C4 _,Oj b h f hd g o m l (QR a),hm,a.2.2.2,(QR a).binds j⟩;exact(hd.mono (Y2 k)) y s q
theorem Hz.zCd{cl q x:Str}{ro:Nat}{c:List Dv->Option Ex}(hd:Hz P w K mg base k xd)(b:Bs M K mg)(h:Fs P w K mg base M.fl k fs)(g:Xk P w K mg base cx)(j:2<=k)(r:Ng (AH st) (AF st) (AE st)=_t)(p:(AF st).length<=(AH st).length)(hn:(AF st).length=n)(nd:io.Nodup)(f:(io.all λi=>decide (i < n))=_t)
    (m:∀ds,ds.length=(AF st).length->JJ M fs cx xd st io ro ds=c ds) (a:GM K cl q x st) (o:GC K cl M.fl) (l:PD x q st):Hz P w K mg base (k+1) ((x,⟨n,io,_s cl,c⟩)::xd):=λy s z=>by
  have d:Fun K x q st (Xd K cl x) _:=Mi a.2.1 a.2.2.1 a.2.2.2.1;rcases C9.mp z with z|z
  cases z;subst hn;exact⟨nd,λi hi=>of_decide_eq_true (E4.mp f i hi),_,_,_,_,C4 _,Oj b h g hd j r p m d,⟨a.1,a.2.2.2.2,a.2.2.2.1⟩,(YC o).1,d.binds l⟩;exact(hd.mono (Y2 k)) y s z
end
section
variable{Y:Cx}{C:A8}{f n y w:Str}{i j:Nat}
abbrev Jg(n y f w:Str)(k x1:Nat)(p1 p2 p3 p4 p5 p6:Pos):List G5:=[.Assign [.Name y p1] (.Tuple [.Constant (.str w) k p2,.Attribute (.Name n p3) f p4] x1 p5) p6]
def uJ(C:A8)(f w:Str)(i j:Nat):TS:=λD σ H=>∃a dx T v,σ[i]?=_s (_s (.ref a))/\H a=_s (.ext (FS a C dx T))/\H dx=_s (.xd [(f,v)])/\∀p,H p=_n->D.nx (σ.set j (_s (.ref p))) (upd H p (.tup [.str w,v]))
theorem oH{x1:Nat}{p1 p2 p3 p4 p5 p6:Pos}(cl:XCl Y.K C f)(h:Y.N.Nodup)(hi:Y.N[i]?=_s n)(d:Y.env.scope.names.lookup n=_s .local)(hn:OG n=_t)(g:Y.N[j]?=_s y)(b:Y.env.scope.names.lookup y=_s .local):Cu Y (Jg n y f w k x1 p1 p2 p3 p4 p5 p6) (uJ C f w i j):=by have c:PE Y (.Name n p3) (Cb i):=Wp hi (.inl d) (Bm hn).1 (Bm hn).2.1;have b1:PS Y (.Assign [.Name y p1] (.Tuple [.Constant (.str w) k p2,.Attribute (.Name n p3) f p4] x1 p5) p6) _:=WZ h g (.inl b) (Wq (CL Wr (CL (bc cl c rfl) MY rfl) rfl)) rfl (.inr b);refine Cu.imp (GP b1 (MT (X:=Y))) λD σ H ⟨a,dx,T,v,h1,h2,h3,q⟩=>?_;exact⟨a,dx,T,v,h1,h2,h3,(show 2<=sizeLine by decide),λp hp=>q p hp⟩
end
def QW(x:M->Option Ex)(c f:Str)(a:List Nat)(j:Nat)(b:Es):Es:=λR m k=>match x m with
 |some r=>bif r.c==c&&r.f==f then k.nx (m.set j (.tup [.str a,r.d]))else _n
 |none=>b R m k
theorem iM{X:Cx}{F:Fr}{yz:Option Gm}{h Γn:Gm}{js:List Nat}{fb:Es}{x:M->Option Ex}{st:G5}{dn n c y f w:Str}{i j k x1:Nat}{D:A8}{np hpos pos p1 p2 p3 p4 p5 p6:Pos}
    (zr:X.stack=X.env::X.outer) (hf:X.env.frame=_s X.env.locals) (zY:F.io=[]) (hz:∀(i o:Nat),h[i]?=_s (_s o)->o=0)
    (hb:Cu X.zo [st] (tS X.K F yz h (_s Γn) js fb)) (hx:∀E,VJ (X.zE E) st (tX X.K h x))
    (cl:XCl X.K (As X.K c) f) (cD:XD X.K D) (bl:below X.K (As X.K c) D=_t) (gD:Gl X dn) (mD:X.mg dn=_s (.ref D)) (oD:OG dn=_t)
    (hN:X.N.Nodup) (hi:X.N[i]?=_s n) (hl:X.env.scope.names.lookup n=_s .local) (hn:OG n=_t) (hj:X.N[j]?=_s y) (hy:X.env.scope.names.lookup y=_s .local)
    (Q:h[i]?=_s _n) (hj0:j < h.length) (ij:i≠j) (hw:Bc Γn (h.set j (_s 1))=_t) :
    PS X (.Try [st] [.ExceptHandler (_s (.Name dn np)) (_s n) (Jg n y f w k x1 p1 p2 p3 p4 p5 p6) hpos] [] [] pos) (tS X.K F yz h (_s Γn) (j::js) (QW x c f w.cps.toList j fb)):=by
  intro pins s σ H De I ⟨g,m,P,r,R,k1,res,e,q⟩;have hP:=bA hz r;refine wpAny_Try_except ?_;generalize hE:(fun(e:_v) (y0:A5)=>B4 (C7 X.prog X.w) X.A (V0 e X.env) (λ_ z7=>B4 (C7 X.prog X.w) X.A (d6 e _n) (λ_ U=>B4 (C7 X.prog X.w) X.A (handleBy e X.env [.ExceptHandler (_s (.Name dn np)) (_s n) (Jg n y f w k x1 p1 p2 p3 p4 p5 p6) hpos]) (SP X pins De) X.xe U) X.xe z7) X.xe y0)=E;unfold QW at e;cases q0:x m with
  |none=>
    rw[q0]at e;have hb':Cu (X.zE E) [st] (tS X.K F yz h (_s Γn) js fb):=Cu.zo (X:=X.zE E) hb;refine J4 (hb' pins s σ H De (I.zE E) ⟨g,m,P,r,R,k1,res,e,⟨λΓ' m' g' P' σ' H' e G L=>q.nx Γ' m' g' P' σ' H' e G (L.mono λ_ z=>B1 _ z),λd m' g' P' Pv σ' v H' G L=>q.rt d m' g' P' Pv σ' v H' G (L.mono λ_ z=>B1 _ z),λΓ' m' g' P' σ' H' e G L=>q.bk Γ' m' g' P' σ' H' e G (L.mono λ_ z=>B1 _ z),λΓ' m' g' P' σ' H' e G L=>q.ct Γ' m' g' P' σ' H' e G (L.mono λ_ z=>B1 _ z)⟩⟩) (λfl s1 h1=>?_) λ_ _ z=>z;cases fl with|next=>exact X3 h1.zG|brk=>exact h1.zG|cont=>exact h1.zG|ret u=>exact h1.zG
  |some l=>
    rw[q0]at e;have B:(l.c==c&&l.f==f)=true:=by
      cases z:(l.c==c&&l.f==f)with|true=>rfl|false=>simp only[z,cond_false]at e;cases e
    simp only[B,cond_true]at e;rw[A2]at B;have ec:=eq_of_beq B.1;have ef:=eq_of_beq B.2;refine T8 (hx E pins s σ H (WR X.K g P H l) _ (I.zE E) ⟨g,m,P,r,l,q0,λ_ _ _ _ z=>z⟩ λH1 s1 a C dx J u hW=>?_);have S:Inv X pins σ H1 s1:=J.zG;obtain⟨φ,ha⟩:=u.ext;show E (.ref a) s1;rw[<- hE];refine rZ (X:=X) S.ok.frames S u zr hf λt h' I2 en W Z=>?_;obtain⟨eC,na,ne,g',v,KR,nz,hd,rp⟩:=WR.stb a C dx H1 φ (FS a C dx (.ref t)) ha hW;rw[ec]at eC;rw[ef]at hd;subst eC;refine UR (De:=⟨λσ' H'=>De.nx (σ'.set i _n) H',λ_ _=>False,λ_ _=>False,λ_ _=>False⟩) I2 AG en W Z cl cD bl gD mD (Bm oD).1 hN hi hl (oH (Y:=cm X a) (i:=i) (j:=j) cl hN hi hl hn hj hy) ⟨a,dx,.ref t,v,E7 (by rw[S.len];exact(A7.mp hi).1),AG,hd,λp hp=>?_⟩ λfl s4 h4=>?_;generalize hH2:upd H1 a (.ext (FS a (As X.K c) dx (.ref t)))=T at hp KR rp ⊢;have sm:ID T (upd T p (.tup [.str w,v])):=CV hp _;have O:=KR.trans (Step.same (g:=g') (P:=yv) sm);have V:Rep X.K g' (upd T p (.tup [.str w,v])) 1 (.tup [.str w.cps.toList,l.d]) (.ref p) yv:=by
      refine Ds (C4 1) AG ?_;have rv:=rp.held (Step.same (g:=g') (P:=yv) sm) zA.yv λ_ z=>z.elim;have rs:Rep X.K g' (upd T p (.tup [.str w,v])) 0 (.str w.cps.toList) (.str w) yv:=by unfold Rep;exact⟨by rw[Vb],λ_ z=>z⟩
      exact(AA.cons rs (AA.cons rv AA.nil λ_ z=>z.elim) λ_ z=>z.elim).iff λb=>⟨λz=>z.elim,λz=>z.elim id λz=>z.elim id id⟩
    have r1:=r.held O r.y6 (λb z _=>hP b z);obtain⟨P2,r2,s2⟩:=r1.drop j (.tup [.str w.cps.toList,l.d]) (_s (.ref p));have lj:j < σ.length:=by rw[S.len];exact(A7.mp hj).1
    obtain⟨P3,r3,s3⟩:=r2.putIn hj0 (E7 lj) V (λ_ z=>z.elim);rw[wo]at r3;obtain⟨P4,r4,s4⟩:=r3.drop i (M.at (m.set j (.tup [.str w.cps.toList,l.d])) i) _n;have e1:(h.set j (_s 1)).set i _n=h.set j (_s 1):=CP (by rw[D9 (Ne.symm ij)];exact Q);have li:i < (m.set j (Dv.tup [.str w.cps.toList,l.d])).length:=by rw[D8,r.len.1];exact(A7.mp Q).1
    have e2:(m.set j (Dv.tup [.str w.cps.toList,l.d])).set i (M.at (m.set j (.tup [.str w.cps.toList,l.d])) i)=m.set j (.tup [.str w.cps.toList,l.d]):=CP (by rw[Hu (A3 li)];exact A3 li);rw[e1,e2]at r4;have p4:∀b,¬P4 b:=λb z=>(s3 b (s4 b z)).elim (λy=>y) λy=>hP b (s2 b y);obtain⟨g5,P5,s5,r5⟩:=r4.weaken hw;have e3:(((σ.set i (_s (.ref a))).set j (_s (.ref p))).set i _n)=(σ.set j (_s (.ref p))).set i none:=by rw[yI _ _ ij,wo]
    show De.nx (((σ.set i (_s (.ref a))).set j (_s (.ref p))).set i _n) _;rw[e3];exact q.nx Γn (m.set j (.tup [.str w.cps.toList,l.d])) g5 P5 _ _ rfl e ((BU.set (i:=j)).mono λ_ z=>by rw[D5.mp z];exact B2) ((O.less λb z=>(p4 b z).elim).trans s5) (λb z=>by rw[zY]at z;cases z) r5;cases fl with|next=>obtain⟨σ',H',I',q'⟩:=h4;exact Tu (pB I' S.ok) hN hi hl λs' I''=>⟨_,H',I'',q'⟩|brk=>obtain⟨_,_,_,z⟩:=h4;exact z.elim|cont=>obtain⟨_,_,_,z⟩:=h4;exact z.elim|ret u=>obtain⟨_,_,_,_,_,z⟩:=h4;exact z.elim
def so(r:Rec)(C:Cf)(xd:IA)(Γ:Gm)(st:G5):M->Option Ex:=match st with
 |.Expr e _=>MD (gd (Fc e) (_s (xE r C xd Γ 20 e)))
 |.Assign ts e _=>MD ((mK ts).bind λ_=>gd (Fc e) (_s (xE r C xd Γ 20 e)))
 |_=>λ_=>_n
theorem gS{r:Rec}(a:zJ r)(h:XCx X C cx xd)(Γ:Gm)(st:G5):VJ X st (tX X.K Γ (so r C xd Γ st)):=by
 have no:∀st,VJ X st (tX X.K Γ λ_=>_n):=λe _ _ _ _ _ _ _ z _=>by cases z with|mk _ _ _ _ _ e _=>cases e
 cases st with
 |Expr e pos=>
  show VJ X _ (tX X.K Γ (MD (gd (Fc e) _)));cases hn:Fc e with|true=>exact Rk (Ig a h Γ 20 _) (CO hn)|false=>exact no _
 |Assign ts e pos=>
  show VJ X _ (tX X.K Γ (MD ((mK ts).bind λ_=>gd (Fc e) _)));cases ht:mK ts with
  |none=>exact no _
  |some x=>
   obtain⟨p,rfl⟩:=VT ht;cases hn:Fc e with|true=>exact Pq (Ig a h Γ 20 _) (CO hn)|false=>exact no _
 |_=>exact no _
noncomputable def mS:G5->G5
 |.Try (s::_) _ _ _ _=>s
 |s=>s
inductive zEC (st:G5) (h:Hn×Str):Prop
 |mk {s0 s1:G5} {rest:List G5} {np hpos pos p1 p2 p3 p4 p5 p6:Pos} {k x1:Nat} (e:AZ st=s0::.Try [s1] [.ExceptHandler (_s (.Name h.1.dn np)) (_s h.1.n) (Jg h.1.n h.1.y h.1.f h.2 k x1 p1 p2 p3 p4 p5 p6) hpos] [] [] pos::rest)
def gC(r:Rec)(C:Cf)(xd:IA)(h:Hn×Str)(Γ:Gm)(s1:G5):Option CS:=(_s (sG Γ)).bind λa=>(r.Ss C _n a [s1]).bind λb=>b.Γ.bind λΓn=>(Co C.N h.1.n).bind λi=>(Co C.N h.1.y).bind λj =>
 gd (C.F.io.isEmpty&&frz a&&Kd C.sc h.1.dn&&OG h.1.dn&&cg C.sc h.1.n&&OG h.1.n&&cg C.sc h.1.y&&(a[i]?==_s _n)&&decide (j < a.length)&&!(i==j)&&Bc Γn (a.set j (_s 1))&&Bc a Γ) (_s ⟨_s Γn,j::b.js,QW (so r C xd a s1) h.1.c h.1.f h.2.cps.toList j b.f,_f,_f,_f⟩)
variable{outer:List Env}
section
variable{P:E8}{w:G7}{K:W.Frag}{mg:Str->Option _v}{base:G2}{st:G5}{M:Md}
theorem ZC{r:Rec}(B:zJ r){N:List Str}{sc:M4}{zV:_v}{A:G3}{s':A5}{E:XK}(z:∀t,XCx ((Dh Gq P w K mg base N qual sc fa zV A outer s' H E).zo.zE t) C [] xd)
    {Γ:Gm} {s1:G5} {h:Hn×Str} {cs:CS} {np hpos pos p1 p2 p3 p4 p5 p6:Pos} {k x1:Nat} (b:Xc K mg h.1) (e:gC r C xd h Γ s1=_s cs):PS (Dh Gq P w K mg base N qual sc fa zV A outer s' H E).zo (.Try [s1] [.ExceptHandler (_s (.Name h.1.dn np)) (_s h.1.n) (Jg h.1.n h.1.y h.1.f h.2 k x1 p1 p2 p3 p4 p5 p6) hpos] [] [] pos) (tS K C.F _n Γ cs.Γ cs.js cs.f):=by
  have ok:zB C (Dh Gq P w K mg base N qual sc fa zV A outer s' H E).zo:=(z λ_ _=>False).ok;refine yt e λc G e=>?_;refine yt e λV O e=>?_;refine yt e λΓn L e=>?_;refine yt e λi J e=>?_;refine yt e λj I e=>?_;obtain⟨hc,e⟩:=zT e;cases e;simp only[A2,J7,decide_eq_true_eq]at hc;obtain⟨⟨⟨⟨⟨⟨⟨⟨⟨⟨⟨U,T⟩,S⟩,R⟩,Q⟩,q⟩,p⟩,o⟩,m⟩,l⟩,g⟩,d⟩:=hc;have v:=ok.N;have u:=ok.sc;have a:=B.Ss ok O;rw[L]at a;have D:=Ck ok S;refine fA d ?_;exact iM (X:=(Dh Gq P w K mg base N qual sc fa zV A outer s' H E).zo) rfl rfl (U3.mp U) (kY T) a (λt=>gS B (z t) c s1) b.cl b.up b.bl D b.md R
    ok.nd (by rw[v];exact BP J) (by rw[u];exact SI Q) q (by rw[v];exact BP I) (by rw[u];exact SI p) (eq_of_beq o) m (by simpa using l) g
end
def aw(M:Md)(fs:List (Str×zN))(st:G5)(ro:Nat)(xd:IA)(h:Hn×Str):Option CS:=match AZ st with
 |s0::t::rest=>((cmp 100).S (Gd M fs st [] ro) _n (Kg (AH st).length (AF st).length []) s0).bind λd=>d.Γ.bind λa=>(gC (cmp 100) (Gd M fs st [] ro) xd h a (mS t)).bind λc=>c.Γ.bind λg=>((cmp 100).Ss (Gd M fs st [] ro) _n g rest).bind λb=>_s ⟨b.Γ,d.js++(c.js++b.js),dC d.f (dC c.f b.f),_f,_f,_f⟩
 |_=>_n
def Rb(M:Md)(fs:List (Str×zN))(st:G5)(ro:Nat)(xd:IA)(h:Hn×Str)(ds:List Dv):Option Dv:=match aw M fs st ro xd h with
 |some c=>c.f Dv (ds++C5 ((AH st).length-(AF st).length) .yw) (kJ [])
 |none=>_n
def dJ(M:Md)(fs:List (Str×zN))(st:G5)(ro:Nat)(xd:IA)(h:Hn×Str):Bool:=Ng (AH st) (AF st) (AE st)&&decide ((AF st).length<=(AH st).length)&&match aw M fs st ro xd h with
 |some c=>IM (_s (Np (AH st).length [])) c.Γ
 |none=>_f
section
variable{P:E8}{w:G7}{K:W.Frag}{mg:Str->Option _v}{base:G2}{st:G5}{M:Md}
theorem dI{B ro:Nat}{y qual:Str}{fa:A8}{fd:N1}{nb:Bool}{F:List Dv->Option Dv}{hd:Hn×Str}(b:Bs M K mg)(h:Fs P w K mg base M.fl k fs)(D:Hz P w K mg base B xd)(G:B<=k)(hT:zEC st hd)(U:Xc K mg hd.1)
    (c:dJ M fs st ro xd hd=_t) (V:∀ds,ds.length=(AF st).length->Rb M fs st ro xd hd ds=F ds) (Fn:Fun K y qual st fa fd):zI P w K mg base Gq (k+1) fa fd (AF st) (spF K (GS (AF st) [] ro nb F)):=by
  unfold dJ at c;simp only[A2,decide_eq_true_eq]at c;obtain⟨⟨c1,c4⟩,o⟩:=c;cases e:aw M fs st ro xd hd with
  |none=>rw[e]at o;cases o
  |some cs=>
    rw[e]at o;have S:=GB c1;refine fY (s:=GS (AF st) [] ro nb F) (N:=AH st) (body:=cs.f) (Γn:=cs.Γ) (js:=cs.js) Fn S yE (λ_ z=>nomatch z) c4 o (λzV A outer s' H E a=>?_) λds d bs R T=>?_;have ok:zB (Gd M fs st [] ro) (Dh Gq P w K mg base (AH st) qual (AE st) fa zV A outer s' H E).zo:=km b h S a;have Y:∀J,XCx ((Dh Gq P w K mg base (AH st) qual (AE st) fa zV A outer s' H E).zo.zE J) (Gd M fs st [] ro) [] xd:=λJ=>⟨ok,rfl,rfl,rfl,rfl,λ_ _ z=>(by cases z),λx s' Q=>by
      obtain⟨l,i,g⟩:=D x s' Q;refine⟨l,i,?_⟩;cases hc:s'.cl with|none=>rw[hc]at g;obtain⟨j,fd,ps,p,q,c⟩:=g;exact⟨j,fd,ps,q,a.mono (D0 p G),c⟩|some cl=>rw[hc]at g;obtain⟨j,fd,ps,Z,p,q,c⟩:=g;exact⟨j,fd,ps,Z,q,a.mono (D0 p G),c⟩⟩
    unfold aw at e;obtain @⟨s0,s1,rest,np,hpos,pos,p1,p2,p3,p4,p5,p6,O,x1,I⟩:=hT;rw[NB,I]at e;rw[I];refine yt e λv u e=>?_;refine yt e λL r e=>?_;refine yt e λl e3 e=>?_;refine yt e λzL e4 e=>?_;refine yt e λi e5 e=>?_;cases e;have h0:=(FG 100).S ok u;have h1:=ZC (np:=np) (hpos:=hpos) (pos:=pos) (p1:=p1) (p2:=p2) (p3:=p3) (p4:=p4) (p5:=p5) (p6:=p6) (k:=O) (x1:=x1) (FG 100) Y U e3;have h2:=(FG 100).Ss ok e5;rw[r]at h0;rw[e4]at h1;exact Pj (f:=v.f) (js:=v.js) h0 (Pj (f:=l.f) (f2:=i.f) (js:=l.js) (js2:=i.js) h1 h2);have a:=V ds R;unfold Rb at a;rw[e]at a;refine yt (show(F ds).bind _=_s (d,bs)from T) λt u r=>?_;cases r;refine⟨_,kJ [],t,a.trans u,λm z=>?_,λd' m z=>?_⟩;have z:_s (Zz [] .yw m)=_s t:=z;cases z;exact⟨SL [] _ m,RN [] _ m⟩;have z:_s (Zz [] d' m)=_s t:=z;cases z;exact⟨SL [] _ m,RN [] _ m⟩
theorem Fs.zEw{d ro:Nat}{y:Str}{nb:Bool}{F:List Dv->Option Dv}{hd:Hn×Str}(h:Fs P w K mg base M.fl k fs)(b:Bs M K mg)(D:Hz P w K mg base d xd)(f:d<=k)(hT:zEC st hd)(i:Xc K mg hd.1)
    (c:dJ M fs st ro xd hd=_t) (j:∀ds,ds.length=(AF st).length->Rb M fs st ro xd hd ds=F ds) (a:GF K y st) (hm:mg y=_s (.ref (As K y))) (g:Zx y st):Fs P w K mg base M.fl (k+1) ((y,GS (AF st) [] ro nb F)::fs):=
  h.cons yE (λ_ z=>nomatch z) rfl ⟨_,_,dI b h D f hT i c j (QR a),hm,a.2.2.2,(QR a).binds g⟩
end
end R
namespace My
open PySem L2 R
theorem tP{K:W.Frag}{o:Nat}{r:Sr}:AN K (λ_=>_n) o r:=λ_ _ _ _ _ _ _ _ e _=>by cases e
theorem rY{K:W.Frag}{o:Nat}{r:Sr}:AN K (one λ_=>_n) o r:=λ_ _ ds _ _ _ _ _ e _=>by unfold one at e;split at e<;>cases e
theorem uQ{K:W.Frag}{o:Nat}{r:Sr}:AN K (two λ_ _=>_n) o r:=λ_ _ ds _ _ _ _ _ e _=>by unfold two at e;split at e<;>cases e
def tb:Tb where
 zDz:=[⟨.Add,Ad,λX h=>⟨_,cF X.K,jC⟩⟩,
  ⟨.Sub,Zp,λX h=>⟨_,jU,bV⟩⟩,
  ⟨.Mult,EF,λX h=>⟨_,jY.or (jV.or L4.zCU),iw⟩⟩,
  ⟨.Mod,Ek,λX h=>⟨_,jZ,MU λ_ _ h=>of_decide_eq_true h⟩⟩,
  ⟨.FloorDiv,Zr,λX h=>⟨_,cA,MU λ_ _ h=>by rw[A2,decide_eq_true_eq,decide_eq_true_eq]at h;exact h⟩⟩,
  ⟨.Pow,lQ,λX h=>⟨_,jW,MU λ_ _ h=>by rw[A2,A2,decide_eq_true_eq,decide_eq_true_eq,decide_eq_true_eq]at h;exact⟨h.1.1,h.1.2,h.2⟩⟩⟩]
 zBX:=[⟨.Eq,Zf,λX h=>⟨_,L3.zCw h.2.choose_spec,Wf⟩⟩,
  ⟨.NotEq,lu,λX h=>⟨_,L3.zCt h.2.choose_spec,Wf⟩⟩,
  ⟨.Lt,VN,λX h=>⟨_,oU,II⟩⟩,
  ⟨.LtE,qW,λX h=>⟨_,oV,II⟩⟩,
  ⟨.Gt,qp,λX h=>⟨_,oW,II⟩⟩,
  ⟨.GtE,dw,λX h=>⟨_,oX,II⟩⟩,
  ⟨.In,Qs,λX h=>⟨_,(Q.zCu h.2.choose_spec).or (jX (Xv h)),We⟩⟩,
  ⟨.NotIn,EE,λX h=>⟨_,(Q.zBv h.2.choose_spec).or (bz (Xv h)),We⟩⟩,
  ⟨.Is,Qr,λX h=>⟨_,jd.or je,jA⟩⟩,
  ⟨.IsNot,Lw,λX h=>⟨_,bw.or bx,bP⟩⟩]
 calls:=[⟨"len", 1,1,one Au,λX h=>⟨_,iy,.inl ⟨_,(Ur X.K).or Ql,PySem.boot_len⟩⟩⟩,
  ⟨"tuple", 1,1,one AS,λX h=>⟨_,Wc,.inr ⟨_,Oo X.K,PyProof.Rows.Boot.«tuple»⟩⟩⟩,
  ⟨"int", 1,1,one Lz,λX h=>⟨_,bU,.inr ⟨_,Uv,PyProof.Rows.Boot.«int»⟩⟩⟩,
  ⟨"max", 1,1,one FQ,λX h=>⟨_,bQ,.inl ⟨_,Qk X.K rfl h.1,PyProof.Rows.Boot.«max»⟩⟩⟩,
  ⟨"max", 2,1,two Hv,λX h=>⟨_,bS,.inl ⟨_,Uq h.1,PyProof.Rows.Boot.«max»⟩⟩⟩,
  ⟨"isinstance", 2,1,two Zq,λX h=>⟨_,iz,.inl ⟨_,Uu X.K,PyProof.Rows.Boot.«isinstance»⟩⟩⟩]
 meths:=[⟨"join", 1, "str", 1,two KG,.inl (.inr (.inl rfl)),λX h=>⟨_,_,vH,PySem.F.slot_str_join,PySem.F.type_str_join,XM X.K,bT⟩⟩,
  ⟨"upper", 0, "str", 1,one Fu,.inl (.inr (.inl rfl)),λX h=>⟨_,_,vH,PySem.F.slot_str_upper,PySem.F.type_str_upper,XJ,Wb⟩⟩,
  ⟨"index", 1, "list", 1,two El,.inl (.inl rfl),λX h=>⟨_,_,Y9,PySem.F.slot_list_index,PySem.F.type_list_index,Q.zBx h.2.choose_spec,Wd⟩⟩,
  ⟨"index", 1, "tuple", 1,two DH,.inr ⟨rfl,rfl⟩,λX h=>⟨_,_,PySem.F.plainAttrs_tuple,PySem.F.slot_tuple_index,PySem.F.type_tuple_index,Q.zBe h.2.choose_spec,Tc⟩⟩]
 zDZ:=[⟨"append", 1, "list", Aa,.inl rfl,λX h=>⟨_,_,Y9,PySem.F.slot_list_append,PySem.F.type_list_append,UB,Tw⟩⟩,
  ⟨"extend", 1, "list", EG,.inl rfl,λX h=>⟨_,_,Y9,PySem.F.slot_list_extend,PySem.F.type_list_extend,VP.or UA QJ,Tv⟩⟩]
 zDU:=[⟨"range", 1,_f,CZ,λX h=>⟨_,Vu,λtg es p pos ta _ hn c d hm ha=>by obtain⟨a,rfl⟩:=sJ hn;exact Th d hm ha (AJ (by simpa using c))⟩⟩,
  ⟨"range", 2,_f,KY,λX h=>⟨_,Vt,λtg es p pos ta _ hn c d hm ha=>by
   obtain⟨a,b,rfl⟩:=tm hn;have z:noStar a=_t/\noStar b=true:=by simpa using c
   exact Tf d hm ha ((AJ z.1).trans (by rw[AJ z.2];rfl)) (AJ z.2)⟩⟩,
  ⟨"zip", 2,_t,DW,λX h=>⟨_,Vs,λtg es p pos ta g hn c d hm ha=>by
   obtain⟨e,x1,f,rfl⟩:=eM (g rfl);obtain⟨a,b,rfl⟩:=tm hn;have z:noStar a=_t/\noStar b=true:=by simpa using c
   exact bZ X.K d hm ha rfl (AJ z.1) (BI (by simp[z.2]))⟩⟩,
  ⟨"enumerate", 1,_t,Ra,λX h=>⟨_,Vv,λtg es p pos ta g hn c d hm ha=>by obtain⟨e,x1,f,rfl⟩:=eM (g rfl);obtain⟨a,rfl⟩:=sJ hn;exact Wj X.K d hm ha rfl (AJ (by simpa using c))⟩⟩]
 ix:=AB
 zDg:=λX h=>⟨_,rk X.K,jB⟩
 sl:=NI
 zDV:=λX h=>⟨_,rT X.K,oJ⟩
 tru:=Zo
 zDN:=aQ
 lr:=λ_=>_n
 zEU:=λX h=>tP
 tr:=λ_=>_n
 zDM:=λX h=>tP
 md:=Ly
 zDc:=λX h=>bR
 rv:=λ_ _=>_n
 zEM:=λX h=>uQ
 lv:=λ_=>_n
 zET:=λX h=>rY
 ss:=λ_=>_n
 zEK:=λX h=>rY
 le:=λ_=>_n
 zEV:=λX h=>rY
 st:=Bq
 zCp:=λX h=>⟨_,aq.or (iK (Xv h)),iL⟩
noncomputable def top(i:Nat):G5:=PySem.Challenge.pw_shapefree_k69_rows_gained.main.body.getD i (.Pass ⟨0,0,0,0⟩)
def Tz(i j:Nat):G5:=match top i with|.ClassDef _ _ _ a _ _ _ _ _ _ _=>a.getD j (.Pass ⟨0,0,0,0⟩)|s=>s
noncomputable def pX:List Str:=["most", "listed", "seen"]
def md:Md:=⟨tb,[],["len", "range", "tuple", "list", "zip", "isinstance", "enumerate", "all", "any", "int", "bool", "str", "sum", "max", "min", "reversed", "sorted", "dict", "repr", "set", "abs", "type", "ord", "chr"],pX,["listed", "seen"]⟩
noncomputable def sE:List (Str×zN):=[]
def rE:IA:=[]
def Bx(a:Dv):Option Dv:=
(AB a (.int 0)).bind λb=>_s b
def Ph(b:Dv):Option Dv:=
(AB b (.int 0)).bind λa=>_s a
def JA(b c:Dv):Option Dv:=
Q8 ((AB b (.int 1)).bind λh=>(items h).bind λd=>Cd d ((AO Bx d).bind λe=>EN "list" (.lst e) (
(El (.lst e) c).bind λi=>_s i))) ((AB b (.int 1)).bind λj=>(items j).bind λf=>Cd f ((AO Ph f).bind λa=>EN "tuple" (.lst a) (
(DH (.lst a) c).bind λg=>_s g)))
def Ec(c d e:Dv):Option Dv:=
(AB d (.int 2)).bind λf=>((JA c e)).bind λa=>(AB f a).bind λb=>_s b
theorem UZ:Gj md sE (top 4) [] 0 (DT Ec):=FH 3 (by kernel_rfl) λ_ _ _=>by kernel_rfl
def tj:List (Str×zN):=GA "table_in" (top 4) sE [] 0 _f (DT Ec)
def FV(a b:Dv):Option Dv:=
Q8 ((AB a (.int 0)).bind λc=>EN "list" c (
(El c b).bind λe=>_s e)) ((AB a (.int 0)).bind λd=>EN "tuple" d (
(DH d b).bind λf=>_s f))
def GI(a b c:Dv):Option Dv:=
(AB b (.int 1)).bind λd=>((FV a c)).bind λe=>(AB d e).bind λf=>_s f
theorem Uc:Gj md tj (top 5) [] 0 (DT GI):=FH 3 (by kernel_rfl) λ_ _ _=>by kernel_rfl
def qm:List (Str×zN):=GA "fixed_in" (top 5) tj [] 0 _f (DT GI)
def DJ(a b c:Dv):Option Dv:=
(AB c (.int 0)).bind λd=>(Ec a d b).bind λe=>_s e
def Cz(b c d:Dv):Option Dv:=
(items c).bind λa=>Cd a ((AO (DJ b d) a).bind λe=>_s (.lst e))
theorem Mt:Gj md qm (top 8) [] 1 (DT Cz):=FH 3 (by kernel_rfl) λ_ _ _=>by kernel_rfl
def tf:List (Str×zN):=GA "deed_tables" (top 8) qm [] 1 _f (DT Cz)
def Nh(b:Dv):Option Dv:=
(He [3,4] b).bind fun(a:Dv×Dv)=>(AB a.1 a.2).bind λc=>_s c
def MP(b c:Dv):Option Dv:=
(DW [b,c]).bind λa=>Cd a ((AO Nh a).bind λd=>_s (.lst d))
theorem dD:Gj md tf (top 9) [] 1 (two MP):=FH 2 (by kernel_rfl) λ_ _=>by kernel_rfl
def tZ:List (Str×zN):=GA "led_by" (top 9) tf [] 1 _f (two MP)
def Et(a b:Dv):Option Dv:=
(MP b a).bind λc=>_s c
def Dp(a b c d:Dv):Option Dv:=
(Cz a b c).bind λe=>(items d).bind λf=>(AW Et f e).bind λg=>(AS g).bind λh=>_s h
theorem Yk:Gj md tZ (top 7) [] 1 (Ke Dp):=FH 4 (by kernel_rfl) λ_ _ _ _=>by kernel_rfl
def tY:List (Str×zN):=GA "done_on" (top 7) tZ [] 1 _f (Ke Dp)
def Hl(a b:Dv):Option Dv:=
(He [3,4] b).bind fun(c:Dv×Dv)=>(AB c.2 a).bind λd=>_s d
def Eu(b c:Dv):Option Dv:=
(items b).bind λa=>Cd a ((AO (Hl c) a).bind λd=>(AS (.lst d)).bind λe=>_s e)
theorem Qd:Gj md tY (top 11) [] 1 (two Eu):=FH 2 (by kernel_rfl) λ_ _=>by kernel_rfl
def tW:List (Str×zN):=GA "input_row" (top 11) tY [] 1 _f (two Eu)
def Hm(a b c:Dv):Option Dv:=
(He [4,5] c).bind fun(d:Dv×Dv)=>(GI a d.1 b).bind λe=>_s e
def Ey(b c d:Dv):Option Dv:=
(items c).bind λa=>Cd a ((AO (Hm b d) a).bind λe=>(AS (.lst e)).bind λf=>_s f)
theorem Qf:Gj md tW (top 12) [] 1 (DT Ey):=FH 3 (by kernel_rfl) λ_ _ _=>by kernel_rfl
def tV:List (Str×zN):=GA "fixed_row" (top 12) tW [] 1 _f (DT Ey)
def FY(a:Dv):Option Dv:=
(He [4,5] a).bind fun(b:Dv×Dv)=>(Au b.2).bind λc=>_s c
def FW(a b:Dv):Option Dv:=
(Eu a b).bind λc=>_s c
def Dm(c d a:Dv):Option Dv:=
(Ey c d a).bind λb=>_s b
def DX(c b:Dv):Option Dv:=
(items b).bind λd=>Cd d ((AO FY d).bind λi=>(Ly (.lst i) (.int 0)).bind λj=>(CZ [j]).bind λe=>Cd e ((AO (FW b) e).bind λk=>(AB c (.int 0)).bind λf=>(items f).bind λa=>Cd a ((AO (Dm c b) a).bind λg=>(Ad (.lst k) (.lst g)).bind λh=>_s h)))
theorem Ua:Gj md tV (top 10) [] 1 (two DX):=FH 2 (by kernel_rfl) λ_ _=>by kernel_rfl
def tU:List (Str×zN):=GA "own_rows" (top 10) tV [] 1 _f (two DX)
def Cq(b a:Dv):Option (Dv×Dv):=
bif Mc a then
(HW b "most" a).bind λc=>(HW c "listed" (.lst [])).bind λd=>(HW d "seen" (.dct [] [])).bind λe=>_s (.yw,e)
else _n
theorem Og:Gj md tU (Tz 14 0) [0] 1 (two Cq):=FH 2 (by kernel_rfl) λ_ _=>by kernel_rfl
def sC:List (Str×zN):=GA "__init__" (Tz 14 0) tU [0] 1 _t (two Cq) (_s "Found")
def Av(a c l m:Dv):Option Ex:=
Q8 (bif CD a "seen" then
(EB a "seen").bind λn=>(Qs c n).bind λo=>if o=_t then
_n
else
_n
else _n) (bif CD a "seen" then
(EB a "seen").bind λp=>(Qs c p).bind λq=>if q=_t then
_n
else
Q8 (bif CD a "listed" then
(EB a "listed").bind λr=>(Au r).bind λs=>(EB a "most").bind λe=>bif Mc e then
(dw s e).bind λt=>if t=_t then
(EB a "most").bind λf=>bif Mc f then
_s (⟨"TooMany", "most", f⟩:Ex)
else _n
else
_n
else _n
else _n) (bif CD a "listed" then
(EB a "listed").bind λu=>(Au u).bind λg=>(EB a "most").bind λd=>bif Mc d then
(dw g d).bind λh=>if h=_t then
_n
else
bif CD a "seen" then
(EB a "seen").bind λi=>(Bq i c (.bl _t)).bind λb=>bif CD (CF a "seen" b) "listed" then
(EB (CF a "seen" b) "listed").bind λj=>EN "list" j (
(EB (CF a "seen" b) "listed").bind λk=>(Aa k [(.tup [c,l,m])]).bind λv=>_n)
else _n
else _n
else _n
else _n)
else _n)
theorem Oe:∀ds,ds.length=(AF (Tz 14 1)).length->JJ md sC [("TooMany", "most")] rE (Tz 14 1) [0] 1 ds=Ke Av ds:=FH 4 (by kernel_rfl) λ_ _ _ _=>by kernel_rfl
def rD:IA:=("put", ⟨4,[0],(_s "Found"),Ke Av⟩)::rE
--zBb Av 9 (Tz 14 1) 4 [0] 0 [("TooMany", "most")]
def Ax(a c f g:Dv):Option (Dv×Dv):=
bif CD a "seen" then
(EB a "seen").bind λh=>(Qs c h).bind λi=>if i=_t then
_s (.yw,a)
else
bif CD a "listed" then
(EB a "listed").bind λj=>(Au j).bind λk=>(EB a "most").bind λd=>bif Mc d then
(dw k d).bind λl=>if l=_t then
_n
else
bif CD a "seen" then
(EB a "seen").bind λm=>(Bq m c (.bl _t)).bind λb=>bif CD (CF a "seen" b) "listed" then
(EB (CF a "seen" b) "listed").bind λn=>EN "list" n (
(EB (CF a "seen" b) "listed").bind λo=>(Aa o [(.tup [c,f,g])]).bind λe=>_s (.yw,(CF (CF a "seen" b) "listed" e.2)))
else _n
else _n
else _n
else _n
else _n
theorem Qe:Gj md sC (Tz 14 1) [0] 1 (Ke Ax):=FH 4 (by kernel_rfl) λ_ _ _ _=>by kernel_rfl
def pW:List (Str×zN):=GA "put" (Tz 14 1) sC [0] 1 _t (Ke Ax) (_s "Found")
noncomputable def Hk(a:Dv):Option Dv:=
_s (.tup [(.str [105,110,112,117,116]),a])
noncomputable def EW(a:Dv):Option Dv:=
_s (.tup [(.str [102,105,120,101,100]),a])
def Bz(c d:Dv):Option Dv:=
(CZ [d]).bind λa=>Cd a ((AO Hk a).bind λe=>(AB c (.int 0)).bind λf=>(items f).bind λb=>Cd b ((AO EW b).bind λg=>(Ad (.lst e) (.lst g)).bind λh=>_s h))
theorem Qb:Gj md pW (top 16) [] 1 (two Bz):=FH 2 (by kernel_rfl) λ_ _=>by kernel_rfl
def pV:List (Str×zN):=GA "own_nodes" (top 16) pW [] 1 _f (two Bz)
noncomputable def EY(a:Dv):Option Dv:=
_s (.tup [a])
def Cp(a b:Dv):Option Dv:=
(dw b a).bind λc=>if c=_t then
_s (.int 0)
else
_s a
noncomputable def EX(b a:Dv):Option Dv:=
_s (.tup [b,a])
def Eb(f g a b:Dv):Option Dv:=
((Cp f a)).bind λh=>EN "list" b (
(KY [h,g]).bind λc=>Cd c ((AO (EX a) c).bind λd=>(EG b [(.lst d)]).bind λe=>_s e.2))
def BG(e b a:Dv):Option Dv:=
(Zf e (.int 1)).bind λf=>if f=_t then
(KY [b,a]).bind λc=>Cd c ((AO EY c).bind λg=>_s (.lst g))
else
(CZ [a]).bind λh=>(AW (Eb b a) h (.lst [])).bind λd=>_s d
theorem Kf:Gj md pV (top 18) [] 1 (DT BG):=FH 3 (by kernel_rfl) λ_ _ _=>by kernel_rfl
def kW:List (Str×zN):=GA "numbers_to_do" (top 18) pV [] 1 _f (DT BG)
def CQ(c:List Dv)(a:Dv):Option Dv:=
(AB (.lst c) a).bind λb=>_s b
def BE(h i j:Dv)(k:List Dv)(a b c:Dv):Option Dv:=
(items b).bind λd=>Cd d ((AO (CQ k) d).bind λe=>(Dp h i a (.lst e)).bind λf=>bif EL c "Found" "put" then
(Ax c f j (.tup [(.str [100,111]),a,b])).bind λg=>_s g.2
else _n)
def BQ(e f g h i:Dv)(j:List Dv)(k l:Dv):Option Dv:=
(He [7,8] k).bind fun(a:Dv×Dv)=>(BG a.2 h i).bind λb=>(items b).bind λc=>(AW (BE e f g j a.1) c l).bind λd=>_s d
def ER(h i f:Dv)(j:List Dv)(a c b:Dv):Option Ex:=
(items c).bind λd=>Cd d ((AO (CQ j) d).bind λg=>(Dp h i a (.lst g)).bind λe=>Q8 (bif EL b "Found" "put" then
Av b e f (.tup [(.str [100,111]),a,c])
else _n) (bif EL b "Found" "put" then
(Ax b e f (.tup [(.str [100,111]),a,c])).bind λk=>_n
else _n))
def EO(b c d f g:Dv)(e:List Dv)(m h:Dv):Option Ex:=
(He [7,8] m).bind fun(a:Dv×Dv)=>Q8 ((BG a.2 f g).bind λi=>(items i).bind λj=>(GV (BE b c d e a.1) (ER b c d e a.1) j h)) ((BG a.2 f g).bind λk=>(items k).bind λl=>(AW (BE b c d e a.1) l h).bind λn=>_n)
def Be(a c d e f g:Dv):Option Ex:=
(EB d "listed").bind λk=>(items k).bind λh=>Cd h ((AO Bx h).bind λb=>bif Tt (.lst b)then
Q8 ((AB a (.int 1)).bind λl=>(items l).bind λm=>(GV (BQ a c e f g b) (EO a c e f g b) m d)) ((AB a (.int 1)).bind λi=>(items i).bind λj=>(AW (BQ a c e f g b) j d).bind λn=>_n)
else _n)
theorem Od:∀ds,ds.length=(AF (top 17)).length->JJ md kW [("TooMany", "most")] rD (top 17) [2] 1 ds=eh Be ds:=FH 6 (by kernel_rfl) λ_ _ _ _ _ _=>by kernel_rfl
def rC:IA:=("put_layer", ⟨6,[2],_n,eh Be⟩)::rD
--zBb Be 12 (top 17) 6 [2] 1 [("TooMany", "most")]
def Hj(a:Dv):Option Dv:=
(AB a (.int 0)).bind λb=>_s b
def By(a f b g h i:Dv):Option (Dv×Dv):=
(EB b "listed").bind λj=>(items j).bind λc=>Cd c ((AO Hj c).bind λd=>bif Tt (.lst d)then
(AB a (.int 1)).bind λk=>(items k).bind λl=>(AW (BQ a f g h i d) l b).bind λe=>_s (.yw,e)
else _n)
theorem Qa:Gj md kW (top 17) [2] 1 (eh By):=FH 6 (by kernel_rfl) λ_ _ _ _ _ _=>by kernel_rfl
def kU:List (Str×zN):=GA "put_layer" (top 17) kW [2] 1 _t (eh By)
def BA(d a:Dv):Option Dv:=
(He [5,6] d).bind fun(b:Dv×Dv)=>bif EL a "Found" "put" then
(Ax a b.1 (.int 0) b.2).bind λc=>_s c.2
else _n
def FT(c a:Dv):Option Ex:=
(He [5,6] c).bind fun(b:Dv×Dv)=>Q8 (bif EL a "Found" "put" then
Av a b.1 (.int 0) b.2
else _n) (bif EL a "Found" "put" then
(Ax a b.1 (.int 0) b.2).bind λd=>_n
else _n)
def Af(a:Dv×Dv×Dv):Option Bool:=
bif CD a.1 "listed" then
(EB a.1 "listed").bind λb=>(Au b).bind λc=>(VN a.2.1 c).bind λd=>_s d
else _n
def Ah(f g:Dv)(a:Dv×Dv×Dv):Option (Dv×Dv×Dv):=
bif CD a.1 "listed" then
(EB a.1 "listed").bind λd=>(Au d).bind λb=>(Sq a.2.2 (.int 1)).bind λc=>(By f g a.1 c a.2.1 b).bind λe=>_s (e.2,b,c)
else _n
def Bw(d e:Dv)(a:Dv×Dv×Dv):Option Ex:=
bif CD a.1 "listed" then
(EB a.1 "listed").bind λf=>(Au f).bind λb=>(Sq a.2.2 (.int 1)).bind λc=>Q8 (Be d e a.1 c a.2.1 b) ((By d e a.1 c a.2.1 b).bind λg=>_n)
else _n
def BZ(a b m:Dv):Option Ex:=
(Cq (.obj "Found" pX [] []) m).bind λe=>lg e.1 [e.2] λf=>(DX a b).bind λc=>Q8 ((Au c).bind λn=>(AB a (.int 0)).bind λo=>(Au o).bind λp=>(Zp n p).bind λq=>(Bz a q).bind λr=>(DW [c,r]).bind λs=>(GV BA FT s f)) ((Au c).bind λg=>(AB a (.int 0)).bind λh=>(Au h).bind λi=>(Zp g i).bind λj=>(Bz a j).bind λk=>(DW [c,k]).bind λl=>(AW BA l f).bind λd=>Q8 ((Zy Af (Ah a b) (Bw a b) 1000000 (d,(.int 0),(.int 0))).bind _s) ((PF Af (Ah a b) 1000000 (d,(.int 0),(.int 0))).bind λt=>_n))
theorem QV:∀ds,ds.length=(AF (top 15)).length->JJ md kU [("TooMany", "most")] rC (top 15) [] 1 ds=DT BZ ds:=FH 3 (by kernel_rfl) λ_ _ _=>by kernel_rfl
def qz:IA:=("closing", ⟨3,[],_n,DT BZ⟩)::rC
--zBb BZ 13 (top 15) 3 [] 2 [("TooMany", "most")]
def CY(a b h:Dv):Option Dv:=
(Cq (.obj "Found" pX [] []) h).bind λc=>lg c.1 [c.2] λi=>(DX a b).bind λd=>(Au d).bind λj=>(AB a (.int 0)).bind λk=>(Au k).bind λl=>(Zp j l).bind λm=>(Bz a m).bind λn=>(DW [d,n]).bind λo=>(AW BA o i).bind λe=>(PF Af (Ah a b) 1000000 (e,(.int 0),(.int 0))).bind λf=>(EB f.1 "listed").bind λg=>_s g
theorem Ud:Gj md kU (top 15) [] 1 (DT CY):=FH 3 (by kernel_rfl) λ_ _ _=>by kernel_rfl
def pU:List (Str×zN):=GA "closing" (top 15) kU [] 1 _f (DT CY)
def BR(a b c:Dv):Option Dv:=
(AB a (.int 0)).bind λd=>(AB a (.int 1)).bind λe=>(Ad e (.tup [(.tup [b,c])])).bind λf=>_s (.tup [d,f])
theorem Ms:Gj md pU (top 20) [] 1 (DT BR):=FH 3 (by kernel_rfl) λ_ _ _=>by kernel_rfl
def pT:List (Str×zN):=GA "wider_shape" (top 20) pU [] 1 _f (DT BR)
def CW(a b:Dv):Option Dv:=
(AB a (.int 0)).bind λc=>(AB a (.int 1)).bind λd=>(AB a (.int 2)).bind λe=>(Ad e (.tup [b])).bind λf=>_s (.tup [c,d,f])
theorem Mr:Gj md pT (top 21) [] 1 (two CW):=FH 2 (by kernel_rfl) λ_ _=>by kernel_rfl
def kT:List (Str×zN):=GA "wider_world" (top 21) pT [] 1 _f (two CW)
def Cm(c:Dv):Option Dv:=
(He [11,12] c).bind fun(a:Dv×Dv)=>(AB a.1 (.int 0)).bind λd=>(CW d a.2).bind λe=>(AB a.1 (.int 1)).bind λb=>_s (.tup [e,b])
def CK(a d e f l b:Dv):Option Ex:=
Q8 (BZ a d b) ((CY a d b).bind λm=>(items m).bind λg=>Cd g ((AO Bx g).bind λo=>(DW [d,l]).bind λh=>Cd h ((AO Cm h).bind λi=>(AS (.lst i)).bind λc=>Q8 ((BR a e f).bind λj=>BZ j c b) ((BR a e f).bind λk=>(CY k c b).bind λn=>_n))))
theorem UY:∀ds,ds.length=(AF (top 22)).length->JJ md kT [("TooMany", "most")] qz (top 22) [] 1 ds=eh CK ds:=FH 6 (by kernel_rfl) λ_ _ _ _ _ _=>by kernel_rfl
def qy:IA:=("gained", ⟨6,[],_n,eh CK⟩)::qz
--zBb CK 16 (top 22) 6 [] 3 [("TooMany", "most")]
def HD(a:Dv):Option Dv:=
(AB a (.int 0)).bind λb=>_s b
def HC(e:List Dv)(a:Dv):Option (Option Dv):=
(AB a (.int 0)).bind λb=>(EE b (.lst e)).bind λc=>if c=_t then
(AB a (.int 0)).bind λd=>_s (_s d)
else _s _n
def GH(b c l m n d:Dv):Option Dv:=
(CY b c d).bind λo=>(items o).bind λe=>Cd e ((AO HD e).bind λp=>(DW [c,n]).bind λf=>Cd f ((AO Cm f).bind λg=>(AS (.lst g)).bind λh=>(BR b l m).bind λi=>(CY i h d).bind λj=>(items j).bind λa=>Cd a ((Jf (HC p) a).bind λk=>_s (.lst k))))
theorem Yj:Gj md kT (top 22) [] 1 (eh GH):=FH 6 (by kernel_rfl) λ_ _ _ _ _ _=>by kernel_rfl
def pS:List (Str×zN):=GA "gained" (top 22) kT [] 1 _f (eh GH)
def Nd(a b g:Dv):Option Dv:=
(Au a).bind λh=>(qp h (.int 0)).bind λi=>if i=_t then
(Au a).bind λj=>(Ek b j).bind λk=>(AB a k).bind λl=>(Ek l (.int 2147483629)).bind λc=>(EF c (.int 31)).bind λd=>(EF (.int 7907) b).bind λe=>(Ad d e).bind λf=>_s f
else
_s g
def JC(a b d:Dv):Option Dv:=
(Au a).bind λe=>(VN b e).bind λf=>if f=_t then
(AB a b).bind λg=>_s g
else
((Nd a b d)).bind λc=>_s c
def JB(a:Dv):Option Dv:=
(lQ (.int 10) (.int 18)).bind λb=>(dw a b).bind λc=>if c=_t then
_s a
else
_s (.int 0)
def JI(j b:Dv):Option Dv:=
(EF (.int 7907) b).bind λk=>(Ad k (.int 13579)).bind λl=>((JC j b l)).bind λa=>((JB a)).bind λc=>(Ek a (.int 2147483629)).bind λd=>(EF d (.int 48271)).bind λe=>(EF (.int 40692) b).bind λf=>(Ad e f).bind λg=>(Ek g (.int 2147483646)).bind λh=>(Ad h (.int 1)).bind λi=>_s (.lst [c,i])
theorem dF:Gj md pS (top 24) [] 1 (two JI):=FH 2 (by kernel_rfl) λ_ _=>by kernel_rfl
def pR:List (Str×zN):=GA "_law_feed" (top 24) pS [] 1 _f (two JI)
def AX(a c:Dv):Option (Dv×Dv):=
(AB a (.int 0)).bind λn=>(qp n (.int 0)).bind λo=>if o=_t then
(AB a (.int 0)).bind λp=>(Ek p c).bind λq=>(AB a (.int 0)).bind λr=>(Zr r c).bind λs=>(Bq a (.int 0) s).bind λt=>_s (q,t)
else
(AB a (.int 1)).bind λu=>(EF u (.int 48271)).bind λv=>(Ek v (.int 2147483647)).bind λd=>(EF d (.int 40692)).bind λe=>(Ad e (.int 30103)).bind λf=>(Ek f (.int 2147483399)).bind λg=>(Ad g (.int 1)).bind λh=>(Bq a (.int 1) h).bind λb=>(EF d (.int 2147483647)).bind λi=>(AB b (.int 1)).bind λj=>(Ad i j).bind λk=>(Zr k (.int 8191)).bind λl=>(Ek l c).bind λm=>_s (m,b)
theorem dE:Gj md pR (top 25) [0] 1 (two AX):=FH 2 (by kernel_rfl) λ_ _=>by kernel_rfl
def pQ:List (Str×zN):=GA "_law_take" (top 25) pR [0] 1 _f (two AX)
def Ep(d b:Dv):Option (Dv×Dv):=
(AX b (.int 26)).bind λa=>(AB (.str [97,98,99,100,101,102,103,104,105,106,107,108,109,110,111,112,113,114,115,116,117,118,119,120,121,122]) a.1).bind λc=>_s (c,a.2)
def Gz(a:Dv):Option Dv:=
(Qs a (.tup [(.str [100,101,102]),(.str [108,101,116]),(.str [116,101,108,108]),(.str [108,111,111,112]),(.str [112,105,99,107]),(.str [99,97,108,108])])).bind λb=>if b=_t then
(Ad a (.str [113])).bind λc=>_s c
else
_s a
def HE(f e a b c d:Dv):Option Dv:=
(EF (.int 7) c).bind λg=>(Ad e g).bind λh=>(Ek h (.int 26)).bind λi=>(AB (.str [97,98,99,100,101,102,103,104,105,106,107,108,109,110,111,112,113,114,115,116,117,118,119,120,121,122]) i).bind λj=>lz a λk=>(NI f _n (_s k)).bind λl=>(Ad l j).bind λm=>lz a λn=>(Ad b c).bind λo=>(Ek o (.int 4)).bind λp=>lz p λq=>(NI f (_s n) (_s q)).bind λr=>(Ad m r).bind λs=>((Gz s)).bind λt=>EN "list" d (
(Aa d [t]).bind λu=>_s u.2)
def Kw(a c:Dv):Option (Bool×Dv):=
(Kj (.int 2)).bind λd=>(AB c d).bind λe=>(Au e).bind λf=>(VN f (.int 4)).bind λg=>if g=_t then
(AX a (.int 4)).bind λb=>(Zf b.1 (.int 0)).bind λh=>_s (h,b.2)
else
_s (_f,a)
def Gv(e a c:Dv):Option (Bool×Dv):=
(qp e (.int 1)).bind λd=>if d=_t then
((Kw a c)).bind λb=>_s (b.1,b.2)
else
_s (_f,a)
def Gy(i c a:Dv):Option (Dv×Dv):=
((Gv i c a)).bind λb=>if b.1=_t then
(Kj (.int 2)).bind λd=>(AB a d).bind λe=>(Ad e (.str [113])).bind λf=>(Kj (.int 1)).bind λg=>(Bq a g f).bind λh=>_s (b.2,h)
else
_s (b.2,a)
def Cy(m d:Dv):Option (Dv×Dv):=
EN "str" (.str []) (
(AX m (.int 4)).bind λe=>(CZ [e.1]).bind λf=>Cd f ((Bp Ep f e.2).bind λg=>(KG (.str []) (.lst g.1)).bind λh=>(AX g.2 (.int 26)).bind λi=>(Au h).bind λn=>(Ad n (.int 1)).bind λj=>(AX i.2 j).bind λa=>(AX a.2 (.int 4)).bind λb=>(CZ [d]).bind λk=>(AW (HE h i.1 a.1 b.1) k (.lst [])).bind λl=>((Gy d b.2 l)).bind λc=>_s (c.2,c.1)))
theorem Yh:Gj md pQ (top 26) [0] 1 (two Cy):=FH 2 (by kernel_rfl) λ_ _=>by kernel_rfl
def pP:List (Str×zN):=GA "_law_names" (top 26) pQ [0] 1 _f (two Cy)
def Eo(a:Dv):Option Dv:=
(NI a _n (_s 1)).bind λb=>EN "str" b (
(Fu b).bind λc=>(NI a (_s 1) _n).bind λd=>(Ad c d).bind λe=>_s e)
def HB(a c d:Dv):Option (Dv×Dv):=
(AB a c).bind λe=>(AX d (.int 2)).bind λb=>(Ad (.int 1) b.1).bind λf=>_s ((.tup [e,f]),b.2)
def GE(l:Dv):Option (Dv×Dv):=
(Cy l (.int 4)).bind λe=>(AX e.2 (.int 4)).bind λf=>lz f.1 λm=>(NI e.1 _n (_s m)).bind λn=>(items n).bind λg=>Cd g ((AO Eo g).bind λh=>(Cy f.2 (.int 3)).bind λa=>(AX a.2 (.int 8)).bind λb=>(AB (.lst [(.int 1),(.int 2),(.int 3),(.int 2),(.int 3),(.int 1),(.int 2),(.int 0)]) b.1).bind λi=>(CZ [i]).bind λc=>Cd c ((Bp (HB a.1) c b.2).bind λd=>(AS (.lst h)).bind λj=>(AS (.lst d.1)).bind λk=>_s ((.tup [j,k]),d.2)))
theorem Yg:Gj md pP (top 27) [0] 1 (one GE):=FH 1 (by kernel_rfl) λ_=>by kernel_rfl
def pO:List (Str×zN):=GA "_law_shape" (top 27) pP [0] 1 _f (one GE)
def LB(b d c:Dv):Option (Dv×Dv):=
(AX c b).bind λa=>_s (a.1,a.2)
def LA(c d b:Dv):Option (Dv×Dv):=
(AX b c).bind λa=>_s (a.1,a.2)
def Kz(c d b:Dv):Option (Dv×Dv):=
(AX b c).bind λa=>_s (a.1,a.2)
def HA(c f d:Dv):Option (Dv×Dv):=
(CZ [c]).bind λa=>Cd a ((Bp (Kz c) a d).bind λb=>(AS (.lst b.1)).bind λe=>_s (e,b.2))
def Gw(c b a d:Dv):Option (Dv×Dv):=
(Zf d (.int 1)).bind λi=>if i=_t then
EN "list" a (
(CZ [c]).bind λe=>Cd e ((Bp (LA c) e b).bind λf=>(AS (.lst f.1)).bind λj=>(Aa a [j]).bind λk=>_s (f.2,k.2)))
else
EN "list" a (
(CZ [c]).bind λg=>Cd g ((Bp (HA c) g b).bind λh=>(AS (.lst h.1)).bind λl=>(Aa a [l]).bind λm=>_s (h.2,m.2)))
def Er(d e:Dv)(a:Dv×Dv):Option (Dv×Dv):=
(He [5,6] e).bind fun(c:Dv×Dv)=>((Gw d a.1 a.2 c.2)).bind λb=>_s (b.1,b.2)
def Do(g c b:Dv):Option (Dv×Dv):=
(AB c (.int 0)).bind λh=>(items h).bind λd=>Cd d ((Bp (LB b) d g).bind λe=>(AS (.lst e.1)).bind λi=>(AB c (.int 1)).bind λj=>(items j).bind λk=>(AW (Er b) k (e.2,(.lst []))).bind λa=>(AS a.2).bind λf=>_s ((.tup [b,i,f]),a.1))
theorem Ye:Gj md pO (top 28) [0] 1 (DT Do):=FH 3 (by kernel_rfl) λ_ _ _=>by kernel_rfl
def pN:List (Str×zN):=GA "_law_world" (top 28) pO [0] 1 _f (DT Do)
def FZ(b e c:Dv):Option (Dv×Dv):=
(AB b (.int 0)).bind λd=>(AX c d).bind λa=>_s (a.1,a.2)
def Dn(h i j l:Dv)(b:Dv×Dv):Option (Dv×Dv):=
(AX b.1 j).bind λd=>(Ad (.int 1) d.1).bind λk=>(Do d.2 h k).bind λc=>EN "list" b.2 (
(CZ [i]).bind λe=>Cd e ((Bp (FZ c.1) e c.2).bind λa=>(AS (.lst a.1)).bind λf=>(Aa b.2 [(.tup [c.1,f])]).bind λg=>_s (a.2,g.2)))
def DY(d e f g h:Dv):Option (Dv×Dv):=
(AX d g).bind λb=>(Ad (.int 1) b.1).bind λi=>(CZ [i]).bind λj=>(AW (Dn e f h) j (b.2,(.lst []))).bind λa=>(AS a.2).bind λc=>_s (c,a.1)
theorem Ub:Gj md pN (top 29) [0] 1 (cz DY):=FH 5 (by kernel_rfl) λ_ _ _ _ _=>by kernel_rfl
def pM:List (Str×zN):=GA "_law_points" (top 29) pN [0] 1 _f (cz DY)
def LF(a:Dv):Option Dv:=
(He [7,8] a).bind fun(b:Dv×Dv)=>_s b.1
def TV(b:Dv):Option Dv:=
(He [7,8] b).bind fun(a:Dv×Dv)=>_s a.1
def Ky(b c:Dv):Option Dv:=
Q8 ((AB b (.int 1)).bind λh=>(items h).bind λd=>Cd d ((AO LF d).bind λe=>EN "list" (.lst e) (
(El (.lst e) c).bind λi=>_s i))) ((AB b (.int 1)).bind λj=>(items j).bind λf=>Cd f ((AO TV f).bind λa=>EN "tuple" (.lst a) (
(DH (.lst a) c).bind λg=>_s g)))
def BJ(a b:Dv):Option Dv:=
(AB b a).bind λc=>_s c
def GG(e f g h:Dv):Option Dv:=
(AB f (.int 2)).bind λi=>((Ky e g)).bind λa=>(AB i a).bind λb=>(items h).bind λc=>(AW BJ c b).bind λd=>_s d
theorem Yi:Gj md pM (top 30) [] 0 (Ke GG):=FH 4 (by kernel_rfl) λ_ _ _ _=>by kernel_rfl
def pL:List (Str×zN):=GA "_law_entry" (top 30) pM [] 0 _f (Ke GG)
def JF(a b:Dv):Option Dv:=
(AB b a).bind λc=>_s c
def Ni(e f g h a:Dv):Option Dv:=
(He [0,1] h).bind fun(b:Dv×Dv)=>(He [6,7] b.2).bind fun(i:Dv×Dv)=>EN "list" a (
(items g).bind λc=>Cd c ((AO (JF b.1) c).bind λj=>(GG e i.1 f (.lst j)).bind λk=>(Aa a [k]).bind λd=>_s d.2))
def HG(c d e f:Dv):Option Dv:=
(Ra [d]).bind λg=>(AW (Ni c e f) g (.lst [])).bind λa=>(AS a).bind λb=>_s b
theorem dG:Gj md pL (top 31) [] 1 (Ke HG):=FH 4 (by kernel_rfl) λ_ _ _ _=>by kernel_rfl
def pK:List (Str×zN):=GA "_law_done" (top 31) pL [] 1 _f (Ke HG)
def RX(a b:Dv):Option Dv:=
(He [5,6] b).bind fun(c:Dv×Dv)=>(AB c.2 a).bind λd=>_s d
def RZ(f g a:Dv):Option Dv:=
EN "list" a (
(items f).bind λb=>Cd b ((AO (RX g) b).bind λc=>(AS (.lst c)).bind λd=>(Aa a [d]).bind λe=>_s e.2))
def RW(a b:Dv):Option Dv:=
(He [5,6] b).bind fun(c:Dv×Dv)=>(AB c.1 (.int 1)).bind λd=>(AB d a).bind λe=>_s e
def RY(g c a:Dv):Option Dv:=
EN "list" a (
(items g).bind λb=>Cd b ((AO (RW c) b).bind λd=>(AS (.lst d)).bind λe=>(Aa a [e]).bind λf=>_s f.2))
def Nj(g a:Dv):Option Dv:=
(AB a (.int 0)).bind λh=>(AB h (.int 1)).bind λi=>(Au i).bind λj=>(CZ [j]).bind λk=>(AW (RZ a) k (.lst [])).bind λb=>(AB g (.int 0)).bind λc=>(Au c).bind λd=>(CZ [d]).bind λe=>(AW (RY a) e b).bind λf=>_s f
theorem kg:Gj md pK (top 32) [] 1 (two Nj):=FH 2 (by kernel_rfl) λ_ _=>by kernel_rfl
def pJ:List (Str×zN):=GA "_law_own" (top 32) pK [] 1 _f (two Nj)
noncomputable def LD(a:Dv):Option Dv:=
_s (.tup [a])
noncomputable def LC(a b:Dv):Option Dv:=
_s (.tup [a,b])
def LG(d e a:Dv):Option Dv:=
EN "list" a (
(CZ [d]).bind λb=>Cd b ((AO (LC e) b).bind λf=>(EG a [(.lst f)]).bind λc=>_s c.2))
def GD(a d:Dv):Option Dv:=
(Zf d (.int 1)).bind λe=>if e=_t then
(CZ [a]).bind λb=>Cd b ((AO LD b).bind λf=>_s (.lst f))
else
(CZ [a]).bind λg=>(AW (LG a) g (.lst [])).bind λc=>_s c
theorem Yf:Gj md pJ (top 33) [] 1 (two GD):=FH 2 (by kernel_rfl) λ_ _=>by kernel_rfl
def pI:List (Str×zN):=GA "_law_spots" (top 33) pJ [] 1 _f (two GD)
def Hi(b a:Dv):Option Dv:=
(EE b a).bind λc=>if c=_t then
EN "list" a (
(Aa a [b]).bind λd=>_s d.2)
else
_s a
def CU(a b:Dv):Option Dv:=
((Hi a b)).bind λc=>_s c
def Am(e:Dv)(a:Dv×Dv×Dv×Dv):Option Bool:=
(Au a.1).bind λb=>(VN a.2.2.2 b).bind λc=>if c=_t then
(qW b e).bind λd=>_s d
else
_s _f
def ET(h b c a:Dv):Option Bool:=
(FQ c).bind λd=>(dw d b).bind λe=>if e=_t then
(Au a).bind λf=>(qW f h).bind λg=>_s g
else
_s _f
def Ea(a b:Dv):Option Dv:=
(AB a b).bind λc=>_s c
def Hh(i j k e b c a:Dv):Option Dv:=
((ET k e c a)).bind λf=>if f=_t then
(items c).bind λd=>Cd d ((AO (Ea a) d).bind λg=>(HG i j b (.lst g)).bind λh=>_s h)
else
_s Dv.yw
def Hf(a b:Dv):Option Bool:=
(Lw b Dv.yw).bind λc=>if c=_t then
(EE b a).bind λd=>_s d
else
_s _f
def EZ(a b:Dv):Option Dv:=
(AB a b).bind λc=>_s c
def Hg(e a b c:Dv):Option (Dv×Dv):=
((Hf a c)).bind λf=>if f=_t then
EN "list" a (
(Aa a [c]).bind λg=>EN "list" b (
(items e).bind λd=>Cd d ((AO (EZ b) d).bind λh=>(FQ (.lst h)).bind λi=>(Ad i (.int 1)).bind λj=>(Aa b [j]).bind λk=>_s (g.2,k.2))))
else
_s (a,b)
def Cw(g h i e b c:Dv)(a:Dv×Dv):Option (Dv×Dv):=
((Hh g h i e b c a.1)).bind λf=>((Hg c a.1 a.2 f)).bind λd=>_s (d.1,d.2)
def Cv(i j k d e f:Dv)(a:Dv×Dv):Option (Dv×Dv):=
(He [8,9] f).bind fun(b:Dv×Dv)=>(GD e b.2).bind λg=>(items g).bind λh=>(AW (Cw i j k d b.1) h (a.1,a.2)).bind λc=>_s (c.1,c.2)
def BF(e h i:Dv)(a:Dv×Dv×Dv×Dv):Option (Dv×Dv×Dv×Dv):=
(Hv a.2.2.2 (.int 0)).bind λb=>(Au a.1).bind λc=>(AB e (.int 1)).bind λf=>(items f).bind λg=>(AW (Cv e h i b c) g (a.1,a.2.1)).bind λd=>_s (d.1,d.2,b,c)
def EU(e a b:Dv):Option Dv:=
(Au a).bind λc=>(qW c e).bind λd=>if d=_t then
_s (.tup [a,b])
else
_s Dv.yw
def Aw(d e c:Dv):Option Dv:=
(Nj d e).bind λi=>(items i).bind λj=>(AW CU j (.lst [])).bind λf=>(Au f).bind λk=>(EF (.lst [(.int 0)]) k).bind λl=>(Kj (.int 1)).bind λg=>(He [6,7] (.tup [(.int 0),g])).bind fun(a:Dv×Dv)=>(PF (Am c) (BF d e c) 1000000 (f,l,a.1,a.2)).bind λb=>((EU c b.1 b.2.1)).bind λh=>_s h
theorem Qc:Gj md pI (top 34) [] 0 (DT Aw):=FH 3 (by kernel_rfl) λ_ _ _=>by kernel_rfl
def kS:List (Str×zN):=GA "_law_closing" (top 34) pI [] 0 _f (DT Aw)
def Ci(e g a h i:Dv):Option Dv:=
match((AB a (.int 0)).bind λj=>(AB a (.int 1)).bind λk=>CK e g j k h i)with
|some b=>(bif b.c==("TooMany" : Str)&&b.f==("most" : Str)then
_s (.tup [(.str [109,97,110,121]),b.d])
else _n)
|none=>(
(AB a (.int 0)).bind λl=>(AB a (.int 1)).bind λm=>(GH e g l m h i).bind λn=>_s n)
noncomputable def HU:Hn×Str:=(⟨"TooMany", "e", "TooMany", "_law_found", "most"⟩, "many")
theorem Uj:dJ md kS (top 35) 1 qy HU=true:=by kernel_rfl
theorem Ue:∀ds,ds.length=(AF (top 35)).length->Rb md kS (top 35) 1 qy HU ds=cz Ci ds:=FH 5 (by kernel_rfl) λ_ _ _ _ _=>by kernel_rfl
--catch Ci 28 4
def sD:List (Str×zN):=GA "_law_asked" (top 35) kS [] 1 _f (cz Ci)
def MN(b c d:Dv):Option (Dv×Dv):=
(He [7,8] c).bind fun(e:Dv×Dv)=>(AB e.1 (.int 0)).bind λf=>(Do d (.tup [(.tup []),(.tup [(.tup [(.str [119,105,100,101,122,122]),b])])]) f).bind λa=>(AB a.1 (.int 2)).bind λg=>(AB g (.int 0)).bind λh=>_s (h,a.2)
def Pi(d b:Dv):Option Dv:=
(He [0,1] d).bind fun(c:Dv×Dv)=>(He [7,8] c.1).bind fun(a:Dv×Dv)=>EN "list" b (
(AB a.1 (.int 0)).bind λe=>(AB a.1 (.int 1)).bind λf=>(AB a.1 (.int 2)).bind λg=>(Ad g (.tup [c.2])).bind λh=>(Aa b [(.tup [(.tup [e,f,h]),a.2])]).bind λi=>_s i.2)
def ES(a b:Dv):Option Bool:=
(Qr a Dv.yw).bind λc=>if c=_t then
_s _t
else
(Qr b Dv.yw).bind λd=>_s d
def MM(b a:Dv):Option (Option Dv):=
(AB b (.int 0)).bind λc=>(EE a c).bind λd=>if d=_t then
_s (_s a)
else _s _n
def MJ(c d a:Dv):Option Bool:=
(AB d (.int 0)).bind λe=>(items e).bind λb=>Cd b ((Jf (MM c) b).bind λf=>(lu a (.lst f)).bind λg=>if g=_t then
_s _t
else
(Zq a (.ty "list")).bind λh=>(Zo h).bind λi=>_s (!i))
def JE(a b:Dv):Option Dv:=
(AB a (.int 0)).bind λc=>(Qs b c).bind λd=>_s (.bl d)
def MO(G H:Dv)(N:Unit):Option (Lp Dv (Unit) (Unit)):=
(JI G H).bind λI=>(GE I).bind λb=>(AX b.2 (.int 3)).bind λl=>(AB b.1 (.int 0)).bind λJ=>(Au J).bind λm=>(Zf m (.int 0)).bind λn=>(Lz (.bl n)).bind λo=>(Hv l.1 o).bind λp=>(DY l.2 b.1 p (.int 3) (.int 3)).bind λa=>(AX a.2 (.int 2)).bind λi=>(Ad (.int 1) i.1).bind λd=>(items a.1).bind λj=>Cd j ((Bp (MN d) j i.2).bind λe=>(AX e.2 (.int 15)).bind λq=>(Ad (.int 2) q.1).bind λc=>(AB b.1 (.int 0)).bind λr=>(AB b.1 (.int 1)).bind λs=>(Ad s (.tup [(.tup [(.str [119,105,100,101,122,122]),d])])).bind λt=>(DW [a.1,(.lst e.1)]).bind λu=>(AW Pi u (.lst [])).bind λv=>(Aw b.1 a.1 c).bind λg=>(Aw (.tup [r,t]) v c).bind λh=>(AS (.lst e.1)).bind λw=>(Ci b.1 a.1 (.tup [(.str [119,105,100,101,122,122]),d]) w c).bind λf=>((ES g h)).bind λx=>if x=_t then
(lu f (.tup [(.str [109,97,110,121]),c])).bind λy=>if y=_t then
_s (.rt (.bl _f) ())
else
_s (.go ())
else
((MJ g h f)).bind λz=>if z=_t then
_s (.rt (.bl _f) ())
else
(AB g (.int 0)).bind λA=>(items A).bind λk=>Cd k ((AO (JE h) k).bind λB=>(Qs (.bl _f) (.lst B)).bind λC=>if C=_t then
_s (.rt (.bl _f) ())
else
EN "list" f (
(Aa f [(.tup [])]).bind λL=>(AS (.lst e.1)).bind λD=>(Ci b.1 a.1 (.tup [(.str [119,105,100,101,122,122]),d]) D c).bind λE=>(Qs (.tup []) E).bind λF=>if F=_t then
_s (.rt (.bl _f) ())
else
_s (.go ()))))
def av(a:Dv):Option Dv:=
(NI a (_s 1) (_s 3)).bind λd=>(Au d).bind λe=>(Ad (.int 2) e).bind λf=>(KY [(.int 1),f]).bind λg=>(UT (MO a) g ()).bind λb=>b.el (fun(h:Unit)=>_s (.bl _t)) fun(c:Dv) (i:Unit)=>_s c
theorem pq:Gj md sD (top 36) [] 1 (one av):=FH 1 (by kernel_rfl) λ_=>by kernel_rfl
end My
namespace R
open PySem L2
def Fd(x:Dv):Prop:=∃a b:Int,x=.lst [.int a,.int b]
def Tx(N:Nat)(x:Dv):Prop:=∃l,x=.str l/\l.length<=N/\∀c∈l,c < 128
theorem Tx.mono{N M:Nat}{x:Dv}(h:Tx N x)(le:N<=M):Tx M x:=let ⟨l,e,h1,h2⟩:=h;⟨l,e,D0 h1 le,h2⟩
variable{α:Type}{xs:List Dv}
section
variable{γ τ ρ:Type}
theorem Di(g:Dv->γ->Option (Dv×γ))(P:γ->Prop)(R:Dv->Prop):∀(xs:List Dv)(c:γ),P c->(∀x∈xs,∀c,P c->∃d b,g x c=_s (d,b)/\R d/\P b)->∃ds b,Bp g xs c=_s (ds,b)/\ds.length=xs.length/\(∀d∈ds,R d)/\P b
 |[],c,hc,_=>⟨[],c,rfl,rfl,λ_ z=>(O3 z).elim,hc⟩
 |x::xs,c,hc,h=>by
  obtain⟨d,l,j,f,p1⟩:=h x B2 c hc;obtain⟨ds,k,i,l2,e,p2⟩:=Di g P R xs l p1 λy a=>h y (B1 _ a);refine⟨d::ds,k,by simp only[Bp,j,i,A0],by rw[E3,E3,l2],λy a=>?_,p2⟩;rcases C9.mp a with rfl|a
  exact f;exact e y a
theorem Jq(g:Dv->γ->Option γ)(I:Nat->γ->Prop):∀(xs:List Dv)(k:Nat)(c:γ),I k c->(∀i x,xs[i]?=_s x->∀c,I (k+i) c->∃a,g x c=_s a/\I (k+i+1) a)->∃a,AW g xs c=_s a/\I (k+xs.length) a
 |[],k,c,hc,_=>⟨c,rfl,hc⟩
 |x::xs,k,c,hc,h=>by
  obtain⟨m,j,d⟩:=h 0 x rfl c hc;obtain⟨l,f,b⟩:=Jq g I xs (k+1) m d λi y e c hc=>by have:=h (i+1) y e c (by rw[show k+(i+1)=k+1+i by omega];exact hc);rw[show k+(i+1)+1=k+1+i+1 by omega]at this;exact this
  exact⟨l,by simp only[AW,j,f,A0],by rw[E3,show k+(xs.length+1)=k+1+xs.length by omega];exact b⟩
theorem ON(g:Dv->Option Dv)(f:Dv->Dv):∀(xs:List Dv),(∀x∈xs,g x=_s (f x))->AO g xs=_s (xs.map f)
 |[],_=>rfl
 |x::xs,h=>by simp only[AO,h x B2,ON g f xs λy a=>h y (B1 _ a),A0,A9]
theorem SQ(g:Dv->γ->Option (Lp τ γ ρ))(c:γ):∀(xs:List Dv),(∀x∈xs,g x c=_s (.go c))->UT g xs c=_s (.go c)
 |[],_=>rfl
 |x::xs,h=>by simp only[UT,h x B2,A0];exact SQ g c xs λy a=>h y (B1 _ a)
theorem AL{o:Option α}(h:xs.length<=1000000):Cd xs o=o:=by unfold Cd;rw[if_pos h]
end
theorem DF(xs:List α)(i:Nat)(h:i < xs.length):Gp xs (i:Int)=_s xs[i]:=by unfold Gp Xn;rw[if_pos (by omega),if_pos (by omega)];simp[h]
theorem IW{xs:List α}{i:Int}(h0:0<=i)(h:i < xs.length):∃x∈xs,Gp xs i=_s x:=by obtain⟨n,rfl⟩:∃n:Nat,i=n:=⟨i.toNat,by omega⟩;exact⟨xs[n]'(by omega),W0 _,DF xs n (by omega)⟩
theorem qa{i:Int}(h0:0<=i)(h:i < xs.length):∃x∈xs,AB (.lst xs) (.int i)=_s x:=IW h0 h
theorem gK{i:Int}(h0:0<=i)(h:i < xs.length):∃x∈xs,AB (.tup xs) (.int i)=_s x:=IW h0 h
theorem qZ{l:List Nat}{i:Int}(h0:0<=i)(h:i < l.length)(a:l.length<=1000000):∃c∈l,AB (.str l) (.int i)=_s (.str [c]):=by obtain⟨c,hc,e⟩:=IW h0 h;exact⟨c,hc,by simp only[AB,if_pos a,e,G0]⟩
theorem GL{n:Int}(h0:-1000000000<=n)(h:n<=1000000000):CZ [.int n]=_s ((B6 n.toNat).map λk=>.int (k:Nat)):=by
 have:small n=true:=by unfold small;simp[h0,h]
 simp only[CZ,this,cond_true,Int.zero_add]
theorem KW(n:Nat)(h:n<=1000000):CZ [.int (n:Nat)]=_s ((B6 n).map λk=>.int (k:Nat)):=by have:=GL (n:=(n:Int)) (by omega) (by omega);simpa using this
theorem Eg(xs:List Dv)(o:Option α):EN "list" (.lst xs) o=o:=rfl
theorem oy(l:List Nat)(o:Option α):EN "str" (.str l) o=o:=rfl
theorem rn(xs:List Dv)(o:Option α):EN "tuple" (.tup xs) o=o:=rfl
theorem oz(xs:List Dv)(o:Option α):EN "list" (.tup xs) o=none:=rfl
theorem qX{R:Type}(i:Int)(k:Int->Option R):lz (.int i) k=k i:=rfl
theorem rH(b:Bool):Zo (.bl b)=_s b:=rfl
theorem FJ{a:Type}{i j:Nat}(x y:Dv)(f:Dv×Dv->Option a):((He [i,j] (.tup [x,y])).bind fun(t:Dv×Dv)=>f t)=f (x,y):=rfl
theorem Dj{y:Dv}(h:xs.length<=1000000):Aa (.lst xs) [y]=_s (.yw,.lst (xs++[y])):=by simp only[Aa,if_pos h]
theorem fc{ys:List Dv}(h:xs.length+ys.length<=1000000):EG (.lst xs) [.lst ys]=_s (.yw,.lst (xs++ys)):=by simp only[EG,if_pos h]
theorem JT{R:Dv->Dv->Prop}:∀{xs ys:List Dv},Paired R xs ys->xs.length=ys.length
 |_,_,.nil=>rfl
 |_,_,.cons _ p=>by rw[E3,E3,JT p]
theorem Sa{xs:List α}{lo hi:Option Int}{x:α}(h:x∈Bo xs lo hi):x∈xs:=vd (V8 h)
theorem Sb(xs:List α)(lo hi:Option Int):(Bo xs lo hi).length<=xs.length:=by unfold Bo;rw[U0,d5];omega
theorem Mz(l:List Nat)(lo hi:Option Int):Uh l lo hi=Bo l lo hi:=rfl
theorem Ij:∀ls:List (List Nat),Al (ls.map Dv.str)=_t
 |[]=>rfl
 |x::xs=>by simp only[A9,Al,Dv.cmp,Ij xs,L0]
theorem Ii:∀ls:List (List Nat),BH (ls.map Dv.str)=0
 |[]=>rfl
 |x::xs=>by simp only[A9,BH,Dv.dep,Ii xs];rfl
theorem LO(x:List Nat):∀ls:List (List Nat),Ff (.str x) (ls.map Dv.str)=ls.contains x
 |[]=>rfl
 |y::ys=>by
  have:=LO x ys;simp only[Ff]at this;simp only[Ff,A9,T5,this,U6,zw];by_cases e:y=x;subst e;simp;have a:¬x=y:=λz=>e z.symm;have h1:(y==x)=false:=by simpa using e
  have h2:(x==y)=false:=by simpa using a
  rw[h1,h2]
theorem VC(neg:Bool)(x:List Nat)(ls:List (List Nat)):NG neg (.str x) (.tup (ls.map Dv.str))=_s (if neg=_t then !ls.contains x else ls.contains x):=by simp only[NG,tF,Dv.cmp,Ij,Ii,L0,G8,decide_true,if_true,LO]
theorem Br(i j:Int):Ad (.int i) (.int j)=_s (.int (i+j)):=rfl
theorem Oy(i j:Int)(h:0 < j):Ek (.int i) (.int j)=_s (.int (i % j)):=by simp only[Ek,DG,h,decide_true,if_true]
theorem IV(i j:Int):Zf (.int i) (.int j)=_s (decide (i=j)):=by simp only[Ze,Dv.cmp,Dv.dep,L0,G8,decide_true,if_true,zw,B3,if_false];congr 1
theorem Tx.add{N M:Nat}{x y:Dv}(h:Tx N x)(h':Tx M y)(e:N+M<=1000000):∃z,Ad x y=_s z/\Tx (N+M) z:=by
 obtain⟨l,rfl,h1,h2⟩:=h;obtain⟨b,rfl,d,a⟩:=h';refine⟨.str (l++b),by simp only[Ad,if_pos (show l.length+b.length<=1000000 by omega)],_,rfl,by rw[F0];omega,λc hc=>?_⟩;rcases E6.mp hc with hc|hc
 exact h2 c hc;exact a c hc
theorem gn{c:Nat}(h:c < 128):U4 c < 128:=by unfold U4;split<;>omega
theorem Tx.upper{N:Nat}{x:Dv}(h:Tx N x)(a:N<=1000000):∃y,Fu x=_s y/\Tx N y:=by
 obtain⟨l,rfl,h1,h2⟩:=h;have e:(l.all (λc=>decide (c < 128))&&decide (l.length<=1000000))=true:=by rw[A2];exact⟨E4.mpr λc hc=>decide_eq_true (h2 c hc),decide_eq_true (D0 h1 a)⟩
 refine⟨.str (l.map U4),by simp only[Fu,e,if_true],_,rfl,by rw[B9];exact h1,λc hc=>?_⟩;obtain⟨d,hd,rfl⟩:=G6.mp hc;exact gn (h2 d hd)
theorem Kp:∀ls:List (List Nat),Kq (ls.map Dv.str)=_s ls
 |[]=>rfl
 |x::xs=>by simp only[A9,Kq,Kp xs,G0]
theorem QO:∀{xs:List Dv},(∀x∈xs,∃c,x=.str [c]/\c < 128)->xs.length<=1000->∃z,KG (.str []) (.lst xs)=_s z/\Tx xs.length z:=by
 intro xs h k;have:∃cs:List Nat,xs=(cs.map λc=>[c]).map Dv.str/\∀c∈cs,c < 128:=by
  clear k;induction xs with
  |nil=>exact⟨[],rfl,λ_ z=>by cases z⟩
  |cons x xs f=>
   obtain⟨cs,e,h2⟩:=f λy i=>h y (B1 _ i);obtain⟨c,rfl,hc⟩:=h x B2;refine⟨c::cs,by rw[e];rfl,λd hd=>?_⟩;rcases C9.mp hd with rfl|hd
   exact hc;exact h2 d hd
 obtain⟨cs,e,h2⟩:=this;have g:xs.length=cs.length:=by rw[e];simp
 have l:∀cs:List Nat,jn [] (cs.map λc=>[c])=cs:=by
  intro cs;cases cs with
  |nil=>rfl
  |cons a b=>
   show[a]++((b.map λc=>[c]).flatMap λy=>[]++y)=a::b;have:∀b:List Nat,((b.map λc=>[c]).flatMap λy=>[]++y)=b:=by
    intro b;induction b with|nil=>rfl|cons x y f=>simp only[A9,Q9,f];rfl
   rw[this];rfl
 have j:((cs.map λc=>[c]).map Y3).sum=cs.length:=by
  clear e h2 g;induction cs with|nil=>rfl|cons a b f=>rw[A9,A9,List.sum_cons,f];simp;omega
 rw[e];refine⟨.str cs,?_,cs,rfl,by simp,h2⟩;simp only[KG,Kp,l];rw[if_pos (by rw[j];simp;omega)]
end R
namespace My
open PySem L2 R
variable{f:Dv}
theorem Ae(p:Fd f){n:Int}(h0:0 < n)(h1:n < 1073741824):∃(r:Nat)(l:Dv),AX f (.int n)=_s (.int r,l)/\(r:Int) < n/\Fd l:=by
 obtain⟨a,b,rfl⟩:=p;have k:∀x y:Dv,AB (.lst [x,y]) (.int 0)=_s x:=λ_ _=>rfl;have o:∀x y:Dv,AB (.lst [x,y]) (.int 1)=_s y:=λ_ _=>rfl;have s0:∀x y d:Dv,Bq (.lst [x,y]) (.int 0) d=_s (.lst [d,y]):=λ_ _ _=>rfl;have s1:∀x y d:Dv,Bq (.lst [x,y]) (.int 1) d=_s (.lst [x,d]):=λ_ _ _=>rfl;have m:∀x:Int,∃r:Nat,x % n=r/\(r:Int) < n:=λx=>⟨(x % n).toNat,by have:=k6 x (show n≠0 by omega);omega,by have:=k6 x (show n≠0 by omega);have:=p9 x h0;omega⟩;have c:big 48271=true:=by decide
 have g:big 40692=true:=by decide
 have i:big 2147483647=true:=by decide
 unfold AX;simp only[k,A0,FP,VN];by_cases h:0 < a;obtain⟨r,e,j⟩:=m a;refine⟨r,.lst [.int (a / n),.int b],?_,j,a / n,b,rfl⟩;simp only[h,decide_true,if_true,Ek,Zr,DG,h0,h1,L0,A0,k,s0,e];simp only[h,decide_false,B3,if_false,o,s1,EF,c,g,i,wu,if_true,A0,Ek,Zr,DG,Ad,h0,decide_true,show(0:Int) < 2147483647 by decide,show(0:Int) < 2147483399 by decide,show(0:Int) < 8191 by decide,show(8191:Int) < 1073741824 by decide,L0];obtain⟨r,e,j⟩:=m (((b * 48271 % 2147483647) * 2147483647+((b * 48271 % 2147483647 * 40692+30103) % 2147483399+1)) / 8191);exact⟨r,_,by rw[e],j,_,_,rfl⟩
variable{k:Nat}
theorem UW{ns:List Int}:∃f,JI (.scr ns) (.int k)=_s f/\Fd f:=by
 have b1:big 7907=true:=by decide
 have b2:big 2147483629=true:=by decide
 have m:big 31=true:=by decide
 have l:big 48271=true:=by decide
 have j:big 40692=true:=by decide
 have i:∃c:Int,JC (.scr ns) (.int k) (.int (7907 * k+13579))=_s (.int c):=by unfold JC Nd;simp only[Au,A0,FP,VN];by_cases h:(k:Int) < ns.length;simp only[h,decide_true,if_true,AB,DF ns k (by omega),G0,A0];exact⟨_,rfl⟩;simp only[h,decide_false,B3,if_false];by_cases h2:0 < (ns.length:Int);have e:=k6 (k:Int) (show(ns.length:Int)≠0 by omega);have b:=p9 (k:Int) h2;obtain⟨x,_,ex⟩:=IW e b;simp only[h2,decide_true,if_true,Ek,DG,A0,AB,ex,G0,EF,b1,m,vD,wu,Ad,show(0:Int) < 2147483629 by decide];exact⟨_,rfl⟩;simp only[h2,decide_false,B3,if_false];exact⟨_,rfl⟩
 obtain⟨c,e⟩:=i;have g:∃d:Int,JB (.int c)=_s (.int d):=by unfold JB;simp only[lQ,DG,show(decide ((0:Int)<=18)&&decide ((18:Int)<=1000000)&&decide ((10:Int).natAbs < 2 ^ 64))=_t by decide,if_true,A0,FP,VN];split<;>exact⟨_,rfl⟩
 obtain⟨d,a⟩:=g;unfold JI;simp only[EF,b1,l,j,vD,wu,if_true,A0,Ad,e,a,Ek,DG,show(0:Int) < 2147483629 by decide,show(0:Int) < 2147483646 by decide,decide_true];exact⟨_,rfl,_,_,rfl⟩
variable{n:Nat}
theorem PU(c:Fd f)(h0:0 < n)(h1:n<=1000000):∃(r:Nat)(a:Dv),AX f (.int (n:Nat))=_s (.int (r:Nat),a)/\r < n/\Fd a:=by obtain⟨r,a,e,b,h⟩:=Ae c (n:=((n:Nat):Int)) (by omega) (by omega);exact⟨r,a,e,by omega,h⟩
noncomputable abbrev lP:List Nat:=[97,98,99,100,101,102,103,104,105,106,107,108,109,110,111,112,113,114,115,116,117,118,119,120,121,122]
theorem lO:∀c∈lP,c < 128:=by decide
theorem jv{i:Int}(h0:0<=i)(h:i < 26):∃c,AB (.str lP) (.int i)=_s (.str [c])/\c < 128:=by obtain⟨c,hc,e⟩:=qZ (l:=lP) h0 (show i < ((26:Nat):Int) by omega) (by decide);exact⟨c,e,lO c hc⟩
theorem ML{c:Nat}(h:c < 128):Tx 1 (.str [c]):=⟨[c],rfl,by simp,λd hd=>by rw[D5]at hd;subst hd;exact h⟩
theorem TQ(m:Fd f)(xs:List Dv)(o:xs.length<=1000):∃z b,(∃ds,Bp Ep xs f=_s (ds,b)/\KG (.str []) (.lst ds)=_s z)/\Tx xs.length z/\Fd b:=by
 obtain⟨ds,b,e,j,hd,a⟩:=Di Ep Fd (λd=>∃c,d=.str [c]/\c < 128) xs f m λx _ c hc=>by obtain⟨r,b,e,l,a⟩:=Ae hc (n:=26) (by decide) (by decide);obtain⟨c,g,hc⟩:=jv (i:=r) (by omega) l;exact⟨.str [c],b,by unfold Ep;simp only[e,g,A0],⟨c,rfl,hc⟩,a⟩
 obtain⟨z,g,h⟩:=QO hd (by omega);exact⟨z,b,⟨ds,e,g⟩,by rw[j]at h;exact h,a⟩
variable{α:Type}
theorem sM(xs:List α)(r:Nat)(h:Option Int):(Bo xs (_s (r:Int)) h).length<=xs.length-r:=by
 unfold Bo;rw[U0,d5];have:HT.zD xs.length 0 (_s (r:Int))=min r xs.length:=by unfold HT.zD;simp only[];split<;>omega
 omega
variable{l:List Nat}
theorem uH{N:Nat}(b:l.length<=1000000)(h:∀c∈l,c < 128){lo hi:Option Int}(a:(Bo l lo hi).length<=N):∃y,NI (.str l) lo hi=_s y/\Tx N y:=
 ⟨.str (Uh l lo hi),by simp only[NI,if_pos b],_,rfl,by rw[Mz];exact a,λc hc=>h c (Sa (by rw[<- Mz];exact hc))⟩
noncomputable def qC:List Nat->List Nat
 |[]=>[]
 |c::t=>U4 c::t
def FL:Dv->Dv
 |.str l=>.str (qC l)
 |x=>x
def Nm(p:List Nat)(c:Nat)(x:Dv):Prop:=∃t,x=.str (p++c::t)
theorem cV{i:Int}(h0:0<=i)(h:i < 26):AB (.str lP) (.int i)=_s (.str [97+i.toNat]):=by
 obtain⟨n,rfl⟩:∃n:Nat,i=n:=⟨i.toNat,by omega⟩;have hn:n < 26:=by omega
 have e:∀k < 26,lP[k]?=_s (97+k):=by decide
 have:=DF lP n hn;have a:=e n hn;rw[A3 hn]at a;simp only[AB,if_pos (show lP.length<=1000000 by decide),this,C3 a,G0,S8]
noncomputable def ch(r i:Nat):Nat:=97+(r+7 * i) % 26
theorem qB{r i j:Nat}(hi:i < 26)(a:j < 26)(h:i≠j):ch r i≠ch r j:=by unfold ch;omega
theorem Jy{r:Nat}(h:r<=l.length):Uh l _n (_s (r:Int))=l.take r:=by
 rw[Mz];unfold Bo;have a:HT.zD l.length 0 _n=0:=rfl;have b:HT.zD l.length l.length (_s (r:Int))=r:=by unfold HT.zD;simp only[];split<;>omega
 rw[a,b];simp
theorem VF{a b:List Nat}(h:a.length+b.length<=1000000):Ad (.str a) (.str b)=_s (.str (a++b)):=by simp only[Ad,if_pos h]
theorem QI(h:Tx 4 (.str l)):∃u,Gz (.str l)=_s (.str (l++u))/\Tx 5 (.str (l++u)):=by obtain⟨_,d,h1,h2⟩:=id h;cases d;unfold Gz;have e:=VC _f l [[100,101,102],[108,101,116],[116,101,108,108],[108,111,111,112],[112,105,99,107],[99,97,108,108]];simp only[A9,S7,B3,if_false]at e;simp only[e,A0];split;obtain⟨z,a,b⟩:=h.add (ML (c:=113) (by decide)) (by decide);rw[VF (by simp;omega)]at a;cases a;exact⟨[113],by rw[VF (by simp;omega)];rfl,b⟩;exact⟨[],by rw[G4],by rw[G4];exact h.mono (by decide)⟩
theorem JZ(hf:Fd f)(h2:2<=n)(hn:n<=26):∃ns v,Cy f (.int n)=_s (.lst ns,v)/\ns.length=n/\(∀x∈ns,Tx 5 x)/\ns.Pairwise (λx y=>FL x≠FL y)/\Fd v:=by
 obtain⟨Z,f1,e1,b1,hf1⟩:=Ae hf (n:=4) (by decide) (by decide);have er:CZ [.int Z]=_s ((B6 (Z:Int).toNat).map λk=>.int (k:Nat)):=GL (by omega) (by omega);obtain⟨z,f2,⟨ds,e3,e4⟩,hz,hf2⟩:=TQ hf1 ((B6 (Z:Int).toNat).map λk=>.int (k:Nat)) (by simp;omega);have hz:Tx 3 z:=hz.mono (by simp;omega);obtain⟨m,rfl,hz1,O⟩:=hz;obtain⟨o,f7,e7,b7,hf7⟩:=Ae hf2 (n:=26) (by decide) (by decide);have el:Au (.str m)=_s (.int m.length):=by simp only[Au,if_pos (show m.length<=1000000 by omega)]
 obtain⟨d,f10,e10,b10,Y⟩:=Ae hf7 (n:=(m.length:Int)+1) (by omega) (by omega);obtain⟨K,S,e11,b11,J⟩:=Ae Y (n:=4) (by decide) (by decide);have en:CZ [.int n]=_s ((B6 (n:Int).toNat).map λk=>.int (k:Nat)):=GL (by omega) (by omega);obtain⟨c,e12,ns,rfl,E,A,s⟩:=Jq (HE (.str m) (.int o) (.int d) (.int K)) (λi c=>∃ns,c=.lst ns/\ns.length=i/\(∀x∈ns,Tx 5 x)/\∀j x,ns[j]?=_s x->Nm (m.take d) (ch o j) x) ((B6 (n:Int).toNat).map λk=>.int (k:Nat)) 0 (.lst []) ⟨[],rfl,rfl,(λ_ z=>(O3 z).elim),λj x h=>by simp at h⟩ λi x g c hc=>by
  obtain⟨ns,rfl,E,A,s⟩:=hc;rw[C8]at g;have hi:i < n:=by
   rcases l9 i n with h|h
   exact h;rw[M9 (by simp;omega)]at g;cases g
  rw[A3 (by simp;omega)]at g;simp only[G0,Q7,U8]at g;subst g;have ec:=cV (i:=((o:Int)+7 * (i:Nat)) % 26) (k6 _ (by decide)) (p9 _ (by decide));have ecc:97+(((o:Int)+7 * (i:Nat)) % 26).toNat=ch o i:=by unfold ch;omega
  rw[ecc]at ec;have hc:ch o i < 128:=by unfold ch;omega
  have X:d<=m.length:=by omega
  have ey1:NI (.str m) _n (_s (d:Int))=_s (.str (m.take d)):=by simp only[NI,if_pos (show m.length<=1000000 by omega),Jy X]
  have hy1:Tx d (.str (m.take d)):=⟨_,rfl,by simp;omega,λc hc=>O c (V8 hc)⟩;have U:=VF (a:=m.take d) (b:=[ch o i]) (by simp;omega);obtain⟨y2',H,hy2⟩:=hy1.add (ML hc) (by omega);rw[U]at H;cases H;obtain⟨y3,ey3,P⟩:=uH (by omega) O (sM m d (_s (((K:Int)+(i:Nat)) % 4)));obtain⟨W,rfl,ht3,_⟩:=id P;have T:=VF (a:=m.take d++[ch o i]) (b:=W) (by simp;omega);obtain⟨y4',I,hy4⟩:=hy2.add P (by omega);rw[T]at I;cases I;obtain⟨u,ey5,hy5⟩:=QI (hy4.mono (by omega));refine⟨.lst (ns++[.str (m.take d++[ch o i]++W++u)]),?_,ns++[.str (m.take d++[ch o i]++W++u)],rfl,by rw[F0,E];rfl,λx g=>?_,λj x g=>?_⟩;have b7:big 7=true:=by decide
  unfold HE;simp only[EF,b7,vD,if_true,A0,Br,Oy _ _ (show(0:Int) < 26 by decide),Oy _ _ (show(0:Int) < 4 by decide),ec,qX,ey1,ey3];rw[U];simp only[A0];rw[T];simp only[A0,ey5,Eg,Dj (show ns.length<=1000000 by omega)];rcases E6.mp g with g|g
  exact A x g;rw[D5]at g;subst g;exact hy5;rcases l9 j ns.length with w|w
  rw[F9 w]at g;exact s j x g;have C:j=ns.length:=by have:=(A7.mp g).1;simp at this;omega
  subst C;rw[V6 (C4 _),Nat.sub_self]at g;cases g;rw[E,U7];exact⟨W++u,by simp⟩
 have E:ns.length=n:=by rw[E];simp
 have D:∀i j x y,i≠j->i < 26->j < 26->Nm (m.take d) (ch o i) x->Nm (m.take d) (ch o j) y->FL x≠FL y:=λi j x y ne hi C ⟨t,e⟩ ⟨t',e'⟩ q=>by
  rw[e,e']at q;have q:=Dv.str.inj q;have k:=qB (r:=o) hi C ne;have k1:ch o i < 123:=by unfold ch;omega
  have k2:ch o j < 123:=by unfold ch;omega
  have k3:97<=ch o i:=by unfold ch;omega
  have k4:97<=ch o j:=by unfold ch;omega
  cases hp:m.take d with|nil=>rw[hp]at q;have:=(um q).1;unfold U4 at this;rw[if_pos (by omega),if_pos (by omega)]at this;omega|cons a p=>rw[hp]at q;exact k (um (List.append_cancel_left (um q).2)).1
 have nd:ns.Pairwise (λx y=>FL x≠FL y):=S3.mpr λi j hi C lt=>D i j _ _ (by omega) (by omega) (by omega) (s i _ (A3 hi)) (s j _ (A3 C));have L:∃G v,Gy (.int n) S (.lst ns)=_s (v,.lst G)/\G.length=n/\(∀x∈G,Tx 5 x)/\G.Pairwise (λx y=>FL x≠FL y)/\Fd v:=by
  have m2:∃x∈ns,AB (.lst ns) (.int (-2))=_s x/\ns[n-2]?=_s x:=by refine⟨ns[n-2]'(by omega),W0 _,?_,A3 (by omega)⟩;simp only[AB,Gp,Xn];rw[if_neg (by omega),if_pos (by omega)];simp only[A0];rw[show(-2+(ns.length:Int)).toNat=n-2 by omega];exact A3 (by omega)
  obtain⟨x,g,ex,F⟩:=m2;obtain⟨l,rfl,hl1,zt⟩:=id (A x g);have t1:∃(b:Bool)(v:Dv),Gv (.int n) S (.lst ns)=_s (b,v)/\(b=_t->l.length<=3)/\Fd v:=by unfold Gv Kw;simp only[FP,VN,show(1:Int) < n by omega,decide_true,if_true,A0,Kj,ex,Au,if_pos (show l.length<=1000000 by omega)];split;rename_i zg;obtain⟨r,v,e,_,h⟩:=Ae J (n:=4) (by decide) (by decide);simp only[e,A0,IV];exact⟨_,_,rfl,λ_=>by have:=of_decide_eq_true zg;omega,h⟩;exact⟨_,_,rfl,(λz=>by cases z),J⟩
  obtain⟨b,v,et,R,B⟩:=t1;unfold Gy;simp only[et,A0];cases b;exact⟨ns,v,by simp,E,A,nd,B⟩
  ·have ey:=VF (a:=l) (b:=[113]) (by have:=R rfl;simp;omega);obtain⟨y',V,hy⟩:=Tx.add (N:=3) (M:=1) ⟨l,rfl,R rfl,zt⟩ (ML (c:=113) (by decide)) (by decide);rw[ey]at V;cases V;simp only[if_true,Kj,A0,ex,ey,Bq,Xn];rw[if_neg (by omega),if_pos (by omega)];refine⟨_,v,rfl,by rw[D8];exact E,λx g=>?_,?_,B⟩
   rcases List.mem_or_eq_of_mem_set g with g|rfl
   exact A x g;exact hy.mono (by decide)
   ·have k1:(-1+(ns.length:Int)).toNat=n-1:=by omega
    rw[k1];refine S3.mpr λi j hi C lt=>?_;rw[D8]at hi C;rw[xN,xN,if_neg (show ¬n-1=i by omega)];have Q:=s i _ (A3 hi);split
    ·rename_i ej;obtain⟨t,et⟩:=s (n-2) _ F
     by_cases e2:i=n-2
     ·subst e2;have:ns[n-2]=.str l:=by rw[A3 hi]at F;exact C3 F
      rw[this];intro q;have:=congrArg Y3 (Dv.str.inj q);have cl:∀l,(qC l).length=l.length:=λl=>by cases l<;>rfl
      rw[cl,cl]at this;simp at this
     refine D i (n-2) _ _ e2 (by omega) (by omega) Q ⟨t++[113],?_⟩;rw[Dv.str.inj et];simp
    exact D i j _ _ (by omega) (by omega) (by omega) Q (s j _ (A3 C))
 obtain⟨G,v,e13,hl3,hms,hnd,B⟩:=L;refine⟨G,v,?_,hl3,hms,hnd,B⟩;unfold Cy;simp only[oy,e1,er,A0];rw[AL (by simp;omega)];simp only[A0,e3,e4,e7,el,Br,e10,e11,en];rw[e12];simp only[A0,e13]
def qt(n:Nat)(xs:List Dv):Prop:=∀y∈xs,∃r:Nat,y=.int r/\r < n
def Row(n:Nat)(x:Dv):Prop:=∃xs,x=.tup xs/\xs.length=n/\qt n xs
def Tab(n:Nat)(r:Int)(x:Dv):Prop:=(r=1/\Row n x)\/(r=2/\∃xs,x=.tup xs/\xs.length=n/\∀y∈xs,Row n y)
def Gk(N:Nat)(x:Dv):Prop:=∃a r,x=.tup [a,.int r]/\Tx N a/\(r=1\/r=2)
def mC(n:Nat)(d t:Dv):Prop:=∃a r,d=.tup [a,.int r]/\(r=1\/r=2)/\Tab n r t
noncomputable def Qy(d:Dv):Dv:=match d with|.tup (a::_)=>a|_=>.yw
abbrev DP(ds:List Dv):Prop:=ds.Pairwise λx y=>Qy x≠Qy y
theorem KA{γ:Type}(g:Dv->γ->Option (Dv×γ))(P:γ->Prop)(R:Nat->Dv->Prop):∀(xs:List Dv)(o:Nat)(c:γ),P c->(∀i x,xs[i]?=_s x->∀c,P c->∃d b,g x c=_s (d,b)/\R (o+i) d/\P b)->∃ds b,Bp g xs c=_s (ds,b)/\ds.length=xs.length/\(∀i d,ds[i]?=_s d->R (o+i) d)/\P b
 |[],o,c,hc,_=>⟨[],c,rfl,rfl,(λi d h=>by simp at h),hc⟩
 |x::xs,o,c,hc,h=>by
  obtain⟨d,r,p,j,p1⟩:=h 0 x rfl c hc;obtain⟨ds,q,m,l2,e,p2⟩:=KA g P R xs (o+1) r p1 λi y a c hc=>by have:=h (i+1) y a c hc;rw[show o+(i+1)=o+1+i by omega]at this;exact this
  refine⟨d::ds,q,by simp only[Bp,p,m,A0],by rw[E3,E3,l2],λi y a=>?_,p2⟩;cases i with|zero=>simp at a;subst a;exact j|succ i=>have:=e i y (by simpa using a);rw[show o+(i+1)=o+1+i by omega];exact this
theorem Pe(hf:Fd f):∃fs ds A,GE f=_s (.tup [.tup fs,.tup ds],A)/\fs.length<=4/\(∀x∈fs,Tx 10 x)/\fs.Pairwise (·≠·)/\ds.length<=3/\(∀x∈ds,Gk 5 x)/\DP ds/\Fd A:=by
 obtain⟨ns,f1,e1,hl,L,N,R⟩:=JZ hf (n:=4) (by decide) (by decide);obtain⟨o,f2,e2,b2,Q⟩:=Ae R (n:=4) (by decide) (by decide);have h3:∀x∈Bo ns _n (_s (o:Int)),Tx 5 x:=λx g=>L x (Sa g);have l3:=Sb ns _n (_s (o:Int));have v:∀x∈Bo ns _n (_s (o:Int)),Eo x=_s (FL x)/\Tx 10 (FL x):=λx g=>by
  obtain⟨l,rfl,P,w⟩:=h3 x g;have c1:NI (.str l) _n (_s 1)=_s (.str (l.take 1)):=by
   cases l with|nil=>rfl|cons a t=>simp only[NI,if_pos (show(a::t).length<=1000000 by omega),Jy (r:=1) (show 1<=(a::t).length by simp)];exact congrArg (λz=>_s (Dv.str z)) (Jy (r:=1) (by simp))
  have c2:NI (.str l) (_s 1) _n=_s (.str (l.drop 1)):=by
   simp only[NI,if_pos (show l.length<=1000000 by omega)];rw[Mz];unfold Bo;have a:HT.zD l.length 0 (_s 1)=min 1 l.length:=by unfold HT.zD;simp only[];split<;>omega
   have b:HT.zD l.length l.length _n=l.length:=rfl;rw[a,b];cases l with|nil=>rfl|cons a t=>simp
  have hx':Tx 5 (.str l):=⟨l,rfl,P,w⟩;have K:Tx 5 (.str (l.take 1)):=⟨_,rfl,by simp;omega,λc hc=>w c (V8 hc)⟩;have zR:Tx 5 (.str (l.drop 1)):=⟨_,rfl,by simp;omega,λc hc=>w c (vd hc)⟩;obtain⟨y2,u,J⟩:=K.upper (by decide);obtain⟨y4,s,I⟩:=J.add zR (by decide);have e:y4=FL (.str l):=by
   have e0:((l.take 1).all (λc=>decide (c < 128))&&decide ((l.take 1).length<=1000000))=true:=by rw[A2];exact⟨E4.mpr λc hc=>decide_eq_true (w c (V8 hc)),decide_eq_true (by simp;omega)⟩
   simp only[Fu,e0,if_true,Q7]at u;subst u;rw[VF (by simp;omega)]at s;rw[<- C3 s];cases l<;>rfl
  subst e;exact⟨by unfold Eo;simp only[c1,oy,u,c2,s,A0],I⟩
 have e4:=ON Eo FL (Bo ns _n (_s (o:Int))) λx g=>(v x g).1;have h4:∀x∈(Bo ns _n (_s (o:Int))).map FL,Tx 10 x:=λx g=>by obtain⟨y,hy,rfl⟩:=G6.mp g;exact(v y hy).2
 have h5:((Bo ns _n (_s (o:Int))).map FL).Pairwise (·≠·):=t5.mpr (N.sublist ((wY _ _).trans (List.drop_sublist _ _)));have l4:((Bo ns _n (_s (o:Int))).map FL).length=(Bo ns _n (_s (o:Int))).length:=B9 ..;obtain⟨p,W,Z,zFI,O,M,E⟩:=JZ Q (n:=3) (by decide) (by decide);obtain⟨G,V,Y,b11,F⟩:=Ae E (n:=8) (by decide) (by decide);have m:∀x∈[(Dv.int 1),(Dv.int 2),(Dv.int 3),(Dv.int 2),(Dv.int 3),(Dv.int 1),(Dv.int 2),(Dv.int 0)],∃k:Nat,x=.int k/\k<=3:=by
  intro x g;simp only[C9,O3,or_false]at g;rcases g with rfl|rfl|rfl|rfl|rfl|rfl|rfl|rfl
  all_goals first|exact⟨0,rfl,by decide⟩|exact⟨1,rfl,by decide⟩|exact⟨2,rfl,by decide⟩|exact⟨3,rfl,by decide⟩
 obtain⟨x,g,ex⟩:=qa (xs:=[(Dv.int 1),(Dv.int 2),(Dv.int 3),(Dv.int 2),(Dv.int 3),(Dv.int 1),(Dv.int 2),(Dv.int 0)]) (i:=G) (by omega) b11;obtain⟨k,rfl,hk⟩:=m x g;have er:CZ [.int k]=_s ((B6 (k:Int).toNat).map λj=>.int (j:Nat)):=GL (by omega) (by omega);obtain⟨H,U,X,l6,h6,D⟩:=KA (HB (.lst p)) Fd (λj d=>∃a r,p[j]?=_s a/\d=.tup [a,.int r]/\Tx 5 a/\(r=1\/r=2)) ((B6 (k:Int).toNat).map λj=>.int (j:Nat)) 0 V F λi x g c hc=>by
  rw[C8]at g;have hi:i < k:=by
   rcases l9 i k with h|h
   exact h;rw[M9 (by simp;omega)]at g;cases g
  rw[A3 (by simp;omega)]at g;simp only[G0,Q7,U8]at g;subst g;have B:AB (.lst p) (.int (i:Nat))=_s p[i]:=DF p i (by omega);obtain⟨r,A,e,b,S⟩:=Ae hc (n:=2) (by decide) (by decide);exact⟨.tup [p[i],.int (1+r)],A,by unfold HB;simp only[B,e,A0,Br],⟨p[i],1+r,by rw[U7];exact A3 (by omega),rfl,O _ (W0 _),by omega⟩,S⟩
 have T:∀x∈H,Gk 5 x:=λx g=>by obtain⟨i,hi⟩:=vY g;obtain⟨a,r,_,rfl,h⟩:=h6 i x hi;exact⟨a,r,rfl,h⟩
 have h7:H.Pairwise (λx y=>Qy x≠Qy y):=S3.mpr λi j hi hj lt=>by obtain⟨a,r,B,e,_⟩:=h6 i _ (A3 hi);obtain⟨b,q,eb,e',_⟩:=h6 j _ (A3 hj);rw[e,e'];show a≠b;rw[U7]at B eb;obtain⟨h1,rfl⟩:=A7.mp B;obtain⟨h2,rfl⟩:=A7.mp eb;exact λz=>S3.mp M i j h1 h2 lt (congrArg FL z)
 refine⟨_,H,U,?_,by rw[l4];omega,h4,h5,by rw[l6];simp;omega,T,h7,D⟩;have e1':Cy f (.int 4)=_s (.lst ns,f1):=e1;have C:Cy f2 (.int 3)=_s (.lst p,W):=Z;unfold GE;simp only[e1',e2,A0,qX,NI,items];rw[AL (by omega),e4];simp only[A0,C,Y];rw[ex];simp only[A0,er];rw[AL (by simp;omega),X];rfl
theorem JK(g:Dv->Dv->Dv->Option (Dv×Dv))(i:∀h it c,g h it c=(AX c h).bind λr=>_s (r.1,r.2))(h0:0 < n)(h1:n<=1000)(j:Fd f)(xs:List Dv):∃ts a,Bp (g (.int n)) xs f=_s (ts,a)/\ts.length=xs.length/\qt n ts/\Fd a:=
 Di (g (.int n)) Fd (λy=>∃r:Nat,y=.int r/\r < n) xs f j λx m c hc=>by obtain⟨r,a,e,b,d⟩:=Ae hc (n:=n) (by omega) (by omega);exact⟨.int r,a,by rw[i,e];rfl,⟨r,rfl,by omega⟩,d⟩
theorem HV(g:Dv->(Dv×Dv)->Option (Dv×Dv))(P:Dv->Prop)(R:Dv->Dv->Prop):∀(xs:List Dv)(f:Dv)(a:List Dv),P f->a.length+xs.length<=1000->(∀x∈xs,∀f a,P f->a.length<=1000->∃b t,g x (f,.lst a)=_s (b,.lst (a++[t]))/\R x t/\P b)->∃b ts,AW g xs (f,.lst a)=_s (b,.lst (a++ts))/\Paired R xs ts/\P b
 |[],f,a,c,_,_=>⟨f,[],by simp only[AW,G4],.nil,c⟩
 |x::xs,f,a,c,j,h=>by rw[E3]at j;obtain⟨m,t,p,e,h1⟩:=h x B2 f a c (by omega);obtain⟨f2,ts,o,d,h2⟩:=HV g P R xs m (a++[t]) h1 (by rw[F0];simp;omega) λy i=>h y (B1 _ i);exact⟨f2,t::ts,by simp only[AW,p,A0,o,J3,List.singleton_append],.cons e d,h2⟩
variable{fs ds:List Dv}
theorem Ih(i:Fd f)(h0:0 < n)(h1:n<=1000)(hfs:fs.length<=100)(z:ds.length<=100)(hd:∀x∈ds,∃a r,x=.tup [a,.int r]/\(r=1\/r=2)):∃ts d g,Do f (.tup [.tup fs,.tup ds]) (.int n)=_s (.tup [.int n,.tup ts,.tup d],g)/\ts.length=fs.length/\qt n ts/\Paired (mC n) ds d/\Fd g:=by
  obtain⟨ts,A,C,l1,q,p⟩:=JK LB (λ_ _ _=>rfl) h0 h1 i fs;have er:CZ [.int n]=_s ((B6 (n:Int).toNat).map λj=>.int (j:Nat)):=GL (by omega) (by omega);have lr:((B6 (n:Int).toNat).map λj=>Dv.int (j:Nat)).length=n:=by simp
  obtain⟨f2,d,B,p2,o⟩:=HV (Er (.int n)) Fd (mC n) ds A [] p (by simp;omega) λx t f h i D=>by
    obtain⟨a,r,rfl,y⟩:=hd x t;rcases y with rfl|rfl
    obtain⟨ys,g,e,l,m,b⟩:=JK LA (λ_ _ _=>rfl) h0 h1 i ((B6 (n:Int).toNat).map λj=>.int (j:Nat));refine⟨g,.tup ys,?_,⟨a,1,rfl,.inl rfl,.inl ⟨rfl,ys,rfl,by rw[l,lr],m⟩⟩,b⟩;unfold Er Gw;simp only[FJ,A0,IV,decide_true,if_true,er,Eg];rw[AL (by omega),e];simp only[A0,AS,Dj (show h.length<=1000000 by omega)];obtain⟨ys,g,e,l,m,b⟩:=Di (HA (.int n)) Fd (Row n) ((B6 (n:Int).toNat).map λj=>.int (j:Nat)) f i λx t c hc=>by obtain⟨s,g,e,l,w,b⟩:=JK Kz (λ_ _ _=>rfl) h0 h1 hc ((B6 (n:Int).toNat).map λj=>.int (j:Nat));refine⟨.tup s,g,?_,⟨s,rfl,by rw[l,lr],w⟩,b⟩;unfold HA;simp only[A0,er];rw[AL (by omega),e];simp only[A0,AS]
    refine⟨g,.tup ys,?_,⟨a,2,rfl,.inr rfl,.inr ⟨rfl,ys,rfl,by rw[l,lr],m⟩⟩,b⟩;unfold Er Gw;simp only[FJ,A0,IV,show decide ((2:Int)=1)=_f by decide,B3,if_false,er,Eg];rw[AL (by omega),e];simp only[A0,AS,Dj (show h.length<=1000000 by omega)]
  refine⟨ts,d,f2,?_,l1,q,p2,o⟩;have v:AB (.tup [.tup fs,.tup ds]) (.int 0)=_s (.tup fs):=rfl;have u:AB (.tup [.tup fs,.tup ds]) (.int 1)=_s (.tup ds):=rfl;unfold Do;simp only[v,u,A0,items];rw[AL (by omega),C];simp only[A0,AS];rw[B];rfl
noncomputable def nI(ts:List Nat):List Dv:=ts.map λt=>Dv.int (t:Nat)
def tI(ts:List Nat):Dv:=.tup (nI ts)
theorem Fe(ts:List Nat):(nI ts).length=ts.length:=by simp[nI]
theorem hV(ts:List Nat):Au (tI ts)=_s (.int (ts.length:Nat)):=by show _s (Dv.int ((nI ts).length:Nat))=_;rw[Fe]
theorem PR{n:Nat}:∀{xs:List Dv},qt n xs->∃ts,xs=nI ts/\∀t∈ts,t < n
 |[],_=>⟨[],rfl,λ_ h=>by cases h⟩
 |x::xs,h=>by
  obtain⟨ts,e,b⟩:=PR (xs:=xs) λy a=>h y (B1 _ a);obtain⟨r,rfl,c⟩:=h x B2;refine⟨r::ts,by rw[e];rfl,λt h=>?_⟩;rcases C9.mp h with rfl|h
  exact c;exact b t h
theorem NW{ts:List Nat}{h:Nat}(a:h < ts.length):AB (tI ts) (.int (h:Nat))=_s (.int (ts.getD h 0:Nat)):=by show Gp (nI ts) (h:Int)=_;rw[DF _ _ (by rw[Fe];exact a)];simp[nI,R3,a]
theorem getD_mem{ts:List Nat}{h:Nat}(a:h < ts.length):ts.getD h 0∈ts:=by simp[R3,a]
def sub(x:Dv)(a:Nat):Dv:=(AB x (.int (a:Nat))).getD .yw
def gI(x:Dv)(a:Nat):Nat:=match sub x a with|.int c=>c.toNat|_=>0
variable{x:Dv}
theorem Re{a:Nat}(h:Row n x)(ha:a < n):AB x (.int (a:Nat))=_s (.int (gI x a:Nat))/\gI x a < n:=by
 obtain⟨xs,rfl,g,d⟩:=h;obtain⟨y,b,e⟩:=gK (xs:=xs) (i:=a) (by omega) (by omega);obtain⟨c,rfl,hc⟩:=d y b;have:gI (.tup xs) a=c:=by unfold gI sub;rw[e];simp
 rw[this];exact⟨e,hc⟩
def qb(n:Nat)(x:Dv):Prop:=∃xs,x=.tup xs/\xs.length=n/\∀y∈xs,Row n y
theorem aT{a:Nat}(h:qb n x)(ha:a < n):AB x (.int (a:Nat))=_s (sub x a)/\Row n (sub x a):=by
 obtain⟨xs,rfl,d,c⟩:=h;obtain⟨y,b,e⟩:=gK (xs:=xs) (i:=a) (by omega) (by omega);have:sub (.tup xs) a=y:=by unfold sub;rw[e];rfl
 rw[this];exact⟨e,c y b⟩
theorem Tab.one(h:Tab n 1 x):Row n x:=by
 rcases h with⟨_,h⟩|⟨h,_⟩
 exact h;cases h
theorem Tab.two(h:Tab n 2 x):qb n x:=by
 rcases h with⟨h,_⟩|⟨_,h⟩
 cases h;exact h
def Wl(n b:Nat)(ds:List Dv)(w:Dv)(cs:List Nat)(a:List Dv):Prop:=w=.tup [.int (n:Nat),tI cs,.tup a]/\cs.length=b/\(∀c∈cs,c < n)/\Paired (mC n) ds a
variable{nf:Nat}
theorem Wl.w1{w:Dv}{cs:List Nat}{a:List Dv}(h:Wl n nf ds w cs a):AB w (.int 1)=_s (tI cs):=by rw[h.1];rfl
theorem Wl.w2{w:Dv}{cs:List Nat}{a:List Dv}(h:Wl n nf ds w cs a):AB w (.int 2)=_s (.tup a):=by rw[h.1];rfl
theorem SJ{l:List Nat}:∀{fs:List Dv},Dv.str l∈fs->∃j,EA (.str l) fs=_s j/\j < fs.length
 |[],h=>by cases h
 |x::xs,h=>by unfold EA;by_cases e:_root_.R.zw x (.str l)=_t;exact⟨0,by rw[if_pos e],by simp⟩;have:Dv.str l∈xs:=(C9.mp h).resolve_left λz=>e (by rw[<- z];simp[_root_.R.zw]);obtain⟨j,q,a⟩:=SJ this;exact⟨j+1,by rw[if_neg e,q];rfl,by simp;omega⟩
theorem Mw{l:List Nat}{r:Int}:∀{ds:List Dv},(∀x∈ds,Gk 6 x)->DP ds->Dv.tup [.str l,.int r]∈ds->∃j,EA (.str l) (ds.map Qy)=_s j/\ds[j]?=_s (.tup [.str l,.int r])
 |[],_,_,h=>by cases h
 |x::xs,hd,pw,h=>by
  rw[A9];unfold EA;rcases C9.mp h with e|hm
  refine⟨0,?_,by rw[<- e];rfl⟩;rw[if_pos (by rw[<- e];simp[Qy,_root_.R.zw])];obtain⟨a,b,rfl,⟨c,rfl,_⟩,_⟩:=hd x B2;have ne:=(Y0.mp pw).1 _ hm;have e:¬_root_.R.zw (Qy (.tup [.str c,.int b])) (.str l)=true:=λz=>ne (by simp[Qy,_root_.R.zw]at z ⊢;exact z);obtain⟨j,q,g⟩:=Mw (λy d=>hd y (B1 _ d)) (Y0.mp pw).2 hm;exact⟨j+1,by rw[if_neg e,q];rfl,by simpa using g⟩
theorem Rr{R:Dv->Dv->Prop}:∀{xs ys:List Dv},Paired R xs ys->∀{j:Nat}{x:Dv},xs[j]?=_s x->∃y,ys[j]?=_s y/\R x y
 |_,_,.nil,j,x,h=>by simp at h
 |_,_,.cons r p,0,x,h=>by simp at h;subst h;exact⟨_,rfl,r⟩
 |_,_,.cons r p,j+1,x,h=>by obtain⟨y,e,z⟩:=Rr p (j:=j) (by simpa using h);exact⟨y,by simpa using e,z⟩
theorem MH:∀{xs:List Dv},(∀x∈xs,∃l,x=.str l)->Al xs=_t/\BH xs=0
 |[],_=>⟨rfl,rfl⟩
 |x::xs,h=>by obtain⟨l,rfl⟩:=h x B2;obtain⟨h1,h2⟩:=MH (xs:=xs) λy a=>h y (B1 _ a);simp only[Al,BH,Dv.cmp,Dv.dep,h1,h2,L0];exact⟨trivial,rfl⟩
def Qu(t:Dv):List Nat->Dv
 |[]=>t
 |a::as=>Qu (sub t a) as
def ac(t:Dv)(ths:List Nat):Nat:=match Qu t ths with|.int c=>c.toNat|_=>0
variable{r:Int}
theorem RO{t:Dv}{ths:List Nat}(i:Tab n r t)(j:r=1\/r=2)(m:(ths.length:Int)=r)(h:∀a∈ths,a < n):AW BJ (nI ths) t=_s (.int (ac t ths:Nat))/\AW BJ (nI ths) t=_s (.int (ac t ths:Nat))/\ac t ths < n:=by
 rcases j with rfl|rfl
 obtain⟨a,rfl⟩:∃a,ths=[a]:=vF.mp (by omega);obtain⟨e,b⟩:=Re i.one (h a B2);have s:sub t a=.int (gI t a:Nat):=by unfold sub;rw[e];rfl
 have c:ac t [a]=gI t a:=by unfold ac Qu Qu;rw[s];simp
 rw[c];exact⟨by simp only[nI,A9,S7,AW,BJ,e,A0],by simp only[nI,A9,S7,AW,BJ,e,A0],b⟩;obtain⟨a,b,rfl⟩:∃a b,ths=[a,b]:=match ths,(show ths.length=2 by omega)with|[a,b],_=>⟨a,b,rfl⟩
 obtain⟨e,g⟩:=aT i.two (h a B2);obtain⟨d,b2⟩:=Re g (h b (by simp));have s:sub (sub t a) b=.int (gI (sub t a) b:Nat):=by unfold sub at d ⊢;rw[d];rfl
 have c:ac t [a,b]=gI (sub t a) b:=by unfold ac Qu Qu Qu;rw[s];simp
 rw[c];exact⟨by simp only[nI,A9,S7,AW,BJ,e,d,A0],by simp only[nI,A9,S7,AW,BJ,e,d,A0],b2⟩
def FU(ds T:List Dv)(d:Dv):Dv:=T.getD ((EA d (ds.map Qy)).getD 0) .yw
def UU(fs:List Dv)(cs:List Nat)(c:Dv):Nat:=cs.getD ((EA c fs).getD 0) 0
section
variable{n I:Nat}{fs ds:List Dv}{w:Dv}{cs ins:List Nat}{T:List Dv}
theorem Ja(hd:∀x∈ds,Gk 6 x)(g:Dv->Option Dv)(d:∀a r,g (.tup [a,.int r])=_s a):AO g ds=_s (ds.map Qy):=by
 induction ds with|nil=>rfl|cons x xs b=>obtain⟨a,r,rfl,_⟩:=hd x B2;simp only[AO,d,b λy c=>hd y (B1 _ c),A0,A9];rfl
theorem XG(hd:∀x∈ds,Gk 6 x):Al (ds.map Qy)=_t/\BH (ds.map Qy)=0:=MH λx c=>by obtain⟨y,b,rfl⟩:=G6.mp c;obtain⟨a,r,rfl,⟨l,rfl,_⟩,_⟩:=hd y b;exact⟨l,rfl⟩
theorem Qh(hd:∀x∈ds,Gk 6 x)(hdl:ds.length<=1000)(pw:DP ds)(W:Wl n fs.length ds w cs T)(hm:Dv.tup [.str l,.int r]∈ds)(p:r=1\/r=2){ths:List Nat}(q:(ths.length:Int)=r)(o:∀a∈ths,a < n) :
    Ec (.tup [.tup fs,.tup ds]) w (.str l)=_s (FU ds T (.str l))/\Tab n r (FU ds T (.str l))/\GG (.tup [.tup fs,.tup ds]) w (.str l) (.lst (nI ths))=_s (.int (ac (FU ds T (.str l)) ths:Nat))/\ac (FU ds T (.str l)) ths < n:=by
  obtain⟨j,i,s⟩:=Mw hd pw hm;obtain⟨t,c,b⟩:=Rr W.2.2.2 s;obtain⟨z,y,e,_,b⟩:=b;simp only[Dv.tup.injEq,i8,Dv.int.injEq,and_true]at e;obtain⟨_,rfl⟩:=e;have m:FU ds T (.str l)=t:=by unfold FU;rw[i];simp[R3,c]
  rw[m];obtain⟨h1,h2,h3⟩:=RO b p q o;have h:AB (.tup [.tup fs,.tup ds]) (.int 1)=_s (.tup ds):=rfl;have it:items (.tup ds)=_s ds:=rfl;have d:items (.lst (nI ths))=_s (nI ths):=rfl;obtain⟨v,u⟩:=XG hd;have ix:El (.lst (ds.map Qy)) (.str l)=_s (.int (j:Nat)):=by simp only[El,Dv.cmp,v,u,L0,G8,decide_true,if_true,i,G0]
  have g:j < T.length:=(A7.mp c).1;have at_:AB (.tup T) (.int (j:Nat))=_s t:=by show Gp T (j:Int)=_;rw[DF T j g];rw[A3 g]at c;exact c
  refine⟨?_,b,?_,h3⟩;unfold Ec JA;simp only[W.w2,h,it,A0];rw[AL (by omega),Ja hd Bx (λa r=>rfl)];simp only[A0,Eg,ix,Q3,at_];unfold GG Ky;simp only[W.w2,h,it,A0];rw[AL (by omega),Ja hd LF (λa r=>rfl)];simp only[A0,Eg,ix,Q3,at_,d];rw[h2];rfl
theorem QT(hfs:∀x∈fs,Tx 10 x)(W:Wl n fs.length ds w cs T){c:Dv}(hc:c∈fs):∃j:Nat,FV (.tup [.tup fs,.tup ds]) c=_s (.int (j:Nat))/\AB (tI cs) (.int (j:Nat))=_s (.int (UU fs cs c:Nat))/\UU fs cs c < n:=by
 obtain⟨l,rfl,_⟩:=hfs c hc;obtain⟨j,d,i⟩:=SJ hc;obtain⟨o,m⟩:=MH (xs:=fs) λx h=>by obtain⟨l,e,_⟩:=hfs x h;exact⟨l,e⟩
 have g:AB (.tup [.tup fs,.tup ds]) (.int 0)=_s (.tup fs):=rfl;have ix:DH (.tup fs) (.str l)=_s (.int (j:Nat)):=by simp only[DH,Dv.cmp,o,m,L0,G8,decide_true,if_true,d,G0]
 have a:j < cs.length:=by rw[W.2.1];exact i
 have b:UU fs cs (.str l)=cs.getD j 0:=by unfold UU;rw[d];rfl
 refine⟨j,?_,by rw[b];exact NW a,by rw[b];exact W.2.2.1 _ (getD_mem a)⟩;unfold FV;simp only[g,A0,oz,rn,ix,K8]
end
theorem La{γ:Type}{P:Nat->γ->Prop}(g:Dv->γ->Option γ)(n:Nat)(c:γ)(h0:P 0 c)(h:∀i < n,∀c,P i c->∃a,g (.int (i:Nat)) c=_s a/\P (i+1) a):∃a,AW g ((B6 n).map λk=>.int (k:Nat)) c=_s a/\P n a:=by
 obtain⟨a,e,p⟩:=Jq g P ((B6 n).map λk=>.int (k:Nat)) 0 c h0 λi x b c hc=>by
  rw[C8]at b;have hi:i < n:=by
   rcases l9 i n with h|h
   exact h;rw[M9 (by simp;omega)]at b;cases b
  rw[A3 (by simp;omega)]at b;simp only[G0,Q7,U8]at b;subst b;rw[U7]at hc ⊢;exact h i hi c hc
 exact⟨a,e,by simpa using p⟩
structure zh where
 n:Nat
 cs:List Nat
 T:List Dv
 ins:List Nat
def zh.w(p:zh):Dv:=.tup [.int (p.n:Nat),tI p.cs,.tup p.T]
def zh.dv(p:zh):Dv:=.tup [p.w,tI p.ins]
def Gi(I nf:Nat)(ds:List Dv)(p:zh):Prop:=0 < p.n/\p.n<=3/\Wl p.n nf ds p.w p.cs p.T/\p.ins.length=I/\∀t∈p.ins,t < p.n
noncomputable abbrev mR(P:Nat)(f:Nat->Dv):List Dv:=(B6 P).map f
theorem zBt(j:α)(f:α->Dv)(R:Nat->α->Prop)(xs:List Dv)(h:∀i x,xs[i]?=_s x->∃a,x=f a/\R i a):∃g:Nat->α,xs=mR xs.length (λk=>f (g k))/\∀k < xs.length,R k (g k):=by
 have:∀k,∃a,∀x,xs[k]?=_s x->x=f a/\R k a:=λk=>by
  cases e:xs[k]? with|none=>exact⟨j,λx h=>by cases h⟩|some y=>obtain⟨a,h1,h2⟩:=h k y e;exact⟨a,λx c=>by cases c;exact⟨h1,h2⟩⟩
 obtain⟨g,b⟩:=Classical.axiomOfChoice this;refine⟨g,u0 (by simp) λi h1 h2=>?_,λk d=>(b k _ (A3 d)).2⟩;simp only[List.getElem_map,U8];exact(b i _ (A3 h1)).1
theorem XE{R:Dv->Dv->Prop}:∀{xs ys:List Dv},Paired R xs ys->∀y∈ys,∃x,R x y
 |_,_,.nil,y,h=>by cases h
 |_,_,.cons r p,y,h=>by
  rcases C9.mp h with rfl|h
  exact⟨_,r⟩;exact XE p y h
section
variable{I:Nat}{fs ds:List Dv}
theorem jD(hI:I<=100)(hfl:fs.length<=100)(hdl:ds.length<=100)(hd:∀x∈ds,Gk 6 x)(C:Fd f){g:List Dv}(ha:g.length<=1000)(x:Dv):∃i t,Dn (.tup [.tup fs,.tup ds]) (.int (I:Nat)) (.int 3) x (f,.lst g)=_s (i,.lst (g++[t]))/\(∃p,t=p.dv/\Gi I fs.length ds p)/\Fd i:=by
 obtain⟨r,E,H,b1,s⟩:=Ae C (n:=3) (by decide) (by decide);obtain⟨ts,d,f2,G,l2,h2,p2,o⟩:=Ih s (fs:=fs) (ds:=ds) (n:=1+r) (by omega) (by omega) hfl hdl λx z=>by obtain⟨a,r,e,_,h⟩:=hd x z;exact⟨a,r,e,h⟩
 obtain⟨cs,rfl,v⟩:=PR h2;have w:(1:Int)+(r:Int)=((1+r:Nat):Int):=by omega
 have A:AB (.tup [.int ((1+r:Nat)),.tup (nI cs),.tup d]) (.int 0)=_s (.int ((1+r:Nat))):=rfl;obtain⟨ys,D,F,B,h3,m⟩:=Di (FZ (.tup [.int ((1+r:Nat)),.tup (nI cs),.tup d])) Fd (λy=>∃q:Nat,y=.int q/\q < 1+r) ((B6 I).map λk=>.int (k:Nat)) f2 o λx z c hc=>by obtain⟨q,i,e,b,u⟩:=Ae hc (n:=((1+r:Nat):Int)) (by omega) (by omega);exact⟨.int q,i,by unfold FZ;simp only[A,A0,e],⟨q,rfl,by omega⟩,u⟩
 obtain⟨ins,rfl,j⟩:=PR h3;have J:AX f (.int 3)=_s (.int r,E):=H;refine⟨D,.tup [.tup [.int ((1+r:Nat)),tI cs,.tup d],tI ins],?_,⟨⟨1+r,cs,d,ins⟩,rfl,⟨by show 0 < 1+r;omega,by show 1+r<=3;omega,⟨rfl,by rw[<- l2,Fe],v,p2⟩,by show ins.length=I;rw[<- Fe,B];simp,j⟩⟩,m⟩;unfold Dn;simp only[J,A0,Br,w,G,Eg,KW I (by omega)];rw[AL (by simp;omega),F];simp only[A0,AS,Dj (show g.length<=1000000 by omega)];rfl
theorem OC(hI:I<=100)(hfl:fs.length<=100)(hdl:ds.length<=100)(hd:∀x∈ds,Gk 6 x)(c:Fd f):∃xs i,DY f (.tup [.tup fs,.tup ds]) (.int (I:Nat)) (.int 3) (.int 3)=_s (.tup xs,i)/\0 < xs.length/\xs.length<=3/\(∀x∈xs,∃p,x=p.dv/\Gi I fs.length ds p)/\Fd i:=by
 obtain⟨r,g,o,b1,b⟩:=Ae c (n:=3) (by decide) (by decide);have d:(1:Int)+(r:Int)=((1+r:Nat):Int):=by omega
 obtain⟨f2,ts,m,p2,a⟩:=HV (Dn (.tup [.tup fs,.tup ds]) (.int (I:Nat)) (.int 3)) Fd (λ_ t=>∃p,t=p.dv/\Gi I fs.length ds p) ((B6 (1+r)).map λk=>.int (k:Nat)) g [] b (by simp;omega) λx e f s c j=>jD hI hfl hdl hd c j x;have l2:=JT p2;rw[B9,Z8]at l2;refine⟨ts,f2,?_,by omega,by omega,λx e=>(XE p2 x e).elim λ_ h=>h,a⟩;have q:AX f (.int 3)=_s (.int r,g):=o;unfold DY;simp only[q,A0,Br,d,KW (1+r) (by omega)];rw[m];rfl
theorem Te(hI:I<=100)(hfl:fs.length<=100)(hdl:ds.length<=100)(hd:∀x∈ds,Gk 6 x)(g:Fd f):∃(P:Nat)(ps:Nat->zh)(c:Dv),DY f (.tup [.tup fs,.tup ds]) (.int (I:Nat)) (.int 3) (.int 3)=_s (.tup (mR P λk=>(ps k).dv),c)/\0 < P/\P<=3/\(∀k < P,Gi I fs.length ds (ps k))/\Fd c:=by obtain⟨xs,h,m,d,l1,e,b⟩:=OC hI hfl hdl hd g;obtain⟨ps,j,h3⟩:=zBt ⟨0,[],[],[]⟩ zh.dv (λ_ p=>Gi I fs.length ds p) xs λi x a=>e x (K5 a);exact⟨xs.length,ps,h,by rw[m,<- j],d,l1,h3,b⟩
end
theorem DL{g:Dv->Option Dv}{f h:Nat->Dv}:∀{L:List Nat},(∀k∈L,g (f k)=_s (h k))->AO g (L.map f)=_s (L.map h)
 |[],_=>rfl
 |k::L,e=>by simp only[A9,AO,e k B2,DL λj a=>e j (B1 _ a),A0]
variable{P:Nat}
theorem Dx{g:Dv->Option Dv}{f h:Nat->Dv}(e:∀k < P,g (f k)=_s (h k)):AO g (mR P f)=_s (mR P h):=DL λk a=>e k (I0.mp a)
theorem Cc(P:Nat)(f:Nat->Dv):(mR P f).length=P:=by simp[mR]
theorem Xb{f h:Nat->Dv}(e:∀k < P,f k=h k):mR P f=mR P h:=K1 λk a=>e k (I0.mp a)
theorem fQ{f:Nat->Dv}(a:k < P):AB (.tup (mR P f)) (.int (k:Nat))=_s (f k):=by show Gp (mR P f) (k:Int)=_;rw[DF _ _ (by rw[Cc];exact a)];simp[mR]
theorem Js{g:Dv->Dv->Option Dv}{h:Nat->Dv}{a:List Dv}(d:a.length+P<=1000)(e:∀k < P,∀l:List Dv,l.length<=1000->g (.int (k:Nat)) (.lst l)=_s (.lst (l++[h k]))):AW g (mR P λk=>.int (k:Nat)) (.lst a)=_s (.lst (a++mR P h)):=by
 obtain⟨c,b,rfl⟩:=La (P:=λi c=>c=.lst (a++mR i h)) g P (.lst a) (by simp[mR]) λi hi c hc=>by subst hc;refine⟨_,e i hi _ (by rw[F0,Cc];omega),?_⟩;simp[mR,k7]
 exact b
theorem RC{f h:Nat->Dv}:∀L:List Nat,CN (L.map f) (L.map h)=L.map λk=>.tup [f k,h k]
 |[]=>rfl
 |k::L=>by simp only[A9,<- RC L];rfl
variable{h pt:Dv}
section
variable{I:Nat}{fs ds:List Dv}{P:Nat}{ps:Nat->zh}
noncomputable abbrev zH(fs ds:List Dv):Dv:=.tup [.tup fs,.tup ds]
def aC(P:Nat)(ps:Nat->zh)(h:Dv):Prop:=h=.tup (mR P λk=>(ps k).dv)\/h=.lst (mR P λk=>(ps k).dv)
theorem aC.it(p:aC P ps h):items h=_s (mR P λk=>(ps k).dv):=by rcases p with rfl|rfl<;>rfl
theorem aC.en(p:aC P ps h):Ra [h]=_s (EJ 0 (mR P λk=>(ps k).dv)):=by rcases p with rfl|rfl<;>rfl
theorem aC.ix(p:aC P ps h)(a:k < P):AB h (.int (k:Nat))=_s (ps k).dv:=by
 rcases p with rfl|rfl
 exact fQ a;exact fQ a
abbrev GJ(P:Nat)(a:Nat->Nat):Dv:=.tup (mR P λk=>.int (a k:Nat))
theorem hU{r:List Nat}(h:r.length=P):tI r=GJ P λk=>r.getD k 0:=by subst h;show Dv.tup _=Dv.tup _;congr 1;exact u0 (by simp[nI]) λi h1 h2=>by simp[nI,R3,A3 (show i < r.length by simpa[nI]using h1)]
theorem tQ(hP:P<=3):∀(rs:List (Nat->Nat))(t z:Nat->Dv),(∀k < P,AW BJ (nI (rs.map λa=>a k)) (t k)=_s (z k))->AW Et (rs.map (GJ P)) (.lst (mR P t))=_s (.lst (mR P z))
 |[],t,z,h=>by have:mR P t=mR P z:=Xb λk b=>C3 (h k b);rw[this];rfl
 |a::rs,t,z,h=>by
  have st:∀k < P,AB (t k) (.int (a k:Nat))=_s (sub (t k) (a k))/\AW BJ (nI (rs.map λa=>a k)) (sub (t k) (a k))=_s (z k):=λk b=>by
   have:=h k b;simp only[nI,A9,AW,BJ]at this;cases e:AB (t k) (.int (a k:Nat))with
   |none=>rw[e]at this;cases this
   |some y=>
    rw[e]at this;have s:sub (t k) (a k)=y:=by unfold sub;rw[e];rfl
    rw[s];exact⟨rfl,this⟩
  have c:DW [.lst (mR P t),GJ P a]=_s (CN (mR P t) (mR P λk=>.int (a k:Nat))):=rfl;have d:Et (GJ P a) (.lst (mR P t))=_s (.lst (mR P λk=>sub (t k) (a k))):=by
   unfold Et MP;simp only[c,A0];rw[RC,AL (by simp;omega),DL (h:=λk=>sub (t k) (a k)) λk b=>by unfold Nh;simp only[FJ,(st k (I0.mp b)).1,A0]]
   rfl
  rw[A9];simp only[AW,d,A0];exact tQ hP rs _ z λk b=>(st k b).2
def KR(ds:List Dv)(P:Nat)(ps:Nat->zh)(l:List Nat)(rs:List (List Nat)):List Nat:=(B6 P).map λk=>ac (FU ds (ps k).T (.str l)) (rs.map λr=>r.getD k 0)
def Rw(P:Nat)(ps:Nat->zh)(r:List Nat):Prop:=r.length=P/\∀k < P,r.getD k 0 < (ps k).n
theorem Oi:∀(P o:Nat)(f:Nat->Dv),EJ o ((B6 P).map λk=>f (o+k))=(B6 P).map λk=>.tup [.int ((o+k:Nat):Int),f (o+k)]
 |0,_,_=>rfl
 |P+1,o,f=>by rw[vE];simp only[A9,L7,EJ,Nat.add_zero];congr 1;have:=Oi P (o+1) f;simp only[Nat.add_right_comm o 1]at this;exact this
theorem Lb{g:Dv->Dv->Option Dv}{x h:Nat->Dv}{b:List Dv}(j:b.length+P<=1000)(e:∀k < P,∀l:List Dv,l.length<=1000->g (x k) (.lst l)=_s (.lst (l++[h k]))):AW g (mR P x) (.lst b)=_s (.lst (b++mR P h)):=by
 have:AW g (mR P x) (.lst b)=AW (λd s=>match d with|.int i=>g (x i.toNat) s|_=>_n) (mR P λk=>.int (k:Nat)) (.lst b):=by
  have:∀(L:List Nat)(c:Dv),AW g (L.map x) c=AW (λd s=>match d with|.int i=>g (x i.toNat) s|_=>_n) (L.map λk=>.int (k:Nat)) c:=λL=>by
   induction L with
   |nil=>intro c;rfl
   |cons a L m=>
    intro c;simp only[A9,AW,S8];cases g (x a) c with|none=>rfl|some p=>exact m p
  exact this _ _
 rw[this];exact Js j λk o l j=>by simp only[S8];exact e k o l j
theorem GZ(hd:∀x∈ds,Gk 6 x)(hdl:ds.length<=1000)(pw:DP ds)(hP:P<=3)(ok:∀k < P,Gi I fs.length ds (ps k))(hm:Dv.tup [.str l,.int r]∈ds)(o:r=1\/r=2){rs:List (List Nat)}(q:(rs.length:Int)=r)(e:∀a∈rs,Rw P ps a)(hp:aC P ps pt)(s:items h=_s (rs.map tI)) :
    Dp (zH fs ds) pt (.str l) h=_s (tI (KR ds P ps l rs))/\HG (zH fs ds) pt (.str l) h=_s (tI (KR ds P ps l rs))/\Rw P ps (KR ds P ps l rs):=by
  have u:∀k < P,∀a∈rs.map (λa=>a.getD k 0),a < (ps k).n:=λk c a ha=>by obtain⟨b,g,rfl⟩:=G6.mp ha;exact(e b g).2 k c
  have rI:∀(L:List (List Nat)),(∀a∈L,a.length=P)->L.map tI=(L.map λr k=>r.getD k 0).map (GJ P):=λL B=>by rw[L7];exact K1 λa ha=>hU (B a ha)
  have rI:=rI rs λa ha=>(e a ha).1;have j:tI (KR ds P ps l rs)=.tup (mR P λk=>.int (ac (FU ds (ps k).T (.str l)) (rs.map λa=>a.getD k 0):Nat)):=by unfold tI nI KR;rw[L7];rfl
  have it:items pt=_s (mR P λk=>(ps k).dv):=hp.it;have es:∀k (c:k < P),_:=λk c=>Qh (fs:=fs) hd hdl pw (ok k c).2.2.1 hm o (ths:=rs.map λa=>a.getD k 0) (by simpa using q) (u k c);refine⟨?_,?_,?_,λk c=>?_⟩;have y:AO (DJ (zH fs ds) (.str l)) (mR P λk=>(ps k).dv)=_s (mR P λk=>FU ds (ps k).T (.str l)):=Dx λk c=>by have A:AB (ps k).dv (.int 0)=_s (ps k).w:=rfl;unfold DJ;simp only[A,(es k c).1,A0]
  unfold Dp Cz;simp only[it,s,A0];rw[AL (by rw[Cc];omega),y];simp only[A0];rw[rI,tQ hP (rs.map λr k=>r.getD k 0) _ (λk=>.int (ac (FU ds (ps k).T (.str l)) (rs.map λa=>a.getD k 0):Nat)) λk c=>by rw[L7];exact(RO (es k c).2.1 o (by simpa using q) (u k c)).1]
  rw[j];rfl;have t:=Oi P 0 (λk=>(ps k).dv);simp only[U7]at t;have lr:rs.length<=2:=by omega
  unfold HG;simp only[hp.en,t,A0];rw[Lb (x:=λk=>.tup [.int (k:Nat),(ps k).dv]) (h:=λk=>.int (ac (FU ds (ps k).T (.str l)) (rs.map λa=>a.getD k 0):Nat)) (by simp;omega) λk c i v=>by
    have m:∀d:List (List Nat),(∀a∈d,a.length=P)->AO (JF (.int (k:Nat))) (d.map tI)=_s (nI (d.map λa=>a.getD k 0)):=λd=>by
      induction d with|nil=>intro _;rfl|cons a d z=>intro p;have:AB (tI a) (.int (k:Nat))=_s (.int (a.getD k 0:Nat)):=NW (by rw[p a B2];exact c);simp only[A9,AO,JF,this,A0,z λb e=>p b (B1 _ e)];rfl
    unfold Ni zh.dv;simp only[FJ,Eg,s,A0];rw[AL (by simp;omega),m rs λa ha=>(e a ha).1];simp only[A0,(es k c).2.2.1,Dj (show i.length<=1000000 by omega)]]
  rw[j];rfl;simp[KR];have:(KR ds P ps l rs).getD k 0=ac (FU ds (ps k).T (.str l)) (rs.map λa=>a.getD k 0):=by simp[KR,R3,c]
  rw[this];exact(es k c).2.2.2
end
theorem Xq{k:Nat}{l:List Nat}:∀{fs:List Dv}{k:Nat},(∀x∈fs,∃l,x=Dv.str l)->fs.Pairwise (·≠·)->fs[k]?=_s (.str l)->EA (.str l) fs=_s k
 |[],k,_,_,h=>by simp at h
 |x::xs,0,_,_,h=>by simp at h;subst h;unfold EA;rw[if_pos (by simp[_root_.R.zw])]
 |x::xs,k+1,a,pw,h=>by
  obtain⟨b,rfl⟩:=a x B2;have h':xs[k]?=_s (.str l):=by simpa using h
  have ne:=(Y0.mp pw).1 _ (K5 h');have e:¬_root_.R.zw (.str b) (.str l)=true:=λz=>ne (by simp[_root_.R.zw]at z ⊢;exact z);unfold EA;rw[if_neg e,Xq (k:=k) (λy c=>a y (B1 _ c)) (Y0.mp pw).2 h'];rfl
theorem fW(fs:List Dv):fs=mR fs.length λk=>fs.getD k .yw:=u0 (by simp) λi h1 h2=>by simp[R3,A3 h1]
theorem RJ(I:Int):∀L:List Nat,EH (L.map λ_=>Dv.int I)=_s (L.map λ_=>I)
 |[]=>rfl
 |k::L=>by rw[A9,A9];simp only[EH,RJ I L,G0,A0]
theorem oo{I:Nat}(h:0 < P):Ly (.lst (mR P λ_=>.int (I:Nat))) (.int 0)=_s (.int (I:Nat)):=by
 simp only[Ly,mR,RJ];cases e:(B6 P).map (λ_=>((I:Nat):Int))with|nil=>have:=congrArg Y3 e;simp at this;omega|cons n ns=>simp only[];obtain⟨a,_⟩:=Q.zAB (n::ns) (by simp);rw[<- e]at a;obtain⟨_,_,q⟩:=G6.mp a;rw[e]at q;rw[<- q]
section
variable{I:Nat}{fs ds:List Dv}{P:Nat}{ps:Nat->zh}
def Bl(I nf P:Nat)(ps:Nat->zh):List (List Nat):=((B6 I).map λk=>(B6 P).map λj=>(ps j).ins.getD k 0)++(B6 nf).map λk=>(B6 P).map λj=>(ps j).cs.getD k 0
def jR(I nf P:Nat)(ps:Nat->zh):List Dv:=mR I (λk=>GJ P λj=>(ps j).ins.getD k 0)++mR nf (λk=>GJ P λj=>(ps j).cs.getD k 0)
theorem jQ(nf:Nat):jR I nf P ps=(Bl I nf P ps).map tI:=by
 unfold jR Bl;rw[vM,L7,L7];have:∀f:Nat->Nat,tI ((B6 P).map f)=GJ P f:=λf=>by unfold tI nI;rw[L7];rfl
 congr 1;exact K1 λk _=>(this _).symm;exact K1 λk _=>(this _).symm
theorem Bi{p:zh}(h:Gi I nf ds p):∀k < I,AB (tI p.ins) (.int (k:Nat))=_s (.int (p.ins.getD k 0:Nat))/\p.ins.getD k 0 < p.n:=λk b=>by
 have a:k < p.ins.length:=by rw[h.2.2.2.1];exact b
 exact⟨NW a,h.2.2.2.2 _ (getD_mem a)⟩
theorem QB(ok:∀k < P,Gi I nf ds (ps k)):∀r∈Bl I nf P ps,Rw P ps r:=λr c=>by
 have g:∀(f:Nat->Nat)(k:Nat),k < P->((B6 P).map f).getD k 0=f k:=λf k b=>by simp[R3,b]
 rcases E6.mp c with h|h
 obtain⟨k,b,rfl⟩:=G6.mp h;exact⟨by simp,λj a=>by rw[g _ j a];exact(Bi (ok j a) k (I0.mp b)).2⟩;obtain⟨k,b,rfl⟩:=G6.mp h;refine⟨by simp,λj a=>?_⟩;rw[g _ j a];exact(ok j a).2.2.1.2.2.1 _ (getD_mem (by rw[(ok j a).2.2.1.2.1];exact I0.mp b))
theorem OE(hfs:∀x∈fs,Tx 10 x)(hfl:fs.length<=100)(hfp:fs.Pairwise (·≠·))(hI:I<=100)(h0:0 < P)(hP:P<=3)(ok:∀k < P,Gi I fs.length ds (ps k))(hp:aC P ps pt) :
    DX (zH fs ds) pt=_s (.lst ((Bl I fs.length P ps).map tI))/\Nj (zH fs ds) pt=_s (.lst ((Bl I fs.length P ps).map tI)):=by
  have it:=hp.it;have m:AB (zH fs ds) (.int 0)=_s (.tup fs):=rfl;have g:items (.tup fs)=_s fs:=rfl;have i:∀k < P,Au (tI (ps k).ins)=_s (.int (I:Nat)):=λk a=>by rw[<- (ok k a).2.2.2.1];exact hV _
  rw[<- jQ];constructor;have t:AO FY (mR P λk=>(ps k).dv)=_s (mR P λ_=>.int (I:Nat)):=Dx λk a=>by unfold FY zh.dv;simp only[FJ,i k a,A0]
  have s:AO (FW pt) (mR I λk=>.int (k:Nat))=_s (mR I λk=>GJ P λj=>(ps j).ins.getD k 0):=Dx λk a=>by
    unfold FW Eu;simp only[it,A0];rw[AL (by rw[Cc];omega),Dx (h:=λj=>.int ((ps j).ins.getD k 0:Nat)) λj b=>by unfold Hl zh.dv;simp only[FJ,(Bi (ok j b) k a).1,A0]]
    rfl
  have p:AO (Dm (zH fs ds) pt) fs=_s (mR fs.length λk=>GJ P λj=>(ps j).cs.getD k 0):=by
    refine(congrArg (AO (Dm (zH fs ds) pt)) (fW fs)).trans (Dx λk a=>?_);have w:fs.getD k .yw=fs[k]:=by simp[R3,A3 a]
    rw[w];have hm:fs[k]∈fs:=W0 _;unfold Dm Ey;simp only[it,A0];rw[AL (by rw[Cc];omega),Dx (h:=λj=>.int ((ps j).cs.getD k 0:Nat)) λj b=>by
      obtain⟨q,h1,h2,_⟩:=QT (ds:=ds) hfs (ok j b).2.2.1 hm;have y:UU fs (ps j).cs fs[k]=(ps j).cs.getD k 0:=by obtain⟨l,e,_⟩:=hfs _ hm;unfold UU;rw[e,Xq (k:=k) (λx v=>by obtain⟨l,e,_⟩:=hfs x v;exact⟨l,e⟩) hfp (by rw[A3 a,e])];rfl
      rw[y]at h2;unfold Hm zh.dv GI;simp only[FJ,(ok j b).2.2.1.w1,h1,h2,A0]]
    rfl
  have ad:Ad (.lst (mR I λk=>GJ P λj=>(ps j).ins.getD k 0)) (.lst (mR fs.length λk=>GJ P λj=>(ps j).cs.getD k 0))=_s (.lst (jR I fs.length P ps)):=by simp only[Ad,Cc];rw[if_pos (by omega)];rfl
  unfold DX;simp only[it,A0];rw[AL (by rw[Cc];omega),t];simp only[A0,oo h0,KW I (show I<=1000000 by omega)];rw[AL (by simp;omega),s];simp only[A0,m,g];rw[AL (by omega),p];simp only[A0,ad];have o:AB pt (.int 0)=_s (ps 0).dv:=hp.ix (k:=0) h0;have p1:AB (ps 0).dv (.int 1)=_s (tI (ps 0).ins):=rfl;have u:Au (.tup fs)=_s (.int (fs.length:Nat)):=rfl;unfold Nj;simp only[o,p1,i 0 h0,KW I (show I<=1000000 by omega),A0];rw[Js (h:=λk=>GJ P λj=>(ps j).ins.getD k 0) (by simp;omega) λk a d ha=>by
    unfold RZ;simp only[Eg,it,A0];rw[AL (by rw[Cc];omega),Dx (h:=λj=>.int ((ps j).ins.getD k 0:Nat)) λj b=>by unfold RX zh.dv;simp only[FJ,(Bi (ok j b) k a).1,A0]]
    simp only[A0,AS,Dj (show d.length<=1000000 by omega)]]
  simp only[A0,m,u,KW fs.length (show fs.length<=1000000 by omega)];rw[Js (h:=λk=>GJ P λj=>(ps j).cs.getD k 0) (by simp[mR];omega) λk a d ha=>by
    unfold RY;simp only[Eg,it,A0];rw[AL (by rw[Cc];omega),Dx (h:=λj=>.int ((ps j).cs.getD k 0:Nat)) λj b=>by have c:=NW (ts:=(ps j).cs) (h:=k) (by rw[(ok j b).2.2.1.2.1];exact a);unfold RW zh.dv;simp only[FJ,(ok j b).2.2.1.w1,c,A0]]
    simp only[A0,AS,Dj (show d.length<=1000000 by omega)]]
  rfl
end
noncomputable abbrev Rows:=List (List Nat)
def Ca(m:Nat)(R:Rows):Rows->Option Rows
 |[]=>_s R
 |c::cs=>if c∈R then Ca m R cs else if m<=R.length then _n else Ca m (R++[c]) cs
theorem KF{m:Nat}:∀{a b R:Rows},Ca m R (a++b)=(Ca m R a).bind λR'=>Ca m R' b
 |[],b,R=>rfl
 |c::a,b,R=>by by_cases h:c∈R;simp only[U5,Ca,if_pos h,KF (a:=a) (b:=b)];by_cases d:m<=R.length;simp only[U5,Ca,if_neg h,if_pos d,N7];simp only[U5,Ca,if_neg h,if_neg d,KF (a:=a) (b:=b)]
theorem BW{m:Nat}:∀{cs R R':Rows},Ca m R cs=_s R'->(R.length<=m->R'.length<=m)/\(∃t,R'=R++t)/\∀r,r∈R'↔r∈R\/r∈cs
 |[],R,R',h=>by cases h;exact⟨id,⟨[],by simp⟩,λr=>by simp⟩
 |c::cs,R,R',h=>by unfold Ca at h;split at h;rename_i hc;obtain⟨h1,h2,h3⟩:=BW h;refine⟨h1,h2,λr=>?_⟩;rw[h3 r,C9];exact⟨λz=>z.elim .inl λz=>.inr (.inr z),λz=>z.elim .inl λz=>z.elim (λz=>.inl (z▸hc)) .inr⟩;split at h;cases h;rename_i b;obtain⟨h1,⟨t,a⟩,h3⟩:=BW h;refine⟨λ_=>h1 (by rw[F0,H8];omega),⟨c::t,by rw[a,J3];rfl⟩,λr=>?_⟩;rw[h3 r,E6,D5,C9,or_assoc]
abbrev uZ:=NK BY
def FK(r:List Nat):uZ:=r.map λn=>Sum.inl (Sum.inl ((n:Nat):Int))
theorem OT{a b:List Nat}(h:FK a=FK b):a=b:=by
 induction a generalizing b with
 |nil=>cases b with
  |nil=>rfl
  |cons=>cases h
 |cons x a c=>cases b with
  |nil=>cases h
  |cons y b=>simp only[FK,A9,i8,Sum.inl.injEq]at h;rw[c h.2,show x=y by omega]
theorem OS:∀r:List Nat,LU (nI r)=_s (FK r)
 |[]=>rfl
 |n::r=>by have h:=OS r;simp only[nI]at h;simp only[nI,A9,LU,h,Jj];rfl
theorem IP(r:List Nat):Kc (tI r)=_s (FK r):=OS r
def FN(R:Rows):Dv:=if R=[]then .dct [] []else .dnt (R.map FK) (R.map λ_=>.bl _t)
theorem Yv(r:List Nat):∀R:Rows,(Qj (FK r) (R.map FK) (R.map λ_=>Dv.bl _t)).isSome=decide (r∈R)
 |[]=>rfl
 |x::R=>by simp only[A9,Qj];by_cases e:x=r;subst e;simp;rw[if_neg λz=>e (OT z),Yv r R];have:¬r=x:=λz=>e z.symm;simp[this]
theorem gJ(r:List Nat):∀R:Rows,((R.map FK).any λj=>decide (j=FK r))=decide (r∈R)
 |[]=>rfl
 |x::R=>by rw[A9,T5,gJ r R];by_cases e:x=r;subst e;simp;have h1:¬FK x=FK r:=λz=>e (OT z);have h2:¬r=x:=λz=>e z.symm;simp[h1,h2]
theorem au(R:Rows)(r:List Nat):Qs (tI r) (FN R)=_s (decide (r∈R)):=by
 unfold FN;cases R with|nil=>rw[if_pos rfl];show NG _f (.tup (nI r)) (.dct [] [])=_;simp only[NG,Jj,N7,K8,uz,if_true,show Kc (.tup (nI r))=_s (FK r)from IP r,A0];simp|cons x R=>rw[if_neg (by simp)];show(Kc (tI r)).bind _=_;rw[IP,A0];simp only[B3,if_false,Yv]
variable{R:Rows}
theorem Nf{r:List Nat}(h:r∉R)(b:R.length<=1000):Bq (FN R) (tI r) (.bl _t)=_s (FN (R++[r])):=by
 unfold FN;rw[if_neg (show ¬R++[r]=[] by simp)];cases R with
 |nil=>rw[if_pos rfl];show Bq (.dct [] []) (.tup (nI r)) (.bl _t)=_;simp only[Bq,Jj,N7,K8,uz,if_true,show Kc (.tup (nI r))=_s (FK r)from IP r,A0];rfl
 |cons x R=>
  rw[if_neg (by simp)];show(Kc (tI r)).bind _=_;rw[IP,A0];have a:(((x::R).map FK).any λj=>decide (j=FK r))=false:=by rw[gJ];exact decide_eq_false h
  rw[if_pos (by rw[B9];omega)];unfold Yu Ys;rw[a];simp
def EI(m:Nat)(E:List Dv)(R:Rows):Dv:=.obj "Found" pX ["most", "listed", "seen"] [.int (m:Nat),.lst E,FN R]
theorem cu(m:Nat)(E:List Dv)(R:Rows):EL (EI m E R) "Found" "put" = true:=by rfl
theorem TR(R:Rows):cf (FN R)=true:=by unfold FN;split<;>rfl
theorem cv(m:Nat):Cq (.obj "Found" pX [] []) (.int (m:Nat))=_s (.yw,EI m [] []):=by rfl
theorem FF(m:Nat)(E:List Dv)(R:Rows):EB (EI m E R) "seen" = _s (FN R):=by rfl
theorem Bj(m:Nat)(E:List Dv)(R:Rows):EB (EI m E R) "listed" = _s (.lst E):=by rfl
theorem Ml(m:Nat)(E:List Dv)(R:Rows):EB (EI m E R) "most" = _s (.int (m:Nat)):=by rfl
theorem YG(m:Nat)(E:List Dv)(R S:Rows):CF (EI m E R) "seen" (FN S)=EI m E S:=by rfl
theorem cq(m:Nat)(E F:List Dv)(R:Rows):CF (EI m E R) "listed" (.lst F)=EI m F R:=by rfl
noncomputable def Fy(m:Nat):Ex:=⟨"TooMany", "most", .int (m:Nat)⟩
variable{E:List Dv}
theorem WV{m:Nat}{r:List Nat}{u v:Dv}(g:E.length=R.length)(i:R.length<=900) :
    (r∈R->Ax (EI m E R) (tI r) u v=_s (.yw,EI m E R)/\Av (EI m E R) (tI r) u v=_n) /\
    (r∉R->R.length < m->Ax (EI m E R) (tI r) u v=_s (.yw,EI m (E++[.tup [tI r,u,v]]) (R++[r]))/\Av (EI m E R) (tI r) u v=_n) /\
    (r∉R->m<=R.length->Av (EI m E R) (tI r) u v=_s (Fy m)):=by
  have a:=au R r;have b:∀E R,CD (EI m E R) "seen" = true:=λE R=>by unfold CD;rw[FF];exact TR R
  have f2:∀E R,CD (EI m E R) "listed" = true:=λE R=>rfl;have d:Au (.lst E)=_s (.int (R.length:Nat)):=by rw[<- g];rfl
  have c:dw (.int (R.length:Nat)) (.int (m:Nat))=_s (decide (m<=R.length)):=by show _s (decide ((R.length:Int) >= m))=_;congr 1;exact decide_eq_decide.mpr ⟨λh=>by omega,λh=>by omega⟩
  have nm:Mc (.int (m:Nat))=true:=rfl;have e:Aa (.lst E) [.tup [tI r,u,v]]=_s (.yw,.lst (E++[.tup [tI r,u,v]])):=Dj (by omega);refine⟨λh=>⟨?_,?_⟩,λh hm=>⟨?_,?_⟩,λh hm=>?_⟩;unfold Ax;simp only[b,cond_true,FF,A0,a,h,decide_true,if_true];unfold Av;simp only[b,cond_true,FF,A0,a,h,decide_true,if_true,K8];unfold Ax;simp only[b,f2,cond_true,FF,Bj,Ml,A0,a,h,decide_false,B3,if_false,d,nm,c,show ¬m<=R.length by omega,Nf h (by omega),YG,Eg,e,cq];unfold Av;simp only[b,f2,cond_true,FF,Bj,Ml,A0,a,h,decide_false,B3,if_false,d,nm,c,show ¬m<=R.length by omega,Nf h (by omega),YG,Eg,e,K8];unfold Av;simp only[b,f2,cond_true,FF,Bj,Ml,A0,a,h,decide_false,B3,if_false,d,nm,c,hm,decide_true,if_true];rfl
theorem fD(a b:Nat)(ha:a<=1000000)(d:b<=1000000):KY [.int (a:Nat),.int (b:Nat)]=_s ((s8 a (b-a)).map λk=>.int (k:Nat)):=by
 have c:(_root_.R.small (a:Nat)&&_root_.R.small (b:Nat))=true:=by unfold _root_.R.small;simp only[A2,decide_eq_true_eq];omega
 simp only[KY,c,cond_true];congr 1;rw[List.range'_eq_map_range,L7,show((b:Int)-a).toNat=b-a by omega];exact K1 λk _=>by simp
noncomputable def KU(b e:Nat):List Nat:=s8 b (e-b)
variable{b:Nat}
theorem GK{e:Nat}:k∈KU b e↔b<=k/\k < e:=by unfold KU;rw[List.mem_range'_1];omega
def Dc(r:Int)(b e:Nat):List (List Nat):=if r=1 then(KU b e).map λk=>[k]else(B6 e).flatMap λk=>(KU (if b<=k then 0 else b) e).map λo=>[k,o]
noncomputable def DI(r:Int)(u:Nat):List (List Nat):=if r=1 then(B6 u).map λk=>[k]else(B6 u).flatMap λj=>(B6 u).map λk=>[j,k]
theorem OY{g:Dv->Dv->Option Dv}{f:Nat->List Dv}{w:Nat}(a:∀k < n,(f k).length<=w)(hn:n * w<=10000)(e:∀k < n,∀l:List Dv,l.length<=10000->g (.int (k:Nat)) (.lst l)=_s (.lst (l++f k))):AW g ((B6 n).map λk=>.int (k:Nat)) (.lst [])=_s (.lst ((B6 n).flatMap f)):=by
 obtain⟨c,d,rfl,_⟩:=La (P:=λi c=>c=.lst ((B6 i).flatMap f)/\((B6 i).flatMap f).length<=i * w) g n (.lst []) ⟨rfl,by simp⟩ λi hi c hc=>by obtain⟨rfl,j⟩:=hc;have b1:i * w<=n * w:=Nat.mul_le_mul_right _ (by omega);refine⟨_,e i hi _ (by omega),?_,?_⟩;simp[k7];have:=a i hi;rw[yU];simp only[k7,List.flatMap_append,F0,Q9,List.flatMap_nil,G4];omega
 exact d
theorem YB(a b:Nat):dw (.int (a:Nat)) (.int (b:Nat))=_s (decide (b<=a)):=by show _s (decide ((a:Int) >= b))=_;congr 1;exact decide_eq_decide.mpr ⟨λh=>by omega,λh=>by omega⟩
theorem TH{e:Nat}(a:r=1\/r=2)(j:e<=100)(d:b<=100):BG (.int r) (.int (b:Nat)) (.int (e:Nat))=_s (.lst ((Dc r b e).map tI)):=by
  unfold BG;rcases a with rfl|rfl
  rw[show Zf (.int 1) (.int 1)=_s _t from rfl];simp only[A0,if_true,fD b e (by omega) (by omega)];rw[AL (by simp;omega),DL (g:=EY) (f:=λk=>.int (k:Nat)) (h:=λk=>tI [k]) λk _=>rfl];unfold Dc;rw[if_pos rfl,L7];rfl
  · rw[show Zf (.int 2) (.int 1)=_s _f from rfl];simp only[A0,B3,if_false,KW e (show e<=1000000 by omega)];rw[OY (f:=λk=>(KU (if b<=k then 0 else b) e).map λo=>tI [k,o]) (w:=100) (λk c=>by simp only[B9,KU,X8];omega) (by omega) λk c l i=>by
      have hi:Cp (.int (b:Nat)) (.int (k:Nat))=_s (.int ((if b<=k then 0 else b:Nat))):=by unfold Cp;rw[YB];by_cases h:b<=k<;>simp[h]
      have d:(if b<=k then 0 else b)<=100:=by split<;>omega
      unfold Eb;rw[hi];simp only[A0,Eg,fD _ e (show(if b<=k then 0 else b)<=1000000 by omega) (show e<=1000000 by omega)];rw[AL (by simp only[B9,X8];omega),DL (g:=EX (.int (k:Nat))) (f:=λk=>.int (k:Nat)) (h:=λo=>tI [k,o]) λo _=>rfl];simp only[A0];rw[fc (by simp only[B9,X8];omega)];rfl]
    simp only[A0];unfold Dc;rw[if_neg (by decide),xO];simp only[L7];rfl
theorem Pc{u:Nat}(a:r=1\/r=2)(d:u<=100):GD (.int (u:Nat)) (.int r)=_s (.lst ((DI r u).map tI)):=by
  unfold GD;rcases a with rfl|rfl
  rw[show Zf (.int 1) (.int 1)=_s _t from rfl];simp only[A0,if_true,KW u (show u<=1000000 by omega)];rw[AL (by simp;omega),DL (g:=LD) (f:=λk=>.int (k:Nat)) (h:=λk=>tI [k]) λk _=>rfl];unfold DI;rw[if_pos rfl,L7];rfl;rw[show Zf (.int 2) (.int 1)=_s _f from rfl];simp only[A0,B3,if_false,KW u (show u<=1000000 by omega)];rw[OY (f:=λk=>(B6 u).map λo=>tI [k,o]) (w:=100) (λk c=>by simp;omega) (by omega) λk c l e=>by unfold LG;simp only[A0,Eg,KW u (show u<=1000000 by omega)];rw[AL (by simp;omega),DL (g:=LC (.int (k:Nat))) (f:=λk=>.int (k:Nat)) (h:=λo=>tI [k,o]) λo _=>rfl];simp only[A0];rw[fc (by simp;omega)];rfl]
  simp only[A0];unfold DI;rw[if_neg (by decide),xO];simp only[L7];rfl
theorem OH{e:Nat}{n:List Nat}(d:r=1\/r=2)(h:n∈Dc r b e):(n.length:Int)=r/\∀k∈n,k < e:=by
 unfold Dc at h;rcases d with rfl|rfl
 rw[if_pos rfl]at h;obtain⟨k,c,rfl⟩:=G6.mp h;exact⟨rfl,λj a=>by rw[D5.mp a];exact(GK.mp c).2⟩;rw[if_neg (by decide)]at h;obtain⟨k,c,h⟩:=W2.mp h;obtain⟨o,g,rfl⟩:=G6.mp h;refine⟨rfl,λj a=>?_⟩;rcases C9.mp a with rfl|a
 exact I0.mp c;rw[D5.mp a];exact(GK.mp g).2
theorem XT{e:Nat}{n:List Nat}(g:r=1\/r=2)(d:(n.length:Int)=r)(c:∀k∈n,k < e)(a:∃k∈n,b<=k):n∈Dc r b e:=by
 unfold Dc;obtain⟨k0,h0,a⟩:=a;rcases g with rfl|rfl
 rw[if_pos rfl]
 match n,d with
 |[k],_=>rw[D5.mp h0]at a;exact G6.mpr ⟨k,GK.mpr ⟨a,c k B2⟩,rfl⟩
 rw[if_neg (by decide)]
 match n,d with
 |[k,o],_=>
  refine W2.mpr ⟨k,I0.mpr (c k B2),G6.mpr ⟨o,GK.mpr ⟨?_,c o (by simp)⟩,rfl⟩⟩;split;omega;rcases C9.mp h0 with rfl|h0
  omega;rw[<- D5.mp h0];exact a
noncomputable def Jc(n:List Nat):Nat:=n.foldl max 0
theorem pY(b u:Nat):(B6 u).filter (λk=>decide (b<=k))=KU b u:=by
 induction u with|zero=>simp[KU]|succ u a=>rw[k7,List.filter_append,a];unfold KU;by_cases h:b<=u;rw[show u+1-b=(u-b)+1 by omega,List.range'_1_concat,show b+(u-b)=u by omega];simp[h];rw[show u+1-b=0 by omega,show u-b=0 by omega];simp[h]
theorem cy(p:α->Bool)(f:α->List Nat)(xs:List α):(xs.flatMap λa=>if p a=_t then[f a]else[])=(xs.filter p).map f:=by
 induction xs with|nil=>rfl|cons x xs c=>rw[Q9,c,u3];split<;>rfl
theorem Pd(a:r=1\/r=2)(b u:Nat):(DI r u).filter (λn=>decide (b<=Jc n))=Dc r b u:=by
 unfold DI Dc;rcases a with rfl|rfl
 rw[if_pos rfl,if_pos rfl,xk,<- pY];congr 2
 try exact funext λk=>by simp[Jc]
 rw[if_neg (by decide),if_neg (by decide),List.filter_flatMap];congr 1;funext j;rw[xk];congr 1;by_cases h:b<=j;rw[if_pos h,List.filter_eq_self.mpr (λk _=>by simp[Jc];omega)];unfold KU;rw[yX,List.range_eq_range'];rw[if_neg h,<- pY];congr 1;funext k;simp only[Function.comp,Jc,X5,yF];exact decide_eq_decide.mpr ⟨λh=>by omega,λh=>by omega⟩
def Hd(E:List Dv)(R:Rows):Prop:=AO (λx=>(AB x (.int 0)).bind _s) E=_s (R.map tI)
theorem OO{g:Dv->Option Dv}:∀{xs ys:List Dv},AO g xs=_s ys->ys.length=xs.length
 |[],ys,h=>by cases h;rfl
 |x::xs,ys,h=>by
  simp only[AO]at h;cases e1:g x with
  |none=>rw[e1]at h;cases h
  |some y=>
   cases e2:AO g xs with|none=>rw[e1,e2]at h;cases h|some a=>rw[e1,e2]at h;cases h;rw[E3,E3,OO e2]
theorem LP{g:Dv->Option Dv}{x y:Dv}(c:g x=_s y):∀{xs ys:List Dv},AO g xs=_s ys->AO g (xs++[x])=_s (ys++[y])
 |[],ys,h=>by cases h;simp only[j4,AO,c,A0]
 |a::xs,ys,h=>by
  simp only[AO]at h;cases e1:g a with
  |none=>rw[e1]at h;cases h
  |some b=>
   cases e2:AO g xs with|none=>rw[e1,e2]at h;cases h|some d=>rw[e1,e2]at h;cases h;simp only[U5,AO,e1,LP c e2,A0]
theorem Hd.len(h:Hd E R):E.length=R.length:=by have:=OO h;rw[B9]at this;exact this.symm
theorem Hd.nil:Hd [] []:=rfl
theorem Hd.snoc{r:List Nat}{u v:Dv}(h:Hd E R):Hd (E++[.tup [tI r,u,v]]) (R++[r]):=by unfold Hd;rw[vM];exact LP (g:=λx=>(AB x (.int 0)).bind _s) (y:=tI r) rfl h
def uC(m:Nat)(o:Option Rows)(s:Option Dv)(x:Option Ex):Prop:=match o with
 |some R'=>∃a,s=_s (EI m a R')/\Hd a R'/\x=_n
 |none=>x=_s (Fy m)
def VI(m:Nat)(cs:Rows)(s:Dv->Option Dv)(x:Dv->Option Ex):Prop:=∀E R,Hd E R->R.length<=m->uC m (Ca m R cs) (s (EI m E R)) (x (EI m E R))
theorem Ez{α:Type}{m:Nat}{g:Dv->Dv->Option Dv}{gx:Dv->Dv->Option Ex}{f:α->Dv}{c:α->Rows}:∀{xs:List α},(∀a∈xs,VI m (c a) (g (f a)) (gx (f a)))->VI m (xs.flatMap c) (AW g (xs.map f)) (GV g gx (xs.map f))
 |[],_=>λE R i _=>⟨E,rfl,i,rfl⟩
 |a::xs,h=>λE R i j=>by
  have h1:=h a B2 E R i j;rw[Q9,KF];simp only[A9,AW,GV];cases e:Ca m R (c a)with|none=>rw[e]at h1;have h1:gx (f a) (EI m E R)=_s (Fy m):=h1;rw[h1];rfl|some R'=>rw[e]at h1;obtain⟨s,q,d,p⟩:=h1;rw[q,p];simp only[A0,K8];exact Ez (λb o=>h b (B1 _ o)) s R' d ((BW e).1 j)
theorem Nk{m:Nat}(hm:m<=900)(r:List Nat)(u v:Dv):VI m [r] (λt=>bif EL t "Found" "put" then(Ax t (tI r) u v).bind λc=>_s c.2 else _n) (λt=>Q8 (bif EL t "Found" "put" then Av t (tI r) u v else _n) (bif EL t "Found" "put" then(Ax t (tI r) u v).bind λ_=>_n else _n)):=λE R e g=>by obtain⟨p1,p2,p3⟩:=WV (m:=m) (r:=r) (u:=u) (v:=v) e.len (show R.length<=900 by omega);simp only[cu,cond_true,Ca];by_cases h:r∈R;obtain⟨a,b⟩:=p1 h;rw[if_pos h,a,b];exact⟨E,rfl,e,rfl⟩;rw[if_neg h];by_cases d:m<=R.length;rw[if_pos d,p3 h d];rfl;obtain⟨a,b⟩:=p2 h (by omega);rw[if_neg d,a,b];exact⟨_,rfl,e.snoc,rfl⟩
def IL(x:Dv):List Nat:=match Qy x with|.str l=>l|_=>[]
noncomputable def IH(x:Dv):Int:=match x with|.tup [_,.int r]=>r|_=>0
theorem DE(h:Gk 6 x):x=.tup [.str (IL x),.int (IH x)]/\(IH x=1\/IH x=2):=by obtain⟨a,r,rfl,⟨l,rfl,_⟩,c⟩:=h;exact⟨rfl,c⟩
def pk(R:Rows)(n:List Nat):Rows:=n.map λk=>R.getD k []
theorem Pz(R:Rows)(n:List Nat):(pk R n).length=n.length:=by simp[pk]
theorem fB(h:k < R.length):AB (.lst (R.map tI)) (.int (k:Nat))=_s (tI (R.getD k [])):=by show Gp (R.map tI) (k:Int)=_;rw[DF _ _ (by rw[B9];exact h)];simp[R3,h]
theorem WH(h:k < R.length):R.getD k []∈R:=by simp[R3,h]
theorem Rx{g:Dv->Option Dv}(c:∀k < R.length,g (.int (k:Nat))=_s (tI (R.getD k []))){n:List Nat}(h:∀k∈n,k < R.length):AO g (nI n)=_s ((pk R n).map tI):=by unfold nI pk;rw[L7];exact DL λk a=>c k (h k a)
theorem LJ:∀R:Rows,Ka (R.map tI)=_t
 |[]=>rfl
 |r::R=>by
  have h:∀l:List Nat,Ka (nI l)=true:=λl=>by
   induction l with|nil=>rfl|cons a l c=>simp only[nI,A9,Ka,Mc,T7];exact c
  rw[A9];unfold Ka;rw[LJ R,uf];unfold tI Mc;exact h r
section
variable{I m:Nat}{fs ds:List Dv}{P:Nat}{ps:Nat->zh}
structure Pok (I:Nat) (fs ds:List Dv) (P:Nat) (ps:Nat->zh) (pt:Dv):Prop where
 hd:∀x∈ds,Gk 6 x
 hdl:ds.length<=1000
 pw:DP ds
 hP:P<=3
 ok:∀k < P,Gi I fs.length ds (ps k)
 hp:aC P ps pt
def Lj(ds:List Dv)(P:Nat)(ps:Nat->zh)(R:Rows)(x:Dv)(n:List Nat):List Nat:=KR ds P ps (IL x) (pk R n)
def ou(ds:List Dv)(P:Nat)(ps:Nat->zh)(R:Rows)(b e:Nat)(x:Dv):Rows:=(Dc (IH x) b e).map λn=>Lj ds P ps R x n
theorem OZ{α c:Type}(f:α->c):∀xs:List α,(xs.flatMap λa=>[f a])=xs.map f
 |[]=>rfl
 |x::xs=>by rw[Q9,OZ f xs];rfl
theorem Ol(q:Pok I fs ds P ps pt)(o:∀r∈R,Rw P ps r)(d:x∈ds){n:List Nat}(hn:(n.length:Int)=IH x)(i:∀k∈n,k < R.length)(j:items h=_s ((pk R n).map tI)) :
    Dp (zH fs ds) pt (.str (IL x)) h=_s (tI (Lj ds P ps R x n))/\HG (zH fs ds) pt (.str (IL x)) h=_s (tI (Lj ds P ps R x n))/\Rw P ps (Lj ds P ps R x n):=by
  obtain⟨e,g⟩:=DE (q.hd x d);refine GZ q.hd q.hdl q.pw q.hP q.ok (e▸d) g (by rw[Pz];exact hn) (λa ha=>?_) q.hp j;obtain⟨k,c,rfl⟩:=G6.mp ha;exact o _ (WH (i k c))
theorem cX(hm:m<=100)(q:Pok I fs ds P ps pt){a:Rows}(w:a.length<=100)(G:∀r∈a,Rw P ps r)(F:b<=100)(c:Dv)(u:x∈ds) :
    VI m (ou ds P ps a b a.length x) (BQ (zH fs ds) pt c (.int (b:Nat)) (.int (a.length:Nat)) (a.map tI) x) (EO (zH fs ds) pt c (.int (b:Nat)) (.int (a.length:Nat)) (a.map tI) x):=by
  obtain⟨e,v⟩:=DE (q.hd x u);have d:VI m ((Dc (IH x) b a.length).flatMap λn=>[Lj ds P ps a x n]) (AW (BE (zH fs ds) pt c (a.map tI) (.str (IL x))) ((Dc (IH x) b a.length).map tI)) (GV (BE (zH fs ds) pt c (a.map tI) (.str (IL x))) (ER (zH fs ds) pt c (a.map tI) (.str (IL x))) ((Dc (IH x) b a.length).map tI)):=Ez λn hn=>by
    obtain⟨B,p⟩:=OH v hn;obtain⟨J,_,_⟩:=Ol q G u B p (h:=.lst ((pk a n).map tI)) rfl;have it:items (tI n)=_s (nI n):=rfl;have H:(nI n).length<=1000000:=by rw[Fe];omega
    have s:AO (CQ (a.map tI)) (nI n)=_s ((pk a n).map tI):=Rx (λk D=>by unfold CQ;rw[fB D];rfl) p;have C:AO (CQ (a.map tI)) (nI n)=_s ((pk a n).map tI):=s;have:=Nk (m:=m) (by omega) (Lj ds P ps a x n) c (.tup [.str [100,111],.str (IL x),tI n]);intro E R o w;have:=this E R o w;unfold BE ER;simp only[it,AL H,s,C,J,A0];exact this
  rw[OZ]at d;intro E R o g;have d:=d E R o g;have A:∀{y:Type}(f:Dv×Dv->Option y),((He [7,8] x).bind fun(t:Dv×Dv)=>f t)=f (.str (IL x),.int (IH x)):=λf=>by have:=FJ (i:=7) (j:=8) (.str (IL x)) (.int (IH x)) f;rw[<- e]at this;exact this
  have it:∀L:List Dv,items (.lst L)=_s L:=λ_=>rfl;unfold BQ EO;simp only[A,TH v (show a.length<=100 by omega) F,it,A0,S9,q8,i7];have z:BE=BE:=rfl;rw[z];exact d
def UK(ds:List Dv)(P:Nat)(ps:Nat->zh)(R:Rows)(b:Nat):Rows:=ds.flatMap (ou ds P ps R b R.length)
theorem JN(hm:m<=100)(q:Pok I fs ds P ps pt)(a:Hd E R)(u:R.length<=m)(w:∀r∈R,Rw P ps r)(v:b<=100)(e:Dv) :
    uC m (Ca m R (UK ds P ps R b)) ((By (zH fs ds) pt (EI m E R) e (.int (b:Nat)) (.int (R.length:Nat))).bind λc=>_s c.2) (Be (zH fs ds) pt (EI m E R) e (.int (b:Nat)) (.int (R.length:Nat))):=by
  have g:=Ez (f:=id) (c:=ou ds P ps R b R.length) (xs:=ds) (λx t=>cX hm q (by omega) w v e t) E R a u;rw[yj]at g;have p:AO Hj E=_s (R.map tI):=a;have o:AO Bx E=_s (R.map tI):=a;have y:E.length<=1000000:=by rw[a.len];omega
  have it:items (.lst E)=_s E:=rfl;have j:Tt (.lst (R.map tI))=true:=LJ R;have s:AB (zH fs ds) (.int 1)=_s (.tup ds):=rfl;have d:items (.tup ds)=_s ds:=rfl;have i:BQ=BQ:=rfl;unfold By Be;simp only[Bj,it,AL y,p,o,j,cond_true,s,d,A0,S9,q8,i];simp only[Option.bind_assoc,A0,i7];exact g
end
section
variable{I m:Nat}{fs ds:List Dv}{P:Nat}{ps:Nat->zh}
def Yw(ds:List Dv)(P:Nat)(ps:Nat->zh)(m:Nat):Nat->Rows->Nat->Option Rows
 |0,R,_=>_s R
 |n+1,R,b=>if b < R.length then(Ca m R (UK ds P ps R b)).bind λR'=>Yw ds P ps m n R' R.length else _s R
theorem kn{t:Rows}{n:List Nat}(h:∀k∈n,k < R.length)(x:Dv):Lj ds P ps (R++t) x n=Lj ds P ps R x n:=by
 unfold Lj;have:pk (R++t) n=pk R n:=K1 λk a=>by have:=h k a;simp[R3,F9 this]
 rw[this]
structure Clo (ds:List Dv) (P:Nat) (ps:Nat->zh) (m:Nat) (R R':Rows):Prop where
 len:R'.length<=m
 pre:∃t,R'=R++t
 all:∀x∈ds,∀n:List Nat,(n.length:Int)=IH x->(∀k∈n,k < R'.length)->Lj ds P ps R' x n∈R'
 cU:∀S:List Nat->Prop,(∀r∈R,S r)->(∀x∈ds,∀rs:Rows,(rs.length:Int)=IH x->(∀r∈rs,S r)->S (KR ds P ps (IL x) rs))->∀r∈R',S r
theorem cY(q:Pok I fs ds P ps pt){r:List Nat}(h:r∈UK ds P ps R b):∃x∈ds,∃n:List Nat,(n.length:Int)=IH x/\(∀k∈n,k < R.length)/\r=Lj ds P ps R x n:=by obtain⟨x,d,h⟩:=W2.mp h;obtain⟨n,hn,rfl⟩:=G6.mp h;obtain⟨a,c⟩:=OH (DE (q.hd x d)).2 hn;exact⟨x,d,n,a,c,rfl⟩
theorem HP(q:Pok I fs ds P ps pt){R':Rows}(e:Ca m R (UK ds P ps R b)=_s R'){S:List Nat->Prop}(h0:∀r∈R,S r)(h1:∀x∈ds,∀rs:Rows,(rs.length:Int)=IH x->(∀r∈rs,S r)->S (KR ds P ps (IL x) rs)):∀r∈R',S r:=λr g=>by
 rcases((BW e).2.2 r).mp g with h|h
 exact h0 r h;obtain⟨x,d,n,hn,i,rfl⟩:=cY q h;refine h1 x d _ (by rw[Pz];exact hn) λa ha=>?_;obtain⟨k,c,rfl⟩:=G6.mp ha;exact h0 _ (WH (i k c))
theorem Vi(q:Pok I fs ds P ps pt):∀x∈ds,∀rs:Rows,(rs.length:Int)=IH x->(∀r∈rs,Rw P ps r)->Rw P ps (KR ds P ps (IL x) rs):=λx c rs g d=>by obtain⟨e,a⟩:=DE (q.hd x c);exact(GZ (fs:=fs) q.hd q.hdl q.pw q.hP q.ok (e▸c) a g d q.hp (h:=.lst (rs.map tI)) rfl).2.2
theorem Om{pt:Dv}(q:Pok I fs ds P ps pt):∀{n:Nat}{R:Rows}{b:Nat},m < n+b->R.length<=m->(∀x∈ds,∀n:List Nat,(n.length:Int)=IH x->(∀k∈n,k < b/\k < R.length)->Lj ds P ps R x n∈R)->∀{R'},Yw ds P ps m n R b=_s R'->Clo ds P ps m R R'
 |0,R,b,hn,g,hc,R',h=>by cases h;exact⟨g,⟨[],by simp⟩,λx d n a k=>hc x d n a λj c=>⟨by have:=k j c;omega,k j c⟩,λS h0 _=>h0⟩
 |n+1,R,b,hn,g,hc,R',h=>by
  unfold Yw at h;split at h;rename_i o;cases e:Ca m R (UK ds P ps R b)with
  |none=>rw[e]at h;cases h
  |some v=>
   rw[e]at h;obtain⟨p1,⟨t,rfl⟩,p3⟩:=BW e;obtain⟨u,⟨t',rfl⟩,s,p⟩:=Om q (show m < n+R.length by omega) (p1 g) (λx d n a k=>by have i:∀j∈n,j < R.length:=λj c=>(k j c).1;rw[kn i,p3];by_cases hex:∃j∈n,b<=j;exact .inr (W2.mpr ⟨x,d,G6.mpr ⟨n,XT (DE (q.hd x d)).2 a i hex,rfl⟩⟩);exact .inl (hc x d n a λj c=>⟨Nat.lt_of_not_le λz=>hex ⟨j,c,z⟩,i j c⟩)) h
   exact⟨u,⟨t++t',by rw[J3]⟩,s,λS h0 h1=>p S (HP q e h0 h1) h1⟩
  rename_i o;cases h;exact⟨g,⟨[],by simp⟩,λx d n a k=>hc x d n a λj c=>⟨by have:=k j c;omega,k j c⟩,λS h0 _=>h0⟩
theorem ju(a b:Nat):VN (.int (a:Nat)) (.int (b:Nat))=_s (decide (a < b)):=by show _s (decide ((a:Int) < b))=_;congr 1;exact decide_eq_decide.mpr ⟨λh=>by omega,λh=>by omega⟩
theorem Nn(hm:m<=100)(q:Pok I fs ds P ps pt):∀{n F:Nat}{E:List Dv}{R:Rows}{b y:Nat},m < n+b->n<=F->y+n<=1000->n<=200->Hd E R->R.length<=m->b<=R.length->(∀r∈R,Rw P ps r) ->
    match Yw ds P ps m n R b with
    |some R'=>∃B s,PF Af (Ah (zH fs ds) pt) F (EI m E R,.int (b:Nat),.int (y:Nat))=_s (EI m B R',s)/\Hd B R'/\Zy Af (Ah (zH fs ds) pt) (Bw (zH fs ds) pt) F (EI m E R,.int (b:Nat),.int (y:Nat))=_n
    |none=>Zy Af (Ah (zH fs ds) pt) (Bw (zH fs ds) pt) F (EI m E R,.int (b:Nat),.int (y:Nat))=_s (Fy m):=by
  intro n;induction n with
  |zero=>intro F E R b y hn _ _ _ a g J;omega
  |succ n G=>
    intro F E R b y hn Q O H a g J w;obtain⟨F,rfl⟩:∃N,F=N+1:=⟨F-1,by omega⟩;have f2:CD (EI m E R) "listed" = true:=rfl;have p:Au (.lst E)=_s (.int (R.length:Nat)):=by rw[<- a.len];rfl
    have c:Af (EI m E R,.int (b:Nat),.int (y:Nat))=_s (decide (b < R.length)):=by unfold Af;simp only[f2,cond_true,Bj,A0,p,ju]
    unfold Yw;simp only[PF,Zy,c,A0,decide_eq_true_eq];by_cases v:b < R.length;simp only[if_pos v];have pl:Sq (.int (y:Nat)) (.int 1)=_s (.int ((y+1:Nat):Int)):=rfl;have o:=JN hm q a g w (b:=b) (by omega) (.int ((y+1:Nat):Int));have D:Ah (zH fs ds) pt (EI m E R,.int (b:Nat),.int (y:Nat))=(By (zH fs ds) pt (EI m E R) (.int ((y+1:Nat):Int)) (.int (b:Nat)) (.int (R.length:Nat))).bind λc=>_s (c.2,.int (R.length:Nat),.int ((y+1:Nat):Int)):=by unfold Ah;simp only[f2,cond_true,Bj,A0,p,pl]
    have C:Bw (zH fs ds) pt (EI m E R,.int (b:Nat),.int (y:Nat))=Be (zH fs ds) pt (EI m E R) (.int ((y+1:Nat):Int)) (.int (b:Nat)) (.int (R.length:Nat)):=by unfold Bw;simp only[f2,cond_true,Bj,A0,p,pl,S9,q8]
    rw[D,C];cases e:Ca m R (UK ds P ps R b)with
    |none=>rw[e]at o;have o:Be _ _ _ _ _ _=_s (Fy m):=o;simp only[N7,o,Q3]
    |some u=>
      rw[e]at o;obtain⟨A,M,i,L⟩:=o;obtain⟨⟨d,z⟩,K,j⟩:=L9.mp M;have j:z=EI m A u:=C3 j;subst j;obtain⟨p1,p2,p3⟩:=BW e;have p4:R.length<=u.length:=by obtain⟨t,rfl⟩:=p2;simp
      have:=G (F:=F) (E:=A) (R:=u) (b:=R.length) (y:=y+1) (by omega) (by omega) (by omega) (by omega) i (p1 g) p4 (HP q e w (Vi q));simp only[K,L,A0,K8];exact this
    simp only[if_neg v];exact⟨E,_,rfl,a,trivial⟩
end
theorem NO:∀{rs:Rows}{ns:List Dv},ns.length=rs.length->CN (rs.map tI) ns=(rs.zip ns).map λa=>Dv.tup [tI a.1,a.2]
 |[],[],_=>rfl
 |r::rs,n::ns,h=>by simp only[A9,CN,K7,NO (rs:=rs) (ns:=ns) (by simpa using h)]
theorem RB:∀{rs:Rows}{ns:List Dv},ns.length=rs.length->((rs.zip ns).flatMap λa=>[a.1])=rs
 |[],[],_=>rfl
 |r::rs,n::ns,h=>by simp only[K7,Q9,RB (rs:=rs) (ns:=ns) (by simpa using h)];rfl
theorem JU(I nf P:Nat)(ps:Nat->zh):(Bl I nf P ps).length=I+nf:=by simp[Bl]
theorem QF{I:Nat}(hI:I<=100)(hfl:fs.length<=100):∃L,Bz (zH fs ds) (.int (I:Nat))=_s (.lst L)/\L.length=I+fs.length:=by
 have i:AB (zH fs ds) (.int 0)=_s (.tup fs):=rfl;have it:items (.tup fs)=_s fs:=rfl;have d:=DL (g:=Hk) (f:=λk=>.int (k:Nat)) (h:=λk=>.tup [.str [105,110,112,117,116],.int (k:Nat)]) (L:=B6 I) λk _=>rfl;have a:∀fs:List Dv,AO EW fs=_s (fs.map λc=>.tup [.str [102,105,120,101,100],c]):=λfs=>by
  induction fs with|nil=>rfl|cons x fs e=>simp only[AO,EW,e,A0,A9]
 refine⟨((B6 I).map λk=>Dv.tup [.str [105,110,112,117,116],.int (k:Nat)])++fs.map λc=>Dv.tup [.str [102,105,120,101,100],c],?_,?_⟩;unfold Bz;simp only[KW I (show I<=1000000 by omega),A0,i,it];rw[AL (by simp;omega),d];simp only[A0];rw[AL (by omega),a];simp only[A0,Ad,B9,Z8];rw[if_pos (by omega)];rfl;simp
section
variable{I m:Nat}{fs ds:List Dv}{P:Nat}{ps:Nat->zh}
def Bd(I nf:Nat)(ds:List Dv)(P:Nat)(ps:Nat->zh)(m:Nat):Option Rows:=(Ca m [] (Bl I nf P ps)).bind λR=>Yw ds P ps m (m+1) R 0
structure Sok (I:Nat) (fs ds:List Dv) (P:Nat) (ps:Nat->zh) (pt:Dv):Prop extends Pok I fs ds P ps pt where
 hfs:∀x∈fs,Tx 10 x
 hfl:fs.length<=10
 hfp:fs.Pairwise (·≠·)
 hI:I<=10
 h0:0 < P
theorem Sok.par(q:Sok I fs ds P ps pt):Pok I fs ds P ps pt:=⟨q.hd,q.hdl,q.pw,q.hP,q.ok,q.hp⟩
theorem Gc(hm:m<=100)(q:Sok I fs ds P ps pt) :
    match Bd I fs.length ds P ps m with
    |some R'=>∃d,CY (zH fs ds) pt (.int (m:Nat))=_s (.lst d)/\Hd d R'/\BZ (zH fs ds) pt (.int (m:Nat))=_n
    |none=>BZ (zH fs ds) pt (.int (m:Nat))=_s (Fy m):=by
  have hfl:=q.hfl;have hI:=q.hI;have B:=(OE (ds:=ds) q.hfs (show fs.length<=100 by omega) q.hfp (show I<=100 by omega) q.h0 q.hP q.ok q.hp).1;obtain⟨L,en,O⟩:=QF (fs:=fs) (ds:=ds) (show I<=100 by omega) (show fs.length<=100 by omega);have p:L.length=(Bl I fs.length P ps).length:=by rw[O,JU]
  have D:AB (zH fs ds) (.int 0)=_s (.tup fs):=rfl;have C:Au (.tup fs)=_s (.int (fs.length:Nat)):=rfl;have lo:Au (.lst ((Bl I fs.length P ps).map tI))=_s (.int ((I+fs.length:Nat):Int)):=by show _s (Dv.int _)=_;rw[B9,JU]
  have A:Zp (.int ((I+fs.length:Nat):Int)) (.int (fs.length:Nat))=_s (.int (I:Nat)):=by show _s (Dv.int (((I+fs.length:Nat):Int)-(fs.length:Nat)))=_;congr 2;omega
  have u:DW [.lst ((Bl I fs.length P ps).map tI),.lst L]=_s (((Bl I fs.length P ps).zip L).map λa=>Dv.tup [tI a.1,a.2]):=by rw[<- NO p];rfl
  have c:VI m (((Bl I fs.length P ps).zip L).flatMap λa=>[a.1]) (AW BA (((Bl I fs.length P ps).zip L).map λa=>Dv.tup [tI a.1,a.2])) (GV BA FT (((Bl I fs.length P ps).zip L).map λa=>Dv.tup [tI a.1,a.2])):=Ez λa _=>by intro E R g H;have:=Nk (m:=m) (by omega) a.1 (.int 0) a.2 E R g H;unfold BA FT;simp only[FJ];exact this
  rw[RB p]at c;have c:=c [] [] .nil (G8 _);have x1:BA=BA:=rfl;have z:BA=BA:=rfl;have w:Af=Af:=rfl;have v:Ah=Ah:=rfl;have mk:∀{t:Type}(o:Dv)(k:Dv->Option t),lg .yw [o] k=k o:=λ_ _=>rfl;unfold Bd CY BZ;simp only[cv,mk,B,lo,D,C,A,en,u,A0,x1,z,w,v,S9,q8,i7];cases e:Ca m [] (Bl I fs.length P ps)with
  |none=>rw[e]at c;have c:GV _ _ _ _=_s (Fy m):=c;simp only[c,N7,Q3]
  |some R=>
    rw[e]at c;obtain⟨E,M,g,K⟩:=c;obtain⟨p1,p2,p3⟩:=BW e;have J:∀r∈R,Rw P ps r:=λr G=>by
      rcases(p3 r).mp G with h|h
      cases h;exact QB q.ok r h
    have:=Nn (fs:=fs) hm q.par (n:=m+1) (F:=1000000) (E:=E) (R:=R) (b:=0) (y:=0) (by omega) (by omega) (by omega) (by omega) g (p1 (G8 _)) (G8 _) J;simp only[M,K,A0,K8];cases e3:Yw ds P ps m (m+1) R 0 with|none=>rw[e3]at this;exact this|some R'=>rw[e3]at this;obtain⟨d,s,j,N,i⟩:=this;have j:PF Af (Ah (zH fs ds) pt) 1000000 (EI m E R,.int 0,.int 0)=_s (EI m d R',s):=j;have i:Zy Af (Ah (zH fs ds) pt) (Bw (zH fs ds) pt) 1000000 (EI m E R,.int 0,.int 0)=none:=i;refine⟨d,?_,N,i⟩;simp only[j,A0,Bj]
theorem BS(hm:m<=100)(q:Sok I fs ds P ps pt){R':Rows}(h:Bd I fs.length ds P ps m=_s R'):(∀r∈Bl I fs.length P ps,r∈R')/\R'.length<=m/\(∀x∈ds,∀rs:Rows,(rs.length:Int)=IH x->(∀r∈rs,r∈R')->KR ds P ps (IL x) rs∈R')/\(∀S:List Nat->Prop,(∀r∈Bl I fs.length P ps,S r)->(∀x∈ds,∀rs:Rows,(rs.length:Int)=IH x->(∀r∈rs,S r)->S (KR ds P ps (IL x) rs))->∀r∈R',S r):=by
 unfold Bd at h;obtain⟨R,e,h⟩:=L9.mp h;obtain⟨p1,p2,p3⟩:=BW e;obtain⟨w,⟨t,rfl⟩,v,u⟩:=Om q.par (show m < m+1+0 by omega) (p1 (G8 _)) (λx g n a k=>by
  cases n with|nil=>have:=(DE (q.hd x g)).2;simp at a;omega|cons j n=>have:=(k j B2).1;omega) h
 refine⟨λr c=>C0 _ ((p3 r).mpr (.inr c)),w,λx g rs i c=>?_,λS h0 h1=>u S (λr c=>((p3 r).mp c).elim (λz=>by cases z) (h0 r)) h1⟩;have:∀rs:Rows,(∀r∈rs,r∈R++t)->∃n:List Nat,pk (R++t) n=rs/\∀k∈n,k < (R++t).length:=λrs=>by
  induction rs with|nil=>intro _;exact⟨[],rfl,λk d=>by cases d⟩|cons r rs o=>intro c;obtain⟨n,e,hn⟩:=o λa ha=>c a (B1 _ ha);obtain⟨k,d,s⟩:=W6 (c r B2);refine⟨k::n,?_,λj p=>(C9.mp p).elim (λz=>z▸d) (hn j)⟩;show(R++t).getD k []::pk (R++t) n=_;rw[e,<- s];congr 1;rw[R3,A3 d];rfl
 obtain⟨n,e,hn⟩:=this rs c;have:=v x g n (by rw[<- e,Pz]at i;exact i) hn;unfold Lj at this;rw[e]at this;exact this
end
theorem Ik:∀ts:List Nat,Al (nI ts)=_t
 |[]=>rfl
 |t::ts=>by have:=Ik ts;simp only[nI]at this;simp only[nI,A9,Al,Dv.cmp,this,L0]
theorem NT:∀ts:List Nat,BH (nI ts)=0
 |[]=>rfl
 |t::ts=>by have:=NT ts;simp only[nI]at this;simp only[nI,A9,BH,Dv.dep,this];rfl
theorem Mv:∀a b:List Nat,_root_.R.zAa (nI a) (nI b)=decide (a=b)
 |[],[]=>rfl
 |[],b::bs=>rfl
 |a::as,[]=>rfl
 |a::as,b::bs=>by have:=Mv as bs;simp only[nI]at this;simp only[nI,A9,_root_.R.zAa,_root_.R.zw,this,i8];by_cases e:a=b;subst e;simp;have:((a:Int)==(b:Int))=false:=beq_eq_false_iff_ne.mpr (by omega);simp[e,this]
theorem Se(L:Rows):Al (L.map tI)=_t/\BH (L.map tI)<=1:=by
 induction L with|nil=>exact⟨rfl,by decide⟩|cons x L a=>simp only[A9,Al,BH,tI,Dv.cmp,Dv.dep,Ik,NT,T7];exact⟨a.1,by omega⟩
theorem XS(r:List Nat)(M:Rows):Ff (tI r) (M.map tI)=decide (r∈M):=by
 unfold Ff;induction M with|nil=>simp|cons x M a=>rw[A9,T5,a];simp only[tI,_root_.R.zw,Mv];by_cases e:x=r;subst e;simp;have:¬r=x:=λz=>e z.symm;simp[e,this]
theorem Df(neg:Bool)(r:List Nat)(M:Rows):NG neg (tI r) (.lst (M.map tI))=_s (if neg then !decide (r∈M)else decide (r∈M)):=by
 have a:=Se M;have c:((tI r).cmp&&Al (M.map tI)&&decide (BH (M.map tI)<=150))=true:=by rw[a.1];simp only[tI,Dv.cmp,Ik,L0,T7];exact decide_eq_true (by have:=a.2;omega)
 show(if((tI r).cmp&&Al (M.map tI)&&decide (BH (M.map tI)<=150))=_t then _s (if neg then !Ff (tI r) (M.map tI)else Ff (tI r) (M.map tI))else _n)=_;rw[if_pos c,XS]
theorem NS:∀ls:List Nat,EH (nI ls)=_s (ls.map λk:Nat=>(k:Int))
 |[]=>rfl
 |k::ls=>by have:=NS ls;simp only[nI]at this;simp only[nI,A9,EH,this,G0]
theorem XW{ls:List Nat}(h:ls≠[]):∃M:Nat,M∈ls/\(∀k∈ls,k<=M)/\FQ (.lst (nI ls))=_s (.int (M:Nat))/\FQ (tI ls)=_s (.int (M:Nat)):=by
 obtain⟨a,ls,rfl⟩:∃a l,ls=a::l:=by cases ls with|nil=>exact absurd rfl h|cons a l=>exact⟨a,l,rfl⟩
 obtain⟨d,c⟩:=Q.zAB ((a::ls).map λk:Nat=>(k:Int)) (by simp);obtain⟨M,i,e⟩:=G6.mp d;have v:=NS (a::ls);refine⟨M,i,λk g=>?_,?_,?_⟩;have:=c k (G6.mpr ⟨k,g,rfl⟩);omega;simp only[FQ,v,A9];rw[e];rfl;simp only[tI,FQ,v,A9];rw[e];rfl
theorem XU(c:r=1\/r=2){n:List Nat}(hn:(n.length:Int)=r):FQ (tI n)=_s (.int (Jc n:Nat)):=by
 have ne:n≠[]:=λz=>by subst z;simp at hn;omega
 obtain⟨M,h1,h2,_,h3⟩:=XW ne;rw[h3];congr 3
 match n,hn with
 |[],_=>exact absurd rfl ne
 |[k],_=>simp at h1;subst h1;simp[Jc]
 |[j,k],_=>
  have a:=h2 j (by simp);have b:=h2 k (by simp);simp only[Jc,X5,yF];rcases C9.mp h1 with rfl|h1
  omega;have:=D5.mp h1;omega
 |_::_::_::_,hn=>simp at hn;omega
theorem Vw(d:r=1\/r=2){u:Nat}{n:List Nat}(h:n∈DI r u):(n.length:Int)=r/\∀k∈n,k < u:=by
 unfold DI at h;rcases d with rfl|rfl
 rw[if_pos rfl]at h;obtain⟨k,c,rfl⟩:=G6.mp h;exact⟨rfl,λj a=>by rw[D5.mp a];exact I0.mp c⟩;rw[if_neg (by decide)]at h;obtain⟨k,c,h⟩:=W2.mp h;obtain⟨o,e,rfl⟩:=G6.mp h;refine⟨rfl,λj a=>?_⟩;rcases C9.mp a with rfl|a
 exact I0.mp c;rw[D5.mp a];exact I0.mp e
def Aj(m:Nat)(R:Rows):Rows->Rows
 |[]=>R
 |c::cs=>if m < R.length\/c∈R then Aj m R cs else Aj m (R++[c]) cs
theorem JH{m:Nat}:∀{a b R:Rows},Aj m R (a++b)=Aj m (Aj m R a) b
 |[],b,R=>rfl
 |c::a,b,R=>by simp only[U5,Aj];split;exact JH;exact JH
theorem DV{m:Nat}:∀{cs R:Rows},∃t,Aj m R cs=R++t
 |[],R=>⟨[],by simp[Aj]⟩
 |c::cs,R=>by unfold Aj;split;exact DV;obtain⟨t,e⟩:=DV (m:=m) (cs:=cs) (R:=R++[c]);exact⟨c::t,by rw[e,J3];rfl⟩
theorem JG{m:Nat}:∀{cs R:Rows},(Aj m R cs).length<=max R.length (m+1)
 |[],R=>by simp only[Aj];omega
 |c::cs,R=>by unfold Aj;split;exact JG;rename_i h;have:=JG (m:=m) (cs:=cs) (R:=R++[c]);rw[F0,H8]at this;have:¬m < R.length:=λz=>h (.inl z);omega
theorem Gg{m M:Nat}(d:m<=M):∀{cs R:Rows},R.length<=m->Ca m R cs=if(Aj M R cs).length<=m then _s (Aj M R cs)else _n
 |[],R,h=>by simp[Ca,Aj,h]
 |c::cs,R,h=>by by_cases hc:c∈R;have e:Aj M R (c::cs)=Aj M R cs:=if_pos (.inr hc);rw[e,<- Gg d h];exact if_pos hc;have e:Aj M R (c::cs)=Aj M (R++[c]) cs:=if_neg λz=>z.elim (λz=>by omega) hc;have g:Ca m R (c::cs)=if m<=R.length then _n else Ca m (R++[c]) cs:=if_neg hc;rw[e,g];by_cases a:m<=R.length;rw[if_pos a];obtain⟨t,e⟩:=DV (m:=M) (cs:=cs) (R:=R++[c]);rw[if_neg (by rw[e];simp;omega)];rw[if_neg a];exact Gg d (by simp;omega)
def uD(R:Rows)(s:Dv×Dv):Prop:=∃ls:List Nat,ls.length=R.length/\s=(.lst (R.map tI),.lst (nI ls))
def Sv(a:Rows)(m:Nat)(cs:Rows)(g:Dv×Dv->Option (Dv×Dv)):Prop:=∀R s,uD R s->R.length<=100->(∃t,R=a++t)->∃s',g s=_s s'/\uD (Aj m R cs) s'
theorem Fh{α:Type}{i:Rows}{m:Nat}(hm:m < 100){g:Dv->Dv×Dv->Option (Dv×Dv)}{f:α->Dv}{c:α->Rows}:∀{xs:List α},(∀a∈xs,Sv i m (c a) (g (f a)))->Sv i m (xs.flatMap c) (AW g (xs.map f))
 |[],_=>λR s d _ _=>⟨s,rfl,d⟩
 |a::xs,h=>λR s d j hp=>by
  obtain⟨s1,q,h1⟩:=h a B2 R s d j hp;have l1:=JG (m:=m) (cs:=c a) (R:=R);obtain⟨s2,p,h2⟩:=Fh hm (λb o=>h b (B1 _ o)) (Aj m R (c a)) s1 h1 (by omega) (by obtain⟨t,rfl⟩:=hp;obtain⟨t',e⟩:=DV (m:=m) (cs:=c a) (R:=i++t);exact⟨t++t',by rw[e,J3]⟩)
  refine⟨s2,?_,by rw[Q9,JH];exact h2⟩;simp only[A9,AW,q,A0,p]
theorem Jh(a b:Nat):qW (.int (a:Nat)) (.int (b:Nat))=_s (decide (a<=b)):=by show _s (decide ((a:Int)<=b))=_;congr 1;exact decide_eq_decide.mpr ⟨λh=>by omega,λh=>by omega⟩
theorem YL(p:α->Bool)(f:α->List Nat)(xs:List α):(xs.flatMap λa=>if p a=_t then[f a]else[])=(xs.filter p).map f:=cy p f xs
section
variable{I m:Nat}{fs ds:List Dv}{P:Nat}{ps:Nat->zh}
theorem Xf(hm:m < 100)(q:Pok I fs ds P ps pt){a:Rows}(S:a.length<=100)(T:∀r∈a,Rw P ps r){b:Nat}(D:x∈ds) :
    Sv a m (ou ds P ps a b a.length x) (Cv (zH fs ds) pt (.int (m:Nat)) (.int (b:Nat)) (.int (a.length:Nat)) x):=by
  obtain⟨e,g⟩:=DE (q.hd x D);have F:Sv a m ((DI (IH x) a.length).flatMap λn=>if decide (b<=Jc n)=_t then[Lj ds P ps a x n]else[]) (AW (Cw (zH fs ds) pt (.int (m:Nat)) (.int (b:Nat)) (.str (IL x))) ((DI (IH x) a.length).map tI)):=Fh hm λn hn=>by
    obtain⟨p,u⟩:=Vw g hn;have it:items (tI n)=_s (nI n):=rfl;have n2:n.length<=2:=by omega
    have U:(nI n).length<=1000000:=by rw[Fe];omega
    obtain⟨_,V,_⟩:=Ol q T D p u (h:=.lst ((pk a n).map tI)) rfl;intro R s v Z ⟨t,hp⟩;obtain⟨ls,h1,rfl⟩:=v;have C:∀k∈n,k < R.length:=λk c=>by rw[hp];simp;have:=u k c;omega
    have o:pk R n=pk a n:=K1 λk c=>by rw[hp];simp[R3,F9 (u k c)]
    have Q:AO (Ea (.lst (R.map tI))) (nI n)=_s ((pk a n).map tI):=by rw[<- o];exact Rx (λk c=>by unfold Ea;rw[fB c];rfl) C
    have W:Au (.lst (R.map tI))=_s (.int (R.length:Nat)):=by show _s (Dv.int _)=_;rw[B9]
    have s1:ET (.int (m:Nat)) (.int (b:Nat)) (tI n) (.lst (R.map tI))=_s (decide (b<=Jc n)&&decide (R.length<=m)):=by unfold ET;simp only[XU g p,A0,YB,W,Jh];by_cases h:b<=Jc n<;>simp[h]
    have H:Lw .yw .yw=_s false:=rfl;have b1:Lw (tI (Lj ds P ps a x n)) .yw=_s true:=rfl;have N:EE (tI (Lj ds P ps a x n)) (.lst (R.map tI))=_s (!decide (Lj ds P ps a x n∈R)):=Df _t _ _;unfold Cw Hh Hg Hf;simp only[s1,A0,it,AL U,Q,V];by_cases B:b<=Jc n;by_cases G:R.length<=m;simp only[B,G,decide_true,L0,if_true,A0,b1,N];by_cases d:Lj ds P ps a x n∈R;simp only[d,decide_true,O7,B3,if_false,A0];exact⟨_,rfl,ls,by simp[Aj,d,h1],by simp[Aj,d]⟩;have ne:n.map (λk=>ls.getD k 0)≠[]:=λz=>by rw[List.map_eq_nil_iff]at z;subst z;simp at p;omega
    obtain⟨M,_,_,x1,_⟩:=XW ne;have O:AO (EZ (.lst (nI ls))) (nI n)=_s (nI (n.map λk=>ls.getD k 0)):=by
      unfold nI;rw[L7];exact DL λk c=>by have:=NW (ts:=ls) (h:=k) (by rw[h1];exact C k c);unfold EZ;rw[show AB (.lst (ls.map λt=>Dv.int (t:Nat))) (.int (k:Nat))=_s (.int (ls.getD k 0:Nat))from this];rfl
    have ad:Ad (.int (M:Nat)) (.int 1)=_s (.int ((M+1:Nat):Int)):=by rw[Br];rfl
    have Y:=Dj (xs:=R.map tI) (y:=tI (Lj ds P ps a x n)) (by simp;omega);have X:=Dj (xs:=nI ls) (y:=.int ((M+1:Nat):Int)) (by rw[Fe];omega);simp only[d,decide_false,xm,if_true,A0,Eg,Y,O,x1,ad,X];have:¬(m < R.length\/Lj ds P ps a x n∈R):=λz=>z.elim (λz=>by omega) d;refine⟨_,rfl,ls++[M+1],?_,?_⟩;simp[Aj,this,h1];simp[Aj,this,nI];have:m < R.length:=by omega
    simp only[B,G,decide_true,decide_false,U1,B3,if_false,if_true,A0,H];exact⟨_,rfl,ls,by simp[Aj,this,h1],by simp[Aj,this]⟩;simp only[B,decide_false,xr,B3,if_false,A0,H];exact⟨_,rfl,ls,by simp[Aj,h1],by simp[Aj]⟩
  rw[YL,Pd g]at F;intro R s v w hp;obtain⟨s',A,h1⟩:=F R s v w hp;have K:∀{J:Type}(f:Dv×Dv->Option J),((He [8,9] x).bind fun(t:Dv×Dv)=>f t)=f (.str (IL x),.int (IH x)):=λf=>by have:=FJ (i:=8) (j:=9) (.str (IL x)) (.int (IH x)) f;rw[<- e]at this;exact this
  have it:∀L:List Dv,items (.lst L)=_s L:=λ_=>rfl;refine⟨s',?_,h1⟩;unfold Cv;have A:AW (Cw (zH fs ds) pt (.int (m:Nat)) (.int (b:Nat)) (.str (IL x))) ((DI (IH x) a.length).map tI) (s.1,s.2)=_s s':=A;simp only[K,Pc g S,it,A0,A]
end
section
variable{I m:Nat}{fs ds:List Dv}{P:Nat}{ps:Nat->zh}
theorem Me(hm:m < 100)(q:Pok I fs ds P ps pt):∀{n F:Nat}{R:Rows}{ls:List Nat}{b:Nat}{up:Int}{bg:Dv},m < n+b->n < F->(up=b\/(up = -1/\b=0))->0 < R.length->ls.length=R.length->R.length<=m->b<=R.length->(∀r∈R,Rw P ps r) ->
    ∃R' g d e,PF (Am (.int (m:Nat))) (BF (zH fs ds) pt (.int (m:Nat))) F (.lst (R.map tI),.lst (nI ls),bg,.int up)=_s (.lst (R'.map tI),.lst (nI g),d,e)/\g.length=R'.length /\
      (match Yw ds P ps m n R b with|some j=>R'=j/\j.length<=m|none=>m < R'.length):=by
  intro n;induction n with
  |zero=>intro F R ls b up bg hn _ _ h0 h1 s N B;omega
  |succ n K=>
    intro F R ls b up bg hn T S h0 h1 s N B;obtain⟨F,rfl⟩:∃Q,F=Q+2:=⟨F-2,by omega⟩;have D:∀R:Rows,Au (.lst (R.map tI))=_s (.int (R.length:Nat)):=λR=>by show _s (Dv.int _)=_;rw[B9]
    have c:∀(R:Rows)(u:Int)(x y:Dv),Am (.int (m:Nat)) (.lst (R.map tI),x,y,.int u)=_s (decide (u < R.length)&&decide (R.length<=m)):=λR u x y=>by have l:VN (.int u) (.int (R.length:Nat))=_s (decide (u < R.length)):=rfl;unfold Am;simp only[D,A0,l,Jh];by_cases h:u < R.length<;>simp[h]
    have G:decide (up < R.length)=decide (b < R.length):=decide_eq_decide.mpr ⟨λh=>by omega,λh=>by omega⟩;have A:decide (R.length<=m)=true:=decide_eq_true s;rw[show Yw ds P ps m (n+1) R b=if b < R.length then(Ca m R (UK ds P ps R b)).bind λR'=>Yw ds P ps m n R' R.length else _s R from rfl];rw[show ∀z,PF (Am (.int (m:Nat))) (BF (zH fs ds) pt (.int (m:Nat))) (F+2) z=(Am (.int (m:Nat)) z).bind λb=>if b=_t then(BF (zH fs ds) pt (.int (m:Nat)) z).bind (PF (Am (.int (m:Nat))) (BF (zH fs ds) pt (.int (m:Nat))) (F+1))else _s z from λ_=>rfl];rw[c,G,A,A0,uf];by_cases o:b < R.length
    · rw[if_pos o,if_pos (decide_eq_true o)];have J:Hv (.int up) (.int 0)=_s (.int (b:Nat)):=by show _s (Dv.int (if(0:Int) > up then 0 else up))=_;congr 2;split<;>omega
      have L:AB (zH fs ds) (.int 1)=_s (.tup ds):=rfl;have w:items (.tup ds)=_s ds:=rfl;obtain⟨⟨s1,s2⟩,v,a,p,O⟩:=Fh hm (f:=id) (c:=ou ds P ps R b R.length) (xs:=ds) (λx M=>Xf hm q (by omega) B M) R (.lst (R.map tI),.lst (nI ls)) ⟨ls,h1,rfl⟩ (by omega) ⟨[],by simp⟩;rw[yj]at v;obtain⟨rfl,rfl⟩:=Prod.mk.inj O;have v:AW (Cv (zH fs ds) pt (.int (m:Nat)) (.int (b:Nat)) (.int (R.length:Nat))) ds (.lst (R.map tI),.lst (nI ls))=_s (.lst ((Aj m R (UK ds P ps R b)).map tI),.lst (nI a)):=v;have p:a.length=(Aj m R (UK ds P ps R b)).length:=p;have H:BF (zH fs ds) pt (.int (m:Nat)) (.lst (R.map tI),.lst (nI ls),bg,.int up)=_s (.lst ((Aj m R (UK ds P ps R b)).map tI),.lst (nI a),.int (b:Nat),.int (R.length:Nat)):=by unfold BF;simp only[J,D,L,w,v,A0]
      rw[H,A0];have i:=Gg (C4 m) (cs:=UK ds P ps R b) s;obtain⟨t,C⟩:=DV (m:=m) (cs:=UK ds P ps R b) (R:=R);generalize Aj m R (UK ds P ps R b)=j at *;by_cases h:j.length<=m;rw[if_pos h]at i;rw[i,A0];exact K (by omega) (by omega) (.inl rfl) (by rw[C];simp;omega) p h (by rw[C];simp) (HP q i B (Vi q));rw[if_neg h]at i;rw[i,N7];refine⟨j,a,.int (b:Nat),.int (R.length:Nat),?_,p,by omega⟩;simp only[PF,c,A0,decide_eq_false h,U1,B3,if_false]
    rw[if_neg o,if_neg (by simpa using o)];exact⟨R,ls,bg,.int up,rfl,h1,rfl,s⟩
theorem HF{m:Nat}:∀{cs R:Rows},(Aj m R cs).length<=R.length+cs.length
 |[],R=>by simp[Aj]
 |c::cs,R=>by have a:=HF (m:=m) (cs:=cs) (R:=R);have b:=HF (m:=m) (cs:=cs) (R:=R++[c]);rw[F0,H8]at b;rw[E3];unfold Aj;split<;>omega
theorem Ft:∀(cs R:Rows),R.length+cs.length<=900->AW CU (cs.map tI) (.lst (R.map tI))=_s (.lst ((Aj 1000 R cs).map tI))
 |[],R,_=>rfl
 |c::cs,R,h=>by
  rw[E3]at h;have a:EE (tI c) (.lst (R.map tI))=_s (!decide (c∈R)):=Df _t _ _;have d:=Dj (xs:=R.map tI) (y:=tI c) (by simp;omega);have s:CU (tI c) (.lst (R.map tI))=_s (.lst ((if c∈R then R else R++[c]).map tI)):=by unfold CU Hi;simp only[a,A0];by_cases hc:c∈R;simp[hc];simp[hc,Eg,d]
  simp only[A9,AW,s,A0];by_cases hc:c∈R;rw[if_pos hc,show Aj 1000 R (c::cs)=Aj 1000 R cs from if_pos (.inr hc)];exact Ft cs R (by omega);rw[if_neg hc,show Aj 1000 R (c::cs)=Aj 1000 (R++[c]) cs from if_neg λz=>z.elim (λz=>by omega) hc];exact Ft cs (R++[c]) (by simp;omega)
theorem VV{γ:Type}{t:γ->Option Bool}{g:γ->Option γ}{c:γ}(h:t c=_s _f):PF t g (n+1) c=_s c:=by simp only[PF,h,A0,B3,if_false]
theorem FO(hm:m < 100)(q:Sok I fs ds P ps pt)(A:0 < I+fs.length) :
    match Bd I fs.length ds P ps m with
    |some R'=>∃ls:List Nat,Aw (zH fs ds) pt (.int (m:Nat))=_s (.tup [.lst (R'.map tI),.lst (nI ls)])
    |none=>Aw (zH fs ds) pt (.int (m:Nat))=_s .yw:=by
  have hfl:=q.hfl;have hI:=q.hI;have s:=(OE (ds:=ds) q.hfs (show fs.length<=100 by omega) q.hfp (show I<=100 by omega) q.h0 q.hP q.ok q.hp).2;have i:∀R:Rows,Au (.lst (R.map tI))=_s (.int (R.length:Nat)):=λR=>by show _s (Dv.int _)=_;rw[B9]
  have a:=JU I fs.length P ps;have dd:=Ft (Bl I fs.length P ps) [] (by rw[a];simp;omega);have g:∀m,m<=1000->Ca m [] (Bl I fs.length P ps)=if(Aj 1000 [] (Bl I fs.length P ps)).length<=m then _s (Aj 1000 [] (Bl I fs.length P ps))else none:=λm h=>Gg h (G8 _);have it:∀L:List Dv,items (.lst L)=_s L:=λ_=>rfl;have D:0 < (Aj 1000 [] (Bl I fs.length P ps)).length:=by
    cases e:Bl I fs.length P ps with|nil=>rw[e]at a;simp at a;omega|cons c cs=>obtain⟨t,y⟩:=DV (m:=1000) (cs:=cs) (R:=[c]);rw[show Aj 1000 [] (c::cs)=Aj 1000 ([]++[c]) cs from if_neg (by simp)];rw[show([]:Rows)++[c]=[c]from rfl,y];simp
  have p:=g 1000 (C4 _);have C:(Aj 1000 [] (Bl I fs.length P ps)).length<=1000:=by have:=HF (m:=1000) (cs:=Bl I fs.length P ps) (R:=[]);rw[a]at this;simp at this;omega
  have g:=g m (by omega);have o:∀r∈Aj 1000 [] (Bl I fs.length P ps),Rw P ps r:=λr z=>by
    rw[if_pos C]at p;rcases((BW p).2.2 r).mp z with h|h
    cases h;exact QB q.ok r h
  unfold Bd;rw[g];generalize Aj 1000 [] (Bl I fs.length P ps)=R at *;have mu:EF (.lst [.int 0]) (.int (R.length:Nat))=_s (.lst (nI (C5 R.length 0))):=by
    simp only[EF,H8,S8];rw[if_pos ⟨by omega,by omega,by omega⟩];congr 2;generalize R.length=k;induction k with|zero=>rfl|succ k v=>simp only[M6,Q5,v];rfl
  have u:Kj (.int 1)=_s (.int (-1)):=rfl;unfold Aw;have dd:AW CU ((Bl I fs.length P ps).map tI) (.lst [])=_s (.lst (R.map tI)):=dd;simp only[s,it,dd,i,mu,u,A0,FJ];by_cases h:R.length<=m;rw[if_pos h,A0];obtain⟨R',j,d,e,B,h1,h2⟩:=Me hm q.par (n:=m+1) (F:=1000000) (R:=R) (ls:=C5 R.length 0) (b:=0) (up:=-1) (bg:=.int 0) (by omega) (by omega) (.inr ⟨rfl,rfl⟩) D (by simp) h (G8 _) o;rw[B];simp only[A0,EU,i,Jh];cases e3:Yw ds P ps m (m+1) R 0 with|none=>rw[e3]at h2;have h2:m < R'.length:=h2;simp only[show ¬R'.length<=m by omega,decide_false,B3,if_false,A0]|some p=>rw[e3]at h2;obtain⟨rfl,h2⟩:=h2;exact⟨j,by simp only[h2,decide_true,if_true,A0]⟩
  rw[if_neg h,N7];have c:Am (.int (m:Nat)) (.lst (R.map tI),.lst (nI (C5 R.length 0)),.int 0,.int (-1))=_s false:=by
    have l:VN (.int (-1)) (.int (R.length:Nat))=_s true:=by show _s (decide ((-1:Int) < R.length))=_;rw[decide_eq_true (by omega)]
    unfold Am;simp only[i,A0,l,Jh,if_true,h,decide_false]
  have w:PF (Am (.int (m:Nat))) (BF (zH fs ds) pt (.int (m:Nat))) 1000000 (.lst (R.map tI),.lst (nI (C5 R.length 0)),.int 0,.int (-1))=_s (.lst (R.map tI),.lst (nI (C5 R.length 0)),.int 0,.int (-1)):=VV (n:=999999) c;rw[w];simp only[A0,EU,i,Jh,h,decide_false,B3,if_false]
end
noncomputable abbrev wz:List Nat:=[119,105,100,101,122,122]
def Bt(r:Int):Dv:=.tup [.str wz,.int r]
def Hw(ps:Nat->zh)(ts:Nat->Dv):Nat->zh:=λk=>⟨(ps k).n,(ps k).cs,(ps k).T++[ts k],(ps k).ins⟩
theorem LI{R:Dv->Dv->Prop}{x y:Dv}(h:R x y):∀{xs ys:List Dv},Paired R xs ys->Paired R (xs++[x]) (ys++[y])
 |_,_,.nil=>.cons h .nil
 |_,_,.cons r p=>.cons r (LI h p)
theorem cM(M:Rows):lu (.lst (M.map tI)) (.lst (M.map tI))=_s false:=by
 have e:∀M:Rows,_root_.R.zAa (M.map tI) (M.map tI)=true:=λM=>by
  induction M with|nil=>rfl|cons x M a=>simp only[A9,_root_.R.zAa,a,tI,_root_.R.zw,Mv,decide_true,L0]
 obtain⟨d,g⟩:=Se M;have c:((Dv.lst (M.map tI)).cmp&&(Dv.lst (M.map tI)).cmp&&decide ((Dv.lst (M.map tI)).dep<=150))=true:=by simp only[Dv.cmp,Dv.dep,d,L0,T7];exact decide_eq_true (by omega)
 show(if((Dv.lst (M.map tI)).cmp&&(Dv.lst (M.map tI)).cmp&&decide ((Dv.lst (M.map tI)).dep<=150))=_t then _s (!_root_.R.zw (Dv.lst (M.map tI)) (Dv.lst (M.map tI)))else _n)=_;rw[if_pos c];simp only[_root_.R.zw,e,O7]
theorem OQ{p:List Nat->Bool}{g:Dv->Option (Option Dv)}(a:∀x r,AB x (.int 0)=_s (tI r)->g x=_s (if p r=_t then _s (tI r)else _n)):∀{E:List Dv}{R:Rows},Hd E R->Jf g E=_s ((R.filter p).map tI)
 |[],R,h=>by
  cases R with|nil=>rfl|cons=>exact absurd h.len (by simp)
 |x::E,R,h=>by
  cases R with
  |nil=>exact absurd h.len (by simp)
  |cons r R=>
   unfold Hd at h;simp only[AO,A9]at h;cases e1:AB x (.int 0)with
   |none=>rw[e1]at h;cases h
   |some y=>
    cases e2:AO (λx=>(AB x (.int 0)).bind _s) E with|none=>rw[e1,e2]at h;cases h|some c=>rw[e1,e2]at h;have h:=um (C3 h);obtain⟨rfl,rfl⟩:=h;simp only[Jf,a x r e1,OQ a (show Hd E R from e2),A0,u3];by_cases q:p r=_t;simp only[q,if_true,A9];simp only[q,B3,if_false]
theorem LQ{p:List Nat->Bool}{g:Dv->Option (Option Dv)}(a:∀r,g (tI r)=_s (if p r=_t then _s (tI r)else _n)):∀(R:Rows),Jf g (R.map tI)=_s ((R.filter p).map tI)
 |[]=>rfl
 |r::R=>by simp only[A9,Jf,a,LQ a R,A0,u3];by_cases q:p r=_t;simp only[q,if_true,A9];simp only[q,B3,if_false]
section
variable{I m:Nat}{fs ds:List Dv}{P:Nat}{ps:Nat->zh}{ts:Nat->Dv}{r:Int}
theorem RG(hd:∀x∈ds,Gk 5 x)(hdl:ds.length<=10)(pw:DP ds)(p:r=1\/r=2)(ok:∀k < P,Gi I fs.length ds (ps k))(g:∀k < P,mC (ps k).n (Bt r) (ts k)){pt':Dv}(q:Sok I fs ds P ps pt)(hp:aC P (Hw ps ts) pt'):Sok I fs (ds++[Bt r]) P (Hw ps ts) pt' where
 hd:=λx c=>by
  rcases E6.mp c with h|h
  obtain⟨a,r,e,t,h⟩:=hd x h;exact⟨a,r,e,t.mono (by decide),h⟩;rw[D5.mp h];exact⟨_,r,rfl,⟨wz,rfl,by decide,by decide⟩,p⟩
 hdl:=by simp;omega
 pw:=List.pairwise_append.mpr ⟨pw,List.pairwise_singleton _ _,λx c y o=>by rw[D5.mp o];obtain⟨a,r,rfl,⟨l,rfl,i,_⟩,_⟩:=hd x c;intro z;have z:Dv.str l=Dv.str wz:=z;rw[Dv.str.inj z]at i;simp at i⟩
 hP:=q.hP
 ok:=λk j=>by obtain⟨a,b,⟨w,v,u,s⟩,d,e⟩:=ok k j;exact⟨a,b,⟨rfl,v,u,LI (g k j) s⟩,d,e⟩
 hp:=hp
 hfs:=q.hfs
 hfl:=q.hfl
 hfp:=q.hfp
 hI:=q.hI
 h0:=q.h0
theorem Zt{p:zh}(h:Gi I nf ds p):p.T.length=ds.length:=(JT h.2.2.1.2.2.2).symm
def lM(I nf:Nat)(ds:List Dv)(r:Int)(P:Nat)(ps:Nat->zh)(ts:Nat->Dv)(m:Nat):Option Rows:=(Bd I nf ds P ps m).bind λc=>(Bd I nf (ds++[Bt r]) P (Hw ps ts) m).bind λa=>_s (a.filter λr=>!decide (r∈c))
theorem Ry(m:Nat):(bif(Fy m).c==("TooMany" : Str)&&(Fy m).f==("most" : Str)then _s (Dv.tup [(Dv.str [109,97,110,121]),(Fy m).d])else _n)=_s (.tup [.str [109,97,110,121],.int (m:Nat)]):=rfl
theorem Qt(hm:m<=100)(q:Sok I fs ds P ps (.tup (mR P λk=>(ps k).dv)))(B:Sok I fs (ds++[Bt r]) P (Hw ps ts) (.tup (mR P λk=>(Hw ps ts k).dv)))(hdl:ds.length<=10) :
    Ci (zH fs ds) (.tup (mR P λk=>(ps k).dv)) (Bt r) (.tup (mR P ts)) (.int (m:Nat))=_s (match lM I fs.length ds r P ps ts m with
      |some L=>.lst (L.map tI)
      |none=>.tup [.str [109,97,110,121],.int (m:Nat)]):=by
  have hP:=q.hP;have c:=Gc hm q;have a:=Gc hm B;have Q:AB (Bt r) (.int 0)=_s (.str wz):=rfl;have O:AB (Bt r) (.int 1)=_s (.int r):=rfl;have i:DW [.tup (mR P λk=>(ps k).dv),.tup (mR P ts)]=_s (mR P λk=>.tup [(ps k).dv,ts k]):=by show _s (CN (mR P λk=>(ps k).dv) (mR P ts))=_;rw[RC]
  have ws:BR (zH fs ds) (.str wz) (.int r)=_s (zH fs (ds++[Bt r])):=by
    have t:AB (zH fs ds) (.int 0)=_s (.tup fs):=rfl;have p:AB (zH fs ds) (.int 1)=_s (.tup ds):=rfl;have ad:Ad (.tup ds) (.tup [.tup [.str wz,.int r]])=_s (.tup (ds++[Bt r])):=by simp only[Ad,H8];rw[if_pos (by omega)];rfl
    unfold BR;simp only[t,p,ad,A0]
  have j:AO Cm (mR P λk=>.tup [(ps k).dv,ts k])=_s (mR P λk=>(Hw ps ts k).dv):=Dx λk U=>by
    have tl:=Zt (q.ok k U);have J:AB (ps k).dv (.int 0)=_s (ps k).w:=rfl;have w1:AB (ps k).dv (.int 1)=_s (tI (ps k).ins):=rfl;have H:CW (ps k).w (ts k)=_s (Hw ps ts k).w:=by
      have t:AB (ps k).w (.int 0)=_s (.int ((ps k).n:Nat)):=rfl;have p:AB (ps k).w (.int 1)=_s (tI (ps k).cs):=rfl;have N:AB (ps k).w (.int 2)=_s (.tup (ps k).T):=rfl;have ad:Ad (.tup (ps k).T) (.tup [ts k])=_s (.tup ((ps k).T++[ts k])):=by simp only[Ad,H8];rw[if_pos (by omega)]
      unfold CW;simp only[t,p,N,ad,A0];rfl
    unfold Cm;simp only[FJ,J,w1,H,A0];rfl
  have u:∀f:Nat->Dv,(mR P f).length<=1000000:=λf=>by rw[Cc];omega
  have it:∀L:List Dv,items (.lst L)=_s L:=λ_=>rfl;have x1:Bx=HD:=rfl;have A:Cm=Cm:=rfl;have at_:∀L:List Dv,AS (.lst L)=_s (.tup L):=λ_=>rfl;unfold Ci lM;simp only[Q,O,A0];cases e1:Bd I fs.length ds P ps m with
  |none=>
    rw[e1]at c;have c:BZ (zH fs ds) (.tup (mR P λk=>(ps k).dv)) (.int (m:Nat))=_s (Fy m):=c;have g:CK (zH fs ds) (.tup (mR P λk=>(ps k).dv)) (.str wz) (.int r) (.tup (mR P ts)) (.int (m:Nat))=_s (Fy m):=by unfold CK;simp only[c,Q3]
    rw[g];exact Ry m
  |some d=>
    rw[e1]at c;obtain⟨E,z,C,D⟩:=c;obtain⟨_,W,_,_⟩:=BS hm q e1;have o:AO HD E=_s (d.map tI):=C;have y:E.length<=1000000:=by rw[C.len];omega
    cases e2:Bd I fs.length (ds++[Bt r]) P (Hw ps ts) m with
    |none=>
      rw[e2]at a;have a:BZ (zH fs (ds++[Bt r])) (.tup (mR P λk=>(Hw ps ts k).dv)) (.int (m:Nat))=_s (Fy m):=a;have g:CK (zH fs ds) (.tup (mR P λk=>(ps k).dv)) (.str wz) (.int r) (.tup (mR P ts)) (.int (m:Nat))=_s (Fy m):=by unfold CK;simp only[z,D,x1,A,it,AL y,o,i,AL (u _),j,at_,ws,a,A0,K8,Q3]
      rw[g];exact Ry m
    |some F=>
      rw[e2]at a;obtain⟨G,b1,e,b2⟩:=a;obtain⟨_,V,_,_⟩:=BS hm B e2;have v:G.length<=1000000:=by rw[e.len];omega
      have g:CK (zH fs ds) (.tup (mR P λk=>(ps k).dv)) (.str wz) (.int r) (.tup (mR P ts)) (.int (m:Nat))=none:=by unfold CK;simp only[z,D,x1,A,it,AL y,o,i,AL (u _),j,at_,ws,b2,A0,K8,S9]
      have M:Jf (HC (d.map tI)) G=_s ((F.filter λr=>!decide (r∈d)).map tI):=OQ (λx r S=>by have K:EE (tI r) (.lst (d.map tI))=_s (!decide (r∈d)):=Df _t _ _;unfold HC;simp only[S,A0,K];split<;>rfl) e
      have s:GH (zH fs ds) (.tup (mR P λk=>(ps k).dv)) (.str wz) (.int r) (.tup (mR P ts)) (.int (m:Nat))=_s (.lst ((F.filter λr=>!decide (r∈d)).map tI)):=by unfold GH;simp only[z,it,AL y,o,i,AL (u _),j,at_,ws,b1,AL v,M,A0]
      rw[g,s];rfl
end
theorem SK{e:Dv}{ys:List Dv}:∀{xs:List Dv}{j:Nat},EA e xs=_s j->EA e (xs++ys)=_s j/\j < xs.length
 |[],j,h=>by cases h
 |x::xs,j,h=>by unfold EA at h;rw[U5];unfold EA;split at h;rename_i c;cases h;exact⟨if_pos c,by simp⟩;rename_i c;obtain⟨i,d,rfl⟩:=E9.mp h;obtain⟨a,b⟩:=SK (ys:=ys) d;rw[if_neg c,a];exact⟨rfl,by simp;omega⟩
theorem OP{g:Dv->Option Dv}{f h:List Nat->Dv}:∀{L:Rows},(∀k∈L,g (f k)=_s (h k))->AO g (L.map f)=_s (L.map h)
 |[],_=>rfl
 |k::L,e=>by simp only[A9,AO,e k B2,OP λj a=>e j (B1 _ a),A0]
theorem XF:∀L:Rows,Qs (.bl _f) (.lst (L.map λ_=>Dv.bl _t))=_s false:=λL=>by
 have c:Al (L.map λ_=>Dv.bl _t)=_t/\BH (L.map λ_=>Dv.bl _t)<=1:=by
  induction L with|nil=>exact⟨rfl,by decide⟩|cons x L a=>simp only[A9,Al,BH,Dv.cmp,Dv.dep,T7];exact⟨a.1,by omega⟩
 have m:Ff (.bl _f) (L.map λ_=>Dv.bl _t)=false:=by
  unfold Ff;induction L with|nil=>rfl|cons x L a=>rw[A9,T5,a (by simp only[A9,Al,BH,Dv.cmp,Dv.dep,T7]at c;exact⟨c.1,by omega⟩)];rfl
 show(if((Dv.bl _f).cmp&&Al (L.map λ_=>Dv.bl _t)&&decide (BH (L.map λ_=>Dv.bl _t)<=150))=_t then _s (Ff (.bl _f) (L.map λ_=>Dv.bl _t))else _n)=_;rw[c.1,m,if_pos (by simp only[Dv.cmp,T7];exact decide_eq_true (by omega))]
section
variable{I m:Nat}{fs ds:List Dv}{P:Nat}{ps:Nat->zh}{ts:Nat->Dv}{r:Int}
theorem iE(q:Pok I fs ds P ps pt)(a:x∈ds)(rs:Rows):KR (ds++[Bt r]) P (Hw ps ts) (IL x) rs=KR ds P ps (IL x) rs:=by
 obtain⟨e,_⟩:=DE (q.hd x a);obtain⟨j,c,_⟩:=Mw q.hd q.pw (e▸a:Dv.tup [.str (IL x),.int (IH x)]∈ds);obtain⟨i,g⟩:=SK (ys:=[Qy (Bt r)]) c;rw[B9]at g;unfold KR;refine K1 λk d=>?_;have tl:=Zt (q.ok k (I0.mp d));have:FU (ds++[Bt r]) (Hw ps ts k).T (.str (IL x))=FU ds (ps k).T (.str (IL x)):=by unfold FU;rw[vM,List.map_singleton,i,c];show((ps k).T++[ts k]).getD j .yw=_;simp[R3,F9 (show j < (ps k).T.length by omega)]
 rw[this]
theorem UH{pt':Dv}(hm:m<=100)(q:Sok I fs ds P ps pt)(g:Sok I fs (ds++[Bt r]) P (Hw ps ts) pt'){e a:Rows}(h1:Bd I fs.length ds P ps m=_s e)(h2:Bd I fs.length (ds++[Bt r]) P (Hw ps ts) m=_s a):∀x∈e,x∈a:=by
 obtain⟨o,_,c,_⟩:=BS hm g h2;exact(BS hm q h1).2.2.2 (·∈a) o λx d rs j i=>by rw[<- iE (r:=r) (ts:=ts) q.par d rs];exact c x (C0 _ d) rs j i
theorem Xi(hm:m<=100)(q:Sok I fs ds P ps pt)(h:Bd I fs.length ds P ps m=_s R):∀x∈R,x.length=P:=
 (BS hm q h).2.2.2 (λx=>x.length=P) (λx a=>(QB q.ok x a).1) λx a rs d c=>by simp[KR]
theorem Vc(hm:m<=90)(h0:0 < I+fs.length)(hdl:ds.length<=10)(q:Sok I fs ds P ps (.tup (mR P λk=>(ps k).dv)))(U:Sok I fs (ds++[Bt r]) P (Hw ps ts) (.lst (mR P λk=>(Hw ps ts k).dv)))(j:Sok I fs (ds++[Bt r]) P (Hw ps ts) (.tup (mR P λk=>(Hw ps ts k).dv))) :
    ((Aw (zH fs ds) (.tup (mR P λk=>(ps k).dv)) (.int (m:Nat))).bind λv =>
      (Aw (zH fs (ds++[Bt r])) (.lst (mR P λk=>(Hw ps ts k).dv)) (.int (m:Nat))).bind λu =>
      (Ci (zH fs ds) (.tup (mR P λk=>(ps k).dv)) (Bt r) (.tup (mR P ts)) (.int (m:Nat))).bind λo =>
      (ES v u).bind λD =>
      if D=_t then
        (lu o (.tup [.str [109,97,110,121],.int (m:Nat)])).bind λN =>
        if N=_t then _s (Lp.rt (Dv.bl _f) ())else _s (.go ())
      else
        (MJ v u o).bind λC =>
        if C=_t then _s (.rt (Dv.bl _f) ())
        else
          (AB v (.int 0)).bind λH =>
          (items H).bind λw =>
          Cd w ((AO (JE u) w).bind λB =>
          (Qs (.bl _f) (.lst B)).bind λM =>
          if M=_t then _s (.rt (Dv.bl _f) ())
          else
            EN "list" o ((Aa o [.tup []]).bind λT =>
            (Ci (zH fs ds) (.tup (mR P λk=>(ps k).dv)) (Bt r) (.tup (mR P ts)) (.int (m:Nat))).bind λJ =>
            (Qs (.tup []) J).bind λK =>
            if K=_t then _s (.rt (Dv.bl _f) ())else _s (.go ()))))=(_s (.go ()):Option (Lp Dv Unit Unit)):=by
  have t:=FO (m:=m) (by omega) q h0;have i:=FO (m:=m) (by omega) U h0;have a:=Qt (m:=m) (by omega) q j hdl;rw[a];have O:lu (.tup [.str [109,97,110,121],.int (m:Nat)]) (.tup [.str [109,97,110,121],.int (m:Nat)])=_s false:=by show(if _ then _s (!_root_.R.zw _ _)else _n)=_;simp[Dv.cmp,Al,Dv.dep,BH,_root_.R.zw,_root_.R.zAa]
  have S:Qr .yw .yw=_s true:=rfl;have Q:∀xs,Qr (.tup xs) .yw=_s false:=λ_=>rfl;unfold lM;cases e1:Bd I fs.length ds P ps m with
  |none=>
    rw[e1]at t;have t:Aw (zH fs ds) (.tup (mR P λk=>(ps k).dv)) (.int (m:Nat))=_s .yw:=t;obtain⟨z,Z⟩:∃z,Aw (zH fs (ds++[Bt r])) (.lst (mR P λk=>(Hw ps ts k).dv)) (.int (m:Nat))=_s z:=by split at i;obtain⟨ls,e⟩:=i;exact⟨_,e⟩;exact⟨_,i⟩
    have s:ES .yw z=_s true:=by unfold ES;simp only[S,A0,if_true]
    simp only[t,Z,s,O,A0,N7,if_true,B3,if_false]
  |some c=>
    rw[e1]at t;obtain⟨l1,t⟩:=t;cases e2:Bd I fs.length (ds++[Bt r]) P (Hw ps ts) m with
    |none=>
      rw[e2]at i;have i:Aw (zH fs (ds++[Bt r])) (.lst (mR P λk=>(Hw ps ts k).dv)) (.int (m:Nat))=_s .yw:=i;have s:ES (.tup [.lst (c.map tI),.lst (nI l1)]) .yw=_s true:=by unfold ES;simp only[S,Q,A0,B3,if_false]
      simp only[t,i,s,O,A0,N7,if_true,B3,if_false]
    |some d=>
      rw[e2]at i;obtain⟨l2,i⟩:=i;obtain⟨_,lc,_,_⟩:=BS (by omega) q e1;obtain⟨_,lm,_,_⟩:=BS (by omega) j e2;have s:ES (.tup [.lst (c.map tI),.lst (nI l1)]) (.tup [.lst (d.map tI),.lst (nI l2)])=_s false:=by unfold ES;simp only[Q,A0,B3,if_false]
      have A:∀x y,AB (.tup [x,y]) (.int 0)=_s x:=λ_ _=>rfl;have it:∀L:List Dv,items (.lst L)=_s L:=λ_=>rfl;have Y:(d.map tI).length<=1000000:=by rw[B9];omega
      have f2:(c.map tI).length<=1000000:=by rw[B9];omega
      have W:Jf (MM (.tup [.lst (c.map tI),.lst (nI l1)])) (d.map tI)=_s ((d.filter λr=>!decide (r∈c)).map tI):=LQ (g:=MM (.tup [.lst (c.map tI),.lst (nI l1)])) (p:=λr=>!decide (r∈c)) (λx=>by have F:EE (tI x) (.lst (c.map tI))=_s (!decide (x∈c)):=Df _t _ _;unfold MM;simp only[A,A0,F];split<;>rfl) d
      have s2:MJ (.tup [.lst (c.map tI),.lst (nI l1)]) (.tup [.lst (d.map tI),.lst (nI l2)]) (.lst ((d.filter λr=>!decide (r∈c)).map tI))=_s false:=by have ai:Zq (.lst ((d.filter λr=>!decide (r∈c)).map tI)) (.ty "list")=_s (.bl _t):=rfl;unfold MJ;simp only[A,it,AL Y,W,A0,cM,ai,rH,B3,if_false,O7]
      have G:=UH (m:=m) (by omega) q j e1 e2;have V:AO (JE (.tup [.lst (d.map tI),.lst (nI l2)])) (c.map tI)=_s (c.map λ_=>.bl _t):=OP (g:=JE (.tup [.lst (d.map tI),.lst (nI l2)])) (f:=tI) (h:=λ_=>.bl _t) λx X=>by have F:Qs (tI x) (.lst (d.map tI))=_s (decide (x∈d)):=Df _f _ _;unfold JE;simp only[A,A0,F,G x X,decide_true]
      have ap:=Dj (xs:=(d.filter λr=>!decide (r∈c)).map tI) (y:=.tup []) (by rw[B9];have:=List.length_filter_le (λr=>!decide (r∈c)) d;omega)
      have nb:Qs (.tup []) (.lst ((d.filter λr=>!decide (r∈c)).map tI))=_s false:=by have:Qs (tI []) (.lst ((d.filter λr=>!decide (r∈c)).map tI))=_s (decide ([]∈d.filter λr=>!decide (r∈c))):=Df _f _ _;rw[show(Dv.tup [])=tI []from rfl,this];congr 1;refine decide_eq_false λz=>?_;have hz:0=P:=Xi (by omega) j e2 _ (S4.mp z).1;have:=q.h0;omega
      simp only[t,i,s,s2,A,it,AL f2,V,XF,Eg,ap,nb,A0,B3,if_false]
end
theorem NX{I:Nat}{ps:Nat->zh}(C:r=1\/r=2)(hP:P<=3)(ok:∀k < P,Gi I fs.length ds (ps k))(D:Fd f):∃ts g,Bp (MN (.int r)) (mR P λk=>(ps k).dv) f=_s (mR P ts,g)/\(∀k < P,mC (ps k).n (Bt r) (ts k))/\Fd g:=by
 obtain⟨ys,g,e,l,h,o⟩:=KA (MN (.int r)) Fd (λk d=>mC (ps k).n (Bt r) d) (mR P λk=>(ps k).dv) 0 f D λi x a c hc=>by
  rw[C8]at a;have hi:i < P:=by
   rcases l9 i P with h|h
   exact h;rw[M9 (by simp;omega)]at a;cases a
  rw[A3 (by simp;omega)]at a;simp only[G0,Q7,U8]at a;subst a;obtain⟨z,p1,_⟩:=ok i hi;obtain⟨ts,v,s,q,l1,h1,j,m⟩:=Ih hc (fs:=[]) (ds:=[Bt r]) (n:=(ps i).n) z (by omega) (by simp) (by simp) λx a=>by rw[D5.mp a];exact⟨_,r,rfl,C⟩
  cases j with|cons t p=>cases p;rename_i y;have u:AB (ps i).w (.int 0)=_s (.int ((ps i).n:Nat)):=rfl;have A:AB (.tup [.int ((ps i).n:Nat),.tup ts,.tup [y]]) (.int 2)=_s (.tup [y]):=rfl;have B:AB (.tup [y]) (.int 0)=_s y:=rfl;have q:Do c (.tup [.tup [],.tup [.tup [.str [119,105,100,101,122,122],.int r]]]) (.int ((ps i).n:Nat))=_s (.tup [.int ((ps i).n:Nat),.tup ts,.tup [y]],s):=q;refine⟨y,s,?_,by rw[U7];exact t,m⟩;unfold MN zh.dv;simp only[FJ,u,q,A,B,A0]
 rw[Cc]at l;refine⟨λk=>ys.getD k .yw,g,by rw[e,<- l,<- fW],λk F=>?_,o⟩;have:=h k (ys[k]'(by omega)) (A3 (by omega));rw[U7]at this;simp only[R3,A3 (show k < ys.length by omega),ux];exact this
theorem Mh{I:Nat}{ps:Nat->zh}{ts:Nat->Dv}(hP:P<=3)(hdl:ds.length<=10)(ok:∀k < P,Gi I fs.length ds (ps k)):AW Pi (mR P λk=>.tup [(ps k).dv,ts k]) (.lst [])=_s (.lst (mR P λk=>(Hw ps ts k).dv)):=by
 rw[Lb (h:=λk=>(Hw ps ts k).dv) (by simp;omega) λk g a ha=>by
  have tl:=Zt (ok k g);have e:AB (ps k).w (.int 0)=_s (.int ((ps k).n:Nat)):=rfl;have d:AB (ps k).w (.int 1)=_s (tI (ps k).cs):=rfl;have c:AB (ps k).w (.int 2)=_s (.tup (ps k).T):=rfl;have ad:Ad (.tup (ps k).T) (.tup [ts k])=_s (.tup ((ps k).T++[ts k])):=by simp only[Ad,H8];rw[if_pos (by omega)]
  unfold Pi zh.dv;simp only[FJ,Eg,e,d,c,ad,Dj (show a.length<=1000000 by omega),A0];rfl]
 rfl
theorem TC{ns:List Int}(k:Nat):MO (.scr ns) (.int (k:Nat)) ()=_s (.go ()):=by
 obtain⟨f0,e0,B⟩:=UW (ns:=ns) (k:=k);obtain⟨fs,ds,f1,e1,l1,h1,O,l2,h2,j,A⟩:=Pe B;have h6:∀x∈ds,Gk 6 x:=λx V=>by obtain⟨a,r,e,t,h⟩:=h2 x V;exact⟨a,r,e,t.mono (by decide),h⟩
 obtain⟨a,f2,G,b2,y⟩:=PU A (n:=3) (by decide) (by decide);have G:AX f1 (.int 3)=_s (.int (a:Nat),f2):=G;obtain⟨I,hI,C,o⟩:∃I:Nat,I<=10/\0 < I+fs.length/\(Lz (.bl (decide ((fs.length:Int)=0)))).bind (λd=>Hv (.int (a:Nat)) d)=_s (.int (I:Nat)):=by simp only[Lz,A0,Hv];by_cases z:fs.length=0;simp only[z,Int.ofNat_zero,decide_true,if_true];by_cases c:(1:Int) > (a:Nat);exact⟨1,by omega,by omega,by rw[if_pos c];rfl⟩;exact⟨a,by omega,by omega,by rw[if_neg c]⟩;have:decide ((fs.length:Int)=0)=false:=decide_eq_false (by omega);simp only[this,B3,if_false];exact⟨a,by omega,by omega,by rw[if_neg (by omega)]⟩
 obtain⟨d12,ei,o⟩:=L9.mp o;obtain⟨P,ps,f3,e3,Q,p3,ok,v⟩:=Te (I:=I) (fs:=fs) (ds:=ds) (by omega) (by omega) (by omega) h6 y;obtain⟨w,f4,F,b4,u⟩:=PU v (n:=2) (by decide) (by decide);have F:AX f3 (.int 2)=_s (.int (w:Nat),f4):=F;have p:(1+w:Int)=1\/(1+w:Int)=2:=by omega
 obtain⟨ts,f5,e5,g,s⟩:=NX p p3 ok u;obtain⟨z,Z,D,b6,W⟩:=PU s (n:=15) (by decide) (by decide);have D:AX f5 (.int 15)=_s (.int (z:Nat),Z):=D;have X:=Mh (fs:=fs) (ts:=ts) p3 (show ds.length<=10 by omega) ok;have q:Sok I fs ds P ps (.tup (mR P λk=>(ps k).dv)):=⟨⟨h6,by omega,j,p3,ok,.inl rfl⟩,h1,by omega,O,hI,Q⟩;have N:=RG h2 (by omega) j p ok g q (pt':=.lst (mR P λk=>(Hw ps ts k).dv)) (.inr rfl);have i:=RG h2 (by omega) j p ok g q (pt':=.tup (mR P λk=>(Hw ps ts k).dv)) (.inl rfl);have te:=Vc (m:=2+z) (by omega) C (by omega) q N i;have U:AB (.tup [.tup fs,.tup ds]) (.int 0)=_s (.tup fs):=rfl;have T:AB (.tup [.tup fs,.tup ds]) (.int 1)=_s (.tup ds):=rfl;have S:Au (.tup fs)=_s (.int (fs.length:Nat)):=rfl;have K:Ad (.int 1) (.int (w:Nat))=_s (.int (1+w)):=by rw[Br]
 have J:Ad (.int 2) (.int (z:Nat))=_s (.int ((2+z:Nat):Int)):=by rw[Br];rfl
 have H:Ad (.tup ds) (.tup [.tup [.str [119,105,100,101,122,122],.int (1+w)]])=_s (.tup (ds++[Bt (1+w)])):=by simp only[Ad,H8];rw[if_pos (by omega)];rfl
 have it:∀L:List Dv,items (.tup L)=_s L:=λ_=>rfl;have M:DW [.tup (mR P λk=>(ps k).dv),.lst (mR P ts)]=_s (mR P λk=>.tup [(ps k).dv,ts k]):=by show _s (CN (mR P λk=>(ps k).dv) (mR P ts))=_;rw[RC]
 have at_:∀L:List Dv,AS (.lst L)=_s (.tup L):=λ_=>rfl;have Y:∀f:Nat->Dv,(mR P f).length<=1000000:=λf=>by rw[Cc];omega
 unfold MO;simp only[e0,e1,G,U,T,S,IV,ei,o,e3,F,K,J,H,it,AL (Y _),e5,D,M,X,at_,A0];exact te
theorem Xj(ns:List Int)(h:ns.length<=63):one av [Dv.scr ns]=_s (Dv.bl _t):=by
 show av (.scr ns)=_;have sl:NI (.scr ns) (_s 1) (_s 3)=_s (.lst ((Bo ns (_s 1) (_s 3)).map Dv.int)):=rfl;have a:Au (.lst ((Bo ns (_s 1) (_s 3)).map Dv.int))=_s (.int ((Bo ns (_s 1) (_s 3)).length:Nat)):=by show _s (Dv.int (((Bo ns (_s 1) (_s 3)).map Dv.int).length:Nat))=_;rw[B9]
 have g:=Sb ns (_s 1) (_s 3);generalize (Bo ns (_s 1) (_s 3)).length=L at a g;have c:(_root_.R.small 1&&_root_.R.small (2+(L:Nat)))=true:=by unfold _root_.R.small;simp only[A2,decide_eq_true_eq];omega
 have d:KY [.int 1,.int (2+(L:Nat))]=_s ((B6 (2+(L:Int)-1).toNat).map λk=>.int (1+(k:Nat))):=by simp only[KY,c,cond_true]
 unfold av;simp only[sl,a,Br,d,A0];rw[SQ (MO (.scr ns)) () _ λx e=>?_];rfl;obtain⟨k,_,rfl⟩:=G6.mp e;have:=TC (ns:=ns) (1+k);rw[show((1+k:Nat):Int)=1+(k:Int) by omega]at this;exact this
theorem all_mk{l:W.OpenLaw}{w:G7}{K:W.Frag}{h:G2}{mg:Str->Option _v}{fa:A8}(X:K.In h)(G:h.Ns K4 mg)(hfa:mg "law" = _s (.ref fa))(hz:md.bl.all (QD K)=_t)
    (L:GF K "table_in" (top 4))
    (H:GF K "fixed_in" (top 5))
    (T:GF K "deed_tables" (top 8))
    (u:GF K "led_by" (top 9))
    (y:GF K "done_on" (top 7))
    (O:GF K "input_row" (top 11))
    (M:GF K "fixed_row" (top 12))
    (J:GF K "own_rows" (top 10))
    (zBQ:GM K "Found" "Found.__init__" "__init__" (Tz 14 0))
    (N:GM K "Found" "Found.put" "put" (Tz 14 1))
    (S:GF K "own_nodes" (top 16))
    (Y:GF K "numbers_to_do" (top 18))
    (z8:GF K "put_layer" (top 17))
    (g:GF K "closing" (top 15))
    (U:GF K "wider_shape" (top 20))
    (V:GF K "wider_world" (top 21))
    (c:GF K "gained" (top 22))
    (q:GF K "_law_feed" (top 24))
    (t:GF K "_law_take" (top 25))
    (B:GF K "_law_names" (top 26))
    (C:GF K "_law_shape" (top 27))
    (F:GF K "_law_world" (top 28))
    (I:GF K "_law_points" (top 29))
    (A:GF K "_law_entry" (top 30))
    (p:GF K "_law_done" (top 31))
    (o:GF K "_law_own" (top 32))
    (D:GF K "_law_spots" (top 33))
    (Q:GF K "_law_closing" (top 34))
    (z:GF K "_law_asked" (top 35))
    (m:GF K "law" (top 36))
    (a:GC K "Found" md.fl)
    (d:GX K "TooMany" "most" "TooMany.__init__" (Tz 2 0))
    (j:W.nsIn K K4 "TooMany" = _s (_s (.ref (As K "TooMany")))/\pZ K (As K "TooMany")=_t/\XC.below K (As K "TooMany") (As K "TooMany")=_t)
    : ∃fd:N1,(∀(s:A5)(v:_v),wX s fd ⟨[v],[]⟩ [("_law_script", v)])/\∀base:G2,K.In base->base.Ns K4 mg->zI l.prog w K mg base Gq 32 fa fd ["_law_script"] (RS K):=by
  have e:=hfa.symm.trans (W.mg_of X G m.1);cases e;have b:Bs md K mg:=qU X G rfl hz;refine⟨W.fnOf "law" "law" (BM (top 36)) (AZ (top 36)) (AE (top 36)) .none .none .none (bY K (As K "law")) _n (Uk K (As K "law")) .none,λs v=>.of_eq rfl,λbase _ _=>?_⟩;have f0:Fs l.prog w K mg base md.fl 0 sE:=Fs.nil;have i:Xk l.prog w K mg base [("TooMany", "most")]:=(Xk.nil.cons b d (W.mg_of X G d.1) (.mk rfl (by kernel_rfl)) (BV 2 (by kernel_rfl) λ_ _ _ _ _ _ _ _=>by kernel_rfl));have x0:Hz l.prog w K mg base 0 rE:=Hz.nil;have f1:=f0.def (nb:=_f) b (by kernel_rfl) UZ L (W.mg_of X G L.1) (BV 3 (by kernel_rfl) λ_ _ _ _ _ _ _ _ _=>by kernel_rfl);have f2:=f1.def (nb:=_f) b (by kernel_rfl) Uc H (W.mg_of X G H.1) (BV 3 (by kernel_rfl) λ_ _ _ _ _ _ _ _ _=>by kernel_rfl);have f3:=f2.def (nb:=_f) b (by kernel_rfl) Mt T (W.mg_of X G T.1) (BV 3 (by kernel_rfl) λ_ _ _ _ _ _ _ _ _=>by kernel_rfl);have f4:=f3.def (nb:=_f) b (by kernel_rfl) dD u (W.mg_of X G u.1) (BV 2 (by kernel_rfl) λ_ _ _ _ _ _ _ _=>by kernel_rfl);have f5:=f4.def (nb:=_f) b (by kernel_rfl) Yk y (W.mg_of X G y.1) (BV 4 (by kernel_rfl) λ_ _ _ _ _ _ _ _ _ _=>by kernel_rfl);have f6:=f5.def (nb:=_f) b (by kernel_rfl) Qd O (W.mg_of X G O.1) (BV 2 (by kernel_rfl) λ_ _ _ _ _ _ _ _=>by kernel_rfl);have f7:=f6.def (nb:=_f) b (by kernel_rfl) Qf M (W.mg_of X G M.1) (BV 3 (by kernel_rfl) λ_ _ _ _ _ _ _ _ _=>by kernel_rfl);have f8:=f7.def (nb:=_f) b (by kernel_rfl) Ua J (W.mg_of X G J.1) (BV 2 (by kernel_rfl) λ_ _ _ _ _ _ _ _=>by kernel_rfl);have f9:=f8.zCd (nb:=_t) b (by kernel_rfl) Og zBQ a (W.mg_of X G a.1) (BV 2 (by kernel_rfl) λ_ _ _ _ _ _ _ _=>by kernel_rfl);have x1:Hz l.prog w K mg base _ rD:=Hz.zCd (n:=4) (x0.mono (by decide)) b f9 i (by decide) (by kernel_rfl) (V1 (by kernel_rfl)) (by kernel_rfl) (by decide) (by decide) Oe N a (BV 4 (by kernel_rfl) λ_ _ _ _ _ _ _ _ _ _=>by kernel_rfl);have f10:=f9.zCd (nb:=_t) b (by kernel_rfl) Qe N a (W.mg_of X G a.1) (BV 4 (by kernel_rfl) λ_ _ _ _ _ _ _ _ _ _=>by kernel_rfl);have f11:=f10.def (nb:=_f) b (by kernel_rfl) Qb S (W.mg_of X G S.1) (BV 2 (by kernel_rfl) λ_ _ _ _ _ _ _ _=>by kernel_rfl);have f12:=f11.def (nb:=_f) b (by kernel_rfl) Kf Y (W.mg_of X G Y.1) (BV 3 (by kernel_rfl) λ_ _ _ _ _ _ _ _ _=>by kernel_rfl);have x2:Hz l.prog w K mg base _ rC:=Hz.def (n:=6) (x1.mono (by decide)) b f12 i (by decide) (by kernel_rfl) (V1 (by kernel_rfl)) (by kernel_rfl) (by decide) (by decide) Od z8 (W.mg_of X G z8.1) (BV 6 (by kernel_rfl) λ_ _ _ _ _ _ _ _ _ _ _ _=>by kernel_rfl);have f13:=f12.def (nb:=_t) b (by kernel_rfl) Qa z8 (W.mg_of X G z8.1) (BV 6 (by kernel_rfl) λ_ _ _ _ _ _ _ _ _ _ _ _=>by kernel_rfl);have x3:Hz l.prog w K mg base _ qz:=Hz.def (n:=3) (x2.mono (by decide)) b f13 i (by decide) (by kernel_rfl) (V1 (by kernel_rfl)) (by kernel_rfl) (by decide) (by decide) QV g (W.mg_of X G g.1) (BV 3 (by kernel_rfl) λ_ _ _ _ _ _ _ _ _=>by kernel_rfl);have f14:=f13.def (nb:=_f) b (by kernel_rfl) Ud g (W.mg_of X G g.1) (BV 3 (by kernel_rfl) λ_ _ _ _ _ _ _ _ _=>by kernel_rfl);have f15:=f14.def (nb:=_f) b (by kernel_rfl) Ms U (W.mg_of X G U.1) (BV 3 (by kernel_rfl) λ_ _ _ _ _ _ _ _ _=>by kernel_rfl);have Z:=f15.def (nb:=_f) b (by kernel_rfl) Mr V (W.mg_of X G V.1) (BV 2 (by kernel_rfl) λ_ _ _ _ _ _ _ _=>by kernel_rfl);have x4:Hz l.prog w K mg base _ qy:=Hz.def (n:=6) (x3.mono (by decide)) b Z i (by decide) (by kernel_rfl) (V1 (by kernel_rfl)) (by kernel_rfl) (by decide) (by decide) UY c (W.mg_of X G c.1) (BV 6 (by kernel_rfl) λ_ _ _ _ _ _ _ _ _ _ _ _=>by kernel_rfl);have f17:=Z.def (nb:=_f) b (by kernel_rfl) Yj c (W.mg_of X G c.1) (BV 6 (by kernel_rfl) λ_ _ _ _ _ _ _ _ _ _ _ _=>by kernel_rfl);have f18:=f17.def (nb:=_f) b (by kernel_rfl) dF q (W.mg_of X G q.1) (BV 2 (by kernel_rfl) λ_ _ _ _ _ _ _ _=>by kernel_rfl);have f19:=f18.def (nb:=_f) b (by kernel_rfl) dE t (W.mg_of X G t.1) (BV 2 (by kernel_rfl) λ_ _ _ _ _ _ _ _=>by kernel_rfl);have f20:=f19.def (nb:=_f) b (by kernel_rfl) Yh B (W.mg_of X G B.1) (BV 2 (by kernel_rfl) λ_ _ _ _ _ _ _ _=>by kernel_rfl);have f21:=f20.def (nb:=_f) b (by kernel_rfl) Yg C (W.mg_of X G C.1) (BV 1 (by kernel_rfl) λ_ _ _ _ _ _ _=>by kernel_rfl);have f22:=f21.def (nb:=_f) b (by kernel_rfl) Ye F (W.mg_of X G F.1) (BV 3 (by kernel_rfl) λ_ _ _ _ _ _ _ _ _=>by kernel_rfl);have f23:=f22.def (nb:=_f) b (by kernel_rfl) Ub I (W.mg_of X G I.1) (BV 5 (by kernel_rfl) λ_ _ _ _ _ _ _ _ _ _ _=>by kernel_rfl);have f24:=f23.def (nb:=_f) b (by kernel_rfl) Yi A (W.mg_of X G A.1) (BV 4 (by kernel_rfl) λ_ _ _ _ _ _ _ _ _ _=>by kernel_rfl);have f25:=f24.def (nb:=_f) b (by kernel_rfl) dG p (W.mg_of X G p.1) (BV 4 (by kernel_rfl) λ_ _ _ _ _ _ _ _ _ _=>by kernel_rfl);have f26:=f25.def (nb:=_f) b (by kernel_rfl) kg o (W.mg_of X G o.1) (BV 2 (by kernel_rfl) λ_ _ _ _ _ _ _ _=>by kernel_rfl);have f27:=f26.def (nb:=_f) b (by kernel_rfl) Yf D (W.mg_of X G D.1) (BV 2 (by kernel_rfl) λ_ _ _ _ _ _ _ _=>by kernel_rfl);have f28:=f27.def (nb:=_f) b (by kernel_rfl) Qc Q (W.mg_of X G Q.1) (BV 3 (by kernel_rfl) λ_ _ _ _ _ _ _ _ _=>by kernel_rfl);have f29:=f28.zEw (nb:=_f) (hd:=HU) b x4 (by decide) ⟨rfl⟩ ⟨Xw d,mG j.2.1,j.2.2,W.mg_of X G d.1,W.mg_of X G j.1⟩ Uj Ue z (W.mg_of X G z.1) (BV 5 (by kernel_rfl) λ_ _ _ _ _ _ _ _ _ _ _=>by kernel_rfl);have hp:AF (top 36)=(["_law_script"]:List Str):=by kernel_rfl
  have r:=jw (ps:=AF (top 36)) (nb:=_t) (by rw[hp];rfl) (Qi b f29 (by kernel_rfl) pq (QR m)) Xj;rw[hp]at r;exact r
theorem walk{l:W.OpenLaw}{q:E8}{loose:List Str}{XP:(Str->Option _v)->G2->Prop}{YP:G7->G2->Prop}{d:yV}{K:wG->W.Frag}(hn:l.most=_s 63)(c:d.params.defaults=[])
    (i:∀(w:G7)(h:G2),YP w h->(K w.params).In h)
    (F:∀(w:G7)(mg:Str->Option _v)(e:A8)(h:G2),(K w.params).In h->h.Ns K4 mg->mg d.name=_s (.ref e) ->
      ∃fd:N1,(∀(s:A5)(u:_v),wX s fd ⟨[u],[]⟩ [("_law_script", u)])/\∀base:G2,(K w.params).In base->base.Ns K4 mg->zI l.prog w (K w.params) mg base Gq 32 e fd ["_law_script"] (RS (K w.params))) :
    W.WalkO q loose XP YP l.row.toRowW d [] (λf vs=>wH f vs):=
  L2.zCS (n:=63) (k:=32) (x := "_law_script") (CX:=λ_=>Gq) (sp:=λw=>RS (K w.params)) hn (by decide) c ⟨rfl,by decide,by decide,rfl⟩ i F (λ_ _ a ns g m j=>⟨a,ns,rfl,j,g,m,λ_=>rfl⟩) λ_ _ _ _ _ z=>z
abbrev fO(i:Nat)(x:Str)(pm:_v)(a:A8):Obj:=⟨.type "function", _n,.func (W.fnOf x x (BM (top i)) (AZ (top i)) (AE (top i)) .none .none .none pm _n (.ref a) .none),#[]⟩
abbrev sH(i j:Nat)(x q:Str)(pm:_v)(a:A8):Obj:=⟨.type "function", _n,.func (W.fnOf x q (BM (Tz i j)) (AZ (Tz i j)) (AE (Tz i j)) .none .none .none pm _n (.ref a) .none),#[]⟩
abbrev q10:PySem.Value:=.str "law_shapefree_k69_rows_gained" 395
abbrev q11:PySem.Value:=.str "shapefree.closing" 293
abbrev q12:PySem.Value:=.str "shapefree.points" 249
def KP(P:wG):W.Frag:=[
(3,⟨.type "dict", _n,.dict #[ke P "__name__" 165 q10,ke P "__doc__" 166 .none,ke P "__package__" 167 .none,ke P "__loader__" 168 (.builtin "__main__.__loader__#opaque"),ke P "__spec__" 169 .none,ke P "__annotations__" 170 (.ref 6),ke P "__builtins__" 171 (.ref 4),ke P "__file__" 173 (.str "/claim/cut.py" 172),ke P "__cached__" 174 .none,ke P "ShapeError" 206 (.ref 24),ke P "TooMany" 231 (.ref 44),ke P "table_in" 239 (.ref 51),ke P "fixed_in" 248 (.ref 58),ke P "done_on" 262 (.ref 65),ke P "deed_tables" 268 (.ref 70),ke P "led_by" 274 (.ref 75),ke P "own_rows" 280 (.ref 80),ke P "input_row" 286 (.ref 85),ke P "fixed_row" 292 (.ref 90),ke P "Found" 335 (.ref 114),ke P "closing" 351 (.ref 125),ke P "own_nodes" 357 (.ref 130),ke P "put_layer" 363 (.ref 135),ke P "numbers_to_do" 369 (.ref 140),ke P "wider_shape" 380 (.ref 147),ke P "wider_world" 388 (.ref 154),ke P "gained" 394 (.ref 159),ke P "_law_feed" 406 (.ref 166),ke P "_law_take" 416 (.ref 173),ke P "_law_names" 422 (.ref 178),ke P "_law_shape" 428 (.ref 183),ke P "_law_world" 434 (.ref 188),ke P "_law_points" 440 (.ref 193),ke P "_law_entry" 446 (.ref 198),ke P "_law_done" 452 (.ref 203),ke P "_law_own" 458 (.ref 208),ke P "_law_spots" 464 (.ref 213),ke P "_law_closing" 470 (.ref 218),ke P "_law_asked" 483 (.ref 225),ke P "law" 489 (.ref 230)] 40,#[]⟩),
(51,fO 4 "table_in" (.str "shapefree.worlds" 232) 50),
(50,cO "table_in" 234 9 3 3 47 48 .none .none .none 49 237),
(58,fO 5 "fixed_in" (.str "shapefree.worlds" 232) 57),
(57,cO "fixed_in" 240 11 3 3 52 53 .none (.ref 54) (.ref 55) 56 246),
(65,fO 7 "done_on" q12 64),
(64,cO "done_on" 251 14 4 3 59 60 .none (.ref 61) (.ref 62) 63 260),
(70,fO 8 "deed_tables" q12 69),
(69,cO "deed_tables" 263 19 3 3 66 67 .none .none .none 68 266),
(75,fO 9 "led_by" q12 74),
(74,cO "led_by" 269 21 2 3 71 72 .none .none .none 73 272),
(80,fO 10 "own_rows" q12 79),
(79,cO "own_rows" 275 23 2 3 76 77 .none .none .none 78 278),
(85,fO 11 "input_row" q12 84),
(84,cO "input_row" 281 26 2 3 81 82 .none .none .none 83 284),
(90,fO 12 "fixed_row" q12 89),
(89,cO "fixed_row" 287 28 3 3 86 87 .none .none .none 88 290),
(104,sH 14 0 "__init__" "Found.__init__" q11 103),
(103,⟨.type "code", _n,.fields #[.str "__init__" 307,.str "Found.__init__" 308,.str "/claim/cut.py" 309,.int 33 0,.int 2 0,.int 0 0,.int 0 0,.int 3 0,.ref 98,.bool _t,.int 181 0,.ref 99,.none,.ref 100,.ref 101,.ref 102,.int 312 0,.int 33 0,.str "/claim/cut.py" 313],#[]⟩),
(111,sH 14 1 "put" "Found.put" q11 110),
(110,⟨.type "code", _n,.fields #[.str "put" 315,.str "Found.put" 316,.str "/claim/cut.py" 317,.int 38 0,.int 4 0,.int 0 0,.int 0 0,.int 3 0,.ref 105,.bool _t,.int 181 0,.ref 106,.none,.ref 107,.ref 108,.ref 109,.int 322 0,.int 38 0,.str "/claim/cut.py" 323],#[]⟩),
(125,fO 15 "closing" q11 124),
(124,cO "closing" 336 45 3 3 119 120 .none (.ref 121) (.ref 122) 123 349),
(130,fO 16 "own_nodes" q11 129),
(129,cO "own_nodes" 352 58 2 3 126 127 .none .none .none 128 355),
(135,fO 17 "put_layer" q11 134),
(134,cO "put_layer" 358 60 6 3 131 132 .none .none .none 133 361),
(140,fO 18 "numbers_to_do" q11 139),
(139,cO "numbers_to_do" 364 66 3 3 136 137 .none .none .none 138 367),
(147,fO 20 "wider_shape" (.str "shapefree.wider" 370) 146),
(146,cO "wider_shape" 372 75 3 3 141 142 .none (.ref 143) (.ref 144) 145 378),
(154,fO 21 "wider_world" (.str "shapefree.wider" 370) 153),
(153,cO "wider_world" 381 77 2 3 148 149 .none (.ref 150) (.ref 151) 152 386),
(159,fO 22 "gained" (.str "shapefree.wider" 370) 158),
(158,cO "gained" 389 79 6 3 155 156 .none .none .none 157 392),
(166,fO 24 "_law_feed" q10 165),
(165,cO "_law_feed" 397 85 2 3 160 161 .none (.ref 162) (.ref 163) 164 404),
(173,fO 25 "_law_take" q10 172),
(172,cO "_law_take" 407 95 2 3 167 168 .none (.ref 169) (.ref 170) 171 414),
(178,fO 26 "_law_names" q10 177),
(177,cO "_law_names" 417 103 2 3 174 175 .none .none .none 176 420),
(183,fO 27 "_law_shape" q10 182),
(182,cO "_law_shape" 423 118 1 3 179 180 .none .none .none 181 426),
(188,fO 28 "_law_world" q10 187),
(187,cO "_law_world" 429 124 3 3 184 185 .none .none .none 186 432),
(193,fO 29 "_law_points" q10 192),
(192,cO "_law_points" 435 133 5 3 189 190 .none .none .none 191 438),
(198,fO 30 "_law_entry" q10 197),
(197,cO "_law_entry" 441 139 4 3 194 195 .none .none .none 196 444),
(203,fO 31 "_law_done" q10 202),
(202,cO "_law_done" 447 144 4 3 199 200 .none .none .none 201 450),
(208,fO 32 "_law_own" q10 207),
(207,cO "_law_own" 453 149 2 3 204 205 .none .none .none 206 456),
(213,fO 33 "_law_spots" q10 212),
(212,cO "_law_spots" 459 156 2 3 209 210 .none .none .none 211 462),
(218,fO 34 "_law_closing" q10 217),
(217,cO "_law_closing" 465 163 3 3 214 215 .none .none .none 216 468),
(225,fO 35 "_law_asked" q10 224),
(224,cO "_law_asked" 471 181 5 3 219 220 .none (.ref 221) (.ref 222) 223 481),
(230,fO 36 "law" q10 229),
(229,cO "law" 484 188 1 3 226 227 .none .none .none 228 487),
(44,⟨.type "type", _n,.cls ⟨"TooMany", [.ref 24],[.ref 44,.ref 24,.type "ValueError", .type "Exception", .type "BaseException", .type "object"],43, "TooMany", _t,[],[],_f,_n,_f⟩,#[_s (.ref 28),_n,_s (.str "TooMany" 207),_s (.str "TooMany" 215),_s (.builtin "ValueError.__new__"),_s (.bool _t)]⟩),
(43,⟨.type "dict", _n,.dict #[ke P "__module__" 214 (.str "shapefree.errors" 187),ke P "__firstlineno__" 218 (.int 4 217),ke P "__init__" 226 (.ref 41),ke P "__static_attributes__" 228 (.ref 42),ke P "__doc__" 229 .none] 2,#[]⟩),
(24,⟨.type "type", _n,.cls ⟨"ShapeError", [.type "ValueError"],[.ref 24,.type "ValueError", .type "Exception", .type "BaseException", .type "object"],23, "ShapeError", _t,[],[.ref 44],_f,_n,_f⟩,#[_s (.ref 15),_n,_s (.str "ShapeError" 189),_s (.str "ShapeError" 197),_s (.builtin "ValueError.__new__"),_s (.bool _t)]⟩),
(23,⟨.type "dict", _n,.dict #[ke P "__module__" 196 (.str "shapefree.errors" 187),ke P "__firstlineno__" 200 (.int 2 199),ke P "__static_attributes__" 201 (.ref 22),ke P "__weakref__" 203 (.ref 25),ke P "__doc__" 204 .none] 3,#[]⟩),
(41,sH 2 0 "__init__" "TooMany.__init__" (.str "shapefree.errors" 187) 40),
(40,⟨.type "code", _n,.fields #[.str "__init__" 219,.str "TooMany.__init__" 220,.str "/claim/cut.py" 221,.int 6 0,.int 2 0,.int 0 0,.int 0 0,.int 3 0,.ref 35,.bool _t,.int 181 0,.ref 36,.none,.ref 37,.ref 38,.ref 39,.int 224 0,.int 6 0,.str "/claim/cut.py" 225],#[]⟩),
(114,⟨.type "type", _n,.cls ⟨"Found", [.type "object"],[.ref 114,.type "object"],113, "Found", _t,[],[],_f,_n,_f⟩,#[_n,_n,_s (.str "Found" 295),_s (.str "Found" 303),_s (.builtin "object.__new__"),_s (.bool _t)]⟩),
(113,⟨.type "dict", _n,.dict #[ke P "__module__" 302 q11,ke P "__firstlineno__" 306 (.int 31 305),ke P "__init__" 314 (.ref 104),ke P "put" 324 (.ref 111),ke P "__static_attributes__" 328 (.ref 112),ke P "__dict__" 330 (.ref 115),ke P "__weakref__" 332 (.ref 116),ke P "__doc__" 333 .none] 4,#[]⟩)]
def zDu:yV:=⟨"law", BM (top 36),AZ (top 36),AE (top 36),kj (top 36)⟩
theorem zCB:eR PySem.Challenge.rw_shapefree_k69_rows_gained 37 [3,51,50,58,57,65,64,70,69,75,74,80,79,85,84,90,89,104,103,111,110,125,124,130,129,135,134,140,139,147,146,154,153,159,158,166,165,173,172,178,177,183,182,188,187,193,192,198,197,203,202,208,207,213,212,218,217,225,224,230,229,44,43,24,23,41,40,114,113] KP 3178:=λw=>by kernel_rfl
theorem zCA:PySem.Challenge.rw_shapefree_k69_rows_gained.wellSaid=true:=by decide +kernel
end My
open PySem PySem.W PyProof.Rows
set_option maxRecDepth 100000 in
set_option maxHeartbeats 0 in
theorem PySem.Challenge.cw_shapefree_k69_rows_gained_holds : PySem.Challenge.rw_shapefree_k69_rows_gained.Holds := by
 refine L2.zCz (d:=My.zDu) My.zCA My.zCB (λP=>by kernel_rfl) (by kernel_rfl) (by kernel_rfl) (by kernel_rfl) (by kernel_rfl) (by kernel_rfl) (by decide +kernel) ⟨rfl,rfl,rfl,rfl,rfl,by decide +kernel⟩ (by w_witness2) ?call;refine My.walk (l:=PySem.Challenge.rw_shapefree_k69_rows_gained) (d:=My.zDu) (K:=My.KP) rfl (by kernel_rfl) (λw h Y=>Y) λw mg fa h KX G hmg=>?_;refine My.all_mk KX G hmg (by kernel_rfl) ?_ ?_ ?_ ?_ ?_ ?_ ?_ ?_ ?_ ?_ ?_ ?_ ?_ ?_ ?_ ?_ ?_ ?_ ?_ ?_ ?_ ?_ ?_ ?_ ?_ ?_ ?_ ?_ ?_ ?_ ?_ ?_ ?_<;>and_intros<;>kernel_rfl
