import PyProof.Rows.All
import Wide.All
import OpenK.AllK
import Lean
import PySem.Challenge.RW_shapefree_k18_worlds_looked_at
noncomputable section
set_option genInjectivity false
set_option genSizeOf false
set_option Elab.async false
set_option linter.all false
set_option maxRecDepth 100000
set_option maxHeartbeats 4000000
open PySem renaming Addr→A8,Around→F3,BindsTo→m7,Builtin→oR,CmpOp→W6,Comprehension→S7,DefRec→pC,FuncData→K5,Heap→F1,IsPart→mi,IsZip→mG,KeyKind→mL,Keyword→X4,Model→ny,Operator→l5,Params→mj,PassesOwn→g7,PlainAttrs→j9,Program→E2,Scope→K0,Shared→A5,Stmt→G0,Value→A3,Within→o8,World→F6,assign→T9,assignEach→K3,assignInOrder→Z7,atKey→o7,attributeBase→M0,backTo→Q7,behindInMarks→Z6,bindArgs→l7,bindC→oZ,bindL→oY,bindName→l0,bootBuiltins→O3,builtinsNs→oV,cLine→R3,call→ml,call_meets→oo,callerA→mO,cellsFrom→K6,checkBuiltinCall→ni,codeAny→j6,codeAny_call_builtin→mJ,codeAny_mono→X1,compareOp→H9,concat_meets→m8,eqIsQuiet→nP,eqIsQuiet_byValue→mw,eval→M3,evalPart_none→mW,excClassObj→P8,field→ou,foldedSetIterable→M6,getAttr→oS,getItem→X2,holding→i9,isInstance→X8,isSubtype_tuple_tuple→U8,isTrue→oW,keywordEach→oE,lastMarks→o5,letOwnedTupleGo→W3,list_append→nA,mainGlobals→I0,mem_of_lookup→E8,model→C3,newFunctionEnv→mC,noFill_tuple_add→g9,noteFrame→Q6,post_val_or_str→W5,pushCells→o6,pushCells_keeps→la,pyNext→mf,rawInt→N3,seqIndex_neg→m9,seqIndex_of→oB,seq_tuple_add→mU,setFlight→V6,sizeLine_eq→T3,sliceBounds→T5,slot_list_getitem→Z3,standAt→o9,starEach→E3,subscripted→l9,swappedStores→S3,swapsWith→Q4,swapsWithSole→V7,sysModules→T1,tupleKind→nQ,typeIs_str→oj,typeLookup→og,typeOf→om,unbindBehindTheSuite→mK,unpackItems→oA,valueAt→mP,wpAny→B4,wpAny_Call_Name_kw→N4,wpAny_Call_method_late→k4,wpAny_Name→oX,wpAny_assign_Name→mx,wpAny_attempt→mX,wpAny_bind→A0,wpAny_call→j7,wpAny_callSpecial?_slot→J3,wpAny_call_entry→K4,wpAny_comprehension_free→a7,wpAny_execs_cons→O6,wpAny_execs_nil→S8,wpAny_field→F0,wpAny_forIn_list→V1,wpAny_getItem_list_slice→a6,wpAny_getItem_str_slice→O9,wpAny_holding→G7,wpAny_isInstance→V3,wpAny_isSubtype_exc→N0,wpAny_isTrue_Compare1→lq,wpAny_letGo→oG,wpAny_loadPart_at→J0,wpAny_madeBy_exc→nk,wpAny_mono→J4,wpAny_newObj_type→F9,wpAny_onRaise→a8,wpAny_passesOwn→O1,wpAny_pure→A7,wpAny_pyIter_list→U4,wpAny_pyIter_tuple→mm,wpAny_pyIter_zip→ng,wpAny_pyNext_list_end→lu,wpAny_pyNext_list_item→j4,wpAny_rule→V2,wpAny_seqItems→K8,wpAny_sequenceKey→Z2,wpAny_setField→R5,wpAny_setField_rec→N7,wpAny_specialOf→P9,wpAny_standAt→Q5,wpAny_truthy_bool→G4,wpAny_tupleItemsOf→X6,wpAny_typeOf→X3,wpAny_updateSeq→oM,wpAt_bind→oO,wpAt_of_wpAny→mR
open Option renaming bind_eq_some_iff→T6,bind_some→A1,getD_none→nT,getD_some→nV,isSome_iff_exists→O5,map_eq_some_iff→G9,map_some→F5,none_or→ox,or→i8
open Bool renaming and_eq_true→A2,and_eq_true_iff→M5,and_false→Y6,and_self→M1,and_true→o3,eq_false_iff→R1,false_eq_true→B2,false_ne_true→C6,not_eq_true→nh,not_eq_true'→L5,not_false→T7,not_true→F2,or_eq_true→oK,or_true→nK,true_and→V8,true_or→nM
open List renaming all_cons→G8,all_eq_true→E1,all_map→k8,any_cons→S6,any_eq_true→nY,append_assoc→K9,append_nil→F8,contains_cons→Z0,contains_iff_mem→C4,drop_eq_getElem_cons→R7,drop_length→nW,eq_nil_of_length_eq_zero→J8,ext_getElem?→nD,filterMap_cons→M9,filterMap_map→Y3,find?_cons→Q3,find?_some→J5,foldl_cons→oJ,forIn_cons→W4,forIn_nil→mE,getD_eq_getElem?_getD→D0,getElem?_append_left→G1,getElem?_append_right→R4,getElem?_eq_getElem→A4,getElem?_eq_none→N9,getElem?_eq_some_iff→B1,getElem?_map→C0,getElem?_of_mem→mH,getElem?_range→L7,getElem?_replicate→g8,getElem?_reverse→lz,getElem?_set_ne→C9,getElem?_set_self→D5,getElem?_take_of_lt→Z8,getElem_inj→a9,getElem_mem→L9,getElem_of_mem→W8,getElem_range→mv,getElem_set→nt,isEmpty_iff→i7,length→W0,length_append→D9,length_cons→D8,length_drop→V4,length_map→F4,length_nil→lh,length_range→nE,length_reverse→S2,length_set→C8,length_singleton→N8,length_take→O8,length_take_of_le→lY,lookup_append→N6,lookup_cons→E6,map_congr_left→mQ,map_cons→E7,map_map→pE,map_nil→k6,mem_append→D4,mem_append_left→C5,mem_append_right→B6,mem_cons→D6,mem_cons_of_mem→B5,mem_cons_self→B8,mem_filter→Q0,mem_filterMap→mh,mem_map→k9,mem_of_find?_eq_some→O0,mem_of_getElem?→K7,mem_of_mem_take→W2,mem_range→N2,mem_singleton→E5,mem_singleton_self→M7,nil_append→oP,nodup_cons→S9,nodup_iff_pairwise_ne→Y9,nodup_nil→ow,not_mem_nil→F7,of_mem_zip→lZ,pairwise_iff_getElem→L8,range→C2,range_succ_eq_map→U5,replicate→E9,reverse_cons→nF,set_comm→oz,set_set→nG,size_toArray→B0,zipIdx_cons→nZ,zipIdx_nil→oN,zip_cons_cons→K2
open PySem.Heap renaming ExtBut→oF,SameBut→O2,get?_push_of_some→A6,get?_push_size→D1,get?_update_ne→mT,get?_update_other→G5,get?_update_self→J9,lt_size→B7,size_push→L0
open Nat renaming add_assoc→Z5,add_le_add_right→O4,le_of_eq→nC,le_of_lt→T8,le_refl→B9,le_succ→mF,le_succ_of_le→U7,le_trans→A9,lt_irrefl→H8,lt_of_le_of_lt→Y8,lt_of_lt_of_le→B3,lt_or_ge→nN,lt_succ_self→nX,min_eq_left→oQ,min_le_right→nS,min_self→nI,ne_of_gt→U0,ne_of_lt→D3,sub_eq_zero_of_le→V0,zero_add→nO,zero_le→M4
open Option.some renaming inj→C7,injEq→U6
open False renaming elim→D2
open PySem.Value renaming bool→ma,builtin→Z4,bytes→pH,float→nv,int→mM,isInt→pG,isStrOf→oy,none→I9,ref→D7,str→mN,type→X9
open PyProof.Rows renaming AllBare→W9,IntsAre→oU,Subscript_→oh,args_tuple_getitem→Y4,assignInOrder_cons→Y1,assignInOrder_nil→my,callWith_builtin1→nR,callWith_type1→Q8,entry_tuple_getitem→W7,envOfC→S1,envOfC→l8,slicePart_none→Y2,slot_tuple_getitem→E4,subscriptTail→Z9,subscriptTail_builtinR→j8,tail_any→oi,tupleItemsOf_→mV,up1→V5
open PySem.Builtin.Slice renaming sliceAdjust→J7,sliceApplied→N5,sliceFields→Z1,slicePartIndex→oH,slicePlaces→G2
open PySem.Builtin.SmallTypes renaming nextOf→G3,ownedTupleHandOut→S0,ownedTupleIsFree→K1
open PySem.Builtin.Tuple renaming tupleExact→G6,tupleHashOf→J6,tupleIsExact→Y7,tupleItemsOf→N1
open Array renaming forIn_toList→X7,getElem?_eq_some_iff→L6,length_toList→R8,toList→pA
open PySem.Obj renaming data_mapFields→T2,isFreed_of_fields→U9,mapFields→V9,mapSeq→M8
open PySem.Builtin.Str renaming occurrences→O7,strSliceIndices→Q9
open PySem.Str renaming join→oq,ofString→R6
open PySem.Heap.SameBut renaming refl→pO,update→R9
open PySem.F renaming args_tuple_add_2→S4,entry_tuple_add→T4,plainAttrs_str→lX,slot_tuple_add→U1
open PySem.Builtin.List renaming listTooLong→S5
open Int renaming ediv_one→pB,emod_lt_of_pos→mq,emod_nonneg→lp,toNat_natCast→U2
open PySem.Calls renaming Constant_str→me,Name_function_global→Y0,callWith_builtin→U3,evalArgs_plain→mB
open PySem.Around renaming under→X0
open Iff renaming rfl→X5
open PySem.Heap.IsSliceOf renaming new→Y5
open PySem.Txt renaming join→pK,slice→i3,slice_le→k7
open PySem.W renaming findIn→pF,looks_findIn→lW
open PySem.EntryCells renaming newEntry→mS
open PySem.SeqAt.EqAt renaming int_str→mY,str_int→mZ
open PySem.Code renaming frames→pI,guards→pJ,isFrame→m6,isGuard→mz,quiet_builtin→mn
open List.Pairwise renaming nil→nB
open PySem.IsL renaming update→nU
open PySem.Builtin.Range renaming rangeSize→o4
open PySem.Shared renaming heap→pL
open PySem.W.WShape renaming has→pM
open PySem.W.Looks renaming here→pN
open PySem.W.WData renaming int→pP
open PySem.Heap.DictOf renaming new→pQ
namespace L2
open PySem
variable {a:A8} {h:F1} {Q:Bool->A5->Prop}
section
variable {prog:E2} {w:F6} {K:Type} [DecidableEq K]
noncomputable abbrev NK(K:Type):=List (K ⊕ List K)
structure Apart (knd:mL prog w K):Prop where
 l:∀{A:F3} {E:A3->A5->Prop} {s:A5} {k:K} {v:A3} {a:A8} {items:Array A3} {Q:Bool->A5->Prop},A.units < R3->knd.is k v=true->s.heap.IsTuple a items->Q false s->B4 (C3 prog w) A (eqBool v (.ref a)) Q E s
 r:∀{A:F3} {E:A3->A5->Prop} {s:A5} {k:K} {v:A3} {a:A8} {items:Array A3} {Q:Bool->A5->Prop},A.units < R3->knd.is k v=true->s.heap.IsTuple a items->Q false s->B4 (C3 prog w) A (eqBool (.ref a) v) Q E s
inductive qu (knd:mL prog w K) (h:F1):NK K->List A3->Prop
 | nil:qu knd h [] []
 | sc {k:K} {v:A3} {ks:NK K} {vs:List A3}:knd.is k v=true->qu knd h ks vs->qu knd h (.inl k::ks) (v::vs)
 | tp {t:List K} {a:A8} {ks:NK K} {vs:List A3}:IsTupleKey knd h t a->qu knd h ks vs->qu knd h (.inr t::ks) (.ref a::vs)
def ML(knd:mL prog w K)(h:F1)(ks:NK K)(a:A8):Prop:=∃o items n,h.get? a=some o/\o.cls=.type "tuple" /\ o.data=.seq items n/\qu knd h ks items.toList
variable {knd:mL prog w K}
theorem NY{k:K}(h:knd.is k (.ref a)=true):False:=by have:=knd.byValue _ _ h;simp[carriedByValue] at this
theorem qu.inj{h:F1}:∀{x y:NK K} {vs:List A3},qu knd h x vs->qu knd h y vs->x=y
 | _,_,_,.nil,.nil=>rfl
 | _,_,_,.sc h1 t1,.sc h2 t2=>by rw[knd.inj _ _ _ h1 h2,qu.inj t1 t2]
 | _,_,_,.sc h1 t1,.tp h2 t2=>(NY h1).elim
 | _,_,_,.tp h1 t1,.sc h2 t2=>(NY h2).elim
 | _,_,_,.tp h1 t1,.tp h2 t2=>by rw[h1.inj h2,qu.inj t1 t2]
theorem ML.typeIs{s:A5}{ks:NK K}(x:ML knd s.heap ks a):s.TypeIs (.ref a) "tuple" := let ⟨o,_,_,ho,hc,_⟩:=x;⟨o,ho,hc⟩
theorem ML.inj{x y:NK K}(hx:ML knd h x a)(hy:ML knd h y a):x=y:=by
 obtain⟨o,items,n,ho,_,hd,hi⟩:=hx;obtain⟨o',zAU,n',tG,_,uU,hi'⟩:=hy;obtain rfl:o=o':=C7 (ho.symm.trans tG);rw[hd] at uU;injection uU with h1 _
 subst h1;exact hi.inj hi'
theorem qu.keeps{h h':F1}{d:A8}{o:Obj}{es ep}(ho:h.get? d=some o)(hd:o.data=.dict es ep)(hs:O2 d h h'):∀{ks:NK K} {vs:List A3},qu knd h ks vs->qu knd h' ks vs
 | _,_,.nil=>.nil
 | _,_,.sc h1 t=>.sc h1 (t.keeps ho hd hs)
 | _,_,.tp h1 t=>.tp (h1.keeps ho hd hs) (t.keeps ho hd hs)
theorem ML.keeps{h':F1}{ks:NK K}{d:A8}{o:Obj}{es ep}(x:ML knd h ks a)(ho:h.get? d=some o)(hd:o.data=.dict es ep)(hs:O2 d h h'):ML knd h' ks a:=by
 obtain⟨o',items,n,tG,hc,uU,hi⟩:=x;have vN:a≠d:=by
  rintro rfl;obtain rfl:o'=o:=C7 (tG.symm.trans ho);rw[hd] at uU;exact nomatch uU
 exact⟨o',items,n,(hs.2 a vN).trans tG,hc,uU,hi.keeps ho hd hs⟩
noncomputable def Bz(knd:mL prog w K):K ⊕ List K->Int
 | .inl k=>knd.hash k
 | .inr t=>tupleKeyHash knd t
noncomputable def Cz:K ⊕ List K->Nat
 | .inl _=>1
 | .inr t=>t.length+1
def Sk(ks:NK K):Nat:=(ks.map Cz).sum+1
def Rv(knd:mL prog w K)(ks:NK K):Int:=reduceHash (J6 (ks.map (Bz knd)))
variable {A:F3} {E:A3->A5->Prop} {s:A5}
theorem Qx{ks:NK K}{Q:Int->A5->Prop}(hu:A.units+1 < R3)(hk:ML knd s.heap ks a)(h:Q (Rv knd ks) { s with toks:=s.toks+Sk ks }) :
    B4 (C3 prog w) A (pyHash (.ref a)) Q E s:=by
  have hT:=hk.typeIs;obtain⟨o,items,n,ho,_,hd,hi⟩:=hk;unfold pyHash
  first | unfold pyHashByItsType | skip
  first | refine A0 (wpAny_cRoomFor_or (.inr (by omega)) ?_) | skip
  refine A0 (P9 hT F.slot_tuple_hash.lookup ?_)
  show B4 _ _ (if(some (Z4 "tuple.__hash__") == some I9)=true then _ else _) Q E s
  rw[if_neg (by rw[beq_builtin_none];exact C6)];refine A0 (P9 hT F.slot_tuple_hash.lookup ?_)
  show B4 _ _ (callSpecialIfBoundUnlessNone? (.ref a) "__hash__" _ >>= _) Q E s
  refine A0 (wpAny_callSpecialIfBoundUnlessNone?_slot hT F.slot_tuple_hash (K4 F.slot_tuple_hash hT F.entry_tuple_hash ?_ (F.args_tuple_hash_1 _)));show B4 _ _ (N1 (.ref a) >>= _) _ _ s;refine A0 (X6 ho hd ?_);refine A0 ?_;rw[<- X7];refine V1 _
    (fun rest (b:Array Int) s'=>∃done left,ks=done++left/\qu knd s.heap left rest/\b.toList=done.map (Bz knd)/\s'={ s with toks:=s.toks+(done.map Cz).sum })
    _ ?_ ?_ _ _ ⟨[],ks,rfl,hi,rfl,rfl⟩
  · rintro x rest b s' ⟨done,left,rfl,hl,hb,rfl⟩;cases hl with
    | @sc k _ ve _ h1 sS =>
      refine A0 (knd.pyHash h1 ?_);have e:{ s with toks:=s.toks+(done.map Cz).sum+1 }={ s with toks:=s.toks+((done++[Sum.inl k]).map Cz).sum }:=by
        simp[Cz,Z5]
      first
        | exact A7 ⟨done++[.inl k],ve,by simp,sS,by simp[hb,Bz],e⟩
        | exact A0 (A7 (A7 ⟨done++[.inl k],ve,by simp,sS,by simp[hb,Bz],e⟩))
    | @tp t a' ve _ h1 sS =>
      have e:{ s with toks:=s.toks+(done.map Cz).sum+(t.length+1) }={ s with toks:=s.toks+((done++[Sum.inr t]).map Cz).sum }:=by
        simp[Cz,Z5]
      refine A0 (wpAny_pyHash_tuple (knd:=knd) hu h1 ?_)
      first
        | exact A7 ⟨done++[.inr t],ve,by simp,sS,by simp[hb,Bz],e⟩
        | exact A0 (A7 (A7 ⟨done++[.inr t],ve,by simp,sS,by simp[hb,Bz],e⟩))
  · rintro b s' ⟨done,left,rfl,hl,hb,rfl⟩;cases hl;rw[F8] at h;show B4 _ _ (retInt (J6 b.toList)) _ _ _;rw[hb];refine wpAny_ret_mkInt ?_;show B4 _ _ (if(decide (-(2:Int) ^ 63<=J6 (done.map (Bz knd))) && decide (J6 (done.map (Bz knd)) < 2 ^ 63))=true then _ else _) Q E _;unfold Rv reduceHash Sk at h
    by_cases hr:(decide (-(2:Int) ^ 63<=J6 (done.map (Bz knd))) && decide (J6 (done.map (Bz knd)) < 2 ^ 63))=true
    · rw[if_pos hr];rw[if_pos hr] at h;exact A7 (by simpa[Z5] using h)
    · rw[if_neg hr];rw[if_neg hr] at h;exact A0 (V2 (A7 (by simpa[Z5] using h)))
theorem IsTupleKey.isT{t:List K}(x:IsTupleKey knd h t a):∃items,h.IsTuple a items:=let ⟨o,items,n,ho,hc,hd,_⟩:=x;⟨items,o,ho,hc,n,hd⟩
theorem WW{k1 k2:K ⊕ List K}{u v:A3}{xs ys:List A3}{x y:NK K}(ap:Apart knd)(hu:A.units < R3)(hx:qu knd s.heap (k1::x) (u::xs))(hy:qu knd s.heap (k2::y) (v::ys))(h:Q (decide (k1=k2)) s):B4 (C3 prog w) A (eqBool u v) Q E s:=by
 cases hx with
 | @sc a _ _ _ h1 _ =>
  cases hy with
  | @sc b _ _ _ h2 _ =>
   refine knd.eqBool h1 h2 ?_;have:decide (a=b)=decide ((Sum.inl a:K ⊕ List K)=Sum.inl b):=by by_cases e:a=b<;>simp[e]
   rw[this];exact h
  | @tp t b _ _ h2 _ =>
   obtain⟨pS,hi⟩:=IsTupleKey.isT h2;refine ap.l hu h1 hi ?_;have:decide ((Sum.inl a:K ⊕ List K)=Sum.inr t)=false:=by simp
   rw[<- this];exact h
 | @tp t a _ _ h1 _ =>
  cases hy with
  | @sc b _ _ _ h2 _ =>
   obtain⟨pS,hi⟩:=IsTupleKey.isT h1;refine ap.r hu h2 hi ?_;have:decide ((Sum.inr t:K ⊕ List K)=Sum.inl b)=false:=by simp
   rw[<- this];exact h
  | @tp t' b _ _ h2 _ =>
   refine wpAny_eqBool_tuple (knd:=knd) hu h1 h2 ?_;have:decide (t=t')=decide ((Sum.inr t:K ⊕ List K)=Sum.inr t'):=by by_cases e:t=t'<;>simp[e]
   rw[this];exact h
theorem qu.tail{k:K ⊕ List K}{ks:NK K}{v:A3}{vs:List A3}(x:qu knd h (k::ks) (v::vs)):qu knd h ks vs:=by
 cases x with
 | sc _ t=>exact t
 | tp _ t=>exact t
theorem qu.split{ks:NK K}{v:A3}{vs:List A3}(x:qu knd h ks (v::vs)):∃k r,ks=k::r:=by
 cases x with
 | sc _ t=>exact⟨_,_,rfl⟩
 | tp _ t=>exact⟨_,_,rfl⟩
theorem qu.len{h:F1}:∀{ks:NK K} {vs:List A3},qu knd h ks vs->ks.length=vs.length
 | _,_,.nil=>rfl
 | _,_,.sc _ t=>by simp[t.len]
 | _,_,.tp _ t=>by simp[t.len]
theorem Kq{x y:NK K}{b:A8}{P:Fin->A5->Prop}(ap:Apart knd)(hu:A.units < R3)(hx:ML knd s.heap x a)(hy:ML knd s.heap y b)(h:P (.done (.ret (.bool (decide (x=y))))) s) :
    B4 (C3 prog w) A (oR.«tuple.__eq__» ⟨[.ref a,.ref b],[]⟩) P E s:=by
  have hTb:=hy.typeIs;obtain⟨oa,xs,na,hoa,_,hda,hia⟩:=hx;obtain⟨ob,ys,nb,hob,_,r9,hib⟩:=hy
  show B4 _ _ (X8 (.ref b) (.type "tuple") >>= _) _ _ s
  refine A0 (V3 hTb U8 ?_);simp only[F2,B2,if_false];refine A0 (X6 hoa hda ?_);refine A0 (X6 hob r9 ?_);refine A0 ?_;refine V1 _
    (fun rest r s'=>r.1=none/\s'=s/\∃x' y' wm v9,rest=List.zip wm v9/\qu knd s.heap x' wm/\qu knd s.heap y' v9/\decide (x'=y')=decide (x=y)/\(wm.length == v9.length)=(xs.size == ys.size))
    _ ?_ ?_ _ _ ⟨rfl,rfl,x,y,xs.toList,ys.toList,rfl,hia,hib,rfl,by simp⟩
  · rintro⟨u,v⟩ rest r s' ⟨hr,rfl,x',y',wm,v9,hz,vL,wW,vk,hlen⟩;cases wm with
    | nil=>simp at hz
    | cons u' zAF =>
      cases v9 with
      | nil=>simp at hz
      | cons v' zAE =>
        simp only[K2,List.cons.injEq,Prod.mk.injEq] at hz;obtain⟨⟨rfl,rfl⟩,rfl⟩:=hz;obtain⟨k1,x'',rfl⟩:=vL.split;obtain⟨k2,y'',rfl⟩:=wW.split;refine A0 (WW ap hu vL wW ?_)
        by_cases hk:k1=k2
        · subst hk;rw[decide_eq_true rfl];simp only[F2,B2,if_false];refine A7 ⟨rfl,rfl,x'',y'',zAF,zAE,rfl,vL.tail,wW.tail,?_,by simpa using hlen⟩;rw[<- vk]
          by_cases hxy:x''=y''
          · simp[hxy]
          · simp[hxy]
        · rw[decide_eq_false hk];simp only[T7,if_true];have hf:decide (x=y)=false:=by rw[<- vk];simp[hk]
          rw[hf] at h;exact A0 (A7 (A7 (A7 h)))
  · rintro⟨r1,r2⟩ s' ⟨hr,rfl,x',y',wm,v9,hz,vL,wW,vk,hlen⟩;simp only at hr;subst hr;refine A7 ?_;have zAe:(xs.size == ys.size)=decide (x=y):=by
      rw[<- vk,<- hlen];have lx:=vL.len;have ly:=wW.len;cases wm with
      | nil =>
        cases v9 with
        | nil =>
          cases vL;cases wW;simp
        | cons _ _ =>
          cases vL;obtain⟨k2,y'',rfl⟩:=wW.split;simp
      | cons _ _ =>
        cases v9 with
        | nil =>
          cases wW;obtain⟨k2,y'',rfl⟩:=vL.split;simp
        | cons _ _=>simp at hz
    show P (.done (.ret (.bool (xs.size == ys.size)))) s';rw[zAe];exact h
theorem Si{x y:NK K}{b:A8}(ap:Apart knd)(hu:A.units+1 < R3)(hx:ML knd s.heap x a)(hy:ML knd s.heap y b)(h:Q (decide (x=y)) s) :
    B4 (C3 prog w) A (eqBool (.ref a) (.ref b)) Q E s:=by
  unfold eqBool
  try with_reducible refine G7 ?_
  show B4 _ _ (if(D7 a == D7 b)=true then _ else _) Q E s
  by_cases vS:(D7 a == D7 b)=true
  · rw[if_pos vS];have e:a=b:=by have:=eq_of_beq vS;injection this
    subst e;obtain rfl:=hx.inj hy;exact A0 (V2 (A7 (by simpa using h)))
  · rw[if_neg vS];exact A0 (wpAny_richCompare_same_room (op:=.Eq) hx.typeIs hy.typeIs F.slot_tuple_eq
      (K4 F.slot_tuple_eq hx.typeIs F.entry_tuple_eq (Kq ap hu hx hy ⟨_,rfl,(fun e=>nomatch e),G4 h⟩) (F.args_tuple_eq_2 _ _)) (by omega))
theorem VF{n:Nat}{ks:List K}(hk:IsTupleKey knd s.heap ks a)(h:Q true s):B4 (C3 prog w) A (nP (n+1) (.ref a)) Q E s:=by
 have hT:=hk.typeIs;obtain⟨o,items,nn,ho,_,hd,hi⟩:=hk;unfold nP;refine A0 (P9 hT F.slot_tuple_eq.lookup ?_)
 show B4 _ _ (X8 (.ref a) (.type "tuple") >>= _) _ _ s
 refine A0 (V3 hT U8 ?_);simp only[F2,B2,if_false];refine A0 (K8 ho hd ?_);refine A0 ?_;show B4 _ _ (forIn items _ _) _ _ s;rw[<- X7];refine V1 _ (fun rest r s'=>r.1=none/\s'=s/\∀v∈rest,carriedByValue v=true) _ ?_ ?_ _ _ ⟨rfl,rfl,hi.byValue⟩
 ·rintro v rest r s' ⟨hr,rfl,uK⟩;rw[mw _ (uK v B8)];refine A0 (A7 ?_);simp only[F2,B2,if_false];exact A7 ⟨rfl,rfl,fun u hu'=>uK u (B5 _ hu')⟩
 ·rintro⟨r1,r2⟩ s' ⟨hr,rfl,_⟩;simp only at hr;subst hr;exact A7 h
theorem VG{ks:NK K}(hk:ML knd s.heap ks a)(h:Q true s):B4 (C3 prog w) A (nP 8 (.ref a)) Q E s:=by
 have hT:=hk.typeIs;obtain⟨o,items,nn,ho,_,hd,hi⟩:=hk;unfold nP;refine A0 (P9 hT F.slot_tuple_eq.lookup ?_)
 show B4 _ _ (X8 (.ref a) (.type "tuple") >>= _) _ _ s
 refine A0 (V3 hT U8 ?_);simp only[F2,B2,if_false];refine A0 (K8 ho hd ?_);refine A0 ?_;show B4 _ _ (forIn items _ _) _ _ s;rw[<- X7];refine V1 _ (fun rest r s'=>r.1=none/\s'=s/\∃l,qu knd s.heap l rest) _ ?_ ?_ _ _ ⟨rfl,rfl,ks,hi⟩
 ·rintro v rest r s' ⟨hr,rfl,l,hl⟩;cases hl with
  | @sc k _ ve _ h1 t =>
   rw[mw _ (knd.byValue _ _ h1)];refine A0 (A7 ?_);simp only[F2,B2,if_false];exact A7 ⟨rfl,rfl,ve,t⟩
  | @tp t' a' ve _ h1 t =>
   refine A0 (VF (n:=6) h1 ?_);simp only[F2,B2,if_false];exact A7 ⟨rfl,rfl,ve,t⟩
 ·rintro⟨r1,r2⟩ s' ⟨hr,rfl,_⟩;simp only at hr;subst hr;exact A7 h
end
def Rb{prog:E2}{w:F6}{K:Type} [DecidableEq K] (knd:mL prog w K) (ap:Apart knd):HeapKind prog w (NK K) where
 is:=ML knd
 hash:=Rv knd
 draws:=Sk
 room:=fun A=>A.units+1 < R3
 inj:=fun hx hy=>hx.inj hy
 keeps:=fun x ho hd hs=>x.keeps ho hd hs
 pyHash:=fun hu hk h=>Qx hu hk h
 eqBool:=fun hu hx hy h=>Si ap hu hx hy h
 quiet:=fun hk h=>VG hk h
end L2
namespace L2
open PySem PySem.Spec PyProof.Rows
noncomputable abbrev BK:=Sum Int Str
def Hg:BK->A3->Bool
 | .inl k,v=>pG k v
 | .inr x,v=>oy x v
def jA(w:F6):BK->Int
 | .inl k=>hashInt k
 | .inr x=>hashStr w x
theorem AX:∀{k:BK} {v:A3},Hg k v=true->(∃i t,k=Sum.inl i/\v=mM i t)\/(∃x t,k=Sum.inr x/\v=mN x t)
 | .inl i,v,h=>by
  obtain⟨t,e⟩:=Value.isInt_shape (k:=i) (v:=v) h;exact .inl ⟨i,t,rfl,e⟩
 | .inr x,v,h=>by
  obtain⟨t,e⟩:=Value.isStrOf_shape (x:=x) (v:=v) h;exact .inr ⟨x,t,rfl,e⟩
theorem OZ(i:Int)(t:Tok):Hg (.inl i) (.int i t)=true:=by simp[Hg,pG]
theorem OY(x:Str)(t:Tok):Hg (.inr x) (.str x t)=true:=by simp[Hg,oy]
theorem af(a b:Int):decide ((Sum.inl a:BK)=Sum.inl b)=(a == b):=by
 by_cases e:a=b
 ·subst e;simp
 ·have h:¬(Sum.inl a:BK)=Sum.inl b:=fun q=>e (Sum.inl.inj q)
  rw[decide_eq_false h];exact(beq_eq_false_iff_ne.mpr e).symm
theorem aZ(a b:Str):decide ((Sum.inr a:BK)=Sum.inr b)=decide (a=b):=by
 by_cases e:a=b
 ·subst e;simp
 ·have h:¬(Sum.inr a:BK)=Sum.inr b:=fun q=>e (Sum.inr.inj q)
  rw[decide_eq_false h,decide_eq_false e]
theorem ae(a:Int)(b:Str):decide ((Sum.inl a:BK)=Sum.inr b)=false:=decide_eq_false (fun q=>nomatch q)
theorem aa(a:Str)(b:Int):decide ((Sum.inr a:BK)=Sum.inl b)=false:=decide_eq_false (fun q=>nomatch q)
def Au(prog:E2)(w:F6):PySem.KeyKind prog w BK where
 is:=Hg
 hash:=jA w
 inj:=fun v a b ha hb=>by
  rcases AX ha with⟨i,t,rfl,rfl⟩ | ⟨x,t,rfl,rfl⟩
  ·rcases AX hb with⟨j,u,rfl,e⟩ | ⟨y,u,rfl,e⟩
   ·injection e with e1 _;rw[e1]
   ·exact nomatch e
  ·rcases AX hb with⟨j,u,rfl,e⟩ | ⟨y,u,rfl,e⟩
   ·exact nomatch e
   ·injection e with e1 _;rw[e1]
 byValue:=fun k v h=>by
  rcases AX h with⟨i,t,rfl,rfl⟩ | ⟨x,t,rfl,rfl⟩<;>rfl
 pyHash:=fun hv h=>by
  rcases AX hv with⟨i,t,rfl,rfl⟩ | ⟨x,t,rfl,rfl⟩
  ·exact wpAny_pyHash_int h
  ·exact wpAny_pyHash_str h
 eqBool:=fun hu hv h=>by
  rcases AX hu with⟨i,t,rfl,rfl⟩ | ⟨x,t,rfl,rfl⟩
  ·rcases AX hv with⟨j,u,rfl,rfl⟩ | ⟨y,u,rfl,rfl⟩
   ·rw[af] at h;exact wpAny_eqBool_int h
   ·rw[ae] at h;exact mY i t y u _ _ _ _ h
  ·rcases AX hv with⟨j,u,rfl,rfl⟩ | ⟨y,u,rfl,rfl⟩
   ·rw[aa] at h;exact mZ x t j u _ _ _ _ h
   ·rw[aZ] at h;exact wpAny_eqBool_str h
 «strs»:=fun k x t v h=>by
  rcases AX h with⟨i,u,rfl,e⟩ | ⟨y,u,rfl,e⟩
  ·exact nomatch e
  ·injection e with e1 _
   subst e1;cases v<;>rfl
theorem OS(prog:E2)(w:F6):Apart (Au prog w) where
 l:=fun hu hk ht h=>by
  rcases AX hk with⟨i,t,rfl,rfl⟩ | ⟨x,t,rfl,rfl⟩
  ·exact SeqAt.EqAt.int_tuple i t ht hu _ _ _ _ h
  ·exact SeqAt.EqAt.str_tuple x t ht hu _ _ _ _ h
 r:=fun hu hk ht h=>by
  rcases AX hk with⟨i,t,rfl,rfl⟩ | ⟨x,t,rfl,rfl⟩
  ·exact SeqAt.EqAt.tuple_int i t ht hu _ _ _ _ h
  ·exact SeqAt.EqAt.tuple_str x t ht hu _ _ _ _ h
theorem Jb(prog:E2)(w:F6)(i:Int)(t:Tok):(Au prog w).is (.inl i) (.int i t)=true:=OZ i t
theorem Ja(prog:E2)(w:F6)(x:Str)(t:Tok):(Au prog w).is (.inr x) (.str x t)=true:=OY x t
set_option genInjectivity true in
inductive V where
 | pX | bl (b:Bool) | int (i:Int) | str (x:Str) | wj (b:Array UInt8) | tJ (b:UInt64) | ref (a:A8) | ty (n:String)
 deriving DecidableEq
def RelV:V->A3->Prop
 | .pX,u=>u=I9
 | .bl b,u=>u=ma b
 | .int i,u=>∃t,u=mM i t
 | .str x,u=>∃t,u=mN x t
 | .wj b,u=>∃t,u=pH b t
 | .tJ b,u=>∃t,u=nv b t
 | .ref a,u=>u=D7 a
 | .ty n,u=>u=X9 n
abbrev AG:List V->List A3->Prop:=Paired RelV
variable {us:List A3}
theorem AG.length{xs:List V}(r:AG xs us):xs.length=us.length:=Paired.length r
theorem AG.get:∀{xs:List V} {us:List A3} {i:Nat} {x:V},AG xs us->xs[i]?=some x->∃u,us[i]?=some u/\RelV x u
 | _,_,_,_,.nil,e=>by simp at e
 | _,_,0,_,.cons r _,e=>by simp at e;subst e;exact⟨_,rfl,r⟩
 | _,_,i+1,x,.cons _ t,e=>by
  obtain⟨u,h1,h2⟩:=AG.get (i:=i) (x:=x) t (by simpa using e);exact⟨u,by simpa using h1,h2⟩
theorem AG.set{x:V}{u:A3}(r:RelV x u):∀{xs:List V} {us:List A3} (i:Nat),AG xs us->AG (xs.set i x) (us.set i u)
 | _,_,_,.nil=>.nil
 | _,_,0,.cons _ t=>.cons r t
 | _,_,i+1,.cons q t=>.cons q (AG.set r i t)
theorem AG.append:∀{xs ys:List V} {us ws:List A3},AG xs us->AG ys ws->AG (xs++ys) (us++ws)
 | _,_,_,_,.nil,s=>s
 | _,_,_,_,.cons r t,s=>.cons r (AG.append t s)
theorem AG.take:∀{xs:List V} {us:List A3} (n:Nat),AG xs us->AG (xs.take n) (us.take n)
 | _,_,0,_=>.nil
 | _,_,_+1,.nil=>.nil
 | _,_,n+1,.cons r t=>.cons r (AG.take n t)
theorem AG.drop:∀{xs:List V} {us:List A3} (n:Nat),AG xs us->AG (xs.drop n) (us.drop n)
 | _,_,0,r=>r
 | _,_,_+1,.nil=>.nil
 | _,_,n+1,.cons _ t=>AG.drop n t
def Gh:Option V->Option A3->Prop
 | some v,some u=>RelV v u
 | none,none=>True
 | _,_=>False
def KV{κ:Type}:List (κ×V)->List (κ×A3)->Prop:=Paired fun(p:κ×V) (q:κ×A3)=>p.1=q.1/\RelV p.2 q.2
def kV:BK->V
 | .inl i=>.int i
 | .inr x=>.str x
inductive HO where
 | lst (xs:List V)
 | tup (xs:List V)
 | dK (pW:List (BK×V)) | dT (pW:List (List BK×V)) | dN (pW:List (NK BK×V))
 | set (S:Int->Bool) (n:Nat)
 | ins (C dx:A8) (fs:List (Str×V))
 | own (x:A8)
 | xd (fs:List (Str×V))
 | met (f x:A8)
 | rng (lo hi:Int)
 | sU (o:Obj) (u:HO)
 | wo (ps:Array A3)
 | ext (φ:F1->Prop)
noncomputable abbrev Hp:=A8->Option HO
def Yj(H:Hp):NK BK->List V->Prop
 | [],vs=>vs=[]
 | .inl k::ks,vs=>∃r,vs=kV k::r/\Yj H ks r
 | .inr t::ks,vs=>∃c r,vs=.ref c::r/\H c=some (.tup (t.map kV))/\Yj H ks r
def dC(H:Hp)(k:NK BK)(b:A8):Prop:=∃vs,H b=some (.tup vs)/\Yj H k vs
theorem Yj.keeps{H H':Hp}(ht:∀b xs,H b=some (.tup xs)->H' b=some (.tup xs)):∀{k:NK BK} {vs:List V},Yj H k vs->Yj H' k vs
 | [],_,h=>h
 | .inl _::ks,_,⟨r,e,h⟩=>⟨r,e,Yj.keeps ht h⟩
 | .inr _::ks,_,⟨c,r,e,h1,h⟩=>⟨c,r,e,ht _ _ h1,Yj.keeps ht h⟩
variable {H:Hp} {b:A8}
theorem dC.keeps{H':Hp}(ht:∀b xs,H b=some (.tup xs)->H' b=some (.tup xs)){k:NK BK}(h:dC H k b):dC H' k b:=let ⟨vs,e,n⟩:=h;⟨vs,ht _ _ e,n.keeps ht⟩
def upd(H:Hp)(a:A8)(o:HO):Hp:=fun b=>if b=a then some o else H b
variable {a:A8} {o:HO}
theorem AM:upd H a o a=some o:=by unfold upd;rw[if_pos rfl]
theorem AE(h:b≠a):upd H a o b=H b:=by unfold upd;rw[if_neg h]
theorem AR(h:H a=some o)(h':H b=none):a≠b:=by
 intro e;subst e;rw[h] at h';cases h'
def Gu(h:F1)(a:A8)(items:Array A3):Prop:=∃o,h.get? a=some o/\o.cls=.type "tuple" /\ o.dict=none/\∃n,o.data=.seq items n
variable {h:F1}
theorem Gu.tup{items:Array A3}(x:Gu h a items):IsTup h a items:=let ⟨o,e,c,_,d⟩:=x;⟨o,e,c,d⟩
theorem Gu.new(h:F1)(items:Array A3):Gu (h.push { cls:=.type "tuple", data:=.seq items }) h.objs.size items:=⟨_,D1 _ rfl,rfl,rfl,_,rfl⟩
section
variable (P:E2) (w:F6)
def Ab(H:Hp)(h:F1)(a:A8):HO->Prop
  | .lst xs=>xs.length<=sizeLine/\∃(pS:List A3) (n:Nat),AG xs pS/\h.get? a=some { cls:=.type "list", data:=.seq pS.toArray n }
  | .tup xs=>xs.length<=sizeLine/\∃pS:List A3,AG xs pS/\Gu h a pS.toArray
  | .dK pW=>pW.length<=sizeLine/\(a == T1)=false/\∃vs,KV pW vs/\h.DictOf (Au P w) a vs
  | .dT pW=>pW.length<=sizeLine/\(a == T1)=false/\∃xs:List (List BK×A8×A3),
      Paired (fun(p:List BK×V) (q:List BK×A8×A3)=>p.1=q.1/\H q.2.1=some (.tup (p.1.map kV))/\RelV p.2 q.2.2) pW xs /\
      ∃o es ep,h.get? a=some o/\o.ExactDict/\o.data=.dict es ep/\es.toList=xs.map (entryOfKey (nQ (Au P w)))/\(xs.map (·.1)).Nodup
  | .dN pW=>pW.length<=sizeLine/\(a == T1)=false/\∃xs:List (NK BK×A8×A3),
      Paired (fun(p:NK BK×V) (q:NK BK×A8×A3)=>p.1=q.1/\dC H p.1 q.2.1/\RelV p.2 q.2.2) pW xs /\
      ∃o es ep,h.get? a=some o/\o.ExactDict/\o.data=.dict es ep/\es.toList=xs.map (entryOfKey (Rb (Au P w) (OS P w)))/\(xs.map (·.1)).Nodup
  | .set S n=>h.SetOf (intKind P w) a S n
  | .ins C dx fs=>H dx=some (.own a)/\fs.length<=1000/\dx≠a/\h.get? a=some (W.instObj C dx) /\
      ∃mA,h.Ns1 dx mA/\(∀f,Gh (fs.lookup f) (mA f))/\o8 mA (fs.map (·.1))
  | .own _=>∃o,h.get? a=some o
  | .xd fs=>∃mA,h.Ns1 a mA/\∀f,Gh (fs.lookup f) (mA f)
  | .rng lo hi=>∃t u v,h.get? a=some { cls:=.type "range", data:=.fields #[.int lo t,.int hi u,.int 1 v] }
  | .sU o u=>h.get? a=some o/\Ab H h a u
  | .wo ps=>h.get? a=some { cls:=.none,data:=.fields ps }
  | .met f x=>h.get? a=some (W.methodObj (.ref f) (.ref x))
  | .ext φ=>φ h/\(∃o,h.get? a=some o)/\∀h1 h2:F1,φ h1->(∀o,h1.get? a=some o->h2.get? a=some o)->φ h2
def DT(H:Hp)(h:F1):Prop:=∀a o,H a=some o->Ab P w H h a o
end
section
variable {P:E2} {w:F6} {H H':Hp} {h h':F1} {a:A8} {o:HO}
theorem Ab.lt(x:Ab P w H h a o):a < h.objs.size:=by
 cases o with
 | lst xs=>obtain⟨_,_,_,_,e⟩:=x;exact B7 e
 | tup xs=>obtain⟨_,_,_,p⟩:=x;exact p.tup.lt
 | dK pW=>obtain⟨_,_,_,_,o,_,_,e,_⟩:=x;exact B7 e
 | dT pW=>obtain⟨_,_,_,_,o,_,_,e,_⟩:=x;exact B7 e
 | dN pW=>obtain⟨_,_,_,_,o,_,_,e,_⟩:=x;exact B7 e
 | set S n=>obtain⟨o,_,_,_,e,_⟩:=x;exact B7 e
 | ins C dx fs=>obtain⟨_,_,_,e,_⟩:=x;exact B7 e
 | own y=>obtain⟨_,e⟩:=x;exact B7 e
 | xd fs=>obtain⟨_,⟨_,_,_,e,_⟩,_⟩:=x;exact B7 e
 | rng lo hi=>obtain⟨_,_,_,e⟩:=x;exact B7 e
 | sU ob u=>obtain⟨e,_⟩:=x;exact B7 e
 | wo ps=>exact B7 (show h.get? a=some _ from x)
 | met f y=>exact B7 (show h.get? a=some _ from x)
 | ext φ=>obtain⟨_,⟨_,e⟩,_⟩:=x;exact B7 e
theorem Paired.xE{α β:Type}{F G:α->β->Prop}:∀{l₁:List α} {l₂:List β},Paired F l₁ l₂->(∀a b,F a b->G a b)->Paired G l₁ l₂
 | _,_,.nil,_=>.nil
 | _,_,.cons r t,f=>.cons (f _ _ r) (Paired.xE t f)
theorem Ab.rq(x:Ab P w H h a o)(k:∀b u,(b=a\/H b=some (.own a))->h.get? b=some u->h'.get? b=some u)
    (ho:∀b,H b=some (.own a)->H' b=some (.own a)) (ht:∀b xs,H b=some (.tup xs)->H' b=some (.tup xs)):Ab P w H' h' a o:=by
  induction o with
  | lst xs=>obtain⟨z,pS,n,r,e⟩:=x;exact⟨z,pS,n,r,k _ _ (.inl rfl) e⟩
  | tup xs=>obtain⟨z,pS,r,ob,e,c⟩:=x;exact⟨z,pS,r,ob,k _ _ (.inl rfl) e,c⟩
  | dK pW=>obtain⟨z,y,vs,r,ob,es,ep,e,c⟩:=x;exact⟨z,y,vs,r,ob,es,ep,k _ _ (.inl rfl) e,c⟩
  | dT pW =>
    obtain⟨z,y,xs,r,ob,es,ep,e,c⟩:=x;exact⟨z,y,xs,Paired.xE r fun p q z=>⟨z.1,ht _ _ z.2.1,z.2.2⟩,ob,es,ep,k _ _ (.inl rfl) e,c⟩
  | dN pW =>
    obtain⟨z,y,xs,r,ob,es,ep,e,c⟩:=x;exact⟨z,y,xs,Paired.xE r fun p q z=>⟨z.1,z.2.1.keeps ht,z.2.2⟩,ob,es,ep,k _ _ (.inl rfl) e,c⟩
  | set S n=>obtain⟨ob,es,ep,t,e,c⟩:=x;exact⟨ob,es,ep,t,k _ _ (.inl rfl) e,c⟩
  | ins C dx fs =>
    obtain⟨d,z,ne,e,mA,⟨od,es,ep,e2,c⟩,r⟩:=x;exact⟨ho _ d,z,ne,k _ _ (.inl rfl) e,mA,⟨od,es,ep,k _ _ (.inr d) e2,c⟩,r⟩
  | own y=>obtain⟨ob,e⟩:=x;exact⟨ob,k _ _ (.inl rfl) e⟩
  | xd fs=>obtain⟨mA,⟨od,es,ep,e,c⟩,r⟩:=x;exact⟨mA,⟨od,es,ep,k _ _ (.inl rfl) e,c⟩,r⟩
  | rng lo hi=>obtain⟨t,u,v,e⟩:=x;exact⟨t,u,v,k _ _ (.inl rfl) e⟩
  | sU ob u ih=>obtain⟨e,q⟩:=x;exact⟨k _ _ (.inl rfl) e,ih q⟩
  | wo ps =>
    have e:h.get? a=some { cls:=.none,data:=.fields ps }:=x;show h'.get? a=some { cls:=.none,data:=.fields ps };exact k a _ (.inl rfl) e
  | met f y =>
    have e:h.get? a=some (W.methodObj (.ref f) (.ref y)):=x;show h'.get? a=some (W.methodObj (.ref f) (.ref y));exact k a _ (.inl rfl) e
  | ext φ=>obtain⟨p,⟨o,e⟩,st⟩:=x;exact⟨st _ _ p fun o q=>k _ _ (.inl rfl) q,⟨o,k _ _ (.inl rfl) e⟩,st⟩
theorem DT.lt(x:DT P w H h)(e:H a=some o):a < h.objs.size:=(x a o e).lt
theorem DT.fresh(x:DT P w H h)(e:h.objs.size<=a):H a=none:=by
 cases q:H a with
 | none=>rfl
 | some u=>exact absurd (B3 (x.lt q) e) (H8 _)
theorem DT.kept(x:DT P w H h)(k:∀b u,h.get? b=some u->h'.get? b=some u):DT P w H h':=fun a o e =>
 (x a o e).rq (fun b u _ q=>k b u q) (fun _ q=>q) fun _ _ q=>q
theorem DT.laid(x:DT P w H h)(k:∀b u,h.get? b=some u->h'.get? b=some u)(hp:h.objs.size<=a)(new:Ab P w (upd H a o) h' a o):DT P w (upd H a o) h':=fun b u e=>by
 have hn:=x.fresh hp
 by_cases hb:b=a
 ·subst hb;rw[AM] at e;cases e;exact new
 ·rw[AE hb] at e;exact(x b u e).rq (fun c v _ q=>k c v q) (fun c q=>by rw[AE (AR q hn)];exact q) fun c xs q=>by rw[AE (AR q hn)];exact q
end
def Rd(H:Hp)(a:A8)(u:HO):Prop:=H a=some u\/∃o,H a=some (.sU o u)
variable {P:E2} {w:F6}
theorem Rd.ok{u:HO}(r:Rd H a u)(x:DT P w H h):Ab P w H h a u:=by
 rcases r with r | ⟨o,r⟩
 ·exact x a u r
 ·obtain⟨_,q⟩:=x a _ r;exact q
def gy:Option HO->Prop
 | some (.lst _)=>True
 | some (.dK _)=>True
 | some (.dT _)=>True
 | some (.dN _)=>True
 | some (.set _ _)=>True
 | some (.ins _ _ _)=>True
 | some (.ext _)=>True
 | _=>False
section
variable {P:E2} {w:F6} {H:Hp} {h h':F1} {x e:A8} {o':HO}
theorem DT.write(ok:DT P w H h)(mu:gy (H x))(he:e=x\/H e=some (.own x))(k:∀b u,b≠e->h.get? b=some u->h'.get? b=some u)(yF:∃u,h'.get? e=some u)
    (new:Ab P w (upd H x o') h' x o'):DT P w (upd H x o') h':=fun b u q=>by
  have ym:∀c y,H c=some (.own y)->c≠x:=fun c y r z=>by subst z;rw[r] at mu;exact mu
  have zAL:∀c xs,H c=some (.tup xs)->c≠x:=fun c xs r z=>by subst z;rw[r] at mu;exact mu
  by_cases hb:b=x
  · subst hb;rw[AM] at q;cases q;exact new
  · rw[AE hb] at q
    by_cases ql:b=e
    · have q':H b=some (.own x):=by
        rcases he with z | z
        · exact absurd (ql.trans z) hb
        · rw[ql];exact z
      rw[q] at q';cases q';obtain⟨v,hv⟩:=yF;exact⟨v,by rw[ql];exact hv⟩
    · refine(ok b u q).rq (fun c v hc r=>k c v ?_ r) (fun c r=>by rw[AE (ym c b r)];exact r) fun c xs r=>by rw[AE (zAL c xs r)];exact r
      rcases hc with rfl | hc
      · exact ql
      · rintro rfl;rcases he with z | z
        · exact ym c b hc z
        · rw[hc] at z;cases z;exact hb rfl
end
structure Un (fs ex:List A8) (H H':Hp) (h h':F1):Prop where
 keep:∀b o,h.get? b=some o->H b=none->b∉fs->b∉ex->h'.get? b=some o
 slot:∀b o,h.get? b=some o->H b=none->b∈fs->b∉ex->∃sl,h'.get? b=some { o with slots:=sl }
 free:∀b o,h.get? b=some o->H b=none->b∉ex->H' b=none
 there:∀b o,h.get? b=some o->b∉ex->∃o',h'.get? b=some o'
 rL:∀b xs,H b=some (.tup xs)->H' b=some (.tup xs)
 rE:∀b o u,H b=some (.sU o u)->H' b=some (.sU o u)
 rM:∀b ps,H b=some (.wo ps)->∃more,H' b=some (.wo (ps++more))
section
variable {fs uM ex ex':List A8} {H H1 H2:Hp} {h h1 h2 h':F1} {a x e:A8} {o:HO}
theorem Un.any(u:Un fs ex H H1 h h1){ob:Obj}(q:h.get? b=some ob)(n:H b=none)(hx:b∉ex):∃sl,h1.get? b=some { ob with slots:=sl }:=by
 by_cases hb:b∈fs
 ·exact u.slot b ob q n hb hx
 ·exact⟨ob.slots,u.keep b ob q n hb hx⟩
theorem Un.kept(k:∀b u,h.get? b=some u->h'.get? b=some u):Un fs ex H H h h':=
 ⟨fun b ob q _ _ _=>k b ob q,fun b ob q _ _ _=>⟨ob.slots,k b ob q⟩,fun _ _ _ n _=>n,fun b ob q _=>⟨ob,k b ob q⟩,fun _ _ q=>q,fun _ _ _ q=>q,fun _ ps q=>⟨#[],by rw[q];simp⟩⟩
theorem Un.refl:Un fs ex H H h h:=Un.kept fun _ _ q=>q
theorem Un.laid(k:∀b u,h.get? b=some u->h'.get? b=some u)(hp:h.objs.size<=a)(hn:H a=none):Un fs ex H (upd H a o) h h' where
 keep:=fun b u q _ _ _=>k b u q
 slot:=fun b u q _ _ _=>⟨u.slots,k b u q⟩
 free:=fun b u q n _=>by rw[AE (D3 (B3 (B7 q) hp))];exact n
 there:=fun b u q _=>⟨u,k b u q⟩
 rL:=fun b xs q=>by rw[AE (AR q hn)];exact q
 rE:=fun b u xs q=>by rw[AE (AR q hn)];exact q
 rM:=fun b ps q=>⟨#[],by rw[AE (AR q hn),q];simp⟩
theorem Un.write(mu:gy (H x))(he:e=x\/H e=some (.own x))(k:∀b u,b≠e->h.get? b=some u->h'.get? b=some u)(yF:∃u,h'.get? e=some u):Un fs ex H (upd H x o) h h':=by
 have hx:∀b,H b=none->b≠x:=fun b n z=>by subst z;rw[n] at mu;exact mu
 have hb:∀b,H b=none->b≠e:=fun b n z=>by
  subst z;rcases he with r | r
  ·exact hx b n r
  ·rw[n] at r;cases r
 have hm:∀b u,H b=some u->¬gy (some u)->b≠x:=fun b u q nm z=>by subst z;rw[q] at mu;exact nm mu
 refine⟨fun b u q n _ _=>k b u (hb b n) q,fun b u q n _ _=>⟨u.slots,k b u (hb b n) q⟩,fun b u q n _=>by rw[AE (hx b n)];exact n,fun b u q _=>?_,
  fun b xs q=>by rw[AE (hm b _ q fun z=>z)];exact q,fun b u xs q=>by rw[AE (hm b _ q fun z=>z)];exact q,fun b ps q=>⟨#[],by rw[AE (hm b _ q fun z=>z),q];simp⟩⟩
 by_cases ql:b=e
 ·subst ql;exact yF
 ·exact⟨u,k b u ql q⟩
end
def iF(h:F1)(H:Hp):List A8:=(C2 h.objs.size).filter fun a=>(H a).isSome
def IT(h:F1)(H:Hp):F1:=W.hideAll h (iF h H)
theorem Og(h:F1)(H:Hp):(IT h H).objs.size=h.objs.size:=W.hideAll_size _ _
theorem Ru{o:Obj}(e:h.get? b=some o)(n:H b=none):(IT h H).get? b=some o:=
 W.hideAll_get _ e fun hm=>by
  have q:(H b).isSome=true:=(Q0.mp hm).2;rw[n] at q;simp at q
theorem Vr{o:Obj}(e:(IT h H).get? b=some o):h.get? b=some o/\H b=none:=by
 have e':h.get? b=some o:=W.of_hideAll (iF h H) e;refine⟨e',?_⟩;cases q:H b with
 | none=>rfl
 | some x =>
  have hm:b∈iF h H:=Q0.mpr ⟨N2.mpr (B7 e'),by simp[q]⟩;have z:(IT h H).get? b=none:=W.hideAll_none (iF h H) hm;rw[z] at e;cases e
noncomputable def XN(g h:F1)(L:A8):List (A8×Obj):=(C2 h.objs.size).filterMap fun a=>if a=L\/(g.get? a).isSome=true then none else(h.get? a).map fun o=>(a,o)
def rest(g h:F1)(L d:A8):List (A8×Obj):=(XN g h L).filter fun p=>decide (p.1≠d)
structure Mod (K:W.Frag) (mg:Str->Option A3) (base:F1):Prop where
 yw:K.In base
 glob:base.Ns I0 mg
 blt:∃mb,base.Ns oV mb/\∀x:Str,x ≠ "__name__" -> mb x=O3 x
 nolimit:base.NoLimit
structure Cx where
 prog:E2
 w:F6
 K:W.Frag
 mg:Str->Option A3
 base:F1
 A:F3
 N:List Str
 pz:A5
 H₀:Hp
 env:Env
 outer:List Env
 stack:List Env
 ex:List A8
 fn:Str->Bool
 calm:Bool
 pn:List (A8×Obj)
 xe:A3->A5->Prop
noncomputable def FQ(l:List Env):List A8:=l.filterMap (·.frame)
abbrev Cx.fs(X:Cx):List A8:=FQ X.outer
def gw(sc:K0)(x:Str):Prop:=sc.names.lookup x=some .local\/sc.names.lookup x=some .cell\/sc.names.lookup x=some .free
def Loc(sc:K0)(x:Str):Prop:=sc.names.lookup x=some .local\/sc.names.lookup x=some .cell
def Look(env:Env)(h:F1)(m:Str->Option A3)(x:Str)(u:A3):Prop:=
 (env.kindOf x=some .local/\m x=some u)\/((env.kindOf x=some .cell\/env.kindOf x=some .free)/\∃c,env.cells.lookup x=some c/\h.IsCell c (some u))
structure Cx.Ok (X:Cx):Prop where
 mod:Mod X.K X.mg X.base
 kind:X.env.scope.kind=.function
 glob:X.env.globals=I0
 blt:X.env.builtins=oV
 above:X.pz.heap.objs.size<=X.env.locals
 inj:∀x y c,X.env.cells.lookup x=some c->X.env.cells.lookup y=some c->x=y
 has:∀x,(X.env.kindOf x=some .cell\/X.env.kindOf x=some .free)->∃c,X.env.cells.lookup x=some c
 xn:∀x c,X.fn x=true->X.env.cells.lookup x=some c->X.pz.heap.objs.size<=c
 hd:X.calm=true->X.A.handled=none
 frames:X.A.frames=some X.stack
 xx:X.stack=X.outer\/(X.stack=X.env::X.outer/\X.env.frame=some X.env.locals)
 exf:∀b∈X.ex,b≠X.env.locals/\∀x c,X.env.cells.lookup x=some c->c≠b
 bs:∀b o,X.base.get? b=some o->X.pz.heap.get? b=some o/\X.H₀ b=none
 uY:X.base.objs.size<=X.pz.heap.objs.size
 tO:∀b o,X.base.get? b=some o->b∉X.ex
 uN:∀b∈X.ex,b∉X.fs
 qo:X.pz.heap.FunFrames X.base X.outer
 vm:∀b∈X.fs,X.H₀ b=none
structure Inv (X:Cx) (pins:List (A8×Obj)) (σ:List (Option V)) (H:Hp) (s:A5):Prop where
 ok:X.Ok
 os:s.os=X.pz.os
 bare:W9 s.gens
 base:Un X.fs X.ex X.H₀ H X.pz.heap s.heap
 loc:∃m,s.heap.Ns X.env.locals m/\∀(i:Nat) (x:Str) (v:V),X.N[i]?=some x->σ[i]?=some (some v)->gw X.env.scope x->∃u,RelV v u/\Look X.env s.heap m x u
 cell:∀x c,X.env.cells.lookup x=some c->∃v,s.heap.IsCell c v
 free:H X.env.locals=none
 qI:∀x c,X.env.cells.lookup x=some c->H c=none
 pin:∀p∈X.pn++pins,s.heap.get? p.1=some p.2/\H p.1=none/\p.1≠X.env.locals/\p.1∉X.fs/\∀v,p.2.data≠.cell v
 pb:DT X.prog X.w H s.heap
 len:σ.length=X.N.length
variable {t' i:Nat} {x:Str} {v:V} {u:A3}
section
variable {X:Cx} {pins:List (A8×Obj)} {σ:List (Option V)} {H H':Hp} {s:A5} {h':F1}
theorem Cx.Ok.zAM(ok:X.Ok){o:Obj}(e:X.base.get? b=some o):b∉X.fs:=fun hb=>by
 have:=(ok.qo.mem hb).1;rw[e] at this;cases this
theorem Inv.bs(I:Inv X pins σ H s):∀b o,X.base.get? b=some o->s.heap.get? b=some o/\H b=none:=fun b o e =>
 ⟨I.base.keep b o (I.ok.bs b o e).1 (I.ok.bs b o e).2 (I.ok.zAM e) (I.ok.tO b o e),I.base.free b o (I.ok.bs b o e).1 (I.ok.bs b o e).2 (I.ok.tO b o e)⟩
theorem Inv.bk(I:Inv X pins σ H s):∀b o,X.base.get? b=some o->s.heap.get? b=some o:=fun b o e=>(I.bs b o e).1
theorem Inv.mod(I:Inv X pins σ H s):Mod X.K X.mg X.base:=I.ok.mod
theorem Inv.qe(I:Inv X pins σ H s):X.K.In s.heap:=I.ok.mod.yw.keeps I.bk
theorem Inv.fr(I:Inv X pins σ H s):∃m,Fr X.base X.env.locals s.heap m:=
 let ⟨m,hn,_⟩:=I.loc
 ⟨m,hn,I.bk,A9 I.ok.uY I.ok.above⟩
theorem Inv.lt(I:Inv X pins σ H s):X.env.locals < s.heap.objs.size:=let ⟨_,hn,_⟩:=I.loc;hn.lt
theorem Inv.sz(I:Inv X pins σ H s):X.pz.heap.objs.size<=s.heap.objs.size:=A9 I.ok.above (T8 I.lt)
theorem Inv.yn(I:Inv X pins σ H s)(h:s.heap.objs.size<=a):a∉X.fs:=fun hb=>by
 obtain⟨_,o,ho,_⟩:=I.ok.qo.mem hb;exact absurd (B3 (B7 ho) (A9 I.sz h)) (H8 _)
theorem Inv.vE(I:Inv X pins σ H s):∀x c,X.env.cells.lookup x=some c->c≠X.env.locals:=fun x c e z=>by
 obtain⟨v,o,ho,hd⟩:=I.cell x c e;obtain⟨m,⟨o',es,ep,tG,uU,_⟩,_⟩:=I.loc;rw[z,tG] at ho;cases ho;rw[uU] at hd;cases hd
theorem Inv.qo(I:Inv X pins σ H s):s.heap.FunFrames X.base X.outer:=by
 have all:∀(l:List Env),(∀b∈FQ l,b∈X.fs)->X.pz.heap.FunFrames X.base l->s.heap.FunFrames X.base l:=by
  intro l
  induction l with
  | nil=>intro _ _;trivial
  | cons env r ih =>
   intro hs hl;obtain⟨hk,⟨L,o,hf,hn,ho,hd⟩,hr⟩:=hl;have hL:L∈X.fs:=hs L (by unfold FQ;rw[M9,hf];exact B8);obtain⟨sl,e⟩:=I.base.slot L o ho (I.ok.vm L hL) hL fun z=>I.ok.uN L z hL
   exact⟨hk,⟨L,_,hf,hn,e,hd⟩,ih (fun b hb=>hs b (by unfold FQ;rw[M9,hf];exact B5 _ hb)) hr⟩
 exact all X.outer (fun _ hb=>hb) I.ok.qo
theorem Inv.stack(I:Inv X pins σ H s):s.heap.FunFrames X.base X.stack:=by
 rcases I.ok.xx with e | ⟨e,hf⟩
 ·rw[e];exact I.qo
 ·rw[e];obtain⟨m,hn,_⟩:=I.loc;refine .cons (by rw[I.ok.kind];decide) hf hn ?_ I.qo;exact Heap.get?_none_of_le (A9 I.ok.uY I.ok.above)
theorem Inv.qY(I:Inv X pins σ H s):∀b∈FQ X.stack,b∈X.env.locals::X.fs:=fun b hb=>by
 rcases I.ok.xx with e | ⟨e,hf⟩
 ·rw[e] at hb;exact B5 _ hb
 ·rw[e] at hb;unfold FQ at hb;rw[M9,hf] at hb;exact hb
theorem Inv.rG(I:Inv X pins σ H s):∀b∈FQ X.stack,H b=none:=fun b hb=>by
 rcases D6.mp (I.qY b hb) with e | hb
 ·rw[e];exact I.free
 ·obtain⟨_,o,ho,_⟩:=I.ok.qo.mem hb;exact I.base.free b o ho (I.ok.vm b hb) fun z=>I.ok.uN b z hb
theorem Inv.step{g':Array GenState}{t':Nat}{d':Drawn}{ch:List A8}(I:Inv X pins σ H s)
    (rV:∀b∈ch,(b∈X.ex\/X.pz.heap.objs.size<=b)/\b≠X.env.locals/\(∀x c,X.env.cells.lookup x=some c->c≠b)/\∀p∈X.pn++pins,p.1≠b)
    (keep:∀b o,b≠X.env.locals->b∉X.fs->b∉ch->s.heap.get? b=some o->H b=none->h'.get? b=some o)
    (slot:∀b o,b≠X.env.locals->b∈X.fs->b∉ch->s.heap.get? b=some o->H b=none->∃sl,h'.get? b=some { o with slots:=sl }) (free:∀b o,b∉ch->s.heap.get? b=some o->H b=none->H' b=none)
    (there:∀b o,b∉ch->s.heap.get? b=some o->∃o',h'.get? b=some o')
    (rL:∀b xs,H b=some (.tup xs)->H' b=some (.tup xs)) (rE:∀b o u,H b=some (.sU o u)->H' b=some (.sU o u)) (rM:∀b ps,H b=some (.wo ps)->∃more,H' b=some (.wo (ps++more)))
    (ns:∀m,s.heap.Ns X.env.locals m->h'.Ns X.env.locals m) (pb:DT X.prog X.w H' h') (hg:W9 g') :
    Inv X pins σ H' { s with heap:=h',gens:=g',drawn:=d',toks:=t' }:=by
  have neL:∀b o,X.pz.heap.get? b=some o->b≠X.env.locals:=fun b o e=>D3 (B3 (B7 e) I.ok.above)
  have neC:∀b o,X.pz.heap.get? b=some o->b∉X.ex->b∉ch:=fun b o e hx hb=>by
    rcases(rV b hb).1 with z | z
    · exact hx z
    · exact absurd (B3 (B7 e) z) (H8 _)
  have cellK:∀x c,X.env.cells.lookup x=some c->∀v,s.heap.IsCell c v->h'.IsCell c v:=fun x c e v ⟨o,ho,hd⟩=>by
    have yr:c∉ch:=fun z=>(rV c z).2.2.1 x c e rfl
    by_cases hc:c∈X.fs
    · obtain⟨sl,q⟩:=slot c o (I.vE x c e) hc yr ho (I.qI x c e);exact⟨_,q,hd⟩
    · exact⟨o,keep c o (I.vE x c e) hc yr ho (I.qI x c e),hd⟩
  refine⟨I.ok,I.os,hg,⟨fun b o e n hb hx=>?_,fun b o e n hb hx=>?_,fun b o e n hx=>?_,fun b o e hx=>?_,fun b xs e=>rL b xs (I.base.rL b xs e),fun b o xs e=>rE b o xs (I.base.rE b o xs e),fun b ps e=>?_⟩,?_,fun x c e=>?_,?_,fun x c e=>?_,fun p hp=>?_,pb,I.len⟩
  · exact keep b o (neL b o e) hb (neC b o e hx) (I.base.keep b o e n hb hx) (I.base.free b o e n hx)
  · obtain⟨sl,e1⟩:=I.base.slot b o e n hb hx;obtain⟨sl',e2⟩:=slot b _ (neL b o e) hb (neC b o e hx) e1 (I.base.free b o e n hx);exact⟨sl',e2⟩
  · obtain⟨o',e1⟩:=I.base.there b o e hx;exact free b o' (neC b o e hx) e1 (I.base.free b o e n hx)
  · obtain⟨o',e1⟩:=I.base.there b o e hx;exact there b o' (neC b o e hx) e1
  · obtain⟨m1,e1⟩:=I.base.rM b ps e;obtain⟨m2,e2⟩:=rM b _ e1;exact⟨m1++m2,by rw[e2,Array.append_assoc]⟩
  · obtain⟨m,hn,hl⟩:=I.loc;refine⟨m,ns m hn,fun i x v e1 e2 e3=>?_⟩;obtain⟨u,r,l⟩:=hl i x v e1 e2 e3;refine⟨u,r,?_⟩;rcases l with l | ⟨k,c,e,z⟩
    · exact .inl l
    · exact .inr ⟨k,c,e,cellK x c e _ z⟩
  · obtain⟨v,z⟩:=I.cell x c e;exact⟨v,cellK x c e v z⟩
  · obtain⟨m,⟨o,_,_,ho,_⟩,_⟩:=I.loc;exact free _ o (fun z=>(rV _ z).2.1 rfl) ho I.free
  · obtain⟨v,o,ho,hd⟩:=I.cell x c e;exact free c o (fun z=>(rV c z).2.2.1 x c e rfl) ho (I.qI x c e)
  · obtain⟨e,n,ne,nf,d⟩:=I.pin p hp;have yr:p.1∉ch:=fun z=>(rV p.1 z).2.2.2 p hp rfl
    exact⟨keep p.1 p.2 ne nf yr e n,free p.1 p.2 yr e n,ne,nf,d⟩
theorem Inv.un(I:Inv X pins σ H s)(u:Un X.fs [] H H' s.heap h')(pb:DT X.prog X.w H' h'):Inv X pins σ H' { s with heap:=h',toks:=t' }:=by
 obtain⟨m,⟨o,es,ep,ho,r⟩,_⟩:=id I.loc;obtain⟨sl,hL⟩:=u.any ho I.free (by simp);exact I.step (g':=s.gens) (d':=s.drawn) (ch:=[]) (fun _ z=>nomatch z) (fun b o _ hb _ e n=>u.keep b o e n hb (by simp)) (fun b o _ hb _ e n=>u.slot b o e n hb (by simp)) (fun b o _ e n=>u.free b o e n (by simp)) (fun b o _ e=>u.there b o e (by simp)) u.rL u.rE u.rM (fun m' hm=>by
  obtain⟨o',sV,ep',tG,r'⟩:=hm;rw[ho] at tG;cases tG;exact⟨_,sV,ep',hL,r'⟩) pb I.bare
theorem Inv.call{g':Array GenState}{t':Nat}{d':Drawn}{ch:List A8}(I:Inv X pins σ H s)(u:Un (FQ X.stack) ch H H' s.heap h')(pb:DT X.prog X.w H' h')(hg:W9 g')
    (rV:∀b∈ch,(b∈X.ex\/X.pz.heap.objs.size<=b)/\b≠X.env.locals/\(∀x c,X.env.cells.lookup x=some c->c≠b)/\∀p∈X.pn++pins,p.1≠b) :
    Inv X pins σ H' { s with heap:=h',gens:=g',drawn:=d',toks:=t' }:=by
  obtain⟨m,⟨o,es,ep,ho,r⟩,_⟩:=id I.loc;obtain⟨sl,hL⟩:=u.any ho I.free fun z=>(rV _ z).2.1 rfl
  exact I.step (ch:=ch) rV (fun b o hL hb hc e n=>u.keep b o e n (fun z=>(D6.mp (I.qY b z)).elim hL hb) hc) (fun b o _ _ hc e n=>u.any e n hc) (fun b o hc e n=>u.free b o e n hc) (fun b o hc e=>u.there b o e hc) u.rL u.rE u.rM (fun m' hm=>by
    obtain⟨o',sV,ep',tG,r'⟩:=hm;rw[ho] at tG;cases tG;exact⟨_,sV,ep',hL,r'⟩) pb hg
theorem Inv.turned{t':Nat}{it:A8}(I:Inv X pins σ H s)(k:∀b o,b≠it->s.heap.get? b=some o->h'.get? b=some o)(hn:H it=none)(hL:it≠X.env.locals)
    (h1:it∈X.ex\/X.pz.heap.objs.size<=it) (h2:∀x c,X.env.cells.lookup x=some c->c≠it) (h3:∀p∈X.pn++pins,p.1≠it):Inv X pins σ H { s with heap:=h',toks:=t' }:=by
  have yq:∀b u,H b=some u->b≠it:=fun b u e z=>by rw[z,hn] at e;cases e
  refine I.step (g':=s.gens) (d':=s.drawn) (ch:=[it]) (fun b hb=>?_) (fun b o _ _ hc e _=>k b o (fun z=>hc (by simp[z])) e) (fun b o _ _ hc e _=>⟨o.slots,k b o (fun z=>hc (by simp[z])) e⟩) (fun _ _ _ _ n=>n)
    (fun b o hc e=>⟨o,k b o (fun z=>hc (by simp[z])) e⟩) (fun _ _ e=>e) (fun _ _ _ e=>e) (fun b ps e=>⟨#[],by rw[e];simp⟩) (fun m hm=>?_) (fun b u e=>?_) I.bare
  · have e:b=it:=by simpa using hb
    subst e;exact⟨h1,hL,h2,h3⟩
  · obtain⟨o,es,ep,ho,r⟩:=hm;exact⟨o,es,ep,k _ o (Ne.symm hL) ho,r⟩
  · refine(I.pb b u e).rq (fun c v hc q=>k c v ?_ q) (fun _ q=>q) fun _ _ q=>q
    rcases hc with z | z
    · rw[z];exact yq b u e
    · exact yq c _ z
theorem Inv.tok(I:Inv X pins σ H s)(t:Nat):Inv X pins σ H { s with toks:=t }:=I.un (h':=s.heap) (t':=t) Un.refl I.pb
theorem Inv.kept(I:Inv X pins σ H s)(k:∀b u,s.heap.get? b=some u->h'.get? b=some u):Inv X pins σ H { s with heap:=h',toks:=t' }:=I.un (Un.kept k) (I.pb.kept k)
theorem Inv.laid{t':Nat}(I:Inv X pins σ H s)(k:∀b u,s.heap.get? b=some u->h'.get? b=some u)(hp:s.heap.objs.size<=a)(new:Ab X.prog X.w (upd H a o) h' a o) :
    Inv X pins σ (upd H a o) { s with heap:=h',toks:=t' }:=I.un (Un.laid k hp (I.pb.fresh hp)) (I.pb.laid k hp new)
theorem Inv.write{x e:A8}{o:HO}{t':Nat}(I:Inv X pins σ H s)(mu:gy (H x))(he:e=x\/H e=some (.own x))(k:∀b u,b≠e->s.heap.get? b=some u->h'.get? b=some u)(yF:∃u,h'.get? e=some u)
    (new:Ab X.prog X.w (upd H x o) h' x o):Inv X pins σ (upd H x o) { s with heap:=h',toks:=t' }:=I.un (Un.write mu he k yF) (I.pb.write mu he k yF new)
theorem Inv.weak{σ':List (Option V)}(I:Inv X pins σ H s)(hl:σ'.length=σ.length)(w:∀(i:Nat) v,σ'[i]?=some (some v)->σ[i]?=some (some v)):Inv X pins σ' H s:=
 ⟨I.ok,I.os,I.bare,I.base,let ⟨m,hn,sS⟩:=I.loc;⟨m,hn,fun i x v e1 e2 e3=>sS i x v e1 (w i v e2) e3⟩,I.cell,I.free,I.qI,I.pin,I.pb,hl.trans I.len⟩
theorem Inv.qa{wM:List (A8×Obj)}(I:Inv X pins σ H s)(h:∀p∈wM,s.heap.get? p.1=some p.2/\H p.1=none/\p.1≠X.env.locals/\p.1∉X.fs/\∀v,p.2.data≠.cell v):Inv X wM σ H s:=
 ⟨I.ok,I.os,I.bare,I.base,I.loc,I.cell,I.free,I.qI,fun p hp=>(D4.mp hp).elim (fun z=>I.pin p (C5 _ z)) (h p),I.pb,I.len⟩
theorem GG{N:List Str}(hN:N.Nodup){j:Nat}(a:N[i]?=some x)(b:N[j]?=some x):i=j:=by
 obtain⟨h1,e1⟩:=B1.mp a;obtain⟨h2,e2⟩:=B1.mp b;exact(a9 hN).mp (e1.trans e2.symm)
theorem HJ{M:ny}{A:F3}{E:A3->A5->Prop}{Q:Unit->A5->Prop}(I:Inv X pins σ H s)(hN:X.N.Nodup)(hi:X.N[i]?=some x)(hx:Loc X.env.scope x)(r:RelV v u)
    (h:∀s',Inv X pins (σ.set i (some v)) H s'->(∃a,O2 a s.heap s'.heap/\(a=X.env.locals\/X.env.cells.lookup x=some a))->Q () s') (hf:X.fn x=true\/X.env.scope.names.lookup x=some .local:=by first | exact .inl rfl | exact .inr rfl | assumption):B4 M A (storeName X.env x u) Q E s:=by
  obtain⟨m,hn,hl⟩:=id I.loc;have zAh:(X.env.scope.kind == .class || (X.env.scope.kind == .module && X.env.locals != X.env.globals))=false:=by rw[I.ok.kind];rfl
  have zN:i < σ.length:=by rw[I.len];exact(B1.mp hi).1
  have vE:=I.vE;have tracked:∀{a:A8} {h':F1},(∃o,s.heap.get? a=some o/\H a=none)->O2 a s.heap h'->DT X.prog X.w H h':=fun{a h'} ha hs b ob e=>by
    obtain⟨_,_,wb⟩:=ha;refine(I.pb b ob e).rq (fun c w' hc q=>(hs.2 c ?_).trans q) (fun _ q=>q) fun _ _ q=>q
    rintro rfl;rcases hc with rfl | hc
    · rw[wb] at e;cases e
    · rw[wb] at hc;cases hc
  rcases hx with hk | hk
  · refine wpAny_storeName_local hk hn (fun h' wa hs=>?_) zAh;obtain⟨oL,_,_,xQ,_⟩:=id hn;refine h _ ⟨I.ok,I.os,I.bare,⟨fun b o e n hb hx=>?_,fun b o e n hb hx=>?_,I.base.free,fun b o e hx=>?_,I.base.rL,I.base.rE,I.base.rM⟩,⟨_,wa,fun j y v' e1 e2 e3=>?_⟩,fun y c e=>?_,I.free,I.qI,fun p hp=>?_,tracked ⟨oL,xQ,I.free⟩ hs,by simpa using I.len⟩ ⟨_,hs,.inl rfl⟩
    · exact(hs.2 b (D3 (B3 (B7 e) I.ok.above))).trans (I.base.keep b o e n hb hx)
    · obtain⟨sl,e1⟩:=I.base.slot b o e n hb hx;exact⟨sl,(hs.2 b (D3 (B3 (B7 e) I.ok.above))).trans e1⟩
    · obtain⟨o',e1⟩:=I.base.there b o e hx;exact⟨o',(hs.2 b (D3 (B3 (B7 e) I.ok.above))).trans e1⟩
    · by_cases hj:j=i
      · subst hj;rw[hi] at e1;cases e1;rw[D5 zN] at e2;cases e2;exact⟨u,r,.inl ⟨hk,by simp⟩⟩
      · rw[C9 (Ne.symm hj)] at e2;obtain⟨u',r',q⟩:=hl j y v' e1 e2 e3;refine⟨u',r',?_⟩;rcases q with⟨k,e⟩ | ⟨k,c,e,z⟩
        · refine .inl ⟨k,?_⟩;have:y≠x:=fun e=>hj (GG hN e1 (e▸hi))
          simp[this,e]
        · exact .inr ⟨k,c,e,z.sameBut hs (vE y c e)⟩
    · obtain⟨w',z⟩:=I.cell y c e;exact⟨w',z.sameBut hs (vE y c e)⟩
    · obtain⟨e,n,ne,nf,d⟩:=I.pin p hp;exact⟨(hs.2 p.1 ne).trans e,n,ne,nf,d⟩
  · have hfn:X.fn x=true:=by
      rcases hf with z | z
      · exact z
      · rw[z] at hk;cases hk
    obtain⟨c,hc⟩:=I.ok.has x (.inl hk);obtain⟨w',z⟩:=I.cell x c hc;refine wpAny_storeName_cell I.ok.kind hk hc z (fun h' u6 hs=>?_);obtain⟨oc,xO,zAa⟩:=id z;refine h { s with heap:=h' } ⟨I.ok,I.os,I.bare,⟨fun b o e n hb hx=>?_,fun b o e n hb hx=>?_,I.base.free,fun b o e hx=>?_,I.base.rL,I.base.rE,I.base.rM⟩,⟨m,hn.sameBut hs (Ne.symm (vE x c hc)),fun j y v' e1 e2 e3=>?_⟩,fun y c' e=>?_,I.free,I.qI,fun p hp=>?_,tracked ⟨oc,xO,I.qI x c hc⟩ hs,by simpa using I.len⟩ ⟨c,hs,.inr hc⟩
    · exact(hs.2 b (D3 (B3 (B7 e) (I.ok.xn x c hfn hc)))).trans (I.base.keep b o e n hb hx)
    · obtain⟨sl,e1⟩:=I.base.slot b o e n hb hx;exact⟨sl,(hs.2 b (D3 (B3 (B7 e) (I.ok.xn x c hfn hc)))).trans e1⟩
    · obtain⟨o',e1⟩:=I.base.there b o e hx;exact⟨o',(hs.2 b (D3 (B3 (B7 e) (I.ok.xn x c hfn hc)))).trans e1⟩
    · by_cases hj:j=i
      · subst hj;rw[hi] at e1;cases e1;rw[D5 zN] at e2;cases e2;exact⟨u,r,.inr ⟨.inl hk,c,hc,u6⟩⟩
      · rw[C9 (Ne.symm hj)] at e2;obtain⟨u',r',q⟩:=hl j y v' e1 e2 e3;refine⟨u',r',?_⟩;rcases q with q | ⟨k,c',e,z'⟩
        · exact .inl q
        · refine .inr ⟨k,c',e,z'.sameBut hs ?_⟩;rintro rfl;exact hj (GG hN e1 (I.ok.inj _ _ _ e hc▸hi))
    · by_cases hcc:c'=c
      · subst hcc;exact⟨_,u6⟩
      · obtain⟨w2,z2⟩:=I.cell y c' e;exact⟨w2,z2.sameBut hs hcc⟩
    · obtain⟨e,n,ne,nf,d⟩:=I.pin p hp;refine⟨(hs.2 p.1 ?_).trans e,n,ne,nf,d⟩;intro q;rw[q,xO] at e;have q':oc=p.2:=C7 e;exact d w' (by rw[<- q'];exact zAa)
theorem Ck{M:ny}{A:F3}{E:A3->A5->Prop}{Q:Unit->A5->Prop}(I:Inv X pins σ H s)(hN:X.N.Nodup)(hi:X.N[i]?=some x)(hx:Loc X.env.scope x)(r:RelV v u)
    (h:∀s',Inv X pins (σ.set i (some v)) H s'->Q () s') (hf:X.fn x=true\/X.env.scope.names.lookup x=some .local:=by first | exact .inl rfl | exact .inr rfl | assumption):B4 M A (storeName X.env x u) Q E s:=
  HJ I hN hi hx r (fun s' I' _=>h s' I') hf
theorem Inv.zz{s':A5}{ch:List A8}(I:Inv X pins σ H s)(ho:s'.os=s.os)(u:Un (FQ X.stack) ch H H' s.heap s'.heap)(pb:DT X.prog X.w H' s'.heap)(hg:W9 s'.gens)
    (rV:∀b∈ch,(b∈X.ex\/X.pz.heap.objs.size<=b)/\b≠X.env.locals/\(∀x c,X.env.cells.lookup x=some c->c≠b)/\∀p∈X.pn++pins,p.1≠b):Inv X pins σ H' s':=by
  obtain⟨h',g',d',t',o'⟩:=s';have e:o'=s.os:=ho;subst e;exact I.call (g':=g') (t':=t') (d':=d') u pb hg rV
end
abbrev XK:=A3->Option A8->Hp->Prop
noncomputable abbrev St:=List (Option V)
abbrev VK:=V->Hp->Prop
abbrev TE:=St->Hp->VK->Prop
abbrev TT:=St->Hp->(Bool->Hp->Prop)->Prop
abbrev TA:=St->Hp->(List V->Hp->Prop)->Prop
structure Ends where
 nx:St->Hp->Prop
 rt:VK
 bk:St->Hp->Prop:=fun _ _=>False
 ct:St->Hp->Prop:=fun _ _=>False
abbrev TS:=Ends->St->Hp->Prop
def EP(X:Cx)(pins:List (A8×Obj))(σ:St)(Q:VK)(u:A3)(s':A5):Prop:=∃v H',Inv X pins σ H' s'/\RelV v u/\Q v H'
def TP(X:Cx)(pins:List (A8×Obj))(σ:St)(Q:Bool->Hp->Prop)(b:Bool)(s':A5):Prop:=∃H',Inv X pins σ H' s'/\Q b H'
def AP(X:Cx)(pins:List (A8×Obj))(σ:St)(Q:List V->Hp->Prop)(us:List A3)(s':A5):Prop:=∃vs H',Inv X pins σ H' s'/\AG vs us/\Q vs H'
def SP(X:Cx)(pins:List (A8×Obj))(D:Ends)(f:Flow)(s':A5):Prop:=
 match f with
 | .next=>∃σ' H',Inv X pins σ' H' s'/\D.nx σ' H'
 | .brk=>∃σ' H',Inv X pins σ' H' s'/\D.bk σ' H'
 | .cont=>∃σ' H',Inv X pins σ' H' s'/\D.ct σ' H'
 | .ret u=>∃v σ' H',Inv X pins σ' H' s'/\RelV v u/\D.rt v H'
def PE(X:Cx)(e:Expr)(t:TE):Prop:=
 ∀(pins:List (A8×Obj)) (s:A5) (σ:St) (H:Hp) (Q:VK),Inv X pins σ H s->t σ H Q->B4 (C3 X.prog X.w) X.A (M3 e X.env) (EP X pins σ Q) X.xe s
def PT(X:Cx)(e:Expr)(t:TT):Prop:=
 ∀(pins:List (A8×Obj)) (s:A5) (σ:St) (H:Hp) (Q:Bool->Hp->Prop),Inv X pins σ H s->t σ H Q->B4 (C3 X.prog X.w) X.A (oW e X.env (M3 e X.env)) (TP X pins σ Q) X.xe s
def PW(X:Cx)(e:Expr)(t:TT):Prop:=
 ∀(whole:Sem A3) (pins:List (A8×Obj)) (s:A5) (σ:St) (H:Hp) (Q:Bool->Hp->Prop),Inv X pins σ H s->t σ H Q->B4 (C3 X.prog X.w) X.A (oW e X.env whole) (TP X pins σ Q) X.xe s
variable {X:Cx} {e:Expr}
theorem PW.pt{t:TT}(h:PW X e t):PT X e t:=h _
def PA(X:Cx)(es:List Expr)(t:TA):Prop:=
 ∀(pos:Pos) (pins:List (A8×Obj)) (s:A5) (σ:St) (H:Hp) (Q:List V->Hp->Prop),Inv X pins σ H s->t σ H Q->B4 (C3 X.prog X.w) X.A (spliced (Q7 pos (E3 es X.env))) (AP X pins σ Q) X.xe s
def PS(X:Cx)(st:G0)(t:TS):Prop:=
 ∀(pins:List (A8×Obj)) (s:A5) (σ:St) (H:Hp) (D:Ends),Inv X pins σ H s->t D σ H->B4 (C3 X.prog X.w) X.A (exec st X.env) (SP X pins D) X.xe s
def CP(X:Cx)(st:List G0)(t:TS):Prop:=
 ∀(pins:List (A8×Obj)) (s:A5) (σ:St) (H:Hp) (D:Ends),Inv X pins σ H s->t D σ H->B4 (C3 X.prog X.w) X.A (execs st X.env) (SP X pins D) X.xe s
variable {M:ny} {A:F3} {E:A3->A5->Prop} {s:A5}
theorem Ac{α:Type}{t:Sem α}{Q Q':α->A5->Prop}(h:B4 M A t Q E s)(hQ:∀a s,Q a s->Q' a s):B4 M A t Q' E s:=J4 h hQ fun _ _ x=>x
variable {pins:List (A8×Obj)} {σ:St} {pos:Pos} {Q:A3->A5->Prop} {op:W6}
section
variable {X:Cx}
theorem bin{a b:Expr}{ta tb:TE}(ha:PE X a ta)(hb:PE X b tb){R:V->V->Hp->Prop}(I:Inv X pins σ H s)(h:ta σ H fun x H1=>tb σ H1 fun y H2=>R x y H2)
    {α:Type} {Q:α->A5->Prop} {f:A3->A3->Sem α}
    (hf:∀v u s2 x y H2,Inv X pins σ H2 s2->RelV x v->RelV y u->R x y H2->B4 (C3 X.prog X.w) X.A (f v u) Q X.xe s2) :
    B4 (C3 X.prog X.w) X.A (M3 a X.env) (fun v pV=>B4 (C3 X.prog X.w) X.A (M3 b X.env) (fun u rn=>B4 (C3 X.prog X.w) X.A (f v u) Q X.xe rn) X.xe pV) X.xe s:=by
  refine Ac (ha pins s σ H _ I h) fun v s1 ⟨x,H1,I1,r1,q1⟩=>?_
  refine Ac (hb pins s1 σ H1 _ I1 q1) fun u s2 ⟨y,H2,I2,r2,q2⟩=>?_
  exact hf v u s2 x y H2 I2 r1 r2 q2
abbrev DU(i:Nat):TE:=fun σ H Q=>∃v,σ[i]?=some (some v)/\Q v H
abbrev tC(v:V):TE:=fun _ H Q=>Q v H
theorem RP(hN:X.N[i]?=some x)(hv:gw X.env.scope x)(hd:(x == ("__debug__" : Str))=false:=by decide)(u5:(x == ("__classdict__" : Str))=false:=by decide):PE X (.Name x pos) (DU i):=by
 intro pins s σ H Q I h;obtain⟨v,e,h⟩:=h;obtain⟨m,hn,hl⟩:=I.loc;obtain⟨u,r,l⟩:=hl i x v hN e hv;have fin:EP X pins σ Q u s:=⟨v,H,I,r,h⟩;rcases l with⟨hk,hm⟩ | ⟨hk,c,hc,sF⟩
 ·exact oX (wpAny_loadName_local I.ok.kind hk hn hm fin) hd
 ·rcases hk with hk | hk
  ·exact oX (wpAny_loadName_cell I.ok.kind hk hc sF fin) hd
  ·exact oX (wpAny_loadName_free I.ok.kind hk hc sF fin u5) hd
theorem aC{i j pos}:PE X (.Constant (.int i) j pos) (tC (.int i)):=fun _ _ _ H _ I h=>wpAny_Constant_int ⟨.int i,H,I.tok _,⟨_,rfl⟩,h⟩
theorem fF{b j pos}:PE X (.Constant (.bool b) j pos) (tC (.bl b)):=fun _ _ _ H _ I h=>Constant_bool ⟨.bl b,H,I,rfl,h⟩
theorem aA{j pos}:PE X (.Constant .none j pos) (tC .pX):=fun _ _ _ H _ I h=>Constant_none ⟨.pX,H,I,rfl,h⟩
theorem Zx{x j pos}:PE X (.Constant (.str x) j pos) (tC (.str x)):=fun _ _ _ H _ I h=>me ⟨.str x,H,I.tok _,⟨_,rfl⟩,h⟩
def Gl(X:Cx)(x:Str):Prop:=X.env.kindOf x=some .globalImplicit
theorem DO{E:A3->A5->Prop}{pos:Pos}(I:Inv X pins σ H s)(hg:Gl X x)(hm:X.mg x=some u)(h:Q u s)
    (hd:(x == ("__debug__" : Str))=false:=by decide):B4 (C3 X.prog X.w) X.A (M3 (.Name x pos) X.env) Q E s:=
  Y0 I.ok.kind hg (Calls.loadGlobal_global (by rw[I.ok.glob];exact I.mod.glob.keeps I.bk) hm h) hd
theorem GL{E:A3->A5->Prop}{pos:Pos}(I:Inv X pins σ H s)(hg:Gl X x)(hm:X.mg x=none)(hv:O3 x=some u)(h:Q u s)
    (hn:x ≠ "__name__" := by decide) (hd:(x == ("__debug__" : Str))=false:=by decide):B4 (C3 X.prog X.w) X.A (M3 (.Name x pos) X.env) Q E s:=by
  obtain⟨mb,h1,h2⟩:=I.mod.blt;exact Y0 I.ok.kind hg (Calls.loadGlobal_builtin (by rw[I.ok.glob];exact I.mod.glob.keeps I.bk) hm (by rw[I.ok.blt];exact h1.keeps I.bk) ((h2 x hn).trans hv) h) hd
theorem Mr(hg:Gl X x)(hm:X.mg x=some u)(r:RelV v u)(hd:(x == ("__debug__" : Str))=false:=by decide):PE X (.Name x pos) (tC v):=
 fun _ _ _ H _ I h=>DO I hg hm ⟨v,H,I,r,h⟩ hd
theorem Vg(hg:Gl X x)(hm:X.mg x=none)(hv:O3 x=some u)(r:RelV v u)(hn:x ≠ "__name__" := by decide)(hd:(x == ("__debug__" : Str))=false:=by decide):PE X (.Name x pos) (tC v):=
 fun _ _ _ H _ I h=>GL I hg hm hv ⟨v,H,I,r,h⟩ hn hd
variable {a b:Expr} {ta tb:TE} {pos:Pos}
def PC(X:Cx)(op:W6)(a b:Expr)(t:TE):Prop:=
 ∀(pins:List (A8×Obj)) (s:A5) (σ:St) (H:Hp) (Q:VK),Inv X pins σ H s->t σ H Q ->
  B4 (C3 X.prog X.w) X.A (M3 a X.env) (fun v pV=>B4 (C3 X.prog X.w) X.A (M3 b X.env) (fun u rn=>B4 (C3 X.prog X.w) X.A (H9 op v u) (EP X pins σ Q) X.xe rn) X.xe pV) X.xe s
abbrev tB(t:TE):TT:=fun σ H Q=>t σ H fun x H1=>∃c,x=.bl c/\Q c H1
theorem ir{t:TE}(h:PC X op a b t)(h1:Z6 op b=false:=by first | exact yo _ (by decide) (by decide) | rfl):PT X (.Compare a [op] [b] pos) (tB t):=by
 intro pins s σ H Q I hw;refine lq (Ac (h pins s σ H _ I hw) fun v s1 h1=>Ac h1 fun u s2 h2=>Ac h2 fun c s3 ⟨x,H1,I1,r1,q1⟩=>?_) h1;obtain⟨d,rfl,q⟩:=q1;cases r1;exact G4 ⟨H1,I1,q⟩
theorem Zg{t:TE}(h:PE X e t)(he:∀whole,oW e X.env whole=(do let v <- whole;o9 e.pos;i9 [v] (truthy v)):=by intro _;rfl):PT X e (tB t):=by
 intro pins s σ H Q I hw;refine isTrue_plain (Ac (h pins s σ H _ I hw) fun v s1 ⟨x,H1,I1,r1,q1⟩=>?_) (he _);obtain⟨d,rfl,q⟩:=q1;cases r1;exact G4 ⟨H1,I1,q⟩
variable {tA Xi:TT} {rest:List Expr}
abbrev di(t u:TT):TT:=fun σ H Q=>t σ H fun c H1=>if c=true then u σ H1 Q else Q false H1
abbrev ju(t u:TT):TT:=fun σ H Q=>t σ H fun c H1=>if c=true then Q true H1 else u σ H1 Q
abbrev de(t:TT):TT:=fun σ H Q=>t σ H fun c H1=>Q (!c) H1
theorem VJ(ha:PT X a tA):PW X (.BoolOp .And [a] pos) tA:=by
 intro wh pins s σ H Q I h;refine isTrue_and (Ac (ha pins s σ H Q I h) fun c s1 e=>?_);cases c with
 | true=>exact isTrue_and_nil e
 | false=>exact e
theorem Ze(ha:PT X a tA):PW X (.BoolOp .Or [a] pos) tA:=by
 intro wh pins s σ H Q I h;refine isTrue_or (Ac (ha pins s σ H Q I h) fun c s1 e=>?_);cases c with
 | false=>exact isTrue_or_nil e
 | true=>exact e
theorem Zf(ha:PT X a tA)(hb:PW X (.BoolOp .And (b::rest) pos) Xi):PW X (.BoolOp .And (a::b::rest) pos) (di tA Xi):=by
 intro wh pins s σ H Q I h;refine isTrue_and (Ac (ha pins s σ H _ I h) fun c s1 ⟨H1,I1,q1⟩=>?_);cases c with
 | true=>exact hb wh pins s1 σ H1 Q I1 q1
 | false=>exact⟨H1,I1,q1⟩
theorem eY(ha:PT X a tA)(hb:PW X (.BoolOp .Or (b::rest) pos) Xi):PW X (.BoolOp .Or (a::b::rest) pos) (ju tA Xi):=by
 intro wh pins s σ H Q I h;refine isTrue_or (Ac (ha pins s σ H _ I h) fun c s1 ⟨H1,I1,q1⟩=>?_);cases c with
 | true=>exact⟨H1,I1,q1⟩
 | false=>exact hb wh pins s1 σ H1 Q I1 q1
theorem Zh(ha:PT X a tA):PT X (.UnaryOp .Not a pos) (de tA):=by
 intro pins s σ H Q I h;exact isTrue_not (ha pins s σ H (fun c H1=>Q (!c) H1) I h)
abbrev Xj(ta tb:TE):TE:=fun σ H Q=>ta σ H fun x H1=>∃c,x=.bl c/\if c=true then tb σ H1 Q else Q (.bl false) H1
abbrev dZ(ta tb:TE):TE:=fun σ H Q=>ta σ H fun x H1=>∃c,x=.bl c/\if c=true then Q (.bl true) H1 else tb σ H1 Q
abbrev Xe(ta:TE):TE:=fun σ H Q=>ta σ H fun x H1=>∃c,x=.bl c/\Q (.bl (!c)) H1
theorem Zy{op}{t:TE}(h:PE X a t):PE X (.BoolOp op [a] pos) t:=fun pins s σ H Q I hw=>BoolOp_one (h pins s σ H Q I hw)
theorem aE(ha:PE X a ta)(hb:PE X (.BoolOp .And (b::rest) pos) tb):PE X (.BoolOp .And (a::b::rest) pos) (Xj ta tb):=by
 intro pins s σ H Q I h;refine BoolOp_and (Ac (ha pins s σ H _ I h) fun v s1 ⟨x,H1,I1,r1,q1⟩=>?_);obtain⟨c,rfl,q1⟩:=q1;cases r1;refine G4 ?_;cases c with
 | true=>exact hb pins s1 σ H1 Q I1 q1
 | false=>exact⟨.bl false,H1,I1,rfl,q1⟩
theorem fB(ha:PE X a ta)(hb:PE X (.BoolOp .Or (b::rest) pos) tb):PE X (.BoolOp .Or (a::b::rest) pos) (dZ ta tb):=by
 intro pins s σ H Q I h;refine BoolOp_or (Ac (ha pins s σ H _ I h) fun v s1 ⟨x,H1,I1,r1,q1⟩=>?_);obtain⟨c,rfl,q1⟩:=q1;cases r1;refine G4 ?_;cases c with
 | false=>exact hb pins s1 σ H1 Q I1 q1
 | true=>exact⟨.bl true,H1,I1,rfl,q1⟩
theorem Zz(ha:PE X a ta):PE X (.UnaryOp .Not a pos) (Xe ta):=by
 intro pins s σ H Q I h;refine UnaryOp_ (Ac (ha pins s σ H _ I h) fun v s1 ⟨x,H1,I1,r1,q1⟩=>?_);obtain⟨c,rfl,q1⟩:=q1;cases r1;exact not_of (G4 ⟨.bl (!c),H1,I1,rfl,q1⟩)
end
def CO(K:W.Frag)(H:Hp)(a:A8)(xs:List V):Prop:=
 Rd H a (.lst xs) \/
  ∃(o:Obj) (pS:Array A3) (n:Nat),K.lookup a=some o/\o.cls=.type "list" /\ o.dict=none/\o.data=.seq pS n/\pS.size<=sizeLine/\AG xs pS.toList
def Cg(K:W.Frag)(H:Hp)(a:A8)(xs:List V):Prop:=
 Rd H a (.tup xs) \/
  ∃(o:Obj) (pS:Array A3) (n:Nat),K.lookup a=some o/\o.cls=.type "tuple" /\ o.data=.seq pS n/\pS.size<=sizeLine/\AG xs pS.toList
noncomputable def jW:A3->Option V
 | .none=>some .pX
 | .bool b=>some (.bl b)
 | .int i _=>some (.int i)
 | .str x _=>some (.str x)
 | .bytes b _=>some (.wj b)
 | .float b _=>some (.tJ b)
 | .ref a=>some (.ref a)
 | .type n=>some (.ty n)
 | _=>none
theorem RelV.abs{x:V}(r:RelV x u):jW u=some x:=by
 cases x with
 | pX=>cases r;rfl
 | bl _=>cases r;rfl
 | int _=>obtain⟨t,rfl⟩:=r;rfl
 | str _=>obtain⟨t,rfl⟩:=r;rfl
 | wj _=>obtain⟨t,rfl⟩:=r;rfl
 | tJ _=>obtain⟨t,rfl⟩:=r;rfl
 | ref _=>cases r;rfl
 | ty _=>cases r;rfl
theorem RelV.inj{x y:V}(r:RelV x u)(q:RelV y u):x=y:=C7 (r.abs.symm.trans q.abs)
theorem AG.inj:∀{xs ys:List V} {us:List A3},AG xs us->AG ys us->xs=ys
 | _,_,_,.nil,.nil=>rfl
 | _,_,_,.cons r t,.cons r' t'=>by rw[r.inj r',AG.inj t t']
section
variable {X:Cx} {pins:List (A8×Obj)} {σ:St} {H:Hp} {s:A5} {a:A8} {xs ys:List V}
theorem Inv.list(I:Inv X pins σ H s)(h:CO X.K H a xs):∃pS:List A3,AG xs pS/\PlainL s.heap a pS.toArray/\xs.length<=sizeLine:=by
 rcases h with h | ⟨o,pS,n,hk,hc,hd,hs,hz,r⟩
 ·obtain⟨z,pS,n,r,e⟩:=h.ok I.pb;exact⟨pS,r,⟨_,n,e,rfl,rfl,rfl⟩,z⟩
 ·refine⟨pS.toList,r,⟨o,n,I.qe a o hk,hc,hd,by simpa using hs⟩,?_⟩;have e:=r.length;simp only[R8] at e;omega
theorem Inv.tuple(I:Inv X pins σ H s)(h:Cg X.K H a xs):∃pS:List A3,AG xs pS/\IsTup s.heap a pS.toArray/\xs.length<=sizeLine:=by
 rcases h with h | ⟨o,pS,n,hk,hc,hs,hz,r⟩
 ·obtain⟨z,pS,r,p⟩:=h.ok I.pb;exact⟨pS,r,p.tup,z⟩
 ·refine⟨pS.toList,r,⟨o,I.qe a o hk,hc,n,by simpa using hs⟩,?_⟩;have e:=r.length;simp only[R8] at e;omega
theorem Inv.rN(I:Inv X pins σ H s)(h:CO X.K H a xs)(h':CO X.K H a ys):xs=ys:=by
 obtain⟨pS,r,⟨o,n,e,_,_,d⟩,_⟩:=I.list h;obtain⟨its',r',⟨o',n',e',_,_,d'⟩,_⟩:=I.list h';rw[e] at e';cases e';rw[d] at d';injection d' with d1 _
 have:pS=its':=by simpa using congrArg pA d1
 subst this;exact r.inj r'
theorem Inv.qq(I:Inv X pins σ H s)(h:Cg X.K H a xs)(h':Cg X.K H a ys):xs=ys:=by
 obtain⟨pS,r,⟨o,e,_,n,d⟩,_⟩:=I.tuple h;obtain⟨its',r',⟨o',e',_,n',d'⟩,_⟩:=I.tuple h';rw[e] at e';cases e';rw[d] at d';injection d' with d1 _
 have:pS=its':=by simpa using congrArg pA d1
 subst this;exact r.inj r'
end
noncomputable abbrev Cx.qR(X:Cx)(E:A3->A5->Prop):Cx:={ X with xe:=E }
noncomputable abbrev Cx.rC(X:Cx):Cx:=X.qR fun _ _=>False
theorem Cx.Ok.qR(ok:X.Ok)(E:A3->A5->Prop):(X.qR E).Ok:=
 ⟨ok.mod,ok.kind,ok.glob,ok.blt,ok.above,ok.inj,ok.has,ok.xn,ok.hd,ok.frames,ok.xx,ok.exf,ok.bs,ok.uY,ok.tO,ok.uN,ok.qo,ok.vm⟩
theorem Cx.Ok.pq(ok:(X.qR E).Ok):X.Ok:=
 ⟨ok.mod,ok.kind,ok.glob,ok.blt,ok.above,ok.inj,ok.has,ok.xn,ok.hd,ok.frames,ok.xx,ok.exf,ok.bs,ok.uY,ok.tO,ok.uN,ok.qo,ok.vm⟩
section
variable {X:Cx} {pins:List (A8×Obj)} {σ:St} {H:Hp} {s:A5} {E:A3->A5->Prop}
theorem Inv.qR(I:Inv X pins σ H s)(E:A3->A5->Prop):Inv (X.qR E) pins σ H s:=⟨I.ok.qR E,I.os,I.bare,I.base,I.loc,I.cell,I.free,I.qI,I.pin,I.pb,I.len⟩
theorem Inv.pq(I:Inv (X.qR E) pins σ H s):Inv X pins σ H s:=⟨I.ok.pq,I.os,I.bare,I.base,I.loc,I.cell,I.free,I.qI,I.pin,I.pb,I.len⟩
theorem SP.pq{D:Ends}{f:Flow}{s':A5}(h:SP (X.qR E) pins D f s'):SP X pins D f s':=by
 cases f with
 | next=>obtain⟨σ',H',I,q⟩:=h;exact⟨σ',H',I.pq,q⟩
 | brk=>obtain⟨σ',H',I,q⟩:=h;exact⟨σ',H',I.pq,q⟩
 | cont=>obtain⟨σ',H',I,q⟩:=h;exact⟨σ',H',I.pq,q⟩
 | ret u=>obtain⟨v,σ',H',I,r,q⟩:=h;exact⟨v,σ',H',I.pq,r,q⟩
theorem PT.rC{t:TT}(h:PT X.rC e t):PT X e t:=fun pins s σ H Q I hw =>
 J4 (h pins s σ H Q (I.qR _) hw) (fun _ _ ⟨H',I',q⟩=>⟨H',I'.pq,q⟩) fun _ _ z=>D2 z
theorem CP.rC{st:List G0}{t:TS}(h:CP X.rC st t):CP X st t:=fun pins s σ H D I hw =>
 J4 (h pins s σ H D (I.qR _) hw) (fun _ _ q=>q.pq) fun _ _ z=>D2 z
end
section
variable {X:Cx} {st:G0} {rest:List G0} {t u:TS} {e:Expr} {te:TE} {pos:Pos}
abbrev QM:TS:=fun D σ H=>D.nx σ H
abbrev iV(t u:TS):TS:=fun D σ H=>t { D with nx:=u D } σ H
theorem EB:CP X [] QM:=fun _ _ σ H _ I h=>S8 ⟨σ,H,I,h⟩
theorem Ct(h1:PS X st t)(h2:CP X rest u):CP X (st::rest) (iV t u):=by
 intro pins s σ H D I h;refine O6 (Ac (h1 pins s σ H { D with nx:=u D } I h) fun f s1 q=>?_);cases f with
 | next =>
  obtain⟨σ',H',I',q⟩:=q;exact h2 pins s1 σ' H' D I' q
 | ret v=>exact q
 | brk=>exact q
 | cont=>exact q
theorem VM(h1:PS X st t):CP X [st] t:=by
 intro pins s σ H D I h;refine O6 (Ac (h1 pins s σ H D I h) fun f s1 q=>?_);cases f with
 | next=>exact S8 q
 | ret v=>exact q
 | brk=>exact q
 | cont=>exact q
theorem VN:PS X (.Pass pos) QM:=fun _ _ σ H _ I h=>wpAny_Pass ⟨σ,H,I,h⟩
theorem Inv.quiet(I:Inv X pins σ H s):interactive X.env=false:=by simp[interactive,I.ok.kind]
theorem Zk{x j pos pos'}:PS X (.Expr (.Constant (.str x) j pos) pos') QM:=fun _ s σ H _ I h=>wpAny_Expr (me (show SP X _ _ .next { s with toks:=s.toks+1 } from⟨σ,H,I.tok _,h⟩)) I.quiet
abbrev dg(te:TE):TS:=fun D σ H=>te σ H fun _ H1=>D.nx σ H1
theorem VP(he:PE X e te)(hs:Q4 e none pos.line X.env=pure false:=by rfl):PS X (.Expr e pos) (dg te):=by
 intro pins s σ H D I h;exact wpAny_Expr_any (Ac (he pins s σ H _ I h) fun v s1 ⟨x,H1,I1,r1,q1⟩=>⟨σ,H1,I1,q1⟩) I.quiet hs
abbrev iW(te:TE):TS:=fun D σ H=>te σ H D.rt
theorem Zi(he:PE X e te):PS X (.Return (some e) pos) (iW te):=by
 intro pins s σ H D I h;exact wpAny_Return_some (Ac (he pins s σ H _ I h) fun v s1 ⟨x,H1,I1,r1,q1⟩=>⟨x,σ,H1,I1,r1,q1⟩)
abbrev iZ(c:TT)(t u:TS):TS:=fun D σ H=>c σ H fun b H1=>if b=true then t D σ H1 else u D σ H1
theorem Xv{c:Expr}{a b:List G0}{tc:TT}(hc:PT X c tc)(ha:CP X a t)(hb:CP X b u):PS X (.If c a b pos) (iZ tc t u):=by
 intro pins s σ H D I h;refine wpAny_If (Ac (hc pins s σ H _ I h) fun d s1 ⟨H1,I1,q1⟩=>?_);cases d with
 | true=>exact ha pins s1 σ H1 D I1 q1
 | false=>exact hb pins s1 σ H1 D I1 q1
end
abbrev TG:=V->St->Hp->(St->Hp->Prop)->Prop
abbrev Iv:=List V->St->Hp->(St->Hp->Prop)->Prop
def PG(X:Cx)(target:Expr)(t:TG):Prop:=
 ∀(pins:List (A8×Obj)) (s:A5) (σ:St) (H:Hp) (v:V) (u:A3) (Q:St->Hp->Prop),Inv X pins σ H s->RelV v u->t v σ H Q ->
  B4 (C3 X.prog X.w) X.A (T9 target X.env u) (fun _ s'=>∃σ' H',Inv X pins σ' H' s'/\Q σ' H') X.xe s
def cV(X:Cx)(ts:List Expr)(t:Iv):Prop:=
 ∀(pins:List (A8×Obj)) (s:A5) (σ:St) (H:Hp) (vs:List V) (us:List A3) (Q:St->Hp->Prop),Inv X pins σ H s->AG vs us->t vs σ H Q ->
  B4 (C3 X.prog X.w) X.A (Z7 ((K3 ts X.env).map (·.2)) us) (fun _ s'=>∃σ' H',Inv X pins σ' H' s'/\Q σ' H') X.xe s
abbrev Pk:=V->V->V->Hp->(Hp->Prop)->Prop
def Kd(X:Cx)(t:Pk):Prop:=
 ∀(pins:List (A8×Obj)) (s:A5) (σ:St) (H:Hp) (o i v:V) (ov iv u:A3) (Q:Hp->Prop),Inv X pins σ H s->RelV o ov->RelV i iv->RelV v u->t o i v H Q ->
  B4 (C3 X.prog X.w) X.A (setItem ov iv u) (fun _ s'=>∃H',Inv X pins σ H' s'/\Q H') X.xe s
variable {tg:Expr}
section
variable {X:Cx} {pos:Pos}
abbrev CM(i:Nat):TG:=fun v σ H Q=>Q (σ.set i (some v)) H
theorem Vb(hN:X.N.Nodup)(hi:X.N[i]?=some x)(hx:Loc X.env.scope x)(hf:X.fn x=true\/X.env.scope.names.lookup x=some .local:=by first | exact .inl rfl | exact .inr rfl | assumption):PG X (.Name x pos) (CM i):=by
 intro pins s σ H v u Q I r h;exact mx (Ck I hN hi hx r (fun s' I'=>⟨_,H,I',h⟩) hf)
abbrev Ji:Iv:=fun vs σ H Q=>vs=[]/\Q σ H
abbrev CN(t:TG)(u:Iv):Iv:=fun vs σ H Q=>∃v r,vs=v::r/\t v σ H fun σ' H'=>u r σ' H' Q
theorem Mq:cV X [] Ji:=by
 intro pins s σ H vs us Q I r h;obtain⟨e,h⟩:=h;subst e;cases r;exact my ⟨σ,H,I,h⟩
theorem Fy{es:List Expr}{t:TG}{u:Iv}(h1:PG X e t)(h2:cV X es u)
    (hs:(K3 (e::es) X.env).map (·.2)=T9 e X.env::(K3 es X.env).map (·.2):=by rfl):cV X (e::es) (CN t u):=by
  intro pins s σ H vs us Q I r h;obtain⟨v,vr,e1,h⟩:=h;subst e1;cases r with
  | cons r rr =>
    rw[hs];refine Y1 (Ac (h1 pins s σ H _ _ _ I r h) fun _ s1 ⟨sI,H1,I1,q1⟩=>?_);exact h2 pins s1 sI H1 _ _ Q I1 rr q1
abbrev aw(K:W.Frag)(n:Nat)(t:Iv):TG:=fun v σ H Q=>∃a xs,v=.ref a/\Cg K H a xs/\xs.length=n/\t xs σ H Q
theorem RN{es:List Expr}{k:Nat}{t:Iv}{n:Nat}(hc:X.calm=true)(h:cV X es t)
    (hn:(K3 es X.env).length=n:=by rfl) (rD:(K3 es X.env).findIdx? (·.1)=none:=by rfl):PG X (.Tuple es k pos) (aw X.K n t):=by
  intro pins s σ H v u Q I r hw;obtain⟨a,xs,e1,hq,hl,hw⟩:=hw;subst e1;cases r;obtain⟨pS,rv,ht,hz⟩:=I.tuple hq;refine assign_Tuple_tuple (I.ok.hd hc) ht (by simp[hn,<- hl,rv.length]) rD fun h' hx=>?_
  have I1:Inv X pins σ H { s with heap:=h' }:=I.kept (t':=s.toks) fun b o e=>hx b o (D3 (B7 e)) e
  exact h pins _ σ H xs _ Q I1 (by simpa using rv) hw
abbrev fh(to ti:TE)(t:Pk):TG:=fun v σ H Q=>to σ H fun o H1=>ti σ H1 fun i H2=>t o i v H2 fun H3=>Q σ H3
theorem Zu{o i:Expr}{to ti:TE}{t:Pk}(ho:PE X o to)(hi:PE X i ti)(hs:Kd X t)
    (ha:∀v,T9 (.Subscript o i pos) X.env v=(do
      let ov <- i9 [v] (M3 o X.env)
      let iv <- i9 [v,ov] (M3 i X.env)
      o9 pos
      i9 [v,ov,iv] (setItem ov iv v)
      release [v,ov,iv] []):=by intro _;rfl):PG X (.Subscript o i pos) (fh to ti t):=by
  intro pins s σ H v u Q I r h;rw[ha];refine A0 (G7 (Ac (ho pins s σ H _ I h) fun ov s1 ⟨x,H1,I1,r1,q1⟩=>?_));refine A0 (G7 (Ac (hi pins s1 σ H1 _ I1 q1) fun iv s2 ⟨y,H2,I2,r2,q2⟩=>?_));refine A0 (Q5 (A0 (G7 (Ac (hs pins s2 σ H2 x y v ov iv u _ I2 r1 r2 r q2) fun _ s3 ⟨H3,I3,q3⟩=>?_))));exact wpAny_release ⟨σ,H3,I3,q3⟩
abbrev JG(te:TE)(g:TG):TS:=fun D σ H=>te σ H fun x H1=>g x σ H1 D.nx
theorem RG{te:TE}{g:TG}(he:PE X e te)(hg:PG X tg g)(hs:V7 [tg] e pos.line X.env=pure false:=by rfl)(hw:S3 [tg] e X.env=pure none:=by rfl)
    (h1:(K3 [tg] X.env).map (·.2)=[T9 tg X.env]:=by rfl):PS X (.Assign [tg] e pos) (JG te g):=by
  intro pins s σ H D I h;refine wpAny_Assign_stores (Ac (he pins s σ H _ I h) fun v s1 ⟨x,H1,I1,r1,q1⟩=>?_) hs hw;rw[h1];exact Ac (hg pins s1 σ H1 x v _ I1 r1 q1) fun _ s2 q=>q
theorem RE{te:TE}{pos':Pos}(hN:X.N.Nodup)(hi:X.N[i]?=some x)(hx:Loc X.env.scope x)(he:PE X e te)(hs:Q4 e (some (.Name x pos')) pos.line X.env=pure false:=by rfl)(hf:X.fn x=true\/X.env.scope.names.lookup x=some .local:=by first | exact .inl rfl | exact .inr rfl | assumption) :
    PS X (.Assign [.Name x pos'] e pos) (JG te (CM i)):=by
  intro pins s σ H D I h;refine wpAny_Assign_Name (Ac (he pins s σ H _ I h) fun v s1 ⟨y,H1,I1,r1,q1⟩=>?_) hs;exact Ck I1 hN hi hx r1 (fun s2 I2=>⟨_,H1,I2,q1⟩) hf
abbrev iX(i j:Nat)(ta:TA):TS:=fun D σ H=>ta σ H fun vs H1=>∃v w,vs=[v,w]/\D.nx ((σ.set i (some v)).set j (some w)) H1
theorem Zj{j:Nat}{y:Str}{a b:Expr}{ta:TA}{px py pt:Pos}{kt k2 pt2}(hc:X.calm=true)(hN:X.N.Nodup)(hi:X.N[i]?=some x)(hj:X.N[j]?=some y)(hij:i≠j)
    (hx:X.env.scope.names.lookup x=some .local) (hy:X.env.scope.names.lookup y=some .local) (ha:PA X [a,b] ta)
    (hw:S3 [.Tuple [.Name x px,.Name y py] kt pt] (.Tuple [a,b] k2 pt2) X.env=pure (some [x,y]))
    (hs:V7 [.Tuple [.Name x px,.Name y py] kt pt] (.Tuple [a,b] k2 pt2) pos.line X.env=pure false:=by rfl) :
    PS X (.Assign [.Tuple [.Name x px,.Name y py] kt pt] (.Tuple [a,b] k2 pt2) pos) (iX i j ta):=by
  intro pins s σ H D I h;rw[exec_Assign_arm];refine A0 (Q5 ?_);rw[hs];refine A0 (A7 ?_);rw[if_neg (by decide)];refine A0 (Tuple_ (Ac (ha _ pins s σ H _ I h) fun us s1 ⟨vs,H1,I1,r1,q1⟩=>?_));obtain⟨v,w,e1,q1⟩:=q1;subst e1;obtain⟨u1,u2,rfl,rv,sN⟩:∃u1 u2,us=[u1,u2]/\RelV v u1/\RelV w u2:=by
    cases r1 with
    | cons p q =>
      cases q with
      | cons p' q' =>
        cases q';exact⟨_,_,rfl,p,p'⟩
  refine F9 ?_ (by show 2<=sizeLine;decide)
  have I2:Inv X pins σ H1 { s1 with heap:=s1.heap.push { cls:=.type "tuple", data:=.seq [u1,u2].toArray } }:=I1.kept (t':=s1.toks) fun b o e=>A6 _ e
  rw[hw];refine A0 (A7 ?_)
  show B4 (C3 X.prog X.w) X.A (do rule "assign.swapped-stores"; let items <- oA (.ref s1.heap.objs.size) 2 none;Z7 [fun v=>l0 X.env y v,fun v=>l0 X.env x v] items.reverse;pure Flow.next) _ _ _
  refine A0 (V2 (A0 (unpackItems_tuple (items:=#[u1,u2]) (I.ok.hd hc) (IsTup.new s1.heap _) fun h' vL=>?_)));have I3:=I2.kept (h':=h') (t':=s1.toks) fun b o e=>vL b o (D3 (B7 e)) e
  show B4 _ _ (Z7 [fun v=>l0 X.env y v,fun v=>l0 X.env x v] [u2,u1] >>= fun _=>pure Flow.next) _ _ _;refine A0 (Y1 (wpAny_bindName (Ck I3 hN hj (.inl hy) sN (fun s2 I4=>?_) (.inr hy))));refine Y1 (wpAny_bindName (Ck I4 hN hi (.inl hx) rv (fun s3 I5=>my (A7 ?_)) (.inr hx)));rw[oz _ _ (Ne.symm hij)] at I5;exact⟨_,H1,I5,q1⟩
end
variable {body:List G0}
section
variable {X:Cx} {pos:Pos}
def QK(c:TT)(tb:TS):TS:=fun D σ H=>∃W:Nat->St->Hp->Prop,(∃m,W m σ H)/\∀m σ H,W m σ H ->
 c σ H fun b H1=>if b=true then ∃N:St->Hp->Prop,(∀σ' H',N σ' H'->∃m',m' < m/\W m' σ' H')/\tb { D with nx:=N,ct:=N,bk:=D.nx } σ H1 else D.nx σ H1
theorem RD{c:Expr}{tc:TT}{tb:TS}(hp:g7 (C3 X.prog X.w) X.A X.env X.xe)(hc:PT X c tc)(hb:CP X body tb):PS X (.While c body [] pos) (QK tc tb):=by
 intro pins s σ H D I h;obtain⟨W,⟨m0,w0⟩,turn⟩:=h;refine wpAny_While (codeAny_whileLoop (fun n s'=>∃σ' H',Inv X pins σ' H' s'/\W n σ' H') ?_ m0 ⟨σ,H,I,w0⟩);rintro n s1 ⟨sI,H1,I1,w1⟩;refine O1 hp (Ac (hc pins s1 sI H1 _ I1 (turn n sI H1 w1)) fun b s2 ⟨H2,I2,q2⟩=>?_);cases b with
 | true =>
  obtain⟨N,hN,q2⟩:=q2;rw[if_pos rfl];refine O1 hp (Ac (hb pins s2 sI H2 _ I2 q2) fun f s3 q3=>?_);cases f with
  | next =>
   obtain⟨ua,H3,I3,n3⟩:=q3;obtain⟨m',hm,w3⟩:=hN ua H3 n3;exact⟨m',hm,ua,H3,I3,w3⟩
  | cont =>
   obtain⟨ua,H3,I3,n3⟩:=q3;obtain⟨m',hm,w3⟩:=hN ua H3 n3;exact⟨m',hm,ua,H3,I3,w3⟩
  | brk=>exact q3
  | ret v=>exact q3
 | false =>
  rw[if_neg C6];exact S8 ⟨sI,H2,I2,q2⟩
end
structure It where
 go:Nat->Hp->Prop
 yK:Nat->Hp->V->Hp->Prop
 stop:Nat->Hp->Prop
def pd(X:Cx)(pins:List (A8×Obj))(H:Hp)(b:A8):Prop:=
 H b=none/\b≠X.env.locals/\b∉X.fs/\(b∈X.ex\/X.pz.heap.objs.size<=b)/\(∀x c,X.env.cells.lookup x=some c->c≠b)/\∀p∈X.pn++pins,p.1≠b
theorem Inv.pZ{H':Hp}(I:Inv X pins σ H s)(hb:s.heap.objs.size<=b)(hn:H' b=none):pd X pins H' b:=by
 refine⟨hn,U0 (B3 I.lt hb),I.yn hb,.inr (A9 I.sz hb),fun x c e z=>?_,fun p hp z=>?_⟩
 ·obtain⟨v,q⟩:=I.cell x c e;exact absurd (B3 q.lt (by rw[z];exact hb)) (H8 _)
 ·exact absurd (B3 (B7 (I.pin p hp).1) (by rw[z];exact hb)) (H8 _)
structure Turn (P:E2) (w:F6) (K:W.Frag) (tg:Expr) (J:It) (fp:List A8) (it:A8) (tn:Nat->F1->Prop):Prop where
 mem:it∈fp
 obj:∀i h,tn i h->∀b∈fp,∃o,h.get? b=some o/\∀v,o.data≠.cell v
 keep:∀i h h',tn i h->(∀b∈fp,∀o,h.get? b=some o->h'.get? b=some o)->tn i h'
 item:∀(X:Cx),X.prog=P->X.w=w->X.K=K->X.calm=true->∀(i:Nat) (pins:List (A8×Obj)) (s:A5) (σ:St) (H:Hp) (E:A3->A5->Prop),Inv X pins σ H s->(∀b∈fp,pd X pins H b)->tn i s.heap->J.go i H ->
  B4 (C3 P w) X.A (mf (.ref it)) (fun r s1=>∃u,r=some u /\
   B4 (C3 P w) X.A (W3 tg (.ref it) u) (fun _ s2=>∃x H',Inv X pins σ H' s2/\RelV x u/\J.yK i H x H'/\tn (i+1) s2.heap/\∀b∈fp,H' b=none) E s1) E s
 done:∀(X:Cx),X.prog=P->X.w=w->X.K=K->X.calm=true->∀(i:Nat) (pins:List (A8×Obj)) (s:A5) (σ:St) (H:Hp) (E:A3->A5->Prop),Inv X pins σ H s->(∀b∈fp,pd X pins H b)->tn i s.heap->J.stop i H ->
  B4 (C3 P w) X.A (mf (.ref it)) (fun r s1=>r=none/\Inv X pins σ H s1) E s
 self:∀(A:F3) (i:Nat) (s:A5) (Q:A3->A5->Prop) (E:A3->A5->Prop),tn i s.heap->Q (.ref it) s->B4 (C3 P w) A (pyIter (.ref it)) Q E s
abbrev TI:=St->Hp->(It->Hp->Prop)->Prop
def ka(X:Cx)(pins:List (A8×Obj))(σ:St)(tg:Expr)(R:It->Hp->Prop)(itv:A3)(s2:A5):Prop:=
 ∃(it:A8) (fp:List A8) (tn:Nat->F1->Prop) (J:It) (H':Hp),itv=.ref it/\Inv X pins σ H' s2/\Turn X.prog X.w X.K tg J fp it tn/\tn 0 s2.heap/\(∀b∈fp,pd X pins H' b)/\R J H'
def PI(X:Cx)(tg iter:Expr)(wi:TI):Prop:=
 ∀(pins:List (A8×Obj)) (s:A5) (σ:St) (H:Hp) (R:It->Hp->Prop),Inv X pins σ H s->wi σ H R ->
  B4 (C3 X.prog X.w) X.A (M3 iter X.env) (fun v s1=>B4 (C3 X.prog X.w) X.A (pyIter v) (ka X pins σ tg R) X.xe s1) X.xe s
theorem Rz{M:ny}{A:F3}{E:A3->A5->Prop}{tg:Expr}{it:A8}{u:A3}{o:Obj}{n:String}{vs:Array A3}{Q:Unit->A5->Prop}(ho:s.heap.get? it=some o)(hc:o.cls=.type n)(hd:o.data=.fields vs)
    (hn:["enumerate", "zip", "dict_itemiterator", "dict_reverseitemiterator", "odict_iterator", "itertools.zip_longest", "itertools.pairwise"].contains n=false) (hQ:Q () s):B4 M A (W3 tg (.ref it) u) Q E s:=by
  unfold W3;cases tg<;>first
    | exact A7 hQ
    | (cases u<;>first
        | exact A7 hQ
        | (refine A0 (wpAny_load ho ?_)
           rw[hc,hd]
           show B4 M A (if(["enumerate", "zip", "dict_itemiterator", "dict_reverseitemiterator", "odict_iterator", "itertools.zip_longest", "itertools.pairwise"].contains n && vs[0]? == some (N3 _))=true then _ else _) Q E s
           rw[if_neg (by intro h;rw[hn,Bool.false_and] at h;cases h)];exact A7 hQ))
noncomputable def iB(K:W.Frag)(a:A8):It:=
 ⟨fun i H=>∃xs x,CO K H a xs/\xs[i]?=some x,fun i H x H'=>H'=H/\∀xs,CO K H a xs->xs[i]?=some x,fun i H=>∃xs,CO K H a xs/\xs.length<=i⟩
noncomputable def iR(K:W.Frag)(a:A8):It:=
 ⟨fun i H=>∃xs x,Cg K H a xs/\xs[i]?=some x,fun i H x H'=>H'=H/\∀xs,Cg K H a xs->xs[i]?=some x,fun i H=>∃xs,Cg K H a xs/\xs.length<=i⟩
noncomputable def iA(lo:Int)(n:Nat):It:=⟨fun i _=>i < n,fun i H x H'=>H'=H/\x=.int (lo+i),fun i _=>n<=i⟩
theorem Np{K:W.Frag}(a it:A8):Turn P w K tg (iB K a) [it] it (fun i h=>h.IsListIter it a i) where
 mem:=by simp
 obj:=fun i h st b hb=>by
  have e:b=it:=by simpa using hb
  subst e;obtain⟨o,e,c,d⟩:=st;exact⟨o,e,fun v z=>by rw[d] at z;cases z⟩
 keep:=fun i h h' st k=>st.at fun o e=>k it (by simp) o e
 item:=by
  intro X hP hw hK hc i pins s σ H E I hf st hg;subst hP hw hK;obtain⟨xs,x,hq,hx⟩:=hg;obtain⟨pS,rv,p,hz⟩:=I.list hq;obtain⟨u,hu,ru⟩:=rv.get hx;obtain⟨f0,f1,f2,f3,f4,f5⟩:=hf it (by simp);refine j4 st p.isList (x:=u) (by simpa using hu) fun h' tj sb=>?_
  have I1:Inv X pins σ H { s with heap:=h' }:=I.turned (t':=s.toks) (fun b o hb e=>(sb.2 b hb).trans e) f0 f1 f3 f4 f5;obtain⟨o,e,c,d⟩:=id tj;exact⟨u,rfl,Rz (s:={ s with heap:=h' }) e c d (by decide) ⟨x,H,I1,ru,⟨rfl,fun ys hy=>by rw[I.rN hy hq];exact hx⟩,tj,fun b hb=>(hf b hb).1⟩⟩
 done:=by
  intro X hP hw hK hc i pins s σ H E I hf st hg;subst hP hw hK;obtain⟨xs,hq,hx⟩:=hg;obtain⟨pS,rv,p,hz⟩:=I.list hq;obtain⟨f0,f1,f2,f3,f4,f5⟩:=hf it (by simp);have hl:=rv.length;exact lu (I.ok.hd hc) st p.isList (by simp;omega) fun h' eb=>⟨rfl,I.turned (t':=s.toks) (fun b o hb e=>eb b o hb e) f0 f1 f3 f4 f5⟩
 self:=fun _ _ _ _ _ st h=>wpAny_pyIter_listiter st h
theorem Ko{K:W.Frag}(a it:A8):Turn P w K tg (iR K a) [it] it (fun i h=>h.IsTupleIter it a i) where
 mem:=by simp
 obj:=fun i h st b hb=>by
  have e:b=it:=by simpa using hb
  subst e;obtain⟨o,e,c,d⟩:=st;exact⟨o,e,fun v z=>by rw[d] at z;cases z⟩
 keep:=fun i h h' st k=>st.at fun o e=>k it (by simp) o e
 item:=by
  intro X hP hw hK hc i pins s σ H E I hf st hg;subst hP hw hK;obtain⟨xs,x,hq,hx⟩:=hg;obtain⟨pS,rv,p,hz⟩:=I.tuple hq;obtain⟨u,hu,ru⟩:=rv.get hx;obtain⟨f0,f1,f2,f3,f4,f5⟩:=hf it (by simp);refine wpAny_pyNext_tuple_item st (show s.heap.IsTuple a pS.toArray from p) (x:=u) (by simpa using hu) fun h' tj sb=>?_
  have I1:Inv X pins σ H { s with heap:=h' }:=I.turned (t':=s.toks) (fun b o hb e=>(sb.2 b hb).trans e) f0 f1 f3 f4 f5;obtain⟨o,e,c,d⟩:=id tj;exact⟨u,rfl,Rz (s:={ s with heap:=h' }) e c d (by decide) ⟨x,H,I1,ru,⟨rfl,fun ys hy=>by rw[I.qq hy hq];exact hx⟩,tj,fun b hb=>(hf b hb).1⟩⟩
 done:=by
  intro X hP hw hK hc i pins s σ H E I hf st hg;subst hP hw hK;obtain⟨xs,hq,hx⟩:=hg;obtain⟨pS,rv,p,hz⟩:=I.tuple hq;obtain⟨f0,f1,f2,f3,f4,f5⟩:=hf it (by simp);have hl:=rv.length;exact wpAny_pyNext_tuple_end (I.ok.hd hc) st (show s.heap.IsTuple a pS.toArray from p) (by simp;omega) fun h' eb=>⟨rfl,I.turned (t':=s.toks) (fun b o hb e=>eb b o hb e) f0 f1 f3 f4 f5⟩
 self:=fun _ _ _ _ _ st h=>wpAny_pyIter_tupleiter st h
theorem Kp{K:W.Frag}(it:A8)(lo:Int)(n:Nat):Turn P w K tg (iA lo n) [it] it (fun i h=>IsRangeIter h it (lo+(i:Nat) * 1) ((n:Int) - (i:Nat)) 1) where
 mem:=by simp
 obj:=fun i h st b hb=>by
  have e:b=it:=by simpa using hb
  subst e;exact⟨_,st,fun v z=>by
   have z':Data.fields _=Data.cell v:=z;cases z'⟩
 keep:=fun i h h' st k=>k it (by simp) _ st
 item:=by
  intro X hP hw hK hc i pins s σ H E I hf st hg;subst hP hw hK;obtain⟨f0,f1,f2,f3,f4,f5⟩:=hf it (by simp);have W:=Walks.range (prog:=X.prog) (w:=X.w) (I.ok.hd hc) it lo 1 n;refine W.item i s _ _ hg st fun v h' tk hv tj kk=>?_
  obtain⟨t,rfl⟩:=hv;have I1:Inv X pins σ H { s with heap:=h',toks:=tk }:=I.turned (fun b o hb e=>kk b o (by simpa using hb) e) f0 f1 f3 f4 f5
  refine⟨_,rfl,Rz (s:={ s with heap:=h',toks:=tk }) (n := "range_iterator") tj rfl rfl (by decide) ⟨.int (lo+i),H,I1,⟨t,?_⟩,⟨rfl,rfl⟩,tj,fun b hb=>(hf b hb).1⟩⟩
  rw[Int.mul_one]
 done:=by
  intro X hP hw hK hc i pins s σ H E I hf st hg;subst hP hw hK;obtain⟨f0,f1,f2,f3,f4,f5⟩:=hf it (by simp);exact wpAny_pyNext_range_end (I.ok.hd hc) st (by have:n<=i:=hg;omega) fun h' eb=>⟨rfl,I.turned (t':=s.toks) (fun b o hb e=>eb b o hb e) f0 f1 f3 f4 f5⟩
 self:=fun _ _ _ _ _ st h=>wpAny_pyIter_rangeiter st h
section
variable {X:Cx} {tg:Expr}
theorem Qs{R:It->Hp->Prop}{E:A3->A5->Prop}{lo hi:Int}{t u v:Tok}{tk:Nat}(I:Inv X pins σ H s)(h1:-(2 ^ 62)<=lo)(h2:lo < 2 ^ 62)(h3:-(2 ^ 62)<=hi)(h4:hi < 2 ^ 62)
    (q:R (iA lo (hi - lo).toNat) H):B4 (C3 X.prog X.w) X.A (pyIter (.ref s.heap.objs.size)) (ka X pins σ tg R) E { s with heap:=s.heap.push { cls:=.type "range", data:=.fields #[.int lo t,.int hi u,.int 1 v] },toks:=tk }:=by
  refine wpAny_pyIter_range (IsRange.new ..) (small_one h1 h2 h3 h4) ?_
  have I1:Inv X pins σ H { s with heap:=s.heap.push { cls:=.type "range", data:=.fields #[.int lo t,.int hi u,.int 1 v] },toks:=tk }:=I.kept fun b o e=>A6 _ e
  refine⟨(s.heap.push { cls:=.type "range", data:=.fields #[.int lo t,.int hi u,.int 1 v] }).objs.size,[(s.heap.push { cls:=.type "range", data:=.fields #[.int lo t,.int hi u,.int 1 v] }).objs.size],_,_,H,rfl,
    I1.kept (t':=tk) fun b o e=>A6 _ e,Kp _ lo (hi - lo).toNat,?_,fun b hb=>?_,q⟩
  · have e1:lo+((0:Nat):Int) * 1=lo:=by simp
    have e2:(((hi - lo).toNat:Nat):Int) - ((0:Nat):Int)=o4 lo hi 1:=by rw[rangeSize_one];split<;>omega
    show IsRangeIter _ _ (lo+((0:Nat):Int) * 1) ((((hi - lo).toNat:Nat):Int) - ((0:Nat):Int)) 1;rw[e1,e2];exact D1 _ rfl
  · have e:b=(s.heap.push { cls:=.type "range", data:=.fields #[.int lo t,.int hi u,.int 1 v] }).objs.size:=by simpa using hb
    subst e;exact I1.pZ (B9 _) (I1.pb.fresh (B9 _))
abbrev ff(ta:TA):TI:=fun σ H R=>ta σ H fun vs H1=>∃j:Int,vs=[.int j]/\-(2 ^ 62)<=j/\j < 2 ^ 62/\R (iA 0 j.toNat) H1
theorem OH{a:Expr}{ta:TA}{p:Pos}(hg:Gl X "range")(hm:X.mg "range" = none)(ha:PA X [a] ta)(hs:E3 [a] X.env=[(false,M3 a X.env)]:=by rfl):PI X tg (.Call (.Name "range" p) [a] [] pos) (ff ta):=by
 intro pins s σ H R I h;refine Call_ (GL I hg hm boot_range (Q8 (Ac (ha pos pins s σ H _ I h) fun us s1 ⟨vs,H1,I1,r1,q1⟩=>?_) hs rfl));obtain⟨j,e,q1,q2,q⟩:=q1;subst e;cases r1 with
 | cons r rr =>
  cases rr;obtain⟨t,rfl⟩:=r;exact call_range_1 (Qs I1 (by omega) (by omega) q1 q2 (by simpa using q))
abbrev ia(wi:TI)(g:TG)(tb:TS):TS:=fun D σ H=>wi σ H fun J H1=>∃W:Nat->Nat->St->Hp->Prop,(∃m,W 0 m σ H1)/\∀i m σ H,W i m σ H ->
 (J.stop i H/\D.nx σ H)\/(J.go i H/\∃N:St->Hp->Prop,(∀σ' H',N σ' H'->∃m',m' < m/\W (i+1) m' σ' H')/\∀x H',J.yK i H x H'->g x σ H' fun qO H2=>tb { D with nx:=N,ct:=N,bk:=D.nx } qO H2)
noncomputable def IM(fp:List A8)(h:F1):List (A8×Obj):=fp.filterMap fun b=>(h.get? b).map fun o=>(b,o)
theorem CW{fp:List A8}{o:Obj}(hb:b∈fp)(e:h.get? b=some o):(b,o)∈IM fp h:=mh.mpr ⟨b,hb,by rw[e];rfl⟩
theorem OK{fp:List A8}{p:A8×Obj}(hp:p∈IM fp h):p.1∈fp/\h.get? p.1=some p.2:=by
 obtain⟨b,hb,e⟩:=mh.mp hp;cases q:h.get? b with
 | none=>rw[q] at e;cases e
 | some o =>
  rw[q] at e;have e':(b,o)=p:=C7 e;subst e';exact⟨hb,q⟩
theorem Inv.pinned{fp:List A8}(I:Inv X pins σ H s)(hf:∀b∈fp,pd X pins H b)(ho:∀b∈fp,∃o,s.heap.get? b=some o/\∀v,o.data≠.cell v):Inv X (pins++IM fp s.heap) σ H s:=
 I.qa fun p hp=>(D4.mp hp).elim (fun z=>I.pin p (B6 _ z)) fun z=>by
  obtain⟨hb,e⟩:=OK z;obtain⟨f0,f1,f2,_⟩:=hf p.1 hb;obtain⟨o,e',d⟩:=ho p.1 hb;rw[e] at e';cases e';exact⟨e,f0,f1,f2,d⟩
theorem Inv.rK{pl:List (A8×Obj)}(I:Inv X (pins++pl) σ H s):Inv X pins σ H s:=I.qa fun p hp=>I.pin p (B6 _ (C5 _ hp))
theorem RF{iter:Expr}{wi:TI}{g:TG}{tb:TS}{pos:Pos}(hp:g7 (C3 X.prog X.w) X.A X.env X.xe)(hc:X.calm=true)(hi:PI X tg iter wi)(hg:PG X tg g)(hb:CP X body tb)
    (hs:∀x,M6 iter X.env x=pure x:=by intro _;rfl):PS X (.For tg iter body [] pos) (ia wi g tb):=by
  intro pins s σ H D I h;refine wpAny_For (Ac (hi pins s σ H _ I h) fun v s1 h1=>Ac h1 fun itv s2 h2=>?_) hs;obtain⟨it,fp,tn,J,H2,e,I2,T,wt,f2,W,⟨m0,w0⟩,turn⟩:=h2;subst e
  -- zAv stays true of wF xJ objects through wF loop
  have tL:∀{H':Hp},(∀b∈fp,H' b=none)->∀b∈fp,pd X pins H' b:=fun hn b hb=>⟨hn b hb,(f2 b hb).2⟩
  refine codeAny_forLoop_any (fun n s'=>∃i σ' H',Inv X pins σ' H' s'/\tn i s'.heap/\(∀b∈fp,H' b=none)/\W i n σ' H') ?_ m0 ⟨0,σ,H2,I2,wt,fun b hb=>(f2 b hb).1,w0⟩;rintro n s3 ⟨i,ua,H3,I3,yY,ze,w3⟩;rcases turn i n ua H3 w3 with⟨stop,qn⟩ | ⟨go,N,hN,step⟩
  · refine O1 hp (Ac (T.done X rfl rfl rfl hc i pins s3 ua H3 X.xe I3 (tL ze) yY stop) fun r s4 ⟨hr,I4⟩=>?_);subst hr;exact S8 ⟨ua,H3,I4,qn⟩
  · refine O1 hp (Ac (T.item X rfl rfl rfl hc i pins s3 ua H3 X.xe I3 (tL ze) yY go) fun r s4 ⟨u,hr,h4⟩=>?_);subst hr;refine O1 hp (Ac h4 fun _ s5 ⟨x,H5,I5,r5,y5,vZ,fr5⟩=>?_);have I5':=I5.pinned (tL fr5) (T.obj _ _ vZ);refine O1 hp (Ac (hg _ s5 ua H5 x u _ I5' r5 (step x H5 y5)) fun _ s6 ⟨xv,H6,I6,q6⟩=>?_);refine O1 hp (Ac (hb _ s6 xv H6 _ I6 q6) fun f s7 q7=>?_);have again:∀{uZ:St} {H7:Hp},Inv X (pins++IM fp s5.heap) uZ H7 s7->N uZ H7->∃m,m < n/\∃i σ' H',Inv X pins σ' H' s7/\tn i s7.heap/\(∀b∈fp,H' b=none)/\W i m σ' H':=fun{uZ H7} I7 n7=>by
      obtain⟨m',hm,w7⟩:=hN uZ H7 n7;refine⟨m',hm,i+1,uZ,H7,I7.rK,T.keep _ _ _ vZ fun b hb o e=>(I7.pin (b,o) (B6 _ (B6 _ (CW hb e)))).1,fun b hb=>?_,w7⟩;obtain⟨o,e,d⟩:=T.obj _ _ vZ b hb;exact(I7.pin (b,o) (B6 _ (B6 _ (CW hb e)))).2.1
    cases f with
    | next=>obtain⟨uZ,H7,I7,n7⟩:=q7;exact again I7 n7
    | cont=>obtain⟨uZ,H7,I7,n7⟩:=q7;exact again I7 n7
    | brk=>obtain⟨uZ,H7,I7,q7⟩:=q7;exact⟨uZ,H7,I7.rK,q7⟩
    | ret v=>obtain⟨x7,uZ,H7,I7,r7,q7⟩:=q7;exact⟨x7,uZ,H7,I7.rK,r7,q7⟩
end
abbrev R2:=V->V->Hp->VK->Prop
def CH(X:Cx)(f:A3->A3->Sem A3)(r:R2):Prop:=
 ∀(pins:List (A8×Obj)) (s:A5) (σ:St) (H:Hp) (x y:V) (v u:A3) (Q:VK),Inv X pins σ H s->RelV x v->RelV y u->r x y H Q ->
  B4 (C3 X.prog X.w) X.A (f v u) (EP X pins σ Q) X.xe s
def jY(X:Cx)(f:A3->Sem A3)(r:V->Hp->VK->Prop):Prop:=
 ∀(pins:List (A8×Obj)) (s:A5) (σ:St) (H:Hp) (x:V) (v:A3) (Q:VK),Inv X pins σ H s->RelV x v->r x H Q ->
  B4 (C3 X.prog X.w) X.A (f v) (EP X pins σ Q) X.xe s
def Aw(X:Cx)(f:A3)(r:List V->Hp->VK->Prop):Prop:=
 ∀(pins:List (A8×Obj)) (s:A5) (σ:St) (H:Hp) (xs:List V) (us:List A3) (Q:VK),Inv X pins σ H s->AG xs us->r xs H Q ->
  B4 (C3 X.prog X.w) X.A (call f us) (EP X pins σ Q) X.xe s
def jZ(X:Cx)(r:V->Hp->(Bool->Hp->Prop)->Prop):Prop:=
 ∀(pins:List (A8×Obj)) (s:A5) (σ:St) (H:Hp) (x:V) (v:A3) (Q:Bool->Hp->Prop),Inv X pins σ H s->RelV x v->r x H Q ->
  B4 (C3 X.prog X.w) X.A (truthy v) (TP X pins σ Q) X.xe s
abbrev iG(r:R2)(ta tb:TE):TE:=fun σ H Q=>ta σ H fun x H1=>tb σ H1 fun y H2=>r x y H2 Q
abbrev ki(r:V->Hp->VK->Prop)(ta:TE):TE:=fun σ H Q=>ta σ H fun x H1=>r x H1 Q
def rI(C:Int->Int->Prop)(g:Int->Int->V):R2:=fun x y H Q=>∃i j,x=.int i/\y=.int j/\C i j/\Q (g i j) H
def Pq(g:Int->Int->V):R2:=fun x y H Q=>∃i j,x=.int i/\y=.int j/\Q (g i j) H
def rU(g:Int->V):V->Hp->VK->Prop:=fun x H Q=>∃i,x=.int i/\Q (g i) H
variable {r:R2}
section
variable {X:Cx} {a b c:Expr} {ta tb tc:TE} {pos:Pos}
theorem cL(ha:PE X a ta)(hb:PE X b tb){R:V->V->Hp->Prop}(I:Inv X pins σ H s)
    (h:ta σ H fun x H1=>tb σ H1 fun y H2=>R x y H2) {Q:A3->A5->Prop} {f:A3->A3->Sem A3}
    (hf:∀v u s2 x y H2,Inv X pins σ H2 s2->RelV x v->RelV y u->R x y H2->B4 (C3 X.prog X.w) X.A (f v u) Q X.xe s2) :
    B4 (C3 X.prog X.w) X.A (M3 a X.env) (fun v pV=>B4 (C3 X.prog X.w) X.A (M3 b X.env) (fun u rn=>B4 (C3 X.prog X.w) X.A (f v u) Q X.xe rn) X.xe pV) X.xe s:=by
  refine Ac (ha pins s σ H _ I h) fun v s1 ⟨x,H1,I1,r1,q1⟩=>?_
  refine Ac (hb pins s1 σ H1 _ I1 q1) fun u s2 ⟨y,H2,I2,r2,q2⟩=>?_
  exact hf v u s2 x y H2 I2 r1 r2 q2
theorem fC{op:l5}(ho:CH X (binaryOp op) r)(ha:PE X a ta)(hb:PE X b tb):PE X (.BinOp a op b pos) (iG r ta tb):=by
 intro pins s σ H Q I h;exact wpAny_BinOp (cL ha hb I h fun v u s2 x y H2 I2 rx ry q=>ho pins s2 σ H2 x y v u Q I2 rx ry q)
theorem fA{op:UnaryOp}{r:V->Hp->VK->Prop}(ho:jY X (unaryOp op) r)(ha:PE X a ta):PE X (.UnaryOp op a pos) (ki r ta):=by
 intro pins s σ H Q I h;exact UnaryOp_ (Ac (ha pins s σ H _ I h) fun v s1 ⟨x,H1,I1,r1,q1⟩=>ho pins s1 σ H1 x v Q I1 r1 q1)
theorem iI{f:A3->A3->Sem A3}{C:Int->Int->Prop}{g:Int->Int->Int}
    (rule:∀(i j:Int) (t u:Tok) (s:A5) (Q:A3->A5->Prop) (E:A3->A5->Prop),C i j->Q (.int (g i j) s.toks) { s with toks:=s.toks+1 }->B4 (C3 X.prog X.w) X.A (f (.int i t) (.int j u)) Q E s) :
    CH X f (rI C fun i j=>.int (g i j)):=by
  intro pins s σ H x y v u Q I rx ry h;obtain⟨i,j,rfl,rfl,hc,q⟩:=h;obtain⟨t,rfl⟩:=rx;obtain⟨t',rfl⟩:=ry;exact rule i j t t' s _ _ hc ⟨.int (g i j),H,I.tok _,⟨_,rfl⟩,q⟩
theorem fM{f:A3->A3->Sem A3}{g:Int->Int->Int}
    (rule:∀(i j:Int) (t u:Tok) (s:A5) (Q:A3->A5->Prop) (E:A3->A5->Prop),Q (.int (g i j) s.toks) { s with toks:=s.toks+1 }->B4 (C3 X.prog X.w) X.A (f (.int i t) (.int j u)) Q E s) :
    CH X f (Pq fun i j=>.int (g i j)):=by
  intro pins s σ H x y v u Q I rx ry h;obtain⟨i,j,rfl,rfl,q⟩:=h;obtain⟨t,rfl⟩:=rx;obtain⟨t',rfl⟩:=ry;exact rule i j t t' s _ _ ⟨.int (g i j),H,I.tok _,⟨_,rfl⟩,q⟩
theorem Vq{f:A3->A3->Sem A3}{g:Int->Int->Bool}
    (rule:∀(i j:Int) (t u:Tok) (s:A5) (Q:A3->A5->Prop) (E:A3->A5->Prop),Q (.bool (g i j)) s->B4 (C3 X.prog X.w) X.A (f (.int i t) (.int j u)) Q E s) :
    CH X f (Pq fun i j=>.bl (g i j)):=by
  intro pins s σ H x y v u Q I rx ry h;obtain⟨i,j,rfl,rfl,q⟩:=h;obtain⟨t,rfl⟩:=rx;obtain⟨t',rfl⟩:=ry;exact rule i j t t' s _ _ ⟨.bl (g i j),H,I,rfl,q⟩
def jh(i j:Int):Prop:=0 < j/\j < 1073741824
def jg(i j:Int):Prop:=0<=j/\j<=1000000/\i.natAbs < 2 ^ 64
def XT(i j:Int):Prop:=(-(2 ^ 64) < i/\i < 2 ^ 64)\/(-(2 ^ 64) < j/\j < 2 ^ 64)
theorem XT.ok{i j:Int}(h:XT i j):IntMulOk i j:=by
 rcases h with⟨h1,h2⟩ | ⟨h1,h2⟩
 ·exact .of_left (intBits_le_64 h1 h2)
 ·exact .of_right (intBits_le_64 h1 h2)
theorem aQ:CH X (binaryOp .Add) (Pq fun i j=>.int (i+j)):=fM fun _ _ _ _ _ _ _ q=>add_int q
theorem aI:CH X (binaryOp .Sub) (Pq fun i j=>.int (i - j)):=fM fun _ _ _ _ _ _ _ q=>sub_int q
theorem aK:CH X (binaryOp .Mult) (rI XT fun i j=>.int (i * j)):=iI fun _ _ _ _ _ _ _ hc q=>mul_int q hc.ok
theorem Vl:CH X (binaryOp .FloorDiv) (rI jh fun i j=>.int (i / j)):=iI fun i j _ _ _ _ _ hc q=>by
 have h1:(0:Int) < j:=hc.1;have h2:j < 1073741824:=hc.2;exact floordiv_int (by omega) (by rw[Int.fdiv_eq_ediv_of_nonneg i (by omega)];exact q) (.inl (PyProof.noPylong_small (by omega)))
theorem aL:CH X (binaryOp .Mod) (rI (fun _ j=>0 < j) fun i j=>.int (i % j)):=iI fun i j _ _ _ _ _ hc q=>by
 have h1:(0:Int) < j:=hc;exact mod_int' (by omega) (by rw[Int.fmod_eq_emod_of_nonneg i (by omega)];exact q)
theorem aJ:CH X (binaryOp .Pow) (rI jg fun i j=>.int (i ^ j.toNat)):=iI fun _ _ _ _ _ _ _ hc q=>pow_int_small hc.1 hc.2.1 hc.2.2 q
theorem kg{f:A3->Sem A3}{g:Int->Int}
    (rule:∀(i:Int) (t:Tok) (s:A5) (Q:A3->A5->Prop) (E:A3->A5->Prop),Q (.int (g i) s.toks) { s with toks:=s.toks+1 }->B4 (C3 X.prog X.w) X.A (f (.int i t)) Q E s) :
    jY X f (rU fun i=>.int (g i)):=by
  intro pins s σ H x v Q I rx h;obtain⟨i,rfl,q⟩:=h;obtain⟨t,rfl⟩:=rx;exact rule i t s _ _ ⟨.int (g i),H,I.tok _,⟨_,rfl⟩,q⟩
theorem Yw:jY X (unaryOp .USub) (rU fun i=>.int (-i)):=kg fun _ _ _ _ _ q=>neg_int q
end
variable {f:A3->A3->Sem A3}
section
variable {X:Cx} {a b c:Expr} {ta tb tc:TE} {pos:Pos}
theorem Le{Q:VK}{k k':Bool}(I:Inv X pins σ H s)(q:Q (.bl k) H)(e:k=k'):EP X pins σ Q (.bool k') s:=by
 subst e;exact⟨.bl k,H,I,rfl,q⟩
theorem fH:CH X (H9 .Lt) (Pq fun i j=>.bl (decide (i < j))):=Vq fun _ _ _ _ _ _ _ q=>lt_int q
theorem fJ:CH X (H9 .LtE) (Pq fun i j=>.bl (decide (i<=j))):=Vq fun _ _ _ _ _ _ _ q=>le_int q
theorem fK:CH X (H9 .Gt) (Pq fun i j=>.bl (decide (j < i))):=Vq fun _ _ _ _ _ _ _ q=>gt_int q
theorem fL:CH X (H9 .GtE) (Pq fun i j=>.bl (decide (j<=i))):=Vq fun _ _ _ _ _ _ _ q=>ge_int q
theorem OJ:CH X (H9 .In) (fun x y H Q=>∃i j,x=.str i/\y=.str j/\Q (.bl (!(O7 j i 0 j.length 1).isEmpty)) H):=by
 intro pins s σ H x y v u Q I rx ry h;obtain⟨i,j,rfl,rfl,q⟩:=h;obtain⟨t,rfl⟩:=rx;obtain⟨t',rfl⟩:=ry;exact in_str (Le I q rfl)
theorem aM:CH X (H9 .Is) (fun x y H Q=>y=.pX/\Q (.bl (decide (x=.pX))) H):=by
 intro pins s σ H x y v u Q I rx ry h;obtain⟨rfl,q⟩:=h;cases ry;refine is_none_gen (Le I q ?_);cases x<;>first
  | (cases rx;rfl)
  | (obtain⟨t,rfl⟩:=rx;rfl)
theorem Vj:CH X (H9 .IsNot) (fun x y H Q=>y=.pX/\Q (.bl (!decide (x=.pX))) H):=by
 intro pins s σ H x y v u Q I rx ry h;obtain⟨rfl,q⟩:=h;cases ry;refine isnot_none_gen (Le I q ?_);cases x<;>first
  | (cases rx;rfl)
  | (obtain⟨t,rfl⟩:=rx;rfl)
theorem CH.or{r':R2}(h:CH X f r)(h':CH X f r'):CH X f (fun x y H Q=>r x y H Q\/r' x y H Q):=by
 intro pins s σ H x y v u Q I rx ry q;rcases q with q | q
 ·exact h pins s σ H x y v u Q I rx ry q
 ·exact h' pins s σ H x y v u Q I rx ry q
theorem Ve(ho:CH X (H9 op) r)(ha:PE X a ta)(hb:PE X b tb)(hm:Z6 op b=false):PE X (.Compare a [op] [b] pos) (iG r ta tb):=by
 intro pins s σ H Q I h;exact wpAny_Compare1 (cL ha hb I h fun v u s2 x y H2 I2 rx ry q=>ho pins s2 σ H2 x y v u Q I2 rx ry q) hm
abbrev Xa(t:TE):TT:=fun σ H Q=>t σ H fun x H'=>∃k,x=.bl k/\Q k H'
theorem VL(ho:CH X (H9 op) r)(ha:PE X a ta)(hb:PE X b tb)(hm:Z6 op b=false):PT X (.Compare a [op] [b] pos) (Xa (iG r ta tb)):=by
 intro pins s σ H Q I h;refine lq (Ac (ha pins s σ H _ I h) fun v s1 ⟨x,H1,I1,r1,q1⟩=>Ac (hb pins s1 σ H1 _ I1 q1) fun u s2 ⟨y,H2,I2,r2,q2⟩ =>
  Ac (ho pins s2 σ H2 x y v u _ I2 r1 r2 q2) fun c s3 ⟨z,H3,I3,r3,k,e,q3⟩=>?_) hm
 subst e;cases r3;exact G4 ⟨H3,I3,q3⟩
abbrev Ks(r r':R2)(ta tb tc:TE):TE:=fun σ H Q=>ta σ H fun x H1=>tb σ H1 fun y H2=>r x y H2 fun z H3=>∃k,z=.bl k /\
 (if k=true then tc σ H3 fun w' H4=>r' y w' H4 Q else Q (.bl false) H3)
theorem RV{qX:W6}{r':R2}(ho:CH X (H9 op) r)(tG:CH X (H9 qX) r')(ha:PE X a ta)(hb:PE X b tb)(hc:PE X c tc)
    (hm:o5 [op,qX] [b,c]=false:=by with_unfolding_all rfl):PE X (.Compare a [op,qX] [b,c] pos) (Ks r r' ta tb tc):=by
  intro pins s σ H Q I h;refine Compare_chain (Ac (ha pins s σ H _ I h) fun v s1 ⟨x,H1,I1,r1,q1⟩=>chain_link (Ac (hb pins s1 σ H1 _ I1 q1) fun u s2 ⟨y,H2,I2,r2,q2⟩ =>
    Ac (ho pins s2 σ H2 x y v u _ I2 r1 r2 q2) fun d s3 ⟨z,H3,I3,r3,k,e,q3⟩=>?_)) hm
  subst e;cases r3;refine G4 ?_;cases k with
  | false=>exact ite_ff ⟨.bl false,H3,I3,rfl,q3⟩
  | true=>exact ite_tt (chain_last (Ac (hc pins s3 σ H3 _ I3 q3) fun w' s4 ⟨z',H4,I4,r4,q4⟩=>tG pins s4 σ H4 y z' u w' Q I4 r2 r4 q4))
theorem RC{qX:W6}{r':R2}(ho:CH X (H9 op) r)(tG:CH X (H9 qX) r')(ha:PE X a ta)(hb:PE X b tb)(hc:PE X c tc)
    (hm:o5 [op,qX] [b,c]=false:=by with_unfolding_all rfl):PT X (.Compare a [op,qX] [b,c] pos) (Xa (Ks r r' ta tb tc)):=by
  intro pins s σ H Q I h;refine isTrue_chain (Ac (ha pins s σ H _ I h) fun v s1 ⟨x,H1,I1,r1,q1⟩=>test_link (Ac (hb pins s1 σ H1 _ I1 q1) fun u s2 ⟨y,H2,I2,r2,q2⟩ =>
    Ac (ho pins s2 σ H2 x y v u _ I2 r1 r2 q2) fun d s3 ⟨z,H3,I3,r3,k,e,q3⟩=>?_)) hm
  subst e;cases r3;refine G4 ?_;cases k with
  | false =>
    obtain⟨k',e',q'⟩:=q3;cases e';exact ite_ff ⟨H3,I3,q'⟩
  | true =>
    refine ite_tt (test_last (Ac (hc pins s3 σ H3 _ I3 q3) fun w' s4 ⟨z',H4,I4,r4,q4⟩=>Ac (tG pins s4 σ H4 y z' u w' _ I4 r2 r4 q4) fun d' s5 ⟨z2,H5,I5,r5,k2,e2,q5⟩=>?_));subst e2;cases r5;exact G4 ⟨H5,I5,q5⟩
def UK(K:W.Frag)(x:V)(H:Hp)(k:Bool):Prop:=
 match x with
 | .pX=>k=false
 | .bl b=>k=b
 | .int i=>k=(i != 0)
 | .str y=>y.length<=sizeLine/\k=((y.length:Int) != 0)
 | .wj y=>y.size<=sizeLine/\k=((y.size:Int) != 0)
 | .ref p=>(∃xs,CO K H p xs/\k=!xs.isEmpty)\/(∃xs,Cg K H p xs/\k=!xs.isEmpty)\/∃pW,H p=some (.dK pW)/\k=!pW.isEmpty
 | _=>False
theorem LY{κ:Type}{pW:List (κ×V)}{vs:List (κ×A3)}(r:KV pW vs):(!vs.isEmpty)=!pW.isEmpty:=by
 cases r<;>rfl
theorem GO{xs:List V}{pS:List A3}(r:AG xs pS):(!pS.toArray.isEmpty)=!xs.isEmpty:=by
 cases r<;>simp
theorem Ee:(sizeLine:Nat) < 2 ^ 63:=by rw[T3];decide
theorem ZA:jZ X (fun x H Q=>∃k,UK X.K x H k/\Q k H):=by
 intro pins s σ H x v Q I rx h;obtain⟨k,e,q⟩:=h;have hl:=Ee;have hs:sizeLine=16777216:=T3;cases x with
 | pX =>
  cases rx;have e':k=false:=e;subst e';exact truthy_none ⟨H,I,q⟩
 | bl b =>
  cases rx;have e':k=b:=e;subst e';exact G4 ⟨H,I,q⟩
 | int i =>
  obtain⟨t,rfl⟩:=rx;have e':k=(i != 0):=e;subst e';exact PySem.P.truthy_int ⟨H,I,q⟩
 | str y =>
  obtain⟨t,rfl⟩:=rx;obtain⟨hy,e'⟩:y.length<=sizeLine/\k=((y.length:Int) != 0):=e;subst e';exact PySem.P.truthy_str (by omega) ⟨H,I.tok _,q⟩
 | wj y =>
  obtain⟨t,rfl⟩:=rx;obtain⟨hy,e'⟩:y.size<=sizeLine/\k=((y.size:Int) != 0):=e;subst e';exact W.truthy_bytes (by omega) ⟨H,I.tok _,q⟩
 | ref p =>
  cases rx;have e':(∃xs,CO X.K H p xs/\k=!xs.isEmpty)\/(∃xs,Cg X.K H p xs/\k=!xs.isEmpty)\/∃pW,H p=some (.dK pW)/\k=!pW.isEmpty:=e;rcases e' with⟨xs,hx,e'⟩ | ⟨xs,hx,e'⟩ | ⟨pW,hx,e'⟩
  ·subst e';obtain⟨pS,r,pl,hz⟩:=I.list hx;have hlen:=r.length;exact wpAny_truthy_list pl.isList (by simp only[B0];omega) ⟨H,I.tok _,by rw[GO r];exact q⟩
  ·subst e';obtain⟨pS,r,pl,hz⟩:=I.tuple hx;have hlen:=r.length;exact truthy_tuple pl (by simp only[B0];omega) ⟨H,I.tok _,by rw[GO r];exact q⟩
  ·subst e';obtain⟨hz,hS,vs,r,m⟩:pW.length<=sizeLine/\(p == T1)=false/\∃vs,KV pW vs/\s.heap.DictOf (Au X.prog X.w) p vs:=I.pb p _ hx;have hlen:pW.length=vs.length:=Paired.length r;exact wpAny_truthy_dict hS m (by omega) ⟨H,I.tok _,by rw[LY r];exact q⟩
 | _=>exact(show False from e).elim
theorem RB(ha:PE X a ta)(he:∀whole,oW a X.env whole=(do let v <- whole;o9 a.pos;i9 [v] (truthy v))) :
    PT X a (fun σ H Q=>ta σ H fun x H'=>∃k,UK X.K x H' k/\Q k H'):=by
  intro pins s σ H Q I h;exact isTrue_plain (Ac (ha pins s σ H _ I h) fun v s1 ⟨x,H1,I1,r1,q1⟩=>ZA pins s1 σ H1 x v Q I1 r1 q1) (he _)
theorem LM:CH X (binaryOp .Add) (fun x y H Q=>∃i j,x=.str i/\y=.str j/\i.length+j.length<=sizeLine/\Q (.str (i++j)) H):=by
 intro pins s σ H x y v u Q I rx ry h;obtain⟨i,j,rfl,rfl,hz,q⟩:=h;obtain⟨t,rfl⟩:=rx;obtain⟨t',rfl⟩:=ry;exact add_str (fun t' tk=>⟨.str (i++j),H,I.tok _,⟨_,rfl⟩,q⟩) hz
theorem vals1{x:V}(r:AG [x] us):∃u,us=[u]/\RelV x u:=by
 cases r with
 | cons r1 r2=>cases r2;exact⟨_,rfl,r1⟩
theorem dH{x y:V}(r:AG [x,y] us):∃u w',us=[u,w']/\RelV x u/\RelV y w':=by
 cases r with
 | cons r1 r2 =>
  cases r2 with
  | cons r3 r4=>cases r4;exact⟨_,_,rfl,r1,r3⟩
theorem PK(hc:X.calm=true):Aw X (.builtin "max") (fun xs H Q=>∃i j,xs=[.int i,.int j]/\Q (.int (if j > i then j else i)) H):=by
 intro pins s σ H xs us Q I r h;obtain⟨i,j,rfl,q⟩:=h;obtain⟨u,w',rfl,⟨t,rfl⟩,⟨t',rfl⟩⟩:=dH r;refine max_two_ints (I.ok.hd hc) fun h' tk k=>⟨_,H,I.kept k,?_,q⟩
 by_cases hj:j > i
 ·rw[if_pos hj,if_pos hj];exact⟨_,rfl⟩
 ·rw[if_neg hj,if_neg hj];exact⟨_,rfl⟩
theorem PQ:Aw X (.type "int") (fun xs H Q=>(∃i,xs=[.int i]/\Q (.int i) H)\/∃k,xs=[.bl k]/\Q (.int (if k then 1 else 0)) H):=by
 intro pins s σ H xs us Q I r h;rcases h with⟨i,rfl,q⟩ | ⟨k,rfl,q⟩
 ·obtain⟨u,rfl,t,rfl⟩:=vals1 r;exact call_int_int ⟨.int i,H,I,⟨_,rfl⟩,q⟩
 ·obtain⟨u,rfl,r1⟩:=vals1 r;cases r1;exact call_int_bool ⟨.int (if k then 1 else 0),H,I.tok _,⟨_,rfl⟩,q⟩
def hV(K:W.Frag)(x:V)(H:Hp)(n:Nat):Prop:=
 match x with
 | .str y=>y.length<=sizeLine/\n=y.length
 | .wj y=>y.size<=sizeLine/\n=y.size
 | .ref p=>(∃xs,CO K H p xs/\n=xs.length)\/∃xs,Cg K H p xs/\n=xs.length
 | _=>False
theorem Sz:Aw X (.builtin "len") (fun xs H Q=>∃x n,xs=[x]/\hV X.K x H n/\Q (.int n) H):=by
 intro pins s σ H xs us Q I r h;obtain⟨x,n,rfl,e,q⟩:=h;obtain⟨u,rfl,rx⟩:=vals1 r;have hl:=Ee;have hs:sizeLine=16777216:=T3;cases x with
 | str y =>
  obtain⟨t,rfl⟩:=rx;obtain⟨hy,e'⟩:y.length<=sizeLine/\n=y.length:=e;subst e';exact len_str (by omega) ⟨.int _,H,I.tok _,⟨_,rfl⟩,q⟩
 | wj y =>
  obtain⟨t,rfl⟩:=rx;obtain⟨hy,e'⟩:y.size<=sizeLine/\n=y.size:=e;subst e';exact W.len_bytes (by omega) ⟨.int _,H,I.tok _,⟨_,rfl⟩,q⟩
 | ref p =>
  cases rx;have e':(∃xs,CO X.K H p xs/\n=xs.length)\/∃xs,Cg X.K H p xs/\n=xs.length:=e;rcases e' with⟨xs,hx,e'⟩ | ⟨xs,hx,e'⟩
  ·subst e';obtain⟨pS,r',pl,hz⟩:=I.list hx;have hlen:=r'.length;exact Calls.call_len_list pl.isList (by simp only[B0];omega) ⟨.int xs.length,H,I.tok _,⟨_,by simp only[B0];rw[hlen]⟩,q⟩
  ·subst e';obtain⟨pS,r',pl,hz⟩:=I.tuple hx;have hlen:=r'.length;exact len_tuple pl (by simp only[B0];omega) ⟨.int xs.length,H,I.tok _,⟨_,by simp only[B0];rw[hlen]⟩,q⟩
 | _=>exact(show False from e).elim
end
structure v7 (h:F1) (x dx C:A8) (mA:Str->Option A3):Prop where
 obj:h.get? x=some (W.instObj C dx)
 ns:h.Ns1 dx mA
 ne:dx≠x
theorem Hd{dx:A8}{mA:Str->Option A3}(n:h.Ns1 dx mA):∃od,h.get? dx=some od/\∀name,W.lookIn name od=some (mA name):=by
  obtain⟨o,es,ep,ho,hd,hk,_,hm⟩:=n;refine⟨o,ho,fun name=>?_⟩;have e:=hm name;unfold nsFind findBy at e;rw[<- Array.find?_toList] at e;unfold W.lookIn;rw[hd];dsimp only;split
  · rename_i y q;rw[q] at e;exact congrArg some e
  · rename_i q;rw[q] at e;have a:es.toList.any (·.refKey)=false:=by
      rw[List.any_eq_false];intro y hy;obtain⟨z,t,zAc⟩:=hk y (Array.mem_toList_iff.mp hy);simp[DictEntry.refKey,zAc]
    have a':¬es.toList.any (·.refKey)=true:=by rw[a];exact C6
    rw[if_neg a'];exact congrArg some e
variable {C:A8}
theorem v7.look{x dx:A8}{mA:Str->Option A3}(I:v7 h x dx C mA):∃od,W.InstAt h x (W.instObj C dx) C (some od)/\∀name,W.lookIn name od=some (mA name):=
 let ⟨od,ho,hl⟩:=Hd I.ns
 ⟨od,⟨I.obj,rfl,rfl,ho⟩,hl⟩
section
variable {prog:E2} {w:F6} {A:F3} {E:A3->A5->Prop} {s:A5} {K:W.Frag} {x dx C f:A8} {mA:Str->Option A3} {name:Str} {v:A3}
theorem WQ{expr:Bool}{Q:A3->A5->Prop}(X:K.In s.heap)(I:v7 s.heap x dx C mA)(hg:W.plainGet K C name=true)(hh:W.hasDictIn K C=true)
    (ha:W.findIn K (.ref C) name=some none) (hv:mA name=some v) (hv':W.handedIn v=true) (h:Q v { s with toks:=s.toks+1 }) :
    B4 (C3 prog w) A (oS (.ref x) name expr) Q E s:=by
  obtain⟨od,J,hl⟩:=I.look;exact W.get_value X J (W.plainGet_of hg).1 (W.findObj_own hh ha rfl (by rw[hl,hv])) hv' h
end
theorem Gh.some_of{o:Option A3}(r:Gh (some v) o):∃u,o=some u/\RelV v u:=by
 cases o with
 | none=>exact(show False from r).elim
 | some u=>exact⟨u,rfl,r⟩
theorem Hi(r:RelV v u):W.handedIn u=true:=by
 cases v with
 | pX=>cases(show u=I9 from r);rfl
 | bl b=>cases(show u=ma b from r);rfl
 | int i=>obtain⟨t,e⟩:=(show ∃t,u=mM i t from r);cases e;rfl
 | str x=>obtain⟨t,e⟩:=(show ∃t,u=mN x t from r);cases e;rfl
 | wj b=>obtain⟨t,e⟩:=(show ∃t,u=pH b t from r);cases e;rfl
 | tJ b=>obtain⟨t,e⟩:=(show ∃t,u=nv b t from r);cases e;rfl
 | ref a=>cases(show u=D7 a from r);rfl
 | ty n=>cases(show u=X9 n from r);rfl
section
variable {P:E2} {w:F6} {H H':Hp} {h h':F1} {a C dx:A8} {fs uM:List (Str×V)}
theorem NG(pb:DT P w H h)(e:H a=some (.ins C dx fs)):∃mA,v7 h a dx C mA/\(∀f,Gh (fs.lookup f) (mA f))/\o8 mA (fs.map (·.1))/\fs.length<=1000/\H dx=some (.own a):=by
 obtain⟨d,z,ne,ob,mA,n,r,q⟩:=(show Ab P w H h a (.ins C dx fs) from pb a _ e);exact⟨mA,⟨ob,n,ne⟩,r,q,z,d⟩
end
structure xt (K:W.Frag) (C:A8):Prop where
 pg:W.plainGet K C Str.empty=true
 hd:W.hasDictIn K C=true
 po:W.plainOver K C=true
 sa:W.findIn K (.ref C) "__setattr__" = some (some (.builtin "object.__setattr__"))
theorem xt.get{K:W.Frag}(c:xt K C)(f:Str):W.plainGet K C f=true:=c.pg
def Iz(K:W.Frag)(C:A8)(f:Str):Prop:=W.findIn K (.ref C) f=some none
structure Meth (K:W.Frag) (C:A8) (m:Str) (f:A8):Prop where
 at_:W.findIn K (.ref C) m=some (some (.ref f))
 fn:W.isFn K (.ref f)=true
 kp:W.keepIn K (.ref f)=true
section
variable {X:Cx} {pins:List (A8×Obj)} {σ:St} {H:Hp} {s:A5} {a C dx:A8} {fs:List (Str×V)} {f:Str} {v:V} {A:F3} {E:A3->A5->Prop}
theorem Lb{b:Bool}{Q:A3->A5->Prop}(I:Inv X pins σ H s)(e:H a=some (.ins C dx fs))(c:xt X.K C)(n:Iz X.K C f)(l:fs.lookup f=some v)
    (h:∀u s',Inv X pins σ H s'->RelV v u->Q u s'):B4 (C3 X.prog X.w) A (oS (.ref a) f b) Q E s:=by
  obtain⟨mA,O,r,_,_,_⟩:=NG I.pb e;obtain⟨u,hu,ru⟩:=Gh.some_of (v:=v) (o:=mA f) (by rw[<- l];exact r f);exact WQ I.qe O (c.get f) c.hd n hu (Hi ru) (h u _ (I.tok _) ru)
theorem Na{prog:E2}{w:F6}{env:Env}{f:Str}{pos:Pos}{s:A5}{Q:A3->A5->Prop}(hb:M0 e f env (M3 e env)=M3 e env)
    (h:B4 (C3 prog w) A (M3 e env) (fun o pV=>B4 (C3 prog w) A (oS o f true) Q E pV) E s):B4 (C3 prog w) A (M3 (.Attribute e f pos) env) Q E s:=
  Attribute_any_ h (by rw[arm_eval_Attribute,hb])
end
def ZG(K:W.Frag)(ta:TE)(f:Str):TE:=fun σ H Q=>ta σ H fun x H1=>∃a C dx fs v,x=.ref a/\H1 a=some (.ins C dx fs)/\xt K C/\Iz K C f/\fs.lookup f=some v/\Q v H1
section
variable {X:Cx} {o e value:Expr} {f:Str} {pos pos' q8:Pos} {ta tv:TE}
theorem aD(he:PE X e ta)(hb:M0 e f X.env (M3 e X.env)=M3 e X.env):PE X (.Attribute e f pos) (ZG X.K ta f):=by
 intro pins s σ H Q I h;refine Na hb (Ac (he pins s σ H _ I h) fun u s1 ⟨x,H1,I1,rx,a,C,dx,fs,v,ex,ea,c,n,l,q⟩=>?_);subst ex;obtain rfl:u=D7 a:=rx;exact Lb I1 ea c n l fun u' s2 I2 ru=>⟨v,H1,I2,ru,q⟩
end
section
variable {X:Cx} {pins:List (A8×Obj)} {σ:St} {H:Hp} {s:A5} {A:F3} {E:A3->A5->Prop} {Q:A3->A5->Prop} {c:A3} {b:Bool}
inductive qh (K:W.Frag) (H:Hp):V->A3->Prop where
  | pX:qh K H .pX (.type "NoneType")
  | bl (x:Bool):qh K H (.bl x) (.type "bool")
  | int (i:Int):qh K H (.int i) (.type "int")
  | str (x:Str):qh K H (.str x) (.type "str")
  | tJ (x:UInt64):qh K H (.tJ x) (.type "float")
  | lst {a:A8} {xs:List V} (e:H a=some (.lst xs)):qh K H (.ref a) (.type "list")
  | sU {a:A8} {o:Obj} {xs:List V} (e:H a=some (.sU o (.lst xs))):qh K H (.ref a) (.type "list")
  | tup {a:A8} {xs:List V} (e:H a=some (.tup xs)):qh K H (.ref a) (.type "tuple")
  | dK {a:A8} {pW:List (BK×V)} (e:H a=some (.dK pW)):qh K H (.ref a) (.type "dict")
  | dT {a:A8} {pW:List (List BK×V)} (e:H a=some (.dT pW)):qh K H (.ref a) (.type "dict")
  | ins {a C dx:A8} {fs:List (Str×V)} (e:H a=some (.ins C dx fs)) (cl:xt K C) (ha:W.findIn K (.ref C) "__class__" = some (some (.builtin "object.__class__")))
      (hn:W.specialIn K (.builtin "object.__class__") "__get__" = some (some (.builtin "getset_descriptor.__get__"))) (htk:W.takesIn K (.builtin "object.__class__")=some true)
      (hm:W.mroIn K C (.type "object")=some true):qh K H (.ref a) (.ref C)
theorem Oa{x:V}{t:A3}(I:Inv X pins σ H s)(rx:RelV x u)(ty:qh X.K H x t)(e:W.kitOne X.K t c=some b)(h:∀tk,Q (.bool b) { s with toks:=tk }) :
    B4 (C3 X.prog X.w) A (call (.builtin "isinstance") [u,c]) Q E s:=by
  cases ty with
  | pX=>cases(show u=I9 from rx);exact W.kia_one W.kitx_none I.qe True.intro e (fun z=>nomatch z) h
  | bl y=>cases(show u=ma y from rx);exact W.kia_one W.kitx_bool I.qe True.intro e (fun z=>nomatch z) h
  | int i=>obtain⟨t,q⟩:=(show ∃t,u=mM i t from rx);cases q;exact W.kia_one W.kitx_int I.qe True.intro e (fun z=>nomatch z) h
  | str y=>obtain⟨t,q⟩:=(show ∃t,u=mN y t from rx);cases q;exact W.kia_one W.kitx_str I.qe True.intro e (fun z=>nomatch z) h
  | tJ y=>obtain⟨t,q⟩:=(show ∃t,u=nv y t from rx);cases q;exact W.kia_one W.kitx_float I.qe True.intro e (fun z=>nomatch z) h
  | @lst a xs ea =>
    cases(show u=D7 a from rx);obtain⟨_,_,n,_,h1⟩:=(show Ab X.prog X.w H s.heap a (.lst xs) from I.pb a _ ea);exact W.kia_one W.kitx_list I.qe ⟨_,h1,rfl⟩ e (fun z=>nomatch z) h
  | @sU a ob xs ea =>
    cases(show u=D7 a from rx);obtain⟨_,_,_,n,_,h1⟩:=(show Ab X.prog X.w H s.heap a (.sU ob (.lst xs)) from I.pb a _ ea);exact W.kia_one W.kitx_list I.qe ⟨_,h1,rfl⟩ e (fun z=>nomatch z) h
  | @tup a xs ea =>
    cases(show u=D7 a from rx);obtain⟨_,_,_,p⟩:=(show Ab X.prog X.w H s.heap a (.tup xs) from I.pb a _ ea);obtain⟨o,h1,h2,_⟩:=p;exact W.kia_one W.kitx_tuple I.qe ⟨o,h1,h2⟩ e (fun z=>nomatch z) h
  | @dK a pW ea =>
    cases(show u=D7 a from rx);obtain⟨_,_,vs,_,p⟩:=(show Ab X.prog X.w H s.heap a (.dK pW) from I.pb a _ ea);obtain⟨o,es,ep,h1,h2,_⟩:=p;exact W.kia_one W.kitx_dict I.qe ⟨o,h1,h2.1⟩ e (fun z=>nomatch z) h
  | @dT a pW ea =>
    cases(show u=D7 a from rx);obtain⟨_,_,xs,_,o,es,ep,h1,h2,_⟩:=(show Ab X.prog X.w H s.heap a (.dT pW) from I.pb a _ ea);exact W.kia_one W.kitx_dict I.qe ⟨o,h1,h2.1⟩ e (fun z=>nomatch z) h
  | @ins a C dx fs ea cl ha hn htk hm =>
    cases(show u=D7 a from rx);obtain⟨mA,O,_⟩:=NG I.pb ea;obtain⟨od,J,_⟩:=O.look;exact W.kia_one (W.kitx_own (cl.get _) cl.hd ha hn htk hm) I.qe J e (fun z=>nomatch z) h
end
structure pj (k:Nat) (A:F3):Prop where
 hd:A.handled=none
 dp:A.depth+3 * k+5 < recursionLimit
 un:A.units+16 * k+200 < R3
 gd:A.guards=some []
variable {k:Nat}
theorem pj.mono{j:Nat}(r:pj k A)(h:j<=k):pj j A:=⟨r.hd,by have:=r.dp;omega,by have:=r.un;omega,r.gd⟩
theorem pj.deeper(r:pj (k+1) A)(env:Env):pj k (A.deeper env):=
 ⟨r.hd,by have:=r.dp;show A.depth+1+3 * k+5 < _;omega,by have:=r.un;show A.units+3+16 * k+200 < _;omega,r.gd⟩
theorem LV{kw:List (Str×A3)}:(A.under (.builtin "type.__call__" ⟨.ref C::us,kw⟩)).depth=A.depth+1:=by
 first | rfl | simp[X0,Code.weight,Code.isCreation,mz,Code.isCaller,pI,m6,guardIds]
theorem LU{kw:List (Str×A3)}:(A.under (.builtin "type.__call__" ⟨.ref C::us,kw⟩)).units=A.units+1:=by
 first | rfl | simp[X0,Code.cUnits,pI,m6]
theorem pj.make(r:pj (k+1) A)(C:A8)(us:List A3)(kw:List (Str×A3)):pj k (A.under (.builtin "type.__call__" ⟨.ref C::us,kw⟩)):=
 ⟨r.hd,by have:=r.dp;rw[LV];omega,by have:=r.un;rw[LU];omega,by
 have e:(A.under (.builtin "type.__call__" ⟨.ref C::us,kw⟩)).guards=A.guards:=by
  first | rfl | (simp only[X0,pJ,mz];cases A.guards<;>simp[pushGuards,guardIds]) | simp[X0,pJ,mz,guardIds,pushGuards]
 rw[e];exact r.gd⟩
theorem pj.depth(r:pj k A):A.depth < recursionLimit:=by have:=r.dp;omega
abbrev Uk:TA:=fun _ H Q=>Q [] H
abbrev Xg(ta:TE)(tr:TA):TA:=fun σ H Q=>ta σ H fun x H1=>tr σ H1 fun xs H2=>Q (x::xs) H2
section
variable {X:Cx} {e:Expr} {es:List Expr} {te:TE} {t:TA} {pos:Pos}
theorem LL:PA X [] Uk:=fun _ _ _ _ H Q I h=>Calls.spliced_nil ⟨[],H,I,.nil,h⟩
theorem Be(ha:PE X e te)(hr:PA X es t)(hs:E3 (e::es) X.env=(false,M3 e X.env)::E3 es X.env:=by rfl):PA X (e::es) (Xg te t):=by
 intro pos pins s σ H Q I h;rw[hs];show B4 _ _ (spliced ((false,M3 e X.env)::Q7 pos (E3 es X.env))) _ _ s;refine Calls.spliced_cons (Ac (ha pins s σ H _ I h) fun u s1 ⟨x,H1,I1,r1,q1⟩=>?_);exact Ac (hr pos pins s1 σ H1 _ I1 q1) fun us s2 ⟨xs,H2,I2,r2,q2⟩=>⟨x::xs,H2,I2,.cons r1 r2,q2⟩
abbrev iU(t:TA):TE:=fun σ H Q=>t σ H fun xs H1=>xs.length<=sizeLine/\∀p,H1 p=none->Q (.ref p) (upd H1 p (.tup xs))
abbrev iY(t:TA):TE:=fun σ H Q=>t σ H fun xs H1=>xs.length<=sizeLine/\∀p,H1 p=none->Q (.ref p) (upd H1 p (.lst xs))
theorem Zw{x1}(h:PA X es t):PE X (.Tuple es x1 pos) (iU t):=by
 intro pins s σ H Q I hq;refine wpAny_Tuple_spliced (Ac (h pos pins s σ H _ I hq) fun us s1 ⟨xs,H1,I1,r,z,q⟩=>⟨by rw[<- r.length];exact z,?_⟩);have hf:H1 s1.heap.objs.size=none:=I1.pb.fresh (B9 _);refine⟨.ref s1.heap.objs.size,upd H1 s1.heap.objs.size (.tup xs),I1.laid (t':=s1.toks) (fun b u e=>A6 _ e) (B9 _) ?_,rfl,q _ hf⟩;exact⟨z,us,r,⟨_,D1 _ rfl,rfl,rfl,_,rfl⟩⟩
theorem aB(h:PA X es t):PE X (.List es pos) (iY t):=by
 intro pins s σ H Q I hq;refine wpAny_List_spliced (Ac (h pos pins s σ H _ I hq) fun us s1 ⟨xs,H1,I1,r,z,q⟩=>⟨by rw[<- r.length];exact z,?_⟩);have hf:H1 s1.heap.objs.size=none:=I1.pb.fresh (B9 _);refine⟨.ref s1.heap.objs.size,upd H1 s1.heap.objs.size (.lst xs),I1.laid (t':=s1.toks) (fun b u e=>A6 _ e) (B9 _) ?_,rfl,q _ hf⟩;exact⟨z,us,0,r,D1 _ rfl⟩
end
abbrev Sp:=List V->Hp->VK->XK->Prop
abbrev Pp:=List Env->Hp->A5->XK->A3->A5->Prop
structure tZ (P:E2) (w:F6) (K:W.Frag) (mg:Str->Option A3) (base:F1) (A:F3) (outer:List Env) (s:A5) (H:Hp):Prop where
 frames:A.frames=some outer
 mod:Mod K mg base
 bs:∀b o,base.get? b=some o->s.heap.get? b=some o/\H b=none
 uY:base.objs.size<=s.heap.objs.size
 qo:s.heap.FunFrames base outer
 vm:∀b∈FQ outer,H b=none
 pb:DT P w H s.heap
 bare:W9 s.gens
def CE(outer:List Env)(P:E2)(w:F6)(H:Hp)(s:A5)(Q:VK)(u:A3)(s':A5):Prop:=
 ∃v H',s'.os=s.os/\W9 s'.gens/\Un (FQ outer) [] H H' s.heap s'.heap/\DT P w H' s'.heap/\RelV v u/\Q v H'
def CR(CX:Pp)(outer:List Env)(P:E2)(w:F6)(H:Hp)(s:A5)(Q:VK)(E:XK)(r:Result)(s':A5):Prop:=
 match r with
 | .ok (.ret u)=>CE outer P w H s Q u s'
 | .ok _=>False
 | .error e=>CX outer H s E e s'
structure qE (P:E2) (w:F6) (K:W.Frag) (mg:Str->Option A3) (base:F1) (CX:Pp) (k:Nat) (f:A8) (fd:K5) (ps:List Str) (sp:Sp):Prop where
 len:∀vs H Q E,sp vs H Q E->vs.length=ps.length
 run:∀(A:F3) (outer:List Env) (s:A5) (H:Hp) (args:Args) (us:List A3) (vs:List V) (Q:VK) (E:XK),pj k A->tZ P w K mg base A outer s H->m7 s fd args (ps.zip us)->AG vs us->sp vs H Q E ->
  j6 (C3 P w) A (.call (.ref f) args) (CR CX outer P w H s Q E) s
variable {mg:Str->Option A3} {base:F1}
theorem qE.imp{K:W.Frag}{CX:Pp}{f:A8}{fd:K5}{ps:List Str}{sp sp':Sp}(F:qE P w K mg base CX k f fd ps sp)
    (h:∀vs H Q E,sp' vs H Q E->sp vs H Q E):qE P w K mg base CX k f fd ps sp':=
  ⟨fun vs H Q E q=>F.len vs H Q E (h _ _ _ _ q),fun A outer s H args us vs Q E hr he hb hv hs=>F.run A outer s H args us vs Q E hr he hb hv (h _ _ _ _ hs)⟩
theorem tZ.make{K:W.Frag}{outer:List Env}(e:tZ P w K mg base A outer s H)(C:A8)(us:List A3)(kw:List (Str×A3)) :
    tZ P w K mg base (A.under (.builtin "type.__call__" ⟨.ref C::us,kw⟩)) outer s H:=⟨by first | exact e.frames | (simpa[X0,Code.envs,m6,pushEnvs] using e.frames),e.mod,e.bs,e.uY,e.qo,e.vm,e.pb,e.bare⟩
section
variable {X:Cx} {pins:List (A8×Obj)} {σ:St} {H:Hp} {s s':A5}
theorem Inv.xg(I:Inv X pins σ H s):tZ X.prog X.w X.K X.mg X.base X.A X.stack s H:=
 ⟨I.ok.frames,I.ok.mod,I.bs,A9 I.ok.uY I.sz,I.stack,I.rG,I.pb,I.bare⟩
theorem Inv.after{Q:VK}(I:Inv X pins σ H s)(h:CE X.stack X.prog X.w H s Q u s'):EP X pins σ Q u s':=by
 obtain⟨v,H',os,bare,un,pb,r,q⟩:=h;obtain⟨hh,g,d,t,os'⟩:=s';obtain rfl:os'=s.os:=os;exact⟨v,H',I.call (h':=hh) (g':=g) (d':=d) (t':=t) (ch:=[]) un pb bare (fun b z=>absurd z (by simp)),r,q⟩
end
abbrev Xh(sp:Sp)(vT:List V)(E:XK)(t:TA):TE:=fun σ H Q=>t σ H fun vs H1=>sp (vs++vT) H1 Q E
def Binds(K:W.Frag)(fd:K5)(ps:List Str)(ds:List A3):Prop:=
 ∀(s:A5) (us:List A3),K.In s.heap->(us++ds).length=ps.length->m7 s fd ⟨us,[]⟩ (ps.zip (us++ds))
theorem Binds.all{K:W.Frag}{fd:K5}{ps:List Str}(h:∀us:List A3,us.length=ps.length->l7 fd ⟨us,[]⟩=pure (ps.zip us)):Binds K fd ps []:=fun s us _ hl=>by
 rw[F8] at hl ⊢;exact .of_eq (h us hl)
def Gi(CX:Pp)(X:Cx)(E:XK):Prop:=∀(pins:List (A8×Obj)) (σ:St) (H:Hp) (s:A5) (e:A3) (s':A5),Inv X pins σ H s->CX X.stack H s E e s'->X.xe e s'
section
variable {X:Cx} {CX:Pp} {k:Nat} {f C:A8} {fd:K5} {ps:List Str} {sp:Sp} {vT:List V} {ds:List A3} {E:XK} {x m:Str} {p pos apos:Pos} {e o:Expr} {es:List Expr} {ta:TE} {t:TA}
theorem Qo{pins:List (A8×Obj)}{σ:St}{H:Hp}{s:A5}{Q:VK}{us:List A3}{vs:List V}(F:qE X.prog X.w X.K X.mg X.base CX k f fd ps sp)(hr:pj k X.A)(hb:Binds X.K fd ps ds)(hd:AG vT ds)(hx:Gi CX X E)
    (I:Inv X pins σ H s) (r:AG vs us) (h:sp (vs++vT) H Q E):B4 (C3 X.prog X.w) X.A (call (.ref f) us) (EP X pins σ Q) X.xe s:=by
  have r2:AG (vs++vT) (us++ds):=r.append hd;have hl:(us++ds).length=ps.length:=by rw[<- r2.length];exact F.len _ _ _ _ h
  refine j7 (X1 (F.run X.A X.stack s H ⟨us,[]⟩ (us++ds) (vs++vT) Q E hr I.xg (hb s us I.qe hl) r2 h) fun r s' hq=>?_);cases r with
  | error e=>exact hx pins σ H s e s' I hq
  | ok fl =>
    cases fl with
    | ret u=>exact I.after hq
    | next=>exact D2 hq
    | brk=>exact D2 hq
    | cont=>exact D2 hq
theorem Vf(F:qE X.prog X.w X.K X.mg X.base CX k f fd ps sp)(hr:pj k X.A)(hg:Gl X x)(hm:X.mg x=some (.ref f))(hk:W.keepIn X.K (.ref f)=true)(hb:Binds X.K fd ps ds)(hd:AG vT ds)(hx:Gi CX X E)
    (ha:PA X (e::es) t) (r9:(x == ("__debug__" : Str))=false:=by decide) (he:E3 (e::es) X.env=(false,M3 e X.env)::E3 es X.env:=by rfl) (uS:(Q7 pos (E3 es X.env)).any (·.1)=false:=by rfl) :
    PE X (.Call (.Name x p) (e::es) [] pos) (Xh sp vT E t):=by
  intro pins s σ H Q I h;refine N4 (DO I hg hm ?_ r9);refine W.callWith_K (h₀:=X.base) I.ok.mod.yw hk (Ac (ha pos pins s σ H _ I h) fun us s1 ⟨vs,H1,I1,r,q⟩=>⟨I1.qe,?_⟩) he uS;exact Qo F hr hb hd hx I1 r q
theorem RW(F:qE X.prog X.w X.K X.mg X.base CX k f fd ps sp)(hr:pj k X.A)(hg:Gl X x)(hm:X.mg x=some (.ref f))(hk:W.keepIn X.K (.ref f)=true)(hb:Binds X.K fd ps ds)(hd:AG vT ds)(hx:Gi CX X E)
    (r9:(x == ("__debug__" : Str))=false:=by decide):PE X (.Call (.Name x p) [] [] pos) (Xh sp vT E Uk):=by
  intro pins s σ H Q I h;refine N4 (DO I hg hm ?_ r9);exact W.callWith_K0 I.qe hk (Qo (us:=[]) F hr hb hd hx I .nil h)
structure Mk (K:W.Frag) (C f:A8):Prop where
 makes:W.makesIn K C=true
 init:W.findIn K (.ref C) "__init__" = some (some (.ref f))
 fn:W.isFn K (.ref f)=true
 kp:W.keepIn K (.ref C)=true
end
structure qT (N P:List Str) (sc:K0):Prop where
 kind:sc.kind=.function
 co:sc.isCoroutine=false
 gen:sc.isGenerator=false
 nd:N.Nodup
 pre:N.take P.length=P
 par:∀x∈P,sc.names.lookup x=some .local\/sc.names.lookup x=some .cell
 xC:∀y∈sc.names,y.2≠.free
theorem Hu{kindOf:Str->Option NameKind}{x:Str}:∀{binds:List (Str×A3)} {m:Str->Option A3},(∀v,(x,v)∉binds)->oY kindOf binds m x=m x
 | [],_,_=>rfl
 | (n,v)::r,m,h=>by
  unfold oY;rw[Hu fun w hw=>h w (B5 _ hw)];split
  ·have:x≠n:=by rintro rfl;exact h v B8
   simp[this]
  ·rfl
theorem Hw{kindOf:Str->Option NameKind}{x:Str}:∀{binds:List (Str×A3)} {m:Str->Option A3},(∀v,(x,v)∉binds)->oZ kindOf binds m x=m x
 | [],_,_=>rfl
 | (n,v)::r,m,h=>by
  unfold oZ;rw[Hw fun w hw=>h w (B5 _ hw)];split
  ·rfl
  ·have:x≠n:=by rintro rfl;exact h v B8
   simp[this]
theorem Hv{kindOf:Str->Option NameKind}{v:A3}:∀{P:List Str} {vs:List A3} {i:Nat} {m:Str->Option A3},P.Nodup->P[i]?=some x->vs[i]?=some v->kindOf x=some .local ->
    oY kindOf (P.zip vs) m x=some v
  | [],_,_,_,_,h,_,_=>by simp at h
  | _::_,[],_,_,_,_,h,_=>by simp at h
  | p::P,w::vs,0,m,nd,h1,h2,hk=>by
    simp at h1 h2;subst h1;subst h2;show oY kindOf ((p,w)::P.zip vs) m p=_;unfold oY;rw[Hu fun v hv=>(S9.mp nd).1 (lZ hv).1,if_pos hk];simp
  | p::P,w::vs,i+1,m,nd,h1,h2,hk=>by
    show oY kindOf ((p,w)::P.zip vs) m x=_;unfold oY;exact Hv (i:=i) (S9.mp nd).2 (by simpa using h1) (by simpa using h2) hk
theorem Hx{kindOf:Str->Option NameKind}{v:A3}:∀{P:List Str} {vs:List A3} {i:Nat} {m:Str->Option A3},P.Nodup->P[i]?=some x->vs[i]?=some v->kindOf x≠some .local ->
    oZ kindOf (P.zip vs) m x=some v
  | [],_,_,_,_,h,_,_=>by simp at h
  | _::_,[],_,_,_,_,h,_=>by simp at h
  | p::P,w::vs,0,m,nd,h1,h2,hk=>by
    simp at h1 h2;subst h1;subst h2;show oZ kindOf ((p,w)::P.zip vs) m p=_;unfold oZ;rw[Hw fun v hv=>(S9.mp nd).1 (lZ hv).1,if_neg hk];simp
  | p::P,w::vs,i+1,m,nd,h1,h2,hk=>by
    show oZ kindOf ((p,w)::P.zip vs) m x=_;unfold oZ;exact Hx (i:=i) (S9.mp nd).2 (by simpa using h1) (by simpa using h2) hk
def start(N:List Str)(vs:List V):St:=vs.map some++E9 (N.length - vs.length) none
def Ca(CX:Pp)(P:E2)(w:F6)(K:W.Frag)(mg:Str->Option A3)(base:F1)(N:List Str)(qual:Str)(scope:K0)(f:A8)(cd:A3)(A:F3)(outer:List Env)(s:A5)(H:Hp)(E:XK):Cx where
 prog:=P
 w:=w
 K:=K
 mg:=mg
 base:=base
 A:=A.deeper (l8 qual scope s.heap.objs.size f cd)
 N:=N
 pz:=s
 H₀:=H
 env:=l8 qual scope s.heap.objs.size f cd
 outer:=outer
 stack:=l8 qual scope s.heap.objs.size f cd::outer
 ex:=[]
 calm:=true
 fn:=fun _=>true
 pn:=[]
 xe:=fun e s'=>B4 (C3 P w) (A.deeper (l8 qual scope s.heap.objs.size f cd)) (leaving (l8 qual scope s.heap.objs.size f cd) e) (fun _ yg=>CX outer H s E e yg) (fun e' yg=>CX outer H s E e' yg) s'
theorem KF{sc:K0}{n:Nat}(h:sc.names.lookup x=some .cell):∃c,(K6 n sc.names []).lookup x=some c:=by
 have q:=W.cellsFrom_some sc.names n [] (.inl h);exact O5.mp q
theorem Oe{CX:Pp}{P:E2}{w:F6}{K:W.Frag}{mg:Str->Option A3}{base:F1}{N ps:List Str}{qual:Str}{scope:K0}{f:A8}{cd:A3}{A:F3}{outer:List Env}{s s1:A5}{H:Hp}{E:XK}{us:List A3}{vs:List V}
    (S:qT N ps scope) (hd:A.handled=none) (e0:tZ P w K mg base A outer s H) (hl:vs.length=ps.length) (r:AG vs us)
    (x:InCallC s s.heap.objs.size (oY (l8 qual scope s.heap.objs.size f cd).kindOf (ps.zip us) fun _=>none) (K6 (s.heap.objs.size+1) scope.names []) (oZ (l8 qual scope s.heap.objs.size f cd).kindOf (ps.zip us) fun _=>none) s1) :
    Inv (Ca CX P w K mg base N qual scope f cd A outer s H E) [] (start N vs) H s1:=by
  have uS:ps.length<=N.length:=by have:=congrArg W0 S.pre;rw[O8] at this;omega
  obtain⟨h1,tk,rfl,hk⟩:=x.done;have yp:∀b:A8,b∉(Ca CX P w K mg base N qual scope f cd A outer s H E).ex:=fun b z=>absurd (show b∈([]:List A8) from z) (by simp)
  refine⟨⟨e0.mod,S.kind,rfl,rfl,B9 _,fun y z c h1 h2=>?_,fun y hy=>?_,fun y c _ h=>?_,fun _=>hd,Around.frames_deeper e0.frames,.inr ⟨rfl,rfl⟩,fun b z=>absurd z (yp b),e0.bs,e0.uY,fun b _ _=>yp b,fun b z=>absurd z (yp b),e0.qo,e0.vm⟩,
    rfl,e0.bare,Un.kept hk,⟨_,x.toInCall.ns,fun i y v h1 h2 h3=>?_⟩,fun y c h=>⟨_,x.cell y c h⟩,e0.pb.fresh (B9 _),fun y c h=>?_,fun p hp=>absurd (show p∈([]:List (A8×Obj)) from hp) (by simp),e0.pb.kept hk,?_⟩
  · exact name_of_addr x.apart (E8 h1) (E8 h2)
  · have hy:scope.names.lookup y=some .cell\/scope.names.lookup y=some .free:=hy;rcases hy with hy | hy
    · exact KF hy
    · exact absurd rfl (S.xC _ (E8 hy))
  · exact T8 (x.above y c (E8 h))
  · have hi:i < vs.length:=by
      unfold start at h2
      by_cases hi:i < vs.length
      · exact hi
      · rw[R4 (by simpa using hi)] at h2;rw[g8] at h2;split at h2<;>cases h2
    have ha:vs[i]?=some v:=by
      unfold start at h2;rw[G1 (by simpa using hi),C0] at h2;cases e:vs[i]? with
      | none=>rw[e] at h2;cases h2
      | some a=>rw[e] at h2;cases h2;rfl
    obtain⟨u,hu,rv⟩:=r.get ha;have hp:ps[i]?=some y:=by
      rw[<- S.pre,Z8 (by omega)];exact h1
    have ndP:ps.Nodup:=by rw[<- S.pre];exact S.nd.sublist (List.take_sublist _ _)
    refine⟨u,rv,?_⟩;rcases S.par y (K7 hp) with k | k
    · exact .inl ⟨k,Hv ndP hp hu k⟩
    · obtain⟨c,e⟩:=KF (n:=s.heap.objs.size+1) k;refine .inr ⟨.inl k,c,e,?_⟩;have q:=x.cell y c e;rw[Hx ndP hp hu (by show scope.names.lookup y≠_;rw[k];decide)] at q;exact q
  · exact e0.pb.fresh (T8 (x.above y c (E8 h)))
  · unfold start;show _=N.length;rw[D9,F4,List.length_replicate];omega
theorem YJ{CX:Pp}{P:E2}{w:F6}{K:W.Frag}{mg:Str->Option A3}{base:F1}{k:Nat}{f:A8}{name qual:Str}{params:Arguments}{body:List G0}{scope:K0}{dV kV doc pm pv ct oc:A3}{an od:Option A8}
    {vc:Array (Option A3)} {N ps:List Str} {sp:Sp} (lk:K.lookup f=some ⟨oc,od,.func (W.fnOf name qual params body scope dV kV doc pm an pv ct),vc⟩) (u5:W.codeIn K pv qual=true) (S:qT N ps scope)
    (len:∀vs H Q E,sp vs H Q E->vs.length=ps.length)
    (sr:∀(A:F3) (outer:List Env) (s:A5) (H:Hp) (vs:List V) (Q:VK) (E:XK),pj k (A.deeper (l8 qual scope s.heap.objs.size f pv))->sp vs H Q E ->
      ∃t,CP (Ca CX P w K mg base N qual scope f pv A outer s H E) body t/\t { nx:=fun _ H'=>Q .pX H',rt:=Q } (start N vs) H) :
    qE P w K mg base CX (k+1) f (W.fnOf name qual params body scope dV kV doc pm an pv ct) ps sp:=by
  refine⟨len,fun A outer s H args us vs Q E hr e0 hb r vM=>?_⟩;have hl:=len _ _ _ _ vM;have KX:K.In s.heap:=e0.mod.yw.keeps fun b o e=>(e0.bs b o e).1
  have lim:s.heap.NoLimit:=e0.mod.nolimit.keeps fun b o e=>(e0.bs b o e).1
  have zM:∀y∈ps.zip us,scope.names.lookup y.1=some .local\/(scope.names.lookup y.1=some .cell/\((K6 (s.heap.objs.size+1) scope.names []).lookup y.1).isSome=true):=fun⟨n,v⟩ hy=>by
    rcases S.par n (lZ hy).1 with q | q
    · exact .inl q
    · exact .inr ⟨q,W.cellsFrom_some _ _ _ (.inl q)⟩
  refine codeAny_call_function hr.depth (KX _ _ lk) rfl S.co S.gen rfl (W.codeRec_of KX u5) (hb _ _ _ _ ?_);refine wpAny_newFunctionEnv_cells S.kind zM fun env he s1 x=>?_
  subst he;refine⟨lim.keeps x.toInCall.keep,codeAny_func ?_⟩;obtain⟨t,ht,hq⟩:=sr A outer s H vs Q E (hr.deeper _) vM;have I:Inv (Ca CX P w K mg base N qual scope f pv A outer s H E) [] (start N vs) H s1:=Oe S hr.hd e0 hl r x;refine J4 (ht [] s1 (start N vs) H _ I hq) (fun fl s' hs=>?_) fun e s' hs=>hs
  have fin:∀{σ':St} {H':Hp} {v:V} {u:A3},Inv (Ca CX P w K mg base N qual scope f pv A outer s H E) [] σ' H' s'->RelV v u->Q v H'->CE outer P w H s Q u s':=
    fun{σ' H' v u} J rv q=>⟨v,H',J.os,J.bare,J.base,J.pb,rv,q⟩
  cases fl with
  | ret u =>
    obtain⟨v,σ',H',J,rv,q⟩:=hs;exact fin J rv q
  | next =>
    obtain⟨σ',H',J,q⟩:=hs;exact fin (v:=V.pX) (u:=I9) J rfl q
  | brk =>
    obtain⟨_,_,_,q⟩:=hs;exact D2 q
  | cont =>
    obtain⟨_,_,_,q⟩:=hs;exact D2 q
section
variable {X:Cx} {x:Str} {p pos:Pos} {e:Expr} {es:List Expr} {t:TA} {id T:String} {r:List V->Hp->VK->Prop}
abbrev jv(r:List V->Hp->VK->Prop)(t:TA):TE:=fun σ H Q=>t σ H fun vs H1=>r vs H1 Q
theorem JW(hc:Aw X (.builtin id) r)(hg:Gl X x)(hm:X.mg x=none)(hv:O3 x=some (.builtin id))(ha:PA X (e::es) t)(hn:x ≠ "__name__" := by decide)(r9:(x == ("__debug__" : Str))=false:=by decide)
    (he:E3 (e::es) X.env=(false,M3 e X.env)::E3 es X.env:=by rfl) (uS:(Q7 pos (E3 es X.env)).any (·.1)=false:=by rfl):PE X (.Call (.Name x p) (e::es) [] pos) (jv r t):=by
  intro pins s σ H Q I h;refine N4 (GL I hg hm hv ?_ hn r9);exact nR (Ac (ha pos pins s σ H _ I h) fun us s1 ⟨vs,H1,I1,r1,q1⟩=>hc pins s1 σ H1 vs us Q I1 r1 q1) he uS
theorem OI(hc:Aw X (.type T) r)(hg:Gl X x)(hm:X.mg x=none)(hv:O3 x=some (.type T))(ha:PA X (e::es) t)(hn:x ≠ "__name__" := by decide)(r9:(x == ("__debug__" : Str))=false:=by decide)
    (he:E3 (e::es) X.env=(false,M3 e X.env)::E3 es X.env:=by rfl) (uS:(Q7 pos (E3 es X.env)).any (·.1)=false:=by rfl):PE X (.Call (.Name x p) (e::es) [] pos) (jv r t):=by
  intro pins s σ H Q I h;refine N4 (GL I hg hm hv ?_ hn r9);exact Q8 (Ac (ha pos pins s σ H _ I h) fun us s1 ⟨vs,H1,I1,r1,q1⟩=>hc pins s1 σ H1 vs us Q I1 r1 q1) he uS
end
end L2
namespace HT
open PySem PyProof.Rows
noncomputable def lexLt:List Int->List Int->Bool
 | [],[]=>false
 | [],_::_=>true
 | _::_,[]=>false
 | x::xs,y::ys=>if x=y then lexLt xs ys else decide (x < y)
section
open PySem.SeqAt
open PySem.AutoSeq1 (wpAny_loadPart')
open PySem.MeetsSeq PySem.MeetsSeq2 PySem.MeetsSeq3
end
section
variable {prog:E2} {w:F6} {A:F3} {E:A3->A5->Prop} {s:A5}
theorem vz{t b:A8}{vs ws:List A3}{Q:A3->A5->Prop}(ht:IsTup s.heap t vs.toArray)(hb:IsTup s.heap b ws.toArray)(hv:vs≠[])
    (h1:ws=[]->Q (.ref t) s) (h2:ws≠[]->Q (.ref s.heap.objs.size) { s with heap:=s.heap.push { cls:=.type "tuple", data:=.seq (vs++ws).toArray } })
    (rh:vs.length+ws.length<=sizeLine):B4 (C3 prog w) A (binaryOp .Add (.ref t) (.ref b)) Q E s:=by
  obtain⟨⟨cls,dd,data,sl⟩,ho,hc,n,hd⟩:=id ht;obtain⟨⟨zAm,dd2,data2,vb⟩,xR,zX,n2,hd2⟩:=id hb;simp only at hc hd zX hd2;subst hc hd zX hd2;have e:vs.toArray++ws.toArray=(vs++ws).toArray:=by simp
  by_cases hw:ws=[]
  · exact m8 ⟨_,ho,rfl⟩ ⟨_,xR,rfl⟩ g9 mU U1 T4 (S4 _ _)
      (tuple_addW1 t b vs.toArray ws.toArray n n2 dd dd2 sl vb (by simpa using hv) (by simp[hw])) ⟨ho,xR,h1 hw⟩
  · refine m8 ⟨_,ho,rfl⟩ ⟨_,xR,rfl⟩ g9 mU U1 T4 (S4 _ _)
      (tuple_addW2 t b vs.toArray ws.toArray n n2 dd dd2 sl vb (by simpa using hv) (by simpa using hw) (by rw[B0,B0];exact rh)) ⟨ho,xR,?_⟩
    rw[e];exact h2 hw
noncomputable def pe(n d:Nat):Option Int->Nat
 | none=>d
 | some v=>if v < 0 then(v+(n:Int)).toNat else min v.toNat n
theorem sM(n d k:Nat):pe n d (some (k:Int))=min k n:=by
 show(if(k:Int) < 0 then((k:Int)+(n:Int)).toNat else min (k:Int).toNat n)=min k n;rw[if_neg (by omega),U2]
theorem tM(n d:Nat)(hd:d<=n)(o:Option Int):pe n d o<=n:=by
 cases o with
 | none=>exact hd
 | some v =>
  show(if v < 0 then(v+(n:Int)).toNat else min v.toNat n)<=n
  by_cases hv:v < 0
  ·rw[if_pos hv];omega
  ·rw[if_neg hv];exact nS _ _
theorem NT(v:Int)(n d:Nat):(if v < 0 then max (v+(n:Int)) 0 else min v (n:Int))=((pe n d (some v):Nat):Int):=by
 show(if v < 0 then max (v+(n:Int)) 0 else min v (n:Int))=(((if v < 0 then(v+(n:Int)).toNat else min v.toNat n):Nat):Int)
 by_cases hv:v < 0
 ·simp only[if_pos hv];omega
 ·simp only[if_neg hv];omega
theorem MJ(lo hi:Option Int)(n:Nat):J7 lo hi 1 (n:Int)=(((pe n 0 lo:Nat):Int),((pe n n hi:Nat):Int)):=by
 have h1:¬((1:Int) < 0):=by omega
 unfold J7;simp only[h1,if_false];refine Prod.ext ?_ ?_
 ·cases lo with
  | none=>rfl
  | some v=>exact NT v n 0
 ·cases hi with
  | none=>rfl
  | some v=>exact NT v n n
theorem LK(i j:Nat):G2 (i:Int) (j:Int) 1=j - i:=by
 unfold G2;have h1:(1:Int) > 0:=by omega
 simp only[h1,if_true,pB];split<;>omega
theorem Da{v:A3}{o:Option Int}{Q:Option Int->A5->Prop}(p:mi v o)(h:Q o s):B4 (C3 prog w) A (oH v) Q E s:=by
 cases p with
 | none=>exact Y2 h
 | int i t=>exact slicePart_int h
theorem qP{sl:A8}{vl vu:A3}{lo hi:Option Int}{n:Nat}{Q:Int×Int×Nat->A5->Prop}(hs:s.heap.IsSliceOf sl vl vu .none)(pl:mi vl lo)(pu:mi vu hi)
    (h:Q (((pe n 0 lo:Nat):Int),1,pe n n hi - pe n 0 lo) s):B4 (C3 prog w) A (N5 (.ref sl) (pure (n:Int))) Q E s:=by
  obtain⟨os,uT,yG,vQ⟩:=id hs;unfold N5 Z1;refine A0 (A0 (F0 uT vQ (x:=vl) rfl (A0 (F0 uT vQ (x:=vu) rfl (A0 (F0 uT vQ (x:=.none) rfl (A7 ?_)))))));refine A0 (Y2 ?_);show B4 _ _ (if((1:Int) == 0)=true then _ else _) _ _ s;rw[if_neg (by decide)];refine A0 (Da pl (A0 (Da pu (A0 (A7 ?_)))));show B4 _ _ (match J7 lo hi 1 (n:Int) with | (lo,hi)=>pure (lo,(1:Int),G2 lo hi 1)) _ _ s;rw[MJ lo hi n];show B4 _ _ (pure (((pe n 0 lo:Nat):Int),(1:Int),G2 ((pe n 0 lo:Nat):Int) ((pe n n hi:Nat):Int) 1)) _ _ s;rw[LK];exact A7 h
theorem RM(xs:Array A3)(i k:Nat):((C2 k).filterMap fun(m:Nat)=>xs[((i:Int)+(m:Int) * 1).toNat]?).toArray=((xs.toList.drop i).take k).toArray:=by
 have e:(fun(m:Nat)=>xs[((i:Int)+(m:Int) * 1).toNat]?)=fun m=>xs[i+m]?:=by
  funext m;have:((i:Int)+(m:Int) * 1).toNat=i+m:=by omega
  rw[this]
 rw[e];have:=pick_run xs i k;rw[Y3] at this;have e2:((fun x=>xs[x]?)∘fun x=>i+x)=fun m=>xs[i+m]?:=rfl
 rw[e2] at this;rw[this]
theorem qm{t sl:A8}{items:Array A3}{vl vu:A3}{lo hi:Option Int}{Q:A3->A5->Prop}(ht:IsTup s.heap t items)(hs:s.heap.IsSliceOf sl vl vu .none)(pl:mi vl lo)(pu:mi vu hi)
    (hw:¬(pe items.size 0 lo=0/\pe items.size items.size hi=items.size))
    (h:Q (.ref s.heap.objs.size) { s with heap:=s.heap.push { cls:=.type "tuple", data:=.seq ((items.toList.drop (pe items.size 0 lo)).take (pe items.size items.size hi - pe items.size 0 lo)).toArray } })
    (rh:items.size<=sizeLine):B4 (C3 prog w) A (X2 (.ref t) (.ref sl)) Q E s:=by
  have qj:sizeOk (.seq ((items.toList.drop (pe items.size 0 lo)).take (pe items.size items.size hi - pe items.size 0 lo)).toArray):=by
    show((items.toList.drop (pe items.size 0 lo)).take (pe items.size items.size hi - pe items.size 0 lo)).toArray.size<=sizeLine;rw[B0,O8,V4,R8];omega
  have hj:pe items.size items.size hi<=items.size:=tM _ _ (B9 _) hi;obtain⟨os,uT,yG,vQ⟩:=id hs
  have zc:s.TypeIs (.ref sl) "slice" := ⟨os,uT,yG⟩
  unfold X2
  try with_reducible refine G7 ?_
  first | refine A0 (A7 ?_) | skip
  refine A0 (Z2 ht.typeIs (by decide) ?_)
  refine A0 (J3 (name:=R6 "__getitem__") ht.typeIs E4
    (K4 E4 ht.typeIs W7 ?_ (Y4 _ _)))
  show B4 _ _ (N1 (.ref t) >>= _) _ _ s;refine A0 (mV ht ?_);refine A0 (X3 zc ?_);rw[if_pos (by decide)];refine A0 (qP hs pl pu ?_);have hno:¬((((pe items.size 0 lo:Nat):Int) == 0 && (1:Int) == 1 && (pe items.size items.size hi - pe items.size 0 lo) == items.size)=true):=by
    intro q;rw[A2,A2] at q;have q1:((pe items.size 0 lo:Nat):Int)=0:=eq_of_beq q.1.1;have q2:pe items.size items.size hi - pe items.size 0 lo=items.size:=eq_of_beq q.2;exact hw ⟨by omega,by omega⟩
  show B4 _ _ (if(((pe items.size 0 lo:Nat):Int) == 0 && (1:Int) == 1 && (pe items.size items.size hi - pe items.size 0 lo) == items.size)=true then _ else _) _ _ s;rw[if_neg hno,RM]
  first
    | exact A0 (m:=G6 _) (F9 (A7 ⟨_,rfl,A7 h⟩) qj)
    | exact A0 (m:=G6 _) (F9 (A0 (A7 (A7 ⟨_,rfl,A7 h⟩))) qj)
    | exact A0 (A0 (m:=G6 _) (F9 (A7 (A7 ⟨_,rfl,A7 h⟩)) qj))
    | exact A0 (A0 (m:=G6 _) (F9 (A7 ⟨_,rfl,A7 h⟩) qj))
end
end HT
namespace L2
open PySem PySem.Spec PyProof.Rows
abbrev TO:=St->Hp->(Option Int->Hp->Prop)->Prop
def PO(X:Cx)(e:Option Expr)(t:TO):Prop:=
 ∀(pins:List (A8×Obj)) (s:A5) (σ:St) (H:Hp) (Q:Option Int->Hp->Prop),Inv X pins σ H s->t σ H Q ->
  B4 (C3 X.prog X.w) X.A (evalPart e X.env) (fun u s'=>∃o H',Inv X pins σ H' s'/\mi u o/\Q o H') X.xe s
abbrev Uj:TO:=fun _ H Q=>Q none H
abbrev dY(t:TE):TO:=fun σ H Q=>t σ H fun x H1=>∃i,x=.int i/\Q (some i) H1
section
variable {X:Cx} {e:Expr} {te:TE} {lo hi:Option Expr} {tl th:TO} {pos p2:Pos}
theorem VY:PO X none Uj:=by
 intro pins s σ H Q I h;rw[mW];exact A7 ⟨none,H,I,.none,h⟩
theorem VX(h:PE X e te):PO X (some e) (dY te):=by
 intro pins s σ H Q I hw;rw[evalPart_some];refine Ac (h pins s σ H _ I hw) fun u s1 ⟨x,H1,I1,r1,q1⟩=>?_
 obtain⟨i,rfl,q⟩:=q1;obtain⟨t,rfl⟩:=r1;exact⟨some i,H1,I1,.int i t,q⟩
def Pu(X:Cx)(r:V->Option Int->Option Int->Hp->VK->Prop):Prop:=
 ∀(pins:List (A8×Obj)) (s:A5) (σ:St) (H:Hp) (x:V) (v vl vu:A3) (lo hi:Option Int) (sl:A8) (Q:VK),Inv X pins σ H s->RelV x v->s.heap.IsSliceOf sl vl vu .none->mi vl lo->mi vu hi->r x lo hi H Q ->
  ∃T id,og (.type T) "__getitem__" = pure (some (.builtin id))/\s.TypeIs v T/\B4 (C3 X.prog X.w) X.A (X2 v (.ref sl)) (EP X pins σ Q) X.xe s
theorem Pu.or{r r':V->Option Int->Option Int->Hp->VK->Prop}(h:Pu X r)(h':Pu X r'):Pu X (fun x lo hi H Q=>r x lo hi H Q\/r' x lo hi H Q):=by
 intro pins s σ H x v vl vu lo hi sl Q I rx hs pl pu q;rcases q with q | q
 ·exact h pins s σ H x v vl vu lo hi sl Q I rx hs pl pu q
 ·exact h' pins s σ H x v vl vu lo hi sl Q I rx hs pl pu q
abbrev jr(r:V->Option Int->Option Int->Hp->VK->Prop)(te:TE)(tl th:TO):TE:=fun σ H Q=>te σ H fun x H1=>tl σ H1 fun l H2=>th σ H2 fun u H3=>r x l u H3 Q
theorem RQ{r:V->Option Int->Option Int->Hp->VK->Prop}(hr:Pu X r)(he:PE X e te)(hl:PO X lo tl)(hu:PO X hi th):PE X (.Subscript e (.Slice lo hi none p2) pos) (jr r te tl th):=by
 intro pins s σ H Q I h;refine oh (Ac (he pins s σ H _ I h) fun v s1 ⟨x,H1,I1,r1,q1⟩=>?_);refine wpAny_Slice (Ac (hl pins s1 σ H1 _ I1 q1) fun vl s2 ⟨l,H2,I2,pl,q2⟩=>Ac (hu pins s2 σ H2 _ I2 q2) fun vu s3 ⟨u,H3,I3,pu,q3⟩=>?_);rw[mW];refine A7 ?_
 have I4:Inv X pins σ H3 { s3 with heap:=s3.heap.push { cls:=.type "slice", data:=.fields #[vl,vu,.none] } }:=I3.kept (t':=s3.toks) fun b ob q=>A6 _ q
 obtain⟨T,id,hT,ht,hg⟩:=hr pins { s3 with heap:=s3.heap.push { cls:=.type "slice", data:=.fields #[vl,vu,.none] } } σ H3 x v vl vu l u s3.heap.objs.size Q I4 r1 (Y5 ..) pl pu q3
 show B4 (C3 X.prog X.w) X.A (Z9 e (.Slice lo hi none p2) v (.ref s3.heap.objs.size)) (EP X pins σ Q) X.xe { s3 with heap:=s3.heap.push { cls:=.type "slice", data:=.fields #[vl,vu,.none] } }
 exact oi (ops:=[.ref s3.heap.objs.size,v]) ht hT hg (by with_unfolding_all rfl)
def EG(xs:List V)(lo hi:Option Int):List V:=(xs.drop (HT.pe xs.length 0 lo)).take (HT.pe xs.length xs.length hi - HT.pe xs.length 0 lo)
theorem Ey(xs:List V)(lo hi:Option Int):(EG xs lo hi).length<=xs.length:=by
 unfold EG;rw[O8,V4];omega
def eK(K:W.Frag):V->Option Int->Option Int->Hp->VK->Prop:=fun x lo hi H Q=>∃a xs,x=.ref a/\Cg K H a xs /\
 ¬(HT.pe xs.length 0 lo=0/\HT.pe xs.length xs.length hi=xs.length)/\∀p,H p=none->Q (.ref p) (upd H p (.tup (EG xs lo hi)))
theorem ZL:Pu X (eK X.K):=by
 intro pins s σ H x v vl vu lo hi sl Q I rx hs pl pu h;obtain⟨a,xs,rfl,hx,hw,q⟩:=h;cases rx;obtain⟨pS,r,ht,hz⟩:=I.tuple hx;have hlen:pS.toArray.size=xs.length:=by rw[B0];exact r.length.symm
 refine⟨"tuple", _,E4.lookup,ht.typeIs,?_⟩
 refine HT.qm ht hs pl pu (by rw[hlen];exact hw) ?_ (by rw[hlen];exact hz);rw[hlen];refine⟨.ref s.heap.objs.size,_,I.laid (t':=s.toks) (o:=.tup (EG xs lo hi)) (fun b ob q=>A6 _ q) (B9 _) ?_,rfl,q _ (I.pb.fresh (B9 _))⟩;exact⟨A9 (Ey xs lo hi) hz,_,(r.drop (HT.pe xs.length 0 lo)).take (HT.pe xs.length xs.length hi - HT.pe xs.length 0 lo),Gu.new _ _⟩
def kq(K:W.Frag):R2:=fun x y H Q=>∃a b ns ms,x=.ref a/\y=.ref b/\Cg K H a (ns.map V.int)/\Cg K H b (ms.map V.int)/\Q (.bl (HT.lexLt ns ms)) H
def Xt(K:W.Frag):R2:=fun x y H Q=>∃a b xs ys,x=.ref a/\y=.ref b/\Cg K H a xs/\Cg K H b ys/\xs≠[]/\xs.length+ys.length<=sizeLine /\
 (ys=[]->Q (.ref a) H)/\(ys≠[]->∀p,H p=none->Q (.ref p) (upd H p (.tup (xs++ys))))
theorem AG.sO{xs:List V}{us:List A3}(r:AG xs us):us=[]↔xs=[]:=by
 cases r with
 | nil=>simp
 | cons _ _=>simp
theorem Vm:CH X (binaryOp .Add) (Xt X.K):=by
 intro pins s σ H x y v u Q I rx ry h;obtain⟨a,b,xs,ys,rfl,rfl,ha,hb,hx,hz,q1,q2⟩:=h;cases rx;cases ry;obtain⟨pS,r1,p1,_⟩:=I.tuple ha;obtain⟨pf,r2,p2,_⟩:=I.tuple hb;refine HT.vz p1 p2 (fun z=>hx (r1.sO.mp z)) (fun z=>⟨.ref a,H,I,rfl,q1 (r2.sO.mp z)⟩) (fun z=>?_) (by rw[<- r1.length,<- r2.length];exact hz);refine⟨.ref s.heap.objs.size,_,I.laid (t':=s.toks) (o:=.tup (xs++ys)) (fun b ob q=>A6 _ q) (B9 _) ?_,rfl,q2 (fun w=>z (r2.sO.mpr w)) _ (I.pb.fresh (B9 _))⟩;exact⟨by rw[D9];exact hz,_,r1.append r2,Gu.new _ _⟩
end
noncomputable def Jd(n:Nat)(i:Int):Option Nat:=if 0<=i then(if i < n then some i.toNat else none) else if -(n:Int)<=i then some (i+n).toNat else none
def Em{α:Type}(xs:List α)(i:Int):Option α:=(Jd xs.length i).bind fun j=>xs[j]?
theorem NB{n:Nat}{i:Int}{j:Nat}(h:Jd n i=some j):seqIndex? i n=some j/\j < n/\-(n:Int)<=i/\i < n:=by
 unfold Jd at h
 by_cases h0:0<=i
 ·rw[if_pos h0] at h
  by_cases h1:i < n
  ·rw[if_pos h1] at h;have e:i.toNat=j:=C7 h;exact⟨by rw[oB h0 h1,e],by omega,by omega,h1⟩
  ·rw[if_neg h1] at h;cases h
 ·rw[if_neg h0] at h
  by_cases h1:-(n:Int)<=i
  ·rw[if_pos h1] at h;have e:(i+n).toNat=j:=C7 h;exact⟨by rw[m9 (by omega) h1,e],by omega,h1,by omega⟩
  ·rw[if_neg h1] at h;cases h
theorem Ip{α:Type}{xs:List α}{i:Int}{v:α}(h:Em xs i=some v):∃j,seqIndex? i xs.length=some j/\xs[j]?=some v/\j < xs.length/\-(xs.length:Int)<=i/\i < xs.length:=by
 unfold Em at h;cases e:Jd xs.length i with
 | none=>rw[e] at h;cases h
 | some j =>
  rw[e] at h;obtain⟨h1,h2,h3,h4⟩:=NB e;exact⟨j,h1,h,h2,h3,h4⟩
def Nh(b:Expr):Prop:=∀o i,l9 b false o i=operate [o,i] (X2 o i)
def Pm(X:Cx)(r:R2):Prop:=
 ∀(value slice:Expr) (pins:List (A8×Obj)) (s:A5) (σ:St) (H:Hp) (x y:V) (v u:A3) (Q:VK),Inv X pins σ H s->RelV x v->RelV y u->r x y H Q ->
  l9 slice false v u=operate [v,u] (X2 v u)->B4 (C3 X.prog X.w) X.A (Z9 value slice v u) (EP X pins σ Q) X.xe s
def hG(X:Cx)(id:String)(r:V->List V->Hp->VK->Prop):Prop:=
 ∀(pins:List (A8×Obj)) (s:A5) (σ:St) (H:Hp) (x:V) (xs:List V) (v:A3) (us:List A3) (Q:VK),Inv X pins σ H s->RelV x v->AG xs us->r x xs H Q ->
  B4 (C3 X.prog X.w) X.A (call (.builtin id) (v::us)) (EP X pins σ Q) X.xe s
variable {pins:List (A8×Obj)} {s:A5}
section
variable {X:Cx} {a b:Expr} {ta tb:TE} {pos:Pos}
theorem Pm.or{r r':R2}(h:Pm X r)(h':Pm X r'):Pm X (fun x y H Q=>r x y H Q\/r' x y H Q):=by
 intro value slice pins s σ H x y v u Q I rx ry q hs;rcases q with q | q
 ·exact h value slice pins s σ H x y v u Q I rx ry q hs
 ·exact h' value slice pins s σ H x y v u Q I rx ry q hs
theorem fD{r:R2}(hr:Pm X r)(ha:PE X a ta)(hb:PE X b tb)(hs:Nh b):PE X (.Subscript a b pos) (iG r ta tb):=by
 intro pins s σ H Q I h;exact oh (cL ha hb I h fun v u s2 x y H2 I2 rx ry q=>hr a b pins s2 σ H2 x y v u Q I2 rx ry q (hs _ _))
def eR(K:W.Frag):R2:=fun x y H Q=>∃p xs i v,x=.ref p/\y=.int i/\CO K H p xs/\Em xs i=some v/\Q v H
def eO(K:W.Frag):R2:=fun x y H Q=>∃p xs i v,x=.ref p/\y=.int i/\Cg K H p xs/\Em xs i=some v/\Q v H
def eQ:R2:=fun x y H Q=>∃z i c,x=.str z/\y=.int i/\z.length<=sizeLine/\Em z.cps.toList i=some c/\Q (.str ⟨#[c]⟩) H
theorem WH:Pm X (eR X.K):=by
  intro value slice pins s σ H x y v u Q I rx ry h hs;obtain⟨p,xs,i,z,rfl,rfl,hq,he,q⟩:=h;cases rx;obtain⟨t,rfl⟩:=ry;obtain⟨pS,r,pl,hz⟩:=I.list hq;obtain⟨j,h1,h2,h3,h4,h5⟩:=Ip he;obtain⟨w,ew,sN⟩:=r.get h2;have hl:=r.length;have hn:=Ee;have fin:EP X pins σ Q w s:=⟨z,H,I,sN,q⟩
  by_cases h0:0<=i
  · have hj:i.toNat=j:=by
      rw[oB h0 h5] at h1;exact C7 h1
    exact item_listR pl.isList h0 (by omega) (by rw[hj];simpa using ew) fin hs
  · have hj:(i+(pS.toArray.size:Int)).toNat=j:=by
      rw[m9 (by omega) h4] at h1;rw[B0,<- hl];exact C7 h1
    exact j8 (x:=w) pl.isList.typeIs Z3.lookup
      (wpAny_getItem_list_neg (Q:=fun r s'=>r=w/\EP X pins σ Q r s') pl.isList (by omega) (by rw[B0]<;>omega) (by omega) (by rw[hj];simpa using ew) ⟨rfl,fin⟩) hs
theorem ai:Pm X (eO X.K):=by
 intro value slice pins s σ H x y v u Q I rx ry h hs;obtain⟨p,xs,i,z,rfl,rfl,hq,he,q⟩:=h;cases rx;obtain⟨t,rfl⟩:=ry;obtain⟨pS,r,pl,hz⟩:=I.tuple hq;obtain⟨j,h1,h2,h3,h4,h5⟩:=Ip he;obtain⟨w,ew,sN⟩:=r.get h2;have hl:=r.length;have hn:=Ee;have fin:EP X pins σ Q w s:=⟨z,H,I,sN,q⟩;exact j8 (x:=w) pl.typeIs slot_tuple_getitem.lookup
  (getItem_tuple (j:=j) (Q:=fun r s'=>r=w/\EP X pins σ Q r s') pl (by omega) (by omega) (by rw[B0,<- hl];exact h1) (by simpa using ew) ⟨rfl,fin⟩) hs
theorem aj:Pm X eQ:=by
 intro value slice pins s σ H x y v u Q I rx ry h hs;obtain⟨z,i,c,rfl,rfl,hz,he,q⟩:=h;obtain⟨t,rfl⟩:=rx;obtain⟨t',rfl⟩:=ry;obtain⟨j,h1,h2,h3,h4,h5⟩:=Ip he;have hl:z.cps.toList.length=z.length:=by simp[Str.length]
 rw[hl] at h1 h4 h5;have hn:=Ee;exact oi (oj s z t) slot_str_getitem.lookup (getItem_str (c:=c) (by
  have e1:decide (i < -(2 ^ 63:Int))=false:=decide_eq_false (by omega);have e2:decide (i >= 2 ^ 63)=false:=decide_eq_false (by omega);rw[e1,e2,Bool.or_false]) (by rw[h1];simpa using h2) ⟨.str ⟨#[c]⟩,H,I.tok _,⟨_,rfl⟩,q⟩) hs
def Za(K:W.Frag):R2:=fun x y H Q=>eR K x y H Q\/eO K x y H Q\/eQ x y H Q
theorem ak:Pm X (Za X.K):=WH.or (ai.or aj)
theorem LS(pS:List A3)(n j:Nat)(u:A3):M8 (·.setIfInBounds j u) { cls:=.type "list", data:=.seq pS.toArray n }={ cls:=.type "list", data:=.seq (pS.set j u).toArray n }:=by
 simp[M8]
theorem Inv.lst{σ:St}{H:Hp}{p:A8}{xs:List V}(I:Inv X pins σ H s)(h:H p=some (.lst xs)) :
    ∃(pS:List A3) (n:Nat),AG xs pS/\s.heap.get? p=some { cls:=.type "list", data:=.seq pS.toArray n }/\xs.length<=sizeLine:=by
  obtain⟨z,pS,n,r,e⟩:=I.pb p _ h;exact⟨pS,n,r,e,z⟩
theorem Inv.xG{σ:St}{H:Hp}{p:A8}{xs ys:List V}{pS its':List A3}{n n':Nat}{f:Obj->Obj}(I:Inv X pins σ H s)(h:H p=some (.lst xs))
    (ho:s.heap.get? p=some { cls:=.type "list", data:=.seq pS.toArray n }) (hf:f { cls:=.type "list", data:=.seq pS.toArray n }={ cls:=.type "list", data:=.seq its'.toArray n' }) (r:AG ys its') (hz:ys.length<=sizeLine) (t:Nat) :
    Inv X pins σ (upd H p (.lst ys)) { s with heap:=s.heap.update p f,toks:=t }:=by
  have e:(s.heap.update p f).get? p=some { cls:=.type "list", data:=.seq its'.toArray n' }:=by
    rw[J9 f ho (by rw[hf]<;>rfl),hf]
  refine I.write (x:=p) (e:=p) (by rw[h];trivial) (.inl rfl) (fun b u hb q=>(G5 _ _ (Ne.symm hb)).trans q) ⟨_,e⟩ ?_;exact⟨hz,its',n',r,e⟩
def Qv:V->V->V->Hp->(Hp->Prop)->Prop:=fun o i v H Q=>∃p xs k j,o=.ref p/\i=.int k/\H p=some (.lst xs)/\Jd xs.length k=some j/\Q (upd H p (.lst (xs.set j v)))
theorem set_list:Kd X Qv:=by
  intro pins s σ H o i v ov iv u Q I ro ri rv h;obtain⟨p,xs,k,j,rfl,rfl,hp,hj,q⟩:=h;cases ro;obtain⟨t,rfl⟩:=ri;obtain⟨pS,n,r,ho,hz⟩:=I.lst hp;obtain⟨h1,h2,h3,h4⟩:=NB hj;have hl:=r.length;have hn:=Ee;have I':Inv X pins σ (upd H p (.lst (xs.set j v))) { s with heap:=s.heap.update p (M8 (·.setIfInBounds j u)) }:=
    I.xG hp ho (LS pS n j u) (r.set rv j) (by rw[C8];exact hz) s.toks
  by_cases h0:0<=k
  · have hk:k.toNat=j:=by
      rw[oB h0 h4] at h1;exact C7 h1
    exact W.ki_setAt ho h0 (by omega) (by rw[B0,<- hl];exact h4) (by rw[hk];exact⟨_,I',q⟩)
  · have hk:(k+(pS.toArray.size:Int)).toNat=j:=by
      rw[m9 (by omega) h3] at h1;rw[B0,<- hl];exact C7 h1
    exact W.ki_setBack ho (by omega) (by rw[B0,<- hl];exact h3) (by omega) (by rw[hk];exact⟨_,I',q⟩)
theorem IF(lo hi:Option Int)(n:Nat):(T5 lo hi none n).1=((HT.pe n 0 lo:Nat):Int)/\(T5 lo hi none n).2.1=((HT.pe n n hi:Nat):Int)/\(T5 lo hi none n).2.2=1:=by
 refine⟨?_,?_,rfl⟩
 ·cases lo with
  | none=>simp[T5,HT.pe]
  | some i =>
   simp only[T5,HT.pe,nT,show(1:Int) > 0 by decide,if_true]
   by_cases h:i < 0
   ·simp only[h,if_true]<;>omega
   ·simp only[h,if_false]<;>omega
 ·cases hi with
  | none=>simp[T5,HT.pe]
  | some i =>
   simp only[T5,HT.pe,nT,show(1:Int) > 0 by decide,if_true]
   by_cases h:i < 0
   ·simp only[h,if_true]<;>omega
   ·simp only[h,if_false]<;>omega
theorem Gk(pS:List A3)(lo hi:Option Int):slicePick pS.toArray lo hi none=((pS.drop (HT.pe pS.length 0 lo)).take (HT.pe pS.length pS.length hi - HT.pe pS.length 0 lo)).toArray:=by
 obtain⟨h1,h2,h3⟩:=IF lo hi pS.toArray.size;unfold slicePick;rw[h1,h2,h3];simp only[sliceRange_one,pick_run,B0]<;>rfl
def eM(K:W.Frag):V->Option Int->Option Int->Hp->VK->Prop:=fun x lo hi H Q=>∃a xs,x=.ref a/\CO K H a xs/\∀p,H p=none->Q (.ref p) (upd H p (.lst (EG xs lo hi)))
theorem Uu:Pu X (eM X.K):=by
 intro pins s σ H x v vl vu lo hi sl Q I rx hs pl pu h;obtain⟨a,xs,rfl,hx,q⟩:=h;cases rx;obtain⟨pS,r,ht,hz⟩:=I.list hx;have hlen:=r.length
 refine⟨"list", _,Z3.lookup,ht.isList.typeIs,?_⟩
 refine a6 ht.isList hs pl pu .none (by simp) ?_ (by rw[B0]<;>omega);rw[Gk,<- hlen];refine⟨.ref s.heap.objs.size,_,I.laid (t':=s.toks) (o:=.lst (EG xs lo hi)) (fun b ob q=>A6 _ q) (B9 _) ?_,rfl,q _ (I.pb.fresh (B9 _))⟩;exact⟨A9 (Ey xs lo hi) hz,_,0,(r.drop (HT.pe xs.length 0 lo)).take (HT.pe xs.length xs.length hi - HT.pe xs.length 0 lo),D1 _ rfl⟩
noncomputable def GT:V->Bool
 | .pX=>true
 | .bl _=>true
 | .int _=>true
 | .str _=>true
 | _=>false
noncomputable def qz:V->V->Bool
 | .pX,.pX=>true
 | .bl a,.bl b=>a == b
 | .bl a,.int b=>(if a then 1 else 0) == b
 | .int a,.bl b=>a == (if b then 1 else 0)
 | .int a,.int b=>a == b
 | .str a,.str b=>a == b
 | _,_=>false
theorem bP{A:F3}{y x:V}{u v:A3}(ry:RelV y u)(rx:RelV x v)(fy:GT y=true)(fx:GT x=true):SeqAt.EqAt A s u v (qz y x):=by
 cases y with
 | pX =>
  cases ry;cases x with
  | pX=>cases rx;exact SeqAt.EqAt.same _
  | bl b=>cases rx;exact SeqAt.EqAt.none_bool b
  | int b=>obtain⟨t,rfl⟩:=rx;exact SeqAt.EqAt.none_int b t
  | str b=>obtain⟨t,rfl⟩:=rx;exact SeqAt.EqAt.none_str b t
  | _=>exact absurd (show false=true from fx) C6
 | bl a =>
  cases ry;cases x with
  | pX=>cases rx;exact SeqAt.EqAt.bool_none a
  | bl b=>cases rx;exact SeqAt.EqAt.bool_bool a b
  | int b=>obtain⟨t,rfl⟩:=rx;exact SeqAt.EqAt.bool_int a b t
  | str b=>obtain⟨t,rfl⟩:=rx;exact SeqAt.EqAt.bool_str a b t
  | _=>exact absurd (show false=true from fx) C6
 | int a =>
  obtain⟨t',rfl⟩:=ry;cases x with
  | pX=>cases rx;exact SeqAt.EqAt.int_none a t'
  | bl b=>cases rx;exact SeqAt.EqAt.int_bool a t' b
  | int b=>obtain⟨t,rfl⟩:=rx;exact SeqAt.EqAt.int_int a t' b t
  | str b=>obtain⟨t,rfl⟩:=rx;exact mY a t' b t
  | _=>exact absurd (show false=true from fx) C6
 | str a =>
  obtain⟨t',rfl⟩:=ry;cases x with
  | pX=>cases rx;exact SeqAt.EqAt.str_none a t'
  | bl b=>cases rx;exact SeqAt.EqAt.str_bool a t' b
  | int b=>obtain⟨t,rfl⟩:=rx;exact mZ a t' b t
  | str b=>obtain⟨t,rfl⟩:=rx;exact SeqAt.EqAt.str_str a t' b t
  | _=>exact absurd (show false=true from fx) C6
 | _=>exact absurd (show false=true from fy) C6
theorem Aw.or{f:A3}{r r':List V->Hp->VK->Prop}(h:Aw X f r)(h':Aw X f r'):Aw X f (fun xs H Q=>r xs H Q\/r' xs H Q):=by
 intro pins s σ H xs us Q I rs q;rcases q with q | q
 ·exact h pins s σ H xs us Q I rs q
 ·exact h' pins s σ H xs us Q I rs q
theorem Ik:Aw X (.type "list") (fun xs H Q=>∃p ys,xs=[.ref p]/\(CO X.K H p ys\/Cg X.K H p ys)/\∀l,H l=none->Q (.ref l) (upd H l (.lst ys))):=by
  intro pins s σ H xs us Q I r h;obtain⟨p,ys,rfl,hq,q⟩:=h;obtain⟨u,rfl,rx⟩:=vals1 r;cases rx;have fin:∀(pS:List A3),AG ys pS->ys.length<=sizeLine->∀(h':F1) (c':Nat),(∀b o',s.heap.get? b=some o'->h'.get? b=some o') ->
      h'.get? s.heap.objs.size=some { cls:=.type "list", dict:=none,data:=.seq pS.toArray c',slots:=#[] }->EP X pins σ Q (.ref s.heap.objs.size) { s with heap:=h' }:=fun pS r' hz h' c' kp e =>
    ⟨.ref s.heap.objs.size,_,I.laid (t':=s.toks) kp (B9 _) (show Ab X.prog X.w _ h' _ (.lst ys) from⟨hz,pS,c',r',e⟩),rfl,q _ (I.pb.fresh (B9 _))⟩
  rcases hq with hq | hq
  · obtain⟨pS,r',pl,hz⟩:=I.list hq;have hlen:=r'.length;obtain⟨o,ho,hc,n,hd⟩:=pl.isList;exact call_list_seq p (.inl rfl) ho hc hd (fun h' c' kp e=>fin pS r' hz h' c' kp e) (by simp only[B0]<;>omega)
  · obtain⟨pS,r',pl,hz⟩:=I.tuple hq;have hlen:=r'.length;obtain⟨o,ho,hc,n,hd⟩:=pl;exact call_list_seq p (.inr rfl) ho hc hd (fun h' c' kp e=>fin pS r' hz h' c' kp e) (by simp only[B0]<;>omega)
theorem Gq:Aw X (.type "tuple") (fun xs H Q=>∃p ys,xs=[.ref p]/\((CO X.K H p ys/\∀l,H l=none->Q (.ref l) (upd H l (.tup ys)))\/(Cg X.K H p ys/\Q (.ref p) H))):=by
 intro pins s σ H xs us Q I r h;obtain⟨p,ys,rfl,h⟩:=h;obtain⟨u,rfl,rx⟩:=vals1 r;cases rx;rcases h with⟨hq,q⟩ | ⟨hq,q⟩
 ·obtain⟨pS,r',pl,hz⟩:=I.list hq;have hlen:=r'.length;refine call_tuple_list pl.isList (fun h' kp=>?_) (by simp only[B0]<;>omega);have I1:Inv X pins σ H { s with heap:=h' }:=I.kept (t':=s.toks) kp
  have I2:Inv X pins σ (upd H h'.objs.size (.tup ys)) { s with heap:=h'.push { cls:=.type "tuple", data:=.seq pS.toArray } }:=
   I1.laid (t':=s.toks) (fun b o e=>A6 _ e) (B9 _) (show Ab X.prog X.w _ _ _ (.tup ys) from⟨hz,pS,r',Gu.new _ _⟩)
  exact⟨.ref h'.objs.size,_,I2,rfl,q _ (I1.pb.fresh (B9 _))⟩
 ·obtain⟨pS,r',pl,hz⟩:=I.tuple hq;exact call_tuple_same pl ⟨.ref p,H,I,rfl,q⟩
def iE(K:W.Frag)(T:String)(x:V)(H:Hp):Prop:=match x with
  | .str _=>T = "str"
  | .int _=>T = "int"
  | .ref p=>(T = "list" /\ ∃xs,CO K H p xs)\/(T = "tuple" /\ ∃o,K.lookup p=some o/\o.cls=.type "tuple" /\ o.dict=none) \/
      (T = "dict" /\ ((∃pW,H p=some (.dK pW))\/∃pW,H p=some (.dT pW)))\/(T = "set" /\ ∃S n,H p=some (.set S n))
  | _=>False
theorem QE{σ:St}{H:Hp}{T:String}{x:V}{v:A3}(I:Inv X pins σ H s)(r:RelV x v)(ty:iE X.K T x H) :
    s.TypeIs v T/\∀a,v=.ref a->∃ob,s.heap.get? a=some ob/\ob.dict=none:=by
  cases x with
  | str z =>
    obtain⟨t,rfl⟩:=r
    cases(show T = "str" from ty)
    exact⟨oj s z t,fun _ e=>nomatch e⟩
  | int i =>
    obtain⟨t,rfl⟩:=r
    cases(show T = "int" from ty)
    exact⟨typeIs_int s i t,fun _ e=>nomatch e⟩
  | ref p =>
    cases r;rcases ty with⟨rfl,xs,hq⟩ | ⟨rfl,o,hk,hc,hd⟩ | ⟨rfl,hk⟩ | ⟨rfl,S,n,hk⟩
    · obtain⟨pS,_,pl,_⟩:=I.list hq;refine⟨pl.isList.typeIs,fun a e=>?_⟩;cases e;obtain⟨o,n,e,c,hd,_⟩:=pl;exact⟨o,e,hd⟩
    · refine⟨⟨o,I.qe p o hk,hc⟩,fun a e=>?_⟩;cases e;exact⟨o,I.qe _ o hk,hd⟩
    · have z:∃o,s.heap.get? p=some o/\o.ExactDict:=by
        rcases hk with⟨pW,hk⟩ | ⟨pW,hk⟩
        · obtain⟨_,_,_,_,o,_,_,e,ex,_⟩:=I.pb p _ hk;exact⟨o,e,ex⟩
        · obtain⟨_,_,_,_,o,_,_,e,ex,_⟩:=I.pb p _ hk;exact⟨o,e,ex⟩
      obtain⟨o,e,ex⟩:=z;refine⟨⟨o,e,ex.1⟩,fun a e2=>?_⟩;cases e2;exact⟨o,e,ex.2.1⟩
    · obtain⟨o,_,_,_,e,ex,_⟩:=I.pb p _ hk;refine⟨⟨o,e,ex.1⟩,fun a e2=>?_⟩;cases e2;exact⟨o,e,ex.2.1⟩
  | _=>exact D2 ty
abbrev ic(K:W.Frag)(T:String)(r:V->List V->Hp->VK->Prop)(to:TE):TE:=fun σ H Q=>to σ H fun x H1=>iE K T x H1/\r x [] H1 Q
abbrev dh(K:W.Frag)(T:String)(r:V->List V->Hp->VK->Prop)(to:TE)(t:TA):TE:=fun σ H Q=>to σ H fun x H1=>iE K T x H1/\t σ H1 fun xs H2=>r x xs H2 Q
variable {o e:Expr} {es:List Expr} {to:TE} {t:TA} {name:Str} {apos qN:Pos} {T id:String} {r:V->List V->Hp->VK->Prop}
theorem RX(pa:j9 T)(slot:Slot T name id)(zA:om (.builtin id)=pure (.type "method_descriptor"))(hm:hG X id r)(ho:PE X o to)
    (qU:M0 o name X.env (M3 o X.env)=M3 o X.env:=by rfl) (qL:(apos.endLine == qN.line)=true:=by rfl):PE X (.Call (.Attribute o name apos) [] [] qN) (ic X.K T r to):=by
  intro pins s σ H Q I h;refine wpAny_Call_method0_late qU qL (Ac (ho pins s σ H _ I h) fun v s1 ⟨x,H1,I1,r1,ty,q1⟩=>?_);obtain⟨h1,h2⟩:=QE I1 r1 ty;exact⟨T,id,pa,slot,zA,h1,h2,U3 rfl (PySem.evalArgs_none (hm pins s1 σ H1 x [] v [] Q I1 r1 .nil q1))⟩
theorem Xx(pa:j9 T)(slot:Slot T name id)(zA:om (.builtin id)=pure (.type "method_descriptor"))(hm:hG X id r)(ho:PE X o to)(ha:PA X (e::es) t)
    (qU:M0 o name X.env (M3 o X.env)=M3 o X.env:=by rfl)
    (xV:((Q7 qN (E3 (e::es) X.env)).all (fun x=>!x.1) && (backToKw qN (oE [] X.env)).all (fun x=>x.1.isSome)
      && decide ((e::es).length+([]:List X4).length+(if([]:List X4).isEmpty then 0 else 1) < 30))=true:=by rfl)
    (qL:(apos.endLine == qN.line)=true:=by rfl) (hs:E3 (e::es) X.env=(false,M3 e X.env)::E3 es X.env:=by rfl) (tR:(Q7 qN (E3 es X.env)).any (·.1)=false:=by rfl) :
    PE X (.Call (.Attribute o name apos) (e::es) [] qN) (dh X.K T r to t):=by
  intro pins s σ H Q I h;refine k4 qU xV qL rfl (Ac (ho pins s σ H _ I h) fun v s1 ⟨x,H1,I1,r1,ty,q1⟩=>?_);obtain⟨h1,h2⟩:=QE I1 r1 ty;refine⟨T,id,pa,slot,zA,h1,h2,?_⟩;have hA:=ha qN pins s1 σ H1 _ I1 q1;rw[hs] at hA ⊢;refine U3 (by show(false || (Q7 qN (E3 es X.env)).any (·.1))=false;rw[tR]<;>rfl) (mB ?_);exact Ac hA fun us s2 ⟨vs,H2,I2,r2,q2⟩=>hm pins s2 σ H2 x vs v us Q I2 r1 r2 q2
end
def hU(X:Cx)(id:String)(r:V->List V->Hp->VK->Prop):Prop:=
 ∀(pins:List (A8×Obj)) (s:A5) (σ:St) (H:Hp) (x:V) (xs:List V) (v:A3) (us:List A3) (Q:VK),Inv X pins σ H s->RelV x v->AG xs us->r x xs H Q ->
  B4 (C3 X.prog X.w) X.A (call (.builtin id) (v::us)) (EP X pins σ Q) X.xe s
theorem AG.one:∀{x:V} {us:List A3},AG [x] us->∃u,us=[u]/\RelV x u
 := by
 intro x us h;cases h with | cons r t=>cases t;exact⟨_,rfl,r⟩
theorem AG.two:∀{x y:V} {us:List A3},AG [x,y] us->∃u v,us=[u,v]/\RelV x u/\RelV y v
 := by
 intro x y us h;cases h with | cons r t=>cases t with | cons q t=>cases t;exact⟨_,_,rfl,r,q⟩
theorem AG.zero:∀{us:List A3},AG [] us->us=[]
 | _,.nil=>rfl
section
variable {X:Cx} {pins:List (A8×Obj)} {σ:St} {H:Hp} {s:A5} {l b:A8} {xs ys zs:List V}
theorem Inv.yv{pS its':List A3}{n:Nat}{f:Array A3->Array A3}{t':Nat}(I:Inv X pins σ H s)(hH:H l=some (.lst xs))
    (e:s.heap.get? l=some { cls:=.type "list", data:=.seq pS.toArray n }) (hf:f pS.toArray=its'.toArray) (hv:AG ys its') (hz:ys.length<=sizeLine) :
    Inv X pins σ (upd H l (.lst ys)) { s with heap:=s.heap.update l (M8 f),toks:=t' }:=by
  have q:=nU e f;rw[hf] at q;refine I.write (x:=l) (e:=l) (by rw[hH];exact trivial) (.inl rfl) (fun b' u hb hu=>(G5 s.heap (M8 f) (Ne.symm hb)).trans hu) ⟨_,q⟩ ?_;exact⟨hz,its',_,hv,q⟩
theorem Inv.zAQ{pS:List A3}{t':Nat}(I:Inv X pins σ H s)(hv:AG ys pS)(hz:ys.length<=sizeLine) :
    Inv X pins σ (upd H s.heap.objs.size (.lst ys)) { s with heap:=s.heap.push { cls:=.type "list", data:=.seq pS.toArray },toks:=t' }:=
  I.laid (fun _ _ q=>A6 _ q) (B9 _) ⟨hz,pS,0,hv,D1 _ rfl⟩
theorem Inv.fresh(I:Inv X pins σ H s):H s.heap.objs.size=none:=I.pb.fresh (B9 _)
theorem Inv.uk(I:Inv X pins σ H s)(hH:H l=some (.lst xs)):xs.length<=sizeLine/\∃(pS:List A3) (n:Nat),AG xs pS/\xs.length=pS.length/\s.heap.get? l=some { cls:=.type "list", data:=.seq pS.toArray n }:=by
 obtain⟨z,pS,n,r,e⟩:=I.pb l _ hH;exact⟨z,pS,n,r,r.length,e⟩
theorem Ra{n:Nat}(h:n<=sizeLine):S5 n=false:=by
 unfold S5;exact decide_eq_false (by omega)
end
section
variable {X:Cx}
def Ml:V->List V->Hp->VK->Prop:=fun x vs H Q=>∃l xs y,x=.ref l/\vs=[y]/\H l=some (.lst xs)/\xs.length < sizeLine/\Q .pX (upd H l (.lst (xs++[y])))
theorem OR:hU X "list.append" Ml:=by
 intro pins s σ H x vs v us Q I rx rv h;obtain⟨l,xs,y,rfl,rfl,hH,hz,q⟩:=h;cases rx;obtain⟨u,rfl,ru⟩:=rv.one;obtain⟨z,pS,n,r,hl,e⟩:=I.uk hH;refine oo F.slot_list_append ⟨_,e,rfl⟩ F.entry_list_append (F.args_list_append_2 _ _) (nA l pS.toArray n u (by rw[B0];omega)) ⟨e,?_⟩;refine⟨.pX,_,I.yv (its':=pS++[u]) hH e (by simp) (r.append (.cons ru .nil)) ?_,rfl,q⟩;rw[D9,N8];omega
def VE:V->List V->Hp->VK->Prop:=fun x vs H Q=>∃l b xs zs,x=.ref l/\vs=[.ref b]/\H l=some (.lst xs)/\H b=some (.lst zs)/\xs.length+zs.length<=sizeLine/\Q .pX (upd H l (.lst (xs++zs)))
theorem cm:hU X "list.extend" VE:=by
 intro pins s σ H x vs v us Q I rx rv h;obtain⟨l,b,xs,zs,rfl,rfl,hH,hB,hz,q⟩:=h;cases rx;obtain⟨u,rfl,ru⟩:=rv.one;cases ru;obtain⟨z,pS,n,r,hl,e⟩:=I.uk hH;obtain⟨z2,pf,n2,r2,qx,e2⟩:=I.uk hB;have rh:pS.toArray.size+pf.toArray.size<=sizeLine:=by rw[B0,B0];omega
 have zL:¬(!pS.toArray.isEmpty && S5 (pS.toArray.size+pf.toArray.size))=true:=by
  rw[Ra rh,Y6];exact C6
 refine oo F.slot_list_extend ⟨_,e,rfl⟩ F.entry_list_extend (F.args_list_extend_2 _ _)
  (AutoSeq1.list_extend_list_list_0 l pS.toArray n b pf.toArray n2 zL (by rw[B0];omega) (by omega)) ⟨e,e2,?_⟩
 refine⟨.pX,_,I.yv (its':=pS++pf) hH e (by simp) (r.append r2) ?_,rfl,q⟩;rw[D9];omega
def eU:R2:=fun x y H Q=>∃l b xs zs,x=.ref l/\y=.ref b/\H l=some (.lst xs)/\H b=some (.lst zs)/\xs.length+zs.length<=sizeLine/\∀p,H p=none->Q (.ref p) (upd H p (.lst (xs++zs)))
theorem aP:CH X (binaryOp .Add) eU:=by
 intro pins s σ H x y v u Q I rx ry h;obtain⟨l,b,xs,zs,rfl,rfl,hH,hB,hz,q⟩:=h;cases rx;cases ry;obtain⟨z,pS,n,r,hl,e⟩:=I.uk hH;obtain⟨z2,pf,n2,r2,qx,e2⟩:=I.uk hB;refine PySem.P.add_list e e2 ?_ (by rw[B0,B0];omega);have ea:pS.toArray++pf.toArray=(pS++pf).toArray:=by simp
 rw[ea];exact⟨.ref _,_,I.zAQ (t':=s.toks) (r.append r2) (by rw[D9];omega),rfl,q _ I.fresh⟩
def kn:R2:=fun x y H Q=>∃l k xs,x=.ref l/\y=.int k/\H l=some (.lst xs)/\-(2 ^ 63)<=k/\k < 2 ^ 63/\xs.length * k.toNat<=sizeLine /\
 ∀p,H p=none->Q (.ref p) (upd H p (.lst (E9 k.toNat xs).flatten))
end
end L2
namespace Att
open PySem PySem.W PySem.Calls PyProof.Rows
theorem FI{P:mj}{h:F1}:∀(ns:List Int) (vs:List A3),WellAll P h vs (ns.map pP)->oU vs ns:=by
 intro ns
 induction ns with
 | nil =>
  intro vs w;rw[k6] at w;cases w;exact .nil
 | cons n ns ih =>
  intro vs w;rw[E7] at w;cases w with
  | cons a b =>
   cases a;exact .cons _ _ (ih _ b)
theorem OB{l:OpenLaw}{n:Nat}(hn:l.most=some n){P:mj}{h:F1}{args:List WData}{vals:List A3}
    (vf:l.row.toRowW.claim.pre args=true) (hwl:WellAll P h vals args) :
    ∃a vs ns,vals=[D7 a]/\args=[WData.list (ns.map pP)]/\h.get? a=some { cls:=.type "list", data:=.seq vs.toArray }/\oU vs ns/\ns.length<=n:=by
  have hsh:WShape.hasAll [] args [.list .int]=true:=(pre_splitW vf).1;have hc:l.pre.holds [] { args:=args }=true:=(pre_splitW vf).2;obtain⟨d,r,rfl,h1,h2⟩:=hasAllW_cons hsh;obtain rfl:=hasAllW_nil h2;obtain⟨xs,rfl,h3⟩:=hasW_list h1;obtain⟨ns,rfl⟩:=items_int h3;have hlen:ns.length<=n:=by
    unfold OpenLaw.pre at hc;have h4:(WTm.not (.lt (.lit (.int (n:Int))) (.len (.arg 0)))).holds [] { args:=[.list (ns.map .int)] }=true:=by
      have h4:=(holds_andW hc).1;rw[hn] at h4;exact h4
    have h5:=condW_of h4 (w_not (w_lt w_lit (w_len_list (w_arg rfl))));rw[F4] at h5;refine Nat.le_of_not_lt fun q=>?_
    have q':(n:Int) < ((ns.length:Nat):Int):=by omega
    first
      | (rw[decide_eq_true q'] at h5;exact absurd h5 (by decide))
      | (simp at h5;omega)
  cases hwl with
  | cons w1 w2 =>
    cases w2;cases w1 with
    | list ho uK=>exact⟨_,_,ns,rfl,rfl,ho,FI ns _ uK,hlen⟩
theorem OF(l:OpenLaw)(args:List WData):l.row.toRowW.claim.post args (.bool true) args=true:=
 postW_of (r:=l.row.toRowW) (X:=(true == true))
  (show pM [] (.bool true) .bool=true by first | rfl | decide | simp[pM,WShape.arms,WShape.armsAll])
  (show(WTm.eq .res (.lit (.bool true))).value [] { args:=args,res:=some (.bool true),after:=args }=some (.bool (true == true)) from w_eq_bool (w_res rfl) w_lit) rfl
theorem tD{l:OpenLaw}{n:Nat}{q:E2}{loose:List Str}{XP:(Str->Option A3)->F1->Prop}{YP:F6->F1->Prop}{d:pC}
    (hn:l.most=some n) (zT:d.params.defaults=[])
    (call:∀(w:F6) (pz pV:A5) (mg mb:Str->Option A3) (fa:A8) (o:Obj) (pm cd doc:A3) (a:A8) (vs:List A3) (ns:List Int),
      Ground q loose [] XP w pz mg mb pV.heap->YP w pV.heap ->
      pV.heap.get? fa=some o->o.data=.func (docDef d.name d.params d.body d.scope pm cd doc)->pV.heap.CodeRec cd d.name->mg d.name=some (.ref fa) ->
      pV.heap.get? a=some { cls:=.type "list", data:=.seq vs.toArray }->oU vs ns->ns.length<=n->pV.gens=#[] ->
      j6 (C3 l.prog w) mO (.call (.ref fa) ⟨[.ref a],[]⟩) (fun r s'=>r=.ok (.ret (.bool true))/\OldK pV.heap s'.heap/\s'.os=pV.os/\W9 s'.gens) pV) :
    WalkO q loose XP YP l.row.toRowW d [] (fun f vs=>ml f vs):=by
  intro w pz pV mg mb G Y fa o pm cd doc dV kV ho hd u5 hD zK hg args vals as vf zAx hrd hwl hlo;obtain rfl:dV=.none:=Dflts.none hD zT;obtain rfl:kV=.none:=Dflts.noKw hD;obtain⟨a,vs,ns,rfl,rfl,xP,hints,hlen⟩:=OB hn vf hwl;refine enter_call (X1 (call w pz pV mg mb fa o pm cd doc a vs ns G Y ho (fd_plain hd) u5 zK xP hints hlen hg) fun r s' hq=>?_);obtain⟨rfl,h2,h3,h4⟩:=hq;exact⟨.inl ⟨.bool true,.bool true,[],rfl,fun _=>rfl,.bool true,OF l _,fun _=>⟨nB,fun _ hm=>(nomatch hm)⟩⟩,h2,h3,h4⟩
end Att
namespace L2
open PySem PySem.Spec PyProof.Rows
theorem HG:∀{vs:List A3} {ns:List Int},oU vs ns->AG (ns.map V.int) vs
 | _,_,.nil=>.nil
 | _,_,.cons n t h=>.cons ⟨t,rfl⟩ (HG h)
def XS(H:Hp):Prop:=∀b,H b=none\/∃o xs,H b=some (.sU o (.lst xs))
theorem Rn{P:E2}{w:F6}{K:W.Frag}{mg mb:Str->Option A3}{CX:Pp}{k:Nat}{fa a:A8}{fd:K5}{x:Str}{sp:Sp}{pV:A5}{vs:List A3}{ns:List Int}
    (KX:K.In pV.heap) (tH:pV.heap.Ns I0 mg) (hb:pV.heap.Ns oV mb) (u7:∀x:Str,x ≠ "__name__" -> mb x=O3 x) (zAb:pV.heap.NoLimit) (hg:pV.gens=#[])
    (ha:pV.heap.get? a=some { cls:=.type "list", data:=.seq vs.toArray }) (hi:oU vs ns) (hl:ns.length<=sizeLine) (hr:pj k mO)
    (F:∀base:F1,K.In base->base.Ns I0 mg->qE P w K mg base CX k fa fd [x] sp) (zY:∀(s:A5) (u:A3),m7 s fd ⟨[u],[]⟩ [(x,u)])
    (vM:∀H:Hp,XS H->CO K H a (ns.map V.int)->sp [.ref a] H (fun v _=>v=.bl true) fun _ _ _=>False)
    (hCX:∀H e s',CX [] H pV (fun _ _ _=>False) e s'->False) :
    j6 (C3 P w) mO (.call (.ref fa) ⟨[.ref a],[]⟩) (fun r s'=>r=.ok (.ret (.bool true))/\OldK pV.heap s'.heap/\s'.os=pV.os/\W9 s'.gens) pV:=by
  have rv:=HG hi;have zAS:=hi.length
  -- from an abstract heap in zAu nothing but wF wu may be tracked
  have core:∀H:Hp,XS H->CO K H a (ns.map V.int)->DT P w H pV.heap->(∀b,H b≠none->b=a)->(H a≠none->K.lookup a=none) ->
      j6 (C3 P w) mO (.call (.ref fa) ⟨[.ref a],[]⟩) (fun r s'=>r=.ok (.ret (.bool true))/\OldK pV.heap s'.heap/\s'.os=pV.os/\W9 s'.gens) pV:=by
    intro H hO hS pb hA hK;have EI:∀{b:A8} {o:Obj},pV.heap.get? b=some o->H b=none->(IT pV.heap H).get? b=some o:=fun e n=>Ru e n
    have yp:∀{b:A8} {o:Obj} {es:Array DictEntry} {ep:Nat},pV.heap.get? b=some o->o.data=.dict es ep->H b=none:=fun{b o es ep} e d=>by
      cases q:H b with
      | none=>rfl
      | some u =>
        have e':b=a:=hA b (by rw[q];simp);subst e';rw[ha] at e;cases e;have d':Data.seq vs.toArray _=Data.dict es ep:=d;cases d'
    have nsK:∀{b:A8} {m:Str->Option A3},pV.heap.Ns b m->(IT pV.heap H).Ns b m:=fun{b m} ⟨o,es,ep,e,d,r⟩=>⟨o,es,ep,EI e (yp e d),d,r⟩
    have hKb:K.In (IT pV.heap H):=fun b o e=>EI (KX b o e) (by
      cases q:H b with
      | none=>rfl
      | some u =>
        have e':b=a:=hA b (by rw[q];simp);subst e';rw[hK (by rw[q];simp)] at e;cases e)
    have hM:Mod K mg (IT pV.heap H):=⟨hKb,nsK tH,⟨mb,nsK hb,u7⟩,let ⟨mc,h1,h2⟩:=zAb;⟨mc,nsK h1,h2⟩⟩;have e0:tZ P w K mg (IT pV.heap H) mO [] pV H:=⟨rfl,hM,fun b o e=>Vr e,nC (Og _ _),trivial,fun b hb=>absurd (show b∈([]:List A8) from hb) (by simp),pb,.of_eq hg⟩;refine X1 ((F _ hKb (nsK tH)).run mO [] pV H ⟨[.ref a],[]⟩ [.ref a] [.ref a] _ _ hr e0 (zY pV (.ref a)) (.cons rfl .nil) (vM H hO hS)) fun r s' h=>?_
    cases r with
    | error e=>exact(hCX H e s' h).elim
    | ok fl =>
      cases fl with
      | next=>exact D2 h
      | brk=>exact D2 h
      | cont=>exact D2 h
      | ret u =>
        obtain⟨v,H',os,bare,un,zAZ,r',q⟩:=h;have q':v=.bl true:=q;subst q';obtain rfl:u=ma true:=r';refine⟨rfl,OldK.of_keep fun b o e=>?_,os,bare⟩;cases q:H b with
        | none=>exact un.keep b o e q (by intro z;exact absurd (show b∈([]:List A8) from z) (by simp)) (by simp)
        | some u =>
          rcases hO b with z | ⟨ob,xs,z⟩
          · rw[q] at z;cases z
          · have z2:=un.rE b ob _ z;obtain⟨e1,_⟩:=pb b _ z;obtain⟨e2,_⟩:=zAZ b _ z2;rw[e] at e1;cases e1;exact e2
  cases hk:K.lookup a with
  | some o =>
    -- wF wu is one of wF yu own objects
    have e:=KX a o hk;rw[ha] at e;cases e;refine core (fun _=>none) (fun _=>.inl rfl) (.inr ⟨_,vs.toArray,_,hk,rfl,rfl,rfl,by rw[B0,zAS];exact hl,by simpa using rv⟩) (fun b u z=>by have z':(none:Option HO)=some u:=z;cases z') (fun b z=>absurd rfl z) fun z=>absurd rfl z
  | none =>
    refine core (fun b=>if b=a then some (.sU { cls:=.type "list", data:=.seq vs.toArray } (.lst (ns.map V.int))) else none) (fun b=>?_) (.inl (.inr ⟨{ cls:=.type "list", data:=.seq vs.toArray },if_pos rfl⟩)) (fun b u z=>?_) (fun b z=>?_) fun _=>hk
    · by_cases hb:b=a
      · exact .inr ⟨_,_,if_pos hb⟩
      · exact .inl (if_neg hb)
    · by_cases hb:b=a
      · have z':=(if_pos hb).symm.trans z;cases z';subst hb;exact⟨ha,by rw[F4];exact hl,vs,_,rv,ha⟩
      · have z':=(if_neg hb).symm.trans z;cases z'
    · by_cases hb:b=a
      · exact hb
      · exact absurd (if_neg hb) z
theorem vY{l:W.OpenLaw}{n k:Nat}{q:E2}{loose:List Str}{XP:(Str->Option A3)->F1->Prop}{YP:F6->F1->Prop}{d:pC}{K:mj->W.Frag}{CX:F6->Pp}{sp:F6->Sp}{x:Str}
    (hn:l.most=some n) (hn2:n<=sizeLine) (zT:d.params.defaults=[]) (hr:pj k mO)
    (hY:∀(w:F6) (h:F1),YP w h->(K w.params).In h)
    (F:∀(w:F6) (mg:Str->Option A3) (fa:A8) (h:F1),(K w.params).In h->h.Ns I0 mg->mg d.name=some (.ref fa) ->
      ∃fd:K5,(∀(s:A5) (u:A3),m7 s fd ⟨[u],[]⟩ [(x,u)]) /\
        ∀base:F1,(K w.params).In base->base.Ns I0 mg->qE l.prog w (K w.params) mg base (CX w) k fa fd [x] (sp w))
    (vM:∀(w:F6) (H:Hp) (a:A8) (ns:List Int),ns.length<=n->XS H->CO (K w.params) H a (ns.map V.int)->sp w [.ref a] H (fun v _=>v=.bl true) fun _ _ _=>False)
    (hCX:∀(w:F6) (H:Hp) (s:A5) (e:A3) (s':A5),CX w [] H s (fun _ _ _=>False) e s'->False) :
    W.WalkO q loose XP YP l.row.toRowW d [] (fun f vs=>ml f vs):=by
  refine Att.tD hn zT fun w pz pV mg mb fa o pm cd doc a vs ns G Y ho hd u5 zK xP hints hlen hg=>?_
  have KX:=hY w _ Y;obtain⟨fd,hb,hF⟩:=F w mg fa _ KX G.T.g zK;exact Rn KX G.T.g G.T.b G.T.builtins G.T.nolimit hg xP hints (A9 hlen hn2) hr hF hb (fun H hO hS=>vM w H a ns hlen hO hS) fun H e s'=>hCX w H pV e s'
noncomputable def Am(s:G0):Arguments:=match s with
 | .FunctionDef _ a _ _ _ _ _ _ _ _=>a
 | _=>{ posonlyargs:=[],args:=[],vararg:=none,kwonlyargs:=[],kw_defaults:=[],kwarg:=none,defaults:=[] }
noncomputable def AJ(s:G0):List G0:=match s with
 | .FunctionDef _ _ b _ _ _ _ _ _ _=>b
 | _=>[]
noncomputable def AC(s:G0):K0:=match s with
 | .FunctionDef _ _ _ _ _ _ sc _ _ _=>sc
 | _=>{ kind:=.function,names:=[],isGenerator:=false,isCoroutine:=false }
abbrev FB:Pp:=fun _ _ _ _ _ _=>False
abbrev E0:XK:=fun _ _ _=>False
theorem Xy{X:Cx}:Gi FB X E0:=fun _ _ _ _ _ _ _ h=>h.elim
structure uQ (K:W.Frag) (x qual:Str) (st:G0) (f:A8) (fd:K5):Prop where
 ex:∃(oc:A3) (od:Option A8) (kV doc pm:A3) (an:Option A8) (pv ct:A3) (vc:Array (Option A3)),
  fd=W.fnOf x qual (Am st) (AJ st) (AC st) .none kV doc pm an pv ct/\K.lookup f=some ⟨oc,od,.func fd,vc⟩/\W.codeIn K pv qual=true
 kp:W.keepIn K (.ref f)=true
variable {x qual:Str}
section
variable {P:E2} {w:F6} {K:W.Frag} {mg:Str->Option A3} {base:F1}
theorem uQ.ok{st:G0}{f:A8}{fd:K5}{N ps:List Str}{k:Nat}{sp:Sp}(F:uQ K x qual st f fd)(S:qT N ps (AC st))(len:∀vs H Q E,sp vs H Q E->vs.length=ps.length)
    (sr:∀(pv:A3) (A:F3) (outer:List Env) (s:A5) (H:Hp) (vs:List V) (Q:VK) (E:XK),pj k (A.deeper (l8 qual (AC st) s.heap.objs.size f pv))->sp vs H Q E ->
      ∃t,CP (Ca FB P w K mg base N qual (AC st) f pv A outer s H E).rC (AJ st) t/\t { nx:=fun _ H'=>Q .pX H',rt:=Q } (start N vs) H):qE P w K mg base FB (k+1) f fd ps sp:=by
  obtain⟨oc,od,kV,doc,pm,an,pv,ct,vc,rfl,lk,u5⟩:=F.ex;refine YJ lk u5 S len fun A outer s H vs Q E hr vM=>?_
  obtain⟨t,h,q⟩:=sr pv A outer s H vs Q E hr vM;exact⟨t,h.rC,q⟩
theorem uQ.binds{st:G0}{f:A8}{fd:K5}{ps:List Str}(F:uQ K x qual st f fd)
    (h:∀(kV doc pm:A3) (an:Option A8) (pv ct:A3) (us:List A3),us.length=ps.length->l7 (W.fnOf x qual (Am st) (AJ st) (AC st) .none kV doc pm an pv ct) ⟨us,[]⟩=pure (ps.zip us)):Binds K fd ps []:=by
  obtain⟨oc,od,kV,doc,pm,an,pv,ct,vc,rfl,lk,u5⟩:=F.ex;exact .all (h kV doc pm an pv ct)
theorem SB{st:G0}{f:A8}{oc:A3}{od an:Option A8}{vc:Array (Option A3)}{kV doc pm pv ct:A3}(l:K.lookup f=some ⟨oc,od,.func (W.fnOf x qual (Am st) (AJ st) (AC st) .none kV doc pm an pv ct),vc⟩)
    (c:W.codeIn K pv qual=true) (k:W.keepIn K (.ref f)=true):uQ K x qual st f (W.fnOf x qual (Am st) (AJ st) (AC st) .none kV doc pm an pv ct):=⟨⟨oc,od,kV,doc,pm,an,pv,ct,vc,rfl,l,c⟩,k⟩
end
def Iw(H H':Hp):Prop:=∀b o,H b=some o->H' b=some o
noncomputable def AO(sc:K0)(x:Str):Bool:=match sc.names.lookup x with | some .cell=>true | _=>false
def Cx.inner(X:Cx)(scope:K0)(cl:List (Str×A8))(C:A8)(s:A5)(H:Hp)(fp:List A8):Cx:=
 { X with pz:=s,H₀:=H,env:=compEnvC scope cl C X.env,outer:=X.stack,ex:=fp,fn:=AO scope,xe:=fun _ _=>False }
theorem Ad{scope:K0}{env:Env}{x:Str}:∀{names:List (Str×NameKind)}, 
    ((names.map fun(n,k)=>if(k == NameKind.free && env.scope.kind == .function && env.kindOf n == some .cell) then(n,NameKind.cell) else(n,k)).lookup x=some .cell \/
     (names.map fun(n,k)=>if(k == NameKind.free && env.scope.kind == .function && env.kindOf n == some .cell) then(n,NameKind.cell) else(n,k)).lookup x=some .free) ->
    names.lookup x=some .cell\/names.lookup x=some .free
  | [],h=>by simp at h
  | (n,k)::r,h=>by
    have ih:=@Ad scope env x r;cases hx:x == n with
    | true =>
      simp only[E7,E6] at h ⊢
      by_cases hc:(k == NameKind.free && env.scope.kind == .function && env.kindOf n == some .cell)=true
      · have hk:k=.free:=by
          simp only[A2,beq_iff_eq] at hc;exact hc.1.1
        right;simp[hx,hk]
      · rw[if_neg hc] at h;simp only[E6,hx] at h ⊢;exact h
    | false =>
      simp only[E7,E6] at h ⊢
      by_cases hc:(k == NameKind.free && env.scope.kind == .function && env.kindOf n == some .cell)=true
      · rw[if_pos hc] at h;simp only[E6,hx] at h ⊢;exact ih h
      · rw[if_neg hc] at h;simp only[E6,hx] at h ⊢;exact ih h
theorem By{env:Env}{x:Str}:∀{names:List (Str×NameKind)}, 
    (names.map fun(n,k)=>if(k == NameKind.free && env.scope.kind == .function && env.kindOf n == some .cell) then(n,NameKind.cell) else(n,k)).lookup x=some .local ->
    names.lookup x=some .local
  | [],h=>by simp at h
  | (n,k)::r,h=>by
    have ih:=@By env x r;cases hx:x == n with
    | true =>
      simp only[E7,E6] at h ⊢
      by_cases hc:(k == NameKind.free && env.scope.kind == .function && env.kindOf n == some .cell)=true
      · rw[if_pos hc] at h;simp only[E6,hx] at h;cases h
      · rw[if_neg hc] at h;simp only[E6,hx] at h ⊢;exact h
    | false =>
      simp only[E7,E6] at h ⊢
      by_cases hc:(k == NameKind.free && env.scope.kind == .function && env.kindOf n == some .cell)=true
      · rw[if_pos hc] at h;simp only[E6,hx] at h ⊢;exact ih h
      · rw[if_neg hc] at h;simp only[E6,hx] at h ⊢;exact ih h
variable {scope:K0}
theorem Ga{env:Env}(zAd:∀x,scope.names.lookup x=some .free->∃c,env.cells.lookup x=some c)(zI:∀x k,(x,k)∈scope.names->k=.free->scope.names.lookup x=some .free) :
    ∃cl,closureFor scope env=pure cl/\(∀x c,cl.lookup x=some c->env.cells.lookup x=some c)/\∀x,scope.names.lookup x=some .free->∃c,cl.lookup x=some c:=by
  have go:∀(names:List (Str×NameKind)) (cs:List (Str×A8)),(∀x k,(x,k)∈names->k=.free->∃c,env.cells.lookup x=some c)->(∀x c,cs.lookup x=some c->env.cells.lookup x=some c) ->
      ∃cl,(forIn names cs (fun(x:Str×NameKind) (r:List (Str×A8))=>(if(x.2 == NameKind.free)=true then(cellOf env x.1 >>= fun c=>(pure (ForInStep.yield ((x.1,c)::r)):Sem _)) else pure (ForInStep.yield r))))=(pure cl:Sem _) /\
        (∀x c,cl.lookup x=some c->env.cells.lookup x=some c)/\(∀x,(cs.lookup x).isSome=true->(cl.lookup x).isSome=true)/\∀x,(x,NameKind.free)∈names->(cl.lookup x).isSome=true:=by
    intro names
    induction names with
    | nil=>intro cs _ h2;exact⟨cs,by simp,h2,fun _ z=>z,fun _ z=>by simp at z⟩
    | cons p r ih =>
      intro cs h1 h2;obtain⟨n,k⟩:=p
      by_cases hk:k=.free
      · subst hk;obtain⟨c,hc⟩:=h1 n _ B8 rfl;have sF:cellOf env n=pure c:=by unfold cellOf;rw[hc]
        obtain⟨cl,e,a,b,d⟩:=ih ((n,c)::cs) (fun x k hx hk=>h1 x k (B5 _ hx) hk) (fun x c' hx=>by
          rw[E6] at hx;cases hxn:x == n with
          | true => rw[hxn] at hx; simp at hx; subst hx; have : x = n := by simpa using hxn
                    rw[this];exact hc
          | false=>rw[hxn] at hx;exact h2 x c' hx)
        refine⟨cl,?_,a,fun x hx=>b x ?_,fun x hx=>?_⟩
        · rw[W4];simp only[sF];simpa using e
        · rw[E6];cases hxn:x == n with
          | true=>rfl
          | false=>exact hx
        · rcases D6.mp hx with z | z
          · injection z with z1 _
            subst z1;exact b x (by rw[E6];simp)
          · exact d x z
      · have hb:(k == NameKind.free)=false:=by simpa using hk
        obtain⟨cl,e,a,b,d⟩:=ih cs (fun x k hx hk=>h1 x k (B5 _ hx) hk) h2;refine⟨cl,?_,a,b,fun x hx=>?_⟩
        · rw[W4];simp only[hb];simpa using e
        · rcases D6.mp hx with z | z
          · injection z with _ z2
            exact absurd z2.symm hk
          · exact d x z
  obtain⟨cl,e,a,_,d⟩:=go scope.names [] (fun x k hx hk=>zAd x (zI x k hx hk)) (fun x c h=>by simp at h);refine⟨cl,?_,a,fun x hx=>O5.mp (d x (E8 hx))⟩;unfold closureFor;simpa using e
theorem Ai:∀(names:List (Str×NameKind)) (n:Nat) (acc:List (Str×A8)),K6 n names acc=K6 n names []++acc
 | [],n,acc=>by simp[K6]
 | (x,k)::r,n,acc=>by
  unfold K6;split
  ·rw[Ai r (n+1) ((x,n)::acc),Ai r (n+1) [(x,n)],K9];rfl
  ·exact Ai r n acc
theorem CB{x:Str}{c:A8}:∀(names:List (Str×NameKind)) (n:Nat),(x,c)∈K6 n names []->(x,NameKind.cell)∈names
 | [],n,h=>by simp[K6] at h
 | (y,k)::r,n,h=>by
  unfold K6 at h;split at h
  ·rename_i hk;have hk:k=.cell:=by simpa using hk
   rw[Ai] at h;rcases D4.mp h with h | h
   ·exact B5 _ (CB r _ h)
   ·rw[E5] at h;cases h;rw[hk];exact B8
  ·exact B5 _ (CB r _ h)
theorem CD{x:Str}:∀(names:List (Str×NameKind)) (n:Nat),(x,NameKind.cell)∈names->∃c,(K6 n names []).lookup x=some c
 | [],n,h=>by cases h
 | (y,k)::r,n,h=>by
  unfold K6
  by_cases hr:(x,NameKind.cell)∈r
  ·split
   ·rw[Ai];obtain⟨c,e⟩:=CD r (n+1) hr;exact⟨c,by rw[N6,e];rfl⟩
   ·exact CD r n hr
  ·rcases D6.mp h with e | e
   ·cases e;simp only[beq_self_eq_true,if_true];rw[Ai];cases q:(K6 (n+1) r []).lookup x with
    | some c=>exact⟨c,by rw[N6,q];rfl⟩
    | none=>exact⟨n,by rw[N6,q];simp⟩
   ·exact absurd e hr
theorem Bb{M:ny}{A:F3}{E:A3->A5->Prop}{s:A5}{scope:K0}{globals:A8}{closure:List (Str×A8)}{qual:Str}{outer:Env}{Q:Env->A5->Prop}
    (hQ:Q { scope:=scope,locals:=s.heap.objs.size,globals:=globals,cells:=K6 (s.heap.objs.size+1) scope.names closure,qual:=qual,func:=none,code:=outer.code,frame:=outer.frame,builtins:=outer.builtins } { s with heap:=o6 (s.heap.push { cls:=.type "dict", data:=.dict #[] }) scope.names }) :
    B4 M A (mC scope globals closure [] qual none .none (some outer)) Q E s:=by
  simp only[mC,Option.isSome_some,if_true];refine A0 (wpAny_alloc ?_);refine A0 (wpAny_layCells _ (fun name kind cells=>by cases hkc:kind == NameKind.cell<;>simp[hkc]) _ _ _ _ ?_)
  rw[show({ s with heap:=s.heap.push { cls:=.type "dict", data:=.dict #[] } }:A5).heap.objs.size=s.heap.objs.size+1 from L0 ..]
  rw[mE];exact A0 (A7 (A7 hQ))
noncomputable def qJ(N:List Str)(sc scope:K0)(js:List Nat):Bool:=
 (match scope.kind with | .function=>true | _=>false) &&
 scope.names.all (fun p=>(match p.2 with
  | .cell=>(match scope.names.lookup p.1 with | some .cell=>true | _=>false)
  | .local=>(match scope.names.lookup p.1 with | some .local=>true | _=>false)
  | .free=>(match scope.names.lookup p.1 with | some .free=>true | _=>false) && (match sc.names.lookup p.1 with | some .cell=>true | some .free=>true | _=>false)
  | _=>true)) &&
 (N.zipIdx.all fun p=>(match scope.names.lookup p.1 with | some .local=>js.contains p.2 | some .cell=>js.contains p.2 | _=>true))
structure qp (N:List Str) (sc scope:K0) (js:List Nat):Prop where
 kind:scope.kind=.function
 yM:∀x k,(x,k)∈scope.names->k=.cell->scope.names.lookup x=some .cell
 wB:∀y∈scope.names,y.2=.local->scope.names.lookup y.1=some .local
 wC:∀x k,(x,k)∈scope.names->k=.free->scope.names.lookup x=some .free
 fr:∀x,scope.names.lookup x=some .free->sc.names.lookup x=some .cell\/sc.names.lookup x=some .free
 jsl:∀(i:Nat) x,N[i]?=some x->scope.names.lookup x=some .local\/scope.names.lookup x=some .cell->i∈js
variable {js:List Nat}
theorem GP{N:List Str}{sc:K0}(h:qJ N sc scope js=true):qp N sc scope js:=by
  unfold qJ at h;rw[A2,A2] at h;obtain⟨⟨h1,h2⟩,h3⟩:=h;rw[E1] at h2 h3;refine⟨?_,fun x k hy e=>?_,fun y hy e=>?_,fun x k hy e=>?_,fun x e=>?_,fun i x e1 e2=>?_⟩
  · cases q:scope.kind<;>rw[q] at h1<;>first | rfl | cases h1
  · have:=h2 _ hy;rw[e] at this;dsimp only at this;split at this
    · assumption
    · cases this
  · have:=h2 y hy;rw[e] at this;dsimp only at this;split at this
    · assumption
    · cases this
  · have:=h2 _ hy;rw[e] at this;dsimp only at this;rw[A2] at this;have:=this.1;split at this
    · assumption
    · cases this
  · have:=h2 _ (E8 e);dsimp only at this;rw[A2] at this;have:=this.2;split at this
    · left;assumption
    · right;assumption
    · cases this
  · have hm:(x,i)∈N.zipIdx:=by
      rw[List.mem_zipIdx_iff_getElem?];exact e1
    have:=h3 _ hm;dsimp only at this;rcases e2 with e2 | e2
    · rw[e2] at this;dsimp only at this;simpa using this
    · rw[e2] at this;dsimp only at this;simpa using this
def blank(js:List Nat)(σ:St):St:=js.foldl (fun σ j=>σ.set j none) σ
theorem qS(js:List Nat):∀σ:St,(blank js σ).length=σ.length:=by
 induction js with
 | nil=>intro σ;rfl
 | cons j r ih=>intro σ;unfold blank;rw[oJ];have:=ih (σ.set j none);unfold blank at this;rw[this,C8]
theorem El(js:List Nat):∀(σ:St) (i:Nat) (v:V),(blank js σ)[i]?=some (some v)->i∉js/\σ[i]?=some (some v):=by
 induction js with
 | nil=>intro σ i v h;exact⟨by simp,h⟩
 | cons j r ih =>
  intro σ i v h;unfold blank at h;rw[oJ] at h;obtain⟨a,b⟩:=ih (σ.set j none) i v h
  by_cases e:i=j
  ·subst e
   by_cases hl:i < σ.length
   ·rw[D5 hl] at b;cases b
   ·rw[N9 (by rw[C8];omega)] at b;cases b
  ·rw[C9 (Ne.symm e)] at b;exact⟨by simp[e,a],b⟩
def Pn(js:List Nat)(g:TG):Prop:=∀x σ H Q,g x σ H Q->g x σ H fun qO H2=>(qO.length=σ.length/\∀i,i∉js->qO[i]?=σ[i]?)/\Q qO H2
theorem Ry{j:Nat}(h:j∈js):Pn js (CM j):=fun x σ H Q q=>⟨⟨C8 ..,fun i hi=>C9 (fun(e:j=i)=>hi (e▸h))⟩,q⟩
def Ke(js:List Nat)(g:Iv):Prop:=∀x σ H Q,g x σ H Q->g x σ H fun qO H2=>(qO.length=σ.length/\∀i,i∉js->qO[i]?=σ[i]?)/\Q qO H2
theorem Jh:Ke js Ji:=fun x σ H Q ⟨e,q⟩=>⟨e,⟨rfl,fun _ _=>rfl⟩,q⟩
theorem Oi{j:Nat}{u:Iv}(h:j∈js)(hu:Ke js u):Ke js (CN (CM j) u):=by
 rintro x σ H Q ⟨v,r,e,q⟩;refine⟨v,r,e,?_⟩;have:=hu r (σ.set j (some v)) H Q q;show u r (σ.set j (some v)) H _;have key:∀(P P':St->Hp->Prop),(∀a b,P a b->P' a b)->True:=fun _ _ _=>trivial
 have e2:(fun qO H2=>(qO.length=(σ.set j (some v)).length/\∀(i:Nat),i∉js->qO[i]?=(σ.set j (some v))[i]?)/\Q qO H2)=(fun qO H2=>(qO.length=σ.length/\∀(i:Nat),i∉js->qO[i]?=σ[i]?)/\Q qO H2):=by
  funext qO H2;have e3:(∀(i:Nat),i∉js->qO[i]?=(σ.set j (some v))[i]?)=(∀(i:Nat),i∉js->qO[i]?=σ[i]?):=by
   apply propext;constructor
   ·intro k i hi;rw[k i hi,C9 (fun(e:j=i)=>hi (e▸h))]
   ·intro k i hi;rw[k i hi,C9 (fun(e:j=i)=>hi (e▸h))]
  rw[e3,C8]
 rw[e2] at this;exact this
theorem NJ{K:W.Frag}{n:Nat}{u:Iv}(hu:Ke js u):Pn js (aw K n u):=by
 rintro x σ H Q ⟨a,xs,e,hq,hl,q⟩;exact⟨a,xs,e,hq,hl,hu _ _ _ _ q⟩
variable {a:A8}
section
variable {X:Cx} {pins:List (A8×Obj)} {σ:St} {H:Hp} {s:A5} {scope:K0} {cl:List (Str×A8)} {js:List Nat} {fp:List A8} {C D:A8}
theorem Inv.xB(I:Inv X pins σ H s)(h:s.heap.objs.size<=a):a∉FQ X.stack:=fun hb=>by
 rcases D6.mp (I.qY a hb) with e | e
 ·exact absurd (B3 I.lt (e▸h)) (H8 _)
 ·exact I.yn h e
theorem Inv.sR(I:Inv X pins σ H s){c:A8}(e:X.env.cells.lookup x=some c):c < s.heap.objs.size:=by
 obtain⟨v,q⟩:=I.cell x c e;exact q.lt
theorem Inv.wN(I:Inv X pins σ H s){p:A8×Obj}(hp:p∈X.pn++pins):p.1 < s.heap.objs.size:=B7 (I.pin p hp).1
structure vG (X:Cx) (scope:K0) (cl:List (Str×A8)) (s:A5) (C:A8):Prop where
 old:∀x c,cl.lookup x=some c->AO scope x=false->X.env.cells.lookup x=some c
 own:∀x c,cl.lookup x=some c->AO scope x=true->s.heap.objs.size<=c/\C < c
 inj:∀x y c,cl.lookup x=some c->cl.lookup y=some c->AO scope x=true->AO scope y=true->x=y
 fr:∀x,scope.names.lookup x=some .free->∃c,cl.lookup x=some c
 has:∀x,AO scope x=true->∃c,cl.lookup x=some c
theorem vG.ne(L:vG X scope cl s C){c b:A8}(e:cl.lookup x=some c)(hb:b < s.heap.objs.size)(h:∀x c,X.env.cells.lookup x=some c->c≠b):c≠b:=by
 cases q:AO scope x with
 | false=>exact h x c (L.old x c e q)
 | true=>exact U0 (B3 hb (L.own x c e q).1)
theorem Wd{xm:List (Str×A8)}(qi:qp X.N X.env.scope scope js)(u4:∀x c,xm.lookup x=some c->X.env.cells.lookup x=some c)(tV:∀x,scope.names.lookup x=some .free->∃c,xm.lookup x=some c)
    {h:F1} (hC:s.heap.objs.size<=C) (hs:h.objs.size=C+1):vG X scope (K6 (C+1) scope.names xm) s C/\∀x c,(K6 (C+1) scope.names xm).lookup x=some c->AO scope x=true->∃v,(o6 h scope.names).IsCell c v:=by
  have ok:=cellsFrom_ok scope.names h (C+1) [] ⟨fun _ _ hm=>(nomatch hm),nB⟩ (by rw[hs];exact B9 _);rw[hs] at ok;rw[Ai];generalize hw:K6 (C+1) scope.names []=own at ok;have mem:∀x c,own.lookup x=some c->AO scope x=true:=fun x c e=>by
    have:=qi.yM x _ (CB scope.names (C+1) (by rw[hw];exact E8 e)) rfl;unfold AO;rw[this]
  have has:∀x,AO scope x=true->∃c,own.lookup x=some c:=fun x e=>by
    unfold AO at e;split at e
    · rename_i q;obtain⟨c,z⟩:=CD scope.names (C+1) (E8 q);rw[hw] at z;exact⟨c,z⟩
    · cases e
  have yes:∀x c,(own++xm).lookup x=some c->AO scope x=true->own.lookup x=some c:=fun x c e q=>by
    obtain⟨c',z⟩:=has x q;rw[N6,z] at e;rw[z];exact e
  have no:∀x,AO scope x=false->(own++xm).lookup x=xm.lookup x:=fun x q=>by
    rw[N6];cases z:own.lookup x with
    | none=>rfl
    | some c=>rw[mem x c z] at q;cases q
  refine⟨⟨fun x c e q=>u4 x c (by rw[<- no x q];exact e),fun x c e q=>?_,fun x y c e1 e2 q1 q2=>?_,fun x e=>?_,fun x q=>?_⟩,fun x c e q=>?_⟩
  · have:=(ok.empty x c (E8 (yes x c e q))).2;exact⟨A9 hC (Nat.le_of_succ_le this),this⟩
  · exact PySem.name_of_addr ok.apart (E8 (yes x c e1 q1)) (E8 (yes y c e2 q2))
  · obtain⟨c,z⟩:=tV x e;exact⟨c,by rw[no x (by unfold AO;rw[e])];exact z⟩
  · obtain⟨c,z⟩:=has x q;exact⟨c,by rw[N6,z];rfl⟩
  · exact⟨none,(ok.empty x c (E8 (yes x c e q))).1⟩
theorem Inv.qJ(I:Inv X pins σ H s)(qi:qp X.N X.env.scope scope js)(hf:∀b∈fp,pd X pins H b)(vP:∀b∈fp,b < s.heap.objs.size)(hC:s.heap.objs.size<=C)
    (L:vG X scope cl s C):(X.inner scope cl C s H fp).Ok where
  mod:=I.ok.mod
  kind:=qi.kind
  glob:=I.ok.glob
  blt:=I.ok.blt
  above:=hC
  inj:=fun x y c a b=>by
    cases hx:AO scope x<;>cases hy:AO scope y
    · exact I.ok.inj x y c (L.old x c a hx) (L.old y c b hy)
    · exact absurd (I.sR (L.old x c a hx)) (Nat.not_lt.mpr (L.own y c b hy).1)
    · exact absurd (I.sR (L.old y c b hy)) (Nat.not_lt.mpr (L.own x c a hx).1)
    · exact L.inj x y c a b hx hy
  has:=fun x h=>by
    rcases Ad (scope:=scope) (env:=X.env) (names:=scope.names) h with q | q
    · exact L.has x (by unfold AO;rw[q])
    · exact L.fr x q
  xn:=fun x c h e=>(L.own x c e h).1
  hd:=I.ok.hd
  frames:=I.ok.frames
  xx:=.inl rfl
  exf:=fun b hb=>⟨D3 (B3 (vP b hb) hC),fun x c e=>L.ne e (vP b hb) (hf b hb).2.2.2.2.1⟩
  bs:=I.bs
  uY:=A9 I.ok.uY I.sz
  tO:=fun b o e hb=>by
    rcases(hf b hb).2.2.2.1 with z | z
    · exact I.ok.tO b o e z
    · exact absurd (B3 (B7 e) (A9 I.ok.uY z)) (H8 _)
  uN:=fun b hb z=>by
    rcases D6.mp (I.qY b z) with e | e
    · exact(hf b hb).2.1 e
    · exact(hf b hb).2.2.1 e
  qo:=I.stack
  vm:=I.rG
theorem Inv.enter{h':F1}{tk:Nat}{o:Obj}(I:Inv X pins σ H s)(qi:qp X.N X.env.scope scope js)(hf:∀b∈fp,pd X pins H b)(vP:∀b∈fp,b < s.heap.objs.size)(hC:s.heap.objs.size<=C)(hD:s.heap.objs.size<=D)(hDC:D≠C)
    (L:vG X scope cl s C) (uy:∀x c,cl.lookup x=some c->AO scope x=true->∃v,h'.IsCell c v)
    (k:∀b u,s.heap.get? b=some u->h'.get? b=some u) {m:Str->Option A3} (tH:h'.Ns C m) (ho:h'.get? D=some o) (xO:∀v,o.data≠.cell v) :
    Inv (X.inner scope cl C s H fp) (pins++[(D,o)]) (blank js σ) H { s with heap:=h',toks:=tk } where
  ok:=I.qJ qi hf vP hC L
  os:=rfl
  bare:=I.bare
  base:=Un.kept k
  loc:=by
    refine⟨m,tH,fun i x v e1 e2 e3=>?_⟩;obtain⟨hj,e2⟩:=El js σ i v e2;have free:scope.names.lookup x=some .free:=by
      rcases e3 with q | q | q
      · exact absurd (qi.jsl i x e1 (.inl (By (env:=X.env) (names:=scope.names) q))) hj
      · rcases Ad (scope:=scope) (env:=X.env) (names:=scope.names) (.inl q) with z | z
        · exact absurd (qi.jsl i x e1 (.inr z)) hj
        · exact z
      · rcases Ad (scope:=scope) (env:=X.env) (names:=scope.names) (.inr q) with z | z
        · exact absurd (qi.jsl i x e1 (.inr z)) hj
        · exact z
    have kx:=qi.fr x free;obtain⟨m0,zJ,hl0⟩:=I.loc;obtain⟨u,r,l⟩:=hl0 i x v e1 e2 (kx.elim (fun z=>.inr (.inl z)) fun z=>.inr (.inr z));refine⟨u,r,?_⟩;rcases l with⟨z,_⟩ | ⟨_,c,hc,sF⟩
    · have z':X.env.scope.names.lookup x=some .local:=z;rcases kx with y | y
      · rw[y] at z';cases z'
      · rw[y] at z';cases z'
    · obtain⟨c',u6⟩:=L.fr x free;have:c'=c:=by
        have q:=L.old x c' u6 (by unfold AO;rw[free]);rw[hc] at q;exact(C7 q).symm
      subst this;obtain⟨oc,q1,q2⟩:=sF;refine .inr ⟨?_,c',u6,oc,k _ _ q1,q2⟩;rcases e3 with q | q | q
      · have:=By (env:=X.env) (names:=scope.names) q;rw[free] at this;cases this
      · exact .inl q
      · exact .inr q
  cell:=fun x c e=>by
    cases q:AO scope x with
    | true=>exact uy x c e q
    | false =>
      obtain⟨v,oc,q1,q2⟩:=I.cell x c (L.old x c e q);exact⟨v,oc,k _ _ q1,q2⟩
  free:=I.pb.fresh hC
  qI:=fun x c e=>by
    cases q:AO scope x with
    | true=>exact I.pb.fresh (L.own x c e q).1
    | false=>exact I.qI x c (L.old x c e q)
  pin:=fun p hp=>by
    have xM:p∈X.pn++(pins++[(D,o)]):=hp;rw[<- K9] at xM;rcases D4.mp xM with z | z
    · obtain⟨a1,a2,a3,a4,a5⟩:=I.pin p z;refine⟨k _ _ a1,a2,D3 (B3 (B7 a1) hC),fun q=>?_,a5⟩;rcases D6.mp (I.qY p.1 q) with e | e
      · exact a3 e
      · exact a4 e
    · have e:p=(D,o):=by simpa using z
      subst e;exact⟨ho,I.pb.fresh hD,hDC,I.xB hD,xO⟩
  pb:=I.pb.kept k
  len:=(qS js σ).trans I.len
theorem Inv.leave{Y:Cx}{H':Hp}{s':A5}{τ:St}{pl:List (A8×Obj)}{ys:List V}{pS:List A3}{n:Nat}(I:Inv X pins σ H s)(hf:∀b∈fp,pd X pins H b)(hY:Y=X.inner scope cl C s H fp)(J:Inv Y pl τ H' s')(hD:s.heap.objs.size<=D)
    (hHD:H' D=none) (hz:ys.length<=sizeLine) (hv:AG ys pS) (ho:s'.heap.get? D=some { cls:=.type "list", data:=.seq pS.toArray n }) :
    Inv X pins σ (upd H' D (.lst ys)) s':=by
  subst hY;have un:Un (FQ X.stack) fp H H' s.heap s'.heap:=J.base;have ne:∀{b:A8} {o:Obj},s.heap.get? b=some o->b≠D:=fun e=>D3 (B3 (B7 e) hD)
  have nH:∀{b:A8} {o:HO},H' b=some o->b≠D:=fun e z=>by rw[z,hHD] at e;cases e
  have un':Un (FQ X.stack) fp H (upd H' D (.lst ys)) s.heap s'.heap:=
    ⟨un.keep,un.slot,fun b o e n' hx=>by rw[AE (ne e)];exact un.free b o e n' hx,un.there,fun b xs e=>by have:=un.rL b xs e;rw[AE (nH this)];exact this,
      fun b o u e=>by have:=un.rE b o u e;rw[AE (nH this)];exact this,fun b ps e=>by obtain⟨more,q⟩:=un.rM b ps e;exact⟨more,by rw[AE (nH q)];exact q⟩⟩
  have pb:DT X.prog X.w (upd H' D (.lst ys)) s'.heap:=fun b u e=>by
    by_cases hb:b=D
    · subst hb;rw[AM] at e;cases e;exact⟨hz,pS,n,hv,ho⟩
    · rw[AE hb] at e;exact(J.pb b u e).rq (fun _ _ _ q=>q) (fun c q=>by rw[AE (nH q)];exact q) fun c xs q=>by rw[AE (nH q)];exact q
  exact I.zz J.os un' pb J.bare fun b hb=>by
    obtain⟨_,f1,_,f3,f4,f5⟩:=hf b hb;exact⟨f3,f1,f4,f5⟩
end
section
variable {X:Cx}
def eL:V->Option Int->Option Int->Hp->VK->Prop:=fun x lo hi H Q=>∃z,x=.str z/\z.length<=sizeLine/\Q (.str (i3 z lo hi)) H
theorem ZM:Pu X eL:=by
 intro pins s σ H x v vl vu lo hi sl Q I rx hs pl pu h;obtain⟨z,rfl,hz,q⟩:=h;obtain⟨t,rfl⟩:=rx;have fin:∀t' k,EP X pins σ Q (.str (i3 z lo hi) t') { s with toks:=k }:=fun t' k=>⟨.str _,H,I.tok k,⟨_,rfl⟩,q⟩
 refine⟨"str", _,F.slot_str_getitem.lookup,oj _ _ _,?_⟩
 obtain⟨o,e1,e2,e3⟩:=hs;cases pl with
 | none =>
  cases pu with
  | none=>exact O9 (l:=none) (u:=none) (st:=none) ⟨o,e1,e2,e3⟩ rfl (W5 ⟨A9 (k7 z _ _) hz,fin⟩)
  | int j uj=>exact O9 (l:=none) (u:=some (j,uj)) (st:=none) ⟨o,e1,e2,e3⟩ rfl (W5 ⟨A9 (k7 z _ _) hz,fin⟩)
 | int i ui =>
  cases pu with
  | none=>exact O9 (l:=some (i,ui)) (u:=none) (st:=none) ⟨o,e1,e2,e3⟩ rfl (W5 ⟨A9 (k7 z _ _) hz,fin⟩)
  | int j uj=>exact O9 (l:=some (i,ui)) (u:=some (j,uj)) (st:=none) ⟨o,e1,e2,e3⟩ rfl (W5 ⟨A9 (k7 z _ _) hz,fin⟩)
theorem Kv{ys:List Str}:∀{us:List A3},AG (ys.map V.str) us->StrsAre us ys:=by
 induction ys with
 | nil=>intro us r;rw[k6] at r;cases r;exact .nil
 | cons n ns ih =>
  intro us r;rw[E7] at r;cases r with
  | cons r1 r2 =>
   obtain⟨t,e⟩:=r1;subst e;exact .cons n t (ih r2)
def Qw(K:W.Frag):V->List V->Hp->VK->Prop:=fun x vs H Q=>∃sep l ys,x=.str sep/\vs=[.ref l]/\CO K H l (ys.map V.str)/\(ys.map (·.length)).sum+ys.length * sep.length<=16777216/\Q (.str (pK sep ys)) H
theorem Vw:hU X "str.join" (Qw X.K):=by
 intro pins s σ H x vs v us Q I rx rv h;obtain⟨sep,l,ys,rfl,rfl,hl,hz,q⟩:=h;obtain⟨t,rfl⟩:=rx;obtain⟨u,rfl,ru⟩:=rv.one;cases ru;obtain⟨pS,r,p,_⟩:=I.list hl;exact join_list p.isList (by simpa using Kv r) hz fun t' k=>⟨.str _,H,I.tok k,⟨_,rfl⟩,q⟩
end
structure Fx (P:E2) (w:F6) (K:W.Frag) (mg:Str->Option A3) (base:F1) (k:Nat) (x:Str) (ps:List Str) (sp:Sp):Prop where
 ex:∃(f:A8) (fd:K5),qE P w K mg base FB k f fd ps sp/\mg x=some (.ref f)/\W.keepIn K (.ref f)=true/\Binds K fd ps []
section
variable {X:Cx} {k j:Nat} {x:Str} {ps:List Str} {sp:Sp} {p pos:Pos} {e:Expr} {es:List Expr} {t:TA}
abbrev iH(sp:Sp)(t:TA):TE:=fun σ H Q=>t σ H fun vs H1=>sp vs H1 Q E0
theorem Xw(F:Fx X.prog X.w X.K X.mg X.base k x ps sp)(hr:pj j X.A)(hkj:k<=j)(hg:Gl X x)(ha:PA X (e::es) t)(r9:(x == ("__debug__" : Str))=false:=by decide)
    (he:E3 (e::es) X.env=(false,M3 e X.env)::E3 es X.env:=by rfl) (uS:(Q7 pos (E3 es X.env)).any (·.1)=false:=by rfl):PE X (.Call (.Name x p) (e::es) [] pos) (iH sp t):=by
  obtain⟨f,fd,G,hm,hk,hb⟩:=F.ex;have q:=Vf (p:=p) (pos:=pos) G (hr.mono hkj) hg hm hk hb .nil Xy ha r9 he uS;intro pins s σ H Q I h;refine q pins s σ H Q I ?_;show t σ H fun vs H1=>sp (vs++[]) H1 Q E0
  have e2:(fun(vs:List V) (H1:Hp)=>sp (vs++[]) H1 Q E0)=(fun vs H1=>sp vs H1 Q E0):=by
    funext vs H1;rw[F8]
  rw[e2];exact h
theorem RS(F:Fx X.prog X.w X.K X.mg X.base k x ps sp)(hr:pj j X.A)(hkj:k<=j)(hg:Gl X x)(r9:(x == ("__debug__" : Str))=false:=by decide):PE X (.Call (.Name x p) [] [] pos) (iH sp Uk):=by
 obtain⟨f,fd,G,hm,hk,hb⟩:=F.ex;have q:=RW (p:=p) (pos:=pos) G (hr.mono hkj) hg hm hk hb .nil Xy r9;intro pins s σ H Q I h;exact q pins s σ H Q I h
end
variable {H:Hp} {Q:VK} {xs:List V} {p:A8}
section
variable {X:Cx}
def eW:R2:=fun x y H Q=>∃i j,x=.str i/\y=.str j/\i.length+j.length<=sizeLine/\Q (.str (i++j)) H
def JS(K:W.Frag):R2:=fun x y H Q=>(Pq fun i j=>.int (i+j)) x y H Q\/eW x y H Q\/eU x y H Q\/Xt K x y H Q
theorem Vp:CH X (binaryOp .Add) (JS X.K):=aQ.or (LM.or (aP.or Vm))
theorem UI{K:W.Frag}{i j:Int}(q:Q (.int (i+j)) H):JS K (.int i) (.int j) H Q:=.inl ⟨i,j,rfl,rfl,q⟩
theorem UG{K:W.Frag}{i j:Str}(h:i.length+j.length<=1000000)(q:Q (.str (i++j)) H):JS K (.str i) (.str j) H Q:=.inr (.inl ⟨i,j,rfl,rfl,A9 h (by decide),q⟩)
theorem UH{K:W.Frag}{b:A8}{ys:List V}(ha:H a=some (.lst xs))(hb:H b=some (.lst ys))(h:xs.length+ys.length<=1000000)(q:∀p,H p=none->Q (.ref p) (upd H p (.lst (xs++ys)))):JS K (.ref a) (.ref b) H Q:=
 .inr (.inr (.inl ⟨a,b,xs,ys,rfl,rfl,ha,hb,A9 h (by decide),q⟩))
theorem VB{K:W.Frag}{i:Int}{v:V}(h:H p=some (.lst xs))(e:Em xs i=some v)(q:Q v H):Za K (.ref p) (.int i) H Q:=.inl ⟨p,xs,i,v,rfl,rfl,.inl (.inl h),e,q⟩
theorem ZX{K:W.Frag}{i:Int}{v:V}(h:CO K H p xs)(e:Em xs i=some v)(q:Q v H):Za K (.ref p) (.int i) H Q:=.inl ⟨p,xs,i,v,rfl,rfl,h,e,q⟩
theorem VA{K:W.Frag}{z:Str}{i:Int}{c:Nat}(h:z.length<=1000000)(e:Em z.cps.toList i=some c)(q:Q (.str ⟨#[c]⟩) H):Za K (.str z) (.int i) H Q:=.inr (.inr ⟨z,i,c,rfl,rfl,A9 h (by decide),e,q⟩)
theorem ao:Pm X (Za X.K):=ak
def Qu(K:W.Frag):V->Option Int->Option Int->Hp->VK->Prop:=fun x lo hi H Q=>eL x lo hi H Q\/eM K x lo hi H Q\/eK K x lo hi H Q
theorem ZO:Pu X (Qu X.K):=ZM.or (Uu.or ZL)
theorem Ur{K:W.Frag}{z:Str}{lo hi:Option Int}(h:z.length<=1000000)(q:Q (.str (i3 z lo hi)) H):Qu K (.str z) lo hi H Q:=.inl ⟨z,rfl,A9 h (by decide),q⟩
theorem Qg{K:W.Frag}{lo hi:Option Int}(h:CO K H a xs)(q:∀p,H p=none->Q (.ref p) (upd H p (.lst (EG xs lo hi)))):Qu K (.ref a) lo hi H Q:=.inr (.inl ⟨a,xs,rfl,h,q⟩)
theorem Us{K:W.Frag}{lo hi:Option Int}(h:H a=some (.lst xs))(q:∀p,H p=none->Q (.ref p) (upd H p (.lst (EG xs lo hi)))):Qu K (.ref a) lo hi H Q:=Qg (.inl (.inl h)) q
theorem Uw:Kd X Qv:=set_list
def OE(K:W.Frag):List V->Hp->VK->Prop:=fun xs H Q=>∃x n,xs=[x]/\hV K x H n/\Q (.int n) H
theorem PN:Aw X (.builtin "len") (OE X.K):=Sz
theorem OX{K:W.Frag}{z:Str}(h:z.length<=1000000)(q:Q (.int z.length) H):OE K [.str z] H Q:=⟨_,_,rfl,⟨A9 h (by decide),rfl⟩,q⟩
theorem Rk{K:W.Frag}(h:CO K H p xs)(q:Q (.int xs.length) H):OE K [.ref p] H Q:=⟨_,_,rfl,.inl ⟨xs,h,rfl⟩,q⟩
theorem WC{K:W.Frag}(h:H p=some (.lst xs))(q:Q (.int xs.length) H):OE K [.ref p] H Q:=Rk (.inl (.inl h)) q
abbrev jE(K:W.Frag)(tl:TE):TI:=fun σ H R=>tl σ H fun x H1=>∃a xs,x=.ref a/\((CO K H1 a xs/\R (iB K a) H1)\/(Cg K H1 a xs/\R (iR K a) H1))
theorem Zt{tg l:Expr}{tl:TE}(hl:PE X l tl):PI X tg l (jE X.K tl):=by
 intro pins s σ H R I h;refine Ac (hl pins s σ H _ I h) fun v s1 ⟨x,H1,I1,r1,q1⟩=>?_
 obtain⟨a,xs,e,q⟩:=q1;subst e;cases r1;rcases q with⟨hq,q⟩ | ⟨hq,q⟩
 ·obtain⟨pS,rv,p,hz⟩:=I1.list hq;refine U4 p.isList ?_;refine⟨s1.heap.objs.size,[s1.heap.objs.size],_,_,H1,rfl,I1.kept (t':=s1.toks) fun b o e=>A6 _ e,Np a _,⟨_,D1 _ rfl,rfl,rfl⟩,fun b hb=>?_,q⟩;have e:b=s1.heap.objs.size:=by simpa using hb
  subst e;exact I1.pZ (B9 _) (I1.pb.fresh (B9 _))
 ·obtain⟨pS,rv,p,hz⟩:=I1.tuple hq;refine mm (show s1.heap.IsTuple a pS.toArray from p) ?_;refine⟨s1.heap.objs.size,[s1.heap.objs.size],_,_,H1,rfl,I1.kept (t':=s1.toks) fun b o e=>A6 _ e,Ko a _,⟨_,D1 _ rfl,rfl,rfl⟩,fun b hb=>?_,q⟩;have e:b=s1.heap.objs.size:=by simpa using hb
  subst e;exact I1.pZ (B9 _) (I1.pb.fresh (B9 _))
end
theorem Cp(h:H p=none)(o:HO):Iw H (upd H p o):=fun b u q=>by rw[AE (AR q h)];exact q
section
variable {X:Cx}
theorem jB(K:W.Frag)(h:X.K=K:=by rfl):Pm X (Za K):=by subst h;exact ao
theorem PL(K:W.Frag)(h:X.K=K:=by rfl):Aw X (.builtin "len") (OE K):=by subst h;exact PN
theorem Rf(K:W.Frag)(h:X.K=K:=by rfl):hU X "str.join" (Qw K):=by subst h;exact Vw
def Mj(K:W.Frag):List V->Hp->VK->Prop:=fun xs H Q=>∃p ys,xs=[.ref p]/\(CO K H p ys\/Cg K H p ys)/\∀l,H l=none->Q (.ref l) (upd H l (.lst ys))
theorem Lx(K:W.Frag)(h:X.K=K:=by rfl):Aw X (.type "list") (Mj K):=by subst h;exact Ik
def JQ(K:W.Frag):List V->Hp->VK->Prop:=fun xs H Q=>∃p ys,xs=[.ref p]/\((CO K H p ys/\∀l,H l=none->Q (.ref l) (upd H l (.tup ys)))\/(Cg K H p ys/\Q (.ref p) H))
theorem KG(K:W.Frag)(h:X.K=K:=by rfl):Aw X (.type "tuple") (JQ K):=by subst h;exact Gq
end
noncomputable def tx(l:List Nat):Str:=⟨l.toArray⟩
theorem MT(l:List Nat):(tx l).cps.toList=l:=by simp[tx]
theorem Bj(l:List Nat):(tx l).length=l.length:=by simp[tx,Str.length]
theorem Kn(a b:List Nat):tx a++tx b=tx (a++b):=by
 show(⟨(tx a).cps++(tx b).cps⟩:Str)=_;simp[tx]
theorem Yy{a b:List Nat}(h:tx a=tx b):a=b:=by
 have:=congrArg (fun z:Str=>z.cps.toList) h;simpa[tx] using this
def Ls(l:List Nat)(lo hi:Option Int):List Nat:=(l.drop (HT.pe l.length 0 lo)).take (HT.pe l.length l.length hi - HT.pe l.length 0 lo)
theorem RL(l:List Nat)(a k:Nat)(h:a+k<=l.length):((C2 k).map fun j=>a+j).filterMap (fun i=>l[i]?)=(l.drop a).take k:=by
  apply nD;intro i
  by_cases hi:i < k
  · rw[Z8 hi,List.getElem?_drop];have e:(List.map (fun j=>a+j) (C2 k)).filterMap (fun i=>l[i]?)=(C2 k).map fun j=>l[a+j]!:=by
      rw[Y3];rw[show(fun i=>l[i]?)∘(fun j=>a+j)=fun j=>l[a+j]? from rfl];have:∀(r:List Nat),(∀j∈r,a+j < l.length)->r.filterMap (fun j=>l[a+j]?)=r.map fun j=>l[a+j]!:=by
        intro r
        induction r with
        | nil=>intro _;rfl
        | cons x r ih =>
          intro hx;have hxl:=hx x B8;rw[M9,A4 hxl,E7,ih fun j hj=>hx j (B5 _ hj)];simp[hxl]
      exact this _ fun j hj=>by have:=N2.mp hj;omega
    rw[e,C0,L7 hi];have hl:a+i < l.length:=by omega
    simp[hl]
  · have e1:(((C2 k).map fun j=>a+j).filterMap (fun i=>l[i]?)).length<=k:=A9 (List.length_filterMap_le _ _) (by simp);rw[N9 (by omega),N9 (by rw[O8];omega)]
theorem cl(i:Int)(n:Nat):max 0 (min (if i < 0 then i+(n:Int) else i) (n:Int))=(((if i < 0 then(i+(n:Int)).toNat else min i.toNat n):Nat):Int):=by
 by_cases h:i < 0
 ·simp only[h,if_true];omega
 ·simp only[h,if_false];omega
theorem QF(l:List Nat)(lo hi:Option Int):i3 (tx l) lo hi=tx (Ls l lo hi):=by
 have hlen:(tx l).length=l.length:=Bj l;have key:Q9 lo hi 1 l.length=(C2 (HT.pe l.length l.length hi - HT.pe l.length 0 lo)).map fun j=>HT.pe l.length 0 lo+j:=by
  have zAT:Q9 lo hi 1 l.length=sliceRange ((HT.pe l.length 0 lo:Nat):Int) ((HT.pe l.length l.length hi:Nat):Int) 1:=by
   unfold Q9;rcases lo with _ | i<;>rcases hi with _ | j<;>simp only[show(1:Int) > 0 by decide,if_true,HT.pe,cl,Int.natCast_zero]<;>rfl
  rw[zAT];unfold sliceRange;simp only[show(1:Int) > 0 by decide,if_true];generalize HT.pe l.length 0 lo=a;generalize HT.pe l.length l.length hi=b;have cnt:(if(a:Int) < (b:Int) then((b:Int) - (a:Int)+1 - 1) / 1 else 0).toNat=b - a:=by
   split<;>omega
  rw[cnt];apply mQ;intro j _;omega
 have hle:HT.pe l.length l.length hi<=l.length:=HT.tM _ _ (B9 _) _;have hlo:HT.pe l.length 0 lo<=l.length:=HT.tM _ _ (M4 _) _;unfold i3;rw[hlen,key];unfold Ls;generalize HT.pe l.length 0 lo=a at *;generalize HT.pe l.length l.length hi=b at *;have e2:(List.map (fun j=>a+j) (C2 (b - a))).filterMap (fun i=>(tx l).cps[i]?)=(l.drop a).take (b - a):=by
  have e3:(fun i:Nat=>(tx l).cps[i]?)=fun i=>l[i]?:=by funext i;simp[tx]
  rw[e3]
  by_cases vS:a<=b
  ·exact RL l a (b - a) (by omega)
  ·have:b - a=0:=by omega
   rw[this];simp
 split
 ·rename_i hc;simp only[F4,nE,A2,beq_iff_eq] at hc;have h0:a=0:=by omega
  have h1:b=l.length:=by omega
  subst h0 h1;simp
 ·rw[e2];rfl
theorem vo(a b:List Nat):qz (.str (tx a)) (.str (tx b))=decide (a=b):=by
 unfold qz
 by_cases h:a=b
 ·subst h;simp
 ·rw[decide_eq_false h];have:tx a≠tx b:=fun e=>h (Yy e)
  simpa using this
section
variable {X:Cx}
def eS(K:W.Frag):List V->Hp->VK->Prop:=fun xs H Q=>∃x T t b,xs=[x,.ty T]/\qh K H x t/\W.kitOne K t (.type T)=some b/\Q (.bl b) H
theorem PP(K:W.Frag)(hK:X.K=K:=by rfl):Aw X (.builtin "isinstance") (eS K):=by
 subst hK;intro pins s σ H xs us Q I r h;obtain⟨x,T,t,b,rfl,ty,e,q⟩:=h;obtain⟨u,v,rfl,ru,rv⟩:=r.two;cases rv;exact Oa I ru ty e fun tk=>⟨.bl b,H,I.tok tk,rfl,q⟩
theorem AG.get':∀{xs:List V} {us:List A3} {i:Nat} {u:A3},AG xs us->us[i]?=some u->∃x,xs[i]?=some x/\RelV x u
 | _,_,_,_,.nil,e=>by simp at e
 | _,_,0,_,.cons r _,e=>by simp at e;subst e;exact⟨_,rfl,r⟩
 | _,_,i+1,u,.cons _ t,e=>by
  obtain⟨x,h1,h2⟩:=AG.get' (i:=i) (u:=u) t (by simpa using e);exact⟨x,by simpa using h1,h2⟩
def eV(K:W.Frag):List V->Hp->VK->Prop:=fun xs H Q=>∃(p:A8) (bs:List Bool),xs=[.ref p]/\CO K H p (bs.map V.bl)/\Q (.bl (bs.all id)) H
theorem XF{bs:List Bool}{us:List A3}(r:AG (bs.map V.bl) us){i:Nat}{v:A3}(e:us[i]?=some v):∃b,bs[i]?=some b/\v=.bool b:=by
 obtain⟨x,e1,e2⟩:=r.get' e;rw[C0] at e1;cases q:bs[i]? with
 | none=>rw[q] at e1;cases e1
 | some b =>
  rw[q] at e1;have:V.bl b=x:=C7 e1;subst this;exact⟨b,rfl,e2⟩
theorem Fo:∀bs:List Bool,((C2 bs.length).all fun i=>(bs[i]?).getD true)=bs.all id
 | []=>rfl
 | b::bs=>by
  rw[D8,U5,G8,k8,G8];have ih:=Fo bs;rw[<- ih];rfl
theorem aR{h h':F1}{o:Obj}(hk:∀b x,b∉[h.objs.size]->(h.push o).get? b=some x->h'.get? b=some x):∀b x,h.get? b=some x->h'.get? b=some x:=
 fun b x e=>hk b x (fun hm=>by rw[E5.mp hm] at e;exact H8 _ (B7 e)) (A6 _ e)
theorem PU(K:W.Frag)(hK:X.K=K:=by rfl)(hc:X.calm=true:=by rfl):Aw X (.builtin "all") (eV K):=by
  subst hK;intro pins s σ H xs us Q I r h;obtain⟨p,bs,rfl,hp,q⟩:=h;obtain⟨u,rfl,rx⟩:=vals1 r;cases rx;obtain⟨pS,rv,pl,hz⟩:=I.list hp;have hl:=pl.isList;have sQ:p < s.heap.objs.size:=by obtain⟨_,e,_⟩:=hl;exact B7 e
  refine call_all_walk (U4 hl ?_);refine⟨s.heap.objs.size,[s.heap.objs.size,p],[s.heap.objs.size],pS.toArray.size,_,_,fun i=>(bs[i]?).getD true,rfl,Walks.list (A:=X.A.in1) (I.ok.hd hc) _ p (D3 sQ) pS.toArray,
    ⟨⟨_,D1 _ rfl,rfl,rfl⟩,hl.push _⟩,fun i v s' Q' E' hP hQ=>?_,fun h' tk hk=>?_⟩
  · obtain⟨b,e,rfl⟩:=XF rv (i:=i) (v:=v) (by simpa using hP);simp only[e,nV] at hQ;exact G4 hQ
  · have e:((C2 pS.toArray.size).all fun i=>(bs[i]?).getD true)=bs.all id:=by
      rw[B0,<- rv.length,F4];exact Fo bs
    rw[e];exact⟨.bl _,H,I.kept (aR hk),rfl,q⟩
def eJ(K:W.Frag):V->Option Int->Option Int->Hp->VK->Prop:=fun x lo hi H Q=>∃a xs,x=.ref a/\Cg K H a xs/\(HT.pe xs.length 0 lo=0/\HT.pe xs.length xs.length hi=xs.length)/\Q (.ref a) H
theorem Ut:Pu X (eJ X.K):=by
 intro pins s σ H x v vl vu lo hi sl Q I rx hs pl pu h;obtain⟨a,xs,rfl,hx,hw,q⟩:=h;cases rx;obtain⟨pS,r,ht,hz⟩:=I.tuple hx;have hlen:pS.toArray.size=xs.length:=by rw[B0];exact r.length.symm
 refine⟨"tuple", _,E4.lookup,ht.typeIs,?_⟩
 obtain⟨os,uT,yG,vQ⟩:=id hs
 have zc:s.TypeIs (.ref sl) "slice" := ⟨os,uT,yG⟩
 unfold X2
 try with_reducible refine G7 ?_
 first | refine A0 (A7 ?_) | skip
 refine A0 (Z2 ht.typeIs (by decide) ?_)
 refine A0 (J3 (name:=R6 "__getitem__") ht.typeIs E4
  (K4 E4 ht.typeIs W7 ?_ (Y4 _ _)))
 show B4 _ _ (N1 (.ref a) >>= _) _ _ s;refine A0 (mV ht ?_);refine A0 (X3 zc ?_);rw[if_pos (by decide)];refine A0 (HT.qP hs pl pu ?_);have zAY:((((HT.pe pS.toArray.size 0 lo:Nat):Int) == 0 && (1:Int) == 1 && (HT.pe pS.toArray.size pS.toArray.size hi - HT.pe pS.toArray.size 0 lo) == pS.toArray.size)=true):=by
  rw[hlen,hw.1,hw.2];simp
 show B4 _ _ (if(((HT.pe pS.toArray.size 0 lo:Nat):Int) == 0 && (1:Int) == 1 && (HT.pe pS.toArray.size pS.toArray.size hi - HT.pe pS.toArray.size 0 lo) == pS.toArray.size)=true then _ else _) _ _ s;rw[if_pos zAY];have fin:EP X pins σ Q (.ref a) s:=⟨.ref a,H,I,rfl,q⟩;refine A0 (m:=Y7 (D7 a)) ?_;unfold Y7;refine A0 (X3 ht.typeIs (A7 ?_));rw[if_pos (by decide)];exact A0 (V2 (A7 ⟨_,rfl,A7 fin⟩))
end
end L2
namespace L2
open PySem PySem.Spec PyProof.Rows PySem.SeqAt
variable {H:Hp} {Q:VK}
section
variable {X:Cx}
def ib(r:V->List V->Hp->VK->Prop)(to:TE)(t:TA):TE:=fun σ H Q=>to σ H fun x H1=>(∃p xs,x=.ref p/\H1 p=some (.tup xs))/\t σ H1 fun xs H2=>r x xs H2 Q
theorem fE{o e:Expr}{es:List Expr}{to:TE}{t:TA}{name:Str}{apos qN:Pos}{id:String}{r:V->List V->Hp->VK->Prop}(pa:j9 "tuple")(slot:Slot "tuple" name id)(zA:om (.builtin id)=pure (.type "method_descriptor"))(hm:hG X id r)(ho:PE X o to)(ha:PA X (e::es) t)
    (qU:M0 o name X.env (M3 o X.env)=M3 o X.env:=by rfl)
    (xV:((Q7 qN (E3 (e::es) X.env)).all (fun x=>!x.1) && (backToKw qN (oE [] X.env)).all (fun x=>x.1.isSome)
      && decide ((e::es).length+([]:List X4).length+(if([]:List X4).isEmpty then 0 else 1) < 30))=true:=by rfl)
    (qL:(apos.endLine == qN.line)=true:=by rfl) (hs:E3 (e::es) X.env=(false,M3 e X.env)::E3 es X.env:=by rfl) (tR:(Q7 qN (E3 es X.env)).any (·.1)=false:=by rfl) :
    PE X (.Call (.Attribute o name apos) (e::es) [] qN) (ib r to t):=by
  intro pins s σ H Q I h;refine k4 qU xV qL rfl (Ac (ho pins s σ H _ I h) fun v s1 ⟨x,H1,I1,r1,ty,q1⟩=>?_);obtain⟨p,xs,rfl,hp⟩:=ty;cases r1;obtain⟨_,pS,_,ob,h1,hc,hd,_⟩:=I1.pb p _ hp
  refine⟨"tuple", id,pa,slot,zA,⟨ob,h1,hc⟩,fun a e=>by cases e;exact⟨ob,h1,hd⟩,?_⟩
  have hA:=ha qN pins s1 σ H1 _ I1 q1;rw[hs] at hA ⊢;refine U3 (by show(false || (Q7 qN (E3 es X.env)).any (·.1))=false;rw[tR]<;>rfl) (mB ?_);exact Ac hA fun us s2 ⟨vs,H2,I2,r2,q2⟩=>hm pins s2 σ H2 (.ref p) vs (.ref p) us Q I2 rfl r2 q2
def Xu(K:W.Frag):R2:=fun x y H Q=>∃a b ys,x=.ref a/\y=.ref b/\Cg K H a []/\Cg K H b ys/\Q (.ref b) H
theorem Vn:CH X (binaryOp .Add) (Xu X.K):=by
  intro pins s σ H x y v u Q I rx ry h;obtain⟨a,b,ys,rfl,rfl,ha,hb,q⟩:=h;cases rx;cases ry;obtain⟨pS,r1,p1,_⟩:=I.tuple ha;obtain⟨pf,r2,p2,_⟩:=I.tuple hb;cases r1;obtain⟨⟨cls,dd,data,sl⟩,ho,hc,n,hd⟩:=id p1;obtain⟨⟨zAm,dd2,data2,vb⟩,xR,zX,n2,hd2⟩:=id p2;simp only at hc hd zX hd2;subst hc hd zX hd2;exact m8 ⟨_,ho,rfl⟩ ⟨_,xR,rfl⟩ g9 mU U1 T4 (S4 _ _)
      (tuple_addW0 a b _ pf.toArray n n2 dd dd2 sl vb (by simp)) ⟨ho,xR,⟨.ref b,H,I,rfl,q⟩⟩
def JR(K:W.Frag):R2:=fun x y H Q=>JS K x y H Q\/Xu K x y H Q
theorem Vo(K:W.Frag)(h:X.K=K:=by rfl):CH X (binaryOp .Add) (JR K):=by subst h;exact Vp.or Vn
theorem UF{K:W.Frag}{i j:Int}(q:Q (.int (i+j)) H):JR K (.int i) (.int j) H Q:=.inl (UI q)
theorem UD{K:W.Frag}{i j:Str}(h:i.length+j.length<=1000000)(q:Q (.str (i++j)) H):JR K (.str i) (.str j) H Q:=.inl (UG h q)
theorem UE{K:W.Frag}{a b:A8}{xs ys:List V}(ha:H a=some (.lst xs))(hb:H b=some (.lst ys))(h:xs.length+ys.length<=1000000)(q:∀p,H p=none->Q (.ref p) (upd H p (.lst (xs++ys)))):JR K (.ref a) (.ref b) H Q:=.inl (UH ha hb h q)
def OD(K:W.Frag):V->Option Int->Option Int->Hp->VK->Prop:=fun x lo hi H Q=>Qu K x lo hi H Q\/eJ K x lo hi H Q
theorem ig(K:W.Frag)(h:X.K=K:=by rfl):Pu X (OD K):=by subst h;exact ZO.or Ut
theorem Uo{K:W.Frag}{z:Str}{lo hi:Option Int}(h:z.length<=1000000)(q:Q (.str (i3 z lo hi)) H):OD K (.str z) lo hi H Q:=.inl (Ur h q)
theorem ZK{K:W.Frag}{a:A8}{xs:List V}{lo hi:Option Int}(h:CO K H a xs)(q:∀p,H p=none->Q (.ref p) (upd H p (.lst (EG xs lo hi)))):OD K (.ref a) lo hi H Q:=.inl (Qg h q)
theorem Uq{K:W.Frag}{a:A8}{xs:List V}{lo hi:Option Int}(h:H a=some (.lst xs))(q:∀p,H p=none->Q (.ref p) (upd H p (.lst (EG xs lo hi)))):OD K (.ref a) lo hi H Q:=.inl (Us h q)
def Qt:V->List V->Hp->VK->Prop:=fun x vs H Q=>∃l,x=.str (tx l)/\vs=[]/\(∀c∈l,c < 128)/\l.length<=1000000/\Q (.str (tx (l.map up1))) H
theorem Re:hU X "str.upper" Qt:=by
 intro pins s σ H x vs v us Q I rx rv h;obtain⟨l,rfl,rfl,hA,hz,q⟩:=h;obtain⟨t,rfl⟩:=rx;cases rv.zero;have e:Txt.upper (tx l)=tx (l.map up1):=by
  rw[upper_ascii (by rw[MT];exact hA)];simp[tx]
 refine SC.upper (by rw[e,Bj,F4];exact decide_eq_false (by have:sizeLine=16777216:=T3;omega)) ⟨.str (tx (l.map up1)),H,I.tok _,⟨_,by rw[e]⟩,q⟩
end
end L2
namespace L2
open PySem PySem.Spec PyProof.Rows
variable {items:Array A3}
section
variable {prog:E2} {w:F6} {A:F3} {E:A3->A5->Prop}
theorem Hm{it t:A8}(vN:t≠it):∀(n i:Nat) (s:A5) (Q:List A3->A5->Prop),s.heap.IsListIter it t i->s.heap.IsList t items->i+n<=items.size ->
    (∀h',h'.IsListIter it t (i+n)->O2 it s.heap h'->Q ((items.toList.drop i).take n) { s with heap:=h' })->B4 (C3 prog w) A (draw (.ref it) n) Q E s
  | 0,i,s,Q,hit,_,_,hQ=>by
    show B4 _ _ (pure []) Q E s;exact A7 (by simpa using hQ s.heap hit (pO ..))
  | n+1,i,s,Q,hit,ht,hle,hQ=>by
    have sQ:i < items.size:=by omega
    show B4 _ _ (mf (.ref it) >>= _) Q E s;refine A0 (j4 hit ht (x:=items[i]) (by simp[sQ]) fun h₁ tU qd=>?_);refine A0 (G7 (Hm vN n (i+1) _ _ tU (ht.extBut qd.extBut vN) (by omega) fun sP xU rP=>A7 ?_));have hd:items.toList.drop i=items[i]::items.toList.drop (i+1):=by simp[R7,sQ]
    have:=hQ sP (by rw[show i+(n+1)=i+1+n by omega];exact xU) (qd.trans rP);rw[hd,List.take_succ_cons] at this;exact this
theorem EO{s:A5}{t:A8}{Q:List A3->A5->Prop}(hh:A.handled=none)(ht:s.heap.IsList t items)
    (hQ:∀h',oF s.heap.objs.size s.heap h'->Q items.toList { s with heap:=h' }):B4 (C3 prog w) A (oA (.ref t) items.size none) Q E s:=by
  have sQ:t≠s.heap.objs.size:=by obtain⟨o,ho,_⟩:=ht;exact D3 (B7 ho)
  unfold oA;refine A0 ?_
  · unfold notIterableAtAll;refine A0 (P9 ht.typeIs PySem.slot_list_iter.lookup ?_);refine A7 ?_;simp only[B2,if_false];refine A0 (G7 (U4 ht ?_));refine A0 (G7 (Hm sQ items.size 0 _ _ ⟨_,D1 _ rfl,rfl,rfl⟩ (ht.push _) (by omega) fun h₁ tU qd=>?_));have uK:List.take items.size (List.drop 0 items.toList)=items.toList:=by
      rw[List.drop_zero];exact List.take_of_length_le (by simp)
    rw[uK];rw[if_neg (by simp)];have y9:h₁.IsList t items:=(ht.push _).extBut qd.extBut sQ;refine A0 (G7 (lu hh tU y9 (by simp) fun sP zR=>?_));simp only[Option.isSome_none,B2,if_false];refine A7 (hQ sP fun b o hb e=>zR b o hb (qd.extBut b o hb (A6 _ e)))
theorem JE{s:A5}{t:A8}{targets:List (Bool×(A3->Sem Unit))}{Q:Unit->A5->Prop}(hh:A.handled=none)(ht:s.heap.IsList t items)
    (hn:targets.length=items.size) (zD:targets.findIdx? (·.1)=none)
    (h:∀h',oF s.heap.objs.size s.heap h'->B4 (C3 prog w) A (Z7 (targets.map (·.2)) items.toList) Q E { s with heap:=h' }) :
    B4 (C3 prog w) A (unpack (.ref t) targets) Q E s:=by
  unfold unpack;rw[hn,zD];exact A0 (G7 (EO hh ht h))
end
section
variable {X:Cx}
abbrev ax(n:Nat)(t:Iv):TG:=fun v σ H Q=>∃a xs,v=.ref a/\H a=some (.lst xs)/\xs.length=n/\t xs σ H Q
theorem RO{es:List Expr}{k:Nat}{t:Iv}{n:Nat}{pos:Pos}(hc:X.calm=true)(h:cV X es t)
    (hn:(K3 es X.env).length=n:=by rfl) (rD:(K3 es X.env).findIdx? (·.1)=none:=by rfl):PG X (.Tuple es k pos) (ax n t):=by
  intro pins s σ H v u Q I r hw;obtain⟨a,xs,e1,hq,hl,hw⟩:=hw;subst e1;cases r;obtain⟨pS,rv,ht,hz⟩:=I.list (.inl (.inl hq));rw[assign_Tuple];refine A0 (Q5 (JE (I.ok.hd hc) ht.isList (by simp[hn,<- hl,rv.length]) rD fun h' hx=>?_));have I1:Inv X pins σ H { s with heap:=h' }:=I.kept (t':=s.toks) fun b o e=>hx b o (D3 (B7 e)) e
  exact h pins _ σ H xs _ Q I1 (by simpa using rv) hw
theorem NL{n:Nat}{js:List Nat}{u:Iv}(hu:Ke js u):Pn js (ax n u):=by
 rintro x σ H Q ⟨a,xs,e,hq,hl,q⟩;exact⟨a,xs,e,hq,hl,hu _ _ _ _ q⟩
end
end L2
namespace L2
open PySem PySem.Spec PyProof.Rows PySem.SeqAt
inductive D where
 | fl (v:V)
 | tup (ds:List D)
 | lst (ds:List D)
end L2
namespace L2
open PySem PySem.Spec PyProof.Rows
inductive T where
 | leaf (k:Str) (v:V)
 | op (s:Str) (m n:T)
 | many (k w:Str) (ts:List T)
 | zAw (x:Str) (a b:T)
 | loop (i:Str) (n:T) (x:Str) (a b:T)
 | pick (n:T) (ts:List T)
end L2
namespace L2
open PySem PySem.Spec PyProof.Rows PySem.SeqAt
end L2
namespace L2
open PySem PySem.Spec PyProof.Rows
section
variable {X:Cx} {e:Expr} {te:TE} {p1 p2 yj qM:Pos}
theorem FW:∀{xs:List V} {us:List A3},AG xs us->AG xs.reverse us.reverse
 | _,_,.nil=>.nil
 | _,_,.cons (a:=x) (b:=u) (l₁:=xs) (l₂:=us) r t=>by
  rw[nF,nF];exact AG.append (FW t) (.cons r .nil)
end
section
variable {X:Cx} {pins:List (A8×Obj)} {σ:St} {H:Hp} {s:A5} {h':F1}
theorem Inv.td{t':Nat}{ch:List A8}(I:Inv X pins σ H s)(k:∀b o,b∉ch->s.heap.get? b=some o->h'.get? b=some o)(hf:∀b∈ch,pd X pins H b):Inv X pins σ H { s with heap:=h',toks:=t' }:=by
 have yq:∀b u,H b=some u->b∉ch:=fun b u e z=>by have:=(hf b z).1;rw[e] at this;cases this
 refine I.step (g':=s.gens) (d':=s.drawn) (ch:=ch) (fun b hb=>?_) (fun b o _ _ hc e _=>k b o hc e) (fun b o _ _ hc e _=>⟨o.slots,k b o hc e⟩) (fun _ _ _ _ n=>n)
  (fun b o hc e=>⟨o,k b o hc e⟩) (fun _ _ e=>e) (fun _ _ _ e=>e) (fun b ps e=>⟨#[],by rw[e];simp⟩) (fun m hm=>?_) (fun b u e=>?_) I.bare
 ·obtain⟨f0,f1,f2,f3,f4,f5⟩:=hf b hb;exact⟨f3,f1,f4,f5⟩
 ·obtain⟨o,es,ep,ho,r⟩:=hm;exact⟨o,es,ep,k _ o (fun z=>(hf _ z).2.1 rfl) ho,r⟩
 ·refine(I.pb b u e).rq (fun c v hc q=>k c v ?_ q) (fun _ q=>q) fun _ _ q=>q
  rcases hc with z | z
  ·rw[z];exact yq b u e
  ·exact yq c _ z
end
section
variable {κ:Type} [DecidableEq κ]
noncomputable def Dm(pW:List (κ×V))(k:κ):Option V:=(pW.find? fun kv=>decide (kv.1=k)).map (·.2)
noncomputable def LJ(pW:List (κ×V))(k:κ)(v:V):List (κ×V):=
 if(pW.any fun kv=>decide (kv.1=k))=true then pW.map (fun kv=>if kv.1=k then(kv.1,v) else kv) else pW++[(k,v)]
theorem Dk{p:κ×V}{r:List (κ×V)}{k:κ}(e:p.1=k):Dm (p::r) k=some p.2:=by simp[Dm,Q3,e]
theorem Dl{p:κ×V}{r:List (κ×V)}{k:κ}(e:¬p.1=k):Dm (p::r) k=Dm r k:=by simp[Dm,Q3,e]
theorem KV.val{pW:List (κ×V)}{vs:List (κ×A3)}(r:KV pW vs)(k:κ):Gh (Dm pW k) (mP vs k):=by
 unfold KV at r
 induction r with
 | nil=>exact True.intro
 | @cons p q ps qs h t ih =>
  obtain⟨h1,h2⟩:=h
  by_cases e:p.1=k
  ·have e':q.1=k:=h1.symm.trans e;have b:mP (q::qs) k=some q.2:=by simp[mP,Q3,e']
   rw[Dk e,b];exact h2
  ·have e':¬q.1=k:=fun z=>e (h1.trans z)
   have b:mP (q::qs) k=mP qs k:=by simp[mP,Q3,e']
   rw[Dl e,b];exact ih
theorem KV.length{pW:List (κ×V)}{vs:List (κ×A3)}(r:KV pW vs):pW.length=vs.length:=Paired.length r
end
theorem YE{P:E2}{w:F6}{k:BK}{u:A3}(r:RelV (kV k) u):(Au P w).is k u=true:=by
 cases k with
 | inl i=>obtain⟨t,e⟩:=(show ∃t,u=mM i t from r);subst e;exact Jb P w i t
 | inr x=>obtain⟨t,e⟩:=(show ∃t,u=mN x t from r);subst e;exact Ja P w x t
theorem Hh{P:E2}{w:F6}:∀{ks:List BK} {us:List A3},AG (ks.map kV) us->ItemsAre (Au P w) ks us
 | [],_,r=>by rw[k6] at r;cases r;exact .nil
 | k::ks,_,r=>by
  rw[E7] at r;cases r with
  | cons h t=>exact .cons (YE h) (Hh t)
abbrev KT(H:Hp):List (List BK×V)->List (List BK×A8×A3)->Prop:=Paired fun p q=>p.1=q.1/\H q.2.1=some (.tup (p.1.map kV))/\RelV p.2 q.2.2
variable {H:Hp} {pW:List (List BK×V)}
theorem KT.val{xs:List (List BK×A8×A3)}(r:KT H pW xs)(k:List BK):Gh (Dm pW k) ((o7 xs k).map (·.2)):=by
 induction r with
 | nil=>exact True.intro
 | @cons p q ps qs h t ih =>
  obtain⟨h1,_,h2⟩:=h
  by_cases e:p.1=k
  ·have e':q.1=k:=h1.symm.trans e;have b:o7 (q::qs) k=some q.2:=by simp[o7,Q3,e']
   rw[Dk e,b];exact h2
  ·have e':¬q.1=k:=fun z=>e (h1.trans z)
   have b:o7 (q::qs) k=o7 qs k:=by simp[o7,Q3,e']
   rw[Dl e,b];exact ih
section
variable {P:E2} {w:F6} {H:Hp} {h:F1} {a:A8}
theorem Xq{u:HO}(ok:DT P w H h)(e:Rd H a u):Ab P w H h a u:=e.ok ok
theorem Sl{pW:List (BK×V)}(ok:DT P w H h)(e:Rd H a (.dK pW)):pW.length<=sizeLine/\(a == T1)=false/\∃vs,KV pW vs/\h.DictOf (Au P w) a vs:=
 show Ab P w H h a (.dK pW) from Xq ok e
theorem Rp{ks:List BK}(ok:DT P w H h)(e:H a=some (.tup (ks.map kV))):(nQ (Au P w)).is h ks a:=by
 obtain⟨_,pS,r,o,h1,h2,_,n,h3⟩:=(show Ab P w H h a (.tup (ks.map kV)) from ok a _ e);exact⟨o,pS.toArray,n,h1,h2,h3,by simpa using Hh r⟩
theorem YS(ok:DT P w H h)(e:Rd H a (.dT pW)):pW.length<=sizeLine/\(a == T1)=false /\
    ∃xs,KT H pW xs/\h.DictOfH (nQ (Au P w)) a xs:=by
  obtain⟨z,y,xs,r,o,es,ep,h1,h2,h3,h4,h5⟩:=(show Ab P w H h a (.dT pW) from Xq ok e);refine⟨z,y,xs,r,o,es,ep,h1,h2,h3,h4,fun x hx=>?_,h5⟩;have all:∀{l:List (List BK×V)} {m:List (List BK×A8×A3)},KT H l m->∀x∈m,(nQ (Au P w)).is h x.1 x.2.1:=by
    intro l m q
    induction q with
    | nil=>intro x hx;exact nomatch hx
    | @cons p q ps qs hq t ih =>
      intro x hx;rcases D6.mp hx with e | hx
      · subst e;exact Rp ok (by rw[<- hq.1];exact hq.2.1)
      · exact ih x hx
  exact all r x hx
end
def JB(H:Hp)(a:A8)(y:V)(r:Option V):Prop:=
 (∃pW k,Rd H a (.dK pW)/\y=kV k/\r=Dm pW k)\/∃pW k b,Rd H a (.dT pW)/\y=.ref b/\H b=some (.tup (k.map kV))/\r=Dm pW k
def UN(H:Hp)(a:A8)(y v:V)(H':Hp):Prop:=
 (∃pW k,H a=some (.dK pW)/\y=kV k/\pW.length < sizeLine/\H'=upd H a (.dK (LJ pW k v))) \/
 ∃pW k b,H a=some (.dT pW)/\y=.ref b/\H b=some (.tup (k.map kV))/\pW.length < sizeLine/\H'=upd H a (.dT (LJ pW k v))
variable {a:A8}
theorem JB.k{pW:List (BK×V)}{k:BK}(e:H a=some (.dK pW)):JB H a (kV k) (Dm pW k):=.inl ⟨pW,k,.inl e,rfl,rfl⟩
theorem JB.t{b:A8}{k:List BK}(e:H a=some (.dT pW))(eb:H b=some (.tup (k.map kV))):JB H a (.ref b) (Dm pW k):=.inr ⟨pW,k,b,.inl e,rfl,eb,rfl⟩
theorem UN.k{pW:List (BK×V)}{k:BK}{v:V}(e:H a=some (.dK pW))(hl:pW.length < sizeLine):UN H a (kV k) v (upd H a (.dK (LJ pW k v))):=.inl ⟨pW,k,e,rfl,hl,rfl⟩
theorem UN.t{b:A8}{k:List BK}{v:V}(e:H a=some (.dT pW))(eb:H b=some (.tup (k.map kV)))(hl:pW.length < sizeLine) :
    UN H a (.ref b) v (upd H a (.dT (LJ pW k v))):=.inr ⟨pW,k,b,e,rfl,eb,hl,rfl⟩
section
variable {X:Cx} {pins:List (A8×Obj)} {σ:St} {H:Hp} {s:A5} {a:A8} {y v:V} {u r:A3} {o:Option V} {A:F3} {E:A3->A5->Prop}
theorem Inv.big(I:Inv X pins σ H s):T1 < s.heap.objs.size:=by
 have h:I0 < s.heap.objs.size:=(I.mod.glob.keeps I.bk).lt;exact Nat.lt_trans (by decide) h
theorem Ou{Q:A3->A5->Prop}(hu:A.units+1 < R3)(I:Inv X pins σ H s)(g:JB H a y (some v))(ry:RelV y u)(h:∀w' s',Inv X pins σ H s'->RelV v w'->Q w' s') :
    B4 (C3 X.prog X.w) A (X2 (.ref a) u) Q E s:=by
  rcases g with⟨pW,k,e,ey,l⟩ | ⟨pW,k,b,e,ey,eb,l⟩
  · subst ey;obtain⟨z,hd,vs,rel,dd⟩:=Sl I.pb e;obtain⟨w',hw,sN⟩:=Gh.some_of (v:=v) (o:=mP vs k) (by rw[l];exact rel.val k);exact wpAny_getItem_of (YE ry) dd.mapOf hw (h w' _ (I.tok _) sN)
  · subst ey;cases(show u=D7 b from ry);obtain⟨z,hd,xs,rel,dd⟩:=YS I.pb e;obtain⟨w',hw,sN⟩:=Gh.some_of (v:=v) (o:=(o7 xs k).map (·.2)) (by rw[l];exact rel.val k);obtain⟨p,hp,zG⟩:=G9.mp hw;refine wpAny_getItem_heap (tupleKind_room_in1 hu) (Rp I.pb eb) dd hp ?_;rw[zG];exact h w' _ (I.tok _) sN
end
section
variable {X:Cx} {pins:List (A8×Obj)} {σ:St} {H:Hp} {s:A5} {a:A8} {pW:List (BK×V)} {k:BK} {u:A3} {A:F3} {E:A3->A5->Prop}
theorem gF{Q:A3->A5->Prop}(I:Inv X pins σ H s)(e:Rd H a (.dK pW))(h:∀t s',Inv X pins σ H s'->Q (.int pW.length t) s'):B4 (C3 X.prog X.w) A (call (.builtin "len") [.ref a]) Q E s:=by
 obtain⟨z,hd,vs,rel,dd⟩:=Sl I.pb e;refine call_len_dict hd dd (by rw[<- rel.length];rw[T3] at z;omega) ?_;rw[<- rel.length];exact h _ _ (I.tok _)
end
theorem Jy{X:Cx}{pins:List (A8×Obj)}{σ:St}{s:A5}{y:V}{o:Option V}(I:Inv X pins σ H s)(g:JB H a y o):s.TypeIs (.ref a) "dict" := by
 rcases g with⟨pW,k,e,_,_⟩ | ⟨pW,k,b,e,_,_,_⟩
 ·obtain⟨_,_,vs,_,dd⟩:=Sl I.pb e;exact dd.typeIs
 ·obtain⟨_,_,xs,_,dd⟩:=YS I.pb e;exact dd.typeIs
theorem Sm{P:E2}{w:F6}(h:F1)(hb:T1 < h.objs.size):Ab P w H (h.push { cls:=.type "dict", data:=.dict #[] }) h.objs.size (.dK []):=
 ⟨M4 _,beq_eq_false_iff_ne.mpr (Ne.symm (D3 hb)),[],.nil,pQ h⟩
abbrev ZJ:TE:=fun _ H Q=>∀p,H p=none->Q (.ref p) (upd H p (.dK []))
section
variable {X:Cx} {pos:Pos}
theorem RU:PE X (.Dict [] [] pos) ZJ:=fun pins s σ H Q I h =>
 wpAny_Dict_empty ⟨.ref s.heap.objs.size,_,I.laid (a:=s.heap.objs.size) (o:=.dK []) (t':=s.toks) (fun _ _ q=>A6 _ q) (B9 _) (Sm s.heap I.big),rfl,h _ (I.pb.fresh (B9 _))⟩
end
section
variable {X:Cx}
theorem PM:Aw X (.builtin "len") (fun xs H Q=>∃a pW,xs=[V.ref a]/\H a=some (.dK pW)/\Q (.int pW.length) H):=by
 intro pins s σ H xs us Q I r h;obtain⟨a,pW,rfl,ha,q⟩:=h;obtain⟨u,rfl,ru⟩:=vals1 r;cases ru;exact gF I (.inl ha) fun t s' I'=>⟨.int pW.length,H,I',⟨t,rfl⟩,q⟩
end
noncomputable def jn(sep:List Nat):List (List Nat)->List Nat
 | []=>[]
 | x::ys=>x++(ys.flatMap fun y=>sep++y)
theorem dJ(sep:List Nat):∀ys:List (List Nat),pK (tx sep) (ys.map tx)=tx (jn sep ys):=by
 intro ys;have h:pK (tx sep) (ys.map tx)=oq (tx sep) (ys.map tx):=by simpa using join_plain_closes (tx sep) (ys.map tx)
 rw[h];have:∀(x:List Nat) (ys:List (List Nat)),oq (tx sep) ((x::ys).map tx)=tx (x++(ys.flatMap fun y=>sep++y)):=by
  intro x ys
  induction ys generalizing x with
  | nil=>simp[oq]
  | cons y ys ih =>
   show tx x++tx sep++oq (tx sep) ((y::ys).map tx)=_;rw[ih y,Kn,Kn];simp
 cases ys with
 | nil=>rfl
 | cons x ys=>exact this x ys
theorem Yx(ys:List (List Nat)):((ys.map tx).map (·.length)).sum=(ys.map W0).sum:=by
 rw[pE];congr 1
end L2
namespace L2
open PySem
abbrev Xf(l:W.OpenLaw)(n:Nat)(as:List A8)(K:mj->W.Frag)(N:Nat):Prop:=
 W.LeftO l.row.prog (W.view l.prog (C2 n)) [] (fun s=>W.xlAt (W.view l.prog (C2 n)) [] s && W.recOk [] s) (fun s=>as.map s.heap.get?) (fun w=>(K w.params).map fun p=>some p.2) N
theorem xD{l:W.OpenLaw}{n:Nat}{N:Nat}{d:pC}{K:mj->W.Frag}{as:List A8}(ws:l.wellSaid=true)(left:Xf l n as K N)
    (has:∀P,as=(K P).map (·.1)) (hr:l.row.records=[]) (zAg:W.defOf (W.view l.prog (C2 n)) l.row.name=some (d,[])) (hp:l.row.prog.theDef l.row.name=some (d.params,d.body,d.scope)) (hk:W.kwWritten? d.params.kwonlyargs d.params.kw_defaults=some [])
    (hwr:(!l.row.writes || l.row.records.isEmpty)=true)
    (ok:(W.chainsOk (W.view l.prog (C2 n)) && W.opensWell l.row.prog && (W.frees l.row.toRowW && l.row.within.isEmpty))=true) (hb:l.row.prog.bare) (hw:l.row.toRowW.promised)
    (call:W.WalkO (W.view l.prog (C2 n)) [] (W.XL (W.view l.prog (C2 n)) []) (W.InK K) l.row.toRowW d [] fun f vs=>ml f vs):l.Holds:=
  W.holds_law ws fun zAK=>W.holds_open (q:=W.view l.prog (C2 n)) (loose:=[]) (XP:=W.XL (W.view l.prog (C2 n)) []) (YP:=W.InK K) left (W.InK.of has) W.InK.keeps (fun s e=>W.xl_of s (M5.mp e).1) W.XL.keeps zAg hp hk (fun s e=>W.recFacts_nil hr) hwr zAK ok hb hw call
noncomputable abbrev ke(P:mj)(x:Str)(t:Tok)(v:A3):DictEntry:=⟨PyData.keyHash P x,.str x t,v⟩
noncomputable abbrev cO(x:Str)(t:Tok)(l a s:Int)(r1 r2:A8)(v1 v2 v3:A3)(r3:A8)(t2:Nat):Obj:=⟨.type "code", none,.fields #[.str x t,.str x (t+1),.str "/claim/cut.py" (t+2),.int l 0,.int a 0,.int 0 0,.int 0 0,.int s 0,.ref r1,.bool true,.int 181 0,.ref r2,v1,v2,v3,.ref r3,.int t2 0,.int l 0,.str "/claim/cut.py" (t2+1)],#[]⟩
noncomputable def bQ:G0->Pos
 | .FunctionDef _ _ _ _ _ _ _ _ _ p=>p
 | _=>⟨0,0,0,0⟩
noncomputable def Ay(K:W.Frag)(n:Str):A8:=match W.nsIn K I0 n with
 | some (some (.ref a))=>a
 | _=>0
noncomputable def VZ(K:W.Frag)(f:A8):A3:=match K.lookup f with
 | some ⟨_,_,.func d,_⟩=>d.pyModule
 | _=>.none
noncomputable def PF(K:W.Frag)(f:A8):A3:=match K.lookup f with
 | some ⟨_,_,.func d,_⟩=>d.code
 | _=>.none
abbrev GF(K:W.Frag)(n:Str)(t:G0):Prop:=W.nsIn K I0 n=some (some (.ref (Ay K n))) /\
 K.lookup (Ay K n)=some ⟨.type "function", none,.func (W.fnOf n n (Am t) (AJ t) (AC t) .none .none .none (VZ K (Ay K n)) none (PF K (Ay K n)) .none),#[]⟩ /\
 W.codeIn K (PF K (Ay K n)) n=true/\W.keepIn K (.ref (Ay K n))=true
theorem GR{K:W.Frag}{n:Str}{t:G0}(h:GF K n t):uQ K n n t (Ay K n) (W.fnOf n n (Am t) (AJ t) (AC t) .none .none .none (VZ K (Ay K n)) none (PF K (Ay K n)) .none):=SB h.2.1 h.2.2.1 h.2.2.2
end L2
namespace R
open PySem L2
set_option genInjectivity true in
inductive Dv where
 | pX | bl (b:Bool) | int (i:Int) | str (x:List Nat) | tup (xs:List Dv) | lst (xs:List Dv) | rX (ks:List BK) (xs:List Dv) | ref (k:Nat) | qW (ns:List Int) | ty (n:String) | uJ (ls:List (List Nat)) | uC (ks:List (List BK)) (xs:List Dv) | uV (ks:List (NK BK)) (xs:List Dv) | obj (c:Str) (fl nm:List Str) (xs:List Dv)
 deriving Inhabited
structure G where
 Z:A8->Prop
 μ:List A8
noncomputable abbrev Fp:=A8->Prop
def BY(P Q:Fp):Prop:=∀a,P a->Q a->False
def pT:Fp:=fun _=>False
def Lk(g:G)(H:Hp)(o:Nat)(a:A8)(vs:List V):Prop:=H a=some (.lst vs)/\(o=0->g.Z a)/\(o≠0->¬g.Z a)
def iQ(K:W.Frag)(H:Hp)(a:A8)(ns:List Int):Prop:=(∃o,H a=some (.sU o (.lst (ns.map V.int)))) \/
    ∃(o:Obj) (pS:Array A3) (n:Nat),K.lookup a=some o/\o.cls=.type "list" /\ o.dict=none/\o.data=.seq pS n/\pS.size<=sizeLine/\AG (ns.map V.int) pS.toList
theorem iQ.sq{K:W.Frag}{H:Hp}{a:A8}{ns:List Int}(h:iQ K H a ns):CO K H a (ns.map V.int):=h.elim (fun h=>.inl (.inr h)) .inr
def lS(K:W.Frag)(a:A8)(ls:List (List Nat)):Prop:=∃(o:Obj) (pS:Array A3) (n:Nat),K.lookup a=some o/\o.cls=.type "tuple" /\ o.data=.seq pS n/\pS.size<=sizeLine/\AG (ls.map fun l=>V.str (tx l)) pS.toList
def iC(K:W.Frag)(c:Str)(fl:List Str):Prop:=xt K (Ay K c)/\∀f∈fl,Iz K (Ay K c) f
mutual
noncomputable def Rep(K:W.Frag)(g:G)(H:Hp):Nat->Dv->V->Fp->Prop
 | _,.pX,v,P=>v=.pX/\∀a,¬P a
 | _,.bl b,v,P=>v=.bl b/\∀a,¬P a
 | _,.int i,v,P=>v=.int i/\∀a,¬P a
 | _,.str l,v,P=>v=.str (tx l)/\∀a,¬P a
 | o,.tup ds,v,P=>∃a vs,v=.ref a/\H a=some (.tup vs)/\AA K g H (o - 1) ds vs P
 | o,.lst ds,v,P=>∃a vs P',v=.ref a/\Lk g H o a vs/\AA K g H (o - 1) ds vs P'/\¬P' a/\∀b,P b↔(o≠0/\b=a)\/P' b
 | o,.rX ks ds,v,P=>∃a vs,v=.ref a/\H a=some (.dK (ks.zip vs))/\(o=0->g.Z a)/\(o≠0->¬g.Z a)/\(ks.length=ds.length/\∃R,AA K g H 0 ds vs R)/\∀b,P b↔(o≠0/\b=a)
 | _,.ref k,v,P=>(∃a,g.μ[k]?=some a/\v=.ref a)/\∀a,¬P a
 | _,.qW ns,v,P=>(∃a,v=.ref a/\iQ K H a ns)/\∀a,¬P a
 | _,.ty n,v,P=>v=.ty n/\∀a,¬P a
 | _,.uJ ls,v,P=>(∃a,v=.ref a/\lS K a ls)/\∀a,¬P a
 | o,.uC ks ds,v,P=>∃a vs,v=.ref a/\H a=some (.dT (ks.zip vs))/\(o=0->g.Z a)/\(o≠0->¬g.Z a)/\(ks.length=ds.length/\∃R,AA K g H 0 ds vs R)/\∀b,P b↔(o≠0/\b=a)
 | o,.uV ks ds,v,P=>∃a vs,v=.ref a/\H a=some (.dN (ks.zip vs))/\(o=0->g.Z a)/\(o≠0->¬g.Z a)/\(ks.length=ds.length/\∃R,AA K g H 0 ds vs R)/\∀b,P b↔(o≠0/\b=a)
 | o,.obj c fl nm ds,v,P=>∃a dx vs P',v=.ref a/\H a=some (.ins (Ay K c) dx (nm.zip vs))/\(o=0->g.Z a)/\(o≠0->¬g.Z a)/\(iC K c fl/\nm.length=ds.length/\∀f∈nm,f∈fl)/\AA K g H o ds vs P'/\¬P' a/\∀b,P b↔(o≠0/\b=a)\/P' b
noncomputable def AA(K:W.Frag)(g:G)(H:Hp):Nat->List Dv->List V->Fp->Prop
 | _,[],vs,P=>vs=[]/\∀a,¬P a
 | o,d::ds,vs,P=>∃v r P1 P2,vs=v::r/\Rep K g H o d v P1/\AA K g H o ds r P2/\BY P1 P2/\∀a,P a↔P1 a\/P2 a
end
def Zd(g:G)(H:Hp):Prop:=∀a,g.Z a->H a≠none
structure Step (g:G) (P:Fp) (H:Hp) (g':G) (P':Fp) (H':Hp):Prop where
 keep:∀b o,H b=some o->¬P b->H' b=some o
 vA:∀b,H' b=none->H b=none
 zm:∀a,g.Z a->g'.Z a
 zn:∀a,g'.Z a->g.Z a\/P a\/H a=none
 mu:∃r,g'.μ=g.μ++r
 nw:∀a,P' a->P a\/H a=none
 zd:Zd g H->Zd g' H'
 ins:∀b C dx fs,H b=some (.ins C dx fs)->∃uM,H' b=some (.ins C dx uM)/\∀f r,fs.lookup f=some (.ref r)->uM.lookup f=some (.ref r)
theorem Step.refl{g:G}{P:Fp}{H:Hp}:Step g P H g P H:=⟨fun _ _ h _=>h,fun _ h=>h,fun _ h=>h,fun _ h=>.inl h,⟨[],by simp⟩,fun _ h=>.inl h,fun h=>h,fun _ _ _ fs h=>⟨fs,h,fun _ _ z=>z⟩⟩
theorem Step.trans{g g1 g2:G}{P P1 P2:Fp}{H H1 H2:Hp}(a:Step g P H g1 P1 H1)(b:Step g1 P1 H1 g2 P2 H2):Step g P H g2 P2 H2:=by
 refine⟨fun c o h n=>?_,fun c h=>a.vA c (b.vA c h),fun c h=>b.zm c (a.zm c h),fun c h=>?_,?_,fun c h=>?_,fun z=>b.zd (a.zd z),fun c C dx fs h=>?_⟩
 ·refine b.keep c o (a.keep c o h n) fun z=>?_
  rcases a.nw c z with z | z
  ·exact n z
  ·rw[h] at z;cases z
 ·rcases b.zn c h with z | z | z
  ·exact a.zn c z
  ·exact(a.nw c z).elim (fun q=>.inr (.inl q)) fun q=>.inr (.inr q)
  ·exact .inr (.inr (a.vA c z))
 ·obtain⟨r1,e1⟩:=a.mu;obtain⟨r2,e2⟩:=b.mu;exact⟨r1++r2,by rw[e2,e1,K9]⟩
 ·rcases b.nw c h with z | z
  ·exact a.nw c z
  ·exact .inr (a.vA c z)
 ·obtain⟨f1,e1,k1⟩:=a.ins c C dx fs h;obtain⟨f2,e2,k2⟩:=b.ins c C dx f1 e1;exact⟨f2,e2,fun f r z=>k2 f r (k1 f r z)⟩
theorem Step.sub{g g':G}{P Q P' Q':Fp}{H H':Hp}(s:Step g P H g' P' H')(h1:∀a,P a->Q a)(h2:∀a,Q' a->P' a):Step g Q H g' Q' H':=
 ⟨fun b o h n=>s.keep b o h fun z=>n (h1 b z),s.vA,s.zm,fun a h=>(s.zn a h).elim .inl fun z=>.inr (z.elim (fun q=>.inl (h1 a q)) .inr),s.mu,fun a h=>(s.nw a (h2 a h)).elim (fun q=>.inl (h1 a q)) .inr,s.zd,s.ins⟩
theorem Step.less{g g':G}{P P' Q':Fp}{H H':Hp}(s:Step g P H g' P' H')(h2:∀a,Q' a->P' a):Step g P H g' Q' H':=s.sub (fun _ q=>q) h2
theorem Step.frame{g g':G}{P P' R:Fp}{H H':Hp}(s:Step g P H g' P' H'):Step g (fun a=>P a\/R a) H g' (fun a=>P' a\/R a) H':=
 ⟨fun b o h n=>s.keep b o h fun z=>n (.inl z),s.vA,s.zm,fun a h=>(s.zn a h).elim .inl fun z=>.inr (z.elim (fun q=>.inl (.inl q)) .inr),s.mu,fun a h=>h.elim (fun q=>(s.nw a q).elim (fun z=>.inl (.inl z)) .inr) fun q=>.inl (.inr q),s.zd,s.ins⟩
theorem Step.same{g:G}{P:Fp}{H H':Hp}(s:Iw H H'):Step g P H g P H':=
 have dm:∀b,H' b=none->H b=none:=fun b h=>by
  cases e:H b with
  | none=>rfl
  | some o=>rw[s b o e] at h;cases h
 ⟨fun b o h _=>s b o h,dm,fun _ h=>h,fun _ h=>.inl h,⟨[],by simp⟩,fun _ h=>.inl h,fun z a h q=>z a h (dm a q),fun b C dx fs h=>⟨fs,s b _ h,fun _ _ z=>z⟩⟩
theorem MS{H:Hp}{a:A8}{o u:HO}(h:H a=some u)(nu:∀C dx fs,u≠.ins C dx fs):∀b C dx fs,H b=some (.ins C dx fs)->∃uM,upd H a o b=some (.ins C dx uM)/\∀f r,fs.lookup f=some (.ref r)->uM.lookup f=some (.ref r):=fun b C dx fs e =>
 ⟨fs,by rw[AE fun z=>by subst z;rw[h] at e;exact nu C dx fs (C7 e)];exact e,fun _ _ z=>z⟩
def pd(g:G)(H:Hp)(P:Fp):Prop:=∀a,P a->gy (H a)/\¬g.Z a
theorem pd.or{g:G}{H:Hp}{P Q:Fp}(h:pd g H P)(k:pd g H Q):pd g H fun a=>P a\/Q a:=fun a q=>q.elim (h a) (k a)
theorem pd.pT{g:G}{H:Hp}:pd g H pT:=fun _ z=>z.elim
theorem pd.new{g:G}{H:Hp}{P:Fp}(h:pd g H P){a:A8}(n:H a=none):¬P a:=fun z=>by have:=(h a z).1;rw[n] at this;exact this
theorem CV{P:Fp}(h:∀a,¬P a):P=pT:=funext fun a=>propext ⟨fun z=>(h a z).elim,fun z=>z.elim⟩
section
variable {K:W.Frag} {g g':G} {H H':Hp}
theorem Step.out{P P' R:Fp}(s:Step g P H g' P' H')(ok:pd g H R)(n:BY R P):BY R P':=fun a q z=>(s.nw a z).elim (fun z=>n a q z) fun z=>ok.new z q
theorem Lk.held{o:Nat}{a:A8}{vs:List V}{P P':Fp}(h:Lk g H o a vs)(hn:o≠0->¬P a)(s:Step g P H g' P' H')(ok:pd g H P):Lk g' H' o a vs:=by
 have np:¬P a:=by
  by_cases z:o=0
  ·exact fun q=>(ok a q).2 (h.2.1 z)
  ·exact hn z
 refine⟨s.keep _ _ h.1 np,fun z=>s.zm _ (h.2.1 z),fun z q=>?_⟩;rcases s.zn _ q with q | q | q
 ·exact h.2.2 z q
 ·exact np q
 ·rw[h.1] at q;cases q
mutual
theorem Rep.qB:∀{d:Dv} {v:V} {R:Fp},Rep K g H 0 d v R->∀a,¬R a
 | .pX,v,R,h | .bl _,v,R,h | .int _,v,R,h | .str _,v,R,h | .ty _,v,R,h | .uJ _,v,R,h | .ref _,v,R,h | .qW _,v,R,h=>by unfold Rep at h;exact h.2
 | .uC ks ds,v,R,h=>by
  unfold Rep at h;obtain⟨b,vs,e,h1,h2,h3,h5,h4⟩:=h;exact fun a q=>((h4 a).mp q).1 rfl
 | .uV ks ds,v,R,h=>by
  unfold Rep at h;obtain⟨b,vs,e,h1,h2,h3,h5,h4⟩:=h;exact fun a q=>((h4 a).mp q).1 rfl
 | .obj c fl nm ds,v,R,h=>by
  unfold Rep at h;obtain⟨b,dx,vs,R',e,h1,hz,hn,hl,h2,h3,h5⟩:=h;exact fun a q=>((h5 a).mp q).elim (fun z=>z.1 rfl) fun z=>AA.qB h2 a z
 | .tup ds,v,R,h=>by
  unfold Rep at h;obtain⟨_,vs,e,h1,h2⟩:=h;exact AA.qB h2
 | .lst ds,v,R,h=>by
  unfold Rep at h;obtain⟨b,vs,R',e,h1,h2,h3,h5⟩:=h;exact fun a q=>((h5 a).mp q).elim (fun z=>z.1 rfl) fun z=>AA.qB h2 a z
 | .rX ks ds,v,R,h=>by
  unfold Rep at h;obtain⟨b,vs,e,h1,h2,h3,h5,h4⟩:=h;exact fun a q=>((h4 a).mp q).1 rfl
theorem AA.qB:∀{ds:List Dv} {vs:List V} {R:Fp},AA K g H 0 ds vs R->∀a,¬R a
 | [],vs,R,h=>by unfold AA at h;exact h.2
 | d::ds,vs,R,h=>by
  unfold AA at h;obtain⟨v,r,P1,P2,e,h1,h2,h3,h4⟩:=h;exact fun a q=>((h4 a).mp q).elim (fun z=>Rep.qB h1 a z) fun z=>AA.qB h2 a z
end
mutual
theorem Rep.held{P P':Fp}(s:Step g P H g' P' H')(ok:pd g H P):∀{o:Nat} {d:Dv} {v:V} {R:Fp},Rep K g H o d v R->BY R P->Rep K g' H' o d v R
 | _,.pX,v,R,h,_ | _,.bl _,v,R,h,_ | _,.int _,v,R,h,_ | _,.str _,v,R,h,_ | _,.ty _,v,R,h,_ | _,.uJ _,v,R,h,_=>by unfold Rep at h ⊢;exact h
 | o,.uC ks ds,v,R,h,d=>by
  unfold Rep at h ⊢;obtain⟨a,vs,e,h1,h2,h3,⟨h5,R',h6⟩,h4⟩:=h;have hn:¬P a:=fun z=>by
   by_cases q:o=0
   ·exact(ok a z).2 (h2 q)
   ·exact d a ((h4 a).mpr ⟨q,rfl⟩) z
  refine⟨a,vs,e,s.keep _ _ h1 hn,fun q=>s.zm _ (h2 q),fun q z=>?_,⟨h5,R',AA.held s ok h6 fun b q z=>(AA.qB h6 b q).elim⟩,h4⟩;rcases s.zn _ z with z | z | z
  ·exact h3 q z
  ·exact hn z
  ·rw[h1] at z;cases z
 | o,.uV ks ds,v,R,h,d=>by
  unfold Rep at h ⊢;obtain⟨a,vs,e,h1,h2,h3,⟨h5,R',h6⟩,h4⟩:=h;have hn:¬P a:=fun z=>by
   by_cases q:o=0
   ·exact(ok a z).2 (h2 q)
   ·exact d a ((h4 a).mpr ⟨q,rfl⟩) z
  refine⟨a,vs,e,s.keep _ _ h1 hn,fun q=>s.zm _ (h2 q),fun q z=>?_,⟨h5,R',AA.held s ok h6 fun b q z=>(AA.qB h6 b q).elim⟩,h4⟩;rcases s.zn _ z with z | z | z
  ·exact h3 q z
  ·exact hn z
  ·rw[h1] at z;cases z
 | o,.obj c fl nm ds,v,R,h,d=>by
  unfold Rep at h ⊢;obtain⟨a,dx,vs,R',e,h1,h2,h3,hl,h6,h7,h4⟩:=h;have hn:¬P a:=fun z=>by
   by_cases q:o=0
   ·exact(ok a z).2 (h2 q)
   ·exact d a ((h4 a).mpr (.inl ⟨q,rfl⟩)) z
  refine⟨a,dx,vs,R',e,s.keep _ _ h1 hn,fun q=>s.zm _ (h2 q),fun q z=>?_,hl,AA.held s ok h6 fun b q z=>d b ((h4 b).mpr (.inr q)) z,h7,h4⟩;rcases s.zn _ z with z | z | z
  ·exact h3 q z
  ·exact hn z
  ·rw[h1] at z;cases z
 | o,.tup ds,v,R,h,n=>by
  unfold Rep at h ⊢;obtain⟨a,vs,e,h1,h2⟩:=h;exact⟨a,vs,e,s.keep _ _ h1 fun z=>(by have:=(ok a z).1;rw[h1] at this;exact this),AA.held s ok h2 n⟩
 | o,.lst ds,v,R,h,n=>by
  unfold Rep at h ⊢;obtain⟨a,vs,R',e,h1,h2,h3,h5⟩:=h;exact⟨a,vs,R',e,h1.held (fun z q=>n a ((h5 a).mpr (.inl ⟨z,rfl⟩)) q) s ok,AA.held s ok h2 fun b q z=>n b ((h5 b).mpr (.inr q)) z,h3,h5⟩
 | o,.rX ks ds,v,R,h,d=>by
  unfold Rep at h ⊢;obtain⟨a,vs,e,h1,h2,h3,⟨h5,R',h6⟩,h4⟩:=h;have hn:¬P a:=fun z=>by
   by_cases q:o=0
   ·exact(ok a z).2 (h2 q)
   ·exact d a ((h4 a).mpr ⟨q,rfl⟩) z
  refine⟨a,vs,e,s.keep _ _ h1 hn,fun q=>s.zm _ (h2 q),fun q z=>?_,⟨h5,R',AA.held s ok h6 fun b q z=>(AA.qB h6 b q).elim⟩,h4⟩;rcases s.zn _ z with z | z | z
  ·exact h3 q z
  ·exact hn z
  ·rw[h1] at z;cases z
 | _,.ref k,v,R,h,_=>by
  unfold Rep at h ⊢;obtain⟨⟨a,h1,h2⟩,h3⟩:=h;obtain⟨r,e⟩:=s.mu;refine⟨⟨a,?_,h2⟩,h3⟩;rw[e,G1 (B1.mp h1).1];exact h1
 | _,.qW ns,v,R,h,_=>by
  unfold Rep at h ⊢;obtain⟨⟨a,h1,h2⟩,h3⟩:=h;refine⟨⟨a,h1,?_⟩,h3⟩;rcases h2 with⟨o,h2⟩ | h2
  ·exact .inl ⟨o,s.keep _ _ h2 fun z=>by have:=(ok a z).1;rw[h2] at this;exact this⟩
  ·exact .inr h2
theorem AA.held{P P':Fp}(s:Step g P H g' P' H')(ok:pd g H P):∀{o:Nat} {ds:List Dv} {vs:List V} {R:Fp},AA K g H o ds vs R->BY R P->AA K g' H' o ds vs R
 | _,[],vs,R,h,_=>by unfold AA at h ⊢;exact h
 | o,d::ds,vs,R,h,n=>by
  unfold AA at h ⊢;obtain⟨v,r,P1,P2,e,h1,h2,h3,h4⟩:=h;exact⟨v,r,P1,P2,e,Rep.held s ok h1 fun a q z=>n a ((h4 a).mpr (.inl q)) z,AA.held s ok h2 fun a q z=>n a ((h4 a).mpr (.inr q)) z,h3,h4⟩
end
mutual
theorem Rep.pZ:∀{o:Nat} {d:Dv} {v:V} {R:Fp},Rep K g H o d v R->pd g H R
 | _,.pX,v,R,h,a,q | _,.bl _,v,R,h,a,q | _,.int _,v,R,h,a,q | _,.str _,v,R,h,a,q | _,.ty _,v,R,h,a,q | _,.uJ _,v,R,h,a,q | _,.ref _,v,R,h,a,q | _,.qW _,v,R,h,a,q=>by unfold Rep at h;exact(h.2 a q).elim
 | o,.uC ks ds,v,R,h,a,q=>by
  unfold Rep at h;obtain⟨b,vs,e,h1,h2,h3,h5,h4⟩:=h;obtain⟨ho,rfl⟩:=(h4 a).mp q;exact⟨by rw[h1];trivial,h3 ho⟩
 | o,.uV ks ds,v,R,h,a,q=>by
  unfold Rep at h;obtain⟨b,vs,e,h1,h2,h3,h5,h4⟩:=h;obtain⟨ho,rfl⟩:=(h4 a).mp q;exact⟨by rw[h1];trivial,h3 ho⟩
 | o,.obj c fl nm ds,v,R,h,a,q=>by
  unfold Rep at h;obtain⟨b,dx,vs,R',e,h1,h2,h3,hl,h6,h7,h4⟩:=h;rcases(h4 a).mp q with⟨z,rfl⟩ | z
  ·exact⟨by rw[h1];trivial,h3 z⟩
  ·exact AA.pZ h6 a z
 | o,.tup ds,v,R,h,a,q=>by
  unfold Rep at h;obtain⟨_,vs,e,h1,h2⟩:=h;exact AA.pZ h2 a q
 | o,.lst ds,v,R,h,a,q=>by
  unfold Rep at h;obtain⟨b,vs,R',e,h1,h2,h3,h5⟩:=h;rcases(h5 a).mp q with⟨z,rfl⟩ | z
  ·exact⟨by rw[h1.1];trivial,h1.2.2 z⟩
  ·exact AA.pZ h2 a z
 | o,.rX ks ds,v,R,h,a,q=>by
  unfold Rep at h;obtain⟨b,vs,e,h1,h2,h3,h5,h4⟩:=h;obtain⟨ho,rfl⟩:=(h4 a).mp q;exact⟨by rw[h1];trivial,h3 ho⟩
theorem AA.pZ:∀{o:Nat} {ds:List Dv} {vs:List V} {R:Fp},AA K g H o ds vs R->pd g H R
 | _,[],vs,R,h,a,q=>by unfold AA at h;exact(h.2 a q).elim
 | o,d::ds,vs,R,h,a,q=>by
  unfold AA at h;obtain⟨v,r,P1,P2,e,h1,h2,h3,h4⟩:=h;rcases(h4 a).mp q with z | z
  ·exact Rep.pZ h1 a z
  ·exact AA.pZ h2 a z
end
theorem AA.iff{o:Nat}{d:List Dv}{v:List V}{P Q:Fp}(h:AA K g H o d v P)(e:∀a,Q a↔P a):AA K g H o d v Q:=by
 have:Q=P:=funext fun a=>propext (e a)
 rw[this];exact h
theorem Rep.z{d:Dv}{v:V}{R:Fp}(h:Rep K g H 0 d v R):Rep K g H 0 d v pT:=by rw[<- CV h.qB];exact h
theorem AA.z{d:List Dv}{v:List V}{R:Fp}(h:AA K g H 0 d v R):AA K g H 0 d v pT:=by rw[<- CV h.qB];exact h
def G.add(g:G)(P:Fp):G:={ g with Z:=fun a=>g.Z a\/P a }
mutual
theorem Rep.freeze{P:Fp}:∀{o:Nat} {d:Dv} {v:V} {R:Fp},Rep K g H o d v R->(∀a,R a->P a)->Rep K (g.add P) H 0 d v pT
 | _,.pX,v,R,h,_ | _,.bl _,v,R,h,_ | _,.int _,v,R,h,_ | _,.str _,v,R,h,_ | _,.ty _,v,R,h,_ | _,.uJ _,v,R,h,_ | _,.ref _,v,R,h,_ | _,.qW _,v,R,h,_=>by unfold Rep at h ⊢;exact⟨h.1,fun _ z=>z⟩
 | o,.uC ks ds,v,R,h,s=>by
  unfold Rep at h ⊢;obtain⟨a,vs,e,h1,h2,h3,⟨h5,R',h6⟩,h4⟩:=h;refine⟨a,vs,e,h1,fun _=>?_,fun z=>(z rfl).elim,⟨h5,pT,AA.freeze h6 fun b q=>(AA.qB h6 b q).elim⟩,fun b=>⟨fun z=>z.elim,fun z=>(z.1 rfl).elim⟩⟩
  by_cases q:o=0
  ·exact .inl (h2 q)
  ·exact .inr (s a ((h4 a).mpr ⟨q,rfl⟩))
 | o,.uV ks ds,v,R,h,s=>by
  unfold Rep at h ⊢;obtain⟨a,vs,e,h1,h2,h3,⟨h5,R',h6⟩,h4⟩:=h;refine⟨a,vs,e,h1,fun _=>?_,fun z=>(z rfl).elim,⟨h5,pT,AA.freeze h6 fun b q=>(AA.qB h6 b q).elim⟩,fun b=>⟨fun z=>z.elim,fun z=>(z.1 rfl).elim⟩⟩
  by_cases q:o=0
  ·exact .inl (h2 q)
  ·exact .inr (s a ((h4 a).mpr ⟨q,rfl⟩))
 | o,.obj c fl nm ds,v,R,h,s=>by
  unfold Rep at h ⊢;obtain⟨a,dx,vs,R',e,h1,h2,h3,hl,h6,h7,h4⟩:=h;refine⟨a,dx,vs,pT,e,h1,fun _=>?_,fun z=>(z rfl).elim,hl,AA.freeze h6 (fun b q=>s b ((h4 b).mpr (.inr q))),fun z=>z,fun b=>⟨fun z=>z.elim,fun z=>z.elim (fun q=>(q.1 rfl).elim) id⟩⟩
  by_cases q:o=0
  ·exact .inl (h2 q)
  ·exact .inr (s a ((h4 a).mpr (.inl ⟨q,rfl⟩)))
 | o,.tup ds,v,R,h,s=>by
  unfold Rep at h ⊢;obtain⟨a,vs,e,h1,h2⟩:=h;exact⟨a,vs,e,h1,AA.freeze h2 s⟩
 | o,.lst ds,v,R,h,s=>by
  unfold Rep at h ⊢;obtain⟨a,vs,R',e,h1,h2,h3,h5⟩:=h;refine⟨a,vs,pT,e,⟨h1.1,fun _=>?_,fun z=>(z rfl).elim⟩,AA.freeze h2 (fun b q=>s b ((h5 b).mpr (.inr q))),fun z=>z,fun b=>⟨fun z=>z.elim,fun z=>z.elim (fun q=>(q.1 rfl).elim) id⟩⟩
  by_cases q:o=0
  ·exact .inl (h1.2.1 q)
  ·exact .inr (s a ((h5 a).mpr (.inl ⟨q,rfl⟩)))
 | o,.rX ks ds,v,R,h,s=>by
  unfold Rep at h ⊢;obtain⟨a,vs,e,h1,h2,h3,⟨h5,R',h6⟩,h4⟩:=h;refine⟨a,vs,e,h1,fun _=>?_,fun z=>(z rfl).elim,⟨h5,pT,AA.freeze h6 fun b q=>(AA.qB h6 b q).elim⟩,fun b=>⟨fun z=>z.elim,fun z=>(z.1 rfl).elim⟩⟩
  by_cases q:o=0
  ·exact .inl (h2 q)
  ·exact .inr (s a ((h4 a).mpr ⟨q,rfl⟩))
theorem AA.freeze{P:Fp}:∀{o:Nat} {ds:List Dv} {vs:List V} {R:Fp},AA K g H o ds vs R->(∀a,R a->P a)->AA K (g.add P) H 0 ds vs pT
 | _,[],vs,R,h,_=>by unfold AA at h ⊢;exact⟨h.1,fun _ z=>z⟩
 | o,d::ds,vs,R,h,s=>by
  unfold AA at h ⊢;obtain⟨v,r,P1,P2,e,h1,h2,h3,h4⟩:=h;exact⟨v,r,pT,pT,e,Rep.freeze h1 (fun a q=>s a ((h4 a).mpr (.inl q))),AA.freeze h2 (fun a q=>s a ((h4 a).mpr (.inr q))),fun _ z=>z.elim,fun a=>⟨fun z=>z.elim,fun z=>z.elim id id⟩⟩
end
theorem Step.freeze{P:Fp}(ok:pd g H P):Step g P H (g.add P) pT H:=
 ⟨fun _ _ h _=>h,fun _ h=>h,fun _ h=>.inl h,fun a h=>h.elim .inl fun q=>.inr (.inl q),⟨[],by show g.μ=_;simp⟩,fun _ h=>h.elim,fun z a h q=>h.elim (fun h=>z a h q) fun h=>by have:=(ok a h).1;rw[q] at this;exact this,fun _ _ _ fs h=>⟨fs,h,fun _ _ z=>z⟩⟩
theorem AA.nil{o:Nat}:AA K g H o [] [] pT:=by unfold AA;exact⟨rfl,fun _ z=>z⟩
theorem AA.cons{o:Nat}{d:Dv}{v:V}{ds:List Dv}{vs:List V}{P1 P2:Fp}(h1:Rep K g H o d v P1)(h2:AA K g H o ds vs P2)(n:BY P1 P2):AA K g H o (d::ds) (v::vs) fun a=>P1 a\/P2 a:=by
 unfold AA;exact⟨v,vs,P1,P2,rfl,h1,h2,n,fun _=>X5⟩
theorem AA.len:∀{o:Nat} {ds:List Dv} {vs:List V} {R:Fp},AA K g H o ds vs R->ds.length=vs.length
 | _,[],vs,R,h=>by unfold AA at h;rw[h.1];rfl
 | _,d::ds,vs,R,h=>by
  unfold AA at h;obtain⟨v,r,P1,P2,rfl,h1,h2,_⟩:=h;simp[h2.len]
theorem AA.get:∀{o:Nat} {ds:List Dv} {vs:List V} {R:Fp} {i:Nat} {d:Dv},AA K g H o ds vs R->ds[i]?=some d->∃v P,vs[i]?=some v/\Rep K g H o d v P/\∀a,P a->R a
 | _,[],_,_,_,_,_,e=>by simp at e
 | _,d::ds,vs,R,i,d',h,e=>by
  unfold AA at h;obtain⟨v,r,P1,P2,rfl,h1,h2,_,h4⟩:=h;cases i with
  | zero=>simp at e;subst e;exact⟨v,P1,rfl,h1,fun a q=>(h4 a).mpr (.inl q)⟩
  | succ i =>
   obtain⟨v',P,e',h',s⟩:=h2.get (i:=i) (by simpa using e);exact⟨v',P,by simpa using e',h',fun a q=>(h4 a).mpr (.inr (s a q))⟩
theorem AA.app:∀{o:Nat} {ds es:List Dv} {vs us:List V} {P Q:Fp},AA K g H o ds vs P->AA K g H o es us Q->BY P Q->AA K g H o (ds++es) (vs++us) fun a=>P a\/Q a
 | _,[],es,vs,us,P,Q,h,k,_=>by
  unfold AA at h;obtain⟨rfl,n⟩:=h;exact k.iff fun a=>⟨fun z=>z.elim (fun q=>(n a q).elim) id,.inr⟩
 | _,d::ds,es,vs,us,P,Q,h,k,n=>by
  unfold AA at h;obtain⟨v,r,P1,P2,rfl,h1,h2,h3,h4⟩:=h;have t:=AA.app h2 k fun a q z=>n a ((h4 a).mpr (.inr q)) z
  refine(AA.cons h1 t fun a q z=>z.elim (fun z=>h3 a q z) fun z=>n a ((h4 a).mpr (.inl q)) z).iff fun a=>?_
  rw[h4 a,or_assoc]
end
noncomputable abbrev M:=List Dv
noncomputable abbrev Gm:=List (Option Nat)
noncomputable def M.at(m:M)(i:Nat):Dv:=m.getD i .pX
structure zAr (K:W.Frag) (g:G) (H:Hp) (Γ:Gm) (ρ:List Dv) (σ:St) (F:Nat->Fp):Prop where
 l1:ρ.length=Γ.length
 l2:σ.length=Γ.length
 rep:∀i o,Γ[i]?=some (some o)->∃d v,ρ[i]?=some d/\σ[i]?=some (some v)/\Rep K g H o d v (F i)
 out:∀i,(∀o,Γ[i]?≠some (some o))->∀a,¬F i a
 dj:∀i j,i≠j->BY (F i) (F j)
def Rel(K:W.Frag)(g:G)(H:Hp)(Γ:Gm)(m:M)(σ:St)(P:Fp):Prop:=Zd g H/\∃F,zAr K g H Γ m σ F/\∀a,P a↔∃i,F i a
theorem DB{α:Type}{l:List α}{i j:Nat}{x y:α}(h:(l.set i x)[j]?=some y):(i=j/\y=x)\/(i≠j/\l[j]?=some y):=by
 by_cases e:i=j
 ·subst e;refine .inl ⟨rfl,?_⟩;rw[List.getElem?_set] at h;simp only[if_true] at h;split at h
  ·exact(C7 h).symm
  ·cases h
 ·rw[C9 e] at h;exact .inr ⟨e,h⟩
theorem Gc{m:M}{i:Nat}{d:Dv}(h:m[i]?=some d):m.at i=d:=by unfold M.at;rw[D0,h];rfl
section
variable {K:W.Frag} {g g':G} {H H':Hp} {Γ:Gm} {m:M} {σ:St} {P:Fp}
theorem Rel.zd(h:Rel K g H Γ m σ P):Zd g H:=h.1
theorem Rel.len(h:Rel K g H Γ m σ P):m.length=Γ.length/\σ.length=Γ.length:=let ⟨_,_,h1,_⟩:=h;⟨h1.l1,h1.l2⟩
theorem Rel.pZ(h:Rel K g H Γ m σ P):pd g H P:=by
 obtain⟨_,F,h1,h4⟩:=h;intro a q;obtain⟨i,z⟩:=(h4 a).mp q
 by_cases e:∃o,Γ[i]?=some (some o)
 ·obtain⟨o,e⟩:=e;obtain⟨d,v,_,_,r⟩:=h1.rep i o e;exact r.pZ a z
 ·exact(h1.out i (fun o z=>e ⟨o,z⟩) a z).elim
theorem Rel.held{P' R:Fp}(s:Step g P H g' P' H')(ok:pd g H P)(h:Rel K g H Γ m σ R)(n:BY R P):Rel K g' H' Γ m σ R:=by
 obtain⟨zd,F,h1,h4⟩:=h;refine⟨s.zd zd,F,⟨h1.l1,h1.l2,fun i o e=>?_,h1.out,h1.dj⟩,h4⟩;obtain⟨d,v,e1,e2,r⟩:=h1.rep i o e;exact⟨d,v,e1,e2,r.held s ok fun a q z=>n a ((h4 a).mpr ⟨i,q⟩) z⟩
theorem Rel.same(h:Rel K g H Γ m σ P)(s:Iw H H'):Rel K g H' Γ m σ P:=h.held (Step.same (P:=pT) s) pd.pT fun _ _ z=>z
theorem Rel.tF{i o:Nat}(h:Rel K g H Γ m σ P)(e:Γ[i]?=some (some o)):∃v P1,σ[i]?=some (some v)/\Rep K g H o (m.at i) v P1/\∀a,P1 a->P a:=by
 obtain⟨_,F,h1,h4⟩:=h;obtain⟨d,v,e1,e2,r⟩:=h1.rep i o e;exact⟨v,F i,e2,by rw[Gc e1];exact r,fun a q=>(h4 a).mpr ⟨i,q⟩⟩
theorem Rel.agree{m2:M}(h:Rel K g H Γ m σ P)(hl:m2.length=m.length)(ha:∀i o,Γ[i]?=some (some o)->m2.at i=m.at i):Rel K g H Γ m2 σ P:=by
 obtain⟨zd,F,h1,h4⟩:=h;refine⟨zd,F,⟨hl.trans h1.l1,h1.l2,fun i o e=>?_,h1.out,h1.dj⟩,h4⟩;obtain⟨d,v,e1,e2,r⟩:=h1.rep i o e;have hi:i < m2.length:=by rw[hl];exact(B1.mp e1).1
 refine⟨d,v,?_,e2,r⟩;have:=ha i o e;unfold M.at at this;rw[D0,D0,e1,A4 hi] at this;rw[A4 hi];exact congrArg some this
theorem Rel.drop(i:Nat)(d:Dv)(x:Option V)(h:Rel K g H Γ m σ P):∃P2,Rel K g H (Γ.set i none) (m.set i d) (σ.set i x) P2/\∀a,P2 a->P a:=by
 obtain⟨zd,F,h1,h4⟩:=h;refine⟨fun a=>∃j,j≠i/\F j a,⟨zd,fun j a=>j≠i/\F j a,⟨by rw[C8,C8,h1.l1],by rw[C8,C8,h1.l2],fun j o e=>?_,fun j e a q=>?_,fun j k n a q z=>h1.dj j k n a q.2 z.2⟩,fun _=>X5⟩,fun a ⟨j,_,q⟩=>(h4 a).mpr ⟨j,q⟩⟩
 ·rcases DB e with⟨_,z⟩ | ⟨n,e⟩
  ·cases z
  ·obtain⟨d',v,e1,e2,r⟩:=h1.rep j o e;have eq:(fun a=>j≠i/\F j a)=F j:=funext fun a=>propext ⟨fun z=>z.2,fun z=>⟨fun q=>n q.symm,z⟩⟩
   exact⟨d',v,by rw[C9 n];exact e1,by rw[C9 n];exact e2,by show Rep K g H o d' v (fun a=>j≠i/\F j a);rw[eq];exact r⟩
 ·refine h1.out j (fun o z=>e o ?_) a q.2;rw[C9 fun z=>q.1 z.symm];exact z
theorem Rel.fill{i o:Nat}{d:Dv}{v:V}{P1:Fp}(h:Rel K g H Γ m σ P)(e:Γ[i]?=some none)(hd:m[i]?=some d)(hv:σ[i]?=some (some v))(r:Rep K g H o d v P1)(n:BY P1 P):Rel K g H (Γ.set i (some o)) m σ fun a=>P1 a\/P a:=by
 obtain⟨zd,F,h1,h4⟩:=h;have fi:∀a,¬F i a:=h1.out i fun o z=>by rw[e] at z;cases z
 have hi:i < Γ.length:=(B1.mp e).1;refine⟨zd,fun j a=>if j=i then P1 a else F j a,⟨by rw[C8];exact h1.l1,by rw[C8];exact h1.l2,fun j o' e'=>?_,fun j e' a q=>?_,fun j k nn a q z=>?_⟩,fun a=>?_⟩
 ·rcases DB e' with⟨rfl,z⟩ | ⟨nn,e'⟩
  ·cases z;have eq:(fun a=>if i=i then P1 a else F i a)=P1:=funext fun a=>by rw[if_pos rfl]
   exact⟨d,v,hd,hv,by show Rep K g H o d v fun a=>if i=i then P1 a else F i a;rw[eq];exact r⟩
  ·obtain⟨d',v',e1,e2,r'⟩:=h1.rep j o' e';have eq:(fun a=>if j=i then P1 a else F j a)=F j:=funext fun a=>by rw[if_neg fun z=>nn z.symm]
   exact⟨d',v',e1,e2,by show Rep K g H o' d' v' fun a=>if j=i then P1 a else F j a;rw[eq];exact r'⟩
 ·by_cases z:j=i
  ·subst z;exact e' o (D5 hi)
  ·simp only[if_neg z] at q;exact h1.out j (fun o' z'=>e' o' (by rw[C9 fun w=>z w.symm];exact z')) a q
 ·by_cases zj:j=i
  ·by_cases zk:k=i
   ·exact nn (zj.trans zk.symm)
   ·simp only[if_pos zj,if_neg zk] at q z;exact n a q ((h4 a).mpr ⟨k,z⟩)
  ·by_cases zk:k=i
   ·simp only[if_neg zj,if_pos zk] at q z;exact n a z ((h4 a).mpr ⟨j,q⟩)
   ·simp only[if_neg zj,if_neg zk] at q z;exact h1.dj j k nn a q z
 ·show P1 a\/P a↔_;rw[h4 a];refine⟨fun z=>?_,fun⟨j,z⟩=>?_⟩
  ·rcases z with z | ⟨j,z⟩
   ·exact⟨i,by simp only[if_true];exact z⟩
   ·have:j≠i:=fun w=>fi a (w▸z)
    exact⟨j,by simp only[if_neg this];exact z⟩
  ·by_cases zj:j=i
   ·simp only[if_pos zj] at z;exact .inl z
   ·simp only[if_neg zj] at z;exact .inr ⟨j,z⟩
theorem Cn{α:Type}{l:List α}{i:Nat}{x:α}(h:l[i]?=some x):l.set i x=l:=by
 apply nD;intro j
 by_cases e:i=j
 ·subst e;rw[D5 (B1.mp h).1,h]
 ·rw[C9 e]
theorem Rel.take{i o:Nat}(h:Rel K g H Γ m σ P)(e:Γ[i]?=some (some o)):∃v P1 P2,σ[i]?=some (some v)/\m[i]?=some (m.at i)/\Rep K g H o (m.at i) v P1/\Rel K g H (Γ.set i none) m σ P2/\BY P1 P2/\∀a,P a↔P1 a\/P2 a:=by
 obtain⟨zd,F,h1,h4⟩:=h;obtain⟨d,v,e1,e2,r⟩:=h1.rep i o e;refine⟨v,F i,fun a=>∃j,j≠i/\F j a,e2,by rw[Gc e1];exact e1,by rw[Gc e1];exact r,⟨zd,fun j a=>j≠i/\F j a,⟨by rw[C8];exact h1.l1,by rw[C8];exact h1.l2,fun j o' e'=>?_,fun j e' a q=>?_,fun j k n a q z=>h1.dj j k n a q.2 z.2⟩,fun _=>X5⟩,fun a q ⟨j,n,z⟩=>h1.dj i j (fun w=>n w.symm) a q z,fun a=>?_⟩
 ·rcases DB e' with⟨_,z⟩ | ⟨n,e'⟩
  ·cases z
  ·obtain⟨d',v',e3,e4,r'⟩:=h1.rep j o' e';have eq:(fun a=>j≠i/\F j a)=F j:=funext fun a=>propext ⟨fun z=>z.2,fun z=>⟨fun q=>n q.symm,z⟩⟩
   exact⟨d',v',e3,e4,by show Rep K g H o' d' v' (fun a=>j≠i/\F j a);rw[eq];exact r'⟩
 ·exact h1.out j (fun o' z=>e' o' (by rw[C9 fun w=>q.1 w.symm];exact z)) a q.2
 ·rw[h4 a];refine⟨fun⟨j,z⟩=>?_,fun z=>?_⟩
  ·by_cases zj:j=i
   ·exact .inl (zj▸z)
   ·exact .inr ⟨j,zj,z⟩
  ·rcases z with z | ⟨j,_,z⟩
   ·exact⟨i,z⟩
   ·exact⟨j,z⟩
theorem Cm{α:Type}(l:List α)(i:Nat)(x y:α):(l.set i x).set i y=l.set i y:=nG ..
theorem Rel.qt{Pv:Fp}{i o:Nat}{d:Dv}{v:V}(h:Rel K g H Γ m σ P)(hi:i < Γ.length)(hv:Rep K g H o d v Pv)(n:BY Pv P) :
    ∃P2,Rel K g H (Γ.set i (some o)) (m.set i d) (σ.set i (some v)) P2/\∀a,P2 a->P a\/Pv a:=by
  obtain⟨P2,h2,s⟩:=h.drop i d (some v);have l:=h.len;have:=h2.fill (i:=i) (D5 hi) (D5 (by omega)) (D5 (by omega)) hv fun a q z=>n a q (s a z)
  rw[Cm] at this;exact⟨_,this,fun a q=>q.elim .inr fun q=>.inl (s a q)⟩
theorem Rel.putIn{P1:Fp}{i o:Nat}{d:Dv}{v:V}(h:Rel K g H (Γ.set i none) m σ P)(hi:i < Γ.length)(hv:σ[i]?=some (some v))(r:Rep K g H o d v P1)(n:BY P1 P):∃P2,Rel K g H (Γ.set i (some o)) (m.set i d) σ P2/\∀a,P2 a->P1 a\/P a:=by
 obtain⟨P2,h2,s⟩:=h.drop i d (some v);rw[Cn hv] at h2;have l:=h.len;rw[C8] at l;have h3:=h2.fill (i:=i) (by rw[Cm];exact D5 hi) (D5 (by omega)) hv r fun a q z=>n a q (s a z)
 rw[Cm,Cm] at h3;exact⟨_,h3,fun a q=>q.elim .inl fun q=>.inr (s a q)⟩
theorem Rel.freeze{i o:Nat}(h:Rel K g H Γ m σ P)(e:Γ[i]?=some (some o)):∃g' P' v,Step g P H g' P' H/\Rel K g' H (Γ.set i (some 0)) m σ P'/\σ[i]?=some (some v)/\Rep K g' H 0 (m.at i) v pT:=by
 obtain⟨v,P1,P2,ev,ed,r,r2,n,hP⟩:=h.take e;have st:Step g P1 H (g.add P1) pT H:=Step.freeze r.pZ;have fr:Rep K (g.add P1) H 0 (m.at i) v pT:=r.freeze fun _ q=>q
 have r3:=r2.held st r.pZ fun a q z=>n a z q
 have hi:i < Γ.length:=(B1.mp e).1;have r4:=r3.fill (i:=i) (D5 hi) ed ev fr fun _ z=>z.elim
 rw[Cm] at r4;refine⟨_,_,v,?_,r4,ev,fr⟩;exact(st.frame (R:=P2)).sub (fun a q=>(hP a).mpr q) fun a q=>q.elim (fun z=>z.elim) .inr
def BL:Gm->Gm->Bool
 | [],[]=>true
 | none::a,_::b=>BL a b
 | some o::a,some o'::b=>(o == 0 || o == o') && BL a b
 | _,_=>false
theorem DN:∀{a b:Gm},BL a b=true->a.length=b.length
 | [],[],_=>rfl
 | none::a,_::b,h=>by unfold BL at h;simp[DN h]
 | some o::a,some o'::b,h=>by unfold BL at h;simp[DN (M5.mp h).2]
 | [],_::_,h=>by cases h
 | some _::_,none::_,h=>by cases h
 | some _::_,[],h=>by cases h
 | none::_,[],h=>by cases h
theorem EE:∀{a b:Gm} {i o:Nat},BL a b=true->a[i]?=some (some o)->∃o',b[i]?=some (some o')/\(o=0\/o=o')
 | [],_,i,o,_,e=>by simp at e
 | none::a,x::b,i,o,h,e=>by
  unfold BL at h;cases i with
  | zero=>simp at e
  | succ i=>obtain⟨o',e',z⟩:=EE (i:=i) h (by simpa using e);exact⟨o',by simpa using e',z⟩
 | some p::a,some p'::b,i,o,h,e=>by
  unfold BL at h;rw[A2] at h;cases i with
  | zero =>
   simp at e;subst e;refine⟨p',rfl,?_⟩;have:=h.1;rw[oK,beq_iff_eq,beq_iff_eq] at this;exact this
  | succ i=>obtain⟨o',e',z⟩:=EE (i:=i) h.2 (by simpa using e);exact⟨o',by simpa using e',z⟩
 | some _::_,none::_,_,_,h,_=>by cases h
 | some _::_,[],_,_,h,_=>by cases h
 | none::_,[],_,_,h,_=>by cases h
theorem Rel.weaken{Γ':Gm}(h:Rel K g H Γ m σ P)(e:BL Γ' Γ=true):∃g' P',Step g P H g' P' H/\Rel K g' H Γ' m σ P':=by
 have ok:=h.pZ;obtain⟨zd,F,h1,h4⟩:=h
 let D:Fp:=fun a=>∃i,Γ'[i]?=some (some 0)/\F i a
 have okD:pd g H D:=fun a ⟨i,_,q⟩=>ok a ((h4 a).mpr ⟨i,q⟩)
 have st:Step g D H (g.add D) pT H:=Step.freeze okD
 let F':Nat->Fp:=fun i a=>(∃o,Γ'[i]?=some (some (o+1)))/\F i a
 refine⟨g.add D,fun a=>∃i,F' i a,?_,st.zd zd,F',⟨by rw[DN e];exact h1.l1,by rw[DN e];exact h1.l2,fun i o ei=>?_,fun i ei a q=>?_,fun i j n a q z=>h1.dj i j n a q.2 z.2⟩,fun _=>X5⟩
 ·refine(st.frame (R:=fun a=>∃i,F' i a)).sub (fun a q=>?_) fun a q=>.inr q
  rcases q with⟨i,_,q⟩ | ⟨i,q⟩
  ·exact(h4 a).mpr ⟨i,q⟩
  ·exact(h4 a).mpr ⟨i,q.2⟩
 ·obtain⟨o',eo,z⟩:=EE e ei;obtain⟨d,v,e1,e2,r⟩:=h1.rep i o' eo;refine⟨d,v,e1,e2,?_⟩;cases o with
  | zero =>
   have eq:F' i=pT:=CV fun a ⟨⟨o,w⟩,_⟩=>by rw[ei] at w;cases w
   rw[eq];exact r.freeze fun a q=>⟨i,ei,q⟩
  | succ o =>
   have eq:F' i=F i:=funext fun a=>propext ⟨fun w=>w.2,fun w=>⟨⟨o,ei⟩,w⟩⟩
   rcases z with z | z
   ·cases z
   ·subst z;rw[eq];refine r.held st okD fun a q ⟨j,ej,z⟩=>?_
    by_cases w:i=j
    ·subst w;rw[ei] at ej;cases ej
    ·exact h1.dj i j w a q z
 ·obtain⟨⟨o,w⟩,_⟩:=q;exact ei _ w
end
theorem PE.imp{X:Cx}{e:Expr}{t t':TE}(h:PE X e t)(k:∀σ H Q,t' σ H Q->t σ H Q):PE X e t':=fun pins s σ H Q I q=>h pins s σ H Q I (k σ H Q q)
theorem PT.imp{X:Cx}{e:Expr}{t t':TT}(h:PT X e t)(k:∀σ H Q,t' σ H Q->t σ H Q):PT X e t':=fun pins s σ H Q I q=>h pins s σ H Q I (k σ H Q q)
theorem PW.imp{X:Cx}{e:Expr}{t t':TT}(h:PW X e t)(k:∀σ H Q,t' σ H Q->t σ H Q):PW X e t':=fun wh pins s σ H Q I q=>h wh pins s σ H Q I (k σ H Q q)
theorem PS.imp{X:Cx}{e:G0}{t t':TS}(h:PS X e t)(k:∀D σ H,t' D σ H->t D σ H):PS X e t':=fun pins s σ H D I q=>h pins s σ H D I (k D σ H q)
theorem CP.imp{X:Cx}{e:List G0}{t t':TS}(h:CP X e t)(k:∀D σ H,t' D σ H->t D σ H):CP X e t':=fun pins s σ H D I q=>h pins s σ H D I (k D σ H q)
noncomputable abbrev Ev(α:Type):=(R:Type)->M->(α->M->Option R)->Option R
def BQ(js:List Nat)(m m':M):Prop:=m'.length=m.length/\∀i,i∉js->m'.at i=m.at i
theorem BQ.refl{js:List Nat}{m:M}:BQ js m m:=⟨rfl,fun _ _=>rfl⟩
theorem BQ.trans{js ks:List Nat}{m m1 m2:M}(a:BQ js m m1)(b:BQ ks m1 m2):BQ (js++ks) m m2:=⟨b.1.trans a.1,fun i h=>(b.2 i fun z=>h (B6 _ z)).trans (a.2 i fun z=>h (C5 _ z))⟩
theorem BQ.set{m:M}{i:Nat}{d:Dv}:BQ [i] m (m.set i d):=⟨C8 ..,fun j h=>by
 have n:i≠j:=fun z=>h (by rw[z];exact M7 _)
 unfold M.at;rw[D0,D0,C9 n]⟩
theorem BQ.mono{js ks:List Nat}{m m1:M}(a:BQ js m m1)(h:∀i∈js,i∈ks):BQ ks m m1:=⟨a.1,fun i n=>a.2 i fun z=>n (h i z)⟩
def tE(K:W.Frag)(Γ:Gm)(o:Nat)(Γ':Gm)(js:List Nat)(f:Ev Dv):TE:=fun σ H Q=>∃g m P,Rel K g H Γ m σ P/\∃(R:Type) (k:Dv->M->Option R) (r:R),f R m k=some r /\
 ∀d m' g' P' Pv v H',k d m'=some r->BQ js m m'->Step g P H g' (fun a=>P' a\/Pv a) H'->Rep K g' H' o d v Pv->Rel K g' H' Γ' m' σ P'->BY P' Pv->Q v H'
def tT(K:W.Frag)(Γ Γ':Gm)(js:List Nat)(f:Ev Bool):TT:=fun σ H Q=>∃g m P,Rel K g H Γ m σ P/\∃(R:Type) (k:Bool->M->Option R) (r:R),f R m k=some r /\
 ∀b m' g' P' H',k b m'=some r->BQ js m m'->Step g P H g' P' H'->Rel K g' H' Γ' m' σ P'->Q b H'
noncomputable def On(f:Str):List Str->List Dv->Option Dv
 | n::ns,d::ds=>if f == n then some d else On f ns ds
 | _,_=>none
noncomputable def Jm(f:Str)(x:Dv):List Str->List Dv->List Dv
 | n::ns,d::ds=>if f == n then x::ds else d::Jm f x ns ds
 | _,ds=>ds
def bJ(d:Dv)(f:Str):Option Dv:=match d with
 | .obj _ _ nm xs=>On f nm xs
 | _=>none
def bI(d:Dv)(f:Str)(x:Dv):Dv:=match d with
 | .obj c fl nm xs=>.obj c fl nm (Jm f x nm xs)
 | d=>d
noncomputable def fS:Dv->Bool
 | .lst _=>true
 | .rX _ _=>true
 | .uC _ _=>true
 | .uV _ _=>true
 | .tup _=>true
 | .obj _ _ _ _=>true
 | _=>false
def WS(d:Dv)(f:Str):Bool:=match bJ d f with
 | some x=>fS x
 | none=>false
section
variable {K:W.Frag} {g:G} {H:Hp}
theorem Rq{o:Nat}{d:Dv}{v:V}{P:Fp}(h:Rep K g H o d v P)(e:fS d=true):∃r,v=.ref r:=by
 cases d with
 | lst _=>unfold Rep at h;obtain⟨a,_,_,e,_⟩:=h;exact⟨a,e⟩
 | tup _=>unfold Rep at h;obtain⟨a,_,e,_⟩:=h;exact⟨a,e⟩
 | rX _ _=>unfold Rep at h;obtain⟨a,_,e,_⟩:=h;exact⟨a,e⟩
 | uC _ _=>unfold Rep at h;obtain⟨a,_,e,_⟩:=h;exact⟨a,e⟩
 | uV _ _=>unfold Rep at h;obtain⟨a,_,e,_⟩:=h;exact⟨a,e⟩
 | obj _ _ _ _=>unfold Rep at h;obtain⟨a,_,_,_,e,_⟩:=h;exact⟨a,e⟩
 | _=>cases e
theorem Jo{f:Str}{o:Nat}:∀{nm:List Str} {ds:List Dv} {vs:List V} {P:Fp} {d:Dv},AA K g H o ds vs P->On f nm ds=some d ->
    ∃v P1 P2,(nm.zip vs).lookup f=some v/\Rep K g H o d v P1/\BY P1 P2/\(∀a,P a↔P1 a\/P2 a)/\∀{g':G} {H':Hp} {y:Dv} {tY:Fp},Step g P1 H g' tY H'->Rep K g' H' o y v tY->AA K g' H' o (Jm f y nm ds) vs fun a=>tY a\/P2 a
  | [],ds,vs,P,d,h,e=>by cases ds<;>cases e
  | n::nm,[],vs,P,d,h,e=>by cases e
  | n::nm,x::ds,vs,P,d,h,e=>by
    unfold AA at h;obtain⟨v,r,P1,P2,rfl,h1,h2,h3,h4⟩:=h;unfold On at e;rw[K2,E6];cases c:f == n with
    | true =>
      rw[c] at e;simp only[if_true] at e;cases e;refine⟨v,P1,P2,rfl,h1,h3,h4,fun{g' H' y tY} st ry=>?_⟩;unfold Jm;rw[c];simp only[if_true];have n3:=st.out h2.pZ fun a q z=>h3 a z q
      exact AA.cons ry (h2.held st h1.pZ fun a q z=>h3 a z q) fun a q z=>n3 a z q
    | false =>
      rw[c] at e;simp only[B2,if_false] at e;obtain⟨w,Q1,Q2,e1,e2,e3,e4,e5⟩:=Jo h2 e;refine⟨w,Q1,fun a=>P1 a\/Q2 a,e1,e2,fun a q z=>z.elim (fun z=>h3 a z ((e4 a).mpr (.inl q))) fun z=>e3 a q z,fun a=>?_,fun{g' H' y tY} st ry=>?_⟩
      · rw[h4 a,e4 a];exact⟨fun z=>z.elim (fun z=>.inr (.inl z)) fun z=>z.elim .inl fun z=>.inr (.inr z),fun z=>z.elim (fun z=>.inr (.inl z)) fun z=>z.elim .inl fun z=>.inr (.inr z)⟩
      · unfold Jm;rw[c];simp only[B2,if_false];have d1:BY P1 Q1:=fun a q z=>h3 a q ((e4 a).mpr (.inl z))
        have n1:=st.out h1.pZ d1;refine(AA.cons (h1.held st e2.pZ d1) (e5 st ry) fun a q z=>z.elim (fun z=>n1 a q z) fun z=>h3 a q ((e4 a).mpr (.inr z))).iff fun a=>?_
        exact⟨fun z=>z.elim (fun z=>.inr (.inl z)) fun z=>z.elim .inl fun z=>.inr (.inr z),fun z=>z.elim (fun z=>.inr (.inl z)) fun z=>z.elim .inl fun z=>.inr (.inr z)⟩
theorem IQ{f:Str}{o:Nat}{x d:Dv}{v:V}{P:Fp}(h:Rep K g H o x v P)(hf:bJ x f=some d):∃a C dx fs w P1 P2,v=.ref a/\H a=some (.ins C dx fs)/\xt K C/\Iz K C f/\fs.lookup f=some w/\Rep K g H o d w P1/\BY P1 P2/\(∀b,P b↔P1 b\/P2 b) /\
    ∀{g':G} {H':Hp} {y:Dv} {tY:Fp},Step g P1 H g' tY H'->Rep K g' H' o y w tY->Rep K g' H' o (bI x f y) v fun a=>tY a\/P2 a:=by
  cases x with
  | obj c fl nm xs =>
    have ok:=h.pZ;unfold Rep at h;obtain⟨a,dx,vs,R',rfl,h1,h2,h3,⟨hc,hl,hn⟩,h6,h7,h4⟩:=h;obtain⟨w,P1,P2,e1,e2,e3,e4,e5⟩:=Jo h6 hf;have mem:f∈nm:=by
      have go:∀{nm:List Str} {xs:List Dv},On f nm xs=some d->f∈nm:=by
        intro nm
        induction nm with
        | nil=>intro xs e;cases xs<;>cases e
        | cons n nm ih =>
          intro xs e;cases xs with
          | nil=>cases e
          | cons x xs =>
            unfold On at e;split at e
            · rename_i z;rw[beq_iff_eq.mp z];exact B8
            · exact B5 _ (ih e)
      exact go hf
    have len:∀{nm:List Str} {xs:List Dv} {y:Dv},nm.length=xs.length->nm.length=(Jm f y nm xs).length:=by
      intro nm
      induction nm with
      | nil=>intro xs y e;cases xs<;>first | rfl | cases e
      | cons n nm ih =>
        intro xs y e;cases xs with
        | nil=>cases e
        | cons x xs =>
          unfold Jm;split
          · exact e
          · simp[ih (y:=y) (by simpa using e)]
    refine⟨a,_,dx,_,w,P1,fun b=>(o≠0/\b=a)\/P2 b,rfl,h1,hc.1,hc.2 f (hn f mem),e1,e2,fun b q z=>z.elim (fun z=>h7 ((e4 a).mpr (.inl (z.2▸q)))) fun z=>e3 b q z,fun b=>?_,fun{g' H' y tY} st ry=>?_⟩
    · rw[h4 b,e4 b];exact⟨fun z=>z.elim (fun z=>.inr (.inl z)) fun z=>z.elim .inl fun z=>.inr (.inr z),fun z=>z.elim (fun z=>.inr (.inl z)) fun z=>z.elim .inl fun z=>.inr (.inr z)⟩
    · have na:¬P1 a:=fun z=>h7 ((e4 a).mpr (.inl z))
      have na':¬tY a:=fun z=>(st.nw a z).elim na fun z=>by rw[h1] at z;cases z
      show Rep K g' H' o (.obj c fl nm (Jm f y nm xs)) _ _;unfold Rep;refine⟨a,dx,vs,_,rfl,st.keep _ _ h1 na,fun q=>st.zm _ (h2 q),fun q z=>?_,⟨hc,len hl,hn⟩,e5 st ry,fun z=>z.elim na' fun z=>h7 ((e4 a).mpr (.inr z)),fun b=>?_⟩
      · rcases st.zn _ z with z | z | z
        · exact h3 q z
        · exact na z
        · rw[h1] at z;cases z
      · exact⟨fun z=>z.elim (fun z=>.inr (.inl z)) fun z=>z.elim .inl fun z=>.inr (.inr z),fun z=>z.elim (fun z=>.inr (.inl z)) fun z=>z.elim .inl fun z=>.inr (.inr z)⟩
  | _=>cases hf
end
inductive Ar:Type 1 where
 | rf (i:Nat)
 | ev (Γ Γ':Gm) (js:List Nat) (f:Ev Dv)
 | fd (i:Nat) (f:Str)
def IC(K:W.Frag):Ar->TE
 | .rf i=>DU i
 | .ev Γ Γ' js f=>tE K Γ 0 Γ' js f
 | .fd i f=>ZG K (DU i) f
def BM(K:W.Frag):List Ar->TA
 | []=>Uk
 | a::as=>Xg (IC K a) (BM K as)
def AQ:List Ar->Ev (List Dv)
 | [],_,m,k=>k [] m
 | .rf i::as,R,m,k=>AQ as R m fun ds m1=>k (m1.at i::ds) m1
 | .ev _ _ _ f::as,R,m,k=>f R m fun d m1=>AQ as R m1 fun ds m2=>k (d::ds) m2
 | .fd i f::as,R,m,k=>bif WS (m.at i) f then AQ as R m fun ds m1=>(bJ (m1.at i) f).bind fun d=>k (d::ds) m1 else none
def AD:Gm->List Ar->Gm->List Nat->Prop
 | Γ,[],Γ',js=>Γ'=Γ/\js=[]
 | Γ,.rf i::as,Γ',js=>(∃o,Γ[i]?=some (some o))/\(∃o,o<=1/\Γ'[i]?=some (some o))/\AD Γ as Γ' js
 | Γ,.ev qA ph js1 _::as,Γ',js=>qA=Γ/\∃js2,js=js1++js2/\AD ph as Γ' js2
 | Γ,.fd i _::as,Γ',js=>(∃o,Γ[i]?=some (some o))/\(∃o,o<=1/\Γ'[i]?=some (some o))/\AD Γ as Γ' js
def Al(K:W.Frag)(g:G)(H:Hp)(Γ:Gm)(m:M)(σ:St):List Ar->List Dv->List V->Prop
 | [],ds,vs=>ds=[]/\vs=[]
 | .rf i::as,ds,vs=>∃v sG qQ,ds=m.at i::sG/\vs=v::qQ/\σ[i]?=some (some v)/\(∃o,o<=1/\Γ[i]?=some (some o))/\Al K g H Γ m σ as sG qQ
 | .ev _ _ _ _::as,ds,vs=>∃d v sG qQ,ds=d::sG/\vs=v::qQ/\Rep K g H 0 d v pT/\Al K g H Γ m σ as sG qQ
 | .fd i f::as,ds,vs=>∃d v sG qQ,ds=d::sG/\vs=v::qQ/\(bJ (m.at i) f=some d/\∃a C dx fs,σ[i]?=some (some (.ref a))/\H a=some (.ins C dx fs)/\fs.lookup f=some v)/\(∃o,o<=1/\Γ[i]?=some (some o))/\Al K g H Γ m σ as sG qQ
theorem AK{K:W.Frag}{σ:St}:∀(as:List Ar) {g:G} {Γ Γ':Gm} {js:List Nat} {m:M} {P:Fp} {H:Hp} {R:Type} {k:List Dv->M->Option R} {r:R} {Q:List V->Hp->Prop},Rel K g H Γ m σ P->AD Γ as Γ' js->AQ as R m k=some r ->
    (∀ds m' g' P' vs H',k ds m'=some r->BQ js m m'->Step g P H g' P' H'->Al K g' H' Γ' m' σ as ds vs->Rel K g' H' Γ' m' σ P'->Q vs H')->BM K as σ H Q
  | [],g,Γ,Γ',js,m,P,H,R,k,r,Q,rl,c,e,q=>by
    unfold AD at c;obtain⟨rfl,rfl⟩:=c;exact q [] m g P [] H e BQ.refl Step.refl (by unfold Al;exact⟨rfl,rfl⟩) rl
  | .rf i::as,g,Γ,Γ',js,m,P,H,R,k,r,Q,rl,c,e,q=>by
    unfold AD at c;obtain⟨⟨o,ho⟩,h2,c⟩:=c;obtain⟨v,_,hv,_⟩:=rl.tF ho;refine⟨v,hv,AK as rl c e fun ds m' g' P' vs H' hk ag s ar r1=>q _ m' g' P' _ H' hk ag s ?_ r1⟩;unfold Al;exact⟨v,ds,vs,rfl,rfl,hv,h2,ar⟩
  | .ev qA ph js1 f::as,g,Γ,Γ',js,m,P,H,R,k,r,Q,rl,c,e,q=>by
    unfold AD at c;obtain⟨rfl,js2,rfl,c⟩:=c;refine⟨g,m,P,rl,R,_,r,e,fun d m1 g1 P1 Pv v H1 hk ag s rv r1 n=>?_⟩;refine AK as r1 c hk fun ds m2 g2 P2 vs H2 rT sA s2 ar r2=>q _ m2 g2 P2 _ H2 rT (ag.trans sA) ((s.less fun _ q=>.inl q).trans s2) ?_ r2
    unfold Al;exact⟨d,v,ds,vs,rfl,rfl,rv.z.held s2 r1.pZ fun _ z=>z.elim,ar⟩
  | .fd i f::as,g,Γ,Γ',js,m,P,H,R,k,r,Q,rl,c,e,q=>by
    unfold AD at c;obtain⟨⟨o,ho⟩,h2,c⟩:=c;have e:(bif WS (m.at i) f then AQ as R m fun ds m1=>(bJ (m1.at i) f).bind fun d=>k (d::ds) m1 else none)=some r:=e;cases hr:WS (m.at i) f with
    | false=>rw[hr] at e;cases e
    | true =>
      rw[hr] at e;have e:(AQ as R m fun ds m1=>(bJ (m1.at i) f).bind fun d=>k (d::ds) m1)=some r:=e;unfold WS at hr;cases hd:bJ (m.at i) f with
      | none=>rw[hd] at hr;cases hr
      | some d0 =>
        rw[hd] at hr;obtain⟨v0,P1,hv,rv,_⟩:=rl.tF ho;obtain⟨a,C,dx,fs,w,_,_,rfl,h1,hc,hn,hl,sN,_⟩:=IQ rv hd;obtain⟨rr,rfl⟩:=Rq sN hr;refine⟨_,hv,a,C,dx,fs,_,rfl,h1,hc,hn,hl,AK as rl c e fun ds m' g' P' vs H' hk ag s ar r1=>?_⟩;obtain⟨d,e1,e2⟩:=T6.mp hk;obtain⟨uM,sv,sS⟩:=s.ins a C dx fs h1;refine q _ m' g' P' _ H' e2 ag s ?_ r1;unfold Al;exact⟨d,_,ds,vs,rfl,rfl,⟨e1,a,C,dx,uM,hv,sv,sS f rr hl⟩,h2,ar⟩
def RA(K:W.Frag)(g:G)(H:Hp):List Dv->List V->Prop
 | [],vs=>vs=[]
 | d::ds,vs=>∃v r o P,vs=v::r/\o<=1/\Rep K g H o d v P/\RA K g H ds r
def Ak(K:W.Frag)(g:G)(H:Hp)(o:Nat)(d:Dv)(v:V)(H':Hp):Prop:=Iw H H'/\∃Pv,Rep K g H' o d v Pv/\∀a,Pv a->H a=none
noncomputable abbrev Pr:=List Dv->Option Dv
abbrev MK:=List V->Hp->VK->Prop
def AI(K:W.Frag)(p:Pr)(o:Nat)(R:MK):Prop:=∀g H ds vs d Q,Zd g H->RA K g H ds vs->p ds=some d->(∀v H',Ak K g H o d v H'->Q v H')->R vs H Q
def Ef(p:Pr)(fa:Ev (List Dv)):Ev Dv:=fun R m k=>fa R m fun ds m'=>(p ds).bind fun d=>k d m'
theorem pR.{u,v}{α:Type u}{β:Type v}{x:Option α}{f:α->Option β}{b:β}(h:x.bind f=some b):∃a,x=some a/\f a=some b:=T6.mp h
section
variable {K:W.Frag} {g:G} {H H':Hp} {σ:St} {Γ Γ':Gm} {m:M} {P:Fp}
theorem Al.ra(r:Rel K g H Γ m σ P):∀{as:List Ar} {ds:List Dv} {vs:List V},Al K g H Γ m σ as ds vs->RA K g H ds vs
 | [],ds,vs,h=>by unfold Al at h;obtain⟨rfl,rfl⟩:=h;unfold RA;rfl
 | .ev _ _ _ f::as,ds,vs,h=>by
  unfold Al at h;obtain⟨d,v,sG,qQ,rfl,rfl,h1,h2⟩:=h;unfold RA;exact⟨v,qQ,0,pT,rfl,by decide,h1,Al.ra r h2⟩
 | .rf i::as,ds,vs,h=>by
  unfold Al at h;obtain⟨v,sG,qQ,rfl,rfl,h1,⟨o,hl,ho⟩,h3⟩:=h;obtain⟨v',P1,e,k,_⟩:=r.tF ho;rw[h1] at e;cases e;unfold RA;exact⟨v,qQ,o,P1,rfl,hl,k,Al.ra r h3⟩
 | .fd i f::as,ds,vs,h=>by
  unfold Al at h;obtain⟨d,v,sG,qQ,rfl,rfl,⟨h1,a,C,dx,fs,hv,ha,hlk⟩,⟨o,hl,ho⟩,h3⟩:=h;obtain⟨v',P1,e,k,_⟩:=r.tF ho;rw[hv] at e;cases e;obtain⟨a',C',dx',uM,w,Q1,Q2,ea,sv,_,_,sS,sN,_⟩:=IQ k h1;cases ea;rw[ha] at sv;cases sv;rw[hlk] at sS;cases sS;unfold RA;exact⟨v,qQ,o,Q1,rfl,hl,sN,Al.ra r h3⟩
theorem Ak.go{g0:G}{P0:Fp}{H0:Hp}{o:Nat}{d:Dv}{v:V}(s:Step g0 P0 H0 g P H)(r:Rel K g H Γ m σ P)(n:Ak K g H o d v H') :
    ∃Pv,Step g0 P0 H0 g (fun a=>P a\/Pv a) H'/\Rep K g H' o d v Pv/\Rel K g H' Γ m σ P/\BY P Pv:=by
  obtain⟨sm,Pv,h1,h2⟩:=n;refine⟨Pv,s.trans ⟨fun b o h _=>sm b o h,(Step.same (g:=g) (P:=pT) sm).vA,fun _ h=>h,fun _ h=>.inl h,⟨[],by simp⟩,fun a h=>h.elim .inl fun q=>.inr (h2 a q),(Step.same (g:=g) (P:=pT) sm).zd,(Step.same (g:=g) (P:=pT) sm).ins⟩,h1,r.same sm,fun a q z=>r.pZ.new (h2 a z) q⟩
theorem CL{p:Pr}{o:Nat}{as:List Ar}{js:List Nat}{R:MK}(hp:AI K p o R)(c:AD Γ as Γ' js){Q:VK}(h:tE K Γ o Γ' js (Ef p (AQ as)) σ H Q):BM K as σ H fun vs H1=>R vs H1 Q:=by
 obtain⟨g,m,P,r,R',k,res,e,q⟩:=h;refine AK as r c e fun ds m' g' P' vs H1 hk ag s ar r1=>?_
 obtain⟨d,e1,e2⟩:=pR hk;refine hp g' H1 ds vs d Q r1.zd (ar.ra r1) e1 fun v H2 nw=>?_
 obtain⟨Pv,s2,h1,r2,n2⟩:=Ak.go s r1 nw;exact q d m' g' P' Pv v H2 e2 ag s2 h1 r2 n2
end
def JA(r:R2):MK:=fun vs H Q=>match vs with | [x,y]=>r x y H Q | _=>False
def cX(r:V->Hp->VK->Prop):MK:=fun vs H Q=>match vs with | [x]=>r x H Q | _=>False
def Jp(d:Dv):Ev Dv:=fun _ m k=>k d m
def NO(i:Nat):Ev Dv:=fun _ m k=>k (m.at i) m
section
variable {X:Cx} {e:Expr} {Γ Γ':Gm} {js:List Nat} {o:Nat} {f:Ev Dv}
theorem cj{v:V}{d:Dv}(h:PE X e (tC v))(hd:∀g H,Rep X.K g H o d v pT):PE X e (tE X.K Γ o Γ [] (Jp d)):=PE.imp h fun σ H Q q=>by
 obtain⟨g,m,P,r,R,k,res,e,q⟩:=q;exact q d m g P pT v H e BQ.refl (Step.refl.less fun _ q=>q.elim id D2) (hd g H) r fun _ _ z=>z
theorem eB{i:Nat}(h:PE X e (DU i)){o:Nat}(hi:Γ[i]?=some (some o)):PE X e (tE X.K Γ 0 (Γ.set i (some 0)) [] (NO i)):=PE.imp h fun σ H Q q=>by
 obtain⟨g,m,P,r,R,k,res,e,q⟩:=q;obtain⟨g',P',v,s,r',ev,rv⟩:=r.freeze hi;exact⟨v,ev,q _ m g' P' pT v H e BQ.refl (s.less fun _ q=>q.elim id D2) rv r' fun _ _ z=>z⟩
theorem eE{i:Nat}(h:PE X e (DU i))(hi:Γ[i]?=some (some o)):PE X e (tE X.K Γ o (Γ.set i none) [] (NO i)):=PE.imp h fun σ H Q q=>by
 obtain⟨g,m,P,r,R,k,res,e,q⟩:=q;obtain⟨v,P1,P2,ev,_,rv,r2,n,hP⟩:=r.take hi;exact⟨v,ev,q _ m g P2 P1 v H e BQ.refl (Step.refl.less fun a q=>(hP a).mpr q.symm) rv r2 fun a q z=>n a z q⟩
theorem FF(h:PE X e (tE X.K Γ o Γ' js f)):PE X e (tE X.K Γ 0 Γ' js f):=PE.imp h fun σ H Q q=>by
 obtain⟨g,m,P,r,R,k,res,e,q⟩:=q;refine⟨g,m,P,r,R,k,res,e,fun d m' g' P' Pv v H' hk ag s rv r1 n=>?_⟩;have st:Step g' Pv H' (g'.add Pv) pT H':=Step.freeze rv.pZ;refine q d m' (g'.add Pv) P' pT v H' hk ag (s.trans ?_) (rv.freeze fun _ q=>q) (r1.held st rv.pZ n) fun _ _ z=>z
 exact(st.frame (R:=P')).sub (fun a q=>q.symm) fun a q=>q.elim .inr D2
end
def NP(t:List Dv->Dv)(fa:Ev (List Dv)):Ev Dv:=fun R m k=>fa R m fun ds m'=>if ds.length<=1000000 then k (t ds) m' else none
noncomputable def Lh:List Ar->Bool
 | []=>true
 | .ev _ _ _ _::as=>Lh as
 | .rf _::_=>false
 | .fd _ _::_=>false
theorem Al.sY{K:W.Frag}{g:G}{H:Hp}{Γ:Gm}{m:M}{σ:St}:∀{as:List Ar} {ds:List Dv} {vs:List V},Lh as=true->Al K g H Γ m σ as ds vs->AA K g H 0 ds vs pT
 | [],ds,vs,_,h=>by unfold Al at h;obtain⟨rfl,rfl⟩:=h;exact AA.nil
 | .ev _ _ _ f::as,ds,vs,e,h=>by
  unfold Al at h;obtain⟨d,v,sG,qQ,rfl,rfl,h1,h2⟩:=h;exact(AA.cons h1 (Al.sY (by unfold Lh at e;exact e) h2) fun _ z=>z.elim).iff fun a=>⟨fun z=>z.elim,fun z=>z.elim id id⟩
 | .rf i::as,ds,vs,e,h=>by unfold Lh at e;cases e
 | .fd i _::as,ds,vs,e,h=>by unfold Lh at e;cases e
section
variable {X:Cx} {es:List Expr} {Γ Γ':Gm} {js:List Nat} {as:List Ar} {pos:Pos}
theorem eD{x1}(hq:PA X es (BM X.K as))(c:AD Γ as Γ' js)(he:Lh as=true):PE X (.Tuple es x1 pos) (tE X.K Γ 1 Γ' js (NP .tup (AQ as))):=PE.imp (Zw hq) fun σ H Q q=>by
 obtain⟨g,m,P,r,R,k,res,e,q⟩:=q;refine AK as r c e fun ds m' g' P' vs H1 hk ag s ar r1=>?_
 split at hk
 ·rename_i hz;have rp:=ar.sY he;refine⟨by rw[<- rp.len];exact A9 hz (by decide),fun p hp=>?_⟩;have sm:=Cp hp (.tup vs);have st:=Step.same (g:=g') (P:=pT) sm;refine q _ m' g' P' pT (.ref p) _ hk ag ((s.trans (Step.same sm)).less fun _ q=>q.elim id D2) ?_ (r1.same sm) fun _ _ z=>z
  unfold Rep;exact⟨p,vs,rfl,AM,rp.held st pd.pT fun _ _ z=>z⟩
 ·cases hk
theorem Ak.lst{K:W.Frag}{g:G}{H:Hp}{ds:List Dv}{vs:List V}{p:A8}(zd:Zd g H)(rp:AA K g H 0 ds vs pT)(hp:H p=none):Ak K g H 1 (.lst ds) (.ref p) (upd H p (.lst vs)):=by
 have sm:=Cp hp (.lst vs);refine⟨sm,fun b=>b=p,?_,fun a q=>q▸hp⟩;unfold Rep;exact⟨p,vs,pT,rfl,⟨AM,(fun z=>by cases z),fun _ z=>zd p z hp⟩,rp.held (Step.same (g:=g) (P:=pT) sm) pd.pT fun _ _ z=>z,fun z=>z,fun b=>⟨fun z=>.inl ⟨by decide,z⟩,fun z=>z.elim (fun z=>z.2) D2⟩⟩
theorem eF(hq:PA X es (BM X.K as))(c:AD Γ as Γ' js)(he:Lh as=true):PE X (.List es pos) (tE X.K Γ 1 Γ' js (NP .lst (AQ as))):=PE.imp (aB hq) fun σ H Q q=>by
 obtain⟨g,m,P,r,R,k,res,e,q⟩:=q;refine AK as r c e fun ds m' g' P' vs H1 hk ag s ar r1=>?_
 split at hk
 ·rename_i hz;have rp:=ar.sY he;refine⟨by rw[<- rp.len];exact A9 hz (by decide),fun p hp=>?_⟩;obtain⟨Pv,s2,h1,r2,n2⟩:=Ak.go s r1 (Ak.lst r1.zd rp hp);exact q _ m' g' P' Pv (.ref p) _ hk ag s2 h1 r2 n2
 ·cases hk
end
def EN:List Nat->Type
 | []=>Unit
 | [_]=>Dv
 | _::i::J=>Dv×EN (i::J)
noncomputable def Af:(J:List Nat)->M->EN J
 | [],_=>()
 | [i],m=>m.at i
 | i::j::J,m=>(m.at i,Af (j::J) m)
noncomputable def An:(J:List Nat)->M->EN J->M
 | [],m,_=>m
 | [i],m,d=>m.set i d
 | i::j::J,m,t=>An (j::J) (m.set i t.1) t.2
theorem Qj{m:M}{i:Nat}{d:Dv}(h:i < m.length):M.at (m.set i d) i=d:=Gc (D5 h)
theorem Fv:∀(J:List Nat) (m:M) (t:EN J),(An J m t).length=m.length
 | [],_,_=>rfl
 | [i],m,d=>C8 ..
 | i::j::J,m,t=>by unfold An;rw[Fv];exact C8 ..
theorem AU:∀(J:List Nat) (m:M) (t:EN J),BQ J m (An J m t)
 | [],_,_=>BQ.refl
 | [i],m,d=>BQ.set
 | i::j::J,m,t=>by
  unfold An;exact(BQ.set (i:=i)).trans (AU (j::J) _ _)
theorem Mp:∀(J:List Nat) (m m':M) (i:Nat),i < m.length->i∈J->M.at (An J m (Af J m')) i=m'.at i
 | [],_,_,_,_,h=>by cases h
 | [i],m,m',k,hk,h=>by
  have e:=E5.mp h;subst e;exact Qj hk
 | i::j::J,m,m',k,hk,h=>by
  show M.at (An (j::J) (m.set i (m'.at i)) (Af (j::J) m')) k=_
  by_cases z:k∈j::J
  ·exact Mp (j::J) _ m' k (by rw[C8];exact hk) z
  ·rw[(AU (j::J) _ _).2 k z];rcases D6.mp h with e | e
   ·subst e;exact Qj hk
   ·exact(z e).elim
def BJ(Γ:Gm)(js:List Nat):List Nat:=(C2 Γ.length).filter fun i=>js.contains i && (Γ.getD i none).isSome
theorem BS{Γ:Gm}{js:List Nat}{i o:Nat}(h:Γ[i]?=some (some o)):i∈BJ Γ js\/i∉js:=by
 by_cases e:i∈js
 ·refine .inl (Q0.mpr ⟨N2.mpr (B1.mp h).1,?_⟩);rw[A2,C4,D0,h];exact⟨e,rfl⟩
 ·exact .inr e
theorem Az{Γ:Gm}{js:List Nat}{i:Nat}(h:i∈BJ Γ js):i∈js:=by
 have:=(Q0.mp h).2;rw[A2,C4] at this;exact this.1
theorem Rel.join{K:W.Frag}{g:G}{H:Hp}{Γ:Gm}{m m':M}{σ:St}{P:Fp}{J js:List Nat}(r:Rel K g H Γ m' σ P)(ag:BQ js m m')(hj:∀i o,Γ[i]?=some (some o)->i∈J\/i∉js):Rel K g H Γ (An J m (Af J m')) σ P:=by
 refine r.agree ((Fv ..).trans ag.1.symm) fun i o e=>?_
 have hi:i < m.length:=by rw[<- ag.1,r.len.1];exact(B1.mp e).1
 by_cases z:i∈J
 ·exact Mp J m m' i hi z
 ·rw[(AU J m _).2 i z];exact(ag.2 i ((hj i o e).elim (fun q=>(z q).elim) id)).symm
def YR(p:List Dv->Option Bool)(fa:Ev (List Dv)):Ev Bool:=fun R m k=>fa R m fun ds m'=>(p ds).bind fun b=>k b m'
def Lj(f:Ev Bool):Ev Dv:=fun R m k=>f R m fun b m'=>k (.bl b) m'
def YQ(f:Ev Bool):Ev Bool:=fun R m k=>f R m fun b m'=>k (!b) m'
def Js{α:Type}(c:Ev Bool)(f g:Ev α):Ev α:=fun R m k=>c R m fun b m1=>if b=true then f R m1 k else g R m1 k
def Jn(α:Type):List Nat->Type
 | []=>α
 | i::J=>α×EN (i::J)
def UO{α:Type}:(J:List Nat)->α->M->Jn α J
 | [],a,_=>a
 | i::J,a,m=>(a,Af (i::J) m)
def jl{α R:Type}:(J:List Nat)->M->Jn α J->(α->M->Option R)->Option R
 | [],m,a,k=>k a m
 | i::J,m,t,k=>k t.1 (An (i::J) m t.2)
theorem QD{α R:Type}(J:List Nat)(m m':M)(a:α)(k:α->M->Option R):jl J m (UO J a m') k=k a (An J m (Af J m')):=by cases J<;>rfl
def SV{α:Type}(J:List Nat)(f:Ev α):Ev α:=fun R m k=>(f (Jn α J) m fun a m'=>some (UO J a m')).bind fun t=>jl J m t k
section
variable {K:W.Frag} {Γ Γ' ph Γ3:Gm} {js js2 yA J:List Nat} {σ:St} {H:Hp} {o:Nat}
theorem NA{f:Ev Dv}{Q:VK}(hj:∀i o,Γ'[i]?=some (some o)->i∈J\/i∉js)(hs:∀i∈J,i∈js)(h:tE K Γ o Γ' js (SV J f) σ H Q):tE K Γ o Γ' js f σ H Q:=by
 obtain⟨g,m,P,r,R,k,res,e,q⟩:=h;obtain⟨t,e1,e2⟩:=pR e;refine⟨g,m,P,r,_,_,t,e1,fun d m' g' P' Pv v H' hk ag s rv r1 n=>?_⟩;cases hk;rw[QD] at e2;exact q d _ g' P' Pv v H' e2 ((AU J m _).mono hs) s rv (r1.join ag hj) n
theorem Mz{f:Ev Bool}{Q:Bool->Hp->Prop}(hj:∀i o,Γ'[i]?=some (some o)->i∈J\/i∉js)(hs:∀i∈J,i∈js)(h:tT K Γ Γ' js (SV J f) σ H Q):tT K Γ Γ' js f σ H Q:=by
 obtain⟨g,m,P,r,R,k,res,e,q⟩:=h;obtain⟨t,e1,e2⟩:=pR e;refine⟨g,m,P,r,_,_,t,e1,fun d m' g' P' H' hk ag s r1=>?_⟩;cases hk;rw[QD] at e2;exact q d _ g' P' H' e2 ((AU J m _).mono hs) s (r1.join ag hj)
theorem MQ{f:Ev Bool}{Q:Bool->Hp->Prop}(hw:BL ph Γ'=true)(hs:∀i∈js,i∈js2)(h:tT K Γ ph js2 f σ H Q):tT K Γ Γ' js f σ H Q:=by
 obtain⟨g,m,P,r,R,k,res,e,q⟩:=h;refine⟨g,m,P,r,R,k,res,e,fun b m' g' P' H' hk ag s r1=>?_⟩;obtain⟨g2,P2,s2,r2⟩:=r1.weaken hw;exact q b m' g2 P2 H' hk (ag.mono hs) (s.trans s2) r2
theorem MR{f:Ev Dv}{Q:VK}(hw:BL ph Γ'=true)(hs:∀i∈js,i∈js2)(h:tE K Γ 0 ph js2 f σ H Q):tE K Γ 0 Γ' js f σ H Q:=by
 obtain⟨g,m,P,r,R,k,res,e,q⟩:=h;refine⟨g,m,P,r,R,k,res,e,fun b m' g' P' Pv v H' hk ag s rv r1 n=>?_⟩;obtain⟨g2,P2,s2,r2⟩:=r1.weaken hw;exact q b m' g2 P2 pT v H' hk (ag.mono hs) (((s.less fun _ q=>.inl q).trans s2).less fun _ q=>q.elim id D2) (rv.z.held s2 r1.pZ fun _ z=>z.elim) r2 fun _ _ z=>z
theorem gn{p:List Dv->Option Bool}{as:List Ar}{r:MK}(hp:AI K (fun ds=>(p ds).map .bl) 0 r)(c:AD Γ as Γ' js){Q:Bool->Hp->Prop}(h:tT K Γ Γ' js (YR p (AQ as)) σ H Q):BM K as σ H fun vs H1=>r vs H1 fun x H'=>∃k,x=.bl k/\Q k H':=by
 obtain⟨g,m,P,rl,R',k,res,e,q⟩:=h;refine AK as rl c e fun ds m' g' P' vs H1 hk ag s ar r1=>?_
 obtain⟨b,e1,e2⟩:=pR hk;refine hp g' H1 ds vs (.bl b) _ r1.zd (ar.ra r1) (by show(p ds).map _=_;rw[e1];rfl) fun v H2 nw=>?_
 obtain⟨Pv,s2,h1,r2,n2⟩:=Ak.go s r1 nw;refine⟨b,by unfold Rep at h1;exact h1.1,q b m' g' P' H2 e2 ag (s2.less fun _ q=>.inl q) r2⟩
theorem Ax{g:G}{o:Nat}{b:Bool}{v:V}{P:Fp}(h:Rep K g H o (.bl b) v P):v=.bl b:=by unfold Rep at h;exact h.1
theorem Bn{g:G}{b:Bool}:Rep K g H o (.bl b) (.bl b) pT:=by unfold Rep;exact⟨rfl,fun _ z=>z⟩
theorem QL{t u:Ev Bool}{Q:Bool->Hp->Prop}(h:tT K Γ Γ' (js++js2) (Js t u (fun R m k=>k false m)) σ H Q)(hw:BL Γ' ph=true):di (tT K Γ ph js t) (tT K ph Γ' js2 u) σ H Q:=by
 obtain⟨g,m,P,r,R,k,res,e,q⟩:=h;refine⟨g,m,P,r,R,_,res,e,fun b m1 g1 P1 H1 hk ag s r1=>?_⟩;cases b with
 | true =>
  rw[if_pos rfl] at hk ⊢;exact⟨g1,m1,P1,r1,R,k,res,hk,fun c m2 g2 P2 H2 rT sA s2 r2=>q c m2 g2 P2 H2 rT (ag.trans sA) (s.trans s2) r2⟩
 | false =>
  rw[if_neg C6] at hk ⊢;obtain⟨g2,P2,s2,r2⟩:=r1.weaken hw;exact q false m1 g2 P2 H1 hk (ag.mono fun _ z=>C5 _ z) (s.trans s2) r2
theorem dW{t u:Ev Bool}{Q:Bool->Hp->Prop}(h:tT K Γ Γ' (js++js2) (Js t (fun R m k=>k true m) u) σ H Q)(hw:BL Γ' ph=true):ju (tT K Γ ph js t) (tT K ph Γ' js2 u) σ H Q:=by
 obtain⟨g,m,P,r,R,k,res,e,q⟩:=h;refine⟨g,m,P,r,R,_,res,e,fun b m1 g1 P1 H1 hk ag s r1=>?_⟩;cases b with
 | false =>
  rw[if_neg C6] at hk ⊢;exact⟨g1,m1,P1,r1,R,k,res,hk,fun c m2 g2 P2 H2 rT sA s2 r2=>q c m2 g2 P2 H2 rT (ag.trans sA) (s.trans s2) r2⟩
 | true =>
  rw[if_pos rfl] at hk ⊢;obtain⟨g2,P2,s2,r2⟩:=r1.weaken hw;exact q true m1 g2 P2 H1 hk (ag.mono fun _ z=>C5 _ z) (s.trans s2) r2
theorem ZF{t:Ev Bool}{Q:Bool->Hp->Prop}(h:tT K Γ Γ' js (YQ t) σ H Q):de (tT K Γ Γ' js t) σ H Q:=by
 obtain⟨g,m,P,r,R,k,res,e,q⟩:=h;exact⟨g,m,P,r,R,_,res,e,fun b m1 g1 P1 H1 hk ag s r1=>q (!b) m1 g1 P1 H1 hk ag s r1⟩
end
structure Kt (R:Type) where
 nx:M->Option R
 rt:Dv->M->Option R
 bk:M->Option R
 ct:M->Option R
noncomputable abbrev Es:=(R:Type)->M->Kt R->Option R
def Io(io:List Nat)(σ σ':St):Prop:=∀i∈io,σ'[i]?=σ[i]?
theorem Io.refl{io:List Nat}{σ:St}:Io io σ σ:=fun _ _=>rfl
theorem Io.trans{io:List Nat}{σ sI qO:St}(a:Io io σ sI)(b:Io io sI qO):Io io σ qO:=fun i h=>(b i h).trans (a i h)
theorem Io.set{io:List Nat}{σ:St}{i:Nat}{x:Option V}(h:i∉io):Io io σ (σ.set i x):=fun j hj=>C9 fun z=>h (by rw[z];exact hj)
structure Fr where
 io:List Nat
 vW:Gm
 ro:Nat
structure xu (K:W.Frag) (F:Fr) (pU:Option Gm) (g:G) (P:Fp) (H:Hp) (σ:St) (D:Ends) (Γn:Option Gm) (js:List Nat) (m:M) {R:Type} (k:Kt R) (r:R):Prop where
 nx:∀Γ' m' g' P' σ' H',Γn=some Γ'->k.nx m'=some r->BQ js m m'->Step g P H g' P' H'->Io F.io σ σ'->Rel K g' H' Γ' m' σ' P'->D.nx σ' H'
 rt:∀d m' g' P' Pv σ' v H',k.rt d m'=some r->BQ js m m'->Step g P H g' (fun a=>P' a\/Pv a) H'->Io F.io σ σ'->Rep K g' H' F.ro d v Pv->Rel K g' H' F.vW m' σ' P'->BY P' Pv->D.rt v H'
 bk:∀Γ' m' g' P' σ' H',pU=some Γ'->k.bk m'=some r->BQ js m m'->Step g P H g' P' H'->Io F.io σ σ'->Rel K g' H' Γ' m' σ' P'->D.bk σ' H'
 ct:∀Γ' m' g' P' σ' H',pU=some Γ'->k.ct m'=some r->BQ js m m'->Step g P H g' P' H'->Io F.io σ σ'->Rel K g' H' Γ' m' σ' P'->D.ct σ' H'
def tS(K:W.Frag)(F:Fr)(pU:Option Gm)(Γ:Gm)(Γn:Option Gm)(js:List Nat)(f:Es):TS:=fun D σ H=>∃g m P,Rel K g H Γ m σ P/\∃(R:Type) (k:Kt R) (r:R),f R m k=some r/\xu K F pU g P H σ D Γn js m k r
theorem xu.later{K:W.Frag}{F:Fr}{pU Γn:Option Gm}{g g1:G}{P P1:Fp}{H H1:Hp}{σ sI:St}{D:Ends}{js ks:List Nat}{m m1:M}{R:Type}{k:Kt R}{r:R}(s:Step g P H g1 P1 H1)(i:Io F.io σ sI)(ag:BQ js m m1)(h:xu K F pU g P H σ D Γn (js++ks) m k r):xu K F pU g1 P1 H1 sI D Γn ks m1 k r:=
  ⟨fun Γ' m' g' P' σ' H' e hk a s' i' r'=>h.nx Γ' m' g' P' σ' H' e hk (ag.trans a) (s.trans s') (i.trans i') r',
   fun d m' g' P' Pv σ' v H' hk a s' i' rv r' n=>h.rt d m' g' P' Pv σ' v H' hk (ag.trans a) (s.trans s') (i.trans i') rv r' n,
   fun Γ' m' g' P' σ' H' e hk a s' i' r'=>h.bk Γ' m' g' P' σ' H' e hk (ag.trans a) (s.trans s') (i.trans i') r',
   fun Γ' m' g' P' σ' H' e hk a s' i' r'=>h.ct Γ' m' g' P' σ' H' e hk (ag.trans a) (s.trans s') (i.trans i') r'⟩
def GV:Es:=fun _ m k=>k.nx m
def WT(f g:Es):Es:=fun R m k=>f R m { k with nx:=fun m1=>g R m1 k }
def Jq(c:Ev Bool)(f g:Es):Es:=fun R m k=>c R m fun b m1=>if b=true then f R m1 k else g R m1 k
def YN(f:Ev Dv):Es:=fun R m k=>f R m k.rt
def SY(f:Ev Dv):Es:=fun R m k=>f R m fun _ m1=>k.nx m1
section
variable {X:Cx} {F:Fr} {pU Γn wk:Option Gm} {Γ Γ' ph:Gm} {js js2 yA J:List Nat} {s:G0} {ss rest a b:List G0} {e c:Expr} {pos:Pos} {f f2:Es} {fe:Ev Dv} {t:Ev Bool} {o:Nat}
theorem Ff{K:W.Frag}{D:Ends}{σ:St}{H:Hp}(h:tS K F pU Γ (some Γ) [] GV D σ H):D.nx σ H:=by
 obtain⟨g,m,P,r,R,k,res,e,q⟩:=h;exact q.nx Γ m g P σ H rfl e BQ.refl Step.refl Io.refl r
theorem dw:CP X [] (tS X.K F pU Γ (some Γ) [] GV):=CP.imp EB fun D σ H h=>Ff h
theorem ZR:PS X (.Pass pos) (tS X.K F pU Γ (some Γ) [] GV):=PS.imp VN fun D σ H h=>Ff h
theorem dy{x j pos'}:PS X (.Expr (.Constant (.str x) j pos) pos') (tS X.K F pU Γ (some Γ) [] GV):=PS.imp Zk fun D σ H h=>Ff h
theorem LC(h1:PS X s (tS X.K F pU Γ (some ph) js f))(h2:CP X rest (tS X.K F pU ph Γn js2 f2)):CP X (s::rest) (tS X.K F pU Γ Γn (js++js2) (WT f f2)):=CP.imp (Ct h1 h2) fun D σ H h=>by
 obtain⟨g,m,P,r,R,k,res,e,q⟩:=h;refine⟨g,m,P,r,R,_,res,e,⟨fun Γ' m' g' P' σ' H' e hk ag s' i' r'=>?_,fun d m' g' P' Pv σ' v H' hk ag=>q.rt d m' g' P' Pv σ' v H' hk (ag.mono fun _ z=>C5 _ z),fun Γ' m' g' P' σ' H' e hk ag=>q.bk Γ' m' g' P' σ' H' e hk (ag.mono fun _ z=>C5 _ z),fun Γ' m' g' P' σ' H' e hk ag=>q.ct Γ' m' g' P' σ' H' e hk (ag.mono fun _ z=>C5 _ z)⟩⟩;cases e;exact⟨g',m',P',r',R,k,res,hk,q.later s' i' ag⟩
theorem ZS(h1:PS X s (tS X.K F pU Γ none js f)):CP X (s::rest) (tS X.K F pU Γ none js f):=CP.imp (Ct h1 (u:=fun _ _ _=>False) fun _ _ _ _ _ _ z=>z.elim) fun D σ H h=>by
 obtain⟨g,m,P,r,R,k,res,e,q⟩:=h;exact⟨g,m,P,r,R,k,res,e,(fun _ _ _ _ _ _ e=>by cases e),q.rt,q.bk,q.ct⟩
theorem dv(h1:PS X s (tS X.K F pU Γ Γn js f)):CP X [s] (tS X.K F pU Γ Γn js f):=VM h1
theorem dr(hq:PE X e (tE X.K Γ F.ro F.vW js fe)):PS X (.Return (some e) pos) (tS X.K F pU Γ none js (YN fe)):=PS.imp (Zi hq) fun D σ H h=>by
 obtain⟨g,m,P,r,R,k,res,e,q⟩:=h;exact⟨g,m,P,r,R,_,res,e,fun d m' g' P' Pv v H' hk ag s rv r1 n=>q.rt d m' g' P' Pv σ v H' hk ag s Io.refl rv r1 n⟩
theorem ZV(hq:PE X e (tE X.K Γ o Γ' js fe))(hs:Q4 e none pos.line X.env=pure false):PS X (.Expr e pos) (tS X.K F pU Γ (some Γ') js (SY fe)):=PS.imp (VP hq hs) fun D σ H h=>by
 obtain⟨g,m,P,r,R,k,res,e,q⟩:=h;exact⟨g,m,P,r,R,_,res,e,fun d m' g' P' Pv v H' hk ag s rv r1 n=>q.nx Γ' m' g' P' σ H' rfl hk ag (s.less fun _ q=>.inl q) Io.refl r1⟩
theorem ik(hc:PT X c (tT X.K Γ ph js t))(ha:CP X a (tS X.K F pU ph Γn js2 f))(hb:CP X b (tS X.K F pU ph Γn yA f2)):PS X (.If c a b pos) (tS X.K F pU Γ Γn (js++(js2++yA)) (Jq t f f2)):=PS.imp (Xv hc ha hb) fun D σ H h=>by
 obtain⟨g,m,P,r,R,k,res,e,q⟩:=h;refine⟨g,m,P,r,R,_,res,e,fun b m1 g1 P1 H1 hk ag s r1=>?_⟩;have q2:=q.later s Io.refl ag;have mo:∀(ks:List Nat),(∀i∈ks,i∈js2++yA)->xu X.K F pU g1 P1 H1 σ D Γn ks m1 k res:=fun ks hks =>
  ⟨fun Γ' m' g' P' σ' H' e hk a=>q2.nx Γ' m' g' P' σ' H' e hk (a.mono hks),fun d m' g' P' Pv σ' v H' hk a=>q2.rt d m' g' P' Pv σ' v H' hk (a.mono hks),fun Γ' m' g' P' σ' H' e hk a=>q2.bk Γ' m' g' P' σ' H' e hk (a.mono hks),fun Γ' m' g' P' σ' H' e hk a=>q2.ct Γ' m' g' P' σ' H' e hk (a.mono hks)⟩
 cases b with
 | true=>rw[if_pos rfl] at hk;show(if true=true then _ else _);rw[if_pos rfl];exact⟨g1,m1,P1,r1,R,k,res,hk,mo js2 fun _ z=>C5 _ z⟩
 | false=>rw[if_neg C6] at hk;show(if false=true then _ else _);rw[if_neg C6];exact⟨g1,m1,P1,r1,R,k,res,hk,mo yA fun _ z=>B6 _ z⟩
def Hf:Option Gm->Option Gm->Bool
 | some a,some b=>BL a b
 | _,none=>true
 | none,some _=>false
theorem LB(h:CP X ss (tS X.K F pU Γ Γn js f))(hw:Hf wk Γn=true):CP X ss (tS X.K F pU Γ wk js f):=CP.imp h fun D σ H h=>by
 obtain⟨g,m,P,r,R,k,res,e,q⟩:=h;refine⟨g,m,P,r,R,k,res,e,fun Γ' m' g' P' σ' H' e hk ag s' i' r'=>?_,q.rt,q.bk,q.ct⟩;subst e;cases wk with
 | none=>cases hw
 | some Γ3 =>
  obtain⟨g2,P2,s2,r2⟩:=r'.weaken (by unfold Hf at hw;exact hw);exact q.nx Γ3 m' g2 P2 σ' H' rfl hk ag (s'.trans s2) i' r2
def gB(J:List Nat)(f:Es):Es:=fun R m k=>(f (EN J) m ⟨fun m'=>some (Af J m'),fun _ _=>none,fun _=>none,fun _=>none⟩).bind fun t=>k.nx (An J m t)
theorem ah{K:W.Frag}{D:Ends}{σ:St}{H:Hp}(hj:∀i o,Γ'[i]?=some (some o)->i∈J\/i∉js)(hs:∀i∈J,i∈js)(h:tS K F pU Γ (some Γ') js (gB J f) D σ H):tS K F pU Γ (some Γ') js f D σ H:=by
 obtain⟨g,m,P,r,R,k,res,e,q⟩:=h;obtain⟨t,e1,e2⟩:=pR e;refine⟨g,m,P,r,_,_,t,e1,⟨fun ph m' g' P' σ' H' e hk ag s' i' r'=>?_,(fun _ _ _ _ _ _ _ _ hk=>by cases hk),(fun _ _ _ _ _ _ _ hk=>by cases hk),fun _ _ _ _ _ _ _ hk=>by cases hk⟩⟩;cases e;cases hk;exact q.nx Γ' _ g' P' σ' H' rfl e2 ((AU J m _).mono hs) s' i' (r'.join ag hj)
end
noncomputable abbrev Tg:=(R:Type)->Dv->M->(M->Option R)->Option R
def Ag(js:List Nat)(σ σ':St):Prop:=σ'.length=σ.length/\∀i,i∉js->σ'[i]?=σ[i]?
theorem Ag.io{js io:List Nat}{σ σ':St}(h:Ag js σ σ')(d:∀i∈io,i∉js):Io io σ σ':=fun i hi=>h.2 i (d i hi)
theorem Ag.trans{js ks:List Nat}{σ sI qO:St}(a:Ag js σ sI)(b:Ag ks sI qO):Ag (js++ks) σ qO:=⟨b.1.trans a.1,fun i h=>(b.2 i fun z=>h (B6 _ z)).trans (a.2 i fun z=>h (C5 _ z))⟩
theorem Ag.set{σ:St}{i:Nat}{x:Option V}:Ag [i] σ (σ.set i x):=⟨C8 ..,fun j h=>C9 fun z=>h (by rw[z];exact M7 _)⟩
def Kb(K:W.Frag)(Γ Γ':Gm)(js:List Nat)(tg:TG)(f:Tg):Prop:=∀(g:G) (m:M) (P:Fp) (d:Dv) (v:V) (σ:St) (H:Hp) (R:Type) (k:M->Option R) (r:R) (Q:St->Hp->Prop),Rel K g H Γ m σ P->Rep K g H 0 d v pT->f R d m k=some r ->
 (∀m' P' σ',k m'=some r->BQ js m m'->(∀a,P' a->P a)->Ag js σ σ'->Rel K g H Γ' m' σ' P'->Q σ' H)->tg v σ H Q
def dP(i:Nat):Tg:=fun _ d m k=>k (m.set i d)
theorem Uh{K:W.Frag}{Γ:Gm}{i:Nat}(hi:i < Γ.length):Kb K Γ (Γ.set i (some 0)) [i] (CM i) (dP i):=fun g m P d v σ H R k r Q rl rv e q=>by
 obtain⟨P2,r2,s⟩:=rl.qt hi rv fun _ z=>z.elim
 exact q _ P2 _ e BQ.set (fun a z=>(s a z).elim id D2) Ag.set r2
noncomputable def ZD:(J:List Nat)->List Dv->Option (EN J)
 | [],[]=>some ()
 | [_],[d]=>some d
 | _::j::J,d::ds=>(ZD (j::J) ds).bind fun t=>some (d,t)
 | _,_=>none
def XW(J:List Nat)(d:Dv):Option (EN J):=match d with
 | .tup ds=>ZD J ds
 | .lst ds=>ZD J ds
 | _=>none
def jq(J:List Nat):Tg:=fun _ d m k=>(XW J d).bind fun t=>k (An J m t)
def Cw:List Nat->Iv
 | []=>Ji
 | i::J=>CN (CM i) (Cw J)
def Ql(Γ:Gm)(J:List Nat)(x:Option Nat):Gm:=J.foldl (fun Γ i=>Γ.set i x) Γ
theorem Qk(J:List Nat)(x:Option Nat):∀Γ:Gm,(Ql Γ J x).length=Γ.length:=by
 induction J with
 | nil=>intro Γ;rfl
 | cons i J ih=>intro Γ;show(Ql (Γ.set i x) J x).length=_;rw[ih,C8]
theorem HZ{K:W.Frag}:∀(J:List Nat) {Γ:Gm} {g:G} {m:M} {P:Fp} {ds:List Dv} {vs:List V} {σ:St} {H:Hp} {t:EN J} {Q:St->Hp->Prop},(∀i∈J,i < Γ.length)->Rel K g H Γ m σ P->AA K g H 0 ds vs pT->ZD J ds=some t ->
    (∀P' σ',(∀a,P' a->P a)->Ag J σ σ'->Rel K g H (Ql Γ J (some 0)) (An J m t) σ' P'->Q σ' H)->ds.length=J.length/\Cw J vs σ H Q
  | [],Γ,g,m,P,ds,vs,σ,H,t,Q,hJ,r,rv,e,q=>by
    cases ds with
    | nil =>
      unfold AA at rv;exact⟨rfl,rv.1,q P σ (fun _ z=>z) ⟨rfl,fun _ _=>rfl⟩ r⟩
    | cons d ds=>cases e
  | [i],Γ,g,m,P,ds,vs,σ,H,t,Q,hJ,r,rv,e,q=>by
    match ds,e with
    | [d],e =>
      cases e;unfold AA at rv;obtain⟨v,vr,P1,P2,rfl,h1,h2,_,h4⟩:=rv;unfold AA at h2;obtain⟨P3,r3,s⟩:=r.qt (hJ i B8) h1.z fun _ z=>z.elim
      exact⟨rfl,v,vr,rfl,h2.1,q P3 _ (fun a z=>(s a z).elim id D2) Ag.set r3⟩
    | [],e=>cases e
    | _::_::_,e=>cases e
  | i::j::J,Γ,g,m,P,ds,vs,σ,H,t,Q,hJ,r,rv,e,q=>by
    match ds,e with
    | [],e=>cases e
    | d::ds,e =>
      obtain⟨t',e1,e2⟩:=pR (show(ZD (j::J) ds).bind (fun t=>some (d,t))=some t from e);cases e2;unfold AA at rv;obtain⟨v,vr,P1,P2,rfl,h1,h2,_,h4⟩:=rv;obtain⟨P3,r3,s⟩:=r.qt (hJ i B8) h1.z fun _ z=>z.elim
      have s':∀a,P3 a->P a:=fun a z=>(s a z).elim id D2
      have:=HZ (j::J) (Q:=Q) (fun k hk=>by rw[C8];exact hJ k (B5 _ hk)) r3 h2.z e1 fun P' σ' sp ag r'=>q P' σ' (fun a z=>s' a (sp a z)) (Ag.set.trans ag) r'
      exact⟨by simp[this.1],v,vr,rfl,this.2⟩
abbrev SA(K:W.Frag)(n:Nat)(t:Iv):TG:=fun v σ H Q=>aw K n t v σ H Q\/ax n t v σ H Q
theorem QJ{K:W.Frag}{Γ:Gm}{J:List Nat}(hJ:∀i∈J,i < Γ.length):Kb K Γ (Ql Γ J (some 0)) J (SA K J.length (Cw J)) (jq J):=fun g m P d v σ H R k r Q rl rv e q=>by
 obtain⟨t,e1,e2⟩:=pR e;have go:∀{ds vs},AA K g H 0 ds vs pT->ZD J ds=some t->ds.length=J.length/\Cw J vs σ H Q:=fun h1 h2=>HZ J hJ rl h1 h2 fun P' σ' sp ag r'=>q _ P' σ' e2 (AU J m t) sp ag r'
 cases d with
 | tup ds =>
  unfold Rep at rv;obtain⟨a,vs,rfl,h1,h2⟩:=rv;obtain⟨l,z⟩:=go h2 e1;exact .inl ⟨a,vs,rfl,.inl (.inl h1),by rw[<- h2.len];exact l,z⟩
 | lst ds =>
  unfold Rep at rv;obtain⟨a,vs,P',rfl,h1,h2,_⟩:=rv;obtain⟨l,z⟩:=go h2.z e1;exact .inr ⟨a,vs,rfl,h1.1,by rw[<- h2.len];exact l,z⟩
 | _=>cases e1
theorem PG.or{X:Cx}{e:Expr}{t u:TG}(h:PG X e t)(k:PG X e u):PG X e fun v σ H Q=>t v σ H Q\/u v σ H Q:=fun pins s σ H v w Q I r q=>q.elim (h pins s σ H v w Q I r) (k pins s σ H v w Q I r)
theorem Rx{js:List Nat}{t u:TG}(h:Pn js t)(k:Pn js u):Pn js fun v σ H Q=>t v σ H Q\/u v σ H Q:=fun x σ H Q q=>q.elim (fun q=>.inl (h x σ H Q q)) fun q=>.inr (k x σ H Q q)
theorem Dh{js:List Nat}:∀(J:List Nat),(∀i∈J,i∈js)->Ke js (Cw J)
 | [],_=>Jh
 | i::J,h=>Oi (h i B8) (Dh J fun k hk=>h k (B5 _ hk))
def jo(f1 f2:Tg):Tg:=fun R d m k=>(XW [0,1] d).bind fun t=>f1 R t.1 m fun m1=>f2 R t.2 m1 k
theorem Ug{K:W.Frag}{Γ qA ph:Gm}{J1 J2:List Nat}{g1 g2:TG}{f1 f2:Tg}(h1:Kb K Γ qA J1 g1 f1)(h2:Kb K qA ph J2 g2 f2):Kb K Γ ph (J1++J2) (SA K 2 (CN g1 (CN g2 Ji))) (jo f1 f2):=fun g m P d v σ H R k r Q rl rv e q=>by
 obtain⟨t,e1,e2⟩:=pR e;have go:∀{ds vs},AA K g H 0 ds vs pT->ZD [0,1] ds=some t->vs.length=2/\CN g1 (CN g2 Ji) vs σ H Q:=fun{ds vs} hr et=>by
  match ds,et with
  | [x,y],et =>
   cases et;unfold AA at hr;obtain⟨vx,r1,P1,P2,rfl,hx,hr,_⟩:=hr;unfold AA at hr;obtain⟨vy,r2,P3,P4,rfl,hy,hr,_⟩:=hr;unfold AA at hr;obtain⟨rfl,_⟩:=hr;exact⟨rfl,vx,[vy],rfl,h1 g m P x vx σ H R _ r _ rl hx.z e2 fun m1 P1 sI k1 a1 p1 s1 r1=>⟨vy,[],rfl,h2 g m1 P1 y vy sI H R k r _ r1 hy.z k1 fun m2 P2 qO k2 a2 p2 s2 r2=>⟨rfl,q m2 P2 qO k2 (a1.trans a2) (fun a z=>p1 a (p2 a z)) (s1.trans s2) r2⟩⟩⟩
  | [],et=>cases et
  | [_],et=>cases et
  | _::_::_::_,et=>cases et
 cases d with
 | tup ds =>
  unfold Rep at rv;obtain⟨a,vs,rfl,h1,h2⟩:=rv;obtain⟨l,z⟩:=go h2 e1;exact .inl ⟨a,vs,rfl,.inl (.inl h1),l,z⟩
 | lst ds =>
  unfold Rep at rv;obtain⟨a,vs,P',rfl,h1,h2,_⟩:=rv;obtain⟨l,z⟩:=go h2.z e1;exact .inr ⟨a,vs,rfl,h1.1,l,z⟩
 | _=>cases e1
def UL(t:TG):Prop:=∀v σ H (Q Q':St->Hp->Prop),t v σ H Q->(∀σ H,Q σ H->Q' σ H)->t v σ H Q'
def IA(t:Iv):Prop:=∀v σ H (Q Q':St->Hp->Prop),t v σ H Q->(∀σ H,Q σ H->Q' σ H)->t v σ H Q'
theorem Ha{i:Nat}:UL (CM i):=fun _ _ _ _ _ h q=>q _ _ h
theorem GJ:IA Ji:=fun _ _ _ _ _ h q=>⟨h.1,q _ _ h.2⟩
theorem Hb{t:TG}{u:Iv}(ht:UL t)(hu:IA u):IA (CN t u):=fun _ _ _ _ _ ⟨v,r,e,h⟩ q=>⟨v,r,e,ht _ _ _ _ _ h fun _ _ h=>hu _ _ _ _ _ h q⟩
theorem GK:∀J:List Nat,IA (Cw J)
 | []=>GJ
 | _::J=>Hb Ha (GK J)
theorem Rg{K:W.Frag}{n:Nat}{u:Iv}(hu:IA u):UL (SA K n u):=fun _ _ _ _ _ h q=>h.elim (fun⟨a,xs,e,s,l,h⟩=>.inl ⟨a,xs,e,s,l,hu _ _ _ _ _ h q⟩) fun⟨a,xs,e,s,l,h⟩=>.inr ⟨a,xs,e,s,l,hu _ _ _ _ _ h q⟩
theorem GQ{js:List Nat}{t:TG}{u:Iv}(mt:UL t)(mu:IA u)(ht:Pn js t)(hu:Ke js u):Ke js (CN t u):=fun x σ H Q ⟨v,r,e,q⟩=>⟨v,r,e,mt _ _ _ _ _ (ht v σ H _ q) fun sI H1 ⟨⟨l1,f1⟩,q1⟩=>mu _ _ _ _ _ (hu r sI H1 _ q1) fun qO H2 ⟨⟨l2,f2⟩,q2⟩=>⟨⟨l2.trans l1,fun i hi=>(f2 i hi).trans (f1 i hi)⟩,q2⟩⟩
def Hl(f:Ev Dv)(tg:Tg):Es:=fun R m k=>f R m fun d m1=>tg R d m1 k.nx
section
variable {X:Cx} {F:Fr} {pU:Option Gm} {Γ Γ' ph:Gm} {js js2:List Nat} {e tg:Expr} {pos pos':Pos} {fe:Ev Dv} {g:TG} {ft:Tg} {i o:Nat} {x:Str}
theorem XI{K:W.Frag}(ht:Kb K ph Γ' js2 g ft)(qk:∀i∈F.io,i∉js2){D:Ends}{σ:St}{H:Hp}(h:tS K F pU Γ (some Γ') (js++js2) (Hl fe ft) D σ H):JG (tE K Γ 0 ph js fe) g D σ H:=by
 obtain⟨g0,m,P,r,R,k,res,e,q⟩:=h;refine⟨g0,m,P,r,R,_,res,e,fun d m1 g' P' Pv v H' hk ag s rv r1 n=>ht g' m1 P' d v σ H' R k.nx res _ r1 rv.z hk fun m' P2 qO rT sA s2 i r2=>?_⟩;exact q.nx Γ' m' g' P2 qO H' rfl rT (ag.trans sA) (s.less fun a z=>.inl (s2 a z)) (i.io qk) r2
theorem Me{K:W.Frag}(hi:i < ph.length)(qk:i∉F.io){D:Ends}{σ:St}{H:Hp}(h:tS K F pU Γ (some (ph.set i (some o))) (js++[i]) (Hl fe (dP i)) D σ H):JG (tE K Γ o ph js fe) (CM i) D σ H:=by
 obtain⟨g0,m,P,r,R,k,res,e,q⟩:=h;refine⟨g0,m,P,r,R,_,res,e,fun d m1 g' P' Pv v H' hk ag s rv r1 n=>?_⟩;obtain⟨P2,r2,s2⟩:=r1.qt hi rv fun a q z=>n a z q
 exact q.nx _ _ g' P2 _ H' rfl hk (ag.trans BQ.set) (s.less fun a z=>s2 a z) (Io.set qk) r2
theorem dq(hN:X.N.Nodup)(xT:X.N[i]?=some x)(hx:Loc X.env.scope x)(qk:i∉F.io)(hi:i < ph.length)(he:PE X e (tE X.K Γ o ph js fe))(hs:Q4 e (some (.Name x pos')) pos.line X.env=pure false)(hf:X.fn x=true\/X.env.scope.names.lookup x=some .local) :
    PS X (.Assign [.Name x pos'] e pos) (tS X.K F pU Γ (some (ph.set i (some o))) (js++[i]) (Hl fe (dP i))):=PS.imp (RE hN xT hx he hs hf) fun _ _ _ h=>Me hi qk h
theorem dz(he:PE X e (tE X.K Γ 0 ph js fe))(hg:PG X tg g)(ht:Kb X.K ph Γ' js2 g ft)(qk:∀i∈F.io,i∉js2)(hs:V7 [tg] e pos.line X.env=pure false)(hw:S3 [tg] e X.env=pure none)
    (h1:(K3 [tg] X.env).map (·.2)=[T9 tg X.env]):PS X (.Assign [tg] e pos) (tS X.K F pU Γ (some Γ') (js++js2) (Hl fe ft)):=PS.imp (RG he hg hs hw h1) fun _ _ _ h=>XI ht qk h
end
def Gg(g:G)(H:Hp)(g2:G)(H2:Hp):Prop:=∃P P',Step g P H g2 P' H2/\pd g H P
def Yl(K:W.Frag)(J:It)(ds:List Dv)(g:G)(H:Hp):Prop:=∀g2 H2,Gg g H g2 H2 ->
 (∀i d,ds[i]?=some d->J.go i H2/\∀x H3,J.yK i H2 x H3->Ak K g2 H2 0 d x H3)/\∀i,ds.length<=i->J.stop i H2
def tI(K:W.Frag)(Γ Γ':Gm)(js:List Nat)(f:Ev (List Dv)):TI:=fun σ H Q=>∃g m P,Rel K g H Γ m σ P/\∃(R:Type) (k:List Dv->M->Option R) (r:R),f R m k=some r /\
 ∀ds m' g' P' H' J,k ds m'=some r->BQ js m m'->Step g P H g' P' H'->Rel K g' H' Γ' m' σ P'->Yl K J ds g' H'->Q J H'
theorem PI.imp{X:Cx}{tg e:Expr}{t t':TI}(h:PI X tg e t)(k:∀σ H R,t' σ H R->t σ H R):PI X tg e t':=fun pins s σ H R I q=>h pins s σ H R I (k σ H R q)
theorem Ak.old{K:W.Frag}{g:G}{H:Hp}{o:Nat}{d:Dv}{v:V}(h:Rep K g H o d v pT):Ak K g H o d v H:=⟨fun _ _ q=>q,pT,h,fun _ z=>z.elim⟩
theorem Gg.rep{K:W.Frag}{g g2:G}{H H2:Hp}{d:Dv}{v:V}(s:Gg g H g2 H2)(h:Rep K g H 0 d v pT):Rep K g2 H2 0 d v pT:=by
 obtain⟨P,P',st,ok⟩:=s;exact h.held st ok fun _ z=>z.elim
section
variable {τ γ ρ:Type}
inductive Lp (τ γ ρ:Type) where
 | go (c:γ) | bk (c:γ) | rt (d:τ) (r:ρ)
inductive Rs (τ γ ρ:Type) where
 | go (c:γ) | rt (d:τ) (r:ρ)
noncomputable def Rs.el{δ:Type}(x:Rs τ γ ρ)(f:γ->δ)(h:τ->ρ->δ):δ:=match x with | .go c=>f c | .rt d r=>h d r
noncomputable def FJ(g:Dv->γ->Option γ):List Dv->γ->Option γ
 | [],c=>some c
 | x::xs,c=>(g x c).bind fun c1=>FJ g xs c1
noncomputable def GS(g:Dv->γ->Option (Lp τ γ ρ)):List Dv->γ->Option (Rs τ γ ρ)
 | [],c=>some (.go c)
 | x::xs,c=>(g x c).bind fun l=>match l with
  | .go c1=>GS g xs c1
  | .bk c1=>some (.go c1)
  | .rt d r=>some (.rt d r)
noncomputable def iT(t:γ->Option Bool)(g:γ->Option γ):Nat->γ->Option γ
 | 0,_=>none
 | n+1,c=>(t c).bind fun b=>if b=true then(g c).bind (iT t g n) else some c
end
def kC(J:List Nat):Kt (EN J):=⟨fun m'=>some (Af J m'),fun _ _=>none,fun _=>none,fun m'=>some (Af J m')⟩
def kE(J Jr:List Nat):Kt (Lp Dv (EN J) (EN Jr)):=⟨fun m'=>some (.go (Af J m')),fun d m'=>some (.rt d (Af Jr m')),fun m'=>some (.bk (Af J m')),fun m'=>some (.go (Af J m'))⟩
def SX(src:Ev (List Dv))(tg:Tg)(J:List Nat)(b:Es):Es:=fun R m k=>src R m fun ds m1 =>
 (FJ (fun d t=>tg (EN J) d (An J m1 t) fun m2=>b (EN J) m2 (kC J)) ds (Af J m1)).bind fun t=>k.nx (An J m1 t)
def SW(src:Ev (List Dv))(tg:Tg)(J Jr:List Nat)(b:Es):Es:=fun R m k=>src R m fun ds m1 =>
 (GS (fun d t=>tg (Lp Dv (EN J) (EN Jr)) d (An J m1 t) fun m2=>b (Lp Dv (EN J) (EN Jr)) m2 (kE J Jr)) ds (Af J m1)).bind fun x=>x.el (fun t=>k.nx (An J m1 t)) fun d t=>k.rt d (An Jr m1 t)
theorem La{J:List Nat}{Γ:Gm}{K:W.Frag}{g:G}{H:Hp}{m:M}{σ:St}{P:Fp}(r:Rel K g H Γ m σ P):Rel K g H Γ (An J m (Af J m)) σ P:=r.join (js:=[]) BQ.refl fun _ _ _=>.inr (by simp)
theorem NM{K:W.Frag}{F:Fr}{sW:Option Gm}{Γ rJ:Gm}{uG:Option Gm}{jt jb:List Nat}{g:TG}{ft:Tg}{b:Es}{J Jr:List Nat}(ht:Kb K Γ rJ jt g ft)(qk:∀i∈F.io,i∉jt)(hw:Hf (some Γ) uG=true)
    (hJ:J=BJ Γ (jt++jb)) (xY:Jr=BJ F.vW (jt++jb)) {ds:List Dv} {m1:M} {D:Ends} {σ:St} {H1:Hp} {g1:G} {P1:Fp} {I:It} {R:Type} {k:Kt R} {res:R}
    (r1:Rel K g1 H1 Γ m1 σ P1) (yl:Yl K I ds g1 H1) (run:List Dv->EN J->Prop) (h0:run ds (Af J m1)) (hn:∀t,run [] t->k.nx (An J m1 t)=some res)
    (hc:∀d ds t,run (d::ds) t->∃(B:Type) (κ:Kt B) (r:B),ft B d (An J m1 t) (fun m2=>b B m2 κ)=some r/\(∀m',κ.nx m'=some r->run ds (Af J m'))/\(∀m',κ.ct m'=some r->run ds (Af J m')) /\
      (∀m',κ.bk m'=some r->k.nx (An J m1 (Af J m'))=some res)/\∀d m',κ.rt d m'=some r->k.rt d (An Jr m1 (Af Jr m'))=some res)
    (q:xu K F sW g1 P1 H1 σ D (some Γ) (jt++jb) m1 k res) :
    ∃W:Nat->Nat->St->Hp->Prop,(∃m,W 0 m σ H1)/\∀i m σ H,W i m σ H ->
      (I.stop i H/\D.nx σ H)\/(I.go i H/\∃N:St->Hp->Prop,(∀σ' H',N σ' H'->∃m',m' < m/\W (i+1) m' σ' H')/\∀x H',I.yK i H x H'->g x σ H' fun qO H2=>tS K F (some Γ) rJ uG jb b { D with nx:=N,ct:=N,bk:=D.nx } qO H2):=by
  have sub:∀i∈J,i∈jt++jb:=fun i h=>Az (hJ▸h)
  have wq:∀i∈Jr,i∈jt++jb:=fun i h=>Az (xY▸h)
  refine⟨fun i j σ' H'=>j=ds.length - i/\i<=ds.length/\∃g2 t P2,Step g1 P1 H1 g2 P2 H'/\Io F.io σ σ'/\Rel K g2 H' Γ (An J m1 t) σ' P2/\run (ds.drop i) t,⟨ds.length,by simp,M4 _,g1,Af J m1,P1,Step.refl,Io.refl,La r1,by simpa using h0⟩,?_⟩;rintro i j qO H2 ⟨rfl,hi,g2,t,P2,s2,i2,r2,e2⟩;have st:Gg g1 H1 g2 H2:=⟨P1,P2,s2,r1.pZ⟩
  by_cases sQ:i < ds.length
  · rw[R7 sQ] at e2;obtain⟨B,κ,rB,e3,knx,kct,kbk,krt⟩:=hc _ _ _ e2;obtain⟨go,yy⟩:=(yl g2 H2 st).1 i ds[i] (A4 sQ);refine .inr ⟨go,fun σ' H'=>∃g5 P5 m',Step g1 P1 H1 g5 P5 H'/\Io F.io σ σ'/\Rel K g5 H' Γ m' σ' P5/\BQ (jt++jb) m1 m'/\run (ds.drop (i+1)) (Af J m'),?_,fun x H3 hy=>?_⟩
    · rintro σ' H' ⟨g5,P5,m',s5,i5,r5,ag,hr⟩;exact⟨ds.length - (i+1),by omega,rfl,sQ,g5,Af J m',P5,s5,i5,r5.join ag fun i o h=>hJ▸BS h,hr⟩
    · obtain⟨Pv,s3,h3,r3,n3⟩:=Ak.go s2 r2 (yy x H3 hy);refine ht g2 _ P2 ds[i] x qO H3 B _ rB _ r3 h3.z e3 fun m2 P' σ' hk ag sp ip r'=>?_
      have s4:Step g1 P1 H1 g2 P' H3:=s3.less fun a z=>.inl (sp a z)
      have i4:=i2.trans (ip.io qk);have a4:BQ (jt++jb) m1 m2:=((AU J m1 t).mono sub).trans ag |>.mono fun i z=>(D4.mp z).elim id fun z=>C5 _ z
      have a5:∀{m'},BQ jb m2 m'->BQ (jt++jb) m1 m':=fun h=>(a4.trans h).mono fun i z=>(D4.mp z).elim id fun z=>B6 _ z
      refine⟨g2,m2,P',r',B,κ,rB,hk,⟨fun Γ' m' g' uP rH H' e hk sC s' i' rr=>?_,fun d m' g' uP Pv rH v H' hk sC s' i' rv rr n=>?_,fun Γ' m' g' uP rH H' e hk sC s' i' rr=>?_,fun Γ' m' g' uP rH H' e hk sC s' i' rr=>?_⟩⟩
      · subst e;obtain⟨g6,P6,s6,r6⟩:=rr.weaken (by unfold Hf at hw;exact hw);exact⟨g6,P6,m',(s4.trans s').trans s6,i4.trans i',r6,a5 sC,knx m' hk⟩
      · exact q.rt d _ g' uP Pv rH v H' (krt d m' hk) ((AU Jr m1 _).mono wq) (s4.trans s') (i4.trans i') rv (rr.join (a5 sC) fun i o h=>xY▸BS h) n
      · cases e;exact q.nx Γ _ g' uP rH H' rfl (kbk m' hk) ((AU J m1 _).mono sub) (s4.trans s') (i4.trans i') (rr.join (a5 sC) fun i o h=>hJ▸BS h)
      · cases e;exact⟨g',uP,m',s4.trans s',i4.trans i',rr,a5 sC,kct m' hk⟩
  · have ei:i=ds.length:=by omega
    subst ei;rw[nW] at e2;exact .inl ⟨(yl g2 H2 st).2 _ (B9 _),q.nx Γ _ g2 P2 qO H2 rfl (hn t e2) ((AU J m1 _).mono sub) s2 i2 r2⟩
section
variable {X:Cx} {F:Fr} {sW:Option Gm} {Γ qA ph rJ:Gm} {uG:Option Gm} {js jt jb J Jr:List Nat} {tg iter:Expr} {body:List G0} {src:Ev (List Dv)} {g:TG} {ft:Tg} {b:Es} {pos:Pos}
theorem Gg.pre{g g2 g3:G}{H H3:Hp}{P P2:Fp}(s:Step g P H g2 P2 H)(ok:pd g H P)(st:Gg g2 H g3 H3):Gg g H g3 H3:=by
 obtain⟨P3,P3',s3,ok3⟩:=st;exact⟨fun a=>P a\/P3 a,P3',(s.frame (R:=P3)).trans (s3.sub (fun _ z=>.inr z) fun _ z=>z),ok.or fun a z=>⟨(ok3 a z).1,fun w=>(ok3 a z).2 (s.zm a w)⟩⟩
theorem Ua{K:W.Frag}{σ:St}{H:Hp}{Q:It->Hp->Prop}(hw:BL ph qA=true)(h:tI K Γ ph js src σ H Q):tI K Γ qA js src σ H Q:=by
 obtain⟨g,m,P,r,R,k,res,e,q⟩:=h;refine⟨g,m,P,r,R,k,res,e,fun ds m' g' P' H' J hk ag s r1 yl=>?_⟩;obtain⟨g2,P2,s2,r2⟩:=r1.weaken hw;exact q ds m' g2 P2 H' J hk ag (s.trans s2) r2 fun g3 H3 st=>yl g3 H3 (st.pre s2 r1.pZ)
theorem ZU(hp:g7 (C3 X.prog X.w) X.A X.env X.xe)(hc:X.calm=true)(hi:PI X tg iter (tI X.K Γ qA js src))(hg:PG X tg g)(ht:Kb X.K qA rJ jt g ft)(qk:∀i∈F.io,i∉jt)(hb:CP X body (tS X.K F (some qA) rJ uG jb b))(hw:Hf (some qA) uG=true)(hJ:J=BJ qA (jt++jb))
    (hs:∀x,M6 iter X.env x=pure x):PS X (.For tg iter body [] pos) (tS X.K F sW Γ (some qA) (js++(jt++jb)) (SX src ft J b)):=PS.imp (RF hp hc hi hg hb hs) fun D σ H h=>by
  obtain⟨g0,m,P,r,R,k,res,e,q⟩:=h;refine⟨g0,m,P,r,R,_,res,e,fun ds m1 g1 P1 H1 I hk ag s r1 yl=>?_⟩;obtain⟨t,e1,e2⟩:=pR hk;refine NM (Jr:=BJ F.vW (jt++jb)) ht qk hw hJ rfl r1 yl (fun ds t0=>FJ _ ds t0=some t) e1 (fun t0 h=>?_) (fun d ds t0 h=>?_) (q.later s Io.refl ag)
  · cases h;exact e2
  · obtain⟨t1,h1,h2⟩:=pR h;refine⟨EN J,kC J,t1,h1,fun m' hk=>?_,fun m' hk=>?_,(fun m' hk=>by cases hk),fun d m' hk=>by cases hk⟩
    · cases hk;exact h2
    · cases hk;exact h2
theorem ZT(hp:g7 (C3 X.prog X.w) X.A X.env X.xe)(hc:X.calm=true)(hi:PI X tg iter (tI X.K Γ qA js src))(hg:PG X tg g)(ht:Kb X.K qA rJ jt g ft)(qk:∀i∈F.io,i∉jt)(hb:CP X body (tS X.K F (some qA) rJ uG jb b))(hw:Hf (some qA) uG=true)(hJ:J=BJ qA (jt++jb))(xY:Jr=BJ F.vW (jt++jb))
    (hs:∀x,M6 iter X.env x=pure x):PS X (.For tg iter body [] pos) (tS X.K F sW Γ (some qA) (js++(jt++jb)) (SW src ft J Jr b)):=PS.imp (RF hp hc hi hg hb hs) fun D σ H h=>by
  obtain⟨g0,m,P,r,R,k,res,e,q⟩:=h;refine⟨g0,m,P,r,R,_,res,e,fun ds m1 g1 P1 H1 I hk ag s r1 yl=>?_⟩;obtain⟨x,e1,e2⟩:=pR hk;refine NM ht qk hw hJ xY r1 yl (fun ds t0=>GS _ ds t0=some x) e1 (fun t0 h=>?_) (fun d ds t0 h=>?_) (q.later s Io.refl ag)
  · cases h;exact e2
  · obtain⟨l,h1,h2⟩:=pR h;refine⟨_,kE J Jr,l,h1,fun m' hk=>?_,fun m' hk=>?_,fun m' hk=>?_,fun d m' hk=>?_⟩
    · cases hk;exact h2
    · cases hk;exact h2
    · cases hk;cases h2;exact e2
    · cases hk;cases h2;exact e2
end
def fu(n:Nat)(c:Ev Bool)(J:List Nat)(b:Es):Es:=fun R m k =>
 (iT (fun t=>c Bool (An J m t) fun b _=>some b) (fun t=>b (EN J) (An J m t) (kC J)) n (Af J m)).bind fun t=>k.nx (An J m t)
theorem Yr{K:W.Frag}{F:Fr}{sW:Option Gm}{Γ uH:Gm}{uG:Option Gm}{jb:List Nat}{c:Ev Bool}{b:Es}{J Jr:List Nat}(ur:BL Γ uH=true)(hw:Hf (some Γ) uG=true)
    (hJ:J=BJ Γ jb) (xY:Jr=BJ F.vW jb) {m1:M} {D:Ends} {σ:St} {H1:Hp} {g1:G} {P1:Fp} {R:Type} {k:Kt R} {res:R}
    (r1:Rel K g1 H1 Γ m1 σ P1) (run:Nat->EN J->Prop) {n:Nat} (h0:run n (Af J m1))
    (hc:∀n t,run n t->∃bb,c Bool (An J m1 t) (fun b _=>some b)=some bb/\if bb=true then ∃n',n' < n/\∃(B:Type) (κ:Kt B) (r:B),b B (An J m1 t) κ=some r/\(∀m',κ.nx m'=some r->run n' (Af J m'))/\(∀m',κ.ct m'=some r->run n' (Af J m')) /\
      (∀m',κ.bk m'=some r->k.nx (An J m1 (Af J m'))=some res)/\(∀d m',κ.rt d m'=some r->k.rt d (An Jr m1 (Af Jr m'))=some res) else k.nx (An J m1 t)=some res)
    (q:xu K F sW g1 P1 H1 σ D (some Γ) jb m1 k res):QK (tT K Γ uH [] c) (tS K F (some Γ) Γ uG jb b) D σ H1:=by
  have sub:∀i∈J,i∈jb:=fun i h=>Az (hJ▸h)
  have wq:∀i∈Jr,i∈jb:=fun i h=>Az (xY▸h)
  refine⟨fun n σ' H'=>∃g2 t P2,Step g1 P1 H1 g2 P2 H'/\Io F.io σ σ'/\Rel K g2 H' Γ (An J m1 t) σ' P2/\run n t,⟨n,g1,Af J m1,P1,Step.refl,Io.refl,La r1,h0⟩,?_⟩;rintro n' qO H2 ⟨g2,t,P2,s2,i2,r2,e2⟩;obtain⟨bb,e3,e4⟩:=hc n' t e2;refine⟨g2,_,P2,r2,Bool,_,bb,e3,fun b' m' g3 P3 H3 hk ag s3 r3=>?_⟩;cases hk;obtain⟨g4,P4,s4,r4⟩:=r3.weaken ur;have r5:Rel K g4 H3 Γ (An J m1 t) qO P4:=r4.agree ag.1.symm fun i o _=>(ag.2 i (by simp)).symm
  have s5:=(s2.trans s3).trans s4;cases bb with
  | false=>rw[if_neg C6] at e4 ⊢;exact q.nx Γ _ g4 P4 qO H3 rfl e4 ((AU J m1 _).mono sub) s5 i2 r5
  | true =>
    rw[if_pos rfl] at e4 ⊢;obtain⟨n2,hn,B,κ,rB,eb,knx,kct,kbk,krt⟩:=e4;have a5:∀{m'},BQ jb (An J m1 t) m'->BQ jb m1 m':=fun h=>(((AU J m1 t).mono sub).trans h).mono fun i z=>(D4.mp z).elim id id
    refine⟨fun σ' H'=>∃g5 P5 m',Step g1 P1 H1 g5 P5 H'/\Io F.io σ σ'/\Rel K g5 H' Γ m' σ' P5/\BQ jb m1 m'/\run n2 (Af J m'),?_,g4,_,P4,r5,B,κ,rB,eb,⟨fun Γ' m' g' uP rH H' e hk sC s' i' rr=>?_,fun d m' g' uP Pv rH v H' hk sC s' i' rv rr n=>?_,fun Γ' m' g' uP rH H' e hk sC s' i' rr=>?_,fun Γ' m' g' uP rH H' e hk sC s' i' rr=>?_⟩⟩
    · rintro σ' H' ⟨g6,P6,m',s6,i6,r6,ag6,hr⟩;exact⟨n2,hn,g6,Af J m',P6,s6,i6,r6.join ag6 fun i o h=>hJ▸BS h,hr⟩
    · subst e;obtain⟨g6,P6,s6,r6⟩:=rr.weaken (by unfold Hf at hw;exact hw);exact⟨g6,P6,m',(s5.trans s').trans s6,i2.trans i',r6,a5 sC,knx m' hk⟩
    · exact q.rt d _ g' uP Pv rH v H' (krt d m' hk) ((AU Jr m1 _).mono wq) (s5.trans s') (i2.trans i') rv (rr.join (a5 sC) fun i o h=>xY▸BS h) n
    · cases e;exact q.nx Γ _ g' uP rH H' rfl (kbk m' hk) ((AU J m1 _).mono sub) (s5.trans s') (i2.trans i') (rr.join (a5 sC) fun i o h=>hJ▸BS h)
    · cases e;exact⟨g',uP,m',s5.trans s',i2.trans i',rr,a5 sC,kct m' hk⟩
section
variable {X:Cx} {F:Fr} {sW:Option Gm} {Γ uH:Gm} {uG:Option Gm} {jb J Jr:List Nat} {c:Expr} {body:List G0} {t:Ev Bool} {b:Es} {pos:Pos}
theorem jw(n:Nat)(hp:g7 (C3 X.prog X.w) X.A X.env X.xe)(hc:PT X c (tT X.K Γ uH [] t))(hb:CP X body (tS X.K F (some Γ) Γ uG jb b))(ur:BL Γ uH=true)(hw:Hf (some Γ) uG=true)(hJ:J=BJ Γ jb) :
    PS X (.While c body [] pos) (tS X.K F sW Γ (some Γ) jb (fu n t J b)):=PS.imp (RD hp hc hb) fun D σ H h=>by
  obtain⟨g0,m,P,r,R,k,res,e,q⟩:=h;obtain⟨t',e1,e2⟩:=pR e;refine Yr (Jr:=BJ F.vW jb) ur hw hJ rfl r (fun n t0=>iT _ _ n t0=some t') e1 (fun n t0 h=>?_) q;cases n with
  | zero=>cases h
  | succ n =>
    obtain⟨bb,h1,h2⟩:=pR h;refine⟨bb,h1,?_⟩;cases bb with
    | false=>rw[if_neg C6] at h2 ⊢;cases h2;exact e2
    | true =>
      rw[if_pos rfl] at h2 ⊢;obtain⟨t1,h3,h4⟩:=pR h2;refine⟨n,nX n,EN J,kC J,t1,h3,fun m' hk=>?_,fun m' hk=>?_,(fun m' hk=>by cases hk),fun d m' hk=>by cases hk⟩
      · cases hk;exact h4
      · cases hk;exact h4
end
end R
namespace Q
open PySem L2
set_option genInjectivity true in
inductive Dt where
 | pX | bl (b:Bool) | int (i:Int) | str (x:List Nat)
 | tup (xs:List Dt) | lst (o:Bool) (xs:List Dt) | dic (o:Bool) (pW:List (Dt×Dt)) | ref (k:Nat) | qW (ns:List Int) | ty (n:String) | uJ (ls:List (List Nat)) | dti (o:Bool) (pW:List (List Int×Int))
 deriving Inhabited
structure G where
 Z:A8->Prop
 μ:List A8
structure Ob where
 c:Nat
 fs:List (Str×Dt)
structure M where
 ρ:List (Option Dt)
 S:List Ob
noncomputable def tru:Dt->Option Bool
 | .pX=>some false
 | .bl b=>some b
 | .int i=>some (i != 0)
 | .str l=>if l.length<=1000000 then some (!l.isEmpty) else none
 | .tup ds=>some (!ds.isEmpty)
 | .lst _ ds=>some (!ds.isEmpty)
 | .qW ns=>some (!ns.isEmpty)
 | _=>none
end Q
namespace L3
open PySem PySem.Spec PyProof.Rows PySem.SeqAt L2
abbrev St:=L2.St
inductive D where
 | fl (v:V)
 | tup (ds:List D)
 | lst (ds:List D)
mutual
noncomputable def qG:D->D->Bool
 | .fl a,.fl b=>qz a b
 | .tup a,.tup b=>qc a b
 | .lst a,.lst b=>qc a b
 | _,_=>false
noncomputable def qc:List D->List D->Bool
 | [],[]=>true
 | x::xs,y::ys=>qG x y && qc xs ys
 | _,_=>false
end
mutual
noncomputable def D.dep:D->Nat
 | .fl _=>0
 | .tup ds=>qg ds+1
 | .lst ds=>qg ds+1
noncomputable def qg:List D->Nat
 | []=>0
 | d::ds=>max d.dep (qg ds)
end
mutual
noncomputable def Is(K:W.Frag)(H:Hp):V->D->Prop
 | x,.fl v=>x=v/\GT v=true
 | x,.tup ds=>∃a xs,x=.ref a/\Cg K H a xs/\IsL K H xs ds
 | x,.lst ds=>∃a xs,x=.ref a/\CO K H a xs/\IsL K H xs ds
noncomputable def IsL(K:W.Frag)(H:Hp):List V->List D->Prop
 | [],[]=>True
 | x::xs,d::ds=>Is K H x d/\IsL K H xs ds
 | _,_=>False
end
theorem IsL.inv{K:W.Frag}{H:Hp}{x:V}{xs:List V}{es:List D}(h:IsL K H (x::xs) es):∃d ds,es=d::ds/\Is K H x d/\IsL K H xs ds:=by
 cases es with
 | nil=>unfold IsL at h;exact h.elim
 | cons d ds=>unfold IsL at h;exact⟨d,ds,rfl,h.1,h.2⟩
theorem IsL.length{K:W.Frag}{H:Hp}:∀{xs:List V} {ds:List D},IsL K H xs ds->xs.length=ds.length
 | [],[],_=>rfl
 | [],_::_,h=>by unfold IsL at h;exact h.elim
 | _::_,[],h=>by unfold IsL at h;exact h.elim
 | x::xs,d::ds,h=>by unfold IsL at h;rw[D8,D8,IsL.length h.2]
theorem IsL.get{K:W.Frag}{H:Hp}:∀{xs:List V} {ds:List D} {i:Nat} {d:D},IsL K H xs ds->ds[i]?=some d->∃x,xs[i]?=some x/\Is K H x d
 | [],[],_,_,_,e=>by simp at e
 | [],_::_,_,_,h,_=>by unfold IsL at h;exact h.elim
 | _::_,[],_,_,_,e=>by simp at e
 | x::xs,d::ds,0,d',h,e=>by
  unfold IsL at h;have:d=d':=by simpa using e
  subst this;exact⟨x,rfl,h.1⟩
 | x::xs,d::ds,i+1,_,h,e=>by
  unfold IsL at h;obtain⟨y,e1,e2⟩:=IsL.get (i:=i) h.2 (by simpa using e);exact⟨y,by simpa using e1,e2⟩
theorem MV{X:Cx}{pins:List (A8×Obj)}{σ:St}{H:Hp}{s:A5}{a:A8}{xs ys:List V}(I:Inv X pins σ H s)(h:Cg X.K H a xs)(k:CO X.K H a ys):False:=by
 obtain⟨_,_,⟨o,e,c,_⟩,_⟩:=I.tuple h;obtain⟨_,_,⟨o',n,e',c',_⟩,_⟩:=I.list k;rw[e] at e';cases e';rw[c] at c';injection c' with q
 exact absurd q (by decide)
mutual
theorem Is.inj{X:Cx}{pins:List (A8×Obj)}{σ:St}{H:Hp}{s:A5}(I:Inv X pins σ H s):∀{d e:D} {x:V},Is X.K H x d->Is X.K H x e->d=e
 | .fl v,e,x,h,k=>by
  unfold Is at h;obtain⟨rfl,hf⟩:=h;cases e with
  | fl u=>unfold Is at k;rw[k.1]
  | tup es=>unfold Is at k;obtain⟨a,xs,rfl,_⟩:=k;cases hf
  | lst es=>unfold Is at k;obtain⟨a,xs,rfl,_⟩:=k;cases hf
 | .tup ds,e,x,h,k=>by
  unfold Is at h;obtain⟨a,xs,rfl,h1,h2⟩:=h;cases e with
  | fl u=>unfold Is at k;obtain⟨k1,k2⟩:=k;rw[<- k1] at k2;cases k2
  | tup es =>
   unfold Is at k;obtain⟨b,ys,e,k1,k2⟩:=k;cases e;rw[I.qq h1 k1] at h2;rw[IsL.inj I h2 k2]
  | lst es=>unfold Is at k;obtain⟨b,ys,e,k1,k2⟩:=k;cases e;exact(MV I h1 k1).elim
 | .lst ds,e,x,h,k=>by
  unfold Is at h;obtain⟨a,xs,rfl,h1,h2⟩:=h;cases e with
  | fl u=>unfold Is at k;obtain⟨k1,k2⟩:=k;rw[<- k1] at k2;cases k2
  | lst es =>
   unfold Is at k;obtain⟨b,ys,e,k1,k2⟩:=k;cases e;rw[I.rN h1 k1] at h2;rw[IsL.inj I h2 k2]
  | tup es=>unfold Is at k;obtain⟨b,ys,e,k1,k2⟩:=k;cases e;exact(MV I k1 h1).elim
theorem IsL.inj{X:Cx}{pins:List (A8×Obj)}{σ:St}{H:Hp}{s:A5}(I:Inv X pins σ H s):∀{ds es:List D} {xs:List V},IsL X.K H xs ds->IsL X.K H xs es->ds=es
 | [],es,[],h,k=>by
  cases es with
  | nil=>rfl
  | cons e es=>unfold IsL at k;exact k.elim
 | [],_,_::_,h,_=>by unfold IsL at h;exact h.elim
 | _::_,_,[],h,_=>by unfold IsL at h;exact h.elim
 | d::ds,es,x::xs,h,k=>by
  unfold IsL at h;obtain⟨e,sV,rfl,k1,k2⟩:=k.inv;rw[Is.inj I h.1 k1,IsL.inj I h.2 k2]
end
theorem Sg{v:V}(h:GT v=true):qz v v=true:=by
 cases v<;>first | rfl | (simp[qz];done) | cases h
mutual
theorem GW{K:W.Frag}{H:Hp}:∀{d:D} {x:V},Is K H x d->qG d d=true
 | .fl v,x,h=>by unfold Is at h;unfold qG;exact Sg h.2
 | .tup ds,x,h=>by unfold Is at h;obtain⟨_,_,_,_,h2⟩:=h;unfold qG;exact Eg h2
 | .lst ds,x,h=>by unfold Is at h;obtain⟨_,_,_,_,h2⟩:=h;unfold qG;exact Eg h2
theorem Eg{K:W.Frag}{H:Hp}:∀{ds:List D} {xs:List V},IsL K H xs ds->qc ds ds=true
 | [],_,_=>by unfold qc;rfl
 | _::_,[],h=>by unfold IsL at h;exact h.elim
 | d::ds,x::xs,h=>by
  unfold IsL at h;unfold qc;rw[GW h.1,Eg h.2];rfl
end
theorem BO:∀(xs ys:List D) (e:Nat->Bool),(∀i x y,xs[i]?=some x->ys[i]?=some y->e i=qG x y)->((C2 (min xs.length ys.length)).all e && xs.length == ys.length)=qc xs ys
 | [],[],_,_=>by unfold qc;rfl
 | [],_::_,_,_=>by unfold qc;simp
 | _::_,[],_,_=>by unfold qc;simp
 | x::xs,y::ys,e,h=>by
  have ih:=BO xs ys (fun i=>e (i+1)) fun i a b h1 h2=>h (i+1) a b (by simpa using h1) (by simpa using h2)
  have h0:=h 0 x y rfl rfl;unfold qc;rw[<- ih,<- h0,D8,D8,Nat.succ_min_succ,U5,G8,k8];have:((xs.length+1 == ys.length+1):Bool)=(xs.length == ys.length):=by simp
  rw[this,Bool.and_assoc];rfl
theorem EF:∀{ds:List D} {i:Nat} {d:D},ds[i]?=some d->d.dep<=qg ds
 | [],_,_,e=>by simp at e
 | d::ds,0,d',e=>by
  have:d=d':=by simpa using e
  subst this;show d.dep<=qg (d::ds);unfold qg;exact Nat.le_max_left _ _
 | d::ds,i+1,x,e=>by
  have:=EF (ds:=ds) (i:=i) (d:=x) (by simpa using e);unfold qg;exact A9 this (Nat.le_max_right _ _)
section
variable {X:Cx} {pins:List (A8×Obj)} {σ:St} {H:Hp} {s:A5}
def NS(ds es:List D)(i:Nat):Bool:=match ds[i]?,es[i]? with | some a,some b=>qG a b | _,_=>true
theorem Cy{ds es:List D}{i:Nat}{a b:D}(h1:ds[i]?=some a)(h2:es[i]?=some b):NS ds es i=qG a b:=by unfold NS;rw[h1,h2]
theorem Ah{x:V}(h:GT x=true):x=.pX\/(∃b,x=.bl b)\/(∃i,x=.int i)\/∃z,x=.str z:=by
 cases x with
 | pX=>exact .inl rfl
 | bl b=>exact .inr (.inl ⟨b,rfl⟩)
 | int i=>exact .inr (.inr (.inl ⟨i,rfl⟩))
 | str z=>exact .inr (.inr (.inr ⟨z,rfl⟩))
 | _=>cases h
theorem Sj(I:Inv X pins σ H s):∀(n:Nat) (A:F3) (d e:D) (x y:V) (u v:A3),d.dep<=n->A.units+n < R3->RelV x u->RelV y v->Is X.K H x d->Is X.K H y e->EqAt A s u v (qG d e):=by
 intro n
 induction n with
 | zero =>
  intro A d e x y u v hd hu rx ry hx hy;cases d with
  | fl a =>
   unfold Is at hx;obtain⟨rfl,fx⟩:=hx;cases e with
   | fl b=>unfold Is at hy;obtain⟨rfl,fy⟩:=hy;unfold qG;exact bP rx ry fx fy
   | tup es =>
    unfold Is at hy;obtain⟨b,ys,rfl,h1,h2⟩:=hy;cases ry;obtain⟨pS,r,ht,_⟩:=I.tuple h1;unfold qG;rcases Ah fx with rfl | ⟨c,rfl⟩ | ⟨c,rfl⟩ | ⟨c,rfl⟩
    ·cases rx;exact EqAt.none_tuple ht hu
    ·cases rx;exact EqAt.bool_tuple c ht hu
    ·obtain⟨t,rfl⟩:=rx;exact EqAt.int_tuple c t ht hu
    ·obtain⟨t,rfl⟩:=rx;exact EqAt.str_tuple c t ht hu
   | lst es =>
    unfold Is at hy;obtain⟨b,ys,rfl,h1,h2⟩:=hy;cases ry;obtain⟨pS,r,ht,_⟩:=I.list h1;unfold qG;rcases Ah fx with rfl | ⟨c,rfl⟩ | ⟨c,rfl⟩ | ⟨c,rfl⟩
    ·cases rx;exact EqAt.none_list ht.isList hu
    ·cases rx;exact EqAt.bool_list c ht.isList hu
    ·obtain⟨t,rfl⟩:=rx;exact EqAt.int_list c t ht.isList hu
    ·obtain⟨t,rfl⟩:=rx;exact EqAt.str_list c t ht.isList hu
  | tup ds=>unfold D.dep at hd;omega
  | lst ds=>unfold D.dep at hd;omega
 | succ n ih =>
  intro A d e x y u v hd hu rx ry hx hy;have qD:A.units < R3:=by omega
  cases d with
  | fl a=>exact ih A (.fl a) e x y u v (by unfold D.dep;omega) (by omega) rx ry hx hy
  | tup ds =>
   unfold D.dep at hd;have hx0:=hx;unfold Is at hx;obtain⟨a,xs,rfl,h1,h2⟩:=hx;cases rx;obtain⟨pS,r,ht,_⟩:=I.tuple h1;cases e with
   | fl b =>
    unfold Is at hy;obtain⟨rfl,fy⟩:=hy;unfold qG;rcases Ah fy with rfl | ⟨c,rfl⟩ | ⟨c,rfl⟩ | ⟨c,rfl⟩
    ·cases ry;exact EqAt.tuple_none ht qD
    ·cases ry;exact EqAt.tuple_bool c ht qD
    ·obtain⟨t,rfl⟩:=ry;exact EqAt.tuple_int c t ht qD
    ·obtain⟨t,rfl⟩:=ry;exact EqAt.tuple_str c t ht qD
   | tup es =>
    have y7:=hy;unfold Is at hy;obtain⟨b,ys,rfl,k1,k2⟩:=hy;cases ry;obtain⟨pf,r2,qC,_⟩:=I.tuple k1
    by_cases vS:a=b
    ·subst vS;rw[Is.inj I hx0 y7,GW y7];exact EqAt.same _
    ·refine EqAt.of_refs vS ?_;have q:=RcAt.tuples (e:=NS ds es) ht qC qD (fun j j1 j2=>?_)
     ·have e1:=BO ds es (NS ds es) fun i a b q1 q2=>Cy q1 q2
      rw[B0,B0,<- r.length,<- r2.length,h2.length,k2.length,e1] at q;unfold qG;exact q
     ·have wU:j < pS.length:=by simpa using j1
      have wR:j < pf.length:=by simpa using j2
      have l1:j < ds.length:=by rw[<- h2.length,r.length];exact wU
      have l2:j < es.length:=by rw[<- k2.length,r2.length];exact wR
      obtain⟨x',ex,px⟩:=h2.get (i:=j) (A4 l1);obtain⟨y',ey,py⟩:=k2.get (i:=j) (A4 l2);obtain⟨u',eu,ru⟩:=r.get ex;obtain⟨v',ev,rv⟩:=r2.get ey;rw[Cy (A4 l1) (A4 l2)];have z1:pS.toArray[j]=u':=by rw[A4 wU] at eu;simpa using C7 eu
      have z2:pf.toArray[j]=v':=by rw[A4 wR] at ev;simpa using C7 ev
      rw[z1,z2];exact ih A.in1 _ _ x' y' u' v' (A9 (EF (A4 l1)) (by omega)) (by show A.units+1+n < R3;omega) ru rv px py
   | lst es =>
    unfold Is at hy;obtain⟨b,ys,rfl,k1,k2⟩:=hy;cases ry;obtain⟨pf,r2,qC,_⟩:=I.list k1;unfold qG;exact EqAt.tuple_list ht qC.isList qD
  | lst ds =>
   unfold D.dep at hd;have hx0:=hx;unfold Is at hx;obtain⟨a,xs,rfl,h1,h2⟩:=hx;cases rx;obtain⟨pS,r,ht,_⟩:=I.list h1;cases e with
   | fl b =>
    unfold Is at hy;obtain⟨rfl,fy⟩:=hy;unfold qG;rcases Ah fy with rfl | ⟨c,rfl⟩ | ⟨c,rfl⟩ | ⟨c,rfl⟩
    ·cases ry;exact EqAt.list_none ht.isList qD
    ·cases ry;exact EqAt.list_bool c ht.isList qD
    ·obtain⟨t,rfl⟩:=ry;exact EqAt.list_int c t ht.isList qD
    ·obtain⟨t,rfl⟩:=ry;exact EqAt.list_str c t ht.isList qD
   | tup es =>
    unfold Is at hy;obtain⟨b,ys,rfl,k1,k2⟩:=hy;cases ry;obtain⟨pf,r2,qC,_⟩:=I.tuple k1;unfold qG;exact EqAt.list_tuple ht.isList qC qD
   | lst es =>
    have y7:=hy;unfold Is at hy;obtain⟨b,ys,rfl,k1,k2⟩:=hy;cases ry;obtain⟨pf,r2,qC,_⟩:=I.list k1
    by_cases vS:a=b
    ·subst vS;rw[Is.inj I hx0 y7,GW y7];exact EqAt.same _
    ·refine EqAt.of_refs vS ?_
     by_cases rh:ds.length=es.length
     ·have e1:=BO ds es (NS ds es) fun i a b q1 q2=>Cy q1 q2
      rw[rh,nI,beq_self_eq_true,o3] at e1;have q:=RcAt.lists (e:=NS ds es) ht.isList qC.isList (by rw[B0,B0,<- r.length,<- r2.length,h2.length,k2.length];exact rh) qD (fun j j1 j2=>?_)
      ·rw[B0,<- r.length,h2.length,rh,e1] at q;unfold qG;exact q
      ·have wU:j < pS.length:=by simpa using j1
       have wR:j < pf.length:=by simpa using j2
       have l1:j < ds.length:=by rw[<- h2.length,r.length];exact wU
       have l2:j < es.length:=by rw[<- k2.length,r2.length];exact wR
       obtain⟨x',ex,px⟩:=h2.get (i:=j) (A4 l1);obtain⟨y',ey,py⟩:=k2.get (i:=j) (A4 l2);obtain⟨u',eu,ru⟩:=r.get ex;obtain⟨v',ev,rv⟩:=r2.get ey;rw[Cy (A4 l1) (A4 l2)];have z1:pS.toArray[j]=u':=by rw[A4 wU] at eu;simpa using C7 eu
       have z2:pf.toArray[j]=v':=by rw[A4 wR] at ev;simpa using C7 ev
       rw[z1,z2];exact ih A.in1 _ _ x' y' u' v' (A9 (EF (A4 l1)) (by omega)) (by show A.units+1+n < R3;omega) ru rv px py
     ·have q:=RcAt.lists_lengths (A:=A) ht.isList qC.isList (by rw[B0,B0,<- r.length,<- r2.length,h2.length,k2.length];simpa using rh) qD;have e1:=BO ds es (NS ds es) fun i a b q1 q2=>Cy q1 q2
      have:(ds.length == es.length)=false:=by simpa using rh
      rw[this,Y6] at e1;unfold qG;rw[<- e1];exact q
end
noncomputable def D.seq:D->Bool
 | .fl _=>false
 | _=>true
section
variable {X:Cx} {pins:List (A8×Obj)} {σ:St} {H:Hp} {s:A5}
theorem Je(I:Inv X pins σ H s){n:Nat}{A:F3}{xs ys:List V}{ds es:List D}{pS pf:List A3}(hd:qg ds<=n)(hu:A.units+1+n < R3)(r:AG xs pS)(r2:AG ys pf)(h2:IsL X.K H xs ds)(k2:IsL X.K H ys es) :
    ∀j (h1:j < pS.toArray.size) (h2:j < pf.toArray.size),EqAt A.in1 s pS.toArray[j] pf.toArray[j] (NS ds es j):=fun j j1 j2=>by
  have wU:j < pS.length:=by simpa using j1
  have wR:j < pf.length:=by simpa using j2
  have l1:j < ds.length:=by rw[<- h2.length,r.length];exact wU
  have l2:j < es.length:=by rw[<- k2.length,r2.length];exact wR
  obtain⟨x',ex,px⟩:=h2.get (i:=j) (A4 l1);obtain⟨y',ey,py⟩:=k2.get (i:=j) (A4 l2);obtain⟨u',eu,ru⟩:=r.get ex;obtain⟨v',ev,rv⟩:=r2.get ey;rw[Cy (A4 l1) (A4 l2)];have z1:pS.toArray[j]=u':=by rw[A4 wU] at eu;simpa using C7 eu
  have z2:pf.toArray[j]=v':=by rw[A4 wR] at ev;simpa using C7 ev
  rw[z1,z2];exact Sj I n A.in1 _ _ x' y' u' v' (A9 (EF (A4 l1)) hd) (by show A.units+1+n < R3;exact hu) ru rv px py
theorem IK(I:Inv X pins σ H s){A:F3}{d e:D}{x y:V}{u v:A3}(sd:d.seq=true)(se:e.seq=true)(hu:A.units+d.dep+1 < R3)(rx:RelV x u)(ry:RelV y v)(hx:Is X.K H x d)(hy:Is X.K H y e):RcAt A s u v (qG d e)/\RcNeAt A s u v (!qG d e):=by
 have qD:A.units < R3:=by omega
 cases d with
 | fl a=>cases sd
 | tup ds =>
  unfold D.dep at hu;unfold Is at hx;obtain⟨a,xs,rfl,h1,h2⟩:=hx;cases rx;obtain⟨pS,r,ht,_⟩:=I.tuple h1;cases e with
  | fl b=>cases se
  | tup es =>
   unfold Is at hy;obtain⟨b,ys,rfl,k1,k2⟩:=hy;cases ry;obtain⟨pf,r2,qC,_⟩:=I.tuple k1;have e1:=BO ds es (NS ds es) fun i a b q1 q2=>Cy q1 q2
   have it:=Je I (A:=A) (n:=qg ds) (B9 _) (by omega) r r2 h2 k2;have q:=RcAt.tuples (e:=NS ds es) ht qC qD it;have q':=RcNeAt.tuples (e:=NS ds es) ht qC qD it;rw[B0,B0,<- r.length,<- r2.length,h2.length,k2.length,e1] at q q';unfold qG;exact⟨q,q'⟩
  | lst es =>
   unfold Is at hy;obtain⟨b,ys,rfl,k1,k2⟩:=hy;cases ry;obtain⟨pf,r2,qC,_⟩:=I.list k1;unfold qG;exact⟨RcAt.tuple_list ht qC.isList qD,RcNeAt.tuple_list ht qC.isList qD⟩
 | lst ds =>
  unfold D.dep at hu;unfold Is at hx;obtain⟨a,xs,rfl,h1,h2⟩:=hx;cases rx;obtain⟨pS,r,ht,_⟩:=I.list h1;cases e with
  | fl b=>cases se
  | tup es =>
   unfold Is at hy;obtain⟨b,ys,rfl,k1,k2⟩:=hy;cases ry;obtain⟨pf,r2,qC,_⟩:=I.tuple k1;unfold qG;exact⟨RcAt.list_tuple ht.isList qC qD,RcNeAt.list_tuple ht.isList qC qD⟩
  | lst es =>
   unfold Is at hy;obtain⟨b,ys,rfl,k1,k2⟩:=hy;cases ry;obtain⟨pf,r2,qC,_⟩:=I.list k1;have e1:=BO ds es (NS ds es) fun i a b q1 q2=>Cy q1 q2
   unfold qG
   by_cases rh:ds.length=es.length
   ·rw[rh,nI,beq_self_eq_true,o3] at e1;have it:=Je I (A:=A) (n:=qg ds) (B9 _) (by omega) r r2 h2 k2;have sz:pS.toArray.size=pf.toArray.size:=by rw[B0,B0,<- r.length,<- r2.length,h2.length,k2.length];exact rh
    have q:=RcAt.lists (e:=NS ds es) ht.isList qC.isList sz qD it;have q':=RcNeAt.lists (e:=NS ds es) ht.isList qC.isList sz qD it;rw[B0,<- r.length,h2.length,rh,e1] at q q';exact⟨q,q'⟩
   ·have sz:(pS.toArray.size != pf.toArray.size)=true:=by rw[B0,B0,<- r.length,<- r2.length,h2.length,k2.length];simpa using rh
    have:(ds.length == es.length)=false:=by simpa using rh
    rw[this,Y6] at e1;rw[<- e1];exact⟨RcAt.lists_lengths ht.isList qC.isList sz qD,RcNeAt.lists_lengths ht.isList qC.isList sz qD⟩
end
section
variable {X:Cx} {pins:List (A8×Obj)} {σ:L2.St} {H:Hp} {s:A5}
theorem VD{A:F3}{x y:V}{u v:A3}(rx:RelV x u)(ry:RelV y v)(fx:GT x=true)(fy:GT y=true):RcAt A s u v (qz x y)/\RcNeAt A s u v (!qz x y):=by
 rcases Ah fx with rfl | ⟨c,rfl⟩ | ⟨c,rfl⟩ | ⟨c,rfl⟩<;>rcases Ah fy with rfl | ⟨d,rfl⟩ | ⟨d,rfl⟩ | ⟨d,rfl⟩
 ·cases rx;cases ry;exact⟨RcAt.none_none , RcNeAt.none_none ⟩
 ·cases rx;cases ry;exact⟨RcAt.none_bool d,RcNeAt.none_bool d⟩
 ·cases rx;obtain⟨dt,rfl⟩:=ry;exact⟨RcAt.none_int d dt,RcNeAt.none_int d dt⟩
 ·cases rx;obtain⟨dt,rfl⟩:=ry;exact⟨RcAt.none_str d dt,RcNeAt.none_str d dt⟩
 ·cases rx;cases ry;exact⟨RcAt.bool_none c,RcNeAt.bool_none c⟩
 ·cases rx;cases ry;exact⟨RcAt.bool_bool c d,RcNeAt.bool_bool c d⟩
 ·cases rx;obtain⟨dt,rfl⟩:=ry;exact⟨RcAt.bool_int c d dt,RcNeAt.bool_int c d dt⟩
 ·cases rx;obtain⟨dt,rfl⟩:=ry;exact⟨RcAt.bool_str c d dt,RcNeAt.bool_str c d dt⟩
 ·obtain⟨ct,rfl⟩:=rx;cases ry;exact⟨RcAt.int_none c ct,RcNeAt.int_none c ct⟩
 ·obtain⟨ct,rfl⟩:=rx;cases ry;exact⟨RcAt.int_bool c ct d,RcNeAt.int_bool c ct d⟩
 ·obtain⟨ct,rfl⟩:=rx;obtain⟨dt,rfl⟩:=ry;exact⟨RcAt.int_int c ct d dt,RcNeAt.int_int c ct d dt⟩
 ·obtain⟨ct,rfl⟩:=rx;obtain⟨dt,rfl⟩:=ry;exact⟨RcAt.int_str c ct d dt,RcNeAt.int_str c ct d dt⟩
 ·obtain⟨ct,rfl⟩:=rx;cases ry;exact⟨RcAt.str_none c ct,RcNeAt.str_none c ct⟩
 ·obtain⟨ct,rfl⟩:=rx;cases ry;exact⟨RcAt.str_bool c ct d,RcNeAt.str_bool c ct d⟩
 ·obtain⟨ct,rfl⟩:=rx;obtain⟨dt,rfl⟩:=ry;exact⟨RcAt.str_int c ct d dt,RcNeAt.str_int c ct d dt⟩
 ·obtain⟨ct,rfl⟩:=rx;obtain⟨dt,rfl⟩:=ry;exact⟨RcAt.str_str c ct d dt,RcNeAt.str_str c ct d dt⟩
theorem JP(I:Inv X pins σ H s){A:F3}{d e:D}{x y:V}{u v:A3}(hu:A.units+d.dep+1 < R3)(rx:RelV x u)(ry:RelV y v)(hx:Is X.K H x d)(hy:Is X.K H y e):RcAt A s u v (qG d e)/\RcNeAt A s u v (!qG d e):=by
 have qD:A.units < R3:=by omega
 cases d with
 | fl a =>
  unfold Is at hx;obtain⟨rfl,fx⟩:=hx;cases e with
  | fl b =>
   unfold Is at hy;obtain⟨rfl,fy⟩:=hy;unfold qG;exact VD rx ry fx fy
  | tup es =>
   unfold Is at hy;obtain⟨b,ys,rfl,k1,k2⟩:=hy;cases ry;obtain⟨pf,r2,qC,_⟩:=I.tuple k1;unfold qG;rcases Ah fx with rfl | ⟨c,rfl⟩ | ⟨c,rfl⟩ | ⟨c,rfl⟩
   ·cases rx;exact⟨RcAt.none_tuple qC qD,RcNeAt.none_tuple qC qD⟩
   ·cases rx;exact⟨RcAt.bool_tuple c qC qD,RcNeAt.bool_tuple c qC qD⟩
   ·obtain⟨t,rfl⟩:=rx;exact⟨RcAt.int_tuple c t qC qD,RcNeAt.int_tuple c t qC qD⟩
   ·obtain⟨t,rfl⟩:=rx;exact⟨RcAt.str_tuple c t qC qD,RcNeAt.str_tuple c t qC qD⟩
  | lst es =>
   unfold Is at hy;obtain⟨b,ys,rfl,k1,k2⟩:=hy;cases ry;obtain⟨pf,r2,qC,_⟩:=I.list k1;unfold qG;rcases Ah fx with rfl | ⟨c,rfl⟩ | ⟨c,rfl⟩ | ⟨c,rfl⟩
   ·cases rx;exact⟨RcAt.none_list qC.isList qD,RcNeAt.none_list qC.isList qD⟩
   ·cases rx;exact⟨RcAt.bool_list c qC.isList qD,RcNeAt.bool_list c qC.isList qD⟩
   ·obtain⟨t,rfl⟩:=rx;exact⟨RcAt.int_list c t qC.isList qD,RcNeAt.int_list c t qC.isList qD⟩
   ·obtain⟨t,rfl⟩:=rx;exact⟨RcAt.str_list c t qC.isList qD,RcNeAt.str_list c t qC.isList qD⟩
 | tup ds =>
  cases e with
  | fl b =>
   unfold Is at hx hy;obtain⟨b',ys,rfl,k1,k2⟩:=hx;obtain⟨rfl,fy⟩:=hy;cases rx;obtain⟨pf,r2,qC,_⟩:=I.tuple k1;unfold qG;rcases Ah fy with rfl | ⟨c,rfl⟩ | ⟨c,rfl⟩ | ⟨c,rfl⟩
   ·cases ry;exact⟨RcAt.tuple_none qC qD,RcNeAt.tuple_none qC qD⟩
   ·cases ry;exact⟨RcAt.tuple_bool c qC qD,RcNeAt.tuple_bool c qC qD⟩
   ·obtain⟨t,rfl⟩:=ry;exact⟨RcAt.tuple_int c t qC qD,RcNeAt.tuple_int c t qC qD⟩
   ·obtain⟨t,rfl⟩:=ry;exact⟨RcAt.tuple_str c t qC qD,RcNeAt.tuple_str c t qC qD⟩
  | tup es=>exact IK I rfl rfl hu rx ry hx hy
  | lst es=>exact IK I rfl rfl hu rx ry hx hy
 | lst ds =>
  cases e with
  | fl b =>
   unfold Is at hx hy;obtain⟨b',ys,rfl,k1,k2⟩:=hx;obtain⟨rfl,fy⟩:=hy;cases rx;obtain⟨pf,r2,qC,_⟩:=I.list k1;unfold qG;rcases Ah fy with rfl | ⟨c,rfl⟩ | ⟨c,rfl⟩ | ⟨c,rfl⟩
   ·cases ry;exact⟨RcAt.list_none qC.isList qD,RcNeAt.list_none qC.isList qD⟩
   ·cases ry;exact⟨RcAt.list_bool c qC.isList qD,RcNeAt.list_bool c qC.isList qD⟩
   ·obtain⟨t,rfl⟩:=ry;exact⟨RcAt.list_int c t qC.isList qD,RcNeAt.list_int c t qC.isList qD⟩
   ·obtain⟨t,rfl⟩:=ry;exact⟨RcAt.list_str c t qC.isList qD,RcNeAt.list_str c t qC.isList qD⟩
  | tup es=>exact IK I rfl rfl hu rx ry hx hy
  | lst es=>exact IK I rfl rfl hu rx ry hx hy
def wy(K:W.Frag)(neg:Bool):R2:=fun x y H Q=>∃d e,d.dep<=150/\Is K H x d/\Is K H y e/\Q (.bl (if neg then !qG d e else qG d e)) H
theorem xA{j:Nat}(hr:pj j X.A):CH X (H9 .Eq) (wy X.K false):=by
 intro pins s σ H x y v u Q I rx ry h;obtain⟨d,e,hd,hx,hy,q⟩:=h;have:=hr.un;exact(JP I (by omega) rx ry hx hy).1 X.prog X.w _ _ ⟨.bl _,H,I,rfl,q⟩
theorem wz{j:Nat}(hr:pj j X.A):CH X (H9 .NotEq) (wy X.K true):=by
 intro pins s σ H x y v u Q I rx ry h;obtain⟨d,e,hd,hx,hy,q⟩:=h;have:=hr.un;exact(JP I (by omega) rx ry hx hy).2 X.prog X.w _ _ ⟨.bl _,H,I,rfl,q⟩
open Classical in
def UP(pS:List A3)(ds:List D)(e:D)(u:A3):Bool:=decide (∃(i:Nat) (d:D),pS[i]?=some u/\ds[i]?=some d/\qG d e=true)
open Classical in
theorem Lo(I:Inv X pins σ H s){xs:List V}{pS:List A3}{ds:List D}(r:AG xs pS)(h:IsL X.K H xs ds){e:D}{i:Nat}{u:A3}{d:D}(hu:pS[i]?=some u)(hd:ds[i]?=some d):UP pS ds e u=qG d e:=by
 have key:∀(j:Nat) (d':D),pS[j]?=some u->ds[j]?=some d'->d'=d:=fun j d' h1 h2=>by
  obtain⟨x,ex,px⟩:=h.get hd;obtain⟨y,ey,py⟩:=h.get h2;obtain⟨u1,e1,r1⟩:=r.get ex;obtain⟨u2,e2,r2⟩:=r.get ey;rw[hu] at e1;cases e1;rw[h1] at e2;cases e2;rw[r2.inj r1] at py;exact Is.inj I py px
 unfold UP;cases q:qG d e with
 | true=>exact decide_eq_true ⟨i,d,hu,hd,q⟩
 | false =>
  refine decide_eq_false ?_;rintro⟨j,d',h1,h2,h3⟩;rw[key j d' h1 h2,q] at h3;cases h3
theorem Nc(I:Inv X pins σ H s){xs:List V}{pS:List A3}{ds:List D}(r:AG xs pS)(h:IsL X.K H xs ds)(e:D):pS.any (UP pS ds e)=ds.any fun d=>qG d e:=by
 rw[Bool.eq_iff_iff,nY,nY];have hl:pS.length=ds.length:=by rw[<- r.length,h.length]
 constructor
 ·rintro⟨u,hu,q⟩;obtain⟨i,hi,rfl⟩:=W8 hu;have hd:ds[i]?=some ds[i]:=A4 (by omega);rw[Lo I r h (A4 hi) hd] at q;exact⟨_,K7 hd,q⟩
 ·rintro⟨d,hd,q⟩;obtain⟨i,hi,rfl⟩:=W8 hd;have hu:pS[i]?=some pS[i]:=A4 (by omega);exact⟨_,K7 hu,by rw[Lo I r h hu (A4 hi)];exact q⟩
theorem Nd(I:Inv X pins σ H s){A:F3}{xs:List V}{pS:List A3}{ds:List D}(r:AG xs pS)(h:IsL X.K H xs ds){e:D}{y:V}{v:A3}(ry:RelV y v)(hy:Is X.K H y e)(hd:qg ds<=150)(hu:A.units+150 < R3):∀w∈pS,EqAt A s w v (UP pS ds e w):=fun w hw=>by
 obtain⟨i,hi,rfl⟩:=W8 hw;have hl:pS.length=ds.length:=by rw[<- r.length,h.length]
 have hdi:ds[i]?=some ds[i]:=A4 (by omega);rw[Lo I r h (A4 hi) hdi];obtain⟨x,ex,px⟩:=h.get hdi;obtain⟨u1,e1,r1⟩:=r.get ex;rw[A4 hi] at e1;cases e1;exact Sj I 150 A _ _ x y _ _ (A9 (EF hdi) hd) hu r1 ry px hy
def wx(K:W.Frag)(neg:Bool):R2:=fun x y H Q=>∃p ys ds e,y=.ref p/\(CO K H p ys\/Cg K H p ys)/\IsL K H ys ds/\Is K H x e/\qg ds<=150/\Q (.bl (if neg then !(ds.any fun d=>qG d e) else ds.any fun d=>qG d e)) H
theorem w9{j:Nat}(hr:pj j X.A):CH X (H9 .In) (wx X.K false):=by
 intro pins s σ H x y v u Q I rx ry h;obtain⟨p,ys,ds,e,rfl,hq,hl,hx,hd,q⟩:=h;have hu:X.A.units+1+150 < R3:=by have:=hr.un;omega
 cases ry;rcases hq with hq | hq
 ·obtain⟨pS,r,pl,hz⟩:=I.list hq;refine SeqAt.in_listAt (UP pS ds e) pl.isList (fun w hw=>Nd I r hl rx hx hd hu w (by simpa using hw)) ⟨.bl _,H,I,rfl,?_⟩;rw[show pS.toArray.any (UP pS ds e)=pS.any (UP pS ds e) by simp,Nc I r hl];exact q
 ·obtain⟨pS,r,pl,hz⟩:=I.tuple hq;refine SeqAt.in_tupleAt (UP pS ds e) pl (fun w hw=>Nd I r hl rx hx hd hu w (by simpa using hw)) ⟨.bl _,H,I,rfl,?_⟩;rw[show pS.toArray.any (UP pS ds e)=pS.any (UP pS ds e) by simp,Nc I r hl];exact q
end
end L3
namespace Q
open PySem L2
mutual
noncomputable def toD:Dt->L3.D
 | .pX=>.fl .pX
 | .bl b=>.fl (.bl b)
 | .int i=>.fl (.int i)
 | .str l=>.fl (.str (tx l))
 | .tup xs=>.tup (qH xs)
 | .lst _ xs=>.lst (qH xs)
 | _=>.fl .pX
noncomputable def qH:List Dt->List L3.D
 | []=>[]
 | d::ds=>toD d::qH ds
end
mutual
noncomputable def Dt.cmp:Dt->Bool
 | .pX=>true
 | .bl _=>true
 | .int _=>true
 | .str _=>true
 | .tup xs=>sy xs
 | .lst _ xs=>sy xs
 | _=>false
noncomputable def sy:List Dt->Bool
 | []=>true
 | d::ds=>d.cmp && sy ds
end
mutual
noncomputable def eqT:Dt->Dt->Bool
 | .pX,.pX=>true
 | .bl a,.bl b=>a == b
 | .bl a,.int b=>(if a then 1 else 0) == b
 | .int a,.bl b=>a == (if b then 1 else 0)
 | .int a,.int b=>a == b
 | .str a,.str b=>a == b
 | .tup xs,.tup ys=>bO xs ys
 | .lst _ xs,.lst _ ys=>bO xs ys
 | _,_=>false
noncomputable def bO:List Dt->List Dt->Bool
 | [],[]=>true
 | x::xs,y::ys=>eqT x y && bO xs ys
 | _,_=>false
end
section
variable {K:W.Frag} {g:G} {H:Hp}
def yV(x l:List Nat):Bool:=!(O7 (tx l) (tx x) 0 (tx l).length 1).isEmpty
def eT(neg:Bool):R2:=fun x y H Q=>∃i j,x=.str i/\y=.str j/\Q (.bl (if neg then !(!(O7 j i 0 j.length 1).isEmpty) else !(O7 j i 0 j.length 1).isEmpty)) H
def yi(K:W.Frag)(neg:Bool):R2:=fun x y H Q=>eT neg x y H Q\/L3.wx K neg x y H Q
noncomputable def mxI:List Int->Int
 | []=>0
 | [a]=>a
 | a::r=>max a (mxI r)
end
section
variable {K:W.Frag}
noncomputable def wV(k T:String):Bool:=k == T || (k == "bool" && T == "int")
theorem xH(K:W.Frag){k T:String}(hk:k∈["NoneType", "bool", "int", "str", "tuple", "list"])(hT:T∈["int", "bool", "str", "tuple", "list"]):W.kitOne K (.type k) (.type T)=some (wV k T):=by
 simp only[D6,F7,or_false] at hk hT;rcases hk with rfl | rfl | rfl | rfl | rfl | rfl<;>rcases hT with rfl | rfl | rfl | rfl | rfl<;>kernel_rfl
def ku:R2:=fun x y H Q=>(Pq fun i j=>.bl (decide (i<=j))) x y H Q\/∃i j,x=.str i/\y=.str j/\Q (.bl (!decide (j.cps.toList < i.cps.toList))) H
end
theorem aO{X:Cx}:CH X (H9 .In) (eT false):=OJ
theorem w8{X:Cx}{j:Nat}(hr:pj j X.A):CH X (H9 .In) (yi X.K false):=aO.or (L3.w9 hr)
end Q
namespace L2
open PySem PySem.Spec PyProof.Rows
noncomputable def cT(ifs:List Expr)(env:Env):Sem Bool:=forIn ifs true fun c r=>if r=true then do let ok <- oW c env (M3 c env);pure (ForInStep.yield ok) else pure (ForInStep.yield r)
def Yi(X:Cx)(ifs:List Expr)(t:TT):Prop:=
 ∀(pins:List (A8×Obj)) (s:A5) (σ:St) (H:Hp) (Q:Bool->Hp->Prop),Inv X pins σ H s->t σ H Q->B4 (C3 X.prog X.w) X.A (cT ifs X.env) (TP X pins σ Q) X.xe s
theorem Yi.one{X:Cx}{c:Expr}{t:TT}(h:PT X c t):Yi X [c] t:=fun pins s σ H Q I q=>wpAny_tests_one (h pins s σ H Q I q)
theorem Ii{prog:E2}{w:F6}{A:F3}{R:Result->A5->Prop}{s:A5}{elt target iter:Expr}{ifs:List Expr}{scope:K0}{pos:Pos}{it acc:A3}{env:Env}(I:Nat->A5->Prop)
    (turn:∀n s,I n s->B4 (C3 prog w) A (mf it) (fun r pV=>match r with
      | none=>R (.ok .next) pV
      | some v=>B4 (C3 prog w) A (W3 target it v) (fun _ rn=>B4 (C3 prog w) A (T9 target env v) (fun _ qr=>B4 (C3 prog w) A (cT ifs env) (fun ok uf=>if ok=true then B4 (C3 prog w) A (M3 elt env) (fun x yU =>
          B4 (C3 prog w) A (call (.builtin "list.append") [acc,x]) (fun _ yT=>∃m,m < n/\I m yT) (fun _ _=>False) yU) (fun _ _=>False) uf else ∃m,m < n/\I m uf) (fun _ _=>False) qr) (fun _ _=>False) rn) (fun _ _=>False) pV) (fun _ _=>False) s)
    (n:Nat) (h:I n s) :
    j6 (C3 prog w) A (.compLoop (.ListComp elt [⟨target,iter,ifs,0⟩] scope pos) 0 it acc env) R s:=by
  refine codeAny_loop rfl I (fun n s hI=>?_) n h;show B4 _ _ ((compTurn (.ListComp elt [⟨target,iter,ifs,0⟩] scope pos) 0 it acc env).onRaise (fun x=>do Q6 x env;theTreesLotGoes x)) _ _ s;refine wpAny_noted ?_;rw[compTurn_list];have no:∀{E:A3->A5->Prop},∀(e:A3) (s:A5),False->E e s:=fun _ _ z=>z.elim
  refine A0 (Q5 (A0 (J4 (turn n s hI) (fun r pV h₁=>?_) no)));cases r with
  | none=>exact A7 h₁
  | some v =>
    refine A0 (J4 h₁ (fun _ rn sP=>?_) no);refine A0 (J4 sP (fun _ qr tQ=>A0 (J4 tQ (fun ok uf y0=>?_) no)) no);cases ok with
    | false=>exact A7 ⟨rfl,y0⟩
    | true=>exact A0 (A0 (J4 y0 (fun x yU zAX=>A0 (J4 zAX (fun _ yT zAW=>A7 (A7 ⟨rfl,zAW⟩)) no)) no))
section
variable {X:Cx} {tg iter elt:Expr} {ifs:List Expr} {scope:K0} {pos:Pos} {g:TG} {te:TE} {tc:TT} {js:List Nat} {wi:TI}
def MM(js:List Nat)(g:TG)(tc:TT)(te:TE)(J:It)(σ:St)(Fin:List V->Hp->Prop)(W:Nat->Nat->List V->Hp->Prop):Prop:=∀i m ys H,W i m ys H ->
 (J.stop i H/\Fin ys H)\/(J.go i H/\ys.length < sizeLine/\∃N:List V->Hp->Prop,(∀zs H',N zs H'->∃m',m' < m/\W (i+1) m' zs H')/\∀x H',J.yK i H x H'->g x (blank js σ) H' fun qO H2=>tc qO H2 fun b H3=>if b=true then te qO H3 fun v H4=>N (ys++[v]) H4 else N ys H3)
theorem Ez{pins:List (A8×Obj)}{s2:A5}{σ:St}{H2:Hp}{it:A8}{fp:List A8}{tn:Nat->F1->Prop}{J:It}{cl:List (Str×A8)}{W:Nat->Nat->List V->Hp->Prop}{Fin:List V->Hp->Prop}{E:A3->A5->Prop}{RR:A3->A8->Result->A5->Prop}
    (qi:qp X.N X.env.scope scope js) (hc:X.calm=true) (hg:∀cl C s H fp,PG (X.inner scope cl C s H fp) tg g) (vO:Pn js g) (zV:∀cl C s H fp,Yi (X.inner scope cl C s H fp) ifs tc) (he:∀cl C s H fp,PE (X.inner scope cl C s H fp) elt te)
    (I2:Inv X pins σ H2 s2) (T:Turn X.prog X.w X.K tg J fp it tn) (t0:tn 0 s2.heap) (hf:∀b∈fp,pd X pins H2 b)
    (u4:∀x c,cl.lookup x=some c->X.env.cells.lookup x=some c) (tV:∀x,scope.names.lookup x=some .free->∃c,cl.lookup x=some c)
    {m0:Nat} (w0:W 0 m0 [] H2) (turn:MM js g tc te J σ Fin W)
    (hRR:∀D C s' H' ys m,Inv X pins σ (upd H' D (.lst ys)) s'->H' D=none->Fin ys H'->s'.heap.Ns C m->C≠X.env.locals->X.pz.heap.objs.size<=C->(∀x c,X.env.cells.lookup x=some c->c≠C)->(∀p∈X.pn++pins,p.1≠C)->H' C=none->D≠C->RR (.ref D) C (.ok .next) s') :
    B4 (C3 X.prog X.w) X.A (newList []) (fun acc qr=>B4 (C3 X.prog X.w) X.A (mC scope X.env.globals cl [] X.env.qual none .none (some X.env)) (fun zy uf =>
      j6 (C3 X.prog X.w) X.A (.compStart (.ListComp elt [⟨tg,iter,ifs,0⟩] scope pos) 0 (.ref it) acc { zy with scope:=relabel scope X.env }) (RR acc zy.locals) uf) E qr) E s2:=by
  have vP:∀b∈fp,b < s2.heap.objs.size:=fun b hb=>let ⟨_,e,_⟩:=T.obj _ _ t0 b hb;B7 e
  refine F9 (Bb ?_);dsimp only
  generalize hHH:s2.heap.push { cls:=.type "list", dict:=none,data:=.seq ([]:List A3).toArray }=HH
  have hC:HH.objs.size=s2.heap.objs.size+1:=by rw[<- hHH,L0]
  have hDC:s2.heap.objs.size≠HH.objs.size:=by rw[hC];exact D3 (nX _)
  have xZ:s2.heap.objs.size<=HH.objs.size:=by rw[hC];exact mF _
  have below:∀b,b < s2.heap.objs.size->b≠HH.objs.size/\b≠s2.heap.objs.size:=fun b hb=>⟨by rw[hC];exact D3 (Nat.lt_succ_of_lt hb),D3 hb⟩
  obtain⟨h₁,so⟩:∃h₁,o6 (HH.push { cls:=.type "dict", data:=.dict #[] }) scope.names=h₁:=⟨_,rfl⟩
  have old:∀b o,s2.heap.get? b=some o->h₁.get? b=some o:=fun b o e=>so▸la _ _ b o (A6 _ (hHH▸A6 _ e))
  have zAi:h₁.get? s2.heap.objs.size=some { cls:=.type "list", data:=.seq ([]:List A3).toArray 0 }:=so▸la _ _ _ _ (A6 _ (hHH▸D1 _ rfl))
  have xS:h₁.Ns HH.objs.size (fun _=>none):=so▸(Heap.Ns.new HH (.type "dict")).keeps (la _ _)
  obtain⟨L,uy⟩:=Wd (s:=s2) (C:=HH.objs.size) qi u4 tV (h:=HH.push { cls:=.type "dict", data:=.dict #[] }) xZ (L0 ..)
  rw[so] at uy ⊢;generalize hcc:K6 (HH.objs.size+1) scope.names cl=uD at L uy ⊢;clear so hcc;generalize hDD:s2.heap.objs.size=D at *;generalize hCC:HH.objs.size=C at *;have u9:s2.heap.objs.size<=D:=nC hDD;have su:s2.heap.objs.size<=C:=by rw[hDD];exact xZ
  have tP:∀(pS:List A3) (n:Nat) v,({ cls:=.type "list", data:=.seq pS.toArray n }:Obj).data≠.cell v:=fun _ _ _ z=>by cases z
  have I4:Inv (X.inner scope uD C s2 H2 fp) (pins++[(D,{ cls:=.type "list", data:=.seq ([]:List A3).toArray 0 })]) (blank js σ) H2 { s2 with heap:=h₁,toks:=s2.toks }:=
    I2.enter qi hf (by rw[hDD];exact vP) su u9 hDC L uy old xS zAi (tP _ _)
  have tL:∀{H':Hp} {o:Obj},(∀b∈fp,H' b=none)->∀b∈fp,pd (X.inner scope uD C s2 H2 fp) (pins++[(D,o)]) H' b:=fun{H' o} hn b hb=>by
    obtain⟨_,f1,f2,f3,f4,f5⟩:=hf b hb;refine⟨hn b hb,(below b (vP b hb)).1,fun z=>?_,.inl hb,fun x c e=>L.ne e (by rw[hDD];exact vP b hb) f4,fun p hp=>?_⟩
    · rcases D6.mp (I2.qY b z) with e | e
      · exact f1 e
      · exact f2 e
    · have xM:p∈X.pn++(pins++[(D,o)]):=hp;rw[<- K9] at xM;rcases D4.mp xM with z | z
      · exact f5 p z
      · have e:p=(D,o):=by simpa using z
        subst e;exact fun z=>(below b (vP b hb)).2 z.symm
  have loop:∀qr:A5,qr={ s2 with heap:=h₁,toks:=s2.toks } ->
      j6 (C3 X.prog X.w) X.A (.compLoop (.ListComp elt [⟨tg,iter,ifs,0⟩] scope pos) 0 (.ref it) (.ref D) (compEnvC scope uD C X.env)) (RR (.ref D) C) qr:=by
    rintro qr rfl
    refine Ii (fun n s'=>∃i ys pS k H',Inv (X.inner scope uD C s2 H2 fp) (pins++[(D,{ cls:=.type "list", data:=.seq pS.toArray k })]) (blank js σ) H' s'/\tn i s'.heap/\(∀b∈fp,H' b=none)/\AG ys pS/\ys.length<=sizeLine/\W i n ys H') ?_ m0
      ⟨0,[],[],0,H2,I4,T.keep _ _ _ t0 fun b hb o e=>old b o e,fun b hb=>(hf b hb).1,.nil,M4 _,w0⟩
    rintro n s3 ⟨i,ys,pS,k,H3,I3,yY,ze,hv3,yB,w3⟩;rcases turn i n ys H3 w3 with⟨stop,fin⟩ | ⟨go,sQ,N,hN,step⟩
    · refine Ac (T.done (X.inner scope uD C s2 H2 fp) rfl rfl rfl hc i _ s3 _ H3 _ I3 (tL ze) yY stop) fun r s4 ⟨hr,I4⟩=>?_
      subst hr
      have pD:=I4.pin (D,{ cls:=.type "list", data:=.seq pS.toArray k }) (B6 _ (B6 _ B8))
      obtain⟨m,hn,_⟩:=id I4.loc;refine hRR D C s4 H3 ys m (I2.leave (fp:=fp) hf rfl I4 u9 pD.2.1 yB hv3 pD.1) pD.2.1 fin hn ?_ ?_ (fun x c e=>?_) (fun p hp=>?_) I4.free hDC
      · exact U0 (B3 I2.lt su)
      · exact A9 I2.sz su
      · exact D3 (B3 (I2.sR e) su)
      · exact D3 (B3 (I2.wN hp) su)
    · refine Ac (T.item (X.inner scope uD C s2 H2 fp) rfl rfl rfl hc i _ s3 _ H3 _ I3 (tL ze) yY go) fun r s4 ⟨u,hr,h4⟩=>?_
      subst hr;refine Ac h4 fun _ s5 ⟨x,H5,I5,r5,y5,vZ,fr5⟩=>?_
      have I5':=I5.pinned (tL fr5) (T.obj _ _ vZ);refine Ac (hg uD C s2 H2 fp _ s5 _ H5 x u _ I5' r5 (vO _ _ _ _ (step x H5 y5))) fun _ s6 ⟨xv,H6,I6,⟨hl6,hs6⟩,q6⟩=>?_
      refine Ac (zV uD C s2 H2 fp _ s6 xv H6 _ I6 q6) fun ok s6b ⟨H6b,I6b,q6b⟩=>?_
      have other:∀(s7:A5) (v:A3) (b:A8) (u:Obj),b≠D->s7.heap.get? b=some u->(s7.heap.update D (M8 fun a=>a.push v)).get? b=some u:=fun s7 v b u hb hu=>(G5 s7.heap (M8 fun a=>a.push v) (Ne.symm hb)).trans hu
      cases ok with
      | false =>
        obtain⟨m',hm,w7⟩:=hN _ _ q6b
        have pD:=I6b.pin (D,{ cls:=.type "list", data:=.seq pS.toArray k }) (B6 _ (C5 _ (B6 _ B8)))
        have zf:∀b∈fp,∀o,s5.heap.get? b=some o->s6b.heap.get? b=some o/\H6b b=none:=fun b hb o e =>
          let z:=I6b.pin (b,o) (B6 _ (B6 _ (CW hb e)));⟨z.1,z.2.1⟩
        have I8:Inv (X.inner scope uD C s2 H2 fp) pins (blank js σ) H6b s6b:=by
          have Ia:Inv (X.inner scope uD C s2 H2 fp) pins xv H6b s6b:=I6b.qa fun p hp=>I6b.pin p (B6 _ (C5 _ (C5 _ hp)))
          exact Ia.weak hl6.symm fun i v e=>by
            obtain⟨hj,_⟩:=El js σ i v e;rw[hs6 i hj];exact e
        refine⟨m',hm,i+1,ys,pS,k,H6b,I8.qa (fun p hp=>?_),T.keep _ _ _ vZ fun b hb o e=>(zf b hb o e).1,fun b hb=>?_,hv3,yB,w7⟩
        · rcases D4.mp hp with z | z
          · exact I8.pin p (B6 _ z)
          · have e:p=(D,_):=E5.mp z;subst e;exact⟨pD.1,pD.2.1,pD.2.2.1,pD.2.2.2.1,tP _ _⟩
        · obtain⟨o,e,_⟩:=T.obj _ _ vZ b hb;exact(zf b hb o e).2
      | true =>
      refine Ac (he uD C s2 H2 fp _ s6b xv H6b _ I6b q6b) fun v s7 ⟨y,H7,I7,r7,n7⟩=>?_
      obtain⟨m',hm,w7⟩:=hN _ _ n7
      have pD:=I7.pin (D,{ cls:=.type "list", data:=.seq pS.toArray k }) (B6 _ (C5 _ (B6 _ B8)))
      have lt:pS.toArray.size<=sizeLine:=by rw[B0,<- hv3.length];exact yB
      refine oo F.slot_list_append ⟨_,pD.1,rfl⟩ F.entry_list_append (F.args_list_append_2 _ _) (nA D pS.toArray k v lt) ⟨pD.1,?_⟩
      obtain⟨k',q⟩:∃k',(s7.heap.update D (M8 fun a=>a.push v)).get? D=some { cls:=.type "list", data:=.seq (pS.toArray.push v) k' }:=⟨_,nU pD.1 (fun a=>a.push v)⟩
      have eq:(pS.toArray.push v)=(pS++[v]).toArray:=by simp
      have zf:∀b∈fp,∀o,s5.heap.get? b=some o->s7.heap.get? b=some o/\H7 b=none:=fun b hb o e =>
        let z:=I7.pin (b,o) (B6 _ (B6 _ (CW hb e)));⟨z.1,z.2.1⟩
      have other:∀b u,b≠D->s7.heap.get? b=some u->(s7.heap.update D (M8 fun a=>a.push v)).get? b=some u:=fun b u hb hu=>(G5 s7.heap (M8 fun a=>a.push v) (Ne.symm hb)).trans hu
      have I8:Inv (X.inner scope uD C s2 H2 fp) pins (blank js σ) H7 { s7 with heap:=s7.heap.update D (M8 fun a=>a.push v),toks:=s7.toks }:=by
        have Ia:Inv (X.inner scope uD C s2 H2 fp) pins xv H7 s7:=I7.qa fun p hp=>I7.pin p (B6 _ (C5 _ (C5 _ hp)))
        have Ib:Inv (X.inner scope uD C s2 H2 fp) pins (blank js σ) H7 s7:=Ia.weak hl6.symm fun i v e=>by
          obtain⟨hj,_⟩:=El js σ i v e;rw[hs6 i hj];exact e
        refine Ib.turned (it:=D) (fun b o hb e=>other b o hb e) pD.2.1 pD.2.2.1 (.inr u9) (fun x c e=>?_) (fun p hp=>?_)
        · cases q:AO scope x with
          | false=>exact D3 (B3 (I2.sR (L.old x c e q)) u9)
          | true=>exact U0 (Y8 xZ (L.own x c e q).2)
        · exact D3 (B3 (I2.wN hp) u9)
      refine⟨m',hm,i+1,ys++[y],pS++[v],k',H7,I8.qa (fun p hp=>?_),T.keep _ _ _ vZ fun b hb o e=>other b o (below b (vP b hb)).2 (zf b hb o e).1,fun b hb=>?_,hv3.append (.cons r7 .nil),by rw[D9,N8];omega,w7⟩
      · rcases D4.mp hp with z | z
        · exact I8.pin p (B6 _ z)
        · have e:p=(D,_):=E5.mp z;subst e;rw[<- eq];exact⟨q,pD.2.1,pD.2.2.1,pD.2.2.2.1,tP _ _⟩
      · obtain⟨o,e,_⟩:=T.obj _ _ vZ b hb;exact(zf b hb o e).2
  exact codeAny_compStart_list (loop _ rfl) (T.self _ 0 _ _ _ (T.keep _ _ _ t0 fun b hb o e=>old b o e) (loop _ rfl))
def FY(wi:TI)(js:List Nat)(g:TG)(tc:TT)(te:TE):TE:=fun σ H Q=>wi σ H fun J H1=>∃W:Nat->Nat->List V->Hp->Prop,(∃m,W 0 m [] H1)/\MM js g tc te J σ (fun ys H=>∀p,H p=none->Q (.ref p) (upd H p (.lst ys))) W
theorem JV(qi:qJ X.N X.env.scope scope js=true)(hc:X.calm=true)(hi:PI X tg iter wi)(hg:∀cl C s H fp,PG (X.inner scope cl C s H fp) tg g)(vO:Pn js g)(zV:∀cl C s H fp,Yi (X.inner scope cl C s H fp) ifs tc)(he:∀cl C s H fp,PE (X.inner scope cl C s H fp) elt te)
    (hs:∀x,M6 iter X.env x=pure x:=by intro _;rfl):PE X (.ListComp elt [⟨tg,iter,ifs,0⟩] scope pos) (FY wi js g tc te):=by
  intro pins s σ H Q I h;have qi:=GP qi;obtain⟨cl,u3,u4,tV⟩:=Ga (scope:=scope) (env:=X.env) (fun x hx=>I.ok.has x (qi.fr x hx)) qi.wC;rw[eval_ListComp];refine a7 (use:=none) rfl hs u3 qi.kind qi.wB ?_;refine Ac (hi pins s σ H _ I h) fun v s1 h1=>Ac h1 fun itv s2 h2=>?_
  obtain⟨it,fp,tn,J,H2,e,I2,T,wt,f2,W,⟨m0,w0⟩,turn⟩:=h2;subst e;refine Ez (RR:=fun acc C=>compPost (C3 X.prog X.w) X.A X.xe none (EP X pins σ Q) acc C) qi hc hg vO zV he I2 T wt f2 u4 tV w0 turn ?_;intro D C s' H' ys m I' hD fin hn c1 c2 c3 c4 c5 c6;refine⟨m,hn,fun h' sb=>⟨.ref D,_,I'.turned (t':=s'.toks) (it:=C) (fun b o hb e=>(sb.2 b hb).trans e) ?_ c1 (.inr c2) c3 c4,rfl,fin D hD⟩⟩;rw[AE (Ne.symm c6)];exact c5
theorem JT{i:Nat}{x:Str}{pos' r8:Pos}(hN:X.N.Nodup)(xT:X.N[i]?=some x)(hx:Loc X.env.scope x)
    (qi:qJ X.N X.env.scope scope js=true) (hc:X.calm=true) (hi:PI X tg iter wi) (hg:∀cl C s H fp,PG (X.inner scope cl C s H fp) tg g) (vO:Pn js g) (zV:∀cl C s H fp,Yi (X.inner scope cl C s H fp) ifs tc) (he:∀cl C s H fp,PE (X.inner scope cl C s H fp) elt te)
    (zB:Q4 (.ListComp elt [⟨tg,iter,ifs,0⟩] scope pos) (some (.Name x pos')) r8.line X.env=pure true:=by rfl)
    (hs:∀x,M6 iter X.env x=pure x:=by intro _;rfl)
    (hf:X.fn x=true\/X.env.scope.names.lookup x=some .local:=by first | exact .inl rfl | exact .inr rfl | assumption) :
    PS X (.Assign [.Name x pos'] (.ListComp elt [⟨tg,iter,ifs,0⟩] scope pos) r8) (JG (FY wi js g tc te) (CM i)):=by
  intro pins s σ H D I h;have qi:=GP qi;obtain⟨cl,u3,u4,tV⟩:=Ga (scope:=scope) (env:=X.env) (fun x hx=>I.ok.has x (qi.fr x hx)) qi.wC;rw[exec_Assign_Name_used _ _ _ _ zB];refine A0 (Q5 (A0 ?_));show B4 _ _ (do let _ <- comprehension (.ListComp elt [⟨tg,iter,ifs,0⟩] scope pos) scope X.env _ (newList []) false (M3 iter X.env) (some (T9 (.Name x pos') X.env))) _ _ s;refine A0 (Ac (a7 (use:=some (T9 (.Name x pos') X.env)) (Q:=fun _ s'=>SP X pins D .next s') rfl hs u3 qi.kind qi.wB ?_) (fun _ s' hq=>A7 (A7 hq)));refine Ac (hi pins s σ H _ I h) fun v s1 h1=>Ac h1 fun itv s2 h2=>?_
  obtain⟨it,fp,tn,J,H2,e,I2,T,wt,f2,W,⟨m0,w0⟩,turn⟩:=h2;subst e;refine Ez (RR:=fun acc C=>compPost (C3 X.prog X.w) X.A X.xe (some (T9 (.Name x pos') X.env)) (fun _ s'=>SP X pins D .next s') acc C) qi hc hg vO zV he I2 T wt f2 u4 tV w0 turn ?_;intro DD C s' H' ys m I' hD fin hn c1 c2 c3 c4 c5 c6;show B4 _ _ (T9 (.Name x pos') X.env (.ref DD)) _ _ _;refine mx (HJ (v:=.ref DD) I' hN xT hx rfl (fun yg I'' ⟨a,sb,ha⟩=>?_) hf);have ne:C≠a:=by
    rcases ha with z | z
    · rw[z];exact c1
    · exact(c3 x a z).symm
  refine⟨m,hn.sameBut sb ne,fun h' sb'=>⟨_,_,I''.turned (t':=yg.toks) (it:=C) (fun b o hb e=>(sb'.2 b hb).trans e) ?_ c1 (.inr c2) c3 c4,fin DD hD⟩⟩;rw[AE (Ne.symm c6)];exact c5
end
end L2
namespace R
open PySem L2
section
variable {γ:Type}
noncomputable def Ba(g:Dv->γ->Option (Dv×γ)):List Dv->γ->Option (List Dv×γ)
 | [],c=>some ([],c)
 | x::xs,c=>(g x c).bind fun p=>(Ba g xs p.2).bind fun q=>some (p.1::q.1,q.2)
noncomputable def Cu(g:Dv->Option Dv):List Dv->Option (List Dv)
 | []=>some []
 | x::xs=>(g x).bind fun p=>(Cu g xs).bind fun q=>some (p::q)
noncomputable def gK(g:Dv->γ->Option (Option Dv×γ)):List Dv->γ->Option (List Dv×γ)
 | [],c=>some ([],c)
 | x::xs,c=>(g x c).bind fun p=>(gK g xs p.2).bind fun q=>some (match p.1 with | some d=>d::q.1 | none=>q.1,q.2)
noncomputable def aU(g:Dv->Option (Option Dv)):List Dv->Option (List Dv)
 | []=>some []
 | x::xs=>(g x).bind fun p=>(aU g xs).bind fun q=>some (match p with | some d=>d::q | none=>q)
noncomputable def Gn{α:Type}(xs:List Dv)(o:Option α):Option α:=if xs.length<=1000000 then o else none
end
theorem GU{α:Type}{xs:List Dv}{o:Option α}{a:α}(h:Gn xs o=some a):xs.length<=1000000/\o=some a:=by
 unfold Gn at h;split at h
 ·rename_i z;exact⟨z,h⟩
 ·cases h
section
variable {K:W.Frag} {g g':G} {H H':Hp} {Γ:Gm} {m:M} {σ:St} {P:Fp}
theorem Rel.sub{Γ':Gm}{σ':St}(h:Rel K g H Γ m σ P)(hl:Γ'.length=Γ.length)(hs:σ'.length=σ.length)(k:∀(i o:Nat),Γ'[i]?=some (some o)->Γ[i]?=some (some o)/\σ'[i]?=σ[i]?):∃P',Rel K g H Γ' m σ' P'/\∀a,P' a->P a:=by
 obtain⟨zd,F,h1,h4⟩:=h;refine⟨fun a=>∃i,(∃o,Γ'[i]?=some (some o))/\F i a,⟨zd,fun i a=>(∃o,Γ'[i]?=some (some o))/\F i a,⟨by rw[hl];exact h1.l1,by rw[hs,hl];exact h1.l2,fun i o e=>?_,fun i e a q=>q.1.elim fun o z=>e o z,fun i j n a q z=>h1.dj i j n a q.2 z.2⟩,fun _=>X5⟩,fun a ⟨i,_,q⟩=>(h4 a).mpr ⟨i,q⟩⟩;obtain⟨e',es⟩:=k i o e;obtain⟨d,v,e1,e2,r⟩:=h1.rep i o e';have eq:(fun a=>(∃o,Γ'[i]?=some (some o))/\F i a)=F i:=funext fun a=>propext ⟨fun z=>z.2,fun z=>⟨⟨o,e⟩,z⟩⟩
 exact⟨d,v,e1,by rw[es];exact e2,by show Rep K g H o d v fun a=>(∃o,Γ'[i]?=some (some o))/\F i a;rw[eq];exact r⟩
theorem Rel.more{Γ':Gm}{σ':St}(h:Rel K g H Γ m σ P)(hl:Γ'.length=Γ.length)(hs:σ'.length=σ.length)(k:∀(i o:Nat),Γ'[i]?=some (some o)->(Γ[i]?=some (some o)/\σ'[i]?=σ[i]?)\/(o=0/\∃d v,m[i]?=some d/\σ'[i]?=some (some v)/\Rep K g H 0 d v pT)):∃P',Rel K g H Γ' m σ' P'/\∀a,P' a->P a:=by
 obtain⟨zd,F,h1,h4⟩:=h
 let C:Nat->Prop:=fun i=>∃o,Γ'[i]?=some (some o)/\Γ[i]?=some (some o)/\σ'[i]?=σ[i]?
 refine⟨fun a=>∃i,C i/\F i a,⟨zd,fun i a=>C i/\F i a,⟨by rw[hl];exact h1.l1,by rw[hs,hl];exact h1.l2,fun i o e=>?_,fun i e a q=>q.1.elim fun o z=>e o z.1,fun i j n a q z=>h1.dj i j n a q.2 z.2⟩,fun _=>X5⟩,fun a ⟨i,_,q⟩=>(h4 a).mpr ⟨i,q⟩⟩
 by_cases c:C i
 ·obtain⟨o',e1,e2,e3⟩:=c;rw[e] at e1;cases e1;obtain⟨d,v,e4,e5,r⟩:=h1.rep i o e2;have eq:(fun a=>C i/\F i a)=F i:=funext fun a=>propext ⟨fun z=>z.2,fun z=>⟨⟨o,e,e2,e3⟩,z⟩⟩
  exact⟨d,v,e4,by rw[e3];exact e5,by show Rep K g H o d v fun a=>C i/\F i a;rw[eq];exact r⟩
 ·have eq:(fun a=>C i/\F i a)=pT:=CV fun a z=>c z.1
  rcases k i o e with z | ⟨rfl,d,v,e1,e2,r⟩
  ·exact(c ⟨o,e,z⟩).elim
  ·exact⟨d,v,e1,e2,by show Rep K g H 0 d v fun a=>C i/\F i a;rw[eq];exact r⟩
end
def Ki(js:List Nat)(Γ:Gm):Gm:=(C2 Γ.length).map fun i=>if js.contains i then none else Γ.getD i none
def LD(js:List Nat)(qA Γ:Gm):Gm:=(C2 Γ.length).map fun i=>if js.contains i then(if qA.getD i none == some 0 then some 0 else none) else Γ.getD i none
theorem Dw{α:Type}{n i:Nat}{f:Nat->α}{x:α}(h:((C2 n).map f)[i]?=some x):i < n/\x=f i:=by
 rw[C0] at h
 by_cases z:i < n
 ·rw[L7 z] at h;exact⟨z,(C7 h).symm⟩
 ·rw[List.getElem?_eq_none_iff.mpr (by simpa using z)] at h;cases h
theorem BU{Γ:Gm}{i o:Nat}(h:Γ.getD i none=some o):Γ[i]?=some (some o):=by
 rw[D0] at h;cases e:Γ[i]? with
 | none=>rw[e] at h;cases h
 | some x=>rw[e] at h;exact congrArg some h
theorem Cb{js:List Nat}{Γ:Gm}{i o:Nat}(h:(Ki js Γ)[i]?=some (some o)):i∉js/\Γ[i]?=some (some o):=by
 obtain⟨_,e⟩:=Dw h;split at e
 ·cases e
 ·rename_i z;exact⟨fun q=>z (C4.mpr q),BU e.symm⟩
theorem Ht(js:List Nat):∀(σ:St) (i:Nat),i∉js->(L2.blank js σ)[i]?=σ[i]?:=by
 induction js with
 | nil=>intro σ i _;rfl
 | cons j js ih =>
  intro σ i h;show(L2.blank js (σ.set j none))[i]?=_;rw[ih _ i fun z=>h (B5 _ z),C9 fun z=>h (by rw[<- z];exact B8)]
theorem GZ{K:W.Frag}{qA pU rJ uH vX:Gm}{jx jt jc jf J:List Nat}{g:TG}{ft:Tg}{c:Ev Bool}{f:Ev Dv}(ht:Kb K pU rJ jt g ft)(vR:BL pU (Ki jx qA)=true)(xK:BL pU vX=true)(ur:BL pU uH=true)(uR:∀i∈jt,i∈jx)
    (hJ:J=BJ pU (jt++(jc++jf))) {ds:List Dv} (hz:ds.length<=1000000) {m1:M} {σ:St} {H1:Hp} {g1:G} {P1:Fp} {I:It} {R:Type} {k:Dv->M->Option R} {res:R} {Q:VK}
    (r1:Rel K g1 H1 qA m1 σ P1) (yl:Yl K I ds g1 H1) (run:List Dv->EN J->List Dv->Prop) (h0:run ds (Af J m1) []) (hn:∀t ya,run [] t ya->k (.lst ya) (An J m1 t)=some res)
    (hc:∀d ds t ya,run (d::ds) t ya->∃(B:Type) (kx:Dv->M->Option B) (kf:M->Option B) (r:B),ft B d (An J m1 t) (fun m2=>c B m2 fun b m3=>if b=true then f B m3 kx else kf m3)=some r/\(∀x m',kx x m'=some r->run ds (Af J m') (ya++[x]))/\∀m',kf m'=some r->run ds (Af J m') ya)
    (q:∀d m' g' P' Pv v H',k d m'=some res->BQ (jt++(jc++jf)) m1 m'->Step g1 P1 H1 g' (fun a=>P' a\/Pv a) H'->Rep K g' H' 1 d v Pv->Rel K g' H' (LD jx qA pU) m' σ P'->BY P' Pv->Q v H') :
    ∃W:Nat->Nat->List V->Hp->Prop,(∃m,W 0 m [] H1)/\MM jx g (tT K rJ uH jc c) (tE K uH 0 vX jf f) I σ (fun ys H=>∀p,H p=none->Q (.ref p) (upd H p (.lst ys))) W:=by
  have sub:∀i∈J,i∈jt++(jc++jf):=fun i h=>Az (hJ▸h)
  have nJ:∀i∈J,i∉jx:=fun i h z=>by
    rw[hJ] at h;have:=(Q0.mp h).2;rw[A2] at this;cases e:pU.getD i none with
    | none=>rw[e] at this;cases this.2
    | some o =>
      obtain⟨o',e',_⟩:=EE vR (BU e);exact(Cb e').1 z
  have lb:(Ki jx qA).length=qA.length:=by unfold Ki;simp
  obtain⟨Pb,rb,sb⟩:=r1.sub (Γ':=Ki jx qA) (σ':=L2.blank jx σ) lb (L2.qS ..) fun i o e=>⟨(Cb e).2,Ht jx σ i (Cb e).1⟩
  obtain⟨g0,P0,s0,r0⟩:=rb.weaken vR;have wK:Step g1 P1 H1 g0 P0 H1:=s0.sub sb fun _ z=>z
  refine⟨fun i j ys H=>j=ds.length - i/\i<=ds.length/\ys.length<=i/\∃g2 t P2 ya,Step g1 P1 H1 g2 P2 H/\Rel K g2 H pU (An J m1 t) (L2.blank jx σ) P2/\AA K g2 H 0 ya ys pT/\run (ds.drop i) t ya,
    ⟨ds.length,by simp,M4 _,M4 _,g0,Af J m1,P0,[],wK,La r0,AA.nil,by simpa using h0⟩,?_⟩
  rintro i j ys H2 ⟨rfl,hi,hyl,g2,t,P2,ya,s2,r2,ry,e2⟩;have st:Gg g1 H1 g2 H2:=⟨P1,P2,s2,r1.pZ⟩
  by_cases sQ:i < ds.length
  · rw[R7 sQ] at e2;obtain⟨B,kx,kf,rB,e3,hx,hf⟩:=hc _ _ _ _ e2;obtain⟨go,yy⟩:=(yl g2 H2 st).1 i ds[i] (A4 sQ);refine .inr ⟨go,Y8 hyl (B3 sQ (A9 hz (by decide))),fun zs H'=>zs.length<=i+1/\∃g5 P5 m' za,Step g1 P1 H1 g5 P5 H'/\Rel K g5 H' pU m' (L2.blank jx σ) P5/\BQ (jt++(jc++jf)) m1 m'/\AA K g5 H' 0 za zs pT/\run (ds.drop (i+1)) (Af J m') za,?_,fun y H3 hy=>?_⟩
    · rintro zs H' ⟨hl,g5,P5,m',za,s5,r5,ag,rz,hr⟩;exact⟨ds.length - (i+1),by omega,rfl,sQ,hl,g5,Af J m',P5,za,s5,r5.join ag fun i o h=>hJ▸BS h,rz,hr⟩
    · obtain⟨Pv,s3,h3,r3,n3⟩:=Ak.go s2 r2 (yy y H3 hy);have ry3:AA K g2 H3 0 ya ys pT:=ry.held (Step.same (P:=pT) (yy y H3 hy).1) pd.pT fun _ _ z=>z
      refine ht g2 _ P2 ds[i] y _ H3 B _ rB _ r3 h3.z e3 fun m2 P' σ' hk ag sp ip r'=>?_
      have s4:Step g1 P1 H1 g2 P' H3:=s3.less fun a z=>.inl (sp a z)
      have a4:BQ (jt++(jc++jf)) m1 m2:=((AU J m1 t).mono sub).trans ag |>.mono fun i z=>(D4.mp z).elim id fun z=>C5 _ z
      -- outside of wF uW own slots nothing is bound
      have back:∀{g5:G} {P5:Fp} {m':M} {H':Hp},Rel K g5 H' pU m' σ' P5->∃P6,Rel K g5 H' pU m' (L2.blank jx σ) P6/\∀a,P6 a->P5 a:=fun{g5 P5 m' H'} r5=>r5.sub rfl (by rw[ip.1]) fun i o e=>⟨e,(ip.2 i fun z=>by
          obtain⟨o',e',_⟩:=EE vR e;exact(Cb e').1 (uR i z)).symm⟩
      refine⟨g2,m2,P',r',B,_,rB,hk,fun b m3 g4 P4 H4 hk4 ag4 s5 r4=>?_⟩;have ry4:=ry3.held s5 r'.pZ fun _ z=>z.elim
      cases b with
      | false =>
        rw[if_neg C6] at hk4;show(if false=true then _ else _);rw[if_neg C6];obtain⟨g6,P6,s6,r6⟩:=r4.weaken ur;obtain⟨P7,r7,sp7⟩:=back r6;exact⟨by omega,g6,P7,m3,ya,((s4.trans s5).trans s6).less sp7,r7,(a4.trans ag4).mono fun i z=>(D4.mp z).elim id fun z=>B6 _ (C5 _ z),ry4.held s6 r4.pZ fun _ z=>z.elim,hf m3 hk4⟩
      | true =>
        rw[if_pos rfl] at hk4;show(if true=true then _ else _);rw[if_pos rfl];refine⟨g4,m3,P4,r4,B,kx,rB,hk4,fun x m4 g5 P5 Pv v H5 hk5 ag5 s6 rv r5 n5=>?_⟩;have ry5:=ry4.held s6 r4.pZ fun _ z=>z.elim
        obtain⟨g6,P6,s7,r6⟩:=r5.weaken xK;obtain⟨P7,r7,sp7⟩:=back r6;refine⟨by rw[D9,N8];omega,g6,P7,m4,ya++[x],(((s4.trans s5).trans (s6.less fun _ z=>.inl z)).trans s7).less sp7,r7,?_,?_,hx x m4 hk5⟩
        · exact((a4.trans ag4).trans ag5).mono fun i z=>(D4.mp z).elim (fun z=>(D4.mp z).elim id fun z=>B6 _ (C5 _ z)) fun z=>B6 _ (B6 _ z)
        · refine((AA.app ry5 (AA.cons rv.z AA.nil fun _ z=>z.elim) fun _ z=>z.elim).iff (Q:=pT) fun a=>⟨fun z=>z.elim,fun z=>z.elim id fun z=>z.elim id id⟩).held s7 r5.pZ fun _ z=>z.elim
  · have ei:i=ds.length:=by omega
    subst ei;rw[nW] at e2;refine .inl ⟨(yl g2 H2 st).2 _ (B9 _),fun p hp=>?_⟩;obtain⟨Pv,s3,h1,r3,n3⟩:=Ak.go s2 r2 (Ak.lst r2.zd ry hp);have l1:pU.length=qA.length:=(DN vR).trans lb;obtain⟨P4,r4,sp4⟩:=r3.more (Γ':=LD jx qA pU) (σ':=σ) (by unfold LD;simp) (by rw[L2.qS]) fun i o e=>by
      obtain⟨hi,e⟩:=Dw e;split at e
      · rename_i z;split at e
        · rename_i z0;cases e;refine .inr ⟨rfl,?_⟩;obtain⟨v,Px,ev,rx,_⟩:=r1.tF (BU (beq_iff_eq.mp z0));have ji:i∉J:=fun w=>nJ i w (C4.mp z)
          have hl:i < m1.length:=by rw[r1.len.1,<- l1];exact hi
          refine⟨m1.at i,v,?_,ev,(rx.z.held s2 r1.pZ fun _ z=>z.elim).held (Step.same (P:=pT) (Cp hp (.lst ys))) pd.pT fun _ _ z=>z⟩;have:=(AU J m1 t).2 i ji;have sS:i < (An J m1 t).length:=by rw[Fv];exact hl
          rw[A4 sS,<- this];unfold M.at;rw[D0,A4 sS];rfl
        · cases e
      · rename_i z;exact .inl ⟨BU e.symm,(Ht jx σ i fun w=>z (C4.mpr w)).symm⟩
    exact q _ _ g2 P4 Pv _ _ (hn t ya e2) ((AU J m1 t).mono sub) (s3.less fun a z=>z.elim (fun z=>.inl (sp4 a z)) .inr) h1 r4 fun a z w=>n3 a (sp4 a z) w
def SR(src:Ev (List Dv))(tg:Tg)(f:Ev Dv):Ev Dv:=fun R m k=>src R m fun ds m1=>Gn ds ((Cu (fun d=>tg Dv d m1 fun m2=>f Dv m2 fun x _=>some x) ds).bind fun xs=>k (.lst xs) m1)
def SS(src:Ev (List Dv))(tg:Tg)(c:Ev Bool)(f:Ev Dv):Ev Dv:=fun R m k=>src R m fun ds m1=>Gn ds ((aU (fun d=>tg (Option Dv) d m1 fun m2=>c (Option Dv) m2 fun b m3=>if b=true then f (Option Dv) m3 fun x _=>some (some x) else some none) ds).bind fun xs=>k (.lst xs) m1)
def NR(src:Ev (List Dv))(tg:Tg)(J:List Nat)(f:Ev Dv):Ev Dv:=fun R m k=>src R m fun ds m1=>Gn ds ((Ba (fun d t=>tg (Dv×EN J) d (An J m1 t) fun m2=>f (Dv×EN J) m2 fun x m3=>some (x,Af J m3)) ds (Af J m1)).bind fun p=>k (.lst p.1) (An J m1 p.2))
def Di:Ev Bool:=fun _ m k=>k true m
section
variable {K:W.Frag} {Γ qA pU rJ uH vX:Gm} {js jx jt jc jf J:List Nat} {g:TG} {ft:Tg} {c:Ev Bool} {f:Ev Dv} {src:Ev (List Dv)} {σ:St} {H:Hp} {Q:VK}
theorem Rh(ht:Kb K pU rJ jt g ft)(vR:BL pU (Ki jx qA)=true)(xK:BL pU vX=true)(ur:BL pU rJ=true)(uR:∀i∈jt,i∈jx)(hJ:([]:List Nat)=BJ pU (jt++([]++jf)))
    (h:tE K Γ 1 (LD jx qA pU) (js++(jt++([]++jf))) (SR src ft f) σ H Q):FY (tI K Γ qA js src) jx g (tT K rJ rJ [] Di) (tE K rJ 0 vX jf f) σ H Q:=by
  obtain⟨g0,m,P,r,R,k,res,e,q⟩:=h;refine⟨g0,m,P,r,R,_,res,e,fun ds m1 g1 P1 H1 I hk ag s r1 yl=>?_⟩;obtain⟨hz,hk⟩:=GU hk;obtain⟨xs,e1,e2⟩:=pR hk;refine GZ (c:=Di) ht vR xK ur uR hJ hz r1 yl (fun ds _ ya=>∃yb,xs=ya++yb/\Cu _ ds=some yb) ⟨xs,rfl,e1⟩ (fun t ya ⟨yb,h1,h2⟩=>?_) (fun d ds t ya ⟨yb,h1,h2⟩=>?_) fun d m' g' P' Pv v H' hk sC s'=>q d m' g' P' Pv v H' hk (ag.trans sC) (s.trans s')
  · cases h2;rw[F8] at h1;subst h1;exact e2
  · obtain⟨x,h3,h4⟩:=pR h2;obtain⟨yc,h5,h6⟩:=pR h4;cases h6;exact⟨Dv,fun x _=>some x,fun _=>none,x,h3,(fun y m' hk=>by cases hk;exact⟨yc,by rw[h1,K9];rfl,h5⟩),fun m' hk=>by cases hk⟩
theorem Ri(ht:Kb K pU rJ jt g ft)(vR:BL pU (Ki jx qA)=true)(xK:BL pU vX=true)(ur:BL pU uH=true)(uR:∀i∈jt,i∈jx)(hJ:([]:List Nat)=BJ pU (jt++(jc++jf)))
    (h:tE K Γ 1 (LD jx qA pU) (js++(jt++(jc++jf))) (SS src ft c f) σ H Q):FY (tI K Γ qA js src) jx g (tT K rJ uH jc c) (tE K uH 0 vX jf f) σ H Q:=by
  obtain⟨g0,m,P,r,R,k,res,e,q⟩:=h;refine⟨g0,m,P,r,R,_,res,e,fun ds m1 g1 P1 H1 I hk ag s r1 yl=>?_⟩;obtain⟨hz,hk⟩:=GU hk;obtain⟨xs,e1,e2⟩:=pR hk;refine GZ ht vR xK ur uR hJ hz r1 yl (fun ds _ ya=>∃yb,xs=ya++yb/\aU _ ds=some yb) ⟨xs,rfl,e1⟩ (fun t ya ⟨yb,h1,h2⟩=>?_) (fun d ds t ya ⟨yb,h1,h2⟩=>?_) fun d m' g' P' Pv v H' hk sC s'=>q d m' g' P' Pv v H' hk (ag.trans sC) (s.trans s')
  · cases h2;rw[F8] at h1;subst h1;exact e2
  · obtain⟨x,h3,h4⟩:=pR h2;obtain⟨yc,h5,h6⟩:=pR h4;cases h6;refine⟨Option Dv,fun x _=>some (some x),fun _=>some none,x,h3,(fun y m' hk=>?_),fun m' hk=>?_⟩
    · cases hk;exact⟨yc,by rw[h1,K9];rfl,h5⟩
    · cases hk;exact⟨yc,h1,h5⟩
theorem PD(ht:Kb K pU rJ jt g ft)(vR:BL pU (Ki jx qA)=true)(xK:BL pU vX=true)(ur:BL pU rJ=true)(uR:∀i∈jt,i∈jx)(hJ:J=BJ pU (jt++([]++jf)))
    (h:tE K Γ 1 (LD jx qA pU) (js++(jt++([]++jf))) (NR src ft J f) σ H Q):FY (tI K Γ qA js src) jx g (tT K rJ rJ [] Di) (tE K rJ 0 vX jf f) σ H Q:=by
  obtain⟨g0,m,P,r,R,k,res,e,q⟩:=h;refine⟨g0,m,P,r,R,_,res,e,fun ds m1 g1 P1 H1 I hk ag s r1 yl=>?_⟩;obtain⟨hz,hk⟩:=GU hk;obtain⟨p,e1,e2⟩:=pR hk;refine GZ (c:=Di) ht vR xK ur uR hJ hz r1 yl (fun ds t ya=>∃yb,p.1=ya++yb/\Ba _ ds t=some (yb,p.2)) ⟨p.1,rfl,e1⟩ (fun t ya ⟨yb,h1,h2⟩=>?_) (fun d ds t ya ⟨yb,h1,h2⟩=>?_) fun d m' g' P' Pv v H' hk sC s'=>q d m' g' P' Pv v H' hk (ag.trans sC) (s.trans s')
  · simp only[Ba,U6,Prod.mk.injEq] at h2;obtain⟨rfl,rfl⟩:=h2;rw[F8] at h1;rw[<- h1];exact e2
  · obtain⟨x,h3,h4⟩:=pR h2;obtain⟨yc,h5,h6⟩:=pR h4;simp only[U6,Prod.mk.injEq] at h6;obtain⟨rfl,h7⟩:=h6;refine⟨_,fun x m3=>some (x,Af J m3),fun _=>none,x,h3,(fun y m' hk=>?_),fun m' hk=>by cases hk⟩;cases hk;exact⟨yc.1,by rw[h1,K9];rfl,by rw[<- h7];exact h5⟩
end
end R
namespace L2
open PySem PySem.Spec PyProof.Rows
theorem EM{a b:Nat}(h:a≠b):@Ne A8 a b:=h
def Gv(h:F1)(it l:A8)(i:Nat):Bool->Prop
 | false=>h.IsListIter it l i
 | true=>h.IsTupleIter it l i
def Gw(h:F1)(l:A8)(xs:Array A3):Bool->Prop
 | false=>h.IsList l xs
 | true=>h.IsTuple l xs
noncomputable def NC(l:A8):Bool->Obj
 | false=>{ cls:=.type "list_iterator", data:=.fields #[.ref l,.int 0 0] }
 | true=>{ cls:=.type "tuple_iterator", data:=.fields #[.ref l,.int 0 0] }
variable {h:F1} {it l:A8} {i:Nat} {b:Bool}
theorem Gv.at{h':F1}(x:Gv h it l i b)(k:∀o,h.get? it=some o->h'.get? it=some o):Gv h' it l i b:=by
 cases b with
 | false=>obtain⟨o,e,r⟩:=x;exact⟨o,k o e,r⟩
 | true=>obtain⟨o,e,r⟩:=x;exact⟨o,k o e,r⟩
theorem Gw.at{h':F1}{xs:Array A3}(x:Gw h l xs b)(k:∀o,h.get? l=some o->h'.get? l=some o):Gw h' l xs b:=by
 cases b with
 | false=>obtain⟨o,e,r⟩:=x;exact⟨o,k o e,r⟩
 | true=>obtain⟨o,e,r⟩:=x;exact⟨o,k o e,r⟩
theorem Gv.obj(x:Gv h it l i b):∃o,h.get? it=some o/\∀v,o.data≠.cell v:=by
 cases b with
 | false=>obtain⟨o,e,c,d⟩:=x;exact⟨o,e,fun v z=>by rw[d] at z;cases z⟩
 | true=>obtain⟨o,e,c,d⟩:=x;exact⟨o,e,fun v z=>by rw[d] at z;cases z⟩
theorem Gv.new:Gv (h.push (NC l b)) h.objs.size l 0 b:=by
 cases b with
 | false=>exact⟨_,D1 _ rfl,rfl,rfl⟩
 | true=>exact⟨_,D1 _ rfl,rfl,rfl⟩
variable {Q:A3->A5->Prop}
section
variable {prog:E2} {w:F6} {A:F3} {E:A3->A5->Prop} {s:A5}
theorem HL{xs:Array A3}(hl:Gw s.heap l xs b)(hQ:Q (.ref s.heap.objs.size) { s with heap:=s.heap.push (NC l b) }):B4 (C3 prog w) A (pyIter (.ref l)) Q E s:=by
 cases b with
 | false=>exact U4 hl hQ
 | true=>exact mm hl hQ
theorem IE{items:Array A3}{x:A3}{Q:A3->A5->Prop}(hit:Gv s.heap it l i b)(hl:Gw s.heap l items b)(hx:items[i]?=some x)
    (hQ:∀h',Gv h' it l (i+1) b->O2 it s.heap h'->Q x { s with heap:=h' }):B4 (C3 prog w) A (G3 (.ref it)) Q E s:=by
  cases b with
  | false=>exact wpAny_nextOf_list_item hit hl hx hQ
  | true =>
    obtain⟨o,ho,hc,hd⟩:=id hit;obtain⟨ol,hol,_,nl,hdl⟩:=hl
    have ht:s.TypeIs (.ref it) "tuple_iterator" := ⟨o,ho,hc⟩
    unfold G3
    refine A0 (J3 (name:=R6 "__next__") ht F.slot_tuple_iterator_next
      (K4 F.slot_tuple_iterator_next ht F.entry_tuple_iterator_next ?_ (F.args_tuple_iterator_next_1 _)))
    show B4 _ _ (ou (.ref it) 0 >>= _) _ _ s;refine A0 (F0 ho hd (x:=.ref l) rfl ?_);show B4 _ _ (if(D7 l == I9)=true then _ else _) _ _ s;rw[if_neg (show ¬((D7 l == I9)=true) from C6)];show B4 _ _ (ou (.ref it) 1 >>= _) _ _ s;refine A0 (F0 ho hd (x:=.int i 0) rfl ?_);show B4 _ _ (seqItems? (.ref l) >>= _) _ _ s;refine A0 (K8 hol hdl ?_);simp only[U2,hx];refine A0 (R5 ho hd (by simp) (A7 ⟨x,rfl,A7 (hQ _ ?_ (R9 ..))⟩));exact⟨_,J9 _ ho (U9 (T2 hd _)),(Obj.cls_mapFields ..).trans hc,by
      rw[T2 hd];simp[N3]⟩
theorem Qd{items:Array A3}{Q:A3->A5->Prop}(hh:A.handled=none)(hit:Gv s.heap it l i b)(hl:Gw s.heap l items b)(hx:items[i]?=none)
    (hE:∀h' e,oF it s.heap h'->(∃o,h'.get? e=some o/\o.cls=.type "StopIteration")->E (.ref e) { s with heap:=h' }):B4 (C3 prog w) A (G3 (.ref it)) Q E s:=by
  cases b with
  | false=>exact wpAny_nextOf_list_end hh hit hl hx hE
  | true =>
    obtain⟨o,ho,hc,hd⟩:=id hit;obtain⟨ol,hol,_,nl,hdl⟩:=hl
    have ht:s.TypeIs (.ref it) "tuple_iterator" := ⟨o,ho,hc⟩
    unfold G3
    refine A0 (J3 (name:=R6 "__next__") ht F.slot_tuple_iterator_next
      (K4 F.slot_tuple_iterator_next ht F.entry_tuple_iterator_next ?_ (F.args_tuple_iterator_next_1 _)))
    show B4 _ _ (ou (.ref it) 0 >>= _) _ _ s;refine A0 (F0 ho hd (x:=.ref l) rfl ?_);show B4 _ _ (if(D7 l == I9)=true then _ else _) _ _ s;rw[if_neg (show ¬((D7 l == I9)=true) from C6)];show B4 _ _ (ou (.ref it) 1 >>= _) _ _ s;refine A0 (F0 ho hd (x:=.int i 0) rfl ?_);show B4 _ _ (seqItems? (.ref l) >>= _) _ _ s;refine A0 (K8 hol hdl ?_);simp only[U2,hx];refine A0 (V2 (A0 (R5 ho hd (by simp) ?_)))
    show B4 _ _ (newExc (.type "StopIteration") [] >>= _) _ _ _
    refine A0 ?_;simp only[newExc,newTuple];refine A0 (F9 ?_ (by size_fits));refine A0 (m:=firstArgMember _ _) (wpAny_of_eq (a:=I9) (by first | rfl | (simp only[firstArgMember];rfl)) ?_);refine F9 ?_ (by size_fits);simp only[raiseNew];refine A0 (wpAny_handled ?_)
    first | rw[show A.in1.handled=none from hh] | rw[hh]
    refine A0 (A7 (wpAny_throw ?_));exact hE _ _ (((R9 ..).extBut.push _).push _) ⟨_,D1 _ rfl,rfl⟩
end
def Kc(K:W.Frag)(H:Hp)(a:A8)(xs:List V):Bool->Prop
 | false=>CO K H a xs
 | true=>Cg K H a xs
section
variable {X:Cx} {pins:List (A8×Obj)} {σ:St} {H:Hp} {s:A5} {a:A8} {xs ys:List V} {b:Bool}
theorem Inv.xy(I:Inv X pins σ H s)(h:Kc X.K H a xs b):∃pS:List A3,AG xs pS/\Gw s.heap a pS.toArray b/\a < s.heap.objs.size:=by
 cases b with
 | false =>
  obtain⟨pS,r,p,_⟩:=I.list h;exact⟨pS,r,p.isList,by obtain⟨o,n,e,_⟩:=p;exact B7 e⟩
 | true =>
  obtain⟨pS,r,p,_⟩:=I.tuple h;exact⟨pS,r,p,by obtain⟨o,e,_⟩:=p;exact B7 e⟩
theorem Inv.tm(I:Inv X pins σ H s)(h:Kc X.K H a xs b)(h':Kc X.K H a ys b):xs=ys:=by
 cases b with
 | false=>exact I.rN h h'
 | true=>exact I.qq h h'
end
abbrev Ni(h:F1)(T:A8)(v1 v2:A3):Prop:=h.get? T=some { cls:=.type "tuple", data:=.seq #[v1,v2] }
variable {I l1 l2:Nat} {b1 b2:Bool} {qV qZ:Array A3}
section
variable {prog:E2} {w:F6} {A:F3} {E:A3->A5->Prop} {s:A5}
theorem QC{T:A8}{v1 v2 x:A3}{Q:Unit->A5->Prop}(hT:Ni s.heap T v1 v2)(h:∀h',Ni h' T x v2->O2 T s.heap h'->Q () { s with heap:=h' }):B4 (C3 prog w) A (updateSeq T (·.setIfInBounds 0 x)) Q E s:=by
 refine oM hT rfl (h _ ?_ (R9 ..));show Heap.get? _ _=_;rw[J9 _ hT rfl];simp[M8]
theorem Ys{T:A8}{v1 v2 x:A3}{Q:Unit->A5->Prop}(hT:Ni s.heap T v1 v2)(h:∀h',Ni h' T v1 x->O2 T s.heap h'->Q () { s with heap:=h' }):B4 (C3 prog w) A (updateSeq T (·.setIfInBounds 1 x)) Q E s:=by
 refine oM hT rfl (h _ ?_ (R9 ..));show Heap.get? _ _=_;rw[J9 _ hT rfl];simp[M8]
structure rF (h:F1) (I:Nat) (l1 l2:Nat) (b1 b2:Bool) (i:Nat) (f0:A3):Prop where
 z:mG h (I+4) (I+2) (I+3) f0
 ti:Ni h (I+2) (.ref I) (.ref (I+1))
 to:∃v1 v2,Ni h (I+3) v1 v2
 s1:Gv h I l1 i b1
 s2:Gv h (I+1) l2 i b2
theorem rF.at{h':F1}{f0:A3}(x:rF h I l1 l2 b1 b2 i f0)(k:∀(c:Nat) o,I<=c->c < I+5->h.get? c=some o->h'.get? c=some o):rF h' I l1 l2 b1 b2 i f0:=
 ⟨k _ _ (by omega) (by omega) x.z,k _ _ (by omega) (by omega) x.ti,let ⟨v1,v2,e⟩:=x.to;⟨v1,v2,k _ _ (by omega) (by omega) e⟩,x.s1.at fun o e=>k _ o (by omega) (by omega) e,x.s2.at fun o e=>k _ o (by omega) (by omega) e⟩
theorem Nj{y1 y2:A3}{Q:A3->A5->Prop}(hz:rF s.heap I l1 l2 b1 b2 i .none)(qy:Gw s.heap l1 qV b1)(wQ:l1 < I)(qx:Gw s.heap l2 qZ b2)(wO:l2 < I)(tu:qV[i]?=some y1)(wX:qZ[i]?=some y2)
    (hQ:∀h',rF h' I l1 l2 b1 b2 (i+1) (N3 s.heap.objs.size)->Ni h' s.heap.objs.size y1 y2->h'.objs.size=s.heap.objs.size+1->(∀(c:Nat) o,(c < I\/I+5<=c)->s.heap.get? c=some o->h'.get? c=some o)->Q (.ref s.heap.objs.size) { s with heap:=h' }) :
    B4 (C3 prog w) A (oR.«zip.__next__» ⟨[.ref (I+4)],[]⟩) (fun fin s'=>∃v,fin=.done (.ret v)/\Q v s') E s:=by
  obtain⟨z0,xw,⟨v1,v2,yP⟩,wK,uh⟩:=hz;show B4 _ _ (ou (.ref (I+4)) 2 >>= _) _ _ _;refine A0 (F0 z0 rfl (x:=.bool false) rfl ?_);show B4 _ _ (ou (.ref (I+4)) 3 >>= _) _ _ _;refine A0 (F0 z0 rfl (x:=.ref (I+2)) rfl ?_);refine A0 (K8 xw rfl ?_);show B4 _ _ (K1 (.ref (I+4)) >>= _) _ _ _;refine A0 ?_;unfold K1;refine A0 (F0 z0 rfl (x:=.none) rfl (A7 ?_));simp only[if_true];refine A0 (V2 ?_);refine A0 (F0 z0 rfl (x:=.ref (I+3)) rfl ?_);refine A0 (N7 z0 (by simp) fun h₁ rO qd=>?_);replace rO:mG h₁ (I+4) (I+2) (I+3) .ellipsis:=rO;refine A0 ?_;simp only[nZ,oN,W4,mE];have g0:∀(c:Nat) o,c≠(I+4)->s.heap.get? c=some o->h₁.get? c=some o:=fun c o c1 e=>qd.extBut _ _ c1 e
  have k0:∀(c:Nat) o,c≠(I+4)->c≠(I+3)->(c < I\/I<=c)->s.heap.get? c=some o->h₁.get? c=some o:=fun c o c1 _ _ e=>g0 c o c1 e
  have to1:Ni h₁ (I+3) v1 v2:=g0 _ _ (by omega) yP;refine A0 (A0 (a8 ?_));show B4 _ _ (G3 (.ref I) >>= _) _ _ _;refine A0 (IE (wK.at fun o e=>k0 _ o (by omega) (by omega) (by omega) e) (qy.at fun o e=>k0 _ o (by omega) (by omega) (by omega) e) tu fun p1 si1 wJ=>A7 ?_);have u1:Ni p1 (I+3) v1 v2:=wJ.extBut _ _ (EM (by omega)) to1;refine A0 (K8 u1 rfl ?_);refine A0 (QC u1 fun q1 to2 ug=>?_);have k1:∀(c:Nat) o,c≠(I+4)->c≠(I+3)->(c < I\/I+1<=c)->s.heap.get? c=some o->q1.get? c=some o:=fun c o c1 c2 c3 e=>ug.extBut _ _ c2 (wJ.extBut _ _ (EM (by omega)) (k0 c o c1 c2 (by omega) e))
  have zz1:mG q1 (I+4) (I+2) (I+3) .ellipsis:=ug.extBut _ _ (EM (by omega)) (wJ.extBut _ _ (EM (by omega)) rO);have zAI:Gv q1 I l1 (i+1) b1:=si1.at fun o e=>ug.extBut _ _ (EM (by omega)) e
  refine A0 (oG (A7 ?_));refine A0 (A0 (a8 ?_));show B4 _ _ (G3 (.ref (I+1)) >>= _) _ _ _;refine A0 (IE (uh.at fun o e=>k1 _ o (by omega) (by omega) (by omega) e) (qx.at fun o e=>k1 _ o (by omega) (by omega) (by omega) e) wX fun p2 si2 ye=>A7 ?_);have u2:Ni p2 (I+3) y1 v2:=ye.extBut _ _ (EM (by omega)) to2;refine A0 (K8 u2 rfl ?_);refine A0 (Ys u2 fun q2 to3 va=>?_);have k2:∀(c:Nat) o,c≠(I+4)->c≠(I+3)->(c < I\/I+2<=c)->s.heap.get? c=some o->q2.get? c=some o:=fun c o c1 c2 c3 e=>va.extBut _ _ c2 (ye.extBut _ _ (EM (by omega)) (k1 c o c1 c2 (by omega) e))
  have zz2:mG q2 (I+4) (I+2) (I+3) .ellipsis:=va.extBut _ _ (EM (by omega)) (ye.extBut _ _ (EM (by omega)) zz1);have zAG:Gv q2 (I+1) l2 (i+1) b2:=si2.at fun o e=>va.extBut _ _ (EM (by omega)) e
  have zAH:Gv q2 I l1 (i+1) b1:=zAI.at fun o e=>va.extBut _ _ (EM (by omega)) (ye.extBut _ _ (EM (by omega)) e)
  refine A0 (oG (A7 (A7 ?_)));refine A0 (K8 to3 rfl ?_);refine A0 (wpAny_newTuple ?_);have rh:q2.objs.size=s.heap.objs.size:=by rw[va.1,ye.1,ug.1,wJ.1,qd.1]
  have zlt:(I+4) < q2.objs.size:=B7 zz2;show B4 _ _ (S0 (.ref (I+4)) (.ref q2.objs.size) >>= _) _ _ _;refine A0 ?_;unfold S0
  have z6:mG (q2.push { cls:=.type "tuple", data:=.seq #[y1,y2] }) (I+4) (I+2) (I+3) .ellipsis:=A6 _ zz2
  refine A0 (N7 z6 (by simp) fun zAV uq uv=>?_);replace uq:mG zAV (I+4) (I+2) (I+3) (N3 q2.objs.size):=uq;refine N7 uq (by simp) fun uo tq uu=>?_
  replace tq:mG uo (I+4) (I+2) (I+3) (N3 q2.objs.size):=tq;have up:∀(c:Nat) o,c≠(I+4)->q2.get? c=some o->uo.get? c=some o:=fun c o c1 e=>uu.extBut _ _ c1 (uv.extBut _ _ c1 (A6 _ e))
  have wd:Ni uo q2.objs.size y1 y2:=uu.extBut _ _ (EM (by omega)) (uv.extBut _ _ (EM (by omega)) (D1 _ rfl));have hz8:uo.objs.size=q2.objs.size+1:=by rw[uu.1,uv.1,L0]
  rw[rh] at tq wd hz8;refine A7 ⟨_,rfl,?_⟩;show Q (.ref q2.objs.size) _;rw[rh];exact hQ uo ⟨tq,up _ _ (by omega) (k2 _ _ (by omega) (by omega) (by omega) xw),⟨y1,y2,up _ _ (by omega) to3⟩,zAH.at fun o e=>up _ o (by omega) e,zAG.at fun o e=>up _ o (by omega) e⟩ wd hz8 fun c o hc e=>up c o (by omega) (k2 c o (by omega) (by omega) (by omega) e)
theorem Py{Q:Fin->A5->Prop}(hh:A.handled=none)(hz:rF s.heap I l1 l2 b1 b2 i .none)(qy:Gw s.heap l1 qV b1)(wQ:l1 < I)(qx:Gw s.heap l2 qZ b2)(wO:l2 < I)(u0:qV[i]?=none\/qZ[i]?=none)
    (hE:∀h' e,(∀(c:Nat) o,(c < I\/I+5<=c)->s.heap.get? c=some o->h'.get? c=some o)->(∃o,h'.get? e=some o/\o.cls=.type "StopIteration")->E (.ref e) { s with heap:=h' }) :
    B4 (C3 prog w) A (oR.«zip.__next__» ⟨[.ref (I+4)],[]⟩) Q E s:=by
  obtain⟨z0,xw,⟨v1,v2,yP⟩,wK,uh⟩:=hz;show B4 _ _ (ou (.ref (I+4)) 2 >>= _) _ _ _;refine A0 (F0 z0 rfl (x:=.bool false) rfl ?_);show B4 _ _ (ou (.ref (I+4)) 3 >>= _) _ _ _;refine A0 (F0 z0 rfl (x:=.ref (I+2)) rfl ?_);refine A0 (K8 xw rfl ?_);show B4 _ _ (K1 (.ref (I+4)) >>= _) _ _ _;refine A0 ?_;unfold K1;refine A0 (F0 z0 rfl (x:=.none) rfl (A7 ?_));simp only[if_true];refine A0 (V2 ?_);refine A0 (F0 z0 rfl (x:=.ref (I+3)) rfl ?_);refine A0 (N7 z0 (by simp) fun h₁ rO qd=>?_);replace rO:mG h₁ (I+4) (I+2) (I+3) .ellipsis:=rO;refine A0 ?_;simp only[nZ,oN,W4,mE];have g0:∀(c:Nat) o,c≠(I+4)->s.heap.get? c=some o->h₁.get? c=some o:=fun c o c1 e=>qd.extBut _ _ c1 e
  have k0:∀(c:Nat) o,c≠(I+4)->c≠(I+3)->(c < I\/I<=c)->s.heap.get? c=some o->h₁.get? c=some o:=fun c o c1 _ _ e=>g0 c o c1 e
  have to1:Ni h₁ (I+3) v1 v2:=g0 _ _ (by omega) yP;have zz0:mG h₁ (I+4) (I+2) (I+3) .ellipsis:=rO;refine A0 (A0 (a8 ?_));show B4 _ _ (G3 (.ref I) >>= _) _ _ _;cases tu:qV[i]? with
  | none =>
    refine A0 (Qd hh (wK.at fun o e=>k0 _ o (by omega) (by omega) (by omega) e) (qy.at fun o e=>k0 _ o (by omega) (by omega) (by omega) e) tu fun sP e rP he=>?_);obtain⟨oe,xN,zW⟩:=he;have sZ:mG sP (I+4) (I+2) (I+3) .ellipsis:=rP _ _ (EM (by omega)) zz0;have hez:e≠(I+4):=fun x=>by subst x;rw[sZ] at xN;cases xN;simp at zW
    exact N7 sZ (by simp) fun tQ _ sf=>hE tQ e (fun c o hc x=>sf.extBut _ _ (EM (by omega)) (rP _ _ (EM (by omega)) (k0 c o (by omega) (by omega) (by omega) x))) ⟨oe,sf.extBut _ _ hez xN,zW⟩
  | some y1 =>
    refine A0 (IE (wK.at fun o e=>k0 _ o (by omega) (by omega) (by omega) e) (qy.at fun o e=>k0 _ o (by omega) (by omega) (by omega) e) tu fun p1 si1 wJ=>A7 ?_);have u1:Ni p1 (I+3) v1 v2:=wJ.extBut _ _ (EM (by omega)) to1;refine A0 (K8 u1 rfl ?_);refine A0 (QC u1 fun q1 to2 ug=>?_);have k1:∀(c:Nat) o,c≠(I+4)->c≠(I+3)->(c < I\/I+1<=c)->s.heap.get? c=some o->q1.get? c=some o:=fun c o c1 c2 c3 e=>ug.extBut _ _ c2 (wJ.extBut _ _ (EM (by omega)) (k0 c o c1 c2 (by omega) e))
    have zz1:mG q1 (I+4) (I+2) (I+3) .ellipsis:=ug.extBut _ _ (EM (by omega)) (wJ.extBut _ _ (EM (by omega)) zz0);refine A0 (oG (A7 ?_));refine A0 (A0 (a8 ?_));show B4 _ _ (G3 (.ref (I+1)) >>= _) _ _ _;cases wX:qZ[i]? with
    | none =>
      refine A0 (Qd hh (uh.at fun o e=>k1 _ o (by omega) (by omega) (by omega) e) (qx.at fun o e=>k1 _ o (by omega) (by omega) (by omega) e) wX fun sP e rP he=>?_);obtain⟨oe,xN,zW⟩:=he;have sZ:mG sP (I+4) (I+2) (I+3) .ellipsis:=rP _ _ (EM (by omega)) zz1;have hez:e≠(I+4):=fun x=>by subst x;rw[sZ] at xN;cases xN;simp at zW
      exact N7 sZ (by simp) fun tQ _ sf=>hE tQ e (fun c o hc x=>sf.extBut _ _ (EM (by omega)) (rP _ _ (EM (by omega)) (k1 c o (by omega) (by omega) (by omega) x))) ⟨oe,sf.extBut _ _ hez xN,zW⟩
    | some y2 =>
      simp[tu,wX] at u0
theorem Ec{y1 y2:A3}{Q:Option A3->A5->Prop}(hz:rF s.heap I l1 l2 b1 b2 i .none)(qy:Gw s.heap l1 qV b1)(wQ:l1 < I)(qx:Gw s.heap l2 qZ b2)(wO:l2 < I)(tu:qV[i]?=some y1)(wX:qZ[i]?=some y2)
    (hQ:∀h',rF h' I l1 l2 b1 b2 (i+1) (N3 s.heap.objs.size)->Ni h' s.heap.objs.size y1 y2->h'.objs.size=s.heap.objs.size+1->(∀(c:Nat) o,(c < I\/I+5<=c)->s.heap.get? c=some o->h'.get? c=some o)->Q (some (.ref s.heap.objs.size)) { s with heap:=h' }) :
    B4 (C3 prog w) A (mf (.ref (I+4))) Q E s:=by
  have hT:s.TypeIs (.ref (I+4)) "zip" := ⟨_,hz.z,rfl⟩
  unfold mf
  exact A0 (mX (J3 (name:=R6 "__next__") hT F.slot_zip_next
    (K4 F.slot_zip_next hT F.entry_zip_next (Nj hz qy wQ qx wO tu wX fun h' a1 a2 a3 a4=>A7 (hQ h' a1 a2 a3 a4)) (F.args_zip_next_1 _))))
theorem FG{Q:Option A3->A5->Prop}(hh:A.handled=none)(hz:rF s.heap I l1 l2 b1 b2 i .none)(qy:Gw s.heap l1 qV b1)(wQ:l1 < I)(qx:Gw s.heap l2 qZ b2)(wO:l2 < I)(u0:qV[i]?=none\/qZ[i]?=none)
    (hQ:∀h',(∀(c:Nat) o,(c < I\/I+5<=c)->s.heap.get? c=some o->h'.get? c=some o)->Q none { s with heap:=h' }) :
    B4 (C3 prog w) A (mf (.ref (I+4))) Q E s:=by
  have hT:s.TypeIs (.ref (I+4)) "zip" := ⟨_,hz.z,rfl⟩
  unfold mf
  refine A0 (mX (J3 (name:=R6 "__next__") hT F.slot_zip_next
    (K4 F.slot_zip_next hT F.entry_zip_next (Py hh hz qy wQ qx wO u0 fun h' e hk he=>?_) (F.args_zip_next_1 _))))
  obtain⟨o,ho,hc⟩:=he
  refine A0 (V3 (T := "StopIteration") (b:=true) ⟨o,ho,hc⟩ isSubtype_stop ?_)
  exact A7 (hQ _ hk)
abbrev HB(h:F1)(l1 l2:Nat)(b1 b2:Bool):F1:=h.push (NC l1 b1)
abbrev MP(h:F1)(l1 l2:Nat)(b1 b2:Bool):F1:=(HB h l1 l2 b1 b2).push (NC l2 b2)
abbrev MO(h:F1)(l1 l2:Nat)(b1 b2:Bool):F1:=(MP h l1 l2 b1 b2).push { cls:=.type "tuple", data:=.seq #[.ref h.objs.size,.ref (HB h l1 l2 b1 b2).objs.size] }
abbrev MN(h:F1)(l1 l2:Nat)(b1 b2:Bool):F1:=(MO h l1 l2 b1 b2).push { cls:=.type "tuple", data:=.seq #[.none,.none] }
abbrev FT(h:F1)(l1 l2:Nat)(b1 b2:Bool):F1:=(MN h l1 l2 b1 b2).push { cls:=.type "zip", data:=.fields #[.none,.bool false,.bool false,.ref (MP h l1 l2 b1 b2).objs.size,.ref (MO h l1 l2 b1 b2).objs.size] }
theorem LR(l1 l2:Nat)(b1 b2:Bool)(qV qZ:Array A3) :
    Meets (oR.«zip.__new__» ⟨[.type "zip", .ref l1,.ref l2],[]⟩) (fun _ R s=>Gw s.heap l1 qV b1/\Gw s.heap l2 qZ b2 /\
      R (.ok (.ret (.ref (MN s.heap l1 l2 b1 b2).objs.size))) { s with heap:=FT s.heap l1 l2 b1 b2 }):=
  .of_wp fun prog w A R s h=>by
    obtain⟨hp,g,d,tk,os⟩:=s;obtain⟨qy,qx,h⟩:=h;have zC:=sub_zip;have hL1:Gw (pL ⟨hp,g,d,tk,os⟩) l1 qV b1:=qy.at fun o e=>e
    have hL2:Gw (pL ⟨(HB hp l1 l2 b1 b2),g,d,tk,os⟩) l2 qZ b2:=qx.at fun o e=>A6 _ e
    wp_walk using HL hL1,HL hL2
    exact⟨_,rfl,h⟩
theorem PJ{Q:A3->A5->Prop}(qy:Gw s.heap l1 qV b1)(qx:Gw s.heap l2 qZ b2)
    (h:∀h',rF h' s.heap.objs.size l1 l2 b1 b2 0 .none->h'.objs.size=s.heap.objs.size+5->(∀(c:Nat) o,s.heap.get? c=some o->h'.get? c=some o)->Q (.ref (s.heap.objs.size+4)) { s with heap:=h' }) :
    B4 (C3 prog w) A (call (.type "zip") [.ref l1,.ref l2]) Q E s:=by
  refine callType_new F.called_zip (by decide) (F.typeCall_zip_2 _ _) (F.newCall_zip_2 _ _) (fun obj=>F.args_object_init_3 obj _ _) F.entry_zip_new (LR l1 l2 b1 b2 qV qZ) ⟨qy,qx,?_⟩;have z1:(HB s.heap l1 l2 b1 b2).objs.size=s.heap.objs.size+1:=by exact L0 ..
  have z2:(MP s.heap l1 l2 b1 b2).objs.size=s.heap.objs.size+2:=by rw[L0,z1]
  have z3:(MO s.heap l1 l2 b1 b2).objs.size=s.heap.objs.size+3:=by rw[L0,z2]
  have z4:(MN s.heap l1 l2 b1 b2).objs.size=s.heap.objs.size+4:=by rw[L0,z3]
  have z5:(FT s.heap l1 l2 b1 b2).objs.size=s.heap.objs.size+5:=by rw[L0,z4]
  have gz:(FT s.heap l1 l2 b1 b2).get? (MN s.heap l1 l2 b1 b2).objs.size=some _:=D1 _ rfl;have gto:(FT s.heap l1 l2 b1 b2).get? (MO s.heap l1 l2 b1 b2).objs.size=some _:=(A6 _ (D1 _ rfl));have gti:(FT s.heap l1 l2 b1 b2).get? (MP s.heap l1 l2 b1 b2).objs.size=some _:=(A6 _ (A6 _ (D1 _ rfl)));have gs1:Gv (FT s.heap l1 l2 b1 b2) s.heap.objs.size l1 0 b1:=Gv.at (Gv.new (h:=s.heap)) fun o e=>(A6 _ (A6 _ (A6 _ (A6 _ e))))
  have gs2:Gv (FT s.heap l1 l2 b1 b2) (HB s.heap l1 l2 b1 b2).objs.size l2 0 b2:=Gv.at (Gv.new (h:=(HB s.heap l1 l2 b1 b2))) fun o e=>(A6 _ (A6 _ (A6 _ e)))
  show _/\_;rw[z2,z3,z4] at gz;rw[z3] at gto;rw[z1,z2] at gti;rw[z1] at gs2;rw[z4];exact⟨⟨_,gz,rfl⟩,h _ ⟨gz,gti,⟨_,_,gto⟩,gs1,gs2⟩ z5 fun c o x=>(A6 _ (A6 _ (A6 _ (A6 _ (A6 _ x)))))⟩
end
theorem YA{b:Nat}(h:¬b∈([(I+4),(I+2),(I+3),I,(I+1)]:List Nat)):b < I\/I+5<=b:=by simp only[D6,F7,or_false,not_or] at h;omega
theorem fW{b:Nat}(h:b∈([(I+4),(I+2),(I+3),I,(I+1)]:List Nat)):I<=b/\b < I+5:=by simp only[D6,F7,or_false] at h;omega
def UM(K:W.Frag)(a1 a2:Nat)(b1 b2:Bool):It:=
 ⟨fun i H=>∃qV qZ y1 y2,Kc K H a1 qV b1/\qV[i]?=some y1/\Kc K H a2 qZ b2/\qZ[i]?=some y2,fun i H x H'=>∃p y1 y2,H p=none/\x=.ref p/\H'=upd H p (.tup [y1,y2])/\(∀xs,Kc K H a1 xs b1->xs[i]?=some y1)/\(∀xs,Kc K H a2 xs b2->xs[i]?=some y2),fun i H=>∃qV qZ,Kc K H a1 qV b1/\Kc K H a2 qZ b2/\(qV.length<=i\/qZ.length<=i)⟩
theorem Nn{P:E2}{w:F6}{K:W.Frag}{elts:List Expr}{x1}{pos:Pos}(I a1 a2:Nat)(b1 b2:Bool)(wQ:a1 < I)(wO:a2 < I):Turn P w K (.Tuple elts x1 pos) (UM K a1 a2 b1 b2) [(I+4),(I+2),(I+3),I,(I+1)] (I+4) (fun i h=>rF h I a1 a2 b1 b2 i .none) where
 mem:=by simp
 obj:=fun i h st b hb=>by
  obtain⟨z0,xw,⟨v1,v2,yP⟩,wK,uh⟩:=st;simp only[D6,F7,or_false] at hb;rcases hb with rfl | rfl | rfl | rfl | rfl
  ·exact⟨_,z0,fun v z=>by cases z⟩
  ·exact⟨_,xw,fun v z=>by cases z⟩
  ·exact⟨_,yP,fun v z=>by cases z⟩
  ·exact wK.obj
  ·exact uh.obj
 keep:=fun i h h' st k=>st.at fun c o c1 c2 e=>k c (by show c∈([(I+4),(I+2),(I+3),I,(I+1)]:List Nat);simp only[D6,F7,or_false];omega) o e
 item:=by
  intro X hP hw hK hc i pins s σ H E I1 hf st hg;subst hP hw hK;obtain⟨ws1,ws2,y1,y2,yE,y6,yD,hy2⟩:=hg;obtain⟨xI,vK,p1,qy⟩:=I1.xy yE;obtain⟨u1,hu1,ru1⟩:=vK.get y6;obtain⟨pf,wL,p2,qx⟩:=I1.xy yD;obtain⟨u2,hu2,ru2⟩:=wL.get hy2;refine Ec st p1 wQ p2 wO (y1:=u1) (y2:=u2) (by simpa using hu1) (by simpa using hu2) fun h1 yZ t1 z1 k1=>?_
  refine⟨_,rfl,wpAny_letOwnedTupleGo_zip (s:={ s with heap:=h1 }) yZ.z fun h2 e2 sb=>?_⟩;have hzl:(I+4) < s.heap.objs.size:=B7 st.z;have tV:=I1.pb.fresh (B9 s.heap.objs.size)
  have I2:Inv X pins σ (upd H s.heap.objs.size (.tup [y1,y2])) { s with heap:=s.heap.push { cls:=.type "tuple", data:=.seq #[u1,u2] },toks:=s.toks }:=
   I1.laid (fun b o q=>A6 _ q) (B9 _) (show Ab X.prog X.w _ _ _ (.tup [y1,y2]) from⟨by show 2<=sizeLine;decide,[u1,u2],(.cons ru1 (.cons ru2 .nil)),Gu.new _ _⟩)
  have hb:∀b∈([(I+4),(I+2),(I+3),I,(I+1)]:List Nat),I<=b/\b < I+5:=fun b hb=>fW hb
  have sT:∀b∈([(I+4),(I+2),(I+3),I,(I+1)]:List Nat),pd X pins (upd H s.heap.objs.size (.tup [y1,y2])) b:=fun b u7=>by
   obtain⟨f0,r⟩:=hf b u7;refine⟨?_,r⟩;rw[AE (D3 (B3 (hb b u7).2 (by omega)))];exact f0
  have I3:Inv X pins σ (upd H s.heap.objs.size (.tup [y1,y2])) { s with heap:=h2,toks:=s.toks }:=by
   refine Inv.td (s:={ s with heap:=s.heap.push { cls:=.type "tuple", data:=.seq #[u1,u2] },toks:=s.toks }) (h':=h2) (t':=s.toks) (ch:=[(I+4),(I+2),(I+3),I,(I+1)]) I2 (fun b o u7 q=>?_) sT
   have q:(s.heap.push { cls:=.type "tuple", data:=.seq #[u1,u2] }).get? b=some o:=q
   have ql:b≠(I+4):=fun z=>u7 (by simp[z])
   refine(sb.2 b ql).trans ?_
   by_cases hbs:b=s.heap.objs.size
   ·subst hbs;rw[D1 _ rfl] at q;rw[<- q];exact t1
   ·rw[Heap.get?_push_ne _ _ _ hbs] at q;exact k1 b o (YA u7) q
  refine⟨.ref s.heap.objs.size,_,I3,rfl,⟨_,y1,y2,tV,rfl,rfl,fun zs hz=>by rw[I1.tm hz yE];exact y6,fun zs hz=>by rw[I1.tm hz yD];exact hy2⟩,?_,fun b u7=>(sT b u7).1⟩;exact⟨e2,sb.extBut _ _ (EM (by omega)) yZ.ti,let ⟨v1,v2,e⟩:=yZ.to;⟨v1,v2,sb.extBut _ _ (EM (by omega)) e⟩,yZ.s1.at fun o e=>sb.extBut _ _ (EM (by omega)) e,yZ.s2.at fun o e=>sb.extBut _ _ (EM (by omega)) e⟩
 done:=by
  intro X hP hw hK hc i pins s σ H E I1 hf st hg;subst hP hw hK;obtain⟨ws1,ws2,yE,yD,u0⟩:=hg;obtain⟨xI,vK,p1,qy⟩:=I1.xy yE;have le1:=vK.length;obtain⟨pf,wL,p2,qx⟩:=I1.xy yD;have le2:=wL.length;have zS:xI.toArray[i]?=none\/pf.toArray[i]?=none:=by
   rcases u0 with h | h
   ·exact .inl (by simp;omega)
   ·exact .inr (by simp;omega)
  refine FG (I1.ok.hd hc) st p1 wQ p2 wO zS fun h' k=>⟨rfl,?_⟩
  refine Inv.td (t':=s.toks) (ch:=[(I+4),(I+2),(I+3),I,(I+1)]) I1 (fun b o u7 e=>k b o (YA u7) e) hf
 self:=fun _ _ _ _ _ st h=>ng st.z h
section
variable {X:Cx} {elts:List Expr} {x1} {q8:Pos}
abbrev fc(K:W.Frag)(ta:TA):TI:=fun σ H R=>ta σ H fun vs H1=>∃a1 a2 b1 b2,vs=[.ref a1,.ref a2]/\(∃xs,Kc K H1 a1 xs b1)/\(∃xs,Kc K H1 a2 xs b2)/\R (UM K a1 a2 b1 b2) H1
theorem Va(K:W.Frag){e1 e2:Expr}{ta:TA}{p pos:Pos}(hg:Gl X "zip")(hm:X.mg "zip" = none)(ha:PA X [e1,e2] ta)(hK:X.K=K:=by rfl)(hs:E3 (e1::[e2]) X.env=(false,M3 e1 X.env)::E3 [e2] X.env:=by rfl)(uS:(Q7 pos (E3 [e2] X.env)).any (·.1)=false:=by rfl):PI X (.Tuple elts x1 q8) (.Call (.Name "zip" p) [e1,e2] [] pos) (fc K ta):=by
 subst hK;intro pins s σ H R I h;refine Call_ (GL I hg hm PyProof.Rows.Boot.«zip» (Q8 (Ac (ha pos pins s σ H _ I h) fun us s1 ⟨vs,H1,I1,r1,q1⟩=>?_) hs uS));obtain⟨a1,a2,b1,b2,rfl,⟨ws1,yE⟩,⟨ws2,yD⟩,q⟩:=q1;obtain⟨xI,vK,p1,qy⟩:=I1.xy yE;obtain⟨pf,wL,p2,qx⟩:=I1.xy yD;have rr:=r1;clear r1;cases rr with
 | cons r1 w1 =>
  cases w1 with
  | cons r2 w2 =>
   cases w2;cases r1;cases r2;refine PJ p1 p2 fun h' st rh hk=>?_
   refine ng (s:={ s1 with heap:=h' }) st.z ?_;refine⟨s1.heap.objs.size+4,[(s1.heap.objs.size+4),(s1.heap.objs.size+2),(s1.heap.objs.size+3),s1.heap.objs.size,(s1.heap.objs.size+1)],fun i h=>rF h s1.heap.objs.size a1 a2 b1 b2 i .none,UM X.K a1 a2 b1 b2,H1,rfl,I1.kept (t':=s1.toks) hk,Nn s1.heap.objs.size a1 a2 b1 b2 qy qx,st,fun b hb=>?_,q⟩;have yH:s1.heap.objs.size<=b:=(fW (I:=s1.heap.objs.size) hb).1;exact I1.pZ yH (I1.pb.fresh yH)
end
noncomputable def lT(x:Str):It:=⟨fun i H=>∃c,x.cps[i]?=some c,fun i H v H'=>H'=H/\∃c,x.cps[i]?=some c/\v=.str ⟨#[c]⟩,fun i H=>x.cps[i]?=none⟩
section
variable {X:Cx}
abbrev kH(K:W.Frag)(tl:TE):TI:=fun σ H R=>tl σ H fun x H1=>(∃a xs,x=.ref a/\((CO K H1 a xs/\R (iB K a) H1)\/(Cg K H1 a xs/\R (iR K a) H1)))\/∃z,x=.str z/\R (lT z) H1
end
section
variable {X:Cx} {p1 p2 yj qM:Pos} {es:List Expr} {e:Expr} {ta:TA}
abbrev QN(ta:TA):TE:=fun σ H Q=>ta σ H fun vs H1=>∃(i j:Int),(vs=[.int j]/\i=0\/vs=[.int i,.int j])/\(-(2 ^ 62)<=i/\i < 2 ^ 62/\-(2 ^ 62)<=j/\j < 2 ^ 62)/\(j - i).toNat<=1000000/\∀l,H1 l=none->Q (.ref l) (upd H1 l (.lst ((C2 (j - i).toNat).map fun k=>.int (i+(k:Nat)))))
end
end L2
namespace R
open PySem L2
noncomputable def items:Dv->Option (List Dv)
 | .tup ds=>some ds
 | .lst ds=>some ds
 | .qW ns=>some (ns.map .int)
 | _=>none
def NQ(f:Ev Dv):Ev (List Dv):=fun R m k=>f R m fun d m'=>(items d).bind fun ds=>k ds m'
section
variable {K:W.Frag} {g:G} {H:Hp}
theorem AL{o:Nat}{i:Int}{v:V}{P:Fp}(h:Rep K g H o (.int i) v P):v=.int i:=by unfold Rep at h;exact h.1
theorem Bg{o:Nat}{i:Int}:Rep K g H o (.int i) (.int i) pT:=by unfold Rep;exact⟨rfl,fun _ z=>z⟩
theorem UU{a:A8}{ds:List Dv}(h:Rep K g H 0 (.lst ds) (.ref a) pT):Yl K (iB K a) ds g H:=by
 intro g2 H2 st;have h2:=st.rep h;unfold Rep at h2;obtain⟨b,vs,P',e,h1,h2,_⟩:=h2;cases e;have sq:CO K H2 a vs:=.inl (.inl h1.1);refine⟨fun i d e=>?_,fun i hi=>⟨vs,sq,by rw[<- h2.len];exact hi⟩⟩;obtain⟨v,P,ev,rv,_⟩:=h2.get e;refine⟨⟨vs,v,sq,ev⟩,fun x H3 y=>?_⟩;obtain⟨rfl,y⟩:=y;have:=y vs sq;rw[ev] at this;cases this;exact Ak.old rv.z
theorem Ym{a:A8}{ds:List Dv}(h:Rep K g H 0 (.tup ds) (.ref a) pT):Yl K (iR K a) ds g H:=by
 intro g2 H2 st;have h2:=st.rep h;unfold Rep at h2;obtain⟨b,vs,e,h1,h2⟩:=h2;cases e;have sq:Cg K H2 a vs:=.inl (.inl h1);refine⟨fun i d e=>?_,fun i hi=>⟨vs,sq,by rw[<- h2.len];exact hi⟩⟩;obtain⟨v,P,ev,rv,_⟩:=h2.get e;refine⟨⟨vs,v,sq,ev⟩,fun x H3 y=>?_⟩;obtain⟨rfl,y⟩:=y;have:=y vs sq;rw[ev] at this;cases this;exact Ak.old rv.z
theorem Yn{a:A8}{ns:List Int}(h:Rep K g H 0 (.qW ns) (.ref a) pT):Yl K (iB K a) (ns.map .int) g H:=by
 intro g2 H2 st;have h2:=st.rep h;unfold Rep at h2;obtain⟨⟨b,e,h1⟩,_⟩:=h2;cases e;have sq:=h1.sq;refine⟨fun i d e=>?_,fun i hi=>⟨_,sq,by rw[F4] at hi ⊢;exact hi⟩⟩;rw[C0] at e;cases q:ns[i]? with
 | none=>rw[q] at e;cases e
 | some k =>
  rw[q] at e;cases e;refine⟨⟨_,.int k,sq,by rw[C0,q];rfl⟩,fun x H3 y=>?_⟩;obtain⟨rfl,y⟩:=y;have:=y _ sq;rw[C0,q] at this;cases this;exact Ak.old Bg
theorem Pz{lo:Int}{n:Nat}:Yl K (iA lo n) ((C2 n).map fun k=>.int (lo+(k:Nat))) g H:=by
 intro g2 H2 st;refine⟨fun i d e=>?_,fun i hi=>by rw[F4,nE] at hi;exact hi⟩;obtain⟨hi,rfl⟩:=Dw e;refine⟨hi,fun x H3 y=>?_⟩;obtain⟨rfl,rfl⟩:=y;exact Ak.old Bg
end
section
variable {X:Cx} {tg e a b:Expr} {es:List Expr} {f:Ev Dv} {p pos:Pos} {Γ Γ':Gm} {js:List Nat} {as:List Ar}
theorem fZ(h:PE X e (tE X.K Γ 0 Γ' js f)):PI X tg e (tI X.K Γ Γ' js (NQ f)):=PI.imp (Zt h) fun σ H Q q=>by
 obtain⟨g,m,P,r,R,k,res,e,q⟩:=q;refine⟨g,m,P,r,R,_,res,e,fun d m' g' P' Pv v H' hk ag s rv r1 n=>?_⟩;obtain⟨ds,e1,e2⟩:=pR hk;have s':Step g P H g' P' H':=s.less fun _ z=>.inl z
 have rz:=rv.z;cases d with
 | tup es =>
  cases e1;have h0:=rz;unfold Rep at h0;obtain⟨a,vs,rfl,h1,h2⟩:=h0;exact⟨a,vs,rfl,.inr ⟨.inl (.inl h1),q _ m' g' P' H' _ e2 ag s' r1 (Ym rz)⟩⟩
 | lst es =>
  cases e1;have h0:=rz;unfold Rep at h0;obtain⟨a,vs,P1,rfl,h1,h2,_⟩:=h0;exact⟨a,vs,rfl,.inl ⟨.inl (.inl h1.1),q _ m' g' P' H' _ e2 ag s' r1 (UU rz)⟩⟩
 | qW ns =>
  cases e1;have h0:=rz;unfold Rep at h0;obtain⟨⟨a,rfl,h1⟩,_⟩:=h0;exact⟨a,_,rfl,.inl ⟨h1.sq,q _ m' g' P' H' _ e2 ag s' r1 (Yn rz)⟩⟩
 | _=>cases e1
def XR(K:W.Frag)(p:List Dv->Option (List Dv))(r:List V->Hp->(It->Hp->Prop)->Prop):Prop:=∀g H ds vs pS Q,Zd g H->AA K g H 0 ds vs pT->p ds=some pS->(∀J H',Iw H H'->Yl K J pS g H'->Q J H')->r vs H Q
def YL(p:List Dv->Option (List Dv))(fa:Ev (List Dv)):Ev (List Dv):=fun R m k=>fa R m fun ds m'=>(p ds).bind fun pS=>k pS m'
abbrev YH(r:List V->Hp->(It->Hp->Prop)->Prop)(ta:TA):TI:=fun σ H Q=>ta σ H fun vs H1=>r vs H1 Q
theorem Ul{K:W.Frag}{pr:List Dv->Option (List Dv)}{r:List V->Hp->(It->Hp->Prop)->Prop}(hp:XR K pr r)(c:AD Γ as Γ' js)(he:Lh as=true){σ:St}{H:Hp}{Q:It->Hp->Prop}(h:tI K Γ Γ' js (YL pr (AQ as)) σ H Q):YH r (BM K as) σ H Q:=by
 obtain⟨g,m,P,rl,R',k,res,e,q⟩:=h;refine AK as rl c e fun ds m' g' P' vs H1 hk ag s ar r1=>?_
 obtain⟨pS,e1,e2⟩:=pR hk;exact hp g' H1 ds vs pS Q r1.zd (ar.sY he) e1 fun J H2 sm yl=>q pS m' g' P' H2 J e2 ag ((s.trans (Step.same sm)).less fun _ z=>z) (r1.same sm) yl
noncomputable def small(i:Int):Bool:=-1000000000<=i && i<=1000000000
theorem Qf{i:Int}(h:small i=true):-1000000000<=i/\i<=1000000000:=by
 unfold small at h;rw[A2,decide_eq_true_eq,decide_eq_true_eq] at h;exact h
def CQ(ds:List Dv):Option (List Dv):=match ds with
 | [.int n]=>bif small n then some ((C2 n.toNat).map fun k=>.int (0+(k:Nat))) else none
 | _=>none
def eN:List V->Hp->(It->Hp->Prop)->Prop:=fun vs H1 R=>∃j:Int,vs=[.int j]/\-(2 ^ 62)<=j/\j < 2 ^ 62/\R (iA 0 j.toNat) H1
theorem Qc{K:W.Frag}:XR K CQ eN:=fun g H ds vs pS Q zd ra e q=>by
 unfold CQ at e;split at e
 ·rename_i n;cases c:small n with
  | false=>rw[c] at e;cases e
  | true =>
   rw[c] at e;cases e;have hn:=Qf c;unfold AA at ra;obtain⟨v,vr,_,_,rfl,h1,h2,_⟩:=ra;unfold AA at h2;obtain⟨rfl,_⟩:=h2;rw[AL h1];exact⟨n,rfl,by omega,by omega,q _ H (fun _ _ z=>z) Pz⟩
 ·cases e
end
structure qF:Type 1 where
 ps:List Str
 io:List Nat
 ro:Nat
 nb:Bool
 fn:List Dv->Option (Dv×List Dv)
 cps:(R:Type)->List Dv->(Dv->List Dv->Option R)->Option R
 eq:∀R ds k,cps R ds k=(fn ds).bind fun p=>k p.1 p.2
 cl:Option Str:=none
def Kh(n:Nat)(io:List Nat):Gm:=(C2 n).map fun i=>some (if io.contains i then 1 else 0)
def Bk(K:W.Frag)(g:G)(H:Hp)(io:List Nat)(bs:List Dv)(vs:List V)(P:Fp):Prop:=Rel K g H (io.map fun _=>some 1) bs (io.map fun i=>(vs[i]?).map id) P
def OA(K:W.Frag)(s:qF):Sp:=fun vs H Q _=>∃g ds P,Rel K g H (Kh s.ps.length s.io) ds (vs.map some) P/\∃d bs,s.fn ds=some (d,bs) /\
 ∀g' H' v Pv Pb,Step g P H g' (fun a=>Pv a\/Pb a) H'->Rep K g' H' s.ro d v Pv->Bk K g' H' s.io bs vs Pb->BY Pv Pb->Q v H'
def JN(n:Nat)(io:List Nat):Gm:=(C2 n).map fun i=>if io.contains i then some 1 else none
def Gp(n p:Nat)(io:List Nat):Gm:=Kh p io++E9 (n - p) none
section
variable {K:W.Frag} {g:G} {H:Hp}
theorem Rel.pad{Γ:Gm}{m:M}{vs:List V}{P:Fp}(h:Rel K g H Γ m (vs.map some) P)(n:Nat):Rel K g H (Γ++E9 n none) (m++E9 n .pX) (vs.map some++E9 n none) P:=by
 obtain⟨zd,F,h1,h4⟩:=h;have old:∀{i o:Nat},(Γ++E9 n none)[i]?=some (some o)->i < Γ.length/\Γ[i]?=some (some o):=fun{i o} e=>by
  by_cases z:i < Γ.length
  ·rw[G1 z] at e;exact⟨z,e⟩
  ·rw[R4 (by omega),g8] at e;split at e<;>cases e
 refine⟨zd,F,⟨by simp[h1.l1],by have:=h1.l2;simp at this ⊢;omega,fun i o e=>?_,fun i e=>?_,h1.dj⟩,h4⟩
 ·obtain⟨hi,e⟩:=old e;obtain⟨d,v,e1,e2,r⟩:=h1.rep i o e;exact⟨d,v,by rw[G1 (by rw[h1.l1];exact hi)];exact e1,by rw[G1 (by rw[h1.l2];exact hi)];exact e2,r⟩
 ·refine h1.out i fun o z=>e o ?_
  rw[G1 (B1.mp z).1];exact z
theorem Rel.pick{Γ:Gm}{m:M}{σ:St}{P:Fp}{io:List Nat}(h:Rel K g H Γ m σ P)(nd:io.Nodup)(hl:∀i∈io,Γ[i]?=some (some 1)):∃P',Rel K g H (io.map fun _=>some 1) (io.map m.at) (io.map fun i=>(σ[i]?).join) P'/\∀a,P' a->P a:=by
 obtain⟨zd,F,h1,h4⟩:=h;refine⟨fun a=>∃j i,io[j]?=some i/\F i a,⟨zd,fun j a=>∃i,io[j]?=some i/\F i a,⟨by simp,by simp,fun j o e=>?_,fun j e a ⟨i,e',_⟩=>?_,fun j k n a ⟨i,e1,q1⟩ ⟨i',e2,q2⟩=>?_⟩,fun _=>X5⟩,fun a ⟨j,i,_,q⟩=>(h4 a).mpr ⟨i,q⟩⟩
 ·rw[C0] at e;cases ej:io[j]? with
  | none=>rw[ej] at e;cases e
  | some i =>
   rw[ej] at e;cases e;obtain⟨d,v,e1,e2,r⟩:=h1.rep i 1 (hl i (K7 ej));have eq:(fun a=>∃i',some i=some i'/\F i' a)=F i:=funext fun a=>propext ⟨fun⟨i',z,q⟩=>by cases z;exact q,fun q=>⟨i,rfl,q⟩⟩
   exact⟨d,v,by rw[C0,ej,F5,Gc e1],by rw[C0,ej,F5,e2];rfl,by show Rep K g H 1 d v fun a=>∃i',some i=some i'/\F i' a;rw[eq];exact r⟩
 ·refine e 1 ?_;rw[C0,e'];rfl
 ·by_cases z:i=i'
  ·subst z;refine n ?_;have hj:=(B1.mp e1);have hk:=(B1.mp e2);exact(a9 (h₀:=hj.1) (h₁:=hk.1) nd).mp (hj.2.trans hk.2.symm)
  ·exact h1.dj i i' z a q1 q2
end
theorem YI{P:E2}{w:F6}{K:W.Frag}{mg:Str->Option A3}{base:F1}{x qual:Str}{st:G0}{f:A8}{fd:K5}{N:List Str}{k:Nat}{s:qF}(Fn:uQ K x qual st f fd)(S:qT N s.ps (AC st))(nd:s.io.Nodup)(qk:∀i∈s.io,i < s.ps.length)(hn:s.ps.length<=N.length)
    {body:Es} {Γn:Option Gm} {js:List Nat} (hw:Hf (some (JN N.length s.io)) Γn=true)
    (hb:∀(pv:A3) (A:F3) (outer:List Env) (s':A5) (H:Hp) (E:XK),pj k (A.deeper (S1 qual (AC st) s'.heap.objs.size f pv))->CP (Ca FB P w K mg base N qual (AC st) f pv A outer s' H E).rC (AJ st) (tS K ⟨s.io,JN N.length s.io,s.ro⟩ none (Gp N.length s.ps.length s.io) Γn js body))
    (hΦ:∀ds d bs,ds.length=s.ps.length->s.fn ds=some (d,bs)->∃(R:Type) (k:Kt R) (r:R),body R (ds++E9 (N.length - s.ps.length) .pX) k=some r/\(∀m,k.nx m=some r->d=.pX/\bs=s.io.map m.at)/\(∀d' m,k.rt d' m=some r->d=d'/\bs=s.io.map m.at)):qE P w K mg base FB (k+1) f fd s.ps (OA K s):=by
  have ll:∀n io,(Kh n io).length=n:=fun n io=>by unfold Kh;simp
  refine Fn.ok S (fun vs H Q E h=>?_) fun pv A outer s' H vs Q E hr h=>⟨_,hb pv A outer s' H E hr,?_⟩
  · obtain⟨g,ds,Pa,r,_⟩:=h;have:=r.len.2;rw[ll] at this;simpa using this
  · obtain⟨g,ds,Pa,r,d,bs,e,q⟩:=h;have l1:=r.len.1;have l2:=r.len.2;rw[ll] at l1 l2;rw[F4] at l2;have r0:Rel K g H (Gp N.length s.ps.length s.io) (ds++E9 (N.length - s.ps.length) .pX) (L2.start N vs) Pa:=by
      unfold L2.start Gp;rw[l2];exact r.pad _
    have hv:∀{σ':St},Io s.io (L2.start N vs) σ'->∀i∈s.io,(σ'[i]?).join=vs[i]?:=fun{σ'} hi i hm=>by
      rw[hi i hm];unfold L2.start;have hl:i < vs.length:=by rw[l2];exact qk i hm
      rw[G1 (by simpa using hl),C0];cases vs[i]?<;>rfl
    have rg:∀i∈s.io,(JN N.length s.io)[i]?=some (some 1):=fun i hi=>by
      unfold JN;rw[C0,L7 (by have:=qk i hi;omega),F5,if_pos (C4.mpr hi)]
    obtain⟨RT,kt,rt,hb0,hnx,hrt⟩:=hΦ ds d bs l1 e;have fin:∀{d':Dv} {m':M} {g':G} {P' Pv:Fp} {σ':St} {v:V} {H':Hp},d=d'/\bs=s.io.map m'.at->Step g Pa H g' (fun a=>P' a\/Pv a) H'->Io s.io (L2.start N vs) σ'->Rep K g' H' s.ro d' v Pv->Rel K g' H' (JN N.length s.io) m' σ' P'->BY P' Pv->Q v H':=fun{d' m' g' P' Pv σ' v H'} hk st io rv r' n=>by
      obtain⟨rfl,rfl⟩:=hk;obtain⟨Pb,hbk,sb⟩:=r'.pick nd rg;refine q g' H' v Pv Pb (st.less fun a z=>z.elim .inr fun z=>.inl (sb a z)) rv ?_ fun a z w=>n a (sb a w) z
      have e:(s.io.map fun i=>(σ'[i]?).join)=s.io.map fun i=>(vs[i]?).map id:=mQ fun i hi=>by rw[hv io i hi];cases vs[i]?<;>rfl
      unfold Bk;rw[<- e];exact hbk
    refine⟨g,_,Pa,r0,RT,kt,rt,hb0,⟨fun Γ' m' g' P' σ' H' eΓ hk ag tj i' r'=>?_,fun d' m' g' P' Pv σ' v H' hk ag tj i' rv r' n=>fin (hrt d' m' hk) tj i' rv r' n,(fun _ _ _ _ _ _ z=>by cases z),fun _ _ _ _ _ _ z=>by cases z⟩⟩;subst eΓ;obtain⟨g2,P2,s2,r2⟩:=r'.weaken (by unfold Hf at hw;exact hw);exact fin (Pv:=pT) (v:=.pX) (hnx m' hk) ((tj.trans s2).less fun _ z=>z.elim id D2) i' (by unfold Rep;exact⟨rfl,fun _ z=>z⟩) r2 fun _ _ z=>z
noncomputable def DV(as:List Ar)(i:Nat):Option Nat:=match as[i]? with | some (.rf j)=>some j | _=>none
def slots(as:List Ar)(io:List Nat):List Nat:=io.map fun i=>(DV as i).getD 0
noncomputable def OO:Ar->Bool
 | .fd _ _=>false
 | _=>true
def cg(as:List Ar)(io:List Nat):Bool:=as.all OO && (C2 as.length).all fun i=>((DV as i).isSome == io.contains i) && (C2 as.length).all fun j=>i == j || (DV as i).isNone || (DV as i != DV as j)
noncomputable def Fu:List Nat->List Dv->M->M
 | s::sl,b::bs,m=>Fu sl bs (m.set s b)
 | _,_,m=>m
def Li(s:qF)(as:List Ar):Ev Dv:=fun R m k=>AQ as R m fun ds m1=>s.cps R ds fun d bs=>k d (Fu (slots as s.io) bs m1)
theorem Ft:∀(sl:List Nat) (bs:List Dv) (m:M),(Fu sl bs m).length=m.length
 | [],_,_=>rfl
 | _::_,[],_=>rfl
 | s::sl,b::bs,m=>by unfold Fu;rw[Ft,C8]
theorem EA:∀(sl:List Nat) (bs:List Dv) (m:M) (j:Nat),j∉sl->(Fu sl bs m)[j]?=m[j]?
 | [],_,_,_,_=>rfl
 | _::_,[],_,_,_=>rfl
 | s::sl,b::bs,m,j,h=>by
  unfold Fu;rw[EA sl bs _ j fun z=>h (B5 _ z),C9 fun z=>h (by rw[z];exact B8)]
theorem Mo:∀(sl:List Nat) (bs:List Dv) (m:M) (k j:Nat) (b:Dv),sl.Nodup->sl[k]?=some j->bs[k]?=some b->j < m.length->(Fu sl bs m)[j]?=some b
 | [],_,_,k,_,_,_,h,_,_=>by simp at h
 | _::_,[],_,k,_,_,_,_,h,_=>by simp at h
 | s::sl,c::bs,m,k,j,b,nd,h1,h2,hl=>by
  unfold Fu;rw[S9] at nd;cases k with
  | zero =>
   simp at h1 h2;subst h1 h2;rw[EA sl bs _ s nd.1,D5 hl]
  | succ k=>exact Mo sl bs _ k j b nd.2 (by simpa using h1) (by simpa using h2) (by rw[C8];exact hl)
theorem Qz(sl:List Nat)(bs:List Dv)(m:M):BQ sl m (Fu sl bs m):=⟨Ft ..,fun i h=>by
 unfold M.at;rw[D0,D0,EA sl bs m i h]⟩
section
variable {K:W.Frag} {g:G} {H:Hp} {σ:St} {Γ Γ':Gm} {js:List Nat} {m:M} {P:Fp} {as:List Ar}
theorem Al.len:∀{as:List Ar} {ds:List Dv} {vs:List V},Al K g H Γ m σ as ds vs->ds.length=as.length/\vs.length=as.length
 | [],ds,vs,h=>by unfold Al at h;obtain⟨rfl,rfl⟩:=h;exact⟨rfl,rfl⟩
 | .ev _ _ _ _::as,ds,vs,h=>by
  unfold Al at h;obtain⟨d,v,sG,qQ,rfl,rfl,_,h2⟩:=h;simp[h2.len.1,h2.len.2]
 | .rf i::as,ds,vs,h=>by
  unfold Al at h;obtain⟨v,sG,qQ,rfl,rfl,_,_,h3⟩:=h;simp[h3.len.1,h3.len.2]
 | .fd i _::as,ds,vs,h=>by
  unfold Al at h;obtain⟨d,v,sG,qQ,rfl,rfl,_,_,h3⟩:=h;simp[h3.len.1,h3.len.2]
theorem Al.get:∀{as:List Ar} {ds:List Dv} {vs:List V} {i:Nat},as.all OO=true->Al K g H Γ m σ as ds vs->i < as.length->∃d v,ds[i]?=some d/\vs[i]?=some v/\((∃j,DV as i=some j/\d=m.at j/\σ[j]?=some (some v))\/(DV as i=none/\Rep K g H 0 d v pT))
 | [],_,_,i,_,_,h=>by simp at h
 | .fd _ _::as,ds,vs,i,nf,h,hi=>by simp[OO] at nf
 | .ev _ _ _ f::as,ds,vs,i,nf,h,hi=>by
  unfold Al at h;obtain⟨d,v,sG,qQ,rfl,rfl,h1,h2⟩:=h;cases i with
  | zero=>exact⟨d,v,rfl,rfl,.inr ⟨rfl,h1⟩⟩
  | succ i =>
   obtain⟨d,v,e1,e2,z⟩:=h2.get (i:=i) (by simpa[OO] using nf) (by simpa using hi);exact⟨d,v,by simpa using e1,by simpa using e2,z⟩
 | .rf j::as,ds,vs,i,nf,h,hi=>by
  unfold Al at h;obtain⟨v,sG,qQ,rfl,rfl,h1,_,h3⟩:=h;cases i with
  | zero=>exact⟨_,v,rfl,rfl,.inl ⟨j,rfl,rfl,h1⟩⟩
  | succ i =>
   obtain⟨d,v,e1,e2,z⟩:=h3.get (i:=i) (by simpa[OO] using nf) (by simpa using hi);exact⟨d,v,by simpa using e1,by simpa using e2,z⟩
theorem Dx{i j:Nat}(h:DV as i=some j):i < as.length:=by
 unfold DV at h;cases e:as[i]? with
 | none=>rw[e] at h;cases h
 | some a=>exact(B1.mp e).1
theorem ZP{io:List Nat}(h:cg as io=true):(∀i,i < as.length->((DV as i).isSome=true↔i∈io))/\∀i i' j,DV as i=some j->DV as i'=some j->i=i':=by
 unfold cg at h;rw[A2] at h;replace h:=h.2;rw[E1] at h;refine⟨fun i hi=>?_,fun i i' j e e'=>?_⟩
 ·have:=h i (N2.mpr hi);rw[A2,beq_iff_eq] at this;rw[this.1,C4]
 ·have:=h i (N2.mpr (Dx e));rw[A2,E1] at this;have:=this.2 i' (N2.mpr (Dx e'));rw[e,e'] at this;simp at this;exact this
theorem PR{s:qF}{g1:G}{H1:Hp}{m1:M}{P1:Fp}{ds:List Dv}{vs:List V}{d:Dv}{bs:List Dv}(hs:cg as s.io=true)(hn:as.length=s.ps.length)(nd:s.io.Nodup)(qk:∀i∈s.io,i < s.ps.length)(hl:∀i∈slots as s.io,Γ'[i]?=some (some 1)){Q:VK}
    (r1:Rel K g1 H1 Γ' m1 σ P1) (ar:Al K g1 H1 Γ' m1 σ as ds vs) (e1:s.fn ds=some (d,bs))
    (q:∀g2 P2 Pv v H2,Step g1 P1 H1 g2 (fun a=>P2 a\/Pv a) H2->Rep K g2 H2 s.ro d v Pv->Rel K g2 H2 Γ' (Fu (slots as s.io) bs m1) σ P2->BY P2 Pv->Q v H2):OA K s vs H1 Q E0:=by
  obtain⟨hs1,hs2⟩:=ZP hs;have nf:as.all OO=true:=by unfold cg at hs;rw[A2] at hs;exact hs.1
  have r1':=r1;obtain⟨zd,F,h1,h4⟩:=r1'
  -- wF slots,one by one
  have sl:∀{i j:Nat},DV as i=some j->i∈s.io/\j∈slots as s.io:=fun{i j} e=>by
    have hi:=(hs1 i (Dx e)).mp (by rw[e];rfl);exact⟨hi,k9.mpr ⟨i,hi,by rw[e];rfl⟩⟩
  have vb:∀{i:Nat},i∈s.io->∃j,DV as i=some j:=fun{i} hi=>O5.mp ((hs1 i (by rw[hn];exact qk i hi)).mpr hi)
  have ndS:(slots as s.io).Nodup:=by
    unfold slots;rw[Y9,List.pairwise_map];refine(Y9.mp nd).imp_of_mem fun{a b} ha hb n z=>?_
    obtain⟨ja,ea⟩:=vb ha;obtain⟨jb,eb⟩:=vb hb;rw[ea,eb] at z;simp only[nV] at z;subst z;exact n (hs2 a b ja ea eb)
  let Fa:Nat->Fp:=fun i a=>∃j,DV as i=some j/\F j a
  have al:=ar.len;have rA:Rel K g1 H1 (Kh s.ps.length s.io) ds (vs.map some) fun a=>∃i,Fa i a:=by
    refine⟨zd,Fa,⟨by unfold Kh;simp;rw[al.1,hn],by unfold Kh;simp;rw[al.2,hn],fun i o ei=>?_,fun i ei a ⟨j,ej,_⟩=>?_,fun i i' n a ⟨j,ej,z⟩ ⟨j',ej',z'⟩=>?_⟩,fun _=>X5⟩
    · obtain⟨hi,eo⟩:=Dw ei;obtain⟨d',v,d1,d2,z⟩:=ar.get (i:=i) nf (by rw[hn];exact hi);refine⟨d',v,d1,by rw[C0,d2];rfl,?_⟩;rcases z with⟨j,ej,rfl,hv⟩ | ⟨ej,z⟩
      · have:o=1:=by
          have:=C7 eo;rw[if_pos (C4.mpr (sl ej).1)] at this;exact this
        subst this;obtain⟨d3,v3,e3,e4,r3⟩:=h1.rep j 1 (hl j (sl ej).2);rw[hv] at e4;cases e4;have eq:Fa i=F j:=funext fun a=>propext ⟨fun⟨j',z,q⟩=>by rw[ej] at z;cases z;exact q,fun q=>⟨j,ej,q⟩⟩
        rw[Gc e3,eq];exact r3
      · have:o=0:=by
          have:=C7 eo;rw[if_neg fun w=>?_] at this
          · exact this
          · obtain⟨j,w⟩:=vb (C4.mp w);rw[ej] at w;cases w
        subst this;have eq:Fa i=pT:=CV fun a ⟨j,w,_⟩=>by rw[ej] at w;cases w
        rw[eq];exact z
    · refine ei (if s.io.contains i then 1 else 0) ?_;unfold Kh;rw[C0,L7 (by rw[<- hn];exact Dx ej)];rfl
    · by_cases w:j=j'
      · subst w;exact n (hs2 i i' j ej ej')
      · exact h1.dj j j' w a z z'
  let Fr:Nat->Fp:=fun j a=>j∉slots as s.io/\F j a
  have rr:Rel K g1 H1 (Ki (slots as s.io) Γ') m1 σ fun a=>∃j,Fr j a:=by
    refine⟨zd,Fr,⟨by unfold Ki;simp;exact h1.l1,by unfold Ki;simp;exact h1.l2,fun j o ej=>?_,fun j ej a ⟨n,z⟩=>?_,fun i j n a q z=>h1.dj i j n a q.2 z.2⟩,fun _=>X5⟩
    · obtain⟨nj,ej⟩:=Cb ej;obtain⟨d',v,d1,d2,z⟩:=h1.rep j o ej;have eq:Fr j=F j:=funext fun a=>propext ⟨fun w=>w.2,fun w=>⟨nj,w⟩⟩
      exact⟨d',v,d1,d2,by rw[eq];exact z⟩
    · refine h1.out j (fun o w=>ej o ?_) a z;unfold Ki;have hj:=(B1.mp w).1;rw[C0,L7 hj,F5,if_neg (fun q=>n (C4.mp q)),D0,w];rfl
  have dA:BY (fun a=>∃j,Fr j a) fun a=>∃i,Fa i a:=fun a ⟨j,nj,z⟩ ⟨i,j',ej,z'⟩=>by
    by_cases w:j=j'
    · subst w;exact nj (sl ej).2
    · exact h1.dj j j' w a z z'
  have okA:pd g1 H1 fun a=>∃i,Fa i a:=rA.pZ
  refine⟨g1,ds,_,rA,d,bs,e1,fun g2 H2 v Pv Pb s2 rv hb n=>?_⟩;have rr2:=rr.held s2 okA dA;have dB:BY (fun a=>∃j,Fr j a) fun a=>Pv a\/Pb a:=s2.out rr.pZ dA
  obtain⟨zd2,Fq,q1,q4⟩:=rr2;obtain⟨zb,Fb,b1,b4⟩:=hb;have lb:bs.length=s.io.length:=by have:=b1.l1;simpa using this
  have fq:∀{a:A8},(∃j,Fr j a)↔∃j,Fq j a:=fun{a}=>q4 a
  let Fz:Nat->Fp:=fun j a=>(∃k,(slots as s.io)[k]?=some j/\Fb k a)\/Fq j a
  have nq:∀j∈slots as s.io,∀a,¬Fq j a:=fun j hj=>q1.out j fun o w=>(Cb w).1 hj
  have rz:Rel K g2 H2 Γ' (Fu (slots as s.io) bs m1) σ fun a=>∃j,Fz j a:=by
    refine⟨zd2,Fz,⟨by rw[Ft];exact h1.l1,h1.l2,fun j o ej=>?_,fun j ej a z=>?_,fun i j n' a z w=>?_⟩,fun _=>X5⟩
    · have hjl:j < m1.length:=by rw[h1.l1];exact(B1.mp ej).1
      by_cases hj:j∈slots as s.io
      · obtain⟨kk,vg⟩:=mH hj;have hkk:kk < s.io.length:=by have:=(B1.mp vg).1;unfold slots at this;simpa using this
        rw[hl j hj] at ej;cases ej;obtain⟨b,u,c1,c2,c3⟩:=b1.rep kk 1 (by rw[C0,A4 hkk];rfl);have ei:(slots as s.io)[kk]?=some ((DV as s.io[kk]).getD 0):=by unfold slots;rw[C0,A4 hkk];rfl
        obtain⟨jj,ejj⟩:=vb (L9 hkk);rw[vg,ejj] at ei;have zAj:j=jj:=C7 ei;subst zAj;obtain⟨d3,v3,d1,d2,z3⟩:=ar.get (i:=s.io[kk]) nf (Dx ejj);rw[C0,A4 hkk,F5,d2] at c2;have eu:u=v3:=by simpa using c2.symm
        subst eu;have hv:σ[j]?=some (some u):=by
          rcases z3 with⟨j2,zg,_,z3⟩ | ⟨zg,_⟩
          · rw[ejj] at zg;cases zg;exact z3
          · rw[ejj] at zg;cases zg
        have eq:Fz j=Fb kk:=funext fun a=>propext ⟨fun w=>w.elim (fun⟨k',h',w⟩=>by
            have sv:=B1.mp vg;have we:=B1.mp h';have:k'=kk:=(a9 (h₀:=we.1) (h₁:=sv.1) ndS).mp (we.2.trans sv.2.symm);exact this▸w) fun w=>(nq j hj a w).elim,fun w=>.inl ⟨kk,vg,w⟩⟩
        exact⟨b,u,Mo _ bs m1 kk j b ndS vg c1 hjl,hv,by rw[eq];exact c3⟩
      · have ej':(Ki (slots as s.io) Γ')[j]?=some (some o):=by
          unfold Ki;rw[C0,L7 (B1.mp ej).1,F5,if_neg (fun w=>hj (C4.mp w)),D0,ej];rfl
        obtain⟨d3,v3,d1,d2,r3⟩:=q1.rep j o ej';have eq:Fz j=Fq j:=funext fun a=>propext ⟨fun w=>w.elim (fun⟨k',h',_⟩=>(hj (K7 h')).elim) id,.inr⟩
        exact⟨d3,v3,by rw[EA _ _ _ _ hj];exact d1,d2,by rw[eq];exact r3⟩
    · rcases z with⟨k',h',z⟩ | z
      · exact ej 1 (hl j (K7 h'))
      · refine q1.out j (fun o w=>ej o (Cb w).2) a z
    · rcases z with⟨k1,sv,z⟩ | z
      · rcases w with⟨k2,we,w⟩ | w
        · by_cases kk:k1=k2
          · subst kk;rw[sv] at we;exact n' (C7 we)
          · exact b1.dj k1 k2 kk a z w
        · exact dB a (fq.mpr ⟨j,w⟩) (.inr ((b4 a).mpr ⟨k1,z⟩))
      · rcases w with⟨k2,we,w⟩ | w
        · exact dB a (fq.mpr ⟨i,z⟩) (.inr ((b4 a).mpr ⟨k2,w⟩))
        · exact q1.dj i j n' a z w
  refine q g2 _ Pv v H2 ((s2.frame (R:=fun a=>∃j,Fr j a)).sub (fun a z=>?_) fun a z=>?_) rv rz fun a z w=>?_
  · rcases z with⟨i,j,_,z⟩ | ⟨j,_,z⟩
    · exact(h4 a).mpr ⟨j,z⟩
    · exact(h4 a).mpr ⟨j,z⟩
  · rcases z with⟨j,z⟩ | z
    · rcases z with⟨k',_,z⟩ | z
      · exact .inl (.inr ((b4 a).mpr ⟨k',z⟩))
      · exact .inr (fq.mpr ⟨j,z⟩)
    · exact .inl (.inl z)
  · obtain⟨j,z⟩:=z;rcases z with⟨k',_,z⟩ | z
    · exact n a w ((b4 a).mpr ⟨k',z⟩)
    · exact dB a (fq.mpr ⟨j,z⟩) (.inl w)
theorem Sy{s:qF}(c:AD Γ as Γ' js)(hs:cg as s.io=true)(hn:as.length=s.ps.length)(nd:s.io.Nodup)(qk:∀i∈s.io,i < s.ps.length)(hl:∀i∈slots as s.io,Γ'[i]?=some (some 1)){Q:VK}
    (h:tE K Γ s.ro Γ' (js++slots as s.io) (Li s as) σ H Q):BM K as σ H fun vs H1=>OA K s vs H1 Q E0:=by
  obtain⟨g,m,P,r,R,k,res,e,q⟩:=h;refine AK as r c e fun ds m1 g1 P1 vs H1 hk ag st ar r1=>?_
  rw[s.eq] at hk;obtain⟨⟨d,bs⟩,e1,e2⟩:=pR hk;exact PR hs hn nd qk hl r1 ar e1 fun g2 P2 Pv v H2 wt rv rz n=>q d _ g2 P2 Pv v H2 e2 (ag.trans (Qz _ bs m1)) (st.trans wt) rv rz n
mutual
noncomputable def DW:Dv->Bool
 | .pX | .bl _ | .int _ | .str _=>true
 | .tup ds=>Vt ds
 | _=>false
noncomputable def Vt:List Dv->Bool
 | []=>true
 | d::ds=>DW d && Vt ds
end
mutual
theorem IR{g':G}:∀{o o':Nat} {d:Dv} {v:V} {Pv:Fp},Rep K g' H o d v Pv->DW d=true->Rep K g H o' d v pT
 | _,_,.pX,_,_,h,_ | _,_,.bl _,_,_,h,_ | _,_,.int _,_,_,h,_ | _,_,.str _,_,_,h,_=>by unfold Rep at h ⊢;exact⟨h.1,fun _ z=>z⟩
 | _,_,.tup ds,v,_,h,e=>by
  unfold Rep at h ⊢;obtain⟨a,vs,e1,h1,h2⟩:=h;unfold DW at e;exact⟨a,vs,e1,h1,JY h2 e⟩
 | _,_,.lst _,_,_,_,e | _,_,.rX _ _,_,_,_,e | _,_,.ref _,_,_,_,e | _,_,.qW _,_,_,_,e | _,_,.ty _,_,_,_,e | _,_,.uJ _,_,_,_,e | _,_,.uC _ _,_,_,_,e | _,_,.uV _ _,_,_,_,e | _,_,.obj _ _ _ _,_,_,_,e=>by unfold DW at e;cases e
theorem JY{g':G}:∀{o o':Nat} {ds:List Dv} {vs:List V} {Pv:Fp},AA K g' H o ds vs Pv->Vt ds=true->AA K g H o' ds vs pT
 | _,_,[],_,_,h,_=>by unfold AA at h ⊢;exact⟨h.1,fun _ z=>z⟩
 | _,_,d::ds,_,_,h,e=>by
  unfold AA at h ⊢;obtain⟨v,r,P1,P2,e1,h1,h2,_,_⟩:=h;unfold Vt at e;rw[A2] at e;exact⟨v,r,pT,pT,e1,IR h1 e.1,JY h2 e.2,fun _ z=>z.elim,fun a=>⟨fun z=>z.elim,fun z=>z.elim id id⟩⟩
end
theorem Al.fz(r:Rel K g H Γ m σ P):∀{as:List Ar} {ds:List Dv} {vs:List V},Al K g H Γ m σ as ds vs->AA K (g.add P) H 0 ds vs pT
 | [],ds,vs,h=>by unfold Al at h;obtain⟨rfl,rfl⟩:=h;exact AA.nil
 | .ev _ _ _ f::as,ds,vs,h=>by
  unfold Al at h;obtain⟨d,v,sG,qQ,rfl,rfl,h1,h2⟩:=h;exact(AA.cons (h1.freeze (P:=P) fun _ z=>z.elim) (Al.fz r h2) fun _ z=>z.elim).iff fun a=>⟨fun z=>z.elim,fun z=>z.elim id id⟩
 | .rf i::as,ds,vs,h=>by
  unfold Al at h;obtain⟨v,sG,qQ,rfl,rfl,h1,⟨o,_,ho⟩,h3⟩:=h;obtain⟨v',P1,e,k,sb⟩:=r.tF ho;rw[h1] at e;cases e;exact(AA.cons (k.freeze (P:=P) sb) (Al.fz r h3) fun _ z=>z.elim).iff fun a=>⟨fun z=>z.elim,fun z=>z.elim id id⟩
 | .fd i f::as,ds,vs,h=>by
  unfold Al at h;obtain⟨d,v,sG,qQ,rfl,rfl,⟨h1,a,C,dx,fs,hv,ha,hlk⟩,⟨o,hl,ho⟩,h3⟩:=h;obtain⟨v',P1,e,k,sb⟩:=r.tF ho;rw[hv] at e;cases e;obtain⟨a',C',dx',uM,w,Q1,Q2,ea,sv,_,_,sS,sN,_,hP,_⟩:=IQ k h1;cases ea;rw[ha] at sv;cases sv;rw[hlk] at sS;cases sS;exact(AA.cons (sN.freeze (P:=P) fun b z=>sb b ((hP b).mpr (.inl z))) (Al.fz r h3) fun _ z=>z.elim).iff fun a=>⟨fun z=>z.elim,fun z=>z.elim id id⟩
theorem WB{n:Nat}{ds:List Dv}{vs:List V}(zd:Zd g H)(h:AA K g H 0 ds vs pT)(hn:ds.length=n):Rel K g H (Kh n []) ds (vs.map some) pT:=by
 refine⟨zd,fun _=>pT,⟨by unfold Kh;simp[hn],by unfold Kh;simp[<- hn,h.len],fun i o e=>?_,fun i e a z=>z,fun i j n a z=>z.elim⟩,fun a=>⟨fun z=>z.elim,fun⟨i,z⟩=>z⟩⟩;obtain⟨hi,e⟩:=Dw e;have eo:o=0:=(C7 e);subst eo;obtain⟨v,_,ev,rv,_⟩:=h.get (A4 (by omega:i < ds.length));exact⟨_,v,A4 (by omega),by rw[C0,ev];rfl,rv.z⟩
def Ic(s:qF)(as:List Ar):Ev Dv:=fun R m k=>AQ as R m fun ds m1=>s.cps R ds fun d _=>bif DW d then k d m1 else none
theorem PH{s:qF}(c:AD Γ as Γ' js)(hs:s.io=[])(hn:as.length=s.ps.length){Q:VK}(h:tE K Γ 1 Γ' js (Ic s as) σ H Q):BM K as σ H fun vs H1=>OA K s vs H1 Q E0:=by
 obtain⟨g,m,P,r,R,k,res,e,q⟩:=h;refine AK as r c e fun ds m1 g1 P1 vs H1 hk ag st ar r1=>?_
 rw[s.eq] at hk;obtain⟨⟨d,bs⟩,e1,e2⟩:=pR hk;cases c:DW d with
 | false=>simp only[c,cond_false] at e2;cases e2
 | true =>
  simp only[c,cond_true] at e2;have fs:Step g1 P1 H1 (g1.add P1) pT H1:=Step.freeze r1.pZ;refine⟨g1.add P1,ds,pT,by rw[hs];exact WB (fs.zd r1.zd) (ar.fz r1) (ar.len.1.trans hn),d,bs,e1,fun g' H' v Pv Pb s2 rv _ _=>?_⟩;have sm:Iw H1 H':=fun b o hb=>s2.keep b o hb fun z=>z
  exact q d m1 g1 P1 pT v H' e2 ag ((st.trans (Step.same sm)).less fun _ z=>z.elim id D2) (IR rv c) (r1.same sm) fun _ _ z=>z
def bF(Γ:Gm):Gm:=Γ.map fun x=>x.map fun _=>0
theorem Lc:∀(Γ:Gm),BL (bF Γ) Γ=true
 | []=>rfl
 | none::Γ=>by unfold bF BL;exact Lc Γ
 | some o::Γ=>by
  show BL (some 0::bF Γ) (some o::Γ)=true;unfold BL;rw[Lc Γ];rfl
def SU(f:Ev Dv):Ev Dv:=fun R m k=>f R m fun d m1=>bif DW d then k d m1 else none
theorem Rj{f:Ev Dv}{Γx:Gm}{o:Nat}(hj:∀i o,Γ[i]?=some (some o)->i∉js){Q:VK}(h:tE K Γ 1 Γ js (SU f) σ H Q):tE K (bF Γ) o Γx js f σ H Q:=by
  obtain⟨g,m,P,r,R,k,res,e,q⟩:=h;obtain⟨g2,P2,s2,r2⟩:=r.weaken (Lc Γ);have np:∀a,¬P2 a:=fun a z=>by
    obtain⟨_,F,h1,h4⟩:=r2;obtain⟨i,z⟩:=(h4 a).mp z
    by_cases c:∃o,(bF Γ)[i]?=some (some o)
    · obtain⟨o',c⟩:=c;have:o'=0:=by
        unfold bF at c;rw[C0] at c;obtain⟨x,_,c⟩:=G9.mp c;obtain⟨_,_,c⟩:=G9.mp c;exact c.symm
      subst this;obtain⟨_,_,_,_,rr⟩:=h1.rep i 0 c;exact rr.qB a z
    · exact h1.out i (fun o' z=>c ⟨o',z⟩) a z
  refine⟨g2,m,P2,r2,R,_,res,e,fun d m' g' P' Pv v H' hk ag s rv _ _=>?_⟩;cases c:DW d with
  | false=>simp only[c,cond_false] at hk;cases hk
  | true =>
    simp only[c,cond_true] at hk;have sm:Iw H H':=fun b o hb=>s.keep b o hb (np b)
    have rm:Rel K g H Γ m' σ P:=r.agree (by rw[ag.1]) fun i o hi=>ag.2 i (hj i o hi)
    exact q d m' g P pT v H' hk ag ((Step.same sm).less fun _ z=>z.elim id D2) (IR rv c) (rm.same sm) fun _ _ z=>z
end
end R
namespace L2
open PySem PySem.Spec PyProof.Rows
end L2
namespace L2
open PySem PySem.Spec PyProof.Rows PySem.Builtin PySem.Builtin.Str
end L2
namespace L2
open PySem PySem.Spec PyProof.Rows
def kc(H:Hp)(a:A8)(y:V)(r:Option V):Prop:=JB H a y r\/(r=none/\H a=some (.dK [])/\∃(k:List BK) (b:A8),y=.ref b/\H b=some (.tup (k.map kV)))
def kb(H:Hp)(a:A8)(y v:V)(H':Hp):Prop:=UN H a y v H'\/(H a=some (.dK [])/\∃(k:List BK) (b:A8),y=.ref b/\H b=some (.tup (k.map kV))/\H'=upd H a (.dT [(k,v)]))
section
variable {X:Cx}
def kB:R2:=fun x y H Q=>∃a v,x=.ref a/\JB H a y (some v)/\Q v H
theorem fR(hu:X.A.units+1 < R3):Pm X kB:=by
 intro value slice pins s σ H x y v u Q I rx ry h hs;obtain⟨a,z,rfl,g,q⟩:=h;obtain rfl:v=D7 a:=rx;have hT:=Jy I g;have h2:=Ou (Q:=EP X pins σ Q) (E:=X.xe) (A:=X.A) hu I g ry fun w' s3 I3 sN=>⟨z,H,I3,sN,q⟩
 unfold Z9;refine A0 ?_;rw[getitemInPython_of_ne hT.not_modules];refine A0 (P9 hT PySem.F.slot_dict_getitem.lookup ?_);have fin:B4 (C3 X.prog X.w) X.A (l9 slice false (.ref a) u) (fun r qr=>B4 (C3 X.prog X.w) X.A (letTemporaryGo value (.ref a) r >>= fun _=>pure r) (EP X pins σ Q) X.xe qr) X.xe s:=by
  rw[hs];exact wpAny_operating (J4 h2 (fun r qr tQ=>A0 (wpAny_letTemporaryGo (A7 tQ))) fun _ _ x=>x)
 first
  | exact A7 (A0 fin)
  | exact A0 (A7 (A0 fin))
  | exact A0 fin
theorem Kd.or{t t':Pk}(h:Kd X t)(h':Kd X t'):Kd X (fun o i v H Q=>t o i v H Q\/t' o i v H Q):=by
 intro pins s σ H o i v ov iv u Q I ro ri rv q;rcases q with q | q
 ·exact h pins s σ H o i v ov iv u Q I ro ri rv q
 ·exact h' pins s σ H o i v ov iv u Q I ro ri rv q
def Xr:List V->Hp->VK->Prop:=fun xs H Q=>∃a pW,xs=[V.ref a]/\H a=some (.dK pW)/\Q (.int pW.length) H
theorem Ly:Aw X (.builtin "len") Xr:=PM
end
def lR(H:Hp)(a:A8)(y:V)(r:Option V):Prop:=∃k b,y=.ref b/\dC H k b/\((∃pW,H a=some (.dN pW)/\r=Dm pW k)\/H a=some (.dK [])/\r=none)
def lQ(H:Hp)(a:A8)(y v:V)(H':Hp):Prop:=∃k b,y=.ref b/\dC H k b/\((∃pW,H a=some (.dN pW)/\pW.length < sizeLine/\H'=upd H a (.dN (LJ pW k v)))\/H a=some (.dK [])/\H'=upd H a (.dN [(k,v)]))
end L2
namespace R
open PySem L2
def Mx:Dv->Option BK
 | .int i=>some (.inl i)
 | .str l=>some (.inr (tx l))
 | _=>none
def Ro:List Dv->Option (List BK)
 | []=>some []
 | d::ds=>(Mx d).bind fun k=>(Ro ds).bind fun ks=>some (k::ks)
def iz:Dv->Option (List BK)
 | .tup ds=>Ro ds
 | _=>none
section
variable {κ:Type} [DecidableEq κ]
noncomputable def Ox(k:κ):List κ->List Dv->Option Dv
 | j::ks,d::ds=>if j=k then some d else Ox k ks ds
 | _,_=>none
noncomputable def bT(k:κ)(ks:List κ):List κ:=if ks.any (fun j=>decide (j=k))=true then ks else ks++[k]
noncomputable def Ov(k:κ)(x:Dv):List κ->List Dv->List Dv
 | j::ks,d::ds=>(if j=k then x else d)::Ov k x ks ds
 | _,_=>[]
def bS(k:κ)(x:Dv)(ks:List κ)(ds:List Dv):List Dv:=if ks.any (fun j=>decide (j=k))=true then Ov k x ks ds else ds++[x]
end
variable {o:Nat} {d:Dv} {v:V} {P:Fp} {ds:List Dv}
section
variable {K:W.Frag} {g:G} {H:Hp} {κ:Type} [DecidableEq κ]
theorem WG{k:BK}(h:Rep K g H o d v P)(e:Mx d=some k):v=kV k:=by
 cases d with
 | int i=>cases e;unfold Rep at h;exact h.1
 | str l=>cases e;unfold Rep at h;exact h.1
 | _=>cases e
theorem Jz{k:κ}:∀{ks:List κ} {ds:List Dv} {us:List V} {R:Fp} {d:Dv},AA K g H 0 ds us R->Ox k ks ds=some d->∃v,Dm (ks.zip us) k=some v/\Rep K g H 0 d v pT
 | [],ds,us,R,d,_,e=>by cases ds<;>cases e
 | j::ks,[],us,R,d,_,e=>by cases e
 | j::ks,x::ds,us,R,d,h,e=>by
  unfold AA at h;obtain⟨v,r,P1,P2,rfl,h1,h2,_⟩:=h;unfold Ox at e;split at e
  ·rename_i c;cases e;exact⟨v,by rw[K2];exact Dk c,h1.z⟩
  ·rename_i c;obtain⟨w,e1,e2⟩:=Jz h2 e;exact⟨w,by rw[K2,Dl c];exact e1,e2⟩
theorem Ow{k:κ}:∀{ks:List κ} {ds:List Dv} {us:List V},ks.length=ds.length->ds.length=us.length->(Dm (ks.zip us) k).isSome=(Ox k ks ds).isSome
 | [],[],_,_,_=>rfl
 | j::ks,d::ds,[],_,h=>by cases h
 | j::ks,d::ds,u::us,h1,h2=>by
  have ih:=Ow (k:=k) (ks:=ks) (ds:=ds) (us:=us) (by simpa using h1) (by simpa using h2);rw[K2];unfold Ox
  by_cases c:j=k
  ·rw[Dk (p:=(j,u)) c,if_pos c];rfl
  ·rw[Dl (p:=(j,u)) c,if_neg c];exact ih
theorem gG{k:κ}{x:Dv}{w:V}{ks:List κ}{us:List V}{R:Fp}(hl:ks.length=ds.length)(h:AA K g H 0 ds us R)(hx:Rep K g H 0 x w pT) :
    ∃wA,LJ (ks.zip us) k w=(bT k ks).zip wA/\AA K g H 0 (bS k x ks ds) wA pT/\(bT k ks).length=(bS k x ks ds).length:=by
  have qx:ks.length=us.length:=by rw[hl,h.len]
  have any_eq:∀{ks:List κ} {us:List V},ks.length=us.length->((ks.zip us).any fun kv=>decide (kv.1=k))=ks.any fun j=>decide (j=k):=fun{ks us} h=>by
    induction ks generalizing us with
    | nil=>rfl
    | cons j ks ih =>
      cases us with
      | nil=>cases h
      | cons u us=>rw[K2,S6,S6,ih (by simpa using h)]
  unfold LJ bT bS;rw[any_eq qx]
  by_cases c:(ks.any fun j=>decide (j=k))=true
  · rw[if_pos c,if_pos c,if_pos c];have:∀{ks:List κ} {ds:List Dv} {us:List V} {R:Fp},ks.length=ds.length->AA K g H 0 ds us R->∃wA,((ks.zip us).map fun kv=>if kv.1=k then(kv.1,w) else kv)=ks.zip wA/\AA K g H 0 (Ov k x ks ds) wA pT/\ks.length=(Ov k x ks ds).length:=fun{ks ds us R} hl h=>by
      induction ks generalizing ds us R with
      | nil=>exact⟨[],by simp,by cases ds<;>exact AA.nil,by cases ds<;>rfl⟩
      | cons j ks ih =>
        cases ds with
        | nil=>cases hl
        | cons d ds =>
          unfold AA at h;obtain⟨v,r,P1,P2,rfl,h1,h2,_⟩:=h;obtain⟨wA,e1,e2,e3⟩:=ih (by simpa using hl) h2;refine⟨(if j=k then w else v)::wA,?_,?_,by simp[Ov];omega⟩
          · rw[K2,E7,K2,e1]
            by_cases q:j=k<;>simp[q]
          · unfold Ov;refine((AA.cons (P1:=pT) (P2:=pT) ?_ e2 (fun _ z=>z.elim)).iff fun a=>⟨fun z=>z.elim,fun z=>z.elim id id⟩)
            by_cases q:j=k
            · rw[if_pos q,if_pos q];exact hx
            · rw[if_neg q,if_neg q];exact h1.z
    exact this hl h
  · rw[if_neg c,if_neg c,if_neg c];refine⟨us++[w],?_,?_,by simp[hl]⟩
    · rw[List.zip_append qx];rfl
    · exact(AA.app (P:=pT) (Q:=pT) h.z ((AA.cons (P1:=pT) (P2:=pT) hx AA.nil fun _ z=>z.elim).iff fun a=>⟨fun z=>z.elim,fun z=>z.elim id id⟩) fun _ z=>z.elim).iff fun a=>⟨fun z=>z.elim,fun z=>z.elim id id⟩
theorem bR{ks:List BK}(h:Rep K g H o (.rX ks ds) v P):∃a us,v=.ref a/\H a=some (.dK (ks.zip us))/\ks.length=ds.length/\AA K g H 0 ds us pT:=by
 unfold Rep at h;obtain⟨a,us,e,h1,_,_,⟨h5,R,h6⟩,_⟩:=h;exact⟨a,us,e,h1,h5,h6.z⟩
def YD:List Dv->Option (NK BK)
 | []=>some []
 | d::ds=>((Mx d).map Sum.inl |>.or ((iz d).map Sum.inr)).bind fun k=>(YD ds).bind fun ks=>some (k::ks)
def lG:Dv->Option (NK BK)
 | .tup ds=>YD ds
 | _=>none
end
noncomputable abbrev Mu:=Dv->List Dv->Option (Dv×Dv)
def cW(K:W.Frag)(p:Mu)(R:V->List V->Hp->VK->Prop):Prop:=∀g H x v P ds us r y Q,Zd g H->Rep K g H 1 x v P->AA K g H 0 ds us pT->p x ds=some (r,y) ->
 (∀w H' P',Step g P H g P' H'->Rep K g H' 1 y v P'->Rep K g H' 0 r w pT->Q w H')->R v us H Q
noncomputable def kind:Dv->String
 | .lst _ => "list"
 | .qW _ => "list"
 | .str _ => "str"
 | .int _ => "int"
 | .uC _ _ => "dict"
 | .rX _ _ => "dict"
 | .tup _ => "tuple"
 | _ => "?"
def Pt{α:Type}(T:String)(d:Dv)(o:Option α):Option α:=if kind d=T then o else none
variable {T:String}
theorem Cv{α:Type}{o:Option α}{a:α}(h:Pt T d o=some a):kind d=T/\o=some a:=by
 unfold Pt at h;split at h
 ·rename_i z;exact⟨z,h⟩
 ·cases h
def SO(T:String)(i:Nat)(p:Mu)(fa:Ev (List Dv)):Ev Dv:=fun R m k=>Pt T (m.at i) (fa R m fun ds m1=>(p (m1.at i) ds).bind fun r=>k r.1 (m1.set i r.2))
variable {vs:List V}
section
variable {K:W.Frag} {g:G} {H:Hp} {σ:St} {Γ Γ':Gm} {js:List Nat} {as:List Ar}
theorem Km(h:Rep K g H o d v P)(e:kind d=T)(hT:T = "list" \/ T = "str" \/ T = "int" \/ T = "dict"):iE K T v H:=by
 subst e;cases d with
 | lst ds=>unfold Rep at h;obtain⟨a,vs,P',rfl,h1,_⟩:=h;exact .inl ⟨rfl,vs,.inl (.inl h1.1)⟩
 | qW ns=>unfold Rep at h;obtain⟨⟨a,rfl,h1⟩,_⟩:=h;exact .inl ⟨rfl,_,h1.sq⟩
 | str l=>unfold Rep at h;rw[h.1];rfl
 | int i=>unfold Rep at h;rw[h.1];rfl
 | uC ks l=>unfold Rep at h;obtain⟨a,vs,rfl,h1,_⟩:=h;exact .inr (.inr (.inl ⟨rfl,.inr ⟨_,h1⟩⟩))
 | rX ks l=>unfold Rep at h;obtain⟨a,vs,rfl,h1,_⟩:=h;exact .inr (.inr (.inl ⟨rfl,.inl ⟨_,h1⟩⟩))
 | _=>rcases hT with h | h | h | h<;>simp[kind] at h
theorem Vv{i:Nat}{p:Mu}{R:V->List V->Hp->VK->Prop}(hR:cW K p R)(hT:T = "list" \/ T = "str" \/ T = "int" \/ T = "dict")(c:AD Γ as Γ' js)(he:Lh as=true)(h0:∃o,Γ[i]?=some (some o))(hi:Γ'[i]?=some (some 1)){Q:VK}
    (h:tE K Γ 0 Γ' (js++[i]) (SO T i p (AQ as)) σ H Q):dh K T R (DU i) (BM K as) σ H Q:=by
  obtain⟨g,m,P,r,R',k,res,e,q⟩:=h;obtain⟨e0,e⟩:=Cv e;obtain⟨o0,h0⟩:=h0;obtain⟨v0,P0,tK,x3,_⟩:=r.tF h0;refine⟨v0,tK,Km x3 e0 hT,AK as r c e fun ds m1 g1 P1 vs H1 hk ag s ar r1=>?_⟩;obtain⟨⟨rs,y⟩,e1,e2⟩:=pR hk;obtain⟨v,Pa,Pr,ev,em,rv,r2,n,hP⟩:=r1.take hi;rw[tK] at ev;cases ev;refine hR g1 H1 _ v0 Pa ds vs rs y Q r1.zd rv (ar.sY he) e1 fun w H2 P' s2 ry rr=>?_
  have r3:=r2.held s2 rv.pZ fun a q z=>n a z q
  have n3:=s2.out r2.pZ fun a q z=>n a z q
  have hil:i < Γ'.length:=(B1.mp hi).1;obtain⟨P4,r4,sp⟩:=r3.putIn hil tK ry fun a q z=>n3 a z q
  rw[Cn hi] at r4;refine q rs _ g1 P4 pT w H2 e2 (ag.trans BQ.set) (s.trans ((s2.frame (R:=Pr)).sub (fun a z=>(hP a).mpr z) fun a z=>z.elim (fun z=>sp a z) D2)) rr r4 fun _ _ z=>z
theorem Step.upd{a:A8}{o u:HO}{P':Fp}(h:H a=some u)(nu:∀C dx fs,u≠.ins C dx fs)(hs:∀b,P' b->b=a\/H b=none):Step g (fun b=>b=a) H g P' (upd H a o):=by
 have dm:∀b,L2.upd H a o b=none->H b=none:=fun b q=>by
  by_cases hb:b=a
  ·subst hb;rw[AM] at q;cases q
  ·rw[AE hb] at q;exact q
 exact⟨fun b u q n=>by rw[AE n];exact q,dm,fun _ q=>q,fun _ q=>.inl q,⟨[],by simp⟩,hs,fun z b q e=>z b q (dm b e),MS h nu⟩
theorem Ms{xs:List Dv}(h:Rep K g H 1 (.lst xs) v P):∃a vs,v=.ref a/\H a=some (.lst vs)/\¬g.Z a/\AA K g H 0 xs vs pT/\(∀b,P b↔b=a) /\
    ∀ws,Step g P H g P (upd H a (.lst ws))/\(∀{d:Dv} {u:V},Rep K g H 0 d u pT->Rep K g (upd H a (.lst ws)) 0 d u pT)/\∀ys,AA K g H 0 ys ws pT->Rep K g (upd H a (.lst ws)) 1 (.lst ys) (.ref a) P:=by
  unfold Rep at h;obtain⟨a,vs,P',rfl,h1,h2,h3,h5⟩:=h;have hP:∀b,P b↔b=a:=fun b=>by rw[h5 b];exact⟨fun z=>z.elim (fun z=>z.2) fun z=>(h2.qB b z).elim,fun z=>.inl ⟨by decide,z⟩⟩
  have eP:P=fun b=>b=a:=funext fun b=>propext (hP b)
  have hz:=h1.2.2 (by decide);have oka:pd g H fun b=>b=a:=fun b q=>by subst q;exact⟨by rw[h1.1];trivial,hz⟩
  refine⟨a,vs,rfl,h1.1,hz,h2.z,hP,fun ws=>?_⟩;have st:Step g (fun b=>b=a) H g (fun b=>b=a) (upd H a (.lst ws)):=Step.upd h1.1 (fun _ _ _ z=>by cases z) fun b z=>.inl z
  refine⟨by rw[eP];exact st,fun r=>r.held st oka fun _ z=>z.elim,fun ys r=>?_⟩;unfold Rep;exact⟨a,ws,pT,rfl,⟨AM,(fun z=>by cases z),fun _=>hz⟩,r.held st oka fun _ z=>z.elim,fun z=>z,fun b=>by rw[hP b];exact⟨fun z=>.inl ⟨by decide,z⟩,fun z=>z.elim (fun z=>z.2) D2⟩⟩
theorem Cr:∀{ds:List Dv} {vs:List V},AA K g H 0 ds vs pT↔ds.length=vs.length/\∀(i:Nat) (d:Dv) (v:V),ds[i]?=some d->vs[i]?=some v->Rep K g H 0 d v pT
 | [],vs=>⟨fun h=>⟨h.len,fun i d v e=>by simp at e⟩,fun h=>by
  have:vs=[]:=J8 h.1.symm;subst this;exact AA.nil⟩
 | x::xs,vs=>by
  refine⟨fun h=>⟨h.len,fun i d v e1 e2=>?_⟩,fun h=>?_⟩
  ·obtain⟨v',P,e',r,_⟩:=h.get e1;rw[e2] at e';cases e';exact r.z
  ·cases vs with
   | nil=>simp at h
   | cons v vs =>
    exact(AA.cons (h.2 0 x v rfl rfl) (Cr.mpr ⟨by simpa using h.1,fun i d u e1 e2=>h.2 (i+1) d u (by simpa using e1) (by simpa using e2)⟩) fun _ z=>z.elim).iff fun a=>⟨fun z=>z.elim,fun z=>z.elim id id⟩
theorem DK{es:List Dv}{us:List V}(h:AA K g H 0 ds vs pT)(k:AA K g H 0 es us pT):AA K g H 0 (ds++es) (vs++us) pT:=(AA.app h k fun _ z=>z.elim).iff fun a=>⟨fun z=>z.elim,fun z=>z.elim id id⟩
theorem Ea(h:Rep K g H 0 d v pT):AA K g H 0 [d] [v] pT:=(AA.cons h AA.nil fun _ z=>z.elim).iff fun a=>⟨fun z=>z.elim,fun z=>z.elim id id⟩
theorem Bm(h:AA K g H 0 (d::ds) vs pT):∃v us,vs=v::us/\Rep K g H 0 d v pT/\AA K g H 0 ds us pT:=by
 unfold AA at h;obtain⟨v,r,P1,P2,rfl,h1,h2,_⟩:=h;exact⟨v,r,rfl,h1.z,h2.z⟩
theorem CK(h:AA K g H 0 [] vs pT):vs=[]:=by unfold AA at h;exact h.1
theorem OC(j:Nat)(h:AA K g H 0 ds vs pT)(r:Rep K g H 0 d v pT):AA K g H 0 (ds.set j d) (vs.set j v) pT:=by
 have h0:=Cr.mp h;refine Cr.mpr ⟨by simp[h0.1],fun i x y e1 e2=>?_⟩;rcases DB e1 with⟨rfl,rfl⟩ | ⟨n,e1⟩
 ·rcases DB e2 with⟨_,rfl⟩ | ⟨n,_⟩
  ·exact r
  ·exact(n rfl).elim
 ·rcases DB e2 with⟨z,_⟩ | ⟨_,e2⟩
  ·exact(n z).elim
  ·exact h0.2 i x y e1 e2
theorem HX:Rep K g H o .pX .pX pT:=by unfold Rep;exact⟨rfl,fun _ z=>z⟩
noncomputable def Bw(x:Dv)(ds:List Dv):Option (Dv×Dv):=match x,ds with
 | .lst xs,[d]=>if xs.length<=1000000 then some (.pX,.lst (xs++[d])) else none
 | _,_=>none
theorem OQ:cW K Bw Ml:=fun g H x v P ds us r y Q zd rx rd e k=>by
 unfold Bw at e;split at e
 ·rename_i xs d;split at e
  ·rename_i hl;cases e;obtain⟨a,vs,rfl,ha,hz,hx,hP,go⟩:=Ms rx;obtain⟨u,wA,rfl,hu,h2⟩:=Bm rd;cases CK h2;obtain⟨s,hd,mk⟩:=go (vs++[u]);exact⟨a,vs,u,rfl,rfl,ha,Y8 (by rw[<- hx.len];exact hl) (by decide),k _ _ P s (mk _ (DK hx (Ea hu))) HX⟩
  ·cases e
 ·cases e
end
def YM(i:Nat)(p:Dv->Dv->Dv->Option Dv)(f:Ev Dv)(fk:Ev (List Dv)):Es:=fun R m k=>f R m fun d m1=>fk R m1 fun ks m2=>match ks with | [j]=>(p (m2.at i) j d).bind fun y=>k.nx (m2.set i y) | _=>none
def CF(x k d:Dv):Option Dv:=match x,k with
 | .lst xs,.int k=>(Jd xs.length k).bind fun j=>some (.lst (xs.set j d))
 | _,_=>none
def cU(K:W.Frag)(p:Dv->Dv->Dv->Option Dv)(T:Pk):Prop:=∀g H x v P j vj d u y (Q:Hp->Prop),Zd g H->Rep K g H 1 x v P->RA K g H [j] [vj]->Rep K g H 0 d u pT->p x j d=some y->(∀H' P',Step g P H g P' H'->Rep K g H' 1 y v P'->Q H')->T v vj u H Q
theorem ZQ{K:W.Frag}:cU K CF Qv:=fun g H x v P j vj d u y Q zd rx rj rd e q=>by
 unfold CF at e;split at e
 ·rename_i xs kk;obtain⟨jj,ej,e⟩:=pR e;cases e;obtain⟨a,vs,rfl,ha,hz,hx,hP,go⟩:=Ms rx;unfold RA at rj;obtain⟨w,wr,o,Po,ew,_,sN,_⟩:=rj;cases ew;rw[AL sN];obtain⟨s,hd,mk⟩:=go (vs.set jj u);exact⟨a,vs,kk,jj,rfl,rfl,ha,by rw[<- hx.len];exact ej,q _ P s (mk _ (OC jj hx rd))⟩
 ·cases e
section
variable {K:W.Frag} {F:Fr} {pU:Option Gm} {Γ qA Γ':Gm} {js js2:List Nat} {i:Nat} {f:Ev Dv} {a:Ar} {p:Dv->Dv->Dv->Option Dv} {T:Pk}
theorem Qi(hp:cU K p T)(c:AD qA [a] Γ' js2)(h0:∃o,qA[i]?=some (some o))(hi:Γ'[i]?=some (some 1)){D:Ends}{σ:St}{H:Hp}(h:tS K F pU Γ (some Γ') (js++(js2++[i])) (YM i p f (AQ [a])) D σ H):JG (tE K Γ 0 qA js f) (fh (DU i) (IC K a) T) D σ H:=by
 obtain⟨g,m,P,r,R,k,res,e,q⟩:=h;refine⟨g,m,P,r,R,_,res,e,fun d m1 g1 P1 Pv u H1 hk ag s rv r1 n=>?_⟩;obtain⟨o0,h0⟩:=h0;obtain⟨v0,P0,tK,_,_⟩:=r1.tF h0;refine⟨v0,tK,?_⟩;have rz:=rv.z;have s':Step g P H g1 P1 H1:=s.less fun _ z=>.inl z
 have key:BM K [a] σ H1 fun vs H2=>∃w,vs=[w]/\T v0 w u H2 fun H3=>D.nx σ H3:=by
  refine AK [a] r1 c hk fun ds m2 g2 P2 vs H2 rT sA s2 ar r2=>?_
  have al:=ar.len;have ra:=ar.ra r2
  match ds,al.1,rT,ra with
  | [j],_,rT,ra =>
   have ra0:=ra;unfold RA at ra;obtain⟨w,wr,o,Po,rfl,_,h1,h2⟩:=ra;unfold RA at h2;subst h2;obtain⟨y,e1,e2⟩:=pR rT;obtain⟨v,Pa,Pr,ev,em,rx,r3,n3,hP⟩:=r2.take hi;rw[tK] at ev;cases ev;refine⟨w,rfl,hp g2 H2 _ v0 Pa j w d u y _ r2.zd rx ra0 (rz.held s2 r1.pZ fun _ z=>z.elim) e1 fun H3 P' s3 ry=>?_⟩;have r4:=r3.held s3 rx.pZ fun a q z=>n3 a z q
   have n4:=s3.out r3.pZ fun a q z=>n3 a z q
   obtain⟨P5,r5,sp⟩:=r4.putIn (B1.mp hi).1 tK ry fun a q z=>n4 a z q
   rw[Cn hi] at r5;exact q.nx Γ' _ g2 P5 σ H3 rfl e2 (ag.trans (sA.trans BQ.set)) ((s'.trans s2).trans ((s3.frame (R:=Pr)).sub (fun a z=>(hP a).mpr z) fun a z=>sp a z)) Io.refl r5
 have mono:∀(Q1 Q2:VK),(∀v H,Q1 v H->Q2 v H)->IC K a σ H1 Q1->IC K a σ H1 Q2:=by
  intro Q1 Q2 xc t;cases a with
  | ev Γa Γb ja fa =>
   obtain⟨g,m,P,r,R,k,res,e,q⟩:=t;exact⟨g,m,P,r,R,k,res,e,fun d m' g' P' Pv v H' h1 h2 h3 h4 h5 h6=>xc _ _ (q d m' g' P' Pv v H' h1 h2 h3 h4 h5 h6)⟩
  | rf i=>obtain⟨v,e,q⟩:=t;exact⟨v,e,xc _ _ q⟩
  | fd i f=>obtain⟨v,e,a,C,dx,fs,w,h1,h2,h3,h4,h5,q⟩:=t;exact⟨v,e,a,C,dx,fs,w,h1,h2,h3,h4,h5,xc _ _ q⟩
 refine mono _ _ (fun v H2 z=>?_) key;obtain⟨w,ew,z⟩:=z;cases ew;exact z
end
def SQ(T:String)(a:Ar)(as:List Ar)(p:Pr):Ev Dv:=match a with
 | .rf i=>fun R m k=>Pt T (m.at i) (AQ as R m fun ds m1=>(p (m1.at i::ds)).bind fun d=>k d m1)
 | .ev _ _ _ f=>fun R m k=>f R m fun x m1=>Pt T x (AQ as R m1 fun ds m2=>(p (x::ds)).bind fun d=>k d m2)
 | .fd _ _=>fun _ _ _=>none
def hZ(r:V->List V->Hp->VK->Prop):MK:=fun vs H Q=>match vs with | x::us=>r x us H Q | _=>False
theorem aT{K:W.Frag}{σ:St}{H:Hp}{Γ Γ':Gm}{js:List Nat}{a:Ar}{as:List Ar}{p:Pr}{r:V->List V->Hp->VK->Prop}(hp:AI K p o (hZ r))(hT:T = "list" \/ T = "str" \/ T = "int" \/ T = "dict")(c:AD Γ (a::as) Γ' js){Q:VK}
    (h:tE K Γ o Γ' js (SQ T a as p) σ H Q):dh K T r (IC K a) (BM K as) σ H Q:=by
  obtain⟨g,m,P,rl,R',k,res,e,q⟩:=h;cases a with
  | fd i f=>cases e
  | rf i =>
    obtain⟨e0,e⟩:=Cv e;unfold AD at c;obtain⟨⟨o0,h0⟩,⟨o1,qy,h1⟩,c⟩:=c;obtain⟨v0,P0,tK,x3,_⟩:=rl.tF h0;refine⟨v0,tK,Km x3 e0 hT,AK as rl c e fun ds m1 g1 P1 vs H1 hk ag s ar r1=>?_⟩;obtain⟨d,e1,e2⟩:=pR hk;obtain⟨v1,tY,wg,vK,_⟩:=r1.tF h1;rw[tK] at wg;cases wg;refine hp g1 H1 _ (v0::vs) d Q r1.zd (by unfold RA;exact⟨v0,vs,o1,tY,rfl,qy,vK,ar.ra r1⟩) e1 fun v H2 nw=>?_
    obtain⟨Pv,s2,h1,r2,n2⟩:=Ak.go s r1 nw;exact q d m1 g1 P1 Pv v H2 e2 ag s2 h1 r2 n2
  | ev qA ph js1 f =>
    unfold AD at c;obtain⟨rfl,js2,rfl,c⟩:=c;refine⟨g,m,P,rl,R',_,res,e,fun x m1 g1 P1 Pv v0 H1 hk ag s rv r1 n=>?_⟩;obtain⟨e0,hk⟩:=Cv hk;have rz:=rv.z;have s':Step g P H g1 P1 H1:=s.less fun _ z=>.inl z
    refine⟨Km rz e0 hT,AK as r1 c hk fun ds m2 g2 P2 vs H2 rT sA s2 ar r2=>?_⟩;obtain⟨d,e1,e2⟩:=pR rT;refine hp g2 H2 _ (v0::vs) d Q r2.zd (by unfold RA;exact⟨v0,vs,0,pT,rfl,by decide,rz.held s2 r1.pZ fun _ z=>z.elim,ar.ra r2⟩) e1 fun v H3 nw=>?_
    obtain⟨Pw,s3,h1,r3,n3⟩:=Ak.go (s'.trans s2) r2 nw;exact q d m2 g2 P2 Pw v H3 e2 (ag.trans sA) s3 h1 r3 n3
theorem Vx{K:W.Frag}{σ:St}{H:Hp}{Γ Γ':Gm}{js:List Nat}{a:Ar}{as:List Ar}{p:Pr}{r:V->List V->Hp->VK->Prop}(hp:AI K p o (hZ r))(c:AD Γ (a::as) Γ' js){Q:VK}
    (h:tE K Γ o Γ' js (SQ "tuple" a as p) σ H Q):ib r (IC K a) (BM K as) σ H Q:=by
  obtain⟨g,m,P,rl,R',k,res,e,q⟩:=h
  have ty:∀{g:G} {H:Hp} {o:Nat} {d:Dv} {v:V} {P:Fp},Rep K g H o d v P->kind d = "tuple" -> ∃a us,v=.ref a/\H a=some (.tup us):=fun{g H o d v P} h e=>by
    cases d with
    | tup ds=>unfold Rep at h;obtain⟨a,vs,rfl,h1,_⟩:=h;exact⟨a,vs,rfl,h1⟩
    | _=>simp[kind] at e
  cases a with
  | fd i f=>cases e
  | rf i =>
    obtain⟨e0,e⟩:=Cv e;unfold AD at c;obtain⟨⟨o0,h0⟩,⟨o1,qy,h1⟩,c⟩:=c;obtain⟨v0,P0,tK,x3,_⟩:=rl.tF h0;refine⟨v0,tK,ty x3 e0,AK as rl c e fun ds m1 g1 P1 vs H1 hk ag s ar r1=>?_⟩;obtain⟨d,e1,e2⟩:=pR hk;obtain⟨v1,tY,wg,vK,_⟩:=r1.tF h1;rw[tK] at wg;cases wg;refine hp g1 H1 _ (v0::vs) d Q r1.zd (by unfold RA;exact⟨v0,vs,o1,tY,rfl,qy,vK,ar.ra r1⟩) e1 fun v H2 nw=>?_
    obtain⟨Pv,s2,h1,r2,n2⟩:=Ak.go s r1 nw;exact q d m1 g1 P1 Pv v H2 e2 ag s2 h1 r2 n2
  | ev qA ph js1 f =>
    unfold AD at c;obtain⟨rfl,js2,rfl,c⟩:=c;refine⟨g,m,P,rl,R',_,res,e,fun x m1 g1 P1 Pv v0 H1 hk ag s rv r1 n=>?_⟩;obtain⟨e0,hk⟩:=Cv hk;have rz:=rv.z;have s':Step g P H g1 P1 H1:=s.less fun _ z=>.inl z
    refine⟨ty rz e0,AK as r1 c hk fun ds m2 g2 P2 vs H2 rT sA s2 ar r2=>?_⟩;obtain⟨d,e1,e2⟩:=pR rT;refine hp g2 H2 _ (v0::vs) d Q r2.zd (by unfold RA;exact⟨v0,vs,0,pT,rfl,by decide,rz.held s2 r1.pZ fun _ z=>z.elim,ar.ra r2⟩) e1 fun v H3 nw=>?_
    obtain⟨Pw,s3,h1,r3,n3⟩:=Ak.go (s'.trans s2) r2 nw;exact q d m2 g2 P2 Pw v H3 e2 (ag.trans sA) s3 h1 r3 n3
end R
namespace L2
open PySem PySem.Spec PyProof.Rows
def km(K:W.Frag):V->Hp->VK->Prop:=fun v H Q=>∃(p:A8) (ns:List Int),v=.ref p/\(CO K H p (ns.map V.int)\/Cg K H p (ns.map V.int))/\ns.length < 64/\∀(l:A8) (ns':List Int),H l=none->ns'.Perm (ns.foldl step_dedup [])->ns'.Pairwise (·<=·)->Q (.ref l) (upd H l (.lst (ns'.map V.int)))
def lU(H0 H:Hp)(S:A8)(xs:List V)(ps:List A8):Prop:=
 (∀c u,H0 c=some u->H c=some u)/\H S=some (.lst (ps.map V.ref))/\∀(j:Nat) p,ps[j]?=some p->p≠S/\∃y,xs[j]?=some y/\H p=some (.tup [.int j,y])
def lB(K:W.Frag):V->Hp->VK->Prop:=fun v H Q=>∃(a:A8) (xs:List V) (b:Bool),v=.ref a/\Kc K H a xs b/\xs.length<=sizeLine/\∀(l:A8) (ps:List A8) (H':Hp),H l=none->lU H H' l xs ps->ps.length=xs.length->Q (.ref l) H'
end L2
namespace R
open PySem L2
end R
namespace L2
open PySem PySem.Spec PyProof.Rows
open AutoSeq1 (wpAny_loadPart')
section
variable {X:Cx} {p1 p2 yj qM:Pos} {es:List Expr} {e:Expr} {ta:TA}
abbrev Ui(ta:TA):TE:=fun σ H Q=>ta σ H fun vs H1=>∃(i j:Int),(vs=[.int j]/\i=0\/vs=[.int i,.int j])/\(-(2 ^ 62)<=i/\i < 2 ^ 62/\-(2 ^ 62)<=j/\j < 2 ^ 62)/\(j - i).toNat<=1000000/\∀l,H1 l=none->Q (.ref l) (upd H1 l (.tup ((C2 (j - i).toNat).map fun k=>.int (i+(k:Nat)))))
end
end L2
namespace L2
open PySem PySem.Spec PyProof.Rows
section
variable {X:Cx} {a e:Expr} {ta te:TE} {p pos kp:Pos}
def ko(K:W.Frag)(x y:V)(H:Hp)(Q:VK):Prop:=∃(l:A8) (ns:List Int) (d:Int),x=.ref l/\y=.int d/\CO K H l (ns.map V.int)/\∀M,(ns=[]/\M=d\/M∈ns/\∀a,a∈ns->a<=M)->Q (.int M) H
end
end L2
namespace R
open PySem L2
def Gx(X:Cx):Prop:=X.calm=true/\∃j,pj j X.A
noncomputable def two{α:Type}(f:Dv->Dv->Option α)(ds:List Dv):Option α:=match ds with | [a,b]=>f a b | _=>none
noncomputable def one{α:Type}(f:Dv->Option α)(ds:List Dv):Option α:=match ds with | [a]=>f a | _=>none
noncomputable def noStar:Expr->Bool
 | .Starred _ _=>false
 | _=>true
structure zAt where
 op:l5
 f:Dv->Dv->Option Dv
 ok:∀X,Gx X->∃r,CH X (binaryOp op) r/\AI X.K (two f) 1 (JA r)
structure zAs where
 op:W6
 f:Dv->Dv->Option Bool
 ok:∀X,Gx X->∃r,CH X (H9 op) r/\AI X.K (fun ds=>(two f ds).map .bl) 0 (JA r)
structure vH where
 x:Str
 n:Nat
 o:Nat
 f:List Dv->Option Dv
 ok:∀X,Gx X->∃r,AI X.K f o r/\((∃id,Aw X (.builtin id) r/\O3 x=some (.builtin id))\/∃T,Aw X (.type T) r/\O3 x=some (.type T))
abbrev kD(T:String):Prop:=T = "list" \/ T = "str" \/ T = "int" \/ T = "dict"
structure uF where
 x:Str
 n:Nat
 T:String
 o:Nat
 f:List Dv->Option Dv
 hT:kD T\/T = "tuple" /\ n=1
 ok:∀X,Gx X->∃id r,j9 T/\Slot T x id/\om (.builtin id)=pure (.type "method_descriptor")/\hG X id r/\AI X.K f o (hZ r)
structure vF where
 x:Str
 n:Nat
 T:String
 p:Mu
 hT:kD T
 ok:∀X,Gx X->∃id r,j9 T/\Slot T x id/\om (.builtin id)=pure (.type "method_descriptor")/\hG X id r/\cW X.K p r
noncomputable def Jf:Expr->Bool
 | .Tuple _ _ _=>true
 | _=>false
structure zAD where
 x:Str
 n:Nat
 tt:Bool
 f:List Dv->Option (List Dv)
 ok:∀X,Gx X->∃r,XR X.K f r/\∀tg es p pos ta,(tt=true->Jf tg=true)->es.length=n->es.all noStar=true->Gl X x->X.mg x=none->PA X es ta->PI X tg (.Call (.Name x p) es [] pos) (YH r ta)
def lA:MK:=fun vs H1 Q=>QN (fun _ H R=>R vs H) [] H1 Q
def kl:MK:=fun vs H1 Q=>Ui (fun _ H R=>R vs H) [] H1 Q
def jz(K:W.Frag):R2:=fun x y H2 Q=>∃a xs b,x=.ref a/\y=.int (-1)/\Kc K H2 a xs b/\∀p,H2 p=none->Q (.ref p) (upd H2 p (bif b then .tup xs.reverse else .lst xs.reverse))
def kz(K:W.Frag):V->Hp->VK->Prop:=fun v H1 Q=>∃a xs,v=.ref a/\CO K H1 a xs/\∀l,H1 l=none->Q (.ref l) (upd H1 l (.lst xs.reverse))
structure Tb where
 zAC:List zAt
 sy:List zAs
 calls:List vH
 meths:List uF
 yt:List vF
 yd:List zAD
 ix:Dv->Dv->Option Dv
 yz:∀X,Gx X->∃r,Pm X r/\AI X.K (two ix) 0 (JA r)
 sl:Dv->Option Int->Option Int->Option Dv
 yf:∀X,Gx X->∃r,Pu X r/\∀lo hi,AI X.K (one fun d=>sl d lo hi) 1 (cX fun x H Q=>r x lo hi H Q)
 tru:Dv->Option Bool
 yO:∀K g H o d v P b,Rep K g H o d v P->tru d=some b->UK K v H b
 lr:List Dv->Option Dv
 zAP:∀X,Gx X->AI X.K lr 1 lA
 tr:List Dv->Option Dv
 yN:∀X,Gx X->AI X.K tr 1 kl
 md:Dv->Dv->Option Dv
 zAN:∀X,Gx X->AI X.K (two md) 1 (JA (ko X.K))
 rv:Dv->Dv->Option Dv
 yh:∀X,Gx X->AI X.K (two rv) 1 (JA (jz X.K))
 lv:Dv->Option Dv
 zAO:∀X,Gx X->AI X.K (one lv) 1 (cX (kz X.K))
 ss:Dv->Option Dv
 zAJ:∀X,Gx X->AI X.K (one ss) 1 (cX (km X.K))
 le:Dv->Option Dv
 zAR:∀X,Gx X->AI X.K (one le) 1 (cX (lB X.K))
 st:Dv->Dv->Dv->Option Dv
 yX:∀X,Gx X->∃T,Kd X T/\cU X.K st T
structure Cf:Type 1 where
 N:List Str
 sc:K0
 fn:Str->Bool
 fs:List (Str×qF)
 cs:List (Str×Dv)
 bl:List Str
 T:Tb
 F:Fr
 fl:List Str
 rf:List Str
def Fz(P:E2)(w:F6)(K:W.Frag)(mg:Str->Option A3)(base:F1)(fl:List Str)(j:Nat)(x:Str)(s:qF):Prop:=match s.cl with
 | none=>Fx P w K mg base j x s.ps (OA K s)
 | some c=>∃j' f fd,j'+1<=j/\qE P w K mg base FB j' f fd s.ps (OA K s)/\Binds K fd s.ps []/\Meth K (Ay K c) x f/\iC K c fl/\mg c=some (.ref (Ay K c))/\(x = "__init__" -> Mk K (Ay K c) f)
structure pY (C:Cf) (X:Cx):Prop where
 N:X.N=C.N
 sc:X.env.scope=C.sc
 nd:X.N.Nodup
 calm:X.calm=true
 fn:∀x,C.fn x=true->X.fn x=true
 room:Gx X
 fs:∀x s,(x,s)∈C.fs->s.io.Nodup/\(∀i∈s.io,i < s.ps.length)/\∃j k,j<=k/\pj k X.A/\Fz X.prog X.w X.K X.mg X.base C.fl j x s
 cs:∀x d,(x,d)∈C.cs->∃v u,X.mg x=some u/\RelV v u/\∀g H,Rep X.K g H 0 d v pT
 bl:∀x∈C.bl,X.mg x=none
 xe:X.xe=fun _ _=>False
variable {C:Cf} {X:Cx} {x:Str} {s:qF}
theorem pY.fx(ok:pY C X)(h:(x,s)∈C.fs/\s.cl=none):s.io.Nodup/\(∀i∈s.io,i < s.ps.length)/\∃j k,j<=k/\pj k X.A/\Fx X.prog X.w X.K X.mg X.base j x s.ps (OA X.K s):=by
 obtain⟨a,b,j,k,hj,hr,F⟩:=ok.fs x s h.1;unfold Fz at F;rw[h.2] at F;exact⟨a,b,j,k,hj,hr,F⟩
noncomputable def Bl:List Str->Str->Option Nat
 | [],_=>none
 | y::r,x=>if y == x then some 0 else(Bl r x).map (·+1)
theorem As:∀{N:List Str} {x:Str} {i:Nat},Bl N x=some i->N[i]?=some x
 | [],_,_,h=>by cases h
 | y::r,x,i,h=>by
  unfold Bl at h;split at h
  ·rename_i e;cases h;rw[beq_iff_eq.mp e];rfl
  ·cases q:Bl r x with
   | none=>rw[q] at h;cases h
   | some j=>rw[q] at h;cases h;simpa using As q
noncomputable def Rt(sc:K0)(x:Str):Bool:=match sc.names.lookup x with
 | some .local=>true
 | some .cell=>true
 | some .free=>true
 | _=>false
noncomputable def GN(sc:K0)(x:Str):Bool:=match sc.names.lookup x with
 | some .globalImplicit=>true
 | _=>false
noncomputable def GC(x:Str):Bool:=!(x == ("__debug__" : Str)) && !(x == ("__classdict__" : Str)) && !(x == ("__name__" : Str))
def lv(C:Cf)(x:Str):Option Nat:=if Rt C.sc x && GC x then Bl C.N x else none
def OV(C:Cf)(e:Expr):Option Nat:=match e with
 | .Name x _=>lv C x
 | _=>none
theorem BC(h:GC x=true):(x == ("__debug__" : Str))=false/\(x == ("__classdict__" : Str))=false/\x ≠ "__name__" := by
 unfold GC at h;simp only[A2,L5] at h;exact⟨h.1.1,h.1.2,fun z=>by rw[z] at h;simp at h⟩
theorem Od{sc:K0}(h:Rt sc x=true):gw sc x:=by
 unfold Rt at h;unfold gw;split at h
 ·rename_i e;exact .inl e
 ·rename_i e;exact .inr (.inl e)
 ·rename_i e;exact .inr (.inr e)
 ·cases h
theorem BG(ok:pY C X)(h:GN C.sc x=true):Gl X x:=by
 unfold GN at h;unfold Gl Env.kindOf;rw[ok.sc];split at h
 ·rename_i e;exact e
 ·cases h
variable {i:Nat} {pos:Pos}
theorem Mv(ok:pY C X)(h:lv C x=some i):PE X (.Name x pos) (DU i):=by
 unfold lv at h;split at h
 ·rename_i e;rw[A2] at e;have n:=BC e.2;exact RP (by rw[ok.N];exact As h) (by rw[ok.sc];exact Od e.1) n.1 n.2.1
 ·cases h
variable {e:Expr}
theorem CY(ok:pY C X)(h:OV C e=some i):PE X e (DU i):=by
 cases e with
 | Name x pos=>exact Mv ok h
 | _=>cases h
def YK(C:Cf)(e:Expr):Option (Nat×Str):=match e with
 | .Attribute o f _=>if C.rf.contains f then(OV C o).map fun i=>(i,f) else none
 | _=>none
variable {o:Expr} {env:Env}
theorem SI{f:Str}(h:OV C o=some i):M0 o f env (M3 o env)=M3 o env:=by
 cases o<;>first | rfl | (cases h)
theorem Lg(ok:pY C X){q:Nat×Str}(h:YK C e=some q):PE X e (ZG X.K (DU q.1) q.2):=by
 cases e with
 | Attribute o f pos =>
  unfold YK at h;simp only at h;split at h
  ·obtain⟨i,hi,rfl⟩:=G9.mp h;exact aD (CY ok hi) (SI hi)
  ·cases h
 | _=>cases h
structure CE:Type 1 where
 o:Nat
 Γ:Gm
 js:List Nat
 f:Ev Dv
structure CT:Type 1 where
 Γ:Gm
 js:List Nat
 f:Ev Bool
structure CA:Type 1 where
 as:List Ar
 Γ:Gm
 js:List Nat
structure CI:Type 1 where
 Γ:Gm
 js:List Nat
 f:Ev (List Dv)
structure CS:Type 1 where
 Γ:Option Gm
 js:List Nat
 f:Es
 er:Bool
 eb:Bool
 ec:Bool
structure Rec:Type 1 where
 E:Cf->Gm->Expr->Option CE
 A:Cf->Gm->List Bool->List Expr->Option CA
 T:Cf->Gm->Expr->Option CT
 I:Cf->Gm->Bool->Expr->Option CI
 S:Cf->Option Gm->Gm->G0->Option CS
 Ss:Cf->Option Gm->Gm->List G0->Option CS
abbrev Xb(t:TA)(te:TE):TA:=fun σ H Q=>t σ H fun vs H1=>te σ H1 fun x H2=>Q (vs++[x]) H2
structure pk (r:Rec):Prop where
 E:∀{C X Γ e c},pY C X->r.E C Γ e=some c->PE X e (tE X.K Γ c.o c.Γ c.js c.f)
 A:∀{C X Γ md es c},pY C X->r.A C Γ md es=some c->PA X es (BM X.K c.as)/\AD Γ c.as c.Γ c.js/\c.as.length=es.length/\es.all noStar=true/\(md=[]->Lh c.as=true)
 T:∀{C X Γ e c},pY C X->r.T C Γ e=some c->PT X e (tT X.K Γ c.Γ c.js c.f)
 I:∀{C X Γ e c} (tg),pY C X->r.I C Γ (Jf tg) e=some c->PI X tg e (tI X.K Γ c.Γ c.js c.f)
 S:∀{C X pU Γ s c},pY C X->r.S C pU Γ s=some c->PS X s (tS X.K C.F pU Γ c.Γ c.js c.f)
 Ss:∀{C X pU Γ s c},pY C X->r.Ss C pU Γ s=some c->CP X s (tS X.K C.F pU Γ c.Γ c.js c.f)
 B:∀{C X Γ md es c},pY C X->r.A C Γ md es=some c->∀{e te},PE X e te->noStar e=true->PA X (es++[e]) (Xb (BM X.K c.as) te)
def YB(Γ:Gm)(i:Nat):Bool:=match Γ.getD i none with
 | some o=>decide (o<=1)
 | none=>false
variable {Γ:Gm}
theorem Dg(h:YB Γ i=true):∃o,o<=1/\Γ[i]?=some (some o):=by
 unfold YB at h;split at h
 ·rename_i o e;exact⟨o,of_decide_eq_true h,BU e⟩
 ·cases h
def JI(r:Rec)(C:Cf)(Γ:Gm)(md:List Bool)(es:List Expr):Option CA:=match es with
  | []=>some ⟨[],Γ,[]⟩
  | e::es=>if noStar e then
      match(if md.headD false then OV C e else none) with
      | some i=>if(Γ.getD i none).isSome then(r.A C Γ md.tail es).bind fun c=>if YB c.Γ i then some ⟨.rf i::c.as,c.Γ,c.js⟩ else none else none
      | none=>match(if md.headD false then YK C e else none) with
        | some q=>if(Γ.getD q.1 none).isSome then(r.A C Γ md.tail es).bind fun c=>if YB c.Γ q.1 then some ⟨.fd q.1 q.2::c.as,c.Γ,c.js⟩ else none else none
        | none=>(r.E C Γ e).bind fun c1=>(r.A C c1.Γ md.tail es).bind fun c=>some ⟨.ev Γ c1.Γ c1.js c1.f::c.as,c.Γ,c1.js++c.js⟩
    else none
variable {es:List Expr}
theorem AS(h:noStar e=true):E3 (e::es) env=(false,M3 e env)::E3 es env:=by
 cases e<;>first | rfl | (cases h)
theorem getD_some(h:(Γ.getD i none).isSome=true):∃o,Γ[i]?=some (some o):=by
 obtain⟨o,e⟩:=O5.mp h;exact⟨o,BU e⟩
variable {r:Rec}
theorem Ny(R:pk r){md:List Bool}{c:CA}(ok:pY C X)(h:JI r C Γ md es=some c){e0:Expr}{te:TE}(h0:PE X e0 te)(zJ:noStar e0=true):PA X (es++[e0]) (Xb (BM X.K c.as) te):=by
  cases es with
  | nil=>cases h;exact Be h0 LL (AS zJ)
  | cons e es =>
    unfold JI at h;simp only at h;split at h
    · rename_i hs;have rD:=AS (es:=es++[e0]) (env:=X.env) hs;split at h
      · rename_i i hi;have uz:md.headD false=true:=by
          cases q:md.headD false with
          | true=>rfl
          | false=>rw[q] at hi;cases hi
        rw[uz] at hi;split at h
        · obtain⟨c2,e2,h⟩:=pR h;split at h
          · cases h;exact Be (CY ok hi) (R.B ok e2 h0 zJ) rD
          · cases h
        · cases h
      · split at h
        · rename_i q hq;have uz:md.headD false=true:=by
            cases z:md.headD false with
            | true=>rfl
            | false=>rw[z] at hq;cases hq
          rw[uz] at hq;split at h
          · obtain⟨c2,e2,h⟩:=pR h;split at h
            · cases h;exact Be (Lg ok hq) (R.B ok e2 h0 zJ) rD
            · cases h
          · cases h
        · obtain⟨c1,e1,h⟩:=pR h;obtain⟨c2,e2,h⟩:=pR h;cases h;exact Be (FF (R.E ok e1)) (R.B ok e2 h0 zJ) rD
    · cases h
theorem QZ(R:pk r){md:List Bool}{c:CA}(ok:pY C X)(h:JI r C Γ md es=some c):PA X es (BM X.K c.as)/\AD Γ c.as c.Γ c.js/\c.as.length=es.length/\es.all noStar=true/\(md=[]->Lh c.as=true):=by
  cases es with
  | nil=>cases h;exact⟨LL,by unfold AD;exact⟨rfl,rfl⟩,rfl,rfl,fun _=>rfl⟩
  | cons e es =>
    unfold JI at h;simp only at h;split at h
    · rename_i hs;have rD:=AS (es:=es) (env:=X.env) hs;split at h
      · rename_i i hi;have uz:md.headD false=true:=by
          cases q:md.headD false with
          | true=>rfl
          | false=>rw[q] at hi;cases hi
        rw[uz] at hi;split at h
        · rename_i h1;obtain⟨c2,e2,h⟩:=pR h;split at h
          · rename_i h2;cases h;obtain⟨a1,a2,a3,a4,a5⟩:=R.A ok e2;refine⟨Be (CY ok hi) a1 rD,?_,by simp[a3],by simp[hs,a4],fun z=>by rw[z] at uz;cases uz⟩;unfold AD;exact⟨getD_some h1,Dg h2,a2⟩
          · cases h
        · cases h
      · split at h
        · rename_i q hq;have uz:md.headD false=true:=by
            cases z:md.headD false with
            | true=>rfl
            | false=>rw[z] at hq;cases hq
          rw[uz] at hq;split at h
          · rename_i h1;obtain⟨c2,e2,h⟩:=pR h;split at h
            · rename_i h2;cases h;obtain⟨a1,a2,a3,a4,a5⟩:=R.A ok e2;refine⟨Be (Lg ok hq) a1 rD,?_,by simp[a3],by simp[hs,a4],fun z=>by rw[z] at uz;cases uz⟩;unfold AD;exact⟨getD_some h1,Dg h2,a2⟩
            · cases h
          · cases h
        · obtain⟨c1,e1,h⟩:=pR h;obtain⟨c2,e2,h⟩:=pR h;cases h;obtain⟨a1,a2,a3,a4,a5⟩:=R.A ok e2;refine⟨Be (FF (R.E ok e1)) a1 rD,?_,by simp[a3],by simp[hs,a4],fun z=>?_⟩
          · unfold AD;exact⟨rfl,_,rfl,a2⟩
          · show Lh c2.as=true;exact a5 (by rw[z];rfl)
    · cases h
def Tn(Γ:Gm):Const->Option CE
 | .int i=>some ⟨1,Γ,[],Jp (.int i)⟩
 | .bool b=>some ⟨1,Γ,[],Jp (.bl b)⟩
 | .none=>some ⟨1,Γ,[],Jp .pX⟩
 | .str x=>some ⟨1,Γ,[],Jp (.str x.cps.toList)⟩
 | _=>none
theorem Yz(x:Str):tx x.cps.toList=x:=by
 unfold tx;cases x;rfl
variable {c:CE}
theorem PX{k:Const}{j:Nat}(h:Tn Γ k=some c):PE X (.Constant k j pos) (tE X.K Γ c.o c.Γ c.js c.f):=by
 cases k with
 | int i=>cases h;exact cj aC fun _ _=>Bg
 | bool b=>cases h;exact cj fF fun _ _=>Bn
 | none=>cases h;exact cj aA fun _ _=>HX
 | str x=>cases h;exact cj Zx fun _ _=>by unfold Rep;exact⟨by rw[Yz],fun _ z=>z⟩
 | _=>cases h
noncomputable def Uc(x:Str):Option String:=if x == ("int" : Str) then some "int" else if x == ("bool" : Str) then some "bool" else if x == ("str" : Str) then some "str" else if x == ("tuple" : Str) then some "tuple" else if x == ("list" : Str) then some "list" else none
theorem Nl{T:String}(h:Uc x=some T):O3 x=some (.type T):=by
 unfold Uc at h
 repeat' split at h
 all_goals first | (rename_i e;rw[beq_iff_eq.mp e];cases h;first | exact PyProof.Rows.Boot.«int» | exact PyProof.Rows.Boot.«bool» | exact PyProof.Rows.Boot.«str» | exact PyProof.Rows.Boot.«tuple» | exact PyProof.Rows.Boot.«list») | cases h
def Td(C:Cf)(Γ:Gm)(x:Str):Option CE:=match lv C x with
  | some i=>if(Γ.getD i none).isSome then some ⟨0,Γ.set i (some 0),[],NO i⟩ else none
  | none=>if GN C.sc x && GC x then(match C.cs.find? fun p=>p.1 == x with
      | some p=>some ⟨0,Γ,[],Jp p.2⟩
      | none=>if C.bl.contains x then(Uc x).map fun T=>⟨0,Γ,[],Jp (.ty T)⟩ else none) else none
theorem Tc(ok:pY C X)(h:Td C Γ x=some c):PE X (.Name x pos) (tE X.K Γ c.o c.Γ c.js c.f):=by
 unfold Td at h;split at h
 ·rename_i i hi;split at h
  ·rename_i h1;cases h;obtain⟨o,ho⟩:=getD_some h1;exact eB (Mv ok hi) ho
  ·cases h
 ·split at h
  ·rename_i hg;rw[A2] at hg;cases q:C.cs.find? fun p=>p.1 == x with
   | none =>
    rw[q] at h;simp only at h;split at h
    ·rename_i hb;cases t:Uc x with
     | none=>rw[t] at h;cases h
     | some T =>
      rw[t] at h;cases h;exact cj (Vg (v:=.ty T) (BG ok hg.1) (ok.bl x (C4.mp hb)) (Nl t) rfl (BC hg.2).2.2 (BC hg.2).1) fun _ _=>by unfold Rep;exact⟨rfl,fun _ z=>z⟩
    ·cases h
   | some p =>
    rw[q] at h;cases h;have e:p.1=x:=beq_iff_eq.mp (by simpa using J5 q);obtain⟨v,u,h1,h3,h2⟩:=ok.cs p.1 p.2 (O0 q);rw[e] at h1;exact cj (Mr (BG ok hg.1) h1 h3 (BC hg.2).1) h2
  ·cases h
structure C1:Type 1 where
 a:Ar
 Γ:Gm
 js:List Nat
def EK(r:Rec)(C:Cf)(Γ:Gm)(m:Bool)(e:Expr):Option C1:=match(if m then OV C e else none) with
 | some i=>if(Γ.getD i none).isSome then some ⟨.rf i,Γ,[]⟩ else none
 | none=>match(if m then YK C e else none) with
  | some q=>if(Γ.getD q.1 none).isSome then some ⟨.fd q.1 q.2,Γ,[]⟩ else none
  | none=>(r.E C Γ e).bind fun c=>some ⟨.ev Γ c.Γ c.js c.f,c.Γ,c.js⟩
def DX(a:Ar)(Γ:Gm):Bool:=match a with
 | .rf i=>YB Γ i
 | .fd i _=>YB Γ i
 | _=>true
theorem Bp(R:pk r){m:Bool}{c:C1}(ok:pY C X)(h:EK r C Γ m e=some c):PE X e (IC X.K c.a)/\(m=false->Lh [c.a]=true)/\∀{as Γ' js},AD c.Γ as Γ' js->DX c.a Γ'=true->AD Γ (c.a::as) Γ' (c.js++js):=by
 unfold EK at h;split at h
 ·rename_i i hi;split at h
  ·rename_i h1;cases h;have hm:m=true:=by cases m with | true=>rfl | false=>cases hi
   subst hm;refine⟨CY ok hi,(fun z=>by cases z),fun ch hs=>?_⟩;unfold AD;exact⟨getD_some h1,Dg hs,ch⟩
  ·cases h
 ·split at h
  ·rename_i q hq;split at h
   ·rename_i h1;cases h;have hm:m=true:=by cases m with | true=>rfl | false=>cases hq
    subst hm;refine⟨Lg ok hq,(fun z=>by cases z),fun ch hs=>?_⟩;unfold AD;exact⟨getD_some h1,Dg hs,ch⟩
   ·cases h
  ·obtain⟨c1,e1,h⟩:=pR h;cases h;refine⟨FF (R.E ok e1),fun _=>rfl,fun ch hs=>?_⟩;unfold AD;exact⟨rfl,_,rfl,ch⟩
theorem BP:AD Γ [] Γ []:=by unfold AD;exact⟨rfl,rfl⟩
def Hy(r:Rec)(C:Cf)(Γ:Gm)(a b:Expr):Option (C1×C1):=(EK r C Γ true a).bind fun x=>(EK r C x.Γ true b).bind fun y=>if DX x.a y.Γ && DX y.a y.Γ then some (x,y) else none
noncomputable def jj(p:C1×C1):List Nat:=p.1.js++(p.2.js++[])
variable {a b:Expr}
theorem EJ(R:pk r){p:C1×C1}(ok:pY C X)(h:Hy r C Γ a b=some p):PE X a (IC X.K p.1.a)/\PE X b (IC X.K p.2.a)/\AD Γ [p.1.a,p.2.a] p.2.Γ (jj p):=by
 unfold Hy at h;obtain⟨x,e1,h⟩:=pR h;obtain⟨y,e2,h⟩:=pR h;split at h
 ·rename_i z;rw[A2] at z;cases h;obtain⟨a1,_,a2⟩:=Bp R ok e1;obtain⟨b1,_,b2⟩:=Bp R ok e2;exact⟨a1,b1,a2 (b2 BP z.2) z.1⟩
 ·cases h
def UB(r:Rec)(C:Cf)(Γ:Gm)(a:Expr):Option C1:=(EK r C Γ true a).bind fun x=>if DX x.a x.Γ then some x else none
theorem Iu(R:pk r){x:C1}(ok:pY C X)(h:UB r C Γ a=some x):PE X a (IC X.K x.a)/\AD Γ [x.a] x.Γ (x.js++[]):=by
 unfold UB at h;obtain⟨y,e1,h⟩:=pR h;split at h
 ·rename_i z;cases h;obtain⟨a1,_,a2⟩:=Bp R ok e1;exact⟨a1,a2 BP z⟩
 ·cases h
theorem pY.gx(ok:pY C X):Gx X:=ok.room
def gZ(r:Rec)(C:Cf)(Γ:Gm)(a:Expr)(op:l5)(b:Expr):Option CE:=(C.T.zAC.find? fun e=>e.op == op).bind fun en=>(Hy r C Γ a b).bind fun p=>some ⟨1,p.2.Γ,jj p,Ef (two en.f) (AQ [p.1.a,p.2.a])⟩
theorem Ww(R:pk r){op:l5}(ok:pY C X)(h:gZ r C Γ a op b=some c):PE X (.BinOp a op b pos) (tE X.K Γ c.o c.Γ c.js c.f):=by
 obtain⟨en,e1,h⟩:=pR h;obtain⟨p,e2,h⟩:=pR h;cases h;have eo:en.op=op:=by simpa using J5 e1
 obtain⟨h1,h2,h3⟩:=EJ R ok e2;obtain⟨rr,q1,q2⟩:=en.ok X ok.gx;rw[eo] at q1;exact PE.imp (fC q1 h1 h2) fun _ _ _ h=>CL q2 h3 h
noncomputable def Ge(x:Dv):Option Dv:=match x with | .int i=>some (.int (-i)) | _=>none
theorem Zl{K:W.Frag}:AI K (one Ge) 1 (cX (rU fun i=>.int (-i))):=fun g H ds vs d Q zd ra e k=>by
 unfold one at e;split at e
 ·rename_i a;unfold Ge at e;split at e
  ·rename_i i;cases e;unfold RA at ra;obtain⟨v,r,o,P,rfl,_,h1,h2⟩:=ra;unfold RA at h2;subst h2;rw[AL h1];exact⟨i,rfl,k _ H (Ak.old Bg)⟩
  ·cases e
 ·cases e
def gR(r:Rec)(C:Cf)(Γ:Gm)(a:Expr):Option CE:=(UB r C Γ a).bind fun x=>some ⟨1,x.Γ,x.js++[],Ef (one Ge) (AQ [x.a])⟩
theorem Wo(R:pk r)(ok:pY C X)(h:gR r C Γ a=some c):PE X (.UnaryOp .USub a pos) (tE X.K Γ c.o c.Γ c.js c.f):=by
 obtain⟨x,e1,h⟩:=pR h;cases h;obtain⟨h1,h2⟩:=Iu R ok e1;exact PE.imp (fA Yw h1) fun _ _ _ h=>CL Zl h2 h
def cq(t:CT):CE:=⟨1,t.Γ,t.js,Lj t.f⟩
def MB(r:Rec)(C:Cf)(Γ:Gm)(a:Expr)(op:W6)(b:Expr):Option CT:=if Z6 op b then none else(C.T.sy.find? fun e=>e.op == op).bind fun en=>(Hy r C Γ a b).bind fun p=>some ⟨p.2.Γ,jj p,YR (two en.f) (AQ [p.1.a,p.2.a])⟩
variable {Q:VK}
theorem cE{K:W.Frag}{Γ':Gm}{js:List Nat}{σ:St}{H:Hp}{o:Nat}{p:List Dv->Option Bool}{as:List Ar}{r:MK}(hp:AI K (fun ds=>(p ds).map .bl) 0 r)(c:AD Γ as Γ' js)(h:tE K Γ o Γ' js (Lj (YR p (AQ as))) σ H Q):BM K as σ H fun vs H1=>r vs H1 Q:=by
 obtain⟨g,m,P,rl,R',k,res,e,q⟩:=h;refine AK as rl c e fun ds m' g' P' vs H1 hk ag s ar r1=>?_
 obtain⟨b,e1,e2⟩:=pR hk;refine hp g' H1 ds vs (.bl b) _ r1.zd (ar.ra r1) (by show(p ds).map _=_;rw[e1];rfl) fun v H2 nw=>?_
 obtain⟨Pv,s2,h1,r2,n2⟩:=Ak.go s r1 nw;have ev:=Ax h1;subst ev;exact q (.bl b) m' g' P' pT _ H2 e2 ag (s2.less fun _ z=>z.elim .inl D2) Bn r2 fun _ _ z=>z
variable {op:W6}
theorem NW(R:pk r){c:CT}(ok:pY C X)(h:MB r C Γ a op b=some c):PT X (.Compare a [op] [b] pos) (tT X.K Γ c.Γ c.js c.f)/\∀o,PE X (.Compare a [op] [b] pos) (tE X.K Γ o c.Γ c.js (Lj c.f)):=by
 unfold MB at h;split at h
 ·cases h
 ·rename_i hm;rw[nh] at hm;obtain⟨en,e1,h⟩:=pR h;obtain⟨p,e2,h⟩:=pR h;cases h;have eo:en.op=op:=by simpa using J5 e1
  obtain⟨h1,h2,h3⟩:=EJ R ok e2;obtain⟨rr,q1,q2⟩:=en.ok X ok.gx;rw[eo] at q1;exact⟨PT.imp (VL q1 h1 h2 hm) fun _ _ _ h=>gn q2 h3 h,fun o=>PE.imp (Ve q1 h1 h2 hm) fun _ _ _ h=>cE q2 h3 h⟩
noncomputable def GE:Expr->Bool
 | .Slice _ _ _ _=>false
 | _=>true
theorem RK(h:GE b=true):Nh b:=fun o i=>by
 cases b<;>first | rfl | (cases h)
def jQ(r:Rec)(C:Cf)(Γ:Gm)(a b:Expr):Option CE:=(Hy r C Γ a b).bind fun p=>some ⟨0,p.2.Γ,jj p,Ef (two C.T.ix) (AQ [p.1.a,p.2.a])⟩
theorem bx(R:pk r)(ok:pY C X)(hb:GE b=true)(h:jQ r C Γ a b=some c):PE X (.Subscript a b pos) (tE X.K Γ c.o c.Γ c.js c.f):=by
 obtain⟨p,e2,h⟩:=pR h;cases h;obtain⟨h1,h2,h3⟩:=EJ R ok e2;obtain⟨rr,q1,q2⟩:=C.T.yz X ok.gx;exact PE.imp (fD q1 h1 h2 (RK hb)) fun _ _ _ h=>CL q2 h3 h
noncomputable def UR{R:Type}(d:Dv)(k:Int->Option R):Option R:=match d with | .int i=>k i | _=>none
def cK(o:Option (Ev Dv)):Ev (Option Int):=match o with
 | none=>fun _ m k=>k none m
 | some f=>fun R m k=>f R m fun d m1=>UR d fun i=>k (some i) m1
def fw(p:Dv->Option Int->Option Int->Option Dv)(a:Ar)(lo hi:Option (Ev Dv)):Ev Dv:=match a with
 | .rf i=>fun R m k=>cK lo R m fun l m1=>cK hi R m1 fun u m2=>(p (m2.at i) l u).bind fun d=>k d m2
 | .ev _ _ _ f=>fun R m k=>f R m fun x m1=>cK lo R m1 fun l m2=>cK hi R m2 fun u m3=>(p x l u).bind fun d=>k d m3
 | .fd _ _=>fun _ _ _=>none
def jS(r:Rec)(C:Cf)(Γ:Gm)(o:Option Expr):Option (Option (Ev Dv)×Gm×List Nat):=match o with
 | none=>some (none,Γ,[])
 | some e=>(r.E C Γ e).bind fun c=>some (some c.f,c.Γ,c.js)
def Xi(K:W.Frag)(Γ Γ':Gm)(js:List Nat)(f:Ev (Option Int)):TO:=fun σ H Q=>∃g m P,Rel K g H Γ m σ P/\∃(R:Type) (k:Option Int->M->Option R) (r:R),f R m k=some r /\
 ∀b m' g' P' H',k b m'=some r->BQ js m m'->Step g P H g' P' H'->Rel K g' H' Γ' m' σ P'->Q b H'
theorem PO.imp{e:Option Expr}{t t':TO}(h:PO X e t)(k:∀σ H Q,t' σ H Q->t σ H Q):PO X e t':=fun pins s σ H Q I q=>h pins s σ H Q I (k σ H Q q)
theorem To(R:pk r){e:Option Expr}{p:Option (Ev Dv)×Gm×List Nat}(ok:pY C X)(h:jS r C Γ e=some p):PO X e (Xi X.K Γ p.2.1 p.2.2 (cK p.1)):=by
 cases e with
 | none =>
  cases h;exact PO.imp VY fun σ H Q q=>by
   obtain⟨g,m,P,r,R,k,res,e,q⟩:=q;exact q none m g P H e BQ.refl Step.refl r
 | some e =>
  obtain⟨c,e1,h⟩:=pR h;cases h;exact PO.imp (VX (FF (R.E ok e1))) fun σ H Q q=>by
   obtain⟨g,m,P,r,R,k,res,e,q⟩:=q;refine⟨g,m,P,r,R,_,res,e,fun d m' g' P' Pv v H' hk ag s rv r1 n=>?_⟩;cases d<;>first | (cases hk;done) | skip
   rename_i i;exact⟨i,AL rv,q (some i) m' g' P' H' hk ag (s.less fun _ z=>.inl z) r1⟩
def kM(r:Rec)(C:Cf)(Γ:Gm)(a:Expr)(lo hi:Option Expr):Option CE:=(EK r C Γ true a).bind fun x=>(jS r C x.Γ lo).bind fun l=>(jS r C l.2.1 hi).bind fun u=>if DX x.a u.2.1 then some ⟨1,u.2.1,x.js++(l.2.2++u.2.2),fw C.T.sl x.a l.1 u.1⟩ else none
theorem ZN{K:W.Frag}{Γ qA ph Γ':Gm}{j1 j2 j3:List Nat}{p:Dv->Option Int->Option Int->Option Dv}{rr:V->Option Int->Option Int->Hp->VK->Prop}(hp:∀lo hi,AI K (one fun d=>p d lo hi) 1 (cX fun x H Q=>rr x lo hi H Q)){a:Ar}{lo hi:Option (Ev Dv)}
    (ha:∀{as Γ' js},AD qA as Γ' js->DX a Γ'=true->AD Γ (a::as) Γ' (j1++js)) (hs:DX a Γ'=true) {σ:St} {H:Hp} {Q:VK}
    (h:tE K Γ 1 Γ' (j1++(j2++j3)) (fw p a lo hi) σ H Q):jr rr (IC K a) (Xi K qA ph j2 (cK lo)) (Xi K ph Γ' j3 (cK hi)) σ H Q:=by
  obtain⟨g,m,P,r,R,k,res,e,q⟩:=h;have fin:∀{x:Dv} {l u:Option Int} {m3:M} {g3:G} {P3:Fp} {H3:Hp} {v:V} {o:Nat} {Px:Fp},(p x l u).bind (fun d=>k d m3)=some res->BQ (j1++(j2++j3)) m m3->Step g P H g3 P3 H3->Rel K g3 H3 Γ' m3 σ P3->o<=1->Rep K g3 H3 o x v Px->rr v l u H3 Q:=fun{x l u m3 g3 P3 H3 v o Px} hk ag s r3 hlo rx=>by
    obtain⟨d,e1,e2⟩:=pR hk;refine hp l u g3 H3 [x] [v] d Q r3.zd (by unfold RA;exact⟨v,[],o,Px,rfl,hlo,rx,by unfold RA;rfl⟩) e1 fun w H4 nw=>?_
    obtain⟨Pv,s2,h1,r2,n2⟩:=Ak.go s r3 nw;exact q d m3 g3 P3 Pv w H4 e2 ag s2 h1 r2 n2
  cases a with
  | fd i f=>cases e
  | rf i =>
    have c0:=ha (as:=[]) (Γ':=qA) (js:=[]) BP;have hs':=hs
    -- wF slot is set ahead
    have h0:(∃o,Γ[i]?=some (some o))/\qA=Γ/\j1=[]:=by
      have:=ha (as:=[.ev qA Γ' (j2++j3) (fun _ m k=>k .pX m)]) (Γ':=Γ') (js:=(j2++j3)++[]) (by unfold AD;exact⟨rfl,[],rfl,BP⟩) hs;unfold AD at this;refine⟨this.1,?_⟩;obtain⟨_,_,c⟩:=this;unfold AD at c;refine⟨c.1,?_⟩;obtain⟨_,js2,e,c⟩:=c;unfold AD at c;rw[c.2] at e;have l:(j1++((j2++j3)++[])).length=((j2++j3)++[]).length:=congrArg W0 e;simp at l;exact l
    obtain⟨⟨o0,h0⟩,rfl,rfl⟩:=h0;obtain⟨v0,P0,tK,x3,_⟩:=r.tF h0;refine⟨v0,tK,g,m,P,r,R,_,res,e,fun l m1 g1 P1 H1 vg ag1 s1 r1=>⟨g1,m1,P1,r1,R,_,res,vg,fun u m2 g2 P2 H2 rT sA s2 r2=>?_⟩⟩;obtain⟨o1,qy,h1⟩:=Dg hs;obtain⟨v1,Px,wg,vK,_⟩:=r2.tF h1;rw[tK] at wg;cases wg;exact fin rT (ag1.trans sA) (s1.trans s2) r2 qy vK
  | ev Γa Γb ja f =>
    have h0:Γa=Γ/\Γb=qA/\j1=ja:=by
      have:=ha (as:=[.ev qA qA [] (fun _ m k=>k .pX m)]) (Γ':=qA) (js:=[]) (by unfold AD;exact⟨rfl,[],rfl,BP⟩) rfl;unfold AD at this;obtain⟨e1,js2,e2,c⟩:=this;unfold AD at c;obtain⟨e3,yA,e4,c⟩:=c;unfold AD at c;rw[c.2] at e4;subst e4;simp at e2;exact⟨e1,e3.symm,e2⟩
    obtain⟨rfl,rfl,rfl⟩:=h0;refine⟨g,m,P,r,R,_,res,e,fun x m1 g1 P1 Pv v H1 vg ag1 s1 rv r1 n1=>⟨g1,m1,P1,r1,R,_,res,vg,fun l m2 g2 P2 H2 rT sA s2 r2=>⟨g2,m2,P2,r2,R,_,res,rT,fun u m3 g3 P3 H3 hk3 ag3 s3 r3=>?_⟩⟩⟩;exact fin hk3 (ag1.trans (sA.trans ag3)) (((s1.less fun _ z=>.inl z).trans s2).trans s3) r3 (by decide:0<=1) ((rv.z.held s2 r1.pZ fun _ z=>z.elim).held s3 r2.pZ fun _ z=>z.elim)
theorem ba(R:pk r){lo hi:Option Expr}{p2:Pos}(ok:pY C X)(h:kM r C Γ a lo hi=some c):PE X (.Subscript a (.Slice lo hi none p2) pos) (tE X.K Γ c.o c.Γ c.js c.f):=by
 obtain⟨x,e1,h⟩:=pR h;obtain⟨l,e2,h⟩:=pR h;obtain⟨u,e3,h⟩:=pR h;split at h
 ·rename_i hs;cases h;obtain⟨h1,_,h2⟩:=Bp R ok e1;obtain⟨rr,q1,q2⟩:=C.T.yf X ok.gx;exact PE.imp (RQ q1 h1 (To R ok e2) (To R ok e3)) fun _ _ _ h=>ZN q2 h2 hs h
 ·cases h
def gN(r:Rec)(C:Cf)(Γ:Gm)(es:List Expr):Option CE:=(r.A C Γ [] es).bind fun c=>some ⟨1,c.Γ,c.js,NP .tup (AQ c.as)⟩
def gT(r:Rec)(C:Cf)(Γ:Gm)(es:List Expr):Option CE:=(r.A C Γ [] es).bind fun c=>some ⟨1,c.Γ,c.js,NP .lst (AQ c.as)⟩
def SN:Ev Dv:=Jp (.rX [] [])
theorem Ak.rX{K:W.Frag}{g:G}{H:Hp}{p:A8}(zd:Zd g H)(hp:H p=none):Ak K g H 1 (.rX [] []) (.ref p) (upd H p (.dK [])):=by
 have sm:=Cp hp (.dK []);refine⟨sm,fun b=>b=p,?_,fun a q=>q▸hp⟩;unfold Rep;exact⟨p,[],rfl,AM,(fun z=>by cases z),(fun _ z=>zd p z hp),⟨rfl,pT,AA.nil⟩,fun b=>⟨fun z=>⟨by decide,z⟩,fun z=>z.2⟩⟩
theorem eG:PE X (.Dict [] [] pos) (tE X.K Γ 1 Γ [] SN):=PE.imp RU fun σ H Q q=>by
 obtain⟨g,m,P,r,R,k,res,e,q⟩:=q;intro p hp;obtain⟨Pv,s2,h1,r2,n2⟩:=Ak.go Step.refl r (Ak.rX r.zd hp);exact q _ m g P Pv _ _ e BQ.refl s2 h1 r2 n2
theorem Wg(R:pk r){x1:Nat}(ok:pY C X)(h:gN r C Γ es=some c):PE X (.Tuple es x1 pos) (tE X.K Γ c.o c.Γ c.js c.f):=by
 obtain⟨x,e1,h⟩:=pR h;cases h;obtain⟨a1,a2,_,_,a5⟩:=R.A ok e1;exact eD a1 a2 (a5 rfl)
theorem Wq(R:pk r)(ok:pY C X)(h:gT r C Γ es=some c):PE X (.List es pos) (tE X.K Γ c.o c.Γ c.js c.f):=by
 obtain⟨x,e1,h⟩:=pR h;cases h;obtain⟨a1,a2,_,_,a5⟩:=R.A ok e1;exact eF a1 a2 (a5 rfl)
def BW:Gm->Gm->Gm
 | some a::x,some b::y=>some (if a == b then a else 0)::BW x y
 | _::x,_::y=>none::BW x y
 | _,_=>[]
def fv(t:Dv->Option Bool)(fa:Ev (List Dv)):Ev Bool:=YR (one t) fa
def bY(r:Rec)(C:Cf)(Γ:Gm)(a:Expr):Option CT:=(UB r C Γ a).bind fun x=>some ⟨x.Γ,x.js++[],fv C.T.tru (AQ [x.a])⟩
noncomputable def ND:Expr->Bool
 | .UnaryOp .Not _ _=>false
 | .BoolOp _ _ _=>false
 | .IfExp _ _ _ _=>false
 | .Compare _ _ _ _=>false
 | _=>true
theorem Wh(R:pk r){c:CT}(ok:pY C X)(hv:ND a=true)(h:bY r C Γ a=some c):PT X a (tT X.K Γ c.Γ c.js c.f):=by
  obtain⟨x,e1,h⟩:=pR h;cases h;obtain⟨h1,h2⟩:=Iu R ok e1;refine PT.imp (RB h1 fun whole=>?_) fun σ H Q h=>?_
  · cases a<;>first | rfl | (cases hv;done) | skip
    rename_i op b pos;cases op<;>first | rfl | (cases hv;done)
  · obtain⟨g,m,P,rl,R',k,res,e,q⟩:=h;have key:BM X.K [x.a] σ H fun vs H1=>∃w,vs=[w]/\∃b,UK X.K w H1 b/\Q b H1:=by
      refine AK [x.a] rl h2 e fun ds m' g' P' vs H1 hk ag s ar r1=>?_
      obtain⟨b,e1,e2⟩:=pR hk;unfold one at e1;split at e1
      · rename_i d;have ra:=ar.ra r1;unfold RA at ra;obtain⟨w,wr,o,Po,rfl,_,h3,h4⟩:=ra;unfold RA at h4;subst h4;exact⟨w,rfl,b,C.T.yO _ _ _ _ _ _ _ _ h3 e1,q b m' g' P' H1 e2 ag s r1⟩
      · cases e1
    revert key
    cases x.a with
    | ev Γa Γb ja fa =>
      rintro⟨g,m,P,r,R,k,res,e,q⟩;refine⟨g,m,P,r,R,k,res,e,fun d m' g' P' Pv v H' h1 h2 h3 h4 h5 h6=>?_⟩;obtain⟨w,ew,z⟩:=q d m' g' P' Pv v H' h1 h2 h3 h4 h5 h6;cases ew;exact z
    | rf i =>
      rintro⟨v,e,w,ew,z⟩;cases ew;exact⟨v,e,z⟩
    | fd i f =>
      rintro⟨v,e,a,C',dx,fs,w0,q1,q2,q3,q4,q5,w,ew,z⟩;cases ew;exact⟨v,e,a,C',dx,fs,w0,q1,q2,q3,q4,q5,z⟩
def bo(t:CT):CT:=⟨t.Γ,t.js,YQ t.f⟩
def jT(a b:CT):CT:=let Γ':=BW a.Γ b.Γ;let js:=a.js++b.js;⟨Γ',js,SV (BJ Γ' js) (Js a.f b.f fun _ m k=>k false m)⟩
def lM(a b:CT):CT:=let Γ':=BW a.Γ b.Γ;let js:=a.js++b.js;⟨Γ',js,SV (BJ Γ' js) (Js a.f (fun _ m k=>k true m) b.f)⟩
theorem eZ{op:BoolOp}{vs:List Expr}{t:TT}(h:PT X (.BoolOp op vs pos) t):PW X (.BoolOp op vs pos) t:=fun wh pins s σ H Q I q=>h pins s σ H Q I q
def Xo(r:Rec)(C:Cf)(Γ:Gm)(op:BoolOp)(vs:List Expr)(pos:Pos):Option CT:=match vs with
 | []=>none
 | [a]=>r.T C Γ a
 | a::b::vs=>(r.T C Γ a).bind fun x=>(r.T C x.Γ (.BoolOp op (b::vs) pos)).bind fun y=>if BL (BW x.Γ y.Γ) x.Γ && BL (BW x.Γ y.Γ) y.Γ then some (match op with | .And=>jT x y | .Or=>lM x y) else none
theorem QX(R:pk r){op:BoolOp}{vs:List Expr}{c:CT}(ok:pY C X)(h:Xo r C Γ op vs pos=some c):PT X (.BoolOp op vs pos) (tT X.K Γ c.Γ c.js c.f):=by
 match vs,h with
 | [],h=>cases h
 | [a],h =>
  cases op with
  | And=>exact PW.pt (VJ (R.T ok h))
  | Or=>exact PW.pt (Ze (R.T ok h))
 | a::b::vs,h =>
  obtain⟨x,e1,h⟩:=pR h;obtain⟨y,e2,h⟩:=pR h;split at h
  ·rename_i hw;rw[A2] at hw;have ha:=R.T ok e1;have hb:=eZ (R.T ok e2);have jk:∀(i o:Nat),(BW x.Γ y.Γ)[i]?=some (some o)->i∈BJ (BW x.Γ y.Γ) (x.js++y.js)\/i∉x.js++y.js:=fun i o h=>BS h
   cases op with
   | And =>
    cases h;exact PW.pt (PW.imp (Zf ha (PW.imp hb fun _ _ _ h=>MQ hw.2 (fun _ z=>z) h)) fun σ H Q h=>QL (Mz jk (fun i z=>Az z) h) hw.1)
   | Or =>
    cases h;exact PW.pt (PW.imp (eY ha (PW.imp hb fun _ _ _ h=>MQ hw.2 (fun _ z=>z) h)) fun σ H Q h=>dW (Mz jk (fun i z=>Az z) h) hw.1)
  ·cases h
def gC(p p':List Dv->Option Bool)(a:Ar)(i:Nat)(c:Ar):Ev Bool:=Js (YR p (AQ [a,.rf i])) (YR p' (AQ [.rf i,c])) fun R m k=>k false m
section
variable {K:W.Frag} {Γ ph Γ':Gm} {js js2:List Nat} {σ:St} {H:Hp}
theorem MZ{f:Ev Bool}{Q Q':Bool->Hp->Prop}(h:tT K Γ Γ' js f σ H Q)(m:∀b H',Q b H'->Q' b H'):tT K Γ Γ' js f σ H Q':=by
 obtain⟨g,m',P,r,R,k,res,e,q⟩:=h;exact⟨g,m',P,r,R,k,res,e,fun b m1 g1 P1 H1 h1 h2 h3 h4=>m _ _ (q b m1 g1 P1 H1 h1 h2 h3 h4)⟩
theorem QO{a:Ar}{Q1 Q2:VK}(xc:∀v H,Q1 v H->Q2 v H)(t:IC K a σ H Q1):IC K a σ H Q2:=by
 cases a with
 | ev Γa Γb ja fa =>
  obtain⟨g,m,P,r,R,k,res,e,q⟩:=t;exact⟨g,m,P,r,R,k,res,e,fun d m' g' P' Pv v H' h1 h2 h3 h4 h5 h6=>xc _ _ (q d m' g' P' Pv v H' h1 h2 h3 h4 h5 h6)⟩
 | rf i=>obtain⟨v,e,q⟩:=t;exact⟨v,e,xc _ _ q⟩
 | fd i f=>obtain⟨v,e,a,C,dx,fs,w,h1,h2,h3,h4,h5,q⟩:=t;exact⟨v,e,a,C,dx,fs,w,h1,h2,h3,h4,h5,xc _ _ q⟩
theorem gi{o:Nat}{f:Ev Bool}(h:tE K Γ o Γ' js (Lj f) σ H Q):tT K Γ Γ' js f σ H fun b H'=>Q (.bl b) H':=by
 obtain⟨g,m,P,r,R,k,res,e,q⟩:=h;exact⟨g,m,P,r,R,_,res,e,fun b m1 g1 P1 H1 hk ag s r1=>q (.bl b) m1 g1 P1 pT _ H1 hk ag (s.less fun _ z=>z.elim id D2) Bn r1 fun _ _ z=>z⟩
theorem UA{p:List Dv->Option Bool}{as:List Ar}{r:MK}(hp:AI K (fun ds=>(p ds).map .bl) 0 r)(c:AD Γ as Γ' js)(h:tT K Γ Γ' js (YR p (AQ as)) σ H fun b H'=>Q (.bl b) H'):BM K as σ H fun vs H1=>r vs H1 Q:=by
 obtain⟨g,m,P,rl,R',k,res,e,q⟩:=h;refine AK as rl c e fun ds m' g' P' vs H1 hk ag s ar r1=>?_
 obtain⟨b,e1,e2⟩:=pR hk;refine hp g' H1 ds vs (.bl b) _ r1.zd (ar.ra r1) (by show(p ds).map _=_;rw[e1];rfl) fun v H2 nw=>?_
 obtain⟨Pv,s2,h1,r2,n2⟩:=Ak.go s r1 nw;rw[Ax h1];exact q b m' g' P' H2 e2 ag (s2.less fun _ q=>.inl q) r2
theorem Ho{p p':List Dv->Option Bool}{a c:Ar}{o:Nat}{r r':R2}(hp:AI K (fun ds=>(p ds).map .bl) 0 (JA r))(xM:AI K (fun ds=>(p' ds).map .bl) 0 (JA r'))(c1:AD Γ [a,.rf i] ph js)(c2:AD ph [.rf i,c] Γ' js2)(hi:Γ[i]?=some (some o))(hw:BL Γ' ph=true){Q:VK}
    (h:tT K Γ Γ' (js++js2) (gC p p' a i c) σ H fun b H'=>Q (.bl b) H'):Ks r r' (IC K a) (DU i) (IC K c) σ H Q:=by
  have h0:∃v,σ[i]?=some (some v):=by
    obtain⟨g,m,P,r,_⟩:=h;obtain⟨v,_,e,_⟩:=r.tF hi;exact⟨v,e⟩
  obtain⟨v,hv⟩:=h0;have h1:=QL h hw;have h2:tT K Γ ph js (YR p (AQ [a,.rf i])) σ H fun b H'=>∃k,V.bl b=V.bl k/\if k=true then IC K c σ H' fun w' H4=>r' v w' H4 Q else Q (.bl false) H':=MZ h1 fun b H' q=>⟨b,rfl,by
    cases b with
    | true =>
      rw[if_pos rfl] at q ⊢;obtain⟨v',hv',q'⟩:=UA xM c2 q;rw[hv] at hv';cases hv';exact q'
    | false=>rw[if_neg C6] at q ⊢;exact q⟩
  have h3:=UA (Q:=fun z H'=>∃k,z=V.bl k/\if k=true then IC K c σ H' fun w' H4=>r' v w' H4 Q else Q (.bl false) H') hp c1 h2;refine QO (fun x H1 z=>?_) h3;obtain⟨w,hw',q⟩:=z;rw[hv] at hw';cases hw';exact⟨v,hv,q⟩
end
def gX(r:Rec)(C:Cf)(Γ:Gm)(a:Expr)(op:W6)(b:Expr)(qX:W6)(c:Expr):Option CT:=none
theorem Wu(R:pk r){c:Expr}{qX:W6}{t:CT}(ok:pY C X)(h:gX r C Γ a op b qX c=some t):PT X (.Compare a [op,qX] [b,c] pos) (tT X.K Γ t.Γ t.js t.f)/\∀o,PE X (.Compare a [op,qX] [b,c] pos) (tE X.K Γ o t.Γ t.js (Lj t.f)):=by cases h
def jR(r:Rec)(C:Cf)(Γ:Gm)(a:Expr)(op:W6)(b:Expr)(qX:W6)(c:Expr):Option CT:=if o5 [op,qX] [b,c] then none else(OV C b).bind fun i=>(C.T.sy.find? fun e=>e.op == op).bind fun en=>(C.T.sy.find? fun e=>e.op == qX).bind fun en'=>(EK r C Γ true a).bind fun x=>(EK r C x.Γ true c).bind fun z =>
 if(Γ.getD i none).isSome && DX x.a x.Γ && YB x.Γ i && DX z.a z.Γ && YB z.Γ i && BL z.Γ x.Γ then some ⟨z.Γ,(x.js++[])++(z.js++[]),gC (two en.f) (two en'.f) x.a i z.a⟩ else none
theorem cB(R:pk r){c:Expr}{qX:W6}{t:CT}(ok:pY C X)(h:jR r C Γ a op b qX c=some t):PT X (.Compare a [op,qX] [b,c] pos) (tT X.K Γ t.Γ t.js t.f)/\∀o,PE X (.Compare a [op,qX] [b,c] pos) (tE X.K Γ o t.Γ t.js (Lj t.f)):=by
 unfold jR at h;split at h
 ·cases h
 ·rename_i hm;rw[nh] at hm;obtain⟨i,e0,h⟩:=pR h;obtain⟨en,e1,h⟩:=pR h;obtain⟨en',e2,h⟩:=pR h;obtain⟨x,e3,h⟩:=pR h;obtain⟨z,e4,h⟩:=pR h;split at h
  ·rename_i hw;simp only[A2] at hw;obtain⟨⟨⟨⟨⟨w1,w2⟩,w3⟩,w4⟩,w5⟩,w6⟩:=hw;cases h;have eo:en.op=op:=by simpa using J5 e1
   have eo':en'.op=qX:=by simpa using J5 e2
   obtain⟨rr,q1,q2⟩:=en.ok X ok.gx;obtain⟨rr',q1',q2'⟩:=en'.ok X ok.gx;rw[eo] at q1;rw[eo'] at q1';obtain⟨a1,_,a2⟩:=Bp R ok e3;obtain⟨b1,_,b2⟩:=Bp R ok e4;obtain⟨o,hi⟩:=getD_some w1;obtain⟨o2,lo2,hi2⟩:=Dg w3;have c1:AD Γ [x.a,.rf i] x.Γ (x.js++[]):=a2 (by unfold AD;exact⟨⟨o2,hi2⟩,⟨o2,lo2,hi2⟩,BP⟩) w2;have c2:AD x.Γ [.rf i,z.a] z.Γ (z.js++[]):=by
    unfold AD;exact⟨⟨o2,hi2⟩,Dg w5,b2 BP w4⟩
   exact⟨PT.imp (RC q1 q1' a1 (CY ok e0) b1 hm) fun σ H Q h=>Ho (Q:=fun v H'=>∃k,v=V.bl k/\Q k H') q2 q2' c1 c2 hi w6 (MZ h fun b H' q=>⟨b,rfl,q⟩),fun o=>PE.imp (RV q1 q1' a1 (CY ok e0) b1 hm) fun σ H Q h=>Ho q2 q2' c1 c2 hi w6 (gi h)⟩
  ·cases h
def MC(r:Rec)(C:Cf)(Γ:Gm)(a:Expr)(op:W6)(b:Expr)(qX:W6)(c:Expr):Option CT:=match OV C b with
 | some _=>jR r C Γ a op b qX c
 | none=>gX r C Γ a op b qX c
theorem NX(R:pk r){c:Expr}{qX:W6}{t:CT}(ok:pY C X)(h:MC r C Γ a op b qX c=some t):PT X (.Compare a [op,qX] [b,c] pos) (tT X.K Γ t.Γ t.js t.f)/\∀o,PE X (.Compare a [op,qX] [b,c] pos) (tE X.K Γ o t.Γ t.js (Lj t.f)):=by
 unfold MC at h;split at h
 ·exact cB R ok h
 ·exact Wu R ok h
def Xl(r:Rec)(C:Cf)(Γ:Gm)(e:Expr):Option CT:=match e with
 | .Compare a [op] [b] _=>MB r C Γ a op b
 | .Compare a [op,qX] [b,c] _=>MC r C Γ a op b qX c
 | .UnaryOp .Not x _=>(r.T C Γ x).map bo
 | .BoolOp op vs pos=>Xo r C Γ op vs pos
 | e=>if ND e then bY r C Γ e else none
theorem QR(R:pk r){c:CT}(ok:pY C X)(h:Xl r C Γ e=some c):PT X e (tT X.K Γ c.Γ c.js c.f):=by
 have val:ND e=true->(if ND e then bY r C Γ e else none)=some c->PT X e (tT X.K Γ c.Γ c.js c.f):=fun hv h=>by
  rw[if_pos hv] at h;exact Wh R ok hv h
 match e,h with
 | .Compare a ops bs pos,h =>
  match ops,bs,h with
  | [op],[b],h=>exact(NW R ok h).1
  | [op,qX],[b,c],h=>exact(NX R ok h).1
  | [],_,h=>cases h
  | [_],[],h=>cases h
  | [_],_::_::_,h=>cases h
  | [_,_],[],h=>cases h
  | [_,_],[_],h=>cases h
  | [_,_],_::_::_::_,h=>cases h
  | _::_::_::_,_,h=>cases h
 | .UnaryOp op x pos,h =>
  cases op with
  | Not =>
   cases q:r.T C Γ x with
   | none=>replace h:(r.T C Γ x).map bo=some c:=h;rw[q] at h;cases h
   | some t =>
    replace h:(r.T C Γ x).map bo=some c:=h;rw[q] at h;cases h;exact PT.imp (Zh (R.T ok q)) fun _ _ _ h=>ZF h
  | _=>exact val rfl h
 | .BoolOp op vs pos,h=>exact QX R ok h
 | .IfExp a b c' d,h=>cases h
 | .NamedExpr ..,h | .BinOp ..,h | .Lambda ..,h | .Dict ..,h | .Set ..,h | .ListComp ..,h | .SetComp ..,h | .DictComp ..,h | .GeneratorExp ..,h | .Await ..,h | .Yield ..,h | .YieldFrom ..,h | .Call ..,h | .FormattedValue ..,h | .JoinedStr ..,h | .Constant ..,h | .Attribute ..,h | .Subscript ..,h | .Starred ..,h | .Name ..,h | .List ..,h | .Tuple ..,h | .Slice ..,h=>exact val rfl h
noncomputable def Kj{R:Type}(d:Dv)(k:Bool->Option R):Option R:=match d with | .bl b=>k b | _=>none
theorem Gd{R:Type}{d:Dv}{k:Bool->Option R}{r:R}(h:Kj d k=some r):∃b,d=.bl b/\k b=some r:=by
 cases d<;>first | (cases h;done) | exact⟨_,rfl,h⟩
def SZ(f g:Ev Dv):Ev Dv:=fun R m k=>f R m fun d m1=>Kj d fun b=>if b=true then g R m1 k else k (.bl false) m1
def YO(f g:Ev Dv):Ev Dv:=fun R m k=>f R m fun d m1=>Kj d fun b=>if b=true then k (.bl true) m1 else g R m1 k
def SM(f:Ev Dv):Ev Dv:=fun R m k=>f R m fun d m1=>Kj d fun b=>k (.bl (!b)) m1
section
variable {K:W.Frag} {Γ Γ' ph:Gm} {js js2:List Nat} {σ:St} {H:Hp} {f u:Ev Dv} {Q:VK}
theorem ZI(hw:BL Γ' ph=true)(h:tE K Γ 0 Γ' (js++js2) (SZ f u) σ H Q):Xj (tE K Γ 0 ph js f) (tE K ph 0 Γ' js2 u) σ H Q:=by
 obtain⟨g,m,P,r,R,k,res,e,q⟩:=h;refine⟨g,m,P,r,R,_,res,e,fun d m1 g1 P1 Pv v H1 hk ag s rv r1 n=>?_⟩;replace hk:=Gd hk;obtain⟨b,rfl,hk⟩:=hk;have s1:Step _ _ _ g1 P1 H1:=s.less fun _ z=>.inl z
 refine⟨b,Ax rv,?_⟩;cases b with
 | true=>rw[if_pos rfl] at hk ⊢;exact⟨g1,m1,P1,r1,R,k,res,hk,fun d m2 g2 P2 Pw w H2 rT sA s2 wL r2 n2=>q d m2 g2 P2 Pw w H2 rT (ag.trans sA) (s1.trans s2) wL r2 n2⟩
 | false =>
  rw[if_neg C6] at hk ⊢;obtain⟨g2,P2,s2,r2⟩:=r1.weaken hw;exact q _ m1 g2 P2 pT _ H1 hk (ag.mono fun _ z=>C5 _ z) ((s1.trans s2).less fun _ z=>z.elim id D2) Bn r2 fun _ _ z=>z
theorem df(hw:BL Γ' ph=true)(h:tE K Γ 0 Γ' (js++js2) (YO f u) σ H Q):dZ (tE K Γ 0 ph js f) (tE K ph 0 Γ' js2 u) σ H Q:=by
 obtain⟨g,m,P,r,R,k,res,e,q⟩:=h;refine⟨g,m,P,r,R,_,res,e,fun d m1 g1 P1 Pv v H1 hk ag s rv r1 n=>?_⟩;replace hk:=Gd hk;obtain⟨b,rfl,hk⟩:=hk;have s1:Step _ _ _ g1 P1 H1:=s.less fun _ z=>.inl z
 refine⟨b,Ax rv,?_⟩;cases b with
 | false=>rw[if_neg C6] at hk ⊢;exact⟨g1,m1,P1,r1,R,k,res,hk,fun d m2 g2 P2 Pw w H2 rT sA s2 wL r2 n2=>q d m2 g2 P2 Pw w H2 rT (ag.trans sA) (s1.trans s2) wL r2 n2⟩
 | true =>
  rw[if_pos rfl] at hk ⊢;obtain⟨g2,P2,s2,r2⟩:=r1.weaken hw;exact q _ m1 g2 P2 pT _ H1 hk (ag.mono fun _ z=>C5 _ z) ((s1.trans s2).less fun _ z=>z.elim id D2) Bn r2 fun _ _ z=>z
theorem ZH(h:tE K Γ 0 Γ' js (SM f) σ H Q):Xe (tE K Γ 0 Γ' js f) σ H Q:=by
 obtain⟨g,m,P,r,R,k,res,e,q⟩:=h;refine⟨g,m,P,r,R,_,res,e,fun d m1 g1 P1 Pv v H1 hk ag s rv r1 n=>?_⟩;replace hk:=Gd hk;obtain⟨b,rfl,hk⟩:=hk;exact⟨b,Ax rv,q _ m1 g1 P1 pT _ H1 hk ag (s.less fun _ z=>z.elim .inl D2) Bn r1 fun _ _ z=>z⟩
end
def gQ(r:Rec)(C:Cf)(Γ:Gm)(x:Expr):Option CE:=(r.E C Γ x).bind fun c=>some ⟨0,c.Γ,c.js,SM c.f⟩
def QY(r:Rec)(C:Cf)(Γ:Gm)(op:BoolOp)(vs:List Expr)(pos:Pos):Option CE:=match vs with
 | []=>none
 | [a]=>r.E C Γ a
 | a::b::vs=>(r.E C Γ a).bind fun x=>(r.E C x.Γ (.BoolOp op (b::vs) pos)).bind fun y=>let Γ':=BW x.Γ y.Γ;let js:=x.js++y.js;if BL Γ' x.Γ && BL Γ' y.Γ then some ⟨0,Γ',js,SV (BJ Γ' js) (match op with | .And=>SZ x.f y.f | .Or=>YO x.f y.f)⟩ else none
theorem Nx(R:pk r){op:BoolOp}{vs:List Expr}(ok:pY C X)(h:QY r C Γ op vs pos=some c):PE X (.BoolOp op vs pos) (tE X.K Γ c.o c.Γ c.js c.f):=by
 match vs,h with
 | [],h=>cases h
 | [a],h=>exact Zy (R.E ok h)
 | a::b::vs,h =>
  obtain⟨x,e1,h⟩:=pR h;obtain⟨y,e2,h⟩:=pR h;simp only at h;split at h
  ·rename_i hw;rw[A2] at hw;have ha:=FF (R.E ok e1);have hb:=FF (R.E ok e2);have jk:∀(i o:Nat),(BW x.Γ y.Γ)[i]?=some (some o)->i∈BJ (BW x.Γ y.Γ) (x.js++y.js)\/i∉x.js++y.js:=fun i o h=>BS h
   cases op with
   | And=>cases h;exact PE.imp (aE ha (PE.imp hb fun _ _ _ h=>MR hw.2 (fun _ z=>z) h)) fun σ H Q h=>ZI hw.1 (NA jk (fun i z=>Az z) h)
   | Or=>cases h;exact PE.imp (fB ha (PE.imp hb fun _ _ _ h=>MR hw.2 (fun _ z=>z) h)) fun σ H Q h=>df hw.1 (NA jk (fun i z=>Az z) h)
  ·cases h
def gU(r:Rec)(C:Cf)(Γ:Gm)(c a b:Expr):Option CE:=none
theorem Wr(R:pk r){c:Expr}{d:CE}(ok:pY C X)(h:gU r C Γ c a b=some d):PE X (.IfExp c a b pos) (tE X.K Γ d.o d.Γ d.js d.f):=by cases h
theorem BF(h:es.all noStar=true):(Q7 pos (E3 es env)).any (·.1)=false:=by
 induction es with
 | nil=>rfl
 | cons e es ih =>
  rw[G8,A2] at h;rw[AS h.1];show(false || (Q7 pos (E3 es env)).any (·.1))=false;rw[ih h.2];rfl
theorem cP(h:es.all noStar=true):(Q7 pos (E3 es env)).all (fun x=>!x.1)=true:=by
 induction es with
 | nil=>rfl
 | cons e es ih =>
  rw[G8,A2] at h;rw[AS h.1];show(true && (Q7 pos (E3 es env)).all (fun x=>!x.1))=true;rw[ih h.2];rfl
def YZ(r:Rec)(C:Cf)(Γ:Gm)(s:qF)(es:List Expr):Option CE:=(r.A C Γ ((C2 es.length).map s.io.contains) es).bind fun c=>if cg c.as s.io && (es.length == s.ps.length) && (slots c.as s.io).all (fun i=>c.Γ.getD i none == some 1) then some ⟨s.ro,c.Γ,c.js++slots c.as s.io,Li s c.as⟩ else none
variable {p:Pos}
theorem Ta(R:pk r)(ok:pY C X)(hs:(x,s)∈C.fs/\s.cl=none)(hg:Gl X x)(hn:GC x=true)(h:YZ r C Γ s es=some c):PE X (.Call (.Name x p) es [] pos) (tE X.K Γ c.o c.Γ c.js c.f):=by
 obtain⟨c1,e1,h⟩:=pR h;split at h
 ·rename_i hw;simp only[A2,E1,beq_iff_eq] at hw;cases h;obtain⟨a1,a2,a3,a4,_⟩:=R.A ok e1;obtain⟨nd,qk,j,kk,hj,zE,F⟩:=ok.fx hs;have run:∀{σ H Q},tE X.K Γ s.ro c1.Γ (c1.js++slots c1.as s.io) (Li s c1.as) σ H Q->iH (OA X.K s) (BM X.K c1.as) σ H Q:=fun h=>Sy a2 hw.1.1 (a3.trans hw.1.2) nd qk (fun i hi=>BU (hw.2 i hi)) h
  cases es with
  | nil =>
   have e:c1.as=[]:=J8 a3;refine PE.imp (RS F zE hj hg (BC hn).1) fun σ H Q h=>?_
   have:=run h;rw[e] at this;exact this
  | cons e es =>
   rw[G8,A2] at a4;exact PE.imp (Xw F zE hj hg a1 (BC hn).1 (AS a4.1) (BF a4.2)) fun σ H Q h=>run h
 ·cases h
def YW(r:Rec)(C:Cf)(Γ:Gm)(s:qF)(es:List Expr):Option CE:=(r.A C Γ (E9 es.length true) es).bind fun c=>if es.length == s.ps.length then some ⟨1,c.Γ,c.js,Ic s c.as⟩ else none
theorem TV(R:pk r)(ok:pY C X)(hs:(x,s)∈C.fs/\s.cl=none)(qk:s.io=[])(hg:Gl X x)(hn:GC x=true)(h:YW r C Γ s es=some c):PE X (.Call (.Name x p) es [] pos) (tE X.K Γ c.o c.Γ c.js c.f):=by
 obtain⟨c1,e1,h⟩:=pR h;split at h
 ·rename_i hw;rw[beq_iff_eq] at hw;cases h;obtain⟨a1,a2,a3,a4,_⟩:=R.A ok e1;obtain⟨nd,_,j,kk,hj,zE,F⟩:=ok.fx hs;have run:∀{σ H Q},tE X.K Γ 1 c1.Γ c1.js (Ic s c1.as) σ H Q->iH (OA X.K s) (BM X.K c1.as) σ H Q:=fun h=>PH a2 qk (a3.trans hw) h
  cases es with
  | nil =>
   have e:c1.as=[]:=J8 a3;refine PE.imp (RS F zE hj hg (BC hn).1) fun σ H Q h=>?_
   have:=run h;rw[e] at this;exact this
  | cons e es =>
   rw[G8,A2] at a4;exact PE.imp (Xw F zE hj hg a1 (BC hn).1 (AS a4.1) (BF a4.2)) fun σ H Q h=>run h
 ·cases h
noncomputable def Rr:Expr->Bool
 | .Dict [] [] _=>true
 | _=>false
def YY(r:Rec)(C:Cf)(Γ:Gm)(s:qF)(es:List Expr):Option CE:=none
theorem TZ(R:pk r)(ok:pY C X)(hs:(x,s)∈C.fs/\s.cl=none)(hg:Gl X x)(hn:GC x=true)(hd:(es.getLast?.map Rr).getD false=true)(h:YY r C Γ s es=some c):PE X (.Call (.Name x p) es [] pos) (tE X.K Γ c.o c.Γ c.js c.f):=by cases h
noncomputable def jD:Expr->Bool
 | .Call ..=>true
 | _=>false
def YX(r:Rec)(C:Cf)(Γ:Gm)(s:qF)(es:List Expr):Option CE:=none
theorem TY(R:pk r)(ok:pY C X)(hs:(x,s)∈C.fs/\s.cl=none)(hg:Gl X x)(hn:GC x=true)(h:YX r C Γ s es=some c):PE X (.Call (.Name x p) es [] pos) (tE X.K Γ c.o c.Γ c.js c.f):=by cases h
def bj(r:Rec)(C:Cf)(Γ:Gm)(s:qF)(es:List Expr):Option CE:=if s.nb && s.io.isEmpty then YW r C Γ s es else if(es.getLast?.map Rr).getD false && s.io.contains (es.length - 1) then YY r C Γ s es else if(es.head?.map jD).getD false && s.io.contains 0 then YX r C Γ s es else YZ r C Γ s es
theorem Wn(R:pk r)(ok:pY C X)(hs:(x,s)∈C.fs/\s.cl=none)(hg:Gl X x)(hn:GC x=true)(h:bj r C Γ s es=some c):PE X (.Call (.Name x p) es [] pos) (tE X.K Γ c.o c.Γ c.js c.f):=by
 unfold bj at h;split at h
 ·rename_i z;rw[A2,i7] at z;exact TV R ok hs z.2 hg hn h
 ·split at h
  ·rename_i z;rw[A2] at z;exact TZ R ok hs hg hn z.1 h
  ·split at h
   ·exact TY R ok hs hg hn h
   ·exact Ta R ok hs hg hn h
def TU(r:Rec)(C:Cf)(Γ:Gm)(en:vH)(es:List Expr):Option CE:=if es.isEmpty then none else(r.A C Γ (E9 es.length true) es).bind fun c=>some ⟨en.o,c.Γ,c.js,Ef en.f (AQ c.as)⟩
theorem TR(R:pk r){en:vH}(ok:pY C X)(hb:en.x∈C.bl)(hg:Gl X en.x)(hn:GC en.x=true)(h:TU r C Γ en es=some c):PE X (.Call (.Name en.x p) es [] pos) (tE X.K Γ c.o c.Γ c.js c.f):=by
 cases es with
 | nil=>cases h
 | cons e es =>
  unfold TU at h;rw[if_neg (by simp)] at h;obtain⟨c1,e1,h⟩:=pR h;cases h;obtain⟨a1,a2,a3,a4,_⟩:=R.A ok e1;rw[G8,A2] at a4;obtain⟨rr,q1,q2⟩:=en.ok X ok.gx;have n:=BC hn;rcases q2 with⟨id,q2,q3⟩ | ⟨T,q2,q3⟩
  ·exact PE.imp (JW q2 hg (ok.bl _ hb) q3 a1 n.2.2 n.1 (AS a4.1) (BF a4.2)) fun _ _ _ h=>CL q1 a2 h
  ·exact PE.imp (OI q2 hg (ok.bl _ hb) q3 a1 n.2.2 n.1 (AS a4.1) (BF a4.2)) fun _ _ _ h=>CL q1 a2 h
noncomputable def Tz:Expr->Bool
 | .Call _ _ _ _=>false
 | _=>true
theorem EI{name:Str}{w:Sem A3}(h:Tz o=true):M0 o name env w=w:=by
 cases o<;>first | rfl | (cases h)
def bp(r:Rec)(C:Cf)(Γ:Gm)(en:vF)(i:Nat)(es:List Expr):Option CE:=if es.length < 29 && (Γ.getD i none).isSome then(r.A C Γ [] es).bind fun c=>if c.Γ.getD i none == some 1 then some ⟨0,c.Γ,c.js++[i],SO en.T i en.p (AQ c.as)⟩ else none else none
theorem Lf(h:(e::es).all noStar=true)(hl:(e::es).length < 29):((Q7 pos (E3 (e::es) env)).all (fun x=>!x.1) && (backToKw pos (oE [] env)).all (fun x=>x.1.isSome)
      && decide ((e::es).length+([]:List X4).length+(if([]:List X4).isEmpty then 0 else 1) < 30))=true:=by
  rw[cP h];show(true && true && decide _)=true;simp only[M1,V8,decide_eq_true_eq,lh,List.isEmpty_nil,if_true];omega
variable {apos:Pos}
theorem Wp(R:pk r){en:vF}(ok:pY C X)(hi:OV C o=some i)(qL:(apos.endLine == pos.line)=true)(h:bp r C Γ en i es=some c):PE X (.Call (.Attribute o en.x apos) es [] pos) (tE X.K Γ c.o c.Γ c.js c.f):=by
 unfold bp at h;split at h
 ·rename_i h0;simp only[A2,decide_eq_true_eq] at h0;obtain⟨c1,e1,h⟩:=pR h;split at h
  ·rename_i h1;cases h;obtain⟨a1,a2,a3,a4,a5⟩:=R.A ok e1;obtain⟨id,rr,q1,q2,q3,q4,q5⟩:=en.ok X ok.gx;have ho:=CY ok hi;have qU:M0 o en.x X.env (M3 o X.env)=M3 o X.env:=EI (by cases o<;>first | rfl | (cases hi));have run:∀{σ H Q},tE X.K Γ 0 c1.Γ (c1.js++[i]) (SO en.T i en.p (AQ c1.as)) σ H Q->dh X.K en.T rr (DU i) (BM X.K c1.as) σ H Q:=fun h=>Vv q5 en.hT a2 (a5 rfl) (getD_some h0.2) (BU (beq_iff_eq.mp h1)) h
   cases es with
   | nil =>
    have e:c1.as=[]:=J8 a3;refine PE.imp (RX q1 q2 q3 q4 ho qU qL) fun σ H Q h=>?_
    have:=run h;rw[e] at this;exact this
   | cons e es =>
    have a4':=a4;rw[G8,A2] at a4;exact PE.imp (Xx q1 q2 q3 q4 ho a1 qU (Lf a4' h0.1) qL (AS a4.1) (BF a4.2)) fun σ H Q h=>run h
  ·cases h
 ·cases h
def gS(r:Rec)(C:Cf)(Γ:Gm)(en:uF)(o:Expr)(es:List Expr):Option CE:=if es.length < 29 && Tz o then(EK r C Γ true o).bind fun x=>(r.A C x.Γ (E9 es.length true) es).bind fun c=>if DX x.a c.Γ then some ⟨en.o,c.Γ,x.js++c.js,SQ en.T x.a c.as en.f⟩ else none else none
theorem Lz(R:pk r){en:uF}(ok:pY C X)(qL:(apos.endLine == pos.line)=true)(hn:en.n=es.length)(h:gS r C Γ en o es=some c):PE X (.Call (.Attribute o en.x apos) es [] pos) (tE X.K Γ c.o c.Γ c.js c.f):=by
 unfold gS at h;split at h
 ·rename_i h0;simp only[A2,decide_eq_true_eq] at h0;obtain⟨x,e0,h⟩:=pR h;obtain⟨c1,e1,h⟩:=pR h;split at h
  ·rename_i h1;cases h;obtain⟨o1,_,o2⟩:=Bp R ok e0;obtain⟨a1,a2,a3,a4,a5⟩:=R.A ok e1;obtain⟨id,rr,q1,q2,q3,q4,q5⟩:=en.ok X ok.gx;have qU:M0 o en.x X.env (M3 o X.env)=M3 o X.env:=EI h0.2;rcases en.hT with hT | ⟨hT,hT1⟩
   ·have run:∀{σ H Q},tE X.K Γ en.o c1.Γ (x.js++c1.js) (SQ en.T x.a c1.as en.f) σ H Q->dh X.K en.T rr (IC X.K x.a) (BM X.K c1.as) σ H Q:=fun h=>aT q5 hT (o2 a2 h1) h
    cases es with
    | nil =>
     have e:c1.as=[]:=J8 a3;refine PE.imp (RX q1 q2 q3 q4 o1 qU qL) fun σ H Q h=>?_
     have:=run h;rw[e] at this;exact this
    | cons e es =>
     have a4':=a4;rw[G8,A2] at a4;exact PE.imp (Xx q1 q2 q3 q4 o1 a1 qU (Lf a4' h0.1) qL (AS a4.1) (BF a4.2)) fun σ H Q h=>run h
   ·have run:∀{σ H Q},tE X.K Γ en.o c1.Γ (x.js++c1.js) (SQ en.T x.a c1.as en.f) σ H Q->ib rr (IC X.K x.a) (BM X.K c1.as) σ H Q:=fun h=>Vx q5 (o2 a2 h1) (by rw[hT] at h;exact h)
    rw[hT] at q1 q2;cases es with
    | nil=>rw[hT1] at hn;cases hn
    | cons e es =>
     have a4':=a4;rw[G8,A2] at a4;exact PE.imp (fE q1 q2 q3 q4 o1 a1 qU (Lf a4' h0.1) qL (AS a4.1) (BF a4.2)) fun σ H Q h=>run h
  ·cases h
 ·cases h
noncomputable def gM(c1 c2:CE):Option CE:=none
theorem Wf{c1 c2:CE}(h1:PE X e (tE X.K Γ c1.o c1.Γ c1.js c1.f))(h2:PE X e (tE X.K Γ c2.o c2.Γ c2.js c2.f))(h:gM c1 c2=some c):PE X e (tE X.K Γ c.o c.Γ c.js c.f):=by cases h
def Ya(r:Rec)(C:Cf)(Γ:Gm)(en:vF)(i:Nat)(f:Str)(es:List Expr):Option CE:=none
theorem Te(R:pk r){en:vF}{q:Nat×Str}(ok:pY C X)(hi:YK C o=some q)(qL:(apos.endLine == pos.line)=true)(h:Ya r C Γ en q.1 q.2 es=some c):PE X (.Call (.Attribute o en.x apos) es [] pos) (tE X.K Γ c.o c.Γ c.js c.f):=by cases h
def Yb(r:Rec)(C:Cf)(Γ:Gm)(mt:Str)(s:qF)(i:Nat)(es:List Expr):Option CE:=none
theorem Tf(R:pk r){mt cl:Str}(ok:pY C X)(hs:(mt,s)∈C.fs)(u4:s.cl=some cl)(hi:OV C o=some i)(qL:(apos.endLine == pos.line)=true)(h:Yb r C Γ mt s i es=some c):PE X (.Call (.Attribute o mt apos) es [] pos) (tE X.K Γ c.o c.Γ c.js c.f):=by cases h
def Yc(r:Rec)(C:Cf)(Γ:Gm)(s:qF)(x:Str)(es:List Expr):Option CE:=none
theorem Th(R:pk r)(ok:pY C X)(hs:(("__init__" : Str),s)∈C.fs)(u4:s.cl=some x)(hg:Gl X x)(hn:GC x=true)(h:Yc r C Γ s x es=some c):PE X (.Call (.Name x p) es [] pos) (tE X.K Γ c.o c.Γ c.js c.f):=by cases h
def jP(r:Rec)(C:Cf)(Γ:Gm)(o:Expr)(es:List Expr):List uF->Option CE
 | []=>none
 | [en]=>gS r C Γ en o es
 | en::en2::_=>(gS r C Γ en o es).bind fun c1=>(gS r C Γ en2 o es).bind fun c2=>gM c1 c2
def KN(r:Rec)(C:Cf)(Γ:Gm)(f:Expr)(es:List Expr)(pos:Pos):Option CE:=match f with
  | .Name x _=>if GN C.sc x && GC x then(match C.fs.find? fun p=>p.1 == x && p.2.cl == none with
      | some p=>bj r C Γ p.2 es
      | none=>match C.fs.find? fun p=>p.1 == ("__init__" : Str) && p.2.cl == some x with
      | some p=>Yc r C Γ p.2 x es
      | none=>(C.T.calls.find? fun e=>e.x == x && e.n == es.length).bind fun en=>if C.bl.contains x then TU r C Γ en es else none) else none
  | .Attribute o name apos=>if apos.endLine == pos.line then(match C.T.yt.find? fun e=>e.x == name && e.n == es.length with
      | some en=>(match YK C o with
        | some q=>Ya r C Γ en q.1 q.2 es
        | none=>(OV C o).bind fun i=>bp r C Γ en i es)
      | none=>match C.fs.find? fun p=>p.1 == name && p.2.cl != none with
        | some p=>(OV C o).bind fun i=>Yb r C Γ name p.2 i es
        | none=>jP r C Γ o es (C.T.meths.filter fun e=>e.x == name && e.n == es.length)) else none
  | _=>none
theorem KM(R:pk r){f:Expr}(ok:pY C X)(h:KN r C Γ f es pos=some c):PE X (.Call f es [] pos) (tE X.K Γ c.o c.Γ c.js c.f):=by
 cases f with
 | Name x p =>
  simp only[KN] at h;split at h
  ·rename_i h0;rw[A2] at h0;split at h
   ·rename_i p' hp;have e:=J5 hp;simp only[A2,beq_iff_eq] at e;have hm:=O0 hp;exact Wn R ok (s:=p'.2) ⟨by rw[<- e.1];exact hm,e.2⟩ (BG ok h0.1) h0.2 h
   ·split at h
    ·rename_i p' hp;have e:=J5 hp;simp only[A2,beq_iff_eq] at e;have hm:=O0 hp;exact Th R ok (s:=p'.2) (by rw[<- e.1];exact hm) e.2 (BG ok h0.1) h0.2 h
    replace h:=pR h;obtain⟨en,e1,h⟩:=h;split at h
    ·rename_i hb;have e:=J5 e1;simp only[A2,beq_iff_eq] at e;obtain⟨rfl,_⟩:=e;exact TR R ok (C4.mp hb) (BG ok h0.1) h0.2 h
    ·cases h
  ·cases h
 | Attribute o name apos =>
  simp only[KN] at h;split at h
  ·rename_i hl;split at h
   ·rename_i en he;have e:=J5 he;simp only[A2,beq_iff_eq] at e;obtain⟨rfl,_⟩:=e;split at h
    ·rename_i q hq;exact Te R ok hq hl h
    ·obtain⟨i,e1,h⟩:=pR h;exact Wp R ok e1 hl h
   ·split at h
    ·rename_i p' hp;have e:=J5 hp;simp only[A2,beq_iff_eq,bne_iff_ne,ne_eq] at e;obtain⟨cl,u4⟩:=Option.ne_none_iff_exists'.mp e.2;have hm:=O0 hp;obtain⟨i,e1,h⟩:=pR h;exact Tf R ok (s:=p'.2) (by rw[<- e.1];exact hm) u4 e1 hl h
    have hm:∀en∈C.T.meths.filter fun e=>e.x == name && e.n == es.length,en.x=name/\en.n=es.length:=fun en he=>by
     have:=(Q0.mp he).2;simp only[A2,beq_iff_eq] at this;exact this
    revert h hm
    generalize (C.T.meths.filter fun e=>e.x == name && e.n == es.length)=L;intro h hm
    match L,hm,h with
    | [],hm,h=>cases h
    | [en],hm,h =>
     obtain⟨rfl,e2⟩:=hm en B8;exact Lz R ok hl e2 h
    | en::en2::_,hm,h =>
     obtain⟨c1,e1,h⟩:=pR h;obtain⟨c2,e2,h⟩:=pR h;obtain⟨q1,q2⟩:=hm en B8;obtain⟨q3,q4⟩:=hm en2 (B5 _ B8);have p1:=Lz (pos:=pos) (apos:=apos) R ok hl q2 e1;have p2:=Lz (pos:=pos) (apos:=apos) R ok hl q4 e2;rw[q1] at p1;rw[q3] at p2;exact Wf p1 p2 h
  ·cases h
 | _=>cases h
def Ir(C:Cf)(x:Str):Option Nat:=if GC x then(match C.sc.names.lookup x with
 | some .local=>Bl C.N x
 | some .cell=>if C.fn x then Bl C.N x else none
 | _=>none) else none
theorem Iq(ok:pY C X)(h:Ir C x=some i):X.N[i]?=some x/\Loc X.env.scope x/\(X.fn x=true\/X.env.scope.names.lookup x=some .local):=by
 unfold Ir at h;split at h
 ·split at h
  ·rename_i e;rw[ok.N,ok.sc];exact⟨As h,.inl e,.inr e⟩
  ·rename_i e;split at h
   ·rename_i hf;rw[ok.N,ok.sc];exact⟨As h,.inr e,.inl (ok.fn x hf)⟩
   ·cases h
  ·cases h
 ·cases h
theorem Nb(ok:pY C X)(h:Ir C x=some i):PG X (.Name x pos) (CM i):=by
 obtain⟨h1,h2,h3⟩:=Iq ok h;exact Vb ok.nd h1 h2 h3
def cc(C:Cf):List Expr->Option (List Nat)
 | []=>some []
 | .Name x _::es=>(Ir C x).bind fun i=>(cc C es).bind fun J=>some (i::J)
 | _::_=>none
theorem QI{C:Cf}{X:Cx}(ok:pY C X):∀{es:List Expr} {J:List Nat},cc C es=some J->cV X es (Cw J)/\(K3 es X.env).length=J.length/\(K3 es X.env).findIdx? (·.1)=none
 | [],J,h=>by cases h;exact⟨Mq,rfl,rfl⟩
 | e::es,J,h=>by
  cases e with
  | Name x pos =>
   obtain⟨i,e1,h⟩:=pR (show(Ir C x).bind (fun i=>(cc C es).bind fun J=>some (i::J))=some J from h);obtain⟨J',e2,h⟩:=pR h;cases h;obtain⟨h1,h2,h3⟩:=QI ok e2;refine⟨Fy (Nb ok e1) h1 rfl,?_,?_⟩
   ·show(K3 es X.env).length+1=_;rw[h2];rfl
   ·show List.findIdx? (·.1) ((false,T9 (.Name x pos) X.env)::K3 es X.env)=none;rw[List.findIdx?_cons,h3];rfl
  | _=>cases h
structure CG:Type 1 where
 J:List Nat
 f:Tg
 g:W.Frag->TG
 Γ:Gm->Gm
def PV(C:Cf)(e:Expr):Option CG:=match e with
 | .Name x _=>(Ir C x).map fun i=>⟨[i],dP i,fun _=>CM i,fun Γ=>Γ.set i (some 0)⟩
 | .Tuple es _ _=>(cc C es).map fun J=>⟨J,jq J,fun K=>SA K J.length (Cw J),fun Γ=>Ql Γ J (some 0)⟩
 | _=>none
theorem MA{c:CG}(ok:pY C X)(h:PV C e=some c):PG X e (c.g X.K)/\(∀js,(∀i∈c.J,i∈js)->Pn js (c.g X.K))/\∀{K Γ},c.J.all (fun i=>decide (i < Γ.length))=true->Kb K Γ (c.Γ Γ) c.J (c.g K) c.f:=by
 cases e with
 | Name x pos =>
  cases q:Ir C x with
  | none=>simp only[PV,q] at h;cases h
  | some i =>
   simp only[PV,q] at h;cases h;exact⟨Nb ok q,fun js hj=>Ry (hj i (M7 _)),fun h=>Uh (by simpa using h)⟩
 | Tuple es k pos =>
  cases q:cc C es with
  | none=>simp only[PV,q] at h;cases h
  | some J =>
   simp only[PV,q] at h;cases h;obtain⟨h1,h2,h3⟩:=QI ok q;exact⟨PG.or (RN ok.calm h1 h2 h3) (RO ok.calm h1 h2 h3),fun js hj=>Rx (NJ (Dh J hj)) (NL (Dh J hj)),fun h=>QJ (by simpa using h)⟩
 | _=>cases h
theorem KJ{c:CG}(h:PV C e=some c):(∀K,UL (c.g K))/\(∀Γ,(c.Γ Γ).length=Γ.length)/\(∀es env,K3 (e::es) env=(false,T9 e env)::K3 es env):=by
 cases e with
 | Name x pos =>
  cases q:Ir C x with
  | none=>simp only[PV,q] at h;cases h
  | some i =>
   simp only[PV,q] at h;cases h;exact⟨fun _=>Ha,fun _=>C8 ..,fun _ _=>rfl⟩
 | Tuple es k pos =>
  cases q:cc C es with
  | none=>simp only[PV,q] at h;cases h
  | some J =>
   simp only[PV,q] at h;cases h;exact⟨fun _=>Rg (GK J),fun _=>Qk ..,fun _ _=>rfl⟩
 | _=>cases h
def lN(C:Cf)(e1 e2:Expr):Option CG:=(PV C e1).bind fun c1=>(PV C e2).bind fun c2=>some ⟨c1.J++c2.J,jo c1.f c2.f,fun K=>SA K 2 (CN (c1.g K) (CN (c2.g K) Ji)),fun Γ=>c2.Γ (c1.Γ Γ)⟩
def cG(C:Cf)(e:Expr):Option CG:=match PV C e with
 | some c=>some c
 | none=>match e with
  | .Tuple [e1,e2] _ _=>lN C e1 e2
  | _=>none
theorem KI{c:CG}(ok:pY C X)(h:cG C e=some c):PG X e (c.g X.K)/\(∀js,(∀i∈c.J,i∈js)->Pn js (c.g X.K))/\∀{K Γ},c.J.all (fun i=>decide (i < Γ.length))=true->Kb K Γ (c.Γ Γ) c.J (c.g K) c.f:=by
 unfold cG at h;split at h
 ·rename_i c' q;cases h;exact MA ok q
 ·split at h
  ·rename_i e1 e2 k pos _;obtain⟨c1,q1,h⟩:=pR h;obtain⟨c2,q2,h⟩:=pR h;cases h;obtain⟨p1,o1,t1⟩:=MA ok q1;obtain⟨p2,o2,t2⟩:=MA ok q2;obtain⟨m1,l1,a1⟩:=KJ q1;obtain⟨m2,l2,a2⟩:=KJ q2;have ea:K3 [e1,e2] X.env=[(false,T9 e1 X.env),(false,T9 e2 X.env)]:=by rw[a1,a2];rfl
   have hp:cV X [e1,e2] (CN (c1.g X.K) (CN (c2.g X.K) Ji)):=Fy p1 (Fy p2 Mq (by rw[a2];rfl)) (by rw[a1];rfl);refine⟨PG.or (RN ok.calm hp (by rw[ea];rfl) (by rw[ea];rfl)) (RO ok.calm hp (by rw[ea];rfl) (by rw[ea];rfl)),fun js hj=>?_,fun{K Γ} h=>?_⟩
   ·have g:=GQ (m1 X.K) (Hb (m2 X.K) GJ) (o1 js fun i hi=>hj i (C5 _ hi)) (GQ (m2 X.K) GJ (o2 js fun i hi=>hj i (B6 _ hi)) Jh);exact Rx (NJ g) (NL g)
   ·rw[List.all_append,A2] at h;exact Ug (t1 h.1) (t2 (by rw[l1];exact h.2))
  ·cases h
def jO(r:Rec)(C:Cf)(Γ:Gm)(en:zAD)(es:List Expr):Option CI:=(r.A C Γ [] es).bind fun c=>some ⟨c.Γ,c.js,YL en.f (AQ c.as)⟩
def bc(r:Rec)(C:Cf)(Γ:Gm)(e:Expr):Option CI:=(r.E C Γ e).bind fun c=>some ⟨c.Γ,c.js,NQ c.f⟩
def QV(r:Rec)(C:Cf)(Γ:Gm)(tt:Bool)(e:Expr):Option CI:=match e with
  | .Call (.Name x _) es [] _=>(match C.T.yd.find? fun en=>en.x == x && en.n == es.length && (!en.tt || tt) with
      | some en=>if GN C.sc x && C.bl.contains x && (C.fs.find? fun p=>p.1 == x).isNone then jO r C Γ en es else none
      | none=>bc r C Γ e)
  | e=>bc r C Γ e
theorem QU(R:pk r){c:CI}(tg:Expr)(ok:pY C X)(h:QV r C Γ (Jf tg) e=some c):PI X tg e (tI X.K Γ c.Γ c.js c.f):=by
 have seq:bc r C Γ e=some c->PI X tg e (tI X.K Γ c.Γ c.js c.f):=fun h=>by
  obtain⟨c1,e1,h⟩:=pR h;cases h;exact fZ (FF (R.E ok e1))
 unfold QV at h;split at h
 ·rename_i x p es pos;split at h
  ·rename_i en he;split at h
   ·rename_i h0;simp only[A2] at h0;have e:=J5 he;simp only[A2,beq_iff_eq] at e;obtain⟨⟨rfl,hn⟩,htt⟩:=e;obtain⟨c1,e1,h⟩:=pR h;cases h;obtain⟨a1,a2,a3,a4,a5⟩:=R.A ok e1;obtain⟨rr,q1,q2⟩:=en.ok X ok.gx;exact PI.imp (q2 tg es p pos _ (fun z=>by rw[z] at htt;simpa using htt) hn.symm a4 (BG ok h0.1.1) (ok.bl _ (C4.mp h0.1.2)) a1) fun _ _ _ h=>Ul q1 a2 (a5 rfl) h
   ·cases h
  ·exact seq h
 ·exact seq h
def Fm(scope sc:K0):K0:={ scope with names:=scope.names.map fun(n,k)=>if(k == .free && sc.kind == .function && sc.names.lookup n == some .cell) then(n,.cell) else(n,k) }
def Cf.inner(C:Cf)(scope:K0):Cf:={ C with sc:=Fm scope C.sc,fn:=AO scope }
theorem pY.inner(ok:pY C X)(scope:K0)(cl:List (Str×A8))(a:A8)(s:A5)(H:Hp)(fp:List A8):pY (C.inner scope) (X.inner scope cl a s H fp) where
 N:=ok.N
 sc:=by
  show relabel scope X.env=Fm scope C.sc;unfold relabel Fm Env.kindOf;rw[ok.sc]
 nd:=ok.nd
 calm:=ok.calm
 fn:=fun _ h=>h
 room:=ok.room
 fs:=ok.fs
 cs:=ok.cs
 bl:=ok.bl
 xe:=rfl
noncomputable def Vh(N:List Str)(scope:K0):List Nat:=(C2 N.length).filter fun i=>match N[i]? with
 | some x=>(match scope.names.lookup x with | some .local=>true | some .cell=>true | _=>false)
 | none=>false
structure CC:Type 1 where
 t:CG
 c:CT
 e:CE
def MU(r:Rec)(C:Cf)(pU:Gm)(tg:CG)(ifs:List Expr)(elt:Expr):Option CC:=if tg.J.all (fun i=>decide (i < pU.length)) then(match ifs with
 | []=>some (CT.mk (tg.Γ pU) [] Di)
 | [c]=>r.T C (tg.Γ pU) c
 | _=>none).bind fun c=>(r.E C c.Γ elt).bind fun e=>some ⟨tg,c,e⟩ else none
def bK(r:Rec)(C:Cf)(tg:CG)(ifs:List Expr)(elt:Expr):Nat->Gm->Option (Gm×CC)
 | 0,_=>none
 | n+1,pU=>(MU r C pU tg ifs elt).bind fun x=>if BL pU x.c.Γ && BL pU x.e.Γ then some (pU,x) else bK r C tg ifs elt n (BW pU (BW x.c.Γ x.e.Γ))
def Hs(r:Rec)(C:Cf)(Γ:Gm)(elt:Expr)(gens:List S7)(scope:K0):Option CE:=match gens with
  | [⟨tg,iter,ifs,0⟩]=>(match iter with | .Set _ _ _=>none | _=>r.I C Γ (Jf tg) iter).bind fun s=>let jx:=Vh C.N scope;if qJ C.N C.sc scope jx then(cG (C.inner scope) tg).bind fun t=>(bK r (C.inner scope) t ifs elt 4 (Ki jx s.Γ)).bind fun p =>
      let J:=BJ p.1 (t.J++(p.2.c.js++p.2.e.js))
      if BL p.1 (Ki jx s.Γ) && t.J.all jx.contains && (J.isEmpty || ifs.isEmpty) then some ⟨1,LD jx s.Γ p.1,s.js++(t.J++(p.2.c.js++p.2.e.js)),match J,ifs with
        | [],[]=>SR s.f t.f p.2.e.f
        | [],_=>SS s.f t.f p.2.c.f p.2.e.f
        | J,_=>NR s.f t.f J p.2.e.f⟩ else none else none
  | _=>none
theorem NN{r:Rec}{C:Cf}{tg:CG}{ifs:List Expr}{elt:Expr}:∀{n:Nat} {Γ:Gm} {p:Gm×CC},bK r C tg ifs elt n Γ=some p->MU r C p.1 tg ifs elt=some p.2/\BL p.1 p.2.c.Γ=true/\BL p.1 p.2.e.Γ=true
 | 0,_,_,h=>by cases h
 | n+1,Γ,p,h=>by
  obtain⟨x,e1,h⟩:=pR (show(MU r C Γ tg ifs elt).bind _=some p from h);split at h
  ·rename_i hw;rw[A2] at hw;cases h;exact⟨e1,hw.1,hw.2⟩
  ·exact NN h
theorem aF:Yi X [] (tT X.K Γ Γ [] Di):=fun pins s σ H Q I h=>by
 obtain⟨g,m,P,r,R,k,res,e,q⟩:=h;exact wpAny_tests_nil ⟨H,I,q true m g P H e BQ.refl Step.refl r⟩
theorem Hr(R:pk r){elt:Expr}{gens:List S7}{scope:K0}{pos:Pos}(ok:pY C X)(h:Hs r C Γ elt gens scope=some c) :
    ∃t:TE,(∀σ H Q,tE X.K Γ c.o c.Γ c.js c.f σ H Q->t σ H Q)/\PE X (.ListComp elt gens scope pos) t/\∀{i x pos' r8},X.N[i]?=some x->Loc X.env.scope x->(X.fn x=true\/X.env.scope.names.lookup x=some .local)->Q4 (.ListComp elt gens scope pos) (some (.Name x pos')) r8.line X.env=pure true->PS X (.Assign [.Name x pos'] (.ListComp elt gens scope pos) r8) (JG t (CM i)):=by
  unfold Hs at h;split at h
  · rename_i tg iter ifs;obtain⟨s,e1,h⟩:=pR h;simp only at h;split at h
    · rename_i qi;obtain⟨t,e2,h⟩:=pR h;obtain⟨p,e3,h⟩:=pR h;split at h
      · rename_i hw;rw[A2,A2] at hw;obtain⟨hw,hq⟩:=hw;cases h;obtain⟨f1,f2,f3⟩:=NN e3;unfold MU at f1;split at f1
        · rename_i hj;obtain⟨ct,f1a,f1⟩:=pR f1;obtain⟨ce,f1b,f1⟩:=pR f1;have ep:p.2=⟨t,ct,ce⟩:=(C7 f1).symm;have hs:∀x,M6 iter X.env x=pure x:=fun x=>by cases iter<;>first | rfl | (cases e1)
          have hI:r.I C Γ (Jf tg) iter=some s:=by cases iter<;>first | exact e1 | (cases e1)
          have hi:=R.I tg ok hI;have yk:=fun cl a s H fp=>ok.inner scope cl a s H fp
          have hg:∀cl a s H fp,PG (X.inner scope cl a s H fp) tg (t.g X.K):=fun cl a s H fp=>(KI (yk cl a s H fp) e2).1
          have uR:∀i∈t.J,i∈Vh C.N scope:=fun i hi=>C4.mp ((E1.mp hw.2) i hi)
          have vO:Pn (Vh C.N scope) (t.g X.K):=(KI (yk [] 0 X.pz X.H₀ []) e2).2.1 _ uR;have ht:Kb X.K p.1 (t.Γ p.1) t.J (t.g X.K) t.f:=(KI (yk [] 0 X.pz X.H₀ []) e2).2.2 hj;have he:∀cl a s H fp,PE (X.inner scope cl a s H fp) elt (tE X.K ct.Γ 0 ce.Γ ce.js ce.f):=fun cl a s H fp=>FF (R.E (yk cl a s H fp) f1b)
          have vh:qJ X.N X.env.scope scope (Vh C.N scope)=true:=by rw[ok.N,ok.sc];exact qi
          rw[ep] at f2 f3 hq ⊢;simp only at f2 f3 hq ⊢;cases ifs with
          | nil =>
            cases f1a;have hc:∀cl a s H fp,Yi (X.inner scope cl a s H fp) [] (tT X.K (t.Γ p.1) (t.Γ p.1) [] Di):=fun cl a s H fp=>aF
            refine⟨_,?_,JV vh ok.calm hi hg vO hc he hs,fun{i x pos' r8} xT hx hf zB=>JT ok.nd xT hx vh ok.calm hi hg vO hc he zB hs hf⟩;intro σ H Q h;cases hJ:BJ p.1 (t.J++([]++ce.js)) with
            | nil=>rw[hJ] at h;exact Rh ht hw.1 f3 f2 uR hJ.symm h
            | cons j J=>rw[hJ] at h;exact PD ht hw.1 f3 f2 uR hJ.symm h
          | cons i1 ifs =>
            cases ifs with
            | nil =>
              have hc:∀cl a s H fp,Yi (X.inner scope cl a s H fp) [i1] (tT X.K (t.Γ p.1) ct.Γ ct.js ct.f):=fun cl a s H fp=>.one (R.T (yk cl a s H fp) f1a)
              refine⟨_,?_,JV vh ok.calm hi hg vO hc he hs,fun{i x pos' r8} xT hx hf zB=>JT ok.nd xT hx vh ok.calm hi hg vO hc he zB hs hf⟩;intro σ H Q h;cases hJ:BJ p.1 (t.J++(ct.js++ce.js)) with
              | nil=>rw[hJ] at h;exact Ri ht hw.1 f3 f2 uR hJ.symm h
              | cons j J=>rw[hJ] at hq;cases hq
            | cons _ _=>cases f1a
        · cases f1
      · cases h
    · cases h
  · cases h
theorem KL(R:pk r){elt:Expr}{gens:List S7}{scope:K0}(ok:pY C X)(h:Hs r C Γ elt gens scope=some c):PE X (.ListComp elt gens scope pos) (tE X.K Γ c.o c.Γ c.js c.f):=by
 obtain⟨t,h1,h2,_⟩:=Hr (pos:=pos) R ok h;exact PE.imp h2 h1
end R
namespace Q
open PySem L2
end Q
namespace HT
open PySem PyProof.Rows
section
variable {prog:E2} {w:F6} {A:F3} {E:A3->A5->Prop} {s:A5}
theorem Jl{α β:Type}{f g:α->Option β}:∀{l:List α},(∀a∈l,f a=g a)->l.filterMap f=l.filterMap g
 | [],_=>rfl
 | a::l,h=>by
  rw[M9,M9,h a B8,Jl fun b hb=>h b (B5 _ hb)]
theorem KY(n:Nat):J7 none none (-1) (n:Int)=((n:Int) - 1,-1):=by
 unfold J7;rfl
theorem JU(n:Nat):G2 ((n:Int) - 1) (-1) (-1)=n:=by
 unfold G2;have h1:¬((-1:Int) > 0):=by omega
 simp only[h1,if_false];have h2:(-(-1:Int))=1:=by decide
 simp only[h2,pB];split<;>omega
theorem OG(xs:Array A3):((C2 xs.size).filterMap fun(m:Nat)=>xs[((xs.size:Int) - 1+(m:Int) * (-1)).toNat]?).toArray=xs.toList.reverse.toArray:=by
 have e:(C2 xs.size).filterMap (fun(m:Nat)=>xs[((xs.size:Int) - 1+(m:Int) * (-1)).toNat]?)=((C2 xs.size).map fun k=>xs.size - 1 - k).filterMap (xs[·]?):=by
  rw[Y3];refine Jl fun m hm=>?_
  have hm:=N2.mp hm;have:((xs.size:Int) - 1+(m:Int) * (-1)).toNat=xs.size - 1 - m:=by omega
  show _=xs[xs.size - 1 - m]?;rw[this]
 rw[e,W.krv_range,List.filterMap_reverse,W.krv_all]
theorem qf{t sl:A8}{items:Array A3}{k:Tok}{Q:A3->A5->Prop}(ht:IsTup s.heap t items)(hs:s.heap.IsSliceOf sl .none .none (.int (-1) k))
    (h:Q (.ref s.heap.objs.size) { s with heap:=s.heap.push { cls:=.type "tuple", data:=.seq items.toList.reverse.toArray } })
    (rh:items.size<=sizeLine):B4 (C3 prog w) A (X2 (.ref t) (.ref sl)) Q E s:=by
  have qj:sizeOk (.seq items.toList.reverse.toArray):=by
    show items.toList.reverse.toArray.size<=sizeLine;rw[B0,S2,R8];exact rh
  obtain⟨os,uT,yG,vQ⟩:=id hs
  have zc:s.TypeIs (.ref sl) "slice" := ⟨os,uT,yG⟩
  unfold X2
  try with_reducible refine G7 ?_
  first | refine A0 (A7 ?_) | skip
  refine A0 (Z2 ht.typeIs (by decide) ?_)
  refine A0 (J3 (name:=R6 "__getitem__") ht.typeIs E4
    (K4 E4 ht.typeIs W7 ?_ (Y4 _ _)))
  show B4 _ _ (N1 (.ref t) >>= _) _ _ s;refine A0 (mV ht ?_);refine A0 (X3 zc ?_);rw[if_pos (by decide)];have ap:∀{A':F3} {Q:Int×Int×Nat->A5->Prop},Q ((items.size:Int) - 1,-1,items.size) s->B4 (C3 prog w) A' (N5 (.ref sl) (pure (items.size:Int))) Q E s:=fun{A' Q} h=>by
    unfold N5 Z1;refine A0 (A0 (F0 uT vQ (x:=.none) rfl (A0 (F0 uT vQ (x:=.none) rfl (A0 (F0 uT vQ (x:=.int (-1) k) rfl (A7 ?_)))))));refine A0 (Da (.int (-1) k) ?_);show B4 _ _ (if((-1:Int) == 0)=true then _ else _) _ _ s;rw[if_neg (by decide)];refine A0 (Y2 (A0 (Y2 (A0 (A7 ?_)))));show B4 _ _ (match J7 none none (-1) (items.size:Int) with | (lo,hi)=>pure (lo,(-1:Int),G2 lo hi (-1))) _ _ s;rw[KY];show B4 _ _ (pure (((items.size:Int) - 1),(-1:Int),G2 ((items.size:Int) - 1) (-1) (-1))) _ _ s;rw[JU];exact A7 h
  refine A0 (ap ?_);have hno:¬((((items.size:Int) - 1) == 0 && (-1:Int) == 1 && items.size == items.size)=true):=by
    intro q;rw[A2,A2] at q;exact absurd q.1.2 (by decide)
  show B4 _ _ (if(((items.size:Int) - 1) == 0 && (-1:Int) == 1 && items.size == items.size)=true then _ else _) _ _ s;rw[if_neg hno,OG]
  first
    | exact A0 (m:=G6 _) (F9 (A7 ⟨_,rfl,A7 h⟩) qj)
    | exact A0 (m:=G6 _) (F9 (A0 (A7 (A7 ⟨_,rfl,A7 h⟩))) qj)
    | exact A0 (A0 (m:=G6 _) (F9 (A7 (A7 ⟨_,rfl,A7 h⟩)) qj))
    | exact A0 (A0 (m:=G6 _) (F9 (A7 ⟨_,rfl,A7 h⟩) qj))
end
end HT
namespace L2
open PySem PySem.Spec PyProof.Rows
section
variable {X:Cx} {e st:Expr} {te ts:TE} {pos p2:Pos}
abbrev dX(K:W.Frag)(te ts:TE):TE:=fun σ H Q=>te σ H fun x H1=>ts σ H1 fun y H2=>∃a xs b,x=.ref a/\y=.int (-1)/\Kc K H2 a xs b/\∀p,H2 p=none->Q (.ref p) (upd H2 p (bif b then .tup xs.reverse else .lst xs.reverse))
theorem Vd(K:W.Frag)(he:PE X e te)(rD:PE X st ts)(hK:X.K=K:=by rfl)(zC:∀o i,∃ops,l9 (.Slice none none (some st) p2) false o i=operate ops (X2 o i):=by intro o i;exact⟨_,by with_unfolding_all rfl⟩):PE X (.Subscript e (.Slice none none (some st) p2) pos) (dX K te ts):=by
 subst hK;intro pins s σ H Q I h;refine oh (Ac (he pins s σ H _ I h) fun v s1 ⟨x,H1,I1,r1,q1⟩=>?_);refine wpAny_Slice ?_;rw[mW];refine A7 ?_;refine A7 ?_;rw[evalPart_some];refine Ac (rD pins s1 σ H1 _ I1 q1) fun vs s3 ⟨y,H3,I3,r3,q3⟩=>?_
 obtain⟨a,xs,b,rfl,rfl,hx,q⟩:=q3;cases r1;obtain⟨t,rfl⟩:=r3
 have I4:Inv X pins σ H3 { s3 with heap:=s3.heap.push { cls:=.type "slice", data:=.fields #[.none,.none,.int (-1) t] } }:=I3.kept (t':=s3.toks) fun b ob q=>A6 _ q
 show B4 (C3 X.prog X.w) X.A (Z9 e (.Slice none none (some st) p2) (.ref a) (.ref s3.heap.objs.size)) (EP X pins σ Q) X.xe { s3 with heap:=s3.heap.push { cls:=.type "slice", data:=.fields #[.none,.none,.int (-1) t] } }
 obtain⟨ops,zH⟩:=zC (.ref a) (.ref s3.heap.objs.size);cases b with
 | false =>
  obtain⟨pS,r,ht,hz⟩:=I4.list hx;have hlen:=r.length;refine oi (ops:=ops) ht.isList.typeIs Z3.lookup ?_ zH;refine a6 ht.isList (Y5 ..) .none .none (.int (-1) t) (by decide) ?_ (by rw[B0];omega);rw[W.krv_pick];rw[show pS.toArray.toList.reverse=pS.reverse by simp]
  have I5:=I4.laid (t':=s3.toks) (o:=.lst xs.reverse) (h':=(s3.heap.push { cls:=.type "slice", data:=.fields #[.none,.none,.int (-1) t] }).push { cls:=.type "list", data:=.seq pS.reverse.toArray }) (fun b ob q=>A6 _ q) (B9 _) ⟨by rw[S2];exact hz,pS.reverse,0,FW r,D1 _ rfl⟩
  exact⟨.ref _,_,I5,rfl,q _ (I4.pb.fresh (B9 _))⟩
 | true =>
  obtain⟨pS,r,ht,hz⟩:=I4.tuple hx;have hlen:=r.length;refine oi (ops:=ops) ht.typeIs E4.lookup ?_ zH;refine HT.qf ht (Y5 ..) ?_ (by rw[B0];omega);rw[show pS.toArray.toList.reverse=pS.reverse by simp]
  have I5:=I4.laid (t':=s3.toks) (o:=.tup xs.reverse) (h':=(s3.heap.push { cls:=.type "slice", data:=.fields #[.none,.none,.int (-1) t] }).push { cls:=.type "tuple", data:=.seq pS.reverse.toArray }) (fun b ob q=>A6 _ q) (B9 _) ⟨by rw[S2];exact hz,pS.reverse,FW r,Gu.new _ _⟩
  exact⟨.ref _,_,I5,rfl,q _ (I4.pb.fresh (B9 _))⟩
end
end L2
namespace Q
open PySem L2
end Q
namespace R
open PySem L2
noncomputable def aW(f:Expr)(es:List Expr):Option (List Expr):=match f,es with
 | .Name x _,[.Call (.Name y _) (a::es) [] _]=>if x == ("list" : Str) && y == ("range" : Str) then some (a::es) else none
 | _,_=>none
variable {f:Expr} {es:List Expr}
theorem OW{as:List Expr}(h:aW f es=some as):∃p a sV p2 qM,f=.Name "list" p/\as=a::sV/\es=[.Call (.Name "range" p2) (a::sV) [] qM]:=by
 unfold aW at h;split at h
 ·split at h
  ·rename_i e;rw[A2,beq_iff_eq,beq_iff_eq] at e;obtain⟨rfl,rfl⟩:=e;cases h;exact⟨_,_,_,_,_,rfl,rfl,rfl⟩
  ·cases h
 ·cases h
def kQ(r:Rec)(C:Cf)(Γ:Gm)(as:List Expr):Option CE:=none
noncomputable def ZC(f:Expr)(es:List Expr):Option (List Expr):=match f,es with
 | .Name x _,[.Call (.Name y _) (a::es) [] _]=>if x == ("tuple" : Str) && y == ("range" : Str) then some (a::es) else none
 | _,_=>none
theorem Nq{as:List Expr}(h:ZC f es=some as):∃p a sV p2 qM,f=.Name "tuple" p/\as=a::sV/\es=[.Call (.Name "range" p2) (a::sV) [] qM]:=by
 unfold ZC at h;split at h
 ·split at h
  ·rename_i e;rw[A2,beq_iff_eq,beq_iff_eq] at e;obtain⟨rfl,rfl⟩:=e;cases h;exact⟨_,_,_,_,_,rfl,rfl,rfl⟩
  ·cases h
 ·cases h
def kL(r:Rec)(C:Cf)(Γ:Gm)(as:List Expr):Option CE:=none
noncomputable def aV(f:Expr)(es:List Expr):Option Expr:=match f,es with
 | .Name x _,[.Call (.Name y _) [a] [] _]=>if x == ("list" : Str) && y == ("reversed" : Str) then some a else none
 | _,_=>none
variable {a:Expr}
theorem OU(h:aV f es=some a):∃p p2 qM,f=.Name "list" p/\es=[.Call (.Name "reversed" p2) [a] [] qM]:=by
 unfold aV at h;split at h
 ·split at h
  ·rename_i e;rw[A2,beq_iff_eq,beq_iff_eq] at e;obtain⟨rfl,rfl⟩:=e;cases h;exact⟨_,_,_,rfl,rfl⟩
  ·cases h
 ·cases h
def kP(r:Rec)(C:Cf)(Γ:Gm)(a:Expr):Option CE:=none
variable {r:Rec} {C:Cf} {X:Cx} {Γ:Gm} {p p2 qM pos:Pos}
theorem bt(R:pk r){c:CE}(ok:pY C X)(h:kP r C Γ a=some c):PE X (.Call (.Name "list" p) [.Call (.Name "reversed" p2) [a] [] qM] [] pos) (tE X.K Γ c.o c.Γ c.js c.f):=by cases h
theorem bu(R:pk r){sV:List Expr}{c:CE}(ok:pY C X)(h:kQ r C Γ (a::sV)=some c):PE X (.Call (.Name "list" p) [.Call (.Name "range" p2) (a::sV) [] qM] [] pos) (tE X.K Γ c.o c.Γ c.js c.f):=by cases h
theorem bZ(R:pk r){sV:List Expr}{c:CE}(ok:pY C X)(h:kL r C Γ (a::sV)=some c):PE X (.Call (.Name "tuple" p) [.Call (.Name "range" p2) (a::sV) [] qM] [] pos) (tE X.K Γ c.o c.Γ c.js c.f):=by cases h
noncomputable def We(n m:Str)(f:Expr)(es:List Expr):Option Expr:=match f,es with
 | .Name x _,[.Call (.Name y _) [a] [] _]=>if x == n && y == m then some a else none
 | _,_=>none
theorem Hq{n m:Str}(h:We n m f es=some a):∃p p2 qM,f=.Name n p/\es=[.Call (.Name m p2) [a] [] qM]:=by
 unfold We at h;split at h
 ·split at h
  ·rename_i e;rw[A2,beq_iff_eq,beq_iff_eq] at e;obtain⟨rfl,rfl⟩:=e;cases h;exact⟨_,_,_,rfl,rfl⟩
  ·cases h
 ·cases h
def kN(r:Rec)(C:Cf)(Γ:Gm)(a:Expr):Option CE:=none
theorem bf(R:pk r){c:CE}(ok:pY C X)(h:kN r C Γ a=some c):PE X (.Call (.Name "sorted" p) [.Call (.Name "set" p2) [a] [] qM] [] pos) (tE X.K Γ c.o c.Γ c.js c.f):=by cases h
def kR(r:Rec)(C:Cf)(Γ:Gm)(a:Expr):Option CE:=none
theorem bw(R:pk r){c:CE}(ok:pY C X)(h:kR r C Γ a=some c):PE X (.Call (.Name "list" p) [.Call (.Name "enumerate" p2) [a] [] qM] [] pos) (tE X.K Γ c.o c.Γ c.js c.f):=by cases h
noncomputable def jV(f:Expr)(es:List Expr):Bool:=match f with
 | .Name x _=>x == ("all" : Str) && (match es with | [.ListComp ..]=>true | _=>false)
 | _=>false
def gg(r:Rec)(C:Cf)(Γ:Gm)(f:Expr)(es:List Expr)(pos:Pos):Option CE:=(KN r C Γ f es pos).bind fun c=>if jV f es && !(c.Γ == Γ) then(match KN r C (bF Γ) f es pos with
 | some c'=>if c'.js.all fun i=>(Γ.getD i none).isNone then some ⟨1,Γ,c'.js,SU c'.f⟩ else some c
 | none=>some c) else some c
theorem Wz(R:pk r){c:CE}(ok:pY C X)(h:gg r C Γ f es pos=some c):PE X (.Call f es [] pos) (tE X.K Γ c.o c.Γ c.js c.f):=by
 obtain⟨c0,e0,h⟩:=pR h;have p0:=KM R ok e0;split at h
 ·split at h
  ·rename_i c' e1;split at h
   ·rename_i hj;cases h;refine PE.imp (KM R ok e1) fun _ _ _ h=>Rj (fun i o hi z=>?_) h
    have:=(E1.mp hj) i z;rw[D0,hi] at this;cases this
   ·cases h;exact p0
  ·cases h;exact p0
 ·cases h;exact p0
def MD(r:Rec)(C:Cf)(Γ:Gm)(f:Expr)(es:List Expr)(pos:Pos):Option CE:=match aW f es with
 | some as=>kQ r C Γ as
 | none=>match aV f es with
  | some a=>kP r C Γ a
  | none=>match ZC f es with
   | some as=>kL r C Γ as
   | none=>match We "sorted" "set" f es with
    | some a=>kN r C Γ a
    | none=>match We "list" "enumerate" f es with
     | some a=>kR r C Γ a
     | none=>gg r C Γ f es pos
theorem PZ(R:pk r){c:CE}(ok:pY C X)(h:MD r C Γ f es pos=some c):PE X (.Call f es [] pos) (tE X.K Γ c.o c.Γ c.js c.f):=by
 unfold MD at h;split at h
 ·rename_i as e;obtain⟨p,a,sV,p2,qM,rfl,rfl,rfl⟩:=OW e;exact bu R ok h
 ·split at h
  ·rename_i a e;obtain⟨p,p2,qM,rfl,rfl⟩:=OU e;exact bt R ok h
  ·split at h
   ·rename_i as e;obtain⟨p,a,sV,p2,qM,rfl,rfl,rfl⟩:=Nq e;exact bZ R ok h
   ·split at h
    ·rename_i a e;obtain⟨p,p2,qM,rfl,rfl⟩:=Hq e;exact bf R ok h
    ·split at h
     ·rename_i a e;obtain⟨p,p2,qM,rfl,rfl⟩:=Hq e;exact bw R ok h
     ·exact Wz R ok h
noncomputable def fT:Expr->Bool
 | .UnaryOp .USub (.Constant (.int 1) _ _) _=>true
 | _=>false
def bg(r:Rec)(C:Cf)(Γ:Gm)(a st:Expr):Option CE:=if fT st then(Hy r C Γ a st).bind fun p=>some ⟨1,p.2.Γ,jj p,Ef (two C.T.rv) (AQ [p.1.a,p.2.a])⟩ else none
theorem Wj(R:pk r){st:Expr}{c:CE}(ok:pY C X)(h:bg r C Γ a st=some c):PE X (.Subscript a (.Slice none none (some st) p2) pos) (tE X.K Γ c.o c.Γ c.js c.f):=by
 unfold bg at h;split at h
 ·rename_i hm;obtain⟨p,e1,h⟩:=pR h;cases h;obtain⟨h1,h2,h3⟩:=EJ R ok e1;unfold fT at hm;split at hm
  ·exact PE.imp (Vd X.K h1 h2 rfl (by intro o i;exact⟨_,by with_unfolding_all rfl⟩)) fun _ _ _ h=>CL (C.T.yh X ok.gx) h3 h
  ·cases hm
 ·cases h
noncomputable def Vy(f:Expr)(es:List Expr)(ks:List X4):Option (Expr×Expr):=match f,es,ks with
 | .Name x _,[a],[⟨some y,e,_⟩]=>if x == ("max" : Str) && y == ("default" : Str) then some (a,e) else none
 | _,_,_=>none
theorem OT{ks:List X4}{q:Expr×Expr}(h:Vy f es ks=some q):∃p kp,f=.Name "max" p/\es=[q.1]/\ks=[⟨some "default", q.2,kp⟩]:=by
 unfold Vy at h;split at h
 ·split at h
  ·rename_i e;rw[A2,beq_iff_eq,beq_iff_eq] at e;obtain⟨rfl,rfl⟩:=e;cases h;exact⟨_,_,rfl,rfl,rfl⟩
  ·cases h
 ·cases h
def kO(r:Rec)(C:Cf)(Γ:Gm)(a e:Expr):Option CE:=none
variable {e:Expr}
theorem bq(R:pk r){kp:Pos}{c:CE}(ok:pY C X)(h:kO r C Γ a e=some c):PE X (.Call (.Name "max" p) [a] [⟨some "default", e,kp⟩] pos) (tE X.K Γ c.o c.Γ c.js c.f):=by cases h
def Il(r:Rec)(C:Cf)(Γ:Gm)(f:Expr)(es:List Expr)(ks:List X4)(pos:Pos):Option CE:=match ks with
 | []=>MD r C Γ f es pos
 | k::ks=>match Vy f es (k::ks) with
  | some q=>kO r C Γ q.1 q.2
  | none=>none
theorem Pc(R:pk r){ks:List X4}{c:CE}(ok:pY C X)(h:Il r C Γ f es ks pos=some c):PE X (.Call f es ks pos) (tE X.K Γ c.o c.Γ c.js c.f):=by
 cases ks with
 | nil=>exact PZ R ok h
 | cons k ks =>
  cases q:Vy f es (k::ks) with
  | none=>unfold Il at h;simp only[q] at h;cases h
  | some z =>
   unfold Il at h;simp only[q] at h;obtain⟨p,kp,e1,e2,e3⟩:=OT q;rw[e1,e2,e3];exact bq R ok h
def Yd(C:Cf)(Γ:Gm)(o:Expr)(f:Str):Option CE:=none
theorem Ti{o:Expr}{f:Str}{c:CE}(ok:pY C X)(h:Yd C Γ o f=some c):PE X (.Attribute o f pos) (tE X.K Γ c.o c.Γ c.js c.f):=by cases h
def Xn(r:Rec)(C:Cf)(Γ:Gm)(e:Expr):Option CE:=match e with
 | .Constant k _ _=>Tn Γ k
 | .Name x _=>Td C Γ x
 | .BinOp a op b _=>gZ r C Γ a op b
 | .UnaryOp .USub a _=>gR r C Γ a
 | .UnaryOp .Not a _=>gQ r C Γ a
 | .Compare a [op] [b] _=>(MB r C Γ a op b).map cq
 | .Compare a [op,qX] [b,c] _=>(MC r C Γ a op b qX c).map cq
 | .BoolOp op vs pos=>QY r C Γ op vs pos
 | .IfExp c a b _=>gU r C Γ c a b
 | .Call f es ks pos=>Il r C Γ f es ks pos
 | .Tuple es _ _=>gN r C Γ es
 | .List es _=>gT r C Γ es
 | .Dict [] [] _=>some ⟨1,Γ,[],SN⟩
 | .Subscript a (.Slice lo hi none _) _=>kM r C Γ a lo hi
 | .Subscript a (.Slice none none (some st) _) _=>bg r C Γ a st
 | .Subscript a b _=>if GE b then jQ r C Γ a b else none
 | .ListComp e gens sc _=>Hs r C Γ e gens sc
 | .Attribute o f _=>Yd C Γ o f
 | _=>none
theorem QW(R:pk r){c:CE}(ok:pY C X)(h:Xn r C Γ e=some c):PE X e (tE X.K Γ c.o c.Γ c.js c.f):=by
 match e,h with
 | .Constant k j pos,h=>exact PX h
 | .Name x pos,h=>exact Tc ok h
 | .BinOp a op b pos,h=>exact Ww R ok h
 | .UnaryOp op a pos,h =>
  cases op with
  | USub=>exact Wo R ok h
  | Not =>
   obtain⟨c1,e1,h⟩:=pR (show(r.E C Γ a).bind _=some c from h);cases h;exact PE.imp (Zz (FF (R.E ok e1))) fun _ _ _ h=>ZH h
  | _=>cases h
 | .Compare a ops bs pos,h =>
  match ops,bs,h with
  | [op],[b],h =>
   cases q:MB r C Γ a op b with
   | none=>replace h:(MB r C Γ a op b).map cq=some c:=h;rw[q] at h;cases h
   | some t =>
    replace h:(MB r C Γ a op b).map cq=some c:=h;rw[q] at h;cases h;exact(NW R ok q).2 1
  | [op,qX],[b,d],h =>
   cases q:MC r C Γ a op b qX d with
   | none=>replace h:(MC r C Γ a op b qX d).map cq=some c:=h;rw[q] at h;cases h
   | some t =>
    replace h:(MC r C Γ a op b qX d).map cq=some c:=h;rw[q] at h;cases h;exact(NX R ok q).2 1
  | [],_,h=>cases h
  | [_],[],h=>cases h
  | [_],_::_::_,h=>cases h
  | [_,_],[],h=>cases h
  | [_,_],[_],h=>cases h
  | [_,_],_::_::_::_,h=>cases h
  | _::_::_::_,_,h=>cases h
 | .BoolOp op vs pos,h=>exact Nx R ok h
 | .IfExp c a b pos,h=>exact Wr R ok h
 | .Call f es ks pos,h=>exact Pc R ok h
 | .Tuple es k pos,h=>exact Wg R ok h
 | .List es pos,h=>exact Wq R ok h
 | .Dict ks vs pos,h =>
  cases ks with
  | nil =>
   cases vs with
   | nil=>cases h;exact eG
   | cons _ _=>cases h
  | cons _ _=>cases h
 | .Subscript a b pos,h =>
  have ix:GE b=true->(if GE b then jQ r C Γ a b else none)=some c->PE X (.Subscript a b pos) (tE X.K Γ c.o c.Γ c.js c.f):=fun hb h=>by
   rw[if_pos hb] at h;exact bx R ok hb h
  match b,h with
  | .Slice lo hi st p2,h =>
   cases st with
   | none=>exact ba R ok h
   | some st =>
    cases lo with
    | none =>
     cases hi with
     | none=>exact Wj R ok h
     | some _=>cases h
    | some _=>cases h
  | .NamedExpr ..,h | .BinOp ..,h | .Lambda ..,h | .Dict ..,h | .Set ..,h | .ListComp ..,h | .SetComp ..,h | .DictComp ..,h | .GeneratorExp ..,h | .Await ..,h | .Yield ..,h | .YieldFrom ..,h | .Call ..,h | .FormattedValue ..,h | .JoinedStr ..,h | .Constant ..,h | .Attribute ..,h | .Subscript ..,h | .Starred ..,h | .Name ..,h | .List ..,h | .Tuple ..,h | .UnaryOp ..,h | .BoolOp ..,h | .IfExp ..,h | .Compare ..,h=>exact ix rfl h
 | .ListComp e gens sc pos,h=>exact KL R ok h
 | .Attribute o f pos,h=>exact Ti ok h
 | .NamedExpr ..,h | .Lambda ..,h | .Set ..,h | .SetComp ..,h | .DictComp ..,h | .GeneratorExp ..,h | .Await ..,h | .Yield ..,h | .YieldFrom ..,h | .FormattedValue ..,h | .JoinedStr ..,h | .Starred ..,h | .Slice ..,h=>cases h
noncomputable def ON:Expr->Bool
 | .ListComp ..=>false
 | .SetComp ..=>false
 | .DictComp ..=>false
 | _=>true
variable {env:Env}
theorem FZ{t:Option Expr}{l:Nat}(h:ON e=true):Q4 e t l env=pure false:=by
 cases e<;>first | rfl | (cases h)
theorem QB{K:W.Frag}{Γ' ph:Gm}{js:List Nat}{o:Nat}{f:Ev Dv}{σ:St}{H:Hp}{Q:VK}(hw:BL ph Γ'=true)(h:tE K Γ o ph js f σ H Q):tE K Γ o Γ' js f σ H Q:=by
 obtain⟨g,m,P,r,R,k,res,e,q⟩:=h;refine⟨g,m,P,r,R,k,res,e,fun b m' g' P' Pv v H' hk ag s rv r1 n=>?_⟩;obtain⟨g2,P2,s2,r2⟩:=r1.weaken hw;have nn:BY Pv P':=fun a q z=>n a z q
 refine q b m' g2 P2 Pv v H' hk ag (s.trans ((s2.frame (R:=Pv)).sub (fun _ z=>z) fun _ z=>z)) (rv.held s2 r1.pZ nn) r2 fun a q z=>s2.out rv.pZ nn a z q
def Qh(Γ:Gm):CS:=⟨some Γ,[],GV,false,false,false⟩
def gP(r:Rec)(C:Cf)(Γ:Gm)(e:Expr):Option CS:=(match OV C e with
 | some i=>(match Γ.getD i none with | some o=>some (CE.mk o (Γ.set i none) [] (NO i)) | none=>none)
 | none=>r.E C Γ e).bind fun c=>if BL C.F.vW c.Γ && (C.F.ro == 0 || c.o == C.F.ro) then some ⟨none,c.js,YN c.f,true,false,false⟩ else none
variable {pU:Option Gm} {c:CS}
theorem Wl(R:pk r)(ok:pY C X)(h:gP r C Γ e=some c):PS X (.Return (some e) pos) (tS X.K C.F pU Γ c.Γ c.js c.f):=by
  obtain⟨c1,e1,h⟩:=pR h;split at h
  · rename_i hw;simp only[A2,oK,beq_iff_eq] at hw;cases h;have he:PE X e (tE X.K Γ c1.o c1.Γ c1.js c1.f):=by
      split at e1
      · rename_i i hi;split at e1
        · rename_i o ho;cases e1;exact eE (CY ok hi) (BU ho)
        · cases e1
      · exact R.E ok e1
    have he2:PE X e (tE X.K Γ C.F.ro c1.Γ c1.js c1.f):=by
      rcases hw.2 with z | z
      · rw[z];exact FF he
      · rw[<- z];exact he
    exact dr (PE.imp he2 fun _ _ _ h=>QB hw.1 h)
  · cases h
def cA(r:Rec)(C:Cf)(Γ:Gm)(e:Expr):Option CS:=if ON e then(r.E C Γ e).bind fun c=>some ⟨some c.Γ,c.js,SY c.f,false,false,false⟩ else none
theorem NV(R:pk r)(ok:pY C X)(h:cA r C Γ e=some c):PS X (.Expr e pos) (tS X.K C.F pU Γ c.Γ c.js c.f):=by
 unfold cA at h;split at h
 ·rename_i hn;obtain⟨c1,e1,h⟩:=pR h;cases h;exact ZV (R.E ok e1) (FZ hn)
 ·cases h
def NU(C:Cf)(x:Str)(c:CE):Option CS:=(Ir C x).bind fun i=>if decide (i < c.Γ.length) && !C.F.io.contains i then some ⟨some (c.Γ.set i (some c.o)),c.js++[i],Hl c.f (dP i),false,false,false⟩ else none
variable {x:Str} {pos':Pos}
theorem KH{c1:CE}(ok:pY C X)(he:PE X e (tE X.K Γ c1.o c1.Γ c1.js c1.f))(hs:Q4 e (some (.Name x pos')) pos.line X.env=pure false)(h:NU C x c1=some c):PS X (.Assign [.Name x pos'] e pos) (tS X.K C.F pU Γ c.Γ c.js c.f):=by
 obtain⟨i,e1,h⟩:=pR h;split at h
 ·rename_i hw;simp only[A2,decide_eq_true_eq,L5] at hw;cases h;obtain⟨h1,h2,h3⟩:=Iq ok e1;exact dq ok.nd h1 h2 (fun z=>by rw[C4.mpr z] at hw;cases hw.2) hw.1 he hs h3
 ·cases h
def ie(sc:K0)(x:Str)(pl:Nat)(scope:K0)(vl:Nat):Bool:=(if sc.kind.isAnnotationScope then ScopeKind.function else sc.kind) == .function && sc.names.lookup x == some .local && pl == vl && !(scope.names.any fun(n,k)=>n == x && (k == .local || k == .cell))
variable {gens:List S7} {scope:K0}
theorem QQ(ok:pY C X){elt:Expr}{l:Nat}:Q4 (.ListComp elt gens scope pos) (some (.Name x pos')) l X.env=pure (ie C.sc x pos'.line scope pos.line):=by
 unfold ie;rw[<- ok.sc];rfl
theorem PY(R:pk r){elt:Expr}{pos:Pos}{c:CE}(ok:pY C X)(h:Hs r C Γ elt gens scope=some c) :
    ∃t:TE,(∀σ H Q,tE X.K Γ c.o c.Γ c.js c.f σ H Q->t σ H Q)/\∀{i x pos' r8},X.N[i]?=some x->Loc X.env.scope x->(X.fn x=true\/X.env.scope.names.lookup x=some .local)->Q4 (.ListComp elt gens scope pos) (some (.Name x pos')) r8.line X.env=pure true->PS X (.Assign [.Name x pos'] (.ListComp elt gens scope pos) r8) (JG t (CM i)):=by
  obtain⟨t,h1,_,h3⟩:=Hr (pos:=pos) R ok h;exact⟨t,h1,h3⟩
def Yf(r:Rec)(C:Cf)(Γ:Gm)(x:Str)(elt:Expr)(gens:List S7)(scope:K0):Option CS:=(Hs r C Γ elt gens scope).bind fun c=>NU C x c
theorem Tr(R:pk r){elt:Expr}{qN:Pos}(ok:pY C X)(h:Yf r C Γ x elt gens scope=some c):PS X (.Assign [.Name x pos'] (.ListComp elt gens scope qN) pos) (tS X.K C.F pU Γ c.Γ c.js c.f):=by
 obtain⟨c1,e1,h⟩:=pR h;cases hb:ie C.sc x pos'.line scope qN.line with
 | false=>exact KH ok (KL R ok e1) (by rw[QQ ok,hb]) h
 | true =>
  obtain⟨i,e2,h⟩:=pR h;split at h
  ·rename_i hw;simp only[A2,decide_eq_true_eq,L5] at hw;cases h;obtain⟨h1,h2,h3⟩:=Iq ok e2;obtain⟨t,q1,q2⟩:=PY R (pos:=qN) ok e1;refine PS.imp (q2 h1 h2 h3 (by rw[QQ ok,hb])) fun D σ H h=>q1 _ _ _ (Me hw.1 (fun z=>by rw[C4.mpr z] at hw;cases hw.2) h)
  ·cases h
noncomputable def fP:Expr->Bool
 | .Tuple ..=>false
 | _=>true
theorem Nv{tg:Expr}(h:fP e=true):S3 [tg] e env=pure none:=by
 cases tg with
 | Tuple=>cases e<;>first | rfl | cases h
 | List=>cases e<;>first | rfl | cases h
 | _=>rfl
theorem Um{tg:Expr}{l:Nat}(h:ON e=true):V7 [tg] e l env=pure false:=FZ h
def Tq(r:Rec)(C:Cf)(Γ:Gm)(es:List Expr)(k:Nat)(p:Pos)(e:Expr):Option CS:=if fP e && ON e then(r.E C Γ e).bind fun c=>(cG C (.Tuple es k p)).bind fun t=>if t.J.all (fun i=>decide (i < c.Γ.length) && !C.F.io.contains i) then some ⟨some (t.Γ c.Γ),c.js++t.J,Hl c.f t.f,false,false,false⟩ else none else none
theorem Tp(R:pk r){k:Nat}(ok:pY C X)(h:Tq r C Γ es k p e=some c):PS X (.Assign [.Tuple es k p] e pos) (tS X.K C.F pU Γ c.Γ c.js c.f):=by
 unfold Tq at h;split at h
 ·rename_i hn;rw[A2] at hn;obtain⟨c1,e1,h⟩:=pR h;obtain⟨t,e2,h⟩:=pR h;split at h
  ·rename_i hw;cases h;obtain⟨g1,_,g3⟩:=KI ok e2;rw[E1] at hw;refine dz (FF (R.E ok e1)) g1 (g3 (by rw[E1];exact fun i hi=>(M5.mp (hw i hi)).1)) (fun i hi z=>?_) (Um hn.2) (Nv hn.1) rfl;have:=(M5.mp (hw i z)).2;rw[C4.mpr hi] at this;cases this
  ·cases h
 ·cases h
def gA(i j:Nat)(fa:Ev (List Dv)):Es:=fun R m k=>fa R m fun ds m1=>match ds with | [a,b]=>k.nx ((m1.set i a).set j b) | _=>none
def aH(sc:K0)(x y:Str)(px py:Pos)(a b:Expr):Bool:=(match sc.kind with | .function=>true | _=>false) && (match sc.names.lookup x with | some .local=>true | _=>false) && (match sc.names.lookup y with | some .local=>true | _=>false) && !(x == y) && (py.line == px.line) && noStar a && noStar b && !(foldedForSure 8 a && foldedForSure 8 b) && !(constantsAlone 8 a && constantsAlone 8 b)
theorem aG{y:Str}{px py pt pt2:Pos}{kt k2:Nat}{b:Expr}(h:aH env.scope x y px py a b=true):S3 [.Tuple [.Name x px,.Name y py] kt pt] (.Tuple [a,b] k2 pt2) env=pure (some [x,y])/\env.scope.names.lookup x=some .local/\env.scope.names.lookup y=some .local:=by
 unfold aH at h;simp only[A2,L5] at h;obtain⟨⟨⟨⟨⟨⟨⟨⟨h1,h2⟩,h3⟩,h4⟩,h5⟩,h6⟩,h7⟩,h8⟩,h9⟩:=h;have k1:env.scope.kind=.function:=by split at h1;(assumption);(cases h1)
 have k2:env.scope.names.lookup x=some .local:=by split at h2;(assumption);(cases h2)
 have k3:env.scope.names.lookup y=some .local:=by split at h3;(assumption);(cases h3)
 refine⟨?_,k2,k3⟩;have kx:env.kindOf x=some .local:=k2;have ky:env.kindOf y=some .local:=k3;have yx:(y == x)=false:=by
  cases q:y == x with
  | false=>rfl
  | true=>rw[beq_iff_eq.mp q,beq_self_eq_true] at h4;cases h4
 unfold S3;simp[Env.blockKind,k1,ScopeKind.isAnnotationScope,kx,ky,beq_iff_eq.mp h5,h8,h9,List.eraseDups_cons,yx,h4,Expr.pos];rintro(z | z)
 ·cases a<;>first | (cases z;done) | (cases h6;done)
 ·cases b<;>first | (cases z;done) | (cases h7;done)
def bh(r:Rec)(C:Cf)(Γ:Gm)(x y:Str)(px py:Pos)(a b:Expr):Option CS:=if aH C.sc x y px py a b then(r.A C Γ [] [a,b]).bind fun c=>(Bl C.N x).bind fun i=>(Bl C.N y).bind fun j=>if decide (i < c.Γ.length) && decide (j < c.Γ.length) && !(i == j) && !C.F.io.contains i && !C.F.io.contains j then some ⟨some ((c.Γ.set i (some 0)).set j (some 0)),c.js++([i]++[j]),gA i j (AQ c.as),false,false,false⟩ else none else none
theorem Wm(R:pk r){y:Str}{px py pt pt2:Pos}{kt k2:Nat}{b:Expr}(ok:pY C X)(h:bh r C Γ x y px py a b=some c):PS X (.Assign [.Tuple [.Name x px,.Name y py] kt pt] (.Tuple [a,b] k2 pt2) pos) (tS X.K C.F pU Γ c.Γ c.js c.f):=by
 unfold bh at h;split at h
 ·rename_i hp;obtain⟨c1,e1,h⟩:=pR h;obtain⟨i,e2,h⟩:=pR h;obtain⟨j,e3,h⟩:=pR h;split at h
  ·rename_i hw;simp only[A2,decide_eq_true_eq,L5,beq_eq_false_iff_ne] at hw;obtain⟨⟨⟨⟨w1,w2⟩,w3⟩,w4⟩,w5⟩:=hw;cases h;obtain⟨a1,a2,a3,a4,a5⟩:=R.A ok e1;rw[<- ok.sc] at hp;obtain⟨p1,p2,p3⟩:=aG (pt:=pt) (pt2:=pt2) (kt:=kt) (k2:=k2) hp;refine PS.imp (Zj ok.calm ok.nd (by rw[ok.N];exact As e2) (by rw[ok.N];exact As e3) w3 p2 p3 a1 p1 rfl) fun D σ H h=>?_
   obtain⟨g,m,P,r',R',k,res,e,q⟩:=h;refine AK c1.as r' a2 e fun ds m1 g1 P1 vs H1 hk ag s ar r1=>?_
   have rp:=ar.sY (a5 rfl)
   match ds,hk,rp with
   | [d1,d2],hk,rp =>
    obtain⟨v1,us,rfl,h1,rp⟩:=Bm rp;obtain⟨v2,us2,rfl,h2,rp⟩:=Bm rp;cases CK rp;obtain⟨P2,r2,s2⟩:=r1.qt w1 h1 fun _ z=>z.elim
    obtain⟨P3,r3,s3⟩:=r2.qt (by rw[C8];exact w2) h2 fun _ z=>z.elim
    refine⟨v1,v2,rfl,q.nx _ _ g1 P3 _ H1 rfl hk (ag.trans (BQ.set.trans BQ.set)) (s.less fun a z=>(s3 a z).elim (fun z=>(s2 a z).elim id D2) D2) ((Io.set ?_).trans (Io.set ?_)) r3⟩
    ·exact fun z=>by rw[C4.mpr z] at w4;cases w4
    ·exact fun z=>by rw[C4.mpr z] at w5;cases w5
   | [],hk,_=>cases hk
   | [_],hk,_=>cases hk
   | _::_::_::_,hk,_=>cases hk
  ·cases h
 ·cases h
def TL(r:Rec)(C:Cf)(Γ:Gm)(x k e:Expr):Option CS:=if GE k then(OV C x).bind fun i=>(r.E C Γ e).bind fun c=>(UB r C c.Γ k).bind fun a=>if(c.Γ.getD i none).isSome && a.Γ.getD i none == some 1 then some ⟨some a.Γ,c.js++((a.js++[])++[i]),YM i C.T.st c.f (AQ [a.a]),false,false,false⟩ else none else none
variable {k:Expr} {q8:Pos}
theorem Nu{x:Expr}(hk:GE k=true):∀v,T9 (.Subscript x k q8) X.env v=(do
      let ov <- i9 [v] (M3 x X.env)
      let iv <- i9 [v,ov] (M3 k X.env)
      o9 q8
      i9 [v,ov,iv] (setItem ov iv v)
      release [v,ov,iv] []):=fun v=>by
  cases k<;>first | rfl | (cases hk)
theorem Qe{x:Expr}{l:Nat}:V7 [.Subscript x k p] e l env=pure false:=by cases e<;>rfl
theorem TK(R:pk r){x:Expr}(ok:pY C X)(h:TL r C Γ x k e=some c):PS X (.Assign [.Subscript x k q8] e pos) (tS X.K C.F pU Γ c.Γ c.js c.f):=by
 unfold TL at h;split at h
 ·rename_i hn;obtain⟨i,e0,h⟩:=pR h;obtain⟨c1,e1,h⟩:=pR h;obtain⟨a,e2,h⟩:=pR h;split at h
  ·rename_i hw;rw[A2] at hw;cases h;obtain⟨a1,a2⟩:=Iu R ok e2;obtain⟨T,t1,t2⟩:=C.T.yX X ok.gx;refine PS.imp (RG (FF (R.E ok e1)) (Zu (CY ok e0) a1 t1 (Nu hn)) Qe ?_ rfl) fun D σ H h=>Qi t2 a2 (getD_some hw.1) (BU (beq_iff_eq.mp hw.2)) h
   cases e<;>rfl
  ·cases h
 ·cases h
def YV(r:Rec)(C:Cf)(Γ:Gm)(q:Nat×Str)(k e:Expr):Option CS:=none
theorem TM(R:pk r){x:Expr}{q:Nat×Str}(ok:pY C X)(hq:YK C x=some q)(h:YV r C Γ q k e=some c):PS X (.Assign [.Subscript x k q8] e pos) (tS X.K C.F pU Γ c.Γ c.js c.f):=by cases h
def TQ(r:Rec)(C:Cf)(Γ:Gm)(x k e:Expr):Option CS:=match YK C x with
 | some q=>YV r C Γ q k e
 | none=>TL r C Γ x k e
theorem TN(R:pk r){x:Expr}(ok:pY C X)(h:TQ r C Γ x k e=some c):PS X (.Assign [.Subscript x k q8] e pos) (tS X.K C.F pU Γ c.Γ c.js c.f):=by
 unfold TQ at h;split at h
 ·rename_i q hq;exact TM R ok hq h
 ·exact TK R ok h
def Ye(r:Rec)(C:Cf)(Γ:Gm)(o:Expr)(f:Str)(e:Expr):Option CS:=none
theorem Tj(R:pk r){o:Expr}{f:Str}(ok:pY C X)(h:Ye r C Γ o f e=some c):PS X (.Assign [.Attribute o f q8] e pos) (tS X.K C.F pU Γ c.Γ c.js c.f):=by cases h
def YF:Option Gm->Option Gm->Option Gm
 | some a,some b=>some (BW a b)
 | none,b=>b
 | a,none=>a
def kS(r:Rec)(C:Cf)(pU:Option Gm)(Γ:Gm)(c:Expr)(a b:List G0):Option CS:=(r.T C Γ c).bind fun t=>(r.Ss C pU t.Γ a).bind fun x=>(r.Ss C pU t.Γ b).bind fun y=>let Γn:=YF x.Γ y.Γ;let js:=t.js++(x.js++y.js);if Hf Γn x.Γ && Hf Γn y.Γ then some ⟨Γn,js,match x.Γ,y.Γ,Γn with
      | some _,some _,some Γ'=>if x.er || x.eb || x.ec || y.er || y.eb || y.ec then Jq t.f x.f y.f else gB (BJ Γ' js) (Jq t.f x.f y.f)
      | _,_,_=>Jq t.f x.f y.f,x.er || y.er,x.eb || y.eb,x.ec || y.ec⟩ else none
theorem bz(R:pk r){t:Expr}{a b:List G0}(ok:pY C X)(h:kS r C pU Γ t a b=some c):PS X (.If t a b pos) (tS X.K C.F pU Γ c.Γ c.js c.f):=by
 obtain⟨ct,e1,h⟩:=pR h;obtain⟨x,e2,h⟩:=pR h;obtain⟨y,e3,h⟩:=pR h;simp only at h;split at h
 ·rename_i hw;rw[A2] at hw;have base:PS X (.If t a b pos) (tS X.K C.F pU Γ (YF x.Γ y.Γ) (ct.js++(x.js++y.js)) (Jq ct.f x.f y.f)):=ik (R.T ok e1) (LB (R.Ss ok e2) hw.1) (LB (R.Ss ok e3) hw.2);cases h;split
  ·rename_i Γ' _ _ hj;split
   ·exact base
   ·simp only[hj] at base ⊢;exact PS.imp base fun D σ H h=>ah (fun i o z=>BS z) (fun i z=>Az z) h
  ·exact base
 ·cases h
def gb(r:Rec)(C:Cf)(Γ:Gm)(x:Str)(op:l5)(e:Expr):Option CS:=none
theorem Wy(R:pk r){op:l5}(ok:pY C X)(h:gb r C Γ x op e=some c):PS X (.AugAssign (.Name x pos') op e pos) (tS X.K C.F pU Γ c.Γ c.js c.f):=by cases h
def SJ(r:Rec)(C:Cf)(pre:Gm->Gm)(body:List G0):Nat->Gm->Option (Gm×CS)
 | 0,_=>none
 | n+1,Γ=>match r.Ss C (some Γ) (pre Γ) body with
  | some x=>if Hf (some Γ) x.Γ then some (Γ,x) else SJ r C pre body n (match x.Γ with | some Γ'=>BW Γ Γ' | none=>Γ)
  | none=>SJ r C pre body n (Γ.map fun o=>o.map fun _=>0)
theorem IY{r:Rec}{C:Cf}{pre:Gm->Gm}{body:List G0}:∀{n:Nat} {Γ:Gm} {p:Gm×CS},SJ r C pre body n Γ=some p->r.Ss C (some p.1) (pre p.1) body=some p.2/\Hf (some p.1) p.2.Γ=true
 | 0,_,_,h=>by cases h
 | n+1,Γ,p,h=>by
  unfold SJ at h;split at h
  ·rename_i x hx;split at h
   ·rename_i hw;cases h;exact⟨hx,hw⟩
   ·exact IY h
  ·exact IY h
def gV(r:Rec)(C:Cf)(Γ:Gm)(tg iter:Expr)(body:List G0):Option CS:=(match iter with | .Set _ _ _=>none | _=>r.I C Γ (Jf tg) iter).bind fun s=>(cG C tg).bind fun t=>if t.J.all (fun i=>decide (i < s.Γ.length) && !C.F.io.contains i) then(SJ r C t.Γ body 4 s.Γ).bind fun p=>if BL p.1 s.Γ then
    let jb:=t.J++p.2.js
    some ⟨some p.1,s.js++jb,if p.2.er || p.2.eb then SW s.f t.f (BJ p.1 jb) (BJ C.F.vW jb) p.2.f else SX s.f t.f (BJ p.1 jb) p.2.f,p.2.er,false,false⟩ else none else none
theorem Ws(R:pk r){tg iter:Expr}{body:List G0}(ok:pY C X)(h:gV r C Γ tg iter body=some c):PS X (.For tg iter body [] pos) (tS X.K C.F pU Γ c.Γ c.js c.f):=by
 obtain⟨s,e1,h⟩:=pR h;obtain⟨t,e2,h⟩:=pR h;split at h
 ·rename_i hj;obtain⟨p,e3,h⟩:=pR h;split at h
  ·rename_i hw;have hs:∀x,M6 iter X.env x=pure x:=fun x=>by cases iter<;>first | rfl | (cases e1)
   have hI:r.I C Γ (Jf tg) iter=some s:=by cases iter<;>first | exact e1 | (cases e1)
   obtain⟨f1,f2⟩:=IY e3;obtain⟨g1,_,g3⟩:=KI ok e2;rw[E1] at hj;have hJ:t.J.all (fun i=>decide (i < p.1.length))=true:=by
    rw[E1];intro i hi;rw[DN hw];exact(M5.mp (hj i hi)).1
   have qk:∀i∈C.F.io,i∉t.J:=fun i hi z=>by
    have:=(M5.mp (hj i z)).2;rw[C4.mpr hi] at this;cases this
   have hi:PI X tg iter (tI X.K Γ p.1 s.js s.f):=PI.imp (R.I tg ok hI) fun _ _ _ h=>Ua hw h
   have hp:g7 (C3 X.prog X.w) X.A X.env X.xe:=by rw[ok.xe];exact PassesOwn.never
   have hb:=R.Ss ok f1;simp only at h;cases h;split
   ·exact ZT hp ok.calm hi g1 (g3 hJ) qk hb f2 rfl rfl hs
   ·exact ZU hp ok.calm hi g1 (g3 hJ) qk hb f2 rfl hs
  ·cases h
 ·cases h
noncomputable def lV:Nat:=1000000
def iM(r:Rec)(C:Cf)(Γ:Gm)(c:Expr)(body:List G0):Option CS:=none
where
 fixW (r:Rec) (C:Cf) (c:Expr) (body:List G0):Nat->Gm->Option (Gm×CT×CS)
 | 0,_=>none
 | n+1,Γ=>(r.T C Γ c).bind fun t=>if t.js.isEmpty && BL Γ t.Γ then(match r.Ss C (some Γ) Γ body with
  | some x=>if Hf (some Γ) x.Γ then some (Γ,t,x) else fixW r C c body n (match x.Γ with | some Γ'=>BW Γ Γ' | none=>Γ)
  | none=>fixW r C c body n (Γ.map fun o=>o.map fun _=>0)) else fixW r C c body n (BW Γ t.Γ)
theorem IX{r:Rec}{C:Cf}{c:Expr}{body:List G0}:∀{n:Nat} {Γ:Gm} {p:Gm×CT×CS},iM.fixW r C c body n Γ=some p->r.T C p.1 c=some p.2.1/\p.2.1.js=[]/\BL p.1 p.2.1.Γ=true/\r.Ss C (some p.1) p.1 body=some p.2.2/\Hf (some p.1) p.2.2.Γ=true
 | 0,_,_,h=>by cases h
 | n+1,Γ,p,h=>by
  unfold iM.fixW at h;obtain⟨t,e1,h⟩:=pR h;split at h
  ·rename_i hw;rw[A2] at hw;split at h
   ·rename_i x hx;split at h
    ·rename_i hl;cases h;exact⟨e1,i7.mp hw.1,hw.2,hx,hl⟩
    ·exact IX h
   ·exact IX h
  ·exact IX h
theorem du{F:Fr}{Γn:Option Gm}{Γ':Gm}{js:List Nat}{s:G0}{f:Es}(hw:BL Γ' Γ=true)(h:PS X s (tS X.K F pU Γ' Γn js f)):PS X s (tS X.K F pU Γ Γn js f):=PS.imp h fun D σ H h=>by
 obtain⟨g,m,P,r,R,k,res,e,q⟩:=h;obtain⟨g2,P2,s2,r2⟩:=r.weaken hw;exact⟨g2,m,P2,r2,R,k,res,e,⟨fun Γ' m' g' P' σ' H' e hk a s'=>q.nx Γ' m' g' P' σ' H' e hk a (s2.trans s'),fun d m' g' P' Pv σ' v H' hk a s'=>q.rt d m' g' P' Pv σ' v H' hk a (s2.trans s'),fun Γ' m' g' P' σ' H' e hk a s'=>q.bk Γ' m' g' P' σ' H' e hk a (s2.trans s'),fun Γ' m' g' P' σ' H' e hk a s'=>q.ct Γ' m' g' P' σ' H' e hk a (s2.trans s')⟩⟩
theorem bX(R:pk r){t:Expr}{body:List G0}(ok:pY C X)(h:iM r C Γ t body=some c):PS X (.While t body [] pos) (tS X.K C.F pU Γ c.Γ c.js c.f):=by cases h
def bL:Es:=fun _ _ _=>none
def gY(pU:Option Gm)(Γ:Gm):Option CS:=none
def gW(pU:Option Gm)(Γ:Gm):Option CS:=none
theorem Wv(h:gY pU Γ=some c):PS X (.Break pos) (tS X.K C.F pU Γ c.Γ c.js c.f):=by cases h
theorem Wt(h:gW pU Γ=some c):PS X (.Continue pos) (tS X.K C.F pU Γ c.Γ c.js c.f):=by cases h
noncomputable def Xz(es:List Expr)(e:Expr):Option (Str×Pos×Str×Pos×Expr×Expr):=match es with
 | [.Name x px,.Name y py]=>match e with
  | .Tuple [a,b] _ _=>some (x,px,y,py,a,b)
  | _=>none
 | _=>none
noncomputable def QP(es:List Expr):Option (Expr×Expr×Expr×Expr):=match es with
 | [.Subscript x k _,.Subscript y j _]=>some (x,k,y,j)
 | _=>none
theorem Ku{t:Expr×Expr×Expr×Expr}(h:QP es=some t):∃p q,es=[.Subscript t.1 t.2.1 p,.Subscript t.2.2.1 t.2.2.2 q]:=by
 unfold QP at h;split at h
 ·cases h;exact⟨_,_,rfl⟩
 ·cases h
def gO(r:Rec)(C:Cf)(Γ:Gm)(x k y j e:Expr):Option CS:=none
theorem Wi(R:pk r){x y j:Expr}{q pt:Pos}{kt:Nat}(ok:pY C X)(h:gO r C Γ x k y j e=some c):PS X (.Assign [.Tuple [.Subscript x k p,.Subscript y j q] kt pt] e pos) (tS X.K C.F pU Γ c.Γ c.js c.f):=by cases h
def TF(r:Rec)(C:Cf)(Γ:Gm)(es:List Expr)(k:Nat)(p:Pos)(e:Expr):Option CS:=match Xz es e with
 | some t=>bh r C Γ t.1 t.2.2.1 t.2.1 t.2.2.2.1 t.2.2.2.2.1 t.2.2.2.2.2
 | none=>match QP es with
  | some t=>gO r C Γ t.1 t.2.1 t.2.2.1 t.2.2.2 e
  | none=>Tq r C Γ es k p e
theorem TC(R:pk r){k:Nat}(ok:pY C X)(h:TF r C Γ es k p e=some c):PS X (.Assign [.Tuple es k p] e pos) (tS X.K C.F pU Γ c.Γ c.js c.f):=by
 unfold TF at h;split at h
 ·rename_i t q;unfold Xz at q;split at q
  ·split at q
   ·cases q;exact Wm R ok h
   ·cases q
  ·cases q
 ·split at h
  ·rename_i t q;obtain⟨p1,p2,rfl⟩:=Ku q;exact Wi R ok h
  ·exact Tp R ok h
theorem XJ(R:pk r)(ok:pY C X)(h:(if ON e then(r.E C Γ e).bind fun c=>NU C x c else none)=some c):PS X (.Assign [.Name x p] e pos) (tS X.K C.F pU Γ c.Γ c.js c.f):=by
 split at h
 ·rename_i hn;obtain⟨c1,e1,h⟩:=pR h;exact KH ok (R.E ok e1) (FZ hn) h
 ·cases h
def Xm(r:Rec)(C:Cf)(pU:Option Gm)(Γ:Gm)(s:G0):Option CS:=match s with
 | .Pass _=>some (Qh Γ)
 | .Expr (.Constant (.str _) _ _) _=>some (Qh Γ)
 | .Expr e _=>cA r C Γ e
 | .Return (some e) _=>gP r C Γ e
 | .Assign [.Name x _] (.ListComp elt gens scope _) _=>Yf r C Γ x elt gens scope
 | .Assign [.Name x _] e _=>if ON e then(r.E C Γ e).bind fun c=>NU C x c else none
 | .Assign [.Tuple es k p] e _=>TF r C Γ es k p e
 | .Assign [.Subscript x k _] e _=>TQ r C Γ x k e
 | .Assign [.Attribute o f _] e _=>Ye r C Γ o f e
 | .AugAssign (.Name x _) op e _=>gb r C Γ x op e
 | .If c a b _=>kS r C pU Γ c a b
 | .For tg iter body [] _=>gV r C Γ tg iter body
 | .While c body [] _=>iM r C Γ c body
 | .Break _=>gY pU Γ
 | .Continue _=>gW pU Γ
 | .Raise _ _ _=>some ⟨none,[],bL,false,false,false⟩
 | _=>none
theorem QT(R:pk r){s:G0}(ok:pY C X)(h:Xm r C pU Γ s=some c):PS X s (tS X.K C.F pU Γ c.Γ c.js c.f):=by
 cases s with
 | Pass _=>cases h;exact ZR
 | Expr e _ =>
  cases e with
  | Constant k _ _ =>
   cases k with
   | str _=>cases h;exact dy
   | _=>exact NV R ok h
  | _=>exact NV R ok h
 | Return v _ =>
  cases v with
  | none=>cases h
  | some e=>exact Wl R ok h
 | Assign ts e _ =>
  match ts,h with
  | [],h=>cases h
  | t::_::_,h=>cases t<;>cases h
  | [t],h =>
   cases t with
   | Name x _ =>
    cases e with
    | ListComp elt gens scope _=>exact Tr R ok h
    | _=>exact XJ R ok h
   | Tuple es k p=>exact TC R ok h
   | Subscript x k _=>exact TN R ok h
   | Attribute o f _=>exact Tj R ok h
   | _=>cases h
 | AugAssign t op e _ =>
  cases t with
  | Name x _=>exact Wy R ok h
  | _=>cases h
 | If c a b _=>exact bz R ok h
 | For tg iter body o _ =>
  cases o with
  | nil=>exact Ws R ok h
  | cons _ _=>cases h
 | While c body o _ =>
  cases o with
  | nil=>exact bX R ok h
  | cons _ _=>cases h
 | Break _=>exact Wv h
 | Continue _=>exact Wt h
 | Raise _ _ _ =>
  cases h;intro pins s σ H D I q;obtain⟨g,m,P,r,R,k,res,e,q⟩:=q;cases e
 | _=>cases h
def QS(r:Rec)(C:Cf)(pU:Option Gm)(Γ:Gm)(ss:List G0):Option CS:=match ss with
 | []=>some (Qh Γ)
 | [s]=>r.S C pU Γ s
 | s::ss=>(r.S C pU Γ s).bind fun x=>match x.Γ with
  | none=>some x
  | some Γ'=>(r.Ss C pU Γ' ss).bind fun y=>some ⟨y.Γ,x.js++y.js,WT x.f y.f,x.er || y.er,x.eb || y.eb,x.ec || y.ec⟩
theorem Nw(R:pk r){ss:List G0}(ok:pY C X)(h:QS r C pU Γ ss=some c):CP X ss (tS X.K C.F pU Γ c.Γ c.js c.f):=by
 match ss,h with
 | [],h=>cases h;exact dw
 | [s],h=>exact dv (R.S ok h)
 | s::s2::ss,h =>
  obtain⟨x,e1,h⟩:=pR (show(r.S C pU Γ s).bind _=some c from h);have h1:=R.S ok e1;cases hx:x.Γ with
  | none =>
   simp only[hx] at h;cases h;rw[hx] at h1 ⊢;exact ZS h1
  | some Γ' =>
   simp only[hx] at h;obtain⟨y,e2,h⟩:=pR h;cases h;rw[hx] at h1;exact LC (f:=x.f) (f2:=y.f) (js:=x.js) (js2:=y.js) h1 (R.Ss ok e2)
def step(r:Rec):Rec:=⟨Xn r,JI r,Xl r,QV r,Xm r,QS r⟩
def Wb:Nat->Rec
 | 0=>⟨fun _ _ _=>none,fun _ _ _ _=>none,fun _ _ _=>none,fun _ _ _ _=>none,fun _ _ _ _=>none,fun _ _ _ _=>none⟩
 | n+1=>step (Wb n)
theorem DQ:∀n,pk (Wb n)
 | 0=>⟨(fun _ h=>by cases h),(fun _ h=>by cases h),(fun _ h=>by cases h),(fun _ _ h=>by cases h),(fun _ h=>by cases h),(fun _ h=>by cases h),fun _ h=>by cases h⟩
 | n+1=>have R:=DQ n;⟨fun ok h=>QW R ok h,fun ok h=>QZ R ok h,fun ok h=>QR R ok h,fun tg ok h=>QU R tg ok h,fun ok h=>QT R ok h,fun ok h=>Nw R ok h,fun ok h _ _ h0 hn=>Ny R ok h h0 hn⟩
noncomputable def fG(sc:K0):List Str:=sc.names.filterMap fun p=>match p.2 with | .local=>some p.1 | .cell=>some p.1 | _=>none
mutual
noncomputable def Aa:Expr->List Str
 | .ListComp e gs sc _=>fG sc++Aa e++Rc gs
 | .BoolOp _ vs _=>BR vs
 | .BinOp a _ b _=>Aa a++Aa b
 | .UnaryOp _ a _=>Aa a
 | .IfExp a b c _=>Aa a++Aa b++Aa c
 | .Compare a _ bs _=>Aa a++BR bs
 | .Call f es _ _=>Aa f++BR es
 | .Attribute a _ _=>Aa a
 | .Subscript a b _=>Aa a++Aa b
 | .Slice a b c _=>GI a++GI b++GI c
 | .List es _=>BR es
 | .Tuple es _ _=>BR es
 | .Dict _ vs _=>BR vs
 | .JoinedStr vs _=>BR vs
 | .FormattedValue v _ _ _=>Aa v
 | _=>[]
noncomputable def BR:List Expr->List Str
 | []=>[]
 | e::es=>Aa e++BR es
noncomputable def GI:Option Expr->List Str
 | none=>[]
 | some e=>Aa e
noncomputable def Rc:List S7->List Str
 | []=>[]
 | ⟨_,it,ifs,_⟩::gs=>Aa it++BR ifs++Rc gs
end
mutual
noncomputable def aS:G0->List Str
 | .Return v _=>GI v
 | .Assign ts v _=>BR ts++Aa v
 | .AugAssign t _ v _=>Aa t++Aa v
 | .Expr v _=>Aa v
 | .If c a b _=>Aa c++DM a++DM b
 | .For _ it b _ _=>Aa it++DM b
 | .While c b _ _=>Aa c++DM b
 | .Raise e _ _=>GI e
 | _=>[]
noncomputable def DM:List G0->List Str
 | []=>[]
 | s::ss=>aS s++DM ss
end
noncomputable def So:List Str->List Str->List Str
 | [],acc=>acc
 | x::xs,acc=>if acc.contains x then So xs acc else So xs (acc++[x])
def AB(st:G0):List Str:=(Am st).args.map (·.arg)
def AH(st:G0):List Str:=So (AB st++fG (AC st)++DM (AJ st)) []
noncomputable def hd:(io:List Nat)->Jn Dv io->Dv
 | [],t=>t
 | _::_,t=>t.1
noncomputable def Mw:(J:List Nat)->EN J->List Dv
 | [],_=>[]
 | [_],d=>[d]
 | _::j::J,t=>t.1::Mw (j::J) t.2
def tl:(io:List Nat)->Jn Dv io->List Dv
 | [],_=>[]
 | i::io,t=>Mw (i::io) t.2
theorem He:∀(J:List Nat) (m:M),Mw J (Af J m)=J.map m.at
 | [],_=>rfl
 | [_],_=>rfl
 | i::j::J,m=>by
  show m.at i::Mw (j::J) (Af (j::J) m)=_;rw[He (j::J) m];rfl
theorem NI(io:List Nat)(d:Dv)(m:M):hd io (UO io d m)=d:=by cases io<;>rfl
theorem MW(io:List Nat)(d:Dv)(m:M):tl io (UO io d m)=io.map m.at:=by
 cases io with
 | nil=>rfl
 | cons i io=>exact He (i::io) m
def Ae(ps:List Str)(io:List Nat)(ro:Nat)(nb:Bool)(F:List Dv->Option (Jn Dv io))(cl:Option Str:=none):qF where
 ps:=ps
 io:=io
 ro:=ro
 nb:=nb
 fn:=fun ds=>(F ds).bind fun t=>some (hd io t,tl io t)
 cps:=fun R ds k=>(F ds).bind fun t=>k (hd io t) (tl io t)
 eq:=fun R ds k=>by cases F ds<;>rfl
 cl:=cl
def kJ(io:List Nat):Kt (Jn Dv io):=⟨fun m=>some (UO io .pX m),fun d m=>some (UO io d m),fun _=>none,fun _=>none⟩
structure Md:Type 1 where
 T:Tb
 cs:List (Str×Dv)
 bl:List Str
 fl:List Str
 rf:List Str
def Ek(M:Md)(fs:List (Str×qF))(st:G0)(io:List Nat)(ro:Nat):Cf:=⟨AH st,AC st,fun _=>true,fs,M.cs,M.bl,M.T,⟨io,JN (AH st).length io,ro⟩,M.fl,M.rf⟩
noncomputable def il:Rec:=⟨fun _ _ _=>none,fun _ _ _ _=>none,fun _ _ _=>none,fun _ _ _ _=>none,fun _ _ _ _=>none,fun _ _ _ _=>none⟩
def cmp(n:Nat):Rec:=Nat.rec il (fun _ r=>step r) n
theorem Ij:∀n,cmp n=Wb n
 | 0=>rfl
 | n+1=>by
  show step (cmp n)=step (Wb n);rw[Ij n]
def Uz(M:Md)(fs:List (Str×qF))(st:G0)(io:List Nat)(ro:Nat):Option CS:=(cmp 100).Ss (Ek M fs st io ro) none (Gp (AH st).length (AB st).length io) (AJ st)
def Qp(M:Md)(fs:List (Str×qF))(st:G0)(io:List Nat)(ro:Nat)(ds:List Dv):Option (Jn Dv io):=match Uz M fs st io ro with
 | some c=>c.f (Jn Dv io) (ds++E9 ((AH st).length - (AB st).length) .pX) (kJ io)
 | none=>none
noncomputable def isFn:ScopeKind->Bool
 | .function=>true
 | _=>false
noncomputable def Vs:NameKind->Bool
 | .free=>false
 | _=>true
def JM(N P:List Str)(sc:K0):Bool:=isFn sc.kind && !sc.isCoroutine && !sc.isGenerator && decide N.Nodup && (N.take P.length == P) && (P.all fun x=>match sc.names.lookup x with | some .local=>true | some .cell=>true | _=>false) && sc.names.all fun y=>Vs y.2
theorem DC{N P:List Str}{sc:K0}(h:JM N P sc=true):qT N P sc:=by
 unfold JM at h;simp only[A2,L5,decide_eq_true_eq,E1] at h;obtain⟨⟨⟨⟨⟨⟨h1,h2⟩,h3⟩,h4⟩,h5⟩,h6⟩,h7⟩:=h;refine⟨?_,h2,h3,h4,by simpa using h5,fun x hx=>?_,fun y hy z=>?_⟩
 ·cases q:sc.kind<;>first | rfl | (rw[q] at h1;cases h1)
 ·have:=h6 x hx;split at this
  ·rename_i e;exact .inl e
  ·rename_i e;exact .inr e
  ·cases this
 ·have:=h7 y hy;rw[z] at this;cases this
def Gb(M:Md)(fs:List (Str×qF))(st:G0)(io:List Nat)(ro:Nat):Bool:=JM (AH st) (AB st) (AC st) && decide io.Nodup && (io.all fun i=>decide (i < (AB st).length)) && decide ((AB st).length<=(AH st).length) && match Uz M fs st io ro with
 | some c=>Hf (some (JN (AH st).length io)) c.Γ
 | none=>false
section
variable {P:E2} {w:F6} {K:W.Frag} {mg:Str->Option A3} {base:F1}
structure Bs (M:Md) (K:W.Frag) (mg:Str->Option A3):Prop where
 cs:∀x d,(x,d)∈M.cs->∃v u,mg x=some u/\RelV v u/\∀g H,Rep K g H 0 d v pT
 bl:∀x∈M.bl,mg x=none
def Fs(P:E2)(w:F6)(K:W.Frag)(mg:Str->Option A3)(base:F1)(fl:List Str)(k:Nat)(fs:List (Str×qF)):Prop:=∀x s,(x,s)∈fs->s.io.Nodup/\(∀i∈s.io,i < s.ps.length)/\∃j,j<=k/\Fz P w K mg base fl j x s
theorem Fs.nil{fl:List Str}{k:Nat}:Fs P w K mg base fl k []:=fun _ _ h=>by cases h
theorem Fs.zw{fl:List Str}{k l:Nat}{x:Str}{s:qF}{fs:List (Str×qF)}(h:Fs P w K mg base fl k fs)(hl:k<=l)(h1:s.io.Nodup)(h2:∀i∈s.io,i < s.ps.length)(h3:Fz P w K mg base fl l x s):Fs P w K mg base fl l ((x,s)::fs):=fun y t q=>by
 rcases D6.mp q with q | q
 ·cases q;exact⟨h1,h2,l,B9 _,h3⟩
 ·obtain⟨a,b,j,hj,f⟩:=h y t q;exact⟨a,b,j,by omega,f⟩
theorem Fs.cons{fl:List Str}{k:Nat}{x:Str}{s:qF}{fs:List (Str×qF)}(h:Fs P w K mg base fl k fs)(h1:s.io.Nodup)(h2:∀i∈s.io,i < s.ps.length)(hc:s.cl=none)(h3:Fx P w K mg base (k+1) x s.ps (OA K s)):Fs P w K mg base fl (k+1) ((x,s)::fs):=h.zw (mF k) h1 h2 (by unfold Fz;rw[hc];exact h3)
theorem Lr{M:Md}{k:Nat}{fs:List (Str×qF)}{x qual:Str}{st:G0}{f:A8}{fd:K5}{io:List Nat}{ro:Nat}{nb:Bool}{cl:Option Str}{F:List Dv->Option (Jn Dv io)}(b:Bs M K mg)(h:Fs P w K mg base M.fl k fs)(c:Gb M fs st io ro=true)(hF:∀ds,ds.length=(AB st).length->Qp M fs st io ro ds=F ds)
    (Fn:uQ K x qual st f fd):qE P w K mg base FB (k+1) f fd (AB st) (OA K (Ae (AB st) io ro nb F cl)):=by
  unfold Gb at c;simp only[A2,decide_eq_true_eq,E1] at c;obtain⟨⟨⟨⟨c1,c2⟩,c3⟩,c4⟩,c5⟩:=c;cases e:Uz M fs st io ro with
  | none=>rw[e] at c5;cases c5
  | some cs =>
    rw[e] at c5;have S:=DC c1;refine YI (s:=Ae (AB st) io ro nb F cl) (N:=AH st) (body:=cs.f) (Γn:=cs.Γ) (js:=cs.js) Fn S c2 c3 c4 c5 (fun pv A outer s' H E hr=>?_) fun ds d bs hl hf=>?_
    · have ok:pY (Ek M fs st io ro) (Ca FB P w K mg base (AH st) qual (AC st) f pv A outer s' H E).rC:=⟨rfl,rfl,S.nd,rfl,fun _ _=>rfl,⟨rfl,k,hr⟩,fun y t q=>by
        obtain⟨a,b,j,hj,q⟩:=h y t q;exact⟨a,b,j,k,hj,hr,q⟩,b.cs,b.bl,rfl⟩
      unfold Uz at e;rw[Ij] at e;exact(DQ 100).Ss ok e
    · have hr:=hF ds hl;unfold Qp at hr;rw[e] at hr;obtain⟨t,e1,e2⟩:=pR (show(F ds).bind _=some (d,bs) from hf);cases e2;refine⟨_,kJ io,t,hr.trans e1,fun m z=>?_,fun d' m z=>?_⟩
      · have z:some (UO io .pX m)=some t:=z;cases z;exact⟨NI io _ m,MW io _ m⟩
      · have z:some (UO io d' m)=some t:=z;cases z;exact⟨NI io _ m,MW io _ m⟩
abbrev IB(x q:Str)(st:G0):Prop:=∀(kV doc pm:A3) (an:Option A8) (pv ct:A3) (us:List A3),us.length=(AB st).length->l7 (W.fnOf x q (Am st) (AJ st) (AC st) .none kV doc pm an pv ct) ⟨us,[]⟩=pure ((AB st).zip us)
abbrev BA(x:Str)(st:G0):Prop:=IB x x st
theorem Ej{M:Md}{fs:List (Str×qF)}{st:G0}{io:List Nat}{ro:Nat}(c:Gb M fs st io ro=true):io.Nodup/\∀i∈io,i < (AB st).length:=by
 unfold Gb at c;simp only[A2,decide_eq_true_eq,E1] at c;exact⟨c.1.1.1.2,c.1.1.2⟩
theorem Fs.def{M:Md}{k:Nat}{fs:List (Str×qF)}{x:Str}{st:G0}{io:List Nat}{ro:Nat}{nb:Bool}{F:List Dv->Option (Jn Dv io)}(h:Fs P w K mg base M.fl k fs)(b:Bs M K mg)(c:Gb M fs st io ro=true)(hF:∀ds,ds.length=(AB st).length->Qp M fs st io ro ds=F ds)
    (gf:GF K x st) (hm:mg x=some (.ref (Ay K x))) (hb:BA x st):Fs P w K mg base M.fl (k+1) ((x,Ae (AB st) io ro nb F)::fs):=
  h.cons (Ej c).1 (Ej c).2 rfl ⟨_,_,Lr b h c hF (GR gf),hm,gf.2.2.2,(GR gf).binds hb⟩
theorem Fs.zh{M:Md}{k:Nat}{fs:List (Str×qF)}{x:Str}{st:G0}{io:List Nat}{ro:Nat}{nb:Bool}{F:Nat->List Dv->Option (Jn Dv io)}(h:Fs P w K mg base M.fl k fs)(b:Bs M K mg)(c0:JM (AH st) (AB st) (AC st)=true)(h0:∀ds,F 0 ds=none)(c:∀n,Gb M ((x,Ae (AB st) io ro nb (F n))::fs) st io ro=true)
    (hF:∀n ds,ds.length=(AB st).length->Qp M ((x,Ae (AB st) io ro nb (F n))::fs) st io ro ds=F (n+1) ds)
    (gf:GF K x st) (hm:mg x=some (.ref (Ay K x))) (hb:BA x st):∀n,Fs P w K mg base M.fl (k+n+1) ((x,Ae (AB st) io ro nb (F n))::fs)
  | 0=>h.cons (Ej (c 0)).1 (Ej (c 0)).2 rfl ⟨_,_,(GR gf).ok (k:=k) (DC c0) (fun vs H Q E q=>by
      obtain⟨g,ds,P,r,d,bs,e,q⟩:=q;have e:(F 0 ds).bind _=some (d,bs):=e;rw[h0 ds] at e;cases e) (fun pv A outer s H vs Q E _ q=>by
      obtain⟨g,ds,P,r,d,bs,e,q⟩:=q;have e:(F 0 ds).bind _=some (d,bs):=e;rw[h0 ds] at e;cases e),hm,gf.2.2.2,(GR gf).binds hb⟩
  | n+1=>by
    have ih:=Fs.zh h b c0 h0 c hF gf hm hb n;have hh:Fs P w K mg base M.fl (k+n+1) fs:=fun y t q=>ih y t (B5 _ q)
    exact hh.cons (Ej (c 0)).1 (Ej (c 0)).2 rfl ⟨_,_,Lr b ih (c n) (hF n) (GR gf),hm,gf.2.2.2,(GR gf).binds hb⟩
def WA(K:W.Frag)(c m:Str):A8:=match W.findIn K (.ref (Ay K c)) m with
 | some (some (.ref a))=>a
 | _=>0
abbrev GM(K:W.Frag)(c q m:Str)(t:G0):Prop:=W.findIn K (.ref (Ay K c)) m=some (some (.ref (WA K c m))) /\
 K.lookup (WA K c m)=some ⟨.type "function", none,.func (W.fnOf m q (Am t) (AJ t) (AC t) .none .none .none (VZ K (WA K c m)) none (PF K (WA K c m)) .none),#[]⟩ /\
 W.codeIn K (PF K (WA K c m)) q=true/\W.keepIn K (.ref (WA K c m))=true/\W.isFn K (.ref (WA K c m))=true
noncomputable def lC(K:W.Frag)(C:A8)(f:Str):Bool:=match W.findIn K (.ref C) f with
 | some none=>true
 | _=>false
theorem gk{x q:Str}{st:G0}(hn:(AB st).length=1)(h:∀(kV doc pm:A3) (an:Option A8) (pv ct:A3) (a:A3),l7 (W.fnOf x q (Am st) (AJ st) (AC st) .none kV doc pm an pv ct) ⟨[a],[]⟩=pure ((AB st).zip [a])):IB x q st:=fun kV doc pm an pv ct us hl=>by
 rw[hn] at hl
 match us,hl with | [a],_=>exact h kV doc pm an pv ct a
theorem Gr{x q:Str}{st:G0}(hn:(AB st).length=2)(h:∀(kV doc pm:A3) (an:Option A8) (pv ct:A3) (a b:A3),l7 (W.fnOf x q (Am st) (AJ st) (AC st) .none kV doc pm an pv ct) ⟨[a,b],[]⟩=pure ((AB st).zip [a,b])):IB x q st:=fun kV doc pm an pv ct us hl=>by
 rw[hn] at hl
 match us,hl with | [a,b],_=>exact h kV doc pm an pv ct a b
theorem Pg{x q:Str}{st:G0}(hn:(AB st).length=3)(h:∀(kV doc pm:A3) (an:Option A8) (pv ct:A3) (a b c:A3),l7 (W.fnOf x q (Am st) (AJ st) (AC st) .none kV doc pm an pv ct) ⟨[a,b,c],[]⟩=pure ((AB st).zip [a,b,c])):IB x q st:=fun kV doc pm an pv ct us hl=>by
 rw[hn] at hl
 match us,hl with | [a,b,c],_=>exact h kV doc pm an pv ct a b c
noncomputable def LN(K:W.Frag)(x:Str):Bool:=match W.nsIn K I0 x with | some none=>true | _=>false
theorem gj{M:Md}{h:F1}(X:K.In h)(G:h.Ns I0 mg)(hc:M.cs=[])(hz:M.bl.all (LN K)=true):Bs M K mg:=⟨(fun x d q=>by rw[hc] at q;cases q),fun x hx=>by
 have:=(E1.mp hz) x hx;unfold LN at this;split at this
 ·rename_i e;exact W.mg_none_of X G e
 ·cases this⟩
noncomputable def lI{α:Type}(f:Dv->Dv->Dv->Dv->Option α)(ds:List Dv):Option α:=match ds with | [a,b,c,d]=>f a b c d | _=>none
noncomputable def Ci{α:Type}(f:Dv->Dv->Dv->Option α)(ds:List Dv):Option α:=match ds with | [a,b,c]=>f a b c | _=>none
theorem dM{α:Type}:∀ds,Ci (fun _ _ _=>(none:Option α)) ds=none
 | []=>rfl | [_]=>rfl | [_,_]=>rfl | [_,_,_]=>rfl | _::_::_::_::_=>rfl
abbrev Kg(M:Md)(fs:List (Str×qF))(st:G0)(io:List Nat)(ro:Nat)(f:List Dv->Option (Jn Dv io)):Prop:=∀ds,ds.length=(AB st).length->Qp M fs st io ro ds=f ds
theorem jU{α:Type}{G:List Dv->Option α}{f:Dv->Option α}{n:Nat}(hn:n=1)(h:∀a,G [a]=f a):∀ds,ds.length=n->G ds=one f ds:=fun ds hl=>by
 subst hn
 match ds,hl with | [a],_=>exact h a
theorem UQ{α:Type}{G:List Dv->Option α}{f:Dv->Dv->Option α}{n:Nat}(hn:n=2)(h:∀a b,G [a,b]=f a b):∀ds,ds.length=n->G ds=two f ds:=fun ds hl=>by
 subst hn
 match ds,hl with | [a,b],_=>exact h a b
theorem cu{α:Type}{G:List Dv->Option α}{f:Dv->Dv->Dv->Option α}{n:Nat}(hn:n=3)(h:∀a b c,G [a,b,c]=f a b c):∀ds,ds.length=n->G ds=Ci f ds:=fun ds hl=>by
 subst hn
 match ds,hl with | [a,b,c],_=>exact h a b c
def Mc(K:W.Frag):Sp:=fun vs H Q _=>∃(a:A8) (ns:List Int),vs=[.ref a]/\CO K H a (ns.map V.int)/\ns.length<=63/\XS H/\∀H',Q (.bl true) H'
theorem aY{k:Nat}{f:A8}{fd:K5}{ps:List Str}{nb:Bool}{F:List Dv->Option Dv}(hp:ps.length=1)(h0:qE P w K mg base FB k f fd ps (OA K (Ae ps [] 1 nb F)))(h:∀ns:List Int,ns.length<=63->F [.qW ns]=some (.bl true)):qE P w K mg base FB k f fd ps (Mc K):=h0.imp fun vs H Q E q=>by
 obtain⟨a,ns,rfl,hS,hn,hO,q⟩:=q;have hs:iQ K H a ns:=by
  rcases hS with(h1 | h1) | h1
  ·rcases hO a with z | ⟨o,xs,z⟩
   ·rw[h1] at z;cases z
   ·rw[h1] at z;cases z
  ·exact .inl h1
  ·exact .inr h1
 refine⟨⟨fun _=>False,[]⟩,[.qW ns],pT,?_,.bl true,[],by show(F [.qW ns]).bind _=_;rw[h ns hn];rfl,fun g' H' v Pv Pb _ rv _ _=>by rw[Ax rv];exact q H'⟩;show Rel K _ H (Kh ps.length []) _ _ _;rw[hp];refine⟨?_,fun _=>pT,⟨rfl,rfl,fun i o e=>?_,fun i e a z=>z,fun i j n a z=>z.elim⟩,fun a=>⟨fun z=>z.elim,fun⟨i,z⟩=>z⟩⟩
 ·exact fun _ z=>z.elim
 ·match i,e with
  | 0,e=>cases e;exact⟨_,_,rfl,rfl,by unfold Rep;exact⟨⟨a,rfl,hs⟩,fun _ z=>z⟩⟩
end
end R
namespace L4
open PySem PySem.Spec PyProof.Rows L2 Builtin
def jy:R2:=fun x y H Q=>∃l k xs,x=.ref l/\y=.int k/\H l=some (.tup xs)/\xs≠[]/\0<=k/\k < 2 ^ 63/\xs.length * k.toNat<=1000000/\(k=1->Q (.ref l) H) /\
 (k≠1->∀p,H p=none->Q (.ref p) (upd H p (.tup (E9 k.toNat xs).flatten)))
end L4
namespace R
open PySem L2
variable {vs:List V} {d:Dv} {o:Nat} {v:V} {P:Fp} {xs:List Dv} {α:Type}
section
variable {K:W.Frag} {g:G} {H:Hp}
theorem RA.nil(h:RA K g H [] vs):vs=[]:=by unfold RA at h;exact h
theorem RA.cons{ds:List Dv}(h:RA K g H (d::ds) vs):∃v r o P,vs=v::r/\o<=1/\Rep K g H o d v P/\RA K g H ds r:=by unfold RA at h;exact h
theorem RA.one(h:RA K g H [d] vs):∃v o P,vs=[v]/\o<=1/\Rep K g H o d v P:=by
 obtain⟨v,r,o,P,rfl,ho,h1,h2⟩:=h.cons;cases h2.nil;exact⟨v,o,P,rfl,ho,h1⟩
theorem RA.two{e:Dv}(h:RA K g H [d,e] vs):∃v o P w u R,vs=[v,w]/\o<=1/\Rep K g H o d v P/\u<=1/\Rep K g H u e w R:=by
 obtain⟨v,r,o,P,rfl,ho,h1,h2⟩:=h.cons;obtain⟨w,u,R,rfl,hu,h3⟩:=h2.one;exact⟨v,o,P,w,u,R,rfl,ho,h1,hu,h3⟩
theorem Ap{l:List Nat}(h:Rep K g H o (.str l) v P):v=.str (tx l):=by unfold Rep at h;exact h.1
theorem DL(h:Rep K g H o .pX v P):v=.pX:=by unfold Rep at h;exact h.1
theorem ED(ho:o<=1)(h:Rep K g H o (.lst xs) v P):∃a us,v=.ref a/\CO K H a us/\AA K g H 0 xs us pT/\H a=some (.lst us):=by
 unfold Rep at h;obtain⟨a,us,P',rfl,h1,h2,_⟩:=h;rw[V0 ho] at h2;exact⟨a,us,rfl,.inl (.inl h1.1),h2.z,h1.1⟩
theorem FD(ho:o<=1)(h:Rep K g H o (.tup xs) v P):∃a us,v=.ref a/\Cg K H a us/\AA K g H 0 xs us pT/\H a=some (.tup us):=by
 unfold Rep at h;obtain⟨a,us,rfl,h1,h2⟩:=h;rw[V0 ho] at h2;exact⟨a,us,rfl,.inl (.inl h1),h2.z,h1⟩
theorem JL{ns:List Int}(h:Rep K g H o (.qW ns) v P):∃a,v=.ref a/\CO K H a (ns.map V.int):=by
 unfold Rep at h;obtain⟨⟨a,rfl,h1⟩,_⟩:=h;exact⟨a,rfl,h1.sq⟩
theorem Dz(ho:o<=1){a:A8}{us:List V}(h1:H a=some (.tup us))(h2:AA K g H 0 xs us pT):Rep K g H o (.tup xs) (.ref a) pT:=by
 unfold Rep;rw[V0 ho];exact⟨a,us,rfl,h1,h2⟩
theorem Ak.int(i:Int):Ak K g H o (.int i) (.int i) H:=Ak.old Bg
theorem Ak.bl(b:Bool):Ak K g H o (.bl b) (.bl b) H:=Ak.old Bn
theorem Ak.str(l:List Nat):Ak K g H o (.str l) (.str (tx l)) H:=Ak.old (by unfold Rep;exact⟨rfl,fun _ z=>z⟩)
theorem Ak.tup(ho:o<=1){p:A8}(hp:H p=none)(h:AA K g H 0 xs vs pT):Ak K g H o (.tup xs) (.ref p) (upd H p (.tup vs)):=
 have sm:=Cp hp (.tup vs)
 ⟨sm,pT,Dz ho AM (h.held (Step.same (g:=g) (P:=pT) sm) pd.pT fun _ z=>z.elim),fun _ z=>z.elim⟩
theorem LI(n:Nat)(h:AA K g H 0 xs vs pT):AA K g H 0 (xs.drop n) (vs.drop n) pT:=by
 have h0:=Cr.mp h;exact Cr.mpr ⟨by simp[h0.1],fun i d v e1 e2=>h0.2 (n+i) d v (by simpa using e1) (by simpa using e2)⟩
theorem LG(n:Nat)(h:AA K g H 0 xs vs pT):AA K g H 0 (xs.take n) (vs.take n) pT:=by
 have h0:=Cr.mp h;refine Cr.mpr ⟨by simp[h0.1],fun i d v e1 e2=>?_⟩;rw[List.getElem?_take] at e1 e2;split at e1
 ·rename_i hi;rw[if_pos hi] at e2;exact h0.2 i d v e1 e2
 ·cases e1
theorem HW(h:AA K g H 0 xs vs pT):AA K g H 0 xs.reverse vs.reverse pT:=by
 have h0:=Cr.mp h;refine Cr.mpr ⟨by simp[h0.1],fun i d v e1 e2=>?_⟩;have hi:i < xs.length:=by simpa using (B1.mp e1).1
 rw[lz hi] at e1;rw[lz (by rw[<- h0.1];exact hi),<- h0.1] at e2;exact h0.2 _ d v e1 e2
theorem Dd(ns:List Int):AA K g H 0 (ns.map .int) (ns.map V.int) pT:=Cr.mpr ⟨by simp,fun i d v e1 e2=>by
 rw[C0] at e1 e2;cases q:ns[i]? with
 | none=>rw[q] at e1;cases e1
 | some k=>rw[q] at e1 e2;cases e1;cases e2;exact Bg⟩
def Br(xs:List α)(lo hi:Option Int):List α:=(xs.drop (HT.pe xs.length 0 lo)).take (HT.pe xs.length xs.length hi - HT.pe xs.length 0 lo)
theorem Vz{β:Type}(f:α->β)(xs:List α)(lo hi:Option Int):(Br xs lo hi).map f=Br (xs.map f) lo hi:=by
 unfold Br;rw[List.map_take,List.map_drop,F4]
theorem XH{β:Type}{f:α->β}{xs:List α}{i:Int}:Em (xs.map f) i=(Em xs i).map f:=by
 unfold Em;rw[F4];cases Jd xs.length i with
 | none=>rfl
 | some j=>show(xs.map f)[j]?=_;rw[C0];rfl
theorem Eb(lo hi:Option Int)(h:AA K g H 0 xs vs pT):AA K g H 0 (Br xs lo hi) (EG vs lo hi) pT:=by
 unfold Br EG;rw[h.len];exact LG _ (LI _ h)
theorem JO{i:Int}(h:AA K g H 0 xs vs pT)(e:Em xs i=some d):∃v,Em vs i=some v/\Rep K g H 0 d v pT:=by
 unfold Em at e ⊢;rw[h.len] at e;cases q:Jd vs.length i with
 | none=>rw[q] at e;cases e
 | some j =>
  rw[q] at e;obtain⟨v,R,e1,e2,_⟩:=h.get e;exact⟨v,e1,e2.z⟩
noncomputable def BX(C:Int->Int->Bool)(f:Int->Int->Int)(x y:Dv):Option Dv:=match x,y with | .int i,.int j=>if C i j=true then some (.int (f i j)) else none | _,_=>none
noncomputable def Ce(f:Int->Int->Bool)(x y:Dv):Option Bool:=match x,y with | .int i,.int j=>some (f i j) | _,_=>none
abbrev cR:=BX (fun _ _=>true) fun i j=>i - j
abbrev DA:=BX (fun _ j=>decide (0 < j)) fun i j=>i % j
abbrev UJ:=BX (fun _ j=>decide (0 < j) && decide (j < 1073741824)) fun i j=>i / j
abbrev Pj:=BX (fun i j=>decide (0<=j) && decide (j<=1000000) && decide (i.natAbs < 2 ^ 64)) fun i j=>i ^ j.toNat
abbrev iO:=Ce fun i j=>decide (j < i)
abbrev kT:=Ce fun i j=>decide (j<=i)
theorem Dn{f:Dv->Dv->Option α}{ds:List Dv}{a:α}(h:two f ds=some a):∃x y,ds=[x,y]/\f x y=some a:=by
 unfold two at h;split at h
 ·exact⟨_,_,rfl,h⟩
 ·cases h
theorem Fw{f:Dv->Dv->Option Dv}{r:R2}(h:∀g H x y v w o1 o2 P R d Q,Zd g H->o1<=1->Rep K g H o1 x v P->o2<=1->Rep K g H o2 y w R->f x y=some d->(∀v H',Ak K g H o d v H'->Q v H')->r v w H Q):AI K (two f) o (JA r):=fun g H ds vs d Q zd ra e k=>by
 obtain⟨x,y,rfl,e⟩:=Dn e;obtain⟨v,o1,P,w,o2,R,rfl,h1,h2,h3,h4⟩:=ra.two;exact h g H x y v w o1 o2 P R d Q zd h1 h2 h3 h4 e k
theorem EC{f:Dv->Dv->Option Bool}{r:R2}(h:∀g H x y v w o1 o2 P R b (Q:VK),Zd g H->o1<=1->Rep K g H o1 x v P->o2<=1->Rep K g H o2 y w R->f x y=some b->Q (.bl b) H->r v w H Q):AI K (fun ds=>(two f ds).map .bl) 0 (JA r):=fun g H ds vs d Q zd ra e k=>by
 have e:(two f ds).map Dv.bl=some d:=e;cases q:two f ds with
 | none=>rw[q] at e;cases e
 | some b =>
  rw[q] at e;cases e;obtain⟨x,y,rfl,e2⟩:=Dn q;obtain⟨v,o1,P,w,o2,R,rfl,h1,h2,h3,h4⟩:=ra.two;exact h g H x y v w o1 o2 P R b Q zd h1 h2 h3 h4 e2 (k _ _ (Ak.bl _))
theorem FO{C:Int->Int->Bool}{C':Int->Int->Prop}{f:Int->Int->Int}(hc:∀i j,C i j=true->C' i j):AI K (two (BX C f)) o (JA (rI C' fun i j=>.int (f i j))):=Fw fun g H x y v w o1 o2 P R d Q zd _ h1 _ h2 e k=>by
 unfold BX at e;split at e
 ·split at e
  ·rename_i c;cases e;rw[AL h1,AL h2];exact⟨_,_,rfl,rfl,hc _ _ c,k _ _ (Ak.int _)⟩
  ·cases e
 ·cases e
theorem VW{f:Int->Int->Int}:AI K (two (BX (fun _ _=>true) f)) o (JA (Pq fun i j=>.int (f i j))):=Fw fun g H x y v w o1 o2 P R d Q zd _ h1 _ h2 e k=>by
 unfold BX at e;split at e
 ·cases e;rw[AL h1,AL h2];exact⟨_,_,rfl,rfl,k _ _ (Ak.int _)⟩
 ·cases e
theorem FP{f:Int->Int->Bool}:AI K (fun ds=>(two (Ce f) ds).map .bl) 0 (JA (Pq fun i j=>.bl (f i j))):=EC fun g H x y v w o1 o2 P R b Q zd _ h1 _ h2 e k=>by
 unfold Ce at e;split at e
 ·cases e;rw[AL h1,AL h2];exact⟨_,_,rfl,rfl,k⟩
 ·cases e
noncomputable def Aj(x y:Dv):Option Dv:=match x,y with
 | .int i,.int j=>some (.int (i+j))
 | .str a,.str b=>if a.length+b.length<=1000000 then some (.str (a++b)) else none
 | .lst xs,.lst ys=>if xs.length+ys.length<=1000000 then some (.lst (xs++ys)) else none
 | .tup xs,.tup ys=>if xs.length+ys.length<=1000000 then some (.tup (xs++ys)) else none
 | _,_=>none
theorem Zs:AI K (two Aj) 1 (JA (JR K)):=Fw fun g H x y v w o1 o2 P R d Q zd l1 h1 l2 h2 e k=>by
 unfold Aj at e;split at e
 ·cases e;rw[AL h1,AL h2];exact UF (k _ _ (Ak.int _))
 ·split at e
  ·rename_i hl;cases e;rw[Ap h1,Ap h2];refine UD (by rw[Bj,Bj];exact hl) ?_;rw[Kn];exact k _ _ (Ak.str _)
  ·cases e
 ·split at e
  ·rename_i hl;cases e;obtain⟨a,us,rfl,_,hx,ha⟩:=ED l1 h1;obtain⟨b,ws,rfl,_,hy,hb⟩:=ED l2 h2;exact UE ha hb (by rw[<- hx.len,<- hy.len];exact hl) fun p hp=>k _ _ (Ak.lst zd (DK hx hy) hp)
  ·cases e
 ·split at e
  ·rename_i hl;cases e;obtain⟨a,us,rfl,ha,hx,uL⟩:=FD l1 h1;obtain⟨b,ws,rfl,hb,hy,yH⟩:=FD l2 h2;have al:=DK hx hy
   by_cases hu:us=[]
   ·subst hu;exact .inr ⟨a,b,ws,rfl,rfl,ha,hb,k _ _ (Ak.old (Dz (B9 1) yH al))⟩
   ·refine .inl (.inr (.inr (.inr ⟨a,b,us,ws,rfl,rfl,ha,hb,hu,by rw[<- hx.len,<- hy.len];exact A9 hl (by decide),fun hw=>?_,fun _ p hp=>k _ _ (Ak.tup (B9 1) hp al)⟩)));subst hw;rw[F8] at al;exact k _ _ (Ak.old (Dz (B9 1) uL al))
  ·cases e
 ·cases e
noncomputable def big(i:Int):Bool:=decide (-(2 ^ 64) < i) && decide (i < 2 ^ 64)
abbrev EL:=BX (fun i j=>big i || big j) fun i j=>i * j
noncomputable def AY(x:Dv):Option Dv:=match x with
 | .str l=>if l.length<=1000000 then some (.int l.length) else none
 | .lst xs=>some (.int xs.length)
 | .tup xs=>some (.int xs.length)
 | .qW ns=>some (.int ns.length)
 | .rX ks _=>some (.int ks.length)
 | _=>none
theorem RY{f:Dv->Option α}{ds:List Dv}{a:α}(h:one f ds=some a):∃x,ds=[x]/\f x=some a:=by
 unfold one at h;split at h
 ·exact⟨_,rfl,h⟩
 ·cases h
theorem Df{f:Dv->Option Dv}{r:MK}(h:∀g H x v o1 P d Q,Zd g H->o1<=1->Rep K g H o1 x v P->f x=some d->(∀v H',Ak K g H o d v H'->Q v H')->r [v] H Q):AI K (one f) o r:=fun g H ds vs d Q zd ra e k=>by
 obtain⟨x,rfl,e⟩:=RY e;obtain⟨v,o1,P,rfl,h1,h2⟩:=ra.one;exact h g H x v o1 P d Q zd h1 h2 e k
theorem Zm:AI K (one AY) o (fun xs H Q=>OE K xs H Q\/Xr xs H Q):=Df fun g H x v o1 P d Q zd l1 h1 e k=>by
 unfold AY at e;split at e
 ·split at e
  ·rename_i l hl;cases e;rw[Ap h1];refine .inl (OX (by rw[Bj];exact hl) ?_);rw[Bj];exact k _ _ (Ak.int _)
  ·cases e
 ·cases e;obtain⟨a,us,rfl,ha,hx,uL⟩:=ED l1 h1;refine .inl (WC uL ?_);rw[<- hx.len];exact k _ _ (Ak.int _)
 ·cases e;obtain⟨a,us,rfl,ha,hx,uL⟩:=FD l1 h1;refine .inl ⟨_,_,rfl,.inr ⟨us,ha,rfl⟩,?_⟩;rw[<- hx.len];exact k _ _ (Ak.int _)
 ·cases e;obtain⟨a,rfl,ha⟩:=JL h1;refine .inl (Rk ha ?_);rw[F4];exact k _ _ (Ak.int _)
 ·cases e;obtain⟨a,us,rfl,ha,hl,hx⟩:=bR h1;refine .inr ⟨a,_,rfl,ha,?_⟩;rename_i ks xs;have:(ks.zip us).length=ks.length:=by rw[List.length_zip,hl,hx.len,nI]
  rw[this];exact k _ _ (Ak.int _)
 ·cases e
def AF(x y:Dv):Option Dv:=match x,y with
 | .lst xs,.int i=>Em xs i
 | .tup xs,.int i=>Em xs i
 | .qW ns,.int i=>(Em ns i).map .int
 | .str l,.int i=>if l.length<=1000000 then(Em l i).map fun c=>.str [c] else none
 | .rX ks ds,k=>(Mx k).bind fun k=>Ox k ks ds
 | _,_=>none
theorem Zq:AI K (two AF) 0 (JA fun x y H Q=>Za K x y H Q\/kB x y H Q):=Fw fun g H x y v w o1 o2 P R d Q zd l1 h1 l2 h2 e k=>by
 unfold AF at e;split at e
 ·obtain⟨a,us,rfl,ha,hx,uL⟩:=ED l1 h1;rw[AL h2];obtain⟨u,e2,h3⟩:=JO hx e;exact .inl (VB uL e2 (k _ _ (Ak.old h3)))
 ·obtain⟨a,us,rfl,ha,hx,uL⟩:=FD l1 h1;rw[AL h2];obtain⟨u,e2,h3⟩:=JO hx e;exact .inl (.inr (.inl ⟨a,us,_,u,rfl,rfl,ha,e2,k _ _ (Ak.old h3)⟩))
 ·rename_i ns i;obtain⟨a,rfl,ha⟩:=JL h1;rw[AL h2];cases q:Em ns i with
  | none=>rw[q] at e;cases e
  | some j =>
   rw[q] at e;cases e;exact .inl (ZX ha (by rw[XH,q];rfl) (k _ _ (Ak.int _)))
 ·rename_i l i;split at e
  ·rename_i hl;rw[Ap h1,AL h2];cases q:Em l i with
   | none=>rw[q] at e;cases e
   | some c =>
    rw[q] at e;cases e;exact .inl (VA (by rw[Bj];exact hl) (by rw[MT];exact q) (k _ _ (Ak.str [c])))
  ·cases e
 ·obtain⟨kk,ek,e⟩:=pR e;obtain⟨a,us,rfl,ha,hl,hx⟩:=bR h1;obtain⟨u,e2,h3⟩:=Jz hx e;rw[WG h2 ek];exact .inr ⟨a,u,rfl,e2▸JB.k ha,k _ _ (Ak.old h3)⟩
 ·cases e
def FS(x:Dv)(lo hi:Option Int):Option Dv:=match x with
 | .str l=>if l.length<=1000000 then some (.str (Ls l lo hi)) else none
 | .lst xs=>some (.lst (Br xs lo hi))
 | .tup xs=>some (.tup (Br xs lo hi))
 | .qW ns=>some (.lst ((Br ns lo hi).map .int))
 | _=>none
theorem eh(lo hi:Option Int):AI K (one fun d=>FS d lo hi) 1 (cX fun x H Q=>OD K x lo hi H Q):=Df fun g H x v o1 P d Q zd l1 h1 e k=>by
 show OD K v lo hi H Q;cases x with
 | str l =>
  simp only[FS.eq_def] at e;split at e
  ·rename_i hl;cases e;rw[Ap h1];refine Uo (by rw[Bj];exact hl) ?_;rw[QF];exact k _ _ (Ak.str _)
  ·cases e
 | lst xs =>
  cases e;obtain⟨a,us,rfl,ha,hx,uL⟩:=ED l1 h1;exact Uq uL fun p hp=>k _ _ (Ak.lst zd (Eb lo hi hx) hp)
 | tup xs =>
  cases e;obtain⟨a,us,rfl,ha,hx,uL⟩:=FD l1 h1;have al:=Eb lo hi hx
  by_cases w:HT.pe us.length 0 lo=0/\HT.pe us.length us.length hi=us.length
  ·refine .inr ⟨a,us,rfl,ha,w,k _ _ (Ak.old ?_)⟩;have ec:EG us lo hi=us:=by unfold EG;rw[w.1,w.2];simp
   rw[ec] at al;exact Dz (B9 1) uL al
  ·exact .inl (.inr (.inr ⟨a,us,rfl,ha,w,fun p hp=>k _ _ (Ak.tup (B9 1) hp al)⟩))
 | qW ns =>
  cases e;obtain⟨a,rfl,ha⟩:=JL h1;refine ZK ha fun p hp=>k _ _ (Ak.lst zd ?_ hp)
  rw[Vz];exact Eb lo hi (Dd ns)
 | _=>cases e
end
mutual
noncomputable def toD:Dv->L3.D
 | .bl b=>.fl (.bl b)
 | .int i=>.fl (.int i)
 | .str l=>.fl (.str (tx l))
 | .tup xs=>.tup (qH xs)
 | .lst xs=>.lst (qH xs)
 | _=>.fl .pX
noncomputable def qH:List Dv->List L3.D
 | []=>[]
 | d::ds=>toD d::qH ds
end
mutual
noncomputable def Dv.cmp:Dv->Bool
 | .pX | .bl _ | .int _ | .str _=>true
 | .tup xs=>BZ xs
 | .lst xs=>BZ xs
 | _=>false
noncomputable def BZ:List Dv->Bool
 | []=>true
 | d::ds=>d.cmp && BZ ds
end
mutual
noncomputable def Dv.dep:Dv->Nat
 | .tup xs=>Cd xs+1
 | .lst xs=>Cd xs+1
 | _=>0
noncomputable def Cd:List Dv->Nat
 | []=>0
 | d::ds=>max d.dep (Cd ds)
end
mutual
noncomputable def qz:Dv->Dv->Bool
 | .pX,.pX=>true
 | .bl a,.bl b=>a == b
 | .bl a,.int b=>(if a then 1 else 0) == b
 | .int a,.bl b=>a == (if b then 1 else 0)
 | .int a,.int b=>a == b
 | .str a,.str b=>a == b
 | .tup xs,.tup ys=>Jw xs ys
 | .lst xs,.lst ys=>Jw xs ys
 | _,_=>false
noncomputable def Jw:List Dv->List Dv->Bool
 | [],[]=>true
 | x::xs,y::ys=>qz x y && Jw xs ys
 | _,_=>false
end
mutual
theorem Sh:∀(d e:Dv),d.cmp=true->e.cmp=true->L3.qG (toD d) (toD e)=qz d e
 | .pX,e,h,k | .bl _,e,h,k | .int _,e,h,k=>by cases e<;>first | (unfold toD L3.qG qz;rfl) | (unfold Dv.cmp at k;cases k)
 | .str l,e,h,k=>by
  cases e with
  | str m=>unfold toD L3.qG qz;rw[L2.vo];exact(Bool.beq_eq_decide_eq l m).symm
  | _=>first | (unfold toD L3.qG qz;rfl) | (unfold Dv.cmp at k;cases k)
 | .tup xs,e,h,k=>by
  cases e with
  | tup ys=>unfold toD L3.qG qz;unfold Dv.cmp at h k;exact Lq xs ys h k
  | _=>first | (unfold toD L3.qG qz;rfl) | (unfold Dv.cmp at k;cases k)
 | .lst xs,e,h,k=>by
  cases e with
  | lst ys=>unfold toD L3.qG qz;unfold Dv.cmp at h k;exact Lq xs ys h k
  | _=>first | (unfold toD L3.qG qz;rfl) | (unfold Dv.cmp at k;cases k)
 | .rX _ _,e,h,k | .ref _,e,h,k | .qW _,e,h,k | .ty _,e,h,k | .uJ _,e,h,k | .uC _ _,e,h,k | .uV _ _,e,h,k | .obj _ _ _ _,e,h,k=>by unfold Dv.cmp at h;cases h
theorem Lq:∀(d e:List Dv),BZ d=true->BZ e=true->L3.qc (qH d) (qH e)=Jw d e
 | [],[],_,_=>by unfold qH L3.qc Jw;rfl
 | [],_::_,_,_=>by simp only[qH,L3.qc,Jw]
 | _::_,[],_,_=>by simp only[qH,L3.qc,Jw]
 | x::xs,y::ys,h,k=>by
  unfold BZ at h k;rw[A2] at h k;simp only[qH,L3.qc,Jw];rw[Sh x y h.1 k.1,Lq xs ys h.2 k.2]
end
mutual
theorem YT:∀(d:Dv),(toD d).dep=d.dep
 | .pX | .bl _ | .int _ | .str _ | .rX _ _ | .ref _ | .qW _ | .ty _ | .uJ _ | .uC _ _ | .uV _ _ | .obj _ _ _ _=>by unfold toD L3.D.dep Dv.dep;rfl
 | .tup xs=>by unfold toD L3.D.dep Dv.dep;rw[Ig xs]
 | .lst xs=>by unfold toD L3.D.dep Dv.dep;rw[Ig xs]
theorem Ig:∀(d:List Dv),L3.qg (qH d)=Cd d
 | []=>by unfold qH L3.qg Cd;rfl
 | x::xs=>by simp only[qH,L3.qg,Cd];rw[YT x,Ig xs]
end
section
variable {K:W.Frag} {g:G} {H:Hp}
mutual
theorem Rep.is:∀{o:Nat} {d:Dv} {v:V} {P:Fp},Rep K g H o d v P->d.cmp=true->L3.Is K H v (toD d)
 | _,.pX,v,P,h,_=>by rw[DL h];unfold toD L3.Is;exact⟨rfl,rfl⟩
 | _,.bl b,v,P,h,_=>by rw[Ax h];unfold toD L3.Is;exact⟨rfl,rfl⟩
 | _,.int i,v,P,h,_=>by rw[AL h];unfold toD L3.Is;exact⟨rfl,rfl⟩
 | _,.str l,v,P,h,_=>by rw[Ap h];unfold toD L3.Is;exact⟨rfl,rfl⟩
 | _,.tup xs,v,P,h,c=>by
  unfold Rep at h;obtain⟨a,vs,rfl,h1,h2⟩:=h;unfold Dv.cmp at c;unfold toD L3.Is;exact⟨a,vs,rfl,.inl (.inl h1),AA.isL h2 c⟩
 | _,.lst xs,v,P,h,c=>by
  unfold Rep at h;obtain⟨a,vs,P',rfl,h1,h2,_⟩:=h;unfold Dv.cmp at c;unfold toD L3.Is;exact⟨a,vs,rfl,.inl (.inl h1.1),AA.isL h2 c⟩
 | _,.rX _ _,v,P,h,c | _,.ref _,v,P,h,c | _,.qW _,v,P,h,c | _,.ty _,v,P,h,c | _,.uJ _,v,P,h,c | _,.uC _ _,v,P,h,c | _,.uV _ _,v,P,h,c | _,.obj _ _ _ _,v,P,h,c=>by unfold Dv.cmp at c;cases c
theorem AA.isL:∀{o:Nat} {d:List Dv} {v:List V} {P:Fp},AA K g H o d v P->BZ d=true->L3.IsL K H v (qH d)
 | _,[],v,P,h,_=>by
  unfold AA at h;obtain⟨rfl,_⟩:=h;unfold qH L3.IsL
  trivial
 | _,x::xs,v,P,h,c=>by
  unfold AA at h;obtain⟨u,r,P1,P2,rfl,h1,h2,_⟩:=h;unfold BZ at c;rw[A2] at c;unfold qH L3.IsL;exact⟨Rep.is h1 c.1,AA.isL h2 c.2⟩
end
def MI(neg:Bool)(x y:Dv):Option Bool:=if(x.cmp && y.cmp && decide (x.dep<=150))=true then some (if neg then !qz x y else qz x y) else none
abbrev KW:=MI false
abbrev Ph:=MI true
theorem RJ{neg:Bool}:AI K (fun ds=>(two (MI neg) ds).map .bl) 0 (JA (L3.wy K neg)):=EC fun g H x y v w o1 o2 P R b Q zd _ h1 _ h2 e k=>by
 unfold MI at e;split at e
 ·rename_i c;cases e;rw[A2,A2,decide_eq_true_eq] at c;refine⟨toD x,toD y,by rw[YT];exact c.2,h1.is c.1.1,h2.is c.1.2,?_⟩;rw[Sh x y c.1.1 c.1.2];exact k
 ·cases e
noncomputable def iD:Dv->Option (List Dv)
 | .lst xs=>some xs
 | .tup xs=>some xs
 | .uJ ls=>some (ls.map .str)
 | _=>none
def IS(e:Dv)(ds:List Dv):Bool:=ds.any fun d=>qz d e
def KU(neg:Bool)(e s:Dv):Option Bool:=match e,s with
 | .str x,.str l=>some (if neg then !Q.yV x l else Q.yV x l)
 | e,s=>match iD s with
  | some xs=>if(e.cmp && BZ xs && decide (Cd xs<=150))=true then some (if neg then !IS e xs else IS e xs) else none
  | none=>none
abbrev iN:=KU false
theorem gr(e:Dv)(he:e.cmp=true):∀(ds:List Dv),BZ ds=true->((qH ds).any fun d=>L3.qG d (toD e))=IS e ds
 | [],_=>by unfold qH IS;rfl
 | d::ds,h=>by
  unfold BZ at h;rw[A2] at h;unfold IS;simp only[qH,S6];rw[Sh d e h.1 he,gr e he ds h.2];rfl
theorem LH(ls:List (List Nat)):AA K g H 0 (ls.map .str) (ls.map fun l=>V.str (tx l)) pT:=Cr.mpr ⟨by simp,fun i d v e1 e2=>by
 rw[C0] at e1 e2;cases q:ls[i]? with
 | none=>rw[q] at e1;cases e1
 | some k=>rw[q] at e1 e2;cases e1;cases e2;unfold Rep;exact⟨rfl,fun _ z=>z⟩⟩
theorem Zp{neg:Bool}:AI K (fun ds=>(two (KU neg) ds).map .bl) 0 (JA (Q.yi K neg)):=EC fun g H x y v w o1 o2 P R b Q zd l1 h1 l2 h2 e k=>by
  unfold KU at e;split at e
  · cases e;rw[Ap h1,Ap h2];exact .inl ⟨_,_,rfl,rfl,k⟩
  · rename_i a s _;split at e
    · rename_i xs es;split at e
      · rename_i c;cases e;rw[A2,A2,decide_eq_true_eq] at c;have go:∀p ys,w=.ref p->(CO K H p ys\/Cg K H p ys)->AA K g H 0 xs ys pT->L3.wx K neg v w H Q:=by
          rintro p ys rfl hs hr;refine⟨p,ys,qH xs,toD x,rfl,hs,hr.isL c.1.2,h1.is c.1.1,by rw[Ig];exact c.2,?_⟩;rw[gr x c.1.1 xs c.1.2];exact k
        cases y with
        | lst ys =>
          cases es;obtain⟨p,us,rfl,ha,hx,_⟩:=ED l2 h2;exact .inr (go p us rfl (.inl ha) hx)
        | tup ys =>
          cases es;obtain⟨p,us,rfl,ha,hx,_⟩:=FD l2 h2;exact .inr (go p us rfl (.inr ha) hx)
        | uJ ls =>
          cases es;unfold Rep at h2;obtain⟨⟨p,rfl,hm⟩,_⟩:=h2;exact .inr (go p _ rfl (.inr (.inr hm)) (LH ls))
        | _=>cases es
      · cases e
    · cases e
noncomputable def Dv.um:Dv->Bool
 | .pX=>true
 | _=>false
noncomputable def XG(x y:Dv):Option Bool:=match y,x with | .pX,x=>some x.um | .bl b,.bl a=>some (a == b) | _,_=>none
noncomputable def KS(x y:Dv):Option Bool:=match y,x with | .pX,x=>some (!x.um) | .bl b,.bl a=>some (!(a == b)) | _,_=>none
theorem HY{o:Nat}{d:Dv}{v:V}{P:Fp}(h:Rep K g H o d v P):decide (v=V.pX)=d.um:=by
 cases d with
 | pX=>rw[DL h];rfl
 | bl b=>rw[Ax h];rfl
 | int b=>rw[AL h];rfl
 | str b=>rw[Ap h];rfl
 | tup b=>unfold Rep at h;obtain⟨a,vs,rfl,_⟩:=h;rfl
 | lst b=>unfold Rep at h;obtain⟨a,vs,P',rfl,_⟩:=h;rfl
 | rX b c=>unfold Rep at h;obtain⟨a,vs,rfl,_⟩:=h;rfl
 | ref k=>unfold Rep at h;obtain⟨⟨a,_,rfl⟩,_⟩:=h;rfl
 | qW ns=>obtain⟨a,rfl,_⟩:=JL h;rfl
 | ty n=>unfold Rep at h;rw[h.1];rfl
 | uJ n=>unfold Rep at h;obtain⟨⟨a,rfl,_⟩,_⟩:=h;rfl
 | uC b c=>unfold Rep at h;obtain⟨a,vs,rfl,_⟩:=h;rfl
 | uV b c=>unfold Rep at h;obtain⟨a,vs,rfl,_⟩:=h;rfl
 | obj b c d e=>unfold Rep at h;obtain⟨a,dx,vs,P',rfl,_⟩:=h;rfl
theorem Zo:AI K (fun ds=>(two XG ds).map .bl) 0 (JA (fun x y H Q=>(y=.pX/\Q (.bl (decide (x=.pX))) H)\/∃a b,x=.bl a/\y=.bl b/\Q (.bl (a == b)) H)):=EC fun g H x y v w o1 o2 P R b Q zd _ h1 _ h2 e k=>by
 unfold XG at e;split at e
 ·cases e;exact .inl ⟨DL h2,by rw[HY h1];exact k⟩
 ·cases e;exact .inr ⟨_,_,Ax h1,Ax h2,k⟩
 ·cases e
theorem VR:AI K (fun ds=>(two KS ds).map .bl) 0 (JA (fun x y H Q=>(y=.pX/\Q (.bl (!decide (x=.pX))) H)\/∃a b,x=.bl a/\y=.bl b/\Q (.bl (!(a == b))) H)):=EC fun g H x y v w o1 o2 P R b Q zd _ h1 _ h2 e k=>by
 unfold KS at e;split at e
 ·cases e;exact .inl ⟨DL h2,by rw[HY h1];exact k⟩
 ·cases e;exact .inr ⟨_,_,Ax h1,Ax h2,k⟩
 ·cases e
end
theorem aN{X:Cx}:CH X (H9 .Is) (fun x y H Q=>∃a b,x=.bl a/\y=.bl b/\Q (.bl (a == b)) H):=by
 intro pins s σ H x y v u Q I rx ry h;obtain⟨a,b,rfl,rfl,q⟩:=h;cases rx;cases ry;exact wpAny_is_plain rfl ⟨.bl (a == b),H,I,by cases a<;>cases b<;>rfl,q⟩
theorem Vk{X:Cx}:CH X (H9 .IsNot) (fun x y H Q=>∃a b,x=.bl a/\y=.bl b/\Q (.bl (!(a == b))) H):=by
 intro pins s σ H x y v u Q I rx ry h;obtain⟨a,b,rfl,rfl,q⟩:=h;cases rx;cases ry;exact wpAny_isNot_plain rfl ⟨.bl (!(a == b)),H,I,by cases a<;>cases b<;>rfl,q⟩
end R
namespace L2
open PySem PySem.Spec PyProof.Rows
section
variable {X:Cx} {pins:List (A8×Obj)} {σ:St} {H:Hp} {s:A5} {A:F3} {E:A3->A5->Prop} {Q:A3->A5->Prop} {b:Bool}
def kA(K:W.Frag):List V->Hp->VK->Prop:=fun xs H Q=>∃x p,∃(Ts:List String),∃t b,xs=[x,.ref p]/\Cg K H p (Ts.map V.ty)/\qh K H x t/\(∃T,t=.type T/\T ≠ "float" /\ T ≠ "dict")/\W.kitAny K t (Ts.map X9)=some b/\Q (.bl b) H
end
end L2
namespace HT
open PySem PyProof.Rows
noncomputable def lexLe:List Int->List Int->Bool
 | [],[]=>true
 | [],_::_=>true
 | _::_,[]=>false
 | x::xs,y::ys=>if x=y then lexLe xs ys else decide (x<=y)
section
open PySem.SeqAt
open PySem.AutoSeq1 (wpAny_loadPart')
open PySem.MeetsSeq PySem.MeetsSeq2 PySem.MeetsSeq3
end
end HT
namespace L2
open PySem PySem.Spec PyProof.Rows
section
variable {X:Cx}
def kr(K:W.Frag):R2:=fun x y H Q=>∃a b ns ms,x=.ref a/\y=.ref b/\Cg K H a (ns.map V.int)/\Cg K H b (ms.map V.int)/\Q (.bl (HT.lexLe ns ms)) H
end
end L2
namespace R
open PySem L2
noncomputable def Nk:List Dv->Option (List Bool)
 | []=>some []
 | .bl b::ds=>(Nk ds).map (b::·)
 | _=>none
noncomputable def HF:List Dv->Option (List Int)
 | []=>some []
 | .int b::ds=>(HF ds).map (b::·)
 | _=>none
noncomputable def HE:List Dv->Option (List (List Nat))
 | []=>some []
 | .str b::ds=>(HE ds).map (b::·)
 | _=>none
variable {o:Nat}
section
variable {K:W.Frag} {g:G} {H:Hp}
theorem JD:∀{ds:List Dv} {bs:List Bool} {vs:List V},AA K g H 0 ds vs pT->Nk ds=some bs->vs=bs.map V.bl
 | [],bs,vs,h,e=>by cases e;exact CK h
 | d::ds,bs,vs,h,e=>by
  obtain⟨v,r,rfl,h1,h2⟩:=Bm h;cases d<;>simp only[Nk,G9,reduceCtorEq] at e;obtain⟨bs',e,rfl⟩:=e;rw[Ax h1,JD h2 e];rfl
theorem HC:∀{ds:List Dv} {bs:List (List Nat)} {vs:List V},AA K g H 0 ds vs pT->HE ds=some bs->vs=(bs.map tx).map V.str
 | [],bs,vs,h,e=>by cases e;exact CK h
 | d::ds,bs,vs,h,e=>by
  obtain⟨v,r,rfl,h1,h2⟩:=Bm h;cases d<;>simp only[HE,G9,reduceCtorEq] at e;obtain⟨bs',e,rfl⟩:=e;rw[Ap h1,HC h2 e];rfl
def FK(x:Dv):Option Dv:=match x with | .lst xs=>(Nk xs).map fun bs=>.bl (bs.all id) | _=>none
theorem Zr:AI K (one FK) o (eV K):=Df fun g H x v o1 P d Q zd l1 h1 e k=>by
 unfold FK at e;split at e
 ·simp only[G9] at e;obtain⟨bs,e,rfl⟩:=e;obtain⟨p,us,rfl,ha,hx,_⟩:=ED l1 h1;rw[JD hx e] at ha;exact⟨p,bs,rfl,ha,k _ _ (Ak.bl _)⟩
 ·cases e
def lP(x:Dv):Option Dv:=match x with
 | .lst xs=>(HF xs).map fun ns=>.int ns.sum
 | .tup xs=>(HF xs).map fun ns=>.int ns.sum
 | _=>none
def kU(x y:Dv):Option Dv:=match x with
 | .lst xs=>match y with
  | .int d=>match HF xs with | some []=>some (.int d) | some (n::ns)=>some (.int (Q.mxI (n::ns))) | none=>none
  | _=>none
 | _=>none
noncomputable def Hz(x y:Dv):Option Dv:=match x,y with | .int i,.int j=>some (.int (if j > i then j else i)) | _,_=>none
theorem IL{f:Dv->Dv->Option Dv}{r:MK}(h:∀g H x y v w o1 o2 P R d Q,Zd g H->o1<=1->Rep K g H o1 x v P->o2<=1->Rep K g H o2 y w R->f x y=some d->(∀v H',Ak K g H o d v H'->Q v H')->r [v,w] H Q):AI K (two f) o r:=fun g H ds vs d Q zd ra e k=>by
 obtain⟨x,y,rfl,e⟩:=Dn e;obtain⟨v,o1,P,w,o2,R,rfl,h1,h2,h3,h4⟩:=ra.two;exact h g H x y v w o1 o2 P R d Q zd h1 h2 h3 h4 e k
theorem VS:AI K (two Hz) o (fun xs H Q=>∃i j,xs=[.int i,.int j]/\Q (.int (if j > i then j else i)) H):=IL fun g H x y v w o1 o2 P R d Q zd _ h1 _ h2 e k=>by
 unfold Hz at e;split at e
 ·cases e;rw[AL h1,AL h2];exact⟨_,_,rfl,k _ _ (Ak.int _)⟩
 ·cases e
noncomputable def Ka(x:Dv):Option Dv:=match x with
 | .int i=>some (.int i)
 | .bl b=>some (.int (if b then 1 else 0))
 | _=>none
theorem VV:AI K (one Ka) o (fun xs H Q=>(∃i,xs=[.int i]/\Q (.int i) H)\/∃k,xs=[.bl k]/\Q (.int (if k then 1 else 0)) H):=Df fun g H x v o1 P d Q zd l1 h1 e k=>by
 unfold Ka at e;split at e
 ·cases e;rw[AL h1];exact .inl ⟨_,rfl,k _ _ (Ak.int _)⟩
 ·cases e;rw[Ax h1];exact .inr ⟨_,rfl,k _ _ (Ak.int _)⟩
 ·cases e
noncomputable def BI(x:Dv):Option Dv:=match x with | .lst xs=>some (.tup xs) | .tup xs=>some (.tup xs) | _=>none
theorem RI:AI K (one BI) 1 (JQ K):=Df fun g H x v o1 P d Q zd l1 h1 e k=>by
 unfold BI at e;split at e
 ·cases e;obtain⟨p,us,rfl,ha,hx,_⟩:=ED l1 h1;exact⟨p,us,rfl,.inl ⟨ha,fun l hl=>k _ _ (Ak.tup (B9 1) hl hx)⟩⟩
 ·cases e;obtain⟨p,us,rfl,ha,hx,uL⟩:=FD l1 h1;exact⟨p,us,rfl,.inr ⟨ha,k _ _ (Ak.old (Dz (B9 1) uL hx))⟩⟩
 ·cases e
noncomputable def Ng(x:Dv):Option Dv:=match x with | .lst xs=>some (.lst xs) | .tup xs=>some (.lst xs) | .qW ns=>some (.lst (ns.map .int)) | _=>none
theorem VT:AI K (one Ng) 1 (Mj K):=Df fun g H x v o1 P d Q zd l1 h1 e k=>by
 unfold Ng at e;split at e
 ·cases e;obtain⟨p,us,rfl,ha,hx,_⟩:=ED l1 h1;exact⟨p,us,rfl,.inl ha,fun l hl=>k _ _ (Ak.lst zd hx hl)⟩
 ·cases e;obtain⟨p,us,rfl,ha,hx,_⟩:=FD l1 h1;exact⟨p,us,rfl,.inr ha,fun l hl=>k _ _ (Ak.lst zd hx hl)⟩
 ·cases e;obtain⟨p,rfl,ha⟩:=JL h1;exact⟨p,_,rfl,.inl ha,fun l hl=>k _ _ (Ak.lst zd (Dd _) hl)⟩
 ·cases e
def Gf(x y:Dv):Option Dv:=match x,y with
 | .str sep,.lst xs=>match HE xs with
  | some ys=>if(ys.map W0).sum+ys.length * sep.length<=1000000 then some (.str (jn sep ys)) else none
  | none=>none
 | _,_=>none
theorem VU:AI K (two Gf) o (hZ (Qw K)):=IL fun g H x y v w o1 o2 P R d Q zd l1 h1 l2 h2 e k=>by
 unfold Gf at e;split at e
 ·split at e
  ·rename_i sep xs _ ys e1;split at e
   ·rename_i hz;cases e;obtain⟨a,us,rfl,ha,hx,_⟩:=ED l2 h2;rw[Ap h1];rw[HC hx e1] at ha;refine⟨tx sep,a,ys.map tx,rfl,rfl,ha,?_,?_⟩
    ·rw[Yx,F4,Bj];exact A9 hz (by decide)
    ·rw[dJ];exact k _ _ (Ak.str _)
   ·cases e
  ·cases e
 ·cases e
noncomputable def En(x:Dv):Option Dv:=match x with
 | .str l=>if(l.all (fun c=>decide (c < 128)) && decide (l.length<=1000000))=true then some (.str (l.map V5)) else none
 | _=>none
theorem RH:AI K (one En) o (hZ Qt):=Df fun g H x v o1 P d Q zd l1 h1 e k=>by
 unfold En at e;split at e
 ·split at e
  ·rename_i l c;cases e;rw[A2,decide_eq_true_eq,E1] at c;rw[Ap h1];exact⟨l,rfl,rfl,fun x hx=>of_decide_eq_true (c.1 x hx),c.2,k _ _ (Ak.str _)⟩
  ·cases e
 ·cases e
def fY(e:Dv):List Dv->Option Nat
 | []=>none
 | d::ds=>if qz d e=true then some 0 else(fY e ds).map (·+1)
def iP(x e:Dv):Option Dv:=match x with
 | .tup xs=>if(e.cmp && BZ xs && decide (Cd xs<=150))=true then(fY e xs).map fun j=>.int (j:Nat) else none
 | _=>none
noncomputable def YC:Dv->Option String
 | .pX=>some "NoneType"
 | .bl _=>some "bool"
 | .int _=>some "int"
 | .str _=>some "str"
 | .tup _=>some "tuple"
 | .lst _=>some "list"
 | _=>none
noncomputable def fN(T:String):Bool:=["int", "bool", "str", "tuple", "list"].contains T
def Av(x y:Dv):Option Dv:=match y with
 | .ty T=>if fN T=true then(YC x).map fun k=>.bl (Q.wV k T) else none
 | _=>none
theorem WE{x:Dv}{v:V}{P:Fp}{kd:String}(l1:o<=1)(h1:Rep K g H o x v P)(e:YC x=some kd):qh K H v (.type kd)/\kd∈["NoneType", "bool", "int", "str", "tuple", "list"]:=by
 cases x with
 | pX=>cases e;rw[DL h1];exact⟨.pX,by simp⟩
 | bl b=>cases e;rw[Ax h1];exact⟨.bl _,by simp⟩
 | int b=>cases e;rw[AL h1];exact⟨.int _,by simp⟩
 | str b=>cases e;rw[Ap h1];exact⟨.str _,by simp⟩
 | tup b=>cases e;obtain⟨p,us,rfl,_,_,ha⟩:=FD l1 h1;exact⟨.tup ha,by simp⟩
 | lst b=>cases e;obtain⟨p,us,rfl,_,_,ha⟩:=ED l1 h1;exact⟨.lst ha,by simp⟩
 | _=>cases e
theorem Zn:AI K (two Av) o (eS K):=IL fun g H x y v w o1 o2 P R d Q zd l1 h1 l2 h2 e k=>by
 unfold Av at e;split at e
 ·rename_i T;split at e
  ·rename_i c
   have hT:T∈["int", "bool", "str", "tuple", "list"]:=by unfold fN at c;simpa using c
   have hw:w=.ty T:=by unfold Rep at h2;exact h2.1
   subst hw;rw[G9] at e;obtain⟨kd,e1,rfl⟩:=e;obtain⟨ty,hk⟩:=WE l1 h1 e1;exact⟨v,T,.type kd,_,rfl,ty,_root_.Q.xH K hk hT,k _ _ (Ak.bl _)⟩
  ·cases e
 ·cases e
def lF(f:List Int->List Int->Bool)(xs:List Dv)(y:Dv):Option Bool:=match y with
 | .tup ys=>(HF xs).bind fun a=>(HF ys).map fun b=>f a b
 | _=>none
abbrev MH:=Ce fun i j=>decide (i < j)
abbrev gp:=Ce fun i j=>decide (i<=j)
end
end R
namespace L2
open PySem PySem.Spec PyProof.Rows
end L2
namespace L3
open PySem PySem.Spec PyProof.Rows L2
end L3
namespace KO
open PySem PySem.W PyProof.Rows
end KO
namespace L2
open PySem PySem.Spec PyProof.Rows
end L2
namespace R
open PySem L2
noncomputable def Qm:Dv->Option (List Dv)
 | .tup ds=>some ds
 | .lst ds=>some ds
 | .qW ns=>some (ns.map .int)
 | _=>none
section
variable {K:W.Frag} {g:G} {H:Hp}
abbrev jd(K:W.Frag)(g:G)(H:Hp)(a:A8)(b:Bool)(ds:List Dv):Prop:=∀g2 H2,Gg g H g2 H2->∃vs,Kc K H2 a vs b/\AA K g2 H2 0 ds vs pT
theorem JK{d:Dv}{ds:List Dv}{v:V}(h:Rep K g H 0 d v pT)(e:Qm d=some ds):∃a b,v=.ref a/\jd K g H a b ds:=by
 have z1:(0:Nat)<=1:=by decide
 cases d with
 | tup es =>
  cases e;obtain⟨a,vs,rfl,_⟩:=FD z1 h;refine⟨a,true,rfl,fun g2 H2 st=>?_⟩;obtain⟨a',us,q,k1,k2,_⟩:=FD z1 (st.rep h);cases q;exact⟨us,k1,k2⟩
 | lst es =>
  cases e;obtain⟨a,vs,rfl,_⟩:=ED z1 h;refine⟨a,false,rfl,fun g2 H2 st=>?_⟩;obtain⟨a',us,q,k1,k2,_⟩:=ED z1 (st.rep h);cases q;exact⟨us,k1,k2⟩
 | qW ns =>
  cases e;obtain⟨a,rfl,_⟩:=JL h;refine⟨a,false,rfl,fun g2 H2 st=>?_⟩;obtain⟨a',q,k1⟩:=JL (st.rep h);cases q;exact⟨_,k1,Dd ns⟩
 | _=>cases e
theorem Ma:Gg g H g H:=by
 first | exact⟨pT,pT,Step.refl,fun _ z=>z.elim⟩ | exact⟨pT,pT,Step.refl,pd.pT⟩ | exact Gg.refl
noncomputable def Bi:List Dv->List Dv->List Dv
 | x1::qV,x2::qZ=>.tup [x1,x2]::Bi qV qZ
 | _,_=>[]
theorem Gz:∀(qV qZ:List Dv) (i:Nat) (e:Dv),(Bi qV qZ)[i]?=some e->∃x1 x2,qV[i]?=some x1/\qZ[i]?=some x2/\e=.tup [x1,x2]
 | x1::qV,x2::qZ,0,e,h=>by simp[Bi] at h;exact⟨x1,x2,rfl,rfl,h.symm⟩
 | x1::qV,x2::qZ,i+1,e,h=>by
  obtain⟨y1,y2,h1,h2,q⟩:=Gz qV qZ i e (by simpa[Bi] using h);exact⟨y1,y2,by simpa using h1,by simpa using h2,q⟩
 | [],_,i,e,h=>by simp[Bi] at h
 | x1::qV,[],i,e,h=>by simp[Bi] at h
theorem HA:∀(qV qZ:List Dv) (i:Nat),(Bi qV qZ).length<=i->qV.length<=i\/qZ.length<=i
 | x1::qV,x2::qZ,0,h=>by simp[Bi] at h
 | x1::qV,x2::qZ,i+1,h=>by
  have:=HA qV qZ i (by simpa[Bi] using h);simp only[D8];omega
 | [],_,i,h=>by simp
 | x1::qV,[],i,h=>by simp
def Mf(ds:List Dv):Option (List Dv):=two (fun x y=>(Qm x).bind fun xs=>(Qm y).bind fun ys=>some (Bi xs ys)) ds
def eI(K:W.Frag):List V->Hp->(It->Hp->Prop)->Prop:=fun vs H1 R=>∃a1 a2 b1 b2,vs=[.ref a1,.ref a2]/\(∃xs,Kc K H1 a1 xs b1)/\(∃xs,Kc K H1 a2 xs b2)/\R (UM K a1 a2 b1 b2) H1
theorem UT{a1 a2:A8}{b1 b2:Bool}{ds1 ds2:List Dv}(h1:jd K g H a1 b1 ds1)(h2:jd K g H a2 b2 ds2):Yl K (UM K a1 a2 b1 b2) (Bi ds1 ds2) g H:=by
 intro g2 H2 st;obtain⟨vs1,ug,r1⟩:=h1 g2 H2 st;obtain⟨vs2,va,r2⟩:=h2 g2 H2 st;refine⟨fun i d e=>?_,fun i hi=>⟨vs1,vs2,ug,va,by have:=HA _ _ _ hi;rw[<- r1.len,<- r2.len];exact this⟩⟩;obtain⟨x1,x2,e1,e2,rfl⟩:=Gz _ _ i d e;obtain⟨u1,_,eu1,ru1,_⟩:=r1.get e1;obtain⟨u2,_,eu2,ru2,_⟩:=r2.get e2;refine⟨⟨vs1,vs2,u1,u2,ug,eu1,va,eu2⟩,fun x H3 y=>?_⟩;obtain⟨p,w1,w2,hp,rfl,rfl,y1,y2⟩:=y;have:=y1 vs1 ug;rw[eu1] at this;cases this;have:=y2 vs2 va;rw[eu2] at this;cases this;exact Ak.tup (by decide) hp (DK (Ea ru1.z) (Ea ru2.z))
theorem Qb:XR K Mf (eI K):=fun g H ds vs pS Q zd ra e q=>by
 obtain⟨x,y,rfl,e⟩:=Dn e;obtain⟨xs,e1,e⟩:=pR e;obtain⟨ys,e2,e⟩:=pR e;cases e;obtain⟨v,us,rfl,h1,h2⟩:=Bm ra;obtain⟨w,us,rfl,h4,h3⟩:=Bm h2;cases CK h3;obtain⟨a,b,rfl,q1⟩:=JK h1 e1;obtain⟨a2,b2,rfl,q2⟩:=JK h4 e2;obtain⟨w1,s1,_⟩:=q1 g H Ma;obtain⟨w2,s2,_⟩:=q2 g H Ma;exact⟨a,a2,b,b2,rfl,⟨w1,s1⟩,⟨w2,s2⟩,q _ H (fun _ _ z=>z) (UT q1 q2)⟩
end
section
variable {K:W.Frag} {g:G} {H:Hp}
noncomputable def jm{α:Type}(f:Dv->Dv->Dv->Option α)(ds:List Dv):Option α:=match ds with | [a,b,c]=>f a b c | _=>none
def gu(ds:List Dv):Option Dv:=match ds with
 | [.int j]=>if small j=true/\j<=1000000 then some (.lst ((C2 j.toNat).map fun k=>.int (k:Nat))) else none
 | [.int i,.int j]=>if(small i && small j)=true/\j - i<=1000000 then some (.lst ((C2 (j - i).toNat).map fun k=>.int (i+(k:Nat)))) else none
 | _=>none
end
noncomputable def Nf(x y:Dv):Option Dv:=match x,y with
 | .lst xs,.int i=>if i = -1 then some (.lst xs.reverse) else none
 | .tup xs,.int i=>if i = -1 then some (.tup xs.reverse) else none
 | _,_=>none
theorem VQ{K:W.Frag}:AI K (two Nf) 1 (JA (jz K)):=Fw fun g H x y v w o1 o2 P R d Q zd l1 h1 l2 h2 e k=>by
 unfold Nf at e;split at e
 ·split at e
  ·rename_i hi;subst hi;cases e;obtain⟨a,us,rfl,ha,hx,_⟩:=ED l1 h1;exact⟨a,us,false,rfl,AL h2,ha,fun l hl=>k _ _ (Ak.lst zd (HW hx) hl)⟩
  ·cases e
 ·split at e
  ·rename_i hi;subst hi;cases e;obtain⟨a,us,rfl,ha,hx,_⟩:=FD l1 h1;exact⟨a,us,true,rfl,AL h2,ha,fun l hl=>k _ _ (Ak.tup (B9 1) hl (HW hx))⟩
  ·cases e
 ·cases e
noncomputable def BD:Dv->Option Bool
 | .pX=>some false
 | .bl b=>some b
 | .int i=>some (i != 0)
 | .str l=>if l.length<=1000000 then some (!l.isEmpty) else none
 | .lst xs=>some (!xs.isEmpty)
 | .tup xs=>some (!xs.isEmpty)
 | .qW xs=>some (!xs.isEmpty)
 | .rX ks _=>some (!ks.isEmpty)
 | _=>none
theorem Mi{K:W.Frag}{g:G}{H:Hp}{o:Nat}{xs:List Dv}{vs:List V}{P:Fp}(h:AA K g H o xs vs P):(!xs.isEmpty)=!vs.isEmpty:=by
 have:=h.len;cases xs<;>cases vs<;>simp at this<;>rfl
theorem Ud(K:W.Frag)(g:G)(H:Hp)(o:Nat)(d:Dv)(v:V)(P:Fp)(b:Bool)(h:Rep K g H o d v P)(e:BD d=some b):UK K v H b:=by
 cases d with
 | pX=>cases e;rw[DL h];exact rfl
 | bl b=>cases e;rw[Ax h];exact rfl
 | int i=>cases e;rw[AL h];exact rfl
 | str l =>
  simp only[BD.eq_def] at e;split at e
  ·rename_i hl;cases e;rw[Ap h];refine⟨by rw[Bj];exact A9 hl (by decide),?_⟩;rw[Bj];cases l<;>simp;omega
  ·cases e
 | lst xs =>
  cases e;unfold Rep at h;obtain⟨a,vs,P',rfl,h1,h2,_⟩:=h;exact .inl ⟨vs,.inl (.inl h1.1),Mi h2⟩
 | tup xs =>
  cases e;unfold Rep at h;obtain⟨a,vs,rfl,h1,h2⟩:=h;exact .inr (.inl ⟨vs,.inl (.inl h1),Mi h2⟩)
 | qW ns =>
  cases e;obtain⟨a,rfl,h1⟩:=JL h;exact .inl ⟨_,h1,by cases ns<;>rfl⟩
 | rX ks ds =>
  cases e;obtain⟨a,us,rfl,ha,hl,hx⟩:=bR h;refine .inr (.inr ⟨_,ha,?_⟩);have:=hx.len;cases ks<;>cases ds<;>cases us<;>simp at hl this<;>rfl
 | _=>cases e
theorem kK{es:List Expr}(h:es.length=1):∃a,es=[a]:=List.length_eq_one_iff.mp h
theorem lL{es:List Expr}(h:es.length=2):∃a b,es=[a,b]:=by
 cases es with
 | nil=>cases h
 | cons a es=>obtain⟨b,rfl⟩:=kK (Nat.succ.inj h);exact⟨a,b,rfl⟩
theorem dO{tg:Expr}(h:Jf tg=true):∃elts x1 q8,tg=.Tuple elts x1 q8:=by
 cases tg<;>first | exact⟨_,_,_,rfl⟩ | cases h
theorem jF{X:Cx}(h:Gx X):X.A.units+1 < R3:=by obtain⟨j,r⟩:=h.2;have:=r.un;omega
theorem kI{X:Cx}(h:Gx X):X.A.units+2 < R3:=by obtain⟨j,r⟩:=h.2;have:=r.un;omega
end R
namespace KO
open PySem PySem.W PyProof.Rows
end KO
namespace L2
open PySem PySem.Spec PyProof.Rows
end L2
namespace R
open PySem L2 PyProof.Rows
end R
namespace XC
open PySem PySem.W PySem.Spec PyProof.Rows L2 Builtin Builtin.ObjectAttr
section
variable {prog:E2} {w:F6} {A:F3} {E:A3->A5->Prop} {R:Result->A5->Prop} {h:F1} {g:Array GenState} {d:Drawn} {t:Nat} {os:OsState}
variable {nm q:Str} {C N:A8} {bs bm:List A3} {hdct:Bool} {sn:List Str} {sub:List A3} {ab:Bool} {col:Option Bool} {dd:Option A8} {k0 k1 k2 k3 k5:Option A3}
noncomputable abbrev FC:String := "ValueError.__new__"
noncomputable abbrev cY(C a:A8):Obj:={ cls:=.ref C,data:=.fields #[.ref a,.none,.none,.none,.bool false,.none] }
noncomputable abbrev cZ(us:List A3):Obj:={ cls:=.type "tuple", data:=.seq us.toArray }
structure yJ (bm:List A3):Prop where
 v:bm.contains (.type "ValueError")=true
 b:bm.contains (.type "BaseException")=true
 a:bm.contains (.type "AttributeError")=false
 n:bm.contains (.type "NameError")=false
theorem cn{bm:List A3}{C:A8}{X:String}{b:Bool}(e:bm.contains (.type X)=b):(D7 C::bm).contains (.type X)=b:=by rw[Z0,e];rfl
theorem UZ{M:ny}{us:List A3}{Q:Unit->A5->Prop}(T:yJ bm)(hC:h.get? C=some (P8 nm q C N bs bm hdct sn sub ab col dd k0 k1 k2 k3 k5 FC))(z:Q () ⟨h,g,d,t,os⟩) :
    B4 M A (ni FC ⟨.ref C::us,[]⟩) Q E ⟨h,g,d,t,os⟩:=by
  have F:=F.excBase_ValueError;have c1:=cn (C:=C) T.v;have st:=F.noStar;simp only[ni,F.newKind,F.newSplit,F.newRow]
  repeat (first
    | refine J0 hC ?_
    | (refine N0 hC ?_;rw[c1])
    | refine wpAny_staticBase_exc hC ?_
    | refine nk hC ?_
    | simp only[bne_self_eq_false,B2,if_false]
    | wp_step)
  exact z
theorem dE{us:List A3}(T:yJ bm)(hC:h.get? C=some (P8 nm q C N bs bm hdct sn sub ab col dd k0 k1 k2 k3 k5 FC))
    (z:R (.ok (.ret (.ref (h.objs.size+1)))) ⟨(h.push (cZ us)).push (cY C h.objs.size),g,d,t,os⟩) (hl:us.length<=sizeLine):j6 (C3 prog w) A (.builtin FC ⟨.ref C::us,[]⟩) R ⟨h,g,d,t,os⟩:=by
  have F:=F.excBase_ValueError;have fe:=F.ends;have c1:=cn (C:=C) T.v;have c2:=cn (C:=C) T.a;have c3:=cn (C:=C) T.n;refine codeAny_builtinAt F.entry ?_;unfold oR.«BaseException.__new__»;refine oO ?_;show PySem.wpAt _ _ _ (stack >>= _) _ _ _;refine oO (PySem.wpAt_stack fun p below=>mR ?_)
  wp_walk
  refine mR ?_;rw[F.owner]
  repeat (first
    | with_reducible refine wpAny_madeHere_exc F.canon hC ?_
    | with_reducible refine J0 hC ?_
    | (with_reducible refine N0 hC ?_;first | rw[c1] | rw[c2] | rw[c3])
    | wp_step)
  show R _ _;rw[L0];exact z
theorem Yo{us:List A3}{fI:A8}{oI:Obj}{Q:A3->A5->Prop}(T:yJ bm)(hC:h.get? C=some (P8 nm q C N bs bm hdct sn sub ab col dd k0 k1 k2 k3 k5 FC))
    (hi:Looks (C3 prog w) h (og (.ref C) "__init__") (some (.ref fI))) (hf:h.get? fI=some oI) (hc:oI.cls=.type "function") (hl:us.length<=sizeLine)
    (z:B4 (C3 prog w) (A.under (.builtin "type.__call__" ⟨.ref C::us,[]⟩)) (call (.ref fI) (.ref (h.objs.size+1)::us)) (fun r s'=>r=.none/\Q (.ref (h.objs.size+1)) s') E ⟨(h.push (cZ us)).push (cY C h.objs.size),g,d,t,os⟩) :
    B4 (C3 prog w) A (call (.ref C) us) Q E ⟨h,g,d,t,os⟩:=by
  have F:=F.excBase_ValueError;have f1:=tc_lookup;have f2:=tc_bind (.ref C)
  have hT:(⟨h,g,d,t,os⟩:A5).TypeIs (.ref C) "type" := ⟨_,hC,rfl⟩
  refine j7 (codeAny_of_tree ?_);show B4 _ _ (callAny (.ref C) _) _ _ _
  repeat (any_goals (first | assumption | with_reducible refine J0 hC ?_ | wp_step))
  refine⟨rfl,?_⟩;refine codeAny_call_builtin_at (mn _ (by decide +kernel)) entry_typeCall (wpAny_check_type_call_sub hC ?_)
  repeat (first
    | with_reducible refine J0 hC ?_
    | with_reducible refine nk hC ?_
    | wp_step)
  refine codeAny_call_builtin_code (mn _ F.quiet) (UZ T hC ?_);refine dE (us:=us) T hC ?_ hl;show B4 _ _ _ _ _ _;have k:∀b o,h.get? b=some o->((h.push (cZ us)).push (cY C h.objs.size)).get? b=some o:=fun b o e=>A6 _ (A6 _ e)
  have hC1:=k _ _ hC;have hg:((h.push (cZ us)).push (cY C h.objs.size)).get? (h.objs.size+1)=some (cY C h.objs.size):=by heap_get
  have cC:(D7 C::bm).contains (.ref C)=true:=by simp
  have hi1:=hi.keeps k;unfold X8
  repeat (first
    | with_reducible refine J0 hg ?_
    | (refine N0 (C:=C) hC1 ?_;rw[cC])
    | wp_step)
  show B4 _ _ (og (.ref C) _) _ _ _;refine hi1.at ?_;refine G7 (A0 ?_);unfold bindSpecial
  refine A0 (X3 (T := "function") ⟨_,k _ _ hf,hc⟩ ?_)
  rw[if_pos (by decide)];refine A7 (A0 (J4 z (fun r s' hr=>?_) fun _ _ x=>x));obtain⟨rfl,hQ⟩:=hr
  wp_walk
  exact hQ
end
end XC
namespace XC
open PySem PySem.W PySem.Spec PyProof.Rows L2
section
variable {M:ny} {A:F3} {E:A3->A5->Prop} {s:A5} {env:Env}
variable {nm q:Str} {C N:A8} {bs bm:List A3} {hdct:Bool} {sn:List Str} {sub:List A3} {ab:Bool} {col:Option Bool} {dd:Option A8} {k0 k1 k2 k3 k5:Option A3}
theorem UX{x:Sem A3}{Q:Flow->A5->Prop}(T:yJ bm)(hh:A.handled=none)
    (z:B4 M A x (fun v pV=>∃e od vs sl,v=.ref e/\pV.heap.get? C=some (P8 nm q C N bs bm hdct sn sub ab col dd k0 k1 k2 k3 k5 FC) /\
      pV.heap.get? e=some ⟨.ref C,od,.fields vs,sl⟩/\vs[1]?=some .none/\E (.ref e) pV) E s):B4 M A (raiseStmt env (some x) none) Q E s:=by
  have c1:=cn (C:=C) T.b;unfold raiseStmt;refine A0 (J4 z (fun v pV h₁=>?_) fun _ _ y=>y);obtain⟨e,od,vs,sl,rfl,hC,he,h1,hE⟩:=h₁;obtain⟨hp,g,d,tk,os⟩:=pV
  repeat (first
    | with_reducible refine J0 he ?_
    | with_reducible refine J0 hC ?_
    | (with_reducible refine N0 hC ?_;rw[c1])
    | wp_step)
  rw[h1];refine A7 ?_;rw[if_neg (by decide)];exact A7 (wpAny_raiseNew_none hh hE)
end
structure vV (h:F1) (e:A8) (oe:Obj) (T:A8) (v:A3):Prop where
 obj:h.get? e=some oe
 ent:∃vs oT ts,oe.data=.fields vs/\vs[1]?=some (.ref T)/\h.get? T=some oT/\oT.data=.fields ts/\ts[3]?=some v
 ne:T≠e
structure v8 (fr:List A8) (e:A8) (old:A8->Prop) (h h':F1):Prop where
 keep:∀b o,h.get? b=some o->b∉fr->b≠e->¬old b->h'.get? b=some o
 slot:∀b o,h.get? b=some o->b≠e->¬old b->∃sl,h'.get? b=some { o with slots:=sl }
variable {Q:Unit->A5->Prop}
section
variable {M:ny} {A:F3} {E:A3->A5->Prop} {s:A5} {env:Env} {outer:List Env} {base:F1} {L e:A8} {oe:Obj} {vs:Array A3}
theorem bH{T:A8}{v:A3}(fl:Option A8){Q:Unit->A5->Prop}(t:vV s.heap e oe T v)
    (z:∀h',(∀b,b≠T->h'.get? b=s.heap.get? b)->vV h' e oe T (fl.elim .none fun f=>N3 f)->Q () { s with heap:=h' }):B4 M A (V6 (.ref e) fl) Q E s:=by
  obtain⟨he,⟨vs,oT,ts,hd,h1,hT,wc,h3⟩,vN⟩:=t;unfold V6;refine A0 (F0 he hd h1 ?_);rw[if_pos (show(D7 T != I9)=true from by simp)];have ot:∀b,b≠T->(s.heap.update T (V9 (·.setIfInBounds 3 (fl.elim I9 fun f=>N3 f)))).get? b=s.heap.get? b:=fun b hb=>G5 _ _ (Ne.symm hb)
  have d3:=T2 wc (·.setIfInBounds 3 (fl.elim I9 fun f=>N3 f));have t3:=(L6.mp h3).1;exact R5 hT wc t3 (z _ ot ⟨(ot e (Ne.symm vN)).trans he,⟨_,_,_,hd,h1,J9 _ hT (U9 d3),d3,by simp[t3]⟩,vN⟩)
theorem JX{head:A3}{b:Bool}{Q:Unit->A5->Prop}(tV:A.frames=some (env::outer))(hl:s.heap.FunFrames base (env::outer))(hf:env.frame=some L)
    (he:s.heap.get? e=some oe) (hd:oe.data=.fields vs) (hz:1 < vs.size)
    (z:∀h' T qQ,v8 (FQ (env::outer)) e (fun _=>False) s.heap h'->s.heap.objs.size<=T->vV h' e { oe with data:=.fields qQ } T (N3 L)->Q () { s with heap:=h' }) :
    B4 M A (do let a <- frameOf env;let pl <- entryPlaceOf L b;let c <- mS head a .none (N3 L) .none pl;setField (.ref e) 1 c) Q E s:=by
  have ne:e∉FQ (env::outer):=fun hm=>by
    obtain⟨_,o,ho,hn⟩:=hl.mem hm;rw[he] at ho;cases ho;exact hn vs hd
  refine A0 (wpAny_frameOf_fun tV hl hf fun h₁ pV=>?_);refine A0 (wpAny_entryPlaceOf fun pl hp=>?_);unfold mS newFields;refine A0 (F9 ?_ (hp.sizeOk5 _ _ _ _ _));generalize ht:(([head,.ref L,.none,N3 L,.none]:List A3)++(if pl.isEmpty then E9 6 I9 else pl)).toArray=ts;have t3:ts[3]?=some (N3 L):=by rw[<- ht];simp
  have he1:h₁.get? e=some oe:=(pV.2.1 e ne).trans he
  have he2:=A6 (h:=h₁) { cls:=.type "traceback", dict:=none,data:=.fields ts } he1
  have hT:h₁.objs.size≠e:=U0 (B7 he1);have hd3:=T2 hd (·.setIfInBounds 1 (D7 h₁.objs.size));have he3:=J9 (V9 (·.setIfInBounds 1 (D7 h₁.objs.size))) he2 (U9 hd3)
  have hT3:=(G5 (h₁.push { cls:=.type "traceback", dict:=none,data:=.fields ts }) (V9 (·.setIfInBounds 1 (D7 h₁.objs.size))) (Ne.symm hT)).trans (D1 h₁ rfl)
  have kp:∀b o,b≠e->h₁.get? b=some o->((h₁.push { cls:=.type "traceback", dict:=none,data:=.fields ts }).update e (V9 (·.setIfInBounds 1 (D7 h₁.objs.size)))).get? b=some o:=fun b o hb q=>by
    rw[G5 _ _ (Ne.symm hb)];exact A6 _ q
  refine R5 he2 hd hz (z _ h₁.objs.size (vs.setIfInBounds 1 (.ref h₁.objs.size)) ⟨fun b o q hb ql _=>kp b o ql ((pV.2.1 b hb).trans q),fun b o q ql _=>?_⟩ (nC pV.1.symm) ⟨?_,⟨_,_,_,rfl,by simp[hz],hT3,rfl,t3⟩,hT⟩)
  · obtain⟨sl,q1⟩:=pV.2.2 b o q;exact⟨sl,kp b _ ql q1⟩
  · refine he3.trans (congrArg some ?_);obtain⟨c,dc,da,sl⟩:=oe;cases hd;rfl
theorem LO{Q:Unit->A5->Prop}(tV:A.frames=some (env::outer))(hl:s.heap.FunFrames base (env::outer))(hf:env.frame=some L)
    (he:s.heap.get? e=some oe) (hd:oe.data=.fields vs) (h1:vs[1]?=some .none)
    (z:∀h' T qQ,v8 (FQ (env::outer)) e (fun _=>False) s.heap h'->s.heap.objs.size<=T->vV h' e { oe with data:=.fields qQ } T (N3 L)->Q () { s with heap:=h' }) :
    B4 M A (Q6 (.ref e) env) Q E s:=by
  unfold Q6;simp only[hf];refine A0 (F0 he hd h1 ?_);rw[if_neg (by decide)];exact JX tV hl hf he hd (L6.mp h1).1 z
theorem OM{T:A8}{Q:Unit->A5->Prop}(tV:A.frames=some (env::outer))(hl:s.heap.FunFrames base (env::outer))(hf:env.frame=some L)(t:vV s.heap e oe T .none)
    (z:∀h' T' qQ,v8 (FQ (env::outer)) e (·=T) s.heap h'->s.heap.objs.size<=T'->vV h' e { oe with data:=.fields qQ } T' (N3 L)->Q () { s with heap:=h' }) :
    B4 M A (Q6 (.ref e) env) Q E s:=by
  obtain⟨he,⟨vs,oT,ts,hd,h1,hT,wc,h3⟩,vN⟩:=t;unfold Q6;simp only[hf];refine A0 (F0 he hd h1 ?_);rw[if_pos (show(D7 T != I9)=true from by simp)];refine A0 (F0 hT wc h3 ?_);rw[if_neg (show ¬((I9 == N3 L)=true) from by simp[N3])];refine A0 (R5 hT wc (L6.mp h3).1 ?_);have ot:∀b,b≠T->(s.heap.update T (V9 (·.setIfInBounds 3 I9))).get? b=s.heap.get? b:=fun b hb=>G5 _ _ (Ne.symm hb)
  have nr:∀b o,s.heap.get? b=some o->(∀vs,o.data≠.fields vs)->b≠T:=fun b o hb hn q=>by
    rw[q,hT] at hb;cases hb;exact hn ts wc
  refine JX (base:=base) tV (hl.of_keeps fun b o hb hn=>⟨o,(ot b (nr b o hb hn)).trans hb,rfl⟩) hf ((ot e (Ne.symm vN)).trans he) hd (L6.mp h1).1 fun h' T' qQ n hz t'=>z h' T' qQ ⟨fun b o q hb ql ho=>n.keep b o ((ot b ho).trans q) hb ql fun z=>z,fun b o q ql ho=>n.slot b o ((ot b ho).trans q) ql fun z=>z⟩ ?_ t'
  simpa using hz
theorem OL{T:A8}(hf:env.frame=some L)(t:vV s.heap e oe T (N3 L))(z:Q () s):B4 M A (Q6 (.ref e) env) Q E s:=by
 obtain⟨he,⟨vs,oT,ts,hd,h1,hT,wc,h3⟩,vN⟩:=t;unfold Q6;simp only[hf];refine A0 (F0 he hd h1 ?_);rw[if_pos (show(D7 T != I9)=true from by simp)];refine A0 (F0 hT wc h3 ?_);rw[if_pos (show(N3 L == N3 L)=true from by simp)];exact A7 z
end
end XC
namespace XC
open PySem PySem.W PySem.Spec PyProof.Rows L2 Builtin Builtin.ObjectAttr
noncomputable abbrev Ub:List A3:=[.type "ValueError", .type "Exception", .type "BaseException", .type "object"]
def Vi:List A3->Bool
 | .ref _::r=>Vi r
 | .type n::r=>(X9 n::r) == Ub
 | _=>false
theorem CU{X:String}:∀{l:List A3},Vi l=true->l.contains (.type X)=Ub.contains (.type X)
 | [],e=>by cases e
 | v::r,e=>by
  cases v with
  | ref c=>rw[Z0,CU (l:=r) e];rfl
  | type n=>rw[show(X9 n::r)=Ub from eq_of_beq e]
  | _=>cases e
theorem GB(self:A3):∀{l:List A3},Vi l=true->refuseLoop self "__setattr__" l=pure ()
 | [],e=>by cases e
 | v::r,e=>by
  cases v with
  | ref c=>rw[refuseLoop_ref];exact GB self (l:=r) e
  | type n=>rw[show(X9 n::r)=Ub from eq_of_beq e];exact F.store_ValueError.passes self
  | _=>cases e
theorem IP{bm:List A3}(e:Vi bm=true):yJ bm:=⟨by rw[CU e];decide,by rw[CU e];decide,by rw[CU e];decide,by rw[CU e];decide⟩
structure uO (K:Frag) (C:A8) (f:Str):Prop where
 lk:∃nm q N bs bm sn sub ab col dd k0 k1 k2 k3 k5,K.lookup C=some (P8 nm q C N bs bm true sn sub ab col dd k0 k1 k2 k3 k5 FC)/\Vi bm=true
 sa:pF K (.ref C) "__setattr__" = some (some (.builtin "object.__setattr__"))
 ga:pF K (.ref C) "__getattribute__" = some (some (.builtin "BaseException.__getattribute__"))
 gh:pF K (.ref C) "__getattr__" = some none
 no:pF K (.ref C) f=some none
section
variable {prog:E2} {w:F6} {A:F3} {E:A3->A5->Prop} {s:A5} {K:Frag} {C x:A8} {f:Str} {v:A3}
theorem uO.cls(c:uO K C f):∃cd,clsIn K C=some cd/\Vi cd.mro=true/\cd.hasDict=true:=by
 obtain⟨nm,q,N,bs,bm,sn,sub,ab,col,dd,k0,k1,k2,k3,k5,e,o⟩:=c.lk;exact⟨_,by unfold clsIn;rw[e],o,rfl⟩
theorem UW{vs:Array A3}{sl:Array (Option A3)}{Q:Unit->A5->Prop}(X:K.In s.heap)(c:uO K C f)(hx:s.heap.get? x=some ⟨.ref C,none,.fields vs,sl⟩)
    (z:∀h' tk,h'.get? x=some ⟨.ref C,some s.heap.objs.size,.fields vs,sl⟩->h'.Ns1 s.heap.objs.size (fun y=>if y=f then some v else none)->(∀b o,b≠x->s.heap.get? b=some o->h'.get? b=some o)->Q () { s with heap:=h',toks:=tk }) :
    B4 (C3 prog w) A (setAttr (.ref x) f v) Q E s:=by
  obtain⟨cd,hc,ho,hd⟩:=c.cls;have SF:=F.store_object;have I:InstAt s.heap x ⟨.ref C,none,.fields vs,sl⟩ C none:=⟨hx,rfl,rfl,True.intro⟩;have ne:cd.mro.isEmpty=false:=by cases q:cd.mro with | nil=>rw[q] at ho;cases ho | cons _ _=>rfl
  have ct:cd.mro.contains (.type "object")=true:=by rw[CU ho];decide
  have sb:Looks (C3 prog w) s.heap (X8 (.ref x) (.type "object")) true:=I.type.andThen (looks_mroIn X (by unfold mroIn;rw[hc,A1,if_neg (by rw[ne];decide),ct]))
  refine set_plain X I c.sa ?_
  refine mJ SF.slot.plain SF.entry (@check_slot (C3 prog w) _ _ { s with toks:=s.toks+1 } "object.__setattr__" "object" "__setattr__" (.ref x) [.str f s.toks,v] [] _ SF.kind SF.split sb (SF.args (.ref x) (.str f s.toks) v) ?_)
  have hm:Looks (C3 prog w) s.heap (mroOf (.ref C)) cd.mro:=(looks_clsIn X hc).andThen .now;rw[osa_eq,refuse_eq];refine A0 (A0 (I.type.here (s:={ s with toks:=s.toks+1 }) (A0 (hm.here (s:={ s with toks:=s.toks+1 }) ?_))));rw[GB _ ho];refine A7 (A0 (I.type.here (s:={ s with toks:=s.toks+1 }) (A0 (pN (s:={ s with toks:=s.toks+1 }) (lW X c.no) (A0 (A7 ?_))))));show B4 _ _ (storeInOwnDict _ _ _ _ _ _) _ _ _
  have tu:(s.heap.push { cls:=.type "dict", data:=.dict #[] }).get? x=some ⟨.ref C,none,.fields vs,sl⟩:=A6 _ hx
  have hxs:x≠s.heap.objs.size:=D3 (B7 hx);refine A0 (A7 (A0 (A0 (wpAny_loadPart hx (A0 (pN (s:={ s with toks:=s.toks+1 }) (looks_clsIn X hc) ?_))))));rw[hd];refine A0 (wpAny_alloc ?_);refine A0 (wpAny_update tu ?_);refine A7 ?_
  have hg:((s.heap.push { cls:=.type "dict", data:=.dict #[] }).update x fun o=>{ cls:=o.cls,dict:=some s.heap.objs.size,data:=o.data,slots:=o.slots }).get? s.heap.objs.size=some { cls:=.type "dict", data:=.dict #[] }:=
    (mT _ _ _ _ hxs.symm).trans (Heap.get?_push_at rfl rfl)
  have hn:((s.heap.push { cls:=.type "dict", data:=.dict #[] }).update x fun o=>{ cls:=o.cls,dict:=some s.heap.objs.size,data:=o.data,slots:=o.slots }).Ns s.heap.objs.size (fun _=>none):=
    ⟨_,#[],_,hg,rfl,fun e he=>absurd he (by simp),fun _=>rfl⟩
  show B4 _ _ (storeInDict s.heap.objs.size _ _ _) _ _ _;unfold storeInDict newKeyGuard;refine A0 (A7 (A0 (wpAny_nsSet1 (Heap.Ns1.of_empty hn) fun h' wa hs=>?_)));obtain⟨oD,esD,epD,hoD,hdD,hcD⟩:=wa.count (Within.cons f v Within.nil);refine A0 (wpAny_lookBehind hoD (by rw[hdD];exact pastItsLine_dict (A9 hcD (by rw[D8,lh,T3];omega))) ?_);refine A7 ?_;show Q () _;refine z h' _ ((hs.2 x hxs).trans (J9 _ tu rfl)) wa fun b o hb q=>(hs.2 b (D3 (B7 q))).trans ((mT _ _ _ _ hb).trans (A6 _ q))
theorem dF{expr:Bool}{dx:A8}{dt:Data}{sl:Array (Option A3)}{mA:Str->Option A3}{Q:A3->A5->Prop}(X:K.In s.heap)(c:uO K C f)(hx:s.heap.get? x=some ⟨.ref C,some dx,dt,sl⟩)(hnc:notCls ⟨.ref C,some dx,dt,sl⟩=true)(hn:s.heap.Ns1 dx mA)
    (hv:mA f=some v) (hh:handedIn v=true) (z:Q v { s with toks:=s.toks+1 }):B4 (C3 prog w) A (oS (.ref x) f expr) Q E s:=by
  obtain⟨cd,hc,ho,hd⟩:=c.cls;obtain⟨oD,e1,hl⟩:=Hd hn;have I:InstAt s.heap x ⟨.ref C,some dx,dt,sl⟩ C (some oD):=⟨hx,rfl,hnc,e1⟩;have hf:=findObj_own (K:=K) (C:=C) (name:=f) (od:=oD) (v:=v) (by unfold hasDictIn;rw[hc];exact hd) c.no rfl (by rw[hl,hv]);have ne:cd.mro.isEmpty=false:=by cases q:cd.mro with | nil=>rw[q] at ho;cases ho | cons _ _=>rfl
  have ct:cd.mro.contains (.type "BaseException")=true:=by rw[CU ho];decide
  have sb:Looks (C3 prog w) s.heap (X8 (.ref x) (.type "BaseException")) true:=I.type.andThen (looks_mroIn X (by unfold mroIn;rw[hc,A1,if_neg (by rw[ne];decide),ct]))
  have FX:=F.excAttr_ValueError;have fb:=FX.ga.bind (.ref x);have L1:Looks (C3 prog w) s.heap (om (.ref x)) (.ref C):=I.type;have L2:=lW (M:=C3 prog w) X c.ga;have L3:=lW (M:=C3 prog w) X c.gh;have L4:=looks_find (M:=C3 prog w) X I hf
  have e2:(Z4 "BaseException.__getattribute__" == Z4 "object.__getattribute__")=false:=by decide +kernel
  have e3:(expr && onTheHeap (Z4 "BaseException.__getattribute__"))=false:=by cases expr<;>rfl
  unfold oS getAttrBy;refine A0 (wpAny_mkText (G7 (A0 (L1.here (s:={ s with toks:=s.toks+1 }) (A0 (L2.here (s:={ s with toks:=s.toks+1 }) ?_))))));dsimp only;rw[e2,Y6,if_neg (by decide)];unfold getAttrByItsOwn hookBefore callGetattribute boundAndCalled;rw[e3,if_pos (show onTheHeap (D7 C)=true from rfl),if_neg (show ¬(false=true) by decide),fb];refine A0 (L3.here (s:={ s with toks:=s.toks+1 }) (A0 (mX (G7 (A0 (A7 ?_))))));refine j7 ?_
  refine mJ FX.ga.plain F.entry_bexc_ga (@check_slot (C3 prog w) _ _ { s with toks:=s.toks+1 } "BaseException.__getattribute__" "BaseException" "__getattribute__" (.ref x) [.str f s.toks] [] _ (by decide +kernel) (by decide +kernel) sb (F.args_bexc_ga (.ref x) (.str f s.toks)) ?_)
  refine A0 (A7 (A0 (A7 (A0 (L1.here (s:={ s with toks:=s.toks+1 }) (A0 (L4.here (s:={ s with toks:=s.toks+1 }) ?_)))))));refine A7 ?_;show B4 _ _ (handedOut v) _ _ _;rw[handedOut_of hh];exact A7 z
end
end XC
namespace XC
open PySem PySem.W PySem.Spec PyProof.Rows L2
def Yh(e C:A8)(h:F1):Prop:=∃vs sl,h.get? e=some ⟨.ref C,none,.fields vs,sl⟩/\vs[1]?=some .none
def Dj(e C dx:A8)(T:A3)(h:F1):Prop:=∃vs sl,h.get? e=some ⟨.ref C,some dx,.fields vs,sl⟩/\vs[1]?=some T
variable {P:E2} {w:F6} {H:Hp} {h:F1} {e C:A8}
theorem ZZ(x:Yh e C h):Ab P w H h e (.ext (Yh e C)):=
 ⟨x,let ⟨_,_,q,_⟩:=x;⟨_,q⟩,fun _ _ ⟨vs,sl,q,r⟩ k=>⟨vs,sl,k _ q,r⟩⟩
theorem SH{dx:A8}{T:A3}(x:Dj e C dx T h):Ab P w H h e (.ext (Dj e C dx T)):=
 ⟨x,let ⟨_,_,q,_⟩:=x;⟨_,q⟩,fun _ _ ⟨vs,sl,q,r⟩ k=>⟨vs,sl,k _ q,r⟩⟩
variable {h':F1} {φ:F1->Prop}
theorem WN{n:A8}{o1 o2:HO}(ok:DT P w H h)(he:H e=some (.ext φ))(hn:H n=none)(ne:n≠e)(k:∀b o,b≠e->h.get? b=some o->h'.get? b=some o)
    (q1:Ab P w (upd (upd H n o1) e o2) h' n o1) (q2:Ab P w (upd (upd H n o1) e o2) h' e o2):DT P w (upd (upd H n o1) e o2) h':=fun b u q=>by
  by_cases hb:b=e
  · subst hb;rw[AM] at q;cases q;exact q2
  · rw[AE hb] at q
    by_cases zZ:b=n
    · subst zZ;rw[AM] at q;cases q;exact q1
    · rw[AE zZ] at q;have st:∀c x,H c=some x->(∀ψ,x≠.ext ψ)->upd (upd H n o1) e o2 c=some x:=fun c x z nx=>by
        rw[AE (fun y=>by subst y;rw[he] at z;cases z;exact nx _ rfl),AE (AR z hn)];exact z
      refine(ok b u q).rq (fun c v hc z=>k c v ?_ z) (fun c z=>st c _ z fun _ y=>by cases y) fun c xs z=>st c _ z fun _ y=>by cases y
      rcases hc with rfl | hc
      · exact hb
      · rintro rfl;rw[he] at hc;cases hc
theorem Yv{fs:List A8}{n:A8}{o1 o2:HO}(he:H e=some (.ext φ))(hn:H n=none)(hz:h.objs.size<=n)(k:∀b o,b≠e->h.get? b=some o->h'.get? b=some o)(hx:∃o,h'.get? e=some o):Un fs [] H (upd (upd H n o1) e o2) h h':=by
 have st:∀c x,H c=some x->(∀ψ,x≠.ext ψ)->upd (upd H n o1) e o2 c=some x:=fun c x z nx=>by
  rw[AE (fun y=>by subst y;rw[he] at z;cases z;exact nx _ rfl),AE (AR z hn)];exact z
 have ne:∀b,H b=none->b≠e:=fun b z y=>by subst y;rw[he] at z;cases z
 refine⟨fun b o q z _ _=>k b o (ne b z) q,fun b o q z _ _=>⟨o.slots,k b o (ne b z) q⟩,fun b o q z _=>?_,fun b o q _=>?_,(fun c xs z=>st c _ z (fun _ y=>nomatch y)),(fun c o u z=>st c _ z (fun _ y=>nomatch y)),fun c ps z=>⟨#[],by rw[st c _ z (fun _ y=>nomatch y)];simp⟩⟩
 ·rw[AE (ne b z),AE (D3 (B3 (B7 q) hz))];exact z
 ·by_cases hb:b=e
  ·subst hb;exact hx
  ·exact⟨o,k b o hb q⟩
def Fe(C:A8)(f:Str):Sp:=fun vs H Q _=>∃e x,vs=[.ref e,x]/\H e=some (.ext (Yh e C))/\∀dx,H dx=none->dx≠e->Q .pX (upd (upd H dx (.xd [(f,x)])) e (.ext (Dj e C dx .none)))
section
variable {X:Cx} {C fI:A8} {f:Str} {i j:Nat}
def eA(C:A8)(f:Str)(i j:Nat):TS:=fun D σ H=>∃e x,σ[i]?=some (some (.ref e))/\σ[j]?=some (some x)/\H e=some (.ext (Yh e C))/\∀dx,H dx=none->dx≠e->D.nx σ (upd (upd H dx (.xd [(f,x)])) e (.ext (Dj e C dx .none)))
theorem VO{o value:Expr}{p pos:Pos}(c:uO X.K C f)(ha:PE X o (DU i))(hv:PE X value (DU j))(hs:Q4 value (some (.Attribute o f p)) pos.line X.env=pure false):PS X (.Assign [.Attribute o f p] value pos) (eA C f i j):=by
  intro pins s σ H D I ⟨e,x,h1,h2,h3,h4⟩;refine plainObj_wpAny_Assign_Attribute (Ac (hv pins s σ H (fun y H1=>y=x/\H1=H) I ⟨x,h2,rfl,rfl⟩) fun u s1 ⟨y,H1,I1,ry,ey,eH⟩=>?_) hs;subst ey eH;refine Ac (ha pins s1 σ H1 (fun y H2=>y=.ref e/\H2=H1) I1 ⟨.ref e,h1,rfl,rfl⟩) fun ov s2 ⟨y2,H2,I2,rx,ex,eH⟩=>?_
  subst ex eH;obtain rfl:ov=D7 e:=rx;obtain⟨⟨vs,sl,ho,hn⟩,_,_⟩:=I2.pb e _ h3;have fr:H2 s2.heap.objs.size=none:=I2.pb.fresh (B9 _);have ne:s2.heap.objs.size≠e:=U0 (B7 ho);refine UW I2.qe c ho fun h' tk q1 q2 q3=>⟨σ,_,?_,h4 _ fr ne⟩
  refine I2.un (h':=h') (t':=tk) (Yv h3 fr (B9 _) q3 ⟨_,q1⟩) (WN I2.pb h3 fr ne q3 ⟨_,q2,fun g=>?_⟩ (SH ⟨vs,sl,q1,hn⟩))
  by_cases q:g=f
  · subst q;rw[if_pos rfl];simp only[E6,beq_self_eq_true];exact ry
  · rw[if_neg q];have:([(f,y)]:List (Str×V)).lookup g=none:=by
      rw[E6,beq_eq_false_iff_ne.mpr q];rfl
    rw[this];exact True.intro
structure XMk (K:Frag) (C:A8) (f:Str) (fI:A8):Prop where
 cl:uO K C f
 init:pF K (.ref C) "__init__" = some (some (.ref fI))
 fn:∃o,K.lookup fI=some o/\o.cls=.type "function"
 kp:keepIn K (.ref C)=true
def dU(C:A8)(f:Str)(t:TA):TE:=fun σ H Q=>t σ H fun vs H1=>∃x,vs=[x]/\∀e dx,H1 e=none->H1 dx=none->dx≠e->Q (.ref e) (upd (upd (upd H1 e (.ext (Yh e C))) dx (.xd [(f,x)])) e (.ext (Dj e C dx .none)))
variable {x:Str} {p pos:Pos} {k:Nat} {fd:K5} {ps:List Str} {e:Expr} {t:TA}
theorem Zv(M:XMk X.K C f fI)(F:qE X.prog X.w X.K X.mg X.base FB k fI fd ps (Fe C f))(hp:ps.length=2)(hr:pj (k+1) X.A)(hg:Gl X x)(hm:X.mg x=some (.ref C))(hb:Binds X.K fd ps [])
    (ha:PA X [e] t) (r9:(x == ("__debug__" : Str))=false) (he:E3 [e] X.env=(false,M3 e X.env)::E3 [] X.env):PE X (.Call (.Name x p) [e] [] pos) (dU C f t):=by
  intro pins s σ H Q I h;refine N4 (DO I hg hm ?_ r9);refine W.callWith_K (h₀:=X.base) I.ok.mod.yw M.kp (Ac (ha pos pins s σ H _ I h) fun us s1 ⟨vs,H1,I1,r,x,ex,q⟩=>⟨I1.qe,?_⟩) he rfl;subst ex;obtain⟨nm,qn,N,bs,bm,sn,sub,ab,col,dd,k0,k1,k2,k3,k5,lk,ov⟩:=M.cl.lk;obtain⟨oI,lkI,cI⟩:=M.fn;have hl:us.length=1:=r.length.symm;have n1:H1 (s1.heap.objs.size+1)=none:=I1.pb.fresh (mF _);have I2:Inv X pins σ (upd H1 (s1.heap.objs.size+1) (.ext (Yh (s1.heap.objs.size+1) C))) { s1 with heap:=(s1.heap.push (cZ us)).push (cY C s1.heap.objs.size) }:=by
    have J:Inv X pins σ H1 { s1 with heap:=s1.heap.push (cZ us) }:=I1.kept (t':=s1.toks) fun b u z=>A6 _ z
    refine J.laid (t':=s1.toks) (fun b u z=>A6 _ z) (by simp) (ZZ ⟨#[.ref s1.heap.objs.size,.none,.none,.none,.bool false,.none],#[],?_,rfl⟩)
    heap_get
  have r2:AG [V.ref (s1.heap.objs.size+1),x] (D7 (s1.heap.objs.size+1)::us):=.cons rfl r;have qx:(D7 (s1.heap.objs.size+1)::us++[]).length=ps.length:=by rw[F8,D8,hl,hp]
  obtain⟨hh,g,d,tk,os⟩:=s1;refine Yo (IP ov) (I1.qe _ _ lk) (lW I1.qe M.init) (I1.qe _ _ lkI) cI (by rw[oP,hl,T3];decide) ?_;refine j7 (X1 (F.run _ X.stack _ _ ⟨D7 (hh.objs.size+1)::us,[]⟩ (D7 (hh.objs.size+1)::us) _ (fun v H2=>v=.pX/\Q (.ref (hh.objs.size+1)) H2) E0 (hr.make C us []) (I2.xg.make C us []) (by have:=hb _ (D7 (hh.objs.size+1)::us) I2.qe qx;rw[F8] at this;exact this) r2 ⟨_,x,rfl,AM,fun dx z y=>⟨rfl,?_⟩⟩) fun r s' zF=>?_)
  · have z1:H1 dx=none:=by rw[AE y] at z;exact z
    exact q _ dx n1 z1 y
  · cases r with
    | error e=>exact D2 zF
    | ok fl =>
      cases fl with
      | ret u =>
        obtain⟨v,H',I3,rv,ev,q3⟩:=I2.after zF;subst ev;exact⟨rv,⟨V.ref (hh.objs.size+1),H',I3,rfl,q3⟩⟩
      | next=>exact D2 zF
      | brk=>exact D2 zF
      | cont=>exact D2 zF
end
structure Ent (h:F1) (H:Hp) (a t:A8) (v:A3:=.none):Prop where
 ex:∃o ts,h.get? t=some o/\o.data=.fields ts/\ts[3]?=some v
 ne:t≠a
 fr:H t=none
def Up(X:Cx)(pins:List (A8×Obj))(H:Hp)(s:A5)(a C dx:A8):Prop:=
 H a=some (.ext (Dj a C dx .none))\/∃t,H a=some (.ext (Dj a C dx (.ref t)))/\(Ent s.heap H a t\/Ent s.heap H a t (N3 X.env.locals))/\X.pz.heap.objs.size<=t/\t∉X.ex/\∀p∈X.pn++pins,p.1≠t
abbrev WK:=A8->A8->A8->Hp->Prop
def Ew(W:WK):XK:=fun v o H=>match v,o with
 | .int i C,some dx=>W i.toNat C dx H
 | _,_=>False
def US(P:E2)(w:F6):Pp:=fun outer H s E v s'=>∃(a C dx t:A8) (H':Hp),v=.ref a/\s'.os=s.os/\W9 s'.gens/\Un (FQ outer) [] H H' s.heap s'.heap/\DT P w H' s'.heap/\H' a=some (.ext (Dj a C dx (.ref t)))/\Ent s'.heap H' a t/\s.heap.objs.size<=t/\E (.int (a:Nat) C) (some dx) H'
def kY(W:WK):Prop:=∀a C dx H φ φ',H a=some (.ext φ)->W a C dx H->W a C dx (upd H a (.ext φ'))
def Wx(X:Cx)(W:WK):Prop:=∀(pins:List (A8×Obj)) (σ:L2.St) (H:Hp) (s:A5) (a C dx:A8),Inv X pins σ H s->Up X pins H s a C dx->W a C dx H->X.xe (.ref a) s
variable {A':F3} {t:A8}
section
variable {X:Cx} {pins:List (A8×Obj)} {σ:L2.St} {H:Hp} {s:A5} {a C dx:A8}
theorem ck{W:WK}(he:X.ex=[])(h:Wx X W):Gi (US X.prog X.w) X (Ew W):=fun pins σ H s e s' I ⟨a,C,dx,t,H',e1,e2,e3,e4,e5,e6,e7,e8,e9⟩=>by
 subst e1;obtain⟨hh,g,d,tk,os⟩:=s';obtain rfl:os=s.os:=e2;refine h pins σ H' _ a C dx (I.call (h':=hh) (g':=g) (d':=d) (t':=tk) (ch:=[]) e4 e5 e3 (fun b z=>nomatch z)) (.inr ⟨t,e6,.inl e7,A9 I.sz e8,fun z=>?_,fun p hp z=>?_⟩) e9
 ·rw[he] at z;cases z
 ·have:=B7 (I.pin p hp).1;rw[z] at this;exact absurd (B3 this e8) (H8 _)
def Kf(X:Cx)(pins:List (A8×Obj))(H:Hp)(t:A8):Prop:=H t=none/\X.pz.heap.objs.size<=t/\∀p∈X.pn++pins,p.1≠t
theorem RZ{E:A3->A5->Prop}{Q:Unit->A5->Prop}(hA:A'.frames=some X.stack)(I:Inv X pins σ H s)(u:Up X pins H s a C dx)(rD:X.stack=X.env::X.outer)(hf:X.env.frame=some X.env.locals)
    (z:∀h' t (ch:List A8) qQ sl,(∀b∈ch,Kf X pins H b/\∃o vs,s.heap.get? b=some o/\o.data=.fields vs)->v8 (FQ X.stack) a (·∈ch) s.heap h'->(t∈ch\/s.heap.objs.size<=t)->Kf X pins H t->vV h' a ⟨.ref C,some dx,.fields qQ,sl⟩ t (N3 X.env.locals)->Q () { s with heap:=h' }) :
    B4 (C3 X.prog X.w) A' (Q6 (.ref a) X.env) Q E s:=by
  rw[rD] at hA;have fr:∀{t:A8},s.heap.objs.size<=t->Kf X pins H t:=fun{t} hz=>⟨I.pb.fresh hz,A9 I.sz hz,fun p hp y=>by
    have:=B7 (I.pin p hp).1;rw[y] at this;exact absurd (B3 this hz) (H8 _)⟩
  rcases u with u | ⟨t,u,ent,ht,hx,hp⟩
  · obtain⟨⟨vs,sl,ho,h1⟩,_,_⟩:=I.pb a _ u;exact LO (base:=X.base) hA (by rw[<- rD];exact I.stack) hf ho rfl h1 fun h' t qQ n hz tr=>z h' t [] qQ sl (fun b y=>nomatch y) ⟨fun b o q hb ql _=>n.keep b o q (by rw[<- rD];exact hb) ql fun y=>y,fun b o q ql _=>n.slot b o q ql fun y=>y⟩ (.inr hz) (fr hz) tr
  · obtain⟨⟨vs,sl,ho,h1⟩,_,_⟩:=I.pb a _ u;have one:∀{v:A3},Ent s.heap H a t v->Kf X pins H t/\∃o vs,s.heap.get? t=some o/\o.data=.fields vs:=fun ent=>⟨⟨ent.fr,ht,hp⟩,let ⟨oT,ts,t1,t2,_⟩:=ent.ex;⟨oT,ts,t1,t2⟩⟩
    have no:∀b,b∉[t]->b≠t:=fun b q y=>q (by rw[y];exact M7 _)
    rcases ent with ent | ent
    · have o1:=one ent;obtain⟨⟨oT,ts,t1,t2,t3⟩,ne,_⟩:=ent;exact OM (base:=X.base) hA (by rw[<- rD];exact I.stack) hf ⟨ho,⟨vs,oT,ts,rfl,h1,t1,t2,t3⟩,ne⟩ fun h' t' qQ n hz tr=>z h' t' [t] qQ sl (fun b hb=>by rw[E5.mp hb];exact o1) ⟨fun b o q hb ql hn=>n.keep b o q (by rw[<- rD];exact hb) ql (no b hn),fun b o q ql hn=>n.slot b o q ql (no b hn)⟩ (.inr hz) (fr hz) tr
    · have o1:=one ent;obtain⟨⟨oT,ts,t1,t2,t3⟩,ne,_⟩:=ent;have tr:vV s.heap a ⟨.ref C,some dx,.fields vs,sl⟩ t (N3 X.env.locals):=⟨ho,⟨vs,oT,ts,rfl,h1,t1,t2,t3⟩,ne⟩;exact OL hf tr (z s.heap t [t] vs sl (fun b hb=>by rw[E5.mp hb];exact o1) ⟨fun b o q _ _ _=>q,fun b o q _ _=>⟨o.slots,q⟩⟩ (.inl (M7 _)) o1.1 tr)
theorem fm{fl:Option A8}{A':F3}{E:A3->A5->Prop}{Q:Unit->A5->Prop}{ch:List A8}{qQ:Array A3}{sl:Array (Option A3)}{v:A3}(n:v8 (FQ X.stack) a (·∈ch) s.heap h')(ht:t∈ch\/s.heap.objs.size<=t)(fr:Kf X pins H t)(tr:vV h' a ⟨.ref C,some dx,.fields qQ,sl⟩ t v)
    (z:∀h2,v8 (FQ X.stack) a (·∈ch) s.heap h2->Dj a C dx (.ref t) h2->Ent h2 (upd H a (.ext (Dj a C dx (.ref t)))) a t (fl.elim .none fun f=>N3 f)->Q () { s with heap:=h2 }) :
    B4 (C3 X.prog X.w) A' (V6 (.ref a) fl) Q E { s with heap:=h' }:=by
  refine bH (s:={ s with heap:=h' }) fl tr fun h2 ot tr2=>z h2 ⟨fun b o q hb ql hn=>(ot b ?_).trans (n.keep b o q hb ql hn),fun b o q ql hn=>let ⟨sl,q2⟩:=n.slot b o q ql hn;⟨sl,(ot b ?_).trans q2⟩⟩ ?_ ?_
  · rintro rfl;exact ht.elim hn fun w=>absurd (B3 (B7 q) w) (H8 _)
  · rintro rfl;exact ht.elim hn fun w=>absurd (B3 (B7 q) w) (H8 _)
  · obtain⟨e1,⟨vs,oT,ts,e2,e3,e4,e5,e6⟩,ne⟩:=tr2;cases e2;exact⟨_,sl,e1,e3⟩
  · obtain⟨e1,⟨vs,oT,ts,e2,e3,e4,e5,e6⟩,ne⟩:=tr2;exact⟨⟨oT,ts,e4,e5,e6⟩,ne,by rw[AE ne];exact fr.1⟩
theorem Mt{E:A3->A5->Prop}{Q:Unit->A5->Prop}(hA:A'.frames=some X.stack)(I:Inv X pins σ H s)(u:Up X pins H s a C dx)(rD:X.stack=X.env::X.outer)(hf:X.env.frame=some X.env.locals)
    (z:∀h' t (ch:List A8),(∀b∈ch,Kf X pins H b/\∃o vs,s.heap.get? b=some o/\o.data=.fields vs)->v8 (FQ X.stack) a (·∈ch) s.heap h'->Kf X pins H t->Dj a C dx (.ref t) h'->Ent h' (upd H a (.ext (Dj a C dx (.ref t)))) a t->Q () { s with heap:=h' }) :
    B4 (C3 X.prog X.w) A' (Q6 (.ref a) X.env) (fun _ s'=>B4 (C3 X.prog X.w) A' (V6 (.ref a) none) Q E s') E s:=
  RZ hA I u rD hf fun h' t ch qQ sl rV n ht fr tr=>fm (fl:=none) n ht fr tr fun h2 n2 fly en=>z h2 t ch rV n2 fr fly en
theorem Jg{fr ch:List A8}{T:A3}(ok:DT P w H h)(n:v8 fr a (·∈ch) h h')(hf:∀b∈fr,H b=none)(hc:∀b∈ch,H b=none)(ha:H a=some (.ext φ))(fl:Dj a C dx T h'):DT P w (upd H a (.ext (Dj a C dx T))) h':=fun b u q=>by
  by_cases hb:b=a
  · subst hb;rw[AM] at q;cases q;exact SH fl
  · rw[AE hb] at q;have st:∀c x,H c=some x->(∀ψ,x≠.ext ψ)->upd H a (.ext (Dj a C dx T)) c=some x:=fun c x z nx=>by
      rw[AE (fun y=>by subst y;rw[ha] at z;cases z;exact nx _ rfl)];exact z
    have kp:∀c v x,H c=some x->c≠a->h.get? c=some v->h'.get? c=some v:=fun c v x z ne y=>n.keep c v y (fun m=>by rw[hf c m] at z;cases z) ne fun m=>by rw[hc c m] at z;cases z
    refine(ok b u q).rq (fun c v u6 z=>?_) (fun c z=>st c _ z (fun _ y=>nomatch y)) fun c xs z=>st c _ z (fun _ y=>nomatch y)
    rcases u6 with rfl | u6
    · exact kp _ v _ q hb z
    · exact kp _ v _ u6 (fun y=>by subst y;rw[ha] at u6;cases u6) z
theorem Up.ext(u:Up X pins H s a C dx):∃φ,H a=some (.ext φ):=by
 rcases u with u | ⟨t,u,_⟩
 ·exact⟨_,u⟩
 ·exact⟨_,u⟩
theorem Of{ch:List A8}(I:Inv X pins σ H s)(ha:H a=some (.ext φ))(rV:∀b∈ch,Kf X pins H b/\∃o vs,s.heap.get? b=some o/\o.data=.fields vs)(n:v8 (FQ X.stack) a (·∈ch) s.heap h')(fl:Dj a C dx (.ref t) h') :
    Inv X pins σ (upd H a (.ext (Dj a C dx (.ref t)))) { s with heap:=h' }:=by
  have na:∀b,H b=none->b≠a:=fun b y x=>by subst x;rw[ha] at y;cases y
  obtain⟨m0,⟨oL,es,ep,xQ,hdL,hrL⟩,_⟩:=id I.loc;have nL:∀b∈ch,b≠X.env.locals:=fun b hb y=>by
    obtain⟨_,o,vs,q1,q2⟩:=rV b hb;rw[y,xQ] at q1;cases q1;rw[hdL] at q2;cases q2
  have st:∀c x,H c=some x->(∀ψ,x≠.ext ψ)->upd H a (.ext (Dj a C dx (.ref t))) c=some x:=fun c x y nx=>by
    rw[AE (fun w=>by subst w;rw[ha] at y;cases y;exact nx _ rfl)];exact y
  refine I.step (h':=h') (g':=s.gens) (t':=s.toks) (d':=s.drawn) (ch:=ch) (fun b hb=>⟨.inr (rV b hb).1.2.1,nL b hb,fun x c e y=>?_,(rV b hb).1.2.2⟩) (fun b o h1 h2 h3 e y=>n.keep b o e (fun w=>(D6.mp (I.qY b w)).elim h1 h2) (na b y) h3) (fun b o h1 h2 h3 e y=>n.slot b o e (na b y) h3)
    (fun b o h3 e y=>by rw[AE (na b y)];exact y) (fun b o h3 e=>?_) (fun c xs y=>st c _ y (fun _ w=>nomatch w)) (fun c o v y=>st c _ y (fun _ w=>nomatch w)) (fun c ps y=>⟨#[],by rw[st c _ y (fun _ w=>nomatch w)];simp⟩) (fun m hm=>?_) (Jg I.pb n I.rG (fun b hb=>(rV b hb).1.1) ha fl) I.bare
  · obtain⟨_,o,vs,q1,q2⟩:=rV b hb;obtain⟨v,oc,ho,hd⟩:=I.cell x c e;rw[y,q1] at ho;cases ho;rw[hd] at q2;cases q2
  · by_cases hb:b=a
    · obtain⟨vs,sl,q,_⟩:=fl;rw[hb];exact⟨_,q⟩
    · obtain⟨sl,q⟩:=n.slot b o e hb h3;exact⟨_,q⟩
  · obtain⟨o,es,ep,ho,r⟩:=hm;obtain⟨sl,q⟩:=n.slot _ o ho (na _ I.free) fun w=>nL _ w rfl
    exact⟨_,es,ep,q,r⟩
theorem iy{E:A3->A5->Prop}{Q:Unit->A5->Prop}(hA:A'.frames=some X.stack)(I:Inv X pins σ H s)(u:Up X pins H s a C dx)(rD:X.stack=X.env::X.outer)(hf:X.env.frame=some X.env.locals)
    (z:∀t h',Inv X pins σ (upd H a (.ext (Dj a C dx (.ref t)))) { s with heap:=h' }->Ent h' (upd H a (.ext (Dj a C dx (.ref t)))) a t->X.pz.heap.objs.size<=t->(∀p∈X.pn++pins,p.1≠t)->Q () { s with heap:=h' }) :
    B4 (C3 X.prog X.w) A' (Q6 (.ref a) X.env) (fun _ s'=>B4 (C3 X.prog X.w) A' (V6 (.ref a) none) Q E s') E s:=by
  obtain⟨φ,ha⟩:=u.ext;exact Mt hA I u rD hf fun h' t ch rV n fr fl en=>z t h' (Of I ha rV n fl) en fr.2.1 fr.2.2
end
theorem leave{P:E2}{w:F6}{K:Frag}{mg:Str->Option A3}{base:F1}{N:List Str}{qual:Str}{scope:K0}{f:A8}{cd:A3}{A:F3}{outer:List Env}{s:A5}{H:Hp}{E:XK}{W:WK}(hs:kY W)(hE:∀(a:Nat) C dx H',W a C dx H'->E (.int (a:Nat) C) (some dx) H') :
    Wx (Ca (US P w) P w K mg base N qual scope f cd A outer s H E) W:=fun pins σ H1 s1 a C dx I u hW=>by
  obtain⟨φ,ha⟩:=u.ext;show B4 _ _ (leaving _ _) _ _ _;refine A0 (Mt (A':=(Ca (US P w) P w K mg base N qual scope f cd A outer s H E).A) I.ok.frames I u rfl rfl fun h' t ch rV n fr fl en=>?_);have na:∀b,H1 b=none->b≠a:=fun b y x=>by subst x;rw[ha] at y;cases y
  have st:∀c x,H1 c=some x->(∀ψ,x≠.ext ψ)->upd H1 a (.ext (Dj a C dx (.ref t))) c=some x:=fun c x y nx=>by
    rw[AE (fun w=>by subst w;rw[ha] at y;cases y;exact nx _ rfl)];exact y
  have nc:∀b o,s.heap.get? b=some o->b∉ch:=fun b o q y=>absurd (B3 (B7 q) (rV b y).1.2.1) (H8 _)
  have nl:∀b o,s.heap.get? b=some o->b≠s.heap.objs.size:=fun b o q=>D3 (B7 q)
  have B:=I.base;refine⟨a,C,dx,t,_,rfl,I.os,I.bare,⟨fun b o q y hb _=>?_,fun b o q y hb _=>?_,fun b o q y _=>?_,fun b o q _=>?_,fun c xs y=>st c _ (B.rL c xs y) (fun _ w=>nomatch w),fun c o v y=>st c _ (B.rE c o v y) (fun _ w=>nomatch w),fun c ps y=>?_⟩,Jg I.pb n I.rG (fun b hb=>(rV b hb).1.1) ha fl,AM,en,fr.2.1,hE a C dx _ (hs a C dx H1 φ _ ha hW)⟩
  · have q1:=B.keep b o q y hb (fun w=>nomatch w);have q2:=B.free b o q y (fun w=>nomatch w);exact n.keep b o q1 (fun w=>(D6.mp (I.qY b w)).elim (nl b o q) hb) (na b q2) (nc b o q)
  · obtain⟨sl,q1⟩:=B.slot b o q y hb (fun w=>nomatch w);have q2:=B.free b o q y (fun w=>nomatch w);obtain⟨sl',q3⟩:=n.slot b _ q1 (na b q2) (nc b o q);exact⟨sl',q3⟩
  · have q2:=B.free b o q y (fun w=>nomatch w);rw[AE (na b q2)];exact q2
  · obtain⟨o1,q1⟩:=B.there b o q (fun w=>nomatch w)
    by_cases hb:b=a
    · obtain⟨vs,sl,q,_⟩:=fl;rw[hb];exact⟨_,q⟩
    · obtain⟨sl,q3⟩:=n.slot b _ q1 hb (nc b o q);exact⟨_,q3⟩
  · obtain⟨m,q⟩:=B.rM c ps y;exact⟨m,st c _ q (fun _ w=>nomatch w)⟩
section
variable {X:Cx} {pins:List (A8×Obj)} {σ:L2.St} {H:Hp} {s:A5}
theorem WL{t':Nat}{m m':Str->Option A3}{σ':L2.St}(I:Inv X pins σ H s)(hn:s.heap.Ns X.env.locals m)(wa:h'.Ns X.env.locals m')(sb:O2 X.env.locals s.heap h')(hl:σ'.length=σ.length)
    (hm:∀(i:Nat) (x:Str) (v:V),X.N[i]?=some x->σ'[i]?=some (some v)->gw X.env.scope x->∃u,RelV v u/\Look X.env s.heap m' x u):Inv X pins σ' H { s with heap:=h',toks:=t' }:=by
  obtain⟨oL,_,_,xQ,_⟩:=id hn;have vE:=I.vE;refine⟨I.ok,I.os,I.bare,⟨fun b o e n hb hx=>?_,fun b o e n hb hx=>?_,I.base.free,fun b o e hx=>?_,I.base.rL,I.base.rE,I.base.rM⟩,⟨m',wa,fun i x v e1 e2 e3=>?_⟩,fun y c e=>?_,I.free,I.qI,fun p hp=>?_,fun b ob e=>?_,hl.trans I.len⟩
  · exact(sb.2 b (D3 (B3 (B7 e) I.ok.above))).trans (I.base.keep b o e n hb hx)
  · obtain⟨sl,e1⟩:=I.base.slot b o e n hb hx;exact⟨sl,(sb.2 b (D3 (B3 (B7 e) I.ok.above))).trans e1⟩
  · obtain⟨o',e1⟩:=I.base.there b o e hx;exact⟨o',(sb.2 b (D3 (B3 (B7 e) I.ok.above))).trans e1⟩
  · obtain⟨u,r,l⟩:=hm i x v e1 e2 e3;refine⟨u,r,?_⟩;rcases l with l | ⟨k,c,e,z⟩
    · exact .inl l
    · exact .inr ⟨k,c,e,z.sameBut sb (vE x c e)⟩
  · obtain⟨w',z⟩:=I.cell y c e;exact⟨w',z.sameBut sb (vE y c e)⟩
  · obtain⟨e,n,ne,nf,d⟩:=I.pin p hp;exact⟨(sb.2 p.1 ne).trans e,n,ne,nf,d⟩
  · refine(I.pb b ob e).rq (fun c w' hc q=>(sb.2 c ?_).trans q) (fun _ q=>q) fun _ _ q=>q
    rintro rfl;rcases hc with rfl | hc
    · rw[I.free] at e;cases e
    · rw[I.free] at hc;cases hc
theorem OP{A:F3}{E:A3->A5->Prop}{i:Nat}{n:Str}{pos:Pos}{Q:Unit->A5->Prop}(I:Inv X pins σ H s)(hN:X.N.Nodup)(hi:X.N[i]?=some n)(hl:X.env.scope.names.lookup n=some .local)
    (z:∀s',Inv X pins (σ.set i none) H s'->Q () s'):B4 (C3 X.prog X.w) A (do l0 X.env n .none;mK X.env n pos) Q E s:=by
  obtain⟨m,hn,hm⟩:=id I.loc;refine wpAny_nameGoes_keeps hl hn (by rw[I.ok.kind];rfl) fun h' v wa sb=>z _ (WL I hn wa sb (by simp) fun j x w e1 e2 e3=>?_)
  have ne:i≠j:=fun y=>by
    subst y;rw[D5 (by rw[I.len];exact(B1.mp hi).1)] at e2;cases e2
  rw[C9 ne] at e2;obtain⟨u,r,l⟩:=hm j x w e1 e2 e3;refine⟨u,r,?_⟩;rcases l with⟨k,e⟩ | l
  · refine .inl ⟨k,?_⟩;have:x≠n:=fun y=>ne (GG hN hi (y▸e1))
    show(if x=n then v else m x)=some u;rw[if_neg this];exact e
  · exact .inr l
end
section
variable {M:ny} {A:F3} {E:A3->A5->Prop} {s:A5}
variable {nm q nm' q':Str} {C N D N':A8} {bs bm bs' bm':List A3} {hdct zU:Bool} {sn sn':List Str} {sub yW:List A3} {ab ab':Bool} {col zx:Option Bool} {dd dd':Option A8} {k0 k1 k2 k3 k5 j0 j1 j2 j3 j5:Option A3}
theorem UY{e:A8}{oe:Obj}{Q:Bool->A5->Prop}(hC:s.heap.get? C=some (P8 nm q C N bs bm hdct sn sub ab col dd k0 k1 k2 k3 k5 FC))(hD:s.heap.get? D=some (P8 nm' q' D N' bs' bm' zU sn' yW ab' zx dd' j0 j1 j2 j3 j5 FC))
    (T:yJ bm') (he:s.heap.get? e=some oe) (hc:oe.cls=.ref C) (z:Q ((D7 C::bm).contains (.ref D)) s):B4 M A (excMatches (.ref e) (.ref D)) Q E s:=by
  have c1:=cn (C:=D) T.b;have f:=tc_notTuple;obtain⟨h,g,d,t,os⟩:=s;unfold excMatches
  repeat (first
    | (with_reducible refine J0 he ?_;rw[hc])
    | with_reducible refine J0 hD ?_
    | (with_reducible refine N0 hD ?_;rw[c1])
    | with_reducible refine N0 hC ?_
    | wp_step)
  cases hb:(D7 C::bm).contains (.ref D)<;>(rw[hb] at z;wp_walk;exact z)
end
noncomputable abbrev WO(X:Cx)(a:A8):Cx:={ X with A:=X.A.mark (some (.ref a)),calm:=false,xe:=fun _ _=>False }
section
variable {X:Cx} {pins:List (A8×Obj)} {σ:L2.St} {H:Hp} {s:A5} {a:A8}
theorem iu(ok:X.Ok):(WO X a).Ok:=
 ⟨ok.mod,ok.kind,ok.glob,ok.blt,ok.above,ok.inj,ok.has,ok.xn,fun z=>(nomatch z),ok.frames,ok.xx,ok.exf,ok.bs,ok.uY,ok.tO,ok.uN,ok.qo,ok.vm⟩
theorem YG(I:Inv X pins σ H s):Inv (WO X a) pins σ H s:=⟨iu I.ok,I.os,I.bare,I.base,I.loc,I.cell,I.free,I.qI,I.pin,I.pb,I.len⟩
theorem fX(I:Inv (WO X a) pins σ H s)(ok:X.Ok):Inv X pins σ H s:=⟨ok,I.os,I.bare,I.base,I.loc,I.cell,I.free,I.qI,I.pin,I.pb,I.len⟩
theorem LF{A:F3}{E:A3->A5->Prop}{dx:A8}{Q:Unit->A5->Prop}(I:Inv X pins σ H s)(ha:H a=some (.ext (Dj a C dx (.ref t))))(en:Ent s.heap H a t)(hz:X.pz.heap.objs.size<=t)(hp:∀p∈X.pn++pins,p.1≠t)
    (z:∀s',Inv X pins σ H s'->Q () s'):B4 (C3 X.prog X.w) A (V6 (.ref a) none) Q E s:=by
  obtain⟨⟨vs,sl,ho,h1⟩,_,_⟩:=I.pb a _ ha;obtain⟨⟨oT,ts,t1,t2,t3⟩,ne,fr⟩:=en;unfold V6;refine A0 (F0 ho rfl h1 ?_);rw[if_pos (show(D7 t != I9)=true from by simp)];refine R5 t1 t2 (L6.mp t3).1 (z _ ?_);refine I.turned (it:=t) (t':=s.toks) (fun b o hb e=>(G5 _ _ (Ne.symm hb)).trans e) fr (fun y=>?_) (.inr hz) (fun x c e y=>?_) hp
  · obtain⟨m,⟨oL,es,ep,xQ,hdL,_⟩,_⟩:=I.loc;rw[<- y,t1] at xQ;cases xQ;rw[hdL] at t2;cases t2
  · obtain⟨v,oc,xO,hd⟩:=I.cell x c e;rw[y,t1] at xO;cases xO;rw[hd] at t2;cases t2
structure XD (K:Frag) (D:A8):Prop where
 lk:∃nm q N bs bm hd sn sub ab col dd k0 k1 k2 k3 k5,K.lookup D=some (P8 nm q D N bs bm hd sn sub ab col dd k0 k1 k2 k3 k5 FC)/\Vi bm=true
noncomputable def below(K:Frag)(C D:A8):Bool:=match clsIn K C with
 | some cd=>cd.mro.contains (.ref D)
 | none=>false
theorem Oh{C dx t D:A8}{dn n:Str}{i:Nat}{np sk:Pos}{zAB:G0}{wI:List G0}{rest:List ExceptHandler}{E:A3->A5->Prop}{Q:Flow->A5->Prop}{f:Str}{tS:TS}{De:Ends}
    (I:Inv X pins σ H s) (ha:H a=some (.ext (Dj a C dx (.ref t)))) (en:Ent s.heap H a t) (hz:X.pz.heap.objs.size<=t) (hp:∀p∈X.pn++pins,p.1≠t)
    (cC:uO X.K C f) (cD:XD X.K D) (hb:below X.K C D=true) (hg:Gl X dn) (hm:X.mg dn=some (.ref D)) (r9:(dn == ("__debug__" : Str))=false)
    (hN:X.N.Nodup) (hi:X.N[i]?=some n) (hl:X.env.scope.names.lookup n=some .local)
    (hS:CP (WO X a) (zAB::wI) tS) (hq:tS De (σ.set i (some (.ref a))) H)
    (z:∀fl s4,SP (WO X a) pins De fl s4->B4 (C3 X.prog X.w) X.A (do l0 X.env n .none;mK X.env n sk) (fun _ s5=>Q fl s5) E s4) :
    B4 (C3 X.prog X.w) X.A (handleBy (.ref a) X.env (.ExceptHandler (some (.Name dn np)) (some n) (zAB::wI) sk::rest)) Q E s:=by
  refine wpAny_handleBy_cons (codeAny_handlers_test ?_) (by intro q;cases q);refine DO (X:=WO X a) (YG I) hg hm ?_ r9;obtain⟨nm,q,N,bs,bm,sn,sub,ab,col,dd,k0,k1,k2,k3,k5,lkC,oC⟩:=cC.lk;obtain⟨nm',q',N',bs',bm',uU,sn',yW,ab',zx,dd',j0,j1,j2,j3,j5,lkD,oD⟩:=cD.lk;obtain⟨⟨vs,sl,ho,h1⟩,_,_⟩:=I.pb a _ ha;refine UY (I.qe _ _ lkC) (I.qe _ _ lkD) (IP oD) ho rfl ?_;have hc:(D7 C::bm).contains (.ref D)=true:=by
    unfold below clsIn at hb;rw[lkC] at hb;exact hb
  rw[hc];refine codeAny_handlers_suite_as ?_;refine LF (X:=WO X a) (YG I) ha en hz hp fun s2 I2=>?_
  refine Ck (X:=WO X a) I2 hN hi (.inl hl) (v:=.ref a) rfl (fun s3 I3=>?_) (.inr hl);exact J4 (hS pins s3 _ H De I3 hq) (fun fl s4 q4=>z fl s4 q4) fun _ _ y=>D2 y
end
end XC
namespace R
open PySem L2 XC
structure Ex where
 c:Str
 f:Str
 d:Dv
def WR(K:W.Frag)(g:G)(P:Fp)(H0:Hp)(r:Ex):WK:=fun a C dx H=>C=Ay K r.c/\H0 a=none/\dx≠a/\∃g' v,Step g P H0 g' pT H/\¬g'.Z a/\H dx=some (.xd [(r.f,v)])/\Rep K g' H 0 r.d v pT
variable {H:Hp}
section
variable {K:W.Frag} {g g1:G} {P P1:Fp} {H0 H1:Hp} {r:Ex}
theorem JH{a:A8}{φ φ':F1->Prop}(h:H a=some (.ext φ)):Step g (·=a) H g pT (upd H a (.ext φ')):=
 ⟨fun b o q n=>by rw[AE n];exact q,fun b q=>by
  by_cases e:b=a
  ·subst e;rw[AM] at q;cases q
  ·rw[AE e] at q;exact q,fun _ z=>z,fun _ z=>.inl z,⟨[],by simp⟩,fun _ z=>z.elim,fun zd b z q=>by
  by_cases e:b=a
  ·subst e;rw[AM] at q;cases q
  ·rw[AE e] at q;exact zd b z q,MS h (fun _ _ _ z=>nomatch z)⟩
theorem WR.stb:kY (WR K g P H0 r):=fun a C dx H φ φ' h ⟨e,n,ne,g',v,st,z,hd,rp⟩=>by
 refine⟨e,n,ne,g',v,?_,z,by rw[AE ne];exact hd,?_⟩
 ·have s2:Step g' (·=a) H g' pT (upd H a (.ext φ')):=JH h;refine⟨fun b o q np=>?_,fun b q=>st.vA b (s2.vA b q),st.zm,st.zn,st.mu,fun b q=>q.elim,fun zd=>s2.zd (st.zd zd),fun b C dx fs q=>?_⟩
  ·have:b≠a:=fun y=>by subst y;rw[n] at q;cases q
   rw[AE this];exact st.keep b o q np
  ·obtain⟨uM,q1,q2⟩:=st.ins b C dx fs q;have:b≠a:=fun y=>by subst y;rw[n] at q;cases q
   exact⟨uM,by rw[AE this];exact q1,q2⟩
 ·refine rp.held (JH (φ':=φ') h) (fun b q=>?_) (fun _ y=>y.elim);rw[show b=a from q,h];exact⟨True.intro,z⟩
theorem WR.later{a C dx:A8}(s:Step g P H0 g1 P1 H1)(w:WR K g1 P1 H1 r a C dx H):WR K g P H0 r a C dx H:=
 let ⟨e,n,ne,g',v,st,z,hd,rp⟩:=w
 ⟨e,s.vA a n,ne,g',v,s.trans st,z,hd,rp⟩
end
abbrev TX:=WK->St->Hp->Prop
def tX(K:W.Frag)(Γ:Gm)(x:M->Option Ex):TX:=fun Wk σ H=>∃g m P,Rel K g H Γ m σ P/\∃r,x m=some r/\∀a C dx H',WR K g P H r a C dx H'->Wk a C dx H'
def jX(X:Cx)(pins:List (A8×Obj))(σ:St)(Wk:WK):Prop:=∀(H:Hp) (s:A5) (a C dx:A8),Inv X pins σ H s->Up X pins H s a C dx->Wk a C dx H->X.xe (.ref a) s
def je(X:Cx)(e:Expr)(t:TX):Prop:=∀(pins:List (A8×Obj)) (s:A5) (σ:St) (H:Hp) (Wk:WK) (Q:A3->A5->Prop),Inv X pins σ H s->t Wk σ H->jX X pins σ Wk->B4 (C3 X.prog X.w) X.A (M3 e X.env) Q X.xe s
def kZ(X:Cx)(e:Expr)(t:TX):Prop:=∀(pins:List (A8×Obj)) (s:A5) (σ:St) (H:Hp) (Wk:WK) (Q:Bool->A5->Prop),Inv X pins σ H s->t Wk σ H->jX X pins σ Wk->B4 (C3 X.prog X.w) X.A (oW e X.env (M3 e X.env)) Q X.xe s
def cz(X:Cx)(e:G0)(t:TX):Prop:=∀(pins:List (A8×Obj)) (s:A5) (σ:St) (H:Hp) (Wk:WK) (Q:Flow->A5->Prop),Inv X pins σ H s->t Wk σ H->jX X pins σ Wk->B4 (C3 X.prog X.w) X.A (exec e X.env) Q X.xe s
def cy(X:Cx)(e:G0)(t:TX):Prop:=∀(pins:List (A8×Obj)) (s:A5) (σ:St) (H:Hp) (Wk:WK) (Q:Flow->A5->Prop),Inv X pins σ H s->t Wk σ H->Wx X Wk->B4 (C3 X.prog X.w) X.A (exec e X.env) Q X.xe s
def Iy(X:Cx)(e:List G0)(t:TX):Prop:=∀(pins:List (A8×Obj)) (s:A5) (σ:St) (H:Hp) (Wk:WK) (Q:Flow->A5->Prop),Inv X pins σ H s->t Wk σ H->Wx X Wk->B4 (C3 X.prog X.w) X.A (execs e X.env) Q X.xe s
section
variable {X:Cx} {Γ ph:Gm} {js js2:List Nat} {e c:Expr} {es:List Expr} {st:G0} {a b rest:List G0} {pos p cp:Pos} {x x2 xa xb:M->Option Ex}
theorem cz.s{t:TX}(h:cz X st t):cy X st t:=fun pins s σ H Wk Q I q w=>h pins s σ H Wk Q I q fun H' s' a C dx J u z=>w pins σ H' s' a C dx J u z
theorem eX(h:kZ X c (tX X.K Γ x)):cz X (.If c a b pos) (tX X.K Γ x):=fun pins s σ H Wk Q I q w=>wpAny_If (h pins s σ H Wk _ I q w)
theorem Zc{op:W6}{y:Expr}(h:je X e (tX X.K Γ x)):kZ X (.Compare e [op] [y] pos) (tX X.K Γ x):=fun pins s σ H Wk Q I q w=>A0 (h pins s σ H Wk _ I q w)
theorem Zb{t:Ev Bool}(hc:PT X c (tT X.K Γ ph js t))(ha:Iy X a (tX X.K ph xa))(hb:Iy X b (tX X.K ph xb)):cy X (.If c a b pos) (tX X.K Γ fun m=>t Ex m fun b m1=>if b=true then xa m1 else xb m1):=by
 intro pins s σ H Wk Q I ⟨g,m,P,r,res,e,q⟩ w;refine wpAny_If (Ac (hc pins s σ H (fun b H1=>if b=true then tX X.K ph xa Wk σ H1 else tX X.K ph xb Wk σ H1) I ⟨g,m,P,r,Ex,_,res,e,fun b m1 g1 P1 H1 hk ag st r1=>?_⟩) fun d s1 ⟨H1,I1,q1⟩=>?_)
 ·cases b with
  | true=>rw[if_pos rfl] at hk ⊢;exact⟨g1,m1,P1,r1,res,hk,fun a C dx H' z=>q a C dx H' (z.later st)⟩
  | false=>rw[if_neg C6] at hk ⊢;exact⟨g1,m1,P1,r1,res,hk,fun a C dx H' z=>q a C dx H' (z.later st)⟩
 ·cases d with
  | true=>exact ha pins s1 σ H1 Wk Q I1 (by rw[if_pos rfl] at q1;exact q1) w
  | false=>exact hb pins s1 σ H1 Wk Q I1 (by rw[if_neg C6] at q1;exact q1) w
theorem Mm:Iy X a (tX X.K Γ fun _=>none):=fun _ _ _ _ _ _ _ ⟨_,_,_,_,_,e,_⟩=>by cases e
theorem Cs:cy X st (tX X.K Γ fun _=>none):=fun _ _ _ _ _ _ _ ⟨_,_,_,_,_,e,_⟩=>by cases e
noncomputable def kX(x:M->Option Ex):Kt Ex:=⟨x,fun _ _=>none,fun _=>none,fun _=>none⟩
theorem VH{F:Fr}{f:Es}(h0:cy X st (tX X.K Γ x))(h1:PS X st (tS X.K F none Γ (some ph) js f))(h2:Iy X rest (tX X.K ph x2)):Iy X (st::rest) (tX X.K Γ fun m=>(x m).or (f Ex m (kX x2))):=by
 intro pins s σ H Wk Q I ⟨g,m,P,r,res,e,q⟩ w;replace e:(x m).or (f Ex m (kX x2))=some res:=e;cases q0:x m with
 | some r0 =>
  rw[q0] at e;cases e;exact O6 (h0 pins s σ H Wk _ I ⟨g,m,P,r,res,q0,q⟩ w)
 | none =>
  rw[q0] at e;refine O6 (Ac (h1 pins s σ H ⟨fun σ' H'=>tX X.K ph x2 Wk σ' H',fun _ _=>False,fun _ _=>False,fun _ _=>False⟩ I ⟨g,m,P,r,Ex,kX x2,res,e,⟨fun Γ' m' g' P' σ' H' eΓ hk ag tj i' r'=>?_,(fun _ _ _ _ _ _ _ _ hk=>by cases hk),(fun _ _ _ _ _ _ z=>by cases z),fun _ _ _ _ _ _ z=>by cases z⟩⟩) fun fl s1 q1=>?_)
  ·cases eΓ;exact⟨g',m',P',r',res,hk,fun a C dx H'' z=>q a C dx H'' (z.later tj)⟩
  ·cases fl with
   | next =>
    obtain⟨σ',H',I',q'⟩:=q1;exact h2 pins s1 σ' H' Wk Q I' q' w
   | brk=>obtain⟨_,_,_,z⟩:=q1;exact z.elim
   | cont=>obtain⟨_,_,_,z⟩:=q1;exact z.elim
   | ret u=>obtain⟨_,_,_,_,_,z⟩:=q1;exact z.elim
theorem Mn(h0:cy X st (tX X.K Γ x)):Iy X (st::rest) (tX X.K Γ x):=fun pins s σ H Wk Q I q w=>O6 (h0 pins s σ H Wk _ I q w)
end
section
variable {K:W.Frag} {g:G} {H:Hp}
theorem HV:∀{ds:List Dv} {vs:List V} {P:Fp} {i:Nat} {d:Dv},AA K g H 0 ds vs P->ds[i]?=some d->∃v,vs[i]?=some v/\Rep K g H 0 d v pT
 | [],vs,P,i,d,h,e=>by simp at e
 | x::ds,vs,P,i,d,h,e=>by
  unfold AA at h;obtain⟨v,r,P1,P2,rfl,h1,h2,_,_⟩:=h;cases i with
  | zero =>
   simp at e;subst e;exact⟨v,rfl,by have z:P1=pT:=CV h1.qB;rw[<- z];exact h1⟩
  | succ i =>
   obtain⟨w,e1,e2⟩:=HV (i:=i) h2 (by simpa using e);exact⟨w,by simpa using e1,e2⟩
theorem Dy:∀{ds:List Dv} {vs:List V} {P:Fp} {o:Nat},AA K g H o ds vs P->vs.length=ds.length
 | [],vs,P,o,h=>by unfold AA at h;rw[h.1];rfl
 | x::ds,vs,P,o,h=>by
  unfold AA at h;obtain⟨v,r,P1,P2,rfl,h1,h2,_,_⟩:=h;rw[D8,D8,Dy h2]
theorem ZY{ds:List Dv}{vs:List V}(zd:Zd g H)(h:AA K g H 0 ds vs pT):Rel K g H (Kh ds.length []) ds (vs.map some) pT:=by
 have hl:(Kh ds.length []).length=ds.length:=by unfold Kh;simp
 refine⟨zd,fun _=>pT,⟨hl.symm,by rw[hl,F4,Dy h],fun i o e=>?_,fun i e a z=>z,fun i j n a z=>z.elim⟩,fun a=>⟨fun z=>z.elim,fun⟨i,z⟩=>z⟩⟩;have hi:i < ds.length:=by rw[<- hl];exact(B1.mp e).1
 have e0:o=0:=by
  unfold Kh at e;rw[C0,L7 hi] at e;simp at e;exact e.symm
 subst e0;obtain⟨v,e1,e2⟩:=HV h (A4 hi);exact⟨ds[i],v,A4 hi,by rw[C0,e1];rfl,e2⟩
end
def cf(K:W.Frag)(n:Nat)(xf:List Dv->Option Ex):Sp:=fun vs H _ E=>∃g ds,Zd g H/\AA K g H 0 ds vs pT/\ds.length=n/\∃r,xf ds=some r/\∀(a:Nat) C dx H',WR K g pT H r a C dx H'->E (.int (a:Nat) C) (some dx) H'
variable {fa:A8} {xf:List Dv->Option Ex}
section
variable {X:Cx} {Γ ph:Gm} {js:List Nat} {e:Expr} {es:List Expr} {pos p cp:Pos} {c f x:Str} {as:List Ar} {k:Nat} {fI:A8} {fd:K5} {ps:List Str}
theorem Qy(hc:X.calm=true)(M:XMk X.K (Ay X.K c) f fI)(F:qE X.prog X.w X.K X.mg X.base FB k fI fd ps (Fe (Ay X.K c) f))(hp:ps.length=2)(hr:pj (k+1) X.A)(hg:Gl X c)(hm:X.mg c=some (.ref (Ay X.K c)))(hb:L2.Binds X.K fd ps [])
    (ha:PA X [e] (BM X.K as)) (ch:AD Γ as ph js) (ev:Lh as=true) (r9:(c == ("__debug__" : Str))=false) (he:E3 [e] X.env=(false,M3 e X.env)::E3 [] X.env) :
    cz X (.Raise (some (.Call (.Name c p) [e] [] cp)) none pos) (tX X.K Γ fun m=>AQ as Ex m fun ds _=>match ds with | [d]=>some ⟨c,f,d⟩ | _=>none):=by
  intro pins s σ H Wk Q I ⟨g,m,P,r,res,e0,q⟩ w;obtain⟨nm,qn,N,bs,bm,sn,sub,ab,col,dd,k0,k1,k2,k3,k5,lk,ov⟩:=M.cl.lk;rw[arm_exec_Raise];refine A0 (Q5 (UX (C:=Ay X.K c) (nm:=nm) (q:=qn) (N:=N) (bs:=bs) (bm:=bm) (hdct:=true) (sn:=sn) (sub:=sub) (ab:=ab) (col:=col) (dd:=dd) (k0:=k0) (k1:=k1) (k2:=k2) (k3:=k3) (k5:=k5) (IP ov) (I.ok.hd hc) ?_));refine A0 (J4 (Zv M F hp hr hg hm hb ha r9 he pins s σ H (fun v H2=>∃a dx,v=.ref a/\H2 a=some (.ext (Dj a (Ay X.K c) dx .none))/\Wk a (Ay X.K c) dx H2) I ?_) (fun v s3 h3=>A0 (Q5 (A7 ?_))) fun _ _ y=>y)
  · unfold dU;refine AK as r ch e0 fun ds m' g' P' vs H1 hk ag s' ar r1=>?_
    have rp:=ar.sY ev
    match ds,hk,rp with
    | [d],hk,rp =>
      cases hk;unfold AA at rp;obtain⟨v,vr,P1,P2,rfl,h1,h2,_,_⟩:=rp;unfold AA at h2;obtain⟨rfl,_⟩:=h2;refine⟨v,rfl,fun a dx na nd ne=>⟨a,dx,rfl,AM,q _ _ _ _ ⟨rfl,s'.vA a na,ne,g',v,?_,fun z=>r1.zd a z na,by rw[AE ne,AM],?_⟩⟩⟩
      · have sm:Iw H1 (upd (upd (upd H1 a (.ext (Yh a (Ay X.K c)))) dx (.xd [(f,v)])) a (.ext (Dj a (Ay X.K c) dx .none))):=fun b o z=>by rw[AE (AR z na),AE (AR z nd),AE (AR z na)];exact z
        exact(s'.trans (Step.same sm)).less fun _ z=>z.elim
      · have sm:Iw H1 (upd (upd (upd H1 a (.ext (Yh a (Ay X.K c)))) dx (.xd [(f,v)])) a (.ext (Dj a (Ay X.K c) dx .none))):=fun b o z=>by rw[AE (AR z na),AE (AR z nd),AE (AR z na)];exact z
        have sv:Rep X.K g' H1 0 d v pT:=by have z:P1=pT:=CV h1.qB;rw[<- z];exact h1
        exact sv.held (Step.same (P:=pT) sm) pd.pT fun _ y=>y.elim
    | [],hk,_=>cases hk
    | _::_::_,hk,_=>cases hk
  · obtain⟨v1,H2,I2,rv,a,dx,rfl,ha2,hW⟩:=h3;obtain rfl:v=.ref a:=rv;obtain⟨⟨vs,sl,ho,h1⟩,_,_⟩:=I2.pb a _ ha2;exact⟨a,_,vs,sl,rfl,I2.qe _ _ lk,ho,h1,w H2 s3 a _ dx I2 (.inl ha2) hW⟩
theorem dI{pins:List (A8×Obj)}{σ:St}{s s':A5}{Wk:WK}{v:A3}(he:X.ex=[])(I:Inv X pins σ H s)(h:US X.prog X.w X.stack H s (Ew Wk) v s'):∃a C dx H',v=.ref a/\Inv X pins σ H' s'/\Up X pins H' s' a C dx/\Wk a C dx H':=by
 obtain⟨a,C,dx,t,H',e1,e2,e3,e4,e5,e6,e7,e8,e9⟩:=h;obtain⟨hh,g,d,tk,os⟩:=s';obtain rfl:os=s.os:=e2;refine⟨a,C,dx,H',e1,I.call (h':=hh) (g':=g) (d':=d) (t':=tk) (ch:=[]) e4 e5 e3 (fun b z=>nomatch z),.inr ⟨t,e6,.inl e7,A9 I.sz e8,fun z=>?_,fun p hp z=>?_⟩,e9⟩
 ·rw[he] at z;cases z
 ·have:=B7 (I.pin p hp).1;rw[z] at this;exact absurd (B3 this e8) (H8 _)
theorem VI(hx:X.ex=[])(F:qE X.prog X.w X.K X.mg X.base (US X.prog X.w) k fa fd ps (cf X.K ps.length xf))(hr:pj k X.A)(hg:Gl X x)(hm:X.mg x=some (.ref fa))(hk:W.keepIn X.K (.ref fa)=true)(hb:L2.Binds X.K fd ps [])
    (ha:PA X (e::es) (BM X.K as)) (ch:AD Γ as ph js) (ev:Lh as=true) (hn:as.length=ps.length) (r9:(x == ("__debug__" : Str))=false) (he:E3 (e::es) X.env=(false,M3 e X.env)::E3 es X.env) (uS:(Q7 pos (E3 es X.env)).any (·.1)=false) :
    je X (.Call (.Name x p) (e::es) [] pos) (tX X.K Γ fun m=>AQ as Ex m fun ds _=>xf ds):=by
  intro pins s σ H Wk Q I ⟨g,m,P,r,res,e0,q⟩ w;refine N4 (DO I hg hm ?_ r9);refine W.callWith_K (h₀:=X.base) I.ok.mod.yw hk (Ac (ha pos pins s σ H (fun vs H1=>cf X.K ps.length xf vs H1 (fun _ _=>False) (Ew Wk)) I ?_) fun us s1 ⟨vs,H1,I1,rv,q1⟩=>⟨I1.qe,?_⟩) he uS
  · refine AK as r ch e0 fun ds m' g' P' vs H1 hk ag s' ar r1=>⟨g',ds,r1.zd,ar.sY ev,ar.len.1.trans hn,res,hk,fun a C dx H' z=>q _ _ _ _ ?_⟩
    have z':WR X.K g' P' H1 res a C dx H':=let ⟨e,n,ne,g2,v,st,z,hd,rp⟩:=z;⟨e,n,ne,g2,v,st.sub (fun _ y=>y.elim) (fun _ y=>y),z,hd,rp⟩;exact z'.later s'
  · have hl:(us++[]).length=ps.length:=by rw[F8,<- rv.length];exact F.len _ _ _ _ q1
    refine j7 (X1 (F.run X.A X.stack s1 H1 ⟨us,[]⟩ us vs _ (Ew Wk) hr I1.xg (by have:=hb s1 us I1.qe hl;rw[F8] at this;exact this) rv q1) fun r s' hq=>?_);cases r with
    | error e =>
      obtain⟨a,C,dx,H',rfl,J,u,hW⟩:=dI hx I1 hq;exact w H' s' a C dx J u hW
    | ok fl =>
      cases fl with
      | ret u=>obtain⟨_,_,_,_,_,_,_,z⟩:=hq;exact z.elim
      | next=>exact D2 hq
      | brk=>exact D2 hq
      | cont=>exact D2 hq
end
variable {x qual:Str} {fd:K5}
theorem bG{P:E2}{w:F6}{K:W.Frag}{mg:Str->Option A3}{base:F1}{st:G0}{f:A8}{N ps:List Str}{k:Nat}{xs:M->Option Ex}{xf:List Dv->Option Ex}(Fn:uQ K x qual st f fd)(S:qT N ps (AC st))(hn:ps.length<=N.length)
    (hb:∀(pv:A3) (A:F3) (outer:List Env) (s':A5) (H:Hp) (E:XK),pj k (A.deeper (S1 qual (AC st) s'.heap.objs.size f pv))->Iy (Ca (US P w) P w K mg base N qual (AC st) f pv A outer s' H E) (AJ st) (tX K (Gp N.length ps.length []) xs))
    (hΦ:∀ds r,ds.length=ps.length->xf ds=some r->xs (ds++E9 (N.length - ps.length) .pX)=some r):qE P w K mg base (US P w) (k+1) f fd ps (cf K ps.length xf):=by
  obtain⟨oc,od,kV,doc,pm,an,pv,ct,vc,rfl,lk,u5⟩:=Fn.ex;have len:∀vs H Q E,cf K ps.length xf vs H Q E->vs.length=ps.length:=fun vs H Q E ⟨g,ds,_,h,hl,_⟩=>(Dy h).trans hl
  refine YJ lk u5 S len fun A outer s H vs Q E hr vM=>⟨fun D σ H'=>σ=L2.start N vs/\H'=H,fun pins s' σ H' D I ⟨e1,e2⟩=>?_,rfl,rfl⟩
  subst e1 e2;obtain⟨g,ds,zd,rp,hl,r,e,q⟩:=vM;have r0:Rel K g H' (Gp N.length ps.length []) (ds++E9 (N.length - ps.length) .pX) (L2.start N vs) pT:=by
    unfold L2.start Gp;rw[Dy rp,<- hl];exact(ZY zd rp).pad _
  exact hb pv A outer s H' E hr pins s' _ H' (WR K g pT H' r) _ I ⟨g,_,pT,r0,r,hΦ ds r hl e,fun a C dx H2 z=>z⟩ (leave WR.stb q)
theorem Oc{prog:E2}{w:F6}{A:F3}{E:A3->A5->Prop}{s:A5}{a C:A8}{o:Obj}{Q:A3->A5->Prop}(h:s.heap.get? a=some o)(hc:o.cls=.ref C)(z:Q (.bool true) s):B4 (C3 prog w) A (call (.builtin "isinstance") [.ref a,.ref C]) Q E s:=by
 refine call_isinstance (S:=fun _ R s=>(∃o,s.heap.get? a=some o/\o.cls=.ref C)/\R (.ok (.ret (.bool true))) s) (fun _ _ _ _ s hs=>?_) ⟨⟨o,h,hc⟩,z⟩;obtain⟨⟨o,ho,hc⟩,hR⟩:=hs;refine isinstance_outer ?_ (by intro e;cases e);obtain⟨hh,g,d,t,os⟩:=s;have ee:(D7 C == D7 C)=true:=by simp
 repeat (first
  | assumption
  | (with_reducible refine J0 ho ?_;rw[hc])
  | wp_step)
section
variable {Y:Cx} {C:A8} {f c n y:Str} {i j:Nat}
def iq(C:A8):List V->Hp->VK->Prop:=fun vs H Q=>∃a dx T,vs=[.ref a,.ref C]/\H a=some (.ext (Dj a C dx T))/\Q (.bl true) H
theorem TB:Aw Y (.builtin "isinstance") (iq C):=fun pins s σ H xs us Q I r ⟨a,dx,T,e,ha,q⟩=>by
 subst e;cases r with
 | cons r1 r2 =>
  cases r2 with
  | cons r2 r3 =>
   cases r3;cases r1;cases r2;obtain⟨⟨vs,sl,ho,_⟩,_,_⟩:=I.pb a _ ha;exact Oc ho rfl ⟨.bl true,H,I,rfl,q⟩
def dS(C:A8)(f:Str)(i:Nat):TE:=fun σ H Q=>∃a dx T v,σ[i]?=some (some (.ref a))/\H a=some (.ext (Dj a C dx T))/\H dx=some (.xd [(f,v)])/\Q v H
theorem Vc{o:Expr}{pos:Pos}(cl:uO Y.K C f)(ho:PE Y o (DU i))(hb:M0 o f Y.env (M3 o Y.env)=M3 o Y.env):PE Y (.Attribute o f pos) (dS C f i):=fun pins s σ H Q I ⟨a,dx,T,v,h1,h2,h3,q⟩=>by
 refine Na hb (Ac (ho pins s σ H (fun y H1=>y=.ref a/\H1=H) I ⟨.ref a,h1,rfl,rfl⟩) fun u s1 ⟨y,H1,I1,ry,ey,eH⟩=>?_);subst ey eH;obtain rfl:u=D7 a:=ry;obtain⟨⟨vs,sl,hx,_⟩,_,_⟩:=I1.pb a _ h2;obtain⟨mA,ns,rl⟩:=I1.pb dx _ h3;have l:([(f,v)]:List (Str×V)).lookup f=some v:=by simp only[E6,beq_self_eq_true]
 obtain⟨u,hu,ru⟩:=Gh.some_of (v:=v) (o:=mA f) (by rw[<- l];exact rl f);exact dF I1.qe cl hx rfl ns hu (Hi ru) ⟨v,H1,I1.tok _,ru,q⟩
noncomputable abbrev IV(n c y f:Str)(p1 p2 p3 p4 p5 p6 p7 p8 p9:Pos):List G0:=[.If (.Call (.Name "isinstance" p1) [.Name n p2,.Name c p3] [] p4) [.Assign [.Name y p5] (.Attribute (.Name n p6) f p7) p8] [] p9]
def kj(C:A8)(f:Str)(i j:Nat):TS:=fun D σ H=>∃a dx T v,σ[i]?=some (some (.ref a))/\H a=some (.ext (Dj a C dx T))/\H dx=some (.xd [(f,v)])/\D.nx (σ.set j (some v)) H
theorem eg{p1 p2 p3 p4 p5 p6 p7 p8 p9:Pos}(cl:uO Y.K C f)(hN:Y.N.Nodup)(hi:Y.N[i]?=some n)(hl:Y.env.scope.names.lookup n=some .local)(hn:GC n=true)(hj:Y.N[j]?=some y)(hy:Y.env.scope.names.lookup y=some .local)
    (gI:Gl Y "isinstance") (mI:Y.mg "isinstance" = none) (gc:Gl Y c) (mc:Y.mg c=some (.ref C)) (hc:GC c=true):CP Y (IV n c y f p1 p2 p3 p4 p5 p6 p7 p8 p9) (kj C f i j):=by
  have vn:∀p,PE Y (.Name n p) (DU i):=fun p=>RP hi (.inl hl) (BC hn).1 (BC hn).2.1
  have t1:PT Y (.Call (.Name "isinstance" p1) [.Name n p2,.Name c p3] [] p4) _:=Zg (JW (TB (C:=C)) gI mI PyProof.Rows.Boot.«isinstance» (Be (vn p2) (Be (Mr (v:=.ref C) gc mc rfl (BC hc).1) LL rfl) rfl))
  have b1:PS Y (.Assign [.Name y p5] (.Attribute (.Name n p6) f p7) p8) _:=RE hN hj (.inl hy) (Vc cl (vn p6) rfl) rfl (.inr hy);have W:=Ct (Xv (pos:=p9) t1 (Ct b1 EB) (EB (X:=Y))) (EB (X:=Y));refine CP.imp W fun D σ H ⟨a,dx,T,v,h1,h2,h3,q⟩=>?_
  refine⟨.ref a,h1,a,dx,T,rfl,h2,true,rfl,?_⟩;exact⟨a,dx,T,v,h1,h2,h3,q⟩
end
theorem VC{K:W.Frag}{g:G}{Γ:Gm}{m:M}{σ:St}{P:Fp}(hz:∀(i o:Nat),Γ[i]?=some (some o)->o=0)(r:Rel K g H Γ m σ P):∀a,¬P a:=fun a z=>by
 obtain⟨_,F,h1,h4⟩:=r;obtain⟨i,q⟩:=(h4 a).mp z
 by_cases e:∃o,Γ[i]?=some (some o)
 ·obtain⟨o,e⟩:=e;obtain⟨d,v,_,_,rp⟩:=h1.rep i o e;rw[hz i o e] at rp;exact rp.qB a q
 ·exact h1.out i (fun o y=>e ⟨o,y⟩) a q
def SL(x:M->Option Ex)(c f:Str)(j:Nat)(fb:Es):Es:=fun R m k=>match x m with
 | some r=>bif r.c == c && r.f == f then k.nx (m.set j r.d) else none
 | none=>fb R m k
theorem dk{X:Cx}{F:Fr}{pU:Option Gm}{rZ Γn:Gm}{js:List Nat}{fb:Es}{x:M->Option Ex}{st:G0}{dn n c y f:Str}{i j:Nat}{D:A8}{np sk pos p1 p2 p3 p4 p5 p6 p7 p8 p9:Pos}
    (rD:X.stack=X.env::X.outer) (hf:X.env.frame=some X.env.locals) (qk:F.io=[]) (hz:∀(i o:Nat),rZ[i]?=some (some o)->o=0)
    (hb:CP X.rC [st] (tS X.K F pU rZ (some Γn) js fb)) (hx:∀E',cz (X.qR E') st (tX X.K rZ x))
    (cl:uO X.K (Ay X.K c) f) (cD:XD X.K D) (bl:below X.K (Ay X.K c) D=true) (gD:Gl X dn) (mD:X.mg dn=some (.ref D)) (oD:GC dn=true)
    (hN:X.N.Nodup) (hi:X.N[i]?=some n) (hl:X.env.scope.names.lookup n=some .local) (hn:GC n=true) (hj:X.N[j]?=some y) (hy:X.env.scope.names.lookup y=some .local)
    (gI:Gl X "isinstance") (mI:X.mg "isinstance" = none) (gc:Gl X c) (mc:X.mg c=some (.ref (Ay X.K c))) (hc:GC c=true)
    (hi0:rZ[i]?=some none) (hj0:j < rZ.length) (ij:i≠j) (hw:BL Γn (rZ.set j (some 0))=true) :
    PS X (.Try [st] [.ExceptHandler (some (.Name dn np)) (some n) (IV n c y f p1 p2 p3 p4 p5 p6 p7 p8 p9) sk] [] [] pos) (tS X.K F pU rZ (some Γn) (j::js) (SL x c f j fb)):=by
  intro pins s σ H De I ⟨g,m,P,r,R,k,res,e,q⟩;have hP:=VC hz r;refine wpAny_Try_except ?_;generalize hE:(fun(e:A3) (pV:A5)=>B4 (C3 X.prog X.w) X.A (Q6 e X.env) (fun _ rn=>B4 (C3 X.prog X.w) X.A (V6 e none) (fun _ qr=>B4 (C3 X.prog X.w) X.A (handleBy e X.env [.ExceptHandler (some (.Name dn np)) (some n) (IV n c y f p1 p2 p3 p4 p5 p6 p7 p8 p9) sk]) (SP X pins De) X.xe qr) X.xe rn) X.xe pV)=E';unfold SL at e;cases q0:x m with
  | none =>
    rw[q0] at e;have yH:CP (X.qR E') [st] (tS X.K F pU rZ (some Γn) js fb):=CP.rC (X:=X.qR E') hb;refine J4 (yH pins s σ H De (I.qR E') ⟨g,m,P,r,R,k,res,e,⟨fun Γ' m' g' P' σ' H' e hk ag=>q.nx Γ' m' g' P' σ' H' e hk (ag.mono fun _ z=>B5 _ z),fun d m' g' P' Pv σ' v H' hk ag=>q.rt d m' g' P' Pv σ' v H' hk (ag.mono fun _ z=>B5 _ z),fun Γ' m' g' P' σ' H' e hk ag=>q.bk Γ' m' g' P' σ' H' e hk (ag.mono fun _ z=>B5 _ z),fun Γ' m' g' P' σ' H' e hk ag=>q.ct Γ' m' g' P' σ' H' e hk (ag.mono fun _ z=>B5 _ z)⟩⟩) (fun fl s1 h1=>?_) fun _ _ z=>z
    cases fl with
    | next=>exact S8 h1.pq
    | brk=>exact h1.pq
    | cont=>exact h1.pq
    | ret u=>exact h1.pq
  | some rx =>
    rw[q0] at e;have hcf:(rx.c == c && rx.f == f)=true:=by
      cases z:(rx.c == c && rx.f == f) with
      | true=>rfl
      | false=>simp only[z,cond_false] at e;cases e
    simp only[hcf,cond_true] at e;rw[A2] at hcf;have ec:=eq_of_beq hcf.1;have ef:=eq_of_beq hcf.2;refine O6 (hx E' pins s σ H (WR X.K g P H rx) _ (I.qR E') ⟨g,m,P,r,rx,q0,fun _ _ _ _ z=>z⟩ fun H1 s1 a C dx J u hW=>?_);have J':Inv X pins σ H1 s1:=J.pq;obtain⟨φ,ha⟩:=u.ext;show E' (.ref a) s1;rw[<- hE];refine iy (X:=X) J'.ok.frames J' u rD hf fun t h' I2 en yC zG=>?_
    obtain⟨eC,na,ne,g',v,stp,nz,hd,rp⟩:=WR.stb a C dx H1 φ (Dj a C dx (.ref t)) ha hW;rw[ec] at eC;rw[ef] at hd;subst eC;refine Oh (De:=⟨fun σ' H'=>De.nx (σ'.set i none) H',fun _ _=>False,fun _ _=>False,fun _ _=>False⟩) I2 AM en yC zG cl cD bl gD mD (BC oD).1 hN hi hl (eg (Y:=WO X a) (i:=i) (j:=j) cl hN hi hl hn hj hy gI mI gc mc hc) ⟨a,dx,.ref t,v,D5 (by rw[J'.len];exact(B1.mp hi).1),AM,hd,?_⟩ fun fl s4 h4=>?_
    · have r1:=r.held stp r.pZ (fun b z _=>hP b z);obtain⟨P2,r2,s2⟩:=r1.drop j rx.d (some v);have lj:j < σ.length:=by rw[J'.len];exact(B1.mp hj).1
      obtain⟨P3,r3,s3⟩:=r2.putIn hj0 (D5 lj) rp (fun _ z=>z.elim);rw[nG] at r3;obtain⟨P4,r4,s4⟩:=r3.drop i (M.at (m.set j rx.d) i) none;have e1:(rZ.set j (some 0)).set i none=rZ.set j (some 0):=Cn (by rw[C9 (Ne.symm ij)];exact hi0);have li:i < (m.set j rx.d).length:=by rw[C8,r.len.1];exact(B1.mp hi0).1
      have e2:(m.set j rx.d).set i (M.at (m.set j rx.d) i)=m.set j rx.d:=Cn (by rw[Gc (A4 li)];exact A4 li);rw[e1,e2] at r4;have p4:∀b,¬P4 b:=fun b z=>(s3 b (s4 b z)).elim (fun y=>y) fun y=>hP b (s2 b y)
      obtain⟨g5,P5,s5,r5⟩:=r4.weaken hw;have e3:(((σ.set i (some (.ref a))).set j (some v)).set i none)=(σ.set j (some v)).set i none:=by rw[oz _ _ ij,nG]
      show De.nx (((σ.set i (some (.ref a))).set j (some v)).set i none) _;rw[e3];exact q.nx Γn (m.set j rx.d) g5 P5 _ _ rfl e ((BQ.set (i:=j)).mono fun _ z=>by rw[E5.mp z];exact B8) ((stp.less fun b z=>(p4 b z).elim).trans s5) (fun b z=>by rw[qk] at z;cases z) r5
    · cases fl with
      | next =>
        obtain⟨σ',H',I',q'⟩:=h4;exact OP (fX I' J'.ok) hN hi hl fun s' I''=>⟨_,H',I'',q'⟩
      | brk=>obtain⟨_,_,_,z⟩:=h4;exact z.elim
      | cont=>obtain⟨_,_,_,z⟩:=h4;exact z.elim
      | ret u=>obtain⟨_,_,_,_,_,z⟩:=h4;exact z.elim
section
variable {X:Cx}
theorem PS.vd{st:G0}{t:TS}(h:PS X.rC st t):PS X st t:=fun pins s σ H D I hw =>
 J4 (h pins s σ H D (I.qR _) hw) (fun _ _ q=>q.pq) fun _ _ z=>D2 z
theorem PA.vd{es:List Expr}{t:TA}(h:PA X.rC es t):PA X es t:=fun pos pins s σ H Q I hw =>
 J4 (h pos pins s σ H Q (I.qR _) hw) (fun _ _ ⟨v,H',I',r,q⟩=>⟨v,H',I'.pq,r,q⟩) fun _ _ z=>D2 z
end
noncomputable abbrev Xs:=List (Str×Str)
def Yq(f c:Str)(as:List Ar)(m:M):Option Ex:=AQ as Ex m fun ds _=>match ds with | [d]=>some ⟨c,f,d⟩ | _=>none
def dG(r:Rec)(C:Cf)(cx:Xs)(go:Gm->List G0->M->Option Ex)(Γ:Gm)(st:G0):M->Option Ex:=match st with
 | .Raise (some (.Call (.Name c _) [e] [] _)) none _=>(match cx.lookup c with
  | some f=>if GN C.sc c && GC c && noStar e then(match r.A C Γ [] [e] with | some ca=>Yq f c ca.as | none=>fun _=>none) else fun _=>none
  | none=>fun _=>none)
 | .If t a b _=>(match r.T C Γ t with
  | some ct=>fun m=>ct.f Ex m fun b1 m1=>if b1=true then go ct.Γ a m1 else go ct.Γ b m1
  | none=>fun _=>none)
 | _=>fun _=>none
def XU(r:Rec)(C:Cf)(cx:Xs):Nat->Gm->List G0->M->Option Ex
 | 0,_,_=>fun _=>none
 | _+1,_,[]=>fun _=>none
 | n+1,Γ,st::rest=>match r.S C none Γ st with
  | some c=>(match c.Γ with
   | some ph=>fun m=>(dG r C cx (XU r C cx n) Γ st m).or (c.f Ex m (kX (XU r C cx n ph rest)))
   | none=>dG r C cx (XU r C cx n) Γ st)
  | none=>dG r C cx (XU r C cx n) Γ st
def kW(X:Cx)(c f:Str):Prop:=∃fI fd ps k,XMk X.K (Ay X.K c) f fI/\qE X.prog X.w X.K X.mg X.base FB k fI fd ps (Fe (Ay X.K c) f)/\ps.length=2/\pj (k+1) X.A/\X.mg c=some (.ref (Ay X.K c))/\L2.Binds X.K fd ps []
theorem LW{α:Type}{l:List (Str×α)}{c:Str}{v:α}(h:l.lookup c=some v):(c,v)∈l:=E8 h
section
variable {X:Cx} {r:Rec} {C:Cf} {cx:Xs}
theorem av(ok:pY C X.rC)(h:GN C.sc x=true):Gl X x:=BG (X:=X.rC) ok h
theorem Yp(R0:pk r)(ok:pY C X.rC)(hc:X.calm=true)(hx:∀c f,(c,f)∈cx->kW X c f){go:Gm->List G0->M->Option Ex}(hg:∀Γ ss,Iy X ss (tX X.K Γ (go Γ ss)))(Γ:Gm)(st:G0):cy X st (tX X.K Γ (dG r C cx go Γ st)):=by
 unfold dG;split
 ·rename_i c p e cp pos;split
  ·rename_i f hf;split
   ·rename_i hk;simp only[A2] at hk;obtain⟨⟨h1,h2⟩,h3⟩:=hk;cases ha:r.A C Γ [] [e] with
    | none=>exact Cs
    | some ca =>
     obtain⟨a1,a2,a3,a4,a5⟩:=R0.A ok ha;obtain⟨fI,fd,ps,k,M,F,hp,hr,hm,hb⟩:=hx c f (LW hf);exact(Qy hc M F hp hr (av ok h1) hm hb (PA.vd a1) a2 (a5 rfl) (BC h2).1 (AS h3)).s
   ·exact Cs
  ·exact Cs
 ·rename_i t a b pos;cases ht:r.T C Γ t with
  | none=>exact Cs
  | some ct=>exact Zb (PT.rC (R0.T ok ht)) (hg ct.Γ a) (hg ct.Γ b)
 ·exact Cs
theorem Kk(R0:pk r)(ok:pY C X.rC)(hc:X.calm=true)(hx:∀c f,(c,f)∈cx->kW X c f):∀n Γ ss,Iy X ss (tX X.K Γ (XU r C cx n Γ ss))
 | 0,Γ,ss=>Mm
 | n+1,Γ,[]=>Mm
 | n+1,Γ,st::rest=>by
  have h0:=Yp R0 ok hc hx (Kk R0 ok hc hx n) Γ st;unfold XU;cases hs:r.S C none Γ st with
  | none=>exact Mn h0
  | some c =>
   cases hΓ:c.Γ with
   | none=>simp only[hΓ];exact Mn h0
   | some ph =>
    simp only[hΓ];have h1:=R0.S ok hs;rw[hΓ] at h1;exact VH h0 (PS.vd h1) (Kk R0 ok hc hx n ph rest)
end
def ZW(M:Md)(fs:List (Str×qF))(cx:Xs)(st:G0)(ds:List Dv):Option Ex:=XU (cmp 100) (Ek M fs st [] 0) cx 100 (Gp (AH st).length (AB st).length []) (AJ st) (ds++E9 ((AH st).length - (AB st).length) .pX)
def fo(K:W.Frag)(C:A8):Bool:=match K.lookup C with
 | some o=>(match o.data with
  | .cls cd=>o.cls == .type "type" && cd.mro.head? == some (.ref C) && Vi cd.mro.tail && cd.hasDict && !cd.hasDel && (match o.slots.toList with
   | [_,_,_,_,some (.builtin id),_]=>id == FC
   | _=>false)
  | _=>false)
 | none=>false
variable {k:Nat} {fs:List (Str×qF)}
section
variable {P:E2} {w:F6} {K:W.Frag} {mg:Str->Option A3} {base:F1} {C:A8} {c f q:Str} {st:G0} {M:Md}
theorem SK(h:fo K C=true):∃nm q N bs bm sn sub ab col dd k0 k1 k2 k3 k5,K.lookup C=some (P8 nm q C N bs bm true sn sub ab col dd k0 k1 k2 k3 k5 FC)/\Vi bm=true:=by
 unfold fo at h;cases ho:K.lookup C with
 | none=>rw[ho] at h;cases h
 | some o =>
  rw[ho] at h;obtain⟨oc,od,dt,⟨sl⟩⟩:=o;cases dt with
  | cls cd =>
   obtain⟨n1,n2,mr,n4,n5,n6,n7,n8,n9,n10,n11⟩:=cd;simp only[A2,L5] at h;obtain⟨⟨⟨⟨⟨h1,h2⟩,h3⟩,h4⟩,h5⟩,h6⟩:=h;have h1:=eq_of_beq h1;cases mr with
   | nil=>cases h2
   | cons v bm =>
    have h2:=C7 (eq_of_beq h2);split at h6
    ·rename_i k0 k1 k2 k3 id k5;have h6:=eq_of_beq h6;subst h1 h2 h4 h5 h6;exact⟨n1,n5,n4,n2,bm,n7,n8,n9,n10,od,k0,k1,k2,k3,k5,rfl,h3⟩
    ·cases h6
  | _=>cases h
theorem dD(h:fo K C=true):XD K C:=
 let ⟨nm,q,N,bs,bm,sn,sub,ab,col,dd,k0,k1,k2,k3,k5,e,o⟩:=SK h
 ⟨nm,q,N,bs,bm,true,sn,sub,ab,col,dd,k0,k1,k2,k3,k5,e,o⟩
abbrev GX(K:W.Frag)(c f q:Str)(t:G0):Prop:=W.nsIn K I0 c=some (some (.ref (Ay K c)))/\fo K (Ay K c)=true/\W.findIn K (.ref (Ay K c)) "__setattr__" = some (some (.builtin "object.__setattr__")) /\
 W.findIn K (.ref (Ay K c)) "__getattribute__" = some (some (.builtin "BaseException.__getattribute__"))/\W.findIn K (.ref (Ay K c)) "__getattr__" = some none/\W.findIn K (.ref (Ay K c)) f=some none/\W.keepIn K (.ref (Ay K c))=true/\GM K c q "__init__" t
theorem Rw(g:GX K c f q st):uO K (Ay K c) f:=⟨SK g.2.1,g.2.2.1,g.2.2.2.1,g.2.2.2.2.1,g.2.2.2.2.2.1⟩
theorem fg(g:GX K c f q st):XMk K (Ay K c) f (WA K c "__init__"):=⟨Rw g,g.2.2.2.2.2.2.2.1,⟨_,g.2.2.2.2.2.2.2.2.1,rfl⟩,g.2.2.2.2.2.2.1⟩
def WM(M:Md)(st:G0)(f:Str):Bool:=JM (AH st) (AB st) (AC st) && decide ((AB st).length=2) && decide ((AH st).length=2) && match AJ st with
 | [.Assign [.Attribute (.Name a _) g _] (.Name b _) _]=>g == f && lv (Ek M [] st [] 0) a == some 0 && lv (Ek M [] st [] 0) b == some 1
 | _=>false
theorem bW{io:List Nat}{ro:Nat}{CX:Pp}{pv:A3}{A:F3}{outer:List Env}{s:A5}{H:Hp}{E:XK}(b:Bs M K mg)(h:Fs P w K mg base M.fl k fs)(S:qT (AH st) (AB st) (AC st))(hr:pj k (A.deeper (S1 qual (AC st) s.heap.objs.size fa pv))) :
    pY (Ek M fs st io ro) (Ca CX P w K mg base (AH st) qual (AC st) fa pv A outer s H E).rC:=⟨rfl,rfl,S.nd,rfl,fun _ _=>rfl,⟨rfl,k,hr⟩,fun y t q=>by
        obtain⟨a,b,j,hj,q⟩:=h y t q;exact⟨a,b,j,k,hj,hr,q⟩,b.cs,b.bl,rfl⟩
theorem UV{fI:A8}(b:Bs M K mg)(cl:uO K C f)(Fn:uQ K x q st fI fd)(hi:WM M st f=true):qE P w K mg base FB 1 fI fd (AB st) (Fe C f):=by
 unfold WM at hi;simp only[A2,decide_eq_true_eq] at hi;obtain⟨⟨⟨h1,hp⟩,zG⟩,h4⟩:=hi;refine Fn.ok (k:=0) (DC h1) (fun vs H Q E ⟨e,x,ev,_⟩=>by rw[ev,hp];rfl) fun pv A outer s H vs Q E hr ⟨e,x,ev,he,hq⟩=>?_
 have ok:pY (Ek M [] st [] 0) (Ca FB P w K mg base (AH st) q (AC st) fI pv A outer s H E).rC:=bW b (Fs.nil (k:=0)) (DC h1) hr;split at h4
 ·rename_i a p1 g p2 b2 p3 p4 sr;rw[sr];simp only[A2] at h4;obtain⟨⟨e1,e2⟩,e3⟩:=h4;have e1:=eq_of_beq e1;subst e1;refine⟨_,Ct (VO cl (Mv ok (eq_of_beq e2)) (Mv ok (eq_of_beq e3)) rfl) EB,?_⟩;subst ev;have es:L2.start (AH st) [.ref e,x]=[some (.ref e),some x]:=by unfold L2.start;rw[zG];rfl
  refine⟨e,x,by rw[es];rfl,by rw[es];rfl,he,fun dx z y=>hq dx z y⟩
 ·cases h4
def Xk(P:E2)(w:F6)(K:W.Frag)(mg:Str->Option A3)(base:F1)(cx:Xs):Prop:=∀c f,(c,f)∈cx->∃fI fd ps,XMk K (Ay K c) f fI/\qE P w K mg base FB 1 fI fd ps (Fe (Ay K c) f)/\ps.length=2/\mg c=some (.ref (Ay K c))/\L2.Binds K fd ps []
theorem Xk.nil:Xk P w K mg base []:=fun _ _ h=>by cases h
theorem Xk.cons{cx:Xs}(h:Xk P w K mg base cx)(b:Bs M K mg)(g:GX K c f q st)(hm:mg c=some (.ref (Ay K c)))(hi:WM M st f=true)(hb:IB "__init__" q st):Xk P w K mg base ((c,f)::cx):=fun c' f' hm'=>by
 rcases D6.mp hm' with e | e
 ·cases e;have gm:=g.2.2.2.2.2.2.2
  have Fn:uQ K "__init__" q st (WA K c "__init__") _:=SB gm.2.1 gm.2.2.1 gm.2.2.2.1
  refine⟨_,_,_,fg g,UV b (Rw g) Fn hi,?_,hm,Fn.binds hb⟩;unfold WM at hi;simp only[A2,decide_eq_true_eq] at hi;exact hi.1.1.2
 ·exact h c' f' e
theorem WX{cx:Xs}{x qual:Str}{fa:A8}{fd:K5}{xF:List Dv->Option Ex}(b:Bs M K mg)(h:Fs P w K mg base M.fl k fs)(hx:Xk P w K mg base cx)(hk:2<=k)(c1:JM (AH st) (AB st) (AC st)=true)(c4:(AB st).length<=(AH st).length)
    (hF:∀ds,ds.length=(AB st).length->ZW M fs cx st ds=xF ds) (Fn:uQ K x qual st fa fd):qE P w K mg base (US P w) (k+1) fa fd (AB st) (cf K (AB st).length xF):=by
  have S:=DC c1;refine bG (N:=AH st) (xs:=XU (cmp 100) (Ek M fs st [] 0) cx 100 (Gp (AH st).length (AB st).length []) (AJ st)) Fn S c4 (fun pv A outer s' H E hr=>?_) fun ds r hl hf=>(hF ds hl).trans hf
  have ok:pY (Ek M fs st [] 0) (Ca (US P w) P w K mg base (AH st) qual (AC st) fa pv A outer s' H E).rC:=bW b h S hr;refine Kk (Ij 100▸DQ 100) ok rfl (fun c f hc=>?_) 100 _ _;obtain⟨fI,fd,ps,m1,m2,m3,m4,m5⟩:=hx c f hc;exact⟨fI,fd,ps,1,m1,m2,m3,hr.mono hk,m4,m5⟩
end
noncomputable def Ld:G0->Option (Str×Expr×List Expr)
 | .If (.Compare (.Call (.Name x _) (e::es) [] _) [_] [_] _) _ _ _=>some (x,e,es)
 | _=>none
theorem Ol{X:Cx}{Γ:Gm}{s:G0}{e:Expr}{es:List Expr}{t:M->Option Ex}(h:Ld s=some (x,e,es))(hc:∀p q,je X (.Call (.Name x p) (e::es) [] q) (tX X.K Γ t)):cz X s (tX X.K Γ t):=by
 unfold Ld at h;split at h
 ·cases h;exact eX (Zc (hc _ _))
 ·cases h
structure Hn where
 dn:Str
 n:Str
 c:Str
 y:Str
 f:Str
noncomputable def NH(h:List ExceptHandler):Option Hn:=match h with
 | [.ExceptHandler (some (.Name dn _)) (some n) [.If (.Call (.Name isi _) [.Name n1 _,.Name c _] [] _) [.Assign [.Name y _] (.Attribute (.Name n2 _) f _) _] [] _] _]=>if isi == ("isinstance" : Str) && n1 == n && n2 == n then some ⟨dn,n,c,y,f⟩ else none
 | _=>none
theorem LZ{h:List ExceptHandler}{t:Hn}(e:NH h=some t):∃np sk p1 p2 p3 p4 p5 p6 p7 p8 p9,h=[.ExceptHandler (some (.Name t.dn np)) (some t.n) (IV t.n t.c t.y t.f p1 p2 p3 p4 p5 p6 p7 p8 p9) sk]:=by
 unfold NH at e;split at e
 ·split at e
  ·rename_i hk;simp only[A2] at hk;obtain⟨⟨h1,h2⟩,h3⟩:=hk;have h1:=eq_of_beq h1;have h2:=eq_of_beq h2;have h3:=eq_of_beq h3;subst h1 h2 h3;cases e;exact⟨_,_,_,_,_,_,_,_,_,_,_,rfl⟩
  ·cases e
 ·cases e
def sU(Γ:Gm):Bool:=Γ.all fun o=>match o with | some n=>n == 0 | none=>true
theorem bE{Γ:Gm}(h:sU Γ=true):∀(i o:Nat),Γ[i]?=some (some o)->o=0:=fun i o e=>by
 have:=(E1.mp h) _ (K7 e);exact eq_of_beq this
def SE(Γ:Gm):Gm:=Γ.map fun o=>o.map fun _=>0
noncomputable def WJ(sc:K0)(x:Str):Bool:=match sc.names.lookup x with
 | some .local=>true
 | _=>false
theorem NF{sc:K0}(h:WJ sc x=true):sc.names.lookup x=some .local:=by
 unfold WJ at h;split at h
 ·assumption
 ·cases h
structure Xd (P:E2) (w:F6) (K:W.Frag) (mg:Str->Option A3) (base:F1) (k:Nat) (x:Str) (n:Nat) (xf:List Dv->Option Ex):Prop where
 ex:∃fd ps,qE P w K mg base (US P w) k (Ay K x) fd ps (cf K ps.length xf)/\ps.length=n/\L2.Binds K fd ps []
 mg:mg x=some (.ref (Ay K x))
 kp:W.keepIn K (.ref (Ay K x))=true
def TJ(r:Rec)(C:Cf)(x:Str)(n:Nat)(xf:List Dv->Option Ex)(Γ:Gm)(s:G0):Option CS:=match s with
 | .Try [s1] hs [] [] _=>(some (SE Γ)).bind fun rZ=>(Ld s1).bind fun t=>(r.Ss C none rZ [s1]).bind fun cb=>cb.Γ.bind fun Γn=>(r.A C rZ [] (t.2.1::t.2.2)).bind fun ca=>(NH hs).bind fun h=>(Bl C.N h.n).bind fun i=>(Bl C.N h.y).bind fun j =>
  if t.1 == x && ca.as.length == n && GN C.sc x && GC x && C.F.io.isEmpty && sU rZ && GN C.sc h.dn && GC h.dn && WJ C.sc h.n && GC h.n && WJ C.sc h.y && GN C.sc "isinstance" && C.bl.contains "isinstance" && GN C.sc h.c && GC h.c && (rZ[i]? == some none) && decide (j < rZ.length) && !(i == j) && BL (SE Γn) (rZ.set j (some 0)) && BL (SE Γn) Γn && BL rZ Γ then some ⟨some (SE Γn),j::cb.js,SL (fun m=>AQ ca.as Ex m fun ds _=>xf ds) h.c h.f j cb.f,false,false,false⟩ else none
 | _=>none
structure Xc (K:W.Frag) (mg:Str->Option A3) (h:Hn):Prop where
 cl:uO K (Ay K h.c) h.f
 up:XD K (Ay K h.dn)
 bl:below K (Ay K h.c) (Ay K h.dn)=true
 mc:mg h.c=some (.ref (Ay K h.c))
 md:mg h.dn=some (.ref (Ay K h.dn))
def IU:G0->Option Hn
 | .Try _ hs _ _ _=>NH hs
 | _=>none
theorem TH{P:E2}{w:F6}{K:W.Frag}{mg:Str->Option A3}{base:F1}{r:Rec}(R0:pk r){C:Cf}{N:List Str}{sc:K0}{pv:A3}{A:F3}{outer:List Env}{s':A5}{E:XK}(ok:pY C (Ca FB P w K mg base N qual sc fa pv A outer s' H E).rC){n:Nat}(D:Xd P w K mg base k x n xf)(hr:pj k (A.deeper (S1 qual sc s'.heap.objs.size fa pv)))
    {Γ:Gm} {s:G0} {cs:CS} (hh:∀h,IU s=some h->Xc K mg h) (e:TJ r C x n xf Γ s=some cs):PS (Ca FB P w K mg base N qual sc fa pv A outer s' H E).rC s (tS K C.F none Γ cs.Γ cs.js cs.f):=by
  unfold TJ at e;split at e
  · rename_i s1 hs pos;obtain⟨rZ,eΓ,e⟩:=pR e;obtain⟨t,e1,e⟩:=pR e;obtain⟨cb,e2,e⟩:=pR e;obtain⟨Γn,e3,e⟩:=pR e;obtain⟨ca,e4,e⟩:=pR e;obtain⟨h,e5,e⟩:=pR e;obtain⟨i,e6,e⟩:=pR e;obtain⟨j,e7,e⟩:=pR e;split at e
    · rename_i hc;cases e;simp only[A2,L5,decide_eq_true_eq] at hc;obtain⟨⟨⟨⟨⟨⟨⟨⟨⟨⟨⟨⟨⟨⟨⟨⟨⟨⟨⟨⟨c1,c2⟩,c3⟩,c4⟩,c5⟩,c6⟩,c7⟩,c8⟩,c9⟩,uX⟩,sH⟩,xr⟩,c13⟩,c14⟩,c15⟩,xp⟩,c17⟩,c18⟩,c19⟩,c20⟩,c21⟩:=hc;have hX:=hh h e5;obtain⟨np,sk,p1,p2,p3,p4,p5,p6,p7,p8,p9,rfl⟩:=LZ e5;obtain⟨x',a0,as'⟩:=t;have c1:x'=x:=eq_of_beq c1;subst c1;have hN:=ok.N;have hS:=ok.sc;obtain⟨a1,a2,a3,a4,a5⟩:=R0.A ok e4;obtain⟨fd,ps,F,hp,hb⟩:=D.ex;have zZ:=R0.Ss ok e2;rw[e3] at zZ;refine du c21 ?_;refine dk (X:=(Ca FB P w K mg base N qual sc fa pv A outer s' H E).rC) rfl rfl (i7.mp c5) (bE c6) (LB zZ (show Hf (some (SE Γn)) (some Γn)=true from c20)) (fun E'=>Ol e1 fun p q=>?_) hX.cl hX.up hX.bl (BG ok c7) hX.md c8
        ok.nd (by rw[hN];exact As e6) (by rw[hS];exact NF c9) uX (by rw[hN];exact As e7) (by rw[hS];exact NF sH) (BG ok xr) (ok.bl _ (C4.mp c13)) (BG ok c14) hX.mc c15 (eq_of_beq xp) c17 (by simpa using c18) c19
      simp only[G8,A2] at a4;have g3:=BG ok c3;exact VI (X:=(Ca FB P w K mg base N qual sc fa pv A outer s' H E).rC.qR E') rfl F hr g3 D.mg D.kp hb (PA.vd a1) a2 (a5 rfl) ((eq_of_beq c2).trans hp.symm) (BC c4).1 (AS a4.1) (BF a4.2)
    · cases e
  · cases e
def Uy(M:Md)(fs:List (Str×qF))(st:G0)(x:Str)(n:Nat)(xf:List Dv->Option Ex):Option CS:=match AJ st with
 | s0::s1::rest=>((cmp 100).S (Ek M fs st [] 0) none (Gp (AH st).length (AB st).length []) s0).bind fun c0=>c0.Γ.bind fun rZ=>(TJ (cmp 100) (Ek M fs st [] 0) x n xf rZ s1).bind fun c1=>c1.Γ.bind fun qA=>((cmp 100).Ss (Ek M fs st [] 0) none qA rest).bind fun c2=>some ⟨c2.Γ,c0.js++(c1.js++c2.js),WT c0.f (WT c1.f c2.f),false,false,false⟩
 | _=>none
def Mg(M:Md)(fs:List (Str×qF))(st:G0)(x:Str)(n:Nat)(xf:List Dv->Option Ex)(ds:List Dv):Option Dv:=match Uy M fs st x n xf with
 | some c=>c.f Dv (ds++E9 ((AH st).length - (AB st).length) .pX) (kJ [])
 | none=>none
def Wc(M:Md)(fs:List (Str×qF))(st:G0)(x:Str)(n:Nat)(xf:List Dv->Option Ex):Bool:=JM (AH st) (AB st) (AC st) && decide ((AB st).length<=(AH st).length) && match Uy M fs st x n xf with
 | some c=>Hf (some (JN (AH st).length [])) c.Γ
 | none=>false
section
variable {P:E2} {w:F6} {K:W.Frag} {mg:Str->Option A3} {base:F1} {st:G0} {M:Md}
theorem WY{kx n:Nat}{y qual:Str}{fa:A8}{fd:K5}{nb:Bool}{F:List Dv->Option Dv}(b:Bs M K mg)(h:Fs P w K mg base M.fl k fs)(D:Xd P w K mg base kx x n xf)(hk:kx<=k)(hh:∀h,(AJ st)[1]?.bind IU=some h->Xc K mg h)
    (c:Wc M fs st x n xf=true) (hF:∀ds,ds.length=(AB st).length->Mg M fs st x n xf ds=F ds) (Fn:uQ K y qual st fa fd):qE P w K mg base FB (k+1) fa fd (AB st) (OA K (Ae (AB st) [] 0 nb F)):=by
  unfold Wc at c;simp only[A2,decide_eq_true_eq] at c;obtain⟨⟨c1,c4⟩,c5⟩:=c;cases e:Uy M fs st x n xf with
  | none=>rw[e] at c5;cases c5
  | some cs =>
    rw[e] at c5;have S:=DC c1;refine YI (s:=Ae (AB st) [] 0 nb F) (N:=AH st) (body:=cs.f) (Γn:=cs.Γ) (js:=cs.js) Fn S ow (fun _ z=>nomatch z) c4 c5 (fun pv A outer s' H E hr=>?_) fun ds d bs hl hf=>?_
    · have ok:pY (Ek M fs st [] 0) (Ca FB P w K mg base (AH st) qual (AC st) fa pv A outer s' H E).rC:=bW b h S hr;unfold Uy at e;rw[Ij] at e;split at e
      · rename_i s0 s1 rest hb;rw[hb] at hh ⊢;obtain⟨q0,e1,e⟩:=pR e;obtain⟨rZ,e2,e⟩:=pR e;obtain⟨q1,e3,e⟩:=pR e;obtain⟨qA,e4,e⟩:=pR e;obtain⟨q2,e5,e⟩:=pR e;cases e;have h0:=(DQ 100).S ok e1;have h1:=TH (DQ 100) ok D (hr.mono hk) hh e3;have h2:=(DQ 100).Ss ok e5;rw[e2] at h0;rw[e4] at h1;exact LC (f:=q0.f) (js:=q0.js) h0 (LC (f:=q1.f) (f2:=q2.f) (js:=q1.js) (js2:=q2.js) h1 h2)
      · cases e
    · have hr:=hF ds hl;unfold Mg at hr;rw[e] at hr;obtain⟨t,e1,e2⟩:=pR (show(F ds).bind _=some (d,bs) from hf);cases e2;refine⟨_,kJ [],t,hr.trans e1,fun m z=>?_,fun d' m z=>?_⟩
      · have z:some (UO [] .pX m)=some t:=z;cases z;exact⟨NI [] _ m,MW [] _ m⟩
      · have z:some (UO [] d' m)=some t:=z;cases z;exact⟨NI [] _ m,MW [] _ m⟩
theorem Fs.zAl{kx n:Nat}{y:Str}{nb:Bool}{F:List Dv->Option Dv}(h:Fs P w K mg base M.fl k fs)(b:Bs M K mg)(D:Xd P w K mg base kx x n xf)(hk:kx<=k)(hh:∀h,(AJ st)[1]?.bind IU=some h->Xc K mg h)
    (c:Wc M fs st x n xf=true) (hF:∀ds,ds.length=(AB st).length->Mg M fs st x n xf ds=F ds) (gf:GF K y st) (hm:mg y=some (.ref (Ay K y))) (hb:BA y st):Fs P w K mg base M.fl (k+1) ((y,Ae (AB st) [] 0 nb F)::fs):=
  h.cons ow (fun _ z=>nomatch z) rfl ⟨_,_,WY b h D hk hh c hF (GR gf),hm,gf.2.2.2,(GR gf).binds hb⟩
theorem Xd.def{n:Nat}{cx:Xs}{x:Str}{xF:List Dv->Option Ex}(b:Bs M K mg)(h:Fs P w K mg base M.fl k fs)(hx:Xk P w K mg base cx)(hk:2<=k)(c1:JM (AH st) (AB st) (AC st)=true)(c4:(AB st).length<=(AH st).length)(hn:(AB st).length=n)
    (hF:∀ds,ds.length=(AB st).length->ZW M fs cx st ds=xF ds) (gf:GF K x st) (hm:mg x=some (.ref (Ay K x))) (hb:BA x st):Xd P w K mg base (k+1) x n xF:=
  ⟨⟨_,_,WX b h hx hk c1 c4 hF (GR gf),hn,(GR gf).binds hb⟩,hm,gf.2.2.2⟩
end
end R
namespace My
open PySem L2 R
theorem kF{K:W.Frag}{o:Nat}{r:MK}:AI K (fun _=>none) o r:=fun _ _ _ _ _ _ _ _ e _=>by cases e
theorem iw{K:W.Frag}{o:Nat}{r:MK}:AI K (one fun _=>none) o r:=fun _ _ ds _ _ _ _ _ e _=>by unfold one at e;split at e<;>cases e
theorem lD{K:W.Frag}{o:Nat}{r:MK}:AI K (two fun _ _=>none) o r:=fun _ _ ds _ _ _ _ _ e _=>by unfold two at e;split at e<;>cases e
def tb:Tb where
 zAC:=[⟨.Add,Aj,fun X h=>⟨_,Vo X.K,Zs⟩⟩,
  ⟨.Sub,cR,fun X h=>⟨_,aI,VW⟩⟩,
  ⟨.Mult,EL,fun X h=>⟨_,aK,FO fun _ _ h=>by simpa[big,XT] using h⟩⟩,
  ⟨.Mod,DA,fun X h=>⟨_,aL,FO fun _ _ h=>of_decide_eq_true h⟩⟩,
  ⟨.FloorDiv,UJ,fun X h=>⟨_,Vl,FO fun _ _ h=>by rw[A2,decide_eq_true_eq,decide_eq_true_eq] at h;exact h⟩⟩,
  ⟨.Pow,Pj,fun X h=>⟨_,aJ,FO fun _ _ h=>by rw[A2,A2,decide_eq_true_eq,decide_eq_true_eq,decide_eq_true_eq] at h;exact⟨h.1.1,h.1.2,h.2⟩⟩⟩]
 sy:=[⟨.Eq,KW,fun X h=>⟨_,L3.xA h.2.choose_spec,RJ⟩⟩,
  ⟨.NotEq,Ph,fun X h=>⟨_,L3.wz h.2.choose_spec,RJ⟩⟩,
  ⟨.Lt,MH,fun X h=>⟨_,fH,FP⟩⟩,
  ⟨.LtE,gp,fun X h=>⟨_,fJ,FP⟩⟩,
  ⟨.Gt,iO,fun X h=>⟨_,fK,FP⟩⟩,
  ⟨.GtE,kT,fun X h=>⟨_,fL,FP⟩⟩,
  ⟨.In,iN,fun X h=>⟨_,Q.w8 h.2.choose_spec,Zp⟩⟩,
  ⟨.Is,XG,fun X h=>⟨_,aM.or aN,Zo⟩⟩,
  ⟨.IsNot,KS,fun X h=>⟨_,Vj.or Vk,VR⟩⟩]
 calls:=[⟨"len", 1,1,one AY,fun X h=>⟨_,Zm,.inl ⟨_,(PL X.K).or Ly,PySem.boot_len⟩⟩⟩,
  ⟨"tuple", 1,1,one BI,fun X h=>⟨_,RI,.inr ⟨_,KG X.K,PyProof.Rows.Boot.«tuple»⟩⟩⟩,
  ⟨"list", 1,1,one Ng,fun X h=>⟨_,VT,.inr ⟨_,Lx X.K,PyProof.Rows.Boot.«list»⟩⟩⟩,
  ⟨"int", 1,1,one Ka,fun X h=>⟨_,VV,.inr ⟨_,PQ,PyProof.Rows.Boot.«int»⟩⟩⟩,
  ⟨"all", 1,1,one FK,fun X h=>⟨_,Zr,.inl ⟨_,PU X.K rfl h.1,PyProof.Rows.Boot.«all»⟩⟩⟩,
  ⟨"max", 2,1,two Hz,fun X h=>⟨_,VS,.inl ⟨_,PK h.1,PyProof.Rows.Boot.«max»⟩⟩⟩,
  ⟨"isinstance", 2,1,two Av,fun X h=>⟨_,Zn,.inl ⟨_,PP X.K,PyProof.Rows.Boot.«isinstance»⟩⟩⟩]
 meths:=[⟨"join", 1, "str", 1,two Gf,.inl (.inr (.inl rfl)),fun X h=>⟨_,_,lX,PySem.F.slot_str_join,PySem.F.type_str_join,Rf X.K,VU⟩⟩,
  ⟨"upper", 0, "str", 1,one En,.inl (.inr (.inl rfl)),fun X h=>⟨_,_,lX,PySem.F.slot_str_upper,PySem.F.type_str_upper,Re,RH⟩⟩]
 yt:=[⟨"append", 1, "list", Bw,.inl rfl,fun X h=>⟨_,_,PySem.F.plainAttrs_list,PySem.F.slot_list_append,PySem.F.type_list_append,OR,OQ⟩⟩]
 yd:=[⟨"range", 1,false,CQ,fun X h=>⟨_,Qc,fun tg es p pos ta _ hn hs hg hm ha=>by obtain⟨a,rfl⟩:=kK hn;exact OH hg hm ha (AS (by simpa using hs))⟩⟩,
  ⟨"zip", 2,true,Mf,fun X h=>⟨_,Qb,fun tg es p pos ta ht hn hs hg hm ha=>by
   obtain⟨elts,x1,q8,rfl⟩:=dO (ht rfl);obtain⟨a,b,rfl⟩:=lL hn;have z:noStar a=true/\noStar b=true:=by simpa using hs
   exact Va X.K hg hm ha rfl (AS z.1) (BF (by simp[z.2]))⟩⟩]
 ix:=AF
 yz:=fun X h=>⟨_,(jB X.K).or (fR (jF h)),Zq⟩
 sl:=FS
 yf:=fun X h=>⟨_,ig X.K,eh⟩
 tru:=BD
 yO:=Ud
 lr:=fun _=>none
 zAP:=fun X h=>kF
 tr:=fun _=>none
 yN:=fun X h=>kF
 md:=fun _ _=>none
 zAN:=fun X h=>lD
 rv:=Nf
 yh:=fun X h=>VQ
 lv:=fun _=>none
 zAO:=fun X h=>iw
 ss:=fun _=>none
 zAJ:=fun X h=>iw
 le:=fun _=>none
 zAR:=fun X h=>iw
 st:=CF
 yX:=fun X h=>⟨_,Uw,ZQ⟩
noncomputable def top(i:Nat):G0:=PySem.Challenge.pw_shapefree_k18_worlds_looked_at.main.body.getD i (.Pass ⟨0,0,0,0⟩)
def fQ(i j:Nat):G0:=match top i with | .ClassDef _ _ _ cb _ _ _ _ _ _ _=>cb.getD j (.Pass ⟨0,0,0,0⟩) | s=>s
noncomputable def lJ:List Str:=[]
def md:Md:=⟨tb,[],["len", "range", "tuple", "list", "zip", "isinstance", "enumerate", "all", "any", "int", "bool", "str", "sum", "max", "min", "reversed", "sorted", "dict", "repr", "set", "abs", "type", "ord", "chr"],lJ,[]⟩
noncomputable def iL:List (Str×qF):=[]
noncomputable def Ky(a0:Dv):Option (Dv):=
(Av a0 (.ty "int")).bind fun d0=>Kj d0 fun b1=>if b1=true then
(Av a0 (.ty "bool")).bind fun d2=>Kj d2 fun b3=>some (.bl (!b3))
else
some (.bl false)
noncomputable def BV(a0:Dv):Option (Dv):=
((Ky a0)).bind fun t4=>some t4
theorem Oz:Gb md iL (top 4) [] 0=true:=by kernel_rfl
theorem Oo:Kg md iL (top 4) [] 0 (one BV):=jU (by kernel_rfl) fun _=>(by kernel_rfl)
def jN:List (Str×qF):=("is_whole", Ae (AB (top 4)) [] 0 true (one BV))::iL
noncomputable def Dr(a0:Dv)(a1:Dv):Option (Bool):=
(Av a0 (.ty "tuple")).bind fun d0=>(BD d0).bind fun b1=>if(!b1)=true then
some true
else
(AY a0).bind fun d2=>(Ph d2 a1).bind fun b3=>some b3
noncomputable def Du(a2:Dv)(x6:Dv):Option (Dv):=
(BV x6).bind fun c7=>bif DW c7 then
Kj c7 fun b8=>if b8=true then
(gp (.int 0) x6).bind fun b9=>if b9=true then
(MH x6 a2).bind fun yI=>some (.bl yI)
else
some (.bl false)
else
some (.bl false)
else none
noncomputable def Bc(a2:Dv)(x6:Dv):Option Dv:=
((Du a2 x6)).bind fun ue=>some ue
noncomputable def AZ(a0 a1 a2:Dv):Option (Dv):=
((Dr a0 a1)).bind fun t4=>if t4=true then
some (.bl false)
else
(items a0).bind fun s5=>Gn s5 ((Cu (Bc a2) s5).bind fun y12=>(FK (.lst y12)).bind fun vD=>some vD)
theorem KB:Gb md jN (top 7) [] 1=true:=by kernel_rfl
theorem Ju:Kg md jN (top 7) [] 1 (Ci AZ):=cu (by kernel_rfl) fun _ _ _=>(by kernel_rfl)
def jM:List (Str×qF):=("are_things", Ae (AB (top 7)) [] 1 true (Ci AZ))::jN
noncomputable def Fc(a0:Dv)(a2:Dv):Option (Bool):=
(Av a0 (.ty "tuple")).bind fun d2=>(BD d2).bind fun b3=>if(!b3)=true then
some true
else
(AY a0).bind fun d4=>(Ph d4 a2).bind fun b5=>some b5
noncomputable def Dc(a2:Dv)(x8:Dv):Option Dv:=
(AZ x8 a2 a2).bind fun c9=>bif DW c9 then
some c9
else none
noncomputable def Cq(a0 a1 a2:Dv):Option (Dv):=
(KW a1 (.int 1)).bind fun b0=>if b0=true then
(AZ a0 a2 a2).bind fun c1=>bif DW c1 then
some c1
else none
else
((Fc a0 a2)).bind fun t6=>if t6=true then
some (.bl false)
else
(items a0).bind fun s7=>Gn s7 ((Cu (Dc a2) s7).bind fun yL=>(FK (.lst yL)).bind fun xl=>some xl)
theorem PB:Gb md jM (top 9) [] 1=true:=by kernel_rfl
theorem Oq:Kg md jM (top 9) [] 1 (Ci Cq):=cu (by kernel_rfl) fun _ _ _=>(by kernel_rfl)
def jL:List (Str×qF):=("is_table", Ae (AB (top 9)) [] 1 true (Ci Cq))::jM
noncomputable def Ds(a0:Dv)(a1:Dv):Option (Bool):=
(Av a0 (.ty "tuple")).bind fun d0=>(BD d0).bind fun b1=>if(!b1)=true then
some true
else
(AY a0).bind fun d2=>(AY a1).bind fun d3=>(Ph d2 d3).bind fun b4=>some b4
noncomputable def Bd(a2:Dv)(x7:Dv):Option Dv:=
(XW [4,5] x7).bind fun(t8:Dv×Dv)=>(AF t8.2 (.int 1)).bind fun d9=>(Cq t8.1 d9 a2).bind fun uX=>bif DW uX then
some uX
else none
noncomputable def Ao(a0 a1 a2:Dv):Option (Dv):=
((Ds a0 a1)).bind fun t5=>if t5=true then
some (.bl false)
else
(Mf [a0,a1]).bind fun s6=>Gn s6 ((Cu (Bd a2) s6).bind fun y11=>(FK (.lst y11)).bind fun vw=>some vw)
theorem KC:Gb md jL (top 8) [] 1=true:=by kernel_rfl
theorem Jv:Kg md jL (top 8) [] 1 (Ci Ao):=cu (by kernel_rfl) fun _ _ _=>(by kernel_rfl)
def iK:List (Str×qF):=("are_tables", Ae (AB (top 8)) [] 1 true (Ci Ao))::jL
noncomputable def Aq(a0 a1:Dv):Option (Ex):=
i8 ((((Av a1 (.ty "tuple")).bind fun d0=>(BD d0).bind fun b1=>if(!b1)=true then
some true
else
(((AY a1).bind fun d2=>(Ph d2 (.int 3)).bind fun b3=>if b3=true then
some true
else
(((AF a1 (.int 0)).bind fun d4=>(BV d4).bind fun c5=>bif DW c5 then
(BD c5).bind fun b6=>if(!b6)=true then
some true
else
(AF a1 (.int 0)).bind fun d7=>(MH d7 (.int 1)).bind fun b8=>some b8
else none:Option (Bool))).bind fun t9=>some t9:Option (Bool))).bind fun vJ=>some vJ:Option (Bool))).bind fun ue=>if ue=true then
some (⟨"NoWorld", "word", (.str [102,111,114,109])⟩:Ex)
else
none) ((((Av a1 (.ty "tuple")).bind fun vw=>(BD vw).bind fun b13=>if(!b13)=true then
some true
else
(((AY a1).bind fun vU=>(Ph vU (.int 3)).bind fun b15=>if b15=true then
some true
else
(((AF a1 (.int 0)).bind fun vv=>(BV vv).bind fun c17=>bif DW c17 then
(BD c17).bind fun b18=>if(!b18)=true then
some true
else
(AF a1 (.int 0)).bind fun vC=>(MH vC (.int 1)).bind fun b20=>some b20
else none:Option (Bool))).bind fun t21=>some t21:Option (Bool))).bind fun t22=>some t22:Option (Bool))).bind fun t23=>if t23=true then
none
else
i8 ((AF a1 (.int 1)).bind fun xi=>(AF a0 (.int 0)).bind fun zr=>(AY zr).bind fun zq=>(AF a1 (.int 0)).bind fun d27=>(AZ xi zq d27).bind fun z7=>bif DW z7 then
(BD z7).bind fun b29=>if(!b29)=true then
some (⟨"NoWorld", "word", (.str [102,105,120,101,100])⟩:Ex)
else
none
else none) ((AF a1 (.int 1)).bind fun xh=>(AF a0 (.int 0)).bind fun d31=>(AY d31).bind fun d32=>(AF a1 (.int 0)).bind fun d33=>(AZ xh d32 d33).bind fun c34=>bif DW c34 then
(BD c34).bind fun b35=>if(!b35)=true then
none
else
i8 ((AF a1 (.int 2)).bind fun d36=>(AF a0 (.int 1)).bind fun zo=>(AF a1 (.int 0)).bind fun d38=>(Ao d36 zo d38).bind fun xo=>bif DW xo then
(BD xo).bind fun b40=>if(!b40)=true then
some (⟨"NoWorld", "word", (.str [100,101,101,100])⟩:Ex)
else
none
else none) ((AF a1 (.int 2)).bind fun d41=>(AF a0 (.int 1)).bind fun d42=>(AF a1 (.int 0)).bind fun d43=>(Ao d41 d42 d43).bind fun c44=>bif DW c44 then
(BD c44).bind fun b45=>if(!b45)=true then
none
else
none
else none)
else none))
theorem IZ:∀ds,ds.length=(AB (top 6)).length->ZW md iK [("NoWorld", "word")] (top 6) ds=two Aq ds:=UQ (by kernel_rfl) fun _ _=>(by kernel_rfl)
--raise Aq 4 (top 6) 2 [("NoWorld", "word")]
noncomputable def Dq(a1:Dv):Option (Bool):=
(AF a1 (.int 0)).bind fun d4=>(BV d4).bind fun c5=>bif DW c5 then
(BD c5).bind fun b6=>if(!b6)=true then
some true
else
(AF a1 (.int 0)).bind fun d7=>(MH d7 (.int 1)).bind fun b8=>some b8
else none
noncomputable def Dp(a1:Dv):Option (Bool):=
(AY a1).bind fun d2=>(Ph d2 (.int 3)).bind fun b3=>if b3=true then
some true
else
((Dq a1)).bind fun t9=>some t9
noncomputable def BE(a1:Dv):Option (Bool):=
(Av a1 (.ty "tuple")).bind fun d0=>(BD d0).bind fun b1=>if(!b1)=true then
some true
else
((Dp a1)).bind fun vJ=>some vJ
noncomputable def BN(a0 a1:Dv):Option (Dv):=
((BE a1)).bind fun ue=>if ue=true then
none
else
(AF a1 (.int 1)).bind fun vw=>(AF a0 (.int 0)).bind fun vD=>(AY vD).bind fun vU=>(AF a1 (.int 0)).bind fun xk=>(AZ vw vU xk).bind fun xp=>bif DW xp then
(BD xp).bind fun b17=>if(!b17)=true then
none
else
(AF a1 (.int 2)).bind fun vq=>(AF a0 (.int 1)).bind fun vC=>(AF a1 (.int 0)).bind fun xj=>(Ao vq vC xj).bind fun c21=>bif DW c21 then
(BD c21).bind fun b22=>if(!b22)=true then
none
else
some (.bl true)
else none
else none
theorem KA:Gb md iK (top 6) [] 1=true:=by kernel_rfl
theorem Jt:Kg md iK (top 6) [] 1 (two BN):=UQ (by kernel_rfl) fun _ _=>(by kernel_rfl)
def jK:List (Str×qF):=("look_world", Ae (AB (top 6)) [] 1 true (two BN))::iK
noncomputable def JJ(a0:Dv)(a1:Dv)(d1:Dv):Option (Dv):=
(AY a0).bind fun d5=>(iO d5 (.int 0)).bind fun b6=>if b6=true then
(AY a0).bind fun d7=>(DA a1 d7).bind fun d8=>(AF a0 d8).bind fun d9=>(DA d9 (.int 2147483629)).bind fun zv=>(EL zv (.int 31)).bind fun xl=>(EL (.int 7907) a1).bind fun vw=>(Aj xl vw).bind fun vD=>some vD
else
some d1
noncomputable def Fi(a0:Dv)(a1:Dv)(d1:Dv):Option (Dv):=
(AY a0).bind fun d2=>(MH a1 d2).bind fun b3=>if b3=true then
(AF a0 a1).bind fun d4=>some d4
else
((JJ a0 a1 d1)).bind fun t14=>some t14
noncomputable def Fh(vI:Dv):Option (Dv):=
(Pj (.int 10) (.int 18)).bind fun vv=>(kT vI vv).bind fun b17=>if b17=true then
some vI
else
some (.int 0)
noncomputable def Fk(a0 a1:Dv):Option (Dv):=
(EL (.int 7907) a1).bind fun d0=>(Aj d0 (.int 13579)).bind fun d1=>((Fi a0 a1 d1)).bind fun vI=>((Fh vI)).bind fun t18=>(DA vI (.int 2147483629)).bind fun vC=>(EL vC (.int 48271)).bind fun xj=>(EL (.int 40692) a1).bind fun vp=>(Aj xj vp).bind fun zu=>(DA zu (.int 2147483646)).bind fun zt=>(Aj zt (.int 1)).bind fun xi=>some (.lst [t18,xi])
theorem Wa:Gb md jK (top 11) [] 1=true:=by kernel_rfl
theorem WV:Kg md jK (top 11) [] 1 (two Fk):=UQ (by kernel_rfl) fun _ _=>(by kernel_rfl)
def jJ:List (Str×qF):=("_law_feed", Ae (AB (top 11)) [] 1 false (two Fk))::jK
noncomputable def AW(a0 a1:Dv):Option (Dv×Dv):=
(AF a0 (.int 0)).bind fun d0=>(iO d0 (.int 0)).bind fun b1=>if b1=true then
(AF a0 (.int 0)).bind fun d2=>(DA d2 a1).bind fun d3=>(AF a0 (.int 0)).bind fun d4=>(UJ d4 a1).bind fun d5=>(CF a0 (.int 0) d5).bind fun d6=>some (d3,d6)
else
(AF a0 (.int 1)).bind fun d7=>(EL d7 (.int 48271)).bind fun d8=>(DA d8 (.int 2147483647)).bind fun d9=>(EL d9 (.int 40692)).bind fun zv=>(Aj zv (.int 30103)).bind fun xl=>(DA xl (.int 2147483399)).bind fun vw=>(Aj vw (.int 1)).bind fun vD=>(CF a0 (.int 1) vD).bind fun vU=>(EL d9 (.int 2147483647)).bind fun xk=>(AF vU (.int 1)).bind fun vv=>(Aj xk vv).bind fun vt=>(UJ vt (.int 8191)).bind fun vq=>(DA vq a1).bind fun vC=>some (vC,vU)
theorem WZ:Gb md jJ (top 12) [0] 1=true:=by kernel_rfl
theorem WU:Kg md jJ (top 12) [0] 1 (two AW):=UQ (by kernel_rfl) fun _ _=>(by kernel_rfl)
def jI:List (Str×qF):=("_law_take", Ae (AB (top 12)) [0] 1 false (two AW))::jJ
noncomputable def DE(x2:Dv)(t3:Dv):Option (Dv×Dv):=
(AW t3 (.int 26)).bind fun c4=>(AF (.str [97,98,99,100,101,102,103,104,105,106,107,108,109,110,111,112,113,114,115,116,117,118,119,120,121,122]) c4.1).bind fun d5=>some (d5,c4.2)
noncomputable def EU(vB:Dv):Option (Dv):=
(iN vB (.tup [(.str [100,101,102]),(.str [108,101,116]),(.str [116,101,108,108]),(.str [108,111,111,112]),(.str [112,105,99,107]),(.str [99,97,108,108])])).bind fun b29=>if b29=true then
(Aj vB (.str [113])).bind fun xh=>some xh
else
some vB
noncomputable def DG(d7:Dv)(zAn:Dv)(uE:Dv)(zAA:Dv)(x14:Dv)(vI:Dv):Option (Dv):=
(EL (.int 7) x14).bind fun vv=>(Aj zAn vv).bind fun vt=>(DA vt (.int 26)).bind fun vq=>(AF (.str [97,98,99,100,101,102,103,104,105,106,107,108,109,110,111,112,113,114,115,116,117,118,119,120,121,122]) vq).bind fun vC=>UR uE fun i20=>(FS d7 none (some i20)).bind fun vp=>(Aj vp vC).bind fun zu=>UR uE fun i23=>(Aj zAA x14).bind fun xi=>(DA xi (.int 4)).bind fun zr=>UR zr fun i26=>(FS d7 (some i23) (some i26)).bind fun d27=>(Aj zu d27).bind fun vB=>((EU vB)).bind fun t31=>Pt "list" vI (
(Bw vI [t31]).bind fun r32=>some r32.2)
noncomputable def HK(rY:Dv)(uI:Dv):Option (Bool×Dv):=
(Ge (.int 2)).bind fun d35=>(AF uI d35).bind fun d36=>(AY d36).bind fun zo=>(MH zo (.int 4)).bind fun b38=>if b38=true then
(AW rY (.int 4)).bind fun xo=>(KW xo.1 (.int 0)).bind fun b40=>some (b40,xo.2)
else
some (false,rY)
noncomputable def ER(a1:Dv)(rY:Dv)(uI:Dv):Option (Bool×Dv):=
(iO a1 (.int 1)).bind fun b34=>if b34=true then
((HK rY uI)).bind fun t41=>some (t41.1,t41.2)
else
some (false,rY)
noncomputable def ET(a1:Dv)(rY:Dv)(uI:Dv):Option (Dv×Dv):=
((ER a1 rY uI)).bind fun t42=>if t42.1=true then
(Ge (.int 2)).bind fun d43=>(AF uI d43).bind fun d44=>(Aj d44 (.str [113])).bind fun d45=>(Ge (.int 1)).bind fun d46=>(CF uI d46 d45).bind fun d47=>some (t42.2,d47)
else
some (t42.2,uI)
noncomputable def Bv(a0 a1:Dv):Option (Dv×Dv):=
Pt "str" (.str []) (
(AW a0 (.int 4)).bind fun c0=>(CQ [c0.1]).bind fun s1=>Gn s1 ((Ba DE s1 c0.2).bind fun p6=>(Gf (.str []) (.lst p6.1)).bind fun d7=>(AW p6.2 (.int 26)).bind fun c8=>(AY d7).bind fun d9=>(Aj d9 (.int 1)).bind fun zv=>(AW c8.2 zv).bind fun sH=>(AW sH.2 (.int 4)).bind fun xr=>(CQ [a1]).bind fun s13=>(FJ (DG d7 c8.1 sH.1 xr.1) s13 (.lst [])).bind fun uI=>((ET a1 xr.2 uI)).bind fun t48=>some (t48.2,t48.1)))
theorem Sw:Gb md jI (top 13) [0] 1=true:=by kernel_rfl
theorem Se:Kg md jI (top 13) [0] 1 (two Bv):=UQ (by kernel_rfl) fun _ _=>(by kernel_rfl)
def jH:List (Str×qF):=("_law_names", Ae (AB (top 13)) [0] 1 false (two Bv))::jI
noncomputable def EX(x5:Dv):Option Dv:=
(FS x5 none (some 1)).bind fun d6=>Pt "str" d6 (
(En d6).bind fun d7=>(FS x5 (some 1) none).bind fun d8=>(Aj d7 d8).bind fun d9=>some d9)
noncomputable def EW(uE:Dv)(x15:Dv)(t16:Dv):Option (Dv×Dv):=
(AF uE x15).bind fun vt=>(AW t16 (.int 2)).bind fun c18=>(Aj (.int 1) c18.1).bind fun vC=>some ((.tup [vt,vC]),c18.2)
noncomputable def DI(a0:Dv):Option (Dv×Dv):=
(Bv a0 (.int 4)).bind fun c0=>(AW c0.2 (.int 5)).bind fun c1=>UR c1.1 fun i2=>(FS c0.1 none (some i2)).bind fun d3=>(items d3).bind fun s4=>Gn s4 ((Cu EX s4).bind fun yL=>(Bv c1.2 (.int 4)).bind fun sH=>(AW sH.2 (.int 8)).bind fun xr=>(AF (.lst [(.int 1),(.int 2),(.int 3),(.int 2),(.int 4),(.int 1),(.int 2),(.int 0)]) xr.1).bind fun vD=>(CQ [vD]).bind fun s14=>Gn s14 ((Ba (EW sH.1) s14 xr.2).bind fun p20=>(BI (.lst yL)).bind fun vp=>(BI (.lst p20.1)).bind fun zu=>some ((.tup [vp,zu]),p20.2)))
theorem Sv:Gb md jH (top 14) [0] 1=true:=by kernel_rfl
theorem Sd:Kg md jH (top 14) [0] 1 (one DI):=jU (by kernel_rfl) fun _=>(by kernel_rfl)
def jG:List (Str×qF):=("_law_shape", Ae (AB (top 14)) [0] 1 false (one DI))::jH
noncomputable def HR(a2:Dv)(x2:Dv)(t3:Dv):Option (Dv×Dv):=
(AW t3 a2).bind fun c4=>some (c4.1,c4.2)
noncomputable def HQ(a2:Dv)(x14:Dv)(vI:Dv):Option (Dv×Dv):=
(AW vI a2).bind fun xp=>some (xp.1,xp.2)
noncomputable def HP(a2:Dv)(x24:Dv)(t25:Dv):Option (Dv×Dv):=
(AW t25 a2).bind fun z8=>some (z8.1,z8.2)
noncomputable def EV(a2:Dv)(x21:Dv)(t22:Dv):Option (Dv×Dv):=
(CQ [a2]).bind fun s23=>Gn s23 ((Ba (HP a2) s23 t22).bind fun p27=>(BI (.lst p27.1)).bind fun vB=>some (vB,p27.2))
noncomputable def ES(a2:Dv)(wH:Dv)(tf:Dv)(yS:Dv):Option (Dv×Dv):=
(KW yS (.int 1)).bind fun b12=>if b12=true then
Pt "list" tf (
(CQ [a2]).bind fun s13=>Gn s13 ((Ba (HQ a2) s13 wH).bind fun p17=>(BI (.lst p17.1)).bind fun vq=>(Bw tf [vq]).bind fun r19=>some (p17.2,r19.2)))
else
Pt "list" tf (
(CQ [a2]).bind fun uh=>Gn uh ((Ba (EV a2) uh wH).bind fun p29=>(BI (.lst p29.1)).bind fun xh=>(Bw tf [xh]).bind fun r31=>some (p29.2,r31.2)))
noncomputable def DF(a2:Dv)(x9:Dv)(vJ:Dv×Dv):Option (Dv×Dv):=
(XW [5,6] x9).bind fun(ue:Dv×Dv)=>((ES a2 vJ.1 vJ.2 ue.2)).bind fun t32=>some (t32.1,t32.2)
noncomputable def DH(a0 a1 a2:Dv):Option (Dv×Dv):=
(AF a1 (.int 0)).bind fun d0=>(items d0).bind fun s1=>Gn s1 ((Ba (HR a2) s1 a0).bind fun p5=>(BI (.lst p5.1)).bind fun d6=>(AF a1 (.int 1)).bind fun d7=>(items d7).bind fun s8=>(FJ (DF a2) s8 (p5.2,(.lst []))).bind fun uI=>(BI uI.2).bind fun zp=>some ((.tup [a2,d6,zp]),uI.1))
theorem Su:Gb md jG (top 15) [0] 1=true:=by kernel_rfl
theorem Sb:Kg md jG (top 15) [0] 1 (Ci DH):=cu (by kernel_rfl) fun _ _ _=>(by kernel_rfl)
def bD:List (Str×qF):=("_law_world", Ae (AB (top 15)) [0] 1 false (Ci DH))::jG
noncomputable def HS(a0 a1:Dv):Option (Dv×Dv):=
(Ge (.int 1)).bind fun d0=>(cR a1 (.int 1)).bind fun d1=>(Aj a1 (.int 1)).bind fun d2=>(Pj (.int 10) (.int 12)).bind fun d3=>(Aj (.lst [(.int 0),(.int 1),(.int 2),(.int 3),d0,a1,d1,d2,(.bl true),(.bl false),Dv.pX,(.str []),(.str [49]),(.tup []),(.tup [(.int 0)]),(.tup [(.int 0),(.int 0)]),(.lst [(.int 0)]),(.lst []),(.tup [(.tup [(.int 0)])]),(.str [102,111,114,109])]) (.lst [d3])).bind fun d4=>(AW a0 (.int 21)).bind fun c5=>(AF d4 c5.1).bind fun d6=>some (d6,c5.2)
theorem bU:Gb md bD (top 16) [0] 0=true:=by kernel_rfl
theorem bM:Kg md bD (top 16) [0] 0 (two HS):=UQ (by kernel_rfl) fun _ _=>(by kernel_rfl)
def bC:List (Str×qF):=("_law_odd", Ae (AB (top 16)) [0] 0 false (two HS))::bD
noncomputable def Bu(a0:Dv)(a2:Dv):Option (Bool×Dv):=
(AY a2).bind fun d2=>(KW d2 (.int 0)).bind fun b3=>if b3=true then
some (true,a0)
else
(AW a0 (.int 8)).bind fun c4=>(KW c4.1 (.int 0)).bind fun b5=>some (b5,c4.2)
noncomputable def Bt(a0:Dv)(a2:Dv):Option (Bool×Dv):=
(Av a2 (.ty "tuple")).bind fun d0=>(BD d0).bind fun b1=>if(!b1)=true then
some (true,a0)
else
((Bu a0 a2)).bind fun t6=>some (t6.1,t6.2)
noncomputable def AV:Nat->Dv->Dv->Dv->Option (Dv×Dv)
 | 0,_,_,_=>none
 | n+1,a0,a1,a2=>(
((Bt a0 a2)).bind fun t7=>if t7.1=true then
(HS t7.2 a1).bind fun c8=>some (c8.1,c8.2)
else
(AY a2).bind fun d9=>(AW t7.2 d9).bind fun uX=>(AW uX.2 (.int 9)).bind fun sH=>(KW sH.1 (.int 0)).bind fun b12=>if b12=true then
UR uX.1 fun i13=>(FS a2 none (some i13)).bind fun vU=>(Aj uX.1 (.int 1)).bind fun xk=>UR xk fun i16=>(FS a2 (some i16) none).bind fun vt=>(Aj vU vt).bind fun vq=>some (vq,sH.2)
else
(KW sH.1 (.int 1)).bind fun b19=>if b19=true then
(AF a2 uX.1).bind fun xj=>(Aj a2 (.tup [xj])).bind fun vp=>some (vp,sH.2)
else
(KW sH.1 (.int 2)).bind fun b22=>if b22=true then
(Ng a2).bind fun zt=>some (zt,sH.2)
else
(KW sH.1 (.int 3)).bind fun b24=>if b24=true then
(Ge (.int 1)).bind fun zr=>(Nf a2 zr).bind fun zq=>some (zq,sH.2)
else
UR uX.1 fun i27=>(FS a2 none (some i27)).bind fun vB=>(AF a2 uX.1).bind fun d29=>(AV n sH.2 a1 d29).bind fun c30=>(Aj vB (.tup [c30.1])).bind fun d31=>(Aj uX.1 (.int 1)).bind fun d32=>UR d32 fun i33=>(FS a2 (some i33) none).bind fun zp=>(Aj d31 zp).bind fun d35=>some (d35,c30.2))
theorem Lw(n:Nat):Gb md (("_law_changed", Ae (AB (top 17)) [0] 0 false (Ci (AV n)))::bC) (top 17) [0] 0=true:=by kernel_rfl
theorem Ln(n:Nat):Kg md (("_law_changed", Ae (AB (top 17)) [0] 0 false (Ci (AV n)))::bC) (top 17) [0] 0 (Ci (AV (n+1))):=cu (by kernel_rfl) fun _ _ _=>(by kernel_rfl)
def Bh:Dv->Dv->Dv->Option (Dv×Dv):=(Classical.choice (⟨⟨AV 20,rfl⟩⟩:Nonempty {f:Dv->Dv->Dv->Option (Dv×Dv) // f=AV 20})).1
theorem CZ:Bh=AV 20:=(Classical.choice (⟨⟨AV 20,rfl⟩⟩:Nonempty {f:Dv->Dv->Dv->Option (Dv×Dv) // f=AV 20})).2
def SD:List (Str×qF):=("_law_changed", Ae (AB (top 17)) [0] 0 false (Ci Bh))::bC
noncomputable def Er(a0:Dv)(a1:Dv):Option (Dv):=
(gp (.int 0) a1).bind fun b5=>Kj (.bl b5) fun b6=>if b6=true then
(MH a1 a0).bind fun b7=>some (.bl b7)
else
some (.bl false)
noncomputable def Ep(a0:Dv)(a1:Dv):Option (Dv):=
(Av a1 (.ty "bool")).bind fun d2=>Kj d2 fun b3=>Kj (.bl (!b3)) fun b4=>if b4=true then
((Er a0 a1)).bind fun t8=>some t8
else
some (.bl false)
noncomputable def Eo(a0:Dv)(a1:Dv):Option (Dv):=
(Av a1 (.ty "int")).bind fun d0=>Kj d0 fun b1=>if b1=true then
((Ep a0 a1)).bind fun t9=>some t9
else
some (.bl false)
noncomputable def Bf(a0 a1:Dv):Option (Dv):=
((Eo a0 a1)).bind fun vJ=>some vJ
theorem Lu:Gb md SD (top 18) [] 0=true:=by kernel_rfl
theorem Ll:Kg md SD (top 18) [] 0 (two Bf):=UQ (by kernel_rfl) fun _ _=>(by kernel_rfl)
def bB:List (Str×qF):=("_law_is_thing", Ae (AB (top 18)) [] 0 true (two Bf))::SD
noncomputable def EY(a0:Dv)(x6:Dv):Option Dv:=
(Bf a0 x6).bind fun c7=>bif DW c7 then
some c7
else none
noncomputable def HN(a0:Dv)(a1:Dv):Option (Dv):=
(AY a1).bind fun d2=>(KW d2 a0).bind fun b3=>Kj (.bl b3) fun b4=>if b4=true then
(items a1).bind fun s5=>Gn s5 ((Cu (EY a0) s5).bind fun y8=>(FK (.lst y8)).bind fun d9=>some d9)
else
some (.bl false)
noncomputable def HM(a0:Dv)(a1:Dv):Option (Dv):=
(Av a1 (.ty "tuple")).bind fun d0=>Kj d0 fun b1=>if b1=true then
((HN a0 a1)).bind fun vJ=>some vJ
else
some (.bl false)
noncomputable def DJ(a0 a1:Dv):Option (Dv):=
((HM a0 a1)).bind fun ue=>some ue
theorem Sx:Gb md bB (top 19) [] 0=true:=by kernel_rfl
theorem Sf:Kg md bB (top 19) [] 0 (two DJ):=UQ (by kernel_rfl) fun _ _=>(by kernel_rfl)
def bA:List (Str×qF):=("_law_is_row", Ae (AB (top 19)) [] 0 true (two DJ))::bB
noncomputable def Co(a0:Dv)(x8:Dv):Option Dv:=
(DJ a0 x8).bind fun c9=>bif DW c9 then
some c9
else none
noncomputable def Eu(a0:Dv)(a2:Dv):Option (Dv):=
(AY a2).bind fun d4=>(KW d4 a0).bind fun b5=>Kj (.bl b5) fun b6=>if b6=true then
(items a2).bind fun s7=>Gn s7 ((Cu (Co a0) s7).bind fun yL=>(FK (.lst yL)).bind fun xl=>some xl)
else
some (.bl false)
noncomputable def Et(a0:Dv)(a2:Dv):Option (Dv):=
(Av a2 (.ty "tuple")).bind fun d2=>Kj d2 fun b3=>if b3=true then
((Eu a0 a2)).bind fun t12=>some t12
else
some (.bl false)
noncomputable def CJ(a0 a1 a2:Dv):Option (Dv):=
(KW a1 (.int 1)).bind fun b0=>if b0=true then
(DJ a0 a2).bind fun c1=>bif DW c1 then
some c1
else none
else
((Et a0 a2)).bind fun yR=>some yR
theorem Lv:Gb md bA (top 20) [] 0=true:=by kernel_rfl
theorem Lm:Kg md bA (top 20) [] 0 (Ci CJ):=cu (by kernel_rfl) fun _ _ _=>(by kernel_rfl)
def az:List (Str×qF):=("_law_is_table", Ae (AB (top 20)) [] 0 true (Ci CJ))::bA
noncomputable def FN(a1:Dv):Option (Bool):=
(Av a1 (.ty "tuple")).bind fun d0=>(BD d0).bind fun b1=>if(!b1)=true then
some true
else
(AY a1).bind fun d2=>(Ph d2 (.int 3)).bind fun b3=>some b3
noncomputable def Mb(sL:Dv):Option (Bool):=
(Av sL (.ty "bool")).bind fun d8=>(BD d8).bind fun b9=>if b9=true then
some true
else
(MH sL (.int 1)).bind fun yI=>some yI
noncomputable def ID(sL:Dv):Option (Bool):=
(Av sL (.ty "int")).bind fun d6=>(BD d6).bind fun b7=>if(!b7)=true then
some true
else
((Mb sL)).bind fun ue=>some ue
noncomputable def FM(a0:Dv)(ud:Dv):Option (Bool):=
(Av ud (.ty "tuple")).bind fun vD=>(BD vD).bind fun b14=>if(!b14)=true then
some true
else
(AY ud).bind fun xk=>(AF a0 (.int 0)).bind fun vv=>(AY vv).bind fun vt=>(Ph xk vt).bind fun b18=>some b18
noncomputable def IG(sL:Dv)(x21:Dv):Option Dv:=
(Bf sL x21).bind fun z9=>bif DW z9 then
some z9
else none
noncomputable def FL(a0:Dv)(sJ:Dv):Option (Bool):=
(Av sJ (.ty "tuple")).bind fun zq=>(BD zq).bind fun b27=>if(!b27)=true then
some true
else
(AY sJ).bind fun vB=>(AF a0 (.int 1)).bind fun d29=>(AY d29).bind fun xh=>(Ph vB xh).bind fun b31=>some b31
noncomputable def II(a0:Dv)(sL:Dv)(sJ:Dv)(x35:Dv)(t36:Unit):Option (Lp Dv (Unit) (Unit)):=
(AF a0 (.int 1)).bind fun zo=>(AF zo x35).bind fun d38=>(AF d38 (.int 1)).bind fun d39=>(AF sJ x35).bind fun d40=>(CJ sL d39 d40).bind fun c41=>bif DW c41 then
(BD c41).bind fun b42=>if(!b42)=true then
some (.rt (.str [100,101,101,100]) ())
else
some (.go ())
else none
noncomputable def HU(a0 a1:Dv):Option (Dv):=
((FN a1)).bind fun t4=>if t4=true then
some (.str [102,111,114,109])
else
(XW [2,3,4] a1).bind fun(t5:Dv×Dv×Dv)=>((ID t5.1)).bind fun t12=>if t12=true then
some (.str [102,111,114,109])
else
((FM a0 t5.2.1)).bind fun t19=>if t19=true then
some (.str [102,105,120,101,100])
else
(items t5.2.1).bind fun uh=>Gn uh ((Cu (IG t5.1) uh).bind fun y23=>(FK (.lst y23)).bind fun xi=>(BD xi).bind fun b25=>if(!b25)=true then
some (.str [102,105,120,101,100])
else
((FL a0 t5.2.2)).bind fun t32=>if t32=true then
some (.str [100,101,101,100])
else
(AY t5.2.2).bind fun d33=>(CQ [d33]).bind fun s34=>(GS (II a0 t5.1 t5.2.2) s34 ()).bind fun l46=>l46.el (fun(t43:Unit)=>some Dv.pX) fun(e44:Dv) (r45:Unit)=>some e44)
theorem bV:Gb md az (top 21) [] 1=true:=by kernel_rfl
theorem bN:Kg md az (top 21) [] 1 (two HU):=UQ (by kernel_rfl) fun _ _=>(by kernel_rfl)
def ay:List (Str×qF):=("_law_due", Ae (AB (top 21)) [] 1 false (two HU))::az
noncomputable def Fg(a0:Dv)(a1:Dv):Option (Dv):=
(BN a0 a1).bind fun c1=>bif DW c1 then
(XG c1 (.bl true)).bind fun b2=>if b2=true then
some Dv.pX
else
some (.str [111,100,100])
else none
noncomputable def EZ(a0 a1:Dv):Option (Dv):=
match(Aq a0 a1) with
| some e0=>(bif e0.c == ("NoWorld" : Str) && e0.f == ("word" : Str) then
some e0.d
else none)
| none=>(
((Fg a0 a1)).bind fun t3=>some t3)
theorem Sr:Wc md ay (top 22) "look_world" 2 (two Aq)=true:=by kernel_rfl
theorem Sa:∀ds,ds.length=(AB (top 22)).length->Mg md ay (top 22) "look_world" 2 (two Aq) ds=two EZ ds:=UQ (by kernel_rfl) fun _ _=>(by kernel_rfl)
--try EZ Aq 16
def fj:List (Str×qF):=("_law_told", Ae (AB (top 22)) [] 0 false (two EZ))::ay
noncomputable def Kw(x4:Dv)(v5:Dv):Option (Bool×Dv):=
(KW x4 (.int 0)).bind fun yI=>if yI=true then
(AW v5 (.int 6)).bind fun sH=>(KW sH.1 (.int 1)).bind fun b12=>some (b12,sH.2)
else
some (false,v5)
noncomputable def Qn(x16:Dv):Option Dv:=
(XW [10,11] x16).bind fun(t17:Dv×Dv)=>some t17.2
noncomputable def Kx(x4:Dv)(tW:Dv)(v5:Dv)(d9:Dv):Option (Dv×Dv):=
((Kw x4 v5)).bind fun yR=>if yR.1=true then
(AF tW (.int 1)).bind fun vU=>(items vU).bind fun s15=>Gn s15 ((Cu Qn s15).bind fun y18=>(iN (.int 2) (.lst y18)).bind fun b19=>(Ka (.bl b19)).bind fun xj=>(AF (.lst [(.int 35),(.int 9)]) xj).bind fun vp=>(AW yR.2 vp).bind fun z9=>(Aj (.int 6) z9.1).bind fun zt=>some (z9.2,zt))
else
some (yR.2,d9)
noncomputable def LA(wG:Dv)(s9:Dv)(x30:Dv)(t31:Dv×Dv):Option (Dv×Dv):=
(Bh t31.1 wG s9).bind fun c32=>(Bh c32.2 wG c32.1).bind fun c33=>(Aj t31.2 (.lst [c32.1,c33.1])).bind fun zp=>some (c33.2,zp)
noncomputable def Qa(tW:Dv)(s9:Dv)(x37:Dv):Option (Bool):=
(EZ tW x37).bind fun xo=>(HU tW x37).bind fun c40=>(Ph xo c40).bind fun b41=>if b41=true then
some true
else
(BN tW s9).bind fun c42=>bif DW c42 then
(KS c42 (.bl true)).bind fun b43=>some b43
else none
noncomputable def Kz(tW:Dv)(s9:Dv)(x37:Dv)(t38:Unit):Option (Lp Dv (Unit) (Unit)):=
((Qa tW s9 x37)).bind fun t44=>if t44=true then
some (.rt (.bl false) ())
else
some (.go ())
noncomputable def IH(a0:Dv)(x4:Dv)(t5:Unit):Option (Lp Dv (Unit) (Unit)):=
(Fk a0 x4).bind fun c6=>(DI c6).bind fun c7=>(AW c7.2 (.int 5)).bind fun c8=>(Aj (.int 1) c8.1).bind fun d9=>((Kx x4 c7.1 c8.2 d9)).bind fun yQ=>(DH yQ.1 c7.1 yQ.2).bind fun c25=>(DI c25.2).bind fun z8=>(DH z8.2 z8.1 yQ.2).bind fun c27=>(HS c27.2 yQ.2).bind fun z7=>(CQ [(.int 4)]).bind fun s29=>(FJ (LA yQ.2 c25.1) s29 (z7.2,(.lst [c27.1,z7.1]))).bind fun t35=>(items t35.2).bind fun s36=>(GS (Kz c7.1 c25.1) s36 ()).bind fun l48=>l48.el (fun(t45:Unit)=>some (.go ())) fun(e46:Dv) (r47:Unit)=>some (.rt e46 ())
noncomputable def Ux(a0:Dv):Option (Dv):=
(FS a0 none (some 5)).bind fun d0=>(AY d0).bind fun d1=>(Hz (.int 1) d1).bind fun d2=>(CQ [d2]).bind fun s3=>(GS (IH a0) s3 ()).bind fun l52=>l52.el (fun(t49:Unit)=>some (.bl true)) fun(e50:Dv) (r51:Unit)=>some e50
theorem gJ:Gb md fj (top 23) [] 1=true:=by kernel_rfl
theorem gE:Kg md fj (top 23) [] 1 (one Ux):=jU (by kernel_rfl) fun _=>(by kernel_rfl)
end My
namespace R
open PySem L2
def Fd(x:Dv):Prop:=∃a b:Int,x=.lst [.int a,.int b]
def Tx(N:Nat)(x:Dv):Prop:=∃l,x=.str l/\l.length<=N/\∀c∈l,c < 128
variable {α:Type}
section
variable {γ τ ρ:Type}
theorem DR(g:Dv->γ->Option (Dv×γ))(P:γ->Prop)(R:Dv->Prop):∀(xs:List Dv) (c:γ),P c->(∀x∈xs,∀c,P c->∃d c',g x c=some (d,c')/\R d/\P c')->∃ds c',Ba g xs c=some (ds,c')/\ds.length=xs.length/\(∀d∈ds,R d)/\P c'
 | [],c,hc,_=>⟨[],c,rfl,rfl,fun _ z=>(F7 z).elim,hc⟩
 | x::xs,c,hc,h=>by
  obtain⟨d,c1,e1,r1,p1⟩:=h x B8 c hc;obtain⟨ds,c2,e2,l2,r2,p2⟩:=DR g P R xs c1 p1 fun y hy=>h y (B5 _ hy)
  refine⟨d::ds,c2,by simp only[Ba,e1,e2,A1],by rw[D8,D8,l2],fun y hy=>?_,p2⟩;rcases D6.mp hy with rfl | hy
  ·exact r1
  ·exact r2 y hy
theorem Jk(g:Dv->γ->Option γ)(I:Nat->γ->Prop):∀(xs:List Dv) (k:Nat) (c:γ),I k c->(∀i x,xs[i]?=some x->∀c,I (k+i) c->∃c',g x c=some c'/\I (k+i+1) c')->∃c',FJ g xs c=some c'/\I (k+xs.length) c'
 | [],k,c,hc,_=>⟨c,rfl,hc⟩
 | x::xs,k,c,hc,h=>by
  obtain⟨c1,e1,i1⟩:=h 0 x rfl c hc;obtain⟨c2,e2,i2⟩:=Jk g I xs (k+1) c1 i1 fun i y hy c hc=>by
   have:=h (i+1) y hy c (by rw[show k+(i+1)=k+1+i by omega];exact hc);rw[show k+(i+1)+1=k+1+i+1 by omega] at this;exact this
  exact⟨c2,by simp only[FJ,e1,e2,A1],by rw[D8,show k+(xs.length+1)=k+1+xs.length by omega];exact i2⟩
theorem Bo(g:Dv->Option Dv)(f:Dv->Dv):∀(xs:List Dv),(∀x∈xs,g x=some (f x))->Cu g xs=some (xs.map f)
 | [],_=>rfl
 | x::xs,h=>by simp only[Cu,h x B8,Bo g f xs fun y hy=>h y (B5 _ hy),A1,E7]
theorem Jc(g:Dv->Option Dv)(R:Dv->Prop):∀(xs:List Dv),(∀x∈xs,∃d,g x=some d/\R d)->∃ds,Cu g xs=some ds/\ds.length=xs.length/\∀d∈ds,R d
 | [],_=>⟨[],rfl,rfl,fun _ z=>by cases z⟩
 | x::xs,h=>by
  obtain⟨d,e1,r1⟩:=h x B8;obtain⟨ds,e2,l2,r2⟩:=Jc g R xs fun y hy=>h y (B5 _ hy)
  refine⟨d::ds,by simp only[Cu,e1,e2,A1],by rw[D8,D8,l2],fun y hy=>?_⟩;rcases D6.mp hy with rfl | hy
  ·exact r1
  ·exact r2 y hy
theorem IW(g:Dv->γ->Option (Lp τ γ ρ))(c:γ):∀(xs:List Dv),(∀x∈xs,g x c=some (.go c))->GS g xs c=some (.go c)
 | [],_=>rfl
 | x::xs,h=>by simp only[GS,h x B8,A1];exact IW g c xs fun y hy=>h y (B5 _ hy)
theorem Jj(g:Dv->Unit->Option (Lp τ Unit ρ))(p:Dv->Bool)(d:τ)(r:ρ):∀(xs:List Dv),(∀x∈xs,g x ()=some (if p x=true then .rt d r else .go ()))->GS g xs ()=some (if xs.any p=true then .rt d r else .go ())
 | [],_=>rfl
 | x::xs,h=>by
  have ih:=Jj g p d r xs fun y hy=>h y (B5 _ hy)
  simp only[GS,h x B8,A1,S6]
  by_cases q:p x=true
  ·simp[q]
  ·simp only[q,B2,if_false,Bool.false_or];simpa using ih
theorem BH{xs:List Dv}{o:Option α}(h:xs.length<=1000000):Gn xs o=o:=by unfold Gn;rw[if_pos h]
end
theorem DS(xs:List α)(i:Nat)(h:i < xs.length):Em xs (i:Int)=some xs[i]:=by
 unfold Em Jd;rw[if_pos (by omega),if_pos (by omega)];simp[h]
theorem Im{xs:List α}{i:Int}(h0:0<=i)(h:i < xs.length):∃x∈xs,Em xs i=some x:=by
 obtain⟨n,rfl⟩:∃n:Nat,i=n:=⟨i.toNat,by omega⟩;exact⟨xs[n]'(by omega),L9 _,DS xs n (by omega)⟩
theorem Yg{xs:List Dv}{i:Int}(h0:0<=i)(h:i < xs.length):∃x∈xs,AF (.lst xs) (.int i)=some x:=Im h0 h
theorem gv{l:List Nat}{i:Int}(h0:0<=i)(h:i < l.length)(hl:l.length<=1000000):∃c∈l,AF (.str l) (.int i)=some (.str [c]):=by
 obtain⟨c,hc,e⟩:=Im h0 h;exact⟨c,hc,by simp only[AF,if_pos hl,e,F5]⟩
theorem IJ{n:Int}(h0:-1000000000<=n)(h:n<=1000000000):CQ [.int n]=some ((C2 n.toNat).map fun k=>.int (k:Nat)):=by
 have:small n=true:=by unfold small;simp[h0,h]
 simp only[CQ,this,cond_true,Int.zero_add]
theorem Qr(n:Nat)(h:n<=1000000):CQ [.int (n:Nat)]=some ((C2 n).map fun k=>.int (k:Nat)):=by
 have:=IJ (n:=(n:Int)) (by omega) (by omega);simpa using this
theorem au(xs:List Dv)(o:Option α):Pt "list" (.lst xs) o=o:=rfl
theorem fU(l:List Nat)(o:Option α):Pt "str" (.str l) o=o:=rfl
theorem XM{R:Type}(b:Bool)(k:Bool->Option R):Kj (.bl b) k=k b:=rfl
theorem cN{R:Type}(i:Int)(k:Int->Option R):UR (.int i) k=k i:=rfl
theorem FE(b:Bool):BD (.bl b)=some b:=rfl
theorem FH(b:Bool):DW (.bl b)=true:=rfl
theorem Yu{β:Type}{i j:Nat}(x y:Dv)(f:Dv×Dv->Option β):((XW [i,j] (.tup [x,y])).bind fun(t:Dv×Dv)=>f t)=f (x,y):=rfl
theorem UC{xs:List Dv}{y:Dv}(h:xs.length<=1000000):Bw (.lst xs) [y]=some (.pX,.lst (xs++[y])):=by simp only[Bw,if_pos h]
theorem GA{R:Dv->Dv->Prop}:∀{xs ys:List Dv},Paired R xs ys->xs.length=ys.length
 | _,_,.nil=>rfl
 | _,_,.cons _ p=>by rw[D8,D8,GA p]
theorem FR{xs:List α}{lo hi:Option Int}{x:α}(h:x∈Br xs lo hi):x∈xs:=List.mem_of_mem_drop (W2 h)
theorem Ih(xs:List α)(lo hi:Option Int):(Br xs lo hi).length<=xs.length:=by
 unfold Br;rw[O8,V4];omega
theorem GY(l:List Nat)(lo hi:Option Int):Ls l lo hi=Br l lo hi:=rfl
theorem DZ:∀ls:List (List Nat),BZ (ls.map Dv.str)=true
 | []=>rfl
 | x::xs=>by simp only[E7,BZ,Dv.cmp,DZ xs,M1]
theorem DY:∀ls:List (List Nat),Cd (ls.map Dv.str)=0
 | []=>rfl
 | x::xs=>by simp only[E7,Cd,Dv.dep,DY xs];rfl
theorem Ed(x:List Nat):∀ls:List (List Nat),IS (.str x) (ls.map Dv.str)=ls.contains x
 | []=>rfl
 | y::ys=>by
  have:=Ed x ys;simp only[IS] at this;simp only[IS,E7,S6,this,Z0,qz]
  by_cases e:y=x
  ·subst e;simp
  ·have e2:¬x=y:=fun z=>e z.symm
   have h1:(y == x)=false:=by simpa using e
   have h2:(x == y)=false:=by simpa using e2
   rw[h1,h2]
theorem gq(neg:Bool)(x:List Nat)(ls:List (List Nat)):KU neg (.str x) (.lst (ls.map Dv.str))=some (if neg=true then !ls.contains x else ls.contains x):=by
 simp only[KU,iD,Dv.cmp,DZ,DY,M1,M4,decide_true,if_true,Ed]
theorem Pi(neg:Bool)(x:List Nat)(ls:List (List Nat)):KU neg (.str x) (.tup (ls.map Dv.str))=some (if neg=true then !ls.contains x else ls.contains x):=by
 simp only[KU,iD,Dv.cmp,DZ,DY,M1,M4,decide_true,if_true,Ed]
theorem Bq(i j:Int):Aj (.int i) (.int j)=some (.int (i+j)):=rfl
theorem KZ(i j:Int)(h:0 < j):DA (.int i) (.int j)=some (.int (i % j)):=by simp only[DA,BX,h,decide_true,if_true]
theorem BB(i j:Int):KW (.int i) (.int j)=some (decide (i=j)):=by
 simp only[MI,Dv.cmp,Dv.dep,M1,M4,decide_true,if_true,qz,B2,if_false];congr 1
theorem Cc(i j:Int):Ph (.int i) (.int j)=some (!decide (i=j)):=by
 simp only[MI,Dv.cmp,Dv.dep,M1,M4,decide_true,if_true,qz];congr 1
theorem Tx.cut{N:Nat}{x:Dv}(h:Tx N x)(hN:N<=1000000)(lo hi:Option Int):∃y,FS x lo hi=some y/\Tx N y:=by
 obtain⟨l,rfl,h1,h2⟩:=h;exact⟨.str (Ls l lo hi),by simp only[FS,if_pos (A9 h1 hN)],_,rfl,by rw[GY];exact A9 (Ih _ _ _) h1,fun c hc=>h2 c (FR (by rw[<- GY];exact hc))⟩
theorem Tx.add{N M:Nat}{x y:Dv}(h:Tx N x)(h':Tx M y)(hN:N+M<=1000000):∃z,Aj x y=some z/\Tx (N+M) z:=by
 obtain⟨l,rfl,h1,h2⟩:=h;obtain⟨l',rfl,sv,we⟩:=h';refine⟨.str (l++l'),by simp only[Aj,if_pos (show l.length+l'.length<=1000000 by omega)],_,rfl,by rw[D9];omega,fun c hc=>?_⟩;rcases D4.mp hc with hc | hc
 ·exact h2 c hc
 ·exact we c hc
theorem Yt{c:Nat}(h:c < 128):V5 c < 128:=by
 unfold V5;split<;>omega
theorem Tx.upper{N:Nat}{x:Dv}(h:Tx N x)(hN:N<=1000000):∃y,En x=some y/\Tx N y:=by
 obtain⟨l,rfl,h1,h2⟩:=h;have e:(l.all (fun c=>decide (c < 128)) && decide (l.length<=1000000))=true:=by
  rw[A2];exact⟨E1.mpr fun c hc=>decide_eq_true (h2 c hc),decide_eq_true (A9 h1 hN)⟩
 refine⟨.str (l.map V5),by simp only[En,e,if_true],_,rfl,by rw[F4];exact h1,fun c hc=>?_⟩;obtain⟨d,hd,rfl⟩:=k9.mp hc;exact Yt (h2 d hd)
theorem HD:∀ls:List (List Nat),HE (ls.map Dv.str)=some ls
 | []=>rfl
 | x::xs=>by simp only[E7,HE,HD xs,F5]
theorem LX:∀{xs:List Dv},(∀x∈xs,∃c,x=.str [c]/\c < 128)->xs.length<=1000->∃z,Gf (.str []) (.lst xs)=some z/\Tx xs.length z:=by
 intro xs h hl;have:∃cs:List Nat,xs=(cs.map fun c=>[c]).map Dv.str/\∀c∈cs,c < 128:=by
  clear hl
  induction xs with
  | nil=>exact⟨[],rfl,fun _ z=>by cases z⟩
  | cons x xs ih =>
   obtain⟨cs,e,h2⟩:=ih fun y hy=>h y (B5 _ hy)
   obtain⟨c,rfl,hc⟩:=h x B8;refine⟨c::cs,by rw[e];rfl,fun d hd=>?_⟩;rcases D6.mp hd with rfl | hd
   ·exact hc
   ·exact h2 d hd
 obtain⟨cs,e,h2⟩:=this;have hlen:xs.length=cs.length:=by rw[e];simp
 have hj:∀cs:List Nat,jn [] (cs.map fun c=>[c])=cs:=by
  intro cs;cases cs with
  | nil=>rfl
  | cons a b =>
   show[a]++((b.map fun c=>[c]).flatMap fun y=>[]++y)=a::b;have:∀b:List Nat,((b.map fun c=>[c]).flatMap fun y=>[]++y)=b:=by
    intro b
    induction b with
    | nil=>rfl
    | cons x y ih=>simp only[E7,List.flatMap_cons,ih];rfl
   rw[this];rfl
 have hs:((cs.map fun c=>[c]).map W0).sum=cs.length:=by
  clear e h2 hlen
  induction cs with
  | nil=>rfl
  | cons a b ih=>rw[E7,E7,List.sum_cons,ih];simp;omega
 rw[e];refine⟨.str cs,?_,cs,rfl,by simp,h2⟩;simp only[Gf,HD,hj];rw[if_pos (by rw[hs];simp;omega)]
end R
namespace My
open PySem L2 R
theorem lO{G:Prop}(h:∀P:Prop,(G->P)->P):G:=h G id
variable {f:Dv}
theorem AN(hf:Fd f){n:Int}(h0:0 < n)(h1:n < 1073741824):∃(r:Nat) (f':Dv),AW f (.int n)=some (.int r,f')/\(r:Int) < n/\Fd f':=by
 obtain⟨a,b,rfl⟩:=hf;have i0:∀x y:Dv,AF (.lst [x,y]) (.int 0)=some x:=fun _ _=>rfl
 have i1:∀x y:Dv,AF (.lst [x,y]) (.int 1)=some y:=fun _ _=>rfl
 have s0:∀x y d:Dv,CF (.lst [x,y]) (.int 0) d=some (.lst [d,y]):=fun _ _ _=>rfl
 have s1:∀x y d:Dv,CF (.lst [x,y]) (.int 1) d=some (.lst [x,d]):=fun _ _ _=>rfl
 have m:∀x:Int,∃r:Nat,x % n=r/\(r:Int) < n:=fun x=>⟨(x % n).toNat,by have:=lp x (show n≠0 by omega);omega,by have:=lp x (show n≠0 by omega);have:=mq x h0;omega⟩
 have zAq:big 48271=true:=by decide
 have zAp:big 40692=true:=by decide
 have zAo:big 2147483647=true:=by decide
 unfold AW;simp only[i0,A1,Ce,MH]
 by_cases h:0 < a
 ·obtain⟨r,e,hr⟩:=m a;refine⟨r,.lst [.int (a / n),.int b],?_,hr,a / n,b,rfl⟩;simp only[h,decide_true,if_true,DA,UJ,BX,h0,h1,M1,A1,i0,s0,e]
 ·simp only[h,decide_false,B2,if_false,i1,s1,EL,zAq,zAp,zAo,nK,if_true,A1,DA,UJ,BX,Aj,h0,decide_true,show(0:Int) < 2147483647 by decide,show(0:Int) < 2147483399 by decide,show(0:Int) < 8191 by decide,show(8191:Int) < 1073741824 by decide,M1];obtain⟨r,e,hr⟩:=m (((b * 48271 % 2147483647) * 2147483647+((b * 48271 % 2147483647 * 40692+30103) % 2147483399+1)) / 8191);exact⟨r,_,by rw[e],hr,_,_,rfl⟩
theorem Om{ns:List Int}{k:Nat}:∃f,Fk (.qW ns) (.int k)=some f/\Fd f:=by
 have b1:big 7907=true:=by decide
 have b2:big 2147483629=true:=by decide
 have b3:big 31=true:=by decide
 have b4:big 48271=true:=by decide
 have b5:big 40692=true:=by decide
 have c1:∃c:Int,Fi (.qW ns) (.int k) (.int (7907 * k+13579))=some (.int c):=by
  unfold Fi JJ;simp only[AY,A1,Ce,MH]
  by_cases h:(k:Int) < ns.length
  ·simp only[h,decide_true,if_true,AF,DS ns k (by omega),F5,A1];exact⟨_,rfl⟩
  ·simp only[h,decide_false,B2,if_false]
   by_cases h2:0 < (ns.length:Int)
   ·have e:=lp (k:Int) (show(ns.length:Int)≠0 by omega);have e':=mq (k:Int) h2;obtain⟨x,_,ex⟩:=Im e e';simp only[h2,decide_true,if_true,DA,BX,A1,AF,ex,F5,EL,b1,b3,nM,nK,Aj,show(0:Int) < 2147483629 by decide];exact⟨_,rfl⟩
   ·simp only[h2,decide_false,B2,if_false];exact⟨_,rfl⟩
 obtain⟨c,e⟩:=c1;have c2:∃d:Int,Fh (.int c)=some (.int d):=by
  unfold Fh;simp only[Pj,BX,show(decide ((0:Int)<=18) && decide ((18:Int)<=1000000) && decide ((10:Int).natAbs < 2 ^ 64))=true by decide,if_true,A1,Ce,MH];split<;>exact⟨_,rfl⟩
 obtain⟨d,e2⟩:=c2;unfold Fk;simp only[EL,b1,b4,b5,nM,nK,if_true,A1,Aj,e,e2,DA,BX,show(0:Int) < 2147483629 by decide,show(0:Int) < 2147483646 by decide,decide_true];exact⟨_,rfl,_,_,rfl⟩
variable {n:Nat}
theorem ZE(hf:Fd f)(h0:0 < n)(h1:n<=1000000):∃(r:Nat) (f':Dv),AW f (.int (n:Nat))=some (.int (r:Nat),f')/\r < n/\Fd f':=by
 obtain⟨r,f',e,b,h⟩:=AN hf (n:=((n:Nat):Int)) (by omega) (by omega);exact⟨r,f',e,by omega,h⟩
noncomputable abbrev cv:List Nat:=[97,98,99,100,101,102,103,104,105,106,107,108,109,110,111,112,113,114,115,116,117,118,119,120,121,122]
theorem cQ:∀c∈cv,c < 128:=by decide
theorem aX{i:Int}(h0:0<=i)(h:i < 26):∃c,AF (.str cv) (.int i)=some (.str [c])/\c < 128:=by
 obtain⟨c,hc,e⟩:=gv (l:=cv) h0 h (by decide);exact⟨c,e,cQ c hc⟩
theorem Nz(hf:Fd f)(xs:List Dv)(hl:xs.length<=1000):∃z f',(∃ds,Ba DE xs f=some (ds,f')/\Gf (.str []) (.lst ds)=some z)/\Tx xs.length z/\Fd f':=by
 obtain⟨ds,f',e,l,h,rk⟩:=DR DE Fd (fun x=>∃c,x=.str [c]/\c < 128) xs f hf fun x _ c hc=>by
  obtain⟨r,f1,e1,b1,sT⟩:=AN hc (n:=26) (by decide) (by decide);obtain⟨c1,e2,h2⟩:=aX (Int.natCast_nonneg r) b1;exact⟨_,f1,by unfold DE;simp only[e1,e2,A1],⟨c1,rfl,h2⟩,sT⟩
 obtain⟨z,e2,hz⟩:=LX h (l▸hl);exact⟨z,f',⟨ds,e,e2⟩,l▸hz,rk⟩
theorem gH{α:Type}(xs:List α)(r:Nat)(h:Option Int):(Br xs (some (r:Int)) h).length<=xs.length - r:=by
 unfold Br;rw[O8,V4,HT.sM];exact A9 (nS _ _) (by omega)
theorem kh{N:Nat}{l:List Nat}(hN:l.length<=1000000)(h:∀c∈l,c < 128){lo hi:Option Int}(hl:(Br l lo hi).length<=N):∃y,FS (.str l) lo hi=some y/\Tx N y:=
 ⟨.str (Ls l lo hi),by simp only[FS,if_pos hN],_,rfl,by rw[GY];exact hl,fun c hc=>h c (FR (by rw[<- GY];exact hc))⟩
def Nm(p:List Nat)(c:Nat)(x:Dv):Prop:=∃t,x=.str (p++c::t)
noncomputable def ch(r i:Nat):Nat:=97+(r+7 * i) % 26
variable {r:Nat}
theorem YU{i j:Nat}(hi:i < 26)(hj:j < 26)(h:i≠j):ch r i≠ch r j:=by unfold ch;omega
theorem gL(r i:Nat):ch r i < 128:=by unfold ch;omega
theorem lE(r i:Nat):AF (.str cv) (.int (((r:Int)+7 * (i:Nat)) % 26))=some (.str [ch r i]):=by
 have e:∀k < 26,Em cv ((k:Nat):Int)=some (97+k):=by decide
 have hm:(r+7 * i) % 26 < 26:=Nat.mod_lt _ (by decide);have z:((r:Int)+7 * (i:Nat)) % 26=(((r+7 * i) % 26:Nat):Int):=by omega
 rw[z];simp only[AF,if_pos (show cv.length<=1000000 by decide),e _ hm,F5];rfl
theorem Sq{l:List Nat}(h:r<=l.length):Ls l none (some (r:Int))=l.take r:=by
 rw[GY];unfold Br;rw[HT.sM,oQ h];rfl
theorem XQ{a b:List Nat}(h:a.length+b.length<=1000000):Aj (.str a) (.str b)=some (.str (a++b)):=by simp only[Aj,if_pos h]
theorem LQ{l:List Nat}(h1:l.length<=4)(h2:∀c∈l,c < 128):∃u,EU (.str l)=some (.str (l++u))/\Tx 5 (.str (l++u)):=by
 have e:=Pi false l [[100,101,102],[108,101,116],[116,101,108,108],[108,111,111,112],[112,105,99,107],[99,97,108,108]];simp only[E7,k6,B2,if_false] at e;have a:=XQ (a:=l) (b:=[113]) (A9 (O4 h1 1) (by decide));unfold EU;simp only[e,A1];split
 ·refine⟨[113],by rw[a];rfl,_,rfl,by rw[D9];exact O4 h1 1,fun c hc=>?_⟩;rcases D4.mp hc with hc | hc
  ·exact h2 c hc
  ·rw[E5] at hc;subst hc;decide
 ·exact⟨[],by rw[F8],_,rfl,by rw[F8];exact U7 h1,by rw[F8];exact h2⟩
theorem Hj{γ:Type}{P:Nat->γ->Prop}(g:Dv->γ->Option γ)(n:Nat)(c:γ)(h0:P 0 c)(h:∀i < n,∀c,P i c->∃c',g (.int (i:Nat)) c=some c'/\P (i+1) c'):∃c',FJ g ((C2 n).map fun k=>.int (k:Nat)) c=some c'/\P n c':=by
 obtain⟨c',e,p⟩:=Jk g P ((C2 n).map fun k=>.int (k:Nat)) 0 c h0 fun i x hx c hc=>by
  rw[C0] at hx;have hi:i < n:=by
   rcases nN i n with h | h
   ·exact h
   ·rw[N9 (by simp;omega)] at hx;cases hx
  rw[A4 (by simp;omega)] at hx;simp only[F5,U6,mv] at hx;subst hx;rw[nO] at hc ⊢;exact h i hi c hc
 exact⟨c',e,by simpa using p⟩
theorem Vu{zl:List Nat}(hz1:zl.length<=3)(yC:∀c∈zl,c < 128){r7 tN r11 i:Nat}(h10:tN<=zl.length){ns:List Dv}(tH:ns.length<=1000000):∃x,DG (.str zl) (.int (r7:Nat)) (.int (tN:Nat)) (.int (r11:Nat)) (.int (i:Nat)) (.lst ns)=some (.lst (ns++[x]))/\Tx 5 x/\Nm (zl.take tN) (ch r7 i) x:=by
 have b7:big 7=true:=by decide
 have z6:zl.length<=1000000:=A9 hz1 (by decide);have e1:FS (.str zl) none (some (tN:Int))=some (.str (zl.take tN)):=by simp only[FS,if_pos z6,Sq h10]
 have l1:(zl.take tN).length=tN:=lY h10;obtain⟨y3,e3,t3,rfl,l3,c3⟩:=kh z6 yC (gH zl tN (some (((r11:Int)+(i:Nat)) % 4)));have l4:(zl.take tN++[ch r7 i]++t3).length<=4:=by simp only[D9,l1,N8];omega
 have a2:=XQ (a:=zl.take tN) (b:=[ch r7 i]) (by rw[<- D9];exact A9 (by simp) (A9 l4 (by decide)));have a4:=XQ (a:=zl.take tN++[ch r7 i]) (b:=t3) (by rw[<- D9];exact A9 l4 (by decide));obtain⟨u,e5,h5⟩:=LQ l4 fun c hc=>by
  rcases D4.mp hc with hc | hc
  ·rcases D4.mp hc with hc | hc
   ·exact yC c (W2 hc)
   ·rw[E5] at hc;subst hc;exact gL _ _
  ·exact c3 c hc
 refine⟨_,?_,h5,t3++u,by simp⟩;unfold DG;simp only[EL,BX,b7,nM,if_true,A1,Bq,KZ _ _ (show(0:Int) < 26 by decide),KZ _ _ (show(0:Int) < 4 by decide),lE,cN,e1,e3,a2,a4,e5,au,UC tH]
variable {x:Dv}
theorem JZ{p:List Nat}{a b:Nat}{y:Dv}(h:a≠b)(hx:Nm p a x)(hy:Nm p b y):x≠y:=fun q=>by
 obtain⟨t,rfl⟩:=hx;obtain⟨t',rfl⟩:=hy;exact h (List.cons.inj (List.append_cancel_left (Dv.str.inj q))).1
theorem LP{p:List Nat}(hf:Fd f){ns:List Dv}(h2:2<=n)(hn:n<=26)(hl:ns.length=n)(tH:∀x∈ns,Tx 5 x)(wZ:∀j x,ns[j]?=some x->Nm p (ch r j) x):∃ms f',ET (.int (n:Nat)) f (.lst ns)=some (f',.lst ms)/\ms.length=n/\(∀x∈ms,Tx 5 x)/\ms.Pairwise (·≠·)/\Fd f':=by
  subst hl;have nd:ns.Pairwise (·≠·):=L8.mpr fun i j hi hj lt=>JZ (YU (r:=r) (B3 hi hn) (B3 hj hn) (D3 lt)) (wZ i _ (A4 hi)) (wZ j _ (A4 hj))
  have k2:ns.length - 2 < ns.length:=Nat.sub_lt (B3 (by decide) h2) (by decide);have ix:∀k:Nat,0 < k->k<=ns.length->Jd ns.length (-(k:Int))=some (ns.length - k):=fun k h0 h=>by
    unfold Jd;rw[if_neg (by omega),if_pos (by omega)];congr 1;omega
  have ex:AF (.lst ns) (.int (-2))=some ns[ns.length - 2]:=by
    show(Jd ns.length (-2)).bind (fun j=>ns[j]?)=_;rw[show Jd ns.length (-2)=some (ns.length - 2) from ix 2 (by decide) h2];exact A4 k2
  obtain⟨l,el,qy,qx⟩:=tH _ (L9 k2);have nm2:=wZ _ _ (A4 k2);rw[el] at ex nm2;have t1:∃(b:Bool) (f':Dv),ER (.int (ns.length:Nat)) f (.lst ns)=some (b,f')/\(b=true->l.length<=3)/\Fd f':=by
    unfold ER HK;simp only[Ce,MH,show(1:Int) < (ns.length:Nat) by omega,decide_true,if_true,A1,Ge,ex,AY,if_pos (show l.length<=1000000 from A9 qy (by decide))];split
    · rename_i sQ;obtain⟨r,f',e,_,h⟩:=AN hf (n:=4) (by decide) (by decide);simp only[e,A1,BB];exact⟨_,_,rfl,fun _=>by have:=of_decide_eq_true sQ;omega,h⟩
    · exact⟨_,_,rfl,(fun z=>by cases z),hf⟩
  obtain⟨b,f',et,hb3,rk⟩:=t1;unfold ET;simp only[et,A1];cases b
  · exact⟨ns,f',by simp,rfl,tH,nd,rk⟩
  · have h3:=hb3 rfl;have ey:=XQ (a:=l) (b:=[113]) (A9 (O4 h3 1) (by decide));have s1:CF (.lst ns) (.int (-1)) (.str (l++[113]))=some (.lst (ns.set (ns.length - 1) (.str (l++[113])))):=by
      simp only[CF,show Jd ns.length (-1)=some (ns.length - 1) from ix 1 (by decide) (A9 (by decide) h2),A1]
    simp only[if_true,Ge,A1,ex,ey,s1];refine⟨_,f',rfl,C8,fun x hx=>?_,?_,rk⟩
    · rcases List.mem_or_eq_of_mem_set hx with hx | rfl
      · exact tH x hx
      · refine⟨_,rfl,by rw[D9];exact A9 (O4 h3 1) (by decide),fun c hc=>?_⟩;rcases D4.mp hc with hc | hc
        · exact qx c hc
        · rw[E5] at hc;subst hc;decide
    · refine L8.mpr fun i j hi hj lt=>?_
      rw[C8] at hi hj;rw[nt,nt,if_neg (show ¬ns.length - 1=i by omega)];split
      · by_cases e2:i=ns.length - 2
        · subst e2;rw[el];intro q;have:=congrArg W0 (Dv.str.inj q);simp at this
        · obtain⟨t,et⟩:=nm2;exact JZ (YU (r:=r) (B3 hi hn) (B3 k2 hn) e2) (wZ i _ (A4 hi)) ⟨t++[113],by rw[Dv.str.inj et];simp⟩
      · exact L8.mp nd i j hi hj lt
theorem GH(hf:Fd f)(h2:2<=n)(hn:n<=26):∃ns f',Bv f (.int n)=some (.lst ns,f')/\ns.length=n/\(∀x∈ns,Tx 5 x)/\ns.Pairwise (·≠·)/\Fd f':=by
  refine lO fun zP zQ=>?_
  obtain⟨r1,f1,e1,b1,sT⟩:=AN hf (n:=4) (by decide) (by decide);have l3:r1<=3:=by omega
  have l6:r1<=1000:=A9 l3 (by decide);have er:=Qr r1 (A9 l6 (by decide));have ll:((C2 r1).map fun k=>Dv.int (k:Nat)).length=r1:=by simp
  obtain⟨z,f2,⟨ds,e3,e4⟩,hz,vi⟩:=Nz sT _ (ll.symm▸l6);rw[ll] at hz;obtain⟨zl,rfl,hz1,yC⟩:=hz;have yB:=A9 hz1 l3;obtain⟨r7,f7,e7,b7,hf7⟩:=AN vi (n:=26) (by decide) (by decide);have el:AY (.str zl)=some (.int zl.length):=by simp only[AY,if_pos (show zl.length<=1000000 from A9 yB (by decide))]
  obtain⟨tN,f10,e10,yI,xX⟩:=AN hf7 (n:=(zl.length:Int)+1) (by omega) (by omega);obtain⟨r11,f11,e11,b11,xW⟩:=AN xX (n:=4) (by decide) (by decide);have n6:n<=1000000:=A9 hn (by decide);have en:=Qr n n6;obtain⟨c,e12,ns,rfl,hl,tH,wZ⟩:=Hj (P:=fun i c=>∃ns,c=Dv.lst ns/\ns.length=i/\(∀x∈ns,Tx 5 x)/\∀j x,ns[j]?=some x->Nm (zl.take tN) (ch r7 j) x) (DG (.str zl) (.int r7) (.int tN) (.int r11)) n (.lst []) ⟨[],rfl,rfl,(fun _ z=>(F7 z).elim),fun j x h=>by simp at h⟩ fun i hi c hc=>by
    obtain⟨ns,rfl,rfl,tH,wZ⟩:=hc;obtain⟨x,e,hx,hm⟩:=Vu yB yC (r7:=r7) (r11:=r11) (i:=ns.length) (show tN<=zl.length by omega) (A9 (T8 hi) n6);refine⟨_,e,_,rfl,by simp,fun y hy=>?_,fun j y hy=>?_⟩
    · rcases D4.mp hy with hy | hy
      · exact tH y hy
      · rw[E5] at hy;subst hy;exact hx
    · rcases nN j ns.length with w | w
      · rw[G1 w] at hy;exact wZ j y hy
      · rw[R4 w] at hy;have z:j - ns.length=0:=by
          have:=(B1.mp hy).1;exact Nat.lt_one_iff.mp this
        rw[z] at hy;cases hy;rw[Nat.le_antisymm (Nat.le_of_sub_eq_zero z) w];exact hm
  obtain⟨ms,f',e13,hl3,hms,zI,rk⟩:=LP xW h2 hn hl tH wZ;refine zQ ?_;refine⟨ms,f',?_,hl3,hms,zI,rk⟩;unfold Bv;simp only[fU,e1,er,A1];rw[BH (by rw[ll];exact A9 l6 (by decide))];simp only[A1,e3,e4,e7,el,Bq,e10,e11,en];rw[e12];simp only[A1,e13]
def cS(n:Nat)(xs:List Dv):Prop:=∀y∈xs,∃r:Nat,y=.int r/\r < n
def Row(n:Nat)(x:Dv):Prop:=∃xs,x=.tup xs/\xs.length=n/\cS n xs
def Tab(n:Nat)(r:Int)(x:Dv):Prop:=(r=1/\Row n x)\/(r=2/\∃xs,x=.tup xs/\xs.length=n/\∀y∈xs,Row n y)
def Gy(N:Nat)(x:Dv):Prop:=∃a r,x=.tup [a,.int r]/\Tx N a/\(r=1\/r=2)
def cw(n:Nat)(d t:Dv):Prop:=∃a r,d=.tup [a,.int r]/\(r=1\/r=2)/\Tab n r t
noncomputable def iS(d:Dv):Dv:=match d with | .tup (a::_)=>a | _=>.pX
abbrev DP(ds:List Dv):Prop:=ds.Pairwise fun x y=>iS x≠iS y
theorem KD{γ:Type}(g:Dv->γ->Option (Dv×γ))(P:γ->Prop)(R:Nat->Dv->Prop):∀(xs:List Dv) (o:Nat) (c:γ),P c->(∀i x,xs[i]?=some x->∀c,P c->∃d c',g x c=some (d,c')/\R (o+i) d/\P c')->∃ds c',Ba g xs c=some (ds,c')/\ds.length=xs.length/\(∀i d,ds[i]?=some d->R (o+i) d)/\P c'
 | [],o,c,hc,_=>⟨[],c,rfl,rfl,(fun i d h=>by simp at h),hc⟩
 | x::xs,o,c,hc,h=>by
  obtain⟨d,c1,e1,r1,p1⟩:=h 0 x rfl c hc;obtain⟨ds,c2,e2,l2,r2,p2⟩:=KD g P R xs (o+1) c1 p1 fun i y hy c hc=>by
   have:=h (i+1) y hy c hc;rw[show o+(i+1)=o+1+i by omega] at this;exact this
  refine⟨d::ds,c2,by simp only[Ba,e1,e2,A1],by rw[D8,D8,l2],fun i y hy=>?_,p2⟩;cases i with
  | zero=>simp at hy;subst hy;exact r1
  | succ i=>have:=r2 i y (by simpa using hy);rw[show o+(i+1)=o+1+i by omega];exact this
theorem Fj(hf:Fd f):∃fs ds f',DI f=some (.tup [.tup fs,.tup ds],f')/\fs.length<=4/\(∀x∈fs,Tx 10 x)/\ds.length<=4/\(∀x∈ds,Gy 5 x)/\DP ds/\Fd f':=by
 obtain⟨ns,f1,e1,hl,tH,_,sT⟩:=GH hf (n:=4) (by decide) (by decide);obtain⟨r2,f2,e2,b2,vi⟩:=AN sT (n:=5) (by decide) (by decide);have h3:∀x∈Br ns none (some (r2:Int)),Tx 5 x:=fun x hx=>tH x (FR hx)
 have l3:=Ih ns none (some (r2:Int));obtain⟨ps,e4,l4,h4⟩:=Jc EX (Tx 10) (Br ns none (some (r2:Int))) fun x hx=>by
  obtain⟨y1,ey1,y6⟩:=(h3 x hx).cut (by decide) none (some 1);obtain⟨l1,rfl,_,_⟩:=id y6;obtain⟨y2,ey2,hy2⟩:=y6.upper (by decide);obtain⟨y3,ey3,hy3⟩:=(h3 x hx).cut (by decide) (some 1) none;obtain⟨y4,ey4,hy4⟩:=hy2.add hy3 (by decide);exact⟨y4,by unfold EX;simp only[ey1,fU,ey2,ey3,ey4,A1],hy4⟩
 obtain⟨ms,f10,e10,zAy,hms,zI,xX⟩:=GH vi (n:=4) (by decide) (by decide);obtain⟨r11,f11,e11,b11,xW⟩:=AN xX (n:=8) (by decide) (by decide);have m:∀x∈[(Dv.int 1),(Dv.int 2),(Dv.int 3),(Dv.int 2),(Dv.int 4),(Dv.int 1),(Dv.int 2),(Dv.int 0)],∃k:Nat,x=.int k/\k<=4:=by
  intro x hx;simp only[D6,F7,or_false] at hx;rcases hx with rfl | rfl | rfl | rfl | rfl | rfl | rfl | rfl
  all_goals first | exact⟨4,rfl,by decide⟩ | exact⟨0,rfl,by decide⟩ | exact⟨1,rfl,by decide⟩ | exact⟨2,rfl,by decide⟩ | exact⟨3,rfl,by decide⟩
 obtain⟨x,hx,ex⟩:=Yg (xs:=[(Dv.int 1),(Dv.int 2),(Dv.int 3),(Dv.int 2),(Dv.int 4),(Dv.int 1),(Dv.int 2),(Dv.int 0)]) (i:=r11) (by omega) b11;obtain⟨k,rfl,hk⟩:=m x hx;have er:CQ [.int k]=some ((C2 (k:Int).toNat).map fun j=>.int (j:Nat)):=IJ (by omega) (by omega);obtain⟨qs,f16,e16,l6,h6,zAf⟩:=KD (EW (.lst ms)) Fd (fun j d=>∃a r,ms[j]?=some a/\d=.tup [a,.int r]/\Tx 5 a/\(r=1\/r=2)) ((C2 (k:Int).toNat).map fun j=>.int (j:Nat)) 0 f11 xW fun i x hx c hc=>by
  rw[C0] at hx;have hi:i < k:=by
   rcases nN i k with h | h
   ·exact h
   ·rw[N9 (by simp;omega)] at hx;cases hx
  rw[A4 (by simp;omega)] at hx;simp only[F5,U6,mv] at hx;subst hx;have ea:AF (.lst ms) (.int (i:Nat))=some ms[i]:=DS ms i (by omega);obtain⟨r,f',e,b,rk⟩:=AN hc (n:=2) (by decide) (by decide);exact⟨.tup [ms[i],.int (1+r)],f',by unfold EW;simp only[ea,e,A1,Bq],⟨ms[i],1+r,by rw[nO];exact A4 (by omega),rfl,hms _ (L9 _),by omega⟩,rk⟩
 have h6':∀x∈qs,Gy 5 x:=fun x hx=>by
  obtain⟨i,hi⟩:=mH hx;obtain⟨a,r,_,rfl,h⟩:=h6 i x hi;exact⟨a,r,rfl,h⟩
 have h7:qs.Pairwise (fun x y=>iS x≠iS y):=L8.mpr fun i j hi hj lt=>by
  obtain⟨a,r,ea,e,_⟩:=h6 i _ (A4 hi);obtain⟨b,q,eb,e',_⟩:=h6 j _ (A4 hj);rw[e,e'];show a≠b;rw[nO] at ea eb;obtain⟨h1,rfl⟩:=B1.mp ea;obtain⟨h2,rfl⟩:=B1.mp eb;exact L8.mp zI i j h1 h2 lt
 refine⟨ps,qs,f16,?_,by omega,h4,by rw[l6];simp;omega,h6',h7,zAf⟩;have e1':Bv f (.int 4)=some (.lst ns,f1):=e1;have zAk:Bv f2 (.int 4)=some (.lst ms,f10):=e10;unfold DI;simp only[e1',e2,A1,cN,FS,items];rw[BH (by omega),e4];simp only[A1,zAk,e11];rw[ex];simp only[A1,er];rw[BH (by simp;omega),e16];rfl
theorem Fl(g:Dv->Dv->Dv->Option (Dv×Dv))(hg:∀x2 it c,g x2 it c=(AW c x2).bind fun r=>some (r.1,r.2))(h0:0 < n)(h1:n<=1000)(hf:Fd f)(xs:List Dv):∃ts f',Ba (g (.int n)) xs f=some (ts,f')/\ts.length=xs.length/\cS n ts/\Fd f':=
 DR (g (.int n)) Fd (fun y=>∃r:Nat,y=.int r/\r < n) xs f hf fun x hx c hc=>by
  obtain⟨r,f',e,b,rk⟩:=AN hc (n:=n) (by omega) (by omega);exact⟨.int r,f',by rw[hg,e];rfl,⟨r,rfl,by omega⟩,rk⟩
theorem Hk(g:Dv->(Dv×Dv)->Option (Dv×Dv))(P:Dv->Prop)(R:Dv->Dv->Prop):∀(xs:List Dv) (f:Dv) (acc:List Dv),P f->acc.length+xs.length<=1000->(∀x∈xs,∀f acc,P f->acc.length<=1000->∃f' t,g x (f,.lst acc)=some (f',.lst (acc++[t]))/\R x t/\P f')->∃f' ts,FJ g xs (f,.lst acc)=some (f',.lst (acc++ts))/\Paired R xs ts/\P f'
 | [],f,acc,hf,_,_=>⟨f,[],by simp only[FJ,F8],.nil,hf⟩
 | x::xs,f,acc,hf,hl,h=>by
  rw[D8] at hl;obtain⟨f1,t,e1,r1,h1⟩:=h x B8 f acc hf (by omega);obtain⟨f2,ts,e2,r2,h2⟩:=Hk g P R xs f1 (acc++[t]) h1 (by rw[D9];simp;omega) fun y hy=>h y (B5 _ hy)
  exact⟨f2,t::ts,by simp only[FJ,e1,A1,e2,K9,List.singleton_append],.cons r1 r2,h2⟩
variable {ds:List Dv}
theorem FU(hf:Fd f){fs:List Dv}(h0:0 < n)(h1:n<=1000)(hfs:fs.length<=100)(vQ:ds.length<=100)(hd:∀x∈ds,∃a r,x=.tup [a,.int r]/\(r=1\/r=2)):∃ts sX f',DH f (.tup [.tup fs,.tup ds]) (.int n)=some (.tup [.int n,.tup ts,.tup sX],f')/\ts.length=fs.length/\cS n ts/\Paired (cw n) ds sX/\Fd f':=by
  obtain⟨ts,f1,e1,l1,sv,sT⟩:=Fl HR (fun _ _ _=>rfl) h0 h1 hf fs;have er:CQ [.int n]=some ((C2 (n:Int).toNat).map fun j=>.int (j:Nat)):=IJ (by omega) (by omega);have lr:((C2 (n:Int).toNat).map fun j=>Dv.int (j:Nat)).length=n:=by simp
  obtain⟨f2,sX,e2,p2,vi⟩:=Hk (DF (.int n)) Fd (cw n) ds f1 [] sT (by simp;omega) fun x hx f acc hf hl=>by
    obtain⟨a,r,rfl,hr⟩:=hd x hx;rcases hr with rfl | rfl
    · obtain⟨ys,f',e,l,hy,rk⟩:=Fl HQ (fun _ _ _=>rfl) h0 h1 hf ((C2 (n:Int).toNat).map fun j=>.int (j:Nat));refine⟨f',.tup ys,?_,⟨a,1,rfl,.inl rfl,.inl ⟨rfl,ys,rfl,by rw[l,lr],hy⟩⟩,rk⟩;unfold DF ES;simp only[Yu,A1,BB,decide_true,if_true,er,au];rw[BH (by omega),e];simp only[A1,BI,UC (show acc.length<=1000000 by omega)]
    · obtain⟨ys,f',e,l,hy,rk⟩:=DR (EV (.int n)) Fd (Row n) ((C2 (n:Int).toNat).map fun j=>.int (j:Nat)) f hf fun x hx c hc=>by
        obtain⟨zs,f',e,l,hz,rk⟩:=Fl HP (fun _ _ _=>rfl) h0 h1 hc ((C2 (n:Int).toNat).map fun j=>.int (j:Nat));refine⟨.tup zs,f',?_,⟨zs,rfl,by rw[l,lr],hz⟩,rk⟩;unfold EV;simp only[A1,er];rw[BH (by omega),e];simp only[A1,BI]
      refine⟨f',.tup ys,?_,⟨a,2,rfl,.inr rfl,.inr ⟨rfl,ys,rfl,by rw[l,lr],hy⟩⟩,rk⟩;unfold DF ES;simp only[Yu,A1,BB,show decide ((2:Int)=1)=false by decide,B2,if_false,er,au];rw[BH (by omega),e];simp only[A1,BI,UC (show acc.length<=1000000 by omega)]
  refine⟨ts,sX,f2,?_,l1,sv,p2,vi⟩;have i0:AF (.tup [.tup fs,.tup ds]) (.int 0)=some (.tup fs):=rfl;have i1:AF (.tup [.tup fs,.tup ds]) (.int 1)=some (.tup ds):=rfl;unfold DH;simp only[i0,i1,A1,items];rw[BH (by omega),e1];simp only[A1,BI];rw[e2];rfl
def Yk:Dv->Prop
 | .pX=>True
 | .bl _=>True
 | .int _=>True
 | .str _=>True
 | .lst _=>True
 | _=>False
def Pl(m:Nat):Nat->Dv->Prop
 | 0,x=>Yk x
 | d+1,x=>Yk x\/∃xs,x=.tup xs/\xs.length<=m/\∀y∈xs,Pl m d y
theorem Pl.tJ{m:Nat}{x:Dv}(h:Yk x):∀{d:Nat},Pl m d x
 | 0=>h
 | _+1=>.inl h
variable {m:Nat}
theorem Pl.tup{d:Nat}{xs:List Dv}(hl:xs.length<=m)(h:∀y∈xs,Pl m d y):Pl m (d+1) (.tup xs):=.inr ⟨xs,rfl,hl,h⟩
theorem Pl.cs{m:Nat}{x:Dv}:∀{d:Nat},Pl m d x->Yk x\/∃e xs,d=e+1/\x=.tup xs/\xs.length<=m/\∀y∈xs,Pl m e y
 | 0,h=>.inl h
 | d+1,.inl h=>.inl h
 | d+1,.inr ⟨xs,e,hl,h⟩=>.inr ⟨d,xs,rfl,e,hl,h⟩
theorem Pl.mono{m m':Nat}(hm:m<=m'){x:Dv}:∀{d d':Nat},d<=d'->Pl m d x->Pl m' d' x
 | 0,_,_,h=>.tJ h
 | d+1,d',hd,.inl h=>.tJ h
 | d+1,d'+1,hd,.inr ⟨xs,e,hl,h⟩=>.inr ⟨xs,e,A9 hl hm,fun y hy=>(h y hy).mono hm (Nat.le_of_succ_le_succ hd)⟩
noncomputable def isT:Dv->Bool
 | .tup _=>true
 | _=>false
noncomputable def kG:Dv->Bool
 | .int _=>true
 | _=>false
noncomputable def fV:Dv->Bool
 | .bl _=>true
 | _=>false
section
variable {m d:Nat} {x:Dv}
theorem WI(h:Pl m d x):Av x (.ty "int")=some (.bl (kG x || fV x)):=by
 rcases h.cs with h | ⟨_,xs,_,rfl,_⟩
 ·cases x<;>first | rfl | cases h
 ·rfl
theorem aq(h:Pl m d x):Av x (.ty "bool")=some (.bl (fV x)):=by
 rcases h.cs with h | ⟨_,xs,_,rfl,_⟩
 ·cases x<;>first | rfl | cases h
 ·rfl
theorem Kl(h:Pl m d x):BV x=some (.bl (kG x)):=by
 rcases h.cs with h | ⟨_,xs,_,rfl,_⟩
 ·cases x<;>first | rfl | cases h
 ·rfl
noncomputable def QH(n:Int):Dv->Bool
 | .int i=>decide (0<=i) && decide (i < n)
 | _=>false
def Bx(k n:Int):Dv->Bool
 | .tup xs=>decide ((xs.length:Int)=k) && xs.all (QH n)
 | _=>false
def Do(r n:Int)(x:Dv):Bool:=if r=1 then Bx n n x else match x with
 | .tup xs=>decide ((xs.length:Int)=n) && xs.all (Bx n n)
 | _=>false
theorem Ue{n:Int}(h:Pl m d x):Bc (.int n) x=some (.bl (QH n x)):=by
 rcases h.cs with h | ⟨_,xs,_,rfl,_⟩
 ·cases x<;>first | (cases h;done) | rfl | skip
  rename_i i _;unfold Bc Du;simp only[show BV (.int i)=some (.bl true) from rfl,A1,FH,cond_true,XM,if_true,gp,MH,Ce,QH]
  by_cases c:0<=i<;>simp[c]
 ·rfl
theorem QG{n:Int}(h:Pl m d x):Bf (.int n) x=some (.bl (QH n x)):=by
 rcases h.cs with h | ⟨_,xs,_,rfl,_⟩
 ·cases x<;>first | (cases h;done) | rfl | skip
  rename_i i _;unfold Bf Eo Ep Er
  simp only[show Av (.int i) (.ty "int")=some (.bl true) from rfl,show Av (.int i) (.ty "bool")=some (.bl false) from rfl,A1,XM,if_true,gp,MH,Ce,QH,T7]
  by_cases c:0<=i<;>simp[c]
 ·rfl
theorem FV:∀bs:List Bool,Nk (bs.map Dv.bl)=some bs
 | []=>rfl
 | b::bs=>by rw[E7];simp only[Nk,FV bs,F5]
theorem all_map(p:Dv->Bool)(xs:List Dv):FK (.lst (xs.map fun x=>.bl (p x)))=some (.bl (xs.all p)):=by
 have e:(xs.map fun x=>Dv.bl (p x))=(xs.map p).map Dv.bl:=by rw[pE];rfl
 simp only[FK,e,FV,F5];rw[k8];rfl
end
section
variable {m d:Nat} {x:Dv} (hm:m<=1000)
include hm
theorem Cj(h:Pl m d x)(k n:Int):AZ x (.int k) (.int n)=some (.bl (Bx k n x)):=by
 rcases h.cs with h | ⟨e,xs,rfl,rfl,hl,hx⟩
 ·cases x<;>first | (cases h;done) | rfl
 ·have e1:=Bo (Bc (.int n)) (fun x=>.bl (QH n x)) xs fun y hy=>Ue (hx y hy)
  unfold AZ Dr
  simp only[show Av (.tup xs) (.ty "tuple")=some (.bl true) from rfl,A1,FE,F2,B2,if_false,AY,Cc,items]
  rw[BH (A9 hl (A9 hm (by decide))),e1];simp only[A1,all_map,Bx]
  by_cases c:(xs.length:Int)=k<;>simp[c]
theorem Mh(h:Pl m d x)(n:Int):DJ (.int n) x=some (.bl (Bx n n x)):=by
 rcases h.cs with h | ⟨e,xs,rfl,rfl,hl,hx⟩
 ·cases x<;>first | (cases h;done) | rfl
 ·have e1:=Bo (EY (.int n)) (fun x=>.bl (QH n x)) xs fun y hy=>by unfold EY;simp only[QG (hx y hy),A1,FH,cond_true]
  unfold DJ HM HN
  simp only[show Av (.tup xs) (.ty "tuple")=some (.bl true) from rfl,A1,XM,if_true,AY,BB,items]
  rw[BH (A9 hl (A9 hm (by decide))),e1];simp only[A1,all_map,Bx]
  by_cases c:(xs.length:Int)=n<;>simp[c]
theorem Kr(h:Pl m d x)(r n:Int):Cq x (.int r) (.int n)=some (.bl (Do r n x)):=by
 unfold Cq Do;simp only[BB,A1]
 by_cases c:r=1
 ·simp only[c,decide_true,if_true,Cj hm h,A1,FH,cond_true]
 ·simp only[c,decide_false,B2,if_false];rcases h.cs with h | ⟨e,xs,rfl,rfl,hl,hx⟩
  ·cases x<;>first | (cases h;done) | rfl
  ·have e1:=Bo (Dc (.int n)) (fun x=>.bl (Bx n n x)) xs fun y hy=>by unfold Dc;simp only[Cj hm (hx y hy),A1,FH,cond_true]
   unfold Fc
   simp only[show Av (.tup xs) (.ty "tuple")=some (.bl true) from rfl,A1,FE,F2,B2,if_false,AY,Cc,items]
   rw[BH (A9 hl (A9 hm (by decide))),e1];simp only[A1,all_map]
   by_cases c:(xs.length:Int)=n<;>simp[c]
theorem Nt(h:Pl m d x)(r n:Int):CJ (.int n) (.int r) x=some (.bl (Do r n x)):=by
 unfold CJ Do;simp only[BB,A1]
 by_cases c:r=1
 ·simp only[c,decide_true,if_true,Mh hm h,A1,FH,cond_true]
 ·simp only[c,decide_false,B2,if_false];rcases h.cs with h | ⟨e,xs,rfl,rfl,hl,hx⟩
  ·cases x<;>first | (cases h;done) | rfl
  ·have e1:=Bo (Co (.int n)) (fun x=>.bl (Bx n n x)) xs fun y hy=>by unfold Co;simp only[Mh hm (hx y hy),A1,FH,cond_true]
   unfold Et Eu
   simp only[show Av (.tup xs) (.ty "tuple")=some (.bl true) from rfl,A1,XM,if_true,AY,BB,items]
   rw[BH (A9 hl (A9 hm (by decide))),e1];simp only[A1,all_map]
   by_cases c:(xs.length:Int)=n<;>simp[c]
end
noncomputable def dR(x:Dv):Int:=match x with | .tup [_,.int r]=>r | _=>0
def Gj(n:Int):List Dv->List Dv->Bool
 | d::ds,t::ts=>Do (dR d) n t && Gj n ds ts
 | _,_=>true
def Ei(fs ds:List Dv)(n a b:Dv):Option (List Nat):=match n with
 | .int n=>if n < 1 then some [102,111,114,109] else if Bx fs.length n a=false then some [102,105,120,101,100] else match b with
  | .tup ts=>if ts.length=ds.length/\Gj n ds ts=true then none else some [100,101,101,100]
  | _=>some [100,101,101,100]
 | _=>some [102,111,114,109]
def Jx(fs ds:List Dv)(x:Dv):Option (List Nat):=match x with
 | .tup [n,a,b]=>Ei fs ds n a b
 | _=>some [102,111,114,109]
noncomputable def cM(n:Dv):Bool:=match n with
 | .int n=>decide (n < 1)
 | _=>true
def Gs(x:Dv):Bool:=match x with
 | .tup [n,_,_]=>cM n
 | _=>true
section
variable {m d:Nat} {x:Dv} {fs ds:List Dv} (hm:m<=1000)
theorem jC(a:Dv)(r:List Dv):AF (.tup (a::r)) (.int 0)=some a:=by
 simp[AF,Em,Jd]
theorem iJ(a b:Dv)(r:List Dv):AF (.tup (a::b::r)) (.int 1)=some b:=by
 have:(1:Int) < (r.length:Int)+1+1:=by omega
 simp[AF,Em,Jd,this]
theorem lH(a b c:Dv)(r:List Dv):AF (.tup (a::b::c::r)) (.int 2)=some c:=by
 have:(2:Int) < (r.length:Int)+1+1+1:=by omega
 simp[AF,Em,Jd,this]
theorem Oj(h:Pl m d x):BE x=some (Gs x):=by
 rcases h.cs with h | ⟨e,xs,rfl,rfl,hl,hx⟩
 ·cases x<;>first | (cases h;done) | rfl
 ·unfold BE Dp
  simp only[show Av (.tup xs) (.ty "tuple")=some (.bl true) from rfl,A1,FE,F2,B2,if_false,AY,Cc]
  match xs,hx with
  | [],_=>rfl
  | [_],_=>rfl
  | [_,_],_=>rfl
  | _::_::_::_::r,_ =>
   have:¬((r.length:Int)+1+1+1+1=3):=by omega
   simp[Gs,this]
  | [n,a,b],hx =>
   have hn:=hx n B8;have w:=Kl hn;unfold Dq;simp only[jC,A1,w,FH,cond_true,FE,D8,lh,show decide (((0+1+1+1:Nat):Int)=3)=true from rfl,F2,B2,if_false];cases n<;>first | rfl | skip
theorem SG(h:Pl m d x):(FN x=some true/\Gs x=true)\/∃n a b,x=.tup [n,a,b]/\FN x=some false/\ID n=some (Gs x):=by
 rcases h.cs with h | ⟨e,xs,rfl,rfl,hl,hx⟩
 ·refine .inl ?_;cases x<;>first | (cases h;done) | exact⟨rfl,rfl⟩
 ·match xs,hx with
  | [],_=>exact .inl ⟨rfl,rfl⟩
  | [_],_=>exact .inl ⟨rfl,rfl⟩
  | [_,_],_=>exact .inl ⟨rfl,rfl⟩
  | a::b::c::f::r,_ =>
   have:¬((r.length:Int)+1+1+1+1=3):=by omega
   refine .inl ⟨?_,rfl⟩;unfold FN
   simp only[show Av (.tup (a::b::c::f::r)) (.ty "tuple")=some (.bl true) from rfl,A1,FE,F2,B2,if_false,AY,Cc]
   simp[this]
  | [n,a,b],hx =>
   refine .inr ⟨n,a,b,rfl,rfl,?_⟩;have hn:=hx n B8;unfold ID Mb;simp only[WI hn,aq hn,A1,FE];cases n<;>first | rfl | skip
theorem Ie(h:Gs x=true):Jx fs ds x=some [102,111,114,109]:=by
 unfold Gs at h;unfold Jx;split
 ·simp only at h;unfold cM at h;unfold Ei;split
  ·rw[if_pos (of_decide_eq_true h)]
  ·rfl
 ·rfl
theorem NZ(h:Gs x=false):∃n a b,x=.tup [.int n,a,b]/\1<=n:=by
 unfold Gs at h;split at h
 ·unfold cM at h;split at h
  ·exact⟨_,_,_,rfl,by have:=of_decide_eq_false h;omega⟩
  ·cases h
 ·cases h
end
section
variable {m e:Nat} {fs ds ts:List Dv} {n:Int}
theorem Sn{d:Dv}(h:Gy 5 d):AF d (.int 1)=some (.int (dR d)):=by
 obtain⟨a,r,rfl,_⟩:=h;rfl
theorem HI(hm:m<=1000):∀{ts ds:List Dv},(∀t∈ts,Pl m e t)->(∀d∈ds,Gy 5 d)->∃bs:List Bool,Cu (Bd (.int n)) (Bi ts ds)=some (bs.map Dv.bl)/\bs.all id=Gj n ds ts
 | [],ds,_,_=>⟨[],rfl,by cases ds<;>rfl⟩
 | _::_,[],_,_=>⟨[],rfl,rfl⟩
 | t::ts,d::ds,ht,hd=>by
  obtain⟨bs,e1,e2⟩:=HI hm (fun t q=>ht t (B5 _ q)) fun d q=>hd d (B5 _ q)
  refine⟨Do (dR d) n t::bs,?_,by rw[G8,e2];rfl⟩;have s:Bd (.int n) (.tup [t,d])=some (.bl (Do (dR d) n t)):=by
   unfold Bd;simp only[Yu,Sn (hd d B8),A1,Kr hm (ht t B8),FH,cond_true]
  simp only[Bi,Cu,s,e1,A1,E7]
def XX(n:Int)(ds:List Dv)(b:Dv):Bool:=match b with
 | .tup ts=>decide (ts.length=ds.length) && Gj n ds ts
 | _=>false
theorem JF(hm:m<=1000){d:Nat}(h:Pl m d x)(hd:∀y∈ds,Gy 5 y):Ao x (.tup ds) (.int n)=some (.bl (XX n ds x)):=by
  rcases h.cs with h | ⟨e,ts,rfl,rfl,hl,hx⟩
  · cases x<;>first | (cases h;done) | rfl
  · obtain⟨bs,e1,e2⟩:=HI (n:=n) hm hx hd;have z:Mf [.tup ts,.tup ds]=some (Bi ts ds):=rfl;have zl:∀(a b:List Dv),(Bi a b).length<=a.length:=fun a=>by
      induction a with
      | nil=>intro b;exact B9 _
      | cons x a ih=>intro b;cases b with
        | nil=>exact M4 _
        | cons y b=>exact Nat.succ_le_succ (ih b)
    unfold Ao Ds
    simp only[show Av (.tup ts) (.ty "tuple")=some (.bl true) from rfl,A1,FE,F2,B2,if_false,AY,Cc,z]
    rw[BH (A9 (zl ts ds) (A9 hl (A9 hm (by decide)))),e1];simp only[A1,FK,FV,F5,e2,XX]
    by_cases c:ts.length=ds.length
    · simp[c]
    · have:¬((ts.length:Int)=ds.length):=by omega
      simp[c,this]
theorem MY:∀{ds ts:List Dv},ts.length=ds.length->Gj n ds ts=(C2 ts.length).all fun k=>Do (dR (ds.getD k .pX)) n (ts.getD k .pX)
 | [],[],_=>rfl
 | d::ds,t::ts,h=>by
  rw[D8,U5,G8,k8];unfold Gj;rw[MY (by simpa using h)];rfl
theorem Ot(hm:m<=1000)(hx:∀t∈ts,Pl m e t)(hd:∀y∈ds,Gy 5 y)(hl:ts.length=ds.length):GS (II (.tup [.tup fs,.tup ds]) (.int n) (.tup ts)) ((C2 ts.length).map fun k=>.int (k:Nat)) ()=some (if(!Gj n ds ts)=true then .rt (.str [100,101,101,100]) () else .go ()):=by
  refine(Jj _ (fun x=>match x with | .int k=>!(Do (dR (ds.getD k.toNat .pX)) n (ts.getD k.toNat .pX)) | _=>false) (.str [100,101,101,100]) () _ fun x tu=>?_).trans ?_
  · obtain⟨k,hk,rfl⟩:=k9.mp tu;have hk:=N2.mp hk;have e1:AF (.tup ds) (.int (k:Nat))=some ds[k]:=DS ds k (by omega);have e2:AF (.tup ts) (.int (k:Nat))=some ts[k]:=DS ts k hk;have g1:ds.getD k .pX=ds[k]:=by rw[D0,A4 (by omega)];rfl
    have g2:ts.getD k .pX=ts[k]:=by rw[D0,A4 hk];rfl
    unfold II;simp only[iJ,A1,e1,e2,Sn (hd _ (L9 _)),Nt hm (hx _ (L9 _)),FH,cond_true,FE,U2,g1,g2];split<;>rfl
  · rw[MY hl,List.any_map];have:∀l:List Nat,(l.any fun k=>!(Do (dR (ds.getD k .pX)) n (ts.getD k .pX)))=!(l.all fun k=>Do (dR (ds.getD k .pX)) n (ts.getD k .pX)):=fun l=>by
      induction l with
      | nil=>rfl
      | cons a l ih=>rw[S6,G8,ih,Bool.not_and]
    rw[<- this];rfl
end
noncomputable def wD:Option (List Nat)->Dv
 | none=>.pX
 | some w=>.str w
section
variable {m d:Nat} {x:Dv} {fs ds:List Dv} (hm:m<=1000)
theorem Eh{n:Int}{a b:Dv}(h1:1<=n)(h2:Bx fs.length n a=true):Ei fs ds (.int n) a b=if XX n ds b=true then none else some [100,101,101,100]:=by
 unfold Ei;simp only[h2,show ¬n < 1 by omega,if_false,Bool.true_eq_false];cases b<;>first | rfl | skip
 rename_i ts;unfold XX
 by_cases c:ts.length=ds.length<;>simp[c]
include hm
theorem WD(h:Pl m d x)(hf:fs.length<=100)(hd:∀y∈ds,Gy 5 y):HU (.tup [.tup fs,.tup ds]) x=some (wD (Jx fs ds x)):=by
  rcases SG h with⟨e1,e2⟩ | ⟨n,a,b,rfl,e1,e2⟩
  · unfold HU;simp only[e1,A1,if_true,Ie e2,wD]
  · have u:∀f:Dv×Dv×Dv->Option Dv,((XW [2,3,4] (.tup [n,a,b])).bind fun(t:Dv×Dv×Dv)=>f t)=f (n,a,b):=fun f=>rfl
    unfold HU;simp only[e1,A1,B2,if_false,u,e2]
    by_cases c:Gs (.tup [n,a,b])=true
    · simp only[c,if_true,Ie c,wD]
    · obtain⟨k,_,_,ee,hk⟩:=NZ (R1.mpr c);cases ee;rw[if_neg c];rcases h.cs with h | ⟨q,xs,rfl,ex,hl,hx⟩
      · cases h
      cases ex;have ha:=hx a (by simp);have hb:=hx b (by simp);show _=some (wD (Ei fs ds (.int k) a b))
      -- wF fixed things
      rcases ha.cs with h1 | ⟨q1,as,rfl,rfl,qy,tu⟩
      · have e3:FM (.tup [.tup fs,.tup ds]) a=some true:=by cases a<;>first | (cases h1;done) | rfl
        have e4:Bx fs.length k a=false:=by cases a<;>first | (cases h1;done) | rfl
        simp only[e3,A1,if_true];unfold Ei;simp only[show ¬k < 1 by omega,if_false,e4,if_true,wD]
      · have e3:FM (.tup [.tup fs,.tup ds]) (.tup as)=some (!decide ((as.length:Int)=fs.length)):=by
          unfold FM
          simp only[show Av (.tup as) (.ty "tuple")=some (.bl true) from rfl,A1,FE,F2,B2,if_false,AY,jC,Cc]
        simp only[e3,A1]
        by_cases c1:(as.length:Int)=fs.length
        · have e4:=Bo (IG (.int k)) (fun x=>.bl (QH k x)) as fun y hy=>by unfold IG;simp only[QG (tu y hy),A1,FH,cond_true]
          simp only[c1,decide_true,F2,B2,if_false,items,A1];rw[BH (A9 qy (A9 hm (by decide))),e4];simp only[A1,all_map,FE]
          by_cases c2:as.all (QH k)=true
          · have e5:Bx fs.length k (.tup as)=true:=by unfold Bx;simp[c1,c2]
            rw[Eh hk e5];simp only[c2,F2,B2,if_false];rcases hb.cs with h2 | ⟨q2,ts,_,rfl,qx,wX⟩
            · have e6:FL (.tup [.tup fs,.tup ds]) b=some true:=by cases b<;>first | (cases h2;done) | rfl
              simp only[e6,A1,if_true];cases b<;>first | (cases h2;done) | rfl
            · have e6:FL (.tup [.tup fs,.tup ds]) (.tup ts)=some (!decide ((ts.length:Int)=ds.length)):=by
                unfold FL
                simp only[show Av (.tup ts) (.ty "tuple")=some (.bl true) from rfl,A1,FE,F2,B2,if_false,AY,iJ,Cc]
              simp only[e6,A1]
              by_cases c3:ts.length=ds.length
              · have c4:(ts.length:Int)=ds.length:=by omega
                have er:CQ [.int (ts.length:Nat)]=_:=Qr ts.length (A9 qx (A9 hm (by decide)));simp only[c4,decide_true,F2,B2,if_false,AY,A1];rw[<- c4,er];simp only[A1];rw[Ot hm wX hd c3];simp only[XX,c3,decide_true,V8];cases Gj k ds ts<;>rfl
              · have c4:¬(ts.length:Int)=ds.length:=by omega
                simp[c3,c4,wD,XX]
          · have c2:=R1.mpr c2;have e5:Bx fs.length k (.tup as)=false:=by unfold Bx;simp[c1,c2]
            simp only[c2,T7,if_true];unfold Ei;simp only[show ¬k < 1 by omega,if_false,e5,if_true,wD]
        · have e5:Bx fs.length k (.tup as)=false:=by unfold Bx;simp[c1]
          simp only[c1,decide_false,T7,if_true];unfold Ei;simp only[show ¬k < 1 by omega,if_false,e5,if_true,wD]
end
noncomputable def xq(w:List Nat):Ex:=⟨"NoWorld", "word", .str w⟩
section
variable {m d:Nat} {x:Dv} {fs ds:List Dv} (hm:m<=1000) (h:Pl m d x) (hd:∀y∈ds,Gy 5 y)
theorem QA(a0 a1:Dv):Aq a0 a1=i8 ((BE a1).bind fun t=>if t=true then some (xq [102,111,114,109]) else none) ((BE a1).bind fun t=>if t=true then none else
    i8 ((AF a1 (.int 1)).bind fun u=>(AF a0 (.int 0)).bind fun v=>(AY v).bind fun l=>(AF a1 (.int 0)).bind fun n=>(AZ u l n).bind fun c=>bif DW c then(BD c).bind fun b=>if(!b)=true then some (xq [102,105,120,101,100]) else none else none)
      ((AF a1 (.int 1)).bind fun u=>(AF a0 (.int 0)).bind fun v=>(AY v).bind fun l=>(AF a1 (.int 0)).bind fun n=>(AZ u l n).bind fun c=>bif DW c then(BD c).bind fun b=>if(!b)=true then none else
        i8 ((AF a1 (.int 2)).bind fun u=>(AF a0 (.int 1)).bind fun v=>(AF a1 (.int 0)).bind fun n=>(Ao u v n).bind fun c=>bif DW c then(BD c).bind fun b=>if(!b)=true then some (xq [100,101,101,100]) else none else none)
          ((AF a1 (.int 2)).bind fun u=>(AF a0 (.int 1)).bind fun v=>(AF a1 (.int 0)).bind fun n=>(Ao u v n).bind fun c=>bif DW c then(BD c).bind fun b=>if(!b)=true then none else none else none) else none)):=rfl
include hm h hd
theorem Hc:Aq (.tup [.tup fs,.tup ds]) x=(Jx fs ds x).map xq/\(Jx fs ds x=none->BN (.tup [.tup fs,.tup ds]) x=some (.bl true)):=by
  have f:=Oj h;rw[QA,f]
  by_cases c:Gs x=true
  · rw[Ie c,c];exact⟨rfl,fun z=>by cases z⟩
  · obtain⟨k,a,b,rfl,hk⟩:=NZ (R1.mpr c);have c:=R1.mpr c;rcases h.cs with h | ⟨q,xs,_,ex,hl,hx⟩
    · cases h
    cases ex;have ha:=hx a (by simp);have hb:=hx b (by simp);have t1:=Cj hm ha (fs.length:Nat) k;have t2:=JF (n:=k) hm hb hd;unfold BN;rw[f];simp only[c,A1,B2,if_false,ox,jC,iJ,lH,AY,t1,t2,FH,cond_true,FE];show _=(Ei fs ds (.int k) a b).map xq/\(Ei fs ds (.int k) a b=none->_)
    by_cases c1:Bx fs.length k a=true
    · rw[Eh hk c1];simp only[c1,F2,B2,if_false,ox];cases XX k ds b
      · exact⟨rfl,fun z=>by cases z⟩
      · exact⟨rfl,fun _=>rfl⟩
    · have c1:=R1.mpr c1;have e:Ei fs ds (.int k) a b=some [102,105,120,101,100]:=by
        unfold Ei;simp only[show ¬k < 1 by omega,if_false,c1,if_true]
      rw[e];simp only[c1,T7,if_true];exact⟨rfl,fun z=>by cases z⟩
theorem Nr:EZ (.tup [.tup fs,.tup ds]) x=some (wD (Jx fs ds x)):=by
 obtain⟨e1,e2⟩:=Hc hm h hd;unfold EZ;rw[e1];cases hw:Jx fs ds x with
 | some w=>rfl
 | none =>
  show(Fg _ _).bind _=_;unfold Fg;rw[e2 hw];rfl
end
theorem cJ(w:Option (List Nat)):Ph (wD w) (wD w)=some false:=by
 cases w with
 | none=>rfl
 | some l=>simp[wD,MI,Dv.cmp,Dv.dep,R.qz]
theorem Oy{α:Type}{l:List α}(h:r<=l.length):Br l none (some (r:Int))=l.take r:=by
 unfold Br;rw[HT.sM,oQ h];rfl
theorem XO{a b:List Dv}(h:a.length+b.length<=1000000):Aj (.tup a) (.tup b)=some (.tup (a++b)):=by simp only[Aj,if_pos h]
theorem GD(hf:Fd f):∃y f',HS f (.int n)=some (y,f')/\Pl 2 2 y/\Fd f':=by
  obtain⟨r,f',e,b,rk⟩:=AN hf (n:=21) (by decide) (by decide);obtain⟨p12,p⟩:∃i:Int,Pj (.int 10) (.int 12)=some (.int i):=⟨10 ^ (12:Int).toNat,by simp only[Pj,BX,show(decide ((0:Int)<=12) && decide ((12:Int)<=1000000) && decide ((10:Int).natAbs < 2 ^ 64))=true by decide,if_true]⟩;have fi:∀i:Int,Yk (.int i):=fun _=>True.intro
  have t1:Pl 2 1 (.tup [.int 0]):=.tup (by decide) fun y hy=>by rw[E5] at hy;subst hy;exact .tJ (fi 0)
  have m:∀x∈[(Dv.int 0),(Dv.int 1),(Dv.int 2),(Dv.int 3),(.int (-1)),(.int n),(.int ((n:Int) - 1)),(.int ((n:Int)+1)),(Dv.bl true),(Dv.bl false),Dv.pX,(Dv.str []),(Dv.str [49]),(Dv.tup []),(Dv.tup [(Dv.int 0)]),(Dv.tup [(Dv.int 0),(Dv.int 0)]),(Dv.lst [(Dv.int 0)]),(Dv.lst []),(Dv.tup [(Dv.tup [(Dv.int 0)])]),(Dv.str [102,111,114,109])]++[Dv.int p12],Pl 2 2 x:=by
    intro x hx;simp only[List.cons_append,oP,D6,F7,or_false] at hx;rcases hx with rfl | rfl | rfl | rfl | rfl | rfl | rfl | rfl | rfl | rfl | rfl | rfl | rfl | rfl | rfl | rfl | rfl | rfl | rfl | rfl | rfl
    all_goals first
      | (refine Pl.tJ ?_;trivial)
      | exact .tup (by decide) fun y hy=>(F7 hy).elim
      | exact t1.mono (by decide) (by decide)
      | exact .tup (by decide) fun y hy=>by rw[E5] at hy;subst hy;exact t1
      | exact .tup (by decide) fun y hy=>by
          have:y=.int 0:=by simpa using hy
          subst this;exact .tJ (fi 0)
  obtain⟨x,hx,ex⟩:=Yg (i:=r) (by omega) (show(r:Int) < ([(Dv.int 0),(Dv.int 1),(Dv.int 2),(Dv.int 3),(.int (-1)),(.int n),(.int ((n:Int) - 1)),(.int ((n:Int)+1)),(Dv.bl true),(Dv.bl false),Dv.pX,(Dv.str []),(Dv.str [49]),(Dv.tup []),(Dv.tup [(Dv.int 0)]),(Dv.tup [(Dv.int 0),(Dv.int 0)]),(Dv.lst [(Dv.int 0)]),(Dv.lst []),(Dv.tup [(Dv.tup [(Dv.int 0)])]),(Dv.str [102,111,114,109])]++[Dv.int p12]).length from b);refine⟨x,f',?_,m x hx,rk⟩;unfold HS;have s1:cR (.int n) (.int 1)=some (.int ((n:Int) - 1)):=rfl;have s2:Ge (.int 1)=some (.int (-1)):=rfl;simp only[s1,s2,Bq,p,e,A1];rw[show ∀a b:List Dv,Aj (.lst a) (.lst b)=if a.length+b.length<=1000000 then some (.lst (a++b)) else none from fun _ _=>rfl,if_pos (by simp)];simp only[A1];rw[ex];rfl
theorem EH(h2:2<=m)(hm:m<=900):∀(d k:Nat) (x f:Dv),Pl m d x->d < k->Fd f->∃y f',AV k f (.int n) x=some (y,f')/\Pl (m+1) (d+2) y/\Fd f':=by
 intro d
 induction d with
 | zero =>
  intro k x f h hk hf;obtain⟨y,f',e,hy,rk⟩:=GD hf (n:=n);obtain⟨k,rfl⟩:∃j,k=j+1:=⟨k - 1,by omega⟩;refine⟨y,f',?_,hy.mono (U7 h2) (B9 _),rk⟩;have s:Bt f x=some (true,f):=by cases x<;>first | (cases h;done) | rfl
  unfold AV;simp only[s,A1,if_true,e]
 | succ d ih =>
  intro k x f h hk hf;obtain⟨k,rfl⟩:∃j,k=j+1:=⟨k - 1,by omega⟩;have odd:∀f1,Fd f1->Bt f x=some (true,f1)->∃y f',AV (k+1) f (.int n) x=some (y,f')/\Pl (m+1) (d+1+2) y/\Fd f':=fun f1 sT s=>by
   obtain⟨y,f',e,hy,rk⟩:=GD sT (n:=n);refine⟨y,f',?_,hy.mono (U7 h2) (Nat.le_add_left _ _),rk⟩;unfold AV;simp only[s,A1,if_true,e]
  rcases h with h | ⟨xs,rfl,hl,hx⟩
  ·exact odd f hf (by cases x<;>first | (cases h;done) | rfl)
  ·have s0:Bt f (.tup xs)=(Bu f (.tup xs)).bind fun t6=>some (t6.1,t6.2):=rfl
   have s1:Bu f (.tup xs)=if decide ((xs.length:Int)=0)=true then some (true,f) else(AW f (.int 8)).bind fun c4=>(KW c4.1 (.int 0)).bind fun b5=>some (b5,c4.2):=by
    unfold Bu;simp only[AY,A1,BB]
   by_cases c0:(xs.length:Int)=0
   ·exact odd f hf (by rw[s0,s1,if_pos (decide_eq_true c0)];rfl)
   ·obtain⟨r1,f1,e1,b1,sT⟩:=AN hf (n:=8) (by decide) (by decide);rw[if_neg (by simpa using c0)] at s1;simp only[e1,A1,BB] at s1;rw[s1] at s0
    by_cases c1:(r1:Int)=0
    ·exact odd f1 sT (by rw[s0];simp only[A1,c1,decide_true])
    ·have lx:xs.length<=1000000:=A9 hl (A9 hm (by decide));obtain⟨r,f2,e2,b2,vi⟩:=AN sT (n:=(xs.length:Nat)) (by omega) (by omega);obtain⟨w,f3,e3,b3,zO⟩:=AN vi (n:=9) (by decide) (by decide);have br:r < xs.length:=by omega
     have t1:FS (.tup xs) none (some (r:Int))=some (.tup (xs.take r)):=by simp only[FS,Oy (T8 br)]
     have t2:∃ys,FS (.tup xs) (some ((r:Int)+1)) none=some (.tup ys)/\ys.length+(r+1)<=xs.length/\∀y∈ys,y∈xs:=⟨Br xs (some (((r+1:Nat)):Int)) none,rfl,by have:=gH xs (r+1) none;omega,fun y hy=>FR hy⟩;obtain⟨ys,t2,l2,m2⟩:=t2;have lt:(xs.take r).length=r:=lY (T8 br);have t3:AF (.tup xs) (.int (r:Nat))=some xs[r]:=DS xs r br;have up:∀y∈xs,Pl (m+1) (d+2) y:=fun y hy=>(hx y hy).mono (mF _) (Nat.le_add_right _ _)
     have tk:∀y∈xs.take r,Pl (m+1) (d+2) y:=fun y hy=>up y (W2 hy)
     unfold AV;simp only[s0,A1,c1,decide_false,B2,if_false,AY,e2,e3,BB,cN,t1,Bq,t2,t3]
     by_cases w0:(w:Int)=0
     ·simp only[w0,decide_true,if_true];rw[XO (by rw[lt];omega)];refine⟨_,f3,rfl,.tup (by rw[D9,lt];omega) fun y hy=>?_,zO⟩;rcases D4.mp hy with hy | hy
      ·exact tk y hy
      ·exact up y (m2 y hy)
     ·by_cases w1:(w:Int)=1
      ·simp only[decide_eq_false w0,decide_eq_true w1,B2,if_false,if_true];rw[XO (by simp;omega)];refine⟨.tup (xs++[xs[r]]),f3,rfl,.tup (by rw[D9];exact O4 hl 1) fun y hy=>?_,zO⟩;rcases D4.mp hy with hy | hy
       ·exact up y hy
       ·rw[E5] at hy;subst hy;exact up _ (L9 _)
      ·by_cases w2:(w:Int)=2
       ·simp only[decide_eq_false w0,decide_eq_false w1,decide_eq_true w2,B2,if_false,if_true];exact⟨.lst xs,f3,rfl,.tJ (show Yk (.lst xs) from True.intro),zO⟩
       ·by_cases w3:(w:Int)=3
        ·simp only[decide_eq_false w0,decide_eq_false w1,decide_eq_false w2,decide_eq_true w3,B2,if_false,if_true];refine⟨.tup xs.reverse,f3,rfl,.tup (by rw[S2];exact U7 hl) fun y hy=>up y (List.mem_reverse.mp hy),zO⟩
        ·obtain⟨y,f4,e4,hy,hf4⟩:=ih k xs[r] f3 (hx _ (L9 _)) (by omega) zO;simp only[w0,w1,w2,w3,decide_false,B2,if_false,e4,A1];rw[XO (by rw[lt];simp;omega)];simp only[A1];rw[XO (by rw[D9,lt];simp;omega)];refine⟨_,f4,rfl,.tup (by simp only[D9,lt,N8];omega) fun z hz=>?_,hf4⟩;rcases D4.mp hz with hz | hz
         ·rcases D4.mp hz with hz | hz
          ·exact tk z hz
          ·rw[E5] at hz;subst hz;exact hy
         ·exact up z (m2 z hz)
theorem MX{xs:List Dv}(h:cS n xs):xs.all (QH n)=true:=E1.mpr fun y hy=>by
 obtain⟨r,rfl,hr⟩:=h y hy;simp[QH];omega
theorem Xp(h:Row n x):Bx n n x=true:=by
 obtain⟨xs,rfl,hl,hx⟩:=h;simp[Bx,hl];exact E1.mp (MX hx)
theorem dQ{d t:Dv}(h:cw n d t):Do (dR d) n t=true:=by
 obtain⟨a,r,rfl,hr,h⟩:=h;rcases h with⟨rfl,h⟩ | ⟨rfl,xs,rfl,hl,h⟩
 ·exact Xp h
 ·show Do 2 n (.tup xs)=true;unfold Do;simp only[show ¬((2:Int)=1) by decide,if_false,hl,decide_true,V8];exact E1.mpr fun y hy=>Xp (h y hy)
theorem XZ{n:Nat}:∀{ds ts:List Dv},Paired (cw n) ds ts->Gj n ds ts=true
 | _,_,.nil=>rfl
 | _,_,.cons h p=>by unfold Gj;rw[dQ h,XZ p];rfl
theorem Os(h0:0 < n){fs ts sX:List Dv}(hl:ts.length=fs.length)(ht:cS n ts)(hp:Paired (cw n) ds sX):Jx fs ds (.tup [.int n,.tup ts,.tup sX])=none:=by
 show Ei fs ds (.int n) (.tup ts) (.tup sX)=none;rw[Eh (by omega) (by simp only[Bx,hl,decide_true,V8];exact MX ht)];simp only[XX,GA hp,decide_true,V8,XZ hp,if_true]
theorem XY{xs:List Dv}(h:cS n xs){d:Nat}:∀y∈xs,Pl m d y:=fun y hy=>by
 obtain⟨r,rfl,_⟩:=h y hy;exact .tJ (show Yk (.int (r:Nat)) from True.intro)
theorem Qq(hn:n<=m)(h:Row n x){d:Nat}:Pl m (d+1) x:=by
 obtain⟨xs,rfl,hl,hx⟩:=h;exact .tup (hl▸hn) (XY hx)
theorem JC(hn:n<=m)(h4:4<=m){fs ts sX:List Dv}(hf:fs.length<=4)(hd:ds.length<=4)(hl:ts.length=fs.length)(ht:cS n ts)(hp:Paired (cw n) ds sX):Pl m 4 (.tup [.int n,.tup ts,.tup sX]):=by
 refine .tup (A9 (by simp) h4) fun y hy=>?_
 simp only[D6,F7,or_false] at hy;rcases hy with rfl | rfl | rfl
 ·exact .tJ (show Yk (.int (n:Nat)) from True.intro)
 ·exact .tup (by omega) (XY ht)
 ·refine .tup (by have:=GA hp;omega) ?_;clear hd
  induction hp with
  | nil=>exact fun _ z=>(F7 z).elim
  | @cons d t ds sX h p ih =>
   intro y hy;rcases D6.mp hy with rfl | hy
   ·obtain⟨a,r,_,_,h⟩:=h;rcases h with⟨_,h⟩ | ⟨_,xs,rfl,hl,h⟩
    ·exact Qq hn h
    ·exact .tup (hl▸hn) fun y hy=>Qq hn (h y hy)
   ·exact ih y hy
theorem Uv(hf:Fd f){fs:Dv}{k:Nat}(hx:x=.int (k:Nat))(hd:∀y∈ds,Gy 5 y)(hl:ds.length<=4)(hr:r < 5):∃f' n,Kx x (.tup [fs,.tup ds]) f (.int (1+(r:Nat)))=some (f',.int (n:Nat))/\0 < n/\n<=40/\Fd f':=by
  subst hx;have key:∃b f1,Kw (.int (k:Nat)) f=some (b,f1)/\Fd f1:=by
    unfold Kw;simp only[BB,A1];split
    · obtain⟨r,f1,e,_,h⟩:=AN hf (n:=6) (by decide) (by decide);simp only[e,A1,BB];exact⟨_,_,rfl,h⟩
    · exact⟨_,_,rfl,hf⟩
  obtain⟨b,f1,e1,sT⟩:=key;unfold Kx;simp only[e1,A1];cases b
  · exact⟨f1,1+r,by simp,by omega,by omega,sT⟩
  · have m:=Bo Qn (fun d=>.int (dR d)) ds fun y hy=>by
      obtain⟨a,r,rfl,_⟩:=hd y hy;rfl
    have q:∃b,iN (.int 2) (.lst (ds.map fun d=>.int (dR d)))=some b:=by
      have c:BZ (ds.map fun d=>Dv.int (dR d))=true:=by
        clear m hl hd
        induction ds with
        | nil=>rfl
        | cons d ds ih=>simp only[E7,BZ,Dv.cmp,ih,M1]
      have c2:Cd (ds.map fun d=>Dv.int (dR d))=0:=by
        clear m hl hd c
        induction ds with
        | nil=>rfl
        | cons d ds ih=>simp only[E7,Cd,Dv.dep,ih];rfl
      exact⟨IS (.int 2) (ds.map fun d=>.int (dR d)),by simp only[KU,iD,Dv.cmp,c,c2,M1,M4,decide_true,if_true,B2,if_false]⟩
    obtain⟨b2,q⟩:=q;have ix:∃w:Nat,(Ka (.bl b2)).bind (fun d=>AF (.lst [(Dv.int 35),(Dv.int 9)]) d)=some (.int (w:Nat))/\0 < w/\w<=35:=by
      cases b2
      · exact⟨35,rfl,by decide,by decide⟩
      · exact⟨9,rfl,by decide,by decide⟩
    obtain⟨w,ix,w0,w1⟩:=ix;obtain⟨z,ez,ix⟩:=T6.mp ix;obtain⟨r2,f2,e2,b3,vi⟩:=ZE sT w0 (A9 w1 (by decide));refine⟨f2,6+r2,?_,by omega,by omega,vi⟩;simp only[if_true,iJ,A1,items];rw[BH (by omega),m];simp only[A1,q,ez,ix,e2,Bq];rfl
theorem Rl{ns:List Int}{k:Nat}(hx:x=.int (k:Nat)):IH (.qW ns) x ()=some (.go ()):=by
  subst hx;obtain⟨f0,e0,h0⟩:=Om (ns:=ns) (k:=k);obtain⟨fs,ds,f1,e1,lf,_,ld,hd,_,h1⟩:=Fj h0;obtain⟨r,f2,e2,b2,h2⟩:=AN h1 (n:=5) (by decide) (by decide);obtain⟨f3,n,e3,n0,n1,h3⟩:=Uv h2 (x:=.int (k:Nat)) (fs:=.tup fs) rfl hd ld (show r < 5 by omega);have uU:∀(ds:List Dv),(∀x∈ds,Gy 5 x)->∀x∈ds,∃a r,x=.tup [a,.int r]/\(r=1\/r=2):=fun ds h x hx=>by
    obtain⟨a,r,e,_,h⟩:=h x hx;exact⟨a,r,e,h⟩
  obtain⟨ts,sX,f4,e4,l4,t4,p4,h4⟩:=FU h3 (fs:=fs) n0 (by omega) (by omega) (by omega) (uU ds hd);obtain⟨gs,cs,f5,e5,lg,_,lc,hc,_,h5⟩:=Fj h4;obtain⟨us,ubs,f6,e6,l6,t6,p6,h6⟩:=FU h5 (fs:=gs) n0 (by omega) (by omega) (by omega) (uU cs hc);obtain⟨o,f7,e7,po,h7⟩:=GD h6 (n:=n);have pw:Pl 57 4 (.tup [.int n,.tup ts,.tup sX]):=JC (by omega) (by decide) lf ld l4 t4 p4;have pu:Pl 57 4 (.tup [.int n,.tup us,.tup ubs]):=JC (by omega) (by decide) lg lc l6 t6 p6;have i0:4 < 20:=by decide
  obtain⟨c,e9,q9⟩:=Hj (P:=fun i (c:Dv×Dv)=>Fd c.1/\∃xs,c.2=.lst xs/\xs.length=2+2 * i/\∀y∈xs,Pl 60 9 y) (LA (.int n) (.tup [.int n,.tup ts,.tup sX])) 4 (f7,.lst [.tup [.int n,.tup us,.tup ubs],o]) ⟨h7,_,rfl,rfl,fun y hy=>by
      simp only[D6,F7,or_false] at hy;rcases hy with rfl | rfl
      · exact pu.mono (by decide) (by decide)
      · exact po.mono (by decide) (by decide)⟩ fun i hi c ⟨hf,xs,ex,lx,px⟩=>by
    obtain⟨y,g1,a1,q1,hg1⟩:=EH (m:=57) (by decide) (by decide) (n:=n) 4 20 _ c.1 pw (by decide) hf;obtain⟨z,g2,a2,q2,hg2⟩:=EH (m:=58) (by decide) (by decide) (n:=n) 6 20 y g1 q1 (by decide) hg1;refine⟨(g2,.lst (xs++[y,z])),?_,hg2,_,rfl,by simp;omega,fun w hw=>?_⟩
    · unfold LA;have a1':Bh c.1 (.int n) (.tup [.int n,.tup ts,.tup sX])=some (y,g1):=by rw[CZ];exact a1
      have a2':Bh g1 (.int n) y=some (z,g2):=by rw[CZ];exact a2
      simp only[a1',a2',A1,ex,Aj];rw[if_pos (by simp;omega)];rfl
    · rcases D4.mp hw with hw | hw
      · exact px w hw
      · simp only[D6,F7,or_false] at hw;rcases hw with rfl | rfl
        · exact q1.mono (by decide) (by decide)
        · exact q2.mono (by decide) (by decide)
  obtain⟨_,xs,ex,_,px⟩:=q9;have lk:=(Hc (m:=57) (by decide) pw (fs:=fs) hd).2 (Os n0 l4 t4 p4);have g:=IW (Kz (.tup [.tup fs,.tup ds]) (.tup [.int n,.tup ts,.tup sX])) () xs fun y hy=>by
    unfold Kz Qa;simp only[Nr (m:=60) (by decide) (px y hy) hd,WD (m:=60) (by decide) (px y hy) (show fs.length<=100 by omega) hd,cJ,A1,B2,if_false,lk,FH,cond_true,show KS (.bl true) (.bl true)=some false from rfl]
  have rg:CQ [.int 4]=some ((C2 4).map fun k=>.int (k:Nat)):=Qr 4 (by decide);unfold IH;simp only[e0,e1,e2,Bq,e3,e4,e5,e6,e7,rg,A1];rw[e9];simp only[A1,ex,items,g];rfl
theorem Rm(ns:List Int)(h:ns.length<=63):one Ux [Dv.qW ns]=some (Dv.bl true):=by
 show Ux (Dv.qW ns)=_;have l:∀j:Nat,j<=63->∃d:Nat,Hz (.int 1) (.int (j:Nat))=some (.int (d:Nat))/\d<=63:=fun j hj=>by
  simp only[Hz];split
  ·exact⟨j,rfl,hj⟩
  ·exact⟨1,rfl,by decide⟩
 have lc:=Ih ns none (some 5);obtain⟨d,ed,hd⟩:=l (((Br ns none (some 5)).map Dv.int).length) (by rw[F4];omega);unfold Ux;simp only[FS,AY,A1,ed,Qr d (by omega)];rw[IW (IH (.qW ns)) () _ fun y hy=>by
  obtain⟨k,_,rfl⟩:=k9.mp hy;exact Rl rfl]
 rfl
theorem Pe:BA "is_whole" (top 4):=gk (by kernel_rfl) (by intros;kernel_rfl)
theorem KQ:BA "are_things" (top 7):=Pg (by kernel_rfl) (by intros;kernel_rfl)
theorem Pf:BA "is_table" (top 9):=Pg (by kernel_rfl) (by intros;kernel_rfl)
theorem KR:BA "are_tables" (top 8):=Pg (by kernel_rfl) (by intros;kernel_rfl)
theorem FA:BA "look_world" (top 6):=Gr (by kernel_rfl) (by intros;kernel_rfl)
theorem XE:BA "_law_feed" (top 11):=Gr (by kernel_rfl) (by intros;kernel_rfl)
theorem XB:BA "_law_take" (top 12):=Gr (by kernel_rfl) (by intros;kernel_rfl)
theorem Tv:BA "_law_names" (top 13):=Gr (by kernel_rfl) (by intros;kernel_rfl)
theorem Tu:BA "_law_shape" (top 14):=gk (by kernel_rfl) (by intros;kernel_rfl)
theorem Tt:BA "_law_world" (top 15):=Pg (by kernel_rfl) (by intros;kernel_rfl)
theorem cF:BA "_law_odd" (top 16):=Gr (by kernel_rfl) (by intros;kernel_rfl)
theorem MG:BA "_law_changed" (top 17):=Pg (by kernel_rfl) (by intros;kernel_rfl)
theorem ME:BA "_law_is_thing" (top 18):=Gr (by kernel_rfl) (by intros;kernel_rfl)
theorem Tw:BA "_law_is_row" (top 19):=Gr (by kernel_rfl) (by intros;kernel_rfl)
theorem MF:BA "_law_is_table" (top 20):=Pg (by kernel_rfl) (by intros;kernel_rfl)
theorem cH:BA "_law_due" (top 21):=Gr (by kernel_rfl) (by intros;kernel_rfl)
theorem XA:BA "_law_told" (top 22):=Gr (by kernel_rfl) (by intros;kernel_rfl)
theorem Pd:IB "__init__" "NoWorld.__init__" (fQ 2 0):=Gr (by kernel_rfl) (by intros;kernel_rfl)
theorem all_mk{l:W.OpenLaw}{w:F6}{K:W.Frag}{h:F1}{mg:Str->Option A3}{fa:A8}(X:K.In h)(G:h.Ns I0 mg)(hfa:mg "law" = some (.ref fa))(hz:md.bl.all (LN K)=true)
    (sD:GF K "is_whole" (top 4))
    (qv:GF K "are_things" (top 7))
    (sE:GF K "is_table" (top 9))
    (qw:GF K "are_tables" (top 8))
    (qK:GF K "look_world" (top 6))
    (uB:GF K "_law_feed" (top 11))
    (uA:GF K "_law_take" (top 12))
    (si:GF K "_law_names" (top 13))
    (sh:GF K "_law_shape" (top 14))
    (sg:GF K "_law_world" (top 15))
    (uw:GF K "_law_odd" (top 16))
    (rS:GF K "_law_changed" (top 17))
    (rQ:GF K "_law_is_thing" (top 18))
    (sj:GF K "_law_is_row" (top 19))
    (rR:GF K "_law_is_table" (top 20))
    (ux:GF K "_law_due" (top 21))
    (tw:GF K "_law_told" (top 22))
    (wY:GF K "law" (top 23))
    (qb:GX K "NoWorld" "word" "NoWorld.__init__" (fQ 2 0))
    (rW:W.nsIn K I0 "ShapeError" = some (some (.ref (Ay K "ShapeError")))/\fo K (Ay K "ShapeError")=true/\XC.below K (Ay K "NoWorld") (Ay K "ShapeError")=true)
    : ∃fd:K5,(∀(s:A5) (v:A3),m7 s fd ⟨[v],[]⟩ [("_law_script", v)])/\∀base:F1,K.In base->base.Ns I0 mg->qE l.prog w K mg base FB 38 fa fd ["_law_script"] (Mc K):=by
  have e:=hfa.symm.trans (W.mg_of X G wY.1);cases e;have b:Bs md K mg:=gj X G rfl hz
  refine⟨W.fnOf "law" "law" (Am (top 23)) (AJ (top 23)) (AC (top 23)) .none .none .none (VZ K (Ay K "law")) none (PF K (Ay K "law")) .none,fun s v=>.of_eq rfl,fun base _ _=>?_⟩
  have f0:Fs l.prog w K mg base md.fl 0 iL:=Fs.nil
  have hxk:Xk l.prog w K mg base [("NoWorld", "word")]:=(Xk.nil.cons b qb (W.mg_of X G qb.1) (by kernel_rfl) Pd)
  have f1:=f0.def (nb:=true) b Oz Oo sD (W.mg_of X G sD.1) Pe;have f2:=f1.def (nb:=true) b KB Ju qv (W.mg_of X G qv.1) KQ;have f3:=f2.def (nb:=true) b PB Oq sE (W.mg_of X G sE.1) Pf;have f4:=f3.def (nb:=true) b KC Jv qw (W.mg_of X G qw.1) KR;have sx:=Xd.def (n:=2) b f4 hxk (by decide) (by kernel_rfl) (Nat.le_of_ble_eq_true (by kernel_rfl)) (by kernel_rfl) IZ qK (W.mg_of X G qK.1) FA;have f5:=f4.def (nb:=true) b KA Jt qK (W.mg_of X G qK.1) FA;have f6:=f5.def (nb:=false) b Wa WV uB (W.mg_of X G uB.1) XE;have f7:=f6.def (nb:=false) b WZ WU uA (W.mg_of X G uA.1) XB;have f8:=f7.def (nb:=false) b Sw Se si (W.mg_of X G si.1) Tv;have f9:=f8.def (nb:=false) b Sv Sd sh (W.mg_of X G sh.1) Tu;have f10:=f9.def (nb:=false) b Su Sb sg (W.mg_of X G sg.1) Tt;have f11:=f10.def (nb:=false) b bU bM uw (W.mg_of X G uw.1) cF;have f12:Fs l.prog w K mg base md.fl 32 SD:=by unfold SD;rw[CZ];exact f11.zh (io:=[0]) (F:=fun n=>Ci (AV n)) b (by kernel_rfl) (fun ds=>dM ds) Lw Ln rS (W.mg_of X G rS.1) MG 20
  have f13:=f12.def (nb:=true) b Lu Ll rQ (W.mg_of X G rQ.1) ME;have f14:=f13.def (nb:=true) b Sx Sf sj (W.mg_of X G sj.1) Tw;have f15:=f14.def (nb:=true) b Lv Lm rR (W.mg_of X G rR.1) MF;have f16:=f15.def (nb:=false) b bV bN ux (W.mg_of X G ux.1) cH;have f17:=f16.zAl (nb:=false) b sx (by decide) (fun h e=>by
    have e2:(AJ (top 22))[1]?.bind IU=some ⟨"ShapeError", "e", "NoWorld", "_law_found", "word"⟩:=by kernel_rfl
    rw[e2] at e;cases e;exact⟨Rw qb,dD rW.2.1,rW.2.2,W.mg_of X G qb.1,W.mg_of X G rW.1⟩) Sr Sa tw (W.mg_of X G tw.1) XA
  have hp:AB (top 23)=(["_law_script"]:List Str):=by kernel_rfl
  have r:=aY (ps:=AB (top 23)) (nb:=true) (by rw[hp];rfl) (Lr b f17 gJ gE (GR wY)) Rm;rw[hp] at r;exact r
theorem walk{l:W.OpenLaw}{q:E2}{loose:List Str}{XP:(Str->Option A3)->F1->Prop}{YP:F6->F1->Prop}{d:pC}{K:mj->W.Frag}(hn:l.most=some 63)(zT:d.params.defaults=[])
    (hY:∀(w:F6) (h:F1),YP w h->(K w.params).In h)
    (F:∀(w:F6) (mg:Str->Option A3) (fa:A8) (h:F1),(K w.params).In h->h.Ns I0 mg->mg d.name=some (.ref fa) ->
      ∃fd:K5,(∀(s:A5) (u:A3),m7 s fd ⟨[u],[]⟩ [("_law_script", u)])/\∀base:F1,(K w.params).In base->base.Ns I0 mg->qE l.prog w (K w.params) mg base FB 38 fa fd ["_law_script"] (Mc (K w.params))) :
    W.WalkO q loose XP YP l.row.toRowW d [] (fun f vs=>ml f vs):=
  L2.vY (n:=63) (k:=38) (x := "_law_script") (CX:=fun _=>FB) (sp:=fun w=>Mc (K w.params)) hn (by decide) zT ⟨rfl,by decide,by decide,rfl⟩ hY F (fun _ _ a ns hl hO hS=>⟨a,ns,rfl,hS,hl,hO,fun _=>rfl⟩) fun _ _ _ _ _ z=>z
abbrev fO(i:Nat)(x:Str)(pm:A3)(cd:A8):Obj:=⟨.type "function", none,.func (W.fnOf x x (Am (top i)) (AJ (top i)) (AC (top i)) .none .none .none pm none (.ref cd) .none),#[]⟩
abbrev lK(i j:Nat)(x q:Str)(pm:A3)(cd:A8):Obj:=⟨.type "function", none,.func (W.fnOf x q (Am (fQ i j)) (AJ (fQ i j)) (AC (fQ i j)) .none .none .none pm none (.ref cd) .none),#[]⟩
abbrev q10:PySem.Value:=.str "law_shapefree_k18_worlds_looked_at" 269
abbrev q11:PySem.Value:=.str "shapefree.worlds" 241
noncomputable def KP(P:mj):W.Frag:=[
(3,⟨.type "dict", none,.dict #[ke P "__name__" 165 q10,ke P "__doc__" 166 .none,ke P "__package__" 167 .none,ke P "__loader__" 168 (.builtin "__main__.__loader__#opaque"),ke P "__spec__" 169 .none,ke P "__annotations__" 170 (.ref 6),ke P "__builtins__" 171 (.ref 4),ke P "__file__" 173 (.str "/claim/cut.py" 172),ke P "__cached__" 174 .none,ke P "ShapeError" 206 (.ref 24),ke P "NoWorld" 231 (.ref 44),ke P "is_whole" 240 (.ref 53),ke P "look_world" 250 (.ref 60),ke P "are_things" 256 (.ref 65),ke P "are_tables" 262 (.ref 70),ke P "is_table" 268 (.ref 75),ke P "_law_feed" 280 (.ref 82),ke P "_law_take" 290 (.ref 89),ke P "_law_names" 296 (.ref 94),ke P "_law_shape" 302 (.ref 99),ke P "_law_world" 308 (.ref 104),ke P "_law_odd" 317 (.ref 111),ke P "_law_changed" 328 (.ref 118),ke P "_law_is_thing" 336 (.ref 125),ke P "_law_is_row" 342 (.ref 130),ke P "_law_is_table" 348 (.ref 135),ke P "_law_due" 354 (.ref 140),ke P "_law_told" 364 (.ref 147),ke P "law" 370 (.ref 152)] 29,#[]⟩),
(53,fO 4 "is_whole" (.str "shapefree.words" 232) 52),
(52,cO "is_whole" 234 9 1 3 47 48 .none (.ref 49) (.ref 50) 51 238),
(60,fO 6 "look_world" q11 59),
(59,cO "look_world" 243 12 2 3 54 55 .none (.ref 56) (.ref 57) 58 248),
(65,fO 7 "are_things" q11 64),
(64,cO "are_things" 251 20 3 3 61 62 .none .none .none 63 254),
(70,fO 8 "are_tables" q11 69),
(69,cO "are_tables" 257 24 3 3 66 67 .none .none .none 68 260),
(75,fO 9 "is_table" q11 74),
(74,cO "is_table" 263 28 3 3 71 72 .none .none .none 73 266),
(82,fO 11 "_law_feed" q10 81),
(81,cO "_law_feed" 271 35 2 3 76 77 .none (.ref 78) (.ref 79) 80 278),
(89,fO 12 "_law_take" q10 88),
(88,cO "_law_take" 281 45 2 3 83 84 .none (.ref 85) (.ref 86) 87 288),
(94,fO 13 "_law_names" q10 93),
(93,cO "_law_names" 291 53 2 3 90 91 .none .none .none 92 294),
(99,fO 14 "_law_shape" q10 98),
(98,cO "_law_shape" 297 68 1 3 95 96 .none .none .none 97 300),
(104,fO 15 "_law_world" q10 103),
(103,cO "_law_world" 303 74 3 3 100 101 .none .none .none 102 306),
(111,fO 16 "_law_odd" q10 110),
(110,cO "_law_odd" 309 83 2 3 105 106 .none (.ref 107) (.ref 108) 109 315),
(118,fO 17 "_law_changed" q10 117),
(117,cO "_law_changed" 318 86 3 3 112 113 .none (.ref 114) (.ref 115) 116 326),
(125,fO 18 "_law_is_thing" q10 124),
(124,cO "_law_is_thing" 329 100 2 3 119 120 .none (.ref 121) (.ref 122) 123 334),
(130,fO 19 "_law_is_row" q10 129),
(129,cO "_law_is_row" 337 102 2 3 126 127 .none .none .none 128 340),
(135,fO 20 "_law_is_table" q10 134),
(134,cO "_law_is_table" 343 104 3 3 131 132 .none .none .none 133 346),
(140,fO 21 "_law_due" q10 139),
(139,cO "_law_due" 349 108 2 3 136 137 .none .none .none 138 352),
(147,fO 22 "_law_told" q10 146),
(146,cO "_law_told" 355 124 2 3 141 142 .none (.ref 143) (.ref 144) 145 362),
(152,fO 23 "law" q10 151),
(151,cO "law" 365 133 1 3 148 149 .none .none .none 150 368),
(44,⟨.type "type", none,.cls ⟨"NoWorld", [.ref 24],[.ref 44,.ref 24,.type "ValueError", .type "Exception", .type "BaseException", .type "object"],43, "NoWorld", true,[],[],false,none,false⟩,#[some (.ref 28),none,some (.str "NoWorld" 207),some (.str "NoWorld" 215),some (.builtin "ValueError.__new__"),some (.bool true)]⟩),
(43,⟨.type "dict", none,.dict #[ke P "__module__" 214 (.str "shapefree.errors" 187),ke P "__firstlineno__" 218 (.int 4 217),ke P "__init__" 226 (.ref 41),ke P "__static_attributes__" 228 (.ref 42),ke P "__doc__" 229 .none] 2,#[]⟩),
(24,⟨.type "type", none,.cls ⟨"ShapeError", [.type "ValueError"],[.ref 24,.type "ValueError", .type "Exception", .type "BaseException", .type "object"],23, "ShapeError", true,[],[.ref 44],false,none,false⟩,#[some (.ref 15),none,some (.str "ShapeError" 189),some (.str "ShapeError" 197),some (.builtin "ValueError.__new__"),some (.bool true)]⟩),
(23,⟨.type "dict", none,.dict #[ke P "__module__" 196 (.str "shapefree.errors" 187),ke P "__firstlineno__" 200 (.int 2 199),ke P "__static_attributes__" 201 (.ref 22),ke P "__weakref__" 203 (.ref 25),ke P "__doc__" 204 .none] 3,#[]⟩),
(41,lK 2 0 "__init__" "NoWorld.__init__" (.str "shapefree.errors" 187) 40),
(40,⟨.type "code", none,.fields #[.str "__init__" 219,.str "NoWorld.__init__" 220,.str "/claim/cut.py" 221,.int 6 0,.int 2 0,.int 0 0,.int 0 0,.int 3 0,.ref 35,.bool true,.int 181 0,.ref 36,.none,.ref 37,.ref 38,.ref 39,.int 224 0,.int 6 0,.str "/claim/cut.py" 225],#[]⟩)]
def zi:pC:=⟨"law", Am (top 23),AJ (top 23),AC (top 23),bQ (top 23)⟩
theorem uc:Xf PySem.Challenge.rw_shapefree_k18_worlds_looked_at 24 [3,53,52,60,59,65,64,70,69,75,74,82,81,89,88,94,93,99,98,104,103,111,110,118,117,125,124,130,129,135,134,140,139,147,146,152,151,44,43,24,23,41,40] KP 2078:=fun w=>by kernel_rfl
theorem ub:PySem.Challenge.rw_shapefree_k18_worlds_looked_at.wellSaid=true:=by decide +kernel
end My
open PySem PySem.W PyProof.Rows
set_option maxRecDepth 100000 in
set_option maxHeartbeats 0 in
theorem PySem.Challenge.cw_shapefree_k18_worlds_looked_at_holds : PySem.Challenge.rw_shapefree_k18_worlds_looked_at.Holds := by
  refine L2.xD (d:=My.zi) My.ub My.uc (fun P=>by kernel_rfl) (by kernel_rfl) (by kernel_rfl) (by kernel_rfl) (by kernel_rfl) (by kernel_rfl) (by decide +kernel) ⟨rfl,rfl,rfl,rfl,rfl,by decide +kernel⟩ (by w_witness2) ?call
  refine My.walk (l:=PySem.Challenge.rw_shapefree_k18_worlds_looked_at) (d:=My.zi) (K:=My.KP) rfl (by kernel_rfl) (fun w h Y=>Y) fun w mg fa h KX G zK=>My.all_mk KX G zK (by kernel_rfl) (by and_intros<;>kernel_rfl) (by and_intros<;>kernel_rfl) (by and_intros<;>kernel_rfl) (by and_intros<;>kernel_rfl) (by and_intros<;>kernel_rfl) (by and_intros<;>kernel_rfl) (by and_intros<;>kernel_rfl) (by and_intros<;>kernel_rfl) (by and_intros<;>kernel_rfl) (by and_intros<;>kernel_rfl) (by and_intros<;>kernel_rfl) (by and_intros<;>kernel_rfl) (by and_intros<;>kernel_rfl) (by and_intros<;>kernel_rfl) (by and_intros<;>kernel_rfl) (by and_intros<;>kernel_rfl) (by and_intros<;>kernel_rfl) (by and_intros<;>kernel_rfl) (by and_intros<;>kernel_rfl) (by and_intros<;>kernel_rfl)
