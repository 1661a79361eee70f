import PyProof.Rows.All
import Wide.All
import OpenK.AllK
import Lean
import PySem.Challenge.RW_shapefree_k02_refusals
noncomputable section
set_option genInjectivity false
set_option genSizeOf false
set_option backward.eqns.nonrecursive false
set_option bootstrap.genMatcherCode false
set_option compiler.extract_closed false
set_option Elab.async false
set_option linter.all false
set_option maxRecDepth 100000
set_option maxHeartbeats 4000000
open Option renaming some→_s,none→_n
open Bool renaming true→_t,false→_f
open PySem renaming Value→_v
open PySem renaming Addr→A6,Around→F2,BindsTo→g8,CmpOp→i8,Comprehension→Q7,DefRec→jX,ExceptHandler→E4,FuncData→G4,Heap→F1,IsPart→gi,KeyKind→gL,Keyword→S2,Model→iW,Operator→gD,Params→gn,PassesOwn→Y5,PlainAttrs→gk,Program→D4,Scope→G9,Shared→A5,Stmt→F0,Value→A3,Within→jT,World→E8,assign→S9,assignEach→J6,assignInOrder→X6,atKey→jR,attributeBase→L0,backTo→R8,behindInMarks→gT,bindArgs→i9,bindC→jB,bindL→jA,bindName→gC,bootBuiltins→M5,builtinsNs→iz,cLine→O8,call→gp,callGetattribute→iS,call_meets→jH,callerA→gM,cellsFrom→J4,checkBuiltinCall→iP,codeAny→X0,codeAny_call_builtin→T7,codeAny_mono→S0,compareOp→N1,concat_meets→g9,eqIsQuiet→iI,eqIsQuiet_byValue→gu,eval→L7,evalPart_none→gW,excClassObj→R6,foldedSetIterable→K3,getAttr→iu,getAttrByItsOwn→iq,getItem→U8,handleBy→jK,holding→Z3,isInstance→S8,isSubtype_tuple_tuple→S4,letOwnedTupleGo→T8,list_append→hX,mainGlobals→G3,mem_of_lookup→E1,model→C0,newFunctionEnv→gG,noFill_tuple_add→Y7,noteFrame→O1,onTheHeap→iR,post_val_or_str→T9,pushCells→jQ,pushCells_keeps→a7,rawInt→O2,seqIndex_neg→hV,seqIndex_of→iY,seq_tuple_add→gU,setFlight→T1,sizeLine_eq→O7,sizeLine_eq→T6,sliceBounds→iZ,slot_list_getitem→X3,starEach→E5,subscripted→gF,swappedStores→X7,swapsWith→N0,swapsWithSole→gS,sysModules→R1,tupleKind→iL,typeIs_str→jF,typeLookup→jC,typeOf→jG,unbindBehindTheSuite→gK,unpackItems→iX,valueAt→gN,wpAny→B7,wpAny_Call_Name_kw→K2,wpAny_Name→i7,wpAny_assign_Name→gw,wpAny_attempt→gX,wpAny_bind→A0,wpAny_call→R3,wpAny_callSpecial?_slot→R5,wpAny_call_entry→P8,wpAny_comprehension_free→Y1,wpAny_execs_cons→M9,wpAny_execs_nil→Q8,wpAny_field→K0,wpAny_forIn_list→S7,wpAny_getItem_list_slice→Y0,wpAny_getItem_str_slice→N4,wpAny_holding→E9,wpAny_isInstance→Y3,wpAny_isSubtype_exc→K7,wpAny_loadPart_at→I0,wpAny_madeBy_exc→iQ,wpAny_mono→G1,wpAny_newObj_type→F9,wpAny_passesOwn→M3,wpAny_pure→A7,wpAny_pyIter_list→iB,wpAny_pyNext_list_end→a9,wpAny_pyNext_list_item→Z4,wpAny_rule→gY,wpAny_sequenceKey→X2,wpAny_setField→W5,wpAny_specialOf→N6,wpAny_standAt→K9,wpAny_truthy_bool→M4,wpAny_tupleItemsOf→V2,wpAny_typeOf→U9,wpAt_bind→ik,wpAt_of_wpAny→gP
open Bool renaming and_eq_true→A1,and_eq_true_iff→O9,and_false→S3,and_self→M8,and_true→jO,false_eq_true→D5,false_ne_true→B4,not_eq_true'→G5,not_true→O0,or_eq_true→ir,or_false→jN,or_true→Z9,true_or→iH
open Option renaming bind_eq_some_iff→Z0,bind_some→A2,isSome_iff_exists→M6,map_eq_some_iff→K8,map_some→G8,or→T3
open List renaming all_cons→J0,all_eq_true→D6,any_cons→Y2,any_eq_true→iV,append_assoc→J7,append_nil→F8,contains_cons→W4,contains_iff_mem→B9,drop_eq_getElem_cons→Q3,drop_length→iT,eq_nil_of_length_eq_zero→I9,ext_getElem?→iC,filterMap_cons→K6,filterMap_map→V8,find?_cons→N8,find?_some→K1,foldl_cons→ig,forIn_cons→ie,getD_eq_getElem?_getD→D3,getElem?_append_left→G0,getElem?_append_right→V6,getElem?_eq_getElem→A4,getElem?_eq_none→O4,getElem?_eq_some_iff→A9,getElem?_map→C4,getElem?_range→J9,getElem?_replicate→Y6,getElem?_reverse→gB,getElem?_set_ne→C6,getElem?_set_self→C5,getElem?_take_of_lt→X8,getElem_inj→Y4,getElem_mem→Z1,getElem_of_mem→U2,isEmpty_iff→T2,length→X1,length_append→G2,length_cons→F5,length_drop→Y8,length_map→D1,length_nil→il,length_range→X4,length_reverse→U4,length_set→C8,length_singleton→S5,length_take→N3,lookup_append→L9,lookup_cons→E2,map_append→a8,map_congr_left→gO,map_cons→F3,map_map→jY,map_nil→Z7,mem_append→D8,mem_append_left→C2,mem_append_right→B3,mem_cons→E3,mem_cons_of_mem→B5,mem_cons_self→B8,mem_filter→N7,mem_filterMap→gg,mem_map→iF,mem_of_find?_eq_some→M1,mem_of_getElem?→J5,mem_range→L6,mem_singleton→G6,mem_singleton_self→K4,nodup_cons→Q9,nodup_iff_pairwise_ne→W7,nodup_nil→jL,not_mem_nil→Q0,of_mem_zip→a6,range→D0,replicate→E6,reverse_cons→iD,set_comm→T4,set_set→V1,size_toArray→A8,zip_cons_cons→J3
open PySem.Heap renaming ExtBut→jo,SameBut→R7,get?_push_of_some→B0,get?_push_size→E7,get?_update_ne→gR,get?_update_other→F6,get?_update_self→O3,lt_size→B6,size_push→W2
open Nat renaming add_assoc→X5,le_of_ble_eq_true→M0,le_of_eq→iA,le_of_lt→gv,le_refl→C7,le_succ→gJ,le_trans→C3,lt_irrefl→G7,lt_of_le_of_lt→W6,lt_of_lt_of_le→B1,lt_succ_self→iU,min_self→iE,ne_of_gt→R9,ne_of_lt→D2,sub_eq_zero_of_le→S6,zero_le→N5
open Option.some renaming inj→B2,injEq→O6
open False renaming elim→C9
open PyProof.Rows renaming AllBare→U5,IntsAre→iw,Subscript_→jD,args_tuple_getitem→V9,assignInOrder_cons→V5,assignInOrder_nil→gy,callWith_builtin1→iM,callWith_type1→U6,entry_tuple_getitem→U1,envOfC→U3,envOfC→gE,slicePart_none→V7,slot_tuple_getitem→D7,subscriptTail→X9,subscriptTail_builtinR→Z5,tail_any→jE,tupleItemsOf_→gV
open PySem.Value renaming bool→iy,builtin→N9,bytes→jd,float→je,int→iJ,isInt→jZ,isStrOf→jM,none→K5,ref→D9,str→iK,type→Z2
open PySem.Builtin.Slice renaming sliceAdjust→H9,sliceApplied→L8,sliceFields→W9,slicePartIndex→ib,slicePlaces→F4
open PySem.Builtin.Tuple renaming tupleExact→F7,tupleHashOf→H8,tupleIsExact→W3,tupleItemsOf→L5
open Array renaming forIn_toList→V3,getElem?_eq_some_iff→J8,length_toList→Q4,toList→jU
open PySem.Obj renaming data_mapFields→gr,isFreed_of_fields→f9,mapFields→T5,mapSeq→M7
open PySem.Builtin.Str renaming occurrences→N2,strSliceIndices→O5
open PySem.W renaming Looks→jS,findIn→gH,looks_findIn→P9,looks_mroIn→ia
open PySem.F renaming args_tuple_add_2→Q5,entry_tuple_add→R4,slot_tuple_add→S1
open PySem.Builtin.List renaming listTooLong→Q6
open Int renaming ediv_one→jV,emod_lt_of_pos→W8,emod_nonneg→U0,max_eq_right→iN,min_eq_left→ic,natCast_nonneg→gj,ofNat_le→jW,zero_add→iG
open PySem.Around renaming under→U7
open Iff renaming rfl→V0
open PySem.Calls renaming Constant_str→gc,Name_function_global→V4,callWith_builtin→Z6
open PySem.Heap.IsSliceOf renaming new→W0
open PySem.Txt renaming join→jm,slice→Y9,slice_le→Z8
open PySem.EntryCells renaming newEntry→gQ
open PySem.SeqAt.EqAt renaming int_str→gZ,str_int→gb
open PySem.Code renaming frames→jg,guards→jh,isFrame→g7,isGuard→gz,quiet_builtin→gq
open PySem.Str renaming join→jI,ofString→hG
open List.Pairwise renaming nil→hZ
open PySem.IsL renaming update→iO
open PySem.Env renaming kindOf→jJ
open PySem.Builtin.Range renaming rangeSize→jP
open PySem.W.WShape renaming has→jq
open PySem.W.Looks renaming here→jr
open PySem.Heap.SameBut renaming refl→ju
open PySem.W.WData renaming int→jv
open PySem.Heap.DictOf renaming new→jw
local macro_rules|`(`o)=>`((by omega))|`(`d)=>`((by decide))|`(`k)=>`((by kernel_rfl))|`(`w)=>`((by simp;omega))|`(`s)=>`((by simp))
namespace L2
open PySem
variable{a:A6}{h:F1}{Q:Bool->A5->Prop}
section
variable{prog:D4}{w:E8}{K:Type}[DecidableEq K]
noncomputable abbrev NK(K:Type):=List (K ⊕ List K)
structure Apart (knd:gL prog w K):Prop where
 l:∀{A:F2}{E:A3->A5->Prop}{s:A5}{k:K}{v:A3}{a:A6}{items:Array A3}{Q:Bool->A5->Prop},A.units < O8->knd.is k v=_t->s.heap.IsTuple a items->Q _f s->B7 (C0 prog w) A (eqBool v (.ref a)) Q E s
 r:∀{A:F2}{E:A3->A5->Prop}{s:A5}{k:K}{v:A3}{a:A6}{items:Array A3}{Q:Bool->A5->Prop},A.units < O8->knd.is k v=_t->s.heap.IsTuple a items->Q _f s->B7 (C0 prog w) A (eqBool (.ref a) v) Q E s
inductive la (knd:gL prog w K) (h:F1):NK K->List A3->Prop
 |nil:la knd h [] []
 |sc {k:K} {v:A3} {ks:NK K} {vs:List A3}:knd.is k v=_t->la knd h ks vs->la knd h (.inl k::ks) (v::vs)
 |tp {t:List K} {a:A6} {ks:NK K} {vs:List A3}:IsTupleKey knd h t a->la knd h ks vs->la knd h (.inr t::ks) (.ref a::vs)
def JW(knd:gL prog w K)(h:F1)(ks:NK K)(a:A6):Prop:=∃o items n,h.get? a=_s o/\o.cls=.type "tuple" /\ o.data=.seq items n/\la knd h ks items.toList
variable{knd:gL prog w K}
theorem Kl{k:K}(h:knd.is k (.ref a)=_t):False:=by have:=knd.byValue _ _ h;simp[carriedByValue]at this
theorem la.inj{x y:NK K}{vs:List A3}(a:la knd h x vs)(b:la knd h y vs):x=y:=by
 induction a generalizing y with
 |nil=>cases b;rfl
 |sc h1 _ d=>
  cases b with|sc h2 c=>rw[knd.inj _ _ _ h1 h2,d c]|tp h2 _=>exact(Kl h1).elim
 |tp h1 _ d=>
  cases b with|sc h2 _=>exact(Kl h2).elim|tp h2 c=>rw[h1.inj h2,d c]
theorem JW.typeIs{s:A5}{ks:NK K}(x:JW knd s.heap ks a):s.TypeIs (.ref a) "tuple" := let ⟨o,_,_,ho,hc,_⟩:=x;⟨o,ho,hc⟩
theorem JW.inj{x y:NK K}(f:JW knd h x a)(e:JW knd h y a):x=y:=by
 obtain⟨o,items,n,g,_,hd,hi⟩:=f;obtain⟨o',i,j,d,_,c,b⟩:=e;obtain rfl:o=o':=B2 (g.symm.trans d);rw[hd]at c;injection c with h1 _
 subst h1;exact hi.inj b
theorem la.keeps{h h':F1}{d:A6}{o:Obj}{es ep}(b:h.get? d=_s o)(hd:o.data=.dict es ep)(hs:R7 d h h'):∀{ks:NK K}{vs:List A3},la knd h ks vs->la knd h' ks vs
 |_,_,.nil=>.nil
 |_,_,.sc h1 t=>.sc h1 (t.keeps b hd hs)
 |_,_,.tp h1 t=>.tp (h1.keeps b hd hs) (t.keeps b hd hs)
theorem JW.keeps{h':F1}{ks:NK K}{d:A6}{o:Obj}{es ep}(x:JW knd h ks a)(e:h.get? d=_s o)(hd:o.data=.dict es ep)(hs:R7 d h h'):JW knd h' ks a:=by
 obtain⟨o',items,n,c,g,b,hi⟩:=x;have f:a≠d:=by rintro rfl;obtain rfl:o'=o:=B2 (c.symm.trans e);rw[hd]at b;exact nomatch b
 exact⟨o',items,n,(hs.2 a f).trans c,g,b,hi.keeps e hd hs⟩
noncomputable def Bb(knd:gL prog w K):K ⊕ List K->Int
 |.inl k=>knd.hash k
 |.inr t=>tupleKeyHash knd t
noncomputable def CV:K ⊕ List K->Nat
 |.inl _=>1
 |.inr t=>t.length+1
def PP(ks:NK K):Nat:=(ks.map CV).sum+1
def Oa(knd:gL prog w K)(ks:NK K):Int:=reduceHash (H8 (ks.map (Bb knd)))
variable{A:F2}{E:A3->A5->Prop}{s:A5}
theorem NZ{ks:NK K}{Q:Int->A5->Prop}(l:A.units+1 < O8)(j:JW knd s.heap ks a)(h:Q (Oa knd ks) {s with toks:=s.toks+PP ks}) :
    B7 (C0 prog w) A (pyHash (.ref a)) Q E s:=by
  have hT:=j.typeIs;obtain⟨o,items,n,m,_,hd,hi⟩:=j;unfold pyHash
  first|unfold pyHashByItsType|skip
  first|refine A0 (wpAny_cRoomFor_or (.inr `o) ?_)|skip
  refine A0 (N6 hT F.slot_tuple_hash.lookup ?_);show B7 _ _ (if(_s (N9 "tuple.__hash__")==_s K5)=_t then _ else _) Q E s;rw[if_neg (by rw[beq_builtin_none];exact B4)];refine A0 (N6 hT F.slot_tuple_hash.lookup ?_);show B7 _ _ (callSpecialIfBoundUnlessNone? (.ref a) "__hash__" _ >>= _) Q E s;refine A0 (wpAny_callSpecialIfBoundUnlessNone?_slot hT F.slot_tuple_hash (P8 F.slot_tuple_hash hT F.entry_tuple_hash ?_ (F.args_tuple_hash_1 _)));show B7 _ _ (L5 (.ref a) >>= _) _ _ s;refine A0 (V2 m hd ?_);refine A0 ?_;rw[<- V3];refine S7 _
    (λrest (b:Array Int) s'=>∃done left,ks=done++left/\la knd s.heap left rest/\b.toList=done.map (Bb knd)/\s'={s with toks:=s.toks+(done.map CV).sum})
    _ ?_ ?_ _ _ ⟨[],ks,rfl,hi,rfl,rfl⟩
  rintro x rest b s' ⟨done,left,rfl,i,c,rfl⟩;cases i with
  |@sc k _ d _ h1 f=>
    refine A0 (knd.pyHash h1 ?_);have e:{s with toks:=s.toks+(done.map CV).sum+1}={s with toks:=s.toks+((done++[Sum.inl k]).map CV).sum}:=by simp[CV,X5]
    first
      |exact A7 ⟨done++[.inl k],d,by simp,f,by simp[c,Bb],e⟩
      |exact A0 (A7 (A7 ⟨done++[.inl k],d,by simp,f,by simp[c,Bb],e⟩))
  |@tp t p d _ h1 f=>
    have e:{s with toks:=s.toks+(done.map CV).sum+(t.length+1)}={s with toks:=s.toks+((done++[Sum.inr t]).map CV).sum}:=by simp[CV,X5]
    refine A0 (wpAny_pyHash_tuple (knd:=knd) l h1 ?_)
    first
      |exact A7 ⟨done++[.inr t],d,by simp,f,by simp[c,Bb],e⟩
      |exact A0 (A7 (A7 ⟨done++[.inr t],d,by simp,f,by simp[c,Bb],e⟩))
  rintro b s' ⟨done,left,rfl,i,c,rfl⟩;cases i;rw[F8]at h;show B7 _ _ (retInt (H8 b.toList)) _ _ _;rw[c];refine wpAny_ret_mkInt ?_;show B7 _ _ (if(decide (-(2:Int) ^ 63<=H8 (done.map (Bb knd)))&&decide (H8 (done.map (Bb knd)) < 2 ^ 63))=_t then _ else _) Q E _;unfold Oa reduceHash PP at h;by_cases g:(decide (-(2:Int) ^ 63<=H8 (done.map (Bb knd)))&&decide (H8 (done.map (Bb knd)) < 2 ^ 63))=_t;rw[if_pos g];rw[if_pos g]at h;exact A7 (by simpa[X5]using h);rw[if_neg g];rw[if_neg g]at h;exact A0 (gY (A7 (by simpa[X5]using h)))
theorem IsTupleKey.xj{t:List K}(x:IsTupleKey knd h t a):∃items,h.IsTuple a items:=let ⟨o,items,n,ho,hc,hd,_⟩:=x;⟨items,o,ho,hc,n,hd⟩
theorem Sh{k1 k2:K ⊕ List K}{u v:A3}{xs ys:List A3}{x y:NK K}(f:Apart knd)(c:A.units < O8)(i:la knd s.heap (k1::x) (u::xs))(d:la knd s.heap (k2::y) (v::ys))(h:Q (decide (k1=k2)) s):B7 (C0 prog w) A (eqBool u v) Q E s:=by
 cases i with
 |@sc a _ _ _ h1 _=>
  cases d with
  |@sc b _ _ _ h2 _=>
   refine knd.eqBool h1 h2 ?_;have:decide (a=b)=decide ((Sum.inl a:K ⊕ List K)=Sum.inl b):=by by_cases e:a=b<;>simp[e]
   rw[this];exact h
  |@tp t b _ _ h2 _=>
   obtain⟨g,hi⟩:=IsTupleKey.xj h2;refine f.l c h1 hi ?_;have:decide ((Sum.inl a:K ⊕ List K)=Sum.inr t)=false:=by simp
   rw[<- this];exact h
 |@tp t a _ _ h1 _=>
  cases d with
  |@sc b _ _ _ h2 _=>
   obtain⟨g,hi⟩:=IsTupleKey.xj h1;refine f.r c h2 hi ?_;have:decide ((Sum.inr t:K ⊕ List K)=Sum.inl b)=false:=by simp
   rw[<- this];exact h
  |@tp t' b _ _ h2 _=>
   refine wpAny_eqBool_tuple (knd:=knd) c h1 h2 ?_;have:decide (t=t')=decide ((Sum.inr t:K ⊕ List K)=Sum.inr t'):=by by_cases e:t=t'<;>simp[e]
   rw[this];exact h
theorem la.tail{k:K ⊕ List K}{ks:NK K}{v:A3}{vs:List A3}(x:la knd h (k::ks) (v::vs)):la knd h ks vs:=by
 cases x with|sc _ t=>exact t|tp _ t=>exact t
theorem la.split{ks:NK K}{v:A3}{vs:List A3}(x:la knd h ks (v::vs)):∃k r,ks=k::r:=by
 cases x with|sc _ t=>exact⟨_,_,rfl⟩|tp _ t=>exact⟨_,_,rfl⟩
theorem la.len{h:F1}:∀{ks:NK K}{vs:List A3},la knd h ks vs->ks.length=vs.length
 |_,_,.nil=>rfl
 |_,_,.sc _ t=>by simp[t.len]
 |_,_,.tp _ t=>by simp[t.len]
theorem IP{x y:NK K}{b:A6}{P:Fin->A5->Prop}(R:Apart knd)(N:A.units < O8)(M:JW knd s.heap x a)(B:JW knd s.heap y b)(h:P (.done (.ret (.bool (decide (x=y))))) s) :
    B7 (C0 prog w) A (Builtin.«tuple.__eq__» ⟨[.ref a,.ref b],[]⟩) P E s:=by
  have q:=B.typeIs;obtain⟨X,xs,Y,C,_,p,F⟩:=M;obtain⟨W,ys,nb,D,_,L,G⟩:=B;show B7 _ _ (S8 (.ref b) (.type "tuple") >>= _) _ _ s;refine A0 (Y3 q S4 ?_);simp only[O0,D5,if_false];refine A0 (V2 C p ?_);refine A0 (V2 D L ?_);refine A0 ?_;refine S7 _
    (λrest r s'=>r.1=_n/\s'=s/\∃k j g e,rest=List.zip g e/\la knd s.heap k g/\la knd s.heap j e/\decide (k=j)=decide (x=y)/\(g.length==e.length)=(xs.size==ys.size))
    _ ?_ ?_ _ _ ⟨rfl,rfl,x,y,xs.toList,ys.toList,rfl,F,G,rfl,by simp⟩
  rintro⟨u,v⟩ rest r s' ⟨n,rfl,k,j,g,e,i,f,d,m,c⟩;cases g with
  |nil=>simp at i
  |cons T I=>
    cases e with
    |nil=>simp at i
    |cons S J=>
      simp only[J3,List.cons.injEq,Prod.mk.injEq]at i;obtain⟨⟨rfl,rfl⟩,rfl⟩:=i;obtain⟨k1,z,rfl⟩:=f.split;obtain⟨k2,l,rfl⟩:=d.split;refine A0 (Sh R N f d ?_);by_cases o:k1=k2;subst o;rw[decide_eq_true rfl];simp only[O0,D5,if_false];refine A7 ⟨rfl,rfl,z,l,I,J,rfl,f.tail,d.tail,?_,by simpa using c⟩;rw[<- m];by_cases t:z=l;simp[t];simp[t];rw[decide_eq_false o];simp only[Bool.not_false,if_true];have O:decide (x=y)=false:=by rw[<- m];simp[o]
      rw[O]at h;exact A0 (A7 (A7 (A7 h)))
  rintro⟨V,U⟩ s' ⟨n,rfl,k,j,g,e,i,f,d,m,c⟩;simp only at n;subst n;refine A7 ?_;have H:(xs.size==ys.size)=decide (x=y):=by
    rw[<- m,<- c];have lx:=f.len;have Z:=d.len;cases g with
    |nil=>
      cases e with|nil=>cases f;cases d;simp|cons _ _=>cases f;obtain⟨k2,l,rfl⟩:=d.split;simp
    |cons _ _=>
      cases e with|nil=>cases d;obtain⟨k2,l,rfl⟩:=f.split;simp|cons _ _=>simp at i
  show P (.done (.ret (.bool (xs.size==ys.size)))) s';rw[H];exact h
theorem PL{x y:NK K}{b:A6}(i:Apart knd)(g:A.units+1 < O8)(c:JW knd s.heap x a)(f:JW knd s.heap y b)(h:Q (decide (x=y)) s) :
    B7 (C0 prog w) A (eqBool (.ref a) (.ref b)) Q E s:=by
  unfold eqBool
  try with_reducible refine E9 ?_
  show B7 _ _ (if(D9 a==D9 b)=_t then _ else _) Q E s;by_cases d:(D9 a==D9 b)=_t;rw[if_pos d];have e:a=b:=by have:=eq_of_beq d;injection this
  subst e;obtain rfl:=c.inj f;exact A0 (gY (A7 (by simpa using h)));rw[if_neg d];exact A0 (wpAny_richCompare_same_room (op:=.Eq) c.typeIs f.typeIs F.slot_tuple_eq
    (P8 F.slot_tuple_eq c.typeIs F.entry_tuple_eq (IP i g c f ⟨_,rfl,(λe=>nomatch e),M4 h⟩) (F.args_tuple_eq_2 _ _)) `o)
theorem RZ{n:Nat}{ks:List K}(d:IsTupleKey knd s.heap ks a)(h:Q _t s):B7 (C0 prog w) A (iI (n+1) (.ref a)) Q E s:=by have hT:=d.typeIs;obtain⟨o,items,j,f,_,hd,hi⟩:=d;unfold iI;refine A0 (N6 hT F.slot_tuple_eq.lookup ?_);show B7 _ _ (S8 (.ref a) (.type "tuple") >>= _) _ _ s;refine A0 (Y3 hT S4 ?_);simp only[O0,D5,if_false];refine A0 (wpAny_seqItems f hd ?_);refine A0 ?_;show B7 _ _ (forIn items _ _) _ _ s;rw[<- V3];refine S7 _ (λrest r s'=>r.1=_n/\s'=s/\∀v∈rest,carriedByValue v=_t) _ ?_ ?_ _ _ ⟨rfl,rfl,hi.byValue⟩;rintro v rest r s' ⟨b,rfl,c⟩;rw[gu _ (c v B8)];refine A0 (A7 ?_);simp only[O0,D5,if_false];exact A7 ⟨rfl,rfl,λu e=>c u (B5 _ e)⟩;rintro⟨i,g⟩ s' ⟨b,rfl,_⟩;simp only at b;subst b;exact A7 h
theorem Ra{ks:NK K}(d:JW knd s.heap ks a)(h:Q _t s):B7 (C0 prog w) A (iI 8 (.ref a)) Q E s:=by
 have hT:=d.typeIs;obtain⟨o,items,j,e,_,hd,hi⟩:=d;unfold iI;refine A0 (N6 hT F.slot_tuple_eq.lookup ?_);show B7 _ _ (S8 (.ref a) (.type "tuple") >>= _) _ _ s;refine A0 (Y3 hT S4 ?_);simp only[O0,D5,if_false];refine A0 (wpAny_seqItems e hd ?_);refine A0 ?_;show B7 _ _ (forIn items _ _) _ _ s;rw[<- V3];refine S7 _ (λrest r s'=>r.1=_n/\s'=s/\∃l,la knd s.heap l rest) _ ?_ ?_ _ _ ⟨rfl,rfl,ks,hi⟩;rintro v rest r s' ⟨c,rfl,l,f⟩;cases f with|@sc k _ b _ h1 t=>rw[gu _ (knd.byValue _ _ h1)];refine A0 (A7 ?_);simp only[O0,D5,if_false];exact A7 ⟨rfl,rfl,b,t⟩|@tp t' m b _ h1 t=>refine A0 (RZ (n:=6) h1 ?_);simp only[O0,D5,if_false];exact A7 ⟨rfl,rfl,b,t⟩
 rintro⟨i,g⟩ s' ⟨c,rfl,_⟩;simp only at c;subst c;exact A7 h
end
def OD{prog:D4}{w:E8}{K:Type} [DecidableEq K] (knd:gL prog w K) (g:Apart knd):HeapKind prog w (NK K) where
 is:=JW knd
 hash:=Oa knd
 draws:=PP
 room:=λA=>A.units+1 < O8
 inj:=λc b=>c.inj b
 keeps:=λx f hd hs=>x.keeps f hd hs
 pyHash:=λd e h=>NZ d e h
 eqBool:=λd c b h=>PL g d c b h
 quiet:=λe h=>Ra e h
end L2
namespace L2
open PySem PySem.Spec PyProof.Rows
noncomputable abbrev Az:=Sum Int Str
def Fe:Az->A3->Bool
 |.inl k,v=>jZ k v
 |.inr x,v=>jM x v
def cN(w:E8):Az->Int
 |.inl k=>hashInt k
 |.inr x=>hashStr w x
theorem AU:∀{k:Az}{v:A3},Fe k v=_t->(∃i t,k=Sum.inl i/\v=iJ i t)\/(∃x t,k=Sum.inr x/\v=iK x t)
 |.inl i,v,h=>by obtain⟨t,e⟩:=Value.isInt_shape (k:=i) (v:=v) h;exact .inl ⟨i,t,rfl,e⟩
 |.inr x,v,h=>by obtain⟨t,e⟩:=Value.isStrOf_shape (x:=x) (v:=v) h;exact .inr ⟨x,t,rfl,e⟩
theorem Lm(i:Int)(t:Tok):Fe (.inl i) (.int i t)=true:=by simp[Fe,jZ]
theorem Ll(x:Str)(t:Tok):Fe (.inr x) (.str x t)=true:=by simp[Fe,jM]
theorem Wn(a b:Int):decide ((Sum.inl a:Az)=Sum.inl b)=(a==b):=by by_cases e:a=b;subst e;simp;have h:¬(Sum.inl a:Az)=Sum.inl b:=λq=>e (Sum.inl.inj q);rw[decide_eq_false h];exact(beq_eq_false_iff_ne.mpr e).symm
theorem Wj(a b:Str):decide ((Sum.inr a:Az)=Sum.inr b)=decide (a=b):=by by_cases e:a=b;subst e;simp;have h:¬(Sum.inr a:Az)=Sum.inr b:=λq=>e (Sum.inr.inj q);rw[decide_eq_false h,decide_eq_false e]
theorem Wm(a:Int)(b:Str):decide ((Sum.inl a:Az)=Sum.inr b)=false:=decide_eq_false (λq=>nomatch q)
theorem Wl(a:Str)(b:Int):decide ((Sum.inr a:Az)=Sum.inl b)=false:=decide_eq_false (λq=>nomatch q)
def Ao(prog:D4)(w:E8):PySem.KeyKind prog w Az where
 is:=Fe
 hash:=cN w
 inj:=λv a b ha d=>by
  rcases AU ha with⟨i,t,rfl,rfl⟩|⟨x,t,rfl,rfl⟩
  rcases AU d with⟨j,u,rfl,e⟩|⟨y,u,rfl,e⟩
  injection e with e1 _;rw[e1]
  exact nomatch e;rcases AU d with⟨j,u,rfl,e⟩|⟨y,u,rfl,e⟩
  exact nomatch e;injection e with e1 _;rw[e1]
 byValue:=λk v h=>by rcases AU h with⟨i,t,rfl,rfl⟩|⟨x,t,rfl,rfl⟩<;>rfl
 pyHash:=λc h=>by
  rcases AU c with⟨i,t,rfl,rfl⟩|⟨x,t,rfl,rfl⟩
  exact wpAny_pyHash_int h;exact wpAny_pyHash_str h
 eqBool:=λf c h=>by
  rcases AU f with⟨i,t,rfl,rfl⟩|⟨x,t,rfl,rfl⟩
  rcases AU c with⟨j,u,rfl,rfl⟩|⟨y,u,rfl,rfl⟩
  rw[Wn]at h;exact wpAny_eqBool_int h;rw[Wm]at h;exact gZ i t y u _ _ _ _ h;rcases AU c with⟨j,u,rfl,rfl⟩|⟨y,u,rfl,rfl⟩
  rw[Wl]at h;exact gb x t j u _ _ _ _ h;rw[Wj]at h;exact wpAny_eqBool_str h
 «strs»:=λk x t v h=>by
  rcases AU h with⟨i,u,rfl,e⟩|⟨y,u,rfl,e⟩
  exact nomatch e
  ·injection e with e1 _
   subst e1;cases v<;>rfl
theorem Le(prog:D4)(w:E8):Apart (Ao prog w) where
 l:=λa c b h=>by
  rcases AU c with⟨i,t,rfl,rfl⟩|⟨x,t,rfl,rfl⟩
  exact SeqAt.EqAt.int_tuple i t b a _ _ _ _ h;exact SeqAt.EqAt.str_tuple x t b a _ _ _ _ h
 r:=λa c b h=>by
  rcases AU c with⟨i,t,rfl,rfl⟩|⟨x,t,rfl,rfl⟩
  exact SeqAt.EqAt.tuple_int i t b a _ _ _ _ h;exact SeqAt.EqAt.tuple_str x t b a _ _ _ _ h
theorem HN(prog:D4)(w:E8)(i:Int)(t:Tok):(Ao prog w).is (.inl i) (.int i t)=true:=Lm i t
theorem HM(prog:D4)(w:E8)(x:Str)(t:Tok):(Ao prog w).is (.inr x) (.str x t)=true:=Ll x t
set_option genInjectivity true in
inductive V where
 |kB|bl (b:Bool)|int (i:Int)|str (x:Str)|qJ (b:Array UInt8)|uV (b:UInt64)|ref (a:A6)|ty (n:String)
 deriving DecidableEq
def RelV:V->A3->Prop
 |.kB,u=>u=K5
 |.bl b,u=>u=iy b
 |.int i,u=>∃t,u=iJ i t
 |.str x,u=>∃t,u=iK x t
 |.qJ b,u=>∃t,u=jd b t
 |.uV b,u=>∃t,u=je b t
 |.ref a,u=>u=D9 a
 |.ty n,u=>u=Z2 n
abbrev AH:List V->List A3->Prop:=Paired RelV
variable{us:List A3}
theorem AH.length{xs:List V}(r:AH xs us):xs.length=us.length:=Paired.length r
theorem AH.get:∀{xs:List V}{us:List A3}{i:Nat}{x:V},AH xs us->xs[i]?=_s x->∃u,us[i]?=_s u/\RelV x u
 |_,_,_,_,.nil,e=>by simp at e
 |_,_,0,_,.cons r _,e=>by simp at e;subst e;exact⟨_,rfl,r⟩
 |_,_,i+1,x,.cons _ t,e=>by obtain⟨u,h1,h2⟩:=AH.get (i:=i) (x:=x) t (by simpa using e);exact⟨u,by simpa using h1,h2⟩
theorem AH.set{x:V}{u:A3}(r:RelV x u):∀{xs:List V}{us:List A3}(i:Nat),AH xs us->AH (xs.set i x) (us.set i u)
 |_,_,_,.nil=>.nil
 |_,_,0,.cons _ t=>.cons r t
 |_,_,i+1,.cons q t=>.cons q (AH.set r i t)
theorem AH.append:∀{xs ys:List V}{us ws:List A3},AH xs us->AH ys ws->AH (xs++ys) (us++ws)
 |_,_,_,_,.nil,s=>s
 |_,_,_,_,.cons r t,s=>.cons r (AH.append t s)
theorem AH.take:∀{xs:List V}{us:List A3}(n:Nat),AH xs us->AH (xs.take n) (us.take n)
 |_,_,0,_=>.nil
 |_,_,_+1,.nil=>.nil
 |_,_,n+1,.cons r t=>.cons r (AH.take n t)
theorem AH.drop:∀{xs:List V}{us:List A3}(n:Nat),AH xs us->AH (xs.drop n) (us.drop n)
 |_,_,0,r=>r
 |_,_,_+1,.nil=>.nil
 |_,_,n+1,.cons _ t=>AH.drop n t
def FC:Option V->Option A3->Prop
 |some v,_s u=>RelV v u
 |none,_n=>True
 |_,_=>False
def KV{a:Type}:List (a×V)->List (a×A3)->Prop:=Paired fun(p:a×V) (q:a×A3)=>p.1=q.1/\RelV p.2 q.2
def kV:Az->V
 |.inl i=>.int i
 |.inr x=>.str x
inductive HO where
 |lst (xs:List V)
 |tup (xs:List V)
 |dK (j8:List (Az×V))|dT (j8:List (List Az×V))|dN (j8:List (NK Az×V))
 |set (S:Int->Bool) (n:Nat)
 |ins (C dx:A6) (fs:List (Str×V))
 |own (x:A6)
 |xd (fs:List (Str×V))
 |met (f x:A6)
 |u0 (lo hi:Int)
 |nI (o:Obj) (u:HO)
 |qP (ps:Array A3)
 |ext (φ:F1->Prop)
noncomputable abbrev Hp:=A6->Option HO
def Ux(H:Hp):NK Az->List V->Prop
 |[],vs=>vs=[]
 |.inl k::ks,vs=>∃r,vs=kV k::r/\Ux H ks r
 |.inr t::ks,vs=>∃c r,vs=.ref c::r/\H c=_s (.tup (t.map kV))/\Ux H ks r
def Uy(H:Hp)(k:NK Az)(b:A6):Prop:=∃vs,H b=_s (.tup vs)/\Ux H k vs
theorem Ux.keeps{H H':Hp}(a:∀b xs,H b=_s (.tup xs)->H' b=_s (.tup xs)):∀{k:NK Az}{vs:List V},Ux H k vs->Ux H' k vs
 |[],_,h=>h
 |.inl _::ks,_,⟨r,e,h⟩=>⟨r,e,Ux.keeps a h⟩
 |.inr _::ks,_,⟨c,r,e,h1,h⟩=>⟨c,r,e,a _ _ h1,Ux.keeps a h⟩
variable{H:Hp}{b:A6}
theorem Uy.keeps{H':Hp}(a:∀b xs,H b=_s (.tup xs)->H' b=_s (.tup xs)){k:NK Az}(h:Uy H k b):Uy H' k b:=let ⟨vs,e,n⟩:=h;⟨vs,a _ _ e,n.keeps a⟩
def upd(H:Hp)(a:A6)(o:HO):Hp:=λb=>if b=a then _s o else H b
variable{a:A6}{o:HO}
theorem AF:upd H a o a=_s o:=by unfold upd;rw[if_pos rfl]
theorem AC(h:b≠a):upd H a o b=H b:=by unfold upd;rw[if_neg h]
theorem AI(h:H a=_s o)(h':H b=_n):a≠b:=by intro e;subst e;rw[h]at h';cases h'
def Hw(h:F1)(a:A6)(items:Array A3):Prop:=∃o,h.get? a=_s o/\o.cls=.type "tuple" /\ o.dict=_n/\∃n,o.data=.seq items n
variable{h:F1}
theorem Hw.tup{items:Array A3}(x:Hw h a items):IsTup h a items:=let ⟨o,e,c,_,d⟩:=x;⟨o,e,c,d⟩
theorem Hw.new(h:F1)(items:Array A3):Hw (h.push {cls:=.type "tuple", data:=.seq items}) h.objs.size items:=⟨_,E7 _ rfl,rfl,rfl,_,rfl⟩
section
variable(P:D4)(w:E8)
def Ap(H:Hp)(h:F1)(a:A6):HO->Prop
  |.lst xs=>xs.length<=sizeLine/\∃(c:List A3)(n:Nat),AH xs c/\h.get? a=_s {cls:=.type "list", data:=.seq c.toArray n}
  |.tup xs=>xs.length<=sizeLine/\∃c:List A3,AH xs c/\Hw h a c.toArray
  |.dK j8=>j8.length<=sizeLine/\(a==R1)=_f/\∃vs,KV j8 vs/\h.DictOf (Ao P w) a vs
  | .dT j8=>j8.length<=sizeLine/\(a==R1)=_f/\∃xs:List (List Az×A6×A3),
      Paired (fun(p:List Az×V) (q:List Az×A6×A3)=>p.1=q.1/\H q.2.1=_s (.tup (p.1.map kV))/\RelV p.2 q.2.2) j8 xs /\
      ∃o es d,h.get? a=_s o/\o.ExactDict/\o.data=.dict es d/\es.toList=xs.map (entryOfKey (iL (Ao P w)))/\(xs.map (·.1)).Nodup
  | .dN j8=>j8.length<=sizeLine/\(a==R1)=_f/\∃xs:List (NK Az×A6×A3),
      Paired (fun(p:NK Az×V) (q:NK Az×A6×A3)=>p.1=q.1/\Uy H p.1 q.2.1/\RelV p.2 q.2.2) j8 xs /\
      ∃o es d,h.get? a=_s o/\o.ExactDict/\o.data=.dict es d/\es.toList=xs.map (entryOfKey (OD (Ao P w) (Le P w)))/\(xs.map (·.1)).Nodup
  |.set S n=>h.SetOf (intKind P w) a S n
  | .ins C dx fs=>H dx=_s (.own a)/\fs.length<=1000/\dx≠a/\h.get? a=_s (W.instObj C dx) /\
      ∃mA,h.Ns1 dx mA/\(∀f,FC (fs.lookup f) (mA f))/\jT mA (fs.map (·.1))
  |.own _=>∃o,h.get? a=_s o
  |.xd fs=>∃mA,h.Ns1 a mA/\∀f,FC (fs.lookup f) (mA f)
  |.u0 lo hi=>∃t u v,h.get? a=_s {cls:=.type "range", data:=.fields #[.int lo t,.int hi u,.int 1 v]}
  |.nI o u=>h.get? a=_s o/\Ap H h a u
  |.qP ps=>h.get? a=_s {cls:=.none,data:=.fields ps}
  |.met f x=>h.get? a=_s (W.methodObj (.ref f) (.ref x))
  |.ext φ=>φ h/\(∃o,h.get? a=_s o)/\∀h1 h2:F1,φ h1->(∀o,h1.get? a=_s o->h2.get? a=_s o)->φ h2
def Cn(H:Hp)(h:F1):Prop:=∀a o,H a=_s o->Ap P w H h a o
end
section
variable{P:D4}{w:E8}{H H':Hp}{h h':F1}{a:A6}{o:HO}
theorem Ap.lt(x:Ap P w H h a o):a < h.objs.size:=by
 cases o with|lst xs=>obtain⟨_,_,_,_,e⟩:=x;exact B6 e|tup xs=>obtain⟨_,_,_,p⟩:=x;exact p.tup.lt|dK j8=>obtain⟨_,_,_,_,o,_,_,e,_⟩:=x;exact B6 e|dT j8=>obtain⟨_,_,_,_,o,_,_,e,_⟩:=x;exact B6 e|dN j8=>obtain⟨_,_,_,_,o,_,_,e,_⟩:=x;exact B6 e|set S n=>obtain⟨o,_,_,_,e,_⟩:=x;exact B6 e|ins C dx fs=>obtain⟨_,_,_,e,_⟩:=x;exact B6 e|own y=>obtain⟨_,e⟩:=x;exact B6 e|xd fs=>obtain⟨_,⟨_,_,_,e,_⟩,_⟩:=x;exact B6 e|u0 lo hi=>obtain⟨_,_,_,e⟩:=x;exact B6 e|nI c u=>obtain⟨e,_⟩:=x;exact B6 e|qP ps=>exact B6 (show h.get? a=_s _ from x)|met f y=>exact B6 (show h.get? a=_s _ from x)|ext φ=>obtain⟨_,⟨_,e⟩,_⟩:=x;exact B6 e
theorem Paired.qc{α β:Type}{F G:α->β->Prop}:∀{l₁:List α}{l₂:List β},Paired F l₁ l₂->(∀a b,F a b->G a b)->Paired G l₁ l₂
 |_,_,.nil,_=>.nil
 |_,_,.cons r t,f=>.cons (f _ _ r) (Paired.qc t f)
theorem Ap.mK(x:Ap P w H h a o)(k:∀b u,(b=a\/H b=_s (.own a))->h.get? b=_s u->h'.get? b=_s u)
    (s:∀b,H b=_s (.own a)->H' b=_s (.own a)) (l:∀b xs,H b=_s (.tup xs)->H' b=_s (.tup xs)):Ap P w H' h' a o:=by
  induction o with|lst xs=>obtain⟨z,j,n,r,e⟩:=x;exact⟨z,j,n,r,k _ _ (.inl rfl) e⟩|tup xs=>obtain⟨z,j,r,g,e,c⟩:=x;exact⟨z,j,r,g,k _ _ (.inl rfl) e,c⟩|dK j8=>obtain⟨z,y,vs,r,g,es,i,e,c⟩:=x;exact⟨z,y,vs,r,g,es,i,k _ _ (.inl rfl) e,c⟩|dT j8=>obtain⟨z,y,xs,r,g,es,i,e,c⟩:=x;exact⟨z,y,xs,Paired.qc r λp q z=>⟨z.1,l _ _ z.2.1,z.2.2⟩,g,es,i,k _ _ (.inl rfl) e,c⟩|dN j8=>obtain⟨z,y,xs,r,g,es,i,e,c⟩:=x;exact⟨z,y,xs,Paired.qc r λp q z=>⟨z.1,z.2.1.keeps l,z.2.2⟩,g,es,i,k _ _ (.inl rfl) e,c⟩|set S n=>obtain⟨g,es,i,t,e,c⟩:=x;exact⟨g,es,i,t,k _ _ (.inl rfl) e,c⟩|ins C dx fs=>obtain⟨d,z,ne,e,mA,⟨od,es,i,e2,c⟩,r⟩:=x;exact⟨s _ d,z,ne,k _ _ (.inl rfl) e,mA,⟨od,es,i,k _ _ (.inr d) e2,c⟩,r⟩|own y=>obtain⟨g,e⟩:=x;exact⟨g,k _ _ (.inl rfl) e⟩|xd fs=>obtain⟨mA,⟨od,es,i,e,c⟩,r⟩:=x;exact⟨mA,⟨od,es,i,k _ _ (.inl rfl) e,c⟩,r⟩|u0 lo hi=>obtain⟨t,u,v,e⟩:=x;exact⟨t,u,v,k _ _ (.inl rfl) e⟩|nI g u m=>obtain⟨e,q⟩:=x;exact⟨k _ _ (.inl rfl) e,m q⟩|qP ps=>have e:h.get? a=_s {cls:=.none,data:=.fields ps}:=x;show h'.get? a=_s {cls:=.none,data:=.fields ps};exact k a _ (.inl rfl) e|met f y=>have e:h.get? a=_s (W.methodObj (.ref f) (.ref y)):=x;show h'.get? a=_s (W.methodObj (.ref f) (.ref y));exact k a _ (.inl rfl) e|ext φ=>obtain⟨p,⟨o,e⟩,st⟩:=x;exact⟨st _ _ p λo q=>k _ _ (.inl rfl) q,⟨o,k _ _ (.inl rfl) e⟩,st⟩
theorem Cn.lt(x:Cn P w H h)(e:H a=_s o):a < h.objs.size:=(x a o e).lt
theorem Cn.fresh(x:Cn P w H h)(e:h.objs.size<=a):H a=none:=by
 cases q:H a with|none=>rfl|some u=>exact absurd (B1 (x.lt q) e) (G7 _)
theorem Cn.kept(x:Cn P w H h)(k:∀b u,h.get? b=_s u->h'.get? b=_s u):Cn P w H h':=λa o e =>
 (x a o e).mK (λb u _ q=>k b u q) (λ_ q=>q) λ_ _ q=>q
theorem Cn.laid(x:Cn P w H h)(k:∀b u,h.get? b=_s u->h'.get? b=_s u)(f:h.objs.size<=a)(new:Ap P w (upd H a o) h' a o):Cn P w (upd H a o) h':=λb u e=>by have hn:=x.fresh f;by_cases d:b=a;subst d;rw[AF]at e;cases e;exact new;rw[AC d]at e;exact(x b u e).mK (λc v _ q=>k c v q) (λc q=>by rw[AC (AI q hn)];exact q) λc xs q=>by rw[AC (AI q hn)];exact q
end
def Rd(H:Hp)(a:A6)(u:HO):Prop:=H a=_s u\/∃o,H a=_s (.nI o u)
variable{P:D4}{w:E8}
theorem Rd.ok{u:HO}(r:Rd H a u)(x:Cn P w H h):Ap P w H h a u:=by
 rcases r with r|⟨o,r⟩
 exact x a u r;obtain⟨_,q⟩:=x a _ r;exact q
def bD:Option HO->Prop
 |some (.lst _)=>True
 |some (.dK _)=>True
 |some (.dT _)=>True
 |some (.dN _)=>True
 |some (.set _ _)=>True
 |some (.ins _ _ _)=>True
 |some (.ext _)=>True
 |_=>False
section
variable{P:D4}{w:E8}{H:Hp}{h h':F1}{x e:A6}{o':HO}
theorem Cn.write(ok:Cn P w H h)(mu:bD (H x))(he:e=x\/H e=_s (.own x))(k:∀b u,b≠e->h.get? b=_s u->h'.get? b=_s u)(m:∃u,h'.get? e=_s u)
    (new:Ap P w (upd H x o') h' x o'):Cn P w (upd H x o') h':=λb u q=>by
  have i:∀c y,H c=_s (.own y)->c≠x:=λc y r z=>by subst z;rw[r]at mu;exact mu
  have l:∀c xs,H c=_s (.tup xs)->c≠x:=λc xs r z=>by subst z;rw[r]at mu;exact mu
  by_cases g:b=x;subst g;rw[AF]at q;cases q;exact new;rw[AC g]at q;by_cases d:b=e;have j:H b=_s (.own x):=by
    rcases he with z|z
    exact absurd (d.trans z) g;rw[d];exact z
  rw[q]at j;cases j;obtain⟨v,n⟩:=m;exact⟨v,by rw[d];exact n⟩;refine(ok b u q).mK (λc v f r=>k c v ?_ r) (λc r=>by rw[AC (i c b r)];exact r) λc xs r=>by rw[AC (l c xs r)];exact r
  rcases f with rfl|f
  exact d;rintro rfl;rcases he with z|z
  exact i c b f z;rw[f]at z;cases z;exact g rfl
end
structure Un (fs ex:List A6) (H H':Hp) (h h':F1):Prop where
 keep:∀b o,h.get? b=_s o->H b=_n->b∉fs->b∉ex->h'.get? b=_s o
 slot:∀b o,h.get? b=_s o->H b=_n->b∈fs->b∉ex->∃sl,h'.get? b=_s {o with slots:=sl}
 free:∀b o,h.get? b=_s o->H b=_n->b∉ex->H' b=_n
 there:∀b o,h.get? b=_s o->b∉ex->∃o',h'.get? b=_s o'
 lu:∀b xs,H b=_s (.tup xs)->H' b=_s (.tup xs)
 lZ:∀b o u,H b=_s (.nI o u)->H' b=_s (.nI o u)
 lz:∀b ps,H b=_s (.qP ps)->∃more,H' b=_s (.qP (ps++more))
section
variable{fs nT ex ex':List A6}{H H1 H2:Hp}{h h1 h2 h':F1}{a x e:A6}{o:HO}
theorem Un.any(u:Un fs ex H H1 h h1){c:Obj}(q:h.get? b=_s c)(n:H b=_n)(d:b∉ex):∃sl,h1.get? b=_s {c with slots:=sl}:=by by_cases f:b∈fs;exact u.slot b c q n f d;exact⟨c.slots,u.keep b c q n f d⟩
theorem Un.kept(k:∀b u,h.get? b=_s u->h'.get? b=_s u):Un fs ex H H h h':=
 ⟨λb c q _ _ _=>k b c q,λb c q _ _ _=>⟨c.slots,k b c q⟩,λ_ _ _ n _=>n,λb c q _=>⟨c,k b c q⟩,λ_ _ q=>q,λ_ _ _ q=>q,λ_ ps q=>⟨#[],by rw[q];simp⟩⟩
theorem Un.refl:Un fs ex H H h h:=Un.kept λ_ _ q=>q
theorem Un.laid(k:∀b u,h.get? b=_s u->h'.get? b=_s u)(c:h.objs.size<=a)(hn:H a=_n):Un fs ex H (upd H a o) h h' where
 keep:=λb u q _ _ _=>k b u q
 slot:=λb u q _ _ _=>⟨u.slots,k b u q⟩
 free:=λb u q n _=>by rw[AC (D2 (B1 (B6 q) c))];exact n
 there:=λb u q _=>⟨u,k b u q⟩
 lu:=λb xs q=>by rw[AC (AI q hn)];exact q
 lZ:=λb u xs q=>by rw[AC (AI q hn)];exact q
 lz:=λb ps q=>⟨#[],by rw[AC (AI q hn),q];simp⟩
theorem Un.write(mu:bD (H x))(he:e=x\/H e=_s (.own x))(k:∀b u,b≠e->h.get? b=_s u->h'.get? b=_s u)(g:∃u,h'.get? e=_s u):Un fs ex H (upd H x o) h h':=by
 have d:∀b,H b=_n->b≠x:=λb n z=>by subst z;rw[n]at mu;exact mu
 have f:∀b,H b=_n->b≠e:=λb n z=>by
  subst z;rcases he with r|r
  exact d b n r;rw[n]at r;cases r
 have hm:∀b u,H b=_s u->¬bD (_s u)->b≠x:=λb u q nm z=>by subst z;rw[q]at mu;exact nm mu
 refine⟨λb u q n _ _=>k b u (f b n) q,λb u q n _ _=>⟨u.slots,k b u (f b n) q⟩,λb u q n _=>by rw[AC (d b n)];exact n,λb u q _=>?_,
  λb xs q=>by rw[AC (hm b _ q λz=>z)];exact q,λb u xs q=>by rw[AC (hm b _ q λz=>z)];exact q,λb ps q=>⟨#[],by rw[AC (hm b _ q λz=>z),q];simp⟩⟩
 by_cases c:b=e;subst c;exact g;exact⟨u,k b u c q⟩
end
def bL(h:F1)(H:Hp):List A6:=(D0 h.objs.size).filter λa=>(H a).isSome
def GS(h:F1)(H:Hp):F1:=W.hideAll h (bL h H)
theorem Lq(h:F1)(H:Hp):(GS h H).objs.size=h.objs.size:=W.hideAll_size _ _
theorem OZ{o:Obj}(e:h.get? b=_s o)(n:H b=_n):(GS h H).get? b=_s o:=
 W.hideAll_get _ e λhm=>by have q:(H b).isSome=true:=(N7.mp hm).2;rw[n]at q;simp at q
theorem SB{o:Obj}(e:(GS h H).get? b=_s o):h.get? b=_s o/\H b=none:=by
 have c:h.get? b=_s o:=W.of_hideAll (bL h H) e;refine⟨c,?_⟩;cases q:H b with|none=>rfl|some x=>have hm:b∈bL h H:=N7.mpr ⟨L6.mpr (B6 c),by simp[q]⟩;have z:(GS h H).get? b=none:=W.hideAll_none (bL h H) hm;rw[z]at e;cases e
noncomputable def Tc(g h:F1)(L:A6):List (A6×Obj):=(D0 h.objs.size).filterMap λa=>if a=L\/(g.get? a).isSome=_t then _n else(h.get? a).map λo=>(a,o)
def rest(g h:F1)(L d:A6):List (A6×Obj):=(Tc g h L).filter λp=>decide (p.1≠d)
structure Mod (K:W.Frag) (mg:Str->Option A3) (base:F1):Prop where
 sL:K.In base
 glob:base.Ns G3 mg
 blt:∃mb,base.Ns iz mb/\∀x:Str,x ≠ "__name__" -> mb x=M5 x
 nolimit:base.NoLimit
structure Cx where
 prog:D4
 w:E8
 K:W.Frag
 mg:Str->Option A3
 base:F1
 A:F2
 N:List Str
 kP:A5
 H₀:Hp
 env:Env
 outer:List Env
 stack:List Env
 ex:List A6
 fn:Str->Bool
 calm:Bool
 pn:List (A6×Obj)
 xe:A3->A5->Prop
noncomputable def EI(l:List Env):List A6:=l.filterMap (·.frame)
abbrev Cx.fs(X:Cx):List A6:=EI X.outer
def az(sc:G9)(x:Str):Prop:=sc.names.lookup x=_s .local\/sc.names.lookup x=_s .cell\/sc.names.lookup x=_s .free
def Loc(sc:G9)(x:Str):Prop:=sc.names.lookup x=_s .local\/sc.names.lookup x=_s .cell
def Look(env:Env)(h:F1)(m:Str->Option A3)(x:Str)(u:A3):Prop:=
 (env.kindOf x=_s .local/\m x=_s u)\/((env.kindOf x=_s .cell\/env.kindOf x=_s .free)/\∃c,env.cells.lookup x=_s c/\h.IsCell c (_s u))
structure Cx.Ok (X:Cx):Prop where
 mod:Mod X.K X.mg X.base
 kind:X.env.scope.kind=.function
 glob:X.env.globals=G3
 blt:X.env.builtins=iz
 above:X.kP.heap.objs.size<=X.env.locals
 inj:∀x y c,X.env.cells.lookup x=_s c->X.env.cells.lookup y=_s c->x=y
 has:∀x,(X.env.kindOf x=_s .cell\/X.env.kindOf x=_s .free)->∃c,X.env.cells.lookup x=_s c
 qy:∀x c,X.fn x=_t->X.env.cells.lookup x=_s c->X.kP.heap.objs.size<=c
 hd:X.calm=_t->X.A.handled=_n
 frames:X.A.frames=_s X.stack
 rF:X.stack=X.outer\/(X.stack=X.env::X.outer/\X.env.frame=_s X.env.locals)
 uX:∀b∈X.ex,b≠X.env.locals/\∀x c,X.env.cells.lookup x=_s c->c≠b
 bs:∀b o,X.base.get? b=_s o->X.kP.heap.get? b=_s o/\X.H₀ b=_n
 oB:X.base.objs.size<=X.kP.heap.objs.size
 mx:∀b o,X.base.get? b=_s o->b∉X.ex
 nU:∀b∈X.ex,b∉X.fs
 lI:X.kP.heap.FunFrames X.base X.outer
 pV:∀b∈X.fs,X.H₀ b=_n
structure Inv (X:Cx) (pins:List (A6×Obj)) (σ:List (Option V)) (H:Hp) (s:A5):Prop where
 ok:X.Ok
 os:s.os=X.kP.os
 bare:U5 s.gens
 base:Un X.fs X.ex X.H₀ H X.kP.heap s.heap
 loc:∃m,s.heap.Ns X.env.locals m/\∀(i:Nat)(x:Str)(v:V),X.N[i]?=_s x->σ[i]?=_s (_s v)->az X.env.scope x->∃u,RelV v u/\Look X.env s.heap m x u
 cell:∀x c,X.env.cells.lookup x=_s c->∃v,s.heap.IsCell c v
 free:H X.env.locals=_n
 ka:∀x c,X.env.cells.lookup x=_s c->H c=_n
 pin:∀p∈X.pn++pins,s.heap.get? p.1=_s p.2/\H p.1=_n/\p.1≠X.env.locals/\p.1∉X.fs/\∀v,p.2.data≠.cell v
 kD:Cn X.prog X.w H s.heap
 len:σ.length=X.N.length
variable{t' i:Nat}{x:Str}{v:V}{u:A3}
section
variable{X:Cx}{pins:List (A6×Obj)}{σ:List (Option V)}{H H':Hp}{s:A5}{h':F1}
theorem Cx.Ok.u7(ok:X.Ok){o:Obj}(e:X.base.get? b=_s o):b∉X.fs:=λc=>by have:=(ok.lI.mem c).1;rw[e]at this;cases this
theorem Inv.bs(I:Inv X pins σ H s):∀b o,X.base.get? b=_s o->s.heap.get? b=_s o/\H b=none:=λb o e =>
 ⟨I.base.keep b o (I.ok.bs b o e).1 (I.ok.bs b o e).2 (I.ok.u7 e) (I.ok.mx b o e),I.base.free b o (I.ok.bs b o e).1 (I.ok.bs b o e).2 (I.ok.mx b o e)⟩
theorem Inv.bk(I:Inv X pins σ H s):∀b o,X.base.get? b=_s o->s.heap.get? b=_s o:=λb o e=>(I.bs b o e).1
theorem Inv.mod(I:Inv X pins σ H s):Mod X.K X.mg X.base:=I.ok.mod
theorem Inv.lN(I:Inv X pins σ H s):X.K.In s.heap:=I.ok.mod.sL.keeps I.bk
theorem Inv.fr(I:Inv X pins σ H s):∃m,Fr X.base X.env.locals s.heap m:=
 let ⟨m,hn,_⟩:=I.loc
 ⟨m,hn,I.bk,C3 I.ok.oB I.ok.above⟩
theorem Inv.lt(I:Inv X pins σ H s):X.env.locals < s.heap.objs.size:=let ⟨_,hn,_⟩:=I.loc;hn.lt
theorem Inv.sz(I:Inv X pins σ H s):X.kP.heap.objs.size<=s.heap.objs.size:=C3 I.ok.above (gv I.lt)
theorem Inv.sC(I:Inv X pins σ H s)(h:s.heap.objs.size<=a):a∉X.fs:=λd=>by obtain⟨_,o,c,_⟩:=I.ok.lI.mem d;exact absurd (B1 (B6 c) (C3 I.sz h)) (G7 _)
theorem Inv.oq(I:Inv X pins σ H s):∀x c,X.env.cells.lookup x=_s c->c≠X.env.locals:=λx c e z=>by obtain⟨v,o,d,hd⟩:=I.cell x c e;obtain⟨m,⟨o',es,j,g,f,_⟩,_⟩:=I.loc;rw[z,g]at d;cases d;rw[f]at hd;cases hd
theorem Inv.lI(I:Inv X pins σ H s):s.heap.FunFrames X.base X.outer:=by
 have all:∀(l:List Env),(∀b∈EI l,b∈X.fs)->X.kP.heap.FunFrames X.base l->s.heap.FunFrames X.base l:=by
  intro l;induction l with|nil=>intro _ _;trivial|cons env r f=>intro hs k;obtain⟨m,⟨L,o,hf,hn,j,hd⟩,g⟩:=k;have d:L∈X.fs:=hs L (by unfold EI;rw[K6,hf];exact B8);obtain⟨sl,e⟩:=I.base.slot L o j (I.ok.pV L d) d λz=>I.ok.nU L z d;exact⟨m,⟨L,_,hf,hn,e,hd⟩,f (λb c=>hs b (by unfold EI;rw[K6,hf];exact B5 _ c)) g⟩
 exact all X.outer (λ_ c=>c) I.ok.lI
theorem Inv.stack(I:Inv X pins σ H s):s.heap.FunFrames X.base X.stack:=by
 rcases I.ok.rF with e|⟨e,hf⟩
 rw[e];exact I.lI;rw[e];obtain⟨m,hn,_⟩:=I.loc;refine .cons (by rw[I.ok.kind];decide) hf hn ?_ I.lI;exact Heap.get?_none_of_le (C3 I.ok.oB I.ok.above)
theorem Inv.kz(I:Inv X pins σ H s):∀b∈EI X.stack,b∈X.env.locals::X.fs:=λb c=>by
 rcases I.ok.rF with e|⟨e,hf⟩
 rw[e]at c;exact B5 _ c;rw[e]at c;unfold EI at c;rw[K6,hf]at c;exact c
theorem Inv.lg(I:Inv X pins σ H s):∀b∈EI X.stack,H b=none:=λb c=>by
 rcases E3.mp (I.kz b c)with e|c
 rw[e];exact I.free;obtain⟨_,o,d,_⟩:=I.ok.lI.mem c;exact I.base.free b o d (I.ok.pV b c) λz=>I.ok.nU b z c
theorem Inv.step{g':Array GenState}{t':Nat}{d':Drawn}{ch:List A6}(I:Inv X pins σ H s)
    (y:∀b∈ch,(b∈X.ex\/X.kP.heap.objs.size<=b)/\b≠X.env.locals/\(∀x c,X.env.cells.lookup x=_s c->c≠b)/\∀p∈X.pn++pins,p.1≠b)
    (keep:∀b o,b≠X.env.locals->b∉X.fs->b∉ch->s.heap.get? b=_s o->H b=_n->h'.get? b=_s o)
    (slot:∀b o,b≠X.env.locals->b∈X.fs->b∉ch->s.heap.get? b=_s o->H b=_n->∃sl,h'.get? b=_s {o with slots:=sl}) (free:∀b o,b∉ch->s.heap.get? b=_s o->H b=_n->H' b=_n)
    (there:∀b o,b∉ch->s.heap.get? b=_s o->∃o',h'.get? b=_s o')
    (lu:∀b xs,H b=_s (.tup xs)->H' b=_s (.tup xs)) (lZ:∀b o u,H b=_s (.nI o u)->H' b=_s (.nI o u)) (lz:∀b ps,H b=_s (.qP ps)->∃more,H' b=_s (.qP (ps++more)))
    (ns:∀m,s.heap.Ns X.env.locals m->h'.Ns X.env.locals m) (kD:Cn X.prog X.w H' h') (L:U5 g') :
    Inv X pins σ H' {s with heap:=h',gens:=g',drawn:=d',toks:=t' }:=by
  have B:∀b o,X.kP.heap.get? b=_s o->b≠X.env.locals:=λb o e=>D2 (B1 (B6 e) I.ok.above);have A:∀b o,X.kP.heap.get? b=_s o->b∉X.ex->b∉ch:=λb o e f g=>by
    rcases(y b g).1 with z|z
    exact f z;exact absurd (B1 (B6 e) z) (G7 _)
  have cellK:∀x c,X.env.cells.lookup x=_s c->∀v,s.heap.IsCell c v->h'.IsCell c v:=λx c e v ⟨o,j,hd⟩=>by have t:c∉ch:=λz=>(y c z).2.2.1 x c e rfl;by_cases E:c∈X.fs;obtain⟨sl,q⟩:=slot c o (I.oq x c e) E t j (I.ka x c e);exact⟨_,q,hd⟩;exact⟨o,keep c o (I.oq x c e) E t j (I.ka x c e),hd⟩
  refine⟨I.ok,I.os,L,⟨λb o e n g f=>?_,λb o e n g f=>?_,λb o e n f=>?_,λb o e f=>?_,λb xs e=>lu b xs (I.base.lu b xs e),λb o xs e=>lZ b o xs (I.base.lZ b o xs e),λb ps e=>?_⟩,?_,λx c e=>?_,?_,λx c e=>?_,λp D=>?_,kD,I.len⟩;exact keep b o (B b o e) g (A b o e f) (I.base.keep b o e n g f) (I.base.free b o e n f);obtain⟨sl,e1⟩:=I.base.slot b o e n g f;obtain⟨F,e2⟩:=slot b _ (B b o e) g (A b o e f) e1 (I.base.free b o e n f);exact⟨F,e2⟩;obtain⟨o',e1⟩:=I.base.there b o e f;exact free b o' (A b o e f) e1 (I.base.free b o e n f);obtain⟨o',e1⟩:=I.base.there b o e f;exact there b o' (A b o e f) e1;obtain⟨J,e1⟩:=I.base.lz b ps e;obtain⟨G,e2⟩:=lz b _ e1;exact⟨J++G,by rw[e2,Array.append_assoc]⟩;obtain⟨m,hn,K⟩:=I.loc;refine⟨m,ns m hn,λi x v e1 e2 e3=>?_⟩;obtain⟨u,r,l⟩:=K i x v e1 e2 e3;refine⟨u,r,?_⟩;rcases l with l|⟨k,c,e,z⟩
  exact .inl l;exact .inr ⟨k,c,e,cellK x c e _ z⟩;obtain⟨v,z⟩:=I.cell x c e;exact⟨v,cellK x c e v z⟩;obtain⟨m,⟨o,_,_,j,_⟩,_⟩:=I.loc;exact free _ o (λz=>(y _ z).2.1 rfl) j I.free;obtain⟨v,o,j,hd⟩:=I.cell x c e;exact free c o (λz=>(y c z).2.2.1 x c e rfl) j (I.ka x c e);obtain⟨e,n,ne,C,d⟩:=I.pin p D;have t:p.1∉ch:=λz=>(y p.1 z).2.2.2 p D rfl;exact⟨keep p.1 p.2 ne C t e n,free p.1 p.2 t e n,ne,C,d⟩
theorem Inv.un(I:Inv X pins σ H s)(u:Un X.fs [] H H' s.heap h')(kD:Cn X.prog X.w H' h'):Inv X pins σ H' {s with heap:=h',toks:=t' }:=by
 obtain⟨m,⟨o,es,p,f,r⟩,_⟩:=id I.loc;obtain⟨sl,l⟩:=u.any f I.free `s;exact I.step (g':=s.gens) (d':=s.drawn) (ch:=[]) (λ_ z=>nomatch z) (λb o _ c _ e n=>u.keep b o e n c `s) (λb o _ c _ e n=>u.slot b o e n c `s) (λb o _ e n=>u.free b o e n `s) (λb o _ e=>u.there b o e `s) u.lu u.lZ u.lz (λm' hm=>by obtain⟨o',k,g,d,j⟩:=hm;rw[f]at d;cases d;exact⟨_,k,g,l,j⟩) kD I.bare
theorem Inv.call{g':Array GenState}{t':Nat}{d':Drawn}{ch:List A6}(I:Inv X pins σ H s)(u:Un (EI X.stack) ch H H' s.heap h')(kD:Cn X.prog X.w H' h')(y:U5 g')
    (j:∀b∈ch,(b∈X.ex\/X.kP.heap.objs.size<=b)/\b≠X.env.locals/\(∀x c,X.env.cells.lookup x=_s c->c≠b)/\∀p∈X.pn++pins,p.1≠b) :
    Inv X pins σ H' {s with heap:=h',gens:=g',drawn:=d',toks:=t' }:=by
  obtain⟨m,⟨o,es,B,k,r⟩,_⟩:=id I.loc;obtain⟨sl,f⟩:=u.any k I.free λz=>(j _ z).2.1 rfl;exact I.step (ch:=ch) j (λb o f A d e n=>u.keep b o e n (λz=>(E3.mp (I.kz b z)).elim f A) d) (λb o _ _ d e n=>u.any e n d) (λb o d e n=>u.free b o e n d) (λb o d e=>u.there b o e d) u.lu u.lZ u.lz (λm' hm=>by obtain⟨o',t,l,g,q⟩:=hm;rw[k]at g;cases g;exact⟨_,t,l,f,q⟩) kD y
theorem Inv.turned{t':Nat}{it:A6}(I:Inv X pins σ H s)(k:∀b o,b≠it->s.heap.get? b=_s o->h'.get? b=_s o)(hn:H it=_n)(g:it≠X.env.locals)
    (h1:it∈X.ex\/X.kP.heap.objs.size<=it) (h2:∀x c,X.env.cells.lookup x=_s c->c≠it) (h3:∀p∈X.pn++pins,p.1≠it):Inv X pins σ H {s with heap:=h',toks:=t' }:=by
  have f:∀b u,H b=_s u->b≠it:=λb u e z=>by rw[z,hn]at e;cases e
  refine I.step (g':=s.gens) (d':=s.drawn) (ch:=[it]) (λb l=>?_) (λb o _ _ d e _=>k b o (λz=>d (by simp[z])) e) (λb o _ _ d e _=>⟨o.slots,k b o (λz=>d (by simp[z])) e⟩) (λ_ _ _ _ n=>n)
    (λb o d e=>⟨o,k b o (λz=>d (by simp[z])) e⟩) (λ_ _ e=>e) (λ_ _ _ e=>e) (λb ps e=>⟨#[],by rw[e];simp⟩) (λm hm=>?_) (λb u e=>?_) I.bare
  have e:b=it:=by simpa using l
  subst e;exact⟨h1,g,h2,h3⟩;obtain⟨o,es,t,j,r⟩:=hm;exact⟨o,es,t,k _ o (Ne.symm g) j,r⟩;refine(I.kD b u e).mK (λc v d q=>k c v ?_ q) (λ_ q=>q) λ_ _ q=>q;rcases d with z|z
  rw[z];exact f b u e;exact f c _ z
theorem Inv.tok(I:Inv X pins σ H s)(t:Nat):Inv X pins σ H {s with toks:=t}:=I.un (h':=s.heap) (t':=t) Un.refl I.kD
theorem Inv.kept(I:Inv X pins σ H s)(k:∀b u,s.heap.get? b=_s u->h'.get? b=_s u):Inv X pins σ H {s with heap:=h',toks:=t' }:=I.un (Un.kept k) (I.kD.kept k)
theorem Inv.laid{t':Nat}(I:Inv X pins σ H s)(k:∀b u,s.heap.get? b=_s u->h'.get? b=_s u)(c:s.heap.objs.size<=a)(new:Ap X.prog X.w (upd H a o) h' a o) :
    Inv X pins σ (upd H a o) {s with heap:=h',toks:=t' }:=I.un (Un.laid k c (I.kD.fresh c)) (I.kD.laid k c new)
theorem Inv.write{x e:A6}{o:HO}{t':Nat}(I:Inv X pins σ H s)(mu:bD (H x))(he:e=x\/H e=_s (.own x))(k:∀b u,b≠e->s.heap.get? b=_s u->h'.get? b=_s u)(c:∃u,h'.get? e=_s u)
    (new:Ap X.prog X.w (upd H x o) h' x o):Inv X pins σ (upd H x o) {s with heap:=h',toks:=t' }:=I.un (Un.write mu he k c) (I.kD.write mu he k c new)
theorem Inv.weak{σ':List (Option V)}(I:Inv X pins σ H s)(c:σ'.length=σ.length)(w:∀(i:Nat) v,σ'[i]?=_s (_s v)->σ[i]?=_s (_s v)):Inv X pins σ' H s:=
 ⟨I.ok,I.os,I.bare,I.base,let ⟨m,hn,mT⟩:=I.loc;⟨m,hn,λi x v e1 e2 e3=>mT i x v e1 (w i v e2) e3⟩,I.cell,I.free,I.ka,I.pin,I.kD,c.trans I.len⟩
theorem Inv.k4{c:List (A6×Obj)}(I:Inv X pins σ H s)(h:∀p∈c,s.heap.get? p.1=_s p.2/\H p.1=_n/\p.1≠X.env.locals/\p.1∉X.fs/\∀v,p.2.data≠.cell v):Inv X c σ H s:=
 ⟨I.ok,I.os,I.bare,I.base,I.loc,I.cell,I.free,I.ka,λp d=>(D8.mp d).elim (λz=>I.pin p (C2 _ z)) (h p),I.kD,I.len⟩
theorem Ed{N:List Str}(c:N.Nodup){j:Nat}(a:N[i]?=_s x)(b:N[j]?=_s x):i=j:=by obtain⟨h1,e1⟩:=A9.mp a;obtain⟨h2,e2⟩:=A9.mp b;exact(Y4 c).mp (e1.trans e2.symm)
theorem FQ{M:iW}{A:F2}{E:A3->A5->Prop}{Q:Unit->A5->Prop}(I:Inv X pins σ H s)(hN:X.N.Nodup)(hi:X.N[i]?=_s x)(l:Loc X.env.scope x)(r:RelV v u)
    (h:∀s',Inv X pins (σ.set i (_s v)) H s'->(∃a,R7 a s.heap s'.heap/\(a=X.env.locals\/X.env.cells.lookup x=_s a))->Q () s') (hf:X.fn x=_t\/X.env.scope.names.lookup x=_s .local:=by first|exact .inl rfl|exact .inr rfl|assumption):B7 M A (storeName X.env x u) Q E s:=by
  obtain⟨m,hn,Z⟩:=id I.loc;have vw:(X.env.scope.kind==.class||(X.env.scope.kind==.module&&X.env.locals != X.env.globals))=false:=by rw[I.ok.kind];rfl
  have T:i < σ.length:=by rw[I.len];exact(A9.mp hi).1
  have oq:=I.oq;have f:∀{a:A6}{h':F1},(∃o,s.heap.get? a=_s o/\H a=_n)->R7 a s.heap h'->Cn X.prog X.w H h':=fun{a h'} ha hs b ob e=>by
    obtain⟨_,_,W⟩:=ha;refine(I.kD b ob e).mK (λc D g q=>(hs.2 c ?_).trans q) (λ_ q=>q) λ_ _ q=>q;rintro rfl;rcases g with rfl|g
    rw[W]at e;cases e;rw[W]at g;cases g
  rcases l with t|t
  refine wpAny_storeName_local t hn (λh' qC hs=>?_) vw;obtain⟨oL,_,_,qk,_⟩:=id hn;refine h _ ⟨I.ok,I.os,I.bare,⟨λb o e n C l=>?_,λb o e n C l=>?_,I.base.free,λb o e l=>?_,I.base.lu,I.base.lZ,I.base.lz⟩,⟨_,qC,λj y J e1 e2 e3=>?_⟩,λy c e=>?_,I.free,I.ka,λp R=>?_,f ⟨oL,qk,I.free⟩ hs,by simpa using I.len⟩ ⟨_,hs,.inl rfl⟩;exact(hs.2 b (D2 (B1 (B6 e) I.ok.above))).trans (I.base.keep b o e n C l);obtain⟨sl,e1⟩:=I.base.slot b o e n C l;exact⟨sl,(hs.2 b (D2 (B1 (B6 e) I.ok.above))).trans e1⟩;obtain⟨o',e1⟩:=I.base.there b o e l;exact⟨o',(hs.2 b (D2 (B1 (B6 e) I.ok.above))).trans e1⟩;by_cases B:j=i;subst B;rw[hi]at e1;cases e1;rw[C5 T]at e2;cases e2;exact⟨u,r,.inl ⟨t,by simp⟩⟩;rw[C6 (Ne.symm B)]at e2;obtain⟨K,L,q⟩:=Z j y J e1 e2 e3;refine⟨K,L,?_⟩;rcases q with⟨k,e⟩|⟨k,c,e,z⟩
  refine .inl ⟨k,?_⟩;have:y≠x:=λe=>B (Ed hN e1 (e▸hi));simp[this,e];exact .inr ⟨k,c,e,z.sameBut hs (oq y c e)⟩;obtain⟨D,z⟩:=I.cell y c e;exact⟨D,z.sameBut hs (oq y c e)⟩;obtain⟨e,n,ne,O,d⟩:=I.pin p R;exact⟨(hs.2 p.1 ne).trans e,n,ne,O,d⟩;have G:X.fn x=true:=by
    rcases hf with z|z
    exact z;rw[z]at t;cases t
  obtain⟨c,g⟩:=I.ok.has x (.inl t);obtain⟨D,z⟩:=I.cell x c g;refine wpAny_storeName_cell I.ok.kind t g z (λh' Y hs=>?_);obtain⟨oc,U,vZ⟩:=id z;refine h {s with heap:=h' } ⟨I.ok,I.os,I.bare,⟨λb o e n C l=>?_,λb o e n C l=>?_,I.base.free,λb o e l=>?_,I.base.lu,I.base.lZ,I.base.lz⟩,⟨m,hn.sameBut hs (Ne.symm (oq x c g)),λj y J e1 e2 e3=>?_⟩,λy F e=>?_,I.free,I.ka,λp R=>?_,f ⟨oc,U,I.ka x c g⟩ hs,by simpa using I.len⟩ ⟨c,hs,.inr g⟩;exact(hs.2 b (D2 (B1 (B6 e) (I.ok.qy x c G g)))).trans (I.base.keep b o e n C l);obtain⟨sl,e1⟩:=I.base.slot b o e n C l;exact⟨sl,(hs.2 b (D2 (B1 (B6 e) (I.ok.qy x c G g)))).trans e1⟩;obtain⟨o',e1⟩:=I.base.there b o e l;exact⟨o',(hs.2 b (D2 (B1 (B6 e) (I.ok.qy x c G g)))).trans e1⟩;by_cases B:j=i;subst B;rw[hi]at e1;cases e1;rw[C5 T]at e2;cases e2;exact⟨u,r,.inr ⟨.inl t,c,g,Y⟩⟩;rw[C6 (Ne.symm B)]at e2;obtain⟨K,L,q⟩:=Z j y J e1 e2 e3;refine⟨K,L,?_⟩;rcases q with q|⟨k,F,e,z'⟩
  exact .inl q;refine .inr ⟨k,F,e,z'.sameBut hs ?_⟩;rintro rfl;exact B (Ed hN e1 (I.ok.inj _ _ _ e g▸hi));by_cases S:F=c;subst S;exact⟨_,Y⟩;obtain⟨w2,z2⟩:=I.cell y F e;exact⟨w2,z2.sameBut hs S⟩;obtain⟨e,n,ne,O,d⟩:=I.pin p R;refine⟨(hs.2 p.1 ?_).trans e,n,ne,O,d⟩;intro q;rw[q,U]at e;have q':oc=p.2:=B2 e;exact d D (by rw[<- q'];exact vZ)
theorem By{M:iW}{A:F2}{E:A3->A5->Prop}{Q:Unit->A5->Prop}(I:Inv X pins σ H s)(e:X.N.Nodup)(hi:X.N[i]?=_s x)(c:Loc X.env.scope x)(r:RelV v u)
    (h:∀s',Inv X pins (σ.set i (_s v)) H s'->Q () s') (d:X.fn x=_t\/X.env.scope.names.lookup x=_s .local:=by first|exact .inl rfl|exact .inr rfl|assumption):B7 M A (storeName X.env x u) Q E s:=
  FQ I e hi c r (λs' f _=>h s' f) d
theorem Inv.td{s':A5}{ch:List A6}(I:Inv X pins σ H s)(f:s'.os=s.os)(u:Un (EI X.stack) ch H H' s.heap s'.heap)(kD:Cn X.prog X.w H' s'.heap)(g:U5 s'.gens)
    (d:∀b∈ch,(b∈X.ex\/X.kP.heap.objs.size<=b)/\b≠X.env.locals/\(∀x c,X.env.cells.lookup x=_s c->c≠b)/\∀p∈X.pn++pins,p.1≠b):Inv X pins σ H' s':=by
  obtain⟨h',g',d',t',o'⟩:=s';have e:o'=s.os:=f;subst e;exact I.call (g':=g') (t':=t') (d':=d') u kD g d
end
abbrev XK:=A3->Option A6->Hp->Prop
noncomputable abbrev St:=List (Option V)
abbrev VK:=V->Hp->Prop
abbrev TE:=St->Hp->VK->Prop
abbrev TT:=St->Hp->(Bool->Hp->Prop)->Prop
abbrev TA:=St->Hp->(List V->Hp->Prop)->Prop
structure Ends where
 nx:St->Hp->Prop
 rt:VK
 bk:St->Hp->Prop:=λ_ _=>False
 ct:St->Hp->Prop:=λ_ _=>False
abbrev TS:=Ends->St->Hp->Prop
inductive EP (X:Cx) (pins:List (A6×Obj)) (σ:St) (Q:VK) (u:A3) (s':A5):Prop
 |mk (v:V) (H':Hp) (a:Inv X pins σ H' s') (b:RelV v u) (c:Q v H')
def TP(X:Cx)(pins:List (A6×Obj))(σ:St)(Q:Bool->Hp->Prop)(b:Bool)(s':A5):Prop:=∃H',Inv X pins σ H' s'/\Q b H'
inductive AP (X:Cx) (pins:List (A6×Obj)) (σ:St) (Q:List V->Hp->Prop) (us:List A3) (s':A5):Prop
 |mk (vs:List V) (H':Hp) (a:Inv X pins σ H' s') (b:AH vs us) (c:Q vs H')
def SP(X:Cx)(pins:List (A6×Obj))(D:Ends)(f:Flow)(s':A5):Prop:=
 match f with
 |.next=>∃σ' H',Inv X pins σ' H' s'/\D.nx σ' H'
 |.brk=>∃σ' H',Inv X pins σ' H' s'/\D.bk σ' H'
 |.cont=>∃σ' H',Inv X pins σ' H' s'/\D.ct σ' H'
 |.ret u=>∃v σ' H',Inv X pins σ' H' s'/\RelV v u/\D.rt v H'
def PE(X:Cx)(e:Expr)(t:TE):Prop:=
 ∀(pins:List (A6×Obj))(s:A5)(σ:St)(H:Hp)(Q:VK),Inv X pins σ H s->t σ H Q->B7 (C0 X.prog X.w) X.A (L7 e X.env) (EP X pins σ Q) X.xe s
def PT(X:Cx)(e:Expr)(t:TT):Prop:=
 ∀(pins:List (A6×Obj))(s:A5)(σ:St)(H:Hp)(Q:Bool->Hp->Prop),Inv X pins σ H s->t σ H Q->B7 (C0 X.prog X.w) X.A (isTrue e X.env (L7 e X.env)) (TP X pins σ Q) X.xe s
def PW(X:Cx)(e:Expr)(t:TT):Prop:=
 ∀(c:Sem A3)(pins:List (A6×Obj))(s:A5)(σ:St)(H:Hp)(Q:Bool->Hp->Prop),Inv X pins σ H s->t σ H Q->B7 (C0 X.prog X.w) X.A (isTrue e X.env c) (TP X pins σ Q) X.xe s
variable{X:Cx}{e:Expr}
theorem PW.pt{t:TT}(h:PW X e t):PT X e t:=h _
def PA(X:Cx)(es:List Expr)(t:TA):Prop:=
 ∀(pos:Pos)(pins:List (A6×Obj))(s:A5)(σ:St)(H:Hp)(Q:List V->Hp->Prop),Inv X pins σ H s->t σ H Q->B7 (C0 X.prog X.w) X.A (spliced (R8 pos (E5 es X.env))) (AP X pins σ Q) X.xe s
def PS(X:Cx)(st:F0)(t:TS):Prop:=
 ∀(pins:List (A6×Obj))(s:A5)(σ:St)(H:Hp)(D:Ends),Inv X pins σ H s->t D σ H->B7 (C0 X.prog X.w) X.A (exec st X.env) (SP X pins D) X.xe s
def Be(X:Cx)(st:List F0)(t:TS):Prop:=
 ∀(pins:List (A6×Obj))(s:A5)(σ:St)(H:Hp)(D:Ends),Inv X pins σ H s->t D σ H->B7 (C0 X.prog X.w) X.A (execs st X.env) (SP X pins D) X.xe s
variable{M:iW}{A:F2}{E:A3->A5->Prop}{s:A5}
theorem Ah{c:Type}{t:Sem c}{Q d:c->A5->Prop}(h:B7 M A t Q E s)(f:∀a s,Q a s->d a s):B7 M A t d E s:=G1 h f λ_ _ x=>x
variable{pins:List (A6×Obj)}{σ:St}{pos:Pos}{Q:A3->A5->Prop}
section
variable{X:Cx}
theorem bin{a b:Expr}{ta tb:TE}(ha:PE X a ta)(p:PE X b tb){R:V->V->Hp->Prop}(I:Inv X pins σ H s)(h:ta σ H λx d=>tb σ d λy c=>R x y c)
    {g:Type} {Q:g->A5->Prop} {f:A3->A3->Sem g}
    (n:∀v u s2 x y c,Inv X pins σ c s2->RelV x v->RelV y u->R x y c->B7 (C0 X.prog X.w) X.A (f v u) Q X.xe s2) :
    B7 (C0 X.prog X.w) X.A (L7 a X.env) (λv m=>B7 (C0 X.prog X.w) X.A (L7 b X.env) (λu l=>B7 (C0 X.prog X.w) X.A (f v u) Q X.xe l) X.xe m) X.xe s:=by
  refine Ah (ha pins s σ H _ I h) λv s1 ⟨x,d,r,k,q1⟩=>?_;refine Ah (p pins s1 σ d _ r q1) λu s2 ⟨y,c,q,j,q2⟩=>?_;exact n v u s2 x y c q k j q2
abbrev Bf(i:Nat):TE:=λσ H Q=>∃v,σ[i]?=_s (_s v)/\Q v H
abbrev tC(v:V):TE:=λ_ H Q=>Q v H
theorem EZ(q:X.N[i]?=_s x)(n:az X.env.scope x)(hd:(x==("__debug__" : Str))=false:=by decide)(k:(x==("__classdict__" : Str))=false:=by decide):PE X (.Name x pos) (Bf i):=by
 intro pins s σ H Q I h;obtain⟨v,e,h⟩:=h;obtain⟨m,hn,p⟩:=I.loc;obtain⟨u,r,l⟩:=p i x v q e n;have f:EP X pins σ Q u s:=⟨v,H,I,r,h⟩;rcases l with⟨d,hm⟩|⟨d,c,j,g⟩
 exact i7 (wpAny_loadName_local I.ok.kind d hn hm f) hd;rcases d with d|d
 exact i7 (wpAny_loadName_cell I.ok.kind d j g f) hd;exact i7 (wpAny_loadName_free I.ok.kind d j g f k) hd
theorem Ic{i j pos}:PE X (.Constant (.int i) j pos) (tC (.int i)):=λ_ _ _ H _ I h=>wpAny_Constant_int ⟨.int i,H,I.tok _,⟨_,rfl⟩,h⟩
theorem Zm{b j pos}:PE X (.Constant (.bool b) j pos) (tC (.bl b)):=λ_ _ _ H _ I h=>Constant_bool ⟨.bl b,H,I,rfl,h⟩
theorem Nt{j pos}:PE X (.Constant .none j pos) (tC .kB):=λ_ _ _ H _ I h=>Constant_none ⟨.kB,H,I,rfl,h⟩
theorem WN{x j pos}:PE X (.Constant (.str x) j pos) (tC (.str x)):=λ_ _ _ H _ I h=>gc ⟨.str x,H,I.tok _,⟨_,rfl⟩,h⟩
def Gl(X:Cx)(x:Str):Prop:=X.env.kindOf x=_s .globalImplicit
theorem Bq{E:A3->A5->Prop}{pos:Pos}(I:Inv X pins σ H s)(c:Gl X x)(hm:X.mg x=_s u)(h:Q u s)
    (hd:(x==("__debug__" : Str))=false:=by decide):B7 (C0 X.prog X.w) X.A (L7 (.Name x pos) X.env) Q E s:=
  V4 I.ok.kind c (Calls.loadGlobal_global (by rw[I.ok.glob];exact I.mod.glob.keeps I.bk) hm h) hd
theorem GP{E:A3->A5->Prop}{pos:Pos}(I:Inv X pins σ H s)(d:Gl X x)(hm:X.mg x=_n)(c:M5 x=_s u)(h:Q u s)
    (hn:x ≠ "__name__" := by decide) (hd:(x==("__debug__" : Str))=false:=by decide):B7 (C0 X.prog X.w) X.A (L7 (.Name x pos) X.env) Q E s:=by
  obtain⟨mb,h1,h2⟩:=I.mod.blt;exact V4 I.ok.kind d (Calls.loadGlobal_builtin (by rw[I.ok.glob];exact I.mod.glob.keeps I.bk) hm (by rw[I.ok.blt];exact h1.keeps I.bk) ((h2 x hn).trans c) h) hd
theorem Jx(c:Gl X x)(hm:X.mg x=_s u)(r:RelV v u)(hd:(x==("__debug__" : Str))=false:=by decide):PE X (.Name x pos) (tC v):=
 λ_ _ _ H _ I h=>Bq I c hm ⟨v,H,I,r,h⟩ hd
theorem Jy(d:Gl X x)(hm:X.mg x=_n)(c:M5 x=_s u)(r:RelV v u)(hn:x ≠ "__name__" := by decide)(hd:(x==("__debug__" : Str))=false:=by decide):PE X (.Name x pos) (tC v):=
 λ_ _ _ H _ I h=>GP I d hm c ⟨v,H,I,r,h⟩ hn hd
variable{a b:Expr}{ta tb:TE}{pos:Pos}
variable{tA Tv:TT}{rest:List Expr}
abbrev ZA(t u:TT):TT:=λσ H Q=>t σ H λc d=>if c=_t then u σ d Q else Q _f d
abbrev dg(t u:TT):TT:=λσ H Q=>t σ H λc d=>if c=_t then Q _t d else u σ d Q
abbrev Yv(t:TT):TT:=λσ H Q=>t σ H λc d=>Q (!c) d
theorem Re(ha:PT X a tA):PW X (.BoolOp .And [a] pos) tA:=by
 intro d pins s σ H Q I h;refine isTrue_and (Ah (ha pins s σ H Q I h) λc s1 e=>?_);cases c with|true=>exact isTrue_and_nil e|false=>exact e
theorem Vt(ha:PT X a tA):PW X (.BoolOp .Or [a] pos) tA:=by
 intro d pins s σ H Q I h;refine isTrue_or (Ah (ha pins s σ H Q I h) λc s1 e=>?_);cases c with|false=>exact isTrue_or_nil e|true=>exact e
theorem Vu(ha:PT X a tA)(j:PW X (.BoolOp .And (b::rest) pos) Tv):PW X (.BoolOp .And (a::b::rest) pos) (ZA tA Tv):=by
 intro g pins s σ H Q I h;refine isTrue_and (Ah (ha pins s σ H _ I h) λc s1 ⟨f,d,q1⟩=>?_);cases c with|true=>exact j g pins s1 σ f Q d q1|false=>exact⟨f,d,q1⟩
theorem Zb(ha:PT X a tA)(j:PW X (.BoolOp .Or (b::rest) pos) Tv):PW X (.BoolOp .Or (a::b::rest) pos) (dg tA Tv):=by
 intro g pins s σ H Q I h;refine isTrue_or (Ah (ha pins s σ H _ I h) λc s1 ⟨f,d,q1⟩=>?_);cases c with|true=>exact⟨f,d,q1⟩|false=>exact j g pins s1 σ f Q d q1
theorem Vw(ha:PT X a tA):PT X (.UnaryOp .Not a pos) (Yv tA):=by intro pins s σ H Q I h;exact isTrue_not (ha pins s σ H (λc d=>Q (!c) d) I h)
abbrev Tw(ta tb:TE):TE:=λσ H Q=>ta σ H λx d=>∃c,x=.bl c/\if c=_t then tb σ d Q else Q (.bl _f) d
abbrev Yu(ta tb:TE):TE:=λσ H Q=>ta σ H λx d=>∃c,x=.bl c/\if c=_t then Q (.bl _t) d else tb σ d Q
abbrev Tr(ta:TE):TE:=λσ H Q=>ta σ H λx d=>∃c,x=.bl c/\Q (.bl (!c)) d
theorem WO{op}{t:TE}(h:PE X a t):PE X (.BoolOp op [a] pos) t:=λpins s σ H Q I c=>BoolOp_one (h pins s σ H Q I c)
theorem WS(ha:PE X a ta)(j:PE X (.BoolOp .And (b::rest) pos) tb):PE X (.BoolOp .And (a::b::rest) pos) (Tw ta tb):=by
 intro pins s σ H Q I h;refine BoolOp_and (Ah (ha pins s σ H _ I h) λv s1 ⟨x,f,d,g,q1⟩=>?_);obtain⟨c,rfl,q1⟩:=q1;cases g;refine M4 ?_;cases c with|true=>exact j pins s1 σ f Q d q1|false=>exact⟨.bl _f,f,d,rfl,q1⟩
theorem Zk(ha:PE X a ta)(j:PE X (.BoolOp .Or (b::rest) pos) tb):PE X (.BoolOp .Or (a::b::rest) pos) (Yu ta tb):=by
 intro pins s σ H Q I h;refine BoolOp_or (Ah (ha pins s σ H _ I h) λv s1 ⟨x,f,d,g,q1⟩=>?_);obtain⟨c,rfl,q1⟩:=q1;cases g;refine M4 ?_;cases c with|false=>exact j pins s1 σ f Q d q1|true=>exact⟨.bl _t,f,d,rfl,q1⟩
theorem WQ(ha:PE X a ta):PE X (.UnaryOp .Not a pos) (Tr ta):=by intro pins s σ H Q I h;refine UnaryOp_ (Ah (ha pins s σ H _ I h) λv s1 ⟨x,g,f,d,q1⟩=>?_);obtain⟨c,rfl,q1⟩:=q1;cases d;exact not_of (M4 ⟨.bl (!c),g,f,rfl,q1⟩)
end
def Bv(K:W.Frag)(H:Hp)(a:A6)(xs:List V):Prop:=
 Rd H a (.lst xs) \/
  ∃(o:Obj)(c:Array A3)(n:Nat),K.lookup a=_s o/\o.cls=.type "list" /\ o.dict=_n/\o.data=.seq c n/\c.size<=sizeLine/\AH xs c.toList
def DC(K:W.Frag)(H:Hp)(a:A6)(xs:List V):Prop:=
 Rd H a (.tup xs) \/
  ∃(o:Obj)(c:Array A3)(n:Nat),K.lookup a=_s o/\o.cls=.type "tuple" /\ o.data=.seq c n/\c.size<=sizeLine/\AH xs c.toList
noncomputable def dE:A3->Option V
 |.none=>_s .kB
 |.bool b=>_s (.bl b)
 |.int i _=>_s (.int i)
 |.str x _=>_s (.str x)
 |.bytes b _=>_s (.qJ b)
 |.float b _=>_s (.uV b)
 |.ref a=>_s (.ref a)
 |.type n=>_s (.ty n)
 |_=>_n
theorem RelV.abs{x:V}(r:RelV x u):dE u=_s x:=by
 cases x with|kB=>cases r;rfl|bl _=>cases r;rfl|int _=>obtain⟨t,rfl⟩:=r;rfl|str _=>obtain⟨t,rfl⟩:=r;rfl|qJ _=>obtain⟨t,rfl⟩:=r;rfl|uV _=>obtain⟨t,rfl⟩:=r;rfl|ref _=>cases r;rfl|ty _=>cases r;rfl
theorem RelV.inj{x y:V}(r:RelV x u)(q:RelV y u):x=y:=B2 (r.abs.symm.trans q.abs)
theorem AH.inj:∀{xs ys:List V}{us:List A3},AH xs us->AH ys us->xs=ys
 |_,_,_,.nil,.nil=>rfl
 |_,_,_,.cons r t,.cons c t'=>by rw[r.inj c,AH.inj t t']
section
variable{X:Cx}{pins:List (A6×Obj)}{σ:St}{H:Hp}{s:A5}{a:A6}{xs ys:List V}
theorem Inv.list(I:Inv X pins σ H s)(h:Bv X.K H a xs):∃c:List A3,AH xs c/\PlainL s.heap a c.toArray/\xs.length<=sizeLine:=by
 rcases h with h|⟨o,c,n,d,f,hd,hs,g,r⟩
 obtain⟨z,c,n,r,e⟩:=h.ok I.kD;exact⟨c,r,⟨_,n,e,rfl,rfl,rfl⟩,z⟩;refine⟨c.toList,r,⟨o,n,I.lN a o d,f,hd,by simpa using hs⟩,?_⟩;have e:=r.length;simp only[Q4]at e;omega
theorem Inv.tuple(I:Inv X pins σ H s)(h:DC X.K H a xs):∃c:List A3,AH xs c/\IsTup s.heap a c.toArray/\xs.length<=sizeLine:=by
 rcases h with h|⟨o,c,n,d,f,hs,g,r⟩
 obtain⟨z,c,r,p⟩:=h.ok I.kD;exact⟨c,r,p.tup,z⟩;refine⟨c.toList,r,⟨o,I.lN a o d,f,n,by simpa using hs⟩,?_⟩;have e:=r.length;simp only[Q4]at e;omega
theorem Inv.mW(I:Inv X pins σ H s)(h:Bv X.K H a xs)(h':Bv X.K H a ys):xs=ys:=by
 obtain⟨g,r,⟨o,n,e,_,_,d⟩,_⟩:=I.list h;obtain⟨its',f,⟨o',j,c,_,_,d'⟩,_⟩:=I.list h';rw[e]at c;cases c;rw[d]at d';injection d' with d1 _
 have:g=its':=by simpa using congrArg jU d1
 subst this;exact r.inj f
theorem Inv.mF(I:Inv X pins σ H s)(h:DC X.K H a xs)(h':DC X.K H a ys):xs=ys:=by
 obtain⟨g,r,⟨o,e,_,n,d⟩,_⟩:=I.tuple h;obtain⟨its',f,⟨o',c,_,j,d'⟩,_⟩:=I.tuple h';rw[e]at c;cases c;rw[d]at d';injection d' with d1 _
 have:g=its':=by simpa using congrArg jU d1
 subst this;exact r.inj f
end
noncomputable abbrev Cx.kg(X:Cx)(E:A3->A5->Prop):Cx:={X with xe:=E}
noncomputable abbrev Cx.l0(X:Cx):Cx:=X.kg λ_ _=>False
theorem Cx.Ok.kg(ok:X.Ok)(E:A3->A5->Prop):(X.kg E).Ok:=
 ⟨ok.mod,ok.kind,ok.glob,ok.blt,ok.above,ok.inj,ok.has,ok.qy,ok.hd,ok.frames,ok.rF,ok.uX,ok.bs,ok.oB,ok.mx,ok.nU,ok.lI,ok.pV⟩
theorem Cx.Ok.kM(ok:(X.kg E).Ok):X.Ok:=
 ⟨ok.mod,ok.kind,ok.glob,ok.blt,ok.above,ok.inj,ok.has,ok.qy,ok.hd,ok.frames,ok.rF,ok.uX,ok.bs,ok.oB,ok.mx,ok.nU,ok.lI,ok.pV⟩
section
variable{X:Cx}{pins:List (A6×Obj)}{σ:St}{H:Hp}{s:A5}{E:A3->A5->Prop}
theorem Inv.kg(I:Inv X pins σ H s)(E:A3->A5->Prop):Inv (X.kg E) pins σ H s:=⟨I.ok.kg E,I.os,I.bare,I.base,I.loc,I.cell,I.free,I.ka,I.pin,I.kD,I.len⟩
theorem Inv.kM(I:Inv (X.kg E) pins σ H s):Inv X pins σ H s:=⟨I.ok.kM,I.os,I.bare,I.base,I.loc,I.cell,I.free,I.ka,I.pin,I.kD,I.len⟩
theorem SP.kM{D:Ends}{f:Flow}{s':A5}(h:SP (X.kg E) pins D f s'):SP X pins D f s':=by
 cases f with|next=>obtain⟨σ',H',I,q⟩:=h;exact⟨σ',H',I.kM,q⟩|brk=>obtain⟨σ',H',I,q⟩:=h;exact⟨σ',H',I.kM,q⟩|cont=>obtain⟨σ',H',I,q⟩:=h;exact⟨σ',H',I.kM,q⟩|ret u=>obtain⟨v,σ',H',I,r,q⟩:=h;exact⟨v,σ',H',I.kM,r,q⟩
theorem PT.l0{t:TT}(h:PT X.l0 e t):PT X e t:=λpins s σ H Q I hw =>
 G1 (h pins s σ H Q (I.kg _) hw) (λ_ _ ⟨H',c,q⟩=>⟨H',c.kM,q⟩) λ_ _ z=>C9 z
theorem Be.l0{st:List F0}{t:TS}(h:Be X.l0 st t):Be X st t:=λpins s σ H D I hw =>
 G1 (h pins s σ H D (I.kg _) hw) (λ_ _ q=>q.kM) λ_ _ z=>C9 z
end
section
variable{X:Cx}{st:F0}{rest:List F0}{t u:TS}{e:Expr}{te:TE}{pos:Pos}
abbrev Mq:TS:=λD σ H=>D.nx σ H
abbrev Yr(t u:TS):TS:=λD σ H=>t {D with nx:=u D} σ H
theorem Cg:Be X [] Mq:=λ_ _ σ H _ I h=>Q8 ⟨σ,H,I,h⟩
theorem Aw(h1:PS X st t)(h2:Be X rest u):Be X (st::rest) (Yr t u):=by
 intro pins s σ H D I h;refine M9 (Ah (h1 pins s σ H {D with nx:=u D} I h) λf s1 q=>?_);cases f with|next=>obtain⟨σ',H',c,q⟩:=q;exact h2 pins s1 σ' H' D c q|ret v=>exact q|brk=>exact q|cont=>exact q
theorem Rg(h1:PS X st t):Be X [st] t:=by
 intro pins s σ H D I h;refine M9 (Ah (h1 pins s σ H D I h) λf s1 q=>?_);cases f with|next=>exact Q8 q|ret v=>exact q|brk=>exact q|cont=>exact q
theorem Jt:PS X (.Pass pos) Mq:=λ_ _ σ H _ I h=>wpAny_Pass ⟨σ,H,I,h⟩
theorem Inv.quiet(I:Inv X pins σ H s):interactive X.env=false:=by simp[interactive,I.ok.kind]
theorem WA{x j pos pos'}:PS X (.Expr (.Constant (.str x) j pos) pos') Mq:=λ_ s σ H _ I h=>wpAny_Expr (gc (show SP X _ _ .next {s with toks:=s.toks+1}from⟨σ,H,I.tok _,h⟩)) I.quiet
abbrev Yy(te:TE):TS:=λD σ H=>te σ H λ_ c=>D.nx σ c
theorem Ri(c:PE X e te)(hs:N0 e _n pos.line X.env=pure false:=by rfl):PS X (.Expr e pos) (Yy te):=by intro pins s σ H D I h;exact wpAny_Expr_any (Ah (c pins s σ H _ I h) λv s1 ⟨x,f,d,g,q1⟩=>⟨σ,f,d,q1⟩) I.quiet hs
abbrev bo(te:TE):TS:=λD σ H=>te σ H D.rt
theorem Vy(d:PE X e te):PS X (.Return (_s e) pos) (bo te):=by intro pins s σ H D I h;exact wpAny_Return_some (Ah (d pins s σ H _ I h) λv s1 ⟨x,g,f,c,q1⟩=>⟨x,σ,g,f,c,q1⟩)
abbrev br(c:TT)(t u:TS):TS:=λD σ H=>c σ H λb d=>if b=_t then t D σ d else u D σ d
theorem Zg{c:Expr}{a b:List F0}{f:TT}(k:PT X c f)(ha:Be X a t)(l:Be X b u):PS X (.If c a b pos) (br f t u):=by
 intro pins s σ H D I h;refine wpAny_If (Ah (k pins s σ H _ I h) λd s1 ⟨j,g,q1⟩=>?_);cases d with|true=>exact ha pins s1 σ j D g q1|false=>exact l pins s1 σ j D g q1
end
abbrev TG:=V->St->Hp->(St->Hp->Prop)->Prop
abbrev Gg:=List V->St->Hp->(St->Hp->Prop)->Prop
def PG(X:Cx)(c:Expr)(t:TG):Prop:=
 ∀(pins:List (A6×Obj))(s:A5)(σ:St)(H:Hp)(v:V)(u:A3)(Q:St->Hp->Prop),Inv X pins σ H s->RelV v u->t v σ H Q ->
  B7 (C0 X.prog X.w) X.A (S9 c X.env u) (λ_ s'=>∃σ' H',Inv X pins σ' H' s'/\Q σ' H') X.xe s
def YD(X:Cx)(ts:List Expr)(t:Gg):Prop:=
 ∀(pins:List (A6×Obj))(s:A5)(σ:St)(H:Hp)(vs:List V)(us:List A3)(Q:St->Hp->Prop),Inv X pins σ H s->AH vs us->t vs σ H Q ->
  B7 (C0 X.prog X.w) X.A (X6 ((J6 ts X.env).map (·.2)) us) (λ_ s'=>∃σ' H',Inv X pins σ' H' s'/\Q σ' H') X.xe s
abbrev MU:=V->V->V->Hp->(Hp->Prop)->Prop
def Hy(X:Cx)(t:MU):Prop:=
 ∀(pins:List (A6×Obj))(s:A5)(σ:St)(H:Hp)(o i v:V)(c d u:A3)(Q:Hp->Prop),Inv X pins σ H s->RelV o c->RelV i d->RelV v u->t o i v H Q ->
  B7 (C0 X.prog X.w) X.A (setItem c d u) (λ_ s'=>∃H',Inv X pins σ H' s'/\Q H') X.xe s
variable{tg:Expr}
section
variable{X:Cx}{pos:Pos}
abbrev BX(i:Nat):TG:=λv σ H Q=>Q (σ.set i (_s v)) H
theorem Rp(f:X.N.Nodup)(hi:X.N[i]?=_s x)(c:Loc X.env.scope x)(d:X.fn x=_t\/X.env.scope.names.lookup x=_s .local:=by first|exact .inl rfl|exact .inr rfl|assumption):PG X (.Name x pos) (BX i):=by intro pins s σ H v u Q I r h;exact gw (By I f hi c r (λs' g=>⟨_,H,g,h⟩) d)
abbrev HZ:Gg:=λvs σ H Q=>vs=[]/\Q σ H
abbrev Bj(t:TG)(u:Gg):Gg:=λvs σ H Q=>∃v r,vs=v::r/\t v σ H λσ' H'=>u r σ' H' Q
theorem Jw:YD X [] HZ:=by intro pins s σ H vs us Q I r h;obtain⟨e,h⟩:=h;subst e;cases r;exact gy ⟨σ,H,I,h⟩
theorem EY{es:List Expr}{t:TG}{u:Gg}(h1:PG X e t)(h2:YD X es u)
    (hs:(J6 (e::es) X.env).map (·.2)=S9 e X.env::(J6 es X.env).map (·.2):=by rfl):YD X (e::es) (Bj t u):=by
  intro pins s σ H vs us Q I r h;obtain⟨v,j,e1,h⟩:=h;subst e1;cases r with|cons r c=>rw[hs];refine V5 (Ah (h1 pins s σ H _ _ _ I r h) λ_ s1 ⟨d,g,f,q1⟩=>?_);exact h2 pins s1 d g _ _ Q f c q1
abbrev Wu(K:W.Frag)(n:Nat)(t:Gg):TG:=λv σ H Q=>∃a xs,v=.ref a/\DC K H a xs/\xs.length=n/\t xs σ H Q
theorem Nl{es:List Expr}{k:Nat}{t:Gg}{n:Nat}(m:X.calm=_t)(h:YD X es t)
    (hn:(J6 es X.env).length=n:=by rfl) (d:(J6 es X.env).findIdx? (·.1)=none:=by rfl):PG X (.Tuple es k pos) (Wu X.K n t):=by
  intro pins s σ H v u Q I r c;obtain⟨a,xs,e1,j,l,c⟩:=c;subst e1;cases r;obtain⟨q,rv,g,y⟩:=I.tuple j;refine assign_Tuple_tuple (I.ok.hd m) g (by simp[hn,<- l,rv.length]) d λh' f=>?_;have p:Inv X pins σ H {s with heap:=h' }:=I.kept (t':=s.toks) λb o e=>f b o (D2 (B6 e)) e;exact h pins _ σ H xs _ Q p (by simpa using rv) c
abbrev aE(c d:TE)(t:MU):TG:=λv σ H Q=>c σ H λo j=>d σ j λi g=>t o i v g λf=>Q σ f
theorem WL{o i:Expr}{f g:TE}{t:MU}(l:PE X o f)(hi:PE X i g)(hs:Hy X t)
    (ha:∀v,S9 (.Subscript o i pos) X.env v=(do
      let c <- Z3 [v] (L7 o X.env)
      let d <- Z3 [v,c] (L7 i X.env)
      standAt pos
      Z3 [v,c,d] (setItem c d v)
      release [v,c,d] []):=by intro _;rfl):PG X (.Subscript o i pos) (aE f g t):=by
  intro pins s σ H v u Q I r h;rw[ha];refine A0 (E9 (Ah (l pins s σ H _ I h) λc s1 ⟨x,B,p,k,q1⟩=>?_));refine A0 (E9 (Ah (hi pins s1 σ B _ p q1) λd s2 ⟨y,z,n,j,q2⟩=>?_));refine A0 (K9 (A0 (E9 (Ah (hs pins s2 σ z x y v c d u _ n k j r q2) λ_ C ⟨q,m,q3⟩=>?_))));exact wpAny_release ⟨σ,q,m,q3⟩
abbrev Gj(te:TE)(g:TG):TS:=λD σ H=>te σ H λx c=>g x σ c D.nx
theorem WB{te:TE}{g:TG}(j:PE X e te)(f:PG X tg g)(hs:gS [tg] e pos.line X.env=pure false:=by rfl)(d:X7 [tg] e X.env=pure none:=by rfl)
    (h1:(J6 [tg] X.env).map (·.2)=[S9 tg X.env]:=by rfl):PS X (.Assign [tg] e pos) (Gj te g):=by
  intro pins s σ H D I h;refine wpAny_Assign_stores (Ah (j pins s σ H _ I h) λv s1 ⟨x,l,k,c,q1⟩=>?_) hs d;rw[h1];exact Ah (f pins s1 σ l x v _ k c q1) λ_ s2 q=>q
theorem Dn{te:TE}{c:Pos}(k:X.N.Nodup)(hi:X.N[i]?=_s x)(f:Loc X.env.scope x)(j:PE X e te)(hs:N0 e (_s (.Name x c)) pos.line X.env=pure false:=by rfl)(g:X.fn x=_t\/X.env.scope.names.lookup x=_s .local:=by first|exact .inl rfl|exact .inr rfl|assumption) :
    PS X (.Assign [.Name x c] e pos) (Gj te (BX i)):=by
  intro pins s σ H D I h;refine wpAny_Assign_Name (Ah (j pins s σ H _ I h) λv s1 ⟨y,n,m,d,q1⟩=>?_) hs;exact By m k hi f d (λs2 l=>⟨_,n,l,q1⟩) g
abbrev bp(i j:Nat)(ta:TA):TS:=λD σ H=>ta σ H λvs c=>∃v w,vs=[v,w]/\D.nx ((σ.set i (_s v)).set j (_s w)) c
theorem Vz{j:Nat}{y:Str}{a b:Expr}{ta:TA}{g f pt:Pos}{kt k2 pt2}(L:X.calm=_t)(m:X.N.Nodup)(hi:X.N[i]?=_s x)(K:X.N[j]?=_s y)(t:i≠j)
    (l:X.env.scope.names.lookup x=_s .local) (k:X.env.scope.names.lookup y=_s .local) (ha:PA X [a,b] ta)
    (J:X7 [.Tuple [.Name x g,.Name y f] kt pt] (.Tuple [a,b] k2 pt2) X.env=pure (_s [x,y]))
    (hs:gS [.Tuple [.Name x g,.Name y f] kt pt] (.Tuple [a,b] k2 pt2) pos.line X.env=pure false:=by rfl) :
    PS X (.Assign [.Tuple [.Name x g,.Name y f] kt pt] (.Tuple [a,b] k2 pt2) pos) (bp i j ta):=by
  intro pins s σ H D I h;rw[exec_Assign_arm];refine A0 (K9 ?_);rw[hs];refine A0 (A7 ?_);rw[if_neg `d];refine A0 (Tuple_ (Ah (ha _ pins s σ H _ I h) λus s1 ⟨vs,r,T,z,q1⟩=>?_));obtain⟨v,w,e1,q1⟩:=q1;subst e1;obtain⟨d,c,rfl,rv,G⟩:∃d c,us=[d,c]/\RelV v d/\RelV w c:=by
    cases z with
    |cons p q=>
      cases q with|cons C B=>cases B;exact⟨_,_,rfl,p,C⟩
  refine F9 ?_ (by show 2<=sizeLine;decide);have S:Inv X pins σ r {s1 with heap:=s1.heap.push {cls:=.type "tuple", data:=.seq [d,c].toArray} }:=T.kept (t':=s1.toks) λb o e=>B0 _ e;rw[J];refine A0 (A7 ?_);show B7 (C0 X.prog X.w) X.A (do rule "assign.swapped-stores"; let items <- iX (.ref s1.heap.objs.size) 2 _n;X6 [λv=>gC X.env y v,λv=>gC X.env x v] items.reverse;pure Flow.next) _ _ _;refine A0 (gY (A0 (unpackItems_tuple (items:=#[d,c]) (I.ok.hd L) (IsTup.new s1.heap _) λh' F=>?_)));have R:=S.kept (h':=h') (t':=s1.toks) λb o e=>F b o (D2 (B6 e)) e;show B7 _ _ (X6 [λv=>gC X.env y v,λv=>gC X.env x v] [c,d] >>= λ_=>pure Flow.next) _ _ _;refine A0 (V5 (wpAny_bindName (By R m K (.inl k) G (λs2 O=>?_) (.inr k))));refine V5 (wpAny_bindName (By O m hi (.inl l) rv (λU n=>gy (A7 ?_)) (.inr l)));rw[T4 _ _ (Ne.symm t)]at n;exact⟨_,r,n,q1⟩
end
variable{body:List F0}
section
variable{X:Cx}{pos:Pos}
def Mp(c:TT)(tb:TS):TS:=λD σ H=>∃W:Nat->St->Hp->Prop,(∃m,W m σ H)/\∀m σ H,W m σ H ->
 c σ H λb d=>if b=_t then ∃N:St->Hp->Prop,(∀σ' H',N σ' H'->∃m',m' < m/\W m' σ' H')/\tb {D with nx:=N,ct:=N,bk:=D.nx} σ d else D.nx σ d
theorem Nd{c:Expr}{p:TT}{tb:TS}(q:Y5 (C0 X.prog X.w) X.A X.env X.xe)(G:PT X c p)(J:Be X body tb):PS X (.While c body [] pos) (Mp p tb):=by
 intro pins s σ H D I h;obtain⟨W,⟨F,C⟩,BZ⟩:=h;refine wpAny_While (codeAny_whileLoop (λn s'=>∃σ' H',Inv X pins σ' H' s'/\W n σ' H') ?_ F ⟨σ,H,I,C⟩);rintro n s1 ⟨j,z,K,B⟩;refine M3 q (Ah (G pins s1 j z _ K (BZ n j z B)) λb s2 ⟨y,t,q2⟩=>?_);cases b with
 |true=>
  obtain⟨N,r,q2⟩:=q2;rw[if_pos rfl];refine M3 q (Ah (J pins s2 j y _ t q2) λf L q3=>?_);cases f with|next=>obtain⟨d,g,m,l⟩:=q3;obtain⟨m',hm,k⟩:=r d g l;exact⟨m',hm,d,g,m,k⟩|cont=>obtain⟨d,g,m,l⟩:=q3;obtain⟨m',hm,k⟩:=r d g l;exact⟨m',hm,d,g,m,k⟩|brk=>exact q3|ret v=>exact q3
 |false=>rw[if_neg B4];exact Q8 ⟨j,y,t,q2⟩
end
structure It where
 go:Nat->Hp->Prop
 rO:Nat->Hp->V->Hp->Prop
 stop:Nat->Hp->Prop
def kF(X:Cx)(pins:List (A6×Obj))(H:Hp)(b:A6):Prop:=
 H b=_n/\b≠X.env.locals/\b∉X.fs/\(b∈X.ex\/X.kP.heap.objs.size<=b)/\(∀x c,X.env.cells.lookup x=_s c->c≠b)/\∀p∈X.pn++pins,p.1≠b
theorem Inv.kA{H':Hp}(I:Inv X pins σ H s)(d:s.heap.objs.size<=b)(hn:H' b=_n):kF X pins H' b:=by refine⟨hn,R9 (B1 I.lt d),I.sC d,.inr (C3 I.sz d),λx c e z=>?_,λp f z=>?_⟩;obtain⟨v,q⟩:=I.cell x c e;exact absurd (B1 q.lt (by rw[z];exact d)) (G7 _);exact absurd (B1 (B6 (I.pin p f).1) (by rw[z];exact d)) (G7 _)
structure Turn (P:D4) (w:E8) (K:W.Frag) (tg:Expr) (J:It) (fp:List A6) (it:A6) (tn:Nat->F1->Prop):Prop where
 mem:it∈fp
 obj:∀i h,tn i h->∀b∈fp,∃o,h.get? b=_s o/\∀v,o.data≠.cell v
 keep:∀i h h',tn i h->(∀b∈fp,∀o,h.get? b=_s o->h'.get? b=_s o)->tn i h'
 item:∀(X:Cx),X.prog=P->X.w=w->X.K=K->X.calm=_t->∀(i:Nat)(pins:List (A6×Obj))(s:A5)(σ:St)(H:Hp)(E:A3->A5->Prop),Inv X pins σ H s->(∀b∈fp,kF X pins H b)->tn i s.heap->J.go i H ->
  B7 (C0 P w) X.A (pyNext (.ref it)) (λr s1=>∃u,r=_s u /\
   B7 (C0 P w) X.A (T8 tg (.ref it) u) (λ_ s2=>∃x H',Inv X pins σ H' s2/\RelV x u/\J.rO i H x H'/\tn (i+1) s2.heap/\∀b∈fp,H' b=_n) E s1) E s
 done:∀(X:Cx),X.prog=P->X.w=w->X.K=K->X.calm=_t->∀(i:Nat)(pins:List (A6×Obj))(s:A5)(σ:St)(H:Hp)(E:A3->A5->Prop),Inv X pins σ H s->(∀b∈fp,kF X pins H b)->tn i s.heap->J.stop i H ->
  B7 (C0 P w) X.A (pyNext (.ref it)) (λr s1=>r=_n/\Inv X pins σ H s1) E s
 self:∀(A:F2)(i:Nat)(s:A5)(Q:A3->A5->Prop)(E:A3->A5->Prop),tn i s.heap->Q (.ref it) s->B7 (C0 P w) A (pyIter (.ref it)) Q E s
abbrev TI:=St->Hp->(It->Hp->Prop)->Prop
def ee(X:Cx)(pins:List (A6×Obj))(σ:St)(tg:Expr)(R:It->Hp->Prop)(c:A3)(s2:A5):Prop:=
 ∃(it:A6)(fp:List A6)(tn:Nat->F1->Prop)(J:It)(H':Hp),c=.ref it/\Inv X pins σ H' s2/\Turn X.prog X.w X.K tg J fp it tn/\tn 0 s2.heap/\(∀b∈fp,kF X pins H' b)/\R J H'
def PI(X:Cx)(tg iter:Expr)(c:TI):Prop:=
 ∀(pins:List (A6×Obj))(s:A5)(σ:St)(H:Hp)(R:It->Hp->Prop),Inv X pins σ H s->c σ H R ->
  B7 (C0 X.prog X.w) X.A (L7 iter X.env) (λv s1=>B7 (C0 X.prog X.w) X.A (pyIter v) (ee X pins σ tg R) X.xe s1) X.xe s
theorem Oe{M:iW}{A:F2}{E:A3->A5->Prop}{tg:Expr}{it:A6}{u:A3}{o:Obj}{n:String}{vs:Array A3}{Q:Unit->A5->Prop}(d:s.heap.get? it=_s o)(f:o.cls=.type n)(hd:o.data=.fields vs)
    (hn:["enumerate", "zip", "dict_itemiterator", "dict_reverseitemiterator", "odict_iterator", "itertools.zip_longest", "itertools.pairwise"].contains n=_f) (c:Q () s):B7 M A (T8 tg (.ref it) u) Q E s:=by
  unfold T8;cases tg<;>first
    |exact A7 c
    | (cases u<;>first
        |exact A7 c
        | (refine A0 (wpAny_load d ?_)
           rw[f,hd];show B7 M A (if(["enumerate", "zip", "dict_itemiterator", "dict_reverseitemiterator", "odict_iterator", "itertools.zip_longest", "itertools.pairwise"].contains n&&vs[0]?==_s (O2 _))=_t then _ else _) Q E s;rw[if_neg (by intro h;rw[hn,Bool.false_and]at h;cases h)];exact A7 c))
noncomputable def bG(K:W.Frag)(a:A6):It:=
 ⟨λi H=>∃xs x,Bv K H a xs/\xs[i]?=_s x,λi H x H'=>H'=H/\∀xs,Bv K H a xs->xs[i]?=_s x,λi H=>∃xs,Bv K H a xs/\xs.length<=i⟩
noncomputable def bZ(K:W.Frag)(a:A6):It:=
 ⟨λi H=>∃xs x,DC K H a xs/\xs[i]?=_s x,λi H x H'=>H'=H/\∀xs,DC K H a xs->xs[i]?=_s x,λi H=>∃xs,DC K H a xs/\xs.length<=i⟩
noncomputable def bF(lo:Int)(n:Nat):It:=⟨λi _=>i < n,λi H x H'=>H'=H/\x=.int (lo+i),λi _=>n<=i⟩
theorem LA{K:W.Frag}(a it:A6):Turn P w K tg (bG K a) [it] it (λi h=>h.IsListIter it a i) where
 mem:=by simp
 obj:=λi h st b f=>by
  have e:b=it:=by simpa using f
  subst e;obtain⟨o,e,c,d⟩:=st;exact⟨o,e,λv z=>by rw[d]at z;cases z⟩
 keep:=λi h h' st k=>st.at λo e=>k it `s o e
 item:=by intro X q m r G i pins s σ H E I j st n;subst q m r;obtain⟨xs,x,g,l⟩:=n;obtain⟨N,rv,p,O⟩:=I.list g;obtain⟨u,S,L⟩:=rv.get l;obtain⟨D,C,f2,B,y,t⟩:=j it `s;refine Z4 st p.isList (x:=u) (by simpa using S) λh' F J=>?_;have T:Inv X pins σ H {s with heap:=h' }:=I.turned (t':=s.toks) (λb o f e=>(J.2 b f).trans e) D C B y t;obtain⟨o,e,c,d⟩:=id F;exact⟨u,rfl,Oe (s:={s with heap:=h' }) e c d `d ⟨x,H,T,L,⟨rfl,λys R=>by rw[I.mW R g];exact l⟩,F,λb f=>(j b f).1⟩⟩
 done:=by intro X q m r G i pins s σ H E I j st n;subst q m r;obtain⟨xs,g,l⟩:=n;obtain⟨N,rv,p,O⟩:=I.list g;obtain⟨D,C,f2,B,y,t⟩:=j it `s;have U:=rv.length;exact a9 (I.ok.hd G) st p.isList `w λh' eb=>⟨rfl,I.turned (t':=s.toks) (λb o f e=>eb b o f e) D C B y t⟩
 self:=λ_ _ _ _ _ st h=>wpAny_pyIter_listiter st h
theorem IL{K:W.Frag}(a it:A6):Turn P w K tg (bZ K a) [it] it (λi h=>h.IsTupleIter it a i) where
 mem:=by simp
 obj:=λi h st b f=>by
  have e:b=it:=by simpa using f
  subst e;obtain⟨o,e,c,d⟩:=st;exact⟨o,e,λv z=>by rw[d]at z;cases z⟩
 keep:=λi h h' st k=>st.at λo e=>k it `s o e
 item:=by intro X r n t J i pins s σ H E I j st q;subst r n t;obtain⟨xs,x,g,m⟩:=q;obtain⟨l,rv,p,O⟩:=I.tuple g;obtain⟨u,S,N⟩:=rv.get m;obtain⟨F,D,f2,C,B,y⟩:=j it `s;refine wpAny_pyNext_tuple_item st (show s.heap.IsTuple a l.toArray from p) (x:=u) (by simpa using S) λh' G L=>?_;have T:Inv X pins σ H {s with heap:=h' }:=I.turned (t':=s.toks) (λb o f e=>(L.2 b f).trans e) F D C B y;obtain⟨o,e,c,d⟩:=id G;exact⟨u,rfl,Oe (s:={s with heap:=h' }) e c d `d ⟨x,H,T,N,⟨rfl,λys R=>by rw[I.mF R g];exact m⟩,G,λb f=>(j b f).1⟩⟩
 done:=by intro X r n t J i pins s σ H E I j st q;subst r n t;obtain⟨xs,g,m⟩:=q;obtain⟨l,rv,p,O⟩:=I.tuple g;obtain⟨F,D,f2,C,B,y⟩:=j it `s;have U:=rv.length;exact wpAny_pyNext_tuple_end (I.ok.hd J) st (show s.heap.IsTuple a l.toArray from p) `w λh' eb=>⟨rfl,I.turned (t':=s.toks) (λb o f e=>eb b o f e) F D C B y⟩
 self:=λ_ _ _ _ _ st h=>wpAny_pyIter_tupleiter st h
theorem IM{K:W.Frag}(it:A6)(lo:Int)(n:Nat):Turn P w K tg (bF lo n) [it] it (λi h=>IsRangeIter h it (lo+(i:Nat) * 1) ((n:Int)-(i:Nat)) 1) where
 mem:=by simp
 obj:=λi h st b c=>by
  have e:b=it:=by simpa using c
  subst e;exact⟨_,st,λv z=>by have D:Data.fields _=Data.cell v:=z;cases D⟩
 keep:=λi h h' st k=>k it `s _ st
 item:=by intro X l f m j i pins s σ H E I d st g;subst l f m;obtain⟨B,y,f2,r,q,p⟩:=d it `s;have W:=Walks.range (prog:=X.prog) (w:=X.w) (I.ok.hd j) it lo 1 n;refine W.item i s _ _ g st λv h' tk G C F=>?_;obtain⟨t,rfl⟩:=G;have J:Inv X pins σ H {s with heap:=h',toks:=tk}:=I.turned (λb o c e=>F b o (by simpa using c) e) B y r q p;refine⟨_,rfl,Oe (s:={s with heap:=h',toks:=tk}) (n := "range_iterator") C rfl rfl `d ⟨.int (lo+i),H,J,⟨t,?_⟩,⟨rfl,rfl⟩,C,λb c=>(d b c).1⟩⟩;rw[Int.mul_one]
 done:=by intro X l f m j i pins s σ H E I d st g;subst l f m;obtain⟨B,y,f2,r,q,p⟩:=d it `s;exact wpAny_pyNext_range_end (I.ok.hd j) st (by have:n<=i:=g;omega) λh' eb=>⟨rfl,I.turned (t':=s.toks) (λb o c e=>eb b o c e) B y r q p⟩
 self:=λ_ _ _ _ _ st h=>wpAny_pyIter_rangeiter st h
section
variable{X:Cx}{tg:Expr}
theorem NV{R:It->Hp->Prop}{E:A3->A5->Prop}{lo hi:Int}{t u v:Tok}{tk:Nat}(I:Inv X pins σ H s)(h1:-(2 ^ 62)<=lo)(h2:lo < 2 ^ 62)(h3:-(2 ^ 62)<=hi)(h4:hi < 2 ^ 62)
    (q:R (bF lo (hi-lo).toNat) H):B7 (C0 X.prog X.w) X.A (pyIter (.ref s.heap.objs.size)) (ee X pins σ tg R) E {s with heap:=s.heap.push {cls:=.type "range", data:=.fields #[.int lo t,.int hi u,.int 1 v]},toks:=tk}:=by
  refine wpAny_pyIter_range (IsRange.new ..) (small_one h1 h2 h3 h4) ?_;have c:Inv X pins σ H {s with heap:=s.heap.push {cls:=.type "range", data:=.fields #[.int lo t,.int hi u,.int 1 v]},toks:=tk}:=I.kept λb o e=>B0 _ e;refine⟨(s.heap.push {cls:=.type "range", data:=.fields #[.int lo t,.int hi u,.int 1 v]}).objs.size,[(s.heap.push {cls:=.type "range", data:=.fields #[.int lo t,.int hi u,.int 1 v]}).objs.size],_,_,H,rfl,
    c.kept (t':=tk) λb o e=>B0 _ e,IM _ lo (hi-lo).toNat,?_,λb d=>?_,q⟩
  · have e1:lo+((0:Nat):Int) * 1=lo:=by simp
    have e2:(((hi-lo).toNat:Nat):Int)-((0:Nat):Int)=jP lo hi 1:=by rw[rangeSize_one];split<;>omega
    show IsRangeIter _ _ (lo+((0:Nat):Int) * 1) ((((hi-lo).toNat:Nat):Int)-((0:Nat):Int)) 1;rw[e1,e2];exact E7 _ rfl
  have e:b=(s.heap.push {cls:=.type "range", data:=.fields #[.int lo t,.int hi u,.int 1 v]}).objs.size:=by simpa using d
  subst e;exact c.kA (C7 _) (c.kD.fresh (C7 _))
abbrev aB(ta:TA):TI:=λσ H R=>ta σ H λvs c=>∃j:Int,vs=[.int j]/\-(2 ^ 62)<=j/\j < 2 ^ 62/\R (bF 0 j.toNat) c
theorem LS{a:Expr}{ta:TA}{p:Pos}(f:Gl X "range")(hm:X.mg "range" = _n)(ha:PA X [a] ta)(hs:E5 [a] X.env=[(_f,L7 a X.env)]:=by rfl):PI X tg (.Call (.Name "range" p) [a] [] pos) (aB ta):=by
 intro pins s σ H R I h;refine Call_ (GP I f hm boot_range (U6 (Ah (ha pos pins s σ H _ I h) λus s1 ⟨vs,k,g,d,q1⟩=>?_) hs rfl));obtain⟨j,e,q1,q2,q⟩:=q1;subst e;cases d with|cons r c=>cases c;obtain⟨t,rfl⟩:=r;exact call_range_1 (NV g `o `o q1 q2 (by simpa using q))
abbrev bt(c:TI)(g:TG)(tb:TS):TS:=λD σ H=>c σ H λJ j=>∃W:Nat->Nat->St->Hp->Prop,(∃m,W 0 m σ j)/\∀i m σ H,W i m σ H ->
 (J.stop i H/\D.nx σ H)\/(J.go i H/\∃N:St->Hp->Prop,(∀σ' H',N σ' H'->∃m',m' < m/\W (i+1) m' σ' H')/\∀x H',J.rO i H x H'->g x σ H' λd f=>tb {D with nx:=N,ct:=N,bk:=D.nx} d f)
noncomputable def GN(fp:List A6)(h:F1):List (A6×Obj):=fp.filterMap λb=>(h.get? b).map λo=>(b,o)
theorem Bo{fp:List A6}{o:Obj}(c:b∈fp)(e:h.get? b=_s o):(b,o)∈GN fp h:=gg.mpr ⟨b,c,by rw[e];rfl⟩
theorem LW{fp:List A6}{p:A6×Obj}(c:p∈GN fp h):p.1∈fp/\h.get? p.1=_s p.2:=by
 obtain⟨b,d,e⟩:=gg.mp c;cases q:h.get? b with|none=>rw[q]at e;cases e|some o=>rw[q]at e;have f:(b,o)=p:=B2 e;subst f;exact⟨d,q⟩
theorem Inv.pinned{fp:List A6}(I:Inv X pins σ H s)(hf:∀b∈fp,kF X pins H b)(j:∀b∈fp,∃o,s.heap.get? b=_s o/\∀v,o.data≠.cell v):Inv X (pins++GN fp s.heap) σ H s:=
 I.k4 λp g=>(D8.mp g).elim (λz=>I.pin p (B3 _ z)) λz=>by obtain⟨c,e⟩:=LW z;obtain⟨f0,f1,f2,_⟩:=hf p.1 c;obtain⟨o,f,d⟩:=j p.1 c;rw[e]at f;cases f;exact⟨e,f0,f1,f2,d⟩
theorem Inv.lq{c:List (A6×Obj)}(I:Inv X (pins++c) σ H s):Inv X pins σ H s:=I.k4 λp d=>I.pin p (B3 _ (C2 _ d))
theorem Nf{iter:Expr}{G:TI}{g:TG}{tb:TS}{pos:Pos}(t:Y5 (C0 X.prog X.w) X.A X.env X.xe)(S:X.calm=_t)(hi:PI X tg iter G)(hg:PG X tg g)(j:Be X body tb)
    (hs:∀x,K3 iter X.env x=pure x:=by intro _;rfl):PS X (.For tg iter body [] pos) (bt G g tb):=by
  intro pins s σ H D I h;refine wpAny_For (Ah (hi pins s σ H _ I h) λv s1 h1=>Ah h1 λuI s2 h2=>?_) hs;obtain⟨it,fp,tn,J,H2,e,I2,T,qR,f2,W,⟨m0,w0⟩,BZ⟩:=h2;subst e
  -- yj stays _t of qO qf objects through qO loop
  have C:∀{H':Hp},(∀b∈fp,H' b=_n)->∀b∈fp,kF X pins H' b:=λhn b j=>⟨hn b j,(f2 b j).2⟩;refine codeAny_forLoop_any (λn s'=>∃i σ' H',Inv X pins σ' H' s'/\tn i s'.heap/\(∀b∈fp,H' b=_n)/\W i n σ' H') ?_ m0 ⟨0,σ,H2,I2,qR,λb j=>(f2 b j).1,w0⟩;rintro n O ⟨i,p,y,U,R,K,w3⟩;rcases BZ i n p y w3 with⟨stop,qn⟩|⟨go,N,hN,step⟩
  refine M3 t (Ah (T.done X rfl rfl rfl S i pins O p y X.xe U (C K) R stop) λr s4 ⟨F,I4⟩=>?_);subst F;exact Q8 ⟨p,y,I4,qn⟩;refine M3 t (Ah (T.item X rfl rfl rfl S i pins O p y X.xe U (C K) R go) λr s4 ⟨u,F,h4⟩=>?_);subst F;refine M3 t (Ah h4 λ_ L ⟨x,Y,I5,r5,Z,B,wB⟩=>?_);have wx:=I5.pinned (C wB) (T.obj _ _ B);refine M3 t (Ah (hg _ L p Y x u _ wx r5 (step x Y Z)) λ_ s6 ⟨rE,H6,I6,q6⟩=>?_);refine M3 t (Ah (j _ s6 rE H6 _ I6 q6) λf z q7=>?_);have again:∀{c:St}{l:Hp},Inv X (pins++GN fp L.heap) c l z->N c l->∃m,m < n/\∃i σ' H',Inv X pins σ' H' z/\tn i z.heap/\(∀b∈fp,H' b=_n)/\W i m σ' H':=fun{c l} k q=>by obtain⟨m',hm,w7⟩:=hN c l q;refine⟨m',hm,i+1,c,l,k.lq,T.keep _ _ _ B λb j o e=>(k.pin (b,o) (B3 _ (B3 _ (Bo j e)))).1,λb j=>?_,w7⟩;obtain⟨o,e,d⟩:=T.obj _ _ B b j;exact(k.pin (b,o) (B3 _ (B3 _ (Bo j e)))).2.1
  cases f with|next=>obtain⟨c,l,k,q⟩:=q7;exact again k q|cont=>obtain⟨c,l,k,q⟩:=q7;exact again k q|brk=>obtain⟨c,l,k,q7⟩:=q7;exact⟨c,l,k.lq,q7⟩|ret v=>obtain⟨x7,c,l,k,r7,q7⟩:=q7;exact⟨x7,c,l,k.lq,r7,q7⟩
end
abbrev R2:=V->V->Hp->VK->Prop
def Cs(X:Cx)(f:A3->A3->Sem A3)(r:R2):Prop:=
 ∀(pins:List (A6×Obj))(s:A5)(σ:St)(H:Hp)(x y:V)(v u:A3)(Q:VK),Inv X pins σ H s->RelV x v->RelV y u->r x y H Q ->
  B7 (C0 X.prog X.w) X.A (f v u) (EP X pins σ Q) X.xe s
def dH(X:Cx)(f:A3->Sem A3)(r:V->Hp->VK->Prop):Prop:=
 ∀(pins:List (A6×Obj))(s:A5)(σ:St)(H:Hp)(x:V)(v:A3)(Q:VK),Inv X pins σ H s->RelV x v->r x H Q ->
  B7 (C0 X.prog X.w) X.A (f v) (EP X pins σ Q) X.xe s
def BS(X:Cx)(f:A3)(r:List V->Hp->VK->Prop):Prop:=
 ∀(pins:List (A6×Obj))(s:A5)(σ:St)(H:Hp)(xs:List V)(us:List A3)(Q:VK),Inv X pins σ H s->AH xs us->r xs H Q ->
  B7 (C0 X.prog X.w) X.A (call f us) (EP X pins σ Q) X.xe s
def dI(X:Cx)(r:V->Hp->(Bool->Hp->Prop)->Prop):Prop:=
 ∀(pins:List (A6×Obj))(s:A5)(σ:St)(H:Hp)(x:V)(v:A3)(Q:Bool->Hp->Prop),Inv X pins σ H s->RelV x v->r x H Q ->
  B7 (C0 X.prog X.w) X.A (truthy v) (TP X pins σ Q) X.xe s
abbrev bM(r:R2)(ta tb:TE):TE:=λσ H Q=>ta σ H λx d=>tb σ d λy c=>r x y c Q
abbrev fA(r:V->Hp->VK->Prop)(ta:TE):TE:=λσ H Q=>ta σ H λx c=>r x c Q
def rI(C:Int->Int->Prop)(g:Int->Int->V):R2:=λx y H Q=>∃i j,x=.int i/\y=.int j/\C i j/\Q (g i j) H
def UF(g:Int->Int->V):R2:=λx y H Q=>∃i j,x=.int i/\y=.int j/\Q (g i j) H
def rU(g:Int->V):V->Hp->VK->Prop:=λx H Q=>∃i,x=.int i/\Q (g i) H
variable{r:R2}
section
variable{X:Cx}{a b c:Expr}{ta tb tc:TE}{pos:Pos}
theorem Xw(ha:PE X a ta)(p:PE X b tb){R:V->V->Hp->Prop}(I:Inv X pins σ H s)
    (h:ta σ H λx g=>tb σ g λy d=>R x y d) {Q:A3->A5->Prop} {f:A3->A3->Sem A3}
    (n:∀v u s2 x y d,Inv X pins σ d s2->RelV x v->RelV y u->R x y d->B7 (C0 X.prog X.w) X.A (f v u) Q X.xe s2) :
    B7 (C0 X.prog X.w) X.A (L7 a X.env) (λv m=>B7 (C0 X.prog X.w) X.A (L7 b X.env) (λu l=>B7 (C0 X.prog X.w) X.A (f v u) Q X.xe l) X.xe m) X.xe s:=by
  refine Ah (ha pins s σ H _ I h) λv s1 ⟨x,g,t,k,q1⟩=>?_;refine Ah (p pins s1 σ g _ t q1) λu s2 ⟨y,d,q,j,q2⟩=>?_;exact n v u s2 x y d q k j q2
theorem Nr{op:gD}(g:Cs X (binaryOp op) r)(ha:PE X a ta)(j:PE X b tb):PE X (.BinOp a op b pos) (bM r ta tb):=by intro pins s σ H Q I h;exact wpAny_BinOp (Xw ha j I h λv u s2 x y l k f d q=>g pins s2 σ l x y v u Q k f d q)
theorem Zj{op:UnaryOp}{r:V->Hp->VK->Prop}(f:dH X (unaryOp op) r)(ha:PE X a ta):PE X (.UnaryOp op a pos) (fA r ta):=by intro pins s σ H Q I h;exact UnaryOp_ (Ah (ha pins s σ H _ I h) λv s1 ⟨x,j,g,d,q1⟩=>f pins s1 σ j x v Q g d q1)
theorem bO{f:A3->A3->Sem A3}{C:Int->Int->Prop}{g:Int->Int->Int}
    (rule:∀(i j:Int)(t u:Tok)(s:A5)(Q:A3->A5->Prop)(E:A3->A5->Prop),C i j->Q (.int (g i j) s.toks) {s with toks:=s.toks+1}->B7 (C0 X.prog X.w) X.A (f (.int i t) (.int j u)) Q E s) :
    Cs X f (rI C λi j=>.int (g i j)):=by
  intro pins s σ H x y v u Q I k d h;obtain⟨i,j,rfl,rfl,l,q⟩:=h;obtain⟨t,rfl⟩:=k;obtain⟨t',rfl⟩:=d;exact rule i j t t' s _ _ l ⟨.int (g i j),H,I.tok _,⟨_,rfl⟩,q⟩
theorem cF{f:A3->A3->Sem A3}{g:Int->Int->Int}
    (rule:∀(i j:Int)(t u:Tok)(s:A5)(Q:A3->A5->Prop)(E:A3->A5->Prop),Q (.int (g i j) s.toks) {s with toks:=s.toks+1}->B7 (C0 X.prog X.w) X.A (f (.int i t) (.int j u)) Q E s) :
    Cs X f (UF λi j=>.int (g i j)):=by
  intro pins s σ H x y v u Q I k d h;obtain⟨i,j,rfl,rfl,q⟩:=h;obtain⟨t,rfl⟩:=k;obtain⟨t',rfl⟩:=d;exact rule i j t t' s _ _ ⟨.int (g i j),H,I.tok _,⟨_,rfl⟩,q⟩
theorem Wb{f:A3->A3->Sem A3}{g:Int->Int->Bool}
    (rule:∀(i j:Int)(t u:Tok)(s:A5)(Q:A3->A5->Prop)(E:A3->A5->Prop),Q (.bool (g i j)) s->B7 (C0 X.prog X.w) X.A (f (.int i t) (.int j u)) Q E s) :
    Cs X f (UF λi j=>.bl (g i j)):=by
  intro pins s σ H x y v u Q I k d h;obtain⟨i,j,rfl,rfl,q⟩:=h;obtain⟨t,rfl⟩:=k;obtain⟨t',rfl⟩:=d;exact rule i j t t' s _ _ ⟨.bl (g i j),H,I,rfl,q⟩
def dP(i j:Int):Prop:=0 < j/\j < 1073741824
def dO(i j:Int):Prop:=0<=j/\j<=1000000/\i.natAbs < 2 ^ 64
def Ti(i j:Int):Prop:=(-(2 ^ 64) < i/\i < 2 ^ 64)\/(-(2 ^ 64) < j/\j < 2 ^ 64)
theorem Ti.ok{i j:Int}(h:Ti i j):IntMulOk i j:=by
 rcases h with⟨h1,h2⟩|⟨h1,h2⟩
 exact .of_left (intBits_le_64 h1 h2);exact .of_right (intBits_le_64 h1 h2)
theorem Wa:Cs X (binaryOp .Add) (UF λi j=>.int (i+j)):=cF λ_ _ _ _ _ _ _ q=>add_int q
theorem WX:Cs X (binaryOp .Mult) (rI Ti λi j=>.int (i * j)):=bO λ_ _ _ _ _ _ _ d q=>mul_int q d.ok
theorem Rw:Cs X (binaryOp .FloorDiv) (rI dP λi j=>.int (i / j)):=bO λi j _ _ _ _ _ d q=>by have h1:(0:Int) < j:=d.1;have h2:j < 1073741824:=d.2;exact floordiv_int `o (by rw[Int.fdiv_eq_ediv_of_nonneg i `o];exact q) (.inl (PyProof.noPylong_small `o))
theorem WY:Cs X (binaryOp .Mod) (rI (λ_ j=>0 < j) λi j=>.int (i % j)):=bO λi j _ _ _ _ _ d q=>by have h1:(0:Int) < j:=d;exact mod_int' `o (by rw[Int.fmod_eq_emod_of_nonneg i `o];exact q)
theorem WW:Cs X (binaryOp .Pow) (rI dO λi j=>.int (i ^ j.toNat)):=bO λ_ _ _ _ _ _ _ d q=>pow_int_small d.1 d.2.1 d.2.2 q
theorem ez{f:A3->Sem A3}{g:Int->Int}
    (rule:∀(i:Int)(t:Tok)(s:A5)(Q:A3->A5->Prop)(E:A3->A5->Prop),Q (.int (g i) s.toks) {s with toks:=s.toks+1}->B7 (C0 X.prog X.w) X.A (f (.int i t)) Q E s) :
    dH X f (rU λi=>.int (g i)):=by
  intro pins s σ H x v Q I d h;obtain⟨i,rfl,q⟩:=h;obtain⟨t,rfl⟩:=d;exact rule i t s _ _ ⟨.int (g i),H,I.tok _,⟨_,rfl⟩,q⟩
theorem VN:dH X (unaryOp .USub) (rU λi=>.int (-i)):=ez λ_ _ _ _ _ q=>neg_int q
end
variable{f:A3->A3->Sem A3}
section
variable{X:Cx}{a b c:Expr}{ta tb tc:TE}{pos:Pos}
theorem XE{Q:VK}{k d:Bool}(I:Inv X pins σ H s)(q:Q (.bl k) H)(e:k=d):EP X pins σ Q (.bool d) s:=by subst e;exact⟨.bl k,H,I,rfl,q⟩
theorem Zo:Cs X (N1 .Lt) (UF λi j=>.bl (decide (i < j))):=Wb λ_ _ _ _ _ _ _ q=>lt_int q
theorem Zp:Cs X (N1 .Gt) (UF λi j=>.bl (decide (j < i))):=Wb λ_ _ _ _ _ _ _ q=>gt_int q
theorem Zq:Cs X (N1 .GtE) (UF λi j=>.bl (decide (j<=i))):=Wb λ_ _ _ _ _ _ _ q=>ge_int q
theorem LV:Cs X (N1 .In) (λx y H Q=>∃i j,x=.str i/\y=.str j/\Q (.bl (!(N2 j i 0 j.length 1).isEmpty)) H):=by intro pins s σ H x y v u Q I g d h;obtain⟨i,j,rfl,rfl,q⟩:=h;obtain⟨t,rfl⟩:=g;obtain⟨t',rfl⟩:=d;exact in_str (XE I q rfl)
theorem Cs.or{j:R2}(h:Cs X f r)(h':Cs X f j):Cs X f (λx y H Q=>r x y H Q\/j x y H Q):=by
 intro pins s σ H x y v u Q I g d q;rcases q with q|q
 exact h pins s σ H x y v u Q I g d q;exact h' pins s σ H x y v u Q I g d q
theorem Rt{op:i8}(j:Cs X (N1 op) r)(ha:PE X a ta)(k:PE X b tb)(hm:gT op b=_f):PE X (.Compare a [op] [b] pos) (bM r ta tb):=by intro pins s σ H Q I h;exact wpAny_Compare1 (Xw ha k I h λv u s2 x y m l g d q=>j pins s2 σ m x y v u Q l g d q) hm
abbrev Yp(t:TE):TT:=λσ H Q=>t σ H λx H'=>∃k,x=.bl k/\Q k H'
theorem Rf{op:i8}(l:Cs X (N1 op) r)(ha:PE X a ta)(m:PE X b tb)(hm:gT op b=_f):PT X (.Compare a [op] [b] pos) (Yp (bM r ta tb)):=by
 intro pins s σ H Q I h;refine wpAny_isTrue_Compare1 (Ah (ha pins s σ H _ I h) λv s1 ⟨x,C,q,j,q1⟩=>Ah (m pins s1 σ C _ q q1) λu s2 ⟨y,B,p,g,q2⟩ =>
  Ah (l pins s2 σ B x y v u _ p j g q2) λc D ⟨z,t,n,d,k,e,q3⟩=>?_) hm
 subst e;cases d;exact M4 ⟨t,n,q3⟩
def QZ(K:W.Frag)(x:V)(H:Hp)(k:Bool):Prop:=
 match x with
 |.kB=>k=_f
 |.bl b=>k=b
 |.int i=>k=(i != 0)
 |.str y=>y.length<=sizeLine/\k=((y.length:Int) != 0)
 |.qJ y=>y.size<=sizeLine/\k=((y.size:Int) != 0)
 |.ref p=>(∃xs,Bv K H p xs/\k=!xs.isEmpty)\/(∃xs,DC K H p xs/\k=!xs.isEmpty)\/∃j8,H p=_s (.dK j8)/\k=!j8.isEmpty
 |_=>False
theorem Iv{d:Type}{j8:List (d×V)}{vs:List (d×A3)}(r:KV j8 vs):(!vs.isEmpty)=!j8.isEmpty:=by cases r<;>rfl
theorem Ej{xs:List V}{d:List A3}(r:AH xs d):(!d.toArray.isEmpty)=!xs.isEmpty:=by cases r<;>simp
theorem Ds:(sizeLine:Nat) < 2 ^ 63:=by rw[T6];decide
theorem VS:dI X (λx H Q=>∃k,QZ X.K x H k/\Q k H):=by
 intro pins s σ H x v Q I j h;obtain⟨k,e,q⟩:=h;have F:=Ds;have hs:sizeLine=16777216:=T6;cases x with
 |kB=>cases j;have d:k=false:=e;subst d;exact truthy_none ⟨H,I,q⟩
 |bl b=>cases j;have d:k=b:=e;subst d;exact M4 ⟨H,I,q⟩
 |int i=>obtain⟨t,rfl⟩:=j;have d:k=(i != 0):=e;subst d;exact PySem.P.truthy_int ⟨H,I,q⟩
 |str y=>obtain⟨t,rfl⟩:=j;obtain⟨C,d⟩:y.length<=sizeLine/\k=((y.length:Int) != 0):=e;subst d;exact PySem.P.truthy_str `o ⟨H,I.tok _,q⟩
 |qJ y=>obtain⟨t,rfl⟩:=j;obtain⟨C,d⟩:y.size<=sizeLine/\k=((y.size:Int) != 0):=e;subst d;exact W.truthy_bytes `o ⟨H,I.tok _,q⟩
 |ref p=>
  cases j;have d:(∃xs,Bv X.K H p xs/\k=!xs.isEmpty)\/(∃xs,DC X.K H p xs/\k=!xs.isEmpty)\/∃j8,H p=_s (.dK j8)/\k=!j8.isEmpty:=e;rcases d with⟨xs,l,d⟩|⟨xs,l,d⟩|⟨j8,l,d⟩
  subst d;obtain⟨B,r,n,z⟩:=I.list l;have g:=r.length;exact wpAny_truthy_list n.isList (by simp only[A8];omega) ⟨H,I.tok _,by rw[Ej r];exact q⟩;subst d;obtain⟨B,r,n,z⟩:=I.tuple l;have g:=r.length;exact truthy_tuple n (by simp only[A8];omega) ⟨H,I.tok _,by rw[Ej r];exact q⟩;subst d;obtain⟨z,D,vs,r,m⟩:j8.length<=sizeLine/\(p==R1)=_f/\∃vs,KV j8 vs/\s.heap.DictOf (Ao X.prog X.w) p vs:=I.kD p _ l;have g:j8.length=vs.length:=Paired.length r;exact wpAny_truthy_dict D m `o ⟨H,I.tok _,by rw[Iv r];exact q⟩
 |_=>exact(show False from e).elim
theorem Nc(ha:PE X a ta)(j:∀d,isTrue a X.env d=(do let v <- d;standAt a.pos;Z3 [v] (truthy v))) :
    PT X a (λσ H Q=>ta σ H λx H'=>∃k,QZ X.K x H' k/\Q k H'):=by
  intro pins s σ H Q I h;exact isTrue_plain (Ah (ha pins s σ H _ I h) λv s1 ⟨x,m,l,g,q1⟩=>VS pins s1 σ m x v Q l g q1) (j _)
theorem Ig:Cs X (binaryOp .Add) (λx y H Q=>∃i j,x=.str i/\y=.str j/\i.length+j.length<=sizeLine/\Q (.str (i++j)) H):=by intro pins s σ H x y v u Q I g d h;obtain⟨i,j,rfl,rfl,k,q⟩:=h;obtain⟨t,rfl⟩:=g;obtain⟨t',rfl⟩:=d;exact add_str (λt' tk=>⟨.str (i++j),H,I.tok _,⟨_,rfl⟩,q⟩) k
theorem vals1{x:V}(r:AH [x] us):∃u,us=[u]/\RelV x u:=by
 cases r with|cons g d=>cases d;exact⟨_,rfl,g⟩
theorem Yg{x y:V}(r:AH [x,y] us):∃u d,us=[u,d]/\RelV x u/\RelV y d:=by
 cases r with
 |cons l k=>
  cases k with|cons j g=>cases g;exact⟨_,_,rfl,l,j⟩
theorem MG(g:X.calm=_t):BS X (.builtin "max") (λxs H Q=>∃i j,xs=[.int i,.int j]/\Q (.int (if j > i then j else i)) H):=by intro pins s σ H xs us Q I r h;obtain⟨i,j,rfl,q⟩:=h;obtain⟨u,l,rfl,⟨t,rfl⟩,⟨t',rfl⟩⟩:=Yg r;refine max_two_ints (I.ok.hd g) λh' tk k=>⟨_,H,I.kept k,?_,q⟩;by_cases d:j > i;rw[if_pos d,if_pos d];exact⟨_,rfl⟩;rw[if_neg d,if_neg d];exact⟨_,rfl⟩
def bE(K:W.Frag)(x:V)(H:Hp)(n:Nat):Prop:=
 match x with
 |.str y=>y.length<=sizeLine/\n=y.length
 |.qJ y=>y.size<=sizeLine/\n=y.size
 |.ref p=>(∃xs,Bv K H p xs/\n=xs.length)\/∃xs,DC K H p xs/\n=xs.length
 |_=>False
theorem Pf:BS X (.builtin "len") (λxs H Q=>∃x n,xs=[x]/\bE X.K x H n/\Q (.int n) H):=by
 intro pins s σ H xs us Q I r h;obtain⟨x,n,rfl,e,q⟩:=h;obtain⟨u,rfl,j⟩:=vals1 r;have D:=Ds;have hs:sizeLine=16777216:=T6;cases x with
 |str y=>obtain⟨t,rfl⟩:=j;obtain⟨C,g⟩:y.length<=sizeLine/\n=y.length:=e;subst g;exact len_str `o ⟨.int _,H,I.tok _,⟨_,rfl⟩,q⟩
 |qJ y=>obtain⟨t,rfl⟩:=j;obtain⟨C,g⟩:y.size<=sizeLine/\n=y.size:=e;subst g;exact W.len_bytes `o ⟨.int _,H,I.tok _,⟨_,rfl⟩,q⟩
 |ref p=>
  cases j;have g:(∃xs,Bv X.K H p xs/\n=xs.length)\/∃xs,DC X.K H p xs/\n=xs.length:=e;rcases g with⟨xs,m,g⟩|⟨xs,m,g⟩
  subst g;obtain⟨z,k,l,B⟩:=I.list m;have d:=k.length;exact Calls.call_len_list l.isList (by simp only[A8];omega) ⟨.int xs.length,H,I.tok _,⟨_,by simp only[A8];rw[d]⟩,q⟩;subst g;obtain⟨z,k,l,B⟩:=I.tuple m;have d:=k.length;exact len_tuple l (by simp only[A8];omega) ⟨.int xs.length,H,I.tok _,⟨_,by simp only[A8];rw[d]⟩,q⟩
 |_=>exact(show False from e).elim
end
structure pf (h:F1) (x dx C:A6) (mA:Str->Option A3):Prop where
 obj:h.get? x=_s (W.instObj C dx)
 ns:h.Ns1 dx mA
 ne:dx≠x
theorem Dr{dx:A6}{mA:Str->Option A3}(n:h.Ns1 dx mA):∃od,h.get? dx=_s od/\∀name,W.lookIn name od=_s (mA name):=by
  obtain⟨o,es,l,g,hd,j,_,hm⟩:=n;refine⟨o,g,λname=>?_⟩;have e:=hm name;unfold nsFind findBy at e;rw[<- Array.find?_toList]at e;unfold W.lookIn;rw[hd];dsimp only;split;rename_i y q;rw[q]at e;exact congrArg _s e;rename_i q;rw[q]at e;have a:es.toList.any (·.refKey)=false:=by rw[List.any_eq_false];intro y d;obtain⟨z,t,c⟩:=j y (Array.mem_toList_iff.mp d);simp[DictEntry.refKey,c]
  have k:¬es.toList.any (·.refKey)=true:=by rw[a];exact B4
  rw[if_neg k];exact congrArg _s e
variable{C:A6}
theorem pf.look{x dx:A6}{mA:Str->Option A3}(I:pf h x dx C mA):∃od,W.InstAt h x (W.instObj C dx) C (_s od)/\∀name,W.lookIn name od=_s (mA name):=
 let ⟨od,ho,hl⟩:=Dr I.ns
 ⟨od,⟨I.obj,rfl,rfl,ho⟩,hl⟩
section
variable{prog:D4}{w:E8}{A:F2}{E:A3->A5->Prop}{s:A5}{K:W.Frag}{x dx C f:A6}{mA:Str->Option A3}{name:Str}{v:A3}
theorem SX{expr:Bool}{Q:A3->A5->Prop}(X:K.In s.heap)(I:pf s.heap x dx C mA)(k:W.plainGet K C name=_t)(j:W.hasDictIn K C=_t)
    (ha:W.findIn K (.ref C) name=_s _n) (d:mA name=_s v) (c:W.handedIn v=_t) (h:Q v {s with toks:=s.toks+1}) :
    B7 (C0 prog w) A (iu (.ref x) name expr) Q E s:=by
  obtain⟨od,J,g⟩:=I.look;exact W.get_value X J (W.plainGet_of k).1 (W.findObj_own j ha rfl (by rw[g,d])) c h
end
theorem FC.some_of{o:Option A3}(r:FC (_s v) o):∃u,o=_s u/\RelV v u:=by
 cases o with|none=>exact(show False from r).elim|some u=>exact⟨u,rfl,r⟩
theorem Fh(r:RelV v u):W.handedIn u=true:=by
 cases v with|kB=>cases(show u=K5 from r);rfl|bl b=>cases(show u=iy b from r);rfl|int i=>obtain⟨t,e⟩:=(show ∃t,u=iJ i t from r);cases e;rfl|str x=>obtain⟨t,e⟩:=(show ∃t,u=iK x t from r);cases e;rfl|qJ b=>obtain⟨t,e⟩:=(show ∃t,u=jd b t from r);cases e;rfl|uV b=>obtain⟨t,e⟩:=(show ∃t,u=je b t from r);cases e;rfl|ref a=>cases(show u=D9 a from r);rfl|ty n=>cases(show u=Z2 n from r);rfl
section
variable{P:D4}{w:E8}{H H':Hp}{h h':F1}{a C dx:A6}{fs nT:List (Str×V)}
theorem SV(kD:Cn P w H h)(e:H a=_s (.ins C dx fs)):∃mA,pf h a dx C mA/\(∀f,FC (fs.lookup f) (mA f))/\jT mA (fs.map (·.1))/\fs.length<=1000/\H dx=_s (.own a):=by obtain⟨d,z,ne,c,mA,n,r,q⟩:=(show Ap P w H h a (.ins C dx fs)from kD a _ e);exact⟨mA,⟨c,n,ne⟩,r,q,z,d⟩
end
structure rM (K:W.Frag) (C:A6):Prop where
 pg:W.plainGet K C Str.empty=_t
 hd:W.hasDictIn K C=_t
 po:W.plainOver K C=_t
 sa:W.findIn K (.ref C) "__setattr__" = _s (_s (.builtin "object.__setattr__"))
theorem rM.get{K:W.Frag}(c:rM K C)(f:Str):W.plainGet K C f=true:=c.pg
def Gh(K:W.Frag)(C:A6)(f:Str):Prop:=W.findIn K (.ref C) f=_s _n
structure Meth (K:W.Frag) (C:A6) (m:Str) (f:A6):Prop where
 at_:W.findIn K (.ref C) m=_s (_s (.ref f))
 fn:W.isFn K (.ref f)=_t
 kp:W.keepIn K (.ref f)=_t
section
variable{X:Cx}{pins:List (A6×Obj)}{σ:St}{H:Hp}{s:A5}{a C dx:A6}{fs:List (Str×V)}{f:Str}{v:V}{A:F2}{E:A3->A5->Prop}
theorem JA{b:Bool}{Q:A3->A5->Prop}(I:Inv X pins σ H s)(e:H a=_s (.ins C dx fs))(c:rM X.K C)(n:Gh X.K C f)(l:fs.lookup f=_s v)
    (h:∀u s',Inv X pins σ H s'->RelV v u->Q u s'):B7 (C0 X.prog X.w) A (iu (.ref a) f b) Q E s:=by
  obtain⟨mA,O,r,_,_,_⟩:=SV I.kD e;obtain⟨u,g,d⟩:=FC.some_of (v:=v) (o:=mA f) (by rw[<- l];exact r f);exact SX I.lN O (c.get f) c.hd n g (Fh d) (h u _ (I.tok _) d)
theorem Kn{prog:D4}{w:E8}{env:Env}{f:Str}{pos:Pos}{s:A5}{Q:A3->A5->Prop}(d:L0 e f env (L7 e env)=L7 e env)
    (h:B7 (C0 prog w) A (L7 e env) (λo c=>B7 (C0 prog w) A (iu o f _t) Q E c) E s):B7 (C0 prog w) A (L7 (.Attribute e f pos) env) Q E s:=
  Attribute_any_ h (by rw[arm_eval_Attribute,d])
end
def RE(K:W.Frag)(ta:TE)(f:Str):TE:=λσ H Q=>ta σ H λx c=>∃a C dx fs v,x=.ref a/\c a=_s (.ins C dx fs)/\rM K C/\Gh K C f/\fs.lookup f=_s v/\Q v c
section
variable{X:Cx}{o e value:Expr}{f:Str}{pos pos' mq:Pos}{ta tv:TE}
theorem Nv(j:PE X e ta)(k:L0 e f X.env (L7 e X.env)=L7 e X.env):PE X (.Attribute e f pos) (RE X.K ta f):=by intro pins s σ H Q I h;refine Kn k (Ah (j pins s σ H _ I h) λu s1 ⟨x,y,t,d,a,C,dx,fs,v,ex,m,c,n,l,q⟩=>?_);subst ex;obtain rfl:u=D9 a:=d;exact JA t m c n l λz s2 p g=>⟨v,y,p,g,q⟩
end
structure kG (k:Nat) (A:F2):Prop where
 hd:A.handled=_n
 dp:A.depth+3 * k+5 < recursionLimit
 un:A.units+16 * k+200 < O8
 gd:A.guards=_s []
variable{k:Nat}
theorem kG.mono{j:Nat}(r:kG k A)(h:j<=k):kG j A:=⟨r.hd,by have:=r.dp;omega,by have:=r.un;omega,r.gd⟩
theorem kG.deeper(r:kG (k+1) A)(env:Env):kG k (A.deeper env):=
 ⟨r.hd,by have:=r.dp;show A.depth+1+3 * k+5 < _;omega,by have:=r.un;show A.units+3+16 * k+200 < _;omega,r.gd⟩
theorem Im{c:List (Str×A3)}:(A.under (.builtin "type.__call__" ⟨.ref C::us,c⟩)).depth=A.depth+1:=by first|rfl|simp[U7,Code.weight,Code.isCreation,gz,Code.isCaller,jg,g7,guardIds]
theorem Il{c:List (Str×A3)}:(A.under (.builtin "type.__call__" ⟨.ref C::us,c⟩)).units=A.units+1:=by first|rfl|simp[U7,Code.cUnits,jg,g7]
theorem kG.make(r:kG (k+1) A)(C:A6)(us:List A3)(kw:List (Str×A3)):kG k (A.under (.builtin "type.__call__" ⟨.ref C::us,kw⟩)):=
 ⟨r.hd,by have:=r.dp;rw[Im];omega,by have:=r.un;rw[Il];omega,by
 have e:(A.under (.builtin "type.__call__" ⟨.ref C::us,kw⟩)).guards=A.guards:=by first|rfl|(simp only[U7,jh,gz];cases A.guards<;>simp[pushGuards,guardIds])|simp[U7,jh,gz,guardIds,pushGuards]
 rw[e];exact r.gd⟩
theorem kG.depth(r:kG k A):A.depth < recursionLimit:=by have:=r.dp;omega
abbrev RD:TA:=λ_ H Q=>Q [] H
abbrev Tt(ta:TE)(tr:TA):TA:=λσ H Q=>ta σ H λx d=>tr σ d λxs c=>Q (x::xs) c
section
variable{X:Cx}{e:Expr}{es:List Expr}{te:TE}{t:TA}{pos:Pos}
theorem Dp:PA X [] RD:=λ_ _ _ _ H Q I h=>Calls.spliced_nil ⟨[],H,I,.nil,h⟩
theorem Ai(ha:PE X e te)(g:PA X es t)(hs:E5 (e::es) X.env=(_f,L7 e X.env)::E5 es X.env:=by rfl):PA X (e::es) (Tt te t):=by intro pos pins s σ H Q I h;rw[hs];show B7 _ _ (spliced ((_f,L7 e X.env)::R8 pos (E5 es X.env))) _ _ s;refine Calls.spliced_cons (Ah (ha pins s σ H _ I h) λu s1 ⟨x,n,l,d,q1⟩=>?_);exact Ah (g pos pins s1 σ n _ l q1) λus s2 ⟨xs,m,j,c,q2⟩=>⟨x::xs,m,j,.cons d c,q2⟩
abbrev bj(t:TA):TE:=λσ H Q=>t σ H λxs c=>xs.length<=sizeLine/\∀p,c p=_n->Q (.ref p) (upd c p (.tup xs))
abbrev bq(t:TA):TE:=λσ H Q=>t σ H λxs c=>xs.length<=sizeLine/\∀p,c p=_n->Q (.ref p) (upd c p (.lst xs))
theorem WM{x1}(h:PA X es t):PE X (.Tuple es x1 pos) (bj t):=by intro pins s σ H Q I g;refine wpAny_Tuple_spliced (Ah (h pos pins s σ H _ I g) λus s1 ⟨xs,d,c,r,z,q⟩=>⟨by rw[<- r.length];exact z,?_⟩);have j:d s1.heap.objs.size=none:=c.kD.fresh (C7 _);refine⟨.ref s1.heap.objs.size,upd d s1.heap.objs.size (.tup xs),c.laid (t':=s1.toks) (λb u e=>B0 _ e) (C7 _) ?_,rfl,q _ j⟩;exact⟨z,us,r,⟨_,E7 _ rfl,rfl,rfl,_,rfl⟩⟩
theorem Do(h:PA X es t):PE X (.List es pos) (bq t):=by intro pins s σ H Q I g;refine wpAny_List_spliced (Ah (h pos pins s σ H _ I g) λus s1 ⟨xs,d,c,r,z,q⟩=>⟨by rw[<- r.length];exact z,?_⟩);have j:d s1.heap.objs.size=none:=c.kD.fresh (C7 _);refine⟨.ref s1.heap.objs.size,upd d s1.heap.objs.size (.lst xs),c.laid (t':=s1.toks) (λb u e=>B0 _ e) (C7 _) ?_,rfl,q _ j⟩;exact⟨z,us,0,r,E7 _ rfl⟩
end
abbrev Sp:=List V->Hp->VK->XK->Prop
abbrev MX:=List Env->Hp->A5->XK->A3->A5->Prop
structure m9 (P:D4) (w:E8) (K:W.Frag) (mg:Str->Option A3) (base:F1) (A:F2) (outer:List Env) (s:A5) (H:Hp):Prop where
 frames:A.frames=_s outer
 mod:Mod K mg base
 bs:∀b o,base.get? b=_s o->s.heap.get? b=_s o/\H b=_n
 oB:base.objs.size<=s.heap.objs.size
 lI:s.heap.FunFrames base outer
 pV:∀b∈EI outer,H b=_n
 kD:Cn P w H s.heap
 bare:U5 s.gens
def CE(outer:List Env)(P:D4)(w:E8)(H:Hp)(s:A5)(Q:VK)(u:A3)(s':A5):Prop:=
 ∃v H',s'.os=s.os/\U5 s'.gens/\Un (EI outer) [] H H' s.heap s'.heap/\Cn P w H' s'.heap/\RelV v u/\Q v H'
def CR(CX:MX)(outer:List Env)(P:D4)(w:E8)(H:Hp)(s:A5)(Q:VK)(E:XK)(r:Result)(s':A5):Prop:=
 match r with
 |.ok (.ret u)=>CE outer P w H s Q u s'
 |.ok _=>False
 |.error e=>CX outer H s E e s'
structure kL (P:D4) (w:E8) (K:W.Frag) (mg:Str->Option A3) (base:F1) (CX:MX) (k:Nat) (f:A6) (fd:G4) (ps:List Str) (sp:Sp):Prop where
 len:∀vs H Q E,sp vs H Q E->vs.length=ps.length
 run:∀(A:F2)(outer:List Env)(s:A5)(H:Hp)(args:Args)(us:List A3)(vs:List V)(Q:VK)(E:XK),kG k A->m9 P w K mg base A outer s H->g8 s fd args (ps.zip us)->AH vs us->sp vs H Q E ->
  X0 (C0 P w) A (.call (.ref f) args) (CR CX outer P w H s Q E) s
variable{mg:Str->Option A3}{base:F1}
theorem kL.imp{K:W.Frag}{CX:MX}{f:A6}{fd:G4}{ps:List Str}{sp c:Sp}(F:kL P w K mg base CX k f fd ps sp)
    (h:∀vs H Q E,c vs H Q E->sp vs H Q E):kL P w K mg base CX k f fd ps c:=
  ⟨λvs H Q E q=>F.len vs H Q E (h _ _ _ _ q),λA outer s H args us vs Q E g he j d hs=>F.run A outer s H args us vs Q E g he j d (h _ _ _ _ hs)⟩
theorem m9.make{K:W.Frag}{outer:List Env}(e:m9 P w K mg base A outer s H)(C:A6)(us:List A3)(kw:List (Str×A3)) :
    m9 P w K mg base (A.under (.builtin "type.__call__" ⟨.ref C::us,kw⟩)) outer s H:=⟨by first|exact e.frames|(simpa[U7,Code.envs,g7,pushEnvs]using e.frames),e.mod,e.bs,e.oB,e.lI,e.pV,e.kD,e.bare⟩
section
variable{X:Cx}{pins:List (A6×Obj)}{σ:St}{H:Hp}{s s':A5}
theorem Inv.pX(I:Inv X pins σ H s):m9 X.prog X.w X.K X.mg X.base X.A X.stack s H:=
 ⟨I.ok.frames,I.ok.mod,I.bs,C3 I.ok.oB I.sz,I.stack,I.lg,I.kD,I.bare⟩
theorem Inv.after{Q:VK}(I:Inv X pins σ H s)(h:CE X.stack X.prog X.w H s Q u s'):EP X pins σ Q u s':=by obtain⟨v,H',os,bare,un,kD,r,q⟩:=h;obtain⟨j,g,d,t,c⟩:=s';obtain rfl:c=s.os:=os;exact⟨v,H',I.call (h':=j) (g':=g) (d':=d) (t':=t) (ch:=[]) un kD bare (λb z=>absurd z `s),r,q⟩
end
abbrev Tu(sp:Sp)(c:List V)(E:XK)(t:TA):TE:=λσ H Q=>t σ H λvs d=>sp (vs++c) d Q E
def Binds(K:W.Frag)(fd:G4)(ps:List Str)(ds:List A3):Prop:=
 ∀(s:A5)(us:List A3),K.In s.heap->(us++ds).length=ps.length->g8 s fd ⟨us,[]⟩ (ps.zip (us++ds))
theorem Binds.all{K:W.Frag}{fd:G4}{ps:List Str}(h:∀us:List A3,us.length=ps.length->i9 fd ⟨us,[]⟩=pure (ps.zip us)):Binds K fd ps []:=λs us _ c=>by rw[F8]at c ⊢;exact .of_eq (h us c)
def FD(CX:MX)(X:Cx)(E:XK):Prop:=∀(pins:List (A6×Obj))(σ:St)(H:Hp)(s:A5)(e:A3)(s':A5),Inv X pins σ H s->CX X.stack H s E e s'->X.xe e s'
section
variable{X:Cx}{CX:MX}{k:Nat}{f C:A6}{fd:G4}{ps:List Str}{sp:Sp}{pG:List V}{ds:List A3}{E:XK}{x m:Str}{p pos apos:Pos}{e o:Expr}{es:List Expr}{ta:TE}{t:TA}
theorem NT{pins:List (A6×Obj)}{σ:St}{H:Hp}{s:A5}{Q:VK}{us:List A3}{vs:List V}(F:kL X.prog X.w X.K X.mg X.base CX k f fd ps sp)(j:kG k X.A)(n:Binds X.K fd ps ds)(hd:AH pG ds)(g:FD CX X E)
    (I:Inv X pins σ H s) (r:AH vs us) (h:sp (vs++pG) H Q E):B7 (C0 X.prog X.w) X.A (call (.ref f) us) (EP X pins σ Q) X.xe s:=by
  have d:AH (vs++pG) (us++ds):=r.append hd;have l:(us++ds).length=ps.length:=by rw[<- d.length];exact F.len _ _ _ _ h
  refine R3 (S0 (F.run X.A X.stack s H ⟨us,[]⟩ (us++ds) (vs++pG) Q E j I.pX (n s us I.lN l) d h) λr s' c=>?_);cases r with
  |error e=>exact g pins σ H s e s' I c
  |ok fl=>
    cases fl with|ret u=>exact I.after c|next=>exact C9 c|brk=>exact C9 c|cont=>exact C9 c
theorem Ru(F:kL X.prog X.w X.K X.mg X.base CX k f fd ps sp)(l:kG k X.A)(y:Gl X x)(hm:X.mg x=_s (.ref f))(n:W.keepIn X.K (.ref f)=_t)(B:Binds X.K fd ps ds)(hd:AH pG ds)(j:FD CX X E)
    (ha:PA X (e::es) t) (g:(x==("__debug__" : Str))=false:=by decide) (z:E5 (e::es) X.env=(_f,L7 e X.env)::E5 es X.env:=by rfl) (d:(R8 pos (E5 es X.env)).any (·.1)=false:=by rfl) :
    PE X (.Call (.Name x p) (e::es) [] pos) (Tu sp pG E t):=by
  intro pins s σ H Q I h;refine K2 (Bq I y hm ?_ g);refine W.callWith_K (h₀:=X.base) I.ok.mod.sL n (Ah (ha pos pins s σ H _ I h) λus s1 ⟨vs,D,c,r,q⟩=>⟨c.lN,?_⟩) z d;exact NT F l B hd j c r q
theorem Nx(F:kL X.prog X.w X.K X.mg X.base CX k f fd ps sp)(g:kG k X.A)(l:Gl X x)(hm:X.mg x=_s (.ref f))(j:W.keepIn X.K (.ref f)=_t)(n:Binds X.K fd ps ds)(hd:AH pG ds)(d:FD CX X E)
    (c:(x==("__debug__" : Str))=false:=by decide):PE X (.Call (.Name x p) [] [] pos) (Tu sp pG E RD):=by
  intro pins s σ H Q I h;refine K2 (Bq I l hm ?_ c);exact W.callWith_K0 I.lN j (NT (us:=[]) F g n hd d I .nil h)
structure Mk (K:W.Frag) (C f:A6):Prop where
 makes:W.makesIn K C=_t
 init:W.findIn K (.ref C) "__init__" = _s (_s (.ref f))
 fn:W.isFn K (.ref f)=_t
 kp:W.keepIn K (.ref C)=_t
end
structure ko (N P:List Str) (sc:G9):Prop where
 kind:sc.kind=.function
 co:sc.isCoroutine=_f
 gen:sc.isGenerator=_f
 nd:N.Nodup
 pre:N.take P.length=P
 par:∀x∈P,sc.names.lookup x=_s .local\/sc.names.lookup x=_s .cell
 qa:∀y∈sc.names,y.2≠.free
theorem Fo{kindOf:Str->Option NameKind}{x:Str}:∀{binds:List (Str×A3)}{m:Str->Option A3},(∀v,(x,v)∉binds)->jA kindOf binds m x=m x
 |[],_,_=>rfl
 |(n,v)::r,m,h=>by
  unfold jA;rw[Fo λw c=>h w (B5 _ c)];split;have:x≠n:=by rintro rfl;exact h v B8
  simp[this];rfl
theorem Fu{kindOf:Str->Option NameKind}{x:Str}:∀{binds:List (Str×A3)}{m:Str->Option A3},(∀v,(x,v)∉binds)->jB kindOf binds m x=m x
 |[],_,_=>rfl
 |(n,v)::r,m,h=>by
  unfold jB;rw[Fu λw c=>h w (B5 _ c)];split;rfl;have:x≠n:=by rintro rfl;exact h v B8
  simp[this]
theorem Ft{kindOf:Str->Option NameKind}{v:A3}:∀{P:List Str}{vs:List A3}{i:Nat}{m:Str->Option A3},P.Nodup->P[i]?=_s x->vs[i]?=_s v->kindOf x=_s .local ->
    jA kindOf (P.zip vs) m x=_s v
  |[],_,_,_,_,h,_,_=>by simp at h
  |_::_,[],_,_,_,_,h,_=>by simp at h
  |p::P,w::vs,0,m,nd,h1,h2,c=>by simp at h1 h2;subst h1;subst h2;show jA kindOf ((p,w)::P.zip vs) m p=_;unfold jA;rw[Fo λv d=>(Q9.mp nd).1 (a6 d).1,if_pos c];simp
  |p::P,w::vs,i+1,m,nd,h1,h2,c=>by show jA kindOf ((p,w)::P.zip vs) m x=_;unfold jA;exact Ft (i:=i) (Q9.mp nd).2 (by simpa using h1) (by simpa using h2) c
theorem Fv{kindOf:Str->Option NameKind}{v:A3}:∀{P:List Str}{vs:List A3}{i:Nat}{m:Str->Option A3},P.Nodup->P[i]?=_s x->vs[i]?=_s v->kindOf x≠_s .local ->
    jB kindOf (P.zip vs) m x=_s v
  |[],_,_,_,_,h,_,_=>by simp at h
  |_::_,[],_,_,_,_,h,_=>by simp at h
  |p::P,w::vs,0,m,nd,h1,h2,c=>by simp at h1 h2;subst h1;subst h2;show jB kindOf ((p,w)::P.zip vs) m p=_;unfold jB;rw[Fu λv d=>(Q9.mp nd).1 (a6 d).1,if_neg c];simp
  |p::P,w::vs,i+1,m,nd,h1,h2,c=>by show jB kindOf ((p,w)::P.zip vs) m x=_;unfold jB;exact Fv (i:=i) (Q9.mp nd).2 (by simpa using h1) (by simpa using h2) c
def start(N:List Str)(vs:List V):St:=vs.map _s++E6 (N.length-vs.length) _n
def DT(CX:MX)(P:D4)(w:E8)(K:W.Frag)(mg:Str->Option A3)(base:F1)(N:List Str)(qual:Str)(scope:G9)(f:A6)(c:A3)(A:F2)(outer:List Env)(s:A5)(H:Hp)(E:XK):Cx where
 prog:=P
 w:=w
 K:=K
 mg:=mg
 base:=base
 A:=A.deeper (gE qual scope s.heap.objs.size f c)
 N:=N
 kP:=s
 H₀:=H
 env:=gE qual scope s.heap.objs.size f c
 outer:=outer
 stack:=gE qual scope s.heap.objs.size f c::outer
 ex:=[]
 calm:=_t
 fn:=λ_=>_t
 pn:=[]
 xe:=λe s'=>B7 (C0 P w) (A.deeper (gE qual scope s.heap.objs.size f c)) (leaving (gE qual scope s.heap.objs.size f c) e) (λ_ d=>CX outer H s E e d) (λg d=>CX outer H s E g d) s'
theorem Hk{sc:G9}{n:Nat}(h:sc.names.lookup x=_s .cell):∃c,(J4 n sc.names []).lookup x=_s c:=by have q:=W.cellsFrom_some sc.names n [] (.inl h);exact M6.mp q
theorem Ln{CX:MX}{P:D4}{w:E8}{K:W.Frag}{mg:Str->Option A3}{base:F1}{N ps:List Str}{qual:Str}{scope:G9}{f:A6}{l:A3}{A:F2}{outer:List Env}{s s1:A5}{H:Hp}{E:XK}{us:List A3}{vs:List V}
    (S:ko N ps scope) (hd:A.handled=_n) (d:m9 P w K mg base A outer s H) (G:vs.length=ps.length) (r:AH vs us)
    (x:InCallC s s.heap.objs.size (jA (gE qual scope s.heap.objs.size f l).kindOf (ps.zip us) λ_=>_n) (J4 (s.heap.objs.size+1) scope.names []) (jB (gE qual scope s.heap.objs.size f l).kindOf (ps.zip us) λ_=>_n) s1) :
    Inv (DT CX P w K mg base N qual scope f l A outer s H E) [] (start N vs) H s1:=by
  have F:ps.length<=N.length:=by have:=congrArg X1 S.pre;rw[N3]at this;omega
  obtain⟨h1,tk,rfl,D⟩:=x.done;have m:∀b:A6,b∉(DT CX P w K mg base N qual scope f l A outer s H E).ex:=λb z=>absurd (show b∈([]:List A6)from z) `s;refine⟨⟨d.mod,S.kind,rfl,rfl,C7 _,λy z c h1 h2=>?_,λy g=>?_,λy c _ h=>?_,λ_=>hd,Around.frames_deeper d.frames,.inr ⟨rfl,rfl⟩,λb z=>absurd z (m b),d.bs,d.oB,λb _ _=>m b,λb z=>absurd z (m b),d.lI,d.pV⟩,
    rfl,d.bare,Un.kept D,⟨_,x.toInCall.ns,λi y v h1 h2 h3=>?_⟩,λy c h=>⟨_,x.cell y c h⟩,d.kD.fresh (C7 _),λy c h=>?_,λp j=>absurd (show p∈([]:List (A6×Obj))from j) `s,d.kD.kept D,?_⟩
  exact name_of_addr x.apart (E1 h1) (E1 h2);have g:scope.names.lookup y=_s .cell\/scope.names.lookup y=_s .free:=g;rcases g with g|g
  exact Hk g;exact absurd rfl (S.qa _ (E1 g));exact gv (x.above y c (E1 h));have hi:i < vs.length:=by unfold start at h2;by_cases hi:i < vs.length;exact hi;rw[V6 (by simpa using hi)]at h2;rw[Y6]at h2;split at h2<;>cases h2
  have ha:vs[i]?=_s v:=by
    unfold start at h2;rw[G0 (by simpa using hi),C4]at h2;cases e:vs[i]? with|none=>rw[e]at h2;cases h2|some a=>rw[e]at h2;cases h2;rfl
  obtain⟨u,B,rv⟩:=r.get ha;have j:ps[i]?=_s y:=by rw[<- S.pre,X8 `o];exact h1
  have t:ps.Nodup:=by rw[<- S.pre];exact S.nd.sublist (List.take_sublist _ _)
  refine⟨u,rv,?_⟩;rcases S.par y (J5 j)with k|k
  exact .inl ⟨k,Ft t j B k⟩;obtain⟨c,e⟩:=Hk (n:=s.heap.objs.size+1) k;refine .inr ⟨.inl k,c,e,?_⟩;have q:=x.cell y c e;rw[Fv t j B (by show scope.names.lookup y≠_;rw[k];decide)]at q;exact q;exact d.kD.fresh (gv (x.above y c (E1 h)));unfold start;show _=N.length;rw[G2,D1,List.length_replicate];omega
theorem UX{CX:MX}{P:D4}{w:E8}{K:W.Frag}{mg:Str->Option A3}{base:F1}{k:Nat}{f:A6}{name qual:Str}{c:Arguments}{body:List F0}{scope:G9}{p kV doc pm kY ct oc:A3}{an od:Option A6}
    {pM:Array (Option A3)} {N ps:List Str} {sp:Sp} (lk:K.lookup f=_s ⟨oc,od,.func (W.fnOf name qual c body scope p kV doc pm an kY ct),pM⟩) (D:W.codeIn K kY qual=_t) (S:ko N ps scope)
    (len:∀vs H Q E,sp vs H Q E->vs.length=ps.length)
    (F:∀(A:F2)(outer:List Env)(s:A5)(H:Hp)(vs:List V)(Q:VK)(E:XK),kG k (A.deeper (gE qual scope s.heap.objs.size f kY))->sp vs H Q E ->
      ∃t,Be (DT CX P w K mg base N qual scope f kY A outer s H E) body t/\t {nx:=λ_ H'=>Q .kB H',rt:=Q} (start N vs) H) :
    kL P w K mg base CX (k+1) f (W.fnOf name qual c body scope p kV doc pm an kY ct) ps sp:=by
  refine⟨len,λA outer s H args us vs Q E l g U r m=>?_⟩;have R:=len _ _ _ _ m;have z:K.In s.heap:=g.mod.sL.keeps λb o e=>(g.bs b o e).1;have j:s.heap.NoLimit:=g.mod.nolimit.keeps λb o e=>(g.bs b o e).1;have B:∀y∈ps.zip us,scope.names.lookup y.1=_s .local\/(scope.names.lookup y.1=_s .cell/\((J4 (s.heap.objs.size+1) scope.names []).lookup y.1).isSome=_t):=fun⟨n,v⟩ G=>by
    rcases S.par n (a6 G).1 with q|q
    exact .inl q;exact .inr ⟨q,W.cellsFrom_some _ _ _ (.inl q)⟩
  refine codeAny_call_function l.depth (z _ _ lk) rfl S.co S.gen rfl (W.codeRec_of z D) (U _ _ _ _ ?_);refine wpAny_newFunctionEnv_cells S.kind B λenv T s1 x=>?_;subst T;refine⟨j.keeps x.toInCall.keep,codeAny_func ?_⟩;obtain⟨t,L,O⟩:=F A outer s H vs Q E (l.deeper _) m;have I:Inv (DT CX P w K mg base N qual scope f kY A outer s H E) [] (start N vs) H s1:=Ln S l.hd g R r x;refine G1 (L [] s1 (start N vs) H _ I O) (λfl s' hs=>?_) λe s' hs=>hs;have d:∀{σ':St}{H':Hp}{v:V}{u:A3},Inv (DT CX P w K mg base N qual scope f kY A outer s H E) [] σ' H' s'->RelV v u->Q v H'->CE outer P w H s Q u s':=
    fun{σ' H' v u} J rv q=>⟨v,H',J.os,J.bare,J.base,J.kD,rv,q⟩
  cases fl with|ret u=>obtain⟨v,σ',H',J,rv,q⟩:=hs;exact d J rv q|next=>obtain⟨σ',H',J,q⟩:=hs;exact d (v:=V.kB) (u:=K5) J rfl q|brk=>obtain⟨_,_,_,q⟩:=hs;exact C9 q|cont=>obtain⟨_,_,_,q⟩:=hs;exact C9 q
section
variable{X:Cx}{x:Str}{p pos:Pos}{e:Expr}{es:List Expr}{t:TA}{id T:String}{r:List V->Hp->VK->Prop}
abbrev di(r:List V->Hp->VK->Prop)(t:TA):TE:=λσ H Q=>t σ H λvs c=>r vs c Q
theorem HG(n:BS X (.builtin id) r)(l:Gl X x)(hm:X.mg x=_n)(j:M5 x=_s (.builtin id))(ha:PA X (e::es) t)(hn:x ≠ "__name__" := by decide)(g:(x==("__debug__" : Str))=false:=by decide)
    (m:E5 (e::es) X.env=(_f,L7 e X.env)::E5 es X.env:=by rfl) (d:(R8 pos (E5 es X.env)).any (·.1)=false:=by rfl):PE X (.Call (.Name x p) (e::es) [] pos) (di r t):=by
  intro pins s σ H Q I h;refine K2 (GP I l hm j ?_ hn g);exact iM (Ah (ha pos pins s σ H _ I h) λus s1 ⟨vs,y,q,c,q1⟩=>n pins s1 σ y vs us Q q c q1) m d
theorem LU(n:BS X (.type T) r)(l:Gl X x)(hm:X.mg x=_n)(j:M5 x=_s (.type T))(ha:PA X (e::es) t)(hn:x ≠ "__name__" := by decide)(g:(x==("__debug__" : Str))=false:=by decide)
    (m:E5 (e::es) X.env=(_f,L7 e X.env)::E5 es X.env:=by rfl) (d:(R8 pos (E5 es X.env)).any (·.1)=false:=by rfl):PE X (.Call (.Name x p) (e::es) [] pos) (di r t):=by
  intro pins s σ H Q I h;refine K2 (GP I l hm j ?_ hn g);exact U6 (Ah (ha pos pins s σ H _ I h) λus s1 ⟨vs,y,q,c,q1⟩=>n pins s1 σ y vs us Q q c q1) m d
end
end L2
namespace HT
open PySem PyProof.Rows
noncomputable def lexLt:List Int->List Int->Bool
 |[],[]=>_f
 |[],_::_=>_t
 |_::_,[]=>_f
 |x::xs,y::ys=>if x=y then lexLt xs ys else decide (x < y)
section
open PySem.SeqAt
open PySem.AutoSeq1 (wpAny_loadPart')
open PySem.MeetsSeq PySem.MeetsSeq2 PySem.MeetsSeq3
end
section
variable{prog:D4}{w:E8}{A:F2}{E:A3->A5->Prop}{s:A5}
theorem pZ{t b:A6}{vs ws:List A3}{Q:A3->A5->Prop}(o:IsTup s.heap t vs.toArray)(p:IsTup s.heap b ws.toArray)(k:vs≠[])
    (h1:ws=[]->Q (.ref t) s) (h2:ws≠[]->Q (.ref s.heap.objs.size) {s with heap:=s.heap.push {cls:=.type "tuple", data:=.seq (vs++ws).toArray} })
    (m:vs.length+ws.length<=sizeLine):B7 (C0 prog w) A (binaryOp .Add (.ref t) (.ref b)) Q E s:=by
  obtain⟨⟨cls,dd,data,sl⟩,f,l,n,hd⟩:=id o;obtain⟨⟨q,g,data2,i⟩,c,h,j,a⟩:=id p;simp only at l hd h a;subst l hd h a;have e:vs.toArray++ws.toArray=(vs++ws).toArray:=by simp
  by_cases d:ws=[];exact g9 ⟨_,f,rfl⟩ ⟨_,c,rfl⟩ Y7 gU S1 R4 (Q5 _ _)
    (tuple_addW1 t b vs.toArray ws.toArray n j dd g sl i (by simpa using k) (by simp[d])) ⟨f,c,h1 d⟩
  refine g9 ⟨_,f,rfl⟩ ⟨_,c,rfl⟩ Y7 gU S1 R4 (Q5 _ _)
    (tuple_addW2 t b vs.toArray ws.toArray n j dd g sl i (by simpa using k) (by simpa using d) (by rw[A8,A8];exact m)) ⟨f,c,?_⟩
  rw[e];exact h2 d
noncomputable def kH(n d:Nat):Option Int->Nat
 |none=>d
 |some v=>if v < 0 then(v+(n:Int)).toNat else min v.toNat n
theorem mw(n d:Nat)(hd:d<=n)(o:Option Int):kH n d o<=n:=by
 cases o with|none=>exact hd|some v=>show(if v < 0 then(v+(n:Int)).toNat else min v.toNat n)<=n;by_cases a:v < 0;rw[if_pos a];omega;rw[if_neg a];exact Nat.min_le_right _ _
theorem Ke(v:Int)(n d:Nat):(if v < 0 then max (v+(n:Int)) 0 else min v (n:Int))=((kH n d (_s v):Nat):Int):=by show(if v < 0 then max (v+(n:Int)) 0 else min v (n:Int))=(((if v < 0 then(v+(n:Int)).toNat else min v.toNat n):Nat):Int);by_cases a:v < 0;simp only[if_pos a];omega;simp only[if_neg a];omega
theorem JU(lo hi:Option Int)(n:Nat):H9 lo hi 1 (n:Int)=(((kH n 0 lo:Nat):Int),((kH n n hi:Nat):Int)):=by
 have h1:¬((1:Int) < 0):=by omega
 unfold H9;simp only[h1,if_false];refine Prod.ext ?_ ?_;cases lo with|none=>rfl|some v=>exact Ke v n 0
 cases hi with|none=>rfl|some v=>exact Ke v n n
theorem IZ(i j:Nat):F4 (i:Int) (j:Int) 1=j-i:=by
 unfold F4;have h1:(1:Int) > 0:=by omega
 simp only[h1,if_true,jV];split<;>omega
theorem Cw{v:A3}{o:Option Int}{Q:Option Int->A5->Prop}(p:gi v o)(h:Q o s):B7 (C0 prog w) A (ib v) Q E s:=by
 cases p with|none=>exact V7 h|int i t=>exact slicePart_int h
theorem kh{sl:A6}{b a:A3}{lo hi:Option Int}{n:Nat}{Q:Int×Int×Nat->A5->Prop}(hs:s.heap.IsSliceOf sl b a .none)(f:gi b lo)(e:gi a hi)
    (h:Q (((kH n 0 lo:Nat):Int),1,kH n n hi-kH n 0 lo) s):B7 (C0 prog w) A (L8 (.ref sl) (pure (n:Int))) Q E s:=by
  obtain⟨os,d,g,c⟩:=id hs;unfold L8 W9;refine A0 (A0 (K0 d c (x:=b) rfl (A0 (K0 d c (x:=a) rfl (A0 (K0 d c (x:=.none) rfl (A7 ?_)))))));refine A0 (V7 ?_);show B7 _ _ (if((1:Int)==0)=_t then _ else _) _ _ s;rw[if_neg `d];refine A0 (Cw f (A0 (Cw e (A0 (A7 ?_)))));show B7 _ _ (match H9 lo hi 1 (n:Int)with|(lo,hi)=>pure (lo,(1:Int),F4 lo hi 1)) _ _ s;rw[JU lo hi n];show B7 _ _ (pure (((kH n 0 lo:Nat):Int),(1:Int),F4 ((kH n 0 lo:Nat):Int) ((kH n n hi:Nat):Int) 1)) _ _ s;rw[IZ];exact A7 h
theorem Nk(xs:Array A3)(i k:Nat):((D0 k).filterMap fun(m:Nat)=>xs[((i:Int)+(m:Int) * 1).toNat]?).toArray=((xs.toList.drop i).take k).toArray:=by
 have e:(fun(m:Nat)=>xs[((i:Int)+(m:Int) * 1).toNat]?)=λm=>xs[i+m]?:=by
  funext m;have:((i:Int)+(m:Int) * 1).toNat=i+m:=by omega
  rw[this]
 rw[e];have:=pick_run xs i k;rw[V8]at this;have e2:((λx=>xs[x]?)∘λx=>i+x)=λm=>xs[i+m]?:=rfl;rw[e2]at this;rw[this]
theorem lH{t sl:A6}{items:Array A3}{d c:A3}{lo hi:Option Int}{Q:A3->A5->Prop}(b:IsTup s.heap t items)(hs:s.heap.IsSliceOf sl d c .none)(j:gi d lo)(i:gi c hi)
    (l:¬(kH items.size 0 lo=0/\kH items.size items.size hi=items.size))
    (h:Q (.ref s.heap.objs.size) {s with heap:=s.heap.push {cls:=.type "tuple", data:=.seq ((items.toList.drop (kH items.size 0 lo)).take (kH items.size items.size hi-kH items.size 0 lo)).toArray} })
    (o:items.size<=sizeLine):B7 (C0 prog w) A (U8 (.ref t) (.ref sl)) Q E s:=by
  have a:sizeOk (.seq ((items.toList.drop (kH items.size 0 lo)).take (kH items.size items.size hi-kH items.size 0 lo)).toArray):=by show((items.toList.drop (kH items.size 0 lo)).take (kH items.size items.size hi-kH items.size 0 lo)).toArray.size<=sizeLine;rw[A8,N3,Y8,Q4];omega
  have p:kH items.size items.size hi<=items.size:=mw _ _ (C7 _) hi;obtain⟨os,k,g,n⟩:=id hs;have f:s.TypeIs (.ref sl) "slice" := ⟨os,k,g⟩;unfold U8
  try with_reducible refine E9 ?_
  first|refine A0 (A7 ?_)|skip
  refine A0 (X2 b.typeIs `d ?_);refine A0 (R5 (name:=hG "__getitem__") b.typeIs D7
    (P8 D7 b.typeIs U1 ?_ (V9 _ _)))
  show B7 _ _ (L5 (.ref t) >>= _) _ _ s;refine A0 (gV b ?_);refine A0 (U9 f ?_);rw[if_pos `d];refine A0 (kh hs j i ?_);have e:¬((((kH items.size 0 lo:Nat):Int)==0&&(1:Int)==1&&(kH items.size items.size hi-kH items.size 0 lo)==items.size)=_t):=by intro q;rw[A1,A1]at q;have q1:((kH items.size 0 lo:Nat):Int)=0:=eq_of_beq q.1.1;have q2:kH items.size items.size hi-kH items.size 0 lo=items.size:=eq_of_beq q.2;exact l ⟨by omega,by omega⟩
  show B7 _ _ (if(((kH items.size 0 lo:Nat):Int)==0&&(1:Int)==1&&(kH items.size items.size hi-kH items.size 0 lo)==items.size)=_t then _ else _) _ _ s;rw[if_neg e,Nk]
  first
    |exact A0 (m:=F7 _) (F9 (A7 ⟨_,rfl,A7 h⟩) a)
    |exact A0 (m:=F7 _) (F9 (A0 (A7 (A7 ⟨_,rfl,A7 h⟩))) a)
    |exact A0 (A0 (m:=F7 _) (F9 (A7 (A7 ⟨_,rfl,A7 h⟩)) a))
    |exact A0 (A0 (m:=F7 _) (F9 (A7 ⟨_,rfl,A7 h⟩) a))
end
end HT
namespace L2
open PySem PySem.Spec PyProof.Rows
abbrev TO:=St->Hp->(Option Int->Hp->Prop)->Prop
def PO(X:Cx)(e:Option Expr)(t:TO):Prop:=
 ∀(pins:List (A6×Obj))(s:A5)(σ:St)(H:Hp)(Q:Option Int->Hp->Prop),Inv X pins σ H s->t σ H Q ->
  B7 (C0 X.prog X.w) X.A (evalPart e X.env) (λu s'=>∃o H',Inv X pins σ H' s'/\gi u o/\Q o H') X.xe s
abbrev RC:TO:=λ_ H Q=>Q _n H
abbrev Yt(t:TE):TO:=λσ H Q=>t σ H λx a=>∃i,x=.int i/\Q (_s i) a
section
variable{X:Cx}{e:Expr}{te:TE}{lo hi:Option Expr}{tl th:TO}{pos p2:Pos}
theorem Rn:PO X _n RC:=by intro pins s σ H Q I h;rw[gW];exact A7 ⟨_n,H,I,.none,h⟩
theorem Rm(h:PE X e te):PO X (_s e) (Yt te):=by intro pins s σ H Q I b;rw[evalPart_some];refine Ah (h pins s σ H _ I b) λu s1 ⟨x,d,c,a,q1⟩=>?_;obtain⟨i,rfl,q⟩:=q1;obtain⟨t,rfl⟩:=a;exact⟨_s i,d,c,.int i t,q⟩
def Ma(X:Cx)(r:V->Option Int->Option Int->Hp->VK->Prop):Prop:=
 ∀(pins:List (A6×Obj))(s:A5)(σ:St)(H:Hp)(x:V)(v b a:A3)(lo hi:Option Int)(sl:A6)(Q:VK),Inv X pins σ H s->RelV x v->s.heap.IsSliceOf sl b a .none->gi b lo->gi a hi->r x lo hi H Q ->
  ∃T id,jC (.type T) "__getitem__" = pure (_s (.builtin id))/\s.TypeIs v T/\B7 (C0 X.prog X.w) X.A (U8 v (.ref sl)) (EP X pins σ Q) X.xe s
theorem Ma.or{r d:V->Option Int->Option Int->Hp->VK->Prop}(h:Ma X r)(h':Ma X d):Ma X (λx lo hi H Q=>r x lo hi H Q\/d x lo hi H Q):=by
 intro pins s σ H x v b a lo hi sl Q I c hs f pu q;rcases q with q|q
 exact h pins s σ H x v b a lo hi sl Q I c hs f pu q;exact h' pins s σ H x v b a lo hi sl Q I c hs f pu q
abbrev df(r:V->Option Int->Option Int->Hp->VK->Prop)(te:TE)(tl th:TO):TE:=λσ H Q=>te σ H λx c=>tl σ c λl b=>th σ b λu a=>r x l u a Q
theorem Nq{r:V->Option Int->Option Int->Hp->VK->Prop}(n:Ma X r)(t:PE X e te)(o:PO X lo tl)(k:PO X hi th):PE X (.Subscript e (.Slice lo hi _n p2) pos) (df r te tl th):=by intro pins s σ H Q I h;refine jD (Ah (t pins s σ H _ I h) λv s1 ⟨x,E,C,g,q1⟩=>?_);refine wpAny_Slice (Ah (o pins s1 σ E _ C q1) λd s2 ⟨l,D,B,j,q2⟩=>Ah (k pins s2 σ D _ B q2) λc a ⟨u,f,z,i,q3⟩=>?_);rw[gW];refine A7 ?_;have y:Inv X pins σ f {a with heap:=a.heap.push {cls:=.type "slice", data:=.fields #[d,c,.none]} }:=z.kept (t':=a.toks) λb F q=>B0 _ q;obtain⟨T,id,hT,m,p⟩:=n pins {a with heap:=a.heap.push {cls:=.type "slice", data:=.fields #[d,c,.none]} } σ f x v d c l u a.heap.objs.size Q y g (W0 ..) j i q3;show B7 (C0 X.prog X.w) X.A (X9 e (.Slice lo hi _n p2) v (.ref a.heap.objs.size)) (EP X pins σ Q) X.xe {a with heap:=a.heap.push {cls:=.type "slice", data:=.fields #[d,c,.none]} };exact jE (ops:=[.ref a.heap.objs.size,v]) m hT p (by with_unfolding_all rfl)
def DU(xs:List V)(lo hi:Option Int):List V:=(xs.drop (HT.kH xs.length 0 lo)).take (HT.kH xs.length xs.length hi-HT.kH xs.length 0 lo)
theorem EB(xs:List V)(lo hi:Option Int):(DU xs lo hi).length<=xs.length:=by unfold DU;rw[N3,Y8];omega
def ZQ(K:W.Frag):V->Option Int->Option Int->Hp->VK->Prop:=λx lo hi H Q=>∃a xs,x=.ref a/\DC K H a xs /\
 ¬(HT.kH xs.length 0 lo=0/\HT.kH xs.length xs.length hi=xs.length)/\∀p,H p=_n->Q (.ref p) (upd H p (.tup (DU xs lo hi)))
theorem Vb:Ma X (ZQ X.K):=by
 intro pins s σ H x v p n lo hi sl Q I g hs j i h;obtain⟨a,xs,rfl,l,m,q⟩:=h;cases g;obtain⟨k,r,f,d⟩:=I.tuple l;have c:k.toArray.size=xs.length:=by rw[A8];exact r.length.symm
 refine⟨"tuple", _,D7.lookup,f.typeIs,?_⟩;refine HT.lH f hs j i (by rw[c];exact m) ?_ (by rw[c];exact d);rw[c];refine⟨.ref s.heap.objs.size,_,I.laid (t':=s.toks) (o:=.tup (DU xs lo hi)) (λb t q=>B0 _ q) (C7 _) ?_,rfl,q _ (I.kD.fresh (C7 _))⟩;exact⟨C3 (EB xs lo hi) d,_,(r.drop (HT.kH xs.length 0 lo)).take (HT.kH xs.length xs.length hi-HT.kH xs.length 0 lo),Hw.new _ _⟩
def fG(K:W.Frag):R2:=λx y H Q=>∃a b ns c,x=.ref a/\y=.ref b/\DC K H a (ns.map V.int)/\DC K H b (c.map V.int)/\Q (.bl (HT.lexLt ns c)) H
def UG(K:W.Frag):R2:=λx y H Q=>∃a b xs ys,x=.ref a/\y=.ref b/\DC K H a xs/\DC K H b ys/\xs≠[]/\xs.length+ys.length<=sizeLine /\
 (ys=[]->Q (.ref a) H)/\(ys≠[]->∀p,H p=_n->Q (.ref p) (upd H p (.tup (xs++ys))))
theorem AH.mM{xs:List V}{us:List A3}(r:AH xs us):us=[]↔xs=[]:=by
 cases r with|nil=>simp|cons _ _=>simp
theorem Rx:Cs X (binaryOp .Add) (UG X.K):=by intro pins s σ H x y v u Q I i g h;obtain⟨a,b,xs,ys,rfl,rfl,ha,k,j,f,q1,q2⟩:=h;cases i;cases g;obtain⟨n,d,p1,_⟩:=I.tuple ha;obtain⟨m,c,p2,_⟩:=I.tuple k;refine HT.pZ p1 p2 (λz=>j (d.mM.mp z)) (λz=>⟨.ref a,H,I,rfl,q1 (c.mM.mp z)⟩) (λz=>?_) (by rw[<- d.length,<- c.length];exact f);refine⟨.ref s.heap.objs.size,_,I.laid (t':=s.toks) (o:=.tup (xs++ys)) (λb l q=>B0 _ q) (C7 _) ?_,rfl,q2 (λw=>z (c.mM.mpr w)) _ (I.kD.fresh (C7 _))⟩;exact⟨by rw[G2];exact f,_,d.append c,Hw.new _ _⟩
end
noncomputable def OT(n:Nat)(i:Int):Option Nat:=if 0<=i then(if i < n then _s i.toNat else _n)else if -(n:Int)<=i then _s (i+n).toNat else _n
def EJ{a:Type}(xs:List a)(i:Int):Option a:=(OT xs.length i).bind λj=>xs[j]?
theorem KH{n:Nat}{i:Int}{j:Nat}(h:OT n i=_s j):seqIndex? i n=_s j/\j < n/\-(n:Int)<=i/\i < n:=by unfold OT at h;by_cases h0:0<=i;rw[if_pos h0]at h;by_cases h1:i < n;rw[if_pos h1]at h;have e:i.toNat=j:=B2 h;exact⟨by rw[iY h0 h1,e],by omega,by omega,h1⟩;rw[if_neg h1]at h;cases h;rw[if_neg h0]at h;by_cases h1:-(n:Int)<=i;rw[if_pos h1]at h;have e:(i+n).toNat=j:=B2 h;exact⟨by rw[hV `o h1,e],by omega,h1,by omega⟩;rw[if_neg h1]at h;cases h
theorem Gc{a:Type}{xs:List a}{i:Int}{v:a}(h:EJ xs i=_s v):∃j,seqIndex? i xs.length=_s j/\xs[j]?=_s v/\j < xs.length/\-(xs.length:Int)<=i/\i < xs.length:=by
 unfold EJ at h;cases e:OT xs.length i with|none=>rw[e]at h;cases h|some j=>rw[e]at h;obtain⟨h1,h2,h3,h4⟩:=KH e;exact⟨j,h1,h,h2,h3,h4⟩
def Kv(b:Expr):Prop:=∀o i,gF b _f o i=operate [o,i] (U8 o i)
def MV(X:Cx)(r:R2):Prop:=
 ∀(a slice:Expr)(pins:List (A6×Obj))(s:A5)(σ:St)(H:Hp)(x y:V)(v u:A3)(Q:VK),Inv X pins σ H s->RelV x v->RelV y u->r x y H Q ->
  gF slice _f v u=operate [v,u] (U8 v u)->B7 (C0 X.prog X.w) X.A (X9 a slice v u) (EP X pins σ Q) X.xe s
def bW(X:Cx)(id:String)(r:V->List V->Hp->VK->Prop):Prop:=
 ∀(pins:List (A6×Obj))(s:A5)(σ:St)(H:Hp)(x:V)(xs:List V)(v:A3)(us:List A3)(Q:VK),Inv X pins σ H s->RelV x v->AH xs us->r x xs H Q ->
  B7 (C0 X.prog X.w) X.A (call (.builtin id) (v::us)) (EP X pins σ Q) X.xe s
variable{pins:List (A6×Obj)}{s:A5}
section
variable{X:Cx}{a b:Expr}{ta tb:TE}{pos:Pos}
theorem MV.or{r e:R2}(h:MV X r)(h':MV X e):MV X (λx y H Q=>r x y H Q\/e x y H Q):=by
 intro value slice pins s σ H x y v u Q I d c q hs;rcases q with q|q
 exact h value slice pins s σ H x y v u Q I d c q hs;exact h' value slice pins s σ H x y v u Q I d c q hs
theorem Zl{r:R2}(e:MV X r)(ha:PE X a ta)(f:PE X b tb)(hs:Kv b):PE X (.Subscript a b pos) (bM r ta tb):=by intro pins s σ H Q I h;exact jD (Xw ha f I h λv u s2 x y i g d c q=>e a b pins s2 σ i x y v u Q g d c q (hs _ _))
def ZW(K:W.Frag):R2:=λx y H Q=>∃p xs i v,x=.ref p/\y=.int i/\Bv K H p xs/\EJ xs i=_s v/\Q v H
def ZU(K:W.Frag):R2:=λx y H Q=>∃p xs i v,x=.ref p/\y=.int i/\DC K H p xs/\EJ xs i=_s v/\Q v H
def ZV:R2:=λx y H Q=>∃z i c,x=.str z/\y=.int i/\z.length<=sizeLine/\EJ z.cps.toList i=_s c/\Q (.str ⟨#[c]⟩) H
theorem SN:MV X (ZW X.K):=by
  intro d slice pins s σ H x y v u Q I l k h hs;obtain⟨p,xs,i,z,rfl,rfl,o,B,q⟩:=h;cases l;obtain⟨t,rfl⟩:=k;obtain⟨n,r,e,C⟩:=I.list o;obtain⟨j,h1,h2,h3,h4,h5⟩:=Gc B;obtain⟨w,g,m⟩:=r.get h2;have A:=r.length;have hn:=Ds;have c:EP X pins σ Q w s:=⟨z,H,I,m,q⟩;by_cases h0:0<=i;have f:i.toNat=j:=by rw[iY h0 h5]at h1;exact B2 h1
  exact item_listR e.isList h0 `o (by rw[f];simpa using g) c hs;have f:(i+(n.toArray.size:Int)).toNat=j:=by rw[hV `o h4]at h1;rw[A8,<- A];exact B2 h1
  exact Z5 (x:=w) e.isList.typeIs X3.lookup
    (wpAny_getItem_list_neg (Q:=λr s'=>r=w/\EP X pins σ Q r s') e.isList `o (by rw[A8]<;>omega) `o (by rw[f];simpa using g) ⟨rfl,c⟩) hs
theorem Wp:MV X (ZU X.K):=by
 intro c slice pins s σ H x y v u Q I g f h hs;obtain⟨p,xs,i,z,rfl,rfl,l,n,q⟩:=h;cases g;obtain⟨t,rfl⟩:=f;obtain⟨A,r,e,B⟩:=I.tuple l;obtain⟨j,h1,h2,h3,h4,h5⟩:=Gc n;obtain⟨w,o,k⟩:=r.get h2;have m:=r.length;have hn:=Ds;have d:EP X pins σ Q w s:=⟨z,H,I,k,q⟩;exact Z5 (x:=w) e.typeIs slot_tuple_getitem.lookup
  (getItem_tuple (j:=j) (Q:=λr s'=>r=w/\EP X pins σ Q r s') e `o `o (by rw[A8,<- m];exact h1) (by simpa using o) ⟨rfl,d⟩) hs
theorem Wq:MV X ZV:=by
 intro d slice pins s σ H x y v u Q I f e h hs;obtain⟨z,i,c,rfl,rfl,l,k,q⟩:=h;obtain⟨t,rfl⟩:=f;obtain⟨t',rfl⟩:=e;obtain⟨j,h1,h2,h3,h4,h5⟩:=Gc k;have g:z.cps.toList.length=z.length:=by simp[Str.length]
 rw[g]at h1 h4 h5;have hn:=Ds;exact jE (jF s z t) slot_str_getitem.lookup (getItem_str (c:=c) (by have e1:decide (i < -(2 ^ 63:Int))=false:=decide_eq_false `o;have e2:decide (i >= 2 ^ 63)=false:=decide_eq_false `o;rw[e1,e2,jN]) (by rw[h1];simpa using h2) ⟨.str ⟨#[c]⟩,H,I.tok _,⟨_,rfl⟩,q⟩) hs
def Vr(K:W.Frag):R2:=λx y H Q=>ZW K x y H Q\/ZU K x y H Q\/ZV x y H Q
theorem Wr:MV X (Vr X.K):=SN.or (Wp.or Wq)
theorem Ik(c:List A3)(n j:Nat)(u:A3):M7 (·.setIfInBounds j u) {cls:=.type "list", data:=.seq c.toArray n}={cls:=.type "list", data:=.seq (c.set j u).toArray n}:=by simp[M7]
theorem Inv.lst{σ:St}{H:Hp}{p:A6}{xs:List V}(I:Inv X pins σ H s)(h:H p=_s (.lst xs)) :
    ∃(c:List A3)(n:Nat),AH xs c/\s.heap.get? p=_s {cls:=.type "list", data:=.seq c.toArray n}/\xs.length<=sizeLine:=by
  obtain⟨z,c,n,r,e⟩:=I.kD p _ h;exact⟨c,n,r,e,z⟩
theorem Inv.qe{σ:St}{H:Hp}{p:A6}{xs ys:List V}{d its':List A3}{n c:Nat}{f:Obj->Obj}(I:Inv X pins σ H s)(h:H p=_s (.lst xs))
    (i:s.heap.get? p=_s {cls:=.type "list", data:=.seq d.toArray n}) (hf:f {cls:=.type "list", data:=.seq d.toArray n}={cls:=.type "list", data:=.seq its'.toArray c}) (r:AH ys its') (g:ys.length<=sizeLine) (t:Nat) :
    Inv X pins σ (upd H p (.lst ys)) {s with heap:=s.heap.update p f,toks:=t}:=by
  have e:(s.heap.update p f).get? p=_s {cls:=.type "list", data:=.seq its'.toArray c}:=by rw[O3 f i (by rw[hf]<;>rfl),hf]
  refine I.write (x:=p) (e:=p) (by rw[h];trivial) (.inl rfl) (λb u j q=>(F6 _ _ (Ne.symm j)).trans q) ⟨_,e⟩ ?_;exact⟨g,its',c,r,e⟩
def NX:V->V->V->Hp->(Hp->Prop)->Prop:=λo i v H Q=>∃p xs k j,o=.ref p/\i=.int k/\H p=_s (.lst xs)/\OT xs.length k=_s j/\Q (upd H p (.lst (xs.set j v)))
theorem set_list:Hy X NX:=by
  intro pins s σ H o i v y z u Q I ro m rv h;obtain⟨p,xs,k,j,rfl,rfl,g,x,q⟩:=h;cases ro;obtain⟨t,rfl⟩:=m;obtain⟨f,n,r,c,w⟩:=I.lst g;obtain⟨h1,h2,h3,h4⟩:=KH x;have d:=r.length;have hn:=Ds;have l:Inv X pins σ (upd H p (.lst (xs.set j v))) {s with heap:=s.heap.update p (M7 (·.setIfInBounds j u))}:=
    I.qe g c (Ik f n j u) (r.set rv j) (by rw[C8];exact w) s.toks
  by_cases h0:0<=k;have e:k.toNat=j:=by rw[iY h0 h4]at h1;exact B2 h1
  exact W.ki_setAt c h0 `o (by rw[A8,<- d];exact h4) (by rw[e];exact⟨_,l,q⟩);have e:(k+(f.toArray.size:Int)).toNat=j:=by rw[hV `o h3]at h1;rw[A8,<- d];exact B2 h1
  exact W.ki_setBack c `o (by rw[A8,<- d];exact h3) `o (by rw[e];exact⟨_,l,q⟩)
theorem cl(i:Int)(n:Nat):max 0 (min (if i < 0 then i+(n:Int)else i) (n:Int))=(((if i < 0 then(i+(n:Int)).toNat else min i.toNat n):Nat):Int):=by
 by_cases h:i < 0;rw[if_pos h,if_pos h,ic `o,Int.max_comm];exact(Int.toNat_eq_max _).symm;obtain⟨k,rfl⟩:=Int.eq_ofNat_of_zero_le (Int.not_lt.mp h);rw[if_neg h,if_neg h,Int.toNat_natCast];rcases Nat.le_total k n with c|c
 rw[Nat.min_eq_left c,ic (jW.mpr c)];exact iN (gj _);rw[Nat.min_eq_right c,Int.min_eq_right (jW.mpr c)];exact iN (gj _)
theorem GB(lo hi:Option Int)(n:Nat):(iZ lo hi _n n).1=((HT.kH n 0 lo:Nat):Int)/\(iZ lo hi _n n).2.1=((HT.kH n n hi:Nat):Int)/\(iZ lo hi _n n).2.2=1:=by
 refine⟨?_,?_,rfl⟩;cases lo with|none=>rfl|some i=>exact cl i n
 cases hi with|none=>rfl|some i=>exact cl i n
theorem FF(c:List A3)(lo hi:Option Int):slicePick c.toArray lo hi _n=((c.drop (HT.kH c.length 0 lo)).take (HT.kH c.length c.length hi-HT.kH c.length 0 lo)).toArray:=by obtain⟨h1,h2,h3⟩:=GB lo hi c.toArray.size;unfold slicePick;rw[h1,h2,h3];simp only[sliceRange_one,pick_run,A8]<;>rfl
def ZS(K:W.Frag):V->Option Int->Option Int->Hp->VK->Prop:=λx lo hi H Q=>∃a xs,x=.ref a/\Bv K H a xs/\∀p,H p=_n->Q (.ref p) (upd H p (.lst (DU xs lo hi)))
theorem RL:Ma X (ZS X.K):=by intro pins s σ H x v l k lo hi sl Q I e hs g f h;obtain⟨a,xs,rfl,j,q⟩:=h;cases e;obtain⟨n,r,d,i⟩:=I.list j;have c:=r.length;refine⟨"list", _,X3.lookup,d.isList.typeIs,?_⟩;refine Y0 d.isList hs g f .none `s ?_ (by rw[A8]<;>omega);rw[FF,<- c];refine⟨.ref s.heap.objs.size,_,I.laid (t':=s.toks) (o:=.lst (DU xs lo hi)) (λb m q=>B0 _ q) (C7 _) ?_,rfl,q _ (I.kD.fresh (C7 _))⟩;exact⟨C3 (EB xs lo hi) i,_,0,(r.drop (HT.kH xs.length 0 lo)).take (HT.kH xs.length xs.length hi-HT.kH xs.length 0 lo),E7 _ rfl⟩
noncomputable def En:V->Bool
 |.kB=>_t
 |.bl _=>_t
 |.int _=>_t
 |.str _=>_t
 |_=>_f
noncomputable def kr:V->V->Bool
 |.kB,.kB=>_t
 |.bl a,.bl b=>a==b
 |.bl a,.int b=>(if a then 1 else 0)==b
 |.int a,.bl b=>a==(if b then 1 else 0)
 |.int a,.int b=>a==b
 |.str a,.str b=>a==b
 |_,_=>_f
theorem XM{A:F2}{y x:V}{u v:A3}(d:RelV y u)(c:RelV x v)(e:En y=_t)(fx:En x=_t):SeqAt.EqAt A s u v (kr y x):=by
 cases y with
 |kB=>
  cases d;cases x with|kB=>cases c;exact SeqAt.EqAt.same _|bl b=>cases c;exact SeqAt.EqAt.none_bool b|int b=>obtain⟨t,rfl⟩:=c;exact SeqAt.EqAt.none_int b t|str b=>obtain⟨t,rfl⟩:=c;exact SeqAt.EqAt.none_str b t|_=>exact absurd (show _f=_t from fx) B4
 |bl a=>
  cases d;cases x with|kB=>cases c;exact SeqAt.EqAt.bool_none a|bl b=>cases c;exact SeqAt.EqAt.bool_bool a b|int b=>obtain⟨t,rfl⟩:=c;exact SeqAt.EqAt.bool_int a b t|str b=>obtain⟨t,rfl⟩:=c;exact SeqAt.EqAt.bool_str a b t|_=>exact absurd (show _f=_t from fx) B4
 |int a=>
  obtain⟨t',rfl⟩:=d;cases x with|kB=>cases c;exact SeqAt.EqAt.int_none a t'|bl b=>cases c;exact SeqAt.EqAt.int_bool a t' b|int b=>obtain⟨t,rfl⟩:=c;exact SeqAt.EqAt.int_int a t' b t|str b=>obtain⟨t,rfl⟩:=c;exact gZ a t' b t|_=>exact absurd (show _f=_t from fx) B4
 |str a=>
  obtain⟨t',rfl⟩:=d;cases x with|kB=>cases c;exact SeqAt.EqAt.str_none a t'|bl b=>cases c;exact SeqAt.EqAt.str_bool a t' b|int b=>obtain⟨t,rfl⟩:=c;exact gb a t' b t|str b=>obtain⟨t,rfl⟩:=c;exact SeqAt.EqAt.str_str a t' b t|_=>exact absurd (show _f=_t from fx) B4
 |_=>exact absurd (show _f=_t from e) B4
theorem BS.or{f:A3}{r c:List V->Hp->VK->Prop}(h:BS X f r)(h':BS X f c):BS X f (λxs H Q=>r xs H Q\/c xs H Q):=by
 intro pins s σ H xs us Q I rs q;rcases q with q|q
 exact h pins s σ H xs us Q I rs q;exact h' pins s σ H xs us Q I rs q
def bK(K:W.Frag)(T:String)(x:V)(H:Hp):Prop:=match x with
  |.str _=>T = "str"
  |.int _=>T = "int"
  | .ref p=>(T = "list" /\ ∃xs,Bv K H p xs)\/(T = "tuple" /\ ∃o,K.lookup p=_s o/\o.cls=.type "tuple" /\ o.dict=_n) \/
      (T = "dict" /\ ((∃j8,H p=_s (.dK j8))\/(∃j8,H p=_s (.dT j8))\/∃j8,H p=_s (.dN j8)))\/(T = "set" /\ ∃S n,H p=_s (.set S n))
  |_=>False
theorem Ml{σ:St}{H:Hp}{T:String}{x:V}{v:A3}(I:Inv X pins σ H s)(r:RelV x v)(ty:bK X.K T x H) :
    s.TypeIs v T/\∀a,v=.ref a->∃g,s.heap.get? a=_s g/\g.dict=none:=by
  cases x with
  |str z=>obtain⟨t,rfl⟩:=r;cases(show T = "str" from ty);exact⟨jF s z t,λ_ e=>nomatch e⟩
  |int i=>obtain⟨t,rfl⟩:=r;cases(show T = "int" from ty);exact⟨typeIs_int s i t,λ_ e=>nomatch e⟩
  |ref p=>
    cases r;rcases ty with⟨rfl,xs,h⟩|⟨rfl,o,d,j,hd⟩|⟨rfl,d⟩|⟨rfl,S,n,d⟩
    obtain⟨k,_,f,_⟩:=I.list h;refine⟨f.isList.typeIs,λa e=>?_⟩;cases e;obtain⟨o,n,e,c,hd,_⟩:=f;exact⟨o,e,hd⟩;refine⟨⟨o,I.lN p o d,j⟩,λa e=>?_⟩;cases e;exact⟨o,I.lN _ o d,hd⟩;have z:∃o,s.heap.get? p=_s o/\o.ExactDict:=by rcases d with⟨j8,d⟩|⟨j8,d⟩|⟨j8,d⟩<;>obtain⟨_,_,_,_,o,_,_,e,ex,_⟩:=I.kD p _ d<;>exact⟨o,e,ex⟩
    obtain⟨o,e,ex⟩:=z;refine⟨⟨o,e,ex.1⟩,λa e2=>?_⟩;cases e2;exact⟨o,e,ex.2.1⟩;obtain⟨o,_,_,_,e,ex,_⟩:=I.kD p _ d;refine⟨⟨o,e,ex.1⟩,λa e2=>?_⟩;cases e2;exact⟨o,e,ex.2.1⟩
  |_=>exact C9 ty
abbrev bu(K:W.Frag)(T:String)(r:V->List V->Hp->VK->Prop)(d:TE):TE:=λσ H Q=>d σ H λx c=>bK K T x c/\r x [] c Q
abbrev Yz(K:W.Frag)(T:String)(r:V->List V->Hp->VK->Prop)(d:TE)(t:TA):TE:=λσ H Q=>d σ H λx c=>bK K T x c/\t σ c λxs e=>r x xs e Q
variable{o e:Expr}{es:List Expr}{to:TE}{t:TA}{name:Str}{apos lU:Pos}{T id:String}{r:V->List V->Hp->VK->Prop}
theorem Ny(g:gk T)(slot:Slot T name id)(f:jG (.builtin id)=pure (.type "method_descriptor"))(hm:bW X id r)(k:PE X o to)
    (i:L0 o name X.env (L7 o X.env)=L7 o X.env:=by rfl) (j:(apos.endLine==lU.line)=true:=by rfl):PE X (.Call (.Attribute o name apos) [] [] lU) (bu X.K T r to):=by
  intro pins s σ H Q I h;refine wpAny_Call_method0_late i j (Ah (k pins s σ H _ I h) λv s1 ⟨x,l,d,c,ty,q1⟩=>?_);obtain⟨h1,h2⟩:=Ml d c ty;exact⟨T,id,g,slot,f,h1,h2,Z6 rfl (PySem.evalArgs_none (hm pins s1 σ l x [] v [] Q d c .nil q1))⟩
theorem UM(l:gk T)(slot:Slot T name id)(i:jG (.builtin id)=pure (.type "method_descriptor"))(hm:bW X id r)(p:PE X o to)(ha:PA X (e::es) t)
    (m:L0 o name X.env (L7 o X.env)=L7 o X.env:=by rfl)
    (g:((R8 lU (E5 (e::es) X.env)).all (λx=>!x.1)&&(backToKw lU (keywordEach [] X.env)).all (λx=>x.1.isSome)
     &&decide ((e::es).length+([]:List S2).length+(if([]:List S2).isEmpty then 0 else 1) < 30))=true:=by rfl)
    (n:(apos.endLine==lU.line)=true:=by rfl) (hs:E5 (e::es) X.env=(_f,L7 e X.env)::E5 es X.env:=by rfl) (k:(R8 lU (E5 es X.env)).any (·.1)=false:=by rfl) :
    PE X (.Call (.Attribute o name apos) (e::es) [] lU) (Yz X.K T r to t):=by
  intro pins s σ H Q I h;refine wpAny_Call_method_late m g n rfl (Ah (p pins s σ H _ I h) λv s1 ⟨x,w,f,c,ty,q1⟩=>?_);obtain⟨h1,h2⟩:=Ml f c ty;refine⟨T,id,l,slot,i,h1,h2,?_⟩;have d:=ha lU pins s1 σ w _ f q1;rw[hs]at d ⊢;refine Z6 (by show(_f||(R8 lU (E5 es X.env)).any (·.1))=_f;rw[k]<;>rfl) (Calls.evalArgs_plain ?_);exact Ah d λus s2 ⟨vs,u,q,j,q2⟩=>hm pins s2 σ u x vs v us Q q c j q2
end
def bX(X:Cx)(id:String)(r:V->List V->Hp->VK->Prop):Prop:=
 ∀(pins:List (A6×Obj))(s:A5)(σ:St)(H:Hp)(x:V)(xs:List V)(v:A3)(us:List A3)(Q:VK),Inv X pins σ H s->RelV x v->AH xs us->r x xs H Q ->
  B7 (C0 X.prog X.w) X.A (call (.builtin id) (v::us)) (EP X pins σ Q) X.xe s
theorem AH.one:∀{x:V}{us:List A3},AH [x] us->∃u,us=[u]/\RelV x u
 := by
 intro x us h;cases h with|cons r t=>cases t;exact⟨_,rfl,r⟩
section
variable{X:Cx}{pins:List (A6×Obj)}{σ:St}{H:Hp}{s:A5}{l b:A6}{xs ys zs:List V}
theorem Inv.sI{a its':List A3}{n:Nat}{f:Array A3->Array A3}{t':Nat}(I:Inv X pins σ H s)(i:H l=_s (.lst xs))
    (e:s.heap.get? l=_s {cls:=.type "list", data:=.seq a.toArray n}) (hf:f a.toArray=its'.toArray) (d:AH ys its') (c:ys.length<=sizeLine) :
    Inv X pins σ (upd H l (.lst ys)) {s with heap:=s.heap.update l (M7 f),toks:=t' }:=by
  have q:=iO e f;rw[hf]at q;refine I.write (x:=l) (e:=l) (by rw[i];exact trivial) (.inl rfl) (λj u h g=>(F6 s.heap (M7 f) (Ne.symm h)).trans g) ⟨_,q⟩ ?_;exact⟨c,its',_,d,q⟩
theorem Inv.vC{a:List A3}{t':Nat}(I:Inv X pins σ H s)(d:AH ys a)(c:ys.length<=sizeLine) :
    Inv X pins σ (upd H s.heap.objs.size (.lst ys)) {s with heap:=s.heap.push {cls:=.type "list", data:=.seq a.toArray},toks:=t' }:=
  I.laid (λ_ _ q=>B0 _ q) (C7 _) ⟨c,a,0,d,E7 _ rfl⟩
theorem Inv.fresh(I:Inv X pins σ H s):H s.heap.objs.size=none:=I.kD.fresh (C7 _)
theorem Inv.oP(I:Inv X pins σ H s)(c:H l=_s (.lst xs)):xs.length<=sizeLine/\∃(a:List A3)(n:Nat),AH xs a/\xs.length=a.length/\s.heap.get? l=_s {cls:=.type "list", data:=.seq a.toArray n}:=by obtain⟨z,a,n,r,e⟩:=I.kD l _ c;exact⟨z,a,n,r,r.length,e⟩
theorem OC{n:Nat}(h:n<=sizeLine):Q6 n=false:=by unfold Q6;exact decide_eq_false `o
end
section
variable{X:Cx}
def Jm:V->List V->Hp->VK->Prop:=λx vs H Q=>∃l xs y,x=.ref l/\vs=[y]/\H l=_s (.lst xs)/\xs.length < sizeLine/\Q .kB (upd H l (.lst (xs++[y])))
theorem Ld:bX X "list.append" Jm:=by intro pins s σ H x vs v us Q I c rv h;obtain⟨l,xs,y,rfl,rfl,b,f,q⟩:=h;cases c;obtain⟨u,rfl,d⟩:=rv.one;obtain⟨z,a,n,r,g,e⟩:=I.oP b;refine jH F.slot_list_append ⟨_,e,rfl⟩ F.entry_list_append (F.args_list_append_2 _ _) (hX l a.toArray n u (by rw[A8];omega)) ⟨e,?_⟩;refine⟨.kB,_,I.sI (its':=a++[u]) b e `s (r.append (.cons d .nil)) ?_,rfl,q⟩;rw[G2,S5];omega
def RY:V->List V->Hp->VK->Prop:=λx vs H Q=>∃l b xs a,x=.ref l/\vs=[.ref b]/\H l=_s (.lst xs)/\H b=_s (.lst a)/\xs.length+a.length<=sizeLine/\Q .kB (upd H l (.lst (xs++a)))
theorem YM:bX X "list.extend" RY:=by
 intro pins s σ H x vs v us Q I g rv h;obtain⟨l,b,xs,p,rfl,rfl,d,o,y,q⟩:=h;cases g;obtain⟨u,rfl,i⟩:=rv.one;cases i;obtain⟨z,a,n,r,A,e⟩:=I.oP d;obtain⟨t,c,k,j,w,e2⟩:=I.oP o;have m:a.toArray.size+c.toArray.size<=sizeLine:=by rw[A8,A8];omega
 have f:¬(!a.toArray.isEmpty&&Q6 (a.toArray.size+c.toArray.size))=true:=by rw[OC m,S3];exact B4
 refine jH F.slot_list_extend ⟨_,e,rfl⟩ F.entry_list_extend (F.args_list_extend_2 _ _)
  (AutoSeq1.list_extend_list_list_0 l a.toArray n b c.toArray k f (by rw[A8];omega) `o) ⟨e,e2,?_⟩
 refine⟨.kB,_,I.sI (its':=a++c) d e `s (r.append j) ?_,rfl,q⟩;rw[G2];omega
def ZZ:R2:=λx y H Q=>∃l b xs a,x=.ref l/\y=.ref b/\H l=_s (.lst xs)/\H b=_s (.lst a)/\xs.length+a.length<=sizeLine/\∀p,H p=_n->Q (.ref p) (upd H p (.lst (xs++a)))
theorem Ie:Cs X (binaryOp .Add) ZZ:=by
 intro pins s σ H x y v u Q I f d h;obtain⟨l,b,xs,m,rfl,rfl,i,j,w,q⟩:=h;cases f;cases d;obtain⟨z,c,n,r,A,e⟩:=I.oP i;obtain⟨o,a,t,g,p,e2⟩:=I.oP j;refine PySem.P.add_list e e2 ?_ (by rw[A8,A8];omega);have k:c.toArray++a.toArray=(c++a).toArray:=by simp
 rw[k];exact⟨.ref _,_,I.vC (t':=s.toks) (r.append g) (by rw[G2];omega),rfl,q _ I.fresh⟩
def fE:R2:=λx y H Q=>∃l k xs,x=.ref l/\y=.int k/\H l=_s (.lst xs)/\-(2 ^ 63)<=k/\k < 2 ^ 63/\xs.length * k.toNat<=sizeLine /\
 ∀p,H p=_n->Q (.ref p) (upd H p (.lst (E6 k.toNat xs).flatten))
end
end L2
namespace Att
open PySem PySem.W PySem.Calls PyProof.Rows
theorem ED{P:gn}{h:F1}:∀(ns:List Int)(vs:List A3),WellAll P h vs (ns.map jv)->iw vs ns:=by
 intro ns;induction ns with
 |nil=>intro vs w;rw[Z7]at w;cases w;exact .nil
 |cons n ns c=>
  intro vs w;rw[F3]at w;cases w with|cons a b=>cases a;exact .cons _ _ (c _ b)
theorem LK{l:OpenLaw}{n:Nat}(hn:l.most=_s n){P:gn}{h:F1}{args:List WData}{b:List A3}
    (e:l.row.toRowW.claim.pre args=_t) (k:WellAll P h b args) :
    ∃a vs ns,b=[D9 a]/\args=[WData.list (ns.map jv)]/\h.get? a=_s {cls:=.type "list", data:=.seq vs.toArray}/\iw vs ns/\ns.length<=n:=by
  have g:WShape.hasAll [] args [.list .int]=true:=(pre_splitW e).1;have f:l.pre.holds [] {args:=args}=true:=(pre_splitW e).2;obtain⟨d,r,rfl,h1,h2⟩:=hasAllW_cons g;obtain rfl:=hasAllW_nil h2;obtain⟨xs,rfl,h3⟩:=hasW_list h1;obtain⟨ns,rfl⟩:=items_int h3;have c:ns.length<=n:=by
    unfold OpenLaw.pre at f;have h4:(WTm.not (.lt (.lit (.int (n:Int))) (.len (.arg 0)))).holds [] {args:=[.list (ns.map .int)]}=true:=by have h4:=(holds_andW f).1;rw[hn]at h4;exact h4
    have h5:=condW_of h4 (w_not (w_lt w_lit (w_len_list (w_arg rfl))));rw[D1]at h5;refine Nat.le_of_not_lt λq=>?_;have m:(n:Int) < ((ns.length:Nat):Int):=by omega
    first
      |(rw[decide_eq_true m]at h5;exact absurd h5 `d)
      |(simp at h5;omega)
  cases k with
  |cons j i=>
    cases i;cases j with|list p o=>exact⟨_,_,ns,rfl,rfl,p,ED ns _ o,c⟩
theorem LQ(l:OpenLaw)(args:List WData):l.row.toRowW.claim.post args (.bool _t) args=true:=
 postW_of (r:=l.row.toRowW) (X:=(_t==_t))
  (show jq [] (.bool _t) .bool=_t by first|rfl|decide|simp[jq,WShape.arms,WShape.armsAll])
  (show(WTm.eq .res (.lit (.bool _t))).value [] {args:=args,res:=_s (.bool _t),after:=args}=_s (.bool (_t==_t))from w_eq_bool (w_res rfl) w_lit) rfl
theorem mi{l:OpenLaw}{n:Nat}{q:D4}{loose:List Str}{XP:(Str->Option A3)->F1->Prop}{YP:E8->F1->Prop}{d:jX}
    (hn:l.most=_s n) (m:d.params.defaults=[])
    (call:∀(w:E8)(kP b:A5)(mg mb:Str->Option A3)(g:A6)(o:Obj)(pm h doc:A3)(a:A6)(vs:List A3)(ns:List Int),
      Ground q loose [] XP w kP mg mb b.heap->YP w b.heap ->
      b.heap.get? g=_s o->o.data=.func (docDef d.name d.params d.body d.scope pm h doc)->b.heap.CodeRec h d.name->mg d.name=_s (.ref g) ->
      b.heap.get? a=_s {cls:=.type "list", data:=.seq vs.toArray}->iw vs ns->ns.length<=n->b.gens=#[] ->
      X0 (C0 l.prog w) gM (.call (.ref g) ⟨[.ref a],[]⟩) (λr s'=>r=.ok (.ret (.bool _t))/\OldK b.heap s'.heap/\s'.os=b.os/\U5 s'.gens) b) :
    WalkO q loose XP YP l.row.toRowW d [] (λf vs=>gp f vs):=by
  intro w kP b mg mb G Y g o pm h doc A kV y hd t j u z args i as s B v k C;obtain rfl:A=.none:=Dflts.none j m;obtain rfl:kV=.none:=Dflts.noKw j;obtain⟨a,vs,ns,rfl,rfl,p,c,e⟩:=LK hn s k;refine enter_call (S0 (call w kP b mg mb g o pm h doc a vs ns G Y y (fd_plain hd) t u p c e z) λr s' x=>?_);obtain⟨rfl,h2,h3,h4⟩:=x;exact⟨.inl ⟨.bool _t,.bool _t,[],rfl,λ_=>rfl,.bool _t,LQ l _,λ_=>⟨hZ,λ_ hm=>(nomatch hm)⟩⟩,h2,h3,h4⟩
end Att
namespace L2
open PySem PySem.Spec PyProof.Rows
theorem FP:∀{vs:List A3}{ns:List Int},iw vs ns->AH (ns.map V.int) vs
 |_,_,.nil=>.nil
 |_,_,.cons n t h=>.cons ⟨t,rfl⟩ (FP h)
def Tf(H:Hp):Prop:=∀b,H b=_n\/∃o xs,H b=_s (.nI o (.lst xs))
theorem OO{P:D4}{w:E8}{K:W.Frag}{mg mb:Str->Option A3}{CX:MX}{k:Nat}{t a:A6}{fd:G4}{x:Str}{sp:Sp}{c:A5}{vs:List A3}{ns:List Int}
    (G:K.In c.heap) (B:c.heap.Ns G3 mg) (f:c.heap.Ns iz mb) (p:∀x:Str,x ≠ "__name__" -> mb x=M5 x) (J:c.heap.NoLimit) (Y:c.gens=#[])
    (ha:c.heap.get? a=_s {cls:=.type "list", data:=.seq vs.toArray}) (hi:iw vs ns) (C:ns.length<=sizeLine) (X:kG k gM)
    (F:∀base:F1,K.In base->base.Ns G3 mg->kL P w K mg base CX k t fd [x] sp) (O:∀(s:A5)(u:A3),g8 s fd ⟨[u],[]⟩ [(x,u)])
    (U:∀H:Hp,Tf H->Bv K H a (ns.map V.int)->sp [.ref a] H (λv _=>v=.bl _t) λ_ _ _=>False)
    (N:∀H e s',CX [] H c (λ_ _ _=>False) e s'->False) :
    X0 (C0 P w) gM (.call (.ref t) ⟨[.ref a],[]⟩) (λr s'=>r=.ok (.ret (.bool _t))/\OldK c.heap s'.heap/\s'.os=c.os/\U5 s'.gens) c:=by
  have rv:=FP hi;have M:=hi.length
  -- from an abstract heap in xC nothing but qO qS may be tracked
  have g:∀H:Hp,Tf H->Bv K H a (ns.map V.int)->Cn P w H c.heap->(∀b,H b≠_n->b=a)->(H a≠_n->K.lookup a=_n) ->
      X0 (C0 P w) gM (.call (.ref t) ⟨[.ref a],[]⟩) (λr s'=>r=.ok (.ret (.bool _t))/\OldK c.heap s'.heap/\s'.os=c.os/\U5 s'.gens) c:=by
    intro H D Z kD E hK;have DX:∀{b:A6}{o:Obj},c.heap.get? b=_s o->H b=_n->(GS c.heap H).get? b=_s o:=λe n=>OZ e n;have Q:∀{b:A6}{o:Obj}{es:Array DictEntry}{j:Nat},c.heap.get? b=_s o->o.data=.dict es j->H b=none:=fun{b o es j} e d=>by
      cases q:H b with|none=>rfl|some u=>have y:b=a:=E b (by rw[q];simp);subst y;rw[ha]at e;cases e;have d':Data.seq vs.toArray _=Data.dict es j:=d;cases d'
    have l:∀{b:A6}{m:Str->Option A3},c.heap.Ns b m->(GS c.heap H).Ns b m:=fun{b m} ⟨o,es,j,e,d,r⟩=>⟨o,es,j,DX e (Q e d),d,r⟩;have A:K.In (GS c.heap H):=λb o e=>DX (G b o e) (by
      cases q:H b with|none=>rfl|some u=>have y:b=a:=E b (by rw[q];simp);subst y;rw[hK (by rw[q];simp)]at e;cases e)
    have hM:Mod K mg (GS c.heap H):=⟨A,l B,⟨mb,l f,p⟩,let ⟨mc,h1,h2⟩:=J;⟨mc,l h1,h2⟩⟩;have e0:m9 P w K mg (GS c.heap H) gM [] c H:=⟨rfl,hM,λb o e=>SB e,iA (Lq _ _),trivial,λb f=>absurd (show b∈([]:List A6)from f) `s,kD,.of_eq Y⟩;refine S0 ((F _ A (l B)).run gM [] c H ⟨[.ref a],[]⟩ [.ref a] [.ref a] _ _ X e0 (O c (.ref a)) (.cons rfl .nil) (U H D Z)) λr s' h=>?_;cases r with
    |error e=>exact(N H e s' h).elim
    |ok fl=>
      cases fl with
      |next=>exact C9 h
      |brk=>exact C9 h
      |cont=>exact C9 h
      |ret u=>
        obtain⟨v,H',os,bare,un,L,R,q⟩:=h;have S:v=.bl true:=q;subst S;obtain rfl:u=iy true:=R;refine⟨rfl,OldK.of_keep λb o e=>?_,os,bare⟩;cases q:H b with
        |none=>exact un.keep b o e q (by intro z;exact absurd (show b∈([]:List A6)from z) `s) `s
        |some u=>
          rcases D b with z|⟨T,xs,z⟩
          rw[q]at z;cases z;have I:=un.lZ b T _ z;obtain⟨e1,_⟩:=kD b _ z;obtain⟨e2,_⟩:=L b _ I;rw[e]at e1;cases e1;exact e2
  cases hk:K.lookup a with
  |some o=>
    -- qO qS is one of qO sH own objects
    have e:=G a o hk;rw[ha]at e;cases e;refine g (λ_=>_n) (λ_=>.inl rfl) (.inr ⟨_,vs.toArray,_,hk,rfl,rfl,rfl,by rw[A8,M];exact C,by simpa using rv⟩) (λb u z=>by have i:(_n:Option HO)=_s u:=z;cases i) (λb z=>absurd rfl z) λz=>absurd rfl z
  |none=>refine g (λb=>if b=a then _s (.nI {cls:=.type "list", data:=.seq vs.toArray} (.lst (ns.map V.int)))else _n) (λb=>?_) (.inl (.inr ⟨{cls:=.type "list", data:=.seq vs.toArray},if_pos rfl⟩)) (λb u z=>?_) (λb z=>?_) λ_=>hk;by_cases f:b=a;exact .inr ⟨_,_,if_pos f⟩;exact .inl (if_neg f);by_cases f:b=a;have i:=(if_pos f).symm.trans z;cases i;subst f;exact⟨ha,by rw[D1];exact C,vs,_,rv,ha⟩;have i:=(if_neg f).symm.trans z;cases i;by_cases f:b=a;exact f;exact absurd (if_neg f) z
theorem pJ{l:W.OpenLaw}{n k:Nat}{q:D4}{loose:List Str}{XP:(Str->Option A3)->F1->Prop}{YP:E8->F1->Prop}{d:jX}{K:gn->W.Frag}{CX:E8->MX}{sp:E8->Sp}{x:Str}
    (hn:l.most=_s n) (p:n<=sizeLine) (t:d.params.defaults=[]) (C:kG k gM)
    (I:∀(w:E8)(h:F1),YP w h->(K w.params).In h)
    (F:∀(w:E8)(mg:Str->Option A3)(j:A6)(h:F1),(K w.params).In h->h.Ns G3 mg->mg d.name=_s (.ref j) ->
      ∃fd:G4,(∀(s:A5)(u:A3),g8 s fd ⟨[u],[]⟩ [(x,u)]) /\
        ∀base:F1,(K w.params).In base->base.Ns G3 mg->kL l.prog w (K w.params) mg base (CX w) k j fd [x] (sp w))
    (A:∀(w:E8)(H:Hp)(a:A6)(ns:List Int),ns.length<=n->Tf H->Bv (K w.params) H a (ns.map V.int)->sp w [.ref a] H (λv _=>v=.bl _t) λ_ _ _=>False)
    (r:∀(w:E8)(H:Hp)(s:A5)(e:A3)(s':A5),CX w [] H s (λ_ _ _=>False) e s'->False) :
    W.WalkO q loose XP YP l.row.toRowW d [] (λf vs=>gp f vs):=by
  refine Att.mi hn t λw kP B mg mb j o pm P doc a vs ns G Y O hd N z y i c D=>?_;have m:=I w _ Y;obtain⟨fd,E,M⟩:=F w mg j _ m G.T.g z;exact OO m G.T.g G.T.b G.T.builtins G.T.nolimit D y i (C3 c p) C M E (λH L J=>A w H a ns c L J) λH e s'=>r w H B e s'
noncomputable def Aj(s:F0):Arguments:=match s with
 |.FunctionDef _ a _ _ _ _ _ _ _ _=>a
 |_=>{posonlyargs:=[],args:=[],vararg:=_n,kwonlyargs:=[],kw_defaults:=[],kwarg:=_n,defaults:=[]}
noncomputable def AM(s:F0):List F0:=match s with
 |.FunctionDef _ _ b _ _ _ _ _ _ _=>b
 |_=>[]
noncomputable def AD(s:F0):G9:=match s with
 |.FunctionDef _ _ _ _ _ _ sc _ _ _=>sc
 |_=>{kind:=.function,names:=[],isGenerator:=_f,isCoroutine:=_f}
abbrev Dz:MX:=λ_ _ _ _ _ _=>False
abbrev E0:XK:=λ_ _ _=>False
theorem UN{X:Cx}:FD Dz X E0:=λ_ _ _ _ _ _ _ h=>h.elim
structure m8 (K:W.Frag) (x qual:Str) (st:F0) (f:A6) (fd:G4):Prop where
 ex:∃(oc:A3)(od:Option A6)(kV doc pm:A3)(an:Option A6)(kY ct:A3)(pM:Array (Option A3)),
  fd=W.fnOf x qual (Aj st) (AM st) (AD st) .none kV doc pm an kY ct/\K.lookup f=_s ⟨oc,od,.func fd,pM⟩/\W.codeIn K kY qual=_t
 kp:W.keepIn K (.ref f)=_t
variable{x qual:Str}
section
variable{P:D4}{w:E8}{K:W.Frag}{mg:Str->Option A3}{base:F1}
theorem m8.ok{st:F0}{f:A6}{fd:G4}{N ps:List Str}{k:Nat}{sp:Sp}(F:m8 K x qual st f fd)(S:ko N ps (AD st))(len:∀vs H Q E,sp vs H Q E->vs.length=ps.length)
    (c:∀(kY:A3)(A:F2)(outer:List Env)(s:A5)(H:Hp)(vs:List V)(Q:VK)(E:XK),kG k (A.deeper (gE qual (AD st) s.heap.objs.size f kY))->sp vs H Q E ->
      ∃t,Be (DT Dz P w K mg base N qual (AD st) f kY A outer s H E).l0 (AM st) t/\t {nx:=λ_ H'=>Q .kB H',rt:=Q} (start N vs) H):kL P w K mg base Dz (k+1) f fd ps sp:=by
  obtain⟨oc,od,kV,doc,pm,an,kY,ct,pM,rfl,lk,a⟩:=F.ex;refine UX lk a S len λA outer s H vs Q E d b=>?_;obtain⟨t,h,q⟩:=c kY A outer s H vs Q E d b;exact⟨t,h.l0,q⟩
theorem m8.binds{st:F0}{f:A6}{fd:G4}{ps:List Str}(F:m8 K x qual st f fd)
    (h:∀(kV doc pm:A3)(an:Option A6)(kY ct:A3)(us:List A3),us.length=ps.length->i9 (W.fnOf x qual (Aj st) (AM st) (AD st) .none kV doc pm an kY ct) ⟨us,[]⟩=pure (ps.zip us)):Binds K fd ps []:=by
  obtain⟨oc,od,kV,doc,pm,an,kY,ct,pM,rfl,lk,a⟩:=F.ex;exact .all (h kV doc pm an kY ct)
theorem JC{st:F0}{f:A6}{oc:A3}{od an:Option A6}{pM:Array (Option A3)}{kV doc pm kY ct:A3}(l:K.lookup f=_s ⟨oc,od,.func (W.fnOf x qual (Aj st) (AM st) (AD st) .none kV doc pm an kY ct),pM⟩)
    (c:W.codeIn K kY qual=_t) (k:W.keepIn K (.ref f)=_t):m8 K x qual st f (W.fnOf x qual (Aj st) (AM st) (AD st) .none kV doc pm an kY ct):=⟨⟨oc,od,kV,doc,pm,an,kY,ct,pM,rfl,l,c⟩,k⟩
end
def Dd(H H':Hp):Prop:=∀b o,H b=_s o->H' b=_s o
noncomputable def AL(sc:G9)(x:Str):Bool:=match sc.names.lookup x with|some .cell=>_t|_=>_f
def Cx.inner(X:Cx)(scope:G9)(cl:List (Str×A6))(C:A6)(s:A5)(H:Hp)(fp:List A6):Cx:=
 {X with kP:=s,H₀:=H,env:=compEnvC scope cl C X.env,outer:=X.stack,ex:=fp,fn:=AL scope,xe:=λ_ _=>False}
theorem AZ{scope:G9}{env:Env}{x:Str}:∀{names:List (Str×NameKind)}, 
    ((names.map fun(n,k)=>if(k==NameKind.free&&env.scope.kind==.function&&env.kindOf n==_s .cell)then(n,NameKind.cell)else(n,k)).lookup x=_s .cell \/
     (names.map fun(n,k)=>if(k==NameKind.free&&env.scope.kind==.function&&env.kindOf n==_s .cell)then(n,NameKind.cell)else(n,k)).lookup x=_s .free) ->
    names.lookup x=_s .cell\/names.lookup x=_s .free
  |[],h=>by simp at h
  |(n,k)::r,h=>by
    have b:=@AZ scope env x r;cases hx:x==n with
    |true=>
      simp only[F3,E2]at h ⊢;by_cases a:(k==NameKind.free&&env.scope.kind==.function&&env.kindOf n==_s .cell)=_t;have c:k=.free:=by simp only[A1,beq_iff_eq]at a;exact a.1.1
      right;simp[hx,c];rw[if_neg a]at h;simp only[E2,hx]at h ⊢;exact h
    |false=>simp only[F3,E2]at h ⊢;by_cases a:(k==NameKind.free&&env.scope.kind==.function&&env.kindOf n==_s .cell)=_t;rw[if_pos a]at h;simp only[E2,hx]at h ⊢;exact b h;rw[if_neg a]at h;simp only[E2,hx]at h ⊢;exact b h
theorem Ba{env:Env}{x:Str}:∀{names:List (Str×NameKind)}, 
    (names.map fun(n,k)=>if(k==NameKind.free&&env.scope.kind==.function&&env.kindOf n==_s .cell)then(n,NameKind.cell)else(n,k)).lookup x=_s .local ->
    names.lookup x=_s .local
  |[],h=>by simp at h
  |(n,k)::r,h=>by
    have b:=@Ba env x r;cases hx:x==n with|true=>simp only[F3,E2]at h ⊢;by_cases a:(k==NameKind.free&&env.scope.kind==.function&&env.kindOf n==_s .cell)=_t;rw[if_pos a]at h;simp only[E2,hx]at h;cases h;rw[if_neg a]at h;simp only[E2,hx]at h ⊢;exact h|false=>simp only[F3,E2]at h ⊢;by_cases a:(k==NameKind.free&&env.scope.kind==.function&&env.kindOf n==_s .cell)=_t;rw[if_pos a]at h;simp only[E2,hx]at h ⊢;exact b h;rw[if_neg a]at h;simp only[E2,hx]at h ⊢;exact b h
variable{scope:G9}
theorem Er{env:Env}(o:∀x,scope.names.lookup x=_s .free->∃c,env.cells.lookup x=_s c)(q:∀x k,(x,k)∈scope.names->k=.free->scope.names.lookup x=_s .free) :
    ∃cl,closureFor scope env=pure cl/\(∀x c,cl.lookup x=_s c->env.cells.lookup x=_s c)/\∀x,scope.names.lookup x=_s .free->∃c,cl.lookup x=_s c:=by
  have go:∀(names:List (Str×NameKind))(cs:List (Str×A6)),(∀x k,(x,k)∈names->k=.free->∃c,env.cells.lookup x=_s c)->(∀x c,cs.lookup x=_s c->env.cells.lookup x=_s c) ->
      ∃cl,(forIn names cs (fun(x:Str×NameKind) (r:List (Str×A6))=>(if(x.2==NameKind.free)=_t then(cellOf env x.1 >>= λc=>(pure (ForInStep.yield ((x.1,c)::r)):Sem _))else pure (ForInStep.yield r))))=(pure cl:Sem _) /\
        (∀x c,cl.lookup x=_s c->env.cells.lookup x=_s c)/\(∀x,(cs.lookup x).isSome=_t->(cl.lookup x).isSome=_t)/\∀x,(x,NameKind.free)∈names->(cl.lookup x).isSome=true:=by
    intro names;induction names with
    |nil=>intro cs _ h2;exact⟨cs,by simp,h2,λ_ z=>z,λ_ z=>by simp at z⟩
    |cons p r i=>
      intro cs h1 h2;obtain⟨n,k⟩:=p;by_cases g:k=.free;subst g;obtain⟨c,j⟩:=h1 n _ B8 rfl;have s:cellOf env n=pure c:=by unfold cellOf;rw[j]
      obtain⟨cl,e,a,b,d⟩:=i ((n,c)::cs) (λx k f g=>h1 x k (B5 _ f) g) (λx u f=>by
        rw[E2]at f;cases uL:x==n with
        | true => rw[uL]at f; simp at f; subst f; have : x = n := by simpa using uL
                  rw[this];exact j
        |false=>rw[uL]at f;exact h2 x u f)
      refine⟨cl,?_,a,λx f=>b x ?_,λx f=>?_⟩;rw[ie];simp only[s];simpa using e;rw[E2];cases uL:x==n with|true=>rfl|false=>exact f
      rcases E3.mp f with z|z
      injection z with m _
      subst m;exact b x (by rw[E2];simp);exact d x z;have t:(k==NameKind.free)=false:=by simpa using g
      obtain⟨cl,e,a,b,d⟩:=i cs (λx k f g=>h1 x k (B5 _ f) g) h2;refine⟨cl,?_,a,b,λx f=>?_⟩;rw[ie];simp only[t];simpa using e;rcases E3.mp f with z|z
      injection z with _ l
      exact absurd l.symm g;exact d x z
  obtain⟨cl,e,a,_,d⟩:=go scope.names [] (λx k f g=>o x (q x k f g)) (λx c h=>by simp at h);refine⟨cl,?_,a,λx f=>M6.mp (d x (E1 f))⟩;unfold closureFor;simpa using e
theorem Ac:∀(names:List (Str×NameKind))(n:Nat)(a:List (Str×A6)),J4 n names a=J4 n names []++a
 |[],n,a=>by simp[J4]
 |(x,k)::r,n,a=>by unfold J4;split;rw[Ac r (n+1) ((x,n)::a),Ac r (n+1) [(x,n)],J7];rfl;exact Ac r n a
theorem Bc{x:Str}{c:A6}:∀(names:List (Str×NameKind))(n:Nat),(x,c)∈J4 n names []->(x,NameKind.cell)∈names
 |[],n,h=>by simp[J4]at h
 |(y,k)::r,n,h=>by
  unfold J4 at h;split at h;rename_i a;have a:k=.cell:=by simpa using a
  rw[Ac]at h;rcases D8.mp h with h|h
  exact B5 _ (Bc r _ h);rw[G6]at h;cases h;rw[a];exact B8;exact B5 _ (Bc r _ h)
theorem Bd{x:Str}:∀(names:List (Str×NameKind))(n:Nat),(x,NameKind.cell)∈names->∃c,(J4 n names []).lookup x=_s c
 |[],n,h=>by cases h
 |(y,k)::r,n,h=>by
  unfold J4;by_cases a:(x,NameKind.cell)∈r;split;rw[Ac];obtain⟨c,e⟩:=Bd r (n+1) a;exact⟨c,by rw[L9,e];rfl⟩;exact Bd r n a;rcases E3.mp h with e|e
  cases e;simp only[beq_self_eq_true,if_true];rw[Ac];cases q:(J4 (n+1) r []).lookup x with|some c=>exact⟨c,by rw[L9,q];rfl⟩|none=>exact⟨n,by rw[L9,q];simp⟩
  exact absurd e a
theorem BK{M:iW}{A:F2}{E:A3->A5->Prop}{s:A5}{scope:G9}{globals:A6}{a:List (Str×A6)}{qual:Str}{outer:Env}{Q:Env->A5->Prop}
    (c:Q {scope:=scope,locals:=s.heap.objs.size,globals:=globals,cells:=J4 (s.heap.objs.size+1) scope.names a,qual:=qual,func:=_n,code:=outer.code,frame:=outer.frame,builtins:=outer.builtins} {s with heap:=jQ (s.heap.push {cls:=.type "dict", data:=.dict #[]}) scope.names}) :
    B7 M A (gG scope globals a [] qual _n .none (_s outer)) Q E s:=by
  simp only[gG,Option.isSome_some,if_true];refine A0 (wpAny_alloc ?_);refine A0 (wpAny_layCells _ (λname kind cells=>by cases b:kind==NameKind.cell<;>simp[b]) _ _ _ _ ?_);rw[show({s with heap:=s.heap.push {cls:=.type "dict", data:=.dict #[]} }:A5).heap.objs.size=s.heap.objs.size+1 from W2 ..];rw[List.forIn_nil];exact A0 (A7 (A7 c))
noncomputable def kc(N:List Str)(sc scope:G9)(js:List Nat):Bool:=
 (match scope.kind with|.function=>_t|_=>_f) &&
 scope.names.all (λp=>(match p.2 with
  |.cell=>(match scope.names.lookup p.1 with|some .cell=>_t|_=>_f)
  |.local=>(match scope.names.lookup p.1 with|some .local=>_t|_=>_f)
  |.free=>(match scope.names.lookup p.1 with|some .free=>_t|_=>_f)&&(match sc.names.lookup p.1 with|some .cell=>_t|some .free=>_t|_=>_f)
  |_=>_t)) &&
 (N.zipIdx.all λp=>(match scope.names.lookup p.1 with|some .local=>js.contains p.2|some .cell=>js.contains p.2|_=>_t))
structure lJ (N:List Str) (sc scope:G9) (js:List Nat):Prop where
 kind:scope.kind=.function
 rP:∀x k,(x,k)∈scope.names->k=.cell->scope.names.lookup x=_s .cell
 pv:∀y∈scope.names,y.2=.local->scope.names.lookup y.1=_s .local
 pw:∀x k,(x,k)∈scope.names->k=.free->scope.names.lookup x=_s .free
 fr:∀x,scope.names.lookup x=_s .free->sc.names.lookup x=_s .cell\/sc.names.lookup x=_s .free
 vL:∀(i:Nat) x,N[i]?=_s x->scope.names.lookup x=_s .local\/scope.names.lookup x=_s .cell->i∈js
variable{js:List Nat}
theorem Ek{N:List Str}{sc:G9}(h:kc N sc scope js=_t):lJ N sc scope js:=by
  unfold kc at h;rw[A1,A1]at h;obtain⟨⟨h1,h2⟩,h3⟩:=h;rw[D6]at h2 h3;refine⟨?_,λx k a e=>?_,λy a e=>?_,λx k a e=>?_,λx e=>?_,λi x e1 e2=>?_⟩;cases q:scope.kind<;>rw[q]at h1<;>first|rfl|cases h1
  have:=h2 _ a;rw[e]at this;dsimp only at this;split at this;assumption;cases this;have:=h2 y a;rw[e]at this;dsimp only at this;split at this;assumption;cases this;have:=h2 _ a;rw[e]at this;dsimp only at this;rw[A1]at this;have:=this.1;split at this;assumption;cases this;have:=h2 _ (E1 e);dsimp only at this;rw[A1]at this;have:=this.2;split at this;left;assumption;right;assumption;cases this;have hm:(x,i)∈N.zipIdx:=by rw[List.mem_zipIdx_iff_getElem?];exact e1
  have:=h3 _ hm;dsimp only at this;rcases e2 with e2|e2
  rw[e2]at this;dsimp only at this;simpa using this;rw[e2]at this;dsimp only at this;simpa using this
def blank(js:List Nat)(σ:St):St:=js.foldl (λσ j=>σ.set j _n) σ
theorem kn(js:List Nat):∀σ:St,(blank js σ).length=σ.length:=by
 induction js with|nil=>intro σ;rfl|cons j r a=>intro σ;unfold blank;rw[ig];have:=a (σ.set j _n);unfold blank at this;rw[this,C8]
theorem Dx(js:List Nat):∀(σ:St)(i:Nat)(v:V),(blank js σ)[i]?=_s (_s v)->i∉js/\σ[i]?=_s (_s v):=by
 induction js with|nil=>intro σ i v h;exact⟨by simp,h⟩|cons j r c=>intro σ i v h;unfold blank at h;rw[ig]at h;obtain⟨a,b⟩:=c (σ.set j _n) i v h;by_cases e:i=j;subst e;by_cases d:i < σ.length;rw[C5 d]at b;cases b;rw[O4 (by rw[C8];omega)]at b;cases b;rw[C6 (Ne.symm e)]at b;exact⟨by simp[e,a],b⟩
def MW(js:List Nat)(g:TG):Prop:=∀x σ H Q,g x σ H Q->g x σ H λa b=>(a.length=σ.length/\∀i,i∉js->a[i]?=σ[i]?)/\Q a b
theorem Od{j:Nat}(h:j∈js):MW js (BX j):=λx σ H Q q=>⟨⟨C8 ..,λi hi=>C6 (fun(e:j=i)=>hi (e▸h))⟩,q⟩
def IA(js:List Nat)(g:Gg):Prop:=∀x σ H Q,g x σ H Q->g x σ H λa b=>(a.length=σ.length/\∀i,i∉js->a[i]?=σ[i]?)/\Q a b
theorem HX:IA js HZ:=λx σ H Q ⟨e,q⟩=>⟨e,⟨rfl,λ_ _=>rfl⟩,q⟩
theorem Lr{j:Nat}{u:Gg}(h:j∈js)(g:IA js u):IA js (Bj (BX j) u):=by
 rintro x σ H Q ⟨v,r,e,q⟩;refine⟨v,r,e,?_⟩;have:=g r (σ.set j (_s v)) H Q q;show u r (σ.set j (_s v)) H _;have f:∀(P P':St->Hp->Prop),(∀a b,P a b->P' a b)->True:=λ_ _ _=>trivial;have e2:(λc d=>(c.length=(σ.set j (_s v)).length/\∀(i:Nat),i∉js->c[i]?=(σ.set j (_s v))[i]?)/\Q c d)=(λc d=>(c.length=σ.length/\∀(i:Nat),i∉js->c[i]?=σ[i]?)/\Q c d):=by
  funext c d;have e3:(∀(i:Nat),i∉js->c[i]?=(σ.set j (_s v))[i]?)=(∀(i:Nat),i∉js->c[i]?=σ[i]?):=by apply propext;constructor;intro k i hi;rw[k i hi,C6 (fun(e:j=i)=>hi (e▸h))];intro k i hi;rw[k i hi,C6 (fun(e:j=i)=>hi (e▸h))]
  rw[e3,C8]
 rw[e2]at this;exact this
theorem KN{K:W.Frag}{n:Nat}{u:Gg}(b:IA js u):MW js (Wu K n u):=by rintro x σ H Q ⟨a,xs,e,c,d,q⟩;exact⟨a,xs,e,c,d,b _ _ _ _ q⟩
variable{a:A6}
section
variable{X:Cx}{pins:List (A6×Obj)}{σ:St}{H:Hp}{s:A5}{scope:G9}{cl:List (Str×A6)}{js:List Nat}{fp:List A6}{C D:A6}
theorem Inv.qZ(I:Inv X pins σ H s)(h:s.heap.objs.size<=a):a∉EI X.stack:=λb=>by
 rcases E3.mp (I.kz a b)with e|e
 exact absurd (B1 I.lt (e▸h)) (G7 _);exact I.sC h e
theorem Inv.mR(I:Inv X pins σ H s){c:A6}(e:X.env.cells.lookup x=_s c):c < s.heap.objs.size:=by obtain⟨v,q⟩:=I.cell x c e;exact q.lt
theorem Inv.p7(I:Inv X pins σ H s){p:A6×Obj}(b:p∈X.pn++pins):p.1 < s.heap.objs.size:=B6 (I.pin p b).1
structure o4 (X:Cx) (scope:G9) (cl:List (Str×A6)) (s:A5) (C:A6):Prop where
 old:∀x c,cl.lookup x=_s c->AL scope x=_f->X.env.cells.lookup x=_s c
 own:∀x c,cl.lookup x=_s c->AL scope x=_t->s.heap.objs.size<=c/\C < c
 inj:∀x y c,cl.lookup x=_s c->cl.lookup y=_s c->AL scope x=_t->AL scope y=_t->x=y
 fr:∀x,scope.names.lookup x=_s .free->∃c,cl.lookup x=_s c
 has:∀x,AL scope x=_t->∃c,cl.lookup x=_s c
theorem o4.ne(L:o4 X scope cl s C){c b:A6}(e:cl.lookup x=_s c)(d:b < s.heap.objs.size)(h:∀x c,X.env.cells.lookup x=_s c->c≠b):c≠b:=by
 cases q:AL scope x with|false=>exact h x c (L.old x c e q)|true=>exact R9 (B1 d (L.own x c e q).1)
theorem Sn{d:List (Str×A6)}(j:lJ X.N X.env.scope scope js)(g:∀x c,d.lookup x=_s c->X.env.cells.lookup x=_s c)(i:∀x,scope.names.lookup x=_s .free->∃c,d.lookup x=_s c)
    {h:F1} (k:s.heap.objs.size<=C) (hs:h.objs.size=C+1):o4 X scope (J4 (C+1) scope.names d) s C/\∀x c,(J4 (C+1) scope.names d).lookup x=_s c->AL scope x=_t->∃v,(jQ h scope.names).IsCell c v:=by
  have ok:=cellsFrom_ok scope.names h (C+1) [] ⟨λ_ _ hm=>(nomatch hm),hZ⟩ (by rw[hs];exact C7 _);rw[hs]at ok;rw[Ac];generalize f:J4 (C+1) scope.names []=own at ok;have mem:∀x c,own.lookup x=_s c->AL scope x=true:=λx c e=>by have:=j.rP x _ (Bc scope.names (C+1) (by rw[f];exact E1 e)) rfl;unfold AL;rw[this]
  have has:∀x,AL scope x=_t->∃c,own.lookup x=_s c:=λx e=>by unfold AL at e;split at e;rename_i q;obtain⟨c,z⟩:=Bd scope.names (C+1) (E1 q);rw[f]at z;exact⟨c,z⟩;cases e
  have b:∀x c,(own++d).lookup x=_s c->AL scope x=_t->own.lookup x=_s c:=λx c e q=>by obtain⟨l,z⟩:=has x q;rw[L9,z]at e;rw[z];exact e
  have no:∀x,AL scope x=_f->(own++d).lookup x=d.lookup x:=λx q=>by
    rw[L9];cases z:own.lookup x with|none=>rfl|some c=>rw[mem x c z]at q;cases q
  refine⟨⟨λx c e q=>g x c (by rw[<- no x q];exact e),λx c e q=>?_,λx y c e1 e2 q1 q2=>?_,λx e=>?_,λx q=>?_⟩,λx c e q=>?_⟩;have:=(ok.empty x c (E1 (b x c e q))).2;exact⟨C3 k (Nat.le_of_succ_le this),this⟩;exact PySem.name_of_addr ok.apart (E1 (b x c e1 q1)) (E1 (b y c e2 q2));obtain⟨c,z⟩:=i x e;exact⟨c,by rw[no x (by unfold AL;rw[e])];exact z⟩;obtain⟨c,z⟩:=has x q;exact⟨c,by rw[L9,z];rfl⟩;exact⟨_n,(ok.empty x c (E1 (b x c e q))).1⟩
theorem Inv.kc(I:Inv X pins σ H s)(i:lJ X.N X.env.scope scope js)(hf:∀b∈fp,kF X pins H b)(f:∀b∈fp,b < s.heap.objs.size)(g:s.heap.objs.size<=C)
    (L:o4 X scope cl s C):(X.inner scope cl C s H fp).Ok where
  mod:=I.ok.mod
  kind:=i.kind
  glob:=I.ok.glob
  blt:=I.ok.blt
  above:=g
  inj:=λx y c a b=>by cases hx:AL scope x<;>cases hy:AL scope y;exact I.ok.inj x y c (L.old x c a hx) (L.old y c b hy);exact absurd (I.mR (L.old x c a hx)) (Nat.not_lt.mpr (L.own y c b hy).1);exact absurd (I.mR (L.old y c b hy)) (Nat.not_lt.mpr (L.own x c a hx).1);exact L.inj x y c a b hx hy
  has:=λx h=>by
    rcases AZ (scope:=scope) (env:=X.env) (names:=scope.names) h with q|q
    exact L.has x (by unfold AL;rw[q]);exact L.fr x q
  qy:=λx c h e=>(L.own x c e h).1
  hd:=I.ok.hd
  frames:=I.ok.frames
  rF:=.inl rfl
  uX:=λb d=>⟨D2 (B1 (f b d) g),λx c e=>L.ne e (f b d) (hf b d).2.2.2.2.1⟩
  bs:=I.bs
  oB:=C3 I.ok.oB I.sz
  mx:=λb o e d=>by
    rcases(hf b d).2.2.2.1 with z|z
    exact I.ok.mx b o e z;exact absurd (B1 (B6 e) (C3 I.ok.oB z)) (G7 _)
  nU:=λb d z=>by
    rcases E3.mp (I.kz b z)with e|e
    exact(hf b d).2.1 e;exact(hf b d).2.2.1 e
  lI:=I.stack
  pV:=I.lg
theorem Inv.enter{h':F1}{tk:Nat}{o:Obj}(I:Inv X pins σ H s)(d:lJ X.N X.env.scope scope js)(hf:∀b∈fp,kF X pins H b)(G:∀b∈fp,b < s.heap.objs.size)(h:s.heap.objs.size<=C)(A:s.heap.objs.size<=D)(E:D≠C)
    (L:o4 X scope cl s C) (K:∀x c,cl.lookup x=_s c->AL scope x=_t->∃v,h'.IsCell c v)
    (k:∀b u,s.heap.get? b=_s u->h'.get? b=_s u) {m:Str->Option A3} (J:h'.Ns C m) (P:h'.get? D=_s o) (F:∀v,o.data≠.cell v) :
    Inv (X.inner scope cl C s H fp) (pins++[(D,o)]) (blank js σ) H {s with heap:=h',toks:=tk} where
  ok:=I.kc d hf G h L
  os:=rfl
  bare:=I.bare
  base:=Un.kept k
  loc:=by
    refine⟨m,J,λi x v e1 e2 e3=>?_⟩;obtain⟨g,e2⟩:=Dx js σ i v e2;have free:scope.names.lookup x=_s .free:=by
      rcases e3 with q|q|q
      exact absurd (d.vL i x e1 (.inl (Ba (env:=X.env) (names:=scope.names) q))) g;rcases AZ (scope:=scope) (env:=X.env) (names:=scope.names) (.inl q)with z|z
      exact absurd (d.vL i x e1 (.inr z)) g;exact z;rcases AZ (scope:=scope) (env:=X.env) (names:=scope.names) (.inr q)with z|z
      exact absurd (d.vL i x e1 (.inr z)) g;exact z
    have w:=d.fr x free;obtain⟨m0,U,B⟩:=I.loc;obtain⟨u,r,l⟩:=B i x v e1 e2 (w.elim (λz=>.inr (.inl z)) λz=>.inr (.inr z));refine⟨u,r,?_⟩;rcases l with⟨z,_⟩|⟨_,c,Q,M⟩
    have f:X.env.scope.names.lookup x=_s .local:=z;rcases w with y|y
    rw[y]at f;cases f;rw[y]at f;cases f;obtain⟨j,t⟩:=L.fr x free;have:j=c:=by have q:=L.old x j t (by unfold AL;rw[free]);rw[Q]at q;exact(B2 q).symm
    subst this;obtain⟨oc,q1,q2⟩:=M;refine .inr ⟨?_,j,t,oc,k _ _ q1,q2⟩;rcases e3 with q|q|q
    have:=Ba (env:=X.env) (names:=scope.names) q;rw[free]at this;cases this;exact .inl q;exact .inr q
  cell:=λx c e=>by
    cases q:AL scope x with|true=>exact K x c e q|false=>obtain⟨v,oc,q1,q2⟩:=I.cell x c (L.old x c e q);exact⟨v,oc,k _ _ q1,q2⟩
  free:=I.kD.fresh h
  ka:=λx c e=>by
    cases q:AL scope x with|true=>exact I.kD.fresh (L.own x c e q).1|false=>exact I.ka x c (L.old x c e q)
  pin:=λp O=>by
    have n:p∈X.pn++(pins++[(D,o)]):=O;rw[<- J7]at n;rcases D8.mp n with z|z
    obtain⟨a1,a2,T,S,R⟩:=I.pin p z;refine⟨k _ _ a1,a2,D2 (B1 (B6 a1) h),λq=>?_,R⟩;rcases E3.mp (I.kz p.1 q)with e|e
    exact T e;exact S e;have e:p=(D,o):=by simpa using z
    subst e;exact⟨P,I.kD.fresh A,E,I.qZ A,F⟩
  kD:=I.kD.kept k
  len:=(kn js σ).trans I.len
theorem Inv.leave{Y:Cx}{H':Hp}{s':A5}{τ:St}{j:List (A6×Obj)}{ys:List V}{g:List A3}{n:Nat}(I:Inv X pins σ H s)(hf:∀b∈fp,kF X pins H b)(t:Y=X.inner scope cl C s H fp)(J:Inv Y j τ H' s')(v:s.heap.objs.size<=D)
    (h:H' D=_n) (l:ys.length<=sizeLine) (p:AH ys g) (r:s'.heap.get? D=_s {cls:=.type "list", data:=.seq g.toArray n}) :
    Inv X pins σ (upd H' D (.lst ys)) s':=by
  subst t;have un:Un (EI X.stack) fp H H' s.heap s'.heap:=J.base;have ne:∀{b:A6}{o:Obj},s.heap.get? b=_s o->b≠D:=λe=>D2 (B1 (B6 e) v);have d:∀{b:A6}{o:HO},H' b=_s o->b≠D:=λe z=>by rw[z,h]at e;cases e
  have i:Un (EI X.stack) fp H (upd H' D (.lst ys)) s.heap s'.heap:=
    ⟨un.keep,un.slot,λb o e k m=>by rw[AC (ne e)];exact un.free b o e k m,un.there,λb xs e=>by have:=un.lu b xs e;rw[AC (d this)];exact this,
      λb o u e=>by have:=un.lZ b o u e;rw[AC (d this)];exact this,λb ps e=>by obtain⟨more,q⟩:=un.lz b ps e;exact⟨more,by rw[AC (d q)];exact q⟩⟩
  have kD:Cn X.prog X.w (upd H' D (.lst ys)) s'.heap:=λb u e=>by by_cases f:b=D;subst f;rw[AF]at e;cases e;exact⟨l,g,n,p,r⟩;rw[AC f]at e;exact(J.kD b u e).mK (λ_ _ _ q=>q) (λc q=>by rw[AC (d q)];exact q) λc xs q=>by rw[AC (d q)];exact q
  exact I.td J.os i kD J.bare λb f=>by obtain⟨_,f1,_,A,f4,y⟩:=hf b f;exact⟨A,f1,f4,y⟩
end
section
variable{X:Cx}
def ZR:V->Option Int->Option Int->Hp->VK->Prop:=λx lo hi H Q=>∃z,x=.str z/\z.length<=sizeLine/\Q (.str (Y9 z lo hi)) H
theorem Vc:Ma X ZR:=by
 intro pins s σ H x v p n lo hi sl Q I g hs m f h;obtain⟨z,rfl,c,q⟩:=h;obtain⟨t,rfl⟩:=g;have b:∀t' k,EP X pins σ Q (.str (Y9 z lo hi) t') {s with toks:=k}:=λt' k=>⟨.str _,H,I.tok k,⟨_,rfl⟩,q⟩;refine⟨"str", _,F.slot_str_getitem.lookup,jF _ _ _,?_⟩;obtain⟨o,e1,e2,e3⟩:=hs;cases m with
 |none=>
  cases f with|none=>exact N4 (l:=_n) (u:=_n) (st:=_n) ⟨o,e1,e2,e3⟩ rfl (T9 ⟨C3 (Z8 z _ _) c,b⟩)|int j d=>exact N4 (l:=_n) (u:=_s (j,d)) (st:=_n) ⟨o,e1,e2,e3⟩ rfl (T9 ⟨C3 (Z8 z _ _) c,b⟩)
 |int i e=>
  cases f with|none=>exact N4 (l:=_s (i,e)) (u:=_n) (st:=_n) ⟨o,e1,e2,e3⟩ rfl (T9 ⟨C3 (Z8 z _ _) c,b⟩)|int j d=>exact N4 (l:=_s (i,e)) (u:=_s (j,d)) (st:=_n) ⟨o,e1,e2,e3⟩ rfl (T9 ⟨C3 (Z8 z _ _) c,b⟩)
theorem IS{ys:List Str}:∀{us:List A3},AH (ys.map V.str) us->StrsAre us ys:=by
 induction ys with
 |nil=>intro us r;rw[Z7]at r;cases r;exact .nil
 |cons n ns d=>
  intro us r;rw[F3]at r;cases r with|cons c b=>obtain⟨t,e⟩:=c;subst e;exact .cons n t (d b)
def NY(K:W.Frag):V->List V->Hp->VK->Prop:=λx vs H Q=>∃b l ys,x=.str b/\vs=[.ref l]/\Bv K H l (ys.map V.str)/\(ys.map (·.length)).sum+ys.length * b.length<=16777216/\Q (.str (jm b ys)) H
theorem SH:bX X "str.join" (NY X.K):=by intro pins s σ H x vs v us Q I c rv h;obtain⟨b,l,ys,rfl,rfl,f,e,q⟩:=h;obtain⟨t,rfl⟩:=c;obtain⟨u,rfl,d⟩:=rv.one;cases d;obtain⟨g,r,p,_⟩:=I.list f;exact join_list p.isList (by simpa using IS r) e λt' k=>⟨.str _,H,I.tok k,⟨_,rfl⟩,q⟩
end
structure Fx (P:D4) (w:E8) (K:W.Frag) (mg:Str->Option A3) (base:F1) (k:Nat) (x:Str) (ps:List Str) (sp:Sp):Prop where
 ex:∃(f:A6)(fd:G4),kL P w K mg base Dz k f fd ps sp/\mg x=_s (.ref f)/\W.keepIn K (.ref f)=_t/\Binds K fd ps []
section
variable{X:Cx}{k j:Nat}{x:Str}{ps:List Str}{sp:Sp}{p pos:Pos}{e:Expr}{es:List Expr}{t:TA}
abbrev bN(sp:Sp)(t:TA):TE:=λσ H Q=>t σ H λvs b=>sp vs b Q E0
theorem UL(F:Fx X.prog X.w X.K X.mg X.base k x ps sp)(i:kG j X.A)(c:k<=j)(m:Gl X x)(ha:PA X (e::es) t)(g:(x==("__debug__" : Str))=false:=by decide)
    (n:E5 (e::es) X.env=(_f,L7 e X.env)::E5 es X.env:=by rfl) (d:(R8 pos (E5 es X.env)).any (·.1)=false:=by rfl):PE X (.Call (.Name x p) (e::es) [] pos) (bN sp t):=by
  obtain⟨f,fd,G,hm,l,o⟩:=F.ex;have q:=Ru (p:=p) (pos:=pos) G (i.mono c) m hm l o .nil UN ha g n d;intro pins s σ H Q I h;refine q pins s σ H Q I ?_;show t σ H λvs b=>sp (vs++[]) b Q E0;have e2:(fun(vs:List V) (b:Hp)=>sp (vs++[]) b Q E0)=(λvs b=>sp vs b Q E0):=by funext vs b;rw[F8]
  rw[e2];exact h
theorem Nu(F:Fx X.prog X.w X.K X.mg X.base k x ps sp)(d:kG j X.A)(b:k<=j)(i:Gl X x)(c:(x==("__debug__" : Str))=false:=by decide):PE X (.Call (.Name x p) [] [] pos) (bN sp RD):=by obtain⟨f,fd,G,hm,g,l⟩:=F.ex;have q:=Nx (p:=p) (pos:=pos) G (d.mono b) i hm g l .nil UN c;intro pins s σ H Q I h;exact q pins s σ H Q I h
end
variable{H:Hp}{Q:VK}{xs:List V}{p:A6}
section
variable{X:Cx}
def Za:R2:=λx y H Q=>∃i j,x=.str i/\y=.str j/\i.length+j.length<=sizeLine/\Q (.str (i++j)) H
def HA(K:W.Frag):R2:=λx y H Q=>(UF λi j=>.int (i+j)) x y H Q\/Za x y H Q\/ZZ x y H Q\/UG K x y H Q
theorem SA:Cs X (binaryOp .Add) (HA X.K):=Wa.or (Ig.or (Ie.or Rx))
theorem QW{K:W.Frag}{i j:Int}(q:Q (.int (i+j)) H):HA K (.int i) (.int j) H Q:=.inl ⟨i,j,rfl,rfl,q⟩
theorem QU{K:W.Frag}{i j:Str}(h:i.length+j.length<=1000000)(q:Q (.str (i++j)) H):HA K (.str i) (.str j) H Q:=.inr (.inl ⟨i,j,rfl,rfl,C3 h `d,q⟩)
theorem QV{K:W.Frag}{b:A6}{ys:List V}(ha:H a=_s (.lst xs))(c:H b=_s (.lst ys))(h:xs.length+ys.length<=1000000)(q:∀p,H p=_n->Q (.ref p) (upd H p (.lst (xs++ys)))):HA K (.ref a) (.ref b) H Q:=
 .inr (.inr (.inl ⟨a,b,xs,ys,rfl,rfl,ha,c,C3 h `d,q⟩))
theorem RV{K:W.Frag}{i:Int}{v:V}(h:H p=_s (.lst xs))(e:EJ xs i=_s v)(q:Q v H):Vr K (.ref p) (.int i) H Q:=.inl ⟨p,xs,i,v,rfl,rfl,.inl (.inl h),e,q⟩
theorem Vp{K:W.Frag}{i:Int}{v:V}(h:Bv K H p xs)(e:EJ xs i=_s v)(q:Q v H):Vr K (.ref p) (.int i) H Q:=.inl ⟨p,xs,i,v,rfl,rfl,h,e,q⟩
theorem RU{K:W.Frag}{z:Str}{i:Int}{c:Nat}(h:z.length<=1000000)(e:EJ z.cps.toList i=_s c)(q:Q (.str ⟨#[c]⟩) H):Vr K (.str z) (.int i) H Q:=.inr (.inr ⟨z,i,c,rfl,rfl,C3 h `d,e,q⟩)
theorem Ws:MV X (Vr X.K):=Wr
def NW(K:W.Frag):V->Option Int->Option Int->Hp->VK->Prop:=λx lo hi H Q=>ZR x lo hi H Q\/ZS K x lo hi H Q\/ZQ K x lo hi H Q
theorem Ve:Ma X (NW X.K):=Vc.or (RL.or Vb)
theorem RI{K:W.Frag}{z:Str}{lo hi:Option Int}(h:z.length<=1000000)(q:Q (.str (Y9 z lo hi)) H):NW K (.str z) lo hi H Q:=.inl ⟨z,rfl,C3 h `d,q⟩
theorem NL{K:W.Frag}{lo hi:Option Int}(h:Bv K H a xs)(q:∀p,H p=_n->Q (.ref p) (upd H p (.lst (DU xs lo hi)))):NW K (.ref a) lo hi H Q:=.inr (.inl ⟨a,xs,rfl,h,q⟩)
theorem RJ{K:W.Frag}{lo hi:Option Int}(h:H a=_s (.lst xs))(q:∀p,H p=_n->Q (.ref p) (upd H p (.lst (DU xs lo hi)))):NW K (.ref a) lo hi H Q:=NL (.inl (.inl h)) q
theorem RM:Hy X NX:=set_list
def LO(K:W.Frag):List V->Hp->VK->Prop:=λxs H Q=>∃x n,xs=[x]/\bE K x H n/\Q (.int n) H
theorem MJ:BS X (.builtin "len") (LO X.K):=Pf
theorem Lj{K:W.Frag}{z:Str}(h:z.length<=1000000)(q:Q (.int z.length) H):LO K [.str z] H Q:=⟨_,_,rfl,⟨C3 h `d,rfl⟩,q⟩
theorem OM{K:W.Frag}(h:Bv K H p xs)(q:Q (.int xs.length) H):LO K [.ref p] H Q:=⟨_,_,rfl,.inl ⟨xs,h,rfl⟩,q⟩
theorem SL{K:W.Frag}(h:H p=_s (.lst xs))(q:Q (.int xs.length) H):LO K [.ref p] H Q:=OM (.inl (.inl h)) q
abbrev cU(K:W.Frag)(tl:TE):TI:=λσ H R=>tl σ H λx b=>∃a xs,x=.ref a/\((Bv K b a xs/\R (bG K a) b)\/(DC K b a xs/\R (bZ K a) b))
theorem WI{tg l:Expr}{tl:TE}(m:PE X l tl):PI X tg l (cU X.K tl):=by
 intro pins s σ H R I h;refine Ah (m pins s σ H _ I h) λv s1 ⟨x,i,c,j,q1⟩=>?_;obtain⟨a,xs,e,q⟩:=q1;subst e;cases j;rcases q with⟨d,q⟩|⟨d,q⟩
 obtain⟨g,rv,p,k⟩:=c.list d;refine iB p.isList ?_;refine⟨s1.heap.objs.size,[s1.heap.objs.size],_,_,i,rfl,c.kept (t':=s1.toks) λb o e=>B0 _ e,LA a _,⟨_,E7 _ rfl,rfl,rfl⟩,λb f=>?_,q⟩;have e:b=s1.heap.objs.size:=by simpa using f
 subst e;exact c.kA (C7 _) (c.kD.fresh (C7 _));obtain⟨g,rv,p,k⟩:=c.tuple d;refine wpAny_pyIter_tuple (show s1.heap.IsTuple a g.toArray from p) ?_;refine⟨s1.heap.objs.size,[s1.heap.objs.size],_,_,i,rfl,c.kept (t':=s1.toks) λb o e=>B0 _ e,IL a _,⟨_,E7 _ rfl,rfl,rfl⟩,λb f=>?_,q⟩;have e:b=s1.heap.objs.size:=by simpa using f
 subst e;exact c.kA (C7 _) (c.kD.fresh (C7 _))
end
theorem Ae(h:H p=_n)(o:HO):Dd H (upd H p o):=λb u q=>by rw[AC (AI q h)];exact q
section
variable{X:Cx}
theorem cP(K:W.Frag)(h:X.K=K:=by rfl):MV X (Vr K):=by subst h;exact Ws
theorem MH(K:W.Frag)(h:X.K=K:=by rfl):BS X (.builtin "len") (LO K):=by subst h;exact MJ
theorem OF(K:W.Frag)(h:X.K=K:=by rfl):bX X "str.join" (NY K):=by subst h;exact SH
end
noncomputable def tx(l:List Nat):Str:=⟨l.toArray⟩
theorem Qw(l:List Nat):(tx l).cps.toList=l:=by simp[tx]
theorem BY(l:List Nat):(tx l).length=l.length:=by simp[tx,Str.length]
theorem IK(a b:List Nat):tx a++tx b=tx (a++b):=by show(⟨(tx a).cps++(tx b).cps⟩:Str)=_;simp[tx]
theorem VP{a b:List Nat}(h:tx a=tx b):a=b:=by have:=congrArg (λz:Str=>z.cps.toList) h;simpa[tx]using this
def PY(l:List Nat)(lo hi:Option Int):List Nat:=(l.drop (HT.kH l.length 0 lo)).take (HT.kH l.length l.length hi-HT.kH l.length 0 lo)
theorem Nj(l:List Nat)(a k:Nat)(h:a+k<=l.length):((D0 k).map λj=>a+j).filterMap (λi=>l[i]?)=(l.drop a).take k:=by
  apply iC;intro i;by_cases hi:i < k;rw[X8 hi,List.getElem?_drop];have e:(List.map (λj=>a+j) (D0 k)).filterMap (λi=>l[i]?)=(D0 k).map λj=>l[a+j]!:=by
    rw[V8];rw[show(λi=>l[i]?)∘(λj=>a+j)=λj=>l[a+j]? from rfl];have:∀(r:List Nat),(∀j∈r,a+j < l.length)->r.filterMap (λj=>l[a+j]?)=r.map λj=>l[a+j]!:=by
      intro r;induction r with|nil=>intro _;rfl|cons x r f=>intro d;have c:=d x B8;rw[K6,A4 c,F3,f λj b=>d j (B5 _ b)];simp[c]
    exact this _ λj b=>by have:=L6.mp b;omega
  rw[e,C4,J9 hi];have g:a+i < l.length:=by omega
  simp[g];have e1:(((D0 k).map λj=>a+j).filterMap (λi=>l[i]?)).length<=k:=C3 (List.length_filterMap_le _ _) `s;rw[O4 `o,O4 (by rw[N3];omega)]
theorem Mm(l:List Nat)(lo hi:Option Int):Y9 (tx l) lo hi=tx (PY l lo hi):=by
 have c:(tx l).length=l.length:=BY l;have d:O5 lo hi 1 l.length=(D0 (HT.kH l.length l.length hi-HT.kH l.length 0 lo)).map λj=>HT.kH l.length 0 lo+j:=by
  have e:O5 lo hi 1 l.length=sliceRange ((HT.kH l.length 0 lo:Nat):Int) ((HT.kH l.length l.length hi:Nat):Int) 1:=by unfold O5;rcases lo with _|i<;>rcases hi with _|j<;>simp only[show(1:Int) > 0 by decide,if_true,HT.kH,cl,Int.natCast_zero]<;>rfl
  rw[e];unfold sliceRange;simp only[show(1:Int) > 0 by decide,if_true];generalize HT.kH l.length 0 lo=a;generalize HT.kH l.length l.length hi=b;have cnt:(if(a:Int) < (b:Int)then((b:Int)-(a:Int)+1-1) / 1 else 0).toNat=b-a:=by split<;>omega
  rw[cnt];apply gO;intro j _;omega
 have f:HT.kH l.length l.length hi<=l.length:=HT.mw _ _ (C7 _) _;have h:HT.kH l.length 0 lo<=l.length:=HT.mw _ _ (N5 _) _;unfold Y9;rw[c,d];unfold PY;generalize HT.kH l.length 0 lo=a at *;generalize HT.kH l.length l.length hi=b at *;have e2:(List.map (λj=>a+j) (D0 (b-a))).filterMap (λi=>(tx l).cps[i]?)=(l.drop a).take (b-a):=by
  have e3:(λi:Nat=>(tx l).cps[i]?)=λi=>l[i]?:=by funext i;simp[tx]
  rw[e3];by_cases k:a<=b;exact Nj l a (b-a) `o;have:b-a=0:=by omega
  rw[this];simp
 split;rename_i g;simp only[D1,X4,A1,beq_iff_eq]at g;have h0:a=0:=by omega
 have h1:b=l.length:=by omega
 subst h0 h1;simp;rw[e2];rfl
theorem pW(a b:List Nat):kr (.str (tx a)) (.str (tx b))=decide (a=b):=by unfold kr;by_cases h:a=b;subst h;simp;rw[decide_eq_false h];have:tx a≠tx b:=λe=>h (VP e);simpa using this
section
variable{X:Cx}
def ZP(K:W.Frag):V->Option Int->Option Int->Hp->VK->Prop:=λx lo hi H Q=>∃a xs,x=.ref a/\DC K H a xs/\(HT.kH xs.length 0 lo=0/\HT.kH xs.length xs.length hi=xs.length)/\Q (.ref a) H
theorem RK:Ma X (ZP X.K):=by
 intro pins s σ H x v w u lo hi sl Q I j hs n l h;obtain⟨a,xs,rfl,t,f,q⟩:=h;cases j;obtain⟨b,r,c,z⟩:=I.tuple t;have d:b.toArray.size=xs.length:=by rw[A8];exact r.length.symm
 refine⟨"tuple", _,D7.lookup,c.typeIs,?_⟩;obtain⟨os,o,k,y⟩:=id hs;have i:s.TypeIs (.ref sl) "slice" := ⟨os,o,k⟩;unfold U8
 try with_reducible refine E9 ?_
 first|refine A0 (A7 ?_)|skip
 refine A0 (X2 c.typeIs `d ?_);refine A0 (R5 (name:=hG "__getitem__") c.typeIs D7
  (P8 D7 c.typeIs U1 ?_ (V9 _ _)))
 show B7 _ _ (L5 (.ref a) >>= _) _ _ s;refine A0 (gV c ?_);refine A0 (U9 i ?_);rw[if_pos `d];refine A0 (HT.kh hs n l ?_);have g:((((HT.kH b.toArray.size 0 lo:Nat):Int)==0&&(1:Int)==1&&(HT.kH b.toArray.size b.toArray.size hi-HT.kH b.toArray.size 0 lo)==b.toArray.size)=_t):=by rw[d,f.1,f.2];simp
 show B7 _ _ (if(((HT.kH b.toArray.size 0 lo:Nat):Int)==0&&(1:Int)==1&&(HT.kH b.toArray.size b.toArray.size hi-HT.kH b.toArray.size 0 lo)==b.toArray.size)=_t then _ else _) _ _ s;rw[if_pos g];have e:EP X pins σ Q (.ref a) s:=⟨.ref a,H,I,rfl,q⟩;refine A0 (m:=W3 (D9 a)) ?_;unfold W3;refine A0 (U9 c.typeIs (A7 ?_));rw[if_pos `d];exact A0 (gY (A7 ⟨_,rfl,A7 e⟩))
end
end L2
namespace L2
open PySem PySem.Spec PyProof.Rows PySem.SeqAt
variable{H:Hp}{Q:VK}
section
variable{X:Cx}
def fv(r:V->List V->Hp->VK->Prop)(b:TE)(t:TA):TE:=λσ H Q=>b σ H λx a=>(∃p xs,x=.ref p/\a p=_s (.tup xs))/\t σ a λxs c=>r x xs c Q
def UH(K:W.Frag):R2:=λx y H Q=>∃a b ys,x=.ref a/\y=.ref b/\DC K H a []/\DC K H b ys/\Q (.ref b) H
theorem Ry:Cs X (binaryOp .Add) (UH X.K):=by
  intro pins s σ H x y v u Q I k j h;obtain⟨a,b,ys,rfl,rfl,ha,r,q⟩:=h;cases k;cases j;obtain⟨z,l,p1,_⟩:=I.tuple ha;obtain⟨p,w,p2,_⟩:=I.tuple r;cases l;obtain⟨⟨cls,dd,data,sl⟩,f,g,n,hd⟩:=id p1;obtain⟨⟨t,i,data2,m⟩,e,d,o,c⟩:=id p2;simp only at g hd d c;subst g hd d c;exact g9 ⟨_,f,rfl⟩ ⟨_,e,rfl⟩ Y7 gU S1 R4 (Q5 _ _)
      (tuple_addW0 a b _ p.toArray n o dd i sl m `s) ⟨f,e,⟨.ref b,H,I,rfl,q⟩⟩
def Gz(K:W.Frag):R2:=λx y H Q=>HA K x y H Q\/UH K x y H Q
theorem Rz(K:W.Frag)(h:X.K=K:=by rfl):Cs X (binaryOp .Add) (Gz K):=by subst h;exact SA.or Ry
theorem QT{K:W.Frag}{i j:Int}(q:Q (.int (i+j)) H):Gz K (.int i) (.int j) H Q:=.inl (QW q)
theorem QR{K:W.Frag}{i j:Str}(h:i.length+j.length<=1000000)(q:Q (.str (i++j)) H):Gz K (.str i) (.str j) H Q:=.inl (QU h q)
theorem QS{K:W.Frag}{a b:A6}{xs ys:List V}(ha:H a=_s (.lst xs))(c:H b=_s (.lst ys))(h:xs.length+ys.length<=1000000)(q:∀p,H p=_n->Q (.ref p) (upd H p (.lst (xs++ys)))):Gz K (.ref a) (.ref b) H Q:=.inl (QV ha c h q)
def LN(K:W.Frag):V->Option Int->Option Int->Hp->VK->Prop:=λx lo hi H Q=>NW K x lo hi H Q\/ZP K x lo hi H Q
theorem bx(K:W.Frag)(h:X.K=K:=by rfl):Ma X (LN K):=by subst h;exact Ve.or RK
theorem RG{K:W.Frag}{z:Str}{lo hi:Option Int}(h:z.length<=1000000)(q:Q (.str (Y9 z lo hi)) H):LN K (.str z) lo hi H Q:=.inl (RI h q)
theorem Va{K:W.Frag}{a:A6}{xs:List V}{lo hi:Option Int}(h:Bv K H a xs)(q:∀p,H p=_n->Q (.ref p) (upd H p (.lst (DU xs lo hi)))):LN K (.ref a) lo hi H Q:=.inl (NL h q)
theorem RH{K:W.Frag}{a:A6}{xs:List V}{lo hi:Option Int}(h:H a=_s (.lst xs))(q:∀p,H p=_n->Q (.ref p) (upd H p (.lst (DU xs lo hi)))):LN K (.ref a) lo hi H Q:=.inl (RJ h q)
end
end L2
namespace L2
open PySem PySem.Spec PyProof.Rows
variable{items:Array A3}
section
variable{prog:D4}{w:E8}{A:F2}{E:A3->A5->Prop}
theorem Fi{it t:A6}(c:t≠it):∀(n i:Nat)(s:A5)(Q:List A3->A5->Prop),s.heap.IsListIter it t i->s.heap.IsList t items->i+n<=items.size ->
    (∀h',h'.IsListIter it t (i+n)->R7 it s.heap h'->Q ((items.toList.drop i).take n) {s with heap:=h' })->B7 (C0 prog w) A (draw (.ref it) n) Q E s
  |0,i,s,Q,a,_,_,b=>by show B7 _ _ (pure []) Q E s;exact A7 (by simpa using b s.heap a (ju ..))
  |n+1,i,s,Q,a,f,l,b=>by
    have d:i < items.size:=by omega
    show B7 _ _ (pyNext (.ref it) >>= _) Q E s;refine A0 (Z4 a f (x:=items[i]) (by simp[d]) λh₁ k e=>?_);refine A0 (E9 (Fi c n (i+1) _ _ k (f.extBut e.extBut c) `o λj h g=>A7 ?_));have hd:items.toList.drop i=items[i]::items.toList.drop (i+1):=by simp[Q3,d]
    have:=b j (by rw[show i+(n+1)=i+1+n by omega];exact h) (e.trans g);rw[hd,List.take_succ_cons]at this;exact this
theorem Df{s:A5}{t:A6}{Q:List A3->A5->Prop}(m:A.handled=_n)(a:s.heap.IsList t items)
    (n:∀h',jo s.heap.objs.size s.heap h'->Q items.toList {s with heap:=h' }):B7 (C0 prog w) A (iX (.ref t) items.size _n) Q E s:=by
  have c:t≠s.heap.objs.size:=by obtain⟨o,l,_⟩:=a;exact D2 (B6 l)
  unfold iX;refine A0 ?_;unfold notIterableAtAll;refine A0 (N6 a.typeIs PySem.slot_list_iter.lookup ?_);refine A7 ?_;simp only[D5,if_false];refine A0 (E9 (iB a ?_));refine A0 (E9 (Fi c items.size 0 _ _ ⟨_,E7 _ rfl,rfl,rfl⟩ (a.push _) `o λh₁ k d=>?_));have j:List.take items.size (List.drop 0 items.toList)=items.toList:=by rw[List.drop_zero];exact List.take_of_length_le `s
  rw[j];rw[if_neg `s];have h:h₁.IsList t items:=(a.push _).extBut d.extBut c;refine A0 (E9 (a9 m k h `s λi g=>?_));simp only[Option.isSome_none,D5,if_false];refine A7 (n i λb o f e=>g b o f (d.extBut b o f (B0 _ e)))
theorem Gi{s:A5}{t:A6}{a:List (Bool×(A3->Sem Unit))}{Q:Unit->A5->Prop}(d:A.handled=_n)(c:s.heap.IsList t items)
    (hn:a.length=items.size) (b:a.findIdx? (·.1)=_n)
    (h:∀h',jo s.heap.objs.size s.heap h'->B7 (C0 prog w) A (X6 (a.map (·.2)) items.toList) Q E {s with heap:=h' }) :
    B7 (C0 prog w) A (unpack (.ref t) a) Q E s:=by
  unfold unpack;rw[hn,b];exact A0 (E9 (Df d c h))
end
section
variable{X:Cx}
abbrev Wv(n:Nat)(t:Gg):TG:=λv σ H Q=>∃a xs,v=.ref a/\H a=_s (.lst xs)/\xs.length=n/\t xs σ H Q
theorem Nm{es:List Expr}{k:Nat}{t:Gg}{n:Nat}{pos:Pos}(l:X.calm=_t)(h:YD X es t)
    (hn:(J6 es X.env).length=n:=by rfl) (d:(J6 es X.env).findIdx? (·.1)=none:=by rfl):PG X (.Tuple es k pos) (Wv n t):=by
  intro pins s σ H v u Q I r c;obtain⟨a,xs,e1,i,j,c⟩:=c;subst e1;cases r;obtain⟨p,rv,g,q⟩:=I.list (.inl (.inl i));rw[assign_Tuple];refine A0 (K9 (Gi (I.ok.hd l) g.isList (by simp[hn,<- j,rv.length]) d λh' f=>?_));have m:Inv X pins σ H {s with heap:=h' }:=I.kept (t':=s.toks) λb o e=>f b o (D2 (B6 e)) e;exact h pins _ σ H xs _ Q m (by simpa using rv) c
theorem KQ{n:Nat}{js:List Nat}{u:Gg}(b:IA js u):MW js (Wv n u):=by rintro x σ H Q ⟨a,xs,e,c,d,q⟩;exact⟨a,xs,e,c,d,b _ _ _ _ q⟩
end
end L2
namespace L2
open PySem PySem.Spec PyProof.Rows PySem.SeqAt
inductive D where
 |fl (v:V)
 |tup (ds:List D)
 |lst (ds:List D)
end L2
namespace L2
open PySem PySem.Spec PyProof.Rows
inductive T where
 |leaf (k:Str) (v:V)
 |op (s:Str) (m n:T)
 |many (k w:Str) (ts:List T)
 |sJ (x:Str) (a b:T)
 |loop (i:Str) (n:T) (x:Str) (a b:T)
 |pick (n:T) (ts:List T)
noncomputable abbrev sD(x:Str):D:=.fl (.str x)
mutual
noncomputable def T.toD:T->D
 |.leaf k v=>.tup [sD k,.fl v]
 |.op s m n=>.tup [sD "op", sD s,m.toD,n.toD]
 |.many k w ts=>.tup [sD k,sD w,.tup (kU ts)]
 |.sJ x a b=>.tup [sD "let", sD x,a.toD,b.toD]
 |.loop i n x a b=>.tup [sD "loop", sD i,n.toD,sD x,a.toD,b.toD]
 |.pick n ts=>.tup [sD "pick", n.toD,.tup (kU ts)]
noncomputable def kU:List T->List D
 |[]=>[]
 |t::ts=>t.toD::kU ts
end
noncomputable def T.kids:T->List T
 |.leaf _ _=>[]
 |.op _ m n=>[m,n]
 |.many _ _ ts=>ts
 |.sJ _ a b=>[a,b]
 |.loop _ n _ a b=>[n,a,b]
 |.pick n ts=>n::ts
end L2
namespace L2
open PySem PySem.Spec PyProof.Rows PySem.SeqAt
end L2
namespace L2
open PySem PySem.Spec PyProof.Rows
section
variable{X:Cx}{e:Expr}{te:TE}{p1 p2 r8 kQ:Pos}
theorem EK:∀{xs:List V}{us:List A3},AH xs us->AH xs.reverse us.reverse
 |_,_,.nil=>.nil
 |_,_,.cons (a:=x) (b:=u) (l₁:=xs) (l₂:=us) r t=>by rw[iD,iD];exact AH.append (EK t) (.cons r .nil)
end
section
variable{κ:Type}[DecidableEq κ]
noncomputable def Cv(j8:List (κ×V))(k:κ):Option V:=(j8.find? λa=>decide (a.1=k)).map (·.2)
noncomputable def HC(j8:List (κ×V))(k:κ)(v:V):List (κ×V):=
 if(j8.any λa=>decide (a.1=k))=_t then j8.map (λa=>if a.1=k then(a.1,v)else a)else j8++[(k,v)]
theorem DE{p:κ×V}{r:List (κ×V)}{k:κ}(e:p.1=k):Cv (p::r) k=_s p.2:=by simp[Cv,N8,e]
theorem DF{p:κ×V}{r:List (κ×V)}{k:κ}(e:¬p.1=k):Cv (p::r) k=Cv r k:=by simp[Cv,N8,e]
theorem KV.val{j8:List (κ×V)}{vs:List (κ×A3)}(r:KV j8 vs)(k:κ):FC (Cv j8 k) (gN vs k):=by
 unfold KV at r;induction r with
 |nil=>exact True.intro
 |@cons p q ps a h t d=>
  obtain⟨h1,h2⟩:=h;by_cases e:p.1=k;have c:q.1=k:=h1.symm.trans e;have b:gN (q::a) k=_s q.2:=by simp[gN,N8,c]
  rw[DE e,b];exact h2;have c:¬q.1=k:=λz=>e (h1.trans z);have b:gN (q::a) k=gN a k:=by simp[gN,N8,c]
  rw[DF e,b];exact d
theorem KV.length{j8:List (κ×V)}{vs:List (κ×A3)}(r:KV j8 vs):j8.length=vs.length:=Paired.length r
end
theorem US{P:D4}{w:E8}{k:Az}{u:A3}(r:RelV (kV k) u):(Ao P w).is k u=true:=by
 cases k with|inl i=>obtain⟨t,e⟩:=(show ∃t,u=iJ i t from r);subst e;exact HN P w i t|inr x=>obtain⟨t,e⟩:=(show ∃t,u=iK x t from r);subst e;exact HM P w x t
theorem Ff{P:D4}{w:E8}:∀{ks:List Az}{us:List A3},AH (ks.map kV) us->ItemsAre (Ao P w) ks us
 |[],_,r=>by rw[Z7]at r;cases r;exact .nil
 |k::ks,_,r=>by
  rw[F3]at r;cases r with|cons h t=>exact .cons (US h) (Ff t)
abbrev KT(H:Hp):List (List Az×V)->List (List Az×A6×A3)->Prop:=Paired λp q=>p.1=q.1/\H q.2.1=_s (.tup (p.1.map kV))/\RelV p.2 q.2.2
variable{H:Hp}{j8:List (List Az×V)}
theorem KT.val{xs:List (List Az×A6×A3)}(r:KT H j8 xs)(k:List Az):FC (Cv j8 k) ((jR xs k).map (·.2)):=by
 induction r with
 |nil=>exact True.intro
 |@cons p q ps a h t d=>
  obtain⟨h1,_,h2⟩:=h;by_cases e:p.1=k;have c:q.1=k:=h1.symm.trans e;have b:jR (q::a) k=_s q.2:=by simp[jR,N8,c]
  rw[DE e,b];exact h2;have c:¬q.1=k:=λz=>e (h1.trans z);have b:jR (q::a) k=jR a k:=by simp[jR,N8,c]
  rw[DF e,b];exact d
section
variable{P:D4}{w:E8}{H:Hp}{h:F1}{a:A6}
theorem UD{u:HO}(ok:Cn P w H h)(e:Rd H a u):Ap P w H h a u:=e.ok ok
theorem PQ{j8:List (Az×V)}(ok:Cn P w H h)(e:Rd H a (.dK j8)):j8.length<=sizeLine/\(a==R1)=_f/\∃vs,KV j8 vs/\h.DictOf (Ao P w) a vs:=
 show Ap P w H h a (.dK j8)from UD ok e
theorem OS{ks:List Az}(ok:Cn P w H h)(e:H a=_s (.tup (ks.map kV))):(iL (Ao P w)).is h ks a:=by obtain⟨_,b,r,o,h1,h2,_,n,h3⟩:=(show Ap P w H h a (.tup (ks.map kV))from ok a _ e);exact⟨o,b.toArray,n,h1,h2,h3,by simpa using Ff r⟩
theorem Ud(ok:Cn P w H h)(e:Rd H a (.dT j8)):j8.length<=sizeLine/\(a==R1)=_f /\
    ∃xs,KT H j8 xs/\h.DictOfH (iL (Ao P w)) a xs:=by
  obtain⟨z,y,xs,r,o,es,f,h1,h2,h3,h4,h5⟩:=(show Ap P w H h a (.dT j8)from UD ok e);refine⟨z,y,xs,r,o,es,f,h1,h2,h3,h4,λx b=>?_,h5⟩;have all:∀{l:List (List Az×V)}{m:List (List Az×A6×A3)},KT H l m->∀x∈m,(iL (Ao P w)).is h x.1 x.2.1:=by
    intro l m q;induction q with
    |nil=>intro x b;exact nomatch b
    |@cons p q ps g c t d=>
      intro x b;rcases E3.mp b with e|b
      subst e;exact OS ok (by rw[<- c.1];exact c.2.1);exact d x b
  exact all r x b
end
def FL(H:Hp)(a:A6)(y:V)(r:Option V):Prop:=
 (∃j8 k,Rd H a (.dK j8)/\y=kV k/\r=Cv j8 k)\/∃j8 k b,Rd H a (.dT j8)/\y=.ref b/\H b=_s (.tup (k.map kV))/\r=Cv j8 k
def Qc(H:Hp)(a:A6)(y v:V)(H':Hp):Prop:=
 (∃j8 k,H a=_s (.dK j8)/\y=kV k/\j8.length < sizeLine/\H'=upd H a (.dK (HC j8 k v))) \/
 ∃j8 k b,H a=_s (.dT j8)/\y=.ref b/\H b=_s (.tup (k.map kV))/\j8.length < sizeLine/\H'=upd H a (.dT (HC j8 k v))
variable{a:A6}
theorem FL.k{j8:List (Az×V)}{k:Az}(e:H a=_s (.dK j8)):FL H a (kV k) (Cv j8 k):=.inl ⟨j8,k,.inl e,rfl,rfl⟩
theorem FL.t{b:A6}{k:List Az}(e:H a=_s (.dT j8))(eb:H b=_s (.tup (k.map kV))):FL H a (.ref b) (Cv j8 k):=.inr ⟨j8,k,b,.inl e,rfl,eb,rfl⟩
theorem Qc.k{j8:List (Az×V)}{k:Az}{v:V}(e:H a=_s (.dK j8))(b:j8.length < sizeLine):Qc H a (kV k) v (upd H a (.dK (HC j8 k v))):=.inl ⟨j8,k,e,rfl,b,rfl⟩
theorem Qc.t{b:A6}{k:List Az}{v:V}(e:H a=_s (.dT j8))(eb:H b=_s (.tup (k.map kV)))(c:j8.length < sizeLine) :
    Qc H a (.ref b) v (upd H a (.dT (HC j8 k v))):=.inr ⟨j8,k,b,e,rfl,eb,c,rfl⟩
section
variable{X:Cx}{pins:List (A6×Obj)}{σ:St}{H:Hp}{s:A5}{a:A6}{y v:V}{u r:A3}{o:Option V}{A:F2}{E:A3->A5->Prop}
theorem Inv.big(I:Inv X pins σ H s):R1 < s.heap.objs.size:=by have h:G3 < s.heap.objs.size:=(I.mod.glob.keeps I.bk).lt;exact Nat.lt_trans `d h
theorem Lz{Q:A3->A5->Prop}(q:A.units+1 < O8)(I:Inv X pins σ H s)(g:FL H a y (_s v))(m:RelV y u)(h:∀d s',Inv X pins σ H s'->RelV v d->Q d s') :
    B7 (C0 X.prog X.w) A (U8 (.ref a) u) Q E s:=by
  rcases g with⟨j8,k,e,j,l⟩|⟨j8,k,b,e,j,eb,l⟩
  subst j;obtain⟨z,hd,vs,c,dd⟩:=PQ I.kD e;obtain⟨d,i,f⟩:=FC.some_of (v:=v) (o:=gN vs k) (by rw[l];exact c.val k);exact wpAny_getItem_of (US m) dd.mapOf i (h d _ (I.tok _) f);subst j;cases(show u=D9 b from m);obtain⟨z,hd,xs,c,dd⟩:=Ud I.kD e;obtain⟨d,i,f⟩:=FC.some_of (v:=v) (o:=(jR xs k).map (·.2)) (by rw[l];exact c.val k);obtain⟨p,t,n⟩:=K8.mp i;refine wpAny_getItem_heap (tupleKind_room_in1 q) (OS I.kD eb) dd t ?_;rw[n];exact h d _ (I.tok _) f
end
section
variable{X:Cx}{pins:List (A6×Obj)}{σ:St}{H:Hp}{s:A5}{a:A6}{j8:List (Az×V)}{k:Az}{u:A3}{A:F2}{E:A3->A5->Prop}
theorem aN{Q:A3->A5->Prop}(I:Inv X pins σ H s)(e:Rd H a (.dK j8))(h:∀t s',Inv X pins σ H s'->Q (.int j8.length t) s'):B7 (C0 X.prog X.w) A (call (.builtin "len") [.ref a]) Q E s:=by obtain⟨z,hd,vs,b,dd⟩:=PQ I.kD e;refine call_len_dict hd dd (by rw[<- b.length];rw[T6]at z;omega) ?_;rw[<- b.length];exact h _ _ (I.tok _)
end
theorem Hh{X:Cx}{pins:List (A6×Obj)}{σ:St}{s:A5}{y:V}{o:Option V}(I:Inv X pins σ H s)(g:FL H a y o):s.TypeIs (.ref a) "dict" := by
 rcases g with⟨j8,k,e,_,_⟩|⟨j8,k,b,e,_,_,_⟩
 obtain⟨_,_,vs,_,dd⟩:=PQ I.kD e;exact dd.typeIs;obtain⟨_,_,xs,_,dd⟩:=Ud I.kD e;exact dd.typeIs
theorem PR{P:D4}{w:E8}(h:F1)(b:R1 < h.objs.size):Ap P w H (h.push {cls:=.type "dict", data:=.dict #[]}) h.objs.size (.dK []):=
 ⟨N5 _,beq_eq_false_iff_ne.mpr (Ne.symm (D2 b)),[],.nil,jw h⟩
abbrev VZ:TE:=λ_ H Q=>∀p,H p=_n->Q (.ref p) (upd H p (.dK []))
section
variable{X:Cx}{pos:Pos}
theorem Nw:PE X (.Dict [] [] pos) VZ:=λpins s σ H Q I h =>
 wpAny_Dict_empty ⟨.ref s.heap.objs.size,_,I.laid (a:=s.heap.objs.size) (o:=.dK []) (t':=s.toks) (λ_ _ q=>B0 _ q) (C7 _) (PR s.heap I.big),rfl,h _ (I.kD.fresh (C7 _))⟩
end
section
variable{X:Cx}
theorem MI:BS X (.builtin "len") (λxs H Q=>∃a j8,xs=[V.ref a]/\H a=_s (.dK j8)/\Q (.int j8.length) H):=by intro pins s σ H xs us Q I r h;obtain⟨a,j8,rfl,ha,q⟩:=h;obtain⟨u,rfl,b⟩:=vals1 r;cases b;exact aN I (.inl ha) λt s' c=>⟨.int j8.length,H,c,⟨t,rfl⟩,q⟩
end
def Vv{b:Type} [DecidableEq b] (j8:List (b×V)) (ps:List (b×V)):List (b×V):=ps.foldl (λk p=>HC k p.1 p.2) j8
noncomputable abbrev dJ:=List Int×T
def OQ(b:List Int)(i:Nat):List T->List dJ
 |[]=>[]
 |k::ks=>(b++[(i:Int)],k)::OQ b (i+1) ks
def run:Nat->List dJ->List dJ
 |0,_=>[]
 |_+1,[]=>[]
 |n+1,p::st=>p::run n (OQ p.1 0 p.2.kids++st)
noncomputable def jn(b:List Nat):List (List Nat)->List Nat
 |[]=>[]
 |x::ys=>x++(ys.flatMap λy=>b++y)
theorem Yi(b:List Nat):∀ys:List (List Nat),jm (tx b) (ys.map tx)=tx (jn b ys):=by
 intro ys;have h:jm (tx b) (ys.map tx)=jI (tx b) (ys.map tx):=by simpa using join_plain_closes (tx b) (ys.map tx)
 rw[h];have:∀(x:List Nat)(ys:List (List Nat)),jI (tx b) ((x::ys).map tx)=tx (x++(ys.flatMap λy=>b++y)):=by
  intro x ys;induction ys generalizing x with|nil=>simp[jI]|cons y ys c=>show tx x++tx b++jI (tx b) ((y::ys).map tx)=_;rw[c y,IK,IK];simp
 cases ys with|nil=>rfl|cons x ys=>exact this x ys
theorem VO(ys:List (List Nat)):((ys.map tx).map (·.length)).sum=(ys.map X1).sum:=by rw[jY];congr 1
end L2
namespace L2
open PySem
abbrev Ts(l:W.OpenLaw)(n:Nat)(as:List A6)(K:gn->W.Frag)(N:Nat):Prop:=
 W.LeftO l.row.prog (W.view l.prog (D0 n)) [] (λs=>W.xlAt (W.view l.prog (D0 n)) [] s&&W.recOk [] s) (λs=>as.map s.heap.get?) (λw=>(K w.params).map λp=>_s p.2) N
theorem qb{l:W.OpenLaw}{n:Nat}{N:Nat}{d:jX}{K:gn->W.Frag}{as:List A6}(ws:l.wellSaid=_t)(left:Ts l n as K N)
    (has:∀P,as=(K P).map (·.1)) (h:l.row.records=[]) (b:W.defOf (W.view l.prog (D0 n)) l.row.name=_s (d,[])) (i:l.row.prog.theDef l.row.name=_s (d.params,d.body,d.scope)) (j:W.kwWritten? d.params.kwonlyargs d.params.kw_defaults=_s [])
    (a:(!l.row.writes||l.row.records.isEmpty)=_t)
    (ok:(W.chainsOk (W.view l.prog (D0 n))&&W.opensWell l.row.prog&&(W.frees l.row.toRowW&&l.row.within.isEmpty))=_t) (k:l.row.prog.bare) (g:l.row.toRowW.promised)
    (call:W.WalkO (W.view l.prog (D0 n)) [] (W.XL (W.view l.prog (D0 n)) []) (W.InK K) l.row.toRowW d [] λf vs=>gp f vs):l.Holds:=
  W.holds_law ws λc=>W.holds_open (q:=W.view l.prog (D0 n)) (loose:=[]) (XP:=W.XL (W.view l.prog (D0 n)) []) (YP:=W.InK K) left (W.InK.of has) W.InK.keeps (λs e=>W.xl_of s (O9.mp e).1) W.XL.keeps b i j (λs e=>W.recFacts_nil h) a c ok k g call
noncomputable abbrev ke(P:gn)(x:Str)(t:Tok)(v:A3):DictEntry:=⟨PyData.keyHash P x,.str x t,v⟩
noncomputable abbrev cO(x:Str)(t:Tok)(l a s:Int)(h g:A6)(e d c:A3)(f:A6)(b:Nat):Obj:=⟨.type "code", _n,.fields #[.str x t,.str x (t+1),.str "/claim/cut.py" (t+2),.int l 0,.int a 0,.int 0 0,.int 0 0,.int s 0,.ref h,.bool _t,.int 181 0,.ref g,e,d,c,.ref f,.int b 0,.int l 0,.str "/claim/cut.py" (b+1)],#[]⟩
noncomputable def XN:F0->Pos
 |.FunctionDef _ _ _ _ _ _ _ _ _ p=>p
 |_=>⟨0,0,0,0⟩
noncomputable def AJ(K:W.Frag)(n:Str):A6:=match W.nsIn K G3 n with
 |some (_s (.ref a))=>a
 |_=>0
noncomputable def Ro(K:W.Frag)(f:A6):A3:=match K.lookup f with
 |some ⟨_,_,.func d,_⟩=>d.pyModule
 |_=>.none
noncomputable def ME(K:W.Frag)(f:A6):A3:=match K.lookup f with
 |some ⟨_,_,.func d,_⟩=>d.code
 |_=>.none
abbrev GF(K:W.Frag)(n:Str)(t:F0):Prop:=W.nsIn K G3 n=_s (_s (.ref (AJ K n))) /\
 K.lookup (AJ K n)=_s ⟨.type "function", _n,.func (W.fnOf n n (Aj t) (AM t) (AD t) .none .none .none (Ro K (AJ K n)) _n (ME K (AJ K n)) .none),#[]⟩ /\
 W.codeIn K (ME K (AJ K n)) n=_t/\W.keepIn K (.ref (AJ K n))=_t
theorem Iy{K:W.Frag}{n:Str}{t:F0}(h:GF K n t):m8 K n n t (AJ K n) (W.fnOf n n (Aj t) (AM t) (AD t) .none .none .none (Ro K (AJ K n)) _n (ME K (AJ K n)) .none):=JC h.2.1 h.2.2.1 h.2.2.2
end L2
namespace XC
open PySem PySem.W PySem.Spec PyProof.Rows L2 Builtin Builtin.ObjectAttr
section
variable{prog:D4}{w:E8}{A:F2}{E:A3->A5->Prop}{R:Result->A5->Prop}{h:F1}{g:Array GenState}{d:Drawn}{t:Nat}{os:OsState}
variable{nm q:Str}{C N:A6}{bs bm:List A3}{hdct:Bool}{sn:List Str}{sub:List A3}{ab:Bool}{col:Option Bool}{dd:Option A6}{k0 k1 k2 k3 k5:Option A3}
noncomputable abbrev FE:String := "ValueError.__new__"
noncomputable abbrev VC(C a:A6):Obj:={cls:=.ref C,data:=.fields #[.ref a,.none,.none,.none,.bool _f,.none]}
noncomputable abbrev Tp(us:List A3):Obj:={cls:=.type "tuple", data:=.seq us.toArray}
structure rN (bm:List A3):Prop where
 v:bm.contains (.type "ValueError")=_t
 b:bm.contains (.type "BaseException")=_t
 a:bm.contains (.type "AttributeError")=_f
 n:bm.contains (.type "NameError")=_f
theorem YT{bm:List A3}{C:A6}{X:String}{b:Bool}(e:bm.contains (.type X)=b):(D9 C::bm).contains (.type X)=b:=by rw[W4,e];rfl
theorem Qr{M:iW}{us:List A3}{Q:Unit->A5->Prop}(T:rN bm)(a:h.get? C=_s (R6 nm q C N bs bm hdct sn sub ab col dd k0 k1 k2 k3 k5 FE))(z:Q () ⟨h,g,d,t,os⟩) :
    B7 M A (iP FE ⟨.ref C::us,[]⟩) Q E ⟨h,g,d,t,os⟩:=by
  have F:=F.excBase_ValueError;have b:=YT (C:=C) T.v;have st:=F.noStar;simp only[iP,F.newKind,F.newSplit,F.newRow]
  repeat (first
    |refine I0 a ?_
    |(refine K7 a ?_;rw[b])
    |refine wpAny_staticBase_exc a ?_
    |refine iQ a ?_
    |simp only[bne_self_eq_false,D5,if_false]
    |wp_step)
  exact z
theorem Yd{us:List A3}(T:rN bm)(b:h.get? C=_s (R6 nm q C N bs bm hdct sn sub ab col dd k0 k1 k2 k3 k5 FE))
    (z:R (.ok (.ret (.ref (h.objs.size+1)))) ⟨(h.push (Tp us)).push (VC C h.objs.size),g,d,t,os⟩) (i:us.length<=sizeLine):X0 (C0 prog w) A (.builtin FE ⟨.ref C::us,[]⟩) R ⟨h,g,d,t,os⟩:=by
  have F:=F.excBase_ValueError;have j:=F.ends;have f:=YT (C:=C) T.v;have e:=YT (C:=C) T.a;have c:=YT (C:=C) T.n;refine codeAny_builtinAt F.entry ?_;unfold Builtin.«BaseException.__new__»;refine ik ?_;show PySem.wpAt _ _ _ (stack >>= _) _ _ _;refine ik (PySem.wpAt_stack λp BJ=>gP ?_)
  wp_walk
  refine gP ?_;rw[F.owner]
  repeat (first
    |with_reducible refine wpAny_madeHere_exc F.canon b ?_
    |with_reducible refine I0 b ?_
    |(with_reducible refine K7 b ?_;first|rw[f]|rw[e]|rw[c])
    |wp_step)
  show R _ _;rw[W2];exact z
theorem Mg{us:List A3}{fI:A6}{i:Obj}{Q:A3->A5->Prop}(T:rN bm)(a:h.get? C=_s (R6 nm q C N bs bm hdct sn sub ab col dd k0 k1 k2 k3 k5 FE))
    (hi:jS (C0 prog w) h (jC (.ref C) "__init__") (_s (.ref fI))) (n:h.get? fI=_s i) (p:i.cls=.type "function") (l:us.length<=sizeLine)
    (z:B7 (C0 prog w) (A.under (.builtin "type.__call__" ⟨.ref C::us,[]⟩)) (call (.ref fI) (.ref (h.objs.size+1)::us)) (λr s'=>r=.none/\Q (.ref (h.objs.size+1)) s') E ⟨(h.push (Tp us)).push (VC C h.objs.size),g,d,t,os⟩) :
    B7 (C0 prog w) A (call (.ref C) us) Q E ⟨h,g,d,t,os⟩:=by
  have F:=F.excBase_ValueError;have v:=tc_lookup;have f2:=tc_bind (.ref C);have hT:(⟨h,g,d,t,os⟩:A5).TypeIs (.ref C) "type" := ⟨_,a,rfl⟩;refine R3 (codeAny_of_tree ?_);show B7 _ _ (callAny (.ref C) _) _ _ _
  repeat (any_goals (first|assumption|with_reducible refine I0 a ?_|wp_step))
  refine⟨rfl,?_⟩;refine codeAny_call_builtin_at (gq _ (by decide +kernel)) entry_typeCall (wpAny_check_type_call_sub a ?_)
  repeat (first
    |with_reducible refine I0 a ?_
    |with_reducible refine iQ a ?_
    |wp_step)
  refine codeAny_call_builtin_code (gq _ F.quiet) (Qr T a ?_);refine Yd (us:=us) T a ?_ l;show B7 _ _ _ _ _ _;have k:∀b o,h.get? b=_s o->((h.push (Tp us)).push (VC C h.objs.size)).get? b=_s o:=λb o e=>B0 _ (B0 _ e);have f:=k _ _ a;have m:((h.push (Tp us)).push (VC C h.objs.size)).get? (h.objs.size+1)=_s (VC C h.objs.size):=by heap_get
  have u:(D9 C::bm).contains (.ref C)=true:=by simp
  have c:=hi.keeps k;unfold S8
  repeat (first
    |with_reducible refine I0 m ?_
    |(refine K7 (C:=C) f ?_;rw[u])
    |wp_step)
  show B7 _ _ (jC (.ref C) _) _ _ _;refine c.at ?_;refine E9 (A0 ?_);unfold bindSpecial;refine A0 (U9 (T := "function") ⟨_,k _ _ n,p⟩ ?_);rw[if_pos `d];refine A7 (A0 (G1 z (λr s' j=>?_) λ_ _ x=>x));obtain⟨rfl,s⟩:=j
  wp_walk
  exact s
end
end XC
namespace XC
open PySem PySem.W PySem.Spec PyProof.Rows L2
section
variable{M:iW}{A:F2}{E:A3->A5->Prop}{s:A5}{env:Env}
variable{nm q:Str}{C N:A6}{bs bm:List A3}{hdct:Bool}{sn:List Str}{sub:List A3}{ab:Bool}{col:Option Bool}{dd:Option A6}{k0 k1 k2 k3 k5:Option A3}
theorem JY{x:Sem A3}{Q:Flow->A5->Prop}(T:rN bm)(f:A.handled=_n)
    (z:B7 M A x (λv a=>∃e od vs sl,v=.ref e/\a.heap.get? C=_s (R6 nm q C N bs bm hdct sn sub ab col dd k0 k1 k2 k3 k5 FE) /\
      a.heap.get? e=_s ⟨.ref C,od,.fields vs,sl⟩/\vs[1]?=_s .none/\E (.ref e) a) E s):B7 M A (raiseStmt env (_s x) _n) Q E s:=by
  have j:=YT (C:=C) T.b;unfold raiseStmt;refine A0 (G1 z (λv a h₁=>?_) λ_ _ y=>y);obtain⟨e,od,vs,sl,rfl,c,h,h1,i⟩:=h₁;obtain⟨k,g,d,tk,os⟩:=a
  repeat (first
    |with_reducible refine I0 h ?_
    |with_reducible refine I0 c ?_
    |(with_reducible refine K7 c ?_;rw[j])
    |wp_step)
  rw[h1];refine A7 ?_;rw[if_neg `d];exact A7 (wpAny_raiseNew_none f i)
end
structure pH (h:F1) (e:A6) (oe:Obj) (T:A6) (v:A3):Prop where
 obj:h.get? e=_s oe
 ent:∃vs oT ts,oe.data=.fields vs/\vs[1]?=_s (.ref T)/\h.get? T=_s oT/\oT.data=.fields ts/\ts[3]?=_s v
 ne:T≠e
structure ph (fr:List A6) (e:A6) (old:A6->Prop) (h h':F1):Prop where
 keep:∀b o,h.get? b=_s o->b∉fr->b≠e->¬old b->h'.get? b=_s o
 slot:∀b o,h.get? b=_s o->b≠e->¬old b->∃sl,h'.get? b=_s {o with slots:=sl}
variable{Q:Unit->A5->Prop}
section
variable{M:iW}{A:F2}{E:A3->A5->Prop}{s:A5}{env:Env}{outer:List Env}{base:F1}{L e:A6}{oe:Obj}{vs:Array A3}
theorem Wz{T:A6}{v:A3}(fl:Option A6){Q:Unit->A5->Prop}(t:pH s.heap e oe T v)
    (z:∀h',(∀b,b≠T->h'.get? b=s.heap.get? b)->pH h' e oe T (fl.elim .none λf=>O2 f)->Q () {s with heap:=h' }):B7 M A (T1 (.ref e) fl) Q E s:=by
  obtain⟨h,⟨vs,oT,ts,hd,h1,hT,c,h3⟩,d⟩:=t;unfold T1;refine A0 (K0 h hd h1 ?_);rw[if_pos (show(D9 T != K5)=_t from by simp)];have g:∀b,b≠T->(s.heap.update T (T5 (·.setIfInBounds 3 (fl.elim K5 λf=>O2 f)))).get? b=s.heap.get? b:=λb i=>F6 _ _ (Ne.symm i);have d3:=gr c (·.setIfInBounds 3 (fl.elim K5 λf=>O2 f));have a:=(J8.mp h3).1;exact W5 hT c a (z _ g ⟨(g e (Ne.symm d)).trans h,⟨_,_,_,hd,h1,O3 _ hT (f9 d3),d3,by simp[a]⟩,d⟩)
theorem HI{head:A3}{b:Bool}{Q:Unit->A5->Prop}(w:A.frames=_s (env::outer))(t:s.heap.FunFrames base (env::outer))(C:env.frame=_s L)
    (u:s.heap.get? e=_s oe) (hd:oe.data=.fields vs) (p:1 < vs.size)
    (z:∀h' T x,ph (EI (env::outer)) e (λ_=>False) s.heap h'->s.heap.objs.size<=T->pH h' e {oe with data:=.fields x} T (O2 L)->Q () {s with heap:=h' }) :
    B7 M A (do let a <- frameOf env;let d <- entryPlaceOf L b;let c <- gQ head a .none (O2 L) .none d;setField (.ref e) 1 c) Q E s:=by
  have ne:e∉EI (env::outer):=λhm=>by obtain⟨_,o,r,hn⟩:=t.mem hm;rw[u]at r;cases r;exact hn vs hd
  refine A0 (wpAny_frameOf_fun w t C λh₁ f=>?_);refine A0 (wpAny_entryPlaceOf λd B=>?_);unfold gQ newFields;refine A0 (F9 ?_ (B.sizeOk5 _ _ _ _ _));generalize y:(([head,.ref L,.none,O2 L,.none]:List A3)++(if d.isEmpty then E6 6 K5 else d)).toArray=ts;have v:ts[3]?=_s (O2 L):=by rw[<- y];simp
  have m:h₁.get? e=_s oe:=(f.2.1 e ne).trans u;have n:=B0 (h:=h₁) {cls:=.type "traceback", dict:=_n,data:=.fields ts} m;have hT:h₁.objs.size≠e:=R9 (B6 m);have j:=gr hd (·.setIfInBounds 1 (D9 h₁.objs.size));have i:=O3 (T5 (·.setIfInBounds 1 (D9 h₁.objs.size))) n (f9 j);have l:=(F6 (h₁.push {cls:=.type "traceback", dict:=_n,data:=.fields ts}) (T5 (·.setIfInBounds 1 (D9 h₁.objs.size))) (Ne.symm hT)).trans (E7 h₁ rfl);have kp:∀b o,b≠e->h₁.get? b=_s o->((h₁.push {cls:=.type "traceback", dict:=_n,data:=.fields ts}).update e (T5 (·.setIfInBounds 1 (D9 h₁.objs.size)))).get? b=_s o:=λb o k q=>by rw[F6 _ _ (Ne.symm k)];exact B0 _ q
  refine W5 n hd p (z _ h₁.objs.size (vs.setIfInBounds 1 (.ref h₁.objs.size)) ⟨λb o q k g _=>kp b o g ((f.2.1 b k).trans q),λb o q g _=>?_⟩ (iA f.1.symm) ⟨?_,⟨_,_,_,rfl,by simp[p],l,rfl,v⟩,hT⟩);obtain⟨sl,q1⟩:=f.2.2 b o q;exact⟨sl,kp b _ g q1⟩;refine i.trans (congrArg _s ?_);obtain⟨c,D,F,sl⟩:=oe;cases hd;rfl
theorem Ih{Q:Unit->A5->Prop}(c:A.frames=_s (env::outer))(f:s.heap.FunFrames base (env::outer))(a:env.frame=_s L)
    (b:s.heap.get? e=_s oe) (hd:oe.data=.fields vs) (h1:vs[1]?=_s .none)
    (z:∀h' T d,ph (EI (env::outer)) e (λ_=>False) s.heap h'->s.heap.objs.size<=T->pH h' e {oe with data:=.fields d} T (O2 L)->Q () {s with heap:=h' }) :
    B7 M A (O1 (.ref e) env) Q E s:=by
  unfold O1;simp only[a];refine A0 (K0 b hd h1 ?_);rw[if_neg `d];exact HI c f a b hd (J8.mp h1).1 z
theorem LY{T:A6}{Q:Unit->A5->Prop}(p:A.frames=_s (env::outer))(u:s.heap.FunFrames base (env::outer))(j:env.frame=_s L)(t:pH s.heap e oe T .none)
    (z:∀h' d h,ph (EI (env::outer)) e (·=T) s.heap h'->s.heap.objs.size<=d->pH h' e {oe with data:=.fields h} d (O2 L)->Q () {s with heap:=h' }) :
    B7 M A (O1 (.ref e) env) Q E s:=by
  obtain⟨k,⟨vs,oT,ts,hd,h1,hT,f,h3⟩,l⟩:=t;unfold O1;simp only[j];refine A0 (K0 k hd h1 ?_);rw[if_pos (show(D9 T != K5)=_t from by simp)];refine A0 (K0 hT f h3 ?_);rw[if_neg (show ¬((K5==O2 L)=_t)from by simp[O2])];refine A0 (W5 hT f (J8.mp h3).1 ?_);have c:∀b,b≠T->(s.heap.update T (T5 (·.setIfInBounds 3 K5))).get? b=s.heap.get? b:=λb a=>F6 _ _ (Ne.symm a);have m:∀b o,s.heap.get? b=_s o->(∀vs,o.data≠.fields vs)->b≠T:=λb o a hn q=>by rw[q,hT]at a;cases a;exact hn ts f
  refine HI (base:=base) p (u.of_keeps λb o a hn=>⟨o,(c b (m b o a hn)).trans a,rfl⟩) j ((c e (Ne.symm l)).trans k) hd (J8.mp h1).1 λh' d h n r t'=>z h' d h ⟨λb o q a g i=>n.keep b o ((c b i).trans q) a g λz=>z,λb o q g i=>n.slot b o ((c b i).trans q) g λz=>z⟩ ?_ t';simpa using r
theorem LX{T:A6}(b:env.frame=_s L)(t:pH s.heap e oe T (O2 L))(z:Q () s):B7 M A (O1 (.ref e) env) Q E s:=by obtain⟨c,⟨vs,oT,ts,hd,h1,hT,a,h3⟩,d⟩:=t;unfold O1;simp only[b];refine A0 (K0 c hd h1 ?_);rw[if_pos (show(D9 T != K5)=_t from by simp)];refine A0 (K0 hT a h3 ?_);rw[if_pos (show(O2 L==O2 L)=_t from by simp)];exact A7 z
end
end XC
namespace XC
open PySem PySem.W PySem.Spec PyProof.Rows L2 Builtin Builtin.ObjectAttr
noncomputable abbrev Qu:List A3:=[.type "ValueError", .type "Exception", .type "BaseException", .type "object"]
def UP:List A3->Bool
 |.ref _::r=>UP r
 |.type n::r=>(Z2 n::r)==Qu
 |_=>_f
theorem BV{X:String}:∀{l:List A3},UP l=_t->l.contains (.type X)=Qu.contains (.type X)
 |[],e=>by cases e
 |v::r,e=>by
  cases v with|ref c=>rw[W4,BV (l:=r) e];rfl|type n=>rw[show(Z2 n::r)=Qu from eq_of_beq e]|_=>cases e
theorem Ea(self:A3):∀{l:List A3},UP l=_t->refuseLoop self "__setattr__" l=pure ()
 |[],e=>by cases e
 |v::r,e=>by
  cases v with|ref c=>rw[refuseLoop_ref];exact Ea self (l:=r) e|type n=>rw[show(Z2 n::r)=Qu from eq_of_beq e];exact F.store_ValueError.passes self|_=>cases e
theorem DO{bm:List A3}(e:UP bm=_t):rN bm:=⟨by rw[BV e];decide,by rw[BV e];decide,by rw[BV e];decide,by rw[BV e];decide⟩
inductive oE (K:Frag) (C:A6) (hd:Bool):Prop
 |mk (nm:Str) (q:Str) (N:A6) (bs bm:List A3) (sn:List Str) (sub:List A3) (ab:Bool) (col:Option Bool) (dd:Option A6) (k0 k1 k2 k3 k5:Option A3) (e:K.lookup C=_s (R6 nm q C N bs bm hd sn sub ab col dd k0 k1 k2 k3 k5 FE)) (o:UP bm=_t)
structure oF (K:Frag) (C:A6) (f:Str):Prop where
 lk:oE K C _t
 sa:gH K (.ref C) "__setattr__" = _s (_s (.builtin "object.__setattr__"))
 ga:gH K (.ref C) "__getattribute__" = _s (_s (.builtin "BaseException.__getattribute__"))
 gh:gH K (.ref C) "__getattr__" = _s _n
 no:gH K (.ref C) f=_s _n
section
variable{prog:D4}{w:E8}{A:F2}{E:A3->A5->Prop}{s:A5}{K:Frag}{C x:A6}{f:Str}{v:A3}
theorem oF.cls(c:oF K C f):∃cd,clsIn K C=_s cd/\UP cd.mro=_t/\cd.hasDict=true:=by obtain⟨nm,q,N,bs,bm,sn,sub,ab,col,dd,k0,k1,k2,k3,k5,e,o⟩:=c.lk;exact⟨_,by unfold clsIn;rw[e],o,rfl⟩
theorem Qo{vs:Array A3}{sl:Array (Option A3)}{Q:Unit->A5->Prop}(X:K.In s.heap)(c:oF K C f)(d:s.heap.get? x=_s ⟨.ref C,_n,.fields vs,sl⟩)
    (z:∀h' tk,h'.get? x=_s ⟨.ref C,_s s.heap.objs.size,.fields vs,sl⟩->h'.Ns1 s.heap.objs.size (λy=>if y=f then _s v else _n)->(∀b o,b≠x->s.heap.get? b=_s o->h'.get? b=_s o)->Q () {s with heap:=h',toks:=tk}) :
    B7 (C0 prog w) A (setAttr (.ref x) f v) Q E s:=by
  obtain⟨h,k,g,hd⟩:=c.cls;have a:=F.store_object;have I:InstAt s.heap x ⟨.ref C,_n,.fields vs,sl⟩ C none:=⟨d,rfl,rfl,True.intro⟩;have ne:h.mro.isEmpty=false:=by cases q:h.mro with|nil=>rw[q]at g;cases g|cons _ _=>rfl
  have ct:h.mro.contains (.type "object")=true:=by rw[BV g];decide
  have r:jS (C0 prog w) s.heap (S8 (.ref x) (.type "object")) true:=I.type.andThen (ia X (by unfold mroIn;rw[k,A2,if_neg (by rw[ne];decide),ct]));refine set_plain X I c.sa ?_;refine T7 a.slot.plain a.entry (@check_slot (C0 prog w) _ _ {s with toks:=s.toks+1} "object.__setattr__" "object" "__setattr__" (.ref x) [.str f s.toks,v] [] _ a.kind a.split r (a.args (.ref x) (.str f s.toks) v) ?_);have hm:jS (C0 prog w) s.heap (mroOf (.ref C)) h.mro:=(looks_clsIn X k).andThen .now;rw[osa_eq,refuse_eq];refine A0 (A0 (I.type.here (s:={s with toks:=s.toks+1}) (A0 (hm.here (s:={s with toks:=s.toks+1}) ?_))));rw[Ea _ g];refine A7 (A0 (I.type.here (s:={s with toks:=s.toks+1}) (A0 (jr (s:={s with toks:=s.toks+1}) (P9 X c.no) (A0 (A7 ?_))))));show B7 _ _ (storeInOwnDict _ _ _ _ _ _) _ _ _;have l:(s.heap.push {cls:=.type "dict", data:=.dict #[]}).get? x=_s ⟨.ref C,_n,.fields vs,sl⟩:=B0 _ d;have m:x≠s.heap.objs.size:=D2 (B6 d);refine A0 (A7 (A0 (A0 (wpAny_loadPart d (A0 (jr (s:={s with toks:=s.toks+1}) (looks_clsIn X k) ?_))))));rw[hd];refine A0 (wpAny_alloc ?_);refine A0 (wpAny_update l ?_);refine A7 ?_;have t:((s.heap.push {cls:=.type "dict", data:=.dict #[]}).update x λo=>{cls:=o.cls,dict:=_s s.heap.objs.size,data:=o.data,slots:=o.slots}).get? s.heap.objs.size=_s {cls:=.type "dict", data:=.dict #[]}:=
    (gR _ _ _ _ m.symm).trans (Heap.get?_push_at rfl rfl)
  have hn:((s.heap.push {cls:=.type "dict", data:=.dict #[]}).update x λo=>{cls:=o.cls,dict:=_s s.heap.objs.size,data:=o.data,slots:=o.slots}).Ns s.heap.objs.size (λ_=>_n):=
    ⟨_,#[],_,t,rfl,λe u=>absurd u `s,λ_=>rfl⟩
  show B7 _ _ (storeInDict s.heap.objs.size _ _ _) _ _ _;unfold storeInDict newKeyGuard;refine A0 (A7 (A0 (wpAny_nsSet1 (Heap.Ns1.of_empty hn) λh' n hs=>?_)));obtain⟨H,D,G,p,i,j⟩:=n.count (Within.cons f v Within.nil);refine A0 (wpAny_lookBehind p (by rw[i];exact pastItsLine_dict (C3 j (by rw[F5,il,T6];omega))) ?_);refine A7 ?_;show Q () _;refine z h' _ ((hs.2 x m).trans (O3 _ l rfl)) n λb o B q=>(hs.2 b (D2 (B6 q))).trans ((gR _ _ _ _ B).trans (B0 _ q))
theorem Ye{expr:Bool}{dx:A6}{b:Data}{sl:Array (Option A3)}{mA:Str->Option A3}{Q:A3->A5->Prop}(X:K.In s.heap)(c:oF K C f)(l:s.heap.get? x=_s ⟨.ref C,_s dx,b,sl⟩)(j:notCls ⟨.ref C,_s dx,b,sl⟩=_t)(hn:s.heap.Ns1 dx mA)
    (m:mA f=_s v) (o:handedIn v=_t) (z:Q v {s with toks:=s.toks+1}):B7 (C0 prog w) A (iu (.ref x) f expr) Q E s:=by
  obtain⟨d,g,a,hd⟩:=c.cls;obtain⟨e,e1,n⟩:=Dr hn;have I:InstAt s.heap x ⟨.ref C,_s dx,b,sl⟩ C (_s e):=⟨l,rfl,j,e1⟩;have p:=findObj_own (K:=K) (C:=C) (name:=f) (od:=e) (v:=v) (by unfold hasDictIn;rw[g];exact hd) c.no rfl (by rw[n,m]);have ne:d.mro.isEmpty=false:=by cases q:d.mro with|nil=>rw[q]at a;cases a|cons _ _=>rfl
  have ct:d.mro.contains (.type "BaseException")=true:=by rw[BV a];decide
  have k:jS (C0 prog w) s.heap (S8 (.ref x) (.type "BaseException")) true:=I.type.andThen (ia X (by unfold mroIn;rw[g,A2,if_neg (by rw[ne];decide),ct]));have i:=F.excAttr_ValueError;have r:=i.ga.bind (.ref x);have h:jS (C0 prog w) s.heap (jG (.ref x)) (.ref C):=I.type;have L2:=P9 (M:=C0 prog w) X c.ga;have L3:=P9 (M:=C0 prog w) X c.gh;have L4:=looks_find (M:=C0 prog w) X I p;have e2:(N9 "BaseException.__getattribute__"==N9 "object.__getattribute__")=false:=by decide +kernel
  have e3:(expr&&iR (N9 "BaseException.__getattribute__"))=false:=by cases expr<;>rfl
  unfold iu getAttrBy;refine A0 (wpAny_mkText (E9 (A0 (h.here (s:={s with toks:=s.toks+1}) (A0 (L2.here (s:={s with toks:=s.toks+1}) ?_))))));dsimp only;rw[e2,S3,if_neg `d];unfold iq hookBefore iS boundAndCalled;rw[e3,if_pos (show iR (D9 C)=_t from rfl),if_neg (show ¬(_f=_t) by decide),r];refine A0 (L3.here (s:={s with toks:=s.toks+1}) (A0 (gX (E9 (A0 (A7 ?_))))));refine R3 ?_;refine T7 i.ga.plain F.entry_bexc_ga (@check_slot (C0 prog w) _ _ {s with toks:=s.toks+1} "BaseException.__getattribute__" "BaseException" "__getattribute__" (.ref x) [.str f s.toks] [] _ (by decide +kernel) (by decide +kernel) k (F.args_bexc_ga (.ref x) (.str f s.toks)) ?_);refine A0 (A7 (A0 (A7 (A0 (h.here (s:={s with toks:=s.toks+1}) (A0 (L4.here (s:={s with toks:=s.toks+1}) ?_)))))));refine A7 ?_;show B7 _ _ (handedOut v) _ _ _;rw[handedOut_of o];exact A7 z
end
end XC
namespace XC
open PySem PySem.W PySem.Spec PyProof.Rows L2
def ku(e C:A6)(dx:Option A6)(T:A3)(h:F1):Prop:=∃vs sl,h.get? e=_s ⟨.ref C,dx,.fields vs,sl⟩/\vs[1]?=_s T
abbrev Ku(e C:A6)(h:F1):Prop:=ku e C _n .none h
variable{H:Hp}{h:F1}{e:A6}
theorem NU{P:D4}{w:E8}{C:A6}(x:Ku e C h):Ap P w H h e (.ext (Ku e C)):=
 ⟨x,let ⟨_,_,q,_⟩:=x;⟨_,q⟩,λ_ _ ⟨vs,sl,q,r⟩ k=>⟨vs,sl,k _ q,r⟩⟩
theorem Og{P:D4}{w:E8}{C:A6}{dx:Option A6}{T:A3}(x:ku e C dx T h):Ap P w H h e (.ext (ku e C dx T)):=
 ⟨x,let ⟨_,_,q,_⟩:=x;⟨_,q⟩,λ_ _ ⟨vs,sl,q,r⟩ k=>⟨vs,sl,k _ q,r⟩⟩
theorem SW{P:D4}{w:E8}{h':F1}{n:A6}{φ:F1->Prop}{d a:HO}(ok:Cn P w H h)(j:H e=_s (.ext φ))(hn:H n=_n)(ne:n≠e)(k:∀b o,b≠e->h.get? b=_s o->h'.get? b=_s o)
    (q1:Ap P w (upd (upd H n d) e a) h' n d) (q2:Ap P w (upd (upd H n d) e a) h' e a):Cn P w (upd (upd H n d) e a) h':=λb u q=>by
  by_cases g:b=e;subst g;rw[AF]at q;cases q;exact q2;rw[AC g]at q;by_cases i:b=n;subst i;rw[AF]at q;cases q;exact q1;rw[AC i]at q;have st:∀c x,H c=_s x->(∀l,x≠.ext l)->upd (upd H n d) e a c=_s x:=λc x z nx=>by rw[AC (λy=>by subst y;rw[j]at z;cases z;exact nx _ rfl),AC (AI z hn)];exact z
  refine(ok b u q).mK (λc v f z=>k c v ?_ z) (λc z=>st c _ z λ_ y=>by cases y) λc xs z=>st c _ z λ_ y=>by cases y
  rcases f with rfl|f
  exact g;rintro rfl;rw[j]at f;cases f
theorem VM{fs:List A6}{h':F1}{n:A6}{φ:F1->Prop}{d a:HO}(f:H e=_s (.ext φ))(hn:H n=_n)(j:h.objs.size<=n)(k:∀b o,b≠e->h.get? b=_s o->h'.get? b=_s o)(l:∃o,h'.get? e=_s o):Un fs [] H (upd (upd H n d) e a) h h':=by
 have st:∀c x,H c=_s x->(∀i,x≠.ext i)->upd (upd H n d) e a c=_s x:=λc x z nx=>by rw[AC (λy=>by subst y;rw[f]at z;cases z;exact nx _ rfl),AC (AI z hn)];exact z
 have ne:∀b,H b=_n->b≠e:=λb z y=>by subst y;rw[f]at z;cases z
 refine⟨λb o q z _ _=>k b o (ne b z) q,λb o q z _ _=>⟨o.slots,k b o (ne b z) q⟩,λb o q z _=>?_,λb o q _=>?_,(λc xs z=>st c _ z (λ_ y=>nomatch y)),(λc o u z=>st c _ z (λ_ y=>nomatch y)),λc ps z=>⟨#[],by rw[st c _ z (λ_ y=>nomatch y)];simp⟩⟩;rw[AC (ne b z),AC (D2 (B1 (B6 q) j))];exact z;by_cases g:b=e;subst g;exact l;exact⟨o,k b o g q⟩
def lL(C:A6)(f:Str):Sp:=λvs H Q _=>∃e x,vs=[.ref e,x]/\H e=_s (.ext (Ku e C))/\∀dx,H dx=_n->dx≠e->Q .kB (upd (upd H dx (.xd [(f,x)])) e (.ext (ku e C (_s dx) .none)))
section
variable{X:Cx}{C fI:A6}{f:Str}{i j:Nat}
def ZI(C:A6)(f:Str)(i j:Nat):TS:=λD σ H=>∃e x,σ[i]?=_s (_s (.ref e))/\σ[j]?=_s (_s x)/\H e=_s (.ext (Ku e C))/\∀dx,H dx=_n->dx≠e->D.nx σ (upd (upd H dx (.xd [(f,x)])) e (.ext (ku e C (_s dx) .none)))
theorem Rh{o a:Expr}{p pos:Pos}(c:oF X.K C f)(ha:PE X o (Bf i))(v:PE X a (Bf j))(hs:N0 a (_s (.Attribute o f p)) pos.line X.env=pure _f):PS X (.Assign [.Attribute o f p] a pos) (ZI C f i j):=by
  intro pins s σ H D I ⟨e,x,h1,h2,h3,h4⟩;refine plainObj_wpAny_Assign_Attribute (Ah (v pins s σ H (λy d=>y=x/\d=H) I ⟨x,h2,rfl,rfl⟩) λu s1 ⟨y,d,z,n,w,k⟩=>?_) hs;subst w k;refine Ah (ha pins s1 σ d (λy l=>y=.ref e/\l=d) z ⟨.ref e,h1,rfl,rfl⟩) λt s2 ⟨y2,l,b,r,ex,k⟩=>?_;subst ex k;obtain rfl:t=D9 e:=r;obtain⟨⟨vs,sl,m,hn⟩,_,_⟩:=b.kD e _ h3;have fr:l s2.heap.objs.size=none:=b.kD.fresh (C7 _);have ne:s2.heap.objs.size≠e:=R9 (B6 m);refine Qo b.lN c m λh' tk q1 q2 q3=>⟨σ,_,?_,h4 _ fr ne⟩;refine b.un (h':=h') (t':=tk) (VM h3 fr (C7 _) q3 ⟨_,q1⟩) (SW b.kD h3 fr ne q3 ⟨_,q2,λg=>?_⟩ (Og ⟨vs,sl,q1,hn⟩));by_cases q:g=f;subst q;rw[if_pos rfl];simp only[E2,beq_self_eq_true];exact n;rw[if_neg q];have:([(f,y)]:List (Str×V)).lookup g=none:=by rw[E2,beq_eq_false_iff_ne.mpr q];rfl
  rw[this];exact True.intro
structure tq (K:Frag) (C:A6) (f:Str) (fI:A6):Prop where
 cl:oF K C f
 init:gH K (.ref C) "__init__" = _s (_s (.ref fI))
 fn:∃o,K.lookup fI=_s o/\o.cls=.type "function"
 kp:keepIn K (.ref C)=_t
def Yo(C:A6)(f:Str)(t:TA):TE:=λσ H Q=>t σ H λvs a=>∃x,vs=[x]/\∀e dx,a e=_n->a dx=_n->dx≠e->Q (.ref e) (upd (upd (upd a e (.ext (Ku e C))) dx (.xd [(f,x)])) e (.ext (ku e C (_s dx) .none)))
variable{x:Str}{p pos:Pos}{k:Nat}{fd:G4}{ps:List Str}{e:Expr}{t:TA}
theorem Nn(M:tq X.K C f fI)(F:kL X.prog X.w X.K X.mg X.base Dz k fI fd ps (lL C f))(S:ps.length=2)(R:kG (k+1) X.A)(T:Gl X x)(hm:X.mg x=_s (.ref C))(Y:Binds X.K fd ps [])
    (ha:PA X [e] t) (P:(x==("__debug__" : Str))=_f) (U:E5 [e] X.env=(_f,L7 e X.env)::E5 [] X.env):PE X (.Call (.Name x p) [e] [] pos) (Yo C f t):=by
  intro pins s σ H Q I h;refine K2 (Bq I T hm ?_ P);refine W.callWith_K (h₀:=X.base) I.ok.mod.sL M.kp (Ah (ha pos pins s σ H _ I h) λus s1 ⟨vs,m,a,r,x,ex,q⟩=>⟨a.lN,?_⟩) U rfl;subst ex;obtain⟨nm,qn,N,bs,bm,sn,sub,ab,col,dd,k0,k1,k2,k3,k5,lk,G⟩:=M.cl.lk;obtain⟨oI,D,Z⟩:=M.fn;have o:us.length=1:=r.length.symm;have O:m (s1.heap.objs.size+1)=none:=a.kD.fresh (gJ _);have n:Inv X pins σ (upd m (s1.heap.objs.size+1) (.ext (Ku (s1.heap.objs.size+1) C))) {s1 with heap:=(s1.heap.push (Tp us)).push (VC C s1.heap.objs.size)}:=by
    have J:Inv X pins σ m {s1 with heap:=s1.heap.push (Tp us)}:=a.kept (t':=s1.toks) λb u z=>B0 _ z;refine J.laid (t':=s1.toks) (λb u z=>B0 _ z) `s (NU ⟨#[.ref s1.heap.objs.size,.none,.none,.none,.bool _f,.none],#[],?_,rfl⟩)
    heap_get
  have E:AH [V.ref (s1.heap.objs.size+1),x] (D9 (s1.heap.objs.size+1)::us):=.cons rfl r;have L:(D9 (s1.heap.objs.size+1)::us++[]).length=ps.length:=by rw[F8,F5,o,S]
  obtain⟨l,g,d,tk,os⟩:=s1;refine Mg (DO G) (a.lN _ _ lk) (P9 a.lN M.init) (a.lN _ _ D) Z (by rw[List.nil_append,o,T6];decide) ?_;refine R3 (S0 (F.run _ X.stack _ _ ⟨D9 (l.objs.size+1)::us,[]⟩ (D9 (l.objs.size+1)::us) _ (λv H2=>v=.kB/\Q (.ref (l.objs.size+1)) H2) E0 (R.make C us []) (n.pX.make C us []) (by have:=Y _ (D9 (l.objs.size+1)::us) n.lN L;rw[F8]at this;exact this) E ⟨_,x,rfl,AF,λdx z y=>⟨rfl,?_⟩⟩) λr s' c=>?_);have B:m dx=none:=by rw[AC y]at z;exact z
  exact q _ dx O B y;cases r with
  |error e=>exact C9 c
  |ok fl=>
    cases fl with|ret u=>obtain⟨v,H',I3,rv,ev,q3⟩:=n.after c;subst ev;exact⟨rv,⟨V.ref (l.objs.size+1),H',I3,rfl,q3⟩⟩|next=>exact C9 c|brk=>exact C9 c|cont=>exact C9 c
end
end XC
namespace R
open PySem L2
set_option genInjectivity true in
inductive Dv where
 |kB|bl (b:Bool)|int (i:Int)|str (x:List Nat)|tup (xs:List Dv)|lst (xs:List Dv)|mC (ks:List Az) (xs:List Dv)|oo (ks:List Az) (xs:List Dv)|ref (k:Nat)|k8 (ns:List Int)|ty (n:String)|nh (ls:List (List Nat))|nW (ks:List (NK Az)) (xs:List Dv)|obj (c:Str) (fl nm:List Str) (xs:List Dv)|mB (c f:Str) (d:Dv)
 deriving Inhabited
structure G where
 Z:A6->Prop
 μ:List A6
noncomputable abbrev Fp:=A6->Prop
def BG(P Q:Fp):Prop:=∀a,P a->Q a->False
def j4:Fp:=λ_=>False
def Lk(g:G)(H:Hp)(o:Nat)(a:A6)(vs:List V):Prop:=H a=_s (.lst vs)/\(o=0->g.Z a)/\(o≠0->¬g.Z a)
def bV(K:W.Frag)(H:Hp)(a:A6)(ns:List Int):Prop:=(∃o,H a=_s (.nI o (.lst (ns.map V.int)))) \/
    ∃(o:Obj)(b:Array A3)(n:Nat),K.lookup a=_s o/\o.cls=.type "list" /\ o.dict=_n/\o.data=.seq b n/\b.size<=sizeLine/\AH (ns.map V.int) b.toList
theorem bV.sq{K:W.Frag}{H:Hp}{a:A6}{ns:List Int}(h:bV K H a ns):Bv K H a (ns.map V.int):=h.elim (λh=>.inl (.inr h)) .inr
def fg(K:W.Frag)(a:A6)(ls:List (List Nat)):Prop:=∃(o:Obj)(b:Array A3)(n:Nat),K.lookup a=_s o/\o.cls=.type "tuple" /\ o.data=.seq b n/\b.size<=sizeLine/\AH (ls.map λl=>V.str (tx l)) b.toList
def bH(K:W.Frag)(c:Str)(fl:List Str):Prop:=rM K (AJ K c)/\∀f∈fl,Gh K (AJ K c) f
mutual
noncomputable def Rep(K:W.Frag)(g:G)(H:Hp):Nat->Dv->V->Fp->Prop
 |_,.kB,v,P=>v=.kB/\∀a,¬P a
 |_,.bl b,v,P=>v=.bl b/\∀a,¬P a
 |_,.int i,v,P=>v=.int i/\∀a,¬P a
 |_,.str l,v,P=>v=.str (tx l)/\∀a,¬P a
 |o,.tup ds,v,P=>∃a vs,v=.ref a/\H a=_s (.tup vs)/\AA K g H (o-1) ds vs P
 |o,.lst ds,v,P=>∃a vs P',v=.ref a/\Lk g H o a vs/\AA K g H (o-1) ds vs P'/\¬P' a/\∀b,P b↔(o≠0/\b=a)\/P' b
 |o,.mC ks ds,v,P=>∃a vs,v=.ref a/\H a=_s (.dK (ks.zip vs))/\(o=0->g.Z a)/\(o≠0->¬g.Z a)/\(ks.length=ds.length/\∃R,AA K g H 0 ds vs R)/\∀b,P b↔(o≠0/\b=a)
 |_,.ref k,v,P=>(∃a,g.μ[k]?=_s a/\v=.ref a)/\∀a,¬P a
 |_,.k8 ns,v,P=>(∃a,v=.ref a/\bV K H a ns)/\∀a,¬P a
 |_,.ty n,v,P=>v=.ty n/\∀a,¬P a
 |_,.nh ls,v,P=>(∃a,v=.ref a/\fg K a ls)/\∀a,¬P a
 |o,.nW ks ds,v,P=>∃a vs,v=.ref a/\H a=_s (.dN (ks.zip vs))/\(o=0->g.Z a)/\(o≠0->¬g.Z a)/\(ks.length=ds.length/\∃R,AA K g H 0 ds vs R)/\∀b,P b↔(o≠0/\b=a)
 |o,.obj c fl nm ds,v,P=>∃a dx vs P',v=.ref a/\H a=_s (.ins (AJ K c) dx (nm.zip vs))/\(o=0->g.Z a)/\(o≠0->¬g.Z a)/\(bH K c fl/\nm.length=ds.length/\∀f∈nm,f∈fl)/\AA K g H o ds vs P'/\¬P' a/\∀b,P b↔(o≠0/\b=a)\/P' b
 |o,.oo ks ds,v,P=>∃a vs P',v=.ref a/\H a=_s (.dK (ks.zip vs))/\(o=0->g.Z a)/\(o≠0->¬g.Z a)/\ks.length=ds.length/\AA K g H o ds vs P'/\¬P' a/\∀b,P b↔(o≠0/\b=a)\/P' b
 |o,.mB c f d,v,P=>∃a dx w,v=.ref a/\H a=_s (.ext (XC.ku a (AJ K c) (_s dx) .none))/\(o=0->g.Z a)/\(o≠0->¬g.Z a)/\(H dx=_s (.xd [(f,w)])/\XC.oF K (AJ K c) f/\Rep K g H 0 d w j4)/\∀b,P b↔(o≠0/\b=a)
noncomputable def AA(K:W.Frag)(g:G)(H:Hp):Nat->List Dv->List V->Fp->Prop
 |_,[],vs,P=>vs=[]/\∀a,¬P a
 |o,d::ds,vs,P=>∃v r P1 P2,vs=v::r/\Rep K g H o d v P1/\AA K g H o ds r P2/\BG P1 P2/\∀a,P a↔P1 a\/P2 a
end
def Zd(g:G)(H:Hp):Prop:=∀a,g.Z a->H a≠_n
structure Step (g:G) (P:Fp) (H:Hp) (g':G) (P':Fp) (H':Hp):Prop where
 keep:∀b o,H b=_s o->¬P b->H' b=_s o
 ny:∀b,H' b=_n->H b=_n
 zm:∀a,g.Z a->g'.Z a
 zn:∀a,g'.Z a->g.Z a\/P a\/H a=_n
 mu:∃r,g'.μ=g.μ++r
 nw:∀a,P' a->P a\/H a=_n
 zd:Zd g H->Zd g' H'
 ins:∀b C dx fs,H b=_s (.ins C dx fs)->∃nT,H' b=_s (.ins C dx nT)/\∀f r,fs.lookup f=_s (.ref r)->nT.lookup f=_s (.ref r)
theorem Step.refl{g:G}{P:Fp}{H:Hp}:Step g P H g P H:=⟨λ_ _ h _=>h,λ_ h=>h,λ_ h=>h,λ_ h=>.inl h,⟨[],by simp⟩,λ_ h=>.inl h,λh=>h,λ_ _ _ fs h=>⟨fs,h,λ_ _ z=>z⟩⟩
theorem Step.trans{g g1 g2:G}{P P1 P2:Fp}{H H1 d:Hp}(a:Step g P H g1 P1 H1)(b:Step g1 P1 H1 g2 P2 d):Step g P H g2 P2 d:=by
 refine⟨λc o h n=>?_,λc h=>a.ny c (b.ny c h),λc h=>b.zm c (a.zm c h),λc h=>?_,?_,λc h=>?_,λz=>b.zd (a.zd z),λc C dx fs h=>?_⟩;refine b.keep c o (a.keep c o h n) λz=>?_;rcases a.nw c z with z|z
 exact n z;rw[h]at z;cases z;rcases b.zn c h with z|z|z
 exact a.zn c z;exact(a.nw c z).elim (λq=>.inr (.inl q)) λq=>.inr (.inr q);exact .inr (.inr (a.ny c z));obtain⟨i,e1⟩:=a.mu;obtain⟨e,e2⟩:=b.mu;exact⟨i++e,by rw[e2,e1,J7]⟩;rcases b.nw c h with z|z
 exact a.nw c z;exact .inr (a.ny c z);obtain⟨f1,e1,k1⟩:=a.ins c C dx fs h;obtain⟨f2,e2,k2⟩:=b.ins c C dx f1 e1;exact⟨f2,e2,λf r z=>k2 f r (k1 f r z)⟩
theorem Step.sub{g g':G}{P Q P' c:Fp}{H H':Hp}(s:Step g P H g' P' H')(h1:∀a,P a->Q a)(h2:∀a,c a->P' a):Step g Q H g' c H':=
 ⟨λb o h n=>s.keep b o h λz=>n (h1 b z),s.ny,s.zm,λa h=>(s.zn a h).elim .inl λz=>.inr (z.elim (λq=>.inl (h1 a q)) .inr),s.mu,λa h=>(s.nw a (h2 a h)).elim (λq=>.inl (h1 a q)) .inr,s.zd,s.ins⟩
theorem Step.less{g g':G}{P P' b:Fp}{H H':Hp}(s:Step g P H g' P' H')(h2:∀a,b a->P' a):Step g P H g' b H':=s.sub (λ_ q=>q) h2
theorem Step.frame{g g':G}{P P' R:Fp}{H H':Hp}(s:Step g P H g' P' H'):Step g (λa=>P a\/R a) H g' (λa=>P' a\/R a) H':=
 ⟨λb o h n=>s.keep b o h λz=>n (.inl z),s.ny,s.zm,λa h=>(s.zn a h).elim .inl λz=>.inr (z.elim (λq=>.inl (.inl q)) .inr),s.mu,λa h=>h.elim (λq=>(s.nw a q).elim (λz=>.inl (.inl z)) .inr) λq=>.inl (.inr q),s.zd,s.ins⟩
theorem Step.same{g:G}{P:Fp}{H H':Hp}(s:Dd H H'):Step g P H g P H':=
 have c:∀b,H' b=_n->H b=none:=λb h=>by
  cases e:H b with|none=>rfl|some o=>rw[s b o e]at h;cases h
 ⟨λb o h _=>s b o h,c,λ_ h=>h,λ_ h=>.inl h,⟨[],by simp⟩,λ_ h=>.inl h,λz a h q=>z a h (c a q),λb C dx fs h=>⟨fs,s b _ h,λ_ _ z=>z⟩⟩
theorem Jc{H:Hp}{a:A6}{o u:HO}(h:H a=_s u)(c:∀C dx fs,u≠.ins C dx fs):∀b C dx fs,H b=_s (.ins C dx fs)->∃nT,upd H a o b=_s (.ins C dx nT)/\∀f r,fs.lookup f=_s (.ref r)->nT.lookup f=_s (.ref r):=λb C dx fs e =>
 ⟨fs,by rw[AC λz=>by subst z;rw[h]at e;exact c C dx fs (B2 e)];exact e,λ_ _ z=>z⟩
def kF(g:G)(H:Hp)(P:Fp):Prop:=∀a,P a->bD (H a)/\¬g.Z a
theorem kF.or{g:G}{H:Hp}{P Q:Fp}(h:kF g H P)(k:kF g H Q):kF g H λa=>P a\/Q a:=λa q=>q.elim (h a) (k a)
theorem kF.j4{g:G}{H:Hp}:kF g H j4:=λ_ z=>z.elim
theorem kF.new{g:G}{H:Hp}{P:Fp}(h:kF g H P){a:A6}(n:H a=_n):¬P a:=λz=>by have:=(h a z).1;rw[n]at this;exact this
theorem Bn{P:Fp}(h:∀a,¬P a):P=j4:=funext λa=>propext ⟨λz=>(h a z).elim,λz=>z.elim⟩
section
variable{K:W.Frag}{g g':G}{H H':Hp}
theorem Step.out{P P' R:Fp}(s:Step g P H g' P' H')(ok:kF g H R)(n:BG R P):BG R P':=λa q z=>(s.nw a z).elim (λz=>n a q z) λz=>ok.new z q
theorem Lk.held{o:Nat}{a:A6}{vs:List V}{P P':Fp}(h:Lk g H o a vs)(hn:o≠0->¬P a)(s:Step g P H g' P' H')(ok:kF g H P):Lk g' H' o a vs:=by
 have np:¬P a:=by by_cases z:o=0;exact λq=>(ok a q).2 (h.2.1 z);exact hn z
 refine⟨s.keep _ _ h.1 np,λz=>s.zm _ (h.2.1 z),λz q=>?_⟩;rcases s.zn _ q with q|q|q
 exact h.2.2 z q;exact np q;rw[h.1]at q;cases q
mutual
theorem Rep.kW:∀{d:Dv}{v:V}{R:Fp},Rep K g H 0 d v R->∀a,¬R a
 |.kB,v,R,h|.bl _,v,R,h|.int _,v,R,h|.str _,v,R,h|.ty _,v,R,h|.nh _,v,R,h|.ref _,v,R,h|.k8 _,v,R,h=>by unfold Rep at h;exact h.2
 |.mB c f d,v,R,h=>by unfold Rep at h;obtain⟨b,dx,w,e,h1,h2,h3,h5,h4⟩:=h;exact λa q=>((h4 a).mp q).1 rfl
 |.nW ks ds,v,R,h=>by unfold Rep at h;obtain⟨b,vs,e,h1,h2,h3,h5,h4⟩:=h;exact λa q=>((h4 a).mp q).1 rfl
 |.obj c fl nm ds,v,R,h=>by unfold Rep at h;obtain⟨b,dx,vs,i,e,h1,j,hn,k,h2,h3,h5⟩:=h;exact λa q=>((h5 a).mp q).elim (λz=>z.1 rfl) λz=>AA.kW h2 a z
 |.oo ks ds,v,R,h=>by unfold Rep at h;obtain⟨b,vs,i,e,h1,j,hn,k,h2,h3,h5⟩:=h;exact λa q=>((h5 a).mp q).elim (λz=>z.1 rfl) λz=>AA.kW h2 a z
 |.tup ds,v,R,h=>by unfold Rep at h;obtain⟨_,vs,e,h1,h2⟩:=h;exact AA.kW h2
 |.lst ds,v,R,h=>by unfold Rep at h;obtain⟨b,vs,i,e,h1,h2,h3,h5⟩:=h;exact λa q=>((h5 a).mp q).elim (λz=>z.1 rfl) λz=>AA.kW h2 a z
 |.mC ks ds,v,R,h=>by unfold Rep at h;obtain⟨b,vs,e,h1,h2,h3,h5,h4⟩:=h;exact λa q=>((h4 a).mp q).1 rfl
theorem AA.kW:∀{ds:List Dv}{vs:List V}{R:Fp},AA K g H 0 ds vs R->∀a,¬R a
 |[],vs,R,h=>by unfold AA at h;exact h.2
 |d::ds,vs,R,h=>by unfold AA at h;obtain⟨v,r,P1,P2,e,h1,h2,h3,h4⟩:=h;exact λa q=>((h4 a).mp q).elim (λz=>Rep.kW h1 a z) λz=>AA.kW h2 a z
end
mutual
theorem Rep.held{P P':Fp}(s:Step g P H g' P' H')(ok:kF g H P):∀{o:Nat}{d:Dv}{v:V}{R:Fp},Rep K g H o d v R->BG R P->Rep K g' H' o d v R
 |_,.kB,v,R,h,_|_,.bl _,v,R,h,_|_,.int _,v,R,h,_|_,.str _,v,R,h,_|_,.ty _,v,R,h,_|_,.nh _,v,R,h,_=>by unfold Rep at h ⊢;exact h
 |o,.nW ks ds,v,R,h,d=>by
  unfold Rep at h ⊢;obtain⟨a,vs,e,h1,h2,h3,⟨h5,i,h6⟩,h4⟩:=h;have hn:¬P a:=λz=>by by_cases q:o=0;exact(ok a z).2 (h2 q);exact d a ((h4 a).mpr ⟨q,rfl⟩) z
  refine⟨a,vs,e,s.keep _ _ h1 hn,λq=>s.zm _ (h2 q),λq z=>?_,⟨h5,i,AA.held s ok h6 λb q z=>(AA.kW h6 b q).elim⟩,h4⟩;rcases s.zn _ z with z|z|z
  exact h3 q z;exact hn z;rw[h1]at z;cases z
 |o,.obj c fl nm ds,v,R,h,d=>by
  unfold Rep at h ⊢;obtain⟨a,dx,vs,i,e,h1,h2,h3,j,h6,h7,h4⟩:=h;have hn:¬P a:=λz=>by by_cases q:o=0;exact(ok a z).2 (h2 q);exact d a ((h4 a).mpr (.inl ⟨q,rfl⟩)) z
  refine⟨a,dx,vs,i,e,s.keep _ _ h1 hn,λq=>s.zm _ (h2 q),λq z=>?_,j,AA.held s ok h6 λb q z=>d b ((h4 b).mpr (.inr q)) z,h7,h4⟩;rcases s.zn _ z with z|z|z
  exact h3 q z;exact hn z;rw[h1]at z;cases z
 |o,.oo ks ds,v,R,h,d=>by
  unfold Rep at h ⊢;obtain⟨a,vs,i,e,h1,h2,h3,j,h6,h7,h4⟩:=h;have hn:¬P a:=λz=>by by_cases q:o=0;exact(ok a z).2 (h2 q);exact d a ((h4 a).mpr (.inl ⟨q,rfl⟩)) z
  refine⟨a,vs,i,e,s.keep _ _ h1 hn,λq=>s.zm _ (h2 q),λq z=>?_,j,AA.held s ok h6 λb q z=>d b ((h4 b).mpr (.inr q)) z,h7,h4⟩;rcases s.zn _ z with z|z|z
  exact h3 q z;exact hn z;rw[h1]at z;cases z
 |o,.tup ds,v,R,h,n=>by unfold Rep at h ⊢;obtain⟨a,vs,e,h1,h2⟩:=h;exact⟨a,vs,e,s.keep _ _ h1 λz=>(by have:=(ok a z).1;rw[h1]at this;exact this),AA.held s ok h2 n⟩
 |o,.lst ds,v,R,h,n=>by unfold Rep at h ⊢;obtain⟨a,vs,i,e,h1,h2,h3,h5⟩:=h;exact⟨a,vs,i,e,h1.held (λz q=>n a ((h5 a).mpr (.inl ⟨z,rfl⟩)) q) s ok,AA.held s ok h2 λb q z=>n b ((h5 b).mpr (.inr q)) z,h3,h5⟩
 |o,.mC ks ds,v,R,h,d=>by
  unfold Rep at h ⊢;obtain⟨a,vs,e,h1,h2,h3,⟨h5,i,h6⟩,h4⟩:=h;have hn:¬P a:=λz=>by by_cases q:o=0;exact(ok a z).2 (h2 q);exact d a ((h4 a).mpr ⟨q,rfl⟩) z
  refine⟨a,vs,e,s.keep _ _ h1 hn,λq=>s.zm _ (h2 q),λq z=>?_,⟨h5,i,AA.held s ok h6 λb q z=>(AA.kW h6 b q).elim⟩,h4⟩;rcases s.zn _ z with z|z|z
  exact h3 q z;exact hn z;rw[h1]at z;cases z
 |o,.mB c f x,v,R,h,d=>by
  unfold Rep at h ⊢;obtain⟨a,dx,w,e,h1,h2,h3,⟨h5,h6,h7⟩,h4⟩:=h;have hn:¬P a:=λz=>by by_cases q:o=0;exact(ok a z).2 (h2 q);exact d a ((h4 a).mpr ⟨q,rfl⟩) z
  refine⟨a,dx,w,e,s.keep _ _ h1 hn,λq=>s.zm _ (h2 q),λq z=>?_,⟨s.keep _ _ h5 (λz=>by have:=(ok dx z).1;rw[h5]at this;exact this),h6,Rep.held s ok h7 λ_ z=>z.elim⟩,h4⟩;rcases s.zn _ z with z|z|z
  exact h3 q z;exact hn z;rw[h1]at z;cases z
 |_,.ref k,v,R,h,_=>by unfold Rep at h ⊢;obtain⟨⟨a,h1,h2⟩,h3⟩:=h;obtain⟨r,e⟩:=s.mu;refine⟨⟨a,?_,h2⟩,h3⟩;rw[e,G0 (A9.mp h1).1];exact h1
 |_,.k8 ns,v,R,h,_=>by
  unfold Rep at h ⊢;obtain⟨⟨a,h1,h2⟩,h3⟩:=h;refine⟨⟨a,h1,?_⟩,h3⟩;rcases h2 with⟨o,h2⟩|h2
  exact .inl ⟨o,s.keep _ _ h2 λz=>by have:=(ok a z).1;rw[h2]at this;exact this⟩;exact .inr h2
theorem AA.held{P P':Fp}(s:Step g P H g' P' H')(ok:kF g H P):∀{o:Nat}{ds:List Dv}{vs:List V}{R:Fp},AA K g H o ds vs R->BG R P->AA K g' H' o ds vs R
 |_,[],vs,R,h,_=>by unfold AA at h ⊢;exact h
 |o,d::ds,vs,R,h,n=>by unfold AA at h ⊢;obtain⟨v,r,P1,P2,e,h1,h2,h3,h4⟩:=h;exact⟨v,r,P1,P2,e,Rep.held s ok h1 λa q z=>n a ((h4 a).mpr (.inl q)) z,AA.held s ok h2 λa q z=>n a ((h4 a).mpr (.inr q)) z,h3,h4⟩
end
mutual
theorem Rep.kA:∀{o:Nat}{d:Dv}{v:V}{R:Fp},Rep K g H o d v R->kF g H R
 |_,.kB,v,R,h,a,q|_,.bl _,v,R,h,a,q|_,.int _,v,R,h,a,q|_,.str _,v,R,h,a,q|_,.ty _,v,R,h,a,q|_,.nh _,v,R,h,a,q|_,.ref _,v,R,h,a,q|_,.k8 _,v,R,h,a,q=>by unfold Rep at h;exact(h.2 a q).elim
 |o,.mB c f x,v,R,h,a,q=>by unfold Rep at h;obtain⟨b,dx,w,e,h1,h2,h3,h5,h4⟩:=h;obtain⟨i,rfl⟩:=(h4 a).mp q;exact⟨by rw[h1];trivial,h3 i⟩
 |o,.nW ks ds,v,R,h,a,q=>by unfold Rep at h;obtain⟨b,vs,e,h1,h2,h3,h5,h4⟩:=h;obtain⟨i,rfl⟩:=(h4 a).mp q;exact⟨by rw[h1];trivial,h3 i⟩
 |o,.obj c fl nm ds,v,R,h,a,q=>by
  unfold Rep at h;obtain⟨b,dx,vs,j,e,h1,h2,h3,k,h6,h7,h4⟩:=h;rcases(h4 a).mp q with⟨z,rfl⟩|z
  exact⟨by rw[h1];trivial,h3 z⟩;exact AA.kA h6 a z
 |o,.oo ks ds,v,R,h,a,q=>by
  unfold Rep at h;obtain⟨b,vs,j,e,h1,h2,h3,k,h6,h7,h4⟩:=h;rcases(h4 a).mp q with⟨z,rfl⟩|z
  exact⟨by rw[h1];trivial,h3 z⟩;exact AA.kA h6 a z
 |o,.tup ds,v,R,h,a,q=>by unfold Rep at h;obtain⟨_,vs,e,h1,h2⟩:=h;exact AA.kA h2 a q
 |o,.lst ds,v,R,h,a,q=>by
  unfold Rep at h;obtain⟨b,vs,j,e,h1,h2,h3,h5⟩:=h;rcases(h5 a).mp q with⟨z,rfl⟩|z
  exact⟨by rw[h1.1];trivial,h1.2.2 z⟩;exact AA.kA h2 a z
 |o,.mC ks ds,v,R,h,a,q=>by unfold Rep at h;obtain⟨b,vs,e,h1,h2,h3,h5,h4⟩:=h;obtain⟨i,rfl⟩:=(h4 a).mp q;exact⟨by rw[h1];trivial,h3 i⟩
theorem AA.kA:∀{o:Nat}{ds:List Dv}{vs:List V}{R:Fp},AA K g H o ds vs R->kF g H R
 |_,[],vs,R,h,a,q=>by unfold AA at h;exact(h.2 a q).elim
 |o,d::ds,vs,R,h,a,q=>by
  unfold AA at h;obtain⟨v,r,P1,P2,e,h1,h2,h3,h4⟩:=h;rcases(h4 a).mp q with z|z
  exact Rep.kA h1 a z;exact AA.kA h2 a z
end
theorem AA.iff{o:Nat}{d:List Dv}{v:List V}{P Q:Fp}(h:AA K g H o d v P)(e:∀a,Q a↔P a):AA K g H o d v Q:=by have:Q=P:=funext λa=>propext (e a);rw[this];exact h
theorem Rep.z{d:Dv}{v:V}{R:Fp}(h:Rep K g H 0 d v R):Rep K g H 0 d v j4:=by rw[<- Bn h.kW];exact h
theorem AA.z{d:List Dv}{v:List V}{R:Fp}(h:AA K g H 0 d v R):AA K g H 0 d v j4:=by rw[<- Bn h.kW];exact h
def G.add(g:G)(P:Fp):G:={g with Z:=λa=>g.Z a\/P a}
mutual
theorem Rep.freeze{P:Fp}:∀{o:Nat}{d:Dv}{v:V}{R:Fp},Rep K g H o d v R->(∀a,R a->P a)->Rep K (g.add P) H 0 d v j4
 |_,.kB,v,R,h,_|_,.bl _,v,R,h,_|_,.int _,v,R,h,_|_,.str _,v,R,h,_|_,.ty _,v,R,h,_|_,.nh _,v,R,h,_|_,.ref _,v,R,h,_|_,.k8 _,v,R,h,_=>by unfold Rep at h ⊢;exact⟨h.1,λ_ z=>z⟩
 |o,.mB c f x,v,R,h,s=>by unfold Rep at h ⊢;obtain⟨a,dx,w,e,h1,h2,h3,⟨h5,h6,h7⟩,h4⟩:=h;refine⟨a,dx,w,e,h1,λ_=>?_,λz=>(z rfl).elim,⟨h5,h6,Rep.freeze h7 λ_ z=>z.elim⟩,λb=>⟨λz=>z.elim,λz=>(z.1 rfl).elim⟩⟩;by_cases q:o=0;exact .inl (h2 q);exact .inr (s a ((h4 a).mpr ⟨q,rfl⟩))
 |o,.nW ks ds,v,R,h,s=>by unfold Rep at h ⊢;obtain⟨a,vs,e,h1,h2,h3,⟨h5,i,h6⟩,h4⟩:=h;refine⟨a,vs,e,h1,λ_=>?_,λz=>(z rfl).elim,⟨h5,j4,AA.freeze h6 λb q=>(AA.kW h6 b q).elim⟩,λb=>⟨λz=>z.elim,λz=>(z.1 rfl).elim⟩⟩;by_cases q:o=0;exact .inl (h2 q);exact .inr (s a ((h4 a).mpr ⟨q,rfl⟩))
 |o,.obj c fl nm ds,v,R,h,s=>by unfold Rep at h ⊢;obtain⟨a,dx,vs,i,e,h1,h2,h3,j,h6,h7,h4⟩:=h;refine⟨a,dx,vs,j4,e,h1,λ_=>?_,λz=>(z rfl).elim,j,AA.freeze h6 (λb q=>s b ((h4 b).mpr (.inr q))),λz=>z,λb=>⟨λz=>z.elim,λz=>z.elim (λq=>(q.1 rfl).elim) id⟩⟩;by_cases q:o=0;exact .inl (h2 q);exact .inr (s a ((h4 a).mpr (.inl ⟨q,rfl⟩)))
 |o,.oo ks ds,v,R,h,s=>by unfold Rep at h ⊢;obtain⟨a,vs,i,e,h1,h2,h3,j,h6,h7,h4⟩:=h;refine⟨a,vs,j4,e,h1,λ_=>?_,λz=>(z rfl).elim,j,AA.freeze h6 (λb q=>s b ((h4 b).mpr (.inr q))),λz=>z,λb=>⟨λz=>z.elim,λz=>z.elim (λq=>(q.1 rfl).elim) id⟩⟩;by_cases q:o=0;exact .inl (h2 q);exact .inr (s a ((h4 a).mpr (.inl ⟨q,rfl⟩)))
 |o,.tup ds,v,R,h,s=>by unfold Rep at h ⊢;obtain⟨a,vs,e,h1,h2⟩:=h;exact⟨a,vs,e,h1,AA.freeze h2 s⟩
 |o,.lst ds,v,R,h,s=>by unfold Rep at h ⊢;obtain⟨a,vs,i,e,h1,h2,h3,h5⟩:=h;refine⟨a,vs,j4,e,⟨h1.1,λ_=>?_,λz=>(z rfl).elim⟩,AA.freeze h2 (λb q=>s b ((h5 b).mpr (.inr q))),λz=>z,λb=>⟨λz=>z.elim,λz=>z.elim (λq=>(q.1 rfl).elim) id⟩⟩;by_cases q:o=0;exact .inl (h1.2.1 q);exact .inr (s a ((h5 a).mpr (.inl ⟨q,rfl⟩)))
 |o,.mC ks ds,v,R,h,s=>by unfold Rep at h ⊢;obtain⟨a,vs,e,h1,h2,h3,⟨h5,i,h6⟩,h4⟩:=h;refine⟨a,vs,e,h1,λ_=>?_,λz=>(z rfl).elim,⟨h5,j4,AA.freeze h6 λb q=>(AA.kW h6 b q).elim⟩,λb=>⟨λz=>z.elim,λz=>(z.1 rfl).elim⟩⟩;by_cases q:o=0;exact .inl (h2 q);exact .inr (s a ((h4 a).mpr ⟨q,rfl⟩))
theorem AA.freeze{P:Fp}:∀{o:Nat}{ds:List Dv}{vs:List V}{R:Fp},AA K g H o ds vs R->(∀a,R a->P a)->AA K (g.add P) H 0 ds vs j4
 |_,[],vs,R,h,_=>by unfold AA at h ⊢;exact⟨h.1,λ_ z=>z⟩
 |o,d::ds,vs,R,h,s=>by unfold AA at h ⊢;obtain⟨v,r,P1,P2,e,h1,h2,h3,h4⟩:=h;exact⟨v,r,j4,j4,e,Rep.freeze h1 (λa q=>s a ((h4 a).mpr (.inl q))),AA.freeze h2 (λa q=>s a ((h4 a).mpr (.inr q))),λ_ z=>z.elim,λa=>⟨λz=>z.elim,λz=>z.elim id id⟩⟩
end
theorem Step.freeze{P:Fp}(ok:kF g H P):Step g P H (g.add P) j4 H:=
 ⟨λ_ _ h _=>h,λ_ h=>h,λ_ h=>.inl h,λa h=>h.elim .inl λq=>.inr (.inl q),⟨[],by show g.μ=_;simp⟩,λ_ h=>h.elim,λz a h q=>h.elim (λh=>z a h q) λh=>by have:=(ok a h).1;rw[q]at this;exact this,λ_ _ _ fs h=>⟨fs,h,λ_ _ z=>z⟩⟩
theorem AA.nil{o:Nat}:AA K g H o [] [] j4:=by unfold AA;exact⟨rfl,λ_ z=>z⟩
theorem AA.cons{o:Nat}{d:Dv}{v:V}{ds:List Dv}{vs:List V}{P1 P2:Fp}(h1:Rep K g H o d v P1)(h2:AA K g H o ds vs P2)(n:BG P1 P2):AA K g H o (d::ds) (v::vs) λa=>P1 a\/P2 a:=by unfold AA;exact⟨v,vs,P1,P2,rfl,h1,h2,n,λ_=>V0⟩
theorem AA.len:∀{o:Nat}{ds:List Dv}{vs:List V}{R:Fp},AA K g H o ds vs R->ds.length=vs.length
 |_,[],vs,R,h=>by unfold AA at h;rw[h.1];rfl
 |_,d::ds,vs,R,h=>by unfold AA at h;obtain⟨v,r,P1,P2,rfl,h1,h2,_⟩:=h;simp[h2.len]
theorem AA.get:∀{o:Nat}{ds:List Dv}{vs:List V}{R:Fp}{i:Nat}{d:Dv},AA K g H o ds vs R->ds[i]?=_s d->∃v P,vs[i]?=_s v/\Rep K g H o d v P/\∀a,P a->R a
 |_,[],_,_,_,_,_,e=>by simp at e
 |_,d::ds,vs,R,i,d',h,e=>by
  unfold AA at h;obtain⟨v,r,P1,P2,rfl,h1,h2,_,h4⟩:=h;cases i with|zero=>simp at e;subst e;exact⟨v,P1,rfl,h1,λa q=>(h4 a).mpr (.inl q)⟩|succ i=>obtain⟨b,P,c,h',s⟩:=h2.get (i:=i) (by simpa using e);exact⟨b,P,by simpa using c,h',λa q=>(h4 a).mpr (.inr (s a q))⟩
theorem AA.app:∀{o:Nat}{ds es:List Dv}{vs us:List V}{P Q:Fp},AA K g H o ds vs P->AA K g H o es us Q->BG P Q->AA K g H o (ds++es) (vs++us) λa=>P a\/Q a
 |_,[],es,vs,us,P,Q,h,k,_=>by unfold AA at h;obtain⟨rfl,n⟩:=h;exact k.iff λa=>⟨λz=>z.elim (λq=>(n a q).elim) id,.inr⟩
 |_,d::ds,es,vs,us,P,Q,h,k,n=>by unfold AA at h;obtain⟨v,r,P1,P2,rfl,h1,h2,h3,h4⟩:=h;have t:=AA.app h2 k λa q z=>n a ((h4 a).mpr (.inr q)) z;refine(AA.cons h1 t λa q z=>z.elim (λz=>h3 a q z) λz=>n a ((h4 a).mpr (.inl q)) z).iff λa=>?_;rw[h4 a,or_assoc]
end
noncomputable abbrev M:=List Dv
noncomputable abbrev Gm:=List (Option Nat)
noncomputable def M.at(m:M)(i:Nat):Dv:=m.getD i .kB
structure wu (K:W.Frag) (g:G) (H:Hp) (Γ:Gm) (ρ:List Dv) (σ:St) (F:Nat->Fp):Prop where
 l1:ρ.length=Γ.length
 l2:σ.length=Γ.length
 rep:∀i o,Γ[i]?=_s (_s o)->∃d v,ρ[i]?=_s d/\σ[i]?=_s (_s v)/\Rep K g H o d v (F i)
 out:∀i,(∀o,Γ[i]?≠_s (_s o))->∀a,¬F i a
 dj:∀i j,i≠j->BG (F i) (F j)
def Rel(K:W.Frag)(g:G)(H:Hp)(Γ:Gm)(m:M)(σ:St)(P:Fp):Prop:=Zd g H/\∃F,wu K g H Γ m σ F/\∀a,P a↔∃i,F i a
theorem Cb{a:Type}{l:List a}{i j:Nat}{x y:a}(h:(l.set i x)[j]?=_s y):(i=j/\y=x)\/(i≠j/\l[j]?=_s y):=by by_cases e:i=j;subst e;refine .inl ⟨rfl,?_⟩;rw[List.getElem?_set]at h;simp only[if_true]at h;split at h;exact(B2 h).symm;cases h;rw[C6 e]at h;exact .inr ⟨e,h⟩
theorem Eu{m:M}{i:Nat}{d:Dv}(h:m[i]?=_s d):m.at i=d:=by unfold M.at;rw[D3,h];rfl
section
variable{K:W.Frag}{g g':G}{H H':Hp}{Γ:Gm}{m:M}{σ:St}{P:Fp}
theorem Rel.zd(h:Rel K g H Γ m σ P):Zd g H:=h.1
theorem Rel.len(h:Rel K g H Γ m σ P):m.length=Γ.length/\σ.length=Γ.length:=let ⟨_,_,h1,_⟩:=h;⟨h1.l1,h1.l2⟩
theorem Rel.kA(h:Rel K g H Γ m σ P):kF g H P:=by obtain⟨_,F,h1,h4⟩:=h;intro a q;obtain⟨i,z⟩:=(h4 a).mp q;by_cases e:∃o,Γ[i]?=_s (_s o);obtain⟨o,e⟩:=e;obtain⟨d,v,_,_,r⟩:=h1.rep i o e;exact r.kA a z;exact(h1.out i (λo z=>e ⟨o,z⟩) a z).elim
theorem Rel.held{P' R:Fp}(s:Step g P H g' P' H')(ok:kF g H P)(h:Rel K g H Γ m σ R)(n:BG R P):Rel K g' H' Γ m σ R:=by obtain⟨zd,F,h1,h4⟩:=h;refine⟨s.zd zd,F,⟨h1.l1,h1.l2,λi o e=>?_,h1.out,h1.dj⟩,h4⟩;obtain⟨d,v,e1,e2,r⟩:=h1.rep i o e;exact⟨d,v,e1,e2,r.held s ok λa q z=>n a ((h4 a).mpr ⟨i,q⟩) z⟩
theorem Rel.same(h:Rel K g H Γ m σ P)(s:Dd H H'):Rel K g H' Γ m σ P:=h.held (Step.same (P:=j4) s) kF.j4 λ_ _ z=>z
theorem Rel.nC{i o:Nat}(h:Rel K g H Γ m σ P)(e:Γ[i]?=_s (_s o)):∃v P1,σ[i]?=_s (_s v)/\Rep K g H o (m.at i) v P1/\∀a,P1 a->P a:=by obtain⟨_,F,h1,h4⟩:=h;obtain⟨d,v,e1,e2,r⟩:=h1.rep i o e;exact⟨v,F i,e2,by rw[Eu e1];exact r,λa q=>(h4 a).mpr ⟨i,q⟩⟩
theorem Rel.agree{a:M}(h:Rel K g H Γ m σ P)(b:a.length=m.length)(ha:∀i o,Γ[i]?=_s (_s o)->a.at i=m.at i):Rel K g H Γ a σ P:=by
 obtain⟨zd,F,h1,h4⟩:=h;refine⟨zd,F,⟨b.trans h1.l1,h1.l2,λi o e=>?_,h1.out,h1.dj⟩,h4⟩;obtain⟨d,v,e1,e2,r⟩:=h1.rep i o e;have hi:i < a.length:=by rw[b];exact(A9.mp e1).1
 refine⟨d,v,?_,e2,r⟩;have:=ha i o e;unfold M.at at this;rw[D3,D3,e1,A4 hi]at this;rw[A4 hi];exact congrArg _s this
theorem Rel.drop(i:Nat)(d:Dv)(x:Option V)(h:Rel K g H Γ m σ P):∃P2,Rel K g H (Γ.set i _n) (m.set i d) (σ.set i x) P2/\∀a,P2 a->P a:=by
 obtain⟨zd,F,h1,h4⟩:=h;refine⟨λa=>∃j,j≠i/\F j a,⟨zd,λj a=>j≠i/\F j a,⟨by rw[C8,C8,h1.l1],by rw[C8,C8,h1.l2],λj o e=>?_,λj e a q=>?_,λj k n a q z=>h1.dj j k n a q.2 z.2⟩,λ_=>V0⟩,λa ⟨j,_,q⟩=>(h4 a).mpr ⟨j,q⟩⟩;rcases Cb e with⟨_,z⟩|⟨n,e⟩
 cases z;obtain⟨d',v,e1,e2,r⟩:=h1.rep j o e;have eq:(λa=>j≠i/\F j a)=F j:=funext λa=>propext ⟨λz=>z.2,λz=>⟨λq=>n q.symm,z⟩⟩;exact⟨d',v,by rw[C6 n];exact e1,by rw[C6 n];exact e2,by show Rep K g H o d' v (λa=>j≠i/\F j a);rw[eq];exact r⟩;refine h1.out j (λo z=>e o ?_) a q.2;rw[C6 λz=>q.1 z.symm];exact z
theorem Rel.fill{i o:Nat}{d:Dv}{v:V}{P1:Fp}(h:Rel K g H Γ m σ P)(e:Γ[i]?=_s _n)(hd:m[i]?=_s d)(t:σ[i]?=_s (_s v))(r:Rep K g H o d v P1)(n:BG P1 P):Rel K g H (Γ.set i (_s o)) m σ λa=>P1 a\/P a:=by
 obtain⟨zd,F,h1,h4⟩:=h;have u:∀a,¬F i a:=h1.out i λo z=>by rw[e]at z;cases z
 have hi:i < Γ.length:=(A9.mp e).1;refine⟨zd,λj a=>if j=i then P1 a else F j a,⟨by rw[C8];exact h1.l1,by rw[C8];exact h1.l2,λj o' c=>?_,λj c a q=>?_,λj k nn a q z=>?_⟩,λa=>?_⟩;rcases Cb c with⟨rfl,z⟩|⟨nn,c⟩
 cases z;have eq:(λa=>if i=i then P1 a else F i a)=P1:=funext λa=>by rw[if_pos rfl]
 exact⟨d,v,hd,t,by show Rep K g H o d v λa=>if i=i then P1 a else F i a;rw[eq];exact r⟩;obtain⟨d',l,e1,e2,s⟩:=h1.rep j o' c;have eq:(λa=>if j=i then P1 a else F j a)=F j:=funext λa=>by rw[if_neg λz=>nn z.symm]
 exact⟨d',l,e1,e2,by show Rep K g H o' d' l λa=>if j=i then P1 a else F j a;rw[eq];exact s⟩;by_cases z:j=i;subst z;exact c o (C5 hi);simp only[if_neg z]at q;exact h1.out j (λo' p=>c o' (by rw[C6 λw=>z w.symm];exact p)) a q;by_cases b:j=i;by_cases f:k=i;exact nn (b.trans f.symm);simp only[if_pos b,if_neg f]at q z;exact n a q ((h4 a).mpr ⟨k,z⟩);by_cases f:k=i;simp only[if_neg b,if_pos f]at q z;exact n a z ((h4 a).mpr ⟨j,q⟩);simp only[if_neg b,if_neg f]at q z;exact h1.dj j k nn a q z;show P1 a\/P a↔_;rw[h4 a];refine⟨λz=>?_,fun⟨j,z⟩=>?_⟩;rcases z with z|⟨j,z⟩
 exact⟨i,by simp only[if_true];exact z⟩;have:j≠i:=λw=>u a (w▸z);exact⟨j,by simp only[if_neg this];exact z⟩;by_cases b:j=i;simp only[if_pos b]at z;exact .inl z;simp only[if_neg b]at z;exact .inr ⟨j,z⟩
theorem CB{a:Type}{l:List a}{i:Nat}{x:a}(h:l[i]?=_s x):l.set i x=l:=by apply iC;intro j;by_cases e:i=j;subst e;rw[C5 (A9.mp h).1,h];rw[C6 e]
inductive Tk (K:W.Frag) (g:G) (H:Hp) (Γ:Gm) (m:M) (σ:St) (P:Fp) (i o:Nat):Prop
 |mk (v:V) (P1 P2:Fp) (a:σ[i]?=_s (_s v)) (b:m[i]?=_s (m.at i)) (c:Rep K g H o (m.at i) v P1) (d:Rel K g H (Γ.set i _n) m σ P2) (e:BG P1 P2) (f:∀a,P a↔P1 a\/P2 a)
theorem Rel.take{i o:Nat}(h:Rel K g H Γ m σ P)(e:Γ[i]?=_s (_s o)):Tk K g H Γ m σ P i o:=by
 obtain⟨zd,F,h1,h4⟩:=h;obtain⟨d,v,e1,e2,r⟩:=h1.rep i o e;refine⟨v,F i,λa=>∃j,j≠i/\F j a,e2,by rw[Eu e1];exact e1,by rw[Eu e1];exact r,⟨zd,λj a=>j≠i/\F j a,⟨by rw[C8];exact h1.l1,by rw[C8];exact h1.l2,λj o' b=>?_,λj b a q=>?_,λj k n a q z=>h1.dj j k n a q.2 z.2⟩,λ_=>V0⟩,λa q ⟨j,n,z⟩=>h1.dj i j (λw=>n w.symm) a q z,λa=>?_⟩;rcases Cb b with⟨_,z⟩|⟨n,b⟩
 cases z;obtain⟨d',f,e3,p,l⟩:=h1.rep j o' b;have eq:(λa=>j≠i/\F j a)=F j:=funext λa=>propext ⟨λz=>z.2,λz=>⟨λq=>n q.symm,z⟩⟩;exact⟨d',f,e3,p,by show Rep K g H o' d' f (λa=>j≠i/\F j a);rw[eq];exact l⟩;exact h1.out j (λo' z=>b o' (by rw[C6 λw=>q.1 w.symm];exact z)) a q.2;rw[h4 a];refine⟨fun⟨j,z⟩=>?_,λz=>?_⟩;by_cases c:j=i;exact .inl (c▸z);exact .inr ⟨j,c,z⟩;rcases z with z|⟨j,_,z⟩
 exact⟨i,z⟩;exact⟨j,z⟩
theorem Bz{a:Type}(l:List a)(i:Nat)(x y:a):(l.set i x).set i y=l.set i y:=V1 ..
theorem Rel.lM{Pv:Fp}{i o:Nat}{d:Dv}{v:V}(h:Rel K g H Γ m σ P)(hi:i < Γ.length)(b:Rep K g H o d v Pv)(n:BG Pv P) :
    ∃P2,Rel K g H (Γ.set i (_s o)) (m.set i d) (σ.set i (_s v)) P2/\∀a,P2 a->P a\/Pv a:=by
  obtain⟨P2,h2,s⟩:=h.drop i d (_s v);have l:=h.len;have:=h2.fill (i:=i) (C5 hi) (C5 `o) (C5 `o) b λa q z=>n a q (s a z);rw[Bz]at this;exact⟨_,this,λa q=>q.elim .inr λq=>.inl (s a q)⟩
theorem Rel.putIn{P1:Fp}{i o:Nat}{d:Dv}{v:V}(h:Rel K g H (Γ.set i _n) m σ P)(hi:i < Γ.length)(b:σ[i]?=_s (_s v))(r:Rep K g H o d v P1)(n:BG P1 P):∃P2,Rel K g H (Γ.set i (_s o)) (m.set i d) σ P2/\∀a,P2 a->P1 a\/P a:=by obtain⟨P2,h2,s⟩:=h.drop i d (_s v);rw[CB b]at h2;have l:=h.len;rw[C8]at l;have h3:=h2.fill (i:=i) (by rw[Bz];exact C5 hi) (C5 `o) b r λa q z=>n a q (s a z);rw[Bz,Bz]at h3;exact⟨_,h3,λa q=>q.elim .inl λq=>.inr (s a q)⟩
theorem Rel.freeze{i o:Nat}(h:Rel K g H Γ m σ P)(e:Γ[i]?=_s (_s o)):∃g' P' v,Step g P H g' P' H/\Rel K g' H (Γ.set i (_s 0)) m σ P'/\σ[i]?=_s (_s v)/\Rep K g' H 0 (m.at i) v j4:=by obtain⟨v,P1,P2,ev,j,r,d,n,f⟩:=h.take e;have st:Step g P1 H (g.add P1) j4 H:=Step.freeze r.kA;have fr:Rep K (g.add P1) H 0 (m.at i) v j4:=r.freeze λ_ q=>q;have c:=d.held st r.kA λa q z=>n a z q;have hi:i < Γ.length:=(A9.mp e).1;have b:=c.fill (i:=i) (C5 hi) j ev fr λ_ z=>z.elim;rw[Bz]at b;refine⟨_,_,v,?_,b,ev,fr⟩;exact(st.frame (R:=P2)).sub (λa q=>(f a).mpr q) λa q=>q.elim (λz=>z.elim) .inr
def BH:Gm->Gm->Bool
 |[],[]=>_t
 |none::a,_::b=>BH a b
 |some o::a,_s o'::b=>(o==0||o==o')&&BH a b
 |_,_=>_f
theorem Cj:∀{a b:Gm},BH a b=_t->a.length=b.length
 |[],[],_=>rfl
 |none::a,_::b,h=>by unfold BH at h;simp[Cj h]
 |some o::a,_s o'::b,h=>by unfold BH at h;simp[Cj (O9.mp h).2]
 |[],_::_,h=>by cases h
 |some _::_,_n::_,h=>by cases h
 |some _::_,[],h=>by cases h
 |none::_,[],h=>by cases h
theorem DQ:∀{a b:Gm}{i o:Nat},BH a b=_t->a[i]?=_s (_s o)->∃o',b[i]?=_s (_s o')/\(o=0\/o=o')
 |[],_,i,o,_,e=>by simp at e
 |none::a,x::b,i,o,h,e=>by
  unfold BH at h;cases i with|zero=>simp at e|succ i=>obtain⟨o',c,z⟩:=DQ (i:=i) h (by simpa using e);exact⟨o',by simpa using c,z⟩
 |some p::a,_s d::b,i,o,h,e=>by
  unfold BH at h;rw[A1]at h;cases i with|zero=>simp at e;subst e;refine⟨d,rfl,?_⟩;have:=h.1;rw[ir,beq_iff_eq,beq_iff_eq]at this;exact this|succ i=>obtain⟨o',c,z⟩:=DQ (i:=i) h.2 (by simpa using e);exact⟨o',by simpa using c,z⟩
 |some _::_,_n::_,_,_,h,_=>by cases h
 |some _::_,[],_,_,h,_=>by cases h
 |none::_,[],_,_,h,_=>by cases h
theorem Rel.weaken{Γ':Gm}(h:Rel K g H Γ m σ P)(e:BH Γ' Γ=_t):∃g' P',Step g P H g' P' H/\Rel K g' H Γ' m σ P':=by
 have ok:=h.kA;obtain⟨zd,F,h1,h4⟩:=h
 let D:Fp:=λa=>∃i,Γ'[i]?=_s (_s 0)/\F i a
 have f:kF g H D:=λa ⟨i,_,q⟩=>ok a ((h4 a).mpr ⟨i,q⟩);have st:Step g D H (g.add D) j4 H:=Step.freeze f
 let c:Nat->Fp:=λi a=>(∃o,Γ'[i]?=_s (_s (o+1)))/\F i a
 refine⟨g.add D,λa=>∃i,c i a,?_,st.zd zd,c,⟨by rw[Cj e];exact h1.l1,by rw[Cj e];exact h1.l2,λi o b=>?_,λi b a q=>?_,λi j n a q z=>h1.dj i j n a q.2 z.2⟩,λ_=>V0⟩;refine(st.frame (R:=λa=>∃i,c i a)).sub (λa q=>?_) λa q=>.inr q;rcases q with⟨i,_,q⟩|⟨i,q⟩
 exact(h4 a).mpr ⟨i,q⟩;exact(h4 a).mpr ⟨i,q.2⟩;obtain⟨o',l,z⟩:=DQ e b;obtain⟨d,v,e1,e2,r⟩:=h1.rep i o' l;refine⟨d,v,e1,e2,?_⟩;cases o with
 |zero=>
  have eq:c i=j4:=Bn λa ⟨⟨o,w⟩,_⟩=>by rw[b]at w;cases w
  rw[eq];exact r.freeze λa q=>⟨i,b,q⟩
 |succ o=>
  have eq:c i=F i:=funext λa=>propext ⟨λw=>w.2,λw=>⟨⟨o,b⟩,w⟩⟩;rcases z with z|z
  cases z;subst z;rw[eq];refine r.held st f λa q ⟨j,k,z⟩=>?_;by_cases w:i=j;subst w;rw[b]at k;cases k;exact h1.dj i j w a q z
 obtain⟨⟨o,w⟩,_⟩:=q;exact b _ w
end
theorem PE.imp{X:Cx}{e:Expr}{t t':TE}(h:PE X e t)(k:∀σ H Q,t' σ H Q->t σ H Q):PE X e t':=λpins s σ H Q I q=>h pins s σ H Q I (k σ H Q q)
theorem PT.imp{X:Cx}{e:Expr}{t t':TT}(h:PT X e t)(k:∀σ H Q,t' σ H Q->t σ H Q):PT X e t':=λpins s σ H Q I q=>h pins s σ H Q I (k σ H Q q)
theorem PW.imp{X:Cx}{e:Expr}{t t':TT}(h:PW X e t)(k:∀σ H Q,t' σ H Q->t σ H Q):PW X e t':=λa pins s σ H Q I q=>h a pins s σ H Q I (k σ H Q q)
theorem PA.imp{X:Cx}{e:List Expr}{t t':TA}(h:PA X e t)(k:∀σ H Q,t' σ H Q->t σ H Q):PA X e t':=λpos pins s σ H Q I q=>h pos pins s σ H Q I (k σ H Q q)
theorem PS.imp{X:Cx}{e:F0}{t t':TS}(h:PS X e t)(k:∀D σ H,t' D σ H->t D σ H):PS X e t':=λpins s σ H D I q=>h pins s σ H D I (k D σ H q)
theorem Be.imp{X:Cx}{e:List F0}{t t':TS}(h:Be X e t)(k:∀D σ H,t' D σ H->t D σ H):Be X e t':=λpins s σ H D I q=>h pins s σ H D I (k D σ H q)
noncomputable abbrev Ev(a:Type):=(R:Type)->M->(a->M->Option R)->Option R
def BA(js:List Nat)(m m':M):Prop:=m'.length=m.length/\∀i,i∉js->m'.at i=m.at i
theorem BA.refl{js:List Nat}{m:M}:BA js m m:=⟨rfl,λ_ _=>rfl⟩
theorem BA.trans{js ks:List Nat}{m d c:M}(a:BA js m d)(b:BA ks d c):BA (js++ks) m c:=⟨b.1.trans a.1,λi h=>(b.2 i λz=>h (B3 _ z)).trans (a.2 i λz=>h (C2 _ z))⟩
theorem BA.set{m:M}{i:Nat}{d:Dv}:BA [i] m (m.set i d):=⟨C8 ..,λj h=>by have n:i≠j:=λz=>h (by rw[z];exact K4 _);unfold M.at;rw[D3,D3,C6 n]⟩
theorem BA.mono{js ks:List Nat}{m b:M}(a:BA js m b)(h:∀i∈js,i∈ks):BA ks m b:=⟨a.1,λi n=>a.2 i λz=>n (h i z)⟩
inductive tE (K:W.Frag) (Γ:Gm) (o:Nat) (Γ':Gm) (js:List Nat) (f:Ev Dv) (σ:St) (H:Hp) (Q:VK):Prop
 | mk (g:G) (m:M) (P:Fp) (a:Rel K g H Γ m σ P) (R:Type) (k:Dv->M->Option R) (r:R) (b:f R m k=_s r)
  (c:∀d m' g' P' Pv v H',k d m'=_s r->BA js m m'->Step g P H g' (λa=>P' a\/Pv a) H'->Rep K g' H' o d v Pv->Rel K g' H' Γ' m' σ P'->BG P' Pv->Q v H')
inductive tT (K:W.Frag) (Γ Γ':Gm) (js:List Nat) (f:Ev Bool) (σ:St) (H:Hp) (Q:Bool->Hp->Prop):Prop
 | mk (g:G) (m:M) (P:Fp) (a:Rel K g H Γ m σ P) (R:Type) (k:Bool->M->Option R) (r:R) (b:f R m k=_s r)
  (c:∀b m' g' P' H',k b m'=_s r->BA js m m'->Step g P H g' P' H'->Rel K g' H' Γ' m' σ P'->Q b H')
noncomputable def Lv(f:Str):List Str->List Dv->Option Dv
 |n::ns,d::ds=>if f==n then _s d else Lv f ns ds
 |_,_=>_n
noncomputable def Hc(f:Str)(x:Dv):List Str->List Dv->List Dv
 |n::ns,d::ds=>if f==n then x::ds else d::Hc f x ns ds
 |_,ds=>ds
def fld(d:Dv)(f:Str):Option Dv:=match d with
 |.obj _ _ nm xs=>Lv f nm xs
 |_=>_n
def XA(d:Dv)(f:Str)(x:Dv):Dv:=match d with
 |.obj c fl nm xs=>.obj c fl nm (Hc f x nm xs)
 |d=>d
noncomputable def Zw:Dv->Bool
 |.lst _=>_t
 |.mC _ _=>_t
 |.nW _ _=>_t
 |.tup _=>_t
 |.obj _ _ _ _=>_t
 |_=>_f
def SY(d:Dv)(f:Str):Bool:=match fld d f with
 |some x=>Zw x
 |none=>_f
section
variable{K:W.Frag}{g:G}{H:Hp}
theorem OU{o:Nat}{d:Dv}{v:V}{P:Fp}(h:Rep K g H o d v P)(e:Zw d=_t):∃r,v=.ref r:=by
 cases d with|lst _=>unfold Rep at h;obtain⟨a,_,_,e,_⟩:=h;exact⟨a,e⟩|tup _=>unfold Rep at h;obtain⟨a,_,e,_⟩:=h;exact⟨a,e⟩|mC _ _=>unfold Rep at h;obtain⟨a,_,e,_⟩:=h;exact⟨a,e⟩|nW _ _=>unfold Rep at h;obtain⟨a,_,e,_⟩:=h;exact⟨a,e⟩|obj _ _ _ _=>unfold Rep at h;obtain⟨a,_,_,_,e,_⟩:=h;exact⟨a,e⟩|_=>cases e
theorem Hd{f:Str}{o:Nat}:∀{nm:List Str}{ds:List Dv}{vs:List V}{P:Fp}{d:Dv},AA K g H o ds vs P->Lv f nm ds=_s d ->
    ∃v P1 P2,(nm.zip vs).lookup f=_s v/\Rep K g H o d v P1/\BG P1 P2/\(∀a,P a↔P1 a\/P2 a)/\∀{g':G}{H':Hp}{y:Dv}{nY:Fp},Step g P1 H g' nY H'->Rep K g' H' o y v nY->AA K g' H' o (Hc f y nm ds) vs λa=>nY a\/P2 a
  |[],ds,vs,P,d,h,e=>by cases ds<;>cases e
  |n::nm,[],vs,P,d,h,e=>by cases e
  |n::nm,x::ds,vs,P,d,h,e=>by
    unfold AA at h;obtain⟨v,r,P1,P2,rfl,h1,h2,h3,h4⟩:=h;unfold Lv at e;rw[J3,E2];cases c:f==n with
    |true=>rw[c]at e;simp only[if_true]at e;cases e;refine⟨v,P1,P2,rfl,h1,h3,h4,fun{g' H' y nY} st i=>?_⟩;unfold Hc;rw[c];simp only[if_true];have k:=st.out h2.kA λa q z=>h3 a z q;exact AA.cons i (h2.held st h1.kA λa q z=>h3 a z q) λa q z=>k a z q
    |false=>rw[c]at e;simp only[D5,if_false]at e;obtain⟨w,j,p,e1,e2,e3,b,m⟩:=Hd h2 e;refine⟨w,j,λa=>P1 a\/p a,e1,e2,λa q z=>z.elim (λz=>h3 a z ((b a).mpr (.inl q))) λz=>e3 a q z,λa=>?_,fun{g' H' y nY} st i=>?_⟩;rw[h4 a,b a];exact⟨λz=>z.elim (λz=>.inr (.inl z)) λz=>z.elim .inl λz=>.inr (.inr z),λz=>z.elim (λz=>.inr (.inl z)) λz=>z.elim .inl λz=>.inr (.inr z)⟩;unfold Hc;rw[c];simp only[D5,if_false];have d1:BG P1 j:=λa q z=>h3 a q ((b a).mpr (.inl z));have l:=st.out h1.kA d1;refine(AA.cons (h1.held st e2.kA d1) (m st i) λa q z=>z.elim (λz=>l a q z) λz=>h3 a q ((b a).mpr (.inr z))).iff λa=>?_;exact⟨λz=>z.elim (λz=>.inr (.inl z)) λz=>z.elim .inl λz=>.inr (.inr z),λz=>z.elim (λz=>.inr (.inl z)) λz=>z.elim .inl λz=>.inr (.inr z)⟩
inductive OFd (K:W.Frag) (g:G) (H:Hp) (f:Str) (o:Nat) (x d:Dv) (v:V) (P:Fp):Prop
 | mk (a C dx:A6) (fs:List (Str×V)) (w:V) (P1 P2:Fp) (e:v=.ref a) (h1:H a=_s (.ins C dx fs)) (h2:rM K C) (h3:Gh K C f) (h4:fs.lookup f=_s w) (h5:Rep K g H o d w P1) (h6:BG P1 P2) (h7:∀b,P b↔P1 b\/P2 b)
  (h8:∀{g':G}{H':Hp}{y:Dv}{nY:Fp},Step g P1 H g' nY H'->Rep K g' H' o y w nY->Rep K g' H' o (XA x f y) v λa=>nY a\/P2 a)
theorem EH{f:Str}{o:Nat}{x d:Dv}{v:V}{P:Fp}(h:Rep K g H o x v P)(l:fld x f=_s d):OFd K g H f o x d v P:=by
 cases x with
 |obj c fl nm xs=>
  have ok:=h.kA;unfold Rep at h;obtain⟨a,dx,vs,u,rfl,h1,h2,h3,⟨m,s,hn⟩,h6,h7,h4⟩:=h;obtain⟨w,P1,P2,e1,e2,e3,i,t⟩:=Hd h6 l;have mem:f∈nm:=by
   have go:∀{nm:List Str}{xs:List Dv},Lv f nm xs=_s d->f∈nm:=by
    intro nm;induction nm with
    |nil=>intro xs e;cases xs<;>cases e
    |cons n nm k=>
     intro xs e;cases xs with|nil=>cases e|cons x xs=>unfold Lv at e;split at e;rename_i z;rw[beq_iff_eq.mp z];exact B8;exact B5 _ (k e)
   exact go l
  have len:∀{nm:List Str}{xs:List Dv}{y:Dv},nm.length=xs.length->nm.length=(Hc f y nm xs).length:=by
   intro nm;induction nm with
   |nil=>intro xs y e;cases xs<;>first|rfl|cases e
   |cons n nm k=>
    intro xs y e;cases xs with|nil=>cases e|cons x xs=>unfold Hc;split;exact e;simp[k (y:=y) (by simpa using e)]
  refine⟨a,_,dx,_,w,P1,λb=>(o≠0/\b=a)\/P2 b,rfl,h1,m.1,m.2 f (hn f mem),e1,e2,λb q z=>z.elim (λz=>h7 ((i a).mpr (.inl (z.2▸q)))) λz=>e3 b q z,λb=>?_,fun{g' H' y nY} st r=>?_⟩;rw[h4 b,i b];exact⟨λz=>z.elim (λz=>.inr (.inl z)) λz=>z.elim .inl λz=>.inr (.inr z),λz=>z.elim (λz=>.inr (.inl z)) λz=>z.elim .inl λz=>.inr (.inr z)⟩;have j:¬P1 a:=λz=>h7 ((i a).mpr (.inl z));have p:¬nY a:=λz=>(st.nw a z).elim j λz=>by rw[h1]at z;cases z
  show Rep K g' H' o (.obj c fl nm (Hc f y nm xs)) _ _;unfold Rep;refine⟨a,dx,vs,_,rfl,st.keep _ _ h1 j,λq=>st.zm _ (h2 q),λq z=>?_,⟨m,len s,hn⟩,t st r,λz=>z.elim p λz=>h7 ((i a).mpr (.inr z)),λb=>?_⟩;rcases st.zn _ z with z|z|z
  exact h3 q z;exact j z;rw[h1]at z;cases z;exact⟨λz=>z.elim (λz=>.inr (.inl z)) λz=>z.elim .inl λz=>.inr (.inr z),λz=>z.elim (λz=>.inr (.inl z)) λz=>z.elim .inl λz=>.inr (.inr z)⟩
 |_=>cases l
end
inductive Ar:Type 1 where
 |rf (i:Nat)
 |ev (Γ Γ':Gm) (js:List Nat) (f:Ev Dv)
 |fd (i:Nat) (f:Str)
def Ms(K:W.Frag):Ar->TE
 |.rf i=>Bf i
 |.ev Γ Γ' js f=>tE K Γ 0 Γ' js f
 |.fd i f=>RE K (Bf i) f
def BI(K:W.Frag):List Ar->TA
 |[]=>RD
 |a::as=>Tt (Ms K a) (BI K as)
def AN:List Ar->Ev (List Dv)
 |[],_,m,k=>k [] m
 |.rf i::as,R,m,k=>AN as R m λds a=>k (a.at i::ds) a
 |.ev _ _ _ f::as,R,m,k=>f R m λd a=>AN as R a λds b=>k (d::ds) b
 |.fd i f::as,R,m,k=>bif SY (m.at i) f then AN as R m λds a=>(fld (a.at i) f).bind λd=>k (d::ds) a else _n
def AE:Gm->List Ar->Gm->List Nat->Prop
 |Γ,[],Γ',js=>Γ'=Γ/\js=[]
 |Γ,.rf i::as,Γ',js=>(∃o,Γ[i]?=_s (_s o))/\(∃o,o<=1/\Γ'[i]?=_s (_s o))/\AE Γ as Γ' js
 |Γ,.ev b c a _::as,Γ',js=>b=Γ/\∃js2,js=a++js2/\AE c as Γ' js2
 |Γ,.fd i _::as,Γ',js=>(∃o,Γ[i]?=_s (_s o))/\(∃o,o<=1/\Γ'[i]?=_s (_s o))/\AE Γ as Γ' js
def Ad(K:W.Frag)(g:G)(H:Hp)(Γ:Gm)(m:M)(σ:St):List Ar->List Dv->List V->Prop
 |[],ds,vs=>ds=[]/\vs=[]
 |.rf i::as,ds,vs=>∃v b c,ds=m.at i::b/\vs=v::c/\σ[i]?=_s (_s v)/\(∃o,o<=1/\Γ[i]?=_s (_s o))/\Ad K g H Γ m σ as b c
 |.ev _ _ _ _::as,ds,vs=>∃d v b c,ds=d::b/\vs=v::c/\Rep K g H 0 d v j4/\Ad K g H Γ m σ as b c
 |.fd i f::as,ds,vs=>∃d v b c,ds=d::b/\vs=v::c/\(fld (m.at i) f=_s d/\∃a C dx fs,σ[i]?=_s (_s (.ref a))/\H a=_s (.ins C dx fs)/\fs.lookup f=_s v)/\(∃o,o<=1/\Γ[i]?=_s (_s o))/\Ad K g H Γ m σ as b c
theorem AK{K:W.Frag}{σ:St}:∀(as:List Ar){g:G}{Γ Γ':Gm}{js:List Nat}{m:M}{P:Fp}{H:Hp}{R:Type}{k:List Dv->M->Option R}{r:R}{Q:List V->Hp->Prop},Rel K g H Γ m σ P->AE Γ as Γ' js->AN as R m k=_s r ->
    (∀ds m' g' P' vs H',k ds m'=_s r->BA js m m'->Step g P H g' P' H'->Ad K g' H' Γ' m' σ as ds vs->Rel K g' H' Γ' m' σ P'->Q vs H')->BI K as σ H Q
  |[],g,Γ,Γ',js,m,P,H,R,k,r,Q,b,c,e,q=>by unfold AE at c;obtain⟨rfl,rfl⟩:=c;exact q [] m g P [] H e BA.refl Step.refl (by unfold Ad;exact⟨rfl,rfl⟩) b
  |.rf i::as,g,Γ,Γ',js,m,P,H,R,k,r,Q,b,c,e,q=>by unfold AE at c;obtain⟨⟨o,x⟩,h2,c⟩:=c;obtain⟨v,_,l,_⟩:=b.nC x;refine⟨v,l,AK as b c e λds m' g' P' vs H' p u s t h=>q _ m' g' P' _ H' p u s ?_ h⟩;unfold Ad;exact⟨v,ds,vs,rfl,rfl,l,h2,t⟩
  |.ev X Y T f::as,g,Γ,Γ',js,m,P,H,R,k,r,Q,b,c,e,q=>by unfold AE at c;obtain⟨rfl,js2,rfl,c⟩:=c;refine⟨g,m,P,b,R,_,r,e,λd j Z P1 Pv v H1 p u s rv h n=>?_⟩;refine AK as h c p λds L O P2 vs S F D s2 t B=>q _ L O P2 _ S F (u.trans D) ((s.less λ_ q=>.inl q).trans s2) ?_ B;unfold Ad;exact⟨d,v,ds,vs,rfl,rfl,rv.z.held s2 h.kA λ_ z=>z.elim,t⟩
  |.fd i f::as,g,Γ,Γ',js,m,P,H,R,k,r,Q,b,c,e,q=>by
    unfold AE at c;obtain⟨⟨o,x⟩,h2,c⟩:=c;have e:(bif SY (m.at i) f then AN as R m λds j=>(fld (j.at i) f).bind λd=>k (d::ds) j else _n)=_s r:=e;cases hr:SY (m.at i) f with
    |false=>rw[hr]at e;cases e
    |true=>
      rw[hr]at e;have e:(AN as R m λds j=>(fld (j.at i) f).bind λd=>k (d::ds) j)=_s r:=e;unfold SY at hr;cases hd:fld (m.at i) f with|none=>rw[hd]at hr;cases hr|some d0=>rw[hd]at hr;obtain⟨U,P1,l,rv,_⟩:=b.nC x;obtain⟨a,C,dx,fs,w,_,_,rfl,h1,N,hn,y,I,_⟩:=EH rv hd;obtain⟨A,rfl⟩:=OU I hr;refine⟨_,l,a,C,dx,fs,_,rfl,h1,N,hn,y,AK as b c e λds m' g' P' vs H' p u s t h=>?_⟩;obtain⟨d,e1,e2⟩:=Z0.mp p;obtain⟨nT,J,E⟩:=s.ins a C dx fs h1;refine q _ m' g' P' _ H' e2 u s ?_ h;unfold Ad;exact⟨d,_,ds,vs,rfl,rfl,⟨e1,a,C,dx,nT,l,J,E f A y⟩,h2,t⟩
def RA(K:W.Frag)(g:G)(H:Hp):List Dv->List V->Prop
 |[],vs=>vs=[]
 |d::ds,vs=>∃v r o P,vs=v::r/\o<=1/\Rep K g H o d v P/\RA K g H ds r
def Ak(K:W.Frag)(g:G)(H:Hp)(o:Nat)(d:Dv)(v:V)(H':Hp):Prop:=Dd H H'/\∃Pv,Rep K g H' o d v Pv/\∀a,Pv a->H a=_n
noncomputable abbrev Pr:=List Dv->Option Dv
abbrev JV:=List V->Hp->VK->Prop
def AR(K:W.Frag)(p:Pr)(o:Nat)(R:JV):Prop:=∀g H ds vs d Q,Zd g H->RA K g H ds vs->p ds=_s d->(∀v H',Ak K g H o d v H'->Q v H')->R vs H Q
def CQ(p:Pr)(a:Ev (List Dv)):Ev Dv:=λR m k=>a R m λds m'=>(p ds).bind λd=>k d m'
theorem kb.{u,v}{α:Type u}{β:Type v}{x:Option α}{f:α->Option β}{b:β}(h:x.bind f=_s b):∃a,x=_s a/\f a=_s b:=Z0.mp h
theorem jy.{u,v}{α:Type u}{β:Type v}{x:Option α}{f:α->Option β}{b:β}{P:Prop}(h:x.bind f=_s b)(k:∀a,x=_s a->f a=_s b->P):P:=
 Exists.elim (kb h) λa q=>k a q.1 q.2
section
variable{K:W.Frag}{g:G}{H H':Hp}{σ:St}{Γ Γ':Gm}{m:M}{P:Fp}
theorem Ad.ra(r:Rel K g H Γ m σ P):∀{as:List Ar}{ds:List Dv}{vs:List V},Ad K g H Γ m σ as ds vs->RA K g H ds vs
 |[],ds,vs,h=>by unfold Ad at h;obtain⟨rfl,rfl⟩:=h;unfold RA;rfl
 |.ev _ _ _ f::as,ds,vs,h=>by unfold Ad at h;obtain⟨d,v,n,b,rfl,rfl,h1,h2⟩:=h;unfold RA;exact⟨v,b,0,j4,rfl,by decide,h1,Ad.ra r h2⟩
 |.rf i::as,ds,vs,h=>by unfold Ad at h;obtain⟨v,n,b,rfl,rfl,h1,⟨o,j,c⟩,h3⟩:=h;obtain⟨q,P1,e,k,_⟩:=r.nC c;rw[h1]at e;cases e;unfold RA;exact⟨v,b,o,P1,rfl,j,k,Ad.ra r h3⟩
 |.fd i f::as,ds,vs,h=>by unfold Ad at h;obtain⟨d,v,n,b,rfl,rfl,⟨h1,a,C,dx,fs,u,ha,s⟩,⟨o,j,c⟩,h3⟩:=h;obtain⟨q,P1,e,k,_⟩:=r.nC c;rw[u]at e;cases e;obtain⟨A,D,y,nT,w,z,B,x,p,_,_,l,t,_⟩:=EH k h1;cases x;rw[ha]at p;cases p;rw[s]at l;cases l;unfold RA;exact⟨v,b,o,z,rfl,j,t,Ad.ra r h3⟩
theorem Ak.go{e:G}{f:Fp}{i:Hp}{o:Nat}{d:Dv}{v:V}(s:Step e f i g P H)(r:Rel K g H Γ m σ P)(n:Ak K g H o d v H') :
    ∃Pv,Step e f i g (λa=>P a\/Pv a) H'/\Rep K g H' o d v Pv/\Rel K g H' Γ m σ P/\BG P Pv:=by
  obtain⟨c,Pv,h1,h2⟩:=n;refine⟨Pv,s.trans ⟨λb o h _=>c b o h,(Step.same (g:=g) (P:=j4) c).ny,λ_ h=>h,λ_ h=>.inl h,⟨[],by simp⟩,λa h=>h.elim .inl λq=>.inr (h2 a q),(Step.same (g:=g) (P:=j4) c).zd,(Step.same (g:=g) (P:=j4) c).ins⟩,h1,r.same c,λa q z=>r.kA.new (h2 a z) q⟩
theorem Bh{p:Pr}{o:Nat}{as:List Ar}{js:List Nat}{R:JV}(j:AR K p o R)(c:AE Γ as Γ' js){Q:VK}(h:tE K Γ o Γ' js (CQ p (AN as)) σ H Q):BI K as σ H λvs b=>R vs b Q:=by obtain⟨g,m,P,r,w,k,res,e,q⟩:=h;refine AK as r c e λds m' g' P' vs b l t s n a=>?_;refine jy l λd e1 e2=>?_;refine j g' b ds vs d Q a.zd (n.ra a) e1 λv u nw=>?_;obtain⟨Pv,s2,h1,f,i⟩:=Ak.go s a nw;exact q d m' g' P' Pv v u e2 t s2 h1 f i
end
def Kw(r:R2):JV:=λvs H Q=>match vs with|[x,y]=>r x y H Q|_=>False
def YF(r:V->Hp->VK->Prop):JV:=λvs H Q=>match vs with|[x]=>r x H Q|_=>False
def He(d:Dv):Ev Dv:=λ_ m k=>k d m
def KW(i:Nat):Ev Dv:=λ_ m k=>k (m.at i) m
section
variable{X:Cx}{e:Expr}{Γ Γ':Gm}{js:List Nat}{o:Nat}{f:Ev Dv}
theorem YK{v:V}{d:Dv}(h:PE X e (tC v))(hd:∀g H,Rep X.K g H o d v j4):PE X e (tE X.K Γ o Γ [] (He d)):=PE.imp h λσ H Q q=>by obtain⟨g,m,P,r,R,k,res,e,q⟩:=q;exact q d m g P j4 v H e BA.refl (Step.refl.less λ_ q=>q.elim id C9) (hd g H) r λ_ _ z=>z
theorem ZK{i:Nat}(h:PE X e (Bf i)){o:Nat}(hi:Γ[i]?=_s (_s o)):PE X e (tE X.K Γ 0 (Γ.set i (_s 0)) [] (KW i)):=PE.imp h λσ H Q q=>by obtain⟨g,m,P,r,R,k,res,e,q⟩:=q;obtain⟨g',P',v,s,a,ev,rv⟩:=r.freeze hi;exact⟨v,ev,q _ m g' P' j4 v H e BA.refl (s.less λ_ q=>q.elim id C9) rv a λ_ _ z=>z⟩
theorem ZM{i:Nat}(h:PE X e (Bf i))(hi:Γ[i]?=_s (_s o)):PE X e (tE X.K Γ o (Γ.set i _n) [] (KW i)):=PE.imp h λσ H Q q=>by obtain⟨g,m,P,r,R,k,res,e,q⟩:=q;obtain⟨v,P1,P2,ev,_,rv,b,n,c⟩:=r.take hi;exact⟨v,ev,q _ m g P2 P1 v H e BA.refl (Step.refl.less λa q=>(c a).mpr q.symm) rv b λa q z=>n a z q⟩
theorem EU(h:PE X e (tE X.K Γ o Γ' js f)):PE X e (tE X.K Γ 0 Γ' js f):=PE.imp h λσ H Q q=>by obtain⟨g,m,P,r,R,k,res,e,q⟩:=q;refine⟨g,m,P,r,R,k,res,e,λd m' g' P' Pv v H' c i s rv b n=>?_⟩;have st:Step g' Pv H' (g'.add Pv) j4 H':=Step.freeze rv.kA;refine q d m' (g'.add Pv) P' j4 v H' c i (s.trans ?_) (rv.freeze λ_ q=>q) (b.held st rv.kA n) λ_ _ z=>z;exact(st.frame (R:=P')).sub (λa q=>q.symm) λa q=>q.elim .inr C9
end
def KY(t:List Dv->Dv)(a:Ev (List Dv)):Ev Dv:=λR m k=>a R m λds m'=>if ds.length<=1000000 then k (t ds) m' else _n
noncomputable def IE:List Ar->Bool
 |[]=>_t
 |.ev _ _ _ _::as=>IE as
 |.rf _::_=>_f
 |.fd _ _::_=>_f
theorem Ad.mL{K:W.Frag}{g:G}{H:Hp}{Γ:Gm}{m:M}{σ:St}:∀{as:List Ar}{ds:List Dv}{vs:List V},IE as=_t->Ad K g H Γ m σ as ds vs->AA K g H 0 ds vs j4
 |[],ds,vs,_,h=>by unfold Ad at h;obtain⟨rfl,rfl⟩:=h;exact AA.nil
 |.ev _ _ _ f::as,ds,vs,e,h=>by unfold Ad at h;obtain⟨d,v,b,c,rfl,rfl,h1,h2⟩:=h;exact(AA.cons h1 (Ad.mL (by unfold IE at e;exact e) h2) λ_ z=>z.elim).iff λa=>⟨λz=>z.elim,λz=>z.elim id id⟩
 |.rf i::as,ds,vs,e,h=>by unfold IE at e;cases e
 |.fd i _::as,ds,vs,e,h=>by unfold IE at e;cases e
section
variable{X:Cx}{es:List Expr}{Γ Γ':Gm}{js:List Nat}{as:List Ar}{pos:Pos}
theorem ZL{x1}(i:PA X es (BI X.K as))(c:AE Γ as Γ' js)(l:IE as=_t):PE X (.Tuple es x1 pos) (tE X.K Γ 1 Γ' js (KY .tup (AN as))):=PE.imp (WM i) λσ H Q q=>by obtain⟨g,m,P,r,R,k,res,e,q⟩:=q;refine AK as r c e λds m' g' P' vs t b o s n f=>?_;split at b;rename_i h;have d:=n.mL l;refine⟨by rw[<- d.len];exact C3 h `d,λp j=>?_⟩;have a:=Ae j (.tup vs);have st:=Step.same (g:=g') (P:=j4) a;refine q _ m' g' P' j4 (.ref p) _ b o ((s.trans (Step.same a)).less λ_ q=>q.elim id C9) ?_ (f.same a) λ_ _ z=>z;unfold Rep;exact⟨p,vs,rfl,AF,d.held st kF.j4 λ_ _ z=>z⟩;cases b
theorem Ak.lst{K:W.Frag}{g:G}{H:Hp}{ds:List Dv}{vs:List V}{p:A6}(zd:Zd g H)(e:AA K g H 0 ds vs j4)(c:H p=_n):Ak K g H 1 (.lst ds) (.ref p) (upd H p (.lst vs)):=by have d:=Ae c (.lst vs);refine⟨d,λb=>b=p,?_,λa q=>q▸c⟩;unfold Rep;exact⟨p,vs,j4,rfl,⟨AF,(λz=>by cases z),λ_ z=>zd p z c⟩,e.held (Step.same (g:=g) (P:=j4) d) kF.j4 λ_ _ z=>z,λz=>z,λb=>⟨λz=>.inl ⟨by decide,z⟩,λz=>z.elim (λz=>z.2) C9⟩⟩
theorem ZN(j:PA X es (BI X.K as))(c:AE Γ as Γ' js)(n:IE as=_t):PE X (.List es pos) (tE X.K Γ 1 Γ' js (KY .lst (AN as))):=PE.imp (Do j) λσ H Q q=>by obtain⟨g,m,P,r,R,k,res,e,q⟩:=q;refine AK as r c e λds m' g' P' vs u a t s o d=>?_;split at a;rename_i i;have b:=o.mL n;refine⟨by rw[<- b.len];exact C3 i `d,λp l=>?_⟩;obtain⟨Pv,s2,h1,f,h⟩:=Ak.go s d (Ak.lst d.zd b l);exact q _ m' g' P' Pv (.ref p) _ a t s2 h1 f h;cases a
end
def DB:List Nat->Type
 |[]=>Unit
 |[_]=>Dv
 |_::i::J=>Dv×DB (i::J)
noncomputable def AW:(J:List Nat)->M->DB J
 |[],_=>()
 |[i],m=>m.at i
 |i::j::J,m=>(m.at i,AW (j::J) m)
noncomputable def Aa:(J:List Nat)->M->DB J->M
 |[],m,_=>m
 |[i],m,d=>m.set i d
 |i::j::J,m,t=>Aa (j::J) (m.set i t.1) t.2
theorem NO{m:M}{i:Nat}{d:Dv}(h:i < m.length):M.at (m.set i d) i=d:=Eu (C5 h)
theorem EX:∀(J:List Nat)(m:M)(t:DB J),(Aa J m t).length=m.length
 |[],_,_=>rfl
 |[i],m,d=>C8 ..
 |i::j::J,m,t=>by unfold Aa;rw[EX];exact C8 ..
theorem AQ:∀(J:List Nat)(m:M)(t:DB J),BA J m (Aa J m t)
 |[],_,_=>BA.refl
 |[i],m,d=>BA.set
 |i::j::J,m,t=>by unfold Aa;exact(BA.set (i:=i)).trans (AQ (j::J) _ _)
theorem Js:∀(J:List Nat)(m m':M)(i:Nat),i < m.length->i∈J->M.at (Aa J m (AW J m')) i=m'.at i
 |[],_,_,_,_,h=>by cases h
 |[i],m,m',k,a,h=>by have e:=G6.mp h;subst e;exact NO a
 |i::j::J,m,m',k,a,h=>by
  show M.at (Aa (j::J) (m.set i (m'.at i)) (AW (j::J) m')) k=_;by_cases z:k∈j::J;exact Js (j::J) _ m' k (by rw[C8];exact a) z;rw[(AQ (j::J) _ _).2 k z];rcases E3.mp h with e|e
  subst e;exact NO a;exact(z e).elim
def Au(Γ:Gm)(js:List Nat):List Nat:=(D0 Γ.length).filter λi=>js.contains i&&(Γ.getD i _n).isSome
theorem Ax{Γ:Gm}{js:List Nat}{i o:Nat}(h:Γ[i]?=_s (_s o)):i∈Au Γ js\/i∉js:=by by_cases e:i∈js;refine .inl (N7.mpr ⟨L6.mpr (A9.mp h).1,?_⟩);rw[A1,B9,D3,h];exact⟨e,rfl⟩;exact .inr e
theorem Al{Γ:Gm}{js:List Nat}{i:Nat}(h:i∈Au Γ js):i∈js:=by have:=(N7.mp h).2;rw[A1,B9]at this;exact this.1
theorem Rel.join{K:W.Frag}{g:G}{H:Hp}{Γ:Gm}{m m':M}{σ:St}{P:Fp}{J js:List Nat}(r:Rel K g H Γ m' σ P)(a:BA js m m')(b:∀i o,Γ[i]?=_s (_s o)->i∈J\/i∉js):Rel K g H Γ (Aa J m (AW J m')) σ P:=by
 refine r.agree ((EX ..).trans a.1.symm) λi o e=>?_;have hi:i < m.length:=by rw[<- a.1,r.len.1];exact(A9.mp e).1
 by_cases z:i∈J;exact Js J m m' i hi z;rw[(AQ J m _).2 i z];exact(a.2 i ((b i o e).elim (λq=>(z q).elim) id)).symm
def bQ(p:List Dv->Option Bool)(a:Ev (List Dv)):Ev Bool:=λR m k=>a R m λds m'=>(p ds).bind λb=>k b m'
def Sd(f:Ev Bool):Ev Dv:=λR m k=>f R m λb m'=>k (.bl b) m'
def Uc(f:Ev Bool):Ev Bool:=λR m k=>f R m λb m'=>k (!b) m'
def Ka{a:Type}(c:Ev Bool)(f g:Ev a):Ev a:=λR m k=>c R m λb d=>if b=_t then f R d k else g R d k
def Jn(a:Type):List Nat->Type
 |[]=>a
 |i::J=>a×DB (i::J)
def Qf{b:Type}:(J:List Nat)->b->M->Jn b J
 |[],a,_=>a
 |i::J,a,m=>(a,AW (i::J) m)
def dX{b R:Type}:(J:List Nat)->M->Jn b J->(b->M->Option R)->Option R
 |[],m,a,k=>k a m
 |i::J,m,t,k=>k t.1 (Aa (i::J) m t.2)
theorem Mj{b R:Type}(J:List Nat)(m m':M)(a:b)(k:b->M->Option R):dX J m (Qf J a m') k=k a (Aa J m (AW J m')):=by cases J<;>rfl
def Lx{b:Type}(J:List Nat)(f:Ev b):Ev b:=λR m k=>(f (Jn b J) m λa m'=>_s (Qf J a m')).bind λt=>dX J m t k
section
variable{K:W.Frag}{Γ Γ' kN xA:Gm}{js js2 rH J:List Nat}{σ:St}{H:Hp}{o:Nat}
theorem GQ{f:Ev Dv}{Q:VK}(c:∀i o,Γ'[i]?=_s (_s o)->i∈J\/i∉js)(hs:∀i∈J,i∈js)(h:tE K Γ o Γ' js (Lx J f) σ H Q):tE K Γ o Γ' js f σ H Q:=by obtain⟨g,m,P,r,R,k,res,e,q⟩:=h;refine jy e λt e1 e2=>?_;refine⟨g,m,P,r,_,_,t,e1,λd m' g' P' Pv v H' b j s rv a n=>?_⟩;cases b;rw[Mj]at e2;exact q d _ g' P' Pv v H' e2 ((AQ J m _).mono hs) s rv (a.join j c) n
theorem KG{f:Ev Bool}{Q:Bool->Hp->Prop}(c:∀i o,Γ'[i]?=_s (_s o)->i∈J\/i∉js)(hs:∀i∈J,i∈js)(h:tT K Γ Γ' js (Lx J f) σ H Q):tT K Γ Γ' js f σ H Q:=by obtain⟨g,m,P,r,R,k,res,e,q⟩:=h;refine jy e λt e1 e2=>?_;refine⟨g,m,P,r,_,_,t,e1,λd m' g' P' H' b j s a=>?_⟩;cases b;rw[Mj]at e2;exact q d _ g' P' H' e2 ((AQ J m _).mono hs) s (a.join j c)
theorem JZ{f:Ev Bool}{Q:Bool->Hp->Prop}(d:BH kN Γ'=_t)(hs:∀i∈js,i∈js2)(h:tT K Γ kN js2 f σ H Q):tT K Γ Γ' js f σ H Q:=by obtain⟨g,m,P,r,R,k,res,e,q⟩:=h;refine⟨g,m,P,r,R,k,res,e,λb m' g' P' H' j n s c=>?_⟩;obtain⟨l,P2,s2,a⟩:=c.weaken d;exact q b m' l P2 H' j (n.mono hs) (s.trans s2) a
theorem Ja{f:Ev Dv}{Q:VK}(d:BH kN Γ'=_t)(hs:∀i∈js,i∈js2)(h:tE K Γ 0 kN js2 f σ H Q):tE K Γ 0 Γ' js f σ H Q:=by obtain⟨g,m,P,r,R,k,res,e,q⟩:=h;refine⟨g,m,P,r,R,k,res,e,λb m' g' P' Pv v H' j p s rv a n=>?_⟩;obtain⟨l,P2,s2,c⟩:=a.weaken d;exact q b m' l P2 j4 v H' j (p.mono hs) (((s.less λ_ q=>.inl q).trans s2).less λ_ q=>q.elim id C9) (rv.z.held s2 a.kA λ_ z=>z.elim) c λ_ _ z=>z
theorem ak{p:List Dv->Option Bool}{as:List Ar}{r:JV}(j:AR K (λds=>(p ds).map .bl) 0 r)(c:AE Γ as Γ' js){Q:Bool->Hp->Prop}(h:tT K Γ Γ' js (bQ p (AN as)) σ H Q):BI K as σ H λvs d=>r vs d λx H'=>∃k,x=.bl k/\Q k H':=by obtain⟨g,m,P,f,y,k,res,e,q⟩:=h;refine AK as f c e λds m' g' P' vs d l t s n a=>?_;refine jy l λb e1 e2=>?_;refine j g' d ds vs (.bl b) _ a.zd (n.ra a) (by show(p ds).map _=_;rw[e1];rfl) λv u nw=>?_;obtain⟨Pv,s2,h1,i,w⟩:=Ak.go s a nw;refine⟨b,by unfold Rep at h1;exact h1.1,q b m' g' P' u e2 t (s2.less λ_ q=>.inl q) i⟩
theorem CO{g:G}{o:Nat}{b:Bool}{v:V}{P:Fp}(h:Rep K g H o (.bl b) v P):v=.bl b:=by unfold Rep at h;exact h.1
theorem Bg{g:G}{b:Bool}:Rep K g H o (.bl b) (.bl b) j4:=by unfold Rep;exact⟨rfl,λ_ z=>z⟩
theorem VV{t u:Ev Bool}{Q:Bool->Hp->Prop}(h:tT K Γ Γ' (js++js2) (Ka t u (λR m k=>k _f m)) σ H Q)(w:BH Γ' kN=_t):ZA (tT K Γ kN js t) (tT K kN Γ' js2 u) σ H Q:=by
 obtain⟨g,m,P,r,R,k,res,e,q⟩:=h;refine⟨g,m,P,r,R,_,res,e,λb j x P1 A a l s i=>?_⟩;cases b with|true=>rw[if_pos rfl]at a ⊢;exact⟨x,j,P1,i,R,k,res,a,λc v f P2 y p n s2 d=>q c v f P2 y p (l.trans n) (s.trans s2) d⟩|false=>rw[if_neg B4]at a ⊢;obtain⟨f,P2,s2,d⟩:=i.weaken w;exact q _f j f P2 A a (l.mono λ_ z=>C2 _ z) (s.trans s2) d
theorem Yq{t u:Ev Bool}{Q:Bool->Hp->Prop}(h:tT K Γ Γ' (js++js2) (Ka t (λR m k=>k _t m) u) σ H Q)(w:BH Γ' kN=_t):dg (tT K Γ kN js t) (tT K kN Γ' js2 u) σ H Q:=by
 obtain⟨g,m,P,r,R,k,res,e,q⟩:=h;refine⟨g,m,P,r,R,_,res,e,λb j x P1 A a l s i=>?_⟩;cases b with|false=>rw[if_neg B4]at a ⊢;exact⟨x,j,P1,i,R,k,res,a,λc v f P2 y p n s2 d=>q c v f P2 y p (l.trans n) (s.trans s2) d⟩|true=>rw[if_pos rfl]at a ⊢;obtain⟨f,P2,s2,d⟩:=i.weaken w;exact q _t j f P2 A a (l.mono λ_ z=>C2 _ z) (s.trans s2) d
theorem VU{t:Ev Bool}{Q:Bool->Hp->Prop}(h:tT K Γ Γ' js (Uc t) σ H Q):Yv (tT K Γ Γ' js t) σ H Q:=by obtain⟨g,m,P,r,R,k,res,e,q⟩:=h;exact⟨g,m,P,r,R,_,res,e,λb c f P1 j d i s a=>q (!b) c f P1 j d i s a⟩
end
structure Kt (R:Type) where
 nx:M->Option R
 rt:Dv->M->Option R
 bk:M->Option R
 ct:M->Option R
noncomputable abbrev Es:=(R:Type)->M->Kt R->Option R
def Io(io:List Nat)(σ σ':St):Prop:=∀i∈io,σ'[i]?=σ[i]?
theorem Io.refl{io:List Nat}{σ:St}:Io io σ σ:=λ_ _=>rfl
theorem Io.trans{io:List Nat}{σ c d:St}(a:Io io σ c)(b:Io io c d):Io io σ d:=λi h=>(b i h).trans (a i h)
theorem Io.set{io:List Nat}{σ:St}{i:Nat}{x:Option V}(h:i∉io):Io io σ (σ.set i x):=λj a=>C6 λz=>h (by rw[z];exact a)
structure Fr where
 io:List Nat
 pI:Gm
 ro:Nat
structure rD (K:W.Frag) (F:Fr) (j6:Option Gm) (g:G) (P:Fp) (H:Hp) (σ:St) (D:Ends) (Γn:Option Gm) (js:List Nat) (m:M) {R:Type} (k:Kt R) (r:R):Prop where
 nx:∀Γ' m' g' P' σ' H',Γn=_s Γ'->k.nx m'=_s r->BA js m m'->Step g P H g' P' H'->Io F.io σ σ'->Rel K g' H' Γ' m' σ' P'->D.nx σ' H'
 rt:∀d m' g' P' Pv σ' v H',k.rt d m'=_s r->BA js m m'->Step g P H g' (λa=>P' a\/Pv a) H'->Io F.io σ σ'->Rep K g' H' F.ro d v Pv->Rel K g' H' F.pI m' σ' P'->BG P' Pv->D.rt v H'
 bk:∀Γ' m' g' P' σ' H',j6=_s Γ'->k.bk m'=_s r->BA js m m'->Step g P H g' P' H'->Io F.io σ σ'->Rel K g' H' Γ' m' σ' P'->D.bk σ' H'
 ct:∀Γ' m' g' P' σ' H',j6=_s Γ'->k.ct m'=_s r->BA js m m'->Step g P H g' P' H'->Io F.io σ σ'->Rel K g' H' Γ' m' σ' P'->D.ct σ' H'
inductive tS (K:W.Frag) (F:Fr) (j6:Option Gm) (Γ:Gm) (Γn:Option Gm) (js:List Nat) (f:Es) (D:Ends) (σ:St) (H:Hp):Prop
 |mk (g:G) (m:M) (P:Fp) (a:Rel K g H Γ m σ P) (R:Type) (k:Kt R) (r:R) (b:f R m k=_s r) (c:rD K F j6 g P H σ D Γn js m k r)
theorem rD.later{K:W.Frag}{F:Fr}{j6 Γn:Option Gm}{g g1:G}{P P1:Fp}{H H1:Hp}{σ l:St}{D:Ends}{js ks:List Nat}{m o:M}{R:Type}{k:Kt R}{r:R}(s:Step g P H g1 P1 H1)(i:Io F.io σ l)(j:BA js m o)(h:rD K F j6 g P H σ D Γn (js++ks) m k r):rD K F j6 g1 P1 H1 l D Γn ks o k r:=
  ⟨λΓ' m' g' P' σ' H' e f a s' c b=>h.nx Γ' m' g' P' σ' H' e f (j.trans a) (s.trans s') (i.trans c) b,
   λd m' g' P' Pv σ' v H' f a s' c rv b n=>h.rt d m' g' P' Pv σ' v H' f (j.trans a) (s.trans s') (i.trans c) rv b n,
   λΓ' m' g' P' σ' H' e f a s' c b=>h.bk Γ' m' g' P' σ' H' e f (j.trans a) (s.trans s') (i.trans c) b,
   λΓ' m' g' P' σ' H' e f a s' c b=>h.ct Γ' m' g' P' σ' H' e f (j.trans a) (s.trans s') (i.trans c) b⟩
def Eo:Es:=λ_ m k=>k.nx m
def Sa(f g:Es):Es:=λR m k=>f R m {k with nx:=λa=>g R a k}
def Hf(c:Ev Bool)(f g:Es):Es:=λR m k=>c R m λb a=>if b=_t then f R a k else g R a k
def Ua(f:Ev Dv):Es:=λR m k=>f R m k.rt
def Ow(f:Ev Dv):Es:=λR m k=>f R m λ_ a=>k.nx a
section
variable{X:Cx}{F:Fr}{j6 Γn qM:Option Gm}{Γ Γ' kN:Gm}{js js2 rH J:List Nat}{s:F0}{ss rest a b:List F0}{e c:Expr}{pos:Pos}{f f2:Es}{fe:Ev Dv}{t:Ev Bool}{o:Nat}
theorem EM{K:W.Frag}{D:Ends}{σ:St}{H:Hp}(h:tS K F j6 Γ (_s Γ) [] Eo D σ H):D.nx σ H:=by obtain⟨g,m,P,r,R,k,res,e,q⟩:=h;exact q.nx Γ m g P σ H rfl e BA.refl Step.refl Io.refl r
theorem ZG:Be X [] (tS X.K F j6 Γ (_s Γ) [] Eo):=Be.imp Cg λD σ H h=>EM h
theorem Vj:PS X (.Pass pos) (tS X.K F j6 Γ (_s Γ) [] Eo):=PS.imp Jt λD σ H h=>EM h
theorem ZH{x j pos'}:PS X (.Expr (.Constant (.str x) j pos) pos') (tS X.K F j6 Γ (_s Γ) [] Eo):=PS.imp WA λD σ H h=>EM h
theorem IU(h1:PS X s (tS X.K F j6 Γ (_s kN) js f))(h2:Be X rest (tS X.K F j6 kN Γn js2 f2)):Be X (s::rest) (tS X.K F j6 Γ Γn (js++js2) (Sa f f2)):=Be.imp (Aw h1 h2) λD σ H h=>by obtain⟨g,m,P,r,R,k,res,e,q⟩:=h;refine⟨g,m,P,r,R,_,res,e,⟨λΓ' m' g' P' σ' H' e i j s' n l=>?_,λd m' g' P' Pv σ' v H' i j=>q.rt d m' g' P' Pv σ' v H' i (j.mono λ_ z=>C2 _ z),λΓ' m' g' P' σ' H' e i j=>q.bk Γ' m' g' P' σ' H' e i (j.mono λ_ z=>C2 _ z),λΓ' m' g' P' σ' H' e i j=>q.ct Γ' m' g' P' σ' H' e i (j.mono λ_ z=>C2 _ z)⟩⟩;cases e;exact⟨g',m',P',l,R,k,res,i,q.later s' n j⟩
theorem Vk(h1:PS X s (tS X.K F j6 Γ _n js f)):Be X (s::rest) (tS X.K F j6 Γ _n js f):=Be.imp (Aw h1 (u:=λ_ _ _=>False) λ_ _ _ _ _ _ z=>z.elim) λD σ H h=>by obtain⟨g,m,P,r,R,k,res,e,q⟩:=h;exact⟨g,m,P,r,R,k,res,e,(λ_ _ _ _ _ _ e=>by cases e),q.rt,q.bk,q.ct⟩
theorem ZF(h1:PS X s (tS X.K F j6 Γ Γn js f)):Be X [s] (tS X.K F j6 Γ Γn js f):=Rg h1
theorem ZD(j:PE X e (tE X.K Γ F.ro F.pI js fe)):PS X (.Return (_s e) pos) (tS X.K F j6 Γ _n js (Ua fe)):=PS.imp (Vy j) λD σ H h=>by obtain⟨g,m,P,r,R,k,res,e,q⟩:=h;exact⟨g,m,P,r,R,_,res,e,λd m' g' P' Pv v H' l p s rv i n=>q.rt d m' g' P' Pv σ v H' l p s Io.refl rv i n⟩
theorem Vn(j:PE X e (tE X.K Γ o Γ' js fe))(hs:N0 e _n pos.line X.env=pure _f):PS X (.Expr e pos) (tS X.K F j6 Γ (_s Γ') js (Ow fe)):=PS.imp (Ri j hs) λD σ H h=>by obtain⟨g,m,P,r,R,k,res,e,q⟩:=h;exact⟨g,m,P,r,R,_,res,e,λd m' g' P' Pv v H' l p s rv i n=>q.nx Γ' m' g' P' σ H' rfl l p (s.less λ_ q=>.inl q) Io.refl i⟩
theorem bz(x:PT X c (tT X.K Γ kN js t))(ha:Be X a (tS X.K F j6 kN Γn js2 f))(y:Be X b (tS X.K F j6 kN Γn rH f2)):PS X (.If c a b pos) (tS X.K F j6 Γ Γn (js++(js2++rH)) (Hf t f f2)):=PS.imp (Zg x ha y) λD σ H h=>by
 obtain⟨g,m,P,r,R,k,res,e,q⟩:=h;refine⟨g,m,P,r,R,_,res,e,λb n p P1 B j A s u=>?_⟩;have q2:=q.later s Io.refl A;have w:∀(ks:List Nat),(∀i∈ks,i∈js2++rH)->rD X.K F j6 p P1 B σ D Γn ks n k res:=λks l =>
  ⟨λΓ' m' g' P' σ' H' e j a=>q2.nx Γ' m' g' P' σ' H' e j (a.mono l),λd m' g' P' Pv σ' v H' j a=>q2.rt d m' g' P' Pv σ' v H' j (a.mono l),λΓ' m' g' P' σ' H' e j a=>q2.bk Γ' m' g' P' σ' H' e j (a.mono l),λΓ' m' g' P' σ' H' e j a=>q2.ct Γ' m' g' P' σ' H' e j (a.mono l)⟩
 cases b with|true=>rw[if_pos rfl]at j;show(if _t=_t then _ else _);rw[if_pos rfl];exact⟨p,n,P1,u,R,k,res,j,w js2 λ_ z=>C2 _ z⟩|false=>rw[if_neg B4]at j;show(if _f=_t then _ else _);rw[if_neg B4];exact⟨p,n,P1,u,R,k,res,j,w rH λ_ z=>B3 _ z⟩
def GO:Option Gm->Option Gm->Bool
 |some a,_s b=>BH a b
 |_,_n=>_t
 |none,_s _=>_f
theorem NS(h:Be X ss (tS X.K F j6 Γ Γn js f))(d:GO qM Γn=_t):Be X ss (tS X.K F j6 Γ qM js f):=Be.imp h λD σ H h=>by
 obtain⟨g,m,P,r,R,k,res,e,q⟩:=h;refine⟨g,m,P,r,R,k,res,e,λΓ' m' g' P' σ' H' e p v s' n l=>?_,q.rt,q.bk,q.ct⟩;subst e;cases qM with|none=>cases d|some i=>obtain⟨u,P2,s2,j⟩:=l.weaken (by unfold GO at d;exact d);exact q.nx i m' u P2 σ' H' rfl p v (s'.trans s2) n j
def aK(J:List Nat)(f:Es):Es:=λR m k=>(f (DB J) m ⟨λm'=>_s (AW J m'),λ_ _=>_n,λ_=>_n,λ_=>_n⟩).bind λt=>k.nx (Aa J m t)
theorem Wo{K:W.Frag}{D:Ends}{σ:St}{H:Hp}(n:∀i o,Γ'[i]?=_s (_s o)->i∈J\/i∉js)(hs:∀i∈J,i∈js)(h:tS K F j6 Γ (_s Γ') js (aK J f) D σ H):tS K F j6 Γ (_s Γ') js f D σ H:=by obtain⟨g,m,P,r,R,k,res,e,q⟩:=h;refine jy e λt e1 e2=>?_;refine⟨g,m,P,r,_,_,t,e1,⟨λkN m' g' P' σ' H' e d p s' l j=>?_,(λ_ _ _ _ _ _ _ _ d=>by cases d),(λ_ _ _ _ _ _ _ d=>by cases d),λ_ _ _ _ _ _ _ d=>by cases d⟩⟩;cases e;cases d;exact q.nx Γ' _ g' P' σ' H' rfl e2 ((AQ J m _).mono hs) s' l (j.join p n)
end
noncomputable abbrev Tg:=(R:Type)->Dv->M->(M->Option R)->Option R
def Ag(js:List Nat)(σ σ':St):Prop:=σ'.length=σ.length/\∀i,i∉js->σ'[i]?=σ[i]?
theorem Ag.io{js io:List Nat}{σ σ':St}(h:Ag js σ σ')(d:∀i∈io,i∉js):Io io σ σ':=λi hi=>h.2 i (d i hi)
theorem Ag.trans{js ks:List Nat}{σ c d:St}(a:Ag js σ c)(b:Ag ks c d):Ag (js++ks) σ d:=⟨b.1.trans a.1,λi h=>(b.2 i λz=>h (B3 _ z)).trans (a.2 i λz=>h (C2 _ z))⟩
theorem Ag.set{σ:St}{i:Nat}{x:Option V}:Ag [i] σ (σ.set i x):=⟨C8 ..,λj h=>C6 λz=>h (by rw[z];exact K4 _)⟩
def IF(K:W.Frag)(Γ Γ':Gm)(js:List Nat)(tg:TG)(f:Tg):Prop:=∀(g:G)(m:M)(P:Fp)(d:Dv)(v:V)(σ:St)(H:Hp)(R:Type)(k:M->Option R)(r:R)(Q:St->Hp->Prop),Rel K g H Γ m σ P->Rep K g H 0 d v j4->f R d m k=_s r ->
 (∀m' P' σ',k m'=_s r->BA js m m'->(∀a,P' a->P a)->Ag js σ σ'->Rel K g H Γ' m' σ' P'->Q σ' H)->tg v σ H Q
def Yk(i:Nat):Tg:=λ_ d m k=>k (m.set i d)
theorem Qz{K:W.Frag}{Γ:Gm}{i:Nat}(hi:i < Γ.length):IF K Γ (Γ.set i (_s 0)) [i] (BX i) (Yk i):=λg m P d v σ H R k r Q b rv e q=>by obtain⟨P2,c,s⟩:=b.lM hi rv λ_ z=>z.elim;exact q _ P2 _ e BA.set (λa z=>(s a z).elim id C9) Ag.set c
noncomputable def VT:(J:List Nat)->List Dv->Option (DB J)
 |[],[]=>_s ()
 |[_],[d]=>_s d
 |_::j::J,d::ds=>(VT (j::J) ds).bind λt=>_s (d,t)
 |_,_=>_n
def dW(J:List Nat)(d:Dv):Option (DB J):=match d with
 |.tup ds=>VT J ds
 |.lst ds=>VT J ds
 |_=>_n
def de(J:List Nat):Tg:=λ_ d m k=>(dW J d).bind λt=>k (Aa J m t)
def CP:List Nat->Gg
 |[]=>HZ
 |i::J=>Bj (BX i) (CP J)
def NQ(Γ:Gm)(J:List Nat)(x:Option Nat):Gm:=J.foldl (λΓ i=>Γ.set i x) Γ
theorem NP(J:List Nat)(x:Option Nat):∀Γ:Gm,(NQ Γ J x).length=Γ.length:=by
 induction J with|nil=>intro Γ;rfl|cons i J a=>intro Γ;show(NQ (Γ.set i x) J x).length=_;rw[a,C8]
theorem FW{K:W.Frag}:∀(J:List Nat){Γ:Gm}{g:G}{m:M}{P:Fp}{ds:List Dv}{vs:List V}{σ:St}{H:Hp}{t:DB J}{Q:St->Hp->Prop},(∀i∈J,i < Γ.length)->Rel K g H Γ m σ P->AA K g H 0 ds vs j4->VT J ds=_s t ->
    (∀P' σ',(∀a,P' a->P a)->Ag J σ σ'->Rel K g H (NQ Γ J (_s 0)) (Aa J m t) σ' P'->Q σ' H)->ds.length=J.length/\CP J vs σ H Q
  |[],Γ,g,m,P,ds,vs,σ,H,t,Q,b,r,rv,e,q=>by
    cases ds with|nil=>unfold AA at rv;exact⟨rfl,rv.1,q P σ (λ_ z=>z) ⟨rfl,λ_ _=>rfl⟩ r⟩|cons d ds=>cases e
  |[i],Γ,g,m,P,ds,vs,σ,H,t,Q,b,r,rv,e,q=>by
    match ds,e with
    |[d],e=>cases e;unfold AA at rv;obtain⟨v,c,P1,P2,rfl,h1,h2,_,h4⟩:=rv;unfold AA at h2;obtain⟨P3,f,s⟩:=r.lM (b i B8) h1.z λ_ z=>z.elim;exact⟨rfl,v,c,rfl,h2.1,q P3 _ (λa z=>(s a z).elim id C9) Ag.set f⟩
    |[],e=>cases e
    |_::_::_,e=>cases e
  |i::j::J,Γ,g,m,P,ds,vs,σ,H,t,Q,b,r,rv,e,q=>by
    match ds,e with
    |[],e=>cases e
    |d::ds,e=>refine jy (show(VT (j::J) ds).bind (λt=>_s (d,t))=_s t from e) λt' e1 e2=>?_;cases e2;unfold AA at rv;obtain⟨v,c,P1,P2,rfl,h1,h2,_,h4⟩:=rv;obtain⟨P3,f,s⟩:=r.lM (b i B8) h1.z λ_ z=>z.elim;have s':∀a,P3 a->P a:=λa z=>(s a z).elim id C9;have:=FW (j::J) (Q:=Q) (λk l=>by rw[C8];exact b k (B5 _ l)) f h2.z e1 λP' σ' sp n h=>q P' σ' (λa z=>s' a (sp a z)) (Ag.set.trans n) h;exact⟨by simp[this.1],v,c,rfl,this.2⟩
abbrev Of(K:W.Frag)(n:Nat)(t:Gg):TG:=λv σ H Q=>Wu K n t v σ H Q\/Wv n t v σ H Q
theorem Mo{K:W.Frag}{Γ:Gm}{J:List Nat}(f:∀i∈J,i < Γ.length):IF K Γ (NQ Γ J (_s 0)) J (Of K J.length (CP J)) (de J):=λg m P d v σ H R k r Q b rv e q=>by
 refine jy e λt e1 e2=>?_;have go:∀{ds vs},AA K g H 0 ds vs j4->VT J ds=_s t->ds.length=J.length/\CP J vs σ H Q:=λh1 h2=>FW J f b h1 h2 λP' σ' sp h c=>q _ P' σ' e2 (AQ J m t) sp h c;cases d with|tup ds=>unfold Rep at rv;obtain⟨a,vs,rfl,h1,h2⟩:=rv;obtain⟨l,z⟩:=go h2 e1;exact .inl ⟨a,vs,rfl,.inl (.inl h1),by rw[<- h2.len];exact l,z⟩|lst ds=>unfold Rep at rv;obtain⟨a,vs,P',rfl,h1,h2,_⟩:=rv;obtain⟨l,z⟩:=go h2.z e1;exact .inr ⟨a,vs,rfl,h1.1,by rw[<- h2.len];exact l,z⟩|_=>cases e1
theorem PG.or{X:Cx}{e:Expr}{t u:TG}(h:PG X e t)(k:PG X e u):PG X e λv σ H Q=>t v σ H Q\/u v σ H Q:=λpins s σ H v w Q I r q=>q.elim (h pins s σ H v w Q I r) (k pins s σ H v w Q I r)
theorem Oc{js:List Nat}{t u:TG}(h:MW js t)(k:MW js u):MW js λv σ H Q=>t v σ H Q\/u v σ H Q:=λx σ H Q q=>q.elim (λq=>.inl (h x σ H Q q)) λq=>.inr (k x σ H Q q)
theorem Cz{js:List Nat}:∀(J:List Nat),(∀i∈J,i∈js)->IA js (CP J)
 |[],_=>HX
 |i::J,h=>Lr (h i B8) (Cz J λk a=>h k (B5 _ a))
def dZ(b f2:Tg):Tg:=λR d m k=>(dW [0,1] d).bind λt=>b R t.1 m λa=>f2 R t.2 a k
theorem Qy{K:W.Frag}{Γ p s:Gm}{A w:List Nat}{i h:TG}{u f2:Tg}(h1:IF K Γ p A i u)(h2:IF K p s w h f2):IF K Γ s (A++w) (Of K 2 (Bj i (Bj h HZ))) (dZ u f2):=λg m P d v σ H R k r Q B rv e q=>by
 refine jy e λt e1 e2=>?_;have go:∀{ds vs},AA K g H 0 ds vs j4->VT [0,1] ds=_s t->vs.length=2/\Bj i (Bj h HZ) vs σ H Q:=fun{ds vs} c b=>by
  match ds,b with
  |[x,y],b=>cases b;unfold AA at c;obtain⟨j,o,P1,P2,rfl,I,c,_⟩:=c;unfold AA at c;obtain⟨f,n,P3,M,rfl,G,c,_⟩:=c;unfold AA at c;obtain⟨rfl,_⟩:=c;exact⟨rfl,j,[f],rfl,h1 g m P x j σ H R _ r _ B I.z e2 λE P1 C k1 L p1 s1 o=>⟨f,[],rfl,h2 g E P1 y f C H R k r _ o G.z k1 λD P2 F k2 J p2 s2 n=>⟨rfl,q D P2 F k2 (L.trans J) (λa z=>p1 a (p2 a z)) (s1.trans s2) n⟩⟩⟩
  |[],b=>cases b
  |[_],b=>cases b
  |_::_::_::_,b=>cases b
 cases d with|tup ds=>unfold Rep at rv;obtain⟨a,vs,rfl,h1,h2⟩:=rv;obtain⟨l,z⟩:=go h2 e1;exact .inl ⟨a,vs,rfl,.inl (.inl h1),l,z⟩|lst ds=>unfold Rep at rv;obtain⟨a,vs,P',rfl,h1,h2,_⟩:=rv;obtain⟨l,z⟩:=go h2.z e1;exact .inr ⟨a,vs,rfl,h1.1,l,z⟩|_=>cases e1
def Qa(t:TG):Prop:=∀v σ H (Q a:St->Hp->Prop),t v σ H Q->(∀σ H,Q σ H->a σ H)->t v σ H a
def GA(t:Gg):Prop:=∀v σ H (Q a:St->Hp->Prop),t v σ H Q->(∀σ H,Q σ H->a σ H)->t v σ H a
theorem FY{i:Nat}:Qa (BX i):=λ_ _ _ _ _ h q=>q _ _ h
theorem Ef:GA HZ:=λ_ _ _ _ _ h q=>⟨h.1,q _ _ h.2⟩
theorem FZ{t:TG}{u:Gg}(b:Qa t)(a:GA u):GA (Bj t u):=λ_ _ _ _ _ ⟨v,r,e,h⟩ q=>⟨v,r,e,b _ _ _ _ _ h λ_ _ h=>a _ _ _ _ _ h q⟩
theorem Eg:∀J:List Nat,GA (CP J)
 |[]=>Ef
 |_::J=>FZ FY (Eg J)
theorem OH{K:W.Frag}{n:Nat}{u:Gg}(b:GA u):Qa (Of K n u):=λ_ _ _ _ _ h q=>h.elim (fun⟨a,xs,e,s,l,h⟩=>.inl ⟨a,xs,e,s,l,b _ _ _ _ _ h q⟩) fun⟨a,xs,e,s,l,h⟩=>.inr ⟨a,xs,e,s,l,b _ _ _ _ _ h q⟩
theorem El{js:List Nat}{t:TG}{u:Gg}(a:Qa t)(mu:GA u)(d:MW js t)(c:IA js u):IA js (Bj t u):=λx σ H Q ⟨v,r,e,q⟩=>⟨v,r,e,a _ _ _ _ _ (d v σ H _ q) λb g ⟨⟨l1,f⟩,q1⟩=>mu _ _ _ _ _ (c r b g _ q1) λh j ⟨⟨l2,f2⟩,q2⟩=>⟨⟨l2.trans l1,λi hi=>(f2 i hi).trans (f i hi)⟩,q2⟩⟩
def Ox(f:Ev Dv)(tg:Tg):Es:=λR m k=>f R m λd a=>tg R d a k.nx
section
variable{X:Cx}{F:Fr}{j6:Option Gm}{Γ Γ' kN:Gm}{js js2:List Nat}{e tg:Expr}{pos pos':Pos}{fe:Ev Dv}{g:TG}{ft:Tg}{i o:Nat}{x:Str}
theorem Jh{K:W.Frag}(hi:i < kN.length)(f:i∉F.io){D:Ends}{σ:St}{H:Hp}(h:tS K F j6 Γ (_s (kN.set i (_s o))) (js++[i]) (Ox fe (Yk i)) D σ H):Gj (tE K Γ o kN js fe) (BX i) D σ H:=by obtain⟨l,m,P,r,R,k,res,e,q⟩:=h;refine⟨l,m,P,r,R,_,res,e,λd t g' P' Pv v H' j p s rv c n=>?_⟩;obtain⟨P2,b,s2⟩:=c.lM hi rv λa q z=>n a z q;exact q.nx _ _ g' P2 _ H' rfl j (p.trans BA.set) (s.less λa z=>s2 a z) (Io.set f) b
theorem ZC(j:X.N.Nodup)(a:X.N[i]?=_s x)(c:Loc X.env.scope x)(b:i∉F.io)(hi:i < kN.length)(f:PE X e (tE X.K Γ o kN js fe))(hs:N0 e (_s (.Name x pos')) pos.line X.env=pure _f)(d:X.fn x=_t\/X.env.scope.names.lookup x=_s .local) :
    PS X (.Assign [.Name x pos'] e pos) (tS X.K F j6 Γ (_s (kN.set i (_s o))) (js++[i]) (Ox fe (Yk i))):=PS.imp (Dn j a c f hs d) λ_ _ _ h=>Jh hi b h
end
def Hx(g:G)(H:Hp)(a:G)(b:Hp):Prop:=∃P P',Step g P H a P' b/\kF g H P
def Yl(K:W.Frag)(J:It)(ds:List Dv)(g:G)(H:Hp):Prop:=∀b a,Hx g H b a ->
 (∀i d,ds[i]?=_s d->J.go i a/\∀x c,J.rO i a x c->Ak K b a 0 d x c)/\∀i,ds.length<=i->J.stop i a
inductive tI (K:W.Frag) (Γ Γ':Gm) (js:List Nat) (f:Ev (List Dv)) (σ:St) (H:Hp) (Q:It->Hp->Prop):Prop
 | mk (g:G) (m:M) (P:Fp) (a:Rel K g H Γ m σ P) (R:Type) (k:List Dv->M->Option R) (r:R) (b:f R m k=_s r)
  (c:∀ds m' g' P' H' J,k ds m'=_s r->BA js m m'->Step g P H g' P' H'->Rel K g' H' Γ' m' σ P'->Yl K J ds g' H'->Q J H')
theorem PI.imp{X:Cx}{tg e:Expr}{t t':TI}(h:PI X tg e t)(k:∀σ H R,t' σ H R->t σ H R):PI X tg e t':=λpins s σ H R I q=>h pins s σ H R I (k σ H R q)
theorem Ak.old{K:W.Frag}{g:G}{H:Hp}{o:Nat}{d:Dv}{v:V}(h:Rep K g H o d v j4):Ak K g H o d v H:=⟨λ_ _ q=>q,j4,h,λ_ z=>z.elim⟩
theorem Hx.rep{K:W.Frag}{g g2:G}{H a:Hp}{d:Dv}{v:V}(s:Hx g H g2 a)(h:Rep K g H 0 d v j4):Rep K g2 a 0 d v j4:=by obtain⟨P,P',st,ok⟩:=s;exact h.held st ok λ_ z=>z.elim
section
variable{τ γ ρ:Type}
inductive Lp (τ γ ρ:Type) where
 |go (c:γ)|bk (c:γ)|rt (d:τ) (r:ρ)
inductive Rs (τ γ ρ:Type) where
 |go (c:γ)|rt (d:τ) (r:ρ)
noncomputable def Rs.el{a:Type}(x:Rs τ γ ρ)(f:γ->a)(h:τ->ρ->a):a:=match x with|.go c=>f c|.rt d r=>h d r
noncomputable def Ls(g:Dv->γ->Option γ):List Dv->γ->Option γ
 |[],c=>_s c
 |x::xs,c=>(g x c).bind λa=>Ls g xs a
noncomputable def JD(g:Dv->γ->Option (Lp τ γ ρ)):List Dv->γ->Option (Rs τ γ ρ)
 |[],c=>_s (.go c)
 |x::xs,c=>(g x c).bind λl=>match l with
  |.go a=>JD g xs a
  |.bk a=>_s (.go a)
  |.rt d r=>_s (.rt d r)
noncomputable def bg(t:γ->Option Bool)(g:γ->Option γ):Nat->γ->Option γ
 |0,_=>_n
 |n+1,c=>(t c).bind λb=>if b=_t then(g c).bind (bg t g n)else _s c
end
def kC(J:List Nat):Kt (DB J):=⟨λm'=>_s (AW J m'),λ_ _=>_n,λ_=>_n,λm'=>_s (AW J m')⟩
def kE(J Jr:List Nat):Kt (Lp Dv (DB J) (DB Jr)):=⟨λm'=>_s (.go (AW J m')),λd m'=>_s (.rt d (AW Jr m')),λm'=>_s (.bk (AW J m')),λm'=>_s (.go (AW J m'))⟩
def Ot(a:Ev (List Dv))(tg:Tg)(J:List Nat)(b:Es):Es:=λR m k=>a R m λds c =>
 (Ls (λd t=>tg (DB J) d (Aa J c t) λe=>b (DB J) e (kC J)) ds (AW J c)).bind λt=>k.nx (Aa J c t)
def Os(c:Ev (List Dv))(tg:Tg)(J Jr:List Nat)(b:Es):Es:=λR m k=>c R m λds a =>
 (JD (λd t=>tg (Lp Dv (DB J) (DB Jr)) d (Aa J a t) λe=>b (Lp Dv (DB J) (DB Jr)) e (kE J Jr)) ds (AW J a)).bind λx=>x.el (λt=>k.nx (Aa J a t)) λd t=>k.rt d (Aa Jr a t)
theorem Iz{J:List Nat}{Γ:Gm}{K:W.Frag}{g:G}{H:Hp}{m:M}{σ:St}{P:Fp}(r:Rel K g H Γ m σ P):Rel K g H Γ (Aa J m (AW J m)) σ P:=r.join (js:=[]) BA.refl λ_ _ _=>.inr `s
theorem KS{K:W.Frag}{F:Fr}{mV:Option Gm}{Γ lV:Gm}{nN:Option Gm}{f l:List Nat}{g:TG}{ft:Tg}{b:Es}{J Jr:List Nat}(ht:IF K Γ lV f g ft)(lY:∀i∈F.io,i∉f)(hw:GO (_s Γ) nN=_t)
    (hJ:J=Au Γ (f++l)) (qr:Jr=Au F.pI (f++l)) {ds:List Dv} {c:M} {D:Ends} {σ:St} {w:Hp} {u:G} {P1:Fp} {I:It} {R:Type} {k:Kt R} {res:R}
    (r1:Rel K u w Γ c σ P1) (yl:Yl K I ds u w) (run:List Dv->DB J->Prop) (h0:run ds (AW J c)) (hn:∀t,run [] t->k.nx (Aa J c t)=_s res)
    (hc:∀d ds t,run (d::ds) t->∃(B:Type)(y:Kt B)(r:B),ft B d (Aa J c t) (λP=>b B P y)=_s r/\(∀m',y.nx m'=_s r->run ds (AW J m'))/\(∀m',y.ct m'=_s r->run ds (AW J m')) /\
      (∀m',y.bk m'=_s r->k.nx (Aa J c (AW J m'))=_s res)/\∀d m',y.rt d m'=_s r->k.rt d (Aa Jr c (AW Jr m'))=_s res)
    (q:rD K F mV u P1 w σ D (_s Γ) (f++l) c k res) :
    ∃W:Nat->Nat->St->Hp->Prop,(∃m,W 0 m σ w)/\∀i m σ H,W i m σ H ->
      (I.stop i H/\D.nx σ H)\/(I.go i H/\∃N:St->Hp->Prop,(∀σ' H',N σ' H'->∃m',m' < m/\W (i+1) m' σ' H')/\∀x H',I.rO i H x H'->g x σ H' λT O=>tS K F (_s Γ) lV nN l b {D with nx:=N,ct:=N,bk:=D.nx} T O):=by
  have sub:∀i∈J,i∈f++l:=λi h=>Al (hJ▸h);have qQ:∀i∈Jr,i∈f++l:=λi h=>Al (qr▸h);refine⟨λi j σ' H'=>j=ds.length-i/\i<=ds.length/\∃p t P2,Step u P1 w p P2 H'/\Io F.io σ σ'/\Rel K p H' Γ (Aa J c t) σ' P2/\run (ds.drop i) t,⟨ds.length,by simp,N5 _,u,AW J c,P1,Step.refl,Io.refl,Iz r1,by simpa using h0⟩,?_⟩;rintro i j T O ⟨rfl,hi,p,t,P2,s2,i2,r2,e2⟩;have st:Hx u w p O:=⟨P1,P2,s2,r1.kA⟩;by_cases Z:i < ds.length;rw[Q3 Z]at e2;obtain⟨B,y,rB,e3,vH,vJ,vK,vG⟩:=hc _ _ _ e2;obtain⟨go,yy⟩:=(yl p O st).1 i ds[i] (A4 Z);refine .inr ⟨go,λσ' H'=>∃V Y m',Step u P1 w V Y H'/\Io F.io σ σ'/\Rel K V H' Γ m' σ' Y/\BA (f++l) c m'/\run (ds.drop (i+1)) (AW J m'),?_,λx H3 hy=>?_⟩;rintro σ' H' ⟨V,Y,m',s5,i5,r5,ag,hr⟩;exact⟨ds.length-(i+1),by omega,rfl,Z,V,AW J m',Y,s5,i5,r5.join ag λi o h=>hJ▸Ax h,hr⟩;obtain⟨Pv,s3,h3,r3,n3⟩:=Ak.go s2 r2 (yy x H3 hy);refine ht p _ P2 ds[i] x T H3 B _ rB _ r3 h3.z e3 λP P' σ' s ag sp ip r'=>?_;have S:Step u P1 w p P' H3:=s3.less λa z=>.inl (sp a z);have U:=i2.trans (ip.io lY);have a4:BA (f++l) c P:=((AQ J c t).mono sub).trans ag |>.mono λi z=>(D8.mp z).elim id λz=>C2 _ z
  have X:∀{m'},BA l P m'->BA (f++l) c m':=λh=>(a4.trans h).mono λi z=>(D8.mp z).elim id λz=>B3 _ z;refine⟨p,P,P',r',B,y,rB,s,⟨λΓ' m' g' L Q H' e s C s' E A=>?_,λd m' g' L Pv Q v H' s C s' E rv A n=>?_,λΓ' m' g' L Q H' e s C s' E A=>?_,λΓ' m' g' L Q H' e s C s' E A=>?_⟩⟩;subst e;obtain⟨g6,P6,s6,r6⟩:=A.weaken (by unfold GO at hw;exact hw);exact⟨g6,P6,m',(S.trans s').trans s6,U.trans E,r6,X C,vH m' s⟩;exact q.rt d _ g' L Pv Q v H' (vG d m' s) ((AQ Jr c _).mono qQ) (S.trans s') (U.trans E) rv (A.join (X C) λi o h=>qr▸Ax h) n;cases e;exact q.nx Γ _ g' L Q H' rfl (vK m' s) ((AQ J c _).mono sub) (S.trans s') (U.trans E) (A.join (X C) λi o h=>hJ▸Ax h);cases e;exact⟨g',L,m',S.trans s',U.trans E,A,X C,vJ m' s⟩;have ei:i=ds.length:=by omega
  subst ei;rw[iT]at e2;exact .inl ⟨(yl p O st).2 _ (C7 _),q.nx Γ _ p P2 T O rfl (hn t e2) ((AQ J c _).mono sub) s2 i2 r2⟩
section
variable{X:Cx}{F:Fr}{mV:Option Gm}{Γ kR kN lV:Gm}{nN:Option Gm}{js jt jb J Jr:List Nat}{tg iter:Expr}{body:List F0}{src:Ev (List Dv)}{g:TG}{ft:Tg}{b:Es}{pos:Pos}
theorem Hx.pre{g g2 g3:G}{H e:Hp}{P P2:Fp}(s:Step g P H g2 P2 H)(ok:kF g H P)(st:Hx g2 H g3 e):Hx g H g3 e:=by obtain⟨P3,c,s3,d⟩:=st;exact⟨λa=>P a\/P3 a,c,(s.frame (R:=P3)).trans (s3.sub (λ_ z=>.inr z) λ_ z=>z),ok.or λa z=>⟨(d a z).1,λw=>(d a z).2 (s.zm a w)⟩⟩
theorem Qs{K:W.Frag}{σ:St}{H:Hp}{Q:It->Hp->Prop}(f:BH kN kR=_t)(h:tI K Γ kN js src σ H Q):tI K Γ kR js src σ H Q:=by obtain⟨g,m,P,r,R,k,res,e,q⟩:=h;refine⟨g,m,P,r,R,k,res,e,λds m' g' P' H' J i n s a c=>?_⟩;obtain⟨l,P2,s2,d⟩:=a.weaken f;exact q ds m' l P2 H' J i n (s.trans s2) d λj o st=>c j o (st.pre s2 a.kA)
theorem Vm(u:Y5 (C0 X.prog X.w) X.A X.env X.xe)(y:X.calm=_t)(hi:PI X tg iter (tI X.K Γ kR js src))(v:PG X tg g)(p:IF X.K kR lV jt g ft)(n:∀i∈F.io,i∉jt)(z:Be X body (tS X.K F (_s kR) lV nN jb b))(o:GO (_s kR) nN=_t)(B:J=Au kR (jt++jb))
    (hs:∀x,K3 iter X.env x=pure x):PS X (.For tg iter body [] pos) (tS X.K F mV Γ (_s kR) (js++(jt++jb)) (Ot src ft J b)):=PS.imp (Nf u y hi v z hs) λD σ H h=>by
  obtain⟨C,m,P,r,R,k,res,e,q⟩:=h;refine⟨C,m,P,r,R,_,res,e,λds G L P1 M I a E s l f=>?_⟩;refine jy a λt e1 e2=>?_;refine KS (Jr:=Au F.pI (jt++jb)) p n o B rfl l f (λds c=>Ls _ ds c=_s t) e1 (λc h=>?_) (λd ds c h=>?_) (q.later s Io.refl E);cases h;exact e2;refine jy h λj h1 h2=>?_;refine⟨DB J,kC J,j,h1,λm' a=>?_,λm' a=>?_,(λm' a=>by cases a),λd m' a=>by cases a⟩;cases a;exact h2;cases a;exact h2
theorem Vl(u:Y5 (C0 X.prog X.w) X.A X.env X.xe)(y:X.calm=_t)(hi:PI X tg iter (tI X.K Γ kR js src))(v:PG X tg g)(t:IF X.K kR lV jt g ft)(o:∀i∈F.io,i∉jt)(z:Be X body (tS X.K F (_s kR) lV nN jb b))(p:GO (_s kR) nN=_t)(B:J=Au kR (jt++jb))(n:Jr=Au F.pI (jt++jb))
    (hs:∀x,K3 iter X.env x=pure x):PS X (.For tg iter body [] pos) (tS X.K F mV Γ (_s kR) (js++(jt++jb)) (Os src ft J Jr b)):=PS.imp (Nf u y hi v z hs) λD σ H h=>by
  obtain⟨C,m,P,r,R,k,res,e,q⟩:=h;refine⟨C,m,P,r,R,_,res,e,λds G L P1 M I a E s j f=>?_⟩;refine jy a λx e1 e2=>?_;refine KS t o p B n j f (λds c=>JD _ ds c=_s x) e1 (λc h=>?_) (λd ds c h=>?_) (q.later s Io.refl E);cases h;exact e2;refine jy h λl h1 h2=>?_;refine⟨_,kE J Jr,l,h1,λm' a=>?_,λm' a=>?_,λm' a=>?_,λd m' a=>?_⟩;cases a;exact h2;cases a;exact h2;cases a;cases h2;exact e2;cases a;cases h2;exact e2
end
def aG(n:Nat)(c:Ev Bool)(J:List Nat)(b:Es):Es:=λR m k =>
 (bg (λt=>c Bool (Aa J m t) λb _=>_s b) (λt=>b (DB J) (Aa J m t) (kC J)) n (AW J m)).bind λt=>k.nx (Aa J m t)
theorem VL{K:W.Frag}{F:Fr}{mV:Option Gm}{Γ ml:Gm}{Y:Option Gm}{f:List Nat}{c:Ev Bool}{b:Es}{J Jr:List Nat}(nQ:BH Γ ml=_t)(hw:GO (_s Γ) Y=_t)
    (O:J=Au Γ f) (X:Jr=Au F.pI f) {a:M} {D:Ends} {σ:St} {C:Hp} {y:G} {P1:Fp} {R:Type} {k:Kt R} {res:R}
    (r1:Rel K y C Γ a σ P1) (run:Nat->DB J->Prop) {n:Nat} (h0:run n (AW J a))
    (hc:∀n t,run n t->∃A,c Bool (Aa J a t) (λb _=>_s b)=_s A/\if A=_t then ∃w,w < n/\∃(B:Type)(j:Kt B)(r:B),b B (Aa J a t) j=_s r/\(∀m',j.nx m'=_s r->run w (AW J m'))/\(∀m',j.ct m'=_s r->run w (AW J m')) /\
      (∀m',j.bk m'=_s r->k.nx (Aa J a (AW J m'))=_s res)/\(∀d m',j.rt d m'=_s r->k.rt d (Aa Jr a (AW Jr m'))=_s res)else k.nx (Aa J a t)=_s res)
    (q:rD K F mV y P1 C σ D (_s Γ) f a k res):Mp (tT K Γ ml [] c) (tS K F (_s Γ) Γ Y f b) D σ C:=by
  have sub:∀i∈J,i∈f:=λi h=>Al (O▸h);have qQ:∀i∈Jr,i∈f:=λi h=>Al (X▸h);refine⟨λn σ' H'=>∃E t P2,Step y P1 C E P2 H'/\Io F.io σ σ'/\Rel K E H' Γ (Aa J a t) σ' P2/\run n t,⟨n,y,AW J a,P1,Step.refl,Io.refl,Iz r1,h0⟩,?_⟩;rintro w ki H2 ⟨E,t,P2,s2,i2,r2,e2⟩;obtain⟨A,e3,H⟩:=hc w t e2;refine⟨E,_,P2,r2,Bool,_,A,e3,λb' m' g3 P3 H3 g ag s3 r3=>?_⟩;cases g;obtain⟨Q,U,s4,r4⟩:=r3.weaken nQ;have V:Rel K Q H3 Γ (Aa J a t) ki U:=r4.agree ag.1.symm λi o _=>(ag.2 i `s).symm;have u:=(s2.trans s3).trans s4;cases A with|false=>rw[if_neg B4]at H ⊢;exact q.nx Γ _ Q U ki H3 rfl H ((AQ J a _).mono sub) u i2 V|true=>rw[if_pos rfl]at H ⊢;obtain⟨Z,hn,B,j,rB,eb,vH,vJ,vK,vG⟩:=H;have I:∀{m'},BA f (Aa J a t) m'->BA f a m':=λh=>(((AQ J a t).mono sub).trans h).mono λi z=>(D8.mp z).elim id id;refine⟨λσ' H'=>∃g5 P5 m',Step y P1 C g5 P5 H'/\Io F.io σ σ'/\Rel K g5 H' Γ m' σ' P5/\BA f a m'/\run Z (AW J m'),?_,Q,_,U,V,B,j,rB,eb,⟨λΓ' m' g' s x H' e g m s' p l=>?_,λd m' g' s Pv x v H' g m s' p rv l n=>?_,λΓ' m' g' s x H' e g m s' p l=>?_,λΓ' m' g' s x H' e g m s' p l=>?_⟩⟩;rintro σ' H' ⟨P,T,m',L,i6,N,S,hr⟩;exact⟨Z,hn,P,AW J m',T,L,i6,N.join S λi o h=>O▸Ax h,hr⟩;subst e;obtain⟨P,T,L,N⟩:=l.weaken (by unfold GO at hw;exact hw);exact⟨P,T,m',(u.trans s').trans L,i2.trans p,N,I m,vH m' g⟩;exact q.rt d _ g' s Pv x v H' (vG d m' g) ((AQ Jr a _).mono qQ) (u.trans s') (i2.trans p) rv (l.join (I m) λi o h=>X▸Ax h) n;cases e;exact q.nx Γ _ g' s x H' rfl (vK m' g) ((AQ J a _).mono sub) (u.trans s') (i2.trans p) (l.join (I m) λi o h=>O▸Ax h);cases e;exact⟨g',s,m',u.trans s',i2.trans p,l,I m,vJ m' g⟩
section
variable{X:Cx}{F:Fr}{mV:Option Gm}{Γ ml:Gm}{nN:Option Gm}{jb J Jr:List Nat}{c:Expr}{body:List F0}{t:Ev Bool}{b:Es}{pos:Pos}
theorem dq(n:Nat)(o:Y5 (C0 X.prog X.w) X.A X.env X.xe)(p:PT X c (tT X.K Γ ml [] t))(s:Be X body (tS X.K F (_s Γ) Γ nN jb b))(j:BH Γ ml=_t)(l:GO (_s Γ) nN=_t)(u:J=Au Γ jb) :
    PS X (.While c body [] pos) (tS X.K F mV Γ (_s Γ) jb (aG n t J b)):=PS.imp (Nd o p s) λD σ H h=>by
  obtain⟨v,m,P,r,R,k,res,e,q⟩:=h;refine jy e λt' e1 e2=>?_;refine VL (Jr:=Au F.pI jb) j l u rfl r (λn f=>bg _ _ n f=_s t') e1 (λn f h=>?_) q;cases n with
  |zero=>cases h
  |succ n=>
    refine jy h λg h1 h2=>?_;refine⟨g,h1,?_⟩;cases g with|false=>rw[if_neg B4]at h2 ⊢;cases h2;exact e2|true=>rw[if_pos rfl]at h2 ⊢;refine jy h2 λi h3 h4=>?_;refine⟨n,iU n,DB J,kC J,i,h3,λm' a=>?_,λm' a=>?_,(λm' a=>by cases a),λd m' a=>by cases a⟩;cases a;exact h4;cases a;exact h4
end
end R
namespace Q
open PySem L2
set_option genInjectivity true in
inductive Dt where
 |kB|bl (b:Bool)|int (i:Int)|str (x:List Nat)
 |tup (xs:List Dt)|lst (o:Bool) (xs:List Dt)|dic (o:Bool) (j8:List (Dt×Dt))|ref (k:Nat)|k8 (ns:List Int)|ty (n:String)|nh (ls:List (List Nat))|dti (o:Bool) (j8:List (List Int×Int))
 deriving Inhabited
structure G where
 Z:A6->Prop
 μ:List A6
structure Ob where
 c:Nat
 fs:List (Str×Dt)
structure M where
 ρ:List (Option Dt)
 S:List Ob
noncomputable def uB:Dt->Option Bool
 |.kB=>_s _f
 |.bl b=>_s b
 |.int i=>_s (i != 0)
 |.str l=>if l.length<=1000000 then _s (!l.isEmpty)else _n
 |.tup ds=>_s (!ds.isEmpty)
 |.lst _ ds=>_s (!ds.isEmpty)
 |.k8 ns=>_s (!ns.isEmpty)
 |_=>_n
end Q
namespace L3
open PySem PySem.Spec PyProof.Rows PySem.SeqAt L2
abbrev St:=L2.St
inductive D where
 |fl (v:V)
 |tup (ds:List D)
 |lst (ds:List D)
mutual
noncomputable def kZ:D->D->Bool
 |.fl a,.fl b=>kr a b
 |.tup a,.tup b=>k7 a b
 |.lst a,.lst b=>k7 a b
 |_,_=>_f
noncomputable def k7:List D->List D->Bool
 |[],[]=>_t
 |x::xs,y::ys=>kZ x y&&k7 xs ys
 |_,_=>_f
end
mutual
noncomputable def D.dep:D->Nat
 |.fl _=>0
 |.tup ds=>lC ds+1
 |.lst ds=>lC ds+1
noncomputable def lC:List D->Nat
 |[]=>0
 |d::ds=>max d.dep (lC ds)
end
mutual
noncomputable def Is(K:W.Frag)(H:Hp):V->D->Prop
 |x,.fl v=>x=v/\En v=_t
 |x,.tup ds=>∃a xs,x=.ref a/\DC K H a xs/\IsL K H xs ds
 |x,.lst ds=>∃a xs,x=.ref a/\Bv K H a xs/\IsL K H xs ds
noncomputable def IsL(K:W.Frag)(H:Hp):List V->List D->Prop
 |[],[]=>True
 |x::xs,d::ds=>Is K H x d/\IsL K H xs ds
 |_,_=>False
end
theorem IsL.inv{K:W.Frag}{H:Hp}{x:V}{xs:List V}{es:List D}(h:IsL K H (x::xs) es):∃d ds,es=d::ds/\Is K H x d/\IsL K H xs ds:=by
 cases es with|nil=>unfold IsL at h;exact h.elim|cons d ds=>unfold IsL at h;exact⟨d,ds,rfl,h.1,h.2⟩
theorem IsL.length{K:W.Frag}{H:Hp}:∀{xs:List V}{ds:List D},IsL K H xs ds->xs.length=ds.length
 |[],[],_=>rfl
 |[],_::_,h=>by unfold IsL at h;exact h.elim
 |_::_,[],h=>by unfold IsL at h;exact h.elim
 |x::xs,d::ds,h=>by unfold IsL at h;rw[F5,F5,IsL.length h.2]
theorem IsL.get{K:W.Frag}{H:Hp}:∀{xs:List V}{ds:List D}{i:Nat}{d:D},IsL K H xs ds->ds[i]?=_s d->∃x,xs[i]?=_s x/\Is K H x d
 |[],[],_,_,_,e=>by simp at e
 |[],_::_,_,_,h,_=>by unfold IsL at h;exact h.elim
 |_::_,[],_,_,_,e=>by simp at e
 |x::xs,d::ds,0,d',h,e=>by
  unfold IsL at h;have:d=d':=by simpa using e
  subst this;exact⟨x,rfl,h.1⟩
 |x::xs,d::ds,i+1,_,h,e=>by unfold IsL at h;obtain⟨y,e1,e2⟩:=IsL.get (i:=i) h.2 (by simpa using e);exact⟨y,by simpa using e1,e2⟩
theorem Je{X:Cx}{pins:List (A6×Obj)}{σ:St}{H:Hp}{s:A5}{a:A6}{xs ys:List V}(I:Inv X pins σ H s)(h:DC X.K H a xs)(k:Bv X.K H a ys):False:=by
 obtain⟨_,_,⟨o,e,c,_⟩,_⟩:=I.tuple h;obtain⟨_,_,⟨o',n,b,d,_⟩,_⟩:=I.list k;rw[e]at b;cases b;rw[c]at d;injection d with q
 exact absurd q `d
mutual
theorem Is.inj{X:Cx}{pins:List (A6×Obj)}{σ:St}{H:Hp}{s:A5}(I:Inv X pins σ H s):∀{d e:D}{x:V},Is X.K H x d->Is X.K H x e->d=e
 |.fl v,e,x,h,k=>by
  unfold Is at h;obtain⟨rfl,hf⟩:=h;cases e with|fl u=>unfold Is at k;rw[k.1]|tup es=>unfold Is at k;obtain⟨a,xs,rfl,_⟩:=k;cases hf|lst es=>unfold Is at k;obtain⟨a,xs,rfl,_⟩:=k;cases hf
 |.tup ds,e,x,h,k=>by
  unfold Is at h;obtain⟨a,xs,rfl,h1,h2⟩:=h;cases e with|fl u=>unfold Is at k;obtain⟨k1,k2⟩:=k;rw[<- k1]at k2;cases k2|tup es=>unfold Is at k;obtain⟨b,ys,e,k1,k2⟩:=k;cases e;rw[I.mF h1 k1]at h2;rw[IsL.inj I h2 k2]|lst es=>unfold Is at k;obtain⟨b,ys,e,k1,k2⟩:=k;cases e;exact(Je I h1 k1).elim
 |.lst ds,e,x,h,k=>by
  unfold Is at h;obtain⟨a,xs,rfl,h1,h2⟩:=h;cases e with|fl u=>unfold Is at k;obtain⟨k1,k2⟩:=k;rw[<- k1]at k2;cases k2|lst es=>unfold Is at k;obtain⟨b,ys,e,k1,k2⟩:=k;cases e;rw[I.mW h1 k1]at h2;rw[IsL.inj I h2 k2]|tup es=>unfold Is at k;obtain⟨b,ys,e,k1,k2⟩:=k;cases e;exact(Je I k1 h1).elim
theorem IsL.inj{X:Cx}{pins:List (A6×Obj)}{σ:St}{H:Hp}{s:A5}(I:Inv X pins σ H s):∀{ds es:List D}{xs:List V},IsL X.K H xs ds->IsL X.K H xs es->ds=es
 |[],es,[],h,k=>by
  cases es with|nil=>rfl|cons e es=>unfold IsL at k;exact k.elim
 |[],_,_::_,h,_=>by unfold IsL at h;exact h.elim
 |_::_,_,[],h,_=>by unfold IsL at h;exact h.elim
 |d::ds,es,x::xs,h,k=>by unfold IsL at h;obtain⟨e,a,rfl,k1,k2⟩:=k.inv;rw[Is.inj I h.1 k1,IsL.inj I h.2 k2]
end
theorem PC{v:V}(h:En v=_t):kr v v=true:=by cases v<;>first|rfl|(simp[kr];done)|cases h
mutual
theorem Ep{K:W.Frag}{H:Hp}:∀{d:D}{x:V},Is K H x d->kZ d d=_t
 |.fl v,x,h=>by unfold Is at h;unfold kZ;exact PC h.2
 |.tup ds,x,h=>by unfold Is at h;obtain⟨_,_,_,_,h2⟩:=h;unfold kZ;exact Dw h2
 |.lst ds,x,h=>by unfold Is at h;obtain⟨_,_,_,_,h2⟩:=h;unfold kZ;exact Dw h2
theorem Dw{K:W.Frag}{H:Hp}:∀{ds:List D}{xs:List V},IsL K H xs ds->k7 ds ds=_t
 |[],_,_=>by unfold k7;rfl
 |_::_,[],h=>by unfold IsL at h;exact h.elim
 |d::ds,x::xs,h=>by unfold IsL at h;unfold k7;rw[Ep h.1,Dw h.2];rfl
end
theorem BD:∀(xs ys:List D)(e:Nat->Bool),(∀i x y,xs[i]?=_s x->ys[i]?=_s y->e i=kZ x y)->((D0 (min xs.length ys.length)).all e&&xs.length==ys.length)=k7 xs ys
 |[],[],_,_=>by unfold k7;rfl
 |[],_::_,_,_=>by unfold k7;simp
 |_::_,[],_,_=>by unfold k7;simp
 |x::xs,y::ys,e,h=>by
  have c:=BD xs ys (λi=>e (i+1)) λi a b h1 h2=>h (i+1) a b (by simpa using h1) (by simpa using h2);have h0:=h 0 x y rfl rfl;unfold k7;rw[<- c,<- h0,F5,F5,Nat.succ_min_succ,List.range_succ_eq_map,J0,List.all_map];have:((xs.length+1==ys.length+1):Bool)=(xs.length==ys.length):=by simp
  rw[this,Bool.and_assoc];rfl
theorem DS:∀{ds:List D}{i:Nat}{d:D},ds[i]?=_s d->d.dep<=lC ds
 |[],_,_,e=>by simp at e
 |d::ds,0,d',e=>by
  have:d=d':=by simpa using e
  subst this;show d.dep<=lC (d::ds);unfold lC;exact Nat.le_max_left _ _
 |d::ds,i+1,x,e=>by have:=DS (ds:=ds) (i:=i) (d:=x) (by simpa using e);unfold lC;exact C3 this (Nat.le_max_right _ _)
section
variable{X:Cx}{pins:List (A6×Obj)}{σ:St}{H:Hp}{s:A5}
def Kc(ds es:List D)(i:Nat):Bool:=match ds[i]?,es[i]? with|some a,_s b=>kZ a b|_,_=>_t
theorem CU{ds es:List D}{i:Nat}{a b:D}(h1:ds[i]?=_s a)(h2:es[i]?=_s b):Kc ds es i=kZ a b:=by unfold Kc;rw[h1,h2]
theorem Ab{x:V}(h:En x=_t):x=.kB\/(∃b,x=.bl b)\/(∃i,x=.int i)\/∃z,x=.str z:=by
 cases x with|kB=>exact .inl rfl|bl b=>exact .inr (.inl ⟨b,rfl⟩)|int i=>exact .inr (.inr (.inl ⟨i,rfl⟩))|str z=>exact .inr (.inr (.inr ⟨z,rfl⟩))|_=>cases h
theorem PM(I:Inv X pins σ H s):∀(n:Nat)(A:F2)(d e:D)(x y:V)(u v:A3),d.dep<=n->A.units+n < O8->RelV x u->RelV y v->Is X.K H x d->Is X.K H y e->EqAt A s u v (kZ d e):=by
 intro n;induction n with
 |zero=>
  intro A d e x y u v hd p k h o g;cases d with
  |fl a=>
   unfold Is at o;obtain⟨rfl,fx⟩:=o;cases e with
   |fl b=>unfold Is at g;obtain⟨rfl,N⟩:=g;unfold kZ;exact XM k h fx N
   |tup es=>
    unfold Is at g;obtain⟨b,ys,rfl,h1,h2⟩:=g;cases h;obtain⟨B,r,f,_⟩:=I.tuple h1;unfold kZ;rcases Ab fx with rfl|⟨c,rfl⟩|⟨c,rfl⟩|⟨c,rfl⟩
    cases k;exact EqAt.none_tuple f p;cases k;exact EqAt.bool_tuple c f p;obtain⟨t,rfl⟩:=k;exact EqAt.int_tuple c t f p;obtain⟨t,rfl⟩:=k;exact EqAt.str_tuple c t f p
   |lst es=>
    unfold Is at g;obtain⟨b,ys,rfl,h1,h2⟩:=g;cases h;obtain⟨B,r,f,_⟩:=I.list h1;unfold kZ;rcases Ab fx with rfl|⟨c,rfl⟩|⟨c,rfl⟩|⟨c,rfl⟩
    cases k;exact EqAt.none_list f.isList p;cases k;exact EqAt.bool_list c f.isList p;obtain⟨t,rfl⟩:=k;exact EqAt.int_list c t f.isList p;obtain⟨t,rfl⟩:=k;exact EqAt.str_list c t f.isList p
  |tup ds=>unfold D.dep at hd;omega
  |lst ds=>unfold D.dep at hd;omega
 |succ n ih=>
  intro A d e x y u v hd p k h o g;have l:A.units < O8:=by omega
  cases d with
  |fl a=>exact ih A (.fl a) e x y u v (by unfold D.dep;omega) `o k h o g
  |tup ds=>
   unfold D.dep at hd;have Y:=o;unfold Is at o;obtain⟨a,xs,rfl,h1,h2⟩:=o;cases k;obtain⟨B,r,f,_⟩:=I.tuple h1;cases e with
   |fl b=>
    unfold Is at g;obtain⟨rfl,N⟩:=g;unfold kZ;rcases Ab N with rfl|⟨c,rfl⟩|⟨c,rfl⟩|⟨c,rfl⟩
    cases h;exact EqAt.tuple_none f l;cases h;exact EqAt.tuple_bool c f l;obtain⟨t,rfl⟩:=h;exact EqAt.tuple_int c t f l;obtain⟨t,rfl⟩:=h;exact EqAt.tuple_str c t f l
   |tup es=>
    have F:=g;unfold Is at g;obtain⟨b,ys,rfl,k1,k2⟩:=g;cases h;obtain⟨z,m,w,_⟩:=I.tuple k1;by_cases G:a=b;subst G;rw[Is.inj I Y F,Ep F];exact EqAt.same _;refine EqAt.of_refs G ?_;have q:=RcAt.tuples (e:=Kc ds es) f w l (λj Z j2=>?_);have e1:=BD ds es (Kc ds es) λi a b q1 q2=>CU q1 q2;rw[A8,A8,<- r.length,<- m.length,h2.length,k2.length,e1]at q;unfold kZ;exact q;have J:j < B.length:=by simpa using Z
    have L:j < z.length:=by simpa using j2
    have l1:j < ds.length:=by rw[<- h2.length,r.length];exact J
    have l2:j < es.length:=by rw[<- k2.length,m.length];exact L
    obtain⟨S,ex,W⟩:=h2.get (i:=j) (A4 l1);obtain⟨R,ey,U⟩:=k2.get (i:=j) (A4 l2);obtain⟨E,O,T⟩:=r.get ex;obtain⟨C,ev,rv⟩:=m.get ey;rw[CU (A4 l1) (A4 l2)];have Q:B.toArray[j]=E:=by rw[A4 J]at O;simpa using B2 O
    have P:z.toArray[j]=C:=by rw[A4 L]at ev;simpa using B2 ev
    rw[Q,P];exact ih A.in1 _ _ S R E C (C3 (DS (A4 l1)) `o) (by show A.units+1+n < O8;omega) T rv W U
   |lst es=>unfold Is at g;obtain⟨b,ys,rfl,k1,k2⟩:=g;cases h;obtain⟨z,m,w,_⟩:=I.list k1;unfold kZ;exact EqAt.tuple_list f w.isList l
  |lst ds=>
   unfold D.dep at hd;have Y:=o;unfold Is at o;obtain⟨a,xs,rfl,h1,h2⟩:=o;cases k;obtain⟨B,r,f,_⟩:=I.list h1;cases e with
   |fl b=>
    unfold Is at g;obtain⟨rfl,N⟩:=g;unfold kZ;rcases Ab N with rfl|⟨c,rfl⟩|⟨c,rfl⟩|⟨c,rfl⟩
    cases h;exact EqAt.list_none f.isList l;cases h;exact EqAt.list_bool c f.isList l;obtain⟨t,rfl⟩:=h;exact EqAt.list_int c t f.isList l;obtain⟨t,rfl⟩:=h;exact EqAt.list_str c t f.isList l
   |tup es=>unfold Is at g;obtain⟨b,ys,rfl,k1,k2⟩:=g;cases h;obtain⟨z,m,w,_⟩:=I.tuple k1;unfold kZ;exact EqAt.list_tuple f.isList w l
   |lst es=>
    have F:=g;unfold Is at g;obtain⟨b,ys,rfl,k1,k2⟩:=g;cases h;obtain⟨z,m,w,_⟩:=I.list k1;by_cases G:a=b;subst G;rw[Is.inj I Y F,Ep F];exact EqAt.same _;refine EqAt.of_refs G ?_;by_cases M:ds.length=es.length;have e1:=BD ds es (Kc ds es) λi a b q1 q2=>CU q1 q2;rw[M,iE,beq_self_eq_true,jO]at e1;have q:=RcAt.lists (e:=Kc ds es) f.isList w.isList (by rw[A8,A8,<- r.length,<- m.length,h2.length,k2.length];exact M) l (λj Z j2=>?_);rw[A8,<- r.length,h2.length,M,e1]at q;unfold kZ;exact q;have J:j < B.length:=by simpa using Z
    have L:j < z.length:=by simpa using j2
    have l1:j < ds.length:=by rw[<- h2.length,r.length];exact J
    have l2:j < es.length:=by rw[<- k2.length,m.length];exact L
    obtain⟨S,ex,W⟩:=h2.get (i:=j) (A4 l1);obtain⟨R,ey,U⟩:=k2.get (i:=j) (A4 l2);obtain⟨E,O,T⟩:=r.get ex;obtain⟨C,ev,rv⟩:=m.get ey;rw[CU (A4 l1) (A4 l2)];have Q:B.toArray[j]=E:=by rw[A4 J]at O;simpa using B2 O
    have P:z.toArray[j]=C:=by rw[A4 L]at ev;simpa using B2 ev
    rw[Q,P];exact ih A.in1 _ _ S R E C (C3 (DS (A4 l1)) `o) (by show A.units+1+n < O8;omega) T rv W U;have q:=RcAt.lists_lengths (A:=A) f.isList w.isList (by rw[A8,A8,<- r.length,<- m.length,h2.length,k2.length];simpa using M) l;have e1:=BD ds es (Kc ds es) λi a b q1 q2=>CU q1 q2;have:(ds.length==es.length)=false:=by simpa using M
    rw[this,S3]at e1;unfold kZ;rw[<- e1];exact q
end
noncomputable def D.seq:D->Bool
 |.fl _=>_f
 |_=>_t
section
variable{X:Cx}{pins:List (A6×Obj)}{σ:St}{H:Hp}{s:A5}
theorem HR(I:Inv X pins σ H s){n:Nat}{A:F2}{xs ys:List V}{ds es:List D}{b a:List A3}(hd:lC ds<=n)(v:A.units+1+n < O8)(r:AH xs b)(e:AH ys a)(h2:IsL X.K H xs ds)(k2:IsL X.K H ys es) :
    ∀j (h1:j < b.toArray.size) (h2:j < a.toArray.size),EqAt A.in1 s b.toArray[j] a.toArray[j] (Kc ds es j):=λj u j2=>by
  have f:j < b.length:=by simpa using u
  have g:j < a.length:=by simpa using j2
  have l1:j < ds.length:=by rw[<- h2.length,r.length];exact f
  have l2:j < es.length:=by rw[<- k2.length,e.length];exact g
  obtain⟨o,ex,t⟩:=h2.get (i:=j) (A4 l1);obtain⟨m,w,q⟩:=k2.get (i:=j) (A4 l2);obtain⟨d,h,p⟩:=r.get ex;obtain⟨c,ev,rv⟩:=e.get w;rw[CU (A4 l1) (A4 l2)];have l:b.toArray[j]=d:=by rw[A4 f]at h;simpa using B2 h
  have k:a.toArray[j]=c:=by rw[A4 g]at ev;simpa using B2 ev
  rw[l,k];exact PM I n A.in1 _ _ o m d c (C3 (DS (A4 l1)) hd) (by show A.units+1+n < O8;exact v) p rv t q
theorem GH(I:Inv X pins σ H s){A:F2}{d e:D}{x y:V}{u v:A3}(C:d.seq=_t)(w:e.seq=_t)(B:A.units+d.dep+1 < O8)(z:RelV x u)(o:RelV y v)(p:Is X.K H x d)(j:Is X.K H y e):RcAt A s u v (kZ d e)/\RcNeAt A s u v (!kZ d e):=by
 have g:A.units < O8:=by omega
 cases d with
 |fl a=>cases C
 |tup ds=>
  unfold D.dep at B;unfold Is at p;obtain⟨a,xs,rfl,h1,h2⟩:=p;cases z;obtain⟨t,r,f,_⟩:=I.tuple h1;cases e with|fl b=>cases w|tup es=>unfold Is at j;obtain⟨b,ys,rfl,k1,k2⟩:=j;cases o;obtain⟨m,h,c,_⟩:=I.tuple k1;have e1:=BD ds es (Kc ds es) λi a b q1 q2=>CU q1 q2;have it:=HR I (A:=A) (n:=lC ds) (C7 _) `o r h h2 k2;have q:=RcAt.tuples (e:=Kc ds es) f c g it;have k:=RcNeAt.tuples (e:=Kc ds es) f c g it;rw[A8,A8,<- r.length,<- h.length,h2.length,k2.length,e1]at q k;unfold kZ;exact⟨q,k⟩|lst es=>unfold Is at j;obtain⟨b,ys,rfl,k1,k2⟩:=j;cases o;obtain⟨m,h,c,_⟩:=I.list k1;unfold kZ;exact⟨RcAt.tuple_list f c.isList g,RcNeAt.tuple_list f c.isList g⟩
 |lst ds=>
  unfold D.dep at B;unfold Is at p;obtain⟨a,xs,rfl,h1,h2⟩:=p;cases z;obtain⟨t,r,f,_⟩:=I.list h1;cases e with
  |fl b=>cases w
  |tup es=>unfold Is at j;obtain⟨b,ys,rfl,k1,k2⟩:=j;cases o;obtain⟨m,h,c,_⟩:=I.tuple k1;unfold kZ;exact⟨RcAt.list_tuple f.isList c g,RcNeAt.list_tuple f.isList c g⟩
  |lst es=>
   unfold Is at j;obtain⟨b,ys,rfl,k1,k2⟩:=j;cases o;obtain⟨m,h,c,_⟩:=I.list k1;have e1:=BD ds es (Kc ds es) λi a b q1 q2=>CU q1 q2;unfold kZ;by_cases l:ds.length=es.length;rw[l,iE,beq_self_eq_true,jO]at e1;have it:=HR I (A:=A) (n:=lC ds) (C7 _) `o r h h2 k2;have sz:t.toArray.size=m.toArray.size:=by rw[A8,A8,<- r.length,<- h.length,h2.length,k2.length];exact l
   have q:=RcAt.lists (e:=Kc ds es) f.isList c.isList sz g it;have k:=RcNeAt.lists (e:=Kc ds es) f.isList c.isList sz g it;rw[A8,<- r.length,h2.length,l,e1]at q k;exact⟨q,k⟩;have sz:(t.toArray.size != m.toArray.size)=true:=by rw[A8,A8,<- r.length,<- h.length,h2.length,k2.length];simpa using l
   have:(ds.length==es.length)=false:=by simpa using l
   rw[this,S3]at e1;rw[<- e1];exact⟨RcAt.lists_lengths f.isList c.isList sz g,RcNeAt.lists_lengths f.isList c.isList sz g⟩
end
section
variable{X:Cx}{pins:List (A6×Obj)}{σ:L2.St}{H:Hp}{s:A5}
theorem RX{A:F2}{x y:V}{u v:A3}(e:RelV x u)(b:RelV y v)(fx:En x=_t)(f:En y=_t):RcAt A s u v (kr x y)/\RcNeAt A s u v (!kr x y):=by
 rcases Ab fx with rfl|⟨c,rfl⟩|⟨c,rfl⟩|⟨c,rfl⟩<;>rcases Ab f with rfl|⟨d,rfl⟩|⟨d,rfl⟩|⟨d,rfl⟩
 cases e;cases b;exact⟨RcAt.none_none , RcNeAt.none_none ⟩;cases e;cases b;exact⟨RcAt.none_bool d,RcNeAt.none_bool d⟩;cases e;obtain⟨a,rfl⟩:=b;exact⟨RcAt.none_int d a,RcNeAt.none_int d a⟩;cases e;obtain⟨a,rfl⟩:=b;exact⟨RcAt.none_str d a,RcNeAt.none_str d a⟩;cases e;cases b;exact⟨RcAt.bool_none c,RcNeAt.bool_none c⟩;cases e;cases b;exact⟨RcAt.bool_bool c d,RcNeAt.bool_bool c d⟩;cases e;obtain⟨a,rfl⟩:=b;exact⟨RcAt.bool_int c d a,RcNeAt.bool_int c d a⟩;cases e;obtain⟨a,rfl⟩:=b;exact⟨RcAt.bool_str c d a,RcNeAt.bool_str c d a⟩;obtain⟨ct,rfl⟩:=e;cases b;exact⟨RcAt.int_none c ct,RcNeAt.int_none c ct⟩;obtain⟨ct,rfl⟩:=e;cases b;exact⟨RcAt.int_bool c ct d,RcNeAt.int_bool c ct d⟩;obtain⟨ct,rfl⟩:=e;obtain⟨a,rfl⟩:=b;exact⟨RcAt.int_int c ct d a,RcNeAt.int_int c ct d a⟩;obtain⟨ct,rfl⟩:=e;obtain⟨a,rfl⟩:=b;exact⟨RcAt.int_str c ct d a,RcNeAt.int_str c ct d a⟩;obtain⟨ct,rfl⟩:=e;cases b;exact⟨RcAt.str_none c ct,RcNeAt.str_none c ct⟩;obtain⟨ct,rfl⟩:=e;cases b;exact⟨RcAt.str_bool c ct d,RcNeAt.str_bool c ct d⟩;obtain⟨ct,rfl⟩:=e;obtain⟨a,rfl⟩:=b;exact⟨RcAt.str_int c ct d a,RcNeAt.str_int c ct d a⟩;obtain⟨ct,rfl⟩:=e;obtain⟨a,rfl⟩:=b;exact⟨RcAt.str_str c ct d a,RcNeAt.str_str c ct d a⟩
theorem Gy(I:Inv X pins σ H s){A:F2}{d e:D}{x y:V}{u v:A3}(m:A.units+d.dep+1 < O8)(i:RelV x u)(h:RelV y v)(k:Is X.K H x d)(j:Is X.K H y e):RcAt A s u v (kZ d e)/\RcNeAt A s u v (!kZ d e):=by
 have g:A.units < O8:=by omega
 cases d with
 |fl a=>
  unfold Is at k;obtain⟨rfl,fx⟩:=k;cases e with
  |fl b=>unfold Is at j;obtain⟨rfl,l⟩:=j;unfold kZ;exact RX i h fx l
  |tup es=>
   unfold Is at j;obtain⟨b,ys,rfl,k1,k2⟩:=j;cases h;obtain⟨o,n,f,_⟩:=I.tuple k1;unfold kZ;rcases Ab fx with rfl|⟨c,rfl⟩|⟨c,rfl⟩|⟨c,rfl⟩
   cases i;exact⟨RcAt.none_tuple f g,RcNeAt.none_tuple f g⟩;cases i;exact⟨RcAt.bool_tuple c f g,RcNeAt.bool_tuple c f g⟩;obtain⟨t,rfl⟩:=i;exact⟨RcAt.int_tuple c t f g,RcNeAt.int_tuple c t f g⟩;obtain⟨t,rfl⟩:=i;exact⟨RcAt.str_tuple c t f g,RcNeAt.str_tuple c t f g⟩
  |lst es=>
   unfold Is at j;obtain⟨b,ys,rfl,k1,k2⟩:=j;cases h;obtain⟨o,n,f,_⟩:=I.list k1;unfold kZ;rcases Ab fx with rfl|⟨c,rfl⟩|⟨c,rfl⟩|⟨c,rfl⟩
   cases i;exact⟨RcAt.none_list f.isList g,RcNeAt.none_list f.isList g⟩;cases i;exact⟨RcAt.bool_list c f.isList g,RcNeAt.bool_list c f.isList g⟩;obtain⟨t,rfl⟩:=i;exact⟨RcAt.int_list c t f.isList g,RcNeAt.int_list c t f.isList g⟩;obtain⟨t,rfl⟩:=i;exact⟨RcAt.str_list c t f.isList g,RcNeAt.str_list c t f.isList g⟩
 |tup ds=>
  cases e with
  |fl b=>
   unfold Is at k j;obtain⟨p,ys,rfl,k1,k2⟩:=k;obtain⟨rfl,l⟩:=j;cases i;obtain⟨o,n,f,_⟩:=I.tuple k1;unfold kZ;rcases Ab l with rfl|⟨c,rfl⟩|⟨c,rfl⟩|⟨c,rfl⟩
   cases h;exact⟨RcAt.tuple_none f g,RcNeAt.tuple_none f g⟩;cases h;exact⟨RcAt.tuple_bool c f g,RcNeAt.tuple_bool c f g⟩;obtain⟨t,rfl⟩:=h;exact⟨RcAt.tuple_int c t f g,RcNeAt.tuple_int c t f g⟩;obtain⟨t,rfl⟩:=h;exact⟨RcAt.tuple_str c t f g,RcNeAt.tuple_str c t f g⟩
  |tup es=>exact GH I rfl rfl m i h k j
  |lst es=>exact GH I rfl rfl m i h k j
 |lst ds=>
  cases e with
  |fl b=>
   unfold Is at k j;obtain⟨p,ys,rfl,k1,k2⟩:=k;obtain⟨rfl,l⟩:=j;cases i;obtain⟨o,n,f,_⟩:=I.list k1;unfold kZ;rcases Ab l with rfl|⟨c,rfl⟩|⟨c,rfl⟩|⟨c,rfl⟩
   cases h;exact⟨RcAt.list_none f.isList g,RcNeAt.list_none f.isList g⟩;cases h;exact⟨RcAt.list_bool c f.isList g,RcNeAt.list_bool c f.isList g⟩;obtain⟨t,rfl⟩:=h;exact⟨RcAt.list_int c t f.isList g,RcNeAt.list_int c t f.isList g⟩;obtain⟨t,rfl⟩:=h;exact⟨RcAt.list_str c t f.isList g,RcNeAt.list_str c t f.isList g⟩
  |tup es=>exact GH I rfl rfl m i h k j
  |lst es=>exact GH I rfl rfl m i h k j
def qU(K:W.Frag)(neg:Bool):R2:=λx y H Q=>∃d e,d.dep<=150/\Is K H x d/\Is K H y e/\Q (.bl (if neg then !kZ d e else kZ d e)) H
theorem qY{j:Nat}(g:kG j X.A):Cs X (N1 .Eq) (qU X.K _f):=by intro pins s σ H x y v u Q I b a h;obtain⟨d,e,hd,f,c,q⟩:=h;have:=g.un;exact(Gy I `o b a f c).1 X.prog X.w _ _ ⟨.bl _,H,I,rfl,q⟩
theorem qV{j:Nat}(g:kG j X.A):Cs X (N1 .NotEq) (qU X.K _t):=by intro pins s σ H x y v u Q I b a h;obtain⟨d,e,hd,f,c,q⟩:=h;have:=g.un;exact(Gy I `o b a f c).2 X.prog X.w _ _ ⟨.bl _,H,I,rfl,q⟩
open Classical in
def Qh(a:List A3)(ds:List D)(e:D)(u:A3):Bool:=decide (∃(i:Nat)(d:D),a[i]?=_s u/\ds[i]?=_s d/\kZ d e=_t)
open Classical in
theorem JJ(I:Inv X pins σ H s){xs:List V}{a:List A3}{ds:List D}(r:AH xs a)(h:IsL X.K H xs ds){e:D}{i:Nat}{u:A3}{d:D}(f:a[i]?=_s u)(hd:ds[i]?=_s d):Qh a ds e u=kZ d e:=by
 have b:∀(j:Nat)(d':D),a[j]?=_s u->ds[j]?=_s d'->d'=d:=λj d' h1 h2=>by obtain⟨x,ex,l⟩:=h.get hd;obtain⟨y,m,c⟩:=h.get h2;obtain⟨o,e1,k⟩:=r.get ex;obtain⟨n,e2,g⟩:=r.get m;rw[f]at e1;cases e1;rw[h1]at e2;cases e2;rw[g.inj k]at c;exact Is.inj I c l
 unfold Qh;cases q:kZ d e with|true=>exact decide_eq_true ⟨i,d,f,hd,q⟩|false=>refine decide_eq_false ?_;rintro⟨j,d',h1,h2,h3⟩;rw[b j d' h1 h2,q]at h3;cases h3
theorem Kr(I:Inv X pins σ H s){xs:List V}{a:List A3}{ds:List D}(r:AH xs a)(h:IsL X.K H xs ds)(e:D):a.any (Qh a ds e)=ds.any λd=>kZ d e:=by
 rw[Bool.eq_iff_iff,iV,iV];have c:a.length=ds.length:=by rw[<- r.length,h.length]
 constructor;rintro⟨u,b,q⟩;obtain⟨i,hi,rfl⟩:=U2 b;have hd:ds[i]?=_s ds[i]:=A4 `o;rw[JJ I r h (A4 hi) hd]at q;exact⟨_,J5 hd,q⟩;rintro⟨d,hd,q⟩;obtain⟨i,hi,rfl⟩:=U2 hd;have b:a[i]?=_s a[i]:=A4 `o;exact⟨_,J5 b,by rw[JJ I r h b (A4 hi)];exact q⟩
theorem Ks(I:Inv X pins σ H s){A:F2}{xs:List V}{a:List A3}{ds:List D}(r:AH xs a)(h:IsL X.K H xs ds){e:D}{y:V}{v:A3}(c:RelV y v)(g:Is X.K H y e)(hd:lC ds<=150)(k:A.units+150 < O8):∀w∈a,EqAt A s w v (Qh a ds e w):=λw j=>by
 obtain⟨i,hi,rfl⟩:=U2 j;have m:a.length=ds.length:=by rw[<- r.length,h.length]
 have b:ds[i]?=_s ds[i]:=A4 `o;rw[JJ I r h (A4 hi) b];obtain⟨x,ex,f⟩:=h.get b;obtain⟨l,e1,d⟩:=r.get ex;rw[A4 hi]at e1;cases e1;exact PM I 150 A _ _ x y _ _ (C3 (DS b) hd) k d c f g
def qT(K:W.Frag)(neg:Bool):R2:=λx y H Q=>∃p ys ds e,y=.ref p/\(Bv K H p ys\/DC K H p ys)/\IsL K H ys ds/\Is K H x e/\lC ds<=150/\Q (.bl (if neg then !(ds.any λd=>kZ d e)else ds.any λd=>kZ d e)) H
theorem qX{j:Nat}(n:kG j X.A):Cs X (N1 .In) (qT X.K _f):=by
 intro pins s σ H x y v u Q I g l h;obtain⟨p,ys,ds,e,rfl,b,c,i,hd,q⟩:=h;have k:X.A.units+1+150 < O8:=by have:=n.un;omega
 cases l;rcases b with b|b
 obtain⟨a,r,d,m⟩:=I.list b;refine SeqAt.in_listAt (Qh a ds e) d.isList (λw f=>Ks I r c g i hd k w (by simpa using f)) ⟨.bl _,H,I,rfl,?_⟩;rw[show a.toArray.any (Qh a ds e)=a.any (Qh a ds e) by simp,Kr I r c];exact q;obtain⟨a,r,d,m⟩:=I.tuple b;refine SeqAt.in_tupleAt (Qh a ds e) d (λw f=>Ks I r c g i hd k w (by simpa using f)) ⟨.bl _,H,I,rfl,?_⟩;rw[show a.toArray.any (Qh a ds e)=a.any (Qh a ds e) by simp,Kr I r c];exact q
end
end L3
namespace Q
open PySem L2
mutual
noncomputable def toD:Dt->L3.D
 |.kB=>.fl .kB
 |.bl b=>.fl (.bl b)
 |.int i=>.fl (.int i)
 |.str l=>.fl (.str (tx l))
 |.tup xs=>.tup (kU xs)
 |.lst _ xs=>.lst (kU xs)
 |_=>.fl .kB
noncomputable def kU:List Dt->List L3.D
 |[]=>[]
 |d::ds=>toD d::kU ds
end
mutual
noncomputable def Dt.cmp:Dt->Bool
 |.kB=>_t
 |.bl _=>_t
 |.int _=>_t
 |.str _=>_t
 |.tup xs=>nX xs
 |.lst _ xs=>nX xs
 |_=>_f
noncomputable def nX:List Dt->Bool
 |[]=>_t
 |d::ds=>d.cmp&&nX ds
end
mutual
noncomputable def eqT:Dt->Dt->Bool
 |.kB,.kB=>_t
 |.bl a,.bl b=>a==b
 |.bl a,.int b=>(if a then 1 else 0)==b
 |.int a,.bl b=>a==(if b then 1 else 0)
 |.int a,.int b=>a==b
 |.str a,.str b=>a==b
 |.tup xs,.tup ys=>XJ xs ys
 |.lst _ xs,.lst _ ys=>XJ xs ys
 |_,_=>_f
noncomputable def XJ:List Dt->List Dt->Bool
 |[],[]=>_t
 |x::xs,y::ys=>eqT x y&&XJ xs ys
 |_,_=>_f
end
section
variable{K:W.Frag}{g:G}{H:Hp}
def rV(x l:List Nat):Bool:=!(N2 (tx l) (tx x) 0 (tx l).length 1).isEmpty
def ZX(neg:Bool):R2:=λx y H Q=>∃i j,x=.str i/\y=.str j/\Q (.bl (if neg then !(!(N2 j i 0 j.length 1).isEmpty)else !(N2 j i 0 j.length 1).isEmpty)) H
def rq(K:W.Frag)(neg:Bool):R2:=λx y H Q=>ZX neg x y H Q\/L3.qT K neg x y H Q
noncomputable def xh:List Int->Int
 |[]=>0
 |[a]=>a
 |a::r=>max a (xh r)
end
theorem WZ{X:Cx}:Cs X (N1 .In) (ZX _f):=LV
theorem qW{X:Cx}{j:Nat}(a:kG j X.A):Cs X (N1 .In) (rq X.K _f):=WZ.or (L3.qX a)
end Q
namespace L2
open PySem PySem.Spec PyProof.Rows
noncomputable def cT(ifs:List Expr)(env:Env):Sem Bool:=forIn ifs _t λc r=>if r=_t then do let ok <- isTrue c env (L7 c env);pure (ForInStep.yield ok)else pure (ForInStep.yield r)
def Uw(X:Cx)(ifs:List Expr)(t:TT):Prop:=
 ∀(pins:List (A6×Obj))(s:A5)(σ:St)(H:Hp)(Q:Bool->Hp->Prop),Inv X pins σ H s->t σ H Q->B7 (C0 X.prog X.w) X.A (cT ifs X.env) (TP X pins σ Q) X.xe s
theorem Uw.one{X:Cx}{c:Expr}{t:TT}(h:PT X c t):Uw X [c] t:=λpins s σ H Q I q=>wpAny_tests_one (h pins s σ H Q I q)
theorem GY{prog:D4}{w:E8}{A:F2}{R:Result->A5->Prop}{s:A5}{b a iter:Expr}{ifs:List Expr}{scope:G9}{pos:Pos}{it c:A3}{env:Env}(I:Nat->A5->Prop)
    (BZ:∀n s,I n s->B7 (C0 prog w) A (pyNext it) (λr f=>match r with
      |none=>R (.ok .next) f
      |some v=>B7 (C0 prog w) A (T8 a it v) (λ_ k=>B7 (C0 prog w) A (S9 a env v) (λ_ l=>B7 (C0 prog w) A (cT ifs env) (λok d=>if ok=_t then B7 (C0 prog w) A (L7 b env) (λx i=>B7 (C0 prog w) A (call (.builtin "list.append") [c,x]) (λ_ j=>∃m,m < n/\I m j) (λ_ _=>False) i) (λ_ _=>False) d else ∃m,m < n/\I m d) (λ_ _=>False) l) (λ_ _=>False) k) (λ_ _=>False) f) (λ_ _=>False) s)
    (n:Nat) (h:I n s) :
    X0 (C0 prog w) A (.compLoop (.ListComp b [⟨a,iter,ifs,0⟩] scope pos) 0 it c env) R s:=by
  refine codeAny_loop rfl I (λn s u=>?_) n h;show B7 _ _ ((compTurn (.ListComp b [⟨a,iter,ifs,0⟩] scope pos) 0 it c env).onRaise (λx=>do O1 x env;theTreesLotGoes x)) _ _ s;refine wpAny_noted ?_;rw[compTurn_list];have no:∀{E:A3->A5->Prop},∀(e:A3)(s:A5),False->E e s:=λ_ _ z=>z.elim;refine A0 (K9 (A0 (G1 (BZ n s u) (λr f h₁=>?_) no)));cases r with
  |none=>exact A7 h₁
  |some v=>
    refine A0 (G1 h₁ (λ_ k t=>?_) no);refine A0 (G1 t (λ_ l q=>A0 (G1 q (λok d g=>?_) no)) no);cases ok with|false=>exact A7 ⟨rfl,g⟩|true=>exact A0 (A0 (G1 g (λx i o=>A0 (G1 o (λ_ j p=>A7 (A7 ⟨rfl,p⟩)) no)) no))
section
variable{X:Cx}{tg iter elt:Expr}{ifs:List Expr}{scope:G9}{pos:Pos}{g:TG}{te:TE}{tc:TT}{js:List Nat}{wi:TI}
def JX(js:List Nat)(g:TG)(tc:TT)(te:TE)(J:It)(σ:St)(Fin:List V->Hp->Prop)(W:Nat->Nat->List V->Hp->Prop):Prop:=∀i m ys H,W i m ys H ->
 (J.stop i H/\Fin ys H)\/(J.go i H/\ys.length < sizeLine/\∃N:List V->Hp->Prop,(∀a H',N a H'->∃m',m' < m/\W (i+1) m' a H')/\∀x H',J.rO i H x H'->g x (blank js σ) H' λc f=>tc c f λb d=>if b=_t then te c d λv e=>N (ys++[v]) e else N ys d)
theorem EC{pins:List (A6×Obj)}{s2:A5}{σ:St}{f:Hp}{it:A6}{fp:List A6}{tn:Nat->F1->Prop}{J:It}{cl:List (Str×A6)}{W:Nat->Nat->List V->Hp->Prop}{Fin:List V->Hp->Prop}{E:A3->A5->Prop}{RR:A3->A6->Result->A5->Prop}
    (lD:lJ X.N X.env.scope scope js) (hc:X.calm=_t) (hg:∀cl C s H fp,PG (X.inner scope cl C s H fp) tg g) (pC:MW js g) (sk:∀cl C s H fp,Uw (X.inner scope cl C s H fp) ifs tc) (he:∀cl C s H fp,PE (X.inner scope cl C s H fp) elt te)
    (O:Inv X pins σ f s2) (T:Turn X.prog X.w X.K tg J fp it tn) (t0:tn 0 s2.heap) (hf:∀b∈fp,kF X pins f b)
    (og:∀x c,cl.lookup x=_s c->X.env.cells.lookup x=_s c) (nR:∀x,scope.names.lookup x=_s .free->∃c,cl.lookup x=_s c)
    {m0:Nat} (w0:W 0 m0 [] f) (BZ:JX js g tc te J σ Fin W)
    (hRR:∀D C s' H' ys m,Inv X pins σ (upd H' D (.lst ys)) s'->H' D=_n->Fin ys H'->s'.heap.Ns C m->C≠X.env.locals->X.kP.heap.objs.size<=C->(∀x c,X.env.cells.lookup x=_s c->c≠C)->(∀p∈X.pn++pins,p.1≠C)->H' C=_n->D≠C->RR (.ref D) C (.ok .next) s') :
    B7 (C0 X.prog X.w) X.A (newList []) (λacc lA=>B7 (C0 X.prog X.w) X.A (gG scope X.env.globals cl [] X.env.qual _n .none (_s X.env)) (λtZ oN =>
      X0 (C0 X.prog X.w) X.A (.compStart (.ListComp elt [⟨tg,iter,ifs,0⟩] scope pos) 0 (.ref it) acc {tZ with scope:=relabel scope X.env}) (RR acc tZ.locals) oN) E lA) E s2:=by
  have Y:∀b∈fp,b < s2.heap.objs.size:=λb d=>let ⟨_,e,_⟩:=T.obj _ _ t0 b d;B6 e
  refine F9 (BK ?_);dsimp only
  generalize v7:s2.heap.push {cls:=.type "list", dict:=_n,data:=.seq ([]:List A3).toArray}=M;have hC:M.objs.size=s2.heap.objs.size+1:=by rw[<- v7,W2]
  have uU:s2.heap.objs.size≠M.objs.size:=by rw[hC];exact D2 (iU _)
  have qt:s2.heap.objs.size<=M.objs.size:=by rw[hC];exact gJ _
  have BJ:∀b,b < s2.heap.objs.size->b≠M.objs.size/\b≠s2.heap.objs.size:=λb d=>⟨by rw[hC];exact D2 (Nat.lt_succ_of_lt d),D2 d⟩;obtain⟨h₁,me⟩:∃h₁,jQ (M.push {cls:=.type "dict", data:=.dict #[]}) scope.names=h₁:=⟨_,rfl⟩;have old:∀b o,s2.heap.get? b=_s o->h₁.get? b=_s o:=λb o e=>me▸a7 _ _ b o (B0 _ (v7▸B0 _ e));have v5:h₁.get? s2.heap.objs.size=_s {cls:=.type "list", data:=.seq ([]:List A3).toArray 0}:=me▸a7 _ _ _ _ (B0 _ (v7▸E7 _ rfl));have qm:h₁.Ns M.objs.size (λ_=>_n):=me▸(Heap.Ns.new M (.type "dict")).keeps (a7 _ _);obtain⟨L,oU⟩:=Sn (s:=s2) (C:=M.objs.size) lD og nR (h:=M.push {cls:=.type "dict", data:=.dict #[]}) qt (W2 ..);rw[me]at oU ⊢;generalize uS:J4 (M.objs.size+1) scope.names cl=G at L oU ⊢;clear me uS;generalize uT:s2.heap.objs.size=D at *;generalize hCC:M.objs.size=C at *;have Z:s2.heap.objs.size<=D:=iA uT;have mf:s2.heap.objs.size<=C:=by rw[uT];exact qt
  have my:∀(B:List A3)(n:Nat) v,({cls:=.type "list", data:=.seq B.toArray n}:Obj).data≠.cell v:=λ_ _ _ z=>by cases z
  have P:Inv (X.inner scope G C s2 f fp) (pins++[(D,{cls:=.type "list", data:=.seq ([]:List A3).toArray 0})]) (blank js σ) f {s2 with heap:=h₁,toks:=s2.toks}:=
    O.enter lD hf (by rw[uT];exact Y) mf Z uU L oU old qm v5 (my _ _)
  have mv:∀{H':Hp}{o:Obj},(∀b∈fp,H' b=_n)->∀b∈fp,kF (X.inner scope G C s2 f fp) (pins++[(D,o)]) H' b:=fun{H' o} hn b d=>by
    obtain⟨_,f1,f2,f3,f4,f5⟩:=hf b d;refine⟨hn b d,(BJ b (Y b d)).1,λz=>?_,.inl d,λx c e=>L.ne e (by rw[uT];exact Y b d) f4,λp I=>?_⟩;rcases E3.mp (O.kz b z)with e|e
    exact f1 e;exact f2 e;have sV:p∈X.pn++(pins++[(D,o)]):=I;rw[<- J7]at sV;rcases D8.mp sV with z|z
    exact f5 p z;have e:p=(D,o):=by simpa using z
    subst e;exact λz=>(BJ b (Y b d)).2 z.symm
  have loop:∀lA:A5,lA={s2 with heap:=h₁,toks:=s2.toks} ->
      X0 (C0 X.prog X.w) X.A (.compLoop (.ListComp elt [⟨tg,iter,ifs,0⟩] scope pos) 0 (.ref it) (.ref D) (compEnvC scope G C X.env)) (RR (.ref D) C) lA:=by
    rintro lA rfl;refine GY (λn s'=>∃i ys B k H',Inv (X.inner scope G C s2 f fp) (pins++[(D,{cls:=.type "list", data:=.seq B.toArray k})]) (blank js σ) H' s'/\tn i s'.heap/\(∀b∈fp,H' b=_n)/\AH ys B/\ys.length<=sizeLine/\W i n ys H') ?_ m0
      ⟨0,[],[],0,f,P,T.keep _ _ _ t0 λb d o e=>old b o e,λb d=>(hf b d).1,.nil,N5 _,w0⟩
    rintro n s3 ⟨i,ys,B,k,H3,I3,rY,s9,uM,vS,w3⟩;rcases BZ i n ys H3 w3 with⟨stop,fin⟩|⟨go,ma,N,hN,step⟩
    refine Ah (T.done (X.inner scope G C s2 f fp) rfl rfl rfl hc i _ s3 _ H3 _ I3 (mv s9) rY stop) λr s4 ⟨hr,P⟩=>?_;subst hr;have j:=P.pin (D,{cls:=.type "list", data:=.seq B.toArray k}) (B3 _ (B3 _ B8));obtain⟨m,hn,_⟩:=id P.loc;refine hRR D C s4 H3 ys m (O.leave (fp:=fp) hf rfl P Z j.2.1 vS uM j.1) j.2.1 fin hn ?_ ?_ (λx c e=>?_) (λp I=>?_) P.free uU;exact R9 (B1 O.lt mf);exact C3 O.sz mf;exact D2 (B1 (O.mR e) mf);exact D2 (B1 (O.p7 I) mf);refine Ah (T.item (X.inner scope G C s2 f fp) rfl rfl rfl hc i _ s3 _ H3 _ I3 (mv s9) rY go) λr s4 ⟨u,hr,h4⟩=>?_;subst hr;refine Ah h4 λ_ s5 ⟨x,H5,I5,r5,y5,U,wB⟩=>?_;have wx:=I5.pinned (mv wB) (T.obj _ _ U);refine Ah (hg G C s2 f fp _ s5 _ H5 x u _ wx r5 (pC _ _ _ _ (step x H5 y5))) λ_ s6 ⟨rE,H6,I6,⟨xy,xu⟩,q6⟩=>?_;refine Ah (sk G C s2 f fp _ s6 rE H6 _ I6 q6) λok uC ⟨R,S,xS⟩=>?_;have t:∀(l:A5)(v:A3)(b:A6)(u:Obj),b≠D->l.heap.get? b=_s u->(l.heap.update D (M7 λa=>a.push v)).get? b=_s u:=λl v b u d hu=>(F6 l.heap (M7 λa=>a.push v) (Ne.symm d)).trans hu;cases ok with
    |false=>
      obtain⟨m',hm,w7⟩:=hN _ _ xS;have j:=S.pin (D,{cls:=.type "list", data:=.seq B.toArray k}) (B3 _ (C2 _ (B3 _ B8)));have Q:∀b∈fp,∀o,s5.heap.get? b=_s o->uC.heap.get? b=_s o/\R b=none:=λb d o e =>
        let z:=S.pin (b,o) (B3 _ (B3 _ (Bo d e)));⟨z.1,z.2.1⟩
      have I8:Inv (X.inner scope G C s2 f fp) pins (blank js σ) R uC:=by
        have Ia:Inv (X.inner scope G C s2 f fp) pins rE R uC:=S.k4 λp I=>S.pin p (B3 _ (C2 _ (C2 _ I)));exact Ia.weak xy.symm λi v e=>by obtain⟨hj,_⟩:=Dx js σ i v e;rw[xu i hj];exact e
      refine⟨m',hm,i+1,ys,B,k,R,I8.k4 (λp I=>?_),T.keep _ _ _ U λb d o e=>(Q b d o e).1,λb d=>?_,uM,vS,w7⟩;rcases D8.mp I with z|z
      exact I8.pin p (B3 _ z);have e:p=(D,_):=G6.mp z;subst e;exact⟨j.1,j.2.1,j.2.2.1,j.2.2.2.1,my _ _⟩;obtain⟨o,e,_⟩:=T.obj _ _ U b d;exact(Q b d o e).2
    |true=>
    refine Ah (he G C s2 f fp _ uC rE R _ S xS) λv l ⟨y,H7,I7,r7,n7⟩=>?_;obtain⟨m',hm,w7⟩:=hN _ _ n7;have j:=I7.pin (D,{cls:=.type "list", data:=.seq B.toArray k}) (B3 _ (C2 _ (B3 _ B8)));have lt:B.toArray.size<=sizeLine:=by rw[A8,<- uM.length];exact vS
    refine jH F.slot_list_append ⟨_,j.1,rfl⟩ F.entry_list_append (F.args_list_append_2 _ _) (hX D B.toArray k v lt) ⟨j.1,?_⟩;obtain⟨k',q⟩:∃k',(l.heap.update D (M7 λa=>a.push v)).get? D=_s {cls:=.type "list", data:=.seq (B.toArray.push v) k' }:=⟨_,iO j.1 (λa=>a.push v)⟩;have eq:(B.toArray.push v)=(B++[v]).toArray:=by simp
    have Q:∀b∈fp,∀o,s5.heap.get? b=_s o->l.heap.get? b=_s o/\H7 b=none:=λb d o e =>
      let z:=I7.pin (b,o) (B3 _ (B3 _ (Bo d e)));⟨z.1,z.2.1⟩
    have t:∀b u,b≠D->l.heap.get? b=_s u->(l.heap.update D (M7 λa=>a.push v)).get? b=_s u:=λb u d hu=>(F6 l.heap (M7 λa=>a.push v) (Ne.symm d)).trans hu;have I8:Inv (X.inner scope G C s2 f fp) pins (blank js σ) H7 {l with heap:=l.heap.update D (M7 λa=>a.push v),toks:=l.toks}:=by
      have Ia:Inv (X.inner scope G C s2 f fp) pins rE H7 l:=I7.k4 λp I=>I7.pin p (B3 _ (C2 _ (C2 _ I)));have Ib:Inv (X.inner scope G C s2 f fp) pins (blank js σ) H7 l:=Ia.weak xy.symm λi v e=>by obtain⟨hj,_⟩:=Dx js σ i v e;rw[xu i hj];exact e
      refine Ib.turned (it:=D) (λb o d e=>t b o d e) j.2.1 j.2.2.1 (.inr Z) (λx c e=>?_) (λp I=>?_);cases q:AL scope x with|false=>exact D2 (B1 (O.mR (L.old x c e q)) Z)|true=>exact R9 (W6 qt (L.own x c e q).2)
      exact D2 (B1 (O.p7 I) Z)
    refine⟨m',hm,i+1,ys++[y],B++[v],k',H7,I8.k4 (λp I=>?_),T.keep _ _ _ U λb d o e=>t b o (BJ b (Y b d)).2 (Q b d o e).1,λb d=>?_,uM.append (.cons r7 .nil),by rw[G2,S5];omega,w7⟩;rcases D8.mp I with z|z
    exact I8.pin p (B3 _ z);have e:p=(D,_):=G6.mp z;subst e;rw[<- eq];exact⟨q,j.2.1,j.2.2.1,j.2.2.2.1,my _ _⟩;obtain⟨o,e,_⟩:=T.obj _ _ U b d;exact(Q b d o e).2
  exact codeAny_compStart_list (loop _ rfl) (T.self _ 0 _ _ _ (T.keep _ _ _ t0 λb d o e=>old b o e) (loop _ rfl))
def Dg(wi:TI)(js:List Nat)(g:TG)(tc:TT)(te:TE):TE:=λσ H Q=>wi σ H λJ a=>∃W:Nat->Nat->List V->Hp->Prop,(∃m,W 0 m [] a)/\JX js g tc te J σ (λys H=>∀p,H p=_n->Q (.ref p) (upd H p (.lst ys))) W
theorem HF(a:kc X.N X.env.scope scope js=_t)(y:X.calm=_t)(hi:PI X tg iter wi)(t:∀cl C s H fp,PG (X.inner scope cl C s H fp) tg g)(l:MW js g)(i:∀cl C s H fp,Uw (X.inner scope cl C s H fp) ifs tc)(u:∀cl C s H fp,PE (X.inner scope cl C s H fp) elt te)
    (hs:∀x,K3 iter X.env x=pure x:=by intro _;rfl):PE X (.ListComp elt [⟨tg,iter,ifs,0⟩] scope pos) (Dg wi js g tc te):=by
  intro pins s σ H Q I h;have a:=Ek a;obtain⟨cl,p,n,q⟩:=Er (scope:=scope) (env:=X.env) (λx r=>I.ok.has x (a.fr x r)) a.pw;rw[eval_ListComp];refine Y1 (use:=_n) rfl hs p a.kind a.pv ?_;refine Ah (hi pins s σ H _ I h) λv s1 h1=>Ah h1 λR s2 h2=>?_;obtain⟨it,fp,tn,J,U,e,O,T,k,f2,W,⟨S,f⟩,BZ⟩:=h2;subst e;refine EC (RR:=λd C=>compPost (C0 X.prog X.w) X.A X.xe _n (EP X pins σ Q) d C) a y t l i u O T k f2 n q f BZ ?_;intro D C s' H' ys m P B c hn M L K G F E;refine⟨m,hn,λh' j=>⟨.ref D,_,P.turned (t':=s'.toks) (it:=C) (λb o z e=>(j.2 b z).trans e) ?_ M (.inr L) K G,rfl,c D B⟩⟩;rw[AC (Ne.symm E)];exact F
theorem HD{i:Nat}{x:Str}{c n:Pos}(hN:X.N.Nodup)(G:X.N[i]?=_s x)(f:Loc X.env.scope x)
    (d:kc X.N X.env.scope scope js=_t) (Y:X.calm=_t) (hi:PI X tg iter wi) (S:∀cl C s H fp,PG (X.inner scope cl C s H fp) tg g) (L:MW js g) (y:∀cl C s H fp,Uw (X.inner scope cl C s H fp) ifs tc) (V:∀cl C s H fp,PE (X.inner scope cl C s H fp) elt te)
    (E:N0 (.ListComp elt [⟨tg,iter,ifs,0⟩] scope pos) (_s (.Name x c)) n.line X.env=pure true:=by rfl)
    (hs:∀x,K3 iter X.env x=pure x:=by intro _;rfl)
    (U:X.fn x=_t\/X.env.scope.names.lookup x=_s .local:=by first|exact .inl rfl|exact .inr rfl|assumption) :
    PS X (.Assign [.Name x c] (.ListComp elt [⟨tg,iter,ifs,0⟩] scope pos) n) (Gj (Dg wi js g tc te) (BX i)):=by
  intro pins s σ H D I h;have d:=Ek d;obtain⟨cl,O,M,P⟩:=Er (scope:=scope) (env:=X.env) (λx f=>I.ok.has x (d.fr x f)) d.pw;rw[exec_Assign_Name_used _ _ _ _ E];refine A0 (K9 (A0 ?_));show B7 _ _ (do let _ <- comprehension (.ListComp elt [⟨tg,iter,ifs,0⟩] scope pos) scope X.env _ (newList []) _f (L7 iter X.env) (_s (S9 (.Name x c) X.env))) _ _ s;refine A0 (Ah (Y1 (use:=_s (S9 (.Name x c) X.env)) (Q:=λ_ s'=>SP X pins D .next s') rfl hs O d.kind d.pv ?_) (λ_ s' R=>A7 (A7 R)));refine Ah (hi pins s σ H _ I h) λv s1 h1=>Ah h1 λuI s2 h2=>?_;obtain⟨it,fp,tn,J,H2,e,I2,T,K,f2,W,⟨m0,u⟩,BZ⟩:=h2;subst e;refine EC (RR:=λk C=>compPost (C0 X.prog X.w) X.A X.xe (_s (S9 (.Name x c) X.env)) (λ_ s'=>SP X pins D .next s') k C) d Y S L y V I2 T K f2 M P u BZ ?_;intro l C s' H' ys m I' hD j hn q c2 p c4 c5 c6;show B7 _ _ (S9 (.Name x c) X.env (.ref l)) _ _ _;refine gw (FQ (v:=.ref l) I' hN G f rfl (λF t ⟨a,B,ha⟩=>?_) U);have ne:C≠a:=by
    rcases ha with z|z
    rw[z];exact q;exact(p x a z).symm
  refine⟨m,hn.sameBut B ne,λh' r=>⟨_,_,t.turned (t':=F.toks) (it:=C) (λb o Z e=>(r.2 b Z).trans e) ?_ q (.inr c2) p c4,j l hD⟩⟩;rw[AC (Ne.symm c6)];exact c5
end
end L2
namespace R
open PySem L2
section
variable{γ:Type}
noncomputable def CW(g:Dv->γ->Option (Dv×γ)):List Dv->γ->Option (List Dv×γ)
 |[],c=>_s ([],c)
 |x::xs,c=>(g x c).bind λp=>(CW g xs p.2).bind λq=>_s (p.1::q.1,q.2)
noncomputable def Cq(g:Dv->Option Dv):List Dv->Option (List Dv)
 |[]=>_s []
 |x::xs=>(g x).bind λp=>(Cq g xs).bind λq=>_s (p::q)
noncomputable def Kd(g:Dv->γ->Option (Option Dv×γ)):List Dv->γ->Option (List Dv×γ)
 |[],c=>_s ([],c)
 |x::xs,c=>(g x c).bind λp=>(Kd g xs p.2).bind λq=>_s (match p.1 with|some d=>d::q.1|none=>q.1,q.2)
noncomputable def Wh(g:Dv->Option (Option Dv)):List Dv->Option (List Dv)
 |[]=>_s []
 |x::xs=>(g x).bind λp=>(Wh g xs).bind λq=>_s (match p with|some d=>d::q|none=>q)
noncomputable def FG{a:Type}(xs:List Dv)(o:Option a):Option a:=if xs.length<=1000000 then o else _n
end
theorem DR{b:Type}{xs:List Dv}{o:Option b}{a:b}(h:FG xs o=_s a):xs.length<=1000000/\o=_s a:=by unfold FG at h;split at h;rename_i z;exact⟨z,h⟩;cases h
section
variable{K:W.Frag}{g g':G}{H H':Hp}{Γ:Gm}{m:M}{σ:St}{P:Fp}
theorem Rel.sub{Γ':Gm}{σ':St}(h:Rel K g H Γ m σ P)(b:Γ'.length=Γ.length)(hs:σ'.length=σ.length)(k:∀(i o:Nat),Γ'[i]?=_s (_s o)->Γ[i]?=_s (_s o)/\σ'[i]?=σ[i]?):∃P',Rel K g H Γ' m σ' P'/\∀a,P' a->P a:=by obtain⟨zd,F,h1,h4⟩:=h;refine⟨λa=>∃i,(∃o,Γ'[i]?=_s (_s o))/\F i a,⟨zd,λi a=>(∃o,Γ'[i]?=_s (_s o))/\F i a,⟨by rw[b];exact h1.l1,by rw[hs,b];exact h1.l2,λi o e=>?_,λi e a q=>q.1.elim λo z=>e o z,λi j n a q z=>h1.dj i j n a q.2 z.2⟩,λ_=>V0⟩,λa ⟨i,_,q⟩=>(h4 a).mpr ⟨i,q⟩⟩;obtain⟨c,es⟩:=k i o e;obtain⟨d,v,e1,e2,r⟩:=h1.rep i o c;have eq:(λa=>(∃o,Γ'[i]?=_s (_s o))/\F i a)=F i:=funext λa=>propext ⟨λz=>z.2,λz=>⟨⟨o,e⟩,z⟩⟩;exact⟨d,v,e1,by rw[es];exact e2,by show Rep K g H o d v λa=>(∃o,Γ'[i]?=_s (_s o))/\F i a;rw[eq];exact r⟩
theorem Rel.more{Γ':Gm}{σ':St}(h:Rel K g H Γ m σ P)(b:Γ'.length=Γ.length)(hs:σ'.length=σ.length)(k:∀(i o:Nat),Γ'[i]?=_s (_s o)->(Γ[i]?=_s (_s o)/\σ'[i]?=σ[i]?)\/(o=0/\∃d v,m[i]?=_s d/\σ'[i]?=_s (_s v)/\Rep K g H 0 d v j4)):∃P',Rel K g H Γ' m σ' P'/\∀a,P' a->P a:=by
 obtain⟨zd,F,h1,h4⟩:=h
 let C:Nat->Prop:=λi=>∃o,Γ'[i]?=_s (_s o)/\Γ[i]?=_s (_s o)/\σ'[i]?=σ[i]?
 refine⟨λa=>∃i,C i/\F i a,⟨zd,λi a=>C i/\F i a,⟨by rw[b];exact h1.l1,by rw[hs,b];exact h1.l2,λi o e=>?_,λi e a q=>q.1.elim λo z=>e o z.1,λi j n a q z=>h1.dj i j n a q.2 z.2⟩,λ_=>V0⟩,λa ⟨i,_,q⟩=>(h4 a).mpr ⟨i,q⟩⟩;by_cases c:C i;obtain⟨o',e1,e2,e3⟩:=c;rw[e]at e1;cases e1;obtain⟨d,v,l,f,r⟩:=h1.rep i o e2;have eq:(λa=>C i/\F i a)=F i:=funext λa=>propext ⟨λz=>z.2,λz=>⟨⟨o,e,e2,e3⟩,z⟩⟩;exact⟨d,v,l,by rw[e3];exact f,by show Rep K g H o d v λa=>C i/\F i a;rw[eq];exact r⟩;have eq:(λa=>C i/\F i a)=j4:=Bn λa z=>c z.1;rcases k i o e with z|⟨rfl,d,v,e1,e2,r⟩
 exact(c ⟨o,e,z⟩).elim;exact⟨d,v,e1,e2,by show Rep K g H 0 d v λa=>C i/\F i a;rw[eq];exact r⟩
end
def Hr(js:List Nat)(Γ:Gm):Gm:=(D0 Γ.length).map λi=>if js.contains i then _n else Γ.getD i _n
def Gu(js:List Nat)(a Γ:Gm):Gm:=(D0 Γ.length).map λi=>if js.contains i then(if a.getD i _n==_s 0 then _s 0 else _n)else Γ.getD i _n
theorem DK{a:Type}{n i:Nat}{f:Nat->a}{x:a}(h:((D0 n).map f)[i]?=_s x):i < n/\x=f i:=by rw[C4]at h;by_cases z:i < n;rw[J9 z]at h;exact⟨z,(B2 h).symm⟩;rw[List.getElem?_eq_none_iff.mpr (by simpa using z)]at h;cases h
theorem Aq{Γ:Gm}{i o:Nat}(h:Γ.getD i _n=_s o):Γ[i]?=_s (_s o):=by
 rw[D3]at h;cases e:Γ[i]? with|none=>rw[e]at h;cases h|some x=>rw[e]at h;exact congrArg _s h
theorem Br{js:List Nat}{Γ:Gm}{i o:Nat}(h:(Hr js Γ)[i]?=_s (_s o)):i∉js/\Γ[i]?=_s (_s o):=by obtain⟨_,e⟩:=DK h;split at e;cases e;rename_i z;exact⟨λq=>z (B9.mpr q),Aq e.symm⟩
theorem Fm(js:List Nat):∀(σ:St)(i:Nat),i∉js->(L2.blank js σ)[i]?=σ[i]?:=by
 induction js with|nil=>intro σ i _;rfl|cons j js a=>intro σ i h;show(L2.blank js (σ.set j _n))[i]?=_;rw[a _ i λz=>h (B5 _ z),C6 λz=>h (by rw[<- z];exact B8)]
theorem DV{K:W.Frag}{E j6 lV ml oJ:Gm}{s L U T J:List Nat}{g:TG}{ft:Tg}{c:Ev Bool}{f:Ev Dv}(ht:IF K j6 lV L g ft)(nt:BH j6 (Hr s E)=_t)(pO:BH j6 oJ=_t)(nQ:BH j6 ml=_t)(nD:∀i∈L,i∈s)
    (hJ:J=Au j6 (L++(U++T))) {ds:List Dv} (hz:ds.length<=1000000) {l:M} {σ:St} {C:Hp} {F:G} {P1:Fp} {I:It} {R:Type} {k:Dv->M->Option R} {res:R} {Q:VK}
    (Z:Rel K F C E l σ P1) (yl:Yl K I ds F C) (run:List Dv->DB J->List Dv->Prop) (h0:run ds (AW J l) []) (hn:∀t n,run [] t n->k (.lst n) (Aa J l t)=_s res)
    (hc:∀d ds t n,run (d::ds) t n->∃(B:Type)(kx:Dv->M->Option B)(kf:M->Option B)(r:B),ft B d (Aa J l t) (λm2=>c B m2 λb S=>if b=_t then f B S kx else kf S)=_s r/\(∀x m',kx x m'=_s r->run ds (AW J m') (n++[x]))/\∀m',kf m'=_s r->run ds (AW J m') n)
    (q:∀d m' g' P' Pv v H',k d m'=_s res->BA (L++(U++T)) l m'->Step F P1 C g' (λa=>P' a\/Pv a) H'->Rep K g' H' 1 d v Pv->Rel K g' H' (Gu s E j6) m' σ P'->BG P' Pv->Q v H') :
    ∃W:Nat->Nat->List V->Hp->Prop,(∃m,W 0 m [] C)/\JX s g (tT K lV ml U c) (tE K ml 0 oJ T f) I σ (λys H=>∀p,H p=_n->Q (.ref p) (upd H p (.lst ys))) W:=by
  have sub:∀i∈J,i∈L++(U++T):=λi h=>Al (hJ▸h);have nJ:∀i∈J,i∉s:=λi h z=>by
    rw[hJ]at h;have:=(N7.mp h).2;rw[A1]at this;cases e:j6.getD i _n with|none=>rw[e]at this;cases this.2|some o=>obtain⟨o',e',_⟩:=DQ nt (Aq e);exact(Br e').1 z
  have lb:(Hr s E).length=E.length:=by unfold Hr;simp
  obtain⟨Pb,rb,sb⟩:=Z.sub (Γ':=Hr s E) (σ':=L2.blank s σ) lb (L2.kn ..) λi o e=>⟨(Br e).2,Fm s σ i (Br e).1⟩;obtain⟨g0,P0,s0,r0⟩:=rb.weaken nt;have yr:Step F P1 C g0 P0 C:=s0.sub sb λ_ z=>z;refine⟨λi j ys H=>j=ds.length-i/\i<=ds.length/\ys.length<=i/\∃u t P2 n,Step F P1 C u P2 H/\Rel K u H j6 (Aa J l t) (L2.blank s σ) P2/\AA K u H 0 n ys j4/\run (ds.drop i) t n,
    ⟨ds.length,by simp,N5 _,N5 _,g0,AW J l,P0,[],yr,Iz r0,AA.nil,by simpa using h0⟩,?_⟩
  rintro i j ys H2 ⟨rfl,hi,zP,u,t,P2,n,s2,r2,ry,e2⟩;have st:Hx F C u H2:=⟨P1,P2,s2,Z.kA⟩;by_cases ma:i < ds.length;rw[Q3 ma]at e2;obtain⟨B,kx,kf,rB,e3,hx,hf⟩:=hc _ _ _ _ e2;obtain⟨go,yy⟩:=(yl u H2 st).1 i ds[i] (A4 ma);refine .inr ⟨go,W6 zP (B1 ma (C3 hz `d)),λzs H'=>zs.length<=i+1/\∃A D m' za,Step F P1 C A D H'/\Rel K A H' j6 m' (L2.blank s σ) D/\BA (L++(U++T)) l m'/\AA K A H' 0 za zs j4/\run (ds.drop (i+1)) (AW J m') za,?_,λy H3 hy=>?_⟩;rintro zs H' ⟨hl,A,D,m',za,Y,N,ag,rz,hr⟩;exact⟨ds.length-(i+1),by omega,rfl,ma,hl,A,AW J m',D,za,Y,N.join ag λi o h=>hJ▸Ax h,rz,hr⟩;obtain⟨Pv,s3,h3,r3,n3⟩:=Ak.go s2 r2 (yy y H3 hy);have yu:AA K u H3 0 n ys j4:=ry.held (Step.same (P:=j4) (yy y H3 hy).1) kF.j4 λ_ _ z=>z;refine ht u _ P2 ds[i] y _ H3 B _ rB _ r3 h3.z e3 λm2 P' σ' hk ag sp ip r'=>?_;have s4:Step F P1 C u P' H3:=s3.less λa z=>.inl (sp a z);have a4:BA (L++(U++T)) l m2:=((AQ J l t).mono sub).trans ag |>.mono λi z=>(D8.mp z).elim id λz=>C2 _ z
  -- outside of qO oA own slots nothing is bound
  have back:∀{A:G}{D:Fp}{m':M}{H':Hp},Rel K A H' j6 m' σ' D->∃P6,Rel K A H' j6 m' (L2.blank s σ) P6/\∀a,P6 a->D a:=fun{A D m' H'} N=>N.sub rfl (by rw[ip.1]) λi o e=>⟨e,(ip.2 i λz=>by obtain⟨o',e',_⟩:=DQ nt e;exact(Br e').1 (nD i z)).symm⟩
  refine⟨u,m2,P',r',B,_,rB,hk,λb S g4 P4 H4 uQ yP Y O=>?_⟩;have xQ:=yu.held Y r'.kA λ_ z=>z.elim;cases b with|false=>rw[if_neg B4]at uQ;show(if _f=_t then _ else _);rw[if_neg B4];obtain⟨g6,P6,X,r6⟩:=O.weaken nQ;obtain⟨P7,r7,uv⟩:=back r6;exact⟨by omega,g6,P7,S,n,((s4.trans Y).trans X).less uv,r7,(a4.trans yP).mono λi z=>(D8.mp z).elim id λz=>B3 _ (C2 _ z),xQ.held X O.kA λ_ z=>z.elim,hf S uQ⟩|true=>rw[if_pos rfl]at uQ;show(if _t=_t then _ else _);rw[if_pos rfl];refine⟨g4,S,P4,O,B,kx,rB,uQ,λx m4 A D Pv v H5 zz ag5 X rv N n5=>?_⟩;have yt:=xQ.held X O.kA λ_ z=>z.elim;obtain⟨g6,P6,s7,r6⟩:=N.weaken pO;obtain⟨P7,r7,uv⟩:=back r6;refine⟨by rw[G2,S5];omega,g6,P7,m4,n++[x],(((s4.trans Y).trans (X.less λ_ z=>.inl z)).trans s7).less uv,r7,?_,?_,hx x m4 zz⟩;exact((a4.trans yP).trans ag5).mono λi z=>(D8.mp z).elim (λz=>(D8.mp z).elim id λz=>B3 _ (C2 _ z)) λz=>B3 _ (B3 _ z);refine((AA.app yt (AA.cons rv.z AA.nil λ_ z=>z.elim) λ_ z=>z.elim).iff (Q:=j4) λa=>⟨λz=>z.elim,λz=>z.elim id λz=>z.elim id id⟩).held s7 N.kA λ_ z=>z.elim
  have ei:i=ds.length:=by omega
  subst ei;rw[iT]at e2;refine .inl ⟨(yl u H2 st).2 _ (C7 _),λp hp=>?_⟩;obtain⟨Pv,s3,h1,r3,n3⟩:=Ak.go s2 r2 (Ak.lst r2.zd ry hp);have l1:j6.length=E.length:=(Cj nt).trans lb;obtain⟨P4,O,xI⟩:=r3.more (Γ':=Gu s E j6) (σ':=σ) (by unfold Gu;simp) (by rw[L2.kn]) λi o e=>by
    obtain⟨hi,e⟩:=DK e;split at e;rename_i z;split at e;rename_i z0;cases e;refine .inr ⟨rfl,?_⟩;obtain⟨v,Px,ev,rx,_⟩:=Z.nC (Aq (beq_iff_eq.mp z0));have ji:i∉J:=λw=>nJ i w (B9.mp z);have hl:i < l.length:=by rw[Z.len.1,<- l1];exact hi
    refine⟨l.at i,v,?_,ev,(rx.z.held s2 Z.kA λ_ z=>z.elim).held (Step.same (P:=j4) (Ae hp (.lst ys))) kF.j4 λ_ _ z=>z⟩;have:=(AQ J l t).2 i ji;have mT:i < (Aa J l t).length:=by rw[EX];exact hl
    rw[A4 mT,<- this];unfold M.at;rw[D3,A4 mT];rfl;cases e;rename_i z;exact .inl ⟨Aq e.symm,(Fm s σ i λw=>z (B9.mpr w)).symm⟩
  exact q _ _ u P4 Pv _ _ (hn t n e2) ((AQ J l t).mono sub) (s3.less λa z=>z.elim (λz=>.inl (xI a z)) .inr) h1 O λa z w=>n3 a (xI a z) w
def Oo(a:Ev (List Dv))(tg:Tg)(f:Ev Dv):Ev Dv:=λR m k=>a R m λds b=>FG ds ((Cq (λd=>tg Dv d b λc=>f Dv c λx _=>_s x) ds).bind λxs=>k (.lst xs) b)
def Oq(a:Ev (List Dv))(tg:Tg)(c:Ev Bool)(f:Ev Dv):Ev Dv:=λR m k=>a R m λds e=>FG ds ((Wh (λd=>tg (Option Dv) d e λh=>c (Option Dv) h λb g=>if b=_t then f (Option Dv) g λx _=>_s (_s x)else _s _n) ds).bind λxs=>k (.lst xs) e)
def Kb(a:Ev (List Dv))(tg:Tg)(J:List Nat)(f:Ev Dv):Ev Dv:=λR m k=>a R m λds b=>FG ds ((CW (λd t=>tg (Dv×DB J) d (Aa J b t) λe=>f (Dv×DB J) e λx c=>_s (x,AW J c)) ds (AW J b)).bind λp=>k (.lst p.1) (Aa J b p.2))
def Sb(a:Ev (List Dv))(tg:Tg)(J:List Nat)(c:Ev Bool)(f:Ev Dv):Ev Dv:=λR m k=>a R m λds e=>FG ds ((Kd (λd t=>tg (Option Dv×DB J) d (Aa J e t) λi=>c (Option Dv×DB J) i λb g=>if b=_t then f (Option Dv×DB J) g λx h=>_s (_s x,AW J h)else _s (_n,AW J g)) ds (AW J e)).bind λp=>k (.lst p.1) (Aa J e p.2))
def DA:Ev Bool:=λ_ m k=>k _t m
section
variable{K:W.Frag}{Γ kR j6 lV ml oJ:Gm}{js jx jt jc jf J:List Nat}{g:TG}{ft:Tg}{c:Ev Bool}{f:Ev Dv}{src:Ev (List Dv)}{σ:St}{H:Hp}{Q:VK}
theorem OI(C:IF K j6 lV jt g ft)(u:BH j6 (Hr jx kR)=_t)(p:BH j6 oJ=_t)(w:BH j6 lV=_t)(z:∀i∈jt,i∈jx)(D:([]:List Nat)=Au j6 (jt++([]++jf)))
    (h:tE K Γ 1 (Gu jx kR j6) (js++(jt++([]++jf))) (Oo src ft f) σ H Q):Dg (tI K Γ kR js src) jx g (tT K lV lV [] DA) (tE K lV 0 oJ jf f) σ H Q:=by
  obtain⟨E,m,P,r,R,k,res,e,q⟩:=h;refine⟨E,m,P,r,R,_,res,e,λds G L P1 M I a F s o l=>?_⟩;obtain⟨B,a⟩:=DR a;refine jy a λxs e1 e2=>?_;refine DV (c:=DA) C u p w z D B o l (λds _ j=>∃b,xs=j++b/\Cq _ ds=_s b) ⟨xs,rfl,e1⟩ (λt j ⟨b,h1,h2⟩=>?_) (λd ds t j ⟨b,h1,h2⟩=>?_) λd m' g' P' Pv v H' a A s'=>q d m' g' P' Pv v H' a (F.trans A) (s.trans s');cases h2;rw[F8]at h1;subst h1;exact e2;refine jy h2 λx h3 h4=>?_;refine jy h4 λn h5 h6=>?_;cases h6;exact⟨Dv,λx _=>_s x,λ_=>_n,x,h3,(λy m' a=>by cases a;exact⟨n,by rw[h1,J7];rfl,h5⟩),λm' a=>by cases a⟩
theorem OJ(C:IF K j6 lV jt g ft)(u:BH j6 (Hr jx kR)=_t)(p:BH j6 oJ=_t)(w:BH j6 ml=_t)(z:∀i∈jt,i∈jx)(D:([]:List Nat)=Au j6 (jt++(jc++jf)))
    (h:tE K Γ 1 (Gu jx kR j6) (js++(jt++(jc++jf))) (Oq src ft c f) σ H Q):Dg (tI K Γ kR js src) jx g (tT K lV ml jc c) (tE K ml 0 oJ jf f) σ H Q:=by
  obtain⟨E,m,P,r,R,k,res,e,q⟩:=h;refine⟨E,m,P,r,R,_,res,e,λds G L P1 M I a F s o n=>?_⟩;obtain⟨B,a⟩:=DR a;refine jy a λxs e1 e2=>?_;refine DV C u p w z D B o n (λds _ j=>∃b,xs=j++b/\Wh _ ds=_s b) ⟨xs,rfl,e1⟩ (λt j ⟨b,h1,h2⟩=>?_) (λd ds t j ⟨b,h1,h2⟩=>?_) λd m' g' P' Pv v H' a A s'=>q d m' g' P' Pv v H' a (F.trans A) (s.trans s');cases h2;rw[F8]at h1;subst h1;exact e2;refine jy h2 λx h3 h4=>?_;refine jy h4 λl h5 h6=>?_;cases h6;refine⟨Option Dv,λx _=>_s (_s x),λ_=>_s _n,x,h3,(λy m' a=>?_),λm' a=>?_⟩;cases a;exact⟨l,by rw[h1,J7];rfl,h5⟩;cases a;exact⟨l,h1,h5⟩
theorem MD(E:IF K j6 lV jt g ft)(w:BH j6 (Hr jx kR)=_t)(u:BH j6 oJ=_t)(z:BH j6 lV=_t)(A:∀i∈jt,i∈jx)(F:J=Au j6 (jt++([]++jf)))
    (h:tE K Γ 1 (Gu jx kR j6) (js++(jt++([]++jf))) (Kb src ft J f) σ H Q):Dg (tI K Γ kR js src) jx g (tT K lV lV [] DA) (tE K lV 0 oJ jf f) σ H Q:=by
  obtain⟨G,m,P,r,R,k,res,e,q⟩:=h;refine⟨G,m,P,r,R,_,res,e,λds M N P1 O I a L s o l=>?_⟩;obtain⟨D,a⟩:=DR a;refine jy a λp e1 e2=>?_;refine DV (c:=DA) E w u z A F D o l (λds t j=>∃b,p.1=j++b/\CW _ ds t=_s (b,p.2)) ⟨p.1,rfl,e1⟩ (λt j ⟨b,h1,h2⟩=>?_) (λd ds t j ⟨b,h1,h2⟩=>?_) λd m' g' P' Pv v H' a C s'=>q d m' g' P' Pv v H' a (L.trans C) (s.trans s');simp only[CW,O6,Prod.mk.injEq]at h2;obtain⟨rfl,rfl⟩:=h2;rw[F8]at h1;rw[<- h1];exact e2;refine jy h2 λx h3 h4=>?_;refine jy h4 λn h5 h6=>?_;simp only[O6,Prod.mk.injEq]at h6;obtain⟨rfl,h7⟩:=h6;refine⟨_,λx B=>_s (x,AW J B),λ_=>_n,x,h3,(λy m' a=>?_),λm' a=>by cases a⟩;cases a;exact⟨n.1,by rw[h1,J7];rfl,by rw[<- h7];exact h5⟩
theorem YU(F:IF K j6 lV jt g ft)(w:BH j6 (Hr jx kR)=_t)(u:BH j6 oJ=_t)(z:BH j6 ml=_t)(A:∀i∈jt,i∈jx)(G:J=Au j6 (jt++(jc++jf)))
    (h:tE K Γ 1 (Gu jx kR j6) (js++(jt++(jc++jf))) (Sb src ft J c f) σ H Q):Dg (tI K Γ kR js src) jx g (tT K lV ml jc c) (tE K ml 0 oJ jf f) σ H Q:=by
  obtain⟨L,m,P,r,R,k,res,e,q⟩:=h;refine⟨L,m,P,r,R,_,res,e,λds N O P1 S I a M s o n=>?_⟩;obtain⟨E,a⟩:=DR a;refine jy a λp e1 e2=>?_;refine DV F w u z A G E o n (λds t j=>∃b,p.1=j++b/\Kd _ ds t=_s (b,p.2)) ⟨p.1,rfl,e1⟩ (λt j ⟨b,h1,h2⟩=>?_) (λd ds t j ⟨b,h1,h2⟩=>?_) λd m' g' P' Pv v H' a D s'=>q d m' g' P' Pv v H' a (M.trans D) (s.trans s');simp only[Kd,O6,Prod.mk.injEq]at h2;obtain⟨rfl,rfl⟩:=h2;rw[F8]at h1;rw[<- h1];exact e2;refine jy h2 λx h3 h4=>?_;refine jy h4 λl h5 h6=>?_;simp only[O6,Prod.mk.injEq]at h6;obtain⟨rfl,h7⟩:=h6;refine⟨_,λx B=>_s (_s x,AW J B),λC=>_s (_n,AW J C),x,h3,(λy m' a=>?_),λm' a=>?_⟩;cases a;exact⟨l.1,by rw[h1,J7];rfl,by rw[<- h7];exact h5⟩;cases a;exact⟨l.1,h1,by rw[<- h7];exact h5⟩
end
end R
namespace L2
open PySem PySem.Spec PyProof.Rows
def gA(h:F1)(it l:A6)(i:Nat):Bool->Prop
 |false=>h.IsListIter it l i
 |true=>h.IsTupleIter it l i
def bA(K:W.Frag)(H:Hp)(a:A6)(xs:List V):Bool->Prop
 |false=>Bv K H a xs
 |true=>DC K H a xs
noncomputable abbrev Sq:=Nat×Bool
noncomputable def fh(x:Str):It:=⟨λi H=>∃c,x.cps[i]?=_s c,λi H v H'=>H'=H/\∃c,x.cps[i]?=_s c/\v=.str ⟨#[c]⟩,λi H=>x.cps[i]?=_n⟩
section
variable{X:Cx}
abbrev eB(K:W.Frag)(tl:TE):TI:=λσ H R=>tl σ H λx b=>(∃a xs,x=.ref a/\((Bv K b a xs/\R (bG K a) b)\/(DC K b a xs/\R (bZ K a) b)))\/∃z,x=.str z/\R (fh z) b
end
section
variable{X:Cx}{p1 p2 r8 kQ:Pos}{es:List Expr}{e:Expr}{ta:TA}
abbrev Mr(ta:TA):TE:=λσ H Q=>ta σ H λvs a=>∃(i j:Int),(vs=[.int j]/\i=0\/vs=[.int i,.int j])/\(-(2 ^ 62)<=i/\i < 2 ^ 62/\-(2 ^ 62)<=j/\j < 2 ^ 62)/\(j-i).toNat<=1000000/\∀l,a l=_n->Q (.ref l) (upd a l (.lst ((D0 (j-i).toNat).map λk=>.int (i+(k:Nat)))))
end
end L2
namespace R
open PySem L2
noncomputable def items:Dv->Option (List Dv)
 |.tup ds=>_s ds
 |.lst ds=>_s ds
 |.k8 ns=>_s (ns.map .int)
 |_=>_n
def KZ(f:Ev Dv):Ev (List Dv):=λR m k=>f R m λd m'=>(items d).bind λds=>k ds m'
section
variable{K:W.Frag}{g:G}{H:Hp}
theorem AV{o:Nat}{i:Int}{v:V}{P:Fp}(h:Rep K g H o (.int i) v P):v=.int i:=by unfold Rep at h;exact h.1
theorem As{o:Nat}{i:Int}:Rep K g H o (.int i) (.int i) j4:=by unfold Rep;exact⟨rfl,λ_ z=>z⟩
theorem Qk{a:A6}{ds:List Dv}(h:Rep K g H 0 (.lst ds) (.ref a) j4):Yl K (bG K a) ds g H:=by intro f c st;have h2:=st.rep h;unfold Rep at h2;obtain⟨b,vs,P',e,h1,h2,_⟩:=h2;cases e;have sq:Bv K c a vs:=.inl (.inl h1.1);refine⟨λi d e=>?_,λi hi=>⟨vs,sq,by rw[<- h2.len];exact hi⟩⟩;obtain⟨v,P,ev,rv,_⟩:=h2.get e;refine⟨⟨vs,v,sq,ev⟩,λx j y=>?_⟩;obtain⟨rfl,y⟩:=y;have:=y vs sq;rw[ev]at this;cases this;exact Ak.old rv.z
theorem VA{a:A6}{ds:List Dv}(h:Rep K g H 0 (.tup ds) (.ref a) j4):Yl K (bZ K a) ds g H:=by intro f c st;have h2:=st.rep h;unfold Rep at h2;obtain⟨b,vs,e,h1,h2⟩:=h2;cases e;have sq:DC K c a vs:=.inl (.inl h1);refine⟨λi d e=>?_,λi hi=>⟨vs,sq,by rw[<- h2.len];exact hi⟩⟩;obtain⟨v,P,ev,rv,_⟩:=h2.get e;refine⟨⟨vs,v,sq,ev⟩,λx j y=>?_⟩;obtain⟨rfl,y⟩:=y;have:=y vs sq;rw[ev]at this;cases this;exact Ak.old rv.z
theorem VB{a:A6}{ns:List Int}(h:Rep K g H 0 (.k8 ns) (.ref a) j4):Yl K (bG K a) (ns.map .int) g H:=by
 intro c j st;have h2:=st.rep h;unfold Rep at h2;obtain⟨⟨b,e,h1⟩,_⟩:=h2;cases e;have sq:=h1.sq;refine⟨λi d e=>?_,λi hi=>⟨_,sq,by rw[D1]at hi ⊢;exact hi⟩⟩;rw[C4]at e;cases q:ns[i]? with|none=>rw[q]at e;cases e|some k=>rw[q]at e;cases e;refine⟨⟨_,.int k,sq,by rw[C4,q];rfl⟩,λx f y=>?_⟩;obtain⟨rfl,y⟩:=y;have:=y _ sq;rw[C4,q]at this;cases this;exact Ak.old As
theorem Mb{lo:Int}{n:Nat}:Yl K (bF lo n) ((D0 n).map λk=>.int (lo+(k:Nat))) g H:=by intro a c st;refine⟨λi d e=>?_,λi hi=>by rw[D1,X4]at hi;exact hi⟩;obtain⟨hi,rfl⟩:=DK e;refine⟨hi,λx b y=>?_⟩;obtain⟨rfl,rfl⟩:=y;exact Ak.old As
end
section
variable{X:Cx}{tg e a b:Expr}{es:List Expr}{f:Ev Dv}{p pos:Pos}{Γ Γ':Gm}{js:List Nat}{as:List Ar}
theorem aA(h:PE X e (tE X.K Γ 0 Γ' js f)):PI X tg e (tI X.K Γ Γ' js (KZ f)):=PI.imp (WI h) λσ H Q q=>by
 obtain⟨g,m,P,r,R,k,res,e,q⟩:=q;refine⟨g,m,P,r,R,_,res,e,λd m' g' P' Pv v H' l j s rv i n=>?_⟩;obtain⟨ds,e1,e2⟩:=kb l;have s':Step g P H g' P' H':=s.less λ_ z=>.inl z;have c:=rv.z;cases d with|tup es=>cases e1;have h0:=c;unfold Rep at h0;obtain⟨a,vs,rfl,h1,h2⟩:=h0;exact⟨a,vs,rfl,.inr ⟨.inl (.inl h1),q _ m' g' P' H' _ e2 j s' i (VA c)⟩⟩|lst es=>cases e1;have h0:=c;unfold Rep at h0;obtain⟨a,vs,P1,rfl,h1,h2,_⟩:=h0;exact⟨a,vs,rfl,.inl ⟨.inl (.inl h1.1),q _ m' g' P' H' _ e2 j s' i (Qk c)⟩⟩|k8 ns=>cases e1;have h0:=c;unfold Rep at h0;obtain⟨⟨a,rfl,h1⟩,_⟩:=h0;exact⟨a,_,rfl,.inl ⟨h1.sq,q _ m' g' P' H' _ e2 j s' i (VB c)⟩⟩|_=>cases e1
def YB(K:W.Frag)(p:List Dv->Option (List Dv))(r:List V->Hp->(It->Hp->Prop)->Prop):Prop:=∀g H ds vs c Q,Zd g H->AA K g H 0 ds vs j4->p ds=_s c->(∀J H',Dd H H'->Yl K J c g H'->Q J H')->r vs H Q
def UY(p:List Dv->Option (List Dv))(d:Ev (List Dv)):Ev (List Dv):=λR m k=>d R m λds m'=>(p ds).bind λc=>k c m'
abbrev UV(r:List V->Hp->(It->Hp->Prop)->Prop)(ta:TA):TI:=λσ H Q=>ta σ H λvs c=>r vs c Q
theorem RF{K:W.Frag}{j:List Dv->Option (List Dv)}{r:List V->Hp->(It->Hp->Prop)->Prop}(t:YB K j r)(c:AE Γ as Γ' js)(v:IE as=_t){σ:St}{H:Hp}{Q:It->Hp->Prop}(h:tI K Γ Γ' js (UY j (AN as)) σ H Q):UV r (BI K as) σ H Q:=by obtain⟨g,m,P,o,B,k,res,e,q⟩:=h;refine AK as o c e λds m' g' P' vs A u x s w i=>?_;refine jy u λl e1 e2=>?_;exact t g' A ds vs l Q i.zd (w.mL v) e1 λJ y d n=>q l m' g' P' y J e2 x ((s.trans (Step.same d)).less λ_ z=>z) (i.same d) n
noncomputable def small(i:Int):Bool:=-1000000000<=i&&i<=1000000000
theorem NJ{i:Int}(h:small i=_t):-1000000000<=i/\i<=1000000000:=by unfold small at h;rw[A1,decide_eq_true_eq,decide_eq_true_eq]at h;exact h
def CL(ds:List Dv):Option (List Dv):=match ds with
 |[.int n]=>bif small n then _s ((D0 n.toNat).map λk=>.int (0+(k:Nat)))else _n
 |_=>_n
def ZT:List V->Hp->(It->Hp->Prop)->Prop:=λvs c R=>∃j:Int,vs=[.int j]/\-(2 ^ 62)<=j/\j < 2 ^ 62/\R (bF 0 j.toNat) c
theorem NH{K:W.Frag}:YB K CL ZT:=λg H ds vs h Q zd ra e q=>by
 unfold CL at e;split at e;rename_i n;cases c:small n with|false=>rw[c]at e;cases e|true=>rw[c]at e;cases e;have hn:=NJ c;unfold AA at ra;obtain⟨v,d,_,_,rfl,h1,h2,_⟩:=ra;unfold AA at h2;obtain⟨rfl,_⟩:=h2;rw[AV h1];exact⟨n,rfl,by omega,by omega,q _ H (λ_ _ z=>z) Mb⟩
 cases e
end
structure kd:Type 1 where
 ps:List Str
 io:List Nat
 ro:Nat
 nb:Bool
 fn:List Dv->Option (Dv×List Dv)
 cps:(R:Type)->List Dv->(Dv->List Dv->Option R)->Option R
 eq:∀R ds k,cps R ds k=(fn ds).bind λp=>k p.1 p.2
 cl:Option Str:=_n
def IC(n:Nat)(io:List Nat):Gm:=(D0 n).map λi=>_s (if io.contains i then 1 else 0)
def Bk(K:W.Frag)(g:G)(H:Hp)(io:List Nat)(bs:List Dv)(vs:List V)(P:Fp):Prop:=Rel K g H (io.map λ_=>_s 1) bs (io.map λi=>(vs[i]?).map id) P
inductive nO (K:W.Frag) (s:kd) (vs:List V) (H:Hp) (Q:VK) (_:XK):Prop
 |mk (g:G) (ds:M) (P:Fp) (a:Rel K g H (IC s.ps.length s.io) ds (vs.map _s) P) (d:Dv) (bs:List Dv) (b:s.fn ds=_s (d,bs)) (c:∀g' H' v Pv Pb,Step g P H g' (λa=>Pv a\/Pb a) H'->Rep K g' H' s.ro d v Pv->Bk K g' H' s.io bs vs Pb->BG Pv Pb->Q v H')
def Gv(n:Nat)(io:List Nat):Gm:=(D0 n).map λi=>if io.contains i then _s 1 else _n
def FI(n p:Nat)(io:List Nat):Gm:=IC p io++E6 (n-p) _n
section
variable{K:W.Frag}{g:G}{H:Hp}
theorem Rel.pad{Γ:Gm}{m:M}{vs:List V}{P:Fp}(h:Rel K g H Γ m (vs.map _s) P)(n:Nat):Rel K g H (Γ++E6 n _n) (m++E6 n .kB) (vs.map _s++E6 n _n) P:=by
 obtain⟨zd,F,h1,h4⟩:=h;have old:∀{i o:Nat},(Γ++E6 n _n)[i]?=_s (_s o)->i < Γ.length/\Γ[i]?=_s (_s o):=fun{i o} e=>by by_cases z:i < Γ.length;rw[G0 z]at e;exact⟨z,e⟩;rw[V6 `o,Y6]at e;split at e<;>cases e
 refine⟨zd,F,⟨by simp[h1.l1],by have:=h1.l2;simp at this ⊢;omega,λi o e=>?_,λi e=>?_,h1.dj⟩,h4⟩;obtain⟨hi,e⟩:=old e;obtain⟨d,v,e1,e2,r⟩:=h1.rep i o e;exact⟨d,v,by rw[G0 (by rw[h1.l1];exact hi)];exact e1,by rw[G0 (by rw[h1.l2];exact hi)];exact e2,r⟩;refine h1.out i λo z=>e o ?_;rw[G0 (A9.mp z).1];exact z
theorem Rel.pick{Γ:Gm}{m:M}{σ:St}{P:Fp}{io:List Nat}(h:Rel K g H Γ m σ P)(nd:io.Nodup)(l:∀i∈io,Γ[i]?=_s (_s 1)):∃P',Rel K g H (io.map λ_=>_s 1) (io.map m.at) (io.map λi=>(σ[i]?).join) P'/\∀a,P' a->P a:=by
 obtain⟨zd,F,h1,h4⟩:=h;refine⟨λa=>∃j i,io[j]?=_s i/\F i a,⟨zd,λj a=>∃i,io[j]?=_s i/\F i a,⟨by simp,by simp,λj o e=>?_,λj e a ⟨i,p,_⟩=>?_,λj k n a ⟨i,e1,q1⟩ ⟨b,e2,q2⟩=>?_⟩,λ_=>V0⟩,λa ⟨j,i,_,q⟩=>(h4 a).mpr ⟨i,q⟩⟩;rw[C4]at e;cases ej:io[j]? with
 |none=>rw[ej]at e;cases e
 |some i=>rw[ej]at e;cases e;obtain⟨d,v,e1,e2,r⟩:=h1.rep i 1 (l i (J5 ej));have eq:(λa=>∃b,_s i=_s b/\F b a)=F i:=funext λa=>propext ⟨fun⟨b,z,q⟩=>by cases z;exact q,λq=>⟨i,rfl,q⟩⟩;exact⟨d,v,by rw[C4,ej,G8,Eu e1],by rw[C4,ej,G8,e2];rfl,by show Rep K g H 1 d v λa=>∃b,_s i=_s b/\F b a;rw[eq];exact r⟩
 refine e 1 ?_;rw[C4,p];rfl;by_cases z:i=b;subst z;refine n ?_;have f:=(A9.mp e1);have c:=(A9.mp e2);exact(Y4 (h₀:=f.1) (h₁:=c.1) nd).mp (f.2.trans c.2.symm);exact h1.dj i b z a q1 q2
end
theorem UW{P:D4}{w:E8}{K:W.Frag}{mg:Str->Option A3}{base:F1}{x qual:Str}{st:F0}{f:A6}{fd:G4}{N:List Str}{k:Nat}{s:kd}(Fn:m8 K x qual st f fd)(S:ko N s.ps (AD st))(nd:s.io.Nodup)(C:∀i∈s.io,i < s.ps.length)(hn:s.ps.length<=N.length)
    {body:Es} {Γn:Option Gm} {js:List Nat} (D:GO (_s (Gv N.length s.io)) Γn=_t)
    (hb:∀(kY:A3)(A:F2)(outer:List Env)(s':A5)(H:Hp)(E:XK),kG k (A.deeper (U3 qual (AD st) s'.heap.objs.size f kY))->Be (DT Dz P w K mg base N qual (AD st) f kY A outer s' H E).l0 (AM st) (tS K ⟨s.io,Gv N.length s.io,s.ro⟩ _n (FI N.length s.ps.length s.io) Γn js body))
    (I:∀ds d bs,ds.length=s.ps.length->s.fn ds=_s (d,bs)->∃(R:Type)(k:Kt R)(r:R),body R (ds++E6 (N.length-s.ps.length) .kB) k=_s r/\(∀m,k.nx m=_s r->d=.kB/\bs=s.io.map m.at)/\(∀d' m,k.rt d' m=_s r->d=d'/\bs=s.io.map m.at)):kL P w K mg base Dz (k+1) f fd s.ps (nO K s):=by
  have B:∀n io,(IC n io).length=n:=λn io=>by unfold IC;simp
  refine Fn.ok S (λvs H Q E h=>?_) λkY A outer s' H vs Q E Y h=>⟨_,hb kY A outer s' H E Y,?_⟩;obtain⟨g,ds,l,r,_⟩:=h;have:=r.len.2;rw[B]at this;simpa using this
  · obtain⟨g,ds,l,r,d,bs,e,q⟩:=h;have l1:=r.len.1;have l2:=r.len.2;rw[B]at l1 l2;rw[D1]at l2;have U:Rel K g H (FI N.length s.ps.length s.io) (ds++E6 (N.length-s.ps.length) .kB) (L2.start N vs) l:=by unfold L2.start FI;rw[l2];exact r.pad _
    have X:∀{σ':St},Io s.io (L2.start N vs) σ'->∀i∈s.io,(σ'[i]?).join=vs[i]?:=fun{σ'} hi i hm=>by
      rw[hi i hm];unfold L2.start;have Z:i < vs.length:=by rw[l2];exact C i hm
      rw[G0 (by simpa using Z),C4];cases vs[i]?<;>rfl
    have O:∀i∈s.io,(Gv N.length s.io)[i]?=_s (_s 1):=λi hi=>by unfold Gv;rw[C4,J9 (by have:=C i hi;omega),G8,if_pos (B9.mpr hi)]
    obtain⟨RT,kt,rt,u,L,F⟩:=I ds d bs l1 e;have j:∀{d':Dv}{m':M}{g':G}{P' Pv:Fp}{σ':St}{v:V}{H':Hp},d=d'/\bs=s.io.map m'.at->Step g l H g' (λa=>P' a\/Pv a) H'->Io s.io (L2.start N vs) σ'->Rep K g' H' s.ro d' v Pv->Rel K g' H' (Gv N.length s.io) m' σ' P'->BG P' Pv->Q v H':=fun{d' m' g' P' Pv σ' v H'} c st io rv b n=>by
      obtain⟨rfl,rfl⟩:=c;obtain⟨Pb,t,y⟩:=b.pick nd O;refine q g' H' v Pv Pb (st.less λa z=>z.elim .inr λz=>.inl (y a z)) rv ?_ λa z w=>n a (y a w) z;have e:(s.io.map λi=>(σ'[i]?).join)=s.io.map λi=>(vs[i]?).map id:=gO λi hi=>by rw[X io i hi];cases vs[i]?<;>rfl
      unfold Bk;rw[<- e];exact t
    refine⟨g,_,l,U,RT,kt,rt,u,⟨λΓ' m' g' P' σ' H' J c ag o p b=>?_,λd' m' g' P' Pv σ' v H' c ag o p rv b n=>j (F d' m' c) o p rv b n,(λ_ _ _ _ _ _ z=>by cases z),λ_ _ _ _ _ _ z=>by cases z⟩⟩;subst J;obtain⟨g2,P2,s2,T⟩:=b.weaken (by unfold GO at D;exact D);exact j (Pv:=j4) (v:=.kB) (L m' c) ((o.trans s2).less λ_ z=>z.elim id C9) p (by unfold Rep;exact⟨rfl,λ_ z=>z⟩) T λ_ _ z=>z
noncomputable def Co(as:List Ar)(i:Nat):Option Nat:=match as[i]? with|some (.rf j)=>_s j|_=>_n
def slots(as:List Ar)(io:List Nat):List Nat:=io.map λi=>(Co as i).getD 0
noncomputable def LZ:Ar->Bool
 |.fd _ _=>_f
 |_=>_t
def YJ(as:List Ar)(io:List Nat):Bool:=as.all LZ&&(D0 as.length).all λi=>((Co as i).isSome==io.contains i)&&(D0 as.length).all λj=>i==j||(Co as i).isNone||(Co as i != Co as j)
noncomputable def EW:List Nat->List Dv->M->M
 |s::sl,b::bs,m=>EW sl bs (m.set s b)
 |_,_,m=>m
def JI(s:kd)(as:List Ar):Ev Dv:=λR m k=>AN as R m λds a=>s.cps R ds λd bs=>k d (EW (slots as s.io) bs a)
theorem EV:∀(sl:List Nat)(bs:List Dv)(m:M),(EW sl bs m).length=m.length
 |[],_,_=>rfl
 |_::_,[],_=>rfl
 |s::sl,b::bs,m=>by unfold EW;rw[EV,C8]
theorem DN:∀(sl:List Nat)(bs:List Dv)(m:M)(j:Nat),j∉sl->(EW sl bs m)[j]?=m[j]?
 |[],_,_,_,_=>rfl
 |_::_,[],_,_,_=>rfl
 |s::sl,b::bs,m,j,h=>by unfold EW;rw[DN sl bs _ j λz=>h (B5 _ z),C6 λz=>h (by rw[z];exact B8)]
theorem Jq:∀(sl:List Nat)(bs:List Dv)(m:M)(k j:Nat)(b:Dv),sl.Nodup->sl[k]?=_s j->bs[k]?=_s b->j < m.length->(EW sl bs m)[j]?=_s b
 |[],_,_,k,_,_,_,h,_,_=>by simp at h
 |_::_,[],_,k,_,_,_,_,h,_=>by simp at h
 |s::sl,c::bs,m,k,j,b,nd,h1,h2,a=>by
  unfold EW;rw[Q9]at nd;cases k with|zero=>simp at h1 h2;subst h1 h2;rw[DN sl bs _ s nd.1,C5 a]|succ k=>exact Jq sl bs _ k j b nd.2 (by simpa using h1) (by simpa using h2) (by rw[C8];exact a)
theorem Nb(sl:List Nat)(bs:List Dv)(m:M):BA sl m (EW sl bs m):=⟨EV ..,λi h=>by unfold M.at;rw[D3,D3,DN sl bs m i h]⟩
section
variable{K:W.Frag}{g:G}{H:Hp}{σ:St}{Γ Γ':Gm}{js:List Nat}{m:M}{P:Fp}{as:List Ar}
theorem Ad.len:∀{as:List Ar}{ds:List Dv}{vs:List V},Ad K g H Γ m σ as ds vs->ds.length=as.length/\vs.length=as.length
 |[],ds,vs,h=>by unfold Ad at h;obtain⟨rfl,rfl⟩:=h;exact⟨rfl,rfl⟩
 |.ev _ _ _ _::as,ds,vs,h=>by unfold Ad at h;obtain⟨d,v,a,b,rfl,rfl,_,h2⟩:=h;simp[h2.len.1,h2.len.2]
 |.rf i::as,ds,vs,h=>by unfold Ad at h;obtain⟨v,a,b,rfl,rfl,_,_,h3⟩:=h;simp[h3.len.1,h3.len.2]
 |.fd i _::as,ds,vs,h=>by unfold Ad at h;obtain⟨d,v,a,b,rfl,rfl,_,_,h3⟩:=h;simp[h3.len.1,h3.len.2]
theorem Ad.get:∀{as:List Ar}{ds:List Dv}{vs:List V}{i:Nat},as.all LZ=_t->Ad K g H Γ m σ as ds vs->i < as.length->∃d v,ds[i]?=_s d/\vs[i]?=_s v/\((∃j,Co as i=_s j/\d=m.at j/\σ[j]?=_s (_s v))\/(Co as i=_n/\Rep K g H 0 d v j4))
 |[],_,_,i,_,_,h=>by simp at h
 |.fd _ _::as,ds,vs,i,a,h,hi=>by simp[LZ]at a
 |.ev _ _ _ f::as,ds,vs,i,a,h,hi=>by
  unfold Ad at h;obtain⟨d,v,b,c,rfl,rfl,h1,h2⟩:=h;cases i with|zero=>exact⟨d,v,rfl,rfl,.inr ⟨rfl,h1⟩⟩|succ i=>obtain⟨d,v,e1,e2,z⟩:=h2.get (i:=i) (by simpa[LZ]using a) (by simpa using hi);exact⟨d,v,by simpa using e1,by simpa using e2,z⟩
 |.rf j::as,ds,vs,i,a,h,hi=>by
  unfold Ad at h;obtain⟨v,b,c,rfl,rfl,h1,_,h3⟩:=h;cases i with|zero=>exact⟨_,v,rfl,rfl,.inl ⟨j,rfl,rfl,h1⟩⟩|succ i=>obtain⟨d,v,e1,e2,z⟩:=h3.get (i:=i) (by simpa[LZ]using a) (by simpa using hi);exact⟨d,v,by simpa using e1,by simpa using e2,z⟩
theorem DL{i j:Nat}(h:Co as i=_s j):i < as.length:=by
 unfold Co at h;cases e:as[i]? with|none=>rw[e]at h;cases h|some a=>exact(A9.mp e).1
theorem Vf{io:List Nat}(h:YJ as io=_t):(∀i,i < as.length->((Co as i).isSome=_t↔i∈io))/\∀i a j,Co as i=_s j->Co as a=_s j->i=a:=by unfold YJ at h;rw[A1]at h;replace h:=h.2;rw[D6]at h;refine⟨λi hi=>?_,λi a j e b=>?_⟩;have:=h i (L6.mpr hi);rw[A1,beq_iff_eq]at this;rw[this.1,B9];have:=h i (L6.mpr (DL e));rw[A1,D6]at this;have:=this.2 a (L6.mpr (DL b));rw[e,b]at this;simp at this;exact this
theorem MK{s:kd}{r:G}{x:Hp}{l:M}{P1:Fp}{ds:List Dv}{vs:List V}{d:Dv}{bs:List Dv}(hs:YJ as s.io=_t)(hn:as.length=s.ps.length)(nd:s.io.Nodup)(lY:∀i∈s.io,i < s.ps.length)(hl:∀i∈slots as s.io,Γ'[i]?=_s (_s 1)){Q:VK}
    (r1:Rel K r x Γ' l σ P1) (ar:Ad K r x Γ' l σ as ds vs) (e1:s.fn ds=_s (d,bs))
    (q:∀B P2 Pv v t,Step r P1 x B (λa=>P2 a\/Pv a) t->Rep K B t s.ro d v Pv->Rel K B t Γ' (EW (slots as s.io) bs l) σ P2->BG P2 Pv->Q v t):nO K s vs x Q E0:=by
  obtain⟨xw,xv⟩:=Vf hs;have nf:as.all LZ=true:=by unfold YJ at hs;rw[A1]at hs;exact hs.1
  have zA:=r1;obtain⟨zd,F,h1,h4⟩:=zA
  -- qO slots,one by one
  have sl:∀{i j:Nat},Co as i=_s j->i∈s.io/\j∈slots as s.io:=fun{i j} e=>by have hi:=(xw i (DL e)).mp (by rw[e];rfl);exact⟨hi,iF.mpr ⟨i,hi,by rw[e];rfl⟩⟩
  have O:∀{i:Nat},i∈s.io->∃j,Co as i=_s j:=fun{i} hi=>M6.mp ((xw i (by rw[hn];exact lY i hi)).mpr hi);have xZ:(slots as s.io).Nodup:=by unfold slots;rw[W7,List.pairwise_map];refine(W7.mp nd).imp_of_mem fun{a b} ha hb n z=>?_;obtain⟨ja,ea⟩:=O ha;obtain⟨jb,eb⟩:=O hb;rw[ea,eb]at z;simp only[Option.getD_some]at z;subst z;exact n (xv a b ja ea eb)
  let D:Nat->Fp:=λi a=>∃j,Co as i=_s j/\F j a
  have al:=ar.len;have rA:Rel K r x (IC s.ps.length s.io) ds (vs.map _s) λa=>∃i,D i a:=by
    refine⟨zd,D,⟨by unfold IC;simp;rw[al.1,hn],by unfold IC;simp;rw[al.2,hn],λi o C=>?_,λi C a ⟨j,c,_⟩=>?_,λi i' n a ⟨j,c,z⟩ ⟨A,wH,Z⟩=>?_⟩,λ_=>V0⟩;obtain⟨hi,eo⟩:=DK C;obtain⟨d',v,d1,d2,z⟩:=ar.get (i:=i) nf (by rw[hn];exact hi);refine⟨d',v,d1,by rw[C4,d2];rfl,?_⟩;rcases z with⟨j,c,rfl,hv⟩|⟨c,z⟩
    have:o=1:=by have:=B2 eo;rw[if_pos (B9.mpr (sl c).1)]at this;exact this
    subst this;obtain⟨d3,J,e3,e4,r3⟩:=h1.rep j 1 (hl j (sl c).2);rw[hv]at e4;cases e4;have eq:D i=F j:=funext λa=>propext ⟨fun⟨A,z,q⟩=>by rw[c]at z;cases z;exact q,λq=>⟨j,c,q⟩⟩;rw[Eu e3,eq];exact r3;have:o=0:=by have:=B2 eo;rw[if_neg λw=>?_]at this;exact this;obtain⟨j,w⟩:=O (B9.mp w);rw[c]at w;cases w
    subst this;have eq:D i=j4:=Bn λa ⟨j,w,_⟩=>by rw[c]at w;cases w
    rw[eq];exact z;refine C (if s.io.contains i then 1 else 0) ?_;unfold IC;rw[C4,J9 (by rw[<- hn];exact DL c)];rfl;by_cases w:j=A;subst w;exact n (xv i i' j c wH);exact h1.dj j A w a z Z
  let Fr:Nat->Fp:=λj a=>j∉slots as s.io/\F j a
  have rr:Rel K r x (Hr (slots as s.io) Γ') l σ λa=>∃j,Fr j a:=by refine⟨zd,Fr,⟨by unfold Hr;simp;exact h1.l1,by unfold Hr;simp;exact h1.l2,λj o c=>?_,λj c a ⟨n,z⟩=>?_,λi j n a q z=>h1.dj i j n a q.2 z.2⟩,λ_=>V0⟩;obtain⟨nj,c⟩:=Br c;obtain⟨d',v,d1,d2,z⟩:=h1.rep j o c;have eq:Fr j=F j:=funext λa=>propext ⟨λw=>w.2,λw=>⟨nj,w⟩⟩;exact⟨d',v,d1,d2,by rw[eq];exact z⟩;refine h1.out j (λo w=>c o ?_) a z;unfold Hr;have h:=(A9.mp w).1;rw[C4,J9 h,G8,if_neg (λq=>n (B9.mp q)),D3,w];rfl
  have dA:BG (λa=>∃j,Fr j a) λa=>∃i,D i a:=λa ⟨j,nj,z⟩ ⟨i,A,c,Z⟩=>by by_cases w:j=A;subst w;exact nj (sl c).2;exact h1.dj j A w a z Z
  have zD:kF r x λa=>∃i,D i a:=rA.kA;refine⟨r,ds,_,rA,d,bs,e1,λB t v Pv Pb s2 rv hb n=>?_⟩;have yv:=rr.held s2 zD dA;have dB:BG (λa=>∃j,Fr j a) λa=>Pv a\/Pb a:=s2.out rr.kA dA;obtain⟨yT,X,q1,q4⟩:=yv;obtain⟨zb,Fb,b1,U⟩:=hb;have lb:bs.length=s.io.length:=by have:=b1.l1;simpa using this
  have T:∀{a:A6},(∃j,Fr j a)↔∃j,X j a:=fun{a}=>q4 a
  let Fz:Nat->Fp:=λj a=>(∃k,(slots as s.io)[k]?=_s j/\Fb k a)\/X j a
  have nq:∀j∈slots as s.io,∀a,¬X j a:=λj h=>q1.out j λo w=>(Br w).1 h;have rz:Rel K B t Γ' (EW (slots as s.io) bs l) σ λa=>∃j,Fz j a:=by
    refine⟨yT,Fz,⟨by rw[EV];exact h1.l1,h1.l2,λj o c=>?_,λj c a z=>?_,λi j n' a z w=>?_⟩,λ_=>V0⟩;have z5:j < l.length:=by rw[h1.l1];exact(A9.mp c).1
    by_cases h:j∈slots as s.io;obtain⟨f,I⟩:=List.getElem?_of_mem h;have N:f < s.io.length:=by have:=(A9.mp I).1;unfold slots at this;simpa using this
    rw[hl j h]at c;cases c;obtain⟨b,u,c1,c2,c3⟩:=b1.rep f 1 (by rw[C4,A4 N];rfl);have C:(slots as s.io)[f]?=_s ((Co as s.io[f]).getD 0):=by unfold slots;rw[C4,A4 N];rfl
    obtain⟨jj,L⟩:=O (Z1 N);rw[I,L]at C;have wG:j=jj:=B2 C;subst wG;obtain⟨d3,J,d1,d2,Y⟩:=ar.get (i:=s.io[f]) nf (DL L);rw[C4,A4 N,G8,d2]at c2;have eu:u=J:=by simpa using c2.symm
    subst eu;have hv:σ[j]?=_s (_s u):=by
      rcases Y with⟨j2,E,_,Y⟩|⟨E,_⟩
      rw[L]at E;cases E;exact Y;rw[L]at E;cases E
    have eq:Fz j=Fb f:=funext λa=>propext ⟨λw=>w.elim (fun⟨p,h',w⟩=>by have S:=A9.mp I;have y:=A9.mp h';have:p=f:=(Y4 (h₀:=y.1) (h₁:=S.1) xZ).mp (y.2.trans S.2.symm);exact this▸w) λw=>(nq j h a w).elim,λw=>.inl ⟨f,I,w⟩⟩
    exact⟨b,u,Jq _ bs l f j b xZ I c1 z5,hv,by rw[eq];exact c3⟩;have wH:(Hr (slots as s.io) Γ')[j]?=_s (_s o):=by unfold Hr;rw[C4,J9 (A9.mp c).1,G8,if_neg (λw=>h (B9.mp w)),D3,c];rfl
    obtain⟨d3,J,d1,d2,r3⟩:=q1.rep j o wH;have eq:Fz j=X j:=funext λa=>propext ⟨λw=>w.elim (fun⟨p,h',_⟩=>(h (J5 h')).elim) id,.inr⟩;exact⟨d3,J,by rw[DN _ _ _ _ h];exact d1,d2,by rw[eq];exact r3⟩;rcases z with⟨p,h',z⟩|z
    exact c 1 (hl j (J5 h'));refine q1.out j (λo w=>c o (Br w).2) a z;rcases z with⟨k1,S,z⟩|z
    rcases w with⟨k2,y,w⟩|w
    by_cases f:k1=k2;subst f;rw[S]at y;exact n' (B2 y);exact b1.dj k1 k2 f a z w;exact dB a (T.mpr ⟨j,w⟩) (.inr ((U a).mpr ⟨k1,z⟩));rcases w with⟨k2,y,w⟩|w
    exact dB a (T.mpr ⟨i,z⟩) (.inr ((U a).mpr ⟨k2,w⟩));exact q1.dj i j n' a z w
  refine q B _ Pv v t ((s2.frame (R:=λa=>∃j,Fr j a)).sub (λa z=>?_) λa z=>?_) rv rz λa z w=>?_;rcases z with⟨i,j,_,z⟩|⟨j,_,z⟩
  exact(h4 a).mpr ⟨j,z⟩;exact(h4 a).mpr ⟨j,z⟩;rcases z with⟨j,z⟩|z
  rcases z with⟨p,_,z⟩|z
  exact .inl (.inr ((U a).mpr ⟨p,z⟩));exact .inr (T.mpr ⟨j,z⟩);exact .inl (.inl z);obtain⟨j,z⟩:=z;rcases z with⟨p,_,z⟩|z
  exact n a w ((U a).mpr ⟨p,z⟩);exact dB a (T.mpr ⟨j,z⟩) (.inl w)
theorem Pe{s:kd}(c:AE Γ as Γ' js)(hs:YJ as s.io=_t)(hn:as.length=s.ps.length)(nd:s.io.Nodup)(t:∀i∈s.io,i < s.ps.length)(u:∀i∈slots as s.io,Γ'[i]?=_s (_s 1)){Q:VK}
    (h:tE K Γ s.ro Γ' (js++slots as s.io) (JI s as) σ H Q):BI K as σ H λvs b=>nO K s vs b Q E0:=by
  obtain⟨g,m,P,r,R,k,res,e,q⟩:=h;refine AK as r c e λds p A P1 vs b a y st x l=>?_;rw[s.eq]at a;refine jy a λf e1 e2=>?_;obtain⟨d,bs⟩:=f;exact MK hs hn nd t u l x e1 λw P2 Pv v z o rv j n=>q d _ w P2 Pv v z e2 (y.trans (Nb _ bs p)) (st.trans o) rv j n
mutual
noncomputable def Qe:Dv->Bool
 |.kB|.bl _|.int _|.str _=>_t
 |.tup ds=>SE ds
 |_=>_f
noncomputable def SE:List Dv->Bool
 |[]=>_t
 |d::ds=>Qe d&&SE ds
end
mutual
theorem KC{g':G}:∀{o o':Nat}{d:Dv}{v:V}{Pv:Fp},Rep K g' H o d v Pv->Qe d=_t->Rep K g H o' d v j4
 |_,_,.kB,_,_,h,_|_,_,.bl _,_,_,h,_|_,_,.int _,_,_,h,_|_,_,.str _,_,_,h,_=>by unfold Rep at h ⊢;exact⟨h.1,λ_ z=>z⟩
 |_,_,.tup ds,v,_,h,e=>by unfold Rep at h ⊢;obtain⟨a,vs,e1,h1,h2⟩:=h;unfold Qe at e;exact⟨a,vs,e1,h1,HJ h2 e⟩
 |_,_,.lst _,_,_,_,e|_,_,.mC _ _,_,_,_,e|_,_,.ref _,_,_,_,e|_,_,.k8 _,_,_,_,e|_,_,.ty _,_,_,_,e|_,_,.nh _,_,_,_,e|_,_,.mB _ _ _,_,_,_,e|_,_,.nW _ _,_,_,_,e|_,_,.oo _ _,_,_,_,e|_,_,.obj _ _ _ _,_,_,_,e=>by unfold Qe at e;cases e
theorem HJ{g':G}:∀{o o':Nat}{ds:List Dv}{vs:List V}{Pv:Fp},AA K g' H o ds vs Pv->SE ds=_t->AA K g H o' ds vs j4
 |_,_,[],_,_,h,_=>by unfold AA at h ⊢;exact⟨h.1,λ_ z=>z⟩
 |_,_,d::ds,_,_,h,e=>by unfold AA at h ⊢;obtain⟨v,r,P1,P2,e1,h1,h2,_,_⟩:=h;unfold SE at e;rw[A1]at e;exact⟨v,r,j4,j4,e1,KC h1 e.1,HJ h2 e.2,λ_ z=>z.elim,λa=>⟨λz=>z.elim,λz=>z.elim id id⟩⟩
end
theorem Ad.fz(r:Rel K g H Γ m σ P):∀{as:List Ar}{ds:List Dv}{vs:List V},Ad K g H Γ m σ as ds vs->AA K (g.add P) H 0 ds vs j4
 |[],ds,vs,h=>by unfold Ad at h;obtain⟨rfl,rfl⟩:=h;exact AA.nil
 |.ev _ _ _ f::as,ds,vs,h=>by unfold Ad at h;obtain⟨d,v,n,q,rfl,rfl,h1,h2⟩:=h;exact(AA.cons (h1.freeze (P:=P) λ_ z=>z.elim) (Ad.fz r h2) λ_ z=>z.elim).iff λa=>⟨λz=>z.elim,λz=>z.elim id id⟩
 |.rf i::as,ds,vs,h=>by unfold Ad at h;obtain⟨v,n,q,rfl,rfl,h1,⟨o,_,j⟩,h3⟩:=h;obtain⟨s,P1,e,k,c⟩:=r.nC j;rw[h1]at e;cases e;exact(AA.cons (k.freeze (P:=P) c) (Ad.fz r h3) λ_ z=>z.elim).iff λa=>⟨λz=>z.elim,λz=>z.elim id id⟩
 |.fd i f::as,ds,vs,h=>by unfold Ad at h;obtain⟨d,v,n,q,rfl,rfl,⟨h1,a,C,dx,fs,x,ha,t⟩,⟨o,D,j⟩,h3⟩:=h;obtain⟨s,P1,e,k,c⟩:=r.nC j;rw[x]at e;cases e;obtain⟨E,I,B,nT,w,G,F,A,p,_,_,l,u,_,y,_⟩:=EH k h1;cases A;rw[ha]at p;cases p;rw[t]at l;cases l;exact(AA.cons (u.freeze (P:=P) λb z=>c b ((y b).mpr (.inl z))) (Ad.fz r h3) λ_ z=>z.elim).iff λa=>⟨λz=>z.elim,λz=>z.elim id id⟩
theorem SK{n:Nat}{ds:List Dv}{vs:List V}(zd:Zd g H)(h:AA K g H 0 ds vs j4)(hn:ds.length=n):Rel K g H (IC n []) ds (vs.map _s) j4:=by refine⟨zd,λ_=>j4,⟨by unfold IC;simp[hn],by unfold IC;simp[<- hn,h.len],λi o e=>?_,λi e a z=>z,λi j n a z=>z.elim⟩,λa=>⟨λz=>z.elim,fun⟨i,z⟩=>z⟩⟩;obtain⟨hi,e⟩:=DK e;have b:o=0:=(B2 e);subst b;obtain⟨v,_,ev,rv,_⟩:=h.get (A4 (by omega:i < ds.length));exact⟨_,v,A4 `o,by rw[C4,ev];rfl,rv.z⟩
def GW(s:kd)(as:List Ar):Ev Dv:=λR m k=>AN as R m λds a=>s.cps R ds λd _=>bif Qe d then k d a else _n
theorem MF{s:kd}(c:AE Γ as Γ' js)(hs:s.io=[])(hn:as.length=s.ps.length){Q:VK}(h:tE K Γ 1 Γ' js (GW s as) σ H Q):BI K as σ H λvs a=>nO K s vs a Q E0:=by
 obtain⟨g,m,P,r,R,k,res,e,q⟩:=h;refine AK as r c e λds t i P1 vs a l w st n f=>?_;rw[s.eq]at l;refine jy l λp e1 e2=>?_;obtain⟨d,bs⟩:=p;cases c:Qe d with|false=>simp only[c,cond_false]at e2;cases e2|true=>simp only[c,cond_true]at e2;have fs:Step i P1 a (i.add P1) j4 a:=Step.freeze f.kA;refine⟨i.add P1,ds,j4,by rw[hs];exact SK (fs.zd f.zd) (n.fz f) (n.len.1.trans hn),d,bs,e1,λg' H' v Pv Pb s2 rv _ _=>?_⟩;have j:Dd a H':=λb o u=>s2.keep b o u λz=>z;exact q d t i P1 j4 v H' e2 w ((st.trans (Step.same j)).less λ_ z=>z.elim id C9) (KC rv c) (f.same j) λ_ _ z=>z
def fS(Γ:Gm):Gm:=Γ.map λx=>x.map λ_=>0
def XH(f:Ev Dv):Ev Dv:=λR m k=>f R m λd a=>bif Qe d then k d a else _n
end
end R
namespace L2
open PySem PySem.Spec PyProof.Rows
end L2
namespace L2
open PySem PySem.Spec PyProof.Rows PySem.Builtin PySem.Builtin.Str
end L2
namespace L2
open PySem PySem.Spec PyProof.Rows
def eh(H:Hp)(a:A6)(y:V)(r:Option V):Prop:=FL H a y r\/(r=_n/\H a=_s (.dK [])/\∃(k:List Az)(b:A6),y=.ref b/\H b=_s (.tup (k.map kV)))
def eg(H:Hp)(a:A6)(y v:V)(H':Hp):Prop:=Qc H a y v H'\/(H a=_s (.dK [])/\∃(k:List Az)(b:A6),y=.ref b/\H b=_s (.tup (k.map kV))/\H'=upd H a (.dT [(k,v)]))
section
variable{X:Cx}
def dv:R2:=λx y H Q=>∃a v,x=.ref a/\FL H a y (_s v)/\Q v H
theorem Zv(k:X.A.units+1 < O8):MV X dv:=by
 intro b slice pins s σ H x y v u Q I f e h hs;obtain⟨a,z,rfl,g,q⟩:=h;obtain rfl:v=D9 a:=f;have hT:=Hh I g;have h2:=Lz (Q:=EP X pins σ Q) (E:=X.xe) (A:=X.A) k I g e λm n l j=>⟨z,H,l,j,q⟩;unfold X9;refine A0 ?_;rw[getitemInPython_of_ne hT.not_modules];refine A0 (N6 hT PySem.F.slot_dict_getitem.lookup ?_);have c:B7 (C0 X.prog X.w) X.A (gF slice _f (.ref a) u) (λr d=>B7 (C0 X.prog X.w) X.A (letTemporaryGo b (.ref a) r >>= λ_=>pure r) (EP X pins σ Q) X.xe d) X.xe s:=by rw[hs];exact wpAny_operating (G1 h2 (λr d i=>A0 (wpAny_letTemporaryGo (A7 i))) λ_ _ x=>x)
 first
  |exact A7 (A0 c)
  |exact A0 (A7 (A0 c))
  |exact A0 c
theorem Hy.or{t t':MU}(h:Hy X t)(h':Hy X t'):Hy X (λo i v H Q=>t o i v H Q\/t' o i v H Q):=by
 intro pins s σ H o i v b c u Q I ro a rv q;rcases q with q|q
 exact h pins s σ H o i v b c u Q I ro a rv q;exact h' pins s σ H o i v b c u Q I ro a rv q
def UE:List V->Hp->VK->Prop:=λxs H Q=>∃a j8,xs=[V.ref a]/\H a=_s (.dK j8)/\Q (.int j8.length) H
theorem JL:BS X (.builtin "len") UE:=MI
end
def ff(H:Hp)(a:A6)(y:V)(r:Option V):Prop:=∃k b,y=.ref b/\Uy H k b/\((∃j8,H a=_s (.dN j8)/\r=Cv j8 k)\/H a=_s (.dK [])/\r=_n)
def fc(H:Hp)(a:A6)(y v:V)(H':Hp):Prop:=∃k b,y=.ref b/\Uy H k b/\((∃j8,H a=_s (.dN j8)/\j8.length < sizeLine/\H'=upd H a (.dN (HC j8 k v)))\/H a=_s (.dK [])/\H'=upd H a (.dN [(k,v)]))
end L2
namespace R
open PySem L2
def KF:Dv->Option Az
 |.int i=>_s (.inl i)
 |.str l=>_s (.inr (tx l))
 |_=>_n
def OR:List Dv->Option (List Az)
 |[]=>_s []
 |d::ds=>(KF d).bind λk=>(OR ds).bind λks=>_s (k::ks)
def cM:Dv->Option (List Az)
 |.tup ds=>OR ds
 |_=>_n
section
variable{κ:Type}[DecidableEq κ]
noncomputable def MC(k:κ):List κ->List Dv->Option Dv
 |j::ks,d::ds=>if j=k then _s d else MC k ks ds
 |_,_=>_n
noncomputable def XR(k:κ)(ks:List κ):List κ:=if ks.any (λj=>decide (j=k))=_t then ks else ks++[k]
noncomputable def MA(k:κ)(x:Dv):List κ->List Dv->List Dv
 |j::ks,d::ds=>(if j=k then x else d)::MA k x ks ds
 |_,_=>[]
def XQ(k:κ)(x:Dv)(ks:List κ)(ds:List Dv):List Dv:=if ks.any (λj=>decide (j=k))=_t then MA k x ks ds else ds++[x]
end
variable{o:Nat}{d:Dv}{v:V}{P:Fp}{ds:List Dv}
section
variable{K:W.Frag}{g:G}{H:Hp}{κ:Type}[DecidableEq κ]
theorem SM{k:Az}(h:Rep K g H o d v P)(e:KF d=_s k):v=kV k:=by
 cases d with|int i=>cases e;unfold Rep at h;exact h.1|str l=>cases e;unfold Rep at h;exact h.1|_=>cases e
theorem Hi{k:κ}:∀{ks:List κ}{ds:List Dv}{us:List V}{R:Fp}{d:Dv},AA K g H 0 ds us R->MC k ks ds=_s d->∃v,Cv (ks.zip us) k=_s v/\Rep K g H 0 d v j4
 |[],ds,us,R,d,_,e=>by cases ds<;>cases e
 |j::ks,[],us,R,d,_,e=>by cases e
 |j::ks,x::ds,us,R,d,h,e=>by unfold AA at h;obtain⟨v,r,P1,P2,rfl,h1,h2,_⟩:=h;unfold MC at e;split at e;rename_i c;cases e;exact⟨v,by rw[J3];exact DE c,h1.z⟩;rename_i c;obtain⟨w,e1,e2⟩:=Hi h2 e;exact⟨w,by rw[J3,DF c];exact e1,e2⟩
theorem MB{k:κ}:∀{ks:List κ}{ds:List Dv}{us:List V},ks.length=ds.length->ds.length=us.length->(Cv (ks.zip us) k).isSome=(MC k ks ds).isSome
 |[],[],_,_,_=>rfl
 |j::ks,d::ds,[],_,h=>by cases h
 |j::ks,d::ds,u::us,h1,h2=>by have a:=MB (k:=k) (ks:=ks) (ds:=ds) (us:=us) (by simpa using h1) (by simpa using h2);rw[J3];unfold MC;by_cases c:j=k;rw[DE (p:=(j,u)) c,if_pos c];rfl;rw[DF (p:=(j,u)) c,if_neg c];exact a
theorem aO{k:κ}{x:Dv}{w:V}{ks:List κ}{us:List V}{R:Fp}(e:ks.length=ds.length)(h:AA K g H 0 ds us R)(m:Rep K g H 0 x w j4) :
    ∃b,HC (ks.zip us) k w=(XR k ks).zip b/\AA K g H 0 (XQ k x ks ds) b j4/\(XR k ks).length=(XQ k x ks ds).length:=by
  have l:ks.length=us.length:=by rw[e,h.len]
  have any_eq:∀{ks:List κ}{us:List V},ks.length=us.length->((ks.zip us).any λf=>decide (f.1=k))=ks.any λj=>decide (j=k):=fun{ks us} h=>by
    induction ks generalizing us with
    |nil=>rfl
    |cons j ks i=>
      cases us with|nil=>cases h|cons u us=>rw[J3,Y2,Y2,i (by simpa using h)]
  unfold HC XR XQ;rw[any_eq l];by_cases c:(ks.any λj=>decide (j=k))=_t;rw[if_pos c,if_pos c,if_pos c];have:∀{ks:List κ}{ds:List Dv}{us:List V}{R:Fp},ks.length=ds.length->AA K g H 0 ds us R->∃b,((ks.zip us).map λf=>if f.1=k then(f.1,w)else f)=ks.zip b/\AA K g H 0 (MA k x ks ds) b j4/\ks.length=(MA k x ks ds).length:=fun{ks ds us R} e h=>by
    induction ks generalizing ds us R with
    |nil=>exact⟨[],by simp,by cases ds<;>exact AA.nil,by cases ds<;>rfl⟩
    |cons j ks i=>
      cases ds with|nil=>cases e|cons d ds=>unfold AA at h;obtain⟨v,r,P1,P2,rfl,h1,h2,_⟩:=h;obtain⟨b,e1,e2,e3⟩:=i (by simpa using e) h2;refine⟨(if j=k then w else v)::b,?_,?_,by simp[MA];omega⟩;rw[J3,F3,J3,e1];by_cases q:j=k<;>simp[q];unfold MA;refine((AA.cons (P1:=j4) (P2:=j4) ?_ e2 (λ_ z=>z.elim)).iff λa=>⟨λz=>z.elim,λz=>z.elim id id⟩);by_cases q:j=k;rw[if_pos q,if_pos q];exact m;rw[if_neg q,if_neg q];exact h1.z
  exact this e h;rw[if_neg c,if_neg c,if_neg c];refine⟨us++[w],?_,?_,by simp[e]⟩;rw[List.zip_append l];rfl;exact(AA.app (P:=j4) (Q:=j4) h.z ((AA.cons (P1:=j4) (P2:=j4) m AA.nil λ_ z=>z.elim).iff λa=>⟨λz=>z.elim,λz=>z.elim id id⟩) λ_ z=>z.elim).iff λa=>⟨λz=>z.elim,λz=>z.elim id id⟩
theorem XO{ks:List Az}(h:Rep K g H o (.mC ks ds) v P):∃a us,v=.ref a/\H a=_s (.dK (ks.zip us))/\ks.length=ds.length/\AA K g H 0 ds us j4:=by unfold Rep at h;obtain⟨a,us,e,h1,_,_,⟨h5,R,h6⟩,_⟩:=h;exact⟨a,us,e,h1,h5,h6.z⟩
def UR:List Dv->Option (NK Az)
 |[]=>_s []
 |d::ds=>((KF d).map Sum.inl |>.or ((cM d).map Sum.inr)).bind λk=>(UR ds).bind λks=>_s (k::ks)
def fQ:Dv->Option (NK Az)
 |.tup ds=>UR ds
 |_=>_n
end
noncomputable abbrev Mu:=Dv->List Dv->Option (Dv×Dv)
def YE(K:W.Frag)(p:Mu)(R:V->List V->Hp->VK->Prop):Prop:=∀g H x v P ds us r y Q,Zd g H->Rep K g H 1 x v P->AA K g H 0 ds us j4->p x ds=_s (r,y) ->
 (∀w H' P',Step g P H g P' H'->Rep K g H' 1 y v P'->Rep K g H' 0 r w j4->Q w H')->R v us H Q
noncomputable def kind:Dv->String
 |.lst _=> "list"
 |.k8 _=> "list"
 |.str _=> "str"
 |.int _=> "int"
 |.mC _ _=> "dict"
 |.nW _ _=> "dict"
 |.oo _ _=> "dict"
 |.tup _=> "tuple"
 |_=> "?"
def SR{a:Type}(T:String)(d:Dv)(o:Option a):Option a:=if kind d=T then o else _n
variable{T:String}
theorem Ei{b:Type}{o:Option b}{a:b}(h:SR T d o=_s a):kind d=T/\o=_s a:=by unfold SR at h;split at h;rename_i z;exact⟨z,h⟩;cases h
def On(T:String)(i:Nat)(p:Mu)(b:Ev (List Dv)):Ev Dv:=λR m k=>SR T (m.at i) (b R m λds a=>(p (a.at i) ds).bind λr=>k r.1 (a.set i r.2))
variable{vs:List V}
section
variable{K:W.Frag}{g:G}{H:Hp}{σ:St}{Γ Γ':Gm}{js:List Nat}{as:List Ar}
theorem IJ(h:Rep K g H o d v P)(e:kind d=T)(hT:T = "list" \/ T = "str" \/ T = "int" \/ T = "dict"):bK K T v H:=by
 subst e;cases d with
 |lst ds=>unfold Rep at h;obtain⟨a,vs,P',rfl,h1,_⟩:=h;exact .inl ⟨rfl,vs,.inl (.inl h1.1)⟩
 |k8 ns=>unfold Rep at h;obtain⟨⟨a,rfl,h1⟩,_⟩:=h;exact .inl ⟨rfl,_,h1.sq⟩
 |str l=>unfold Rep at h;rw[h.1];rfl
 |int i=>unfold Rep at h;rw[h.1];rfl
 |nW ks l=>unfold Rep at h;obtain⟨a,vs,rfl,h1,_⟩:=h;exact .inr (.inr (.inl ⟨rfl,.inr (.inr ⟨_,h1⟩)⟩))
 |oo ks l=>unfold Rep at h;obtain⟨a,vs,P',rfl,h1,_⟩:=h;exact .inr (.inr (.inl ⟨rfl,.inl ⟨_,h1⟩⟩))
 |mC ks l=>unfold Rep at h;obtain⟨a,vs,rfl,h1,_⟩:=h;exact .inr (.inr (.inl ⟨rfl,.inl ⟨_,h1⟩⟩))
 |_=>rcases hT with h|h|h|h<;>simp[kind]at h
theorem SG{i:Nat}{p:Mu}{R:V->List V->Hp->VK->Prop}(M:YE K p R)(hT:T = "list" \/ T = "str" \/ T = "int" \/ T = "dict")(c:AE Γ as Γ' js)(L:IE as=_t)(h0:∃o,Γ[i]?=_s (_s o))(hi:Γ'[i]?=_s (_s 1)){Q:VK}
    (h:tE K Γ 0 Γ' (js++[i]) (On T i p (AN as)) σ H Q):Yz K T R (Bf i) (BI K as) σ H Q:=by
  obtain⟨g,m,P,r,R',k,res,e,q⟩:=h;obtain⟨O,e⟩:=Ei e;obtain⟨o0,h0⟩:=h0;obtain⟨f,P0,b,C,_⟩:=r.nC h0;refine⟨f,b,IJ C O hT,AK as r c e λds m1 x P1 vs H1 J U s S u=>?_⟩;refine jy J λB e1 e2=>?_;obtain⟨j,y⟩:=B;obtain⟨v,X,Pr,ev,em,rv,t,n,N⟩:=u.take hi;rw[b]at ev;cases ev;refine M x H1 _ f X ds vs j y Q u.zd rv (S.mL L) e1 λw Z P' s2 D E=>?_;have F:=t.held s2 rv.kA λa q z=>n a z q;have I:=s2.out t.kA λa q z=>n a z q;have A:i < Γ'.length:=(A9.mp hi).1;obtain⟨Y,l,sp⟩:=F.putIn A b D λa q z=>I a z q;rw[CB hi]at l;refine q j _ x Y j4 w Z e2 (U.trans BA.set) (s.trans ((s2.frame (R:=Pr)).sub (λa z=>(N a).mpr z) λa z=>z.elim (λz=>sp a z) C9)) E l λ_ _ z=>z
theorem Step.upd{a:A6}{o u:HO}{P':Fp}(h:H a=_s u)(i:∀C dx fs,u≠.ins C dx fs)(hs:∀b,P' b->b=a\/H b=_n):Step g (λb=>b=a) H g P' (upd H a o):=by
 have f:∀b,L2.upd H a o b=_n->H b=none:=λb q=>by by_cases c:b=a;subst c;rw[AF]at q;cases q;rw[AC c]at q;exact q
 exact⟨λb u q n=>by rw[AC n];exact q,f,λ_ q=>q,λ_ q=>.inl q,⟨[],by simp⟩,hs,λz b q e=>z b q (f b e),Jc h i⟩
inductive OwL (K:W.Frag) (g:G) (H:Hp) (xs:List Dv) (v:V) (P:Fp):Prop
 | mk (a:A6) (vs:List V) (e:v=.ref a) (b:H a=_s (.lst vs)) (c:¬g.Z a) (d:AA K g H 0 xs vs j4) (f:∀b,P b↔b=a)
  (h:∀ws,Step g P H g P (upd H a (.lst ws))/\(∀{d:Dv}{u:V},Rep K g H 0 d u j4->Rep K g (upd H a (.lst ws)) 0 d u j4)/\∀ys,AA K g H 0 ys ws j4->Rep K g (upd H a (.lst ws)) 1 (.lst ys) (.ref a) P)
theorem KA{xs:List Dv}(h:Rep K g H 1 (.lst xs) v P):OwL K g H xs v P:=by
 unfold Rep at h;obtain⟨a,vs,P',rfl,h1,h2,h3,h5⟩:=h;have e:∀b,P b↔b=a:=λb=>by rw[h5 b];exact⟨λz=>z.elim (λz=>z.2) λz=>(h2.kW b z).elim,λz=>.inl ⟨by decide,z⟩⟩
 have i:P=λb=>b=a:=funext λb=>propext (e b);have c:=h1.2.2 `d;have f:kF g H λb=>b=a:=λb q=>by subst q;exact⟨by rw[h1.1];trivial,c⟩
 refine⟨a,vs,rfl,h1.1,c,h2.z,e,λws=>?_⟩;have st:Step g (λb=>b=a) H g (λb=>b=a) (upd H a (.lst ws)):=Step.upd h1.1 (λ_ _ _ z=>by cases z) λb z=>.inl z;refine⟨by rw[i];exact st,λr=>r.held st f λ_ z=>z.elim,λys r=>?_⟩;unfold Rep;exact⟨a,ws,j4,rfl,⟨AF,(λz=>by cases z),λ_=>c⟩,r.held st f λ_ z=>z.elim,λz=>z,λb=>by rw[e b];exact⟨λz=>.inl ⟨by decide,z⟩,λz=>z.elim (λz=>z.2) C9⟩⟩
theorem CN:∀{ds:List Dv}{vs:List V},AA K g H 0 ds vs j4↔ds.length=vs.length/\∀(i:Nat)(d:Dv)(v:V),ds[i]?=_s d->vs[i]?=_s v->Rep K g H 0 d v j4
 |[],vs=>⟨λh=>⟨h.len,λi d v e=>by simp at e⟩,λh=>by have:vs=[]:=I9 h.1.symm;subst this;exact AA.nil⟩
 |x::xs,vs=>by
  refine⟨λh=>⟨h.len,λi d v e1 e2=>?_⟩,λh=>?_⟩;obtain⟨c,P,b,r,_⟩:=h.get e1;rw[e2]at b;cases b;exact r.z;cases vs with|nil=>simp at h|cons v vs=>exact(AA.cons (h.2 0 x v rfl rfl) (CN.mpr ⟨by simpa using h.1,λi d u e1 e2=>h.2 (i+1) d u (by simpa using e1) (by simpa using e2)⟩) λ_ z=>z.elim).iff λa=>⟨λz=>z.elim,λz=>z.elim id id⟩
theorem Dm{es:List Dv}{us:List V}(h:AA K g H 0 ds vs j4)(k:AA K g H 0 es us j4):AA K g H 0 (ds++es) (vs++us) j4:=(AA.app h k λ_ z=>z.elim).iff λa=>⟨λz=>z.elim,λz=>z.elim id id⟩
theorem LM(h:Rep K g H 0 d v j4):AA K g H 0 [d] [v] j4:=(AA.cons h AA.nil λ_ z=>z.elim).iff λa=>⟨λz=>z.elim,λz=>z.elim id id⟩
theorem CM(h:AA K g H 0 (d::ds) vs j4):∃v us,vs=v::us/\Rep K g H 0 d v j4/\AA K g H 0 ds us j4:=by unfold AA at h;obtain⟨v,r,P1,P2,rfl,h1,h2,_⟩:=h;exact⟨v,r,rfl,h1.z,h2.z⟩
theorem Ce(h:AA K g H 0 [] vs j4):vs=[]:=by unfold AA at h;exact h.1
theorem LL(j:Nat)(h:AA K g H 0 ds vs j4)(r:Rep K g H 0 d v j4):AA K g H 0 (ds.set j d) (vs.set j v) j4:=by
 have h0:=CN.mp h;refine CN.mpr ⟨by simp[h0.1],λi x y e1 e2=>?_⟩;rcases Cb e1 with⟨rfl,rfl⟩|⟨n,e1⟩
 rcases Cb e2 with⟨_,rfl⟩|⟨n,_⟩
 exact r;exact(n rfl).elim;rcases Cb e2 with⟨z,_⟩|⟨_,e2⟩
 exact(n z).elim;exact h0.2 i x y e1 e2
theorem FU:Rep K g H o .kB .kB j4:=by unfold Rep;exact⟨rfl,λ_ z=>z⟩
noncomputable def Cm(x:Dv)(ds:List Dv):Option (Dv×Dv):=match x,ds with
 |.lst xs,[d]=>if xs.length<=1000000 then _s (.kB,.lst (xs++[d]))else _n
 |_,_=>_n
theorem Lc:YE K Cm Jm:=λg H x v P ds us r y Q zd c f e k=>by unfold Cm at e;split at e;rename_i xs d;split at e;rename_i i;cases e;obtain⟨a,vs,rfl,ha,l,b,m,go⟩:=KA c;obtain⟨u,j,rfl,h,h2⟩:=CM f;cases Ce h2;obtain⟨s,hd,mk⟩:=go (vs++[u]);exact⟨a,vs,u,rfl,rfl,ha,W6 (by rw[<- b.len];exact i) `d,k _ _ P s (mk _ (Dm b (LM h))) FU⟩;cases e;cases e
end
def UZ(i:Nat)(p:Dv->Dv->Dv->Option Dv)(f:Ev Dv)(c:Ev (List Dv)):Es:=λR m k=>f R m λd b=>c R b λks a=>match ks with|[j]=>(p (a.at i) j d).bind λy=>k.nx (a.set i y)|_=>_n
def Bt(x k d:Dv):Option Dv:=match x,k with
 |.lst xs,.int k=>(OT xs.length k).bind λj=>_s (.lst (xs.set j d))
 |_,_=>_n
def YC(K:W.Frag)(p:Dv->Dv->Dv->Option Dv)(T:MU):Prop:=∀g H x v P j a d u y (Q:Hp->Prop),Zd g H->Rep K g H 1 x v P->RA K g H [j] [a]->Rep K g H 0 d u j4->p x j d=_s y->(∀H' P',Step g P H g P' H'->Rep K g H' 1 y v P'->Q H')->T v a u H Q
theorem Vg{K:W.Frag}:YC K Bt NX:=λg H x v P j p d u y Q zd f b h e q=>by unfold Bt at e;split at e;rename_i xs k;obtain⟨jj,m,e⟩:=kb e;cases e;obtain⟨a,vs,rfl,ha,r,c,t,go⟩:=KA f;unfold RA at b;obtain⟨w,n,o,z,l,_,i,_⟩:=b;cases l;rw[AV i];obtain⟨s,hd,mk⟩:=go (vs.set jj u);exact⟨a,vs,k,jj,rfl,rfl,ha,by rw[<- c.len];exact m,q _ P s (mk _ (LL jj c h))⟩;cases e
section
variable{K:W.Frag}{F:Fr}{j6:Option Gm}{Γ kR Γ':Gm}{js js2:List Nat}{i:Nat}{f:Ev Dv}{a:Ar}{p:Dv->Dv->Dv->Option Dv}{T:MU}
theorem NN(hp:YC K p T)(c:AE kR [a] Γ' js2)(h0:∃o,kR[i]?=_s (_s o))(hi:Γ'[i]?=_s (_s 1)){D:Ends}{σ:St}{H:Hp}(h:tS K F j6 Γ (_s Γ') (js++(js2++[i])) (UZ i p f (AN [a])) D σ H):Gj (tE K Γ 0 kR js f) (aE (Bf i) (Ms K a) T) D σ H:=by
 obtain⟨g,m,P,r,R,k,res,e,q⟩:=h;refine⟨g,m,P,r,R,_,res,e,λd m1 g1 P1 Pv u l hk ag s rv G n=>?_⟩;obtain⟨o0,h0⟩:=h0;obtain⟨A,P0,I,_,_⟩:=G.nC h0;refine⟨A,I,?_⟩;have rz:=rv.z;have s':Step g P H g1 P1 l:=s.less λ_ z=>.inl z;have L:BI K [a] σ l λvs b=>∃w,vs=[w]/\T A w u b λO=>D.nx σ O:=by
  refine AK [a] G c hk λds m2 Y P2 vs b J mj s2 Z E=>?_;have al:=Z.len;have ra:=Z.ra E
  match ds,al.1,J,ra with
  |[j],_,J,ra=>have yz:=ra;unfold RA at ra;obtain⟨w,wr,o,Po,rfl,_,h1,h2⟩:=ra;unfold RA at h2;subst h2;refine jy J λy e1 e2=>?_;obtain⟨v,Pa,Pr,ev,em,Q,U,X,hP⟩:=E.take hi;rw[I]at ev;cases ev;refine⟨w,rfl,hp Y b _ A Pa j w d u y _ E.zd Q yz (rz.held s2 G.kA λ_ z=>z.elim) e1 λO P' B ry=>?_⟩;have r4:=U.held B Q.kA λa q z=>X a z q;have n4:=B.out U.kA λa q z=>X a z q;obtain⟨P5,S,sp⟩:=r4.putIn (A9.mp hi).1 I ry λa q z=>n4 a z q;rw[CB hi]at S;exact q.nx Γ' _ Y P5 σ O rfl e2 (ag.trans (mj.trans BA.set)) ((s'.trans s2).trans ((B.frame (R:=Pr)).sub (λa z=>(hP a).mpr z) λa z=>sp a z)) Io.refl S
 have mono:∀(N M:VK),(∀v H,N v H->M v H)->Ms K a σ l N->Ms K a σ l M:=by
  intro N M x t;cases a with|ev uf ue ja fa=>obtain⟨g,m,P,r,R,k,res,e,q⟩:=t;exact⟨g,m,P,r,R,k,res,e,λd m' g' P' Pv v H' h1 h2 h3 h4 h5 h6=>x _ _ (q d m' g' P' Pv v H' h1 h2 h3 h4 h5 h6)⟩|rf i=>obtain⟨v,e,q⟩:=t;exact⟨v,e,x _ _ q⟩|fd i f=>obtain⟨v,e,a,C,dx,fs,w,h1,h2,h3,h4,h5,q⟩:=t;exact⟨v,e,a,C,dx,fs,w,h1,h2,h3,h4,h5,x _ _ q⟩
 refine mono _ _ (λv b z=>?_) L;obtain⟨w,ew,z⟩:=z;cases ew;exact z
end
def XG(T:String)(a:Ar)(as:List Ar)(p:Pr):Ev Dv:=match a with
 |.rf i=>λR m k=>SR T (m.at i) (AN as R m λds b=>(p (b.at i::ds)).bind λd=>k d b)
 |.ev _ _ _ f=>λR m k=>f R m λx b=>SR T x (AN as R b λds c=>(p (x::ds)).bind λd=>k d c)
 |.fd _ _=>λ_ _ _=>_n
def bY(r:V->List V->Hp->VK->Prop):JV:=λvs H Q=>match vs with|x::us=>r x us H Q|_=>False
theorem We{K:W.Frag}{σ:St}{H:Hp}{Γ Γ':Gm}{js:List Nat}{a:Ar}{as:List Ar}{p:Pr}{r:V->List V->Hp->VK->Prop}(J:AR K p o (bY r))(hT:T = "list" \/ T = "str" \/ T = "int" \/ T = "dict")(c:AE Γ (a::as) Γ' js){Q:VK}
    (h:tE K Γ o Γ' js (XG T a as p) σ H Q):Yz K T r (Ms K a) (BI K as) σ H Q:=by
  obtain⟨g,m,P,w,R',k,res,e,q⟩:=h;cases a with|fd i f=>cases e|rf i=>obtain⟨y,e⟩:=Ei e;unfold AE at c;obtain⟨⟨o0,h0⟩,⟨U,S,h1⟩,c⟩:=c;obtain⟨j,P0,G,N,_⟩:=w.nC h0;refine⟨j,G,IJ N y hT,AK as w c e λds I u P1 vs D t B s A b=>?_⟩;refine jy t λd e1 e2=>?_;obtain⟨v1,nY,E,M,_⟩:=b.nC h1;rw[G]at E;cases E;refine J u D _ (j::vs) d Q b.zd (by unfold RA;exact⟨j,vs,U,nY,rfl,S,M,A.ra b⟩) e1 λv C nw=>?_;obtain⟨Pv,s2,h1,l,Y⟩:=Ak.go s b nw;exact q d I u P1 Pv v C e2 B s2 h1 l Y|ev kR kN vM f=>unfold AE at c;obtain⟨rfl,js2,rfl,c⟩:=c;refine⟨g,m,P,w,R',_,res,e,λx I u P1 Pv j D t B s rv b n=>?_⟩;obtain⟨y,t⟩:=Ei t;have F:=rv.z;have s':Step g P H u P1 D:=s.less λ_ z=>.inl z;refine⟨IJ F y hT,AK as b c t λds m2 L P2 vs C mN Z s2 A l=>?_⟩;refine jy mN λd e1 e2=>?_;refine J L C _ (j::vs) d Q l.zd (by unfold RA;exact⟨j,vs,0,j4,rfl,by decide,F.held s2 b.kA λ_ z=>z.elim,A.ra l⟩) e1 λv H3 nw=>?_;obtain⟨Pw,O,h1,R,X⟩:=Ak.go (s'.trans s2) l nw;exact q d m2 L P2 Pw v H3 e2 (B.trans Z) O h1 R X
def XF(f g:Ev Dv):Ev Dv:=λR m k=>(f R m k).or (g R m k)
theorem VW{K:W.Frag}{Γ Γ':Gm}{js:List Nat}{σ:St}{H:Hp}{f g:Ev Dv}{Q:VK}(h:tE K Γ o Γ' js (XF f g) σ H Q):tE K Γ o Γ' js f σ H Q\/tE K Γ o Γ' js g σ H Q:=by
 obtain⟨a,m,P,r,R,k,res,e,q⟩:=h;unfold XF at e;cases e1:f R m k with|some z=>rw[e1]at e;exact .inl ⟨a,m,P,r,R,k,z,e1,by cases e;exact q⟩|none=>rw[e1]at e;exact .inr ⟨a,m,P,r,R,k,res,e,q⟩
end R
namespace L2
open PySem PySem.Spec PyProof.Rows
def ZY:V->List V->Hp->VK->Prop:=λx vs H Q=>∃a y z,x=.ref a/\vs=[y,z]/\((∃o,FL H a y o/\Q (o.getD z) H)\/∃j8 k b,y=.ref b/\Uy H k b/\H a=_s (.dN j8)/\Q ((Cv j8 k).getD z) H)
structure ZPs (K:W.Frag) (H:Hp) (l1 l2:Sq) (ps:List (NK Az×V)) (xs ys:List V):Prop where
 h1:bA K H l1.1 xs l1.2
 h2:bA K H l2.1 ys l2.2
 n:ps.length=min xs.length ys.length
 p:∀(i:Nat) q,ps[i]?=_s q->∃b,xs[i]?=_s (.ref b)/\Uy H q.1 b/\ys[i]?=_s q.2
def fL(K:W.Frag):List V->Hp->VK->Prop:=λvs H Q=>∃(l1 l2:Sq)(xs ys:List V)(ps:List (NK Az×V)),vs=[.ref l1.1,.ref l2.1]/\ZPs K H l1 l2 ps xs ys/\ps.length<=sizeLine/\∀d,H d=_n->Q (.ref d) (upd H d (.dN (Vv [] ps)))
end L2
namespace R
open PySem L2
section
variable{K:W.Frag}{g:G}{H:Hp}
def Uv(K:W.Frag)(p:Pr)(o:Nat)(R:JV):Prop:=∀g H ds vs d Q,Zd g H->AA K g H 0 ds vs j4->p ds=_s d->(∀v H',Ak K g H o d v H'->Q v H')->R vs H Q
end
end R
namespace L2
open PySem PySem.Spec PyProof.Rows
def fD(K:W.Frag):V->Hp->VK->Prop:=λv H Q=>∃(p:A6)(ns:List Int),v=.ref p/\(Bv K H p (ns.map V.int)\/DC K H p (ns.map V.int))/\ns.length < 64/\∀(l:A6)(a:List Int),H l=_n->a.Perm (ns.foldl step_dedup [])->a.Pairwise (·<=·)->Q (.ref l) (upd H l (.lst (a.map V.int)))
def fj(a H:Hp)(S:A6)(xs:List V)(ps:List A6):Prop:=
 (∀c u,a c=_s u->H c=_s u)/\H S=_s (.lst (ps.map V.ref))/\∀(j:Nat) p,ps[j]?=_s p->p≠S/\∃y,xs[j]?=_s y/\H p=_s (.tup [.int j,y])
def fK(K:W.Frag):V->Hp->VK->Prop:=λv H Q=>∃(a:A6)(xs:List V)(b:Bool),v=.ref a/\bA K H a xs b/\xs.length<=sizeLine/\∀(l:A6)(ps:List A6)(H':Hp),H l=_n->fj H H' l xs ps->ps.length=xs.length->Q (.ref l) H'
end L2
namespace R
open PySem L2
end R
namespace L2
open PySem PySem.Spec PyProof.Rows
open AutoSeq1 (wpAny_loadPart')
section
variable{X:Cx}{p1 p2 r8 kQ:Pos}{es:List Expr}{e:Expr}{ta:TA}
abbrev RB(ta:TA):TE:=λσ H Q=>ta σ H λvs a=>∃(i j:Int),(vs=[.int j]/\i=0\/vs=[.int i,.int j])/\(-(2 ^ 62)<=i/\i < 2 ^ 62/\-(2 ^ 62)<=j/\j < 2 ^ 62)/\(j-i).toNat<=1000000/\∀l,a l=_n->Q (.ref l) (upd a l (.tup ((D0 (j-i).toNat).map λk=>.int (i+(k:Nat)))))
end
end L2
namespace L2
open PySem PySem.Spec PyProof.Rows
section
variable{X:Cx}{a e:Expr}{ta te:TE}{p pos kp:Pos}
def fF(K:W.Frag)(x y:V)(H:Hp)(Q:VK):Prop:=∃(l:A6)(ns:List Int)(d:Int),x=.ref l/\y=.int d/\Bv K H l (ns.map V.int)/\∀M,(ns=[]/\M=d\/M∈ns/\∀a,a∈ns->a<=M)->Q (.int M) H
end
end L2
namespace R
open PySem L2
def Gx(X:Cx):Prop:=X.calm=_t/\∃j,kG j X.A
noncomputable def two{c:Type}(f:Dv->Dv->Option c)(ds:List Dv):Option c:=match ds with|[a,b]=>f a b|_=>_n
noncomputable def one{b:Type}(f:Dv->Option b)(ds:List Dv):Option b:=match ds with|[a]=>f a|_=>_n
noncomputable def noStar:Expr->Bool
 |.Starred _ _=>_f
 |_=>_t
structure w9 where
 op:gD
 f:Dv->Dv->Option Dv
 ok:∀X,Gx X->∃r,Cs X (binaryOp op) r/\AR X.K (two f) 1 (Kw r)
structure w8 where
 op:i8
 f:Dv->Dv->Option Bool
 ok:∀X,Gx X->∃r,Cs X (N1 op) r/\AR X.K (λds=>(two f ds).map .bl) 0 (Kw r)
structure o5 where
 x:Str
 n:Nat
 o:Nat
 f:List Dv->Option Dv
 ok:∀X,Gx X->∃r,AR X.K f o r/\((∃id,BS X (.builtin id) r/\M5 x=_s (.builtin id))\/∃T,BS X (.type T) r/\M5 x=_s (.type T))
abbrev dw(T:String):Prop:=T = "list" \/ T = "str" \/ T = "int" \/ T = "dict"
structure nM where
 x:Str
 n:Nat
 T:String
 o:Nat
 f:List Dv->Option Dv
 hT:dw T
 ok:∀X,Gx X->∃id r,gk T/\Slot T x id/\jG (.builtin id)=pure (.type "method_descriptor")/\bW X id r/\AR X.K f o (bY r)
structure ou where
 x:Str
 n:Nat
 T:String
 p:Mu
 hT:dw T
 ok:∀X,Gx X->∃id r,gk T/\Slot T x id/\jG (.builtin id)=pure (.type "method_descriptor")/\bW X id r/\YE X.K p r
noncomputable def Iu:Expr->Bool
 |.Tuple _ _ _=>_t
 |_=>_f
structure tu where
 x:Str
 n:Nat
 tt:Bool
 f:List Dv->Option (List Dv)
 ok:∀X,Gx X->∃r,YB X.K f r/\∀tg es p pos ta,(tt=_t->Iu tg=_t)->es.length=n->es.all noStar=_t->Gl X x->X.mg x=_n->PA X es ta->PI X tg (.Call (.Name x p) es [] pos) (UV r ta)
def fJ:JV:=λvs a Q=>Mr (λ_ H R=>R vs H) [] a Q
def fC:JV:=λvs a Q=>RB (λ_ H R=>R vs H) [] a Q
def du(K:W.Frag):R2:=λx y c Q=>∃a xs b,x=.ref a/\y=.int (-1)/\bA K c a xs b/\∀p,c p=_n->Q (.ref p) (upd c p (bif b then .tup xs.reverse else .lst xs.reverse))
def fH(K:W.Frag):V->Hp->VK->Prop:=λv b Q=>∃a xs,v=.ref a/\Bv K b a xs/\∀l,b l=_n->Q (.ref l) (upd b l (.lst xs.reverse))
structure Tb where
 tj:List w9
 nX:List w8
 calls:List o5
 meths:List nM
 sG:List ou
 rZ:List tu
 ix:Dv->Dv->Option Dv
 sM:∀X,Gx X->∃r,MV X r/\AR X.K (two ix) 0 (Kw r)
 sl:Dv->Option Int->Option Int->Option Dv
 rh:∀X,Gx X->∃r,Ma X r/\∀lo hi,AR X.K (one λd=>sl d lo hi) 1 (YF λx H Q=>r x lo hi H Q)
 uB:Dv->Option Bool
 rR:∀K g H o d v P b,Rep K g H o d v P->uB d=_s b->QZ K v H b
 lr:List Dv->Option Dv
 vB:∀X,Gx X->AR X.K lr 1 fJ
 tr:List Dv->Option Dv
 rQ:∀X,Gx X->AR X.K tr 1 fC
 md:Dv->Dv->Option Dv
 u9:∀X,Gx X->AR X.K (two md) 1 (Kw (fF X.K))
 rv:Dv->Dv->Option Dv
 rn:∀X,Gx X->AR X.K (two rv) 1 (Kw (du X.K))
 lv:Dv->Option Dv
 vA:∀X,Gx X->AR X.K (one lv) 1 (YF (fH X.K))
 ss:Dv->Option Dv
 uu:∀X,Gx X->AR X.K (one ss) 1 (YF (fD X.K))
 le:Dv->Option Dv
 vE:∀X,Gx X->AR X.K (one le) 1 (YF (fK X.K))
 gt:List Dv->Option Dv
 wA:∀X,Gx X->Uv X.K gt 0 (bY ZY)
 dz:List Dv->Option Dv
 wJ:∀X,Gx X->Uv X.K dz 1 (fL X.K)
 st:Dv->Dv->Dv->Option Dv
 rX:∀X,Gx X->∃T,Hy X T/\YC X.K st T
structure Cf:Type 1 where
 N:List Str
 sc:G9
 fn:Str->Bool
 fs:List (Str×kd)
 cs:List (Str×Dv)
 bl:List Str
 T:Tb
 F:Fr
 fl:List Str
 rf:List Str
def Fz(P:D4)(w:E8)(K:W.Frag)(mg:Str->Option A3)(base:F1)(fl:List Str)(j:Nat)(x:Str)(s:kd):Prop:=match s.cl with
 |none=>Fx P w K mg base j x s.ps (nO K s)
 |some c=>∃a f fd,a+1<=j/\kL P w K mg base Dz a f fd s.ps (nO K s)/\Binds K fd s.ps []/\Meth K (AJ K c) x f/\bH K c fl/\mg c=_s (.ref (AJ K c))/\(x = "__init__" -> Mk K (AJ K c) f)
noncomputable abbrev Xs:=List (Str×Str)
def BB:Xs:=[("BadText", "at"),("Twice", "name"),("NoName", "name"),("WrongCount", "name"),("NoWorld", "word"),("TooLong", "most"),("TooMany", "most")]
def Xk(P:D4)(w:E8)(K:W.Frag)(mg:Str->Option A3)(base:F1)(a:Xs):Prop:=∀c f,(c,f)∈a->∃fI fd ps,XC.tq K (AJ K c) f fI/\kL P w K mg base Dz 1 fI fd ps (XC.lL (AJ K c) f)/\ps.length=2/\mg c=_s (.ref (AJ K c))/\L2.Binds K fd ps []
structure j9 (C:Cf) (X:Cx):Prop where
 N:X.N=C.N
 sc:X.env.scope=C.sc
 nd:X.N.Nodup
 calm:X.calm=_t
 fn:∀x,C.fn x=_t->X.fn x=_t
 room:Gx X
 fs:∀x s,(x,s)∈C.fs->s.io.Nodup/\(∀i∈s.io,i < s.ps.length)/\∃j k,j<=k/\kG k X.A/\Fz X.prog X.w X.K X.mg X.base C.fl j x s
 cs:∀x d,(x,d)∈C.cs->∃v u,X.mg x=_s u/\RelV v u/\∀g H,Rep X.K g H 0 d v j4
 bl:∀x∈C.bl,X.mg x=_n
 xe:X.xe=λ_ _=>False
 xc:(∃j,2<=j/\kG j X.A)/\Xk X.prog X.w X.K X.mg X.base BB
variable{C:Cf}{X:Cx}{x:Str}{s:kd}
theorem j9.fx(ok:j9 C X)(h:(x,s)∈C.fs/\s.cl=_n):s.io.Nodup/\(∀i∈s.io,i < s.ps.length)/\∃j k,j<=k/\kG k X.A/\Fx X.prog X.w X.K X.mg X.base j x s.ps (nO X.K s):=by obtain⟨a,b,j,k,d,c,F⟩:=ok.fs x s h.1;unfold Fz at F;rw[h.2]at F;exact⟨a,b,j,k,d,c,F⟩
noncomputable def BP:List Str->Str->Option Nat
 |[],_=>_n
 |y::r,x=>if y==x then _s 0 else(BP r x).map (·+1)
theorem Af:∀{N:List Str}{x:Str}{i:Nat},BP N x=_s i->N[i]?=_s x
 |[],_,_,h=>by cases h
 |y::r,x,i,h=>by
  unfold BP at h;split at h;rename_i e;cases h;rw[beq_iff_eq.mp e];rfl;cases q:BP r x with|none=>rw[q]at h;cases h|some j=>rw[q]at h;cases h;simpa using Af q
noncomputable def OW(sc:G9)(x:Str):Bool:=match sc.names.lookup x with
 |some .local=>_t
 |some .cell=>_t
 |some .free=>_t
 |_=>_f
noncomputable def Cy(sc:G9)(x:Str):Bool:=match sc.names.lookup x with
 |some .globalImplicit=>_t
 |_=>_f
noncomputable def Cp(x:Str):Bool:=!(x==("__debug__" : Str))&&!(x==("__classdict__" : Str))&&!(x==("__name__" : Str))
def lv(C:Cf)(x:Str):Option Nat:=if OW C.sc x&&Cp x then BP C.N x else _n
def Ip(C:Cf)(e:Expr):Option Nat:=match e with
 |.Name x _=>lv C x
 |_=>_n
theorem AS(h:Cp x=_t):(x==("__debug__" : Str))=_f/\(x==("__classdict__" : Str))=_f/\x ≠ "__name__" := by unfold Cp at h;simp only[A1,G5]at h;exact⟨h.1.1,h.1.2,λz=>by rw[z]at h;simp at h⟩
theorem Fg{sc:G9}(h:OW sc x=_t):az sc x:=by unfold OW at h;unfold az;split at h;rename_i e;exact .inl e;rename_i e;exact .inr (.inl e);rename_i e;exact .inr (.inr e);cases h
theorem BM(ok:j9 C X)(h:Cy C.sc x=_t):Gl X x:=by unfold Cy at h;unfold Gl jJ;rw[ok.sc];split at h;rename_i e;exact e;cases h
variable{i:Nat}{pos:Pos}
theorem UQ(ok:j9 C X)(h:lv C x=_s i):PE X (.Name x pos) (Bf i):=by unfold lv at h;split at h;rename_i e;rw[A1]at e;have n:=AS e.2;exact EZ (by rw[ok.N];exact Af h) (by rw[ok.sc];exact Fg e.1) n.1 n.2.1;cases h
variable{e:Expr}
theorem Bp(ok:j9 C X)(h:Ip C e=_s i):PE X e (Bf i):=by
 cases e with|Name x pos=>exact UQ ok h|_=>cases h
def Qg(C:Cf)(e:Expr):Option (Nat×Str):=match e with
 |.Attribute o f _=>if C.rf.contains f then(Ip C o).map λi=>(i,f)else _n
 |_=>_n
variable{o:Expr}{env:Env}
theorem Em{f:Str}(h:Ip C o=_s i):L0 o f env (L7 o env)=L7 o env:=by cases o<;>first|rfl|(cases h)
theorem JG(ok:j9 C X){q:Nat×Str}(h:Qg C e=_s q):PE X e (RE X.K (Bf q.1) q.2):=by
 cases e with|Attribute o f pos=>unfold Qg at h;simp only at h;split at h;obtain⟨i,hi,rfl⟩:=K8.mp h;exact Nv (Bp ok hi) (Em hi);cases h|_=>cases h
structure CE:Type 1 where
 o:Nat
 Γ:Gm
 js:List Nat
 f:Ev Dv
structure CT:Type 1 where
 Γ:Gm
 js:List Nat
 f:Ev Bool
structure CA:Type 1 where
 as:List Ar
 Γ:Gm
 js:List Nat
structure CI:Type 1 where
 Γ:Gm
 js:List Nat
 f:Ev (List Dv)
structure CS:Type 1 where
 Γ:Option Gm
 js:List Nat
 f:Es
 er:Bool
 eb:Bool
 ec:Bool
structure Rec:Type 1 where
 E:Cf->Gm->Expr->Option CE
 A:Cf->Gm->List Bool->List Expr->Option CA
 T:Cf->Gm->Expr->Option CT
 I:Cf->Gm->Bool->Expr->Option CI
 S:Cf->Option Gm->Gm->F0->Option CS
 Ss:Cf->Option Gm->Gm->List F0->Option CS
abbrev Tq(t:TA)(te:TE):TA:=λσ H Q=>t σ H λvs b=>te σ b λx a=>Q (vs++[x]) a
structure kI (r:Rec):Prop where
 E:∀{C X Γ e c},j9 C X->r.E C Γ e=_s c->PE X e (tE X.K Γ c.o c.Γ c.js c.f)
 A:∀{C X Γ md es c},j9 C X->r.A C Γ md es=_s c->PA X es (BI X.K c.as)/\AE Γ c.as c.Γ c.js/\c.as.length=es.length/\es.all noStar=_t/\(md=[]->IE c.as=_t)
 T:∀{C X Γ e c},j9 C X->r.T C Γ e=_s c->PT X e (tT X.K Γ c.Γ c.js c.f)
 I:∀{C X Γ e c}(tg),j9 C X->r.I C Γ (Iu tg) e=_s c->PI X tg e (tI X.K Γ c.Γ c.js c.f)
 S:∀{C X j6 Γ s c},j9 C X->r.S C j6 Γ s=_s c->PS X s (tS X.K C.F j6 Γ c.Γ c.js c.f)
 Ss:∀{C X j6 Γ s c},j9 C X->r.Ss C j6 Γ s=_s c->Be X s (tS X.K C.F j6 Γ c.Γ c.js c.f)
 B:∀{C X Γ md es c},j9 C X->r.A C Γ md es=_s c->∀{e te},PE X e te->noStar e=_t->PA X (es++[e]) (Tq (BI X.K c.as) te)
def YN(Γ:Gm)(i:Nat):Bool:=match Γ.getD i _n with
 |some o=>decide (o<=1)
 |none=>_f
variable{Γ:Gm}
theorem Eh(h:YN Γ i=_t):∃o,o<=1/\Γ[i]?=_s (_s o):=by unfold YN at h;split at h;rename_i o e;exact⟨o,of_decide_eq_true h,Aq e⟩;cases h
def Gp(r:Rec)(C:Cf)(Γ:Gm)(md:List Bool)(es:List Expr):Option CA:=match es with
  |[]=>_s ⟨[],Γ,[]⟩
  | e::es=>if noStar e then
      match(if md.headD _f then Ip C e else _n)with
      |some i=>if(Γ.getD i _n).isSome then(r.A C Γ md.tail es).bind λc=>if YN c.Γ i then _s ⟨.rf i::c.as,c.Γ,c.js⟩ else _n else _n
      |none=>match(if md.headD _f then Qg C e else _n)with
        |some q=>if(Γ.getD q.1 _n).isSome then(r.A C Γ md.tail es).bind λc=>if YN c.Γ q.1 then _s ⟨.fd q.1 q.2::c.as,c.Γ,c.js⟩ else _n else _n
        |none=>(r.E C Γ e).bind λa=>(r.A C a.Γ md.tail es).bind λc=>_s ⟨.ev Γ a.Γ a.js a.f::c.as,c.Γ,a.js++c.js⟩
    else _n
variable{es:List Expr}
theorem AO(h:noStar e=_t):E5 (e::es) env=(_f,L7 e env)::E5 es env:=by cases e<;>first|rfl|(cases h)
theorem getD_some(h:(Γ.getD i _n).isSome=_t):∃o,Γ[i]?=_s (_s o):=by obtain⟨o,e⟩:=M6.mp h;exact⟨o,Aq e⟩
variable{r:Rec}
theorem LG(R:kI r){md:List Bool}{c:CA}(ok:j9 C X)(h:Gp r C Γ md es=_s c){d:Expr}{te:TE}(h0:PE X d te)(a:noStar d=_t):PA X (es++[d]) (Tq (BI X.K c.as) te):=by
  cases es with
  |nil=>cases h;exact Ai h0 Dp (AO a)
  |cons e es=>
    unfold Gp at h;simp only at h;split at h;rename_i hs;have g:=AO (es:=es++[d]) (env:=X.env) hs;split at h;rename_i i hi;have f:md.headD _f=true:=by
      cases q:md.headD _f with|true=>rfl|false=>rw[q]at hi;cases hi
    rw[f]at hi;split at h;refine jy h λj e2 h=>?_;split at h;cases h;exact Ai (Bp ok hi) (R.B ok e2 h0 a) g;cases h;cases h;split at h;rename_i q b;have f:md.headD _f=true:=by
      cases z:md.headD _f with|true=>rfl|false=>rw[z]at b;cases b
    rw[f]at b;split at h;refine jy h λj e2 h=>?_;split at h;cases h;exact Ai (JG ok b) (R.B ok e2 h0 a) g;cases h;cases h;refine jy h λk e1 h=>?_;refine jy h λj e2 h=>?_;cases h;exact Ai (EU (R.E ok e1)) (R.B ok e2 h0 a) g;cases h
theorem NG(R:kI r){md:List Bool}{c:CA}(ok:j9 C X)(h:Gp r C Γ md es=_s c):PA X es (BI X.K c.as)/\AE Γ c.as c.Γ c.js/\c.as.length=es.length/\es.all noStar=_t/\(md=[]->IE c.as=_t):=by
  cases es with
  |nil=>cases h;exact⟨Dp,by unfold AE;exact⟨rfl,rfl⟩,rfl,rfl,λ_=>rfl⟩
  |cons e es=>
    unfold Gp at h;simp only at h;split at h;rename_i hs;have k:=AO (es:=es) (env:=X.env) hs;split at h;rename_i i hi;have a:md.headD _f=true:=by
      cases q:md.headD _f with|true=>rfl|false=>rw[q]at hi;cases hi
    rw[a]at hi;split at h;rename_i h1;refine jy h λl e2 h=>?_;split at h;rename_i h2;cases h;obtain⟨g,f,d,b,m⟩:=R.A ok e2;refine⟨Ai (Bp ok hi) g k,?_,by simp[d],by simp[hs,b],λz=>by rw[z]at a;cases a⟩;unfold AE;exact⟨getD_some h1,Eh h2,f⟩;cases h;cases h;split at h;rename_i q j;have a:md.headD _f=true:=by
      cases z:md.headD _f with|true=>rfl|false=>rw[z]at j;cases j
    rw[a]at j;split at h;rename_i h1;refine jy h λl e2 h=>?_;split at h;rename_i h2;cases h;obtain⟨g,f,d,b,m⟩:=R.A ok e2;refine⟨Ai (JG ok j) g k,?_,by simp[d],by simp[hs,b],λz=>by rw[z]at a;cases a⟩;unfold AE;exact⟨getD_some h1,Eh h2,f⟩;cases h;cases h;refine jy h λn e1 h=>?_;refine jy h λl e2 h=>?_;cases h;obtain⟨g,f,d,b,m⟩:=R.A ok e2;refine⟨Ai (EU (R.E ok e1)) g k,?_,by simp[d],by simp[hs,b],λz=>?_⟩;unfold AE;exact⟨rfl,_,rfl,f⟩;show IE l.as=_t;exact m (by rw[z];rfl);cases h
def QJ(Γ:Gm):Const->Option CE
 |.int i=>_s ⟨1,Γ,[],He (.int i)⟩
 |.bool b=>_s ⟨1,Γ,[],He (.bl b)⟩
 |.none=>_s ⟨1,Γ,[],He .kB⟩
 |.str x=>_s ⟨1,Γ,[],He (.str x.cps.toList)⟩
 |_=>_n
theorem VQ(x:Str):tx x.cps.toList=x:=by unfold tx;cases x;rfl
variable{c:CE}
theorem MM{k:Const}{j:Nat}(h:QJ Γ k=_s c):PE X (.Constant k j pos) (tE X.K Γ c.o c.Γ c.js c.f):=by
 cases k with|int i=>cases h;exact YK Ic λ_ _=>As|bool b=>cases h;exact YK Zm λ_ _=>Bg|none=>cases h;exact YK Nt λ_ _=>FU|str x=>cases h;exact YK WN λ_ _=>by unfold Rep;exact⟨by rw[VQ],λ_ z=>z⟩|_=>cases h
noncomputable def Qv(x:Str):Option String:=if x==("int" : Str)then _s "int" else if x==("bool" : Str)then _s "bool" else if x==("str" : Str)then _s "str" else if x==("tuple" : Str)then _s "tuple" else if x==("list" : Str)then _s "list" else _n
theorem Kz{T:String}(h:Qv x=_s T):M5 x=_s (.type T):=by
 unfold Qv at h
 repeat' split at h
 all_goals first|(rename_i e;rw[beq_iff_eq.mp e];cases h;first|exact PyProof.Rows.Boot.«int» | exact PyProof.Rows.Boot.«bool» | exact PyProof.Rows.Boot.«str» | exact PyProof.Rows.Boot.«tuple» | exact PyProof.Rows.Boot.«list»)|cases h
def QD(C:Cf)(Γ:Gm)(x:Str):Option CE:=match lv C x with
  |some i=>if(Γ.getD i _n).isSome then _s ⟨0,Γ.set i (_s 0),[],KW i⟩ else _n
  |none=>if Cy C.sc x&&Cp x then(match C.cs.find? λp=>p.1==x with
      |some p=>_s ⟨0,Γ,[],He p.2⟩
      |none=>if C.bl.contains x then(Qv x).map λT=>⟨0,Γ,[],He (.ty T)⟩ else _n)else _n
theorem QC(ok:j9 C X)(h:QD C Γ x=_s c):PE X (.Name x pos) (tE X.K Γ c.o c.Γ c.js c.f):=by
 unfold QD at h;split at h;rename_i i hi;split at h;rename_i h1;cases h;obtain⟨o,b⟩:=getD_some h1;exact ZK (UQ ok hi) b;cases h;split at h;rename_i a;rw[A1]at a;cases q:C.cs.find? λp=>p.1==x with
 |none=>
  rw[q]at h;simp only at h;split at h;rename_i d;cases t:Qv x with|none=>rw[t]at h;cases h|some T=>rw[t]at h;cases h;exact YK (Jy (v:=.ty T) (BM ok a.1) (ok.bl x (B9.mp d)) (Kz t) rfl (AS a.2).2.2 (AS a.2).1) λ_ _=>by unfold Rep;exact⟨rfl,λ_ z=>z⟩
  cases h
 |some p=>rw[q]at h;cases h;have e:p.1=x:=beq_iff_eq.mp (by simpa using K1 q);obtain⟨v,u,h1,h3,h2⟩:=ok.cs p.1 p.2 (M1 q);rw[e]at h1;exact YK (Jx (BM ok a.1) h1 h3 (AS a.2).1) h2
 cases h
structure C1:Type 1 where
 a:Ar
 Γ:Gm
 js:List Nat
def Ez(r:Rec)(C:Cf)(Γ:Gm)(m:Bool)(e:Expr):Option C1:=match(if m then Ip C e else _n)with
 |some i=>if(Γ.getD i _n).isSome then _s ⟨.rf i,Γ,[]⟩ else _n
 |none=>match(if m then Qg C e else _n)with
  |some q=>if(Γ.getD q.1 _n).isSome then _s ⟨.fd q.1 q.2,Γ,[]⟩ else _n
  |none=>(r.E C Γ e).bind λc=>_s ⟨.ev Γ c.Γ c.js c.f,c.Γ,c.js⟩
def EA(a:Ar)(Γ:Gm):Bool:=match a with
 |.rf i=>YN Γ i
 |.fd i _=>YN Γ i
 |_=>_t
theorem CZ(R:kI r){m:Bool}{c:C1}(ok:j9 C X)(h:Ez r C Γ m e=_s c):PE X e (Ms X.K c.a)/\(m=_f->IE [c.a]=_t)/\∀{as Γ' js},AE c.Γ as Γ' js->EA c.a Γ'=_t->AE Γ (c.a::as) Γ' (c.js++js):=by
 unfold Ez at h;split at h;rename_i i hi;split at h;rename_i h1;cases h;have hm:m=true:=by cases m with|true=>rfl|false=>cases hi
 subst hm;refine⟨Bp ok hi,(λz=>by cases z),λch hs=>?_⟩;unfold AE;exact⟨getD_some h1,Eh hs,ch⟩;cases h;split at h;rename_i q b;split at h;rename_i h1;cases h;have hm:m=true:=by cases m with|true=>rfl|false=>cases b
 subst hm;refine⟨JG ok b,(λz=>by cases z),λch hs=>?_⟩;unfold AE;exact⟨getD_some h1,Eh hs,ch⟩;cases h;refine jy h λd e1 h=>?_;cases h;refine⟨EU (R.E ok e1),λ_=>rfl,λch hs=>?_⟩;unfold AE;exact⟨rfl,_,rfl,ch⟩
theorem Bl:AE Γ [] Γ []:=by unfold AE;exact⟨rfl,rfl⟩
def Fw(r:Rec)(C:Cf)(Γ:Gm)(a b:Expr):Option (C1×C1):=(Ez r C Γ _t a).bind λx=>(Ez r C x.Γ _t b).bind λy=>if EA x.a y.Γ&&EA y.a y.Γ then _s (x,y)else _n
noncomputable def jj(p:C1×C1):List Nat:=p.1.js++(p.2.js++[])
variable{a b:Expr}
theorem DZ(R:kI r){p:C1×C1}(ok:j9 C X)(h:Fw r C Γ a b=_s p):PE X a (Ms X.K p.1.a)/\PE X b (Ms X.K p.2.a)/\AE Γ [p.1.a,p.2.a] p.2.Γ (jj p):=by unfold Fw at h;refine jy h λx e1 h=>?_;refine jy h λy e2 h=>?_;split at h;rename_i z;rw[A1]at z;cases h;obtain⟨j,_,g⟩:=CZ R ok e1;obtain⟨f,_,d⟩:=CZ R ok e2;exact⟨j,f,g (d Bl z.2) z.1⟩;cases h
def QQ(r:Rec)(C:Cf)(Γ:Gm)(a:Expr):Option C1:=(Ez r C Γ _t a).bind λx=>if EA x.a x.Γ then _s x else _n
theorem Gf(R:kI r){x:C1}(ok:j9 C X)(h:QQ r C Γ a=_s x):PE X a (Ms X.K x.a)/\AE Γ [x.a] x.Γ (x.js++[]):=by unfold QQ at h;refine jy h λy e1 h=>?_;split at h;rename_i z;cases h;obtain⟨f,_,d⟩:=CZ R ok e1;exact⟨f,d Bl z⟩;cases h
theorem j9.gx(ok:j9 C X):Gx X:=ok.room
def ah(r:Rec)(C:Cf)(Γ:Gm)(a:Expr)(op:gD)(b:Expr):Option CE:=(C.T.tj.find? λe=>e.op==op).bind λd=>(Fw r C Γ a b).bind λp=>_s ⟨1,p.2.Γ,jj p,CQ (two d.f) (AN [p.1.a,p.2.a])⟩
theorem TR(R:kI r){op:gD}(ok:j9 C X)(h:ah r C Γ a op b=_s c):PE X (.BinOp a op b pos) (tE X.K Γ c.o c.Γ c.js c.f):=by
 refine jy h λd e1 h=>?_;refine jy h λp e2 h=>?_;cases h;have g:d.op=op:=by simpa using K1 e1
 obtain⟨h1,h2,h3⟩:=DZ R ok e2;obtain⟨j,q1,q2⟩:=d.ok X ok.gx;rw[g]at q1;exact PE.imp (Nr q1 h1 h2) λ_ _ _ h=>Bh q2 h3 h
noncomputable def FJ(x:Dv):Option Dv:=match x with|.int i=>_s (.int (-i))|_=>_n
theorem WC{K:W.Frag}:AR K (one FJ) 1 (YF (rU λi=>.int (-i))):=λg H ds vs d Q zd ra e k=>by unfold one at e;split at e;rename_i a;unfold FJ at e;split at e;rename_i i;cases e;unfold RA at ra;obtain⟨v,r,o,P,rfl,_,h1,h2⟩:=ra;unfold RA at h2;subst h2;rw[AV h1];exact⟨i,rfl,k _ H (Ak.old As)⟩;cases e;cases e
def aW(r:Rec)(C:Cf)(Γ:Gm)(a:Expr):Option CE:=(QQ r C Γ a).bind λx=>_s ⟨1,x.Γ,x.js++[],CQ (one FJ) (AN [x.a])⟩
theorem TC(R:kI r)(ok:j9 C X)(h:aW r C Γ a=_s c):PE X (.UnaryOp .USub a pos) (tE X.K Γ c.o c.Γ c.js c.f):=by refine jy h λx e1 h=>?_;cases h;obtain⟨h1,h2⟩:=Gf R ok e1;exact PE.imp (Zj VN h1) λ_ _ _ h=>Bh WC h2 h
def YV(t:CT):CE:=⟨1,t.Γ,t.js,Sd t.f⟩
def JQ(r:Rec)(C:Cf)(Γ:Gm)(a:Expr)(op:i8)(b:Expr):Option CT:=if gT op b then _n else(C.T.nX.find? λe=>e.op==op).bind λd=>(Fw r C Γ a b).bind λp=>_s ⟨p.2.Γ,jj p,bQ (two d.f) (AN [p.1.a,p.2.a])⟩
theorem Xu{K:W.Frag}{Γ':Gm}{js:List Nat}{σ:St}{H:Hp}{o:Nat}{p:List Dv->Option Bool}{as:List Ar}{r:JV}(n:AR K (λds=>(p ds).map .bl) 0 r)(c:AE Γ as Γ' js){Q:VK}(h:tE K Γ o Γ' js (Sd (bQ p (AN as))) σ H Q):BI K as σ H λvs f=>r vs f Q:=by obtain⟨g,m,P,j,B,k,res,e,q⟩:=h;refine AK as j c e λds m' g' P' vs f t w s u d=>?_;refine jy t λb e1 e2=>?_;refine n g' f ds vs (.bl b) _ d.zd (u.ra d) (by show(p ds).map _=_;rw[e1];rfl) λv y nw=>?_;obtain⟨Pv,s2,h1,l,A⟩:=Ak.go s d nw;have ev:=CO h1;subst ev;exact q (.bl b) m' g' P' j4 _ y e2 w (s2.less λ_ z=>z.elim .inl C9) Bg l λ_ _ z=>z
theorem Ki(R:kI r){op:i8}{c:CT}(ok:j9 C X)(h:JQ r C Γ a op b=_s c):PT X (.Compare a [op] [b] pos) (tT X.K Γ c.Γ c.js c.f)/\∀o,PE X (.Compare a [op] [b] pos) (tE X.K Γ o c.Γ c.js (Sd c.f)):=by
 unfold JQ at h;split at h;cases h;rename_i hm;rw[Bool.not_eq_true]at hm;refine jy h λd e1 h=>?_;refine jy h λp e2 h=>?_;cases h;have g:d.op=op:=by simpa using K1 e1
 obtain⟨h1,h2,h3⟩:=DZ R ok e2;obtain⟨j,q1,q2⟩:=d.ok X ok.gx;rw[g]at q1;exact⟨PT.imp (Rf q1 h1 h2 hm) λ_ _ _ h=>ak q2 h3 h,λo=>PE.imp (Rt q1 h1 h2 hm) λ_ _ _ h=>Xu q2 h3 h⟩
noncomputable def Ec:Expr->Bool
 |.Slice _ _ _ _=>_f
 |_=>_t
theorem Ni(h:Ec b=_t):Kv b:=λo i=>by cases b<;>first|rfl|(cases h)
def cw(r:Rec)(C:Cf)(Γ:Gm)(a b:Expr):Option CE:=(Fw r C Γ a b).bind λp=>_s ⟨0,p.2.Γ,jj p,CQ (two C.T.ix) (AN [p.1.a,p.2.a])⟩
theorem Xo(R:kI r)(ok:j9 C X)(d:Ec b=_t)(h:cw r C Γ a b=_s c):PE X (.Subscript a b pos) (tE X.K Γ c.o c.Γ c.js c.f):=by refine jy h λp e2 h=>?_;cases h;obtain⟨h1,h2,h3⟩:=DZ R ok e2;obtain⟨g,q1,q2⟩:=C.T.sM X ok.gx;exact PE.imp (Zl q1 h1 h2 (Ni d)) λ_ _ _ h=>Bh q2 h3 h
noncomputable def aq{R:Type}(d:Dv)(k:Int->Option R):Option R:=match d with|.int i=>k i|_=>_n
def Xv(o:Option (Ev Dv)):Ev (Option Int):=match o with
 |none=>λ_ m k=>k _n m
 |some f=>λR m k=>f R m λd g=>aq d λi=>k (_s i) g
def aI(p:Dv->Option Int->Option Int->Option Dv)(a:Ar)(lo hi:Option (Ev Dv)):Ev Dv:=match a with
 |.rf i=>λR m k=>Xv lo R m λl h=>Xv hi R h λu g=>(p (g.at i) l u).bind λd=>k d g
 |.ev _ _ _ f=>λR m k=>f R m λx h=>Xv lo R h λl g=>Xv hi R g λu j=>(p x l u).bind λd=>k d j
 |.fd _ _=>λ_ _ _=>_n
def cy(r:Rec)(C:Cf)(Γ:Gm)(o:Option Expr):Option (Option (Ev Dv)×Gm×List Nat):=match o with
 |none=>_s (_n,Γ,[])
 |some e=>(r.E C Γ e).bind λc=>_s (_s c.f,c.Γ,c.js)
def Tv(K:W.Frag)(Γ Γ':Gm)(js:List Nat)(f:Ev (Option Int)):TO:=λσ H Q=>∃g m P,Rel K g H Γ m σ P/\∃(R:Type)(k:Option Int->M->Option R)(r:R),f R m k=_s r /\
 ∀b m' g' P' H',k b m'=_s r->BA js m m'->Step g P H g' P' H'->Rel K g' H' Γ' m' σ P'->Q b H'
theorem PO.imp{e:Option Expr}{t t':TO}(h:PO X e t)(k:∀σ H Q,t' σ H Q->t σ H Q):PO X e t':=λpins s σ H Q I q=>h pins s σ H Q I (k σ H Q q)
theorem QL(R:kI r){e:Option Expr}{p:Option (Ev Dv)×Gm×List Nat}(ok:j9 C X)(h:cy r C Γ e=_s p):PO X e (Tv X.K Γ p.2.1 p.2.2 (Xv p.1)):=by
 cases e with
 |none=>
  cases h;exact PO.imp Rn λσ H Q q=>by obtain⟨g,m,P,r,R,k,res,e,q⟩:=q;exact q _n m g P H e BA.refl Step.refl r
 |some e=>
  refine jy h λc e1 h=>?_;cases h;exact PO.imp (Rm (EU (R.E ok e1))) λσ H Q q=>by
   obtain⟨g,m,P,r,R,k,res,e,q⟩:=q;refine⟨g,m,P,r,R,_,res,e,λd m' g' P' Pv v H' f l s rv j n=>?_⟩;cases d<;>first|(cases f;done)|skip
   rename_i i;exact⟨i,AV rv,q (_s i) m' g' P' H' f l (s.less λ_ z=>.inl z) j⟩
def eL(r:Rec)(C:Cf)(Γ:Gm)(a:Expr)(lo hi:Option Expr):Option CE:=(Ez r C Γ _t a).bind λx=>(cy r C x.Γ lo).bind λl=>(cy r C l.2.1 hi).bind λu=>if EA x.a u.2.1 then _s ⟨1,u.2.1,x.js++(l.2.2++u.2.2),aI C.T.sl x.a l.1 u.1⟩ else _n
theorem Vd{K:W.Frag}{Γ j kN Γ':Gm}{D j2 t:List Nat}{p:Dv->Option Int->Option Int->Option Dv}{N:V->Option Int->Option Int->Hp->VK->Prop}(hp:∀lo hi,AR K (one λd=>p d lo hi) 1 (YF λx H Q=>N x lo hi H Q)){a:Ar}{lo hi:Option (Ev Dv)}
    (ha:∀{as Γ' js},AE j as Γ' js->EA a Γ'=_t->AE Γ (a::as) Γ' (D++js)) (hs:EA a Γ'=_t) {σ:St} {H:Hp} {Q:VK}
    (h:tE K Γ 1 Γ' (D++(j2++t)) (aI p a lo hi) σ H Q):df N (Ms K a) (Tv K j kN j2 (Xv lo)) (Tv K kN Γ' t (Xv hi)) σ H Q:=by
  obtain⟨g,m,P,r,R,k,res,e,q⟩:=h;have E:∀{x:Dv}{l u:Option Int}{B:M}{y:G}{P3:Fp}{A:Hp}{v:V}{o:Nat}{J:Fp},(p x l u).bind (λd=>k d B)=_s res->BA (D++(j2++t)) m B->Step g P H y P3 A->Rel K y A Γ' B σ P3->o<=1->Rep K y A o x v J->N v l u A Q:=fun{x l u B y P3 A v o J} hk ag s F vc rx=>by refine jy hk λd e1 e2=>?_;refine hp l u y A [x] [v] d Q F.zd (by unfold RA;exact⟨v,[],o,J,rfl,vc,rx,by unfold RA;rfl⟩) e1 λw H4 nw=>?_;obtain⟨Pv,s2,h1,n,n2⟩:=Ak.go s F nw;exact q d B y P3 Pv w H4 e2 ag s2 h1 n n2
  cases a with
  |fd i f=>cases e
  |rf i=>
    have c0:=ha (as:=[]) (Γ':=j) (js:=[]) Bl;have hs':=hs
    -- qO slot is set ahead
    have h0:(∃o,Γ[i]?=_s (_s o))/\j=Γ/\D=[]:=by have:=ha (as:=[.ev j Γ' (j2++t) (λ_ m k=>k .kB m)]) (Γ':=Γ') (js:=(j2++t)++[]) (by unfold AE;exact⟨rfl,[],rfl,Bl⟩) hs;unfold AE at this;refine⟨this.1,?_⟩;obtain⟨_,_,c⟩:=this;unfold AE at c;refine⟨c.1,?_⟩;obtain⟨_,js2,e,c⟩:=c;unfold AE at c;rw[c.2]at e;have l:(D++((j2++t)++[])).length=((j2++t)++[]).length:=congrArg X1 e;simp at l;exact l
    obtain⟨⟨o0,h0⟩,rfl,rfl⟩:=h0;obtain⟨v0,P0,nV,uE,_⟩:=r.nC h0;refine⟨v0,nV,g,m,P,r,R,_,res,e,λl U Y P1 H1 O L s1 I=>⟨Y,U,P1,I,R,_,res,O,λu m2 g2 P2 H2 T S s2 n=>?_⟩⟩;obtain⟨o1,qo,h1⟩:=Eh hs;obtain⟨v1,J,tD,uz,_⟩:=n.nC h1;rw[nV]at tD;cases tD;exact E T (L.trans S) (s1.trans s2) n qo uz
  |ev uf ue ja f=>
    have h0:uf=Γ/\ue=j/\D=ja:=by have:=ha (as:=[.ev j j [] (λ_ m k=>k .kB m)]) (Γ':=j) (js:=[]) (by unfold AE;exact⟨rfl,[],rfl,Bl⟩) rfl;unfold AE at this;obtain⟨e1,js2,e2,c⟩:=this;unfold AE at c;obtain⟨e3,rH,e4,c⟩:=c;unfold AE at c;rw[c.2]at e4;subst e4;simp at e2;exact⟨e1,e3.symm,e2⟩
    obtain⟨rfl,rfl,rfl⟩:=h0;refine⟨g,m,P,r,R,_,res,e,λx U Y P1 Pv v H1 O L s1 rv I n1=>⟨Y,U,P1,I,R,_,res,O,λl m2 g2 P2 H2 T S s2 n=>⟨g2,m2,P2,n,R,_,res,T,λu B y P3 A z4 Z s3 F=>?_⟩⟩⟩;exact E z4 (L.trans (S.trans Z)) (((s1.less λ_ z=>.inl z).trans s2).trans s3) F (by decide:0<=1) ((rv.z.held s2 I.kA λ_ z=>z.elim).held s3 n.kA λ_ z=>z.elim)
theorem Xa(R:kI r){lo hi:Option Expr}{p2:Pos}(ok:j9 C X)(h:eL r C Γ a lo hi=_s c):PE X (.Subscript a (.Slice lo hi _n p2) pos) (tE X.K Γ c.o c.Γ c.js c.f):=by refine jy h λx e1 h=>?_;refine jy h λl e2 h=>?_;refine jy h λu e3 h=>?_;split at h;rename_i hs;cases h;obtain⟨h1,_,h2⟩:=CZ R ok e1;obtain⟨d,q1,q2⟩:=C.T.rh X ok.gx;exact PE.imp (Nq q1 h1 (QL R ok e2) (QL R ok e3)) λ_ _ _ h=>Vd q2 h2 hs h;cases h
def aS(r:Rec)(C:Cf)(Γ:Gm)(es:List Expr):Option CE:=(r.A C Γ [] es).bind λc=>_s ⟨1,c.Γ,c.js,KY .tup (AN c.as)⟩
def aY(r:Rec)(C:Cf)(Γ:Gm)(es:List Expr):Option CE:=(r.A C Γ [] es).bind λc=>_s ⟨1,c.Γ,c.js,KY .lst (AN c.as)⟩
def Om:Ev Dv:=He (.mC [] [])
theorem Ak.mC{K:W.Frag}{g:G}{H:Hp}{p:A6}(zd:Zd g H)(d:H p=_n):Ak K g H 1 (.mC [] []) (.ref p) (upd H p (.dK [])):=by have f:=Ae d (.dK []);refine⟨f,λb=>b=p,?_,λa q=>q▸d⟩;unfold Rep;exact⟨p,[],rfl,AF,(λz=>by cases z),(λ_ z=>zd p z d),⟨rfl,j4,AA.nil⟩,λb=>⟨λz=>⟨by decide,z⟩,λz=>z.2⟩⟩
theorem ZO:PE X (.Dict [] [] pos) (tE X.K Γ 1 Γ [] Om):=PE.imp Nw λσ H Q q=>by obtain⟨g,m,P,r,R,k,res,e,q⟩:=q;intro p h;obtain⟨Pv,s2,h1,d,f⟩:=Ak.go Step.refl r (Ak.mC r.zd h);exact q _ m g P Pv _ _ e BA.refl s2 h1 d f
theorem Sr(R:kI r){x1:Nat}(ok:j9 C X)(h:aS r C Γ es=_s c):PE X (.Tuple es x1 pos) (tE X.K Γ c.o c.Γ c.js c.f):=by refine jy h λx e1 h=>?_;cases h;obtain⟨j,g,_,_,d⟩:=R.A ok e1;exact ZL j g (d rfl)
theorem TJ(R:kI r)(ok:j9 C X)(h:aY r C Γ es=_s c):PE X (.List es pos) (tE X.K Γ c.o c.Γ c.js c.f):=by refine jy h λx e1 h=>?_;cases h;obtain⟨j,g,_,_,d⟩:=R.A ok e1;exact ZN j g (d rfl)
def BF:Gm->Gm->Gm
 |some a::x,_s b::y=>_s (if a==b then a else 0)::BF x y
 |_::x,_::y=>_n::BF x y
 |_,_=>[]
def aH(t:Dv->Option Bool)(d:Ev (List Dv)):Ev Bool:=bQ (one t) d
def XY(r:Rec)(C:Cf)(Γ:Gm)(a:Expr):Option CT:=(QQ r C Γ a).bind λx=>_s ⟨x.Γ,x.js++[],aH C.T.uB (AN [x.a])⟩
noncomputable def KI:Expr->Bool
 |.UnaryOp .Not _ _=>_f
 |.BoolOp _ _ _=>_f
 |.IfExp _ _ _ _=>_f
 |.Compare _ _ _ _=>_f
 |_=>_t
theorem Su(R:kI r){c:CT}(ok:j9 C X)(u:KI a=_t)(h:XY r C Γ a=_s c):PT X a (tT X.K Γ c.Γ c.js c.f):=by
  refine jy h λx e1 h=>?_;cases h;obtain⟨h1,h2⟩:=Gf R ok e1;refine PT.imp (Nc h1 λn=>?_) λσ H Q h=>?_;cases a<;>first|rfl|(cases u;done)|skip
  rename_i op b pos;cases op<;>first|rfl|(cases u;done)
  obtain⟨g,m,P,A,N,k,res,e,q⟩:=h;have p:BI X.K [x.a] σ H λvs l=>∃w,vs=[w]/\∃b,QZ X.K w l b/\Q b l:=by refine AK [x.a] A h2 e λds m' g' P' vs l B E s D t=>?_;refine jy B λb e1 e2=>?_;unfold one at e1;split at e1;rename_i d;have ra:=D.ra t;unfold RA at ra;obtain⟨w,G,o,O,rfl,_,h3,h4⟩:=ra;unfold RA at h4;subst h4;exact⟨w,rfl,b,C.T.rR _ _ _ _ _ _ _ _ h3 e1,q b m' g' P' l e2 E s t⟩;cases e1
  revert p
  cases x.a with|ev I J L M=>rintro⟨g,m,P,r,R,k,res,e,q⟩;refine⟨g,m,P,r,R,k,res,e,λd m' g' P' Pv v H' h1 h2 h3 h4 h5 h6=>?_⟩;obtain⟨w,j,z⟩:=q d m' g' P' Pv v H' h1 h2 h3 h4 h5 h6;cases j;exact z|rf i=>rintro⟨v,e,w,j,z⟩;cases j;exact⟨v,e,z⟩|fd i f=>rintro⟨v,e,a,F,dx,fs,y,q1,q2,q3,q4,q5,w,j,z⟩;cases j;exact⟨v,e,a,F,dx,fs,y,q1,q2,q3,q4,q5,z⟩
def Xh(t:CT):CT:=⟨t.Γ,t.js,Uc t.f⟩
def cz(a b:CT):CT:=let Γ':=BF a.Γ b.Γ;let js:=a.js++b.js;⟨Γ',js,Lx (Au Γ' js) (Ka a.f b.f λ_ m k=>k _f m)⟩
def fW(a b:CT):CT:=let Γ':=BF a.Γ b.Γ;let js:=a.js++b.js;⟨Γ',js,Lx (Au Γ' js) (Ka a.f (λ_ m k=>k _t m) b.f)⟩
theorem Zc{op:BoolOp}{vs:List Expr}{t:TT}(h:PT X (.BoolOp op vs pos) t):PW X (.BoolOp op vs pos) t:=λd pins s σ H Q I q=>h pins s σ H Q I q
def UC(r:Rec)(C:Cf)(Γ:Gm)(op:BoolOp)(vs:List Expr)(pos:Pos):Option CT:=match vs with
 |[]=>_n
 |[a]=>r.T C Γ a
 |a::b::vs=>(r.T C Γ a).bind λx=>(r.T C x.Γ (.BoolOp op (b::vs) pos)).bind λy=>if BH (BF x.Γ y.Γ) x.Γ&&BH (BF x.Γ y.Γ) y.Γ then _s (match op with|.And=>cz x y|.Or=>fW x y)else _n
theorem ND(R:kI r){op:BoolOp}{vs:List Expr}{c:CT}(ok:j9 C X)(h:UC r C Γ op vs pos=_s c):PT X (.BoolOp op vs pos) (tT X.K Γ c.Γ c.js c.f):=by
 match vs,h with
 |[],h=>cases h
 |[a],h=>
  cases op with|And=>exact PW.pt (Re (R.T ok h))|Or=>exact PW.pt (Vt (R.T ok h))
 |a::b::vs,h=>
  refine jy h λx e1 h=>?_;refine jy h λy e2 h=>?_;split at h;rename_i d;rw[A1]at d;have ha:=R.T ok e1;have j:=Zc (R.T ok e2);have g:∀(i o:Nat),(BF x.Γ y.Γ)[i]?=_s (_s o)->i∈Au (BF x.Γ y.Γ) (x.js++y.js)\/i∉x.js++y.js:=λi o h=>Ax h;cases op with|And=>cases h;exact PW.pt (PW.imp (Vu ha (PW.imp j λ_ _ _ h=>JZ d.2 (λ_ z=>z) h)) λσ H Q h=>VV (KG g (λi z=>Al z) h) d.1)|Or=>cases h;exact PW.pt (PW.imp (Zb ha (PW.imp j λ_ _ _ h=>JZ d.2 (λ_ z=>z) h)) λσ H Q h=>Yq (KG g (λi z=>Al z) h) d.1)
  cases h
def MO(r:Rec)(C:Cf)(Γ:Gm)(a:Expr)(op:i8)(b:Expr)(d:i8)(c:Expr):Option CT:=_n
theorem Kj(R:kI r){c:Expr}{op d:i8}{t:CT}(ok:j9 C X)(h:MO r C Γ a op b d c=_s t):PT X (.Compare a [op,d] [b,c] pos) (tT X.K Γ t.Γ t.js t.f)/\∀o,PE X (.Compare a [op,d] [b,c] pos) (tE X.K Γ o t.Γ t.js (Sd t.f)):=by cases h
def Tz(r:Rec)(C:Cf)(Γ:Gm)(e:Expr):Option CT:=match e with
 |.Compare a [op] [b] _=>JQ r C Γ a op b
 |.Compare a [op,d] [b,c] _=>MO r C Γ a op b d c
 |.UnaryOp .Not x _=>(r.T C Γ x).map Xh
 |.BoolOp op vs pos=>UC r C Γ op vs pos
 |e=>if KI e then XY r C Γ e else _n
theorem Mw(R:kI r){c:CT}(ok:j9 C X)(h:Tz r C Γ e=_s c):PT X e (tT X.K Γ c.Γ c.js c.f):=by
 have val:KI e=_t->(if KI e then XY r C Γ e else _n)=_s c->PT X e (tT X.K Γ c.Γ c.js c.f):=λg h=>by rw[if_pos g]at h;exact Su R ok g h
 match e,h with
 |.Compare a ops bs pos,h=>
  match ops,bs,h with
  |[op],[b],h=>exact(Ki R ok h).1
  |[op,j],[b,c],h=>exact(Kj R ok h).1
  |[],_,h=>cases h
  |[_],[],h=>cases h
  |[_],_::_::_,h=>cases h
  |[_,_],[],h=>cases h
  |[_,_],[_],h=>cases h
  |[_,_],_::_::_::_,h=>cases h
  |_::_::_::_,_,h=>cases h
 |.UnaryOp op x pos,h=>
  cases op with
  |Not=>
   cases q:r.T C Γ x with|none=>replace h:(r.T C Γ x).map Xh=_s c:=h;rw[q]at h;cases h|some t=>replace h:(r.T C Γ x).map Xh=_s c:=h;rw[q]at h;cases h;exact PT.imp (Vw (R.T ok q)) λ_ _ _ h=>VU h
  |_=>exact val rfl h
 |.BoolOp op vs pos,h=>exact ND R ok h
 |.IfExp a b k d,h=>cases h
 |.NamedExpr ..,h|.BinOp ..,h|.Lambda ..,h|.Dict ..,h|.Set ..,h|.ListComp ..,h|.SetComp ..,h|.DictComp ..,h|.GeneratorExp ..,h|.Await ..,h|.Yield ..,h|.YieldFrom ..,h|.Call ..,h|.FormattedValue ..,h|.JoinedStr ..,h|.Constant ..,h|.Attribute ..,h|.Subscript ..,h|.Starred ..,h|.Name ..,h|.List ..,h|.Tuple ..,h|.Slice ..,h=>exact val rfl h
noncomputable def bT{R:Type}(d:Dv)(k:Bool->Option R):Option R:=match d with|.bl b=>k b|_=>_n
theorem Ey{R:Type}{d:Dv}{k:Bool->Option R}{r:R}(h:bT d k=_s r):∃b,d=.bl b/\k b=_s r:=by cases d<;>first|(cases h;done)|exact⟨_,rfl,h⟩
def Oy(f g:Ev Dv):Ev Dv:=λR m k=>f R m λd h=>bT d λb=>if b=_t then g R h k else k (.bl _f) h
def Ub(f g:Ev Dv):Ev Dv:=λR m k=>f R m λd h=>bT d λb=>if b=_t then k (.bl _t) h else g R h k
def Ol(f:Ev Dv):Ev Dv:=λR m k=>f R m λd g=>bT d λb=>k (.bl (!b)) g
section
variable{K:W.Frag}{Γ Γ' kN:Gm}{js js2:List Nat}{σ:St}{H:Hp}{f u:Ev Dv}{Q:VK}
theorem VY(L:BH Γ' kN=_t)(h:tE K Γ 0 Γ' (js++js2) (Oy f u) σ H Q):Tw (tE K Γ 0 kN js f) (tE K kN 0 Γ' js2 u) σ H Q:=by
 obtain⟨g,m,P,r,R,k,res,e,q⟩:=h;refine⟨g,m,P,r,R,_,res,e,λd y A P1 Pv v D j B s rv t n=>?_⟩;replace j:=Ey j;obtain⟨b,rfl,j⟩:=j;have s1:Step _ _ _ A P1 D:=s.less λ_ z=>.inl z;refine⟨b,CO rv,?_⟩;cases b with|true=>rw[if_pos rfl]at j ⊢;exact⟨A,y,P1,t,R,k,res,j,λd J p P2 M w N I G s2 E l F=>q d J p P2 M w N I (B.trans G) (s1.trans s2) E l F⟩|false=>rw[if_neg B4]at j ⊢;obtain⟨p,P2,s2,l⟩:=t.weaken L;exact q _ y p P2 j4 _ D j (B.mono λ_ z=>C2 _ z) ((s1.trans s2).less λ_ z=>z.elim id C9) Bg l λ_ _ z=>z
theorem Yx(L:BH Γ' kN=_t)(h:tE K Γ 0 Γ' (js++js2) (Ub f u) σ H Q):Yu (tE K Γ 0 kN js f) (tE K kN 0 Γ' js2 u) σ H Q:=by
 obtain⟨g,m,P,r,R,k,res,e,q⟩:=h;refine⟨g,m,P,r,R,_,res,e,λd y A P1 Pv v D j B s rv t n=>?_⟩;replace j:=Ey j;obtain⟨b,rfl,j⟩:=j;have s1:Step _ _ _ A P1 D:=s.less λ_ z=>.inl z;refine⟨b,CO rv,?_⟩;cases b with|false=>rw[if_neg B4]at j ⊢;exact⟨A,y,P1,t,R,k,res,j,λd J p P2 M w N I G s2 E l F=>q d J p P2 M w N I (B.trans G) (s1.trans s2) E l F⟩|true=>rw[if_pos rfl]at j ⊢;obtain⟨p,P2,s2,l⟩:=t.weaken L;exact q _ y p P2 j4 _ D j (B.mono λ_ z=>C2 _ z) ((s1.trans s2).less λ_ z=>z.elim id C9) Bg l λ_ _ z=>z
theorem VX(h:tE K Γ 0 Γ' js (Ol f) σ H Q):Tr (tE K Γ 0 Γ' js f) σ H Q:=by obtain⟨g,m,P,r,R,k,res,e,q⟩:=h;refine⟨g,m,P,r,R,_,res,e,λd p t P1 Pv v y j w s rv l n=>?_⟩;replace j:=Ey j;obtain⟨b,rfl,j⟩:=j;exact⟨b,CO rv,q _ p t P1 j4 _ y j w (s.less λ_ z=>z.elim .inl C9) Bg l λ_ _ z=>z⟩
end
def aV(r:Rec)(C:Cf)(Γ:Gm)(x:Expr):Option CE:=(r.E C Γ x).bind λc=>_s ⟨0,c.Γ,c.js,Ol c.f⟩
def NF(r:Rec)(C:Cf)(Γ:Gm)(op:BoolOp)(vs:List Expr)(pos:Pos):Option CE:=match vs with
 |[]=>_n
 |[a]=>r.E C Γ a
 |a::b::vs=>(r.E C Γ a).bind λx=>(r.E C x.Γ (.BoolOp op (b::vs) pos)).bind λy=>let Γ':=BF x.Γ y.Γ;let js:=x.js++y.js;if BH Γ' x.Γ&&BH Γ' y.Γ then _s ⟨0,Γ',js,Lx (Au Γ' js) (match op with|.And=>Oy x.f y.f|.Or=>Ub x.f y.f)⟩ else _n
theorem LF(R:kI r){op:BoolOp}{vs:List Expr}(ok:j9 C X)(h:NF r C Γ op vs pos=_s c):PE X (.BoolOp op vs pos) (tE X.K Γ c.o c.Γ c.js c.f):=by
 match vs,h with
 |[],h=>cases h
 |[a],h=>exact WO (R.E ok h)
 |a::b::vs,h=>
  refine jy h λx e1 h=>?_;refine jy h λy e2 h=>?_;simp only at h;split at h;rename_i d;rw[A1]at d;have ha:=EU (R.E ok e1);have j:=EU (R.E ok e2);have g:∀(i o:Nat),(BF x.Γ y.Γ)[i]?=_s (_s o)->i∈Au (BF x.Γ y.Γ) (x.js++y.js)\/i∉x.js++y.js:=λi o h=>Ax h;cases op with|And=>cases h;exact PE.imp (WS ha (PE.imp j λ_ _ _ h=>Ja d.2 (λ_ z=>z) h)) λσ H Q h=>VY d.1 (GQ g (λi z=>Al z) h)|Or=>cases h;exact PE.imp (Zk ha (PE.imp j λ_ _ _ h=>Ja d.2 (λ_ z=>z) h)) λσ H Q h=>Yx d.1 (GQ g (λi z=>Al z) h)
  cases h
def aZ(r:Rec)(C:Cf)(Γ:Gm)(c a b:Expr):Option CE:=_n
theorem TK(R:kI r){c:Expr}{d:CE}(ok:j9 C X)(h:aZ r C Γ c a b=_s d):PE X (.IfExp c a b pos) (tE X.K Γ d.o d.Γ d.js d.f):=by cases h
theorem BR(h:es.all noStar=_t):(R8 pos (E5 es env)).any (·.1)=false:=by
 induction es with|nil=>rfl|cons e es d=>rw[J0,A1]at h;rw[AO h.1];show(_f||(R8 pos (E5 es env)).any (·.1))=_f;rw[d h.2];rfl
theorem Xy(h:es.all noStar=_t):(R8 pos (E5 es env)).all (λx=>!x.1)=true:=by
 induction es with|nil=>rfl|cons e es d=>rw[J0,A1]at h;rw[AO h.1];show(_t&&(R8 pos (E5 es env)).all (λx=>!x.1))=_t;rw[d h.2];rfl
def Um(r:Rec)(C:Cf)(Γ:Gm)(s:kd)(es:List Expr):Option CE:=(r.A C Γ ((D0 es.length).map s.io.contains) es).bind λc=>if YJ c.as s.io&&(es.length==s.ps.length)&&(slots c.as s.io).all (λi=>c.Γ.getD i _n==_s 1)then _s ⟨s.ro,c.Γ,c.js++slots c.as s.io,JI s c.as⟩ else _n
variable{p:Pos}
theorem QB(R:kI r)(ok:j9 C X)(hs:(x,s)∈C.fs/\s.cl=_n)(n:Gl X x)(hn:Cp x=_t)(h:Um r C Γ s es=_s c):PE X (.Call (.Name x p) es [] pos) (tE X.K Γ c.o c.Γ c.js c.f):=by
 refine jy h λd e1 h=>?_;split at h;rename_i g;simp only[A1,D6,beq_iff_eq]at g;cases h;obtain⟨v,u,q,k,_⟩:=R.A ok e1;obtain⟨nd,t,j,w,m,l,F⟩:=ok.fx hs;have run:∀{σ H Q},tE X.K Γ s.ro d.Γ (d.js++slots d.as s.io) (JI s d.as) σ H Q->bN (nO X.K s) (BI X.K d.as) σ H Q:=λh=>Pe u g.1.1 (q.trans g.1.2) nd t (λi hi=>Aq (g.2 i hi)) h;cases es with|nil=>have e:d.as=[]:=I9 q;refine PE.imp (Nu F l m n (AS hn).1) λσ H Q h=>?_;have:=run h;rw[e]at this;exact this|cons e es=>rw[J0,A1]at k;exact PE.imp (UL F l m n v (AS hn).1 (AO k.1) (BR k.2)) λσ H Q h=>run h
 cases h
def Uj(r:Rec)(C:Cf)(Γ:Gm)(s:kd)(es:List Expr):Option CE:=(r.A C Γ (E6 es.length _t) es).bind λc=>if es.length==s.ps.length then _s ⟨1,c.Γ,c.js,GW s c.as⟩ else _n
theorem Py(R:kI r)(ok:j9 C X)(hs:(x,s)∈C.fs/\s.cl=_n)(t:s.io=[])(n:Gl X x)(hn:Cp x=_t)(h:Uj r C Γ s es=_s c):PE X (.Call (.Name x p) es [] pos) (tE X.K Γ c.o c.Γ c.js c.f):=by
 refine jy h λd e1 h=>?_;split at h;rename_i l;rw[beq_iff_eq]at l;cases h;obtain⟨v,u,q,g,_⟩:=R.A ok e1;obtain⟨nd,_,j,w,m,k,F⟩:=ok.fx hs;have run:∀{σ H Q},tE X.K Γ 1 d.Γ d.js (GW s d.as) σ H Q->bN (nO X.K s) (BI X.K d.as) σ H Q:=λh=>MF u t (q.trans l) h;cases es with|nil=>have e:d.as=[]:=I9 q;refine PE.imp (Nu F k m n (AS hn).1) λσ H Q h=>?_;have:=run h;rw[e]at this;exact this|cons e es=>rw[J0,A1]at g;exact PE.imp (UL F k m n v (AS hn).1 (AO g.1) (BR g.2)) λσ H Q h=>run h
 cases h
noncomputable def OV:Expr->Bool
 |.Dict [] [] _=>_t
 |_=>_f
def Ul(r:Rec)(C:Cf)(Γ:Gm)(s:kd)(es:List Expr):Option CE:=_n
theorem QA(R:kI r)(ok:j9 C X)(hs:(x,s)∈C.fs/\s.cl=_n)(d:Gl X x)(hn:Cp x=_t)(hd:(es.getLast?.map OV).getD _f=_t)(h:Ul r C Γ s es=_s c):PE X (.Call (.Name x p) es [] pos) (tE X.K Γ c.o c.Γ c.js c.f):=by cases h
noncomputable def cS:Expr->Bool
 |.Call ..=>_t
 |_=>_f
def Uk(r:Rec)(C:Cf)(Γ:Gm)(s:kd)(es:List Expr):Option CE:=_n
theorem Pz(R:kI r)(ok:j9 C X)(hs:(x,s)∈C.fs/\s.cl=_n)(d:Gl X x)(hn:Cp x=_t)(h:Uk r C Γ s es=_s c):PE X (.Call (.Name x p) es [] pos) (tE X.K Γ c.o c.Γ c.js c.f):=by cases h
def Xg(r:Rec)(C:Cf)(Γ:Gm)(s:kd)(es:List Expr):Option CE:=if s.nb&&s.io.isEmpty then Uj r C Γ s es else if(es.getLast?.map OV).getD _f&&s.io.contains (es.length-1)then Ul r C Γ s es else if(es.head?.map cS).getD _f&&s.io.contains 0 then Uk r C Γ s es else Um r C Γ s es
theorem TB(R:kI r)(ok:j9 C X)(hs:(x,s)∈C.fs/\s.cl=_n)(d:Gl X x)(hn:Cp x=_t)(h:Xg r C Γ s es=_s c):PE X (.Call (.Name x p) es [] pos) (tE X.K Γ c.o c.Γ c.js c.f):=by unfold Xg at h;split at h;rename_i z;rw[A1,T2]at z;exact Py R ok hs z.2 d hn h;split at h;rename_i z;rw[A1]at z;exact QA R ok hs d hn z.1 h;split at h;exact Pz R ok hs d hn h;exact QB R ok hs d hn h
def Pu(r:Rec)(C:Cf)(Γ:Gm)(d:o5)(es:List Expr):Option CE:=if es.isEmpty then _n else(r.A C Γ (E6 es.length _t) es).bind λc=>_s ⟨d.o,c.Γ,c.js,CQ d.f (AN c.as)⟩
theorem Pt(R:kI r){d:o5}(ok:j9 C X)(k:d.x∈C.bl)(j:Gl X d.x)(hn:Cp d.x=_t)(h:Pu r C Γ d es=_s c):PE X (.Call (.Name d.x p) es [] pos) (tE X.K Γ c.o c.Γ c.js c.f):=by
 cases es with
 |nil=>cases h
 |cons e es=>
  unfold Pu at h;rw[if_neg `s]at h;refine jy h λt e1 h=>?_;cases h;obtain⟨m,l,u,g,_⟩:=R.A ok e1;rw[J0,A1]at g;obtain⟨q,q1,q2⟩:=d.ok X ok.gx;have n:=AS hn;rcases q2 with⟨id,q2,q3⟩|⟨T,q2,q3⟩
  exact PE.imp (HG q2 j (ok.bl _ k) q3 m n.2.2 n.1 (AO g.1) (BR g.2)) λ_ _ _ h=>Bh q1 l h;exact PE.imp (LU q2 j (ok.bl _ k) q3 m n.2.2 n.1 (AO g.1) (BR g.2)) λ_ _ _ h=>Bh q1 l h
noncomputable def QO:Expr->Bool
 |.Call _ _ _ _=>_f
 |_=>_t
theorem DX{name:Str}{w:Sem A3}(h:QO o=_t):L0 o name env w=w:=by cases o<;>first|rfl|(cases h)
def Xi(r:Rec)(C:Cf)(Γ:Gm)(d:ou)(i:Nat)(es:List Expr):Option CE:=if es.length < 29&&(Γ.getD i _n).isSome then(r.A C Γ [] es).bind λc=>if c.Γ.getD i _n==_s 1 then _s ⟨0,c.Γ,c.js++[i],On d.T i d.p (AN c.as)⟩ else _n else _n
theorem Oj(h:(e::es).all noStar=_t)(d:(e::es).length < 29):((R8 pos (E5 (e::es) env)).all (λx=>!x.1)&&(backToKw pos (keywordEach [] env)).all (λx=>x.1.isSome)
     &&decide ((e::es).length+([]:List S2).length+(if([]:List S2).isEmpty then 0 else 1) < 30))=true:=by
  rw[Xy h];show(_t&&_t&&decide _)=_t;simp only[M8,Bool.true_and,decide_eq_true_eq,il,List.isEmpty_nil,if_true];omega
variable{apos:Pos}
theorem TF(R:kI r){d:ou}(ok:j9 C X)(hi:Ip C o=_s i)(l:(apos.endLine==pos.line)=_t)(h:Xi r C Γ d i es=_s c):PE X (.Call (.Attribute o d.x apos) es [] pos) (tE X.K Γ c.o c.Γ c.js c.f):=by
 unfold Xi at h;split at h;rename_i h0;simp only[A1,decide_eq_true_eq]at h0;refine jy h λg e1 h=>?_;split at h;rename_i h1;cases h;obtain⟨w,v,u,j,t⟩:=R.A ok e1;obtain⟨id,q,q1,q2,q3,q4,q5⟩:=d.ok X ok.gx;have m:=Bp ok hi;have k:L0 o d.x X.env (L7 o X.env)=L7 o X.env:=DX (by cases o<;>first|rfl|(cases hi));have run:∀{σ H Q},tE X.K Γ 0 g.Γ (g.js++[i]) (On d.T i d.p (AN g.as)) σ H Q->Yz X.K d.T q (Bf i) (BI X.K g.as) σ H Q:=λh=>SG q5 d.hT v (t rfl) (getD_some h0.2) (Aq (beq_iff_eq.mp h1)) h;cases es with
 |nil=>have e:g.as=[]:=I9 u;refine PE.imp (Ny q1 q2 q3 q4 m k l) λσ H Q h=>?_;have:=run h;rw[e]at this;exact this
 |cons e es=>have n:=j;rw[J0,A1]at j;exact PE.imp (UM q1 q2 q3 q4 m w k (Oj n h0.1) l (AO j.1) (BR j.2)) λσ H Q h=>run h
 cases h;cases h
def aX(r:Rec)(C:Cf)(Γ:Gm)(d:nM)(o:Expr)(es:List Expr):Option CE:=if es.length < 29&&QO o then(Ez r C Γ _t o).bind λx=>(r.A C x.Γ (E6 es.length _t) es).bind λc=>if EA x.a c.Γ then _s ⟨d.o,c.Γ,x.js++c.js,XG d.T x.a c.as d.f⟩ else _n else _n
theorem JM(R:kI r){d:nM}(ok:j9 C X)(m:(apos.endLine==pos.line)=_t)(hn:d.n=es.length)(h:aX r C Γ d o es=_s c):PE X (.Call (.Attribute o d.x apos) es [] pos) (tE X.K Γ c.o c.Γ c.js c.f):=by
 unfold aX at h;split at h;rename_i h0;simp only[A1,decide_eq_true_eq]at h0;refine jy h λx v h=>?_;refine jy h λg e1 h=>?_;split at h;rename_i h1;cases h;obtain⟨k,_,u⟩:=CZ R ok v;obtain⟨z,y,w,j,B⟩:=R.A ok e1;obtain⟨id,t,q1,q2,q3,q4,q5⟩:=d.ok X ok.gx;have l:L0 o d.x X.env (L7 o X.env)=L7 o X.env:=DX h0.2;have hT:=d.hT;have run:∀{σ H Q},tE X.K Γ d.o g.Γ (x.js++g.js) (XG d.T x.a g.as d.f) σ H Q->Yz X.K d.T t (Ms X.K x.a) (BI X.K g.as) σ H Q:=λh=>We q5 hT (u y h1) h;cases es with|nil=>have e:g.as=[]:=I9 w;refine PE.imp (Ny q1 q2 q3 q4 k l m) λσ H Q h=>?_;have:=run h;rw[e]at this;exact this|cons e es=>have q:=j;rw[J0,A1]at j;exact PE.imp (UM q1 q2 q3 q4 k z l (Oj q h0.1) m (AO j.1) (BR j.2)) λσ H Q h=>run h
 cases h;cases h
def XX(d g:CE):Option CE:=if d.o==g.o&&d.Γ==g.Γ&&d.js==g.js then _s ⟨d.o,d.Γ,d.js,Lx (Au d.Γ d.js) (XF d.f g.f)⟩ else _n
theorem So{g d:CE}(h1:PE X e (tE X.K Γ g.o g.Γ g.js g.f))(h2:PE X e (tE X.K Γ d.o d.Γ d.js d.f))(h:XX g d=_s c):PE X e (tE X.K Γ c.o c.Γ c.js c.f):=by
 unfold XX at h;split at h;rename_i h0;simp only[A1,beq_iff_eq]at h0;obtain⟨⟨e1,e2⟩,e3⟩:=h0;cases h;rw[<- e1,<- e2,<- e3]at h2;intro pins s σ H Q I q;rcases VW (GQ (λi o z=>Ax z) (λi z=>Al z) q)with q|q
 exact h1 pins s σ H Q I q;exact h2 pins s σ H Q I q;cases h
def Uo(r:Rec)(C:Cf)(Γ:Gm)(d:ou)(i:Nat)(f:Str)(es:List Expr):Option CE:=_n
theorem QE(R:kI r){d:ou}{q:Nat×Str}(ok:j9 C X)(hi:Qg C o=_s q)(g:(apos.endLine==pos.line)=_t)(h:Uo r C Γ d q.1 q.2 es=_s c):PE X (.Call (.Attribute o d.x apos) es [] pos) (tE X.K Γ c.o c.Γ c.js c.f):=by cases h
def Uq(r:Rec)(C:Cf)(Γ:Gm)(d:Str)(s:kd)(i:Nat)(es:List Expr):Option CE:=_n
theorem QF(R:kI r){d cl:Str}(ok:j9 C X)(hs:(d,s)∈C.fs)(g:s.cl=_s cl)(hi:Ip C o=_s i)(j:(apos.endLine==pos.line)=_t)(h:Uq r C Γ d s i es=_s c):PE X (.Call (.Attribute o d apos) es [] pos) (tE X.K Γ c.o c.Γ c.js c.f):=by cases h
def Ur(r:Rec)(C:Cf)(Γ:Gm)(s:kd)(x:Str)(es:List Expr):Option CE:=_n
theorem QG(R:kI r)(ok:j9 C X)(hs:(("__init__" : Str),s)∈C.fs)(d:s.cl=_s x)(g:Gl X x)(hn:Cp x=_t)(h:Ur r C Γ s x es=_s c):PE X (.Call (.Name x p) es [] pos) (tE X.K Γ c.o c.Γ c.js c.f):=by cases h
def cv(r:Rec)(C:Cf)(Γ:Gm)(o:Expr)(es:List Expr):List nM->Option CE
 |[]=>_n
 |[d]=>aX r C Γ d o es
 |d::f::_=>(aX r C Γ d o es).bind λh=>(aX r C Γ f o es).bind λg=>XX h g
def Kk(r:Rec)(C:Cf)(Γ:Gm)(f:Expr)(es:List Expr)(pos:Pos):Option CE:=match f with
  |.Name x _=>if Cy C.sc x&&Cp x then(match C.fs.find? λp=>p.1==x&&p.2.cl==_n with
      |some p=>Xg r C Γ p.2 es
      |none=>match C.fs.find? λp=>p.1==("__init__" : Str)&&p.2.cl==_s x with
      |some p=>Ur r C Γ p.2 x es
      |none=>(C.T.calls.find? λe=>e.x==x&&e.n==es.length).bind λd=>if C.bl.contains x then Pu r C Γ d es else _n)else _n
  |.Attribute o name apos=>if apos.endLine==pos.line then(match C.T.sG.find? λe=>e.x==name&&e.n==es.length with
      |some d=>(match Qg C o with
        |some q=>Uo r C Γ d q.1 q.2 es
        |none=>(Ip C o).bind λi=>Xi r C Γ d i es)
      |none=>match C.fs.find? λp=>p.1==name&&p.2.cl != _n with
        |some p=>(Ip C o).bind λi=>Uq r C Γ name p.2 i es
        |none=>cv r C Γ o es (C.T.meths.filter λe=>e.x==name&&e.n==es.length))else _n
  |_=>_n
variable{f:Expr}
theorem QK(R:kI r)(ok:j9 C X)(h:Kk r C Γ f es pos=_s c):PE X (.Call f es [] pos) (tE X.K Γ c.o c.Γ c.js c.f):=by
 cases f with
 |Name x p=>simp only[Kk]at h;split at h;rename_i h0;rw[A1]at h0;split at h;rename_i k g;have e:=K1 g;simp only[A1,beq_iff_eq]at e;have hm:=M1 g;exact TB R ok (s:=k.2) ⟨by rw[<- e.1];exact hm,e.2⟩ (BM ok h0.1) h0.2 h;split at h;rename_i k g;have e:=K1 g;simp only[A1,beq_iff_eq]at e;have hm:=M1 g;exact QG R ok (s:=k.2) (by rw[<- e.1];exact hm) e.2 (BM ok h0.1) h0.2 h;replace h:=kb h;obtain⟨d,e1,h⟩:=h;split at h;rename_i v;have e:=K1 e1;simp only[A1,beq_iff_eq]at e;obtain⟨rfl,_⟩:=e;exact Pt R ok (B9.mp v) (BM ok h0.1) h0.2 h;cases h;cases h
 |Attribute o name apos=>
  simp only[Kk]at h;split at h;rename_i j;split at h;rename_i d l;have e:=K1 l;simp only[A1,beq_iff_eq]at e;obtain⟨rfl,_⟩:=e;split at h;rename_i q u;exact QE R ok u j h;refine jy h λi e1 h=>?_;exact TF R ok e1 j h;split at h;rename_i k g;have e:=K1 g;simp only[A1,beq_iff_eq,bne_iff_ne,ne_eq]at e;obtain⟨cl,t⟩:=Option.ne_none_iff_exists'.mp e.2;have hm:=M1 g;refine jy h λi e1 h=>?_;exact QF R ok (s:=k.2) (by rw[<- e.1];exact hm) t e1 j h;have hm:∀d∈C.T.meths.filter λe=>e.x==name&&e.n==es.length,d.x=name/\d.n=es.length:=λd l=>by have:=(N7.mp l).2;simp only[A1,beq_iff_eq]at this;exact this
  revert h hm
  generalize (C.T.meths.filter λe=>e.x==name&&e.n==es.length)=L;intro h hm
  match L,hm,h with
  |[],hm,h=>cases h
  |[d],hm,h=>obtain⟨rfl,e2⟩:=hm d B8;exact JM R ok j e2 h
  |d::m::_,hm,h=>refine jy h λy e1 h=>?_;refine jy h λw e2 h=>?_;obtain⟨q1,q2⟩:=hm d B8;obtain⟨q3,q4⟩:=hm m (B5 _ B8);have p1:=JM (pos:=pos) (apos:=apos) R ok j q2 e1;have p2:=JM (pos:=pos) (apos:=apos) R ok j q4 e2;rw[q1]at p1;rw[q3]at p2;exact So p1 p2 h
  cases h
 |_=>cases h
theorem ng.{u}{α:Type u}{x:α}{P:Prop}(h:(_n:Option α)=_s x):P:=by cases h
noncomputable def bI:Expr->Option Str
 |.Name x _=>_s x
 |_=>_n
theorem IG(h:bI e=_s x):∃p,e=.Name x p:=by
 cases e with|Name y p=>exact⟨p,by rw[B2 h]⟩|_=>exact ng h
noncomputable def ba:Expr->Option (Expr×List Expr×Pos)
 |.Call f es ks p=>bif ks.isEmpty then _s (f,es,p)else _n
 |_=>_n
theorem Mc{q:Expr×List Expr×Pos}(h:ba e=_s q):e=.Call q.1 q.2.1 [] q.2.2:=by
 cases e with
 |Call f es ks p=>
  cases ks with|nil=>rw[<- B2 h]|cons _ _=>exact ng h
 |_=>exact ng h
noncomputable def bc:Expr->Option (Expr×Str×Pos)
 |.Attribute o n p=>_s (o,n,p)
 |_=>_n
theorem Me{q:Expr×Str×Pos}(h:bc e=_s q):e=.Attribute q.1 q.2.1 q.2.2:=by
 cases e with|Attribute o n p=>rw[<- B2 h]|_=>exact ng h
noncomputable def y1.{u}{α:Type u}(l:List α):Option α:=bif l.length==1 then l.head? else _n
theorem mE.{u}{α:Type u}{l:List α}{a:α}(h:y1 l=_s a):l=[a]:=by
 cases l with
 |nil=>exact ng h
 |cons b t=>
  cases t with|nil=>rw[B2 h]|cons _ _=>exact ng h
noncomputable def y2.{u}{α:Type u}(l:List α):Option (α×α):=l.head?.bind λa=>(y1 l.tail).bind λb=>_s (a,b)
theorem pk.{u}{α:Type u}{l:List α}{q:α×α}(h:y2 l=_s q):l=[q.1,q.2]:=by
 cases l with|nil=>exact ng h|cons b t=>refine jy h λa e h=>?_;refine jy h λc e2 h=>?_;rw[<- B2 h,mE (l:=t) e2,B2 (e:_s b=_s a)]
noncomputable def YZ:Expr->Bool
 |.List es _=>es.isEmpty
 |_=>_f
theorem Ql(h:YZ e=_t):∃p,e=.List [] p:=by
 cases e with
 |List es p=>
  cases es with|nil=>exact⟨p,rfl⟩|cons _ _=>exact(B4 h).elim
 |_=>exact(B4 h).elim
def La(s u:Str)(f:Expr)(es:List Expr):Option (List Expr):=(bI f).bind λx=>(y1 es).bind λc=>(ba c).bind λq=>(bI q.1).bind λy=>if x==s&&y==u then _s q.2.1 else _n
theorem Bi{s u:Str}{as:List Expr}(h:La s u f es=_s as):∃p p2 d,f=.Name s p/\es=[.Call (.Name u p2) as [] d]:=by refine jy h λx e1 h=>?_;refine jy h λc e2 h=>?_;refine jy h λq e3 h=>?_;refine jy h λy g h=>?_;split at h;rename_i e;have v:=B2 h;rw[A1,beq_iff_eq,beq_iff_eq]at e;obtain⟨rfl,rfl⟩:=e;obtain⟨p,rfl⟩:=IG e1;obtain⟨p2,w⟩:=IG g;exact⟨p,p2,q.2.2,rfl,by rw[mE e2,Mc e3,w,v]⟩;exact ng h
noncomputable def KR(f:Expr)(es:List Expr):Option (Expr×Pos):=match f with
 |.Attribute o m d=>if m==("get" : Str)&&es.length==2 then _s (o,d)else _n
 |_=>_n
theorem JB{d:Pos}(h:KR f es=_s (o,d)):f=.Attribute o "get" d/\es.length=2:=by unfold KR at h;split at h;split at h;rename_i e;rw[A1,beq_iff_eq,beq_iff_eq]at e;cases h;exact⟨by rw[e.1],e.2⟩;cases h;cases h
def Xq(r:Rec)(C:Cf)(Γ:Gm)(o:Expr)(es:List Expr):Option CE:=_n
theorem TL(R:kI r)(ok:j9 C X)(d:(apos.endLine==pos.line)=_t)(hn:es.length=2)(h:Xq r C Γ o es=_s c):PE X (.Call (.Attribute o "get" apos) es [] pos) (tE X.K Γ c.o c.Γ c.js c.f):=by cases h
def Vh(f:Expr):Option (Expr×Expr×Pos):=(bc f).bind λp=>(ba p.1).bind λq=>(bc q.1).bind λs=>(y2 q.2.1).bind λk=>if(s.2.1==("setdefault" : Str)&&p.2.1==("append" : Str))&&(YZ k.2&&s.2.2.endLine==q.2.2.line)then _s (s.1,k.1,p.2.2)else _n
theorem LJ{k:Expr}{j:Pos}(h:Vh f=_s (o,k,j)):∃m g l,f=.Attribute (.Call (.Attribute o "setdefault" m) [k,.List [] g] [] l) "append" j/\(m.endLine==l.line)=true:=by refine jy h λp e1 h=>?_;refine jy h λq e2 h=>?_;refine jy h λs e3 h=>?_;refine jy h λk2 d h=>?_;split at h;rename_i e;rw[A1,A1,A1,beq_iff_eq,beq_iff_eq]at e;obtain⟨g,n⟩:=Ql e.2.1;have h:=B2 h;have d:=pk d;rw[n]at d;exact⟨s.2.2,g,q.2.2,by rw[Me e1,Mc e2,Me e3,d,e.1.1,e.1.2,<- (Prod.mk.inj h).1,<- (Prod.mk.inj (Prod.mk.inj h).2).1,<- (Prod.mk.inj (Prod.mk.inj h).2).2],e.2.2⟩;exact ng h
def Xd(r:Rec)(C:Cf)(Γ:Gm)(i:Nat)(k e:Expr):Option CE:=_n
theorem Sw(R:kI r){k:Expr}{j l g d:Pos}(ok:j9 C X)(hi:Ip C o=_s i)(m:(j.endLine==g.line)=_t)(n:(d.endLine==pos.line)=_t)(h:Xd r C Γ i k e=_s c):PE X (.Call (.Attribute (.Call (.Attribute o "setdefault" j) [k,.List [] l] [] g) "append" d) [e] [] pos) (tE X.K Γ c.o c.Γ c.js c.f):=by cases h
def Et(r:Rec)(C:Cf)(Γ:Gm)(f:Expr)(es:List Expr)(pos:Pos):Option CE:=match KR f es with
 |some p=>if p.2.endLine==pos.line then Xq r C Γ p.1 es else _n
 |none=>match Vh f with
  |some p=>(match es with
   |[e]=>if p.2.2.endLine==pos.line then(Ip C p.1).bind λi=>Xd r C Γ i p.2.1 e else _n
   |_=>_n)
  |none=>Kk r C Γ f es pos
theorem MQ(R:kI r)(ok:j9 C X)(h:Et r C Γ f es pos=_s c):PE X (.Call f es [] pos) (tE X.K Γ c.o c.Γ c.js c.f):=by
 unfold Et at h;cases e1:KR f es with
 |some p=>rw[e1]at h;obtain⟨rfl,hn⟩:=JB e1;replace h:(if p.2.endLine==pos.line then Xq r C Γ p.1 es else _n)=_s c:=h;split at h;rename_i d;exact TL R ok d hn h;cases h
 |none=>
  rw[e1]at h;cases e2:Vh f with
  |some p=>
   rw[e2]at h;obtain⟨l,j,k,rfl,g⟩:=LJ e2;cases es with
   |nil=>cases h
   |cons e es=>
    cases es with|cons _ _=>cases h|nil=>replace h:(if p.2.2.endLine==pos.line then(Ip C p.1).bind λi=>Xd r C Γ i p.2.1 e else _n)=_s c:=h;split at h;rename_i d;refine jy h λi hi h=>?_;exact Sw R ok hi g d h;cases h
  |none=>rw[e2]at h;exact QK R ok h
def Ge(C:Cf)(x:Str):Option Nat:=if Cp x then(match C.sc.names.lookup x with
 |some .local=>BP C.N x
 |some .cell=>if C.fn x then BP C.N x else _n
 |_=>_n)else _n
theorem Gd(ok:j9 C X)(h:Ge C x=_s i):X.N[i]?=_s x/\Loc X.env.scope x/\(X.fn x=_t\/X.env.scope.names.lookup x=_s .local):=by unfold Ge at h;split at h;split at h;rename_i e;rw[ok.N,ok.sc];exact⟨Af h,.inl e,.inr e⟩;rename_i e;split at h;rename_i d;rw[ok.N,ok.sc];exact⟨Af h,.inr e,.inl (ok.fn x d)⟩;cases h;cases h;cases h
theorem Kq(ok:j9 C X)(h:Ge C x=_s i):PG X (.Name x pos) (BX i):=by obtain⟨h1,h2,h3⟩:=Gd ok h;exact Rp ok.nd h1 h2 h3
def YH(C:Cf):List Expr->Option (List Nat)
 |[]=>_s []
 |.Name x _::es=>(Ge C x).bind λi=>(YH C es).bind λJ=>_s (i::J)
 |_::_=>_n
theorem Mn{C:Cf}{X:Cx}(ok:j9 C X):∀{es:List Expr}{J:List Nat},YH C es=_s J->YD X es (CP J)/\(J6 es X.env).length=J.length/\(J6 es X.env).findIdx? (·.1)=_n
 |[],J,h=>by cases h;exact⟨Jw,rfl,rfl⟩
 |e::es,J,h=>by
  cases e with|Name x pos=>refine jy (show(Ge C x).bind (λi=>(YH C es).bind λJ=>_s (i::J))=_s J from h) λi e1 h=>?_;refine jy h λd e2 h=>?_;cases h;obtain⟨h1,h2,h3⟩:=Mn ok e2;refine⟨EY (Kq ok e1) h1 rfl,?_,?_⟩;show(J6 es X.env).length+1=_;rw[h2];rfl;show List.findIdx? (·.1) ((_f,S9 (.Name x pos) X.env)::J6 es X.env)=_n;rw[List.findIdx?_cons,h3];rfl|_=>cases h
structure CG:Type 1 where
 J:List Nat
 f:Tg
 g:W.Frag->TG
 Γ:Gm->Gm
def ML(C:Cf)(e:Expr):Option CG:=match e with
 |.Name x _=>(Ge C x).map λi=>⟨[i],Yk i,λ_=>BX i,λΓ=>Γ.set i (_s 0)⟩
 |.Tuple es _ _=>(YH C es).map λJ=>⟨J,de J,λK=>Of K J.length (CP J),λΓ=>NQ Γ J (_s 0)⟩
 |_=>_n
theorem JN{c:CG}(ok:j9 C X)(h:ML C e=_s c):PG X e (c.g X.K)/\(∀js,(∀i∈c.J,i∈js)->MW js (c.g X.K))/\∀{K Γ},c.J.all (λi=>decide (i < Γ.length))=_t->IF K Γ (c.Γ Γ) c.J (c.g K) c.f:=by
 cases e with
 |Name x pos=>
  cases q:Ge C x with|none=>simp only[ML,q]at h;cases h|some i=>simp only[ML,q]at h;cases h;exact⟨Kq ok q,λjs d=>Od (d i (K4 _)),λh=>Qz (by simpa using h)⟩
 |Tuple es k pos=>
  cases q:YH C es with|none=>simp only[ML,q]at h;cases h|some J=>simp only[ML,q]at h;cases h;obtain⟨h1,h2,h3⟩:=Mn ok q;exact⟨PG.or (Nl ok.calm h1 h2 h3) (Nm ok.calm h1 h2 h3),λjs d=>Oc (KN (Cz J d)) (KQ (Cz J d)),λh=>Mo (by simpa using h)⟩
 |_=>cases h
theorem Hm{c:CG}(h:ML C e=_s c):(∀K,Qa (c.g K))/\(∀Γ,(c.Γ Γ).length=Γ.length)/\(∀es env,J6 (e::es) env=(_f,S9 e env)::J6 es env):=by
 cases e with
 |Name x pos=>
  cases q:Ge C x with|none=>simp only[ML,q]at h;cases h|some i=>simp only[ML,q]at h;cases h;exact⟨λ_=>FY,λ_=>C8 ..,λ_ _=>rfl⟩
 |Tuple es k pos=>
  cases q:YH C es with|none=>simp only[ML,q]at h;cases h|some J=>simp only[ML,q]at h;cases h;exact⟨λ_=>OH (Eg J),λ_=>NP ..,λ_ _=>rfl⟩
 |_=>cases h
def fX(C:Cf)(e1 e2:Expr):Option CG:=(ML C e1).bind λh=>(ML C e2).bind λd=>_s ⟨h.J++d.J,dZ h.f d.f,λK=>Of K 2 (Bj (h.g K) (Bj (d.g K) HZ)),λΓ=>d.Γ (h.Γ Γ)⟩
def cG(C:Cf)(e:Expr):Option CG:=match ML C e with
 |some c=>_s c
 |none=>match e with
  |.Tuple [e1,e2] _ _=>fX C e1 e2
  |_=>_n
theorem Kg{c:CG}(ok:j9 C X)(h:cG C e=_s c):PG X e (c.g X.K)/\(∀js,(∀i∈c.J,i∈js)->MW js (c.g X.K))/\∀{K Γ},c.J.all (λi=>decide (i < Γ.length))=_t->IF K Γ (c.Γ Γ) c.J (c.g K) c.f:=by
 unfold cG at h;split at h;rename_i D q;cases h;exact JN ok q;split at h;rename_i e1 e2 k pos _;refine jy h λB q1 h=>?_;refine jy h λA q2 h=>?_;cases h;obtain⟨p1,y,v⟩:=JN ok q1;obtain⟨p2,w,u⟩:=JN ok q2;obtain⟨z,l1,t⟩:=Hm q1;obtain⟨j,l2,n⟩:=Hm q2;have d:J6 [e1,e2] X.env=[(_f,S9 e1 X.env),(_f,S9 e2 X.env)]:=by rw[t,n];rfl
 have l:YD X [e1,e2] (Bj (B.g X.K) (Bj (A.g X.K) HZ)):=EY p1 (EY p2 Jw (by rw[n];rfl)) (by rw[t];rfl);refine⟨PG.or (Nl ok.calm l (by rw[d];rfl) (by rw[d];rfl)) (Nm ok.calm l (by rw[d];rfl) (by rw[d];rfl)),λjs m=>?_,fun{K Γ} h=>?_⟩;have g:=El (z X.K) (FZ (j X.K) Ef) (y js λi hi=>m i (C2 _ hi)) (El (j X.K) Ef (w js λi hi=>m i (B3 _ hi)) HX);exact Oc (KN g) (KQ g);rw[List.all_append,A1]at h;exact Qy (v h.1) (u (by rw[l1];exact h.2));cases h
def cu(r:Rec)(C:Cf)(Γ:Gm)(d:tu)(es:List Expr):Option CI:=(r.A C Γ [] es).bind λc=>_s ⟨c.Γ,c.js,UY d.f (AN c.as)⟩
def Xb(r:Rec)(C:Cf)(Γ:Gm)(e:Expr):Option CI:=(r.E C Γ e).bind λc=>_s ⟨c.Γ,c.js,KZ c.f⟩
def NB(r:Rec)(C:Cf)(Γ:Gm)(tt:Bool)(e:Expr):Option CI:=match e with
  |.Call (.Name x _) es [] _=>(match C.T.rZ.find? λd=>d.x==x&&d.n==es.length&&(!d.tt||tt)with
      |some d=>if Cy C.sc x&&C.bl.contains x&&(C.fs.find? λp=>p.1==x).isNone then cu r C Γ d es else _n
      |none=>Xb r C Γ e)
  |e=>Xb r C Γ e
theorem NA(R:kI r){c:CI}(tg:Expr)(ok:j9 C X)(h:NB r C Γ (Iu tg) e=_s c):PI X tg e (tI X.K Γ c.Γ c.js c.f):=by
 have seq:Xb r C Γ e=_s c->PI X tg e (tI X.K Γ c.Γ c.js c.f):=λh=>by refine jy h λk e1 h=>?_;cases h;exact aA (EU (R.E ok e1))
 unfold NB at h;split at h;rename_i x p es pos;split at h;rename_i j g;split at h;rename_i h0;simp only[A1]at h0;have e:=K1 g;simp only[A1,beq_iff_eq]at e;obtain⟨⟨rfl,hn⟩,d⟩:=e;refine jy h λk e1 h=>?_;cases h;obtain⟨q,n,u,m,l⟩:=R.A ok e1;obtain⟨t,q1,q2⟩:=j.ok X ok.gx;exact PI.imp (q2 tg es p pos _ (λz=>by rw[z]at d;simpa using d) hn.symm m (BM ok h0.1.1) (ok.bl _ (B9.mp h0.1.2)) q) λ_ _ _ h=>RF q1 n (l rfl) h;cases h;exact seq h;exact seq h
def ET(scope sc:G9):G9:={scope with names:=scope.names.map fun(n,k)=>if(k==.free&&sc.kind==.function&&sc.names.lookup n==_s .cell)then(n,.cell)else(n,k)}
def Cf.inner(C:Cf)(scope:G9):Cf:={C with sc:=ET scope C.sc,fn:=AL scope}
theorem j9.inner(ok:j9 C X)(scope:G9)(cl:List (Str×A6))(a:A6)(s:A5)(H:Hp)(fp:List A6):j9 (C.inner scope) (X.inner scope cl a s H fp) where
 N:=ok.N
 sc:=by show relabel scope X.env=ET scope C.sc;unfold relabel ET jJ;rw[ok.sc]
 nd:=ok.nd
 calm:=ok.calm
 fn:=λ_ h=>h
 room:=ok.room
 fs:=ok.fs
 cs:=ok.cs
 bl:=ok.bl
 xe:=rfl
 xc:=ok.xc
noncomputable def Rv(N:List Str)(scope:G9):List Nat:=(D0 N.length).filter λi=>match N[i]? with
 |some x=>(match scope.names.lookup x with|some .local=>_t|some .cell=>_t|_=>_f)
 |none=>_f
structure CC:Type 1 where
 t:CG
 c:CT
 e:CE
def Jd(r:Rec)(C:Cf)(j6:Gm)(tg:CG)(ifs:List Expr)(d:Expr):Option CC:=if tg.J.all (λi=>decide (i < j6.length))then(match ifs with
 |[]=>_s (CT.mk (tg.Γ j6) [] DA)
 |[c]=>r.T C (tg.Γ j6) c
 |_=>_n).bind λc=>(r.E C c.Γ d).bind λe=>_s ⟨tg,c,e⟩ else _n
def XB(r:Rec)(C:Cf)(tg:CG)(ifs:List Expr)(d:Expr):Nat->Gm->Option (Gm×CC)
 |0,_=>_n
 |n+1,j6=>(Jd r C j6 tg ifs d).bind λx=>if BH j6 x.c.Γ&&BH j6 x.e.Γ then _s (j6,x)else XB r C tg ifs d n (BF j6 (BF x.c.Γ x.e.Γ))
def JP(r:Rec)(C:Cf)(Γ:Gm)(g:Expr)(gens:List Q7)(scope:G9):Option CE:=match gens with
  |[⟨tg,iter,ifs,0⟩]=>(match iter with|.Set _ _ _=>_n|_=>r.I C Γ (Iu tg) iter).bind λs=>let d:=Rv C.N scope;if kc C.N C.sc scope d then(cG (C.inner scope) tg).bind λt=>(XB r (C.inner scope) t ifs g 4 (Hr d s.Γ)).bind λp=>
      let J:=Au p.1 (t.J++(p.2.c.js++p.2.e.js))
      if BH p.1 (Hr d s.Γ)&&t.J.all d.contains&&(J.isEmpty||ifs.isEmpty)then _s ⟨1,Gu d s.Γ p.1,s.js++(t.J++(p.2.c.js++p.2.e.js)),match J,ifs with
        |[],[]=>Oo s.f t.f p.2.e.f
        |[],_=>Oq s.f t.f p.2.c.f p.2.e.f
        |J,_=>Kb s.f t.f J p.2.e.f⟩ else _n else _n
  |_=>_n
theorem KU{r:Rec}{C:Cf}{tg:CG}{ifs:List Expr}{d:Expr}:∀{n:Nat}{Γ:Gm}{p:Gm×CC},XB r C tg ifs d n Γ=_s p->Jd r C p.1 tg ifs d=_s p.2/\BH p.1 p.2.c.Γ=_t/\BH p.1 p.2.e.Γ=_t
 |0,_,_,h=>by cases h
 |n+1,Γ,p,h=>by refine jy (show(Jd r C Γ tg ifs d).bind _=_s p from h) λx e1 h=>?_;split at h;rename_i g;rw[A1]at g;cases h;exact⟨e1,g.1,g.2⟩;exact KU h
theorem WT:Uw X [] (tT X.K Γ Γ [] DA):=λpins s σ H Q I h=>by obtain⟨g,m,P,r,R,k,res,e,q⟩:=h;exact wpAny_tests_nil ⟨H,I,q _t m g P H e BA.refl Step.refl r⟩
variable{gens:List Q7}{scope:G9}
theorem JO(R:kI r){k:Expr}{pos:Pos}(ok:j9 C X)(h:JP r C Γ k gens scope=_s c) :
    ∃t:TE,(∀σ H Q,tE X.K Γ c.o c.Γ c.js c.f σ H Q->t σ H Q)/\PE X (.ListComp k gens scope pos) t/\∀{i x d A},X.N[i]?=_s x->Loc X.env.scope x->(X.fn x=_t\/X.env.scope.names.lookup x=_s .local)->N0 (.ListComp k gens scope pos) (_s (.Name x d)) A.line X.env=pure _t->PS X (.Assign [.Name x d] (.ListComp k gens scope pos) A) (Gj t (BX i)):=by
  unfold JP at h;split at h;rename_i tg iter ifs;refine jy h λs e1 h=>?_;simp only at h;split at h;rename_i V;refine jy h λt e2 h=>?_;refine jy h λp e3 h=>?_;split at h;rename_i m;rw[A1,A1]at m;obtain⟨m,B⟩:=m;cases h;obtain⟨l,f2,v⟩:=KU e3;unfold Jd at l;split at l;rename_i W;refine jy l λct G l=>?_;refine jy l λn U l=>?_;have Z:p.2=⟨t,ct,n⟩:=(B2 l).symm;have hs:∀x,K3 iter X.env x=pure x:=λx=>by cases iter<;>first|rfl|(cases e1)
  have Y:r.I C Γ (Iu tg) iter=_s s:=by cases iter<;>first|exact e1|(cases e1)
  have hi:=R.I tg ok Y;have q:=λcl a s H fp=>ok.inner scope cl a s H fp;have D:∀cl a s H fp,PG (X.inner scope cl a s H fp) tg (t.g X.K):=λcl a s H fp=>(Kg (q cl a s H fp) e2).1;have z:∀i∈t.J,i∈Rv C.N scope:=λi hi=>B9.mp ((D6.mp m.2) i hi);have y:MW (Rv C.N scope) (t.g X.K):=(Kg (q [] 0 X.kP X.H₀ []) e2).2.1 _ z;have P:IF X.K p.1 (t.Γ p.1) t.J (t.g X.K) t.f:=(Kg (q [] 0 X.kP X.H₀ []) e2).2.2 W;have F:∀cl a s H fp,PE (X.inner scope cl a s H fp) k (tE X.K ct.Γ 0 n.Γ n.js n.f):=λcl a s H fp=>EU (R.E (q cl a s H fp) U);have w:kc X.N X.env.scope scope (Rv C.N scope)=true:=by rw[ok.N,ok.sc];exact V
  rw[Z]at f2 v B ⊢;simp only at f2 v B ⊢;cases ifs with
  |nil=>
    cases G;have u:∀cl a s H fp,Uw (X.inner scope cl a s H fp) [] (tT X.K (t.Γ p.1) (t.Γ p.1) [] DA):=λcl a s H fp=>WT;refine⟨_,?_,HF w ok.calm hi D y u F hs,fun{i x d A} M O S L=>HD ok.nd M O w ok.calm hi D y u F L hs S⟩;intro σ H Q h;cases hJ:Au p.1 (t.J++([]++n.js))with|nil=>rw[hJ]at h;exact OI P m.1 v f2 z hJ.symm h|cons j J=>rw[hJ]at h;exact MD P m.1 v f2 z hJ.symm h
  |cons i1 ifs=>
    cases ifs with
    |nil=>
      have u:∀cl a s H fp,Uw (X.inner scope cl a s H fp) [i1] (tT X.K (t.Γ p.1) ct.Γ ct.js ct.f):=λcl a s H fp=>.one (R.T (q cl a s H fp) G);refine⟨_,?_,HF w ok.calm hi D y u F hs,fun{i x d A} M O S L=>HD ok.nd M O w ok.calm hi D y u F L hs S⟩;intro σ H Q h;cases hJ:Au p.1 (t.J++(ct.js++n.js))with|nil=>rw[hJ]at h;exact OJ P m.1 v f2 z hJ.symm h|cons j J=>rw[hJ]at B;cases B
    |cons _ _=>cases G
  cases l;cases h;cases h;cases h
def Ho(r:Rec)(C:Cf)(Γ:Gm)(d:Expr)(gens:List Q7)(scope:G9):Option CE:=JP r C Γ d gens scope
theorem Fl(R:kI r){d:Expr}{pos:Pos}(ok:j9 C X)(h:Ho r C Γ d gens scope=_s c) :
    ∃t:TE,(∀σ H Q,tE X.K Γ c.o c.Γ c.js c.f σ H Q->t σ H Q)/\PE X (.ListComp d gens scope pos) t/\∀{i x g j},X.N[i]?=_s x->Loc X.env.scope x->(X.fn x=_t\/X.env.scope.names.lookup x=_s .local)->N0 (.ListComp d gens scope pos) (_s (.Name x g)) j.line X.env=pure _t->PS X (.Assign [.Name x g] (.ListComp d gens scope pos) j) (Gj t (BX i)):=by
  exact JO R ok h
theorem Hn(R:kI r){d:Expr}(ok:j9 C X)(h:Ho r C Γ d gens scope=_s c):PE X (.ListComp d gens scope pos) (tE X.K Γ c.o c.Γ c.js c.f):=by obtain⟨t,h1,h2,_⟩:=Fl (pos:=pos) R ok h;exact PE.imp h2 h1
end R
namespace R
open PySem L2 XC
def Ym(K:W.Frag)(f:Str)(i:Nat):TE:=λσ H Q=>∃a C dx T v,σ[i]?=_s (_s (.ref a))/\H a=_s (.ext (ku a C (_s dx) T))/\oF K C f/\H dx=_s (.xd [(f,v)])/\Q v H
theorem Np{Y:Cx}{f:Str}{i:Nat}{o:Expr}{pos:Pos}(k:PE Y o (Bf i))(m:L0 o f Y.env (L7 o Y.env)=L7 o Y.env):PE Y (.Attribute o f pos) (Ym Y.K f i):=λpins s σ H Q I ⟨a,C,dx,T,v,h1,h2,cl,h3,q⟩=>by
 refine Kn m (Ah (k pins s σ H (λy c=>y=.ref a/\c=H) I ⟨.ref a,h1,rfl,rfl⟩) λu s1 ⟨y,c,b,e,n,p⟩=>?_);subst n p;obtain rfl:u=D9 a:=e;obtain⟨⟨vs,sl,h,_⟩,_,_⟩:=b.kD a _ h2;obtain⟨mA,ns,g⟩:=b.kD dx _ h3;have l:([(f,v)]:List (Str×V)).lookup f=_s v:=by simp only[E2,beq_self_eq_true]
 obtain⟨u,j,d⟩:=FC.some_of (v:=v) (o:=mA f) (by rw[<- l];exact g f);exact Ye b.lN cl h rfl ns j (Fh d) ⟨v,c,b.tok _,d,q⟩
noncomputable def JE(d:Dv)(f:Str):Option Dv:=match d with
 |.mB _ g x=>bif g==f then _s x else _n
 |_=>_n
def Ou(i:Nat)(f:Str):Ev Dv:=λ_ m k=>(JE (m.at i) f).bind λd=>k d m
theorem Oh{K:W.Frag}{Γ:Gm}{i:Nat}{f:Str}{σ:St}{H:Hp}{Q:VK}(hi:Γ[i]?=_s (_s 0))(h:tE K Γ 0 Γ [] (Ou i f) σ H Q):Ym K f i σ H Q:=by
 obtain⟨g,m,P,r,R,k,res,e,q⟩:=h;refine jy e λd b e=>?_;obtain⟨n,P1,j,rv,_⟩:=r.nC hi;cases hm:m.at i with
 |mB c g' x=>
  rw[hm]at b rv;have l:g'=f/\x=d:=by
   replace b:(bif g'==f then _s x else _n)=_s d:=b;cases z:g'==f with|true=>rw[z]at b;exact⟨eq_of_beq z,B2 b⟩|false=>rw[z]at b;cases b
  obtain⟨rfl,rfl⟩:=l;unfold Rep at rv;obtain⟨a,dx,w,rfl,h1,h2,h3,⟨h4,h5,h6⟩,_⟩:=rv;exact⟨a,_,dx,_,w,j,h1,h5,h4,q x m g P j4 w H e BA.refl (Step.refl.less λ_ z=>z.elim id C9) h6 r λ_ _ z=>z⟩
 |_=>rw[hm]at b;cases b
noncomputable def HL(c f:Str):List Dv->Option Dv
 |[d]=>_s (.mB c f d)
 |_=>_n
section
variable{X:Cx}{Γ Γ':Gm}{js:List Nat}{as:List Ar}{c f:Str}{e:Expr}{p pos:Pos}{k:Nat}{fI:A6}{fd:G4}{ps:List Str}
theorem ZJ(M:tq X.K (AJ X.K c) f fI)(F:kL X.prog X.w X.K X.mg X.base Dz k fI fd ps (lL (AJ X.K c) f))(C:ps.length=2)(B:kG (k+1) X.A)(E:Gl X c)(hm:X.mg c=_s (.ref (AJ X.K c)))(I:L2.Binds X.K fd ps [])
    (ha:PA X [e] (BI X.K as)) (ch:AE Γ as Γ' js) (ev:IE as=_t) (y:(c==("__debug__" : Str))=_f) (G:E5 [e] X.env=(_f,L7 e X.env)::E5 [] X.env) :
    PE X (.Call (.Name c p) [e] [] pos) (tE X.K Γ 1 Γ' js (CQ (HL c f) (AN as))):=PE.imp (Nn M F C B E hm I ha y G) λσ H Q q=>by
  obtain⟨g,m,P,r,R,k,res,e,q⟩:=q;refine AK as r ch e λds m' g' P' vs j D L s J n=>?_;have h:=J.mL ev;refine jy D λd e1 e2=>?_
  match ds,e1,h with
  |[x],e1,h=>
    cases e1;unfold AA at h;obtain⟨v,N,P1,P2,rfl,h1,h2,_,_⟩:=h;unfold AA at h2;obtain⟨rfl,_⟩:=h2;refine⟨v,rfl,λa dx i nd ne=>?_⟩;have l:Dd j (upd (upd (upd j a (.ext (Ku a (AJ X.K c)))) dx (.xd [(f,v)])) a (.ext (ku a (AJ X.K c) (_s dx) .none))):=λb o z=>by rw[AC (AI z i),AC (AI z nd),AC (AI z i)];exact z
    have nw:Ak X.K g' j 1 (.mB c f x) (.ref a) (upd (upd (upd j a (.ext (Ku a (AJ X.K c)))) dx (.xd [(f,v)])) a (.ext (ku a (AJ X.K c) (_s dx) .none))):=by refine⟨l,λb=>b=a,?_,λb q=>q▸i⟩;unfold Rep;exact⟨a,dx,v,rfl,AF,(λz=>by cases z),λ_ z=>n.zd a z i,⟨by rw[AC ne,AF],M.cl,h1.z.held (Step.same (g:=g') (P:=j4) l) kF.j4 λ_ z=>z.elim⟩,λb=>⟨λz=>⟨by decide,z⟩,λz=>z.2⟩⟩
    obtain⟨Pv,s2,h1,t,u⟩:=Ak.go s n nw;exact q _ m' g' P' Pv _ _ e2 L s2 h1 t u
  |[],e1,_=>cases e1
  |_::_::_,e1,_=>cases e1
end
def cq(r:Rec)(C:Cf)(Γ:Gm)(x:Str)(e:Expr):Option CE:=(BB.lookup x).bind λf=>if Cy C.sc x&&Cp x&&noStar e then(r.A C Γ [] [e]).bind λc=>_s ⟨1,c.Γ,c.js,CQ (HL x f) (AN c.as)⟩ else _n
theorem XU{r:Rec}(R:kI r){C:Cf}{X:Cx}{Γ:Gm}{x:Str}{e:Expr}{p pos:Pos}{c:CE}(ok:j9 C X)(h:cq r C Γ x e=_s c):PE X (.Call (.Name x p) [e] [] pos) (tE X.K Γ c.o c.Γ c.js c.f):=by refine jy h λf i h=>?_;split at h;rename_i h4;refine jy h λca e1 h=>?_;cases h;simp only[A1]at h4;obtain⟨n,m,s,q,l⟩:=R.A ok e1;obtain⟨⟨j,g,b⟩,a⟩:=ok.xc;obtain⟨fI,fd,ps,M,F,d,hm,k⟩:=a x f (E1 i);exact ZJ M F d (b.mono g) (BM ok h4.1.1) hm k n m (l rfl) (AS h4.1.2).1 (AO h4.2);cases h
noncomputable def Qm:Expr->List Expr->List S2->Option (Str×Expr)
 |.Name x _,[e],[]=>_s (x,e)
 |_,_,_=>_n
theorem Ky{f:Expr}{es:List Expr}{ks:List S2}{q:Str×Expr}(h:Qm f es ks=_s q):∃p,f=.Name q.1 p/\es=[q.2]/\ks=[]:=by unfold Qm at h;split at h;cases h;exact⟨_,rfl,rfl,rfl⟩;cases h
end R
namespace Q
open PySem L2
end Q
namespace HT
open PySem PyProof.Rows
section
variable{prog:D4}{w:E8}{A:F2}{E:A3->A5->Prop}{s:A5}
theorem Hb{c d:Type}{f g:c->Option d}:∀{l:List c},(∀a∈l,f a=g a)->l.filterMap f=l.filterMap g
 |[],_=>rfl
 |a::l,h=>by rw[K6,K6,h a B8,Hb λb e=>h b (B5 _ e)]
theorem Hs(n:Nat):H9 _n _n (-1) (n:Int)=((n:Int)-1,-1):=by unfold H9;rfl
theorem HE(n:Nat):F4 ((n:Int)-1) (-1) (-1)=n:=by
 unfold F4;have h1:¬((-1:Int) > 0):=by omega
 simp only[h1,if_false];have h2:(-(-1:Int))=1:=by decide
 simp only[h2,jV];split<;>omega
theorem LR(xs:Array A3):((D0 xs.size).filterMap fun(m:Nat)=>xs[((xs.size:Int)-1+(m:Int) * (-1)).toNat]?).toArray=xs.toList.reverse.toArray:=by
 have e:(D0 xs.size).filterMap (fun(m:Nat)=>xs[((xs.size:Int)-1+(m:Int) * (-1)).toNat]?)=((D0 xs.size).map λk=>xs.size-1-k).filterMap (xs[·]?):=by
  rw[V8];refine Hb λm hm=>?_;have hm:=L6.mp hm;have:((xs.size:Int)-1+(m:Int) * (-1)).toNat=xs.size-1-m:=by omega
  show _=xs[xs.size-1-m]?;rw[this]
 rw[e,W.krv_range,List.filterMap_reverse,W.krv_all]
theorem lB{t sl:A6}{items:Array A3}{k:Tok}{Q:A3->A5->Prop}(c:IsTup s.heap t items)(hs:s.heap.IsSliceOf sl .none .none (.int (-1) k))
    (h:Q (.ref s.heap.objs.size) {s with heap:=s.heap.push {cls:=.type "tuple", data:=.seq items.toList.reverse.toArray} })
    (i:items.size<=sizeLine):B7 (C0 prog w) A (U8 (.ref t) (.ref sl)) Q E s:=by
  have b:sizeOk (.seq items.toList.reverse.toArray):=by show items.toList.reverse.toArray.size<=sizeLine;rw[A8,U4,Q4];exact i
  obtain⟨os,a,g,d⟩:=id hs;have f:s.TypeIs (.ref sl) "slice" := ⟨os,a,g⟩;unfold U8
  try with_reducible refine E9 ?_
  first|refine A0 (A7 ?_)|skip
  refine A0 (X2 c.typeIs `d ?_);refine A0 (R5 (name:=hG "__getitem__") c.typeIs D7
    (P8 D7 c.typeIs U1 ?_ (V9 _ _)))
  show B7 _ _ (L5 (.ref t) >>= _) _ _ s;refine A0 (gV c ?_);refine A0 (U9 f ?_);rw[if_pos `d];have j:∀{A':F2}{Q:Int×Int×Nat->A5->Prop},Q ((items.size:Int)-1,-1,items.size) s->B7 (C0 prog w) A' (L8 (.ref sl) (pure (items.size:Int))) Q E s:=fun{A' Q} h=>by unfold L8 W9;refine A0 (A0 (K0 a d (x:=.none) rfl (A0 (K0 a d (x:=.none) rfl (A0 (K0 a d (x:=.int (-1) k) rfl (A7 ?_)))))));refine A0 (Cw (.int (-1) k) ?_);show B7 _ _ (if((-1:Int)==0)=_t then _ else _) _ _ s;rw[if_neg `d];refine A0 (V7 (A0 (V7 (A0 (A7 ?_)))));show B7 _ _ (match H9 _n _n (-1) (items.size:Int)with|(lo,hi)=>pure (lo,(-1:Int),F4 lo hi (-1))) _ _ s;rw[Hs];show B7 _ _ (pure (((items.size:Int)-1),(-1:Int),F4 ((items.size:Int)-1) (-1) (-1))) _ _ s;rw[HE];exact A7 h
  refine A0 (j ?_);have e:¬((((items.size:Int)-1)==0&&(-1:Int)==1&&items.size==items.size)=_t):=by intro q;rw[A1,A1]at q;exact absurd q.1.2 `d
  show B7 _ _ (if(((items.size:Int)-1)==0&&(-1:Int)==1&&items.size==items.size)=_t then _ else _) _ _ s;rw[if_neg e,LR]
  first
    |exact A0 (m:=F7 _) (F9 (A7 ⟨_,rfl,A7 h⟩) b)
    |exact A0 (m:=F7 _) (F9 (A0 (A7 (A7 ⟨_,rfl,A7 h⟩))) b)
    |exact A0 (A0 (m:=F7 _) (F9 (A7 (A7 ⟨_,rfl,A7 h⟩)) b))
    |exact A0 (A0 (m:=F7 _) (F9 (A7 ⟨_,rfl,A7 h⟩) b))
end
end HT
namespace L2
open PySem PySem.Spec PyProof.Rows
section
variable{X:Cx}{e st:Expr}{te ts:TE}{pos p2:Pos}
abbrev Ys(K:W.Frag)(te ts:TE):TE:=λσ H Q=>te σ H λx d=>ts σ d λy c=>∃a xs b,x=.ref a/\y=.int (-1)/\bA K c a xs b/\∀p,c p=_n->Q (.ref p) (upd c p (bif b then .tup xs.reverse else .lst xs.reverse))
theorem Rr(K:W.Frag)(D:PE X e te)(C:PE X st ts)(E:X.K=K:=by rfl)(u:∀o i,∃ops,gF (.Slice _n _n (_s st) p2) _f o i=operate ops (U8 o i):=by intro o i;exact⟨_,by with_unfolding_all rfl⟩):PE X (.Subscript e (.Slice _n _n (_s st) p2) pos) (Ys K te ts):=by
 subst E;intro pins s σ H Q I h;refine jD (Ah (D pins s σ H _ I h) λv s1 ⟨x,L,G,B,q1⟩=>?_);refine wpAny_Slice ?_;rw[gW];refine A7 ?_;refine A7 ?_;rw[evalPart_some];refine Ah (C pins s1 σ L _ G q1) λvs c ⟨y,J,F,z,q3⟩=>?_;obtain⟨a,xs,b,rfl,rfl,p,q⟩:=q3;cases B;obtain⟨t,rfl⟩:=z;have f:Inv X pins σ J {c with heap:=c.heap.push {cls:=.type "slice", data:=.fields #[.none,.none,.int (-1) t]} }:=F.kept (t':=c.toks) λb n q=>B0 _ q;show B7 (C0 X.prog X.w) X.A (X9 e (.Slice _n _n (_s st) p2) (.ref a) (.ref c.heap.objs.size)) (EP X pins σ Q) X.xe {c with heap:=c.heap.push {cls:=.type "slice", data:=.fields #[.none,.none,.int (-1) t]} };obtain⟨ops,m⟩:=u (.ref a) (.ref c.heap.objs.size);cases b with|false=>obtain⟨d,r,g,k⟩:=f.list p;have j:=r.length;refine jE (ops:=ops) g.isList.typeIs X3.lookup ?_ m;refine Y0 g.isList (W0 ..) .none .none (.int (-1) t) `d ?_ (by rw[A8];omega);rw[W.krv_pick];rw[show d.toArray.toList.reverse=d.reverse by simp];have l:=f.laid (t':=c.toks) (o:=.lst xs.reverse) (h':=(c.heap.push {cls:=.type "slice", data:=.fields #[.none,.none,.int (-1) t]}).push {cls:=.type "list", data:=.seq d.reverse.toArray}) (λb n q=>B0 _ q) (C7 _) ⟨by rw[U4];exact k,d.reverse,0,EK r,E7 _ rfl⟩;exact⟨.ref _,_,l,rfl,q _ (f.kD.fresh (C7 _))⟩|true=>obtain⟨d,r,g,k⟩:=f.tuple p;have j:=r.length;refine jE (ops:=ops) g.typeIs D7.lookup ?_ m;refine HT.lB g (W0 ..) ?_ (by rw[A8];omega);rw[show d.toArray.toList.reverse=d.reverse by simp];have l:=f.laid (t':=c.toks) (o:=.tup xs.reverse) (h':=(c.heap.push {cls:=.type "slice", data:=.fields #[.none,.none,.int (-1) t]}).push {cls:=.type "tuple", data:=.seq d.reverse.toArray}) (λb n q=>B0 _ q) (C7 _) ⟨by rw[U4];exact k,d.reverse,EK r,Hw.new _ _⟩;exact⟨.ref _,_,l,rfl,q _ (f.kD.fresh (C7 _))⟩
end
end L2
namespace Q
open PySem L2
end Q
namespace R
open PySem L2
def Zt(f:Expr)(es:List Expr):Option (List Expr):=(La "list" "range" f es).bind λas=>bif as.isEmpty then _n else _s as
variable{f:Expr}{es:List Expr}
theorem Li{as:List Expr}(h:Zt f es=_s as):∃p a c p2 b,f=.Name "list" p/\as=a::c/\es=[.Call (.Name "range" p2) (a::c) [] b]:=by
 refine jy h λq e h=>?_;obtain⟨p,p2,b,rfl,rfl⟩:=Bi e;cases q with|nil=>exact ng h|cons a t=>exact⟨p,a,t,p2,b,rfl,(B2 h).symm,rfl⟩
def eQ(r:Rec)(C:Cf)(Γ:Gm)(as:List Expr):Option CE:=_n
def Yj(f:Expr)(es:List Expr):Option (List Expr):=(La "tuple" "range" f es).bind λas=>bif as.isEmpty then _n else _s as
theorem LB{as:List Expr}(h:Yj f es=_s as):∃p a c p2 b,f=.Name "tuple" p/\as=a::c/\es=[.Call (.Name "range" p2) (a::c) [] b]:=by
 refine jy h λq e h=>?_;obtain⟨p,p2,b,rfl,rfl⟩:=Bi e;cases q with|nil=>exact ng h|cons a t=>exact⟨p,a,t,p2,b,rfl,(B2 h).symm,rfl⟩
def eK(r:Rec)(C:Cf)(Γ:Gm)(as:List Expr):Option CE:=_n
def Zs(f:Expr)(es:List Expr):Option Expr:=(La "list" "reversed" f es).bind y1
variable{a:Expr}
theorem Lh(h:Zs f es=_s a):∃p p2 b,f=.Name "list" p/\es=[.Call (.Name "reversed" p2) [a] [] b]:=by refine jy h λq e h=>?_;rw[<- mE h];exact Bi e
def eO(r:Rec)(C:Cf)(Γ:Gm)(a:Expr):Option CE:=_n
variable{r:Rec}{C:Cf}{X:Cx}{Γ:Gm}{p p2 kQ pos:Pos}
theorem Xl(R:kI r){c:CE}(ok:j9 C X)(h:eO r C Γ a=_s c):PE X (.Call (.Name "list" p) [.Call (.Name "reversed" p2) [a] [] kQ] [] pos) (tE X.K Γ c.o c.Γ c.js c.f):=by cases h
theorem Xm(R:kI r){b:List Expr}{c:CE}(ok:j9 C X)(h:eQ r C Γ (a::b)=_s c):PE X (.Call (.Name "list" p) [.Call (.Name "range" p2) (a::b) [] kQ] [] pos) (tE X.K Γ c.o c.Γ c.js c.f):=by cases h
theorem XZ(R:kI r){b:List Expr}{c:CE}(ok:j9 C X)(h:eK r C Γ (a::b)=_s c):PE X (.Call (.Name "tuple" p) [.Call (.Name "range" p2) (a::b) [] kQ] [] pos) (tE X.K Γ c.o c.Γ c.js c.f):=by cases h
def XT(n m:Str)(f:Expr)(es:List Expr):Option Expr:=(La n m f es).bind y1
theorem Fk{n m:Str}(h:XT n m f es=_s a):∃p p2 kQ,f=.Name n p/\es=[.Call (.Name m p2) [a] [] kQ]:=by refine jy h λq e h=>?_;rw[<- mE h];exact Bi e
def eM(r:Rec)(C:Cf)(Γ:Gm)(a:Expr):Option CE:=_n
theorem Xc(R:kI r){c:CE}(ok:j9 C X)(h:eM r C Γ a=_s c):PE X (.Call (.Name "sorted" p) [.Call (.Name "set" p2) [a] [] kQ] [] pos) (tE X.K Γ c.o c.Γ c.js c.f):=by cases h
def eR(r:Rec)(C:Cf)(Γ:Gm)(a:Expr):Option CE:=_n
theorem Xn(R:kI r){c:CE}(ok:j9 C X)(h:eR r C Γ a=_s c):PE X (.Call (.Name "list" p) [.Call (.Name "enumerate" p2) [a] [] kQ] [] pos) (tE X.K Γ c.o c.Γ c.js c.f):=by cases h
def aM(f:Expr)(es:List Expr):Option (Expr×Expr):=(La "dict" "zip" f es).bind y2
variable{b:Expr}
theorem Ly(h:aM f es=_s (a,b)):∃p p2 kQ,f=.Name "dict" p/\es=[.Call (.Name "zip" p2) [a,b] [] kQ]:=by refine jy h λq e h=>?_;rw[<- (pk h:q=[a,b])];exact Bi e
def eT(r:Rec)(C:Cf)(Γ:Gm)(a b:Expr):Option CE:=_n
theorem Xt(R:kI r){c:CE}(ok:j9 C X)(h:eT r C Γ a b=_s c):PE X (.Call (.Name "dict" p) [.Call (.Name "zip" p2) [a,b] [] kQ] [] pos) (tE X.K Γ c.o c.Γ c.js c.f):=by cases h
noncomputable def dD(f:Expr)(es:List Expr):Bool:=match f with
 |.Name x _=>x==("all" : Str)&&(match es with|[.ListComp ..]=>_t|_=>_f)
 |_=>_f
def fY(r:Rec)(C:Cf)(Γ:Gm)(f:Expr)(es:List Expr)(pos:Pos):Option CE:=(Et r C Γ f es pos).bind λc=>if dD f es&&!(c.Γ==Γ)then(match Et r C (fS Γ) f es pos with
 |some d=>if d.js.all λi=>(Γ.getD i _n).isNone then _s ⟨1,Γ,d.js,XH d.f⟩ else _s c
 |none=>_s c)else _s c
def JR(r:Rec)(C:Cf)(Γ:Gm)(f:Expr)(es:List Expr)(pos:Pos):Option CE:=match Zt f es with
 |some as=>eQ r C Γ as
 |none=>match Zs f es with
  |some a=>eO r C Γ a
  |none=>match Yj f es with
   |some as=>eK r C Γ as
   |none=>match XT "sorted" "set" f es with
    |some a=>eM r C Γ a
    |none=>match XT "list" "enumerate" f es with
     |some a=>eR r C Γ a
     |none=>match aM f es with
      |some p=>eT r C Γ p.1 p.2
      |none=>Et r C Γ f es pos
theorem MR(R:kI r){c:CE}(ok:j9 C X)(h:JR r C Γ f es pos=_s c):PE X (.Call f es [] pos) (tE X.K Γ c.o c.Γ c.js c.f):=by unfold JR at h;split at h;rename_i as e;obtain⟨p,a,d,p2,kQ,rfl,rfl,rfl⟩:=Li e;exact Xm R ok h;split at h;rename_i a e;obtain⟨p,p2,kQ,rfl,rfl⟩:=Lh e;exact Xl R ok h;split at h;rename_i as e;obtain⟨p,a,d,p2,kQ,rfl,rfl,rfl⟩:=LB e;exact XZ R ok h;split at h;rename_i a e;obtain⟨p,p2,kQ,rfl,rfl⟩:=Fk e;exact Xc R ok h;split at h;rename_i a e;obtain⟨p,p2,kQ,rfl,rfl⟩:=Fk e;exact Xn R ok h;split at h;rename_i q e;obtain⟨p,p2,kQ,rfl,rfl⟩:=Ly e;exact Xt R ok h;exact MQ R ok h
noncomputable def Zy:Expr->Bool
 |.Constant (.int n) _ _=>n==1
 |_=>_f
variable{e:Expr}
theorem SS(h:Zy e=_t):∃p q,e=.Constant (.int 1) p q:=by
 cases e with
 |Constant c p q=>
  cases c with|int n=>rw[show n=1 from beq_iff_eq.mp h];exact⟨p,q,rfl⟩|_=>exact(B4 h).elim
 |_=>exact(B4 h).elim
def Zx:Expr->Bool
 |.UnaryOp .USub a _=>Zy a
 |_=>_f
theorem SO(h:Zx e=_t):∃p q s,e=.UnaryOp .USub (.Constant (.int 1) p q) s:=by
 cases e with
 |UnaryOp o a s=>
  cases o with|USub=>obtain⟨p,q,rfl⟩:=SS h;exact⟨p,q,s,rfl⟩|_=>exact(B4 h).elim
 |_=>exact(B4 h).elim
def Xe(r:Rec)(C:Cf)(Γ:Gm)(a st:Expr):Option CE:=if Zx st then(Fw r C Γ a st).bind λp=>_s ⟨1,p.2.Γ,jj p,CQ (two C.T.rv) (AN [p.1.a,p.2.a])⟩ else _n
theorem Sx(R:kI r){st:Expr}{c:CE}(ok:j9 C X)(h:Xe r C Γ a st=_s c):PE X (.Subscript a (.Slice _n _n (_s st) p2) pos) (tE X.K Γ c.o c.Γ c.js c.f):=by unfold Xe at h;split at h;rename_i hm;refine jy h λp e1 h=>?_;cases h;obtain⟨h1,h2,h3⟩:=DZ R ok e1;obtain⟨_,_,_,rfl⟩:=SO hm;exact PE.imp (Rr X.K h1 h2 rfl (by intro o i;exact⟨_,by with_unfolding_all rfl⟩)) λ_ _ _ h=>Bh (C.T.rn X ok.gx) h3 h;cases h
def Wg(f:Expr)(es:List Expr)(ks:List S2):Option (Expr×Expr):=(bI f).bind λx=>(y1 es).bind λa=>(y1 ks).bind λk=>k.arg.bind λy=>if x==("max" : Str)&&y==("default" : Str)then _s (a,k.value)else _n
theorem Lf{ks:List S2}{q:Expr×Expr}(h:Wg f es ks=_s q):∃p kp,f=.Name "max" p/\es=[q.1]/\ks=[⟨_s "default", q.2,kp⟩]:=by refine jy h λx e1 h=>?_;refine jy h λa e2 h=>?_;refine jy h λk e3 h=>?_;refine jy h λy g h=>?_;split at h;rename_i e;have v:=B2 h;rw[A1,beq_iff_eq,beq_iff_eq]at e;obtain⟨rfl,rfl⟩:=e;obtain⟨p,rfl⟩:=IG e1;obtain⟨b,c,d⟩:=k;rw[<- v,<- (show b=_ from g)];exact⟨p,d,rfl,mE e2,mE e3⟩;exact ng h
def eN(r:Rec)(C:Cf)(Γ:Gm)(a e:Expr):Option CE:=_n
theorem Xj(R:kI r){kp:Pos}{c:CE}(ok:j9 C X)(h:eN r C Γ a e=_s c):PE X (.Call (.Name "max" p) [a] [⟨_s "default", e,kp⟩] pos) (tE X.K Γ c.o c.Γ c.js c.f):=by cases h
def Gb(r:Rec)(C:Cf)(Γ:Gm)(f:Expr)(es:List Expr)(ks:List S2)(pos:Pos):Option CE:=match ks with
 |[]=>JR r C Γ f es pos
 |k::ks=>match Wg f es (k::ks)with
  |some q=>eN r C Γ q.1 q.2
  |none=>_n
theorem MS(R:kI r){ks:List S2}{c:CE}(ok:j9 C X)(h:Gb r C Γ f es ks pos=_s c):PE X (.Call f es ks pos) (tE X.K Γ c.o c.Γ c.js c.f):=by
 cases ks with
 |nil=>exact MR R ok h
 |cons k ks=>
  cases q:Wg f es (k::ks)with|none=>unfold Gb at h;simp only[q]at h;cases h|some z=>unfold Gb at h;simp only[q]at h;obtain⟨p,kp,e1,e2,e3⟩:=Lf q;rw[e1,e2,e3];exact Xj R ok h
def Ov(i:Nat)(f:Str):Ev Dv:=λ_ m k=>(fld (m.at i) f).bind λd=>k d m
theorem OG{K:W.Frag}{i o:Nat}{f:Str}{σ:St}{H:Hp}{Q:VK}(hi:Γ[i]?=_s (_s o))(h:tE K Γ o (Γ.set i _n) [] (Ov i f) σ H Q):RE K (Bf i) f σ H Q:=by obtain⟨g,m,P,r,R,k,res,e,q⟩:=h;refine jy e λd A e=>?_;obtain⟨v,B,Pb,ev,_,rv,j,n,u⟩:=r.take hi;obtain⟨a,C,dx,fs,w,P1,P2,rfl,h1,t,hn,s,l,dj,c,_⟩:=EH rv A;exact⟨_,ev,a,C,dx,fs,w,rfl,h1,t,hn,s,q d m g Pb P1 w H e BA.refl (Step.refl.less λb z=>(u b).mpr (z.elim .inr λz=>.inl ((c b).mpr (.inl z)))) l j λb x y=>n b ((c b).mpr (.inl y)) x⟩
def Us(C:Cf)(Γ:Gm)(o:Expr)(f:Str):Option CE:=(Ip C o).bind λi=>if Γ.getD i _n==_s 0 then _s ⟨0,Γ,[],Ou i f⟩ else _n
theorem QH{o:Expr}{f:Str}{c:CE}(ok:j9 C X)(h:Us C Γ o f=_s c):PE X (.Attribute o f pos) (tE X.K Γ c.o c.Γ c.js c.f):=by refine jy h λi hi h=>?_;split at h;rename_i h1;cases h;exact PE.imp (Np (Bp ok hi) (Em hi)) λ_ _ _ h=>Oh (Aq (eq_of_beq h1)) h;cases h
def Ga(r:Rec)(C:Cf)(Γ:Gm)(f:Expr)(es:List Expr)(ks:List S2)(pos:Pos):Option CE:=match(Qm f es ks).bind λq=>cq r C Γ q.1 q.2 with
 |some c=>_s c
 |none=>Gb r C Γ f es ks pos
theorem MP(R:kI r){ks:List S2}{c:CE}(ok:j9 C X)(h:Ga r C Γ f es ks pos=_s c):PE X (.Call f es ks pos) (tE X.K Γ c.o c.Γ c.js c.f):=by
 cases q:(Qm f es ks).bind λq=>cq r C Γ q.1 q.2 with|some g=>unfold Ga at h;rw[q]at h;cases h;refine jy q λp e1 e2=>?_;obtain⟨d,rfl,rfl,rfl⟩:=Ky e1;exact XU R ok e2|none=>unfold Ga at h;rw[q]at h;exact MS R ok h
def UB(r:Rec)(C:Cf)(Γ:Gm)(e:Expr):Option CE:=match e with
 |.Constant k _ _=>QJ Γ k
 |.Name x _=>QD C Γ x
 |.BinOp a op b _=>ah r C Γ a op b
 |.UnaryOp .USub a _=>aW r C Γ a
 |.UnaryOp .Not a _=>aV r C Γ a
 |.Compare a [op] [b] _=>(JQ r C Γ a op b).map YV
 |.Compare a [op,d] [b,c] _=>(MO r C Γ a op b d c).map YV
 |.BoolOp op vs pos=>NF r C Γ op vs pos
 |.IfExp c a b _=>aZ r C Γ c a b
 |.Call f es ks pos=>Ga r C Γ f es ks pos
 |.Tuple es _ _=>aS r C Γ es
 |.List es _=>aY r C Γ es
 |.Dict [] [] _=>_s ⟨1,Γ,[],Om⟩
 |.Subscript a (.Slice lo hi _n _) _=>eL r C Γ a lo hi
 |.Subscript a (.Slice _n _n (_s st) _) _=>Xe r C Γ a st
 |.Subscript a b _=>if Ec b then cw r C Γ a b else _n
 |.ListComp e gens sc _=>Ho r C Γ e gens sc
 |.Attribute o f _=>Us C Γ o f
 |_=>_n
theorem NC(R:kI r){c:CE}(ok:j9 C X)(h:UB r C Γ e=_s c):PE X e (tE X.K Γ c.o c.Γ c.js c.f):=by
 match e,h with
 |.Constant k j pos,h=>exact MM h
 |.Name x pos,h=>exact QC ok h
 |.BinOp a op b pos,h=>exact TR R ok h
 |.UnaryOp op a pos,h=>
  cases op with|USub=>exact TC R ok h|Not=>refine jy (show(r.E C Γ a).bind _=_s c from h) λl e1 h=>?_;cases h;exact PE.imp (WQ (EU (R.E ok e1))) λ_ _ _ h=>VX h|_=>cases h
 |.Compare a ops bs pos,h=>
  match ops,bs,h with
  |[op],[b],h=>
   cases q:JQ r C Γ a op b with|none=>replace h:(JQ r C Γ a op b).map YV=_s c:=h;rw[q]at h;cases h|some t=>replace h:(JQ r C Γ a op b).map YV=_s c:=h;rw[q]at h;cases h;exact(Ki R ok q).2 1
  |[op,g],[b,d],h=>
   cases q:MO r C Γ a op b g d with|none=>replace h:(MO r C Γ a op b g d).map YV=_s c:=h;rw[q]at h;cases h|some t=>replace h:(MO r C Γ a op b g d).map YV=_s c:=h;rw[q]at h;cases h;exact(Kj R ok q).2 1
  |[],_,h=>cases h
  |[_],[],h=>cases h
  |[_],_::_::_,h=>cases h
  |[_,_],[],h=>cases h
  |[_,_],[_],h=>cases h
  |[_,_],_::_::_::_,h=>cases h
  |_::_::_::_,_,h=>cases h
 |.BoolOp op vs pos,h=>exact LF R ok h
 |.IfExp c a b pos,h=>exact TK R ok h
 |.Call f es ks pos,h=>exact MP R ok h
 |.Tuple es k pos,h=>exact Sr R ok h
 |.List es pos,h=>exact TJ R ok h
 |.Dict ks vs pos,h=>
  cases ks with
  |nil=>
   cases vs with|nil=>cases h;exact ZO|cons _ _=>cases h
  |cons _ _=>cases h
 |.Subscript a b pos,h=>
  have ix:Ec b=_t->(if Ec b then cw r C Γ a b else _n)=_s c->PE X (.Subscript a b pos) (tE X.K Γ c.o c.Γ c.js c.f):=λi h=>by rw[if_pos i]at h;exact Xo R ok i h
  match b,h with
  |.Slice lo hi st p2,h=>
   cases st with
   |none=>exact Xa R ok h
   |some st=>
    cases lo with
    |none=>
     cases hi with|none=>exact Sx R ok h|some _=>cases h
    |some _=>cases h
  |.NamedExpr ..,h|.BinOp ..,h|.Lambda ..,h|.Dict ..,h|.Set ..,h|.ListComp ..,h|.SetComp ..,h|.DictComp ..,h|.GeneratorExp ..,h|.Await ..,h|.Yield ..,h|.YieldFrom ..,h|.Call ..,h|.FormattedValue ..,h|.JoinedStr ..,h|.Constant ..,h|.Attribute ..,h|.Subscript ..,h|.Starred ..,h|.Name ..,h|.List ..,h|.Tuple ..,h|.UnaryOp ..,h|.BoolOp ..,h|.IfExp ..,h|.Compare ..,h=>exact ix rfl h
 |.ListComp e gens sc pos,h=>exact Hn R ok h
 |.Attribute o f pos,h=>exact QH ok h
 |.NamedExpr ..,h|.Lambda ..,h|.Set ..,h|.SetComp ..,h|.DictComp ..,h|.GeneratorExp ..,h|.Await ..,h|.Yield ..,h|.YieldFrom ..,h|.FormattedValue ..,h|.JoinedStr ..,h|.Starred ..,h|.Slice ..,h=>cases h
noncomputable def SD:Expr->Bool
 |.ListComp ..=>_f
 |.SetComp ..=>_f
 |.DictComp ..=>_f
 |_=>_t
theorem Gk{t:Option Expr}{l:Nat}{env:Env}(h:SD e=_t):N0 e t l env=pure false:=by cases e<;>first|rfl|(cases h)
theorem Mh{K:W.Frag}{Γ' i:Gm}{js:List Nat}{o:Nat}{f:Ev Dv}{σ:St}{H:Hp}{Q:VK}(l:BH i Γ'=_t)(h:tE K Γ o i js f σ H Q):tE K Γ o Γ' js f σ H Q:=by obtain⟨g,m,P,r,R,k,res,e,q⟩:=h;refine⟨g,m,P,r,R,k,res,e,λb m' g' P' Pv v H' t w s rv c n=>?_⟩;obtain⟨u,P2,s2,j⟩:=c.weaken l;have d:BG Pv P':=λa q z=>n a z q;refine q b m' u P2 Pv v H' t w (s.trans ((s2.frame (R:=Pv)).sub (λ_ z=>z) λ_ z=>z)) (rv.held s2 c.kA d) j λa q z=>s2.out rv.kA d a z q
def NM(Γ:Gm):CS:=⟨_s Γ,[],Eo,_f,_f,_f⟩
def aU(r:Rec)(C:Cf)(Γ:Gm)(e:Expr):Option CS:=(match Ip C e with
 |some i=>(match Γ.getD i _n with|some o=>_s (CE.mk o (Γ.set i _n) [] (KW i))|none=>_n)
 |none=>(match Qg C e with
  |some q=>if Γ.getD q.1 _n==_s 1&&!C.F.io.contains q.1 then _s (CE.mk 1 (Γ.set q.1 _n) [] (Ov q.1 q.2))else r.E C Γ e
  |none=>r.E C Γ e)).bind λc=>if BH C.F.pI c.Γ&&(C.F.ro==0||c.o==C.F.ro)then _s ⟨_n,c.js,Ua c.f,_t,_f,_f⟩ else _n
variable{j6:Option Gm}{c:CS}
theorem Sy(R:kI r)(ok:j9 C X)(h:aU r C Γ e=_s c):PS X (.Return (_s e) pos) (tS X.K C.F j6 Γ c.Γ c.js c.f):=by
  refine jy h λg e1 h=>?_;split at h;rename_i j;simp only[A1,ir,beq_iff_eq]at j;cases h;have l:PE X e (tE X.K Γ g.o g.Γ g.js g.f):=by split at e1;rename_i i hi;split at e1;rename_i o n;cases e1;exact ZM (Bp ok hi) (Aq n);cases e1;split at e1;rename_i q d;split at e1;rename_i k;rw[A1]at k;cases e1;unfold Qg at d;split at d;split at d;obtain⟨i,hi,d⟩:=K8.mp d;cases d;exact PE.imp (Nv (Bp ok hi) (Em hi)) λ_ _ _ h=>OG (Aq (eq_of_beq k.1)) h;cases d;cases d;exact R.E ok e1;exact R.E ok e1
  have m:PE X e (tE X.K Γ C.F.ro g.Γ g.js g.f):=by
    rcases j.2 with z|z
    rw[z];exact EU l;rw[<- z];exact l
  exact ZD (PE.imp m λ_ _ _ h=>Mh j.1 h);cases h
def Ui(C:Cf)(Γ:Gm):Option CS:=_n
theorem Pq(h:Ui C Γ=_s c):PS X (.Return _n pos) (tS X.K C.F j6 Γ c.Γ c.js c.f):=by cases h
def Xr(r:Rec)(C:Cf)(Γ:Gm)(e:Expr):Option CS:=if SD e then(r.E C Γ e).bind λc=>_s ⟨_s c.Γ,c.js,Ow c.f,_f,_f,_f⟩ else _n
theorem Kh(R:kI r)(ok:j9 C X)(h:Xr r C Γ e=_s c):PS X (.Expr e pos) (tS X.K C.F j6 Γ c.Γ c.js c.f):=by unfold Xr at h;split at h;rename_i hn;refine jy h λd e1 h=>?_;cases h;exact Vn (R.E ok e1) (Gk hn);cases h
def Kf(C:Cf)(x:Str)(c:CE):Option CS:=(Ge C x).bind λi=>if decide (i < c.Γ.length)&&!C.F.io.contains i then _s ⟨_s (c.Γ.set i (_s c.o)),c.js++[i],Ox c.f (Yk i),_f,_f,_f⟩ else _n
variable{x:Str}{pos':Pos}
theorem Hl{d:CE}(ok:j9 C X)(j:PE X e (tE X.K Γ d.o d.Γ d.js d.f))(hs:N0 e (_s (.Name x pos')) pos.line X.env=pure _f)(h:Kf C x d=_s c):PS X (.Assign [.Name x pos'] e pos) (tS X.K C.F j6 Γ c.Γ c.js c.f):=by refine jy h λi e1 h=>?_;split at h;rename_i g;simp only[A1,decide_eq_true_eq,G5]at g;cases h;obtain⟨h1,h2,h3⟩:=Gd ok e1;exact ZC ok.nd h1 h2 (λz=>by rw[B9.mpr z]at g;cases g.2) g.1 j hs h3;cases h
def bw(sc:G9)(x:Str)(g:Nat)(scope:G9)(d:Nat):Bool:=(if sc.kind.isAnnotationScope then ScopeKind.function else sc.kind)==.function&&sc.names.lookup x==_s .local&&g==d&&!(scope.names.any fun(n,k)=>n==x&&(k==.local||k==.cell))
variable{gens:List Q7}{scope:G9}
theorem Mv(ok:j9 C X){d:Expr}{l:Nat}:N0 (.ListComp d gens scope pos) (_s (.Name x pos')) l X.env=pure (bw C.sc x pos'.line scope pos.line):=by unfold bw;rw[<- ok.sc];rfl
theorem MN(R:kI r){d:Expr}{pos:Pos}{c:CE}(ok:j9 C X)(h:Ho r C Γ d gens scope=_s c) :
    ∃t:TE,(∀σ H Q,tE X.K Γ c.o c.Γ c.js c.f σ H Q->t σ H Q)/\∀{i x pos' g},X.N[i]?=_s x->Loc X.env.scope x->(X.fn x=_t\/X.env.scope.names.lookup x=_s .local)->N0 (.ListComp d gens scope pos) (_s (.Name x pos')) g.line X.env=pure _t->PS X (.Assign [.Name x pos'] (.ListComp d gens scope pos) g) (Gj t (BX i)):=by
  obtain⟨t,h1,_,h3⟩:=Fl (pos:=pos) R ok h;exact⟨t,h1,h3⟩
def Uu(r:Rec)(C:Cf)(Γ:Gm)(x:Str)(d:Expr)(gens:List Q7)(scope:G9):Option CS:=(Ho r C Γ d gens scope).bind λc=>Kf C x c
theorem QN(R:kI r){d:Expr}{j:Pos}(ok:j9 C X)(h:Uu r C Γ x d gens scope=_s c):PS X (.Assign [.Name x pos'] (.ListComp d gens scope j) pos) (tS X.K C.F j6 Γ c.Γ c.js c.f):=by
 refine jy h λk e1 h=>?_;cases hb:bw C.sc x pos'.line scope j.line with|false=>exact Hl ok (Hn R ok e1) (by rw[Mv ok,hb]) h|true=>refine jy h λi e2 h=>?_;split at h;rename_i g;simp only[A1,decide_eq_true_eq,G5]at g;cases h;obtain⟨h1,h2,h3⟩:=Gd ok e2;obtain⟨t,q1,q2⟩:=MN R (pos:=j) ok e1;refine PS.imp (q2 h1 h2 h3 (by rw[Mv ok,hb])) λD σ H h=>q1 _ _ _ (Jh g.1 (λz=>by rw[B9.mpr z]at g;cases g.2) h);cases h
def QM(r:Rec)(C:Cf)(Γ:Gm)(es:List Expr)(k:Nat)(p:Pos)(e:Expr):Option CS:=_n
theorem Hq(R:kI r){k:Nat}(ok:j9 C X)(h:QM r C Γ es k p e=_s c):PS X (.Assign [.Tuple es k p] e pos) (tS X.K C.F j6 Γ c.Γ c.js c.f):=by cases h
def aJ(i j:Nat)(g:Ev (List Dv)):Es:=λR m k=>g R m λds d=>match ds with|[a,b]=>k.nx ((d.set i a).set j b)|_=>_n
def WV(sc:G9)(x y:Str)(g d:Pos)(a b:Expr):Bool:=(match sc.kind with|.function=>_t|_=>_f)&&(match sc.names.lookup x with|some .local=>_t|_=>_f)&&(match sc.names.lookup y with|some .local=>_t|_=>_f)&&!(x==y)&&(d.line==g.line)&&noStar a&&noStar b&&!(foldedForSure 8 a&&foldedForSure 8 b)&&!(constantsAlone 8 a&&constantsAlone 8 b)
theorem WU{env:Env}{y:Str}{g d pt pt2:Pos}{kt k2:Nat}(h:WV env.scope x y g d a b=_t):X7 [.Tuple [.Name x g,.Name y d] kt pt] (.Tuple [a,b] k2 pt2) env=pure (_s [x,y])/\env.scope.names.lookup x=_s .local/\env.scope.names.lookup y=_s .local:=by
 unfold WV at h;simp only[A1,G5]at h;obtain⟨⟨⟨⟨⟨⟨⟨⟨h1,h2⟩,h3⟩,h4⟩,h5⟩,h6⟩,h7⟩,h8⟩,l⟩:=h;have k1:env.scope.kind=.function:=by split at h1;(assumption);(cases h1)
 have k2:env.scope.names.lookup x=_s .local:=by split at h2;(assumption);(cases h2)
 have k3:env.scope.names.lookup y=_s .local:=by split at h3;(assumption);(cases h3)
 refine⟨?_,k2,k3⟩;have k:env.kindOf x=_s .local:=k2;have j:env.kindOf y=_s .local:=k3;have i:(y==x)=false:=by
  cases q:y==x with|false=>rfl|true=>rw[beq_iff_eq.mp q,beq_self_eq_true]at h4;cases h4
 unfold X7;simp[Env.blockKind,k1,ScopeKind.isAnnotationScope,k,j,beq_iff_eq.mp h5,h8,l,List.eraseDups_cons,i,h4,Expr.pos];rintro(z|z);cases a<;>first|(cases z;done)|(cases h6;done)
 cases b<;>first|(cases z;done)|(cases h7;done)
def Xf(r:Rec)(C:Cf)(Γ:Gm)(x y:Str)(g d:Pos)(a b:Expr):Option CS:=if WV C.sc x y g d a b then(r.A C Γ [] [a,b]).bind λc=>(BP C.N x).bind λi=>(BP C.N y).bind λj=>if decide (i < c.Γ.length)&&decide (j < c.Γ.length)&&!(i==j)&&!C.F.io.contains i&&!C.F.io.contains j then _s ⟨_s ((c.Γ.set i (_s 0)).set j (_s 0)),c.js++([i]++[j]),aJ i j (AN c.as),_f,_f,_f⟩ else _n else _n
theorem Sz(R:kI r){y:Str}{u t pt pt2:Pos}{kt k2:Nat}(ok:j9 C X)(h:Xf r C Γ x y u t a b=_s c):PS X (.Assign [.Tuple [.Name x u,.Name y t] kt pt] (.Tuple [a,b] k2 pt2) pos) (tS X.K C.F j6 Γ c.Γ c.js c.f):=by
 unfold Xf at h;split at h;rename_i w;refine jy h λV e1 h=>?_;refine jy h λi e2 h=>?_;refine jy h λj e3 h=>?_;split at h;rename_i v;simp only[A1,decide_eq_true_eq,G5,beq_eq_false_iff_ne]at v;obtain⟨⟨⟨⟨G,E⟩,B⟩,o⟩,n⟩:=v;cases h;obtain⟨a1,a2,a3,a4,Z⟩:=R.A ok e1;rw[<- ok.sc]at w;obtain⟨p1,p2,p3⟩:=WU (pt:=pt) (pt2:=pt2) (kt:=kt) (k2:=k2) w;refine PS.imp (Vz ok.calm ok.nd (by rw[ok.N];exact Af e2) (by rw[ok.N];exact Af e3) B p2 p3 a1 p1 rfl) λD σ H h=>?_;obtain⟨g,m,P,T,R',k,res,e,q⟩:=h;refine AK V.as T a2 e λds m1 U P1 vs H1 d Y s W S=>?_;have l:=W.mL (Z rfl)
 match ds,d,l with
 |[d1,d2],d,l=>
  obtain⟨J,us,rfl,h1,l⟩:=CM l;obtain⟨I,L,rfl,h2,l⟩:=CM l;cases Ce l;obtain⟨P2,Q,s2⟩:=S.lM G h1 λ_ z=>z.elim;obtain⟨P3,O,M⟩:=Q.lM (by rw[C8];exact E) h2 λ_ z=>z.elim;refine⟨J,I,rfl,q.nx _ _ U P3 _ H1 rfl d (Y.trans (BA.set.trans BA.set)) (s.less λa z=>(M a z).elim (λz=>(s2 a z).elim id C9) C9) ((Io.set ?_).trans (Io.set ?_)) O⟩;exact λz=>by rw[B9.mpr z]at o;cases o
  exact λz=>by rw[B9.mpr z]at n;cases n
 |[],d,_=>cases d
 |[_],d,_=>cases d
 |_::_::_::_,d,_=>cases d
 cases h;cases h
def Pl(r:Rec)(C:Cf)(Γ:Gm)(x k e:Expr):Option CS:=if Ec k then(Ip C x).bind λi=>(r.E C Γ e).bind λc=>(QQ r C c.Γ k).bind λa=>if(c.Γ.getD i _n).isSome&&a.Γ.getD i _n==_s 1 then _s ⟨_s a.Γ,c.js++((a.js++[])++[i]),UZ i C.T.st c.f (AN [a.a]),_f,_f,_f⟩ else _n else _n
variable{k:Expr}{mq:Pos}
theorem LC{x:Expr}(d:Ec k=_t):∀v,S9 (.Subscript x k mq) X.env v=(do
      let ov <- Z3 [v] (L7 x X.env)
      let iv <- Z3 [v,ov] (L7 k X.env)
      standAt mq
      Z3 [v,ov,iv] (setItem ov iv v)
      release [v,ov,iv] []):=λv=>by
  cases k<;>first|rfl|(cases d)
theorem NI{x:Expr}{l:Nat}{env:Env}:gS [.Subscript x k p] e l env=pure false:=by cases e<;>rfl
theorem Pk(R:kI r){x:Expr}(ok:j9 C X)(h:Pl r C Γ x k e=_s c):PS X (.Assign [.Subscript x k mq] e pos) (tS X.K C.F j6 Γ c.Γ c.js c.f):=by
 unfold Pl at h;split at h
 ·rename_i hn;refine jy h λi l h=>?_
  refine jy h λo e1 h=>?_;refine jy h λa e2 h=>?_;split at h
  ·rename_i d;rw[A1]at d;cases h;obtain⟨n,m⟩:=Gf R ok e2;obtain⟨T,j,g⟩:=C.T.rX X ok.gx;refine PS.imp (WB (EU (R.E ok e1)) (WL (Bp ok l) n j (LC hn)) NI ?_ rfl) λD σ H h=>NN g m (getD_some d.1) (Aq (beq_iff_eq.mp d.2)) h
   cases e<;>rfl
  cases h
 cases h
def Uh(r:Rec)(C:Cf)(Γ:Gm)(q:Nat×Str)(k e:Expr):Option CS:=_n
theorem Pm(R:kI r){x:Expr}{q:Nat×Str}(ok:j9 C X)(d:Qg C x=_s q)(h:Uh r C Γ q k e=_s c):PS X (.Assign [.Subscript x k mq] e pos) (tS X.K C.F j6 Γ c.Γ c.js c.f):=by cases h
def Pp(r:Rec)(C:Cf)(Γ:Gm)(x k e:Expr):Option CS:=match Qg C x with
 |some q=>Uh r C Γ q k e
 |none=>Pl r C Γ x k e
theorem Pn(R:kI r){x:Expr}(ok:j9 C X)(h:Pp r C Γ x k e=_s c):PS X (.Assign [.Subscript x k mq] e pos) (tS X.K C.F j6 Γ c.Γ c.js c.f):=by unfold Pp at h;split at h;rename_i q d;exact Pm R ok d h;exact Pk R ok h
def Ut(r:Rec)(C:Cf)(Γ:Gm)(o:Expr)(f:Str)(e:Expr):Option CS:=_n
theorem QI(R:kI r){o:Expr}{f:Str}(ok:j9 C X)(h:Ut r C Γ o f e=_s c):PS X (.Assign [.Attribute o f mq] e pos) (tS X.K C.F j6 Γ c.Γ c.js c.f):=by cases h
def UT:Option Gm->Option Gm->Option Gm
 |some a,_s b=>_s (BF a b)
 |none,b=>b
 |a,_n=>a
def eS(r:Rec)(C:Cf)(j6:Option Gm)(Γ:Gm)(c:Expr)(a b:List F0):Option CS:=(r.T C Γ c).bind λt=>(r.Ss C j6 t.Γ a).bind λx=>(r.Ss C j6 t.Γ b).bind λy=>let Γn:=UT x.Γ y.Γ;let js:=t.js++(x.js++y.js);if GO Γn x.Γ&&GO Γn y.Γ then _s ⟨Γn,js,match x.Γ,y.Γ,Γn with
      |some _,_s _,_s Γ'=>if x.er||x.eb||x.ec||y.er||y.eb||y.ec then Hf t.f x.f y.f else aK (Au Γ' js) (Hf t.f x.f y.f)
      |_,_,_=>Hf t.f x.f y.f,x.er||y.er,x.eb||y.eb,x.ec||y.ec⟩ else _n
theorem Xp(R:kI r){t:Expr}{a b:List F0}(ok:j9 C X)(h:eS r C j6 Γ t a b=_s c):PS X (.If t a b pos) (tS X.K C.F j6 Γ c.Γ c.js c.f):=by refine jy h λct e1 h=>?_;refine jy h λx e2 h=>?_;refine jy h λy e3 h=>?_;simp only at h;split at h;rename_i d;rw[A1]at d;have base:PS X (.If t a b pos) (tS X.K C.F j6 Γ (UT x.Γ y.Γ) (ct.js++(x.js++y.js)) (Hf ct.f x.f y.f)):=bz (R.T ok e1) (NS (R.Ss ok e2) d.1) (NS (R.Ss ok e3) d.2);cases h;split;rename_i Γ' _ _ g;split;exact base;simp only[g]at base ⊢;exact PS.imp base λD σ H h=>Wo (λi o z=>Ax z) (λi z=>Al z) h;exact base;cases h
def ai(r:Rec)(C:Cf)(Γ:Gm)(x:Str)(op:gD)(e:Expr):Option CS:=_n
theorem TU(R:kI r){op:gD}(ok:j9 C X)(h:ai r C Γ x op e=_s c):PS X (.AugAssign (.Name x pos') op e pos) (tS X.K C.F j6 Γ c.Γ c.js c.f):=by cases h
def Oi(r:Rec)(C:Cf)(pre:Gm->Gm)(body:List F0):Nat->Gm->Option (Gm×CS)
 |0,_=>_n
 |n+1,Γ=>match r.Ss C (_s Γ) (pre Γ) body with
  |some x=>if GO (_s Γ) x.Γ then _s (Γ,x)else Oi r C pre body n (match x.Γ with|some Γ'=>BF Γ Γ' | none=>Γ)
  |none=>Oi r C pre body n (Γ.map λo=>o.map λ_=>0)
theorem GU{r:Rec}{C:Cf}{pre:Gm->Gm}{body:List F0}:∀{n:Nat}{Γ:Gm}{p:Gm×CS},Oi r C pre body n Γ=_s p->r.Ss C (_s p.1) (pre p.1) body=_s p.2/\GO (_s p.1) p.2.Γ=_t
 |0,_,_,h=>by cases h
 |n+1,Γ,p,h=>by unfold Oi at h;split at h;rename_i x d;split at h;rename_i g;cases h;exact⟨d,g⟩;exact GU h;exact GU h
def aa(r:Rec)(C:Cf)(Γ:Gm)(tg iter:Expr)(body:List F0):Option CS:=(match iter with|.Set _ _ _=>_n|_=>r.I C Γ (Iu tg) iter).bind λs=>(cG C tg).bind λt=>if t.J.all (λi=>decide (i < s.Γ.length)&&!C.F.io.contains i)then(Oi r C t.Γ body 4 s.Γ).bind λp=>if BH p.1 s.Γ then
    let d:=t.J++p.2.js
    _s ⟨_s p.1,s.js++d,if p.2.er||p.2.eb then Os s.f t.f (Au p.1 d) (Au C.F.pI d) p.2.f else Ot s.f t.f (Au p.1 d) p.2.f,p.2.er,_f,_f⟩ else _n else _n
theorem TM(R:kI r){tg iter:Expr}{body:List F0}(ok:j9 C X)(h:aa r C Γ tg iter body=_s c):PS X (.For tg iter body [] pos) (tS X.K C.F j6 Γ c.Γ c.js c.f):=by
 refine jy h λs e1 h=>?_;refine jy h λt e2 h=>?_;split at h;rename_i d;refine jy h λp e3 h=>?_;split at h;rename_i j;have hs:∀x,K3 iter X.env x=pure x:=λx=>by cases iter<;>first|rfl|(cases e1)
 have u:r.I C Γ (Iu tg) iter=_s s:=by cases iter<;>first|exact e1|(cases e1)
 obtain⟨v,f2⟩:=GU e3;obtain⟨q,_,o⟩:=Kg ok e2;rw[D6]at d;have n:t.J.all (λi=>decide (i < p.1.length))=true:=by rw[D6];intro i hi;rw[Cj j];exact(O9.mp (d i hi)).1
 have g:∀i∈C.F.io,i∉t.J:=λi hi z=>by have:=(O9.mp (d i z)).2;rw[B9.mpr hi]at this;cases this
 have hi:PI X tg iter (tI X.K Γ p.1 s.js s.f):=PI.imp (R.I tg ok u) λ_ _ _ h=>Qs j h;have l:Y5 (C0 X.prog X.w) X.A X.env X.xe:=by rw[ok.xe];exact PassesOwn.never
 have m:=R.Ss ok v;simp only at h;cases h;split;exact Vl l ok.calm hi q (o n) g m f2 rfl rfl hs;exact Vm l ok.calm hi q (o n) g m f2 rfl hs;cases h;cases h
noncomputable def fu:Nat:=1000000
def bR(r:Rec)(C:Cf)(Γ:Gm)(c:Expr)(body:List F0):Option CS:=_n
where
 fixW (r:Rec) (C:Cf) (c:Expr) (body:List F0):Nat->Gm->Option (Gm×CT×CS)
 |0,_=>_n
 |n+1,Γ=>(r.T C Γ c).bind λt=>if t.js.isEmpty&&BH Γ t.Γ then(match r.Ss C (_s Γ) Γ body with
  |some x=>if GO (_s Γ) x.Γ then _s (Γ,t,x)else fixW r C c body n (match x.Γ with|some Γ'=>BF Γ Γ' | none=>Γ)
  |none=>fixW r C c body n (Γ.map λo=>o.map λ_=>0))else fixW r C c body n (BF Γ t.Γ)
theorem GT{r:Rec}{C:Cf}{c:Expr}{body:List F0}:∀{n:Nat}{Γ:Gm}{p:Gm×CT×CS},bR.fixW r C c body n Γ=_s p->r.T C p.1 c=_s p.2.1/\p.2.1.js=[]/\BH p.1 p.2.1.Γ=_t/\r.Ss C (_s p.1) p.1 body=_s p.2.2/\GO (_s p.1) p.2.2.Γ=_t
 |0,_,_,h=>by cases h
 |n+1,Γ,p,h=>by unfold bR.fixW at h;refine jy h λt e1 h=>?_;split at h;rename_i d;rw[A1]at d;split at h;rename_i x g;split at h;rename_i i;cases h;exact⟨e1,T2.mp d.1,d.2,g,i⟩;exact GT h;exact GT h;exact GT h
theorem ZE{F:Fr}{Γn:Option Gm}{Γ':Gm}{js:List Nat}{s:F0}{f:Es}(l:BH Γ' Γ=_t)(h:PS X s (tS X.K F j6 Γ' Γn js f)):PS X s (tS X.K F j6 Γ Γn js f):=PS.imp h λD σ H h=>by obtain⟨g,m,P,r,R,k,res,e,q⟩:=h;obtain⟨n,P2,s2,j⟩:=r.weaken l;exact⟨n,m,P2,j,R,k,res,e,⟨λΓ' m' g' P' σ' H' e i a s'=>q.nx Γ' m' g' P' σ' H' e i a (s2.trans s'),λd m' g' P' Pv σ' v H' i a s'=>q.rt d m' g' P' Pv σ' v H' i a (s2.trans s'),λΓ' m' g' P' σ' H' e i a s'=>q.bk Γ' m' g' P' σ' H' e i a (s2.trans s'),λΓ' m' g' P' σ' H' e i a s'=>q.ct Γ' m' g' P' σ' H' e i a (s2.trans s')⟩⟩
theorem XW(R:kI r){t:Expr}{body:List F0}(ok:j9 C X)(h:bR r C Γ t body=_s c):PS X (.While t body [] pos) (tS X.K C.F j6 Γ c.Γ c.js c.f):=by cases h
def XI:Es:=λ_ _ _=>_n
def af(j6:Option Gm)(Γ:Gm):Option CS:=_n
def ae(j6:Option Gm)(Γ:Gm):Option CS:=_n
theorem TQ(h:af j6 Γ=_s c):PS X (.Break pos) (tS X.K C.F j6 Γ c.Γ c.js c.f):=by cases h
theorem TN(h:ae j6 Γ=_s c):PS X (.Continue pos) (tS X.K C.F j6 Γ c.Γ c.js c.f):=by cases h
noncomputable def UO(es:List Expr)(e:Expr):Option (Str×Pos×Str×Pos×Expr×Expr):=match es with
 |[.Name x g,.Name y d]=>match e with
  |.Tuple [a,b] _ _=>_s (x,g,y,d,a,b)
  |_=>_n
 |_=>_n
noncomputable def Mt(es:List Expr):Option (Expr×Expr×Expr×Expr):=match es with
 |[.Subscript x k _,.Subscript y j _]=>_s (x,k,y,j)
 |_=>_n
theorem IR{t:Expr×Expr×Expr×Expr}(h:Mt es=_s t):∃p q,es=[.Subscript t.1 t.2.1 p,.Subscript t.2.2.1 t.2.2.2 q]:=by unfold Mt at h;split at h;cases h;exact⟨_,_,rfl⟩;cases h
def aT(r:Rec)(C:Cf)(Γ:Gm)(x k y j e:Expr):Option CS:=_n
theorem Sv(R:kI r){x y j:Expr}{q pt:Pos}{kt:Nat}(ok:j9 C X)(h:aT r C Γ x k y j e=_s c):PS X (.Assign [.Tuple [.Subscript x k p,.Subscript y j q] kt pt] e pos) (tS X.K C.F j6 Γ c.Γ c.js c.f):=by cases h
def Pi(r:Rec)(C:Cf)(Γ:Gm)(es:List Expr)(k:Nat)(p:Pos)(e:Expr):Option CS:=match UO es e with
 |some t=>(match Xf r C Γ t.1 t.2.2.1 t.2.1 t.2.2.2.1 t.2.2.2.2.1 t.2.2.2.2.2 with
  |some c=>_s c
  |none=>QM r C Γ es k p e)
 |none=>match Mt es with
  |some t=>aT r C Γ t.1 t.2.1 t.2.2.1 t.2.2.2 e
  |none=>QM r C Γ es k p e
theorem Ph(R:kI r){k:Nat}(ok:j9 C X)(h:Pi r C Γ es k p e=_s c):PS X (.Assign [.Tuple es k p] e pos) (tS X.K C.F j6 Γ c.Γ c.js c.f):=by unfold Pi at h;split at h;rename_i t q;split at h;rename_i g d;cases h;unfold UO at q;split at q;split at q;cases q;exact Sz R ok d;cases q;cases q;exact Hq R ok h;split at h;rename_i t q;obtain⟨p1,p2,rfl⟩:=IR q;exact Sv R ok h;exact Hq R ok h
theorem Ta(R:kI r)(ok:j9 C X)(h:(if SD e then(r.E C Γ e).bind λc=>Kf C x c else _n)=_s c):PS X (.Assign [.Name x p] e pos) (tS X.K C.F j6 Γ c.Γ c.js c.f):=by split at h;rename_i hn;refine jy h λd e1 h=>?_;exact Hl ok (R.E ok e1) (Gk hn) h;cases h
def UA(r:Rec)(C:Cf)(j6:Option Gm)(Γ:Gm)(s:F0):Option CS:=match s with
 |.Pass _=>_s (NM Γ)
 |.Expr (.Constant (.str _) _ _) _=>_s (NM Γ)
 |.Expr e _=>Xr r C Γ e
 |.Return (_s e) _=>aU r C Γ e
 |.Return _n _=>Ui C Γ
 |.Assign [.Name x _] (.ListComp d gens scope _) _=>Uu r C Γ x d gens scope
 |.Assign [.Name x _] e _=>if SD e then(r.E C Γ e).bind λc=>Kf C x c else _n
 |.Assign [.Tuple es k p] e _=>Pi r C Γ es k p e
 |.Assign [.Subscript x k _] e _=>Pp r C Γ x k e
 |.Assign [.Attribute o f _] e _=>Ut r C Γ o f e
 |.AugAssign (.Name x _) op e _=>ai r C Γ x op e
 |.If c a b _=>eS r C j6 Γ c a b
 |.For tg iter body [] _=>aa r C Γ tg iter body
 |.While c body [] _=>bR r C Γ c body
 |.Break _=>af j6 Γ
 |.Continue _=>ae j6 Γ
 |.Raise _ _ _=>_s ⟨_n,[],XI,_f,_f,_f⟩
 |_=>_n
theorem Mz(R:kI r){s:F0}(ok:j9 C X)(h:UA r C j6 Γ s=_s c):PS X s (tS X.K C.F j6 Γ c.Γ c.js c.f):=by
 cases s with
 |Pass _=>cases h;exact Vj
 |Expr e _=>
  cases e with
  |Constant k _ _=>
   cases k with|str _=>cases h;exact ZH|_=>exact Kh R ok h
  |_=>exact Kh R ok h
 |Return v _=>
  cases v with|none=>exact Pq h|some e=>exact Sy R ok h
 |Assign ts e _=>
  match ts,h with
  |[],h=>cases h
  |t::_::_,h=>cases t<;>cases h
  |[t],h=>
   cases t with
   |Name x _=>
    cases e with|ListComp d gens scope _=>exact QN R ok h|_=>exact Ta R ok h
   |Tuple es k p=>exact Ph R ok h
   |Subscript x k _=>exact Pn R ok h
   |Attribute o f _=>exact QI R ok h
   |_=>cases h
 |AugAssign t op e _=>
  cases t with|Name x _=>exact TU R ok h|_=>cases h
 |If c a b _=>exact Xp R ok h
 |For tg iter body o _=>
  cases o with|nil=>exact TM R ok h|cons _ _=>cases h
 |While c body o _=>
  cases o with|nil=>exact XW R ok h|cons _ _=>cases h
 |Break _=>exact TQ h
 |Continue _=>exact TN h
 |Raise _ _ _=>cases h;intro pins s σ H D I q;obtain⟨g,m,P,r,R,k,res,e,q⟩:=q;cases e
 |_=>cases h
def Mx(r:Rec)(C:Cf)(j6:Option Gm)(Γ:Gm)(ss:List F0):Option CS:=match ss with
 |[]=>_s (NM Γ)
 |[s]=>r.S C j6 Γ s
 |s::ss=>(r.S C j6 Γ s).bind λx=>match x.Γ with
  |none=>_s x
  |some Γ'=>(r.Ss C j6 Γ' ss).bind λy=>_s ⟨y.Γ,x.js++y.js,Sa x.f y.f,x.er||y.er,x.eb||y.eb,x.ec||y.ec⟩
theorem LD(R:kI r){ss:List F0}(ok:j9 C X)(h:Mx r C j6 Γ ss=_s c):Be X ss (tS X.K C.F j6 Γ c.Γ c.js c.f):=by
 match ss,h with
 |[],h=>cases h;exact ZG
 |[s],h=>exact ZF (R.S ok h)
 |s::s2::ss,h=>
  refine jy (show(r.S C j6 Γ s).bind _=_s c from h) λx e1 h=>?_;have h1:=R.S ok e1;cases hx:x.Γ with|none=>simp only[hx]at h;cases h;rw[hx]at h1 ⊢;exact Vk h1|some Γ'=>simp only[hx]at h;refine jy h λy e2 h=>?_;cases h;rw[hx]at h1;exact IU (f:=x.f) (f2:=y.f) (js:=x.js) (js2:=y.js) h1 (R.Ss ok e2)
def step(r:Rec):Rec:=⟨UB r,Gp r,Tz r,NB r,UA r,Mx r⟩
def Sm:Nat->Rec
 |0=>⟨λ_ _ _=>_n,λ_ _ _ _=>_n,λ_ _ _=>_n,λ_ _ _ _=>_n,λ_ _ _ _=>_n,λ_ _ _ _=>_n⟩
 |n+1=>step (Sm n)
theorem Ck:∀n,kI (Sm n)
 |0=>⟨(λ_ h=>by cases h),(λ_ h=>by cases h),(λ_ h=>by cases h),(λ_ _ h=>by cases h),(λ_ h=>by cases h),(λ_ h=>by cases h),λ_ h=>by cases h⟩
 |n+1=>have R:=Ck n;⟨λok h=>NC R ok h,λok h=>NG R ok h,λok h=>Mw R ok h,λtg ok h=>NA R tg ok h,λok h=>Mz R ok h,λok h=>LD R ok h,λok h _ _ h0 hn=>LG R ok h h0 hn⟩
noncomputable def Zn(sc:G9):List Str:=sc.names.filterMap λp=>match p.2 with|.local=>_s p.1|.cell=>_s p.1|_=>_n
mutual
noncomputable def AY:Expr->List Str
 |.ListComp e d sc _=>Zn sc++AY e++OE d
 |.BoolOp _ vs _=>BE vs
 |.BinOp a _ b _=>AY a++AY b
 |.UnaryOp _ a _=>AY a
 |.IfExp a b c _=>AY a++AY b++AY c
 |.Compare a _ bs _=>AY a++BE bs
 |.Call f es _ _=>AY f++BE es
 |.Attribute a _ _=>AY a
 |.Subscript a b _=>AY a++AY b
 |.Slice a b c _=>Ee a++Ee b++Ee c
 |.List es _=>BE es
 |.Tuple es _ _=>BE es
 |.Dict _ vs _=>BE vs
 |.JoinedStr vs _=>BE vs
 |.FormattedValue v _ _ _=>AY v
 |_=>[]
noncomputable def BE:List Expr->List Str
 |[]=>[]
 |e::es=>AY e++BE es
noncomputable def Ee:Option Expr->List Str
 |none=>[]
 |some e=>AY e
noncomputable def OE:List Q7->List Str
 |[]=>[]
 |⟨_,it,ifs,_⟩::d=>AY it++BE ifs++OE d
end
mutual
noncomputable def Wd:F0->List Str
 |.Return v _=>Ee v
 |.Assign ts v _=>BE ts++AY v
 |.AugAssign t _ v _=>AY t++AY v
 |.Expr v _=>AY v
 |.If c a b _=>AY c++Ci a++Ci b
 |.For _ it b _ _=>AY it++Ci b
 |.While c b _ _=>AY c++Ci b
 |.Raise e _ _=>Ee e
 |_=>[]
noncomputable def Ci:List F0->List Str
 |[]=>[]
 |s::ss=>Wd s++Ci ss
end
noncomputable def PV:List Str->List Str->List Str
 |[],a=>a
 |x::xs,a=>if a.contains x then PV xs a else PV xs (a++[x])
def AB(st:F0):List Str:=(Aj st).args.map (·.arg)
def AG(st:F0):List Str:=PV (AB st++Zn (AD st)++Ci (AM st)) []
noncomputable def hd:(io:List Nat)->Jn Dv io->Dv
 |[],t=>t
 |_::_,t=>t.1
noncomputable def KD:(J:List Nat)->DB J->List Dv
 |[],_=>[]
 |[_],d=>[d]
 |_::j::J,t=>t.1::KD (j::J) t.2
def tl:(io:List Nat)->Jn Dv io->List Dv
 |[],_=>[]
 |i::io,t=>KD (i::io) t.2
theorem Fc:∀(J:List Nat)(m:M),KD J (AW J m)=J.map m.at
 |[],_=>rfl
 |[_],_=>rfl
 |i::j::J,m=>by show m.at i::KD (j::J) (AW (j::J) m)=_;rw[Fc (j::J) m];rfl
theorem KM(io:List Nat)(d:Dv)(m:M):hd io (Qf io d m)=d:=by cases io<;>rfl
theorem Jf(io:List Nat)(d:Dv)(m:M):tl io (Qf io d m)=io.map m.at:=by
 cases io with|nil=>rfl|cons i io=>exact Fc (i::io) m
def BW(ps:List Str)(io:List Nat)(ro:Nat)(nb:Bool)(F:List Dv->Option (Jn Dv io))(cl:Option Str:=_n):kd where
 ps:=ps
 io:=io
 ro:=ro
 nb:=nb
 fn:=λds=>(F ds).bind λt=>_s (hd io t,tl io t)
 cps:=λR ds k=>(F ds).bind λt=>k (hd io t) (tl io t)
 eq:=λR ds k=>by cases F ds<;>rfl
 cl:=cl
def kJ(io:List Nat):Kt (Jn Dv io):=⟨λm=>_s (Qf io .kB m),λd m=>_s (Qf io d m),λ_=>_n,λ_=>_n⟩
@[reducible] def Th{b:Type}:Nat->(List b->Prop)->Prop
 |0,P=>P []
 |n+1,P=>∀a,Th n λl=>P (a::l)
theorem Zr{b:Type}{n:Nat}:∀{P:List b->Prop},Th n P->∀l:List b,l.length=n->P l:=by
 induction n with
 |zero=>intro P h l e;cases l with|nil=>exact h|cons a t=>cases e
 |succ n c=>intro P h l e;cases l with|nil=>cases e|cons a t=>exact c (h a) t (Nat.succ.inj e)
structure Md:Type 1 where
 T:Tb
 cs:List (Str×Dv)
 bl:List Str
 fl:List Str
 rf:List Str
def DW(M:Md)(fs:List (Str×kd))(st:F0)(io:List Nat)(ro:Nat):Cf:=⟨AG st,AD st,λ_=>_t,fs,M.cs,M.bl,M.T,⟨io,Gv (AG st).length io,ro⟩,M.fl,M.rf⟩
noncomputable def cB:Rec:=⟨λ_ _ _=>_n,λ_ _ _ _=>_n,λ_ _ _=>_n,λ_ _ _ _=>_n,λ_ _ _ _=>_n,λ_ _ _ _=>_n⟩
def cmp(n:Nat):Rec:=Nat.rec cB (λ_ r=>step r) n
theorem GZ:∀n,cmp n=Sm n
 |0=>rfl
 |n+1=>by show step (cmp n)=step (Sm n);rw[GZ n]
def RS(M:Md)(fs:List (Str×kd))(st:F0)(io:List Nat)(ro:Nat):Option CS:=(cmp 100).Ss (DW M fs st io ro) _n (FI (AG st).length (AB st).length io) (AM st)
def RQ(M:Md)(fs:List (Str×kd))(st:F0)(io:List Nat)(ro:Nat)(ds:List Dv):Option (Jn Dv io):=match RS M fs st io ro with
 |some c=>c.f (Jn Dv io) (ds++E6 ((AG st).length-(AB st).length) .kB) (kJ io)
 |none=>_n
noncomputable def isFn:ScopeKind->Bool
 |.function=>_t
 |_=>_f
noncomputable def SC:NameKind->Bool
 |.free=>_f
 |_=>_t
def Gr(N P:List Str)(sc:G9):Bool:=isFn sc.kind&&!sc.isCoroutine&&!sc.isGenerator&&decide N.Nodup&&(N.take P.length==P)&&(P.all λx=>match sc.names.lookup x with|some .local=>_t|some .cell=>_t|_=>_f)&&sc.names.all λy=>SC y.2
theorem DI{N P:List Str}{sc:G9}(h:Gr N P sc=_t):ko N P sc:=by
 unfold Gr at h;simp only[A1,G5,decide_eq_true_eq,D6]at h;obtain⟨⟨⟨⟨⟨⟨h1,h2⟩,h3⟩,h4⟩,h5⟩,h6⟩,h7⟩:=h;refine⟨?_,h2,h3,h4,by simpa using h5,λx b=>?_,λy a z=>?_⟩;cases q:sc.kind<;>first|rfl|(rw[q]at h1;cases h1)
 have:=h6 x b;split at this;rename_i e;exact .inl e;rename_i e;exact .inr e;cases this;have:=h7 y a;rw[z]at this;cases this
def aR(M:Md)(fs:List (Str×kd))(st:F0)(io:List Nat)(ro:Nat):Bool:=Gr (AG st) (AB st) (AD st)&&decide io.Nodup&&(io.all λi=>decide (i < (AB st).length))&&decide ((AB st).length<=(AG st).length)&&match RS M fs st io ro with
 |some c=>GO (_s (Gv (AG st).length io)) c.Γ
 |none=>_f
section
variable{P:D4}{w:E8}{K:W.Frag}{mg:Str->Option A3}{base:F1}
structure Bs (M:Md) (K:W.Frag) (mg:Str->Option A3):Prop where
 cs:∀x d,(x,d)∈M.cs->∃v u,mg x=_s u/\RelV v u/\∀g H,Rep K g H 0 d v j4
 bl:∀x∈M.bl,mg x=_n
def Fs(P:D4)(w:E8)(K:W.Frag)(mg:Str->Option A3)(base:F1)(fl:List Str)(k:Nat)(fs:List (Str×kd)):Prop:=(2<=k/\Xk P w K mg base BB)/\∀x s,(x,s)∈fs->s.io.Nodup/\(∀i∈s.io,i < s.ps.length)/\∃j,j<=k/\Fz P w K mg base fl j x s
theorem Fs.nil{fl:List Str}{k:Nat}(b:2<=k)(a:Xk P w K mg base BB):Fs P w K mg base fl k []:=⟨⟨b,a⟩,λ_ _ h=>by cases h⟩
theorem Fs.tW{fl:List Str}{k l:Nat}{x:Str}{s:kd}{fs:List (Str×kd)}(h:Fs P w K mg base fl k fs)(c:k<=l)(h1:s.io.Nodup)(h2:∀i∈s.io,i < s.ps.length)(h3:Fz P w K mg base fl l x s):Fs P w K mg base fl l ((x,s)::fs):=⟨⟨C3 h.1.1 c,h.1.2⟩,λy t q=>by
 rcases E3.mp q with q|q
 cases q;exact⟨h1,h2,l,C7 _,h3⟩;obtain⟨a,b,j,d,f⟩:=h.2 y t q;exact⟨a,b,j,by omega,f⟩⟩
theorem Fs.cons{fl:List Str}{k:Nat}{x:Str}{s:kd}{fs:List (Str×kd)}(h:Fs P w K mg base fl k fs)(h1:s.io.Nodup)(h2:∀i∈s.io,i < s.ps.length)(a:s.cl=_n)(h3:Fx P w K mg base (k+1) x s.ps (nO K s)):Fs P w K mg base fl (k+1) ((x,s)::fs):=h.tW (gJ k) h1 h2 (by unfold Fz;rw[a];exact h3)
theorem PU{M:Md}{k:Nat}{fs:List (Str×kd)}{x qual:Str}{st:F0}{f:A6}{fd:G4}{io:List Nat}{ro:Nat}{nb:Bool}{cl:Option Str}{F:List Dv->Option (Jn Dv io)}(b:Bs M K mg)(h:Fs P w K mg base M.fl k fs)(c:aR M fs st io ro=_t)(p:∀ds,ds.length=(AB st).length->RQ M fs st io ro ds=F ds)
    (C:m8 K x qual st f fd):kL P w K mg base Dz (k+1) f fd (AB st) (nO K (BW (AB st) io ro nb F cl)):=by
  unfold aR at c;simp only[A1,decide_eq_true_eq,D6]at c;obtain⟨⟨⟨⟨B,v⟩,u⟩,r⟩,i⟩:=c;cases e:RS M fs st io ro with
  |none=>rw[e]at i;cases i
  |some cs=>
    rw[e]at i;have S:=DI B;refine UW (s:=BW (AB st) io ro nb F cl) (N:=AG st) (body:=cs.f) (Γn:=cs.Γ) (js:=cs.js) C S v u r i (λkY A outer s' H E g=>?_) λds d bs l o=>?_;have ok:j9 (DW M fs st io ro) (DT Dz P w K mg base (AG st) qual (AD st) f kY A outer s' H E).l0:=⟨rfl,rfl,S.nd,rfl,λ_ _=>rfl,⟨rfl,k,g⟩,λy t q=>by obtain⟨a,b,j,n,q⟩:=h.2 y t q;exact⟨a,b,j,k,n,g,q⟩,b.cs,b.bl,rfl,⟨k,h.1.1,g⟩,h.1.2⟩
    unfold RS at e;rw[GZ]at e;exact(Ck 100).Ss ok e;have g:=p ds l;unfold RQ at g;rw[e]at g;refine jy (show(F ds).bind _=_s (d,bs)from o) λt e1 e2=>?_;cases e2;refine⟨_,kJ io,t,g.trans e1,λm z=>?_,λd' m z=>?_⟩;have z:_s (Qf io .kB m)=_s t:=z;cases z;exact⟨KM io _ m,Jf io _ m⟩;have z:_s (Qf io d' m)=_s t:=z;cases z;exact⟨KM io _ m,Jf io _ m⟩
abbrev Kx(x q:Str)(st:F0):Prop:=∀(kV doc pm:A3)(an:Option A6)(kY ct:A3)(us:List A3),us.length=(AB st).length->i9 (W.fnOf x q (Aj st) (AM st) (AD st) .none kV doc pm an kY ct) ⟨us,[]⟩=pure ((AB st).zip us)
abbrev Qd(x:Str)(st:F0):Prop:=Kx x x st
theorem Pc{M:Md}{fs:List (Str×kd)}{st:F0}{io:List Nat}{ro:Nat}(c:aR M fs st io ro=_t):io.Nodup/\∀i∈io,i < (AB st).length:=by unfold aR at c;simp only[A1,decide_eq_true_eq,D6]at c;exact⟨c.1.1.1.2,c.1.1.2⟩
theorem Fs.def{M:Md}{k:Nat}{fs:List (Str×kd)}{x:Str}{st:F0}{io:List Nat}{ro:Nat}{nb:Bool}{F:List Dv->Option (Jn Dv io)}(h:Fs P w K mg base M.fl k fs)(b:Bs M K mg)(c:aR M fs st io ro=_t)(e:∀ds,ds.length=(AB st).length->RQ M fs st io ro ds=F ds)
    (a:GF K x st) (hm:mg x=_s (.ref (AJ K x))) (d:Qd x st):Fs P w K mg base M.fl (k+1) ((x,BW (AB st) io ro nb F)::fs):=
  h.cons (Pc c).1 (Pc c).2 rfl ⟨_,_,PU b h c e (Iy a),hm,a.2.2.2,(Iy a).binds d⟩
def SJ(K:W.Frag)(c m:Str):A6:=match W.findIn K (.ref (AJ K c)) m with
 |some (_s (.ref a))=>a
 |_=>0
abbrev GM(K:W.Frag)(c q m:Str)(t:F0):Prop:=W.findIn K (.ref (AJ K c)) m=_s (_s (.ref (SJ K c m))) /\
 K.lookup (SJ K c m)=_s ⟨.type "function", _n,.func (W.fnOf m q (Aj t) (AM t) (AD t) .none .none .none (Ro K (SJ K c m)) _n (ME K (SJ K c m)) .none),#[]⟩ /\
 W.codeIn K (ME K (SJ K c m)) q=_t/\W.keepIn K (.ref (SJ K c m))=_t/\W.isFn K (.ref (SJ K c m))=_t
noncomputable def fM(K:W.Frag)(C:A6)(f:Str):Bool:=match W.findIn K (.ref C) f with
 |some _n=>_t
 |_=>_f
theorem CY{x q:Str}{st:F0}(n:Nat)(hn:(AB st).length=n)(h:∀(kV doc pm:A3)(an:Option A6)(kY ct:A3),Th n λus=>i9 (W.fnOf x q (Aj st) (AM st) (AD st) .none kV doc pm an kY ct) ⟨us,[]⟩=pure ((AB st).zip us)):Kx x q st:=
 λkV doc pm an kY ct us a=>Zr (h kV doc pm an kY ct) us (a.trans hn)
noncomputable def Eb(K:W.Frag)(x:Str):Bool:=match W.nsIn K G3 x with|some _n=>_t|_=>_f
theorem aj{M:Md}{h:F1}(X:K.In h)(G:h.Ns G3 mg)(c:M.cs=[])(a:M.bl.all (Eb K)=_t):Bs M K mg:=⟨(λx d q=>by rw[c]at q;cases q),λx b=>by have:=(D6.mp a) x b;unfold Eb at this;split at this;rename_i e;exact W.mg_none_of X G e;cases this⟩
noncomputable def fT{e:Type}(f:Dv->Dv->Dv->Dv->Option e)(ds:List Dv):Option e:=match ds with|[a,b,c,d]=>f a b c d|_=>_n
noncomputable def DG{d:Type}(f:Dv->Dv->Dv->Option d)(ds:List Dv):Option d:=match ds with|[a,b,c]=>f a b c|_=>_n
abbrev YX(M:Md)(fs:List (Str×kd))(st:F0)(io:List Nat)(ro:Nat)(f:List Dv->Option (Jn Dv io)):Prop:=∀ds,ds.length=(AB st).length->RQ M fs st io ro ds=f ds
theorem TV{a:Type}{G F:List Dv->a}{m:Nat}(n:Nat)(hn:m=n)(h:Th n λds=>G ds=F ds):∀ds,ds.length=m->G ds=F ds:=λds b=>Zr h ds (b.trans hn)
def Jg(K:W.Frag):Sp:=λvs H Q _=>∃(a:A6)(ns:List Int),vs=[.ref a]/\Bv K H a (ns.map V.int)/\ns.length<=63/\Tf H/\∀H',Q (.bl _t) H'
theorem Wi{k:Nat}{f:A6}{fd:G4}{ps:List Str}{nb:Bool}{F:List Dv->Option Dv}(b:ps.length=1)(h0:kL P w K mg base Dz k f fd ps (nO K (BW ps [] 1 nb F)))(h:∀ns:List Int,ns.length<=63->F [.k8 ns]=_s (.bl _t)):kL P w K mg base Dz k f fd ps (Jg K):=h0.imp λvs H Q E q=>by
 obtain⟨a,ns,rfl,c,hn,d,q⟩:=q;have hs:bV K H a ns:=by
  rcases c with(h1|h1)|h1
  rcases d a with z|⟨o,xs,z⟩
  rw[h1]at z;cases z;rw[h1]at z;cases z;exact .inl h1;exact .inr h1
 refine⟨⟨λ_=>False,[]⟩,[.k8 ns],j4,?_,.bl _t,[],by show(F [.k8 ns]).bind _=_;rw[h ns hn];rfl,λg' H' v Pv Pb _ rv _ _=>by rw[CO rv];exact q H'⟩;show Rel K _ H (IC ps.length []) _ _ _;rw[b];refine⟨?_,λ_=>j4,⟨rfl,rfl,λi o e=>?_,λi e a z=>z,λi j n a z=>z.elim⟩,λa=>⟨λz=>z.elim,fun⟨i,z⟩=>z⟩⟩;exact λ_ z=>z.elim
 match i,e with
 |0,e=>cases e;exact⟨_,_,rfl,rfl,by unfold Rep;exact⟨⟨a,rfl,hs⟩,λ_ z=>z⟩⟩
end
end R
namespace L4
open PySem PySem.Spec PyProof.Rows L2 Builtin
def dr:R2:=λx y H Q=>∃l k xs,x=.ref l/\y=.int k/\H l=_s (.tup xs)/\xs≠[]/\0<=k/\k < 2 ^ 63/\xs.length * k.toNat<=1000000/\(k=1->Q (.ref l) H) /\
 (k≠1->∀p,H p=_n->Q (.ref p) (upd H p (.tup (E6 k.toNat xs).flatten)))
end L4
namespace R
open PySem L2
variable{vs:List V}{d:Dv}{o:Nat}{v:V}{P:Fp}{xs:List Dv}{α:Type}
section
variable{K:W.Frag}{g:G}{H:Hp}
theorem RA.nil(h:RA K g H [] vs):vs=[]:=by unfold RA at h;exact h
theorem RA.cons{ds:List Dv}(h:RA K g H (d::ds) vs):∃v r o P,vs=v::r/\o<=1/\Rep K g H o d v P/\RA K g H ds r:=by unfold RA at h;exact h
theorem RA.one(h:RA K g H [d] vs):∃v o P,vs=[v]/\o<=1/\Rep K g H o d v P:=by obtain⟨v,r,o,P,rfl,a,h1,h2⟩:=h.cons;cases h2.nil;exact⟨v,o,P,rfl,a,h1⟩
theorem RA.two{e:Dv}(h:RA K g H [d,e] vs):∃v o P w u R,vs=[v,w]/\o<=1/\Rep K g H o d v P/\u<=1/\Rep K g H u e w R:=by obtain⟨v,r,o,P,rfl,b,h1,h2⟩:=h.cons;obtain⟨w,u,R,rfl,a,h3⟩:=h2.one;exact⟨v,o,P,w,u,R,rfl,b,h1,a,h3⟩
theorem Av{l:List Nat}(h:Rep K g H o (.str l) v P):v=.str (tx l):=by unfold Rep at h;exact h.1
theorem Jl(h:Rep K g H o .kB v P):v=.kB:=by unfold Rep at h;exact h.1
inductive yR (K:W.Frag) (g:G) (H:Hp) (xs:List Dv) (v:V) (S:A6->List V->Prop) (o:List V->HO):Prop
 |mk (a:A6) (us:List V) (e:v=.ref a) (b:S a us) (c:AA K g H 0 xs us j4) (d:H a=_s (o us))
theorem HQ(b:o<=1)(h:Rep K g H o (.lst xs) v P):yR K g H xs v (Bv K H) .lst:=by unfold Rep at h;obtain⟨a,us,P',rfl,h1,h2,_⟩:=h;rw[S6 b]at h2;exact⟨a,us,rfl,.inl (.inl h1.1),h2.z,h1.1⟩
theorem IQ(b:o<=1)(h:Rep K g H o (.tup xs) v P):yR K g H xs v (DC K H) .tup:=by unfold Rep at h;obtain⟨a,us,rfl,h1,h2⟩:=h;rw[S6 b]at h2;exact⟨a,us,rfl,.inl (.inl h1),h2.z,h1⟩
theorem RN{ns:List Int}(h:Rep K g H o (.k8 ns) v P):∃a,v=.ref a/\Bv K H a (ns.map V.int):=by unfold Rep at h;obtain⟨⟨a,rfl,h1⟩,_⟩:=h;exact⟨a,rfl,h1.sq⟩
theorem EF(b:o<=1){a:A6}{us:List V}(h1:H a=_s (.tup us))(h2:AA K g H 0 xs us j4):Rep K g H o (.tup xs) (.ref a) j4:=by unfold Rep;rw[S6 b];exact⟨a,us,rfl,h1,h2⟩
theorem Ak.int(i:Int):Ak K g H o (.int i) (.int i) H:=Ak.old As
theorem Ak.bl(b:Bool):Ak K g H o (.bl b) (.bl b) H:=Ak.old Bg
theorem Ak.str(l:List Nat):Ak K g H o (.str l) (.str (tx l)) H:=Ak.old (by unfold Rep;exact⟨rfl,λ_ z=>z⟩)
theorem Ak.tup(c:o<=1){p:A6}(b:H p=_n)(h:AA K g H 0 xs vs j4):Ak K g H o (.tup xs) (.ref p) (upd H p (.tup vs)):=
 have a:=Ae b (.tup vs)
 ⟨a,j4,EF c AF (h.held (Step.same (g:=g) (P:=j4) a) kF.j4 λ_ z=>z.elim),λ_ z=>z.elim⟩
theorem IY(n:Nat)(h:AA K g H 0 xs vs j4):AA K g H 0 (xs.drop n) (vs.drop n) j4:=by have h0:=CN.mp h;exact CN.mpr ⟨by simp[h0.1],λi d v e1 e2=>h0.2 (n+i) d v (by simpa using e1) (by simpa using e2)⟩
theorem IV(n:Nat)(h:AA K g H 0 xs vs j4):AA K g H 0 (xs.take n) (vs.take n) j4:=by have h0:=CN.mp h;refine CN.mpr ⟨by simp[h0.1],λi d v e1 e2=>?_⟩;rw[List.getElem?_take]at e1 e2;split at e1;rename_i hi;rw[if_pos hi]at e2;exact h0.2 i d v e1 e2;cases e1
theorem FT(h:AA K g H 0 xs vs j4):AA K g H 0 xs.reverse vs.reverse j4:=by
 have h0:=CN.mp h;refine CN.mpr ⟨by simp[h0.1],λi d v e1 e2=>?_⟩;have hi:i < xs.length:=by simpa using (A9.mp e1).1
 rw[gB hi]at e1;rw[gB (by rw[<- h0.1];exact hi),<- h0.1]at e2;exact h0.2 _ d v e1 e2
theorem IX(ns:List Int):AA K g H 0 (ns.map .int) (ns.map V.int) j4:=CN.mpr ⟨by simp,λi d v e1 e2=>by
 rw[C4]at e1 e2;cases q:ns[i]? with|none=>rw[q]at e1;cases e1|some k=>rw[q]at e1 e2;cases e1;cases e2;exact As⟩
def Bu(xs:List α)(lo hi:Option Int):List α:=(xs.drop (HT.kH xs.length 0 lo)).take (HT.kH xs.length xs.length hi-HT.kH xs.length 0 lo)
theorem SI{a:Type}(f:α->a)(xs:List α)(lo hi:Option Int):(Bu xs lo hi).map f=Bu (xs.map f) lo hi:=by unfold Bu;rw[List.map_take,List.map_drop,D1]
theorem TZ{a:Type}{f:α->a}{xs:List α}{i:Int}:EJ (xs.map f) i=(EJ xs i).map f:=by
 unfold EJ;rw[D1];cases OT xs.length i with|none=>rfl|some j=>show(xs.map f)[j]?=_;rw[C4];rfl
theorem Dl(lo hi:Option Int)(h:AA K g H 0 xs vs j4):AA K g H 0 (Bu xs lo hi) (DU vs lo hi) j4:=by unfold Bu DU;rw[h.len];exact IV _ (IY _ h)
theorem Gw{i:Int}(h:AA K g H 0 xs vs j4)(e:EJ xs i=_s d):∃v,EJ vs i=_s v/\Rep K g H 0 d v j4:=by
 unfold EJ at e ⊢;rw[h.len]at e;cases q:OT vs.length i with|none=>rw[q]at e;cases e|some j=>rw[q]at e;obtain⟨v,R,e1,e2,_⟩:=h.get e;exact⟨v,e1,e2.z⟩
noncomputable def Bm(C:Int->Int->Bool)(f:Int->Int->Int)(x y:Dv):Option Dv:=match x,y with|.int i,.int j=>if C i j=_t then _s (.int (f i j))else _n|_,_=>_n
noncomputable def DY(f:Int->Int->Bool)(x y:Dv):Option Bool:=match x,y with|.int i,.int j=>_s (f i j)|_,_=>_n
abbrev Ca:=Bm (λ_ j=>decide (0 < j)) λi j=>i % j
abbrev QY:=Bm (λ_ j=>decide (0 < j)&&decide (j < 1073741824)) λi j=>i / j
abbrev QX:=Bm (λi j=>decide (0<=j)&&decide (j<=1000000)&&decide (i.natAbs < 2 ^ 64)) λi j=>i ^ j.toNat
abbrev bS:=DY λi j=>decide (j < i)
abbrev eV:=DY λi j=>decide (j<=i)
theorem EL{f:Dv->Dv->Option α}{ds:List Dv}{a:α}(h:two f ds=_s a):∃x y,ds=[x,y]/\f x y=_s a:=by unfold two at h;split at h;exact⟨_,_,rfl,h⟩;cases h
theorem GK{f:Dv->Dv->Option Dv}{r:R2}(h:∀g H x y v w b a P R d Q,Zd g H->b<=1->Rep K g H b x v P->a<=1->Rep K g H a y w R->f x y=_s d->(∀v H',Ak K g H o d v H'->Q v H')->r v w H Q):AR K (two f) o (Kw r):=λg H ds vs d Q zd ra e k=>by obtain⟨x,y,rfl,e⟩:=EL e;obtain⟨v,b,P,w,a,R,rfl,h1,h2,h3,h4⟩:=ra.two;exact h g H x y v w b a P R d Q zd h1 h2 h3 h4 e k
theorem GJ{f:Dv->Dv->Option Bool}{r:R2}(h:∀g H x y v w c a P R b (Q:VK),Zd g H->c<=1->Rep K g H c x v P->a<=1->Rep K g H a y w R->f x y=_s b->Q (.bl b) H->r v w H Q):AR K (λds=>(two f ds).map .bl) 0 (Kw r):=λg H ds vs d Q zd ra e k=>by
 have e:(two f ds).map Dv.bl=_s d:=e;cases q:two f ds with|none=>rw[q]at e;cases e|some b=>rw[q]at e;cases e;obtain⟨x,y,rfl,e2⟩:=EL q;obtain⟨v,c,P,w,a,R,rfl,h1,h2,h3,h4⟩:=ra.two;exact h g H x y v w c a P R b Q zd h1 h2 h3 h4 e2 (k _ _ (Ak.bl _))
theorem EG{C:Int->Int->Bool}{a:Int->Int->Prop}{f:Int->Int->Int}(b:∀i j,C i j=_t->a i j):AR K (two (Bm C f)) o (Kw (rI a λi j=>.int (f i j))):=GK λg H x y v w l h P R d Q zd _ h1 _ h2 e k=>by unfold Bm at e;split at e;split at e;rename_i c;cases e;rw[AV h1,AV h2];exact⟨_,_,rfl,rfl,b _ _ c,k _ _ (Ak.int _)⟩;cases e;cases e
theorem GL{f:Int->Int->Bool}:AR K (λds=>(two (DY f) ds).map .bl) 0 (Kw (UF λi j=>.bl (f i j))):=GJ λg H x y v w c a P R b Q zd _ h1 _ h2 e k=>by unfold DY at e;split at e;cases e;rw[AV h1,AV h2];exact⟨_,_,rfl,rfl,k⟩;cases e
noncomputable def Ay(x y:Dv):Option Dv:=match x,y with
 |.int i,.int j=>_s (.int (i+j))
 |.str a,.str b=>if a.length+b.length<=1000000 then _s (.str (a++b))else _n
 |.lst xs,.lst ys=>if xs.length+ys.length<=1000000 then _s (.lst (xs++ys))else _n
 |.tup xs,.tup ys=>if xs.length+ys.length<=1000000 then _s (.tup (xs++ys))else _n
 |_,_=>_n
theorem WH:AR K (two Ay) 1 (Kw (Gz K)):=GK λg H x y v w t s P R d Q zd l1 h1 l2 h2 e k=>by unfold Ay at e;split at e;cases e;rw[AV h1,AV h2];exact QT (k _ _ (Ak.int _));split at e;rename_i h;cases e;rw[Av h1,Av h2];refine QR (by rw[BY,BY];exact h) ?_;rw[IK];exact k _ _ (Ak.str _);cases e;split at e;rename_i h;cases e;obtain⟨a,us,rfl,_,f,ha⟩:=HQ l1 h1;obtain⟨b,ws,rfl,_,c,i⟩:=HQ l2 h2;exact QS ha i (by rw[<- f.len,<- c.len];exact h) λp l=>k _ _ (Ak.lst zd (Dm f c) l);cases e;split at e;rename_i h;cases e;obtain⟨a,us,rfl,ha,f,q⟩:=IQ l1 h1;obtain⟨b,ws,rfl,i,c,n⟩:=IQ l2 h2;have j:=Dm f c;by_cases m:us=[];subst m;exact .inr ⟨a,b,ws,rfl,rfl,ha,i,k _ _ (Ak.old (EF (C7 1) n j))⟩;refine .inl (.inr (.inr (.inr ⟨a,b,us,ws,rfl,rfl,ha,i,m,by rw[<- f.len,<- c.len];exact C3 h `d,λr=>?_,λ_ p l=>k _ _ (Ak.tup (C7 1) l j)⟩)));subst r;rw[F8]at j;exact k _ _ (Ak.old (EF (C7 1) q j));cases e;cases e
noncomputable def big(i:Int):Bool:=decide (-(2 ^ 64) < i)&&decide (i < 2 ^ 64)
abbrev Da:=Bm (λi j=>big i||big j) λi j=>i * j
noncomputable def Dc(x:Dv):Option Dv:=match x with
 |.str l=>if l.length<=1000000 then _s (.int l.length)else _n
 |.lst xs=>_s (.int xs.length)
 |.tup xs=>_s (.int xs.length)
 |.k8 ns=>_s (.int ns.length)
 |.mC ks _=>_s (.int ks.length)
 |_=>_n
theorem Nz{f:Dv->Option α}{ds:List Dv}{a:α}(h:one f ds=_s a):∃x,ds=[x]/\f x=_s a:=by unfold one at h;split at h;exact⟨_,rfl,h⟩;cases h
theorem Ng{f:Dv->Option Dv}{r:JV}(h:∀g H x v a P d Q,Zd g H->a<=1->Rep K g H a x v P->f x=_s d->(∀v H',Ak K g H o d v H'->Q v H')->r [v] H Q):AR K (one f) o r:=λg H ds vs d Q zd ra e k=>by obtain⟨x,rfl,e⟩:=Nz e;obtain⟨v,a,P,rfl,h1,h2⟩:=ra.one;exact h g H x v a P d Q zd h1 h2 e k
theorem WD:AR K (one Dc) o (λxs H Q=>LO K xs H Q\/UE xs H Q):=Ng λg H x v h P d Q zd l1 h1 e k=>by
 unfold Dc at e;split at e;split at e;rename_i l c;cases e;rw[Av h1];refine .inl (Lj (by rw[BY];exact c) ?_);rw[BY];exact k _ _ (Ak.int _);cases e;cases e;obtain⟨a,us,rfl,ha,b,f⟩:=HQ l1 h1;refine .inl (SL f ?_);rw[<- b.len];exact k _ _ (Ak.int _);cases e;obtain⟨a,us,rfl,ha,b,f⟩:=IQ l1 h1;refine .inl ⟨_,_,rfl,.inr ⟨us,ha,rfl⟩,?_⟩;rw[<- b.len];exact k _ _ (Ak.int _);cases e;obtain⟨a,rfl,ha⟩:=RN h1;refine .inl (OM ha ?_);rw[D1];exact k _ _ (Ak.int _);cases e;obtain⟨a,us,rfl,ha,c,b⟩:=XO h1;refine .inr ⟨a,_,rfl,ha,?_⟩;rename_i ks xs;have:(ks.zip us).length=ks.length:=by rw[List.length_zip,c,b.len,iE]
 rw[this];exact k _ _ (Ak.int _);cases e
def AX(x y:Dv):Option Dv:=match x,y with
 |.lst xs,.int i=>EJ xs i
 |.tup xs,.int i=>EJ xs i
 |.k8 ns,.int i=>(EJ ns i).map .int
 |.str l,.int i=>if l.length<=1000000 then(EJ l i).map λc=>.str [c]else _n
 |.mC ks ds,k=>(KF k).bind λk=>MC k ks ds
 |_,_=>_n
theorem WG:AR K (two AX) 0 (Kw λx y H Q=>Vr K x y H Q\/dv x y H Q):=GK λg H x y v w p n P R d Q zd l1 h1 l2 h2 e k=>by
 unfold AX at e;split at e;obtain⟨a,us,rfl,ha,b,f⟩:=HQ l1 h1;rw[AV h2];obtain⟨u,e2,h3⟩:=Gw b e;exact .inl (RV f e2 (k _ _ (Ak.old h3)));obtain⟨a,us,rfl,ha,b,f⟩:=IQ l1 h1;rw[AV h2];obtain⟨u,e2,h3⟩:=Gw b e;exact .inl (.inr (.inl ⟨a,us,_,u,rfl,rfl,ha,e2,k _ _ (Ak.old h3)⟩));rename_i ns i;obtain⟨a,rfl,ha⟩:=RN h1;rw[AV h2];cases q:EJ ns i with|none=>rw[q]at e;cases e|some j=>rw[q]at e;cases e;exact .inl (Vp ha (by rw[TZ,q];rfl) (k _ _ (Ak.int _)))
 rename_i l i;split at e;rename_i h;rw[Av h1,AV h2];cases q:EJ l i with|none=>rw[q]at e;cases e|some c=>rw[q]at e;cases e;exact .inl (RU (by rw[BY];exact h) (by rw[Qw];exact q) (k _ _ (Ak.str [c])))
 cases e;obtain⟨r,m,e⟩:=kb e;obtain⟨a,us,rfl,ha,h,b⟩:=XO h1;obtain⟨u,e2,h3⟩:=Hi b e;rw[SM h2 m];exact .inr ⟨a,u,rfl,e2▸FL.k ha,k _ _ (Ak.old h3)⟩;cases e
def MZ(x:Dv)(lo hi:Option Int):Option Dv:=match x with
 |.str l=>if l.length<=1000000 then _s (.str (PY l lo hi))else _n
 |.lst xs=>_s (.lst (Bu xs lo hi))
 |.tup xs=>_s (.tup (Bu xs lo hi))
 |.k8 ns=>_s (.lst ((Bu ns lo hi).map .int))
 |_=>_n
theorem Zh(lo hi:Option Int):AR K (one λd=>MZ d lo hi) 1 (YF λx H Q=>LN K x lo hi H Q):=Ng λg H x v j P d Q zd l1 h1 e k=>by
 show LN K v lo hi H Q;cases x with
 |str l=>simp only[MZ.eq_def]at e;split at e;rename_i i;cases e;rw[Av h1];refine RG (by rw[BY];exact i) ?_;rw[Mm];exact k _ _ (Ak.str _);cases e
 |lst xs=>cases e;obtain⟨a,us,rfl,ha,f,c⟩:=HQ l1 h1;exact RH c λp b=>k _ _ (Ak.lst zd (Dl lo hi f) b)
 |tup xs=>
  cases e;obtain⟨a,us,rfl,ha,f,c⟩:=IQ l1 h1;have h:=Dl lo hi f;by_cases w:HT.kH us.length 0 lo=0/\HT.kH us.length us.length hi=us.length;refine .inr ⟨a,us,rfl,ha,w,k _ _ (Ak.old ?_)⟩;have ec:DU us lo hi=us:=by unfold DU;rw[w.1,w.2];simp
  rw[ec]at h;exact EF (C7 1) c h;exact .inl (.inr (.inr ⟨a,us,rfl,ha,w,λp b=>k _ _ (Ak.tup (C7 1) b h)⟩))
 |k8 ns=>cases e;obtain⟨a,rfl,ha⟩:=RN h1;refine Va ha λp b=>k _ _ (Ak.lst zd ?_ b);rw[SI];exact Dl lo hi (IX ns)
 |_=>cases e
end
mutual
noncomputable def toD:Dv->L3.D
 |.bl b=>.fl (.bl b)
 |.int i=>.fl (.int i)
 |.str l=>.fl (.str (tx l))
 |.tup xs=>.tup (kU xs)
 |.lst xs=>.lst (kU xs)
 |_=>.fl .kB
noncomputable def kU:List Dv->List L3.D
 |[]=>[]
 |d::ds=>toD d::kU ds
end
mutual
noncomputable def Dv.cmp:Dv->Bool
 |.kB|.bl _|.int _|.str _=>_t
 |.tup xs=>BN xs
 |.lst xs=>BN xs
 |_=>_f
noncomputable def BN:List Dv->Bool
 |[]=>_t
 |d::ds=>d.cmp&&BN ds
end
mutual
noncomputable def Dv.dep:Dv->Nat
 |.tup xs=>Bx xs+1
 |.lst xs=>Bx xs+1
 |_=>0
noncomputable def Bx:List Dv->Nat
 |[]=>0
 |d::ds=>max d.dep (Bx ds)
end
mutual
noncomputable def kr:Dv->Dv->Bool
 |.kB,.kB=>_t
 |.bl a,.bl b=>a==b
 |.bl a,.int b=>(if a then 1 else 0)==b
 |.int a,.bl b=>a==(if b then 1 else 0)
 |.int a,.int b=>a==b
 |.str a,.str b=>a==b
 |.tup xs,.tup ys=>mQ xs ys
 |.lst xs,.lst ys=>mQ xs ys
 |_,_=>_f
noncomputable def mQ:List Dv->List Dv->Bool
 |[],[]=>_t
 |x::xs,y::ys=>kr x y&&mQ xs ys
 |_,_=>_f
end
mutual
theorem PD:∀(d e:Dv),d.cmp=_t->e.cmp=_t->L3.kZ (toD d) (toD e)=kr d e
 |.kB,e,h,k|.bl _,e,h,k|.int _,e,h,k=>by cases e<;>first|(unfold toD L3.kZ kr;rfl)|(unfold Dv.cmp at k;cases k)
 |.str l,e,h,k=>by
  cases e with
  |str m=>unfold toD L3.kZ kr;rw[L2.pW];exact(Bool.beq_eq_decide_eq l m).symm
  |_=>first|(unfold toD L3.kZ kr;rfl)|(unfold Dv.cmp at k;cases k)
 |.tup xs,e,h,k=>by
  cases e with
  |tup ys=>unfold toD L3.kZ kr;unfold Dv.cmp at h k;exact JK xs ys h k
  |_=>first|(unfold toD L3.kZ kr;rfl)|(unfold Dv.cmp at k;cases k)
 |.lst xs,e,h,k=>by
  cases e with
  |lst ys=>unfold toD L3.kZ kr;unfold Dv.cmp at h k;exact JK xs ys h k
  |_=>first|(unfold toD L3.kZ kr;rfl)|(unfold Dv.cmp at k;cases k)
 |.mC _ _,e,h,k|.ref _,e,h,k|.k8 _,e,h,k|.ty _,e,h,k|.nh _,e,h,k|.mB _ _ _,e,h,k|.nW _ _,e,h,k|.oo _ _,e,h,k|.obj _ _ _ _,e,h,k=>by unfold Dv.cmp at h;cases h
theorem JK:∀(d e:List Dv),BN d=_t->BN e=_t->L3.k7 (kU d) (kU e)=mQ d e
 |[],[],_,_=>by unfold kU L3.k7 mQ;rfl
 |[],_::_,_,_=>by simp only[kU,L3.k7,mQ]
 |_::_,[],_,_=>by simp only[kU,L3.k7,mQ]
 |x::xs,y::ys,h,k=>by unfold BN at h k;rw[A1]at h k;simp only[kU,L3.k7,mQ];rw[PD x y h.1 k.1,JK xs ys h.2 k.2]
end
mutual
theorem Ue:∀(d:Dv),(toD d).dep=d.dep
 |.kB|.bl _|.int _|.str _|.mC _ _|.ref _|.k8 _|.ty _|.nh _|.mB _ _ _|.nW _ _|.oo _ _|.obj _ _ _ _=>by unfold toD L3.D.dep Dv.dep;rfl
 |.tup xs=>by unfold toD L3.D.dep Dv.dep;rw[GX xs]
 |.lst xs=>by unfold toD L3.D.dep Dv.dep;rw[GX xs]
theorem GX:∀(d:List Dv),L3.lC (kU d)=Bx d
 |[]=>by unfold kU L3.lC Bx;rfl
 |x::xs=>by simp only[kU,L3.lC,Bx];rw[Ue x,GX xs]
end
section
variable{K:W.Frag}{g:G}{H:Hp}
mutual
theorem Rep.is:∀{o:Nat}{d:Dv}{v:V}{P:Fp},Rep K g H o d v P->d.cmp=_t->L3.Is K H v (toD d)
 |_,.kB,v,P,h,_=>by rw[Jl h];unfold toD L3.Is;exact⟨rfl,rfl⟩
 |_,.bl b,v,P,h,_=>by rw[CO h];unfold toD L3.Is;exact⟨rfl,rfl⟩
 |_,.int i,v,P,h,_=>by rw[AV h];unfold toD L3.Is;exact⟨rfl,rfl⟩
 |_,.str l,v,P,h,_=>by rw[Av h];unfold toD L3.Is;exact⟨rfl,rfl⟩
 |_,.tup xs,v,P,h,c=>by unfold Rep at h;obtain⟨a,vs,rfl,h1,h2⟩:=h;unfold Dv.cmp at c;unfold toD L3.Is;exact⟨a,vs,rfl,.inl (.inl h1),AA.uJ h2 c⟩
 |_,.lst xs,v,P,h,c=>by unfold Rep at h;obtain⟨a,vs,P',rfl,h1,h2,_⟩:=h;unfold Dv.cmp at c;unfold toD L3.Is;exact⟨a,vs,rfl,.inl (.inl h1.1),AA.uJ h2 c⟩
 |_,.mC _ _,v,P,h,c|_,.ref _,v,P,h,c|_,.k8 _,v,P,h,c|_,.ty _,v,P,h,c|_,.nh _,v,P,h,c|_,.mB _ _ _,v,P,h,c|_,.nW _ _,v,P,h,c|_,.oo _ _,v,P,h,c|_,.obj _ _ _ _,v,P,h,c=>by unfold Dv.cmp at c;cases c
theorem AA.uJ:∀{o:Nat}{d:List Dv}{v:List V}{P:Fp},AA K g H o d v P->BN d=_t->L3.IsL K H v (kU d)
 |_,[],v,P,h,_=>by
  unfold AA at h;obtain⟨rfl,_⟩:=h;unfold kU L3.IsL
  trivial
 |_,x::xs,v,P,h,c=>by unfold AA at h;obtain⟨u,r,P1,P2,rfl,h1,h2,_⟩:=h;unfold BN at c;rw[A1]at c;unfold kU L3.IsL;exact⟨Rep.is h1 c.1,AA.uJ h2 c.2⟩
end
def JT(neg:Bool)(x y:Dv):Option Bool:=if(x.cmp&&y.cmp&&decide (x.dep<=150))=_t then _s (if neg then !kr x y else kr x y)else _n
abbrev Cr:=JT _f
abbrev Km:=JT _t
theorem Nh{neg:Bool}:AR K (λds=>(two (JT neg) ds).map .bl) 0 (Kw (L3.qU K neg)):=GJ λg H x y v w d a P R b Q zd _ h1 _ h2 e k=>by unfold JT at e;split at e;rename_i c;cases e;rw[A1,A1,decide_eq_true_eq]at c;refine⟨toD x,toD y,by rw[Ue];exact c.2,h1.is c.1.1,h2.is c.1.2,?_⟩;rw[PD x y c.1.1 c.1.2];exact k;cases e
noncomputable def bh:Dv->Option (List Dv)
 |.lst xs=>_s xs
 |.tup xs=>_s xs
 |.nh ls=>_s (ls.map .str)
 |_=>_n
def HP(e:Dv)(ds:List Dv):Bool:=ds.any λd=>kr d e
def JS(neg:Bool)(e s:Dv):Option Bool:=match e,s with
 |.str x,.str l=>_s (if neg then !Q.rV x l else Q.rV x l)
 |e,s=>match bh s with
  |some xs=>if(e.cmp&&BN xs&&decide (Bx xs<=150))=_t then _s (if neg then !HP e xs else HP e xs)else _n
  |none=>_n
abbrev eU:=JS _f
theorem aw(e:Dv)(a:e.cmp=_t):∀(ds:List Dv),BN ds=_t->((kU ds).any λd=>L3.kZ d (toD e))=HP e ds
 |[],_=>by unfold kU HP;rfl
 |d::ds,h=>by unfold BN at h;rw[A1]at h;unfold HP;simp only[kU,Y2];rw[PD d e h.1 a,aw e a ds h.2];rfl
theorem IW(ls:List (List Nat)):AA K g H 0 (ls.map .str) (ls.map λl=>V.str (tx l)) j4:=CN.mpr ⟨by simp,λi d v e1 e2=>by
 rw[C4]at e1 e2;cases q:ls[i]? with|none=>rw[q]at e1;cases e1|some k=>rw[q]at e1 e2;cases e1;cases e2;unfold Rep;exact⟨rfl,λ_ z=>z⟩⟩
theorem WE{neg:Bool}:AR K (λds=>(two (JS neg) ds).map .bl) 0 (Kw (Q.rq K neg)):=GJ λg H x y v w i h P R b Q zd l1 h1 l2 h2 e k=>by
  unfold JS at e;split at e;cases e;rw[Av h1,Av h2];exact .inl ⟨_,_,rfl,rfl,k⟩;rename_i a s _;split at e;rename_i xs es;split at e;rename_i c;cases e;rw[A1,A1,decide_eq_true_eq]at c;have go:∀p ys,w=.ref p->(Bv K H p ys\/DC K H p ys)->AA K g H 0 xs ys j4->L3.qT K neg v w H Q:=by rintro p ys rfl hs f;refine⟨p,ys,kU xs,toD x,rfl,hs,f.uJ c.1.2,h1.is c.1.1,by rw[GX];exact c.2,?_⟩;rw[aw x c.1.1 xs c.1.2];exact k
  cases y with|lst ys=>cases es;obtain⟨p,us,rfl,ha,d,_⟩:=HQ l2 h2;exact .inr (go p us rfl (.inl ha) d)|tup ys=>cases es;obtain⟨p,us,rfl,ha,d,_⟩:=IQ l2 h2;exact .inr (go p us rfl (.inr ha) d)|nh ls=>cases es;unfold Rep at h2;obtain⟨⟨p,rfl,hm⟩,_⟩:=h2;exact .inr (go p _ rfl (.inr (.inr hm)) (IW ls))|_=>cases es
  cases e;cases e
end
end R
namespace L2
open PySem PySem.Spec PyProof.Rows
end L2
namespace HT
open PySem PyProof.Rows
section
open PySem.SeqAt
open PySem.AutoSeq1 (wpAny_loadPart')
open PySem.MeetsSeq PySem.MeetsSeq2 PySem.MeetsSeq3
end
end HT
namespace L2
open PySem PySem.Spec PyProof.Rows
end L2
namespace R
open PySem L2
noncomputable def Qt:List Dv->Option (List Bool)
 |[]=>_s []
 |.bl b::ds=>(Qt ds).map (b::·)
 |_=>_n
noncomputable def Jb:List Dv->Option (List Int)
 |[]=>_s []
 |.int b::ds=>(Jb ds).map (b::·)
 |_=>_n
noncomputable def FO:List Dv->Option (List (List Nat))
 |[]=>_s []
 |.str b::ds=>(FO ds).map (b::·)
 |_=>_n
section
variable{K:W.Frag}{g:G}{H:Hp}
theorem Mi:∀{ds:List Dv}{bs:List Bool}{vs:List V},AA K g H 0 ds vs j4->Qt ds=_s bs->vs=bs.map V.bl
 |[],bs,vs,h,e=>by cases e;exact Ce h
 |d::ds,bs,vs,h,e=>by obtain⟨v,r,rfl,h1,h2⟩:=CM h;cases d<;>simp only[Qt,K8,reduceCtorEq]at e;obtain⟨a,e,rfl⟩:=e;rw[CO h1,Mi h2 e];rfl
theorem FM:∀{ds:List Dv}{bs:List (List Nat)}{vs:List V},AA K g H 0 ds vs j4->FO ds=_s bs->vs=(bs.map tx).map V.str
 |[],bs,vs,h,e=>by cases e;exact Ce h
 |d::ds,bs,vs,h,e=>by obtain⟨v,r,rfl,h1,h2⟩:=CM h;cases d<;>simp only[FO,K8,reduceCtorEq]at e;obtain⟨a,e,rfl⟩:=e;rw[Av h1,FM h2 e];rfl
def fZ(x:Dv):Option Dv:=match x with|.lst xs=>(Qt xs).map λbs=>.bl (bs.all id)|_=>_n
def eW(x y:Dv):Option Dv:=match x with
 |.lst xs=>match y with
  |.int d=>match Jb xs with|some []=>_s (.int d)|some (n::ns)=>_s (.int (Q.xh (n::ns)))|none=>_n
  |_=>_n
 |_=>_n
noncomputable def Fy(x y:Dv):Option Dv:=match x,y with|.int i,.int j=>_s (.int (if j > i then j else i))|_,_=>_n
theorem Ju{f:Dv->Dv->Option Dv}{o:Nat}{r:JV}(h:∀g H x y v w b a P R d Q,Zd g H->b<=1->Rep K g H b x v P->a<=1->Rep K g H a y w R->f x y=_s d->(∀v H',Ak K g H o d v H'->Q v H')->r [v,w] H Q):AR K (two f) o r:=λg H ds vs d Q zd ra e k=>by obtain⟨x,y,rfl,e⟩:=EL e;obtain⟨v,b,P,w,a,R,rfl,h1,h2,h3,h4⟩:=ra.two;exact h g H x y v w b a P R d Q zd h1 h2 h3 h4 e k
theorem Rk{o:Nat}:AR K (two Fy) o (λxs H Q=>∃i j,xs=[.int i,.int j]/\Q (.int (if j > i then j else i)) H):=Ju λg H x y v w b a P R d Q zd _ h1 _ h2 e k=>by unfold Fy at e;split at e;cases e;rw[AV h1,AV h2];exact⟨_,_,rfl,k _ _ (Ak.int _)⟩;cases e
def FB(x y:Dv):Option Dv:=match x,y with
 |.str a,.lst xs=>match FO xs with
  |some ys=>if(ys.map X1).sum+ys.length * a.length<=1000000 then _s (.str (jn a ys))else _n
  |none=>_n
 |_,_=>_n
theorem Rl{o:Nat}:AR K (two FB) o (bY (NY K)):=Ju λg H x y v w i h P R d Q zd l1 h1 l2 h2 e k=>by unfold FB at e;split at e;split at e;rename_i b xs _ ys e1;split at e;rename_i c;cases e;obtain⟨a,us,rfl,ha,f,_⟩:=HQ l2 h2;rw[Av h1];rw[FM f e1]at ha;refine⟨tx b,a,ys.map tx,rfl,rfl,ha,?_,?_⟩;rw[VO,D1,BY];exact C3 c `d;rw[Yi];exact k _ _ (Ak.str _);cases e;cases e;cases e
def Zz(e:Dv):List Dv->Option Nat
 |[]=>_n
 |d::ds=>if kr d e=_t then _s 0 else(Zz e ds).map (·+1)
def bU(x e:Dv):Option Dv:=match x with
 |.tup xs=>if(e.cmp&&BN xs&&decide (Bx xs<=150))=_t then(Zz e xs).map λj=>.int (j:Nat)else _n
 |_=>_n
def fP(f:List Int->List Int->Bool)(xs:List Dv)(y:Dv):Option Bool:=match y with
 |.tup ys=>(Jb xs).bind λa=>(Jb ys).map λb=>f a b
 |_=>_n
abbrev Xx:=DY λi j=>decide (i < j)
end
end R
namespace L2
open PySem PySem.Spec PyProof.Rows
end L2
namespace L3
open PySem PySem.Spec PyProof.Rows L2
end L3
namespace KO
open PySem PySem.W PyProof.Rows
end KO
namespace L2
open PySem PySem.Spec PyProof.Rows
end L2
namespace R
open PySem L2
section
variable{K:W.Frag}{g:G}{H:Hp}
noncomputable def Tj:List Dv->List Dv->List Dv
 |x1::a,c::b=>.tup [x1,c]::Tj a b
 |_,_=>[]
def fm:List (List Dv)->Option (List Dv)
 |[a,b]=>_s (Tj a b)
 |_=>_n
end
section
variable{K:W.Frag}{g:G}{H:Hp}
def ax(ds:List Dv):Option Dv:=match ds with
 |[.int j]=>if small j=_t/\j<=1000000 then _s (.lst ((D0 j.toNat).map λk=>.int (k:Nat)))else _n
 |[.int i,.int j]=>if(small i&&small j)=_t/\j-i<=1000000 then _s (.lst ((D0 (j-i).toNat).map λk=>.int (i+(k:Nat))))else _n
 |_=>_n
end
noncomputable def Ht(x y:Dv):Option Dv:=match x,y with
 |.lst xs,.int i=>if i = -1 then _s (.lst xs.reverse)else _n
 |.tup xs,.int i=>if i = -1 then _s (.tup xs.reverse)else _n
 |_,_=>_n
theorem Rj{K:W.Frag}:AR K (two Ht) 1 (Kw (du K)):=GK λg H x y v w h f P R d Q zd l1 h1 l2 h2 e k=>by unfold Ht at e;split at e;split at e;rename_i hi;subst hi;cases e;obtain⟨a,us,rfl,ha,b,_⟩:=HQ l1 h1;exact⟨a,us,_f,rfl,AV h2,ha,λl c=>k _ _ (Ak.lst zd (FT b) c)⟩;cases e;split at e;rename_i hi;subst hi;cases e;obtain⟨a,us,rfl,ha,b,_⟩:=IQ l1 h1;exact⟨a,us,_t,rfl,AV h2,ha,λl c=>k _ _ (Ak.tup (C7 1) c (FT b))⟩;cases e;cases e
noncomputable def Td:Dv->Option Bool
 |.kB=>_s _f
 |.bl b=>_s b
 |.int i=>_s (i != 0)
 |.str l=>if l.length<=1000000 then _s (!l.isEmpty)else _n
 |.lst xs=>_s (!xs.isEmpty)
 |.tup xs=>_s (!xs.isEmpty)
 |.k8 xs=>_s (!xs.isEmpty)
 |.mC ks _=>_s (!ks.isEmpty)
 |_=>_n
theorem Jj{K:W.Frag}{g:G}{H:Hp}{o:Nat}{xs:List Dv}{vs:List V}{P:Fp}(h:AA K g H o xs vs P):(!xs.isEmpty)=!vs.isEmpty:=by have:=h.len;cases xs<;>cases vs<;>simp at this<;>rfl
theorem Qx(K:W.Frag)(g:G)(H:Hp)(o:Nat)(d:Dv)(v:V)(P:Fp)(b:Bool)(h:Rep K g H o d v P)(e:Td d=_s b):QZ K v H b:=by
 cases d with|kB=>cases e;rw[Jl h];exact rfl|bl b=>cases e;rw[CO h];exact rfl|int i=>cases e;rw[AV h];exact rfl|str l=>simp only[Td.eq_def]at e;split at e;rename_i c;cases e;rw[Av h];refine⟨by rw[BY];exact C3 c `d,?_⟩;rw[BY];cases l<;>simp;omega;cases e|lst xs=>cases e;unfold Rep at h;obtain⟨a,vs,P',rfl,h1,h2,_⟩:=h;exact .inl ⟨vs,.inl (.inl h1.1),Jj h2⟩|tup xs=>cases e;unfold Rep at h;obtain⟨a,vs,rfl,h1,h2⟩:=h;exact .inr (.inl ⟨vs,.inl (.inl h1),Jj h2⟩)|k8 ns=>cases e;obtain⟨a,rfl,h1⟩:=RN h;exact .inl ⟨_,h1,by cases ns<;>rfl⟩|mC ks ds=>cases e;obtain⟨a,us,rfl,ha,c,f⟩:=XO h;refine .inr (.inr ⟨_,ha,?_⟩);have:=f.len;cases ks<;>cases ds<;>cases us<;>simp at c this<;>rfl|_=>cases e
theorem cg{es:List Expr}(h:es.length=1):∃a,es=[a]:=List.length_eq_one_iff.mp h
theorem cV{X:Cx}(h:Gx X):X.A.units+1 < O8:=by obtain⟨j,r⟩:=h.2;have:=r.un;omega
theorem eD{X:Cx}(h:Gx X):X.A.units+2 < O8:=by obtain⟨j,r⟩:=h.2;have:=r.un;omega
end R
namespace KO
open PySem PySem.W PyProof.Rows
end KO
namespace L2
open PySem PySem.Spec PyProof.Rows
end L2
namespace R
open PySem L2 PyProof.Rows
end R
namespace XC
open PySem PySem.W PySem.Spec PyProof.Rows L2
structure Ent (h:F1) (H:Hp) (a t:A6) (v:A3:=.none):Prop where
 ex:∃o ts,h.get? t=_s o/\o.data=.fields ts/\ts[3]?=_s v
 ne:t≠a
 fr:H t=_n
def Up(X:Cx)(pins:List (A6×Obj))(H:Hp)(s:A5)(a C:A6)(dx:Option A6):Prop:=
 H a=_s (.ext (ku a C dx .none))\/∃t,H a=_s (.ext (ku a C dx (.ref t)))/\(Ent s.heap H a t\/Ent s.heap H a t (O2 X.env.locals))/\X.kP.heap.objs.size<=t/\t∉X.ex/\∀p∈X.pn++pins,p.1≠t
abbrev WK:=A6->A6->Option A6->Hp->Prop
def Ew(W:WK):XK:=λv o H=>match v with
 |.int i C=>W i.toNat C o H
 |_=>False
def Qj(P:D4)(w:E8):MX:=λouter H s E v s'=>∃(a C:A6)(dx:Option A6)(t:A6)(H':Hp),v=.ref a/\s'.os=s.os/\U5 s'.gens/\Un (EI outer) [] H H' s.heap s'.heap/\Cn P w H' s'.heap/\H' a=_s (.ext (ku a C dx (.ref t)))/\Ent s'.heap H' a t/\s.heap.objs.size<=t/\E (.int (a:Nat) C) dx H'
def eY(W:WK):Prop:=∀a C dx H φ φ',H a=_s (.ext φ)->W a C dx H->W a C dx (upd H a (.ext φ'))
def Wx(X:Cx)(W:WK):Prop:=∀(pins:List (A6×Obj))(σ:L2.St)(H:Hp)(s:A5)(a C:A6)(dx:Option A6),Inv X pins σ H s->Up X pins H s a C dx->W a C dx H->X.xe (.ref a) s
variable{A':F2}{h':F1}
section
variable{X:Cx}{pins:List (A6×Obj)}{σ:L2.St}{H:Hp}{s:A5}{a C:A6}{dx:Option A6}
theorem YL{W:WK}(j:X.ex=[])(h:Wx X W):FD (Qj X.prog X.w) X (Ew W):=λpins σ H s e s' I ⟨a,C,dx,t,H',e1,e2,e3,o,n,m,l,c,k⟩=>by subst e1;obtain⟨i,g,d,tk,os⟩:=s';obtain rfl:os=s.os:=e2;refine h pins σ H' _ a C dx (I.call (h':=i) (g':=g) (d':=d) (t':=tk) (ch:=[]) o n e3 (λb z=>nomatch z)) (.inr ⟨t,m,.inl l,C3 I.sz c,λz=>?_,λp f z=>?_⟩) k;rw[j]at z;cases z;have:=B6 (I.pin p f).1;rw[z]at this;exact absurd (B1 this c) (G7 _)
def IB(X:Cx)(pins:List (A6×Obj))(H:Hp)(t:A6):Prop:=H t=_n/\X.kP.heap.objs.size<=t/\∀p∈X.pn++pins,p.1≠t
theorem OB{E:A3->A5->Prop}{Q:Unit->A5->Prop}(x:A'.frames=_s X.stack)(I:Inv X pins σ H s)(u:Up X pins H s a C dx)(h:X.stack=X.env::X.outer)(r:X.env.frame=_s X.env.locals)
    (z:∀h' t (ch:List A6) i sl,(∀b∈ch,IB X pins H b/\∃o vs,s.heap.get? b=_s o/\o.data=.fields vs)->ph (EI X.stack) a (·∈ch) s.heap h'->(t∈ch\/s.heap.objs.size<=t)->IB X pins H t->pH h' a ⟨.ref C,dx,.fields i,sl⟩ t (O2 X.env.locals)->Q () {s with heap:=h' }) :
    B7 (C0 X.prog X.w) A' (O1 (.ref a) X.env) Q E s:=by
  rw[h]at x;have fr:∀{t:A6},s.heap.objs.size<=t->IB X pins H t:=fun{t} c=>⟨I.kD.fresh c,C3 I.sz c,λp m y=>by have:=B6 (I.pin p m).1;rw[y]at this;exact absurd (B1 this c) (G7 _)⟩
  rcases u with u|⟨t,u,ent,A,B,m⟩
  obtain⟨⟨vs,sl,k,h1⟩,_,_⟩:=I.kD a _ u;exact Ih (base:=X.base) x (by rw[<- h];exact I.stack) r k rfl h1 λh' t i n c tr=>z h' t [] i sl (λb y=>nomatch y) ⟨λb o q e d _=>n.keep b o q (by rw[<- h];exact e) d λy=>y,λb o q d _=>n.slot b o q d λy=>y⟩ (.inr c) (fr c) tr;obtain⟨⟨vs,sl,k,h1⟩,_,_⟩:=I.kD a _ u;have one:∀{v:A3},Ent s.heap H a t v->IB X pins H t/\∃o vs,s.heap.get? t=_s o/\o.data=.fields vs:=λent=>⟨⟨ent.fr,A,m⟩,let ⟨oT,ts,g,f,_⟩:=ent.ex;⟨oT,ts,g,f⟩⟩;have no:∀b,b∉[t]->b≠t:=λb q y=>q (by rw[y];exact K4 _);rcases ent with ent|ent
  have j:=one ent;obtain⟨⟨oT,ts,g,f,l⟩,ne,_⟩:=ent;exact LY (base:=X.base) x (by rw[<- h];exact I.stack) r ⟨k,⟨vs,oT,ts,rfl,h1,g,f,l⟩,ne⟩ λh' t' i n c tr=>z h' t' [t] i sl (λb e=>by rw[G6.mp e];exact j) ⟨λb o q e d hn=>n.keep b o q (by rw[<- h];exact e) d (no b hn),λb o q d hn=>n.slot b o q d (no b hn)⟩ (.inr c) (fr c) tr;have j:=one ent;obtain⟨⟨oT,ts,g,f,l⟩,ne,_⟩:=ent;have tr:pH s.heap a ⟨.ref C,dx,.fields vs,sl⟩ t (O2 X.env.locals):=⟨k,⟨vs,oT,ts,rfl,h1,g,f,l⟩,ne⟩;exact LX r tr (z s.heap t [t] vs sl (λb e=>by rw[G6.mp e];exact j) ⟨λb o q _ _ _=>q,λb o q _ _=>⟨o.slots,q⟩⟩ (.inl (K4 _)) j.1 tr)
theorem aF{fl:Option A6}{A':F2}{E:A3->A5->Prop}{Q:Unit->A5->Prop}{t:A6}{ch:List A6}{k:Array A3}{sl:Array (Option A3)}{v:A3}(n:ph (EI X.stack) a (·∈ch) s.heap h')(g:t∈ch\/s.heap.objs.size<=t)(fr:IB X pins H t)(tr:pH h' a ⟨.ref C,dx,.fields k,sl⟩ t v)
    (z:∀h2,ph (EI X.stack) a (·∈ch) s.heap h2->ku a C dx (.ref t) h2->Ent h2 (upd H a (.ext (ku a C dx (.ref t)))) a t (fl.elim .none λf=>O2 f)->Q () {s with heap:=h2}) :
    B7 (C0 X.prog X.w) A' (T1 (.ref a) fl) Q E {s with heap:=h' }:=by
  refine Wz (s:={s with heap:=h' }) fl tr λh2 e d=>z h2 ⟨λb o q l c hn=>(e b ?_).trans (n.keep b o q l c hn),λb o q c hn=>let ⟨sl,q2⟩:=n.slot b o q c hn;⟨sl,(e b ?_).trans q2⟩⟩ ?_ ?_;rintro rfl;exact g.elim hn λw=>absurd (B1 (B6 q) w) (G7 _);rintro rfl;exact g.elim hn λw=>absurd (B1 (B6 q) w) (G7 _);obtain⟨e1,⟨vs,oT,ts,e2,e3,j,i,h⟩,ne⟩:=d;cases e2;exact⟨_,sl,e1,e3⟩;obtain⟨e1,⟨vs,oT,ts,e2,e3,j,i,h⟩,ne⟩:=d;exact⟨⟨oT,ts,j,i,h⟩,ne,by rw[AC ne];exact fr.1⟩
theorem KB{E:A3->A5->Prop}{Q:Unit->A5->Prop}(i:A'.frames=_s X.stack)(I:Inv X pins σ H s)(u:Up X pins H s a C dx)(e:X.stack=X.env::X.outer)(h:X.env.frame=_s X.env.locals)
    (z:∀h' t (ch:List A6),(∀b∈ch,IB X pins H b/\∃o vs,s.heap.get? b=_s o/\o.data=.fields vs)->ph (EI X.stack) a (·∈ch) s.heap h'->IB X pins H t->ku a C dx (.ref t) h'->Ent h' (upd H a (.ext (ku a C dx (.ref t)))) a t->Q () {s with heap:=h' }) :
    B7 (C0 X.prog X.w) A' (O1 (.ref a) X.env) (λ_ s'=>B7 (C0 X.prog X.w) A' (T1 (.ref a) _n) Q E s') E s:=
  OB i I u e h λh' t ch k sl f n g fr tr=>aF (fl:=_n) n g fr tr λh2 d c j=>z h2 t ch f d fr c j
theorem HU{P:D4}{w:E8}{h:F1}{fr ch:List A6}{φ:F1->Prop}{T:A3}(ok:Cn P w H h)(n:ph fr a (·∈ch) h h')(g:∀b∈fr,H b=_n)(i:∀b∈ch,H b=_n)(ha:H a=_s (.ext φ))(fl:ku a C dx T h'):Cn P w (upd H a (.ext (ku a C dx T))) h':=λb u q=>by
  by_cases e:b=a;subst e;rw[AF]at q;cases q;exact Og fl;rw[AC e]at q;have st:∀c x,H c=_s x->(∀f,x≠.ext f)->upd H a (.ext (ku a C dx T)) c=_s x:=λc x z nx=>by rw[AC (λy=>by subst y;rw[ha]at z;cases z;exact nx _ rfl)];exact z
  have kp:∀c v x,H c=_s x->c≠a->h.get? c=_s v->h'.get? c=_s v:=λc v x z ne y=>n.keep c v y (λm=>by rw[g c m]at z;cases z) ne λm=>by rw[i c m]at z;cases z
  refine(ok b u q).mK (λc v d z=>?_) (λc z=>st c _ z (λ_ y=>nomatch y)) λc xs z=>st c _ z (λ_ y=>nomatch y);rcases d with rfl|d
  exact kp _ v _ q e z;exact kp _ v _ d (λy=>by subst y;rw[ha]at d;cases d) z
theorem Up.ext(u:Up X pins H s a C dx):∃φ,H a=_s (.ext φ):=by
 rcases u with u|⟨t,u,_⟩
 exact⟨_,u⟩;exact⟨_,u⟩
theorem Lo{t:A6}{ch:List A6}{φ:F1->Prop}(I:Inv X pins σ H s)(ha:H a=_s (.ext φ))(f:∀b∈ch,IB X pins H b/\∃o vs,s.heap.get? b=_s o/\o.data=.fields vs)(n:ph (EI X.stack) a (·∈ch) s.heap h')(fl:ku a C dx (.ref t) h') :
    Inv X pins σ (upd H a (.ext (ku a C dx (.ref t)))) {s with heap:=h' }:=by
  have g:∀b,H b=_n->b≠a:=λb y x=>by subst x;rw[ha]at y;cases y
  obtain⟨A,⟨z,es,j,p,l,u⟩,_⟩:=id I.loc;have i:∀b∈ch,b≠X.env.locals:=λb d y=>by obtain⟨_,o,vs,q1,q2⟩:=f b d;rw[y,p]at q1;cases q1;rw[l]at q2;cases q2
  have st:∀c x,H c=_s x->(∀k,x≠.ext k)->upd H a (.ext (ku a C dx (.ref t))) c=_s x:=λc x y nx=>by rw[AC (λw=>by subst w;rw[ha]at y;cases y;exact nx _ rfl)];exact y
  refine I.step (h':=h') (g':=s.gens) (t':=s.toks) (d':=s.drawn) (ch:=ch) (λb d=>⟨.inr (f b d).1.2.1,i b d,λx c e y=>?_,(f b d).1.2.2⟩) (λb o h1 h2 h3 e y=>n.keep b o e (λw=>(E3.mp (I.kz b w)).elim h1 h2) (g b y) h3) (λb o h1 h2 h3 e y=>n.slot b o e (g b y) h3)
    (λb o h3 e y=>by rw[AC (g b y)];exact y) (λb o h3 e=>?_) (λc xs y=>st c _ y (λ_ w=>nomatch w)) (λc o v y=>st c _ y (λ_ w=>nomatch w)) (λc ps y=>⟨#[],by rw[st c _ y (λ_ w=>nomatch w)];simp⟩) (λm hm=>?_) (HU I.kD n I.lg (λb d=>(f b d).1.1) ha fl) I.bare
  obtain⟨_,o,vs,q1,q2⟩:=f b d;obtain⟨v,oc,h,hd⟩:=I.cell x c e;rw[y,q1]at h;cases h;rw[hd]at q2;cases q2;by_cases d:b=a;obtain⟨vs,sl,q,_⟩:=fl;rw[d];exact⟨_,q⟩;obtain⟨sl,q⟩:=n.slot b o e d h3;exact⟨_,q⟩;obtain⟨o,es,j,h,r⟩:=hm;obtain⟨sl,q⟩:=n.slot _ o h (g _ I.free) λw=>i _ w rfl;exact⟨_,es,j,q,r⟩
theorem cL{E:A3->A5->Prop}{Q:Unit->A5->Prop}(e:A'.frames=_s X.stack)(I:Inv X pins σ H s)(u:Up X pins H s a C dx)(b:X.stack=X.env::X.outer)(d:X.env.frame=_s X.env.locals)
    (z:∀t h',Inv X pins σ (upd H a (.ext (ku a C dx (.ref t)))) {s with heap:=h' }->Ent h' (upd H a (.ext (ku a C dx (.ref t)))) a t->X.kP.heap.objs.size<=t->(∀p∈X.pn++pins,p.1≠t)->Q () {s with heap:=h' }) :
    B7 (C0 X.prog X.w) A' (O1 (.ref a) X.env) (λ_ s'=>B7 (C0 X.prog X.w) A' (T1 (.ref a) _n) Q E s') E s:=by
  obtain⟨φ,ha⟩:=u.ext;exact KB e I u b d λh' t ch c n fr fl f=>z t h' (Lo I ha c n fl) f fr.2.1 fr.2.2
end
theorem leave{P:D4}{w:E8}{K:Frag}{mg:Str->Option A3}{base:F1}{N:List Str}{qual:Str}{scope:G9}{f:A6}{j:A3}{A:F2}{outer:List Env}{s:A5}{H:Hp}{E:XK}{W:WK}(hs:eY W)(z:∀(a:Nat) C dx H',W a C dx H'->E (.int (a:Nat) C) dx H') :
    Wx (DT (Qj P w) P w K mg base N qual scope f j A outer s H E) W:=λpins σ e s1 a C dx I u r=>by
  obtain⟨φ,ha⟩:=u.ext;show B7 _ _ (leaving _ _) _ _ _;refine A0 (KB (A':=(DT (Qj P w) P w K mg base N qual scope f j A outer s H E).A) I.ok.frames I u rfl rfl λh' t ch i n fr fl D=>?_);have h:∀b,e b=_n->b≠a:=λb y x=>by subst x;rw[ha]at y;cases y
  have st:∀c x,e c=_s x->(∀k,x≠.ext k)->upd e a (.ext (ku a C dx (.ref t))) c=_s x:=λc x y nx=>by rw[AC (λw=>by subst w;rw[ha]at y;cases y;exact nx _ rfl)];exact y
  have g:∀b o,s.heap.get? b=_s o->b∉ch:=λb o q y=>absurd (B1 (B6 q) (i b y).1.2.1) (G7 _);have p:∀b o,s.heap.get? b=_s o->b≠s.heap.objs.size:=λb o q=>D2 (B6 q);have B:=I.base;refine⟨a,C,dx,t,_,rfl,I.os,I.bare,⟨λb o q y d _=>?_,λb o q y d _=>?_,λb o q y _=>?_,λb o q _=>?_,λc xs y=>st c _ (B.lu c xs y) (λ_ w=>nomatch w),λc o v y=>st c _ (B.lZ c o v y) (λ_ w=>nomatch w),λc ps y=>?_⟩,HU I.kD n I.lg (λb d=>(i b d).1.1) ha fl,AF,D,fr.2.1,z a C dx _ (hs a C dx e φ _ ha r)⟩;have q1:=B.keep b o q y d (λw=>nomatch w);have q2:=B.free b o q y (λw=>nomatch w);exact n.keep b o q1 (λw=>(E3.mp (I.kz b w)).elim (p b o q) d) (h b q2) (g b o q);obtain⟨sl,q1⟩:=B.slot b o q y d (λw=>nomatch w);have q2:=B.free b o q y (λw=>nomatch w);obtain⟨l,q3⟩:=n.slot b _ q1 (h b q2) (g b o q);exact⟨l,q3⟩;have q2:=B.free b o q y (λw=>nomatch w);rw[AC (h b q2)];exact q2;obtain⟨F,q1⟩:=B.there b o q (λw=>nomatch w);by_cases d:b=a;obtain⟨vs,sl,q,_⟩:=fl;rw[d];exact⟨_,q⟩;obtain⟨sl,q3⟩:=n.slot b _ q1 d (g b o q);exact⟨_,q3⟩;obtain⟨m,q⟩:=B.lz c ps y;exact⟨m,st c _ q (λ_ w=>nomatch w)⟩
section
variable{X:Cx}{pins:List (A6×Obj)}{σ:L2.St}{H:Hp}{s:A5}
theorem SU{t':Nat}{m m':Str->Option A3}{σ':L2.St}(I:Inv X pins σ H s)(hn:s.heap.Ns X.env.locals m)(t:h'.Ns X.env.locals m')(a:R7 X.env.locals s.heap h')(C:σ'.length=σ.length)
    (hm:∀(i:Nat)(x:Str)(v:V),X.N[i]?=_s x->σ'[i]?=_s (_s v)->az X.env.scope x->∃u,RelV v u/\Look X.env s.heap m' x u):Inv X pins σ' H {s with heap:=h',toks:=t' }:=by
  obtain⟨E,_,_,D,_⟩:=id hn;have oq:=I.oq;refine⟨I.ok,I.os,I.bare,⟨λb o e n h f=>?_,λb o e n h f=>?_,I.base.free,λb o e f=>?_,I.base.lu,I.base.lZ,I.base.lz⟩,⟨m',t,λi x v e1 e2 e3=>?_⟩,λy c e=>?_,I.free,I.ka,λp B=>?_,λb w e=>?_,C.trans I.len⟩;exact(a.2 b (D2 (B1 (B6 e) I.ok.above))).trans (I.base.keep b o e n h f);obtain⟨sl,e1⟩:=I.base.slot b o e n h f;exact⟨sl,(a.2 b (D2 (B1 (B6 e) I.ok.above))).trans e1⟩;obtain⟨o',e1⟩:=I.base.there b o e f;exact⟨o',(a.2 b (D2 (B1 (B6 e) I.ok.above))).trans e1⟩;obtain⟨u,r,l⟩:=hm i x v e1 e2 e3;refine⟨u,r,?_⟩;rcases l with l|⟨k,c,e,z⟩
  exact .inl l;exact .inr ⟨k,c,e,z.sameBut a (oq x c e)⟩;obtain⟨j,z⟩:=I.cell y c e;exact⟨j,z.sameBut a (oq y c e)⟩;obtain⟨e,n,ne,A,d⟩:=I.pin p B;exact⟨(a.2 p.1 ne).trans e,n,ne,A,d⟩;refine(I.kD b w e).mK (λc j g q=>(a.2 c ?_).trans q) (λ_ q=>q) λ_ _ q=>q;rintro rfl;rcases g with rfl|g
  rw[I.free]at e;cases e;rw[I.free]at g;cases g
theorem Lb{A:F2}{E:A3->A5->Prop}{i:Nat}{n:Str}{pos:Pos}{Q:Unit->A5->Prop}(I:Inv X pins σ H s)(d:X.N.Nodup)(hi:X.N[i]?=_s n)(c:X.env.scope.names.lookup n=_s .local)
    (z:∀s',Inv X pins (σ.set i _n) H s'->Q () s'):B7 (C0 X.prog X.w) A (do gC X.env n .none;gK X.env n pos) Q E s:=by
  obtain⟨m,hn,hm⟩:=id I.loc;refine wpAny_nameGoes_keeps c hn (by rw[I.ok.kind];rfl) λh' v b a=>z _ (SU I hn b a `s λj x w e1 e2 e3=>?_);have ne:i≠j:=λy=>by subst y;rw[C5 (by rw[I.len];exact(A9.mp hi).1)]at e2;cases e2
  rw[C6 ne]at e2;obtain⟨u,r,l⟩:=hm j x w e1 e2 e3;refine⟨u,r,?_⟩;rcases l with⟨k,e⟩|l
  refine .inl ⟨k,?_⟩;have:x≠n:=λy=>ne (Ed d hi (y▸e1));show(if x=n then v else m x)=_s u;rw[if_neg this];exact e;exact .inr l
end
section
variable{M:iW}{A:F2}{E:A3->A5->Prop}{s:A5}
variable{nm q xW q':Str}{C N D N':A6}{bs bm ud wd:List A3}{hdct sj:Bool}{sn xK:List Str}{sub rW:List A3}{ab yQ:Bool}{col tY:Option Bool}{dd yI:Option A6}{k0 k1 k2 k3 k5 j0 j1 j2 j3 j5:Option A3}
theorem Qp{e:A6}{oe:Obj}{Q:Bool->A5->Prop}(j:s.heap.get? C=_s (R6 nm q C N bs bm hdct sn sub ab col dd k0 k1 k2 k3 k5 FE))(a:s.heap.get? D=_s (R6 xW q' D N' ud wd sj xK rW yQ tY yI j0 j1 j2 j3 j5 FE))
    (T:rN wd) (c:s.heap.get? e=_s oe) (i:oe.cls=.ref C) (z:Q ((D9 C::bm).contains (.ref D)) s):B7 M A (excMatches (.ref e) (.ref D)) Q E s:=by
  have k:=YT (C:=D) T.b;have f:=tc_notTuple;obtain⟨h,g,d,t,os⟩:=s;unfold excMatches
  repeat (first
    |(with_reducible refine I0 c ?_;rw[i])
    |with_reducible refine I0 a ?_
    |(with_reducible refine K7 a ?_;rw[k])
    |with_reducible refine K7 j ?_
    |wp_step)
  cases hb:(D9 C::bm).contains (.ref D)<;>(rw[hb]at z;wp_walk;exact z)
end
noncomputable abbrev HV(X:Cx)(a:A6):Cx:={X with A:=X.A.mark (_s (.ref a)),calm:=_f,xe:=λ_ _=>False}
section
variable{X:Cx}{pins:List (A6×Obj)}{σ:L2.St}{H:Hp}{s:A5}{a:A6}
theorem cH(ok:X.Ok):(HV X a).Ok:=
 ⟨ok.mod,ok.kind,ok.glob,ok.blt,ok.above,ok.inj,ok.has,ok.qy,λz=>(nomatch z),ok.frames,ok.rF,ok.uX,ok.bs,ok.oB,ok.mx,ok.nU,ok.lI,ok.pV⟩
theorem OY(I:Inv X pins σ H s):Inv (HV X a) pins σ H s:=⟨cH I.ok,I.os,I.bare,I.base,I.loc,I.cell,I.free,I.ka,I.pin,I.kD,I.len⟩
theorem UU(I:Inv (HV X a) pins σ H s)(ok:X.Ok):Inv X pins σ H s:=⟨ok,I.os,I.bare,I.base,I.loc,I.cell,I.free,I.ka,I.pin,I.kD,I.len⟩
theorem ES{A:F2}{E:A3->A5->Prop}{C t:A6}{dx:Option A6}{Q:Unit->A5->Prop}(I:Inv X pins σ H s)(ha:H a=_s (.ext (ku a C dx (.ref t))))(r:Ent s.heap H a t)(k:X.kP.heap.objs.size<=t)(l:∀p∈X.pn++pins,p.1≠t)
    (z:∀s',Inv X pins σ H s'->Q () s'):B7 (C0 X.prog X.w) A (T1 (.ref a) _n) Q E s:=by
  obtain⟨⟨vs,sl,n,h1⟩,_,_⟩:=I.kD a _ ha;obtain⟨⟨oT,ts,f,d,j⟩,ne,fr⟩:=r;unfold T1;refine A0 (K0 n rfl h1 ?_);rw[if_pos (show(D9 t != K5)=_t from by simp)];refine W5 f d (J8.mp j).1 (z _ ?_);refine I.turned (it:=t) (t':=s.toks) (λb o q e=>(F6 _ _ (Ne.symm q)).trans e) fr (λy=>?_) (.inr k) (λx c e y=>?_) l;obtain⟨m,⟨u,es,B,g,i,_⟩,_⟩:=I.loc;rw[<- y,f]at g;cases g;rw[i]at d;cases d;obtain⟨v,oc,h,hd⟩:=I.cell x c e;rw[y,f]at h;cases h;rw[hd]at d;cases d
structure XD (K:Frag) (D:A6):Prop where
 hd:∃hd,oE K D hd
noncomputable def BJ(K:Frag)(C D:A6):Bool:=match clsIn K C with
 |some b=>b.mro.contains (.ref D)
 |none=>_f
end
end XC
namespace R
open PySem L2 XC
structure Ex where
 c:Str
 f:Str
 d:Dv
def Uz(K:W.Frag)(g:G)(H:Hp)(dx:Option A6)(r:Ex):Prop:=(dx=_n/\r.f = "")\/∃b v,dx=_s b/\H b=_s (.xd [(r.f,v)])/\Rep K g H 0 r.d v j4
def WR(K:W.Frag)(g:G)(P:Fp)(b:Hp)(r:Ex):WK:=λa C dx H=>C=AJ K r.c/\b a=_n/\dx≠_s a/\∃g',Step g P b g' j4 H/\¬g'.Z a/\Uz K g' H dx r
section
variable{K:W.Frag}{g g1:G}{P P1:Fp}{H0 H1:Hp}{r:Ex}
theorem Gn{H:Hp}{a:A6}{φ φ':F1->Prop}(h:H a=_s (.ext φ)):Step g (·=a) H g j4 (upd H a (.ext φ')):=
 ⟨λb o q n=>by rw[AC n];exact q,λb q=>by
  by_cases e:b=a;subst e;rw[AF]at q;cases q;rw[AC e]at q;exact q,λ_ z=>z,λ_ z=>.inl z,⟨[],by simp⟩,λ_ z=>z.elim,λzd b z q=>by
  by_cases e:b=a;subst e;rw[AF]at q;cases q;rw[AC e]at q;exact zd b z q,Jc h (λ_ _ _ z=>nomatch z)⟩
theorem WR.xH:eY (WR K g P H0 r):=λa C dx H φ φ' h ⟨e,n,ne,g',st,z,d⟩=>by
 refine⟨e,n,ne,g',?_,z,?_⟩;have s2:Step g' (·=a) H g' j4 (upd H a (.ext φ')):=Gn h;refine⟨λb o q np=>?_,λb q=>st.ny b (s2.ny b q),st.zm,st.zn,st.mu,λb q=>q.elim,λzd=>s2.zd (st.zd zd),λb C dx fs q=>?_⟩;have:b≠a:=λy=>by subst y;rw[n]at q;cases q
 rw[AC this];exact st.keep b o q np;obtain⟨nT,q1,q2⟩:=st.ins b C dx fs q;have:b≠a:=λy=>by subst y;rw[n]at q;cases q
 exact⟨nT,by rw[AC this];exact q1,q2⟩;rcases d with q|⟨b,v,q,hd,c⟩
 exact .inl q;refine .inr ⟨b,v,q,by rw[AC λy=>ne (by rw[q,y])];exact hd,?_⟩;refine c.held (Gn (φ':=φ') h) (λb q=>?_) (λ_ y=>y.elim);rw[show b=a from q,h];exact⟨True.intro,z⟩
theorem WR.later{a C:A6}{dx:Option A6}{H:Hp}(s:Step g P H0 g1 P1 H1)(w:WR K g1 P1 H1 r a C dx H):WR K g P H0 r a C dx H:=
 let ⟨e,n,ne,g',st,z,fo⟩:=w
 ⟨e,s.ny a n,ne,g',s.trans st,z,fo⟩
end
abbrev TX:=WK->St->Hp->Prop
inductive tX (K:W.Frag) (Γ:Gm) (x:M->Option Ex) (Wk:WK) (σ:St) (H:Hp):Prop
 |mk (g:G) (m:M) (P:Fp) (a:Rel K g H Γ m σ P) (r:Ex) (b:x m=_s r) (c:∀a C dx H',WR K g P H r a C dx H'->Wk a C dx H')
def eX(X:Cx)(pins:List (A6×Obj))(σ:St)(Wk:WK):Prop:=∀(H:Hp)(s:A5)(a C:A6)(dx:Option A6),Inv X pins σ H s->Up X pins H s a C dx->Wk a C dx H->X.xe (.ref a) s
def eZ(X:Cx)(e:Expr)(t:TX):Prop:=∀(pins:List (A6×Obj))(s:A5)(σ:St)(H:Hp)(Wk:WK)(Q:A3->A5->Prop),Inv X pins σ H s->t Wk σ H->eX X pins σ Wk->B7 (C0 X.prog X.w) X.A (L7 e X.env) Q X.xe s
def bB(X:Cx)(e:F0)(t:TX):Prop:=∀(pins:List (A6×Obj))(s:A5)(σ:St)(H:Hp)(Wk:WK)(Q:Flow->A5->Prop),Inv X pins σ H s->t Wk σ H->eX X pins σ Wk->B7 (C0 X.prog X.w) X.A (exec e X.env) Q X.xe s
def Qi(X:Cx)(e:F0)(t:TX):Prop:=∀(pins:List (A6×Obj))(s:A5)(σ:St)(H:Hp)(Wk:WK)(Q:Flow->A5->Prop),Inv X pins σ H s->t Wk σ H->Wx X Wk->B7 (C0 X.prog X.w) X.A (exec e X.env) Q X.xe s
def FK(X:Cx)(e:List F0)(t:TX):Prop:=∀(pins:List (A6×Obj))(s:A5)(σ:St)(H:Hp)(Wk:WK)(Q:Flow->A5->Prop),Inv X pins σ H s->t Wk σ H->Wx X Wk->B7 (C0 X.prog X.w) X.A (execs e X.env) Q X.xe s
section
variable{X:Cx}{Γ kN:Gm}{js js2:List Nat}{e c:Expr}{es:List Expr}{st:F0}{a b rest:List F0}{pos p cp:Pos}{x x2 xa xb:M->Option Ex}
theorem bB.s{t:TX}(h:bB X st t):Qi X st t:=λpins s σ H Wk Q I q w=>h pins s σ H Wk Q I q λH' s' a C dx J u z=>w pins σ H' s' a C dx J u z
theorem Vs{t:Ev Bool}(n:PT X c (tT X.K Γ kN js t))(ha:FK X a (tX X.K kN xa))(o:FK X b (tX X.K kN xb)):Qi X (.If c a b pos) (tX X.K Γ λm=>t Ex m λb h=>if b=_t then xa h else xb h):=by
 intro pins s σ H Wk Q I ⟨g,m,P,r,res,e,q⟩ w;refine wpAny_If (Ah (n pins s σ H (λb f=>if b=_t then tX X.K kN xa Wk σ f else tX X.K kN xb Wk σ f) I ⟨g,m,P,r,Ex,_,res,e,λb h k P1 f i u st j=>?_⟩) λd s1 ⟨f,l,q1⟩=>?_);cases b with|true=>rw[if_pos rfl]at i ⊢;exact⟨k,h,P1,j,res,i,λa C dx H' z=>q a C dx H' (z.later st)⟩|false=>rw[if_neg B4]at i ⊢;exact⟨k,h,P1,j,res,i,λa C dx H' z=>q a C dx H' (z.later st)⟩
 cases d with|true=>exact ha pins s1 σ f Wk Q l (by rw[if_pos rfl]at q1;exact q1) w|false=>exact o pins s1 σ f Wk Q l (by rw[if_neg B4]at q1;exact q1) w
theorem Jo:FK X a (tX X.K Γ λ_=>_n):=λ_ _ _ _ _ _ _ ⟨_,_,_,_,_,e,_⟩=>by cases e
theorem HB:Qi X st (tX X.K Γ λ_=>_n):=λ_ _ _ _ _ _ _ ⟨_,_,_,_,_,e,_⟩=>by cases e
noncomputable def kX(x:M->Option Ex):Kt Ex:=⟨x,λ_ _=>_n,λ_=>_n,λ_=>_n⟩
theorem Rb{F:Fr}{f:Es}(h0:Qi X st (tX X.K Γ x))(h1:PS X st (tS X.K F _n Γ (_s kN) js f))(h2:FK X rest (tX X.K kN x2)):FK X (st::rest) (tX X.K Γ λm=>(x m).or (f Ex m (kX x2))):=by
 intro pins s σ H Wk Q I ⟨g,m,P,r,res,e,q⟩ w;replace e:(x m).or (f Ex m (kX x2))=_s res:=e;cases q0:x m with
 |some o=>rw[q0]at e;cases e;exact M9 (h0 pins s σ H Wk _ I ⟨g,m,P,r,res,q0,q⟩ w)
 |none=>
  rw[q0]at e;refine M9 (Ah (h1 pins s σ H ⟨λσ' H'=>tX X.K kN x2 Wk σ' H',λ_ _=>False,λ_ _=>False,λ_ _=>False⟩ I ⟨g,m,P,r,Ex,kX x2,res,e,⟨λΓ' m' g' P' σ' H' i d v l t j=>?_,(λ_ _ _ _ _ _ _ _ d=>by cases d),(λ_ _ _ _ _ _ z=>by cases z),λ_ _ _ _ _ _ z=>by cases z⟩⟩) λfl s1 q1=>?_);cases i;exact⟨g',m',P',j,res,d,λa C dx h z=>q a C dx h (z.later l)⟩;cases fl with|next=>obtain⟨σ',H',n,k⟩:=q1;exact h2 pins s1 σ' H' Wk Q n k w|brk=>obtain⟨_,_,_,z⟩:=q1;exact z.elim|cont=>obtain⟨_,_,_,z⟩:=q1;exact z.elim|ret u=>obtain⟨_,_,_,_,_,z⟩:=q1;exact z.elim
theorem Jp(h0:Qi X st (tX X.K Γ x)):FK X (st::rest) (tX X.K Γ x):=λpins s σ H Wk Q I q w=>M9 (h0 pins s σ H Wk _ I q w)
end
section
variable{K:W.Frag}{g:G}{H:Hp}
theorem FS:∀{ds:List Dv}{vs:List V}{P:Fp}{i:Nat}{d:Dv},AA K g H 0 ds vs P->ds[i]?=_s d->∃v,vs[i]?=_s v/\Rep K g H 0 d v j4
 |[],vs,P,i,d,h,e=>by simp at e
 |x::ds,vs,P,i,d,h,e=>by
  unfold AA at h;obtain⟨v,r,P1,P2,rfl,h1,h2,_,_⟩:=h;cases i with|zero=>simp at e;subst e;exact⟨v,rfl,by have z:P1=j4:=Bn h1.kW;rw[<- z];exact h1⟩|succ i=>obtain⟨w,e1,e2⟩:=FS (i:=i) h2 (by simpa using e);exact⟨w,by simpa using e1,e2⟩
theorem DM:∀{ds:List Dv}{vs:List V}{P:Fp}{o:Nat},AA K g H o ds vs P->vs.length=ds.length
 |[],vs,P,o,h=>by unfold AA at h;rw[h.1];rfl
 |x::ds,vs,P,o,h=>by unfold AA at h;obtain⟨v,r,P1,P2,rfl,h1,h2,_,_⟩:=h;rw[F5,F5,DM h2]
theorem Vq{ds:List Dv}{vs:List V}(zd:Zd g H)(h:AA K g H 0 ds vs j4):Rel K g H (IC ds.length []) ds (vs.map _s) j4:=by
 have b:(IC ds.length []).length=ds.length:=by unfold IC;simp
 refine⟨zd,λ_=>j4,⟨b.symm,by rw[b,D1,DM h],λi o e=>?_,λi e a z=>z,λi j n a z=>z.elim⟩,λa=>⟨λz=>z.elim,fun⟨i,z⟩=>z⟩⟩;have hi:i < ds.length:=by rw[<- b];exact(A9.mp e).1
 have c:o=0:=by unfold IC at e;rw[C4,J9 hi]at e;simp at e;exact e.symm
 subst c;obtain⟨v,e1,e2⟩:=FS h (A4 hi);exact⟨ds[i],v,A4 hi,by rw[C4,e1];rfl,e2⟩
end
def YI(K:W.Frag)(n:Nat)(b:List Dv->Option Ex):Sp:=λvs H _ E=>∃g ds,Zd g H/\AA K g H 0 ds vs j4/\ds.length=n/\∃r,b ds=_s r/\∀(a:Nat) C dx H',WR K g j4 H r a C dx H'->E (.int (a:Nat) C) dx H'
section
variable{X:Cx}{Γ kN:Gm}{js:List Nat}{e:Expr}{es:List Expr}{pos p cp:Pos}{c f x:Str}{as:List Ar}{k:Nat}{fI:A6}{fd:G4}{ps:List Str}
theorem Na(W:X.calm=_t)(M:tq X.K (AJ X.K c) f fI)(F:kL X.prog X.w X.K X.mg X.base Dz k fI fd ps (lL (AJ X.K c) f))(S:ps.length=2)(R:kG (k+1) X.A)(U:Gl X c)(hm:X.mg c=_s (.ref (AJ X.K c)))(Y:L2.Binds X.K fd ps [])
    (ha:PA X [e] (BI X.K as)) (ch:AE Γ as kN js) (ev:IE as=_t) (O:(c==("__debug__" : Str))=_f) (V:E5 [e] X.env=(_f,L7 e X.env)::E5 [] X.env) :
    bB X (.Raise (_s (.Call (.Name c p) [e] [] cp)) _n pos) (tX X.K Γ λm=>AN as Ex m λds _=>match ds with|[d]=>_s ⟨c,f,d⟩|_=>_n):=by
  intro pins s σ H Wk Q I ⟨g,m,P,r,res,e0,q⟩ w;obtain⟨nm,G,N,bs,bm,sn,sub,ab,col,dd,k0,k1,k2,k3,k5,lk,J⟩:=M.cl.lk;rw[arm_exec_Raise];refine A0 (K9 (JY (C:=AJ X.K c) (nm:=nm) (q:=G) (N:=N) (bs:=bs) (bm:=bm) (hdct:=_t) (sn:=sn) (sub:=sub) (ab:=ab) (col:=col) (dd:=dd) (k0:=k0) (k1:=k1) (k2:=k2) (k3:=k3) (k5:=k5) (DO J) (I.ok.hd W) ?_));refine A0 (G1 (Nn M F S R U hm Y ha O V pins s σ H (λv n=>∃a dx,v=.ref a/\n a=_s (.ext (ku a (AJ X.K c) (_s dx) .none))/\Wk a (AJ X.K c) (_s dx) n) I ?_) (λv D h3=>A0 (K9 (A7 ?_))) λ_ _ y=>y);unfold Yo;refine AK as r ch e0 λds m' g' P' vs j h ag s' ar E=>?_;have l:=ar.mL ev
  match ds,h,l with
  |[d],h,l=>
    cases h;unfold AA at l;obtain⟨v,vr,P1,P2,rfl,h1,h2,_,_⟩:=l;unfold AA at h2;obtain⟨rfl,_⟩:=h2;refine⟨v,rfl,λa dx i nd ne=>⟨a,dx,rfl,AF,q _ _ _ _ ⟨rfl,s'.ny a i,λy=>ne (B2 y),g',?_,λz=>E.zd a z i,.inr ⟨dx,v,rfl,by rw[AC ne,AF],?_⟩⟩⟩⟩;have t:Dd j (upd (upd (upd j a (.ext (Ku a (AJ X.K c)))) dx (.xd [(f,v)])) a (.ext (ku a (AJ X.K c) (_s dx) .none))):=λb o z=>by rw[AC (AI z i),AC (AI z nd),AC (AI z i)];exact z
    exact(s'.trans (Step.same t)).less λ_ z=>z.elim;have t:Dd j (upd (upd (upd j a (.ext (Ku a (AJ X.K c)))) dx (.xd [(f,v)])) a (.ext (ku a (AJ X.K c) (_s dx) .none))):=λb o z=>by rw[AC (AI z i),AC (AI z nd),AC (AI z i)];exact z
    have L:Rep X.K g' j 0 d v j4:=by have z:P1=j4:=Bn h1.kW;rw[<- z];exact h1
    exact L.held (Step.same (P:=j4) t) kF.j4 λ_ y=>y.elim
  |[],h,_=>cases h
  |_::_::_,h,_=>cases h
  obtain⟨v1,n,u,rv,a,dx,rfl,B,Z⟩:=h3;obtain rfl:v=.ref a:=rv;obtain⟨⟨vs,sl,T,h1⟩,_,_⟩:=u.kD a _ B;exact⟨a,_,vs,sl,rfl,u.lN _ _ lk,T,h1,w n D a _ (_s dx) u (.inl B) Z⟩
theorem Yh{pins:List (A6×Obj)}{σ:St}{H:Hp}{s s':A5}{Wk:WK}{v:A3}(m:X.ex=[])(I:Inv X pins σ H s)(h:Qj X.prog X.w X.stack H s (Ew Wk) v s'):∃a C dx H',v=.ref a/\Inv X pins σ H' s'/\Up X pins H' s' a C dx/\Wk a C dx H':=by obtain⟨a,C,dx,t,H',e1,e2,e3,u,r,q,o,i,n⟩:=h;obtain⟨l,g,d,tk,os⟩:=s';obtain rfl:os=s.os:=e2;refine⟨a,C,dx,H',e1,I.call (h':=l) (g':=g) (d':=d) (t':=tk) (ch:=[]) u r e3 (λb z=>nomatch z),.inr ⟨t,q,.inl o,C3 I.sz i,λz=>?_,λp j z=>?_⟩,n⟩;rw[m]at z;cases z;have:=B6 (I.pin p j).1;rw[z]at this;exact absurd (B1 this i) (G7 _)
theorem Rc{l:A6}{i:List Dv->Option Ex}(E:X.ex=[])(F:kL X.prog X.w X.K X.mg X.base (Qj X.prog X.w) k l fd ps (YI X.K ps.length i))(G:kG k X.A)(M:Gl X x)(hm:X.mg x=_s (.ref l))(j:W.keepIn X.K (.ref l)=_t)(O:L2.Binds X.K fd ps [])
    (ha:PA X (e::es) (BI X.K as)) (ch:AE Γ as kN js) (ev:IE as=_t) (hn:as.length=ps.length) (D:(x==("__debug__" : Str))=_f) (N:E5 (e::es) X.env=(_f,L7 e X.env)::E5 es X.env) (B:(R8 pos (E5 es X.env)).any (·.1)=_f) :
    eZ X (.Call (.Name x p) (e::es) [] pos) (tX X.K Γ λm=>AN as Ex m λds _=>i ds):=by
  intro pins s σ H Wk Q I ⟨g,m,P,r,res,S,q⟩ w;refine K2 (Bq I M hm ?_ D);refine W.callWith_K (h₀:=X.base) I.ok.mod.sL j (Ah (ha pos pins s σ H (λvs d=>YI X.K ps.length i vs d (λ_ _=>False) (Ew Wk)) I ?_) λus s1 ⟨vs,d,h,rv,q1⟩=>⟨h.lN,?_⟩) N B;refine AK as r ch S λds m' g' P' vs d j T s' o v=>⟨g',ds,v.zd,o.mL ev,o.len.1.trans hn,res,j,λa C dx H' z=>q _ _ _ _ ?_⟩;have t:WR X.K g' P' d res a C dx H':=let ⟨e,n,ne,g2,st,z,fo⟩:=z;⟨e,n,ne,g2,st.sub (λ_ y=>y.elim) (λ_ y=>y),z,fo⟩;exact t.later s'
  have L:(us++[]).length=ps.length:=by rw[F8,<- rv.length];exact F.len _ _ _ _ q1
  refine R3 (S0 (F.run X.A X.stack s1 d ⟨us,[]⟩ us vs _ (Ew Wk) G h.pX (by have:=O s1 us h.lN L;rw[F8]at this;exact this) rv q1) λr s' b=>?_);cases r with
  |error e=>obtain⟨a,C,dx,H',rfl,J,u,R⟩:=Yh E h b;exact w H' s' a C dx J u R
  |ok fl=>
    cases fl with|ret u=>obtain⟨_,_,_,_,_,_,_,z⟩:=b;exact z.elim|next=>exact C9 b|brk=>exact C9 b|cont=>exact C9 b
end
theorem Wy{P:D4}{w:E8}{K:W.Frag}{mg:Str->Option A3}{base:F1}{x qual:Str}{st:F0}{f:A6}{fd:G4}{N ps:List Str}{k:Nat}{xs:M->Option Ex}{c:List Dv->Option Ex}(p:m8 K x qual st f fd)(S:ko N ps (AD st))(hn:ps.length<=N.length)
    (o:∀(kY:A3)(A:F2)(outer:List Env)(s':A5)(H:Hp)(E:XK),kG k (A.deeper (U3 qual (AD st) s'.heap.objs.size f kY))->FK (DT (Qj P w) P w K mg base N qual (AD st) f kY A outer s' H E) (AM st) (tX K (FI N.length ps.length []) xs))
    (i:∀ds r,ds.length=ps.length->c ds=_s r->xs (ds++E6 (N.length-ps.length) .kB)=_s r):kL P w K mg base (Qj P w) (k+1) f fd ps (YI K ps.length c):=by
  obtain⟨oc,od,kV,doc,pm,an,kY,ct,pM,rfl,lk,l⟩:=p.ex;have len:∀vs H Q E,YI K ps.length c vs H Q E->vs.length=ps.length:=λvs H Q E ⟨g,ds,_,h,b,_⟩=>(DM h).trans b;refine UX lk l S len λA outer s H vs Q E n m=>⟨λD σ H'=>σ=L2.start N vs/\H'=H,λpins s' σ H' D I ⟨e1,e2⟩=>?_,rfl,rfl⟩;subst e1 e2;obtain⟨g,ds,zd,d,b,r,e,q⟩:=m;have j:Rel K g H' (FI N.length ps.length []) (ds++E6 (N.length-ps.length) .kB) (L2.start N vs) j4:=by unfold L2.start FI;rw[DM d,<- b];exact(Vq zd d).pad _
  exact o kY A outer s H' E n pins s' _ H' (WR K g j4 H' r) _ I ⟨g,_,j4,j,r,i ds r b e,λa C dx t z=>z⟩ (leave WR.xH q)
end R
namespace XC
open PySem PySem.W PySem.Spec PyProof.Rows L2 Builtin Builtin.ObjectAttr
structure qK (K:Frag) (C:A6):Prop where
 lk:∃hd,oE K C hd
 ga:gH K (.ref C) "__getattribute__" = _s (_s (.builtin "BaseException.__getattribute__"))
 gh:gH K (.ref C) "__getattr__" = _s _n
 ha:gH K (.ref C) "__class__" = _s (_s (.builtin "object.__class__"))
 hn:specialIn K (.builtin "object.__class__") "__get__" = _s (_s (.builtin "getset_descriptor.__get__"))
 tk:takesIn K (.builtin "object.__class__")=_s _t
 hm:mroIn K C (.type "object")=_s _t
section
variable{prog:D4}{w:E8}{A:F2}{E:A3->A5->Prop}{s:A5}{K:Frag}{C x:A6}
theorem qK.cls(c:qK K C):∃cd,clsIn K C=_s cd/\UP cd.mro=true:=by obtain⟨hd,nm,q,N,bs,bm,sn,sub,ab,col,dd,k0,k1,k2,k3,k5,e,o⟩:=c.lk;exact⟨_,by unfold clsIn;rw[e],o⟩
theorem Qq{ox:Obj}{a:Option Obj}{Q:Option A3->A5->Prop}(X:K.In s.heap)(c:qK K C)(I:InstAt s.heap x ox C a)(z:Q (_s (.ref C)) {s with toks:=s.toks+1}):B7 (C0 prog w) A (getAttr? (.ref x) "__class__") Q E s:=by
 obtain⟨d,e,b⟩:=c.cls;have i:findObj K C a "__class__" = _s (.bind (.builtin "getset_descriptor.__get__") (.builtin "object.__class__")):=by unfold findObj;rw[e,A2,c.ha,A2];simp[c.hn,c.tk]
 have ne:d.mro.isEmpty=false:=by cases q:d.mro with|nil=>rw[q]at b;cases b|cons _ _=>rfl
 have ct:d.mro.contains (.type "BaseException")=true:=by rw[BV b];decide
 have h:jS (C0 prog w) s.heap (S8 (.ref x) (.type "BaseException")) true:=I.type.andThen (ia X (by unfold mroIn;rw[e,A2,if_neg (by rw[ne];decide),ct]));have g:=F.excAttr_ValueError;have j:=g.ga.bind (.ref x);have f:jS (C0 prog w) s.heap (jG (.ref x)) (.ref C):=I.type;have L2:=P9 (M:=C0 prog w) X c.ga;have L3:=P9 (M:=C0 prog w) X c.gh;have L4:=looks_find (M:=C0 prog w) X I i;have e2:(N9 "BaseException.__getattribute__"==N9 "object.__getattribute__")=false:=by decide +kernel
 unfold getAttr? getAttrBy? getAttrBy;refine A0 (wpAny_mkText (A0 (gX (E9 (A0 (f.here (s:={s with toks:=s.toks+1}) (A0 (L2.here (s:={s with toks:=s.toks+1}) ?_))))))));dsimp only;rw[e2,S3,if_neg `d];unfold iq hookBefore iS boundAndCalled;have e3:(_f&&iR (N9 "BaseException.__getattribute__"))=false:=rfl;rw[e3,if_pos (show iR (D9 C)=_t from rfl),if_neg (show ¬(_f=_t) by decide),j];refine A0 (L3.here (s:={s with toks:=s.toks+1}) (A0 (gX (E9 (A0 (A7 ?_))))));refine R3 ?_;refine T7 g.ga.plain F.entry_bexc_ga (@check_slot (C0 prog w) _ _ {s with toks:=s.toks+1} "BaseException.__getattribute__" "BaseException" "__getattribute__" (.ref x) [.str "__class__" s.toks] [] _ (by decide +kernel) (by decide +kernel) h (F.args_bexc_ga (.ref x) (.str "__class__" s.toks)) ?_);refine A0 (A7 (A0 (A7 (A0 (f.here (s:={s with toks:=s.toks+1}) (A0 (L4.here (s:={s with toks:=s.toks+1}) ?_)))))));show B7 _ _ (Z3 [_] (call (.builtin "getset_descriptor.__get__") [.builtin "object.__class__", .ref x,.ref C]) >>= _) _ _ _;refine A0 (E9 (R3 (class_get (s:={s with toks:=s.toks+1}) (ox:=ox) (od:=a) X I c.hm ?_)));show B7 _ _ (ret (.ref C)) _ _ _;refine A7 ?_;show B7 _ _ (handedOut (.ref C)) _ _ _;rw[handedOut_of rfl];exact A7 (A7 z)
end
end XC
namespace XC
open PySem PySem.W PySem.Spec PyProof.Rows L2
def DH(C:A6):Sp:=λvs H Q _=>∃e,vs=[.ref e]/\H e=_s (.ext (Ku e C))/\Q .kB H
structure pd (K:Frag) (C fI:A6):Prop where
 lk:oE K C _t
 init:gH K (.ref C) "__init__" = _s (_s (.ref fI))
 fn:∃o,K.lookup fI=_s o/\o.cls=.type "function"
 kp:keepIn K (.ref C)=_t
section
variable{X:Cx}{C fI:A6}{x:Str}{p pos:Pos}{k:Nat}{fd:G4}{ps:List Str}
def Yn(C:A6):TE:=λ_ H Q=>∀e,H e=_n->Q (.ref e) (upd H e (.ext (Ku e C)))
theorem Rq(M:pd X.K C fI)(F:kL X.prog X.w X.K X.mg X.base Dz k fI fd ps (DH C))(o:ps.length=1)(n:kG (k+1) X.A)(t:Gl X x)(hm:X.mg x=_s (.ref C))(y:Binds X.K fd ps [])
    (m:(x==("__debug__" : Str))=_f):PE X (.Call (.Name x p) [] [] pos) (Yn C):=by
  intro pins s σ H Q I q;refine K2 (Bq I t hm ?_ m);refine W.callWith_K0 I.lN M.kp ?_;obtain⟨nm,G,N,bs,bm,sn,sub,ab,col,dd,k0,k1,k2,k3,k5,lk,j⟩:=M.lk;obtain⟨L,h,B⟩:=M.fn;have l:H (s.heap.objs.size+1)=none:=I.kD.fresh (gJ _);have f:Inv X pins σ (upd H (s.heap.objs.size+1) (.ext (Ku (s.heap.objs.size+1) C))) {s with heap:=(s.heap.push (Tp [])).push (VC C s.heap.objs.size)}:=by
    have J:Inv X pins σ H {s with heap:=s.heap.push (Tp [])}:=I.kept (t':=s.toks) λb u z=>B0 _ z;refine J.laid (t':=s.toks) (λb u z=>B0 _ z) `s (NU ⟨#[.ref s.heap.objs.size,.none,.none,.none,.bool _f,.none],#[],?_,rfl⟩)
    heap_get
  have i:AH [V.ref (s.heap.objs.size+1)] [D9 (s.heap.objs.size+1)]:=.cons rfl .nil;obtain⟨c,g,d,tk,os⟩:=s;refine Mg (us:=[]) (DO j) (I.lN _ _ lk) (P9 I.lN M.init) (I.lN _ _ h) B `d ?_;refine R3 (S0 (F.run _ X.stack _ _ ⟨[D9 (c.objs.size+1)],[]⟩ [D9 (c.objs.size+1)] _ (λv E=>v=.kB/\Q (.ref (c.objs.size+1)) E) E0 (n.make C [] []) (f.pX.make C [] []) (by have:=y _ [D9 (c.objs.size+1)] f.lN (by simp[o]);rw[F8]at this;exact this) i ⟨_,rfl,AF,rfl,q _ l⟩) λr s' a=>?_);cases r with
  |error e=>exact C9 a
  |ok fl=>
    cases fl with|ret u=>obtain⟨v,H',D,rv,ev,q3⟩:=f.after a;subst ev;exact⟨rv,⟨V.ref (c.objs.size+1),H',D,rfl,q3⟩⟩|next=>exact C9 a|brk=>exact C9 a|cont=>exact C9 a
end
end XC
namespace R
open PySem L2 XC
section
variable{X:Cx}{Γ:Gm}{c:Str}{p pos cp:Pos}{k:Nat}{fI:A6}{fd:G4}{ps:List Str}
theorem LP(B:X.calm=_t)(M:pd X.K (AJ X.K c) fI)(F:kL X.prog X.w X.K X.mg X.base Dz k fI fd ps (DH (AJ X.K c)))(t:ps.length=1)(o:kG (k+1) X.A)(x:Gl X c)(hm:X.mg c=_s (.ref (AJ X.K c)))(D:L2.Binds X.K fd ps [])
    (n:(c==("__debug__" : Str))=_f):bB X (.Raise (_s (.Call (.Name c p) [] [] cp)) _n pos) (tX X.K Γ λ_=>_s ⟨c, "", .kB⟩):=by
  intro pins s σ H Wk Q I ⟨g,m,P,r,res,G,q⟩ w;cases G;obtain⟨nm,j,N,bs,bm,sn,sub,ab,col,dd,k0,k1,k2,k3,k5,lk,l⟩:=M.lk;rw[arm_exec_Raise];refine A0 (K9 (JY (C:=AJ X.K c) (nm:=nm) (q:=j) (N:=N) (bs:=bs) (bm:=bm) (hdct:=_t) (sn:=sn) (sub:=sub) (ab:=ab) (col:=col) (dd:=dd) (k0:=k0) (k1:=k1) (k2:=k2) (k3:=k3) (k5:=k5) (DO l) (I.ok.hd B) ?_));refine A0 (G1 (Rq M F t o x hm D n pins s σ H (λv b=>∃a,v=.ref a/\b a=_s (.ext (ku a (AJ X.K c) _n .none))/\Wk a (AJ X.K c) _n b) I ?_) (λv i h3=>A0 (K9 (A7 ?_))) λ_ _ y=>y);intro a d;have h:=Ae d (.ext (Ku a (AJ X.K c)));exact⟨a,rfl,AF,q _ _ _ _ ⟨rfl,d,nofun,g,(Step.same (P:=P) h).less λ_ z=>z.elim,λz=>r.zd a z d,.inl ⟨rfl,rfl⟩⟩⟩;obtain⟨J,b,e,rv,a,rfl,f,E⟩:=h3;obtain rfl:v=.ref a:=rv;obtain⟨⟨vs,sl,u,h1⟩,_,_⟩:=e.kD a _ f;exact⟨a,_,vs,sl,rfl,e.lN _ _ lk,u,h1,w b i a _ _n e (.inl f) E⟩
end
section
variable{X:Cx}
theorem PS.pN{st:F0}{t:TS}(h:PS X.l0 st t):PS X st t:=λpins s σ H D I hw =>
 G1 (h pins s σ H D (I.kg _) hw) (λ_ _ q=>q.kM) λ_ _ z=>C9 z
theorem PA.pN{es:List Expr}{t:TA}(h:PA X.l0 es t):PA X es t:=λpos pins s σ H Q I hw =>
 G1 (h pos pins s σ H Q (I.kg _) hw) (λ_ _ ⟨v,H',a,r,q⟩=>⟨v,H',a.kM,r,q⟩) λ_ _ z=>C9 z
end
noncomputable def Bw:List Str:=["NoStep", "NoRow"]
def VG(f c:Str)(as:List Ar)(m:M):Option Ex:=AN as Ex m λds _=>match ds with|[d]=>_s ⟨c,f,d⟩|_=>_n
theorem ns.{u}{α:Type u}{x:α}{P:Prop}(h:(_n:Option α)=_s x):P:=by cases h
noncomputable def gd.{u}{α:Type u}(b:Bool)(o:Option α):Option α:=bif b then o else _n
theorem mh.{u}{α:Type u}{b:Bool}{o:Option α}{x:α}(h:gd b o=_s x):b=_t/\o=_s x:=by
 cases b with|false=>exact ns h|true=>exact⟨rfl,h⟩
noncomputable def x1{b:Type}:List b->Option b
 |[a]=>_s a
 |_=>_n
theorem Yf{c:Type}{l:List c}{a:c}(h:x1 l=_s a):l=[a]:=by
 cases l with
 |nil=>exact ns h
 |cons b t=>
  cases t with|nil=>rw[B2 h]|cons _ _=>exact ns h
noncomputable def dR:Expr->Option Str
 |.Name x _=>_s x
 |_=>_n
theorem VH{e:Expr}{x:Str}(h:dR e=_s x):∃p,e=.Name x p:=by
 cases e with|Name y p=>exact⟨p,by rw[B2 h]⟩|_=>exact ns h
def dU:Expr->Option (Str×List Expr)
 |.Call f es ks _=>gd ks.isEmpty ((dR f).bind λx=>_s (x,es))
 |_=>_n
theorem VJ{e:Expr}{x:Str}{es:List Expr}(h:dU e=_s (x,es)):∃p pos,e=.Call (.Name x p) es [] pos:=by
 cases e with|Call f fs ks pos=>obtain⟨h1,h2⟩:=mh h;refine jy h2 λy h3 h4=>?_;obtain⟨p,rfl⟩:=VH h3;cases T2.mp h1;cases h4;exact⟨p,pos,rfl⟩|_=>exact ns h
noncomputable def Yc(o:Option (M->Option Ex)):M->Option Ex:=o.getD λ_=>_n
theorem UI{X:Cx}{st:F0}{Γ:Gm}{o:Option (M->Option Ex)}(h:∀x,o=_s x->Qi X st (tX X.K Γ x)):Qi X st (tX X.K Γ (Yc o)):=by
 cases o with|none=>exact HB|some x=>exact h x rfl
def bf(r:Rec)(C:Cf)(a:Xs)(Γ:Gm)(p:Str×List Expr):Option (M->Option Ex):=match p.2 with
 |[]=>gd (Bw.contains p.1&&(Cy C.sc p.1&&Cp p.1)) (_s λ_=>_s ⟨p.1, "", .kB⟩)
 |_=>(x1 p.2).bind λe=>(a.lookup p.1).bind λf=>gd (Cy C.sc p.1&&Cp p.1&&noStar e) ((r.A C Γ [] [e]).bind λca=>_s (VG f p.1 ca.as))
def dQ(r:Rec)(C:Cf)(b:Xs)(Γ:Gm)(o k:Option Expr):Option (M->Option Ex):=gd k.isNone (o.bind λa=>(dU a).bind λp=>bf r C b Γ p)
def dS(r:Rec)(C:Cf)(go:Gm->List F0->M->Option Ex)(Γ:Gm)(t:Expr)(a b:List F0):Option (M->Option Ex):=(r.T C Γ t).bind λct=>_s λm=>ct.f Ex m λd c=>if d=_t then go ct.Γ a c else go ct.Γ b c
def bJ(r:Rec)(C:Cf)(c:Xs)(go:Gm->List F0->M->Option Ex)(Γ:Gm)(st:F0):M->Option Ex:=match st with
 |.Raise o k _=>Yc (dQ r C c Γ o k)
 |.If t a b _=>Yc (dS r C go Γ t a b)
 |_=>λ_=>_n
def To(r:Rec)(C:Cf)(a:Xs):Nat->Gm->List F0->M->Option Ex
 |0,_,_=>λ_=>_n
 |_+1,_,[]=>λ_=>_n
 |n+1,Γ,st::rest=>match r.S C _n Γ st with
  |some c=>(match c.Γ with
   |some b=>λm=>(bJ r C a (To r C a n) Γ st m).or (c.f Ex m (kX (To r C a n b rest)))
   |none=>bJ r C a (To r C a n) Γ st)
  |none=>bJ r C a (To r C a n) Γ st
def dG(X:Cx)(c f:Str):Prop:=∃fI fd ps k,tq X.K (AJ X.K c) f fI/\kL X.prog X.w X.K X.mg X.base Dz k fI fd ps (lL (AJ X.K c) f)/\ps.length=2/\kG (k+1) X.A/\X.mg c=_s (.ref (AJ X.K c))/\L2.Binds X.K fd ps []
def YA(X:Cx)(c:Str):Prop:=∃fI fd ps k,pd X.K (AJ X.K c) fI/\kL X.prog X.w X.K X.mg X.base Dz k fI fd ps (DH (AJ X.K c))/\ps.length=1/\kG (k+1) X.A/\X.mg c=_s (.ref (AJ X.K c))/\L2.Binds X.K fd ps []
theorem Iq{a:Type}{l:List (Str×a)}{c:Str}{v:a}(h:l.lookup c=_s v):(c,v)∈l:=E1 h
section
variable{X:Cx}{r:Rec}{C:Cf}{cx:Xs}
theorem OX(ok:j9 C X.l0){x:Str}(h:Cy C.sc x=_t):Gl X x:=BM (X:=X.l0) ok h
theorem VF(w:kI r)(ok:j9 C X.l0)(g:X.calm=_t)(l:∀c f,(c,f)∈cx->dG X c f)(j:∀c∈Bw,YA X c)(Γ:Gm){o k:Option Expr}{pos:Pos}:Qi X (.Raise o k pos) (tX X.K Γ (Yc (dQ r C cx Γ o k))):=by
 refine UI λx h=>?_;obtain⟨n,h⟩:=mh h;refine jy h λy m h=>?_;refine jy h λi h1 h=>?_;obtain⟨c,es⟩:=i;cases m;obtain⟨p,z,rfl⟩:=VJ h1;cases Option.isNone_iff_eq_none.mp n;cases es with
 |nil=>have h':gd (Bw.contains c&&(Cy C.sc c&&Cp c)) (_s fun(_:M)=>(_s (⟨c, "", .kB⟩:Ex)))=_s x:=h;obtain⟨h4,h5⟩:=mh h';cases h5;simp only[A1]at h4;obtain⟨fI,fd,ps,k,M,F,b,a,hm,d⟩:=j c (B9.mp h4.1);exact(LP g M F b a (OX ok h4.2.1) hm d (AS h4.2.2).1).s
 |cons e1 cg=>replace h:(x1 (e1::cg)).bind _=_s x:=h;refine jy h λe h2 h=>?_;refine jy h λf q h=>?_;obtain⟨h4,h⟩:=mh h;refine jy h λca ha h=>?_;cases h;rw[Yf h2];simp only[A1]at h4;obtain⟨v,u,D,B,t⟩:=w.A ok ha;obtain⟨fI,fd,ps,k,M,F,b,a,hm,d⟩:=l c f (Iq q);exact(Na g M F b a (OX ok h4.1.1) hm d (PA.pN v) u (t rfl) (AS h4.1.2).1 (AO h4.2)).s
theorem VI(e:kI r)(ok:j9 C X.l0){go:Gm->List F0->M->Option Ex}(c:∀Γ ss,FK X ss (tX X.K Γ (go Γ ss)))(Γ:Gm){t:Expr}{a b:List F0}{pos:Pos}:Qi X (.If t a b pos) (tX X.K Γ (Yc (dS r C go Γ t a b))):=by refine UI λx h=>?_;refine jy h λct d h=>?_;cases h;exact Vs (PT.l0 (e.T ok d)) (c ct.Γ a) (c ct.Γ b)
theorem VD(d:kI r)(ok:j9 C X.l0)(i:X.calm=_t)(g:∀c f,(c,f)∈cx->dG X c f)(e:∀c∈Bw,YA X c){go:Gm->List F0->M->Option Ex}(h:∀Γ ss,FK X ss (tX X.K Γ (go Γ ss)))(Γ:Gm)(st:F0):Qi X st (tX X.K Γ (bJ r C cx go Γ st)):=by
 cases st with|Raise o k pos=>exact VF d ok i g e Γ|If t a b pos=>exact VI d ok h Γ|_=>exact HB
theorem II(a:kI r)(ok:j9 C X.l0)(e:X.calm=_t)(d:∀c f,(c,f)∈cx->dG X c f)(b:∀c∈Bw,YA X c):∀n Γ ss,FK X ss (tX X.K Γ (To r C cx n Γ ss))
 |0,Γ,ss=>Jo
 |n+1,Γ,[]=>Jo
 |n+1,Γ,st::rest=>by
  have h0:=VD a ok e d b (II a ok e d b n) Γ st;unfold To;cases hs:r.S C _n Γ st with
  |none=>exact Jp h0
  |some c=>
   cases vR:c.Γ with|none=>simp only[vR];exact Jp h0|some g=>simp only[vR];have h1:=a.S ok hs;rw[vR]at h1;exact Rb h0 (PS.pN h1) (II a ok e d b n g rest)
end
def Vo(M:Md)(fs:List (Str×kd))(a:Xs)(st:F0)(ds:List Dv):Option Ex:=To (cmp 100) (DW M fs st [] 0) a 100 (FI (AG st).length (AB st).length []) (AM st) (ds++E6 ((AG st).length-(AB st).length) .kB)
end R
namespace XC
open PySem PySem.W PySem.Spec PyProof.Rows L2
abbrev TH:=A6->A6->Option A6->Ends->L2.St->Hp->Prop
structure yS (X:Cx) (pins:List (A6×Obj)) (σ:L2.St) (H:Hp) (s:A5) (a C:A6) (dx:Option A6):Prop where
 I:Inv X pins σ H s
 ex:∃t,H a=_s (.ext (ku a C dx (.ref t)))/\Ent s.heap H a t/\X.kP.heap.objs.size<=t/\∀p∈X.pn++pins,p.1≠t
 cl:∃hd,oE X.K C hd
def PH(X:Cx)(hs:List E4)(t:TH):Prop:=∀(pins:List (A6×Obj))(s:A5)(σ:L2.St)(H:Hp)(b:Ends)(a C:A6)(dx:Option A6),yS X pins σ H s a C dx->t a C dx b σ H->B7 (C0 X.prog X.w) X.A (jK (.ref a) X.env hs) (SP X pins b) X.xe s
def bC(X:Cx)(ss:List F0)(t:TH):Prop:=∀a C dx,Be (HV X a) ss λD σ H=>t a C dx D σ H
abbrev bP(f:L2.St->Hp->Prop):Ends:=⟨f,λ_ _=>False,λ_ _=>False,λ_ _=>False⟩
section
variable{X:Cx}{D:A6}{dn n:Str}{np hpos:Pos}{pb:F0}{nA:List F0}{rest:List E4}{t t2:TH}
theorem WJ:PH X [] λ_ _ _ _ _ _=>False:=λ_ _ _ _ _ _ _ _ _ z=>z.elim
theorem QP{nm:Option Str}{ss:List F0}{pins:List (A6×Obj)}{s:A5}{σ:L2.St}{H:Hp}{a C:A6}{dx:Option A6}{b:Bool}{E:A3->A5->Prop}{Q:Flow->A5->Prop}(l:yS X pins σ H s a C dx)
    (p:XD X.K D) (m:Gl X dn) (hm:X.mg dn=_s (.ref D)) (j:(dn==("__debug__" : Str))=_f) (d:BJ X.K C D=b)
    (z:if b=_t then X0 (C0 X.prog X.w) (X.A.mark (_s (.ref a))) (Code.handlers (.ref a) [.ExceptHandler _n nm ss hpos] X.env) (λr c=>match r with
        |.ok f=>(match nm with
          |none=>Q f c
          |some n=>B7 (C0 X.prog X.w) X.A (do gC X.env n .none;gK X.env n hpos) (λ_ i=>Q f i) E c)
        |.error x=>cameBackBy (C0 X.prog X.w) X.A X.env E x c) s
      else B7 (C0 X.prog X.w) X.A (jK (.ref a) X.env rest) Q E s) :
    B7 (C0 X.prog X.w) X.A (jK (.ref a) X.env (.ExceptHandler (_s (.Name dn np)) nm ss hpos::rest)) Q E s:=by
  have I:=l.I;refine wpAny_handleBy_cons (codeAny_handlers_test ?_) (by intro q;cases q);refine Bq (X:=HV X a) (OY I) m hm ?_ j;obtain⟨hd,B,q,N,bs,bm,sn,sub,ab,col,dd,k0,k1,k2,k3,k5,e,R⟩:=l.cl;obtain⟨P,u,O,N',J,G,F,M,v,L,y,V,U,j2,T,S,g,h⟩:=p.hd;obtain⟨t,ha,Z,W,Y⟩:=l.ex;obtain⟨⟨vs,sl,k,h1⟩,_,_⟩:=I.kD a _ ha;refine Qp (I.lN _ _ e) (I.lN _ _ g) (DO h) k rfl ?_;have o:(D9 C::bm).contains (.ref D)=b:=by unfold BJ clsIn at d;rw[e]at d;exact d
  rw[o];cases b with|true=>exact z|false=>exact z
theorem Jv{nm:Option Str}{ss:List F0}(g:XD X.K D)(e:Gl X dn)(hm:X.mg dn=_s (.ref D))(c:(dn==("__debug__" : Str))=_f)(d:PH X rest t):PH X (.ExceptHandler (_s (.Name dn np)) nm ss hpos::rest) λa C dx b σ H=>BJ X.K C D=_f/\t a C dx b σ H:=
 λpins s σ H b a C dx l ⟨f,q⟩=>QP l g e hm c f (by rw[if_neg B4];exact d pins s σ H b a C dx l q)
theorem UK{i:Nat}(w:XD X.K D)(m:Gl X dn)(hm:X.mg dn=_s (.ref D))(h:(dn==("__debug__" : Str))=_f)(c:X.N.Nodup)(hi:X.N[i]?=_s n)(b:X.env.scope.names.lookup n=_s .local)
    (p:bC X (pb::nA) t):PH X (.ExceptHandler (_s (.Name dn np)) (_s n) (pb::nA) hpos::rest) λa C dx d σ H=>BJ X.K C D=_t/\t a C dx (bP λσ' H'=>d.nx (σ'.set i _n) H') (σ.set i (_s (.ref a))) H:=λpins s σ H d a C dx l ⟨o,q⟩=>QP l w m hm h o (by
  rw[if_pos rfl];obtain⟨E,ha,r,j,k⟩:=l.ex;refine codeAny_handlers_suite_as ?_;refine ES (X:=HV X a) (OY l.I) ha r j k λs2 A=>?_;refine By (X:=HV X a) A c hi (.inl b) (v:=.ref a) rfl (λf x=>?_) (.inr b);refine G1 (p a C dx pins f _ H _ x q) (λfl F q4=>?_) λ_ _ y=>C9 y;cases fl with|next=>obtain⟨σ',H',B,g⟩:=q4;exact Lb (UU B l.I.ok) c hi b λs' e=>⟨_,H',e,g⟩|brk=>obtain⟨_,_,_,z⟩:=q4;exact z.elim|cont=>obtain⟨_,_,_,z⟩:=q4;exact z.elim|ret u=>obtain⟨_,_,_,_,_,z⟩:=q4;exact z.elim)
theorem Zi(k:XD X.K D)(g:Gl X dn)(hm:X.mg dn=_s (.ref D))(d:(dn==("__debug__" : Str))=_f)
    (i:bC X (pb::nA) t):PH X (.ExceptHandler (_s (.Name dn np)) _n (pb::nA) hpos::rest) λa C dx b σ H=>BJ X.K C D=_t/\t a C dx (bP b.nx) σ H:=λpins s σ H b a C dx l ⟨h,q⟩=>QP l k g hm d h (by
  rw[if_pos rfl];obtain⟨p,ha,j,e,f⟩:=l.ex;refine codeAny_handlers_suite ?_;refine ES (X:=HV X a) (OY l.I) ha j e f λs2 m=>?_;refine G1 (i a C dx pins s2 _ H _ m q) (λfl r q4=>?_) λ_ _ y=>C9 y;cases fl with|next=>obtain⟨σ',H',o,c⟩:=q4;exact⟨σ',H',UU o l.I.ok,c⟩|brk=>obtain⟨_,_,_,z⟩:=q4;exact z.elim|cont=>obtain⟨_,_,_,z⟩:=q4;exact z.elim|ret u=>obtain⟨_,_,_,_,_,z⟩:=q4;exact z.elim)
def YG(H:Hp)(dx:Option A6):Prop:=dx=_n\/∃b fs,dx=_s b/\H b=_s (.xd fs)
theorem OP{K:Frag}{a C:A6}(c:qK K C):KitX K (.ref a) (.ref C) (λh=>∃ox b,InstAt h a ox C b) where
 ty:=λ_ _ _ ⟨_,_,I⟩=>I.type
 it:=λ_ _ X _=>by obtain⟨hd,nm,q,N,bs,bm,sn,sub,ab,col,dd,k0,k1,k2,k3,k5,e,o⟩:=c.lk;intro A' g i s' k q;unfold isType loadHead;exact A0 (wpAny_loadPart (k _ _ (X _ _ e)) (A7 q))
 ne:=λh tp dd f n sl X d=>by obtain⟨hd,nm,q,N,bs,bm,sn,sub,ab,col,dd,k0,k1,k2,k3,k5,e,o⟩:=c.lk;refine Bool.eq_false_iff.mpr λq=>?_;have e2:C=tp:=Value.ref.inj (beq_iff_eq.mp q);subst e2;have z:=congrArg Obj.cls (B2 ((X _ _ e).symm.trans d));exact absurd (Value.type.inj z) `d
 ca:=λX ⟨ox,b,I⟩ k=>Qq X c I k
noncomputable def cj:V->Option A3
 |.ref a=>_s (.ref a)
 |.ty n=>_s (.type n)
 |_=>_n
theorem Sk{d:V}{u c:A3}(h:cj d=_s c)(r:RelV d u):u=c:=by cases d<;>first|(cases h;exact r)|cases h
def cE(K:Frag):List V->Hp->VK->Prop:=λvs H Q=>∃a C dx T d c b,vs=[.ref a,d]/\H a=_s (.ext (ku a C dx T))/\YG H dx/\qK K C/\cj d=_s c/\kitOne K (.ref C) c=_s b/\Q (.bl b) H
theorem Pg:BS X (.builtin "isinstance") (cE X.K):=λpins s σ H xs us Q I r ⟨a,C,dx,T,d,c,b,e,ha,hd,l,m,k,q⟩=>by
 subst e;cases r with
 |cons i f=>
  cases f with
  |cons f h=>
   cases h;cases i;cases Sk m f;obtain⟨⟨vs,sl,g,_⟩,_,_⟩:=I.kD a _ ha;refine kia_one (OP l) I.lN ?_ k (λz=>nomatch z) λtk=>⟨.bl b,H,I.tok _,rfl,q⟩;rcases hd with rfl|⟨p,fs,rfl,o⟩
   exact⟨_,_n,⟨g,rfl,rfl,True.intro⟩⟩;obtain⟨mA,ns,_⟩:=I.kD p _ o;obtain⟨j,e1,_⟩:=Dr ns;exact⟨_,_s j,⟨g,rfl,rfl,e1⟩⟩
end
end XC
namespace R
open PySem L2 XC
theorem RW{K:W.Frag}{g:G}{H:Hp}{Γ:Gm}{m:M}{σ:St}{P:Fp}(c:∀(i o:Nat),Γ[i]?=_s (_s o)->o=0)(r:Rel K g H Γ m σ P):∀a,¬P a:=λa z=>by obtain⟨_,F,h1,h4⟩:=r;obtain⟨i,q⟩:=(h4 a).mp z;by_cases e:∃o,Γ[i]?=_s (_s o);obtain⟨o,e⟩:=e;obtain⟨d,v,_,_,b⟩:=h1.rep i o e;rw[c i o e]at b;exact b.kW a q;exact h1.out i (λo y=>e ⟨o,y⟩) a q
def JH(x:M->Option Ex)(yF:Ex->Option (List Dv))(j:Nat)(a:Es):Es:=λR m k=>match x m with
 |some r=>(yF r).bind λl=>k.nx (m.set j (.lst l))
 |none=>a R m k
def dM(K:W.Frag)(yF:Ex->Option (List Dv))(i j:Nat)(t:TH):Prop:=∀(b:Ex)(l:List Dv)(g:G)(H:Hp)(a:A6)(dx:Option A6)(T:A3)(d:Ends)(σ:St),yF b=_s l->H a=_s (.ext (ku a (AJ K b.c) dx T))->Uz K g H dx b->i < σ.length->j < σ.length ->
 (∀vs p H' σ',Dd H H'->H p=_n->H' p=_s (.lst vs)->AA K g H' 0 l vs j4->(σ'=σ.set j (_s (.ref p))\/σ'=(σ.set j (_s (.ref p))).set i _n)->d.nx σ' H')->t a (AJ K b.c) dx d σ H
theorem Vi{X:Cx}{F:Fr}{j6:Option Gm}{f Γn:Gm}{js:List Nat}{Y:Es}{x:M->Option Ex}{yF:Ex->Option (List Dv)}{st:F0}{h0:E4}{hs:List E4}{i j:Nat}{pos:Pos}{tH:TH}
    (lO:X.stack=X.env::X.outer) (hf:X.env.frame=_s X.env.locals) (lY:F.io=[]) (hz:∀(i o:Nat),f[i]?=_s (_s o)->o=0)
    (hb:Be X.l0 [st] (tS X.K F j6 f (_s Γn) js Y)) (hx:∀n,bB (X.kg n) st (tX X.K f x)) (hh:PH X (h0::hs) tH) (hM:dM X.K yF i j tH) (oX:∀k l,yF k=_s l->∃hd,oE X.K (AJ X.K k.c) hd)
    (Q:f[i]?=_s _n) (yA:j < f.length) (ij:i≠j) (hw:BH Γn (f.set j (_s 1))=_t):PS X (.Try [st] (h0::hs) [] [] pos) (tS X.K F j6 f (_s Γn) (j::js) (JH x yF j Y)):=by
  intro pins s σ H O I ⟨g,m,P,r,R,k1,res,e,q⟩;have hP:=RW hz r;refine wpAny_Try_except ?_;generalize hE:(fun(e:A3) (j7:A5)=>B7 (C0 X.prog X.w) X.A (O1 e X.env) (λ_ lX=>B7 (C0 X.prog X.w) X.A (T1 e _n) (λ_ lA=>B7 (C0 X.prog X.w) X.A (jK e X.env (h0::hs)) (SP X pins O) X.xe lA) X.xe lX) X.xe j7)=n;unfold JH at e;cases q0:x m with
  |none=>
    rw[q0]at e;have vz:Be (X.kg n) [st] (tS X.K F j6 f (_s Γn) js Y):=Be.l0 (X:=X.kg n) hb;refine G1 (vz pins s σ H O (I.kg n) ⟨g,m,P,r,R,k1,res,e,⟨λΓ' m' g' P' σ' H' e B D=>q.nx Γ' m' g' P' σ' H' e B (D.mono λ_ z=>B5 _ z),λd m' g' P' Pv σ' v H' B D=>q.rt d m' g' P' Pv σ' v H' B (D.mono λ_ z=>B5 _ z),λΓ' m' g' P' σ' H' e B D=>q.bk Γ' m' g' P' σ' H' e B (D.mono λ_ z=>B5 _ z),λΓ' m' g' P' σ' H' e B D=>q.ct Γ' m' g' P' σ' H' e B (D.mono λ_ z=>B5 _ z)⟩⟩) (λfl s1 h1=>?_) λ_ _ z=>z;cases fl with|next=>exact Q8 h1.kM|brk=>exact h1.kM|cont=>exact h1.kM|ret u=>exact h1.kM
  |some k=>
    rw[q0]at e;refine jy e λl hl e=>?_;refine M9 (hx n pins s σ H (WR X.K g P H k) _ (I.kg n) ⟨g,m,P,r,k,q0,λ_ _ _ _ z=>z⟩ λZ s1 a C dx J u hW=>?_);have J':Inv X pins σ Z s1:=J.kM;obtain⟨φ,ha⟩:=u.ext;show n (.ref a) s1;rw[<- hE];refine cL (X:=X) J'.ok.frames J' u lO hf λt h' I2 en uK sU=>?_;obtain⟨eC,na,ne,g',S,nz,fo⟩:=WR.xH a C dx Z φ (ku a C dx (.ref t)) ha hW;subst eC;have li:i < σ.length:=by rw[r.len.2];exact(A9.mp Q).1
    have lj:j < σ.length:=by rw[r.len.2];exact yA
    refine hh pins _ σ _ O a _ dx ⟨I2,⟨t,AF,en,uK,sU⟩,oX k l hl⟩ (hM k l g' _ a dx _ O σ hl AF fo li lj λvs p H' σ' E V hq rv zO=>?_);generalize hH2:upd Z a (.ext (ku a (AJ X.K k.c) dx (.ref t)))=H2 at V S E ⊢;have r1:=r.held S r.kA (λb z _=>hP b z);have s5:Step g' j4 H2 g' (λb=>b=p) H':=⟨λb o h _=>E b o h,(Step.same (g:=g') (P:=j4) E).ny,λ_ h=>h,λ_ h=>.inl h,⟨[],by simp⟩,λb h=>.inr (by rw[show b=p from h];exact V),(Step.same (g:=g') (P:=j4) E).zd,(Step.same (g:=g') (P:=j4) E).ins⟩;have uq:=S.trans s5;have yw:Rep X.K g' H' 1 (.lst l) (.ref p) (λb=>b=p):=by unfold Rep;exact⟨p,vs,j4,rfl,⟨hq,(λz=>by cases z),λ_ z=>r1.zd p z V⟩,rv,λz=>z,λb=>⟨λz=>.inl ⟨by decide,z⟩,λz=>z.elim (λz=>z.2) C9⟩⟩
    have r2:=r1.same E;obtain⟨P2,r3,s3⟩:=r2.drop j (.lst l) (_s (.ref p));have p2:∀b,¬P2 b:=λb z=>hP b (s3 b z);obtain⟨P3,U,s4⟩:=r3.putIn yA (C5 lj) yw (λb _ z=>p2 b z);rw[V1]at U;have e1:(f.set j (_s 1)).set i _n=f.set j (_s 1):=CB (by rw[C6 (Ne.symm ij)];exact Q);have G:i < (m.set j (Dv.lst l)).length:=by rw[C8,r.len.1];exact(A9.mp Q).1
    have e2:(m.set j (Dv.lst l)).set i (M.at (m.set j (.lst l)) i)=m.set j (.lst l):=CB (by rw[Eu (A4 G)];exact A4 G);have W:∃L,Rel X.K g' H' (f.set j (_s 1)) (m.set j (.lst l)) σ' L/\∀b,L b->b=p:=by
      rcases zO with rfl|rfl
      exact⟨P3,U,λb z=>(s4 b z).elim id λy=>(p2 b y).elim⟩;obtain⟨L,N,T⟩:=U.drop i (M.at (m.set j (.lst l)) i) _n;rw[e1,e2]at N;exact⟨L,N,λb z=>(s4 b (T b z)).elim id λy=>(p2 b y).elim⟩
    obtain⟨L,N,T⟩:=W;obtain⟨g5,P5,s7,r6⟩:=N.weaken hw;exact q.nx Γn (m.set j (.lst l)) g5 P5 σ' H' rfl e ((BA.set (i:=j)).mono λ_ z=>by rw[G6.mp z];exact B8) (((uq.sub (λ_ z=>z) T).sub (λ_ z=>z) λ_ z=>z).trans s7) (λb z=>by rw[lY]at z;cases z) r6
structure HK where
 dn:Str
 k:Int
 f:Option Str
inductive wz (y n:Str):E4->HK->Prop
 |fld {dn f:Str} {k:Int} {j:Nat} {np p1 p2 p3 p4 p5 p6 hpos:Pos}:wz y n (.ExceptHandler (_s (.Name dn np)) (_s n) [.Assign [.Name y p1] (.List [.Constant (.int k) j p2,.Attribute (.Name n p3) f p4] p5) p6] hpos) ⟨dn,k,_s f⟩
 |cst {dn:Str} {k:Int} {j j2:Nat} {np p1 p2 p3 p5 p6 hpos:Pos}:wz y n (.ExceptHandler (_s (.Name dn np)) _n [.Assign [.Name y p1] (.List [.Constant (.int k) j p2,.Constant .none j2 p3] p5) p6] hpos) ⟨dn,k,_n⟩
inductive rL (y n:Str):List E4->List HK->Prop
 |nil:rL y n [] []
 |cons {h:E4} {k:HK} {hs:List E4} {ks:List HK} (a:wz y n h k) (b:rL y n hs ks):rL y n (h::hs) (k::ks)
noncomputable def yK:List HK->Ex->Option (List Dv)
 |[],_=>_n
 |h::t,r=>bif r.c==h.dn then(match h.f with
  |some f=>bif f==r.f then _s [.int h.k,r.d]else _n
  |none=>_s [.int h.k,.kB])else yK t r
theorem IH{r:Ex}{l:List Dv}:∀{ks:List HK},yK ks r=_s l->∃h∈ks,h.dn=r.c
 |[],e=>by cases e
 |h::t,e=>by
  unfold yK at e;cases z:r.c==h.dn with|true=>exact⟨h,B8,(eq_of_beq z).symm⟩|false=>rw[z]at e;obtain⟨h',m,q⟩:=IH (ks:=t) e;exact⟨h',B5 _ m,q⟩
def tF(K:W.Frag)(i j:Nat)(k:Int)(f:Str):TH:=λa C dx D σ H=>∃b v T,σ[i]?=_s (_s (.ref a))/\H a=_s (.ext (ku a C (_s b) T))/\oF K C f/\H b=_s (.xd [(f,v)])/\∀p,H p=_n->D.nx (σ.set j (_s (.ref p))) (upd H p (.lst [.int k,v]))
def tN(j:Nat)(k:Int):TH:=λ_ _ _ D σ H=>∀p,H p=_n->D.nx (σ.set j (_s (.ref p))) (upd H p (.lst [.int k,.kB]))
def dh(K:W.Frag)(i j:Nat)(h:HK):TH:=λa C dx b σ H=>match h.f with
 |some f=>tF K i j h.k f a C dx (bP λσ' H'=>b.nx (σ'.set i _n) H') (σ.set i (_s (.ref a))) H
 |none=>tN j h.k a C dx (bP b.nx) σ H
def Yw(K:W.Frag)(i j:Nat):List HK->TH
 |[]=>λ_ _ _ _ _ _=>False
 |h::r=>λa C dx b σ H=>(BJ K C (AJ K h.dn)=_f/\Yw K i j r a C dx b σ H)\/(BJ K C (AJ K h.dn)=_t/\dh K i j h a C dx b σ H)
structure oz (K:W.Frag) (mg:Str->Option A3) (ks:List HK):Prop where
 xd:∀h∈ks,XD K (AJ K h.dn)
 md:∀h∈ks,mg h.dn=_s (.ref (AJ K h.dn))
 ok:∀h∈ks,Cp h.dn=_t
 cl:∀h∈ks,∀f,h.f=_s f->oF K (AJ K h.dn) f/\f ≠ ""
 bl:∀h∈ks,∀h'∈ks,BJ K (AJ K h.dn) (AJ K h'.dn)=(h.dn==h'.dn)
section
variable{X:Cx}{y n:Str}{i j:Nat}
theorem Zf{k:Int}{f:Str}{jj:Nat}{p1 p2 p3 p4 p5 p6:Pos}(l:X.N.Nodup)(hi:X.N[i]?=_s n)(g:X.env.scope.names.lookup n=_s .local)(hn:Cp n=_t)(h:X.N[j]?=_s y)(c:X.env.scope.names.lookup y=_s .local) :
    bC X [.Assign [.Name y p1] (.List [.Constant (.int k) jj p2,.Attribute (.Name n p3) f p4] p5) p6] (tF X.K i j k f):=λa C dx=>by
  have d:PE (HV X a) (.Name n p3) (Bf i):=EZ hi (.inl g) (AS hn).1 (AS hn).2.1;have m:PS (HV X a) (.Assign [.Name y p1] (.List [.Constant (.int k) jj p2,.Attribute (.Name n p3) f p4] p5) p6) _:=Dn l h (.inl c) (Do (Ai Ic (Ai (Np d rfl) Dp rfl) rfl)) rfl (.inr c);refine Be.imp (Aw m (Cg (X:=HV X a))) λD σ H ⟨b,v,T,h1,h2,h3,h4,q⟩=>?_;exact⟨a,C,b,T,v,h1,h2,h3,h4,(show 2<=sizeLine by decide),λp e=>q p e⟩
theorem Ze{k:Int}{jj j2:Nat}{p1 p2 p3 p5 p6:Pos}(e:X.N.Nodup)(d:X.N[j]?=_s y)(b:X.env.scope.names.lookup y=_s .local) :
    bC X [.Assign [.Name y p1] (.List [.Constant (.int k) jj p2,.Constant .none j2 p3] p5) p6] (tN j k):=λa C dx=>by
  have f:PS (HV X a) (.Assign [.Name y p1] (.List [.Constant (.int k) jj p2,.Constant .none j2 p3] p5) p6) _:=Dn e d (.inl b) (Do (Ai Ic (Ai Nt Dp rfl) rfl)) rfl (.inr b);refine Be.imp (Aw f (Cg (X:=HV X a))) λD σ H q=>?_;exact⟨(show 2<=sizeLine by decide),λp c=>q p c⟩
theorem UJ(f:X.N.Nodup)(hi:X.N[i]?=_s n)(p:X.env.scope.names.lookup n=_s .local)(hn:Cp n=_t)(t:X.N[j]?=_s y)(o:X.env.scope.names.lookup y=_s .local) :
    ∀{hs:List E4}{ks:List HK},rL y n hs ks->(∀h∈ks,XD X.K (AJ X.K h.dn)/\X.mg h.dn=_s (.ref (AJ X.K h.dn))/\Cp h.dn=_t/\Gl X h.dn)->PH X hs (Yw X.K i j ks)
  |_,_,.nil,_=>WJ
  |_,_,.cons a b,ok=>by
    have r:=UJ f hi p hn t o b λh m=>ok h (B5 _ m);obtain⟨xd,md,d,g⟩:=ok _ B8;intro pins s σ H k e C dx l q;rcases q with⟨c,q⟩|⟨c,q⟩
    cases a with|fld=>exact Jv xd g md (AS d).1 r pins s σ H k e C dx l ⟨c,q⟩|cst=>exact Jv xd g md (AS d).1 r pins s σ H k e C dx l ⟨c,q⟩
    cases a with|fld=>exact UK xd g md (AS d).1 f hi p (Zf f hi p hn t o) pins s σ H k e C dx l ⟨c,q⟩|cst=>exact Zi xd g md (AS d).1 (Ze f t o) pins s σ H k e C dx l ⟨c,q⟩
end
theorem Wf{K:W.Frag}{mg:Str->Option A3}{ks:List HK}{i j:Nat}(ok:oz K mg ks)(s:i≠j):dM K (yK ks) i j (Yw K i j ks):=by
 intro o l g H a dx T G σ u ha E B I q;obtain⟨h0,A,F⟩:=IH u;have go:∀d:List HK,(∀h∈d,h∈ks)->yK d o=_s l->Yw K i j d a (AJ K o.c) dx G σ H:=by
  intro d;induction d with
  |nil=>intro _ e;cases e
  |cons h t C=>
   intro sub e;have bl:=ok.bl h0 A h (sub h B8);rw[F]at bl;unfold yK at e;cases z:o.c==h.dn with
   |false=>rw[z]at e bl;exact .inl ⟨bl,C (λx m=>sub x (B5 _ m)) e⟩
   |true=>
    rw[z]at e bl;refine .inr ⟨bl,?_⟩;have ec:=eq_of_beq z;unfold dh;cases hf:h.f with
    |none=>simp only[hf,cond_true]at e;cases e;intro p n;refine q [.int h.k,.kB] p _ _ (Ae n _) n AF ?_ (.inl rfl);refine(AA.cons (As) (AA.cons (by unfold Rep;exact⟨rfl,λ_ z=>z⟩) AA.nil λ_ z=>z.elim) λ_ z=>z.elim).iff λb=>⟨λz=>z.elim,λz=>z.elim id λz=>z.elim id id⟩
    |some f=>
     simp only[hf,cond_true]at e;cases z2:f==o.f with
     |false=>rw[z2]at e;cases e
     |true=>
      rw[z2]at e;cases e;have w:=eq_of_beq z2;obtain⟨cl,ne⟩:=ok.cl h (sub h B8) f hf;rcases E with⟨_,y⟩|⟨b,v,rfl,D,rv⟩
      exact absurd (w.trans y) ne;rw[<- ec]at cl;refine⟨b,v,T,C5 B,ha,cl,by rw[w];exact D,λp n=>?_⟩;have r:=Ae (H:=H) n (.lst [.int h.k,v]);refine q [.int h.k,v] p _ _ r n AF ?_ (.inr ?_);refine(AA.cons (As) (AA.cons (rv.held (Step.same (g:=g) (P:=j4) r) kF.j4 λ_ z=>z.elim) AA.nil λ_ z=>z.elim) λ_ z=>z.elim).iff λb=>⟨λz=>z.elim,λz=>z.elim id λz=>z.elim id id⟩;show((σ.set i (_s (.ref a))).set j (_s (.ref p))).set i _n=_;rw[T4 _ _ s,V1,T4 _ _ s.symm]
 exact go ks (λ_ m=>m) u
inductive ow (n:Str):List Expr->List Str->Prop
 |nil:ow n [] []
 |cons {d:Str} {p1 p2 p3 p4:Pos} {es:List Expr} {ds:List Str} (b:ow n es ds):ow n (.Call (.Name "isinstance" p1) [.Name n p2,.Name d p3] [] p4::es) (d::ds)
def YY(K:W.Frag)(C:A6)(nv:Str->V):List Str->List Bool->Prop
 |[],bs=>bs=[]
 |d::ds,bs=>∃b r c,bs=b::r/\cj (nv d)=_s c/\W.kitOne K (.ref C) c=_s b/\YY K C nv ds r
def Qb(K:W.Frag)(i:Nat)(σ:St)(H:Hp)(C:A6):Prop:=∃a dx T,σ[i]?=_s (_s (.ref a))/\H a=_s (.ext (ku a C dx T))/\YG H dx/\qK K C
theorem Qb.same{K:W.Frag}{i j:Nat}{σ:St}{H H':Hp}{C:A6}{v:Option V}(h:Qb K i σ H C)(s:Dd H H')(c:j≠i):Qb K i (σ.set j v) H' C:=by
 obtain⟨a,dx,T,h1,h2,h3,h4⟩:=h;refine⟨a,dx,T,by rw[C6 c];exact h1,s _ _ h2,?_,h4⟩;rcases h3 with h3|⟨b,fs,h3,h5⟩
 exact .inl h3;exact .inr ⟨b,fs,h3,s _ _ h5⟩
def fB(K:W.Frag)(nv:Str->V)(i:Nat)(ds:List Str):TA:=λσ H Q=>∃C bs,Qb K i σ H C/\YY K C nv ds bs/\Q (bs.map .bl) H
section
variable{Y:Cx}{n y:Str}{i j:Nat}{nv:Str->V}
theorem Jz(e:∀p,PE Y (.Name n p) (Bf i))(k:Gl Y "isinstance")(f:Y.mg "isinstance" = _n) :
    ∀{es:List Expr}{ds:List Str},ow n es ds->(∀d∈ds,∀p,PE Y (.Name d p) (tC (nv d)))->PA Y es (fB Y.K nv i ds)
  |_,_,.nil,_=>PA.imp Dp λσ H Q ⟨C,bs,_,h,q⟩=>by cases h;exact q
  |_,_,@ow.cons _ d p1 p2 p3 p4 es ds b,g=>by have o:=Jz e k f b λd m=>g d (B5 _ m);have l:PE Y (.Call (.Name "isinstance" p1) [.Name n p2,.Name d p3] [] p4) _:=HG (Pg (X:=Y)) k f PyProof.Rows.Boot.«isinstance» (Ai (e p2) (Ai (g d B8 p3) Dp rfl) rfl);refine PA.imp (Ai l o (AO rfl)) λσ H Q ⟨C,bs,⟨a,dx,T,h1,h2,h3,h4⟩,h,q⟩=>?_;obtain⟨b,r,c,rfl,e1,e2,e3⟩:=h;exact⟨.ref a,h1,a,C,dx,T,nv d,c,b,rfl,h2,h3,h4,e1,e2,C,r,⟨a,dx,T,h1,h2,h3,h4⟩,e3,q⟩
def dk(K:W.Frag)(nv:Str->V)(i j:Nat)(d1 d2 d3:List Str):TS:=λD σ H=>∃C c b a,Qb K i σ H C/\YY K C nv d1 c/\YY K C nv d2 b/\YY K C nv d3 a/\c.length+b.length+a.length<=100 /\
 ∀p H',Dd H H'->H p=_n->H' p=_s (.lst ((c++b++a).map .bl))->D.nx (σ.set j (_s (.ref p))) H'
theorem Vx{e1 e2 e3:List Expr}{d1 d2 d3:List Str}{q1 q2 q3 q4 q5 q6 q7 q8 q9 q10 q11 q12 q13:Pos}(u:Y.N.Nodup)(hi:Y.N[i]?=_s n)(hl:Y.env.scope.names.lookup n=_s .local)(hn:Cp n=_t)(f:Y.N[j]?=_s y)(c:Y.env.scope.names.lookup y=_s .local)(G:Cp y=_t)(M:j≠i)(jl:∀σ:St,σ.length=Y.N.length->j < σ.length)
    (w:Gl Y "isinstance") (l:Y.mg "isinstance" = _n) (i1:ow n e1 d1) (i2:ow n e2 d2) (i3:ow n e3 d3) (t:∀d,d∈d1\/d∈d2\/d∈d3->∀p,PE Y (.Name d p) (tC (nv d))) :
    Be Y [.Assign [.Name y q1] (.List e1 q2) q3,.Assign [.Name y q4] (.BinOp (.Name y q5) .Add (.List e2 q6) q7) q8,.Assign [.Name y q9] (.BinOp (.Name y q10) .Add (.List e3 q11) q12) q13] (λD σ H=>j < σ.length/\dk Y.K nv i j d1 d2 d3 D σ H):=by
  have h:∀p,PE Y (.Name n p) (Bf i):=λp=>EZ hi (.inl hl) (AS hn).1 (AS hn).2.1;have I:∀p,PE Y (.Name y p) (Bf j):=λp=>EZ f (.inl c) (AS G).1 (AS G).2.1;have s1:PS Y (.Assign [.Name y q1] (.List e1 q2) q3) _:=Dn u f (.inl c) (Do (Jz (nv:=nv) h w l i1 λd m=>t d (.inl m))) rfl (.inr c);have s2:PS Y (.Assign [.Name y q4] (.BinOp (.Name y q5) .Add (.List e2 q6) q7) q8) _:=Dn u f (.inl c) (Nr Ie (I q5) (Do (Jz (nv:=nv) h w l i2 λd m=>t d (.inr (.inl m))))) rfl (.inr c);have S:PS Y (.Assign [.Name y q9] (.BinOp (.Name y q10) .Add (.List e3 q11) q12) q13) _:=Dn u f (.inl c) (Nr Ie (I q10) (Do (Jz (nv:=nv) h w l i3 λd m=>t d (.inr (.inr m))))) rfl (.inr c);refine Be.imp (Aw s1 (Aw s2 (Aw S (Cg (X:=Y))))) λD σ H ⟨s,C,e,g,E,B,a1,a2,a3,hz,q⟩=>?_;refine⟨C,e,B,a1,(by rw[D1,O7];omega),λp1 O=>?_⟩;have L:=Ae O (.lst (e.map V.bl));have A:=B.same (v:=_s (.ref p1)) L M;refine⟨.ref p1,C5 s,C,g,A,a2,(by rw[D1,O7];omega),λp2 R=>?_⟩;have J:=Ae R (.lst (g.map V.bl));have g1:=J p1 _ (AF (H:=H) (a:=p1) (o:=.lst (e.map V.bl)));refine⟨p1,p2,_,_,rfl,rfl,g1,AF,(by rw[D1,D1,O7];omega),λp3 P=>?_⟩;have W:=Ae P (.lst (e.map V.bl++g.map V.bl));have k:Dd H _:=λb o z=>W b o (J b o (L b o z));have Z:j < (σ.set j (_s (V.ref p1))).length:=by rw[C8];exact s
  have x:=B.same (v:=_s (.ref p3)) k M;have ss:∀a b:V,(σ.set j (_s a)).set j (_s b)=σ.set j (_s b):=λa b=>V1 ..;show Yr _ _ _ ((σ.set j (_s (V.ref p1))).set j (_s (V.ref p3))) _;rw[ss];refine⟨.ref p3,C5 s,C,E,x,a3,(by rw[D1,O7];omega),λp4 Q=>?_⟩;have r:=Ae Q (.lst (E.map V.bl));have g3:=r p3 _ AF;refine⟨p3,p4,_,_,rfl,rfl,g3,AF,(by rw[G2,D1,D1,D1,O7];omega),λp5 F=>?_⟩;have U:=Ae F (.lst (e.map V.bl++g.map V.bl++E.map V.bl));have T:Dd H _:=λb o z=>U b o (r b o (k b o z));have hp:H p5=none:=by
    cases z:H p5 with|none=>rfl|some o=>have:=r _ _ (k _ _ z);rw[F]at this;cases this
  show D.nx ((σ.set j (_s (V.ref p3))).set j (_s (V.ref p5))) _;rw[ss];exact q p5 _ T hp (by rw[AF,a8,a8])
end
def nI(Γ:Gm):Bool:=Γ.all λo=>match o with|some n=>n==0|none=>_t
theorem Ww{Γ:Gm}(h:nI Γ=_t):∀(i o:Nat),Γ[i]?=_s (_s o)->o=0:=λi o e=>by have:=(D6.mp h) _ (J5 e);exact eq_of_beq this
def cf(Γ:Gm):Gm:=Γ.map λo=>o.map λ_=>0
noncomputable def SQ(sc:G9)(x:Str):Bool:=match sc.names.lookup x with
 |some .local=>_t
 |_=>_f
variable{x:Str}
theorem KL{sc:G9}(h:SQ sc x=_t):sc.names.lookup x=_s .local:=by unfold SQ at h;split at h;assumption;cases h
variable{X:Cx}
theorem HY{sc:G9}(hs:X.env.scope=sc)(h:Cy sc x=_t):Gl X x:=by unfold Cy at h;unfold Gl jJ;rw[hs];split at h;rename_i e;exact e;cases h
def YW(P:D4)(w:E8)(K:W.Frag)(mg:Str->Option A3)(base:F1)(k:Nat)(x:Str)(np:Nat)(a:List Dv->Option Ex):Prop:=∃fd ps,ps.length=np/\kL P w K mg base (Qj P w) k (AJ K x) fd ps (YI K ps.length a)/\mg x=_s (.ref (AJ K x))/\W.keepIn K (.ref (AJ K x))=_t/\L2.Binds K fd ps []
def Hz(K:W.Frag)(mg:Str->Option A3)(N:List Str)(sc:G9)(n y:Str)(hs:List E4)(yF:Ex->Option (List Dv)):Prop:=∀(X:Cx)(i j:Nat),X.K=K->X.mg=mg->X.N=N->X.N.Nodup->X.env.scope=sc->X.N[i]?=_s n->X.N[j]?=_s y->sc.names.lookup n=_s .local->sc.names.lookup y=_s .local->Cp n=_t->Cp y=_t->i≠j->∃a,PH X hs a/\dM X.K yF i j a
noncomputable def fV:F0->List Expr
 |.Expr (.Call _ es _ _) _=>es
 |_=>[]
structure qL where
 x:Str
 n:Str
 y:Str
 np:Nat
def Ug(r:Rec)(C:Cf)(h:qL)(c:List Dv->Option Ex)(yF:Ex->Option (List Dv))(Γ:Gm)(s1:F0):Option CS:=(_s (cf Γ)).bind λa=>(r.Ss C _n a [s1]).bind λb=>b.Γ.bind λΓn=>(BP C.N h.n).bind λi=>(BP C.N h.y).bind λj=>(r.A C a [] (fV s1)).bind λca =>
 gd (C.F.io.isEmpty&&nI a&&Cy C.sc h.x&&Cp h.x&&SQ C.sc h.n&&Cp h.n&&SQ C.sc h.y&&Cp h.y&&(a[i]?==_s _n)&&decide (j < a.length)&&!(i==j)&&BH Γn (a.set j (_s 1))&&BH a Γ&&(ca.as.length==h.np)) (_s ⟨_s Γn,j::b.js,JH (λm=>AN ca.as Ex m λds _=>c ds) yF j b.f,_f,_f,_f⟩)
section
variable{P:D4}{w:E8}{K:W.Frag}{mg:Str->Option A3}{base:F1}{st:F0}{M:Md}
theorem Pj{r:Rec}(L:kI r){C:Cf}{a:List Dv->Option Ex}{yF:Ex->Option (List Dv)}{k:Nat}(G:X.K=K)(Z:X.mg=mg)(lO:X.stack=X.env::X.outer)(hf:X.env.frame=_s X.env.locals)(hex:X.ex=[])(t:X=X.l0)(ok:j9 C X)
    {Γ:Gm} {h:qL} {cs:CS} {e1:Expr} {es:List Expr} {h0:E4} {hs:List E4} {pos p1 p2 p3:Pos} (D:YW X.prog X.w X.K X.mg X.base k h.x h.np a) (hr:kG k X.A) (hH:Hz K mg C.N C.sc h.n h.y (h0::hs) yF) (Y:∀v l,yF v=_s l->∃hd,oE K (AJ K v.c) hd)
    (e:Ug r C h a yF Γ (.Expr (.Call (.Name h.x p1) (e1::es) [] p2) p3)=_s cs):PS X (.Try [.Expr (.Call (.Name h.x p1) (e1::es) [] p2) p3] (h0::hs) [] [] pos) (tS X.K C.F _n Γ cs.Γ cs.js cs.f):=by
  refine jy e λz uW e=>?_;refine jy e λcb e2 e=>?_;refine jy e λΓn e3 e=>?_;refine jy e λi e6 e=>?_;refine jy e λj e7 e=>?_;refine jy e λca d e=>?_;replace d:r.A C z [] (e1::es)=_s ca:=d;obtain⟨E,e⟩:=mh e;cases e;simp only[A1,G5,decide_eq_true_eq]at E;obtain⟨⟨⟨⟨⟨⟨⟨⟨⟨⟨⟨⟨⟨c1,c2⟩,c3⟩,c4⟩,c5⟩,c6⟩,c7⟩,c8⟩,c9⟩,g⟩,U⟩,R⟩,S⟩,T⟩:=E;have u:=L.Ss ok e2;rw[e3]at u;have B:i≠j:=by simpa using U
  obtain⟨tH,q1,q2⟩:=hH X i j G Z ok.N ok.nd ok.sc (by rw[ok.N];exact Af e6) (by rw[ok.N];exact Af e7) (KL c5) (KL c7) c6 c8 B;obtain⟨J,a2,a3,o,a5⟩:=L.A ok d;obtain⟨fd,ps,hp,F,hm,O,b⟩:=D;rw[J0,A1]at o;refine ZE S ?_;refine Vi lO hf (T2.mp c1) (Ww c2) (by rw[<- t];exact u) (λp=>?_) q1 q2 (by rw[G];exact Y) (eq_of_beq c9) g B R;have V:eZ (X.kg p) (.Call (.Name h.x p1) (e1::es) [] p2) (tX X.K z λm=>AN ca.as Ex m λds _=>a ds):=Rc (X:=X.kg p) hex F hr (show Gl X h.x from BM ok c3) hm O b (PA.pN (X:=X.kg p) (by rw[t]at J;exact J)) a2 (a5 rfl) ((eq_of_beq T).trans hp.symm) (AS c4).1 (AO o.1) (BR o.2);exact λpins s σ H Wk Q I q w=>wpAny_Expr_any (V pins s σ H Wk _ I q w) I.quiet rfl
end
def RP(M:Md)(fs:List (Str×kd))(st:F0)(ro:Nat)(h:qL)(d:List Dv->Option Ex)(yF:Ex->Option (List Dv)):Option CS:=match AM st with
 |s0::.Try (s1::_) _ _ _ _::rest=>((cmp 100).S (DW M fs st [] ro) _n (FI (AG st).length (AB st).length []) s0).bind λc=>c.Γ.bind λe=>(Ug (cmp 100) (DW M fs st [] ro) h d yF e s1).bind λb=>b.Γ.bind λg=>((cmp 100).Ss (DW M fs st [] ro) _n g rest).bind λa=>_s ⟨a.Γ,c.js++(b.js++a.js),Sa c.f (Sa b.f a.f),_f,_f,_f⟩
 |_=>_n
def Gs(M:Md)(fs:List (Str×kd))(st:F0)(ro:Nat)(h:qL)(a:List Dv->Option Ex)(yF:Ex->Option (List Dv))(ds:List Dv):Option Dv:=match RP M fs st ro h a yF with
 |some c=>c.f Dv (ds++E6 ((AG st).length-(AB st).length) .kB) (kJ [])
 |none=>_n
def Pd(M:Md)(fs:List (Str×kd))(st:F0)(ro:Nat)(h:qL)(a:List Dv->Option Ex)(yF:Ex->Option (List Dv)):Bool:=Gr (AG st) (AB st) (AD st)&&decide ((AB st).length<=(AG st).length)&&match RP M fs st ro h a yF with
 |some c=>GO (_s (Gv (AG st).length [])) c.Γ
 |none=>_f
inductive pe (st:F0) (x:Str) (h0:E4) (hs:List E4):Prop
 |mk {s0:F0} {rest:List F0} {e1:Expr} {es:List Expr} {pos p1 p2 p3:Pos} (e:AM st=s0::.Try [.Expr (.Call (.Name x p1) (e1::es) [] p2) p3] (h0::hs) [] [] pos::rest)
variable{k:Nat}{fs:List (Str×kd)}
section
variable{P:D4}{w:E8}{K:W.Frag}{mg:Str->Option A3}{base:F1}{st:F0}{M:Md}
theorem Sj{p ro:Nat}{y qual:Str}{r:A6}{fd:G4}{nb:Bool}{F:List Dv->Option Dv}{hd:qL}{i:List Dv->Option Ex}{yF:Ex->Option (List Dv)}{h0:E4}{hs:List E4}(b:Bs M K mg)(h:Fs P w K mg base M.fl k fs)(D:YW P w K mg base p hd.x hd.np i)(O:p<=k)
    (hT:pe st hd.x h0 hs) (T:Hz K mg (AG st) (AD st) hd.n hd.y (h0::hs) yF) (J:∀B l,yF B=_s l->∃hd,oE K (AJ K B.c) hd)
    (c:Pd M fs st ro hd i yF=_t) (U:∀ds,ds.length=(AB st).length->Gs M fs st ro hd i yF ds=F ds) (Fn:m8 K y qual st r fd):kL P w K mg base Dz (k+1) r fd (AB st) (nO K (BW (AB st) [] ro nb F)):=by
  unfold Pd at c;simp only[A1,decide_eq_true_eq]at c;obtain⟨⟨c1,Z⟩,o⟩:=c;cases e:RP M fs st ro hd i yF with
  |none=>rw[e]at o;cases o
  |some cs=>
    rw[e]at o;have S:=DI c1;refine UW (s:=BW (AB st) [] ro nb F) (N:=AG st) (body:=cs.f) (Γn:=cs.Γ) (js:=cs.js) Fn S jL (λ_ z=>nomatch z) Z o (λkY A outer s' H E g=>?_) λds d bs L R=>?_;have ok:j9 (DW M fs st [] ro) (DT Dz P w K mg base (AG st) qual (AD st) r kY A outer s' H E).l0:=⟨rfl,rfl,S.nd,rfl,λ_ _=>rfl,⟨rfl,k,g⟩,λy t q=>by obtain⟨a,b,j,Q,q⟩:=h.2 y t q;exact⟨a,b,j,k,Q,g,q⟩,b.cs,b.bl,rfl,⟨k,h.1.1,g⟩,h.1.2⟩
    unfold RP at e;obtain @⟨s0,rest,x1,xs,pos,p1,p2,p3,G⟩:=hT;rw[GZ,G]at e;rw[G];refine jy e λC e1 e=>?_;refine jy e λlW e2 e=>?_;refine jy e λq1 e3 e=>?_;refine jy e λkR Y e=>?_;refine jy e λq2 V e=>?_;cases e;have v:=(Ck 100).S ok e1;have u:=Pj (pos:=pos) (p1:=p1) (p2:=p2) (p3:=p3) (K:=K) (mg:=mg) (k:=p) (Ck 100) rfl rfl rfl rfl rfl rfl ok D (g.mono O) T J e3;have I:=(Ck 100).Ss ok V;rw[e2]at v;rw[Y]at u;exact IU (f:=C.f) (js:=C.js) v (IU (f:=q1.f) (f2:=q2.f) (js:=q1.js) (js2:=q2.js) u I);have g:=U ds L;unfold Gs at g;rw[e]at g;refine jy (show(F ds).bind _=_s (d,bs)from R) λt e1 e2=>?_;cases e2;refine⟨_,kJ [],t,g.trans e1,λm z=>?_,λd' m z=>?_⟩;have z:_s (Qf [] .kB m)=_s t:=z;cases z;exact⟨KM [] _ m,Jf [] _ m⟩;have z:_s (Qf [] d' m)=_s t:=z;cases z;exact⟨KM [] _ m,Jf [] _ m⟩
theorem Fs.tJ{f ro:Nat}{y:Str}{nb:Bool}{F:List Dv->Option Dv}{hd:qL}{a:List Dv->Option Ex}{yF:Ex->Option (List Dv)}{h0:E4}{hs:List E4}(h:Fs P w K mg base M.fl k fs)(b:Bs M K mg)(D:YW P w K mg base f hd.x hd.np a)(i:f<=k)
    (hT:pe st hd.x h0 hs) (m:Hz K mg (AG st) (AD st) hd.n hd.y (h0::hs) yF) (g:∀e l,yF e=_s l->∃hd,oE K (AJ K e.c) hd)
    (c:Pd M fs st ro hd a yF=_t) (o:∀ds,ds.length=(AB st).length->Gs M fs st ro hd a yF ds=F ds) (d:GF K y st) (hm:mg y=_s (.ref (AJ K y))) (j:Qd y st):Fs P w K mg base M.fl (k+1) ((y,BW (AB st) [] ro nb F)::fs):=
  h.cons jL (λ_ z=>nomatch z) rfl ⟨_,_,Sj b h D i hT m g c o (Iy d),hm,d.2.2.2,(Iy d).binds j⟩
end
def YR(K:W.Frag)(C:A6):Bool:=match K.lookup C with
 |some o=>(match o.data with
  |.cls a=>o.cls==.type "type"&&a.mro.head?==_s (.ref C)&&UP a.mro.tail&&a.hasDict&&!a.hasDel&&(match o.slots.toList with
   |[_,_,_,_,_s (.builtin id),_]=>id==FE
   |_=>_f)
  |_=>_f)
 |none=>_f
variable{fd:G4}{qual:Str}
section
variable{P:D4}{w:E8}{K:W.Frag}{mg:Str->Option A3}{base:F1}{C:A6}{c f q:Str}{st:F0}{M:Md}
theorem GV(h:YR K C=_t):oE K C true:=by
 unfold YR at h;cases ho:K.lookup C with
 |none=>rw[ho]at h;cases h
 |some o=>
  rw[ho]at h;obtain⟨oc,od,p,⟨sl⟩⟩:=o;cases p with
  |cls r=>
   obtain⟨m,j,n,i,g,s,e,d,b,a,l⟩:=r;simp only[A1,G5]at h;obtain⟨⟨⟨⟨⟨h1,h2⟩,h3⟩,h4⟩,h5⟩,h6⟩:=h;have h1:=eq_of_beq h1;cases n with|nil=>cases h2|cons v bm=>have h2:=B2 (eq_of_beq h2);split at h6;rename_i k0 k1 k2 k3 id k5;have h6:=eq_of_beq h6;subst h1 h2 h4 h5 h6;exact⟨m,g,i,j,bm,e,d,b,a,od,k0,k1,k2,k3,k5,ho,h3⟩;cases h6
  |_=>cases h
theorem Tn(h:YR K C=_t):XD K C:=⟨_,GV h⟩
noncomputable def YO(o:Option (Option A3))(id:String):Bool:=match o with
 |some (_s (.builtin x))=>x==id
 |_=>_f
theorem GR{o:Option (Option A3)}{id:String}(h:YO o id=_t):o=_s (_s (.builtin id)):=by unfold YO at h;split at h;rename_i x;rw[eq_of_beq h];cases h
noncomputable def HS(o:Option (Option A3)):Bool:=match o with
 |some _n=>_t
 |_=>_f
theorem KJ{o:Option (Option A3)}(h:HS o=_t):o=_s none:=by unfold HS at h;split at h;rfl;cases h
def aD(K:W.Frag)(c:Str):Bool:=YR K (AJ K c)&&YO (W.findIn K (.ref (AJ K c)) "__setattr__") "object.__setattr__"&&YO (W.findIn K (.ref (AJ K c)) "__getattribute__") "BaseException.__getattribute__"&&HS (W.findIn K (.ref (AJ K c)) "__getattr__")&&YO (W.findIn K (.ref (AJ K c)) "__class__") "object.__class__"&&W.mroIn K (AJ K c) (.type "object")==_s _t&&W.keepIn K (.ref (AJ K c))
def cW(K:W.Frag):Bool:=YO (W.specialIn K (.builtin "object.__class__") "__get__") "getset_descriptor.__get__"&&W.takesIn K (.builtin "object.__class__")==_s _t
structure t8 (K:W.Frag) (C:A6):Prop where
 ex:YR K C=_t
 sa:W.findIn K (.ref C) "__setattr__" = _s (_s (.builtin "object.__setattr__"))
 ga:W.findIn K (.ref C) "__getattribute__" = _s (_s (.builtin "BaseException.__getattribute__"))
 gh:W.findIn K (.ref C) "__getattr__" = _s _n
 ha:W.findIn K (.ref C) "__class__" = _s (_s (.builtin "object.__class__"))
 hm:W.mroIn K C (.type "object")=_s _t
 kp:W.keepIn K (.ref C)=_t
theorem HW(h:aD K c=_t):t8 K (AJ K c):=by unfold aD at h;simp only[A1]at h;obtain⟨⟨⟨⟨⟨⟨h1,h2⟩,h3⟩,h4⟩,h5⟩,h6⟩,h7⟩:=h;exact⟨h1,GR h2,GR h3,KJ h4,GR h5,eq_of_beq h6,h7⟩
theorem t8.kl(g:t8 K C)(a:cW K=_t):qK K C:=by unfold cW at a;rw[A1]at a;exact⟨⟨_,GV g.ex⟩,g.ga,g.gh,g.ha,GR a.1,eq_of_beq a.2,g.hm⟩
theorem t8.cl(g:t8 K C)(h:HS (W.findIn K (.ref C) f)=_t):oF K C f:=⟨GV g.ex,g.sa,g.ga,g.gh,KJ h⟩
theorem OK{C:Cf}(a:X.N=C.N)(hs:X.env.scope=C.sc){i:Nat}{pos:Pos}(h:lv C x=_s i):PE X (.Name x pos) (Bf i):=by unfold lv at h;split at h;rename_i e;rw[A1]at e;have n:=AS e.2;exact EZ (by rw[a];exact Af h) (by rw[hs];exact Fg e.1) n.1 n.2.1;cases h
inductive t4 (M:Md) (st:F0) (f:Str):Prop
 | mk {a b:Str} {p1 p2 p3 p4:Pos} (e:AM st=[.Assign [.Attribute (.Name a p1) f p2] (.Name b p3) p4])
  (h:(Gr (AG st) (AB st) (AD st)&&decide ((AB st).length=2)&&decide ((AG st).length=2)&&(lv (DW M [] st [] 0) a==_s 0)&&(lv (DW M [] st [] 0) b==_s 1))=_t)
theorem Qn{fI:A6}(cl:oF K C f)(g:m8 K x q st fI fd)(hi:t4 M st f):(AB st).length=2/\kL P w K mg base Dz 1 fI fd (AB st) (lL C f):=by
 obtain⟨a,h4⟩:=hi;simp only[A1,decide_eq_true_eq]at h4;refine⟨h4.1.1.1.2,g.ok (k:=0) (DI h4.1.1.1.1) (λvs H Q E z=>?_) λkY A outer s H vs Q E h z=>?_⟩;obtain⟨e,x,ev,_⟩:=z;rw[ev,h4.1.1.1.2];rfl;obtain⟨e,x,ev,d,b⟩:=z;rw[a];refine⟨_,Aw (Rh cl (OK (C:=DW M [] st [] 0) rfl rfl (eq_of_beq h4.1.2)) (OK (C:=DW M [] st [] 0) rfl rfl (eq_of_beq h4.2)) rfl) Cg,?_⟩;subst ev;have es:L2.start (AG st) [.ref e,x]=[_s (.ref e),_s x]:=by unfold L2.start;rw[h4.1.1.2];rfl
 exact⟨e,x,by rw[es];rfl,by rw[es];rfl,d,λdx z y=>b dx z y⟩
inductive tw (st:F0):Prop
 |mk {p:Pos} (e:AM st=[.Pass p]) (h:(Gr (AG st) (AB st) (AD st)&&decide ((AB st).length=1))=_t)
theorem Mf{fI:A6}(d:m8 K x q st fI fd)(hi:tw st):(AB st).length=1/\kL P w K mg base Dz 1 fI fd (AB st) (DH C):=by obtain⟨a,h4⟩:=hi;simp only[A1,decide_eq_true_eq]at h4;refine⟨h4.2,d.ok (k:=0) (DI h4.1) (λvs H Q E z=>?_) λkY A outer s H vs Q E g z=>?_⟩;obtain⟨e,ev,_⟩:=z;rw[ev,h4.2];rfl;obtain⟨e,ev,h,b⟩:=z;rw[a];exact⟨_,Aw Jt Cg,b⟩
abbrev GI(K:W.Frag)(c q:Str)(t:F0):Prop:=W.nsIn K G3 c=_s (_s (.ref (AJ K c)))/\aD K c=_t/\GM K c q "__init__" t
theorem Xk.nil:Xk P w K mg base []:=λ_ _ h=>by cases h
theorem Xk.cons{b:Xs}(h:Xk P w K mg base b)(g:GI K c q st)(hf:HS (W.findIn K (.ref (AJ K c)) f)=_t)(hm:mg c=_s (.ref (AJ K c)))(hi:t4 M st f)(l:Kx "__init__" q st):Xk P w K mg base ((c,f)::b):=λn m j=>by
 rcases E3.mp j with e|e
 cases e;have a:=g.2.2;have gx:=HW g.2.1;have d:m8 K "__init__" q st (SJ K c "__init__") _:=JC a.2.1 a.2.2.1 a.2.2.2.1;have i:=Qn (P:=P) (w:=w) (base:=base) (mg:=mg) (gx.cl hf) d hi;exact⟨_,_,_,⟨gx.cl hf,a.1,⟨_,a.2.1,rfl⟩,gx.kp⟩,i.2,i.1,hm,d.binds l⟩;exact h n m e
def Te(P:D4)(w:E8)(K:W.Frag)(mg:Str->Option A3)(base:F1)(cs:List Str):Prop:=∀c∈cs,∃fI fd ps,pd K (AJ K c) fI/\kL P w K mg base Dz 1 fI fd ps (DH (AJ K c))/\ps.length=1/\mg c=_s (.ref (AJ K c))/\L2.Binds K fd ps []
theorem Te.nil:Te P w K mg base []:=λ_ h=>by cases h
theorem Te.cons{cs:List Str}(h:Te P w K mg base cs)(g:GI K c q st)(hm:mg c=_s (.ref (AJ K c)))(hi:tw st)(j:Kx "__init__" q st):Te P w K mg base (c::cs):=λl d=>by
 rcases E3.mp d with e|e
 cases e;have a:=g.2.2;have gx:=HW g.2.1;have b:m8 K "__init__" q st (SJ K c "__init__") _:=JC a.2.1 a.2.2.1 a.2.2.2.1;have i:=Mf (P:=P) (w:=w) (base:=base) (mg:=mg) (C:=AJ K c) b hi;exact⟨_,_,_,⟨GV gx.ex,a.1,⟨_,a.2.1,rfl⟩,gx.kp⟩,i.2,i.1,hm,b.binds j⟩;exact h l e
theorem cn{io:List Nat}{ro:Nat}{CX:MX}{e:A6}{kY:A3}{A:F2}{outer:List Env}{s:A5}{H:Hp}{E:XK}(b:Bs M K mg)(h:Fs P w K mg base M.fl k fs)(S:ko (AG st) (AB st) (AD st))(d:kG k (A.deeper (U3 qual (AD st) s.heap.objs.size e kY))) :
    j9 (DW M fs st io ro) (DT CX P w K mg base (AG st) qual (AD st) e kY A outer s H E).l0:=⟨rfl,rfl,S.nd,rfl,λ_ _=>rfl,⟨rfl,k,d⟩,λy t q=>by obtain⟨a,b,j,g,q⟩:=h.2 y t q;exact⟨a,b,j,k,g,d,q⟩,b.cs,b.bl,rfl,⟨k,h.1.1,d⟩,h.1.2⟩
theorem Si{x qual:Str}{m:A6}{fd:G4}{xF:List Dv->Option Ex}(b:Bs M K mg)(h:Fs P w K mg base M.fl k fs)(n:Te P w K mg base Bw)(u:Gr (AG st) (AB st) (AD st)=_t)(t:(AB st).length<=(AG st).length)
    (s:∀ds,ds.length=(AB st).length->Vo M fs BB st ds=xF ds) (v:m8 K x qual st m fd):kL P w K mg base (Qj P w) (k+1) m fd (AB st) (YI K (AB st).length xF):=by
  have S:=DI u;refine Wy (N:=AG st) (xs:=To (cmp 100) (DW M fs st [] 0) BB 100 (FI (AG st).length (AB st).length []) (AM st)) v S t (λkY A outer s' H E j=>?_) λds r o p=>(s ds o).trans p;have ok:j9 (DW M fs st [] 0) (DT (Qj P w) P w K mg base (AG st) qual (AD st) m kY A outer s' H E).l0:=cn b h S j;refine II (GZ 100▸Ck 100) ok rfl (λc f l=>?_) (λc l=>?_) 100 _ _;obtain⟨fI,fd,ps,i,g,e,d,a⟩:=h.1.2 c f l;exact⟨fI,fd,ps,1,i,g,e,j.mono h.1.1,d,a⟩;obtain⟨fI,fd,ps,i,g,e,d,a⟩:=n c l;exact⟨fI,fd,ps,1,i,g,e,j.mono h.1.1,d,a⟩
theorem YW.mk'{np:Nat}{x:Str}{xF:List Dv->Option Ex}(b:Bs M K mg)(h:Fs P w K mg base M.fl k fs)(d:Te P w K mg base Bw)(j:Gr (AG st) (AB st) (AD st)=_t)(i:(AB st).length<=(AG st).length)(hn:(AB st).length=np)
    (g:∀ds,ds.length=(AB st).length->Vo M fs BB st ds=xF ds) (a:GF K x st) (hm:mg x=_s (.ref (AJ K x))) (e:Qd x st):YW P w K mg base (k+1) x np xF:=
  ⟨_,AB st,hn,Si b h d j i g (Iy a),hm,a.2.2.2,(Iy a).binds e⟩
end
end R
namespace My
open PySem L2 R
theorem dy{K:W.Frag}{o:Nat}{r:JV}:AR K (λ_=>_n) o r:=λ_ _ _ _ _ _ _ _ e _=>by cases e
theorem cJ{K:W.Frag}{o:Nat}{r:JV}:AR K (one λ_=>_n) o r:=λ_ _ ds _ _ _ _ _ e _=>by unfold one at e;split at e<;>cases e
theorem fN{K:W.Frag}{o:Nat}{r:JV}:AR K (two λ_ _=>_n) o r:=λ_ _ ds _ _ _ _ _ e _=>by unfold two at e;split at e<;>cases e
def tb:Tb where
 tj:=[⟨.Add,Ay,λX h=>⟨_,Rz X.K,WH⟩⟩,
  ⟨.Mult,Da,λX h=>⟨_,WX,EG λ_ _ h=>by simpa[big,Ti]using h⟩⟩,
  ⟨.Mod,Ca,λX h=>⟨_,WY,EG λ_ _ h=>of_decide_eq_true h⟩⟩,
  ⟨.FloorDiv,QY,λX h=>⟨_,Rw,EG λ_ _ h=>by rw[A1,decide_eq_true_eq,decide_eq_true_eq]at h;exact h⟩⟩,
  ⟨.Pow,QX,λX h=>⟨_,WW,EG λ_ _ h=>by rw[A1,A1,decide_eq_true_eq,decide_eq_true_eq,decide_eq_true_eq]at h;exact⟨h.1.1,h.1.2,h.2⟩⟩⟩]
 nX:=[⟨.Eq,Cr,λX h=>⟨_,L3.qY h.2.choose_spec,Nh⟩⟩,
  ⟨.NotEq,Km,λX h=>⟨_,L3.qV h.2.choose_spec,Nh⟩⟩,
  ⟨.Lt,Xx,λX h=>⟨_,Zo,GL⟩⟩,
  ⟨.Gt,bS,λX h=>⟨_,Zp,GL⟩⟩,
  ⟨.GtE,eV,λX h=>⟨_,Zq,GL⟩⟩,
  ⟨.In,eU,λX h=>⟨_,Q.qW h.2.choose_spec,WE⟩⟩]
 calls:=[⟨"len", 1,1,one Dc,λX h=>⟨_,WD,.inl ⟨_,(MH X.K).or JL,PySem.boot_len⟩⟩⟩,
  ⟨"max", 2,1,two Fy,λX h=>⟨_,Rk,.inl ⟨_,MG h.1,PyProof.Rows.Boot.«max»⟩⟩⟩]
 meths:=[⟨"join", 1, "str", 1,two FB,(.inr (.inl rfl)),λX h=>⟨_,_,PySem.F.plainAttrs_str,PySem.F.slot_str_join,PySem.F.type_str_join,OF X.K,Rl⟩⟩]
 sG:=[⟨"append", 1, "list", Cm,.inl rfl,λX h=>⟨_,_,PySem.F.plainAttrs_list,PySem.F.slot_list_append,PySem.F.type_list_append,Ld,Lc⟩⟩]
 rZ:=[⟨"range", 1,_f,CL,λX h=>⟨_,NH,λtg es p pos ta _ hn hs b hm ha=>by obtain⟨a,rfl⟩:=cg hn;exact LS b hm ha (AO (by simpa using hs))⟩⟩]
 ix:=AX
 sM:=λX h=>⟨_,(cP X.K).or (Zv (cV h)),WG⟩
 sl:=MZ
 rh:=λX h=>⟨_,bx X.K,Zh⟩
 uB:=Td
 rR:=Qx
 lr:=λ_=>_n
 vB:=λX h=>dy
 tr:=λ_=>_n
 rQ:=λX h=>dy
 md:=λ_ _=>_n
 u9:=λX h=>fN
 rv:=Ht
 rn:=λX h=>Rj
 lv:=λ_=>_n
 vA:=λX h=>cJ
 ss:=λ_=>_n
 uu:=λX h=>cJ
 le:=λ_=>_n
 vE:=λX h=>cJ
 gt:=λ_=>_n
 wA:=λX h=>λ_ _ _ _ _ _ _ _ e _=>by cases e
 dz:=λ_=>_n
 wJ:=λX h=>λ_ _ _ _ _ _ _ _ e _=>by cases e
 st:=Bt
 rX:=λX h=>⟨_,RM,Vg⟩
noncomputable def top(i:Nat):F0:=PySem.Challenge.pw_shapefree_k02_refusals.main.body.getD i (.Pass ⟨0,0,0,0⟩)
def MY(i j:Nat):F0:=match top i with|.ClassDef _ _ _ a _ _ _ _ _ _ _=>a.getD j (.Pass ⟨0,0,0,0⟩)|s=>s
noncomputable def fU:List Str:=["at", "name", "word", "most"]
def md:Md:=⟨tb,[],["len", "range", "tuple", "list", "zip", "isinstance", "enumerate", "all", "any", "int", "bool", "str", "sum", "max", "min", "reversed", "sorted", "dict", "repr", "set", "abs", "type", "ord", "chr"],fU,[]⟩
noncomputable def cc:List (Str×kd):=[]
def Gq(a:Dv)(b:Dv)(d1:Dv):Option (Dv):=
(Dc a).bind λj=>(bS j (.int 0)).bind λk=>if k=_t then
(Dc a).bind λi=>(Ca b i).bind λh=>(AX a h).bind λg=>(Ca g (.int 2147483629)).bind λe=>(Da e (.int 31)).bind λc=>(Da (.int 7907) b).bind λf=>(Ay c f).bind λd=>_s d
else
_s d1
def EO(b:Dv)(a:Dv)(d1:Dv):Option (Dv):=
(Dc b).bind λd2=>(Xx a d2).bind λe=>if e=_t then
(AX b a).bind λd=>_s d
else
((Gq b a d1)).bind λc=>_s c
def EN(a:Dv):Option (Dv):=
(QX (.int 10) (.int 18)).bind λc=>(eV a c).bind λb=>if b=_t then
_s a
else
_s (.int 0)
def ER(k a:Dv):Option (Dv):=
(Da (.int 7907) a).bind λj=>(Ay j (.int 13579)).bind λd1=>((EO k a d1)).bind λb=>((EN b)).bind λd=>(Ca b (.int 2147483629)).bind λe=>(Da e (.int 48271)).bind λf=>(Da (.int 40692) a).bind λg=>(Ay f g).bind λi=>(Ca i (.int 2147483646)).bind λc=>(Ay c (.int 1)).bind λh=>_s (.lst [d,h])
theorem Sf:YX md cc (top 12) [] 1 (two ER):=TV 2 `k λ_ _=>by kernel_rfl
def eG:List (Str×kd):=("_law_feed", BW (AB (top 12)) [] 1 _f (two ER))::cc
def BC(a b:Dv):Option (Dv×Dv):=
(AX a (.int 0)).bind λs=>(bS s (.int 0)).bind λt=>if t=_t then
(AX a (.int 0)).bind λd2=>(Ca d2 b).bind λd3=>(AX a (.int 0)).bind λr=>(QY r b).bind λq=>(Bt a (.int 0) q).bind λp=>_s (d3,p)
else
(AX a (.int 1)).bind λo=>(Da o (.int 48271)).bind λn=>(Ca n (.int 2147483647)).bind λd=>(Da d (.int 40692)).bind λl=>(Ay l (.int 30103)).bind λe=>(Ca e (.int 2147483399)).bind λm=>(Ay m (.int 1)).bind λf=>(Bt a (.int 1) f).bind λc=>(Da d (.int 2147483647)).bind λi=>(AX c (.int 1)).bind λj=>(Ay i j).bind λg=>(QY g (.int 8191)).bind λh=>(Ca h b).bind λk=>_s (k,c)
theorem Se:YX md eG (top 13) [0] 1 (two BC):=TV 2 `k λ_ _=>by kernel_rfl
def eF:List (Str×kd):=("_law_take", BW (AB (top 13)) [0] 1 _f (two BC))::eG
def Cc(d:Dv)(b:Dv):Option (Dv×Dv):=
(BC b (.int 26)).bind λa=>(AX (.str [97,98,99,100,101,102,103,104,105,106,107,108,109,110,111,112,113,114,115,116,117,118,119,120,121,122]) a.1).bind λc=>_s (c,a.2)
def Dj(a:Dv):Option (Dv):=
(eU a (.tup [(.str [100,101,102]),(.str [108,101,116]),(.str [116,101,108,108]),(.str [108,111,111,112]),(.str [112,105,99,107]),(.str [99,97,108,108])])).bind λb=>if b=_t then
(Ay a (.str [113])).bind λc=>_s c
else
_s a
def Dk(e:Dv)(k:Dv)(c:Dv)(n:Dv)(b:Dv)(d:Dv):Option (Dv):=
(Da (.int 7) b).bind λo=>(Ay k o).bind λl=>(Ca l (.int 26)).bind λm=>(AX (.str [97,98,99,100,101,102,103,104,105,106,107,108,109,110,111,112,113,114,115,116,117,118,119,120,121,122]) m).bind λp=>aq c λf=>(MZ e _n (_s f)).bind λq=>(Ay q p).bind λt=>aq c λg=>(Ay n b).bind λr=>(Ca r (.int 4)).bind λs=>aq s λh=>(MZ e (_s g) (_s h)).bind λa=>(Ay t a).bind λu=>((Dj u)).bind λi=>SR "list" d (
(Cm d [i]).bind λj=>_s j.2)
def FR(e:Dv)(h:Dv):Option (Bool×Dv):=
(FJ (.int 2)).bind λg=>(AX h g).bind λf=>(Dc f).bind λa=>(Xx a (.int 4)).bind λc=>if c=_t then
(BC e (.int 4)).bind λd=>(Cr d.1 (.int 0)).bind λb=>_s (b,d.2)
else
_s (_f,e)
def Dh(e:Dv)(c:Dv)(d:Dv):Option (Bool×Dv):=
(bS e (.int 1)).bind λa=>if a=_t then
((FR c d)).bind λb=>_s (b.1,b.2)
else
_s (_f,c)
def Di(i:Dv)(h:Dv)(a:Dv):Option (Dv×Dv):=
((Dh i h a)).bind λb=>if b.1=_t then
(FJ (.int 2)).bind λd=>(AX a d).bind λe=>(Ay e (.str [113])).bind λc=>(FJ (.int 1)).bind λf=>(Bt a f c).bind λg=>_s (b.2,g)
else
_s (b.2,a)
def DJ(l g:Dv):Option (Dv×Dv):=
SR "str" (.str []) (
(BC l (.int 4)).bind λf=>(CL [f.1]).bind λs1=>FG s1 ((CW Cc s1 f.2).bind λp6=>(FB (.str []) (.lst p6.1)).bind λd=>(BC p6.2 (.int 26)).bind λe=>(Dc d).bind λk=>(Ay k (.int 1)).bind λi=>(BC e.2 i).bind λc=>(BC c.2 (.int 4)).bind λb=>(CL [g]).bind λh=>(Ls (Dk d e.1 c.1 b.1) h (.lst [])).bind λj=>((Di g b.2 j)).bind λa=>_s (a.2,a.1)))
theorem PB:YX md eF (top 14) [0] 1 (two DJ):=TV 2 `k λ_ _=>by kernel_rfl
def cZ:List (Str×kd):=("_law_names", BW (AB (top 14)) [0] 1 _f (two DJ))::eF
def BU(a g b:Dv):Option (Ex):=
T3 ((Cr a (.int 0)).bind λs=>if s=_t then
_s (⟨"BadText", "at", g⟩:Ex)
else
_n) ((Cr a (.int 0)).bind λr=>if r=_t then
_n
else
T3 ((Cr a (.int 1)).bind λq=>if q=_t then
_s (⟨"Twice", "name", b⟩:Ex)
else
_n) ((Cr a (.int 1)).bind λp=>if p=_t then
_n
else
T3 ((Cr a (.int 2)).bind λo=>if o=_t then
_s (⟨"NoName", "name", b⟩:Ex)
else
_n) ((Cr a (.int 2)).bind λn=>if n=_t then
_n
else
T3 ((Cr a (.int 3)).bind λm=>if m=_t then
_s (⟨"WrongCount", "name", b⟩:Ex)
else
_n) ((Cr a (.int 3)).bind λl=>if l=_t then
_n
else
T3 ((Cr a (.int 4)).bind λk=>if k=_t then
_s (⟨"NoWorld", "word", b⟩:Ex)
else
_n) ((Cr a (.int 4)).bind λj=>if j=_t then
_n
else
T3 ((Cr a (.int 5)).bind λh=>if h=_t then
_s (⟨"TooLong", "most", g⟩:Ex)
else
_n) ((Cr a (.int 5)).bind λi=>if i=_t then
_n
else
T3 ((Cr a (.int 6)).bind λf=>if f=_t then
_s (⟨"TooMany", "most", g⟩:Ex)
else
_n) ((Cr a (.int 6)).bind λe=>if e=_t then
_n
else
T3 ((Cr a (.int 7)).bind λd=>if d=_t then
_s (⟨"NoStep", "", Dv.kB⟩:Ex)
else
_n) ((Cr a (.int 7)).bind λc=>if c=_t then
_n
else
_s (⟨"NoRow", "", Dv.kB⟩:Ex)))))))))
theorem Lw:∀ds,ds.length=(AB (top 15)).length->Vo md cZ BB (top 15) ds=DG BU ds:=TV 3 `k λ_ _ _=>by kernel_rfl
def EE(a k j:Dv):Option (Dv):=
(Cr a (.int 0)).bind λi=>if i=_t then
_n
else
(Cr a (.int 1)).bind λh=>if h=_t then
_n
else
(Cr a (.int 2)).bind λg=>if g=_t then
_n
else
(Cr a (.int 3)).bind λf=>if f=_t then
_n
else
(Cr a (.int 4)).bind λe=>if e=_t then
_n
else
(Cr a (.int 5)).bind λd=>if d=_t then
_n
else
(Cr a (.int 6)).bind λc=>if c=_t then
_n
else
(Cr a (.int 7)).bind λb=>if b=_t then
_n
else
_n
theorem Oz:YX md cZ (top 15) [] 1 (DG EE):=TV 3 `k λ_ _ _=>by kernel_rfl
def cY:List (Str×kd):=("_law_raise", BW (AB (top 15)) [] 1 _t (DG EE))::cZ
noncomputable def ID:List HK:=[⟨"BadText", 0,_s "at"⟩,⟨"Twice", 1,_s "name"⟩,⟨"NoName", 2,_s "name"⟩,⟨"WrongCount", 3,_s "name"⟩,⟨"NoWorld", 4,_s "word"⟩,⟨"TooLong", 5,_s "most"⟩,⟨"TooMany", 6,_s "most"⟩,⟨"NoStep", 7,_n⟩,⟨"NoRow", 8,_n⟩]
noncomputable def YQ:qL:=⟨"_law_raise", "_law_e", "_law_found", 3⟩
def GG(c b a:Dv):Option (Dv):=match BU c b a with
|some r=>(yK ID r).bind λl=>_s (Dv.lst l)
|none=>(EE c b a).bind λd=>bif Qe d then _s Dv.kB else _n
theorem PZ:Pd md cY (top 16) 0 YQ (DG BU) (yK ID)=true:=by kernel_rfl
theorem PN:∀ds,ds.length=(AB (top 16)).length->Gs md cY (top 16) 0 YQ (DG BU) (yK ID) ds=DG GG ds:=TV 3 `k λ_ _ _=>by kernel_rfl
def cX:List (Str×kd):=("_law_kept", BW (AB (top 16)) [] 0 _f (DG GG))::cY
noncomputable def XS:List Str:=["BadText", "Twice", "NoName", "WrongCount", "NoWorld", "TooLong", "TooMany", "NoStep", "NoRow"]
noncomputable def eJ:List Str:=["BadText", "Twice", "NoName", "WrongCount", "NoWorld", "TooLong", "TooMany", "NoStep", "NoRow", "ValueError"]
def yC(r:Ex):Option (List Dv):=bif XS.contains r.c then _s (eJ.map λd=>Dv.bl (d==r.c||d == "ValueError"))else _n
def Cd(c b a:Dv):Option (Dv):=match BU c b a with
|some r=>(yC r).bind λl=>_s (Dv.lst l)
|none=>(EE c b a).bind λd=>bif Qe d then _s (Dv.lst [])else _n
theorem Hj:Pd md cX (top 17) 0 YQ (DG BU) yC=true:=by kernel_rfl
theorem Hg:∀ds,ds.length=(AB (top 17)).length->Gs md cX (top 17) 0 YQ (DG BU) yC ds=DG Cd ds:=TV 3 `k λ_ _ _=>by kernel_rfl
def eE:List (Str×kd):=("_law_classes", BW (AB (top 17)) [] 0 _f (DG Cd))::cX
def CK(a:Dv):Option Dv:=
(JE a "at").bind λb=>_s b
def CJ(a:Dv):Option Dv:=
(JE a "most").bind λb=>_s b
def BO(b:Dv)(a:Dv)(d1:Dv)(d3:Dv):Option (Bool):=
(items (.lst [d1,d3])).bind λd=>FG d ((Cq CK d).bind λf=>(Km (.lst f) (.lst [b,a])).bind λj=>if j=_t then
_s _t
else
(HL "TooLong" "most" [b]).bind λh=>(HL "TooLong" "most" [a]).bind λi=>(items (.lst [h,i])).bind λc=>FG c ((Cq CJ c).bind λe=>(Km (.lst e) (.lst [b,a])).bind λg=>_s g))
def CH(a:Dv):Option Dv:=
(JE a "most").bind λb=>_s b
def BQ(b:Dv):Option Dv:=
(JE b "name").bind λa=>_s a
def CF(b:Dv):Option Dv:=
(JE b "name").bind λa=>_s a
def CD(b:Dv):Option Dv:=
(JE b "word").bind λa=>_s a
def An(c b a:Dv):Option (Dv):=
(HL "BadText" "at" [c]).bind λd1=>(HL "BadText" "at" [b]).bind λd3=>((BO c b d1 d3)).bind λG=>if G=_t then
_s (.bl _f)
else
(HL "TooMany" "most" [b]).bind λH=>(HL "TooMany" "most" [c]).bind λI=>(items (.lst [H,I])).bind λq=>FG q ((Cq CH q).bind λu=>(Km (.lst u) (.lst [b,c])).bind λy=>if y=_t then
_s (.bl _f)
else
(AX a (.int 0)).bind λJ=>(HL "Twice" "name" [J]).bind λz=>(AX a (.int 1)).bind λm=>(HL "Twice" "name" [m]).bind λl=>(AX a (.int 1)).bind λk=>(HL "NoName" "name" [k]).bind λA=>(items (.lst [z,l,A])).bind λr=>FG r ((Cq BQ r).bind λv=>(MZ a (_s 1) _n).bind λB=>(Ay a B).bind λC=>(Km (.lst v) C).bind λp=>if p=_t then
_s (.bl _f)
else
(AX a (.int 0)).bind λD=>(HL "WrongCount" "name" [D]).bind λE=>(AX a (.int 1)).bind λF=>(HL "WrongCount" "name" [F]).bind λj=>(items (.lst [E,j])).bind λs=>FG s ((Cq CF s).bind λw=>(Km (.lst w) a).bind λo=>if o=_t then
_s (.bl _f)
else
(AX a (.int 1)).bind λi=>(HL "NoWorld" "word" [i]).bind λh=>(AX a (.int 0)).bind λg=>(HL "NoWorld" "word" [g]).bind λf=>(items (.lst [h,f])).bind λt=>FG t ((Cq CD t).bind λx=>(FJ (.int 1)).bind λe=>(Ht a e).bind λd=>(Cr (.lst x) d).bind λn=>_s (.bl n)))))
theorem FH:YX md eE (top 18) [] 1 (DG An):=TV 3 `k λ_ _ _=>by kernel_rfl
def fR:List (Str×kd):=("_law_side_by_side", BW (AB (top 18)) [] 1 _t (DG An))::eE
def GD(g:Dv)(d:Dv):Option (Dv×Dv):=
(BC d (.int 3)).bind λc=>(QX (.int 10) (.int 9)).bind λf=>(BC c.2 f).bind λa=>(BC a.2 (.int 2)).bind λb=>(AX (.lst [c.1,a.1]) b.1).bind λe=>_s (e,b.2)
def NR(c:Dv)(b:Dv):Option Dv:=
(Cr b c).bind λa=>_s (.bl a)
def GE(b:Dv)(c:List Dv)(a:Dv)(q:Unit):Option (Lp Dv (Unit) (Unit)):=
(AX b a).bind λl=>(AX (.lst c) a).bind λm=>(AX (.lst [(.int 1),(.int 0),(.int 0),(.int 0),(.int 0),(.int 1),(.int 1),(.int 2),(.int 2)]) a).bind λr=>(AX (.lst [l,m,Dv.kB]) r).bind λj=>(AX (.lst c) a).bind λn=>(AX b a).bind λo=>(GG a n o).bind λe=>(Km e (.lst [a,j])).bind λg=>if g=_t then
_s (.rt (.bl _f) ())
else
(AX (.lst c) a).bind λs=>(AX b a).bind λd=>(Cd a s d).bind λi=>(CL [(.int 9)]).bind λf=>FG f ((Cq (NR a) f).bind λk=>(Ay (.lst k) (.lst [(.bl _t)])).bind λp=>(Km i p).bind λh=>if h=_t then
_s (.rt (.bl _f) ())
else
_s (.go ()))
def IT(q:Dv)(j:Dv)(r:Unit):Option (Lp Dv (Unit) (Unit)):=
(ER q j).bind λp=>(DJ p (.int 9)).bind λd=>(CL [(.int 9)]).bind λg=>FG g ((CW GD g d.2).bind λa=>(CL [(.int 9)]).bind λi=>(JD (GE d.1 a.1) i ()).bind λh=>h.el (fun(n:Unit)=>(AX (.lst a.1) (.int 0)).bind λc=>(AX (.lst a.1) (.int 1)).bind λk=>(Ay k (.int 1)).bind λl=>(MZ d.1 _n (_s 2)).bind λm=>(An c l m).bind λf=>bif Qe f then
(Td f).bind λe=>if(!e)=_t then
_s (.rt (.bl _f) ())
else
_s (.go ())
else _n) fun(b:Dv) (o:Unit)=>_s (.rt b ()))
def RO(b:Dv):Option (Dv):=
(MZ b _n (_s 3)).bind λg=>(Dc g).bind λd1=>(Fy (.int 1) d1).bind λd2=>(CL [d2]).bind λe=>(JD (IT b) e ()).bind λc=>c.el (fun(d:Unit)=>_s (.bl _t)) fun(a:Dv) (f:Unit)=>_s a
theorem aL:YX md fR (top 19) [] 1 (one RO):=TV 1 `k λ_=>by kernel_rfl
end My
namespace R
open PySem L2
def Fd(x:Dv):Prop:=∃a b:Int,x=.lst [.int a,.int b]
def Tx(N:Nat)(x:Dv):Prop:=∃l,x=.str l/\l.length<=N/\∀c∈l,c < 128
theorem Tx.mono{N M:Nat}{x:Dv}(h:Tx N x)(le:N<=M):Tx M x:=let ⟨l,e,h1,h2⟩:=h;⟨l,e,C3 h1 le,h2⟩
variable{α:Type}
section
variable{γ τ ρ:Type}
theorem Fj(g:Dv->γ->Option (Dv×γ))(P:γ->Prop)(R:Dv->Prop):∀(xs:List Dv)(c:γ),P c->(∀x∈xs,∀c,P c->∃d b,g x c=_s (d,b)/\R d/\P b)->∃ds b,CW g xs c=_s (ds,b)/\ds.length=xs.length/\(∀d∈ds,R d)/\P b
 |[],c,e,_=>⟨[],c,rfl,rfl,λ_ z=>(Q0 z).elim,e⟩
 |x::xs,c,e,h=>by
  obtain⟨d,k,e1,i,p1⟩:=h x B8 c e;obtain⟨ds,j,e2,l2,f,p2⟩:=Fj g P R xs k p1 λy a=>h y (B5 _ a);refine⟨d::ds,j,by simp only[CW,e1,e2,A2],by rw[F5,F5,l2],λy a=>?_,p2⟩;rcases E3.mp a with rfl|a
  exact i;exact f y a
theorem Ha(g:Dv->γ->Option γ)(I:Nat->γ->Prop):∀(xs:List Dv)(k:Nat)(c:γ),I k c->(∀i x,xs[i]?=_s x->∀c,I (k+i) c->∃b,g x c=_s b/\I (k+i+1) b)->∃b,Ls g xs c=_s b/\I (k+xs.length) b
 |[],k,c,a,_=>⟨c,rfl,a⟩
 |x::xs,k,c,a,h=>by
  obtain⟨f,e1,i1⟩:=h 0 x rfl c a;obtain⟨e,e2,i2⟩:=Ha g I xs (k+1) f i1 λi y d c a=>by have:=h (i+1) y d c (by rw[show k+(i+1)=k+1+i by omega];exact a);rw[show k+(i+1)+1=k+1+i+1 by omega]at this;exact this
  exact⟨e,by simp only[Ls,e1,e2,A2],by rw[F5,show k+(xs.length+1)=k+1+xs.length by omega];exact i2⟩
theorem JF{xs:List Dv}{o:Option α}(h:xs.length<=1000000):FG xs o=o:=by unfold FG;rw[if_pos h]
end
theorem Ko(xs:List α)(i:Nat)(h:i < xs.length):EJ xs (i:Int)=_s xs[i]:=by unfold EJ OT;rw[if_pos `o,if_pos `o];simp[h]
theorem Kp{xs:List α}{i:Int}(h0:0<=i)(h:i < xs.length):∃x∈xs,EJ xs i=_s x:=by obtain⟨n,rfl⟩:∃n:Nat,i=n:=⟨i.toNat,by omega⟩;exact⟨xs[n]'`o,Z1 _,Ko xs n `o⟩
theorem ay{l:List Nat}{i:Int}(h0:0<=i)(h:i < l.length)(a:l.length<=1000000):∃c∈l,AX (.str l) (.int i)=_s (.str [c]):=by obtain⟨c,b,e⟩:=Kp h0 h;exact⟨c,b,by simp only[AX,if_pos a,e,G8]⟩
theorem Ji{n:Int}(h0:-1000000000<=n)(h:n<=1000000000):CL [.int n]=_s ((D0 n.toNat).map λk=>.int (k:Nat)):=by
 have:small n=true:=by unfold small;simp[h0,h]
 simp only[CL,this,cond_true,iG]
theorem cR(xs:List Dv)(o:Option α):SR "list" (.lst xs) o=o:=rfl
theorem cQ(l:List Nat)(o:Option α):SR "str" (.str l) o=o:=rfl
theorem dC{R:Type}(i:Int)(k:Int->Option R):aq (.int i) k=k i:=rfl
theorem au{xs:List Dv}{y:Dv}(h:xs.length<=1000000):Cm (.lst xs) [y]=_s (.kB,.lst (xs++[y])):=by simp only[Cm,if_pos h]
theorem Sl{xs:List α}{lo hi:Option Int}{x:α}(h:x∈Bu xs lo hi):x∈xs:=List.mem_of_mem_drop (List.mem_of_mem_take h)
theorem PX(l:List Nat)(lo hi:Option Int):PY l lo hi=Bu l lo hi:=rfl
theorem Cu:∀ls:List (List Nat),BN (ls.map Dv.str)=_t
 |[]=>rfl
 |x::xs=>by simp only[F3,BN,Dv.cmp,Cu xs,M8]
theorem Ct:∀ls:List (List Nat),Bx (ls.map Dv.str)=0
 |[]=>rfl
 |x::xs=>by simp only[F3,Bx,Dv.dep,Ct xs];rfl
theorem Dq(x:List Nat):∀ls:List (List Nat),HP (.str x) (ls.map Dv.str)=ls.contains x
 |[]=>rfl
 |y::ys=>by
  have:=Dq x ys;simp only[HP]at this;simp only[HP,F3,Y2,this,W4,kr];by_cases e:y=x;subst e;simp;have e2:¬x=y:=λz=>e z.symm;have h1:(y==x)=false:=by simpa using e
  have h2:(x==y)=false:=by simpa using e2
  rw[h1,h2]
theorem ao(neg:Bool)(x:List Nat)(ls:List (List Nat)):JS neg (.str x) (.lst (ls.map Dv.str))=_s (if neg=_t then !ls.contains x else ls.contains x):=by simp only[JS,bh,Dv.cmp,Cu,Ct,M8,N5,decide_true,if_true,Dq]
theorem MT(neg:Bool)(x:List Nat)(ls:List (List Nat)):JS neg (.str x) (.tup (ls.map Dv.str))=_s (if neg=_t then !ls.contains x else ls.contains x):=by simp only[JS,bh,Dv.cmp,Cu,Ct,M8,N5,decide_true,if_true,Dq]
theorem Hv(i j:Int):Ay (.int i) (.int j)=_s (.int (i+j)):=rfl
theorem Hu(i j:Int)(h:0 < j):Ca (.int i) (.int j)=_s (.int (i % j)):=by simp only[Ca,Bm,h,decide_true,if_true]
theorem TY(i j:Int):Cr (.int i) (.int j)=_s (decide (i=j)):=by simp only[JT,Dv.cmp,Dv.dep,M8,N5,decide_true,if_true,kr,D5,if_false];congr 1
theorem Tx.add{N M:Nat}{x y:Dv}(h:Tx N x)(h':Tx M y)(f:N+M<=1000000):∃z,Ay x y=_s z/\Tx (N+M) z:=by
 obtain⟨l,rfl,h1,h2⟩:=h;obtain⟨b,rfl,e,d⟩:=h';refine⟨.str (l++b),by simp only[Ay,if_pos (show l.length+b.length<=1000000 by omega)],_,rfl,by rw[G2];omega,λc a=>?_⟩;rcases D8.mp a with a|a
 exact h2 c a;exact d c a
theorem FN:∀ls:List (List Nat),FO (ls.map Dv.str)=_s ls
 |[]=>rfl
 |x::xs=>by simp only[F3,FO,FN xs,G8]
theorem Ir:∀{xs:List Dv},(∀x∈xs,∃c,x=.str [c]/\c < 128)->xs.length<=1000->∃z,FB (.str []) (.lst xs)=_s z/\Tx xs.length z:=by
 intro xs h j;have:∃cs:List Nat,xs=(cs.map λc=>[c]).map Dv.str/\∀c∈cs,c < 128:=by
  clear j;induction xs with
  |nil=>exact⟨[],rfl,λ_ z=>by cases z⟩
  |cons x xs f=>
   obtain⟨cs,e,h2⟩:=f λy i=>h y (B5 _ i);obtain⟨c,rfl,l⟩:=h x B8;refine⟨c::cs,by rw[e];rfl,λd hd=>?_⟩;rcases E3.mp hd with rfl|hd
   exact l;exact h2 d hd
 obtain⟨cs,e,h2⟩:=this;have g:xs.length=cs.length:=by rw[e];simp
 have k:∀cs:List Nat,jn [] (cs.map λc=>[c])=cs:=by
  intro cs;cases cs with
  |nil=>rfl
  |cons a b=>
   show[a]++((b.map λc=>[c]).flatMap λy=>[]++y)=a::b;have:∀b:List Nat,((b.map λc=>[c]).flatMap λy=>[]++y)=b:=by
    intro b;induction b with|nil=>rfl|cons x y f=>simp only[F3,List.flatMap_cons,f];rfl
   rw[this];rfl
 have hs:((cs.map λc=>[c]).map X1).sum=cs.length:=by
  clear e h2 g;induction cs with|nil=>rfl|cons a b f=>rw[F3,F3,List.sum_cons,f];simp;omega
 rw[e];refine⟨.str cs,?_,cs,rfl,by simp,h2⟩;simp only[FB,FN,k];rw[if_pos (by rw[hs];simp;omega)]
end R
namespace My
open PySem L2 R
variable{f:Dv}
theorem Am(o:Fd f){n:Int}(h0:0 < n)(h1:n < 1073741824):∃(r:Nat)(i:Dv),BC f (.int n)=_s (.int r,i)/\(r:Int) < n/\Fd i:=by
 obtain⟨a,b,rfl⟩:=o;have g:∀x y:Dv,AX (.lst [x,y]) (.int 0)=_s x:=λ_ _=>rfl;have i1:∀x y:Dv,AX (.lst [x,y]) (.int 1)=_s y:=λ_ _=>rfl;have s0:∀x y d:Dv,Bt (.lst [x,y]) (.int 0) d=_s (.lst [d,y]):=λ_ _ _=>rfl;have s1:∀x y d:Dv,Bt (.lst [x,y]) (.int 1) d=_s (.lst [x,d]):=λ_ _ _=>rfl;have m:∀x:Int,∃r:Nat,x % n=r/\(r:Int) < n:=λx=>⟨(x % n).toNat,by have:=U0 x (show n≠0 by omega);omega,by have:=U0 x (show n≠0 by omega);have:=W8 x h0;omega⟩;have j:big 48271=true:=by decide
 have k:big 40692=true:=by decide
 have l:big 2147483647=true:=by decide
 unfold BC;simp only[g,A2,DY,Xx];by_cases h:0 < a;obtain⟨r,e,c⟩:=m a;refine⟨r,.lst [.int (a / n),.int b],?_,c,a / n,b,rfl⟩;simp only[h,decide_true,if_true,Ca,QY,Bm,h0,h1,M8,A2,g,s0,e];simp only[h,decide_false,D5,if_false,i1,s1,Da,j,k,l,Z9,if_true,A2,Ca,QY,Bm,Ay,h0,decide_true,show(0:Int) < 2147483647 by decide,show(0:Int) < 2147483399 by decide,show(0:Int) < 8191 by decide,show(8191:Int) < 1073741824 by decide,M8];obtain⟨r,e,c⟩:=m (((b * 48271 % 2147483647) * 2147483647+((b * 48271 % 2147483647 * 40692+30103) % 2147483399+1)) / 8191);exact⟨r,_,by rw[e],c,_,_,rfl⟩
theorem Lu{ns:List Int}{k:Nat}:∃f,ER (.k8 ns) (.int k)=_s f/\Fd f:=by
 have a:big 7907=true:=by decide
 have n:big 2147483629=true:=by decide
 have m:big 31=true:=by decide
 have l:big 48271=true:=by decide
 have j:big 40692=true:=by decide
 have i:∃c:Int,EO (.k8 ns) (.int k) (.int (7907 * k+13579))=_s (.int c):=by unfold EO Gq;simp only[Dc,A2,DY,Xx];by_cases h:(k:Int) < ns.length;simp only[h,decide_true,if_true,AX,Ko ns k `o,G8,A2];exact⟨_,rfl⟩;simp only[h,decide_false,D5,if_false];by_cases h2:0 < (ns.length:Int);have e:=U0 (k:Int) (show(ns.length:Int)≠0 by omega);have b:=W8 (k:Int) h2;obtain⟨x,_,ex⟩:=Kp e b;simp only[h2,decide_true,if_true,Ca,Bm,A2,AX,ex,G8,Da,a,m,iH,Z9,Ay,show(0:Int) < 2147483629 by decide];exact⟨_,rfl⟩;simp only[h2,decide_false,D5,if_false];exact⟨_,rfl⟩
 obtain⟨c,e⟩:=i;have g:∃d:Int,EN (.int c)=_s (.int d):=by unfold EN;simp only[QX,Bm,show(decide ((0:Int)<=18)&&decide ((18:Int)<=1000000)&&decide ((10:Int).natAbs < 2 ^ 64))=_t by decide,if_true,A2,DY,Xx];split<;>exact⟨_,rfl⟩
 obtain⟨d,e2⟩:=g;unfold ER;simp only[Da,a,l,j,iH,Z9,if_true,A2,Ay,e,e2,Ca,Bm,show(0:Int) < 2147483629 by decide,show(0:Int) < 2147483646 by decide,decide_true];exact⟨_,rfl,_,_,rfl⟩
noncomputable abbrev dF:List Nat:=[97,98,99,100,101,102,103,104,105,106,107,108,109,110,111,112,113,114,115,116,117,118,119,120,121,122]
theorem Xz:∀c∈dF,c < 128:=by decide
theorem OL{i:Int}(h0:0<=i)(h:i < 26):∃c,AX (.str dF) (.int i)=_s (.str [c])/\c < 128:=by obtain⟨c,a,e⟩:=ay (l:=dF) h0 (show i < ((26:Nat):Int) by omega) `d;exact⟨c,e,Xz c a⟩
theorem GC{c:Nat}(h:c < 128):Tx 1 (.str [c]):=⟨[c],rfl,by simp,λd hd=>by rw[G6]at hd;subst hd;exact h⟩
theorem LH(l:Fd f)(xs:List Dv)(m:xs.length<=1000):∃z a,(∃ds,CW Cc xs f=_s (ds,a)/\FB (.str []) (.lst ds)=_s z)/\Tx xs.length z/\Fd a:=by
 obtain⟨ds,a,e,j,hd,b⟩:=Fj Cc Fd (λd=>∃c,d=.str [c]/\c < 128) xs f l λx _ c g=>by obtain⟨r,a,e,k,b⟩:=Am g (n:=26) `d `d;obtain⟨c,e2,g⟩:=OL (i:=r) `o k;exact⟨.str [c],a,by unfold Cc;simp only[e,e2,A2],⟨c,rfl,g⟩,b⟩
 obtain⟨z,e2,h⟩:=Ir hd `o;exact⟨z,a,⟨ds,e,e2⟩,by rw[j]at h;exact h,b⟩
theorem aP{a:Type}(xs:List a)(r:Nat):(Bu xs _n (_s (r:Int))).length<=r:=by unfold Bu;rw[N3];unfold HT.kH;simp only[];split<;>omega
theorem ck{a:Type}(xs:List a)(r:Nat)(h:Option Int):(Bu xs (_s (r:Int)) h).length<=xs.length-r:=by
 unfold Bu;rw[N3,Y8];have:HT.kH xs.length 0 (_s (r:Int))=min r xs.length:=by unfold HT.kH;simp only[];split<;>omega
 omega
theorem dY{N:Nat}{l:List Nat}(d:l.length<=1000000)(h:∀c∈l,c < 128){lo hi:Option Int}(a:(Bu l lo hi).length<=N):∃y,MZ (.str l) lo hi=_s y/\Tx N y:=
 ⟨.str (PY l lo hi),by simp only[MZ,if_pos d],_,rfl,by rw[PX];exact a,λc b=>h c (Sl (by rw[<- PX];exact b))⟩
variable{x:Dv}
theorem Ij(h:Tx 4 x):∃y,Dj x=_s y/\Tx 5 y:=by obtain⟨l,rfl,h1,h2⟩:=id h;unfold Dj;have e:=MT _f l [[100,101,102],[108,101,116],[116,101,108,108],[108,111,111,112],[112,105,99,107],[99,97,108,108]];simp only[F3,Z7,D5,if_false]at e;simp only[e,A2];split;obtain⟨z,e1,a⟩:=h.add (GC (c:=113) `d) `d;exact⟨z,by rw[e1];rfl,a⟩;exact⟨_,rfl,h.mono `d⟩
theorem Ii(hf:Fd f){n:Nat}(h2:2<=n)(hn:n<=1000):∃ns d,DJ f (.int n)=_s (.lst ns,d)/\ns.length=n/\(∀x∈ns,Tx 5 x)/\Fd d:=by
 obtain⟨t,f1,e1,b1,A⟩:=Am hf (n:=4) `d `d;have er:CL [.int t]=_s ((D0 (t:Int).toNat).map λk=>.int (k:Nat)):=Ji `o `o;obtain⟨z,f2,⟨ds,e3,e4⟩,u,w⟩:=LH A ((D0 (t:Int).toNat).map λk=>.int (k:Nat)) `w;have u:Tx 3 z:=u.mono `w;obtain⟨g,rfl,hz1,R⟩:=u;obtain⟨T,f7,e7,U,v⟩:=Am w (n:=26) `d `d;have el:Dc (.str g)=_s (.int g.length):=by simp only[Dc,if_pos (show g.length<=1000000 by omega)]
 obtain⟨s,f10,L,yO,vp⟩:=Am v (n:=(g.length:Int)+1) `o `o;obtain⟨Q,O,K,yN,S⟩:=Am vp (n:=4) `d `d;have en:CL [.int n]=_s ((D0 (n:Int).toNat).map λk=>.int (k:Nat)):=Ji `o `o;obtain⟨c,J,ns,rfl,j,m⟩:=Ha (Dk (.str g) (.int T) (.int s) (.int Q)) (λi c=>∃ns,c=.lst ns/\ns.length=i/\∀x∈ns,Tx 5 x) ((D0 (n:Int).toNat).map λk=>.int (k:Nat)) 0 (.lst []) ⟨[],rfl,rfl,λ_ z=>(Q0 z).elim⟩ λi x a c B=>by
  obtain⟨ns,rfl,j,m⟩:=B;rw[C4]at a;have hi:i < n:=by
   rcases Nat.lt_or_ge i n with h|h
   exact h;rw[O4 `w]at a;cases a
  rw[A4 `w]at a;simp only[G8,O6,List.getElem_range]at a;subst a;obtain⟨c,ec,B⟩:=OL (i:=((T:Int)+7 * (i:Nat)) % 26) (U0 _ `d) (W8 _ `d);obtain⟨y1,H,X⟩:=dY `o R (aP g s);obtain⟨y2,G,Y⟩:=X.add (GC B) `o;obtain⟨y3,F,Z⟩:=dY `o R (ck g s (_s (((Q:Int)+(i:Nat)) % 4)));obtain⟨y4,E,zR⟩:=Y.add Z `o;obtain⟨P,D,zQ⟩:=Ij (zR.mono `o);refine⟨.lst (ns++[P]),?_,ns++[P],rfl,by rw[G2,j];rfl,λx a=>?_⟩;have U:big 7=true:=by decide
  unfold Dk;simp only[Da,Bm,U,iH,if_true,A2,Hv,Hu _ _ (show(0:Int) < 26 by decide),Hu _ _ (show(0:Int) < 4 by decide),show decide ((0:Int) < 26)=_t from rfl,show decide ((0:Int) < 4)=_t from rfl,ec,dC,H,F];rw[G];simp only[A2];rw[E];simp only[A2,D,cR,au (show ns.length<=1000000 by omega)];rcases D8.mp a with a|a
  exact m x a;rw[G6]at a;subst a;exact zQ
 have j:ns.length=n:=by rw[j];simp
 have p:∃o d,Di (.int n) O (.lst ns)=_s (d,.lst o)/\o.length=n/\(∀x∈o,Tx 5 x)/\Fd d:=by
  have m2:∃x∈ns,AX (.lst ns) (.int (-2))=_s x:=by refine⟨ns[n-2]'`o,Z1 _,?_⟩;simp only[AX,EJ,OT];rw[if_neg `o,if_pos `o];simp only[A2];rw[show(-2+(ns.length:Int)).toNat=n-2 by omega];exact A4 `o
  obtain⟨x,a,ex⟩:=m2;obtain⟨l,rfl,qo,oY⟩:=id (m x a);have t1:∃(b:Bool)(d:Dv),Dh (.int n) O (.lst ns)=_s (b,d)/\(b=_t->l.length<=3)/\Fd d:=by unfold Dh FR;simp only[DY,Xx,show(1:Int) < n by omega,decide_true,if_true,A2,FJ,ex,Dc,if_pos (show l.length<=1000000 by omega)];split;rename_i ma;obtain⟨r,d,e,_,h⟩:=Am S (n:=4) `d `d;simp only[e,A2,TY];exact⟨_,_,rfl,λ_=>by have:=of_decide_eq_true ma;omega,h⟩;exact⟨_,_,rfl,(λz=>by cases z),S⟩
  obtain⟨b,d,et,C,q⟩:=t1;unfold Di;simp only[et,A2];cases b;exact⟨ns,d,by simp,j,m,q⟩;obtain⟨y,ey,hy⟩:=Tx.add (N:=3) (M:=1) ⟨l,rfl,C rfl,oY⟩ (GC (c:=113) `d) `d;simp only[if_true,FJ,A2,ex,ey,Bt,OT];rw[if_neg `o,if_pos `o];refine⟨_,d,rfl,by rw[C8];exact j,λx a=>?_,q⟩;rcases List.mem_or_eq_of_mem_set a with a|rfl
  exact m x a;exact hy.mono `d
 obtain⟨o,d,I,V,W,q⟩:=p;refine⟨o,d,?_,V,W,q⟩;unfold DJ;simp only[cQ,e1,er,A2];rw[JF `w];simp only[A2,e3,e4,e7,el,Hv,L,K,en];rw[J];simp only[A2,I]
theorem DP{d:Dv}(h:R.kr d d=_t)(c:d.cmp=_t)(hd:d.dep<=150):Km d d=_s false:=by unfold Km JT;rw[if_pos (by rw[c,decide_eq_true hd];rfl),h];rfl
theorem Sg{d:Dv}(h:R.kr d d=_t)(c:d.cmp=_t)(hd:d.dep<=150):Cr d d=_s true:=by unfold Cr JT;rw[if_pos (by rw[c,decide_eq_true hd];rfl),h];rfl
theorem YS(n:Int):R.kr (.int n) (.int n)=true:=by unfold R.kr;exact beq_self_eq_true n
theorem PF(l:List Nat):R.kr (.str l) (.str l)=true:=by unfold R.kr;exact beq_self_eq_true l
theorem eI:R.kr .kB .kB=true:=rfl
theorem PJ:R.kr (.lst []) (.lst [])=true:=rfl
theorem PK{xs:List Dv}(h:R.kr x x=_t)(t:R.kr (.lst xs) (.lst xs)=_t):R.kr (.lst (x::xs)) (.lst (x::xs))=true:=by unfold R.kr R.mQ;rw[h];unfold R.kr at t;rw[t];rfl
def tl(g:Dv)(c:Dv):Option (Lp Dv (Unit) (Unit)):=
 (CL [(Dv.int 9)]).bind λa=>FG a ((Cq (NR g) a).bind λd=>(Ay (Dv.lst d) (Dv.lst [(Dv.bl _t)])).bind λe=>(Km c e).bind λb=>if b=_t then _s (.rt (Dv.bl _f) ())else _s (.go ()))
theorem BL{ns ps:List Dv}{k n:Int}{l:List Nat}{d:Dv}{cs:List Dv}(g:AX (.lst ns) (.int k)=_s (.str l))(c:AX (.lst ps) (.int k)=_s (.int n))(A:AX (.lst [.int 1,.int 0,.int 0,.int 0,.int 0,.int 1,.int 1,.int 2,.int 2]) (.int k)=_s d)(B:AX (.lst [.str l,.int n,.kB]) d=_s x)
    (C:GG (.int k) (.int n) (.str l)=_s (.lst [.int k,x])) (a:R.kr x x=_t) (b:x.cmp=_t) (hd:x.dep=0) (D:Cd (.int k) (.int n) (.str l)=_s (.lst cs)) (E:tl (.int k) (.lst cs)=_s (.go ())):GE (.lst ns) ps (.int k) ()=_s (.go ()):=by
  have e:=DP (d:=.lst [.int k,x]) (PK (YS k) (PK a PJ)) (by simp only[Dv.cmp,BN,b,M8]) (by simp only[Dv.dep,Bx,hd];decide);unfold GE;rw[g,A2,c,A2,A,A2,B,A2,A2,A2,C,A2,e,A2,if_neg B4,A2,A2,D,A2];exact E
theorem BZ{ns ps:List Dv}{n:Int}{l:List Nat}:∀(k:Nat),k < 9->AX (.lst ns) (.int k)=_s (.str l)->AX (.lst ps) (.int k)=_s (.int n)->GE (.lst ns) ps (.int k) ()=_s (.go ())
 |0,_,h1,h2=>BL h1 h2 rfl rfl rfl (YS n) rfl rfl rfl rfl
 |1,_,h1,h2=>BL h1 h2 rfl rfl rfl (PF l) rfl rfl rfl rfl
 |2,_,h1,h2=>BL h1 h2 rfl rfl rfl (PF l) rfl rfl rfl rfl
 |3,_,h1,h2=>BL h1 h2 rfl rfl rfl (PF l) rfl rfl rfl rfl
 |4,_,h1,h2=>BL h1 h2 rfl rfl rfl (PF l) rfl rfl rfl rfl
 |5,_,h1,h2=>BL h1 h2 rfl rfl rfl (YS n) rfl rfl rfl rfl
 |6,_,h1,h2=>BL h1 h2 rfl rfl rfl (YS n) rfl rfl rfl rfl
 |7,_,h1,h2=>BL h1 h2 rfl rfl rfl eI rfl rfl rfl rfl
 |8,_,h1,h2=>BL h1 h2 rfl rfl rfl eI rfl rfl rfl rfl
 |k+9,h,_,_=>absurd h `o
theorem Lg{g:Dv->Option Dv}{a b u v:Dv}(h1:g a=_s u)(h2:g b=_s v):Cq g [a,b]=_s [u,v]:=by unfold Cq;rw[h1,A2];unfold Cq;rw[h2,A2];rfl
theorem cK{g:Dv->Option Dv}{a b c u v w:Dv}(h1:g a=_s u)(h2:g b=_s v)(h3:g c=_s w):Cq g [a,b,c]=_s [u,v,w]:=by unfold Cq;rw[h1,A2,Lg h2 h3];rfl
theorem Du{xs:List Dv}:items (.lst xs)=_s xs:=rfl
theorem LI{a b:Int}{x y:List Nat}:An (.int a) (.int b) (.lst [.str x,.str y])=_s (.bl _t):=by
 have g:∀p q:Int,Km (.lst [.int p,.int q]) (.lst [.int p,.int q])=_s false:=λp q=>DP (PK (YS p) (PK (YS q) PJ)) rfl (M0 rfl);have e3:Km (.lst [.str x,.str y,.str y]) (.lst [.str x,.str y,.str y])=_s false:=DP (PK (PF x) (PK (PF y) (PK (PF y) PJ))) rfl (M0 rfl);have e2:Km (.lst [.str x,.str y]) (.lst [.str x,.str y])=_s false:=DP (PK (PF x) (PK (PF y) PJ)) rfl (M0 rfl);have n:Cr (.lst [.str y,.str x]) (.lst [.str y,.str x])=_s true:=Sg (PK (PF y) (PK (PF x) PJ)) rfl (M0 rfl);have c:∀{e:Type}{u v:Dv}{o:Option e},FG [u,v] o=o:=fun{_ _ _ _}=>JF `s;have h:∀{e:Type}{u v w:Dv}{o:Option e},FG [u,v,w] o=o:=fun{_ _ _ _ _}=>JF `s;have q1:∀d,CK (.mB "BadText" "at" d)=_s d:=λd=>by kernel_rfl
 have q2:∀d,CJ (.mB "TooLong" "most" d)=_s d:=λd=>by kernel_rfl
 have q3:∀d,CH (.mB "TooMany" "most" d)=_s d:=λd=>by kernel_rfl
 have q4:∀d,BQ (.mB "Twice" "name" d)=_s d:=λd=>by kernel_rfl
 have i:∀d,BQ (.mB "NoName" "name" d)=_s d:=λd=>by kernel_rfl
 have q5:∀d,CF (.mB "WrongCount" "name" d)=_s d:=λd=>by kernel_rfl
 have q6:∀d,CD (.mB "NoWorld" "word" d)=_s d:=λd=>by kernel_rfl
 have j:BO (.int a) (.int b) (.mB "BadText" "at" (.int a)) (.mB "BadText" "at" (.int b))=_s false:=by unfold BO;rw[Du,A2,c,Lg (q1 _) (q1 _),A2,g,A2,if_neg B4];unfold HL;rw[A2,A2,Du,A2,c,Lg (q2 _) (q2 _),A2,g,A2]
 have m:AX (.lst [.str x,.str y]) (.int 0)=_s (.str x):=rfl;have i1:AX (.lst [.str x,.str y]) (.int 1)=_s (.str y):=rfl;have s1:MZ (.lst [.str x,.str y]) (_s 1) _n=_s (.lst [.str y]):=rfl;have r:Ay (.lst [.str x,.str y]) (.lst [.str y])=_s (.lst [.str x,.str y,.str y]):=rfl;have l:FJ (.int 1)=_s (.int (-1)):=rfl;have k:Ht (.lst [.str x,.str y]) (.int (-1))=_s (.lst [.str y,.str x]):=rfl;unfold An HL;rw[A2,A2,j,A2,if_neg B4,A2,A2,Du,A2,c,Lg (q3 _) (q3 _),A2,g,A2,if_neg B4];rw[m,A2,A2,i1,A2,A2,A2,A2,Du,A2,h,cK (q4 _) (q4 _) (i _),A2,s1,A2,r,A2,e3,A2,if_neg B4];rw[A2,A2,A2,A2,Du,A2,c,Lg (q5 _) (q5 _),A2,e2,A2,if_neg B4];rw[A2,A2,A2,A2,Du,A2,c,Lg (q6 _) (q6 _),A2,l,A2,k,A2,n,A2]
theorem OA(h:Fd f):∃n c,GD x f=_s (.int n,c)/\Fd c:=by
 obtain⟨e,i,q1,_,h1⟩:=Am h (n:=3) `d `d;obtain⟨d,f2,q2,_,h2⟩:=Am h1 (n:=1000000000) `d `d;obtain⟨a,b,q3,j,h3⟩:=Am h2 (n:=2) `d `d;have p:QX (.int 10) (.int 9)=_s (.int 1000000000):=by kernel_rfl
 unfold GD;rw[q1,A2,p,A2,q2,A2,q3,A2];have g:a=0\/a=1:=by omega
 rcases g with rfl|rfl
 exact⟨e,b,rfl,h3⟩;exact⟨d,b,rfl,h3⟩
theorem FV:∀(xs:List Dv){f:Dv},Fd f->∃(ns:List Int)(b:Dv),CW GD xs f=_s (ns.map Dv.int,b)/\ns.length=xs.length/\Fd b
 |[],f,a=>⟨[],f,rfl,rfl,a⟩
 |x::xs,f,a=>by obtain⟨n,c,q1,h1⟩:=OA (x:=x) a;obtain⟨ns,f2,q2,l2,h2⟩:=FV xs h1;refine⟨n::ns,f2,?_,by rw[F5,l2,F5],h2⟩;unfold CW;rw[q1,A2,q2];rfl
theorem Iw{g:Dv->Unit->Option (Lp Dv Unit Unit)}:∀{xs:List Dv},(∀x∈xs,g x ()=_s (.go ()))->JD g xs ()=_s (.go ())
 |[],_=>rfl
 |x::xs,h=>by unfold JD;rw[h x B8,A2];exact Iw λy m=>h y (B5 _ m)
theorem cA:CL [.int 9]=_s ((D0 9).map λk=>.int (0+(k:Nat))):=rfl
theorem VR{ns:List Int}{k:Nat}:IT (.k8 ns) (.int k) ()=_s (.go ()):=by
 obtain⟨f,q,v⟩:=Lu (ns:=ns) (k:=k);obtain⟨xs,K,q1,l1,a,h1⟩:=Ii v (n:=9) `d `d;obtain⟨ps,f2,q2,l2,h2⟩:=FV ((D0 9).map λk=>Dv.int (0+(k:Nat))) h1;rw[D1,X4]at l2;unfold IT;rw[q,A2,show(Dv.int 9)=.int ((9:Nat):Int)from rfl,q1,A2,show(Dv.int ((9:Nat):Int))=.int 9 from rfl,cA,A2]
 match xs,l1,ps,l2,a with
 |[p,x1,o,j,i,g,d,c,b],_,[u,t,J,I,H,G,F,E,D],_,a=>
  have st:∀x∈[p,x1,o,j,i,g,d,c,b],∃l,x=.str l:=λx m=>by obtain⟨l,e,_⟩:=a x m;exact⟨l,e⟩
  obtain⟨s,rfl⟩:=st p `s;obtain⟨y1,rfl⟩:=st x1 `s;obtain⟨y2,rfl⟩:=st o `s;obtain⟨C,rfl⟩:=st j `s;obtain⟨B,rfl⟩:=st i `s;obtain⟨A,rfl⟩:=st g `s;obtain⟨z,rfl⟩:=st d `s;obtain⟨y,rfl⟩:=st c `s;obtain⟨w,rfl⟩:=st b `s;unfold FG;rw[if_pos `s,q2,A2,A2];rw[Iw λx m=>?_];rw[A2];show(An (.int u) (.int (t+1)) (.lst [.str s,.str y1])).bind _=_;rw[LI];rfl;obtain⟨k,r,rfl⟩:=iF.mp m;rw[L6]at r;rw[iG]
  match k,r with
  |0,_=>exact BZ 0 `d rfl rfl
  |1,_=>exact BZ 1 `d rfl rfl
  |2,_=>exact BZ 2 `d rfl rfl
  |3,_=>exact BZ 3 `d rfl rfl
  |4,_=>exact BZ 4 `d rfl rfl
  |5,_=>exact BZ 5 `d rfl rfl
  |6,_=>exact BZ 6 `d rfl rfl
  |7,_=>exact BZ 7 `d rfl rfl
  |8,_=>exact BZ 8 `d rfl rfl
  |k+9,h=>exact absurd h `o
theorem ON(ns:List Int)(h:ns.length<=63):one RO [Dv.k8 ns]=_s (Dv.bl _t):=by
 show RO (Dv.k8 ns)=_;have e:∃a d1:Dv,∃n:Nat,MZ (.k8 ns) _n (_s 3)=_s a/\Dc a=_s d1/\Fy (.int 1) d1=_s (.int n)/\n<=64:=by
  have b:=aP ns 3;refine⟨_,_,if(((Bu ns _n (_s 3)).map Dv.int).length:Int) > 1 then((Bu ns _n (_s 3)).map Dv.int).length else 1,rfl,rfl,?_,?_⟩
  ·unfold Fy;split
   ·rename_i i j h1 h2;cases h1;cases h2;split<;>rfl
   rename_i h;exact absurd rfl (h _ _ rfl)
  ·rw[D1];have b:(Bu ns _n (_s 3)).length<=3:=b;split<;>omega
 obtain⟨a,d1,n,g,e1,e2,hn⟩:=e;have c:R.small (n:Int)=true:=by unfold R.small;simp;omega
 have d:CL [.int (n:Int)]=_s ((D0 n).map λk=>.int (0+(k:Nat))):=by simp only[CL,c,cond_true];rfl
 unfold RO;rw[g,A2,e1,A2,e2,A2,d,A2];rw[Iw λx m=>?_];rfl;obtain⟨k,_,rfl⟩:=iF.mp m;rw[iG];exact VR
end My
namespace R
open PySem L2 XC
variable{mg:Str->Option A3}
theorem Wt{K:W.Frag}{N:List Str}{sc:G9}{n y:Str}{hs:List E4}{ks:List HK}(H:rL y n hs ks)(ok:oz K mg ks)(o:ks.all (λh=>Cy sc h.dn)=_t):Hz K mg N sc n y hs (yK ks):=λX i j b e q c a hi l g f d p k =>
 ⟨Yw X.K i j ks,UJ c hi (by rw[a];exact g) d l (by rw[a];exact f) H (λh m=>⟨by rw[b];exact ok.xd h m,by rw[b,e];exact ok.md h m,ok.ok h m,HY a ((D6.mp o) h m)⟩),by rw[b];exact Wf ok k⟩
noncomputable abbrev VE:Str := "ValueError"
def Wc(K:W.Frag)(d:Str):V:=if d=VE then .ty "ValueError" else .ref (AJ K d)
def Dy(c d:Str):Bool:=d==c||d==VE
def yG(cs ds:List Str)(r:Ex):Option (List Dv):=bif cs.contains r.c then _s (ds.map λd=>Dv.bl (Dy r.c d))else _n
structure o3 (K:W.Frag) (mg:Str->Option A3) (D:Str) (cs:List Str):Prop where
 xd:XD K (AJ K D)
 md:mg D=_s (.ref (AJ K D))
 ok:Cp D=_t
 bl:∀c∈cs,BJ K (AJ K c) (AJ K D)=_t
 kl:∀c∈cs,qK K (AJ K c)
 mc:∀c∈cs,mg c=_s (.ref (AJ K c))/\Cp c=_t/\c≠VE
 an:∀c∈cs,∀d∈cs,W.kitOne K (.ref (AJ K c)) (.ref (AJ K d))=_s (d==c)
 av:∀c∈cs,W.kitOne K (.ref (AJ K c)) (.type "ValueError")=_s _t
 ve:mg VE=_n
 is:mg "isinstance" = _n
inductive w6 (D n y:Str) (d1 d2 d3:List Str):E4->Prop
 |mk {e1 e2 e3:List Expr} {np q1 q2 q3 q4 q5 q6 q7 q8 q9 q10 q11 q12 q13 hpos:Pos} (i1:ow n e1 d1) (i2:ow n e2 d2) (i3:ow n e3 d3):w6 D n y d1 d2 d3 (.ExceptHandler (_s (.Name D np)) (_s n) [.Assign [.Name y q1] (.List e1 q2) q3,.Assign [.Name y q4] (.BinOp (.Name y q5) .Add (.List e2 q6) q7) q8,.Assign [.Name y q9] (.BinOp (.Name y q10) .Add (.List e3 q11) q12) q13] hpos)
theorem FA{K:W.Frag}{mg:Str->Option A3}{D:Str}{cs:List Str}(ok:o3 K mg D cs){c:Str}(a:c∈cs):∀{ds:List Str},(∀d∈ds,d∈cs\/d=VE)->YY K (AJ K c) (Wc K) ds (ds.map (Dy c))
 |[],_=>rfl
 |d::ds,h=>by
  refine⟨Dy c d,ds.map (Dy c),?_⟩;rcases h d B8 with m|m
  have nv:d≠VE:=(ok.mc d m).2.2;refine⟨.ref (AJ K d),rfl,by unfold Wc;rw[if_neg nv];rfl,?_,FA ok a λx m=>h x (B5 _ m)⟩;rw[ok.an c a d m];unfold Dy;rw[show(d==VE)=_f from beq_eq_false_iff_ne.mpr nv,jN];subst m;refine⟨.type "ValueError", rfl,by unfold Wc;rw[if_pos rfl];rfl,?_,FA ok a λx m=>h x (B5 _ m)⟩;rw[ok.av c a];unfold Dy;rw[beq_self_eq_true,Z9]
theorem Jk{K:W.Frag}{g:G}{H:Hp}:∀(bs:List Bool),AA K g H 0 (bs.map Dv.bl) (bs.map V.bl) j4
 |[]=>AA.nil
 |b::bs=>(AA.cons (by unfold Rep;exact⟨rfl,λ_ z=>z⟩) (Jk bs) λ_ z=>z.elim).iff λa=>⟨λz=>z.elim,λz=>z.elim id id⟩
theorem aC{K:W.Frag}{N:List Str}{sc:G9}{D n y:Str}{cs d1 d2 d3:List Str}{h:E4}(H:w6 D n y d1 d2 d3 h)(ok:o3 K mg D cs)(A:(D::VE :: "isinstance" :: cs).all (Cy sc)=_t)(hd:∀d∈d1++d2++d3,d∈cs\/d=VE)(S:d1.length+d2.length+d3.length<=100) :
    Hz K mg N sc n y [h] (yG cs (d1++d2++d3)):=λX i j hK O hN u o hi x w P M L s=>by
  rw[J0,J0,J0,A1,A1,A1]at A;obtain⟨g1,g2,g3,g4⟩:=A;obtain @⟨e1,e2,e3,np,q1,q2,q3,q4,q5,q6,q7,q8,q9,q10,q11,q12,q13,hpos,i1,i2,i3⟩:=H;subst hK O;have U:∀a d,(d∈d1\/d∈d2\/d∈d3)->∀p,PE (HV X a) (.Name d p) (tC (Wc X.K d)):=λa d m p=>by
    have m':d∈d1++d2++d3:=by rw[D8,D8];rcases m with m|m|m<;>simp[m]
    rcases hd d m' with m|rfl
    obtain⟨G,F,E⟩:=ok.mc d m;unfold Wc;rw[if_neg E];exact Jx (X:=HV X a) (v:=.ref (AJ X.K d)) (HY o ((D6.mp g4) d m)) G rfl (AS F).1;unfold Wc;rw[if_pos rfl];exact Jy (X:=HV X a) (v:=.ty "ValueError") (HY o g2) ok.ve PyProof.Rows.Boot.«ValueError» rfl
  have Q:∀σ:St,σ.length=X.N.length->j < σ.length:=λσ e=>by rw[e];exact(A9.mp x).1
  have I:bC X _ λ_ _ _ D σ H=>j < σ.length/\dk X.K (Wc X.K) i j d1 d2 d3 D σ H:=λa C dx=>Vx (Y:=HV X a) (q1:=q1) (q2:=q2) (q3:=q3) (q4:=q4) (q5:=q5) (q6:=q6) (q7:=q7) (q8:=q8) (q9:=q9) (q10:=q10) (q11:=q11) (q12:=q12) (q13:=q13) u hi (by rw[o];exact w) M x (by rw[o];exact P) L s.symm Q (HY o g3) ok.is i1 i2 i3 (U a);refine⟨_,UK (rest:=[]) (np:=np) (hpos:=hpos) ok.xd (HY o g1) ok.md (AS ok.ok).1 u hi (by rw[o];exact w) I,?_⟩;intro f l g H a dx T De σ r ha fo R B q;unfold yG at r;cases k:cs.contains f.c with
  |false=>rw[k]at r;cases r
  |true=>
    rw[k]at r;have k:=B9.mp k;cases r;have t:YG H dx:=by
      rcases fo with⟨z,_⟩|⟨b,v,z,hb,_⟩
      exact .inl z;exact .inr ⟨b,_,z,hb⟩
    have sub:∀d,(d∈d1\/d∈d2\/d∈d3)->d∈cs\/d=VE:=λd m=>hd d (by rw[D8,D8];rcases m with m|m|m<;>simp[m]);refine⟨ok.bl _ k,by rw[C8];exact B,AJ X.K f.c,_,_,_,⟨a,dx,T,C5 R,ha,t,ok.kl _ k⟩,FA ok k λd m=>sub d (.inl m),FA ok k λd m=>sub d (.inr (.inl m)),FA ok k λd m=>sub d (.inr (.inr m)),by rw[D1,D1,D1];exact S,λp H' J Z V=>?_⟩;refine q _ p H' _ J Z V ?_ (.inr ?_);have:=Jk (K:=X.K) (g:=g) (H:=H') (d1.map (Dy f.c)++d2.map (Dy f.c)++d3.map (Dy f.c));rw[show((d1++d2++d3).map λd=>Dv.bl (Dy f.c d))=(d1.map (Dy f.c)++d2.map (Dy f.c)++d3.map (Dy f.c)).map Dv.bl from by simp[a8,jY,Function.comp_def]];exact this;show((σ.set i (_s (.ref a))).set j (_s (.ref p))).set i _n=_;rw[T4 _ _ s,V1,T4 _ _ s.symm]
def eA(K:W.Frag)(ks:List HK):Bool:=ks.all λh=>aD K h.dn&&Cp h.dn&&(match h.f with|some f=>HS (W.findIn K (.ref (AJ K h.dn)) f)&&!(f==("" : Str))|none=>_t)&&ks.all λh'=>BJ K (AJ K h.dn) (AJ K h'.dn)==(h.dn==h'.dn)
theorem Zu{K:W.Frag}{ks:List HK}(h:eA K ks=_t)(hm:∀h∈ks,mg h.dn=_s (.ref (AJ K h.dn))):oz K mg ks:=by
 have a:=D6.mp h;have go:∀h∈ks,_:=λh m=>by have:=a h m;simp only[A1]at this;exact this
 refine⟨λh m=>Tn (HW (go h m).1.1.1).ex,hm,λh m=>(go h m).1.1.2,λh m f e=>?_,λh m h' m'=>eq_of_beq ((D6.mp (go h m).2) h' m')⟩;have:=(go h m).1.2;rw[e]at this;simp only[A1,G5]at this;exact⟨(HW (go h m).1.1.1).cl this.1,λz=>by rw[z]at this;exact absurd this.2 `d⟩
def cm(K:W.Frag)(D:Str)(cs:List Str):Bool:=YR K (AJ K D)&&Cp D&&cW K&&cs.all λc=>BJ K (AJ K c) (AJ K D)&&aD K c&&Cp c&&!(c==VE)&&(W.kitOne K (.ref (AJ K c)) (.type "ValueError")==_s _t)&&cs.all λd=>W.kitOne K (.ref (AJ K c)) (.ref (AJ K d))==_s (d==c)
theorem aQ{K:W.Frag}{D:Str}{cs:List Str}(h:cm K D cs=_t)(e:mg D=_s (.ref (AJ K D)))(hm:∀c∈cs,mg c=_s (.ref (AJ K c)))(b:mg VE=_n)(hi:mg "isinstance" = _n):o3 K mg D cs:=by
 unfold cm at h;rw[A1,A1,A1]at h;obtain⟨⟨⟨h1,h2⟩,h3⟩,h4⟩:=h;have a:=D6.mp h4;have go:∀c∈cs,_:=λc m=>by have:=a c m;simp only[A1,G5]at this;exact this
 refine⟨Tn h1,e,h2,λc m=>(go c m).1.1.1.1.1,λc m=>(HW (go c m).1.1.1.1.2).kl h3,λc m=>⟨hm c m,(go c m).1.1.1.2,beq_eq_false_iff_ne.mp (go c m).1.1.2⟩,λc m d n=>eq_of_beq ((D6.mp (go c m).2) d n),λc m=>eq_of_beq (go c m).1.2,b,hi⟩
theorem Ya{K:W.Frag}{ks:List HK}(ok:oz K mg ks):∀a l,yK ks a=_s l->∃hd,oE K (AJ K a.c) hd:=λa l e=>by obtain⟨h,m,z⟩:=IH e;rw[<- z];exact(ok.xd h m).hd
theorem Yb{K:W.Frag}{D:Str}{cs ds:List Str}(ok:o3 K mg D cs):∀a l,yG cs ds a=_s l->∃hd,oE K (AJ K a.c) hd:=λa l e=>by
 unfold yG at e;cases hc:cs.contains a.c with|false=>rw[hc]at e;cases e|true=>exact(ok.kl _ (B9.mp hc)).lk
end R
namespace My
open PySem L2 R XC
theorem all_mk{l:W.OpenLaw}{w:E8}{K:W.Frag}{h:F1}{mg:Str->Option A3}{U:A6}(X:K.In h)(G:h.Ns G3 mg)(y:mg "law" = _s (.ref U))(hz:md.bl.all (Eb K)=_t)(i:Eb K VE=_t)(T:eA K ID=_t)(Z:cm K "ShapeError" XS=_t)
    (J:GF K "_law_feed" (top 12))
    (N:GF K "_law_take" (top 13))
    (O:GF K "_law_names" (top 14))
    (d:GF K "_law_raise" (top 15))
    (L:GF K "_law_kept" (top 16))
    (P:GF K "_law_classes" (top 17))
    (R:GF K "_law_side_by_side" (top 18))
    (I:GF K "law" (top 19))
    (E:W.nsIn K G3 "ShapeError" = _s (_s (.ref (AJ K "ShapeError"))))
    (n:GI K "BadText" "BadText.__init__" (MY 2 0))
    (k:GI K "Twice" "Twice.__init__" (MY 3 0))
    (t:GI K "NoName" "NoName.__init__" (MY 4 0))
    (x:GI K "WrongCount" "WrongCount.__init__" (MY 5 0))
    (o:GI K "NoWorld" "NoWorld.__init__" (MY 6 0))
    (p:GI K "TooLong" "TooLong.__init__" (MY 7 0))
    (q:GI K "TooMany" "TooMany.__init__" (MY 8 0))
    (u:GI K "NoStep" "NoStep.__init__" (MY 9 0))
    (j:GI K "NoRow" "NoRow.__init__" (MY 10 0))
    : ∃fd:G4,(∀(s:A5)(v:A3),g8 s fd ⟨[v],[]⟩ [("_law_script", v)])/\∀base:F1,K.In base->base.Ns G3 mg->kL l.prog w K mg base Dz 10 U fd ["_law_script"] (Jg K):=by
  have e:=y.symm.trans (W.mg_of X G I.1);cases e;have b:Bs md K mg:=aj X G rfl hz;have F:mg VE=none:=by unfold Eb at i;split at i;rename_i e;exact W.mg_none_of X G e;cases i
  have mc:∀c∈XS,mg c=_s (.ref (AJ K c)):=λc m=>by
    simp only[XS,E3,Q0,or_false]at m;rcases m with rfl|rfl|rfl|rfl|rfl|rfl|rfl|rfl|rfl
    exact W.mg_of X G n.1;exact W.mg_of X G k.1;exact W.mg_of X G t.1;exact W.mg_of X G x.1;exact W.mg_of X G o.1;exact W.mg_of X G p.1;exact W.mg_of X G q.1;exact W.mg_of X G u.1;exact W.mg_of X G j.1
  have Q:oz K mg ID:=Zu T λh m=>mc h.dn (by simp only[ID,E3,Q0,or_false]at m;rcases m with rfl|rfl|rfl|rfl|rfl|rfl|rfl|rfl|rfl<;>simp[XS])
  have cO:o3 K mg "ShapeError" XS:=aQ Z (W.mg_of X G E) mc F (b.bl "isinstance" (by simp[md]));refine⟨W.fnOf "law" "law" (Aj (top 19)) (AM (top 19)) (AD (top 19)) .none .none .none (Ro K (AJ K "law")) _n (ME K (AJ K "law")) .none,λs v=>.of_eq rfl,λbase _ _=>?_⟩;have a:∀c f,(c,f)∈BB->HS (W.findIn K (.ref (AJ K c)) f)=true:=λc f m=>by
    have z:=D6.mp T;have g:∀h∈ID,∀f,h.f=_s f->HS (W.findIn K (.ref (AJ K h.dn)) f)=true:=λh m f e=>by have:=z h m;rw[e]at this;simp only[A1]at this;exact this.1.2.1
    simp only[BB,E3,Q0,or_false,Prod.mk.injEq]at m;rcases m with⟨rfl,rfl⟩|⟨rfl,rfl⟩|⟨rfl,rfl⟩|⟨rfl,rfl⟩|⟨rfl,rfl⟩|⟨rfl,rfl⟩|⟨rfl,rfl⟩
    exact g ⟨"BadText", 0,_s "at"⟩ (by simp[ID]) _ rfl;exact g ⟨"Twice", 1,_s "name"⟩ (by simp[ID]) _ rfl;exact g ⟨"NoName", 2,_s "name"⟩ (by simp[ID]) _ rfl;exact g ⟨"WrongCount", 3,_s "name"⟩ (by simp[ID]) _ rfl;exact g ⟨"NoWorld", 4,_s "word"⟩ (by simp[ID]) _ rfl;exact g ⟨"TooLong", 5,_s "most"⟩ (by simp[ID]) _ rfl;exact g ⟨"TooMany", 6,_s "most"⟩ (by simp[ID]) _ rfl
  have Y:Xk l.prog w K mg base BB:=(Xk.cons (M:=md) (Xk.cons (M:=md) (Xk.cons (M:=md) (Xk.cons (M:=md) (Xk.cons (M:=md) (Xk.cons (M:=md) (Xk.cons (M:=md) Xk.nil q (a "TooMany" "most" (by simp[BB])) (W.mg_of X G q.1) (.mk rfl `k) (CY 2 `k λ_ _ _ _ _ _ _ _=>by kernel_rfl)) p (a "TooLong" "most" (by simp[BB])) (W.mg_of X G p.1) (.mk rfl `k) (CY 2 `k λ_ _ _ _ _ _ _ _=>by kernel_rfl)) o (a "NoWorld" "word" (by simp[BB])) (W.mg_of X G o.1) (.mk rfl `k) (CY 2 `k λ_ _ _ _ _ _ _ _=>by kernel_rfl)) x (a "WrongCount" "name" (by simp[BB])) (W.mg_of X G x.1) (.mk rfl `k) (CY 2 `k λ_ _ _ _ _ _ _ _=>by kernel_rfl)) t (a "NoName" "name" (by simp[BB])) (W.mg_of X G t.1) (.mk rfl `k) (CY 2 `k λ_ _ _ _ _ _ _ _=>by kernel_rfl)) k (a "Twice" "name" (by simp[BB])) (W.mg_of X G k.1) (.mk rfl `k) (CY 2 `k λ_ _ _ _ _ _ _ _=>by kernel_rfl)) n (a "BadText" "at" (by simp[BB])) (W.mg_of X G n.1) (.mk rfl `k) (CY 2 `k λ_ _ _ _ _ _ _ _=>by kernel_rfl));have mX:Te l.prog w K mg base Bw:=((Te.nil.cons j (W.mg_of X G j.1) (.mk rfl `k) (CY 1 `k λ_ _ _ _ _ _ _=>by kernel_rfl)).cons u (W.mg_of X G u.1) (.mk rfl `k) (CY 1 `k λ_ _ _ _ _ _ _=>by kernel_rfl));have f0:Fs l.prog w K mg base md.fl 2 cc:=Fs.nil `d Y;have f1:=f0.def (nb:=_f) b `k Sf J (W.mg_of X G J.1) (CY 2 `k λ_ _ _ _ _ _ _ _=>by kernel_rfl);have f2:=f1.def (nb:=_f) b `k Se N (W.mg_of X G N.1) (CY 2 `k λ_ _ _ _ _ _ _ _=>by kernel_rfl);have V:=f2.def (nb:=_f) b `k PB O (W.mg_of X G O.1) (CY 2 `k λ_ _ _ _ _ _ _ _=>by kernel_rfl);have f4:=V.def (nb:=_t) b `k Oz d (W.mg_of X G d.1) (CY 3 `k λ_ _ _ _ _ _ _ _ _=>by kernel_rfl);have H:=YW.mk' (np:=3) (xF:=DG BU) b V mX `k (M0 `k) `k Lw d (W.mg_of X G d.1) (CY 3 `k λ_ _ _ _ _ _ _ _ _=>by kernel_rfl);have hT:∃h0 hs,pe (top 16) "_law_raise" h0 hs/\rL "_law_found" "_law_e" (h0::hs) ID:=⟨_,_,⟨rfl⟩,.cons .fld (.cons .fld (.cons .fld (.cons .fld (.cons .fld (.cons .fld (.cons .fld (.cons .cst (.cons .cst .nil))))))))⟩;obtain⟨h0,hs,D,C⟩:=hT;have f5:=f4.tJ (nb:=_f) (hd:=YQ) (yF:=yK ID) b H `d D (Wt C Q `k) (Ya Q) PZ PN L (W.mg_of X G L.1) (CY 3 `k λ_ _ _ _ _ _ _ _ _=>by kernel_rfl);have hU:∃h,pe (top 17) "_law_raise" h []/\w6 "ShapeError" "_law_e" "_law_found" ["BadText", "Twice", "NoName", "WrongCount"] ["NoWorld", "TooLong", "TooMany"] ["NoStep", "NoRow", "ValueError"] h:=⟨_,⟨rfl⟩,.mk (.cons (.cons (.cons (.cons .nil)))) (.cons (.cons (.cons .nil))) (.cons (.cons (.cons .nil)))⟩;obtain⟨h1,B,A⟩:=hU;have f6:=f5.tJ (nb:=_f) (hd:=YQ) (yF:=yC) b H `d B (aC (cs:=XS) A cO `k `d `d) (Yb (ds:=eJ) cO) Hj Hg P (W.mg_of X G P.1) (CY 3 `k λ_ _ _ _ _ _ _ _ _=>by kernel_rfl);have f7:=f6.def (nb:=_t) b `k FH R (W.mg_of X G R.1) (CY 3 `k λ_ _ _ _ _ _ _ _ _=>by kernel_rfl);have S:AB (top 19)=(["_law_script"]:List Str):=by kernel_rfl
  have r:=Wi (ps:=AB (top 19)) (nb:=_t) (by rw[S];rfl) (PU b f7 `k aL (Iy I)) ON;rw[S]at r;exact r
theorem walk{l:W.OpenLaw}{q:D4}{loose:List Str}{XP:(Str->Option A3)->F1->Prop}{YP:E8->F1->Prop}{d:jX}{K:gn->W.Frag}(hn:l.most=_s 63)(c:d.params.defaults=[])
    (g:∀(w:E8)(h:F1),YP w h->(K w.params).In h)
    (F:∀(w:E8)(mg:Str->Option A3)(b:A6)(h:F1),(K w.params).In h->h.Ns G3 mg->mg d.name=_s (.ref b) ->
      ∃fd:G4,(∀(s:A5)(u:A3),g8 s fd ⟨[u],[]⟩ [("_law_script", u)])/\∀base:F1,(K w.params).In base->base.Ns G3 mg->kL l.prog w (K w.params) mg base Dz 10 b fd ["_law_script"] (Jg (K w.params))) :
    W.WalkO q loose XP YP l.row.toRowW d [] (λf vs=>gp f vs):=
  L2.pJ (n:=63) (k:=10) (x := "_law_script") (CX:=λ_=>Dz) (sp:=λw=>Jg (K w.params)) hn `d c ⟨rfl,by decide,by decide,rfl⟩ g F (λ_ _ a ns e j i=>⟨a,ns,rfl,i,e,j,λ_=>rfl⟩) λ_ _ _ _ _ z=>z
abbrev fO(i:Nat)(x:Str)(pm:A3)(a:A6):Obj:=⟨.type "function", _n,.func (W.fnOf x x (Aj (top i)) (AM (top i)) (AD (top i)) .none .none .none pm _n (.ref a) .none),#[]⟩
abbrev SZ(i j:Nat)(x q:Str)(pm:A3)(a:A6):Obj:=⟨.type "function", _n,.func (W.fnOf x q (Aj (MY i j)) (AM (MY i j)) (AD (MY i j)) .none .none .none pm _n (.ref a) .none),#[]⟩
abbrev q14:PySem.Value:=.str "shapefree.errors" 187
abbrev q15:PySem.Value:=.str "law_shapefree_k02_refusals" 428
def KP(P:gn):W.Frag:=[
(3,⟨.type "dict", _n,.dict #[ke P "__name__" 165 q15,ke P "__doc__" 166 .none,ke P "__package__" 167 .none,ke P "__loader__" 168 (.builtin "__main__.__loader__#opaque"),ke P "__spec__" 169 .none,ke P "__annotations__" 170 (.ref 6),ke P "__builtins__" 171 (.ref 4),ke P "__file__" 173 (.str "/claim/cut.py" 172),ke P "__cached__" 174 .none,ke P "ShapeError" 206 (.ref 24),ke P "BadText" 231 (.ref 44),ke P "Twice" 256 (.ref 63),ke P "NoName" 281 (.ref 82),ke P "WrongCount" 306 (.ref 101),ke P "NoWorld" 331 (.ref 120),ke P "TooLong" 356 (.ref 139),ke P "TooMany" 381 (.ref 158),ke P "NoStep" 404 (.ref 177),ke P "NoRow" 427 (.ref 196),ke P "_law_feed" 439 (.ref 205),ke P "_law_take" 449 (.ref 212),ke P "_law_names" 455 (.ref 217),ke P "_law_raise" 464 (.ref 224),ke P "_law_kept" 475 (.ref 231),ke P "_law_classes" 486 (.ref 238),ke P "_law_side_by_side" 492 (.ref 243),ke P "law" 498 (.ref 248)] 27,#[]⟩),
(205,fO 12 "_law_feed" q15 204),
(204,cO "_law_feed" 430 41 2 3 199 200 .none (.ref 201) (.ref 202) 203 437),
(212,fO 13 "_law_take" q15 211),
(211,cO "_law_take" 440 51 2 3 206 207 .none (.ref 208) (.ref 209) 210 447),
(217,fO 14 "_law_names" q15 216),
(216,cO "_law_names" 450 59 2 3 213 214 .none .none .none 215 453),
(224,fO 15 "_law_raise" q15 223),
(223,cO "_law_raise" 456 74 3 3 218 219 .none (.ref 220) (.ref 221) 222 462),
(231,fO 16 "_law_kept" q15 230),
(230,cO "_law_kept" 465 92 3 3 225 226 .none (.ref 227) (.ref 228) 229 473),
(238,fO 17 "_law_classes" q15 237),
(237,cO "_law_classes" 476 115 3 3 232 233 .none (.ref 234) (.ref 235) 236 484),
(243,fO 18 "_law_side_by_side" q15 242),
(242,cO "_law_side_by_side" 487 124 3 3 239 240 .none .none .none 241 490),
(248,fO 19 "law" q15 247),
(247,cO "law" 493 135 1 3 244 245 .none .none .none 246 496),
(44,⟨.type "type", _n,.cls ⟨"BadText", [.ref 24],[.ref 44,.ref 24,.type "ValueError", .type "Exception", .type "BaseException", .type "object"],43, "BadText", _t,[],[],_f,_n,_f⟩,#[_s (.ref 28),_n,_s (.str "BadText" 207),_s (.str "BadText" 215),_s (.builtin "ValueError.__new__"),_s (.bool _t)]⟩),
(43,⟨.type "dict", _n,.dict #[ke P "__module__" 214 q14,ke P "__firstlineno__" 218 (.int 4 217),ke P "__init__" 226 (.ref 41),ke P "__static_attributes__" 228 (.ref 42),ke P "__doc__" 229 .none] 2,#[]⟩),
(24,⟨.type "type", _n,.cls ⟨"ShapeError", [.type "ValueError"],[.ref 24,.type "ValueError", .type "Exception", .type "BaseException", .type "object"],23, "ShapeError", _t,[],[.ref 44,.ref 63,.ref 82,.ref 101,.ref 120,.ref 139,.ref 158,.ref 177,.ref 196],_f,_n,_f⟩,#[_s (.ref 15),_n,_s (.str "ShapeError" 189),_s (.str "ShapeError" 197),_s (.builtin "ValueError.__new__"),_s (.bool _t)]⟩),
(23,⟨.type "dict", _n,.dict #[ke P "__module__" 196 q14,ke P "__firstlineno__" 200 (.int 2 199),ke P "__static_attributes__" 201 (.ref 22),ke P "__weakref__" 203 (.ref 25),ke P "__doc__" 204 .none] 3,#[]⟩),
(63,⟨.type "type", _n,.cls ⟨"Twice", [.ref 24],[.ref 63,.ref 24,.type "ValueError", .type "Exception", .type "BaseException", .type "object"],62, "Twice", _t,[],[],_f,_n,_f⟩,#[_s (.ref 47),_n,_s (.str "Twice" 232),_s (.str "Twice" 240),_s (.builtin "ValueError.__new__"),_s (.bool _t)]⟩),
(62,⟨.type "dict", _n,.dict #[ke P "__module__" 239 q14,ke P "__firstlineno__" 243 (.int 8 242),ke P "__init__" 251 (.ref 60),ke P "__static_attributes__" 253 (.ref 61),ke P "__doc__" 254 .none] 2,#[]⟩),
(82,⟨.type "type", _n,.cls ⟨"NoName", [.ref 24],[.ref 82,.ref 24,.type "ValueError", .type "Exception", .type "BaseException", .type "object"],81, "NoName", _t,[],[],_f,_n,_f⟩,#[_s (.ref 66),_n,_s (.str "NoName" 257),_s (.str "NoName" 265),_s (.builtin "ValueError.__new__"),_s (.bool _t)]⟩),
(81,⟨.type "dict", _n,.dict #[ke P "__module__" 264 q14,ke P "__firstlineno__" 268 (.int 12 267),ke P "__init__" 276 (.ref 79),ke P "__static_attributes__" 278 (.ref 80),ke P "__doc__" 279 .none] 2,#[]⟩),
(101,⟨.type "type", _n,.cls ⟨"WrongCount", [.ref 24],[.ref 101,.ref 24,.type "ValueError", .type "Exception", .type "BaseException", .type "object"],100, "WrongCount", _t,[],[],_f,_n,_f⟩,#[_s (.ref 85),_n,_s (.str "WrongCount" 282),_s (.str "WrongCount" 290),_s (.builtin "ValueError.__new__"),_s (.bool _t)]⟩),
(100,⟨.type "dict", _n,.dict #[ke P "__module__" 289 q14,ke P "__firstlineno__" 293 (.int 16 292),ke P "__init__" 301 (.ref 98),ke P "__static_attributes__" 303 (.ref 99),ke P "__doc__" 304 .none] 2,#[]⟩),
(120,⟨.type "type", _n,.cls ⟨"NoWorld", [.ref 24],[.ref 120,.ref 24,.type "ValueError", .type "Exception", .type "BaseException", .type "object"],119, "NoWorld", _t,[],[],_f,_n,_f⟩,#[_s (.ref 104),_n,_s (.str "NoWorld" 307),_s (.str "NoWorld" 315),_s (.builtin "ValueError.__new__"),_s (.bool _t)]⟩),
(119,⟨.type "dict", _n,.dict #[ke P "__module__" 314 q14,ke P "__firstlineno__" 318 (.int 20 317),ke P "__init__" 326 (.ref 117),ke P "__static_attributes__" 328 (.ref 118),ke P "__doc__" 329 .none] 2,#[]⟩),
(139,⟨.type "type", _n,.cls ⟨"TooLong", [.ref 24],[.ref 139,.ref 24,.type "ValueError", .type "Exception", .type "BaseException", .type "object"],138, "TooLong", _t,[],[],_f,_n,_f⟩,#[_s (.ref 123),_n,_s (.str "TooLong" 332),_s (.str "TooLong" 340),_s (.builtin "ValueError.__new__"),_s (.bool _t)]⟩),
(138,⟨.type "dict", _n,.dict #[ke P "__module__" 339 q14,ke P "__firstlineno__" 343 (.int 24 342),ke P "__init__" 351 (.ref 136),ke P "__static_attributes__" 353 (.ref 137),ke P "__doc__" 354 .none] 2,#[]⟩),
(158,⟨.type "type", _n,.cls ⟨"TooMany", [.ref 24],[.ref 158,.ref 24,.type "ValueError", .type "Exception", .type "BaseException", .type "object"],157, "TooMany", _t,[],[],_f,_n,_f⟩,#[_s (.ref 142),_n,_s (.str "TooMany" 357),_s (.str "TooMany" 365),_s (.builtin "ValueError.__new__"),_s (.bool _t)]⟩),
(157,⟨.type "dict", _n,.dict #[ke P "__module__" 364 q14,ke P "__firstlineno__" 368 (.int 28 367),ke P "__init__" 376 (.ref 155),ke P "__static_attributes__" 378 (.ref 156),ke P "__doc__" 379 .none] 2,#[]⟩),
(177,⟨.type "type", _n,.cls ⟨"NoStep", [.ref 24],[.ref 177,.ref 24,.type "ValueError", .type "Exception", .type "BaseException", .type "object"],176, "NoStep", _t,[],[],_f,_n,_f⟩,#[_s (.ref 161),_n,_s (.str "NoStep" 382),_s (.str "NoStep" 390),_s (.builtin "ValueError.__new__"),_s (.bool _t)]⟩),
(176,⟨.type "dict", _n,.dict #[ke P "__module__" 389 q14,ke P "__firstlineno__" 393 (.int 32 392),ke P "__init__" 400 (.ref 174),ke P "__static_attributes__" 401 (.ref 175),ke P "__doc__" 402 .none] 2,#[]⟩),
(196,⟨.type "type", _n,.cls ⟨"NoRow", [.ref 24],[.ref 196,.ref 24,.type "ValueError", .type "Exception", .type "BaseException", .type "object"],195, "NoRow", _t,[],[],_f,_n,_f⟩,#[_s (.ref 180),_n,_s (.str "NoRow" 405),_s (.str "NoRow" 413),_s (.builtin "ValueError.__new__"),_s (.bool _t)]⟩),
(195,⟨.type "dict", _n,.dict #[ke P "__module__" 412 q14,ke P "__firstlineno__" 416 (.int 36 415),ke P "__init__" 423 (.ref 193),ke P "__static_attributes__" 424 (.ref 194),ke P "__doc__" 425 .none] 2,#[]⟩),
(41,SZ 2 0 "__init__" "BadText.__init__" q14 40),
(40,⟨.type "code", _n,.fields #[.str "__init__" 219,.str "BadText.__init__" 220,.str "/claim/cut.py" 221,.int 6 0,.int 2 0,.int 0 0,.int 0 0,.int 3 0,.ref 35,.bool _t,.int 181 0,.ref 36,.none,.ref 37,.ref 38,.ref 39,.int 224 0,.int 6 0,.str "/claim/cut.py" 225],#[]⟩),
(60,SZ 3 0 "__init__" "Twice.__init__" q14 59),
(59,⟨.type "code", _n,.fields #[.str "__init__" 244,.str "Twice.__init__" 245,.str "/claim/cut.py" 246,.int 10 0,.int 2 0,.int 0 0,.int 0 0,.int 3 0,.ref 54,.bool _t,.int 181 0,.ref 55,.none,.ref 56,.ref 57,.ref 58,.int 249 0,.int 10 0,.str "/claim/cut.py" 250],#[]⟩),
(79,SZ 4 0 "__init__" "NoName.__init__" q14 78),
(78,⟨.type "code", _n,.fields #[.str "__init__" 269,.str "NoName.__init__" 270,.str "/claim/cut.py" 271,.int 14 0,.int 2 0,.int 0 0,.int 0 0,.int 3 0,.ref 73,.bool _t,.int 181 0,.ref 74,.none,.ref 75,.ref 76,.ref 77,.int 274 0,.int 14 0,.str "/claim/cut.py" 275],#[]⟩),
(98,SZ 5 0 "__init__" "WrongCount.__init__" q14 97),
(97,⟨.type "code", _n,.fields #[.str "__init__" 294,.str "WrongCount.__init__" 295,.str "/claim/cut.py" 296,.int 18 0,.int 2 0,.int 0 0,.int 0 0,.int 3 0,.ref 92,.bool _t,.int 181 0,.ref 93,.none,.ref 94,.ref 95,.ref 96,.int 299 0,.int 18 0,.str "/claim/cut.py" 300],#[]⟩),
(117,SZ 6 0 "__init__" "NoWorld.__init__" q14 116),
(116,⟨.type "code", _n,.fields #[.str "__init__" 319,.str "NoWorld.__init__" 320,.str "/claim/cut.py" 321,.int 22 0,.int 2 0,.int 0 0,.int 0 0,.int 3 0,.ref 111,.bool _t,.int 181 0,.ref 112,.none,.ref 113,.ref 114,.ref 115,.int 324 0,.int 22 0,.str "/claim/cut.py" 325],#[]⟩),
(136,SZ 7 0 "__init__" "TooLong.__init__" q14 135),
(135,⟨.type "code", _n,.fields #[.str "__init__" 344,.str "TooLong.__init__" 345,.str "/claim/cut.py" 346,.int 26 0,.int 2 0,.int 0 0,.int 0 0,.int 3 0,.ref 130,.bool _t,.int 181 0,.ref 131,.none,.ref 132,.ref 133,.ref 134,.int 349 0,.int 26 0,.str "/claim/cut.py" 350],#[]⟩),
(155,SZ 8 0 "__init__" "TooMany.__init__" q14 154),
(154,⟨.type "code", _n,.fields #[.str "__init__" 369,.str "TooMany.__init__" 370,.str "/claim/cut.py" 371,.int 30 0,.int 2 0,.int 0 0,.int 0 0,.int 3 0,.ref 149,.bool _t,.int 181 0,.ref 150,.none,.ref 151,.ref 152,.ref 153,.int 374 0,.int 30 0,.str "/claim/cut.py" 375],#[]⟩),
(174,SZ 9 0 "__init__" "NoStep.__init__" q14 173),
(173,⟨.type "code", _n,.fields #[.str "__init__" 394,.str "NoStep.__init__" 395,.str "/claim/cut.py" 396,.int 34 0,.int 1 0,.int 0 0,.int 0 0,.int 3 0,.ref 168,.bool _t,.int 181 0,.ref 169,.none,.ref 170,.ref 171,.ref 172,.int 398 0,.int 34 0,.str "/claim/cut.py" 399],#[]⟩),
(193,SZ 10 0 "__init__" "NoRow.__init__" q14 192),
(192,⟨.type "code", _n,.fields #[.str "__init__" 417,.str "NoRow.__init__" 418,.str "/claim/cut.py" 419,.int 38 0,.int 1 0,.int 0 0,.int 0 0,.int 3 0,.ref 187,.bool _t,.int 181 0,.ref 188,.none,.ref 189,.ref 190,.ref 191,.int 421 0,.int 38 0,.str "/claim/cut.py" 422],#[]⟩)]
def tK:jX:=⟨"law", Aj (top 19),AM (top 19),AD (top 19),XN (top 19)⟩
theorem oM:Ts PySem.Challenge.rw_shapefree_k02_refusals 20 [3,205,204,212,211,217,216,224,223,231,230,238,237,243,242,248,247,44,43,24,23,63,62,82,81,101,100,120,119,139,138,158,157,177,176,196,195,41,40,60,59,79,78,98,97,117,116,136,135,155,154,174,173,193,192] KP 5414:=λw=>by kernel_rfl
theorem oK:PySem.Challenge.rw_shapefree_k02_refusals.wellSaid=true:=by decide +kernel
end My
open PySem PySem.W PyProof.Rows
set_option maxRecDepth 100000 in
set_option maxHeartbeats 0 in
theorem PySem.Challenge.cw_shapefree_k02_refusals_holds : PySem.Challenge.rw_shapefree_k02_refusals.Holds := by
  refine L2.qb (d:=My.tK) My.oK My.oM (λP=>by kernel_rfl) `k `k `k `k `k (by decide +kernel) ⟨rfl,rfl,rfl,rfl,rfl,by decide +kernel⟩ (by w_witness2) ?call;refine My.walk (l:=PySem.Challenge.rw_shapefree_k02_refusals) (d:=My.tK) (K:=My.KP) rfl `k (λw h Y=>Y) λw mg fa h KX G oV=>?_;refine My.all_mk KX G oV `k `k `k `k ?_ ?_ ?_ ?_ ?_ ?_ ?_ ?_ ?_ ?_ ?_ ?_ ?_ ?_ ?_ ?_ ?_ ?_<;>and_intros<;>kernel_rfl
