import PyProof.Rows.All
import Wide.All
import OpenK.AllK
import Wide.FinOn
import PyProof.TupleKey
import PyProof.Rows.SortShell
import PyProof.Rows.StrSplit
import PyProof.StrCalls2
import KE.KIntText
import PyProof.ZipIter
import PyProof.EnumMake
import PyProof.Draws
import KE.KRevIter
import PyProof.ListRange
import PyProof.CollectStr
import PyProof.Rows.CallKwBuiltin
import PyProof.MinMaxWalk
import PyProof.WalkInts
import PyProof.ListMulRoad
import PyProof.ReprRoads
import PyProof.ReprLen
import PyProof.IsRules
import KE.KSortTup
import PyProof.StrLawsIn
import Lean
import PyProof.EqAt
import PyProof.EqKinds
import PyProof.TupleCall
import PySem.Challenge.RW_shapefree_k35_forms_laid_together
noncomputable section
set_option Elab.async false
set_option linter.all false
set_option maxRecDepth 100000
set_option maxHeartbeats 4000000
abbrev dL:=@Bool.and_eq_true
abbrev kS:=@Option.bind_some
abbrev kT:=@List.getElem?_eq_getElem
abbrev kU:=@List.getElem?_eq_some_iff
abbrev kW:=@PySem.Heap.get?_push_of_some
abbrev kX:=@List.mem_cons_of_mem
abbrev kY:=@List.size_toArray
abbrev kZ:=@List.mem_cons_self
abbrev ka:=@List.mem_append_right
abbrev kb:=@Nat.le_refl
abbrev kc:=@List.getElem?_append_left
abbrev kg:=@Bool.false_eq_true
abbrev kh:=@List.mem_cons
abbrev ki:=@List.length_cons
abbrev kj:=@List.map_cons
abbrev km:=@List.getElem?_map
abbrev kn:=@List.contains_iff_mem
abbrev ko:=@List.mem_append_left
abbrev kq:=@Nat.lt_of_lt_of_le
abbrev kr:=@Nat.le_trans
abbrev ku:=@Bool.false_ne_true
abbrev kz:=@List.getD_eq_getElem?_getD
abbrev lA:=@PySem.Heap.get?_push_size
abbrev lB:=@PySem.Heap.lt_size
abbrev lC:=@List.mem_append
abbrev lD:=@List.length_set
abbrev lF:=@List.getElem?_append_right
abbrev lG:=@List.getElem?_set_ne
abbrev lH:=@Option.map_eq_some_iff
abbrev lI:=@List.length_append
abbrev lJ:=@List.mem_singleton
abbrev lK:=@List.length_map
abbrev lL:=@Nat.ne_of_lt
abbrev lM:=@List.eq_nil_of_length_eq_zero
abbrev lN:=@List.all_eq_true
abbrev lO:=@List.getElem?_set_self
abbrev lP:=@PyProof.Rows.slot_tuple_getitem
abbrev lQ:=@Option.map_some
abbrev lR:=@List.lookup_cons
abbrev lT:=@PySem.mem_of_lookup
abbrev lU:=@List.zip_cons_cons
abbrev lV:=@List.not_mem_nil
abbrev lW:=@List.all_cons
abbrev lX:=@List.append_nil
abbrev lY:=@List.length_singleton
abbrev lZ:=@List.getElem?_eq_none
abbrev la:=@Option.bind_eq_some_iff
abbrev lg:=@Nat.zero_le
abbrev lh:=@Bool.and_self
abbrev lj:=@List.append_assoc
abbrev lp:=@Bool.not_eq_true'
abbrev lq:=@PySem.Heap.size_push
abbrev lu:=@List.any_cons
abbrev lz:=@Nat.sub_self
abbrev mB:=@List.replicate_succ
abbrev mC:=@List.getElem?_range
abbrev mD:=@List.find?_some
abbrev mE:=@List.mem_map
abbrev mF:=@List.mem_of_getElem?
abbrev mG:=@Bool.and_eq_true_iff
abbrev mH:=@List.length_nil
abbrev mI:=@List.find?_cons
abbrev mJ:=@Nat.zero_add
abbrev mK:=@List.filterMap_cons
abbrev mL:=@Bool.not_true
abbrev mM:=@List.getElem_mem
abbrev mN:=@List.lookup_append
abbrev mO:=@PyProof.Rows.callWith_type1
abbrev mP:=@Nat.lt_or_ge
abbrev mQ:=@Option.isSome_map
abbrev mR:=@Nat.lt_irrefl
abbrev mS:=@List.flatten_cons
abbrev mT:=@List.pairwise_iff_getElem
abbrev mU:=@List.mem_range
abbrev mV:=@List.mem_of_find?_eq_some
abbrev mW:=@List.length_take
abbrev mX:=@Option.isSome_iff_exists
abbrev mY:=@List.mem_filter
abbrev mZ:=@List.getElem?_cons_succ
abbrev ma:=@List.range_succ_eq_map
abbrev me:=@PySem.Heap.get?_update_other
abbrev mf:=@PySem.Heap.get?_update_self
abbrev mh:=@Nat.lt_succ_self
abbrev mi:=@List.getElem?_of_mem
abbrev mj:=@List.nodup_cons
abbrev ml:=@List.length_zip
abbrev mm:=@List.length_reverse
abbrev mn:=@List.foldl_cons
abbrev mq:=@List.map_nil
abbrev mr:=@List.filter_append
abbrev mv:=@List.drop_eq_getElem_cons
abbrev mw:=@List.mem_singleton_self
abbrev my:=@List.length_drop
abbrev mz:=@List.getElem_inj
abbrev nA:=@Option.or_eq_some_iff
abbrev nB:=@Nat.sub_eq_zero_of_le
abbrev nC:=@Nat.one_ne_zero
abbrev nE:=@List.range_succ
abbrev nF:=@List.map_map
abbrev nG:=@List.forIn_cons
abbrev nK:=@Int.emod_nonneg
abbrev nL:=@Bool.beq_eq_decide_eq
abbrev nM:=@Bool.not_false
abbrev nN:=@Bool.and_false
abbrev nO:=@List.getElem_of_mem
abbrev nP:=@Nat.lt_of_le_of_lt
abbrev nQ:=@Nat.add_assoc
abbrev nR:=@List.getElem_range
abbrev nS:=@List.filterMap_map
abbrev nT:=@List.contains_cons
abbrev nU:=@Int.emod_lt_of_pos
abbrev nV:=@Bool.true_and
abbrev nW:=@List.reverse_cons
abbrev nX:=@Int.toNat_natCast
abbrev nY:=@Nat.ne_of_gt
abbrev nZ:=@Nat.min_self
abbrev nc:=@Bool.true_or
abbrev nh:=@List.isEmpty_nil
abbrev ni:=@List.of_mem_zip
abbrev nk:=@List.idxOf_cons
abbrev nr:=@Bool.or_eq_true
abbrev nv:=@List.nodup_iff_pairwise_ne
abbrev ny:=@Option.some_or
abbrev nz:=@Option.none_or
abbrev oA:=@List.forIn_nil
abbrev oB:=@List.idxOf_lt_length_iff
abbrev oC:=@List.getElem?_take_of_lt
abbrev oE:=@List.getElem?_replicate
namespace L2
open PySem
section
variable {prog:Program} {w:World} {K:Type} [DecidableEq K]
noncomputable abbrev NK (K:Type):=List (K ⊕ List K)
structure Apart (knd:KeyKind prog w K):Prop where
 l:∀ {A:Around} {E:Value->Shared->Prop} {s:Shared} {k:K} {v:Value} {a:Addr} {items:Array Value} {Q:Bool->Shared->Prop},A.units < cLine->knd.is k v=true->s.heap.IsTuple a items->Q false s->wpAny (model prog w) A (eqBool v (.ref a)) Q E s
 r:∀ {A:Around} {E:Value->Shared->Prop} {s:Shared} {k:K} {v:Value} {a:Addr} {items:Array Value} {Q:Bool->Shared->Prop},A.units < cLine->knd.is k v=true->s.heap.IsTuple a items->Q false s->wpAny (model prog w) A (eqBool (.ref a) v) Q E s
inductive ItN (knd:KeyKind prog w K) (h:Heap):NK K->List Value->Prop
 | nil:ItN knd h [] []
 | sc {k:K} {v:Value} {ks:NK K} {vs:List Value}:knd.is k v=true->ItN knd h ks vs->ItN knd h (.inl k::ks) (v::vs)
 | tp {t:List K} {a:Addr} {ks:NK K} {vs:List Value}:IsTupleKey knd h t a->ItN knd h ks vs->ItN knd h (.inr t::ks) (.ref a::vs)
def Mn (knd:KeyKind prog w K) (h:Heap) (ks:NK K) (a:Addr):Prop:=∃ o items n,h.get? a=some o/\o.cls=.type "tuple" /\ o.data=.seq items n/\ItN knd h ks items.toList
variable {knd:KeyKind prog w K}
theorem OJ {k:K} {a:Addr} (h:knd.is k (.ref a)=true):False:=by have:=knd.byValue _ _ h;simp [carriedByValue] at this
theorem ItN.inj {h:Heap}:∀ {x y:NK K} {vs:List Value},ItN knd h x vs->ItN knd h y vs->x=y
 | _,_,_,.nil,.nil=>rfl
 | _,_,_,.sc h1 t1,.sc h2 t2=>by rw [knd.inj _ _ _ h1 h2,ItN.inj t1 t2]
 | _,_,_,.sc h1 t1,.tp h2 t2=>(OJ h1).elim
 | _,_,_,.tp h1 t1,.sc h2 t2=>(OJ h2).elim
 | _,_,_,.tp h1 t1,.tp h2 t2=>by rw [h1.inj h2,ItN.inj t1 t2]
theorem Mn.typeIs {s:Shared} {ks:NK K} {a:Addr} (x:Mn knd s.heap ks a):s.TypeIs (.ref a) "tuple" := let ⟨o,_,_,ho,hc,_⟩:=x;⟨o,ho,hc⟩
theorem Mn.inj {h:Heap} {a:Addr} {x y:NK K} (hx:Mn knd h x a) (hy:Mn knd h y a):x=y:=by
 obtain ⟨o,items,n,ho,_,hd,hi⟩:=hx;obtain ⟨o',items',n',ho',_,hd',hi'⟩:=hy;obtain rfl:o=o':=Option.some.inj (ho.symm.trans ho');rw [hd] at hd';injection hd' with h1 _
 subst h1;exact hi.inj hi'
theorem ItN.keeps {h h':Heap} {d:Addr} {o:Obj} {es ep} (ho:h.get? d=some o) (hd:o.data=.dict es ep) (hs:Heap.SameBut d h h'):∀ {ks:NK K} {vs:List Value},ItN knd h ks vs->ItN knd h' ks vs
 | _,_,.nil=>.nil
 | _,_,.sc h1 t=>.sc h1 (t.keeps ho hd hs)
 | _,_,.tp h1 t=>.tp (h1.keeps ho hd hs) (t.keeps ho hd hs)
theorem Mn.keeps {h h':Heap} {ks:NK K} {a d:Addr} {o:Obj} {es ep} (x:Mn knd h ks a) (ho:h.get? d=some o) (hd:o.data=.dict es ep) (hs:Heap.SameBut d h h'):Mn knd h' ks a:=by
 obtain ⟨o',items,n,ho',hc,hd',hi⟩:=x;have hne:a≠d:=by
  rintro rfl;obtain rfl:o'=o:=Option.some.inj (ho'.symm.trans ho);rw [hd] at hd';exact nomatch hd'
 exact ⟨o',items,n,(hs.2 a hne).trans ho',hc,hd',hi.keeps ho hd hs⟩
noncomputable def Bw (knd:KeyKind prog w K):K ⊕ List K->Int
 | .inl k=>knd.hash k
 | .inr t=>tupleKeyHash knd t
noncomputable def DB:K ⊕ List K->Nat
 | .inl _=>1
 | .inr t=>t.length+1
def Tr (ks:NK K):Nat:=(ks.map DB).sum+1
def Sv (knd:KeyKind prog w K) (ks:NK K):Int:=reduceHash (Builtin.Tuple.tupleHashOf (ks.map (Bw knd)))
variable {A:Around} {E:Value->Shared->Prop} {s:Shared}
theorem Re {ks:NK K} {a:Addr} {Q:Int->Shared->Prop} (hu:A.units+1 < cLine) (hk:Mn knd s.heap ks a) (h:Q (Sv knd ks) { s with toks:=s.toks+Tr ks }) :
    wpAny (model prog w) A (pyHash (.ref a)) Q E s:=by
  have hT:=hk.typeIs;obtain ⟨o,items,n,ho,_,hd,hi⟩:=hk;unfold pyHash
  first | unfold pyHashByItsType | skip
  first | refine wpAny_bind (wpAny_cRoomFor_or (.inr (by omega)) ?_) | skip
  refine wpAny_bind (wpAny_specialOf hT F.slot_tuple_hash.lookup ?_)
  show wpAny _ _ (if (some (Value.builtin "tuple.__hash__") == some Value.none)=true then _ else _) Q E s
  rw [if_neg (by rw [beq_builtin_none];exact ku)];refine wpAny_bind (wpAny_specialOf hT F.slot_tuple_hash.lookup ?_)
  show wpAny _ _ (callSpecialIfBoundUnlessNone? (.ref a) "__hash__" _ >>= _) Q E s
  refine wpAny_bind (wpAny_callSpecialIfBoundUnlessNone?_slot hT F.slot_tuple_hash (wpAny_call_entry F.slot_tuple_hash hT F.entry_tuple_hash ?_ (F.args_tuple_hash_1 _)));show wpAny _ _ (Builtin.Tuple.tupleItemsOf (.ref a) >>= _) _ _ s;refine wpAny_bind (wpAny_tupleItemsOf ho hd ?_);refine wpAny_bind ?_;rw [<- Array.forIn_toList];refine wpAny_forIn_list _
    (fun rest (b:Array Int) s'=>∃ done left,ks=done++left/\ItN knd s.heap left rest/\b.toList=done.map (Bw knd)/\s'={ s with toks:=s.toks+(done.map DB).sum })
    _ ?_ ?_ _ _ ⟨[],ks,rfl,hi,rfl,rfl⟩
  · rintro x rest b s' ⟨done,left,rfl,hl,hb,rfl⟩;cases hl with
    | @sc k _ ks' _ h1 hl' =>
      refine wpAny_bind (knd.pyHash h1 ?_);have e:{ s with toks:=s.toks+(done.map DB).sum+1 }={ s with toks:=s.toks+((done++[Sum.inl k]).map DB).sum }:=by
        simp [DB,nQ]
      first
        | exact wpAny_pure ⟨done++[.inl k],ks',by simp,hl',by simp [hb,Bw],e⟩
        | exact wpAny_bind (wpAny_pure (wpAny_pure ⟨done++[.inl k],ks',by simp,hl',by simp [hb,Bw],e⟩))
    | @tp t a' ks' _ h1 hl' =>
      have e:{ s with toks:=s.toks+(done.map DB).sum+(t.length+1) }={ s with toks:=s.toks+((done++[Sum.inr t]).map DB).sum }:=by
        simp [DB,nQ]
      refine wpAny_bind (wpAny_pyHash_tuple (knd:=knd) hu h1 ?_)
      first
        | exact wpAny_pure ⟨done++[.inr t],ks',by simp,hl',by simp [hb,Bw],e⟩
        | exact wpAny_bind (wpAny_pure (wpAny_pure ⟨done++[.inr t],ks',by simp,hl',by simp [hb,Bw],e⟩))
  · rintro b s' ⟨done,left,rfl,hl,hb,rfl⟩;cases hl;rw [lX] at h;show wpAny _ _ (retInt (Builtin.Tuple.tupleHashOf b.toList)) _ _ _;rw [hb];refine wpAny_ret_mkInt ?_;show wpAny _ _ (if (decide (-(2:Int) ^ 63<=Builtin.Tuple.tupleHashOf (done.map (Bw knd))) && decide (Builtin.Tuple.tupleHashOf (done.map (Bw knd)) < 2 ^ 63))=true then _ else _) Q E _;unfold Sv reduceHash Tr at h
    by_cases hr:(decide (-(2:Int) ^ 63<=Builtin.Tuple.tupleHashOf (done.map (Bw knd))) && decide (Builtin.Tuple.tupleHashOf (done.map (Bw knd)) < 2 ^ 63))=true
    · rw [if_pos hr];rw [if_pos hr] at h;exact wpAny_pure (by simpa [nQ] using h)
    · rw [if_neg hr];rw [if_neg hr] at h;exact wpAny_bind (wpAny_rule (wpAny_pure (by simpa [nQ] using h)))
theorem IsTupleKey.isT {h:Heap} {t:List K} {a:Addr} (x:IsTupleKey knd h t a):∃ items,h.IsTuple a items:=let ⟨o,items,n,ho,hc,hd,_⟩:=x;⟨items,o,ho,hc,n,hd⟩
theorem Ww {k1 k2:K ⊕ List K} {u v:Value} {xs ys:List Value} {x y:NK K} (ap:Apart knd) (hu:A.units < cLine) (hx:ItN knd s.heap (k1::x) (u::xs)) (hy:ItN knd s.heap (k2::y) (v::ys)) {Q:Bool->Shared->Prop} (h:Q (decide (k1=k2)) s):wpAny (model prog w) A (eqBool u v) Q E s:=by
 cases hx with
 | @sc a _ _ _ h1 _ =>
  cases hy with
  | @sc b _ _ _ h2 _ =>
   refine knd.eqBool h1 h2 ?_;have:decide (a=b)=decide ((Sum.inl a:K ⊕ List K)=Sum.inl b):=by by_cases e:a=b<;>simp [e]
   rw [this];exact h
  | @tp t b _ _ h2 _ =>
   obtain ⟨its,hi⟩:=IsTupleKey.isT h2;refine ap.l hu h1 hi ?_;have:decide ((Sum.inl a:K ⊕ List K)=Sum.inr t)=false:=by simp
   rw [<- this];exact h
 | @tp t a _ _ h1 _ =>
  cases hy with
  | @sc b _ _ _ h2 _ =>
   obtain ⟨its,hi⟩:=IsTupleKey.isT h1;refine ap.r hu h2 hi ?_;have:decide ((Sum.inr t:K ⊕ List K)=Sum.inl b)=false:=by simp
   rw [<- this];exact h
  | @tp t' b _ _ h2 _ =>
   refine wpAny_eqBool_tuple (knd:=knd) hu h1 h2 ?_;have:decide (t=t')=decide ((Sum.inr t:K ⊕ List K)=Sum.inr t'):=by by_cases e:t=t'<;>simp [e]
   rw [this];exact h
theorem ItN.tail {h:Heap} {k:K ⊕ List K} {ks:NK K} {v:Value} {vs:List Value} (x:ItN knd h (k::ks) (v::vs)):ItN knd h ks vs:=by
 cases x with
 | sc _ t=>exact t
 | tp _ t=>exact t
theorem ItN.split {h:Heap} {ks:NK K} {v:Value} {vs:List Value} (x:ItN knd h ks (v::vs)):∃ k r,ks=k::r:=by
 cases x with
 | sc _ t=>exact ⟨_,_,rfl⟩
 | tp _ t=>exact ⟨_,_,rfl⟩
theorem ItN.len {h:Heap}:∀ {ks:NK K} {vs:List Value},ItN knd h ks vs->ks.length=vs.length
 | _,_,.nil=>rfl
 | _,_,.sc _ t=>by simp [t.len]
 | _,_,.tp _ t=>by simp [t.len]
theorem Lc {x y:NK K} {a b:Addr} {P:Fin->Shared->Prop} (ap:Apart knd) (hu:A.units < cLine) (hx:Mn knd s.heap x a) (hy:Mn knd s.heap y b) (h:P (.done (.ret (.bool (decide (x=y))))) s) :
    wpAny (model prog w) A (Builtin.«tuple.__eq__» ⟨[.ref a,.ref b],[]⟩) P E s:=by
  have hTb:=hy.typeIs;obtain ⟨oa,xs,na,hoa,_,hda,hia⟩:=hx;obtain ⟨ob,ys,nb,hob,_,hdb,hib⟩:=hy
  show wpAny _ _ (isInstance (.ref b) (.type "tuple") >>= _) _ _ s
  refine wpAny_bind (wpAny_isInstance hTb isSubtype_tuple_tuple ?_);simp only [mL,kg,if_false];refine wpAny_bind (wpAny_tupleItemsOf hoa hda ?_);refine wpAny_bind (wpAny_tupleItemsOf hob hdb ?_);refine wpAny_bind ?_;refine wpAny_forIn_list _
    (fun rest r s'=>r.1=none/\s'=s/\∃ x' y' xs' ys',rest=List.zip xs' ys'/\ItN knd s.heap x' xs'/\ItN knd s.heap y' ys'/\decide (x'=y')=decide (x=y)/\(xs'.length == ys'.length)=(xs.size == ys.size))
    _ ?_ ?_ _ _ ⟨rfl,rfl,x,y,xs.toList,ys.toList,rfl,hia,hib,rfl,by simp⟩
  · rintro ⟨u,v⟩ rest r s' ⟨hr,rfl,x',y',xs',ys',hz,hx',hy',hdec,hlen⟩;cases xs' with
    | nil=>simp at hz
    | cons u' xs'' =>
      cases ys' with
      | nil=>simp at hz
      | cons v' ys'' =>
        simp only [lU,List.cons.injEq,Prod.mk.injEq] at hz;obtain ⟨⟨rfl,rfl⟩,rfl⟩:=hz;obtain ⟨k1,x'',rfl⟩:=hx'.split;obtain ⟨k2,y'',rfl⟩:=hy'.split;refine wpAny_bind (Ww ap hu hx' hy' ?_)
        by_cases hk:k1=k2
        · subst hk;rw [decide_eq_true rfl];simp only [mL,kg,if_false];refine wpAny_pure ⟨rfl,rfl,x'',y'',xs'',ys'',rfl,hx'.tail,hy'.tail,?_,by simpa using hlen⟩;rw [<- hdec]
          by_cases hxy:x''=y''
          · simp [hxy]
          · simp [hxy]
        · rw [decide_eq_false hk];simp only [nM,if_true];have hf:decide (x=y)=false:=by rw [<- hdec];simp [hk]
          rw [hf] at h;exact wpAny_bind (wpAny_pure (wpAny_pure (wpAny_pure h)))
  · rintro ⟨r1,r2⟩ s' ⟨hr,rfl,x',y',xs',ys',hz,hx',hy',hdec,hlen⟩;simp only at hr;subst hr;refine wpAny_pure ?_;have hfin:(xs.size == ys.size)=decide (x=y):=by
      rw [<- hdec,<- hlen];have lx:=hx'.len;have ly:=hy'.len;cases xs' with
      | nil =>
        cases ys' with
        | nil =>
          cases hx';cases hy';simp
        | cons _ _ =>
          cases hx';obtain ⟨k2,y'',rfl⟩:=hy'.split;simp
      | cons _ _ =>
        cases ys' with
        | nil =>
          cases hy';obtain ⟨k2,y'',rfl⟩:=hx'.split;simp
        | cons _ _=>simp at hz
    show P (.done (.ret (.bool (xs.size == ys.size)))) s';rw [hfin];exact h
theorem Tj {x y:NK K} {a b:Addr} {Q:Bool->Shared->Prop} (ap:Apart knd) (hu:A.units+1 < cLine) (hx:Mn knd s.heap x a) (hy:Mn knd s.heap y b) (h:Q (decide (x=y)) s) :
    wpAny (model prog w) A (eqBool (.ref a) (.ref b)) Q E s:=by
  unfold eqBool
  try with_reducible refine wpAny_holding ?_
  show wpAny _ _ (if (Value.ref a == Value.ref b)=true then _ else _) Q E s
  by_cases hab:(Value.ref a == Value.ref b)=true
  · rw [if_pos hab];have e:a=b:=by have:=eq_of_beq hab;injection this
    subst e;obtain rfl:=hx.inj hy;exact wpAny_bind (wpAny_rule (wpAny_pure (by simpa using h)))
  · rw [if_neg hab];exact wpAny_bind (wpAny_richCompare_same_room (op:=.Eq) hx.typeIs hy.typeIs F.slot_tuple_eq
      (wpAny_call_entry F.slot_tuple_eq hx.typeIs F.entry_tuple_eq (Lc ap hu hx hy ⟨_,rfl,(fun e=>nomatch e),wpAny_truthy_bool h⟩) (F.args_tuple_eq_2 _ _)) (by omega))
theorem Vo {n:Nat} {ks:List K} {a:Addr} {Q:Bool->Shared->Prop} (hk:IsTupleKey knd s.heap ks a) (h:Q true s):wpAny (model prog w) A (eqIsQuiet (n+1) (.ref a)) Q E s:=by
 have hT:=hk.typeIs;obtain ⟨o,items,nn,ho,_,hd,hi⟩:=hk;unfold eqIsQuiet;refine wpAny_bind (wpAny_specialOf hT F.slot_tuple_eq.lookup ?_)
 show wpAny _ _ (isInstance (.ref a) (.type "tuple") >>= _) _ _ s
 refine wpAny_bind (wpAny_isInstance hT isSubtype_tuple_tuple ?_);simp only [mL,kg,if_false];refine wpAny_bind (wpAny_seqItems ho hd ?_);refine wpAny_bind ?_;show wpAny _ _ (forIn items _ _) _ _ s;rw [<- Array.forIn_toList];refine wpAny_forIn_list _ (fun rest r s'=>r.1=none/\s'=s/\∀ v∈rest,carriedByValue v=true) _ ?_ ?_ _ _ ⟨rfl,rfl,hi.byValue⟩
 ·rintro v rest r s' ⟨hr,rfl,hall⟩;rw [eqIsQuiet_byValue _ (hall v kZ)];refine wpAny_bind (wpAny_pure ?_);simp only [mL,kg,if_false];exact wpAny_pure ⟨rfl,rfl,fun u hu'=>hall u (kX _ hu')⟩
 ·rintro ⟨r1,r2⟩ s' ⟨hr,rfl,_⟩;simp only at hr;subst hr;exact wpAny_pure h
theorem Vp {ks:NK K} {a:Addr} {Q:Bool->Shared->Prop} (hk:Mn knd s.heap ks a) (h:Q true s):wpAny (model prog w) A (eqIsQuiet 8 (.ref a)) Q E s:=by
 have hT:=hk.typeIs;obtain ⟨o,items,nn,ho,_,hd,hi⟩:=hk;unfold eqIsQuiet;refine wpAny_bind (wpAny_specialOf hT F.slot_tuple_eq.lookup ?_)
 show wpAny _ _ (isInstance (.ref a) (.type "tuple") >>= _) _ _ s
 refine wpAny_bind (wpAny_isInstance hT isSubtype_tuple_tuple ?_);simp only [mL,kg,if_false];refine wpAny_bind (wpAny_seqItems ho hd ?_);refine wpAny_bind ?_;show wpAny _ _ (forIn items _ _) _ _ s;rw [<- Array.forIn_toList];refine wpAny_forIn_list _ (fun rest r s'=>r.1=none/\s'=s/\∃ l,ItN knd s.heap l rest) _ ?_ ?_ _ _ ⟨rfl,rfl,ks,hi⟩
 ·rintro v rest r s' ⟨hr,rfl,l,hl⟩;cases hl with
  | @sc k _ ks' _ h1 t =>
   rw [eqIsQuiet_byValue _ (knd.byValue _ _ h1)];refine wpAny_bind (wpAny_pure ?_);simp only [mL,kg,if_false];exact wpAny_pure ⟨rfl,rfl,ks',t⟩
  | @tp t' a' ks' _ h1 t =>
   refine wpAny_bind (Vo (n:=6) h1 ?_);simp only [mL,kg,if_false];exact wpAny_pure ⟨rfl,rfl,ks',t⟩
 ·rintro ⟨r1,r2⟩ s' ⟨hr,rfl,_⟩;simp only at hr;subst hr;exact wpAny_pure h
end
def BV {prog:Program} {w:World} {K:Type} [DecidableEq K] (knd:KeyKind prog w K) (ap:Apart knd):HeapKind prog w (NK K) where
 is:=Mn knd
 hash:=Sv knd
 draws:=Tr
 room:=fun A=>A.units+1 < cLine
 inj:=fun hx hy=>hx.inj hy
 keeps:=fun x ho hd hs=>x.keeps ho hd hs
 pyHash:=fun hu hk h=>Re hu hk h
 eqBool:=fun hu hx hy h=>Tj ap hu hx hy h
 quiet:=fun hk h=>Vp hk h
end L2
namespace L2
open PySem PySem.Spec PyProof.Rows
noncomputable abbrev AS:=Sum Int Str
def IA:AS->Value->Bool
 | .inl k,v=>Value.isInt k v
 | .inr x,v=>Value.isStrOf x v
def ig (w:World):AS->Int
 | .inl k=>hashInt k
 | .inr x=>hashStr w x
theorem AW:∀ {k:AS} {v:Value},IA k v=true->(∃ i t,k=Sum.inl i/\v=Value.int i t)\/(∃ x t,k=Sum.inr x/\v=Value.str x t)
 | .inl i,v,h=>by
  obtain ⟨t,e⟩:=Value.isInt_shape (k:=i) (v:=v) h;exact .inl ⟨i,t,rfl,e⟩
 | .inr x,v,h=>by
  obtain ⟨t,e⟩:=Value.isStrOf_shape (x:=x) (v:=v) h;exact .inr ⟨x,t,rfl,e⟩
theorem PY (i:Int) (t:Tok):IA (.inl i) (.int i t)=true:=by simp [IA,Value.isInt]
theorem PX (x:Str) (t:Tok):IA (.inr x) (.str x t)=true:=by simp [IA,Value.isStrOf]
theorem bP (a b:Int):decide ((Sum.inl a:AS)=Sum.inl b)=(a == b):=by
 by_cases e:a=b
 ·subst e;simp
 ·have h:¬ (Sum.inl a:AS)=Sum.inl b:=fun q=>e (Sum.inl.inj q)
  rw [decide_eq_false h];exact (beq_eq_false_iff_ne.mpr e).symm
theorem bM (a b:Str):decide ((Sum.inr a:AS)=Sum.inr b)=decide (a=b):=by
 by_cases e:a=b
 ·subst e;simp
 ·have h:¬ (Sum.inr a:AS)=Sum.inr b:=fun q=>e (Sum.inr.inj q)
  rw [decide_eq_false h,decide_eq_false e]
theorem bO (a:Int) (b:Str):decide ((Sum.inl a:AS)=Sum.inr b)=false:=decide_eq_false (fun q=>nomatch q)
theorem bN (a:Str) (b:Int):decide ((Sum.inr a:AS)=Sum.inl b)=false:=decide_eq_false (fun q=>nomatch q)
def AN (prog:Program) (w:World):PySem.KeyKind prog w AS where
 is:=IA
 hash:=ig w
 inj:=fun v a b ha hb=>by
  rcases AW ha with ⟨i,t,rfl,rfl⟩ | ⟨x,t,rfl,rfl⟩
  ·rcases AW hb with ⟨j,u,rfl,e⟩ | ⟨y,u,rfl,e⟩
   ·injection e with e1 _;rw [e1]
   ·exact nomatch e
  ·rcases AW hb with ⟨j,u,rfl,e⟩ | ⟨y,u,rfl,e⟩
   ·exact nomatch e
   ·injection e with e1 _;rw [e1]
 byValue:=fun k v h=>by
  rcases AW h with ⟨i,t,rfl,rfl⟩ | ⟨x,t,rfl,rfl⟩<;>rfl
 pyHash:=fun hv h=>by
  rcases AW hv with ⟨i,t,rfl,rfl⟩ | ⟨x,t,rfl,rfl⟩
  ·exact wpAny_pyHash_int h
  ·exact wpAny_pyHash_str h
 eqBool:=fun hu hv h=>by
  rcases AW hu with ⟨i,t,rfl,rfl⟩ | ⟨x,t,rfl,rfl⟩
  ·rcases AW hv with ⟨j,u,rfl,rfl⟩ | ⟨y,u,rfl,rfl⟩
   ·rw [bP] at h;exact wpAny_eqBool_int h
   ·rw [bO] at h;exact SeqAt.EqAt.int_str i t y u _ _ _ _ h
  ·rcases AW hv with ⟨j,u,rfl,rfl⟩ | ⟨y,u,rfl,rfl⟩
   ·rw [bN] at h;exact SeqAt.EqAt.str_int x t j u _ _ _ _ h
   ·rw [bM] at h;exact wpAny_eqBool_str h
 «strs»:=fun k x t v h=>by
  rcases AW h with ⟨i,u,rfl,e⟩ | ⟨y,u,rfl,e⟩
  ·exact nomatch e
  ·injection e with e1 _
   subst e1;cases v<;>rfl
theorem BF (prog:Program) (w:World):Apart (AN prog w) where
 l:=fun hu hk ht h=>by
  rcases AW hk with ⟨i,t,rfl,rfl⟩ | ⟨x,t,rfl,rfl⟩
  ·exact SeqAt.EqAt.int_tuple i t ht hu _ _ _ _ h
  ·exact SeqAt.EqAt.str_tuple x t ht hu _ _ _ _ h
 r:=fun hu hk ht h=>by
  rcases AW hk with ⟨i,t,rfl,rfl⟩ | ⟨x,t,rfl,rfl⟩
  ·exact SeqAt.EqAt.tuple_int i t ht hu _ _ _ _ h
  ·exact SeqAt.EqAt.tuple_str x t ht hu _ _ _ _ h
theorem Ke (prog:Program) (w:World) (i:Int) (t:Tok):(AN prog w).is (.inl i) (.int i t)=true:=PY i t
theorem Kd (prog:Program) (w:World) (x:Str) (t:Tok):(AN prog w).is (.inr x) (.str x t)=true:=PX x t
inductive V where
 | non | bl (b:Bool) | int (i:Int) | str (x:Str) | byt (b:Array UInt8) | flt (b:UInt64) | ref (a:Addr) | ty (n:String)
 deriving DecidableEq
def RelV:V->Value->Prop
 | .non,u=>u=Value.none
 | .bl b,u=>u=Value.bool b
 | .int i,u=>∃ t,u=Value.int i t
 | .str x,u=>∃ t,u=Value.str x t
 | .byt b,u=>∃ t,u=Value.bytes b t
 | .flt b,u=>∃ t,u=Value.float b t
 | .ref a,u=>u=Value.ref a
 | .ty n,u=>u=Value.type n
abbrev AC:List V->List Value->Prop:=Paired RelV
theorem AC.length {xs:List V} {us:List Value} (r:AC xs us):xs.length=us.length:=Paired.length r
theorem AC.get:∀ {xs:List V} {us:List Value} {i:Nat} {x:V},AC xs us->xs[i]?=some x->∃ u,us[i]?=some u/\RelV x u
 | _,_,_,_,.nil,e=>by simp at e
 | _,_,0,_,.cons r _,e=>by simp at e;subst e;exact ⟨_,rfl,r⟩
 | _,_,i+1,x,.cons _ t,e=>by
  obtain ⟨u,h1,h2⟩:=AC.get (i:=i) (x:=x) t (by simpa using e);exact ⟨u,by simpa using h1,h2⟩
theorem AC.set {x:V} {u:Value} (r:RelV x u):∀ {xs:List V} {us:List Value} (i:Nat),AC xs us->AC (xs.set i x) (us.set i u)
 | _,_,_,.nil=>.nil
 | _,_,0,.cons _ t=>.cons r t
 | _,_,i+1,.cons q t=>.cons q (AC.set r i t)
theorem AC.append:∀ {xs ys:List V} {us ws:List Value},AC xs us->AC ys ws->AC (xs++ys) (us++ws)
 | _,_,_,_,.nil,s=>s
 | _,_,_,_,.cons r t,s=>.cons r (AC.append t s)
theorem AC.take:∀ {xs:List V} {us:List Value} (n:Nat),AC xs us->AC (xs.take n) (us.take n)
 | _,_,0,_=>.nil
 | _,_,_+1,.nil=>.nil
 | _,_,n+1,.cons r t=>.cons r (AC.take n t)
theorem AC.drop:∀ {xs:List V} {us:List Value} (n:Nat),AC xs us->AC (xs.drop n) (us.drop n)
 | _,_,0,r=>r
 | _,_,_+1,.nil=>.nil
 | _,_,n+1,.cons _ t=>AC.drop n t
def Cp:Option V->Option Value->Prop
 | some v,some u=>RelV v u
 | none,none=>True
 | _,_=>False
def KV {κ:Type}:List (κ×V)->List (κ×Value)->Prop:=Paired fun (p:κ×V) (q:κ×Value)=>p.1=q.1/\RelV p.2 q.2
def kV:AS->V
 | .inl i=>.int i
 | .inr x=>.str x
inductive HO where
 | lst (xs:List V)
 | tup (xs:List V)
 | dK (kvs:List (AS×V)) | dT (kvs:List (List AS×V)) | dN (kvs:List (NK AS×V))
 | set (S:Int->Bool) (n:Nat)
 | ins (C dx:Addr) (fs:List (Str×V))
 | own (x:Addr)
 | xd (fs:List (Str×V))
 | met (f x:Addr)
 | rng (lo hi:Int)
 | frz (o:Obj) (u:HO)
 | tbl (ps:Array Value)
 | ext (φ:Heap->Prop)
noncomputable abbrev Hp:=Addr->Option HO
def VM (H:Hp):NK AS->List V->Prop
 | [],vs=>vs=[]
 | .inl k::ks,vs=>∃ r,vs=kV k::r/\VM H ks r
 | .inr t::ks,vs=>∃ c r,vs=.ref c::r/\H c=some (.tup (t.map kV))/\VM H ks r
def LY (H:Hp) (k:NK AS) (b:Addr):Prop:=∃ vs,H b=some (.tup vs)/\VM H k vs
theorem VM.keeps {H H':Hp} (ht:∀ b xs,H b=some (.tup xs)->H' b=some (.tup xs)):∀ {k:NK AS} {vs:List V},VM H k vs->VM H' k vs
 | [],_,h=>h
 | .inl _::ks,_,⟨r,e,h⟩=>⟨r,e,VM.keeps ht h⟩
 | .inr _::ks,_,⟨c,r,e,h1,h⟩=>⟨c,r,e,ht _ _ h1,VM.keeps ht h⟩
theorem LY.keeps {H H':Hp} (ht:∀ b xs,H b=some (.tup xs)->H' b=some (.tup xs)) {k:NK AS} {b:Addr} (h:LY H k b):LY H' k b:=let ⟨vs,e,n⟩:=h;⟨vs,ht _ _ e,n.keeps ht⟩
def upd (H:Hp) (a:Addr) (o:HO):Hp:=fun b=>if b=a then some o else H b
theorem AF {H:Hp} {a:Addr} {o:HO}:upd H a o a=some o:=by unfold upd;rw [if_pos rfl]
theorem AD {H:Hp} {a b:Addr} {o:HO} (h:b≠a):upd H a o b=H b:=by unfold upd;rw [if_neg h]
theorem YX {H:Hp} {a b:Addr} {o u:HO} (h:H a=some o) (h':H b=some u) (d:o≠u):a≠b:=by
 intro e;subst e;rw [h] at h';exact d (Option.some.inj h')
theorem BN {H:Hp} {a b:Addr} {o:HO} (h:H a=some o) (h':H b=none):a≠b:=by
 intro e;subst e;rw [h] at h';cases h'
def HJ (h:Heap) (a:Addr) (items:Array Value):Prop:=∃ o,h.get? a=some o/\o.cls=.type "tuple" /\ o.dict=none/\∃ n,o.data=.seq items n
theorem HJ.tup {h:Heap} {a:Addr} {items:Array Value} (x:HJ h a items):IsTup h a items:=let ⟨o,e,c,_,d⟩:=x;⟨o,e,c,d⟩
theorem HJ.new (h:Heap) (items:Array Value):HJ (h.push { cls:=.type "tuple", data:=.seq items }) h.objs.size items:=⟨_,lA _ rfl,rfl,rfl,_,rfl⟩
section
variable (P:Program) (w:World)
def Aa (H:Hp) (h:Heap) (a:Addr):HO->Prop
  | .lst xs=>xs.length<=sizeLine/\∃ (its:List Value) (n:Nat),AC xs its/\h.get? a=some { cls:=.type "list", data:=.seq its.toArray n }
  | .tup xs=>xs.length<=sizeLine/\∃ its:List Value,AC xs its/\HJ h a its.toArray
  | .dK kvs=>kvs.length<=sizeLine/\(a == sysModules)=false/\∃ vs,KV kvs vs/\h.DictOf (AN P w) a vs
  | .dT kvs=>kvs.length<=sizeLine/\(a == sysModules)=false/\∃ xs:List (List AS×Addr×Value),
      Paired (fun (p:List AS×V) (q:List AS×Addr×Value)=>p.1=q.1/\H q.2.1=some (.tup (p.1.map kV))/\RelV p.2 q.2.2) kvs xs /\
      ∃ o es ep,h.get? a=some o/\o.ExactDict/\o.data=.dict es ep/\es.toList=xs.map (entryOfKey (tupleKind (AN P w)))/\(xs.map (·.1)).Nodup
  | .dN kvs=>kvs.length<=sizeLine/\(a == sysModules)=false/\∃ xs:List (NK AS×Addr×Value),
      Paired (fun (p:NK AS×V) (q:NK AS×Addr×Value)=>p.1=q.1/\LY H p.1 q.2.1/\RelV p.2 q.2.2) kvs xs /\
      ∃ o es ep,h.get? a=some o/\o.ExactDict/\o.data=.dict es ep/\es.toList=xs.map (entryOfKey (BV (AN P w) (BF P w)))/\(xs.map (·.1)).Nodup
  | .set S n=>h.SetOf (intKind P w) a S n
  | .ins C dx fs=>H dx=some (.own a)/\fs.length<=1000/\dx≠a/\h.get? a=some (W.instObj C dx) /\
      ∃ mA,h.Ns1 dx mA/\(∀ f,Cp (fs.lookup f) (mA f))/\PySem.Within mA (fs.map (·.1))
  | .own _=>∃ o,h.get? a=some o
  | .xd fs=>∃ mA,h.Ns1 a mA/\∀ f,Cp (fs.lookup f) (mA f)
  | .rng lo hi=>∃ t u v,h.get? a=some { cls:=.type "range", data:=.fields #[.int lo t,.int hi u,.int 1 v] }
  | .frz o u=>h.get? a=some o/\Aa H h a u
  | .tbl ps=>h.get? a=some { cls:=.none,data:=.fields ps }
  | .met f x=>h.get? a=some (W.methodObj (.ref f) (.ref x))
  | .ext φ=>φ h/\(∃ o,h.get? a=some o)/\∀ h1 h2:Heap,φ h1->(∀ o,h1.get? a=some o->h2.get? a=some o)->φ h2
def DX (H:Hp) (h:Heap):Prop:=∀ a o,H a=some o->Aa P w H h a o
end
section
variable {P:Program} {w:World} {H H':Hp} {h h':Heap} {a:Addr} {o:HO}
theorem Aa.lt (x:Aa P w H h a o):a < h.objs.size:=by
 cases o with
 | lst xs=>obtain ⟨_,_,_,_,e⟩:=x;exact lB e
 | tup xs=>obtain ⟨_,_,_,p⟩:=x;exact p.tup.lt
 | dK kvs=>obtain ⟨_,_,_,_,o,_,_,e,_⟩:=x;exact lB e
 | dT kvs=>obtain ⟨_,_,_,_,o,_,_,e,_⟩:=x;exact lB e
 | dN kvs=>obtain ⟨_,_,_,_,o,_,_,e,_⟩:=x;exact lB e
 | set S n=>obtain ⟨o,_,_,_,e,_⟩:=x;exact lB e
 | ins C dx fs=>obtain ⟨_,_,_,e,_⟩:=x;exact lB e
 | own y=>obtain ⟨_,e⟩:=x;exact lB e
 | xd fs=>obtain ⟨_,⟨_,_,_,e,_⟩,_⟩:=x;exact lB e
 | rng lo hi=>obtain ⟨_,_,_,e⟩:=x;exact lB e
 | frz ob u=>obtain ⟨e,_⟩:=x;exact lB e
 | tbl ps=>exact lB (show h.get? a=some _ from x)
 | met f y=>exact lB (show h.get? a=some _ from x)
 | ext φ=>obtain ⟨_,⟨_,e⟩,_⟩:=x;exact lB e
theorem Paired.mapP {α β:Type} {F G:α->β->Prop}:∀ {l₁:List α} {l₂:List β},Paired F l₁ l₂->(∀ a b,F a b->G a b)->Paired G l₁ l₂
 | _,_,.nil,_=>.nil
 | _,_,.cons r t,f=>.cons (f _ _ r) (Paired.mapP t f)
theorem Aa.stay (x:Aa P w H h a o) (k:∀ b u,(b=a\/H b=some (.own a))->h.get? b=some u->h'.get? b=some u)
    (ho:∀ b,H b=some (.own a)->H' b=some (.own a)) (ht:∀ b xs,H b=some (.tup xs)->H' b=some (.tup xs)):Aa P w H' h' a o:=by
  induction o with
  | lst xs=>obtain ⟨z,its,n,r,e⟩:=x;exact ⟨z,its,n,r,k _ _ (.inl rfl) e⟩
  | tup xs=>obtain ⟨z,its,r,ob,e,c⟩:=x;exact ⟨z,its,r,ob,k _ _ (.inl rfl) e,c⟩
  | dK kvs=>obtain ⟨z,y,vs,r,ob,es,ep,e,c⟩:=x;exact ⟨z,y,vs,r,ob,es,ep,k _ _ (.inl rfl) e,c⟩
  | dT kvs =>
    obtain ⟨z,y,xs,r,ob,es,ep,e,c⟩:=x;exact ⟨z,y,xs,Paired.mapP r fun p q z=>⟨z.1,ht _ _ z.2.1,z.2.2⟩,ob,es,ep,k _ _ (.inl rfl) e,c⟩
  | dN kvs =>
    obtain ⟨z,y,xs,r,ob,es,ep,e,c⟩:=x;exact ⟨z,y,xs,Paired.mapP r fun p q z=>⟨z.1,z.2.1.keeps ht,z.2.2⟩,ob,es,ep,k _ _ (.inl rfl) e,c⟩
  | set S n=>obtain ⟨ob,es,ep,t,e,c⟩:=x;exact ⟨ob,es,ep,t,k _ _ (.inl rfl) e,c⟩
  | ins C dx fs =>
    obtain ⟨d,z,ne,e,mA,⟨od,es,ep,e2,c⟩,r⟩:=x;exact ⟨ho _ d,z,ne,k _ _ (.inl rfl) e,mA,⟨od,es,ep,k _ _ (.inr d) e2,c⟩,r⟩
  | own y=>obtain ⟨ob,e⟩:=x;exact ⟨ob,k _ _ (.inl rfl) e⟩
  | xd fs=>obtain ⟨mA,⟨od,es,ep,e,c⟩,r⟩:=x;exact ⟨mA,⟨od,es,ep,k _ _ (.inl rfl) e,c⟩,r⟩
  | rng lo hi=>obtain ⟨t,u,v,e⟩:=x;exact ⟨t,u,v,k _ _ (.inl rfl) e⟩
  | frz ob u ih=>obtain ⟨e,q⟩:=x;exact ⟨k _ _ (.inl rfl) e,ih q⟩
  | tbl ps =>
    have e:h.get? a=some { cls:=.none,data:=.fields ps }:=x;show h'.get? a=some { cls:=.none,data:=.fields ps };exact k a _ (.inl rfl) e
  | met f y =>
    have e:h.get? a=some (W.methodObj (.ref f) (.ref y)):=x;show h'.get? a=some (W.methodObj (.ref f) (.ref y));exact k a _ (.inl rfl) e
  | ext φ=>obtain ⟨p,⟨o,e⟩,st⟩:=x;exact ⟨st _ _ p fun o q=>k _ _ (.inl rfl) q,⟨o,k _ _ (.inl rfl) e⟩,st⟩
theorem DX.lt (x:DX P w H h) (e:H a=some o):a < h.objs.size:=(x a o e).lt
theorem DX.fresh (x:DX P w H h) (e:h.objs.size<=a):H a=none:=by
 cases q:H a with
 | none=>rfl
 | some u=>exact absurd (kq (x.lt q) e) (mR _)
theorem DX.kept (x:DX P w H h) (k:∀ b u,h.get? b=some u->h'.get? b=some u):DX P w H h':=fun a o e =>
 (x a o e).stay (fun b u _ q=>k b u q) (fun _ q=>q) fun _ _ q=>q
theorem DX.laid (x:DX P w H h) (k:∀ b u,h.get? b=some u->h'.get? b=some u) (hp:h.objs.size<=a) (new:Aa P w (upd H a o) h' a o):DX P w (upd H a o) h':=fun b u e=>by
 have hn:=x.fresh hp
 by_cases hb:b=a
 ·subst hb;rw [AF] at e;cases e;exact new
 ·rw [AD hb] at e;exact (x b u e).stay (fun c v _ q=>k c v q) (fun c q=>by rw [AD (BN q hn)];exact q) fun c xs q=>by rw [AD (BN q hn)];exact q
end
def Rd (H:Hp) (a:Addr) (u:HO):Prop:=H a=some u\/∃ o,H a=some (.frz o u)
theorem Rd.ok {P:Program} {w:World} {H:Hp} {h:Heap} {a:Addr} {u:HO} (r:Rd H a u) (x:DX P w H h):Aa P w H h a u:=by
 rcases r with r | ⟨o,r⟩
 ·exact x a u r
 ·obtain ⟨_,q⟩:=x a _ r;exact q
def cw:Option HO->Prop
 | some (.lst _)=>True
 | some (.dK _)=>True
 | some (.dT _)=>True
 | some (.dN _)=>True
 | some (.set _ _)=>True
 | some (.ins _ _ _)=>True
 | some (.ext _)=>True
 | _=>False
section
variable {P:Program} {w:World} {H:Hp} {h h':Heap} {x e:Addr} {o':HO}
theorem DX.write (ok:DX P w H h) (mu:cw (H x)) (he:e=x\/H e=some (.own x)) (k:∀ b u,b≠e->h.get? b=some u->h'.get? b=some u) (heo:∃ u,h'.get? e=some u)
    (new:Aa P w (upd H x o') h' x o'):DX P w (upd H x o') h':=fun b u q=>by
  have nown:∀ c y,H c=some (.own y)->c≠x:=fun c y r z=>by subst z;rw [r] at mu;exact mu
  have ntup:∀ c xs,H c=some (.tup xs)->c≠x:=fun c xs r z=>by subst z;rw [r] at mu;exact mu
  by_cases hb:b=x
  · subst hb;rw [AF] at q;cases q;exact new
  · rw [AD hb] at q
    by_cases hbe:b=e
    · have q':H b=some (.own x):=by
        rcases he with z | z
        · exact absurd (hbe.trans z) hb
        · rw [hbe];exact z
      rw [q] at q';cases q';obtain ⟨v,hv⟩:=heo;exact ⟨v,by rw [hbe];exact hv⟩
    · refine (ok b u q).stay (fun c v hc r=>k c v ?_ r) (fun c r=>by rw [AD (nown c b r)];exact r) fun c xs r=>by rw [AD (ntup c xs r)];exact r
      rcases hc with rfl | hc
      · exact hbe
      · rintro rfl;rcases he with z | z
        · exact nown c b hc z
        · rw [hc] at z;cases z;exact hb rfl
end
structure Un (fs ex:List Addr) (H H':Hp) (h h':Heap):Prop where
 keep:∀ b o,h.get? b=some o->H b=none->b∉fs->b∉ex->h'.get? b=some o
 slot:∀ b o,h.get? b=some o->H b=none->b∈fs->b∉ex->∃ sl,h'.get? b=some { o with slots:=sl }
 free:∀ b o,h.get? b=some o->H b=none->b∉ex->H' b=none
 there:∀ b o,h.get? b=some o->b∉ex->∃ o',h'.get? b=some o'
 tups:∀ b xs,H b=some (.tup xs)->H' b=some (.tup xs)
 frzs:∀ b o u,H b=some (.frz o u)->H' b=some (.frz o u)
 tbls:∀ b ps,H b=some (.tbl ps)->∃ more,H' b=some (.tbl (ps++more))
section
variable {fs fs' ex ex':List Addr} {H H1 H2:Hp} {h h1 h2 h':Heap} {a x e:Addr} {o:HO}
theorem Un.any (u:Un fs ex H H1 h h1) {b:Addr} {ob:Obj} (q:h.get? b=some ob) (n:H b=none) (hx:b∉ex):∃ sl,h1.get? b=some { ob with slots:=sl }:=by
 by_cases hb:b∈fs
 ·exact u.slot b ob q n hb hx
 ·exact ⟨ob.slots,u.keep b ob q n hb hx⟩
theorem Un.kept (k:∀ b u,h.get? b=some u->h'.get? b=some u):Un fs ex H H h h':=
 ⟨fun b ob q _ _ _=>k b ob q,fun b ob q _ _ _=>⟨ob.slots,k b ob q⟩,fun _ _ _ n _=>n,fun b ob q _=>⟨ob,k b ob q⟩,fun _ _ q=>q,fun _ _ _ q=>q,fun _ ps q=>⟨#[],by rw [q];simp⟩⟩
theorem Un.refl:Un fs ex H H h h:=Un.kept fun _ _ q=>q
theorem Un.laid (k:∀ b u,h.get? b=some u->h'.get? b=some u) (hp:h.objs.size<=a) (hn:H a=none):Un fs ex H (upd H a o) h h' where
 keep:=fun b u q _ _ _=>k b u q
 slot:=fun b u q _ _ _=>⟨u.slots,k b u q⟩
 free:=fun b u q n _=>by rw [AD (lL (kq (lB q) hp))];exact n
 there:=fun b u q _=>⟨u,k b u q⟩
 tups:=fun b xs q=>by rw [AD (BN q hn)];exact q
 frzs:=fun b u xs q=>by rw [AD (BN q hn)];exact q
 tbls:=fun b ps q=>⟨#[],by rw [AD (BN q hn),q];simp⟩
theorem Un.write (mu:cw (H x)) (he:e=x\/H e=some (.own x)) (k:∀ b u,b≠e->h.get? b=some u->h'.get? b=some u) (heo:∃ u,h'.get? e=some u):Un fs ex H (upd H x o) h h':=by
 have hx:∀ b,H b=none->b≠x:=fun b n z=>by subst z;rw [n] at mu;exact mu
 have hb:∀ b,H b=none->b≠e:=fun b n z=>by
  subst z;rcases he with r | r
  ·exact hx b n r
  ·rw [n] at r;cases r
 have hm:∀ b u,H b=some u->¬ cw (some u)->b≠x:=fun b u q nm z=>by subst z;rw [q] at mu;exact nm mu
 refine ⟨fun b u q n _ _=>k b u (hb b n) q,fun b u q n _ _=>⟨u.slots,k b u (hb b n) q⟩,fun b u q n _=>by rw [AD (hx b n)];exact n,fun b u q _=>?_,
  fun b xs q=>by rw [AD (hm b _ q fun z=>z)];exact q,fun b u xs q=>by rw [AD (hm b _ q fun z=>z)];exact q,fun b ps q=>⟨#[],by rw [AD (hm b _ q fun z=>z),q];simp⟩⟩
 by_cases hbe:b=e
 ·subst hbe;exact heo
 ·exact ⟨u,k b u hbe q⟩
end
def iB (h:Heap) (H:Hp):List Addr:=(List.range h.objs.size).filter fun a=>(H a).isSome
def JJ (h:Heap) (H:Hp):Heap:=W.hideAll h (iB h H)
theorem Pf (h:Heap) (H:Hp):(JJ h H).objs.size=h.objs.size:=W.hideAll_size _ _
theorem Su {h:Heap} {H:Hp} {b:Addr} {o:Obj} (e:h.get? b=some o) (n:H b=none):(JJ h H).get? b=some o:=
 W.hideAll_get _ e fun hm=>by
  have q:(H b).isSome=true:=(mY.mp hm).2;rw [n] at q;simp at q
theorem Wd {h:Heap} {H:Hp} {b:Addr} {o:Obj} (e:(JJ h H).get? b=some o):h.get? b=some o/\H b=none:=by
 have e':h.get? b=some o:=W.of_hideAll (iB h H) e;refine ⟨e',?_⟩;cases q:H b with
 | none=>rfl
 | some x =>
  have hm:b∈iB h H:=mY.mpr ⟨mU.mpr (lB e'),by simp [q]⟩;have z:(JJ h H).get? b=none:=W.hideAll_none (iB h H) hm;rw [z] at e;cases e
noncomputable def Xn (g h:Heap) (L:Addr):List (Addr×Obj):=(List.range h.objs.size).filterMap fun a=>if a=L\/(g.get? a).isSome=true then none else (h.get? a).map fun o=>(a,o)
def rest (g h:Heap) (L d:Addr):List (Addr×Obj):=(Xn g h L).filter fun p=>decide (p.1≠d)
structure Mod (K:W.Frag) (mg:Str->Option Value) (base:Heap):Prop where
 kin:K.In base
 glob:base.Ns mainGlobals mg
 blt:∃ mb,base.Ns builtinsNs mb/\∀ x:Str,x ≠ "__name__" -> mb x=bootBuiltins x
 nolimit:base.NoLimit
structure Cx where
 prog:Program
 w:World
 K:W.Frag
 mg:Str->Option Value
 base:Heap
 A:Around
 N:List Str
 s₀:Shared
 H₀:Hp
 env:Env
 outer:List Env
 stack:List Env
 ex:List Addr
 fn:Str->Bool
 calm:Bool
 pn:List (Addr×Obj)
 xe:Value->Shared->Prop
noncomputable def frs (l:List Env):List Addr:=l.filterMap (·.frame)
abbrev Cx.fs (X:Cx):List Addr:=frs X.outer
def gu (sc:Scope) (x:Str):Prop:=sc.names.lookup x=some .local\/sc.names.lookup x=some .cell\/sc.names.lookup x=some .free
def Loc (sc:Scope) (x:Str):Prop:=sc.names.lookup x=some .local\/sc.names.lookup x=some .cell
def Look (env:Env) (h:Heap) (m:Str->Option Value) (x:Str) (u:Value):Prop:=
 (env.kindOf x=some .local/\m x=some u)\/((env.kindOf x=some .cell\/env.kindOf x=some .free)/\∃ c,env.cells.lookup x=some c/\h.IsCell c (some u))
structure Cx.Ok (X:Cx):Prop where
 mod:Mod X.K X.mg X.base
 kind:X.env.scope.kind=.function
 glob:X.env.globals=mainGlobals
 blt:X.env.builtins=builtinsNs
 above:X.s₀.heap.objs.size<=X.env.locals
 inj:∀ x y c,X.env.cells.lookup x=some c->X.env.cells.lookup y=some c->x=y
 has:∀ x,(X.env.kindOf x=some .cell\/X.env.kindOf x=some .free)->∃ c,X.env.cells.lookup x=some c
 cab:∀ x c,X.fn x=true->X.env.cells.lookup x=some c->X.s₀.heap.objs.size<=c
 hd:X.calm=true->X.A.handled=none
 frames:X.A.frames=some X.stack
 stk:X.stack=X.outer\/(X.stack=X.env::X.outer/\X.env.frame=some X.env.locals)
 exf:∀ b∈X.ex,b≠X.env.locals/\∀ x c,X.env.cells.lookup x=some c->c≠b
 bs:∀ b o,X.base.get? b=some o->X.s₀.heap.get? b=some o/\X.H₀ b=none
 bsz:X.base.objs.size<=X.s₀.heap.objs.size
 noex:∀ b o,X.base.get? b=some o->b∉X.ex
 exfs:∀ b∈X.ex,b∉X.fs
 funs:X.s₀.heap.FunFrames X.base X.outer
 frf:∀ b∈X.fs,X.H₀ b=none
structure Inv (X:Cx) (pins:List (Addr×Obj)) (σ:List (Option V)) (H:Hp) (s:Shared):Prop where
 ok:X.Ok
 os:s.os=X.s₀.os
 bare:AllBare s.gens
 base:Un X.fs X.ex X.H₀ H X.s₀.heap s.heap
 loc:∃ m,s.heap.Ns X.env.locals m/\∀ (i:Nat) (x:Str) (v:V),X.N[i]?=some x->σ[i]?=some (some v)->gu X.env.scope x->∃ u,RelV v u/\Look X.env s.heap m x u
 cell:∀ x c,X.env.cells.lookup x=some c->∃ v,s.heap.IsCell c v
 free:H X.env.locals=none
 freeC:∀ x c,X.env.cells.lookup x=some c->H c=none
 pin:∀ p∈X.pn++pins,s.heap.get? p.1=some p.2/\H p.1=none/\p.1≠X.env.locals/\p.1∉X.fs/\∀ v,p.2.data≠.cell v
 hok:DX X.prog X.w H s.heap
 len:σ.length=X.N.length
section
variable {X:Cx} {pins:List (Addr×Obj)} {σ:List (Option V)} {H H':Hp} {s:Shared} {h':Heap}
theorem Cx.Ok.nofr (ok:X.Ok) {b:Addr} {o:Obj} (e:X.base.get? b=some o):b∉X.fs:=fun hb=>by
 have:=(ok.funs.mem hb).1;rw [e] at this;cases this
theorem Inv.bs (I:Inv X pins σ H s):∀ b o,X.base.get? b=some o->s.heap.get? b=some o/\H b=none:=fun b o e =>
 ⟨I.base.keep b o (I.ok.bs b o e).1 (I.ok.bs b o e).2 (I.ok.nofr e) (I.ok.noex b o e),I.base.free b o (I.ok.bs b o e).1 (I.ok.bs b o e).2 (I.ok.noex b o e)⟩
theorem Inv.bk (I:Inv X pins σ H s):∀ b o,X.base.get? b=some o->s.heap.get? b=some o:=fun b o e=>(I.bs b o e).1
theorem Inv.mod (I:Inv X pins σ H s):Mod X.K X.mg X.base:=I.ok.mod
theorem Inv.kIn (I:Inv X pins σ H s):X.K.In s.heap:=I.ok.mod.kin.keeps I.bk
theorem Inv.fr (I:Inv X pins σ H s):∃ m,Fr X.base X.env.locals s.heap m:=
 let ⟨m,hn,_⟩:=I.loc
 ⟨m,hn,I.bk,kr I.ok.bsz I.ok.above⟩
theorem Inv.lt (I:Inv X pins σ H s):X.env.locals < s.heap.objs.size:=let ⟨_,hn,_⟩:=I.loc;hn.lt
theorem Inv.sz (I:Inv X pins σ H s):X.s₀.heap.objs.size<=s.heap.objs.size:=kr I.ok.above (Nat.le_of_lt I.lt)
theorem Inv.nofs (I:Inv X pins σ H s) {a:Addr} (h:s.heap.objs.size<=a):a∉X.fs:=fun hb=>by
 obtain ⟨_,o,ho,_⟩:=I.ok.funs.mem hb;exact absurd (kq (lB ho) (kr I.sz h)) (mR _)
theorem Inv.cne (I:Inv X pins σ H s):∀ x c,X.env.cells.lookup x=some c->c≠X.env.locals:=fun x c e z=>by
 obtain ⟨v,o,ho,hd⟩:=I.cell x c e;obtain ⟨m,⟨o',es,ep,ho',hd',_⟩,_⟩:=I.loc;rw [z,ho'] at ho;cases ho;rw [hd'] at hd;cases hd
theorem Inv.funs (I:Inv X pins σ H s):s.heap.FunFrames X.base X.outer:=by
 have all:∀ (l:List Env),(∀ b∈frs l,b∈X.fs)->X.s₀.heap.FunFrames X.base l->s.heap.FunFrames X.base l:=by
  intro l
  induction l with
  | nil=>intro _ _;trivial
  | cons env r ih =>
   intro hs hl;obtain ⟨hk,⟨L,o,hf,hn,ho,hd⟩,hr⟩:=hl;have hL:L∈X.fs:=hs L (by unfold frs;rw [mK,hf];exact kZ);obtain ⟨sl,e⟩:=I.base.slot L o ho (I.ok.frf L hL) hL fun z=>I.ok.exfs L z hL
   exact ⟨hk,⟨L,_,hf,hn,e,hd⟩,ih (fun b hb=>hs b (by unfold frs;rw [mK,hf];exact kX _ hb)) hr⟩
 exact all X.outer (fun _ hb=>hb) I.ok.funs
theorem Inv.stack (I:Inv X pins σ H s):s.heap.FunFrames X.base X.stack:=by
 rcases I.ok.stk with e | ⟨e,hf⟩
 ·rw [e];exact I.funs
 ·rw [e];obtain ⟨m,hn,_⟩:=I.loc;refine .cons (by rw [I.ok.kind];decide) hf hn ?_ I.funs;exact Heap.get?_none_of_le (kr I.ok.bsz I.ok.above)
theorem Inv.stkSub (I:Inv X pins σ H s):∀ b∈frs X.stack,b∈X.env.locals::X.fs:=fun b hb=>by
 rcases I.ok.stk with e | ⟨e,hf⟩
 ·rw [e] at hb;exact kX _ hb
 ·rw [e] at hb;unfold frs at hb;rw [mK,hf] at hb;exact hb
theorem Inv.stkFree (I:Inv X pins σ H s):∀ b∈frs X.stack,H b=none:=fun b hb=>by
 rcases kh.mp (I.stkSub b hb) with e | hb
 ·rw [e];exact I.free
 ·obtain ⟨_,o,ho,_⟩:=I.ok.funs.mem hb;exact I.base.free b o ho (I.ok.frf b hb) fun z=>I.ok.exfs b z hb
theorem Inv.step {g':Array GenState} {t':Nat} {d':Drawn} {ch:List Addr} (I:Inv X pins σ H s)
    (hch:∀ b∈ch,(b∈X.ex\/X.s₀.heap.objs.size<=b)/\b≠X.env.locals/\(∀ x c,X.env.cells.lookup x=some c->c≠b)/\∀ p∈X.pn++pins,p.1≠b)
    (keep:∀ b o,b≠X.env.locals->b∉X.fs->b∉ch->s.heap.get? b=some o->H b=none->h'.get? b=some o)
    (slot:∀ b o,b≠X.env.locals->b∈X.fs->b∉ch->s.heap.get? b=some o->H b=none->∃ sl,h'.get? b=some { o with slots:=sl }) (free:∀ b o,b∉ch->s.heap.get? b=some o->H b=none->H' b=none)
    (there:∀ b o,b∉ch->s.heap.get? b=some o->∃ o',h'.get? b=some o')
    (tups:∀ b xs,H b=some (.tup xs)->H' b=some (.tup xs)) (frzs:∀ b o u,H b=some (.frz o u)->H' b=some (.frz o u)) (tbls:∀ b ps,H b=some (.tbl ps)->∃ more,H' b=some (.tbl (ps++more)))
    (ns:∀ m,s.heap.Ns X.env.locals m->h'.Ns X.env.locals m) (hok:DX X.prog X.w H' h') (hg:AllBare g') :
    Inv X pins σ H' { s with heap:=h',gens:=g',drawn:=d',toks:=t' }:=by
  have neL:∀ b o,X.s₀.heap.get? b=some o->b≠X.env.locals:=fun b o e=>lL (kq (lB e) I.ok.above)
  have neC:∀ b o,X.s₀.heap.get? b=some o->b∉X.ex->b∉ch:=fun b o e hx hb=>by
    rcases (hch b hb).1 with z | z
    · exact hx z
    · exact absurd (kq (lB e) z) (mR _)
  have cellK:∀ x c,X.env.cells.lookup x=some c->∀ v,s.heap.IsCell c v->h'.IsCell c v:=fun x c e v ⟨o,ho,hd⟩=>by
    have nch:c∉ch:=fun z=>(hch c z).2.2.1 x c e rfl
    by_cases hc:c∈X.fs
    · obtain ⟨sl,q⟩:=slot c o (I.cne x c e) hc nch ho (I.freeC x c e);exact ⟨_,q,hd⟩
    · exact ⟨o,keep c o (I.cne x c e) hc nch ho (I.freeC x c e),hd⟩
  refine ⟨I.ok,I.os,hg,⟨fun b o e n hb hx=>?_,fun b o e n hb hx=>?_,fun b o e n hx=>?_,fun b o e hx=>?_,fun b xs e=>tups b xs (I.base.tups b xs e),fun b o xs e=>frzs b o xs (I.base.frzs b o xs e),fun b ps e=>?_⟩,?_,fun x c e=>?_,?_,fun x c e=>?_,fun p hp=>?_,hok,I.len⟩
  · exact keep b o (neL b o e) hb (neC b o e hx) (I.base.keep b o e n hb hx) (I.base.free b o e n hx)
  · obtain ⟨sl,e1⟩:=I.base.slot b o e n hb hx;obtain ⟨sl',e2⟩:=slot b _ (neL b o e) hb (neC b o e hx) e1 (I.base.free b o e n hx);exact ⟨sl',e2⟩
  · obtain ⟨o',e1⟩:=I.base.there b o e hx;exact free b o' (neC b o e hx) e1 (I.base.free b o e n hx)
  · obtain ⟨o',e1⟩:=I.base.there b o e hx;exact there b o' (neC b o e hx) e1
  · obtain ⟨m1,e1⟩:=I.base.tbls b ps e;obtain ⟨m2,e2⟩:=tbls b _ e1;exact ⟨m1++m2,by rw [e2,Array.append_assoc]⟩
  · obtain ⟨m,hn,hl⟩:=I.loc;refine ⟨m,ns m hn,fun i x v e1 e2 e3=>?_⟩;obtain ⟨u,r,l⟩:=hl i x v e1 e2 e3;refine ⟨u,r,?_⟩;rcases l with l | ⟨k,c,e,z⟩
    · exact .inl l
    · exact .inr ⟨k,c,e,cellK x c e _ z⟩
  · obtain ⟨v,z⟩:=I.cell x c e;exact ⟨v,cellK x c e v z⟩
  · obtain ⟨m,⟨o,_,_,ho,_⟩,_⟩:=I.loc;exact free _ o (fun z=>(hch _ z).2.1 rfl) ho I.free
  · obtain ⟨v,o,ho,hd⟩:=I.cell x c e;exact free c o (fun z=>(hch c z).2.2.1 x c e rfl) ho (I.freeC x c e)
  · obtain ⟨e,n,ne,nf,d⟩:=I.pin p hp;have nch:p.1∉ch:=fun z=>(hch p.1 z).2.2.2 p hp rfl
    exact ⟨keep p.1 p.2 ne nf nch e n,free p.1 p.2 nch e n,ne,nf,d⟩
theorem Inv.un {t':Nat} (I:Inv X pins σ H s) (u:Un X.fs [] H H' s.heap h') (hok:DX X.prog X.w H' h'):Inv X pins σ H' { s with heap:=h',toks:=t' }:=by
 obtain ⟨m,⟨o,es,ep,ho,r⟩,_⟩:=id I.loc;obtain ⟨sl,hL⟩:=u.any ho I.free (by simp);exact I.step (g':=s.gens) (d':=s.drawn) (ch:=[]) (fun _ z=>nomatch z) (fun b o _ hb _ e n=>u.keep b o e n hb (by simp)) (fun b o _ hb _ e n=>u.slot b o e n hb (by simp)) (fun b o _ e n=>u.free b o e n (by simp)) (fun b o _ e=>u.there b o e (by simp)) u.tups u.frzs u.tbls (fun m' hm=>by
  obtain ⟨o',es',ep',ho',r'⟩:=hm;rw [ho] at ho';cases ho';exact ⟨_,es',ep',hL,r'⟩) hok I.bare
theorem Inv.call {g':Array GenState} {t':Nat} {d':Drawn} {ch:List Addr} (I:Inv X pins σ H s) (u:Un (frs X.stack) ch H H' s.heap h') (hok:DX X.prog X.w H' h') (hg:AllBare g')
    (hch:∀ b∈ch,(b∈X.ex\/X.s₀.heap.objs.size<=b)/\b≠X.env.locals/\(∀ x c,X.env.cells.lookup x=some c->c≠b)/\∀ p∈X.pn++pins,p.1≠b) :
    Inv X pins σ H' { s with heap:=h',gens:=g',drawn:=d',toks:=t' }:=by
  obtain ⟨m,⟨o,es,ep,ho,r⟩,_⟩:=id I.loc;obtain ⟨sl,hL⟩:=u.any ho I.free fun z=>(hch _ z).2.1 rfl
  exact I.step (ch:=ch) hch (fun b o hL hb hc e n=>u.keep b o e n (fun z=>(kh.mp (I.stkSub b z)).elim hL hb) hc) (fun b o _ _ hc e n=>u.any e n hc) (fun b o hc e n=>u.free b o e n hc) (fun b o hc e=>u.there b o e hc) u.tups u.frzs u.tbls (fun m' hm=>by
    obtain ⟨o',es',ep',ho',r'⟩:=hm;rw [ho] at ho';cases ho';exact ⟨_,es',ep',hL,r'⟩) hok hg
theorem Inv.turned {t':Nat} {it:Addr} (I:Inv X pins σ H s) (k:∀ b o,b≠it->s.heap.get? b=some o->h'.get? b=some o) (hn:H it=none) (hL:it≠X.env.locals)
    (h1:it∈X.ex\/X.s₀.heap.objs.size<=it) (h2:∀ x c,X.env.cells.lookup x=some c->c≠it) (h3:∀ p∈X.pn++pins,p.1≠it):Inv X pins σ H { s with heap:=h',toks:=t' }:=by
  have nit:∀ b u,H b=some u->b≠it:=fun b u e z=>by rw [z,hn] at e;cases e
  refine I.step (g':=s.gens) (d':=s.drawn) (ch:=[it]) (fun b hb=>?_) (fun b o _ _ hc e _=>k b o (fun z=>hc (by simp [z])) e) (fun b o _ _ hc e _=>⟨o.slots,k b o (fun z=>hc (by simp [z])) e⟩) (fun _ _ _ _ n=>n)
    (fun b o hc e=>⟨o,k b o (fun z=>hc (by simp [z])) e⟩) (fun _ _ e=>e) (fun _ _ _ e=>e) (fun b ps e=>⟨#[],by rw [e];simp⟩) (fun m hm=>?_) (fun b u e=>?_) I.bare
  · have e:b=it:=by simpa using hb
    subst e;exact ⟨h1,hL,h2,h3⟩
  · obtain ⟨o,es,ep,ho,r⟩:=hm;exact ⟨o,es,ep,k _ o (Ne.symm hL) ho,r⟩
  · refine (I.hok b u e).stay (fun c v hc q=>k c v ?_ q) (fun _ q=>q) fun _ _ q=>q
    rcases hc with z | z
    · rw [z];exact nit b u e
    · exact nit c _ z
theorem Inv.tok (I:Inv X pins σ H s) (t:Nat):Inv X pins σ H { s with toks:=t }:=I.un (h':=s.heap) (t':=t) Un.refl I.hok
theorem Inv.kept {t':Nat} (I:Inv X pins σ H s) (k:∀ b u,s.heap.get? b=some u->h'.get? b=some u):Inv X pins σ H { s with heap:=h',toks:=t' }:=I.un (Un.kept k) (I.hok.kept k)
theorem Inv.laid {a:Addr} {o:HO} {t':Nat} (I:Inv X pins σ H s) (k:∀ b u,s.heap.get? b=some u->h'.get? b=some u) (hp:s.heap.objs.size<=a) (new:Aa X.prog X.w (upd H a o) h' a o) :
    Inv X pins σ (upd H a o) { s with heap:=h',toks:=t' }:=I.un (Un.laid k hp (I.hok.fresh hp)) (I.hok.laid k hp new)
theorem Inv.write {x e:Addr} {o:HO} {t':Nat} (I:Inv X pins σ H s) (mu:cw (H x)) (he:e=x\/H e=some (.own x)) (k:∀ b u,b≠e->s.heap.get? b=some u->h'.get? b=some u) (heo:∃ u,h'.get? e=some u)
    (new:Aa X.prog X.w (upd H x o) h' x o):Inv X pins σ (upd H x o) { s with heap:=h',toks:=t' }:=I.un (Un.write mu he k heo) (I.hok.write mu he k heo new)
theorem Inv.weak {σ':List (Option V)} (I:Inv X pins σ H s) (hl:σ'.length=σ.length) (w:∀ (i:Nat) v,σ'[i]?=some (some v)->σ[i]?=some (some v)):Inv X pins σ' H s:=
 ⟨I.ok,I.os,I.bare,I.base,let ⟨m,hn,hl'⟩:=I.loc;⟨m,hn,fun i x v e1 e2 e3=>hl' i x v e1 (w i v e2) e3⟩,I.cell,I.free,I.freeC,I.pin,I.hok,hl.trans I.len⟩
theorem Inv.pins_of {pins':List (Addr×Obj)} (I:Inv X pins σ H s) (h:∀ p∈pins',s.heap.get? p.1=some p.2/\H p.1=none/\p.1≠X.env.locals/\p.1∉X.fs/\∀ v,p.2.data≠.cell v):Inv X pins' σ H s:=
 ⟨I.ok,I.os,I.bare,I.base,I.loc,I.cell,I.free,I.freeC,fun p hp=>(lC.mp hp).elim (fun z=>I.pin p (ko _ z)) (h p),I.hok,I.len⟩
theorem Kc {N:List Str} (hN:N.Nodup) {i j:Nat} {x:Str} (a:N[i]?=some x) (b:N[j]?=some x):i=j:=by
 obtain ⟨h1,e1⟩:=kU.mp a;obtain ⟨h2,e2⟩:=kU.mp b;exact (mz hN).mp (e1.trans e2.symm)
theorem Hk {M:Model} {A:Around} {E:Value->Shared->Prop} {i:Nat} {x:Str} {v:V} {u:Value} {Q:Unit->Shared->Prop} (I:Inv X pins σ H s) (hN:X.N.Nodup) (hi:X.N[i]?=some x) (hx:Loc X.env.scope x) (r:RelV v u)
    (h:∀ s',Inv X pins (σ.set i (some v)) H s'->(∃ a,Heap.SameBut a s.heap s'.heap/\(a=X.env.locals\/X.env.cells.lookup x=some a))->Q () s') (hf:X.fn x=true\/X.env.scope.names.lookup x=some .local:=by first | exact .inl rfl | exact .inr rfl | assumption):wpAny M A (storeName X.env x u) Q E s:=by
  obtain ⟨m,hn,hl⟩:=id I.loc;have hcls:(X.env.scope.kind == .class || (X.env.scope.kind == .module && X.env.locals != X.env.globals))=false:=by rw [I.ok.kind];rfl
  have hiσ:i < σ.length:=by rw [I.len];exact (kU.mp hi).1
  have cne:=I.cne;have tracked:∀ {a:Addr} {h':Heap},(∃ o,s.heap.get? a=some o/\H a=none)->Heap.SameBut a s.heap h'->DX X.prog X.w H h':=fun {a h'} ha hs b ob e=>by
    obtain ⟨_,_,hfree⟩:=ha;refine (I.hok b ob e).stay (fun c w' hc q=>(hs.2 c ?_).trans q) (fun _ q=>q) fun _ _ q=>q
    rintro rfl;rcases hc with rfl | hc
    · rw [hfree] at e;cases e
    · rw [hfree] at hc;cases hc
  rcases hx with hk | hk
  · refine wpAny_storeName_local hk hn (fun h' hn' hs=>?_) hcls;obtain ⟨oL,_,_,hoL,_⟩:=id hn;refine h _ ⟨I.ok,I.os,I.bare,⟨fun b o e n hb hx=>?_,fun b o e n hb hx=>?_,I.base.free,fun b o e hx=>?_,I.base.tups,I.base.frzs,I.base.tbls⟩,⟨_,hn',fun j y v' e1 e2 e3=>?_⟩,fun y c e=>?_,I.free,I.freeC,fun p hp=>?_,tracked ⟨oL,hoL,I.free⟩ hs,by simpa using I.len⟩ ⟨_,hs,.inl rfl⟩
    · exact (hs.2 b (lL (kq (lB e) I.ok.above))).trans (I.base.keep b o e n hb hx)
    · obtain ⟨sl,e1⟩:=I.base.slot b o e n hb hx;exact ⟨sl,(hs.2 b (lL (kq (lB e) I.ok.above))).trans e1⟩
    · obtain ⟨o',e1⟩:=I.base.there b o e hx;exact ⟨o',(hs.2 b (lL (kq (lB e) I.ok.above))).trans e1⟩
    · by_cases hj:j=i
      · subst hj;rw [hi] at e1;cases e1;rw [lO hiσ] at e2;cases e2;exact ⟨u,r,.inl ⟨hk,by simp⟩⟩
      · rw [lG (Ne.symm hj)] at e2;obtain ⟨u',r',q⟩:=hl j y v' e1 e2 e3;refine ⟨u',r',?_⟩;rcases q with ⟨k,e⟩ | ⟨k,c,e,z⟩
        · refine .inl ⟨k,?_⟩;have:y≠x:=fun e=>hj (Kc hN e1 (e▸hi))
          simp [this,e]
        · exact .inr ⟨k,c,e,z.sameBut hs (cne y c e)⟩
    · obtain ⟨w',z⟩:=I.cell y c e;exact ⟨w',z.sameBut hs (cne y c e)⟩
    · obtain ⟨e,n,ne,nf,d⟩:=I.pin p hp;exact ⟨(hs.2 p.1 ne).trans e,n,ne,nf,d⟩
  · have hfn:X.fn x=true:=by
      rcases hf with z | z
      · exact z
      · rw [z] at hk;cases hk
    obtain ⟨c,hc⟩:=I.ok.has x (.inl hk);obtain ⟨w',z⟩:=I.cell x c hc;refine wpAny_storeName_cell I.ok.kind hk hc z (fun h' hc' hs=>?_);obtain ⟨oc,hoc,hocd⟩:=id z;refine h { s with heap:=h' } ⟨I.ok,I.os,I.bare,⟨fun b o e n hb hx=>?_,fun b o e n hb hx=>?_,I.base.free,fun b o e hx=>?_,I.base.tups,I.base.frzs,I.base.tbls⟩,⟨m,hn.sameBut hs (Ne.symm (cne x c hc)),fun j y v' e1 e2 e3=>?_⟩,fun y c' e=>?_,I.free,I.freeC,fun p hp=>?_,tracked ⟨oc,hoc,I.freeC x c hc⟩ hs,by simpa using I.len⟩ ⟨c,hs,.inr hc⟩
    · exact (hs.2 b (lL (kq (lB e) (I.ok.cab x c hfn hc)))).trans (I.base.keep b o e n hb hx)
    · obtain ⟨sl,e1⟩:=I.base.slot b o e n hb hx;exact ⟨sl,(hs.2 b (lL (kq (lB e) (I.ok.cab x c hfn hc)))).trans e1⟩
    · obtain ⟨o',e1⟩:=I.base.there b o e hx;exact ⟨o',(hs.2 b (lL (kq (lB e) (I.ok.cab x c hfn hc)))).trans e1⟩
    · by_cases hj:j=i
      · subst hj;rw [hi] at e1;cases e1;rw [lO hiσ] at e2;cases e2;exact ⟨u,r,.inr ⟨.inl hk,c,hc,hc'⟩⟩
      · rw [lG (Ne.symm hj)] at e2;obtain ⟨u',r',q⟩:=hl j y v' e1 e2 e3;refine ⟨u',r',?_⟩;rcases q with q | ⟨k,c',e,z'⟩
        · exact .inl q
        · refine .inr ⟨k,c',e,z'.sameBut hs ?_⟩;rintro rfl;exact hj (Kc hN e1 (I.ok.inj _ _ _ e hc▸hi))
    · by_cases hcc:c'=c
      · subst hcc;exact ⟨_,hc'⟩
      · obtain ⟨w2,z2⟩:=I.cell y c' e;exact ⟨w2,z2.sameBut hs hcc⟩
    · obtain ⟨e,n,ne,nf,d⟩:=I.pin p hp;refine ⟨(hs.2 p.1 ?_).trans e,n,ne,nf,d⟩;intro q;rw [q,hoc] at e;have q':oc=p.2:=Option.some.inj e;exact d w' (by rw [<- q'];exact hocd)
theorem Du {M:Model} {A:Around} {E:Value->Shared->Prop} {i:Nat} {x:Str} {v:V} {u:Value} {Q:Unit->Shared->Prop} (I:Inv X pins σ H s) (hN:X.N.Nodup) (hi:X.N[i]?=some x) (hx:Loc X.env.scope x) (r:RelV v u)
    (h:∀ s',Inv X pins (σ.set i (some v)) H s'->Q () s') (hf:X.fn x=true\/X.env.scope.names.lookup x=some .local:=by first | exact .inl rfl | exact .inr rfl | assumption):wpAny M A (storeName X.env x u) Q E s:=
  Hk I hN hi hx r (fun s' I' _=>h s' I') hf
theorem Inv.call' {s':Shared} {ch:List Addr} (I:Inv X pins σ H s) (ho:s'.os=s.os) (u:Un (frs X.stack) ch H H' s.heap s'.heap) (hok:DX X.prog X.w H' s'.heap) (hg:AllBare s'.gens)
    (hch:∀ b∈ch,(b∈X.ex\/X.s₀.heap.objs.size<=b)/\b≠X.env.locals/\(∀ x c,X.env.cells.lookup x=some c->c≠b)/\∀ p∈X.pn++pins,p.1≠b):Inv X pins σ H' s':=by
  obtain ⟨h',g',d',t',o'⟩:=s';have e:o'=s.os:=ho;subst e;exact I.call (g':=g') (t':=t') (d':=d') u hok hg hch
end
abbrev XK:=Value->Option Addr->Hp->Prop
noncomputable abbrev St:=List (Option V)
abbrev VK:=V->Hp->Prop
abbrev TE:=St->Hp->VK->Prop
abbrev TT:=St->Hp->(Bool->Hp->Prop)->Prop
abbrev TA:=St->Hp->(List V->Hp->Prop)->Prop
structure Ends where
 nx:St->Hp->Prop
 rt:VK
 bk:St->Hp->Prop:=fun _ _=>False
 ct:St->Hp->Prop:=fun _ _=>False
abbrev TS:=Ends->St->Hp->Prop
def EP (X:Cx) (pins:List (Addr×Obj)) (σ:St) (Q:VK) (u:Value) (s':Shared):Prop:=∃ v H',Inv X pins σ H' s'/\RelV v u/\Q v H'
def TP (X:Cx) (pins:List (Addr×Obj)) (σ:St) (Q:Bool->Hp->Prop) (b:Bool) (s':Shared):Prop:=∃ H',Inv X pins σ H' s'/\Q b H'
def AP (X:Cx) (pins:List (Addr×Obj)) (σ:St) (Q:List V->Hp->Prop) (us:List Value) (s':Shared):Prop:=∃ vs H',Inv X pins σ H' s'/\AC vs us/\Q vs H'
def SP (X:Cx) (pins:List (Addr×Obj)) (D:Ends) (f:Flow) (s':Shared):Prop:=
 match f with
 | .next=>∃ σ' H',Inv X pins σ' H' s'/\D.nx σ' H'
 | .brk=>∃ σ' H',Inv X pins σ' H' s'/\D.bk σ' H'
 | .cont=>∃ σ' H',Inv X pins σ' H' s'/\D.ct σ' H'
 | .ret u=>∃ v σ' H',Inv X pins σ' H' s'/\RelV v u/\D.rt v H'
def PE (X:Cx) (e:Expr) (t:TE):Prop:=
 ∀ (pins:List (Addr×Obj)) (s:Shared) (σ:St) (H:Hp) (Q:VK),Inv X pins σ H s->t σ H Q->wpAny (model X.prog X.w) X.A (eval e X.env) (EP X pins σ Q) X.xe s
def PT (X:Cx) (e:Expr) (t:TT):Prop:=
 ∀ (pins:List (Addr×Obj)) (s:Shared) (σ:St) (H:Hp) (Q:Bool->Hp->Prop),Inv X pins σ H s->t σ H Q->wpAny (model X.prog X.w) X.A (isTrue e X.env (eval e X.env)) (TP X pins σ Q) X.xe s
def PW (X:Cx) (e:Expr) (t:TT):Prop:=
 ∀ (whole:Sem Value) (pins:List (Addr×Obj)) (s:Shared) (σ:St) (H:Hp) (Q:Bool->Hp->Prop),Inv X pins σ H s->t σ H Q->wpAny (model X.prog X.w) X.A (isTrue e X.env whole) (TP X pins σ Q) X.xe s
theorem PW.pt {X:Cx} {e:Expr} {t:TT} (h:PW X e t):PT X e t:=h _
def PA (X:Cx) (es:List Expr) (t:TA):Prop:=
 ∀ (pos:Pos) (pins:List (Addr×Obj)) (s:Shared) (σ:St) (H:Hp) (Q:List V->Hp->Prop),Inv X pins σ H s->t σ H Q->wpAny (model X.prog X.w) X.A (spliced (backTo pos (starEach es X.env))) (AP X pins σ Q) X.xe s
def PS (X:Cx) (st:Stmt) (t:TS):Prop:=
 ∀ (pins:List (Addr×Obj)) (s:Shared) (σ:St) (H:Hp) (D:Ends),Inv X pins σ H s->t D σ H->wpAny (model X.prog X.w) X.A (exec st X.env) (SP X pins D) X.xe s
def Cq (X:Cx) (st:List Stmt) (t:TS):Prop:=
 ∀ (pins:List (Addr×Obj)) (s:Shared) (σ:St) (H:Hp) (D:Ends),Inv X pins σ H s->t D σ H->wpAny (model X.prog X.w) X.A (execs st X.env) (SP X pins D) X.xe s
theorem An {α:Type} {t:Sem α} {Q Q':α->Shared->Prop} {M:Model} {A:Around} {E:Value->Shared->Prop} {s:Shared} (h:wpAny M A t Q E s) (hQ:∀ a s,Q a s->Q' a s):wpAny M A t Q' E s:=wpAny_mono h hQ fun _ _ x=>x
section
variable {X:Cx}
abbrev Co (i:Nat):TE:=fun σ H Q=>∃ v,σ[i]?=some (some v)/\Q v H
abbrev tC (v:V):TE:=fun _ H Q=>Q v H
theorem Ru {i:Nat} {x:Str} {pos:Pos} (hN:X.N[i]?=some x) (hv:gu X.env.scope x) (hd:(x == ("__debug__" : Str))=false:=by decide) (hcd:(x == ("__classdict__" : Str))=false:=by decide):PE X (.Name x pos) (Co i):=by
 intro pins s σ H Q I h;obtain ⟨v,e,h⟩:=h;obtain ⟨m,hn,hl⟩:=I.loc;obtain ⟨u,r,l⟩:=hl i x v hN e hv;have fin:EP X pins σ Q u s:=⟨v,H,I,r,h⟩;rcases l with ⟨hk,hm⟩ | ⟨hk,c,hc,hcell⟩
 ·exact wpAny_Name (wpAny_loadName_local I.ok.kind hk hn hm fin) hd
 ·rcases hk with hk | hk
  ·exact wpAny_Name (wpAny_loadName_cell I.ok.kind hk hc hcell fin) hd
  ·exact wpAny_Name (wpAny_loadName_free I.ok.kind hk hc hcell fin hcd) hd
theorem aS {i j pos}:PE X (.Constant (.int i) j pos) (tC (.int i)):=fun _ _ _ H _ I h=>wpAny_Constant_int ⟨.int i,H,I.tok _,⟨_,rfl⟩,h⟩
theorem fA {b j pos}:PE X (.Constant (.bool b) j pos) (tC (.bl b)):=fun _ _ _ H _ I h=>Constant_bool ⟨.bl b,H,I,rfl,h⟩
theorem aQ {j pos}:PE X (.Constant .none j pos) (tC .non):=fun _ _ _ H _ I h=>Constant_none ⟨.non,H,I,rfl,h⟩
theorem aN {x j pos}:PE X (.Constant (.str x) j pos) (tC (.str x)):=fun _ _ _ H _ I h=>Calls.Constant_str ⟨.str x,H,I.tok _,⟨_,rfl⟩,h⟩
def Gl (X:Cx) (x:Str):Prop:=X.env.kindOf x=some .globalImplicit
theorem EG {E:Value->Shared->Prop} {pins:List (Addr×Obj)} {s:Shared} {σ:St} {H:Hp} {x:Str} {u:Value} {pos:Pos} {Q:Value->Shared->Prop} (I:Inv X pins σ H s) (hg:Gl X x) (hm:X.mg x=some u) (h:Q u s)
    (hd:(x == ("__debug__" : Str))=false:=by decide):wpAny (model X.prog X.w) X.A (eval (.Name x pos) X.env) Q E s:=
  Calls.Name_function_global I.ok.kind hg (Calls.loadGlobal_global (by rw [I.ok.glob];exact I.mod.glob.keeps I.bk) hm h) hd
theorem Ey {E:Value->Shared->Prop} {pins:List (Addr×Obj)} {s:Shared} {σ:St} {H:Hp} {x:Str} {u:Value} {pos:Pos} {Q:Value->Shared->Prop} (I:Inv X pins σ H s) (hg:Gl X x) (hm:X.mg x=none) (hv:bootBuiltins x=some u) (h:Q u s)
    (hn:x ≠ "__name__" := by decide) (hd:(x == ("__debug__" : Str))=false:=by decide):wpAny (model X.prog X.w) X.A (eval (.Name x pos) X.env) Q E s:=by
  obtain ⟨mb,h1,h2⟩:=I.mod.blt;exact Calls.Name_function_global I.ok.kind hg (Calls.loadGlobal_builtin (by rw [I.ok.glob];exact I.mod.glob.keeps I.bk) hm (by rw [I.ok.blt];exact h1.keeps I.bk) ((h2 x hn).trans hv) h) hd
theorem WN {x:Str} {v:V} {u:Value} {pos:Pos} (hg:Gl X x) (hm:X.mg x=some u) (r:RelV v u) (hd:(x == ("__debug__" : Str))=false:=by decide):PE X (.Name x pos) (tC v):=
 fun _ _ _ H _ I h=>EG I hg hm ⟨v,H,I,r,h⟩ hd
theorem WR {x:Str} {v:V} {u:Value} {pos:Pos} (hg:Gl X x) (hm:X.mg x=none) (hv:bootBuiltins x=some u) (r:RelV v u) (hn:x ≠ "__name__" := by decide) (hd:(x == ("__debug__" : Str))=false:=by decide):PE X (.Name x pos) (tC v):=
 fun _ _ _ H _ I h=>Ey I hg hm hv ⟨v,H,I,r,h⟩ hn hd
variable {a b:Expr} {ta tb:TE} {pos:Pos}
variable {tA YB:TT} {rest:List Expr}
abbrev dS (t u:TT):TT:=fun σ H Q=>t σ H fun c H1=>if c=true then u σ H1 Q else Q false H1
abbrev jU (t u:TT):TT:=fun σ H Q=>t σ H fun c H1=>if c=true then Q true H1 else u σ H1 Q
abbrev dO (t:TT):TT:=fun σ H Q=>t σ H fun c H1=>Q (!c) H1
theorem Vq (ha:PT X a tA):PW X (.BoolOp .And [a] pos) tA:=by
 intro wh pins s σ H Q I h;refine isTrue_and (An (ha pins s σ H Q I h) fun c s1 e=>?_);cases c with
 | true=>exact isTrue_and_nil e
 | false=>exact e
theorem Zx (ha:PT X a tA):PW X (.BoolOp .Or [a] pos) tA:=by
 intro wh pins s σ H Q I h;refine isTrue_or (An (ha pins s σ H Q I h) fun c s1 e=>?_);cases c with
 | false=>exact isTrue_or_nil e
 | true=>exact e
theorem Zy (ha:PT X a tA) (hb:PW X (.BoolOp .And (b::rest) pos) YB):PW X (.BoolOp .And (a::b::rest) pos) (dS tA YB):=by
 intro wh pins s σ H Q I h;refine isTrue_and (An (ha pins s σ H _ I h) fun c s1 ⟨H1,I1,q1⟩=>?_);cases c with
 | true=>exact hb wh pins s1 σ H1 Q I1 q1
 | false=>exact ⟨H1,I1,q1⟩
theorem eU (ha:PT X a tA) (hb:PW X (.BoolOp .Or (b::rest) pos) YB):PW X (.BoolOp .Or (a::b::rest) pos) (jU tA YB):=by
 intro wh pins s σ H Q I h;refine isTrue_or (An (ha pins s σ H _ I h) fun c s1 ⟨H1,I1,q1⟩=>?_);cases c with
 | true=>exact ⟨H1,I1,q1⟩
 | false=>exact hb wh pins s1 σ H1 Q I1 q1
theorem Zz (ha:PT X a tA):PT X (.UnaryOp .Not a pos) (dO tA):=by
 intro pins s σ H Q I h;exact isTrue_not (ha pins s σ H (fun c H1=>Q (!c) H1) I h)
abbrev YC (ta tb:TE):TE:=fun σ H Q=>ta σ H fun x H1=>∃ c,x=.bl c/\if c=true then tb σ H1 Q else Q (.bl false) H1
abbrev dM (ta tb:TE):TE:=fun σ H Q=>ta σ H fun x H1=>∃ c,x=.bl c/\if c=true then Q (.bl true) H1 else tb σ H1 Q
abbrev Xw (ta:TE):TE:=fun σ H Q=>ta σ H fun x H1=>∃ c,x=.bl c/\Q (.bl (!c)) H1
theorem aO {op} {t:TE} (h:PE X a t):PE X (.BoolOp op [a] pos) t:=fun pins s σ H Q I hw=>BoolOp_one (h pins s σ H Q I hw)
theorem aU (ha:PE X a ta) (hb:PE X (.BoolOp .And (b::rest) pos) tb):PE X (.BoolOp .And (a::b::rest) pos) (YC ta tb):=by
 intro pins s σ H Q I h;refine BoolOp_and (An (ha pins s σ H _ I h) fun v s1 ⟨x,H1,I1,r1,q1⟩=>?_);obtain ⟨c,rfl,q1⟩:=q1;cases r1;refine wpAny_truthy_bool ?_;cases c with
 | true=>exact hb pins s1 σ H1 Q I1 q1
 | false=>exact ⟨.bl false,H1,I1,rfl,q1⟩
theorem ee (ha:PE X a ta) (hb:PE X (.BoolOp .Or (b::rest) pos) tb):PE X (.BoolOp .Or (a::b::rest) pos) (dM ta tb):=by
 intro pins s σ H Q I h;refine BoolOp_or (An (ha pins s σ H _ I h) fun v s1 ⟨x,H1,I1,r1,q1⟩=>?_);obtain ⟨c,rfl,q1⟩:=q1;cases r1;refine wpAny_truthy_bool ?_;cases c with
 | false=>exact hb pins s1 σ H1 Q I1 q1
 | true=>exact ⟨.bl true,H1,I1,rfl,q1⟩
theorem aP (ha:PE X a ta):PE X (.UnaryOp .Not a pos) (Xw ta):=by
 intro pins s σ H Q I h;refine UnaryOp_ (An (ha pins s σ H _ I h) fun v s1 ⟨x,H1,I1,r1,q1⟩=>?_);obtain ⟨c,rfl,q1⟩:=q1;cases r1;exact not_of (wpAny_truthy_bool ⟨.bl (!c),H1,I1,rfl,q1⟩)
end
def Cm (K:W.Frag) (H:Hp) (a:Addr) (xs:List V):Prop:=
 Rd H a (.lst xs) \/
  ∃ (o:Obj) (its:Array Value) (n:Nat),K.lookup a=some o/\o.cls=.type "list" /\ o.dict=none/\o.data=.seq its n/\its.size<=sizeLine/\AC xs its.toList
def DW (K:W.Frag) (H:Hp) (a:Addr) (xs:List V):Prop:=
 Rd H a (.tup xs) \/
  ∃ (o:Obj) (its:Array Value) (n:Nat),K.lookup a=some o/\o.cls=.type "tuple" /\ o.data=.seq its n/\its.size<=sizeLine/\AC xs its.toList
noncomputable def jI:Value->Option V
 | .none=>some .non
 | .bool b=>some (.bl b)
 | .int i _=>some (.int i)
 | .str x _=>some (.str x)
 | .bytes b _=>some (.byt b)
 | .float b _=>some (.flt b)
 | .ref a=>some (.ref a)
 | .type n=>some (.ty n)
 | _=>none
theorem RelV.abs {x:V} {u:Value} (r:RelV x u):jI u=some x:=by
 cases x with
 | non=>cases r;rfl
 | bl _=>cases r;rfl
 | int _=>obtain ⟨t,rfl⟩:=r;rfl
 | str _=>obtain ⟨t,rfl⟩:=r;rfl
 | byt _=>obtain ⟨t,rfl⟩:=r;rfl
 | flt _=>obtain ⟨t,rfl⟩:=r;rfl
 | ref _=>cases r;rfl
 | ty _=>cases r;rfl
theorem RelV.inj {x y:V} {u:Value} (r:RelV x u) (q:RelV y u):x=y:=Option.some.inj (r.abs.symm.trans q.abs)
theorem AC.inj:∀ {xs ys:List V} {us:List Value},AC xs us->AC ys us->xs=ys
 | _,_,_,.nil,.nil=>rfl
 | _,_,_,.cons r t,.cons r' t'=>by rw [r.inj r',AC.inj t t']
section
variable {X:Cx} {pins:List (Addr×Obj)} {σ:St} {H:Hp} {s:Shared} {a:Addr} {xs ys:List V}
theorem Inv.list (I:Inv X pins σ H s) (h:Cm X.K H a xs):∃ its:List Value,AC xs its/\PlainL s.heap a its.toArray/\xs.length<=sizeLine:=by
 rcases h with h | ⟨o,its,n,hk,hc,hd,hs,hz,r⟩
 ·obtain ⟨z,its,n,r,e⟩:=h.ok I.hok;exact ⟨its,r,⟨_,n,e,rfl,rfl,rfl⟩,z⟩
 ·refine ⟨its.toList,r,⟨o,n,I.kIn a o hk,hc,hd,by simpa using hs⟩,?_⟩;have e:=r.length;simp only [Array.length_toList] at e;omega
theorem Inv.tuple (I:Inv X pins σ H s) (h:DW X.K H a xs):∃ its:List Value,AC xs its/\IsTup s.heap a its.toArray/\xs.length<=sizeLine:=by
 rcases h with h | ⟨o,its,n,hk,hc,hs,hz,r⟩
 ·obtain ⟨z,its,r,p⟩:=h.ok I.hok;exact ⟨its,r,p.tup,z⟩
 ·refine ⟨its.toList,r,⟨o,I.kIn a o hk,hc,n,by simpa using hs⟩,?_⟩;have e:=r.length;simp only [Array.length_toList] at e;omega
theorem Inv.list_inj (I:Inv X pins σ H s) (h:Cm X.K H a xs) (h':Cm X.K H a ys):xs=ys:=by
 obtain ⟨its,r,⟨o,n,e,_,_,d⟩,_⟩:=I.list h;obtain ⟨its',r',⟨o',n',e',_,_,d'⟩,_⟩:=I.list h';rw [e] at e';cases e';rw [d] at d';injection d' with d1 _
 have:its=its':=by simpa using congrArg Array.toList d1
 subst this;exact r.inj r'
theorem Inv.tuple_inj (I:Inv X pins σ H s) (h:DW X.K H a xs) (h':DW X.K H a ys):xs=ys:=by
 obtain ⟨its,r,⟨o,e,_,n,d⟩,_⟩:=I.tuple h;obtain ⟨its',r',⟨o',e',_,n',d'⟩,_⟩:=I.tuple h';rw [e] at e';cases e';rw [d] at d';injection d' with d1 _
 have:its=its':=by simpa using congrArg Array.toList d1
 subst this;exact r.inj r'
end
noncomputable abbrev Cx.wish (X:Cx) (E:Value->Shared->Prop):Cx:={ X with xe:=E }
noncomputable abbrev Cx.nox (X:Cx):Cx:=X.wish fun _ _=>False
theorem Cx.Ok.wish {X:Cx} (ok:X.Ok) (E:Value->Shared->Prop):(X.wish E).Ok:=
 ⟨ok.mod,ok.kind,ok.glob,ok.blt,ok.above,ok.inj,ok.has,ok.cab,ok.hd,ok.frames,ok.stk,ok.exf,ok.bs,ok.bsz,ok.noex,ok.exfs,ok.funs,ok.frf⟩
theorem Cx.Ok.unwish {X:Cx} {E:Value->Shared->Prop} (ok:(X.wish E).Ok):X.Ok:=
 ⟨ok.mod,ok.kind,ok.glob,ok.blt,ok.above,ok.inj,ok.has,ok.cab,ok.hd,ok.frames,ok.stk,ok.exf,ok.bs,ok.bsz,ok.noex,ok.exfs,ok.funs,ok.frf⟩
section
variable {X:Cx} {pins:List (Addr×Obj)} {σ:St} {H:Hp} {s:Shared} {E:Value->Shared->Prop}
theorem Inv.wish (I:Inv X pins σ H s) (E:Value->Shared->Prop):Inv (X.wish E) pins σ H s:=⟨I.ok.wish E,I.os,I.bare,I.base,I.loc,I.cell,I.free,I.freeC,I.pin,I.hok,I.len⟩
theorem Inv.unwish (I:Inv (X.wish E) pins σ H s):Inv X pins σ H s:=⟨I.ok.unwish,I.os,I.bare,I.base,I.loc,I.cell,I.free,I.freeC,I.pin,I.hok,I.len⟩
theorem SP.unwish {D:Ends} {f:Flow} {s':Shared} (h:SP (X.wish E) pins D f s'):SP X pins D f s':=by
 cases f with
 | next=>obtain ⟨σ',H',I,q⟩:=h;exact ⟨σ',H',I.unwish,q⟩
 | brk=>obtain ⟨σ',H',I,q⟩:=h;exact ⟨σ',H',I.unwish,q⟩
 | cont=>obtain ⟨σ',H',I,q⟩:=h;exact ⟨σ',H',I.unwish,q⟩
 | ret u=>obtain ⟨v,σ',H',I,r,q⟩:=h;exact ⟨v,σ',H',I.unwish,r,q⟩
theorem Cq.nox {st:List Stmt} {t:TS} (h:Cq X.nox st t):Cq X st t:=fun pins s σ H D I hw =>
 wpAny_mono (h pins s σ H D (I.wish _) hw) (fun _ _ q=>q.unwish) fun _ _ z=>False.elim z
end
section
variable {X:Cx} {st:Stmt} {rest:List Stmt} {t u:TS} {e:Expr} {te:TE} {pos:Pos}
abbrev Qs:TS:=fun D σ H=>D.nx σ H
abbrev iR (t u:TS):TS:=fun D σ H=>t { D with nx:=u D } σ H
theorem Vv:Cq X [] Qs:=fun _ _ σ H _ I h=>wpAny_execs_nil ⟨σ,H,I,h⟩
theorem KR (h1:PS X st t) (h2:Cq X rest u):Cq X (st::rest) (iR t u):=by
 intro pins s σ H D I h;refine wpAny_execs_cons (An (h1 pins s σ H { D with nx:=u D } I h) fun f s1 q=>?_);cases f with
 | next =>
  obtain ⟨σ',H',I',q⟩:=q;exact h2 pins s1 σ' H' D I' q
 | ret v=>exact q
 | brk=>exact q
 | cont=>exact q
theorem Vu (h1:PS X st t):Cq X [st] t:=by
 intro pins s σ H D I h;refine wpAny_execs_cons (An (h1 pins s σ H D I h) fun f s1 q=>?_);cases f with
 | next=>exact wpAny_execs_nil q
 | ret v=>exact q
 | brk=>exact q
 | cont=>exact q
abbrev dR:TS:=fun D σ H=>D.ct σ H
theorem Vw:PS X (.Pass pos) Qs:=fun _ _ σ H _ I h=>wpAny_Pass ⟨σ,H,I,h⟩
theorem KW:PS X (.Continue pos) dR:=fun _ _ σ H _ I h=>wpAny_Continue ⟨σ,H,I,h⟩
theorem Inv.quiet {pins:List (Addr×Obj)} {σ:St} {H:Hp} {s:Shared} (I:Inv X pins σ H s):interactive X.env=false:=by simp [interactive,I.ok.kind]
theorem aE {x j pos pos'}:PS X (.Expr (.Constant (.str x) j pos) pos') Qs:=fun _ s σ H _ I h=>wpAny_Expr (Calls.Constant_str (show SP X _ _ .next { s with toks:=s.toks+1 } from ⟨σ,H,I.tok _,h⟩)) I.quiet
abbrev dQ (te:TE):TS:=fun D σ H=>te σ H fun _ H1=>D.nx σ H1
theorem Vx (he:PE X e te) (hs:swapsWith e none pos.line X.env=pure false:=by rfl):PS X (.Expr e pos) (dQ te):=by
 intro pins s σ H D I h;exact wpAny_Expr_any (An (he pins s σ H _ I h) fun v s1 ⟨x,H1,I1,r1,q1⟩=>⟨σ,H1,I1,q1⟩) I.quiet hs
abbrev iS (te:TE):TS:=fun D σ H=>te σ H D.rt
theorem aB (he:PE X e te):PS X (.Return (some e) pos) (iS te):=by
 intro pins s σ H D I h;exact wpAny_Return_some (An (he pins s σ H _ I h) fun v s1 ⟨x,H1,I1,r1,q1⟩=>⟨x,σ,H1,I1,r1,q1⟩)
abbrev iV (c:TT) (t u:TS):TS:=fun D σ H=>c σ H fun b H1=>if b=true then t D σ H1 else u D σ H1
theorem eW {c:Expr} {a b:List Stmt} {tc:TT} (hc:PT X c tc) (ha:Cq X a t) (hb:Cq X b u):PS X (.If c a b pos) (iV tc t u):=by
 intro pins s σ H D I h;refine wpAny_If (An (hc pins s σ H _ I h) fun d s1 ⟨H1,I1,q1⟩=>?_);cases d with
 | true=>exact ha pins s1 σ H1 D I1 q1
 | false=>exact hb pins s1 σ H1 D I1 q1
end
abbrev TG:=V->St->Hp->(St->Hp->Prop)->Prop
abbrev Jd:=List V->St->Hp->(St->Hp->Prop)->Prop
def PG (X:Cx) (target:Expr) (t:TG):Prop:=
 ∀ (pins:List (Addr×Obj)) (s:Shared) (σ:St) (H:Hp) (v:V) (u:Value) (Q:St->Hp->Prop),Inv X pins σ H s->RelV v u->t v σ H Q ->
  wpAny (model X.prog X.w) X.A (assign target X.env u) (fun _ s'=>∃ σ' H',Inv X pins σ' H' s'/\Q σ' H') X.xe s
def cf (X:Cx) (ts:List Expr) (t:Jd):Prop:=
 ∀ (pins:List (Addr×Obj)) (s:Shared) (σ:St) (H:Hp) (vs:List V) (us:List Value) (Q:St->Hp->Prop),Inv X pins σ H s->AC vs us->t vs σ H Q ->
  wpAny (model X.prog X.w) X.A (assignInOrder ((assignEach ts X.env).map (·.2)) us) (fun _ s'=>∃ σ' H',Inv X pins σ' H' s'/\Q σ' H') X.xe s
abbrev HW:=V->V->V->Hp->(Hp->Prop)->Prop
def HZ (X:Cx) (t:HW):Prop:=
 ∀ (pins:List (Addr×Obj)) (s:Shared) (σ:St) (H:Hp) (o i v:V) (ov iv u:Value) (Q:Hp->Prop),Inv X pins σ H s->RelV o ov->RelV i iv->RelV v u->t o i v H Q ->
  wpAny (model X.prog X.w) X.A (setItem ov iv u) (fun _ s'=>∃ H',Inv X pins σ H' s'/\Q H') X.xe s
section
variable {X:Cx} {pos:Pos}
abbrev Cj (i:Nat):TG:=fun v σ H Q=>Q (σ.set i (some v)) H
theorem WJ {i:Nat} {x:Str} (hN:X.N.Nodup) (hi:X.N[i]?=some x) (hx:Loc X.env.scope x) (hf:X.fn x=true\/X.env.scope.names.lookup x=some .local:=by first | exact .inl rfl | exact .inr rfl | assumption):PG X (.Name x pos) (Cj i):=by
 intro pins s σ H v u Q I r h;exact wpAny_assign_Name (Du I hN hi hx r (fun s' I'=>⟨_,H,I',h⟩) hf)
abbrev Km:Jd:=fun vs σ H Q=>vs=[]/\Q σ H
abbrev CP (t:TG) (u:Jd):Jd:=fun vs σ H Q=>∃ v r,vs=v::r/\t v σ H fun σ' H'=>u r σ' H' Q
theorem NR:cf X [] Km:=by
 intro pins s σ H vs us Q I r h;obtain ⟨e,h⟩:=h;subst e;cases r;exact assignInOrder_nil ⟨σ,H,I,h⟩
theorem GY {e:Expr} {es:List Expr} {t:TG} {u:Jd} (h1:PG X e t) (h2:cf X es u)
    (hs:(assignEach (e::es) X.env).map (·.2)=assign e X.env::(assignEach es X.env).map (·.2):=by rfl):cf X (e::es) (CP t u):=by
  intro pins s σ H vs us Q I r h;obtain ⟨v,vr,e1,h⟩:=h;subst e1;cases r with
  | cons r rr =>
    rw [hs];refine assignInOrder_cons (An (h1 pins s σ H _ _ _ I r h) fun _ s1 ⟨σ1,H1,I1,q1⟩=>?_);exact h2 pins s1 σ1 H1 _ _ Q I1 rr q1
abbrev bX (K:W.Frag) (n:Nat) (t:Jd):TG:=fun v σ H Q=>∃ a xs,v=.ref a/\DW K H a xs/\xs.length=n/\t xs σ H Q
theorem Rq {es:List Expr} {k:Nat} {t:Jd} {n:Nat} (hc:X.calm=true) (h:cf X es t)
    (hn:(assignEach es X.env).length=n:=by rfl) (hst:(assignEach es X.env).findIdx? (·.1)=none:=by rfl):PG X (.Tuple es k pos) (bX X.K n t):=by
  intro pins s σ H v u Q I r hw;obtain ⟨a,xs,e1,hq,hl,hw⟩:=hw;subst e1;cases r;obtain ⟨its,rv,ht,hz⟩:=I.tuple hq;refine assign_Tuple_tuple (I.ok.hd hc) ht (by simp [hn,<- hl,rv.length]) hst fun h' hx=>?_
  have I1:Inv X pins σ H { s with heap:=h' }:=I.kept (t':=s.toks) fun b o e=>hx b o (lL (lB e)) e
  exact h pins _ σ H xs _ Q I1 (by simpa using rv) hw
abbrev bY (to ti:TE) (t:HW):TG:=fun v σ H Q=>to σ H fun o H1=>ti σ H1 fun i H2=>t o i v H2 fun H3=>Q σ H3
theorem Rr {o i:Expr} {to ti:TE} {t:HW} (ho:PE X o to) (hi:PE X i ti) (hs:HZ X t)
    (ha:∀ v,assign (.Subscript o i pos) X.env v=(do
      let ov <- holding [v] (eval o X.env)
      let iv <- holding [v,ov] (eval i X.env)
      standAt pos
      holding [v,ov,iv] (setItem ov iv v)
      release [v,ov,iv] []):=by intro _;rfl):PG X (.Subscript o i pos) (bY to ti t):=by
  intro pins s σ H v u Q I r h;rw [ha];refine wpAny_bind (wpAny_holding (An (ho pins s σ H _ I h) fun ov s1 ⟨x,H1,I1,r1,q1⟩=>?_));refine wpAny_bind (wpAny_holding (An (hi pins s1 σ H1 _ I1 q1) fun iv s2 ⟨y,H2,I2,r2,q2⟩=>?_));refine wpAny_bind (wpAny_standAt (wpAny_bind (wpAny_holding (An (hs pins s2 σ H2 x y v ov iv u _ I2 r1 r2 r q2) fun _ s3 ⟨H3,I3,q3⟩=>?_))));exact wpAny_release ⟨σ,H3,I3,q3⟩
abbrev Js (te:TE) (g:TG):TS:=fun D σ H=>te σ H fun x H1=>g x σ H1 D.nx
theorem Lv {tg e:Expr} {te:TE} {g:TG} (he:PE X e te) (hg:PG X tg g) (hs:swapsWithSole [tg] e pos.line X.env=pure false:=by rfl) (hw:swappedStores [tg] e X.env=pure none:=by rfl)
    (h1:(assignEach [tg] X.env).map (·.2)=[assign tg X.env]:=by rfl):PS X (.Assign [tg] e pos) (Js te g):=by
  intro pins s σ H D I h;refine wpAny_Assign_stores (An (he pins s σ H _ I h) fun v s1 ⟨x,H1,I1,r1,q1⟩=>?_) hs hw;rw [h1];exact An (hg pins s1 σ H1 x v _ I1 r1 q1) fun _ s2 q=>q
theorem aA {i:Nat} {x:Str} {e:Expr} {te:TE} {pos':Pos} (hN:X.N.Nodup) (hi:X.N[i]?=some x) (hx:Loc X.env.scope x) (he:PE X e te) (hs:swapsWith e (some (.Name x pos')) pos.line X.env=pure false:=by rfl) (hf:X.fn x=true\/X.env.scope.names.lookup x=some .local:=by first | exact .inl rfl | exact .inr rfl | assumption) :
    PS X (.Assign [.Name x pos'] e pos) (Js te (Cj i)):=by
  intro pins s σ H D I h;refine wpAny_Assign_Name (An (he pins s σ H _ I h) fun v s1 ⟨y,H1,I1,r1,q1⟩=>?_) hs;exact Du I1 hN hi hx r1 (fun s2 I2=>⟨_,H1,I2,q1⟩) hf
abbrev iT (i j:Nat) (ta:TA):TS:=fun D σ H=>ta σ H fun vs H1=>∃ v w,vs=[v,w]/\D.nx ((σ.set i (some v)).set j (some w)) H1
theorem aC {i j:Nat} {x y:Str} {a b:Expr} {ta:TA} {px py pt:Pos} {kt k2 pt2} (hc:X.calm=true) (hN:X.N.Nodup) (hi:X.N[i]?=some x) (hj:X.N[j]?=some y) (hij:i≠j)
    (hx:X.env.scope.names.lookup x=some .local) (hy:X.env.scope.names.lookup y=some .local) (ha:PA X [a,b] ta)
    (hw:swappedStores [.Tuple [.Name x px,.Name y py] kt pt] (.Tuple [a,b] k2 pt2) X.env=pure (some [x,y]))
    (hs:swapsWithSole [.Tuple [.Name x px,.Name y py] kt pt] (.Tuple [a,b] k2 pt2) pos.line X.env=pure false:=by rfl) :
    PS X (.Assign [.Tuple [.Name x px,.Name y py] kt pt] (.Tuple [a,b] k2 pt2) pos) (iT i j ta):=by
  intro pins s σ H D I h;rw [exec_Assign_arm];refine wpAny_bind (wpAny_standAt ?_);rw [hs];refine wpAny_bind (wpAny_pure ?_);rw [if_neg (by decide)];refine wpAny_bind (Tuple_ (An (ha _ pins s σ H _ I h) fun us s1 ⟨vs,H1,I1,r1,q1⟩=>?_));obtain ⟨v,w,e1,q1⟩:=q1;subst e1;obtain ⟨u1,u2,rfl,rv,rw'⟩:∃ u1 u2,us=[u1,u2]/\RelV v u1/\RelV w u2:=by
    cases r1 with
    | cons p q =>
      cases q with
      | cons p' q' =>
        cases q';exact ⟨_,_,rfl,p,p'⟩
  refine wpAny_newObj_type ?_ (by show 2<=sizeLine;decide)
  have I2:Inv X pins σ H1 { s1 with heap:=s1.heap.push { cls:=.type "tuple", data:=.seq [u1,u2].toArray } }:=I1.kept (t':=s1.toks) fun b o e=>kW _ e
  rw [hw];refine wpAny_bind (wpAny_pure ?_)
  show wpAny (model X.prog X.w) X.A (do rule "assign.swapped-stores"; let items <- unpackItems (.ref s1.heap.objs.size) 2 none;assignInOrder [fun v=>bindName X.env y v,fun v=>bindName X.env x v] items.reverse;pure Flow.next) _ _ _
  refine wpAny_bind (wpAny_rule (wpAny_bind (unpackItems_tuple (items:=#[u1,u2]) (I.ok.hd hc) (IsTup.new s1.heap _) fun h' hx'=>?_)));have I3:=I2.kept (h':=h') (t':=s1.toks) fun b o e=>hx' b o (lL (lB e)) e
  show wpAny _ _ (assignInOrder [fun v=>bindName X.env y v,fun v=>bindName X.env x v] [u2,u1] >>= fun _=>pure Flow.next) _ _ _;refine wpAny_bind (assignInOrder_cons (wpAny_bindName (Du I3 hN hj (.inl hy) rw' (fun s2 I4=>?_) (.inr hy))));refine assignInOrder_cons (wpAny_bindName (Du I4 hN hi (.inl hx) rv (fun s3 I5=>assignInOrder_nil (wpAny_pure ?_)) (.inr hx)));rw [List.set_comm _ _ (Ne.symm hij)] at I5;exact ⟨_,H1,I5,q1⟩
end
section
variable {X:Cx} {pos:Pos}
def Qr (c:TT) (tb:TS):TS:=fun D σ H=>∃ W:Nat->St->Hp->Prop,(∃ m,W m σ H)/\∀ m σ H,W m σ H ->
 c σ H fun b H1=>if b=true then ∃ N:St->Hp->Prop,(∀ σ' H',N σ' H'->∃ m',m' < m/\W m' σ' H')/\tb { D with nx:=N,ct:=N,bk:=D.nx } σ H1 else D.nx σ H1
theorem KS {c:Expr} {body:List Stmt} {tc:TT} {tb:TS} (hp:PassesOwn (model X.prog X.w) X.A X.env X.xe) (hc:PT X c tc) (hb:Cq X body tb):PS X (.While c body [] pos) (Qr tc tb):=by
 intro pins s σ H D I h;obtain ⟨W,⟨m0,w0⟩,turn⟩:=h;refine wpAny_While (codeAny_whileLoop (fun n s'=>∃ σ' H',Inv X pins σ' H' s'/\W n σ' H') ?_ m0 ⟨σ,H,I,w0⟩);rintro n s1 ⟨σ1,H1,I1,w1⟩;refine wpAny_passesOwn hp (An (hc pins s1 σ1 H1 _ I1 (turn n σ1 H1 w1)) fun b s2 ⟨H2,I2,q2⟩=>?_);cases b with
 | true =>
  obtain ⟨N,hN,q2⟩:=q2;rw [if_pos rfl];refine wpAny_passesOwn hp (An (hb pins s2 σ1 H2 _ I2 q2) fun f s3 q3=>?_);cases f with
  | next =>
   obtain ⟨σ3,H3,I3,n3⟩:=q3;obtain ⟨m',hm,w3⟩:=hN σ3 H3 n3;exact ⟨m',hm,σ3,H3,I3,w3⟩
  | cont =>
   obtain ⟨σ3,H3,I3,n3⟩:=q3;obtain ⟨m',hm,w3⟩:=hN σ3 H3 n3;exact ⟨m',hm,σ3,H3,I3,w3⟩
  | brk=>exact q3
  | ret v=>exact q3
 | false =>
  rw [if_neg ku];exact wpAny_execs_nil ⟨σ1,H2,I2,q2⟩
end
structure It where
 go:Nat->Hp->Prop
 yld:Nat->Hp->V->Hp->Prop
 stop:Nat->Hp->Prop
def FpOk (X:Cx) (pins:List (Addr×Obj)) (H:Hp) (b:Addr):Prop:=
 H b=none/\b≠X.env.locals/\b∉X.fs/\(b∈X.ex\/X.s₀.heap.objs.size<=b)/\(∀ x c,X.env.cells.lookup x=some c->c≠b)/\∀ p∈X.pn++pins,p.1≠b
theorem Inv.fpOk {X:Cx} {pins:List (Addr×Obj)} {σ:St} {H H':Hp} {s:Shared} {b:Addr} (I:Inv X pins σ H s) (hb:s.heap.objs.size<=b) (hn:H' b=none):FpOk X pins H' b:=by
 refine ⟨hn,nY (kq I.lt hb),I.nofs hb,.inr (kr I.sz hb),fun x c e z=>?_,fun p hp z=>?_⟩
 ·obtain ⟨v,q⟩:=I.cell x c e;exact absurd (kq q.lt (by rw [z];exact hb)) (mR _)
 ·exact absurd (kq (lB (I.pin p hp).1) (by rw [z];exact hb)) (mR _)
structure Turn (P:Program) (w:World) (K:W.Frag) (tg:Expr) (J:It) (fp:List Addr) (it:Addr) (tn:Nat->Heap->Prop):Prop where
 mem:it∈fp
 obj:∀ i h,tn i h->∀ b∈fp,∃ o,h.get? b=some o/\∀ v,o.data≠.cell v
 keep:∀ i h h',tn i h->(∀ b∈fp,∀ o,h.get? b=some o->h'.get? b=some o)->tn i h'
 item:∀ (X:Cx),X.prog=P->X.w=w->X.K=K->X.calm=true->∀ (i:Nat) (pins:List (Addr×Obj)) (s:Shared) (σ:St) (H:Hp) (E:Value->Shared->Prop),Inv X pins σ H s->(∀ b∈fp,FpOk X pins H b)->tn i s.heap->J.go i H ->
  wpAny (model P w) X.A (pyNext (.ref it)) (fun r s1=>∃ u,r=some u /\
   wpAny (model P w) X.A (letOwnedTupleGo tg (.ref it) u) (fun _ s2=>∃ x H',Inv X pins σ H' s2/\RelV x u/\J.yld i H x H'/\tn (i+1) s2.heap/\∀ b∈fp,H' b=none) E s1) E s
 done:∀ (X:Cx),X.prog=P->X.w=w->X.K=K->X.calm=true->∀ (i:Nat) (pins:List (Addr×Obj)) (s:Shared) (σ:St) (H:Hp) (E:Value->Shared->Prop),Inv X pins σ H s->(∀ b∈fp,FpOk X pins H b)->tn i s.heap->J.stop i H ->
  wpAny (model P w) X.A (pyNext (.ref it)) (fun r s1=>r=none/\Inv X pins σ H s1) E s
 self:∀ (A:Around) (i:Nat) (s:Shared) (Q:Value->Shared->Prop) (E:Value->Shared->Prop),tn i s.heap->Q (.ref it) s->wpAny (model P w) A (pyIter (.ref it)) Q E s
abbrev TI:=St->Hp->(It->Hp->Prop)->Prop
def jz (X:Cx) (pins:List (Addr×Obj)) (σ:St) (tg:Expr) (R:It->Hp->Prop) (itv:Value) (s2:Shared):Prop:=
 ∃ (it:Addr) (fp:List Addr) (tn:Nat->Heap->Prop) (J:It) (H':Hp),itv=.ref it/\Inv X pins σ H' s2/\Turn X.prog X.w X.K tg J fp it tn/\tn 0 s2.heap/\(∀ b∈fp,FpOk X pins H' b)/\R J H'
def PI (X:Cx) (tg iter:Expr) (wi:TI):Prop:=
 ∀ (pins:List (Addr×Obj)) (s:Shared) (σ:St) (H:Hp) (R:It->Hp->Prop),Inv X pins σ H s->wi σ H R ->
  wpAny (model X.prog X.w) X.A (eval iter X.env) (fun v s1=>wpAny (model X.prog X.w) X.A (pyIter v) (jz X pins σ tg R) X.xe s1) X.xe s
theorem Nn {M:Model} {A:Around} {E:Value->Shared->Prop} {s:Shared} {tg:Expr} {it:Addr} {u:Value} {o:Obj} {n:String} {vs:Array Value} {Q:Unit->Shared->Prop} (ho:s.heap.get? it=some o) (hc:o.cls=.type n) (hd:o.data=.fields vs)
    (hn:["enumerate", "zip", "dict_itemiterator", "dict_reverseitemiterator", "odict_iterator", "itertools.zip_longest", "itertools.pairwise"].contains n=false) (hQ:Q () s):wpAny M A (letOwnedTupleGo tg (.ref it) u) Q E s:=by
  unfold letOwnedTupleGo;cases tg<;>first
    | exact wpAny_pure hQ
    | (cases u<;>first
        | exact wpAny_pure hQ
        | (refine wpAny_bind (wpAny_load ho ?_)
           rw [hc,hd]
           show wpAny M A (if (["enumerate", "zip", "dict_itemiterator", "dict_reverseitemiterator", "odict_iterator", "itertools.zip_longest", "itertools.pairwise"].contains n && vs[0]? == some (rawInt _))=true then _ else _) Q E s
           rw [if_neg (by intro h;rw [hn,Bool.false_and] at h;cases h)];exact wpAny_pure hQ))
noncomputable def iM (K:W.Frag) (a:Addr):It:=
 ⟨fun i H=>∃ xs x,Cm K H a xs/\xs[i]?=some x,fun i H x H'=>H'=H/\∀ xs,Cm K H a xs->xs[i]?=some x,fun i H=>∃ xs,Cm K H a xs/\xs.length<=i⟩
noncomputable def jN (K:W.Frag) (a:Addr):It:=
 ⟨fun i H=>∃ xs x,DW K H a xs/\xs[i]?=some x,fun i H x H'=>H'=H/\∀ xs,DW K H a xs->xs[i]?=some x,fun i H=>∃ xs,DW K H a xs/\xs.length<=i⟩
noncomputable def ck (lo:Int) (n:Nat):It:=⟨fun i _=>i < n,fun i H x H'=>H'=H/\x=.int (lo+i),fun i _=>n<=i⟩
theorem OU {P:Program} {w:World} {K:W.Frag} {tg:Expr} (a it:Addr):Turn P w K tg (iM K a) [it] it (fun i h=>h.IsListIter it a i) where
 mem:=by simp
 obj:=fun i h st b hb=>by
  have e:b=it:=by simpa using hb
  subst e;obtain ⟨o,e,c,d⟩:=st;exact ⟨o,e,fun v z=>by rw [d] at z;cases z⟩
 keep:=fun i h h' st k=>st.at fun o e=>k it (by simp) o e
 item:=by
  intro X hP hw hK hc i pins s σ H E I hf st hg;subst hP hw hK;obtain ⟨xs,x,hq,hx⟩:=hg;obtain ⟨its,rv,p,hz⟩:=I.list hq;obtain ⟨u,hu,ru⟩:=rv.get hx;obtain ⟨f0,f1,f2,f3,f4,f5⟩:=hf it (by simp);refine wpAny_pyNext_list_item st p.isList (x:=u) (by simpa using hu) fun h' st' sb=>?_
  have I1:Inv X pins σ H { s with heap:=h' }:=I.turned (t':=s.toks) (fun b o hb e=>(sb.2 b hb).trans e) f0 f1 f3 f4 f5;obtain ⟨o,e,c,d⟩:=id st';exact ⟨u,rfl,Nn (s:={ s with heap:=h' }) e c d (by decide) ⟨x,H,I1,ru,⟨rfl,fun ys hy=>by rw [I.list_inj hy hq];exact hx⟩,st',fun b hb=>(hf b hb).1⟩⟩
 done:=by
  intro X hP hw hK hc i pins s σ H E I hf st hg;subst hP hw hK;obtain ⟨xs,hq,hx⟩:=hg;obtain ⟨its,rv,p,hz⟩:=I.list hq;obtain ⟨f0,f1,f2,f3,f4,f5⟩:=hf it (by simp);have hl:=rv.length;exact wpAny_pyNext_list_end (I.ok.hd hc) st p.isList (by simp;omega) fun h' eb=>⟨rfl,I.turned (t':=s.toks) (fun b o hb e=>eb b o hb e) f0 f1 f3 f4 f5⟩
 self:=fun _ _ _ _ _ st h=>wpAny_pyIter_listiter st h
theorem La {P:Program} {w:World} {K:W.Frag} {tg:Expr} (a it:Addr):Turn P w K tg (jN K a) [it] it (fun i h=>h.IsTupleIter it a i) where
 mem:=by simp
 obj:=fun i h st b hb=>by
  have e:b=it:=by simpa using hb
  subst e;obtain ⟨o,e,c,d⟩:=st;exact ⟨o,e,fun v z=>by rw [d] at z;cases z⟩
 keep:=fun i h h' st k=>st.at fun o e=>k it (by simp) o e
 item:=by
  intro X hP hw hK hc i pins s σ H E I hf st hg;subst hP hw hK;obtain ⟨xs,x,hq,hx⟩:=hg;obtain ⟨its,rv,p,hz⟩:=I.tuple hq;obtain ⟨u,hu,ru⟩:=rv.get hx;obtain ⟨f0,f1,f2,f3,f4,f5⟩:=hf it (by simp);refine wpAny_pyNext_tuple_item st (show s.heap.IsTuple a its.toArray from p) (x:=u) (by simpa using hu) fun h' st' sb=>?_
  have I1:Inv X pins σ H { s with heap:=h' }:=I.turned (t':=s.toks) (fun b o hb e=>(sb.2 b hb).trans e) f0 f1 f3 f4 f5;obtain ⟨o,e,c,d⟩:=id st';exact ⟨u,rfl,Nn (s:={ s with heap:=h' }) e c d (by decide) ⟨x,H,I1,ru,⟨rfl,fun ys hy=>by rw [I.tuple_inj hy hq];exact hx⟩,st',fun b hb=>(hf b hb).1⟩⟩
 done:=by
  intro X hP hw hK hc i pins s σ H E I hf st hg;subst hP hw hK;obtain ⟨xs,hq,hx⟩:=hg;obtain ⟨its,rv,p,hz⟩:=I.tuple hq;obtain ⟨f0,f1,f2,f3,f4,f5⟩:=hf it (by simp);have hl:=rv.length;exact wpAny_pyNext_tuple_end (I.ok.hd hc) st (show s.heap.IsTuple a its.toArray from p) (by simp;omega) fun h' eb=>⟨rfl,I.turned (t':=s.toks) (fun b o hb e=>eb b o hb e) f0 f1 f3 f4 f5⟩
 self:=fun _ _ _ _ _ st h=>wpAny_pyIter_tupleiter st h
theorem Lb {P:Program} {w:World} {K:W.Frag} {tg:Expr} (it:Addr) (lo:Int) (n:Nat):Turn P w K tg (ck lo n) [it] it (fun i h=>IsRangeIter h it (lo+(i:Nat) * 1) ((n:Int) - (i:Nat)) 1) where
 mem:=by simp
 obj:=fun i h st b hb=>by
  have e:b=it:=by simpa using hb
  subst e;exact ⟨_,st,fun v z=>by
   have z':Data.fields _=Data.cell v:=z;cases z'⟩
 keep:=fun i h h' st k=>k it (by simp) _ st
 item:=by
  intro X hP hw hK hc i pins s σ H E I hf st hg;subst hP hw hK;obtain ⟨f0,f1,f2,f3,f4,f5⟩:=hf it (by simp);have W:=Walks.range (prog:=X.prog) (w:=X.w) (I.ok.hd hc) it lo 1 n;refine W.item i s _ _ hg st fun v h' tk hv st' kk=>?_
  obtain ⟨t,rfl⟩:=hv;have I1:Inv X pins σ H { s with heap:=h',toks:=tk }:=I.turned (fun b o hb e=>kk b o (by simpa using hb) e) f0 f1 f3 f4 f5
  refine ⟨_,rfl,Nn (s:={ s with heap:=h',toks:=tk }) (n := "range_iterator") st' rfl rfl (by decide) ⟨.int (lo+i),H,I1,⟨t,?_⟩,⟨rfl,rfl⟩,st',fun b hb=>(hf b hb).1⟩⟩
  rw [Int.mul_one]
 done:=by
  intro X hP hw hK hc i pins s σ H E I hf st hg;subst hP hw hK;obtain ⟨f0,f1,f2,f3,f4,f5⟩:=hf it (by simp);exact wpAny_pyNext_range_end (I.ok.hd hc) st (by have:n<=i:=hg;omega) fun h' eb=>⟨rfl,I.turned (t':=s.toks) (fun b o hb e=>eb b o hb e) f0 f1 f3 f4 f5⟩
 self:=fun _ _ _ _ _ st h=>wpAny_pyIter_rangeiter st h
section
variable {X:Cx} {tg:Expr}
theorem KI {pins:List (Addr×Obj)} {σ:St} {H:Hp} {s:Shared} {R:It->Hp->Prop} {E:Value->Shared->Prop} {lo hi:Int} {t u v:Tok} {tk:Nat} (I:Inv X pins σ H s) (h1:-(2 ^ 62)<=lo) (h2:lo < 2 ^ 62) (h3:-(2 ^ 62)<=hi) (h4:hi < 2 ^ 62)
    (q:R (ck lo (hi - lo).toNat) H):wpAny (model X.prog X.w) X.A (pyIter (.ref s.heap.objs.size)) (jz X pins σ tg R) E { s with heap:=s.heap.push { cls:=.type "range", data:=.fields #[.int lo t,.int hi u,.int 1 v] },toks:=tk }:=by
  refine wpAny_pyIter_range (IsRange.new ..) (small_one h1 h2 h3 h4) ?_
  have I1:Inv X pins σ H { s with heap:=s.heap.push { cls:=.type "range", data:=.fields #[.int lo t,.int hi u,.int 1 v] },toks:=tk }:=I.kept fun b o e=>kW _ e
  refine ⟨(s.heap.push { cls:=.type "range", data:=.fields #[.int lo t,.int hi u,.int 1 v] }).objs.size,[(s.heap.push { cls:=.type "range", data:=.fields #[.int lo t,.int hi u,.int 1 v] }).objs.size],_,_,H,rfl,
    I1.kept (t':=tk) fun b o e=>kW _ e,Lb _ lo (hi - lo).toNat,?_,fun b hb=>?_,q⟩
  · have e1:lo+((0:Nat):Int) * 1=lo:=by simp
    have e2:(((hi - lo).toNat:Nat):Int) - ((0:Nat):Int)=Builtin.Range.rangeSize lo hi 1:=by rw [rangeSize_one];split<;>omega
    show IsRangeIter _ _ (lo+((0:Nat):Int) * 1) ((((hi - lo).toNat:Nat):Int) - ((0:Nat):Int)) 1;rw [e1,e2];exact lA _ rfl
  · have e:b=(s.heap.push { cls:=.type "range", data:=.fields #[.int lo t,.int hi u,.int 1 v] }).objs.size:=by simpa using hb
    subst e;exact I1.fpOk (kb _) (I1.hok.fresh (kb _))
abbrev ff (ta:TA):TI:=fun σ H R=>ta σ H fun vs H1=>∃ j:Int,vs=[.int j]/\-(2 ^ 62)<=j/\j < 2 ^ 62/\R (ck 0 j.toNat) H1
abbrev fc (ta:TA):TI:=fun σ H R=>ta σ H fun vs H1=>∃ i j:Int,vs=[.int i,.int j]/\(-(2 ^ 62)<=i/\i < 2 ^ 62/\-(2 ^ 62)<=j/\j < 2 ^ 62)/\R (ck i (j - i).toNat) H1
theorem Ou {a:Expr} {ta:TA} {p pos:Pos} (hg:Gl X "range") (hm:X.mg "range" = none) (ha:PA X [a] ta) (hs:starEach [a] X.env=[(false,eval a X.env)]:=by rfl):PI X tg (.Call (.Name "range" p) [a] [] pos) (ff ta):=by
 intro pins s σ H R I h;refine Call_ (Ey I hg hm boot_range (mO (An (ha pos pins s σ H _ I h) fun us s1 ⟨vs,H1,I1,r1,q1⟩=>?_) hs rfl));obtain ⟨j,e,q1,q2,q⟩:=q1;subst e;cases r1 with
 | cons r rr =>
  cases rr;obtain ⟨t,rfl⟩:=r;exact call_range_1 (KI I1 (by omega) (by omega) q1 q2 (by simpa using q))
theorem Ot {a b:Expr} {ta:TA} {p pos:Pos} (hg:Gl X "range") (hm:X.mg "range" = none) (ha:PA X [a,b] ta) (hs:starEach [a,b] X.env=[(false,eval a X.env),(false,eval b X.env)]:=by rfl) (hs2:starEach [b] X.env=[(false,eval b X.env)]:=by rfl) :
    PI X tg (.Call (.Name "range" p) [a,b] [] pos) (fc ta):=by
  intro pins s σ H R I h;refine Call_ (Ey I hg hm boot_range (mO (An (ha pos pins s σ H _ I h) fun us s1 ⟨vs,H1,I1,r1,q1⟩=>?_) (by rw [hs,hs2]) (by rw [hs2];rfl)));obtain ⟨i,j,e,⟨q1,q2,q3,q4⟩,q⟩:=q1;subst e;cases r1 with
  | cons r rr =>
    cases rr with
    | cons r' rr =>
      cases rr;obtain ⟨t,rfl⟩:=r;obtain ⟨t',rfl⟩:=r';exact call_range_2 (KI I1 q1 q2 q3 q4 q)
abbrev iW (wi:TI) (g:TG) (tb:TS):TS:=fun D σ H=>wi σ H fun J H1=>∃ W:Nat->Nat->St->Hp->Prop,(∃ m,W 0 m σ H1)/\∀ i m σ H,W i m σ H ->
 (J.stop i H/\D.nx σ H)\/(J.go i H/\∃ N:St->Hp->Prop,(∀ σ' H',N σ' H'->∃ m',m' < m/\W (i+1) m' σ' H')/\∀ x H',J.yld i H x H'->g x σ H' fun σ2 H2=>tb { D with nx:=N,ct:=N,bk:=D.nx } σ2 H2)
noncomputable def JA (fp:List Addr) (h:Heap):List (Addr×Obj):=fp.filterMap fun b=>(h.get? b).map fun o=>(b,o)
theorem Ce {fp:List Addr} {h:Heap} {b:Addr} {o:Obj} (hb:b∈fp) (e:h.get? b=some o):(b,o)∈JA fp h:=List.mem_filterMap.mpr ⟨b,hb,by rw [e];rfl⟩
theorem PB {fp:List Addr} {h:Heap} {p:Addr×Obj} (hp:p∈JA fp h):p.1∈fp/\h.get? p.1=some p.2:=by
 obtain ⟨b,hb,e⟩:=List.mem_filterMap.mp hp;cases q:h.get? b with
 | none=>rw [q] at e;cases e
 | some o =>
  rw [q] at e;have e':(b,o)=p:=Option.some.inj e;subst e';exact ⟨hb,q⟩
theorem Inv.pinned {pins:List (Addr×Obj)} {σ:St} {H:Hp} {s:Shared} {fp:List Addr} (I:Inv X pins σ H s) (hf:∀ b∈fp,FpOk X pins H b) (ho:∀ b∈fp,∃ o,s.heap.get? b=some o/\∀ v,o.data≠.cell v):Inv X (pins++JA fp s.heap) σ H s:=
 I.pins_of fun p hp=>(lC.mp hp).elim (fun z=>I.pin p (ka _ z)) fun z=>by
  obtain ⟨hb,e⟩:=PB z;obtain ⟨f0,f1,f2,_⟩:=hf p.1 hb;obtain ⟨o,e',d⟩:=ho p.1 hb;rw [e] at e';cases e';exact ⟨e,f0,f1,f2,d⟩
theorem Inv.unpinned {pins pl:List (Addr×Obj)} {σ:St} {H:Hp} {s:Shared} (I:Inv X (pins++pl) σ H s):Inv X pins σ H s:=I.pins_of fun p hp=>I.pin p (ka _ (ko _ hp))
theorem Rh {iter:Expr} {body:List Stmt} {wi:TI} {g:TG} {tb:TS} {pos:Pos} (hp:PassesOwn (model X.prog X.w) X.A X.env X.xe) (hc:X.calm=true) (hi:PI X tg iter wi) (hg:PG X tg g) (hb:Cq X body tb)
    (hs:∀ x,foldedSetIterable iter X.env x=pure x:=by intro _;rfl):PS X (.For tg iter body [] pos) (iW wi g tb):=by
  intro pins s σ H D I h;refine wpAny_For (An (hi pins s σ H _ I h) fun v s1 h1=>An h1 fun itv s2 h2=>?_) hs;obtain ⟨it,fp,tn,J,H2,e,I2,T,st2,f2,W,⟨m0,w0⟩,turn⟩:=h2;subst e
  -- what stays true of the iterator's objects through the loop
  have stat:∀ {H':Hp},(∀ b∈fp,H' b=none)->∀ b∈fp,FpOk X pins H' b:=fun hn b hb=>⟨hn b hb,(f2 b hb).2⟩
  refine codeAny_forLoop_any (fun n s'=>∃ i σ' H',Inv X pins σ' H' s'/\tn i s'.heap/\(∀ b∈fp,H' b=none)/\W i n σ' H') ?_ m0 ⟨0,σ,H2,I2,st2,fun b hb=>(f2 b hb).1,w0⟩;rintro n s3 ⟨i,σ3,H3,I3,st3,fr3,w3⟩;rcases turn i n σ3 H3 w3 with ⟨stop,qn⟩ | ⟨go,N,hN,step⟩
  · refine wpAny_passesOwn hp (An (T.done X rfl rfl rfl hc i pins s3 σ3 H3 X.xe I3 (stat fr3) st3 stop) fun r s4 ⟨hr,I4⟩=>?_);subst hr;exact wpAny_execs_nil ⟨σ3,H3,I4,qn⟩
  · refine wpAny_passesOwn hp (An (T.item X rfl rfl rfl hc i pins s3 σ3 H3 X.xe I3 (stat fr3) st3 go) fun r s4 ⟨u,hr,h4⟩=>?_);subst hr;refine wpAny_passesOwn hp (An h4 fun _ s5 ⟨x,H5,I5,r5,y5,st5,fr5⟩=>?_);have I5':=I5.pinned (stat fr5) (T.obj _ _ st5);refine wpAny_passesOwn hp (An (hg _ s5 σ3 H5 x u _ I5' r5 (step x H5 y5)) fun _ s6 ⟨σ6,H6,I6,q6⟩=>?_);refine wpAny_passesOwn hp (An (hb _ s6 σ6 H6 _ I6 q6) fun f s7 q7=>?_);have again:∀ {σ7:St} {H7:Hp},Inv X (pins++JA fp s5.heap) σ7 H7 s7->N σ7 H7->∃ m,m < n/\∃ i σ' H',Inv X pins σ' H' s7/\tn i s7.heap/\(∀ b∈fp,H' b=none)/\W i m σ' H':=fun {σ7 H7} I7 n7=>by
      obtain ⟨m',hm,w7⟩:=hN σ7 H7 n7;refine ⟨m',hm,i+1,σ7,H7,I7.unpinned,T.keep _ _ _ st5 fun b hb o e=>(I7.pin (b,o) (ka _ (ka _ (Ce hb e)))).1,fun b hb=>?_,w7⟩;obtain ⟨o,e,d⟩:=T.obj _ _ st5 b hb;exact (I7.pin (b,o) (ka _ (ka _ (Ce hb e)))).2.1
    cases f with
    | next=>obtain ⟨σ7,H7,I7,n7⟩:=q7;exact again I7 n7
    | cont=>obtain ⟨σ7,H7,I7,n7⟩:=q7;exact again I7 n7
    | brk=>obtain ⟨σ7,H7,I7,q7⟩:=q7;exact ⟨σ7,H7,I7.unpinned,q7⟩
    | ret v=>obtain ⟨x7,σ7,H7,I7,r7,q7⟩:=q7;exact ⟨x7,σ7,H7,I7.unpinned,r7,q7⟩
end
abbrev R2:=V->V->Hp->VK->Prop
def Bq (X:Cx) (f:Value->Value->Sem Value) (r:R2):Prop:=
 ∀ (pins:List (Addr×Obj)) (s:Shared) (σ:St) (H:Hp) (x y:V) (v u:Value) (Q:VK),Inv X pins σ H s->RelV x v->RelV y u->r x y H Q ->
  wpAny (model X.prog X.w) X.A (f v u) (EP X pins σ Q) X.xe s
def jJ (X:Cx) (f:Value->Sem Value) (r:V->Hp->VK->Prop):Prop:=
 ∀ (pins:List (Addr×Obj)) (s:Shared) (σ:St) (H:Hp) (x:V) (v:Value) (Q:VK),Inv X pins σ H s->RelV x v->r x H Q ->
  wpAny (model X.prog X.w) X.A (f v) (EP X pins σ Q) X.xe s
def BD (X:Cx) (f:Value) (r:List V->Hp->VK->Prop):Prop:=
 ∀ (pins:List (Addr×Obj)) (s:Shared) (σ:St) (H:Hp) (xs:List V) (us:List Value) (Q:VK),Inv X pins σ H s->AC xs us->r xs H Q ->
  wpAny (model X.prog X.w) X.A (call f us) (EP X pins σ Q) X.xe s
def jK (X:Cx) (r:V->Hp->(Bool->Hp->Prop)->Prop):Prop:=
 ∀ (pins:List (Addr×Obj)) (s:Shared) (σ:St) (H:Hp) (x:V) (v:Value) (Q:Bool->Hp->Prop),Inv X pins σ H s->RelV x v->r x H Q ->
  wpAny (model X.prog X.w) X.A (truthy v) (TP X pins σ Q) X.xe s
abbrev iC (r:R2) (ta tb:TE):TE:=fun σ H Q=>ta σ H fun x H1=>tb σ H1 fun y H2=>r x y H2 Q
abbrev kF (r:V->Hp->VK->Prop) (ta:TE):TE:=fun σ H Q=>ta σ H fun x H1=>r x H1 Q
def rI (C:Int->Int->Prop) (g:Int->Int->V):R2:=fun x y H Q=>∃ i j,x=.int i/\y=.int j/\C i j/\Q (g i j) H
def Rc (g:Int->Int->V):R2:=fun x y H Q=>∃ i j,x=.int i/\y=.int j/\Q (g i j) H
def rU (g:Int->V):V->Hp->VK->Prop:=fun x H Q=>∃ i,x=.int i/\Q (g i) H
section
variable {X:Cx} {a b c:Expr} {ta tb tc:TE} {pos:Pos}
theorem cV (ha:PE X a ta) (hb:PE X b tb) {pins:List (Addr×Obj)} {s:Shared} {σ:St} {H:Hp} {R:V->V->Hp->Prop} (I:Inv X pins σ H s)
    (h:ta σ H fun x H1=>tb σ H1 fun y H2=>R x y H2) {Q:Value->Shared->Prop} {f:Value->Value->Sem Value}
    (hf:∀ v u s2 x y H2,Inv X pins σ H2 s2->RelV x v->RelV y u->R x y H2->wpAny (model X.prog X.w) X.A (f v u) Q X.xe s2) :
    wpAny (model X.prog X.w) X.A (eval a X.env) (fun v s₁=>wpAny (model X.prog X.w) X.A (eval b X.env) (fun u s₂=>wpAny (model X.prog X.w) X.A (f v u) Q X.xe s₂) X.xe s₁) X.xe s:=by
  refine An (ha pins s σ H _ I h) fun v s1 ⟨x,H1,I1,r1,q1⟩=>?_
  refine An (hb pins s1 σ H1 _ I1 q1) fun u s2 ⟨y,H2,I2,r2,q2⟩=>?_
  exact hf v u s2 x y H2 I2 r1 r2 q2
theorem ef {op:Operator} {r:R2} (ho:Bq X (binaryOp op) r) (ha:PE X a ta) (hb:PE X b tb):PE X (.BinOp a op b pos) (iC r ta tb):=by
 intro pins s σ H Q I h;exact wpAny_BinOp (cV ha hb I h fun v u s2 x y H2 I2 rx ry q=>ho pins s2 σ H2 x y v u Q I2 rx ry q)
theorem eZ {op:UnaryOp} {r:V->Hp->VK->Prop} (ho:jJ X (unaryOp op) r) (ha:PE X a ta):PE X (.UnaryOp op a pos) (kF r ta):=by
 intro pins s σ H Q I h;exact UnaryOp_ (An (ha pins s σ H _ I h) fun v s1 ⟨x,H1,I1,r1,q1⟩=>ho pins s1 σ H1 x v Q I1 r1 q1)
theorem iE {f:Value->Value->Sem Value} {C:Int->Int->Prop} {g:Int->Int->Int}
    (rule:∀ (i j:Int) (t u:Tok) (s:Shared) (Q:Value->Shared->Prop) (E:Value->Shared->Prop),C i j->Q (.int (g i j) s.toks) { s with toks:=s.toks+1 }->wpAny (model X.prog X.w) X.A (f (.int i t) (.int j u)) Q E s) :
    Bq X f (rI C fun i j=>.int (g i j)):=by
  intro pins s σ H x y v u Q I rx ry h;obtain ⟨i,j,rfl,rfl,hc,q⟩:=h;obtain ⟨t,rfl⟩:=rx;obtain ⟨t',rfl⟩:=ry;exact rule i j t t' s _ _ hc ⟨.int (g i j),H,I.tok _,⟨_,rfl⟩,q⟩
theorem fI {f:Value->Value->Sem Value} {g:Int->Int->Int}
    (rule:∀ (i j:Int) (t u:Tok) (s:Shared) (Q:Value->Shared->Prop) (E:Value->Shared->Prop),Q (.int (g i j) s.toks) { s with toks:=s.toks+1 }->wpAny (model X.prog X.w) X.A (f (.int i t) (.int j u)) Q E s) :
    Bq X f (Rc fun i j=>.int (g i j)):=by
  intro pins s σ H x y v u Q I rx ry h;obtain ⟨i,j,rfl,rfl,q⟩:=h;obtain ⟨t,rfl⟩:=rx;obtain ⟨t',rfl⟩:=ry;exact rule i j t t' s _ _ ⟨.int (g i j),H,I.tok _,⟨_,rfl⟩,q⟩
theorem au {f:Value->Value->Sem Value} {g:Int->Int->Bool}
    (rule:∀ (i j:Int) (t u:Tok) (s:Shared) (Q:Value->Shared->Prop) (E:Value->Shared->Prop),Q (.bool (g i j)) s->wpAny (model X.prog X.w) X.A (f (.int i t) (.int j u)) Q E s) :
    Bq X f (Rc fun i j=>.bl (g i j)):=by
  intro pins s σ H x y v u Q I rx ry h;obtain ⟨i,j,rfl,rfl,q⟩:=h;obtain ⟨t,rfl⟩:=rx;obtain ⟨t',rfl⟩:=ry;exact rule i j t t' s _ _ ⟨.bl (g i j),H,I,rfl,q⟩
def jP (i j:Int):Prop:=0 < j/\j < 1073741824
def jO (i j:Int):Prop:=0<=j/\j<=1000000/\i.natAbs < 2 ^ 64
def Xs (i j:Int):Prop:=(-(2 ^ 64) < i/\i < 2 ^ 64)\/(-(2 ^ 64) < j/\j < 2 ^ 64)
theorem Xs.ok {i j:Int} (h:Xs i j):IntMulOk i j:=by
 rcases h with ⟨h1,h2⟩ | ⟨h1,h2⟩
 ·exact .of_left (intBits_le_64 h1 h2)
 ·exact .of_right (intBits_le_64 h1 h2)
theorem aq:Bq X (binaryOp .Add) (Rc fun i j=>.int (i+j)):=fI fun _ _ _ _ _ _ _ q=>add_int q
theorem aX:Bq X (binaryOp .Sub) (Rc fun i j=>.int (i - j)):=fI fun _ _ _ _ _ _ _ q=>sub_int q
theorem ae:Bq X (binaryOp .Mult) (rI Xs fun i j=>.int (i * j)):=iE fun _ _ _ _ _ _ _ hc q=>mul_int q hc.ok
theorem WX:Bq X (binaryOp .FloorDiv) (rI jP fun i j=>.int (i / j)):=iE fun i j _ _ _ _ _ hc q=>by
 have h1:(0:Int) < j:=hc.1;have h2:j < 1073741824:=hc.2;exact floordiv_int (by omega) (by rw [Int.fdiv_eq_ediv_of_nonneg i (by omega)];exact q) (.inl (PyProof.noPylong_small (by omega)))
theorem af:Bq X (binaryOp .Mod) (rI (fun _ j=>0 < j) fun i j=>.int (i % j)):=iE fun i j _ _ _ _ _ hc q=>by
 have h1:(0:Int) < j:=hc;exact mod_int' (by omega) (by rw [Int.fmod_eq_emod_of_nonneg i (by omega)];exact q)
theorem aZ:Bq X (binaryOp .Pow) (rI jO fun i j=>.int (i ^ j.toNat)):=iE fun _ _ _ _ _ _ _ hc q=>pow_int_small hc.1 hc.2.1 hc.2.2 q
theorem kB {f:Value->Sem Value} {g:Int->Int}
    (rule:∀ (i:Int) (t:Tok) (s:Shared) (Q:Value->Shared->Prop) (E:Value->Shared->Prop),Q (.int (g i) s.toks) { s with toks:=s.toks+1 }->wpAny (model X.prog X.w) X.A (f (.int i t)) Q E s) :
    jJ X f (rU fun i=>.int (g i)):=by
  intro pins s σ H x v Q I rx h;obtain ⟨i,rfl,q⟩:=h;obtain ⟨t,rfl⟩:=rx;exact rule i t s _ _ ⟨.int (g i),H,I.tok _,⟨_,rfl⟩,q⟩
theorem ZL:jJ X (unaryOp .USub) (rU fun i=>.int (-i)):=kB fun _ _ _ _ _ q=>neg_int q
end
section
variable {X:Cx} {a b c:Expr} {ta tb tc:TE} {pos:Pos}
theorem bg {pins:List (Addr×Obj)} {σ:St} {H:Hp} {s:Shared} {Q:VK} {k k':Bool} (I:Inv X pins σ H s) (q:Q (.bl k) H) (e:k=k'):EP X pins σ Q (.bool k') s:=by
 subst e;exact ⟨.bl k,H,I,rfl,q⟩
theorem fF:Bq X (compareOp .Lt) (Rc fun i j=>.bl (decide (i < j))):=au fun _ _ _ _ _ _ _ q=>lt_int q
theorem fG:Bq X (compareOp .Gt) (Rc fun i j=>.bl (decide (j < i))):=au fun _ _ _ _ _ _ _ q=>gt_int q
theorem fH:Bq X (compareOp .GtE) (Rc fun i j=>.bl (decide (j<=i))):=au fun _ _ _ _ _ _ _ q=>ge_int q
theorem Oy:Bq X (compareOp .In) (fun x y H Q=>∃ i j,x=.str i/\y=.str j/\Q (.bl (!(Builtin.Str.occurrences j i 0 j.length 1).isEmpty)) H):=by
 intro pins s σ H x y v u Q I rx ry h;obtain ⟨i,j,rfl,rfl,q⟩:=h;obtain ⟨t,rfl⟩:=rx;obtain ⟨t',rfl⟩:=ry;exact in_str (bg I q rfl)
theorem Bq.or {f:Value->Value->Sem Value} {r r':R2} (h:Bq X f r) (h':Bq X f r'):Bq X f (fun x y H Q=>r x y H Q\/r' x y H Q):=by
 intro pins s σ H x y v u Q I rx ry q;rcases q with q | q
 ·exact h pins s σ H x y v u Q I rx ry q
 ·exact h' pins s σ H x y v u Q I rx ry q
theorem WO {op:CmpOp} {r:R2} (ho:Bq X (compareOp op) r) (ha:PE X a ta) (hb:PE X b tb) (hm:behindInMarks op b=false):PE X (.Compare a [op] [b] pos) (iC r ta tb):=by
 intro pins s σ H Q I h;exact wpAny_Compare1 (cV ha hb I h fun v u s2 x y H2 I2 rx ry q=>ho pins s2 σ H2 x y v u Q I2 rx ry q) hm
abbrev dG (t:TE):TT:=fun σ H Q=>t σ H fun x H'=>∃ k,x=.bl k/\Q k H'
theorem Vt {op:CmpOp} {r:R2} (ho:Bq X (compareOp op) r) (ha:PE X a ta) (hb:PE X b tb) (hm:behindInMarks op b=false):PT X (.Compare a [op] [b] pos) (dG (iC r ta tb)):=by
 intro pins s σ H Q I h;refine wpAny_isTrue_Compare1 (An (ha pins s σ H _ I h) fun v s1 ⟨x,H1,I1,r1,q1⟩=>An (hb pins s1 σ H1 _ I1 q1) fun u s2 ⟨y,H2,I2,r2,q2⟩ =>
  An (ho pins s2 σ H2 x y v u _ I2 r1 r2 q2) fun c s3 ⟨z,H3,I3,r3,k,e,q3⟩=>?_) hm
 subst e;cases r3;exact wpAny_truthy_bool ⟨H3,I3,q3⟩
def VD (K:W.Frag) (x:V) (H:Hp) (k:Bool):Prop:=
 match x with
 | .non=>k=false
 | .bl b=>k=b
 | .int i=>k=(i != 0)
 | .str y=>y.length<=sizeLine/\k=((y.length:Int) != 0)
 | .byt y=>y.size<=sizeLine/\k=((y.size:Int) != 0)
 | .ref p=>(∃ xs,Cm K H p xs/\k=!xs.isEmpty)\/(∃ xs,DW K H p xs/\k=!xs.isEmpty)\/∃ kvs,H p=some (.dK kvs)/\k=!kvs.isEmpty
 | _=>False
theorem MQ {κ:Type} {kvs:List (κ×V)} {vs:List (κ×Value)} (r:KV kvs vs):(!vs.isEmpty)=!kvs.isEmpty:=by
 cases r<;>rfl
theorem Gj {xs:List V} {its:List Value} (r:AC xs its):(!its.toArray.isEmpty)=!xs.isEmpty:=by
 cases r<;>simp
theorem Ex:(sizeLine:Nat) < 2 ^ 63:=by rw [sizeLine_eq];decide
theorem ZP:jK X (fun x H Q=>∃ k,VD X.K x H k/\Q k H):=by
 intro pins s σ H x v Q I rx h;obtain ⟨k,e,q⟩:=h;have hl:=Ex;have hs:sizeLine=16777216:=sizeLine_eq;cases x with
 | non =>
  cases rx;have e':k=false:=e;subst e';exact truthy_none ⟨H,I,q⟩
 | bl b =>
  cases rx;have e':k=b:=e;subst e';exact wpAny_truthy_bool ⟨H,I,q⟩
 | int i =>
  obtain ⟨t,rfl⟩:=rx;have e':k=(i != 0):=e;subst e';exact PySem.P.truthy_int ⟨H,I,q⟩
 | str y =>
  obtain ⟨t,rfl⟩:=rx;obtain ⟨hy,e'⟩:y.length<=sizeLine/\k=((y.length:Int) != 0):=e;subst e';exact PySem.P.truthy_str (by omega) ⟨H,I.tok _,q⟩
 | byt y =>
  obtain ⟨t,rfl⟩:=rx;obtain ⟨hy,e'⟩:y.size<=sizeLine/\k=((y.size:Int) != 0):=e;subst e';exact W.truthy_bytes (by omega) ⟨H,I.tok _,q⟩
 | ref p =>
  cases rx;have e':(∃ xs,Cm X.K H p xs/\k=!xs.isEmpty)\/(∃ xs,DW X.K H p xs/\k=!xs.isEmpty)\/∃ kvs,H p=some (.dK kvs)/\k=!kvs.isEmpty:=e;rcases e' with ⟨xs,hx,e'⟩ | ⟨xs,hx,e'⟩ | ⟨kvs,hx,e'⟩
  ·subst e';obtain ⟨its,r,pl,hz⟩:=I.list hx;have hlen:=r.length;exact wpAny_truthy_list pl.isList (by simp only [kY];omega) ⟨H,I.tok _,by rw [Gj r];exact q⟩
  ·subst e';obtain ⟨its,r,pl,hz⟩:=I.tuple hx;have hlen:=r.length;exact truthy_tuple pl (by simp only [kY];omega) ⟨H,I.tok _,by rw [Gj r];exact q⟩
  ·subst e';obtain ⟨hz,hS,vs,r,m⟩:kvs.length<=sizeLine/\(p == sysModules)=false/\∃ vs,KV kvs vs/\s.heap.DictOf (AN X.prog X.w) p vs:=I.hok p _ hx;have hlen:kvs.length=vs.length:=Paired.length r;exact wpAny_truthy_dict hS m (by omega) ⟨H,I.tok _,by rw [MQ r];exact q⟩
 | _=>exact (show False from e).elim
theorem Rg (ha:PE X a ta) (he:∀ whole,isTrue a X.env whole=(do let v <- whole;standAt a.pos;holding [v] (truthy v))) :
    PT X a (fun σ H Q=>ta σ H fun x H'=>∃ k,VD X.K x H' k/\Q k H'):=by
  intro pins s σ H Q I h;exact isTrue_plain (An (ha pins s σ H _ I h) fun v s1 ⟨x,H1,I1,r1,q1⟩=>ZP pins s1 σ H1 x v Q I1 r1 q1) (he _)
theorem MA:Bq X (binaryOp .Add) (fun x y H Q=>∃ i j,x=.str i/\y=.str j/\i.length+j.length<=sizeLine/\Q (.str (i++j)) H):=by
 intro pins s σ H x y v u Q I rx ry h;obtain ⟨i,j,rfl,rfl,hz,q⟩:=h;obtain ⟨t,rfl⟩:=rx;obtain ⟨t',rfl⟩:=ry;exact add_str (fun t' tk=>⟨.str (i++j),H,I.tok _,⟨_,rfl⟩,q⟩) hz
theorem vals1 {x:V} {us:List Value} (r:AC [x] us):∃ u,us=[u]/\RelV x u:=by
 cases r with
 | cons r1 r2=>cases r2;exact ⟨_,rfl,r1⟩
theorem cy {x y:V} {us:List Value} (r:AC [x,y] us):∃ u w',us=[u,w']/\RelV x u/\RelV y w':=by
 cases r with
 | cons r1 r2 =>
  cases r2 with
  | cons r3 r4=>cases r4;exact ⟨_,_,rfl,r1,r3⟩
theorem QB (hc:X.calm=true):BD X (.builtin "max") (fun xs H Q=>∃ i j,xs=[.int i,.int j]/\Q (.int (if j > i then j else i)) H):=by
 intro pins s σ H xs us Q I r h;obtain ⟨i,j,rfl,q⟩:=h;obtain ⟨u,w',rfl,⟨t,rfl⟩,⟨t',rfl⟩⟩:=cy r;refine max_two_ints (I.ok.hd hc) fun h' tk k=>⟨_,H,I.kept k,?_,q⟩
 by_cases hj:j > i
 ·rw [if_pos hj,if_pos hj];exact ⟨_,rfl⟩
 ·rw [if_neg hj,if_neg hj];exact ⟨_,rfl⟩
theorem QI:BD X (.type "int") (fun xs H Q=>(∃ i,xs=[.int i]/\Q (.int i) H)\/∃ k,xs=[.bl k]/\Q (.int (if k then 1 else 0)) H):=by
 intro pins s σ H xs us Q I r h;rcases h with ⟨i,rfl,q⟩ | ⟨k,rfl,q⟩
 ·obtain ⟨u,rfl,t,rfl⟩:=vals1 r;exact call_int_int ⟨.int i,H,I,⟨_,rfl⟩,q⟩
 ·obtain ⟨u,rfl,r1⟩:=vals1 r;cases r1;exact call_int_bool ⟨.int (if k then 1 else 0),H,I.tok _,⟨_,rfl⟩,q⟩
def gw (K:W.Frag) (x:V) (H:Hp) (n:Nat):Prop:=
 match x with
 | .str y=>y.length<=sizeLine/\n=y.length
 | .byt y=>y.size<=sizeLine/\n=y.size
 | .ref p=>(∃ xs,Cm K H p xs/\n=xs.length)\/∃ xs,DW K H p xs/\n=xs.length
 | _=>False
theorem UH:BD X (.builtin "len") (fun xs H Q=>∃ x n,xs=[x]/\gw X.K x H n/\Q (.int n) H):=by
 intro pins s σ H xs us Q I r h;obtain ⟨x,n,rfl,e,q⟩:=h;obtain ⟨u,rfl,rx⟩:=vals1 r;have hl:=Ex;have hs:sizeLine=16777216:=sizeLine_eq;cases x with
 | str y =>
  obtain ⟨t,rfl⟩:=rx;obtain ⟨hy,e'⟩:y.length<=sizeLine/\n=y.length:=e;subst e';exact len_str (by omega) ⟨.int _,H,I.tok _,⟨_,rfl⟩,q⟩
 | byt y =>
  obtain ⟨t,rfl⟩:=rx;obtain ⟨hy,e'⟩:y.size<=sizeLine/\n=y.size:=e;subst e';exact W.len_bytes (by omega) ⟨.int _,H,I.tok _,⟨_,rfl⟩,q⟩
 | ref p =>
  cases rx;have e':(∃ xs,Cm X.K H p xs/\n=xs.length)\/∃ xs,DW X.K H p xs/\n=xs.length:=e;rcases e' with ⟨xs,hx,e'⟩ | ⟨xs,hx,e'⟩
  ·subst e';obtain ⟨its,r',pl,hz⟩:=I.list hx;have hlen:=r'.length;exact Calls.call_len_list pl.isList (by simp only [kY];omega) ⟨.int xs.length,H,I.tok _,⟨_,by simp only [kY];rw [hlen]⟩,q⟩
  ·subst e';obtain ⟨its,r',pl,hz⟩:=I.tuple hx;have hlen:=r'.length;exact len_tuple pl (by simp only [kY];omega) ⟨.int xs.length,H,I.tok _,⟨_,by simp only [kY];rw [hlen]⟩,q⟩
 | _=>exact (show False from e).elim
end
structure ObjM (h:Heap) (x dx C:Addr) (mA:Str->Option Value):Prop where
 obj:h.get? x=some (W.instObj C dx)
 ns:h.Ns1 dx mA
 ne:dx≠x
theorem PQ {h:Heap} {dx:Addr} {mA:Str->Option Value} (n:h.Ns1 dx mA):∃ od,h.get? dx=some od/\∀ name,W.lookIn name od=some (mA name):=by
  obtain ⟨o,es,ep,ho,hd,hk,_,hm⟩:=n;refine ⟨o,ho,fun name=>?_⟩;have e:=hm name;unfold nsFind findBy at e;rw [<- Array.find?_toList] at e;unfold W.lookIn;rw [hd];dsimp only;split
  · rename_i y q;rw [q] at e;exact congrArg some e
  · rename_i q;rw [q] at e;have a:es.toList.any (·.refKey)=false:=by
      rw [List.any_eq_false];intro y hy;obtain ⟨z,t,hkey⟩:=hk y (Array.mem_toList_iff.mp hy);simp [DictEntry.refKey,hkey]
    have a':¬ es.toList.any (·.refKey)=true:=by rw [a];exact ku
    rw [if_neg a'];exact congrArg some e
theorem ObjM.look {h:Heap} {x dx C:Addr} {mA:Str->Option Value} (I:ObjM h x dx C mA):∃ od,W.InstAt h x (W.instObj C dx) C (some od)/\∀ name,W.lookIn name od=some (mA name):=
 let ⟨od,ho,hl⟩:=PQ I.ns
 ⟨od,⟨I.obj,rfl,rfl,ho⟩,hl⟩
section
variable {prog:Program} {w:World} {A:Around} {E:Value->Shared->Prop} {s:Shared} {K:W.Frag} {x dx C f:Addr} {mA:Str->Option Value} {name:Str} {v:Value}
theorem Wp {expr:Bool} {Q:Value->Shared->Prop} (X:K.In s.heap) (I:ObjM s.heap x dx C mA) (hg:W.plainGet K C name=true) (hh:W.hasDictIn K C=true)
    (ha:W.findIn K (.ref C) name=some none) (hv:mA name=some v) (hv':W.handedIn v=true) (h:Q v { s with toks:=s.toks+1 }) :
    wpAny (model prog w) A (getAttr (.ref x) name expr) Q E s:=by
  obtain ⟨od,J,hl⟩:=I.look;exact W.get_value X J (W.plainGet_of hg).1 (W.findObj_own hh ha rfl (by rw [hl,hv])) hv' h
theorem Sz {pl:Sem Bool} {Q:Value×List Value->Shared->Prop} (X:K.In s.heap) (I:ObjM s.heap x dx C mA) (hg:W.plainGet K C name=true)
    (hf:W.findIn K (.ref C) name=some (some (.ref f))) (ht:W.isFn K (.ref f)=true) (hv:mA name=none) (h:Q (.ref f,[.ref x]) s) :
    wpAny (model prog w) A (getMethod (.ref x) name pl) Q E s:=by
  obtain ⟨od,J,hl⟩:=I.look;exact W.method_fn X J (W.plainGet_of hg).1 (W.plainGet_of hg).2 hf (beq_iff_eq.mp ht) (by show (W.lookIn name od).map (·.isSome)=some false;rw [hl,hv];rfl) h
theorem Vf {ns:List Str} {Q:Unit->Shared->Prop} (X:K.In s.heap) (I:ObjM s.heap x dx C mA)
    (hs:W.findIn K (.ref C) "__setattr__" = some (some (.builtin "object.__setattr__"))) (hp:W.plainOver K C=true) (ht:W.takerIn K C name=some none) (hh:W.hasDictIn K C=true)
    (hw:PySem.Within mA ns) (hsz:ns.length<=sizeLine)
    (h:∀ h',ObjM h' x dx C (fun y=>if y=name then some v else mA y)->Heap.SameBut dx s.heap h'->Q () { s with heap:=h',toks:=s.toks+2 }) :
    wpAny (model prog w) A (setAttr (.ref x) name v) Q E s:=by
  obtain ⟨od,J,hl⟩:=I.look;refine W.set_plain X J hs (W.osa_open (s:={ s with toks:=s.toks+1 }) (r:=none) X J hp ht fun b=>?_);obtain ⟨cd,hc,hd'⟩:=W.any_some hh;have hx:s.heap.get? x=some ⟨.ref C,some dx,.plain,#[]⟩:=I.obj;refine wpAny_bind (wpAny_pure (wpAny_bind (wpAny_bind (wpAny_loadPart hx (wpAny_bind (W.Looks.here (s:={ s with toks:=s.toks+1 }) (W.looks_clsIn X hc) ?_))))));rw [hd'];refine wpAny_pure (a:=some dx) (wpAny_bind (wpAny_pure (wpAny_bind ?_)));refine wpAny_nsSet1 (s:={ s with toks:=s.toks+1 }) I.ns fun h' hn2 hs2=>?_
  obtain ⟨oD,esD,epD,hoD,hdD,hcD⟩:=hn2.count (PySem.Within.cons name v hw);refine wpAny_bind (wpAny_lookBehind hoD (by rw [hdD];exact pastItsLine_dict (kr hcD (by rw [ki];omega))) ?_);exact wpAny_pure (h _ ⟨(hs2.2 _ (Ne.symm I.ne)).trans I.obj,hn2,I.ne⟩ hs2)
theorem Sa {R:Result->Shared->Prop} {vs:List Value} {kw:List (Str×Value)} (X:K.In s.heap) (hm:W.makesIn K C=true)
    (hi:W.findIn K (.ref C) "__init__" = some (some (.ref f))) (hf:W.typeIn K (.ref f)=some (.type "function"))
    (h:codeAny (model prog w) (A.under (.builtin "type.__call__" ⟨.ref C::vs,kw⟩)) (.call (.ref f) ⟨.ref (s.heap.objs.size+1)::vs,kw⟩) (W.InitBack (s.heap.objs.size+1) R)
      { s with heap:=(s.heap.push W.emptyDict).push (W.instObj C s.heap.objs.size) }) :
    codeAny (model prog w) A (.call (.ref C) ⟨vs,kw⟩) R s:=by
  obtain ⟨hh,g,d,t,os⟩:=s;exact W.make_core (W.makes_of X hm) (W.looks_findIn X hi) (fun self=>W.bind_fn X self hf) (.inl rfl) h
end
noncomputable def Cu (f:Str) (v:V):List (Str×V)->List (Str×V)
 | []=>[(f,v)]
 | (g,x)::r=>if g=f then (g,v)::r else (g,x)::Cu f v r
theorem Cv (f g:Str) (v:V):∀ fs:List (Str×V),(Cu f v fs).lookup g=if g=f then some v else fs.lookup g
 | []=>by
  show List.lookup g [(f,v)]=_
  by_cases h:g=f
  ·have hb:(g == f)=true:=beq_iff_eq.mpr h;simp only [List.lookup,hb,if_pos h]
  ·have hb:(g == f)=false:=beq_eq_false_iff_ne.mpr h;simp only [List.lookup,hb,if_neg h]
 | (k,x)::r=>by
  have ih:=Cv f g v r;rw [show Cu f v ((k,x)::r)=(if k=f then (k,v)::r else (k,x)::Cu f v r) from rfl]
  by_cases hk:k=f
  ·rw [if_pos hk]
   by_cases h:g=k
   ·have hb:(g == k)=true:=beq_iff_eq.mpr h;simp only [List.lookup,hb,if_pos (h.trans hk)]
   ·have hb:(g == k)=false:=beq_eq_false_iff_ne.mpr h;simp only [List.lookup,hb,if_neg (fun e:g=f=>h (e.trans hk.symm))]
  ·rw [if_neg hk]
   by_cases h:g=k
   ·have hb:(g == k)=true:=beq_iff_eq.mpr h;simp only [List.lookup,hb,if_neg (fun e:g=f=>hk (h.symm.trans e))]
   ·have hb:(g == k)=false:=beq_eq_false_iff_ne.mpr h;simp only [List.lookup,hb];exact ih
theorem Ez (f:Str) (v:V):∀ fs:List (Str×V),f∈(Cu f v fs).map (·.1)/\∀ g,g∈fs.map (·.1)->g∈(Cu f v fs).map (·.1)
 | []=>⟨by simp [Cu],fun g h=>by simp at h⟩
 | (k,x)::r=>by
  obtain ⟨i1,i2⟩:=Ez f v r;rw [show Cu f v ((k,x)::r)=(if k=f then (k,v)::r else (k,x)::Cu f v r) from rfl]
  by_cases hk:k=f
  ·rw [if_pos hk];subst hk;exact ⟨by simp,fun g h=>by simpa using h⟩
  ·rw [if_neg hk];refine ⟨?_,fun g h=>?_⟩
   ·rw [kj];exact kX _ i1
   ·rw [kj] at h ⊢;rcases kh.mp h with e | e
    ·exact kh.mpr (.inl e)
    ·exact kX _ (i2 g e)
theorem FK (f:Str) (v:V):∀ fs:List (Str×V),(Cu f v fs).length<=fs.length+1
 | []=>by simp [Cu]
 | (k,x)::r=>by
  have ih:=FK f v r;rw [show Cu f v ((k,x)::r)=(if k=f then (k,v)::r else (k,x)::Cu f v r) from rfl]
  by_cases hk:k=f
  ·rw [if_pos hk,ki,ki];omega
  ·rw [if_neg hk,ki,ki];omega
theorem Cp.some_of {v:V} {o:Option Value} (r:Cp (some v) o):∃ u,o=some u/\RelV v u:=by
 cases o with
 | none=>exact (show False from r).elim
 | some u=>exact ⟨u,rfl,r⟩
theorem Cp.none_of {o:Option Value} (r:Cp none o):o=none:=by
 cases o with
 | none=>rfl
 | some u=>exact (show False from r).elim
theorem Pg {v:V} {u:Value} (r:RelV v u):W.handedIn u=true:=by
 cases v with
 | non=>cases (show u=Value.none from r);rfl
 | bl b=>cases (show u=Value.bool b from r);rfl
 | int i=>obtain ⟨t,e⟩:=(show ∃ t,u=Value.int i t from r);cases e;rfl
 | str x=>obtain ⟨t,e⟩:=(show ∃ t,u=Value.str x t from r);cases e;rfl
 | byt b=>obtain ⟨t,e⟩:=(show ∃ t,u=Value.bytes b t from r);cases e;rfl
 | flt b=>obtain ⟨t,e⟩:=(show ∃ t,u=Value.float b t from r);cases e;rfl
 | ref a=>cases (show u=Value.ref a from r);rfl
 | ty n=>cases (show u=Value.type n from r);rfl
section
variable {P:Program} {w:World} {H H':Hp} {h h':Heap} {a C dx:Addr} {fs fs':List (Str×V)}
theorem FY (hok:DX P w H h) (e:H a=some (.ins C dx fs)):∃ mA,ObjM h a dx C mA/\(∀ f,Cp (fs.lookup f) (mA f))/\PySem.Within mA (fs.map (·.1))/\fs.length<=1000/\H dx=some (.own a):=by
 obtain ⟨d,z,ne,ob,mA,n,r,q⟩:=(show Aa P w H h a (.ins C dx fs) from hok a _ e);exact ⟨mA,⟨ob,n,ne⟩,r,q,z,d⟩
end
structure Cls (K:W.Frag) (C:Addr):Prop where
 pg:W.plainGet K C Str.empty=true
 hd:W.hasDictIn K C=true
 po:W.plainOver K C=true
 sa:W.findIn K (.ref C) "__setattr__" = some (some (.builtin "object.__setattr__"))
theorem Cls.get {K:W.Frag} {C:Addr} (c:Cls K C) (f:Str):W.plainGet K C f=true:=c.pg
def DH (K:W.Frag) (C:Addr) (f:Str):Prop:=W.findIn K (.ref C) f=some none
theorem DH.taker {K:W.Frag} {C:Addr} {f:Str} (n:DH K C f):W.takerIn K C f=some none:=by
 unfold W.takerIn;rw [show W.findIn K (.ref C) f=some none from n];rfl
structure Meth (K:W.Frag) (C:Addr) (m:Str) (f:Addr):Prop where
 at_:W.findIn K (.ref C) m=some (some (.ref f))
 fn:W.isFn K (.ref f)=true
 kp:W.keepIn K (.ref f)=true
section
variable {X:Cx} {pins:List (Addr×Obj)} {σ:St} {H:Hp} {s:Shared} {a C dx:Addr} {fs:List (Str×V)} {f:Str} {v:V} {A:Around} {E:Value->Shared->Prop}
theorem MT {b:Bool} {Q:Value->Shared->Prop} (I:Inv X pins σ H s) (e:H a=some (.ins C dx fs)) (c:Cls X.K C) (n:DH X.K C f) (l:fs.lookup f=some v)
    (h:∀ u s',Inv X pins σ H s'->RelV v u->Q u s'):wpAny (model X.prog X.w) A (getAttr (.ref a) f b) Q E s:=by
  obtain ⟨mA,O,r,_,_,_⟩:=FY I.hok e;obtain ⟨u,hu,ru⟩:=Cp.some_of (v:=v) (o:=mA f) (by rw [<- l];exact r f);exact Wp I.kIn O (c.get f) c.hd n hu (Pg ru) (h u _ (I.tok _) ru)
theorem Gs {m:Str} {g:Addr} {pl:Sem Bool} {Q:Value×List Value->Shared->Prop} (I:Inv X pins σ H s) (e:H a=some (.ins C dx fs)) (c:Cls X.K C) (k:Meth X.K C m g) (l:fs.lookup m=none)
    (h:Q (.ref g,[.ref a]) s):wpAny (model X.prog X.w) A (getMethod (.ref a) m pl) Q E s:=by
  obtain ⟨mA,O,r,_,_,_⟩:=FY I.hok e;have hn:mA m=none:=Cp.none_of (by rw [<- l];exact r m);exact Sz I.kIn O (c.get m) k.at_ k.fn hn h
theorem Lm {y:V} {u:Value} {Q:Unit->Shared->Prop} (I:Inv X pins σ H s) (e:H a=some (.ins C dx fs)) (c:Cls X.K C) (n:DH X.K C f) (hl:fs.length < 1000) (ry:RelV y u)
    (h:∀ s',Inv X pins σ (upd H a (.ins C dx (Cu f y fs))) s'->Q () s'):wpAny (model X.prog X.w) A (setAttr (.ref a) f u) Q E s:=by
  obtain ⟨mA,O,r,wi,_,ho⟩:=FY I.hok e;have hz:(fs.map (·.1)).length<=sizeLine:=by rw [lK,sizeLine_eq];omega
  refine Vf I.kIn O c.sa c.po n.taker c.hd wi hz fun h' O' sb=>h _ ?_
  have hd:∃ o,h'.get? dx=some o:=let ⟨o,_,_,e',_⟩:=O'.ns;⟨o,e'⟩;refine I.write (x:=a) (e:=dx) (by rw [e];exact True.intro) (.inr ho) (fun b q hb z=>(sb.2 b hb).trans z) hd ?_;refine ⟨by rw [AD O.ne];exact ho,?_,O.ne,O'.obj,_,O'.ns,fun g=>?_,fun g hg=>?_⟩
  · have:=FK f y fs;omega
  · show Cp ((Cu f y fs).lookup g) (if g=f then some u else mA g);rw [Cv]
    by_cases q:g=f
    · rw [if_pos q,if_pos q];exact ry
    · rw [if_neg q,if_neg q];exact r g
  · by_cases q:g=f
    · rw [q];exact (Ez f y fs).1
    · refine (Ez f y fs).2 g (wi g fun z=>hg ?_);show (if g=f then some u else mA g)=none;rw [if_neg q];exact z
theorem Inv.made (I:Inv X pins σ H s):Inv X pins σ (upd (upd H s.heap.objs.size (.own (s.heap.objs.size+1))) (s.heap.objs.size+1) (.ins C s.heap.objs.size []))
    { s with heap:=(s.heap.push W.emptyDict).push (W.instObj C s.heap.objs.size) }:=by
  have e1:(s.heap.push W.emptyDict).get? s.heap.objs.size=some W.emptyDict:=lA s.heap rfl;have e2:((s.heap.push W.emptyDict).push (W.instObj C s.heap.objs.size)).get? (s.heap.objs.size+1)=some (W.instObj C s.heap.objs.size):=by
    have:=lA (s.heap.push W.emptyDict) (o:=W.instObj C s.heap.objs.size) rfl
    rwa [lq] at this
  have e3:(s.heap.push W.emptyDict).Ns s.heap.objs.size (fun _=>none):=⟨W.emptyDict,#[],_,e1,rfl,(fun e he=>absurd he (by simp)),fun _=>rfl⟩;have I1:=I.laid (a:=s.heap.objs.size) (o:=.own (s.heap.objs.size+1)) (h':=s.heap.push W.emptyDict) (t':=s.toks) (fun b u q=>kW _ q) (kb _) ⟨_,e1⟩;refine I1.laid (a:=s.heap.objs.size+1) (o:=.ins C s.heap.objs.size []) (t':=s.toks) (fun b u q=>kW _ q) (Nat.le_of_eq (lq _ _)) ?_;have ne:s.heap.objs.size≠s.heap.objs.size+1:=lL (mh _);refine ⟨by rw [AD ne,AF],lg _,ne,e2,fun _=>none,(Heap.Ns1.of_empty e3).at fun o q=>kW _ q,fun _=>True.intro,fun y hy=>absurd rfl hy⟩
theorem Xh {prog:Program} {w:World} {env:Env} {e:Expr} {f:Str} {pos:Pos} {s:Shared} {Q:Value->Shared->Prop} (hb:attributeBase e f env (eval e env)=eval e env)
    (h:wpAny (model prog w) A (eval e env) (fun o s₁=>wpAny (model prog w) A (getAttr o f true) Q E s₁) E s):wpAny (model prog w) A (eval (.Attribute e f pos) env) Q E s:=
  Attribute_any_ h (by rw [arm_eval_Attribute,hb])
end
def OX (K:W.Frag) (ta:TE) (f:Str):TE:=fun σ H Q=>ta σ H fun x H1=>∃ a C dx fs v,x=.ref a/\H1 a=some (.ins C dx fs)/\Cls K C/\DH K C f/\fs.lookup f=some v/\Q v H1
def dh (K:W.Frag) (ta tv:TE) (f:Str):TS:=fun D σ H=>tv σ H fun y H1=>ta σ H1 fun x H2=>∃ a C dx fs,x=.ref a/\H2 a=some (.ins C dx fs)/\Cls K C/\DH K C f/\fs.length < 1000 /\
 D.nx σ (upd H2 a (.ins C dx (Cu f y fs)))
section
variable {X:Cx} {o e value:Expr} {f:Str} {pos pos' tpos:Pos} {ta tv:TE}
theorem aT (he:PE X e ta) (hb:attributeBase e f X.env (eval e X.env)=eval e X.env):PE X (.Attribute e f pos) (OX X.K ta f):=by
 intro pins s σ H Q I h;refine Xh hb (An (he pins s σ H _ I h) fun u s1 ⟨x,H1,I1,rx,a,C,dx,fs,v,ex,ea,c,n,l,q⟩=>?_);subst ex;obtain rfl:u=Value.ref a:=rx;exact MT I1 ea c n l fun u' s2 I2 ru=>⟨v,H1,I2,ru,q⟩
theorem aD (ha:PE X o ta) (hv:PE X value tv) (hs:swapsWith value (some (.Attribute o f pos')) pos.line X.env=pure false):PS X (.Assign [.Attribute o f pos'] value pos) (dh X.K ta tv f):=by
 intro pins s σ H D I h;refine plainObj_wpAny_Assign_Attribute (An (hv pins s σ H _ I h) fun u s1 ⟨y,H1,I1,ry,q⟩=>An (ha pins s1 σ H1 _ I1 q) fun ov s2 ⟨x,H2,I2,rx,a,C,dx,fs,ex,ea,c,n,l,q2⟩=>?_) hs;subst ex;obtain rfl:ov=Value.ref a:=rx;exact Lm I2 ea c n l ry fun s3 I3=>⟨σ,_,I3,q2⟩
end
section
variable {X:Cx} {pins:List (Addr×Obj)} {σ:St} {H:Hp} {s:Shared} {A:Around} {E:Value->Shared->Prop} {Q:Value->Shared->Prop} {c:Value} {b:Bool}
inductive TyOf (K:W.Frag) (H:Hp):V->Value->Prop where
  | non:TyOf K H .non (.type "NoneType")
  | bl (x:Bool):TyOf K H (.bl x) (.type "bool")
  | int (i:Int):TyOf K H (.int i) (.type "int")
  | str (x:Str):TyOf K H (.str x) (.type "str")
  | flt (x:UInt64):TyOf K H (.flt x) (.type "float")
  | lst {a:Addr} {xs:List V} (e:H a=some (.lst xs)):TyOf K H (.ref a) (.type "list")
  | frz {a:Addr} {o:Obj} {xs:List V} (e:H a=some (.frz o (.lst xs))):TyOf K H (.ref a) (.type "list")
  | tup {a:Addr} {xs:List V} (e:H a=some (.tup xs)):TyOf K H (.ref a) (.type "tuple")
  | dK {a:Addr} {kvs:List (AS×V)} (e:H a=some (.dK kvs)):TyOf K H (.ref a) (.type "dict")
  | dT {a:Addr} {kvs:List (List AS×V)} (e:H a=some (.dT kvs)):TyOf K H (.ref a) (.type "dict")
  | ins {a C dx:Addr} {fs:List (Str×V)} (e:H a=some (.ins C dx fs)) (cl:Cls K C) (ha:W.findIn K (.ref C) "__class__" = some (some (.builtin "object.__class__")))
      (hn:W.specialIn K (.builtin "object.__class__") "__get__" = some (some (.builtin "getset_descriptor.__get__"))) (htk:W.takesIn K (.builtin "object.__class__")=some true)
      (hm:W.mroIn K C (.type "object")=some true):TyOf K H (.ref a) (.ref C)
theorem PZ {x:V} {u t:Value} (I:Inv X pins σ H s) (rx:RelV x u) (ty:TyOf X.K H x t) (e:W.kitOne X.K t c=some b) (h:∀ tk,Q (.bool b) { s with toks:=tk }) :
    wpAny (model X.prog X.w) A (call (.builtin "isinstance") [u,c]) Q E s:=by
  cases ty with
  | non=>cases (show u=Value.none from rx);exact W.kia_one W.kitx_none I.kIn True.intro e (fun z=>nomatch z) h
  | bl y=>cases (show u=Value.bool y from rx);exact W.kia_one W.kitx_bool I.kIn True.intro e (fun z=>nomatch z) h
  | int i=>obtain ⟨t,q⟩:=(show ∃ t,u=Value.int i t from rx);cases q;exact W.kia_one W.kitx_int I.kIn True.intro e (fun z=>nomatch z) h
  | str y=>obtain ⟨t,q⟩:=(show ∃ t,u=Value.str y t from rx);cases q;exact W.kia_one W.kitx_str I.kIn True.intro e (fun z=>nomatch z) h
  | flt y=>obtain ⟨t,q⟩:=(show ∃ t,u=Value.float y t from rx);cases q;exact W.kia_one W.kitx_float I.kIn True.intro e (fun z=>nomatch z) h
  | @lst a xs ea =>
    cases (show u=Value.ref a from rx);obtain ⟨_,_,n,_,h1⟩:=(show Aa X.prog X.w H s.heap a (.lst xs) from I.hok a _ ea);exact W.kia_one W.kitx_list I.kIn ⟨_,h1,rfl⟩ e (fun z=>nomatch z) h
  | @frz a ob xs ea =>
    cases (show u=Value.ref a from rx);obtain ⟨_,_,_,n,_,h1⟩:=(show Aa X.prog X.w H s.heap a (.frz ob (.lst xs)) from I.hok a _ ea);exact W.kia_one W.kitx_list I.kIn ⟨_,h1,rfl⟩ e (fun z=>nomatch z) h
  | @tup a xs ea =>
    cases (show u=Value.ref a from rx);obtain ⟨_,_,_,p⟩:=(show Aa X.prog X.w H s.heap a (.tup xs) from I.hok a _ ea);obtain ⟨o,h1,h2,_⟩:=p;exact W.kia_one W.kitx_tuple I.kIn ⟨o,h1,h2⟩ e (fun z=>nomatch z) h
  | @dK a kvs ea =>
    cases (show u=Value.ref a from rx);obtain ⟨_,_,vs,_,p⟩:=(show Aa X.prog X.w H s.heap a (.dK kvs) from I.hok a _ ea);obtain ⟨o,es,ep,h1,h2,_⟩:=p;exact W.kia_one W.kitx_dict I.kIn ⟨o,h1,h2.1⟩ e (fun z=>nomatch z) h
  | @dT a kvs ea =>
    cases (show u=Value.ref a from rx);obtain ⟨_,_,xs,_,o,es,ep,h1,h2,_⟩:=(show Aa X.prog X.w H s.heap a (.dT kvs) from I.hok a _ ea);exact W.kia_one W.kitx_dict I.kIn ⟨o,h1,h2.1⟩ e (fun z=>nomatch z) h
  | @ins a C dx fs ea cl ha hn htk hm =>
    cases (show u=Value.ref a from rx);obtain ⟨mA,O,_⟩:=FY I.hok ea;obtain ⟨od,J,_⟩:=O.look;exact W.kia_one (W.kitx_own (cl.get _) cl.hd ha hn htk hm) I.kIn J e (fun z=>nomatch z) h
end
structure Room (k:Nat) (A:Around):Prop where
 hd:A.handled=none
 dp:A.depth+3 * k+5 < recursionLimit
 un:A.units+16 * k+200 < cLine
 gd:A.guards=some []
theorem Room.mono {j k:Nat} {A:Around} (r:Room k A) (h:j<=k):Room j A:=⟨r.hd,by have:=r.dp;omega,by have:=r.un;omega,r.gd⟩
theorem Room.deeper {k:Nat} {A:Around} (r:Room (k+1) A) (env:Env):Room k (A.deeper env):=
 ⟨r.hd,by have:=r.dp;show A.depth+1+3 * k+5 < _;omega,by have:=r.un;show A.units+3+16 * k+200 < _;omega,r.gd⟩
theorem MK {A:Around} {C:Addr} {us:List Value} {kw:List (Str×Value)}:(A.under (.builtin "type.__call__" ⟨.ref C::us,kw⟩)).depth=A.depth+1:=by
 first | rfl | simp [Around.under,Code.weight,Code.isCreation,Code.isGuard,Code.isCaller,Code.frames,Code.isFrame,guardIds]
theorem MJ {A:Around} {C:Addr} {us:List Value} {kw:List (Str×Value)}:(A.under (.builtin "type.__call__" ⟨.ref C::us,kw⟩)).units=A.units+1:=by
 first | rfl | simp [Around.under,Code.cUnits,Code.frames,Code.isFrame]
theorem Room.make {k:Nat} {A:Around} (r:Room (k+1) A) (C:Addr) (us:List Value) (kw:List (Str×Value)):Room k (A.under (.builtin "type.__call__" ⟨.ref C::us,kw⟩)):=
 ⟨r.hd,by have:=r.dp;rw [MK];omega,by have:=r.un;rw [MJ];omega,by
 have e:(A.under (.builtin "type.__call__" ⟨.ref C::us,kw⟩)).guards=A.guards:=by
  first | rfl | (simp only [Around.under,Code.guards,Code.isGuard];cases A.guards<;>simp [pushGuards,guardIds]) | simp [Around.under,Code.guards,Code.isGuard,guardIds,pushGuards]
 rw [e];exact r.gd⟩
theorem Room.depth {k:Nat} {A:Around} (r:Room k A):A.depth < recursionLimit:=by have:=r.dp;omega
abbrev OW:TA:=fun _ H Q=>Q [] H
abbrev Xz (ta:TE) (tr:TA):TA:=fun σ H Q=>ta σ H fun x H1=>tr σ H1 fun xs H2=>Q (x::xs) H2
section
variable {X:Cx} {e:Expr} {es:List Expr} {te:TE} {t:TA} {pos:Pos}
theorem SF:PA X [] OW:=fun _ _ _ _ H Q I h=>Calls.spliced_nil ⟨[],H,I,.nil,h⟩
theorem Cc (ha:PE X e te) (hr:PA X es t) (hs:starEach (e::es) X.env=(false,eval e X.env)::starEach es X.env:=by rfl):PA X (e::es) (Xz te t):=by
 intro pos pins s σ H Q I h;rw [hs];show wpAny _ _ (spliced ((false,eval e X.env)::backTo pos (starEach es X.env))) _ _ s;refine Calls.spliced_cons (An (ha pins s σ H _ I h) fun u s1 ⟨x,H1,I1,r1,q1⟩=>?_);exact An (hr pos pins s1 σ H1 _ I1 q1) fun us s2 ⟨xs,H2,I2,r2,q2⟩=>⟨x::xs,H2,I2,.cons r1 r2,q2⟩
abbrev iQ (t:TA):TE:=fun σ H Q=>t σ H fun xs H1=>xs.length<=sizeLine/\∀ p,H1 p=none->Q (.ref p) (upd H1 p (.tup xs))
abbrev iU (t:TA):TE:=fun σ H Q=>t σ H fun xs H1=>xs.length<=sizeLine/\∀ p,H1 p=none->Q (.ref p) (upd H1 p (.lst xs))
theorem aM {x1} (h:PA X es t):PE X (.Tuple es x1 pos) (iQ t):=by
 intro pins s σ H Q I hq;refine wpAny_Tuple_spliced (An (h pos pins s σ H _ I hq) fun us s1 ⟨xs,H1,I1,r,z,q⟩=>⟨by rw [<- r.length];exact z,?_⟩);have hf:H1 s1.heap.objs.size=none:=I1.hok.fresh (kb _);refine ⟨.ref s1.heap.objs.size,upd H1 s1.heap.objs.size (.tup xs),I1.laid (t':=s1.toks) (fun b u e=>kW _ e) (kb _) ?_,rfl,q _ hf⟩;exact ⟨z,us,r,⟨_,lA _ rfl,rfl,rfl,_,rfl⟩⟩
theorem aR (h:PA X es t):PE X (.List es pos) (iU t):=by
 intro pins s σ H Q I hq;refine wpAny_List_spliced (An (h pos pins s σ H _ I hq) fun us s1 ⟨xs,H1,I1,r,z,q⟩=>⟨by rw [<- r.length];exact z,?_⟩);have hf:H1 s1.heap.objs.size=none:=I1.hok.fresh (kb _);refine ⟨.ref s1.heap.objs.size,upd H1 s1.heap.objs.size (.lst xs),I1.laid (t':=s1.toks) (fun b u e=>kW _ e) (kb _) ?_,rfl,q _ hf⟩;exact ⟨z,us,0,r,lA _ rfl⟩
end
abbrev Sp:=List V->Hp->VK->XK->Prop
abbrev VI:=List Env->Hp->Shared->XK->Value->Shared->Prop
structure Env0 (P:Program) (w:World) (K:W.Frag) (mg:Str->Option Value) (base:Heap) (A:Around) (outer:List Env) (s:Shared) (H:Hp):Prop where
 frames:A.frames=some outer
 mod:Mod K mg base
 bs:∀ b o,base.get? b=some o->s.heap.get? b=some o/\H b=none
 bsz:base.objs.size<=s.heap.objs.size
 funs:s.heap.FunFrames base outer
 frf:∀ b∈frs outer,H b=none
 hok:DX P w H s.heap
 bare:AllBare s.gens
def CE (outer:List Env) (P:Program) (w:World) (H:Hp) (s:Shared) (Q:VK) (u:Value) (s':Shared):Prop:=
 ∃ v H',s'.os=s.os/\AllBare s'.gens/\Un (frs outer) [] H H' s.heap s'.heap/\DX P w H' s'.heap/\RelV v u/\Q v H'
def CR (CX:VI) (outer:List Env) (P:Program) (w:World) (H:Hp) (s:Shared) (Q:VK) (E:XK) (r:Result) (s':Shared):Prop:=
 match r with
 | .ok (.ret u)=>CE outer P w H s Q u s'
 | .ok _=>False
 | .error e=>CX outer H s E e s'
structure FnOk (P:Program) (w:World) (K:W.Frag) (mg:Str->Option Value) (base:Heap) (CX:VI) (k:Nat) (f:Addr) (fd:FuncData) (ps:List Str) (sp:Sp):Prop where
 len:∀ vs H Q E,sp vs H Q E->vs.length=ps.length
 run:∀ (A:Around) (outer:List Env) (s:Shared) (H:Hp) (args:Args) (us:List Value) (vs:List V) (Q:VK) (E:XK),Room k A->Env0 P w K mg base A outer s H->BindsTo s fd args (ps.zip us)->AC vs us->sp vs H Q E ->
  codeAny (model P w) A (.call (.ref f) args) (CR CX outer P w H s Q E) s
theorem FnOk.imp {P:Program} {w:World} {K:W.Frag} {mg:Str->Option Value} {base:Heap} {CX:VI} {k:Nat} {f:Addr} {fd:FuncData} {ps:List Str} {sp sp':Sp} (F:FnOk P w K mg base CX k f fd ps sp)
    (h:∀ vs H Q E,sp' vs H Q E->sp vs H Q E):FnOk P w K mg base CX k f fd ps sp':=
  ⟨fun vs H Q E q=>F.len vs H Q E (h _ _ _ _ q),fun A outer s H args us vs Q E hr he hb hv hs=>F.run A outer s H args us vs Q E hr he hb hv (h _ _ _ _ hs)⟩
theorem Env0.make {P:Program} {w:World} {K:W.Frag} {mg:Str->Option Value} {base:Heap} {A:Around} {outer:List Env} {s:Shared} {H:Hp} (e:Env0 P w K mg base A outer s H) (C:Addr) (us:List Value) (kw:List (Str×Value)) :
    Env0 P w K mg base (A.under (.builtin "type.__call__" ⟨.ref C::us,kw⟩)) outer s H:=⟨by first | exact e.frames | (simpa [Around.under,Code.envs,Code.isFrame,pushEnvs] using e.frames),e.mod,e.bs,e.bsz,e.funs,e.frf,e.hok,e.bare⟩
section
variable {X:Cx} {pins:List (Addr×Obj)} {σ:St} {H:Hp} {s s':Shared}
theorem Inv.env0 (I:Inv X pins σ H s):Env0 X.prog X.w X.K X.mg X.base X.A X.stack s H:=
 ⟨I.ok.frames,I.ok.mod,I.bs,kr I.ok.bsz I.sz,I.stack,I.stkFree,I.hok,I.bare⟩
theorem Inv.after {Q:VK} {u:Value} (I:Inv X pins σ H s) (h:CE X.stack X.prog X.w H s Q u s'):EP X pins σ Q u s':=by
 obtain ⟨v,H',os,bare,un,hok,r,q⟩:=h;obtain ⟨hh,g,d,t,os'⟩:=s';obtain rfl:os'=s.os:=os;exact ⟨v,H',I.call (h':=hh) (g':=g) (d':=d) (t':=t) (ch:=[]) un hok bare (fun b z=>absurd z (by simp)),r,q⟩
end
abbrev YA (sp:Sp) (dvs:List V) (E:XK) (t:TA):TE:=fun σ H Q=>t σ H fun vs H1=>sp (vs++dvs) H1 Q E
def NA (C:Addr) (m:Str) (sp:Sp) (dvs:List V) (E:XK) (ta:TE) (t:TA):TE:=fun σ H Q=>ta σ H fun x H1=>∃ a dx fs,x=.ref a/\H1 a=some (.ins C dx fs)/\fs.lookup m=none /\
 t σ H1 fun vs H2=>sp (x::(vs++dvs)) H2 Q E
def NB (C:Addr) (sp:Sp) (dvs:List V) (E:XK) (t:TA):TE:=fun σ H Q=>t σ H fun vs H1=>∀ x dx,H1 x=none->H1 dx=none->dx≠x ->
 sp (.ref x::(vs++dvs)) (upd (upd H1 dx (.own x)) x (.ins C dx [])) (fun v H2=>v=.non/\Q (.ref x) H2) E
def Binds (K:W.Frag) (fd:FuncData) (ps:List Str) (ds:List Value):Prop:=
 ∀ (s:Shared) (us:List Value),K.In s.heap->(us++ds).length=ps.length->BindsTo s fd ⟨us,[]⟩ (ps.zip (us++ds))
theorem Binds.all {K:W.Frag} {fd:FuncData} {ps:List Str} (h:∀ us:List Value,us.length=ps.length->bindArgs fd ⟨us,[]⟩=pure (ps.zip us)):Binds K fd ps []:=fun s us _ hl=>by
 rw [lX] at hl ⊢;exact .of_eq (h us hl)
def CB (CX:VI) (X:Cx) (E:XK):Prop:=∀ (pins:List (Addr×Obj)) (σ:St) (H:Hp) (s:Shared) (e:Value) (s':Shared),Inv X pins σ H s->CX X.stack H s E e s'->X.xe e s'
section
variable {X:Cx} {CX:VI} {k:Nat} {f C:Addr} {fd:FuncData} {ps:List Str} {sp:Sp} {dvs:List V} {ds:List Value} {E:XK} {x m:Str} {p pos apos:Pos} {e o:Expr} {es:List Expr} {ta:TE} {t:TA}
theorem Iv {pins:List (Addr×Obj)} {σ:St} {H:Hp} {s:Shared} {Q:VK} {us:List Value} {vs:List V} (F:FnOk X.prog X.w X.K X.mg X.base CX k f fd ps sp) (hr:Room k X.A) (hb:Binds X.K fd ps ds) (hd:AC dvs ds) (hx:CB CX X E)
    (I:Inv X pins σ H s) (r:AC vs us) (h:sp (vs++dvs) H Q E):wpAny (model X.prog X.w) X.A (call (.ref f) us) (EP X pins σ Q) X.xe s:=by
  have r2:AC (vs++dvs) (us++ds):=r.append hd;have hl:(us++ds).length=ps.length:=by rw [<- r2.length];exact F.len _ _ _ _ h
  refine wpAny_call (codeAny_mono (F.run X.A X.stack s H ⟨us,[]⟩ (us++ds) (vs++dvs) Q E hr I.env0 (hb s us I.kIn hl) r2 h) fun r s' hq=>?_);cases r with
  | error e=>exact hx pins σ H s e s' I hq
  | ok fl =>
    cases fl with
    | ret u=>exact I.after hq
    | next=>exact False.elim hq
    | brk=>exact False.elim hq
    | cont=>exact False.elim hq
theorem WQ (F:FnOk X.prog X.w X.K X.mg X.base CX k f fd ps sp) (hr:Room k X.A) (hg:Gl X x) (hm:X.mg x=some (.ref f)) (hk:W.keepIn X.K (.ref f)=true) (hb:Binds X.K fd ps ds) (hd:AC dvs ds) (hx:CB CX X E)
    (ha:PA X (e::es) t) (hdb:(x == ("__debug__" : Str))=false:=by decide) (he:starEach (e::es) X.env=(false,eval e X.env)::starEach es X.env:=by rfl) (hpl:(backTo pos (starEach es X.env)).any (·.1)=false:=by rfl) :
    PE X (.Call (.Name x p) (e::es) [] pos) (YA sp dvs E t):=by
  intro pins s σ H Q I h;refine wpAny_Call_Name_kw (EG I hg hm ?_ hdb);refine W.callWith_K (h₀:=X.base) I.ok.mod.kin hk (An (ha pos pins s σ H _ I h) fun us s1 ⟨vs,H1,I1,r,q⟩=>⟨I1.kIn,?_⟩) he hpl;exact Iv F hr hb hd hx I1 r q
theorem SB (F:FnOk X.prog X.w X.K X.mg X.base CX k f fd ps sp) (hr:Room k X.A) (hg:Gl X x) (hm:X.mg x=some (.ref f)) (hk:W.keepIn X.K (.ref f)=true) (hb:Binds X.K fd ps ds) (hd:AC dvs ds) (hx:CB CX X E)
    (hdb:(x == ("__debug__" : Str))=false:=by decide):PE X (.Call (.Name x p) [] [] pos) (YA sp dvs E OW):=by
  intro pins s σ H Q I h;refine wpAny_Call_Name_kw (EG I hg hm ?_ hdb);exact W.callWith_K0 I.kIn hk (Iv (us:=[]) F hr hb hd hx I .nil h)
theorem WL {pl:Sem Bool} (he:PE X o ta) (c:Cls X.K C) (hm:Meth X.K C m f) (F:FnOk X.prog X.w X.K X.mg X.base CX k f fd ps sp) (hr:Room k X.A) (hb:Binds X.K fd ps ds) (hd:AC dvs ds) (hx:CB CX X E) (ha:PA X (e::es) t)
    (hst:starEach (e::es) X.env=(false,eval e X.env)::starEach es X.env:=by rfl) (hpl:(backTo pos (starEach es X.env)).any (·.1)=false:=by rfl)
    (ht:eval (.Call (.Attribute o m apos) (e::es) [] pos) X.env=(do
      let ov <- eval o X.env
      standAt apos.atName
      let (f,first) <- holding [ov] (getMethod ov m pl)
      callWith pos f first (backTo pos (starEach (e::es) X.env)) (backToKw pos (keywordEach [] X.env))):=by rfl) :
    PE X (.Call (.Attribute o m apos) (e::es) [] pos) (NA C m sp dvs E ta t):=by
  intro pins s σ H Q I h;refine W.methodCall_KW (pl:=pl) (An (he pins s σ H _ I h) fun u s1 ⟨x,H1,I1,rx,a,dx,fs,ex,ea,l,q⟩=>?_) ht;subst ex;obtain rfl:u=Value.ref a:=rx;refine Gs I1 ea c hm l ?_;refine W.callWith_K (first:=[.ref a]) (h₀:=X.base) I.ok.mod.kin hm.kp (An (ha pos pins s1 σ H1 _ I1 q) fun us s2 ⟨vs,H2,I2,r,q2⟩=>⟨I2.kIn,?_⟩) hst hpl;exact Iv (us:=.ref a::us) (vs:=.ref a::vs) F hr hb hd hx I2 (.cons rfl r) q2
theorem Rw {pl:Sem Bool} (he:PE X o ta) (c:Cls X.K C) (hm:Meth X.K C m f) (F:FnOk X.prog X.w X.K X.mg X.base CX k f fd ps sp) (hr:Room k X.A) (hb:Binds X.K fd ps ds) (hd:AC dvs ds) (hx:CB CX X E)
    (ht:eval (.Call (.Attribute o m apos) [] [] pos) X.env=(do
      let ov <- eval o X.env
      standAt apos.atName
      let (f,first) <- holding [ov] (getMethod ov m pl)
      callWith pos f first (backTo pos (starEach [] X.env)) (backToKw pos (keywordEach [] X.env))):=by rfl) :
    PE X (.Call (.Attribute o m apos) [] [] pos) (NA C m sp dvs E ta OW):=by
  intro pins s σ H Q I h;refine W.methodCall_KW (pl:=pl) (An (he pins s σ H _ I h) fun u s1 ⟨x,H1,I1,rx,a,dx,fs,ex,ea,l,q⟩=>?_) ht;subst ex;obtain rfl:u=Value.ref a:=rx;refine Gs I1 ea c hm l ?_;exact W.callWith_K0 (first:=[.ref a]) I1.kIn hm.kp (Iv (us:=[.ref a]) (vs:=[.ref a]) F hr hb hd hx I1 (.cons rfl .nil) q)
structure Mk (K:W.Frag) (C f:Addr):Prop where
 makes:W.makesIn K C=true
 init:W.findIn K (.ref C) "__init__" = some (some (.ref f))
 fn:W.isFn K (.ref f)=true
 kp:W.keepIn K (.ref C)=true
theorem KD {pins:List (Addr×Obj)} {σ:St} {H:Hp} {s:Shared} {Q:VK} {us:List Value} {vs:List V} (M:Mk X.K C f) (F:FnOk X.prog X.w X.K X.mg X.base CX k f fd ps sp) (hr:Room (k+1) X.A) (hb:Binds X.K fd ps ds) (hd:AC dvs ds)
    (hx:CB CX X E) (I:Inv X pins σ H s) (r:AC vs us)
    (h:∀ x dx,H x=none->H dx=none->dx≠x->sp (.ref x::(vs++dvs)) (upd (upd H dx (.own x)) x (.ins C dx [])) (fun v H2=>v=.non/\Q (.ref x) H2) E) :
    wpAny (model X.prog X.w) X.A (call (.ref C) us) (EP X pins σ Q) X.xe s:=by
  have hq:=h (s.heap.objs.size+1) s.heap.objs.size (I.hok.fresh (Nat.le_succ _)) (I.hok.fresh (kb _)) (lL (mh _));have I2:=Inv.made (C:=C) I;have r2:AC (V.ref (s.heap.objs.size+1)::(vs++dvs)) (Value.ref (s.heap.objs.size+1)::(us++ds)):=.cons rfl (r.append hd);have hl:(Value.ref (s.heap.objs.size+1)::us++ds).length=ps.length:=by
    have e:=r2.length;rw [F.len _ _ _ _ hq] at e;exact e.symm
  refine wpAny_call (Sa (f:=f) I.kIn M.makes M.init (beq_iff_eq.mp M.fn) (codeAny_mono (F.run _ X.stack _ _ ⟨Value.ref (s.heap.objs.size+1)::us,[]⟩ (Value.ref (s.heap.objs.size+1)::(us++ds)) _ _ E (hr.make C us [])
    (I2.env0.make C us []) (hb _ (Value.ref (s.heap.objs.size+1)::us) I2.kIn hl) r2 hq) fun r s' hq'=>?_))
  cases r with
  | error e=>exact hx pins σ _ _ e s' I2 hq'
  | ok fl =>
    cases fl with
    | ret u =>
      obtain ⟨v,H',I3,rv,ev,q3⟩:=I2.after hq';subst ev;exact ⟨rv,⟨V.ref (s.heap.objs.size+1),H',I3,rfl,q3⟩⟩
    | next=>exact False.elim hq'
    | brk=>exact False.elim hq'
    | cont=>exact False.elim hq'
theorem WM (M:Mk X.K C f) (F:FnOk X.prog X.w X.K X.mg X.base CX k f fd ps sp) (hr:Room (k+1) X.A) (hg:Gl X x) (hm:X.mg x=some (.ref C)) (hb:Binds X.K fd ps ds) (hd:AC dvs ds) (hx:CB CX X E)
    (ha:PA X (e::es) t) (hdb:(x == ("__debug__" : Str))=false:=by decide) (he:starEach (e::es) X.env=(false,eval e X.env)::starEach es X.env:=by rfl) (hpl:(backTo pos (starEach es X.env)).any (·.1)=false:=by rfl) :
    PE X (.Call (.Name x p) (e::es) [] pos) (NB C sp dvs E t):=by
  intro pins s σ H Q I h;refine wpAny_Call_Name_kw (EG I hg hm ?_ hdb);refine W.callWith_K (h₀:=X.base) I.ok.mod.kin M.kp (An (ha pos pins s σ H _ I h) fun us s1 ⟨vs,H1,I1,r,q⟩=>⟨I1.kIn,?_⟩) he hpl;exact KD M F hr hb hd hx I1 r q
theorem Rx (M:Mk X.K C f) (F:FnOk X.prog X.w X.K X.mg X.base CX k f fd ps sp) (hr:Room (k+1) X.A) (hg:Gl X x) (hm:X.mg x=some (.ref C)) (hb:Binds X.K fd ps ds) (hd:AC dvs ds) (hx:CB CX X E)
    (hdb:(x == ("__debug__" : Str))=false:=by decide):PE X (.Call (.Name x p) [] [] pos) (NB C sp dvs E OW):=by
  intro pins s σ H Q I h;refine wpAny_Call_Name_kw (EG I hg hm ?_ hdb);exact W.callWith_K0 I.kIn M.kp (KD (us:=[]) M F hr hb hd hx I .nil h)
end
section
end
structure FnScope (N P:List Str) (sc:Scope):Prop where
 kind:sc.kind=.function
 co:sc.isCoroutine=false
 gen:sc.isGenerator=false
 nd:N.Nodup
 pre:N.take P.length=P
 par:∀ x∈P,sc.names.lookup x=some .local\/sc.names.lookup x=some .cell
 nofree:∀ y∈sc.names,y.2≠.free
theorem IT {kindOf:Str->Option NameKind} {x:Str}:∀ {binds:List (Str×Value)} {m:Str->Option Value},(∀ v,(x,v)∉binds)->bindL kindOf binds m x=m x
 | [],_,_=>rfl
 | (n,v)::r,m,h=>by
  unfold bindL;rw [IT fun w hw=>h w (kX _ hw)];split
  ·have:x≠n:=by rintro rfl;exact h v kZ
   simp [this]
  ·rfl
theorem IV {kindOf:Str->Option NameKind} {x:Str}:∀ {binds:List (Str×Value)} {m:Str->Option Value},(∀ v,(x,v)∉binds)->bindC kindOf binds m x=m x
 | [],_,_=>rfl
 | (n,v)::r,m,h=>by
  unfold bindC;rw [IV fun w hw=>h w (kX _ hw)];split
  ·rfl
  ·have:x≠n:=by rintro rfl;exact h v kZ
   simp [this]
theorem IU {kindOf:Str->Option NameKind} {x:Str} {v:Value}:∀ {P:List Str} {vs:List Value} {i:Nat} {m:Str->Option Value},P.Nodup->P[i]?=some x->vs[i]?=some v->kindOf x=some .local ->
    bindL kindOf (P.zip vs) m x=some v
  | [],_,_,_,_,h,_,_=>by simp at h
  | _::_,[],_,_,_,_,h,_=>by simp at h
  | p::P,w::vs,0,m,nd,h1,h2,hk=>by
    simp at h1 h2;subst h1;subst h2;show bindL kindOf ((p,w)::P.zip vs) m p=_;unfold bindL;rw [IT fun v hv=>(mj.mp nd).1 (ni hv).1,if_pos hk];simp
  | p::P,w::vs,i+1,m,nd,h1,h2,hk=>by
    show bindL kindOf ((p,w)::P.zip vs) m x=_;unfold bindL;exact IU (i:=i) (mj.mp nd).2 (by simpa using h1) (by simpa using h2) hk
theorem IW {kindOf:Str->Option NameKind} {x:Str} {v:Value}:∀ {P:List Str} {vs:List Value} {i:Nat} {m:Str->Option Value},P.Nodup->P[i]?=some x->vs[i]?=some v->kindOf x≠some .local ->
    bindC kindOf (P.zip vs) m x=some v
  | [],_,_,_,_,h,_,_=>by simp at h
  | _::_,[],_,_,_,_,h,_=>by simp at h
  | p::P,w::vs,0,m,nd,h1,h2,hk=>by
    simp at h1 h2;subst h1;subst h2;show bindC kindOf ((p,w)::P.zip vs) m p=_;unfold bindC;rw [IV fun v hv=>(mj.mp nd).1 (ni hv).1,if_neg hk];simp
  | p::P,w::vs,i+1,m,nd,h1,h2,hk=>by
    show bindC kindOf ((p,w)::P.zip vs) m x=_;unfold bindC;exact IW (i:=i) (mj.mp nd).2 (by simpa using h1) (by simpa using h2) hk
def start (N:List Str) (vs:List V):St:=vs.map some++List.replicate (N.length - vs.length) none
def LD (CX:VI) (P:Program) (w:World) (K:W.Frag) (mg:Str->Option Value) (base:Heap) (N:List Str) (qual:Str) (scope:Scope) (f:Addr) (cd:Value) (A:Around) (outer:List Env) (s:Shared) (H:Hp) (E:XK):Cx where
 prog:=P
 w:=w
 K:=K
 mg:=mg
 base:=base
 A:=A.deeper (envOfC qual scope s.heap.objs.size f cd)
 N:=N
 s₀:=s
 H₀:=H
 env:=envOfC qual scope s.heap.objs.size f cd
 outer:=outer
 stack:=envOfC qual scope s.heap.objs.size f cd::outer
 ex:=[]
 calm:=true
 fn:=fun _=>true
 pn:=[]
 xe:=fun e s'=>wpAny (model P w) (A.deeper (envOfC qual scope s.heap.objs.size f cd)) (leaving (envOfC qual scope s.heap.objs.size f cd) e) (fun _ s''=>CX outer H s E e s'') (fun e' s''=>CX outer H s E e' s'') s'
theorem LH {sc:Scope} {n:Nat} {x:Str} (h:sc.names.lookup x=some .cell):∃ c,(cellsFrom n sc.names []).lookup x=some c:=by
 have q:=W.cellsFrom_some sc.names n [] (.inl h);exact mX.mp q
theorem Pd {CX:VI} {P:Program} {w:World} {K:W.Frag} {mg:Str->Option Value} {base:Heap} {N ps:List Str} {qual:Str} {scope:Scope} {f:Addr} {cd:Value} {A:Around} {outer:List Env} {s s1:Shared} {H:Hp} {E:XK} {us:List Value} {vs:List V}
    (S:FnScope N ps scope) (hd:A.handled=none) (e0:Env0 P w K mg base A outer s H) (hl:vs.length=ps.length) (r:AC vs us)
    (x:InCallC s s.heap.objs.size (bindL (envOfC qual scope s.heap.objs.size f cd).kindOf (ps.zip us) fun _=>none) (cellsFrom (s.heap.objs.size+1) scope.names []) (bindC (envOfC qual scope s.heap.objs.size f cd).kindOf (ps.zip us) fun _=>none) s1) :
    Inv (LD CX P w K mg base N qual scope f cd A outer s H E) [] (start N vs) H s1:=by
  have hpl:ps.length<=N.length:=by have:=congrArg List.length S.pre;rw [mW] at this;omega
  obtain ⟨h1,tk,rfl,hk⟩:=x.done;have noA:∀ b:Addr,b∉(LD CX P w K mg base N qual scope f cd A outer s H E).ex:=fun b z=>absurd (show b∈([]:List Addr) from z) (by simp)
  refine ⟨⟨e0.mod,S.kind,rfl,rfl,kb _,fun y z c h1 h2=>?_,fun y hy=>?_,fun y c _ h=>?_,fun _=>hd,Around.frames_deeper e0.frames,.inr ⟨rfl,rfl⟩,fun b z=>absurd z (noA b),e0.bs,e0.bsz,fun b _ _=>noA b,fun b z=>absurd z (noA b),e0.funs,e0.frf⟩,
    rfl,e0.bare,Un.kept hk,⟨_,x.toInCall.ns,fun i y v h1 h2 h3=>?_⟩,fun y c h=>⟨_,x.cell y c h⟩,e0.hok.fresh (kb _),fun y c h=>?_,fun p hp=>absurd (show p∈([]:List (Addr×Obj)) from hp) (by simp),e0.hok.kept hk,?_⟩
  · exact name_of_addr x.apart (lT h1) (lT h2)
  · have hy:scope.names.lookup y=some .cell\/scope.names.lookup y=some .free:=hy;rcases hy with hy | hy
    · exact LH hy
    · exact absurd rfl (S.nofree _ (lT hy))
  · exact Nat.le_of_lt (x.above y c (lT h))
  · have hi:i < vs.length:=by
      unfold start at h2
      by_cases hi:i < vs.length
      · exact hi
      · rw [lF (by simpa using hi)] at h2;rw [oE] at h2;split at h2<;>cases h2
    have ha:vs[i]?=some v:=by
      unfold start at h2;rw [kc (by simpa using hi),km] at h2;cases e:vs[i]? with
      | none=>rw [e] at h2;cases h2
      | some a=>rw [e] at h2;cases h2;rfl
    obtain ⟨u,hu,rv⟩:=r.get ha;have hp:ps[i]?=some y:=by
      rw [<- S.pre,oC (by omega)];exact h1
    have ndP:ps.Nodup:=by rw [<- S.pre];exact S.nd.sublist (List.take_sublist _ _)
    refine ⟨u,rv,?_⟩;rcases S.par y (mF hp) with k | k
    · exact .inl ⟨k,IU ndP hp hu k⟩
    · obtain ⟨c,e⟩:=LH (n:=s.heap.objs.size+1) k;refine .inr ⟨.inl k,c,e,?_⟩;have q:=x.cell y c e;rw [IW ndP hp hu (by show scope.names.lookup y≠_;rw [k];decide)] at q;exact q
  · exact e0.hok.fresh (Nat.le_of_lt (x.above y c (lT h)))
  · unfold start;show _=N.length;rw [lI,lK,List.length_replicate];omega
theorem fv {CX:VI} {P:Program} {w:World} {K:W.Frag} {mg:Str->Option Value} {base:Heap} {k:Nat} {f:Addr} {name qual:Str} {params:Arguments} {body:List Stmt} {scope:Scope} {dV kV doc pm cdv ct oc:Value} {an od:Option Addr}
    {osl:Array (Option Value)} {N ps:List Str} {sp:Sp} (lk:K.lookup f=some ⟨oc,od,.func (W.fnOf name qual params body scope dV kV doc pm an cdv ct),osl⟩) (hcd:W.codeIn K cdv qual=true) (S:FnScope N ps scope)
    (len:∀ vs H Q E,sp vs H Q E->vs.length=ps.length)
    (hbody:∀ (A:Around) (outer:List Env) (s:Shared) (H:Hp) (vs:List V) (Q:VK) (E:XK),Room k (A.deeper (envOfC qual scope s.heap.objs.size f cdv))->sp vs H Q E ->
      ∃ t,Cq (LD CX P w K mg base N qual scope f cdv A outer s H E) body t/\t { nx:=fun _ H'=>Q .non H',rt:=Q } (start N vs) H) :
    FnOk P w K mg base CX (k+1) f (W.fnOf name qual params body scope dV kV doc pm an cdv ct) ps sp:=by
  refine ⟨len,fun A outer s H args us vs Q E hr e0 hb r hsp=>?_⟩;have hl:=len _ _ _ _ hsp;have KX:K.In s.heap:=e0.mod.kin.keeps fun b o e=>(e0.bs b o e).1
  have lim:s.heap.NoLimit:=e0.mod.nolimit.keeps fun b o e=>(e0.bs b o e).1
  have hkind:∀ y∈ps.zip us,scope.names.lookup y.1=some .local\/(scope.names.lookup y.1=some .cell/\((cellsFrom (s.heap.objs.size+1) scope.names []).lookup y.1).isSome=true):=fun ⟨n,v⟩ hy=>by
    rcases S.par n (ni hy).1 with q | q
    · exact .inl q
    · exact .inr ⟨q,W.cellsFrom_some _ _ _ (.inl q)⟩
  refine codeAny_call_function hr.depth (KX _ _ lk) rfl S.co S.gen rfl (W.codeRec_of KX hcd) (hb _ _ _ _ ?_);refine wpAny_newFunctionEnv_cells S.kind hkind fun env he s1 x=>?_
  subst he;refine ⟨lim.keeps x.toInCall.keep,codeAny_func ?_⟩;obtain ⟨t,ht,hq⟩:=hbody A outer s H vs Q E (hr.deeper _) hsp;have I:Inv (LD CX P w K mg base N qual scope f cdv A outer s H E) [] (start N vs) H s1:=Pd S hr.hd e0 hl r x;refine wpAny_mono (ht [] s1 (start N vs) H _ I hq) (fun fl s' hs=>?_) fun e s' hs=>hs
  have fin:∀ {σ':St} {H':Hp} {v:V} {u:Value},Inv (LD CX P w K mg base N qual scope f cdv A outer s H E) [] σ' H' s'->RelV v u->Q v H'->CE outer P w H s Q u s':=
    fun {σ' H' v u} J rv q=>⟨v,H',J.os,J.bare,J.base,J.hok,rv,q⟩
  cases fl with
  | ret u =>
    obtain ⟨v,σ',H',J,rv,q⟩:=hs;exact fin J rv q
  | next =>
    obtain ⟨σ',H',J,q⟩:=hs;exact fin (v:=V.non) (u:=Value.none) J rfl q
  | brk =>
    obtain ⟨_,_,_,q⟩:=hs;exact False.elim q
  | cont =>
    obtain ⟨_,_,_,q⟩:=hs;exact False.elim q
section
variable {X:Cx} {x:Str} {p pos:Pos} {e:Expr} {es:List Expr} {t:TA} {id T:String} {r:List V->Hp->VK->Prop}
abbrev jV (r:List V->Hp->VK->Prop) (t:TA):TE:=fun σ H Q=>t σ H fun vs H1=>r vs H1 Q
theorem SA (hc:BD X (.builtin id) r) (hg:Gl X x) (hm:X.mg x=none) (hv:bootBuiltins x=some (.builtin id)) (ha:PA X (e::es) t) (hn:x ≠ "__name__" := by decide) (hdb:(x == ("__debug__" : Str))=false:=by decide)
    (he:starEach (e::es) X.env=(false,eval e X.env)::starEach es X.env:=by rfl) (hpl:(backTo pos (starEach es X.env)).any (·.1)=false:=by rfl):PE X (.Call (.Name x p) (e::es) [] pos) (jV r t):=by
  intro pins s σ H Q I h;refine wpAny_Call_Name_kw (Ey I hg hm hv ?_ hn hdb);exact PyProof.Rows.callWith_builtin1 (An (ha pos pins s σ H _ I h) fun us s1 ⟨vs,H1,I1,r1,q1⟩=>hc pins s1 σ H1 vs us Q I1 r1 q1) he hpl
theorem Ov (hc:BD X (.type T) r) (hg:Gl X x) (hm:X.mg x=none) (hv:bootBuiltins x=some (.type T)) (ha:PA X (e::es) t) (hn:x ≠ "__name__" := by decide) (hdb:(x == ("__debug__" : Str))=false:=by decide)
    (he:starEach (e::es) X.env=(false,eval e X.env)::starEach es X.env:=by rfl) (hpl:(backTo pos (starEach es X.env)).any (·.1)=false:=by rfl):PE X (.Call (.Name x p) (e::es) [] pos) (jV r t):=by
  intro pins s σ H Q I h;refine wpAny_Call_Name_kw (Ey I hg hm hv ?_ hn hdb);exact mO (An (ha pos pins s σ H _ I h) fun us s1 ⟨vs,H1,I1,r1,q1⟩=>hc pins s1 σ H1 vs us Q I1 r1 q1) he hpl
end
end L2
namespace HT
open PySem PyProof.Rows
noncomputable def lexLt:List Int->List Int->Bool
 | [],[]=>false
 | [],_::_=>true
 | _::_,[]=>false
 | x::xs,y::ys=>if x=y then lexLt xs ys else decide (x < y)
theorem ML (x y:Int) (xs ys:List Int):lexLt (x::xs) (y::ys)=if x=y then lexLt xs ys else decide (x < y):=rfl
theorem HS:lexLt [] []=false:=rfl
theorem Gg (y:Int) (ys:List Int):lexLt [] (y::ys)=true:=rfl
theorem Gh (x:Int) (xs:List Int):lexLt (x::xs) []=false:=rfl
theorem Tn (A:Around) (s:Shared) (a:Int) (t:Tok) (c:Int) (u:Tok):∃ e,SeqAt.EqAt A s (.int a t) (.int c u) e/\(e=true↔a=c):=
 ⟨(a == c),SeqAt.EqAt.int_int a t c u,by simp⟩
theorem RX (A:Around) (s:Shared) (a:Int) (t:Tok) (c:Int) (u:Tok) (prog:Program) (w:World) (E:Value->Shared->Prop) (Q:Value->Shared->Prop) (h:Q (.bool (decide (a < c))) s) :
    wpAny (model prog w) A (richCompare .Lt (.int a t) (.int c u)) Q E s:=
  (PyProof.Rows.lt_int h:wpAny (model prog w) A (compareOp .Lt (.int a t) (.int c u)) Q E s)
section
open PySem.SeqAt
open PySem.AutoSeq1 (wpAny_loadPart')
open PySem.MeetsSeq PySem.MeetsSeq2 PySem.MeetsSeq3
theorem HP (l b:Addr) (items items2:Array Value) (n n2:Nat) (dd dd2:Option Addr) (sl sl2:Array (Option Value)) (ns ms:List Int) (hi:IntsAre items.toList ns) (hj:IntsAre items2.toList ms) :
    Meets (Builtin.«tuple.__lt__» ⟨[.ref l,.ref b],[]⟩)
      (fun _ R s=>s.heap.get? l=some { cls:=.type "tuple", dict:=dd,data:=.seq items n,slots:=sl }/\s.heap.get? b=some { cls:=.type "tuple", dict:=dd2,data:=.seq items2 n2,slots:=sl2 } /\
        R (.ok (.ret (.bool (lexLt ns ms)))) s):=
  .of_wp fun prog w A R s h=>by
    obtain ⟨hp,g,d,tk,os⟩:=s;obtain ⟨hl,hb,h⟩:=h;have f2:=AutoSeq1.sub_tuple_tuple;have z1:items.size=ns.length:=by rw [<- hi.length];simp
    have z2:items2.size=ms.length:=by rw [<- hj.length];simp
    wp_walk using wpAny_loadPart' hl,wpAny_loadPart' hb,wpAny_forIn_list _ (fun rest b s'=>b.1=none/\s'=⟨hp,g,d,tk,os⟩/\∃ (vs ws:List Value) (ns' ms':List Int),rest=vs.zip ws /\
      IntsAre vs ns'/\IntsAre ws ms'/\ns'.length+items2.size=ms'.length+items.size/\R (.ok (.ret (.bool (lexLt ns' ms')))) ⟨hp,g,d,tk,os⟩) _
    case turn =>
      rintro ⟨y,x⟩ rest b s' ⟨hb',rfl,vs,ws,ns',ms',hz,hvi,hwi,hlen,hR⟩;cases hvi with
      | nil=>rw [List.zip_nil_left] at hz;cases hz
      | cons a t hvi' =>
        cases hwi with
        | nil=>rw [List.zip_nil_right] at hz;cases hz
        | cons c u hwi' =>
          rw [lU] at hz;injection hz with hyx hrest
          injection hyx with hy hx
          subst hy hx;rw [ML] at hR;simp only [ki] at hlen;obtain ⟨e,he,hiff⟩:=Tn A.in1 ⟨hp,g,d,tk,os⟩ a t c u;refine wpAny_bind (he prog w _ _ ?_);cases e with
          | true =>
            rw [if_pos (hiff.mp rfl)] at hR
            wp_walk
            exact ⟨rfl,rfl,_,_,_,_,hrest,hvi',hwi',by omega,hR⟩
          | false =>
            rw [if_neg (fun q=>absurd (hiff.mpr q) ku)] at hR;have hri:=RX A.in1 ⟨hp,g,d,tk,os⟩ a t c u prog w
            wp_walk using hri
            exact ⟨_,rfl,by simpa using hR⟩
    case fin =>
      rintro ⟨b1,b2⟩ s' ⟨hb',rfl,vs,ws,ns',ms',hz,hvi,hwi,hlen,hR⟩;simp only at hb';subst hb';have hv:lexLt ns' ms'=decide (items.size < items2.size):=by
        cases hvi with
        | nil =>
          cases hwi with
          | nil =>
            simp only [mH] at hlen;rw [HS];exact (decide_eq_false (by omega)).symm
          | cons c u hw =>
            simp only [mH,ki] at hlen;rw [Gg];exact (decide_eq_true (by omega)).symm
        | cons a t hv =>
          cases hwi with
          | nil =>
            simp only [mH,ki] at hlen;rw [Gh];exact (decide_eq_false (by omega)).symm
          | cons c u hw =>
            rw [lU] at hz;cases hz
      rw [hv] at hR
      wp_walk
      exact ⟨_,rfl,by simpa [Builtin.Tuple.tupleCompareSizes] using hR⟩
    case h =>
      exact ⟨rfl,rfl,items.toList,items2.toList,ns,ms,rfl,hi,hj,by omega,h⟩
end
section
variable {prog:Program} {w:World} {A:Around} {E:Value->Shared->Prop} {s:Shared}
theorem lt_tupInts {l b:Addr} {items items2:Array Value} {ns ms:List Int} {Q:Value->Shared->Prop} (hl:IsTup s.heap l items) (hb:IsTup s.heap b items2) (hi:IntsAre items.toList ns) (hj:IntsAre items2.toList ms)
    (hu:A.units < cLine) (h:Q (.bool (lexLt ns ms)) s):wpAny (model prog w) A (compareOp .Lt (.ref l) (.ref b)) Q E s:=by
  obtain ⟨⟨cls,dd,data,sl⟩,ho,hc,n,hd⟩:=id hl;obtain ⟨⟨cls2,dd2,data2,sl2⟩,ho2,hc2,n2,hd2⟩:=id hb;simp only at hc hd hc2 hd2;subst hc hd hc2 hd2;exact richCompare_meets_room (op:=.Lt) ⟨_,ho,rfl⟩ ⟨_,ho2,rfl⟩ PySem.F.slot_tuple_lt PySem.F.entry_tuple_lt (PySem.F.args_tuple_lt_2 _ _) (HP l b items items2 n n2 dd dd2 sl sl2 ns ms hi hj)
    ⟨ho,ho2,show Value.bool (lexLt ns ms)≠Value.notImplemented/\Q (.bool (lexLt ns ms)) s from ⟨(fun x=>nomatch x),h⟩⟩ hu
theorem cat_tup {t b:Addr} {vs ws:List Value} {Q:Value->Shared->Prop} (ht:IsTup s.heap t vs.toArray) (hb:IsTup s.heap b ws.toArray) (hv:vs≠[])
    (h1:ws=[]->Q (.ref t) s) (h2:ws≠[]->Q (.ref s.heap.objs.size) { s with heap:=s.heap.push { cls:=.type "tuple", data:=.seq (vs++ws).toArray } })
    (hsz:vs.length+ws.length<=sizeLine):wpAny (model prog w) A (binaryOp .Add (.ref t) (.ref b)) Q E s:=by
  obtain ⟨⟨cls,dd,data,sl⟩,ho,hc,n,hd⟩:=id ht;obtain ⟨⟨cls2,dd2,data2,sl2⟩,ho2,hc2,n2,hd2⟩:=id hb;simp only at hc hd hc2 hd2;subst hc hd hc2 hd2;have e:vs.toArray++ws.toArray=(vs++ws).toArray:=by simp
  by_cases hw:ws=[]
  · exact concat_meets ⟨_,ho,rfl⟩ ⟨_,ho2,rfl⟩ noFill_tuple_add seq_tuple_add PySem.F.slot_tuple_add PySem.F.entry_tuple_add (PySem.F.args_tuple_add_2 _ _)
      (tuple_addW1 t b vs.toArray ws.toArray n n2 dd dd2 sl sl2 (by simpa using hv) (by simp [hw])) ⟨ho,ho2,h1 hw⟩
  · refine concat_meets ⟨_,ho,rfl⟩ ⟨_,ho2,rfl⟩ noFill_tuple_add seq_tuple_add PySem.F.slot_tuple_add PySem.F.entry_tuple_add (PySem.F.args_tuple_add_2 _ _)
      (tuple_addW2 t b vs.toArray ws.toArray n n2 dd dd2 sl sl2 (by simpa using hv) (by simpa using hw) (by rw [kY,kY];exact hsz)) ⟨ho,ho2,?_⟩
    rw [e];exact h2 hw
noncomputable def sIx (n d:Nat):Option Int->Nat
 | none=>d
 | some v=>if v < 0 then (v+(n:Int)).toNat else min v.toNat n
theorem sIx_le (n d:Nat) (hd:d<=n) (o:Option Int):sIx n d o<=n:=by
 cases o with
 | none=>exact hd
 | some v =>
  show (if v < 0 then (v+(n:Int)).toNat else min v.toNat n)<=n
  by_cases hv:v < 0
  ·rw [if_pos hv];omega
  ·rw [if_neg hv];exact Nat.min_le_right _ _
theorem OC (v:Int) (n d:Nat):(if v < 0 then max (v+(n:Int)) 0 else min v (n:Int))=((sIx n d (some v):Nat):Int):=by
 show (if v < 0 then max (v+(n:Int)) 0 else min v (n:Int))=(((if v < 0 then (v+(n:Int)).toNat else min v.toNat n):Nat):Int)
 by_cases hv:v < 0
 ·simp only [if_pos hv];omega
 ·simp only [if_neg hv];omega
theorem Ml (lo hi:Option Int) (n:Nat):Builtin.Slice.sliceAdjust lo hi 1 (n:Int)=(((sIx n 0 lo:Nat):Int),((sIx n n hi:Nat):Int)):=by
 have h1:¬ ((1:Int) < 0):=by omega
 unfold Builtin.Slice.sliceAdjust;simp only [h1,if_false];refine Prod.ext ?_ ?_
 ·cases lo with
  | none=>rfl
  | some v=>exact OC v n 0
 ·cases hi with
  | none=>rfl
  | some v=>exact OC v n n
theorem Lx (i j:Nat):Builtin.Slice.slicePlaces (i:Int) (j:Int) 1=j - i:=by
 unfold Builtin.Slice.slicePlaces;have h1:(1:Int) > 0:=by omega
 simp only [h1,if_true,Int.ediv_one];split<;>omega
theorem Df {v:Value} {o:Option Int} {Q:Option Int->Shared->Prop} (p:IsPart v o) (h:Q o s):wpAny (model prog w) A (Builtin.Slice.slicePartIndex v) Q E s:=by
 cases p with
 | none=>exact slicePart_none h
 | int i t=>exact slicePart_int h
theorem sliceApplied_gen {sl:Addr} {vl vu:Value} {lo hi:Option Int} {n:Nat} {Q:Int×Int×Nat->Shared->Prop} (hs:s.heap.IsSliceOf sl vl vu .none) (pl:IsPart vl lo) (pu:IsPart vu hi)
    (h:Q (((sIx n 0 lo:Nat):Int),1,sIx n n hi - sIx n 0 lo) s):wpAny (model prog w) A (Builtin.Slice.sliceApplied (.ref sl) (pure (n:Int))) Q E s:=by
  obtain ⟨os,hos,hcs,hds⟩:=id hs;unfold Builtin.Slice.sliceApplied Builtin.Slice.sliceFields;refine wpAny_bind (wpAny_bind (wpAny_field hos hds (x:=vl) rfl (wpAny_bind (wpAny_field hos hds (x:=vu) rfl (wpAny_bind (wpAny_field hos hds (x:=.none) rfl (wpAny_pure ?_)))))));refine wpAny_bind (slicePart_none ?_);show wpAny _ _ (if ((1:Int) == 0)=true then _ else _) _ _ s;rw [if_neg (by decide)];refine wpAny_bind (Df pl (wpAny_bind (Df pu (wpAny_bind (wpAny_pure ?_)))));show wpAny _ _ (match Builtin.Slice.sliceAdjust lo hi 1 (n:Int) with | (lo,hi)=>pure (lo,(1:Int),Builtin.Slice.slicePlaces lo hi 1)) _ _ s;rw [Ml lo hi n];show wpAny _ _ (pure (((sIx n 0 lo:Nat):Int),(1:Int),Builtin.Slice.slicePlaces ((sIx n 0 lo:Nat):Int) ((sIx n n hi:Nat):Int) 1)) _ _ s;rw [Lx];exact wpAny_pure h
theorem Rp (xs:Array Value) (i k:Nat):((List.range k).filterMap fun (m:Nat)=>xs[((i:Int)+(m:Int) * 1).toNat]?).toArray=((xs.toList.drop i).take k).toArray:=by
 have e:(fun (m:Nat)=>xs[((i:Int)+(m:Int) * 1).toNat]?)=fun m=>xs[i+m]?:=by
  funext m;have:((i:Int)+(m:Int) * 1).toNat=i+m:=by omega
  rw [this]
 rw [e];have:=pick_run xs i k;rw [nS] at this;have e2:((fun x=>xs[x]?)∘fun x=>i+x)=fun m=>xs[i+m]?:=rfl
 rw [e2] at this;rw [this]
theorem getItem_tuple_cut {t sl:Addr} {items:Array Value} {vl vu:Value} {lo hi:Option Int} {Q:Value->Shared->Prop} (ht:IsTup s.heap t items) (hs:s.heap.IsSliceOf sl vl vu .none) (pl:IsPart vl lo) (pu:IsPart vu hi)
    (hw:¬ (sIx items.size 0 lo=0/\sIx items.size items.size hi=items.size))
    (h:Q (.ref s.heap.objs.size) { s with heap:=s.heap.push { cls:=.type "tuple", data:=.seq ((items.toList.drop (sIx items.size 0 lo)).take (sIx items.size items.size hi - sIx items.size 0 lo)).toArray } })
    (hsz:items.size<=sizeLine):wpAny (model prog w) A (getItem (.ref t) (.ref sl)) Q E s:=by
  have htake:sizeOk (.seq ((items.toList.drop (sIx items.size 0 lo)).take (sIx items.size items.size hi - sIx items.size 0 lo)).toArray):=by
    show ((items.toList.drop (sIx items.size 0 lo)).take (sIx items.size items.size hi - sIx items.size 0 lo)).toArray.size<=sizeLine;rw [kY,mW,my,Array.length_toList];omega
  have hj:sIx items.size items.size hi<=items.size:=sIx_le _ _ (kb _) hi;obtain ⟨os,hos,hcs,hds⟩:=id hs
  have hTs:s.TypeIs (.ref sl) "slice" := ⟨os,hos,hcs⟩
  unfold getItem
  try with_reducible refine wpAny_holding ?_
  first | refine wpAny_bind (wpAny_pure ?_) | skip
  refine wpAny_bind (wpAny_sequenceKey ht.typeIs (by decide) ?_)
  refine wpAny_bind (wpAny_callSpecial?_slot (name:=Str.ofString "__getitem__") ht.typeIs lP
    (wpAny_call_entry lP ht.typeIs entry_tuple_getitem ?_ (args_tuple_getitem _ _)))
  show wpAny _ _ (Builtin.Tuple.tupleItemsOf (.ref t) >>= _) _ _ s;refine wpAny_bind (tupleItemsOf_ ht ?_);refine wpAny_bind (wpAny_typeOf hTs ?_);rw [if_pos (by decide)];refine wpAny_bind (sliceApplied_gen hs pl pu ?_);have hno:¬ ((((sIx items.size 0 lo:Nat):Int) == 0 && (1:Int) == 1 && (sIx items.size items.size hi - sIx items.size 0 lo) == items.size)=true):=by
    intro q;rw [dL,dL] at q;have q1:((sIx items.size 0 lo:Nat):Int)=0:=eq_of_beq q.1.1;have q2:sIx items.size items.size hi - sIx items.size 0 lo=items.size:=eq_of_beq q.2;exact hw ⟨by omega,by omega⟩
  show wpAny _ _ (if (((sIx items.size 0 lo:Nat):Int) == 0 && (1:Int) == 1 && (sIx items.size items.size hi - sIx items.size 0 lo) == items.size)=true then _ else _) _ _ s;rw [if_neg hno,Rp]
  first
    | exact wpAny_bind (m:=Builtin.Tuple.tupleExact _) (wpAny_newObj_type (wpAny_pure ⟨_,rfl,wpAny_pure h⟩) htake)
    | exact wpAny_bind (m:=Builtin.Tuple.tupleExact _) (wpAny_newObj_type (wpAny_bind (wpAny_pure (wpAny_pure ⟨_,rfl,wpAny_pure h⟩))) htake)
    | exact wpAny_bind (wpAny_bind (m:=Builtin.Tuple.tupleExact _) (wpAny_newObj_type (wpAny_pure (wpAny_pure ⟨_,rfl,wpAny_pure h⟩)) htake))
    | exact wpAny_bind (wpAny_bind (m:=Builtin.Tuple.tupleExact _) (wpAny_newObj_type (wpAny_pure ⟨_,rfl,wpAny_pure h⟩) htake))
end
end HT
namespace L2
open PySem PySem.Spec PyProof.Rows
abbrev TO:=St->Hp->(Option Int->Hp->Prop)->Prop
def PO (X:Cx) (e:Option Expr) (t:TO):Prop:=
 ∀ (pins:List (Addr×Obj)) (s:Shared) (σ:St) (H:Hp) (Q:Option Int->Hp->Prop),Inv X pins σ H s->t σ H Q ->
  wpAny (model X.prog X.w) X.A (evalPart e X.env) (fun u s'=>∃ o H',Inv X pins σ H' s'/\IsPart u o/\Q o H') X.xe s
abbrev VV:TO:=fun _ H Q=>Q none H
abbrev dJ (t:TE):TO:=fun σ H Q=>t σ H fun x H1=>∃ i,x=.int i/\Q (some i) H1
theorem Gk {ns:List Int}:∀ {us:List Value},AC (ns.map V.int) us->IntsAre us ns:=by
 induction ns with
 | nil=>intro us r;rw [mq] at r;cases r;exact .nil
 | cons n ns ih =>
  intro us r;rw [kj] at r;cases r with
  | cons r1 r2 =>
   obtain ⟨t,e⟩:=r1;subst e;exact .cons n t (ih r2)
section
variable {X:Cx} {e:Expr} {te:TE} {lo hi:Option Expr} {tl th:TO} {pos p2:Pos}
theorem WE:PO X none VV:=by
 intro pins s σ H Q I h;rw [evalPart_none];exact wpAny_pure ⟨none,H,I,.none,h⟩
theorem WD (h:PE X e te):PO X (some e) (dJ te):=by
 intro pins s σ H Q I hw;rw [evalPart_some];refine An (h pins s σ H _ I hw) fun u s1 ⟨x,H1,I1,r1,q1⟩=>?_
 obtain ⟨i,rfl,q⟩:=q1;obtain ⟨t,rfl⟩:=r1;exact ⟨some i,H1,I1,.int i t,q⟩
def Qa (X:Cx) (r:V->Option Int->Option Int->Hp->VK->Prop):Prop:=
 ∀ (pins:List (Addr×Obj)) (s:Shared) (σ:St) (H:Hp) (x:V) (v vl vu:Value) (lo hi:Option Int) (sl:Addr) (Q:VK),Inv X pins σ H s->RelV x v->s.heap.IsSliceOf sl vl vu .none->IsPart vl lo->IsPart vu hi->r x lo hi H Q ->
  ∃ T id,typeLookup (.type T) "__getitem__" = pure (some (.builtin id))/\s.TypeIs v T/\wpAny (model X.prog X.w) X.A (getItem v (.ref sl)) (EP X pins σ Q) X.xe s
theorem Qa.or {r r':V->Option Int->Option Int->Hp->VK->Prop} (h:Qa X r) (h':Qa X r'):Qa X (fun x lo hi H Q=>r x lo hi H Q\/r' x lo hi H Q):=by
 intro pins s σ H x v vl vu lo hi sl Q I rx hs pl pu q;rcases q with q | q
 ·exact h pins s σ H x v vl vu lo hi sl Q I rx hs pl pu q
 ·exact h' pins s σ H x v vl vu lo hi sl Q I rx hs pl pu q
abbrev jT (r:V->Option Int->Option Int->Hp->VK->Prop) (te:TE) (tl th:TO):TE:=fun σ H Q=>te σ H fun x H1=>tl σ H1 fun l H2=>th σ H2 fun u H3=>r x l u H3 Q
theorem Rv {r:V->Option Int->Option Int->Hp->VK->Prop} (hr:Qa X r) (he:PE X e te) (hl:PO X lo tl) (hu:PO X hi th):PE X (.Subscript e (.Slice lo hi none p2) pos) (jT r te tl th):=by
 intro pins s σ H Q I h;refine Subscript_ (An (he pins s σ H _ I h) fun v s1 ⟨x,H1,I1,r1,q1⟩=>?_);refine wpAny_Slice (An (hl pins s1 σ H1 _ I1 q1) fun vl s2 ⟨l,H2,I2,pl,q2⟩=>An (hu pins s2 σ H2 _ I2 q2) fun vu s3 ⟨u,H3,I3,pu,q3⟩=>?_);rw [evalPart_none];refine wpAny_pure ?_
 have I4:Inv X pins σ H3 { s3 with heap:=s3.heap.push { cls:=.type "slice", data:=.fields #[vl,vu,.none] } }:=I3.kept (t':=s3.toks) fun b ob q=>kW _ q
 obtain ⟨T,id,hT,ht,hg⟩:=hr pins { s3 with heap:=s3.heap.push { cls:=.type "slice", data:=.fields #[vl,vu,.none] } } σ H3 x v vl vu l u s3.heap.objs.size Q I4 r1 (Heap.IsSliceOf.new ..) pl pu q3
 show wpAny (model X.prog X.w) X.A (subscriptTail e (.Slice lo hi none p2) v (.ref s3.heap.objs.size)) (EP X pins σ Q) X.xe { s3 with heap:=s3.heap.push { cls:=.type "slice", data:=.fields #[vl,vu,.none] } }
 exact tail_any (ops:=[.ref s3.heap.objs.size,v]) ht hT hg (by with_unfolding_all rfl)
def ES (xs:List V) (lo hi:Option Int):List V:=(xs.drop (HT.sIx xs.length 0 lo)).take (HT.sIx xs.length xs.length hi - HT.sIx xs.length 0 lo)
theorem FL (xs:List V) (lo hi:Option Int):(ES xs lo hi).length<=xs.length:=by
 unfold ES;rw [mW,my];omega
def eA (K:W.Frag):V->Option Int->Option Int->Hp->VK->Prop:=fun x lo hi H Q=>∃ a xs,x=.ref a/\DW K H a xs /\
 ¬ (HT.sIx xs.length 0 lo=0/\HT.sIx xs.length xs.length hi=xs.length)/\∀ p,H p=none->Q (.ref p) (upd H p (.tup (ES xs lo hi)))
theorem Zc:Qa X (eA X.K):=by
 intro pins s σ H x v vl vu lo hi sl Q I rx hs pl pu h;obtain ⟨a,xs,rfl,hx,hw,q⟩:=h;cases rx;obtain ⟨its,r,ht,hz⟩:=I.tuple hx;have hlen:its.toArray.size=xs.length:=by rw [kY];exact r.length.symm
 refine ⟨"tuple", _,lP.lookup,ht.typeIs,?_⟩
 refine HT.getItem_tuple_cut ht hs pl pu (by rw [hlen];exact hw) ?_ (by rw [hlen];exact hz);rw [hlen];refine ⟨.ref s.heap.objs.size,_,I.laid (t':=s.toks) (o:=.tup (ES xs lo hi)) (fun b ob q=>kW _ q) (kb _) ?_,rfl,q _ (I.hok.fresh (kb _))⟩;exact ⟨kr (FL xs lo hi) hz,_,(r.drop (HT.sIx xs.length 0 lo)).take (HT.sIx xs.length xs.length hi - HT.sIx xs.length 0 lo),HJ.new _ _⟩
def eK (K:W.Frag):R2:=fun x y H Q=>∃ a b ns ms,x=.ref a/\y=.ref b/\DW K H a (ns.map V.int)/\DW K H b (ms.map V.int)/\Q (.bl (HT.lexLt ns ms)) H
theorem ah (hu:X.A.units < cLine):Bq X (compareOp .Lt) (eK X.K):=by
 intro pins s σ H x y v u Q I rx ry h;obtain ⟨a,b,ns,ms,rfl,rfl,ha,hb,q⟩:=h;cases rx;cases ry;obtain ⟨its,r1,p1,_⟩:=I.tuple ha;obtain ⟨its2,r2,p2,_⟩:=I.tuple hb;have i1:IntsAre its.toArray.toList ns:=Gk r1;have i2:IntsAre its2.toArray.toList ms:=Gk r2;exact HT.lt_tupInts p1 p2 i1 i2 hu ⟨.bl (HT.lexLt ns ms),H,I,rfl,q⟩
def YN (K:W.Frag):R2:=fun x y H Q=>∃ a b xs ys,x=.ref a/\y=.ref b/\DW K H a xs/\DW K H b ys/\xs≠[]/\xs.length+ys.length<=sizeLine /\
 (ys=[]->Q (.ref a) H)/\(ys≠[]->∀ p,H p=none->Q (.ref p) (upd H p (.tup (xs++ys))))
theorem AC.nil_iff {xs:List V} {us:List Value} (r:AC xs us):us=[]↔xs=[]:=by
 cases r with
 | nil=>simp
 | cons _ _=>simp
theorem WZ:Bq X (binaryOp .Add) (YN X.K):=by
 intro pins s σ H x y v u Q I rx ry h;obtain ⟨a,b,xs,ys,rfl,rfl,ha,hb,hx,hz,q1,q2⟩:=h;cases rx;cases ry;obtain ⟨its,r1,p1,_⟩:=I.tuple ha;obtain ⟨its2,r2,p2,_⟩:=I.tuple hb;refine HT.cat_tup p1 p2 (fun z=>hx (r1.nil_iff.mp z)) (fun z=>⟨.ref a,H,I,rfl,q1 (r2.nil_iff.mp z)⟩) (fun z=>?_) (by rw [<- r1.length,<- r2.length];exact hz);refine ⟨.ref s.heap.objs.size,_,I.laid (t':=s.toks) (o:=.tup (xs++ys)) (fun b ob q=>kW _ q) (kb _) ?_,rfl,q2 (fun w=>z (r2.nil_iff.mpr w)) _ (I.hok.fresh (kb _))⟩;exact ⟨by rw [lI];exact hz,_,r1.append r2,HJ.new _ _⟩
end
noncomputable def Nc (n:Nat) (i:Int):Option Nat:=if 0<=i then (if i < n then some i.toNat else none) else if -(n:Int)<=i then some (i+n).toNat else none
def Dm {α:Type} (xs:List α) (i:Int):Option α:=(Nc xs.length i).bind fun j=>xs[j]?
theorem Nb {n:Nat} {i:Int} {j:Nat} (h:Nc n i=some j):seqIndex? i n=some j/\j < n/\-(n:Int)<=i/\i < n:=by
 unfold Nc at h
 by_cases h0:0<=i
 ·rw [if_pos h0] at h
  by_cases h1:i < n
  ·rw [if_pos h1] at h;have e:i.toNat=j:=Option.some.inj h;exact ⟨by rw [seqIndex_of h0 h1,e],by omega,by omega,h1⟩
  ·rw [if_neg h1] at h;cases h
 ·rw [if_neg h0] at h
  by_cases h1:-(n:Int)<=i
  ·rw [if_pos h1] at h;have e:(i+n).toNat=j:=Option.some.inj h;exact ⟨by rw [seqIndex_neg (by omega) h1,e],by omega,h1,by omega⟩
  ·rw [if_neg h1] at h;cases h
theorem JY {α:Type} {xs:List α} {i:Int} {v:α} (h:Dm xs i=some v):∃ j,seqIndex? i xs.length=some j/\xs[j]?=some v/\j < xs.length/\-(xs.length:Int)<=i/\i < xs.length:=by
 unfold Dm at h;cases e:Nc xs.length i with
 | none=>rw [e] at h;cases h
 | some j =>
  rw [e] at h;obtain ⟨h1,h2,h3,h4⟩:=Nb e;exact ⟨j,h1,h,h2,h3,h4⟩
theorem atI_nat {α:Type} {xs:List α} {j:Nat} {v:α} (h:xs[j]?=some v):Dm xs (j:Int)=some v:=by
 have hj:j < xs.length:=(kU.mp h).1;have e:Nc xs.length (j:Int)=some j:=by
  unfold Nc;rw [if_pos (by omega),if_pos (by omega)];simp
 unfold Dm;rw [e];exact h
def OM (b:Expr):Prop:=∀ o i,subscripted b false o i=operate [o,i] (getItem o i)
def ON (X:Cx) (r:R2):Prop:=
 ∀ (value slice:Expr) (pins:List (Addr×Obj)) (s:Shared) (σ:St) (H:Hp) (x y:V) (v u:Value) (Q:VK),Inv X pins σ H s->RelV x v->RelV y u->r x y H Q ->
  subscripted slice false v u=operate [v,u] (getItem v u)->wpAny (model X.prog X.w) X.A (subscriptTail value slice v u) (EP X pins σ Q) X.xe s
def Qb (X:Cx) (id:String) (r:V->List V->Hp->VK->Prop):Prop:=
 ∀ (pins:List (Addr×Obj)) (s:Shared) (σ:St) (H:Hp) (x:V) (xs:List V) (v:Value) (us:List Value) (Q:VK),Inv X pins σ H s->RelV x v->AC xs us->r x xs H Q ->
  wpAny (model X.prog X.w) X.A (call (.builtin id) (v::us)) (EP X pins σ Q) X.xe s
section
variable {X:Cx} {a b:Expr} {ta tb:TE} {pos:Pos}
theorem ON.or {r r':R2} (h:ON X r) (h':ON X r'):ON X (fun x y H Q=>r x y H Q\/r' x y H Q):=by
 intro value slice pins s σ H x y v u Q I rx ry q hs;rcases q with q | q
 ·exact h value slice pins s σ H x y v u Q I rx ry q hs
 ·exact h' value slice pins s σ H x y v u Q I rx ry q hs
theorem Qb.or {id:String} {r r':V->List V->Hp->VK->Prop} (h:Qb X id r) (h':Qb X id r'):Qb X id (fun x xs H Q=>r x xs H Q\/r' x xs H Q):=by
 intro pins s σ H x xs v us Q I rx rs q;rcases q with q | q
 ·exact h pins s σ H x xs v us Q I rx rs q
 ·exact h' pins s σ H x xs v us Q I rx rs q
theorem eg {r:R2} (hr:ON X r) (ha:PE X a ta) (hb:PE X b tb) (hs:OM b):PE X (.Subscript a b pos) (iC r ta tb):=by
 intro pins s σ H Q I h;exact Subscript_ (cV ha hb I h fun v u s2 x y H2 I2 rx ry q=>hr a b pins s2 σ H2 x y v u Q I2 rx ry q (hs _ _))
def eN (K:W.Frag):R2:=fun x y H Q=>∃ p xs i v,x=.ref p/\y=.int i/\Cm K H p xs/\Dm xs i=some v/\Q v H
def eL (K:W.Frag):R2:=fun x y H Q=>∃ p xs i v,x=.ref p/\y=.int i/\DW K H p xs/\Dm xs i=some v/\Q v H
def eM:R2:=fun x y H Q=>∃ z i c,x=.str z/\y=.int i/\z.length<=sizeLine/\Dm z.cps.toList i=some c/\Q (.str ⟨#[c]⟩) H
theorem Wn:ON X (eN X.K):=by
  intro value slice pins s σ H x y v u Q I rx ry h hs;obtain ⟨p,xs,i,z,rfl,rfl,hq,he,q⟩:=h;cases rx;obtain ⟨t,rfl⟩:=ry;obtain ⟨its,r,pl,hz⟩:=I.list hq;obtain ⟨j,h1,h2,h3,h4,h5⟩:=JY he;obtain ⟨w,ew,rw'⟩:=r.get h2;have hl:=r.length;have hn:=Ex;have fin:EP X pins σ Q w s:=⟨z,H,I,rw',q⟩
  by_cases h0:0<=i
  · have hj:i.toNat=j:=by
      rw [seqIndex_of h0 h5] at h1;exact Option.some.inj h1
    exact item_listR pl.isList h0 (by omega) (by rw [hj];simpa using ew) fin hs
  · have hj:(i+(its.toArray.size:Int)).toNat=j:=by
      rw [seqIndex_neg (by omega) h4] at h1;rw [kY,<- hl];exact Option.some.inj h1
    exact subscriptTail_builtinR (x:=w) pl.isList.typeIs slot_list_getitem.lookup
      (wpAny_getItem_list_neg (Q:=fun r s'=>r=w/\EP X pins σ Q r s') pl.isList (by omega) (by rw [kY]<;>omega) (by omega) (by rw [hj];simpa using ew) ⟨rfl,fin⟩) hs
theorem bS:ON X (eL X.K):=by
 intro value slice pins s σ H x y v u Q I rx ry h hs;obtain ⟨p,xs,i,z,rfl,rfl,hq,he,q⟩:=h;cases rx;obtain ⟨t,rfl⟩:=ry;obtain ⟨its,r,pl,hz⟩:=I.tuple hq;obtain ⟨j,h1,h2,h3,h4,h5⟩:=JY he;obtain ⟨w,ew,rw'⟩:=r.get h2;have hl:=r.length;have hn:=Ex;have fin:EP X pins σ Q w s:=⟨z,H,I,rw',q⟩;exact subscriptTail_builtinR (x:=w) pl.typeIs slot_tuple_getitem.lookup
  (getItem_tuple (j:=j) (Q:=fun r s'=>r=w/\EP X pins σ Q r s') pl (by omega) (by omega) (by rw [kY,<- hl];exact h1) (by simpa using ew) ⟨rfl,fin⟩) hs
theorem bT:ON X eM:=by
 intro value slice pins s σ H x y v u Q I rx ry h hs;obtain ⟨z,i,c,rfl,rfl,hz,he,q⟩:=h;obtain ⟨t,rfl⟩:=rx;obtain ⟨t',rfl⟩:=ry;obtain ⟨j,h1,h2,h3,h4,h5⟩:=JY he;have hl:z.cps.toList.length=z.length:=by simp [Str.length]
 rw [hl] at h1 h4 h5;have hn:=Ex;exact tail_any (typeIs_str s z t) slot_str_getitem.lookup (getItem_str (c:=c) (by
  have e1:decide (i < -(2 ^ 63:Int))=false:=decide_eq_false (by omega);have e2:decide (i >= 2 ^ 63)=false:=decide_eq_false (by omega);rw [e1,e2,Bool.or_false]) (by rw [h1];simpa using h2) ⟨.str ⟨#[c]⟩,H,I.tok _,⟨_,rfl⟩,q⟩) hs
def Zu (K:W.Frag):R2:=fun x y H Q=>eN K x y H Q\/eL K x y H Q\/eM x y H Q
theorem bU:ON X (Zu X.K):=Wn.or (bS.or bT)
theorem MI (its:List Value) (n j:Nat) (u:Value):Obj.mapSeq (·.setIfInBounds j u) { cls:=.type "list", data:=.seq its.toArray n }={ cls:=.type "list", data:=.seq (its.set j u).toArray n }:=by
 simp [Obj.mapSeq]
theorem Inv.lst {pins:List (Addr×Obj)} {σ:St} {H:Hp} {s:Shared} {p:Addr} {xs:List V} (I:Inv X pins σ H s) (h:H p=some (.lst xs)) :
    ∃ (its:List Value) (n:Nat),AC xs its/\s.heap.get? p=some { cls:=.type "list", data:=.seq its.toArray n }/\xs.length<=sizeLine:=by
  obtain ⟨z,its,n,r,e⟩:=I.hok p _ h;exact ⟨its,n,r,e,z⟩
theorem Inv.lstUpd {pins:List (Addr×Obj)} {σ:St} {H:Hp} {s:Shared} {p:Addr} {xs ys:List V} {its its':List Value} {n n':Nat} {f:Obj->Obj} (I:Inv X pins σ H s) (h:H p=some (.lst xs))
    (ho:s.heap.get? p=some { cls:=.type "list", data:=.seq its.toArray n }) (hf:f { cls:=.type "list", data:=.seq its.toArray n }={ cls:=.type "list", data:=.seq its'.toArray n' }) (r:AC ys its') (hz:ys.length<=sizeLine) (t:Nat) :
    Inv X pins σ (upd H p (.lst ys)) { s with heap:=s.heap.update p f,toks:=t }:=by
  have e:(s.heap.update p f).get? p=some { cls:=.type "list", data:=.seq its'.toArray n' }:=by
    rw [mf f ho (by rw [hf]<;>rfl),hf]
  refine I.write (x:=p) (e:=p) (by rw [h];trivial) (.inl rfl) (fun b u hb q=>(me _ _ (Ne.symm hb)).trans q) ⟨_,e⟩ ?_;exact ⟨hz,its',n',r,e⟩
def Ra:V->V->V->Hp->(Hp->Prop)->Prop:=fun o i v H Q=>∃ p xs k j,o=.ref p/\i=.int k/\H p=some (.lst xs)/\Nc xs.length k=some j/\Q (upd H p (.lst (xs.set j v)))
theorem set_list:HZ X Ra:=by
  intro pins s σ H o i v ov iv u Q I ro ri rv h;obtain ⟨p,xs,k,j,rfl,rfl,hp,hj,q⟩:=h;cases ro;obtain ⟨t,rfl⟩:=ri;obtain ⟨its,n,r,ho,hz⟩:=I.lst hp;obtain ⟨h1,h2,h3,h4⟩:=Nb hj;have hl:=r.length;have hn:=Ex;have I':Inv X pins σ (upd H p (.lst (xs.set j v))) { s with heap:=s.heap.update p (Obj.mapSeq (·.setIfInBounds j u)) }:=
    I.lstUpd hp ho (MI its n j u) (r.set rv j) (by rw [lD];exact hz) s.toks
  by_cases h0:0<=k
  · have hk:k.toNat=j:=by
      rw [seqIndex_of h0 h4] at h1;exact Option.some.inj h1
    exact W.ki_setAt ho h0 (by omega) (by rw [kY,<- hl];exact h4) (by rw [hk];exact ⟨_,I',q⟩)
  · have hk:(k+(its.toArray.size:Int)).toNat=j:=by
      rw [seqIndex_neg (by omega) h3] at h1;rw [kY,<- hl];exact Option.some.inj h1
    exact W.ki_setBack ho (by omega) (by rw [kY,<- hl];exact h3) (by omega) (by rw [hk];exact ⟨_,I',q⟩)
theorem Iq (lo hi:Option Int) (n:Nat):(sliceBounds lo hi none n).1=((HT.sIx n 0 lo:Nat):Int)/\(sliceBounds lo hi none n).2.1=((HT.sIx n n hi:Nat):Int)/\(sliceBounds lo hi none n).2.2=1:=by
 refine ⟨?_,?_,rfl⟩
 ·cases lo with
  | none=>simp [sliceBounds,HT.sIx]
  | some i =>
   simp only [sliceBounds,HT.sIx,Option.getD_none,show (1:Int) > 0 by decide,if_true]
   by_cases h:i < 0
   ·simp only [h,if_true]<;>omega
   ·simp only [h,if_false]<;>omega
 ·cases hi with
  | none=>simp [sliceBounds,HT.sIx]
  | some i =>
   simp only [sliceBounds,HT.sIx,Option.getD_none,show (1:Int) > 0 by decide,if_true]
   by_cases h:i < 0
   ·simp only [h,if_true]<;>omega
   ·simp only [h,if_false]<;>omega
theorem HR (its:List Value) (lo hi:Option Int):slicePick its.toArray lo hi none=((its.drop (HT.sIx its.length 0 lo)).take (HT.sIx its.length its.length hi - HT.sIx its.length 0 lo)).toArray:=by
 obtain ⟨h1,h2,h3⟩:=Iq lo hi its.toArray.size;unfold slicePick;rw [h1,h2,h3];simp only [sliceRange_one,pick_run,kY]<;>rfl
def eC (K:W.Frag):V->Option Int->Option Int->Hp->VK->Prop:=fun x lo hi H Q=>∃ a xs,x=.ref a/\Cm K H a xs/\∀ p,H p=none->Q (.ref p) (upd H p (.lst (ES xs lo hi)))
theorem Ve:Qa X (eC X.K):=by
 intro pins s σ H x v vl vu lo hi sl Q I rx hs pl pu h;obtain ⟨a,xs,rfl,hx,q⟩:=h;cases rx;obtain ⟨its,r,ht,hz⟩:=I.list hx;have hlen:=r.length
 refine ⟨"list", _,slot_list_getitem.lookup,ht.isList.typeIs,?_⟩
 refine wpAny_getItem_list_slice ht.isList hs pl pu .none (by simp) ?_ (by rw [kY]<;>omega);rw [HR,<- hlen];refine ⟨.ref s.heap.objs.size,_,I.laid (t':=s.toks) (o:=.lst (ES xs lo hi)) (fun b ob q=>kW _ q) (kb _) ?_,rfl,q _ (I.hok.fresh (kb _))⟩;exact ⟨kr (FL xs lo hi) hz,_,0,(r.drop (HT.sIx xs.length 0 lo)).take (HT.sIx xs.length xs.length hi - HT.sIx xs.length 0 lo),lA _ rfl⟩
noncomputable def EM:V->Bool
 | .non=>true
 | .bl _=>true
 | .int _=>true
 | .str _=>true
 | _=>false
noncomputable def eqV:V->V->Bool
 | .non,.non=>true
 | .bl a,.bl b=>a == b
 | .bl a,.int b=>(if a then 1 else 0) == b
 | .int a,.bl b=>a == (if b then 1 else 0)
 | .int a,.int b=>a == b
 | .str a,.str b=>a == b
 | _,_=>false
theorem bo {A:Around} {s:Shared} {y x:V} {u v:Value} (ry:RelV y u) (rx:RelV x v) (fy:EM y=true) (fx:EM x=true):SeqAt.EqAt A s u v (eqV y x):=by
 cases y with
 | non =>
  cases ry;cases x with
  | non=>cases rx;exact SeqAt.EqAt.same _
  | bl b=>cases rx;exact SeqAt.EqAt.none_bool b
  | int b=>obtain ⟨t,rfl⟩:=rx;exact SeqAt.EqAt.none_int b t
  | str b=>obtain ⟨t,rfl⟩:=rx;exact SeqAt.EqAt.none_str b t
  | _=>exact absurd (show false=true from fx) ku
 | bl a =>
  cases ry;cases x with
  | non=>cases rx;exact SeqAt.EqAt.bool_none a
  | bl b=>cases rx;exact SeqAt.EqAt.bool_bool a b
  | int b=>obtain ⟨t,rfl⟩:=rx;exact SeqAt.EqAt.bool_int a b t
  | str b=>obtain ⟨t,rfl⟩:=rx;exact SeqAt.EqAt.bool_str a b t
  | _=>exact absurd (show false=true from fx) ku
 | int a =>
  obtain ⟨t',rfl⟩:=ry;cases x with
  | non=>cases rx;exact SeqAt.EqAt.int_none a t'
  | bl b=>cases rx;exact SeqAt.EqAt.int_bool a t' b
  | int b=>obtain ⟨t,rfl⟩:=rx;exact SeqAt.EqAt.int_int a t' b t
  | str b=>obtain ⟨t,rfl⟩:=rx;exact SeqAt.EqAt.int_str a t' b t
  | _=>exact absurd (show false=true from fx) ku
 | str a =>
  obtain ⟨t',rfl⟩:=ry;cases x with
  | non=>cases rx;exact SeqAt.EqAt.str_none a t'
  | bl b=>cases rx;exact SeqAt.EqAt.str_bool a t' b
  | int b=>obtain ⟨t,rfl⟩:=rx;exact SeqAt.EqAt.str_int a t' b t
  | str b=>obtain ⟨t,rfl⟩:=rx;exact SeqAt.EqAt.str_str a t' b t
  | _=>exact absurd (show false=true from fx) ku
 | _=>exact absurd (show false=true from fy) ku
theorem JD:Bq X (compareOp .NotIn) (fun x y H Q=>∃ i j,x=.str i/\y=.str j/\Q (.bl (!(!(Builtin.Str.occurrences j i 0 j.length 1).isEmpty))) H):=by
 intro pins s σ H x y v u Q I rx ry h;obtain ⟨i,j,rfl,rfl,q⟩:=h;obtain ⟨t,rfl⟩:=rx;obtain ⟨t',rfl⟩:=ry;exact notIn_str ⟨.bl _,H,I,rfl,q⟩
theorem BD.or {f:Value} {r r':List V->Hp->VK->Prop} (h:BD X f r) (h':BD X f r'):BD X f (fun xs H Q=>r xs H Q\/r' xs H Q):=by
 intro pins s σ H xs us Q I rs q;rcases q with q | q
 ·exact h pins s σ H xs us Q I rs q
 ·exact h' pins s σ H xs us Q I rs q
theorem HU:BD X (.type "tuple") (fun xs H Q=>∃ p ys,xs=[.ref p]/\((Cm X.K H p ys/\∀ l,H l=none->Q (.ref l) (upd H l (.tup ys)))\/(DW X.K H p ys/\Q (.ref p) H))):=by
 intro pins s σ H xs us Q I r h;obtain ⟨p,ys,rfl,h⟩:=h;obtain ⟨u,rfl,rx⟩:=vals1 r;cases rx;rcases h with ⟨hq,q⟩ | ⟨hq,q⟩
 ·obtain ⟨its,r',pl,hz⟩:=I.list hq;have hlen:=r'.length;refine call_tuple_list pl.isList (fun h' kp=>?_) (by simp only [kY]<;>omega);have I1:Inv X pins σ H { s with heap:=h' }:=I.kept (t':=s.toks) kp
  have I2:Inv X pins σ (upd H h'.objs.size (.tup ys)) { s with heap:=h'.push { cls:=.type "tuple", data:=.seq its.toArray } }:=
   I1.laid (t':=s.toks) (fun b o e=>kW _ e) (kb _) (show Aa X.prog X.w _ _ _ (.tup ys) from ⟨hz,its,r',HJ.new _ _⟩)
  exact ⟨.ref h'.objs.size,_,I2,rfl,q _ (I1.hok.fresh (kb _))⟩
 ·obtain ⟨its,r',pl,hz⟩:=I.tuple hq;exact call_tuple_same pl ⟨.ref p,H,I,rfl,q⟩
def hZ (K:W.Frag) (T:String) (x:V) (H:Hp):Prop:=match x with
  | .str _=>T = "str"
  | .int _=>T = "int"
  | .ref p=>(T = "list" /\ ∃ xs,Cm K H p xs)\/(T = "tuple" /\ ∃ o,K.lookup p=some o/\o.cls=.type "tuple" /\ o.dict=none) \/
      (T = "dict" /\ ((∃ kvs,H p=some (.dK kvs))\/∃ kvs,H p=some (.dT kvs)))\/(T = "set" /\ ∃ S n,H p=some (.set S n))
  | _=>False
theorem Qk {pins:List (Addr×Obj)} {σ:St} {H:Hp} {s:Shared} {T:String} {x:V} {v:Value} (I:Inv X pins σ H s) (r:RelV x v) (ty:hZ X.K T x H) :
    s.TypeIs v T/\∀ a,v=.ref a->∃ ob,s.heap.get? a=some ob/\ob.dict=none:=by
  cases x with
  | str z =>
    obtain ⟨t,rfl⟩:=r
    cases (show T = "str" from ty)
    exact ⟨typeIs_str s z t,fun _ e=>nomatch e⟩
  | int i =>
    obtain ⟨t,rfl⟩:=r
    cases (show T = "int" from ty)
    exact ⟨typeIs_int s i t,fun _ e=>nomatch e⟩
  | ref p =>
    cases r;rcases ty with ⟨rfl,xs,hq⟩ | ⟨rfl,o,hk,hc,hd⟩ | ⟨rfl,hk⟩ | ⟨rfl,S,n,hk⟩
    · obtain ⟨its,_,pl,_⟩:=I.list hq;refine ⟨pl.isList.typeIs,fun a e=>?_⟩;cases e;obtain ⟨o,n,e,c,hd,_⟩:=pl;exact ⟨o,e,hd⟩
    · refine ⟨⟨o,I.kIn p o hk,hc⟩,fun a e=>?_⟩;cases e;exact ⟨o,I.kIn _ o hk,hd⟩
    · have z:∃ o,s.heap.get? p=some o/\o.ExactDict:=by
        rcases hk with ⟨kvs,hk⟩ | ⟨kvs,hk⟩
        · obtain ⟨_,_,_,_,o,_,_,e,ex,_⟩:=I.hok p _ hk;exact ⟨o,e,ex⟩
        · obtain ⟨_,_,_,_,o,_,_,e,ex,_⟩:=I.hok p _ hk;exact ⟨o,e,ex⟩
      obtain ⟨o,e,ex⟩:=z;refine ⟨⟨o,e,ex.1⟩,fun a e2=>?_⟩;cases e2;exact ⟨o,e,ex.2.1⟩
    · obtain ⟨o,_,_,_,e,ex,_⟩:=I.hok p _ hk;refine ⟨⟨o,e,ex.1⟩,fun a e2=>?_⟩;cases e2;exact ⟨o,e,ex.2.1⟩
  | _=>exact False.elim ty
abbrev iY (K:W.Frag) (T:String) (r:V->List V->Hp->VK->Prop) (to:TE):TE:=fun σ H Q=>to σ H fun x H1=>hZ K T x H1/\r x [] H1 Q
abbrev ZZ (K:W.Frag) (T:String) (r:V->List V->Hp->VK->Prop) (to:TE) (t:TA):TE:=fun σ H Q=>to σ H fun x H1=>hZ K T x H1/\t σ H1 fun xs H2=>r x xs H2 Q
variable {o e:Expr} {es:List Expr} {to:TE} {t:TA} {name:Str} {apos cpos:Pos} {T id:String} {r:V->List V->Hp->VK->Prop}
theorem Ly (pa:PlainAttrs T) (slot:Slot T name id) (hty:typeOf (.builtin id)=pure (.type "method_descriptor")) (hm:Qb X id r) (ho:PE X o to)
    (hbase:attributeBase o name X.env (eval o X.env)=eval o X.env:=by rfl) (hline:(apos.endLine == cpos.line)=true:=by rfl):PE X (.Call (.Attribute o name apos) [] [] cpos) (iY X.K T r to):=by
  intro pins s σ H Q I h;refine wpAny_Call_method0_late hbase hline (An (ho pins s σ H _ I h) fun v s1 ⟨x,H1,I1,r1,ty,q1⟩=>?_);obtain ⟨h1,h2⟩:=Qk I1 r1 ty;exact ⟨T,id,pa,slot,hty,h1,h2,Calls.callWith_builtin rfl (PySem.evalArgs_none (hm pins s1 σ H1 x [] v [] Q I1 r1 .nil q1))⟩
theorem SD (pa:PlainAttrs T) (slot:Slot T name id) (hty:typeOf (.builtin id)=pure (.type "method_descriptor")) (hm:Qb X id r) (ho:PE X o to) (ha:PA X (e::es) t)
    (hbase:attributeBase o name X.env (eval o X.env)=eval o X.env:=by rfl)
    (hfew:((backTo cpos (starEach (e::es) X.env)).all (fun x=>!x.1) && (backToKw cpos (keywordEach [] X.env)).all (fun x=>x.1.isSome)
      && decide ((e::es).length+([]:List Keyword).length+(if ([]:List Keyword).isEmpty then 0 else 1) < 30))=true:=by rfl)
    (hline:(apos.endLine == cpos.line)=true:=by rfl) (hs:starEach (e::es) X.env=(false,eval e X.env)::starEach es X.env:=by rfl) (hplain:(backTo cpos (starEach es X.env)).any (·.1)=false:=by rfl) :
    PE X (.Call (.Attribute o name apos) (e::es) [] cpos) (ZZ X.K T r to t):=by
  intro pins s σ H Q I h;refine wpAny_Call_method_late hbase hfew hline rfl (An (ho pins s σ H _ I h) fun v s1 ⟨x,H1,I1,r1,ty,q1⟩=>?_);obtain ⟨h1,h2⟩:=Qk I1 r1 ty;refine ⟨T,id,pa,slot,hty,h1,h2,?_⟩;have hA:=ha cpos pins s1 σ H1 _ I1 q1;rw [hs] at hA ⊢;refine Calls.callWith_builtin (by show (false || (backTo cpos (starEach es X.env)).any (·.1))=false;rw [hplain]<;>rfl) (Calls.evalArgs_plain ?_);exact An hA fun us s2 ⟨vs,H2,I2,r2,q2⟩=>hm pins s2 σ H2 x vs v us Q I2 r1 r2 q2
end
def cg (X:Cx) (id:String) (r:V->List V->Hp->VK->Prop):Prop:=
 ∀ (pins:List (Addr×Obj)) (s:Shared) (σ:St) (H:Hp) (x:V) (xs:List V) (v:Value) (us:List Value) (Q:VK),Inv X pins σ H s->RelV x v->AC xs us->r x xs H Q ->
  wpAny (model X.prog X.w) X.A (call (.builtin id) (v::us)) (EP X pins σ Q) X.xe s
theorem AC.one:∀ {x:V} {us:List Value},AC [x] us->∃ u,us=[u]/\RelV x u
 := by
 intro x us h;cases h with | cons r t=>cases t;exact ⟨_,rfl,r⟩
theorem AC.two:∀ {x y:V} {us:List Value},AC [x,y] us->∃ u v,us=[u,v]/\RelV x u/\RelV y v
 := by
 intro x y us h;cases h with | cons r t=>cases t with | cons q t=>cases t;exact ⟨_,_,rfl,r,q⟩
theorem AC.zero:∀ {us:List Value},AC [] us->us=[]
 | _,.nil=>rfl
theorem AC.dropLast {xs:List V} {us:List Value} (h:AC xs us):AC xs.dropLast us.dropLast:=by
 induction h with
 | nil=>exact .nil
 | cons r t ih =>
  cases t with
  | nil=>exact .nil
  | cons q t'=>exact .cons r ih
theorem AC.rep {xs:List V} {us:List Value} (h:AC xs us):∀ k:Nat,AC (List.replicate k xs).flatten (List.replicate k us).flatten
 | 0=>.nil
 | k+1=>by
  rw [mB,mB,mS,mS];exact AC.append h (AC.rep h k)
theorem MW {α:Type} (l:List α):l.eraseIdx (l.length - 1)=l.dropLast:=by
 induction l with
 | nil=>rfl
 | cons a r ih =>
  cases r with
  | nil=>rfl
  | cons b r =>
   have e:(a::b::r).length - 1=((b::r).length - 1)+1:=by
    have h1:(a::b::r).length=r.length+2:=rfl;have h2:(b::r).length=r.length+1:=rfl;omega
   rw [e,List.eraseIdx_cons_succ,ih]
   all_goals rfl
theorem foldl_rep (its:List Value):∀ (k:Nat) (acc:List Value),
    List.foldl (fun x1 x2=>x1++x2) acc.toArray (List.replicate k its.toArray)=(acc++(List.replicate k its).flatten).toArray
  | 0,acc=>by simp
  | k+1,acc=>by
    have e:acc.toArray++its.toArray=(acc++its).toArray:=by simp
    have e2:(acc++its)++(List.replicate k its).flatten=acc++(List.replicate (k+1) its).flatten:=by
      rw [mB,mS,lj]
    rw [<- e2,<- foldl_rep its k (acc++its),<- e,mB,mn]
section
variable {X:Cx} {pins:List (Addr×Obj)} {σ:St} {H:Hp} {s:Shared} {l b:Addr} {xs ys zs:List V}
theorem Inv.lset {its its':List Value} {n:Nat} {f:Array Value->Array Value} {t':Nat} (I:Inv X pins σ H s) (hH:H l=some (.lst xs))
    (e:s.heap.get? l=some { cls:=.type "list", data:=.seq its.toArray n }) (hf:f its.toArray=its'.toArray) (hv:AC ys its') (hz:ys.length<=sizeLine) :
    Inv X pins σ (upd H l (.lst ys)) { s with heap:=s.heap.update l (Obj.mapSeq f),toks:=t' }:=by
  have q:=PySem.IsL.update e f;rw [hf] at q;refine I.write (x:=l) (e:=l) (by rw [hH];exact trivial) (.inl rfl) (fun b' u hb hu=>(me s.heap (Obj.mapSeq f) (Ne.symm hb)).trans hu) ⟨_,q⟩ ?_;exact ⟨hz,its',_,hv,q⟩
theorem Inv.lnew {its:List Value} {t':Nat} (I:Inv X pins σ H s) (hv:AC ys its) (hz:ys.length<=sizeLine) :
    Inv X pins σ (upd H s.heap.objs.size (.lst ys)) { s with heap:=s.heap.push { cls:=.type "list", data:=.seq its.toArray },toks:=t' }:=
  I.laid (fun _ _ q=>kW _ q) (kb _) ⟨hz,its,0,hv,lA _ rfl⟩
theorem Inv.fresh (I:Inv X pins σ H s):H s.heap.objs.size=none:=I.hok.fresh (kb _)
theorem Inv.lstM (I:Inv X pins σ H s) (hH:H l=some (.lst xs)):xs.length<=sizeLine/\∃ (its:List Value) (n:Nat),AC xs its/\xs.length=its.length/\s.heap.get? l=some { cls:=.type "list", data:=.seq its.toArray n }:=by
 obtain ⟨z,its,n,r,e⟩:=I.hok l _ hH;exact ⟨z,its,n,r,r.length,e⟩
theorem GZ {n:Nat} (h:n<=sizeLine):Builtin.List.listTooLong n=false:=by
 unfold Builtin.List.listTooLong;exact decide_eq_false (by omega)
end
section
variable {X:Cx}
def NM:V->List V->Hp->VK->Prop:=fun x vs H Q=>∃ l xs y,x=.ref l/\vs=[y]/\H l=some (.lst xs)/\xs.length < sizeLine/\Q .non (upd H l (.lst (xs++[y])))
theorem PL:cg X "list.append" NM:=by
 intro pins s σ H x vs v us Q I rx rv h;obtain ⟨l,xs,y,rfl,rfl,hH,hz,q⟩:=h;cases rx;obtain ⟨u,rfl,ru⟩:=rv.one;obtain ⟨z,its,n,r,hl,e⟩:=I.lstM hH;refine call_meets F.slot_list_append ⟨_,e,rfl⟩ F.entry_list_append (F.args_list_append_2 _ _) (PySem.list_append l its.toArray n u (by rw [kY];omega)) ⟨e,?_⟩;refine ⟨.non,_,I.lset (its':=its++[u]) hH e (by simp) (r.append (.cons ru .nil)) ?_,rfl,q⟩;rw [lI,lY];omega
def NL:V->List V->Hp->VK->Prop:=fun x vs H Q=>∃ l b xs zs,x=.ref l/\vs=[.ref b]/\H l=some (.lst xs)/\H b=some (.lst zs)/\xs.length+zs.length<=sizeLine/\Q .non (upd H l (.lst (xs++zs)))
theorem PK:cg X "list.extend" NL:=by
 intro pins s σ H x vs v us Q I rx rv h;obtain ⟨l,b,xs,zs,rfl,rfl,hH,hB,hz,q⟩:=h;cases rx;obtain ⟨u,rfl,ru⟩:=rv.one;cases ru;obtain ⟨z,its,n,r,hl,e⟩:=I.lstM hH;obtain ⟨z2,its2,n2,r2,hl2,e2⟩:=I.lstM hB;have hsz:its.toArray.size+its2.toArray.size<=sizeLine:=by rw [kY,kY];omega
 have hlong:¬ (!its.toArray.isEmpty && Builtin.List.listTooLong (its.toArray.size+its2.toArray.size))=true:=by
  rw [GZ hsz,nN];exact ku
 refine call_meets F.slot_list_extend ⟨_,e,rfl⟩ F.entry_list_extend (F.args_list_extend_2 _ _)
  (AutoSeq1.list_extend_list_list_0 l its.toArray n b its2.toArray n2 hlong (by rw [kY];omega) (by omega)) ⟨e,e2,?_⟩
 refine ⟨.non,_,I.lset (its':=its++its2) hH e (by simp) (r.append r2) ?_,rfl,q⟩;rw [lI];omega
def eJ:V->List V->Hp->VK->Prop:=fun x vs H Q=>∃ l xs y,x=.ref l/\vs=[]/\H l=some (.lst xs)/\xs[xs.length - 1]?=some y/\Q y (upd H l (.lst xs.dropLast))
theorem bD:cg X "list.pop" eJ:=by
 intro pins s σ H x vs v us Q I rx rv h;obtain ⟨l,xs,y,rfl,rfl,hH,hy,q⟩:=h;cases rx;have hus:=rv.zero;subst hus;obtain ⟨z,its,n,r,hl,e⟩:=I.lstM hH;obtain ⟨u,hu,ru⟩:=r.get hy;have hy':its.toArray[its.toArray.size - 1]?=some u:=by
  show its.toArray[its.length - 1]?=some u;rw [<- Array.getElem?_toList,<- hl];exact hu
 refine call_meets F.slot_list_pop ⟨_,e,rfl⟩ F.entry_list_pop (F.args_list_pop_1 _) (MeetsSeq.list_pop_last l its.toArray n u hy' (by rw [kY];omega)) ⟨e,?_⟩;refine ⟨y,_,I.lset (its':=its.dropLast) hH e ?_ r.dropLast ?_,ru,q⟩
 ·show its.toArray.eraseIdxIfInBounds (its.toArray.size - 1)=its.dropLast.toArray;rw [kY,List.eraseIdxIfInBounds_toArray,MW]
 ·rw [List.length_dropLast];omega
def eQ:R2:=fun x y H Q=>∃ l b xs zs,x=.ref l/\y=.ref b/\H l=some (.lst xs)/\H b=some (.lst zs)/\xs.length+zs.length<=sizeLine/\∀ p,H p=none->Q (.ref p) (upd H p (.lst (xs++zs)))
theorem ak:Bq X (binaryOp .Add) eQ:=by
 intro pins s σ H x y v u Q I rx ry h;obtain ⟨l,b,xs,zs,rfl,rfl,hH,hB,hz,q⟩:=h;cases rx;cases ry;obtain ⟨z,its,n,r,hl,e⟩:=I.lstM hH;obtain ⟨z2,its2,n2,r2,hl2,e2⟩:=I.lstM hB;refine PySem.P.add_list e e2 ?_ (by rw [kY,kY];omega);have ea:its.toArray++its2.toArray=(its++its2).toArray:=by simp
 rw [ea];exact ⟨.ref _,_,I.lnew (t':=s.toks) (r.append r2) (by rw [lI];omega),rfl,q _ I.fresh⟩
def eI:R2:=fun x y H Q=>∃ l k xs,x=.ref l/\y=.int k/\H l=some (.lst xs)/\-(2 ^ 63)<=k/\k < 2 ^ 63/\xs.length * k.toNat<=sizeLine /\
 ∀ p,H p=none->Q (.ref p) (upd H p (.lst (List.replicate k.toNat xs).flatten))
theorem len_rep {α:Type} (xs:List α) (k:Nat):(List.replicate k xs).flatten.length=k * xs.length:=by
 induction k with
 | zero=>simp
 | succ k ih=>rw [mB,mS,lI,ih,Nat.succ_mul,Nat.add_comm]
theorem aY:Bq X (binaryOp .Mult) eI:=by
 intro pins s σ H x y v u Q I rx ry h;obtain ⟨l,k,xs,rfl,rfl,hH,h1,h2,hz,q⟩:=h;cases rx;obtain ⟨t,rfl⟩:=ry;obtain ⟨z,its,n,r,hl,e⟩:=I.lstM hH;have hlen:its.toArray.size * k.toNat<=sizeLine:=by rw [kY,<- hl];exact hz
 have hcap:¬ its.toArray.size * k.toNat > (2 ^ 63 - 1) / 8:=by
  have:(sizeLine:Nat)<=(2 ^ 63 - 1) / 8:=by decide
  omega
 have hfit:¬ (!Builtin.List.listFitsIndex k)=true:=by
  rw [fitsIndex_both h1 h2];exact ku
 have hlong:¬ Builtin.List.listTooLong (its.toArray.size * k.toNat)=true:=by
  rw [GZ hlen];exact ku
 have hnew:List.foldl (fun x1 x2=>x1++x2) #[] (List.replicate (if its.toArray.isEmpty=true then 0 else k.toNat) its.toArray)=(List.replicate k.toNat its).flatten.toArray:=by
  have f0:∀ m:Nat,List.foldl (fun x1 x2=>x1++x2) #[] (List.replicate m its.toArray)=(List.replicate m its).flatten.toArray:=fun m=>by
   have:=foldl_rep its m [];rw [List.nil_append] at this;exact this
  rw [f0];cases its with
  | nil=>simp
  | cons a r'=>rw [if_neg (by simp)]
 refine wpAny_binaryOp_repeat_ref (T := "list") (U := "int") (by decide) ⟨_,e,rfl⟩ (fun s'=>typeIs_int s' k t) noFill_list_mul F.fills_int_mul F.slot_int_rmul repeat_list F.slot_int_index.lookup
  (call_meets F.slot_int_rmul (typeIs_int s k t) F.entry_int_rmul (F.args_int_rmul_2 _ _) (int___rmul___int_list k t l its.toArray n)
   ⟨e,rfl,⟨_,e,rfl⟩,call_meets F.slot_list_mul ⟨_,e,rfl⟩ F.entry_list_mul (F.args_list_mul_2 _ _) (AutoListH.list___mul___list_int_3 l its.toArray n k t hfit hcap hlong) ⟨e,?_⟩⟩)
 rw [hnew];exact ⟨.ref _,_,I.lnew (t':=s.toks) (r.rep k.toNat) (by rw [len_rep,Nat.mul_comm];exact hz),rfl,q _ I.fresh⟩
end
section
end
section
end
end L2
namespace Att
open PySem PySem.W PySem.Calls PyProof.Rows
theorem FP {P:Params} {h:Heap}:∀ (ns:List Int) (vs:List Value),WellAll P h vs (ns.map WData.int)->IntsAre vs ns:=by
 intro ns
 induction ns with
 | nil =>
  intro vs w;rw [mq] at w;cases w;exact .nil
 | cons n ns ih =>
  intro vs w;rw [kj] at w;cases w with
  | cons a b =>
   cases a;exact .cons _ _ (ih _ b)
theorem Oe {l:OpenLaw} {n:Nat} (hn:l.most=some n) {P:Params} {h:Heap} {args:List WData} {vals:List Value}
    (hpre:l.row.toRowW.claim.pre args=true) (hwl:WellAll P h vals args) :
    ∃ a vs ns,vals=[Value.ref a]/\args=[WData.list (ns.map WData.int)]/\h.get? a=some { cls:=.type "list", data:=.seq vs.toArray }/\IntsAre vs ns/\ns.length<=n:=by
  have hsh:WShape.hasAll [] args [.list .int]=true:=(pre_splitW hpre).1;have hc:l.pre.holds [] { args:=args }=true:=(pre_splitW hpre).2;obtain ⟨d,r,rfl,h1,h2⟩:=hasAllW_cons hsh;obtain rfl:=hasAllW_nil h2;obtain ⟨xs,rfl,h3⟩:=hasW_list h1;obtain ⟨ns,rfl⟩:=items_int h3;have hlen:ns.length<=n:=by
    unfold OpenLaw.pre at hc;have h4:(WTm.not (.lt (.lit (.int (n:Int))) (.len (.arg 0)))).holds [] { args:=[.list (ns.map .int)] }=true:=by
      have h4:=(holds_andW hc).1;rw [hn] at h4;exact h4
    have h5:=condW_of h4 (w_not (w_lt w_lit (w_len_list (w_arg rfl))));rw [lK] at h5;refine Nat.le_of_not_lt fun q=>?_
    have q':(n:Int) < ((ns.length:Nat):Int):=by omega
    first
      | (rw [decide_eq_true q'] at h5;exact absurd h5 (by decide))
      | (simp at h5;omega)
  cases hwl with
  | cons w1 w2 =>
    cases w2;cases w1 with
    | list ho hall=>exact ⟨_,_,ns,rfl,rfl,ho,FP ns _ hall,hlen⟩
theorem Oq (l:OpenLaw) (args:List WData):l.row.toRowW.claim.post args (.bool true) args=true:=
 postW_of (r:=l.row.toRowW) (X:=(true == true))
  (show WShape.has [] (.bool true) .bool=true by first | rfl | decide | simp [WShape.has,WShape.arms,WShape.armsAll])
  (show (WTm.eq .res (.lit (.bool true))).value [] { args:=args,res:=some (.bool true),after:=args }=some (.bool (true == true)) from w_eq_bool (w_res rfl) w_lit) rfl
theorem attach_call {l:OpenLaw} {n:Nat} {q:Program} {loose:List Str} {XP:(Str->Option Value)->Heap->Prop} {YP:World->Heap->Prop} {d:DefRec}
    (hn:l.most=some n) (hdf:d.params.defaults=[])
    (call:∀ (w:World) (s₀ s₁:Shared) (mg mb:Str->Option Value) (fa:Addr) (o:Obj) (pm cd doc:Value) (a:Addr) (vs:List Value) (ns:List Int),
      Ground q loose [] XP w s₀ mg mb s₁.heap->YP w s₁.heap ->
      s₁.heap.get? fa=some o->o.data=.func (docDef d.name d.params d.body d.scope pm cd doc)->s₁.heap.CodeRec cd d.name->mg d.name=some (.ref fa) ->
      s₁.heap.get? a=some { cls:=.type "list", data:=.seq vs.toArray }->IntsAre vs ns->ns.length<=n->s₁.gens=#[] ->
      codeAny (model l.prog w) callerA (.call (.ref fa) ⟨[.ref a],[]⟩) (fun r s'=>r=.ok (.ret (.bool true))/\OldK s₁.heap s'.heap/\s'.os=s₁.os/\AllBare s'.gens) s₁) :
    WalkO q loose XP YP l.row.toRowW d [] (fun f vs=>PySem.call f vs):=by
  intro w s₀ s₁ mg mb G Y fa o pm cd doc dV kV ho hd hcd hD hmg hg args vals as hpre hlay hrd hwl hlo;obtain rfl:dV=.none:=Dflts.none hD hdf;obtain rfl:kV=.none:=Dflts.noKw hD;obtain ⟨a,vs,ns,rfl,rfl,hobj,hints,hlen⟩:=Oe hn hpre hwl;refine enter_call (codeAny_mono (call w s₀ s₁ mg mb fa o pm cd doc a vs ns G Y ho (fd_plain hd) hcd hmg hobj hints hlen hg) fun r s' hq=>?_);obtain ⟨rfl,h2,h3,h4⟩:=hq;exact ⟨.inl ⟨.bool true,.bool true,[],rfl,fun _=>rfl,.bool true,Oq l _,fun _=>⟨List.Pairwise.nil,fun _ hm=>(nomatch hm)⟩⟩,h2,h3,h4⟩
section
end
end Att
namespace L2
open PySem PySem.Spec PyProof.Rows
theorem Hi:∀ {vs:List Value} {ns:List Int},IntsAre vs ns->AC (ns.map V.int) vs
 | _,_,.nil=>.nil
 | _,_,.cons n t h=>.cons ⟨t,rfl⟩ (Hi h)
def Xp (H:Hp):Prop:=∀ b,H b=none\/∃ o xs,H b=some (.frz o (.lst xs))
theorem Sf {P:Program} {w:World} {K:W.Frag} {mg mb:Str->Option Value} {CX:VI} {k:Nat} {fa a:Addr} {fd:FuncData} {x:Str} {sp:Sp} {s₁:Shared} {vs:List Value} {ns:List Int}
    (KX:K.In s₁.heap) (hns:s₁.heap.Ns mainGlobals mg) (hb:s₁.heap.Ns builtinsNs mb) (hbb:∀ x:Str,x ≠ "__name__" -> mb x=bootBuiltins x) (hlim:s₁.heap.NoLimit) (hg:s₁.gens=#[])
    (ha:s₁.heap.get? a=some { cls:=.type "list", data:=.seq vs.toArray }) (hi:IntsAre vs ns) (hl:ns.length<=sizeLine) (hr:Room k callerA)
    (F:∀ base:Heap,K.In base->base.Ns mainGlobals mg->FnOk P w K mg base CX k fa fd [x] sp) (hbind:∀ (s:Shared) (u:Value),BindsTo s fd ⟨[u],[]⟩ [(x,u)])
    (hsp:∀ H:Hp,Xp H->Cm K H a (ns.map V.int)->sp [.ref a] H (fun v _=>v=.bl true) fun _ _ _=>False)
    (hCX:∀ H e s',CX [] H s₁ (fun _ _ _=>False) e s'->False) :
    codeAny (model P w) callerA (.call (.ref fa) ⟨[.ref a],[]⟩) (fun r s'=>r=.ok (.ret (.bool true))/\OldK s₁.heap s'.heap/\s'.os=s₁.os/\AllBare s'.gens) s₁:=by
  have rv:=Hi hi;have lenV:=hi.length
  -- from an abstract heap in which nothing but the script may be tracked
  have core:∀ H:Hp,Xp H->Cm K H a (ns.map V.int)->DX P w H s₁.heap->(∀ b,H b≠none->b=a)->(H a≠none->K.lookup a=none) ->
      codeAny (model P w) callerA (.call (.ref fa) ⟨[.ref a],[]⟩) (fun r s'=>r=.ok (.ret (.bool true))/\OldK s₁.heap s'.heap/\s'.os=s₁.os/\AllBare s'.gens) s₁:=by
    intro H hO hS hok hA hK;have DU:∀ {b:Addr} {o:Obj},s₁.heap.get? b=some o->H b=none->(JJ s₁.heap H).get? b=some o:=fun e n=>Su e n
    have noA:∀ {b:Addr} {o:Obj} {es:Array DictEntry} {ep:Nat},s₁.heap.get? b=some o->o.data=.dict es ep->H b=none:=fun {b o es ep} e d=>by
      cases q:H b with
      | none=>rfl
      | some u =>
        have e':b=a:=hA b (by rw [q];simp);subst e';rw [ha] at e;cases e;have d':Data.seq vs.toArray _=Data.dict es ep:=d;cases d'
    have nsK:∀ {b:Addr} {m:Str->Option Value},s₁.heap.Ns b m->(JJ s₁.heap H).Ns b m:=fun {b m} ⟨o,es,ep,e,d,r⟩=>⟨o,es,ep,DU e (noA e d),d,r⟩
    have hKb:K.In (JJ s₁.heap H):=fun b o e=>DU (KX b o e) (by
      cases q:H b with
      | none=>rfl
      | some u =>
        have e':b=a:=hA b (by rw [q];simp);subst e';rw [hK (by rw [q];simp)] at e;cases e)
    have hM:Mod K mg (JJ s₁.heap H):=⟨hKb,nsK hns,⟨mb,nsK hb,hbb⟩,let ⟨mc,h1,h2⟩:=hlim;⟨mc,nsK h1,h2⟩⟩;have e0:Env0 P w K mg (JJ s₁.heap H) callerA [] s₁ H:=⟨rfl,hM,fun b o e=>Wd e,Nat.le_of_eq (Pf _ _),trivial,fun b hb=>absurd (show b∈([]:List Addr) from hb) (by simp),hok,.of_eq hg⟩;refine codeAny_mono ((F _ hKb (nsK hns)).run callerA [] s₁ H ⟨[.ref a],[]⟩ [.ref a] [.ref a] _ _ hr e0 (hbind s₁ (.ref a)) (.cons rfl .nil) (hsp H hO hS)) fun r s' h=>?_
    cases r with
    | error e=>exact (hCX H e s' h).elim
    | ok fl =>
      cases fl with
      | next=>exact False.elim h
      | brk=>exact False.elim h
      | cont=>exact False.elim h
      | ret u =>
        obtain ⟨v,H',os,bare,un,hok',r',q⟩:=h;have q':v=.bl true:=q;subst q';obtain rfl:u=Value.bool true:=r';refine ⟨rfl,OldK.of_keep fun b o e=>?_,os,bare⟩;cases q:H b with
        | none=>exact un.keep b o e q (by intro z;exact absurd (show b∈([]:List Addr) from z) (by simp)) (by simp)
        | some u =>
          rcases hO b with z | ⟨ob,xs,z⟩
          · rw [q] at z;cases z
          · have z2:=un.frzs b ob _ z;obtain ⟨e1,_⟩:=hok b _ z;obtain ⟨e2,_⟩:=hok' b _ z2;rw [e] at e1;cases e1;exact e2
  cases hk:K.lookup a with
  | some o =>
    -- the script is one of the module's own objects
    have e:=KX a o hk;rw [ha] at e;cases e;refine core (fun _=>none) (fun _=>.inl rfl) (.inr ⟨_,vs.toArray,_,hk,rfl,rfl,rfl,by rw [kY,lenV];exact hl,by simpa using rv⟩) (fun b u z=>by have z':(none:Option HO)=some u:=z;cases z') (fun b z=>absurd rfl z) fun z=>absurd rfl z
  | none =>
    refine core (fun b=>if b=a then some (.frz { cls:=.type "list", data:=.seq vs.toArray } (.lst (ns.map V.int))) else none) (fun b=>?_) (.inl (.inr ⟨{ cls:=.type "list", data:=.seq vs.toArray },if_pos rfl⟩)) (fun b u z=>?_) (fun b z=>?_) fun _=>hk
    · by_cases hb:b=a
      · exact .inr ⟨_,_,if_pos hb⟩
      · exact .inl (if_neg hb)
    · by_cases hb:b=a
      · have z':=(if_pos hb).symm.trans z;cases z';subst hb;exact ⟨ha,by rw [lK];exact hl,vs,_,rv,ha⟩
      · have z':=(if_neg hb).symm.trans z;cases z'
    · by_cases hb:b=a
      · exact hb
      · exact absurd (if_neg hb) z
theorem walk_of {l:W.OpenLaw} {n k:Nat} {q:Program} {loose:List Str} {XP:(Str->Option Value)->Heap->Prop} {YP:World->Heap->Prop} {d:DefRec} {K:Params->W.Frag} {CX:World->VI} {sp:World->Sp} {x:Str}
    (hn:l.most=some n) (hn2:n<=sizeLine) (hdf:d.params.defaults=[]) (hr:Room k callerA)
    (hY:∀ (w:World) (h:Heap),YP w h->(K w.params).In h)
    (F:∀ (w:World) (mg:Str->Option Value) (fa:Addr) (h:Heap),(K w.params).In h->h.Ns mainGlobals mg->mg d.name=some (.ref fa) ->
      ∃ fd:FuncData,(∀ (s:Shared) (u:Value),BindsTo s fd ⟨[u],[]⟩ [(x,u)]) /\
        ∀ base:Heap,(K w.params).In base->base.Ns mainGlobals mg->FnOk l.prog w (K w.params) mg base (CX w) k fa fd [x] (sp w))
    (hsp:∀ (w:World) (H:Hp) (a:Addr) (ns:List Int),ns.length<=n->Xp H->Cm (K w.params) H a (ns.map V.int)->sp w [.ref a] H (fun v _=>v=.bl true) fun _ _ _=>False)
    (hCX:∀ (w:World) (H:Hp) (s:Shared) (e:Value) (s':Shared),CX w [] H s (fun _ _ _=>False) e s'->False) :
    W.WalkO q loose XP YP l.row.toRowW d [] (fun f vs=>PySem.call f vs):=by
  refine Att.attach_call hn hdf fun w s₀ s₁ mg mb fa o pm cd doc a vs ns G Y ho hd hcd hmg hobj hints hlen hg=>?_
  have KX:=hY w _ Y;obtain ⟨fd,hb,hF⟩:=F w mg fa _ KX G.T.g hmg;exact Sf KX G.T.g G.T.b G.T.builtins G.T.nolimit hg hobj hints (kr hlen hn2) hr hF hb (fun H hO hS=>hsp w H a ns hlen hO hS) fun H e s'=>hCX w H s₁ e s'
noncomputable def Ak (s:Stmt):Arguments:=match s with
 | .FunctionDef _ a _ _ _ _ _ _ _ _=>a
 | _=>{ posonlyargs:=[],args:=[],vararg:=none,kwonlyargs:=[],kw_defaults:=[],kwarg:=none,defaults:=[] }
noncomputable def AY (s:Stmt):List Stmt:=match s with
 | .FunctionDef _ _ b _ _ _ _ _ _ _=>b
 | _=>[]
noncomputable def AH (s:Stmt):Scope:=match s with
 | .FunctionDef _ _ _ _ _ _ sc _ _ _=>sc
 | _=>{ kind:=.function,names:=[],isGenerator:=false,isCoroutine:=false }
abbrev Mp:VI:=fun _ _ _ _ _ _=>False
abbrev E0:XK:=fun _ _ _=>False
theorem YR {X:Cx}:CB Mp X E0:=fun _ _ _ _ _ _ _ h=>h.elim
structure Fun (K:W.Frag) (x qual:Str) (st:Stmt) (f:Addr) (fd:FuncData):Prop where
 ex:∃ (oc:Value) (od:Option Addr) (kV doc pm:Value) (an:Option Addr) (cdv ct:Value) (osl:Array (Option Value)),
  fd=W.fnOf x qual (Ak st) (AY st) (AH st) .none kV doc pm an cdv ct/\K.lookup f=some ⟨oc,od,.func fd,osl⟩/\W.codeIn K cdv qual=true
 kp:W.keepIn K (.ref f)=true
section
variable {P:Program} {w:World} {K:W.Frag} {mg:Str->Option Value} {base:Heap}
theorem Fun.ok {x qual:Str} {st:Stmt} {f:Addr} {fd:FuncData} {N ps:List Str} {k:Nat} {sp:Sp} (F:Fun K x qual st f fd) (S:FnScope N ps (AH st)) (len:∀ vs H Q E,sp vs H Q E->vs.length=ps.length)
    (hbody:∀ (cdv:Value) (A:Around) (outer:List Env) (s:Shared) (H:Hp) (vs:List V) (Q:VK) (E:XK),Room k (A.deeper (envOfC qual (AH st) s.heap.objs.size f cdv))->sp vs H Q E ->
      ∃ t,Cq (LD Mp P w K mg base N qual (AH st) f cdv A outer s H E).nox (AY st) t/\t { nx:=fun _ H'=>Q .non H',rt:=Q } (start N vs) H):FnOk P w K mg base Mp (k+1) f fd ps sp:=by
  obtain ⟨oc,od,kV,doc,pm,an,cdv,ct,osl,rfl,lk,hcd⟩:=F.ex;refine fv lk hcd S len fun A outer s H vs Q E hr hsp=>?_
  obtain ⟨t,h,q⟩:=hbody cdv A outer s H vs Q E hr hsp;exact ⟨t,h.nox,q⟩
theorem Fun.binds {x qual:Str} {st:Stmt} {f:Addr} {fd:FuncData} {ps:List Str} (F:Fun K x qual st f fd)
    (h:∀ (kV doc pm:Value) (an:Option Addr) (cdv ct:Value) (us:List Value),us.length=ps.length->bindArgs (W.fnOf x qual (Ak st) (AY st) (AH st) .none kV doc pm an cdv ct) ⟨us,[]⟩=pure (ps.zip us)):Binds K fd ps []:=by
  obtain ⟨oc,od,kV,doc,pm,an,cdv,ct,osl,rfl,lk,hcd⟩:=F.ex;exact .all (h kV doc pm an cdv ct)
theorem TC {x qual:Str} {st:Stmt} {f:Addr} {oc:Value} {od an:Option Addr} {osl:Array (Option Value)} {kV doc pm cdv ct:Value} (l:K.lookup f=some ⟨oc,od,.func (W.fnOf x qual (Ak st) (AY st) (AH st) .none kV doc pm an cdv ct),osl⟩)
    (c:W.codeIn K cdv qual=true) (k:W.keepIn K (.ref f)=true):Fun K x qual st f (W.fnOf x qual (Ak st) (AY st) (AH st) .none kV doc pm an cdv ct):=⟨⟨oc,od,kV,doc,pm,an,cdv,ct,osl,rfl,l,c⟩,k⟩
end
section
variable {X:Cx}
theorem pv (i:Nat) {x:Str} {pos:Pos} (hN:X.N[i]?=some x:=by rfl) (hv:gu X.env.scope x:=by first | exact Or.inl rfl | exact Or.inr (Or.inl rfl) | exact Or.inr (Or.inr rfl)) (hd:(x == ("__debug__" : Str))=false:=by decide)
    (hcd:(x == ("__classdict__" : Str))=false:=by decide):PE X (.Name x pos) (Co i):=Ru hN hv hd hcd
end
def Je (H H':Hp):Prop:=∀ b o,H b=some o->H' b=some o
noncomputable def AM (sc:Scope) (x:Str):Bool:=match sc.names.lookup x with | some .cell=>true | _=>false
def Cx.inner (X:Cx) (scope:Scope) (cl:List (Str×Addr)) (C:Addr) (s:Shared) (H:Hp) (fp:List Addr):Cx:=
 { X with s₀:=s,H₀:=H,env:=compEnvC scope cl C X.env,outer:=X.stack,ex:=fp,fn:=AM scope,xe:=fun _ _=>False }
theorem Af {scope:Scope} {env:Env} {x:Str}:∀ {names:List (Str×NameKind)}, 
    ((names.map fun (n,k)=>if (k == NameKind.free && env.scope.kind == .function && env.kindOf n == some .cell) then (n,NameKind.cell) else (n,k)).lookup x=some .cell \/
     (names.map fun (n,k)=>if (k == NameKind.free && env.scope.kind == .function && env.kindOf n == some .cell) then (n,NameKind.cell) else (n,k)).lookup x=some .free) ->
    names.lookup x=some .cell\/names.lookup x=some .free
  | [],h=>by simp at h
  | (n,k)::r,h=>by
    have ih:=@Af scope env x r;cases hx:x == n with
    | true =>
      simp only [kj,lR] at h ⊢
      by_cases hc:(k == NameKind.free && env.scope.kind == .function && env.kindOf n == some .cell)=true
      · have hk:k=.free:=by
          simp only [dL,beq_iff_eq] at hc;exact hc.1.1
        right;simp [hx,hk]
      · rw [if_neg hc] at h;simp only [lR,hx] at h ⊢;exact h
    | false =>
      simp only [kj,lR] at h ⊢
      by_cases hc:(k == NameKind.free && env.scope.kind == .function && env.kindOf n == some .cell)=true
      · rw [if_pos hc] at h;simp only [lR,hx] at h ⊢;exact ih h
      · rw [if_neg hc] at h;simp only [lR,hx] at h ⊢;exact ih h
theorem Bt {env:Env} {x:Str}:∀ {names:List (Str×NameKind)}, 
    (names.map fun (n,k)=>if (k == NameKind.free && env.scope.kind == .function && env.kindOf n == some .cell) then (n,NameKind.cell) else (n,k)).lookup x=some .local ->
    names.lookup x=some .local
  | [],h=>by simp at h
  | (n,k)::r,h=>by
    have ih:=@Bt env x r;cases hx:x == n with
    | true =>
      simp only [kj,lR] at h ⊢
      by_cases hc:(k == NameKind.free && env.scope.kind == .function && env.kindOf n == some .cell)=true
      · rw [if_pos hc] at h;simp only [lR,hx] at h;cases h
      · rw [if_neg hc] at h;simp only [lR,hx] at h ⊢;exact h
    | false =>
      simp only [kj,lR] at h ⊢
      by_cases hc:(k == NameKind.free && env.scope.kind == .function && env.kindOf n == some .cell)=true
      · rw [if_pos hc] at h;simp only [lR,hx] at h ⊢;exact ih h
      · rw [if_neg hc] at h;simp only [lR,hx] at h ⊢;exact ih h
theorem HC {scope:Scope} {env:Env} (hhas:∀ x,scope.names.lookup x=some .free->∃ c,env.cells.lookup x=some c) (hnd:∀ x k,(x,k)∈scope.names->k=.free->scope.names.lookup x=some .free) :
    ∃ cl,closureFor scope env=pure cl/\(∀ x c,cl.lookup x=some c->env.cells.lookup x=some c)/\∀ x,scope.names.lookup x=some .free->∃ c,cl.lookup x=some c:=by
  have go:∀ (names:List (Str×NameKind)) (cs:List (Str×Addr)),(∀ x k,(x,k)∈names->k=.free->∃ c,env.cells.lookup x=some c)->(∀ x c,cs.lookup x=some c->env.cells.lookup x=some c) ->
      ∃ cl,(forIn names cs (fun (x:Str×NameKind) (r:List (Str×Addr))=>(if (x.2 == NameKind.free)=true then (cellOf env x.1 >>= fun c=>(pure (ForInStep.yield ((x.1,c)::r)):Sem _)) else pure (ForInStep.yield r))))=(pure cl:Sem _) /\
        (∀ x c,cl.lookup x=some c->env.cells.lookup x=some c)/\(∀ x,(cs.lookup x).isSome=true->(cl.lookup x).isSome=true)/\∀ x,(x,NameKind.free)∈names->(cl.lookup x).isSome=true:=by
    intro names
    induction names with
    | nil=>intro cs _ h2;exact ⟨cs,by simp,h2,fun _ z=>z,fun _ z=>by simp at z⟩
    | cons p r ih =>
      intro cs h1 h2;obtain ⟨n,k⟩:=p
      by_cases hk:k=.free
      · subst hk;obtain ⟨c,hc⟩:=h1 n _ kZ rfl;have hcell:cellOf env n=pure c:=by unfold cellOf;rw [hc]
        obtain ⟨cl,e,a,b,d⟩:=ih ((n,c)::cs) (fun x k hx hk=>h1 x k (kX _ hx) hk) (fun x c' hx=>by
          rw [lR] at hx;cases hxn:x == n with
          | true => rw [hxn] at hx; simp at hx; subst hx; have : x = n := by simpa using hxn
                    rw [this];exact hc
          | false=>rw [hxn] at hx;exact h2 x c' hx)
        refine ⟨cl,?_,a,fun x hx=>b x ?_,fun x hx=>?_⟩
        · rw [nG];simp only [hcell];simpa using e
        · rw [lR];cases hxn:x == n with
          | true=>rfl
          | false=>exact hx
        · rcases kh.mp hx with z | z
          · injection z with z1 _
            subst z1;exact b x (by rw [lR];simp)
          · exact d x z
      · have hb:(k == NameKind.free)=false:=by simpa using hk
        obtain ⟨cl,e,a,b,d⟩:=ih cs (fun x k hx hk=>h1 x k (kX _ hx) hk) h2;refine ⟨cl,?_,a,b,fun x hx=>?_⟩
        · rw [nG];simp only [hb];simpa using e
        · rcases kh.mp hx with z | z
          · injection z with _ z2
            exact absurd z2.symm hk
          · exact d x z
  obtain ⟨cl,e,a,_,d⟩:=go scope.names [] (fun x k hx hk=>hhas x (hnd x k hx hk)) (fun x c h=>by simp at h);refine ⟨cl,?_,a,fun x hx=>mX.mp (d x (lT hx))⟩;unfold closureFor;simpa using e
theorem Ai:∀ (names:List (Str×NameKind)) (n:Nat) (acc:List (Str×Addr)),cellsFrom n names acc=cellsFrom n names []++acc
 | [],n,acc=>by simp [cellsFrom]
 | (x,k)::r,n,acc=>by
  unfold cellsFrom;split
  ·rw [Ai r (n+1) ((x,n)::acc),Ai r (n+1) [(x,n)],lj];rfl
  ·exact Ai r n acc
theorem By {x:Str} {c:Addr}:∀ (names:List (Str×NameKind)) (n:Nat),(x,c)∈cellsFrom n names []->(x,NameKind.cell)∈names
 | [],n,h=>by simp [cellsFrom] at h
 | (y,k)::r,n,h=>by
  unfold cellsFrom at h;split at h
  ·rename_i hk;have hk:k=.cell:=by simpa using hk
   rw [Ai] at h;rcases lC.mp h with h | h
   ·exact kX _ (By r _ h)
   ·rw [lJ] at h;cases h;rw [hk];exact kZ
  ·exact kX _ (By r _ h)
theorem Bz {x:Str}:∀ (names:List (Str×NameKind)) (n:Nat),(x,NameKind.cell)∈names->∃ c,(cellsFrom n names []).lookup x=some c
 | [],n,h=>by cases h
 | (y,k)::r,n,h=>by
  unfold cellsFrom
  by_cases hr:(x,NameKind.cell)∈r
  ·split
   ·rw [Ai];obtain ⟨c,e⟩:=Bz r (n+1) hr;exact ⟨c,by rw [mN,e];rfl⟩
   ·exact Bz r n hr
  ·rcases kh.mp h with e | e
   ·cases e;simp only [beq_self_eq_true,if_true];rw [Ai];cases q:(cellsFrom (n+1) r []).lookup x with
    | some c=>exact ⟨c,by rw [mN,q];rfl⟩
    | none=>exact ⟨n,by rw [mN,q];simp⟩
   ·exact absurd e hr
theorem Ba {M:Model} {A:Around} {E:Value->Shared->Prop} {s:Shared} {scope:Scope} {globals:Addr} {closure:List (Str×Addr)} {qual:Str} {outer:Env} {Q:Env->Shared->Prop}
    (hQ:Q { scope:=scope,locals:=s.heap.objs.size,globals:=globals,cells:=cellsFrom (s.heap.objs.size+1) scope.names closure,qual:=qual,func:=none,code:=outer.code,frame:=outer.frame,builtins:=outer.builtins } { s with heap:=pushCells (s.heap.push { cls:=.type "dict", data:=.dict #[] }) scope.names }) :
    wpAny M A (newFunctionEnv scope globals closure [] qual none .none (some outer)) Q E s:=by
  simp only [newFunctionEnv,Option.isSome_some,if_true];refine wpAny_bind (wpAny_alloc ?_);refine wpAny_bind (wpAny_layCells _ (fun name kind cells=>by cases hkc:kind == NameKind.cell<;>simp [hkc]) _ _ _ _ ?_)
  rw [show ({ s with heap:=s.heap.push { cls:=.type "dict", data:=.dict #[] } }:Shared).heap.objs.size=s.heap.objs.size+1 from lq ..]
  rw [oA];exact wpAny_bind (wpAny_pure (wpAny_pure hQ))
noncomputable def innerOk (N:List Str) (sc scope:Scope) (js:List Nat):Bool:=
 (match scope.kind with | .function=>true | _=>false) &&
 scope.names.all (fun p=>(match p.2 with
  | .cell=>(match scope.names.lookup p.1 with | some .cell=>true | _=>false)
  | .local=>(match scope.names.lookup p.1 with | some .local=>true | _=>false)
  | .free=>(match scope.names.lookup p.1 with | some .free=>true | _=>false) && (match sc.names.lookup p.1 with | some .cell=>true | some .free=>true | _=>false)
  | _=>true)) &&
 (N.zipIdx.all fun p=>(match scope.names.lookup p.1 with | some .local=>js.contains p.2 | some .cell=>js.contains p.2 | _=>true))
structure InnerIn (N:List Str) (sc scope:Scope) (js:List Nat):Prop where
 kind:scope.kind=.function
 uniqC:∀ x k,(x,k)∈scope.names->k=.cell->scope.names.lookup x=some .cell
 uniqL:∀ y∈scope.names,y.2=.local->scope.names.lookup y.1=some .local
 uniqF:∀ x k,(x,k)∈scope.names->k=.free->scope.names.lookup x=some .free
 fr:∀ x,scope.names.lookup x=some .free->sc.names.lookup x=some .cell\/sc.names.lookup x=some .free
 jsl:∀ (i:Nat) x,N[i]?=some x->scope.names.lookup x=some .local\/scope.names.lookup x=some .cell->i∈js
theorem Gp {N:List Str} {sc scope:Scope} {js:List Nat} (h:innerOk N sc scope js=true):InnerIn N sc scope js:=by
  unfold innerOk at h;rw [dL,dL] at h;obtain ⟨⟨h1,h2⟩,h3⟩:=h;rw [lN] at h2 h3;refine ⟨?_,fun x k hy e=>?_,fun y hy e=>?_,fun x k hy e=>?_,fun x e=>?_,fun i x e1 e2=>?_⟩
  · cases q:scope.kind<;>rw [q] at h1<;>first | rfl | cases h1
  · have:=h2 _ hy;rw [e] at this;dsimp only at this;split at this
    · assumption
    · cases this
  · have:=h2 y hy;rw [e] at this;dsimp only at this;split at this
    · assumption
    · cases this
  · have:=h2 _ hy;rw [e] at this;dsimp only at this;rw [dL] at this;have:=this.1;split at this
    · assumption
    · cases this
  · have:=h2 _ (lT e);dsimp only at this;rw [dL] at this;have:=this.2;split at this
    · left;assumption
    · right;assumption
    · cases this
  · have hm:(x,i)∈N.zipIdx:=by
      rw [List.mem_zipIdx_iff_getElem?];exact e1
    have:=h3 _ hm;dsimp only at this;rcases e2 with e2 | e2
    · rw [e2] at this;dsimp only at this;simpa using this
    · rw [e2] at this;dsimp only at this;simpa using this
def blank (js:List Nat) (σ:St):St:=js.foldl (fun σ j=>σ.set j none) σ
theorem blank_length (js:List Nat):∀ σ:St,(blank js σ).length=σ.length:=by
 induction js with
 | nil=>intro σ;rfl
 | cons j r ih=>intro σ;unfold blank;rw [mn];have:=ih (σ.set j none);unfold blank at this;rw [this,lD]
theorem FD (js:List Nat):∀ (σ:St) (i:Nat) (v:V),(blank js σ)[i]?=some (some v)->i∉js/\σ[i]?=some (some v):=by
 induction js with
 | nil=>intro σ i v h;exact ⟨by simp,h⟩
 | cons j r ih =>
  intro σ i v h;unfold blank at h;rw [mn] at h;obtain ⟨a,b⟩:=ih (σ.set j none) i v h
  by_cases e:i=j
  ·subst e
   by_cases hl:i < σ.length
   ·rw [lO hl] at b;cases b
   ·rw [lZ (by rw [lD];omega)] at b;cases b
  ·rw [lG (Ne.symm e)] at b;exact ⟨by simp [e,a],b⟩
def OP (js:List Nat) (g:TG):Prop:=∀ x σ H Q,g x σ H Q->g x σ H fun σ2 H2=>(σ2.length=σ.length/\∀ i,i∉js->σ2[i]?=σ[i]?)/\Q σ2 H2
theorem Sy {j:Nat} {js:List Nat} (h:j∈js):OP js (Cj j):=fun x σ H Q q=>⟨⟨lD ..,fun i hi=>lG (fun (e:j=i)=>hi (e▸h))⟩,q⟩
def LU (js:List Nat) (g:Jd):Prop:=∀ x σ H Q,g x σ H Q->g x σ H fun σ2 H2=>(σ2.length=σ.length/\∀ i,i∉js->σ2[i]?=σ[i]?)/\Q σ2 H2
theorem Kl {js:List Nat}:LU js Km:=fun x σ H Q ⟨e,q⟩=>⟨e,⟨rfl,fun _ _=>rfl⟩,q⟩
theorem Ph {j:Nat} {js:List Nat} {u:Jd} (h:j∈js) (hu:LU js u):LU js (CP (Cj j) u):=by
 rintro x σ H Q ⟨v,r,e,q⟩;refine ⟨v,r,e,?_⟩;have:=hu r (σ.set j (some v)) H Q q;show u r (σ.set j (some v)) H _;have key:∀ (P P':St->Hp->Prop),(∀ a b,P a b->P' a b)->True:=fun _ _ _=>trivial
 have e2:(fun σ2 H2=>(σ2.length=(σ.set j (some v)).length/\∀ (i:Nat),i∉js->σ2[i]?=(σ.set j (some v))[i]?)/\Q σ2 H2)=(fun σ2 H2=>(σ2.length=σ.length/\∀ (i:Nat),i∉js->σ2[i]?=σ[i]?)/\Q σ2 H2):=by
  funext σ2 H2;have e3:(∀ (i:Nat),i∉js->σ2[i]?=(σ.set j (some v))[i]?)=(∀ (i:Nat),i∉js->σ2[i]?=σ[i]?):=by
   apply propext;constructor
   ·intro k i hi;rw [k i hi,lG (fun (e:j=i)=>hi (e▸h))]
   ·intro k i hi;rw [k i hi,lG (fun (e:j=i)=>hi (e▸h))]
  rw [e3,lD]
 rw [e2] at this;exact this
theorem Nk {K:W.Frag} {n:Nat} {js:List Nat} {u:Jd} (hu:LU js u):OP js (bX K n u):=by
 rintro x σ H Q ⟨a,xs,e,hq,hl,q⟩;exact ⟨a,xs,e,hq,hl,hu _ _ _ _ q⟩
section
variable {X:Cx} {pins:List (Addr×Obj)} {σ:St} {H:Hp} {s:Shared} {scope:Scope} {cl:List (Str×Addr)} {js:List Nat} {fp:List Addr} {C D:Addr}
theorem Inv.notStk (I:Inv X pins σ H s) {a:Addr} (h:s.heap.objs.size<=a):a∉frs X.stack:=fun hb=>by
 rcases kh.mp (I.stkSub a hb) with e | e
 ·exact absurd (kq I.lt (e▸h)) (mR _)
 ·exact I.nofs h e
theorem Inv.cellLt (I:Inv X pins σ H s) {x:Str} {c:Addr} (e:X.env.cells.lookup x=some c):c < s.heap.objs.size:=by
 obtain ⟨v,q⟩:=I.cell x c e;exact q.lt
theorem Inv.pinLt (I:Inv X pins σ H s) {p:Addr×Obj} (hp:p∈X.pn++pins):p.1 < s.heap.objs.size:=lB (I.pin p hp).1
structure Celz (X:Cx) (scope:Scope) (cl:List (Str×Addr)) (s:Shared) (C:Addr):Prop where
 old:∀ x c,cl.lookup x=some c->AM scope x=false->X.env.cells.lookup x=some c
 own:∀ x c,cl.lookup x=some c->AM scope x=true->s.heap.objs.size<=c/\C < c
 inj:∀ x y c,cl.lookup x=some c->cl.lookup y=some c->AM scope x=true->AM scope y=true->x=y
 fr:∀ x,scope.names.lookup x=some .free->∃ c,cl.lookup x=some c
 has:∀ x,AM scope x=true->∃ c,cl.lookup x=some c
theorem Celz.ne (L:Celz X scope cl s C) {x:Str} {c b:Addr} (e:cl.lookup x=some c) (hb:b < s.heap.objs.size) (h:∀ x c,X.env.cells.lookup x=some c->c≠b):c≠b:=by
 cases q:AM scope x with
 | false=>exact h x c (L.old x c e q)
 | true=>exact nY (kq hb (L.own x c e q).1)
theorem XE {cl0:List (Str×Addr)} (hin:InnerIn X.N X.env.scope scope js) (hcl:∀ x c,cl0.lookup x=some c->X.env.cells.lookup x=some c) (hfr:∀ x,scope.names.lookup x=some .free->∃ c,cl0.lookup x=some c)
    {h:Heap} (hC:s.heap.objs.size<=C) (hs:h.objs.size=C+1):Celz X scope (cellsFrom (C+1) scope.names cl0) s C/\∀ x c,(cellsFrom (C+1) scope.names cl0).lookup x=some c->AM scope x=true->∃ v,(pushCells h scope.names).IsCell c v:=by
  have ok:=cellsFrom_ok scope.names h (C+1) [] ⟨fun _ _ hm=>(nomatch hm),List.Pairwise.nil⟩ (by rw [hs];exact kb _);rw [hs] at ok;rw [Ai];generalize hw:cellsFrom (C+1) scope.names []=own at ok;have mem:∀ x c,own.lookup x=some c->AM scope x=true:=fun x c e=>by
    have:=hin.uniqC x _ (By scope.names (C+1) (by rw [hw];exact lT e)) rfl;unfold AM;rw [this]
  have has:∀ x,AM scope x=true->∃ c,own.lookup x=some c:=fun x e=>by
    unfold AM at e;split at e
    · rename_i q;obtain ⟨c,z⟩:=Bz scope.names (C+1) (lT q);rw [hw] at z;exact ⟨c,z⟩
    · cases e
  have yes:∀ x c,(own++cl0).lookup x=some c->AM scope x=true->own.lookup x=some c:=fun x c e q=>by
    obtain ⟨c',z⟩:=has x q;rw [mN,z] at e;rw [z];exact e
  have no:∀ x,AM scope x=false->(own++cl0).lookup x=cl0.lookup x:=fun x q=>by
    rw [mN];cases z:own.lookup x with
    | none=>rfl
    | some c=>rw [mem x c z] at q;cases q
  refine ⟨⟨fun x c e q=>hcl x c (by rw [<- no x q];exact e),fun x c e q=>?_,fun x y c e1 e2 q1 q2=>?_,fun x e=>?_,fun x q=>?_⟩,fun x c e q=>?_⟩
  · have:=(ok.empty x c (lT (yes x c e q))).2;exact ⟨kr hC (Nat.le_of_succ_le this),this⟩
  · exact PySem.name_of_addr ok.apart (lT (yes x c e1 q1)) (lT (yes y c e2 q2))
  · obtain ⟨c,z⟩:=hfr x e;exact ⟨c,by rw [no x (by unfold AM;rw [e])];exact z⟩
  · obtain ⟨c,z⟩:=has x q;exact ⟨c,by rw [mN,z];rfl⟩
  · exact ⟨none,(ok.empty x c (lT (yes x c e q))).1⟩
theorem Inv.innerOk (I:Inv X pins σ H s) (hin:InnerIn X.N X.env.scope scope js) (hf:∀ b∈fp,FpOk X pins H b) (hfe:∀ b∈fp,b < s.heap.objs.size) (hC:s.heap.objs.size<=C)
    (L:Celz X scope cl s C):(X.inner scope cl C s H fp).Ok where
  mod:=I.ok.mod
  kind:=hin.kind
  glob:=I.ok.glob
  blt:=I.ok.blt
  above:=hC
  inj:=fun x y c a b=>by
    cases hx:AM scope x<;>cases hy:AM scope y
    · exact I.ok.inj x y c (L.old x c a hx) (L.old y c b hy)
    · exact absurd (I.cellLt (L.old x c a hx)) (Nat.not_lt.mpr (L.own y c b hy).1)
    · exact absurd (I.cellLt (L.old y c b hy)) (Nat.not_lt.mpr (L.own x c a hx).1)
    · exact L.inj x y c a b hx hy
  has:=fun x h=>by
    rcases Af (scope:=scope) (env:=X.env) (names:=scope.names) h with q | q
    · exact L.has x (by unfold AM;rw [q])
    · exact L.fr x q
  cab:=fun x c h e=>(L.own x c e h).1
  hd:=I.ok.hd
  frames:=I.ok.frames
  stk:=.inl rfl
  exf:=fun b hb=>⟨lL (kq (hfe b hb) hC),fun x c e=>L.ne e (hfe b hb) (hf b hb).2.2.2.2.1⟩
  bs:=I.bs
  bsz:=kr I.ok.bsz I.sz
  noex:=fun b o e hb=>by
    rcases (hf b hb).2.2.2.1 with z | z
    · exact I.ok.noex b o e z
    · exact absurd (kq (lB e) (kr I.ok.bsz z)) (mR _)
  exfs:=fun b hb z=>by
    rcases kh.mp (I.stkSub b z) with e | e
    · exact (hf b hb).2.1 e
    · exact (hf b hb).2.2.1 e
  funs:=I.stack
  frf:=I.stkFree
theorem Inv.enter {h':Heap} {tk:Nat} {o:Obj} (I:Inv X pins σ H s) (hin:InnerIn X.N X.env.scope scope js) (hf:∀ b∈fp,FpOk X pins H b) (hfe:∀ b∈fp,b < s.heap.objs.size) (hC:s.heap.objs.size<=C) (hD:s.heap.objs.size<=D) (hDC:D≠C)
    (L:Celz X scope cl s C) (hown:∀ x c,cl.lookup x=some c->AM scope x=true->∃ v,h'.IsCell c v)
    (k:∀ b u,s.heap.get? b=some u->h'.get? b=some u) {m:Str->Option Value} (hns:h'.Ns C m) (ho:h'.get? D=some o) (hoc:∀ v,o.data≠.cell v) :
    Inv (X.inner scope cl C s H fp) (pins++[(D,o)]) (blank js σ) H { s with heap:=h',toks:=tk } where
  ok:=I.innerOk hin hf hfe hC L
  os:=rfl
  bare:=I.bare
  base:=Un.kept k
  loc:=by
    refine ⟨m,hns,fun i x v e1 e2 e3=>?_⟩;obtain ⟨hj,e2⟩:=FD js σ i v e2;have free:scope.names.lookup x=some .free:=by
      rcases e3 with q | q | q
      · exact absurd (hin.jsl i x e1 (.inl (Bt (env:=X.env) (names:=scope.names) q))) hj
      · rcases Af (scope:=scope) (env:=X.env) (names:=scope.names) (.inl q) with z | z
        · exact absurd (hin.jsl i x e1 (.inr z)) hj
        · exact z
      · rcases Af (scope:=scope) (env:=X.env) (names:=scope.names) (.inr q) with z | z
        · exact absurd (hin.jsl i x e1 (.inr z)) hj
        · exact z
    have kx:=hin.fr x free;obtain ⟨m0,hn0,hl0⟩:=I.loc;obtain ⟨u,r,l⟩:=hl0 i x v e1 e2 (kx.elim (fun z=>.inr (.inl z)) fun z=>.inr (.inr z));refine ⟨u,r,?_⟩;rcases l with ⟨z,_⟩ | ⟨_,c,hc,hcell⟩
    · have z':X.env.scope.names.lookup x=some .local:=z;rcases kx with y | y
      · rw [y] at z';cases z'
      · rw [y] at z';cases z'
    · obtain ⟨c',hc'⟩:=L.fr x free;have:c'=c:=by
        have q:=L.old x c' hc' (by unfold AM;rw [free]);rw [hc] at q;exact (Option.some.inj q).symm
      subst this;obtain ⟨oc,q1,q2⟩:=hcell;refine .inr ⟨?_,c',hc',oc,k _ _ q1,q2⟩;rcases e3 with q | q | q
      · have:=Bt (env:=X.env) (names:=scope.names) q;rw [free] at this;cases this
      · exact .inl q
      · exact .inr q
  cell:=fun x c e=>by
    cases q:AM scope x with
    | true=>exact hown x c e q
    | false =>
      obtain ⟨v,oc,q1,q2⟩:=I.cell x c (L.old x c e q);exact ⟨v,oc,k _ _ q1,q2⟩
  free:=I.hok.fresh hC
  freeC:=fun x c e=>by
    cases q:AM scope x with
    | true=>exact I.hok.fresh (L.own x c e q).1
    | false=>exact I.freeC x c (L.old x c e q)
  pin:=fun p hp=>by
    have hp':p∈X.pn++(pins++[(D,o)]):=hp;rw [<- lj] at hp';rcases lC.mp hp' with z | z
    · obtain ⟨a1,a2,a3,a4,a5⟩:=I.pin p z;refine ⟨k _ _ a1,a2,lL (kq (lB a1) hC),fun q=>?_,a5⟩;rcases kh.mp (I.stkSub p.1 q) with e | e
      · exact a3 e
      · exact a4 e
    · have e:p=(D,o):=by simpa using z
      subst e;exact ⟨ho,I.hok.fresh hD,hDC,I.notStk hD,hoc⟩
  hok:=I.hok.kept k
  len:=(blank_length js σ).trans I.len
theorem Inv.leave {Y:Cx} {H':Hp} {s':Shared} {τ:St} {pl:List (Addr×Obj)} {ys:List V} {its:List Value} {n:Nat} (I:Inv X pins σ H s) (hf:∀ b∈fp,FpOk X pins H b) (hY:Y=X.inner scope cl C s H fp) (J:Inv Y pl τ H' s') (hD:s.heap.objs.size<=D)
    (hHD:H' D=none) (hz:ys.length<=sizeLine) (hv:AC ys its) (ho:s'.heap.get? D=some { cls:=.type "list", data:=.seq its.toArray n }) :
    Inv X pins σ (upd H' D (.lst ys)) s':=by
  subst hY;have un:Un (frs X.stack) fp H H' s.heap s'.heap:=J.base;have ne:∀ {b:Addr} {o:Obj},s.heap.get? b=some o->b≠D:=fun e=>lL (kq (lB e) hD)
  have nH:∀ {b:Addr} {o:HO},H' b=some o->b≠D:=fun e z=>by rw [z,hHD] at e;cases e
  have un':Un (frs X.stack) fp H (upd H' D (.lst ys)) s.heap s'.heap:=
    ⟨un.keep,un.slot,fun b o e n' hx=>by rw [AD (ne e)];exact un.free b o e n' hx,un.there,fun b xs e=>by have:=un.tups b xs e;rw [AD (nH this)];exact this,
      fun b o u e=>by have:=un.frzs b o u e;rw [AD (nH this)];exact this,fun b ps e=>by obtain ⟨more,q⟩:=un.tbls b ps e;exact ⟨more,by rw [AD (nH q)];exact q⟩⟩
  have hok:DX X.prog X.w (upd H' D (.lst ys)) s'.heap:=fun b u e=>by
    by_cases hb:b=D
    · subst hb;rw [AF] at e;cases e;exact ⟨hz,its,n,hv,ho⟩
    · rw [AD hb] at e;exact (J.hok b u e).stay (fun _ _ _ q=>q) (fun c q=>by rw [AD (nH q)];exact q) fun c xs q=>by rw [AD (nH q)];exact q
  exact I.call' J.os un' hok J.bare fun b hb=>by
    obtain ⟨_,f1,_,f3,f4,f5⟩:=hf b hb;exact ⟨f3,f1,f4,f5⟩
end
section
end
section
end
section
variable {X:Cx}
def eB:V->Option Int->Option Int->Hp->VK->Prop:=fun x lo hi H Q=>∃ z,x=.str z/\z.length<=sizeLine/\Q (.str (Txt.slice z lo hi)) H
theorem Ze:Qa X eB:=by
 intro pins s σ H x v vl vu lo hi sl Q I rx hs pl pu h;obtain ⟨z,rfl,hz,q⟩:=h;obtain ⟨t,rfl⟩:=rx;have fin:∀ t' k,EP X pins σ Q (.str (Txt.slice z lo hi) t') { s with toks:=k }:=fun t' k=>⟨.str _,H,I.tok k,⟨_,rfl⟩,q⟩
 refine ⟨"str", _,F.slot_str_getitem.lookup,typeIs_str _ _ _,?_⟩
 obtain ⟨o,e1,e2,e3⟩:=hs;cases pl with
 | none =>
  cases pu with
  | none=>exact wpAny_getItem_str_slice (l:=none) (u:=none) (st:=none) ⟨o,e1,e2,e3⟩ rfl (post_val_or_str ⟨kr (Txt.slice_le z _ _) hz,fin⟩)
  | int j uj=>exact wpAny_getItem_str_slice (l:=none) (u:=some (j,uj)) (st:=none) ⟨o,e1,e2,e3⟩ rfl (post_val_or_str ⟨kr (Txt.slice_le z _ _) hz,fin⟩)
 | int i ui =>
  cases pu with
  | none=>exact wpAny_getItem_str_slice (l:=some (i,ui)) (u:=none) (st:=none) ⟨o,e1,e2,e3⟩ rfl (post_val_or_str ⟨kr (Txt.slice_le z _ _) hz,fin⟩)
  | int j uj=>exact wpAny_getItem_str_slice (l:=some (i,ui)) (u:=some (j,uj)) (st:=none) ⟨o,e1,e2,e3⟩ rfl (post_val_or_str ⟨kr (Txt.slice_le z _ _) hz,fin⟩)
theorem Lh {ys:List Str}:∀ {us:List Value},AC (ys.map V.str) us->StrsAre us ys:=by
 induction ys with
 | nil=>intro us r;rw [mq] at r;cases r;exact .nil
 | cons n ns ih =>
  intro us r;rw [kj] at r;cases r with
  | cons r1 r2 =>
   obtain ⟨t,e⟩:=r1;subst e;exact .cons n t (ih r2)
def Rb (K:W.Frag):V->List V->Hp->VK->Prop:=fun x vs H Q=>∃ sep l ys,x=.str sep/\vs=[.ref l]/\Cm K H l (ys.map V.str)/\(ys.map (·.length)).sum+ys.length * sep.length<=16777216/\Q (.str (Txt.join sep ys)) H
theorem Wg:cg X "str.join" (Rb X.K):=by
 intro pins s σ H x vs v us Q I rx rv h;obtain ⟨sep,l,ys,rfl,rfl,hl,hz,q⟩:=h;obtain ⟨t,rfl⟩:=rx;obtain ⟨u,rfl,ru⟩:=rv.one;cases ru;obtain ⟨its,r,p,_⟩:=I.list hl;exact join_list p.isList (by simpa using Lh r) hz fun t' k=>⟨.str _,H,I.tok k,⟨_,rfl⟩,q⟩
end
structure Fx (P:Program) (w:World) (K:W.Frag) (mg:Str->Option Value) (base:Heap) (k:Nat) (x:Str) (ps:List Str) (sp:Sp):Prop where
 ex:∃ (f:Addr) (fd:FuncData),FnOk P w K mg base Mp k f fd ps sp/\mg x=some (.ref f)/\W.keepIn K (.ref f)=true/\Binds K fd ps []
section
variable {X:Cx} {k j:Nat} {x:Str} {ps:List Str} {sp:Sp} {p pos:Pos} {e:Expr} {es:List Expr} {t:TA}
abbrev iD (sp:Sp) (t:TA):TE:=fun σ H Q=>t σ H fun vs H1=>sp vs H1 Q E0
theorem YQ (F:Fx X.prog X.w X.K X.mg X.base k x ps sp) (hr:Room j X.A) (hkj:k<=j) (hg:Gl X x) (ha:PA X (e::es) t) (hdb:(x == ("__debug__" : Str))=false:=by decide)
    (he:starEach (e::es) X.env=(false,eval e X.env)::starEach es X.env:=by rfl) (hpl:(backTo pos (starEach es X.env)).any (·.1)=false:=by rfl):PE X (.Call (.Name x p) (e::es) [] pos) (iD sp t):=by
  obtain ⟨f,fd,G,hm,hk,hb⟩:=F.ex;have q:=WQ (p:=p) (pos:=pos) G (hr.mono hkj) hg hm hk hb .nil YR ha hdb he hpl;intro pins s σ H Q I h;refine q pins s σ H Q I ?_;show t σ H fun vs H1=>sp (vs++[]) H1 Q E0
  have e2:(fun (vs:List V) (H1:Hp)=>sp (vs++[]) H1 Q E0)=(fun vs H1=>sp vs H1 Q E0):=by
    funext vs H1;rw [lX]
  rw [e2];exact h
theorem Ry (F:Fx X.prog X.w X.K X.mg X.base k x ps sp) (hr:Room j X.A) (hkj:k<=j) (hg:Gl X x) (hdb:(x == ("__debug__" : Str))=false:=by decide):PE X (.Call (.Name x p) [] [] pos) (iD sp OW):=by
 obtain ⟨f,fd,G,hm,hk,hb⟩:=F.ex;have q:=SB (p:=p) (pos:=pos) G (hr.mono hkj) hg hm hk hb .nil YR hdb;intro pins s σ H Q I h;exact q pins s σ H Q I h
end
section
variable {X:Cx}
def eS:R2:=fun x y H Q=>∃ i j,x=.str i/\y=.str j/\i.length+j.length<=sizeLine/\Q (.str (i++j)) H
def KQ (K:W.Frag):R2:=fun x y H Q=>(Rc fun i j=>.int (i+j)) x y H Q\/eS x y H Q\/eQ x y H Q\/YN K x y H Q
theorem Wc:Bq X (binaryOp .Add) (KQ X.K):=aq.or (MA.or (ak.or WZ))
theorem VA {K:W.Frag} {i j:Int} {H:Hp} {Q:VK} (q:Q (.int (i+j)) H):KQ K (.int i) (.int j) H Q:=.inl ⟨i,j,rfl,rfl,q⟩
theorem Uy {K:W.Frag} {i j:Str} {H:Hp} {Q:VK} (h:i.length+j.length<=1000000) (q:Q (.str (i++j)) H):KQ K (.str i) (.str j) H Q:=.inr (.inl ⟨i,j,rfl,rfl,kr h (by decide),q⟩)
theorem Uz {K:W.Frag} {a b:Addr} {xs ys:List V} {H:Hp} {Q:VK} (ha:H a=some (.lst xs)) (hb:H b=some (.lst ys)) (h:xs.length+ys.length<=1000000) (q:∀ p,H p=none->Q (.ref p) (upd H p (.lst (xs++ys)))):KQ K (.ref a) (.ref b) H Q:=
 .inr (.inr (.inl ⟨a,b,xs,ys,rfl,rfl,ha,hb,kr h (by decide),q⟩))
theorem Vl {K:W.Frag} {p:Addr} {xs:List V} {i:Int} {v:V} {H:Hp} {Q:VK} (h:H p=some (.lst xs)) (e:Dm xs i=some v) (q:Q v H):Zu K (.ref p) (.int i) H Q:=.inl ⟨p,xs,i,v,rfl,rfl,.inl (.inl h),e,q⟩
theorem Zs {K:W.Frag} {p:Addr} {xs:List V} {i:Int} {v:V} {H:Hp} {Q:VK} (h:Cm K H p xs) (e:Dm xs i=some v) (q:Q v H):Zu K (.ref p) (.int i) H Q:=.inl ⟨p,xs,i,v,rfl,rfl,h,e,q⟩
theorem Vk {K:W.Frag} {z:Str} {i:Int} {c:Nat} {H:Hp} {Q:VK} (h:z.length<=1000000) (e:Dm z.cps.toList i=some c) (q:Q (.str ⟨#[c]⟩) H):Zu K (.str z) (.int i) H Q:=.inr (.inr ⟨z,i,c,rfl,rfl,kr h (by decide),e,q⟩)
theorem bV:ON X (Zu X.K):=bU
def RZ (K:W.Frag):V->Option Int->Option Int->Hp->VK->Prop:=fun x lo hi H Q=>eB x lo hi H Q\/eC K x lo hi H Q\/eA K x lo hi H Q
theorem Zg:Qa X (RZ X.K):=Ze.or (Ve.or Zc)
theorem Vb {K:W.Frag} {z:Str} {lo hi:Option Int} {H:Hp} {Q:VK} (h:z.length<=1000000) (q:Q (.str (Txt.slice z lo hi)) H):RZ K (.str z) lo hi H Q:=.inl ⟨z,rfl,kr h (by decide),q⟩
theorem RL {K:W.Frag} {a:Addr} {xs:List V} {lo hi:Option Int} {H:Hp} {Q:VK} (h:Cm K H a xs) (q:∀ p,H p=none->Q (.ref p) (upd H p (.lst (ES xs lo hi)))):RZ K (.ref a) lo hi H Q:=.inr (.inl ⟨a,xs,rfl,h,q⟩)
theorem Vc {K:W.Frag} {a:Addr} {xs:List V} {lo hi:Option Int} {H:Hp} {Q:VK} (h:H a=some (.lst xs)) (q:∀ p,H p=none->Q (.ref p) (upd H p (.lst (ES xs lo hi)))):RZ K (.ref a) lo hi H Q:=RL (.inl (.inl h)) q
theorem Vg:HZ X Ra:=set_list
def Ol (K:W.Frag):List V->Hp->VK->Prop:=fun xs H Q=>∃ x n,xs=[x]/\gw K x H n/\Q (.int n) H
theorem QE:BD X (.builtin "len") (Ol X.K):=UH
theorem PR {K:W.Frag} {z:Str} {H:Hp} {Q:VK} (h:z.length<=1000000) (q:Q (.int z.length) H):Ol K [.str z] H Q:=⟨_,_,rfl,⟨kr h (by decide),rfl⟩,q⟩
theorem Sd {K:W.Frag} {p:Addr} {xs:List V} {H:Hp} {Q:VK} (h:Cm K H p xs) (q:Q (.int xs.length) H):Ol K [.ref p] H Q:=⟨_,_,rfl,.inl ⟨xs,h,rfl⟩,q⟩
theorem Wl {K:W.Frag} {p:Addr} {xs:List V} {H:Hp} {Q:VK} (h:H p=some (.lst xs)) (q:Q (.int xs.length) H):Ol K [.ref p] H Q:=Sd (.inl (.inl h)) q
end
theorem Bf {H:Hp} {p:Addr} (h:H p=none) (o:HO):Je H (upd H p o):=fun b u q=>by rw [AD (BN q h)];exact q
section
variable {X:Cx}
theorem ij (K:W.Frag) (h:X.K=K:=by rfl):ON X (Zu K):=by subst h;exact bV
theorem QC (K:W.Frag) (h:X.K=K:=by rfl):BD X (.builtin "len") (Ol K):=by subst h;exact QE
theorem SV (K:W.Frag) (h:X.K=K:=by rfl):cg X "str.join" (Rb K):=by subst h;exact Wg
def KJ (K:W.Frag):List V->Hp->VK->Prop:=fun xs H Q=>∃ p ys,xs=[.ref p]/\((Cm K H p ys/\∀ l,H l=none->Q (.ref l) (upd H l (.tup ys)))\/(DW K H p ys/\Q (.ref p) H))
theorem LI (K:W.Frag) (h:X.K=K:=by rfl):BD X (.type "tuple") (KJ K):=by subst h;exact HU
end
noncomputable def tx (l:List Nat):Str:=⟨l.toArray⟩
theorem Mx (l:List Nat):(tx l).cps.toList=l:=by simp [tx]
theorem BJ (l:List Nat):(tx l).length=l.length:=by simp [tx,Str.length]
theorem LZ (a b:List Nat):tx a++tx b=tx (a++b):=by
 show (⟨(tx a).cps++(tx b).cps⟩:Str)=_;simp [tx]
theorem ZN {a b:List Nat} (h:tx a=tx b):a=b:=by
 have:=congrArg (fun z:Str=>z.cps.toList) h;simpa [tx] using this
def MZ (l:List Nat) (lo hi:Option Int):List Nat:=(l.drop (HT.sIx l.length 0 lo)).take (HT.sIx l.length l.length hi - HT.sIx l.length 0 lo)
theorem Ro (l:List Nat) (a k:Nat) (h:a+k<=l.length):((List.range k).map fun j=>a+j).filterMap (fun i=>l[i]?)=(l.drop a).take k:=by
  apply List.ext_getElem?;intro i
  by_cases hi:i < k
  · rw [oC hi,List.getElem?_drop];have e:(List.map (fun j=>a+j) (List.range k)).filterMap (fun i=>l[i]?)=(List.range k).map fun j=>l[a+j]!:=by
      rw [nS];rw [show (fun i=>l[i]?)∘(fun j=>a+j)=fun j=>l[a+j]? from rfl];have:∀ (r:List Nat),(∀ j∈r,a+j < l.length)->r.filterMap (fun j=>l[a+j]?)=r.map fun j=>l[a+j]!:=by
        intro r
        induction r with
        | nil=>intro _;rfl
        | cons x r ih =>
          intro hx;have hxl:=hx x kZ;rw [mK,kT hxl,kj,ih fun j hj=>hx j (kX _ hj)];simp [hxl]
      exact this _ fun j hj=>by have:=mU.mp hj;omega
    rw [e,km,mC hi];have hl:a+i < l.length:=by omega
    simp [hl]
  · have e1:(((List.range k).map fun j=>a+j).filterMap (fun i=>l[i]?)).length<=k:=kr (List.length_filterMap_le _ _) (by simp);rw [lZ (by omega),lZ (by rw [mW];omega)]
theorem cl (i:Int) (n:Nat):max 0 (min (if i < 0 then i+(n:Int) else i) (n:Int))=(((if i < 0 then (i+(n:Int)).toNat else min i.toNat n):Nat):Int):=by
 by_cases h:i < 0
 ·simp only [h,if_true];omega
 ·simp only [h,if_false];omega
theorem Ql (l:List Nat) (lo hi:Option Int):Txt.slice (tx l) lo hi=tx (MZ l lo hi):=by
 have hlen:(tx l).length=l.length:=BJ l;have key:Builtin.Str.strSliceIndices lo hi 1 l.length=(List.range (HT.sIx l.length l.length hi - HT.sIx l.length 0 lo)).map fun j=>HT.sIx l.length 0 lo+j:=by
  have key0:Builtin.Str.strSliceIndices lo hi 1 l.length=sliceRange ((HT.sIx l.length 0 lo:Nat):Int) ((HT.sIx l.length l.length hi:Nat):Int) 1:=by
   unfold Builtin.Str.strSliceIndices;rcases lo with _ | i<;>rcases hi with _ | j<;>simp only [show (1:Int) > 0 by decide,if_true,HT.sIx,cl,Int.natCast_zero]<;>rfl
  rw [key0];unfold sliceRange;simp only [show (1:Int) > 0 by decide,if_true];generalize HT.sIx l.length 0 lo=a;generalize HT.sIx l.length l.length hi=b;have Jh:(if (a:Int) < (b:Int) then ((b:Int) - (a:Int)+1 - 1) / 1 else 0).toNat=b - a:=by
   split<;>omega
  rw [Jh];apply List.map_congr_left;intro j _;omega
 have hle:HT.sIx l.length l.length hi<=l.length:=HT.sIx_le _ _ (kb _) _;have hlo:HT.sIx l.length 0 lo<=l.length:=HT.sIx_le _ _ (lg _) _;unfold Txt.slice;rw [hlen,key];unfold MZ;generalize HT.sIx l.length 0 lo=a at *;generalize HT.sIx l.length l.length hi=b at *;have e2:(List.map (fun j=>a+j) (List.range (b - a))).filterMap (fun i=>(tx l).cps[i]?)=(l.drop a).take (b - a):=by
  have e3:(fun i:Nat=>(tx l).cps[i]?)=fun i=>l[i]?:=by funext i;simp [tx]
  rw [e3]
  by_cases hab:a<=b
  ·exact Ro l a (b - a) (by omega)
  ·have:b - a=0:=by omega
   rw [this];simp
 split
 ·rename_i hc;simp only [lK,List.length_range,dL,beq_iff_eq] at hc;have h0:a=0:=by omega
  have h1:b=l.length:=by omega
  subst h0 h1;simp
 ·rw [e2];rfl
def small (c:Nat):Prop:=97<=c/\c<=122
theorem eqV_str (a b:List Nat):eqV (.str (tx a)) (.str (tx b))=decide (a=b):=by
 unfold eqV
 by_cases h:a=b
 ·subst h;simp
 ·rw [decide_eq_false h];have:tx a≠tx b:=fun e=>h (ZN e)
  simpa using this
section
variable {X:Cx}
def eO (K:W.Frag):List V->Hp->VK->Prop:=fun xs H Q=>∃ x T t b,xs=[x,.ty T]/\TyOf K H x t/\W.kitOne K t (.type T)=some b/\Q (.bl b) H
theorem QG (K:W.Frag) (hK:X.K=K:=by rfl):BD X (.builtin "isinstance") (eO K):=by
 subst hK;intro pins s σ H xs us Q I r h;obtain ⟨x,T,t,b,rfl,ty,e,q⟩:=h;obtain ⟨u,v,rfl,ru,rv⟩:=r.two;cases rv;exact PZ I ru ty e fun tk=>⟨.bl b,H,I.tok tk,rfl,q⟩
theorem AC.get':∀ {xs:List V} {us:List Value} {i:Nat} {u:Value},AC xs us->us[i]?=some u->∃ x,xs[i]?=some x/\RelV x u
 | _,_,_,_,.nil,e=>by simp at e
 | _,_,0,_,.cons r _,e=>by simp at e;subst e;exact ⟨_,rfl,r⟩
 | _,_,i+1,u,.cons _ t,e=>by
  obtain ⟨x,h1,h2⟩:=AC.get' (i:=i) (u:=u) t (by simpa using e);exact ⟨x,by simpa using h1,h2⟩
def eR (K:W.Frag):List V->Hp->VK->Prop:=fun xs H Q=>∃ (p:Addr) (bs:List Bool),xs=[.ref p]/\Cm K H p (bs.map V.bl)/\Q (.bl (bs.all id)) H
theorem Xe {bs:List Bool} {us:List Value} (r:AC (bs.map V.bl) us) {i:Nat} {v:Value} (e:us[i]?=some v):∃ b,bs[i]?=some b/\v=.bool b:=by
 obtain ⟨x,e1,e2⟩:=r.get' e;rw [km] at e1;cases q:bs[i]? with
 | none=>rw [q] at e1;cases e1
 | some b =>
  rw [q] at e1;have:V.bl b=x:=Option.some.inj e1;subst this;exact ⟨b,rfl,e2⟩
theorem GT:∀ bs:List Bool,((List.range bs.length).all fun i=>(bs[i]?).getD true)=bs.all id
 | []=>rfl
 | b::bs=>by
  rw [ki,ma,lW,List.all_map,lW];have ih:=GT bs;rw [<- ih];rfl
theorem av {h h':Heap} {o:Obj} (hk:∀ b x,b∉[h.objs.size]->(h.push o).get? b=some x->h'.get? b=some x):∀ b x,h.get? b=some x->h'.get? b=some x:=
 fun b x e=>hk b x (fun hm=>by rw [lJ.mp hm] at e;exact mR _ (lB e)) (kW _ e)
theorem QK (K:W.Frag) (hK:X.K=K:=by rfl) (hc:X.calm=true:=by rfl):BD X (.builtin "all") (eR K):=by
  subst hK;intro pins s σ H xs us Q I r h;obtain ⟨p,bs,rfl,hp,q⟩:=h;obtain ⟨u,rfl,rx⟩:=vals1 r;cases rx;obtain ⟨its,rv,pl,hz⟩:=I.list hp;have hl:=pl.isList;have hlt:p < s.heap.objs.size:=by obtain ⟨_,e,_⟩:=hl;exact lB e
  refine call_all_walk (wpAny_pyIter_list hl ?_);refine ⟨s.heap.objs.size,[s.heap.objs.size,p],[s.heap.objs.size],its.toArray.size,_,_,fun i=>(bs[i]?).getD true,rfl,Walks.list (A:=X.A.in1) (I.ok.hd hc) _ p (lL hlt) its.toArray,
    ⟨⟨_,lA _ rfl,rfl,rfl⟩,hl.push _⟩,fun i v s' Q' E' hP hQ=>?_,fun h' tk hk=>?_⟩
  · obtain ⟨b,e,rfl⟩:=Xe rv (i:=i) (v:=v) (by simpa using hP);simp only [e,Option.getD_some] at hQ;exact wpAny_truthy_bool hQ
  · have e:((List.range its.toArray.size).all fun i=>(bs[i]?).getD true)=bs.all id:=by
      rw [kY,<- rv.length,lK];exact GT bs
    rw [e];exact ⟨.bl _,H,I.kept (av hk),rfl,q⟩
def eqVs:List V->List V->Bool
 | [],[]=>true
 | x::xs,y::ys=>eqV x y && eqVs xs ys
 | _,_=>false
def dz (K:W.Frag):V->Option Int->Option Int->Hp->VK->Prop:=fun x lo hi H Q=>∃ a xs,x=.ref a/\DW K H a xs/\(HT.sIx xs.length 0 lo=0/\HT.sIx xs.length xs.length hi=xs.length)/\Q (.ref a) H
theorem Vd:Qa X (dz X.K):=by
 intro pins s σ H x v vl vu lo hi sl Q I rx hs pl pu h;obtain ⟨a,xs,rfl,hx,hw,q⟩:=h;cases rx;obtain ⟨its,r,ht,hz⟩:=I.tuple hx;have hlen:its.toArray.size=xs.length:=by rw [kY];exact r.length.symm
 refine ⟨"tuple", _,lP.lookup,ht.typeIs,?_⟩
 obtain ⟨os,hos,hcs,hds⟩:=id hs
 have hTs:s.TypeIs (.ref sl) "slice" := ⟨os,hos,hcs⟩
 unfold getItem
 try with_reducible refine wpAny_holding ?_
 first | refine wpAny_bind (wpAny_pure ?_) | skip
 refine wpAny_bind (wpAny_sequenceKey ht.typeIs (by decide) ?_)
 refine wpAny_bind (wpAny_callSpecial?_slot (name:=Str.ofString "__getitem__") ht.typeIs lP
  (wpAny_call_entry lP ht.typeIs entry_tuple_getitem ?_ (args_tuple_getitem _ _)))
 show wpAny _ _ (Builtin.Tuple.tupleItemsOf (.ref a) >>= _) _ _ s;refine wpAny_bind (tupleItemsOf_ ht ?_);refine wpAny_bind (wpAny_typeOf hTs ?_);rw [if_pos (by decide)];refine wpAny_bind (HT.sliceApplied_gen hs pl pu ?_);have hyes:((((HT.sIx its.toArray.size 0 lo:Nat):Int) == 0 && (1:Int) == 1 && (HT.sIx its.toArray.size its.toArray.size hi - HT.sIx its.toArray.size 0 lo) == its.toArray.size)=true):=by
  rw [hlen,hw.1,hw.2];simp
 show wpAny _ _ (if (((HT.sIx its.toArray.size 0 lo:Nat):Int) == 0 && (1:Int) == 1 && (HT.sIx its.toArray.size its.toArray.size hi - HT.sIx its.toArray.size 0 lo) == its.toArray.size)=true then _ else _) _ _ s;rw [if_pos hyes];have fin:EP X pins σ Q (.ref a) s:=⟨.ref a,H,I,rfl,q⟩;refine wpAny_bind (m:=Builtin.Tuple.tupleIsExact (Value.ref a)) ?_;unfold Builtin.Tuple.tupleIsExact;refine wpAny_bind (wpAny_typeOf ht.typeIs (wpAny_pure ?_));rw [if_pos (by decide)];exact wpAny_bind (wpAny_rule (wpAny_pure ⟨_,rfl,wpAny_pure fin⟩))
end
section
variable {X:Cx} {pins:List (Addr×Obj)} {σ:St} {H:Hp} {s:Shared} {A:Around} {E:Value->Shared->Prop} {Q:Value->Shared->Prop} {b:Bool}
theorem MP {x:V} {u t:Value} {tp:Addr} {dd:Option Addr} {its:List Value} {n:Nat} {sl:Array (Option Value)} (I:Inv X pins σ H s) (rx:RelV x u) (ty:TyOf X.K H x t) (hT:∃ T,t=.type T/\T ≠ "float" /\ T ≠ "dict") (htp:s.heap.get? tp=some ⟨.type "tuple", dd,.seq its.toArray n,sl⟩) (e:W.kitAny X.K t its=some b) (h:∀ tk,Q (.bool b) { s with toks:=tk }) :
    wpAny (model X.prog X.w) A (call (.builtin "isinstance") [u,.ref tp]) Q E s:=by
  obtain ⟨T,eT,n1,n2⟩:=hT;cases ty with
  | non=>cases (show u=Value.none from rx);exact W.kia_tup W.kitx_none I.kIn True.intro htp e (fun z=>nomatch z) h
  | bl y=>cases (show u=Value.bool y from rx);exact W.kia_tup W.kitx_bool I.kIn True.intro htp e (fun z=>nomatch z) h
  | int i=>obtain ⟨t,q⟩:=(show ∃ t,u=Value.int i t from rx);cases q;exact W.kia_tup W.kitx_int I.kIn True.intro htp e (fun z=>nomatch z) h
  | str y=>obtain ⟨t,q⟩:=(show ∃ t,u=Value.str y t from rx);cases q;exact W.kia_tup W.kitx_str I.kIn True.intro htp e (fun z=>nomatch z) h
  | flt y=>cases eT;exact absurd rfl n1
  | @lst a xs ea =>
    cases (show u=Value.ref a from rx);obtain ⟨_,_,n,_,h1⟩:=(show Aa X.prog X.w H s.heap a (.lst xs) from I.hok a _ ea);exact W.kia_tup W.kitx_list I.kIn ⟨_,h1,rfl⟩ htp e (fun z=>nomatch z) h
  | @frz a ob xs ea =>
    cases (show u=Value.ref a from rx);obtain ⟨_,_,_,n,_,h1⟩:=(show Aa X.prog X.w H s.heap a (.frz ob (.lst xs)) from I.hok a _ ea);exact W.kia_tup W.kitx_list I.kIn ⟨_,h1,rfl⟩ htp e (fun z=>nomatch z) h
  | @tup a xs ea =>
    cases (show u=Value.ref a from rx);obtain ⟨_,_,_,p⟩:=(show Aa X.prog X.w H s.heap a (.tup xs) from I.hok a _ ea);obtain ⟨o,h1,h2,_⟩:=p;exact W.kia_tup W.kitx_tuple I.kIn ⟨o,h1,h2⟩ htp e (fun z=>nomatch z) h
  | @dK a kvs ea=>cases eT;exact absurd rfl n2
  | @dT a kvs ea=>cases eT;exact absurd rfl n2
  | @ins a C dx fs ea cl ha hn htk hm=>cases eT
theorem Jp:∀ {Ts:List String} {us:List Value},AC (Ts.map V.ty) us->us=Ts.map Value.type
 | [],_,.nil=>rfl
 | T::Ts,_,.cons r q=>by rw [Jp q];cases r;rfl
def YL (K:W.Frag):List V->Hp->VK->Prop:=fun xs H Q=>∃ x p,∃ (Ts:List String),∃ t b,xs=[x,.ref p]/\DW K H p (Ts.map V.ty)/\TyOf K H x t/\(∃ T,t=.type T/\T ≠ "float" /\ T ≠ "dict")/\W.kitAny K t (Ts.map Value.type)=some b/\Q (.bl b) H
theorem QF:BD X (.builtin "isinstance") (YL X.K):=by
 intro pins s σ H xs us Q I r h;obtain ⟨x,p,Ts,t,b,rfl,hp,ty,hT,e,q⟩:=h;obtain ⟨u,v,rfl,ru,rv⟩:=r.two;cases rv;obtain ⟨its,rv,pl,_⟩:=I.tuple hp;rw [Jp rv] at pl;obtain ⟨o,h1,h2,n,h3⟩:=pl;obtain ⟨cls,dd,dat,sl⟩:=o;cases h2;cases h3;exact MP I ru ty hT h1 e fun tk=>⟨.bl b,H,I.tok tk,rfl,q⟩
end
end L2
namespace L2
open PySem PySem.Spec PyProof.Rows PySem.SeqAt
theorem HQ (l:Addr) (items:Array Value) (n:Nat) (dd:Option Addr) (sl:Array (Option Value)) (x:Value) (e:Value->Bool) (j:Nat) (hj:j < items.size) 
    (hit:e items[j]=true) (hno:∀ m (hm:m < items.size),m < j->e items[m]=false) :
    Meets (Builtin.«tuple.index» ⟨[.ref l,x],[]⟩)
      (fun A R s=>s.heap.get? l=some { cls:=.type "tuple", dict:=dd,data:=.seq items n,slots:=sl }/\(∀ y,y∈items->EqAt A.in1 s y x (e y))/\R (.ok (.ret (.int j s.toks))) { s with toks:=s.toks+1 }):=
  .of_wp fun prog w A R s h=>by
    obtain ⟨hp,g,d,tk,os⟩:=s;obtain ⟨hl,he,h⟩:=h;have f2:=AutoSeq1.sub_tuple_tuple
    wp_walk using wpAny_loadPart' hl
    let f:Nat->(Option Fin×Unit)->Sem (ForInStep (Option Fin×Unit)):=fun i __s =>
            match items[i]? with
            | some y=>do
              let __do_lift <- eqBool y x
              if __do_lift=true then do
                  let __do_lift <- retInt ↑i
                  pure (ForInStep.done (some __do_lift,()))
                else pure (ForInStep.yield (none,()))
            | x=>pure (ForInStep.yield (none,()))
    have key:wpAny (model prog w) A.in1 (forIn [:min items.size items.size] ((none,()):Option Fin×Unit) f) (fun a s' =>
      wpAny (model prog w) A.in1
        (match a.fst with
        | some r=>pure r
        | none=>do
          rule "tuple.index.not-found"
          raiseErrorWords "ValueError" "tuple.index(x): x not in tuple")
        (fun fin s'=>∃ v,fin=Fin.done (Flow.ret v)/\R (Except.ok (Flow.ret v)) s')
        (fun e s'=>R (Except.error e) s') s') (fun e s'=>R (Except.error e) s') { heap:=hp,gens:=g,drawn:=d,toks:=tk,os:=os }:=by
      rw [Std.Legacy.Range.forIn_eq_forIn_range'];simp only [Std.Legacy.Range.size,Nat.sub_zero,Nat.add_sub_cancel,Nat.div_one,nZ];refine wpAny_forIn_list _ (fun rest b s'=>b=(none,())/\s'=⟨hp,g,d,tk,os⟩/\∃ i,rest=List.range' i (items.size - i)/\i<=j) _ ?_ ?_ _ _ ⟨rfl,rfl,0,by simp,lg _⟩
      · rintro y rest b s' ⟨hb,rfl,i,hr,hi⟩;have hlt:i < items.size:=by omega
        obtain ⟨hy,hrest⟩:y=i/\rest=List.range' (i+1) (items.size - (i+1)):=by
          have e:items.size - i=(items.size - (i+1))+1:=by omega
          rw [e,List.range'_succ] at hr;injection hr with h1 h2
          exact ⟨h1,h2⟩
        subst hy;show wpAny _ _ (match items[y]? with
            | some z=>do
              let __do_lift <- eqBool z x
              if __do_lift=true then do
                  let __do_lift <- retInt ↑y
                  pure (ForInStep.done (some __do_lift,()))
                else pure (ForInStep.yield (none,()))
            | x=>pure (ForInStep.yield (none,()))) _ _ _
        rw [Array.getElem?_eq_getElem hlt];refine wpAny_bind (he _ (Array.getElem_mem hlt) prog w _ _ ?_)
        by_cases hyj:y=j
        · subst hyj;rw [hit]
          wp_walk
          exact ⟨_,rfl,h⟩
        · rw [hno y hlt (by omega)]
          wp_walk
          exact ⟨rfl,rfl,y+1,hrest,by omega⟩
      · rintro b s' ⟨hb,rfl,i,hr,hi⟩;have:(List.range' i (items.size - i)).length=0:=by rw [<- hr];rfl
        rw [List.length_range'] at this;omega
    refine cast ?_ key;congr 1;funext a s';obtain ⟨a1,a2⟩:=a;cases a1 with
    | none=>rfl
    | some r=>rfl
section
variable {X:Cx}
def iX (r:V->List V->Hp->VK->Prop) (to:TE) (t:TA):TE:=fun σ H Q=>to σ H fun x H1=>(∃ p xs,x=.ref p/\H1 p=some (.tup xs))/\t σ H1 fun xs H2=>r x xs H2 Q
theorem eh {o e:Expr} {es:List Expr} {to:TE} {t:TA} {name:Str} {apos cpos:Pos} {id:String} {r:V->List V->Hp->VK->Prop} (pa:PlainAttrs "tuple") (slot:Slot "tuple" name id) (hty:typeOf (.builtin id)=pure (.type "method_descriptor")) (hm:Qb X id r) (ho:PE X o to) (ha:PA X (e::es) t)
    (hbase:attributeBase o name X.env (eval o X.env)=eval o X.env:=by rfl)
    (hfew:((backTo cpos (starEach (e::es) X.env)).all (fun x=>!x.1) && (backToKw cpos (keywordEach [] X.env)).all (fun x=>x.1.isSome)
      && decide ((e::es).length+([]:List Keyword).length+(if ([]:List Keyword).isEmpty then 0 else 1) < 30))=true:=by rfl)
    (hline:(apos.endLine == cpos.line)=true:=by rfl) (hs:starEach (e::es) X.env=(false,eval e X.env)::starEach es X.env:=by rfl) (hplain:(backTo cpos (starEach es X.env)).any (·.1)=false:=by rfl) :
    PE X (.Call (.Attribute o name apos) (e::es) [] cpos) (iX r to t):=by
  intro pins s σ H Q I h;refine wpAny_Call_method_late hbase hfew hline rfl (An (ho pins s σ H _ I h) fun v s1 ⟨x,H1,I1,r1,ty,q1⟩=>?_);obtain ⟨p,xs,rfl,hp⟩:=ty;cases r1;obtain ⟨_,its,_,ob,h1,hc,hd,_⟩:=I1.hok p _ hp
  refine ⟨"tuple", id,pa,slot,hty,⟨ob,h1,hc⟩,fun a e=>by cases e;exact ⟨ob,h1,hd⟩,?_⟩
  have hA:=ha cpos pins s1 σ H1 _ I1 q1;rw [hs] at hA ⊢;refine Calls.callWith_builtin (by show (false || (backTo cpos (starEach es X.env)).any (·.1))=false;rw [hplain]<;>rfl) (Calls.evalArgs_plain ?_);exact An hA fun us s2 ⟨vs,H2,I2,r2,q2⟩=>hm pins s2 σ H2 (.ref p) vs (.ref p) us Q I2 rfl r2 q2
def YO (K:W.Frag):R2:=fun x y H Q=>∃ a b ys,x=.ref a/\y=.ref b/\DW K H a []/\DW K H b ys/\Q (.ref b) H
theorem Wa:Bq X (binaryOp .Add) (YO X.K):=by
  intro pins s σ H x y v u Q I rx ry h;obtain ⟨a,b,ys,rfl,rfl,ha,hb,q⟩:=h;cases rx;cases ry;obtain ⟨its,r1,p1,_⟩:=I.tuple ha;obtain ⟨its2,r2,p2,_⟩:=I.tuple hb;cases r1;obtain ⟨⟨cls,dd,data,sl⟩,ho,hc,n,hd⟩:=id p1;obtain ⟨⟨cls2,dd2,data2,sl2⟩,ho2,hc2,n2,hd2⟩:=id p2;simp only at hc hd hc2 hd2;subst hc hd hc2 hd2;exact concat_meets ⟨_,ho,rfl⟩ ⟨_,ho2,rfl⟩ noFill_tuple_add seq_tuple_add PySem.F.slot_tuple_add PySem.F.entry_tuple_add (PySem.F.args_tuple_add_2 _ _)
      (tuple_addW0 a b _ its2.toArray n n2 dd dd2 sl sl2 (by simp)) ⟨ho,ho2,⟨.ref b,H,I,rfl,q⟩⟩
def KM (K:W.Frag):R2:=fun x y H Q=>KQ K x y H Q\/YO K x y H Q
theorem Wb (K:W.Frag) (h:X.K=K:=by rfl):Bq X (binaryOp .Add) (KM K):=by subst h;exact Wc.or Wa
theorem Ux {K:W.Frag} {i j:Int} {H:Hp} {Q:VK} (q:Q (.int (i+j)) H):KM K (.int i) (.int j) H Q:=.inl (VA q)
theorem Uv {K:W.Frag} {i j:Str} {H:Hp} {Q:VK} (h:i.length+j.length<=1000000) (q:Q (.str (i++j)) H):KM K (.str i) (.str j) H Q:=.inl (Uy h q)
theorem Uw {K:W.Frag} {a b:Addr} {xs ys:List V} {H:Hp} {Q:VK} (ha:H a=some (.lst xs)) (hb:H b=some (.lst ys)) (h:xs.length+ys.length<=1000000) (q:∀ p,H p=none->Q (.ref p) (upd H p (.lst (xs++ys)))):KM K (.ref a) (.ref b) H Q:=.inl (Uz ha hb h q)
def Oj (K:W.Frag):V->Option Int->Option Int->Hp->VK->Prop:=fun x lo hi H Q=>RZ K x lo hi H Q\/dz K x lo hi H Q
theorem ia (K:W.Frag) (h:X.K=K:=by rfl):Qa X (Oj K):=by subst h;exact Zg.or Vd
theorem VZ {K:W.Frag} {z:Str} {lo hi:Option Int} {H:Hp} {Q:VK} (h:z.length<=1000000) (q:Q (.str (Txt.slice z lo hi)) H):Oj K (.str z) lo hi H Q:=.inl (Vb h q)
theorem Zb {K:W.Frag} {a:Addr} {xs:List V} {lo hi:Option Int} {H:Hp} {Q:VK} (h:Cm K H a xs) (q:∀ p,H p=none->Q (.ref p) (upd H p (.lst (ES xs lo hi)))):Oj K (.ref a) lo hi H Q:=.inl (RL h q)
theorem Va {K:W.Frag} {a:Addr} {xs:List V} {lo hi:Option Int} {H:Hp} {Q:VK} (h:H a=some (.lst xs)) (q:∀ p,H p=none->Q (.ref p) (upd H p (.lst (ES xs lo hi)))):Oj K (.ref a) lo hi H Q:=.inl (Vc h q)
def RY:V->List V->Hp->VK->Prop:=fun x vs H Q=>∃ l,x=.str (tx l)/\vs=[]/\(∀ c∈l,c < 128)/\l.length<=1000000/\Q (.str (tx (l.map up1))) H
theorem SU:cg X "str.upper" RY:=by
 intro pins s σ H x vs v us Q I rx rv h;obtain ⟨l,rfl,rfl,hA,hz,q⟩:=h;obtain ⟨t,rfl⟩:=rx;cases rv.zero;have e:Txt.upper (tx l)=tx (l.map up1):=by
  rw [upper_ascii (by rw [Mx];exact hA)];simp [tx]
 refine SC.upper (by rw [e,BJ,lK];exact decide_eq_false (by have:sizeLine=16777216:=sizeLine_eq;omega)) ⟨.str (tx (l.map up1)),H,I.tok _,⟨_,by rw [e]⟩,q⟩
end
end L2
namespace L2
open PySem PySem.Spec PyProof.Rows
section
variable {prog:Program} {w:World} {A:Around} {E:Value->Shared->Prop}
theorem IH {it t:Addr} {items:Array Value} (hne:t≠it):∀ (n i:Nat) (s:Shared) (Q:List Value->Shared->Prop),s.heap.IsListIter it t i->s.heap.IsList t items->i+n<=items.size ->
    (∀ h',h'.IsListIter it t (i+n)->Heap.SameBut it s.heap h'->Q ((items.toList.drop i).take n) { s with heap:=h' })->wpAny (model prog w) A (draw (.ref it) n) Q E s
  | 0,i,s,Q,hit,_,_,hQ=>by
    show wpAny _ _ (pure []) Q E s;exact wpAny_pure (by simpa using hQ s.heap hit (Heap.SameBut.refl ..))
  | n+1,i,s,Q,hit,ht,hle,hQ=>by
    have hlt:i < items.size:=by omega
    show wpAny _ _ (pyNext (.ref it) >>= _) Q E s;refine wpAny_bind (wpAny_pyNext_list_item hit ht (x:=items[i]) (by simp [hlt]) fun h₁ hit₁ hs₁=>?_);refine wpAny_bind (wpAny_holding (IH hne n (i+1) _ _ hit₁ (ht.extBut hs₁.extBut hne) (by omega) fun h₂ hit₂ hs₂=>wpAny_pure ?_));have hd:items.toList.drop i=items[i]::items.toList.drop (i+1):=by simp [mv,hlt]
    have:=hQ h₂ (by rw [show i+(n+1)=i+1+n by omega];exact hit₂) (hs₁.trans hs₂);rw [hd,List.take_succ_cons] at this;exact this
theorem EX {s:Shared} {t:Addr} {items:Array Value} {Q:List Value->Shared->Prop} (hh:A.handled=none) (ht:s.heap.IsList t items)
    (hQ:∀ h',Heap.ExtBut s.heap.objs.size s.heap h'->Q items.toList { s with heap:=h' }):wpAny (model prog w) A (unpackItems (.ref t) items.size none) Q E s:=by
  have hlt:t≠s.heap.objs.size:=by obtain ⟨o,ho,_⟩:=ht;exact lL (lB ho)
  unfold unpackItems;refine wpAny_bind ?_
  · unfold notIterableAtAll;refine wpAny_bind (wpAny_specialOf ht.typeIs PySem.slot_list_iter.lookup ?_);refine wpAny_pure ?_;simp only [kg,if_false];refine wpAny_bind (wpAny_holding (wpAny_pyIter_list ht ?_));refine wpAny_bind (wpAny_holding (IH hlt items.size 0 _ _ ⟨_,lA _ rfl,rfl,rfl⟩ (ht.push _) (by omega) fun h₁ hit₁ hs₁=>?_));have hall:List.take items.size (List.drop 0 items.toList)=items.toList:=by
      rw [List.drop_zero];exact List.take_of_length_le (by simp)
    rw [hall];rw [if_neg (by simp)];have ht₁:h₁.IsList t items:=(ht.push _).extBut hs₁.extBut hlt;refine wpAny_bind (wpAny_holding (wpAny_pyNext_list_end hh hit₁ ht₁ (by simp) fun h₂ he₂=>?_));simp only [Option.isSome_none,kg,if_false];refine wpAny_pure (hQ h₂ fun b o hb e=>he₂ b o hb (hs₁.extBut b o hb (kW _ e)))
theorem Jo {s:Shared} {t:Addr} {items:Array Value} {targets:List (Bool×(Value->Sem Unit))} {Q:Unit->Shared->Prop} (hh:A.handled=none) (ht:s.heap.IsList t items)
    (hn:targets.length=items.size) (hstar:targets.findIdx? (·.1)=none)
    (h:∀ h',Heap.ExtBut s.heap.objs.size s.heap h'->wpAny (model prog w) A (assignInOrder (targets.map (·.2)) items.toList) Q E { s with heap:=h' }) :
    wpAny (model prog w) A (unpack (.ref t) targets) Q E s:=by
  unfold unpack;rw [hn,hstar];exact wpAny_bind (wpAny_holding (EX hh ht h))
end
section
variable {X:Cx}
abbrev bZ (n:Nat) (t:Jd):TG:=fun v σ H Q=>∃ a xs,v=.ref a/\H a=some (.lst xs)/\xs.length=n/\t xs σ H Q
theorem Rt {es:List Expr} {k:Nat} {t:Jd} {n:Nat} {pos:Pos} (hc:X.calm=true) (h:cf X es t)
    (hn:(assignEach es X.env).length=n:=by rfl) (hst:(assignEach es X.env).findIdx? (·.1)=none:=by rfl):PG X (.Tuple es k pos) (bZ n t):=by
  intro pins s σ H v u Q I r hw;obtain ⟨a,xs,e1,hq,hl,hw⟩:=hw;subst e1;cases r;obtain ⟨its,rv,ht,hz⟩:=I.list (.inl (.inl hq));rw [assign_Tuple];refine wpAny_bind (wpAny_standAt (Jo (I.ok.hd hc) ht.isList (by simp [hn,<- hl,rv.length]) hst fun h' hx=>?_));have I1:Inv X pins σ H { s with heap:=h' }:=I.kept (t':=s.toks) fun b o e=>hx b o (lL (lB e)) e
  exact h pins _ σ H xs _ Q I1 (by simpa using rv) hw
theorem Nl {n:Nat} {js:List Nat} {u:Jd} (hu:LU js u):OP js (bZ n u):=by
 rintro x σ H Q ⟨a,xs,e,hq,hl,q⟩;exact ⟨a,xs,e,hq,hl,hu _ _ _ _ q⟩
end
end L2
namespace L2
open PySem PySem.Spec PyProof.Rows PySem.SeqAt
inductive D where
 | fl (v:V)
 | tup (ds:List D)
 | lst (ds:List D)
mutual
noncomputable def eqD:D->D->Bool
 | .fl a,.fl b=>eqV a b
 | .tup a,.tup b=>eqDs a b
 | .lst a,.lst b=>eqDs a b
 | _,_=>false
noncomputable def eqDs:List D->List D->Bool
 | [],[]=>true
 | x::xs,y::ys=>eqD x y && eqDs xs ys
 | _,_=>false
end
mutual
noncomputable def D.dep:D->Nat
 | .fl _=>0
 | .tup ds=>depL ds+1
 | .lst ds=>depL ds+1
noncomputable def depL:List D->Nat
 | []=>0
 | d::ds=>max d.dep (depL ds)
end
mutual
noncomputable def Is (H:Hp):V->D->Prop
 | x,.fl v=>x=v/\EM v=true
 | x,.tup ds=>∃ a xs,x=.ref a/\H a=some (.tup xs)/\IsL H xs ds
 | x,.lst ds=>∃ a xs,x=.ref a/\H a=some (.lst xs)/\IsL H xs ds
noncomputable def IsL (H:Hp):List V->List D->Prop
 | [],[]=>True
 | x::xs,d::ds=>Is H x d/\IsL H xs ds
 | _,_=>False
end
theorem IsL.inv {H:Hp} {x:V} {xs:List V} {es:List D} (h:IsL H (x::xs) es):∃ d ds,es=d::ds/\Is H x d/\IsL H xs ds:=by
 cases es with
 | nil=>unfold IsL at h;exact h.elim
 | cons d ds=>unfold IsL at h;exact ⟨d,ds,rfl,h.1,h.2⟩
theorem IsL.length {H:Hp}:∀ {xs:List V} {ds:List D},IsL H xs ds->xs.length=ds.length
 | [],[],_=>rfl
 | [],_::_,h=>by unfold IsL at h;exact h.elim
 | _::_,[],h=>by unfold IsL at h;exact h.elim
 | x::xs,d::ds,h=>by unfold IsL at h;rw [ki,ki,IsL.length h.2]
mutual
theorem Is.inj {H:Hp}:∀ {d e:D} {x:V},Is H x d->Is H x e->d=e
 | .fl v,e,x,h,k=>by
  unfold Is at h;obtain ⟨rfl,hf⟩:=h;cases e with
  | fl u=>unfold Is at k;rw [k.1]
  | tup es=>unfold Is at k;obtain ⟨a,xs,rfl,_⟩:=k;cases hf
  | lst es=>unfold Is at k;obtain ⟨a,xs,rfl,_⟩:=k;cases hf
 | .tup ds,e,x,h,k=>by
  unfold Is at h;obtain ⟨a,xs,rfl,h1,h2⟩:=h;cases e with
  | fl u=>unfold Is at k;obtain ⟨k1,k2⟩:=k;rw [<- k1] at k2;cases k2
  | tup es =>
   unfold Is at k;obtain ⟨b,ys,e,k1,k2⟩:=k;cases e;rw [h1] at k1;cases k1;rw [IsL.inj h2 k2]
  | lst es=>unfold Is at k;obtain ⟨b,ys,e,k1,k2⟩:=k;cases e;rw [h1] at k1;cases k1
 | .lst ds,e,x,h,k=>by
  unfold Is at h;obtain ⟨a,xs,rfl,h1,h2⟩:=h;cases e with
  | fl u=>unfold Is at k;obtain ⟨k1,k2⟩:=k;rw [<- k1] at k2;cases k2
  | lst es =>
   unfold Is at k;obtain ⟨b,ys,e,k1,k2⟩:=k;cases e;rw [h1] at k1;cases k1;rw [IsL.inj h2 k2]
  | tup es=>unfold Is at k;obtain ⟨b,ys,e,k1,k2⟩:=k;cases e;rw [h1] at k1;cases k1
theorem IsL.inj {H:Hp}:∀ {ds es:List D} {xs:List V},IsL H xs ds->IsL H xs es->ds=es
 | [],es,[],h,k=>by
  cases es with
  | nil=>rfl
  | cons e es=>unfold IsL at k;exact k.elim
 | [],_,_::_,h,_=>by unfold IsL at h;exact h.elim
 | _::_,_,[],h,_=>by unfold IsL at h;exact h.elim
 | d::ds,es,x::xs,h,k=>by
  unfold IsL at h;obtain ⟨e,es',rfl,k1,k2⟩:=k.inv;rw [Is.inj h.1 k1,IsL.inj h.2 k2]
end
theorem eqV_refl {v:V} (h:EM v=true):eqV v v=true:=by
 cases v<;>first | rfl | (simp [eqV];done) | cases h
mutual
theorem eqD_refl {H:Hp}:∀ {d:D} {x:V},Is H x d->eqD d d=true
 | .fl v,x,h=>by unfold Is at h;unfold eqD;exact eqV_refl h.2
 | .tup ds,x,h=>by unfold Is at h;obtain ⟨_,_,_,_,h2⟩:=h;unfold eqD;exact eqDs_refl h2
 | .lst ds,x,h=>by unfold Is at h;obtain ⟨_,_,_,_,h2⟩:=h;unfold eqD;exact eqDs_refl h2
theorem eqDs_refl {H:Hp}:∀ {ds:List D} {xs:List V},IsL H xs ds->eqDs ds ds=true
 | [],_,_=>by unfold eqDs;rfl
 | _::_,[],h=>by unfold IsL at h;exact h.elim
 | d::ds,x::xs,h=>by
  unfold IsL at h;unfold eqDs;rw [eqD_refl h.1,eqDs_refl h.2];rfl
end
section
variable {X:Cx} {pins:List (Addr×Obj)} {σ:St} {H:Hp} {s:Shared}
def eAt (ds es:List D) (i:Nat):Bool:=match ds[i]?,es[i]? with | some a,some b=>eqD a b | _,_=>true
theorem eAt_of {ds es:List D} {i:Nat} {a b:D} (h1:ds[i]?=some a) (h2:es[i]?=some b):eAt ds es i=eqD a b:=by unfold eAt;rw [h1,h2]
end
end L2
namespace L2
open PySem PySem.Spec PyProof.Rows
inductive T where
 | leaf (k:Str) (v:V)
 | op (s:Str) (m n:T)
 | many (k w:Str) (ts:List T)
 | lett (x:Str) (a b:T)
 | loop (i:Str) (n:T) (x:Str) (a b:T)
 | pick (n:T) (ts:List T)
noncomputable abbrev sD (x:Str):D:=.fl (.str x)
mutual
noncomputable def T.toD:T->D
 | .leaf k v=>.tup [sD k,.fl v]
 | .op s m n=>.tup [sD "op", sD s,m.toD,n.toD]
 | .many k w ts=>.tup [sD k,sD w,.tup (toDs ts)]
 | .lett x a b=>.tup [sD "let", sD x,a.toD,b.toD]
 | .loop i n x a b=>.tup [sD "loop", sD i,n.toD,sD x,a.toD,b.toD]
 | .pick n ts=>.tup [sD "pick", n.toD,.tup (toDs ts)]
noncomputable def toDs:List T->List D
 | []=>[]
 | t::ts=>t.toD::toDs ts
end
end L2
namespace L2
open PySem PySem.Spec PyProof.Rows PySem.SeqAt
section
end
end L2
namespace L2
open PySem PySem.Spec PyProof.Rows
section
variable {prog:Program} {w:World} {A:Around} {E:Value->Shared->Prop} {s:Shared}
end
section
variable {X:Cx} {e:Expr} {te:TE} {p1 p2 pos1 pos2:Pos}
theorem Fu:∀ {xs:List V} {us:List Value},AC xs us->AC xs.reverse us.reverse
 | _,_,.nil=>.nil
 | _,_,.cons (a:=x) (b:=u) (l₁:=xs) (l₂:=us) r t=>by
  rw [nW,nW];exact AC.append (Fu t) (.cons r .nil)
end
section
variable {X:Cx} {pins:List (Addr×Obj)} {σ:St} {H:Hp} {s:Shared} {h':Heap}
theorem Inv.turnedL {t':Nat} {ch:List Addr} (I:Inv X pins σ H s) (k:∀ b o,b∉ch->s.heap.get? b=some o->h'.get? b=some o) (hf:∀ b∈ch,FpOk X pins H b):Inv X pins σ H { s with heap:=h',toks:=t' }:=by
 have nit:∀ b u,H b=some u->b∉ch:=fun b u e z=>by have:=(hf b z).1;rw [e] at this;cases this
 refine I.step (g':=s.gens) (d':=s.drawn) (ch:=ch) (fun b hb=>?_) (fun b o _ _ hc e _=>k b o hc e) (fun b o _ _ hc e _=>⟨o.slots,k b o hc e⟩) (fun _ _ _ _ n=>n)
  (fun b o hc e=>⟨o,k b o hc e⟩) (fun _ _ e=>e) (fun _ _ _ e=>e) (fun b ps e=>⟨#[],by rw [e];simp⟩) (fun m hm=>?_) (fun b u e=>?_) I.bare
 ·obtain ⟨f0,f1,f2,f3,f4,f5⟩:=hf b hb;exact ⟨f3,f1,f4,f5⟩
 ·obtain ⟨o,es,ep,ho,r⟩:=hm;exact ⟨o,es,ep,k _ o (fun z=>(hf _ z).2.1 rfl) ho,r⟩
 ·refine (I.hok b u e).stay (fun c v hc q=>k c v ?_ q) (fun _ q=>q) fun _ _ q=>q
  rcases hc with z | z
  ·rw [z];exact nit b u e
  ·exact nit c _ z
end
section
end
section
end
section
end
section
variable {κ:Type} [DecidableEq κ]
noncomputable def Bj (kvs:List (κ×V)) (k:κ):Option V:=(kvs.find? fun kv=>decide (kv.1=k)).map (·.2)
noncomputable def Bu (kvs:List (κ×V)) (k:κ) (v:V):List (κ×V):=
 if (kvs.any fun kv=>decide (kv.1=k))=true then kvs.map (fun kv=>if kv.1=k then (kv.1,v) else kv) else kvs++[(k,v)]
theorem CD {p:κ×V} {r:List (κ×V)} {k:κ} (e:p.1=k):Bj (p::r) k=some p.2:=by simp [Bj,mI,e]
theorem CF {p:κ×V} {r:List (κ×V)} {k:κ} (e:¬ p.1=k):Bj (p::r) k=Bj r k:=by simp [Bj,mI,e]
theorem Fv (k:κ):∀ kvs:List (κ×V),(kvs.any fun kv=>decide (kv.1=k))=(Bj kvs k).isSome
 | []=>rfl
 | p::r=>by
  rw [lu]
  by_cases e:p.1=k
  ·simp only [CD e,decide_eq_true e,nc,Option.isSome_some]
  ·rw [CF e,decide_eq_false e,Bool.false_or];exact Fv k r
theorem Cw (kvs:List (κ×V)) (k:κ) (v:V):(Bu kvs k v).length<=kvs.length+1:=by
 unfold Bu;split
 ·rw [lK];omega
 ·rw [lI,ki,mH];omega
theorem Cp.isSome_eq {o:Option V} {u:Option Value} (r:Cp o u):o.isSome=u.isSome:=by
 cases o with
 | none=>cases u with
  | none=>rfl
  | some _=>exact (show False from r).elim
 | some _=>cases u with
  | none=>exact (show False from r).elim
  | some _=>rfl
theorem KV.val {kvs:List (κ×V)} {vs:List (κ×Value)} (r:KV kvs vs) (k:κ):Cp (Bj kvs k) (valueAt vs k):=by
 unfold KV at r
 induction r with
 | nil=>exact True.intro
 | @cons p q ps qs h t ih =>
  obtain ⟨h1,h2⟩:=h
  by_cases e:p.1=k
  ·have e':q.1=k:=h1.symm.trans e;have b:valueAt (q::qs) k=some q.2:=by simp [valueAt,mI,e']
   rw [CD e,b];exact h2
  ·have e':¬ q.1=k:=fun z=>e (h1.trans z)
   have b:valueAt (q::qs) k=valueAt qs k:=by simp [valueAt,mI,e']
   rw [CF e,b];exact ih
theorem KV.any {kvs:List (κ×V)} {vs:List (κ×Value)} (r:KV kvs vs) (k:κ):(kvs.any fun kv=>decide (kv.1=k))=vs.any fun kv=>decide (kv.1=k):=by
 unfold KV at r
 induction r with
 | nil=>rfl
 | cons h t ih=>rw [lu,lu,ih,h.1]
theorem KV.repl {kvs:List (κ×V)} {vs:List (κ×Value)} (r:KV kvs vs) (k:κ) {y:V} {u:Value} (ry:RelV y u) :
    KV (kvs.map fun kv=>if kv.1=k then (kv.1,y) else kv) (vs.map fun kv=>if kv.1=k then (kv.1,u) else kv):=by
  unfold KV at r ⊢
  induction r with
  | nil=>exact .nil
  | @cons p q ps qs h t ih =>
    rw [kj,kj];refine .cons ?_ ih;obtain ⟨h1,h2⟩:=h
    by_cases e:p.1=k
    · rw [if_pos e,if_pos (h1.symm.trans e)];exact ⟨h1,ry⟩
    · rw [if_neg e,if_neg (fun z=>e (h1.trans z))];exact ⟨h1,h2⟩
theorem KV.put {kvs:List (κ×V)} {vs:List (κ×Value)} (r:KV kvs vs) (k:κ) {y:V} {u:Value} (ry:RelV y u):KV (Bu kvs k y) (stored vs k u):=by
 unfold Bu stored;rw [r.any k]
 by_cases e:(vs.any fun kv=>decide (kv.1=k))=true
 ·rw [if_pos e,if_pos e];exact r.repl k ry
 ·rw [if_neg e,if_neg e];exact Paired.snoc r ⟨rfl,ry⟩
theorem KV.length {kvs:List (κ×V)} {vs:List (κ×Value)} (r:KV kvs vs):kvs.length=vs.length:=Paired.length r
end
theorem IB {P:Program} {w:World} {k:AS} {u:Value} (r:RelV (kV k) u):(AN P w).is k u=true:=by
 cases k with
 | inl i=>obtain ⟨t,e⟩:=(show ∃ t,u=Value.int i t from r);subst e;exact Ke P w i t
 | inr x=>obtain ⟨t,e⟩:=(show ∃ t,u=Value.str x t from r);subst e;exact Kd P w x t
theorem IC {P:Program} {w:World}:∀ {ks:List AS} {us:List Value},AC (ks.map kV) us->ItemsAre (AN P w) ks us
 | [],_,r=>by rw [mq] at r;cases r;exact .nil
 | k::ks,_,r=>by
  rw [kj] at r;cases r with
  | cons h t=>exact .cons (IB h) (IC t)
abbrev KT (H:Hp):List (List AS×V)->List (List AS×Addr×Value)->Prop:=Paired fun p q=>p.1=q.1/\H q.2.1=some (.tup (p.1.map kV))/\RelV p.2 q.2.2
theorem KT.val {H:Hp} {kvs:List (List AS×V)} {xs:List (List AS×Addr×Value)} (r:KT H kvs xs) (k:List AS):Cp (Bj kvs k) ((atKey xs k).map (·.2)):=by
 induction r with
 | nil=>exact True.intro
 | @cons p q ps qs h t ih =>
  obtain ⟨h1,_,h2⟩:=h
  by_cases e:p.1=k
  ·have e':q.1=k:=h1.symm.trans e;have b:atKey (q::qs) k=some q.2:=by simp [atKey,mI,e']
   rw [CD e,b];exact h2
  ·have e':¬ q.1=k:=fun z=>e (h1.trans z)
   have b:atKey (q::qs) k=atKey qs k:=by simp [atKey,mI,e']
   rw [CF e,b];exact ih
theorem KT.repl {H:Hp} {kvs:List (List AS×V)} {xs:List (List AS×Addr×Value)} (r:KT H kvs xs) (k:List AS) {y:V} {u:Value} (ry:RelV y u) :
    KT H (kvs.map fun kv=>if kv.1=k then (kv.1,y) else kv) (xs.map (putAt k u)):=by
  induction r with
  | nil=>exact .nil
  | @cons p q ps qs h t ih =>
    rw [kj,kj];refine .cons ?_ ih;obtain ⟨h1,h2,h3⟩:=h;unfold putAt
    by_cases e:p.1=k
    · rw [if_pos e,if_pos (h1.symm.trans e)];exact ⟨h1,h2,ry⟩
    · rw [if_neg e,if_neg (fun z=>e (h1.trans z))];exact ⟨h1,h2,h3⟩
theorem KT.put {H:Hp} {kvs:List (List AS×V)} {xs:List (List AS×Addr×Value)} (r:KT H kvs xs) (k:List AS) {b:Addr} {y:V} {u:Value} (hb:H b=some (.tup (k.map kV))) (ry:RelV y u) :
    KT H (Bu kvs k y) (storedH xs k b u):=by
  have e:(kvs.any fun kv=>decide (kv.1=k))=(atKey xs k).isSome:=by
    rw [Fv,(r.val k).isSome_eq,mQ]
  unfold Bu storedH;rw [e]
  by_cases q:(atKey xs k).isSome=true
  · rw [if_pos q,if_pos q];exact r.repl k ry
  · rw [if_neg q,if_neg q];exact Paired.snoc r ⟨rfl,hb,ry⟩
theorem KT.keeps {H H':Hp} {kvs:List (List AS×V)} {xs:List (List AS×Addr×Value)} (r:KT H kvs xs) (ht:∀ b ys,H b=some (.tup ys)->H' b=some (.tup ys)):KT H' kvs xs:=
 Paired.mapP r fun _ _ z=>⟨z.1,ht _ _ z.2.1,z.2.2⟩
section
variable {P:Program} {w:World} {H:Hp} {h:Heap} {a:Addr}
theorem YJ {u:HO} (ok:DX P w H h) (e:Rd H a u):Aa P w H h a u:=e.ok ok
theorem IJ {kvs:List (AS×V)} (ok:DX P w H h) (e:Rd H a (.dK kvs)):kvs.length<=sizeLine/\(a == sysModules)=false/\∃ vs,KV kvs vs/\h.DictOf (AN P w) a vs:=
 show Aa P w H h a (.dK kvs) from YJ ok e
theorem Tt {kvs:List (AS×V)} (ok:DX P w H h) (e:H a=some (.dK kvs)):kvs.length<=sizeLine/\(a == sysModules)=false/\∃ vs,KV kvs vs/\h.DictOf (AN P w) a vs:=IJ ok (.inl e)
theorem FB {ks:List AS} (ok:DX P w H h) (e:H a=some (.tup (ks.map kV))):(tupleKind (AN P w)).is h ks a:=by
 obtain ⟨_,its,r,o,h1,h2,_,n,h3⟩:=(show Aa P w H h a (.tup (ks.map kV)) from ok a _ e);exact ⟨o,its.toArray,n,h1,h2,h3,by simpa using IC r⟩
theorem Kx {kvs:List (List AS×V)} (ok:DX P w H h) (e:Rd H a (.dT kvs)):kvs.length<=sizeLine/\(a == sysModules)=false /\
    ∃ xs,KT H kvs xs/\h.DictOfH (tupleKind (AN P w)) a xs:=by
  obtain ⟨z,y,xs,r,o,es,ep,h1,h2,h3,h4,h5⟩:=(show Aa P w H h a (.dT kvs) from YJ ok e);refine ⟨z,y,xs,r,o,es,ep,h1,h2,h3,h4,fun x hx=>?_,h5⟩;have all:∀ {l:List (List AS×V)} {m:List (List AS×Addr×Value)},KT H l m->∀ x∈m,(tupleKind (AN P w)).is h x.1 x.2.1:=by
    intro l m q
    induction q with
    | nil=>intro x hx;exact nomatch hx
    | @cons p q ps qs hq t ih =>
      intro x hx;rcases kh.mp hx with e | hx
      · subst e;exact FB ok (by rw [<- hq.1];exact hq.2.1)
      · exact ih x hx
  exact all r x hx
theorem Ys {kvs:List (List AS×V)} (ok:DX P w H h) (e:H a=some (.dT kvs)):kvs.length<=sizeLine/\(a == sysModules)=false /\
    ∃ xs,KT H kvs xs/\h.DictOfH (tupleKind (AN P w)) a xs:=Kx ok (.inl e)
end
def De (H:Hp) (a:Addr) (y:V) (r:Option V):Prop:=
 (∃ kvs k,Rd H a (.dK kvs)/\y=kV k/\r=Bj kvs k)\/∃ kvs k b,Rd H a (.dT kvs)/\y=.ref b/\H b=some (.tup (k.map kV))/\r=Bj kvs k
def Jf (H:Hp) (a:Addr) (y v:V) (H':Hp):Prop:=
 (∃ kvs k,H a=some (.dK kvs)/\y=kV k/\kvs.length < sizeLine/\H'=upd H a (.dK (Bu kvs k v))) \/
 ∃ kvs k b,H a=some (.dT kvs)/\y=.ref b/\H b=some (.tup (k.map kV))/\kvs.length < sizeLine/\H'=upd H a (.dT (Bu kvs k v))
theorem De.k {H:Hp} {a:Addr} {kvs:List (AS×V)} {k:AS} (e:H a=some (.dK kvs)):De H a (kV k) (Bj kvs k):=.inl ⟨kvs,k,.inl e,rfl,rfl⟩
theorem De.t {H:Hp} {a b:Addr} {kvs:List (List AS×V)} {k:List AS} (e:H a=some (.dT kvs)) (eb:H b=some (.tup (k.map kV))):De H a (.ref b) (Bj kvs k):=.inr ⟨kvs,k,b,.inl e,rfl,eb,rfl⟩
theorem Jf.k {H:Hp} {a:Addr} {kvs:List (AS×V)} {k:AS} {v:V} (e:H a=some (.dK kvs)) (hl:kvs.length < sizeLine):Jf H a (kV k) v (upd H a (.dK (Bu kvs k v))):=.inl ⟨kvs,k,e,rfl,hl,rfl⟩
theorem Jf.t {H:Hp} {a b:Addr} {kvs:List (List AS×V)} {k:List AS} {v:V} (e:H a=some (.dT kvs)) (eb:H b=some (.tup (k.map kV))) (hl:kvs.length < sizeLine) :
    Jf H a (.ref b) v (upd H a (.dT (Bu kvs k v))):=.inr ⟨kvs,k,b,e,rfl,eb,hl,rfl⟩
section
variable {X:Cx} {pins:List (Addr×Obj)} {σ:St} {H:Hp} {s:Shared} {a:Addr} {y v:V} {u r:Value} {o:Option V} {A:Around} {E:Value->Shared->Prop}
theorem Inv.big (I:Inv X pins σ H s):sysModules < s.heap.objs.size:=by
 have h:mainGlobals < s.heap.objs.size:=(I.mod.glob.keeps I.bk).lt;exact Nat.lt_trans (by decide) h
theorem Pt {Q:Value->Shared->Prop} (hu:A.units+1 < cLine) (I:Inv X pins σ H s) (g:De H a y (some v)) (ry:RelV y u) (h:∀ w' s',Inv X pins σ H s'->RelV v w'->Q w' s') :
    wpAny (model X.prog X.w) A (getItem (.ref a) u) Q E s:=by
  rcases g with ⟨kvs,k,e,ey,l⟩ | ⟨kvs,k,b,e,ey,eb,l⟩
  · subst ey;obtain ⟨z,hd,vs,rel,dd⟩:=IJ I.hok e;obtain ⟨w',hw,rw'⟩:=Cp.some_of (v:=v) (o:=valueAt vs k) (by rw [l];exact rel.val k);exact wpAny_getItem_of (IB ry) dd.mapOf hw (h w' _ (I.tok _) rw')
  · subst ey;cases (show u=Value.ref b from ry);obtain ⟨z,hd,xs,rel,dd⟩:=Kx I.hok e;obtain ⟨w',hw,rw'⟩:=Cp.some_of (v:=v) (o:=(atKey xs k).map (·.2)) (by rw [l];exact rel.val k);obtain ⟨p,hp,hp2⟩:=lH.mp hw;refine wpAny_getItem_heap (tupleKind_room_in1 hu) (FB I.hok eb) dd hp ?_;rw [hp2];exact h w' _ (I.tok _) rw'
theorem gM {Q:Value->Shared->Prop} (hu:A.units+1 < cLine) (I:Inv X pins σ H s) (g:De H a y o) (ry:RelV y u) (h:∀ s',Inv X pins σ H s'->Q (.bool o.isSome) s') :
    wpAny (model X.prog X.w) A (compareOp .In u (.ref a)) Q E s:=by
  rcases g with ⟨kvs,k,e,ey,l⟩ | ⟨kvs,k,b,e,ey,eb,l⟩
  · subst ey;obtain ⟨z,hd,vs,rel,dd⟩:=IJ I.hok e;refine wpAny_in_of (IB ry) hd dd.mapOf ?_;rw [<- (rel.val k).isSome_eq,<- l];exact h _ (I.tok _)
  · subst ey;cases (show u=Value.ref b from ry);obtain ⟨z,hd,xs,rel,dd⟩:=Kx I.hok e;refine wpAny_in_heap (tupleKind_room_in1 hu) (FB I.hok eb) hd dd ?_;have q:=(rel.val k).isSome_eq;rw [mQ] at q;rw [<- q,<- l];exact h _ (I.tok _)
theorem Nz {Q:Value->Shared->Prop} (hu:A.units+1 < cLine) (I:Inv X pins σ H s) (g:De H a y o) (ry:RelV y u) (h:∀ s',Inv X pins σ H s'->Q (.bool (!o.isSome)) s') :
    wpAny (model X.prog X.w) A (compareOp .NotIn u (.ref a)) Q E s:=by
  rcases g with ⟨kvs,k,e,ey,l⟩ | ⟨kvs,k,b,e,ey,eb,l⟩
  · subst ey;obtain ⟨z,hd,vs,rel,dd⟩:=IJ I.hok e;refine wpAny_notIn_of (IB ry) hd dd.mapOf ?_;rw [<- (rel.val k).isSome_eq,<- l];exact h _ (I.tok _)
  · subst ey;cases (show u=Value.ref b from ry);obtain ⟨z,hd,xs,rel,dd⟩:=Kx I.hok e;refine wpAny_notIn_heap (tupleKind_room_in1 hu) (FB I.hok eb) hd dd ?_;have q:=(rel.val k).isSome_eq;rw [mQ] at q;rw [<- q,<- l];exact h _ (I.tok _)
theorem Cg {h':Heap} {t':Nat} {ob:HO} (I:Inv X pins σ H s) (mu:cw (H a)) (hs:Heap.SameBut a s.heap h') (he:∃ q,h'.get? a=some q) (new:Aa X.prog X.w (upd H a ob) h' a ob) :
    Inv X pins σ (upd H a ob) { s with heap:=h',toks:=t' }:=
  I.write (x:=a) (e:=a) mu (.inl rfl) (fun b q hb z=>(hs.2 b hb).trans z) he new
theorem bp {P:Program} {w:World} {H':Hp} {h':Heap} {kvs:List (AS×V)} {vs:List (AS×Value)} (z:kvs.length<=sizeLine) (hd:(a == sysModules)=false) (rel:KV kvs vs) (dd:h'.DictOf (AN P w) a vs) :
    Aa P w H' h' a (.dK kvs):=⟨z,hd,vs,rel,dd⟩
theorem IK {H':Hp} {Q:Unit->Shared->Prop} (hu:A.units+1 < cLine) (I:Inv X pins σ H s) (g:Jf H a y v H') (ry:RelV y u) (rv:RelV v r) (h:∀ s',Inv X pins σ H' s'->Q () s') :
    wpAny (model X.prog X.w) A (setItem (.ref a) u r) Q E s:=by
  rcases g with ⟨kvs,k,e,ey,l,eH⟩ | ⟨kvs,k,b,e,ey,eb,l,eH⟩
  · subst ey eH;obtain ⟨z,hd,vs,rel,dd⟩:=Tt I.hok e;have hz:vs.length<=sizeLine:=by rw [<- rel.length];exact z
    have hl:(Bu kvs k v).length<=sizeLine:=by have:=Cw kvs k v;omega
    refine wpAny_setItem_pairs (hsz:=hz) (IB ry) dd fun h' dd' hs=>h _ ?_
    have he:∃ q,h'.get? a=some q:=let ⟨q,_,_,hq,_⟩:=dd';⟨q,hq⟩;exact Cg I (by rw [e];exact True.intro) hs he (bp hl hd (rel.put k rv) dd')
  · subst ey eH;cases (show u=Value.ref b from ry);obtain ⟨z,hd,xs,rel,dd⟩:=Ys I.hok e;have hz:xs.length<=sizeLine:=by rw [<- Paired.length rel];exact z
    have hl:(Bu kvs k v).length<=sizeLine:=by have:=Cw kvs k v;omega
    refine wpAny_setItem_heap (hsz:=hz) (tupleKind_room_in1 hu) (FB I.hok eb) dd fun h' dd' hs=>h _ ?_
    obtain ⟨q,es,ep,hq,h2,h3,h4,_,h5⟩:=dd';refine Cg I (by rw [e];exact True.intro) hs ⟨q,hq⟩ ⟨hl,hd,_,(rel.put k eb rv).keeps fun c ys ec=>?_,q,es,ep,hq,h2,h3,h4,h5⟩;rw [AD (YX ec e (fun z=>nomatch z))];exact ec
end
section
variable {X:Cx} {pins:List (Addr×Obj)} {σ:St} {H:Hp} {s:Shared} {a:Addr} {kvs:List (AS×V)} {k:AS} {u:Value} {A:Around} {E:Value->Shared->Prop}
theorem gL {Q:Value->Shared->Prop} (I:Inv X pins σ H s) (e:Rd H a (.dK kvs)) (h:∀ t s',Inv X pins σ H s'->Q (.int kvs.length t) s'):wpAny (model X.prog X.w) A (call (.builtin "len") [.ref a]) Q E s:=by
 obtain ⟨z,hd,vs,rel,dd⟩:=IJ I.hok e;refine call_len_dict hd dd (by rw [<- rel.length];rw [sizeLine_eq] at z;omega) ?_;rw [<- rel.length];exact h _ _ (I.tok _)
end
theorem Ky {X:Cx} {pins:List (Addr×Obj)} {σ:St} {H:Hp} {s:Shared} {a:Addr} {y:V} {o:Option V} (I:Inv X pins σ H s) (g:De H a y o):s.TypeIs (.ref a) "dict" := by
 rcases g with ⟨kvs,k,e,_,_⟩ | ⟨kvs,k,b,e,_,_,_⟩
 ·obtain ⟨_,_,vs,_,dd⟩:=IJ I.hok e;exact dd.typeIs
 ·obtain ⟨_,_,xs,_,dd⟩:=Kx I.hok e;exact dd.typeIs
section
end
theorem Tu {P:Program} {w:World} {H:Hp} (h:Heap) (hb:sysModules < h.objs.size):Aa P w H (h.push { cls:=.type "dict", data:=.dict #[] }) h.objs.size (.dK []):=
 ⟨lg _,beq_eq_false_iff_ne.mpr (Ne.symm (lL hb)),[],.nil,Heap.DictOf.new h⟩
abbrev ZY:TE:=fun _ H Q=>∀ p,H p=none->Q (.ref p) (upd H p (.dK []))
section
variable {X:Cx} {pos:Pos}
theorem Rz:PE X (.Dict [] [] pos) ZY:=fun pins s σ H Q I h =>
 wpAny_Dict_empty ⟨.ref s.heap.objs.size,_,I.laid (a:=s.heap.objs.size) (o:=.dK []) (t':=s.toks) (fun _ _ q=>kW _ q) (kb _) (Tu s.heap I.big),rfl,h _ (I.hok.fresh (kb _))⟩
end
section
end
section
end
section
end
section
end
section
variable {X:Cx}
theorem QD:BD X (.builtin "len") (fun xs H Q=>∃ a kvs,xs=[V.ref a]/\H a=some (.dK kvs)/\Q (.int kvs.length) H):=by
 intro pins s σ H xs us Q I r h;obtain ⟨a,kvs,rfl,ha,q⟩:=h;obtain ⟨u,rfl,ru⟩:=vals1 r;cases ru;exact gL I (.inl ha) fun t s' I'=>⟨.int kvs.length,H,I',⟨t,rfl⟩,q⟩
end
section
end
section
end
section
end
section
end
section
end
section
end
section
end
section
end
section
end
noncomputable def jn (sep:List Nat):List (List Nat)->List Nat
 | []=>[]
 | x::ys=>x++(ys.flatMap fun y=>sep++y)
theorem cz (sep:List Nat):∀ ys:List (List Nat),Txt.join (tx sep) (ys.map tx)=tx (jn sep ys):=by
 intro ys;have h:Txt.join (tx sep) (ys.map tx)=Str.join (tx sep) (ys.map tx):=by simpa using join_plain_closes (tx sep) (ys.map tx)
 rw [h];have:∀ (x:List Nat) (ys:List (List Nat)),Str.join (tx sep) ((x::ys).map tx)=tx (x++(ys.flatMap fun y=>sep++y)):=by
  intro x ys
  induction ys generalizing x with
  | nil=>simp [Str.join]
  | cons y ys ih =>
   show tx x++tx sep++Str.join (tx sep) ((y::ys).map tx)=_;rw [ih y,LZ,LZ];simp
 cases ys with
 | nil=>rfl
 | cons x ys=>exact this x ys
theorem ZM (ys:List (List Nat)):((ys.map tx).map (·.length)).sum=(ys.map List.length).sum:=by
 rw [nF];congr 1
section
end
end L2
namespace L2
open PySem PySem.Spec PyProof.Rows PySem.Builtin PySem.Builtin.Str
section
end
variable {X:Cx}
def YM:List V->Hp->VK->Prop:=fun xs H Q=>∃ l,xs=[.str (tx l)]/\(∀ c∈l,48<=c/\c<=57)/\l≠[]/\l.length<=600/\Q (.int ((NumText.digitsVal l:Nat):Int)) H
theorem QH:BD X (.type "int") YM:=by
 intro pins s σ H xs us Q I r h;obtain ⟨l,rfl,hd,hne,hl,q⟩:=h;obtain ⟨u,rfl,ru⟩:=vals1 r;obtain ⟨t,rfl⟩:=ru;have e:=PySem.intText_digits (x:=tx l) (by have e:(tx l).cps.toList=l:=(by simp [tx]);rw [e];exact hd) (by simpa [tx] using hne) (by rw [BJ];omega);refine W.KIN.call_text e (by rw [BJ];omega) ⟨.int _,H,I.tok _,⟨_,rfl⟩,?_⟩;have:(tx l).cps.toList=l:=by simp [tx]
 rw [this];exact q
def KL:V->List V->Hp->VK->Prop:=fun x vs H Q=>∃ l b xs zs,x=.ref l/\vs=[.ref b]/\H l=some (.lst xs)/\H b=some (.tup zs)/\xs.length+zs.length<=sizeLine/\Q .non (upd H l (.lst (xs++zs)))
theorem MG:cg X "list.extend" KL:=by
 intro pins s σ H x vs v us Q I rx rv h;obtain ⟨l,b,xs,zs,rfl,rfl,hH,hB,hz,q⟩:=h;cases rx;obtain ⟨u,rfl,ru⟩:=rv.one;cases ru;obtain ⟨z,its,n,r,hl,e⟩:=I.lstM hH;obtain ⟨its2,r2,⟨o,ho,hc,n2,hd⟩,_⟩:=I.tuple (a:=b) (xs:=zs) (.inl (.inl hB));have hl2:=r2.length;have hsz:its.toArray.size+its2.toArray.size<=sizeLine:=by rw [kY,kY];omega
 have hlong:¬ (!its.toArray.isEmpty && Builtin.List.listTooLong (its.toArray.size+its2.toArray.size))=true:=by
  rw [GZ hsz,nN];exact ku
 refine wpAny_call_entry F.slot_list_extend ⟨_,e,rfl⟩ F.entry_list_extend ?_ (F.args_list_extend_2 _ _);show wpAny _ _ (Builtin.List.listExtendWith (.ref l) (.ref b) .none) _ _ s;unfold Builtin.List.listExtendWith
 refine wpAny_bind (wpAny_typeOf (T := "tuple") ⟨o,ho,hc⟩ ?_)
 have ht:((Builtin.List.listSameRef (.ref l) (.ref b) || Value.type "tuple" == Value.type "list") || Value.type "tuple" == Value.type "tuple")=true:=by
  have:(Value.type "tuple" == Value.type "tuple")=true:=by rfl
  rw [this];simp
 rw [if_pos ht];refine wpAny_bind (listItems_at ho hd ?_);refine wpAny_bind (listItems_at e rfl ?_);rw [if_neg hlong];refine wpAny_bind (listUpdate_at e rfl ?_ (by rw [kY];omega) (by rw [Array.size_append];omega));refine wpAny_pure ?_;refine ⟨_,rfl,.non,_,I.lset (its':=its++its2) hH e (by simp) (r.append r2) ?_,rfl,q⟩;rw [lI];omega
end L2
namespace HT
open PySem PyProof.Rows
section
open PySem.SeqAt
open PySem.AutoSeq1 (wpAny_loadPart')
open PySem.MeetsSeq PySem.MeetsSeq2 PySem.MeetsSeq3
end
section
end
end HT
namespace L2
open PySem PySem.Spec PyProof.Rows
section
end
end L2
namespace L2
open PySem
abbrev Xx (l:W.OpenLaw) (n:Nat) (as:List Addr) (K:Params->W.Frag) (N:Nat):Prop:=
 W.LeftO l.row.prog (W.view l.prog (List.range n)) [] (fun s=>W.xlAt (W.view l.prog (List.range n)) [] s && W.recOk [] s) (fun s=>as.map s.heap.get?) (fun w=>(K w.params).map fun p=>some p.2) N
theorem mk_law {l:W.OpenLaw} {n:Nat} {N:Nat} {d:DefRec} {K:Params->W.Frag} {as:List Addr} (ws:l.wellSaid=true) (left:Xx l n as K N)
    (has:∀ P,as=(K P).map (·.1)) (hr:l.row.records=[]) (hdef:W.defOf (W.view l.prog (List.range n)) l.row.name=some (d,[])) (hp:l.row.prog.theDef l.row.name=some (d.params,d.body,d.scope)) (hk:W.kwWritten? d.params.kwonlyargs d.params.kw_defaults=some [])
    (hwr:(!l.row.writes || l.row.records.isEmpty)=true)
    (ok:(W.chainsOk (W.view l.prog (List.range n)) && W.opensWell l.row.prog && (W.frees l.row.toRowW && l.row.within.isEmpty))=true) (hb:l.row.prog.bare) (hw:l.row.toRowW.promised)
    (call:W.WalkO (W.view l.prog (List.range n)) [] (W.XL (W.view l.prog (List.range n)) []) (W.InK K) l.row.toRowW d [] fun f vs=>PySem.call f vs):l.Holds:=
  W.holds_law ws fun said=>W.holds_open (q:=W.view l.prog (List.range n)) (loose:=[]) (XP:=W.XL (W.view l.prog (List.range n)) []) (YP:=W.InK K) left (W.InK.of has) W.InK.keeps (fun s e=>W.xl_of s (mG.mp e).1) W.XL.keeps hdef hp hk (fun s e=>W.recFacts_nil hr) hwr said ok hb hw call
noncomputable abbrev ke (P:Params) (x:Str) (t:Tok) (v:Value):DictEntry:=⟨PyData.keyHash P x,.str x t,v⟩
noncomputable abbrev cO (x:Str) (t:Tok) (l a s:Int) (r1 r2:Addr) (v1 v2 v3:Value) (r3:Addr) (t2:Nat):Obj:=⟨.type "code", none,.fields #[.str x t,.str x (t+1),.str "/claim/cut.py" (t+2),.int l 0,.int a 0,.int 0 0,.int 0 0,.int s 0,.ref r1,.bool true,.int 181 0,.ref r2,v1,v2,v3,.ref r3,.int t2 0,.int l 0,.str "/claim/cut.py" (t2+1)],#[]⟩
noncomputable def bq:Stmt->Pos
 | .FunctionDef _ _ _ _ _ _ _ _ _ p=>p
 | _=>⟨0,0,0,0⟩
noncomputable def CU (K:W.Frag) (n:Str):Addr:=match W.nsIn K mainGlobals n with
 | some (some (.ref a))=>a
 | _=>0
noncomputable def WG (K:W.Frag) (f:Addr):Value:=match K.lookup f with
 | some ⟨_,_,.func d,_⟩=>d.pyModule
 | _=>.none
noncomputable def Py (K:W.Frag) (f:Addr):Value:=match K.lookup f with
 | some ⟨_,_,.func d,_⟩=>d.code
 | _=>.none
abbrev GF (K:W.Frag) (n:Str) (t:Stmt):Prop:=W.nsIn K mainGlobals n=some (some (.ref (CU K n))) /\
 K.lookup (CU K n)=some ⟨.type "function", none,.func (W.fnOf n n (Ak t) (AY t) (AH t) .none .none .none (WG K (CU K n)) none (Py K (CU K n)) .none),#[]⟩ /\
 W.codeIn K (Py K (CU K n)) n=true/\W.keepIn K (.ref (CU K n))=true
theorem MR {K:W.Frag} {n:Str} {t:Stmt} (h:GF K n t):Fun K n n t (CU K n) (W.fnOf n n (Ak t) (AY t) (AH t) .none .none .none (WG K (CU K n)) none (Py K (CU K n)) .none):=TC h.2.1 h.2.2.1 h.2.2.2
end L2
namespace R
open PySem L2
inductive Dv where
 | non | bl (b:Bool) | int (i:Int) | str (x:List Nat) | tup (xs:List Dv) | lst (xs:List Dv) | dct (ks:List AS) (xs:List Dv) | ref (k:Nat) | scr (ns:List Int) | ty (n:String) | mtp (ls:List (List Nat)) | dtt (ks:List (List AS)) (xs:List Dv) | dnt (ks:List (NK AS)) (xs:List Dv) | obj (c:Str) (fl nm:List Str) (xs:List Dv)
 deriving Inhabited
structure G where
 Z:Addr->Prop
 μ:List Addr
noncomputable abbrev Fp:=Addr->Prop
def Disj (P Q:Fp):Prop:=∀ a,P a->Q a->False
def nop:Fp:=fun _=>False
def Lk (g:G) (H:Hp) (o:Nat) (a:Addr) (vs:List V):Prop:=H a=some (.lst vs)/\(o=0->g.Z a)/\(o≠0->¬ g.Z a)
def Scr (K:W.Frag) (H:Hp) (a:Addr) (ns:List Int):Prop:=(∃ o,H a=some (.frz o (.lst (ns.map V.int)))) \/
    ∃ (o:Obj) (its:Array Value) (n:Nat),K.lookup a=some o/\o.cls=.type "list" /\ o.dict=none/\o.data=.seq its n/\its.size<=sizeLine/\AC (ns.map V.int) its.toList
theorem Scr.sq {K:W.Frag} {H:Hp} {a:Addr} {ns:List Int} (h:Scr K H a ns):Cm K H a (ns.map V.int):=h.elim (fun h=>.inl (.inr h)) .inr
def Mtp (K:W.Frag) (a:Addr) (ls:List (List Nat)):Prop:=∃ (o:Obj) (its:Array Value) (n:Nat),K.lookup a=some o/\o.cls=.type "tuple" /\ o.data=.seq its n/\its.size<=sizeLine/\AC (ls.map fun l=>V.str (tx l)) its.toList
def Xr (K:W.Frag) (c:Str) (fl:List Str):Prop:=Cls K (CU K c)/\∀ f∈fl,DH K (CU K c) f
mutual
noncomputable def Rep (K:W.Frag) (g:G) (H:Hp):Nat->Dv->V->Fp->Prop
 | _,.non,v,P=>v=.non/\∀ a,¬ P a
 | _,.bl b,v,P=>v=.bl b/\∀ a,¬ P a
 | _,.int i,v,P=>v=.int i/\∀ a,¬ P a
 | _,.str l,v,P=>v=.str (tx l)/\∀ a,¬ P a
 | o,.tup ds,v,P=>∃ a vs,v=.ref a/\H a=some (.tup vs)/\Reps K g H (o - 1) ds vs P
 | o,.lst ds,v,P=>∃ a vs P',v=.ref a/\Lk g H o a vs/\Reps K g H (o - 1) ds vs P'/\¬ P' a/\∀ b,P b↔(o≠0/\b=a)\/P' b
 | o,.dct ks ds,v,P=>∃ a vs,v=.ref a/\H a=some (.dK (ks.zip vs))/\(o=0->g.Z a)/\(o≠0->¬ g.Z a)/\(ks.length=ds.length/\∃ R,Reps K g H 0 ds vs R)/\∀ b,P b↔(o≠0/\b=a)
 | _,.ref k,v,P=>(∃ a,g.μ[k]?=some a/\v=.ref a)/\∀ a,¬ P a
 | _,.scr ns,v,P=>(∃ a,v=.ref a/\Scr K H a ns)/\∀ a,¬ P a
 | _,.ty n,v,P=>v=.ty n/\∀ a,¬ P a
 | _,.mtp ls,v,P=>(∃ a,v=.ref a/\Mtp K a ls)/\∀ a,¬ P a
 | o,.dtt ks ds,v,P=>∃ a vs,v=.ref a/\H a=some (.dT (ks.zip vs))/\(o=0->g.Z a)/\(o≠0->¬ g.Z a)/\(ks.length=ds.length/\∃ R,Reps K g H 0 ds vs R)/\∀ b,P b↔(o≠0/\b=a)
 | o,.dnt ks ds,v,P=>∃ a vs,v=.ref a/\H a=some (.dN (ks.zip vs))/\(o=0->g.Z a)/\(o≠0->¬ g.Z a)/\(ks.length=ds.length/\∃ R,Reps K g H 0 ds vs R)/\∀ b,P b↔(o≠0/\b=a)
 | o,.obj c fl nm ds,v,P=>∃ a dx vs P',v=.ref a/\H a=some (.ins (CU K c) dx (nm.zip vs))/\(o=0->g.Z a)/\(o≠0->¬ g.Z a)/\(Xr K c fl/\nm.length=ds.length/\∀ f∈nm,f∈fl)/\Reps K g H o ds vs P'/\¬ P' a/\∀ b,P b↔(o≠0/\b=a)\/P' b
noncomputable def Reps (K:W.Frag) (g:G) (H:Hp):Nat->List Dv->List V->Fp->Prop
 | _,[],vs,P=>vs=[]/\∀ a,¬ P a
 | o,d::ds,vs,P=>∃ v r P1 P2,vs=v::r/\Rep K g H o d v P1/\Reps K g H o ds r P2/\Disj P1 P2/\∀ a,P a↔P1 a\/P2 a
end
def Zd (g:G) (H:Hp):Prop:=∀ a,g.Z a->H a≠none
structure Step (g:G) (P:Fp) (H:Hp) (g':G) (P':Fp) (H':Hp):Prop where
 keep:∀ b o,H b=some o->¬ P b->H' b=some o
 dom:∀ b,H' b=none->H b=none
 zm:∀ a,g.Z a->g'.Z a
 zn:∀ a,g'.Z a->g.Z a\/P a\/H a=none
 mu:∃ r,g'.μ=g.μ++r
 nw:∀ a,P' a->P a\/H a=none
 zd:Zd g H->Zd g' H'
 ins:∀ b C dx fs,H b=some (.ins C dx fs)->∃ fs',H' b=some (.ins C dx fs')/\∀ f r,fs.lookup f=some (.ref r)->fs'.lookup f=some (.ref r)
theorem Step.refl {g:G} {P:Fp} {H:Hp}:Step g P H g P H:=⟨fun _ _ h _=>h,fun _ h=>h,fun _ h=>h,fun _ h=>.inl h,⟨[],by simp⟩,fun _ h=>.inl h,fun h=>h,fun _ _ _ fs h=>⟨fs,h,fun _ _ z=>z⟩⟩
theorem Step.trans {g g1 g2:G} {P P1 P2:Fp} {H H1 H2:Hp} (a:Step g P H g1 P1 H1) (b:Step g1 P1 H1 g2 P2 H2):Step g P H g2 P2 H2:=by
 refine ⟨fun c o h n=>?_,fun c h=>a.dom c (b.dom c h),fun c h=>b.zm c (a.zm c h),fun c h=>?_,?_,fun c h=>?_,fun z=>b.zd (a.zd z),fun c C dx fs h=>?_⟩
 ·refine b.keep c o (a.keep c o h n) fun z=>?_
  rcases a.nw c z with z | z
  ·exact n z
  ·rw [h] at z;cases z
 ·rcases b.zn c h with z | z | z
  ·exact a.zn c z
  ·exact (a.nw c z).elim (fun q=>.inr (.inl q)) fun q=>.inr (.inr q)
  ·exact .inr (.inr (a.dom c z))
 ·obtain ⟨r1,e1⟩:=a.mu;obtain ⟨r2,e2⟩:=b.mu;exact ⟨r1++r2,by rw [e2,e1,lj]⟩
 ·rcases b.nw c h with z | z
  ·exact a.nw c z
  ·exact .inr (a.dom c z)
 ·obtain ⟨f1,e1,k1⟩:=a.ins c C dx fs h;obtain ⟨f2,e2,k2⟩:=b.ins c C dx f1 e1;exact ⟨f2,e2,fun f r z=>k2 f r (k1 f r z)⟩
theorem Step.sub {g g':G} {P Q P' Q':Fp} {H H':Hp} (s:Step g P H g' P' H') (h1:∀ a,P a->Q a) (h2:∀ a,Q' a->P' a):Step g Q H g' Q' H':=
 ⟨fun b o h n=>s.keep b o h fun z=>n (h1 b z),s.dom,s.zm,fun a h=>(s.zn a h).elim .inl fun z=>.inr (z.elim (fun q=>.inl (h1 a q)) .inr),s.mu,fun a h=>(s.nw a (h2 a h)).elim (fun q=>.inl (h1 a q)) .inr,s.zd,s.ins⟩
theorem Step.less {g g':G} {P P' Q':Fp} {H H':Hp} (s:Step g P H g' P' H') (h2:∀ a,Q' a->P' a):Step g P H g' Q' H':=s.sub (fun _ q=>q) h2
theorem Step.frame {g g':G} {P P' R:Fp} {H H':Hp} (s:Step g P H g' P' H'):Step g (fun a=>P a\/R a) H g' (fun a=>P' a\/R a) H':=
 ⟨fun b o h n=>s.keep b o h fun z=>n (.inl z),s.dom,s.zm,fun a h=>(s.zn a h).elim .inl fun z=>.inr (z.elim (fun q=>.inl (.inl q)) .inr),s.mu,fun a h=>h.elim (fun q=>(s.nw a q).elim (fun z=>.inl (.inl z)) .inr) fun q=>.inl (.inr q),s.zd,s.ins⟩
theorem Step.same {g:G} {P:Fp} {H H':Hp} (s:Je H H'):Step g P H g P H':=
 have dm:∀ b,H' b=none->H b=none:=fun b h=>by
  cases e:H b with
  | none=>rfl
  | some o=>rw [s b o e] at h;cases h
 ⟨fun b o h _=>s b o h,dm,fun _ h=>h,fun _ h=>.inl h,⟨[],by simp⟩,fun _ h=>.inl h,fun z a h q=>z a h (dm a q),fun b C dx fs h=>⟨fs,s b _ h,fun _ _ z=>z⟩⟩
theorem Do {H:Hp} {a:Addr} {o u:HO} (h:H a=some u) (nu:∀ C dx fs,u≠.ins C dx fs):∀ b C dx fs,H b=some (.ins C dx fs)->∃ fs',upd H a o b=some (.ins C dx fs')/\∀ f r,fs.lookup f=some (.ref r)->fs'.lookup f=some (.ref r):=fun b C dx fs e =>
 ⟨fs,by rw [AD fun z=>by subst z;rw [h] at e;exact nu C dx fs (Option.some.inj e)];exact e,fun _ _ z=>z⟩
def FpOk (g:G) (H:Hp) (P:Fp):Prop:=∀ a,P a->cw (H a)/\¬ g.Z a
theorem FpOk.or {g:G} {H:Hp} {P Q:Fp} (h:FpOk g H P) (k:FpOk g H Q):FpOk g H fun a=>P a\/Q a:=fun a q=>q.elim (h a) (k a)
theorem FpOk.nop {g:G} {H:Hp}:FpOk g H nop:=fun _ z=>z.elim
theorem FpOk.new {g:G} {H:Hp} {P:Fp} (h:FpOk g H P) {a:Addr} (n:H a=none):¬ P a:=fun z=>by have:=(h a z).1;rw [n] at this;exact this
theorem nop_iff {P:Fp} (h:∀ a,¬ P a):P=nop:=funext fun a=>propext ⟨fun z=>(h a z).elim,fun z=>z.elim⟩
section
variable {K:W.Frag} {g g':G} {H H':Hp}
theorem Step.out {P P' R:Fp} (s:Step g P H g' P' H') (ok:FpOk g H R) (n:Disj R P):Disj R P':=fun a q z=>(s.nw a z).elim (fun z=>n a q z) fun z=>ok.new z q
theorem Lk.held {o:Nat} {a:Addr} {vs:List V} {P P':Fp} (h:Lk g H o a vs) (hn:o≠0->¬ P a) (s:Step g P H g' P' H') (ok:FpOk g H P):Lk g' H' o a vs:=by
 have np:¬ P a:=by
  by_cases z:o=0
  ·exact fun q=>(ok a q).2 (h.2.1 z)
  ·exact hn z
 refine ⟨s.keep _ _ h.1 np,fun z=>s.zm _ (h.2.1 z),fun z q=>?_⟩;rcases s.zn _ q with q | q | q
 ·exact h.2.2 z q
 ·exact np q
 ·rw [h.1] at q;cases q
mutual
theorem Rep.none0:∀ {d:Dv} {v:V} {R:Fp},Rep K g H 0 d v R->∀ a,¬ R a
 | .non,v,R,h | .bl _,v,R,h | .int _,v,R,h | .str _,v,R,h | .ty _,v,R,h | .mtp _,v,R,h | .ref _,v,R,h | .scr _,v,R,h=>by unfold Rep at h;exact h.2
 | .dtt ks ds,v,R,h=>by
  unfold Rep at h;obtain ⟨b,vs,e,h1,h2,h3,h5,h4⟩:=h;exact fun a q=>((h4 a).mp q).1 rfl
 | .dnt ks ds,v,R,h=>by
  unfold Rep at h;obtain ⟨b,vs,e,h1,h2,h3,h5,h4⟩:=h;exact fun a q=>((h4 a).mp q).1 rfl
 | .obj c fl nm ds,v,R,h=>by
  unfold Rep at h;obtain ⟨b,dx,vs,R',e,h1,hz,hn,hl,h2,h3,h5⟩:=h;exact fun a q=>((h5 a).mp q).elim (fun z=>z.1 rfl) fun z=>Reps.none0 h2 a z
 | .tup ds,v,R,h=>by
  unfold Rep at h;obtain ⟨_,vs,e,h1,h2⟩:=h;exact Reps.none0 h2
 | .lst ds,v,R,h=>by
  unfold Rep at h;obtain ⟨b,vs,R',e,h1,h2,h3,h5⟩:=h;exact fun a q=>((h5 a).mp q).elim (fun z=>z.1 rfl) fun z=>Reps.none0 h2 a z
 | .dct ks ds,v,R,h=>by
  unfold Rep at h;obtain ⟨b,vs,e,h1,h2,h3,h5,h4⟩:=h;exact fun a q=>((h4 a).mp q).1 rfl
theorem Reps.none0:∀ {ds:List Dv} {vs:List V} {R:Fp},Reps K g H 0 ds vs R->∀ a,¬ R a
 | [],vs,R,h=>by unfold Reps at h;exact h.2
 | d::ds,vs,R,h=>by
  unfold Reps at h;obtain ⟨v,r,P1,P2,e,h1,h2,h3,h4⟩:=h;exact fun a q=>((h4 a).mp q).elim (fun z=>Rep.none0 h1 a z) fun z=>Reps.none0 h2 a z
end
mutual
theorem Rep.held {P P':Fp} (s:Step g P H g' P' H') (ok:FpOk g H P):∀ {o:Nat} {d:Dv} {v:V} {R:Fp},Rep K g H o d v R->Disj R P->Rep K g' H' o d v R
 | _,.non,v,R,h,_ | _,.bl _,v,R,h,_ | _,.int _,v,R,h,_ | _,.str _,v,R,h,_ | _,.ty _,v,R,h,_ | _,.mtp _,v,R,h,_=>by unfold Rep at h ⊢;exact h
 | o,.dtt ks ds,v,R,h,d=>by
  unfold Rep at h ⊢;obtain ⟨a,vs,e,h1,h2,h3,⟨h5,R',h6⟩,h4⟩:=h;have hn:¬ P a:=fun z=>by
   by_cases q:o=0
   ·exact (ok a z).2 (h2 q)
   ·exact d a ((h4 a).mpr ⟨q,rfl⟩) z
  refine ⟨a,vs,e,s.keep _ _ h1 hn,fun q=>s.zm _ (h2 q),fun q z=>?_,⟨h5,R',Reps.held s ok h6 fun b q z=>(Reps.none0 h6 b q).elim⟩,h4⟩;rcases s.zn _ z with z | z | z
  ·exact h3 q z
  ·exact hn z
  ·rw [h1] at z;cases z
 | o,.dnt ks ds,v,R,h,d=>by
  unfold Rep at h ⊢;obtain ⟨a,vs,e,h1,h2,h3,⟨h5,R',h6⟩,h4⟩:=h;have hn:¬ P a:=fun z=>by
   by_cases q:o=0
   ·exact (ok a z).2 (h2 q)
   ·exact d a ((h4 a).mpr ⟨q,rfl⟩) z
  refine ⟨a,vs,e,s.keep _ _ h1 hn,fun q=>s.zm _ (h2 q),fun q z=>?_,⟨h5,R',Reps.held s ok h6 fun b q z=>(Reps.none0 h6 b q).elim⟩,h4⟩;rcases s.zn _ z with z | z | z
  ·exact h3 q z
  ·exact hn z
  ·rw [h1] at z;cases z
 | o,.obj c fl nm ds,v,R,h,d=>by
  unfold Rep at h ⊢;obtain ⟨a,dx,vs,R',e,h1,h2,h3,hl,h6,h7,h4⟩:=h;have hn:¬ P a:=fun z=>by
   by_cases q:o=0
   ·exact (ok a z).2 (h2 q)
   ·exact d a ((h4 a).mpr (.inl ⟨q,rfl⟩)) z
  refine ⟨a,dx,vs,R',e,s.keep _ _ h1 hn,fun q=>s.zm _ (h2 q),fun q z=>?_,hl,Reps.held s ok h6 fun b q z=>d b ((h4 b).mpr (.inr q)) z,h7,h4⟩;rcases s.zn _ z with z | z | z
  ·exact h3 q z
  ·exact hn z
  ·rw [h1] at z;cases z
 | o,.tup ds,v,R,h,n=>by
  unfold Rep at h ⊢;obtain ⟨a,vs,e,h1,h2⟩:=h;exact ⟨a,vs,e,s.keep _ _ h1 fun z=>(by have:=(ok a z).1;rw [h1] at this;exact this),Reps.held s ok h2 n⟩
 | o,.lst ds,v,R,h,n=>by
  unfold Rep at h ⊢;obtain ⟨a,vs,R',e,h1,h2,h3,h5⟩:=h;exact ⟨a,vs,R',e,h1.held (fun z q=>n a ((h5 a).mpr (.inl ⟨z,rfl⟩)) q) s ok,Reps.held s ok h2 fun b q z=>n b ((h5 b).mpr (.inr q)) z,h3,h5⟩
 | o,.dct ks ds,v,R,h,d=>by
  unfold Rep at h ⊢;obtain ⟨a,vs,e,h1,h2,h3,⟨h5,R',h6⟩,h4⟩:=h;have hn:¬ P a:=fun z=>by
   by_cases q:o=0
   ·exact (ok a z).2 (h2 q)
   ·exact d a ((h4 a).mpr ⟨q,rfl⟩) z
  refine ⟨a,vs,e,s.keep _ _ h1 hn,fun q=>s.zm _ (h2 q),fun q z=>?_,⟨h5,R',Reps.held s ok h6 fun b q z=>(Reps.none0 h6 b q).elim⟩,h4⟩;rcases s.zn _ z with z | z | z
  ·exact h3 q z
  ·exact hn z
  ·rw [h1] at z;cases z
 | _,.ref k,v,R,h,_=>by
  unfold Rep at h ⊢;obtain ⟨⟨a,h1,h2⟩,h3⟩:=h;obtain ⟨r,e⟩:=s.mu;refine ⟨⟨a,?_,h2⟩,h3⟩;rw [e,kc (kU.mp h1).1];exact h1
 | _,.scr ns,v,R,h,_=>by
  unfold Rep at h ⊢;obtain ⟨⟨a,h1,h2⟩,h3⟩:=h;refine ⟨⟨a,h1,?_⟩,h3⟩;rcases h2 with ⟨o,h2⟩ | h2
  ·exact .inl ⟨o,s.keep _ _ h2 fun z=>by have:=(ok a z).1;rw [h2] at this;exact this⟩
  ·exact .inr h2
theorem Reps.held {P P':Fp} (s:Step g P H g' P' H') (ok:FpOk g H P):∀ {o:Nat} {ds:List Dv} {vs:List V} {R:Fp},Reps K g H o ds vs R->Disj R P->Reps K g' H' o ds vs R
 | _,[],vs,R,h,_=>by unfold Reps at h ⊢;exact h
 | o,d::ds,vs,R,h,n=>by
  unfold Reps at h ⊢;obtain ⟨v,r,P1,P2,e,h1,h2,h3,h4⟩:=h;exact ⟨v,r,P1,P2,e,Rep.held s ok h1 fun a q z=>n a ((h4 a).mpr (.inl q)) z,Reps.held s ok h2 fun a q z=>n a ((h4 a).mpr (.inr q)) z,h3,h4⟩
end
mutual
theorem Rep.fpOk:∀ {o:Nat} {d:Dv} {v:V} {R:Fp},Rep K g H o d v R->FpOk g H R
 | _,.non,v,R,h,a,q | _,.bl _,v,R,h,a,q | _,.int _,v,R,h,a,q | _,.str _,v,R,h,a,q | _,.ty _,v,R,h,a,q | _,.mtp _,v,R,h,a,q | _,.ref _,v,R,h,a,q | _,.scr _,v,R,h,a,q=>by unfold Rep at h;exact (h.2 a q).elim
 | o,.dtt ks ds,v,R,h,a,q=>by
  unfold Rep at h;obtain ⟨b,vs,e,h1,h2,h3,h5,h4⟩:=h;obtain ⟨ho,rfl⟩:=(h4 a).mp q;exact ⟨by rw [h1];trivial,h3 ho⟩
 | o,.dnt ks ds,v,R,h,a,q=>by
  unfold Rep at h;obtain ⟨b,vs,e,h1,h2,h3,h5,h4⟩:=h;obtain ⟨ho,rfl⟩:=(h4 a).mp q;exact ⟨by rw [h1];trivial,h3 ho⟩
 | o,.obj c fl nm ds,v,R,h,a,q=>by
  unfold Rep at h;obtain ⟨b,dx,vs,R',e,h1,h2,h3,hl,h6,h7,h4⟩:=h;rcases (h4 a).mp q with ⟨z,rfl⟩ | z
  ·exact ⟨by rw [h1];trivial,h3 z⟩
  ·exact Reps.fpOk h6 a z
 | o,.tup ds,v,R,h,a,q=>by
  unfold Rep at h;obtain ⟨_,vs,e,h1,h2⟩:=h;exact Reps.fpOk h2 a q
 | o,.lst ds,v,R,h,a,q=>by
  unfold Rep at h;obtain ⟨b,vs,R',e,h1,h2,h3,h5⟩:=h;rcases (h5 a).mp q with ⟨z,rfl⟩ | z
  ·exact ⟨by rw [h1.1];trivial,h1.2.2 z⟩
  ·exact Reps.fpOk h2 a z
 | o,.dct ks ds,v,R,h,a,q=>by
  unfold Rep at h;obtain ⟨b,vs,e,h1,h2,h3,h5,h4⟩:=h;obtain ⟨ho,rfl⟩:=(h4 a).mp q;exact ⟨by rw [h1];trivial,h3 ho⟩
theorem Reps.fpOk:∀ {o:Nat} {ds:List Dv} {vs:List V} {R:Fp},Reps K g H o ds vs R->FpOk g H R
 | _,[],vs,R,h,a,q=>by unfold Reps at h;exact (h.2 a q).elim
 | o,d::ds,vs,R,h,a,q=>by
  unfold Reps at h;obtain ⟨v,r,P1,P2,e,h1,h2,h3,h4⟩:=h;rcases (h4 a).mp q with z | z
  ·exact Rep.fpOk h1 a z
  ·exact Reps.fpOk h2 a z
end
theorem Rep.iff {o:Nat} {d:Dv} {v:V} {P Q:Fp} (h:Rep K g H o d v P) (e:∀ a,Q a↔P a):Rep K g H o d v Q:=by
 have:Q=P:=funext fun a=>propext (e a)
 rw [this];exact h
theorem Reps.iff {o:Nat} {d:List Dv} {v:List V} {P Q:Fp} (h:Reps K g H o d v P) (e:∀ a,Q a↔P a):Reps K g H o d v Q:=by
 have:Q=P:=funext fun a=>propext (e a)
 rw [this];exact h
theorem Rep.z {d:Dv} {v:V} {R:Fp} (h:Rep K g H 0 d v R):Rep K g H 0 d v nop:=by rw [<- nop_iff h.none0];exact h
theorem Reps.z {d:List Dv} {v:List V} {R:Fp} (h:Reps K g H 0 d v R):Reps K g H 0 d v nop:=by rw [<- nop_iff h.none0];exact h
def G.add (g:G) (P:Fp):G:={ g with Z:=fun a=>g.Z a\/P a }
mutual
theorem Rep.freeze {P:Fp}:∀ {o:Nat} {d:Dv} {v:V} {R:Fp},Rep K g H o d v R->(∀ a,R a->P a)->Rep K (g.add P) H 0 d v nop
 | _,.non,v,R,h,_ | _,.bl _,v,R,h,_ | _,.int _,v,R,h,_ | _,.str _,v,R,h,_ | _,.ty _,v,R,h,_ | _,.mtp _,v,R,h,_ | _,.ref _,v,R,h,_ | _,.scr _,v,R,h,_=>by unfold Rep at h ⊢;exact ⟨h.1,fun _ z=>z⟩
 | o,.dtt ks ds,v,R,h,s=>by
  unfold Rep at h ⊢;obtain ⟨a,vs,e,h1,h2,h3,⟨h5,R',h6⟩,h4⟩:=h;refine ⟨a,vs,e,h1,fun _=>?_,fun z=>(z rfl).elim,⟨h5,nop,Reps.freeze h6 fun b q=>(Reps.none0 h6 b q).elim⟩,fun b=>⟨fun z=>z.elim,fun z=>(z.1 rfl).elim⟩⟩
  by_cases q:o=0
  ·exact .inl (h2 q)
  ·exact .inr (s a ((h4 a).mpr ⟨q,rfl⟩))
 | o,.dnt ks ds,v,R,h,s=>by
  unfold Rep at h ⊢;obtain ⟨a,vs,e,h1,h2,h3,⟨h5,R',h6⟩,h4⟩:=h;refine ⟨a,vs,e,h1,fun _=>?_,fun z=>(z rfl).elim,⟨h5,nop,Reps.freeze h6 fun b q=>(Reps.none0 h6 b q).elim⟩,fun b=>⟨fun z=>z.elim,fun z=>(z.1 rfl).elim⟩⟩
  by_cases q:o=0
  ·exact .inl (h2 q)
  ·exact .inr (s a ((h4 a).mpr ⟨q,rfl⟩))
 | o,.obj c fl nm ds,v,R,h,s=>by
  unfold Rep at h ⊢;obtain ⟨a,dx,vs,R',e,h1,h2,h3,hl,h6,h7,h4⟩:=h;refine ⟨a,dx,vs,nop,e,h1,fun _=>?_,fun z=>(z rfl).elim,hl,Reps.freeze h6 (fun b q=>s b ((h4 b).mpr (.inr q))),fun z=>z,fun b=>⟨fun z=>z.elim,fun z=>z.elim (fun q=>(q.1 rfl).elim) id⟩⟩
  by_cases q:o=0
  ·exact .inl (h2 q)
  ·exact .inr (s a ((h4 a).mpr (.inl ⟨q,rfl⟩)))
 | o,.tup ds,v,R,h,s=>by
  unfold Rep at h ⊢;obtain ⟨a,vs,e,h1,h2⟩:=h;exact ⟨a,vs,e,h1,Reps.freeze h2 s⟩
 | o,.lst ds,v,R,h,s=>by
  unfold Rep at h ⊢;obtain ⟨a,vs,R',e,h1,h2,h3,h5⟩:=h;refine ⟨a,vs,nop,e,⟨h1.1,fun _=>?_,fun z=>(z rfl).elim⟩,Reps.freeze h2 (fun b q=>s b ((h5 b).mpr (.inr q))),fun z=>z,fun b=>⟨fun z=>z.elim,fun z=>z.elim (fun q=>(q.1 rfl).elim) id⟩⟩
  by_cases q:o=0
  ·exact .inl (h1.2.1 q)
  ·exact .inr (s a ((h5 a).mpr (.inl ⟨q,rfl⟩)))
 | o,.dct ks ds,v,R,h,s=>by
  unfold Rep at h ⊢;obtain ⟨a,vs,e,h1,h2,h3,⟨h5,R',h6⟩,h4⟩:=h;refine ⟨a,vs,e,h1,fun _=>?_,fun z=>(z rfl).elim,⟨h5,nop,Reps.freeze h6 fun b q=>(Reps.none0 h6 b q).elim⟩,fun b=>⟨fun z=>z.elim,fun z=>(z.1 rfl).elim⟩⟩
  by_cases q:o=0
  ·exact .inl (h2 q)
  ·exact .inr (s a ((h4 a).mpr ⟨q,rfl⟩))
theorem Reps.freeze {P:Fp}:∀ {o:Nat} {ds:List Dv} {vs:List V} {R:Fp},Reps K g H o ds vs R->(∀ a,R a->P a)->Reps K (g.add P) H 0 ds vs nop
 | _,[],vs,R,h,_=>by unfold Reps at h ⊢;exact ⟨h.1,fun _ z=>z⟩
 | o,d::ds,vs,R,h,s=>by
  unfold Reps at h ⊢;obtain ⟨v,r,P1,P2,e,h1,h2,h3,h4⟩:=h;exact ⟨v,r,nop,nop,e,Rep.freeze h1 (fun a q=>s a ((h4 a).mpr (.inl q))),Reps.freeze h2 (fun a q=>s a ((h4 a).mpr (.inr q))),fun _ z=>z.elim,fun a=>⟨fun z=>z.elim,fun z=>z.elim id id⟩⟩
end
theorem Step.freeze {P:Fp} (ok:FpOk g H P):Step g P H (g.add P) nop H:=
 ⟨fun _ _ h _=>h,fun _ h=>h,fun _ h=>.inl h,fun a h=>h.elim .inl fun q=>.inr (.inl q),⟨[],by show g.μ=_;simp⟩,fun _ h=>h.elim,fun z a h q=>h.elim (fun h=>z a h q) fun h=>by have:=(ok a h).1;rw [q] at this;exact this,fun _ _ _ fs h=>⟨fs,h,fun _ _ z=>z⟩⟩
theorem Reps.nil {o:Nat}:Reps K g H o [] [] nop:=by unfold Reps;exact ⟨rfl,fun _ z=>z⟩
theorem Reps.cons {o:Nat} {d:Dv} {v:V} {ds:List Dv} {vs:List V} {P1 P2:Fp} (h1:Rep K g H o d v P1) (h2:Reps K g H o ds vs P2) (n:Disj P1 P2):Reps K g H o (d::ds) (v::vs) fun a=>P1 a\/P2 a:=by
 unfold Reps;exact ⟨v,vs,P1,P2,rfl,h1,h2,n,fun _=>Iff.rfl⟩
theorem Reps.len:∀ {o:Nat} {ds:List Dv} {vs:List V} {R:Fp},Reps K g H o ds vs R->ds.length=vs.length
 | _,[],vs,R,h=>by unfold Reps at h;rw [h.1];rfl
 | _,d::ds,vs,R,h=>by
  unfold Reps at h;obtain ⟨v,r,P1,P2,rfl,h1,h2,_⟩:=h;simp [h2.len]
theorem Reps.get:∀ {o:Nat} {ds:List Dv} {vs:List V} {R:Fp} {i:Nat} {d:Dv},Reps K g H o ds vs R->ds[i]?=some d->∃ v P,vs[i]?=some v/\Rep K g H o d v P/\∀ a,P a->R a
 | _,[],_,_,_,_,_,e=>by simp at e
 | _,d::ds,vs,R,i,d',h,e=>by
  unfold Reps at h;obtain ⟨v,r,P1,P2,rfl,h1,h2,_,h4⟩:=h;cases i with
  | zero=>simp at e;subst e;exact ⟨v,P1,rfl,h1,fun a q=>(h4 a).mpr (.inl q)⟩
  | succ i =>
   obtain ⟨v',P,e',h',s⟩:=h2.get (i:=i) (by simpa using e);exact ⟨v',P,by simpa using e',h',fun a q=>(h4 a).mpr (.inr (s a q))⟩
theorem Reps.app:∀ {o:Nat} {ds es:List Dv} {vs us:List V} {P Q:Fp},Reps K g H o ds vs P->Reps K g H o es us Q->Disj P Q->Reps K g H o (ds++es) (vs++us) fun a=>P a\/Q a
 | _,[],es,vs,us,P,Q,h,k,_=>by
  unfold Reps at h;obtain ⟨rfl,n⟩:=h;exact k.iff fun a=>⟨fun z=>z.elim (fun q=>(n a q).elim) id,.inr⟩
 | _,d::ds,es,vs,us,P,Q,h,k,n=>by
  unfold Reps at h;obtain ⟨v,r,P1,P2,rfl,h1,h2,h3,h4⟩:=h;have t:=Reps.app h2 k fun a q z=>n a ((h4 a).mpr (.inr q)) z
  refine (Reps.cons h1 t fun a q z=>z.elim (fun z=>h3 a q z) fun z=>n a ((h4 a).mpr (.inl q)) z).iff fun a=>?_
  rw [h4 a,or_assoc]
end
noncomputable abbrev M:=List Dv
noncomputable abbrev Gm:=List (Option Nat)
noncomputable def M.at (m:M) (i:Nat):Dv:=m.getD i .non
structure REnv (K:W.Frag) (g:G) (H:Hp) (Γ:Gm) (ρ:List Dv) (σ:St) (F:Nat->Fp):Prop where
 l1:ρ.length=Γ.length
 l2:σ.length=Γ.length
 rep:∀ i o,Γ[i]?=some (some o)->∃ d v,ρ[i]?=some d/\σ[i]?=some (some v)/\Rep K g H o d v (F i)
 out:∀ i,(∀ o,Γ[i]?≠some (some o))->∀ a,¬ F i a
 dj:∀ i j,i≠j->Disj (F i) (F j)
def Rel (K:W.Frag) (g:G) (H:Hp) (Γ:Gm) (m:M) (σ:St) (P:Fp):Prop:=Zd g H/\∃ F,REnv K g H Γ m σ F/\∀ a,P a↔∃ i,F i a
theorem DI {α:Type} {l:List α} {i j:Nat} {x y:α} (h:(l.set i x)[j]?=some y):(i=j/\y=x)\/(i≠j/\l[j]?=some y):=by
 by_cases e:i=j
 ·subst e;refine .inl ⟨rfl,?_⟩;rw [List.getElem?_set] at h;simp only [if_true] at h;split at h
  ·exact (Option.some.inj h).symm
  ·cases h
 ·rw [lG e] at h;exact .inr ⟨e,h⟩
theorem IX {m:M} {i:Nat} {d:Dv} (h:m[i]?=some d):m.at i=d:=by unfold M.at;rw [kz,h];rfl
section
variable {K:W.Frag} {g g':G} {H H':Hp} {Γ:Gm} {m:M} {σ:St} {P:Fp}
theorem Rel.zd (h:Rel K g H Γ m σ P):Zd g H:=h.1
theorem Rel.len (h:Rel K g H Γ m σ P):m.length=Γ.length/\σ.length=Γ.length:=let ⟨_,_,h1,_⟩:=h;⟨h1.l1,h1.l2⟩
theorem Rel.fpOk (h:Rel K g H Γ m σ P):FpOk g H P:=by
 obtain ⟨_,F,h1,h4⟩:=h;intro a q;obtain ⟨i,z⟩:=(h4 a).mp q
 by_cases e:∃ o,Γ[i]?=some (some o)
 ·obtain ⟨o,e⟩:=e;obtain ⟨d,v,_,_,r⟩:=h1.rep i o e;exact r.fpOk a z
 ·exact (h1.out i (fun o z=>e ⟨o,z⟩) a z).elim
theorem Rel.held {P' R:Fp} (s:Step g P H g' P' H') (ok:FpOk g H P) (h:Rel K g H Γ m σ R) (n:Disj R P):Rel K g' H' Γ m σ R:=by
 obtain ⟨zd,F,h1,h4⟩:=h;refine ⟨s.zd zd,F,⟨h1.l1,h1.l2,fun i o e=>?_,h1.out,h1.dj⟩,h4⟩;obtain ⟨d,v,e1,e2,r⟩:=h1.rep i o e;exact ⟨d,v,e1,e2,r.held s ok fun a q z=>n a ((h4 a).mpr ⟨i,q⟩) z⟩
theorem Rel.same (h:Rel K g H Γ m σ P) (s:Je H H'):Rel K g H' Γ m σ P:=h.held (Step.same (P:=nop) s) FpOk.nop fun _ _ z=>z
theorem Rel.see {i o:Nat} (h:Rel K g H Γ m σ P) (e:Γ[i]?=some (some o)):∃ v P1,σ[i]?=some (some v)/\Rep K g H o (m.at i) v P1/\∀ a,P1 a->P a:=by
 obtain ⟨_,F,h1,h4⟩:=h;obtain ⟨d,v,e1,e2,r⟩:=h1.rep i o e;exact ⟨v,F i,e2,by rw [IX e1];exact r,fun a q=>(h4 a).mpr ⟨i,q⟩⟩
theorem Rel.agree {m2:M} (h:Rel K g H Γ m σ P) (hl:m2.length=m.length) (ha:∀ i o,Γ[i]?=some (some o)->m2.at i=m.at i):Rel K g H Γ m2 σ P:=by
 obtain ⟨zd,F,h1,h4⟩:=h;refine ⟨zd,F,⟨hl.trans h1.l1,h1.l2,fun i o e=>?_,h1.out,h1.dj⟩,h4⟩;obtain ⟨d,v,e1,e2,r⟩:=h1.rep i o e;have hi:i < m2.length:=by rw [hl];exact (kU.mp e1).1
 refine ⟨d,v,?_,e2,r⟩;have:=ha i o e;unfold M.at at this;rw [kz,kz,e1,kT hi] at this;rw [kT hi];exact congrArg some this
theorem Rel.drop (i:Nat) (d:Dv) (x:Option V) (h:Rel K g H Γ m σ P):∃ P2,Rel K g H (Γ.set i none) (m.set i d) (σ.set i x) P2/\∀ a,P2 a->P a:=by
 obtain ⟨zd,F,h1,h4⟩:=h;refine ⟨fun a=>∃ j,j≠i/\F j a,⟨zd,fun j a=>j≠i/\F j a,⟨by rw [lD,lD,h1.l1],by rw [lD,lD,h1.l2],fun j o e=>?_,fun j e a q=>?_,fun j k n a q z=>h1.dj j k n a q.2 z.2⟩,fun _=>Iff.rfl⟩,fun a ⟨j,_,q⟩=>(h4 a).mpr ⟨j,q⟩⟩
 ·rcases DI e with ⟨_,z⟩ | ⟨n,e⟩
  ·cases z
  ·obtain ⟨d',v,e1,e2,r⟩:=h1.rep j o e;have eq:(fun a=>j≠i/\F j a)=F j:=funext fun a=>propext ⟨fun z=>z.2,fun z=>⟨fun q=>n q.symm,z⟩⟩
   exact ⟨d',v,by rw [lG n];exact e1,by rw [lG n];exact e2,by show Rep K g H o d' v (fun a=>j≠i/\F j a);rw [eq];exact r⟩
 ·refine h1.out j (fun o z=>e o ?_) a q.2;rw [lG fun z=>q.1 z.symm];exact z
theorem Rel.fill {i o:Nat} {d:Dv} {v:V} {P1:Fp} (h:Rel K g H Γ m σ P) (e:Γ[i]?=some none) (hd:m[i]?=some d) (hv:σ[i]?=some (some v)) (r:Rep K g H o d v P1) (n:Disj P1 P):Rel K g H (Γ.set i (some o)) m σ fun a=>P1 a\/P a:=by
 obtain ⟨zd,F,h1,h4⟩:=h;have fi:∀ a,¬ F i a:=h1.out i fun o z=>by rw [e] at z;cases z
 have hi:i < Γ.length:=(kU.mp e).1;refine ⟨zd,fun j a=>if j=i then P1 a else F j a,⟨by rw [lD];exact h1.l1,by rw [lD];exact h1.l2,fun j o' e'=>?_,fun j e' a q=>?_,fun j k nn a q z=>?_⟩,fun a=>?_⟩
 ·rcases DI e' with ⟨rfl,z⟩ | ⟨nn,e'⟩
  ·cases z;have eq:(fun a=>if i=i then P1 a else F i a)=P1:=funext fun a=>by rw [if_pos rfl]
   exact ⟨d,v,hd,hv,by show Rep K g H o d v fun a=>if i=i then P1 a else F i a;rw [eq];exact r⟩
  ·obtain ⟨d',v',e1,e2,r'⟩:=h1.rep j o' e';have eq:(fun a=>if j=i then P1 a else F j a)=F j:=funext fun a=>by rw [if_neg fun z=>nn z.symm]
   exact ⟨d',v',e1,e2,by show Rep K g H o' d' v' fun a=>if j=i then P1 a else F j a;rw [eq];exact r'⟩
 ·by_cases z:j=i
  ·subst z;exact e' o (lO hi)
  ·simp only [if_neg z] at q;exact h1.out j (fun o' z'=>e' o' (by rw [lG fun w=>z w.symm];exact z')) a q
 ·by_cases zj:j=i
  ·by_cases zk:k=i
   ·exact nn (zj.trans zk.symm)
   ·simp only [if_pos zj,if_neg zk] at q z;exact n a q ((h4 a).mpr ⟨k,z⟩)
  ·by_cases zk:k=i
   ·simp only [if_neg zj,if_pos zk] at q z;exact n a z ((h4 a).mpr ⟨j,q⟩)
   ·simp only [if_neg zj,if_neg zk] at q z;exact h1.dj j k nn a q z
 ·show P1 a\/P a↔_;rw [h4 a];refine ⟨fun z=>?_,fun ⟨j,z⟩=>?_⟩
  ·rcases z with z | ⟨j,z⟩
   ·exact ⟨i,by simp only [if_true];exact z⟩
   ·have:j≠i:=fun w=>fi a (w▸z)
    exact ⟨j,by simp only [if_neg this];exact z⟩
  ·by_cases zj:j=i
   ·simp only [if_pos zj] at z;exact .inl z
   ·simp only [if_neg zj] at z;exact .inr ⟨j,z⟩
theorem CH {α:Type} {l:List α} {i:Nat} {x:α} (h:l[i]?=some x):l.set i x=l:=by
 apply List.ext_getElem?;intro j
 by_cases e:i=j
 ·subst e;rw [lO (kU.mp h).1,h]
 ·rw [lG e]
theorem Rel.take {i o:Nat} (h:Rel K g H Γ m σ P) (e:Γ[i]?=some (some o)):∃ v P1 P2,σ[i]?=some (some v)/\m[i]?=some (m.at i)/\Rep K g H o (m.at i) v P1/\Rel K g H (Γ.set i none) m σ P2/\Disj P1 P2/\∀ a,P a↔P1 a\/P2 a:=by
 obtain ⟨zd,F,h1,h4⟩:=h;obtain ⟨d,v,e1,e2,r⟩:=h1.rep i o e;refine ⟨v,F i,fun a=>∃ j,j≠i/\F j a,e2,by rw [IX e1];exact e1,by rw [IX e1];exact r,⟨zd,fun j a=>j≠i/\F j a,⟨by rw [lD];exact h1.l1,by rw [lD];exact h1.l2,fun j o' e'=>?_,fun j e' a q=>?_,fun j k n a q z=>h1.dj j k n a q.2 z.2⟩,fun _=>Iff.rfl⟩,fun a q ⟨j,n,z⟩=>h1.dj i j (fun w=>n w.symm) a q z,fun a=>?_⟩
 ·rcases DI e' with ⟨_,z⟩ | ⟨n,e'⟩
  ·cases z
  ·obtain ⟨d',v',e3,e4,r'⟩:=h1.rep j o' e';have eq:(fun a=>j≠i/\F j a)=F j:=funext fun a=>propext ⟨fun z=>z.2,fun z=>⟨fun q=>n q.symm,z⟩⟩
   exact ⟨d',v',e3,e4,by show Rep K g H o' d' v' (fun a=>j≠i/\F j a);rw [eq];exact r'⟩
 ·exact h1.out j (fun o' z=>e' o' (by rw [lG fun w=>q.1 w.symm];exact z)) a q.2
 ·rw [h4 a];refine ⟨fun ⟨j,z⟩=>?_,fun z=>?_⟩
  ·by_cases zj:j=i
   ·exact .inl (zj▸z)
   ·exact .inr ⟨j,zj,z⟩
  ·rcases z with z | ⟨j,_,z⟩
   ·exact ⟨i,z⟩
   ·exact ⟨j,z⟩
theorem Cs {α:Type} (l:List α) (i:Nat) (x y:α):(l.set i x).set i y=l.set i y:=List.set_set ..
theorem Rel.setNew {Pv:Fp} {i o:Nat} {d:Dv} {v:V} (h:Rel K g H Γ m σ P) (hi:i < Γ.length) (hv:Rep K g H o d v Pv) (n:Disj Pv P) :
    ∃ P2,Rel K g H (Γ.set i (some o)) (m.set i d) (σ.set i (some v)) P2/\∀ a,P2 a->P a\/Pv a:=by
  obtain ⟨P2,h2,s⟩:=h.drop i d (some v);have l:=h.len;have:=h2.fill (i:=i) (lO hi) (lO (by omega)) (lO (by omega)) hv fun a q z=>n a q (s a z)
  rw [Cs] at this;exact ⟨_,this,fun a q=>q.elim .inr fun q=>.inl (s a q)⟩
theorem Rel.putIn {P1:Fp} {i o:Nat} {d:Dv} {v:V} (h:Rel K g H (Γ.set i none) m σ P) (hi:i < Γ.length) (hv:σ[i]?=some (some v)) (r:Rep K g H o d v P1) (n:Disj P1 P):∃ P2,Rel K g H (Γ.set i (some o)) (m.set i d) σ P2/\∀ a,P2 a->P1 a\/P a:=by
 obtain ⟨P2,h2,s⟩:=h.drop i d (some v);rw [CH hv] at h2;have l:=h.len;rw [lD] at l;have h3:=h2.fill (i:=i) (by rw [Cs];exact lO hi) (lO (by omega)) hv r fun a q z=>n a q (s a z)
 rw [Cs,Cs] at h3;exact ⟨_,h3,fun a q=>q.elim .inl fun q=>.inr (s a q)⟩
theorem Rel.freeze {i o:Nat} (h:Rel K g H Γ m σ P) (e:Γ[i]?=some (some o)):∃ g' P' v,Step g P H g' P' H/\Rel K g' H (Γ.set i (some 0)) m σ P'/\σ[i]?=some (some v)/\Rep K g' H 0 (m.at i) v nop:=by
 obtain ⟨v,P1,P2,ev,ed,r,r2,n,hP⟩:=h.take e;have st:Step g P1 H (g.add P1) nop H:=Step.freeze r.fpOk;have fr:Rep K (g.add P1) H 0 (m.at i) v nop:=r.freeze fun _ q=>q
 have r3:=r2.held st r.fpOk fun a q z=>n a z q
 have hi:i < Γ.length:=(kU.mp e).1;have r4:=r3.fill (i:=i) (lO hi) ed ev fr fun _ z=>z.elim
 rw [Cs] at r4;refine ⟨_,_,v,?_,r4,ev,fr⟩;exact (st.frame (R:=P2)).sub (fun a q=>(hP a).mpr q) fun a q=>q.elim (fun z=>z.elim) .inr
def BX:Gm->Gm->Bool
 | [],[]=>true
 | none::a,_::b=>BX a b
 | some o::a,some o'::b=>(o == 0 || o == o') && BX a b
 | _,_=>false
theorem DQ:∀ {a b:Gm},BX a b=true->a.length=b.length
 | [],[],_=>rfl
 | none::a,_::b,h=>by unfold BX at h;simp [DQ h]
 | some o::a,some o'::b,h=>by unfold BX at h;simp [DQ (mG.mp h).2]
 | [],_::_,h=>by cases h
 | some _::_,none::_,h=>by cases h
 | some _::_,[],h=>by cases h
 | none::_,[],h=>by cases h
theorem EF:∀ {a b:Gm} {i o:Nat},BX a b=true->a[i]?=some (some o)->∃ o',b[i]?=some (some o')/\(o=0\/o=o')
 | [],_,i,o,_,e=>by simp at e
 | none::a,x::b,i,o,h,e=>by
  unfold BX at h;cases i with
  | zero=>simp at e
  | succ i=>obtain ⟨o',e',z⟩:=EF (i:=i) h (by simpa using e);exact ⟨o',by simpa using e',z⟩
 | some p::a,some p'::b,i,o,h,e=>by
  unfold BX at h;rw [dL] at h;cases i with
  | zero =>
   simp at e;subst e;refine ⟨p',rfl,?_⟩;have:=h.1;rw [nr,beq_iff_eq,beq_iff_eq] at this;exact this
  | succ i=>obtain ⟨o',e',z⟩:=EF (i:=i) h.2 (by simpa using e);exact ⟨o',by simpa using e',z⟩
 | some _::_,none::_,_,_,h,_=>by cases h
 | some _::_,[],_,_,h,_=>by cases h
 | none::_,[],_,_,h,_=>by cases h
theorem Rel.weaken {Γ':Gm} (h:Rel K g H Γ m σ P) (e:BX Γ' Γ=true):∃ g' P',Step g P H g' P' H/\Rel K g' H Γ' m σ P':=by
 have ok:=h.fpOk;obtain ⟨zd,F,h1,h4⟩:=h
 let D:Fp:=fun a=>∃ i,Γ'[i]?=some (some 0)/\F i a
 have okD:FpOk g H D:=fun a ⟨i,_,q⟩=>ok a ((h4 a).mpr ⟨i,q⟩)
 have st:Step g D H (g.add D) nop H:=Step.freeze okD
 let F':Nat->Fp:=fun i a=>(∃ o,Γ'[i]?=some (some (o+1)))/\F i a
 refine ⟨g.add D,fun a=>∃ i,F' i a,?_,st.zd zd,F',⟨by rw [DQ e];exact h1.l1,by rw [DQ e];exact h1.l2,fun i o ei=>?_,fun i ei a q=>?_,fun i j n a q z=>h1.dj i j n a q.2 z.2⟩,fun _=>Iff.rfl⟩
 ·refine (st.frame (R:=fun a=>∃ i,F' i a)).sub (fun a q=>?_) fun a q=>.inr q
  rcases q with ⟨i,_,q⟩ | ⟨i,q⟩
  ·exact (h4 a).mpr ⟨i,q⟩
  ·exact (h4 a).mpr ⟨i,q.2⟩
 ·obtain ⟨o',eo,z⟩:=EF e ei;obtain ⟨d,v,e1,e2,r⟩:=h1.rep i o' eo;refine ⟨d,v,e1,e2,?_⟩;cases o with
  | zero =>
   have eq:F' i=nop:=nop_iff fun a ⟨⟨o,w⟩,_⟩=>by rw [ei] at w;cases w
   rw [eq];exact r.freeze fun a q=>⟨i,ei,q⟩
  | succ o =>
   have eq:F' i=F i:=funext fun a=>propext ⟨fun w=>w.2,fun w=>⟨⟨o,ei⟩,w⟩⟩
   rcases z with z | z
   ·cases z
   ·subst z;rw [eq];refine r.held st okD fun a q ⟨j,ej,z⟩=>?_
    by_cases w:i=j
    ·subst w;rw [ei] at ej;cases ej
    ·exact h1.dj i j w a q z
 ·obtain ⟨⟨o,w⟩,_⟩:=q;exact ei _ w
end
theorem PE.imp {X:Cx} {e:Expr} {t t':TE} (h:PE X e t) (k:∀ σ H Q,t' σ H Q->t σ H Q):PE X e t':=fun pins s σ H Q I q=>h pins s σ H Q I (k σ H Q q)
theorem PT.imp {X:Cx} {e:Expr} {t t':TT} (h:PT X e t) (k:∀ σ H Q,t' σ H Q->t σ H Q):PT X e t':=fun pins s σ H Q I q=>h pins s σ H Q I (k σ H Q q)
theorem PW.imp {X:Cx} {e:Expr} {t t':TT} (h:PW X e t) (k:∀ σ H Q,t' σ H Q->t σ H Q):PW X e t':=fun wh pins s σ H Q I q=>h wh pins s σ H Q I (k σ H Q q)
theorem PS.imp {X:Cx} {e:Stmt} {t t':TS} (h:PS X e t) (k:∀ D σ H,t' D σ H->t D σ H):PS X e t':=fun pins s σ H D I q=>h pins s σ H D I (k D σ H q)
theorem Cq.imp {X:Cx} {e:List Stmt} {t t':TS} (h:Cq X e t) (k:∀ D σ H,t' D σ H->t D σ H):Cq X e t':=fun pins s σ H D I q=>h pins s σ H D I (k D σ H q)
noncomputable abbrev Ev (α:Type):=(R:Type)->M->(α->M->Option R)->Option R
def BI (js:List Nat) (m m':M):Prop:=m'.length=m.length/\∀ i,i∉js->m'.at i=m.at i
theorem BI.refl {js:List Nat} {m:M}:BI js m m:=⟨rfl,fun _ _=>rfl⟩
theorem BI.trans {js ks:List Nat} {m m1 m2:M} (a:BI js m m1) (b:BI ks m1 m2):BI (js++ks) m m2:=⟨b.1.trans a.1,fun i h=>(b.2 i fun z=>h (ka _ z)).trans (a.2 i fun z=>h (ko _ z))⟩
theorem BI.set {m:M} {i:Nat} {d:Dv}:BI [i] m (m.set i d):=⟨lD ..,fun j h=>by
 have n:i≠j:=fun z=>h (by rw [z];exact mw _)
 unfold M.at;rw [kz,kz,lG n]⟩
theorem BI.mono {js ks:List Nat} {m m1:M} (a:BI js m m1) (h:∀ i∈js,i∈ks):BI ks m m1:=⟨a.1,fun i n=>a.2 i fun z=>n (h i z)⟩
def tE (K:W.Frag) (Γ:Gm) (o:Nat) (Γ':Gm) (js:List Nat) (f:Ev Dv):TE:=fun σ H Q=>∃ g m P,Rel K g H Γ m σ P/\∃ (R:Type) (k:Dv->M->Option R) (r:R),f R m k=some r /\
 ∀ d m' g' P' Pv v H',k d m'=some r->BI js m m'->Step g P H g' (fun a=>P' a\/Pv a) H'->Rep K g' H' o d v Pv->Rel K g' H' Γ' m' σ P'->Disj P' Pv->Q v H'
def tT (K:W.Frag) (Γ Γ':Gm) (js:List Nat) (f:Ev Bool):TT:=fun σ H Q=>∃ g m P,Rel K g H Γ m σ P/\∃ (R:Type) (k:Bool->M->Option R) (r:R),f R m k=some r /\
 ∀ b m' g' P' H',k b m'=some r->BI js m m'->Step g P H g' P' H'->Rel K g' H' Γ' m' σ P'->Q b H'
noncomputable def Pl (f:Str):List Str->List Dv->Option Dv
 | n::ns,d::ds=>if f == n then some d else Pl f ns ds
 | _,_=>none
noncomputable def Kp (f:Str) (x:Dv):List Str->List Dv->List Dv
 | n::ns,d::ds=>if f == n then x::ds else d::Kp f x ns ds
 | _,ds=>ds
def HM (d:Dv) (f:Str):Option Dv:=match d with
 | .obj _ _ nm xs=>Pl f nm xs
 | _=>none
def Bx (d:Dv) (f:Str) (x:Dv):Dv:=match d with
 | .obj c fl nm xs=>.obj c fl nm (Kp f x nm xs)
 | d=>d
noncomputable def Wo:Dv->Bool
 | .lst _=>true
 | .dct _ _=>true
 | .dtt _ _=>true
 | .dnt _ _=>true
 | .tup _=>true
 | .obj _ _ _ _=>true
 | _=>false
def CQ (d:Dv) (f:Str):Bool:=match HM d f with
 | some x=>Wo x
 | none=>false
section
variable {K:W.Frag} {g:G} {H:Hp}
theorem Gi {o:Nat} {d:Dv} {v:V} {P:Fp} (h:Rep K g H o d v P) (e:Wo d=true):∃ r,v=.ref r:=by
 cases d with
 | lst _=>unfold Rep at h;obtain ⟨a,_,_,e,_⟩:=h;exact ⟨a,e⟩
 | tup _=>unfold Rep at h;obtain ⟨a,_,e,_⟩:=h;exact ⟨a,e⟩
 | dct _ _=>unfold Rep at h;obtain ⟨a,_,e,_⟩:=h;exact ⟨a,e⟩
 | dtt _ _=>unfold Rep at h;obtain ⟨a,_,e,_⟩:=h;exact ⟨a,e⟩
 | dnt _ _=>unfold Rep at h;obtain ⟨a,_,e,_⟩:=h;exact ⟨a,e⟩
 | obj _ _ _ _=>unfold Rep at h;obtain ⟨a,_,_,_,e,_⟩:=h;exact ⟨a,e⟩
 | _=>cases e
theorem Kq {f:Str} {o:Nat}:∀ {nm:List Str} {ds:List Dv} {vs:List V} {P:Fp} {d:Dv},Reps K g H o ds vs P->Pl f nm ds=some d ->
    ∃ v P1 P2,(nm.zip vs).lookup f=some v/\Rep K g H o d v P1/\Disj P1 P2/\(∀ a,P a↔P1 a\/P2 a)/\∀ {g':G} {H':Hp} {y:Dv} {P1':Fp},Step g P1 H g' P1' H'->Rep K g' H' o y v P1'->Reps K g' H' o (Kp f y nm ds) vs fun a=>P1' a\/P2 a
  | [],ds,vs,P,d,h,e=>by cases ds<;>cases e
  | n::nm,[],vs,P,d,h,e=>by cases e
  | n::nm,x::ds,vs,P,d,h,e=>by
    unfold Reps at h;obtain ⟨v,r,P1,P2,rfl,h1,h2,h3,h4⟩:=h;unfold Pl at e;rw [lU,lR];cases c:f == n with
    | true =>
      rw [c] at e;simp only [if_true] at e;cases e;refine ⟨v,P1,P2,rfl,h1,h3,h4,fun {g' H' y P1'} st ry=>?_⟩;unfold Kp;rw [c];simp only [if_true];have n3:=st.out h2.fpOk fun a q z=>h3 a z q
      exact Reps.cons ry (h2.held st h1.fpOk fun a q z=>h3 a z q) fun a q z=>n3 a z q
    | false =>
      rw [c] at e;simp only [kg,if_false] at e;obtain ⟨w,Q1,Q2,e1,e2,e3,e4,e5⟩:=Kq h2 e;refine ⟨w,Q1,fun a=>P1 a\/Q2 a,e1,e2,fun a q z=>z.elim (fun z=>h3 a z ((e4 a).mpr (.inl q))) fun z=>e3 a q z,fun a=>?_,fun {g' H' y P1'} st ry=>?_⟩
      · rw [h4 a,e4 a];exact ⟨fun z=>z.elim (fun z=>.inr (.inl z)) fun z=>z.elim .inl fun z=>.inr (.inr z),fun z=>z.elim (fun z=>.inr (.inl z)) fun z=>z.elim .inl fun z=>.inr (.inr z)⟩
      · unfold Kp;rw [c];simp only [kg,if_false];have d1:Disj P1 Q1:=fun a q z=>h3 a q ((e4 a).mpr (.inl z))
        have n1:=st.out h1.fpOk d1;refine (Reps.cons (h1.held st e2.fpOk d1) (e5 st ry) fun a q z=>z.elim (fun z=>n1 a q z) fun z=>h3 a q ((e4 a).mpr (.inr z))).iff fun a=>?_
        exact ⟨fun z=>z.elim (fun z=>.inr (.inl z)) fun z=>z.elim .inl fun z=>.inr (.inr z),fun z=>z.elim (fun z=>.inr (.inl z)) fun z=>z.elim .inl fun z=>.inr (.inr z)⟩
theorem Cd {f:Str} {o:Nat} {x d:Dv} {v:V} {P:Fp} (h:Rep K g H o x v P) (hf:HM x f=some d):∃ a C dx fs w P1 P2,v=.ref a/\H a=some (.ins C dx fs)/\Cls K C/\DH K C f/\fs.lookup f=some w/\Rep K g H o d w P1/\Disj P1 P2/\(∀ b,P b↔P1 b\/P2 b) /\
    ∀ {g':G} {H':Hp} {y:Dv} {P1':Fp},Step g P1 H g' P1' H'->Rep K g' H' o y w P1'->Rep K g' H' o (Bx x f y) v fun a=>P1' a\/P2 a:=by
  cases x with
  | obj c fl nm xs =>
    have ok:=h.fpOk;unfold Rep at h;obtain ⟨a,dx,vs,R',rfl,h1,h2,h3,⟨hc,hl,hn⟩,h6,h7,h4⟩:=h;obtain ⟨w,P1,P2,e1,e2,e3,e4,e5⟩:=Kq h6 hf;have mem:f∈nm:=by
      have go:∀ {nm:List Str} {xs:List Dv},Pl f nm xs=some d->f∈nm:=by
        intro nm
        induction nm with
        | nil=>intro xs e;cases xs<;>cases e
        | cons n nm ih =>
          intro xs e;cases xs with
          | nil=>cases e
          | cons x xs =>
            unfold Pl at e;split at e
            · rename_i z;rw [beq_iff_eq.mp z];exact kZ
            · exact kX _ (ih e)
      exact go hf
    have len:∀ {nm:List Str} {xs:List Dv} {y:Dv},nm.length=xs.length->nm.length=(Kp f y nm xs).length:=by
      intro nm
      induction nm with
      | nil=>intro xs y e;cases xs<;>first | rfl | cases e
      | cons n nm ih =>
        intro xs y e;cases xs with
        | nil=>cases e
        | cons x xs =>
          unfold Kp;split
          · exact e
          · simp [ih (y:=y) (by simpa using e)]
    refine ⟨a,_,dx,_,w,P1,fun b=>(o≠0/\b=a)\/P2 b,rfl,h1,hc.1,hc.2 f (hn f mem),e1,e2,fun b q z=>z.elim (fun z=>h7 ((e4 a).mpr (.inl (z.2▸q)))) fun z=>e3 b q z,fun b=>?_,fun {g' H' y P1'} st ry=>?_⟩
    · rw [h4 b,e4 b];exact ⟨fun z=>z.elim (fun z=>.inr (.inl z)) fun z=>z.elim .inl fun z=>.inr (.inr z),fun z=>z.elim (fun z=>.inr (.inl z)) fun z=>z.elim .inl fun z=>.inr (.inr z)⟩
    · have na:¬ P1 a:=fun z=>h7 ((e4 a).mpr (.inl z))
      have na':¬ P1' a:=fun z=>(st.nw a z).elim na fun z=>by rw [h1] at z;cases z
      show Rep K g' H' o (.obj c fl nm (Kp f y nm xs)) _ _;unfold Rep;refine ⟨a,dx,vs,_,rfl,st.keep _ _ h1 na,fun q=>st.zm _ (h2 q),fun q z=>?_,⟨hc,len hl,hn⟩,e5 st ry,fun z=>z.elim na' fun z=>h7 ((e4 a).mpr (.inr z)),fun b=>?_⟩
      · rcases st.zn _ z with z | z | z
        · exact h3 q z
        · exact na z
        · rw [h1] at z;cases z
      · exact ⟨fun z=>z.elim (fun z=>.inr (.inl z)) fun z=>z.elim .inl fun z=>.inr (.inr z),fun z=>z.elim (fun z=>.inr (.inl z)) fun z=>z.elim .inl fun z=>.inr (.inr z)⟩
  | _=>cases hf
end
inductive Ar:Type 1 where
 | rf (i:Nat)
 | ev (Γ Γ':Gm) (js:List Nat) (f:Ev Dv)
 | fd (i:Nat) (f:Str)
def LV (K:W.Frag):Ar->TE
 | .rf i=>Co i
 | .ev Γ Γ' js f=>tE K Γ 0 Γ' js f
 | .fd i f=>OX K (Co i) f
def BE (K:W.Frag):List Ar->TA
 | []=>OW
 | a::as=>Xz (LV K a) (BE K as)
def AQ:List Ar->Ev (List Dv)
 | [],_,m,k=>k [] m
 | .rf i::as,R,m,k=>AQ as R m fun ds m1=>k (m1.at i::ds) m1
 | .ev _ _ _ f::as,R,m,k=>f R m fun d m1=>AQ as R m1 fun ds m2=>k (d::ds) m2
 | .fd i f::as,R,m,k=>bif CQ (m.at i) f then AQ as R m fun ds m1=>(HM (m1.at i) f).bind fun d=>k (d::ds) m1 else none
def AA:Gm->List Ar->Gm->List Nat->Prop
 | Γ,[],Γ',js=>Γ'=Γ/\js=[]
 | Γ,.rf i::as,Γ',js=>(∃ o,Γ[i]?=some (some o))/\(∃ o,o<=1/\Γ'[i]?=some (some o))/\AA Γ as Γ' js
 | Γ,.ev Γ1 Γ2 js1 _::as,Γ',js=>Γ1=Γ/\∃ js2,js=js1++js2/\AA Γ2 as Γ' js2
 | Γ,.fd i _::as,Γ',js=>(∃ o,Γ[i]?=some (some o))/\(∃ o,o<=1/\Γ'[i]?=some (some o))/\AA Γ as Γ' js
def AO (K:W.Frag) (g:G) (H:Hp) (Γ:Gm) (m:M) (σ:St):List Ar->List Dv->List V->Prop
 | [],ds,vs=>ds=[]/\vs=[]
 | .rf i::as,ds,vs=>∃ v ds' vs',ds=m.at i::ds'/\vs=v::vs'/\σ[i]?=some (some v)/\(∃ o,o<=1/\Γ[i]?=some (some o))/\AO K g H Γ m σ as ds' vs'
 | .ev _ _ _ _::as,ds,vs=>∃ d v ds' vs',ds=d::ds'/\vs=v::vs'/\Rep K g H 0 d v nop/\AO K g H Γ m σ as ds' vs'
 | .fd i f::as,ds,vs=>∃ d v ds' vs',ds=d::ds'/\vs=v::vs'/\(HM (m.at i) f=some d/\∃ a C dx fs,σ[i]?=some (some (.ref a))/\H a=some (.ins C dx fs)/\fs.lookup f=some v)/\(∃ o,o<=1/\Γ[i]?=some (some o))/\AO K g H Γ m σ as ds' vs'
theorem AL {K:W.Frag} {σ:St}:∀ (as:List Ar) {g:G} {Γ Γ':Gm} {js:List Nat} {m:M} {P:Fp} {H:Hp} {R:Type} {k:List Dv->M->Option R} {r:R} {Q:List V->Hp->Prop},Rel K g H Γ m σ P->AA Γ as Γ' js->AQ as R m k=some r ->
    (∀ ds m' g' P' vs H',k ds m'=some r->BI js m m'->Step g P H g' P' H'->AO K g' H' Γ' m' σ as ds vs->Rel K g' H' Γ' m' σ P'->Q vs H')->BE K as σ H Q
  | [],g,Γ,Γ',js,m,P,H,R,k,r,Q,rl,c,e,q=>by
    unfold AA at c;obtain ⟨rfl,rfl⟩:=c;exact q [] m g P [] H e BI.refl Step.refl (by unfold AO;exact ⟨rfl,rfl⟩) rl
  | .rf i::as,g,Γ,Γ',js,m,P,H,R,k,r,Q,rl,c,e,q=>by
    unfold AA at c;obtain ⟨⟨o,ho⟩,h2,c⟩:=c;obtain ⟨v,_,hv,_⟩:=rl.see ho;refine ⟨v,hv,AL as rl c e fun ds m' g' P' vs H' hk ag s ar r1=>q _ m' g' P' _ H' hk ag s ?_ r1⟩;unfold AO;exact ⟨v,ds,vs,rfl,rfl,hv,h2,ar⟩
  | .ev Γ1 Γ2 js1 f::as,g,Γ,Γ',js,m,P,H,R,k,r,Q,rl,c,e,q=>by
    unfold AA at c;obtain ⟨rfl,js2,rfl,c⟩:=c;refine ⟨g,m,P,rl,R,_,r,e,fun d m1 g1 P1 Pv v H1 hk ag s rv r1 n=>?_⟩;refine AL as r1 c hk fun ds m2 g2 P2 vs H2 hk2 ag2 s2 ar r2=>q _ m2 g2 P2 _ H2 hk2 (ag.trans ag2) ((s.less fun _ q=>.inl q).trans s2) ?_ r2
    unfold AO;exact ⟨d,v,ds,vs,rfl,rfl,rv.z.held s2 r1.fpOk fun _ z=>z.elim,ar⟩
  | .fd i f::as,g,Γ,Γ',js,m,P,H,R,k,r,Q,rl,c,e,q=>by
    unfold AA at c;obtain ⟨⟨o,ho⟩,h2,c⟩:=c;have e:(bif CQ (m.at i) f then AQ as R m fun ds m1=>(HM (m1.at i) f).bind fun d=>k (d::ds) m1 else none)=some r:=e;cases hr:CQ (m.at i) f with
    | false=>rw [hr] at e;cases e
    | true =>
      rw [hr] at e;have e:(AQ as R m fun ds m1=>(HM (m1.at i) f).bind fun d=>k (d::ds) m1)=some r:=e;unfold CQ at hr;cases hd:HM (m.at i) f with
      | none=>rw [hd] at hr;cases hr
      | some d0 =>
        rw [hd] at hr;obtain ⟨v0,P1,hv,rv,_⟩:=rl.see ho;obtain ⟨a,C,dx,fs,w,_,_,rfl,h1,hc,hn,hl,rw',_⟩:=Cd rv hd;obtain ⟨rr,rfl⟩:=Gi rw' hr;refine ⟨_,hv,a,C,dx,fs,_,rfl,h1,hc,hn,hl,AL as rl c e fun ds m' g' P' vs H' hk ag s ar r1=>?_⟩;obtain ⟨d,e1,e2⟩:=la.mp hk;obtain ⟨fs',h1',hl'⟩:=s.ins a C dx fs h1;refine q _ m' g' P' _ H' e2 ag s ?_ r1;unfold AO;exact ⟨d,_,ds,vs,rfl,rfl,⟨e1,a,C,dx,fs',hv,h1',hl' f rr hl⟩,h2,ar⟩
def RA (K:W.Frag) (g:G) (H:Hp):List Dv->List V->Prop
 | [],vs=>vs=[]
 | d::ds,vs=>∃ v r o P,vs=v::r/\o<=1/\Rep K g H o d v P/\RA K g H ds r
def Ae (K:W.Frag) (g:G) (H:Hp) (o:Nat) (d:Dv) (v:V) (H':Hp):Prop:=Je H H'/\∃ Pv,Rep K g H' o d v Pv/\∀ a,Pv a->H a=none
noncomputable abbrev Pr:=List Dv->Option Dv
abbrev OL:=List V->Hp->VK->Prop
def AJ (K:W.Frag) (p:Pr) (o:Nat) (R:OL):Prop:=∀ g H ds vs d Q,Zd g H->RA K g H ds vs->p ds=some d->(∀ v H',Ae K g H o d v H'->Q v H')->R vs H Q
def FC (p:Pr) (fa:Ev (List Dv)):Ev Dv:=fun R m k=>fa R m fun ds m'=>(p ds).bind fun d=>k d m'
theorem bind_some'.{u,v} {α:Type u} {β:Type v} {x:Option α} {f:α->Option β} {b:β} (h:x.bind f=some b):∃ a,x=some a/\f a=some b:=la.mp h
section
variable {K:W.Frag} {g:G} {H H':Hp} {σ:St} {Γ Γ':Gm} {m:M} {P:Fp}
theorem AO.ra (r:Rel K g H Γ m σ P):∀ {as:List Ar} {ds:List Dv} {vs:List V},AO K g H Γ m σ as ds vs->RA K g H ds vs
 | [],ds,vs,h=>by unfold AO at h;obtain ⟨rfl,rfl⟩:=h;unfold RA;rfl
 | .ev _ _ _ f::as,ds,vs,h=>by
  unfold AO at h;obtain ⟨d,v,ds',vs',rfl,rfl,h1,h2⟩:=h;unfold RA;exact ⟨v,vs',0,nop,rfl,by decide,h1,AO.ra r h2⟩
 | .rf i::as,ds,vs,h=>by
  unfold AO at h;obtain ⟨v,ds',vs',rfl,rfl,h1,⟨o,hl,ho⟩,h3⟩:=h;obtain ⟨v',P1,e,k,_⟩:=r.see ho;rw [h1] at e;cases e;unfold RA;exact ⟨v,vs',o,P1,rfl,hl,k,AO.ra r h3⟩
 | .fd i f::as,ds,vs,h=>by
  unfold AO at h;obtain ⟨d,v,ds',vs',rfl,rfl,⟨h1,a,C,dx,fs,hv,ha,hlk⟩,⟨o,hl,ho⟩,h3⟩:=h;obtain ⟨v',P1,e,k,_⟩:=r.see ho;rw [hv] at e;cases e;obtain ⟨a',C',dx',fs',w,Q1,Q2,ea,h1',_,_,hl',rw',_⟩:=Cd k h1;cases ea;rw [ha] at h1';cases h1';rw [hlk] at hl';cases hl';unfold RA;exact ⟨v,vs',o,Q1,rfl,hl,rw',AO.ra r h3⟩
theorem Ae.go {g0:G} {P0:Fp} {H0:Hp} {o:Nat} {d:Dv} {v:V} (s:Step g0 P0 H0 g P H) (r:Rel K g H Γ m σ P) (n:Ae K g H o d v H') :
    ∃ Pv,Step g0 P0 H0 g (fun a=>P a\/Pv a) H'/\Rep K g H' o d v Pv/\Rel K g H' Γ m σ P/\Disj P Pv:=by
  obtain ⟨sm,Pv,h1,h2⟩:=n;refine ⟨Pv,s.trans ⟨fun b o h _=>sm b o h,(Step.same (g:=g) (P:=nop) sm).dom,fun _ h=>h,fun _ h=>.inl h,⟨[],by simp⟩,fun a h=>h.elim .inl fun q=>.inr (h2 a q),(Step.same (g:=g) (P:=nop) sm).zd,(Step.same (g:=g) (P:=nop) sm).ins⟩,h1,r.same sm,fun a q z=>r.fpOk.new (h2 a z) q⟩
theorem CM {p:Pr} {o:Nat} {as:List Ar} {js:List Nat} {R:OL} (hp:AJ K p o R) (c:AA Γ as Γ' js) {Q:VK} (h:tE K Γ o Γ' js (FC p (AQ as)) σ H Q):BE K as σ H fun vs H1=>R vs H1 Q:=by
 obtain ⟨g,m,P,r,R',k,res,e,q⟩:=h;refine AL as r c e fun ds m' g' P' vs H1 hk ag s ar r1=>?_
 obtain ⟨d,e1,e2⟩:=bind_some' hk;refine hp g' H1 ds vs d Q r1.zd (ar.ra r1) e1 fun v H2 nw=>?_
 obtain ⟨Pv,s2,h1,r2,n2⟩:=Ae.go s r1 nw;exact q d m' g' P' Pv v H2 e2 ag s2 h1 r2 n2
end
def LS (r:R2):OL:=fun vs H Q=>match vs with | [x,y]=>r x y H Q | _=>False
def gy (r:V->Hp->VK->Prop):OL:=fun vs H Q=>match vs with | [x]=>r x H Q | _=>False
def Kr (d:Dv):Ev Dv:=fun _ m k=>k d m
def Nr (i:Nat):Ev Dv:=fun _ m k=>k (m.at i) m
section
variable {X:Cx} {e:Expr} {Γ Γ':Gm} {js:List Nat} {o:Nat} {f:Ev Dv}
theorem cn {v:V} {d:Dv} (h:PE X e (tC v)) (hd:∀ g H,Rep X.K g H o d v nop):PE X e (tE X.K Γ o Γ [] (Kr d)):=PE.imp h fun σ H Q q=>by
 obtain ⟨g,m,P,r,R,k,res,e,q⟩:=q;exact q d m g P nop v H e BI.refl (Step.refl.less fun _ q=>q.elim id False.elim) (hd g H) r fun _ _ z=>z
theorem di {i:Nat} (h:PE X e (Co i)) {o:Nat} (hi:Γ[i]?=some (some o)):PE X e (tE X.K Γ 0 (Γ.set i (some 0)) [] (Nr i)):=PE.imp h fun σ H Q q=>by
 obtain ⟨g,m,P,r,R,k,res,e,q⟩:=q;obtain ⟨g',P',v,s,r',ev,rv⟩:=r.freeze hi;exact ⟨v,ev,q _ m g' P' nop v H e BI.refl (s.less fun _ q=>q.elim id False.elim) rv r' fun _ _ z=>z⟩
theorem dq {i:Nat} (h:PE X e (Co i)) (hi:Γ[i]?=some (some o)):PE X e (tE X.K Γ o (Γ.set i none) [] (Nr i)):=PE.imp h fun σ H Q q=>by
 obtain ⟨g,m,P,r,R,k,res,e,q⟩:=q;obtain ⟨v,P1,P2,ev,_,rv,r2,n,hP⟩:=r.take hi;exact ⟨v,ev,q _ m g P2 P1 v H e BI.refl (Step.refl.less fun a q=>(hP a).mpr q.symm) rv r2 fun a q z=>n a z q⟩
theorem EB (h:PE X e (tE X.K Γ o Γ' js f)):PE X e (tE X.K Γ 0 Γ' js f):=PE.imp h fun σ H Q q=>by
 obtain ⟨g,m,P,r,R,k,res,e,q⟩:=q;refine ⟨g,m,P,r,R,k,res,e,fun d m' g' P' Pv v H' hk ag s rv r1 n=>?_⟩;have st:Step g' Pv H' (g'.add Pv) nop H':=Step.freeze rv.fpOk;refine q d m' (g'.add Pv) P' nop v H' hk ag (s.trans ?_) (rv.freeze fun _ q=>q) (r1.held st rv.fpOk n) fun _ _ z=>z
 exact (st.frame (R:=P')).sub (fun a q=>q.symm) fun a q=>q.elim .inr False.elim
end
def Nt (t:List Dv->Dv) (fa:Ev (List Dv)):Ev Dv:=fun R m k=>fa R m fun ds m'=>if ds.length<=1000000 then k (t ds) m' else none
noncomputable def evd:List Ar->Bool
 | []=>true
 | .ev _ _ _ _::as=>evd as
 | .rf _::_=>false
 | .fd _ _::_=>false
theorem AO.reps {K:W.Frag} {g:G} {H:Hp} {Γ:Gm} {m:M} {σ:St}:∀ {as:List Ar} {ds:List Dv} {vs:List V},evd as=true->AO K g H Γ m σ as ds vs->Reps K g H 0 ds vs nop
 | [],ds,vs,_,h=>by unfold AO at h;obtain ⟨rfl,rfl⟩:=h;exact Reps.nil
 | .ev _ _ _ f::as,ds,vs,e,h=>by
  unfold AO at h;obtain ⟨d,v,ds',vs',rfl,rfl,h1,h2⟩:=h;exact (Reps.cons h1 (AO.reps (by unfold evd at e;exact e) h2) fun _ z=>z.elim).iff fun a=>⟨fun z=>z.elim,fun z=>z.elim id id⟩
 | .rf i::as,ds,vs,e,h=>by unfold evd at e;cases e
 | .fd i _::as,ds,vs,e,h=>by unfold evd at e;cases e
section
variable {X:Cx} {es:List Expr} {Γ Γ':Gm} {js:List Nat} {as:List Ar} {pos:Pos}
theorem dk {x1} (hq:PA X es (BE X.K as)) (c:AA Γ as Γ' js) (he:evd as=true):PE X (.Tuple es x1 pos) (tE X.K Γ 1 Γ' js (Nt .tup (AQ as))):=PE.imp (aM hq) fun σ H Q q=>by
 obtain ⟨g,m,P,r,R,k,res,e,q⟩:=q;refine AL as r c e fun ds m' g' P' vs H1 hk ag s ar r1=>?_
 split at hk
 ·rename_i hz;have rp:=ar.reps he;refine ⟨by rw [<- rp.len];exact kr hz (by decide),fun p hp=>?_⟩;have sm:=Bf hp (.tup vs);have st:=Step.same (g:=g') (P:=nop) sm;refine q _ m' g' P' nop (.ref p) _ hk ag ((s.trans (Step.same sm)).less fun _ q=>q.elim id False.elim) ?_ (r1.same sm) fun _ _ z=>z
  unfold Rep;exact ⟨p,vs,rfl,AF,rp.held st FpOk.nop fun _ _ z=>z⟩
 ·cases hk
theorem Ae.lst {K:W.Frag} {g:G} {H:Hp} {ds:List Dv} {vs:List V} {p:Addr} (zd:Zd g H) (rp:Reps K g H 0 ds vs nop) (hp:H p=none):Ae K g H 1 (.lst ds) (.ref p) (upd H p (.lst vs)):=by
 have sm:=Bf hp (.lst vs);refine ⟨sm,fun b=>b=p,?_,fun a q=>q▸hp⟩;unfold Rep;exact ⟨p,vs,nop,rfl,⟨AF,(fun z=>by cases z),fun _ z=>zd p z hp⟩,rp.held (Step.same (g:=g) (P:=nop) sm) FpOk.nop fun _ _ z=>z,fun z=>z,fun b=>⟨fun z=>.inl ⟨by decide,z⟩,fun z=>z.elim (fun z=>z.2) False.elim⟩⟩
theorem du (hq:PA X es (BE X.K as)) (c:AA Γ as Γ' js) (he:evd as=true):PE X (.List es pos) (tE X.K Γ 1 Γ' js (Nt .lst (AQ as))):=PE.imp (aR hq) fun σ H Q q=>by
 obtain ⟨g,m,P,r,R,k,res,e,q⟩:=q;refine AL as r c e fun ds m' g' P' vs H1 hk ag s ar r1=>?_
 split at hk
 ·rename_i hz;have rp:=ar.reps he;refine ⟨by rw [<- rp.len];exact kr hz (by decide),fun p hp=>?_⟩;obtain ⟨Pv,s2,h1,r2,n2⟩:=Ae.go s r1 (Ae.lst r1.zd rp hp);exact q _ m' g' P' Pv (.ref p) _ hk ag s2 h1 r2 n2
 ·cases hk
end
def Dd:List Nat->Type
 | []=>Unit
 | [_]=>Dv
 | _::i::J=>Dv×Dd (i::J)
noncomputable def AX:(J:List Nat)->M->Dd J
 | [],_=>()
 | [i],m=>m.at i
 | i::j::J,m=>(m.at i,AX (j::J) m)
noncomputable def Ab:(J:List Nat)->M->Dd J->M
 | [],m,_=>m
 | [i],m,d=>m.set i d
 | i::j::J,m,t=>Ab (j::J) (m.set i t.1) t.2
theorem RO {m:M} {i:Nat} {d:Dv} (h:i < m.length):M.at (m.set i d) i=d:=IX (lO h)
theorem GW:∀ (J:List Nat) (m:M) (t:Dd J),(Ab J m t).length=m.length
 | [],_,_=>rfl
 | [i],m,d=>lD ..
 | i::j::J,m,t=>by unfold Ab;rw [GW];exact lD ..
theorem AR:∀ (J:List Nat) (m:M) (t:Dd J),BI J m (Ab J m t)
 | [],_,_=>BI.refl
 | [i],m,d=>BI.set
 | i::j::J,m,t=>by
  unfold Ab;exact (BI.set (i:=i)).trans (AR (j::J) _ _)
theorem NP:∀ (J:List Nat) (m m':M) (i:Nat),i < m.length->i∈J->M.at (Ab J m (AX J m')) i=m'.at i
 | [],_,_,_,_,h=>by cases h
 | [i],m,m',k,hk,h=>by
  have e:=lJ.mp h;subst e;exact RO hk
 | i::j::J,m,m',k,hk,h=>by
  show M.at (Ab (j::J) (m.set i (m'.at i)) (AX (j::J) m')) k=_
  by_cases z:k∈j::J
  ·exact NP (j::J) _ m' k (by rw [lD];exact hk) z
  ·rw [(AR (j::J) _ _).2 k z];rcases kh.mp h with e | e
   ·subst e;exact RO hk
   ·exact (z e).elim
def Ao (Γ:Gm) (js:List Nat):List Nat:=(List.range Γ.length).filter fun i=>js.contains i && (Γ.getD i none).isSome
theorem BH {Γ:Gm} {js:List Nat} {i o:Nat} (h:Γ[i]?=some (some o)):i∈Ao Γ js\/i∉js:=by
 by_cases e:i∈js
 ·refine .inl (mY.mpr ⟨mU.mpr (kU.mp h).1,?_⟩);rw [dL,kn,kz,h];exact ⟨e,rfl⟩
 ·exact .inr e
theorem Av {Γ:Gm} {js:List Nat} {i:Nat} (h:i∈Ao Γ js):i∈js:=by
 have:=(mY.mp h).2;rw [dL,kn] at this;exact this.1
theorem Rel.join {K:W.Frag} {g:G} {H:Hp} {Γ:Gm} {m m':M} {σ:St} {P:Fp} {J js:List Nat} (r:Rel K g H Γ m' σ P) (ag:BI js m m') (hj:∀ i o,Γ[i]?=some (some o)->i∈J\/i∉js):Rel K g H Γ (Ab J m (AX J m')) σ P:=by
 refine r.agree ((GW ..).trans ag.1.symm) fun i o e=>?_
 have hi:i < m.length:=by rw [<- ag.1,r.len.1];exact (kU.mp e).1
 by_cases z:i∈J
 ·exact NP J m m' i hi z
 ·rw [(AR J m _).2 i z];exact (ag.2 i ((hj i o e).elim (fun q=>(z q).elim) id)).symm
def iI (p:List Dv->Option Bool) (fa:Ev (List Dv)):Ev Bool:=fun R m k=>fa R m fun ds m'=>(p ds).bind fun b=>k b m'
def Wr (f:Ev Bool):Ev Dv:=fun R m k=>f R m fun b m'=>k (.bl b) m'
def Yq (f:Ev Bool):Ev Bool:=fun R m k=>f R m fun b m'=>k (!b) m'
def Nv {α:Type} (c:Ev Bool) (f g:Ev α):Ev α:=fun R m k=>c R m fun b m1=>if b=true then f R m1 k else g R m1 k
def Jn (α:Type):List Nat->Type
 | []=>α
 | i::J=>α×Dd (i::J)
def Yb {α:Type}:(J:List Nat)->α->M->Jn α J
 | [],a,_=>a
 | i::J,a,m=>(a,AX (i::J) m)
def jQ {α R:Type}:(J:List Nat)->M->Jn α J->(α->M->Option R)->Option R
 | [],m,a,k=>k a m
 | i::J,m,t,k=>k t.1 (Ab (i::J) m t.2)
theorem Qj {α R:Type} (J:List Nat) (m m':M) (a:α) (k:α->M->Option R):jQ J m (Yb J a m') k=k a (Ab J m (AX J m')):=by cases J<;>rfl
def Pm {α:Type} (J:List Nat) (f:Ev α):Ev α:=fun R m k=>(f (Jn α J) m fun a m'=>some (Yb J a m')).bind fun t=>jQ J m t k
section
variable {K:W.Frag} {Γ Γ' Γ2 Γ3:Gm} {js js2 js3 J:List Nat} {σ:St} {H:Hp} {o:Nat}
theorem JH {f:Ev Dv} {Q:VK} (hj:∀ i o,Γ'[i]?=some (some o)->i∈J\/i∉js) (hs:∀ i∈J,i∈js) (h:tE K Γ o Γ' js (Pm J f) σ H Q):tE K Γ o Γ' js f σ H Q:=by
 obtain ⟨g,m,P,r,R,k,res,e,q⟩:=h;obtain ⟨t,e1,e2⟩:=bind_some' e;refine ⟨g,m,P,r,_,_,t,e1,fun d m' g' P' Pv v H' hk ag s rv r1 n=>?_⟩;cases hk;rw [Qj] at e2;exact q d _ g' P' Pv v H' e2 ((AR J m _).mono hs) s rv (r1.join ag hj) n
theorem Na {f:Ev Bool} {Q:Bool->Hp->Prop} (hj:∀ i o,Γ'[i]?=some (some o)->i∈J\/i∉js) (hs:∀ i∈J,i∈js) (h:tT K Γ Γ' js (Pm J f) σ H Q):tT K Γ Γ' js f σ H Q:=by
 obtain ⟨g,m,P,r,R,k,res,e,q⟩:=h;obtain ⟨t,e1,e2⟩:=bind_some' e;refine ⟨g,m,P,r,_,_,t,e1,fun d m' g' P' H' hk ag s r1=>?_⟩;cases hk;rw [Qj] at e2;exact q d _ g' P' H' e2 ((AR J m _).mono hs) s (r1.join ag hj)
theorem Mt {f:Ev Bool} {Q:Bool->Hp->Prop} (hw:BX Γ2 Γ'=true) (hs:∀ i∈js,i∈js2) (h:tT K Γ Γ2 js2 f σ H Q):tT K Γ Γ' js f σ H Q:=by
 obtain ⟨g,m,P,r,R,k,res,e,q⟩:=h;refine ⟨g,m,P,r,R,k,res,e,fun b m' g' P' H' hk ag s r1=>?_⟩;obtain ⟨g2,P2,s2,r2⟩:=r1.weaken hw;exact q b m' g2 P2 H' hk (ag.mono hs) (s.trans s2) r2
theorem Mv {f:Ev Dv} {Q:VK} (hw:BX Γ2 Γ'=true) (hs:∀ i∈js,i∈js2) (h:tE K Γ 0 Γ2 js2 f σ H Q):tE K Γ 0 Γ' js f σ H Q:=by
 obtain ⟨g,m,P,r,R,k,res,e,q⟩:=h;refine ⟨g,m,P,r,R,k,res,e,fun b m' g' P' Pv v H' hk ag s rv r1 n=>?_⟩;obtain ⟨g2,P2,s2,r2⟩:=r1.weaken hw;exact q b m' g2 P2 nop v H' hk (ag.mono hs) (((s.less fun _ q=>.inl q).trans s2).less fun _ q=>q.elim id False.elim) (rv.z.held s2 r1.fpOk fun _ z=>z.elim) r2 fun _ _ z=>z
theorem gj {p:List Dv->Option Bool} {as:List Ar} {r:OL} (hp:AJ K (fun ds=>(p ds).map .bl) 0 r) (c:AA Γ as Γ' js) {Q:Bool->Hp->Prop} (h:tT K Γ Γ' js (iI p (AQ as)) σ H Q):BE K as σ H fun vs H1=>r vs H1 fun x H'=>∃ k,x=.bl k/\Q k H':=by
 obtain ⟨g,m,P,rl,R',k,res,e,q⟩:=h;refine AL as rl c e fun ds m' g' P' vs H1 hk ag s ar r1=>?_
 obtain ⟨b,e1,e2⟩:=bind_some' hk;refine hp g' H1 ds vs (.bl b) _ r1.zd (ar.ra r1) (by show (p ds).map _=_;rw [e1];rfl) fun v H2 nw=>?_
 obtain ⟨Pv,s2,h1,r2,n2⟩:=Ae.go s r1 nw;refine ⟨b,by unfold Rep at h1;exact h1.1,q b m' g' P' H2 e2 ag (s2.less fun _ q=>.inl q) r2⟩
theorem rep_bl {g:G} {o:Nat} {b:Bool} {v:V} {P:Fp} (h:Rep K g H o (.bl b) v P):v=.bl b:=by unfold Rep at h;exact h.1
theorem CL {g:G} {b:Bool}:Rep K g H o (.bl b) (.bl b) nop:=by unfold Rep;exact ⟨rfl,fun _ z=>z⟩
theorem ZT {t u:Ev Bool} {Q:Bool->Hp->Prop} (h:tT K Γ Γ' (js++js2) (Nv t u (fun R m k=>k false m)) σ H Q) (hw:BX Γ' Γ2=true):dS (tT K Γ Γ2 js t) (tT K Γ2 Γ' js2 u) σ H Q:=by
 obtain ⟨g,m,P,r,R,k,res,e,q⟩:=h;refine ⟨g,m,P,r,R,_,res,e,fun b m1 g1 P1 H1 hk ag s r1=>?_⟩;cases b with
 | true =>
  rw [if_pos rfl] at hk ⊢;exact ⟨g1,m1,P1,r1,R,k,res,hk,fun c m2 g2 P2 H2 hk2 ag2 s2 r2=>q c m2 g2 P2 H2 hk2 (ag.trans ag2) (s.trans s2) r2⟩
 | false =>
  rw [if_neg ku] at hk ⊢;obtain ⟨g2,P2,s2,r2⟩:=r1.weaken hw;exact q false m1 g2 P2 H1 hk (ag.mono fun _ z=>ko _ z) (s.trans s2) r2
theorem dH {t u:Ev Bool} {Q:Bool->Hp->Prop} (h:tT K Γ Γ' (js++js2) (Nv t (fun R m k=>k true m) u) σ H Q) (hw:BX Γ' Γ2=true):jU (tT K Γ Γ2 js t) (tT K Γ2 Γ' js2 u) σ H Q:=by
 obtain ⟨g,m,P,r,R,k,res,e,q⟩:=h;refine ⟨g,m,P,r,R,_,res,e,fun b m1 g1 P1 H1 hk ag s r1=>?_⟩;cases b with
 | false =>
  rw [if_neg ku] at hk ⊢;exact ⟨g1,m1,P1,r1,R,k,res,hk,fun c m2 g2 P2 H2 hk2 ag2 s2 r2=>q c m2 g2 P2 H2 hk2 (ag.trans ag2) (s.trans s2) r2⟩
 | true =>
  rw [if_pos rfl] at hk ⊢;obtain ⟨g2,P2,s2,r2⟩:=r1.weaken hw;exact q true m1 g2 P2 H1 hk (ag.mono fun _ z=>ko _ z) (s.trans s2) r2
theorem ZS {t:Ev Bool} {Q:Bool->Hp->Prop} (h:tT K Γ Γ' js (Yq t) σ H Q):dO (tT K Γ Γ' js t) σ H Q:=by
 obtain ⟨g,m,P,r,R,k,res,e,q⟩:=h;exact ⟨g,m,P,r,R,_,res,e,fun b m1 g1 P1 H1 hk ag s r1=>q (!b) m1 g1 P1 H1 hk ag s r1⟩
end
structure Kt (R:Type) where
 nx:M->Option R
 rt:Dv->M->Option R
 bk:M->Option R
 ct:M->Option R
noncomputable abbrev Es:=(R:Type)->M->Kt R->Option R
def Io (io:List Nat) (σ σ':St):Prop:=∀ i∈io,σ'[i]?=σ[i]?
theorem Io.refl {io:List Nat} {σ:St}:Io io σ σ:=fun _ _=>rfl
theorem Io.trans {io:List Nat} {σ σ1 σ2:St} (a:Io io σ σ1) (b:Io io σ1 σ2):Io io σ σ2:=fun i h=>(b i h).trans (a i h)
theorem Io.set {io:List Nat} {σ:St} {i:Nat} {x:Option V} (h:i∉io):Io io σ (σ.set i x):=fun j hj=>lG fun z=>h (by rw [z];exact hj)
structure Fr where
 io:List Nat
 Γr:Gm
 ro:Nat
structure AcS (K:W.Frag) (F:Fr) (Γl:Option Gm) (g:G) (P:Fp) (H:Hp) (σ:St) (D:Ends) (Γn:Option Gm) (js:List Nat) (m:M) {R:Type} (k:Kt R) (r:R):Prop where
 nx:∀ Γ' m' g' P' σ' H',Γn=some Γ'->k.nx m'=some r->BI js m m'->Step g P H g' P' H'->Io F.io σ σ'->Rel K g' H' Γ' m' σ' P'->D.nx σ' H'
 rt:∀ d m' g' P' Pv σ' v H',k.rt d m'=some r->BI js m m'->Step g P H g' (fun a=>P' a\/Pv a) H'->Io F.io σ σ'->Rep K g' H' F.ro d v Pv->Rel K g' H' F.Γr m' σ' P'->Disj P' Pv->D.rt v H'
 bk:∀ Γ' m' g' P' σ' H',Γl=some Γ'->k.bk m'=some r->BI js m m'->Step g P H g' P' H'->Io F.io σ σ'->Rel K g' H' Γ' m' σ' P'->D.bk σ' H'
 ct:∀ Γ' m' g' P' σ' H',Γl=some Γ'->k.ct m'=some r->BI js m m'->Step g P H g' P' H'->Io F.io σ σ'->Rel K g' H' Γ' m' σ' P'->D.ct σ' H'
def tS (K:W.Frag) (F:Fr) (Γl:Option Gm) (Γ:Gm) (Γn:Option Gm) (js:List Nat) (f:Es):TS:=fun D σ H=>∃ g m P,Rel K g H Γ m σ P/\∃ (R:Type) (k:Kt R) (r:R),f R m k=some r/\AcS K F Γl g P H σ D Γn js m k r
theorem AcS.later {K:W.Frag} {F:Fr} {Γl Γn:Option Gm} {g g1:G} {P P1:Fp} {H H1:Hp} {σ σ1:St} {D:Ends} {js ks:List Nat} {m m1:M} {R:Type} {k:Kt R} {r:R} (s:Step g P H g1 P1 H1) (i:Io F.io σ σ1) (ag:BI js m m1) (h:AcS K F Γl g P H σ D Γn (js++ks) m k r):AcS K F Γl g1 P1 H1 σ1 D Γn ks m1 k r:=
  ⟨fun Γ' m' g' P' σ' H' e hk a s' i' r'=>h.nx Γ' m' g' P' σ' H' e hk (ag.trans a) (s.trans s') (i.trans i') r',
   fun d m' g' P' Pv σ' v H' hk a s' i' rv r' n=>h.rt d m' g' P' Pv σ' v H' hk (ag.trans a) (s.trans s') (i.trans i') rv r' n,
   fun Γ' m' g' P' σ' H' e hk a s' i' r'=>h.bk Γ' m' g' P' σ' H' e hk (ag.trans a) (s.trans s') (i.trans i') r',
   fun Γ' m' g' P' σ' H' e hk a s' i' r'=>h.ct Γ' m' g' P' σ' H' e hk (ag.trans a) (s.trans s') (i.trans i') r'⟩
def Gy:Es:=fun _ m k=>k.nx m
def gD (f g:Es):Es:=fun R m k=>f R m { k with nx:=fun m1=>g R m1 k }
def Ks (c:Ev Bool) (f g:Es):Es:=fun R m k=>c R m fun b m1=>if b=true then f R m1 k else g R m1 k
def Yo (f:Ev Dv):Es:=fun R m k=>f R m k.rt
def Tc (f:Ev Dv):Es:=fun R m k=>f R m fun _ m1=>k.nx m1
section
variable {X:Cx} {F:Fr} {Γl Γn Γn2:Option Gm} {Γ Γ' Γ2:Gm} {js js2 js3 J:List Nat} {s:Stmt} {ss rest a b:List Stmt} {e c:Expr} {pos:Pos} {f f2:Es} {fe:Ev Dv} {t:Ev Bool} {o:Nat}
theorem GD {K:W.Frag} {D:Ends} {σ:St} {H:Hp} (h:tS K F Γl Γ (some Γ) [] Gy D σ H):D.nx σ H:=by
 obtain ⟨g,m,P,r,R,k,res,e,q⟩:=h;exact q.nx Γ m g P σ H rfl e BI.refl Step.refl Io.refl r
theorem de:Cq X [] (tS X.K F Γl Γ (some Γ) [] Gy):=Cq.imp Vv fun D σ H h=>GD h
theorem Zl:PS X (.Pass pos) (tS X.K F Γl Γ (some Γ) [] Gy):=PS.imp Vw fun D σ H h=>GD h
theorem df {x j pos'}:PS X (.Expr (.Constant (.str x) j pos) pos') (tS X.K F Γl Γ (some Γ) [] Gy):=PS.imp aE fun D σ H h=>GD h
theorem Zq (h1:PS X s (tS X.K F Γl Γ (some Γ2) js f)) (h2:Cq X rest (tS X.K F Γl Γ2 Γn js2 f2)):Cq X (s::rest) (tS X.K F Γl Γ Γn (js++js2) (gD f f2)):=Cq.imp (KR h1 h2) fun D σ H h=>by
 obtain ⟨g,m,P,r,R,k,res,e,q⟩:=h;refine ⟨g,m,P,r,R,_,res,e,⟨fun Γ' m' g' P' σ' H' e hk ag s' i' r'=>?_,fun d m' g' P' Pv σ' v H' hk ag=>q.rt d m' g' P' Pv σ' v H' hk (ag.mono fun _ z=>ko _ z),fun Γ' m' g' P' σ' H' e hk ag=>q.bk Γ' m' g' P' σ' H' e hk (ag.mono fun _ z=>ko _ z),fun Γ' m' g' P' σ' H' e hk ag=>q.ct Γ' m' g' P' σ' H' e hk (ag.mono fun _ z=>ko _ z)⟩⟩;cases e;exact ⟨g',m',P',r',R,k,res,hk,q.later s' i' ag⟩
theorem Zm (h1:PS X s (tS X.K F Γl Γ none js f)):Cq X (s::rest) (tS X.K F Γl Γ none js f):=Cq.imp (KR h1 (u:=fun _ _ _=>False) fun _ _ _ _ _ _ z=>z.elim) fun D σ H h=>by
 obtain ⟨g,m,P,r,R,k,res,e,q⟩:=h;exact ⟨g,m,P,r,R,k,res,e,(fun _ _ _ _ _ _ e=>by cases e),q.rt,q.bk,q.ct⟩
theorem dc (h1:PS X s (tS X.K F Γl Γ Γn js f)):Cq X [s] (tS X.K F Γl Γ Γn js f):=Vu h1
theorem dZ (hq:PE X e (tE X.K Γ F.ro F.Γr js fe)):PS X (.Return (some e) pos) (tS X.K F Γl Γ none js (Yo fe)):=PS.imp (aB hq) fun D σ H h=>by
 obtain ⟨g,m,P,r,R,k,res,e,q⟩:=h;exact ⟨g,m,P,r,R,_,res,e,fun d m' g' P' Pv v H' hk ag s rv r1 n=>q.rt d m' g' P' Pv σ v H' hk ag s Io.refl rv r1 n⟩
theorem Zp (hq:PE X e (tE X.K Γ o Γ' js fe)) (hs:swapsWith e none pos.line X.env=pure false):PS X (.Expr e pos) (tS X.K F Γl Γ (some Γ') js (Tc fe)):=PS.imp (Vx hq hs) fun D σ H h=>by
 obtain ⟨g,m,P,r,R,k,res,e,q⟩:=h;exact ⟨g,m,P,r,R,_,res,e,fun d m' g' P' Pv v H' hk ag s rv r1 n=>q.nx Γ' m' g' P' σ H' rfl hk ag (s.less fun _ q=>.inl q) Io.refl r1⟩
theorem ib (hc:PT X c (tT X.K Γ Γ2 js t)) (ha:Cq X a (tS X.K F Γl Γ2 Γn js2 f)) (hb:Cq X b (tS X.K F Γl Γ2 Γn js3 f2)):PS X (.If c a b pos) (tS X.K F Γl Γ Γn (js++(js2++js3)) (Ks t f f2)):=PS.imp (eW hc ha hb) fun D σ H h=>by
 obtain ⟨g,m,P,r,R,k,res,e,q⟩:=h;refine ⟨g,m,P,r,R,_,res,e,fun b m1 g1 P1 H1 hk ag s r1=>?_⟩;have q2:=q.later s Io.refl ag;have mo:∀ (ks:List Nat),(∀ i∈ks,i∈js2++js3)->AcS X.K F Γl g1 P1 H1 σ D Γn ks m1 k res:=fun ks hks =>
  ⟨fun Γ' m' g' P' σ' H' e hk a=>q2.nx Γ' m' g' P' σ' H' e hk (a.mono hks),fun d m' g' P' Pv σ' v H' hk a=>q2.rt d m' g' P' Pv σ' v H' hk (a.mono hks),fun Γ' m' g' P' σ' H' e hk a=>q2.bk Γ' m' g' P' σ' H' e hk (a.mono hks),fun Γ' m' g' P' σ' H' e hk a=>q2.ct Γ' m' g' P' σ' H' e hk (a.mono hks)⟩
 cases b with
 | true=>rw [if_pos rfl] at hk;show (if true=true then _ else _);rw [if_pos rfl];exact ⟨g1,m1,P1,r1,R,k,res,hk,mo js2 fun _ z=>ko _ z⟩
 | false=>rw [if_neg ku] at hk;show (if false=true then _ else _);rw [if_neg ku];exact ⟨g1,m1,P1,r1,R,k,res,hk,mo js3 fun _ z=>ka _ z⟩
def JF:Option Gm->Option Gm->Bool
 | some a,some b=>BX a b
 | _,none=>true
 | none,some _=>false
theorem RV (h:Cq X ss (tS X.K F Γl Γ Γn js f)) (hw:JF Γn2 Γn=true):Cq X ss (tS X.K F Γl Γ Γn2 js f):=Cq.imp h fun D σ H h=>by
 obtain ⟨g,m,P,r,R,k,res,e,q⟩:=h;refine ⟨g,m,P,r,R,k,res,e,fun Γ' m' g' P' σ' H' e hk ag s' i' r'=>?_,q.rt,q.bk,q.ct⟩;subst e;cases Γn2 with
 | none=>cases hw
 | some Γ3 =>
  obtain ⟨g2,P2,s2,r2⟩:=r'.weaken (by unfold JF at hw;exact hw);exact q.nx Γ3 m' g2 P2 σ' H' rfl hk ag (s'.trans s2) i' r2
def gG (J:List Nat) (f:Es):Es:=fun R m k=>(f (Dd J) m ⟨fun m'=>some (AX J m'),fun _ _=>none,fun _=>none,fun _=>none⟩).bind fun t=>k.nx (Ab J m t)
theorem bR {K:W.Frag} {D:Ends} {σ:St} {H:Hp} (hj:∀ i o,Γ'[i]?=some (some o)->i∈J\/i∉js) (hs:∀ i∈J,i∈js) (h:tS K F Γl Γ (some Γ') js (gG J f) D σ H):tS K F Γl Γ (some Γ') js f D σ H:=by
 obtain ⟨g,m,P,r,R,k,res,e,q⟩:=h;obtain ⟨t,e1,e2⟩:=bind_some' e;refine ⟨g,m,P,r,_,_,t,e1,⟨fun Γ2 m' g' P' σ' H' e hk ag s' i' r'=>?_,(fun _ _ _ _ _ _ _ _ hk=>by cases hk),(fun _ _ _ _ _ _ _ hk=>by cases hk),fun _ _ _ _ _ _ _ hk=>by cases hk⟩⟩;cases e;cases hk;exact q.nx Γ' _ g' P' σ' H' rfl e2 ((AR J m _).mono hs) s' i' (r'.join ag hj)
end
noncomputable abbrev Tg:=(R:Type)->Dv->M->(M->Option R)->Option R
def Ag (js:List Nat) (σ σ':St):Prop:=σ'.length=σ.length/\∀ i,i∉js->σ'[i]?=σ[i]?
theorem Ag.io {js io:List Nat} {σ σ':St} (h:Ag js σ σ') (d:∀ i∈io,i∉js):Io io σ σ':=fun i hi=>h.2 i (d i hi)
theorem Ag.trans {js ks:List Nat} {σ σ1 σ2:St} (a:Ag js σ σ1) (b:Ag ks σ1 σ2):Ag (js++ks) σ σ2:=⟨b.1.trans a.1,fun i h=>(b.2 i fun z=>h (ka _ z)).trans (a.2 i fun z=>h (ko _ z))⟩
theorem Ag.set {σ:St} {i:Nat} {x:Option V}:Ag [i] σ (σ.set i x):=⟨lD ..,fun j h=>lG fun z=>h (by rw [z];exact mw _)⟩
def Jc (K:W.Frag) (Γ Γ':Gm) (js:List Nat) (tg:TG) (f:Tg):Prop:=∀ (g:G) (m:M) (P:Fp) (d:Dv) (v:V) (σ:St) (H:Hp) (R:Type) (k:M->Option R) (r:R) (Q:St->Hp->Prop),Rel K g H Γ m σ P->Rep K g H 0 d v nop->f R d m k=some r ->
 (∀ m' P' σ',k m'=some r->BI js m m'->(∀ a,P' a->P a)->Ag js σ σ'->Rel K g H Γ' m' σ' P'->Q σ' H)->tg v σ H Q
def dF (i:Nat):Tg:=fun _ d m k=>k (m.set i d)
theorem VT {K:W.Frag} {Γ:Gm} {i:Nat} (hi:i < Γ.length):Jc K Γ (Γ.set i (some 0)) [i] (Cj i) (dF i):=fun g m P d v σ H R k r Q rl rv e q=>by
 obtain ⟨P2,r2,s⟩:=rl.setNew hi rv fun _ z=>z.elim
 exact q _ P2 _ e BI.set (fun a z=>(s a z).elim id False.elim) Ag.set r2
noncomputable def ZR:(J:List Nat)->List Dv->Option (Dd J)
 | [],[]=>some ()
 | [_],[d]=>some d
 | _::j::J,d::ds=>(ZR (j::J) ds).bind fun t=>some (d,t)
 | _,_=>none
def ZK (J:List Nat) (d:Dv):Option (Dd J):=match d with
 | .tup ds=>ZR J ds
 | .lst ds=>ZR J ds
 | _=>none
def jS (J:List Nat):Tg:=fun _ d m k=>(ZK J d).bind fun t=>k (Ab J m t)
def Cz:List Nat->Jd
 | []=>Km
 | i::J=>CP (Cj i) (Cz J)
def RQ (Γ:Gm) (J:List Nat) (x:Option Nat):Gm:=J.foldl (fun Γ i=>Γ.set i x) Γ
theorem RP (J:List Nat) (x:Option Nat):∀ Γ:Gm,(RQ Γ J x).length=Γ.length:=by
 induction J with
 | nil=>intro Γ;rfl
 | cons i J ih=>intro Γ;show (RQ (Γ.set i x) J x).length=_;rw [ih,lD]
theorem Hs {K:W.Frag}:∀ (J:List Nat) {Γ:Gm} {g:G} {m:M} {P:Fp} {ds:List Dv} {vs:List V} {σ:St} {H:Hp} {t:Dd J} {Q:St->Hp->Prop},(∀ i∈J,i < Γ.length)->Rel K g H Γ m σ P->Reps K g H 0 ds vs nop->ZR J ds=some t ->
    (∀ P' σ',(∀ a,P' a->P a)->Ag J σ σ'->Rel K g H (RQ Γ J (some 0)) (Ab J m t) σ' P'->Q σ' H)->ds.length=J.length/\Cz J vs σ H Q
  | [],Γ,g,m,P,ds,vs,σ,H,t,Q,hJ,r,rv,e,q=>by
    cases ds with
    | nil =>
      unfold Reps at rv;exact ⟨rfl,rv.1,q P σ (fun _ z=>z) ⟨rfl,fun _ _=>rfl⟩ r⟩
    | cons d ds=>cases e
  | [i],Γ,g,m,P,ds,vs,σ,H,t,Q,hJ,r,rv,e,q=>by
    match ds,e with
    | [d],e =>
      cases e;unfold Reps at rv;obtain ⟨v,vr,P1,P2,rfl,h1,h2,_,h4⟩:=rv;unfold Reps at h2;obtain ⟨P3,r3,s⟩:=r.setNew (hJ i kZ) h1.z fun _ z=>z.elim
      exact ⟨rfl,v,vr,rfl,h2.1,q P3 _ (fun a z=>(s a z).elim id False.elim) Ag.set r3⟩
    | [],e=>cases e
    | _::_::_,e=>cases e
  | i::j::J,Γ,g,m,P,ds,vs,σ,H,t,Q,hJ,r,rv,e,q=>by
    match ds,e with
    | [],e=>cases e
    | d::ds,e =>
      obtain ⟨t',e1,e2⟩:=bind_some' (show (ZR (j::J) ds).bind (fun t=>some (d,t))=some t from e);cases e2;unfold Reps at rv;obtain ⟨v,vr,P1,P2,rfl,h1,h2,_,h4⟩:=rv;obtain ⟨P3,r3,s⟩:=r.setNew (hJ i kZ) h1.z fun _ z=>z.elim
      have s':∀ a,P3 a->P a:=fun a z=>(s a z).elim id False.elim
      have:=Hs (j::J) (Q:=Q) (fun k hk=>by rw [lD];exact hJ k (kX _ hk)) r3 h2.z e1 fun P' σ' sp ag r'=>q P' σ' (fun a z=>s' a (sp a z)) (Ag.set.trans ag) r'
      exact ⟨by simp [this.1],v,vr,rfl,this.2⟩
abbrev TB (K:W.Frag) (n:Nat) (t:Jd):TG:=fun v σ H Q=>bX K n t v σ H Q\/bZ n t v σ H Q
theorem Qq {K:W.Frag} {Γ:Gm} {J:List Nat} (hJ:∀ i∈J,i < Γ.length):Jc K Γ (RQ Γ J (some 0)) J (TB K J.length (Cz J)) (jS J):=fun g m P d v σ H R k r Q rl rv e q=>by
 obtain ⟨t,e1,e2⟩:=bind_some' e;have go:∀ {ds vs},Reps K g H 0 ds vs nop->ZR J ds=some t->ds.length=J.length/\Cz J vs σ H Q:=fun h1 h2=>Hs J hJ rl h1 h2 fun P' σ' sp ag r'=>q _ P' σ' e2 (AR J m t) sp ag r'
 cases d with
 | tup ds =>
  unfold Rep at rv;obtain ⟨a,vs,rfl,h1,h2⟩:=rv;obtain ⟨l,z⟩:=go h2 e1;exact .inl ⟨a,vs,rfl,.inl (.inl h1),by rw [<- h2.len];exact l,z⟩
 | lst ds =>
  unfold Rep at rv;obtain ⟨a,vs,P',rfl,h1,h2,_⟩:=rv;obtain ⟨l,z⟩:=go h2.z e1;exact .inr ⟨a,vs,rfl,h1.1,by rw [<- h2.len];exact l,z⟩
 | _=>cases e1
theorem PG.or {X:Cx} {e:Expr} {t u:TG} (h:PG X e t) (k:PG X e u):PG X e fun v σ H Q=>t v σ H Q\/u v σ H Q:=fun pins s σ H v w Q I r q=>q.elim (h pins s σ H v w Q I r) (k pins s σ H v w Q I r)
theorem Sx {js:List Nat} {t u:TG} (h:OP js t) (k:OP js u):OP js fun v σ H Q=>t v σ H Q\/u v σ H Q:=fun x σ H Q q=>q.elim (fun q=>.inl (h x σ H Q q)) fun q=>.inr (k x σ H Q q)
theorem Dj {js:List Nat}:∀ (J:List Nat),(∀ i∈J,i∈js)->LU js (Cz J)
 | [],_=>Kl
 | i::J,h=>Ph (h i kZ) (Dj J fun k hk=>h k (kX _ hk))
def jR (f1 f2:Tg):Tg:=fun R d m k=>(ZK [0,1] d).bind fun t=>f1 R t.1 m fun m1=>f2 R t.2 m1 k
theorem VS {K:W.Frag} {Γ Γ1 Γ2:Gm} {J1 J2:List Nat} {g1 g2:TG} {f1 f2:Tg} (h1:Jc K Γ Γ1 J1 g1 f1) (h2:Jc K Γ1 Γ2 J2 g2 f2):Jc K Γ Γ2 (J1++J2) (TB K 2 (CP g1 (CP g2 Km))) (jR f1 f2):=fun g m P d v σ H R k r Q rl rv e q=>by
 obtain ⟨t,e1,e2⟩:=bind_some' e;have go:∀ {ds vs},Reps K g H 0 ds vs nop->ZR [0,1] ds=some t->vs.length=2/\CP g1 (CP g2 Km) vs σ H Q:=fun {ds vs} hr et=>by
  match ds,et with
  | [x,y],et =>
   cases et;unfold Reps at hr;obtain ⟨vx,r1,P1,P2,rfl,hx,hr,_⟩:=hr;unfold Reps at hr;obtain ⟨vy,r2,P3,P4,rfl,hy,hr,_⟩:=hr;unfold Reps at hr;obtain ⟨rfl,_⟩:=hr;exact ⟨rfl,vx,[vy],rfl,h1 g m P x vx σ H R _ r _ rl hx.z e2 fun m1 P1 σ1 k1 a1 p1 s1 r1=>⟨vy,[],rfl,h2 g m1 P1 y vy σ1 H R k r _ r1 hy.z k1 fun m2 P2 σ2 k2 a2 p2 s2 r2=>⟨rfl,q m2 P2 σ2 k2 (a1.trans a2) (fun a z=>p1 a (p2 a z)) (s1.trans s2) r2⟩⟩⟩
  | [],et=>cases et
  | [_],et=>cases et
  | _::_::_::_,et=>cases et
 cases d with
 | tup ds =>
  unfold Rep at rv;obtain ⟨a,vs,rfl,h1,h2⟩:=rv;obtain ⟨l,z⟩:=go h2 e1;exact .inl ⟨a,vs,rfl,.inl (.inl h1),l,z⟩
 | lst ds =>
  unfold Rep at rv;obtain ⟨a,vs,P',rfl,h1,h2,_⟩:=rv;obtain ⟨l,z⟩:=go h2.z e1;exact .inr ⟨a,vs,rfl,h1.1,l,z⟩
 | _=>cases e1
def VF (t:TG):Prop:=∀ v σ H (Q Q':St->Hp->Prop),t v σ H Q->(∀ σ H,Q σ H->Q' σ H)->t v σ H Q'
def Ie (t:Jd):Prop:=∀ v σ H (Q Q':St->Hp->Prop),t v σ H Q->(∀ σ H,Q σ H->Q' σ H)->t v σ H Q'
theorem Hu {i:Nat}:VF (Cj i):=fun _ _ _ _ _ h q=>q _ _ h
theorem Gd:Ie Km:=fun _ _ _ _ _ h q=>⟨h.1,q _ _ h.2⟩
theorem Hv {t:TG} {u:Jd} (ht:VF t) (hu:Ie u):Ie (CP t u):=fun _ _ _ _ _ ⟨v,r,e,h⟩ q=>⟨v,r,e,ht _ _ _ _ _ h fun _ _ h=>hu _ _ _ _ _ h q⟩
theorem Ge:∀ J:List Nat,Ie (Cz J)
 | []=>Gd
 | _::J=>Hv Hu (Ge J)
theorem SW {K:W.Frag} {n:Nat} {u:Jd} (hu:Ie u):VF (TB K n u):=fun _ _ _ _ _ h q=>h.elim (fun ⟨a,xs,e,s,l,h⟩=>.inl ⟨a,xs,e,s,l,hu _ _ _ _ _ h q⟩) fun ⟨a,xs,e,s,l,h⟩=>.inr ⟨a,xs,e,s,l,hu _ _ _ _ _ h q⟩
theorem Gr {js:List Nat} {t:TG} {u:Jd} (mt:VF t) (mu:Ie u) (ht:OP js t) (hu:LU js u):LU js (CP t u):=fun x σ H Q ⟨v,r,e,q⟩=>⟨v,r,e,mt _ _ _ _ _ (ht v σ H _ q) fun σ1 H1 ⟨⟨l1,f1⟩,q1⟩=>mu _ _ _ _ _ (hu r σ1 H1 _ q1) fun σ2 H2 ⟨⟨l2,f2⟩,q2⟩=>⟨⟨l2.trans l1,fun i hi=>(f2 i hi).trans (f1 i hi)⟩,q2⟩⟩
def IG (f:Ev Dv) (tg:Tg):Es:=fun R m k=>f R m fun d m1=>tg R d m1 k.nx
section
variable {X:Cx} {F:Fr} {Γl:Option Gm} {Γ Γ' Γ2:Gm} {js js2:List Nat} {e tg:Expr} {pos pos':Pos} {fe:Ev Dv} {g:TG} {ft:Tg} {i o:Nat} {x:Str}
theorem Xi {K:W.Frag} (ht:Jc K Γ2 Γ' js2 g ft) (hio:∀ i∈F.io,i∉js2) {D:Ends} {σ:St} {H:Hp} (h:tS K F Γl Γ (some Γ') (js++js2) (IG fe ft) D σ H):Js (tE K Γ 0 Γ2 js fe) g D σ H:=by
 obtain ⟨g0,m,P,r,R,k,res,e,q⟩:=h;refine ⟨g0,m,P,r,R,_,res,e,fun d m1 g' P' Pv v H' hk ag s rv r1 n=>ht g' m1 P' d v σ H' R k.nx res _ r1 rv.z hk fun m' P2 σ2 hk2 ag2 s2 i r2=>?_⟩;exact q.nx Γ' m' g' P2 σ2 H' rfl hk2 (ag.trans ag2) (s.less fun a z=>.inl (s2 a z)) (i.io hio) r2
theorem NG {K:W.Frag} (hi:i < Γ2.length) (hio:i∉F.io) {D:Ends} {σ:St} {H:Hp} (h:tS K F Γl Γ (some (Γ2.set i (some o))) (js++[i]) (IG fe (dF i)) D σ H):Js (tE K Γ o Γ2 js fe) (Cj i) D σ H:=by
 obtain ⟨g0,m,P,r,R,k,res,e,q⟩:=h;refine ⟨g0,m,P,r,R,_,res,e,fun d m1 g' P' Pv v H' hk ag s rv r1 n=>?_⟩;obtain ⟨P2,r2,s2⟩:=r1.setNew hi rv fun a q z=>n a z q
 exact q.nx _ _ g' P2 _ H' rfl hk (ag.trans BI.set) (s.less fun a z=>s2 a z) (Io.set hio) r2
theorem dY (hN:X.N.Nodup) (hix:X.N[i]?=some x) (hx:Loc X.env.scope x) (hio:i∉F.io) (hi:i < Γ2.length) (he:PE X e (tE X.K Γ o Γ2 js fe)) (hs:swapsWith e (some (.Name x pos')) pos.line X.env=pure false) (hf:X.fn x=true\/X.env.scope.names.lookup x=some .local) :
    PS X (.Assign [.Name x pos'] e pos) (tS X.K F Γl Γ (some (Γ2.set i (some o))) (js++[i]) (IG fe (dF i))):=PS.imp (aA hN hix hx he hs hf) fun _ _ _ h=>NG hi hio h
theorem dg (he:PE X e (tE X.K Γ 0 Γ2 js fe)) (hg:PG X tg g) (ht:Jc X.K Γ2 Γ' js2 g ft) (hio:∀ i∈F.io,i∉js2) (hs:swapsWithSole [tg] e pos.line X.env=pure false) (hw:swappedStores [tg] e X.env=pure none)
    (h1:(assignEach [tg] X.env).map (·.2)=[assign tg X.env]):PS X (.Assign [tg] e pos) (tS X.K F Γl Γ (some Γ') (js++js2) (IG fe ft)):=PS.imp (Lv he hg hs hw h1) fun _ _ _ h=>Xi ht hio h
end
def HK (g:G) (H:Hp) (g2:G) (H2:Hp):Prop:=∃ P P',Step g P H g2 P' H2/\FpOk g H P
def Yl (K:W.Frag) (J:It) (ds:List Dv) (g:G) (H:Hp):Prop:=∀ g2 H2,HK g H g2 H2 ->
 (∀ i d,ds[i]?=some d->J.go i H2/\∀ x H3,J.yld i H2 x H3->Ae K g2 H2 0 d x H3)/\∀ i,ds.length<=i->J.stop i H2
def tI (K:W.Frag) (Γ Γ':Gm) (js:List Nat) (f:Ev (List Dv)):TI:=fun σ H Q=>∃ g m P,Rel K g H Γ m σ P/\∃ (R:Type) (k:List Dv->M->Option R) (r:R),f R m k=some r /\
 ∀ ds m' g' P' H' J,k ds m'=some r->BI js m m'->Step g P H g' P' H'->Rel K g' H' Γ' m' σ P'->Yl K J ds g' H'->Q J H'
theorem PI.imp {X:Cx} {tg e:Expr} {t t':TI} (h:PI X tg e t) (k:∀ σ H R,t' σ H R->t σ H R):PI X tg e t':=fun pins s σ H R I q=>h pins s σ H R I (k σ H R q)
theorem Ae.old {K:W.Frag} {g:G} {H:Hp} {o:Nat} {d:Dv} {v:V} (h:Rep K g H o d v nop):Ae K g H o d v H:=⟨fun _ _ q=>q,nop,h,fun _ z=>z.elim⟩
theorem HK.rep {K:W.Frag} {g g2:G} {H H2:Hp} {d:Dv} {v:V} (s:HK g H g2 H2) (h:Rep K g H 0 d v nop):Rep K g2 H2 0 d v nop:=by
 obtain ⟨P,P',st,ok⟩:=s;exact h.held st ok fun _ z=>z.elim
section
variable {τ γ ρ:Type}
inductive Lp (τ γ ρ:Type) where
 | go (c:γ) | bk (c:γ) | rt (d:τ) (r:ρ)
inductive Rs (τ γ ρ:Type) where
 | go (c:γ) | rt (d:τ) (r:ρ)
noncomputable def Rs.el {δ:Type} (x:Rs τ γ ρ) (f:γ->δ) (h:τ->ρ->δ):δ:=match x with | .go c=>f c | .rt d r=>h d r
noncomputable def Bb (g:Dv->γ->Option γ):List Dv->γ->Option γ
 | [],c=>some c
 | x::xs,c=>(g x c).bind fun c1=>Bb g xs c1
noncomputable def Kn (g:Dv->γ->Option (Lp τ γ ρ)):List Dv->γ->Option (Rs τ γ ρ)
 | [],c=>some (.go c)
 | x::xs,c=>(g x c).bind fun l=>match l with
  | .go c1=>Kn g xs c1
  | .bk c1=>some (.go c1)
  | .rt d r=>some (.rt d r)
noncomputable def Xt (t:γ->Option Bool) (g:γ->Option γ):Nat->γ->Option γ
 | 0,_=>none
 | n+1,c=>(t c).bind fun b=>if b=true then (g c).bind (Xt t g n) else some c
noncomputable def iO (t:γ->Option Bool) (g:γ->Option (Lp τ γ ρ)):Nat->γ->Option (Rs τ γ ρ)
 | 0,_=>none
 | n+1,c=>(t c).bind fun b=>if b=true then (g c).bind (fun l=>match l with
  | .go c1=>iO t g n c1
  | .bk c1=>some (.go c1)
  | .rt d r=>some (.rt d r)) else some (.go c)
end
def kC (J:List Nat):Kt (Dd J):=⟨fun m'=>some (AX J m'),fun _ _=>none,fun _=>none,fun m'=>some (AX J m')⟩
def kE (J Jr:List Nat):Kt (Lp Dv (Dd J) (Dd Jr)):=⟨fun m'=>some (.go (AX J m')),fun d m'=>some (.rt d (AX Jr m')),fun m'=>some (.bk (AX J m')),fun m'=>some (.go (AX J m'))⟩
def TZ (src:Ev (List Dv)) (tg:Tg) (J:List Nat) (b:Es):Es:=fun R m k=>src R m fun ds m1 =>
 (Bb (fun d t=>tg (Dd J) d (Ab J m1 t) fun m2=>b (Dd J) m2 (kC J)) ds (AX J m1)).bind fun t=>k.nx (Ab J m1 t)
def TY (src:Ev (List Dv)) (tg:Tg) (J Jr:List Nat) (b:Es):Es:=fun R m k=>src R m fun ds m1 =>
 (Kn (fun d t=>tg (Lp Dv (Dd J) (Dd Jr)) d (Ab J m1 t) fun m2=>b (Lp Dv (Dd J) (Dd Jr)) m2 (kE J Jr)) ds (AX J m1)).bind fun x=>x.el (fun t=>k.nx (Ab J m1 t)) fun d t=>k.rt d (Ab Jr m1 t)
theorem MS {J:List Nat} {Γ:Gm} {K:W.Frag} {g:G} {H:Hp} {m:M} {σ:St} {P:Fp} (r:Rel K g H Γ m σ P):Rel K g H Γ (Ab J m (AX J m)) σ P:=r.join (js:=[]) BI.refl fun _ _ _=>.inr (by simp)
theorem Np {K:W.Frag} {F:Fr} {Γl0:Option Gm} {Γ Γt:Gm} {Γo:Option Gm} {jt jb:List Nat} {g:TG} {ft:Tg} {b:Es} {J Jr:List Nat} (ht:Jc K Γ Γt jt g ft) (hio:∀ i∈F.io,i∉jt) (hw:JF (some Γ) Γo=true)
    (hJ:J=Ao Γ (jt++jb)) (hJr:Jr=Ao F.Γr (jt++jb)) {ds:List Dv} {m1:M} {D:Ends} {σ:St} {H1:Hp} {g1:G} {P1:Fp} {I:It} {R:Type} {k:Kt R} {res:R}
    (r1:Rel K g1 H1 Γ m1 σ P1) (yl:Yl K I ds g1 H1) (run:List Dv->Dd J->Prop) (h0:run ds (AX J m1)) (hn:∀ t,run [] t->k.nx (Ab J m1 t)=some res)
    (hc:∀ d ds t,run (d::ds) t->∃ (B:Type) (κ:Kt B) (r:B),ft B d (Ab J m1 t) (fun m2=>b B m2 κ)=some r/\(∀ m',κ.nx m'=some r->run ds (AX J m'))/\(∀ m',κ.ct m'=some r->run ds (AX J m')) /\
      (∀ m',κ.bk m'=some r->k.nx (Ab J m1 (AX J m'))=some res)/\∀ d m',κ.rt d m'=some r->k.rt d (Ab Jr m1 (AX Jr m'))=some res)
    (q:AcS K F Γl0 g1 P1 H1 σ D (some Γ) (jt++jb) m1 k res) :
    ∃ W:Nat->Nat->St->Hp->Prop,(∃ m,W 0 m σ H1)/\∀ i m σ H,W i m σ H ->
      (I.stop i H/\D.nx σ H)\/(I.go i H/\∃ N:St->Hp->Prop,(∀ σ' H',N σ' H'->∃ m',m' < m/\W (i+1) m' σ' H')/\∀ x H',I.yld i H x H'->g x σ H' fun σ2 H2=>tS K F (some Γ) Γt Γo jb b { D with nx:=N,ct:=N,bk:=D.nx } σ2 H2):=by
  have sub:∀ i∈J,i∈jt++jb:=fun i h=>Av (hJ▸h)
  have subr:∀ i∈Jr,i∈jt++jb:=fun i h=>Av (hJr▸h)
  refine ⟨fun i j σ' H'=>j=ds.length - i/\i<=ds.length/\∃ g2 t P2,Step g1 P1 H1 g2 P2 H'/\Io F.io σ σ'/\Rel K g2 H' Γ (Ab J m1 t) σ' P2/\run (ds.drop i) t,⟨ds.length,by simp,lg _,g1,AX J m1,P1,Step.refl,Io.refl,MS r1,by simpa using h0⟩,?_⟩;rintro i j σ2 H2 ⟨rfl,hi,g2,t,P2,s2,i2,r2,e2⟩;have st:HK g1 H1 g2 H2:=⟨P1,P2,s2,r1.fpOk⟩
  by_cases hlt:i < ds.length
  · rw [mv hlt] at e2;obtain ⟨B,κ,rB,e3,knx,kct,kbk,krt⟩:=hc _ _ _ e2;obtain ⟨go,yy⟩:=(yl g2 H2 st).1 i ds[i] (kT hlt);refine .inr ⟨go,fun σ' H'=>∃ g5 P5 m',Step g1 P1 H1 g5 P5 H'/\Io F.io σ σ'/\Rel K g5 H' Γ m' σ' P5/\BI (jt++jb) m1 m'/\run (ds.drop (i+1)) (AX J m'),?_,fun x H3 hy=>?_⟩
    · rintro σ' H' ⟨g5,P5,m',s5,i5,r5,ag,hr⟩;exact ⟨ds.length - (i+1),by omega,rfl,hlt,g5,AX J m',P5,s5,i5,r5.join ag fun i o h=>hJ▸BH h,hr⟩
    · obtain ⟨Pv,s3,h3,r3,n3⟩:=Ae.go s2 r2 (yy x H3 hy);refine ht g2 _ P2 ds[i] x σ2 H3 B _ rB _ r3 h3.z e3 fun m2 P' σ' hk ag sp ip r'=>?_
      have s4:Step g1 P1 H1 g2 P' H3:=s3.less fun a z=>.inl (sp a z)
      have i4:=i2.trans (ip.io hio);have a4:BI (jt++jb) m1 m2:=((AR J m1 t).mono sub).trans ag |>.mono fun i z=>(lC.mp z).elim id fun z=>ko _ z
      have a5:∀ {m'},BI jb m2 m'->BI (jt++jb) m1 m':=fun h=>(a4.trans h).mono fun i z=>(lC.mp z).elim id fun z=>ka _ z
      refine ⟨g2,m2,P',r',B,κ,rB,hk,⟨fun Γ' m' g' P'' σ'' H' e hk ag' s' i' rr=>?_,fun d m' g' P'' Pv σ'' v H' hk ag' s' i' rv rr n=>?_,fun Γ' m' g' P'' σ'' H' e hk ag' s' i' rr=>?_,fun Γ' m' g' P'' σ'' H' e hk ag' s' i' rr=>?_⟩⟩
      · subst e;obtain ⟨g6,P6,s6,r6⟩:=rr.weaken (by unfold JF at hw;exact hw);exact ⟨g6,P6,m',(s4.trans s').trans s6,i4.trans i',r6,a5 ag',knx m' hk⟩
      · exact q.rt d _ g' P'' Pv σ'' v H' (krt d m' hk) ((AR Jr m1 _).mono subr) (s4.trans s') (i4.trans i') rv (rr.join (a5 ag') fun i o h=>hJr▸BH h) n
      · cases e;exact q.nx Γ _ g' P'' σ'' H' rfl (kbk m' hk) ((AR J m1 _).mono sub) (s4.trans s') (i4.trans i') (rr.join (a5 ag') fun i o h=>hJ▸BH h)
      · cases e;exact ⟨g',P'',m',s4.trans s',i4.trans i',rr,a5 ag',kct m' hk⟩
  · have ei:i=ds.length:=by omega
    subst ei;rw [List.drop_length] at e2;exact .inl ⟨(yl g2 H2 st).2 _ (kb _),q.nx Γ _ g2 P2 σ2 H2 rfl (hn t e2) ((AR J m1 _).mono sub) s2 i2 r2⟩
section
variable {X:Cx} {F:Fr} {Γl0:Option Gm} {Γ Γ1 Γ2 Γt:Gm} {Γo:Option Gm} {js jt jb J Jr:List Nat} {tg iter:Expr} {body:List Stmt} {src:Ev (List Dv)} {g:TG} {ft:Tg} {b:Es} {pos:Pos}
theorem HK.pre {g g2 g3:G} {H H3:Hp} {P P2:Fp} (s:Step g P H g2 P2 H) (ok:FpOk g H P) (st:HK g2 H g3 H3):HK g H g3 H3:=by
 obtain ⟨P3,P3',s3,ok3⟩:=st;exact ⟨fun a=>P a\/P3 a,P3',(s.frame (R:=P3)).trans (s3.sub (fun _ z=>.inr z) fun _ z=>z),ok.or fun a z=>⟨(ok3 a z).1,fun w=>(ok3 a z).2 (s.zm a w)⟩⟩
theorem VP {K:W.Frag} {σ:St} {H:Hp} {Q:It->Hp->Prop} (hw:BX Γ2 Γ1=true) (h:tI K Γ Γ2 js src σ H Q):tI K Γ Γ1 js src σ H Q:=by
 obtain ⟨g,m,P,r,R,k,res,e,q⟩:=h;refine ⟨g,m,P,r,R,k,res,e,fun ds m' g' P' H' J hk ag s r1 yl=>?_⟩;obtain ⟨g2,P2,s2,r2⟩:=r1.weaken hw;exact q ds m' g2 P2 H' J hk ag (s.trans s2) r2 fun g3 H3 st=>yl g3 H3 (st.pre s2 r1.fpOk)
theorem Zo (hp:PassesOwn (model X.prog X.w) X.A X.env X.xe) (hc:X.calm=true) (hi:PI X tg iter (tI X.K Γ Γ1 js src)) (hg:PG X tg g) (ht:Jc X.K Γ1 Γt jt g ft) (hio:∀ i∈F.io,i∉jt) (hb:Cq X body (tS X.K F (some Γ1) Γt Γo jb b)) (hw:JF (some Γ1) Γo=true) (hJ:J=Ao Γ1 (jt++jb))
    (hs:∀ x,foldedSetIterable iter X.env x=pure x):PS X (.For tg iter body [] pos) (tS X.K F Γl0 Γ (some Γ1) (js++(jt++jb)) (TZ src ft J b)):=PS.imp (Rh hp hc hi hg hb hs) fun D σ H h=>by
  obtain ⟨g0,m,P,r,R,k,res,e,q⟩:=h;refine ⟨g0,m,P,r,R,_,res,e,fun ds m1 g1 P1 H1 I hk ag s r1 yl=>?_⟩;obtain ⟨t,e1,e2⟩:=bind_some' hk;refine Np (Jr:=Ao F.Γr (jt++jb)) ht hio hw hJ rfl r1 yl (fun ds t0=>Bb _ ds t0=some t) e1 (fun t0 h=>?_) (fun d ds t0 h=>?_) (q.later s Io.refl ag)
  · cases h;exact e2
  · obtain ⟨t1,h1,h2⟩:=bind_some' h;refine ⟨Dd J,kC J,t1,h1,fun m' hk=>?_,fun m' hk=>?_,(fun m' hk=>by cases hk),fun d m' hk=>by cases hk⟩
    · cases hk;exact h2
    · cases hk;exact h2
theorem Zn (hp:PassesOwn (model X.prog X.w) X.A X.env X.xe) (hc:X.calm=true) (hi:PI X tg iter (tI X.K Γ Γ1 js src)) (hg:PG X tg g) (ht:Jc X.K Γ1 Γt jt g ft) (hio:∀ i∈F.io,i∉jt) (hb:Cq X body (tS X.K F (some Γ1) Γt Γo jb b)) (hw:JF (some Γ1) Γo=true) (hJ:J=Ao Γ1 (jt++jb)) (hJr:Jr=Ao F.Γr (jt++jb))
    (hs:∀ x,foldedSetIterable iter X.env x=pure x):PS X (.For tg iter body [] pos) (tS X.K F Γl0 Γ (some Γ1) (js++(jt++jb)) (TY src ft J Jr b)):=PS.imp (Rh hp hc hi hg hb hs) fun D σ H h=>by
  obtain ⟨g0,m,P,r,R,k,res,e,q⟩:=h;refine ⟨g0,m,P,r,R,_,res,e,fun ds m1 g1 P1 H1 I hk ag s r1 yl=>?_⟩;obtain ⟨x,e1,e2⟩:=bind_some' hk;refine Np ht hio hw hJ hJr r1 yl (fun ds t0=>Kn _ ds t0=some x) e1 (fun t0 h=>?_) (fun d ds t0 h=>?_) (q.later s Io.refl ag)
  · cases h;exact e2
  · obtain ⟨l,h1,h2⟩:=bind_some' h;refine ⟨_,kE J Jr,l,h1,fun m' hk=>?_,fun m' hk=>?_,fun m' hk=>?_,fun d m' hk=>?_⟩
    · cases hk;exact h2
    · cases hk;exact h2
    · cases hk;cases h2;exact e2
    · cases hk;cases h2;exact e2
end
def Yk (n:Nat) (c:Ev Bool) (J:List Nat) (b:Es):Es:=fun R m k =>
 (Xt (fun t=>c Bool (Ab J m t) fun b _=>some b) (fun t=>b (Dd J) (Ab J m t) (kC J)) n (AX J m)).bind fun t=>k.nx (Ab J m t)
def Yj (n:Nat) (c:Ev Bool) (J Jr:List Nat) (b:Es):Es:=fun R m k =>
 (iO (fun t=>c Bool (Ab J m t) fun b _=>some b) (fun t=>b (Lp Dv (Dd J) (Dd Jr)) (Ab J m t) (kE J Jr)) n (AX J m)).bind fun x=>x.el (fun t=>k.nx (Ab J m t)) fun d t=>k.rt d (Ab Jr m t)
theorem Qe {K:W.Frag} {F:Fr} {Γl0:Option Gm} {Γ Γc:Gm} {Γo:Option Gm} {jb:List Nat} {c:Ev Bool} {b:Es} {J Jr:List Nat} (hwc:BX Γ Γc=true) (hw:JF (some Γ) Γo=true)
    (hJ:J=Ao Γ jb) (hJr:Jr=Ao F.Γr jb) {m1:M} {D:Ends} {σ:St} {H1:Hp} {g1:G} {P1:Fp} {R:Type} {k:Kt R} {res:R}
    (r1:Rel K g1 H1 Γ m1 σ P1) (run:Nat->Dd J->Prop) {n:Nat} (h0:run n (AX J m1))
    (hc:∀ n t,run n t->∃ bb,c Bool (Ab J m1 t) (fun b _=>some b)=some bb/\if bb=true then ∃ n',n' < n/\∃ (B:Type) (κ:Kt B) (r:B),b B (Ab J m1 t) κ=some r/\(∀ m',κ.nx m'=some r->run n' (AX J m'))/\(∀ m',κ.ct m'=some r->run n' (AX J m')) /\
      (∀ m',κ.bk m'=some r->k.nx (Ab J m1 (AX J m'))=some res)/\(∀ d m',κ.rt d m'=some r->k.rt d (Ab Jr m1 (AX Jr m'))=some res) else k.nx (Ab J m1 t)=some res)
    (q:AcS K F Γl0 g1 P1 H1 σ D (some Γ) jb m1 k res):Qr (tT K Γ Γc [] c) (tS K F (some Γ) Γ Γo jb b) D σ H1:=by
  have sub:∀ i∈J,i∈jb:=fun i h=>Av (hJ▸h)
  have subr:∀ i∈Jr,i∈jb:=fun i h=>Av (hJr▸h)
  refine ⟨fun n σ' H'=>∃ g2 t P2,Step g1 P1 H1 g2 P2 H'/\Io F.io σ σ'/\Rel K g2 H' Γ (Ab J m1 t) σ' P2/\run n t,⟨n,g1,AX J m1,P1,Step.refl,Io.refl,MS r1,h0⟩,?_⟩;rintro n' σ2 H2 ⟨g2,t,P2,s2,i2,r2,e2⟩;obtain ⟨bb,e3,e4⟩:=hc n' t e2;refine ⟨g2,_,P2,r2,Bool,_,bb,e3,fun b' m' g3 P3 H3 hk ag s3 r3=>?_⟩;cases hk;obtain ⟨g4,P4,s4,r4⟩:=r3.weaken hwc;have r5:Rel K g4 H3 Γ (Ab J m1 t) σ2 P4:=r4.agree ag.1.symm fun i o _=>(ag.2 i (by simp)).symm
  have s5:=(s2.trans s3).trans s4;cases bb with
  | false=>rw [if_neg ku] at e4 ⊢;exact q.nx Γ _ g4 P4 σ2 H3 rfl e4 ((AR J m1 _).mono sub) s5 i2 r5
  | true =>
    rw [if_pos rfl] at e4 ⊢;obtain ⟨n2,hn,B,κ,rB,eb,knx,kct,kbk,krt⟩:=e4;have a5:∀ {m'},BI jb (Ab J m1 t) m'->BI jb m1 m':=fun h=>(((AR J m1 t).mono sub).trans h).mono fun i z=>(lC.mp z).elim id id
    refine ⟨fun σ' H'=>∃ g5 P5 m',Step g1 P1 H1 g5 P5 H'/\Io F.io σ σ'/\Rel K g5 H' Γ m' σ' P5/\BI jb m1 m'/\run n2 (AX J m'),?_,g4,_,P4,r5,B,κ,rB,eb,⟨fun Γ' m' g' P'' σ'' H' e hk ag' s' i' rr=>?_,fun d m' g' P'' Pv σ'' v H' hk ag' s' i' rv rr n=>?_,fun Γ' m' g' P'' σ'' H' e hk ag' s' i' rr=>?_,fun Γ' m' g' P'' σ'' H' e hk ag' s' i' rr=>?_⟩⟩
    · rintro σ' H' ⟨g6,P6,m',s6,i6,r6,ag6,hr⟩;exact ⟨n2,hn,g6,AX J m',P6,s6,i6,r6.join ag6 fun i o h=>hJ▸BH h,hr⟩
    · subst e;obtain ⟨g6,P6,s6,r6⟩:=rr.weaken (by unfold JF at hw;exact hw);exact ⟨g6,P6,m',(s5.trans s').trans s6,i2.trans i',r6,a5 ag',knx m' hk⟩
    · exact q.rt d _ g' P'' Pv σ'' v H' (krt d m' hk) ((AR Jr m1 _).mono subr) (s5.trans s') (i2.trans i') rv (rr.join (a5 ag') fun i o h=>hJr▸BH h) n
    · cases e;exact q.nx Γ _ g' P'' σ'' H' rfl (kbk m' hk) ((AR J m1 _).mono sub) (s5.trans s') (i2.trans i') (rr.join (a5 ag') fun i o h=>hJ▸BH h)
    · cases e;exact ⟨g',P'',m',s5.trans s',i2.trans i',rr,a5 ag',kct m' hk⟩
section
variable {X:Cx} {F:Fr} {Γl0:Option Gm} {Γ Γc:Gm} {Γo:Option Gm} {jb J Jr:List Nat} {c:Expr} {body:List Stmt} {t:Ev Bool} {b:Es} {pos:Pos}
theorem dX (n:Nat) (hp:PassesOwn (model X.prog X.w) X.A X.env X.xe) (hc:PT X c (tT X.K Γ Γc [] t)) (hb:Cq X body (tS X.K F (some Γ) Γ Γo jb b)) (hwc:BX Γ Γc=true) (hw:JF (some Γ) Γo=true) (hJ:J=Ao Γ jb) :
    PS X (.While c body [] pos) (tS X.K F Γl0 Γ (some Γ) jb (Yk n t J b)):=PS.imp (KS hp hc hb) fun D σ H h=>by
  obtain ⟨g0,m,P,r,R,k,res,e,q⟩:=h;obtain ⟨t',e1,e2⟩:=bind_some' e;refine Qe (Jr:=Ao F.Γr jb) hwc hw hJ rfl r (fun n t0=>Xt _ _ n t0=some t') e1 (fun n t0 h=>?_) q;cases n with
  | zero=>cases h
  | succ n =>
    obtain ⟨bb,h1,h2⟩:=bind_some' h;refine ⟨bb,h1,?_⟩;cases bb with
    | false=>rw [if_neg ku] at h2 ⊢;cases h2;exact e2
    | true =>
      rw [if_pos rfl] at h2 ⊢;obtain ⟨t1,h3,h4⟩:=bind_some' h2;refine ⟨n,mh n,Dd J,kC J,t1,h3,fun m' hk=>?_,fun m' hk=>?_,(fun m' hk=>by cases hk),fun d m' hk=>by cases hk⟩
      · cases hk;exact h4
      · cases hk;exact h4
theorem dW (n:Nat) (hp:PassesOwn (model X.prog X.w) X.A X.env X.xe) (hc:PT X c (tT X.K Γ Γc [] t)) (hb:Cq X body (tS X.K F (some Γ) Γ Γo jb b)) (hwc:BX Γ Γc=true) (hw:JF (some Γ) Γo=true) (hJ:J=Ao Γ jb) (hJr:Jr=Ao F.Γr jb) :
    PS X (.While c body [] pos) (tS X.K F Γl0 Γ (some Γ) jb (Yj n t J Jr b)):=PS.imp (KS hp hc hb) fun D σ H h=>by
  obtain ⟨g0,m,P,r,R,k,res,e,q⟩:=h;obtain ⟨x,e1,e2⟩:=bind_some' e;refine Qe hwc hw hJ hJr r (fun n t0=>iO _ _ n t0=some x) e1 (fun n t0 h=>?_) q;cases n with
  | zero=>cases h
  | succ n =>
    obtain ⟨bb,h1,h2⟩:=bind_some' h;refine ⟨bb,h1,?_⟩;cases bb with
    | false=>rw [if_neg ku] at h2 ⊢;cases h2;exact e2
    | true =>
      rw [if_pos rfl] at h2 ⊢;obtain ⟨l,h3,h4⟩:=bind_some' h2;refine ⟨n,mh n,_,kE J Jr,l,h3,fun m' hk=>?_,fun m' hk=>?_,fun m' hk=>?_,fun d m' hk=>?_⟩
      · cases hk;exact h4
      · cases hk;exact h4
      · cases hk;cases h4;exact e2
      · cases hk;cases h4;exact e2
end
end R
namespace Q
open PySem L2
inductive Dt where
 | non | bl (b:Bool) | int (i:Int) | str (x:List Nat)
 | tup (xs:List Dt) | lst (o:Bool) (xs:List Dt) | dic (o:Bool) (kvs:List (Dt×Dt)) | ref (k:Nat) | scr (ns:List Int) | ty (n:String) | mtp (ls:List (List Nat)) | dti (o:Bool) (kvs:List (List Int×Int))
 deriving Inhabited
structure G where
 Z:Addr->Prop
 μ:List Addr
noncomputable abbrev Fp:=Addr->Prop
def Disj (P Q:Fp):Prop:=∀ a,P a->Q a->False
def Lk (g:G) (H:Hp):Bool->Addr->List V->Prop
 | true,a,vs=>H a=some (.lst vs)/\¬ g.Z a
 | false,a,vs=>H a=some (.lst vs)/\g.Z a
def Scr (K:W.Frag) (H:Hp) (a:Addr) (ns:List Int):Prop:=(∃ o,H a=some (.frz o (.lst (ns.map V.int)))) \/
    ∃ (o:Obj) (its:Array Value) (n:Nat),K.lookup a=some o/\o.cls=.type "list" /\ o.dict=none/\o.data=.seq its n/\its.size<=sizeLine/\AC (ns.map V.int) its.toList
def Mtp (K:W.Frag) (a:Addr) (ls:List (List Nat)):Prop:=∃ (o:Obj) (its:Array Value) (n:Nat),K.lookup a=some o/\o.cls=.type "tuple" /\ o.data=.seq its n/\its.size<=sizeLine/\AC (ls.map fun l=>V.str (tx l)) its.toList
def encD (kvs:List (List Int×Int)):List (List AS×V):=kvs.map fun p=>(p.1.map Sum.inl,V.int p.2)
mutual
noncomputable def Rep (K:W.Frag) (g:G) (H:Hp):Dt->V->Fp->Prop
 | .non,v,P=>v=.non/\∀ a,¬ P a
 | .bl b,v,P=>v=.bl b/\∀ a,¬ P a
 | .int i,v,P=>v=.int i/\∀ a,¬ P a
 | .str l,v,P=>v=.str (tx l)/\∀ a,¬ P a
 | .tup ds,v,P=>∃ a vs,v=.ref a/\H a=some (.tup vs)/\Reps K g H ds vs P
 | .lst o ds,v,P=>∃ a vs P',v=.ref a/\Lk g H o a vs/\Reps K g H ds vs P'/\¬ P' a/\(o=false->∀ b,¬ P' b)/\∀ b,P b↔(o=true/\b=a)\/P' b
 | .dic _ _,_,_=>False
 | .ref k,v,P=>(∃ a,g.μ[k]?=some a/\v=.ref a)/\∀ a,¬ P a
 | .scr ns,v,P=>(∃ a,v=.ref a/\Scr K H a ns)/\∀ a,¬ P a
 | .ty n,v,P=>v=.ty n/\∀ a,¬ P a
 | .mtp ls,v,P=>(∃ a,v=.ref a/\Mtp K a ls)/\∀ a,¬ P a
 | .dti o kvs,v,P=>∃ a,v=.ref a/\H a=some (.dT (encD kvs))/\(o=true->¬ g.Z a)/\(o=false->g.Z a)/\∀ b,P b↔(o=true/\b=a)
noncomputable def Reps (K:W.Frag) (g:G) (H:Hp):List Dt->List V->Fp->Prop
 | [],vs,P=>vs=[]/\∀ a,¬ P a
 | d::ds,vs,P=>∃ v r P1 P2,vs=v::r/\Rep K g H d v P1/\Reps K g H ds r P2/\Disj P1 P2/\∀ a,P a↔P1 a\/P2 a
end
mutual
noncomputable def Dt.cp:Dt->Bool
 | .tup ds=>cps ds
 | .lst o ds=>!o && cps ds
 | .dti o _=>!o
 | .dic _ _=>false
 | _=>true
noncomputable def cps:List Dt->Bool
 | []=>true
 | d::ds=>d.cp && cps ds
end
section
variable {K:W.Frag} {g g':G} {H H':Hp}
def nop:Fp:=fun _=>False
theorem nop_iff {R:Fp} (h:∀ a,¬ R a):R=nop:=funext fun a=>propext ⟨fun z=>(h a z).elim,fun z=>z.elim⟩
theorem Reps.nil:Reps K g H [] [] nop:=by unfold Reps;exact ⟨rfl,fun _ z=>z⟩
end
structure Ob where
 c:Nat
 fs:List (Str×Dt)
structure M where
 ρ:List (Option Dt)
 S:List Ob
noncomputable abbrev Ev (α:Type):=M->Option (α×M)
section
end
section
end
inductive Om where
 | ev (f:Ev Dt)
 | rf (i:Nat)
def TM:List Om->Ev (List Dt)
 | [],m=>some ([],m)
 | .ev f::os,m=>do
  let (d,m1) <- f m
  let (ds,m2) <- TM os m1
  some (d::ds,m2)
 | .rf i::os,m=>do
  let _ <- (m.ρ[i]?).join
  let (ds,m1) <- TM os m
  let d <- (m1.ρ[i]?).join
  some (d::ds,m1)
def RA (K:W.Frag) (g:G) (H:Hp):List Dt->List V->Prop
 | [],vs=>vs=[]
 | d::ds,vs=>∃ v r P,vs=v::r/\Rep K g H d v P/\RA K g H ds r
noncomputable abbrev Pr:=List Dt->Option Dt
section
end
section
variable {X:Cx} {a b c e:Expr} {es:List Expr} {pos:Pos} {oa ob oc:Om} {os:List Om} {f fa fb:Ev Dt} {p:Pr}
def evd:List Om->Bool
 | []=>true
 | .ev _::os=>evd os
 | .rf _::_=>false
end
def evOr (f g:Ev Bool) (m:M):Option (Bool×M):=do
 let (b,m1) <- f m
 if b then some (true,m1) else g m1
section
variable {K:W.Frag} {σ:St} {H:Hp}
theorem rep_bl {g:G} {b:Bool} {v:V} {P:Fp} (h:Rep K g H (.bl b) v P):v=.bl b:=by unfold Rep at h;exact h.1
theorem rep_int {g:G} {b:Int} {v:V} {P:Fp} (h:Rep K g H (.int b) v P):v=.int b:=by unfold Rep at h;exact h.1
theorem rep_str {g:G} {b:List Nat} {v:V} {P:Fp} (h:Rep K g H (.str b) v P):v=.str (tx b):=by unfold Rep at h;exact h.1
theorem rep_non {g:G} {v:V} {P:Fp} (h:Rep K g H .non v P):v=.non:=by unfold Rep at h;exact h.1
end
section
end
inductive Fl where
 | nx | ct | bk | rt (d:Dt)
noncomputable abbrev Es:=M->Option (Fl×M)
section
end
noncomputable abbrev Tg:=Dt->M->Option M
section
end
section
end
def items:Dt->Option (List Dt)
 | .tup ds=>bif cps ds then some ds else none
 | .lst _ ds=>bif cps ds then some ds else none
 | .scr ns=>some (ns.map .int)
 | _=>none
section
end
section
variable {X:Cx} {tg e a b:Expr} {f:Ev Dt} {oa ob:Om} {p pos:Pos}
noncomputable def small (i:Int):Bool:=-1000000000<=i && i<=1000000000
end
section
end
def Bk (K:W.Frag) (g:G) (H:Hp) (vs:List V):List Nat->List Dt->Fp->Prop
 | [],bs,P=>bs=[]/\∀ a,¬ P a
 | i::io,bs,P=>∃ b br v P1 P2,bs=b::br/\vs[i]?=some v/\Rep K g H b v P1/\Bk K g H vs io br P2/\Disj P1 P2/\∀ a,P a↔P1 a\/P2 a
section
end
section
end
section
end
section
end
section
end
section
variable {K:W.Frag} {g:G} {H:Hp}
noncomputable def big (i:Int):Bool:=decide (-(2 ^ 64) < i) && decide (i < 2 ^ 64)
theorem atI_map {α β:Type} {f:α->β} {xs:List α} {i:Int}:Dm (xs.map f) i=(Dm xs i).map f:=by
 unfold Dm;rw [lK];cases Nc xs.length i with
 | none=>rfl
 | some j=>show (xs.map f)[j]?=_;rw [km];rfl
def cutA {α:Type} (xs:List α) (lo hi:Option Int):List α:=(xs.drop (HT.sIx xs.length 0 lo)).take (HT.sIx xs.length xs.length hi - HT.sIx xs.length 0 lo)
theorem map_cut {α β:Type} (f:α->β) (xs:List α) (lo hi:Option Int):(cutA xs lo hi).map f=cutA (xs.map f) lo hi:=by
 unfold cutA;rw [List.map_take,List.map_drop,lK]
end
section
end
end Q
namespace L3
open PySem PySem.Spec PyProof.Rows PySem.SeqAt L2
abbrev St:=L2.St
inductive D where
 | fl (v:V)
 | tup (ds:List D)
 | lst (ds:List D)
mutual
noncomputable def eqD:D->D->Bool
 | .fl a,.fl b=>eqV a b
 | .tup a,.tup b=>eqDs a b
 | .lst a,.lst b=>eqDs a b
 | _,_=>false
noncomputable def eqDs:List D->List D->Bool
 | [],[]=>true
 | x::xs,y::ys=>eqD x y && eqDs xs ys
 | _,_=>false
end
mutual
noncomputable def D.dep:D->Nat
 | .fl _=>0
 | .tup ds=>depL ds+1
 | .lst ds=>depL ds+1
noncomputable def depL:List D->Nat
 | []=>0
 | d::ds=>max d.dep (depL ds)
end
mutual
noncomputable def Is (K:W.Frag) (H:Hp):V->D->Prop
 | x,.fl v=>x=v/\EM v=true
 | x,.tup ds=>∃ a xs,x=.ref a/\DW K H a xs/\IsL K H xs ds
 | x,.lst ds=>∃ a xs,x=.ref a/\Cm K H a xs/\IsL K H xs ds
noncomputable def IsL (K:W.Frag) (H:Hp):List V->List D->Prop
 | [],[]=>True
 | x::xs,d::ds=>Is K H x d/\IsL K H xs ds
 | _,_=>False
end
theorem IsL.inv {K:W.Frag} {H:Hp} {x:V} {xs:List V} {es:List D} (h:IsL K H (x::xs) es):∃ d ds,es=d::ds/\Is K H x d/\IsL K H xs ds:=by
 cases es with
 | nil=>unfold IsL at h;exact h.elim
 | cons d ds=>unfold IsL at h;exact ⟨d,ds,rfl,h.1,h.2⟩
theorem IsL.length {K:W.Frag} {H:Hp}:∀ {xs:List V} {ds:List D},IsL K H xs ds->xs.length=ds.length
 | [],[],_=>rfl
 | [],_::_,h=>by unfold IsL at h;exact h.elim
 | _::_,[],h=>by unfold IsL at h;exact h.elim
 | x::xs,d::ds,h=>by unfold IsL at h;rw [ki,ki,IsL.length h.2]
theorem IsL.get {K:W.Frag} {H:Hp}:∀ {xs:List V} {ds:List D} {i:Nat} {d:D},IsL K H xs ds->ds[i]?=some d->∃ x,xs[i]?=some x/\Is K H x d
 | [],[],_,_,_,e=>by simp at e
 | [],_::_,_,_,h,_=>by unfold IsL at h;exact h.elim
 | _::_,[],_,_,_,e=>by simp at e
 | x::xs,d::ds,0,d',h,e=>by
  unfold IsL at h;have:d=d':=by simpa using e
  subst this;exact ⟨x,rfl,h.1⟩
 | x::xs,d::ds,i+1,_,h,e=>by
  unfold IsL at h;obtain ⟨y,e1,e2⟩:=IsL.get (i:=i) h.2 (by simpa using e);exact ⟨y,by simpa using e1,e2⟩
theorem Mz {X:Cx} {pins:List (Addr×Obj)} {σ:St} {H:Hp} {s:Shared} {a:Addr} {xs ys:List V} (I:Inv X pins σ H s) (h:DW X.K H a xs) (k:Cm X.K H a ys):False:=by
 obtain ⟨_,_,⟨o,e,c,_⟩,_⟩:=I.tuple h;obtain ⟨_,_,⟨o',n,e',c',_⟩,_⟩:=I.list k;rw [e] at e';cases e';rw [c] at c';injection c' with q
 exact absurd q (by decide)
mutual
theorem Is.inj {X:Cx} {pins:List (Addr×Obj)} {σ:St} {H:Hp} {s:Shared} (I:Inv X pins σ H s):∀ {d e:D} {x:V},Is X.K H x d->Is X.K H x e->d=e
 | .fl v,e,x,h,k=>by
  unfold Is at h;obtain ⟨rfl,hf⟩:=h;cases e with
  | fl u=>unfold Is at k;rw [k.1]
  | tup es=>unfold Is at k;obtain ⟨a,xs,rfl,_⟩:=k;cases hf
  | lst es=>unfold Is at k;obtain ⟨a,xs,rfl,_⟩:=k;cases hf
 | .tup ds,e,x,h,k=>by
  unfold Is at h;obtain ⟨a,xs,rfl,h1,h2⟩:=h;cases e with
  | fl u=>unfold Is at k;obtain ⟨k1,k2⟩:=k;rw [<- k1] at k2;cases k2
  | tup es =>
   unfold Is at k;obtain ⟨b,ys,e,k1,k2⟩:=k;cases e;rw [I.tuple_inj h1 k1] at h2;rw [IsL.inj I h2 k2]
  | lst es=>unfold Is at k;obtain ⟨b,ys,e,k1,k2⟩:=k;cases e;exact (Mz I h1 k1).elim
 | .lst ds,e,x,h,k=>by
  unfold Is at h;obtain ⟨a,xs,rfl,h1,h2⟩:=h;cases e with
  | fl u=>unfold Is at k;obtain ⟨k1,k2⟩:=k;rw [<- k1] at k2;cases k2
  | lst es =>
   unfold Is at k;obtain ⟨b,ys,e,k1,k2⟩:=k;cases e;rw [I.list_inj h1 k1] at h2;rw [IsL.inj I h2 k2]
  | tup es=>unfold Is at k;obtain ⟨b,ys,e,k1,k2⟩:=k;cases e;exact (Mz I k1 h1).elim
theorem IsL.inj {X:Cx} {pins:List (Addr×Obj)} {σ:St} {H:Hp} {s:Shared} (I:Inv X pins σ H s):∀ {ds es:List D} {xs:List V},IsL X.K H xs ds->IsL X.K H xs es->ds=es
 | [],es,[],h,k=>by
  cases es with
  | nil=>rfl
  | cons e es=>unfold IsL at k;exact k.elim
 | [],_,_::_,h,_=>by unfold IsL at h;exact h.elim
 | _::_,_,[],h,_=>by unfold IsL at h;exact h.elim
 | d::ds,es,x::xs,h,k=>by
  unfold IsL at h;obtain ⟨e,es',rfl,k1,k2⟩:=k.inv;rw [Is.inj I h.1 k1,IsL.inj I h.2 k2]
end
theorem eqV_refl {v:V} (h:EM v=true):eqV v v=true:=by
 cases v<;>first | rfl | (simp [eqV];done) | cases h
mutual
theorem eqD_refl {K:W.Frag} {H:Hp}:∀ {d:D} {x:V},Is K H x d->eqD d d=true
 | .fl v,x,h=>by unfold Is at h;unfold eqD;exact eqV_refl h.2
 | .tup ds,x,h=>by unfold Is at h;obtain ⟨_,_,_,_,h2⟩:=h;unfold eqD;exact eqDs_refl h2
 | .lst ds,x,h=>by unfold Is at h;obtain ⟨_,_,_,_,h2⟩:=h;unfold eqD;exact eqDs_refl h2
theorem eqDs_refl {K:W.Frag} {H:Hp}:∀ {ds:List D} {xs:List V},IsL K H xs ds->eqDs ds ds=true
 | [],_,_=>by unfold eqDs;rfl
 | _::_,[],h=>by unfold IsL at h;exact h.elim
 | d::ds,x::xs,h=>by
  unfold IsL at h;unfold eqDs;rw [eqD_refl h.1,eqDs_refl h.2];rfl
end
theorem BO:∀ (xs ys:List D) (e:Nat->Bool),(∀ i x y,xs[i]?=some x->ys[i]?=some y->e i=eqD x y)->((List.range (min xs.length ys.length)).all e && xs.length == ys.length)=eqDs xs ys
 | [],[],_,_=>by unfold eqDs;rfl
 | [],_::_,_,_=>by unfold eqDs;simp
 | _::_,[],_,_=>by unfold eqDs;simp
 | x::xs,y::ys,e,h=>by
  have ih:=BO xs ys (fun i=>e (i+1)) fun i a b h1 h2=>h (i+1) a b (by simpa using h1) (by simpa using h2)
  have h0:=h 0 x y rfl rfl;unfold eqDs;rw [<- ih,<- h0,ki,ki,Nat.succ_min_succ,ma,lW,List.all_map];have:((xs.length+1 == ys.length+1):Bool)=(xs.length == ys.length):=by simp
  rw [this,Bool.and_assoc];rfl
theorem EO:∀ {ds:List D} {i:Nat} {d:D},ds[i]?=some d->d.dep<=depL ds
 | [],_,_,e=>by simp at e
 | d::ds,0,d',e=>by
  have:d=d':=by simpa using e
  subst this;show d.dep<=depL (d::ds);unfold depL;exact Nat.le_max_left _ _
 | d::ds,i+1,x,e=>by
  have:=EO (ds:=ds) (i:=i) (d:=x) (by simpa using e);unfold depL;exact kr this (Nat.le_max_right _ _)
section
variable {X:Cx} {pins:List (Addr×Obj)} {σ:St} {H:Hp} {s:Shared}
def eAt (ds es:List D) (i:Nat):Bool:=match ds[i]?,es[i]? with | some a,some b=>eqD a b | _,_=>true
theorem eAt_of {ds es:List D} {i:Nat} {a b:D} (h1:ds[i]?=some a) (h2:es[i]?=some b):eAt ds es i=eqD a b:=by unfold eAt;rw [h1,h2]
theorem Ah {x:V} (h:EM x=true):x=.non\/(∃ b,x=.bl b)\/(∃ i,x=.int i)\/∃ z,x=.str z:=by
 cases x with
 | non=>exact .inl rfl
 | bl b=>exact .inr (.inl ⟨b,rfl⟩)
 | int i=>exact .inr (.inr (.inl ⟨i,rfl⟩))
 | str z=>exact .inr (.inr (.inr ⟨z,rfl⟩))
 | _=>cases h
theorem To (I:Inv X pins σ H s):∀ (n:Nat) (A:Around) (d e:D) (x y:V) (u v:Value),d.dep<=n->A.units+n < cLine->RelV x u->RelV y v->Is X.K H x d->Is X.K H y e->EqAt A s u v (eqD d e):=by
 intro n
 induction n with
 | zero =>
  intro A d e x y u v hd hu rx ry hx hy;cases d with
  | fl a =>
   unfold Is at hx;obtain ⟨rfl,fx⟩:=hx;cases e with
   | fl b=>unfold Is at hy;obtain ⟨rfl,fy⟩:=hy;unfold eqD;exact bo rx ry fx fy
   | tup es =>
    unfold Is at hy;obtain ⟨b,ys,rfl,h1,h2⟩:=hy;cases ry;obtain ⟨its,r,ht,_⟩:=I.tuple h1;unfold eqD;rcases Ah fx with rfl | ⟨c,rfl⟩ | ⟨c,rfl⟩ | ⟨c,rfl⟩
    ·cases rx;exact EqAt.none_tuple ht hu
    ·cases rx;exact EqAt.bool_tuple c ht hu
    ·obtain ⟨t,rfl⟩:=rx;exact EqAt.int_tuple c t ht hu
    ·obtain ⟨t,rfl⟩:=rx;exact EqAt.str_tuple c t ht hu
   | lst es =>
    unfold Is at hy;obtain ⟨b,ys,rfl,h1,h2⟩:=hy;cases ry;obtain ⟨its,r,ht,_⟩:=I.list h1;unfold eqD;rcases Ah fx with rfl | ⟨c,rfl⟩ | ⟨c,rfl⟩ | ⟨c,rfl⟩
    ·cases rx;exact EqAt.none_list ht.isList hu
    ·cases rx;exact EqAt.bool_list c ht.isList hu
    ·obtain ⟨t,rfl⟩:=rx;exact EqAt.int_list c t ht.isList hu
    ·obtain ⟨t,rfl⟩:=rx;exact EqAt.str_list c t ht.isList hu
  | tup ds=>unfold D.dep at hd;omega
  | lst ds=>unfold D.dep at hd;omega
 | succ n ih =>
  intro A d e x y u v hd hu rx ry hx hy;have hu0:A.units < cLine:=by omega
  cases d with
  | fl a=>exact ih A (.fl a) e x y u v (by unfold D.dep;omega) (by omega) rx ry hx hy
  | tup ds =>
   unfold D.dep at hd;have hx0:=hx;unfold Is at hx;obtain ⟨a,xs,rfl,h1,h2⟩:=hx;cases rx;obtain ⟨its,r,ht,_⟩:=I.tuple h1;cases e with
   | fl b =>
    unfold Is at hy;obtain ⟨rfl,fy⟩:=hy;unfold eqD;rcases Ah fy with rfl | ⟨c,rfl⟩ | ⟨c,rfl⟩ | ⟨c,rfl⟩
    ·cases ry;exact EqAt.tuple_none ht hu0
    ·cases ry;exact EqAt.tuple_bool c ht hu0
    ·obtain ⟨t,rfl⟩:=ry;exact EqAt.tuple_int c t ht hu0
    ·obtain ⟨t,rfl⟩:=ry;exact EqAt.tuple_str c t ht hu0
   | tup es =>
    have hy0:=hy;unfold Is at hy;obtain ⟨b,ys,rfl,k1,k2⟩:=hy;cases ry;obtain ⟨its2,r2,ht2,_⟩:=I.tuple k1
    by_cases hab:a=b
    ·subst hab;rw [Is.inj I hx0 hy0,eqD_refl hy0];exact EqAt.same _
    ·refine EqAt.of_refs hab ?_;have q:=RcAt.tuples (e:=eAt ds es) ht ht2 hu0 (fun j j1 j2=>?_)
     ·have e1:=BO ds es (eAt ds es) fun i a b q1 q2=>eAt_of q1 q2
      rw [kY,kY,<- r.length,<- r2.length,h2.length,k2.length,e1] at q;unfold eqD;exact q
     ·have j1':j < its.length:=by simpa using j1
      have j2':j < its2.length:=by simpa using j2
      have l1:j < ds.length:=by rw [<- h2.length,r.length];exact j1'
      have l2:j < es.length:=by rw [<- k2.length,r2.length];exact j2'
      obtain ⟨x',ex,px⟩:=h2.get (i:=j) (kT l1);obtain ⟨y',ey,py⟩:=k2.get (i:=j) (kT l2);obtain ⟨u',eu,ru⟩:=r.get ex;obtain ⟨v',ev,rv⟩:=r2.get ey;rw [eAt_of (kT l1) (kT l2)];have z1:its.toArray[j]=u':=by rw [kT j1'] at eu;simpa using Option.some.inj eu
      have z2:its2.toArray[j]=v':=by rw [kT j2'] at ev;simpa using Option.some.inj ev
      rw [z1,z2];exact ih A.in1 _ _ x' y' u' v' (kr (EO (kT l1)) (by omega)) (by show A.units+1+n < cLine;omega) ru rv px py
   | lst es =>
    unfold Is at hy;obtain ⟨b,ys,rfl,k1,k2⟩:=hy;cases ry;obtain ⟨its2,r2,ht2,_⟩:=I.list k1;unfold eqD;exact EqAt.tuple_list ht ht2.isList hu0
  | lst ds =>
   unfold D.dep at hd;have hx0:=hx;unfold Is at hx;obtain ⟨a,xs,rfl,h1,h2⟩:=hx;cases rx;obtain ⟨its,r,ht,_⟩:=I.list h1;cases e with
   | fl b =>
    unfold Is at hy;obtain ⟨rfl,fy⟩:=hy;unfold eqD;rcases Ah fy with rfl | ⟨c,rfl⟩ | ⟨c,rfl⟩ | ⟨c,rfl⟩
    ·cases ry;exact EqAt.list_none ht.isList hu0
    ·cases ry;exact EqAt.list_bool c ht.isList hu0
    ·obtain ⟨t,rfl⟩:=ry;exact EqAt.list_int c t ht.isList hu0
    ·obtain ⟨t,rfl⟩:=ry;exact EqAt.list_str c t ht.isList hu0
   | tup es =>
    unfold Is at hy;obtain ⟨b,ys,rfl,k1,k2⟩:=hy;cases ry;obtain ⟨its2,r2,ht2,_⟩:=I.tuple k1;unfold eqD;exact EqAt.list_tuple ht.isList ht2 hu0
   | lst es =>
    have hy0:=hy;unfold Is at hy;obtain ⟨b,ys,rfl,k1,k2⟩:=hy;cases ry;obtain ⟨its2,r2,ht2,_⟩:=I.list k1
    by_cases hab:a=b
    ·subst hab;rw [Is.inj I hx0 hy0,eqD_refl hy0];exact EqAt.same _
    ·refine EqAt.of_refs hab ?_
     by_cases hsz:ds.length=es.length
     ·have e1:=BO ds es (eAt ds es) fun i a b q1 q2=>eAt_of q1 q2
      rw [hsz,nZ,beq_self_eq_true,Bool.and_true] at e1;have q:=RcAt.lists (e:=eAt ds es) ht.isList ht2.isList (by rw [kY,kY,<- r.length,<- r2.length,h2.length,k2.length];exact hsz) hu0 (fun j j1 j2=>?_)
      ·rw [kY,<- r.length,h2.length,hsz,e1] at q;unfold eqD;exact q
      ·have j1':j < its.length:=by simpa using j1
       have j2':j < its2.length:=by simpa using j2
       have l1:j < ds.length:=by rw [<- h2.length,r.length];exact j1'
       have l2:j < es.length:=by rw [<- k2.length,r2.length];exact j2'
       obtain ⟨x',ex,px⟩:=h2.get (i:=j) (kT l1);obtain ⟨y',ey,py⟩:=k2.get (i:=j) (kT l2);obtain ⟨u',eu,ru⟩:=r.get ex;obtain ⟨v',ev,rv⟩:=r2.get ey;rw [eAt_of (kT l1) (kT l2)];have z1:its.toArray[j]=u':=by rw [kT j1'] at eu;simpa using Option.some.inj eu
       have z2:its2.toArray[j]=v':=by rw [kT j2'] at ev;simpa using Option.some.inj ev
       rw [z1,z2];exact ih A.in1 _ _ x' y' u' v' (kr (EO (kT l1)) (by omega)) (by show A.units+1+n < cLine;omega) ru rv px py
     ·have q:=RcAt.lists_lengths (A:=A) ht.isList ht2.isList (by rw [kY,kY,<- r.length,<- r2.length,h2.length,k2.length];simpa using hsz) hu0;have e1:=BO ds es (eAt ds es) fun i a b q1 q2=>eAt_of q1 q2
      have:(ds.length == es.length)=false:=by simpa using hsz
      rw [this,nN] at e1;unfold eqD;rw [<- e1];exact q
end
noncomputable def D.seq:D->Bool
 | .fl _=>false
 | _=>true
section
variable {X:Cx} {pins:List (Addr×Obj)} {σ:St} {H:Hp} {s:Shared}
theorem Kk (I:Inv X pins σ H s) {n:Nat} {A:Around} {xs ys:List V} {ds es:List D} {its its2:List Value} (hd:depL ds<=n) (hu:A.units+1+n < cLine) (r:AC xs its) (r2:AC ys its2) (h2:IsL X.K H xs ds) (k2:IsL X.K H ys es) :
    ∀ j (h1:j < its.toArray.size) (h2:j < its2.toArray.size),EqAt A.in1 s its.toArray[j] its2.toArray[j] (eAt ds es j):=fun j j1 j2=>by
  have j1':j < its.length:=by simpa using j1
  have j2':j < its2.length:=by simpa using j2
  have l1:j < ds.length:=by rw [<- h2.length,r.length];exact j1'
  have l2:j < es.length:=by rw [<- k2.length,r2.length];exact j2'
  obtain ⟨x',ex,px⟩:=h2.get (i:=j) (kT l1);obtain ⟨y',ey,py⟩:=k2.get (i:=j) (kT l2);obtain ⟨u',eu,ru⟩:=r.get ex;obtain ⟨v',ev,rv⟩:=r2.get ey;rw [eAt_of (kT l1) (kT l2)];have z1:its.toArray[j]=u':=by rw [kT j1'] at eu;simpa using Option.some.inj eu
  have z2:its2.toArray[j]=v':=by rw [kT j2'] at ev;simpa using Option.some.inj ev
  rw [z1,z2];exact To I n A.in1 _ _ x' y' u' v' (kr (EO (kT l1)) hd) (by show A.units+1+n < cLine;exact hu) ru rv px py
theorem Iy (I:Inv X pins σ H s) {A:Around} {d e:D} {x y:V} {u v:Value} (sd:d.seq=true) (se:e.seq=true) (hu:A.units+d.dep+1 < cLine) (rx:RelV x u) (ry:RelV y v) (hx:Is X.K H x d) (hy:Is X.K H y e):RcAt A s u v (eqD d e)/\RcNeAt A s u v (!eqD d e):=by
 have hu0:A.units < cLine:=by omega
 cases d with
 | fl a=>cases sd
 | tup ds =>
  unfold D.dep at hu;unfold Is at hx;obtain ⟨a,xs,rfl,h1,h2⟩:=hx;cases rx;obtain ⟨its,r,ht,_⟩:=I.tuple h1;cases e with
  | fl b=>cases se
  | tup es =>
   unfold Is at hy;obtain ⟨b,ys,rfl,k1,k2⟩:=hy;cases ry;obtain ⟨its2,r2,ht2,_⟩:=I.tuple k1;have e1:=BO ds es (eAt ds es) fun i a b q1 q2=>eAt_of q1 q2
   have it:=Kk I (A:=A) (n:=depL ds) (kb _) (by omega) r r2 h2 k2;have q:=RcAt.tuples (e:=eAt ds es) ht ht2 hu0 it;have q':=RcNeAt.tuples (e:=eAt ds es) ht ht2 hu0 it;rw [kY,kY,<- r.length,<- r2.length,h2.length,k2.length,e1] at q q';unfold eqD;exact ⟨q,q'⟩
  | lst es =>
   unfold Is at hy;obtain ⟨b,ys,rfl,k1,k2⟩:=hy;cases ry;obtain ⟨its2,r2,ht2,_⟩:=I.list k1;unfold eqD;exact ⟨RcAt.tuple_list ht ht2.isList hu0,RcNeAt.tuple_list ht ht2.isList hu0⟩
 | lst ds =>
  unfold D.dep at hu;unfold Is at hx;obtain ⟨a,xs,rfl,h1,h2⟩:=hx;cases rx;obtain ⟨its,r,ht,_⟩:=I.list h1;cases e with
  | fl b=>cases se
  | tup es =>
   unfold Is at hy;obtain ⟨b,ys,rfl,k1,k2⟩:=hy;cases ry;obtain ⟨its2,r2,ht2,_⟩:=I.tuple k1;unfold eqD;exact ⟨RcAt.list_tuple ht.isList ht2 hu0,RcNeAt.list_tuple ht.isList ht2 hu0⟩
  | lst es =>
   unfold Is at hy;obtain ⟨b,ys,rfl,k1,k2⟩:=hy;cases ry;obtain ⟨its2,r2,ht2,_⟩:=I.list k1;have e1:=BO ds es (eAt ds es) fun i a b q1 q2=>eAt_of q1 q2
   unfold eqD
   by_cases hsz:ds.length=es.length
   ·rw [hsz,nZ,beq_self_eq_true,Bool.and_true] at e1;have it:=Kk I (A:=A) (n:=depL ds) (kb _) (by omega) r r2 h2 k2;have sz:its.toArray.size=its2.toArray.size:=by rw [kY,kY,<- r.length,<- r2.length,h2.length,k2.length];exact hsz
    have q:=RcAt.lists (e:=eAt ds es) ht.isList ht2.isList sz hu0 it;have q':=RcNeAt.lists (e:=eAt ds es) ht.isList ht2.isList sz hu0 it;rw [kY,<- r.length,h2.length,hsz,e1] at q q';exact ⟨q,q'⟩
   ·have sz:(its.toArray.size != its2.toArray.size)=true:=by rw [kY,kY,<- r.length,<- r2.length,h2.length,k2.length];simpa using hsz
    have:(ds.length == es.length)=false:=by simpa using hsz
    rw [this,nN] at e1;rw [<- e1];exact ⟨RcAt.lists_lengths ht.isList ht2.isList sz hu0,RcNeAt.lists_lengths ht.isList ht2.isList sz hu0⟩
end
section
variable {X:Cx} {pins:List (Addr×Obj)} {σ:L2.St} {H:Hp} {s:Shared}
theorem Vn {A:Around} {x y:V} {u v:Value} (rx:RelV x u) (ry:RelV y v) (fx:EM x=true) (fy:EM y=true):RcAt A s u v (eqV x y)/\RcNeAt A s u v (!eqV x y):=by
 rcases Ah fx with rfl | ⟨c,rfl⟩ | ⟨c,rfl⟩ | ⟨c,rfl⟩<;>rcases Ah fy with rfl | ⟨d,rfl⟩ | ⟨d,rfl⟩ | ⟨d,rfl⟩
 ·cases rx;cases ry;exact ⟨RcAt.none_none , RcNeAt.none_none ⟩
 ·cases rx;cases ry;exact ⟨RcAt.none_bool d,RcNeAt.none_bool d⟩
 ·cases rx;obtain ⟨dt,rfl⟩:=ry;exact ⟨RcAt.none_int d dt,RcNeAt.none_int d dt⟩
 ·cases rx;obtain ⟨dt,rfl⟩:=ry;exact ⟨RcAt.none_str d dt,RcNeAt.none_str d dt⟩
 ·cases rx;cases ry;exact ⟨RcAt.bool_none c,RcNeAt.bool_none c⟩
 ·cases rx;cases ry;exact ⟨RcAt.bool_bool c d,RcNeAt.bool_bool c d⟩
 ·cases rx;obtain ⟨dt,rfl⟩:=ry;exact ⟨RcAt.bool_int c d dt,RcNeAt.bool_int c d dt⟩
 ·cases rx;obtain ⟨dt,rfl⟩:=ry;exact ⟨RcAt.bool_str c d dt,RcNeAt.bool_str c d dt⟩
 ·obtain ⟨ct,rfl⟩:=rx;cases ry;exact ⟨RcAt.int_none c ct,RcNeAt.int_none c ct⟩
 ·obtain ⟨ct,rfl⟩:=rx;cases ry;exact ⟨RcAt.int_bool c ct d,RcNeAt.int_bool c ct d⟩
 ·obtain ⟨ct,rfl⟩:=rx;obtain ⟨dt,rfl⟩:=ry;exact ⟨RcAt.int_int c ct d dt,RcNeAt.int_int c ct d dt⟩
 ·obtain ⟨ct,rfl⟩:=rx;obtain ⟨dt,rfl⟩:=ry;exact ⟨RcAt.int_str c ct d dt,RcNeAt.int_str c ct d dt⟩
 ·obtain ⟨ct,rfl⟩:=rx;cases ry;exact ⟨RcAt.str_none c ct,RcNeAt.str_none c ct⟩
 ·obtain ⟨ct,rfl⟩:=rx;cases ry;exact ⟨RcAt.str_bool c ct d,RcNeAt.str_bool c ct d⟩
 ·obtain ⟨ct,rfl⟩:=rx;obtain ⟨dt,rfl⟩:=ry;exact ⟨RcAt.str_int c ct d dt,RcNeAt.str_int c ct d dt⟩
 ·obtain ⟨ct,rfl⟩:=rx;obtain ⟨dt,rfl⟩:=ry;exact ⟨RcAt.str_str c ct d dt,RcNeAt.str_str c ct d dt⟩
theorem KH (I:Inv X pins σ H s) {A:Around} {d e:D} {x y:V} {u v:Value} (hu:A.units+d.dep+1 < cLine) (rx:RelV x u) (ry:RelV y v) (hx:Is X.K H x d) (hy:Is X.K H y e):RcAt A s u v (eqD d e)/\RcNeAt A s u v (!eqD d e):=by
 have hu0:A.units < cLine:=by omega
 cases d with
 | fl a =>
  unfold Is at hx;obtain ⟨rfl,fx⟩:=hx;cases e with
  | fl b =>
   unfold Is at hy;obtain ⟨rfl,fy⟩:=hy;unfold eqD;exact Vn rx ry fx fy
  | tup es =>
   unfold Is at hy;obtain ⟨b,ys,rfl,k1,k2⟩:=hy;cases ry;obtain ⟨its2,r2,ht2,_⟩:=I.tuple k1;unfold eqD;rcases Ah fx with rfl | ⟨c,rfl⟩ | ⟨c,rfl⟩ | ⟨c,rfl⟩
   ·cases rx;exact ⟨RcAt.none_tuple ht2 hu0,RcNeAt.none_tuple ht2 hu0⟩
   ·cases rx;exact ⟨RcAt.bool_tuple c ht2 hu0,RcNeAt.bool_tuple c ht2 hu0⟩
   ·obtain ⟨t,rfl⟩:=rx;exact ⟨RcAt.int_tuple c t ht2 hu0,RcNeAt.int_tuple c t ht2 hu0⟩
   ·obtain ⟨t,rfl⟩:=rx;exact ⟨RcAt.str_tuple c t ht2 hu0,RcNeAt.str_tuple c t ht2 hu0⟩
  | lst es =>
   unfold Is at hy;obtain ⟨b,ys,rfl,k1,k2⟩:=hy;cases ry;obtain ⟨its2,r2,ht2,_⟩:=I.list k1;unfold eqD;rcases Ah fx with rfl | ⟨c,rfl⟩ | ⟨c,rfl⟩ | ⟨c,rfl⟩
   ·cases rx;exact ⟨RcAt.none_list ht2.isList hu0,RcNeAt.none_list ht2.isList hu0⟩
   ·cases rx;exact ⟨RcAt.bool_list c ht2.isList hu0,RcNeAt.bool_list c ht2.isList hu0⟩
   ·obtain ⟨t,rfl⟩:=rx;exact ⟨RcAt.int_list c t ht2.isList hu0,RcNeAt.int_list c t ht2.isList hu0⟩
   ·obtain ⟨t,rfl⟩:=rx;exact ⟨RcAt.str_list c t ht2.isList hu0,RcNeAt.str_list c t ht2.isList hu0⟩
 | tup ds =>
  cases e with
  | fl b =>
   unfold Is at hx hy;obtain ⟨b',ys,rfl,k1,k2⟩:=hx;obtain ⟨rfl,fy⟩:=hy;cases rx;obtain ⟨its2,r2,ht2,_⟩:=I.tuple k1;unfold eqD;rcases Ah fy with rfl | ⟨c,rfl⟩ | ⟨c,rfl⟩ | ⟨c,rfl⟩
   ·cases ry;exact ⟨RcAt.tuple_none ht2 hu0,RcNeAt.tuple_none ht2 hu0⟩
   ·cases ry;exact ⟨RcAt.tuple_bool c ht2 hu0,RcNeAt.tuple_bool c ht2 hu0⟩
   ·obtain ⟨t,rfl⟩:=ry;exact ⟨RcAt.tuple_int c t ht2 hu0,RcNeAt.tuple_int c t ht2 hu0⟩
   ·obtain ⟨t,rfl⟩:=ry;exact ⟨RcAt.tuple_str c t ht2 hu0,RcNeAt.tuple_str c t ht2 hu0⟩
  | tup es=>exact Iy I rfl rfl hu rx ry hx hy
  | lst es=>exact Iy I rfl rfl hu rx ry hx hy
 | lst ds =>
  cases e with
  | fl b =>
   unfold Is at hx hy;obtain ⟨b',ys,rfl,k1,k2⟩:=hx;obtain ⟨rfl,fy⟩:=hy;cases rx;obtain ⟨its2,r2,ht2,_⟩:=I.list k1;unfold eqD;rcases Ah fy with rfl | ⟨c,rfl⟩ | ⟨c,rfl⟩ | ⟨c,rfl⟩
   ·cases ry;exact ⟨RcAt.list_none ht2.isList hu0,RcNeAt.list_none ht2.isList hu0⟩
   ·cases ry;exact ⟨RcAt.list_bool c ht2.isList hu0,RcNeAt.list_bool c ht2.isList hu0⟩
   ·obtain ⟨t,rfl⟩:=ry;exact ⟨RcAt.list_int c t ht2.isList hu0,RcNeAt.list_int c t ht2.isList hu0⟩
   ·obtain ⟨t,rfl⟩:=ry;exact ⟨RcAt.list_str c t ht2.isList hu0,RcNeAt.list_str c t ht2.isList hu0⟩
  | tup es=>exact Iy I rfl rfl hu rx ry hx hy
  | lst es=>exact Iy I rfl rfl hu rx ry hx hy
def rEqA (K:W.Frag) (neg:Bool):R2:=fun x y H Q=>∃ d e,d.dep<=150/\Is K H x d/\Is K H y e/\Q (.bl (if neg then !eqD d e else eqD d e)) H
theorem op_eqA {j:Nat} (hr:Room j X.A):Bq X (compareOp .Eq) (rEqA X.K false):=by
 intro pins s σ H x y v u Q I rx ry h;obtain ⟨d,e,hd,hx,hy,q⟩:=h;have:=hr.un;exact (KH I (by omega) rx ry hx hy).1 X.prog X.w _ _ ⟨.bl _,H,I,rfl,q⟩
theorem op_neA {j:Nat} (hr:Room j X.A):Bq X (compareOp .NotEq) (rEqA X.K true):=by
 intro pins s σ H x y v u Q I rx ry h;obtain ⟨d,e,hd,hx,hy,q⟩:=h;have:=hr.un;exact (KH I (by omega) rx ry hx hy).2 X.prog X.w _ _ ⟨.bl _,H,I,rfl,q⟩
open Classical in
def eqW (its:List Value) (ds:List D) (e:D) (u:Value):Bool:=decide (∃ (i:Nat) (d:D),its[i]?=some u/\ds[i]?=some d/\eqD d e=true)
open Classical in
theorem eqW_at (I:Inv X pins σ H s) {xs:List V} {its:List Value} {ds:List D} (r:AC xs its) (h:IsL X.K H xs ds) {e:D} {i:Nat} {u:Value} {d:D} (hu:its[i]?=some u) (hd:ds[i]?=some d):eqW its ds e u=eqD d e:=by
 have key:∀ (j:Nat) (d':D),its[j]?=some u->ds[j]?=some d'->d'=d:=fun j d' h1 h2=>by
  obtain ⟨x,ex,px⟩:=h.get hd;obtain ⟨y,ey,py⟩:=h.get h2;obtain ⟨u1,e1,r1⟩:=r.get ex;obtain ⟨u2,e2,r2⟩:=r.get ey;rw [hu] at e1;cases e1;rw [h1] at e2;cases e2;rw [r2.inj r1] at py;exact Is.inj I py px
 unfold eqW;cases q:eqD d e with
 | true=>exact decide_eq_true ⟨i,d,hu,hd,q⟩
 | false =>
  refine decide_eq_false ?_;rintro ⟨j,d',h1,h2,h3⟩;rw [key j d' h1 h2,q] at h3;cases h3
theorem Fj (I:Inv X pins σ H s) {xs:List V} {its:List Value} {ds:List D} (r:AC xs its) (h:IsL X.K H xs ds) (e:D):its.any (eqW its ds e)=ds.any fun d=>eqD d e:=by
 rw [Bool.eq_iff_iff,List.any_eq_true,List.any_eq_true];have hl:its.length=ds.length:=by rw [<- r.length,h.length]
 constructor
 ·rintro ⟨u,hu,q⟩;obtain ⟨i,hi,rfl⟩:=nO hu;have hd:ds[i]?=some ds[i]:=kT (by omega);rw [eqW_at I r h (kT hi) hd] at q;exact ⟨_,mF hd,q⟩
 ·rintro ⟨d,hd,q⟩;obtain ⟨i,hi,rfl⟩:=nO hd;have hu:its[i]?=some its[i]:=kT (by omega);exact ⟨_,mF hu,by rw [eqW_at I r h hu (kT hi)];exact q⟩
theorem all_eqW (I:Inv X pins σ H s) {A:Around} {xs:List V} {its:List Value} {ds:List D} (r:AC xs its) (h:IsL X.K H xs ds) {e:D} {y:V} {v:Value} (ry:RelV y v) (hy:Is X.K H y e) (hd:depL ds<=150) (hu:A.units+150 < cLine):∀ w∈its,EqAt A s w v (eqW its ds e w):=fun w hw=>by
 obtain ⟨i,hi,rfl⟩:=nO hw;have hl:its.length=ds.length:=by rw [<- r.length,h.length]
 have hdi:ds[i]?=some ds[i]:=kT (by omega);rw [eqW_at I r h (kT hi) hdi];obtain ⟨x,ex,px⟩:=h.get hdi;obtain ⟨u1,e1,r1⟩:=r.get ex;rw [kT hi] at e1;cases e1;exact To I 150 A _ _ x y _ _ (kr (EO hdi) hd) hu r1 ry px hy
def rInA (K:W.Frag) (neg:Bool):R2:=fun x y H Q=>∃ p ys ds e,y=.ref p/\(Cm K H p ys\/DW K H p ys)/\IsL K H ys ds/\Is K H x e/\depL ds<=150/\Q (.bl (if neg then !(ds.any fun d=>eqD d e) else ds.any fun d=>eqD d e)) H
theorem op_inA {j:Nat} (hr:Room j X.A):Bq X (compareOp .In) (rInA X.K false):=by
 intro pins s σ H x y v u Q I rx ry h;obtain ⟨p,ys,ds,e,rfl,hq,hl,hx,hd,q⟩:=h;have hu:X.A.units+1+150 < cLine:=by have:=hr.un;omega
 cases ry;rcases hq with hq | hq
 ·obtain ⟨its,r,pl,hz⟩:=I.list hq;refine SeqAt.in_listAt (eqW its ds e) pl.isList (fun w hw=>all_eqW I r hl rx hx hd hu w (by simpa using hw)) ⟨.bl _,H,I,rfl,?_⟩;rw [show its.toArray.any (eqW its ds e)=its.any (eqW its ds e) by simp,Fj I r hl];exact q
 ·obtain ⟨its,r,pl,hz⟩:=I.tuple hq;refine SeqAt.in_tupleAt (eqW its ds e) pl (fun w hw=>all_eqW I r hl rx hx hd hu w (by simpa using hw)) ⟨.bl _,H,I,rfl,?_⟩;rw [show its.toArray.any (eqW its ds e)=its.any (eqW its ds e) by simp,Fj I r hl];exact q
theorem op_notInA {j:Nat} (hr:Room j X.A):Bq X (compareOp .NotIn) (rInA X.K true):=by
 intro pins s σ H x y v u Q I rx ry h;obtain ⟨p,ys,ds,e,rfl,hq,hl,hx,hd,q⟩:=h;have hu:X.A.units+1+150 < cLine:=by have:=hr.un;omega
 cases ry;rcases hq with hq | hq
 ·obtain ⟨its,r,pl,hz⟩:=I.list hq;refine SeqAt.notIn_listAt (eqW its ds e) pl.isList (fun w hw=>all_eqW I r hl rx hx hd hu w (by simpa using hw)) ⟨.bl _,H,I,rfl,?_⟩;rw [show its.toArray.any (eqW its ds e)=its.any (eqW its ds e) by simp,Fj I r hl];exact q
 ·obtain ⟨its,r,pl,hz⟩:=I.tuple hq;refine SeqAt.notIn_tupleAt (eqW its ds e) pl (fun w hw=>all_eqW I r hl rx hx hd hu w (by simpa using hw)) ⟨.bl _,H,I,rfl,?_⟩;rw [show its.toArray.any (eqW its ds e)=its.any (eqW its ds e) by simp,Fj I r hl];exact q
end
end L3
namespace Q
open PySem L2
mutual
noncomputable def toD:Dt->L3.D
 | .non=>.fl .non
 | .bl b=>.fl (.bl b)
 | .int i=>.fl (.int i)
 | .str l=>.fl (.str (tx l))
 | .tup xs=>.tup (toDs xs)
 | .lst _ xs=>.lst (toDs xs)
 | _=>.fl .non
noncomputable def toDs:List Dt->List L3.D
 | []=>[]
 | d::ds=>toD d::toDs ds
end
mutual
noncomputable def Dt.cmp:Dt->Bool
 | .non=>true
 | .bl _=>true
 | .int _=>true
 | .str _=>true
 | .tup xs=>cmps xs
 | .lst _ xs=>cmps xs
 | _=>false
noncomputable def cmps:List Dt->Bool
 | []=>true
 | d::ds=>d.cmp && cmps ds
end
mutual
noncomputable def Dt.dep:Dt->Nat
 | .tup xs=>Pq xs+1
 | .lst _ xs=>Pq xs+1
 | _=>0
noncomputable def Pq:List Dt->Nat
 | []=>0
 | d::ds=>max d.dep (Pq ds)
end
mutual
noncomputable def eqT:Dt->Dt->Bool
 | .non,.non=>true
 | .bl a,.bl b=>a == b
 | .bl a,.int b=>(if a then 1 else 0) == b
 | .int a,.bl b=>a == (if b then 1 else 0)
 | .int a,.int b=>a == b
 | .str a,.str b=>a == b
 | .tup xs,.tup ys=>Kw xs ys
 | .lst _ xs,.lst _ ys=>Kw xs ys
 | _,_=>false
noncomputable def Kw:List Dt->List Dt->Bool
 | [],[]=>true
 | x::xs,y::ys=>eqT x y && Kw xs ys
 | _,_=>false
end
mutual
theorem Yr:∀ (d e:Dt),d.cmp=true->e.cmp=true->L3.eqD (toD d) (toD e)=eqT d e
 | .non,e,h,k=>by cases e<;>first | (unfold toD L3.eqD eqT;rfl) | (unfold Dt.cmp at k;cases k)
 | .bl b,e,h,k=>by cases e<;>first | (unfold toD L3.eqD eqT;rfl) | (unfold Dt.cmp at k;cases k)
 | .int i,e,h,k=>by cases e<;>first | (unfold toD L3.eqD eqT;rfl) | (unfold Dt.cmp at k;cases k)
 | .str l,e,h,k=>by
  cases e with
  | str m=>unfold toD L3.eqD eqT;rw [eqV_str];exact (nL l m).symm
  | _=>first | (unfold toD L3.eqD eqT;rfl) | (unfold Dt.cmp at k;cases k)
 | .tup xs,e,h,k=>by
  cases e with
  | tup ys=>unfold toD L3.eqD eqT;unfold Dt.cmp at h k;exact MY xs ys h k
  | _=>first | (unfold toD L3.eqD eqT;rfl) | (unfold Dt.cmp at k;cases k)
 | .lst o xs,e,h,k=>by
  cases e with
  | lst o' ys=>unfold toD L3.eqD eqT;unfold Dt.cmp at h k;exact MY xs ys h k
  | _=>first | (unfold toD L3.eqD eqT;rfl) | (unfold Dt.cmp at k;cases k)
 | .dic o xs,e,h,k=>by unfold Dt.cmp at h;cases h
 | .ref o,e,h,k=>by unfold Dt.cmp at h;cases h
 | .scr o,e,h,k=>by unfold Dt.cmp at h;cases h
 | .ty o,e,h,k=>by unfold Dt.cmp at h;cases h
 | .mtp o,e,h,k=>by unfold Dt.cmp at h;cases h
 | .dti _ o,e,h,k=>by unfold Dt.cmp at h;cases h
theorem MY:∀ (d e:List Dt),cmps d=true->cmps e=true->L3.eqDs (toDs d) (toDs e)=Kw d e
 | [],[],_,_=>by unfold toDs L3.eqDs Kw;rfl
 | [],_::_,_,_=>by simp only [toDs,L3.eqDs,Kw]
 | _::_,[],_,_=>by simp only [toDs,L3.eqDs,Kw]
 | x::xs,y::ys,h,k=>by
  unfold cmps at h k;rw [dL] at h k;simp only [toDs,L3.eqDs,Kw];rw [Yr x y h.1 k.1,MY xs ys h.2 k.2]
end
mutual
theorem dep_D:∀ (d:Dt),(toD d).dep=d.dep
 | .non=>by unfold toD L3.D.dep Dt.dep;rfl
 | .bl b=>by unfold toD L3.D.dep Dt.dep;rfl
 | .int i=>by unfold toD L3.D.dep Dt.dep;rfl
 | .str l=>by unfold toD L3.D.dep Dt.dep;rfl
 | .tup xs=>by unfold toD L3.D.dep Dt.dep;rw [deps_D xs]
 | .lst o xs=>by unfold toD L3.D.dep Dt.dep;rw [deps_D xs]
 | .dic o xs=>by unfold toD L3.D.dep Dt.dep;rfl
 | .ref o=>by unfold toD L3.D.dep Dt.dep;rfl
 | .scr o=>by unfold toD L3.D.dep Dt.dep;rfl
 | .ty o=>by unfold toD L3.D.dep Dt.dep;rfl
 | .mtp o=>by unfold toD L3.D.dep Dt.dep;rfl
 | .dti _ o=>by unfold toD L3.D.dep Dt.dep;rfl
theorem deps_D:∀ (d:List Dt),L3.depL (toDs d)=Pq d
 | []=>by unfold toDs L3.depL Pq;rfl
 | x::xs=>by simp only [toDs,L3.depL,Pq];rw [dep_D x,deps_D xs]
end
section
variable {K:W.Frag} {g:G} {H:Hp}
def bE (e:Dt) (ds:List Dt):Bool:=ds.any fun d=>eqT d e
def sub1 (x l:List Nat):Bool:=!(Builtin.Str.occurrences (tx l) (tx x) 0 (tx l).length 1).isEmpty
def Zv (neg:Bool):R2:=fun x y H Q=>∃ i j,x=.str i/\y=.str j/\Q (.bl (if neg then !(!(Builtin.Str.occurrences j i 0 j.length 1).isEmpty) else !(Builtin.Str.occurrences j i 0 j.length 1).isEmpty)) H
def rInQ (K:W.Frag) (neg:Bool):R2:=fun x y H Q=>Zv neg x y H Q\/L3.rInA K neg x y H Q
theorem anyD (e:Dt) (he:e.cmp=true):∀ (ds:List Dt),cmps ds=true->((toDs ds).any fun d=>L3.eqD d (toD e))=bE e ds
 | [],_=>by unfold toDs bE;rfl
 | d::ds,h=>by
  unfold cmps at h;rw [dL] at h;unfold bE;simp only [toDs,lu];rw [Yr d e h.1 he,anyD e he ds h.2];rfl
end
noncomputable def Dt.ofTy (T:String):Dt->Bool
 | .str _=>T == "str"
 | .lst _ _=>T == "list"
 | _=>false
noncomputable def ic (T:String) (o:Om) (m:M):Bool:=match o with
 | .ev _=>true
 | .rf i=>match (m.ρ[i]?).join with
  | some d=>d.ofTy T
  | none=>false
def evMeth (T:String) (p:Pr) (o:Om) (os:List Om) (m:M):Option (Dt×M):=bif ic T o m then do
    let (ds,m1) <- TM (o::os) m
    match ds with
    | d::_=>bif d.ofTy T then (p ds).map fun r=>(r,m1) else none
    | _=>none
  else none
section
end
section
end
section
variable {K:W.Frag}
def rIndexD (K:W.Frag):V->List V->Hp->VK->Prop:=fun x vs H Q=>∃ p xs y ds e j,x=.ref p/\vs=[y]/\Cm K H p xs/\L3.IsL K H xs ds/\L3.Is K H y e/\L3.depL ds<=150/\(∃ d,ds[j]?=some d/\L3.eqD d e=true)/\(∀ (m:Nat) (d:L3.D),m < j->ds[m]?=some d->L3.eqD d e=false)/\Q (.int (j:Nat)) H
theorem mt_indexD {X:Cx} {j:Nat} (hr:Room j X.A):Qb X "list.index" (rIndexD X.K):=by
 intro pins s σ H x vs v us Q I rx rv h;obtain ⟨p,xs,y,ds,e,j,rfl,rfl,hp,hds,hy,hdp,⟨dj,ej,hit⟩,hno,q⟩:=h;cases rx;obtain ⟨u,rfl,ru⟩:=rv.one;obtain ⟨its,r,pl,hz⟩:=I.list hp;obtain ⟨⟨cls,dd,data,sl⟩,ho,hc,n,hd⟩:=pl.isList;simp only at hc hd;subst hc hd;have hu:X.A.units+1+150 < cLine:=by have:=hr.un;omega
 have hl:its.length=ds.length:=by rw [<- r.length,hds.length]
 have hj:j < ds.length:=(kU.mp ej).1;have hs:sizeLine=16777216:=sizeLine_eq;have hxl:=r.length;have at_:∀ m (hm:m < its.toArray.size),∃ d,ds[m]?=some d/\L3.eqW its ds e its.toArray[m]=L3.eqD d e:=fun m hm=>by
  have hm':m < its.length:=by simpa using hm
  have hd:ds[m]?=some ds[m]:=kT (by omega);exact ⟨ds[m],hd,by simpa using L3.eqW_at I r hds (kT hm') hd⟩
 refine call_meets F.slot_list_index ⟨_,ho,rfl⟩ F.entry_list_index (F.args_list_index_2 _ _)
  (SeqAt.list_indexAt p its.toArray n dd sl u (L3.eqW its ds e) j (by simpa [hl] using hj) (by omega) ?_ ?_) ⟨ho,fun w hw=>L3.all_eqW I r hds ru hy hdp hu w (by simpa using hw),⟨.int (j:Nat),H,I.tok _,⟨_,rfl⟩,q⟩⟩
 ·obtain ⟨w,e1,e2⟩:=at_ j (by simpa [hl] using hj);rw [ej] at e1;cases e1;rw [e2];exact hit
 ·intro m hm hlt;obtain ⟨w,e1,e2⟩:=at_ m hm;rw [e2];exact hno m w hlt e1
theorem toDs_get:∀ (ds:List Dt) (i:Nat),(toDs ds)[i]?=(ds[i]?).map toD
 | [],i=>by unfold toDs;simp
 | d::ds,0=>by unfold toDs;simp
 | d::ds,i+1=>by
  have:=toDs_get ds i;simp only [toDs,mZ];exact this
def rIndexTD (K:W.Frag):V->List V->Hp->VK->Prop:=fun x vs H Q=>∃ p xs y ds e j,x=.ref p/\vs=[y]/\H p=some (.tup xs)/\L3.IsL K H xs ds/\L3.Is K H y e/\L3.depL ds<=150/\(∃ d,ds[j]?=some d/\L3.eqD d e=true)/\(∀ (m:Nat) (d:L3.D),m < j->ds[m]?=some d->L3.eqD d e=false)/\Q (.int (j:Nat)) H
theorem mt_indexTD {X:Cx} {j:Nat} (hr:Room j X.A):Qb X "tuple.index" (rIndexTD X.K):=by
 intro pins s σ H x vs v us Q I rx rv h;obtain ⟨p,xs,y,ds,e,j,rfl,rfl,hp,hds,hy,hdp,⟨dj,ej,hit⟩,hno,q⟩:=h;cases rx;obtain ⟨u,rfl,ru⟩:=rv.one;obtain ⟨hz,its,r,⟨cls,dd,data,sl⟩,ho,hc,hdd,n,hd⟩:=I.hok p _ hp;simp only at hc hd;subst hc hd;have hu:X.A.units+1+150 < cLine:=by have:=hr.un;omega
 have hl:its.length=ds.length:=by rw [<- r.length,hds.length]
 have hj:j < ds.length:=(kU.mp ej).1;have at_:∀ m (hm:m < its.toArray.size),∃ d,ds[m]?=some d/\L3.eqW its ds e its.toArray[m]=L3.eqD d e:=fun m hm=>by
  have hm':m < its.length:=by simpa using hm
  have hd:ds[m]?=some ds[m]:=kT (by omega);exact ⟨ds[m],hd,by simpa using L3.eqW_at I r hds (kT hm') hd⟩
 refine call_meets F.slot_tuple_index ⟨_,ho,rfl⟩ F.entry_tuple_index (F.args_tuple_index_2 _ _)
  (HQ p its.toArray n dd sl u (L3.eqW its ds e) j (by simpa [hl] using hj) ?_ ?_) ⟨ho,fun w hw=>L3.all_eqW I r hds ru hy hdp hu w (by simpa using hw),⟨.int (j:Nat),H,I.tok _,⟨_,rfl⟩,q⟩⟩
 ·obtain ⟨w,e1,e2⟩:=at_ j (by simpa [hl] using hj);rw [ej] at e1;cases e1;rw [e2];exact hit
 ·intro m hm hlt;obtain ⟨w,e1,e2⟩:=at_ m hm;rw [e2];exact hno m w hlt e1
end
section
end
section
variable {K:W.Frag}
noncomputable def isSub (k T:String):Bool:=k == T || (k == "bool" && T == "int")
theorem kit_ok (K:W.Frag) {k T:String} (hk:k∈["NoneType", "bool", "int", "str", "tuple", "list"]) (hT:T∈["int", "bool", "str", "tuple", "list"]):W.kitOne K (.type k) (.type T)=some (isSub k T):=by
 simp only [kh,lV,or_false] at hk hT;rcases hk with rfl | rfl | rfl | rfl | rfl | rfl<;>rcases hT with rfl | rfl | rfl | rfl | rfl<;>kernel_rfl
end
section
end
section
end
theorem ai {X:Cx}:Bq X (compareOp .In) (Zv false):=Oy
theorem Ox {X:Cx}:Bq X (compareOp .NotIn) (Zv true):=JD
theorem op_inQ {X:Cx} {j:Nat} (hr:Room j X.A):Bq X (compareOp .In) (rInQ X.K false):=ai.or (L3.op_inA hr)
theorem op_notInQ {X:Cx} {j:Nat} (hr:Room j X.A):Bq X (compareOp .NotIn) (rInQ X.K true):=Ox.or (L3.op_notInA hr)
noncomputable abbrev tI (xs:List Int):Dt:=.tup (xs.map .int)
end Q
set_option maxHeartbeats 2000000
set_option maxHeartbeats 2000000
namespace L2
open PySem PySem.Spec PyProof.Rows
noncomputable def cT (ifs:List Expr) (env:Env):Sem Bool:=forIn ifs true fun c r=>if r=true then do let ok <- isTrue c env (eval c env);pure (ForInStep.yield ok) else pure (ForInStep.yield r)
def VL (X:Cx) (ifs:List Expr) (t:TT):Prop:=
 ∀ (pins:List (Addr×Obj)) (s:Shared) (σ:St) (H:Hp) (Q:Bool->Hp->Prop),Inv X pins σ H s->t σ H Q->wpAny (model X.prog X.w) X.A (cT ifs X.env) (TP X pins σ Q) X.xe s
theorem VL.one {X:Cx} {c:Expr} {t:TT} (h:PT X c t):VL X [c] t:=fun pins s σ H Q I q=>wpAny_tests_one (h pins s σ H Q I q)
theorem JU {prog:Program} {w:World} {A:Around} {R:Result->Shared->Prop} {s:Shared} {elt target iter:Expr} {ifs:List Expr} {scope:Scope} {pos:Pos} {it acc:Value} {env:Env} (I:Nat->Shared->Prop)
    (turn:∀ n s,I n s->wpAny (model prog w) A (pyNext it) (fun r s₁=>match r with
      | none=>R (.ok .next) s₁
      | some v=>wpAny (model prog w) A (letOwnedTupleGo target it v) (fun _ s₂=>wpAny (model prog w) A (assign target env v) (fun _ s₃=>wpAny (model prog w) A (cT ifs env) (fun ok s₄=>if ok=true then wpAny (model prog w) A (eval elt env) (fun x s₅ =>
          wpAny (model prog w) A (call (.builtin "list.append") [acc,x]) (fun _ s₆=>∃ m,m < n/\I m s₆) (fun _ _=>False) s₅) (fun _ _=>False) s₄ else ∃ m,m < n/\I m s₄) (fun _ _=>False) s₃) (fun _ _=>False) s₂) (fun _ _=>False) s₁) (fun _ _=>False) s)
    (n:Nat) (h:I n s) :
    codeAny (model prog w) A (.compLoop (.ListComp elt [⟨target,iter,ifs,0⟩] scope pos) 0 it acc env) R s:=by
  refine codeAny_loop rfl I (fun n s hI=>?_) n h;show wpAny _ _ ((compTurn (.ListComp elt [⟨target,iter,ifs,0⟩] scope pos) 0 it acc env).onRaise (fun x=>do noteFrame x env;theTreesLotGoes x)) _ _ s;refine wpAny_noted ?_;rw [compTurn_list];have no:∀ {E:Value->Shared->Prop},∀ (e:Value) (s:Shared),False->E e s:=fun _ _ z=>z.elim
  refine wpAny_bind (wpAny_standAt (wpAny_bind (wpAny_mono (turn n s hI) (fun r s₁ h₁=>?_) no)));cases r with
  | none=>exact wpAny_pure h₁
  | some v =>
    refine wpAny_bind (wpAny_mono h₁ (fun _ s₂ h₂=>?_) no);refine wpAny_bind (wpAny_mono h₂ (fun _ s₃ h₃=>wpAny_bind (wpAny_mono h₃ (fun ok s₄ h₄=>?_) no)) no);cases ok with
    | false=>exact wpAny_pure ⟨rfl,h₄⟩
    | true=>exact wpAny_bind (wpAny_bind (wpAny_mono h₄ (fun x s₅ h₅=>wpAny_bind (wpAny_mono h₅ (fun _ s₆ h₆=>wpAny_pure (wpAny_pure ⟨rfl,h₆⟩)) no)) no))
section
variable {X:Cx} {tg iter elt:Expr} {ifs:List Expr} {scope:Scope} {pos:Pos} {g:TG} {te:TE} {tc:TT} {js:List Nat} {wi:TI}
def Mo (js:List Nat) (g:TG) (tc:TT) (te:TE) (J:It) (σ:St) (Fin:List V->Hp->Prop) (W:Nat->Nat->List V->Hp->Prop):Prop:=∀ i m ys H,W i m ys H ->
 (J.stop i H/\Fin ys H)\/(J.go i H/\ys.length < sizeLine/\∃ N:List V->Hp->Prop,(∀ zs H',N zs H'->∃ m',m' < m/\W (i+1) m' zs H')/\∀ x H',J.yld i H x H'->g x (blank js σ) H' fun σ2 H2=>tc σ2 H2 fun b H3=>if b=true then te σ2 H3 fun v H4=>N (ys++[v]) H4 else N ys H3)
theorem FM {pins:List (Addr×Obj)} {s2:Shared} {σ:St} {H2:Hp} {it:Addr} {fp:List Addr} {tn:Nat->Heap->Prop} {J:It} {cl:List (Str×Addr)} {W:Nat->Nat->List V->Hp->Prop} {Fin:List V->Hp->Prop} {E:Value->Shared->Prop} {RR:Value->Addr->Result->Shared->Prop}
    (hin:InnerIn X.N X.env.scope scope js) (hc:X.calm=true) (hg:∀ cl C s H fp,PG (X.inner scope cl C s H fp) tg g) (hgo:OP js g) (hcn:∀ cl C s H fp,VL (X.inner scope cl C s H fp) ifs tc) (he:∀ cl C s H fp,PE (X.inner scope cl C s H fp) elt te)
    (I2:Inv X pins σ H2 s2) (T:Turn X.prog X.w X.K tg J fp it tn) (t0:tn 0 s2.heap) (hf:∀ b∈fp,FpOk X pins H2 b)
    (hcl:∀ x c,cl.lookup x=some c->X.env.cells.lookup x=some c) (hfr:∀ x,scope.names.lookup x=some .free->∃ c,cl.lookup x=some c)
    {m0:Nat} (w0:W 0 m0 [] H2) (turn:Mo js g tc te J σ Fin W)
    (hRR:∀ D C s' H' ys m,Inv X pins σ (upd H' D (.lst ys)) s'->H' D=none->Fin ys H'->s'.heap.Ns C m->C≠X.env.locals->X.s₀.heap.objs.size<=C->(∀ x c,X.env.cells.lookup x=some c->c≠C)->(∀ p∈X.pn++pins,p.1≠C)->H' C=none->D≠C->RR (.ref D) C (.ok .next) s') :
    wpAny (model X.prog X.w) X.A (newList []) (fun acc s₃=>wpAny (model X.prog X.w) X.A (newFunctionEnv scope X.env.globals cl [] X.env.qual none .none (some X.env)) (fun cenv s₄ =>
      codeAny (model X.prog X.w) X.A (.compStart (.ListComp elt [⟨tg,iter,ifs,0⟩] scope pos) 0 (.ref it) acc { cenv with scope:=relabel scope X.env }) (RR acc cenv.locals) s₄) E s₃) E s2:=by
  have hfe:∀ b∈fp,b < s2.heap.objs.size:=fun b hb=>let ⟨_,e,_⟩:=T.obj _ _ t0 b hb;lB e
  refine wpAny_newObj_type (Ba ?_);dsimp only
  generalize hHH:s2.heap.push { cls:=.type "list", dict:=none,data:=.seq ([]:List Value).toArray }=HH
  have hC:HH.objs.size=s2.heap.objs.size+1:=by rw [<- hHH,lq]
  have hDC:s2.heap.objs.size≠HH.objs.size:=by rw [hC];exact lL (mh _)
  have hCle:s2.heap.objs.size<=HH.objs.size:=by rw [hC];exact Nat.le_succ _
  have below:∀ b,b < s2.heap.objs.size->b≠HH.objs.size/\b≠s2.heap.objs.size:=fun b hb=>⟨by rw [hC];exact lL (Nat.lt_succ_of_lt hb),lL hb⟩
  obtain ⟨h₁,hh₁⟩:∃ h₁,pushCells (HH.push { cls:=.type "dict", data:=.dict #[] }) scope.names=h₁:=⟨_,rfl⟩
  have old:∀ b o,s2.heap.get? b=some o->h₁.get? b=some o:=fun b o e=>hh₁▸pushCells_keeps _ _ b o (kW _ (hHH▸kW _ e))
  have hacc:h₁.get? s2.heap.objs.size=some { cls:=.type "list", data:=.seq ([]:List Value).toArray 0 }:=hh₁▸pushCells_keeps _ _ _ _ (kW _ (hHH▸lA _ rfl))
  have hns₁:h₁.Ns HH.objs.size (fun _=>none):=hh₁▸(Heap.Ns.new HH (.type "dict")).keeps (pushCells_keeps _ _)
  obtain ⟨L,hown⟩:=XE (s:=s2) (C:=HH.objs.size) hin hcl hfr (h:=HH.push { cls:=.type "dict", data:=.dict #[] }) hCle (lq ..)
  rw [hh₁] at hown ⊢;generalize hcc:cellsFrom (HH.objs.size+1) scope.names cl=cl' at L hown ⊢;clear hh₁ hcc;generalize hDD:s2.heap.objs.size=D at *;generalize hCC:HH.objs.size=C at *;have hDle:s2.heap.objs.size<=D:=Nat.le_of_eq hDD;have hCle':s2.heap.objs.size<=C:=by rw [hDD];exact hCle
  have nocell:∀ (its:List Value) (n:Nat) v,({ cls:=.type "list", data:=.seq its.toArray n }:Obj).data≠.cell v:=fun _ _ _ z=>by cases z
  have I4:Inv (X.inner scope cl' C s2 H2 fp) (pins++[(D,{ cls:=.type "list", data:=.seq ([]:List Value).toArray 0 })]) (blank js σ) H2 { s2 with heap:=h₁,toks:=s2.toks }:=
    I2.enter hin hf (by rw [hDD];exact hfe) hCle' hDle hDC L hown old hns₁ hacc (nocell _ _)
  have stat:∀ {H':Hp} {o:Obj},(∀ b∈fp,H' b=none)->∀ b∈fp,FpOk (X.inner scope cl' C s2 H2 fp) (pins++[(D,o)]) H' b:=fun {H' o} hn b hb=>by
    obtain ⟨_,f1,f2,f3,f4,f5⟩:=hf b hb;refine ⟨hn b hb,(below b (hfe b hb)).1,fun z=>?_,.inl hb,fun x c e=>L.ne e (by rw [hDD];exact hfe b hb) f4,fun p hp=>?_⟩
    · rcases kh.mp (I2.stkSub b z) with e | e
      · exact f1 e
      · exact f2 e
    · have hp':p∈X.pn++(pins++[(D,o)]):=hp;rw [<- lj] at hp';rcases lC.mp hp' with z | z
      · exact f5 p z
      · have e:p=(D,o):=by simpa using z
        subst e;exact fun z=>(below b (hfe b hb)).2 z.symm
  have loop:∀ s₃:Shared,s₃={ s2 with heap:=h₁,toks:=s2.toks } ->
      codeAny (model X.prog X.w) X.A (.compLoop (.ListComp elt [⟨tg,iter,ifs,0⟩] scope pos) 0 (.ref it) (.ref D) (compEnvC scope cl' C X.env)) (RR (.ref D) C) s₃:=by
    rintro s₃ rfl
    refine JU (fun n s'=>∃ i ys its k H',Inv (X.inner scope cl' C s2 H2 fp) (pins++[(D,{ cls:=.type "list", data:=.seq its.toArray k })]) (blank js σ) H' s'/\tn i s'.heap/\(∀ b∈fp,H' b=none)/\AC ys its/\ys.length<=sizeLine/\W i n ys H') ?_ m0
      ⟨0,[],[],0,H2,I4,T.keep _ _ _ t0 fun b hb o e=>old b o e,fun b hb=>(hf b hb).1,.nil,lg _,w0⟩
    rintro n s3 ⟨i,ys,its,k,H3,I3,st3,fr3,hv3,hz3,w3⟩;rcases turn i n ys H3 w3 with ⟨stop,fin⟩ | ⟨go,hlt,N,hN,step⟩
    · refine An (T.done (X.inner scope cl' C s2 H2 fp) rfl rfl rfl hc i _ s3 _ H3 _ I3 (stat fr3) st3 stop) fun r s4 ⟨hr,I4⟩=>?_
      subst hr
      have pD:=I4.pin (D,{ cls:=.type "list", data:=.seq its.toArray k }) (ka _ (ka _ kZ))
      obtain ⟨m,hn,_⟩:=id I4.loc;refine hRR D C s4 H3 ys m (I2.leave (fp:=fp) hf rfl I4 hDle pD.2.1 hz3 hv3 pD.1) pD.2.1 fin hn ?_ ?_ (fun x c e=>?_) (fun p hp=>?_) I4.free hDC
      · exact nY (kq I2.lt hCle')
      · exact kr I2.sz hCle'
      · exact lL (kq (I2.cellLt e) hCle')
      · exact lL (kq (I2.pinLt hp) hCle')
    · refine An (T.item (X.inner scope cl' C s2 H2 fp) rfl rfl rfl hc i _ s3 _ H3 _ I3 (stat fr3) st3 go) fun r s4 ⟨u,hr,h4⟩=>?_
      subst hr;refine An h4 fun _ s5 ⟨x,H5,I5,r5,y5,st5,fr5⟩=>?_
      have I5':=I5.pinned (stat fr5) (T.obj _ _ st5);refine An (hg cl' C s2 H2 fp _ s5 _ H5 x u _ I5' r5 (hgo _ _ _ _ (step x H5 y5))) fun _ s6 ⟨σ6,H6,I6,⟨hl6,hs6⟩,q6⟩=>?_
      refine An (hcn cl' C s2 H2 fp _ s6 σ6 H6 _ I6 q6) fun ok s6b ⟨H6b,I6b,q6b⟩=>?_
      have other:∀ (s7:Shared) (v:Value) (b:Addr) (u:Obj),b≠D->s7.heap.get? b=some u->(s7.heap.update D (Obj.mapSeq fun a=>a.push v)).get? b=some u:=fun s7 v b u hb hu=>(me s7.heap (Obj.mapSeq fun a=>a.push v) (Ne.symm hb)).trans hu
      cases ok with
      | false =>
        obtain ⟨m',hm,w7⟩:=hN _ _ q6b
        have pD:=I6b.pin (D,{ cls:=.type "list", data:=.seq its.toArray k }) (ka _ (ko _ (ka _ kZ)))
        have fpk:∀ b∈fp,∀ o,s5.heap.get? b=some o->s6b.heap.get? b=some o/\H6b b=none:=fun b hb o e =>
          let z:=I6b.pin (b,o) (ka _ (ka _ (Ce hb e)));⟨z.1,z.2.1⟩
        have I8:Inv (X.inner scope cl' C s2 H2 fp) pins (blank js σ) H6b s6b:=by
          have Ia:Inv (X.inner scope cl' C s2 H2 fp) pins σ6 H6b s6b:=I6b.pins_of fun p hp=>I6b.pin p (ka _ (ko _ (ko _ hp)))
          exact Ia.weak hl6.symm fun i v e=>by
            obtain ⟨hj,_⟩:=FD js σ i v e;rw [hs6 i hj];exact e
        refine ⟨m',hm,i+1,ys,its,k,H6b,I8.pins_of (fun p hp=>?_),T.keep _ _ _ st5 fun b hb o e=>(fpk b hb o e).1,fun b hb=>?_,hv3,hz3,w7⟩
        · rcases lC.mp hp with z | z
          · exact I8.pin p (ka _ z)
          · have e:p=(D,_):=lJ.mp z;subst e;exact ⟨pD.1,pD.2.1,pD.2.2.1,pD.2.2.2.1,nocell _ _⟩
        · obtain ⟨o,e,_⟩:=T.obj _ _ st5 b hb;exact (fpk b hb o e).2
      | true =>
      refine An (he cl' C s2 H2 fp _ s6b σ6 H6b _ I6b q6b) fun v s7 ⟨y,H7,I7,r7,n7⟩=>?_
      obtain ⟨m',hm,w7⟩:=hN _ _ n7
      have pD:=I7.pin (D,{ cls:=.type "list", data:=.seq its.toArray k }) (ka _ (ko _ (ka _ kZ)))
      have lt:its.toArray.size<=sizeLine:=by rw [kY,<- hv3.length];exact hz3
      refine call_meets F.slot_list_append ⟨_,pD.1,rfl⟩ F.entry_list_append (F.args_list_append_2 _ _) (PySem.list_append D its.toArray k v lt) ⟨pD.1,?_⟩
      obtain ⟨k',q⟩:∃ k',(s7.heap.update D (Obj.mapSeq fun a=>a.push v)).get? D=some { cls:=.type "list", data:=.seq (its.toArray.push v) k' }:=⟨_,PySem.IsL.update pD.1 (fun a=>a.push v)⟩
      have eq:(its.toArray.push v)=(its++[v]).toArray:=by simp
      have fpk:∀ b∈fp,∀ o,s5.heap.get? b=some o->s7.heap.get? b=some o/\H7 b=none:=fun b hb o e =>
        let z:=I7.pin (b,o) (ka _ (ka _ (Ce hb e)));⟨z.1,z.2.1⟩
      have other:∀ b u,b≠D->s7.heap.get? b=some u->(s7.heap.update D (Obj.mapSeq fun a=>a.push v)).get? b=some u:=fun b u hb hu=>(me s7.heap (Obj.mapSeq fun a=>a.push v) (Ne.symm hb)).trans hu
      have I8:Inv (X.inner scope cl' C s2 H2 fp) pins (blank js σ) H7 { s7 with heap:=s7.heap.update D (Obj.mapSeq fun a=>a.push v),toks:=s7.toks }:=by
        have Ia:Inv (X.inner scope cl' C s2 H2 fp) pins σ6 H7 s7:=I7.pins_of fun p hp=>I7.pin p (ka _ (ko _ (ko _ hp)))
        have Ib:Inv (X.inner scope cl' C s2 H2 fp) pins (blank js σ) H7 s7:=Ia.weak hl6.symm fun i v e=>by
          obtain ⟨hj,_⟩:=FD js σ i v e;rw [hs6 i hj];exact e
        refine Ib.turned (it:=D) (fun b o hb e=>other b o hb e) pD.2.1 pD.2.2.1 (.inr hDle) (fun x c e=>?_) (fun p hp=>?_)
        · cases q:AM scope x with
          | false=>exact lL (kq (I2.cellLt (L.old x c e q)) hDle)
          | true=>exact nY (nP hCle (L.own x c e q).2)
        · exact lL (kq (I2.pinLt hp) hDle)
      refine ⟨m',hm,i+1,ys++[y],its++[v],k',H7,I8.pins_of (fun p hp=>?_),T.keep _ _ _ st5 fun b hb o e=>other b o (below b (hfe b hb)).2 (fpk b hb o e).1,fun b hb=>?_,hv3.append (.cons r7 .nil),by rw [lI,lY];omega,w7⟩
      · rcases lC.mp hp with z | z
        · exact I8.pin p (ka _ z)
        · have e:p=(D,_):=lJ.mp z;subst e;rw [<- eq];exact ⟨q,pD.2.1,pD.2.2.1,pD.2.2.2.1,nocell _ _⟩
      · obtain ⟨o,e,_⟩:=T.obj _ _ st5 b hb;exact (fpk b hb o e).2
  exact codeAny_compStart_list (loop _ rfl) (T.self _ 0 _ _ _ (T.keep _ _ _ t0 fun b hb o e=>old b o e) (loop _ rfl))
def EY (wi:TI) (js:List Nat) (g:TG) (tc:TT) (te:TE):TE:=fun σ H Q=>wi σ H fun J H1=>∃ W:Nat->Nat->List V->Hp->Prop,(∃ m,W 0 m [] H1)/\Mo js g tc te J σ (fun ys H=>∀ p,H p=none->Q (.ref p) (upd H p (.lst ys))) W
theorem KZ (hin:innerOk X.N X.env.scope scope js=true) (hc:X.calm=true) (hi:PI X tg iter wi) (hg:∀ cl C s H fp,PG (X.inner scope cl C s H fp) tg g) (hgo:OP js g) (hcn:∀ cl C s H fp,VL (X.inner scope cl C s H fp) ifs tc) (he:∀ cl C s H fp,PE (X.inner scope cl C s H fp) elt te)
    (hs:∀ x,foldedSetIterable iter X.env x=pure x:=by intro _;rfl):PE X (.ListComp elt [⟨tg,iter,ifs,0⟩] scope pos) (EY wi js g tc te):=by
  intro pins s σ H Q I h;have hin:=Gp hin;obtain ⟨cl,hclos,hcl,hfr⟩:=HC (scope:=scope) (env:=X.env) (fun x hx=>I.ok.has x (hin.fr x hx)) hin.uniqF;rw [eval_ListComp];refine wpAny_comprehension_free (use:=none) rfl hs hclos hin.kind hin.uniqL ?_;refine An (hi pins s σ H _ I h) fun v s1 h1=>An h1 fun itv s2 h2=>?_
  obtain ⟨it,fp,tn,J,H2,e,I2,T,st2,f2,W,⟨m0,w0⟩,turn⟩:=h2;subst e;refine FM (RR:=fun acc C=>compPost (model X.prog X.w) X.A X.xe none (EP X pins σ Q) acc C) hin hc hg hgo hcn he I2 T st2 f2 hcl hfr w0 turn ?_;intro D C s' H' ys m I' hD fin hn c1 c2 c3 c4 c5 c6;refine ⟨m,hn,fun h' sb=>⟨.ref D,_,I'.turned (t':=s'.toks) (it:=C) (fun b o hb e=>(sb.2 b hb).trans e) ?_ c1 (.inr c2) c3 c4,rfl,fin D hD⟩⟩;rw [AD (Ne.symm c6)];exact c5
theorem KU {i:Nat} {x:Str} {pos' spos:Pos} (hN:X.N.Nodup) (hix:X.N[i]?=some x) (hx:Loc X.env.scope x)
    (hin:innerOk X.N X.env.scope scope js=true) (hc:X.calm=true) (hi:PI X tg iter wi) (hg:∀ cl C s H fp,PG (X.inner scope cl C s H fp) tg g) (hgo:OP js g) (hcn:∀ cl C s H fp,VL (X.inner scope cl C s H fp) ifs tc) (he:∀ cl C s H fp,PE (X.inner scope cl C s H fp) elt te)
    (hsw:swapsWith (.ListComp elt [⟨tg,iter,ifs,0⟩] scope pos) (some (.Name x pos')) spos.line X.env=pure true:=by rfl)
    (hs:∀ x,foldedSetIterable iter X.env x=pure x:=by intro _;rfl)
    (hf:X.fn x=true\/X.env.scope.names.lookup x=some .local:=by first | exact .inl rfl | exact .inr rfl | assumption) :
    PS X (.Assign [.Name x pos'] (.ListComp elt [⟨tg,iter,ifs,0⟩] scope pos) spos) (Js (EY wi js g tc te) (Cj i)):=by
  intro pins s σ H D I h;have hin:=Gp hin;obtain ⟨cl,hclos,hcl,hfr⟩:=HC (scope:=scope) (env:=X.env) (fun x hx=>I.ok.has x (hin.fr x hx)) hin.uniqF;rw [exec_Assign_Name_used _ _ _ _ hsw];refine wpAny_bind (wpAny_standAt (wpAny_bind ?_));show wpAny _ _ (do let _ <- comprehension (.ListComp elt [⟨tg,iter,ifs,0⟩] scope pos) scope X.env _ (newList []) false (eval iter X.env) (some (assign (.Name x pos') X.env))) _ _ s;refine wpAny_bind (An (wpAny_comprehension_free (use:=some (assign (.Name x pos') X.env)) (Q:=fun _ s'=>SP X pins D .next s') rfl hs hclos hin.kind hin.uniqL ?_) (fun _ s' hq=>wpAny_pure (wpAny_pure hq)));refine An (hi pins s σ H _ I h) fun v s1 h1=>An h1 fun itv s2 h2=>?_
  obtain ⟨it,fp,tn,J,H2,e,I2,T,st2,f2,W,⟨m0,w0⟩,turn⟩:=h2;subst e;refine FM (RR:=fun acc C=>compPost (model X.prog X.w) X.A X.xe (some (assign (.Name x pos') X.env)) (fun _ s'=>SP X pins D .next s') acc C) hin hc hg hgo hcn he I2 T st2 f2 hcl hfr w0 turn ?_;intro DD C s' H' ys m I' hD fin hn c1 c2 c3 c4 c5 c6;show wpAny _ _ (assign (.Name x pos') X.env (.ref DD)) _ _ _;refine wpAny_assign_Name (Hk (v:=.ref DD) I' hN hix hx rfl (fun s'' I'' ⟨a,sb,ha⟩=>?_) hf);have ne:C≠a:=by
    rcases ha with z | z
    · rw [z];exact c1
    · exact (c3 x a z).symm
  refine ⟨m,hn.sameBut sb ne,fun h' sb'=>⟨_,_,I''.turned (t':=s''.toks) (it:=C) (fun b o hb e=>(sb'.2 b hb).trans e) ?_ c1 (.inr c2) c3 c4,fin DD hD⟩⟩;rw [AD (Ne.symm c6)];exact c5
end
end L2
namespace R
open PySem L2
section
variable {γ:Type}
noncomputable def CV (g:Dv->γ->Option (Dv×γ)):List Dv->γ->Option (List Dv×γ)
 | [],c=>some ([],c)
 | x::xs,c=>(g x c).bind fun p=>(CV g xs p.2).bind fun q=>some (p.1::q.1,q.2)
noncomputable def BG (g:Dv->Option Dv):List Dv->Option (List Dv)
 | []=>some []
 | x::xs=>(g x).bind fun p=>(BG g xs).bind fun q=>some (p::q)
noncomputable def OB (g:Dv->γ->Option (Option Dv×γ)):List Dv->γ->Option (List Dv×γ)
 | [],c=>some ([],c)
 | x::xs,c=>(g x c).bind fun p=>(OB g xs p.2).bind fun q=>some (match p.1 with | some d=>d::q.1 | none=>q.1,q.2)
noncomputable def bF (g:Dv->Option (Option Dv)):List Dv->Option (List Dv)
 | []=>some []
 | x::xs=>(g x).bind fun p=>(bF g xs).bind fun q=>some (match p with | some d=>d::q | none=>q)
noncomputable def few {α:Type} (xs:List Dv) (o:Option α):Option α:=if xs.length<=1000000 then o else none
end
theorem EN {α:Type} {xs:List Dv} {o:Option α} {a:α} (h:few xs o=some a):xs.length<=1000000/\o=some a:=by
 unfold few at h;split at h
 ·rename_i z;exact ⟨z,h⟩
 ·cases h
section
variable {K:W.Frag} {g g':G} {H H':Hp} {Γ:Gm} {m:M} {σ:St} {P:Fp}
theorem Rel.sub {Γ':Gm} {σ':St} (h:Rel K g H Γ m σ P) (hl:Γ'.length=Γ.length) (hs:σ'.length=σ.length) (k:∀ (i o:Nat),Γ'[i]?=some (some o)->Γ[i]?=some (some o)/\σ'[i]?=σ[i]?):∃ P',Rel K g H Γ' m σ' P'/\∀ a,P' a->P a:=by
 obtain ⟨zd,F,h1,h4⟩:=h;refine ⟨fun a=>∃ i,(∃ o,Γ'[i]?=some (some o))/\F i a,⟨zd,fun i a=>(∃ o,Γ'[i]?=some (some o))/\F i a,⟨by rw [hl];exact h1.l1,by rw [hs,hl];exact h1.l2,fun i o e=>?_,fun i e a q=>q.1.elim fun o z=>e o z,fun i j n a q z=>h1.dj i j n a q.2 z.2⟩,fun _=>Iff.rfl⟩,fun a ⟨i,_,q⟩=>(h4 a).mpr ⟨i,q⟩⟩;obtain ⟨e',es⟩:=k i o e;obtain ⟨d,v,e1,e2,r⟩:=h1.rep i o e';have eq:(fun a=>(∃ o,Γ'[i]?=some (some o))/\F i a)=F i:=funext fun a=>propext ⟨fun z=>z.2,fun z=>⟨⟨o,e⟩,z⟩⟩
 exact ⟨d,v,e1,by rw [es];exact e2,by show Rep K g H o d v fun a=>(∃ o,Γ'[i]?=some (some o))/\F i a;rw [eq];exact r⟩
theorem Rel.more {Γ':Gm} {σ':St} (h:Rel K g H Γ m σ P) (hl:Γ'.length=Γ.length) (hs:σ'.length=σ.length) (k:∀ (i o:Nat),Γ'[i]?=some (some o)->(Γ[i]?=some (some o)/\σ'[i]?=σ[i]?)\/(o=0/\∃ d v,m[i]?=some d/\σ'[i]?=some (some v)/\Rep K g H 0 d v nop)):∃ P',Rel K g H Γ' m σ' P'/\∀ a,P' a->P a:=by
 obtain ⟨zd,F,h1,h4⟩:=h
 let C:Nat->Prop:=fun i=>∃ o,Γ'[i]?=some (some o)/\Γ[i]?=some (some o)/\σ'[i]?=σ[i]?
 refine ⟨fun a=>∃ i,C i/\F i a,⟨zd,fun i a=>C i/\F i a,⟨by rw [hl];exact h1.l1,by rw [hs,hl];exact h1.l2,fun i o e=>?_,fun i e a q=>q.1.elim fun o z=>e o z.1,fun i j n a q z=>h1.dj i j n a q.2 z.2⟩,fun _=>Iff.rfl⟩,fun a ⟨i,_,q⟩=>(h4 a).mpr ⟨i,q⟩⟩
 by_cases c:C i
 ·obtain ⟨o',e1,e2,e3⟩:=c;rw [e] at e1;cases e1;obtain ⟨d,v,e4,e5,r⟩:=h1.rep i o e2;have eq:(fun a=>C i/\F i a)=F i:=funext fun a=>propext ⟨fun z=>z.2,fun z=>⟨⟨o,e,e2,e3⟩,z⟩⟩
  exact ⟨d,v,e4,by rw [e3];exact e5,by show Rep K g H o d v fun a=>C i/\F i a;rw [eq];exact r⟩
 ·have eq:(fun a=>C i/\F i a)=nop:=nop_iff fun a z=>c z.1
  rcases k i o e with z | ⟨rfl,d,v,e1,e2,r⟩
  ·exact (c ⟨o,e,z⟩).elim
  ·exact ⟨d,v,e1,e2,by show Rep K g H 0 d v fun a=>C i/\F i a;rw [eq];exact r⟩
end
def LO (js:List Nat) (Γ:Gm):Gm:=(List.range Γ.length).map fun i=>if js.contains i then none else Γ.getD i none
def KF (js:List Nat) (Γ1 Γ:Gm):Gm:=(List.range Γ.length).map fun i=>if js.contains i then (if Γ1.getD i none == some 0 then some 0 else none) else Γ.getD i none
theorem DK {α:Type} {n i:Nat} {f:Nat->α} {x:α} (h:((List.range n).map f)[i]?=some x):i < n/\x=f i:=by
 rw [km] at h
 by_cases z:i < n
 ·rw [mC z] at h;exact ⟨z,(Option.some.inj h).symm⟩
 ·rw [List.getElem?_eq_none_iff.mpr (by simpa using z)] at h;cases h
theorem Ap {Γ:Gm} {i o:Nat} (h:Γ.getD i none=some o):Γ[i]?=some (some o):=by
 rw [kz] at h;cases e:Γ[i]? with
 | none=>rw [e] at h;cases h
 | some x=>rw [e] at h;exact congrArg some h
theorem Ci {js:List Nat} {Γ:Gm} {i o:Nat} (h:(LO js Γ)[i]?=some (some o)):i∉js/\Γ[i]?=some (some o):=by
 obtain ⟨_,e⟩:=DK h;split at e
 ·cases e
 ·rename_i z;exact ⟨fun q=>z (kn.mpr q),Ap e.symm⟩
theorem IS (js:List Nat):∀ (σ:St) (i:Nat),i∉js->(L2.blank js σ)[i]?=σ[i]?:=by
 induction js with
 | nil=>intro σ i _;rfl
 | cons j js ih =>
  intro σ i h;show (L2.blank js (σ.set j none))[i]?=_;rw [ih _ i fun z=>h (kX _ z),lG fun z=>h (by rw [<- z];exact kZ)]
theorem ET {K:W.Frag} {Γ1 Γl Γt Γc Γf:Gm} {jx jt jc jf J:List Nat} {g:TG} {ft:Tg} {c:Ev Bool} {f:Ev Dv} (ht:Jc K Γl Γt jt g ft) (hbl:BX Γl (LO jx Γ1)=true) (hwf:BX Γl Γf=true) (hwc:BX Γl Γc=true) (hsx:∀ i∈jt,i∈jx)
    (hJ:J=Ao Γl (jt++(jc++jf))) {ds:List Dv} (hz:ds.length<=1000000) {m1:M} {σ:St} {H1:Hp} {g1:G} {P1:Fp} {I:It} {R:Type} {k:Dv->M->Option R} {res:R} {Q:VK}
    (r1:Rel K g1 H1 Γ1 m1 σ P1) (yl:Yl K I ds g1 H1) (run:List Dv->Dd J->List Dv->Prop) (h0:run ds (AX J m1) []) (hn:∀ t ya,run [] t ya->k (.lst ya) (Ab J m1 t)=some res)
    (hc:∀ d ds t ya,run (d::ds) t ya->∃ (B:Type) (kx:Dv->M->Option B) (kf:M->Option B) (r:B),ft B d (Ab J m1 t) (fun m2=>c B m2 fun b m3=>if b=true then f B m3 kx else kf m3)=some r/\(∀ x m',kx x m'=some r->run ds (AX J m') (ya++[x]))/\∀ m',kf m'=some r->run ds (AX J m') ya)
    (q:∀ d m' g' P' Pv v H',k d m'=some res->BI (jt++(jc++jf)) m1 m'->Step g1 P1 H1 g' (fun a=>P' a\/Pv a) H'->Rep K g' H' 1 d v Pv->Rel K g' H' (KF jx Γ1 Γl) m' σ P'->Disj P' Pv->Q v H') :
    ∃ W:Nat->Nat->List V->Hp->Prop,(∃ m,W 0 m [] H1)/\Mo jx g (tT K Γt Γc jc c) (tE K Γc 0 Γf jf f) I σ (fun ys H=>∀ p,H p=none->Q (.ref p) (upd H p (.lst ys))) W:=by
  have sub:∀ i∈J,i∈jt++(jc++jf):=fun i h=>Av (hJ▸h)
  have nJ:∀ i∈J,i∉jx:=fun i h z=>by
    rw [hJ] at h;have:=(mY.mp h).2;rw [dL] at this;cases e:Γl.getD i none with
    | none=>rw [e] at this;cases this.2
    | some o =>
      obtain ⟨o',e',_⟩:=EF hbl (Ap e);exact (Ci e').1 z
  have lb:(LO jx Γ1).length=Γ1.length:=by unfold LO;simp
  obtain ⟨Pb,rb,sb⟩:=r1.sub (Γ':=LO jx Γ1) (σ':=L2.blank jx σ) lb (L2.blank_length ..) fun i o e=>⟨(Ci e).2,IS jx σ i (Ci e).1⟩
  obtain ⟨g0,P0,s0,r0⟩:=rb.weaken hbl;have s10:Step g1 P1 H1 g0 P0 H1:=s0.sub sb fun _ z=>z
  refine ⟨fun i j ys H=>j=ds.length - i/\i<=ds.length/\ys.length<=i/\∃ g2 t P2 ya,Step g1 P1 H1 g2 P2 H/\Rel K g2 H Γl (Ab J m1 t) (L2.blank jx σ) P2/\Reps K g2 H 0 ya ys nop/\run (ds.drop i) t ya,
    ⟨ds.length,by simp,lg _,lg _,g0,AX J m1,P0,[],s10,MS r0,Reps.nil,by simpa using h0⟩,?_⟩
  rintro i j ys H2 ⟨rfl,hi,hyl,g2,t,P2,ya,s2,r2,ry,e2⟩;have st:HK g1 H1 g2 H2:=⟨P1,P2,s2,r1.fpOk⟩
  by_cases hlt:i < ds.length
  · rw [mv hlt] at e2;obtain ⟨B,kx,kf,rB,e3,hx,hf⟩:=hc _ _ _ _ e2;obtain ⟨go,yy⟩:=(yl g2 H2 st).1 i ds[i] (kT hlt);refine .inr ⟨go,nP hyl (kq hlt (kr hz (by decide))),fun zs H'=>zs.length<=i+1/\∃ g5 P5 m' za,Step g1 P1 H1 g5 P5 H'/\Rel K g5 H' Γl m' (L2.blank jx σ) P5/\BI (jt++(jc++jf)) m1 m'/\Reps K g5 H' 0 za zs nop/\run (ds.drop (i+1)) (AX J m') za,?_,fun y H3 hy=>?_⟩
    · rintro zs H' ⟨hl,g5,P5,m',za,s5,r5,ag,rz,hr⟩;exact ⟨ds.length - (i+1),by omega,rfl,hlt,hl,g5,AX J m',P5,za,s5,r5.join ag fun i o h=>hJ▸BH h,rz,hr⟩
    · obtain ⟨Pv,s3,h3,r3,n3⟩:=Ae.go s2 r2 (yy y H3 hy);have ry3:Reps K g2 H3 0 ya ys nop:=ry.held (Step.same (P:=nop) (yy y H3 hy).1) FpOk.nop fun _ _ z=>z
      refine ht g2 _ P2 ds[i] y _ H3 B _ rB _ r3 h3.z e3 fun m2 P' σ' hk ag sp ip r'=>?_
      have s4:Step g1 P1 H1 g2 P' H3:=s3.less fun a z=>.inl (sp a z)
      have a4:BI (jt++(jc++jf)) m1 m2:=((AR J m1 t).mono sub).trans ag |>.mono fun i z=>(lC.mp z).elim id fun z=>ko _ z
      -- outside of the comprehension's own slots nothing is bound
      have back:∀ {g5:G} {P5:Fp} {m':M} {H':Hp},Rel K g5 H' Γl m' σ' P5->∃ P6,Rel K g5 H' Γl m' (L2.blank jx σ) P6/\∀ a,P6 a->P5 a:=fun {g5 P5 m' H'} r5=>r5.sub rfl (by rw [ip.1]) fun i o e=>⟨e,(ip.2 i fun z=>by
          obtain ⟨o',e',_⟩:=EF hbl e;exact (Ci e').1 (hsx i z)).symm⟩
      refine ⟨g2,m2,P',r',B,_,rB,hk,fun b m3 g4 P4 H4 hk4 ag4 s5 r4=>?_⟩;have ry4:=ry3.held s5 r'.fpOk fun _ z=>z.elim
      cases b with
      | false =>
        rw [if_neg ku] at hk4;show (if false=true then _ else _);rw [if_neg ku];obtain ⟨g6,P6,s6,r6⟩:=r4.weaken hwc;obtain ⟨P7,r7,sp7⟩:=back r6;exact ⟨by omega,g6,P7,m3,ya,((s4.trans s5).trans s6).less sp7,r7,(a4.trans ag4).mono fun i z=>(lC.mp z).elim id fun z=>ka _ (ko _ z),ry4.held s6 r4.fpOk fun _ z=>z.elim,hf m3 hk4⟩
      | true =>
        rw [if_pos rfl] at hk4;show (if true=true then _ else _);rw [if_pos rfl];refine ⟨g4,m3,P4,r4,B,kx,rB,hk4,fun x m4 g5 P5 Pv v H5 hk5 ag5 s6 rv r5 n5=>?_⟩;have ry5:=ry4.held s6 r4.fpOk fun _ z=>z.elim
        obtain ⟨g6,P6,s7,r6⟩:=r5.weaken hwf;obtain ⟨P7,r7,sp7⟩:=back r6;refine ⟨by rw [lI,lY];omega,g6,P7,m4,ya++[x],(((s4.trans s5).trans (s6.less fun _ z=>.inl z)).trans s7).less sp7,r7,?_,?_,hx x m4 hk5⟩
        · exact ((a4.trans ag4).trans ag5).mono fun i z=>(lC.mp z).elim (fun z=>(lC.mp z).elim id fun z=>ka _ (ko _ z)) fun z=>ka _ (ka _ z)
        · refine ((Reps.app ry5 (Reps.cons rv.z Reps.nil fun _ z=>z.elim) fun _ z=>z.elim).iff (Q:=nop) fun a=>⟨fun z=>z.elim,fun z=>z.elim id fun z=>z.elim id id⟩).held s7 r5.fpOk fun _ z=>z.elim
  · have ei:i=ds.length:=by omega
    subst ei;rw [List.drop_length] at e2;refine .inl ⟨(yl g2 H2 st).2 _ (kb _),fun p hp=>?_⟩;obtain ⟨Pv,s3,h1,r3,n3⟩:=Ae.go s2 r2 (Ae.lst r2.zd ry hp);have l1:Γl.length=Γ1.length:=(DQ hbl).trans lb;obtain ⟨P4,r4,sp4⟩:=r3.more (Γ':=KF jx Γ1 Γl) (σ':=σ) (by unfold KF;simp) (by rw [L2.blank_length]) fun i o e=>by
      obtain ⟨hi,e⟩:=DK e;split at e
      · rename_i z;split at e
        · rename_i z0;cases e;refine .inr ⟨rfl,?_⟩;obtain ⟨v,Px,ev,rx,_⟩:=r1.see (Ap (beq_iff_eq.mp z0));have ji:i∉J:=fun w=>nJ i w (kn.mp z)
          have hl:i < m1.length:=by rw [r1.len.1,<- l1];exact hi
          refine ⟨m1.at i,v,?_,ev,(rx.z.held s2 r1.fpOk fun _ z=>z.elim).held (Step.same (P:=nop) (Bf hp (.lst ys))) FpOk.nop fun _ _ z=>z⟩;have:=(AR J m1 t).2 i ji;have hl':i < (Ab J m1 t).length:=by rw [GW];exact hl
          rw [kT hl',<- this];unfold M.at;rw [kz,kT hl'];rfl
        · cases e
      · rename_i z;exact .inl ⟨Ap e.symm,(IS jx σ i fun w=>z (kn.mpr w)).symm⟩
    exact q _ _ g2 P4 Pv _ _ (hn t ya e2) ((AR J m1 t).mono sub) (s3.less fun a z=>z.elim (fun z=>.inl (sp4 a z)) .inr) h1 r4 fun a z w=>n3 a (sp4 a z) w
def TV (src:Ev (List Dv)) (tg:Tg) (f:Ev Dv):Ev Dv:=fun R m k=>src R m fun ds m1=>few ds ((BG (fun d=>tg Dv d m1 fun m2=>f Dv m2 fun x _=>some x) ds).bind fun xs=>k (.lst xs) m1)
def TX (src:Ev (List Dv)) (tg:Tg) (c:Ev Bool) (f:Ev Dv):Ev Dv:=fun R m k=>src R m fun ds m1=>few ds ((bF (fun d=>tg (Option Dv) d m1 fun m2=>c (Option Dv) m2 fun b m3=>if b=true then f (Option Dv) m3 fun x _=>some (some x) else some none) ds).bind fun xs=>k (.lst xs) m1)
def Nx (src:Ev (List Dv)) (tg:Tg) (J:List Nat) (f:Ev Dv):Ev Dv:=fun R m k=>src R m fun ds m1=>few ds ((CV (fun d t=>tg (Dv×Dd J) d (Ab J m1 t) fun m2=>f (Dv×Dd J) m2 fun x m3=>some (x,AX J m3)) ds (AX J m1)).bind fun p=>k (.lst p.1) (Ab J m1 p.2))
def Nw (src:Ev (List Dv)) (tg:Tg) (J:List Nat) (c:Ev Bool) (f:Ev Dv):Ev Dv:=fun R m k=>src R m fun ds m1=>few ds ((OB (fun d t=>tg (Option Dv×Dd J) d (Ab J m1 t) fun m2=>c (Option Dv×Dd J) m2 fun b m3=>if b=true then f (Option Dv×Dd J) m3 fun x m4=>some (some x,AX J m4) else some (none,AX J m3)) ds (AX J m1)).bind fun p=>k (.lst p.1) (Ab J m1 p.2))
def DA:Ev Bool:=fun _ m k=>k true m
section
variable {K:W.Frag} {Γ Γ1 Γl Γt Γc Γf:Gm} {js jx jt jc jf J:List Nat} {g:TG} {ft:Tg} {c:Ev Bool} {f:Ev Dv} {src:Ev (List Dv)} {σ:St} {H:Hp} {Q:VK}
theorem Kf (ht:Jc K Γl Γt jt g ft) (hbl:BX Γl (LO jx Γ1)=true) (hwf:BX Γl Γf=true) (hwc:BX Γl Γt=true) (hsx:∀ i∈jt,i∈jx) (hJ:([]:List Nat)=Ao Γl (jt++([]++jf)))
    (h:tE K Γ 1 (KF jx Γ1 Γl) (js++(jt++([]++jf))) (TV src ft f) σ H Q):EY (tI K Γ Γ1 js src) jx g (tT K Γt Γt [] DA) (tE K Γt 0 Γf jf f) σ H Q:=by
  obtain ⟨g0,m,P,r,R,k,res,e,q⟩:=h;refine ⟨g0,m,P,r,R,_,res,e,fun ds m1 g1 P1 H1 I hk ag s r1 yl=>?_⟩;obtain ⟨hz,hk⟩:=EN hk;obtain ⟨xs,e1,e2⟩:=bind_some' hk;refine ET (c:=DA) ht hbl hwf hwc hsx hJ hz r1 yl (fun ds _ ya=>∃ yb,xs=ya++yb/\BG _ ds=some yb) ⟨xs,rfl,e1⟩ (fun t ya ⟨yb,h1,h2⟩=>?_) (fun d ds t ya ⟨yb,h1,h2⟩=>?_) fun d m' g' P' Pv v H' hk ag' s'=>q d m' g' P' Pv v H' hk (ag.trans ag') (s.trans s')
  · cases h2;rw [lX] at h1;subst h1;exact e2
  · obtain ⟨x,h3,h4⟩:=bind_some' h2;obtain ⟨yc,h5,h6⟩:=bind_some' h4;cases h6;exact ⟨Dv,fun x _=>some x,fun _=>none,x,h3,(fun y m' hk=>by cases hk;exact ⟨yc,by rw [h1,lj];rfl,h5⟩),fun m' hk=>by cases hk⟩
theorem Kh (ht:Jc K Γl Γt jt g ft) (hbl:BX Γl (LO jx Γ1)=true) (hwf:BX Γl Γf=true) (hwc:BX Γl Γc=true) (hsx:∀ i∈jt,i∈jx) (hJ:([]:List Nat)=Ao Γl (jt++(jc++jf)))
    (h:tE K Γ 1 (KF jx Γ1 Γl) (js++(jt++(jc++jf))) (TX src ft c f) σ H Q):EY (tI K Γ Γ1 js src) jx g (tT K Γt Γc jc c) (tE K Γc 0 Γf jf f) σ H Q:=by
  obtain ⟨g0,m,P,r,R,k,res,e,q⟩:=h;refine ⟨g0,m,P,r,R,_,res,e,fun ds m1 g1 P1 H1 I hk ag s r1 yl=>?_⟩;obtain ⟨hz,hk⟩:=EN hk;obtain ⟨xs,e1,e2⟩:=bind_some' hk;refine ET ht hbl hwf hwc hsx hJ hz r1 yl (fun ds _ ya=>∃ yb,xs=ya++yb/\bF _ ds=some yb) ⟨xs,rfl,e1⟩ (fun t ya ⟨yb,h1,h2⟩=>?_) (fun d ds t ya ⟨yb,h1,h2⟩=>?_) fun d m' g' P' Pv v H' hk ag' s'=>q d m' g' P' Pv v H' hk (ag.trans ag') (s.trans s')
  · cases h2;rw [lX] at h1;subst h1;exact e2
  · obtain ⟨x,h3,h4⟩:=bind_some' h2;obtain ⟨yc,h5,h6⟩:=bind_some' h4;cases h6;refine ⟨Option Dv,fun x _=>some (some x),fun _=>some none,x,h3,(fun y m' hk=>?_),fun m' hk=>?_⟩
    · cases hk;exact ⟨yc,by rw [h1,lj];rfl,h5⟩
    · cases hk;exact ⟨yc,h1,h5⟩
theorem IM (ht:Jc K Γl Γt jt g ft) (hbl:BX Γl (LO jx Γ1)=true) (hwf:BX Γl Γf=true) (hwc:BX Γl Γt=true) (hsx:∀ i∈jt,i∈jx) (hJ:J=Ao Γl (jt++([]++jf)))
    (h:tE K Γ 1 (KF jx Γ1 Γl) (js++(jt++([]++jf))) (Nx src ft J f) σ H Q):EY (tI K Γ Γ1 js src) jx g (tT K Γt Γt [] DA) (tE K Γt 0 Γf jf f) σ H Q:=by
  obtain ⟨g0,m,P,r,R,k,res,e,q⟩:=h;refine ⟨g0,m,P,r,R,_,res,e,fun ds m1 g1 P1 H1 I hk ag s r1 yl=>?_⟩;obtain ⟨hz,hk⟩:=EN hk;obtain ⟨p,e1,e2⟩:=bind_some' hk;refine ET (c:=DA) ht hbl hwf hwc hsx hJ hz r1 yl (fun ds t ya=>∃ yb,p.1=ya++yb/\CV _ ds t=some (yb,p.2)) ⟨p.1,rfl,e1⟩ (fun t ya ⟨yb,h1,h2⟩=>?_) (fun d ds t ya ⟨yb,h1,h2⟩=>?_) fun d m' g' P' Pv v H' hk ag' s'=>q d m' g' P' Pv v H' hk (ag.trans ag') (s.trans s')
  · simp only [CV,Option.some.injEq,Prod.mk.injEq] at h2;obtain ⟨rfl,rfl⟩:=h2;rw [lX] at h1;rw [<- h1];exact e2
  · obtain ⟨x,h3,h4⟩:=bind_some' h2;obtain ⟨yc,h5,h6⟩:=bind_some' h4;simp only [Option.some.injEq,Prod.mk.injEq] at h6;obtain ⟨rfl,h7⟩:=h6;refine ⟨_,fun x m3=>some (x,AX J m3),fun _=>none,x,h3,(fun y m' hk=>?_),fun m' hk=>by cases hk⟩;cases hk;exact ⟨yc.1,by rw [h1,lj];rfl,by rw [<- h7];exact h5⟩
theorem IL (ht:Jc K Γl Γt jt g ft) (hbl:BX Γl (LO jx Γ1)=true) (hwf:BX Γl Γf=true) (hwc:BX Γl Γc=true) (hsx:∀ i∈jt,i∈jx) (hJ:J=Ao Γl (jt++(jc++jf)))
    (h:tE K Γ 1 (KF jx Γ1 Γl) (js++(jt++(jc++jf))) (Nw src ft J c f) σ H Q):EY (tI K Γ Γ1 js src) jx g (tT K Γt Γc jc c) (tE K Γc 0 Γf jf f) σ H Q:=by
  obtain ⟨g0,m,P,r,R,k,res,e,q⟩:=h;refine ⟨g0,m,P,r,R,_,res,e,fun ds m1 g1 P1 H1 I hk ag s r1 yl=>?_⟩;obtain ⟨hz,hk⟩:=EN hk;obtain ⟨p,e1,e2⟩:=bind_some' hk;refine ET ht hbl hwf hwc hsx hJ hz r1 yl (fun ds t ya=>∃ yb,p.1=ya++yb/\OB _ ds t=some (yb,p.2)) ⟨p.1,rfl,e1⟩ (fun t ya ⟨yb,h1,h2⟩=>?_) (fun d ds t ya ⟨yb,h1,h2⟩=>?_) fun d m' g' P' Pv v H' hk ag' s'=>q d m' g' P' Pv v H' hk (ag.trans ag') (s.trans s')
  · simp only [OB,Option.some.injEq,Prod.mk.injEq] at h2;obtain ⟨rfl,rfl⟩:=h2;rw [lX] at h1;rw [<- h1];exact e2
  · obtain ⟨x,h3,h4⟩:=bind_some' h2;obtain ⟨yc,h5,h6⟩:=bind_some' h4;simp only [Option.some.injEq,Prod.mk.injEq] at h6;obtain ⟨rfl,h7⟩:=h6;refine ⟨_,fun x m4=>some (some x,AX J m4),fun m3=>some (none,AX J m3),x,h3,(fun y m' hk=>?_),fun m' hk=>?_⟩
    · cases hk;exact ⟨yc.1,by rw [h1,lj];rfl,by rw [<- h7];exact h5⟩
    · cases hk;exact ⟨yc.1,h1,by rw [<- h7];exact h5⟩
end
end R
namespace L2
open PySem PySem.Spec PyProof.Rows
theorem EV {a b:Nat} (h:a≠b):@Ne Addr a b:=h
def HX (h:Heap) (it l:Addr) (i:Nat):Bool->Prop
 | false=>h.IsListIter it l i
 | true=>h.IsTupleIter it l i
def HY (h:Heap) (l:Addr) (xs:Array Value):Bool->Prop
 | false=>h.IsList l xs
 | true=>h.IsTuple l xs
noncomputable def Nf (l:Addr):Bool->Obj
 | false=>{ cls:=.type "list_iterator", data:=.fields #[.ref l,.int 0 0] }
 | true=>{ cls:=.type "tuple_iterator", data:=.fields #[.ref l,.int 0 0] }
theorem HX.at {h h':Heap} {it l:Addr} {i:Nat} {b:Bool} (x:HX h it l i b) (k:∀ o,h.get? it=some o->h'.get? it=some o):HX h' it l i b:=by
 cases b with
 | false=>obtain ⟨o,e,r⟩:=x;exact ⟨o,k o e,r⟩
 | true=>obtain ⟨o,e,r⟩:=x;exact ⟨o,k o e,r⟩
theorem HY.at {h h':Heap} {l:Addr} {xs:Array Value} {b:Bool} (x:HY h l xs b) (k:∀ o,h.get? l=some o->h'.get? l=some o):HY h' l xs b:=by
 cases b with
 | false=>obtain ⟨o,e,r⟩:=x;exact ⟨o,k o e,r⟩
 | true=>obtain ⟨o,e,r⟩:=x;exact ⟨o,k o e,r⟩
theorem HX.obj {h:Heap} {it l:Addr} {i:Nat} {b:Bool} (x:HX h it l i b):∃ o,h.get? it=some o/\∀ v,o.data≠.cell v:=by
 cases b with
 | false=>obtain ⟨o,e,c,d⟩:=x;exact ⟨o,e,fun v z=>by rw [d] at z;cases z⟩
 | true=>obtain ⟨o,e,c,d⟩:=x;exact ⟨o,e,fun v z=>by rw [d] at z;cases z⟩
theorem HX.new {h:Heap} {l:Addr} {b:Bool}:HX (h.push (Nf l b)) h.objs.size l 0 b:=by
 cases b with
 | false=>exact ⟨_,lA _ rfl,rfl,rfl⟩
 | true=>exact ⟨_,lA _ rfl,rfl,rfl⟩
section
variable {prog:Program} {w:World} {A:Around} {E:Value->Shared->Prop} {s:Shared}
theorem Hm {l:Addr} {xs:Array Value} {b:Bool} {Q:Value->Shared->Prop} (hl:HY s.heap l xs b) (hQ:Q (.ref s.heap.objs.size) { s with heap:=s.heap.push (Nf l b) }):wpAny (model prog w) A (pyIter (.ref l)) Q E s:=by
 cases b with
 | false=>exact wpAny_pyIter_list hl hQ
 | true=>exact wpAny_pyIter_tuple hl hQ
theorem Ip {it l:Addr} {i:Nat} {items:Array Value} {x:Value} {b:Bool} {Q:Value->Shared->Prop} (hit:HX s.heap it l i b) (hl:HY s.heap l items b) (hx:items[i]?=some x)
    (hQ:∀ h',HX h' it l (i+1) b->Heap.SameBut it s.heap h'->Q x { s with heap:=h' }):wpAny (model prog w) A (Builtin.SmallTypes.nextOf (.ref it)) Q E s:=by
  cases b with
  | false=>exact wpAny_nextOf_list_item hit hl hx hQ
  | true =>
    obtain ⟨o,ho,hc,hd⟩:=id hit;obtain ⟨ol,hol,_,nl,hdl⟩:=hl
    have ht:s.TypeIs (.ref it) "tuple_iterator" := ⟨o,ho,hc⟩
    unfold Builtin.SmallTypes.nextOf
    refine wpAny_bind (wpAny_callSpecial?_slot (name:=Str.ofString "__next__") ht F.slot_tuple_iterator_next
      (wpAny_call_entry F.slot_tuple_iterator_next ht F.entry_tuple_iterator_next ?_ (F.args_tuple_iterator_next_1 _)))
    show wpAny _ _ (field (.ref it) 0 >>= _) _ _ s;refine wpAny_bind (wpAny_field ho hd (x:=.ref l) rfl ?_);show wpAny _ _ (if (Value.ref l == Value.none)=true then _ else _) _ _ s;rw [if_neg (show ¬ ((Value.ref l == Value.none)=true) from ku)];show wpAny _ _ (field (.ref it) 1 >>= _) _ _ s;refine wpAny_bind (wpAny_field ho hd (x:=.int i 0) rfl ?_);show wpAny _ _ (seqItems? (.ref l) >>= _) _ _ s;refine wpAny_bind (wpAny_seqItems hol hdl ?_);simp only [nX,hx];refine wpAny_bind (wpAny_setField ho hd (by simp) (wpAny_pure ⟨x,rfl,wpAny_pure (hQ _ ?_ (Heap.SameBut.update ..))⟩));exact ⟨_,mf _ ho (Obj.isFreed_of_fields (Obj.data_mapFields hd _)),(Obj.cls_mapFields ..).trans hc,by
      rw [Obj.data_mapFields hd];simp [rawInt]⟩
theorem RJ {it l:Addr} {i:Nat} {items:Array Value} {b:Bool} {Q:Value->Shared->Prop} (hh:A.handled=none) (hit:HX s.heap it l i b) (hl:HY s.heap l items b) (hx:items[i]?=none)
    (hE:∀ h' e,Heap.ExtBut it s.heap h'->(∃ o,h'.get? e=some o/\o.cls=.type "StopIteration")->E (.ref e) { s with heap:=h' }):wpAny (model prog w) A (Builtin.SmallTypes.nextOf (.ref it)) Q E s:=by
  cases b with
  | false=>exact wpAny_nextOf_list_end hh hit hl hx hE
  | true =>
    obtain ⟨o,ho,hc,hd⟩:=id hit;obtain ⟨ol,hol,_,nl,hdl⟩:=hl
    have ht:s.TypeIs (.ref it) "tuple_iterator" := ⟨o,ho,hc⟩
    unfold Builtin.SmallTypes.nextOf
    refine wpAny_bind (wpAny_callSpecial?_slot (name:=Str.ofString "__next__") ht F.slot_tuple_iterator_next
      (wpAny_call_entry F.slot_tuple_iterator_next ht F.entry_tuple_iterator_next ?_ (F.args_tuple_iterator_next_1 _)))
    show wpAny _ _ (field (.ref it) 0 >>= _) _ _ s;refine wpAny_bind (wpAny_field ho hd (x:=.ref l) rfl ?_);show wpAny _ _ (if (Value.ref l == Value.none)=true then _ else _) _ _ s;rw [if_neg (show ¬ ((Value.ref l == Value.none)=true) from ku)];show wpAny _ _ (field (.ref it) 1 >>= _) _ _ s;refine wpAny_bind (wpAny_field ho hd (x:=.int i 0) rfl ?_);show wpAny _ _ (seqItems? (.ref l) >>= _) _ _ s;refine wpAny_bind (wpAny_seqItems hol hdl ?_);simp only [nX,hx];refine wpAny_bind (wpAny_rule (wpAny_bind (wpAny_setField ho hd (by simp) ?_)))
    show wpAny _ _ (newExc (.type "StopIteration") [] >>= _) _ _ _
    refine wpAny_bind ?_;simp only [newExc,newTuple];refine wpAny_bind (wpAny_newObj_type ?_ (by size_fits));refine wpAny_bind (m:=firstArgMember _ _) (wpAny_of_eq (a:=Value.none) (by first | rfl | (simp only [firstArgMember];rfl)) ?_);refine wpAny_newObj_type ?_ (by size_fits);simp only [raiseNew];refine wpAny_bind (wpAny_handled ?_)
    first | rw [show A.in1.handled=none from hh] | rw [hh]
    refine wpAny_bind (wpAny_pure (wpAny_throw ?_));exact hE _ _ (((Heap.SameBut.update ..).extBut.push _).push _) ⟨_,lA _ rfl,rfl⟩
end
def LX (K:W.Frag) (H:Hp) (a:Addr) (xs:List V):Bool->Prop
 | false=>Cm K H a xs
 | true=>DW K H a xs
section
variable {X:Cx} {pins:List (Addr×Obj)} {σ:St} {H:Hp} {s:Shared} {a:Addr} {xs ys:List V} {b:Bool}
theorem Inv.sqB (I:Inv X pins σ H s) (h:LX X.K H a xs b):∃ its:List Value,AC xs its/\HY s.heap a its.toArray b/\a < s.heap.objs.size:=by
 cases b with
 | false =>
  obtain ⟨its,r,p,_⟩:=I.list h;exact ⟨its,r,p.isList,by obtain ⟨o,n,e,_⟩:=p;exact lB e⟩
 | true =>
  obtain ⟨its,r,p,_⟩:=I.tuple h;exact ⟨its,r,p,by obtain ⟨o,e,_⟩:=p;exact lB e⟩
theorem Inv.sqB_inj (I:Inv X pins σ H s) (h:LX X.K H a xs b) (h':LX X.K H a ys b):xs=ys:=by
 cases b with
 | false=>exact I.list_inj h h'
 | true=>exact I.tuple_inj h h'
end
abbrev OO (h:Heap) (T:Addr) (v1 v2:Value):Prop:=h.get? T=some { cls:=.type "tuple", data:=.seq #[v1,v2] }
section
variable {prog:Program} {w:World} {A:Around} {E:Value->Shared->Prop} {s:Shared}
theorem Qh {T:Addr} {v1 v2 x:Value} {Q:Unit->Shared->Prop} (hT:OO s.heap T v1 v2) (h:∀ h',OO h' T x v2->Heap.SameBut T s.heap h'->Q () { s with heap:=h' }):wpAny (model prog w) A (updateSeq T (·.setIfInBounds 0 x)) Q E s:=by
 refine wpAny_updateSeq hT rfl (h _ ?_ (Heap.SameBut.update ..));show Heap.get? _ _=_;rw [mf _ hT rfl];simp [Obj.mapSeq]
theorem ZI {T:Addr} {v1 v2 x:Value} {Q:Unit->Shared->Prop} (hT:OO s.heap T v1 v2) (h:∀ h',OO h' T v1 x->Heap.SameBut T s.heap h'->Q () { s with heap:=h' }):wpAny (model prog w) A (updateSeq T (·.setIfInBounds 1 x)) Q E s:=by
 refine wpAny_updateSeq hT rfl (h _ ?_ (Heap.SameBut.update ..));show Heap.get? _ _=_;rw [mf _ hT rfl];simp [Obj.mapSeq]
structure Zst2 (h:Heap) (I:Nat) (l1 l2:Nat) (b1 b2:Bool) (i:Nat) (f0:Value):Prop where
 z:IsZip h (I+4) (I+2) (I+3) f0
 ti:OO h (I+2) (.ref I) (.ref (I+1))
 to:∃ v1 v2,OO h (I+3) v1 v2
 s1:HX h I l1 i b1
 s2:HX h (I+1) l2 i b2
theorem Zst2.at {h h':Heap} {I l1 l2:Nat} {b1 b2:Bool} {i:Nat} {f0:Value} (x:Zst2 h I l1 l2 b1 b2 i f0) (k:∀ (c:Nat) o,I<=c->c < I+5->h.get? c=some o->h'.get? c=some o):Zst2 h' I l1 l2 b1 b2 i f0:=
 ⟨k _ _ (by omega) (by omega) x.z,k _ _ (by omega) (by omega) x.ti,let ⟨v1,v2,e⟩:=x.to;⟨v1,v2,k _ _ (by omega) (by omega) e⟩,x.s1.at fun o e=>k _ o (by omega) (by omega) e,x.s2.at fun o e=>k _ o (by omega) (by omega) e⟩
theorem OQ {I l1 l2:Nat} {b1 b2:Bool} {i:Nat} {xs1 xs2:Array Value} {y1 y2:Value} {Q:Value->Shared->Prop} (hz:Zst2 s.heap I l1 l2 b1 b2 i .none) (hl1:HY s.heap l1 xs1 b1) (lt1:l1 < I) (hl2:HY s.heap l2 xs2 b2) (lt2:l2 < I) (hx1:xs1[i]?=some y1) (hx2:xs2[i]?=some y2)
    (hQ:∀ h',Zst2 h' I l1 l2 b1 b2 (i+1) (rawInt s.heap.objs.size)->OO h' s.heap.objs.size y1 y2->h'.objs.size=s.heap.objs.size+1->(∀ (c:Nat) o,(c < I\/I+5<=c)->s.heap.get? c=some o->h'.get? c=some o)->Q (.ref s.heap.objs.size) { s with heap:=h' }) :
    wpAny (model prog w) A (Builtin.«zip.__next__» ⟨[.ref (I+4)],[]⟩) (fun fin s'=>∃ v,fin=.done (.ret v)/\Q v s') E s:=by
  obtain ⟨z0,ti0,⟨v1,v2,to0⟩,s10,s20⟩:=hz;show wpAny _ _ (field (.ref (I+4)) 2 >>= _) _ _ _;refine wpAny_bind (wpAny_field z0 rfl (x:=.bool false) rfl ?_);show wpAny _ _ (field (.ref (I+4)) 3 >>= _) _ _ _;refine wpAny_bind (wpAny_field z0 rfl (x:=.ref (I+2)) rfl ?_);refine wpAny_bind (wpAny_seqItems ti0 rfl ?_);show wpAny _ _ (Builtin.SmallTypes.ownedTupleIsFree (.ref (I+4)) >>= _) _ _ _;refine wpAny_bind ?_;unfold Builtin.SmallTypes.ownedTupleIsFree;refine wpAny_bind (wpAny_field z0 rfl (x:=.none) rfl (wpAny_pure ?_));simp only [if_true];refine wpAny_bind (wpAny_rule ?_);refine wpAny_bind (wpAny_field z0 rfl (x:=.ref (I+3)) rfl ?_);refine wpAny_bind (wpAny_setField_rec z0 (by simp) fun h₁ hz₁ hs₁=>?_);replace hz₁:IsZip h₁ (I+4) (I+2) (I+3) .ellipsis:=hz₁;refine wpAny_bind ?_;simp only [List.zipIdx_cons,List.zipIdx_nil,nG,oA];have g0:∀ (c:Nat) o,c≠(I+4)->s.heap.get? c=some o->h₁.get? c=some o:=fun c o c1 e=>hs₁.extBut _ _ c1 e
  have k0:∀ (c:Nat) o,c≠(I+4)->c≠(I+3)->(c < I\/I<=c)->s.heap.get? c=some o->h₁.get? c=some o:=fun c o c1 _ _ e=>g0 c o c1 e
  have to1:OO h₁ (I+3) v1 v2:=g0 _ _ (by omega) to0;refine wpAny_bind (wpAny_bind (wpAny_onRaise ?_));show wpAny _ _ (Builtin.SmallTypes.nextOf (.ref I) >>= _) _ _ _;refine wpAny_bind (Ip (s10.at fun o e=>k0 _ o (by omega) (by omega) (by omega) e) (hl1.at fun o e=>k0 _ o (by omega) (by omega) (by omega) e) hx1 fun p1 si1 sp1=>wpAny_pure ?_);have u1:OO p1 (I+3) v1 v2:=sp1.extBut _ _ (EV (by omega)) to1;refine wpAny_bind (wpAny_seqItems u1 rfl ?_);refine wpAny_bind (Qh u1 fun q1 to2 sq1=>?_);have k1:∀ (c:Nat) o,c≠(I+4)->c≠(I+3)->(c < I\/I+1<=c)->s.heap.get? c=some o->q1.get? c=some o:=fun c o c1 c2 c3 e=>sq1.extBut _ _ c2 (sp1.extBut _ _ (EV (by omega)) (k0 c o c1 c2 (by omega) e))
  have zz1:IsZip q1 (I+4) (I+2) (I+3) .ellipsis:=sq1.extBut _ _ (EV (by omega)) (sp1.extBut _ _ (EV (by omega)) hz₁);have w1_1:HX q1 I l1 (i+1) b1:=si1.at fun o e=>sq1.extBut _ _ (EV (by omega)) e
  refine wpAny_bind (wpAny_letGo (wpAny_pure ?_));refine wpAny_bind (wpAny_bind (wpAny_onRaise ?_));show wpAny _ _ (Builtin.SmallTypes.nextOf (.ref (I+1)) >>= _) _ _ _;refine wpAny_bind (Ip (s20.at fun o e=>k1 _ o (by omega) (by omega) (by omega) e) (hl2.at fun o e=>k1 _ o (by omega) (by omega) (by omega) e) hx2 fun p2 si2 sp2=>wpAny_pure ?_);have u2:OO p2 (I+3) y1 v2:=sp2.extBut _ _ (EV (by omega)) to2;refine wpAny_bind (wpAny_seqItems u2 rfl ?_);refine wpAny_bind (ZI u2 fun q2 to3 sq2=>?_);have k2:∀ (c:Nat) o,c≠(I+4)->c≠(I+3)->(c < I\/I+2<=c)->s.heap.get? c=some o->q2.get? c=some o:=fun c o c1 c2 c3 e=>sq2.extBut _ _ c2 (sp2.extBut _ _ (EV (by omega)) (k1 c o c1 c2 (by omega) e))
  have zz2:IsZip q2 (I+4) (I+2) (I+3) .ellipsis:=sq2.extBut _ _ (EV (by omega)) (sp2.extBut _ _ (EV (by omega)) zz1);have w2_2:HX q2 (I+1) l2 (i+1) b2:=si2.at fun o e=>sq2.extBut _ _ (EV (by omega)) e
  have w1_2:HX q2 I l1 (i+1) b1:=w1_1.at fun o e=>sq2.extBut _ _ (EV (by omega)) (sp2.extBut _ _ (EV (by omega)) e)
  refine wpAny_bind (wpAny_letGo (wpAny_pure (wpAny_pure ?_)));refine wpAny_bind (wpAny_seqItems to3 rfl ?_);refine wpAny_bind (wpAny_newTuple ?_);have hsz:q2.objs.size=s.heap.objs.size:=by rw [sq2.1,sp2.1,sq1.1,sp1.1,hs₁.1]
  have zlt:(I+4) < q2.objs.size:=lB zz2;show wpAny _ _ (Builtin.SmallTypes.ownedTupleHandOut (.ref (I+4)) (.ref q2.objs.size) >>= _) _ _ _;refine wpAny_bind ?_;unfold Builtin.SmallTypes.ownedTupleHandOut
  have z6:IsZip (q2.push { cls:=.type "tuple", data:=.seq #[y1,y2] }) (I+4) (I+2) (I+3) .ellipsis:=kW _ zz2
  refine wpAny_bind (wpAny_setField_rec z6 (by simp) fun h₇ hz₇ hs₇=>?_);replace hz₇:IsZip h₇ (I+4) (I+2) (I+3) (rawInt q2.objs.size):=hz₇;refine wpAny_setField_rec hz₇ (by simp) fun h₈ hz₈ hs₈=>?_
  replace hz₈:IsZip h₈ (I+4) (I+2) (I+3) (rawInt q2.objs.size):=hz₈;have up:∀ (c:Nat) o,c≠(I+4)->q2.get? c=some o->h₈.get? c=some o:=fun c o c1 e=>hs₈.extBut _ _ c1 (hs₇.extBut _ _ c1 (kW _ e))
  have hT₈:OO h₈ q2.objs.size y1 y2:=hs₈.extBut _ _ (EV (by omega)) (hs₇.extBut _ _ (EV (by omega)) (lA _ rfl));have hz8:h₈.objs.size=q2.objs.size+1:=by rw [hs₈.1,hs₇.1,lq]
  rw [hsz] at hz₈ hT₈ hz8;refine wpAny_pure ⟨_,rfl,?_⟩;show Q (.ref q2.objs.size) _;rw [hsz];exact hQ h₈ ⟨hz₈,up _ _ (by omega) (k2 _ _ (by omega) (by omega) (by omega) ti0),⟨y1,y2,up _ _ (by omega) to3⟩,w1_2.at fun o e=>up _ o (by omega) e,w2_2.at fun o e=>up _ o (by omega) e⟩ hT₈ hz8 fun c o hc e=>up c o (by omega) (k2 c o (by omega) (by omega) (by omega) e)
theorem Qd {I l1 l2:Nat} {b1 b2:Bool} {i:Nat} {xs1 xs2:Array Value} {Q:Fin->Shared->Prop} (hh:A.handled=none) (hz:Zst2 s.heap I l1 l2 b1 b2 i .none) (hl1:HY s.heap l1 xs1 b1) (lt1:l1 < I) (hl2:HY s.heap l2 xs2 b2) (lt2:l2 < I) (hend:xs1[i]?=none\/xs2[i]?=none)
    (hE:∀ h' e,(∀ (c:Nat) o,(c < I\/I+5<=c)->s.heap.get? c=some o->h'.get? c=some o)->(∃ o,h'.get? e=some o/\o.cls=.type "StopIteration")->E (.ref e) { s with heap:=h' }) :
    wpAny (model prog w) A (Builtin.«zip.__next__» ⟨[.ref (I+4)],[]⟩) Q E s:=by
  obtain ⟨z0,ti0,⟨v1,v2,to0⟩,s10,s20⟩:=hz;show wpAny _ _ (field (.ref (I+4)) 2 >>= _) _ _ _;refine wpAny_bind (wpAny_field z0 rfl (x:=.bool false) rfl ?_);show wpAny _ _ (field (.ref (I+4)) 3 >>= _) _ _ _;refine wpAny_bind (wpAny_field z0 rfl (x:=.ref (I+2)) rfl ?_);refine wpAny_bind (wpAny_seqItems ti0 rfl ?_);show wpAny _ _ (Builtin.SmallTypes.ownedTupleIsFree (.ref (I+4)) >>= _) _ _ _;refine wpAny_bind ?_;unfold Builtin.SmallTypes.ownedTupleIsFree;refine wpAny_bind (wpAny_field z0 rfl (x:=.none) rfl (wpAny_pure ?_));simp only [if_true];refine wpAny_bind (wpAny_rule ?_);refine wpAny_bind (wpAny_field z0 rfl (x:=.ref (I+3)) rfl ?_);refine wpAny_bind (wpAny_setField_rec z0 (by simp) fun h₁ hz₁ hs₁=>?_);replace hz₁:IsZip h₁ (I+4) (I+2) (I+3) .ellipsis:=hz₁;refine wpAny_bind ?_;simp only [List.zipIdx_cons,List.zipIdx_nil,nG,oA];have g0:∀ (c:Nat) o,c≠(I+4)->s.heap.get? c=some o->h₁.get? c=some o:=fun c o c1 e=>hs₁.extBut _ _ c1 e
  have k0:∀ (c:Nat) o,c≠(I+4)->c≠(I+3)->(c < I\/I<=c)->s.heap.get? c=some o->h₁.get? c=some o:=fun c o c1 _ _ e=>g0 c o c1 e
  have to1:OO h₁ (I+3) v1 v2:=g0 _ _ (by omega) to0;have zz0:IsZip h₁ (I+4) (I+2) (I+3) .ellipsis:=hz₁;refine wpAny_bind (wpAny_bind (wpAny_onRaise ?_));show wpAny _ _ (Builtin.SmallTypes.nextOf (.ref I) >>= _) _ _ _;cases hx1:xs1[i]? with
  | none =>
    refine wpAny_bind (RJ hh (s10.at fun o e=>k0 _ o (by omega) (by omega) (by omega) e) (hl1.at fun o e=>k0 _ o (by omega) (by omega) (by omega) e) hx1 fun h₂ e hs₂ he=>?_);obtain ⟨oe,hoe,hce⟩:=he;have hz₂:IsZip h₂ (I+4) (I+2) (I+3) .ellipsis:=hs₂ _ _ (EV (by omega)) zz0;have hez:e≠(I+4):=fun x=>by subst x;rw [hz₂] at hoe;cases hoe;simp at hce
    exact wpAny_setField_rec hz₂ (by simp) fun h₃ _ hs₃=>hE h₃ e (fun c o hc x=>hs₃.extBut _ _ (EV (by omega)) (hs₂ _ _ (EV (by omega)) (k0 c o (by omega) (by omega) (by omega) x))) ⟨oe,hs₃.extBut _ _ hez hoe,hce⟩
  | some y1 =>
    refine wpAny_bind (Ip (s10.at fun o e=>k0 _ o (by omega) (by omega) (by omega) e) (hl1.at fun o e=>k0 _ o (by omega) (by omega) (by omega) e) hx1 fun p1 si1 sp1=>wpAny_pure ?_);have u1:OO p1 (I+3) v1 v2:=sp1.extBut _ _ (EV (by omega)) to1;refine wpAny_bind (wpAny_seqItems u1 rfl ?_);refine wpAny_bind (Qh u1 fun q1 to2 sq1=>?_);have k1:∀ (c:Nat) o,c≠(I+4)->c≠(I+3)->(c < I\/I+1<=c)->s.heap.get? c=some o->q1.get? c=some o:=fun c o c1 c2 c3 e=>sq1.extBut _ _ c2 (sp1.extBut _ _ (EV (by omega)) (k0 c o c1 c2 (by omega) e))
    have zz1:IsZip q1 (I+4) (I+2) (I+3) .ellipsis:=sq1.extBut _ _ (EV (by omega)) (sp1.extBut _ _ (EV (by omega)) zz0);refine wpAny_bind (wpAny_letGo (wpAny_pure ?_));refine wpAny_bind (wpAny_bind (wpAny_onRaise ?_));show wpAny _ _ (Builtin.SmallTypes.nextOf (.ref (I+1)) >>= _) _ _ _;cases hx2:xs2[i]? with
    | none =>
      refine wpAny_bind (RJ hh (s20.at fun o e=>k1 _ o (by omega) (by omega) (by omega) e) (hl2.at fun o e=>k1 _ o (by omega) (by omega) (by omega) e) hx2 fun h₂ e hs₂ he=>?_);obtain ⟨oe,hoe,hce⟩:=he;have hz₂:IsZip h₂ (I+4) (I+2) (I+3) .ellipsis:=hs₂ _ _ (EV (by omega)) zz1;have hez:e≠(I+4):=fun x=>by subst x;rw [hz₂] at hoe;cases hoe;simp at hce
      exact wpAny_setField_rec hz₂ (by simp) fun h₃ _ hs₃=>hE h₃ e (fun c o hc x=>hs₃.extBut _ _ (EV (by omega)) (hs₂ _ _ (EV (by omega)) (k1 c o (by omega) (by omega) (by omega) x))) ⟨oe,hs₃.extBut _ _ hez hoe,hce⟩
    | some y2 =>
      simp [hx1,hx2] at hend
theorem Em {I l1 l2:Nat} {b1 b2:Bool} {i:Nat} {xs1 xs2:Array Value} {y1 y2:Value} {Q:Option Value->Shared->Prop} (hz:Zst2 s.heap I l1 l2 b1 b2 i .none) (hl1:HY s.heap l1 xs1 b1) (lt1:l1 < I) (hl2:HY s.heap l2 xs2 b2) (lt2:l2 < I) (hx1:xs1[i]?=some y1) (hx2:xs2[i]?=some y2)
    (hQ:∀ h',Zst2 h' I l1 l2 b1 b2 (i+1) (rawInt s.heap.objs.size)->OO h' s.heap.objs.size y1 y2->h'.objs.size=s.heap.objs.size+1->(∀ (c:Nat) o,(c < I\/I+5<=c)->s.heap.get? c=some o->h'.get? c=some o)->Q (some (.ref s.heap.objs.size)) { s with heap:=h' }) :
    wpAny (model prog w) A (pyNext (.ref (I+4))) Q E s:=by
  have hT:s.TypeIs (.ref (I+4)) "zip" := ⟨_,hz.z,rfl⟩
  unfold pyNext
  exact wpAny_bind (wpAny_attempt (wpAny_callSpecial?_slot (name:=Str.ofString "__next__") hT F.slot_zip_next
    (wpAny_call_entry F.slot_zip_next hT F.entry_zip_next (OQ hz hl1 lt1 hl2 lt2 hx1 hx2 fun h' a1 a2 a3 a4=>wpAny_pure (hQ h' a1 a2 a3 a4)) (F.args_zip_next_1 _))))
theorem FO {I l1 l2:Nat} {b1 b2:Bool} {i:Nat} {xs1 xs2:Array Value} {Q:Option Value->Shared->Prop} (hh:A.handled=none) (hz:Zst2 s.heap I l1 l2 b1 b2 i .none) (hl1:HY s.heap l1 xs1 b1) (lt1:l1 < I) (hl2:HY s.heap l2 xs2 b2) (lt2:l2 < I) (hend:xs1[i]?=none\/xs2[i]?=none)
    (hQ:∀ h',(∀ (c:Nat) o,(c < I\/I+5<=c)->s.heap.get? c=some o->h'.get? c=some o)->Q none { s with heap:=h' }) :
    wpAny (model prog w) A (pyNext (.ref (I+4))) Q E s:=by
  have hT:s.TypeIs (.ref (I+4)) "zip" := ⟨_,hz.z,rfl⟩
  unfold pyNext
  refine wpAny_bind (wpAny_attempt (wpAny_callSpecial?_slot (name:=Str.ofString "__next__") hT F.slot_zip_next
    (wpAny_call_entry F.slot_zip_next hT F.entry_zip_next (Qd hh hz hl1 lt1 hl2 lt2 hend fun h' e hk he=>?_) (F.args_zip_next_1 _))))
  obtain ⟨o,ho,hc⟩:=he
  refine wpAny_bind (wpAny_isInstance (T := "StopIteration") (b:=true) ⟨o,ho,hc⟩ isSubtype_stop ?_)
  exact wpAny_pure (hQ _ hk)
abbrev Hc (h:Heap) (l1 l2:Nat) (b1 b2:Bool):Heap:=h.push (Nf l1 b1)
abbrev Ms (h:Heap) (l1 l2:Nat) (b1 b2:Bool):Heap:=(Hc h l1 l2 b1 b2).push (Nf l2 b2)
abbrev Mr (h:Heap) (l1 l2:Nat) (b1 b2:Bool):Heap:=(Ms h l1 l2 b1 b2).push { cls:=.type "tuple", data:=.seq #[.ref h.objs.size,.ref (Hc h l1 l2 b1 b2).objs.size] }
abbrev Mq (h:Heap) (l1 l2:Nat) (b1 b2:Bool):Heap:=(Mr h l1 l2 b1 b2).push { cls:=.type "tuple", data:=.seq #[.none,.none] }
abbrev Fm (h:Heap) (l1 l2:Nat) (b1 b2:Bool):Heap:=(Mq h l1 l2 b1 b2).push { cls:=.type "zip", data:=.fields #[.none,.bool false,.bool false,.ref (Ms h l1 l2 b1 b2).objs.size,.ref (Mr h l1 l2 b1 b2).objs.size] }
theorem MH (l1 l2:Nat) (b1 b2:Bool) (xs1 xs2:Array Value) :
    Meets (Builtin.«zip.__new__» ⟨[.type "zip", .ref l1,.ref l2],[]⟩) (fun _ R s=>HY s.heap l1 xs1 b1/\HY s.heap l2 xs2 b2 /\
      R (.ok (.ret (.ref (Mq s.heap l1 l2 b1 b2).objs.size))) { s with heap:=Fm s.heap l1 l2 b1 b2 }):=
  .of_wp fun prog w A R s h=>by
    obtain ⟨hp,g,d,tk,os⟩:=s;obtain ⟨hl1,hl2,h⟩:=h;have hsub:=sub_zip;have hL1:HY (Shared.heap ⟨hp,g,d,tk,os⟩) l1 xs1 b1:=hl1.at fun o e=>e
    have hL2:HY (Shared.heap ⟨(Hc hp l1 l2 b1 b2),g,d,tk,os⟩) l2 xs2 b2:=hl2.at fun o e=>kW _ e
    wp_walk using Hm hL1,Hm hL2
    exact ⟨_,rfl,h⟩
theorem QA {l1 l2:Nat} {b1 b2:Bool} {xs1 xs2:Array Value} {Q:Value->Shared->Prop} (hl1:HY s.heap l1 xs1 b1) (hl2:HY s.heap l2 xs2 b2)
    (h:∀ h',Zst2 h' s.heap.objs.size l1 l2 b1 b2 0 .none->h'.objs.size=s.heap.objs.size+5->(∀ (c:Nat) o,s.heap.get? c=some o->h'.get? c=some o)->Q (.ref (s.heap.objs.size+4)) { s with heap:=h' }) :
    wpAny (model prog w) A (call (.type "zip") [.ref l1,.ref l2]) Q E s:=by
  refine callType_new F.called_zip (by decide) (F.typeCall_zip_2 _ _) (F.newCall_zip_2 _ _) (fun obj=>F.args_object_init_3 obj _ _) F.entry_zip_new (MH l1 l2 b1 b2 xs1 xs2) ⟨hl1,hl2,?_⟩;have z1:(Hc s.heap l1 l2 b1 b2).objs.size=s.heap.objs.size+1:=by exact lq ..
  have z2:(Ms s.heap l1 l2 b1 b2).objs.size=s.heap.objs.size+2:=by rw [lq,z1]
  have z3:(Mr s.heap l1 l2 b1 b2).objs.size=s.heap.objs.size+3:=by rw [lq,z2]
  have z4:(Mq s.heap l1 l2 b1 b2).objs.size=s.heap.objs.size+4:=by rw [lq,z3]
  have z5:(Fm s.heap l1 l2 b1 b2).objs.size=s.heap.objs.size+5:=by rw [lq,z4]
  have gz:(Fm s.heap l1 l2 b1 b2).get? (Mq s.heap l1 l2 b1 b2).objs.size=some _:=lA _ rfl;have gto:(Fm s.heap l1 l2 b1 b2).get? (Mr s.heap l1 l2 b1 b2).objs.size=some _:=(kW _ (lA _ rfl));have gti:(Fm s.heap l1 l2 b1 b2).get? (Ms s.heap l1 l2 b1 b2).objs.size=some _:=(kW _ (kW _ (lA _ rfl)));have gs1:HX (Fm s.heap l1 l2 b1 b2) s.heap.objs.size l1 0 b1:=HX.at (HX.new (h:=s.heap)) fun o e=>(kW _ (kW _ (kW _ (kW _ e))))
  have gs2:HX (Fm s.heap l1 l2 b1 b2) (Hc s.heap l1 l2 b1 b2).objs.size l2 0 b2:=HX.at (HX.new (h:=(Hc s.heap l1 l2 b1 b2))) fun o e=>(kW _ (kW _ (kW _ e)))
  show _/\_;rw [z2,z3,z4] at gz;rw [z3] at gto;rw [z1,z2] at gti;rw [z1] at gs2;rw [z4];exact ⟨⟨_,gz,rfl⟩,h _ ⟨gz,gti,⟨_,_,gto⟩,gs1,gs2⟩ z5 fun c o x=>(kW _ (kW _ (kW _ (kW _ (kW _ x)))))⟩
end
theorem YT {I b:Nat} (h:¬ b∈([(I+4),(I+2),(I+3),I,(I+1)]:List Nat)):b < I\/I+5<=b:=by simp only [kh,lV,or_false,not_or] at h;omega
theorem fX {I b:Nat} (h:b∈([(I+4),(I+2),(I+3),I,(I+1)]:List Nat)):I<=b/\b < I+5:=by simp only [kh,lV,or_false] at h;omega
def VG (K:W.Frag) (a1 a2:Nat) (b1 b2:Bool):It:=
 ⟨fun i H=>∃ xs1 xs2 y1 y2,LX K H a1 xs1 b1/\xs1[i]?=some y1/\LX K H a2 xs2 b2/\xs2[i]?=some y2,fun i H x H'=>∃ p y1 y2,H p=none/\x=.ref p/\H'=upd H p (.tup [y1,y2])/\(∀ xs,LX K H a1 xs b1->xs[i]?=some y1)/\(∀ xs,LX K H a2 xs b2->xs[i]?=some y2),fun i H=>∃ xs1 xs2,LX K H a1 xs1 b1/\LX K H a2 xs2 b2/\(xs1.length<=i\/xs2.length<=i)⟩
theorem OT {P:Program} {w:World} {K:W.Frag} {elts:List Expr} {x1} {pos:Pos} (I a1 a2:Nat) (b1 b2:Bool) (lt1:a1 < I) (lt2:a2 < I):Turn P w K (.Tuple elts x1 pos) (VG K a1 a2 b1 b2) [(I+4),(I+2),(I+3),I,(I+1)] (I+4) (fun i h=>Zst2 h I a1 a2 b1 b2 i .none) where
 mem:=by simp
 obj:=fun i h st b hb=>by
  obtain ⟨z0,ti0,⟨v1,v2,to0⟩,s10,s20⟩:=st;simp only [kh,lV,or_false] at hb;rcases hb with rfl | rfl | rfl | rfl | rfl
  ·exact ⟨_,z0,fun v z=>by cases z⟩
  ·exact ⟨_,ti0,fun v z=>by cases z⟩
  ·exact ⟨_,to0,fun v z=>by cases z⟩
  ·exact s10.obj
  ·exact s20.obj
 keep:=fun i h h' st k=>st.at fun c o c1 c2 e=>k c (by show c∈([(I+4),(I+2),(I+3),I,(I+1)]:List Nat);simp only [kh,lV,or_false];omega) o e
 item:=by
  intro X hP hw hK hc i pins s σ H E I1 hf st hg;subst hP hw hK;obtain ⟨ws1,ws2,y1,y2,hq1,hy1,hq2,hy2⟩:=hg;obtain ⟨its1,rv1,p1,hl1⟩:=I1.sqB hq1;obtain ⟨u1,hu1,ru1⟩:=rv1.get hy1;obtain ⟨its2,rv2,p2,hl2⟩:=I1.sqB hq2;obtain ⟨u2,hu2,ru2⟩:=rv2.get hy2;refine Em st p1 lt1 p2 lt2 (y1:=u1) (y2:=u2) (by simpa using hu1) (by simpa using hu2) fun h1 st1 t1 z1 k1=>?_
  refine ⟨_,rfl,wpAny_letOwnedTupleGo_zip (s:={ s with heap:=h1 }) st1.z fun h2 e2 sb=>?_⟩;have hzl:(I+4) < s.heap.objs.size:=lB st.z;have hfr:=I1.hok.fresh (kb s.heap.objs.size)
  have I2:Inv X pins σ (upd H s.heap.objs.size (.tup [y1,y2])) { s with heap:=s.heap.push { cls:=.type "tuple", data:=.seq #[u1,u2] },toks:=s.toks }:=
   I1.laid (fun b o q=>kW _ q) (kb _) (show Aa X.prog X.w _ _ _ (.tup [y1,y2]) from ⟨by show 2<=sizeLine;decide,[u1,u2],(.cons ru1 (.cons ru2 .nil)),HJ.new _ _⟩)
  have hb:∀ b∈([(I+4),(I+2),(I+3),I,(I+1)]:List Nat),I<=b/\b < I+5:=fun b hb=>fX hb
  have hf1:∀ b∈([(I+4),(I+2),(I+3),I,(I+1)]:List Nat),FpOk X pins (upd H s.heap.objs.size (.tup [y1,y2])) b:=fun b hbb=>by
   obtain ⟨f0,r⟩:=hf b hbb;refine ⟨?_,r⟩;rw [AD (lL (kq (hb b hbb).2 (by omega)))];exact f0
  have I3:Inv X pins σ (upd H s.heap.objs.size (.tup [y1,y2])) { s with heap:=h2,toks:=s.toks }:=by
   refine Inv.turnedL (s:={ s with heap:=s.heap.push { cls:=.type "tuple", data:=.seq #[u1,u2] },toks:=s.toks }) (h':=h2) (t':=s.toks) (ch:=[(I+4),(I+2),(I+3),I,(I+1)]) I2 (fun b o hbb q=>?_) hf1
   have q:(s.heap.push { cls:=.type "tuple", data:=.seq #[u1,u2] }).get? b=some o:=q
   have hbe:b≠(I+4):=fun z=>hbb (by simp [z])
   refine (sb.2 b hbe).trans ?_
   by_cases hbs:b=s.heap.objs.size
   ·subst hbs;rw [lA _ rfl] at q;rw [<- q];exact t1
   ·rw [Heap.get?_push_ne _ _ _ hbs] at q;exact k1 b o (YT hbb) q
  refine ⟨.ref s.heap.objs.size,_,I3,rfl,⟨_,y1,y2,hfr,rfl,rfl,fun zs hz=>by rw [I1.sqB_inj hz hq1];exact hy1,fun zs hz=>by rw [I1.sqB_inj hz hq2];exact hy2⟩,?_,fun b hbb=>(hf1 b hbb).1⟩;exact ⟨e2,sb.extBut _ _ (EV (by omega)) st1.ti,let ⟨v1,v2,e⟩:=st1.to;⟨v1,v2,sb.extBut _ _ (EV (by omega)) e⟩,st1.s1.at fun o e=>sb.extBut _ _ (EV (by omega)) e,st1.s2.at fun o e=>sb.extBut _ _ (EV (by omega)) e⟩
 done:=by
  intro X hP hw hK hc i pins s σ H E I1 hf st hg;subst hP hw hK;obtain ⟨ws1,ws2,hq1,hq2,hend⟩:=hg;obtain ⟨its1,rv1,p1,hl1⟩:=I1.sqB hq1;have le1:=rv1.length;obtain ⟨its2,rv2,p2,hl2⟩:=I1.sqB hq2;have le2:=rv2.length;have hend2:its1.toArray[i]?=none\/its2.toArray[i]?=none:=by
   rcases hend with h | h
   ·exact .inl (by simp;omega)
   ·exact .inr (by simp;omega)
  refine FO (I1.ok.hd hc) st p1 lt1 p2 lt2 hend2 fun h' k=>⟨rfl,?_⟩
  refine Inv.turnedL (t':=s.toks) (ch:=[(I+4),(I+2),(I+3),I,(I+1)]) I1 (fun b o hbb e=>k b o (YT hbb) e) hf
 self:=fun _ _ _ _ _ st h=>wpAny_pyIter_zip st.z h
section
variable {X:Cx} {elts:List Expr} {x1} {tpos:Pos}
abbrev fZ (K:W.Frag) (ta:TA):TI:=fun σ H R=>ta σ H fun vs H1=>∃ a1 a2 b1 b2,vs=[.ref a1,.ref a2]/\(∃ xs,LX K H1 a1 xs b1)/\(∃ xs,LX K H1 a2 xs b2)/\R (VG K a1 a2 b1 b2) H1
theorem WH (K:W.Frag) {e1 e2:Expr} {ta:TA} {p pos:Pos} (hg:Gl X "zip") (hm:X.mg "zip" = none) (ha:PA X [e1,e2] ta) (hK:X.K=K:=by rfl) (hs:starEach (e1::[e2]) X.env=(false,eval e1 X.env)::starEach [e2] X.env:=by rfl) (hpl:(backTo pos (starEach [e2] X.env)).any (·.1)=false:=by rfl):PI X (.Tuple elts x1 tpos) (.Call (.Name "zip" p) [e1,e2] [] pos) (fZ K ta):=by
 subst hK;intro pins s σ H R I h;refine Call_ (Ey I hg hm PyProof.Rows.Boot.«zip» (mO (An (ha pos pins s σ H _ I h) fun us s1 ⟨vs,H1,I1,r1,q1⟩=>?_) hs hpl));obtain ⟨a1,a2,b1,b2,rfl,⟨ws1,hq1⟩,⟨ws2,hq2⟩,q⟩:=q1;obtain ⟨its1,rv1,p1,hl1⟩:=I1.sqB hq1;obtain ⟨its2,rv2,p2,hl2⟩:=I1.sqB hq2;have rr:=r1;clear r1;cases rr with
 | cons r1 w1 =>
  cases w1 with
  | cons r2 w2 =>
   cases w2;cases r1;cases r2;refine QA p1 p2 fun h' st hsz hk=>?_
   refine wpAny_pyIter_zip (s:={ s1 with heap:=h' }) st.z ?_;refine ⟨s1.heap.objs.size+4,[(s1.heap.objs.size+4),(s1.heap.objs.size+2),(s1.heap.objs.size+3),s1.heap.objs.size,(s1.heap.objs.size+1)],fun i h=>Zst2 h s1.heap.objs.size a1 a2 b1 b2 i .none,VG X.K a1 a2 b1 b2,H1,rfl,I1.kept (t':=s1.toks) hk,OT s1.heap.objs.size a1 a2 b1 b2 hl1 hl2,st,fun b hb=>?_,q⟩;have hb':s1.heap.objs.size<=b:=(fX (I:=s1.heap.objs.size) hb).1;exact I1.fpOk hb' (I1.hok.fresh hb')
end
section
end
section
end
def iL (x:Str):It:=⟨fun i H=>∃ c,x.cps[i]?=some c,fun i H v H'=>H'=H/\∃ c,x.cps[i]?=some c/\v=.str ⟨#[c]⟩,fun i H=>x.cps[i]?=none⟩
theorem Li {h h':Heap} {a:Addr} {ty:String} {x:Str} {t:Tok} {i:Nat} (y:h.IsStrIter a ty x t i) (k:∀ o,h.get? a=some o->h'.get? a=some o):h'.IsStrIter a ty x t i:=
 let ⟨o,ho,r⟩:=y;⟨o,k o ho,r⟩
theorem Qm {P:Program} {w:World} {K:W.Frag} {tg:Expr} (x:Str) (t:Tok) (it:Addr):Turn P w K tg (iL x) [it] it (fun i h=>h.IsStrIter it (strIterType x) x t i) where
 mem:=by simp
 obj:=fun i h st b hb=>by
  have e:b=it:=by simpa using hb
  subst e;obtain ⟨o,e,c,d⟩:=st;exact ⟨o,e,fun v z=>by rw [d] at z;cases z⟩
 keep:=fun i h h' st k=>Li st fun o e=>k it (by simp) o e
 item:=by
  intro X hP hw hK hc i pins s σ H E I hf st hg;subst hP hw hK;obtain ⟨c,hx⟩:=hg;obtain ⟨f0,f1,f2,f3,f4,f5⟩:=hf it (by simp);have fin:∀ h':Heap,h'.IsStrIter it (strIterType x) x t (i+1)->Heap.SameBut it s.heap h'->∃ u,some (Value.str ⟨#[c]⟩ s.toks)=some u/\wpAny (model X.prog X.w) X.A (letOwnedTupleGo tg (.ref it) u) (fun _ s2=>∃ x_1 H',Inv X pins σ H' s2/\RelV x_1 u/\(iL x).yld i H x_1 H'/\s2.heap.IsStrIter it (strIterType x) x t (i+1)/\∀ b∈[it],H' b=none) E { s with heap:=h',toks:=s.toks+1 }:=fun h' st' sb=>by
   have I1:Inv X pins σ H { s with heap:=h',toks:=s.toks+1 }:=I.turned (t':=s.toks+1) (fun b o hb e=>(sb.2 b hb).trans e) f0 f1 f3 f4 f5;obtain ⟨o,e,c',d⟩:=id st';exact ⟨_,rfl,Nn (s:={ s with heap:=h',toks:=s.toks+1 }) e c' d (by unfold strIterType;split<;>decide) ⟨.str ⟨#[c]⟩,H,I1,⟨_,rfl⟩,⟨rfl,c,hx,rfl⟩,st',fun b hb=>(hf b hb).1⟩⟩
  by_cases ha:x.cps.all (· < 128)=true
  ·have e:strIterType x = "str_ascii_iterator" := by unfold strIterType;rw [if_pos ha]
   rw [e] at st fin ⊢;exact wpAny_pyNext_ascii_item st hx fun h' st' sb=>fin h' st' sb
  ·have e:strIterType x = "str_iterator" := by unfold strIterType;rw [if_neg ha]
   rw [e] at st fin ⊢;exact wpAny_pyNext_wide_item st hx fun h' st' sb=>fin h' st' sb
 done:=by
  intro X hP hw hK hc i pins s σ H E I hf st hg;subst hP hw hK;obtain ⟨f0,f1,f2,f3,f4,f5⟩:=hf it (by simp)
  by_cases ha:x.cps.all (· < 128)=true
  ·have e:strIterType x = "str_ascii_iterator" := by unfold strIterType;rw [if_pos ha]
   rw [e] at st;exact wpAny_pyNext_ascii_end (I.ok.hd hc) st hg fun h' eb=>⟨rfl,I.turned (t':=s.toks) (fun b o hb e=>eb b o hb e) f0 f1 f3 f4 f5⟩
  ·have e:strIterType x = "str_iterator" := by unfold strIterType;rw [if_neg ha]
   rw [e] at st;exact wpAny_pyNext_wide_end (I.ok.hd hc) st hg fun h' eb=>⟨rfl,I.turned (t':=s.toks) (fun b o hb e=>eb b o hb e) f0 f1 f3 f4 f5⟩
 self:=fun A i s Q E st h=>by
  by_cases ha:x.cps.all (· < 128)=true
  ·have e:strIterType x = "str_ascii_iterator" := by unfold strIterType;rw [if_pos ha]
   rw [e] at st;exact wpAny_pyIter_striter_ascii st h
  ·have e:strIterType x = "str_iterator" := by unfold strIterType;rw [if_neg ha]
   rw [e] at st;exact wpAny_pyIter_striter_wide st h
section
variable {X:Cx}
abbrev fg (K:W.Frag) (tl:TE):TI:=fun σ H R=>tl σ H fun x H1=>(∃ a xs,x=.ref a/\((Cm K H1 a xs/\R (iM K a) H1)\/(DW K H1 a xs/\R (jN K a) H1)))\/∃ z,x=.str z/\R (iL z) H1
theorem WI {tg l:Expr} {tl:TE} (hl:PE X l tl):PI X tg l (fg X.K tl):=by
 intro pins s σ H R I h;refine An (hl pins s σ H _ I h) fun v s1 ⟨x,H1,I1,r1,q1⟩=>?_
 rcases q1 with ⟨a,xs,e,q⟩ | ⟨z,e,q⟩
 ·subst e;cases r1;rcases q with ⟨hq,q⟩ | ⟨hq,q⟩
  ·obtain ⟨its,rv,p,hz⟩:=I1.list hq;refine wpAny_pyIter_list p.isList ?_;refine ⟨s1.heap.objs.size,[s1.heap.objs.size],_,_,H1,rfl,I1.kept (t':=s1.toks) fun b o e=>kW _ e,OU a _,⟨_,lA _ rfl,rfl,rfl⟩,fun b hb=>?_,q⟩;have e:b=s1.heap.objs.size:=by simpa using hb
   subst e;exact I1.fpOk (kb _) (I1.hok.fresh (kb _))
  ·obtain ⟨its,rv,p,hz⟩:=I1.tuple hq;refine wpAny_pyIter_tuple (show s1.heap.IsTuple a its.toArray from p) ?_;refine ⟨s1.heap.objs.size,[s1.heap.objs.size],_,_,H1,rfl,I1.kept (t':=s1.toks) fun b o e=>kW _ e,La a _,⟨_,lA _ rfl,rfl,rfl⟩,fun b hb=>?_,q⟩;have e:b=s1.heap.objs.size:=by simpa using hb
   subst e;exact I1.fpOk (kb _) (I1.hok.fresh (kb _))
 ·subst e;obtain ⟨t,rfl⟩:=r1;refine wpAny_pyIter_strU ?_;refine ⟨s1.heap.objs.size,[s1.heap.objs.size],_,_,H1,rfl,I1.kept (t':=s1.toks) fun b o e=>kW _ e,Qm z t _,⟨_,lA _ rfl,rfl,rfl⟩,fun b hb=>?_,q⟩;have e:b=s1.heap.objs.size:=by simpa using hb
  subst e;exact I1.fpOk (kb _) (I1.hok.fresh (kb _))
end
section
end
section
end
section
end
section
variable {X:Cx} {p1 p2 pos1 pos2:Pos} {es:List Expr} {e:Expr} {ta:TA}
abbrev Qt (ta:TA):TE:=fun σ H Q=>ta σ H fun vs H1=>∃ (i j:Int),(vs=[.int j]/\i=0\/vs=[.int i,.int j])/\(-(2 ^ 62)<=i/\i < 2 ^ 62/\-(2 ^ 62)<=j/\j < 2 ^ 62)/\(j - i).toNat<=1000000/\∀ l,H1 l=none->Q (.ref l) (upd H1 l (.lst ((List.range (j - i).toNat).map fun k=>.int (i+(k:Nat)))))
end
end L2
namespace R
open PySem L2
noncomputable def items:Dv->Option (List Dv)
 | .tup ds=>some ds
 | .lst ds=>some ds
 | .scr ns=>some (ns.map .int)
 | .str l=>some (l.map fun c=>.str [c])
 | _=>none
def Nu (f:Ev Dv):Ev (List Dv):=fun R m k=>f R m fun d m'=>(items d).bind fun ds=>k ds m'
section
variable {K:W.Frag} {g:G} {H:Hp}
theorem rep_int {o:Nat} {i:Int} {v:V} {P:Fp} (h:Rep K g H o (.int i) v P):v=.int i:=by unfold Rep at h;exact h.1
theorem Bc {o:Nat} {i:Int}:Rep K g H o (.int i) (.int i) nop:=by unfold Rep;exact ⟨rfl,fun _ z=>z⟩
theorem VO {a:Addr} {ds:List Dv} (h:Rep K g H 0 (.lst ds) (.ref a) nop):Yl K (iM K a) ds g H:=by
 intro g2 H2 st;have h2:=st.rep h;unfold Rep at h2;obtain ⟨b,vs,P',e,h1,h2,_⟩:=h2;cases e;have sq:Cm K H2 a vs:=.inl (.inl h1.1);refine ⟨fun i d e=>?_,fun i hi=>⟨vs,sq,by rw [<- h2.len];exact hi⟩⟩;obtain ⟨v,P,ev,rv,_⟩:=h2.get e;refine ⟨⟨vs,v,sq,ev⟩,fun x H3 y=>?_⟩;obtain ⟨rfl,y⟩:=y;have:=y vs sq;rw [ev] at this;cases this;exact Ae.old rv.z
theorem ZF {a:Addr} {ds:List Dv} (h:Rep K g H 0 (.tup ds) (.ref a) nop):Yl K (jN K a) ds g H:=by
 intro g2 H2 st;have h2:=st.rep h;unfold Rep at h2;obtain ⟨b,vs,e,h1,h2⟩:=h2;cases e;have sq:DW K H2 a vs:=.inl (.inl h1);refine ⟨fun i d e=>?_,fun i hi=>⟨vs,sq,by rw [<- h2.len];exact hi⟩⟩;obtain ⟨v,P,ev,rv,_⟩:=h2.get e;refine ⟨⟨vs,v,sq,ev⟩,fun x H3 y=>?_⟩;obtain ⟨rfl,y⟩:=y;have:=y vs sq;rw [ev] at this;cases this;exact Ae.old rv.z
theorem ZH {a:Addr} {ns:List Int} (h:Rep K g H 0 (.scr ns) (.ref a) nop):Yl K (iM K a) (ns.map .int) g H:=by
 intro g2 H2 st;have h2:=st.rep h;unfold Rep at h2;obtain ⟨⟨b,e,h1⟩,_⟩:=h2;cases e;have sq:=h1.sq;refine ⟨fun i d e=>?_,fun i hi=>⟨_,sq,by rw [lK] at hi ⊢;exact hi⟩⟩;rw [km] at e;cases q:ns[i]? with
 | none=>rw [q] at e;cases e
 | some k =>
  rw [q] at e;cases e;refine ⟨⟨_,.int k,sq,by rw [km,q];rfl⟩,fun x H3 y=>?_⟩;obtain ⟨rfl,y⟩:=y;have:=y _ sq;rw [km,q] at this;cases this;exact Ae.old Bc
theorem ZG {l:List Nat}:Yl K (iL (tx l)) (l.map fun c=>.str [c]) g H:=by
 intro g2 H2 st;have ec:∀ i:Nat,(tx l).cps[i]?=l[i]?:=fun i=>by show l.toArray[i]?=l[i]?;simp
 refine ⟨fun i d e=>?_,fun i hi=>?_⟩
 ·rw [km] at e;cases q:l[i]? with
  | none=>rw [q] at e;cases e
  | some c =>
   rw [q] at e;simp only [lQ,Option.some.injEq] at e;subst e;refine ⟨⟨c,by rw [ec,q]⟩,fun x H3 y=>?_⟩;obtain ⟨rfl,c',e',rfl⟩:=y;rw [ec,q] at e';cases e';exact Ae.old (by unfold Rep;exact ⟨rfl,fun _ z=>z⟩)
 ·show (tx l).cps[i]?=none;rw [ec];rw [lK] at hi;exact lZ hi
theorem Jj {lo:Int} {n:Nat}:Yl K (ck lo n) ((List.range n).map fun k=>.int (lo+(k:Nat))) g H:=by
 intro g2 H2 st;refine ⟨fun i d e=>?_,fun i hi=>by rw [lK,List.length_range] at hi;exact hi⟩;obtain ⟨hi,rfl⟩:=DK e;refine ⟨hi,fun x H3 y=>?_⟩;obtain ⟨rfl,rfl⟩:=y;exact Ae.old Bc
end
section
variable {X:Cx} {tg e a b:Expr} {es:List Expr} {f:Ev Dv} {p pos:Pos} {Γ Γ':Gm} {js:List Nat} {as:List Ar}
theorem fY (h:PE X e (tE X.K Γ 0 Γ' js f)):PI X tg e (tI X.K Γ Γ' js (Nu f)):=PI.imp (WI h) fun σ H Q q=>by
 obtain ⟨g,m,P,r,R,k,res,e,q⟩:=q;refine ⟨g,m,P,r,R,_,res,e,fun d m' g' P' Pv v H' hk ag s rv r1 n=>?_⟩;obtain ⟨ds,e1,e2⟩:=bind_some' hk;have s':Step g P H g' P' H':=s.less fun _ z=>.inl z
 have rz:=rv.z;cases d with
 | tup es =>
  cases e1;have h0:=rz;unfold Rep at h0;obtain ⟨a,vs,rfl,h1,h2⟩:=h0;exact .inl ⟨a,vs,rfl,.inr ⟨.inl (.inl h1),q _ m' g' P' H' _ e2 ag s' r1 (ZF rz)⟩⟩
 | lst es =>
  cases e1;have h0:=rz;unfold Rep at h0;obtain ⟨a,vs,P1,rfl,h1,h2,_⟩:=h0;exact .inl ⟨a,vs,rfl,.inl ⟨.inl (.inl h1.1),q _ m' g' P' H' _ e2 ag s' r1 (VO rz)⟩⟩
 | scr ns =>
  cases e1;have h0:=rz;unfold Rep at h0;obtain ⟨⟨a,rfl,h1⟩,_⟩:=h0;exact .inl ⟨a,_,rfl,.inl ⟨h1.sq,q _ m' g' P' H' _ e2 ag s' r1 (ZH rz)⟩⟩
 | str l =>
  cases e1;have h0:=rz;unfold Rep at h0;exact .inr ⟨_,h0.1,q _ m' g' P' H' _ e2 ag s' r1 ZG⟩
 | _=>cases e1
def VE (K:W.Frag) (p:List Dv->Option (List Dv)) (r:List V->Hp->(It->Hp->Prop)->Prop):Prop:=∀ g H ds vs its Q,Zd g H->Reps K g H 0 ds vs nop->p ds=some its->(∀ J H',Je H H'->Yl K J its g H'->Q J H')->r vs H Q
def Ym (p:List Dv->Option (List Dv)) (fa:Ev (List Dv)):Ev (List Dv):=fun R m k=>fa R m fun ds m'=>(p ds).bind fun its=>k its m'
abbrev Yg (r:List V->Hp->(It->Hp->Prop)->Prop) (ta:TA):TI:=fun σ H Q=>ta σ H fun vs H1=>r vs H1 Q
theorem VX {K:W.Frag} {pr:List Dv->Option (List Dv)} {r:List V->Hp->(It->Hp->Prop)->Prop} (hp:VE K pr r) (c:AA Γ as Γ' js) (he:evd as=true) {σ:St} {H:Hp} {Q:It->Hp->Prop} (h:tI K Γ Γ' js (Ym pr (AQ as)) σ H Q):Yg r (BE K as) σ H Q:=by
 obtain ⟨g,m,P,rl,R',k,res,e,q⟩:=h;refine AL as rl c e fun ds m' g' P' vs H1 hk ag s ar r1=>?_
 obtain ⟨its,e1,e2⟩:=bind_some' hk;exact hp g' H1 ds vs its Q r1.zd (ar.reps he) e1 fun J H2 sm yl=>q its m' g' P' H2 J e2 ag ((s.trans (Step.same sm)).less fun _ z=>z) (r1.same sm) yl
noncomputable def small (i:Int):Bool:=-1000000000<=i && i<=1000000000
theorem GB {i:Int} (h:small i=true):-1000000000<=i/\i<=1000000000:=by
 unfold small at h;rw [dL,decide_eq_true_eq,decide_eq_true_eq] at h;exact h
def Ct (ds:List Dv):Option (List Dv):=match ds with
 | [.int n]=>bif small n then some ((List.range n.toNat).map fun k=>.int (0+(k:Nat))) else none
 | _=>none
def Oh (ds:List Dv):Option (List Dv):=match ds with
 | [.int i,.int n]=>bif small i && small n then some ((List.range (n - i).toNat).map fun k=>.int (i+(k:Nat))) else none
 | _=>none
def eG:List V->Hp->(It->Hp->Prop)->Prop:=fun vs H1 R=>∃ j:Int,vs=[.int j]/\-(2 ^ 62)<=j/\j < 2 ^ 62/\R (ck 0 j.toNat) H1
def eE:List V->Hp->(It->Hp->Prop)->Prop:=fun vs H1 R=>∃ i j:Int,vs=[.int i,.int j]/\(-(2 ^ 62)<=i/\i < 2 ^ 62/\-(2 ^ 62)<=j/\j < 2 ^ 62)/\R (ck i (j - i).toNat) H1
theorem RI {K:W.Frag}:VE K Ct eG:=fun g H ds vs its Q zd ra e q=>by
 unfold Ct at e;split at e
 ·rename_i n;cases c:small n with
  | false=>rw [c] at e;cases e
  | true =>
   rw [c] at e;cases e;have hn:=GB c;unfold Reps at ra;obtain ⟨v,vr,_,_,rfl,h1,h2,_⟩:=ra;unfold Reps at h2;obtain ⟨rfl,_⟩:=h2;rw [rep_int h1];exact ⟨n,rfl,by omega,by omega,q _ H (fun _ _ z=>z) Jj⟩
 ·cases e
theorem RH {K:W.Frag}:VE K Oh eE:=fun g H ds vs its Q zd ra e q=>by
 unfold Oh at e;split at e
 ·rename_i i n;cases c:small i && small n with
  | false=>rw [c] at e;cases e
  | true =>
   rw [c] at e;cases e;rw [dL] at c;have hi:=GB c.1;have hn:=GB c.2;unfold Reps at ra;obtain ⟨v,vr,_,_,rfl,h1,h2,_⟩:=ra;unfold Reps at h2;obtain ⟨v2,vr2,_,_,rfl,h3,h4,_⟩:=h2;unfold Reps at h4;obtain ⟨rfl,_⟩:=h4;rw [rep_int h1,rep_int h3];exact ⟨i,n,rfl,by omega,q _ H (fun _ _ z=>z) Jj⟩
 ·cases e
end
structure Sig:Type 1 where
 ps:List Str
 io:List Nat
 ro:Nat
 nb:Bool
 fn:List Dv->Option (Dv×List Dv)
 cps:(R:Type)->List Dv->(Dv->List Dv->Option R)->Option R
 eq:∀ R ds k,cps R ds k=(fn ds).bind fun p=>k p.1 p.2
 cl:Option Str:=none
def LW (n:Nat) (io:List Nat):Gm:=(List.range n).map fun i=>some (if io.contains i then 1 else 0)
def Bk (K:W.Frag) (g:G) (H:Hp) (io:List Nat) (bs:List Dv) (vs:List V) (P:Fp):Prop:=Rel K g H (io.map fun _=>some 1) bs (io.map fun i=>(vs[i]?).map id) P
def Jg (K:W.Frag) (s:Sig):Sp:=fun vs H Q _=>∃ g ds P,Rel K g H (LW s.ps.length s.io) ds (vs.map some) P/\∃ d bs,s.fn ds=some (d,bs) /\
 ∀ g' H' v Pv Pb,Step g P H g' (fun a=>Pv a\/Pb a) H'->Rep K g' H' s.ro d v Pv->Bk K g' H' s.io bs vs Pb->Disj Pv Pb->Q v H'
def Lo (n:Nat) (io:List Nat):Gm:=(List.range n).map fun i=>if io.contains i then some 1 else none
def Wx (n p:Nat) (io:List Nat):Gm:=LW p io++List.replicate (n - p) none
section
variable {K:W.Frag} {g:G} {H:Hp}
theorem Rel.pad {Γ:Gm} {m:M} {vs:List V} {P:Fp} (h:Rel K g H Γ m (vs.map some) P) (n:Nat):Rel K g H (Γ++List.replicate n none) (m++List.replicate n .non) (vs.map some++List.replicate n none) P:=by
 obtain ⟨zd,F,h1,h4⟩:=h;have old:∀ {i o:Nat},(Γ++List.replicate n none)[i]?=some (some o)->i < Γ.length/\Γ[i]?=some (some o):=fun {i o} e=>by
  by_cases z:i < Γ.length
  ·rw [kc z] at e;exact ⟨z,e⟩
  ·rw [lF (by omega),oE] at e;split at e<;>cases e
 refine ⟨zd,F,⟨by simp [h1.l1],by have:=h1.l2;simp at this ⊢;omega,fun i o e=>?_,fun i e=>?_,h1.dj⟩,h4⟩
 ·obtain ⟨hi,e⟩:=old e;obtain ⟨d,v,e1,e2,r⟩:=h1.rep i o e;exact ⟨d,v,by rw [kc (by rw [h1.l1];exact hi)];exact e1,by rw [kc (by rw [h1.l2];exact hi)];exact e2,r⟩
 ·refine h1.out i fun o z=>e o ?_
  rw [kc (kU.mp z).1];exact z
theorem Rel.pick {Γ:Gm} {m:M} {σ:St} {P:Fp} {io:List Nat} (h:Rel K g H Γ m σ P) (nd:io.Nodup) (hl:∀ i∈io,Γ[i]?=some (some 1)):∃ P',Rel K g H (io.map fun _=>some 1) (io.map m.at) (io.map fun i=>(σ[i]?).join) P'/\∀ a,P' a->P a:=by
 obtain ⟨zd,F,h1,h4⟩:=h;refine ⟨fun a=>∃ j i,io[j]?=some i/\F i a,⟨zd,fun j a=>∃ i,io[j]?=some i/\F i a,⟨by simp,by simp,fun j o e=>?_,fun j e a ⟨i,e',_⟩=>?_,fun j k n a ⟨i,e1,q1⟩ ⟨i',e2,q2⟩=>?_⟩,fun _=>Iff.rfl⟩,fun a ⟨j,i,_,q⟩=>(h4 a).mpr ⟨i,q⟩⟩
 ·rw [km] at e;cases ej:io[j]? with
  | none=>rw [ej] at e;cases e
  | some i =>
   rw [ej] at e;cases e;obtain ⟨d,v,e1,e2,r⟩:=h1.rep i 1 (hl i (mF ej));have eq:(fun a=>∃ i',some i=some i'/\F i' a)=F i:=funext fun a=>propext ⟨fun ⟨i',z,q⟩=>by cases z;exact q,fun q=>⟨i,rfl,q⟩⟩
   exact ⟨d,v,by rw [km,ej,lQ,IX e1],by rw [km,ej,lQ,e2];rfl,by show Rep K g H 1 d v fun a=>∃ i',some i=some i'/\F i' a;rw [eq];exact r⟩
 ·refine e 1 ?_;rw [km,e'];rfl
 ·by_cases z:i=i'
  ·subst z;refine n ?_;have hj:=(kU.mp e1);have hk:=(kU.mp e2);exact (mz (h₀:=hj.1) (h₁:=hk.1) nd).mp (hj.2.trans hk.2.symm)
  ·exact h1.dj i i' z a q1 q2
end
theorem fu {P:Program} {w:World} {K:W.Frag} {mg:Str->Option Value} {base:Heap} {x qual:Str} {st:Stmt} {f:Addr} {fd:FuncData} {N:List Str} {k:Nat} {s:Sig} (Fn:Fun K x qual st f fd) (S:FnScope N s.ps (AH st)) (nd:s.io.Nodup) (hio:∀ i∈s.io,i < s.ps.length) (hn:s.ps.length<=N.length)
    {body:Es} {Γn:Option Gm} {js:List Nat} (hw:JF (some (Lo N.length s.io)) Γn=true)
    (hb:∀ (cdv:Value) (A:Around) (outer:List Env) (s':Shared) (H:Hp) (E:XK),Room k (A.deeper (PyProof.Rows.envOfC qual (AH st) s'.heap.objs.size f cdv))->Cq (LD Mp P w K mg base N qual (AH st) f cdv A outer s' H E).nox (AY st) (tS K ⟨s.io,Lo N.length s.io,s.ro⟩ none (Wx N.length s.ps.length s.io) Γn js body))
    (hΦ:∀ ds d bs,ds.length=s.ps.length->s.fn ds=some (d,bs)->∃ (R:Type) (k:Kt R) (r:R),body R (ds++List.replicate (N.length - s.ps.length) .non) k=some r/\(∀ m,k.nx m=some r->d=.non/\bs=s.io.map m.at)/\(∀ d' m,k.rt d' m=some r->d=d'/\bs=s.io.map m.at)):FnOk P w K mg base Mp (k+1) f fd s.ps (Jg K s):=by
  have ll:∀ n io,(LW n io).length=n:=fun n io=>by unfold LW;simp
  refine Fn.ok S (fun vs H Q E h=>?_) fun cdv A outer s' H vs Q E hr h=>⟨_,hb cdv A outer s' H E hr,?_⟩
  · obtain ⟨g,ds,Pa,r,_⟩:=h;have:=r.len.2;rw [ll] at this;simpa using this
  · obtain ⟨g,ds,Pa,r,d,bs,e,q⟩:=h;have l1:=r.len.1;have l2:=r.len.2;rw [ll] at l1 l2;rw [lK] at l2;have r0:Rel K g H (Wx N.length s.ps.length s.io) (ds++List.replicate (N.length - s.ps.length) .non) (L2.start N vs) Pa:=by
      unfold L2.start Wx;rw [l2];exact r.pad _
    have hv:∀ {σ':St},Io s.io (L2.start N vs) σ'->∀ i∈s.io,(σ'[i]?).join=vs[i]?:=fun {σ'} hi i hm=>by
      rw [hi i hm];unfold L2.start;have hl:i < vs.length:=by rw [l2];exact hio i hm
      rw [kc (by simpa using hl),km];cases vs[i]?<;>rfl
    have rg:∀ i∈s.io,(Lo N.length s.io)[i]?=some (some 1):=fun i hi=>by
      unfold Lo;rw [km,mC (by have:=hio i hi;omega),lQ,if_pos (kn.mpr hi)]
    obtain ⟨RT,kt,rt,hb0,hnx,hrt⟩:=hΦ ds d bs l1 e;have fin:∀ {d':Dv} {m':M} {g':G} {P' Pv:Fp} {σ':St} {v:V} {H':Hp},d=d'/\bs=s.io.map m'.at->Step g Pa H g' (fun a=>P' a\/Pv a) H'->Io s.io (L2.start N vs) σ'->Rep K g' H' s.ro d' v Pv->Rel K g' H' (Lo N.length s.io) m' σ' P'->Disj P' Pv->Q v H':=fun {d' m' g' P' Pv σ' v H'} hk st io rv r' n=>by
      obtain ⟨rfl,rfl⟩:=hk;obtain ⟨Pb,hbk,sb⟩:=r'.pick nd rg;refine q g' H' v Pv Pb (st.less fun a z=>z.elim .inr fun z=>.inl (sb a z)) rv ?_ fun a z w=>n a (sb a w) z
      have e:(s.io.map fun i=>(σ'[i]?).join)=s.io.map fun i=>(vs[i]?).map id:=List.map_congr_left fun i hi=>by rw [hv io i hi];cases vs[i]?<;>rfl
      unfold Bk;rw [<- e];exact hbk
    refine ⟨g,_,Pa,r0,RT,kt,rt,hb0,⟨fun Γ' m' g' P' σ' H' eΓ hk ag st' i' r'=>?_,fun d' m' g' P' Pv σ' v H' hk ag st' i' rv r' n=>fin (hrt d' m' hk) st' i' rv r' n,(fun _ _ _ _ _ _ z=>by cases z),fun _ _ _ _ _ _ z=>by cases z⟩⟩;subst eΓ;obtain ⟨g2,P2,s2,r2⟩:=r'.weaken (by unfold JF at hw;exact hw);exact fin (Pv:=nop) (v:=.non) (hnx m' hk) ((st'.trans s2).less fun _ z=>z.elim id False.elim) i' (by unfold Rep;exact ⟨rfl,fun _ z=>z⟩) r2 fun _ _ z=>z
noncomputable def DZ (as:List Ar) (i:Nat):Option Nat:=match as[i]? with | some (.rf j)=>some j | _=>none
def slots (as:List Ar) (io:List Nat):List Nat:=io.map fun i=>(DZ as i).getD 0
noncomputable def PC:Ar->Bool
 | .fd _ _=>false
 | _=>true
def YI (as:List Ar) (io:List Nat):Bool:=as.all PC && (List.range as.length).all fun i=>((DZ as i).isSome == io.contains i) && (List.range as.length).all fun j=>i == j || (DZ as i).isNone || (DZ as i != DZ as j)
noncomputable def GV:List Nat->List Dv->M->M
 | s::sl,b::bs,m=>GV sl bs (m.set s b)
 | _,_,m=>m
def JO (s:Sig) (as:List Ar):Ev Dv:=fun R m k=>AQ as R m fun ds m1=>s.cps R ds fun d bs=>k d (GV (slots as s.io) bs m1)
theorem GU:∀ (sl:List Nat) (bs:List Dv) (m:M),(GV sl bs m).length=m.length
 | [],_,_=>rfl
 | _::_,[],_=>rfl
 | s::sl,b::bs,m=>by unfold GV;rw [GU,lD]
theorem EC:∀ (sl:List Nat) (bs:List Dv) (m:M) (j:Nat),j∉sl->(GV sl bs m)[j]?=m[j]?
 | [],_,_,_,_=>rfl
 | _::_,[],_,_,_=>rfl
 | s::sl,b::bs,m,j,h=>by
  unfold GV;rw [EC sl bs _ j fun z=>h (kX _ z),lG fun z=>h (by rw [z];exact kZ)]
theorem NO:∀ (sl:List Nat) (bs:List Dv) (m:M) (k j:Nat) (b:Dv),sl.Nodup->sl[k]?=some j->bs[k]?=some b->j < m.length->(GV sl bs m)[j]?=some b
 | [],_,_,k,_,_,_,h,_,_=>by simp at h
 | _::_,[],_,k,_,_,_,_,h,_=>by simp at h
 | s::sl,c::bs,m,k,j,b,nd,h1,h2,hl=>by
  unfold GV;rw [mj] at nd;cases k with
  | zero =>
   simp at h1 h2;subst h1 h2;rw [EC sl bs _ s nd.1,lO hl]
  | succ k=>exact NO sl bs _ k j b nd.2 (by simpa using h1) (by simpa using h2) (by rw [lD];exact hl)
theorem Rf (sl:List Nat) (bs:List Dv) (m:M):BI sl m (GV sl bs m):=⟨GU ..,fun i h=>by
 unfold M.at;rw [kz,kz,EC sl bs m i h]⟩
section
variable {K:W.Frag} {g:G} {H:Hp} {σ:St} {Γ Γ':Gm} {js:List Nat} {m:M} {P:Fp} {as:List Ar}
theorem AO.len:∀ {as:List Ar} {ds:List Dv} {vs:List V},AO K g H Γ m σ as ds vs->ds.length=as.length/\vs.length=as.length
 | [],ds,vs,h=>by unfold AO at h;obtain ⟨rfl,rfl⟩:=h;exact ⟨rfl,rfl⟩
 | .ev _ _ _ _::as,ds,vs,h=>by
  unfold AO at h;obtain ⟨d,v,ds',vs',rfl,rfl,_,h2⟩:=h;simp [h2.len.1,h2.len.2]
 | .rf i::as,ds,vs,h=>by
  unfold AO at h;obtain ⟨v,ds',vs',rfl,rfl,_,_,h3⟩:=h;simp [h3.len.1,h3.len.2]
 | .fd i _::as,ds,vs,h=>by
  unfold AO at h;obtain ⟨d,v,ds',vs',rfl,rfl,_,_,h3⟩:=h;simp [h3.len.1,h3.len.2]
theorem AO.get:∀ {as:List Ar} {ds:List Dv} {vs:List V} {i:Nat},as.all PC=true->AO K g H Γ m σ as ds vs->i < as.length->∃ d v,ds[i]?=some d/\vs[i]?=some v/\((∃ j,DZ as i=some j/\d=m.at j/\σ[j]?=some (some v))\/(DZ as i=none/\Rep K g H 0 d v nop))
 | [],_,_,i,_,_,h=>by simp at h
 | .fd _ _::as,ds,vs,i,nf,h,hi=>by simp [PC] at nf
 | .ev _ _ _ f::as,ds,vs,i,nf,h,hi=>by
  unfold AO at h;obtain ⟨d,v,ds',vs',rfl,rfl,h1,h2⟩:=h;cases i with
  | zero=>exact ⟨d,v,rfl,rfl,.inr ⟨rfl,h1⟩⟩
  | succ i =>
   obtain ⟨d,v,e1,e2,z⟩:=h2.get (i:=i) (by simpa [PC] using nf) (by simpa using hi);exact ⟨d,v,by simpa using e1,by simpa using e2,z⟩
 | .rf j::as,ds,vs,i,nf,h,hi=>by
  unfold AO at h;obtain ⟨v,ds',vs',rfl,rfl,h1,_,h3⟩:=h;cases i with
  | zero=>exact ⟨_,v,rfl,rfl,.inl ⟨j,rfl,rfl,h1⟩⟩
  | succ i =>
   obtain ⟨d,v,e1,e2,z⟩:=h3.get (i:=i) (by simpa [PC] using nf) (by simpa using hi);exact ⟨d,v,by simpa using e1,by simpa using e2,z⟩
theorem EA {i j:Nat} (h:DZ as i=some j):i < as.length:=by
 unfold DZ at h;cases e:as[i]? with
 | none=>rw [e] at h;cases h
 | some a=>exact (kU.mp e).1
theorem Zh {io:List Nat} (h:YI as io=true):(∀ i,i < as.length->((DZ as i).isSome=true↔i∈io))/\∀ i i' j,DZ as i=some j->DZ as i'=some j->i=i':=by
 unfold YI at h;rw [dL] at h;replace h:=h.2;rw [lN] at h;refine ⟨fun i hi=>?_,fun i i' j e e'=>?_⟩
 ·have:=h i (mU.mpr hi);rw [dL,beq_iff_eq] at this;rw [this.1,kn]
 ·have:=h i (mU.mpr (EA e));rw [dL,lN] at this;have:=this.2 i' (mU.mpr (EA e'));rw [e,e'] at this;simp at this;exact this
theorem QJ {s:Sig} {g1:G} {H1:Hp} {m1:M} {P1:Fp} {ds:List Dv} {vs:List V} {d:Dv} {bs:List Dv} (hs:YI as s.io=true) (hn:as.length=s.ps.length) (nd:s.io.Nodup) (hio:∀ i∈s.io,i < s.ps.length) (hl:∀ i∈slots as s.io,Γ'[i]?=some (some 1)) {Q:VK}
    (r1:Rel K g1 H1 Γ' m1 σ P1) (ar:AO K g1 H1 Γ' m1 σ as ds vs) (e1:s.fn ds=some (d,bs))
    (q:∀ g2 P2 Pv v H2,Step g1 P1 H1 g2 (fun a=>P2 a\/Pv a) H2->Rep K g2 H2 s.ro d v Pv->Rel K g2 H2 Γ' (GV (slots as s.io) bs m1) σ P2->Disj P2 Pv->Q v H2):Jg K s vs H1 Q E0:=by
  obtain ⟨hs1,hs2⟩:=Zh hs;have nf:as.all PC=true:=by unfold YI at hs;rw [dL] at hs;exact hs.1
  have r1':=r1;obtain ⟨zd,F,h1,h4⟩:=r1'
  -- the slots,one by one
  have sl:∀ {i j:Nat},DZ as i=some j->i∈s.io/\j∈slots as s.io:=fun {i j} e=>by
    have hi:=(hs1 i (EA e)).mp (by rw [e];rfl);exact ⟨hi,mE.mpr ⟨i,hi,by rw [e];rfl⟩⟩
  have sl2:∀ {i:Nat},i∈s.io->∃ j,DZ as i=some j:=fun {i} hi=>mX.mp ((hs1 i (by rw [hn];exact hio i hi)).mpr hi)
  have ndS:(slots as s.io).Nodup:=by
    unfold slots;rw [nv,List.pairwise_map];refine (nv.mp nd).imp_of_mem fun {a b} ha hb n z=>?_
    obtain ⟨ja,ea⟩:=sl2 ha;obtain ⟨jb,eb⟩:=sl2 hb;rw [ea,eb] at z;simp only [Option.getD_some] at z;subst z;exact n (hs2 a b ja ea eb)
  let Fa:Nat->Fp:=fun i a=>∃ j,DZ as i=some j/\F j a
  have al:=ar.len;have rA:Rel K g1 H1 (LW s.ps.length s.io) ds (vs.map some) fun a=>∃ i,Fa i a:=by
    refine ⟨zd,Fa,⟨by unfold LW;simp;rw [al.1,hn],by unfold LW;simp;rw [al.2,hn],fun i o ei=>?_,fun i ei a ⟨j,ej,_⟩=>?_,fun i i' n a ⟨j,ej,z⟩ ⟨j',ej',z'⟩=>?_⟩,fun _=>Iff.rfl⟩
    · obtain ⟨hi,eo⟩:=DK ei;obtain ⟨d',v,d1,d2,z⟩:=ar.get (i:=i) nf (by rw [hn];exact hi);refine ⟨d',v,d1,by rw [km,d2];rfl,?_⟩;rcases z with ⟨j,ej,rfl,hv⟩ | ⟨ej,z⟩
      · have:o=1:=by
          have:=Option.some.inj eo;rw [if_pos (kn.mpr (sl ej).1)] at this;exact this
        subst this;obtain ⟨d3,v3,e3,e4,r3⟩:=h1.rep j 1 (hl j (sl ej).2);rw [hv] at e4;cases e4;have eq:Fa i=F j:=funext fun a=>propext ⟨fun ⟨j',z,q⟩=>by rw [ej] at z;cases z;exact q,fun q=>⟨j,ej,q⟩⟩
        rw [IX e3,eq];exact r3
      · have:o=0:=by
          have:=Option.some.inj eo;rw [if_neg fun w=>?_] at this
          · exact this
          · obtain ⟨j,w⟩:=sl2 (kn.mp w);rw [ej] at w;cases w
        subst this;have eq:Fa i=nop:=nop_iff fun a ⟨j,w,_⟩=>by rw [ej] at w;cases w
        rw [eq];exact z
    · refine ei (if s.io.contains i then 1 else 0) ?_;unfold LW;rw [km,mC (by rw [<- hn];exact EA ej)];rfl
    · by_cases w:j=j'
      · subst w;exact n (hs2 i i' j ej ej')
      · exact h1.dj j j' w a z z'
  let Fr:Nat->Fp:=fun j a=>j∉slots as s.io/\F j a
  have rr:Rel K g1 H1 (LO (slots as s.io) Γ') m1 σ fun a=>∃ j,Fr j a:=by
    refine ⟨zd,Fr,⟨by unfold LO;simp;exact h1.l1,by unfold LO;simp;exact h1.l2,fun j o ej=>?_,fun j ej a ⟨n,z⟩=>?_,fun i j n a q z=>h1.dj i j n a q.2 z.2⟩,fun _=>Iff.rfl⟩
    · obtain ⟨nj,ej⟩:=Ci ej;obtain ⟨d',v,d1,d2,z⟩:=h1.rep j o ej;have eq:Fr j=F j:=funext fun a=>propext ⟨fun w=>w.2,fun w=>⟨nj,w⟩⟩
      exact ⟨d',v,d1,d2,by rw [eq];exact z⟩
    · refine h1.out j (fun o w=>ej o ?_) a z;unfold LO;have hj:=(kU.mp w).1;rw [km,mC hj,lQ,if_neg (fun q=>n (kn.mp q)),kz,w];rfl
  have dA:Disj (fun a=>∃ j,Fr j a) fun a=>∃ i,Fa i a:=fun a ⟨j,nj,z⟩ ⟨i,j',ej,z'⟩=>by
    by_cases w:j=j'
    · subst w;exact nj (sl ej).2
    · exact h1.dj j j' w a z z'
  have okA:FpOk g1 H1 fun a=>∃ i,Fa i a:=rA.fpOk
  refine ⟨g1,ds,_,rA,d,bs,e1,fun g2 H2 v Pv Pb s2 rv hb n=>?_⟩;have rr2:=rr.held s2 okA dA;have dB:Disj (fun a=>∃ j,Fr j a) fun a=>Pv a\/Pb a:=s2.out rr.fpOk dA
  obtain ⟨zd2,Fq,q1,q4⟩:=rr2;obtain ⟨zb,Fb,b1,b4⟩:=hb;have lb:bs.length=s.io.length:=by have:=b1.l1;simpa using this
  have fq:∀ {a:Addr},(∃ j,Fr j a)↔∃ j,Fq j a:=fun {a}=>q4 a
  let Fz:Nat->Fp:=fun j a=>(∃ k,(slots as s.io)[k]?=some j/\Fb k a)\/Fq j a
  have nq:∀ j∈slots as s.io,∀ a,¬ Fq j a:=fun j hj=>q1.out j fun o w=>(Ci w).1 hj
  have rz:Rel K g2 H2 Γ' (GV (slots as s.io) bs m1) σ fun a=>∃ j,Fz j a:=by
    refine ⟨zd2,Fz,⟨by rw [GU];exact h1.l1,h1.l2,fun j o ej=>?_,fun j ej a z=>?_,fun i j n' a z w=>?_⟩,fun _=>Iff.rfl⟩
    · have hjl:j < m1.length:=by rw [h1.l1];exact (kU.mp ej).1
      by_cases hj:j∈slots as s.io
      · obtain ⟨kk,hk1⟩:=mi hj;have hkk:kk < s.io.length:=by have:=(kU.mp hk1).1;unfold slots at this;simpa using this
        rw [hl j hj] at ej;cases ej;obtain ⟨b,u,c1,c2,c3⟩:=b1.rep kk 1 (by rw [km,kT hkk];rfl);have ei:(slots as s.io)[kk]?=some ((DZ as s.io[kk]).getD 0):=by unfold slots;rw [km,kT hkk];rfl
        obtain ⟨jj,ejj⟩:=sl2 (mM hkk);rw [hk1,ejj] at ei;have ejj':j=jj:=Option.some.inj ei;subst ejj';obtain ⟨d3,v3,d1,d2,z3⟩:=ar.get (i:=s.io[kk]) nf (EA ejj);rw [km,kT hkk,lQ,d2] at c2;have eu:u=v3:=by simpa using c2.symm
        subst eu;have hv:σ[j]?=some (some u):=by
          rcases z3 with ⟨j2,e2',_,z3⟩ | ⟨e2',_⟩
          · rw [ejj] at e2';cases e2';exact z3
          · rw [ejj] at e2';cases e2'
        have eq:Fz j=Fb kk:=funext fun a=>propext ⟨fun w=>w.elim (fun ⟨k',h',w⟩=>by
            have h1':=kU.mp hk1;have h2':=kU.mp h';have:k'=kk:=(mz (h₀:=h2'.1) (h₁:=h1'.1) ndS).mp (h2'.2.trans h1'.2.symm);exact this▸w) fun w=>(nq j hj a w).elim,fun w=>.inl ⟨kk,hk1,w⟩⟩
        exact ⟨b,u,NO _ bs m1 kk j b ndS hk1 c1 hjl,hv,by rw [eq];exact c3⟩
      · have ej':(LO (slots as s.io) Γ')[j]?=some (some o):=by
          unfold LO;rw [km,mC (kU.mp ej).1,lQ,if_neg (fun w=>hj (kn.mp w)),kz,ej];rfl
        obtain ⟨d3,v3,d1,d2,r3⟩:=q1.rep j o ej';have eq:Fz j=Fq j:=funext fun a=>propext ⟨fun w=>w.elim (fun ⟨k',h',_⟩=>(hj (mF h')).elim) id,.inr⟩
        exact ⟨d3,v3,by rw [EC _ _ _ _ hj];exact d1,d2,by rw [eq];exact r3⟩
    · rcases z with ⟨k',h',z⟩ | z
      · exact ej 1 (hl j (mF h'))
      · refine q1.out j (fun o w=>ej o (Ci w).2) a z
    · rcases z with ⟨k1,h1',z⟩ | z
      · rcases w with ⟨k2,h2',w⟩ | w
        · by_cases kk:k1=k2
          · subst kk;rw [h1'] at h2';exact n' (Option.some.inj h2')
          · exact b1.dj k1 k2 kk a z w
        · exact dB a (fq.mpr ⟨j,w⟩) (.inr ((b4 a).mpr ⟨k1,z⟩))
      · rcases w with ⟨k2,h2',w⟩ | w
        · exact dB a (fq.mpr ⟨i,z⟩) (.inr ((b4 a).mpr ⟨k2,w⟩))
        · exact q1.dj i j n' a z w
  refine q g2 _ Pv v H2 ((s2.frame (R:=fun a=>∃ j,Fr j a)).sub (fun a z=>?_) fun a z=>?_) rv rz fun a z w=>?_
  · rcases z with ⟨i,j,_,z⟩ | ⟨j,_,z⟩
    · exact (h4 a).mpr ⟨j,z⟩
    · exact (h4 a).mpr ⟨j,z⟩
  · rcases z with ⟨j,z⟩ | z
    · rcases z with ⟨k',_,z⟩ | z
      · exact .inl (.inr ((b4 a).mpr ⟨k',z⟩))
      · exact .inr (fq.mpr ⟨j,z⟩)
    · exact .inl (.inl z)
  · obtain ⟨j,z⟩:=z;rcases z with ⟨k',_,z⟩ | z
    · exact n a w ((b4 a).mpr ⟨k',z⟩)
    · exact dB a (fq.mpr ⟨j,z⟩) (.inl w)
theorem LJ {s:Sig} (c:AA Γ as Γ' js) (hs:YI as s.io=true) (hn:as.length=s.ps.length) (nd:s.io.Nodup) (hio:∀ i∈s.io,i < s.ps.length) (hl:∀ i∈slots as s.io,Γ'[i]?=some (some 1)) {Q:VK}
    (h:tE K Γ s.ro Γ' (js++slots as s.io) (JO s as) σ H Q):BE K as σ H fun vs H1=>Jg K s vs H1 Q E0:=by
  obtain ⟨g,m,P,r,R,k,res,e,q⟩:=h;refine AL as r c e fun ds m1 g1 P1 vs H1 hk ag st ar r1=>?_
  rw [s.eq] at hk;obtain ⟨⟨d,bs⟩,e1,e2⟩:=bind_some' hk;exact QJ hs hn nd hio hl r1 ar e1 fun g2 P2 Pv v H2 st2 rv rz n=>q d _ g2 P2 Pv v H2 e2 (ag.trans (Rf _ bs m1)) (st.trans st2) rv rz n
mutual
noncomputable def nol:Dv->Bool
 | .non | .bl _ | .int _ | .str _=>true
 | .tup ds=>nols ds
 | _=>false
noncomputable def nols:List Dv->Bool
 | []=>true
 | d::ds=>nol d && nols ds
end
mutual
theorem JE {g':G}:∀ {o o':Nat} {d:Dv} {v:V} {Pv:Fp},Rep K g' H o d v Pv->nol d=true->Rep K g H o' d v nop
 | _,_,.non,_,_,h,_ | _,_,.bl _,_,_,h,_ | _,_,.int _,_,_,h,_ | _,_,.str _,_,_,h,_=>by unfold Rep at h ⊢;exact ⟨h.1,fun _ z=>z⟩
 | _,_,.tup ds,v,_,h,e=>by
  unfold Rep at h ⊢;obtain ⟨a,vs,e1,h1,h2⟩:=h;unfold nol at e;exact ⟨a,vs,e1,h1,Kb h2 e⟩
 | _,_,.lst _,_,_,_,e | _,_,.dct _ _,_,_,_,e | _,_,.ref _,_,_,_,e | _,_,.scr _,_,_,_,e | _,_,.ty _,_,_,_,e | _,_,.mtp _,_,_,_,e | _,_,.dtt _ _,_,_,_,e | _,_,.dnt _ _,_,_,_,e | _,_,.obj _ _ _ _,_,_,_,e=>by unfold nol at e;cases e
theorem Kb {g':G}:∀ {o o':Nat} {ds:List Dv} {vs:List V} {Pv:Fp},Reps K g' H o ds vs Pv->nols ds=true->Reps K g H o' ds vs nop
 | _,_,[],_,_,h,_=>by unfold Reps at h ⊢;exact ⟨h.1,fun _ z=>z⟩
 | _,_,d::ds,_,_,h,e=>by
  unfold Reps at h ⊢;obtain ⟨v,r,P1,P2,e1,h1,h2,_,_⟩:=h;unfold nols at e;rw [dL] at e;exact ⟨v,r,nop,nop,e1,JE h1 e.1,Kb h2 e.2,fun _ z=>z.elim,fun a=>⟨fun z=>z.elim,fun z=>z.elim id id⟩⟩
end
theorem AO.fz (r:Rel K g H Γ m σ P):∀ {as:List Ar} {ds:List Dv} {vs:List V},AO K g H Γ m σ as ds vs->Reps K (g.add P) H 0 ds vs nop
 | [],ds,vs,h=>by unfold AO at h;obtain ⟨rfl,rfl⟩:=h;exact Reps.nil
 | .ev _ _ _ f::as,ds,vs,h=>by
  unfold AO at h;obtain ⟨d,v,ds',vs',rfl,rfl,h1,h2⟩:=h;exact (Reps.cons (h1.freeze (P:=P) fun _ z=>z.elim) (AO.fz r h2) fun _ z=>z.elim).iff fun a=>⟨fun z=>z.elim,fun z=>z.elim id id⟩
 | .rf i::as,ds,vs,h=>by
  unfold AO at h;obtain ⟨v,ds',vs',rfl,rfl,h1,⟨o,_,ho⟩,h3⟩:=h;obtain ⟨v',P1,e,k,sb⟩:=r.see ho;rw [h1] at e;cases e;exact (Reps.cons (k.freeze (P:=P) sb) (AO.fz r h3) fun _ z=>z.elim).iff fun a=>⟨fun z=>z.elim,fun z=>z.elim id id⟩
 | .fd i f::as,ds,vs,h=>by
  unfold AO at h;obtain ⟨d,v,ds',vs',rfl,rfl,⟨h1,a,C,dx,fs,hv,ha,hlk⟩,⟨o,hl,ho⟩,h3⟩:=h;obtain ⟨v',P1,e,k,sb⟩:=r.see ho;rw [hv] at e;cases e;obtain ⟨a',C',dx',fs',w,Q1,Q2,ea,h1',_,_,hl',rw',_,hP,_⟩:=Cd k h1;cases ea;rw [ha] at h1';cases h1';rw [hlk] at hl';cases hl';exact (Reps.cons (rw'.freeze (P:=P) fun b z=>sb b ((hP b).mpr (.inl z))) (AO.fz r h3) fun _ z=>z.elim).iff fun a=>⟨fun z=>z.elim,fun z=>z.elim id id⟩
theorem Wj {n:Nat} {ds:List Dv} {vs:List V} (zd:Zd g H) (h:Reps K g H 0 ds vs nop) (hn:ds.length=n):Rel K g H (LW n []) ds (vs.map some) nop:=by
 refine ⟨zd,fun _=>nop,⟨by unfold LW;simp [hn],by unfold LW;simp [<- hn,h.len],fun i o e=>?_,fun i e a z=>z,fun i j n a z=>z.elim⟩,fun a=>⟨fun z=>z.elim,fun ⟨i,z⟩=>z⟩⟩;obtain ⟨hi,e⟩:=DK e;have eo:o=0:=(Option.some.inj e);subst eo;obtain ⟨v,_,ev,rv,_⟩:=h.get (kT (by omega:i < ds.length));exact ⟨_,v,kT (by omega),by rw [km,ev];rfl,rv.z⟩
def JN (s:Sig) (as:List Ar):Ev Dv:=fun R m k=>AQ as R m fun ds m1=>s.cps R ds fun d _=>bif nol d then k d m1 else none
theorem Pz {s:Sig} (c:AA Γ as Γ' js) (hs:s.io=[]) (hn:as.length=s.ps.length) {Q:VK} (h:tE K Γ 1 Γ' js (JN s as) σ H Q):BE K as σ H fun vs H1=>Jg K s vs H1 Q E0:=by
 obtain ⟨g,m,P,r,R,k,res,e,q⟩:=h;refine AL as r c e fun ds m1 g1 P1 vs H1 hk ag st ar r1=>?_
 rw [s.eq] at hk;obtain ⟨⟨d,bs⟩,e1,e2⟩:=bind_some' hk;cases c:nol d with
 | false=>simp only [c,cond_false] at e2;cases e2
 | true =>
  simp only [c,cond_true] at e2;have fs:Step g1 P1 H1 (g1.add P1) nop H1:=Step.freeze r1.fpOk;refine ⟨g1.add P1,ds,nop,by rw [hs];exact Wj (fs.zd r1.zd) (ar.fz r1) (ar.len.1.trans hn),d,bs,e1,fun g' H' v Pv Pb s2 rv _ _=>?_⟩;have sm:Je H1 H':=fun b o hb=>s2.keep b o hb fun z=>z
  exact q d m1 g1 P1 nop v H' e2 ag ((st.trans (Step.same sm)).less fun _ z=>z.elim id False.elim) (JE rv c) (r1.same sm) fun _ _ z=>z
end
end R
namespace L2
open PySem PySem.Spec PyProof.Rows
section
variable {X:Cx} {pins:List (Addr×Obj)} {σ:St} {H:Hp} {s:Shared} {a:Addr}
theorem Qg {H:Hp} {a:Addr} {o:HO} (e:H a=some o) (o':HO):upd (upd H a o') a o=H:=by
 funext b
 by_cases h:b=a
 ·subst h;rw [AF,e]
 ·rw [AD h,AD h]
theorem Inv.reT (I:Inv X pins σ H s) (e:H a=some (.dK [])):Inv X pins σ (upd H a (.dT [])) s:=by
 obtain ⟨_,hd,vs,rel,o,es,ep,h1,h2,h3,_,h4,_⟩:=Tt I.hok e;cases rel;have h4:es.toList=[]:=by generalize es.toList=l at h4;cases h4;rfl
 exact Cg (t':=s.toks) (h':=s.heap) I (by rw [e];exact True.intro) ⟨rfl,fun _ _=>rfl⟩ ⟨o,h1⟩ ⟨lg _,hd,[],.nil,o,es,ep,h1,h2,h3,h4,.nil⟩
theorem Inv.reK (I:Inv X pins σ (upd H a (.dT [])) s) (e:H a=some (.dK [])):Inv X pins σ H s:=by
 obtain ⟨_,hd,xs,rel,o,es,ep,h1,h2,h3,h4,_⟩:=Ys I.hok (AF (H:=H));cases rel;have h4:es.toList=[]:=h4;have:=Cg (t':=s.toks) (h':=s.heap) (ob:=.dK []) I (by rw [AF];exact True.intro) ⟨rfl,fun _ _=>rfl⟩ ⟨o,h1⟩ ⟨lg _,hd,[],.nil,o,es,ep,h1,h2,h3,fun x hx=>(by rw [<- Array.mem_toList_iff,h4] at hx;cases hx),(by rw [h4];exact .nil),.nil⟩;rw [Qg e] at this;exact this
end
def hV (H:Hp) (a:Addr) (y:V) (r:Option V):Prop:=De H a y r\/(r=none/\H a=some (.dK [])/\∃ (k:List AS) (b:Addr),y=.ref b/\H b=some (.tup (k.map kV)))
def hU (H:Hp) (a:Addr) (y v:V) (H':Hp):Prop:=Jf H a y v H'\/(H a=some (.dK [])/\∃ (k:List AS) (b:Addr),y=.ref b/\H b=some (.tup (k.map kV))/\H'=upd H a (.dT [(k,v)]))
theorem Ld {H:Hp} {a b:Addr} {k:List V} (e:H a=some (.dK [])) (eb:H b=some (.tup k)) (o:HO):upd H a o b=some (.tup k):=by
 rw [AD fun z=>by subst z;rw [e] at eb;cases eb];exact eb
section
variable {X:Cx}
def jd:R2:=fun x y H Q=>∃ a v,x=.ref a/\De H a y (some v)/\Q v H
theorem fU (hu:X.A.units+1 < cLine):ON X jd:=by
 intro value slice pins s σ H x y v u Q I rx ry h hs;obtain ⟨a,z,rfl,g,q⟩:=h;obtain rfl:v=Value.ref a:=rx;have hT:=Ky I g;have h2:=Pt (Q:=EP X pins σ Q) (E:=X.xe) (A:=X.A) hu I g ry fun w' s3 I3 rw'=>⟨z,H,I3,rw',q⟩
 unfold subscriptTail;refine wpAny_bind ?_;rw [getitemInPython_of_ne hT.not_modules];refine wpAny_bind (wpAny_specialOf hT PySem.F.slot_dict_getitem.lookup ?_);have fin:wpAny (model X.prog X.w) X.A (subscripted slice false (.ref a) u) (fun r s₃=>wpAny (model X.prog X.w) X.A (letTemporaryGo value (.ref a) r >>= fun _=>pure r) (EP X pins σ Q) X.xe s₃) X.xe s:=by
  rw [hs];exact wpAny_operating (wpAny_mono h2 (fun r s₃ h₃=>wpAny_bind (wpAny_letTemporaryGo (wpAny_pure h₃))) fun _ _ x=>x)
 first
  | exact wpAny_pure (wpAny_bind fin)
  | exact wpAny_bind (wpAny_pure (wpAny_bind fin))
  | exact wpAny_bind fin
def jZ:HW:=fun o i v H Q=>∃ a H',o=.ref a/\hU H a i v H'/\Q H'
theorem Zk (hu:X.A.units+1 < cLine):HZ X jZ:=by
 intro pins s σ H o i v ov iv u Q I ro ri rv h;obtain ⟨a,H',rfl,g,q⟩:=h;obtain rfl:ov=Value.ref a:=ro;rcases g with g | ⟨e,k,b,rfl,eb,rfl⟩
 ·exact IK hu I g ri rv fun s4 I4=>⟨H',I4,q⟩
 ·refine IK hu (I.reT e) (Jf.t AF (Ld e eb _) (by decide)) ri rv fun s4 I4=>⟨upd H a (.dT [(k,v)]),?_,q⟩
  have:upd (upd H a (.dT [])) a (.dT (Bu [] k v))=upd H a (.dT [(k,v)]):=by
   funext c
   by_cases h:c=a
   ·subst h;rw [AF,AF];rfl
   ·rw [AD h,AD h,AD h]
  rw [this] at I4;exact I4
theorem HZ.or {t t':HW} (h:HZ X t) (h':HZ X t'):HZ X (fun o i v H Q=>t o i v H Q\/t' o i v H Q):=by
 intro pins s σ H o i v ov iv u Q I ro ri rv q;rcases q with q | q
 ·exact h pins s σ H o i v ov iv u Q I ro ri rv q
 ·exact h' pins s σ H o i v ov iv u Q I ro ri rv q
def Zw (neg:Bool):R2:=fun y x H Q=>∃ a o,x=.ref a/\hV H a y o/\Q (.bl (if neg then !o.isSome else o.isSome)) H
theorem aj (hu:X.A.units+1 < cLine):Bq X (compareOp .In) (Zw false):=by
 intro pins s σ H y x u v Q I ry rx h;obtain ⟨a,o,rfl,g,q⟩:=h;obtain rfl:v=Value.ref a:=rx;rcases g with g | ⟨rfl,e,k,b,rfl,eb⟩
 ·exact gM hu I g ry fun s3 I3=>⟨.bl o.isSome,H,I3,rfl,q⟩
 ·exact gM hu (I.reT e) (De.t AF (Ld e eb _)) ry fun s3 I3=>⟨.bl false,H,I3.reK e,rfl,q⟩
theorem WY (hu:X.A.units+1 < cLine):Bq X (compareOp .NotIn) (Zw true):=by
 intro pins s σ H y x u v Q I ry rx h;obtain ⟨a,o,rfl,g,q⟩:=h;obtain rfl:v=Value.ref a:=rx;rcases g with g | ⟨rfl,e,k,b,rfl,eb⟩
 ·exact Nz hu I g ry fun s3 I3=>⟨.bl (!o.isSome),H,I3,rfl,q⟩
 ·exact Nz hu (I.reT e) (De.t AF (Ld e eb _)) ry fun s3 I3=>⟨.bl true,H,I3.reK e,rfl,q⟩
def YK:List V->Hp->VK->Prop:=fun xs H Q=>∃ a kvs,xs=[V.ref a]/\H a=some (.dK kvs)/\Q (.int kvs.length) H
theorem Mb:BD X (.builtin "len") YK:=QD
end
abbrev KN (H:Hp):List (NK AS×V)->List (NK AS×Addr×Value)->Prop:=Paired fun p q=>p.1=q.1/\LY H p.1 q.2.1/\RelV p.2 q.2.2
theorem KN.val {H:Hp} {kvs:List (NK AS×V)} {xs:List (NK AS×Addr×Value)} (r:KN H kvs xs) (k:NK AS):Cp (Bj kvs k) ((atKey xs k).map (·.2)):=by
 induction r with
 | nil=>exact True.intro
 | @cons p q ps qs h t ih =>
  obtain ⟨h1,_,h2⟩:=h
  by_cases e:p.1=k
  ·have e':q.1=k:=h1.symm.trans e;have b:atKey (q::qs) k=some q.2:=by simp [atKey,mI,e']
   rw [CD e,b];exact h2
  ·have e':¬ q.1=k:=fun z=>e (h1.trans z)
   have b:atKey (q::qs) k=atKey qs k:=by simp [atKey,mI,e']
   rw [CF e,b];exact ih
theorem KN.repl {H:Hp} {kvs:List (NK AS×V)} {xs:List (NK AS×Addr×Value)} (r:KN H kvs xs) (k:NK AS) {y:V} {u:Value} (ry:RelV y u) :
    KN H (kvs.map fun kv=>if kv.1=k then (kv.1,y) else kv) (xs.map (putAt k u)):=by
  induction r with
  | nil=>exact .nil
  | @cons p q ps qs h t ih =>
    rw [kj,kj];refine .cons ?_ ih;obtain ⟨h1,h2,h3⟩:=h;unfold putAt
    by_cases e:p.1=k
    · rw [if_pos e,if_pos (h1.symm.trans e)];exact ⟨h1,h2,ry⟩
    · rw [if_neg e,if_neg (fun z=>e (h1.trans z))];exact ⟨h1,h2,h3⟩
theorem KN.put {H:Hp} {kvs:List (NK AS×V)} {xs:List (NK AS×Addr×Value)} (r:KN H kvs xs) (k:NK AS) {b:Addr} {y:V} {u:Value} (hb:LY H k b) (ry:RelV y u) :
    KN H (Bu kvs k y) (storedH xs k b u):=by
  have e:(kvs.any fun kv=>decide (kv.1=k))=(atKey xs k).isSome:=by
    rw [Fv,(r.val k).isSome_eq,mQ]
  unfold Bu storedH;rw [e]
  by_cases q:(atKey xs k).isSome=true
  · rw [if_pos q,if_pos q];exact r.repl k ry
  · rw [if_neg q,if_neg q];exact Paired.snoc r ⟨rfl,hb,ry⟩
theorem KN.keeps {H H':Hp} {kvs:List (NK AS×V)} {xs:List (NK AS×Addr×Value)} (r:KN H kvs xs) (ht:∀ b ys,H b=some (.tup ys)->H' b=some (.tup ys)):KN H' kvs xs:=
 Paired.mapP r fun _ _ z=>⟨z.1,z.2.1.keeps ht,z.2.2⟩
section
variable {P:Program} {w:World} {H:Hp} {h:Heap} {a:Addr}
theorem MO (ok:DX P w H h):∀ {k:NK AS} {vs:List V} {its:List Value},VM H k vs->AC vs its->ItN (AN P w) h k its
 | [],_,its,e,r=>by
  have e:_=[]:=e;subst e;cases r;exact .nil
 | .inl k::ks,_,its,⟨r0,e,n⟩,r=>by
  subst e;cases r with
  | cons r1 r2=>exact .sc (IB r1) (MO ok n r2)
 | .inr t::ks,_,its,⟨c,r0,e,h1,n⟩,r=>by
  subst e;cases r with
  | cons r1 r2 =>
   cases (show _=Value.ref c from r1);exact .tp (FB ok h1) (MO ok n r2)
theorem EJ {k:NK AS} (ok:DX P w H h) (e:LY H k a):(BV (AN P w) (BF P w)).is h k a:=by
 obtain ⟨vs,e,n⟩:=e;obtain ⟨_,its,r,o,h1,h2,_,nn,h3⟩:=(show Aa P w H h a (.tup vs) from ok a _ e);exact ⟨o,its.toArray,nn,h1,h2,h3,by simpa using MO ok n r⟩
theorem II {kvs:List (NK AS×V)} (ok:DX P w H h) (e:H a=some (.dN kvs)):kvs.length<=sizeLine/\(a == sysModules)=false /\
    ∃ xs,KN H kvs xs/\h.DictOfH (BV (AN P w) (BF P w)) a xs:=by
  obtain ⟨z,y,xs,r,o,es,ep,h1,h2,h3,h4,h5⟩:=(show Aa P w H h a (.dN kvs) from ok a _ e);refine ⟨z,y,xs,r,o,es,ep,h1,h2,h3,h4,fun x hx=>?_,h5⟩;have all:∀ {l:List (NK AS×V)} {m:List (NK AS×Addr×Value)},KN H l m->∀ x∈m,(BV (AN P w) (BF P w)).is h x.1 x.2.1:=by
    intro l m q
    induction q with
    | nil=>intro x hx;exact nomatch hx
    | @cons p q ps qs hq t ih =>
      intro x hx;rcases kh.mp hx with e | hx
      · subst e;exact EJ ok (by rw [<- hq.1];exact hq.2.1)
      · exact ih x hx
  exact all r x hx
end
section
variable {X:Cx} {pins:List (Addr×Obj)} {σ:St} {H:Hp} {s:Shared} {a b:Addr} {v:V} {r:Value} {kvs:List (NK AS×V)} {k:NK AS} {A:Around} {E:Value->Shared->Prop}
theorem PD {Q:Value->Shared->Prop} (hu:A.units+2 < cLine) (I:Inv X pins σ H s) (e:H a=some (.dN kvs)) (eb:LY H k b) (l:Bj kvs k=some v) (h:∀ w' s',Inv X pins σ H s'->RelV v w'->Q w' s') :
    wpAny (model X.prog X.w) A (getItem (.ref a) (.ref b)) Q E s:=by
  obtain ⟨z,hd,xs,rel,dd⟩:=II I.hok e;obtain ⟨w',hw,rw'⟩:=Cp.some_of (v:=v) (o:=(atKey xs k).map (·.2)) (by rw [<- l];exact rel.val k);obtain ⟨p,hp,hp2⟩:=lH.mp hw;refine wpAny_getItem_heap (knd:=BV (AN X.prog X.w) (BF X.prog X.w)) (show A.in1.units+1 < cLine by show A.units+1+1 < cLine;omega) (EJ I.hok eb) dd hp ?_;rw [hp2];exact h w' _ (I.tok _) rw'
theorem fR {Q:Value->Shared->Prop} (hu:A.units+2 < cLine) (I:Inv X pins σ H s) (e:H a=some (.dN kvs)) (eb:LY H k b) (h:∀ s',Inv X pins σ H s'->Q (.bool (Bj kvs k).isSome) s') :
    wpAny (model X.prog X.w) A (compareOp .In (.ref b) (.ref a)) Q E s:=by
  obtain ⟨z,hd,xs,rel,dd⟩:=II I.hok e;refine wpAny_in_heap (knd:=BV (AN X.prog X.w) (BF X.prog X.w)) (show A.in1.units+1 < cLine by show A.units+1+1 < cLine;omega) (EJ I.hok eb) hd dd ?_;have q:=(rel.val k).isSome_eq;rw [mQ] at q;rw [<- q];exact h _ (I.tok _)
theorem NU {Q:Value->Shared->Prop} (hu:A.units+2 < cLine) (I:Inv X pins σ H s) (e:H a=some (.dN kvs)) (eb:LY H k b) (h:∀ s',Inv X pins σ H s'->Q (.bool (!(Bj kvs k).isSome)) s') :
    wpAny (model X.prog X.w) A (compareOp .NotIn (.ref b) (.ref a)) Q E s:=by
  obtain ⟨z,hd,xs,rel,dd⟩:=II I.hok e;refine wpAny_notIn_heap (knd:=BV (AN X.prog X.w) (BF X.prog X.w)) (show A.in1.units+1 < cLine by show A.units+1+1 < cLine;omega) (EJ I.hok eb) hd dd ?_;have q:=(rel.val k).isSome_eq;rw [mQ] at q;rw [<- q];exact h _ (I.tok _)
theorem Ht {Q:Unit->Shared->Prop} (hu:A.units+2 < cLine) (I:Inv X pins σ H s) (e:H a=some (.dN kvs)) (eb:LY H k b) (l:kvs.length < sizeLine) (rv:RelV v r) (h:∀ s',Inv X pins σ (upd H a (.dN (Bu kvs k v))) s'->Q () s') :
    wpAny (model X.prog X.w) A (setItem (.ref a) (.ref b) r) Q E s:=by
  obtain ⟨z,hd,xs,rel,dd⟩:=II I.hok e;have hz:xs.length<=sizeLine:=by rw [<- Paired.length rel];exact z
  have hl:(Bu kvs k v).length<=sizeLine:=by have:=Cw kvs k v;omega
  refine wpAny_setItem_heap (knd:=BV (AN X.prog X.w) (BF X.prog X.w)) (hsz:=hz) (show A.in1.units+1 < cLine by show A.units+1+1 < cLine;omega) (EJ I.hok eb) dd fun h' dd' hs=>h _ ?_
  obtain ⟨q,es,ep,hq,h2,h3,h4,_,h5⟩:=dd';refine Cg I (by rw [e];exact True.intro) hs ⟨q,hq⟩ ⟨hl,hd,_,(rel.put k eb rv).keeps fun c ys ec=>?_,q,es,ep,hq,h2,h3,h4,h5⟩;rw [AD (YX ec e (fun z=>nomatch z))];exact ec
theorem Inv.reN (I:Inv X pins σ H s) (e:H a=some (.dK [])):Inv X pins σ (upd H a (.dN [])) s:=by
 obtain ⟨_,hd,vs,rel,o,es,ep,h1,h2,h3,_,h4,_⟩:=Tt I.hok e;cases rel;have h4:es.toList=[]:=by generalize es.toList=l at h4;cases h4;rfl
 exact Cg (t':=s.toks) (h':=s.heap) I (by rw [e];exact True.intro) ⟨rfl,fun _ _=>rfl⟩ ⟨o,h1⟩ ⟨lg _,hd,[],.nil,o,es,ep,h1,h2,h3,h4,.nil⟩
theorem Inv.reNK (I:Inv X pins σ (upd H a (.dN [])) s) (e:H a=some (.dK [])):Inv X pins σ H s:=by
 obtain ⟨_,hd,xs,rel,o,es,ep,h1,h2,h3,h4,_⟩:=II I.hok (AF (H:=H));cases rel;have h4:es.toList=[]:=h4;have:=Cg (t':=s.toks) (h':=s.heap) (ob:=.dK []) I (by rw [AF];exact True.intro) ⟨rfl,fun _ _=>rfl⟩ ⟨o,h1⟩ ⟨lg _,hd,[],.nil,o,es,ep,h1,h2,h3,fun x hx=>(by rw [<- Array.mem_toList_iff,h4] at hx;cases hx),(by rw [h4];exact .nil),.nil⟩;rw [Qg e] at this;exact this
end
def gv (H:Hp) (a:Addr) (y:V) (r:Option V):Prop:=∃ k b,y=.ref b/\LY H k b/\((∃ kvs,H a=some (.dN kvs)/\r=Bj kvs k)\/H a=some (.dK [])/\r=none)
def jM (H:Hp) (a:Addr) (y v:V) (H':Hp):Prop:=∃ k b,y=.ref b/\LY H k b/\((∃ kvs,H a=some (.dN kvs)/\kvs.length < sizeLine/\H'=upd H a (.dN (Bu kvs k v)))\/H a=some (.dK [])/\H'=upd H a (.dN [(k,v)]))
theorem ME {H:Hp} {a:Addr} {k:NK AS} {b:Addr} (e:H a=some (.dK [])) (n:LY H k b) (o:HO):LY (upd H a o) k b:=n.keeps fun c xs ec=>by rw [AD fun z=>by subst z;rw [e] at ec;cases ec];exact ec
section
variable {X:Cx}
def jY:R2:=fun x y H Q=>∃ a v,x=.ref a/\gv H a y (some v)/\Q v H
theorem fT (hu:X.A.units+2 < cLine):ON X jY:=by
 intro value slice pins s σ H x y v u Q I rx ry h hs;obtain ⟨a,z,rfl,⟨k,b,rfl,eb,g⟩,q⟩:=h;obtain rfl:v=Value.ref a:=rx;obtain rfl:u=Value.ref b:=ry;obtain ⟨kvs,e,l⟩:∃ kvs,H a=some (.dN kvs)/\some z=Bj kvs k:=g.elim id fun h=>by cases h.2
 have hT:s.TypeIs (.ref a) "dict" := by
  obtain ⟨_,_,xs,_,dd⟩:=II I.hok e;exact dd.typeIs
 have h2:=PD (Q:=EP X pins σ Q) (E:=X.xe) (A:=X.A) hu I e eb l.symm fun w' s3 I3 rw'=>⟨z,H,I3,rw',q⟩
 unfold subscriptTail;refine wpAny_bind ?_;rw [getitemInPython_of_ne hT.not_modules];refine wpAny_bind (wpAny_specialOf hT PySem.F.slot_dict_getitem.lookup ?_);have fin:wpAny (model X.prog X.w) X.A (subscripted slice false (.ref a) (.ref b)) (fun r s₃=>wpAny (model X.prog X.w) X.A (letTemporaryGo value (.ref a) r >>= fun _=>pure r) (EP X pins σ Q) X.xe s₃) X.xe s:=by
  rw [hs];exact wpAny_operating (wpAny_mono h2 (fun r s₃ h₃=>wpAny_bind (wpAny_letTemporaryGo (wpAny_pure h₃))) fun _ _ x=>x)
 first
  | exact wpAny_pure (wpAny_bind fin)
  | exact wpAny_bind (wpAny_pure (wpAny_bind fin))
  | exact wpAny_bind fin
def jX:HW:=fun o i v H Q=>∃ a H',o=.ref a/\jM H a i v H'/\Q H'
theorem Zi (hu:X.A.units+2 < cLine):HZ X jX:=by
 intro pins s σ H o i v ov iv u Q I ro ri rv h;obtain ⟨a,H',rfl,⟨k,b,rfl,eb,g⟩,q⟩:=h;obtain rfl:ov=Value.ref a:=ro;obtain rfl:iv=Value.ref b:=ri;rcases g with ⟨kvs,e,hl,rfl⟩ | ⟨e,rfl⟩
 ·exact Ht hu I e eb hl rv fun s4 I4=>⟨_,I4,q⟩
 ·refine Ht hu (I.reN e) AF (ME e eb _) (by decide) rv fun s4 I4=>⟨upd H a (.dN [(k,v)]),?_,q⟩
  have:upd (upd H a (.dN [])) a (.dN (Bu [] k v))=upd H a (.dN [(k,v)]):=by
   funext c
   by_cases h:c=a
   ·subst h;rw [AF,AF];rfl
   ·rw [AD h,AD h,AD h]
  rw [this] at I4;exact I4
def Zt (neg:Bool):R2:=fun y x H Q=>∃ a o,x=.ref a/\gv H a y o/\Q (.bl (if neg then !o.isSome else o.isSome)) H
theorem aa (hu:X.A.units+2 < cLine):Bq X (compareOp .In) (Zt false):=by
 intro pins s σ H y x u v Q I ry rx h;obtain ⟨a,o,rfl,⟨k,b,rfl,eb,g⟩,q⟩:=h;obtain rfl:v=Value.ref a:=rx;obtain rfl:u=Value.ref b:=ry;rcases g with ⟨kvs,e,rfl⟩ | ⟨e,rfl⟩
 ·exact fR hu I e eb fun s3 I3=>⟨.bl (Bj kvs k).isSome,H,I3,rfl,q⟩
 ·exact fR hu (I.reN e) AF (ME e eb _) fun s3 I3=>⟨.bl false,H,I3.reNK e,rfl,q⟩
theorem WW (hu:X.A.units+2 < cLine):Bq X (compareOp .NotIn) (Zt true):=by
 intro pins s σ H y x u v Q I ry rx h;obtain ⟨a,o,rfl,⟨k,b,rfl,eb,g⟩,q⟩:=h;obtain rfl:v=Value.ref a:=rx;obtain rfl:u=Value.ref b:=ry;rcases g with ⟨kvs,e,rfl⟩ | ⟨e,rfl⟩
 ·exact NU hu I e eb fun s3 I3=>⟨.bl (!(Bj kvs k).isSome),H,I3,rfl,q⟩
 ·exact NU hu (I.reN e) AF (ME e eb _) fun s3 I3=>⟨.bl true,H,I3.reNK e,rfl,q⟩
end
end L2
namespace R
open PySem L2
def CN:Dv->Option AS
 | .int i=>some (.inl i)
 | .str l=>some (.inr (tx l))
 | _=>none
def Dh:List Dv->Option (List AS)
 | []=>some []
 | d::ds=>(CN d).bind fun k=>(Dh ds).bind fun ks=>some (k::ks)
def PV:Dv->Option (List AS)
 | .tup ds=>Dh ds
 | _=>none
section
variable {κ:Type} [DecidableEq κ]
noncomputable def Bl (k:κ):List κ->List Dv->Option Dv
 | j::ks,d::ds=>if j=k then some d else Bl k ks ds
 | _,_=>none
noncomputable def LA (k:κ) (ks:List κ):List κ:=if ks.any (fun j=>decide (j=k))=true then ks else ks++[k]
noncomputable def Pu (k:κ) (x:Dv):List κ->List Dv->List Dv
 | j::ks,d::ds=>(if j=k then x else d)::Pu k x ks ds
 | _,_=>[]
def Kz (k:κ) (x:Dv) (ks:List κ) (ds:List Dv):List Dv:=if ks.any (fun j=>decide (j=k))=true then Pu k x ks ds else ds++[x]
end
section
variable {K:W.Frag} {g:G} {H:Hp} {κ:Type} [DecidableEq κ]
theorem EH {o:Nat} {d:Dv} {v:V} {P:Fp} {k:AS} (h:Rep K g H o d v P) (e:CN d=some k):v=kV k:=by
 cases d with
 | int i=>cases e;unfold Rep at h;exact h.1
 | str l=>cases e;unfold Rep at h;exact h.1
 | _=>cases e
theorem ER {k:κ}:∀ {ks:List κ} {ds:List Dv} {us:List V} {R:Fp} {d:Dv},Reps K g H 0 ds us R->Bl k ks ds=some d->∃ v,Bj (ks.zip us) k=some v/\Rep K g H 0 d v nop
 | [],ds,us,R,d,_,e=>by cases ds<;>cases e
 | j::ks,[],us,R,d,_,e=>by cases e
 | j::ks,x::ds,us,R,d,h,e=>by
  unfold Reps at h;obtain ⟨v,r,P1,P2,rfl,h1,h2,_⟩:=h;unfold Bl at e;split at e
  ·rename_i c;cases e;exact ⟨v,by rw [lU];exact CD c,h1.z⟩
  ·rename_i c;obtain ⟨w,e1,e2⟩:=ER h2 e;exact ⟨w,by rw [lU,CF c];exact e1,e2⟩
theorem DS {k:κ}:∀ {ks:List κ} {ds:List Dv} {us:List V},ks.length=ds.length->ds.length=us.length->(Bj (ks.zip us) k).isSome=(Bl k ks ds).isSome
 | [],[],_,_,_=>rfl
 | j::ks,d::ds,[],_,h=>by cases h
 | j::ks,d::ds,u::us,h1,h2=>by
  have ih:=DS (k:=k) (ks:=ks) (ds:=ds) (us:=us) (by simpa using h1) (by simpa using h2);rw [lU];unfold Bl
  by_cases c:j=k
  ·rw [CD (p:=(j,u)) c,if_pos c];rfl
  ·rw [CF (p:=(j,u)) c,if_neg c];exact ih
theorem HA {k:κ} {x:Dv} {w:V} {ks:List κ} {ds:List Dv} {us:List V} {R:Fp} (hl:ks.length=ds.length) (h:Reps K g H 0 ds us R) (hx:Rep K g H 0 x w nop) :
    ∃ us',Bu (ks.zip us) k w=(LA k ks).zip us'/\Reps K g H 0 (Kz k x ks ds) us' nop/\(LA k ks).length=(Kz k x ks ds).length:=by
  have hl2:ks.length=us.length:=by rw [hl,h.len]
  have any_eq:∀ {ks:List κ} {us:List V},ks.length=us.length->((ks.zip us).any fun kv=>decide (kv.1=k))=ks.any fun j=>decide (j=k):=fun {ks us} h=>by
    induction ks generalizing us with
    | nil=>rfl
    | cons j ks ih =>
      cases us with
      | nil=>cases h
      | cons u us=>rw [lU,lu,lu,ih (by simpa using h)]
  unfold Bu LA Kz;rw [any_eq hl2]
  by_cases c:(ks.any fun j=>decide (j=k))=true
  · rw [if_pos c,if_pos c,if_pos c];have:∀ {ks:List κ} {ds:List Dv} {us:List V} {R:Fp},ks.length=ds.length->Reps K g H 0 ds us R->∃ us',((ks.zip us).map fun kv=>if kv.1=k then (kv.1,w) else kv)=ks.zip us'/\Reps K g H 0 (Pu k x ks ds) us' nop/\ks.length=(Pu k x ks ds).length:=fun {ks ds us R} hl h=>by
      induction ks generalizing ds us R with
      | nil=>exact ⟨[],by simp,by cases ds<;>exact Reps.nil,by cases ds<;>rfl⟩
      | cons j ks ih =>
        cases ds with
        | nil=>cases hl
        | cons d ds =>
          unfold Reps at h;obtain ⟨v,r,P1,P2,rfl,h1,h2,_⟩:=h;obtain ⟨us',e1,e2,e3⟩:=ih (by simpa using hl) h2;refine ⟨(if j=k then w else v)::us',?_,?_,by simp [Pu];omega⟩
          · rw [lU,kj,lU,e1]
            by_cases q:j=k<;>simp [q]
          · unfold Pu;refine ((Reps.cons (P1:=nop) (P2:=nop) ?_ e2 (fun _ z=>z.elim)).iff fun a=>⟨fun z=>z.elim,fun z=>z.elim id id⟩)
            by_cases q:j=k
            · rw [if_pos q,if_pos q];exact hx
            · rw [if_neg q,if_neg q];exact h1.z
    exact this hl h
  · rw [if_neg c,if_neg c,if_neg c];refine ⟨us++[w],?_,?_,by simp [hl]⟩
    · rw [List.zip_append hl2];rfl
    · exact (Reps.app (P:=nop) (Q:=nop) h.z ((Reps.cons (P1:=nop) (P2:=nop) hx Reps.nil fun _ z=>z.elim).iff fun a=>⟨fun z=>z.elim,fun z=>z.elim id id⟩) fun _ z=>z.elim).iff fun a=>⟨fun z=>z.elim,fun z=>z.elim id id⟩
theorem Tw {o:Nat} {ks:List AS} {ds:List Dv} {v:V} {P:Fp} (h:Rep K g H o (.dct ks ds) v P):∃ a us,v=.ref a/\H a=some (.dK (ks.zip us))/\ks.length=ds.length/\Reps K g H 0 ds us nop:=by
 unfold Rep at h;obtain ⟨a,us,e,h1,_,_,⟨h5,R,h6⟩,_⟩:=h;exact ⟨a,us,e,h1,h5,h6.z⟩
theorem WU {ks:List AS} {ds:List Dv} {v:V} {P:Fp} (h:Rep K g H 1 (.dct ks ds) v P):∃ a us,v=.ref a/\H a=some (.dK (ks.zip us))/\ks.length=ds.length/\Reps K g H 0 ds us nop /\
    ∀ ks' ds' us',ks'.length=ds'.length->Reps K g H 0 ds' us' nop->Step g P H g P (upd H a (.dK (ks'.zip us')))/\Rep K g (upd H a (.dK (ks'.zip us'))) 1 (.dct ks' ds') (.ref a) P:=by
  have ok:=h.fpOk;unfold Rep at h;obtain ⟨a,us,e,h1,h2,h3,⟨h5,R,h6⟩,h4⟩:=h;have pa:P a:=(h4 a).mpr ⟨by decide,rfl⟩;refine ⟨a,us,e,h1,h5,h6.z,fun ks' ds' us' hl hr=>?_⟩;have st:Step g P H g P (upd H a (.dK (ks'.zip us'))):=by
    refine ⟨fun b o hb n=>?_,fun b hb=>?_,fun _ z=>z,fun _ z=>.inl z,⟨[],by simp⟩,fun _ z=>.inl z,fun z b hb q=>?_,Do h1 (fun _ _ _ z=>by cases z)⟩
    · unfold upd;rw [if_neg fun e=>n (by rw [e];exact pa)];exact hb
    · unfold upd at hb;split at hb
      · cases hb
      · exact hb
    · unfold upd at q;split at q
      · cases q
      · exact z b hb q
  refine ⟨st,?_⟩;unfold Rep;exact ⟨a,us',rfl,by unfold upd;rw [if_pos rfl],(fun z=>(nC z).elim),(fun _=>h3 (by decide)),⟨hl,nop,hr.held st ok fun _ z=>z.elim⟩,h4⟩
theorem gJ {o:Nat} {ks:List (List AS)} {ds:List Dv} {v:V} {P:Fp} (h:Rep K g H o (.dtt ks ds) v P):∃ a us,v=.ref a/\H a=some (.dT (ks.zip us))/\ks.length=ds.length/\Reps K g H 0 ds us nop:=by
 unfold Rep at h;obtain ⟨a,us,e,h1,_,_,⟨h5,R,h6⟩,_⟩:=h;exact ⟨a,us,e,h1,h5,h6.z⟩
theorem WS {ks:List (List AS)} {ds:List Dv} {v:V} {P:Fp} (h:Rep K g H 1 (.dtt ks ds) v P):∃ a us,v=.ref a/\H a=some (.dT (ks.zip us))/\ks.length=ds.length/\Reps K g H 0 ds us nop /\
    ∀ (ks':List (List AS)) ds' us',ks'.length=ds'.length->Reps K g H 0 ds' us' nop->Step g P H g P (upd H a (.dT (ks'.zip us')))/\Rep K g (upd H a (.dT (ks'.zip us'))) 1 (.dtt ks' ds') (.ref a) P:=by
  have ok:=h.fpOk;unfold Rep at h;obtain ⟨a,us,e,h1,h2,h3,⟨h5,R,h6⟩,h4⟩:=h;have pa:P a:=(h4 a).mpr ⟨by decide,rfl⟩;refine ⟨a,us,e,h1,h5,h6.z,fun ks' ds' us' hl hr=>?_⟩;have st:Step g P H g P (upd H a (.dT (ks'.zip us'))):=by
    refine ⟨fun b o hb n=>?_,fun b hb=>?_,fun _ z=>z,fun _ z=>.inl z,⟨[],by simp⟩,fun _ z=>.inl z,fun z b hb q=>?_,Do h1 (fun _ _ _ z=>by cases z)⟩
    · unfold upd;rw [if_neg fun e=>n (by rw [e];exact pa)];exact hb
    · unfold upd at hb;split at hb
      · cases hb
      · exact hb
    · unfold upd at q;split at q
      · cases q
      · exact z b hb q
  refine ⟨st,?_⟩;unfold Rep;exact ⟨a,us',rfl,by unfold upd;rw [if_pos rfl],(fun z=>(nC z).elim),(fun _=>h3 (by decide)),⟨hl,nop,hr.held st ok fun _ z=>z.elim⟩,h4⟩
theorem Reps.any0:∀ {o:Nat} {ds:List Dv} {vs:List V} {P:Fp} {ks:List AS},Reps K g H o ds vs P->Dh ds=some ks->vs=ks.map kV
 | o,[],vs,P,ks,h,e=>by cases e;unfold Reps at h;exact h.1
 | o,d::ds,vs,P,ks,h,e=>by
  unfold Reps at h;obtain ⟨v,r,P1,P2,rfl,h1,h2,_⟩:=h;unfold Dh at e;cases e1:CN d with
  | none=>rw [e1] at e;cases e
  | some k =>
   cases e2:Dh ds with
   | none=>rw [e1,e2] at e;cases e
   | some ks' =>
    rw [e1,e2] at e;cases e;rw [EH h1 e1,Reps.any0 h2 e2];rfl
theorem EI {o:Nat} {d:Dv} {v:V} {P:Fp} {k:List AS} (h:Rep K g H o d v P) (e:PV d=some k):∃ b,v=.ref b/\H b=some (.tup (k.map kV)):=by
 cases d with
 | tup ds =>
  unfold Rep at h;obtain ⟨b,vs,rfl,h1,h2⟩:=h;rw [Reps.any0 h2 e] at h1;exact ⟨b,rfl,h1⟩
 | _=>cases e
theorem gK {o:Nat} {ks:List (NK AS)} {ds:List Dv} {v:V} {P:Fp} (h:Rep K g H o (.dnt ks ds) v P):∃ a us,v=.ref a/\H a=some (.dN (ks.zip us))/\ks.length=ds.length/\Reps K g H 0 ds us nop:=by
 unfold Rep at h;obtain ⟨a,us,e,h1,_,_,⟨h5,R,h6⟩,_⟩:=h;exact ⟨a,us,e,h1,h5,h6.z⟩
theorem WT {ks:List (NK AS)} {ds:List Dv} {v:V} {P:Fp} (h:Rep K g H 1 (.dnt ks ds) v P):∃ a us,v=.ref a/\H a=some (.dN (ks.zip us))/\ks.length=ds.length/\Reps K g H 0 ds us nop /\
    ∀ (ks':List (NK AS)) ds' us',ks'.length=ds'.length->Reps K g H 0 ds' us' nop->Step g P H g P (upd H a (.dN (ks'.zip us')))/\Rep K g (upd H a (.dN (ks'.zip us'))) 1 (.dnt ks' ds') (.ref a) P:=by
  have ok:=h.fpOk;unfold Rep at h;obtain ⟨a,us,e,h1,h2,h3,⟨h5,R,h6⟩,h4⟩:=h;have pa:P a:=(h4 a).mpr ⟨by decide,rfl⟩;refine ⟨a,us,e,h1,h5,h6.z,fun ks' ds' us' hl hr=>?_⟩;have st:Step g P H g P (upd H a (.dN (ks'.zip us'))):=by
    refine ⟨fun b o hb n=>?_,fun b hb=>?_,fun _ z=>z,fun _ z=>.inl z,⟨[],by simp⟩,fun _ z=>.inl z,fun z b hb q=>?_,Do h1 (fun _ _ _ z=>by cases z)⟩
    · unfold upd;rw [if_neg fun e=>n (by rw [e];exact pa)];exact hb
    · unfold upd at hb;split at hb
      · cases hb
      · exact hb
    · unfold upd at q;split at q
      · cases q
      · exact z b hb q
  refine ⟨st,?_⟩;unfold Rep;exact ⟨a,us',rfl,by unfold upd;rw [if_pos rfl],(fun z=>(nC z).elim),(fun _=>h3 (by decide)),⟨hl,nop,hr.held st ok fun _ z=>z.elim⟩,h4⟩
def Hz:List Dv->Option (NK AS)
 | []=>some []
 | d::ds=>((CN d).map Sum.inl |>.or ((PV d).map Sum.inr)).bind fun k=>(Hz ds).bind fun ks=>some (k::ks)
def MM:Dv->Option (NK AS)
 | .tup ds=>Hz ds
 | _=>none
theorem FA:∀ {o:Nat} {ds:List Dv} {vs:List V} {P:Fp} {k:NK AS},Reps K g H o ds vs P->Hz ds=some k->VM H k vs
 | o,[],vs,P,ks,h,e=>by cases e;unfold Reps at h;exact h.1
 | o,d::ds,vs,P,ks,h,e=>by
  unfold Reps at h;obtain ⟨v,r,P1,P2,rfl,h1,h2,_⟩:=h;unfold Hz at e;obtain ⟨k,e1,e⟩:=la.mp e;obtain ⟨ks',e2,e⟩:=la.mp e;cases e;rcases nA.mp e1 with e1 | ⟨_,e1⟩
  ·obtain ⟨x,ex,rfl⟩:=lH.mp e1;exact ⟨r,by rw [EH h1 ex],FA h2 e2⟩
  ·obtain ⟨x,ex,rfl⟩:=lH.mp e1;obtain ⟨b,rfl,hb⟩:=EI h1 ex;exact ⟨b,r,rfl,hb,FA h2 e2⟩
theorem Cy {o:Nat} {d:Dv} {v:V} {P:Fp} {k:NK AS} (h:Rep K g H o d v P) (e:MM d=some k):∃ b,v=.ref b/\LY H k b:=by
 cases d with
 | tup ds =>
  unfold Rep at h;obtain ⟨b,vs,rfl,h1,h2⟩:=h;exact ⟨b,rfl,vs,h1,FA h2 e⟩
 | _=>cases e
theorem Ow {ds:List Dv} {v:V} {P:Fp} (h:Rep K g H 1 (.dct [] ds) v P):∃ a,v=.ref a/\H a=some (.dK []) /\
    ∀ (ks':List (NK AS)) ds' us',ks'.length=ds'.length->Reps K g H 0 ds' us' nop->Step g P H g P (upd H a (.dN (ks'.zip us')))/\Rep K g (upd H a (.dN (ks'.zip us'))) 1 (.dnt ks' ds') (.ref a) P:=by
  have ok:=h.fpOk;unfold Rep at h;obtain ⟨a,us,e,h1,h2,h3,⟨h5,R,h6⟩,h4⟩:=h;have pa:P a:=(h4 a).mpr ⟨by decide,rfl⟩;refine ⟨a,e,h1,fun ks' ds' us' hl hr=>?_⟩;have st:Step g P H g P (upd H a (.dN (ks'.zip us'))):=by
    refine ⟨fun b o hb n=>?_,fun b hb=>?_,fun _ z=>z,fun _ z=>.inl z,⟨[],by simp⟩,fun _ z=>.inl z,fun z b hb q=>?_,Do h1 (fun _ _ _ z=>by cases z)⟩
    · unfold upd;rw [if_neg fun e=>n (by rw [e];exact pa)];exact hb
    · unfold upd at hb;split at hb
      · cases hb
      · exact hb
    · unfold upd at q;split at q
      · cases q
      · exact z b hb q
  refine ⟨st,?_⟩;unfold Rep;exact ⟨a,us',rfl,by unfold upd;rw [if_pos rfl],(fun z=>(nC z).elim),(fun _=>h3 (by decide)),⟨hl,nop,hr.held st ok fun _ z=>z.elim⟩,h4⟩
end
noncomputable abbrev Mu:=Dv->List Dv->Option (Dv×Dv)
def QX (K:W.Frag) (p:Mu) (R:V->List V->Hp->VK->Prop):Prop:=∀ g H x v P ds us r y Q,Zd g H->Rep K g H 1 x v P->Reps K g H 0 ds us nop->p x ds=some (r,y) ->
 (∀ w H' P',Step g P H g P' H'->Rep K g H' 1 y v P'->Rep K g H' 0 r w nop->Q w H')->R v us H Q
noncomputable def kind:Dv->String
 | .lst _ => "list"
 | .scr _ => "list"
 | .str _ => "str"
 | .int _ => "int"
 | .dtt _ _ => "dict"
 | .dct _ _ => "dict"
 | .tup _ => "tuple"
 | _ => "?"
def EK {α:Type} (T:String) (d:Dv) (o:Option α):Option α:=if kind d=T then o else none
theorem CO {α:Type} {T:String} {d:Dv} {o:Option α} {a:α} (h:EK T d o=some a):kind d=T/\o=some a:=by
 unfold EK at h;split at h
 ·rename_i z;exact ⟨z,h⟩
 ·cases h
def TR (T:String) (i:Nat) (p:Mu) (fa:Ev (List Dv)):Ev Dv:=fun R m k=>EK T (m.at i) (fa R m fun ds m1=>(p (m1.at i) ds).bind fun r=>k r.1 (m1.set i r.2))
section
variable {K:W.Frag} {g:G} {H:Hp} {σ:St} {Γ Γ':Gm} {js:List Nat} {as:List Ar}
theorem Ig {o:Nat} {d:Dv} {v:V} {P:Fp} {T:String} (h:Rep K g H o d v P) (e:kind d=T) (hT:T = "list" \/ T = "str" \/ T = "int" \/ T = "dict"):hZ K T v H:=by
 subst e;cases d with
 | lst ds=>unfold Rep at h;obtain ⟨a,vs,P',rfl,h1,_⟩:=h;exact .inl ⟨rfl,vs,.inl (.inl h1.1)⟩
 | scr ns=>unfold Rep at h;obtain ⟨⟨a,rfl,h1⟩,_⟩:=h;exact .inl ⟨rfl,_,h1.sq⟩
 | str l=>unfold Rep at h;rw [h.1];rfl
 | int i=>unfold Rep at h;rw [h.1];rfl
 | dtt ks l=>unfold Rep at h;obtain ⟨a,vs,rfl,h1,_⟩:=h;exact .inr (.inr (.inl ⟨rfl,.inr ⟨_,h1⟩⟩))
 | dct ks l=>unfold Rep at h;obtain ⟨a,vs,rfl,h1,_⟩:=h;exact .inr (.inr (.inl ⟨rfl,.inl ⟨_,h1⟩⟩))
 | _=>rcases hT with h | h | h | h<;>simp [kind] at h
theorem Wf {T:String} {i:Nat} {p:Mu} {R:V->List V->Hp->VK->Prop} (hR:QX K p R) (hT:T = "list" \/ T = "str" \/ T = "int" \/ T = "dict") (c:AA Γ as Γ' js) (he:evd as=true) (h0:∃ o,Γ[i]?=some (some o)) (hi:Γ'[i]?=some (some 1)) {Q:VK}
    (h:tE K Γ 0 Γ' (js++[i]) (TR T i p (AQ as)) σ H Q):ZZ K T R (Co i) (BE K as) σ H Q:=by
  obtain ⟨g,m,P,r,R',k,res,e,q⟩:=h;obtain ⟨e0,e⟩:=CO e;obtain ⟨o0,h0⟩:=h0;obtain ⟨v0,P0,ev0,rv0,_⟩:=r.see h0;refine ⟨v0,ev0,Ig rv0 e0 hT,AL as r c e fun ds m1 g1 P1 vs H1 hk ag s ar r1=>?_⟩;obtain ⟨⟨rs,y⟩,e1,e2⟩:=bind_some' hk;obtain ⟨v,Pa,Pr,ev,em,rv,r2,n,hP⟩:=r1.take hi;rw [ev0] at ev;cases ev;refine hR g1 H1 _ v0 Pa ds vs rs y Q r1.zd rv (ar.reps he) e1 fun w H2 P' s2 ry rr=>?_
  have r3:=r2.held s2 rv.fpOk fun a q z=>n a z q
  have n3:=s2.out r2.fpOk fun a q z=>n a z q
  have hil:i < Γ'.length:=(kU.mp hi).1;obtain ⟨P4,r4,sp⟩:=r3.putIn hil ev0 ry fun a q z=>n3 a z q
  rw [CH hi] at r4;refine q rs _ g1 P4 nop w H2 e2 (ag.trans BI.set) (s.trans ((s2.frame (R:=Pr)).sub (fun a z=>(hP a).mpr z) fun a z=>z.elim (fun z=>sp a z) False.elim)) rr r4 fun _ _ z=>z
theorem Step.upd {a:Addr} {o u:HO} {P':Fp} (h:H a=some u) (nu:∀ C dx fs,u≠.ins C dx fs) (hs:∀ b,P' b->b=a\/H b=none):Step g (fun b=>b=a) H g P' (upd H a o):=by
 have dm:∀ b,L2.upd H a o b=none->H b=none:=fun b q=>by
  by_cases hb:b=a
  ·subst hb;rw [AF] at q;cases q
  ·rw [AD hb] at q;exact q
 exact ⟨fun b u q n=>by rw [AD n];exact q,dm,fun _ q=>q,fun _ q=>.inl q,⟨[],by simp⟩,hs,fun z b q e=>z b q (dm b e),Do h nu⟩
theorem EE {xs:List Dv} {v:V} {P:Fp} (h:Rep K g H 1 (.lst xs) v P):∃ a vs,v=.ref a/\H a=some (.lst vs)/\¬ g.Z a/\Reps K g H 0 xs vs nop/\(∀ b,P b↔b=a) /\
    ∀ ws,Step g P H g P (upd H a (.lst ws))/\(∀ {d:Dv} {u:V},Rep K g H 0 d u nop->Rep K g (upd H a (.lst ws)) 0 d u nop)/\∀ ys,Reps K g H 0 ys ws nop->Rep K g (upd H a (.lst ws)) 1 (.lst ys) (.ref a) P:=by
  unfold Rep at h;obtain ⟨a,vs,P',rfl,h1,h2,h3,h5⟩:=h;have hP:∀ b,P b↔b=a:=fun b=>by rw [h5 b];exact ⟨fun z=>z.elim (fun z=>z.2) fun z=>(h2.none0 b z).elim,fun z=>.inl ⟨by decide,z⟩⟩
  have eP:P=fun b=>b=a:=funext fun b=>propext (hP b)
  have hz:=h1.2.2 (by decide);have oka:FpOk g H fun b=>b=a:=fun b q=>by subst q;exact ⟨by rw [h1.1];trivial,hz⟩
  refine ⟨a,vs,rfl,h1.1,hz,h2.z,hP,fun ws=>?_⟩;have st:Step g (fun b=>b=a) H g (fun b=>b=a) (upd H a (.lst ws)):=Step.upd h1.1 (fun _ _ _ z=>by cases z) fun b z=>.inl z
  refine ⟨by rw [eP];exact st,fun r=>r.held st oka fun _ z=>z.elim,fun ys r=>?_⟩;unfold Rep;exact ⟨a,ws,nop,rfl,⟨AF,(fun z=>by cases z),fun _=>hz⟩,r.held st oka fun _ z=>z.elim,fun z=>z,fun b=>by rw [hP b];exact ⟨fun z=>.inl ⟨by decide,z⟩,fun z=>z.elim (fun z=>z.2) False.elim⟩⟩
theorem CK:∀ {ds:List Dv} {vs:List V},Reps K g H 0 ds vs nop↔ds.length=vs.length/\∀ (i:Nat) (d:Dv) (v:V),ds[i]?=some d->vs[i]?=some v->Rep K g H 0 d v nop
 | [],vs=>⟨fun h=>⟨h.len,fun i d v e=>by simp at e⟩,fun h=>by
  have:vs=[]:=lM h.1.symm;subst this;exact Reps.nil⟩
 | x::xs,vs=>by
  refine ⟨fun h=>⟨h.len,fun i d v e1 e2=>?_⟩,fun h=>?_⟩
  ·obtain ⟨v',P,e',r,_⟩:=h.get e1;rw [e2] at e';cases e';exact r.z
  ·cases vs with
   | nil=>simp at h
   | cons v vs =>
    exact (Reps.cons (h.2 0 x v rfl rfl) (CK.mpr ⟨by simpa using h.1,fun i d u e1 e2=>h.2 (i+1) d u (by simpa using e1) (by simpa using e2)⟩) fun _ z=>z.elim).iff fun a=>⟨fun z=>z.elim,fun z=>z.elim id id⟩
theorem BM {ds es:List Dv} {vs us:List V} (h:Reps K g H 0 ds vs nop) (k:Reps K g H 0 es us nop):Reps K g H 0 (ds++es) (vs++us) nop:=(Reps.app h k fun _ z=>z.elim).iff fun a=>⟨fun z=>z.elim,fun z=>z.elim id id⟩
theorem Ek {d:Dv} {v:V} (h:Rep K g H 0 d v nop):Reps K g H 0 [d] [v] nop:=(Reps.cons h Reps.nil fun _ z=>z.elim).iff fun a=>⟨fun z=>z.elim,fun z=>z.elim id id⟩
theorem BC {d:Dv} {ds:List Dv} {vs:List V} (h:Reps K g H 0 (d::ds) vs nop):∃ v us,vs=v::us/\Rep K g H 0 d v nop/\Reps K g H 0 ds us nop:=by
 unfold Reps at h;obtain ⟨v,r,P1,P2,rfl,h1,h2,_⟩:=h;exact ⟨v,r,rfl,h1.z,h2.z⟩
theorem Ay {vs:List V} (h:Reps K g H 0 [] vs nop):vs=[]:=by unfold Reps at h;exact h.1
theorem Oi {ds:List Dv} {vs:List V} {d:Dv} {v:V} (j:Nat) (h:Reps K g H 0 ds vs nop) (r:Rep K g H 0 d v nop):Reps K g H 0 (ds.set j d) (vs.set j v) nop:=by
 have h0:=CK.mp h;refine CK.mpr ⟨by simp [h0.1],fun i x y e1 e2=>?_⟩;rcases DI e1 with ⟨rfl,rfl⟩ | ⟨n,e1⟩
 ·rcases DI e2 with ⟨_,rfl⟩ | ⟨n,_⟩
  ·exact r
  ·exact (n rfl).elim
 ·rcases DI e2 with ⟨z,_⟩ | ⟨_,e2⟩
  ·exact (n z).elim
  ·exact h0.2 i x y e1 e2
theorem DM {o:Nat}:Rep K g H o .non .non nop:=by unfold Rep;exact ⟨rfl,fun _ z=>z⟩
noncomputable def Ad (x:Dv) (ds:List Dv):Option (Dv×Dv):=match x,ds with
 | .lst xs,[d]=>if xs.length<=1000000 then some (.non,.lst (xs++[d])) else none
 | _,_=>none
noncomputable def QV (x:Dv) (ds:List Dv):Option (Dv×Dv):=match x,ds with
 | .lst xs,[]=>match xs.getLast? with
  | some d=>some (d,.lst xs.dropLast)
  | none=>none
 | _,_=>none
noncomputable def DV (x:Dv) (ds:List Dv):Option (Dv×Dv):=match x,ds with
 | .lst xs,[.lst ys]=>if xs.length+ys.length<=1000000 then some (.non,.lst (xs++ys)) else none
 | .lst xs,[.tup ys]=>if xs.length+ys.length<=1000000 then some (.non,.lst (xs++ys)) else none
 | _,_=>none
theorem PH:QX K Ad NM:=fun g H x v P ds us r y Q zd rx rd e k=>by
 unfold Ad at e;split at e
 ·rename_i xs d;split at e
  ·rename_i hl;cases e;obtain ⟨a,vs,rfl,ha,hz,hx,hP,go⟩:=EE rx;obtain ⟨u,us',rfl,hu,h2⟩:=BC rd;cases Ay h2;obtain ⟨s,hd,mk⟩:=go (vs++[u]);exact ⟨a,vs,u,rfl,rfl,ha,nP (by rw [<- hx.len];exact hl) (by decide),k _ _ P s (mk _ (BM hx (Ek hu))) DM⟩
  ·cases e
 ·cases e
theorem bB:QX K QV eJ:=fun g H x v P ds us r y Q zd rx rd e k=>by
 unfold QV at e;split at e
 ·rename_i xs;split at e
  ·rename_i d el;cases e;obtain ⟨a,vs,rfl,ha,hz,hx,hP,go⟩:=EE rx;cases Ay rd;obtain ⟨s,hd,mk⟩:=go vs.dropLast;have h0:=CK.mp hx;rw [List.getLast?_eq_getElem?] at el;obtain ⟨u,P1,e2,r2,_⟩:=hx.get el;refine ⟨a,vs,u,rfl,rfl,ha,by rw [<- h0.1];exact e2,k _ _ P s (mk _ ?_) (hd r2.z)⟩;refine CK.mpr ⟨by simp [h0.1],fun i d v e3 e4=>?_⟩;rw [List.getElem?_dropLast] at e3 e4;split at e3
   ·split at e4
    ·exact h0.2 i d v e3 e4
    ·cases e4
   ·cases e3
  ·cases e
 ·cases e
theorem PF:QX K DV (fun x vs H Q=>NL x vs H Q\/KL x vs H Q):=fun g H x v P ds us r y Q zd rx rd e k=>by
 unfold DV at e;split at e
 ·rename_i xs ys;split at e
  ·rename_i hl;cases e;obtain ⟨a,vs,rfl,ha,hz,hx,hP,go⟩:=EE rx;obtain ⟨u,us',rfl,hu,h2⟩:=BC rd;cases Ay h2;unfold Rep at hu;obtain ⟨b,ws,P',rfl,h1,h3,_⟩:=hu;obtain ⟨s,hd,mk⟩:=go (vs++ws);exact .inl ⟨a,b,vs,ws,rfl,rfl,ha,h1.1,kr (by rw [<- hx.len,<- h3.len];exact hl) (by decide),k _ _ P s (mk _ (BM hx h3.z)) DM⟩
  ·cases e
 ·rename_i xs ys;split at e
  ·rename_i hl;cases e;obtain ⟨a,vs,rfl,ha,hz,hx,hP,go⟩:=EE rx;obtain ⟨u,us',rfl,hu,h2⟩:=BC rd;cases Ay h2;unfold Rep at hu;obtain ⟨b,ws,rfl,h1,h3⟩:=hu;obtain ⟨s,hd,mk⟩:=go (vs++ws);exact .inr ⟨a,b,vs,ws,rfl,rfl,ha,h1,kr (by rw [<- hx.len,<- h3.len];exact hl) (by decide),k _ _ P s (mk _ (BM hx h3.z)) DM⟩
  ·cases e
 ·cases e
end
def Yn (i:Nat) (p:Dv->Dv->Dv->Option Dv) (f:Ev Dv) (fk:Ev (List Dv)):Es:=fun R m k=>f R m fun d m1=>fk R m1 fun ks m2=>match ks with | [j]=>(p (m2.at i) j d).bind fun y=>k.nx (m2.set i y) | _=>none
def Aw (x k d:Dv):Option Dv:=match x,k with
 | .lst xs,.int k=>(Nc xs.length k).bind fun j=>some (.lst (xs.set j d))
 | .dct ks ds,k=>((CN k).bind fun k=>if ks.length<=1000000 then some (.dct (LA k ks) (Kz k d ks ds)) else none).or (if ks.isEmpty=true then (MM k).bind fun k=>some (.dnt [k] [d]) else none)
 | .dtt ks ds,k=>(PV k).bind fun k=>if ks.length<=1000000 then some (.dtt (LA k ks) (Kz k d ks ds)) else none
 | .dnt ks ds,k=>(MM k).bind fun k=>if ks.length<=1000000 then some (.dnt (LA k ks) (Kz k d ks ds)) else none
 | _,_=>none
def Xo (K:W.Frag) (p:Dv->Dv->Dv->Option Dv) (T:HW):Prop:=∀ g H x v P j vj d u y (Q:Hp->Prop),Zd g H->Rep K g H 1 x v P->RA K g H [j] [vj]->Rep K g H 0 d u nop->p x j d=some y->(∀ H' P',Step g P H g P' H'->Rep K g H' 1 y v P'->Q H')->T v vj u H Q
theorem Zj {K:W.Frag}:Xo K Aw (fun o i v H Q=>Ra o i v H Q\/jZ o i v H Q\/jX o i v H Q):=fun g H x v P j vj d u y Q zd rx rj rd e q=>by
 unfold Aw at e;split at e
 ·rename_i xs kk;obtain ⟨jj,ej,e⟩:=bind_some' e;cases e;obtain ⟨a,vs,rfl,ha,hz,hx,hP,go⟩:=EE rx;unfold RA at rj;obtain ⟨w,wr,o,Po,ew,_,rw',_⟩:=rj;cases ew;rw [rep_int rw'];obtain ⟨s,hd,mk⟩:=go (vs.set jj u);exact .inl ⟨a,vs,kk,jj,rfl,rfl,ha,by rw [<- hx.len];exact ej,q _ P s (mk _ (Oi jj hx rd))⟩
 ·rename_i ks ds;rcases nA.mp e with e | ⟨_,e⟩
  ·obtain ⟨k,ek,e⟩:=bind_some' e;split at e
   ·rename_i hl;cases e;obtain ⟨a,us,rfl,ha,hl2,hx,go⟩:=WU rx;unfold RA at rj;obtain ⟨w,wr,o,Po,ew,_,rw',_⟩:=rj;cases ew;obtain ⟨us',e1,e2,e3⟩:=HA (k:=k) hl2 hx rd;obtain ⟨s,mk⟩:=go _ _ us' e3 e2;refine .inr (.inl ⟨a,_,rfl,.inl ?_,q _ P s mk⟩);rw [EH rw' ek,<- e1];refine Jf.k ha ?_;have:(ks.zip us).length<=ks.length:=by rw [ml];omega
    have z:(1000000:Nat) < sizeLine:=by decide
    omega
   ·cases e
  ·split at e
   ·rename_i hk;obtain ⟨k,ek,e⟩:=bind_some' e;cases e;obtain rfl:ks=[]:=by cases ks with | nil=>rfl | cons _ _=>cases hk
    obtain ⟨a,rfl,ha,go⟩:=Ow rx;unfold RA at rj;obtain ⟨w,wr,o,Po,ew,_,rw',_⟩:=rj;cases ew;obtain ⟨b,rfl,hb⟩:=Cy rw' ek;obtain ⟨s,mk⟩:=go [k] [d] [u] rfl ((Reps.cons (P1:=nop) (P2:=nop) rd Reps.nil fun _ z=>z.elim).iff fun a=>⟨fun z=>z.elim,fun z=>z.elim id id⟩);exact .inr (.inr ⟨a,_,rfl,⟨k,b,rfl,hb,.inr ⟨ha,rfl⟩⟩,q _ P s mk⟩)
   ·cases e
 ·rename_i ks ds;obtain ⟨k,ek,e⟩:=bind_some' e;split at e
  ·rename_i hl;cases e;obtain ⟨a,us,rfl,ha,hl2,hx,go⟩:=WS rx;unfold RA at rj;obtain ⟨w,wr,o,Po,ew,_,rw',_⟩:=rj;cases ew;obtain ⟨us',e1,e2,e3⟩:=HA (k:=k) hl2 hx rd;obtain ⟨s,mk⟩:=go _ _ us' e3 e2;obtain ⟨b,rfl,hb⟩:=EI rw' ek;refine .inr (.inl ⟨a,_,rfl,.inl ?_,q _ P s mk⟩);rw [<- e1];refine Jf.t ha hb ?_;have:(ks.zip us).length<=ks.length:=by rw [ml];omega
   have z:(1000000:Nat) < sizeLine:=by decide
   omega
  ·cases e
 ·rename_i ks ds;obtain ⟨k,ek,e⟩:=bind_some' e;split at e
  ·rename_i hl;cases e;obtain ⟨a,us,rfl,ha,hl2,hx,go⟩:=WT rx;unfold RA at rj;obtain ⟨w,wr,o,Po,ew,_,rw',_⟩:=rj;cases ew;obtain ⟨us',e1,e2,e3⟩:=HA (k:=k) hl2 hx rd;obtain ⟨s,mk⟩:=go _ _ us' e3 e2;obtain ⟨b,rfl,hb⟩:=Cy rw' ek;refine .inr (.inr ⟨a,_,rfl,⟨k,b,rfl,hb,.inl ⟨_,ha,?_,?_⟩⟩,q _ P s mk⟩)
   ·have:(ks.zip us).length<=ks.length:=by rw [ml];omega
    have z:(1000000:Nat) < sizeLine:=by decide
    omega
   ·rw [<- e1]
  ·cases e
 ·cases e
section
variable {K:W.Frag} {F:Fr} {Γl:Option Gm} {Γ Γ1 Γ':Gm} {js js2:List Nat} {i:Nat} {f:Ev Dv} {a:Ar} {p:Dv->Dv->Dv->Option Dv} {T:HW}
theorem RN (hp:Xo K p T) (c:AA Γ1 [a] Γ' js2) (h0:∃ o,Γ1[i]?=some (some o)) (hi:Γ'[i]?=some (some 1)) {D:Ends} {σ:St} {H:Hp} (h:tS K F Γl Γ (some Γ') (js++(js2++[i])) (Yn i p f (AQ [a])) D σ H):Js (tE K Γ 0 Γ1 js f) (bY (Co i) (LV K a) T) D σ H:=by
 obtain ⟨g,m,P,r,R,k,res,e,q⟩:=h;refine ⟨g,m,P,r,R,_,res,e,fun d m1 g1 P1 Pv u H1 hk ag s rv r1 n=>?_⟩;obtain ⟨o0,h0⟩:=h0;obtain ⟨v0,P0,ev0,_,_⟩:=r1.see h0;refine ⟨v0,ev0,?_⟩;have rz:=rv.z;have s':Step g P H g1 P1 H1:=s.less fun _ z=>.inl z
 have key:BE K [a] σ H1 fun vs H2=>∃ w,vs=[w]/\T v0 w u H2 fun H3=>D.nx σ H3:=by
  refine AL [a] r1 c hk fun ds m2 g2 P2 vs H2 hk2 ag2 s2 ar r2=>?_
  have al:=ar.len;have ra:=ar.ra r2
  match ds,al.1,hk2,ra with
  | [j],_,hk2,ra =>
   have ra0:=ra;unfold RA at ra;obtain ⟨w,wr,o,Po,rfl,_,h1,h2⟩:=ra;unfold RA at h2;subst h2;obtain ⟨y,e1,e2⟩:=bind_some' hk2;obtain ⟨v,Pa,Pr,ev,em,rx,r3,n3,hP⟩:=r2.take hi;rw [ev0] at ev;cases ev;refine ⟨w,rfl,hp g2 H2 _ v0 Pa j w d u y _ r2.zd rx ra0 (rz.held s2 r1.fpOk fun _ z=>z.elim) e1 fun H3 P' s3 ry=>?_⟩;have r4:=r3.held s3 rx.fpOk fun a q z=>n3 a z q
   have n4:=s3.out r3.fpOk fun a q z=>n3 a z q
   obtain ⟨P5,r5,sp⟩:=r4.putIn (kU.mp hi).1 ev0 ry fun a q z=>n4 a z q
   rw [CH hi] at r5;exact q.nx Γ' _ g2 P5 σ H3 rfl e2 (ag.trans (ag2.trans BI.set)) ((s'.trans s2).trans ((s3.frame (R:=Pr)).sub (fun a z=>(hP a).mpr z) fun a z=>sp a z)) Io.refl r5
 have mono:∀ (Q1 Q2:VK),(∀ v H,Q1 v H->Q2 v H)->LV K a σ H1 Q1->LV K a σ H1 Q2:=by
  intro Q1 Q2 h12 t;cases a with
  | ev Γa Γb ja fa =>
   obtain ⟨g,m,P,r,R,k,res,e,q⟩:=t;exact ⟨g,m,P,r,R,k,res,e,fun d m' g' P' Pv v H' h1 h2 h3 h4 h5 h6=>h12 _ _ (q d m' g' P' Pv v H' h1 h2 h3 h4 h5 h6)⟩
  | rf i=>obtain ⟨v,e,q⟩:=t;exact ⟨v,e,h12 _ _ q⟩
  | fd i f=>obtain ⟨v,e,a,C,dx,fs,w,h1,h2,h3,h4,h5,q⟩:=t;exact ⟨v,e,a,C,dx,fs,w,h1,h2,h3,h4,h5,h12 _ _ q⟩
 refine mono _ _ (fun v H2 z=>?_) key;obtain ⟨w,ew,z⟩:=z;cases ew;exact z
end
def TU (T:String) (a:Ar) (as:List Ar) (p:Pr):Ev Dv:=match a with
 | .rf i=>fun R m k=>EK T (m.at i) (AQ as R m fun ds m1=>(p (m1.at i::ds)).bind fun d=>k d m1)
 | .ev _ _ _ f=>fun R m k=>f R m fun x m1=>EK T x (AQ as R m1 fun ds m2=>(p (x::ds)).bind fun d=>k d m2)
 | .fd _ _=>fun _ _ _=>none
def cj (r:V->List V->Hp->VK->Prop):OL:=fun vs H Q=>match vs with | x::us=>r x us H Q | _=>False
theorem bC {K:W.Frag} {σ:St} {H:Hp} {Γ Γ':Gm} {js:List Nat} {T:String} {a:Ar} {as:List Ar} {p:Pr} {o:Nat} {r:V->List V->Hp->VK->Prop} (hp:AJ K p o (cj r)) (hT:T = "list" \/ T = "str" \/ T = "int" \/ T = "dict") (c:AA Γ (a::as) Γ' js) {Q:VK}
    (h:tE K Γ o Γ' js (TU T a as p) σ H Q):ZZ K T r (LV K a) (BE K as) σ H Q:=by
  obtain ⟨g,m,P,rl,R',k,res,e,q⟩:=h;cases a with
  | fd i f=>cases e
  | rf i =>
    obtain ⟨e0,e⟩:=CO e;unfold AA at c;obtain ⟨⟨o0,h0⟩,⟨o1,hl1,h1⟩,c⟩:=c;obtain ⟨v0,P0,ev0,rv0,_⟩:=rl.see h0;refine ⟨v0,ev0,Ig rv0 e0 hT,AL as rl c e fun ds m1 g1 P1 vs H1 hk ag s ar r1=>?_⟩;obtain ⟨d,e1,e2⟩:=bind_some' hk;obtain ⟨v1,P1',ev1,rv1,_⟩:=r1.see h1;rw [ev0] at ev1;cases ev1;refine hp g1 H1 _ (v0::vs) d Q r1.zd (by unfold RA;exact ⟨v0,vs,o1,P1',rfl,hl1,rv1,ar.ra r1⟩) e1 fun v H2 nw=>?_
    obtain ⟨Pv,s2,h1,r2,n2⟩:=Ae.go s r1 nw;exact q d m1 g1 P1 Pv v H2 e2 ag s2 h1 r2 n2
  | ev Γ1 Γ2 js1 f =>
    unfold AA at c;obtain ⟨rfl,js2,rfl,c⟩:=c;refine ⟨g,m,P,rl,R',_,res,e,fun x m1 g1 P1 Pv v0 H1 hk ag s rv r1 n=>?_⟩;obtain ⟨e0,hk⟩:=CO hk;have rz:=rv.z;have s':Step g P H g1 P1 H1:=s.less fun _ z=>.inl z
    refine ⟨Ig rz e0 hT,AL as r1 c hk fun ds m2 g2 P2 vs H2 hk2 ag2 s2 ar r2=>?_⟩;obtain ⟨d,e1,e2⟩:=bind_some' hk2;refine hp g2 H2 _ (v0::vs) d Q r2.zd (by unfold RA;exact ⟨v0,vs,0,nop,rfl,by decide,rz.held s2 r1.fpOk fun _ z=>z.elim,ar.ra r2⟩) e1 fun v H3 nw=>?_
    obtain ⟨Pw,s3,h1,r3,n3⟩:=Ae.go (s'.trans s2) r2 nw;exact q d m2 g2 P2 Pw v H3 e2 (ag.trans ag2) s3 h1 r3 n3
theorem Wh {K:W.Frag} {σ:St} {H:Hp} {Γ Γ':Gm} {js:List Nat} {a:Ar} {as:List Ar} {p:Pr} {o:Nat} {r:V->List V->Hp->VK->Prop} (hp:AJ K p o (cj r)) (c:AA Γ (a::as) Γ' js) {Q:VK}
    (h:tE K Γ o Γ' js (TU "tuple" a as p) σ H Q):iX r (LV K a) (BE K as) σ H Q:=by
  obtain ⟨g,m,P,rl,R',k,res,e,q⟩:=h
  have ty:∀ {g:G} {H:Hp} {o:Nat} {d:Dv} {v:V} {P:Fp},Rep K g H o d v P->kind d = "tuple" -> ∃ a us,v=.ref a/\H a=some (.tup us):=fun {g H o d v P} h e=>by
    cases d with
    | tup ds=>unfold Rep at h;obtain ⟨a,vs,rfl,h1,_⟩:=h;exact ⟨a,vs,rfl,h1⟩
    | _=>simp [kind] at e
  cases a with
  | fd i f=>cases e
  | rf i =>
    obtain ⟨e0,e⟩:=CO e;unfold AA at c;obtain ⟨⟨o0,h0⟩,⟨o1,hl1,h1⟩,c⟩:=c;obtain ⟨v0,P0,ev0,rv0,_⟩:=rl.see h0;refine ⟨v0,ev0,ty rv0 e0,AL as rl c e fun ds m1 g1 P1 vs H1 hk ag s ar r1=>?_⟩;obtain ⟨d,e1,e2⟩:=bind_some' hk;obtain ⟨v1,P1',ev1,rv1,_⟩:=r1.see h1;rw [ev0] at ev1;cases ev1;refine hp g1 H1 _ (v0::vs) d Q r1.zd (by unfold RA;exact ⟨v0,vs,o1,P1',rfl,hl1,rv1,ar.ra r1⟩) e1 fun v H2 nw=>?_
    obtain ⟨Pv,s2,h1,r2,n2⟩:=Ae.go s r1 nw;exact q d m1 g1 P1 Pv v H2 e2 ag s2 h1 r2 n2
  | ev Γ1 Γ2 js1 f =>
    unfold AA at c;obtain ⟨rfl,js2,rfl,c⟩:=c;refine ⟨g,m,P,rl,R',_,res,e,fun x m1 g1 P1 Pv v0 H1 hk ag s rv r1 n=>?_⟩;obtain ⟨e0,hk⟩:=CO hk;have rz:=rv.z;have s':Step g P H g1 P1 H1:=s.less fun _ z=>.inl z
    refine ⟨ty rz e0,AL as r1 c hk fun ds m2 g2 P2 vs H2 hk2 ag2 s2 ar r2=>?_⟩;obtain ⟨d,e1,e2⟩:=bind_some' hk2;refine hp g2 H2 _ (v0::vs) d Q r2.zd (by unfold RA;exact ⟨v0,vs,0,nop,rfl,by decide,rz.held s2 r1.fpOk fun _ z=>z.elim,ar.ra r2⟩) e1 fun v H3 nw=>?_
    obtain ⟨Pw,s3,h1,r3,n3⟩:=Ae.go (s'.trans s2) r2 nw;exact q d m2 g2 P2 Pw v H3 e2 (ag.trans ag2) s3 h1 r3 n3
def evOr (f g:Ev Dv):Ev Dv:=fun R m k=>(f R m k).or (g R m k)
theorem ZU {K:W.Frag} {Γ Γ':Gm} {js:List Nat} {σ:St} {H:Hp} {o:Nat} {f g:Ev Dv} {Q:VK} (h:tE K Γ o Γ' js (evOr f g) σ H Q):tE K Γ o Γ' js f σ H Q\/tE K Γ o Γ' js g σ H Q:=by
 obtain ⟨g0,m,P,r,R,k,res,e,q⟩:=h;unfold evOr at e;cases e1:f R m k with
 | some z=>rw [e1] at e;exact .inl ⟨g0,m,P,r,R,k,z,e1,by cases e;exact q⟩
 | none=>rw [e1] at e;exact .inr ⟨g0,m,P,r,R,k,res,e,q⟩
section
variable {K:W.Frag} {F:Fr} {Γl:Option Gm} {Γ Γ1 Γ' Γ'':Gm} {js js2 js3:List Nat} {i:Nat} {f:Ev Dv} {a b:Ar} {p:Dv->Dv->Dv->Option Dv} {T:HW}
end
def JM (T:String) (i:Nat) (f:Str) (p:Mu) (fa:Ev (List Dv)):Ev Dv:=fun R m k=>bif CQ (m.at i) f then (HM (m.at i) f).bind fun x0=>EK T x0 (fa R m fun ds m1=>(HM (m1.at i) f).bind fun x=>(p x ds).bind fun r=>k r.1 (m1.set i (Bx (m1.at i) f r.2))) else none
section
variable {K:W.Frag} {g:G} {H:Hp} {σ:St} {Γ Γ':Gm} {js:List Nat} {as:List Ar}
theorem IF {d:Dv} {f:Str} (h:CQ d f=true):∃ x,HM d f=some x/\Wo x=true:=by
 unfold CQ at h;cases e:HM d f with
 | none=>rw [e] at h;cases h
 | some x=>rw [e] at h;exact ⟨x,rfl,h⟩
theorem SS {T:String} {i:Nat} {f:Str} {p:Mu} {R:V->List V->Hp->VK->Prop} (hR:QX K p R) (hT:T = "list" \/ T = "str" \/ T = "int" \/ T = "dict") (c:AA Γ as Γ' js) (he:evd as=true) (h0:∃ o,Γ[i]?=some (some o)) (hi:Γ'[i]?=some (some 1)) {Q:VK}
    (h:tE K Γ 0 Γ' (js++[i]) (JM T i f p (AQ as)) σ H Q):ZZ K T R (OX K (Co i) f) (BE K as) σ H Q:=by
  obtain ⟨g,m,P,r,R',k,res,e,q⟩:=h;unfold JM at e;cases hr:CQ (m.at i) f with
  | false=>rw [hr] at e;cases e
  | true =>
    rw [hr] at e;obtain ⟨x0,hx0,hrf⟩:=IF hr;rw [hx0] at e;obtain ⟨e0,e⟩:=CO (show EK T x0 _=some res from e);obtain ⟨o0,h0⟩:=h0;obtain ⟨v0,P0,ev0,rv0,_⟩:=r.see h0;obtain ⟨a,C,dx,fs,w,_,_,rfl,h1,hc,hn,hl,rw',_⟩:=Cd rv0 hx0;obtain ⟨rr,rfl⟩:=Gi rw' hrf;refine ⟨_,ev0,a,C,dx,fs,_,rfl,h1,hc,hn,hl,Ig rw' e0 hT,AL as r c e fun ds m1 g1 P1 vs H1 hk ag s ar r1=>?_⟩;obtain ⟨x,ex,hk⟩:=bind_some' hk;obtain ⟨⟨rs,y⟩,e1,e2⟩:=bind_some' hk;obtain ⟨v,Pa,Pr,ev,em,rv,r2,n,hP⟩:=r1.take hi;rw [ev0] at ev;cases ev;obtain ⟨fs',h1',hl'⟩:=s.ins a C dx fs h1;obtain ⟨a2,C2,dx2,fh,w2,F1,F2,ea,h12,_,_,hl2,rw2,dj,hPa,mk⟩:=Cd rv ex;cases ea;rw [h1'] at h12;cases h12;rw [hl' f rr hl] at hl2;cases hl2;refine hR g1 H1 _ (.ref rr) F1 ds vs rs y Q r1.zd rw2 (ar.reps he) e1 fun w H2 P' s2 ry rr'=>?_
    have ro:=mk s2 ry;have sF:Step g1 Pa H1 g1 (fun b=>P' b\/F2 b) H2:=(s2.frame (R:=F2)).sub (fun b z=>(hPa b).mpr z) fun _ z=>z
    have r3:=r2.held sF rv.fpOk fun a q z=>n a z q
    have n3:=sF.out r2.fpOk fun a q z=>n a z q
    have hil:i < Γ'.length:=(kU.mp hi).1;obtain ⟨P4,r4,sp⟩:=r3.putIn hil ev0 ro fun a q z=>n3 a z q
    rw [CH hi] at r4;refine q rs _ g1 P4 nop w H2 e2 (ag.trans BI.set) (s.trans ((sF.frame (R:=Pr)).sub (fun a z=>(hP a).mpr z) fun a z=>z.elim (fun z=>sp a z) False.elim)) rr' r4 fun _ _ z=>z
end
def TL (i:Nat) (f:Str) (p:Dv->Dv->Dv->Option Dv) (fe:Ev Dv) (fk:Ev (List Dv)):Es:=fun R m k=>fe R m fun d m1=>bif CQ (m1.at i) f then fk R m1 fun ks m2=>(match ks with | [j]=>(HM (m2.at i) f).bind fun x=>(p x j d).bind fun y=>k.nx (m2.set i (Bx (m2.at i) f y)) | _=>none) else none
section
variable {K:W.Frag} {F:Fr} {Γl:Option Gm} {Γ Γ1 Γ':Gm} {js js2:List Nat} {i:Nat} {f:Str} {fe:Ev Dv} {a:Ar} {p:Dv->Dv->Dv->Option Dv} {T:HW}
theorem Xl {σ:St} {H1:Hp} {Q1 Q2:VK} (h12:∀ v H,Q1 v H->Q2 v H) (t:LV K a σ H1 Q1):LV K a σ H1 Q2:=by
 cases a with
 | ev Γa Γb ja fa =>
  obtain ⟨g,m,P,r,R,k,res,e,q⟩:=t;exact ⟨g,m,P,r,R,k,res,e,fun d m' g' P' Pv v H' h1 h2 h3 h4 h5 h6=>h12 _ _ (q d m' g' P' Pv v H' h1 h2 h3 h4 h5 h6)⟩
 | rf i=>obtain ⟨v,e,q⟩:=t;exact ⟨v,e,h12 _ _ q⟩
 | fd i f=>obtain ⟨v,e,a,C,dx,fs,w,h1,h2,h3,h4,h5,q⟩:=t;exact ⟨v,e,a,C,dx,fs,w,h1,h2,h3,h4,h5,h12 _ _ q⟩
theorem RS (hp:Xo K p T) (c:AA Γ1 [a] Γ' js2) (h0:∃ o,Γ1[i]?=some (some o)) (hi:Γ'[i]?=some (some 1)) {D:Ends} {σ:St} {H:Hp} (h:tS K F Γl Γ (some Γ') (js++(js2++[i])) (TL i f p fe (AQ [a])) D σ H):Js (tE K Γ 0 Γ1 js fe) (bY (OX K (Co i) f) (LV K a) T) D σ H:=by
 obtain ⟨g,m,P,r,R,k,res,e,q⟩:=h;refine ⟨g,m,P,r,R,_,res,e,fun d m1 g1 P1 Pv u H1 hk ag s rv r1 n=>?_⟩;cases hr:CQ (m1.at i) f with
 | false=>rw [hr] at hk;cases hk
 | true =>
  rw [hr] at hk;obtain ⟨x0,hx0,hrf⟩:=IF hr;obtain ⟨o0,h0⟩:=h0;obtain ⟨v0,P0,ev0,rv0,_⟩:=r1.see h0;obtain ⟨ao,C,dx,fs,w,_,_,rfl,h1,hc,hn,hl,rw',_⟩:=Cd rv0 hx0;obtain ⟨rr,rfl⟩:=Gi rw' hrf;refine ⟨_,ev0,ao,C,dx,fs,_,rfl,h1,hc,hn,hl,?_⟩;have rz:=rv.z;have s':Step g P H g1 P1 H1:=s.less fun _ z=>.inl z
  have key:BE K [a] σ H1 fun vs H2=>∃ w,vs=[w]/\T (.ref rr) w u H2 fun H3=>D.nx σ H3:=by
   refine AL [a] r1 c hk fun ds m2 g2 P2 vs H2 hk2 ag2 s2 ar r2=>?_
   have al:=ar.len;have ra:=ar.ra r2
   match ds,al.1,hk2,ra with
   | [j],_,hk2,ra =>
    have ra0:=ra;unfold RA at ra;obtain ⟨w,wr,o,Po,rfl,_,h1w,h2w⟩:=ra;unfold RA at h2w;subst h2w;obtain ⟨x,ex,hk2⟩:=bind_some' hk2;obtain ⟨y,e1,e2⟩:=bind_some' hk2;obtain ⟨v,Pa,Pr,ev,em,rx,r3,n3,hP⟩:=r2.take hi;rw [ev0] at ev;cases ev;obtain ⟨fs',h1',hl'⟩:=s2.ins ao C dx fs h1;obtain ⟨a2,C2,dx2,fh,w2,F1,F2,ea,h12,_,_,hl2,rw2,dj,hPa,mk⟩:=Cd rx ex;cases ea;rw [h1'] at h12;cases h12;rw [hl' f rr hl] at hl2;cases hl2;refine ⟨w,rfl,hp g2 H2 _ (.ref rr) F1 j w d u y _ r2.zd rw2 ra0 (rz.held s2 r1.fpOk fun _ z=>z.elim) e1 fun H3 P' s3 ry=>?_⟩;have ro:=mk s3 ry;have sF:Step g2 Pa H2 g2 (fun b=>P' b\/F2 b) H3:=(s3.frame (R:=F2)).sub (fun b z=>(hPa b).mpr z) fun _ z=>z
    have r4:=r3.held sF rx.fpOk fun a q z=>n3 a z q
    have n4:=sF.out r3.fpOk fun a q z=>n3 a z q
    obtain ⟨P5,r5,sp⟩:=r4.putIn (kU.mp hi).1 ev0 ro fun a q z=>n4 a z q
    rw [CH hi] at r5;exact q.nx Γ' _ g2 P5 σ H3 rfl e2 (ag.trans (ag2.trans BI.set)) ((s'.trans s2).trans ((sF.frame (R:=Pr)).sub (fun a z=>(hP a).mpr z) fun a z=>sp a z)) Io.refl r5
  refine Xl (fun v H2 z=>?_) key;obtain ⟨w,ew,z⟩:=z;cases ew;exact z
end
noncomputable def Dk (x:Dv) (f:Str) (d:Dv):Option Dv:=match x with
 | .obj c fl nm xs=>bif !nm.contains f && fl.contains f && decide (nm.length < 900) then some (.obj c fl (nm++[f]) (xs++[d])) else none
 | _=>none
def Ta (i:Nat) (f:Str) (o:Nat) (fe:Ev Dv):Es:=fun R m k=>fe R m fun d m1=>bif o == 1 || nol d then (Dk (m1.at i) f d).bind fun y=>k.nx (m1.set i y) else none
theorem GX {f:Str} {u:V}:∀ {nm:List Str} {vs:List V},nm.contains f=false->nm.length=vs.length->Cu f u (nm.zip vs)=(nm++[f]).zip (vs++[u])
 | [],[],_,_=>rfl
 | [],_::_,_,h=>by cases h
 | _::_,[],_,h=>by cases h
 | n::nm,v::vs,h,hl=>by
  rw [nT,Bool.or_eq_false_iff] at h;have hn:n≠f:=fun z=>by subst z;simp at h
  rw [lU];show (if n=f then _ else _)=_;rw [if_neg hn,GX h.2 (by simpa using hl)];rfl
theorem Ew {f:Str}:∀ {nm:List Str} {vs:List V},nm.contains f=false->(nm.zip vs).lookup f=none
 | [],_,_=>by simp
 | _::_,[],_=>by simp
 | n::nm,v::vs,h=>by
  rw [nT,Bool.or_eq_false_iff] at h;rw [lU,lR,h.1];exact Ew h.2
theorem TJ {K:W.Frag} {F:Fr} {Γl:Option Gm} {Γ Γ':Gm} {js:List Nat} {i o:Nat} {f:Str} {fe:Ev Dv} (ho:o<=1) (hi:Γ'[i]?=some (some 1)) {D:Ends} {σ:St} {H:Hp} (h:tS K F Γl Γ (some Γ') (js++[i]) (Ta i f o fe) D σ H):dh K (Co i) (tE K Γ o Γ' js fe) f D σ H:=by
 obtain ⟨g,m,P,r,R,k,res,e,q⟩:=h;refine ⟨g,m,P,r,R,_,res,e,fun d m1 g1 P1 Pv u H1 hk ag s rv r1 n=>?_⟩;have rep1:(o == 1 || nol d)=true->∃ Pw,Rep K g1 H1 1 d u Pw/\∀ b,Pw b->Pv b:=fun z=>by
  rcases Bool.or_eq_true_iff.mp z with z | z
  ·rw [beq_iff_eq.mp z] at rv;exact ⟨Pv,rv,fun _ q=>q⟩
  ·exact ⟨nop,JE rv z,fun _ q=>q.elim⟩
 cases c:(o == 1 || nol d) with
 | false=>rw [c] at hk;cases hk
 | true =>
  rw [c] at hk;obtain ⟨y,ey,hk⟩:=bind_some' (show (Dk (m1.at i) f d).bind _=some res from hk);obtain ⟨Pw,rw',sw⟩:=rep1 c;obtain ⟨v,Pa,Pr,ev,em,ra,r2,n2,hP⟩:=r1.take hi;have okA:=ra.fpOk;cases hx:m1.at i with
  | obj c fl nm xs =>
   rw [hx] at ey ra;unfold Dk at ey;simp only at ey;cases hc:(!nm.contains f && fl.contains f && decide (nm.length < 900)) with
   | false=>rw [hc] at ey;cases ey
   | true =>
    rw [hc] at ey;cases ey;simp only [dL,lp,decide_eq_true_eq] at hc;obtain ⟨⟨hc1,hc2⟩,hc3⟩:=hc;unfold Rep at ra;obtain ⟨a,dx,vs,R',rfl,h1,h2,h3,⟨hcl,hl,hnf⟩,h6,h7,h4⟩:=ra;have lv:nm.length=vs.length:=by rw [hl,h6.len]
    refine ⟨_,ev,a,_,dx,_,rfl,h1,hcl.1,hcl.2 f (kn.mp hc2),by rw [ml];omega,?_⟩;rw [GX hc1 lv];have pa:Pa a:=(h4 a).mpr (.inl ⟨by decide,rfl⟩);have hz:=h3 (by decide);have oka:FpOk g1 H1 fun b=>b=a:=fun b z=>by subst z;exact ⟨by rw [h1];trivial,hz⟩
    have st:Step g1 (fun b=>b=a) H1 g1 (fun b=>b=a) (upd H1 a (.ins (CU K c) dx ((nm++[f]).zip (vs++[u])))):=by
     have dm:∀ b,L2.upd H1 a (.ins (CU K c) dx ((nm++[f]).zip (vs++[u]))) b=none->H1 b=none:=fun b z=>by
      by_cases hb:b=a
      ·subst hb;rw [AF] at z;cases z
      ·rw [AD hb] at z;exact z
     refine ⟨fun b o hb nb=>by rw [AD nb];exact hb,dm,fun _ z=>z,fun _ z=>.inl z,⟨[],by simp⟩,fun b z=>.inl z,fun z b hb e=>z b hb (dm b e),fun b C' dx' fs' hb=>?_⟩
     by_cases z:b=a
     ·subst z;rw [h1] at hb;cases hb;refine ⟨_,AF,fun f' r' hr=>?_⟩;rw [<- GX hc1 lv,Cv]
      by_cases zf:f'=f
      ·subst zf;rw [Ew hc1] at hr;cases hr
      ·rw [if_neg zf];exact hr
     ·exact ⟨fs',by rw [AD z];exact hb,fun _ _ q=>q⟩
    have na:¬ Pw a:=fun z=>n a ((hP a).mpr (.inl pa)) (sw a z)
    have rd:=rw'.held st oka fun b q z=>na (z▸q)
    have rx:=h6.held st oka fun b q z=>h7 (z▸q)
    have dj:Disj R' Pw:=fun b q z=>n b ((hP b).mpr (.inl ((h4 b).mpr (.inr q)))) (sw b z)
    have ro:Rep K g1 (upd H1 a (.ins (CU K c) dx ((nm++[f]).zip (vs++[u])))) 1 (.obj c fl (nm++[f]) (xs++[d])) (.ref a) fun b=>Pa b\/Pw b:=by
     unfold Rep;refine ⟨a,dx,vs++[u],fun b=>R' b\/Pw b,rfl,AF,(fun z=>by cases z),fun _=>hz,⟨hcl,by simp [hl],fun x hx=>?_⟩,?_,fun z=>z.elim h7 na,fun b=>?_⟩
     ·rcases lC.mp hx with z | z
      ·exact hnf x z
      ·rw [lJ.mp z];exact kn.mp hc2
     ·exact Reps.app rx ((Reps.cons rd Reps.nil fun _ _ z=>z).iff fun b=>⟨.inl,fun z=>z.elim id False.elim⟩) dj
     ·show Pa b\/Pw b↔(1≠0/\b=a)\/R' b\/Pw b;rw [h4 b];exact ⟨fun z=>z.elim (fun z=>z.elim .inl fun z=>.inr (.inl z)) fun z=>.inr (.inr z),fun z=>z.elim (fun z=>.inl (.inl z)) fun z=>z.elim (fun z=>.inl (.inr z)) .inr⟩
    have stP:Step g1 Pa H1 g1 Pa (upd H1 a (.ins (CU K c) dx ((nm++[f]).zip (vs++[u])))):=(st.frame (R:=Pa)).sub (fun b z=>z.elim (fun z=>z▸pa) id) fun b z=>.inr z
    have r3:=r2.held stP okA fun a q z=>n2 a z q
    have dr:Disj (fun b=>Pa b\/Pw b) Pr:=fun b q z=>q.elim (fun q=>n2 b q z) fun q=>n b ((hP b).mpr (.inr z)) (sw b q)
    obtain ⟨P5,r5,sp⟩:=r3.putIn (kU.mp hi).1 ev ro dr;rw [CH hi] at r5;refine q.nx Γ' _ g1 P5 σ _ rfl hk (ag.trans BI.set) (s.trans ((stP.frame (R:=fun b=>Pr b\/Pv b)).sub (fun b z=>?_) fun b z=>?_)) Io.refl r5
    ·rcases z with z | z | z
     ·exact .inl ((hP b).mpr (.inl z))
     ·exact .inl ((hP b).mpr (.inr z))
     ·exact .inr z
    ·rcases sp b z with z | z
     ·exact z.elim .inl fun z=>.inr (.inr (sw b z))
     ·exact .inr (.inl z)
  | _=>rw [hx] at ey;cases ey
noncomputable def Sk (d:Dv) (c mt:Str):Bool:=match d with
 | .obj c' _ nm _=>c' == c && !nm.contains mt
 | _=>false
def evMeth (s:Sig) (c mt:Str) (i:Nat) (as:List Ar):Ev Dv:=fun R m k=>bif Sk (m.at i) c mt then JO s (.rf i::as) R m k else none
section
variable {K:W.Frag} {Γ Γ':Gm} {js:List Nat} {as:List Ar} {σ:St} {H:Hp} {i:Nat} {s:Sig} {cl mt:Str}
theorem SY (c:AA Γ (.rf i::as) Γ' js) (hs:YI (.rf i::as) s.io=true) (hn:(Ar.rf i::as).length=s.ps.length) (nd:s.io.Nodup) (hio:∀ i∈s.io,i < s.ps.length) (hl:∀ j∈slots (.rf i::as) s.io,Γ'[j]?=some (some 1)) {Q:VK}
    (h:tE K Γ s.ro Γ' (js++slots (.rf i::as) s.io) (evMeth s cl mt i as) σ H Q):NA (CU K cl) mt (Jg K s) [] E0 (Co i) (BE K as) σ H Q:=by
  obtain ⟨g,m,P,r,R,k,res,e,q⟩:=h;unfold evMeth at e;cases ho:Sk (m.at i) cl mt with
  | false=>rw [ho] at e;cases e
  | true =>
    rw [ho] at e;have c0:=c;unfold AA at c0;obtain ⟨⟨o,hgo⟩,_,_⟩:=c0;obtain ⟨v0,P1,hv,rv,_⟩:=r.see hgo;obtain ⟨v1,ev1,rest⟩:=LJ c hs hn nd hio hl ⟨g,m,P,r,R,k,res,e,q⟩;rw [hv] at ev1;cases ev1;cases hx:m.at i with
    | obj c' fl nm xs =>
      rw [hx] at ho rv;unfold Sk at ho;simp only [dL,beq_iff_eq,lp] at ho;obtain ⟨rfl,ho⟩:=ho;unfold Rep at rv;obtain ⟨a,dx,vs,R',rfl,h1,_⟩:=rv;refine ⟨_,hv,a,dx,_,rfl,h1,Ew ho,?_⟩;have e2:(fun (vs:List V) (H2:Hp)=>Jg K s (V.ref a::(vs++[])) H2 Q E0)=fun vs H2=>Jg K s (V.ref a::vs) H2 Q E0:=by funext vs H2;rw [lX]
      rw [e2];exact rest
    | _=>rw [hx] at ho;cases ho
noncomputable def fS {R:Type} (d:Dv) (bs:List Dv) (k:Dv->Option R):Option R:=match d,bs with
 | .non,[o]=>k o
 | _,_=>none
theorem SX {R:Type} {d:Dv} {bs:List Dv} {k:Dv->Option R} {r:R} (h:fS d bs k=some r):d=.non/\∃ o,bs=[o]/\k o=some r:=by
 unfold fS at h;split at h
 ·exact ⟨rfl,_,rfl,h⟩
 ·cases h
def MU (s:Sig) (c:Str) (fl:List Str) (as:List Ar):Ev Dv:=fun R m k=>AQ as R m fun ds m1=>s.cps R (.obj c fl [] []::ds) fun d bs=>fS d bs fun o=>k o m1
theorem SZ {fl:List Str} (hc:Xr K cl fl) (hs:s.io=[0]) (hn:as.length+1=s.ps.length) (he:evd as=true) (c:AA Γ as Γ' js) {Q:VK} (h:tE K Γ 1 Γ' js (MU s cl fl as) σ H Q):NB (CU K cl) (Jg K s) [] E0 (BE K as) σ H Q:=by
 obtain ⟨g,m,P,r,R,k,res,e,q⟩:=h;refine AL as r c e fun ds m1 g1 P1 vs H1 hk ag st ar r1=>fun x dx hx hd nx=>?_
 rw [s.eq] at hk;obtain ⟨⟨d,bs⟩,e1,e2⟩:=bind_some' hk;obtain ⟨rfl,ob,rfl,e2⟩:=SX e2;rw [lX];have sm1:Je H1 (upd H1 dx (.own x)):=Bf hd _;have hx':upd H1 dx (.own x) x=none:=by rw [AD fun z=>nx z.symm];exact hx
 have sm:Je H1 (upd (upd H1 dx (.own x)) x (.ins (CU K cl) dx [])):=fun b o hb=>Bf hx' _ b o (sm1 b o hb)
 have hz:¬ g1.Z x:=fun z=>r1.zd x z hx
 have nw:Ae K g1 H1 1 (.obj cl fl [] []) (.ref x) (upd (upd H1 dx (.own x)) x (.ins (CU K cl) dx [])):=by
  refine ⟨sm,fun b=>b=x,?_,fun a z=>z▸hx⟩;unfold Rep;exact ⟨x,dx,[],nop,rfl,AF,(fun z=>by cases z),fun _=>hz,⟨hc,rfl,fun _ z=>by cases z⟩,Reps.nil,fun z=>z,fun b=>⟨fun z=>.inl ⟨by decide,z⟩,fun z=>z.elim (fun z=>z.2) False.elim⟩⟩
 obtain ⟨Pv,s1,ro,r2,n1⟩:=Ae.go st r1 nw;have rds:=(ar.reps he).held (Step.same (g:=g1) (P:=nop) sm) FpOk.nop fun _ _ z=>z
 have al:=ar.len;have rA:Rel K g1 (upd (upd H1 dx (.own x)) x (.ins (CU K cl) dx [])) (LW s.ps.length s.io) (.obj cl fl [] []::ds) ((V.ref x::vs).map some) Pv:=by
  refine ⟨r2.zd,fun i b=>i=0/\Pv b,⟨by unfold LW;simp;omega,by unfold LW;simp;omega,fun i o ei=>?_,fun i ei b z=>?_,fun i j n b z w=>n (z.1.trans w.1.symm)⟩,fun b=>⟨fun z=>⟨0,rfl,z⟩,fun ⟨_,_,z⟩=>z⟩⟩
  ·obtain ⟨hi,eo⟩:=DK ei;rw [hs] at eo;cases i with
   | zero =>
    have:o=1:=Option.some.inj eo;subst this;have eq:(fun b=>(0=0/\Pv b))=Pv:=funext fun b=>propext ⟨fun z=>z.2,fun z=>⟨rfl,z⟩⟩
    exact ⟨_,_,rfl,rfl,by rw [eq];exact ro⟩
   | succ i =>
    have:o=0:=Option.some.inj eo;subst this;obtain ⟨v,_,ev,rv,_⟩:=rds.get (kT (by omega:i < ds.length));have eq:(fun b=>(i+1=0/\Pv b))=nop:=nop_iff fun b z=>by cases z.1
    exact ⟨_,v,by rw [mZ];exact kT (by omega),by rw [kj,mZ,km,ev];rfl,by rw [eq];exact rv.z⟩
  ·obtain ⟨rfl,z⟩:=z;refine ei 1 ?_;unfold LW;rw [km,mC (by omega),hs];rfl
 refine ⟨g1,_,Pv,rA,.non,[ob],e1,fun g' H' v Pw Pb s2 rv hb n=>?_⟩;refine ⟨by unfold Rep at rv;exact rv.1,?_⟩;have r3:=r2.held s2 ro.fpOk n1;have n3:=s2.out r2.fpOk n1;unfold Bk at hb;rw [hs] at hb;obtain ⟨v1,P4,ev1,rb,sb⟩:=hb.see (i:=0) (o:=1) rfl;have ev1:some (some (V.ref x))=some (some v1):=ev1;cases ev1;exact q ob m1 g' P1 P4 (.ref x) H' e2 ag (s1.trans ((s2.frame (R:=P1)).sub (fun a z=>z.symm) fun a z=>z.elim .inr fun z=>.inl (.inr (sb a z)))) rb r3 fun a z w=>n3 a z (.inr (sb a w))
end
end R
namespace L2
open PySem PySem.Spec PyProof.Rows
open AutoSeq1 (wpAny_loadPart')
section
variable {prog:Program} {w:World} {A:Around} {E:Value->Shared->Prop} {s:Shared}
end
section
variable {X:Cx} {p1 p2 pos1 pos2:Pos} {es:List Expr} {e:Expr} {ta:TA}
abbrev VU (ta:TA):TE:=fun σ H Q=>ta σ H fun vs H1=>∃ (i j:Int),(vs=[.int j]/\i=0\/vs=[.int i,.int j])/\(-(2 ^ 62)<=i/\i < 2 ^ 62/\-(2 ^ 62)<=j/\j < 2 ^ 62)/\(j - i).toNat<=1000000/\∀ l,H1 l=none->Q (.ref l) (upd H1 l (.tup ((List.range (j - i).toNat).map fun k=>.int (i+(k:Nat)))))
end
end L2
namespace L2
open PySem PySem.Spec PyProof.Rows
section
variable {prog:Program} {w:World} {A:Around} {E:Value->Shared->Prop} {s:Shared}
end
section
variable {prog:Program} {w:World} {A:Around} {R:Result->Shared->Prop} {I:Addr} {fp wr:List Addr} {n:Nat} {P:Nat->Value->Prop} {St:Nat->Heap->Prop} {d:Value}
end
section
variable {prog:Program} {w:World} {A:Around} {E:Value->Shared->Prop} {s:Shared}
end
section
variable {prog:Program} {w:World} {A:Around} {E:Value->Shared->Prop} {s:Shared}
end
section
variable {X:Cx} {a e:Expr} {ta te:TE} {p pos kp:Pos}
def kH (K:W.Frag) (x y:V) (H:Hp) (Q:VK):Prop:=∃ (l:Addr) (ns:List Int) (d:Int),x=.ref l/\y=.int d/\Cm K H l (ns.map V.int)/\∀ M,(ns=[]/\M=d\/M∈ns/\∀ a,a∈ns->a<=M)->Q (.int M) H
end
end L2
namespace R
open PySem L2
def Gx (X:Cx):Prop:=X.calm=true/\∃ j,Room j X.A
noncomputable def two {α:Type} (f:Dv->Dv->Option α) (ds:List Dv):Option α:=match ds with | [a,b]=>f a b | _=>none
noncomputable def one {α:Type} (f:Dv->Option α) (ds:List Dv):Option α:=match ds with | [a]=>f a | _=>none
noncomputable def BB:Expr->Bool
 | .Starred _ _=>false
 | _=>true
structure BinE where
 op:Operator
 f:Dv->Dv->Option Dv
 ok:∀ X,Gx X->∃ r,Bq X (binaryOp op) r/\AJ X.K (two f) 1 (LS r)
structure CmpE where
 op:CmpOp
 f:Dv->Dv->Option Bool
 ok:∀ X,Gx X->∃ r,Bq X (compareOp op) r/\AJ X.K (fun ds=>(two f ds).map .bl) 0 (LS r)
structure CallE where
 x:Str
 n:Nat
 o:Nat
 f:List Dv->Option Dv
 ok:∀ X,Gx X->∃ r,AJ X.K f o r/\((∃ id,BD X (.builtin id) r/\bootBuiltins x=some (.builtin id))\/∃ T,BD X (.type T) r/\bootBuiltins x=some (.type T))
abbrev je (T:String):Prop:=T = "list" \/ T = "str" \/ T = "int" \/ T = "dict"
structure MethE where
 x:Str
 n:Nat
 T:String
 o:Nat
 f:List Dv->Option Dv
 hT:je T\/T = "tuple" /\ n=1
 ok:∀ X,Gx X->∃ id r,PlainAttrs T/\Slot T x id/\typeOf (.builtin id)=pure (.type "method_descriptor")/\Qb X id r/\AJ X.K f o (cj r)
structure MutE where
 x:Str
 n:Nat
 T:String
 p:Mu
 hT:je T
 ok:∀ X,Gx X->∃ id r,PlainAttrs T/\Slot T x id/\typeOf (.builtin id)=pure (.type "method_descriptor")/\Qb X id r/\QX X.K p r
noncomputable def JI:Expr->Bool
 | .Tuple _ _ _=>true
 | _=>false
structure SrcE where
 x:Str
 n:Nat
 tt:Bool
 f:List Dv->Option (List Dv)
 ok:∀ X,Gx X->∃ r,VE X.K f r/\∀ tg es p pos ta,(tt=true->JI tg=true)->es.length=n->es.all BB=true->Gl X x->X.mg x=none->PA X es ta->PI X tg (.Call (.Name x p) es [] pos) (Yg r ta)
def kL:OL:=fun vs H1 Q=>Qt (fun _ H R=>R vs H) [] H1 Q
def kG:OL:=fun vs H1 Q=>VU (fun _ H R=>R vs H) [] H1 Q
def jW (K:W.Frag):R2:=fun x y H2 Q=>∃ a xs b,x=.ref a/\y=.int (-1)/\LX K H2 a xs b/\∀ p,H2 p=none->Q (.ref p) (upd H2 p (bif b then .tup xs.reverse else .lst xs.reverse))
def kK (K:W.Frag):V->Hp->VK->Prop:=fun v H1 Q=>∃ a xs,v=.ref a/\Cm K H1 a xs/\∀ l,H1 l=none->Q (.ref l) (upd H1 l (.lst xs.reverse))
structure Tb where
 bins:List BinE
 cmps:List CmpE
 calls:List CallE
 meths:List MethE
 muts:List MutE
 srcs:List SrcE
 ix:Dv->Dv->Option Dv
 ixok:∀ X,Gx X->∃ r,ON X r/\AJ X.K (two ix) 0 (LS r)
 sl:Dv->Option Int->Option Int->Option Dv
 slok:∀ X,Gx X->∃ r,Qa X r/\∀ lo hi,AJ X.K (one fun d=>sl d lo hi) 1 (gy fun x H Q=>r x lo hi H Q)
 tru:Dv->Option Bool
 trok:∀ K g H o d v P b,Rep K g H o d v P->tru d=some b->VD K v H b
 lr:List Dv->Option Dv
 lrok:∀ X,Gx X->AJ X.K lr 1 kL
 tr:List Dv->Option Dv
 trrok:∀ X,Gx X->AJ X.K tr 1 kG
 md:Dv->Dv->Option Dv
 mdok:∀ X,Gx X->AJ X.K (two md) 1 (LS (kH X.K))
 rv:Dv->Dv->Option Dv
 rvok:∀ X,Gx X->AJ X.K (two rv) 1 (LS (jW X.K))
 lv:Dv->Option Dv
 lvok:∀ X,Gx X->AJ X.K (one lv) 1 (gy (kK X.K))
 st:Dv->Dv->Dv->Option Dv
 stok:∀ X,Gx X->∃ T,HZ X T/\Xo X.K st T
structure Cf:Type 1 where
 N:List Str
 sc:Scope
 fn:Str->Bool
 fs:List (Str×Sig)
 cs:List (Str×Dv)
 bl:List Str
 T:Tb
 F:Fr
 fl:List Str
 rf:List Str
def Fz (P:Program) (w:World) (K:W.Frag) (mg:Str->Option Value) (base:Heap) (fl:List Str) (j:Nat) (x:Str) (s:Sig):Prop:=match s.cl with
 | none=>Fx P w K mg base j x s.ps (Jg K s)
 | some c=>∃ j' f fd,j'+1<=j/\FnOk P w K mg base Mp j' f fd s.ps (Jg K s)/\Binds K fd s.ps []/\Meth K (CU K c) x f/\Xr K c fl/\mg c=some (.ref (CU K c))/\(x = "__init__" -> Mk K (CU K c) f)
structure Cok (C:Cf) (X:Cx):Prop where
 N:X.N=C.N
 sc:X.env.scope=C.sc
 nd:X.N.Nodup
 calm:X.calm=true
 fn:∀ x,C.fn x=true->X.fn x=true
 room:Gx X
 fs:∀ x s,(x,s)∈C.fs->s.io.Nodup/\(∀ i∈s.io,i < s.ps.length)/\∃ j k,j<=k/\Room k X.A/\Fz X.prog X.w X.K X.mg X.base C.fl j x s
 cs:∀ x d,(x,d)∈C.cs->∃ v u,X.mg x=some u/\RelV v u/\∀ g H,Rep X.K g H 0 d v nop
 bl:∀ x∈C.bl,X.mg x=none
 xe:X.xe=fun _ _=>False
theorem Cok.fx {C:Cf} {X:Cx} (ok:Cok C X) {x:Str} {s:Sig} (h:(x,s)∈C.fs/\s.cl=none):s.io.Nodup/\(∀ i∈s.io,i < s.ps.length)/\∃ j k,j<=k/\Room k X.A/\Fx X.prog X.w X.K X.mg X.base j x s.ps (Jg X.K s):=by
 obtain ⟨a,b,j,k,hj,hr,F⟩:=ok.fs x s h.1;unfold Fz at F;rw [h.2] at F;exact ⟨a,b,j,k,hj,hr,F⟩
noncomputable def CZ:List Str->Str->Option Nat
 | [],_=>none
 | y::r,x=>if y == x then some 0 else (CZ r x).map (·+1)
theorem BK:∀ {N:List Str} {x:Str} {i:Nat},CZ N x=some i->N[i]?=some x
 | [],_,_,h=>by cases h
 | y::r,x,i,h=>by
  unfold CZ at h;split at h
  ·rename_i e;cases h;rw [beq_iff_eq.mp e];rfl
  ·cases q:CZ r x with
   | none=>rw [q] at h;cases h
   | some j=>rw [q] at h;cases h;simpa using BK q
noncomputable def Sm (sc:Scope) (x:Str):Bool:=match sc.names.lookup x with
 | some .local=>true
 | some .cell=>true
 | some .free=>true
 | _=>false
noncomputable def Sn (sc:Scope) (x:Str):Bool:=match sc.names.lookup x with
 | some .globalImplicit=>true
 | _=>false
noncomputable def Oz (x:Str):Bool:=!(x == ("__debug__" : Str)) && !(x == ("__classdict__" : Str)) && !(x == ("__name__" : Str))
def lv (C:Cf) (x:Str):Option Nat:=if Sm C.sc x && Oz x then CZ C.N x else none
def QZ (C:Cf) (e:Expr):Option Nat:=match e with
 | .Name x _=>lv C x
 | _=>none
theorem Bh {x:Str} (h:Oz x=true):(x == ("__debug__" : Str))=false/\(x == ("__classdict__" : Str))=false/\x ≠ "__name__" := by
 unfold Oz at h;simp only [dL,lp] at h;exact ⟨h.1.1,h.1.2,fun z=>by rw [z] at h;simp at h⟩
theorem Pc {sc:Scope} {x:Str} (h:Sm sc x=true):gu sc x:=by
 unfold Sm at h;unfold gu;split at h
 ·rename_i e;exact .inl e
 ·rename_i e;exact .inr (.inl e)
 ·rename_i e;exact .inr (.inr e)
 ·cases h
theorem DR {X:Cx} {C:Cf} (ok:Cok C X) {x:Str} (h:Sn C.sc x=true):Gl X x:=by
 unfold Sn at h;unfold Gl Env.kindOf;rw [ok.sc];split at h
 ·rename_i e;exact e
 ·cases h
theorem Yd {X:Cx} {C:Cf} (ok:Cok C X) {x:Str} {i:Nat} {pos:Pos} (h:lv C x=some i):PE X (.Name x pos) (Co i):=by
 unfold lv at h;split at h
 ·rename_i e;rw [dL] at e;have n:=Bh e.2;exact Ru (by rw [ok.N];exact BK h) (by rw [ok.sc];exact Pc e.1) n.1 n.2.1
 ·cases h
theorem Bv {X:Cx} {C:Cf} (ok:Cok C X) {e:Expr} {i:Nat} (h:QZ C e=some i):PE X e (Co i):=by
 cases e with
 | Name x pos=>exact Yd ok h
 | _=>cases h
def Yi (C:Cf) (e:Expr):Option (Nat×Str):=match e with
 | .Attribute o f _=>if C.rf.contains f then (QZ C o).map fun i=>(i,f) else none
 | _=>none
theorem TH {C:Cf} {o:Expr} {f:Str} {i:Nat} {env:Env} (h:QZ C o=some i):attributeBase o f env (eval o env)=eval o env:=by
 cases o<;>first | rfl | (cases h)
theorem Gw {X:Cx} {C:Cf} (ok:Cok C X) {e:Expr} {q:Nat×Str} (h:Yi C e=some q):PE X e (OX X.K (Co q.1) q.2):=by
 cases e with
 | Attribute o f pos =>
  unfold Yi at h;simp only at h;split at h
  ·obtain ⟨i,hi,rfl⟩:=lH.mp h;exact aT (Bv ok hi) (TH hi)
  ·cases h
 | _=>cases h
structure CE:Type 1 where
 o:Nat
 Γ:Gm
 js:List Nat
 f:Ev Dv
structure CT:Type 1 where
 Γ:Gm
 js:List Nat
 f:Ev Bool
structure CA:Type 1 where
 as:List Ar
 Γ:Gm
 js:List Nat
structure CI:Type 1 where
 Γ:Gm
 js:List Nat
 f:Ev (List Dv)
structure CS:Type 1 where
 Γ:Option Gm
 js:List Nat
 f:Es
 er:Bool
 eb:Bool
 ec:Bool
structure Rec:Type 1 where
 E:Cf->Gm->Expr->Option CE
 A:Cf->Gm->List Bool->List Expr->Option CA
 T:Cf->Gm->Expr->Option CT
 I:Cf->Gm->Bool->Expr->Option CI
 S:Cf->Option Gm->Gm->Stmt->Option CS
 Ss:Cf->Option Gm->Gm->List Stmt->Option CS
abbrev Xv (t:TA) (te:TE):TA:=fun σ H Q=>t σ H fun vs H1=>te σ H1 fun x H2=>Q (vs++[x]) H2
structure OkR (r:Rec):Prop where
 E:∀ {C X Γ e c},Cok C X->r.E C Γ e=some c->PE X e (tE X.K Γ c.o c.Γ c.js c.f)
 A:∀ {C X Γ md es c},Cok C X->r.A C Γ md es=some c->PA X es (BE X.K c.as)/\AA Γ c.as c.Γ c.js/\c.as.length=es.length/\es.all BB=true/\(md=[]->evd c.as=true)
 T:∀ {C X Γ e c},Cok C X->r.T C Γ e=some c->PT X e (tT X.K Γ c.Γ c.js c.f)
 I:∀ {C X Γ e c} (tg),Cok C X->r.I C Γ (JI tg) e=some c->PI X tg e (tI X.K Γ c.Γ c.js c.f)
 S:∀ {C X Γl Γ s c},Cok C X->r.S C Γl Γ s=some c->PS X s (tS X.K C.F Γl Γ c.Γ c.js c.f)
 Ss:∀ {C X Γl Γ s c},Cok C X->r.Ss C Γl Γ s=some c->Cq X s (tS X.K C.F Γl Γ c.Γ c.js c.f)
 B:∀ {C X Γ md es c},Cok C X->r.A C Γ md es=some c->∀ {e te},PE X e te->BB e=true->PA X (es++[e]) (Xv (BE X.K c.as) te)
def bI (Γ:Gm) (i:Nat):Bool:=match Γ.getD i none with
 | some o=>decide (o<=1)
 | none=>false
theorem Eu {Γ:Gm} {i:Nat} (h:bI Γ i=true):∃ o,o<=1/\Γ[i]?=some (some o):=by
 unfold bI at h;split at h
 ·rename_i o e;exact ⟨o,of_decide_eq_true h,Ap e⟩
 ·cases h
def Ju (r:Rec) (C:Cf) (Γ:Gm) (md:List Bool) (es:List Expr):Option CA:=match es with
  | []=>some ⟨[],Γ,[]⟩
  | e::es=>if BB e then
      match (if md.headD false then QZ C e else none) with
      | some i=>if (Γ.getD i none).isSome then (r.A C Γ md.tail es).bind fun c=>if bI c.Γ i then some ⟨.rf i::c.as,c.Γ,c.js⟩ else none else none
      | none=>match (if md.headD false then Yi C e else none) with
        | some q=>if (Γ.getD q.1 none).isSome then (r.A C Γ md.tail es).bind fun c=>if bI c.Γ q.1 then some ⟨.fd q.1 q.2::c.as,c.Γ,c.js⟩ else none else none
        | none=>(r.E C Γ e).bind fun c1=>(r.A C c1.Γ md.tail es).bind fun c=>some ⟨.ev Γ c1.Γ c1.js c1.f::c.as,c.Γ,c1.js++c.js⟩
    else none
theorem AI {e:Expr} {es:List Expr} {env:Env} (h:BB e=true):starEach (e::es) env=(false,eval e env)::starEach es env:=by
 cases e<;>first | rfl | (cases h)
theorem getD_some {Γ:Gm} {i:Nat} (h:(Γ.getD i none).isSome=true):∃ o,Γ[i]?=some (some o):=by
 obtain ⟨o,e⟩:=mX.mp h;exact ⟨o,Ap e⟩
theorem Oc {r:Rec} (R:OkR r) {C:Cf} {X:Cx} {Γ:Gm} {md:List Bool} {es:List Expr} {c:CA} (ok:Cok C X) (h:Ju r C Γ md es=some c) {e0:Expr} {te:TE} (h0:PE X e0 te) (hn0:BB e0=true):PA X (es++[e0]) (Xv (BE X.K c.as) te):=by
  cases es with
  | nil=>cases h;exact Cc h0 SF (AI hn0)
  | cons e es =>
    unfold Ju at h;simp only at h;split at h
    · rename_i hs;have hst:=AI (es:=es++[e0]) (env:=X.env) hs;split at h
      · rename_i i hi;have hmd:md.headD false=true:=by
          cases q:md.headD false with
          | true=>rfl
          | false=>rw [q] at hi;cases hi
        rw [hmd] at hi;split at h
        · obtain ⟨c2,e2,h⟩:=bind_some' h;split at h
          · cases h;exact Cc (Bv ok hi) (R.B ok e2 h0 hn0) hst
          · cases h
        · cases h
      · split at h
        · rename_i q hq;have hmd:md.headD false=true:=by
            cases z:md.headD false with
            | true=>rfl
            | false=>rw [z] at hq;cases hq
          rw [hmd] at hq;split at h
          · obtain ⟨c2,e2,h⟩:=bind_some' h;split at h
            · cases h;exact Cc (Gw ok hq) (R.B ok e2 h0 hn0) hst
            · cases h
          · cases h
        · obtain ⟨c1,e1,h⟩:=bind_some' h;obtain ⟨c2,e2,h⟩:=bind_some' h;cases h;exact Cc (EB (R.E ok e1)) (R.B ok e2 h0 hn0) hst
    · cases h
theorem RF {r:Rec} (R:OkR r) {C:Cf} {X:Cx} {Γ:Gm} {md:List Bool} {es:List Expr} {c:CA} (ok:Cok C X) (h:Ju r C Γ md es=some c):PA X es (BE X.K c.as)/\AA Γ c.as c.Γ c.js/\c.as.length=es.length/\es.all BB=true/\(md=[]->evd c.as=true):=by
  cases es with
  | nil=>cases h;exact ⟨SF,by unfold AA;exact ⟨rfl,rfl⟩,rfl,rfl,fun _=>rfl⟩
  | cons e es =>
    unfold Ju at h;simp only at h;split at h
    · rename_i hs;have hst:=AI (es:=es) (env:=X.env) hs;split at h
      · rename_i i hi;have hmd:md.headD false=true:=by
          cases q:md.headD false with
          | true=>rfl
          | false=>rw [q] at hi;cases hi
        rw [hmd] at hi;split at h
        · rename_i h1;obtain ⟨c2,e2,h⟩:=bind_some' h;split at h
          · rename_i h2;cases h;obtain ⟨a1,a2,a3,a4,a5⟩:=R.A ok e2;refine ⟨Cc (Bv ok hi) a1 hst,?_,by simp [a3],by simp [hs,a4],fun z=>by rw [z] at hmd;cases hmd⟩;unfold AA;exact ⟨getD_some h1,Eu h2,a2⟩
          · cases h
        · cases h
      · split at h
        · rename_i q hq;have hmd:md.headD false=true:=by
            cases z:md.headD false with
            | true=>rfl
            | false=>rw [z] at hq;cases hq
          rw [hmd] at hq;split at h
          · rename_i h1;obtain ⟨c2,e2,h⟩:=bind_some' h;split at h
            · rename_i h2;cases h;obtain ⟨a1,a2,a3,a4,a5⟩:=R.A ok e2;refine ⟨Cc (Gw ok hq) a1 hst,?_,by simp [a3],by simp [hs,a4],fun z=>by rw [z] at hmd;cases hmd⟩;unfold AA;exact ⟨getD_some h1,Eu h2,a2⟩
            · cases h
          · cases h
        · obtain ⟨c1,e1,h⟩:=bind_some' h;obtain ⟨c2,e2,h⟩:=bind_some' h;cases h;obtain ⟨a1,a2,a3,a4,a5⟩:=R.A ok e2;refine ⟨Cc (EB (R.E ok e1)) a1 hst,?_,by simp [a3],by simp [hs,a4],fun z=>?_⟩
          · unfold AA;exact ⟨rfl,_,rfl,a2⟩
          · show evd c2.as=true;exact a5 (by rw [z];rfl)
    · cases h
def Uh (Γ:Gm):Const->Option CE
 | .int i=>some ⟨1,Γ,[],Kr (.int i)⟩
 | .bool b=>some ⟨1,Γ,[],Kr (.bl b)⟩
 | .none=>some ⟨1,Γ,[],Kr .non⟩
 | .str x=>some ⟨1,Γ,[],Kr (.str x.cps.toList)⟩
 | _=>none
theorem ZO (x:Str):tx x.cps.toList=x:=by
 unfold tx;cases x;rfl
theorem QM {X:Cx} {Γ:Gm} {k:Const} {c:CE} {j:Nat} {pos:Pos} (h:Uh Γ k=some c):PE X (.Constant k j pos) (tE X.K Γ c.o c.Γ c.js c.f):=by
 cases k with
 | int i=>cases h;exact cn aS fun _ _=>Bc
 | bool b=>cases h;exact cn fA fun _ _=>CL
 | none=>cases h;exact cn aQ fun _ _=>DM
 | str x=>cases h;exact cn aN fun _ _=>by unfold Rep;exact ⟨by rw [ZO],fun _ z=>z⟩
 | _=>cases h
noncomputable def VQ (x:Str):Option String:=if x == ("int" : Str) then some "int" else if x == ("bool" : Str) then some "bool" else if x == ("str" : Str) then some "str" else if x == ("tuple" : Str) then some "tuple" else if x == ("list" : Str) then some "list" else none
theorem OS {x:Str} {T:String} (h:VQ x=some T):bootBuiltins x=some (.type T):=by
 unfold VQ at h
 repeat' split at h
 all_goals first | (rename_i e;rw [beq_iff_eq.mp e];cases h;first | exact PyProof.Rows.Boot.«int» | exact PyProof.Rows.Boot.«bool» | exact PyProof.Rows.Boot.«str» | exact PyProof.Rows.Boot.«tuple» | exact PyProof.Rows.Boot.«list») | cases h
def UX (C:Cf) (Γ:Gm) (x:Str):Option CE:=match lv C x with
  | some i=>if (Γ.getD i none).isSome then some ⟨0,Γ.set i (some 0),[],Nr i⟩ else none
  | none=>if Sn C.sc x && Oz x then (match C.cs.find? fun p=>p.1 == x with
      | some p=>some ⟨0,Γ,[],Kr p.2⟩
      | none=>if C.bl.contains x then (VQ x).map fun T=>⟨0,Γ,[],Kr (.ty T)⟩ else none) else none
theorem UW {C:Cf} {X:Cx} {Γ:Gm} {x:Str} {c:CE} {pos:Pos} (ok:Cok C X) (h:UX C Γ x=some c):PE X (.Name x pos) (tE X.K Γ c.o c.Γ c.js c.f):=by
 unfold UX at h;split at h
 ·rename_i i hi;split at h
  ·rename_i h1;cases h;obtain ⟨o,ho⟩:=getD_some h1;exact di (Yd ok hi) ho
  ·cases h
 ·split at h
  ·rename_i hg;rw [dL] at hg;cases q:C.cs.find? fun p=>p.1 == x with
   | none =>
    rw [q] at h;simp only at h;split at h
    ·rename_i hb;cases t:VQ x with
     | none=>rw [t] at h;cases h
     | some T =>
      rw [t] at h;cases h;exact cn (WR (v:=.ty T) (DR ok hg.1) (ok.bl x (kn.mp hb)) (OS t) rfl (Bh hg.2).2.2 (Bh hg.2).1) fun _ _=>by unfold Rep;exact ⟨rfl,fun _ z=>z⟩
    ·cases h
   | some p =>
    rw [q] at h;cases h;have e:p.1=x:=beq_iff_eq.mp (by simpa using mD q);obtain ⟨v,u,h1,h3,h2⟩:=ok.cs p.1 p.2 (mV q);rw [e] at h1;exact cn (WN (DR ok hg.1) h1 h3 (Bh hg.2).1) h2
  ·cases h
structure C1:Type 1 where
 a:Ar
 Γ:Gm
 js:List Nat
def HE (r:Rec) (C:Cf) (Γ:Gm) (m:Bool) (e:Expr):Option C1:=match (if m then QZ C e else none) with
 | some i=>if (Γ.getD i none).isSome then some ⟨.rf i,Γ,[]⟩ else none
 | none=>match (if m then Yi C e else none) with
  | some q=>if (Γ.getD q.1 none).isSome then some ⟨.fd q.1 q.2,Γ,[]⟩ else none
  | none=>(r.E C Γ e).bind fun c=>some ⟨.ev Γ c.Γ c.js c.f,c.Γ,c.js⟩
def FI (a:Ar) (Γ:Gm):Bool:=match a with
 | .rf i=>bI Γ i
 | .fd i _=>bI Γ i
 | _=>true
theorem DE {r:Rec} (R:OkR r) {C:Cf} {X:Cx} {Γ:Gm} {m:Bool} {e:Expr} {c:C1} (ok:Cok C X) (h:HE r C Γ m e=some c):PE X e (LV X.K c.a)/\(m=false->evd [c.a]=true)/\∀ {as Γ' js},AA c.Γ as Γ' js->FI c.a Γ'=true->AA Γ (c.a::as) Γ' (c.js++js):=by
 unfold HE at h;split at h
 ·rename_i i hi;split at h
  ·rename_i h1;cases h;have hm:m=true:=by cases m with | true=>rfl | false=>cases hi
   subst hm;refine ⟨Bv ok hi,(fun z=>by cases z),fun ch hs=>?_⟩;unfold AA;exact ⟨getD_some h1,Eu hs,ch⟩
  ·cases h
 ·split at h
  ·rename_i q hq;split at h
   ·rename_i h1;cases h;have hm:m=true:=by cases m with | true=>rfl | false=>cases hq
    subst hm;refine ⟨Gw ok hq,(fun z=>by cases z),fun ch hs=>?_⟩;unfold AA;exact ⟨getD_some h1,Eu hs,ch⟩
   ·cases h
  ·obtain ⟨c1,e1,h⟩:=bind_some' h;cases h;refine ⟨EB (R.E ok e1),fun _=>rfl,fun ch hs=>?_⟩;unfold AA;exact ⟨rfl,_,rfl,ch⟩
theorem CW {Γ:Gm}:AA Γ [] Γ []:=by unfold AA;exact ⟨rfl,rfl⟩
def IY (r:Rec) (C:Cf) (Γ:Gm) (a b:Expr):Option (C1×C1):=(HE r C Γ true a).bind fun x=>(HE r C x.Γ true b).bind fun y=>if FI x.a y.Γ && FI y.a y.Γ then some (x,y) else none
noncomputable def jj (p:C1×C1):List Nat:=p.1.js++(p.2.js++[])
theorem EU {r:Rec} (R:OkR r) {C:Cf} {X:Cx} {Γ:Gm} {a b:Expr} {p:C1×C1} (ok:Cok C X) (h:IY r C Γ a b=some p):PE X a (LV X.K p.1.a)/\PE X b (LV X.K p.2.a)/\AA Γ [p.1.a,p.2.a] p.2.Γ (jj p):=by
 unfold IY at h;obtain ⟨x,e1,h⟩:=bind_some' h;obtain ⟨y,e2,h⟩:=bind_some' h;split at h
 ·rename_i z;rw [dL] at z;cases h;obtain ⟨a1,_,a2⟩:=DE R ok e1;obtain ⟨b1,_,b2⟩:=DE R ok e2;exact ⟨a1,b1,a2 (b2 CW z.2) z.1⟩
 ·cases h
def QU (r:Rec) (C:Cf) (Γ:Gm) (a:Expr):Option C1:=(HE r C Γ true a).bind fun x=>if FI x.a x.Γ then some x else none
theorem Fi {r:Rec} (R:OkR r) {C:Cf} {X:Cx} {Γ:Gm} {a:Expr} {x:C1} (ok:Cok C X) (h:QU r C Γ a=some x):PE X a (LV X.K x.a)/\AA Γ [x.a] x.Γ (x.js++[]):=by
 unfold QU at h;obtain ⟨y,e1,h⟩:=bind_some' h;split at h
 ·rename_i z;cases h;obtain ⟨a1,_,a2⟩:=DE R ok e1;exact ⟨a1,a2 CW z⟩
 ·cases h
theorem Cok.gx {C:Cf} {X:Cx} (ok:Cok C X):Gx X:=ok.room
def gb (r:Rec) (C:Cf) (Γ:Gm) (a:Expr) (op:Operator) (b:Expr):Option CE:=(C.T.bins.find? fun e=>e.op == op).bind fun en=>(IY r C Γ a b).bind fun p=>some ⟨1,p.2.Γ,jj p,FC (two en.f) (AQ [p.1.a,p.2.a])⟩
theorem XY {r:Rec} (R:OkR r) {C:Cf} {X:Cx} {Γ:Gm} {a b:Expr} {op:Operator} {pos:Pos} {c:CE} (ok:Cok C X) (h:gb r C Γ a op b=some c):PE X (.BinOp a op b pos) (tE X.K Γ c.o c.Γ c.js c.f):=by
 obtain ⟨en,e1,h⟩:=bind_some' h;obtain ⟨p,e2,h⟩:=bind_some' h;cases h;have eo:en.op=op:=by simpa using mD e1
 obtain ⟨h1,h2,h3⟩:=EU R ok e2;obtain ⟨rr,q1,q2⟩:=en.ok X ok.gx;rw [eo] at q1;exact PE.imp (ef q1 h1 h2) fun _ _ _ h=>CM q2 h3 h
noncomputable def FU (x:Dv):Option Dv:=match x with | .int i=>some (.int (-i)) | _=>none
theorem aF {K:W.Frag}:AJ K (one FU) 1 (gy (rU fun i=>.int (-i))):=fun g H ds vs d Q zd ra e k=>by
 unfold one at e;split at e
 ·rename_i a;unfold FU at e;split at e
  ·rename_i i;cases e;unfold RA at ra;obtain ⟨v,r,o,P,rfl,_,h1,h2⟩:=ra;unfold RA at h2;subst h2;rw [rep_int h1];exact ⟨i,rfl,k _ H (Ae.old Bc)⟩
  ·cases e
 ·cases e
def gU (r:Rec) (C:Cf) (Γ:Gm) (a:Expr):Option CE:=(QU r C Γ a).bind fun x=>some ⟨1,x.Γ,x.js++[],FC (one FU) (AQ [x.a])⟩
theorem XQ {r:Rec} (R:OkR r) {C:Cf} {X:Cx} {Γ:Gm} {a:Expr} {pos:Pos} {c:CE} (ok:Cok C X) (h:gU r C Γ a=some c):PE X (.UnaryOp .USub a pos) (tE X.K Γ c.o c.Γ c.js c.f):=by
 obtain ⟨x,e1,h⟩:=bind_some' h;cases h;obtain ⟨h1,h2⟩:=Fi R ok e1;exact PE.imp (eZ ZL h1) fun _ _ _ h=>CM aF h2 h
def cq (t:CT):CE:=⟨1,t.Γ,t.js,Wr t.f⟩
def Mf (r:Rec) (C:Cf) (Γ:Gm) (a:Expr) (op:CmpOp) (b:Expr):Option CT:=if behindInMarks op b then none else (C.T.cmps.find? fun e=>e.op == op).bind fun en=>(IY r C Γ a b).bind fun p=>some ⟨p.2.Γ,jj p,iI (two en.f) (AQ [p.1.a,p.2.a])⟩
theorem cR {K:W.Frag} {Γ Γ':Gm} {js:List Nat} {σ:St} {H:Hp} {o:Nat} {p:List Dv->Option Bool} {as:List Ar} {r:OL} (hp:AJ K (fun ds=>(p ds).map .bl) 0 r) (c:AA Γ as Γ' js) {Q:VK} (h:tE K Γ o Γ' js (Wr (iI p (AQ as))) σ H Q):BE K as σ H fun vs H1=>r vs H1 Q:=by
 obtain ⟨g,m,P,rl,R',k,res,e,q⟩:=h;refine AL as rl c e fun ds m' g' P' vs H1 hk ag s ar r1=>?_
 obtain ⟨b,e1,e2⟩:=bind_some' hk;refine hp g' H1 ds vs (.bl b) _ r1.zd (ar.ra r1) (by show (p ds).map _=_;rw [e1];rfl) fun v H2 nw=>?_
 obtain ⟨Pv,s2,h1,r2,n2⟩:=Ae.go s r1 nw;have ev:=rep_bl h1;subst ev;exact q (.bl b) m' g' P' nop _ H2 e2 ag (s2.less fun _ z=>z.elim .inl False.elim) CL r2 fun _ _ z=>z
theorem OF {r:Rec} (R:OkR r) {C:Cf} {X:Cx} {Γ:Gm} {a b:Expr} {op:CmpOp} {pos:Pos} {c:CT} (ok:Cok C X) (h:Mf r C Γ a op b=some c):PT X (.Compare a [op] [b] pos) (tT X.K Γ c.Γ c.js c.f)/\∀ o,PE X (.Compare a [op] [b] pos) (tE X.K Γ o c.Γ c.js (Wr c.f)):=by
 unfold Mf at h;split at h
 ·cases h
 ·rename_i hm;rw [Bool.not_eq_true] at hm;obtain ⟨en,e1,h⟩:=bind_some' h;obtain ⟨p,e2,h⟩:=bind_some' h;cases h;have eo:en.op=op:=by simpa using mD e1
  obtain ⟨h1,h2,h3⟩:=EU R ok e2;obtain ⟨rr,q1,q2⟩:=en.ok X ok.gx;rw [eo] at q1;exact ⟨PT.imp (Vt q1 h1 h2 hm) fun _ _ _ h=>gj q2 h3 h,fun o=>PE.imp (WO q1 h1 h2 hm) fun _ _ _ h=>cR q2 h3 h⟩
noncomputable def FJ:Expr->Bool
 | .Slice _ _ _ _=>false
 | _=>true
theorem Rn {b:Expr} (h:FJ b=true):OM b:=fun o i=>by
 cases b<;>first | rfl | (cases h)
def jE (r:Rec) (C:Cf) (Γ:Gm) (a b:Expr):Option CE:=(IY r C Γ a b).bind fun p=>some ⟨0,p.2.Γ,jj p,FC (two C.T.ix) (AQ [p.1.a,p.2.a])⟩
theorem cL {r:Rec} (R:OkR r) {C:Cf} {X:Cx} {Γ:Gm} {a b:Expr} {pos:Pos} {c:CE} (ok:Cok C X) (hb:FJ b=true) (h:jE r C Γ a b=some c):PE X (.Subscript a b pos) (tE X.K Γ c.o c.Γ c.js c.f):=by
 obtain ⟨p,e2,h⟩:=bind_some' h;cases h;obtain ⟨h1,h2,h3⟩:=EU R ok e2;obtain ⟨rr,q1,q2⟩:=C.T.ixok X ok.gx;exact PE.imp (eg q1 h1 h2 (Rn hb)) fun _ _ _ h=>CM q2 h3 h
noncomputable def cu {R:Type} (d:Dv) (k:Int->Option R):Option R:=match d with | .int i=>k i | _=>none
def cU (o:Option (Ev Dv)):Ev (Option Int):=match o with
 | none=>fun _ m k=>k none m
 | some f=>fun R m k=>f R m fun d m1=>cu d fun i=>k (some i) m1
def gE (p:Dv->Option Int->Option Int->Option Dv) (a:Ar) (lo hi:Option (Ev Dv)):Ev Dv:=match a with
 | .rf i=>fun R m k=>cU lo R m fun l m1=>cU hi R m1 fun u m2=>(p (m2.at i) l u).bind fun d=>k d m2
 | .ev _ _ _ f=>fun R m k=>f R m fun x m1=>cU lo R m1 fun l m2=>cU hi R m2 fun u m3=>(p x l u).bind fun d=>k d m3
 | .fd _ _=>fun _ _ _=>none
def jF (r:Rec) (C:Cf) (Γ:Gm) (o:Option Expr):Option (Option (Ev Dv)×Gm×List Nat):=match o with
 | none=>some (none,Γ,[])
 | some e=>(r.E C Γ e).bind fun c=>some (some c.f,c.Γ,c.js)
def YB (K:W.Frag) (Γ Γ':Gm) (js:List Nat) (f:Ev (Option Int)):TO:=fun σ H Q=>∃ g m P,Rel K g H Γ m σ P/\∃ (R:Type) (k:Option Int->M->Option R) (r:R),f R m k=some r /\
 ∀ b m' g' P' H',k b m'=some r->BI js m m'->Step g P H g' P' H'->Rel K g' H' Γ' m' σ P'->Q b H'
theorem PO.imp {X:Cx} {e:Option Expr} {t t':TO} (h:PO X e t) (k:∀ σ H Q,t' σ H Q->t σ H Q):PO X e t':=fun pins s σ H Q I q=>h pins s σ H Q I (k σ H Q q)
theorem Uj {r:Rec} (R:OkR r) {C:Cf} {X:Cx} {Γ:Gm} {e:Option Expr} {p:Option (Ev Dv)×Gm×List Nat} (ok:Cok C X) (h:jF r C Γ e=some p):PO X e (YB X.K Γ p.2.1 p.2.2 (cU p.1)):=by
 cases e with
 | none =>
  cases h;exact PO.imp WE fun σ H Q q=>by
   obtain ⟨g,m,P,r,R,k,res,e,q⟩:=q;exact q none m g P H e BI.refl Step.refl r
 | some e =>
  obtain ⟨c,e1,h⟩:=bind_some' h;cases h;exact PO.imp (WD (EB (R.E ok e1))) fun σ H Q q=>by
   obtain ⟨g,m,P,r,R,k,res,e,q⟩:=q;refine ⟨g,m,P,r,R,_,res,e,fun d m' g' P' Pv v H' hk ag s rv r1 n=>?_⟩;cases d<;>first | (cases hk;done) | skip
   rename_i i;exact ⟨i,rep_int rv,q (some i) m' g' P' H' hk ag (s.less fun _ z=>.inl z) r1⟩
def jq (r:Rec) (C:Cf) (Γ:Gm) (a:Expr) (lo hi:Option Expr):Option CE:=(HE r C Γ true a).bind fun x=>(jF r C x.Γ lo).bind fun l=>(jF r C l.2.1 hi).bind fun u=>if FI x.a u.2.1 then some ⟨1,u.2.1,x.js++(l.2.2++u.2.2),gE C.T.sl x.a l.1 u.1⟩ else none
theorem Zf {K:W.Frag} {Γ Γ1 Γ2 Γ':Gm} {j1 j2 j3:List Nat} {p:Dv->Option Int->Option Int->Option Dv} {rr:V->Option Int->Option Int->Hp->VK->Prop} (hp:∀ lo hi,AJ K (one fun d=>p d lo hi) 1 (gy fun x H Q=>rr x lo hi H Q)) {a:Ar} {lo hi:Option (Ev Dv)}
    (ha:∀ {as Γ' js},AA Γ1 as Γ' js->FI a Γ'=true->AA Γ (a::as) Γ' (j1++js)) (hs:FI a Γ'=true) {σ:St} {H:Hp} {Q:VK}
    (h:tE K Γ 1 Γ' (j1++(j2++j3)) (gE p a lo hi) σ H Q):jT rr (LV K a) (YB K Γ1 Γ2 j2 (cU lo)) (YB K Γ2 Γ' j3 (cU hi)) σ H Q:=by
  obtain ⟨g,m,P,r,R,k,res,e,q⟩:=h;have fin:∀ {x:Dv} {l u:Option Int} {m3:M} {g3:G} {P3:Fp} {H3:Hp} {v:V} {o:Nat} {Px:Fp},(p x l u).bind (fun d=>k d m3)=some res->BI (j1++(j2++j3)) m m3->Step g P H g3 P3 H3->Rel K g3 H3 Γ' m3 σ P3->o<=1->Rep K g3 H3 o x v Px->rr v l u H3 Q:=fun {x l u m3 g3 P3 H3 v o Px} hk ag s r3 hlo rx=>by
    obtain ⟨d,e1,e2⟩:=bind_some' hk;refine hp l u g3 H3 [x] [v] d Q r3.zd (by unfold RA;exact ⟨v,[],o,Px,rfl,hlo,rx,by unfold RA;rfl⟩) e1 fun w H4 nw=>?_
    obtain ⟨Pv,s2,h1,r2,n2⟩:=Ae.go s r3 nw;exact q d m3 g3 P3 Pv w H4 e2 ag s2 h1 r2 n2
  cases a with
  | fd i f=>cases e
  | rf i =>
    have c0:=ha (as:=[]) (Γ':=Γ1) (js:=[]) CW;have hs':=hs
    -- the slot is set ahead
    have h0:(∃ o,Γ[i]?=some (some o))/\Γ1=Γ/\j1=[]:=by
      have:=ha (as:=[.ev Γ1 Γ' (j2++j3) (fun _ m k=>k .non m)]) (Γ':=Γ') (js:=(j2++j3)++[]) (by unfold AA;exact ⟨rfl,[],rfl,CW⟩) hs;unfold AA at this;refine ⟨this.1,?_⟩;obtain ⟨_,_,c⟩:=this;unfold AA at c;refine ⟨c.1,?_⟩;obtain ⟨_,js2,e,c⟩:=c;unfold AA at c;rw [c.2] at e;have l:(j1++((j2++j3)++[])).length=((j2++j3)++[]).length:=congrArg List.length e;simp at l;exact l
    obtain ⟨⟨o0,h0⟩,rfl,rfl⟩:=h0;obtain ⟨v0,P0,ev0,rv0,_⟩:=r.see h0;refine ⟨v0,ev0,g,m,P,r,R,_,res,e,fun l m1 g1 P1 H1 hk1 ag1 s1 r1=>⟨g1,m1,P1,r1,R,_,res,hk1,fun u m2 g2 P2 H2 hk2 ag2 s2 r2=>?_⟩⟩;obtain ⟨o1,hl1,h1⟩:=Eu hs;obtain ⟨v1,Px,ev1,rv1,_⟩:=r2.see h1;rw [ev0] at ev1;cases ev1;exact fin hk2 (ag1.trans ag2) (s1.trans s2) r2 hl1 rv1
  | ev Γa Γb ja f =>
    have h0:Γa=Γ/\Γb=Γ1/\j1=ja:=by
      have:=ha (as:=[.ev Γ1 Γ1 [] (fun _ m k=>k .non m)]) (Γ':=Γ1) (js:=[]) (by unfold AA;exact ⟨rfl,[],rfl,CW⟩) rfl;unfold AA at this;obtain ⟨e1,js2,e2,c⟩:=this;unfold AA at c;obtain ⟨e3,js3,e4,c⟩:=c;unfold AA at c;rw [c.2] at e4;subst e4;simp at e2;exact ⟨e1,e3.symm,e2⟩
    obtain ⟨rfl,rfl,rfl⟩:=h0;refine ⟨g,m,P,r,R,_,res,e,fun x m1 g1 P1 Pv v H1 hk1 ag1 s1 rv r1 n1=>⟨g1,m1,P1,r1,R,_,res,hk1,fun l m2 g2 P2 H2 hk2 ag2 s2 r2=>⟨g2,m2,P2,r2,R,_,res,hk2,fun u m3 g3 P3 H3 hk3 ag3 s3 r3=>?_⟩⟩⟩;exact fin hk3 (ag1.trans (ag2.trans ag3)) (((s1.less fun _ z=>.inl z).trans s2).trans s3) r3 (by decide:0<=1) ((rv.z.held s2 r1.fpOk fun _ z=>z.elim).held s3 r2.fpOk fun _ z=>z.elim)
theorem cA {r:Rec} (R:OkR r) {C:Cf} {X:Cx} {Γ:Gm} {a:Expr} {lo hi:Option Expr} {p2 pos:Pos} {c:CE} (ok:Cok C X) (h:jq r C Γ a lo hi=some c):PE X (.Subscript a (.Slice lo hi none p2) pos) (tE X.K Γ c.o c.Γ c.js c.f):=by
 obtain ⟨x,e1,h⟩:=bind_some' h;obtain ⟨l,e2,h⟩:=bind_some' h;obtain ⟨u,e3,h⟩:=bind_some' h;split at h
 ·rename_i hs;cases h;obtain ⟨h1,_,h2⟩:=DE R ok e1;obtain ⟨rr,q1,q2⟩:=C.T.slok X ok.gx;exact PE.imp (Rv q1 h1 (Uj R ok e2) (Uj R ok e3)) fun _ _ _ h=>Zf q2 h2 hs h
 ·cases h
def gQ (r:Rec) (C:Cf) (Γ:Gm) (es:List Expr):Option CE:=(r.A C Γ [] es).bind fun c=>some ⟨1,c.Γ,c.js,Nt .tup (AQ c.as)⟩
def gW (r:Rec) (C:Cf) (Γ:Gm) (es:List Expr):Option CE:=(r.A C Γ [] es).bind fun c=>some ⟨1,c.Γ,c.js,Nt .lst (AQ c.as)⟩
def TQ:Ev Dv:=Kr (.dct [] [])
theorem Ae.dct {K:W.Frag} {g:G} {H:Hp} {p:Addr} (zd:Zd g H) (hp:H p=none):Ae K g H 1 (.dct [] []) (.ref p) (upd H p (.dK [])):=by
 have sm:=Bf hp (.dK []);refine ⟨sm,fun b=>b=p,?_,fun a q=>q▸hp⟩;unfold Rep;exact ⟨p,[],rfl,AF,(fun z=>by cases z),(fun _ z=>zd p z hp),⟨rfl,nop,Reps.nil⟩,fun b=>⟨fun z=>⟨by decide,z⟩,fun z=>z.2⟩⟩
theorem dw {X:Cx} {Γ:Gm} {pos:Pos}:PE X (.Dict [] [] pos) (tE X.K Γ 1 Γ [] TQ):=PE.imp Rz fun σ H Q q=>by
 obtain ⟨g,m,P,r,R,k,res,e,q⟩:=q;intro p hp;obtain ⟨Pv,s2,h1,r2,n2⟩:=Ae.go Step.refl r (Ae.dct r.zd hp);exact q _ m g P Pv _ _ e BI.refl s2 h1 r2 n2
theorem XG {r:Rec} (R:OkR r) {C:Cf} {X:Cx} {Γ:Gm} {es:List Expr} {x1:Nat} {pos:Pos} {c:CE} (ok:Cok C X) (h:gQ r C Γ es=some c):PE X (.Tuple es x1 pos) (tE X.K Γ c.o c.Γ c.js c.f):=by
 obtain ⟨x,e1,h⟩:=bind_some' h;cases h;obtain ⟨a1,a2,_,_,a5⟩:=R.A ok e1;exact dk a1 a2 (a5 rfl)
theorem XS {r:Rec} (R:OkR r) {C:Cf} {X:Cx} {Γ:Gm} {es:List Expr} {pos:Pos} {c:CE} (ok:Cok C X) (h:gW r C Γ es=some c):PE X (.List es pos) (tE X.K Γ c.o c.Γ c.js c.f):=by
 obtain ⟨x,e1,h⟩:=bind_some' h;cases h;obtain ⟨a1,a2,_,_,a5⟩:=R.A ok e1;exact du a1 a2 (a5 rfl)
def BW:Gm->Gm->Gm
 | some a::x,some b::y=>some (if a == b then a else 0)::BW x y
 | _::x,_::y=>none::BW x y
 | _,_=>[]
def gC (t:Dv->Option Bool) (fa:Ev (List Dv)):Ev Bool:=iI (one t) fa
def bx (r:Rec) (C:Cf) (Γ:Gm) (a:Expr):Option CT:=(QU r C Γ a).bind fun x=>some ⟨x.Γ,x.js++[],gC C.T.tru (AQ [x.a])⟩
noncomputable def Ng:Expr->Bool
 | .UnaryOp .Not _ _=>false
 | .BoolOp _ _ _=>false
 | .IfExp _ _ _ _=>false
 | .Compare _ _ _ _=>false
 | _=>true
theorem XH {r:Rec} (R:OkR r) {C:Cf} {X:Cx} {Γ:Gm} {a:Expr} {c:CT} (ok:Cok C X) (hv:Ng a=true) (h:bx r C Γ a=some c):PT X a (tT X.K Γ c.Γ c.js c.f):=by
  obtain ⟨x,e1,h⟩:=bind_some' h;cases h;obtain ⟨h1,h2⟩:=Fi R ok e1;refine PT.imp (Rg h1 fun whole=>?_) fun σ H Q h=>?_
  · cases a<;>first | rfl | (cases hv;done) | skip
    rename_i op b pos;cases op<;>first | rfl | (cases hv;done)
  · obtain ⟨g,m,P,rl,R',k,res,e,q⟩:=h;have key:BE X.K [x.a] σ H fun vs H1=>∃ w,vs=[w]/\∃ b,VD X.K w H1 b/\Q b H1:=by
      refine AL [x.a] rl h2 e fun ds m' g' P' vs H1 hk ag s ar r1=>?_
      obtain ⟨b,e1,e2⟩:=bind_some' hk;unfold one at e1;split at e1
      · rename_i d;have ra:=ar.ra r1;unfold RA at ra;obtain ⟨w,wr,o,Po,rfl,_,h3,h4⟩:=ra;unfold RA at h4;subst h4;exact ⟨w,rfl,b,C.T.trok _ _ _ _ _ _ _ _ h3 e1,q b m' g' P' H1 e2 ag s r1⟩
      · cases e1
    revert key
    cases x.a with
    | ev Γa Γb ja fa =>
      rintro ⟨g,m,P,r,R,k,res,e,q⟩;refine ⟨g,m,P,r,R,k,res,e,fun d m' g' P' Pv v H' h1 h2 h3 h4 h5 h6=>?_⟩;obtain ⟨w,ew,z⟩:=q d m' g' P' Pv v H' h1 h2 h3 h4 h5 h6;cases ew;exact z
    | rf i =>
      rintro ⟨v,e,w,ew,z⟩;cases ew;exact ⟨v,e,z⟩
    | fd i f =>
      rintro ⟨v,e,a,C',dx,fs,w0,q1,q2,q3,q4,q5,w,ew,z⟩;cases ew;exact ⟨v,e,a,C',dx,fs,w0,q1,q2,q3,q4,q5,z⟩
def cF (t:CT):CT:=⟨t.Γ,t.js,Yq t.f⟩
def jG (a b:CT):CT:=let Γ':=BW a.Γ b.Γ;let js:=a.js++b.js;⟨Γ',js,Pm (Ao Γ' js) (Nv a.f b.f fun _ m k=>k false m)⟩
def kO (a b:CT):CT:=let Γ':=BW a.Γ b.Γ;let js:=a.js++b.js;⟨Γ',js,Pm (Ao Γ' js) (Nv a.f (fun _ m k=>k true m) b.f)⟩
theorem eV {X:Cx} {op:BoolOp} {vs:List Expr} {pos:Pos} {t:TT} (h:PT X (.BoolOp op vs pos) t):PW X (.BoolOp op vs pos) t:=fun wh pins s σ H Q I q=>h pins s σ H Q I q
def YG (r:Rec) (C:Cf) (Γ:Gm) (op:BoolOp) (vs:List Expr) (pos:Pos):Option CT:=match vs with
 | []=>none
 | [a]=>r.T C Γ a
 | a::b::vs=>(r.T C Γ a).bind fun x=>(r.T C x.Γ (.BoolOp op (b::vs) pos)).bind fun y=>if BX (BW x.Γ y.Γ) x.Γ && BX (BW x.Γ y.Γ) y.Γ then some (match op with | .And=>jG x y | .Or=>kO x y) else none
theorem RD {r:Rec} (R:OkR r) {C:Cf} {X:Cx} {Γ:Gm} {op:BoolOp} {vs:List Expr} {pos:Pos} {c:CT} (ok:Cok C X) (h:YG r C Γ op vs pos=some c):PT X (.BoolOp op vs pos) (tT X.K Γ c.Γ c.js c.f):=by
 match vs,h with
 | [],h=>cases h
 | [a],h =>
  cases op with
  | And=>exact PW.pt (Vq (R.T ok h))
  | Or=>exact PW.pt (Zx (R.T ok h))
 | a::b::vs,h =>
  obtain ⟨x,e1,h⟩:=bind_some' h;obtain ⟨y,e2,h⟩:=bind_some' h;split at h
  ·rename_i hw;rw [dL] at hw;have ha:=R.T ok e1;have hb:=eV (R.T ok e2);have jk:∀ (i o:Nat),(BW x.Γ y.Γ)[i]?=some (some o)->i∈Ao (BW x.Γ y.Γ) (x.js++y.js)\/i∉x.js++y.js:=fun i o h=>BH h
   cases op with
   | And =>
    cases h;exact PW.pt (PW.imp (Zy ha (PW.imp hb fun _ _ _ h=>Mt hw.2 (fun _ z=>z) h)) fun σ H Q h=>ZT (Na jk (fun i z=>Av z) h) hw.1)
   | Or =>
    cases h;exact PW.pt (PW.imp (eU ha (PW.imp hb fun _ _ _ h=>Mt hw.2 (fun _ z=>z) h)) fun σ H Q h=>dH (Na jk (fun i z=>Av z) h) hw.1)
  ·cases h
section
variable {K:W.Frag} {Γ Γ2 Γ':Gm} {js js2:List Nat} {σ:St} {H:Hp}
end
def QO (r:Rec) (C:Cf) (Γ:Gm) (a:Expr) (op:CmpOp) (b:Expr) (op':CmpOp) (c:Expr):Option CT:=none
theorem OG {r:Rec} (R:OkR r) {C:Cf} {X:Cx} {Γ:Gm} {a b c:Expr} {op op':CmpOp} {pos:Pos} {t:CT} (ok:Cok C X) (h:QO r C Γ a op b op' c=some t):PT X (.Compare a [op,op'] [b,c] pos) (tT X.K Γ t.Γ t.js t.f)/\∀ o,PE X (.Compare a [op,op'] [b,c] pos) (tE X.K Γ o t.Γ t.js (Wr t.f)):=by cases h
def YD (r:Rec) (C:Cf) (Γ:Gm) (e:Expr):Option CT:=match e with
 | .Compare a [op] [b] _=>Mf r C Γ a op b
 | .Compare a [op,op'] [b,c] _=>QO r C Γ a op b op' c
 | .UnaryOp .Not x _=>(r.T C Γ x).map cF
 | .BoolOp op vs pos=>YG r C Γ op vs pos
 | e=>if Ng e then bx r C Γ e else none
theorem Qw {r:Rec} (R:OkR r) {C:Cf} {X:Cx} {Γ:Gm} {e:Expr} {c:CT} (ok:Cok C X) (h:YD r C Γ e=some c):PT X e (tT X.K Γ c.Γ c.js c.f):=by
 have val:Ng e=true->(if Ng e then bx r C Γ e else none)=some c->PT X e (tT X.K Γ c.Γ c.js c.f):=fun hv h=>by
  rw [if_pos hv] at h;exact XH R ok hv h
 match e,h with
 | .Compare a ops bs pos,h =>
  match ops,bs,h with
  | [op],[b],h=>exact (OF R ok h).1
  | [op,op'],[b,c],h=>exact (OG R ok h).1
  | [],_,h=>cases h
  | [_],[],h=>cases h
  | [_],_::_::_,h=>cases h
  | [_,_],[],h=>cases h
  | [_,_],[_],h=>cases h
  | [_,_],_::_::_::_,h=>cases h
  | _::_::_::_,_,h=>cases h
 | .UnaryOp op x pos,h =>
  cases op with
  | Not =>
   cases q:r.T C Γ x with
   | none=>replace h:(r.T C Γ x).map cF=some c:=h;rw [q] at h;cases h
   | some t =>
    replace h:(r.T C Γ x).map cF=some c:=h;rw [q] at h;cases h;exact PT.imp (Zz (R.T ok q)) fun _ _ _ h=>ZS h
  | _=>exact val rfl h
 | .BoolOp op vs pos,h=>exact RD R ok h
 | .IfExp a b c' d,h=>cases h
 | .NamedExpr ..,h | .BinOp ..,h | .Lambda ..,h | .Dict ..,h | .Set ..,h | .ListComp ..,h | .SetComp ..,h | .DictComp ..,h | .GeneratorExp ..,h | .Await ..,h | .Yield ..,h | .YieldFrom ..,h | .Call ..,h | .FormattedValue ..,h | .JoinedStr ..,h | .Constant ..,h | .Attribute ..,h | .Subscript ..,h | .Starred ..,h | .Name ..,h | .List ..,h | .Tuple ..,h | .Slice ..,h=>exact val rfl h
noncomputable def Xk {R:Type} (d:Dv) (k:Bool->Option R):Option R:=match d with | .bl b=>k b | _=>none
theorem HD {R:Type} {d:Dv} {k:Bool->Option R} {r:R} (h:Xk d k=some r):∃ b,d=.bl b/\k b=some r:=by
 cases d<;>first | (cases h;done) | exact ⟨_,rfl,h⟩
def Td (f g:Ev Dv):Ev Dv:=fun R m k=>f R m fun d m1=>Xk d fun b=>if b=true then g R m1 k else k (.bl false) m1
def Yp (f g:Ev Dv):Ev Dv:=fun R m k=>f R m fun d m1=>Xk d fun b=>if b=true then k (.bl true) m1 else g R m1 k
def TN (f:Ev Dv):Ev Dv:=fun R m k=>f R m fun d m1=>Xk d fun b=>k (.bl (!b)) m1
section
variable {K:W.Frag} {Γ Γ' Γ2:Gm} {js js2:List Nat} {σ:St} {H:Hp} {f u:Ev Dv} {Q:VK}
theorem ZW (hw:BX Γ' Γ2=true) (h:tE K Γ 0 Γ' (js++js2) (Td f u) σ H Q):YC (tE K Γ 0 Γ2 js f) (tE K Γ2 0 Γ' js2 u) σ H Q:=by
 obtain ⟨g,m,P,r,R,k,res,e,q⟩:=h;refine ⟨g,m,P,r,R,_,res,e,fun d m1 g1 P1 Pv v H1 hk ag s rv r1 n=>?_⟩;replace hk:=HD hk;obtain ⟨b,rfl,hk⟩:=hk;have s1:Step _ _ _ g1 P1 H1:=s.less fun _ z=>.inl z
 refine ⟨b,rep_bl rv,?_⟩;cases b with
 | true=>rw [if_pos rfl] at hk ⊢;exact ⟨g1,m1,P1,r1,R,k,res,hk,fun d m2 g2 P2 Pw w H2 hk2 ag2 s2 rv2 r2 n2=>q d m2 g2 P2 Pw w H2 hk2 (ag.trans ag2) (s1.trans s2) rv2 r2 n2⟩
 | false =>
  rw [if_neg ku] at hk ⊢;obtain ⟨g2,P2,s2,r2⟩:=r1.weaken hw;exact q _ m1 g2 P2 nop _ H1 hk (ag.mono fun _ z=>ko _ z) ((s1.trans s2).less fun _ z=>z.elim id False.elim) CL r2 fun _ _ z=>z
theorem dP (hw:BX Γ' Γ2=true) (h:tE K Γ 0 Γ' (js++js2) (Yp f u) σ H Q):dM (tE K Γ 0 Γ2 js f) (tE K Γ2 0 Γ' js2 u) σ H Q:=by
 obtain ⟨g,m,P,r,R,k,res,e,q⟩:=h;refine ⟨g,m,P,r,R,_,res,e,fun d m1 g1 P1 Pv v H1 hk ag s rv r1 n=>?_⟩;replace hk:=HD hk;obtain ⟨b,rfl,hk⟩:=hk;have s1:Step _ _ _ g1 P1 H1:=s.less fun _ z=>.inl z
 refine ⟨b,rep_bl rv,?_⟩;cases b with
 | false=>rw [if_neg ku] at hk ⊢;exact ⟨g1,m1,P1,r1,R,k,res,hk,fun d m2 g2 P2 Pw w H2 hk2 ag2 s2 rv2 r2 n2=>q d m2 g2 P2 Pw w H2 hk2 (ag.trans ag2) (s1.trans s2) rv2 r2 n2⟩
 | true =>
  rw [if_pos rfl] at hk ⊢;obtain ⟨g2,P2,s2,r2⟩:=r1.weaken hw;exact q _ m1 g2 P2 nop _ H1 hk (ag.mono fun _ z=>ko _ z) ((s1.trans s2).less fun _ z=>z.elim id False.elim) CL r2 fun _ _ z=>z
theorem ZV (h:tE K Γ 0 Γ' js (TN f) σ H Q):Xw (tE K Γ 0 Γ' js f) σ H Q:=by
 obtain ⟨g,m,P,r,R,k,res,e,q⟩:=h;refine ⟨g,m,P,r,R,_,res,e,fun d m1 g1 P1 Pv v H1 hk ag s rv r1 n=>?_⟩;replace hk:=HD hk;obtain ⟨b,rfl,hk⟩:=hk;exact ⟨b,rep_bl rv,q _ m1 g1 P1 nop _ H1 hk ag (s.less fun _ z=>z.elim .inl False.elim) CL r1 fun _ _ z=>z⟩
end
def gT (r:Rec) (C:Cf) (Γ:Gm) (x:Expr):Option CE:=(r.E C Γ x).bind fun c=>some ⟨0,c.Γ,c.js,TN c.f⟩
def RE (r:Rec) (C:Cf) (Γ:Gm) (op:BoolOp) (vs:List Expr) (pos:Pos):Option CE:=match vs with
 | []=>none
 | [a]=>r.E C Γ a
 | a::b::vs=>(r.E C Γ a).bind fun x=>(r.E C x.Γ (.BoolOp op (b::vs) pos)).bind fun y=>let Γ':=BW x.Γ y.Γ;let js:=x.js++y.js;if BX Γ' x.Γ && BX Γ' y.Γ then some ⟨0,Γ',js,Pm (Ao Γ' js) (match op with | .And=>Td x.f y.f | .Or=>Yp x.f y.f)⟩ else none
theorem Oa {r:Rec} (R:OkR r) {C:Cf} {X:Cx} {Γ:Gm} {op:BoolOp} {vs:List Expr} {pos:Pos} {c:CE} (ok:Cok C X) (h:RE r C Γ op vs pos=some c):PE X (.BoolOp op vs pos) (tE X.K Γ c.o c.Γ c.js c.f):=by
 match vs,h with
 | [],h=>cases h
 | [a],h=>exact aO (R.E ok h)
 | a::b::vs,h =>
  obtain ⟨x,e1,h⟩:=bind_some' h;obtain ⟨y,e2,h⟩:=bind_some' h;simp only at h;split at h
  ·rename_i hw;rw [dL] at hw;have ha:=EB (R.E ok e1);have hb:=EB (R.E ok e2);have jk:∀ (i o:Nat),(BW x.Γ y.Γ)[i]?=some (some o)->i∈Ao (BW x.Γ y.Γ) (x.js++y.js)\/i∉x.js++y.js:=fun i o h=>BH h
   cases op with
   | And=>cases h;exact PE.imp (aU ha (PE.imp hb fun _ _ _ h=>Mv hw.2 (fun _ z=>z) h)) fun σ H Q h=>ZW hw.1 (JH jk (fun i z=>Av z) h)
   | Or=>cases h;exact PE.imp (ee ha (PE.imp hb fun _ _ _ h=>Mv hw.2 (fun _ z=>z) h)) fun σ H Q h=>dP hw.1 (JH jk (fun i z=>Av z) h)
  ·cases h
def gX (r:Rec) (C:Cf) (Γ:Gm) (c a b:Expr):Option CE:=none
theorem XT {r:Rec} (R:OkR r) {C:Cf} {X:Cx} {Γ:Gm} {c a b:Expr} {pos:Pos} {d:CE} (ok:Cok C X) (h:gX r C Γ c a b=some d):PE X (.IfExp c a b pos) (tE X.K Γ d.o d.Γ d.js d.f):=by cases h
theorem Au {es:List Expr} {env:Env} {pos:Pos} (h:es.all BB=true):(backTo pos (starEach es env)).any (·.1)=false:=by
 induction es with
 | nil=>rfl
 | cons e es ih =>
  rw [lW,dL] at h;rw [AI h.1];show (false || (backTo pos (starEach es env)).any (·.1))=false;rw [ih h.2];rfl
theorem cW {es:List Expr} {env:Env} {pos:Pos} (h:es.all BB=true):(backTo pos (starEach es env)).all (fun x=>!x.1)=true:=by
 induction es with
 | nil=>rfl
 | cons e es ih =>
  rw [lW,dL] at h;rw [AI h.1];show (true && (backTo pos (starEach es env)).all (fun x=>!x.1))=true;rw [ih h.2];rfl
def Yy (r:Rec) (C:Cf) (Γ:Gm) (s:Sig) (es:List Expr):Option CE:=(r.A C Γ ((List.range es.length).map s.io.contains) es).bind fun c=>if YI c.as s.io && (es.length == s.ps.length) && (slots c.as s.io).all (fun i=>c.Γ.getD i none == some 1) then some ⟨s.ro,c.Γ,c.js++slots c.as s.io,JO s c.as⟩ else none
theorem UV {r:Rec} (R:OkR r) {C:Cf} {X:Cx} {Γ:Gm} {x:Str} {s:Sig} {es:List Expr} {p pos:Pos} {c:CE} (ok:Cok C X) (hs:(x,s)∈C.fs/\s.cl=none) (hg:Gl X x) (hn:Oz x=true) (h:Yy r C Γ s es=some c):PE X (.Call (.Name x p) es [] pos) (tE X.K Γ c.o c.Γ c.js c.f):=by
 obtain ⟨c1,e1,h⟩:=bind_some' h;split at h
 ·rename_i hw;simp only [dL,lN,beq_iff_eq] at hw;cases h;obtain ⟨a1,a2,a3,a4,_⟩:=R.A ok e1;obtain ⟨nd,hio,j,kk,hj,hrm,F⟩:=ok.fx hs;have run:∀ {σ H Q},tE X.K Γ s.ro c1.Γ (c1.js++slots c1.as s.io) (JO s c1.as) σ H Q->iD (Jg X.K s) (BE X.K c1.as) σ H Q:=fun h=>LJ a2 hw.1.1 (a3.trans hw.1.2) nd hio (fun i hi=>Ap (hw.2 i hi)) h
  cases es with
  | nil =>
   have e:c1.as=[]:=lM a3;refine PE.imp (Ry F hrm hj hg (Bh hn).1) fun σ H Q h=>?_
   have:=run h;rw [e] at this;exact this
  | cons e es =>
   rw [lW,dL] at a4;exact PE.imp (YQ F hrm hj hg a1 (Bh hn).1 (AI a4.1) (Au a4.2)) fun σ H Q h=>run h
 ·cases h
def Yv (r:Rec) (C:Cf) (Γ:Gm) (s:Sig) (es:List Expr):Option CE:=(r.A C Γ (List.replicate es.length true) es).bind fun c=>if es.length == s.ps.length then some ⟨1,c.Γ,c.js,JN s c.as⟩ else none
theorem US {r:Rec} (R:OkR r) {C:Cf} {X:Cx} {Γ:Gm} {x:Str} {s:Sig} {es:List Expr} {p pos:Pos} {c:CE} (ok:Cok C X) (hs:(x,s)∈C.fs/\s.cl=none) (hio:s.io=[]) (hg:Gl X x) (hn:Oz x=true) (h:Yv r C Γ s es=some c):PE X (.Call (.Name x p) es [] pos) (tE X.K Γ c.o c.Γ c.js c.f):=by
 obtain ⟨c1,e1,h⟩:=bind_some' h;split at h
 ·rename_i hw;rw [beq_iff_eq] at hw;cases h;obtain ⟨a1,a2,a3,a4,_⟩:=R.A ok e1;obtain ⟨nd,_,j,kk,hj,hrm,F⟩:=ok.fx hs;have run:∀ {σ H Q},tE X.K Γ 1 c1.Γ c1.js (JN s c1.as) σ H Q->iD (Jg X.K s) (BE X.K c1.as) σ H Q:=fun h=>Pz a2 hio (a3.trans hw) h
  cases es with
  | nil =>
   have e:c1.as=[]:=lM a3;refine PE.imp (Ry F hrm hj hg (Bh hn).1) fun σ H Q h=>?_
   have:=run h;rw [e] at this;exact this
  | cons e es =>
   rw [lW,dL] at a4;exact PE.imp (YQ F hrm hj hg a1 (Bh hn).1 (AI a4.1) (Au a4.2)) fun σ H Q h=>run h
 ·cases h
section
variable {K:W.Frag} {g:G} {H H':Hp} {σ:St} {Γ Γ':Gm} {js:List Nat} {m:M} {P:Fp} {as:List Ar}
theorem Rel.snoc {d:Dv} {v:V} {Pv:Fp} (r:Rel K g H Γ m σ P) (h:Rep K g H 1 d v Pv) (n:Disj P Pv):Rel K g H (Γ++[some 1]) (m++[d]) (σ++[some v]) fun a=>P a\/Pv a:=by
  obtain ⟨zd,F,h1,h4⟩:=r
  let F':Nat->Fp:=fun i a=>(i < Γ.length/\F i a)\/(i=Γ.length/\Pv a)
  have lt:∀ {i:Nat} {a:Addr},F i a->i < Γ.length:=fun {i a} z=>by
    rcases mP i Γ.length with w | w
    · exact w
    · exact (h1.out i (fun o e=>by rw [lZ w] at e;cases e) a z).elim
  refine ⟨zd,F',⟨by simp [h1.l1],by simp [h1.l2],fun i o e=>?_,fun i e a z=>?_,fun i j ne a z w=>?_⟩,fun a=>⟨fun z=>?_,fun ⟨i,z⟩=>?_⟩⟩
  · rcases mP i Γ.length with w | w
    · rw [kc w] at e;obtain ⟨d',v',e1,e2,e3⟩:=h1.rep i o e;refine ⟨d',v',by rw [kc (by rw [h1.l1];exact w)];exact e1,by rw [kc (by rw [h1.l2];exact w)];exact e2,e3.iff fun a=>⟨fun z=>z.elim (fun z=>z.2) fun z=>by omega,fun z=>.inl ⟨w,z⟩⟩⟩
    · have:i=Γ.length:=by
        have:=(kU.mp e).1;simp at this;omega
      subst this;rw [lF (kb _),lz] at e;cases e;refine ⟨d,v,by rw [<- h1.l1,lF (kb _),lz];rfl,by rw [<- h1.l2,lF (kb _),lz];rfl,h.iff fun a=>⟨fun z=>z.elim (fun z=>by omega) fun z=>z.2,fun z=>.inr ⟨rfl,z⟩⟩⟩
  · rcases z with ⟨w,z⟩ | ⟨rfl,z⟩
    · exact h1.out i (fun o e'=>e o (by rw [kc w];exact e')) a z
    · exact e 1 (by rw [lF (kb _),lz];rfl)
  · rcases z with ⟨_,z⟩ | ⟨e1,z⟩<;>rcases w with ⟨_,w⟩ | ⟨e2,w⟩
    · exact h1.dj i j ne a z w
    · exact n a ((h4 a).mpr ⟨i,z⟩) w
    · exact n a ((h4 a).mpr ⟨j,w⟩) z
    · omega
  · rcases z with z | z
    · obtain ⟨i,z⟩:=(h4 a).mp z;exact ⟨i,.inl ⟨lt z,z⟩⟩
    · exact ⟨_,.inr ⟨rfl,z⟩⟩
  · rcases z with ⟨_,z⟩ | ⟨_,z⟩
    · exact .inl ((h4 a).mpr ⟨i,z⟩)
    · exact .inr z
theorem Rel.init {x:Option Nat} {d:Dv} {y:Option V} (r:Rel K g H (Γ++[x]) (m++[d]) (σ++[y]) P):∃ P0,Rel K g H Γ m σ P0/\∀ a,P0 a->P a:=by
 obtain ⟨zd,F,h1,h4⟩:=r;have l1:m.length=Γ.length:=by have:=h1.l1;simpa using this
 have l2:σ.length=Γ.length:=by have:=h1.l2;simpa using this
 let F':Nat->Fp:=fun i a=>i < Γ.length/\F i a
 refine ⟨fun a=>∃ i,F' i a,⟨zd,F',⟨l1,l2,fun i o e=>?_,fun i e a z=>?_,fun i j ne a z w=>h1.dj i j ne a z.2 w.2⟩,fun _=>Iff.rfl⟩,fun a ⟨i,z⟩=>(h4 a).mpr ⟨i,z.2⟩⟩
 ·have w:=(kU.mp e).1;obtain ⟨d',v',e1,e2,e3⟩:=h1.rep i o (by rw [kc w];exact e);rw [kc (by omega)] at e1 e2;exact ⟨d',v',e1,e2,e3.iff fun a=>⟨fun z=>z.2,fun z=>⟨w,z⟩⟩⟩
 ·exact h1.out i (fun o e'=>e o (by rw [kc z.1] at e';exact e')) a z.2
theorem AO.snoc {d:Dv} {v:V} (l1:m.length=Γ.length) (l2:σ.length=Γ.length) (s:Je H H'):∀ {as:List Ar} {ds:List Dv} {vs:List V},AO K g H Γ m σ as ds vs->AO K g H' (Γ++[some 1]) (m++[d]) (σ++[some v]) (as++[Ar.rf Γ.length]) (ds++[d]) (vs++[v])
 | [],ds,vs,h=>by
  unfold AO at h;obtain ⟨rfl,rfl⟩:=h;show AO K g H' _ _ _ [Ar.rf Γ.length] [d] [v];unfold AO;refine ⟨v,[],[],?_,rfl,by rw [<- l2,lF (kb _),lz];rfl,⟨1,by decide,by rw [lF (kb _),lz];rfl⟩,by unfold AO;exact ⟨rfl,rfl⟩⟩;have:(m++[d]).at Γ.length=d:=by unfold M.at;rw [kz,<- l1,lF (kb _),lz];rfl
  rw [this]
 | .ev _ _ _ f::as,ds,vs,h=>by
  unfold AO at h;obtain ⟨d0,v0,ds',vs',rfl,rfl,h1,h2⟩:=h;show AO K g H' _ _ _ (.ev _ _ _ f::(as++[Ar.rf Γ.length])) (d0::(ds'++[d])) (v0::(vs'++[v]));unfold AO;exact ⟨d0,v0,_,_,rfl,rfl,h1.held (Step.same (g:=g) (P:=nop) s) FpOk.nop fun _ z=>z.elim,AO.snoc l1 l2 s h2⟩
 | .rf i::as,ds,vs,h=>by
  unfold AO at h;obtain ⟨v0,ds',vs',rfl,rfl,h1,⟨o,ho,h2⟩,h3⟩:=h;have w:=(kU.mp h2).1;show AO K g H' _ _ _ (.rf i::(as++[Ar.rf Γ.length])) (m.at i::(ds'++[d])) (v0::(vs'++[v]));unfold AO;refine ⟨v0,_,_,?_,rfl,by rw [kc (by omega)];exact h1,⟨o,ho,by rw [kc w];exact h2⟩,AO.snoc l1 l2 s h3⟩;have:(m++[d]).at i=m.at i:=by unfold M.at;rw [kz,kz,kc (by omega)]
  rw [this]
 | .fd i f::as,ds,vs,h=>by
  unfold AO at h;obtain ⟨d0,v0,ds',vs',rfl,rfl,⟨h1,a,C,dx,fs,hv,ha,hlk⟩,⟨o,ho,h2⟩,h3⟩:=h;have w:=(kU.mp h2).1;show AO K g H' _ _ _ (.fd i f::(as++[Ar.rf Γ.length])) (d0::(ds'++[d])) (v0::(vs'++[v]));unfold AO;have:(m++[d]).at i=m.at i:=by unfold M.at;rw [kz,kz,kc (by omega)]
  exact ⟨d0,v0,_,_,rfl,rfl,⟨by rw [this];exact h1,a,C,dx,fs,by rw [kc (by omega)];exact hv,s _ _ ha,hlk⟩,⟨o,ho,by rw [kc w];exact h2⟩,AO.snoc l1 l2 s h3⟩
end
noncomputable def Sl:Expr->Bool
 | .Dict [] [] _=>true
 | _=>false
def Yx (r:Rec) (C:Cf) (Γ:Gm) (s:Sig) (es:List Expr):Option CE:=none
theorem UU {r:Rec} (R:OkR r) {C:Cf} {X:Cx} {Γ:Gm} {x:Str} {s:Sig} {es:List Expr} {p pos:Pos} {c:CE} (ok:Cok C X) (hs:(x,s)∈C.fs/\s.cl=none) (hg:Gl X x) (hn:Oz x=true) (hd:(es.getLast?.map Sl).getD false=true) (h:Yx r C Γ s es=some c):PE X (.Call (.Name x p) es [] pos) (tE X.K Γ c.o c.Γ c.js c.f):=by cases h
section
variable {K:W.Frag} {g:G} {H H':Hp} {Γ Γ1 Γ':Gm} {m:M} {σ:St} {P:Fp} {as:List Ar} {js js0:List Nat} {f0:Ev Dv}
end
noncomputable def ik:Expr->Bool
 | .Call ..=>true
 | _=>false
def Yw (r:Rec) (C:Cf) (Γ:Gm) (s:Sig) (es:List Expr):Option CE:=none
theorem UT {r:Rec} (R:OkR r) {C:Cf} {X:Cx} {Γ:Gm} {x:Str} {s:Sig} {es:List Expr} {p pos:Pos} {c:CE} (ok:Cok C X) (hs:(x,s)∈C.fs/\s.cl=none) (hg:Gl X x) (hn:Oz x=true) (h:Yw r C Γ s es=some c):PE X (.Call (.Name x p) es [] pos) (tE X.K Γ c.o c.Γ c.js c.f):=by cases h
def cE (r:Rec) (C:Cf) (Γ:Gm) (s:Sig) (es:List Expr):Option CE:=if s.nb && s.io.isEmpty then Yv r C Γ s es else if (es.getLast?.map Sl).getD false && s.io.contains (es.length - 1) then Yx r C Γ s es else if (es.head?.map ik).getD false && s.io.contains 0 then Yw r C Γ s es else Yy r C Γ s es
theorem XO {r:Rec} (R:OkR r) {C:Cf} {X:Cx} {Γ:Gm} {x:Str} {s:Sig} {es:List Expr} {p pos:Pos} {c:CE} (ok:Cok C X) (hs:(x,s)∈C.fs/\s.cl=none) (hg:Gl X x) (hn:Oz x=true) (h:cE r C Γ s es=some c):PE X (.Call (.Name x p) es [] pos) (tE X.K Γ c.o c.Γ c.js c.f):=by
 unfold cE at h;split at h
 ·rename_i z;rw [dL,List.isEmpty_iff] at z;exact US R ok hs z.2 hg hn h
 ·split at h
  ·rename_i z;rw [dL] at z;exact UU R ok hs hg hn z.1 h
  ·split at h
   ·exact UT R ok hs hg hn h
   ·exact UV R ok hs hg hn h
def UR (r:Rec) (C:Cf) (Γ:Gm) (en:CallE) (es:List Expr):Option CE:=if es.isEmpty then none else (r.A C Γ (List.replicate es.length true) es).bind fun c=>some ⟨en.o,c.Γ,c.js,FC en.f (AQ c.as)⟩
theorem UQ {r:Rec} (R:OkR r) {C:Cf} {X:Cx} {Γ:Gm} {en:CallE} {es:List Expr} {p pos:Pos} {c:CE} (ok:Cok C X) (hb:en.x∈C.bl) (hg:Gl X en.x) (hn:Oz en.x=true) (h:UR r C Γ en es=some c):PE X (.Call (.Name en.x p) es [] pos) (tE X.K Γ c.o c.Γ c.js c.f):=by
 cases es with
 | nil=>cases h
 | cons e es =>
  unfold UR at h;rw [if_neg (by simp)] at h;obtain ⟨c1,e1,h⟩:=bind_some' h;cases h;obtain ⟨a1,a2,a3,a4,_⟩:=R.A ok e1;rw [lW,dL] at a4;obtain ⟨rr,q1,q2⟩:=en.ok X ok.gx;have n:=Bh hn;rcases q2 with ⟨id,q2,q3⟩ | ⟨T,q2,q3⟩
  ·exact PE.imp (SA q2 hg (ok.bl _ hb) q3 a1 n.2.2 n.1 (AI a4.1) (Au a4.2)) fun _ _ _ h=>CM q1 a2 h
  ·exact PE.imp (Ov q2 hg (ok.bl _ hb) q3 a1 n.2.2 n.1 (AI a4.1) (Au a4.2)) fun _ _ _ h=>CM q1 a2 h
noncomputable def Ur:Expr->Bool
 | .Call _ _ _ _=>false
 | _=>true
theorem DU {o:Expr} {name:Str} {env:Env} {w:Sem Value} (h:Ur o=true):attributeBase o name env w=w:=by
 cases o<;>first | rfl | (cases h)
def cH (r:Rec) (C:Cf) (Γ:Gm) (en:MutE) (i:Nat) (es:List Expr):Option CE:=if es.length < 29 && (Γ.getD i none).isSome then (r.A C Γ [] es).bind fun c=>if c.Γ.getD i none == some 1 then some ⟨0,c.Γ,c.js++[i],TR en.T i en.p (AQ c.as)⟩ else none else none
theorem Gv {e:Expr} {es:List Expr} {env:Env} {pos:Pos} (h:(e::es).all BB=true) (hl:(e::es).length < 29):((backTo pos (starEach (e::es) env)).all (fun x=>!x.1) && (backToKw pos (keywordEach [] env)).all (fun x=>x.1.isSome)
      && decide ((e::es).length+([]:List Keyword).length+(if ([]:List Keyword).isEmpty then 0 else 1) < 30))=true:=by
  rw [cW h];show (true && true && decide _)=true;simp only [lh,nV,decide_eq_true_eq,mH,nh,if_true];omega
theorem XR {r:Rec} (R:OkR r) {C:Cf} {X:Cx} {Γ:Gm} {en:MutE} {i:Nat} {o:Expr} {es:List Expr} {apos pos:Pos} {c:CE} (ok:Cok C X) (hi:QZ C o=some i) (hline:(apos.endLine == pos.line)=true) (h:cH r C Γ en i es=some c):PE X (.Call (.Attribute o en.x apos) es [] pos) (tE X.K Γ c.o c.Γ c.js c.f):=by
 unfold cH at h;split at h
 ·rename_i h0;simp only [dL,decide_eq_true_eq] at h0;obtain ⟨c1,e1,h⟩:=bind_some' h;split at h
  ·rename_i h1;cases h;obtain ⟨a1,a2,a3,a4,a5⟩:=R.A ok e1;obtain ⟨id,rr,q1,q2,q3,q4,q5⟩:=en.ok X ok.gx;have ho:=Bv ok hi;have hbase:attributeBase o en.x X.env (eval o X.env)=eval o X.env:=DU (by cases o<;>first | rfl | (cases hi));have run:∀ {σ H Q},tE X.K Γ 0 c1.Γ (c1.js++[i]) (TR en.T i en.p (AQ c1.as)) σ H Q->ZZ X.K en.T rr (Co i) (BE X.K c1.as) σ H Q:=fun h=>Wf q5 en.hT a2 (a5 rfl) (getD_some h0.2) (Ap (beq_iff_eq.mp h1)) h
   cases es with
   | nil =>
    have e:c1.as=[]:=lM a3;refine PE.imp (Ly q1 q2 q3 q4 ho hbase hline) fun σ H Q h=>?_
    have:=run h;rw [e] at this;exact this
   | cons e es =>
    have a4':=a4;rw [lW,dL] at a4;exact PE.imp (SD q1 q2 q3 q4 ho a1 hbase (Gv a4' h0.1) hline (AI a4.1) (Au a4.2)) fun σ H Q h=>run h
  ·cases h
 ·cases h
def gV (r:Rec) (C:Cf) (Γ:Gm) (en:MethE) (o:Expr) (es:List Expr):Option CE:=if es.length < 29 && Ur o then (HE r C Γ true o).bind fun x=>(r.A C x.Γ (List.replicate es.length true) es).bind fun c=>if FI x.a c.Γ then some ⟨en.o,c.Γ,x.js++c.js,TU en.T x.a c.as en.f⟩ else none else none
theorem Mc {r:Rec} (R:OkR r) {C:Cf} {X:Cx} {Γ:Gm} {en:MethE} {o:Expr} {es:List Expr} {apos pos:Pos} {c:CE} (ok:Cok C X) (hline:(apos.endLine == pos.line)=true) (hn:en.n=es.length) (h:gV r C Γ en o es=some c):PE X (.Call (.Attribute o en.x apos) es [] pos) (tE X.K Γ c.o c.Γ c.js c.f):=by
 unfold gV at h;split at h
 ·rename_i h0;simp only [dL,decide_eq_true_eq] at h0;obtain ⟨x,e0,h⟩:=bind_some' h;obtain ⟨c1,e1,h⟩:=bind_some' h;split at h
  ·rename_i h1;cases h;obtain ⟨o1,_,o2⟩:=DE R ok e0;obtain ⟨a1,a2,a3,a4,a5⟩:=R.A ok e1;obtain ⟨id,rr,q1,q2,q3,q4,q5⟩:=en.ok X ok.gx;have hbase:attributeBase o en.x X.env (eval o X.env)=eval o X.env:=DU h0.2;rcases en.hT with hT | ⟨hT,hT1⟩
   ·have run:∀ {σ H Q},tE X.K Γ en.o c1.Γ (x.js++c1.js) (TU en.T x.a c1.as en.f) σ H Q->ZZ X.K en.T rr (LV X.K x.a) (BE X.K c1.as) σ H Q:=fun h=>bC q5 hT (o2 a2 h1) h
    cases es with
    | nil =>
     have e:c1.as=[]:=lM a3;refine PE.imp (Ly q1 q2 q3 q4 o1 hbase hline) fun σ H Q h=>?_
     have:=run h;rw [e] at this;exact this
    | cons e es =>
     have a4':=a4;rw [lW,dL] at a4;exact PE.imp (SD q1 q2 q3 q4 o1 a1 hbase (Gv a4' h0.1) hline (AI a4.1) (Au a4.2)) fun σ H Q h=>run h
   ·have run:∀ {σ H Q},tE X.K Γ en.o c1.Γ (x.js++c1.js) (TU en.T x.a c1.as en.f) σ H Q->iX rr (LV X.K x.a) (BE X.K c1.as) σ H Q:=fun h=>Wh q5 (o2 a2 h1) (by rw [hT] at h;exact h)
    rw [hT] at q1 q2;cases es with
    | nil=>rw [hT1] at hn;cases hn
    | cons e es =>
     have a4':=a4;rw [lW,dL] at a4;exact PE.imp (eh q1 q2 q3 q4 o1 a1 hbase (Gv a4' h0.1) hline (AI a4.1) (Au a4.2)) fun σ H Q h=>run h
  ·cases h
 ·cases h
def bw (c1 c2:CE):Option CE:=if c1.o == c2.o && c1.Γ == c2.Γ && c1.js == c2.js then some ⟨c1.o,c1.Γ,c1.js,Pm (Ao c1.Γ c1.js) (evOr c1.f c2.f)⟩ else none
theorem XF {X:Cx} {Γ:Gm} {e:Expr} {c1 c2 c:CE} (h1:PE X e (tE X.K Γ c1.o c1.Γ c1.js c1.f)) (h2:PE X e (tE X.K Γ c2.o c2.Γ c2.js c2.f)) (h:bw c1 c2=some c):PE X e (tE X.K Γ c.o c.Γ c.js c.f):=by
 unfold bw at h;split at h
 ·rename_i h0;simp only [dL,beq_iff_eq] at h0;obtain ⟨⟨e1,e2⟩,e3⟩:=h0;cases h;rw [<- e1,<- e2,<- e3] at h2;intro pins s σ H Q I q;rcases ZU (JH (fun i o z=>BH z) (fun i z=>Av z) q) with q | q
  ·exact h1 pins s σ H Q I q
  ·exact h2 pins s σ H Q I q
 ·cases h
def UZ (r:Rec) (C:Cf) (Γ:Gm) (en:MutE) (i:Nat) (f:Str) (es:List Expr):Option CE:=if es.length < 29 && (Γ.getD i none).isSome then (r.A C Γ [] es).bind fun c=>if c.Γ.getD i none == some 1 then some ⟨0,c.Γ,c.js++[i],JM en.T i f en.p (AQ c.as)⟩ else none else none
theorem UY {r:Rec} (R:OkR r) {C:Cf} {X:Cx} {Γ:Gm} {en:MutE} {q:Nat×Str} {o:Expr} {es:List Expr} {apos pos:Pos} {c:CE} (ok:Cok C X) (hi:Yi C o=some q) (hline:(apos.endLine == pos.line)=true) (h:UZ r C Γ en q.1 q.2 es=some c):PE X (.Call (.Attribute o en.x apos) es [] pos) (tE X.K Γ c.o c.Γ c.js c.f):=by
 unfold UZ at h;split at h
 ·rename_i h0;simp only [dL,decide_eq_true_eq] at h0;obtain ⟨c1,e1,h⟩:=bind_some' h;split at h
  ·rename_i h1;cases h;obtain ⟨a1,a2,a3,a4,a5⟩:=R.A ok e1;obtain ⟨id,rr,q1,q2,q3,q4,q5⟩:=en.ok X ok.gx;have ho:=Gw ok hi;have hbase:attributeBase o en.x X.env (eval o X.env)=eval o X.env:=DU (by cases o<;>first | rfl | (cases hi));have run:∀ {σ H Q},tE X.K Γ 0 c1.Γ (c1.js++[q.1]) (JM en.T q.1 q.2 en.p (AQ c1.as)) σ H Q->ZZ X.K en.T rr (OX X.K (Co q.1) q.2) (BE X.K c1.as) σ H Q:=fun h=>SS q5 en.hT a2 (a5 rfl) (getD_some h0.2) (Ap (beq_iff_eq.mp h1)) h
   cases es with
   | nil =>
    have e:c1.as=[]:=lM a3;refine PE.imp (Ly q1 q2 q3 q4 ho hbase hline) fun σ H Q h=>?_
    have:=run h;rw [e] at this;exact this
   | cons e es =>
    have a4':=a4;rw [lW,dL] at a4;exact PE.imp (SD q1 q2 q3 q4 ho a1 hbase (Gv a4' h0.1) hline (AI a4.1) (Au a4.2)) fun σ H Q h=>run h
  ·cases h
 ·cases h
def Ub (r:Rec) (C:Cf) (Γ:Gm) (mt:Str) (s:Sig) (i:Nat) (es:List Expr):Option CE:=if es.length < 29 && (Γ.getD i none).isSome then (r.A C Γ ((List.range es.length).map fun j=>s.io.contains (j+1)) es).bind fun c=>if bI c.Γ i && YI (.rf i::c.as) s.io && (es.length+1 == s.ps.length) && (slots (.rf i::c.as) s.io).all (fun j=>c.Γ.getD j none == some 1) then some ⟨s.ro,c.Γ,c.js++slots (.rf i::c.as) s.io,evMeth s (s.cl.getD "") mt i c.as⟩ else none else none
theorem IQ {o:Expr} {name:Str} {apos pos:Pos} {args:List Expr} {env:Env} (hbase:attributeBase o name env (eval o env)=eval o env)
    (hfew:methodCallForm (args.length+([]:List Keyword).length) (backTo pos (starEach args env)) (backToKw pos (keywordEach [] env))=true) (hline:(apos.endLine == pos.line)=true) :
    eval (.Call (.Attribute o name apos) args [] pos) env=(do
      let ov <- eval o env
      standAt apos.atName
      let (f,first) <- holding [ov] (getMethod ov name (do return (<- importBound o env).getD true))
      callWith pos f first (backTo pos (starEach args env)) (backToKw pos (keywordEach [] env))):=by
  have hpos:methodCallPos true o env apos pos=pure pos:=by unfold methodCallPos;simp [hline]
  rw [arm_eval_Call,hbase];unfold methodCall;rw [hfew,hpos];rfl
theorem JB {X:Cx} (h:X.xe=fun _ _=>False):CB Mp X E0:=fun _ _ _ _ _ _ _ z=>z.elim
theorem Ua {r:Rec} (R:OkR r) {C:Cf} {X:Cx} {Γ:Gm} {mt cl:Str} {s:Sig} {i:Nat} {o:Expr} {es:List Expr} {apos pos:Pos} {c:CE} (ok:Cok C X) (hs:(mt,s)∈C.fs) (hcl:s.cl=some cl) (hi:QZ C o=some i) (hline:(apos.endLine == pos.line)=true) (h:Ub r C Γ mt s i es=some c):PE X (.Call (.Attribute o mt apos) es [] pos) (tE X.K Γ c.o c.Γ c.js c.f):=by
 obtain ⟨xo,po,rfl⟩:∃ xo po,o=.Name xo po:=by cases o<;>first | exact ⟨_,_,rfl⟩ | (cases hi)
 unfold Ub at h;split at h
 ·rename_i h0;simp only [dL,decide_eq_true_eq] at h0;obtain ⟨h29,h0⟩:=h0;obtain ⟨c1,e1,h⟩:=bind_some' h;split at h
  ·rename_i hw;simp only [dL,lN,beq_iff_eq] at hw;cases h;obtain ⟨a1,a2,a3,a4,_⟩:=R.A ok e1;obtain ⟨nd,hio,j,kk,hj,hrm,F⟩:=ok.fs mt s hs;unfold Fz at F;rw [hcl] at F;obtain ⟨j',f,fd,hjj,F1,F2,F3,F4,F5,_⟩:=F;have ch:AA Γ (.rf i::c1.as) c1.Γ c1.js:=by unfold AA;exact ⟨getD_some h0,Eu hw.1.1.1,a2⟩
   have run:∀ {σ H Q},tE X.K Γ s.ro c1.Γ (c1.js++slots (.rf i::c1.as) s.io) (evMeth s (s.cl.getD "") mt i c1.as) σ H Q->NA (CU X.K cl) mt (Jg X.K s) [] E0 (Co i) (BE X.K c1.as) σ H Q:=fun h=>by
    rw [hcl] at h;exact SY ch hw.1.1.2 (by rw [<- hw.1.2];simp [a3]) nd hio (fun i hi=>Ap (hw.2 i hi)) h
   have hrr:Room j' X.A:=hrm.mono (by omega);cases es with
   | nil =>
    have e:c1.as=[]:=lM a3;refine PE.imp (Rw (Bv ok hi) F4.1 F3 F1 hrr F2 .nil (JB ok.xe) (IQ rfl rfl hline)) fun σ H Q h=>?_
    have:=run h;rw [e] at this;exact this
   | cons e es =>
    have a4':=a4;rw [lW,dL] at a4;exact PE.imp (WL (Bv ok hi) F4.1 F3 F1 hrr F2 .nil (JB ok.xe) a1 (AI a4.1) (Au a4.2) (IQ rfl (Gv a4' h29) hline)) fun σ H Q h=>run h
  ·cases h
 ·cases h
def Yz (r:Rec) (C:Cf) (Γ:Gm) (s:Sig) (x:Str) (es:List Expr):Option CE:=(r.A C Γ [] es).bind fun c=>if (es.length+1 == s.ps.length) && s.io == [0] then some ⟨1,c.Γ,c.js,MU s x C.fl c.as⟩ else none
theorem Uc {r:Rec} (R:OkR r) {C:Cf} {X:Cx} {Γ:Gm} {x:Str} {s:Sig} {es:List Expr} {p pos:Pos} {c:CE} (ok:Cok C X) (hs:(("__init__" : Str),s)∈C.fs) (hcl:s.cl=some x) (hg:Gl X x) (hn:Oz x=true) (h:Yz r C Γ s x es=some c):PE X (.Call (.Name x p) es [] pos) (tE X.K Γ c.o c.Γ c.js c.f):=by
 obtain ⟨c1,e1,h⟩:=bind_some' h;split at h
 ·rename_i hw;simp only [dL,beq_iff_eq] at hw;cases h;obtain ⟨a1,a2,a3,a4,a5⟩:=R.A ok e1
  obtain ⟨nd,hio,j,kk,hj,hrm,F⟩:=ok.fs "__init__" s hs
  unfold Fz at F;rw [hcl] at F;obtain ⟨j',f,fd,hjj,F1,F2,F3,F4,F5,F6⟩:=F;have run:∀ {σ H Q},tE X.K Γ 1 c1.Γ c1.js (MU s x C.fl c1.as) σ H Q->NB (CU X.K x) (Jg X.K s) [] E0 (BE X.K c1.as) σ H Q:=fun h=>SZ F4 hw.2 (by rw [<- hw.1,a3]) (a5 rfl) a2 h
  have hrr:Room (j'+1) X.A:=hrm.mono (by omega);cases es with
  | nil =>
   have e:c1.as=[]:=lM a3;refine PE.imp (Rx (F6 rfl) F1 hrr hg F5 F2 .nil (JB ok.xe) (Bh hn).1) fun σ H Q h=>?_
   have:=run h;rw [e] at this;exact this
  | cons e es =>
   rw [lW,dL] at a4;exact PE.imp (WM (F6 rfl) F1 hrr hg F5 F2 .nil (JB ok.xe) a1 (Bh hn).1 (AI a4.1) (Au a4.2)) fun σ H Q h=>run h
 ·cases h
def jD (r:Rec) (C:Cf) (Γ:Gm) (o:Expr) (es:List Expr):List MethE->Option CE
 | []=>none
 | [en]=>gV r C Γ en o es
 | en::en2::_=>(gV r C Γ en o es).bind fun c1=>(gV r C Γ en2 o es).bind fun c2=>bw c1 c2
def OH (r:Rec) (C:Cf) (Γ:Gm) (f:Expr) (es:List Expr) (pos:Pos):Option CE:=match f with
  | .Name x _=>if Sn C.sc x && Oz x then (match C.fs.find? fun p=>p.1 == x && p.2.cl == none with
      | some p=>cE r C Γ p.2 es
      | none=>match C.fs.find? fun p=>p.1 == ("__init__" : Str) && p.2.cl == some x with
      | some p=>Yz r C Γ p.2 x es
      | none=>(C.T.calls.find? fun e=>e.x == x && e.n == es.length).bind fun en=>if C.bl.contains x then UR r C Γ en es else none) else none
  | .Attribute o name apos=>if apos.endLine == pos.line then (match C.T.muts.find? fun e=>e.x == name && e.n == es.length with
      | some en=>(match Yi C o with
        | some q=>UZ r C Γ en q.1 q.2 es
        | none=>(QZ C o).bind fun i=>cH r C Γ en i es)
      | none=>match C.fs.find? fun p=>p.1 == name && p.2.cl != none with
        | some p=>(QZ C o).bind fun i=>Ub r C Γ name p.2 i es
        | none=>jD r C Γ o es (C.T.meths.filter fun e=>e.x == name && e.n == es.length)) else none
  | _=>none
theorem Ui {r:Rec} (R:OkR r) {C:Cf} {X:Cx} {Γ:Gm} {f:Expr} {es:List Expr} {pos:Pos} {c:CE} (ok:Cok C X) (h:OH r C Γ f es pos=some c):PE X (.Call f es [] pos) (tE X.K Γ c.o c.Γ c.js c.f):=by
 cases f with
 | Name x p =>
  simp only [OH] at h;split at h
  ·rename_i h0;rw [dL] at h0;split at h
   ·rename_i p' hp;have e:=mD hp;simp only [dL,beq_iff_eq] at e;have hm:=mV hp;exact XO R ok (s:=p'.2) ⟨by rw [<- e.1];exact hm,e.2⟩ (DR ok h0.1) h0.2 h
   ·split at h
    ·rename_i p' hp;have e:=mD hp;simp only [dL,beq_iff_eq] at e;have hm:=mV hp;exact Uc R ok (s:=p'.2) (by rw [<- e.1];exact hm) e.2 (DR ok h0.1) h0.2 h
    replace h:=bind_some' h;obtain ⟨en,e1,h⟩:=h;split at h
    ·rename_i hb;have e:=mD e1;simp only [dL,beq_iff_eq] at e;obtain ⟨rfl,_⟩:=e;exact UQ R ok (kn.mp hb) (DR ok h0.1) h0.2 h
    ·cases h
  ·cases h
 | Attribute o name apos =>
  simp only [OH] at h;split at h
  ·rename_i hl;split at h
   ·rename_i en he;have e:=mD he;simp only [dL,beq_iff_eq] at e;obtain ⟨rfl,_⟩:=e;split at h
    ·rename_i q hq;exact UY R ok hq hl h
    ·obtain ⟨i,e1,h⟩:=bind_some' h;exact XR R ok e1 hl h
   ·split at h
    ·rename_i p' hp;have e:=mD hp;simp only [dL,beq_iff_eq,bne_iff_ne,ne_eq] at e;obtain ⟨cl,hcl⟩:=Option.ne_none_iff_exists'.mp e.2;have hm:=mV hp;obtain ⟨i,e1,h⟩:=bind_some' h;exact Ua R ok (s:=p'.2) (by rw [<- e.1];exact hm) hcl e1 hl h
    have hm:∀ en∈C.T.meths.filter fun e=>e.x == name && e.n == es.length,en.x=name/\en.n=es.length:=fun en he=>by
     have:=(mY.mp he).2;simp only [dL,beq_iff_eq] at this;exact this
    revert h hm
    generalize (C.T.meths.filter fun e=>e.x == name && e.n == es.length)=L;intro h hm
    match L,hm,h with
    | [],hm,h=>cases h
    | [en],hm,h =>
     obtain ⟨rfl,e2⟩:=hm en kZ;exact Mc R ok hl e2 h
    | en::en2::_,hm,h =>
     obtain ⟨c1,e1,h⟩:=bind_some' h;obtain ⟨c2,e2,h⟩:=bind_some' h;obtain ⟨q1,q2⟩:=hm en kZ;obtain ⟨q3,q4⟩:=hm en2 (kX _ kZ);have p1:=Mc (pos:=pos) (apos:=apos) R ok hl q2 e1;have p2:=Mc (pos:=pos) (apos:=apos) R ok hl q4 e2;rw [q1] at p1;rw [q3] at p2;exact XF p1 p2 h
  ·cases h
 | _=>cases h
def Ja (C:Cf) (x:Str):Option Nat:=if Oz x then (match C.sc.names.lookup x with
 | some .local=>CZ C.N x
 | some .cell=>if C.fn x then CZ C.N x else none
 | _=>none) else none
theorem JZ {C:Cf} {X:Cx} {x:Str} {i:Nat} (ok:Cok C X) (h:Ja C x=some i):X.N[i]?=some x/\Loc X.env.scope x/\(X.fn x=true\/X.env.scope.names.lookup x=some .local):=by
 unfold Ja at h;split at h
 ·split at h
  ·rename_i e;rw [ok.N,ok.sc];exact ⟨BK h,.inl e,.inr e⟩
  ·rename_i e;split at h
   ·rename_i hf;rw [ok.N,ok.sc];exact ⟨BK h,.inr e,.inl (ok.fn x hf)⟩
   ·cases h
  ·cases h
 ·cases h
theorem OK {C:Cf} {X:Cx} {x:Str} {i:Nat} {pos:Pos} (ok:Cok C X) (h:Ja C x=some i):PG X (.Name x pos) (Cj i):=by
 obtain ⟨h1,h2,h3⟩:=JZ ok h;exact WJ ok.nd h1 h2 h3
def cm (C:Cf):List Expr->Option (List Nat)
 | []=>some []
 | .Name x _::es=>(Ja C x).bind fun i=>(cm C es).bind fun J=>some (i::J)
 | _::_=>none
theorem Qp {C:Cf} {X:Cx} (ok:Cok C X):∀ {es:List Expr} {J:List Nat},cm C es=some J->cf X es (Cz J)/\(assignEach es X.env).length=J.length/\(assignEach es X.env).findIdx? (·.1)=none
 | [],J,h=>by cases h;exact ⟨NR,rfl,rfl⟩
 | e::es,J,h=>by
  cases e with
  | Name x pos =>
   obtain ⟨i,e1,h⟩:=bind_some' (show (Ja C x).bind (fun i=>(cm C es).bind fun J=>some (i::J))=some J from h);obtain ⟨J',e2,h⟩:=bind_some' h;cases h;obtain ⟨h1,h2,h3⟩:=Qp ok e2;refine ⟨GY (OK ok e1) h1 rfl,?_,?_⟩
   ·show (assignEach es X.env).length+1=_;rw [h2];rfl
   ·show List.findIdx? (·.1) ((false,assign (.Name x pos) X.env)::assignEach es X.env)=none;rw [List.findIdx?_cons,h3];rfl
  | _=>cases h
structure CG:Type 1 where
 J:List Nat
 f:Tg
 g:W.Frag->TG
 Γ:Gm->Gm
def QL (C:Cf) (e:Expr):Option CG:=match e with
 | .Name x _=>(Ja C x).map fun i=>⟨[i],dF i,fun _=>Cj i,fun Γ=>Γ.set i (some 0)⟩
 | .Tuple es _ _=>(cm C es).map fun J=>⟨J,jS J,fun K=>TB K J.length (Cz J),fun Γ=>RQ Γ J (some 0)⟩
 | _=>none
theorem Me {C:Cf} {X:Cx} {e:Expr} {c:CG} (ok:Cok C X) (h:QL C e=some c):PG X e (c.g X.K)/\(∀ js,(∀ i∈c.J,i∈js)->OP js (c.g X.K))/\∀ {K Γ},c.J.all (fun i=>decide (i < Γ.length))=true->Jc K Γ (c.Γ Γ) c.J (c.g K) c.f:=by
 cases e with
 | Name x pos =>
  cases q:Ja C x with
  | none=>simp only [QL,q] at h;cases h
  | some i =>
   simp only [QL,q] at h;cases h;exact ⟨OK ok q,fun js hj=>Sy (hj i (mw _)),fun h=>VT (by simpa using h)⟩
 | Tuple es k pos =>
  cases q:cm C es with
  | none=>simp only [QL,q] at h;cases h
  | some J =>
   simp only [QL,q] at h;cases h;obtain ⟨h1,h2,h3⟩:=Qp ok q;exact ⟨PG.or (Rq ok.calm h1 h2 h3) (Rt ok.calm h1 h2 h3),fun js hj=>Sx (Nk (Dj J hj)) (Nl (Dj J hj)),fun h=>Qq (by simpa using h)⟩
 | _=>cases h
theorem LL {C:Cf} {e:Expr} {c:CG} (h:QL C e=some c):(∀ K,VF (c.g K))/\(∀ Γ,(c.Γ Γ).length=Γ.length)/\(∀ es env,assignEach (e::es) env=(false,assign e env)::assignEach es env):=by
 cases e with
 | Name x pos =>
  cases q:Ja C x with
  | none=>simp only [QL,q] at h;cases h
  | some i =>
   simp only [QL,q] at h;cases h;exact ⟨fun _=>Hu,fun _=>lD ..,fun _ _=>rfl⟩
 | Tuple es k pos =>
  cases q:cm C es with
  | none=>simp only [QL,q] at h;cases h
  | some J =>
   simp only [QL,q] at h;cases h;exact ⟨fun _=>SW (Ge J),fun _=>RP ..,fun _ _=>rfl⟩
 | _=>cases h
def kP (C:Cf) (e1 e2:Expr):Option CG:=(QL C e1).bind fun c1=>(QL C e2).bind fun c2=>some ⟨c1.J++c2.J,jR c1.f c2.f,fun K=>TB K 2 (CP (c1.g K) (CP (c2.g K) Km)),fun Γ=>c2.Γ (c1.Γ Γ)⟩
def cG (C:Cf) (e:Expr):Option CG:=match QL C e with
 | some c=>some c
 | none=>match e with
  | .Tuple [e1,e2] _ _=>kP C e1 e2
  | _=>none
theorem FN {C:Cf} {X:Cx} {e:Expr} {c:CG} (ok:Cok C X) (h:cG C e=some c):PG X e (c.g X.K)/\(∀ js,(∀ i∈c.J,i∈js)->OP js (c.g X.K))/\∀ {K Γ},c.J.all (fun i=>decide (i < Γ.length))=true->Jc K Γ (c.Γ Γ) c.J (c.g K) c.f:=by
 unfold cG at h;split at h
 ·rename_i c' q;cases h;exact Me ok q
 ·split at h
  ·rename_i e1 e2 k pos _;obtain ⟨c1,q1,h⟩:=bind_some' h;obtain ⟨c2,q2,h⟩:=bind_some' h;cases h;obtain ⟨p1,o1,t1⟩:=Me ok q1;obtain ⟨p2,o2,t2⟩:=Me ok q2;obtain ⟨m1,l1,a1⟩:=LL q1;obtain ⟨m2,l2,a2⟩:=LL q2;have ea:assignEach [e1,e2] X.env=[(false,assign e1 X.env),(false,assign e2 X.env)]:=by rw [a1,a2];rfl
   have hp:cf X [e1,e2] (CP (c1.g X.K) (CP (c2.g X.K) Km)):=GY p1 (GY p2 NR (by rw [a2];rfl)) (by rw [a1];rfl);refine ⟨PG.or (Rq ok.calm hp (by rw [ea];rfl) (by rw [ea];rfl)) (Rt ok.calm hp (by rw [ea];rfl) (by rw [ea];rfl)),fun js hj=>?_,fun {K Γ} h=>?_⟩
   ·have g:=Gr (m1 X.K) (Hv (m2 X.K) Gd) (o1 js fun i hi=>hj i (ko _ hi)) (Gr (m2 X.K) Gd (o2 js fun i hi=>hj i (ka _ hi)) Kl);exact Sx (Nk g) (Nl g)
   ·rw [List.all_append,dL] at h;exact VS (t1 h.1) (t2 (by rw [l1];exact h.2))
  ·cases h
def jC (r:Rec) (C:Cf) (Γ:Gm) (en:SrcE) (es:List Expr):Option CI:=(r.A C Γ [] es).bind fun c=>some ⟨c.Γ,c.js,Ym en.f (AQ c.as)⟩
def cB (r:Rec) (C:Cf) (Γ:Gm) (e:Expr):Option CI:=(r.E C Γ e).bind fun c=>some ⟨c.Γ,c.js,Nu c.f⟩
def RB (r:Rec) (C:Cf) (Γ:Gm) (tt:Bool) (e:Expr):Option CI:=match e with
  | .Call (.Name x _) es [] _=>(match C.T.srcs.find? fun en=>en.x == x && en.n == es.length && (!en.tt || tt) with
      | some en=>if Sn C.sc x && C.bl.contains x && (C.fs.find? fun p=>p.1 == x).isNone then jC r C Γ en es else none
      | none=>cB r C Γ e)
  | e=>cB r C Γ e
theorem Qz {r:Rec} (R:OkR r) {C:Cf} {X:Cx} {Γ:Gm} {e:Expr} {c:CI} (tg:Expr) (ok:Cok C X) (h:RB r C Γ (JI tg) e=some c):PI X tg e (tI X.K Γ c.Γ c.js c.f):=by
 have seq:cB r C Γ e=some c->PI X tg e (tI X.K Γ c.Γ c.js c.f):=fun h=>by
  obtain ⟨c1,e1,h⟩:=bind_some' h;cases h;exact fY (EB (R.E ok e1))
 unfold RB at h;split at h
 ·rename_i x p es pos;split at h
  ·rename_i en he;split at h
   ·rename_i h0;simp only [dL] at h0;have e:=mD he;simp only [dL,beq_iff_eq] at e;obtain ⟨⟨rfl,hn⟩,htt⟩:=e;obtain ⟨c1,e1,h⟩:=bind_some' h;cases h;obtain ⟨a1,a2,a3,a4,a5⟩:=R.A ok e1;obtain ⟨rr,q1,q2⟩:=en.ok X ok.gx;exact PI.imp (q2 tg es p pos _ (fun z=>by rw [z] at htt;simpa using htt) hn.symm a4 (DR ok h0.1.1) (ok.bl _ (kn.mp h0.1.2)) a1) fun _ _ _ h=>VX q1 a2 (a5 rfl) h
   ·cases h
  ·exact seq h
 ·exact seq h
def GS (scope sc:Scope):Scope:={ scope with names:=scope.names.map fun (n,k)=>if (k == .free && sc.kind == .function && sc.names.lookup n == some .cell) then (n,.cell) else (n,k) }
def Cf.inner (C:Cf) (scope:Scope):Cf:={ C with sc:=GS scope C.sc,fn:=AM scope }
theorem Cok.inner {C:Cf} {X:Cx} (ok:Cok C X) (scope:Scope) (cl:List (Str×Addr)) (a:Addr) (s:Shared) (H:Hp) (fp:List Addr):Cok (C.inner scope) (X.inner scope cl a s H fp) where
 N:=ok.N
 sc:=by
  show relabel scope X.env=GS scope C.sc;unfold relabel GS Env.kindOf;rw [ok.sc]
 nd:=ok.nd
 calm:=ok.calm
 fn:=fun _ h=>h
 room:=ok.room
 fs:=ok.fs
 cs:=ok.cs
 bl:=ok.bl
 xe:=rfl
noncomputable def Lz (N:List Str) (scope:Scope):List Nat:=(List.range N.length).filter fun i=>match N[i]? with
 | some x=>(match scope.names.lookup x with | some .local=>true | some .cell=>true | _=>false)
 | none=>false
structure CC:Type 1 where
 t:CG
 c:CT
 e:CE
def Jq (r:Rec) (C:Cf) (Γl:Gm) (tg:CG) (ifs:List Expr) (elt:Expr):Option CC:=if tg.J.all (fun i=>decide (i < Γl.length)) then (match ifs with
 | []=>some (CT.mk (tg.Γ Γl) [] DA)
 | [c]=>r.T C (tg.Γ Γl) c
 | _=>none).bind fun c=>(r.E C c.Γ elt).bind fun e=>some ⟨tg,c,e⟩ else none
def bf (r:Rec) (C:Cf) (tg:CG) (ifs:List Expr) (elt:Expr):Nat->Gm->Option (Gm×CC)
 | 0,_=>none
 | n+1,Γl=>(Jq r C Γl tg ifs elt).bind fun x=>if BX Γl x.c.Γ && BX Γl x.e.Γ then some (Γl,x) else bf r C tg ifs elt n (BW Γl (BW x.c.Γ x.e.Γ))
def IR (r:Rec) (C:Cf) (Γ:Gm) (elt:Expr) (gens:List Comprehension) (scope:Scope):Option CE:=match gens with
  | [⟨tg,iter,ifs,0⟩]=>(match iter with | .Set _ _ _=>none | _=>r.I C Γ (JI tg) iter).bind fun s=>let jx:=Lz C.N scope;if innerOk C.N C.sc scope jx then (cG (C.inner scope) tg).bind fun t=>(bf r (C.inner scope) t ifs elt 4 (LO jx s.Γ)).bind fun p =>
      let J:=Ao p.1 (t.J++(p.2.c.js++p.2.e.js))
      if BX p.1 (LO jx s.Γ) && t.J.all jx.contains then some ⟨1,KF jx s.Γ p.1,s.js++(t.J++(p.2.c.js++p.2.e.js)),match J,ifs with
        | [],[]=>TV s.f t.f p.2.e.f
        | [],_=>TX s.f t.f p.2.c.f p.2.e.f
        | J,[]=>Nx s.f t.f J p.2.e.f
        | J,_=>Nw s.f t.f J p.2.c.f p.2.e.f⟩ else none else none
  | _=>none
theorem JL {r:Rec} {C:Cf} {tg:CG} {ifs:List Expr} {elt:Expr}:∀ {n:Nat} {Γ:Gm} {p:Gm×CC},bf r C tg ifs elt n Γ=some p->Jq r C p.1 tg ifs elt=some p.2/\BX p.1 p.2.c.Γ=true/\BX p.1 p.2.e.Γ=true
 | 0,_,_,h=>by cases h
 | n+1,Γ,p,h=>by
  obtain ⟨x,e1,h⟩:=bind_some' (show (Jq r C Γ tg ifs elt).bind _=some p from h);split at h
  ·rename_i hw;rw [dL] at hw;cases h;exact ⟨e1,hw.1,hw.2⟩
  ·exact JL h
theorem SE {X:Cx} {Γ:Gm}:VL X [] (tT X.K Γ Γ [] DA):=fun pins s σ H Q I h=>by
 obtain ⟨g,m,P,r,R,k,res,e,q⟩:=h;exact wpAny_tests_nil ⟨H,I,q true m g P H e BI.refl Step.refl r⟩
theorem LM {r:Rec} (R:OkR r) {C:Cf} {X:Cx} {Γ:Gm} {elt:Expr} {gens:List Comprehension} {scope:Scope} {pos:Pos} {c:CE} (ok:Cok C X) (h:IR r C Γ elt gens scope=some c):PE X (.ListComp elt gens scope pos) (tE X.K Γ c.o c.Γ c.js c.f):=by
 unfold IR at h;split at h
 ·rename_i tg iter ifs;obtain ⟨s,e1,h⟩:=bind_some' h;simp only at h;split at h
  ·rename_i hin;obtain ⟨t,e2,h⟩:=bind_some' h;obtain ⟨p,e3,h⟩:=bind_some' h;split at h
   ·rename_i hw;rw [dL] at hw;cases h;obtain ⟨f1,f2,f3⟩:=JL e3;unfold Jq at f1;split at f1
    ·rename_i hj;obtain ⟨ct,f1a,f1⟩:=bind_some' f1;obtain ⟨ce,f1b,f1⟩:=bind_some' f1;have ep:p.2=⟨t,ct,ce⟩:=(Option.some.inj f1).symm;have hs:∀ x,foldedSetIterable iter X.env x=pure x:=fun x=>by cases iter<;>first | rfl | (cases e1)
     have hI:r.I C Γ (JI tg) iter=some s:=by cases iter<;>first | exact e1 | (cases e1)
     have hi:=R.I tg ok hI;have okI:=fun cl a s H fp=>ok.inner scope cl a s H fp
     have hg:∀ cl a s H fp,PG (X.inner scope cl a s H fp) tg (t.g X.K):=fun cl a s H fp=>(FN (okI cl a s H fp) e2).1
     have hsx:∀ i∈t.J,i∈Lz C.N scope:=fun i hi=>kn.mp ((lN.mp hw.2) i hi)
     have hgo:OP (Lz C.N scope) (t.g X.K):=(FN (okI [] 0 X.s₀ X.H₀ []) e2).2.1 _ hsx;have ht:Jc X.K p.1 (t.Γ p.1) t.J (t.g X.K) t.f:=(FN (okI [] 0 X.s₀ X.H₀ []) e2).2.2 hj;have he:∀ cl a s H fp,PE (X.inner scope cl a s H fp) elt (tE X.K ct.Γ 0 ce.Γ ce.js ce.f):=fun cl a s H fp=>EB (R.E (okI cl a s H fp) f1b)
     have hin':innerOk X.N X.env.scope scope (Lz C.N scope)=true:=by rw [ok.N,ok.sc];exact hin
     rw [ep] at f2 f3 ⊢;simp only at f2 f3 ⊢;cases ifs with
     | nil =>
      cases f1a;have hc:∀ cl a s H fp,VL (X.inner scope cl a s H fp) [] (tT X.K (t.Γ p.1) (t.Γ p.1) [] DA):=fun cl a s H fp=>SE
      have base:=KZ (pos:=pos) hin' ok.calm hi hg hgo hc he hs;cases hJ:Ao p.1 (t.J++([]++ce.js)) with
      | nil=>exact PE.imp base fun σ H Q h=>Kf ht hw.1 f3 f2 hsx hJ.symm h
      | cons j J=>exact PE.imp base fun σ H Q h=>IM ht hw.1 f3 f2 hsx hJ.symm h
     | cons i1 ifs =>
      cases ifs with
      | nil =>
       have hc:∀ cl a s H fp,VL (X.inner scope cl a s H fp) [i1] (tT X.K (t.Γ p.1) ct.Γ ct.js ct.f):=fun cl a s H fp=>.one (R.T (okI cl a s H fp) f1a)
       have base:=KZ (pos:=pos) hin' ok.calm hi hg hgo hc he hs;cases hJ:Ao p.1 (t.J++(ct.js++ce.js)) with
       | nil=>exact PE.imp base fun σ H Q h=>Kh ht hw.1 f3 f2 hsx hJ.symm h
       | cons j J=>exact PE.imp base fun σ H Q h=>IL ht hw.1 f3 f2 hsx hJ.symm h
      | cons _ _=>cases f1a
    ·cases f1
   ·cases h
  ·cases h
 ·cases h
end R
namespace Q
open PySem L2
section
end
section
end
section
end
section
end
section
end
section
end
noncomputable def zipD2:List Dt->List Dt->List Dt
 | x1::xs1,x2::xs2=>.tup [x1,x2]::zipD2 xs1 xs2
 | _,_=>[]
section
end
section
end
section
end
section
end
section
end
section
end
mutual
noncomputable def Dt.nol:Dt->Bool
 | .tup ds=>nols ds
 | .lst _ _=>false
 | .dic _ _=>false
 | .dti _ _=>false
 | .ref _=>false
 | _=>true
noncomputable def nols:List Dt->Bool
 | []=>true
 | d::ds=>d.nol && nols ds
end
section
end
section
end
section
end
end Q
namespace HT
open PySem PyProof.Rows
section
variable {prog:Program} {w:World} {A:Around} {E:Value->Shared->Prop} {s:Shared}
theorem Ko {α β:Type} {f g:α->Option β}:∀ {l:List α},(∀ a∈l,f a=g a)->l.filterMap f=l.filterMap g
 | [],_=>rfl
 | a::l,h=>by
  rw [mK,mK,h a kZ,Ko fun b hb=>h b (kX _ hb)]
theorem LP (n:Nat):Builtin.Slice.sliceAdjust none none (-1) (n:Int)=((n:Int) - 1,-1):=by
 unfold Builtin.Slice.sliceAdjust;rfl
theorem KY (n:Nat):Builtin.Slice.slicePlaces ((n:Int) - 1) (-1) (-1)=n:=by
 unfold Builtin.Slice.slicePlaces;have h1:¬ ((-1:Int) > 0):=by omega
 simp only [h1,if_false];have h2:(-(-1:Int))=1:=by decide
 simp only [h2,Int.ediv_one];split<;>omega
theorem Os (xs:Array Value):((List.range xs.size).filterMap fun (m:Nat)=>xs[((xs.size:Int) - 1+(m:Int) * (-1)).toNat]?).toArray=xs.toList.reverse.toArray:=by
 have e:(List.range xs.size).filterMap (fun (m:Nat)=>xs[((xs.size:Int) - 1+(m:Int) * (-1)).toNat]?)=((List.range xs.size).map fun k=>xs.size - 1 - k).filterMap (xs[·]?):=by
  rw [nS];refine Ko fun m hm=>?_
  have hm:=mU.mp hm;have:((xs.size:Int) - 1+(m:Int) * (-1)).toNat=xs.size - 1 - m:=by omega
  show _=xs[xs.size - 1 - m]?;rw [this]
 rw [e,W.krv_range,List.filterMap_reverse,W.krv_all]
theorem getItem_tuple_back {t sl:Addr} {items:Array Value} {k:Tok} {Q:Value->Shared->Prop} (ht:IsTup s.heap t items) (hs:s.heap.IsSliceOf sl .none .none (.int (-1) k))
    (h:Q (.ref s.heap.objs.size) { s with heap:=s.heap.push { cls:=.type "tuple", data:=.seq items.toList.reverse.toArray } })
    (hsz:items.size<=sizeLine):wpAny (model prog w) A (getItem (.ref t) (.ref sl)) Q E s:=by
  have htake:sizeOk (.seq items.toList.reverse.toArray):=by
    show items.toList.reverse.toArray.size<=sizeLine;rw [kY,mm,Array.length_toList];exact hsz
  obtain ⟨os,hos,hcs,hds⟩:=id hs
  have hTs:s.TypeIs (.ref sl) "slice" := ⟨os,hos,hcs⟩
  unfold getItem
  try with_reducible refine wpAny_holding ?_
  first | refine wpAny_bind (wpAny_pure ?_) | skip
  refine wpAny_bind (wpAny_sequenceKey ht.typeIs (by decide) ?_)
  refine wpAny_bind (wpAny_callSpecial?_slot (name:=Str.ofString "__getitem__") ht.typeIs lP
    (wpAny_call_entry lP ht.typeIs entry_tuple_getitem ?_ (args_tuple_getitem _ _)))
  show wpAny _ _ (Builtin.Tuple.tupleItemsOf (.ref t) >>= _) _ _ s;refine wpAny_bind (tupleItemsOf_ ht ?_);refine wpAny_bind (wpAny_typeOf hTs ?_);rw [if_pos (by decide)];have ap:∀ {A':Around} {Q:Int×Int×Nat->Shared->Prop},Q ((items.size:Int) - 1,-1,items.size) s->wpAny (model prog w) A' (Builtin.Slice.sliceApplied (.ref sl) (pure (items.size:Int))) Q E s:=fun {A' Q} h=>by
    unfold Builtin.Slice.sliceApplied Builtin.Slice.sliceFields;refine wpAny_bind (wpAny_bind (wpAny_field hos hds (x:=.none) rfl (wpAny_bind (wpAny_field hos hds (x:=.none) rfl (wpAny_bind (wpAny_field hos hds (x:=.int (-1) k) rfl (wpAny_pure ?_)))))));refine wpAny_bind (Df (.int (-1) k) ?_);show wpAny _ _ (if ((-1:Int) == 0)=true then _ else _) _ _ s;rw [if_neg (by decide)];refine wpAny_bind (slicePart_none (wpAny_bind (slicePart_none (wpAny_bind (wpAny_pure ?_)))));show wpAny _ _ (match Builtin.Slice.sliceAdjust none none (-1) (items.size:Int) with | (lo,hi)=>pure (lo,(-1:Int),Builtin.Slice.slicePlaces lo hi (-1))) _ _ s;rw [LP];show wpAny _ _ (pure (((items.size:Int) - 1),(-1:Int),Builtin.Slice.slicePlaces ((items.size:Int) - 1) (-1) (-1))) _ _ s;rw [KY];exact wpAny_pure h
  refine wpAny_bind (ap ?_);have hno:¬ ((((items.size:Int) - 1) == 0 && (-1:Int) == 1 && items.size == items.size)=true):=by
    intro q;rw [dL,dL] at q;exact absurd q.1.2 (by decide)
  show wpAny _ _ (if (((items.size:Int) - 1) == 0 && (-1:Int) == 1 && items.size == items.size)=true then _ else _) _ _ s;rw [if_neg hno,Os]
  first
    | exact wpAny_bind (m:=Builtin.Tuple.tupleExact _) (wpAny_newObj_type (wpAny_pure ⟨_,rfl,wpAny_pure h⟩) htake)
    | exact wpAny_bind (m:=Builtin.Tuple.tupleExact _) (wpAny_newObj_type (wpAny_bind (wpAny_pure (wpAny_pure ⟨_,rfl,wpAny_pure h⟩))) htake)
    | exact wpAny_bind (wpAny_bind (m:=Builtin.Tuple.tupleExact _) (wpAny_newObj_type (wpAny_pure (wpAny_pure ⟨_,rfl,wpAny_pure h⟩)) htake))
    | exact wpAny_bind (wpAny_bind (m:=Builtin.Tuple.tupleExact _) (wpAny_newObj_type (wpAny_pure ⟨_,rfl,wpAny_pure h⟩) htake))
end
end HT
namespace L2
open PySem PySem.Spec PyProof.Rows
section
variable {X:Cx} {e st:Expr} {te ts:TE} {pos p2:Pos}
abbrev dI (K:W.Frag) (te ts:TE):TE:=fun σ H Q=>te σ H fun x H1=>ts σ H1 fun y H2=>∃ a xs b,x=.ref a/\y=.int (-1)/\LX K H2 a xs b/\∀ p,H2 p=none->Q (.ref p) (upd H2 p (bif b then .tup xs.reverse else .lst xs.reverse))
theorem WK (K:W.Frag) (he:PE X e te) (hst:PE X st ts) (hK:X.K=K:=by rfl) (hsub:∀ o i,∃ ops,subscripted (.Slice none none (some st) p2) false o i=operate ops (getItem o i):=by intro o i;exact ⟨_,by with_unfolding_all rfl⟩):PE X (.Subscript e (.Slice none none (some st) p2) pos) (dI K te ts):=by
 subst hK;intro pins s σ H Q I h;refine Subscript_ (An (he pins s σ H _ I h) fun v s1 ⟨x,H1,I1,r1,q1⟩=>?_);refine wpAny_Slice ?_;rw [evalPart_none];refine wpAny_pure ?_;refine wpAny_pure ?_;rw [evalPart_some];refine An (hst pins s1 σ H1 _ I1 q1) fun vs s3 ⟨y,H3,I3,r3,q3⟩=>?_
 obtain ⟨a,xs,b,rfl,rfl,hx,q⟩:=q3;cases r1;obtain ⟨t,rfl⟩:=r3
 have I4:Inv X pins σ H3 { s3 with heap:=s3.heap.push { cls:=.type "slice", data:=.fields #[.none,.none,.int (-1) t] } }:=I3.kept (t':=s3.toks) fun b ob q=>kW _ q
 show wpAny (model X.prog X.w) X.A (subscriptTail e (.Slice none none (some st) p2) (.ref a) (.ref s3.heap.objs.size)) (EP X pins σ Q) X.xe { s3 with heap:=s3.heap.push { cls:=.type "slice", data:=.fields #[.none,.none,.int (-1) t] } }
 obtain ⟨ops,hops⟩:=hsub (.ref a) (.ref s3.heap.objs.size);cases b with
 | false =>
  obtain ⟨its,r,ht,hz⟩:=I4.list hx;have hlen:=r.length;refine tail_any (ops:=ops) ht.isList.typeIs slot_list_getitem.lookup ?_ hops;refine wpAny_getItem_list_slice ht.isList (Heap.IsSliceOf.new ..) .none .none (.int (-1) t) (by decide) ?_ (by rw [kY];omega);rw [W.krv_pick];rw [show its.toArray.toList.reverse=its.reverse by simp]
  have I5:=I4.laid (t':=s3.toks) (o:=.lst xs.reverse) (h':=(s3.heap.push { cls:=.type "slice", data:=.fields #[.none,.none,.int (-1) t] }).push { cls:=.type "list", data:=.seq its.reverse.toArray }) (fun b ob q=>kW _ q) (kb _) ⟨by rw [mm];exact hz,its.reverse,0,Fu r,lA _ rfl⟩
  exact ⟨.ref _,_,I5,rfl,q _ (I4.hok.fresh (kb _))⟩
 | true =>
  obtain ⟨its,r,ht,hz⟩:=I4.tuple hx;have hlen:=r.length;refine tail_any (ops:=ops) ht.typeIs lP.lookup ?_ hops;refine HT.getItem_tuple_back ht (Heap.IsSliceOf.new ..) ?_ (by rw [kY];omega);rw [show its.toArray.toList.reverse=its.reverse by simp]
  have I5:=I4.laid (t':=s3.toks) (o:=.tup xs.reverse) (h':=(s3.heap.push { cls:=.type "slice", data:=.fields #[.none,.none,.int (-1) t] }).push { cls:=.type "tuple", data:=.seq its.reverse.toArray }) (fun b ob q=>kW _ q) (kb _) ⟨by rw [mm];exact hz,its.reverse,Fu r,HJ.new _ _⟩
  exact ⟨.ref _,_,I5,rfl,q _ (I4.hok.fresh (kb _))⟩
end
end L2
namespace Q
open PySem L2
section
end
end Q
namespace R
open PySem L2
noncomputable def bH (f:Expr) (es:List Expr):Option (List Expr):=match f,es with
 | .Name x _,[.Call (.Name y _) (a::es) [] _]=>if x == ("list" : Str) && y == ("range" : Str) then some (a::es) else none
 | _,_=>none
theorem PP {f:Expr} {es as:List Expr} (h:bH f es=some as):∃ p a es' p2 pos2,f=.Name "list" p/\as=a::es'/\es=[.Call (.Name "range" p2) (a::es') [] pos2]:=by
 unfold bH at h;split at h
 ·split at h
  ·rename_i e;rw [dL,beq_iff_eq,beq_iff_eq] at e;obtain ⟨rfl,rfl⟩:=e;cases h;exact ⟨_,_,_,_,_,rfl,rfl,rfl⟩
  ·cases h
 ·cases h
def jv (r:Rec) (C:Cf) (Γ:Gm) (as:List Expr):Option CE:=none
noncomputable def ZQ (f:Expr) (es:List Expr):Option (List Expr):=match f,es with
 | .Name x _,[.Call (.Name y _) (a::es) [] _]=>if x == ("tuple" : Str) && y == ("range" : Str) then some (a::es) else none
 | _,_=>none
theorem OV {f:Expr} {es as:List Expr} (h:ZQ f es=some as):∃ p a es' p2 pos2,f=.Name "tuple" p/\as=a::es'/\es=[.Call (.Name "range" p2) (a::es') [] pos2]:=by
 unfold ZQ at h;split at h
 ·split at h
  ·rename_i e;rw [dL,beq_iff_eq,beq_iff_eq] at e;obtain ⟨rfl,rfl⟩:=e;cases h;exact ⟨_,_,_,_,_,rfl,rfl,rfl⟩
  ·cases h
 ·cases h
def jo (r:Rec) (C:Cf) (Γ:Gm) (as:List Expr):Option CE:=none
noncomputable def bG (f:Expr) (es:List Expr):Option Expr:=match f,es with
 | .Name x _,[.Call (.Name y _) [a] [] _]=>if x == ("list" : Str) && y == ("reversed" : Str) then some a else none
 | _,_=>none
theorem PN {f a:Expr} {es:List Expr} (h:bG f es=some a):∃ p p2 pos2,f=.Name "list" p/\es=[.Call (.Name "reversed" p2) [a] [] pos2]:=by
 unfold bG at h;split at h
 ·split at h
  ·rename_i e;rw [dL,beq_iff_eq,beq_iff_eq] at e;obtain ⟨rfl,rfl⟩:=e;cases h;exact ⟨_,_,_,rfl,rfl⟩
  ·cases h
 ·cases h
def ju (r:Rec) (C:Cf) (Γ:Gm) (a:Expr):Option CE:=none
theorem cJ {r:Rec} (R:OkR r) {C:Cf} {X:Cx} {Γ:Gm} {a:Expr} {p p2 pos2 pos:Pos} {c:CE} (ok:Cok C X) (h:ju r C Γ a=some c):PE X (.Call (.Name "list" p) [.Call (.Name "reversed" p2) [a] [] pos2] [] pos) (tE X.K Γ c.o c.Γ c.js c.f):=by cases h
theorem cK {r:Rec} (R:OkR r) {C:Cf} {X:Cx} {Γ:Gm} {a:Expr} {es':List Expr} {p p2 pos2 pos:Pos} {c:CE} (ok:Cok C X) (h:jv r C Γ (a::es')=some c):PE X (.Call (.Name "list" p) [.Call (.Name "range" p2) (a::es') [] pos2] [] pos) (tE X.K Γ c.o c.Γ c.js c.f):=by cases h
theorem bz {r:Rec} (R:OkR r) {C:Cf} {X:Cx} {Γ:Gm} {a:Expr} {es':List Expr} {p p2 pos2 pos:Pos} {c:CE} (ok:Cok C X) (h:jo r C Γ (a::es')=some c):PE X (.Call (.Name "tuple" p) [.Call (.Name "range" p2) (a::es') [] pos2] [] pos) (tE X.K Γ c.o c.Γ c.js c.f):=by cases h
def Mg (r:Rec) (C:Cf) (Γ:Gm) (f:Expr) (es:List Expr) (pos:Pos):Option CE:=match bH f es with
 | some as=>jv r C Γ as
 | none=>match bG f es with
  | some a=>ju r C Γ a
  | none=>match ZQ f es with
   | some as=>jo r C Γ as
   | none=>OH r C Γ f es pos
theorem QP {r:Rec} (R:OkR r) {C:Cf} {X:Cx} {Γ:Gm} {f:Expr} {es:List Expr} {pos:Pos} {c:CE} (ok:Cok C X) (h:Mg r C Γ f es pos=some c):PE X (.Call f es [] pos) (tE X.K Γ c.o c.Γ c.js c.f):=by
 unfold Mg at h;split at h
 ·rename_i as e;obtain ⟨p,a,es',p2,pos2,rfl,rfl,rfl⟩:=PP e;exact cK R ok h
 ·split at h
  ·rename_i a e;obtain ⟨p,p2,pos2,rfl,rfl⟩:=PN e;exact cJ R ok h
  ·split at h
   ·rename_i as e;obtain ⟨p,a,es',p2,pos2,rfl,rfl,rfl⟩:=OV e;exact bz R ok h
   ·exact Ui R ok h
noncomputable def fV:Expr->Bool
 | .UnaryOp .USub (.Constant (.int 1) _ _) _=>true
 | _=>false
def cC (r:Rec) (C:Cf) (Γ:Gm) (a st:Expr):Option CE:=if fV st then (IY r C Γ a st).bind fun p=>some ⟨1,p.2.Γ,jj p,FC (two C.T.rv) (AQ [p.1.a,p.2.a])⟩ else none
theorem XJ {r:Rec} (R:OkR r) {C:Cf} {X:Cx} {Γ:Gm} {a st:Expr} {p2 pos:Pos} {c:CE} (ok:Cok C X) (h:cC r C Γ a st=some c):PE X (.Subscript a (.Slice none none (some st) p2) pos) (tE X.K Γ c.o c.Γ c.js c.f):=by
 unfold cC at h;split at h
 ·rename_i hm;obtain ⟨p,e1,h⟩:=bind_some' h;cases h;obtain ⟨h1,h2,h3⟩:=EU R ok e1;unfold fV at hm;split at hm
  ·exact PE.imp (WK X.K h1 h2 rfl (by intro o i;exact ⟨_,by with_unfolding_all rfl⟩)) fun _ _ _ h=>CM (C.T.rvok X ok.gx) h3 h
  ·cases hm
 ·cases h
noncomputable def Wi (f:Expr) (es:List Expr) (ks:List Keyword):Option (Expr×Expr):=match f,es,ks with
 | .Name x _,[a],[⟨some y,e,_⟩]=>if x == ("max" : Str) && y == ("default" : Str) then some (a,e) else none
 | _,_,_=>none
theorem PM {f:Expr} {es:List Expr} {ks:List Keyword} {q:Expr×Expr} (h:Wi f es ks=some q):∃ p kp,f=.Name "max" p/\es=[q.1]/\ks=[⟨some "default", q.2,kp⟩]:=by
 unfold Wi at h;split at h
 ·split at h
  ·rename_i e;rw [dL,beq_iff_eq,beq_iff_eq] at e;obtain ⟨rfl,rfl⟩:=e;cases h;exact ⟨_,_,rfl,rfl,rfl⟩
  ·cases h
 ·cases h
def jr (r:Rec) (C:Cf) (Γ:Gm) (a e:Expr):Option CE:=none
theorem cI {r:Rec} (R:OkR r) {C:Cf} {X:Cx} {Γ:Gm} {a e:Expr} {p kp pos:Pos} {c:CE} (ok:Cok C X) (h:jr r C Γ a e=some c):PE X (.Call (.Name "max" p) [a] [⟨some "default", e,kp⟩] pos) (tE X.K Γ c.o c.Γ c.js c.f):=by cases h
def JW (r:Rec) (C:Cf) (Γ:Gm) (f:Expr) (es:List Expr) (ks:List Keyword) (pos:Pos):Option CE:=match ks with
 | []=>Mg r C Γ f es pos
 | k::ks=>match Wi f es (k::ks) with
  | some q=>jr r C Γ q.1 q.2
  | none=>none
theorem QQ {r:Rec} (R:OkR r) {C:Cf} {X:Cx} {Γ:Gm} {f:Expr} {es:List Expr} {ks:List Keyword} {pos:Pos} {c:CE} (ok:Cok C X) (h:JW r C Γ f es ks pos=some c):PE X (.Call f es ks pos) (tE X.K Γ c.o c.Γ c.js c.f):=by
 cases ks with
 | nil=>exact QP R ok h
 | cons k ks =>
  cases q:Wi f es (k::ks) with
  | none=>unfold JW at h;simp only [q] at h;cases h
  | some z =>
   unfold JW at h;simp only [q] at h;obtain ⟨p,kp,e1,e2,e3⟩:=PM q;rw [e1,e2,e3];exact cI R ok h
def ZA (C:Cf) (Γ:Gm) (o:Expr) (f:Str):Option CE:=none
theorem Ud {C:Cf} {X:Cx} {Γ:Gm} {o:Expr} {f:Str} {pos:Pos} {c:CE} (ok:Cok C X) (h:ZA C Γ o f=some c):PE X (.Attribute o f pos) (tE X.K Γ c.o c.Γ c.js c.f):=by cases h
def YF (r:Rec) (C:Cf) (Γ:Gm) (e:Expr):Option CE:=match e with
 | .Constant k _ _=>Uh Γ k
 | .Name x _=>UX C Γ x
 | .BinOp a op b _=>gb r C Γ a op b
 | .UnaryOp .USub a _=>gU r C Γ a
 | .UnaryOp .Not a _=>gT r C Γ a
 | .Compare a [op] [b] _=>(Mf r C Γ a op b).map cq
 | .Compare a [op,op'] [b,c] _=>(QO r C Γ a op b op' c).map cq
 | .BoolOp op vs pos=>RE r C Γ op vs pos
 | .IfExp c a b _=>gX r C Γ c a b
 | .Call f es ks pos=>JW r C Γ f es ks pos
 | .Tuple es _ _=>gQ r C Γ es
 | .List es _=>gW r C Γ es
 | .Dict [] [] _=>some ⟨1,Γ,[],TQ⟩
 | .Subscript a (.Slice lo hi none _) _=>jq r C Γ a lo hi
 | .Subscript a (.Slice none none (some st) _) _=>cC r C Γ a st
 | .Subscript a b _=>if FJ b then jE r C Γ a b else none
 | .ListComp e gens sc _=>IR r C Γ e gens sc
 | .Attribute o f _=>ZA C Γ o f
 | _=>none
theorem RC {r:Rec} (R:OkR r) {C:Cf} {X:Cx} {Γ:Gm} {e:Expr} {c:CE} (ok:Cok C X) (h:YF r C Γ e=some c):PE X e (tE X.K Γ c.o c.Γ c.js c.f):=by
 match e,h with
 | .Constant k j pos,h=>exact QM h
 | .Name x pos,h=>exact UW ok h
 | .BinOp a op b pos,h=>exact XY R ok h
 | .UnaryOp op a pos,h =>
  cases op with
  | USub=>exact XQ R ok h
  | Not =>
   obtain ⟨c1,e1,h⟩:=bind_some' (show (r.E C Γ a).bind _=some c from h);cases h;exact PE.imp (aP (EB (R.E ok e1))) fun _ _ _ h=>ZV h
  | _=>cases h
 | .Compare a ops bs pos,h =>
  match ops,bs,h with
  | [op],[b],h =>
   cases q:Mf r C Γ a op b with
   | none=>replace h:(Mf r C Γ a op b).map cq=some c:=h;rw [q] at h;cases h
   | some t =>
    replace h:(Mf r C Γ a op b).map cq=some c:=h;rw [q] at h;cases h;exact (OF R ok q).2 1
  | [op,op'],[b,d],h =>
   cases q:QO r C Γ a op b op' d with
   | none=>replace h:(QO r C Γ a op b op' d).map cq=some c:=h;rw [q] at h;cases h
   | some t =>
    replace h:(QO r C Γ a op b op' d).map cq=some c:=h;rw [q] at h;cases h;exact (OG R ok q).2 1
  | [],_,h=>cases h
  | [_],[],h=>cases h
  | [_],_::_::_,h=>cases h
  | [_,_],[],h=>cases h
  | [_,_],[_],h=>cases h
  | [_,_],_::_::_::_,h=>cases h
  | _::_::_::_,_,h=>cases h
 | .BoolOp op vs pos,h=>exact Oa R ok h
 | .IfExp c a b pos,h=>exact XT R ok h
 | .Call f es ks pos,h=>exact QQ R ok h
 | .Tuple es k pos,h=>exact XG R ok h
 | .List es pos,h=>exact XS R ok h
 | .Dict ks vs pos,h =>
  cases ks with
  | nil =>
   cases vs with
   | nil=>cases h;exact dw
   | cons _ _=>cases h
  | cons _ _=>cases h
 | .Subscript a b pos,h =>
  have ix:FJ b=true->(if FJ b then jE r C Γ a b else none)=some c->PE X (.Subscript a b pos) (tE X.K Γ c.o c.Γ c.js c.f):=fun hb h=>by
   rw [if_pos hb] at h;exact cL R ok hb h
  match b,h with
  | .Slice lo hi st p2,h =>
   cases st with
   | none=>exact cA R ok h
   | some st =>
    cases lo with
    | none =>
     cases hi with
     | none=>exact XJ R ok h
     | some _=>cases h
    | some _=>cases h
  | .NamedExpr ..,h | .BinOp ..,h | .Lambda ..,h | .Dict ..,h | .Set ..,h | .ListComp ..,h | .SetComp ..,h | .DictComp ..,h | .GeneratorExp ..,h | .Await ..,h | .Yield ..,h | .YieldFrom ..,h | .Call ..,h | .FormattedValue ..,h | .JoinedStr ..,h | .Constant ..,h | .Attribute ..,h | .Subscript ..,h | .Starred ..,h | .Name ..,h | .List ..,h | .Tuple ..,h | .UnaryOp ..,h | .BoolOp ..,h | .IfExp ..,h | .Compare ..,h=>exact ix rfl h
 | .ListComp e gens sc pos,h=>exact LM R ok h
 | .Attribute o f pos,h=>exact Ud ok h
 | .NamedExpr ..,h | .Lambda ..,h | .Set ..,h | .SetComp ..,h | .DictComp ..,h | .GeneratorExp ..,h | .Await ..,h | .Yield ..,h | .YieldFrom ..,h | .FormattedValue ..,h | .JoinedStr ..,h | .Starred ..,h | .Slice ..,h=>cases h
noncomputable def MC:Expr->Bool
 | .ListComp ..=>false
 | .SetComp ..=>false
 | .DictComp ..=>false
 | _=>true
theorem Dq {e:Expr} {t:Option Expr} {l:Nat} {env:Env} (h:MC e=true):swapsWith e t l env=pure false:=by
 cases e<;>first | rfl | (cases h)
theorem Qf {K:W.Frag} {Γ Γ' Γ2:Gm} {js:List Nat} {o:Nat} {f:Ev Dv} {σ:St} {H:Hp} {Q:VK} (hw:BX Γ2 Γ'=true) (h:tE K Γ o Γ2 js f σ H Q):tE K Γ o Γ' js f σ H Q:=by
 obtain ⟨g,m,P,r,R,k,res,e,q⟩:=h;refine ⟨g,m,P,r,R,k,res,e,fun b m' g' P' Pv v H' hk ag s rv r1 n=>?_⟩;obtain ⟨g2,P2,s2,r2⟩:=r1.weaken hw;have nn:Disj Pv P':=fun a q z=>n a z q
 refine q b m' g2 P2 Pv v H' hk ag (s.trans ((s2.frame (R:=Pv)).sub (fun _ z=>z) fun _ z=>z)) (rv.held s2 r1.fpOk nn) r2 fun a q z=>s2.out rv.fpOk nn a z q
def RM (Γ:Gm):CS:=⟨some Γ,[],Gy,false,false,false⟩
def gS (r:Rec) (C:Cf) (Γ:Gm) (e:Expr):Option CS:=(match QZ C e with
 | some i=>(match Γ.getD i none with | some o=>some (CE.mk o (Γ.set i none) [] (Nr i)) | none=>none)
 | none=>r.E C Γ e).bind fun c=>if BX C.F.Γr c.Γ && (C.F.ro == 0 || c.o == C.F.ro) then some ⟨none,c.js,Yo c.f,true,false,false⟩ else none
theorem XM {r:Rec} (R:OkR r) {C:Cf} {X:Cx} {Γl:Option Gm} {Γ:Gm} {e:Expr} {pos:Pos} {c:CS} (ok:Cok C X) (h:gS r C Γ e=some c):PS X (.Return (some e) pos) (tS X.K C.F Γl Γ c.Γ c.js c.f):=by
  obtain ⟨c1,e1,h⟩:=bind_some' h;split at h
  · rename_i hw;simp only [dL,nr,beq_iff_eq] at hw;cases h;have he:PE X e (tE X.K Γ c1.o c1.Γ c1.js c1.f):=by
      split at e1
      · rename_i i hi;split at e1
        · rename_i o ho;cases e1;exact dq (Bv ok hi) (Ap ho)
        · cases e1
      · exact R.E ok e1
    have he2:PE X e (tE X.K Γ C.F.ro c1.Γ c1.js c1.f):=by
      rcases hw.2 with z | z
      · rw [z];exact EB he
      · rw [<- z];exact he
    exact dZ (PE.imp he2 fun _ _ _ h=>Qf hw.1 h)
  · cases h
def cN (r:Rec) (C:Cf) (Γ:Gm) (e:Expr):Option CS:=if MC e then (r.E C Γ e).bind fun c=>some ⟨some c.Γ,c.js,Tc c.f,false,false,false⟩ else none
theorem OE {r:Rec} (R:OkR r) {C:Cf} {X:Cx} {Γl:Option Gm} {Γ:Gm} {e:Expr} {pos:Pos} {c:CS} (ok:Cok C X) (h:cN r C Γ e=some c):PS X (.Expr e pos) (tS X.K C.F Γl Γ c.Γ c.js c.f):=by
 unfold cN at h;split at h
 ·rename_i hn;obtain ⟨c1,e1,h⟩:=bind_some' h;cases h;exact Zp (R.E ok e1) (Dq hn)
 ·cases h
def OD (C:Cf) (x:Str) (c:CE):Option CS:=(Ja C x).bind fun i=>if decide (i < c.Γ.length) && !C.F.io.contains i then some ⟨some (c.Γ.set i (some c.o)),c.js++[i],IG c.f (dF i),false,false,false⟩ else none
theorem LK {C:Cf} {X:Cx} {Γl:Option Gm} {Γ:Gm} {x:Str} {e:Expr} {pos pos':Pos} {c1:CE} {c:CS} (ok:Cok C X) (he:PE X e (tE X.K Γ c1.o c1.Γ c1.js c1.f)) (hs:swapsWith e (some (.Name x pos')) pos.line X.env=pure false) (h:OD C x c1=some c):PS X (.Assign [.Name x pos'] e pos) (tS X.K C.F Γl Γ c.Γ c.js c.f):=by
 obtain ⟨i,e1,h⟩:=bind_some' h;split at h
 ·rename_i hw;simp only [dL,decide_eq_true_eq,lp] at hw;cases h;obtain ⟨h1,h2,h3⟩:=JZ ok e1;exact dY ok.nd h1 h2 (fun z=>by rw [kn.mpr z] at hw;cases hw.2) hw.1 he hs h3
 ·cases h
def iZ (sc:Scope) (x:Str) (pl:Nat) (scope:Scope) (vl:Nat):Bool:=(if sc.kind.isAnnotationScope then ScopeKind.function else sc.kind) == .function && sc.names.lookup x == some .local && pl == vl && !(scope.names.any fun (n,k)=>n == x && (k == .local || k == .cell))
theorem Qv {X:Cx} {C:Cf} (ok:Cok C X) {x:Str} {pos':Pos} {elt:Expr} {gens:List Comprehension} {scope:Scope} {pos:Pos} {l:Nat}:swapsWith (.ListComp elt gens scope pos) (some (.Name x pos')) l X.env=pure (iZ C.sc x pos'.line scope pos.line):=by
 unfold iZ;rw [<- ok.sc];rfl
theorem QN {r:Rec} (R:OkR r) {C:Cf} {X:Cx} {Γ:Gm} {elt:Expr} {gens:List Comprehension} {scope:Scope} {pos:Pos} {c:CE} (ok:Cok C X) (h:IR r C Γ elt gens scope=some c) :
    ∃ t:TE,(∀ σ H Q,tE X.K Γ c.o c.Γ c.js c.f σ H Q->t σ H Q)/\∀ {i x pos' spos},X.N[i]?=some x->Loc X.env.scope x->(X.fn x=true\/X.env.scope.names.lookup x=some .local)->swapsWith (.ListComp elt gens scope pos) (some (.Name x pos')) spos.line X.env=pure true->PS X (.Assign [.Name x pos'] (.ListComp elt gens scope pos) spos) (Js t (Cj i)):=by
  unfold IR at h;split at h
  · rename_i tg iter ifs;obtain ⟨s,e1,h⟩:=bind_some' h;simp only at h;split at h
    · rename_i hin;obtain ⟨t,e2,h⟩:=bind_some' h;obtain ⟨p,e3,h⟩:=bind_some' h;split at h
      · rename_i hw;rw [dL] at hw;cases h;obtain ⟨f1,f2,f3⟩:=JL e3;unfold Jq at f1;split at f1
        · rename_i hj;obtain ⟨ct,f1a,f1⟩:=bind_some' f1;obtain ⟨ce,f1b,f1⟩:=bind_some' f1;have ep:p.2=⟨t,ct,ce⟩:=(Option.some.inj f1).symm;have hs:∀ x,foldedSetIterable iter X.env x=pure x:=fun x=>by cases iter<;>first | rfl | (cases e1)
          have hI:r.I C Γ (JI tg) iter=some s:=by cases iter<;>first | exact e1 | (cases e1)
          have hi:=R.I tg ok hI;have okI:=fun cl a s H fp=>ok.inner scope cl a s H fp
          have hg:∀ cl a s H fp,PG (X.inner scope cl a s H fp) tg (t.g X.K):=fun cl a s H fp=>(FN (okI cl a s H fp) e2).1
          have hsx:∀ i∈t.J,i∈Lz C.N scope:=fun i hi=>kn.mp ((lN.mp hw.2) i hi)
          have hgo:OP (Lz C.N scope) (t.g X.K):=(FN (okI [] 0 X.s₀ X.H₀ []) e2).2.1 _ hsx;have ht:Jc X.K p.1 (t.Γ p.1) t.J (t.g X.K) t.f:=(FN (okI [] 0 X.s₀ X.H₀ []) e2).2.2 hj;have he:∀ cl a s H fp,PE (X.inner scope cl a s H fp) elt (tE X.K ct.Γ 0 ce.Γ ce.js ce.f):=fun cl a s H fp=>EB (R.E (okI cl a s H fp) f1b)
          have hin':innerOk X.N X.env.scope scope (Lz C.N scope)=true:=by rw [ok.N,ok.sc];exact hin
          rw [ep] at f2 f3 ⊢;simp only at f2 f3 ⊢;cases ifs with
          | nil =>
            cases f1a;have hc:∀ cl a s H fp,VL (X.inner scope cl a s H fp) [] (tT X.K (t.Γ p.1) (t.Γ p.1) [] DA):=fun cl a s H fp=>SE
            refine ⟨_,?_,fun {i x pos' spos} hix hx hf hsw=>KU ok.nd hix hx hin' ok.calm hi hg hgo hc he hsw hs hf⟩;intro σ H Q h;cases hJ:Ao p.1 (t.J++([]++ce.js)) with
            | nil=>rw [hJ] at h;exact Kf ht hw.1 f3 f2 hsx hJ.symm h
            | cons j J=>rw [hJ] at h;exact IM ht hw.1 f3 f2 hsx hJ.symm h
          | cons i1 ifs =>
            cases ifs with
            | nil =>
              have hc:∀ cl a s H fp,VL (X.inner scope cl a s H fp) [i1] (tT X.K (t.Γ p.1) ct.Γ ct.js ct.f):=fun cl a s H fp=>.one (R.T (okI cl a s H fp) f1a)
              refine ⟨_,?_,fun {i x pos' spos} hix hx hf hsw=>KU ok.nd hix hx hin' ok.calm hi hg hgo hc he hsw hs hf⟩;intro σ H Q h;cases hJ:Ao p.1 (t.J++(ct.js++ce.js)) with
              | nil=>rw [hJ] at h;exact Kh ht hw.1 f3 f2 hsx hJ.symm h
              | cons j J=>rw [hJ] at h;exact IL ht hw.1 f3 f2 hsx hJ.symm h
            | cons _ _=>cases f1a
        · cases f1
      · cases h
    · cases h
  · cases h
def ZC (r:Rec) (C:Cf) (Γ:Gm) (x:Str) (elt:Expr) (gens:List Comprehension) (scope:Scope):Option CS:=(IR r C Γ elt gens scope).bind fun c=>OD C x c
theorem Um {r:Rec} (R:OkR r) {C:Cf} {X:Cx} {Γl:Option Gm} {Γ:Gm} {x:Str} {elt:Expr} {gens:List Comprehension} {scope:Scope} {pos' cpos pos:Pos} {c:CS} (ok:Cok C X) (h:ZC r C Γ x elt gens scope=some c):PS X (.Assign [.Name x pos'] (.ListComp elt gens scope cpos) pos) (tS X.K C.F Γl Γ c.Γ c.js c.f):=by
 obtain ⟨c1,e1,h⟩:=bind_some' h;cases hb:iZ C.sc x pos'.line scope cpos.line with
 | false=>exact LK ok (LM R ok e1) (by rw [Qv ok,hb]) h
 | true =>
  obtain ⟨i,e2,h⟩:=bind_some' h;split at h
  ·rename_i hw;simp only [dL,decide_eq_true_eq,lp] at hw;cases h;obtain ⟨h1,h2,h3⟩:=JZ ok e2;obtain ⟨t,q1,q2⟩:=QN R (pos:=cpos) ok e1;refine PS.imp (q2 h1 h2 h3 (by rw [Qv ok,hb])) fun D σ H h=>q1 _ _ _ (NG hw.1 (fun z=>by rw [kn.mpr z] at hw;cases hw.2) h)
  ·cases h
noncomputable def fM:Expr->Bool
 | .Tuple ..=>false
 | _=>true
theorem OY {tg e:Expr} {env:Env} (h:fM e=true):swappedStores [tg] e env=pure none:=by
 cases e<;>first | (cases h;done) | (cases tg<;>rfl)
theorem VY {tg e:Expr} {l:Nat} {env:Env} (h:MC e=true):swapsWithSole [tg] e l env=pure false:=Dq h
def Ul (r:Rec) (C:Cf) (Γ:Gm) (es:List Expr) (k:Nat) (p:Pos) (e:Expr):Option CS:=if fM e && MC e then (r.E C Γ e).bind fun c=>(cG C (.Tuple es k p)).bind fun t=>if t.J.all (fun i=>decide (i < c.Γ.length) && !C.F.io.contains i) then some ⟨some (t.Γ c.Γ),c.js++t.J,IG c.f t.f,false,false,false⟩ else none else none
theorem Uk {r:Rec} (R:OkR r) {C:Cf} {X:Cx} {Γl:Option Gm} {Γ:Gm} {es:List Expr} {k:Nat} {p pos:Pos} {e:Expr} {c:CS} (ok:Cok C X) (h:Ul r C Γ es k p e=some c):PS X (.Assign [.Tuple es k p] e pos) (tS X.K C.F Γl Γ c.Γ c.js c.f):=by
 unfold Ul at h;split at h
 ·rename_i hn;rw [dL] at hn;obtain ⟨c1,e1,h⟩:=bind_some' h;obtain ⟨t,e2,h⟩:=bind_some' h;split at h
  ·rename_i hw;cases h;obtain ⟨g1,_,g3⟩:=FN ok e2;rw [lN] at hw;refine dg (EB (R.E ok e1)) g1 (g3 (by rw [lN];exact fun i hi=>(mG.mp (hw i hi)).1)) (fun i hi z=>?_) (VY hn.2) (OY hn.1) rfl;have:=(mG.mp (hw i z)).2;rw [kn.mpr hi] at this;cases this
  ·cases h
 ·cases h
def gF (i j:Nat) (fa:Ev (List Dv)):Es:=fun R m k=>fa R m fun ds m1=>match ds with | [a,b]=>k.nx ((m1.set i a).set j b) | _=>none
def aW (sc:Scope) (x y:Str) (px py:Pos) (a b:Expr):Bool:=(match sc.kind with | .function=>true | _=>false) && (match sc.names.lookup x with | some .local=>true | _=>false) && (match sc.names.lookup y with | some .local=>true | _=>false) && !(x == y) && (py.line == px.line) && BB a && BB b && !(foldedForSure 8 a && foldedForSure 8 b) && !(constantsAlone 8 a && constantsAlone 8 b)
theorem aV {env:Env} {x y:Str} {px py pt pt2:Pos} {kt k2:Nat} {a b:Expr} (h:aW env.scope x y px py a b=true):swappedStores [.Tuple [.Name x px,.Name y py] kt pt] (.Tuple [a,b] k2 pt2) env=pure (some [x,y])/\env.scope.names.lookup x=some .local/\env.scope.names.lookup y=some .local:=by
 unfold aW at h;simp only [dL,lp] at h;obtain ⟨⟨⟨⟨⟨⟨⟨⟨h1,h2⟩,h3⟩,h4⟩,h5⟩,h6⟩,h7⟩,h8⟩,h9⟩:=h;have k1:env.scope.kind=.function:=by split at h1;(assumption);(cases h1)
 have k2:env.scope.names.lookup x=some .local:=by split at h2;(assumption);(cases h2)
 have k3:env.scope.names.lookup y=some .local:=by split at h3;(assumption);(cases h3)
 refine ⟨?_,k2,k3⟩;have kx:env.kindOf x=some .local:=k2;have ky:env.kindOf y=some .local:=k3;have yx:(y == x)=false:=by
  cases q:y == x with
  | false=>rfl
  | true=>rw [beq_iff_eq.mp q,beq_self_eq_true] at h4;cases h4
 unfold swappedStores;simp [Env.blockKind,k1,ScopeKind.isAnnotationScope,kx,ky,beq_iff_eq.mp h5,h8,h9,List.eraseDups_cons,yx,h4,Expr.pos];rintro (z | z)
 ·cases a<;>first | (cases z;done) | (cases h6;done)
 ·cases b<;>first | (cases z;done) | (cases h7;done)
def cD (r:Rec) (C:Cf) (Γ:Gm) (x y:Str) (px py:Pos) (a b:Expr):Option CS:=if aW C.sc x y px py a b then (r.A C Γ [] [a,b]).bind fun c=>(CZ C.N x).bind fun i=>(CZ C.N y).bind fun j=>if decide (i < c.Γ.length) && decide (j < c.Γ.length) && !(i == j) && !C.F.io.contains i && !C.F.io.contains j then some ⟨some ((c.Γ.set i (some 0)).set j (some 0)),c.js++([i]++[j]),gF i j (AQ c.as),false,false,false⟩ else none else none
theorem XN {r:Rec} (R:OkR r) {C:Cf} {X:Cx} {Γl:Option Gm} {Γ:Gm} {x y:Str} {px py pt pt2 pos:Pos} {kt k2:Nat} {a b:Expr} {c:CS} (ok:Cok C X) (h:cD r C Γ x y px py a b=some c):PS X (.Assign [.Tuple [.Name x px,.Name y py] kt pt] (.Tuple [a,b] k2 pt2) pos) (tS X.K C.F Γl Γ c.Γ c.js c.f):=by
 unfold cD at h;split at h
 ·rename_i hp;obtain ⟨c1,e1,h⟩:=bind_some' h;obtain ⟨i,e2,h⟩:=bind_some' h;obtain ⟨j,e3,h⟩:=bind_some' h;split at h
  ·rename_i hw;simp only [dL,decide_eq_true_eq,lp,beq_eq_false_iff_ne] at hw;obtain ⟨⟨⟨⟨w1,w2⟩,w3⟩,w4⟩,w5⟩:=hw;cases h;obtain ⟨a1,a2,a3,a4,a5⟩:=R.A ok e1;rw [<- ok.sc] at hp;obtain ⟨p1,p2,p3⟩:=aV (pt:=pt) (pt2:=pt2) (kt:=kt) (k2:=k2) hp;refine PS.imp (aC ok.calm ok.nd (by rw [ok.N];exact BK e2) (by rw [ok.N];exact BK e3) w3 p2 p3 a1 p1 rfl) fun D σ H h=>?_
   obtain ⟨g,m,P,r',R',k,res,e,q⟩:=h;refine AL c1.as r' a2 e fun ds m1 g1 P1 vs H1 hk ag s ar r1=>?_
   have rp:=ar.reps (a5 rfl)
   match ds,hk,rp with
   | [d1,d2],hk,rp =>
    obtain ⟨v1,us,rfl,h1,rp⟩:=BC rp;obtain ⟨v2,us2,rfl,h2,rp⟩:=BC rp;cases Ay rp;obtain ⟨P2,r2,s2⟩:=r1.setNew w1 h1 fun _ z=>z.elim
    obtain ⟨P3,r3,s3⟩:=r2.setNew (by rw [lD];exact w2) h2 fun _ z=>z.elim
    refine ⟨v1,v2,rfl,q.nx _ _ g1 P3 _ H1 rfl hk (ag.trans (BI.set.trans BI.set)) (s.less fun a z=>(s3 a z).elim (fun z=>(s2 a z).elim id False.elim) False.elim) ((Io.set ?_).trans (Io.set ?_)) r3⟩
    ·exact fun z=>by rw [kn.mpr z] at w4;cases w4
    ·exact fun z=>by rw [kn.mpr z] at w5;cases w5
   | [],hk,_=>cases hk
   | [_],hk,_=>cases hk
   | _::_::_::_,hk,_=>cases hk
  ·cases h
 ·cases h
def UL (r:Rec) (C:Cf) (Γ:Gm) (x k e:Expr):Option CS:=if FJ k then (QZ C x).bind fun i=>(r.E C Γ e).bind fun c=>(QU r C c.Γ k).bind fun a=>if (c.Γ.getD i none).isSome && a.Γ.getD i none == some 1 then some ⟨some a.Γ,c.js++((a.js++[])++[i]),Yn i C.T.st c.f (AQ [a.a]),false,false,false⟩ else none else none
theorem Hj {X:Cx} {x k:Expr} {tpos:Pos} (hk:FJ k=true):∀ v,assign (.Subscript x k tpos) X.env v=(do
      let ov <- holding [v] (eval x X.env)
      let iv <- holding [v,ov] (eval k X.env)
      standAt tpos
      holding [v,ov,iv] (setItem ov iv v)
      release [v,ov,iv] []):=fun v=>by
  cases k<;>first | rfl | (cases hk)
theorem Jy {x k e:Expr} {p:Pos} {l:Nat} {env:Env}:swapsWithSole [.Subscript x k p] e l env=pure false:=by cases e<;>rfl
theorem UK {r:Rec} (R:OkR r) {C:Cf} {X:Cx} {Γl:Option Gm} {Γ:Gm} {x k e:Expr} {tpos pos:Pos} {c:CS} (ok:Cok C X) (h:UL r C Γ x k e=some c):PS X (.Assign [.Subscript x k tpos] e pos) (tS X.K C.F Γl Γ c.Γ c.js c.f):=by
 unfold UL at h;split at h
 ·rename_i hn;obtain ⟨i,e0,h⟩:=bind_some' h;obtain ⟨c1,e1,h⟩:=bind_some' h;obtain ⟨a,e2,h⟩:=bind_some' h;split at h
  ·rename_i hw;rw [dL] at hw;cases h;obtain ⟨a1,a2⟩:=Fi R ok e2;obtain ⟨T,t1,t2⟩:=C.T.stok X ok.gx;refine PS.imp (Lv (EB (R.E ok e1)) (Rr (Bv ok e0) a1 t1 (Hj hn)) Jy ?_ rfl) fun D σ H h=>RN t2 a2 (getD_some hw.1) (Ap (beq_iff_eq.mp hw.2)) h
   cases e<;>rfl
  ·cases h
 ·cases h
def UN (r:Rec) (C:Cf) (Γ:Gm) (q:Nat×Str) (k e:Expr):Option CS:=if FJ k then (r.E C Γ e).bind fun c=>(QU r C c.Γ k).bind fun a=>if (c.Γ.getD q.1 none).isSome && a.Γ.getD q.1 none == some 1 then some ⟨some a.Γ,c.js++((a.js++[])++[q.1]),TL q.1 q.2 C.T.st c.f (AQ [a.a]),false,false,false⟩ else none else none
theorem UM {r:Rec} (R:OkR r) {C:Cf} {X:Cx} {Γl:Option Gm} {Γ:Gm} {x k e:Expr} {q:Nat×Str} {tpos pos:Pos} {c:CS} (ok:Cok C X) (hq:Yi C x=some q) (h:UN r C Γ q k e=some c):PS X (.Assign [.Subscript x k tpos] e pos) (tS X.K C.F Γl Γ c.Γ c.js c.f):=by
 unfold UN at h;split at h
 ·rename_i hn;obtain ⟨c1,e1,h⟩:=bind_some' h;obtain ⟨a,e2,h⟩:=bind_some' h;split at h
  ·rename_i hw;rw [dL] at hw;cases h;obtain ⟨a1,a2⟩:=Fi R ok e2;obtain ⟨T,t1,t2⟩:=C.T.stok X ok.gx;refine PS.imp (Lv (EB (R.E ok e1)) (Rr (Gw ok hq) a1 t1 (Hj hn)) Jy ?_ rfl) fun D σ H h=>RS t2 a2 (getD_some hw.1) (Ap (beq_iff_eq.mp hw.2)) h
   cases e<;>rfl
  ·cases h
 ·cases h
def UP (r:Rec) (C:Cf) (Γ:Gm) (x k e:Expr):Option CS:=match Yi C x with
 | some q=>UN r C Γ q k e
 | none=>UL r C Γ x k e
theorem UO {r:Rec} (R:OkR r) {C:Cf} {X:Cx} {Γl:Option Gm} {Γ:Gm} {x k e:Expr} {tpos pos:Pos} {c:CS} (ok:Cok C X) (h:UP r C Γ x k e=some c):PS X (.Assign [.Subscript x k tpos] e pos) (tS X.K C.F Γl Γ c.Γ c.js c.f):=by
 unfold UP at h;split at h
 ·rename_i q hq;exact UM R ok hq h
 ·exact UK R ok h
def Ug (r:Rec) (C:Cf) (Γ:Gm) (o:Expr) (f:Str) (e:Expr):Option CS:=if MC e then (QZ C o).bind fun i=>(r.E C Γ e).bind fun c=>if decide (c.o<=1) && c.Γ.getD i none == some 1 then some ⟨some c.Γ,c.js++[i],Ta i f c.o c.f,false,false,false⟩ else none else none
theorem Ue {r:Rec} (R:OkR r) {C:Cf} {X:Cx} {Γl:Option Gm} {Γ:Gm} {o e:Expr} {f:Str} {tpos pos:Pos} {c:CS} (ok:Cok C X) (h:Ug r C Γ o f e=some c):PS X (.Assign [.Attribute o f tpos] e pos) (tS X.K C.F Γl Γ c.Γ c.js c.f):=by
 unfold Ug at h;split at h
 ·rename_i hn;obtain ⟨i,hi,h⟩:=bind_some' h;obtain ⟨c1,e1,h⟩:=bind_some' h;split at h
  ·rename_i hw;simp only [dL,decide_eq_true_eq] at hw;cases h;exact PS.imp (aD (Bv ok hi) (R.E ok e1) (Dq hn)) fun D σ H h=>TJ hw.1 (Ap (beq_iff_eq.mp hw.2)) h
  ·cases h
 ·cases h
def Ye:Option Gm->Option Gm->Option Gm
 | some a,some b=>some (BW a b)
 | none,b=>b
 | a,none=>a
def jw (r:Rec) (C:Cf) (Γl:Option Gm) (Γ:Gm) (c:Expr) (a b:List Stmt):Option CS:=(r.T C Γ c).bind fun t=>(r.Ss C Γl t.Γ a).bind fun x=>(r.Ss C Γl t.Γ b).bind fun y=>let Γn:=Ye x.Γ y.Γ;let js:=t.js++(x.js++y.js);if JF Γn x.Γ && JF Γn y.Γ then some ⟨Γn,js,match x.Γ,y.Γ,Γn with
      | some _,some _,some Γ'=>if x.er || x.eb || x.ec || y.er || y.eb || y.ec then Ks t.f x.f y.f else gG (Ao Γ' js) (Ks t.f x.f y.f)
      | _,_,_=>Ks t.f x.f y.f,x.er || y.er,x.eb || y.eb,x.ec || y.ec⟩ else none
theorem cM {r:Rec} (R:OkR r) {C:Cf} {X:Cx} {Γl:Option Gm} {Γ:Gm} {t:Expr} {a b:List Stmt} {pos:Pos} {c:CS} (ok:Cok C X) (h:jw r C Γl Γ t a b=some c):PS X (.If t a b pos) (tS X.K C.F Γl Γ c.Γ c.js c.f):=by
 obtain ⟨ct,e1,h⟩:=bind_some' h;obtain ⟨x,e2,h⟩:=bind_some' h;obtain ⟨y,e3,h⟩:=bind_some' h;simp only at h;split at h
 ·rename_i hw;rw [dL] at hw;have base:PS X (.If t a b pos) (tS X.K C.F Γl Γ (Ye x.Γ y.Γ) (ct.js++(x.js++y.js)) (Ks ct.f x.f y.f)):=ib (R.T ok e1) (RV (R.Ss ok e2) hw.1) (RV (R.Ss ok e3) hw.2);cases h;split
  ·rename_i Γ' _ _ hj;split
   ·exact base
   ·simp only [hj] at base ⊢;exact PS.imp base fun D σ H h=>bR (fun i o z=>BH z) (fun i z=>Av z) h
  ·exact base
 ·cases h
def gg (r:Rec) (C:Cf) (Γ:Gm) (x:Str) (op:Operator) (e:Expr):Option CS:=none
theorem XZ {r:Rec} (R:OkR r) {C:Cf} {X:Cx} {Γl:Option Gm} {Γ:Gm} {x:Str} {op:Operator} {e:Expr} {pos pos':Pos} {c:CS} (ok:Cok C X) (h:gg r C Γ x op e=some c):PS X (.AugAssign (.Name x pos') op e pos) (tS X.K C.F Γl Γ c.Γ c.js c.f):=by cases h
def TK (r:Rec) (C:Cf) (pre:Gm->Gm) (body:List Stmt):Nat->Gm->Option (Gm×CS)
 | 0,_=>none
 | n+1,Γ=>match r.Ss C (some Γ) (pre Γ) body with
  | some x=>if JF (some Γ) x.Γ then some (Γ,x) else TK r C pre body n (match x.Γ with | some Γ'=>BW Γ Γ' | none=>Γ)
  | none=>TK r C pre body n (Γ.map fun o=>o.map fun _=>0)
theorem JK {r:Rec} {C:Cf} {pre:Gm->Gm} {body:List Stmt}:∀ {n:Nat} {Γ:Gm} {p:Gm×CS},TK r C pre body n Γ=some p->r.Ss C (some p.1) (pre p.1) body=some p.2/\JF (some p.1) p.2.Γ=true
 | 0,_,_,h=>by cases h
 | n+1,Γ,p,h=>by
  unfold TK at h;split at h
  ·rename_i x hx;split at h
   ·rename_i hw;cases h;exact ⟨hx,hw⟩
   ·exact JK h
  ·exact JK h
def gY (r:Rec) (C:Cf) (Γ:Gm) (tg iter:Expr) (body:List Stmt):Option CS:=(match iter with | .Set _ _ _=>none | _=>r.I C Γ (JI tg) iter).bind fun s=>(cG C tg).bind fun t=>if t.J.all (fun i=>decide (i < s.Γ.length) && !C.F.io.contains i) then (TK r C t.Γ body 4 s.Γ).bind fun p=>if BX p.1 s.Γ then
    let jb:=t.J++p.2.js
    some ⟨some p.1,s.js++jb,if p.2.er || p.2.eb then TY s.f t.f (Ao p.1 jb) (Ao C.F.Γr jb) p.2.f else TZ s.f t.f (Ao p.1 jb) p.2.f,p.2.er,false,false⟩ else none else none
theorem XU {r:Rec} (R:OkR r) {C:Cf} {X:Cx} {Γl:Option Gm} {Γ:Gm} {tg iter:Expr} {body:List Stmt} {pos:Pos} {c:CS} (ok:Cok C X) (h:gY r C Γ tg iter body=some c):PS X (.For tg iter body [] pos) (tS X.K C.F Γl Γ c.Γ c.js c.f):=by
 obtain ⟨s,e1,h⟩:=bind_some' h;obtain ⟨t,e2,h⟩:=bind_some' h;split at h
 ·rename_i hj;obtain ⟨p,e3,h⟩:=bind_some' h;split at h
  ·rename_i hw;have hs:∀ x,foldedSetIterable iter X.env x=pure x:=fun x=>by cases iter<;>first | rfl | (cases e1)
   have hI:r.I C Γ (JI tg) iter=some s:=by cases iter<;>first | exact e1 | (cases e1)
   obtain ⟨f1,f2⟩:=JK e3;obtain ⟨g1,_,g3⟩:=FN ok e2;rw [lN] at hj;have hJ:t.J.all (fun i=>decide (i < p.1.length))=true:=by
    rw [lN];intro i hi;rw [DQ hw];exact (mG.mp (hj i hi)).1
   have hio:∀ i∈C.F.io,i∉t.J:=fun i hi z=>by
    have:=(mG.mp (hj i z)).2;rw [kn.mpr hi] at this;cases this
   have hi:PI X tg iter (tI X.K Γ p.1 s.js s.f):=PI.imp (R.I tg ok hI) fun _ _ _ h=>VP hw h
   have hp:PassesOwn (model X.prog X.w) X.A X.env X.xe:=by rw [ok.xe];exact PassesOwn.never
   have hb:=R.Ss ok f1;simp only at h;cases h;split
   ·exact Zn hp ok.calm hi g1 (g3 hJ) hio hb f2 rfl rfl hs
   ·exact Zo hp ok.calm hi g1 (g3 hJ) hio hb f2 rfl hs
  ·cases h
 ·cases h
noncomputable def hW:Nat:=1000000
def iJ (r:Rec) (C:Cf) (Γ:Gm) (c:Expr) (body:List Stmt):Option CS:=(fixW r C c body 4 Γ).bind fun p=>if BX p.1 Γ then some ⟨some p.1,p.2.2.js,if p.2.2.er || p.2.2.eb then Yj hW p.2.1.f (Ao p.1 p.2.2.js) (Ao C.F.Γr p.2.2.js) p.2.2.f else Yk hW p.2.1.f (Ao p.1 p.2.2.js) p.2.2.f,p.2.2.er,false,false⟩ else none
where
 fixW (r:Rec) (C:Cf) (c:Expr) (body:List Stmt):Nat->Gm->Option (Gm×CT×CS)
 | 0,_=>none
 | n+1,Γ=>(r.T C Γ c).bind fun t=>if t.js.isEmpty && BX Γ t.Γ then (match r.Ss C (some Γ) Γ body with
  | some x=>if JF (some Γ) x.Γ then some (Γ,t,x) else fixW r C c body n (match x.Γ with | some Γ'=>BW Γ Γ' | none=>Γ)
  | none=>fixW r C c body n (Γ.map fun o=>o.map fun _=>0)) else fixW r C c body n (BW Γ t.Γ)
theorem Fe {r:Rec} {C:Cf} {c:Expr} {body:List Stmt}:∀ {n:Nat} {Γ:Gm} {p:Gm×CT×CS},iJ.fixW r C c body n Γ=some p->r.T C p.1 c=some p.2.1/\p.2.1.js=[]/\BX p.1 p.2.1.Γ=true/\r.Ss C (some p.1) p.1 body=some p.2.2/\JF (some p.1) p.2.2.Γ=true
 | 0,_,_,h=>by cases h
 | n+1,Γ,p,h=>by
  unfold iJ.fixW at h;obtain ⟨t,e1,h⟩:=bind_some' h;split at h
  ·rename_i hw;rw [dL] at hw;split at h
   ·rename_i x hx;split at h
    ·rename_i hl;cases h;exact ⟨e1,List.isEmpty_iff.mp hw.1,hw.2,hx,hl⟩
    ·exact Fe h
   ·exact Fe h
  ·exact Fe h
theorem da {X:Cx} {F:Fr} {Γl Γn:Option Gm} {Γ Γ':Gm} {js:List Nat} {s:Stmt} {f:Es} (hw:BX Γ' Γ=true) (h:PS X s (tS X.K F Γl Γ' Γn js f)):PS X s (tS X.K F Γl Γ Γn js f):=PS.imp h fun D σ H h=>by
 obtain ⟨g,m,P,r,R,k,res,e,q⟩:=h;obtain ⟨g2,P2,s2,r2⟩:=r.weaken hw;exact ⟨g2,m,P2,r2,R,k,res,e,⟨fun Γ' m' g' P' σ' H' e hk a s'=>q.nx Γ' m' g' P' σ' H' e hk a (s2.trans s'),fun d m' g' P' Pv σ' v H' hk a s'=>q.rt d m' g' P' Pv σ' v H' hk a (s2.trans s'),fun Γ' m' g' P' σ' H' e hk a s'=>q.bk Γ' m' g' P' σ' H' e hk a (s2.trans s'),fun Γ' m' g' P' σ' H' e hk a s'=>q.ct Γ' m' g' P' σ' H' e hk a (s2.trans s')⟩⟩
theorem bu {r:Rec} (R:OkR r) {C:Cf} {X:Cx} {Γl:Option Gm} {Γ:Gm} {t:Expr} {body:List Stmt} {pos:Pos} {c:CS} (ok:Cok C X) (h:iJ r C Γ t body=some c):PS X (.While t body [] pos) (tS X.K C.F Γl Γ c.Γ c.js c.f):=by
 obtain ⟨p,e1,h⟩:=bind_some' h;split at h
 ·rename_i hw;cases h;obtain ⟨f1,f2,f3,f4,f5⟩:=Fe e1;have hp:PassesOwn (model X.prog X.w) X.A X.env X.xe:=by rw [ok.xe];exact PassesOwn.never
  have ht:=R.T ok f1;rw [f2] at ht;refine da hw ?_;split
  ·exact dW hW hp ht (R.Ss ok f4) f3 f5 rfl rfl
  ·exact dX hW hp ht (R.Ss ok f4) f3 f5 rfl
 ·cases h
def gH:Es:=fun _ m k=>k.ct m
def bh:Es:=fun _ _ _=>none
def gZ (Γl:Option Gm) (Γ:Gm):Option CS:=none
def cP (Γl:Option Gm) (Γ:Gm):Option CS:=match Γl with
 | some Γ'=>if BX Γ' Γ then some ⟨none,[],gH,false,false,true⟩ else none
 | none=>none
theorem XX {C:Cf} {X:Cx} {Γl:Option Gm} {Γ:Gm} {pos:Pos} {c:CS} (h:gZ Γl Γ=some c):PS X (.Break pos) (tS X.K C.F Γl Γ c.Γ c.js c.f):=by cases h
theorem XW {C:Cf} {X:Cx} {Γl:Option Gm} {Γ:Gm} {pos:Pos} {c:CS} (h:cP Γl Γ=some c):PS X (.Continue pos) (tS X.K C.F Γl Γ c.Γ c.js c.f):=by
  unfold cP at h;split at h
  · rename_i Γ';split at h
    · rename_i hw;cases h;exact PS.imp KW fun D σ H h=>by
        obtain ⟨g,m,P,r,R,k,res,e,q⟩:=h;obtain ⟨g2,P2,s2,r2⟩:=r.weaken hw;exact q.ct Γ' m g2 P2 σ H rfl e BI.refl s2 Io.refl r2
    · cases h
  · cases h
noncomputable def YS (es:List Expr) (e:Expr):Option (Str×Pos×Str×Pos×Expr×Expr):=match es with
 | [.Name x px,.Name y py]=>match e with
  | .Tuple [a,b] _ _=>some (x,px,y,py,a,b)
  | _=>none
 | _=>none
noncomputable def Qu (es:List Expr):Option (Expr×Expr×Expr×Expr):=match es with
 | [.Subscript x k _,.Subscript y j _]=>some (x,k,y,j)
 | _=>none
theorem Lg {es:List Expr} {t:Expr×Expr×Expr×Expr} (h:Qu es=some t):∃ p q,es=[.Subscript t.1 t.2.1 p,.Subscript t.2.2.1 t.2.2.2 q]:=by
 unfold Qu at h;split at h
 ·cases h;exact ⟨_,_,rfl⟩
 ·cases h
def gR (r:Rec) (C:Cf) (Γ:Gm) (x k y j e:Expr):Option CS:=none
theorem XI {r:Rec} (R:OkR r) {C:Cf} {X:Cx} {Γl:Option Gm} {Γ:Gm} {x k y j e:Expr} {p q pt pos:Pos} {kt:Nat} {c:CS} (ok:Cok C X) (h:gR r C Γ x k y j e=some c):PS X (.Assign [.Tuple [.Subscript x k p,.Subscript y j q] kt pt] e pos) (tS X.K C.F Γl Γ c.Γ c.js c.f):=by cases h
def UJ (r:Rec) (C:Cf) (Γ:Gm) (es:List Expr) (k:Nat) (p:Pos) (e:Expr):Option CS:=match YS es e with
 | some t=>cD r C Γ t.1 t.2.2.1 t.2.1 t.2.2.2.1 t.2.2.2.2.1 t.2.2.2.2.2
 | none=>match Qu es with
  | some t=>gR r C Γ t.1 t.2.1 t.2.2.1 t.2.2.2 e
  | none=>Ul r C Γ es k p e
theorem UI {r:Rec} (R:OkR r) {C:Cf} {X:Cx} {Γl:Option Gm} {Γ:Gm} {es:List Expr} {k:Nat} {p pos:Pos} {e:Expr} {c:CS} (ok:Cok C X) (h:UJ r C Γ es k p e=some c):PS X (.Assign [.Tuple es k p] e pos) (tS X.K C.F Γl Γ c.Γ c.js c.f):=by
 unfold UJ at h;split at h
 ·rename_i t q;unfold YS at q;split at q
  ·split at q
   ·cases q;exact XN R ok h
   ·cases q
  ·cases q
 ·split at h
  ·rename_i t q;obtain ⟨p1,p2,rfl⟩:=Lg q;exact XI R ok h
  ·exact Uk R ok h
theorem Xj {r:Rec} (R:OkR r) {C:Cf} {X:Cx} {Γl:Option Gm} {Γ:Gm} {x:Str} {p pos:Pos} {e:Expr} {c:CS} (ok:Cok C X) (h:(if MC e then (r.E C Γ e).bind fun c=>OD C x c else none)=some c):PS X (.Assign [.Name x p] e pos) (tS X.K C.F Γl Γ c.Γ c.js c.f):=by
 split at h
 ·rename_i hn;obtain ⟨c1,e1,h⟩:=bind_some' h;exact LK ok (R.E ok e1) (Dq hn) h
 ·cases h
def YE (r:Rec) (C:Cf) (Γl:Option Gm) (Γ:Gm) (s:Stmt):Option CS:=match s with
 | .Pass _=>some (RM Γ)
 | .Expr (.Constant (.str _) _ _) _=>some (RM Γ)
 | .Expr e _=>cN r C Γ e
 | .Return (some e) _=>gS r C Γ e
 | .Assign [.Name x _] (.ListComp elt gens scope _) _=>ZC r C Γ x elt gens scope
 | .Assign [.Name x _] e _=>if MC e then (r.E C Γ e).bind fun c=>OD C x c else none
 | .Assign [.Tuple es k p] e _=>UJ r C Γ es k p e
 | .Assign [.Subscript x k _] e _=>UP r C Γ x k e
 | .Assign [.Attribute o f _] e _=>Ug r C Γ o f e
 | .AugAssign (.Name x _) op e _=>gg r C Γ x op e
 | .If c a b _=>jw r C Γl Γ c a b
 | .For tg iter body [] _=>gY r C Γ tg iter body
 | .While c body [] _=>iJ r C Γ c body
 | .Break _=>gZ Γl Γ
 | .Continue _=>cP Γl Γ
 | .Raise _ _ _=>some ⟨none,[],bh,false,false,false⟩
 | _=>none
theorem Qy {r:Rec} (R:OkR r) {C:Cf} {X:Cx} {Γl:Option Gm} {Γ:Gm} {s:Stmt} {c:CS} (ok:Cok C X) (h:YE r C Γl Γ s=some c):PS X s (tS X.K C.F Γl Γ c.Γ c.js c.f):=by
 cases s with
 | Pass _=>cases h;exact Zl
 | Expr e _ =>
  cases e with
  | Constant k _ _ =>
   cases k with
   | str _=>cases h;exact df
   | _=>exact OE R ok h
  | _=>exact OE R ok h
 | Return v _ =>
  cases v with
  | none=>cases h
  | some e=>exact XM R ok h
 | Assign ts e _ =>
  match ts,h with
  | [],h=>cases h
  | t::_::_,h=>cases t<;>cases h
  | [t],h =>
   cases t with
   | Name x _ =>
    cases e with
    | ListComp elt gens scope _=>exact Um R ok h
    | _=>exact Xj R ok h
   | Tuple es k p=>exact UI R ok h
   | Subscript x k _=>exact UO R ok h
   | Attribute o f _=>exact Ue R ok h
   | _=>cases h
 | AugAssign t op e _ =>
  cases t with
  | Name x _=>exact XZ R ok h
  | _=>cases h
 | If c a b _=>exact cM R ok h
 | For tg iter body o _ =>
  cases o with
  | nil=>exact XU R ok h
  | cons _ _=>cases h
 | While c body o _ =>
  cases o with
  | nil=>exact bu R ok h
  | cons _ _=>cases h
 | Break _=>exact XX h
 | Continue _=>exact XW h
 | Raise _ _ _ =>
  cases h;intro pins s σ H D I q;obtain ⟨g,m,P,r,R,k,res,e,q⟩:=q;cases e
 | _=>cases h
def Qx (r:Rec) (C:Cf) (Γl:Option Gm) (Γ:Gm) (ss:List Stmt):Option CS:=match ss with
 | []=>some (RM Γ)
 | [s]=>r.S C Γl Γ s
 | s::ss=>(r.S C Γl Γ s).bind fun x=>match x.Γ with
  | none=>some x
  | some Γ'=>(r.Ss C Γl Γ' ss).bind fun y=>some ⟨y.Γ,x.js++y.js,gD x.f y.f,x.er || y.er,x.eb || y.eb,x.ec || y.ec⟩
theorem OZ {r:Rec} (R:OkR r) {C:Cf} {X:Cx} {Γl:Option Gm} {Γ:Gm} {ss:List Stmt} {c:CS} (ok:Cok C X) (h:Qx r C Γl Γ ss=some c):Cq X ss (tS X.K C.F Γl Γ c.Γ c.js c.f):=by
 match ss,h with
 | [],h=>cases h;exact de
 | [s],h=>exact dc (R.S ok h)
 | s::s2::ss,h =>
  obtain ⟨x,e1,h⟩:=bind_some' (show (r.S C Γl Γ s).bind _=some c from h);have h1:=R.S ok e1;cases hx:x.Γ with
  | none =>
   simp only [hx] at h;cases h;rw [hx] at h1 ⊢;exact Zm h1
  | some Γ' =>
   simp only [hx] at h;obtain ⟨y,e2,h⟩:=bind_some' h;cases h;rw [hx] at h1;exact Zq (f:=x.f) (f2:=y.f) (js:=x.js) (js2:=y.js) h1 (R.Ss ok e2)
def step (r:Rec):Rec:=⟨YF r,Ju r,YD r,RB r,YE r,Qx r⟩
def comp:Nat->Rec
 | 0=>⟨fun _ _ _=>none,fun _ _ _ _=>none,fun _ _ _=>none,fun _ _ _ _=>none,fun _ _ _ _=>none,fun _ _ _ _=>none⟩
 | n+1=>step (comp n)
theorem OA:∀ n,OkR (comp n)
 | 0=>⟨(fun _ h=>by cases h),(fun _ h=>by cases h),(fun _ h=>by cases h),(fun _ _ h=>by cases h),(fun _ h=>by cases h),(fun _ h=>by cases h),fun _ h=>by cases h⟩
 | n+1=>have R:=OA n;⟨fun ok h=>RC R ok h,fun ok h=>RF R ok h,fun ok h=>Qw R ok h,fun tg ok h=>Qz R tg ok h,fun ok h=>Qy R ok h,fun ok h=>OZ R ok h,fun ok h _ _ h0 hn=>Oc R ok h h0 hn⟩
noncomputable def fB (sc:Scope):List Str:=sc.names.filterMap fun p=>match p.2 with | .local=>some p.1 | .cell=>some p.1 | _=>none
mutual
noncomputable def Ac:Expr->List Str
 | .ListComp e gs sc _=>fB sc++Ac e++SR gs
 | .BoolOp _ vs _=>BQ vs
 | .BinOp a _ b _=>Ac a++Ac b
 | .UnaryOp _ a _=>Ac a
 | .IfExp a b c _=>Ac a++Ac b++Ac c
 | .Compare a _ bs _=>Ac a++BQ bs
 | .Call f es _ _=>Ac f++BQ es
 | .Attribute a _ _=>Ac a
 | .Subscript a b _=>Ac a++Ac b
 | .Slice a b c _=>Gc a++Gc b++Gc c
 | .List es _=>BQ es
 | .Tuple es _ _=>BQ es
 | .Dict _ vs _=>BQ vs
 | .JoinedStr vs _=>BQ vs
 | .FormattedValue v _ _ _=>Ac v
 | _=>[]
noncomputable def BQ:List Expr->List Str
 | []=>[]
 | e::es=>Ac e++BQ es
noncomputable def Gc:Option Expr->List Str
 | none=>[]
 | some e=>Ac e
noncomputable def SR:List Comprehension->List Str
 | []=>[]
 | ⟨_,it,ifs,_⟩::gs=>Ac it++BQ ifs++SR gs
end
mutual
noncomputable def bA:Stmt->List Str
 | .Return v _=>Gc v
 | .Assign ts v _=>BQ ts++Ac v
 | .AugAssign t _ v _=>Ac t++Ac v
 | .Expr v _=>Ac v
 | .If c a b _=>Ac c++DN a++DN b
 | .For _ it b _ _=>Ac it++DN b
 | .While c b _ _=>Ac c++DN b
 | .Raise e _ _=>Gc e
 | _=>[]
noncomputable def DN:List Stmt->List Str
 | []=>[]
 | s::ss=>bA s++DN ss
end
noncomputable def Tv:List Str->List Str->List Str
 | [],acc=>acc
 | x::xs,acc=>if acc.contains x then Tv xs acc else Tv xs (acc++[x])
def AE (st:Stmt):List Str:=(Ak st).args.map (·.arg)
def BP (st:Stmt):List Str:=Tv (AE st++fB (AH st)++DN (AY st)) []
noncomputable def hd:(io:List Nat)->Jn Dv io->Dv
 | [],t=>t
 | _::_,t=>t.1
noncomputable def NX:(J:List Nat)->Dd J->List Dv
 | [],_=>[]
 | [_],d=>[d]
 | _::j::J,t=>t.1::NX (j::J) t.2
def tl:(io:List Nat)->Jn Dv io->List Dv
 | [],_=>[]
 | i::io,t=>NX (i::io) t.2
theorem Hx:∀ (J:List Nat) (m:M),NX J (AX J m)=J.map m.at
 | [],_=>rfl
 | [_],_=>rfl
 | i::j::J,m=>by
  show m.at i::NX (j::J) (AX (j::J) m)=_;rw [Hx (j::J) m];rfl
theorem Yh (io:List Nat) (d:Dv) (m:M):hd io (Yb io d m)=d:=by cases io<;>rfl
theorem Xu (io:List Nat) (d:Dv) (m:M):tl io (Yb io d m)=io.map m.at:=by
 cases io with
 | nil=>rfl
 | cons i io=>exact Hx (i::io) m
def BA (ps:List Str) (io:List Nat) (ro:Nat) (nb:Bool) (F:List Dv->Option (Jn Dv io)) (cl:Option Str:=none):Sig where
 ps:=ps
 io:=io
 ro:=ro
 nb:=nb
 fn:=fun ds=>(F ds).bind fun t=>some (hd io t,tl io t)
 cps:=fun R ds k=>(F ds).bind fun t=>k (hd io t) (tl io t)
 eq:=fun R ds k=>by cases F ds<;>rfl
 cl:=cl
def kJ (io:List Nat):Kt (Jn Dv io):=⟨fun m=>some (Yb io .non m),fun d m=>some (Yb io d m),fun _=>none,fun _=>none⟩
structure Md:Type 1 where
 T:Tb
 cs:List (Str×Dv)
 bl:List Str
 fl:List Str
 rf:List Str
def gP (M:Md) (fs:List (Str×Sig)) (st:Stmt) (io:List Nat) (ro:Nat):Cf:=⟨BP st,AH st,fun _=>true,fs,M.cs,M.bl,M.T,⟨io,Lo (BP st).length io,ro⟩,M.fl,M.rf⟩
noncomputable def ie:Rec:=⟨fun _ _ _=>none,fun _ _ _ _=>none,fun _ _ _=>none,fun _ _ _ _=>none,fun _ _ _ _=>none,fun _ _ _ _=>none⟩
def cmp (n:Nat):Rec:=Nat.rec ie (fun _ r=>step r) n
theorem UG:∀ n,cmp n=comp n
 | 0=>rfl
 | n+1=>by
  show step (cmp n)=step (comp n);rw [UG n]
def Vj (M:Md) (fs:List (Str×Sig)) (st:Stmt) (io:List Nat) (ro:Nat):Option CS:=(cmp 100).Ss (gP M fs st io ro) none (Wx (BP st).length (AE st).length io) (AY st)
def Og (M:Md) (fs:List (Str×Sig)) (st:Stmt) (io:List Nat) (ro:Nat) (ds:List Dv):Option (Jn Dv io):=match Vj M fs st io ro with
 | some c=>c.f (Jn Dv io) (ds++List.replicate ((BP st).length - (AE st).length) .non) (kJ io)
 | none=>none
noncomputable def isFn:ScopeKind->Bool
 | .function=>true
 | _=>false
noncomputable def We:NameKind->Bool
 | .free=>false
 | _=>true
def Vh (N P:List Str) (sc:Scope):Bool:=isFn sc.kind && !sc.isCoroutine && !sc.isGenerator && decide N.Nodup && (N.take P.length == P) && (P.all fun x=>match sc.names.lookup x with | some .local=>true | some .cell=>true | _=>false) && sc.names.all fun y=>We y.2
theorem NH {N P:List Str} {sc:Scope} (h:Vh N P sc=true):FnScope N P sc:=by
 unfold Vh at h;simp only [dL,lp,decide_eq_true_eq,lN] at h;obtain ⟨⟨⟨⟨⟨⟨h1,h2⟩,h3⟩,h4⟩,h5⟩,h6⟩,h7⟩:=h;refine ⟨?_,h2,h3,h4,by simpa using h5,fun x hx=>?_,fun y hy z=>?_⟩
 ·cases q:sc.kind<;>first | rfl | (rw [q] at h1;cases h1)
 ·have:=h6 x hx;split at this
  ·rename_i e;exact .inl e
  ·rename_i e;exact .inr e
  ·cases this
 ·have:=h7 y hy;rw [z] at this;cases this
def IP (M:Md) (fs:List (Str×Sig)) (st:Stmt) (io:List Nat) (ro:Nat):Bool:=Vh (BP st) (AE st) (AH st) && decide io.Nodup && (io.all fun i=>decide (i < (AE st).length)) && decide ((AE st).length<=(BP st).length) && match Vj M fs st io ro with
 | some c=>JF (some (Lo (BP st).length io)) c.Γ
 | none=>false
section
variable {P:Program} {w:World} {K:W.Frag} {mg:Str->Option Value} {base:Heap}
structure Bs (M:Md) (K:W.Frag) (mg:Str->Option Value):Prop where
 cs:∀ x d,(x,d)∈M.cs->∃ v u,mg x=some u/\RelV v u/\∀ g H,Rep K g H 0 d v nop
 bl:∀ x∈M.bl,mg x=none
def Fs (P:Program) (w:World) (K:W.Frag) (mg:Str->Option Value) (base:Heap) (fl:List Str) (k:Nat) (fs:List (Str×Sig)):Prop:=∀ x s,(x,s)∈fs->s.io.Nodup/\(∀ i∈s.io,i < s.ps.length)/\∃ j,j<=k/\Fz P w K mg base fl j x s
theorem Fs.nil {fl:List Str} {k:Nat}:Fs P w K mg base fl k []:=fun _ _ h=>by cases h
theorem Fs.consZ {fl:List Str} {k l:Nat} {x:Str} {s:Sig} {fs:List (Str×Sig)} (h:Fs P w K mg base fl k fs) (hl:k<=l) (h1:s.io.Nodup) (h2:∀ i∈s.io,i < s.ps.length) (h3:Fz P w K mg base fl l x s):Fs P w K mg base fl l ((x,s)::fs):=fun y t q=>by
 rcases kh.mp q with q | q
 ·cases q;exact ⟨h1,h2,l,kb _,h3⟩
 ·obtain ⟨a,b,j,hj,f⟩:=h y t q;exact ⟨a,b,j,by omega,f⟩
theorem Fs.cons {fl:List Str} {k:Nat} {x:Str} {s:Sig} {fs:List (Str×Sig)} (h:Fs P w K mg base fl k fs) (h1:s.io.Nodup) (h2:∀ i∈s.io,i < s.ps.length) (hc:s.cl=none) (h3:Fx P w K mg base (k+1) x s.ps (Jg K s)):Fs P w K mg base fl (k+1) ((x,s)::fs):=h.consZ (Nat.le_succ k) h1 h2 (by unfold Fz;rw [hc];exact h3)
theorem JQ {M:Md} {k:Nat} {fs:List (Str×Sig)} {x qual:Str} {st:Stmt} {f:Addr} {fd:FuncData} {io:List Nat} {ro:Nat} {nb:Bool} {cl:Option Str} {F:List Dv->Option (Jn Dv io)} (b:Bs M K mg) (h:Fs P w K mg base M.fl k fs) (c:IP M fs st io ro=true) (hF:∀ ds,ds.length=(AE st).length->Og M fs st io ro ds=F ds)
    (Fn:Fun K x qual st f fd):FnOk P w K mg base Mp (k+1) f fd (AE st) (Jg K (BA (AE st) io ro nb F cl)):=by
  unfold IP at c;simp only [dL,decide_eq_true_eq,lN] at c;obtain ⟨⟨⟨⟨c1,c2⟩,c3⟩,c4⟩,c5⟩:=c;cases e:Vj M fs st io ro with
  | none=>rw [e] at c5;cases c5
  | some cs =>
    rw [e] at c5;have S:=NH c1;refine fu (s:=BA (AE st) io ro nb F cl) (N:=BP st) (body:=cs.f) (Γn:=cs.Γ) (js:=cs.js) Fn S c2 c3 c4 c5 (fun cdv A outer s' H E hr=>?_) fun ds d bs hl hf=>?_
    · have ok:Cok (gP M fs st io ro) (LD Mp P w K mg base (BP st) qual (AH st) f cdv A outer s' H E).nox:=⟨rfl,rfl,S.nd,rfl,fun _ _=>rfl,⟨rfl,k,hr⟩,fun y t q=>by
        obtain ⟨a,b,j,hj,q⟩:=h y t q;exact ⟨a,b,j,k,hj,hr,q⟩,b.cs,b.bl,rfl⟩
      unfold Vj at e;rw [UG] at e;exact (OA 100).Ss ok e
    · have hr:=hF ds hl;unfold Og at hr;rw [e] at hr;obtain ⟨t,e1,e2⟩:=bind_some' (show (F ds).bind _=some (d,bs) from hf);cases e2;refine ⟨_,kJ io,t,hr.trans e1,fun m z=>?_,fun d' m z=>?_⟩
      · have z:some (Yb io .non m)=some t:=z;cases z;exact ⟨Yh io _ m,Xu io _ m⟩
      · have z:some (Yb io d' m)=some t:=z;cases z;exact ⟨Yh io _ m,Xu io _ m⟩
abbrev HL (x q:Str) (st:Stmt):Prop:=∀ (kV doc pm:Value) (an:Option Addr) (cdv ct:Value) (us:List Value),us.length=(AE st).length->bindArgs (W.fnOf x q (Ak st) (AY st) (AH st) .none kV doc pm an cdv ct) ⟨us,[]⟩=pure ((AE st).zip us)
abbrev Cn (x:Str) (st:Stmt):Prop:=HL x x st
theorem DC {M:Md} {fs:List (Str×Sig)} {st:Stmt} {io:List Nat} {ro:Nat} (c:IP M fs st io ro=true):io.Nodup/\∀ i∈io,i < (AE st).length:=by
 unfold IP at c;simp only [dL,decide_eq_true_eq,lN] at c;exact ⟨c.1.1.1.2,c.1.1.2⟩
theorem Fs.def {M:Md} {k:Nat} {fs:List (Str×Sig)} {x:Str} {st:Stmt} {io:List Nat} {ro:Nat} {nb:Bool} {F:List Dv->Option (Jn Dv io)} (h:Fs P w K mg base M.fl k fs) (b:Bs M K mg) (c:IP M fs st io ro=true) (hF:∀ ds,ds.length=(AE st).length->Og M fs st io ro ds=F ds)
    (gf:GF K x st) (hm:mg x=some (.ref (CU K x))) (hb:Cn x st):Fs P w K mg base M.fl (k+1) ((x,BA (AE st) io ro nb F)::fs):=
  h.cons (DC c).1 (DC c).2 rfl ⟨_,_,JQ b h c hF (MR gf),hm,gf.2.2.2,(MR gf).binds hb⟩
theorem Fs.defR {M:Md} {k:Nat} {fs:List (Str×Sig)} {x:Str} {st:Stmt} {io:List Nat} {ro:Nat} {nb:Bool} {F:Nat->List Dv->Option (Jn Dv io)} (h:Fs P w K mg base M.fl k fs) (b:Bs M K mg) (c0:Vh (BP st) (AE st) (AH st)=true) (h0:∀ ds,F 0 ds=none) (c:∀ n,IP M ((x,BA (AE st) io ro nb (F n))::fs) st io ro=true)
    (hF:∀ n ds,ds.length=(AE st).length->Og M ((x,BA (AE st) io ro nb (F n))::fs) st io ro ds=F (n+1) ds)
    (gf:GF K x st) (hm:mg x=some (.ref (CU K x))) (hb:Cn x st):∀ n,Fs P w K mg base M.fl (k+n+1) ((x,BA (AE st) io ro nb (F n))::fs)
  | 0=>h.cons (DC (c 0)).1 (DC (c 0)).2 rfl ⟨_,_,(MR gf).ok (k:=k) (NH c0) (fun vs H Q E q=>by
      obtain ⟨g,ds,P,r,d,bs,e,q⟩:=q;have e:(F 0 ds).bind _=some (d,bs):=e;rw [h0 ds] at e;cases e) (fun cdv A outer s H vs Q E _ q=>by
      obtain ⟨g,ds,P,r,d,bs,e,q⟩:=q;have e:(F 0 ds).bind _=some (d,bs):=e;rw [h0 ds] at e;cases e),hm,gf.2.2.2,(MR gf).binds hb⟩
  | n+1=>by
    have ih:=Fs.defR h b c0 h0 c hF gf hm hb n;have hh:Fs P w K mg base M.fl (k+n+1) fs:=fun y t q=>ih y t (kX _ q)
    exact hh.cons (DC (c 0)).1 (DC (c 0)).2 rfl ⟨_,_,JQ b ih (c n) (hF n) (MR gf),hm,gf.2.2.2,(MR gf).binds hb⟩
def Yc (K:W.Frag) (c m:Str):Addr:=match W.findIn K (.ref (CU K c)) m with
 | some (some (.ref a))=>a
 | _=>0
abbrev GM (K:W.Frag) (c q m:Str) (t:Stmt):Prop:=W.findIn K (.ref (CU K c)) m=some (some (.ref (Yc K c m))) /\
 K.lookup (Yc K c m)=some ⟨.type "function", none,.func (W.fnOf m q (Ak t) (AY t) (AH t) .none .none .none (WG K (Yc K c m)) none (Py K (Yc K c m)) .none),#[]⟩ /\
 W.codeIn K (Py K (Yc K c m)) q=true/\W.keepIn K (.ref (Yc K c m))=true/\W.isFn K (.ref (Yc K c m))=true
noncomputable def fP (K:W.Frag) (C:Addr) (f:Str):Bool:=match W.findIn K (.ref C) f with
 | some none=>true
 | _=>false
noncomputable def dU (K:W.Frag) (C:Addr):Bool:=match W.findIn K (.ref C) "__setattr__" with
 | some (some (.builtin id))=>id == "object.__setattr__"
 | _=>false
abbrev GC (K:W.Frag) (c:Str) (fl:List Str):Prop:=W.nsIn K mainGlobals c=some (some (.ref (CU K c)))/\W.plainGet K (CU K c) Str.empty=true/\W.hasDictIn K (CU K c)=true/\W.plainOver K (CU K c)=true/\dU K (CU K c)=true /\
 fl.all (fP K (CU K c))=true/\W.makesIn K (CU K c)=true/\W.keepIn K (.ref (CU K c))=true
theorem bW {c:Str} {fl:List Str} (g:GC K c fl):Xr K c fl:=by
 obtain ⟨_,h1,h2,h3,h4,h5,_⟩:=g;refine ⟨⟨h1,h2,h3,?_⟩,fun f hf=>?_⟩
 ·unfold dU at h4;split at h4
  ·rename_i id e;rw [e,beq_iff_eq.mp h4]
  ·cases h4
 ·have:=(lN.mp h5) f hf;unfold fP at this;split at this
  ·rename_i e;exact e
  ·cases this
theorem Fs.defM {M:Md} {k:Nat} {fs:List (Str×Sig)} {cl q x:Str} {st:Stmt} {io:List Nat} {ro:Nat} {nb:Bool} {F:List Dv->Option (Jn Dv io)} (h:Fs P w K mg base M.fl k fs) (b:Bs M K mg) (c:IP M fs st io ro=true) (hF:∀ ds,ds.length=(AE st).length->Og M fs st io ro ds=F ds)
    (gm:GM K cl q x st) (gc:GC K cl M.fl) (hm:mg cl=some (.ref (CU K cl))) (hb:HL x q st):Fs P w K mg base M.fl (k+2) ((x,BA (AE st) io ro nb F (some cl))::fs):=by
  have Fn:Fun K x q st (Yc K cl x) _:=TC gm.2.1 gm.2.2.1 gm.2.2.2.1;refine h.consZ (by omega) (DC c).1 (DC c).2 ?_;unfold Fz;refine ⟨k+1,_,_,kb _,JQ (cl:=some cl) b h c hF Fn,Fn.binds hb,⟨gm.1,gm.2.2.2.2,gm.2.2.2.1⟩,bW gc,hm,fun e=>⟨gc.2.2.2.2.2.2.1,?_,gm.2.2.2.2,gc.2.2.2.2.2.2.2⟩⟩;rw [<- e];exact gm.1
theorem Xf {x q:Str} {st:Stmt} (hn:(AE st).length=1) (h:∀ (kV doc pm:Value) (an:Option Addr) (cdv ct:Value) (a:Value),bindArgs (W.fnOf x q (Ak st) (AY st) (AH st) .none kV doc pm an cdv ct) ⟨[a],[]⟩=pure ((AE st).zip [a])):HL x q st:=fun kV doc pm an cdv ct us hl=>by
 rw [hn] at hl
 match us,hl with | [a],_=>exact h kV doc pm an cdv ct a
theorem Mi {x q:Str} {st:Stmt} (hn:(AE st).length=2) (h:∀ (kV doc pm:Value) (an:Option Addr) (cdv ct:Value) (a b:Value),bindArgs (W.fnOf x q (Ak st) (AY st) (AH st) .none kV doc pm an cdv ct) ⟨[a,b],[]⟩=pure ((AE st).zip [a,b])):HL x q st:=fun kV doc pm an cdv ct us hl=>by
 rw [hn] at hl
 match us,hl with | [a,b],_=>exact h kV doc pm an cdv ct a b
theorem jH {x q:Str} {st:Stmt} (hn:(AE st).length=4) (h:∀ (kV doc pm:Value) (an:Option Addr) (cdv ct:Value) (a b c d:Value),bindArgs (W.fnOf x q (Ak st) (AY st) (AH st) .none kV doc pm an cdv ct) ⟨[a,b,c,d],[]⟩=pure ((AE st).zip [a,b,c,d])):HL x q st:=fun kV doc pm an cdv ct us hl=>by
 rw [hn] at hl
 match us,hl with | [a,b,c,d],_=>exact h kV doc pm an cdv ct a b c d
noncomputable def MB (K:W.Frag) (x:Str):Bool:=match W.nsIn K mainGlobals x with | some none=>true | _=>false
theorem gi {M:Md} {h:Heap} (X:K.In h) (G:h.Ns mainGlobals mg) (hc:M.cs=[]) (hz:M.bl.all (MB K)=true):Bs M K mg:=⟨(fun x d q=>by rw [hc] at q;cases q),fun x hx=>by
 have:=(lN.mp hz) x hx;unfold MB at this;split at this
 ·rename_i e;exact W.mg_none_of X G e
 ·cases this⟩
noncomputable def bc {α:Type} (f:Dv->Dv->Dv->Dv->Option α) (ds:List Dv):Option α:=match ds with | [a,b,c,d]=>f a b c d | _=>none
theorem iP {α:Type}:∀ ds,two (fun _ _=>(none:Option α)) ds=none
 | []=>rfl | [_]=>rfl | [_,_]=>rfl | _::_::_::_=>rfl
abbrev QY (M:Md) (fs:List (Str×Sig)) (st:Stmt) (io:List Nat) (ro:Nat) (f:List Dv->Option (Jn Dv io)):Prop:=∀ ds,ds.length=(AE st).length->Og M fs st io ro ds=f ds
theorem gh {α:Type} {G:List Dv->Option α} {f:Dv->Option α} {n:Nat} (hn:n=1) (h:∀ a,G [a]=f a):∀ ds,ds.length=n->G ds=one f ds:=fun ds hl=>by
 subst hn
 match ds,hl with | [a],_=>exact h a
theorem cQ {α:Type} {G:List Dv->Option α} {f:Dv->Dv->Option α} {n:Nat} (hn:n=2) (h:∀ a b,G [a,b]=f a b):∀ ds,ds.length=n->G ds=two f ds:=fun ds hl=>by
 subst hn
 match ds,hl with | [a,b],_=>exact h a b
theorem kQ {α:Type} {G:List Dv->Option α} {f:Dv->Dv->Dv->Dv->Option α} {n:Nat} (hn:n=4) (h:∀ a b c d,G [a,b,c,d]=f a b c d):∀ ds,ds.length=n->G ds=bc f ds:=fun ds hl=>by
 subst hn
 match ds,hl with | [a,b,c,d],_=>exact h a b c d
def NF (K:W.Frag):Sp:=fun vs H Q _=>∃ (a:Addr) (ns:List Int),vs=[.ref a]/\Cm K H a (ns.map V.int)/\ns.length<=63/\Xp H/\∀ H',Q (.bl true) H'
theorem bL {k:Nat} {f:Addr} {fd:FuncData} {ps:List Str} {nb:Bool} {F:List Dv->Option Dv} (hp:ps.length=1) (h0:FnOk P w K mg base Mp k f fd ps (Jg K (BA ps [] 1 nb F))) (h:∀ ns:List Int,ns.length<=63->F [.scr ns]=some (.bl true)):FnOk P w K mg base Mp k f fd ps (NF K):=h0.imp fun vs H Q E q=>by
 obtain ⟨a,ns,rfl,hS,hn,hO,q⟩:=q;have hs:Scr K H a ns:=by
  rcases hS with (h1 | h1) | h1
  ·rcases hO a with z | ⟨o,xs,z⟩
   ·rw [h1] at z;cases z
   ·rw [h1] at z;cases z
  ·exact .inl h1
  ·exact .inr h1
 refine ⟨⟨fun _=>False,[]⟩,[.scr ns],nop,?_,.bl true,[],by show (F [.scr ns]).bind _=_;rw [h ns hn];rfl,fun g' H' v Pv Pb _ rv _ _=>by rw [rep_bl rv];exact q H'⟩;show Rel K _ H (LW ps.length []) _ _ _;rw [hp];refine ⟨?_,fun _=>nop,⟨rfl,rfl,fun i o e=>?_,fun i e a z=>z,fun i j n a z=>z.elim⟩,fun a=>⟨fun z=>z.elim,fun ⟨i,z⟩=>z⟩⟩
 ·exact fun _ z=>z.elim
 ·match i,e with
  | 0,e=>cases e;exact ⟨_,_,rfl,rfl,by unfold Rep;exact ⟨⟨a,rfl,hs⟩,fun _ z=>z⟩⟩
end
end R
namespace L4
open PySem PySem.Spec PyProof.Rows L2 Builtin
theorem Ep:fillsNumberSlot (.type "tuple") "mul" = pure false:=
 PySem.fillsNumberSlot_seq (id := "tuple.__mul__") (r:=some (.builtin "tuple.__rmul__")) F.slot_tuple_mul.lookup (by decide +kernel) F.slot_tuple_rmul.lookup (by decide +kernel)
theorem Iw:seqRepeat? (.type "tuple")=pure (some (.builtin "tuple.__mul__")):=by
 unfold seqRepeat?
 rw [PySem.seqSlot_of (T := "tuple") (name := "__mul__") (id := "tuple.__mul__") F.slot_tuple_mul.lookup (by decide +kernel),PySem.seqSlot_of (T := "tuple") (name := "__rmul__") (id := "tuple.__rmul__") F.slot_tuple_rmul.lookup (by decide +kernel)]
 rfl
theorem Gn (a:Int) (t:Tok) (l:Addr) (items:Array Value) (n:Nat) :
    Meets (Builtin.«int.__rmul__» ⟨[.int a t,.ref l],[]⟩) (fun _ R s=>(∃ o,s.heap.get? l=some o/\o.cls=.type "tuple" /\ o.data=.seq items n)/\R (.ok (.ret Value.notImplemented)) s):=
  .of_wp fun prog w A R s h=>by
    obtain ⟨hp,g,d,tk,os⟩:=s;obtain ⟨⟨⟨c,dd,dat,sl⟩,hl,hc,hd⟩,h⟩:=h;simp only at hc hd;subst hc;subst hd
    wp_walk;exact ⟨_,rfl,h⟩
theorem Fw (l:Addr) (items:Array Value) (n:Nat) (x:Int) (u:Tok) (h1:1 < x) (h2:x < 2 ^ 63) (hz:items.size * x.toNat<=1000000) (hne:items.isEmpty=false) :
    Meets (Builtin.«tuple.__mul__» ⟨[.ref l,.int x u],[]⟩) (fun _ R s=>(∃ o,s.heap.get? l=some o/\o.cls=.type "tuple" /\ o.data=.seq items n)/\R (.ok (.ret (Value.ref s.heap.objs.size))) { s with heap:=s.heap.push { cls:=Value.type "tuple", data:=Data.seq ((List.replicate x.toNat items).foldl (·++·) #[]) },toks:=s.toks }):=
  .of_wp fun prog w A R s h=>by
    obtain ⟨hp,g,d,tk,os⟩:=s;obtain ⟨⟨⟨c,dd,dat,sl⟩,hl,hc,hd⟩,h⟩:=h;simp only at hc hd;subst hc;subst hd;have hz':(items.size:Int) * x<=1000000:=by
      have e:x=(x.toNat:Int):=by omega
      rw [e,<- Int.natCast_mul];omega
    wp_walk
    refine wpAny_ite_false (by simp;omega) ?_
    wp_walk
    refine wpAny_ite_false (by rw [hne];simp;omega) ?_
    wp_walk
    refine wpAny_ite_false (by rw [hne];simp;omega) ?_
    wp_walk
    refine wpAny_ite_false (decide_eq_false (by have : ((2 : Int) ^ 63 - 1) / 8 > 1000000 := by decide
                                                omega)) ?_
    wp_walk
    refine wpAny_ite_false (decide_eq_false (by unfold Tuple.tupleTooMany;rw [decide_eq_true_eq,sizeLine_eq];omega)) ?_
    wp_walk
    refine wpAny_ite_false (decide_eq_false (by rw [AutoListH.size_joined,sizeLine_eq];simp only [Array.size_empty];have:=Nat.mul_comm items.size x.toNat;omega)) ?_
    wp_walk
    exact ⟨_,rfl,h⟩
theorem HN (l:Addr) (items:Array Value) (n:Nat) (u:Tok) :
    Meets (Builtin.«tuple.__mul__» ⟨[.ref l,.int 1 u],[]⟩) (fun _ R s=>(∃ o,s.heap.get? l=some o/\o.cls=.type "tuple" /\ o.data=.seq items n)/\R (.ok (.ret (Value.ref l))) s):=
  .of_wp fun prog w A R s h=>by
    obtain ⟨hp,g,d,tk,os⟩:=s;obtain ⟨⟨⟨c,dd,dat,sl⟩,hl,hc,hd⟩,h⟩:=h;simp only at hc hd;subst hc;subst hd
    wp_walk
    exact ⟨_,rfl,h⟩
def rRepT:R2:=fun x y H Q=>∃ l k xs,x=.ref l/\y=.int k/\H l=some (.tup xs)/\xs≠[]/\1<=k/\k < 2 ^ 63/\xs.length * k.toNat<=1000000/\(k=1->Q (.ref l) H) /\
 (k≠1->∀ p,H p=none->Q (.ref p) (upd H p (.tup (List.replicate k.toNat xs).flatten)))
theorem op_repT {X:Cx}:Bq X (binaryOp .Mult) rRepT:=by
  intro pins s σ H x y v u Q I rx ry h;obtain ⟨l,k,xs,rfl,rfl,hH,hne,h1,h2,hz,q1,q2⟩:=h;cases rx;obtain ⟨t,rfl⟩:=ry;obtain ⟨its,r,⟨o,e,c,n,dt⟩,_⟩:=I.tuple (show DW X.K H l xs from .inl (.inl hH));have hl:its.length=xs.length:=r.length.symm
  have ho:∃ o,s.heap.get? l=some o/\o.cls=.type "tuple" /\ o.data=.seq its.toArray n:=⟨o,e,c,dt⟩
  have em:its.toArray.isEmpty=false:=by
    cases its with
    | nil=>cases xs with
      | nil=>exact absurd rfl hne
      | cons _ _=>simp at hl
    | cons _ _=>rfl
  refine wpAny_binaryOp_repeat_ref (T := "tuple") (U := "int") (by decide) ⟨_,e,c⟩ (fun s'=>typeIs_int s' k t) Ep F.fills_int_mul F.slot_int_rmul Iw F.slot_int_index.lookup
    (call_meets F.slot_int_rmul (typeIs_int s k t) F.entry_int_rmul (F.args_int_rmul_2 _ _) (Gn k t l its.toArray n)
      ⟨ho,rfl,⟨_,e,c⟩,?_⟩)
  by_cases hk:k=1
  · subst hk;exact call_meets F.slot_tuple_mul ⟨_,e,c⟩ F.entry_tuple_mul (F.args_tuple_mul_2 _ _) (HN l its.toArray n t) ⟨ho,.ref l,H,I,rfl,q1 rfl⟩
  · refine call_meets F.slot_tuple_mul ⟨_,e,c⟩ F.entry_tuple_mul (F.args_tuple_mul_2 _ _) (Fw l its.toArray n k t (by omega) h2 (by rw [kY,hl];exact hz) em) ⟨ho,?_⟩;have f0:List.foldl (fun x1 x2=>x1++x2) #[] (List.replicate k.toNat its.toArray)=(List.replicate k.toNat its).flatten.toArray:=by
      have:=foldl_rep its k.toNat [];rw [List.nil_append] at this;exact this
    rw [f0];refine ⟨.ref _,_,I.laid (t':=s.toks) (fun _ _ q=>kW _ q) (kb _) (o:=.tup (List.replicate k.toNat xs).flatten) ⟨?_,_,r.rep k.toNat,HJ.new _ _⟩,rfl,q2 hk _ I.fresh⟩;rw [len_rep,Nat.mul_comm];exact kr hz (by decide)
end L4
namespace R
open PySem L2
section
variable {K:W.Frag} {g:G} {H:Hp}
theorem RA.nil {vs:List V} (h:RA K g H [] vs):vs=[]:=by unfold RA at h;exact h
theorem RA.cons {d:Dv} {ds:List Dv} {vs:List V} (h:RA K g H (d::ds) vs):∃ v r o P,vs=v::r/\o<=1/\Rep K g H o d v P/\RA K g H ds r:=by unfold RA at h;exact h
theorem RA.one {d:Dv} {vs:List V} (h:RA K g H [d] vs):∃ v o P,vs=[v]/\o<=1/\Rep K g H o d v P:=by
 obtain ⟨v,r,o,P,rfl,ho,h1,h2⟩:=h.cons;cases h2.nil;exact ⟨v,o,P,rfl,ho,h1⟩
theorem RA.two {d e:Dv} {vs:List V} (h:RA K g H [d,e] vs):∃ v o P w u R,vs=[v,w]/\o<=1/\Rep K g H o d v P/\u<=1/\Rep K g H u e w R:=by
 obtain ⟨v,r,o,P,rfl,ho,h1,h2⟩:=h.cons;obtain ⟨w,u,R,rfl,hu,h3⟩:=h2.one;exact ⟨v,o,P,w,u,R,rfl,ho,h1,hu,h3⟩
theorem rep_str {o:Nat} {l:List Nat} {v:V} {P:Fp} (h:Rep K g H o (.str l) v P):v=.str (tx l):=by unfold Rep at h;exact h.1
theorem rep_non {o:Nat} {v:V} {P:Fp} (h:Rep K g H o .non v P):v=.non:=by unfold Rep at h;exact h.1
theorem Dg {o:Nat} {xs:List Dv} {v:V} {P:Fp} (ho:o<=1) (h:Rep K g H o (.lst xs) v P):∃ a us,v=.ref a/\Cm K H a us/\Reps K g H 0 xs us nop/\H a=some (.lst us):=by
 unfold Rep at h;obtain ⟨a,us,P',rfl,h1,h2,_⟩:=h;rw [nB ho] at h2;exact ⟨a,us,rfl,.inl (.inl h1.1),h2.z,h1.1⟩
theorem DY {o:Nat} {xs:List Dv} {v:V} {P:Fp} (ho:o<=1) (h:Rep K g H o (.tup xs) v P):∃ a us,v=.ref a/\DW K H a us/\Reps K g H 0 xs us nop/\H a=some (.tup us):=by
 unfold Rep at h;obtain ⟨a,us,rfl,h1,h2⟩:=h;rw [nB ho] at h2;exact ⟨a,us,rfl,.inl (.inl h1),h2.z,h1⟩
theorem Of {o:Nat} {ns:List Int} {v:V} {P:Fp} (h:Rep K g H o (.scr ns) v P):∃ a,v=.ref a/\Cm K H a (ns.map V.int):=by
 unfold Rep at h;obtain ⟨⟨a,rfl,h1⟩,_⟩:=h;exact ⟨a,rfl,h1.sq⟩
theorem DL {o:Nat} (ho:o<=1) {a:Addr} {xs:List Dv} {us:List V} (h1:H a=some (.tup us)) (h2:Reps K g H 0 xs us nop):Rep K g H o (.tup xs) (.ref a) nop:=by
 unfold Rep;rw [nB ho];exact ⟨a,us,rfl,h1,h2⟩
theorem Ae.int {o:Nat} (i:Int):Ae K g H o (.int i) (.int i) H:=Ae.old Bc
theorem Ae.bl {o:Nat} (b:Bool):Ae K g H o (.bl b) (.bl b) H:=Ae.old CL
theorem Ae.str {o:Nat} (l:List Nat):Ae K g H o (.str l) (.str (tx l)) H:=Ae.old (by unfold Rep;exact ⟨rfl,fun _ z=>z⟩)
theorem Ae.tup {o:Nat} (ho:o<=1) {xs:List Dv} {vs:List V} {p:Addr} (hp:H p=none) (h:Reps K g H 0 xs vs nop):Ae K g H o (.tup xs) (.ref p) (upd H p (.tup vs)):=
 have sm:=Bf hp (.tup vs)
 ⟨sm,nop,DL ho AF (h.held (Step.same (g:=g) (P:=nop) sm) FpOk.nop fun _ z=>z.elim),fun _ z=>z.elim⟩
theorem Ej {xs:List Dv} {vs:List V} (h:Reps K g H 0 xs vs nop):∀ n,Reps K g H 0 (List.replicate n xs).flatten (List.replicate n vs).flatten nop
 | 0=>by simpa using Reps.nil
 | n+1=>by
  rw [mB,mB,mS,mS];exact BM h (Ej h n)
theorem Ls {xs:List Dv} {vs:List V} (n:Nat) (h:Reps K g H 0 xs vs nop):Reps K g H 0 (xs.drop n) (vs.drop n) nop:=by
 have h0:=CK.mp h;exact CK.mpr ⟨by simp [h0.1],fun i d v e1 e2=>h0.2 (n+i) d v (by simpa using e1) (by simpa using e2)⟩
theorem Lq {xs:List Dv} {vs:List V} (n:Nat) (h:Reps K g H 0 xs vs nop):Reps K g H 0 (xs.take n) (vs.take n) nop:=by
 have h0:=CK.mp h;refine CK.mpr ⟨by simp [h0.1],fun i d v e1 e2=>?_⟩;rw [List.getElem?_take] at e1 e2;split at e1
 ·rename_i hi;rw [if_pos hi] at e2;exact h0.2 i d v e1 e2
 ·cases e1
theorem Hr {xs:List Dv} {vs:List V} (h:Reps K g H 0 xs vs nop):Reps K g H 0 xs.reverse vs.reverse nop:=by
 have h0:=CK.mp h;refine CK.mpr ⟨by simp [h0.1],fun i d v e1 e2=>?_⟩;have hi:i < xs.length:=by simpa using (kU.mp e1).1
 rw [List.getElem?_reverse hi] at e1;rw [List.getElem?_reverse (by rw [<- h0.1];exact hi),<- h0.1] at e2;exact h0.2 _ d v e1 e2
theorem GR (ns:List Int):Reps K g H 0 (ns.map .int) (ns.map V.int) nop:=CK.mpr ⟨by simp,fun i d v e1 e2=>by
 rw [km] at e1 e2;cases q:ns[i]? with
 | none=>rw [q] at e1;cases e1
 | some k=>rw [q] at e1 e2;cases e1;cases e2;exact Bc⟩
def cutA {α:Type} (xs:List α) (lo hi:Option Int):List α:=(xs.drop (HT.sIx xs.length 0 lo)).take (HT.sIx xs.length xs.length hi - HT.sIx xs.length 0 lo)
theorem map_cut {α β:Type} (f:α->β) (xs:List α) (lo hi:Option Int):(cutA xs lo hi).map f=cutA (xs.map f) lo hi:=by
 unfold cutA;rw [List.map_take,List.map_drop,lK]
theorem atI_map {α β:Type} {f:α->β} {xs:List α} {i:Int}:Dm (xs.map f) i=(Dm xs i).map f:=by
 unfold Dm;rw [lK];cases Nc xs.length i with
 | none=>rfl
 | some j=>show (xs.map f)[j]?=_;rw [km];rfl
theorem El {xs:List Dv} {vs:List V} (lo hi:Option Int) (h:Reps K g H 0 xs vs nop):Reps K g H 0 (cutA xs lo hi) (ES vs lo hi) nop:=by
 unfold cutA ES;rw [h.len];exact Lq _ (Ls _ h)
theorem KG {xs:List Dv} {vs:List V} {i:Int} {d:Dv} (h:Reps K g H 0 xs vs nop) (e:Dm xs i=some d):∃ v,Dm vs i=some v/\Rep K g H 0 d v nop:=by
 unfold Dm at e ⊢;rw [h.len] at e;cases q:Nc vs.length i with
 | none=>rw [q] at e;cases e
 | some j =>
  rw [q] at e;obtain ⟨v,R,e1,e2,_⟩:=h.get e;exact ⟨v,e1,e2.z⟩
noncomputable def Bp (C:Int->Int->Bool) (f:Int->Int->Int) (x y:Dv):Option Dv:=match x,y with | .int i,.int j=>if C i j=true then some (.int (f i j)) else none | _,_=>none
noncomputable def Ck (f:Int->Int->Bool) (x y:Dv):Option Bool:=match x,y with | .int i,.int j=>some (f i j) | _,_=>none
abbrev Mm:=Bp (fun _ _=>true) fun i j=>i - j
abbrev DG:=Bp (fun _ j=>decide (0 < j)) fun i j=>i % j
abbrev VC:=Bp (fun _ j=>decide (0 < j) && decide (j < 1073741824)) fun i j=>i / j
abbrev cc:=Bp (fun i j=>decide (0<=j) && decide (j<=1000000) && decide (i.natAbs < 2 ^ 64)) fun i j=>i ^ j.toNat
abbrev ZD:=Ck fun i j=>decide (j < i)
abbrev jy:=Ck fun i j=>decide (j<=i)
theorem Dp {α:Type} {f:Dv->Dv->Option α} {ds:List Dv} {a:α} (h:two f ds=some a):∃ x y,ds=[x,y]/\f x y=some a:=by
 unfold two at h;split at h
 ·exact ⟨_,_,rfl,h⟩
 ·cases h
theorem En {f:Dv->Dv->Option Dv} {o:Nat} {r:R2} (h:∀ g H x y v w o1 o2 P R d Q,Zd g H->o1<=1->Rep K g H o1 x v P->o2<=1->Rep K g H o2 y w R->f x y=some d->(∀ v H',Ae K g H o d v H'->Q v H')->r v w H Q):AJ K (two f) o (LS r):=fun g H ds vs d Q zd ra e k=>by
 obtain ⟨x,y,rfl,e⟩:=Dp e;obtain ⟨v,o1,P,w,o2,R,rfl,h1,h2,h3,h4⟩:=ra.two;exact h g H x y v w o1 o2 P R d Q zd h1 h2 h3 h4 e k
theorem FX {f:Dv->Dv->Option Bool} {r:R2} (h:∀ g H x y v w o1 o2 P R b (Q:VK),Zd g H->o1<=1->Rep K g H o1 x v P->o2<=1->Rep K g H o2 y w R->f x y=some b->Q (.bl b) H->r v w H Q):AJ K (fun ds=>(two f ds).map .bl) 0 (LS r):=fun g H ds vs d Q zd ra e k=>by
 have e:(two f ds).map Dv.bl=some d:=e;cases q:two f ds with
 | none=>rw [q] at e;cases e
 | some b =>
  rw [q] at e;cases e;obtain ⟨x,y,rfl,e2⟩:=Dp q;obtain ⟨v,o1,P,w,o2,R,rfl,h1,h2,h3,h4⟩:=ra.two;exact h g H x y v w o1 o2 P R b Q zd h1 h2 h3 h4 e2 (k _ _ (Ae.bl _))
theorem Iz {C:Int->Int->Bool} {C':Int->Int->Prop} {f:Int->Int->Int} {o:Nat} (hc:∀ i j,C i j=true->C' i j):AJ K (two (Bp C f)) o (LS (rI C' fun i j=>.int (f i j))):=En fun g H x y v w o1 o2 P R d Q zd _ h1 _ h2 e k=>by
 unfold Bp at e;split at e
 ·split at e
  ·rename_i c;cases e;rw [rep_int h1,rep_int h2];exact ⟨_,_,rfl,rfl,hc _ _ c,k _ _ (Ae.int _)⟩
  ·cases e
 ·cases e
theorem WC {f:Int->Int->Int} {o:Nat}:AJ K (two (Bp (fun _ _=>true) f)) o (LS (Rc fun i j=>.int (f i j))):=En fun g H x y v w o1 o2 P R d Q zd _ h1 _ h2 e k=>by
 unfold Bp at e;split at e
 ·cases e;rw [rep_int h1,rep_int h2];exact ⟨_,_,rfl,rfl,k _ _ (Ae.int _)⟩
 ·cases e
theorem NQ {f:Int->Int->Bool}:AJ K (fun ds=>(two (Ck f) ds).map .bl) 0 (LS (Rc fun i j=>.bl (f i j))):=FX fun g H x y v w o1 o2 P R b Q zd _ h1 _ h2 e k=>by
 unfold Ck at e;split at e
 ·cases e;rw [rep_int h1,rep_int h2];exact ⟨_,_,rfl,rfl,k⟩
 ·cases e
noncomputable def Ax (x y:Dv):Option Dv:=match x,y with
 | .int i,.int j=>some (.int (i+j))
 | .str a,.str b=>if a.length+b.length<=1000000 then some (.str (a++b)) else none
 | .lst xs,.lst ys=>if xs.length+ys.length<=1000000 then some (.lst (xs++ys)) else none
 | .tup xs,.tup ys=>if xs.length+ys.length<=1000000 then some (.tup (xs++ys)) else none
 | _,_=>none
theorem aL:AJ K (two Ax) 1 (LS (KM K)):=En fun g H x y v w o1 o2 P R d Q zd l1 h1 l2 h2 e k=>by
 unfold Ax at e;split at e
 ·cases e;rw [rep_int h1,rep_int h2];exact Ux (k _ _ (Ae.int _))
 ·split at e
  ·rename_i hl;cases e;rw [rep_str h1,rep_str h2];refine Uv (by rw [BJ,BJ];exact hl) ?_;rw [LZ];exact k _ _ (Ae.str _)
  ·cases e
 ·split at e
  ·rename_i hl;cases e;obtain ⟨a,us,rfl,_,hx,ha⟩:=Dg l1 h1;obtain ⟨b,ws,rfl,_,hy,hb⟩:=Dg l2 h2;exact Uw ha hb (by rw [<- hx.len,<- hy.len];exact hl) fun p hp=>k _ _ (Ae.lst zd (BM hx hy) hp)
  ·cases e
 ·split at e
  ·rename_i hl;cases e;obtain ⟨a,us,rfl,ha,hx,ha'⟩:=DY l1 h1;obtain ⟨b,ws,rfl,hb,hy,hb'⟩:=DY l2 h2;have al:=BM hx hy
   by_cases hu:us=[]
   ·subst hu;exact .inr ⟨a,b,ws,rfl,rfl,ha,hb,k _ _ (Ae.old (DL (kb 1) hb' al))⟩
   ·refine .inl (.inr (.inr (.inr ⟨a,b,us,ws,rfl,rfl,ha,hb,hu,by rw [<- hx.len,<- hy.len];exact kr hl (by decide),fun hw=>?_,fun _ p hp=>k _ _ (Ae.tup (kb 1) hp al)⟩)));subst hw;rw [lX] at al;exact k _ _ (Ae.old (DL (kb 1) ha' al))
  ·cases e
 ·cases e
noncomputable def big (i:Int):Bool:=decide (-(2 ^ 64) < i) && decide (i < 2 ^ 64)
def Da (x y:Dv):Option Dv:=match x,y with
 | .int i,.int j=>if (big i || big j)=true then some (.int (i * j)) else none
 | .lst xs,.int k=>if xs.length * k.toNat<=1000000/\k < 1000000/\-1000000 < k then some (.lst (List.replicate k.toNat xs).flatten) else none
 | .tup xs,.int k=>if xs≠[]/\1<=k/\k < 1000000/\xs.length * k.toNat<=1000000 then some (.tup (List.replicate k.toNat xs).flatten) else none
 | _,_=>none
theorem aG:AJ K (two Da) 1 (LS (fun x y H Q=>(rI Xs fun i j=>.int (i * j)) x y H Q\/eI x y H Q\/L4.rRepT x y H Q)):=En fun g H x y v w o1 o2 P R d Q zd l1 h1 l2 h2 e k=>by
 unfold Da at e;split at e
 ·split at e
  ·rename_i c;cases e;rw [rep_int h1,rep_int h2];refine .inl ⟨_,_,rfl,rfl,?_,k _ _ (Ae.int _)⟩;rw [nr] at c;unfold big at c;rw [dL,dL,decide_eq_true_eq,decide_eq_true_eq,decide_eq_true_eq,decide_eq_true_eq] at c;exact c
  ·cases e
 ·split at e
  ·rename_i hl;cases e;obtain ⟨a,us,rfl,ha,hx,ha'⟩:=Dg l1 h1;rw [rep_int h2];exact .inr (.inl ⟨a,_,us,rfl,rfl,ha',by omega,by omega,by rw [<- hx.len];exact kr hl.1 (by decide),fun p hp=>k _ _ (Ae.lst zd (Ej hx _) hp)⟩)
  ·cases e
 ·split at e
  ·rename_i hl;cases e;obtain ⟨a,us,rfl,ha,hx,ha'⟩:=DY l1 h1;rw [rep_int h2];refine .inr (.inr ⟨a,_,us,rfl,rfl,ha',?_,hl.2.1,by omega,by rw [<- hx.len];exact hl.2.2.2,fun z=>?_,fun _ p hp=>k _ _ (Ae.tup (kb 1) hp (Ej hx _))⟩)
   ·intro z;have:=hx.len;rw [z] at this;exact hl.1 (lM this)
   ·subst z;have:∀ (l:List Dv),(List.replicate (Int.toNat 1) l).flatten=l:=fun l=>by simp
    rw [this] at k;exact k _ _ (Ae.old (DL (kb 1) ha' hx))
  ·cases e
 ·cases e
noncomputable def Am (x:Dv):Option Dv:=match x with
 | .str l=>if l.length<=1000000 then some (.int l.length) else none
 | .lst xs=>some (.int xs.length)
 | .tup xs=>some (.int xs.length)
 | .scr ns=>some (.int ns.length)
 | .dct ks _=>some (.int ks.length)
 | _=>none
theorem SH {α:Type} {f:Dv->Option α} {ds:List Dv} {a:α} (h:one f ds=some a):∃ x,ds=[x]/\f x=some a:=by
 unfold one at h;split at h
 ·exact ⟨_,rfl,h⟩
 ·cases h
theorem Eo {f:Dv->Option Dv} {o:Nat} {r:OL} (h:∀ g H x v o1 P d Q,Zd g H->o1<=1->Rep K g H o1 x v P->f x=some d->(∀ v H',Ae K g H o d v H'->Q v H')->r [v] H Q):AJ K (one f) o r:=fun g H ds vs d Q zd ra e k=>by
 obtain ⟨x,rfl,e⟩:=SH e;obtain ⟨v,o1,P,rfl,h1,h2⟩:=ra.one;exact h g H x v o1 P d Q zd h1 h2 e k
theorem aH {o:Nat}:AJ K (one Am) o (fun xs H Q=>Ol K xs H Q\/YK xs H Q):=Eo fun g H x v o1 P d Q zd l1 h1 e k=>by
 unfold Am at e;split at e
 ·split at e
  ·rename_i l hl;cases e;rw [rep_str h1];refine .inl (PR (by rw [BJ];exact hl) ?_);rw [BJ];exact k _ _ (Ae.int _)
  ·cases e
 ·cases e;obtain ⟨a,us,rfl,ha,hx,ha'⟩:=Dg l1 h1;refine .inl (Wl ha' ?_);rw [<- hx.len];exact k _ _ (Ae.int _)
 ·cases e;obtain ⟨a,us,rfl,ha,hx,ha'⟩:=DY l1 h1;refine .inl ⟨_,_,rfl,.inr ⟨us,ha,rfl⟩,?_⟩;rw [<- hx.len];exact k _ _ (Ae.int _)
 ·cases e;obtain ⟨a,rfl,ha⟩:=Of h1;refine .inl (Sd ha ?_);rw [lK];exact k _ _ (Ae.int _)
 ·cases e;obtain ⟨a,us,rfl,ha,hl,hx⟩:=Tw h1;refine .inr ⟨a,_,rfl,ha,?_⟩;rename_i ks xs;have:(ks.zip us).length=ks.length:=by rw [ml,hl,hx.len,nZ]
  rw [this];exact k _ _ (Ae.int _)
 ·cases e
def AG (x y:Dv):Option Dv:=match x,y with
 | .lst xs,.int i=>Dm xs i
 | .tup xs,.int i=>Dm xs i
 | .scr ns,.int i=>(Dm ns i).map .int
 | .str l,.int i=>if l.length<=1000000 then (Dm l i).map fun c=>.str [c] else none
 | .dct ks ds,k=>(CN k).bind fun k=>Bl k ks ds
 | .dtt ks ds,k=>(PV k).bind fun k=>Bl k ks ds
 | .dnt ks ds,k=>(MM k).bind fun k=>Bl k ks ds
 | _,_=>none
theorem aJ:AJ K (two AG) 0 (LS fun x y H Q=>Zu K x y H Q\/jd x y H Q\/jY x y H Q):=En fun g H x y v w o1 o2 P R d Q zd l1 h1 l2 h2 e k=>by
 unfold AG at e;split at e
 ·obtain ⟨a,us,rfl,ha,hx,ha'⟩:=Dg l1 h1;rw [rep_int h2];obtain ⟨u,e2,h3⟩:=KG hx e;exact .inl (Vl ha' e2 (k _ _ (Ae.old h3)))
 ·obtain ⟨a,us,rfl,ha,hx,ha'⟩:=DY l1 h1;rw [rep_int h2];obtain ⟨u,e2,h3⟩:=KG hx e;exact .inl (.inr (.inl ⟨a,us,_,u,rfl,rfl,ha,e2,k _ _ (Ae.old h3)⟩))
 ·rename_i ns i;obtain ⟨a,rfl,ha⟩:=Of h1;rw [rep_int h2];cases q:Dm ns i with
  | none=>rw [q] at e;cases e
  | some j =>
   rw [q] at e;cases e;exact .inl (Zs ha (by rw [atI_map,q];rfl) (k _ _ (Ae.int _)))
 ·rename_i l i;split at e
  ·rename_i hl;rw [rep_str h1,rep_int h2];cases q:Dm l i with
   | none=>rw [q] at e;cases e
   | some c =>
    rw [q] at e;cases e;exact .inl (Vk (by rw [BJ];exact hl) (by rw [Mx];exact q) (k _ _ (Ae.str [c])))
  ·cases e
 ·obtain ⟨kk,ek,e⟩:=bind_some' e;obtain ⟨a,us,rfl,ha,hl,hx⟩:=Tw h1;obtain ⟨u,e2,h3⟩:=ER hx e;rw [EH h2 ek];exact .inr (.inl ⟨a,u,rfl,e2▸De.k ha,k _ _ (Ae.old h3)⟩)
 ·obtain ⟨kk,ek,e⟩:=bind_some' e;obtain ⟨a,us,rfl,ha,hl,hx⟩:=gJ h1;obtain ⟨u,e2,h3⟩:=ER hx e;obtain ⟨b,rfl,hb⟩:=EI h2 ek;exact .inr (.inl ⟨a,u,rfl,e2▸De.t ha hb,k _ _ (Ae.old h3)⟩)
 ·obtain ⟨kk,ek,e⟩:=bind_some' e;obtain ⟨a,us,rfl,ha,hl,hx⟩:=gK h1;obtain ⟨u,e2,h3⟩:=ER hx e;obtain ⟨b,rfl,hb⟩:=Cy h2 ek;exact .inr (.inr ⟨a,u,rfl,⟨kk,b,rfl,hb,.inl ⟨_,ha,e2.symm⟩⟩,k _ _ (Ae.old h3)⟩)
 ·cases e
def LQ (x:Dv) (lo hi:Option Int):Option Dv:=match x with
 | .str l=>if l.length<=1000000 then some (.str (MZ l lo hi)) else none
 | .lst xs=>some (.lst (cutA xs lo hi))
 | .tup xs=>some (.tup (cutA xs lo hi))
 | .scr ns=>some (.lst ((cutA ns lo hi).map .int))
 | _=>none
theorem eX (lo hi:Option Int):AJ K (one fun d=>LQ d lo hi) 1 (gy fun x H Q=>Oj K x lo hi H Q):=Eo fun g H x v o1 P d Q zd l1 h1 e k=>by
 show Oj K v lo hi H Q;cases x with
 | str l =>
  simp only [LQ.eq_def] at e;split at e
  ·rename_i hl;cases e;rw [rep_str h1];refine VZ (by rw [BJ];exact hl) ?_;rw [Ql];exact k _ _ (Ae.str _)
  ·cases e
 | lst xs =>
  cases e;obtain ⟨a,us,rfl,ha,hx,ha'⟩:=Dg l1 h1;exact Va ha' fun p hp=>k _ _ (Ae.lst zd (El lo hi hx) hp)
 | tup xs =>
  cases e;obtain ⟨a,us,rfl,ha,hx,ha'⟩:=DY l1 h1;have al:=El lo hi hx
  by_cases w:HT.sIx us.length 0 lo=0/\HT.sIx us.length us.length hi=us.length
  ·refine .inr ⟨a,us,rfl,ha,w,k _ _ (Ae.old ?_)⟩;have ec:ES us lo hi=us:=by unfold ES;rw [w.1,w.2];simp
   rw [ec] at al;exact DL (kb 1) ha' al
  ·exact .inl (.inr (.inr ⟨a,us,rfl,ha,w,fun p hp=>k _ _ (Ae.tup (kb 1) hp al)⟩))
 | scr ns =>
  cases e;obtain ⟨a,rfl,ha⟩:=Of h1;refine Zb ha fun p hp=>k _ _ (Ae.lst zd ?_ hp)
  rw [map_cut];exact El lo hi (GR ns)
 | _=>cases e
end
mutual
noncomputable def toD:Dv->L3.D
 | .bl b=>.fl (.bl b)
 | .int i=>.fl (.int i)
 | .str l=>.fl (.str (tx l))
 | .tup xs=>.tup (toDs xs)
 | .lst xs=>.lst (toDs xs)
 | _=>.fl .non
noncomputable def toDs:List Dv->List L3.D
 | []=>[]
 | d::ds=>toD d::toDs ds
end
mutual
noncomputable def Dv.cmp:Dv->Bool
 | .non | .bl _ | .int _ | .str _=>true
 | .tup xs=>Aj xs
 | .lst xs=>Aj xs
 | _=>false
noncomputable def Aj:List Dv->Bool
 | []=>true
 | d::ds=>d.cmp && Aj ds
end
mutual
noncomputable def Dv.dep:Dv->Nat
 | .tup xs=>Aq xs+1
 | .lst xs=>Aq xs+1
 | _=>0
noncomputable def Aq:List Dv->Nat
 | []=>0
 | d::ds=>max d.dep (Aq ds)
end
mutual
noncomputable def eqV:Dv->Dv->Bool
 | .non,.non=>true
 | .bl a,.bl b=>a == b
 | .bl a,.int b=>(if a then 1 else 0) == b
 | .int a,.bl b=>a == (if b then 1 else 0)
 | .int a,.int b=>a == b
 | .str a,.str b=>a == b
 | .tup xs,.tup ys=>eqVs xs ys
 | .lst xs,.lst ys=>eqVs xs ys
 | _,_=>false
noncomputable def eqVs:List Dv->List Dv->Bool
 | [],[]=>true
 | x::xs,y::ys=>eqV x y && eqVs xs ys
 | _,_=>false
end
mutual
theorem Kv:∀ (d e:Dv),d.cmp=true->e.cmp=true->L3.eqD (toD d) (toD e)=eqV d e
 | .non,e,h,k | .bl _,e,h,k | .int _,e,h,k=>by cases e<;>first | (unfold toD L3.eqD eqV;rfl) | (unfold Dv.cmp at k;cases k)
 | .str l,e,h,k=>by
  cases e with
  | str m=>unfold toD L3.eqD eqV;rw [L2.eqV_str];exact (nL l m).symm
  | _=>first | (unfold toD L3.eqD eqV;rfl) | (unfold Dv.cmp at k;cases k)
 | .tup xs,e,h,k=>by
  cases e with
  | tup ys=>unfold toD L3.eqD eqV;unfold Dv.cmp at h k;exact MX xs ys h k
  | _=>first | (unfold toD L3.eqD eqV;rfl) | (unfold Dv.cmp at k;cases k)
 | .lst xs,e,h,k=>by
  cases e with
  | lst ys=>unfold toD L3.eqD eqV;unfold Dv.cmp at h k;exact MX xs ys h k
  | _=>first | (unfold toD L3.eqD eqV;rfl) | (unfold Dv.cmp at k;cases k)
 | .dct _ _,e,h,k | .ref _,e,h,k | .scr _,e,h,k | .ty _,e,h,k | .mtp _,e,h,k | .dtt _ _,e,h,k | .dnt _ _,e,h,k | .obj _ _ _ _,e,h,k=>by unfold Dv.cmp at h;cases h
theorem MX:∀ (d e:List Dv),Aj d=true->Aj e=true->L3.eqDs (toDs d) (toDs e)=eqVs d e
 | [],[],_,_=>by unfold toDs L3.eqDs eqVs;rfl
 | [],_::_,_,_=>by simp only [toDs,L3.eqDs,eqVs]
 | _::_,[],_,_=>by simp only [toDs,L3.eqDs,eqVs]
 | x::xs,y::ys,h,k=>by
  unfold Aj at h k;rw [dL] at h k;simp only [toDs,L3.eqDs,eqVs];rw [Kv x y h.1 k.1,MX xs ys h.2 k.2]
end
mutual
theorem dep_D:∀ (d:Dv),(toD d).dep=d.dep
 | .non | .bl _ | .int _ | .str _ | .dct _ _ | .ref _ | .scr _ | .ty _ | .mtp _ | .dtt _ _ | .dnt _ _ | .obj _ _ _ _=>by unfold toD L3.D.dep Dv.dep;rfl
 | .tup xs=>by unfold toD L3.D.dep Dv.dep;rw [deps_D xs]
 | .lst xs=>by unfold toD L3.D.dep Dv.dep;rw [deps_D xs]
theorem deps_D:∀ (d:List Dv),L3.depL (toDs d)=Aq d
 | []=>by unfold toDs L3.depL Aq;rfl
 | x::xs=>by simp only [toDs,L3.depL,Aq];rw [dep_D x,deps_D xs]
end
section
variable {K:W.Frag} {g:G} {H:Hp}
mutual
theorem Rep.is:∀ {o:Nat} {d:Dv} {v:V} {P:Fp},Rep K g H o d v P->d.cmp=true->L3.Is K H v (toD d)
 | _,.non,v,P,h,_=>by rw [rep_non h];unfold toD L3.Is;exact ⟨rfl,rfl⟩
 | _,.bl b,v,P,h,_=>by rw [rep_bl h];unfold toD L3.Is;exact ⟨rfl,rfl⟩
 | _,.int i,v,P,h,_=>by rw [rep_int h];unfold toD L3.Is;exact ⟨rfl,rfl⟩
 | _,.str l,v,P,h,_=>by rw [rep_str h];unfold toD L3.Is;exact ⟨rfl,rfl⟩
 | _,.tup xs,v,P,h,c=>by
  unfold Rep at h;obtain ⟨a,vs,rfl,h1,h2⟩:=h;unfold Dv.cmp at c;unfold toD L3.Is;exact ⟨a,vs,rfl,.inl (.inl h1),Reps.isL h2 c⟩
 | _,.lst xs,v,P,h,c=>by
  unfold Rep at h;obtain ⟨a,vs,P',rfl,h1,h2,_⟩:=h;unfold Dv.cmp at c;unfold toD L3.Is;exact ⟨a,vs,rfl,.inl (.inl h1.1),Reps.isL h2 c⟩
 | _,.dct _ _,v,P,h,c | _,.ref _,v,P,h,c | _,.scr _,v,P,h,c | _,.ty _,v,P,h,c | _,.mtp _,v,P,h,c | _,.dtt _ _,v,P,h,c | _,.dnt _ _,v,P,h,c | _,.obj _ _ _ _,v,P,h,c=>by unfold Dv.cmp at c;cases c
theorem Reps.isL:∀ {o:Nat} {d:List Dv} {v:List V} {P:Fp},Reps K g H o d v P->Aj d=true->L3.IsL K H v (toDs d)
 | _,[],v,P,h,_=>by
  unfold Reps at h;obtain ⟨rfl,_⟩:=h;unfold toDs L3.IsL
  trivial
 | _,x::xs,v,P,h,c=>by
  unfold Reps at h;obtain ⟨u,r,P1,P2,rfl,h1,h2,_⟩:=h;unfold Aj at c;rw [dL] at c;unfold toDs L3.IsL;exact ⟨Rep.is h1 c.1,Reps.isL h2 c.2⟩
end
def Mj (neg:Bool) (x y:Dv):Option Bool:=if (x.cmp && y.cmp && decide (x.dep<=150))=true then some (if neg then !eqV x y else eqV x y) else none
abbrev QT:=Mj false
abbrev VJ:=Mj true
theorem Rm {neg:Bool}:AJ K (fun ds=>(two (Mj neg) ds).map .bl) 0 (LS (L3.rEqA K neg)):=FX fun g H x y v w o1 o2 P R b Q zd _ h1 _ h2 e k=>by
 unfold Mj at e;split at e
 ·rename_i c;cases e;rw [dL,dL,decide_eq_true_eq] at c;refine ⟨toD x,toD y,by rw [dep_D];exact c.2,h1.is c.1.1,h2.is c.1.2,?_⟩;rw [Kv x y c.1.1 c.1.2];exact k
 ·cases e
noncomputable def hX:Dv->Option (List Dv)
 | .lst xs=>some xs
 | .tup xs=>some xs
 | .mtp ls=>some (ls.map .str)
 | _=>none
def memV (e:Dv) (ds:List Dv):Bool:=ds.any fun d=>eqV d e
def HV (neg:Bool) (e s:Dv):Option Bool:=match e,s with
 | .str x,.str l=>some (if neg then !Q.sub1 x l else Q.sub1 x l)
 | e,.dct ks ds=>((CN e).bind fun k=>some (if neg then !(Bl k ks ds).isSome else (Bl k ks ds).isSome)).or (if ks.isEmpty=true then (MM e).bind fun _=>some neg else none)
 | e,.dtt ks ds=>(PV e).bind fun k=>some (if neg then !(Bl k ks ds).isSome else (Bl k ks ds).isSome)
 | e,.dnt ks ds=>(MM e).bind fun k=>some (if neg then !(Bl k ks ds).isSome else (Bl k ks ds).isSome)
 | e,s=>match hX s with
  | some xs=>if (e.cmp && Aj xs && decide (Aq xs<=150))=true then some (if neg then !memV e xs else memV e xs) else none
  | none=>none
abbrev iK:=HV false
abbrev Dl:=HV true
theorem anyD (e:Dv) (he:e.cmp=true):∀ (ds:List Dv),Aj ds=true->((toDs ds).any fun d=>L3.eqD d (toD e))=memV e ds
 | [],_=>by unfold toDs memV;rfl
 | d::ds,h=>by
  unfold Aj at h;rw [dL] at h;unfold memV;simp only [toDs,lu];rw [Kv d e h.1 he,anyD e he ds h.2];rfl
theorem Lr (ls:List (List Nat)):Reps K g H 0 (ls.map .str) (ls.map fun l=>V.str (tx l)) nop:=CK.mpr ⟨by simp,fun i d v e1 e2=>by
 rw [km] at e1 e2;cases q:ls[i]? with
 | none=>rw [q] at e1;cases e1
 | some k=>rw [q] at e1 e2;cases e1;cases e2;unfold Rep;exact ⟨rfl,fun _ z=>z⟩⟩
theorem Rl {neg:Bool}:AJ K (fun ds=>(two (HV neg) ds).map .bl) 0 (LS fun x y H q=>Q.rInQ K neg x y H q\/Zw neg x y H q\/Zt neg x y H q):=FX fun g H x y v w o1 o2 P R b Q zd l1 h1 l2 h2 e k=>by
  unfold HV at e;split at e
  · cases e;rw [rep_str h1,rep_str h2];exact .inl (.inl ⟨_,_,rfl,rfl,k⟩)
  · rename_i ks ds;rcases nA.mp e with e | ⟨_,e⟩
    · obtain ⟨kk,ek,e⟩:=bind_some' e;cases e;obtain ⟨a,us,rfl,ha,hl,hx⟩:=Tw h2;rw [EH h1 ek];refine .inr (.inl ⟨a,_,rfl,.inl (De.k ha),?_⟩);rw [DS hl hx.len];exact k
    · split at e
      · rename_i hk;obtain ⟨kk,ek,e⟩:=bind_some' e;cases e;obtain rfl:ks=[]:=by cases ks with | nil=>rfl | cons _ _=>cases hk
        obtain ⟨a,us,rfl,ha,hl,hx⟩:=Tw h2;obtain ⟨b,rfl,hb⟩:=Cy h1 ek;refine .inr (.inr ⟨a,none,rfl,⟨kk,b,rfl,hb,.inr ⟨ha,rfl⟩⟩,?_⟩);cases neg<;>exact k
      · cases e
  · obtain ⟨kk,ek,e⟩:=bind_some' e;cases e;obtain ⟨a,us,rfl,ha,hl,hx⟩:=gJ h2;obtain ⟨b,rfl,hb⟩:=EI h1 ek;refine .inr (.inl ⟨a,_,rfl,.inl (De.t ha hb),?_⟩);rw [DS hl hx.len];exact k
  · obtain ⟨kk,ek,e⟩:=bind_some' e;cases e;obtain ⟨a,us,rfl,ha,hl,hx⟩:=gK h2;obtain ⟨b,rfl,hb⟩:=Cy h1 ek;refine .inr (.inr ⟨a,_,rfl,⟨kk,b,rfl,hb,.inl ⟨_,ha,rfl⟩⟩,?_⟩);rw [DS hl hx.len];exact k
  · rename_i a s _;split at e
    · rename_i xs es;split at e
      · rename_i c;cases e;rw [dL,dL,decide_eq_true_eq] at c;have go:∀ p ys,w=.ref p->(Cm K H p ys\/DW K H p ys)->Reps K g H 0 xs ys nop->L3.rInA K neg v w H Q:=by
          rintro p ys rfl hs hr;refine ⟨p,ys,toDs xs,toD x,rfl,hs,hr.isL c.1.2,h1.is c.1.1,by rw [deps_D];exact c.2,?_⟩;rw [anyD x c.1.1 xs c.1.2];exact k
        cases y with
        | lst ys =>
          cases es;obtain ⟨p,us,rfl,ha,hx,_⟩:=Dg l2 h2;exact .inl (.inr (go p us rfl (.inl ha) hx))
        | tup ys =>
          cases es;obtain ⟨p,us,rfl,ha,hx,_⟩:=DY l2 h2;exact .inl (.inr (go p us rfl (.inr ha) hx))
        | mtp ls =>
          cases es;unfold Rep at h2;obtain ⟨⟨p,rfl,hm⟩,_⟩:=h2;exact .inl (.inr (go p _ rfl (.inr (.inr hm)) (Lr ls)))
        | _=>cases es
      · cases e
    · cases e
end
noncomputable def OR:List Dv->Option (List Bool)
 | []=>some []
 | .bl b::ds=>(OR ds).map (b::·)
 | _=>none
noncomputable def Jl:List Dv->Option (List Int)
 | []=>some []
 | .int b::ds=>(Jl ds).map (b::·)
 | _=>none
noncomputable def Hf:List Dv->Option (List (List Nat))
 | []=>some []
 | .str b::ds=>(Hf ds).map (b::·)
 | _=>none
section
variable {K:W.Frag} {g:G} {H:Hp}
theorem Jm:∀ {ds:List Dv} {bs:List Bool} {vs:List V},Reps K g H 0 ds vs nop->OR ds=some bs->vs=bs.map V.bl
 | [],bs,vs,h,e=>by cases e;exact Ay h
 | d::ds,bs,vs,h,e=>by
  obtain ⟨v,r,rfl,h1,h2⟩:=BC h;cases d<;>simp only [OR,lH,reduceCtorEq] at e;obtain ⟨bs',e,rfl⟩:=e;rw [rep_bl h1,Jm h2 e];rfl
theorem EW:∀ {ds:List Dv} {bs:List Int} {vs:List V},Reps K g H 0 ds vs nop->Jl ds=some bs->vs=bs.map V.int
 | [],bs,vs,h,e=>by cases e;exact Ay h
 | d::ds,bs,vs,h,e=>by
  obtain ⟨v,r,rfl,h1,h2⟩:=BC h;cases d<;>simp only [Jl,lH,reduceCtorEq] at e;obtain ⟨bs',e,rfl⟩:=e;rw [rep_int h1,EW h2 e];rfl
theorem Hd:∀ {ds:List Dv} {bs:List (List Nat)} {vs:List V},Reps K g H 0 ds vs nop->Hf ds=some bs->vs=(bs.map tx).map V.str
 | [],bs,vs,h,e=>by cases e;exact Ay h
 | d::ds,bs,vs,h,e=>by
  obtain ⟨v,r,rfl,h1,h2⟩:=BC h;cases d<;>simp only [Hf,lH,reduceCtorEq] at e;obtain ⟨bs',e,rfl⟩:=e;rw [rep_str h1,Hd h2 e];rfl
def QW (x:Dv):Option Dv:=match x with | .lst xs=>(OR xs).map fun bs=>.bl (bs.all id) | _=>none
theorem aK {o:Nat}:AJ K (one QW) o (eR K):=Eo fun g H x v o1 P d Q zd l1 h1 e k=>by
 unfold QW at e;split at e
 ·simp only [lH] at e;obtain ⟨bs,e,rfl⟩:=e;obtain ⟨p,us,rfl,ha,hx,_⟩:=Dg l1 h1;rw [Jm hx e] at ha;exact ⟨p,bs,rfl,ha,k _ _ (Ae.bl _)⟩
 ·cases e
noncomputable def IZ (x y:Dv):Option Dv:=match x,y with | .int i,.int j=>some (.int (if j > i then j else i)) | _,_=>none
theorem ED {f:Dv->Dv->Option Dv} {o:Nat} {r:OL} (h:∀ g H x y v w o1 o2 P R d Q,Zd g H->o1<=1->Rep K g H o1 x v P->o2<=1->Rep K g H o2 y w R->f x y=some d->(∀ v H',Ae K g H o d v H'->Q v H')->r [v,w] H Q):AJ K (two f) o r:=fun g H ds vs d Q zd ra e k=>by
 obtain ⟨x,y,rfl,e⟩:=Dp e;obtain ⟨v,o1,P,w,o2,R,rfl,h1,h2,h3,h4⟩:=ra.two;exact h g H x y v w o1 o2 P R d Q zd h1 h2 h3 h4 e k
theorem Vz {o:Nat}:AJ K (two IZ) o (fun xs H Q=>∃ i j,xs=[.int i,.int j]/\Q (.int (if j > i then j else i)) H):=ED fun g H x y v w o1 o2 P R d Q zd _ h1 _ h2 e k=>by
 unfold IZ at e;split at e
 ·cases e;rw [rep_int h1,rep_int h2];exact ⟨_,_,rfl,k _ _ (Ae.int _)⟩
 ·cases e
noncomputable def Ic (x:Dv):Option Dv:=match x with
 | .int i=>some (.int i)
 | .bl b=>some (.int (if b then 1 else 0))
 | .str l=>if (l.all (fun c=>decide (48<=c) && decide (c<=57)) && !l.isEmpty && decide (l.length<=600))=true then some (.int ((NumText.digitsVal l:Nat):Int)) else none
 | _=>none
theorem WB {o:Nat}:AJ K (one Ic) o (fun xs H Q=>((∃ i,xs=[.int i]/\Q (.int i) H)\/∃ k,xs=[.bl k]/\Q (.int (if k then 1 else 0)) H)\/YM xs H Q):=Eo fun g H x v o1 P d Q zd l1 h1 e k=>by
 unfold Ic at e;split at e
 ·cases e;rw [rep_int h1];exact .inl (.inl ⟨_,rfl,k _ _ (Ae.int _)⟩)
 ·cases e;rw [rep_bl h1];exact .inl (.inr ⟨_,rfl,k _ _ (Ae.int _)⟩)
 ·split at e
  ·rename_i c;cases e;simp only [dL,lN,decide_eq_true_eq,lp,List.isEmpty_eq_false_iff] at c;rw [rep_str h1];exact .inr ⟨_,rfl,c.1.1,c.1.2,c.2,k _ _ (Ae.int _)⟩
  ·cases e
 ·cases e
noncomputable def Al (x:Dv):Option Dv:=match x with | .lst xs=>some (.tup xs) | .tup xs=>some (.tup xs) | _=>none
theorem Rj:AJ K (one Al) 1 (KJ K):=Eo fun g H x v o1 P d Q zd l1 h1 e k=>by
 unfold Al at e;split at e
 ·cases e;obtain ⟨p,us,rfl,ha,hx,_⟩:=Dg l1 h1;exact ⟨p,us,rfl,.inl ⟨ha,fun l hl=>k _ _ (Ae.tup (kb 1) hl hx)⟩⟩
 ·cases e;obtain ⟨p,us,rfl,ha,hx,ha'⟩:=DY l1 h1;exact ⟨p,us,rfl,.inr ⟨ha,k _ _ (Ae.old (DL (kb 1) ha' hx))⟩⟩
 ·cases e
def HI (x y:Dv):Option Dv:=match x,y with
 | .str sep,.lst xs=>match Hf xs with
  | some ys=>if (ys.map List.length).sum+ys.length * sep.length<=1000000 then some (.str (jn sep ys)) else none
  | none=>none
 | _,_=>none
theorem WA {o:Nat}:AJ K (two HI) o (cj (Rb K)):=ED fun g H x y v w o1 o2 P R d Q zd l1 h1 l2 h2 e k=>by
 unfold HI at e;split at e
 ·split at e
  ·rename_i sep xs _ ys e1;split at e
   ·rename_i hz;cases e;obtain ⟨a,us,rfl,ha,hx,_⟩:=Dg l2 h2;rw [rep_str h1];rw [Hd hx e1] at ha;refine ⟨tx sep,a,ys.map tx,rfl,rfl,ha,?_,?_⟩
    ·rw [ZM,lK,BJ];exact kr hz (by decide)
    ·rw [cz];exact k _ _ (Ae.str _)
   ·cases e
  ·cases e
 ·cases e
noncomputable def FF (x:Dv):Option Dv:=match x with
 | .str l=>if (l.all (fun c=>decide (c < 128)) && decide (l.length<=1000000))=true then some (.str (l.map PyProof.Rows.up1)) else none
 | _=>none
theorem Ri {o:Nat}:AJ K (one FF) o (cj RY):=Eo fun g H x v o1 P d Q zd l1 h1 e k=>by
 unfold FF at e;split at e
 ·split at e
  ·rename_i l c;cases e;rw [dL,decide_eq_true_eq,lN] at c;rw [rep_str h1];exact ⟨l,rfl,rfl,fun x hx=>of_decide_eq_true (c.1 x hx),c.2,k _ _ (Ae.str _)⟩
  ·cases e
 ·cases e
def idxV (e:Dv):List Dv->Option Nat
 | []=>none
 | d::ds=>if eqV d e=true then some 0 else (idxV e ds).map (·+1)
theorem ID (e:Dv):∀ (ds:List Dv) (j:Nat),idxV e ds=some j->(∃ d,ds[j]?=some d/\eqV d e=true)/\∀ (i:Nat) (d:Dv),i < j->ds[i]?=some d->eqV d e=false
 | [],j,h=>by cases h
 | d::ds,j,h=>by
  unfold idxV at h;split at h
  ·rename_i c;cases h;exact ⟨⟨d,rfl,c⟩,fun i d hi=>by omega⟩
  ·rename_i c;simp only [lH] at h;obtain ⟨k,hk,rfl⟩:=h;obtain ⟨h1,h2⟩:=ID e ds k hk;refine ⟨by simpa using h1,fun i d' hi hd=>?_⟩;cases i with
   | zero=>simp at hd;subst hd;simpa using c
   | succ i=>exact h2 i d' (by omega) (by simpa using hd)
theorem toDs_get:∀ (ds:List Dv) (i:Nat),(toDs ds)[i]?=(ds[i]?).map toD
 | [],i=>by unfold toDs;simp
 | d::ds,0=>by unfold toDs;simp
 | d::ds,i+1=>by
  have:=toDs_get ds i;simp only [toDs,mZ];exact this
theorem Hg {ds:List Dv} (h:Aj ds=true):∀ {i:Nat} {d:Dv},ds[i]?=some d->d.cmp=true:=by
 induction ds with
 | nil=>intro i d e;simp at e
 | cons x xs ih =>
  unfold Aj at h;rw [dL] at h;intro i d e;cases i with
  | zero=>simp at e;subst e;exact h.1
  | succ i=>exact ih h.2 (i:=i) (by simpa using e)
theorem Sr {e:Dv} {ds:List Dv} {j:Nat} (he:e.cmp=true) (hd:Aj ds=true) (h:idxV e ds=some j) :
    (∃ d,(toDs ds)[j]?=some d/\L3.eqD d (toD e)=true)/\∀ (m:Nat) (d:L3.D),m < j->(toDs ds)[m]?=some d->L3.eqD d (toD e)=false:=by
  obtain ⟨⟨d,h1,h2⟩,h3⟩:=ID e ds j h;refine ⟨⟨toD d,by rw [toDs_get,h1];rfl,by rw [Kv d e (Hg hd h1) he];exact h2⟩,fun m d' hm hd'=>?_⟩;rw [toDs_get] at hd';cases q:ds[m]? with
  | none=>rw [q] at hd';cases hd'
  | some dm =>
    rw [q] at hd';cases hd';rw [Kv dm e (Hg hd q) he];exact h3 m dm hm q
def FG (x e:Dv):Option Dv:=match x with
 | .lst xs=>if (e.cmp && Aj xs && decide (Aq xs<=150))=true then (idxV e xs).map fun j=>.int (j:Nat) else none
 | _=>none
theorem Rk {o:Nat}:AJ K (two FG) o (cj (Q.rIndexD K)):=ED fun g H x y v w o1 o2 P R d Q zd l1 h1 l2 h2 e k=>by
 unfold FG at e;split at e
 ·split at e
  ·rename_i xs c;rw [dL,dL,decide_eq_true_eq] at c;simp only [lH] at e;obtain ⟨j,e1,rfl⟩:=e;obtain ⟨p,us,rfl,ha,hx,_⟩:=Dg l1 h1;obtain ⟨q1,q2⟩:=Sr c.1.1 c.1.2 e1;exact ⟨p,us,w,toDs xs,toD y,j,rfl,rfl,ha,hx.isL c.1.2,h2.is c.1.1,by rw [deps_D];exact c.2,q1,q2,k _ _ (Ae.int _)⟩
  ·cases e
 ·cases e
def Fk (x e:Dv):Option Dv:=match x with
 | .tup xs=>if (e.cmp && Aj xs && decide (Aq xs<=150))=true then (idxV e xs).map fun j=>.int (j:Nat) else none
 | _=>none
theorem Oo {o:Nat}:AJ K (two Fk) o (cj (Q.rIndexTD K)):=ED fun g H x y v w o1 o2 P R d Q zd l1 h1 l2 h2 e k=>by
 unfold Fk at e;split at e
 ·split at e
  ·rename_i xs c;rw [dL,dL,decide_eq_true_eq] at c;simp only [lH] at e;obtain ⟨j,e1,rfl⟩:=e;obtain ⟨p,us,rfl,_,hx,ha⟩:=DY l1 h1;obtain ⟨q1,q2⟩:=Sr c.1.1 c.1.2 e1;exact ⟨p,us,w,toDs xs,toD y,j,rfl,rfl,ha,hx.isL c.1.2,h2.is c.1.1,by rw [deps_D];exact c.2,q1,q2,k _ _ (Ae.int _)⟩
  ·cases e
 ·cases e
noncomputable def Sg:Dv->Option String
 | .non=>some "NoneType"
 | .bl _=>some "bool"
 | .int _=>some "int"
 | .str _=>some "str"
 | .tup _=>some "tuple"
 | .lst _=>some "list"
 | _=>none
noncomputable def iA:List Dv->Option (List String)
 | []=>some []
 | .ty T::xs=>(iA xs).map (T::·)
 | _=>none
noncomputable def SI (T:String):Bool:=["int", "bool", "str", "tuple", "list"].contains T
def Dc (x y:Dv):Option Dv:=match y with
 | .ty T=>if SI T=true then (Sg x).map fun k=>.bl (Q.isSub k T) else none
 | .tup ts=>(iA ts).bind fun Ts=>if Ts.all SI=true then (Sg x).map fun k=>.bl (Ts.any (Q.isSub k)) else none
 | _=>none
theorem NY (K:W.Frag) {k:String} (hk:k∈["NoneType", "bool", "int", "str", "tuple", "list"]):∀ {Ts:List String},Ts.all SI=true->W.kitAny K (.type k) (Ts.map Value.type)=some (Ts.any (_root_.Q.isSub k))
 | [],_=>rfl
 | T::Ts,h=>by
  rw [lW,dL] at h
  have hT:T∈["int", "bool", "str", "tuple", "list"]:=by have:=h.1;unfold SI at this;simpa using this
  rw [kj];unfold W.kitAny;rw [_root_.Q.kit_ok K hk hT,lu];cases _root_.Q.isSub k T with
  | true=>rfl
  | false=>exact NY K hk h.2
theorem Mw:∀ {ts:List Dv} {Ts:List String} {us:List V} {P:Fp},Reps K g H 0 ts us P->iA ts=some Ts->us=Ts.map V.ty
 | [],Ts,us,P,h,e=>by cases e;unfold Reps at h;exact h.1
 | .ty T::ts,Ts,us,P,h,e=>by
  unfold iA at e;rw [lH] at e;obtain ⟨Ts',e1,rfl⟩:=e;unfold Reps at h;obtain ⟨v,vs,R,S,rfl,h1,h2,_⟩:=h;rw [Mw h2 e1];unfold Rep at h1;rw [h1.1];rfl
 | .non::_,_,_,_,_,e | .bl _::_,_,_,_,_,e | .int _::_,_,_,_,_,e | .str _::_,_,_,_,_,e | .tup _::_,_,_,_,_,e | .lst _::_,_,_,_,_,e | .dct _ _::_,_,_,_,_,e | .ref _::_,_,_,_,_,e | .scr _::_,_,_,_,_,e | .mtp _::_,_,_,_,_,e | .dtt _ _::_,_,_,_,_,e | .dnt _ _::_,_,_,_,_,e | .obj _ _ _ _::_,_,_,_,_,e=>by cases e
theorem NZ {o:Nat} {x:Dv} {v:V} {P:Fp} {kd:String} (l1:o<=1) (h1:Rep K g H o x v P) (e:Sg x=some kd):TyOf K H v (.type kd)/\kd∈["NoneType", "bool", "int", "str", "tuple", "list"]:=by
 cases x with
 | non=>cases e;rw [rep_non h1];exact ⟨.non,by simp⟩
 | bl b=>cases e;rw [rep_bl h1];exact ⟨.bl _,by simp⟩
 | int b=>cases e;rw [rep_int h1];exact ⟨.int _,by simp⟩
 | str b=>cases e;rw [rep_str h1];exact ⟨.str _,by simp⟩
 | tup b=>cases e;obtain ⟨p,us,rfl,_,_,ha⟩:=DY l1 h1;exact ⟨.tup ha,by simp⟩
 | lst b=>cases e;obtain ⟨p,us,rfl,_,_,ha⟩:=Dg l1 h1;exact ⟨.lst ha,by simp⟩
 | _=>cases e
theorem aI {o:Nat}:AJ K (two Dc) o (fun xs H Q=>eO K xs H Q\/YL K xs H Q):=ED fun g H x y v w o1 o2 P R d Q zd l1 h1 l2 h2 e k=>by
 unfold Dc at e;split at e
 ·rename_i T;split at e
  ·rename_i c
   have hT:T∈["int", "bool", "str", "tuple", "list"]:=by unfold SI at c;simpa using c
   have hw:w=.ty T:=by unfold Rep at h2;exact h2.1
   subst hw;rw [lH] at e;obtain ⟨kd,e1,rfl⟩:=e;obtain ⟨ty,hk⟩:=NZ l1 h1 e1;exact .inl ⟨v,T,.type kd,_,rfl,ty,_root_.Q.kit_ok K hk hT,k _ _ (Ae.bl _)⟩
  ·cases e
 ·rename_i ts;obtain ⟨Ts,e0,e⟩:=la.mp e;split at e
  ·rename_i c;rw [lH] at e;obtain ⟨kd,e1,rfl⟩:=e;obtain ⟨ty,hk⟩:=NZ l1 h1 e1;obtain ⟨p,us,rfl,ha,hx,_⟩:=DY l2 h2;rw [Mw hx e0] at ha;refine .inr ⟨v,p,Ts,.type kd,_,rfl,ha,ty,⟨kd,rfl,?_,?_⟩,NY K hk c,k _ _ (Ae.bl _)⟩
   ·rintro rfl;simp at hk
   ·rintro rfl;simp at hk
  ·cases e
 ·cases e
def bJ (f:List Int->List Int->Bool) (xs:List Dv) (y:Dv):Option Bool:=match y with
 | .tup ys=>(Jl xs).bind fun a=>(Jl ys).map fun b=>f a b
 | _=>none
theorem Sb {f:List Int->List Int->Bool} {xs:List Dv} {y:Dv} {v w:V} {o1 o2:Nat} {P R:Fp} {b:Bool} (l1:o1<=1) (h1:Rep K g H o1 (.tup xs) v P) (l2:o2<=1) (h2:Rep K g H o2 y w R) (e:bJ f xs y=some b):∃ p q ns ms,v=.ref p/\w=.ref q/\DW K H p (ns.map V.int)/\DW K H q (ms.map V.int)/\b=f ns ms:=by
 unfold bJ at e;split at e
 ·obtain ⟨ns,e1,e⟩:=la.mp e;rw [lH] at e;obtain ⟨ms,e2,rfl⟩:=e;obtain ⟨p,us,rfl,ha,hx,_⟩:=DY l1 h1;obtain ⟨q,ws,rfl,hb,hy,_⟩:=DY l2 h2;rw [EW hx e1] at ha;rw [EW hy e2] at hb;exact ⟨p,q,ns,ms,rfl,rfl,ha,hb,rfl⟩
 ·cases e
def QR (x y:Dv):Option Bool:=match x with
 | .int i=>match y with | .int j=>some (decide (i < j)) | _=>none
 | .tup xs=>bJ HT.lexLt xs y
 | _=>none
theorem eY:AJ K (fun ds=>(two QR ds).map .bl) 0 (LS fun x y H Q=>Rc (fun i j=>.bl (decide (i < j))) x y H Q\/eK K x y H Q):=FX fun g H x y v w o1 o2 P R b Q zd l1 h1 l2 h2 e k=>by
 unfold QR at e;split at e
 ·split at e
  ·cases e;rw [rep_int h1,rep_int h2];exact .inl ⟨_,_,rfl,rfl,k⟩
  ·cases e
 ·obtain ⟨p,q,ns,ms,r1,r2,h3,h4,r3⟩:=Sb l1 h1 l2 h2 e;rw [r3] at k;exact .inr ⟨p,q,ns,ms,r1,r2,h3,h4,k⟩
 ·cases e
end
end R
namespace L2
open PySem PySem.Spec PyProof.Rows
section
end
section
end
end L2
namespace L3
open PySem PySem.Spec PyProof.Rows L2
section
end
end L3
namespace KO
open PySem PySem.W PyProof.Rows
section
end
end KO
namespace L2
open PySem PySem.Spec PyProof.Rows
section
end
end L2
namespace R
open PySem L2
noncomputable def RU:Dv->Option (List Dv)
 | .tup ds=>some ds
 | .lst ds=>some ds
 | .scr ns=>some (ns.map .int)
 | _=>none
section
variable {K:W.Frag} {g:G} {H:Hp}
abbrev jL (K:W.Frag) (g:G) (H:Hp) (a:Addr) (b:Bool) (ds:List Dv):Prop:=∀ g2 H2,HK g H g2 H2->∃ vs,LX K H2 a vs b/\Reps K g2 H2 0 ds vs nop
theorem KB {d:Dv} {ds:List Dv} {v:V} (h:Rep K g H 0 d v nop) (e:RU d=some ds):∃ a b,v=.ref a/\jL K g H a b ds:=by
 have z1:(0:Nat)<=1:=by decide
 cases d with
 | tup es =>
  cases e;obtain ⟨a,vs,rfl,_⟩:=DY z1 h;refine ⟨a,true,rfl,fun g2 H2 st=>?_⟩;obtain ⟨a',us,q,k1,k2,_⟩:=DY z1 (st.rep h);cases q;exact ⟨us,k1,k2⟩
 | lst es =>
  cases e;obtain ⟨a,vs,rfl,_⟩:=Dg z1 h;refine ⟨a,false,rfl,fun g2 H2 st=>?_⟩;obtain ⟨a',us,q,k1,k2,_⟩:=Dg z1 (st.rep h);cases q;exact ⟨us,k1,k2⟩
 | scr ns =>
  cases e;obtain ⟨a,rfl,_⟩:=Of h;refine ⟨a,false,rfl,fun g2 H2 st=>?_⟩;obtain ⟨a',q,k1⟩:=Of (st.rep h);cases q;exact ⟨_,k1,GR ns⟩
 | _=>cases e
theorem ND:HK g H g H:=by
 first | exact ⟨nop,nop,Step.refl,fun _ z=>z.elim⟩ | exact ⟨nop,nop,Step.refl,FpOk.nop⟩ | exact HK.refl
def zipD2:List Dv->List Dv->List Dv
 | x1::xs1,x2::xs2=>.tup [x1,x2]::zipD2 xs1 xs2
 | _,_=>[]
theorem Ha:∀ (xs1 xs2:List Dv) (i:Nat) (e:Dv),(zipD2 xs1 xs2)[i]?=some e->∃ x1 x2,xs1[i]?=some x1/\xs2[i]?=some x2/\e=.tup [x1,x2]
 | x1::xs1,x2::xs2,0,e,h=>by simp [zipD2] at h;exact ⟨x1,x2,rfl,rfl,h.symm⟩
 | x1::xs1,x2::xs2,i+1,e,h=>by
  obtain ⟨y1,y2,h1,h2,q⟩:=Ha xs1 xs2 i e (by simpa [zipD2] using h);exact ⟨y1,y2,by simpa using h1,by simpa using h2,q⟩
 | [],_,i,e,h=>by simp [zipD2] at h
 | x1::xs1,[],i,e,h=>by simp [zipD2] at h
theorem Hb:∀ (xs1 xs2:List Dv) (i:Nat),(zipD2 xs1 xs2).length<=i->xs1.length<=i\/xs2.length<=i
 | x1::xs1,x2::xs2,0,h=>by simp [zipD2] at h
 | x1::xs1,x2::xs2,i+1,h=>by
  have:=Hb xs1 xs2 i (by simpa [zipD2] using h);simp only [ki];omega
 | [],_,i,h=>by simp
 | x1::xs1,[],i,h=>by simp
def NI (ds:List Dv):Option (List Dv):=two (fun x y=>(RU x).bind fun xs=>(RU y).bind fun ys=>some (zipD2 xs ys)) ds
def dy (K:W.Frag):List V->Hp->(It->Hp->Prop)->Prop:=fun vs H1 R=>∃ a1 a2 b1 b2,vs=[.ref a1,.ref a2]/\(∃ xs,LX K H1 a1 xs b1)/\(∃ xs,LX K H1 a2 xs b2)/\R (VG K a1 a2 b1 b2) H1
theorem VN {a1 a2:Addr} {b1 b2:Bool} {ds1 ds2:List Dv} (h1:jL K g H a1 b1 ds1) (h2:jL K g H a2 b2 ds2):Yl K (VG K a1 a2 b1 b2) (zipD2 ds1 ds2) g H:=by
 intro g2 H2 st;obtain ⟨vs1,sq1,r1⟩:=h1 g2 H2 st;obtain ⟨vs2,sq2,r2⟩:=h2 g2 H2 st;refine ⟨fun i d e=>?_,fun i hi=>⟨vs1,vs2,sq1,sq2,by have:=Hb _ _ _ hi;rw [<- r1.len,<- r2.len];exact this⟩⟩;obtain ⟨x1,x2,e1,e2,rfl⟩:=Ha _ _ i d e;obtain ⟨u1,_,eu1,ru1,_⟩:=r1.get e1;obtain ⟨u2,_,eu2,ru2,_⟩:=r2.get e2;refine ⟨⟨vs1,vs2,u1,u2,sq1,eu1,sq2,eu2⟩,fun x H3 y=>?_⟩;obtain ⟨p,w1,w2,hp,rfl,rfl,y1,y2⟩:=y;have:=y1 vs1 sq1;rw [eu1] at this;cases this;have:=y2 vs2 sq2;rw [eu2] at this;cases this;exact Ae.tup (by decide) hp (BM (Ek ru1.z) (Ek ru2.z))
theorem RG:VE K NI (dy K):=fun g H ds vs its Q zd ra e q=>by
 obtain ⟨x,y,rfl,e⟩:=Dp e;obtain ⟨xs,e1,e⟩:=bind_some' e;obtain ⟨ys,e2,e⟩:=bind_some' e;cases e;obtain ⟨v,us,rfl,h1,h2⟩:=BC ra;obtain ⟨w,us,rfl,h4,h3⟩:=BC h2;cases Ay h3;obtain ⟨a,b,rfl,q1⟩:=KB h1 e1;obtain ⟨a2,b2,rfl,q2⟩:=KB h4 e2;obtain ⟨w1,s1,_⟩:=q1 g H ND;obtain ⟨w2,s2,_⟩:=q2 g H ND;exact ⟨a,a2,b,b2,rfl,⟨w1,s1⟩,⟨w2,s2⟩,q _ H (fun _ _ z=>z) (VN q1 q2)⟩
end
section
variable {K:W.Frag} {g:G} {H:Hp}
end
noncomputable def HG (x y:Dv):Option Dv:=match x,y with
 | .lst xs,.int i=>if i = -1 then some (.lst xs.reverse) else none
 | .tup xs,.int i=>if i = -1 then some (.tup xs.reverse) else none
 | _,_=>none
theorem Vy {K:W.Frag}:AJ K (two HG) 1 (LS (jW K)):=En fun g H x y v w o1 o2 P R d Q zd l1 h1 l2 h2 e k=>by
 unfold HG at e;split at e
 ·split at e
  ·rename_i hi;subst hi;cases e;obtain ⟨a,us,rfl,ha,hx,_⟩:=Dg l1 h1;exact ⟨a,us,false,rfl,rep_int h2,ha,fun l hl=>k _ _ (Ae.lst zd (Hr hx) hl)⟩
  ·cases e
 ·split at e
  ·rename_i hi;subst hi;cases e;obtain ⟨a,us,rfl,ha,hx,_⟩:=DY l1 h1;exact ⟨a,us,true,rfl,rep_int h2,ha,fun l hl=>k _ _ (Ae.tup (kb 1) hl (Hr hx))⟩
  ·cases e
 ·cases e
noncomputable def Jb:Dv->Option Bool
 | .non=>some false
 | .bl b=>some b
 | .int i=>some (i != 0)
 | .str l=>if l.length<=1000000 then some (!l.isEmpty) else none
 | .lst xs=>some (!xs.isEmpty)
 | .tup xs=>some (!xs.isEmpty)
 | .scr xs=>some (!xs.isEmpty)
 | .dct ks _=>some (!ks.isEmpty)
 | _=>none
theorem NJ {K:W.Frag} {g:G} {H:Hp} {o:Nat} {xs:List Dv} {vs:List V} {P:Fp} (h:Reps K g H o xs vs P):(!xs.isEmpty)=!vs.isEmpty:=by
 have:=h.len;cases xs<;>cases vs<;>simp at this<;>rfl
theorem VR (K:W.Frag) (g:G) (H:Hp) (o:Nat) (d:Dv) (v:V) (P:Fp) (b:Bool) (h:Rep K g H o d v P) (e:Jb d=some b):VD K v H b:=by
 cases d with
 | non=>cases e;rw [rep_non h];exact rfl
 | bl b=>cases e;rw [rep_bl h];exact rfl
 | int i=>cases e;rw [rep_int h];exact rfl
 | str l =>
  simp only [Jb.eq_def] at e;split at e
  ·rename_i hl;cases e;rw [rep_str h];refine ⟨by rw [BJ];exact kr hl (by decide),?_⟩;rw [BJ];cases l<;>simp;omega
  ·cases e
 | lst xs =>
  cases e;unfold Rep at h;obtain ⟨a,vs,P',rfl,h1,h2,_⟩:=h;exact .inl ⟨vs,.inl (.inl h1.1),NJ h2⟩
 | tup xs =>
  cases e;unfold Rep at h;obtain ⟨a,vs,rfl,h1,h2⟩:=h;exact .inr (.inl ⟨vs,.inl (.inl h1),NJ h2⟩)
 | scr ns =>
  cases e;obtain ⟨a,rfl,h1⟩:=Of h;exact .inl ⟨_,h1,by cases ns<;>rfl⟩
 | dct ks ds =>
  cases e;obtain ⟨a,us,rfl,ha,hl,hx⟩:=Tw h;refine .inr (.inr ⟨_,ha,?_⟩);have:=hx.len;cases ks<;>cases ds<;>cases us<;>simp at hl this<;>rfl
 | _=>cases e
theorem jm {es:List Expr} (h:es.length=1):∃ a,es=[a]:=List.length_eq_one_iff.mp h
theorem jl {es:List Expr} (h:es.length=2):∃ a b,es=[a,b]:=by
 cases es with
 | nil=>cases h
 | cons a es=>obtain ⟨b,rfl⟩:=jm (Nat.succ.inj h);exact ⟨a,b,rfl⟩
theorem dE {tg:Expr} (h:JI tg=true):∃ elts x1 tpos,tg=.Tuple elts x1 tpos:=by
 cases tg<;>first | exact ⟨_,_,_,rfl⟩ | cases h
theorem Sw {X:Cx} (h:Gx X):X.A.units+1 < cLine:=by obtain ⟨j,r⟩:=h.2;have:=r.un;omega
theorem Nj {X:Cx} (h:Gx X):X.A.units+2 < cLine:=by obtain ⟨j,r⟩:=h.2;have:=r.un;omega
section
end
end R
namespace My
open PySem L2 R
theorem jg {K:W.Frag} {o:Nat} {r:OL}:AJ K (fun _=>none) o r:=fun _ _ _ _ _ _ _ _ e _=>by cases e
theorem kN {K:W.Frag} {o:Nat} {r:OL}:AJ K (one fun _=>none) o r:=fun _ _ ds _ _ _ _ _ e _=>by unfold one at e;split at e<;>cases e
theorem kM {K:W.Frag} {o:Nat} {r:OL}:AJ K (two fun _ _=>none) o r:=fun _ _ ds _ _ _ _ _ e _=>by unfold two at e;split at e<;>cases e
def tb:Tb where
 bins:=[⟨.Add,Ax,fun X h=>⟨_,Wb X.K,aL⟩⟩,
  ⟨.Sub,Mm,fun X h=>⟨_,aX,WC⟩⟩,
  ⟨.Mult,Da,fun X h=>⟨_,ae.or (aY.or L4.op_repT),aG⟩⟩,
  ⟨.Mod,DG,fun X h=>⟨_,af,Iz fun _ _ h=>of_decide_eq_true h⟩⟩,
  ⟨.FloorDiv,VC,fun X h=>⟨_,WX,Iz fun _ _ h=>by rw [dL,decide_eq_true_eq,decide_eq_true_eq] at h;exact h⟩⟩,
  ⟨.Pow,cc,fun X h=>⟨_,aZ,Iz fun _ _ h=>by rw [dL,dL,decide_eq_true_eq,decide_eq_true_eq,decide_eq_true_eq] at h;exact ⟨h.1.1,h.1.2,h.2⟩⟩⟩]
 cmps:=[⟨.Eq,QT,fun X h=>⟨_,L3.op_eqA h.2.choose_spec,Rm⟩⟩,
  ⟨.NotEq,VJ,fun X h=>⟨_,L3.op_neA h.2.choose_spec,Rm⟩⟩,
  ⟨.Lt,QR,fun X h=>⟨_,fF.or (ah (Nat.lt_of_succ_lt (Sw h))),eY⟩⟩,
  ⟨.Gt,ZD,fun X h=>⟨_,fG,NQ⟩⟩,
  ⟨.GtE,jy,fun X h=>⟨_,fH,NQ⟩⟩,
  ⟨.In,iK,fun X h=>⟨_,(Q.op_inQ h.2.choose_spec).or ((aj (Sw h)).or (aa (Nj h))),Rl⟩⟩,
  ⟨.NotIn,Dl,fun X h=>⟨_,(Q.op_notInQ h.2.choose_spec).or ((WY (Sw h)).or (WW (Nj h))),Rl⟩⟩]
 calls:=[⟨"len", 1,1,one Am,fun X h=>⟨_,aH,.inl ⟨_,(QC X.K).or Mb,PySem.boot_len⟩⟩⟩,
  ⟨"tuple", 1,1,one Al,fun X h=>⟨_,Rj,.inr ⟨_,LI X.K,PyProof.Rows.Boot.«tuple»⟩⟩⟩,
  ⟨"int", 1,1,one Ic,fun X h=>⟨_,WB,.inr ⟨_,QI.or QH,PyProof.Rows.Boot.«int»⟩⟩⟩,
  ⟨"all", 1,1,one QW,fun X h=>⟨_,aK,.inl ⟨_,QK X.K rfl h.1,PyProof.Rows.Boot.«all»⟩⟩⟩,
  ⟨"max", 2,1,two IZ,fun X h=>⟨_,Vz,.inl ⟨_,QB h.1,PyProof.Rows.Boot.«max»⟩⟩⟩,
  ⟨"isinstance", 2,1,two Dc,fun X h=>⟨_,aI,.inl ⟨_,(QG X.K).or QF,PyProof.Rows.Boot.«isinstance»⟩⟩⟩]
 meths:=[⟨"join", 1, "str", 1,two HI,.inl (.inr (.inl rfl)),fun X h=>⟨_,_,PySem.F.plainAttrs_str,PySem.F.slot_str_join,PySem.F.type_str_join,SV X.K,WA⟩⟩,
  ⟨"upper", 0, "str", 1,one FF,.inl (.inr (.inl rfl)),fun X h=>⟨_,_,PySem.F.plainAttrs_str,PySem.F.slot_str_upper,PySem.F.type_str_upper,SU,Ri⟩⟩,
  ⟨"index", 1, "list", 1,two FG,.inl (.inl rfl),fun X h=>⟨_,_,PySem.F.plainAttrs_list,PySem.F.slot_list_index,PySem.F.type_list_index,Q.mt_indexD h.2.choose_spec,Rk⟩⟩,
  ⟨"index", 1, "tuple", 1,two Fk,.inr ⟨rfl,rfl⟩,fun X h=>⟨_,_,PySem.F.plainAttrs_tuple,PySem.F.slot_tuple_index,PySem.F.type_tuple_index,Q.mt_indexTD h.2.choose_spec,Oo⟩⟩]
 muts:=[⟨"append", 1, "list", Ad,.inl rfl,fun X h=>⟨_,_,PySem.F.plainAttrs_list,PySem.F.slot_list_append,PySem.F.type_list_append,PL,PH⟩⟩,
  ⟨"pop", 0, "list", QV,.inl rfl,fun X h=>⟨_,_,PySem.F.plainAttrs_list,PySem.F.slot_list_pop,PySem.F.type_list_pop,bD,bB⟩⟩,
  ⟨"extend", 1, "list", DV,.inl rfl,fun X h=>⟨_,_,PySem.F.plainAttrs_list,PySem.F.slot_list_extend,PySem.F.type_list_extend,Qb.or PK MG,PF⟩⟩]
 srcs:=[⟨"range", 1,false,Ct,fun X h=>⟨_,RI,fun tg es p pos ta _ hn hs hg hm ha=>by obtain ⟨a,rfl⟩:=jm hn;exact Ou hg hm ha (AI (by simpa using hs))⟩⟩,
  ⟨"range", 2,false,Oh,fun X h=>⟨_,RH,fun tg es p pos ta _ hn hs hg hm ha=>by
   obtain ⟨a,b,rfl⟩:=jl hn;have z:BB a=true/\BB b=true:=by simpa using hs
   exact Ot hg hm ha ((AI z.1).trans (by rw [AI z.2];rfl)) (AI z.2)⟩⟩,
  ⟨"zip", 2,true,NI,fun X h=>⟨_,RG,fun tg es p pos ta ht hn hs hg hm ha=>by
   obtain ⟨elts,x1,tpos,rfl⟩:=dE (ht rfl);obtain ⟨a,b,rfl⟩:=jl hn;have z:BB a=true/\BB b=true:=by simpa using hs
   exact WH X.K hg hm ha rfl (AI z.1) (Au (by simp [z.2]))⟩⟩]
 ix:=AG
 ixok:=fun X h=>⟨_,(ij X.K).or ((fU (Sw h)).or (fT (Nj h))),aJ⟩
 sl:=LQ
 slok:=fun X h=>⟨_,ia X.K,eX⟩
 tru:=Jb
 trok:=VR
 lr:=fun _=>none
 lrok:=fun X h=>jg
 tr:=fun _=>none
 trrok:=fun X h=>jg
 md:=fun _ _=>none
 mdok:=fun X h=>kM
 rv:=HG
 rvok:=fun X h=>Vy
 lv:=fun _=>none
 lvok:=fun X h=>kN
 st:=Aw
 stok:=fun X h=>⟨_,Vg.or ((Zk (Sw h)).or (Zi (Nj h))),Zj⟩
noncomputable def top (i:Nat):Stmt:=PySem.Challenge.pw_shapefree_k35_forms_laid_together.main.body.getD i (.Pass ⟨0,0,0,0⟩)
def PJ (i j:Nat):Stmt:=match top i with | .ClassDef _ _ _ cb _ _ _ _ _ _ _=>cb.getD j (.Pass ⟨0,0,0,0⟩) | s=>s
noncomputable def Wq:List Str:=["listed", "numbers"]
def md:Md:=⟨tb,[],["len", "range", "tuple", "list", "zip", "isinstance", "enumerate", "all", "any", "int", "bool", "str", "sum", "max", "min", "reversed", "sorted", "dict", "repr", "set", "abs", "type", "ord", "chr"],Wq,["listed", "numbers"]⟩
noncomputable def iH:List (Str×Sig):=[]
noncomputable def Bg (a0:Dv):Option (Dv×Dv):=
(Dk a0 "listed" (Dv.lst [])).bind fun d0 =>
(Dk d0 "numbers" (Dv.dct [] [])).bind fun d1 =>
some (Dv.non,d1)
theorem LF:IP md iH (PJ 2 0) [0] 1=true:=by kernel_rfl
theorem Ku:QY md iH (PJ 2 0) [0] 1 (one Bg):=gh (by kernel_rfl) fun _=>(by kernel_rfl)
def jA:List (Str×Sig):=("__init__", BA (AE (PJ 2 0)) [0] 1 true (one Bg) (some "Nodes"))::iH
noncomputable def BL (a0:Dv) (a1:Dv):Option (Dv):=
bif CQ a0 "numbers" then
(HM a0 "numbers").bind fun d0 =>
(Dl a1 d0).bind fun b1 =>
if b1=true then
bif CQ a0 "listed" then
(HM a0 "listed").bind fun d2 =>
(Am d2).bind fun d3 =>
bif CQ a0 "numbers" then
(HM a0 "numbers").bind fun d4 =>
(Aw d4 a1 d3).bind fun d5 =>
bif CQ (Bx a0 "numbers" d5) "listed" then
(HM (Bx a0 "numbers" d5) "listed").bind fun d6 =>
EK "list" d6 (
(HM (Bx a0 "numbers" d5) "listed").bind fun d7 =>
(Ad d7 [a1]).bind fun r8 =>
some (Bx (Bx a0 "numbers" d5) "listed" r8.2))
else none
else none
else none
else
some a0
else none
noncomputable def As (a0 a1:Dv):Option (Dv×Dv):=
((BL a0 a1)).bind fun t9 =>
bif CQ t9 "numbers" then
(HM t9 "numbers").bind fun d10 =>
(AG d10 a1).bind fun d11 =>
some (d11,t9)
else none
theorem FS:IP md jA (PJ 2 1) [0] 0=true:=by kernel_rfl
theorem FQ:QY md jA (PJ 2 1) [0] 0 (two As):=cQ (by kernel_rfl) fun _ _=>(by kernel_rfl)
def fh:List (Str×Sig):=("number_of", BA (AE (PJ 2 1)) [0] 0 false (two As) (some "Nodes"))::jA
noncomputable def Br (a1:Dv) (x5:Dv):Option Dv:=
(AG a1 x5).bind fun d6 =>
some d6
noncomputable def BU (a0 a1:Dv):Option (Dv):=
(AG a0 (Dv.int 0)).bind fun d0 =>
(VJ d0 (Dv.str [100,111])).bind fun b1 =>
if b1=true then
some a0
else
(AG a0 (Dv.int 1)).bind fun d2 =>
(AG a0 (Dv.int 2)).bind fun d3 =>
(items d3).bind fun s4 =>
few s4 ((BG (Br a1) s4).bind fun y7 =>
(Al (Dv.lst y7)).bind fun d8 =>
some (Dv.tup [(Dv.str [100,111]),d2,d8]))
theorem JT:IP md fh (top 3) [] 0=true:=by kernel_rfl
theorem JP:QY md fh (top 3) [] 0 (two BU):=cQ (by kernel_rfl) fun _ _=>(by kernel_rfl)
def iz:List (Str×Sig):=("renumbered", BA (AE (top 3)) [] 0 true (two BU))::fh
noncomputable def Cb (x7:Dv) (t8:Dv×Dv):Option (Dv×Dv):=
EK "list" t8.2 (
bif Sk t8.1 "Nodes" "number_of" then
(BU x7 t8.2).bind fun c9 =>
bif nol c9 then
(As t8.1 c9).bind fun c10 =>
(Ad t8.2 [c10.1]).bind fun r11 =>
some (c10.2,r11.2)
else none
else none)
noncomputable def Ca (x3:Dv) (t4:Dv×Dv):Option (Dv×Dv):=
(AG x3 (Dv.int 0)).bind fun d5 =>
(items d5).bind fun s6 =>
(Bb Cb s6 (t4.1,(Dv.lst []))).bind fun t12 =>
EK "list" t4.2 (
(AG x3 (Dv.int 1)).bind fun d13 =>
(AG t12.2 d13).bind fun d14 =>
(Ad t4.2 [d14]).bind fun r15 =>
some (t12.1,r15.2))
noncomputable def KC (a0:Dv):Option (Dv):=
(Bg (Dv.obj "Nodes" Wq [] [])).bind fun c0 =>
fS c0.1 [c0.2] fun d1 =>
(items a0).bind fun s2 =>
(Bb Ca s2 (d1,(Dv.lst []))).bind fun t16 =>
bif CQ t16.1 "listed" then
(HM t16.1 "listed").bind fun d17 =>
(Al d17).bind fun d18 =>
(Al t16.2).bind fun d19 =>
some (Dv.tup [d18,d19])
else none
theorem bt:IP md iz (top 5) [] 1=true:=by kernel_rfl
theorem bj:QY md iz (top 5) [] 1 (one KC):=gh (by kernel_rfl) fun _=>(by kernel_rfl)
def iy:List (Str×Sig):=("laid", BA (AE (top 5)) [] 1 false (one KC))::iz
noncomputable def KA (a0:Dv) (a1:Dv) (d1:Dv):Option (Dv):=
(Am a0).bind fun d5 =>
(ZD d5 (Dv.int 0)).bind fun b6 =>
if b6=true then
(Am a0).bind fun d7 =>
(DG a1 d7).bind fun d8 =>
(AG a0 d8).bind fun d9 =>
(DG d9 (Dv.int 2147483629)).bind fun d10 =>
(Da d10 (Dv.int 31)).bind fun d11 =>
(Da (Dv.int 7907) a1).bind fun d12 =>
(Ax d11 d12).bind fun d13 =>
some d13
else
some d1
noncomputable def GK (a0:Dv) (a1:Dv) (d1:Dv):Option (Dv):=
(Am a0).bind fun d2 =>
(QR a1 d2).bind fun b3 =>
if b3=true then
(AG a0 a1).bind fun d4 =>
some d4
else
((KA a0 a1 d1)).bind fun t14 =>
some t14
noncomputable def GJ (t15:Dv):Option (Dv):=
(cc (Dv.int 10) (Dv.int 18)).bind fun d16 =>
(jy t15 d16).bind fun b17 =>
if b17=true then
some t15
else
some (Dv.int 0)
noncomputable def GQ (a0 a1:Dv):Option (Dv):=
(Da (Dv.int 7907) a1).bind fun d0 =>
(Ax d0 (Dv.int 13579)).bind fun d1 =>
((GK a0 a1 d1)).bind fun t15 =>
((GJ t15)).bind fun t18 =>
(DG t15 (Dv.int 2147483629)).bind fun d19 =>
(Da d19 (Dv.int 48271)).bind fun d20 =>
(Da (Dv.int 40692) a1).bind fun d21 =>
(Ax d20 d21).bind fun d22 =>
(DG d22 (Dv.int 2147483646)).bind fun d23 =>
(Ax d23 (Dv.int 1)).bind fun d24 =>
some (Dv.lst [t18,d24])
theorem XD:IP md iy (top 7) [] 1=true:=by kernel_rfl
theorem Wv:QY md iy (top 7) [] 1 (two GQ):=cQ (by kernel_rfl) fun _ _=>(by kernel_rfl)
def iw:List (Str×Sig):=("_law_feed", BA (AE (top 7)) [] 1 false (two GQ))::iy
noncomputable def AV (a0 a1:Dv):Option (Dv×Dv):=
(AG a0 (Dv.int 0)).bind fun d0 =>
(ZD d0 (Dv.int 0)).bind fun b1 =>
if b1=true then
(AG a0 (Dv.int 0)).bind fun d2 =>
(DG d2 a1).bind fun d3 =>
(AG a0 (Dv.int 0)).bind fun d4 =>
(VC d4 a1).bind fun d5 =>
(Aw a0 (Dv.int 0) d5).bind fun d6 =>
some (d3,d6)
else
(AG a0 (Dv.int 1)).bind fun d7 =>
(Da d7 (Dv.int 48271)).bind fun d8 =>
(DG d8 (Dv.int 2147483647)).bind fun d9 =>
(Da d9 (Dv.int 40692)).bind fun d10 =>
(Ax d10 (Dv.int 30103)).bind fun d11 =>
(DG d11 (Dv.int 2147483399)).bind fun d12 =>
(Ax d12 (Dv.int 1)).bind fun d13 =>
(Aw a0 (Dv.int 1) d13).bind fun d14 =>
(Da d9 (Dv.int 2147483647)).bind fun d15 =>
(AG d14 (Dv.int 1)).bind fun d16 =>
(Ax d15 d16).bind fun d17 =>
(VC d17 (Dv.int 8191)).bind fun d18 =>
(DG d18 a1).bind fun d19 =>
some (d19,d14)
theorem XA:IP md iw (top 8) [0] 1=true:=by kernel_rfl
theorem Ws:QY md iw (top 8) [0] 1 (two AV):=cQ (by kernel_rfl) fun _ _=>(by kernel_rfl)
def iu:List (Str×Sig):=("_law_take", BA (AE (top 8)) [0] 1 false (two AV))::iw
noncomputable def DJ (x2:Dv) (t3:Dv):Option (Dv×Dv):=
(AV t3 (Dv.int 26)).bind fun c4 =>
(AG (Dv.str [97,98,99,100,101,102,103,104,105,106,107,108,109,110,111,112,113,114,115,116,117,118,119,120,121,122]) c4.1).bind fun d5 =>
some (d5,c4.2)
noncomputable def Ec (d28:Dv):Option (Dv):=
(iK d28 (Dv.tup [(Dv.str [100,101,102]),(Dv.str [108,101,116]),(Dv.str [116,101,108,108]),(Dv.str [108,111,111,112]),(Dv.str [112,105,99,107]),(Dv.str [99,97,108,108])])).bind fun b29 =>
if b29=true then
(Ax d28 (Dv.str [113])).bind fun d30 =>
some d30
else
some d28
noncomputable def Eh (d7:Dv) (c8_1:Dv) (c11_1:Dv) (c12_1:Dv) (x14:Dv) (t15:Dv):Option (Dv):=
(Da (Dv.int 7) x14).bind fun d16 =>
(Ax c8_1 d16).bind fun d17 =>
(DG d17 (Dv.int 26)).bind fun d18 =>
(AG (Dv.str [97,98,99,100,101,102,103,104,105,106,107,108,109,110,111,112,113,114,115,116,117,118,119,120,121,122]) d18).bind fun d19 =>
cu c11_1 fun i20 =>
(LQ d7 none (some i20)).bind fun d21 =>
(Ax d21 d19).bind fun d22 =>
cu c11_1 fun i23 =>
(Ax c12_1 x14).bind fun d24 =>
(DG d24 (Dv.int 4)).bind fun d25 =>
cu d25 fun i26 =>
(LQ d7 (some i23) (some i26)).bind fun d27 =>
(Ax d22 d27).bind fun d28 =>
((Ec d28)).bind fun t31 =>
EK "list" t15 (
(Ad t15 [t31]).bind fun r32 =>
some r32.2)
noncomputable def Hl (c12_2:Dv) (t33:Dv):Option (Bool×Dv):=
(FU (Dv.int 2)).bind fun d35 =>
(AG t33 d35).bind fun d36 =>
(Am d36).bind fun d37 =>
(QR d37 (Dv.int 4)).bind fun b38 =>
if b38=true then
(AV c12_2 (Dv.int 4)).bind fun c39 =>
(QT c39.1 (Dv.int 0)).bind fun b40 =>
some (b40,c39.2)
else
some (false,c12_2)
noncomputable def EZ (a1:Dv) (c12_2:Dv) (t33:Dv):Option (Bool×Dv):=
(ZD a1 (Dv.int 1)).bind fun b34 =>
if b34=true then
((Hl c12_2 t33)).bind fun t41 =>
some (t41.1,t41.2)
else
some (false,c12_2)
noncomputable def Eb (a1:Dv) (c12_2:Dv) (t33:Dv):Option (Dv×Dv):=
((EZ a1 c12_2 t33)).bind fun t42 =>
if t42.1=true then
(FU (Dv.int 2)).bind fun d43 =>
(AG t33 d43).bind fun d44 =>
(Ax d44 (Dv.str [113])).bind fun d45 =>
(FU (Dv.int 1)).bind fun d46 =>
(Aw t33 d46 d45).bind fun d47 =>
some (t42.2,d47)
else
some (t42.2,t33)
noncomputable def Bo (a0 a1:Dv):Option (Dv×Dv):=
EK "str" (Dv.str []) (
(AV a0 (Dv.int 4)).bind fun c0 =>
(Ct [c0.1]).bind fun s1 =>
few s1 ((CV DJ s1 c0.2).bind fun p6 =>
(HI (Dv.str []) (Dv.lst p6.1)).bind fun d7 =>
(AV p6.2 (Dv.int 26)).bind fun c8 =>
(Am d7).bind fun d9 =>
(Ax d9 (Dv.int 1)).bind fun d10 =>
(AV c8.2 d10).bind fun c11 =>
(AV c11.2 (Dv.int 4)).bind fun c12 =>
(Ct [a1]).bind fun s13 =>
(Bb (Eh d7 c8.1 c11.1 c12.1) s13 (Dv.lst [])).bind fun t33 =>
((Eb a1 c12.2 t33)).bind fun t48 =>
some (t48.2,t48.1)))
theorem UC:IP md iu (top 9) [0] 1=true:=by kernel_rfl
theorem Tf:QY md iu (top 9) [0] 1 (two Bo):=cQ (by kernel_rfl) fun _ _=>(by kernel_rfl)
def ir:List (Str×Sig):=("_law_names", BA (AE (top 9)) [0] 1 false (two Bo))::iu
noncomputable def Ee (x5:Dv):Option Dv:=
(LQ x5 none (some 1)).bind fun d6 =>
EK "str" d6 (
(FF d6).bind fun d7 =>
(LQ x5 (some 1) none).bind fun d8 =>
(Ax d7 d8).bind fun d9 =>
some d9)
noncomputable def Ed (c11_1:Dv) (x15:Dv) (t16:Dv):Option (Dv×Dv):=
(AG c11_1 x15).bind fun d17 =>
(AV t16 (Dv.int 2)).bind fun c18 =>
(Ax (Dv.int 1) c18.1).bind fun d19 =>
some ((Dv.tup [d17,d19]),c18.2)
noncomputable def Dy (a0:Dv):Option (Dv×Dv):=
(Bo a0 (Dv.int 4)).bind fun c0 =>
(AV c0.2 (Dv.int 5)).bind fun c1 =>
cu c1.1 fun i2 =>
(LQ c0.1 none (some i2)).bind fun d3 =>
(items d3).bind fun s4 =>
few s4 ((BG Ee s4).bind fun y10 =>
(Bo c1.2 (Dv.int 4)).bind fun c11 =>
(AV c11.2 (Dv.int 8)).bind fun c12 =>
(AG (Dv.lst [(Dv.int 1),(Dv.int 2),(Dv.int 3),(Dv.int 2),(Dv.int 4),(Dv.int 1),(Dv.int 2),(Dv.int 0)]) c12.1).bind fun d13 =>
(Ct [d13]).bind fun s14 =>
few s14 ((CV (Ed c11.1) s14 c12.2).bind fun p20 =>
(Al (Dv.lst y10)).bind fun d21 =>
(Al (Dv.lst p20.1)).bind fun d22 =>
some ((Dv.tup [d21,d22]),p20.2)))
theorem UB:IP md ir (top 10) [0] 1=true:=by kernel_rfl
theorem Te:QY md ir (top 10) [0] 1 (one Dy):=gh (by kernel_rfl) fun _=>(by kernel_rfl)
def iq:List (Str×Sig):=("_law_shape", BA (AE (top 10)) [0] 1 false (one Dy))::ir
noncomputable def BR (t0:Dv×Dv×Dv):Option Bool:=
(Am t0.2.2).bind fun d1 =>
(ZD d1 (Dv.int 0)).bind fun b2 =>
some b2
noncomputable def Bn (d14:Dv) (x19:Dv):Option Dv:=
(AG d14 x19).bind fun d20 =>
some d20
noncomputable def Bm (x29:Dv):Option Dv:=
some (Dv.tup [x29,(Dv.bl false)])
noncomputable def Cr (t0_1:Dv) (t0_2_1:Dv) (r3_2:Dv) (t4_1:Dv) (t4_2:Dv) (d6:Dv):Option (Dv×Dv×Dv):=
(Jb t4_2).bind fun b12 =>
if b12=true then
(Am t0_1).bind fun d13 =>
(Aw t0_2_1 t4_1 d13).bind fun d14 =>
EK "list" t0_1 (
(AG d6 (Dv.int 0)).bind fun d15 =>
(AG d6 (Dv.int 1)).bind fun d16 =>
(AG d6 (Dv.int 2)).bind fun d17 =>
(items d17).bind fun s18 =>
few s18 ((BG (Bn d14) s18).bind fun y21 =>
(Al (Dv.lst y21)).bind fun d22 =>
(Ad t0_1 [(Dv.tup [d15,d16,d22])]).bind fun r23 =>
some (r23.2,d14,r3_2)))
else
EK "list" r3_2 (
(Ad r3_2 [(Dv.tup [t4_1,(Dv.bl true)])]).bind fun r24 =>
EK "list" r24.2 (
(AG d6 (Dv.int 2)).bind fun d25 =>
(FU (Dv.int 1)).bind fun d26 =>
(HG d25 d26).bind fun d27 =>
(items d27).bind fun s28 =>
few s28 ((BG Bm s28).bind fun y30 =>
(DV r24.2 [(Dv.lst y30)]).bind fun r31 =>
some (t0_1,t0_2_1,r31.2))))
noncomputable def BS (t0_1:Dv) (t0_2_1:Dv) (r3_2:Dv) (t4_1:Dv) (t4_2:Dv) (d6:Dv):Option (Dv×Dv×Dv):=
(AG d6 (Dv.int 0)).bind fun d7 =>
(VJ d7 (Dv.str [100,111])).bind fun b8 =>
if b8=true then
(Am t0_1).bind fun d9 =>
(Aw t0_2_1 t4_1 d9).bind fun d10 =>
EK "list" t0_1 (
(Ad t0_1 [d6]).bind fun r11 =>
some (r11.2,d10,r3_2))
else
((Cr t0_1 t0_2_1 r3_2 t4_1 t4_2 d6)).bind fun t32 =>
some (t32.1,t32.2.1,t32.2.2)
noncomputable def AZ (a0:Dv) (t0:Dv×Dv×Dv):Option (Dv×Dv×Dv):=
EK "list" t0.2.2 (
(QV t0.2.2 []).bind fun r3 =>
(ZK [5,6] r3.1).bind fun (t4:Dv×Dv) =>
(iK t4.1 t0.2.1).bind fun b5 =>
if b5=true then
some (t0.1,t0.2.1,r3.2)
else
(AG a0 t4.1).bind fun d6 =>
((BS t0.1 t0.2.1 r3.2 t4.1 t4.2 d6)).bind fun t33 =>
some (t33.1,t33.2.1,t33.2.2))
noncomputable def CJ (a0 a1:Dv):Option (Dv):=
(Xt BR (AZ a0) 1000000 ((Dv.lst []),(Dv.dct [] []),(Dv.lst [(Dv.tup [a1,(Dv.bl false)])]))).bind fun t34 =>
(Al t34.1).bind fun d35 =>
(Am t34.1).bind fun d36 =>
(Mm d36 (Dv.int 1)).bind fun d37 =>
some (Dv.tup [d35,d37])
theorem Ma:IP md iq (top 11) [] 1=true:=by kernel_rfl
theorem MV:QY md iq (top 11) [] 1 (two CJ):=cQ (by kernel_rfl) fun _ _=>(by kernel_rfl)
def il:List (Str×Sig):=("_law_ordered", BA (AE (top 11)) [] 1 false (two CJ))::iq
noncomputable def Dx (x6:Dv):Option Dv:=
some (Dv.tup [(Dv.str [105,110,112,117,116]),x6])
noncomputable def Dw (x10:Dv):Option Dv:=
some (Dv.tup [(Dv.str [102,105,120,101,100]),x10])
noncomputable def Jx (a1:Dv) (c19_2:Dv):Option (Bool×Dv):=
(AG a1 (Dv.int 1)).bind fun d23 =>
(Am d23).bind fun d24 =>
(ZD d24 (Dv.int 0)).bind fun b25 =>
if b25=true then
(AV c19_2 (Dv.int 4)).bind fun c26 =>
(ZD c26.1 (Dv.int 0)).bind fun b27 =>
some (b27,c26.2)
else
some (false,c19_2)
noncomputable def GA (a1:Dv) (t17_2:Dv) (c19_2:Dv):Option (Bool×Dv):=
(Am t17_2).bind fun d21 =>
(ZD d21 (Dv.int 0)).bind fun b22 =>
if b22=true then
((Jx a1 c19_2)).bind fun t28 =>
some (t28.1,t28.2)
else
some (false,c19_2)
noncomputable def GN (t17_2:Dv) (x37:Dv) (t38:Dv):Option (Dv×Dv):=
(Am t17_2).bind fun d39 =>
(Mm d39 (Dv.int 1)).bind fun d40 =>
(Am t17_2).bind fun d41 =>
(AV t38 d41).bind fun c42 =>
(AV c42.2 (Dv.int 2)).bind fun c43 =>
(AG (Dv.lst [d40,c42.1]) c43.1).bind fun d44 =>
some (d44,c43.2)
noncomputable def GI (a1:Dv) (t17_2:Dv) (c19_2:Dv) (d20:Dv):Option (Dv×Dv):=
((GA a1 t17_2 c19_2)).bind fun t29 =>
if t29.1=true then
(AG a1 (Dv.int 1)).bind fun d30 =>
(AG a1 (Dv.int 1)).bind fun d31 =>
(Am d31).bind fun d32 =>
(AV t29.2 d32).bind fun c33 =>
(AG d30 c33.1).bind fun d34 =>
(ZK [8,9] d34).bind fun (t35:Dv×Dv) =>
(Ct [t35.2]).bind fun s36 =>
few s36 ((CV (GN t17_2) s36 c33.2).bind fun p45 =>
(Al (Dv.lst p45.1)).bind fun d46 =>
some (p45.2,(Dv.tup [(Dv.str [100,111]),t35.1,d46])))
else
some (t29.2,d20)
noncomputable def Jz (t17_2:Dv) (t47_2:Dv):Option (Dv):=
(Dl t47_2 t17_2).bind fun b48 =>
if b48=true then
EK "list" t17_2 (
(Ad t17_2 [t47_2]).bind fun r49 =>
some r49.2)
else
some t17_2
noncomputable def GO (a1:Dv) (d12:Dv) (x16:Dv) (t17:Dv×Dv):Option (Dv×Dv):=
(Am d12).bind fun d18 =>
(AV t17.1 d18).bind fun c19 =>
(AG d12 c19.1).bind fun d20 =>
((GI a1 t17.2 c19.2 d20)).bind fun t47 =>
((Jz t17.2 t47.2)).bind fun t50 =>
some (t47.1,t50)
noncomputable def Ei (a0 a1 a2 a3:Dv):Option (Dv×Dv):=
(AG a1 (Dv.int 0)).bind fun d0 =>
(Am d0).bind fun d1 =>
(QT d1 (Dv.int 0)).bind fun b2 =>
(Ic (Dv.bl b2)).bind fun d3 =>
(IZ a2 d3).bind fun d4 =>
(Ct [d4]).bind fun s5 =>
few s5 ((BG Dx s5).bind fun y7 =>
(AG a1 (Dv.int 0)).bind fun d8 =>
(items d8).bind fun s9 =>
few s9 ((BG Dw s9).bind fun y11 =>
(Ax (Dv.lst y7) (Dv.lst y11)).bind fun d12 =>
(AV a0 a3).bind fun c13 =>
(Ax (Dv.int 1) c13.1).bind fun d14 =>
(Ct [d14]).bind fun s15 =>
(Bb (GO a1 d12) s15 (c13.2,(Dv.lst []))).bind fun t51 =>
(Am t51.2).bind fun d52 =>
(Mm d52 (Dv.int 1)).bind fun d53 =>
(CJ t51.2 d53).bind fun c54 =>
some (c54,t51.1)))
theorem XC:IP md il (top 12) [0] 1=true:=by kernel_rfl
theorem Wu:QY md il (top 12) [0] 1 (bc Ei):=kQ (by kernel_rfl) fun _ _ _ _=>(by kernel_rfl)
def ba:List (Str×Sig):=("_law_form", BA (AE (top 12)) [0] 1 false (bc Ei))::il
noncomputable def Ea (a0:Dv) (a1:Dv):Option (Bool):=
(Dc a0 (Dv.ty "tuple")).bind fun d2 =>
(Jb d2).bind fun b3 =>
if (!b3)=true then
some true
else
(Am a0).bind fun d4 =>
(Am a1).bind fun d5 =>
(VJ d4 d5).bind fun b6 =>
some b6
noncomputable def Ef (self:Dv->Dv->Option (Dv)) (x9:Dv):Option Dv:=
(ZK [3,4] x9).bind fun (t10:Dv×Dv) =>
(self t10.1 t10.2).bind fun c11 =>
bif nol c11 then
some c11
else none
noncomputable def Hq (a0:Dv) (a1:Dv):Option (Dv):=
(Dc a0 (Dv.ty "str")).bind fun d16 =>
Xk d16 fun b17 =>
if b17=true then
(QT a0 a1).bind fun b18 =>
some (Dv.bl b18)
else
some (Dv.bl false)
noncomputable def Ho (a0:Dv) (a1:Dv):Option (Dv):=
(Dc a0 (Dv.ty "bool")).bind fun d22 =>
Xk d22 fun b23 =>
Xk (Dv.bl (!b23)) fun b24 =>
if b24=true then
(QT a0 a1).bind fun b25 =>
some (Dv.bl b25)
else
some (Dv.bl false)
noncomputable def Hn (a0:Dv) (a1:Dv):Option (Dv):=
(Dc a0 (Dv.ty "int")).bind fun d20 =>
Xk d20 fun b21 =>
if b21=true then
((Ho a0 a1)).bind fun t26 =>
some t26
else
some (Dv.bl false)
noncomputable def AU:Nat->Dv->Dv->Option (Dv)
 | 0,_,_=>none
 | n+1,a0,a1=>(
(Dc a1 (Dv.ty "tuple")).bind fun d0 =>
(Jb d0).bind fun b1 =>
if b1=true then
((Ea a0 a1)).bind fun t7 =>
if t7=true then
some (Dv.bl false)
else
(NI [a0,a1]).bind fun s8 =>
few s8 ((BG (Ef (AU n)) s8).bind fun y12 =>
(QW (Dv.lst y12)).bind fun d13 =>
some d13)
else
(Dc a1 (Dv.ty "str")).bind fun d14 =>
(Jb d14).bind fun b15 =>
if b15=true then
((Hq a0 a1)).bind fun t19 =>
some t19
else
((Hn a0 a1)).bind fun t27 =>
some t27)
theorem UD (n:Nat):IP md (("_law_alike", BA (AE (top 13)) [] 0 true (two (AU n)))::ba) (top 13) [] 0=true:=by kernel_rfl
theorem Th (n:Nat):QY md (("_law_alike", BA (AE (top 13)) [] 0 true (two (AU n)))::ba) (top 13) [] 0 (two (AU (n+1))):=cQ (by kernel_rfl) fun _ _=>(by kernel_rfl)
def FZ:Dv->Dv->Option (Dv):=(Classical.choice (⟨⟨AU 12,rfl⟩⟩:Nonempty {f:Dv->Dv->Option (Dv) // f=AU 12})).1
theorem Gq:FZ=AU 12:=(Classical.choice (⟨⟨AU 12,rfl⟩⟩:Nonempty {f:Dv->Dv->Option (Dv) // f=AU 12})).2
def TF:List (Str×Sig):=("_law_alike", BA (AE (top 13)) [] 0 true (two FZ))::ba
noncomputable def GL (t6_2:Dv) (x12:Dv):Option Dv:=
(AG t6_2 x12).bind fun d13 =>
some d13
noncomputable def GH (x5:Dv) (t6_2:Dv):Option (Dv):=
(AG x5 (Dv.int 0)).bind fun d7 =>
(QT d7 (Dv.str [100,111])).bind fun b8 =>
if b8=true then
(AG x5 (Dv.int 1)).bind fun d9 =>
(AG x5 (Dv.int 2)).bind fun d10 =>
(items d10).bind fun s11 =>
few s11 ((BG (GL t6_2) s11).bind fun y14 =>
(Al (Dv.lst y14)).bind fun d15 =>
some (Dv.tup [(Dv.str [100,111]),d9,d15]))
else
some x5
noncomputable def GG (t6_1:Dv) (t16:Dv):Option (Dv):=
(Dl t16 t6_1).bind fun b17 =>
if b17=true then
EK "list" t6_1 (
(Ad t6_1 [t16]).bind fun r18 =>
some r18.2)
else
some t6_1
noncomputable def GE (t16:Dv) (t19:Dv):Option (Dv):=
Option.or (EK "list" t19 (
(FG t19 t16).bind fun d20 =>
some d20)) (EK "tuple" t19 (
(Fk t19 t16).bind fun d21 =>
some d21))
noncomputable def Be (x5:Dv) (t6:Dv×Dv):Option (Dv×Dv):=
((GH x5 t6.2)).bind fun t16 =>
((GG t6.1 t16)).bind fun t19 =>
EK "list" t6.2 (
((GE t16 t19)).bind fun t22 =>
(Ad t6.2 [t22]).bind fun r23 =>
some (t19,r23.2))
noncomputable def Bd (x1:Dv) (t2:Dv×Dv):Option (Dv×Dv):=
(ZK [3,4] x1).bind fun (t3:Dv×Dv) =>
(items t3.1).bind fun s4 =>
(Bb Be s4 (t2.1,(Dv.lst []))).bind fun t24 =>
EK "list" t2.2 (
(AG t24.2 t3.2).bind fun d25 =>
(Ad t2.2 [d25]).bind fun r26 =>
some (t24.1,r26.2))
noncomputable def GP (a0:Dv):Option (Dv):=
(items a0).bind fun s0 =>
(Bb Bd s0 ((Dv.lst []),(Dv.lst []))).bind fun t27 =>
(Al t27.1).bind fun d28 =>
(Al t27.2).bind fun d29 =>
some (Dv.tup [d28,d29])
theorem XB:IP md TF (top 14) [] 1=true:=by kernel_rfl
theorem Wt:QY md TF (top 14) [] 1 (one GP):=gh (by kernel_rfl) fun _=>(by kernel_rfl)
def fj:List (Str×Sig):=("_law_laid", BA (AE (top 14)) [] 1 false (one GP))::TF
noncomputable def Ln (c7_1:Dv) (c8_1:Dv) (x12:Dv) (t13:Dv):Option (Dv×Dv):=
(Ei t13 c7_1 c8_1 (Dv.int 10)).bind fun c14 =>
some (c14.1,c14.2)
noncomputable def Lj (p15_1:List Dv) (p15_2:Dv):Option (Dv×Dv):=
(AV p15_2 (Dv.int 3)).bind fun c16 =>
(QT c16.1 (Dv.int 0)).bind fun b17 =>
if b17=true then
EK "list" (Dv.lst p15_1) (
(Am (Dv.lst p15_1)).bind fun d18 =>
(AV c16.2 d18).bind fun c19 =>
(AG (Dv.lst p15_1) c19.1).bind fun d20 =>
(Ad (Dv.lst p15_1) [d20]).bind fun r21 =>
some (c19.2,r21.2))
else
some (c16.2,(Dv.lst p15_1))
noncomputable def Eg (x27:Dv) (t28:Unit):Option (Lp Dv (Unit) (Unit)):=
(KC x27).bind fun c29 =>
(GP x27).bind fun c30 =>
(FZ c29 c30).bind fun c31 =>
bif nol c31 then
(Jb c31).bind fun b32 =>
if (!b32)=true then
some (.rt (Dv.bl false) ())
else
some (.go ())
else none
noncomputable def Iu (a0:Dv) (x4:Dv) (t5:Unit):Option (Lp Dv (Unit) (Unit)):=
(GQ a0 x4).bind fun c6 =>
(Dy c6).bind fun c7 =>
(AV c7.2 (Dv.int 4)).bind fun c8 =>
(AV c8.2 (Dv.int 4)).bind fun c9 =>
(Ax (Dv.int 1) c9.1).bind fun d10 =>
(Ct [d10]).bind fun s11 =>
few s11 ((CV (Ln c7.1 c8.1) s11 c9.2).bind fun p15 =>
((Lj p15.1 p15.2)).bind fun t22 =>
(FU (Dv.int 1)).bind fun d23 =>
(HG t22.2 d23).bind fun d24 =>
(Al t22.2).bind fun d25 =>
(items (Dv.tup [t22.2,d24,d25])).bind fun s26 =>
(Kn Eg s26 ()).bind fun l36=>l36.el (fun (t33:Unit) =>
some (.go ())) fun (e34:Dv) (r35:Unit) =>
some (.rt e34 ()))
noncomputable def Vi (a0:Dv):Option (Dv):=
(LQ a0 (some 1) (some 7)).bind fun d0 =>
(Am d0).bind fun d1 =>
(Ax (Dv.int 2) d1).bind fun d2 =>
(Oh [(Dv.int 1),d2]).bind fun s3 =>
(Kn (Iu a0) s3 ()).bind fun l40=>l40.el (fun (t37:Unit) =>
some (Dv.bl true)) fun (e38:Dv) (r39:Unit) =>
some e38
theorem gN:IP md fj (top 15) [] 1=true:=by kernel_rfl
theorem gI:QY md fj (top 15) [] 1 (one Vi):=gh (by kernel_rfl) fun _=>(by kernel_rfl)
end My
set_option maxHeartbeats 1000000
namespace R
open PySem L2
def Fd (x:Dv):Prop:=∃ a b:Int,x=.lst [.int a,.int b]
def Tx (N:Nat) (x:Dv):Prop:=∃ l,x=.str l/\l.length<=N/\∀ c∈l,c < 128
theorem Tx.mono {N M:Nat} {x:Dv} (h:Tx N x) (le:N<=M):Tx M x:=let ⟨l,e,h1,h2⟩:=h;⟨l,e,kr h1 le,h2⟩
section
variable {γ τ ρ:Type}
theorem DT (g:Dv->γ->Option (Dv×γ)) (P:γ->Prop) (R:Dv->Prop):∀ (xs:List Dv) (c:γ),P c->(∀ x∈xs,∀ c,P c->∃ d c',g x c=some (d,c')/\R d/\P c')->∃ ds c',CV g xs c=some (ds,c')/\ds.length=xs.length/\(∀ d∈ds,R d)/\P c'
 | [],c,hc,_=>⟨[],c,rfl,rfl,fun _ z=>(lV z).elim,hc⟩
 | x::xs,c,hc,h=>by
  obtain ⟨d,c1,e1,r1,p1⟩:=h x kZ c hc;obtain ⟨ds,c2,e2,l2,r2,p2⟩:=DT g P R xs c1 p1 fun y hy=>h y (kX _ hy)
  refine ⟨d::ds,c2,by simp only [CV,e1,e2,kS],by rw [ki,ki,l2],fun y hy=>?_,p2⟩;rcases kh.mp hy with rfl | hy
  ·exact r1
  ·exact r2 y hy
theorem Gu (g:Dv->γ->Option γ) (I:Nat->γ->Prop):∀ (xs:List Dv) (k:Nat) (c:γ),I k c->(∀ i x,xs[i]?=some x->∀ c,I (k+i) c->∃ c',g x c=some c'/\I (k+i+1) c')->∃ c',Bb g xs c=some c'/\I (k+xs.length) c'
 | [],k,c,hc,_=>⟨c,rfl,hc⟩
 | x::xs,k,c,hc,h=>by
  obtain ⟨c1,e1,i1⟩:=h 0 x rfl c hc;obtain ⟨c2,e2,i2⟩:=Gu g I xs (k+1) c1 i1 fun i y hy c hc=>by
   have:=h (i+1) y hy c (by rw [show k+(i+1)=k+1+i by omega];exact hc);rw [show k+(i+1)+1=k+1+i+1 by omega] at this;exact this
  exact ⟨c2,by simp only [Bb,e1,e2,kS],by rw [ki,show k+(xs.length+1)=k+1+xs.length by omega];exact i2⟩
theorem Kg (g:Dv->Option Dv) (R:Dv->Prop):∀ (xs:List Dv),(∀ x∈xs,∃ d,g x=some d/\R d)->∃ ds,BG g xs=some ds/\ds.length=xs.length/\∀ d∈ds,R d
 | [],_=>⟨[],rfl,rfl,fun _ z=>by cases z⟩
 | x::xs,h=>by
  obtain ⟨d,e1,r1⟩:=h x kZ;obtain ⟨ds,e2,l2,r2⟩:=Kg g R xs fun y hy=>h y (kX _ hy)
  refine ⟨d::ds,by simp only [BG,e1,e2,kS],by rw [ki,ki,l2],fun y hy=>?_⟩;rcases kh.mp hy with rfl | hy
  ·exact r1
  ·exact r2 y hy
theorem Nq (g:Dv->γ->Option (Lp τ γ ρ)) (c:γ):∀ (xs:List Dv),(∀ x∈xs,g x c=some (.go c))->Kn g xs c=some (.go c)
 | [],_=>rfl
 | x::xs,h=>by simp only [Kn,h x kZ,kS];exact Nq g c xs fun y hy=>h y (kX _ hy)
theorem BZ {α:Type} {xs:List Dv} {o:Option α} (h:xs.length<=1000000):few xs o=o:=by unfold few;rw [if_pos h]
end
theorem atI_nat {α:Type} (xs:List α) (i:Nat) (h:i < xs.length):Dm xs (i:Int)=some xs[i]:=by
 unfold Dm Nc;rw [if_pos (by omega),if_pos (by omega)];simp [h]
theorem Fh {α:Type} {xs:List α} {i:Int} (h0:0<=i) (h:i < xs.length):∃ x∈xs,Dm xs i=some x:=by
 obtain ⟨n,rfl⟩:∃ n:Nat,i=n:=⟨i.toNat,by omega⟩;exact ⟨xs[n]'(by omega),mM _,atI_nat xs n (by omega)⟩
theorem VB {xs:List Dv} {i:Int} (h0:0<=i) (h:i < xs.length):∃ x∈xs,AG (.lst xs) (.int i)=some x:=Fh h0 h
theorem gq {xs:List Dv} {i:Int} (h0:0<=i) (h:i < xs.length):∃ x∈xs,AG (.tup xs) (.int i)=some x:=Fh h0 h
theorem gr {l:List Nat} {i:Int} (h0:0<=i) (h:i < l.length) (hl:l.length<=1000000):∃ c∈l,AG (.str l) (.int i)=some (.str [c]):=by
 obtain ⟨c,hc,e⟩:=Fh h0 h;exact ⟨c,hc,by simp only [AG,if_pos hl,e,lQ]⟩
theorem Dz {n:Int} (h0:-1000000000<=n) (h:n<=1000000000):Ct [.int n]=some ((List.range n.toNat).map fun k=>.int (k:Nat)):=by
 have:small n=true:=by unfold small;simp [h0,h]
 simp only [Ct,this,cond_true,Int.zero_add]
theorem Zr (n:Nat) (h:n<=1000000):Ct [.int (n:Nat)]=some ((List.range n).map fun k=>.int (k:Nat)):=by
 have:=Dz (n:=(n:Int)) (by omega) (by omega);simpa using this
theorem Di {α:Type} (xs:List Dv) (o:Option α):EK "list" (.lst xs) o=o:=rfl
theorem fW {α:Type} (l:List Nat) (o:Option α):EK "str" (.str l) o=o:=rfl
theorem gn {R:Type} (b:Bool) (k:Bool->Option R):Xk (.bl b) k=k b:=rfl
theorem gk {R:Type} (i:Int) (k:Int->Option R):cu (.int i) k=k i:=rfl
theorem Le (b:Bool):Jb (.bl b)=some b:=rfl
theorem fN (b:Bool):nol (.bl b)=true:=rfl
theorem Qi {β:Type} {i j:Nat} (x y:Dv) (f:Dv×Dv->Option β):((ZK [i,j] (.tup [x,y])).bind fun (t:Dv×Dv)=>f t)=f (x,y):=rfl
theorem DF {xs:List Dv} {y:Dv} (h:xs.length<=1000000):Ad (.lst xs) [y]=some (.non,.lst (xs++[y])):=by simp only [Ad,if_pos h]
theorem gB {xs ys:List Dv} (h:xs.length+ys.length<=1000000):DV (.lst xs) [.lst ys]=some (.non,.lst (xs++ys)):=by simp only [DV,if_pos h]
theorem JR {α:Type} {xs:List α} {lo hi:Option Int} {x:α} (h:x∈cutA xs lo hi):x∈xs:=List.mem_of_mem_drop (List.mem_of_mem_take h)
theorem JS {α:Type} (xs:List α) (lo hi:Option Int):(cutA xs lo hi).length<=xs.length:=by
 unfold cutA;rw [mW,my];omega
theorem HB (l:List Nat) (lo hi:Option Int):MZ l lo hi=cutA l lo hi:=rfl
theorem Ft:∀ ls:List (List Nat),Aj (ls.map Dv.str)=true
 | []=>rfl
 | x::xs=>by simp only [kj,Aj,Dv.cmp,Ft xs,lh]
theorem Fo:∀ ls:List (List Nat),Aq (ls.map Dv.str)=0
 | []=>rfl
 | x::xs=>by simp only [kj,Aq,Dv.dep,Fo xs];rfl
theorem Hw (x:List Nat):∀ ls:List (List Nat),memV (.str x) (ls.map Dv.str)=ls.contains x
 | []=>rfl
 | y::ys=>by
  have:=Hw x ys;simp only [memV] at this;simp only [memV,kj,lu,this,nT,eqV]
  by_cases e:y=x
  ·subst e;simp
  ·have e2:¬ x=y:=fun z=>e z.symm
   have h1:(y == x)=false:=by simpa using e
   have h2:(x == y)=false:=by simpa using e2
   rw [h1,h2]
theorem QS (neg:Bool) (x:List Nat) (ls:List (List Nat)):HV neg (.str x) (.tup (ls.map Dv.str))=some (if neg=true then !ls.contains x else ls.contains x):=by
 simp only [HV,hX,Dv.cmp,Ft,Fo,lh,lg,decide_true,if_true,Hw]
theorem CY (i j:Int):Ax (.int i) (.int j)=some (.int (i+j)):=rfl
theorem LR (i j:Int) (h:0 < j):DG (.int i) (.int j)=some (.int (i % j)):=by simp only [DG,Bp,h,decide_true,if_true]
theorem Fg (i j:Int):QT (.int i) (.int j)=some (decide (i=j)):=by
 simp only [Mj,Dv.cmp,Dv.dep,lh,lg,decide_true,if_true,eqV,kg,if_false];congr 1
theorem Xg (i j:Int):VJ (.int i) (.int j)=some (!decide (i=j)):=by
 simp only [Mj,Dv.cmp,Dv.dep,lh,lg,decide_true,if_true,eqV];congr 1
theorem Tx.cut {N:Nat} {x:Dv} (h:Tx N x) (hN:N<=1000000) (lo hi:Option Int):∃ y,LQ x lo hi=some y/\Tx N y:=by
 obtain ⟨l,rfl,h1,h2⟩:=h;exact ⟨.str (MZ l lo hi),by simp only [LQ,if_pos (kr h1 hN)],_,rfl,by rw [HB];exact kr (JS _ _ _) h1,fun c hc=>h2 c (JR (by rw [<- HB];exact hc))⟩
theorem Tx.add {N M:Nat} {x y:Dv} (h:Tx N x) (h':Tx M y) (hN:N+M<=1000000):∃ z,Ax x y=some z/\Tx (N+M) z:=by
 obtain ⟨l,rfl,h1,h2⟩:=h;obtain ⟨l',rfl,h1',h2'⟩:=h';refine ⟨.str (l++l'),by simp only [Ax,if_pos (show l.length+l'.length<=1000000 by omega)],_,rfl,by rw [lI];omega,fun c hc=>?_⟩;rcases lC.mp hc with hc | hc
 ·exact h2 c hc
 ·exact h2' c hc
theorem ZJ {c:Nat} (h:c < 128):PyProof.Rows.up1 c < 128:=by
 unfold PyProof.Rows.up1;split<;>omega
theorem Tx.upper {N:Nat} {x:Dv} (h:Tx N x) (hN:N<=1000000):∃ y,FF x=some y/\Tx N y:=by
 obtain ⟨l,rfl,h1,h2⟩:=h;have e:(l.all (fun c=>decide (c < 128)) && decide (l.length<=1000000))=true:=by
  rw [dL];exact ⟨lN.mpr fun c hc=>decide_eq_true (h2 c hc),decide_eq_true (kr h1 hN)⟩
 refine ⟨.str (l.map PyProof.Rows.up1),by simp only [FF,e,if_true],_,rfl,by rw [lK];exact h1,fun c hc=>?_⟩;obtain ⟨d,hd,rfl⟩:=mE.mp hc;exact ZJ (h2 d hd)
theorem He:∀ ls:List (List Nat),Hf (ls.map Dv.str)=some ls
 | []=>rfl
 | x::xs=>by simp only [kj,Hf,He xs,lQ]
theorem MN:∀ {xs:List Dv},(∀ x∈xs,∃ c,x=.str [c]/\c < 128)->xs.length<=1000->∃ z,HI (.str []) (.lst xs)=some z/\Tx xs.length z:=by
 intro xs h hl;have:∃ cs:List Nat,xs=(cs.map fun c=>[c]).map Dv.str/\∀ c∈cs,c < 128:=by
  clear hl
  induction xs with
  | nil=>exact ⟨[],rfl,fun _ z=>by cases z⟩
  | cons x xs ih =>
   obtain ⟨cs,e,h2⟩:=ih fun y hy=>h y (kX _ hy)
   obtain ⟨c,rfl,hc⟩:=h x kZ;refine ⟨c::cs,by rw [e];rfl,fun d hd=>?_⟩;rcases kh.mp hd with rfl | hd
   ·exact hc
   ·exact h2 d hd
 obtain ⟨cs,e,h2⟩:=this;have hlen:xs.length=cs.length:=by rw [e];simp
 have hj:∀ cs:List Nat,jn [] (cs.map fun c=>[c])=cs:=by
  intro cs;cases cs with
  | nil=>rfl
  | cons a b =>
   show [a]++((b.map fun c=>[c]).flatMap fun y=>[]++y)=a::b;have:∀ b:List Nat,((b.map fun c=>[c]).flatMap fun y=>[]++y)=b:=by
    intro b
    induction b with
    | nil=>rfl
    | cons x y ih=>simp only [kj,List.flatMap_cons,ih];rfl
   rw [this];rfl
 have hs:((cs.map fun c=>[c]).map List.length).sum=cs.length:=by
  clear e h2 hlen
  induction cs with
  | nil=>rfl
  | cons a b ih=>rw [kj,kj,List.sum_cons,ih];simp;omega
 rw [e];refine ⟨.str cs,?_,cs,rfl,by simp,h2⟩;simp only [HI,He,hj];rw [if_pos (by rw [hs];simp;omega)]
end R
set_option maxHeartbeats 1000000
namespace My
open PySem L2 R
theorem AK {f:Dv} (hf:Fd f) {n:Int} (h0:0 < n) (h1:n < 1073741824):∃ (r:Nat) (f':Dv),AV f (.int n)=some (.int r,f')/\(r:Int) < n/\Fd f':=by
 obtain ⟨a,b,rfl⟩:=hf;have i0:∀ x y:Dv,AG (.lst [x,y]) (.int 0)=some x:=fun _ _=>rfl
 have i1:∀ x y:Dv,AG (.lst [x,y]) (.int 1)=some y:=fun _ _=>rfl
 have s0:∀ x y d:Dv,Aw (.lst [x,y]) (.int 0) d=some (.lst [d,y]):=fun _ _ _=>rfl
 have s1:∀ x y d:Dv,Aw (.lst [x,y]) (.int 1) d=some (.lst [x,d]):=fun _ _ _=>rfl
 have m:∀ x:Int,∃ r:Nat,x % n=r/\(r:Int) < n:=fun x=>⟨(x % n).toNat,by have:=nK x (show n≠0 by omega);omega,by have:=nK x (show n≠0 by omega);have:=nU x h0;omega⟩
 have big1:big 48271=true:=by decide
 have big2:big 40692=true:=by decide
 have big3:big 2147483647=true:=by decide
 unfold AV;simp only [i0,kS,Ck,QR]
 by_cases h:0 < a
 ·obtain ⟨r,e,hr⟩:=m a;refine ⟨r,.lst [.int (a / n),.int b],?_,hr,a / n,b,rfl⟩;simp only [h,decide_true,if_true,DG,VC,Bp,h0,h1,lh,kS,i0,s0,e]
 ·simp only [h,decide_false,kg,if_false,i1,s1,Da,big1,big2,big3,Bool.or_true,if_true,kS,DG,VC,Bp,Ax,h0,decide_true,show (0:Int) < 2147483647 by decide,show (0:Int) < 2147483399 by decide,show (0:Int) < 8191 by decide,show (8191:Int) < 1073741824 by decide,lh];obtain ⟨r,e,hr⟩:=m (((b * 48271 % 2147483647) * 2147483647+((b * 48271 % 2147483647 * 40692+30103) % 2147483399+1)) / 8191);exact ⟨r,_,by rw [e],hr,_,_,rfl⟩
theorem Pk {ns:List Int} {k:Nat}:∃ f,GQ (.scr ns) (.int k)=some f/\Fd f:=by
 have b1:big 7907=true:=by decide
 have b2:big 2147483629=true:=by decide
 have b3:big 31=true:=by decide
 have b4:big 48271=true:=by decide
 have b5:big 40692=true:=by decide
 have c1:∃ c:Int,GK (.scr ns) (.int k) (.int (7907 * k+13579))=some (.int c):=by
  unfold GK KA;simp only [Am,kS,Ck,QR]
  by_cases h:(k:Int) < ns.length
  ·simp only [h,decide_true,if_true,AG,atI_nat ns k (by omega),lQ,kS];exact ⟨_,rfl⟩
  ·simp only [h,decide_false,kg,if_false]
   by_cases h2:0 < (ns.length:Int)
   ·have e:=nK (k:Int) (show (ns.length:Int)≠0 by omega);have e':=nU (k:Int) h2;obtain ⟨x,_,ex⟩:=Fh e e';simp only [h2,decide_true,if_true,DG,Bp,kS,AG,ex,lQ,Da,b1,b3,nc,Bool.or_true,Ax,show (0:Int) < 2147483629 by decide];exact ⟨_,rfl⟩
   ·simp only [h2,decide_false,kg,if_false];exact ⟨_,rfl⟩
 obtain ⟨c,e⟩:=c1;have c2:∃ d:Int,GJ (.int c)=some (.int d):=by
  unfold GJ;simp only [cc,Bp,show (decide ((0:Int)<=18) && decide ((18:Int)<=1000000) && decide ((10:Int).natAbs < 2 ^ 64))=true by decide,if_true,kS,Ck,QR];split<;>exact ⟨_,rfl⟩
 obtain ⟨d,e2⟩:=c2;unfold GQ;simp only [Da,b1,b4,b5,nc,Bool.or_true,if_true,kS,Ax,e,e2,DG,Bp,show (0:Int) < 2147483629 by decide,show (0:Int) < 2147483646 by decide,decide_true];exact ⟨_,rfl,_,_,rfl⟩
noncomputable abbrev cZ:List Nat:=[97,98,99,100,101,102,103,104,105,106,107,108,109,110,111,112,113,114,115,116,117,118,119,120,121,122]
theorem cY:∀ c∈cZ,c < 128:=by decide
theorem bK {i:Int} (h0:0<=i) (h:i < 26):∃ c,AG (.str cZ) (.int i)=some (.str [c])/\c < 128:=by
 obtain ⟨c,hc,e⟩:=gr (l:=cZ) h0 (show i < ((26:Nat):Int) by omega) (by decide);exact ⟨c,e,cY c hc⟩
theorem Ir {c:Nat} (h:c < 128):Tx 1 (.str [c]):=⟨[c],rfl,by simp,fun d hd=>by rw [lJ] at hd;subst hd;exact h⟩
theorem Od {f:Dv} (hf:Fd f) (xs:List Dv) (hl:xs.length<=1000):∃ z f',(∃ ds,CV DJ xs f=some (ds,f')/\HI (.str []) (.lst ds)=some z)/\Tx xs.length z/\Fd f':=by
 obtain ⟨ds,f',e,hl2,hd,hf'⟩:=DT DJ Fd (fun d=>∃ c,d=.str [c]/\c < 128) xs f hf fun x _ c hc=>by
  obtain ⟨r,f',e,hr,hf'⟩:=AK hc (n:=26) (by decide) (by decide);obtain ⟨c,e2,hc⟩:=bK (i:=r) (by omega) hr;exact ⟨.str [c],f',by unfold DJ;simp only [e,e2,kS],⟨c,rfl,hc⟩,hf'⟩
 obtain ⟨z,e2,hz⟩:=MN hd (by omega);exact ⟨z,f',⟨ds,e,e2⟩,by rw [hl2] at hz;exact hz,hf'⟩
theorem jB {α:Type} (xs:List α) (r:Nat) (h:Option Int):(cutA xs (some (r:Int)) h).length<=xs.length - r:=by
 unfold cutA;rw [mW,my];have:HT.sIx xs.length 0 (some (r:Int))=min r xs.length:=by unfold HT.sIx;simp only [];split<;>omega
 omega
theorem kD {N:Nat} {l:List Nat} (hN:l.length<=1000000) (h:∀ c∈l,c < 128) {lo hi:Option Int} (hl:(cutA l lo hi).length<=N):∃ y,LQ (.str l) lo hi=some y/\Tx N y:=
 ⟨.str (MZ l lo hi),by simp only [LQ,if_pos hN],_,rfl,by rw [HB];exact hl,fun c hc=>h c (JR (by rw [<- HB];exact hc))⟩
def Nm (p:List Nat) (c:Nat) (x:Dv):Prop:=∃ t,x=.str (p++c::t)
theorem Wk {i:Int} (h0:0<=i) (h:i < 26):AG (.str cZ) (.int i)=some (.str [97+i.toNat]):=by
 obtain ⟨n,rfl⟩:∃ n:Nat,i=n:=⟨i.toNat,by omega⟩;have hn:n < 26:=by omega
 have e:∀ k < 26,cZ[k]?=some (97+k):=by decide
 have:=atI_nat cZ n hn;have e2:=e n hn;rw [kT hn] at e2;simp only [AG,if_pos (show cZ.length<=1000000 by decide),this,Option.some.inj e2,lQ,nX]
noncomputable def ch (r i:Nat):Nat:=97+(r+7 * i) % 26
theorem gO {r i j:Nat} (hi:i < 26) (hj:j < 26) (h:i≠j):ch r i≠ch r j:=by unfold ch;omega
theorem UA {l:List Nat} {r:Nat} (h:r<=l.length):MZ l none (some (r:Int))=l.take r:=by
 rw [HB];unfold cutA;have a:HT.sIx l.length 0 none=0:=rfl;have b:HT.sIx l.length l.length (some (r:Int))=r:=by unfold HT.sIx;simp only [];split<;>omega
 rw [a,b];simp
theorem Uu {a b:List Nat} (h:a.length+b.length<=1000000):Ax (.str a) (.str b)=some (.str (a++b)):=by simp only [Ax,if_pos h]
theorem MF {l:List Nat} (h:Tx 4 (.str l)):∃ u,Ec (.str l)=some (.str (l++u))/\Tx 5 (.str (l++u)):=by
 obtain ⟨_,e0,h1,h2⟩:=id h;cases e0;unfold Ec;have e:=QS false l [[100,101,102],[108,101,116],[116,101,108,108],[108,111,111,112],[112,105,99,107],[99,97,108,108]];simp only [kj,mq,kg,if_false] at e;simp only [e,kS];split
 ·obtain ⟨z,e1,hz⟩:=h.add (Ir (c:=113) (by decide)) (by decide);rw [Uu (by simp;omega)] at e1;cases e1;exact ⟨[113],by rw [Uu (by simp;omega)];rfl,hz⟩
 ·exact ⟨[],by rw [lX],by rw [lX];exact h.mono (by decide)⟩
theorem Gb {f:Dv} (hf:Fd f) {n:Nat} (h2:2<=n) (hn:n<=26):∃ ns f',Bo f (.int n)=some (.lst ns,f')/\ns.length=n/\(∀ x∈ns,Tx 5 x)/\ns.Pairwise (·≠·)/\Fd f':=by
 obtain ⟨r1,f1,e1,b1,hf1⟩:=AK hf (n:=4) (by decide) (by decide);have er:Ct [.int r1]=some ((List.range (r1:Int).toNat).map fun k=>.int (k:Nat)):=Dz (by omega) (by omega);obtain ⟨z,f2,⟨ds,e3,e4⟩,hz,hf2⟩:=Od hf1 ((List.range (r1:Int).toNat).map fun k=>.int (k:Nat)) (by simp;omega);have hz:Tx 3 z:=hz.mono (by simp;omega);obtain ⟨zl,rfl,hz1,hz2⟩:=hz;obtain ⟨r7,f7,e7,b7,hf7⟩:=AK hf2 (n:=26) (by decide) (by decide);have el:Am (.str zl)=some (.int zl.length):=by simp only [Am,if_pos (show zl.length<=1000000 by omega)]
 obtain ⟨r10,f10,e10,b10,hf10⟩:=AK hf7 (n:=(zl.length:Int)+1) (by omega) (by omega);obtain ⟨r11,f11,e11,b11,hf11⟩:=AK hf10 (n:=4) (by decide) (by decide);have en:Ct [.int n]=some ((List.range (n:Int).toNat).map fun k=>.int (k:Nat)):=Dz (by omega) (by omega);obtain ⟨c,e12,ns,rfl,hl,hns,hnm⟩:=Gu (Eh (.str zl) (.int r7) (.int r10) (.int r11)) (fun i c=>∃ ns,c=.lst ns/\ns.length=i/\(∀ x∈ns,Tx 5 x)/\∀ j x,ns[j]?=some x->Nm (zl.take r10) (ch r7 j) x) ((List.range (n:Int).toNat).map fun k=>.int (k:Nat)) 0 (.lst []) ⟨[],rfl,rfl,(fun _ z=>(lV z).elim),fun j x h=>by simp at h⟩ fun i x hx c hc=>by
  obtain ⟨ns,rfl,hl,hns,hnm⟩:=hc;rw [km] at hx;have hi:i < n:=by
   rcases mP i n with h | h
   ·exact h
   ·rw [lZ (by simp;omega)] at hx;cases hx
  rw [kT (by simp;omega)] at hx;simp only [lQ,Option.some.injEq,nR] at hx;subst hx;have ec:=Wk (i:=((r7:Int)+7 * (i:Nat)) % 26) (nK _ (by decide)) (nU _ (by decide));have ecc:97+(((r7:Int)+7 * (i:Nat)) % 26).toNat=ch r7 i:=by unfold ch;omega
  rw [ecc] at ec;have hc:ch r7 i < 128:=by unfold ch;omega
  have r10l:r10<=zl.length:=by omega
  have ey1:LQ (.str zl) none (some (r10:Int))=some (.str (zl.take r10)):=by simp only [LQ,if_pos (show zl.length<=1000000 by omega),UA r10l]
  have hy1:Tx r10 (.str (zl.take r10)):=⟨_,rfl,by simp;omega,fun c hc=>hz2 c (List.mem_of_mem_take hc)⟩;have ey2:=Uu (a:=zl.take r10) (b:=[ch r7 i]) (by simp;omega);obtain ⟨y2',ey2',hy2⟩:=hy1.add (Ir hc) (by omega);rw [ey2] at ey2';cases ey2';obtain ⟨y3,ey3,hy3⟩:=kD (by omega) hz2 (jB zl r10 (some (((r11:Int)+(i:Nat)) % 4)));obtain ⟨t3,rfl,ht3,_⟩:=id hy3;have ey4:=Uu (a:=zl.take r10++[ch r7 i]) (b:=t3) (by simp;omega);obtain ⟨y4',ey4',hy4⟩:=hy2.add hy3 (by omega);rw [ey4] at ey4';cases ey4';obtain ⟨u,ey5,hy5⟩:=MF (hy4.mono (by omega));refine ⟨.lst (ns++[.str (zl.take r10++[ch r7 i]++t3++u)]),?_,ns++[.str (zl.take r10++[ch r7 i]++t3++u)],rfl,by rw [lI,hl];rfl,fun x hx=>?_,fun j x hx=>?_⟩
  ·have b7:big 7=true:=by decide
   unfold Eh;simp only [Da,b7,nc,if_true,kS,CY,LR _ _ (show (0:Int) < 26 by decide),LR _ _ (show (0:Int) < 4 by decide),ec,gk,ey1,ey3];rw [ey2];simp only [kS];rw [ey4];simp only [kS,ey5,Di,DF (show ns.length<=1000000 by omega)]
  ·rcases lC.mp hx with hx | hx
   ·exact hns x hx
   ·rw [lJ] at hx;subst hx;exact hy5
  ·rcases mP j ns.length with w | w
   ·rw [kc w] at hx;exact hnm j x hx
   ·have hj:j=ns.length:=by have:=(kU.mp hx).1;simp at this;omega
    subst hj;rw [lF (kb _),lz] at hx;cases hx;rw [hl,mJ];exact ⟨t3++u,by simp⟩
 have hl:ns.length=n:=by rw [hl];simp
 have fQ:∀ i j x y,i≠j->i < 26->j < 26->Nm (zl.take r10) (ch r7 i) x->Nm (zl.take r10) (ch r7 j) y->x≠y:=fun i j x y ne hi hj ⟨t,e⟩ ⟨t',e'⟩ q=>by
  rw [e,e',Dv.str.injEq] at q;have:=List.append_cancel_left q;exact gO hi hj ne (List.cons.inj this).1
 have nd:ns.Pairwise (·≠·):=mT.mpr fun i j hi hj lt=>fQ i j _ _ (by omega) (by omega) (by omega) (hnm i _ (kT hi)) (hnm j _ (kT hj))
 have last:∃ ms f',Eb (.int n) f11 (.lst ns)=some (f',.lst ms)/\ms.length=n/\(∀ x∈ms,Tx 5 x)/\ms.Pairwise (·≠·)/\Fd f':=by
  have m2:∃ x∈ns,AG (.lst ns) (.int (-2))=some x/\ns[n - 2]?=some x:=by
   refine ⟨ns[n - 2]'(by omega),mM _,?_,kT (by omega)⟩;simp only [AG,Dm,Nc];rw [if_neg (by omega),if_pos (by omega)];simp only [kS];rw [show (-2+(ns.length:Int)).toNat=n - 2 by omega];exact kT (by omega)
  obtain ⟨x,hx,ex,ex2⟩:=m2;obtain ⟨l,rfl,hl1,hl2⟩:=id (hns x hx);have t1:∃ (b:Bool) (f':Dv),EZ (.int n) f11 (.lst ns)=some (b,f')/\(b=true->l.length<=3)/\Fd f':=by
   unfold EZ Hl;simp only [Ck,QR,show (1:Int) < n by omega,decide_true,if_true,kS,FU,ex,Am,if_pos (show l.length<=1000000 by omega)];split
   ·rename_i hlt;obtain ⟨r,f',e,_,h⟩:=AK hf11 (n:=4) (by decide) (by decide);simp only [e,kS,Fg];exact ⟨_,_,rfl,fun _=>by have:=of_decide_eq_true hlt;omega,h⟩
   ·exact ⟨_,_,rfl,(fun z=>by cases z),hf11⟩
  obtain ⟨b,f',et,hb3,hf'⟩:=t1;unfold Eb;simp only [et,kS];cases b
  ·exact ⟨ns,f',by simp,hl,hns,nd,hf'⟩
  ·have ey:=Uu (a:=l) (b:=[113]) (by have:=hb3 rfl;simp;omega);obtain ⟨y',ey',hy⟩:=Tx.add (N:=3) (M:=1) ⟨l,rfl,hb3 rfl,hl2⟩ (Ir (c:=113) (by decide)) (by decide);rw [ey] at ey';cases ey';simp only [if_true,FU,kS,ex,ey,Aw,Nc];rw [if_neg (by omega),if_pos (by omega)];refine ⟨_,f',rfl,by rw [lD];exact hl,fun x hx=>?_,?_,hf'⟩
   ·rcases List.mem_or_eq_of_mem_set hx with hx | rfl
    ·exact hns x hx
    ·exact hy.mono (by decide)
   ·have k1:(-1+(ns.length:Int)).toNat=n - 1:=by omega
    rw [k1];refine mT.mpr fun i j hi hj lt=>?_
    rw [lD] at hi hj;rw [List.getElem_set,List.getElem_set,if_neg (show ¬ n - 1=i by omega)];have hi':=hnm i _ (kT hi);split
    ·rename_i ej;obtain ⟨t,et⟩:=hnm (n - 2) _ ex2
     by_cases e2:i=n - 2
     ·subst e2;have:ns[n - 2]=.str l:=by rw [kT hi] at ex2;exact Option.some.inj ex2
      rw [this];intro q;have:=congrArg List.length (Dv.str.inj q);simp at this
     ·refine fQ i (n - 2) _ _ e2 (by omega) (by omega) hi' ⟨t++[113],?_⟩;rw [Dv.str.inj et];simp
    ·exact fQ i j _ _ (by omega) (by omega) (by omega) hi' (hnm j _ (kT hj))
 obtain ⟨ms,f',e13,hl3,hms,hnd,hf'⟩:=last;refine ⟨ms,f',?_,hl3,hms,hnd,hf'⟩;unfold Bo;simp only [fW,e1,er,kS];rw [BZ (by simp;omega)];simp only [kS,e3,e4,e7,el,CY,e10,e11,en];rw [e12];simp only [kS,e13]
def kR (n:Nat) (xs:List Dv):Prop:=∀ y∈xs,∃ r:Nat,y=.int r/\r < n
def Xq (N:Nat) (x:Dv):Prop:=∃ a r,x=.tup [a,.int r]/\Tx N a/\(r=1\/r=2)
noncomputable def iN (d:Dv):Dv:=match d with | .tup (a::_)=>a | _=>.non
abbrev DP (ds:List Dv):Prop:=ds.Pairwise fun x y=>iN x≠iN y
theorem LG {γ:Type} (g:Dv->γ->Option (Dv×γ)) (P:γ->Prop) (R:Nat->Dv->Prop):∀ (xs:List Dv) (o:Nat) (c:γ),P c->(∀ i x,xs[i]?=some x->∀ c,P c->∃ d c',g x c=some (d,c')/\R (o+i) d/\P c')->∃ ds c',CV g xs c=some (ds,c')/\ds.length=xs.length/\(∀ i d,ds[i]?=some d->R (o+i) d)/\P c'
 | [],o,c,hc,_=>⟨[],c,rfl,rfl,(fun i d h=>by simp at h),hc⟩
 | x::xs,o,c,hc,h=>by
  obtain ⟨d,c1,e1,r1,p1⟩:=h 0 x rfl c hc;obtain ⟨ds,c2,e2,l2,r2,p2⟩:=LG g P R xs (o+1) c1 p1 fun i y hy c hc=>by
   have:=h (i+1) y hy c hc;rw [show o+(i+1)=o+1+i by omega] at this;exact this
  refine ⟨d::ds,c2,by simp only [CV,e1,e2,kS],by rw [ki,ki,l2],fun i y hy=>?_,p2⟩;cases i with
  | zero=>simp at hy;subst hy;exact r1
  | succ i=>have:=r2 i y (by simpa using hy);rw [show o+(i+1)=o+1+i by omega];exact this
theorem Ll {f:Dv} (hf:Fd f):∃ fs ds f',Dy f=some (.tup [.tup fs,.tup ds],f')/\fs.length<=4/\(∀ x∈fs,Tx 10 x)/\ds.length<=4/\(∀ x∈ds,Xq 5 x)/\DP ds/\Fd f':=by
 obtain ⟨ns,f1,e1,hl,hns,_,hf1⟩:=Gb hf (n:=4) (by decide) (by decide);obtain ⟨r2,f2,e2,b2,hf2⟩:=AK hf1 (n:=5) (by decide) (by decide);have h3:∀ x∈cutA ns none (some (r2:Int)),Tx 5 x:=fun x hx=>hns x (JR hx)
 have l3:=JS ns none (some (r2:Int));obtain ⟨ps,e4,l4,h4⟩:=Kg Ee (Tx 10) (cutA ns none (some (r2:Int))) fun x hx=>by
  obtain ⟨y1,ey1,hy1⟩:=(h3 x hx).cut (by decide) none (some 1);obtain ⟨l1,rfl,_,_⟩:=id hy1;obtain ⟨y2,ey2,hy2⟩:=hy1.upper (by decide);obtain ⟨y3,ey3,hy3⟩:=(h3 x hx).cut (by decide) (some 1) none;obtain ⟨y4,ey4,hy4⟩:=hy2.add hy3 (by decide);exact ⟨y4,by unfold Ee;simp only [ey1,fW,ey2,ey3,ey4,kS],hy4⟩
 obtain ⟨ms,f10,e10,hl10,hms,hnd,hf10⟩:=Gb hf2 (n:=4) (by decide) (by decide);obtain ⟨r11,f11,e11,b11,hf11⟩:=AK hf10 (n:=8) (by decide) (by decide);have m:∀ x∈[(Dv.int 1),(Dv.int 2),(Dv.int 3),(Dv.int 2),(Dv.int 4),(Dv.int 1),(Dv.int 2),(Dv.int 0)],∃ k:Nat,x=.int k/\k<=4:=by
  intro x hx;simp only [kh,lV,or_false] at hx;rcases hx with rfl | rfl | rfl | rfl | rfl | rfl | rfl | rfl
  all_goals first | exact ⟨4,rfl,by decide⟩ | exact ⟨0,rfl,by decide⟩ | exact ⟨1,rfl,by decide⟩ | exact ⟨2,rfl,by decide⟩ | exact ⟨3,rfl,by decide⟩
 obtain ⟨x,hx,ex⟩:=VB (xs:=[(Dv.int 1),(Dv.int 2),(Dv.int 3),(Dv.int 2),(Dv.int 4),(Dv.int 1),(Dv.int 2),(Dv.int 0)]) (i:=r11) (by omega) b11;obtain ⟨k,rfl,hk⟩:=m x hx;have er:Ct [.int k]=some ((List.range (k:Int).toNat).map fun j=>.int (j:Nat)):=Dz (by omega) (by omega);obtain ⟨qs,f16,e16,l6,h6,hf16⟩:=LG (Ed (.lst ms)) Fd (fun j d=>∃ a r,ms[j]?=some a/\d=.tup [a,.int r]/\Tx 5 a/\(r=1\/r=2)) ((List.range (k:Int).toNat).map fun j=>.int (j:Nat)) 0 f11 hf11 fun i x hx c hc=>by
  rw [km] at hx;have hi:i < k:=by
   rcases mP i k with h | h
   ·exact h
   ·rw [lZ (by simp;omega)] at hx;cases hx
  rw [kT (by simp;omega)] at hx;simp only [lQ,Option.some.injEq,nR] at hx;subst hx;have ea:AG (.lst ms) (.int (i:Nat))=some ms[i]:=atI_nat ms i (by omega);obtain ⟨r,f',e,b,hf'⟩:=AK hc (n:=2) (by decide) (by decide);exact ⟨.tup [ms[i],.int (1+r)],f',by unfold Ed;simp only [ea,e,kS,CY],⟨ms[i],1+r,by rw [mJ];exact kT (by omega),rfl,hms _ (mM _),by omega⟩,hf'⟩
 have h6':∀ x∈qs,Xq 5 x:=fun x hx=>by
  obtain ⟨i,hi⟩:=mi hx;obtain ⟨a,r,_,rfl,h⟩:=h6 i x hi;exact ⟨a,r,rfl,h⟩
 have h7:qs.Pairwise (fun x y=>iN x≠iN y):=mT.mpr fun i j hi hj lt=>by
  obtain ⟨a,r,ea,e,_⟩:=h6 i _ (kT hi);obtain ⟨b,q,eb,e',_⟩:=h6 j _ (kT hj);rw [e,e'];show a≠b;rw [mJ] at ea eb;obtain ⟨h1,rfl⟩:=kU.mp ea;obtain ⟨h2,rfl⟩:=kU.mp eb;exact mT.mp hnd i j h1 h2 lt
 refine ⟨ps,qs,f16,?_,by omega,h4,by rw [l6];simp;omega,h6',h7,hf16⟩;have e1':Bo f (.int 4)=some (.lst ns,f1):=e1;have e10':Bo f2 (.int 4)=some (.lst ms,f10):=e10;unfold Dy;simp only [e1',e2,kS,gk,LQ,items];rw [BZ (by omega),e4];simp only [kS,e10',e11];rw [ex];simp only [kS,er];rw [BZ (by simp;omega),e16];rfl
noncomputable def nI (ts:List Nat):List Dv:=ts.map fun t=>Dv.int (t:Nat)
def tI (ts:List Nat):Dv:=.tup (nI ts)
theorem BY (ts:List Nat):(nI ts).length=ts.length:=by simp [nI]
theorem Er (a b:List Nat):nI (a++b)=nI a++nI b:=by simp [nI]
theorem Qo {n:Nat}:∀ {xs:List Dv},kR n xs->∃ ts,xs=nI ts/\∀ t∈ts,t < n
 | [],_=>⟨[],rfl,fun _ h=>by cases h⟩
 | x::xs,h=>by
  obtain ⟨ts,e,ht⟩:=Qo (xs:=xs) fun y hy=>h y (kX _ hy)
  obtain ⟨r,rfl,hr⟩:=h x kZ;refine ⟨r::ts,by rw [e];rfl,fun t h=>?_⟩;rcases kh.mp h with rfl | h
  ·exact hr
  ·exact ht t h
theorem dD {ts:List Nat} {h:Nat} (hh:h < ts.length):AG (tI ts) (.int (h:Nat))=some (.int (ts.getD h 0:Nat)):=by
 show Dm (nI ts) (h:Int)=_;rw [atI_nat _ _ (by rw [BY];exact hh)];simp [nI,List.getD,hh]
inductive Nd where
 | inp (k:Nat) | fix (c:Dv) | act (d:Dv) (ps:List Nat)
noncomputable def Ii:Dv:=.str [105,110,112,117,116]
noncomputable def Ik:Dv:=.str [102,105,120,101,100]
noncomputable def Lf:Dv:=.str [100,111]
def Nd.dv:Nd->Dv
 | .inp k=>.tup [Ii,.int (k:Nat)]
 | .fix c=>.tup [Ik,c]
 | .act d ps=>.tup [Lf,d,tI ps]
noncomputable def Nd.parts:Nd->List Nat
 | .act _ ps=>ps
 | _=>[]
def FH (I:Nat) (fs ds:List Dv) (i:Nat):Nd->Prop
 | .inp k=>k < I
 | .fix c=>c∈fs/\∃ l,c=.str l
 | .act d ps=>(∃ r:Int,Dv.tup [d,.int r]∈ds/\(ps.length:Int)=r/\(r=1\/r=2)/\∃ l,d=.str l)/\∀ p∈ps,p < i
def Dn (I:Nat) (fs ds:List Dv) (L:List Nd):Prop:=∀ i x,L[i]?=some x->FH I fs ds i x
theorem FH.part {I:Nat} {fs ds:List Dv} {i:Nat} {x:Nd} (h:FH I fs ds i x):∀ p∈x.parts,p < i:=fun p hp=>by
 cases x with
 | inp k=>cases hp
 | fix c=>cases hp
 | act d ps=>exact h.2 p hp
noncomputable def nD (L:List Nd):List Dv:=L.map Nd.dv
theorem Et (L:List Nd):(nD L).length=L.length:=by simp [nD]
theorem YZ {L:List Nd} {i:Nat} (h:i < L.length):AG (.lst (nD L)) (.int (i:Nat))=some L[i].dv:=by
 show Dm (nD L) (i:Int)=_;rw [atI_nat _ _ (by rw [Et];exact h)];simp [nD]
def Nd.kd:Nd->Dv
 | .inp _=>Ii
 | .fix _=>Ik
 | .act _ _=>Lf
theorem fQ (x:Nd):AG x.dv (.int 0)=some x.kd:=by cases x<;>rfl
noncomputable def Jh (p:Nat->Bool) (N:Nat):Nat:=((List.range N).filter p).length
theorem JV {p q:Nat->Bool} (h:∀ v,q v=true->p v=true):∀ N,Jh q N<=Jh p N
 | 0=>kb _
 | N+1=>by
  have ih:=JV h N;unfold Jh at *;rw [nE,mr,mr,lI,lI];have:([N].filter q).length<=([N].filter p).length:=by
   cases e:q N with
   | true=>simp [List.filter,e,h N e]
   | false=>simp [List.filter,e]
  omega
theorem UF {p q:Nat->Bool} {v:Nat} (h:∀ v,q v=true->p v=true) (h1:p v=true) (h2:q v=false):∀ {N},v < N->Jh q N < Jh p N
  | 0,hv=>by omega
  | N+1,hv=>by
    have le:=JV h N;unfold Jh at *;rw [nE,mr,mr,lI,lI]
    by_cases e:v=N
    · subst e;simp [List.filter,h1,h2];omega
    · have ih:=UF h h1 h2 (N:=N) (by omega);unfold Jh at ih;have:([N].filter q).length<=([N].filter p).length:=by
        cases e:q N with
        | true=>simp [List.filter,e,h N e]
        | false=>simp [List.filter,e]
      omega
theorem Ga:∀ {N:Nat} {l:List Nat},l.Nodup->(∀ x∈l,x < N)->l.length<=N
 | 0,[],_,_=>kb _
 | 0,x::_,_,h=>by have:=h x kZ;omega
 | N+1,l,nd,h=>by
  have nd':=nd.erase N;have:=Ga (N:=N) nd' fun x hx=>by
   have h1:=h x (List.mem_of_mem_erase hx);have:x≠N:=fun e=>by rw [e] at hx;exact (List.Nodup.mem_erase_iff nd).mp hx |>.1 rfl
   omega
  have e:l.length - 1<=(l.erase N).length:=by
   rw [List.length_erase];split<;>omega
  omega
def kI (ks:List Nat):List AS:=ks.map fun k=>Sum.inl ((k:Nat):Int)
def Az (ks:List Nat):Dv:=.dct (kI ks) (nI (List.range ks.length))
theorem bQ (ks:List Nat) (k:Nat):(kI ks).any (fun j=>decide (j=Sum.inl ((k:Nat):Int)))=decide (k∈ks):=by
 induction ks with
 | nil=>rfl
 | cons x xs ih =>
  unfold kI at ih;simp only [kI,kj,lu,ih,kh]
  by_cases e:x=k
  ·subst e;simp
  ·have e1:¬ (Sum.inl ((x:Nat):Int):AS)=Sum.inl ((k:Nat):Int):=fun z=>e (by have:=Sum.inl.inj z;omega)
   have e2:¬ k=x:=fun z=>e z.symm
   simp [e1,e2]
theorem LB (k:Nat):∀ (ks:List Nat) (xs:List Dv),ks.length=xs.length->(Bl (.inl ((k:Nat):Int)) (kI ks) xs).isSome=decide (k∈ks)
 | [],_,_=>rfl
 | x::ks,[],h=>by cases h
 | x::ks,d::xs,h=>by
  have ih:=LB k ks xs (by simpa using h);unfold kI at ih;simp only [kI,kj,Bl,kh]
  by_cases e:x=k
  ·subst e;simp
  ·have e1:¬ (Sum.inl ((x:Nat):Int):AS)=Sum.inl ((k:Nat):Int):=fun z=>e (by have:=Sum.inl.inj z;omega)
   have e2:¬ k=x:=fun z=>e z.symm
   rw [if_neg e1,ih];simp [e2]
theorem LC (k:Nat):∀ (ks:List Nat) (o:Nat),k∈ks->Bl (.inl ((k:Nat):Int)) (kI ks) (nI ((List.range ks.length).map (o+·)))=some (.int ((o+ks.idxOf k:Nat)))
 | [],_,h=>by cases h
 | x::ks,o,h=>by
  rw [ki,ma];simp only [kI,nI,kj,nF,Bl]
  by_cases e:x=k
  ·subst e;simp
  ·have e1:¬ (Sum.inl ((x:Nat):Int):AS)=Sum.inl ((k:Nat):Int):=fun z=>e (by have:=Sum.inl.inj z;omega)
   rw [if_neg e1,show List.idxOf k (x::ks)=List.idxOf k ks+1 by have q:(x == k)=false:=beq_eq_false_iff_ne.mpr e;rw [nk,q];rfl];have ih:=LC k ks (o+1) ((kh.mp h).resolve_left fun z=>e z.symm);unfold kI nI at ih;rw [nF] at ih;have:((fun t=>Dv.int ((t:Nat):Int))∘(fun x=>o+x)∘Nat.succ)=((fun t=>Dv.int ((t:Nat):Int))∘(fun x=>o+1+x)):=by
    funext y;simp only [Function.comp];congr 2;omega
   rw [this,ih];congr 3;omega
theorem YH (ks:List Nat) (k:Nat):iK (.int (k:Nat)) (Az ks)=some (decide (k∈ks)):=by
 have:=LB k ks (nI (List.range ks.length)) (by rw [BY];simp);show some (Bl (.inl ((k:Nat):Int)) (kI ks) (nI (List.range ks.length))).isSome=_;rw [this]
theorem Za {ks:List Nat} {k:Nat} (h:k∈ks):AG (Az ks) (.int (k:Nat))=some (.int (ks.idxOf k:Nat)):=by
 have:=LC k ks 0 h;simp only [mJ] at this;have e:(List.range ks.length).map (fun x=>x)=List.range ks.length:=List.map_id' _;rw [e] at this;simp only [Az,AG,CN,kS,this]
theorem RK {ks:List Nat} {k:Nat} (h:k∉ks) (hl:ks.length<=1000000):Aw (Az ks) (.int (k:Nat)) (.int (ks.length:Nat))=some (Az (ks++[k])):=by
 have a:(kI ks).any (fun j=>decide (j=Sum.inl ((k:Nat):Int)))=false:=by rw [bQ];simp [h]
 have l:(kI ks).length<=1000000:=by simpa [kI] using hl
 simp only [Az,Aw,CN,kS,if_pos l,LA,Kz,a,kg,if_false,ny];have e1:kI ks++[Sum.inl ((k:Nat):Int)]=kI (ks++[k]):=by simp [kI]
 have e2:nI (List.range ks.length)++[Dv.int (ks.length:Nat)]=nI (List.range (ks++[k]).length):=by rw [lI,lY,nE,Er];rfl
 rw [e1,e2]
noncomputable def Tp (e:Nat×Bool):Dv:=.tup [.int (e.1:Nat),.bl e.2]
def stk (s:List (Nat×Bool)):Dv:=.lst (s.reverse.map Tp)
noncomputable def On (L:List Nd) (q:Nat):List Nat:=match L[q]? with | some x=>x.parts | none=>[]
theorem Jk {γ:Type} (t:γ->Option Bool) (g:γ->Option γ) (P:Nat->γ->Prop) (E:γ->Prop) (h:∀ m c,P m c->(t c=some false/\E c)\/(t c=some true/\∃ c' m',g c=some c'/\m' < m/\P m' c')):∀ (n m:Nat) (c:γ),m < n->P m c->∃ c',Xt t g n c=some c'/\E c'
 | 0,m,c,hm,_=>by omega
 | n+1,m,c,hm,p=>by
  rcases h m c p with ⟨e,q⟩ | ⟨e,c',m',e',lt,p'⟩
  ·exact ⟨c,by simp only [Xt,e,kS,kg,if_false],q⟩
  ·obtain ⟨c2,e2,q⟩:=Jk t g P E h n m' c' (by omega) p';exact ⟨c2,by simp only [Xt,e,kS,if_true,e',e2],q⟩
theorem VW (s:List (Nat×Bool)):Am (stk s)=some (.int (s.length:Nat)):=by
 show some (Dv.int ((s.reverse.map Tp).length:Nat))=_;simp
theorem NC (e:Nat×Bool) (s:List (Nat×Bool)):QV (stk (e::s)) []=some (Tp e,stk s):=by
 unfold stk;rw [nW,List.map_append];simp only [QV,kj,mq,List.getLast?_concat,List.dropLast_concat]
theorem EL (F:List Nd):Am (.lst (nD F))=some (.int (F.length:Nat)):=by
 show some (Dv.int ((nD F).length:Nat))=_;rw [Et]
section
variable {L F:List Nd} {ks:List Nat} {v:Nat} {b:Bool} {s:List (Nat×Bool)}
theorem WV (h:v∈ks):AZ (.lst (nD L)) (.lst (nD F),Az ks,stk ((v,b)::s))=some (.lst (nD F),Az ks,stk s):=by
 unfold AZ
 show EK "list" (stk ((v,b)::s)) _=_
 unfold stk;rw [Di];have p:=NC (v,b) s;unfold stk at p;rw [p];simp only [kS,Tp];rw [Qi];simp only [YH,decide_eq_true h,kS,if_true]
theorem SG (h:v∉ks) {x:Nd} (hx:L[v]?=some x):AZ (.lst (nD L)) (.lst (nD F),Az ks,stk ((v,b)::s))=(BS (.lst (nD F)) (Az ks) (stk s) (.int (v:Nat)) (.bl b) x.dv).bind fun t=>some (t.1,t.2.1,t.2.2):=by
 unfold AZ
 show EK "list" (stk ((v,b)::s)) _=_
 unfold stk;rw [Di];have p:=NC (v,b) s;unfold stk at p;rw [p];simp only [kS,Tp];rw [Qi];obtain ⟨hv,rfl⟩:=kU.mp hx;simp only [YH,decide_eq_false h,kS,kg,if_false,YZ hv]
theorem gA (hl:F.length<=1000) (x:Dv):Ad (.lst (nD F)) [x]=some (.non,.lst (nD F++[x])):=DF (by rw [Et];omega)
theorem NT (h:v∉ks) {x:Nd} (hd:VJ x.kd Lf=some true) (hx:L[v]?=some x) (hl:F.length=ks.length) (hk:ks.length<=1000):AZ (.lst (nD L)) (.lst (nD F),Az ks,stk ((v,b)::s))=some (.lst (nD (F++[x])),Az (ks++[v]),stk s):=by
 rw [SG h hx];have e2:VJ x.kd (.str [100,111])=some true:=hd;unfold BS;rw [fQ];simp only [kS,e2,if_true,EL,hl,RK h (by omega),Di,gA (F:=F) (by omega)];simp [nD]
theorem fE (h:v∉ks) {d:Dv} {ps:List Nat} (hx:L[v]?=some (.act d ps)) (hp:∀ p∈ps,p∈ks) (hl:F.length=ks.length) (hk:ks.length<=1000) (hps:ps.length<=1000):AZ (.lst (nD L)) (.lst (nD F),Az ks,stk ((v,true)::s))=some (.lst (nD (F++[.act d (ps.map fun p=>ks.idxOf p)])),Az (ks++[v]),stk s):=by
 rw [SG h hx];have e0:AG (Nd.act d ps).dv (.int 0)=some Lf:=rfl;have e1:AG (Nd.act d ps).dv (.int 1)=some d:=rfl;have e2:AG (Nd.act d ps).dv (.int 2)=some (tI ps):=rfl;have ne:VJ Lf (.str [100,111])=some false:=rfl;have it:items (tI ps)=some (nI ps):=rfl;have m:BG (Bn (Az (ks++[v]))) (nI ps)=some (nI (ps.map fun p=>ks.idxOf p)):=by
  have:∀ (qs:List Nat),(∀ p∈qs,p∈ks)->BG (Bn (Az (ks++[v]))) (nI qs)=some (nI (qs.map fun p=>ks.idxOf p)):=fun qs hq=>by
   induction qs with
   | nil=>rfl
   | cons p qs ih =>
    have hp':=hq p kZ;have i1:(ks++[v]).idxOf p=ks.idxOf p:=by rw [List.idxOf_append,if_pos hp']
    have ih:=ih fun q z=>hq q (kX _ z)
    simp only [nI] at ih;simp only [nI,kj,BG,Bn,Za (ko [v] hp'),i1,kS,ih]
  exact this ps hp
 unfold BS;rw [e0];simp only [kS,ne,kg,if_false];unfold Cr;simp only [Le,kS,if_true,EL,hl,RK h (by omega),Di,e0,e1,e2,it];rw [BZ (by rw [BY];omega),m];simp only [kS,Al,gA (F:=F) (by omega)];simp [nD,Nd.dv,tI]
theorem fC (h:v∉ks) {d:Dv} {ps:List Nat} (hx:L[v]?=some (.act d ps)) (hl:s.length<=1000) (hps:ps.length<=1000):AZ (.lst (nD L)) (.lst (nD F),Az ks,stk ((v,false)::s))=some (.lst (nD F),Az ks,stk (ps.map (fun p=>(p,false))++(v,true)::s)):=by
 rw [SG h hx];have e0:AG (Nd.act d ps).dv (.int 0)=some Lf:=rfl;have e2:AG (Nd.act d ps).dv (.int 2)=some (tI ps):=rfl;have ne:VJ Lf (.str [100,111])=some false:=rfl;have ng:FU (.int 1)=some (.int (-1)):=rfl;have rv:HG (tI ps) (.int (-1))=some (.tup (nI ps).reverse):=rfl;have it:items (.tup (nI ps).reverse)=some (nI ps).reverse:=rfl;have m:BG Bm (nI ps).reverse=some ((ps.reverse.map fun p=>(p,false)).map Tp):=by
  have:∀ (qs:List Nat),BG Bm (nI qs)=some ((qs.map fun p=>(p,false)).map Tp):=fun qs=>by
   induction qs with
   | nil=>rfl
   | cons p qs ih=>simp only [nI] at ih;simp only [nI,kj,BG,Bm,kS,ih];rfl
  rw [show (nI ps).reverse=nI ps.reverse by simp [nI]];exact this ps.reverse
 unfold BS;rw [e0];simp only [kS,ne,kg,if_false];unfold Cr;simp only [Le,kS,kg,if_false,stk,Di,DF (show (s.reverse.map Tp).length<=1000000 by simp;omega),e2,ng,rv,it];rw [BZ (by simp [BY];omega),m];simp only [kS,gB (show (s.reverse.map Tp++[Dv.tup [.int (v:Nat),.bl true]]).length+((ps.reverse.map fun p=>(p,false)).map Tp).length<=1000000 by simp;omega)];simp [Tp]
end
def VH (L:List Nd) (top:Nat):List (Nat×Bool)->Prop
 | []=>True
 | e::r=>((r=[]/\e.1=top)\/∃ q,(q,true)∈r/\e.1∈On L q)/\(∀ f∈r,f.2=true->e.1 < f.1)/\VH L top r
def AB (L:List Nd) (ks:List Nat):List Nat->List (Nat×Bool)->Prop
 | _,[]=>True
 | a,e::r=>(e.2=true->∀ x∈On L e.1,x∈ks\/x∈a)/\AB L ks (e.1::a) r
theorem AB.mono {L:List Nd} {ks ks':List Nat} (hk:∀ x∈ks,x∈ks'):∀ {s:List (Nat×Bool)} {a a':List Nat},(∀ x∈a,x∈ks'\/x∈a')->AB L ks a s->AB L ks' a' s
  | [],_,_,_,_=>trivial
  | e::r,a,a',ha,h=>⟨fun z x hx=>(h.1 z x hx).elim (fun q=>.inl (hk x q)) fun q=>ha x q,h.2.mono hk fun x hx=>by
      rcases kh.mp hx with rfl | hx
      · exact .inr kZ
      · exact (ha x hx).elim .inl fun q=>.inr (kX _ q)⟩
theorem AB.app {L:List Nd} {ks:List Nat} {t:List (Nat×Bool)}:∀ {ps a:List Nat},AB L ks (ps.reverse++a) t->AB L ks a (ps.map (fun p=>(p,false))++t)
 | [],a,h=>h
 | p::ps,a,h=>⟨(fun z=>by cases z),AB.app (ps:=ps) (a:=p::a) (by simpa using h)⟩
section
variable {I:Nat} {fs ds:List Dv} {L:List Nd} {top:Nat}
theorem Lw (hL:Dn I fs ds L) {q x:Nat} (h:x∈On L q):x < q:=by
 unfold On at h;split at h
 ·rename_i y hy;exact (hL q y hy).part x h
 ·cases h
theorem Fc (hL:Dn I fs ds L):∀ {s:List (Nat×Bool)},VH L top s->∀ e∈s,e.1<=top
 | [],_,e,h=>by cases h
 | f::r,g,e,h=>by
  have ih:=Fc hL g.2.2;rcases kh.mp h with rfl | h
  ·rcases g.1 with ⟨_,z⟩ | ⟨q,hq,z⟩
   ·omega
   ·have:=ih _ hq;have:=Lw hL z;simp at *;omega
  ·exact ih e h
theorem IE (hL:Dn I fs ds L) {v:Nat} {r:List (Nat×Bool)} (g:VH L top ((v,true)::r)):∀ {xs:List Nat},(∀ x∈xs,x∈On L v)->VH L top (xs.map (fun p=>(p,false))++(v,true)::r)
 | [],_=>g
 | x::xs,h=>by
  refine ⟨.inr ⟨v,ka _ kZ,h x kZ⟩,fun f hf ht=>?_,IE hL g fun y hy=>h y (kX _ hy)⟩;have xv:=Lw hL (h x kZ);rcases lC.mp hf with hf | hf
  ·obtain ⟨y,_,rfl⟩:=mE.mp hf;cases ht
  ·rcases kh.mp hf with rfl | hf
   ·exact xv
   ·have:=g.2.1 f hf ht;show x < f.1;simp at this;omega
structure OI (I:Nat) (fs ds:List Dv) (L:List Nd) (top:Nat) (F:List Nd) (ks:List Nat) (s:List (Nat×Bool)):Prop where
 lf:F.length=ks.length
 nd:ks.Nodup
 lt:∀ k∈ks,k < L.length
 ok:Dn I fs ds F
 g:VH L top s
 pend:∀ q,(q,true)∈s->q∉ks
 ab:AB L ks [] s
 cov:∀ i k,ks[i]?=some k->(∃ (j:Nat) (y:Nd),F[j]?=some y/\i∈y.parts)\/(∃ q,(q,true)∈s/\k∈On L q)\/k=top
 fin:(top∉ks/\s≠[])\/(s=[]/\∃ k0,ks=k0++[top]/\top∉k0)
variable {F:List Nd} {ks:List Nat} {v:Nat} {b:Bool} {s:List (Nat×Bool)}
theorem OI.top_out (h:OI I fs ds L top F ks ((v,b)::s)):top∉ks:=h.fin.elim (fun z=>z.1) fun z=>by cases z.1
theorem OI.one (h:OI I fs ds L top F ks ((v,b)::s)) (hs:s=[]):v=top:=by
 rcases h.g.1 with ⟨_,z⟩ | ⟨q,hq,_⟩
 ·exact z
 ·rw [hs] at hq;cases hq
theorem OI.skip (h:OI I fs ds L top F ks ((v,b)::s)) (hv:v∈ks):OI I fs ds L top F ks s:=by
 refine ⟨h.lf,h.nd,h.lt,h.ok,h.g.2.2,fun q hq=>h.pend q (kX _ hq),h.ab.2.mono (fun _ z=>z) fun x hx=>?_,fun i k hk=>?_,.inl ⟨h.top_out,fun z=>h.top_out (h.one z▸hv)⟩⟩
 ·rw [lJ] at hx;rw [hx];exact .inl hv
 ·rcases h.cov i k hk with z | ⟨q,hq,z⟩ | z
  ·exact .inl z
  ·rcases kh.mp hq with e | hq
   ·cases e;exact (h.pend v kZ hv).elim
   ·exact .inr (.inl ⟨q,hq,z⟩)
  ·exact .inr (.inr z)
theorem OI.emit (hL:Dn I fs ds L) (ht:top < L.length) (h:OI I fs ds L top F ks ((v,b)::s)) (hv:v∉ks) {y:Nd} (hy:FH I fs ds F.length y) (hp:b=true->∀ i k,ks[i]?=some k->k∈On L v->i∈y.parts):OI I fs ds L top (F++[y]) (ks++[v]) s:=by
 have vt:v<=top:=Fc hL h.g (v,b) kZ;refine ⟨by simp [h.lf],?_,fun k hk=>?_,fun i x hx=>?_,h.g.2.2,fun q hq hm=>?_,h.ab.2.mono (fun x z=>ko _ z) fun x hx=>?_,fun i k hk=>?_,?_⟩
 ·exact List.nodup_append.mpr ⟨h.nd,by simp,fun a ha b' hb=>by rw [lJ] at hb;subst hb;exact fun e=>hv (e▸ha)⟩
 ·rcases lC.mp hk with hk | hk
  ·exact h.lt k hk
  ·rw [lJ] at hk;subst hk;omega
 ·rcases mP i F.length with w | w
  ·rw [kc w] at hx;exact h.ok i x hx
  ·have:i=F.length:=by have:=(kU.mp hx).1;simp at this;omega
   subst this;rw [lF (kb _),lz] at hx;cases hx;exact hy
 ·rcases lC.mp hm with hm | hm
  ·exact h.pend q (kX _ hq) hm
  ·rw [lJ] at hm;subst hm;have:=h.g.2.1 (q,true) hq rfl;simp at this
 ·rw [lJ] at hx;rw [hx];exact .inl (ka _ kZ)
 ·rcases mP i ks.length with w | w
  ·rw [kc w] at hk;rcases h.cov i k hk with ⟨j,x,hx,z⟩ | ⟨q,hq,z⟩ | z
   ·exact .inl ⟨j,x,by rw [kc (kU.mp hx).1];exact hx,z⟩
   ·rcases kh.mp hq with e | hq
    ·cases e;exact .inl ⟨F.length,y,by rw [lF (kb _),lz];rfl,hp rfl i k hk z⟩
    ·exact .inr (.inl ⟨q,hq,z⟩)
   ·exact .inr (.inr z)
  ·have:i=ks.length:=by have:=(kU.mp hk).1;simp at this;omega
   subst this;rw [lF (kb _),lz] at hk;cases hk;rcases h.g.1 with ⟨_,z⟩ | z
   ·exact .inr (.inr z)
   ·exact .inr (.inl z)
 ·by_cases e:v=top
  ·refine .inr ⟨?_,ks,by rw [e],h.top_out⟩;rcases h.g.1 with ⟨z,_⟩ | ⟨q,hq,z⟩
   ·exact z
   ·have h1:=Lw hL z;have h2:=Fc hL h.g (q,true) (kX _ hq);simp at h1 h2;omega
  ·refine .inl ⟨fun z=>?_,fun z=>e (h.one z)⟩;rcases lC.mp z with z | z
   ·exact h.top_out z
   ·rw [lJ] at z;exact e z.symm
theorem OI.expand (hL:Dn I fs ds L) (h:OI I fs ds L top F ks ((v,false)::s)) (hv:v∉ks) {d:Dv} {ps:List Nat} (hx:L[v]?=some (.act d ps)):OI I fs ds L top F ks (ps.map (fun p=>(p,false))++(v,true)::s):=by
 have pv:On L v=ps:=by unfold On;rw [hx];rfl
 refine ⟨h.lf,h.nd,h.lt,h.ok,IE hL (v:=v) (r:=s) ⟨h.g.1,h.g.2.1,h.g.2.2⟩ fun x hx=>by rw [pv];exact hx,fun q hq=>?_,AB.app ⟨fun _ x hx=>.inr (by rw [pv] at hx;simpa using hx),h.ab.2.mono (fun _ z=>z) fun x hx=>?_⟩,fun i k hk=>?_,.inl ⟨h.top_out,by simp⟩⟩
 ·rcases lC.mp hq with hq | hq
  ·obtain ⟨y,_,e⟩:=mE.mp hq;cases e
  ·rcases kh.mp hq with e | hq
   ·cases e;exact hv
   ·exact h.pend q (kX _ hq)
 ·rw [lJ] at hx;rw [hx];exact .inr kZ
 ·rcases h.cov i k hk with z | ⟨q,hq,z⟩ | z
  ·exact .inl z
  ·rcases kh.mp hq with e | hq
   ·cases e
   ·exact .inr (.inl ⟨q,ka _ (kX _ hq),z⟩)
  ·exact .inr (.inr z)
def mu (N:Nat) (ks:List Nat) (s:List (Nat×Bool)):Nat:=3 * Jh (fun u=>decide (u∉ks) && decide ((u,true)∉s)) N+s.length
theorem NV (hv:v∈ks) (hp:∀ q,(q,true)∈(v,b)::s->q∉ks) (N:Nat):mu N ks s < mu N ks ((v,b)::s):=by
 have:Jh (fun u=>decide (u∉ks) && decide ((u,true)∉s)) N<=Jh (fun u=>decide (u∉ks) && decide ((u,true)∉(v,b)::s)) N:=JV (fun u hu=>by
  simp only [dL,decide_eq_true_eq] at hu ⊢;refine ⟨hu.1,fun z=>?_⟩;rcases kh.mp z with e | z
  ·cases e;exact hu.1 hv
  ·exact hu.2 z) N
 unfold mu;rw [ki];omega
theorem DO (N:Nat):mu N (ks++[v]) s < mu N ks ((v,b)::s):=by
 have:Jh (fun u=>decide (u∉ks++[v]) && decide ((u,true)∉s)) N<=Jh (fun u=>decide (u∉ks) && decide ((u,true)∉(v,b)::s)) N:=JV (fun u hu=>by
  simp only [dL,decide_eq_true_eq,lC,lJ,not_or] at hu ⊢;refine ⟨hu.1.1,fun z=>?_⟩;rcases kh.mp z with e | z
  ·cases e;exact hu.1.2 rfl
  ·exact hu.2 z) N
 unfold mu;rw [ki];omega
theorem Ya {ps:List Nat} {N:Nat} (hv:v∉ks) (hN:v < N) (hs:(v,true)∉s) (hp:ps.length<=2):mu N ks (ps.map (fun p=>(p,false))++(v,true)::s) < mu N ks ((v,false)::s):=by
  have:Jh (fun u=>decide (u∉ks) && decide ((u,true)∉ps.map (fun p=>(p,false))++(v,true)::s)) N < Jh (fun u=>decide (u∉ks) && decide ((u,true)∉(v,false)::s)) N:=UF (v:=v) (fun u hu=>by
      simp only [dL,decide_eq_true_eq,lC,kh,not_or] at hu ⊢;exact ⟨hu.1,(fun e=>by cases e),hu.2.2.2⟩) (by
      simp only [dL,decide_eq_true_eq,kh,not_or];exact ⟨hv,(fun e=>by cases e),hs⟩) (by simp) hN
  unfold mu;rw [lI,ki,ki,lK];omega
theorem Yu (p:Nat->Bool) (N:Nat):Jh p N<=N:=by
 have:=List.length_filter_le p (List.range N);unfold Jh;simpa using this
def kA (F:List Nd):Prop:=∀ i,i+1 < F.length->∃ (j:Nat) (y:Nd),F[j]?=some y/\i∈y.parts
theorem JC (hL:Dn I fs ds L) (ht:top < L.length) (hN:L.length<=100):∃ F,CJ (.lst (nD L)) (.int (top:Nat))=some (.tup [.tup (nD F),.int ((F.length - 1:Nat))])/\Dn I fs ds F/\kA F/\0 < F.length/\F.length<=L.length:=by
  obtain ⟨c,e,F,ks,rfl,o⟩:=Jk BR (AZ (.lst (nD L))) (fun m c=>∃ F ks s,c=(.lst (nD F),Az ks,stk s)/\OI I fs ds L top F ks s/\mu L.length ks s=m/\m<=1000) (fun c=>∃ F ks,c=(.lst (nD F),Az ks,stk [])/\OI I fs ds L top F ks []) (fun m c ⟨F,ks,s,e,o,hm,hs⟩=>by
    subst e;have t:BR (.lst (nD F),Az ks,stk s)=some (decide (0 < s.length)):=by
      unfold BR;simp only [VW,kS,Ck,QR];congr 1;exact decide_eq_decide.mpr (by omega)
    cases s with
    | nil=>exact .inl ⟨by rw [t];rfl,F,ks,rfl,o⟩
    | cons e s =>
      obtain ⟨v,b⟩:=e;refine .inr ⟨by rw [t];simp,?_⟩;have vt:v<=top:=Fc hL o.g (v,b) kZ;have vL:v < L.length:=by omega
      have hx:=kT vL;have kl:ks.length<=L.length:=Ga o.nd o.lt;have lfl:=o.lf;have hs':s.length<=1000:=by unfold mu at hm;rw [ki] at hm;omega
      have dn:∀ {m'},m' < m->m'<=1000:=fun h=>by omega
      by_cases hv:v∈ks
      · exact ⟨_,_,WV hv,(by rw [<- hm];exact NV hv o.pend L.length),F,ks,s,rfl,o.skip hv,rfl,dn (by rw [<- hm];exact NV hv o.pend L.length)⟩
      · have okv:=hL v _ hx;cases q:L[v] with
        | inp k =>
          rw [q] at hx okv;exact ⟨_,_,NT hv rfl hx o.lf (by omega),by rw [<- hm];exact DO L.length,_,_,s,rfl,o.emit hL ht hv okv (fun _ i k' _ hk=>by unfold On at hk;rw [hx] at hk;cases hk),rfl,dn (by rw [<- hm];exact DO L.length)⟩
        | fix c =>
          rw [q] at hx okv;exact ⟨_,_,NT hv rfl hx o.lf (by omega),by rw [<- hm];exact DO L.length,_,_,s,rfl,o.emit hL ht hv okv (fun _ i k' _ hk=>by unfold On at hk;rw [hx] at hk;cases hk),rfl,dn (by rw [<- hm];exact DO L.length)⟩
        | act d ps =>
          rw [q] at hx okv;have pv:On L v=ps:=by unfold On;rw [hx];rfl
          have pl:ps.length<=2:=by obtain ⟨⟨r,_,h1,h2,_⟩,_⟩:=okv;omega
          cases b with
          | true =>
            have hp:∀ p∈ps,p∈ks:=fun p hp=>(o.ab.1 rfl p (by rw [pv];exact hp)).resolve_right (by simp)
            refine ⟨_,_,fE hv hx hp o.lf (by omega) (by omega),by rw [<- hm];exact DO L.length,_,_,s,rfl,o.emit hL ht hv ?_ (fun _ i k hk hm=>?_),rfl,dn (by rw [<- hm];exact DO L.length)⟩
            · obtain ⟨⟨r,h1,h2,h3⟩,_⟩:=okv;refine ⟨⟨r,h1,by simpa using h2,h3⟩,fun p hp'=>?_⟩;obtain ⟨x,hx',rfl⟩:=mE.mp hp';rw [o.lf];exact oB.mpr (hp x hx')
            · rw [pv] at hm;refine mE.mpr ⟨k,hm,?_⟩;obtain ⟨hi,rfl⟩:=kU.mp hk;have h1:ks.idxOf ks[i] < ks.length:=oB.mpr (mM hi);have:=List.getElem_idxOf h1;exact (mz o.nd).mp this
          | false =>
            have ns:(v,true)∉s:=fun z=>by have:=o.g.2.1 (v,true) z rfl;simp at this
            exact ⟨_,_,fC hv hx hs' (by omega),(by rw [<- hm];exact Ya hv vL ns pl),_,_,_,rfl,o.expand hL hv hx,rfl,dn (by rw [<- hm];exact Ya hv vL ns pl)⟩) 1000000 (mu L.length [] [(top,false)]) _ (by unfold mu;have:=Yu (fun u=>decide (u∉([]:List Nat)) && decide ((u,true)∉[(top,false)])) L.length;simp only [lY];omega) ⟨[],[],[(top,false)],rfl,⟨rfl,by simp,(fun _ z=>by cases z),(fun i x h=>by simp at h),⟨.inl ⟨rfl,rfl⟩,(fun _ z=>by cases z),trivial⟩,(fun q hq=>by simp at hq),⟨(fun z=>by cases z),trivial⟩,(fun i k h=>by simp at h),.inl ⟨by simp,by simp⟩⟩,rfl,by unfold mu;have:=Yu (fun u=>decide (u∉([]:List Nat)) && decide ((u,true)∉[(top,false)])) L.length;simp only [lY];omega⟩
  have kl:ks.length<=L.length:=Ga o.nd o.lt;have lf:=o.lf;obtain ⟨k0,rfl,nt⟩:∃ k0,ks=k0++[top]/\top∉k0:=o.fin.elim (fun z=>(z.2 rfl).elim) fun z=>z.2
  have l0:0 < F.length:=by rw [lf];simp
  refine ⟨F,?_,o.ok,fun i hi=>?_,l0,by omega⟩
  · unfold CJ;have e':Xt BR (AZ (.lst (nD L))) 1000000 (.lst [],.dct [] [],.lst [.tup [.int (top:Nat),.bl false]])=some (.lst (nD F),Az (k0++[top]),stk []):=e;rw [e'];simp only [kS,Al,EL];have:Mm (.int (F.length:Nat)) (.int 1)=some (.int ((F.length - 1:Nat))):=by
      show some (Dv.int ((F.length:Int) - 1))=_;congr 2;omega
    rw [this];rfl
  · have hi':i < k0.length:=by rw [lf,lI,lY] at hi;omega
    rcases o.cov i k0[i] (by rw [kc hi'];exact kT hi') with z | ⟨q,hq,_⟩ | z
    · exact z
    · cases hq
    · exact (nt (z▸mM hi')).elim
end
def hG (I:Nat) (fs ds:List Dv) (x:Dv):Prop:=∃ F,x=.tup [.tup (nD F),.int ((F.length - 1:Nat))]/\Dn I fs ds F/\kA F/\0 < F.length/\F.length<=100
theorem Pj {γ:Type} {P:Nat->γ->Prop} (g:Dv->γ->Option γ) (n:Nat) (c:γ) (h0:P 0 c) (h:∀ i < n,∀ c,P i c->∃ c',g (.int (i:Nat)) c=some c'/\P (i+1) c'):∃ c',Bb g ((List.range n).map fun k=>.int (k:Nat)) c=some c'/\P n c':=by
 obtain ⟨c',e,p⟩:=Gu g P ((List.range n).map fun k=>.int (k:Nat)) 0 c h0 fun i x hx c hc=>by
  rw [km] at hx;have hi:i < n:=by
   rcases mP i n with h | h
   ·exact h
   ·rw [lZ (by simp;omega)] at hx;cases hx
  rw [kT (by simp;omega)] at hx;simp only [lQ,Option.some.injEq,nR] at hx;subst hx;rw [mJ] at hc ⊢;exact h i hi c hc
 exact ⟨c',e,by simpa using p⟩
theorem Xy (ts:List Nat):(tI ts).cmp=true/\(tI ts).dep<=1:=by
 have a:∀ ts:List Nat,Aj (nI ts)=true/\Aq (nI ts)=0:=fun ts=>by
  induction ts with
  | nil=>exact ⟨rfl,rfl⟩
  | cons t ts ih =>
   simp only [nI] at ih;simp only [nI,kj,Aj,Aq,Dv.cmp,Dv.dep,ih.1,ih.2,lh];exact ⟨trivial,rfl⟩
 simp only [tI,Dv.cmp,Dv.dep,a ts];exact ⟨trivial,kb _⟩
section
variable {I:Nat} {fs ds:List Dv}
theorem YY {i:Nat} {x:Nd} (h:FH I fs ds i x):x.dv.cmp=true/\x.dv.dep<=2:=by
 cases x with
 | inp k=>exact ⟨rfl,by simp [Nd.dv,Ii,Dv.dep,Aq]⟩
 | fix c=>obtain ⟨_,l,rfl⟩:=h;exact ⟨rfl,by simp [Nd.dv,Ik,Dv.dep,Aq]⟩
 | act d ps =>
  obtain ⟨⟨r,_,_,_,l,rfl⟩,_⟩:=h;obtain ⟨h1,h2⟩:=Xy ps;simp only [Nd.dv,Lf,Dv.cmp,Aj,Dv.dep,Aq,h1,lh];exact ⟨trivial,by omega⟩
theorem YW:∀ {L:List Nd},(∀ x∈L,∃ i,FH I fs ds i x)->Aj (nD L)=true/\Aq (nD L)<=2
 | [],_=>⟨rfl,by decide⟩
 | x::L,h=>by
  obtain ⟨h1,h2⟩:=YW (L:=L) fun y hy=>h y (kX _ hy)
  obtain ⟨i,hi⟩:=h x kZ;obtain ⟨h3,h4⟩:=YY hi;simp only [nD] at h1 h2;simp only [nD,kj,Aj,Aq,h1,h3,lh];exact ⟨trivial,by omega⟩
theorem SL {L:List Nd} {i:Nat} {x:Nd} (hx:FH I fs ds i x) (hL:Dn I fs ds L):∃ b,Dl x.dv (.lst (nD L))=some b/\(L=[]->b=true):=by
 obtain ⟨h1,h2⟩:=YW (L:=L) fun y hy=>by obtain ⟨j,hj⟩:=mi hy;exact ⟨j,hL j y hj⟩
 have h3:=(YY hx).1;refine ⟨!memV x.dv (nD L),?_,fun e=>by rw [e];rfl⟩;have c:(x.dv.cmp && Aj (nD L) && decide (Aq (nD L)<=150))=true:=by rw [h1,h3,lh,nV];exact decide_eq_true (by omega)
 have v:hX (.lst (nD L))=some (nD L):=rfl;cases x<;>simp only [Nd.dv] at c ⊢<;>simp only [HV,v,c,if_true]
theorem Wm (L:List Nd):Am (.lst (nD L))=some (.int (L.length:Nat)):=EL L
theorem UE {a:Dv} {r:Int} {x:Dv} (h:x∈ds) (hd:∀ x∈ds,Xq 5 x):∃ a r,x=.tup [a,.int r]/\(∃ l,a=.str l)/\(r=1\/r=2)/\Dv.tup [a,.int r]∈ds:=by
 obtain ⟨a,r,rfl,⟨l,rfl,_⟩,hr⟩:=hd x h;exact ⟨_,r,rfl,⟨l,rfl⟩,hr,h⟩
theorem Dn.snoc {L:List Nd} {x:Nd} (h:Dn I fs ds L) (hx:FH I fs ds L.length x):Dn I fs ds (L++[x]):=fun i y hy=>by
 rcases mP i L.length with w | w
 ·rw [kc w] at hy;exact h i y hy
 ·have:i=L.length:=by have:=(kU.mp hy).1;simp at this;omega
  subst this;rw [lF (kb _),lz] at hy;cases hy;exact hx
variable (hfs:∀ x∈fs,Tx 10 x) (hds:∀ x∈ds,Xq 5 x) (hdl:ds.length<=1000)
include hds hdl
theorem Pn {f:Dv} (hf:Fd f) (h0:0 < ds.length):∃ (r:Nat) (f' a:Dv) (k:Int),AV f (.int (ds.length:Nat))=some (.int r,f')/\Fd f'/\AG (.tup ds) (.int r)=some (.tup [a,.int k])/\(∃ l,a=.str l)/\(k=1\/k=2)/\Dv.tup [a,.int k]∈ds:=by
 obtain ⟨r,f',e,b,hf'⟩:=AK hf (n:=((ds.length:Nat):Int)) (by omega) (by omega);obtain ⟨x,hx,ex⟩:=gq (xs:=ds) (i:=r) (by omega) b;obtain ⟨a,k,rfl,h1,h2,h3⟩:=UE (a:=.non) (r:=0) hx hds;exact ⟨r,f',a,k,e,hf',ex,h1,h2,h3⟩
theorem fo {f:Dv} (hf:Fd f) {L:List Nd} (hL:Dn I fs ds L) (hl:L.length<=100) {y:Nd} (hy:FH I fs ds L.length y):∃ x f',GI (.tup [.tup fs,.tup ds]) (.lst (nD L)) f y.dv=some (f',x.dv)/\FH I fs ds L.length x/\Fd f':=by
 have i1:AG (.tup [.tup fs,.tup ds]) (.int 1)=some (.tup ds):=rfl;have l1:Am (.tup ds)=some (.int (ds.length:Nat)):=rfl;have t:∃ b f',GA (.tup [.tup fs,.tup ds]) (.lst (nD L)) f=some (b,f')/\Fd f'/\(b=true->0 < L.length/\0 < ds.length):=by
  unfold GA;simp only [Wm,kS,Ck,QR]
  by_cases h0:(0:Int) < (L.length:Nat)
  ·simp only [h0,decide_true,if_true];unfold Jx;simp only [i1,l1,kS,Ck,QR]
   by_cases h1:(0:Int) < (ds.length:Nat)
   ·obtain ⟨r,f',e,b,hf'⟩:=AK hf (n:=4) (by decide) (by decide);simp only [h1,decide_true,if_true,e,kS,Ck,QR];exact ⟨_,f',rfl,hf',fun _=>by omega⟩
   ·simp only [h1,decide_false,kg,if_false,kS];exact ⟨_,f,rfl,hf,fun z=>by cases z⟩
  ·simp only [h0,decide_false,kg,if_false];exact ⟨_,f,rfl,hf,fun z=>by cases z⟩
 obtain ⟨b,f1,e1,hf1,hb⟩:=t;unfold GI;rw [e1];cases b with
 | false=>exact ⟨y,f1,rfl,hy,hf1⟩
 | true =>
  obtain ⟨L0,d0⟩:=hb rfl;obtain ⟨r,f2,a,k,e2,hf2,ex,⟨l,rfl⟩,hk,hm⟩:=Pn hds hdl hf1 d0;have er:Ct [.int k]=some ((List.range k.toNat).map fun j=>.int (j:Nat)):=Dz (by omega) (by omega);obtain ⟨qs,f3,e3,l3,h3,hf3⟩:=DT (GN (.lst (nD L))) Fd (fun d=>∃ p:Nat,d=.int p/\p < L.length) ((List.range k.toNat).map fun j=>.int (j:Nat)) f2 hf2 fun x hx c hc=>by
   obtain ⟨r1,g1,q1,b1,hg1⟩:=AK hc (n:=((L.length:Nat):Int)) (by omega) (by omega);obtain ⟨r2,g2,q2,b2,hg2⟩:=AK hg1 (n:=2) (by decide) (by decide);have s1:Mm (.int (L.length:Nat)) (.int 1)=some (.int ((L.length - 1:Nat))):=by
    show some (Dv.int ((L.length:Int) - 1))=_;congr 2;omega
   obtain ⟨z,hz,ez⟩:=VB (xs:=[Dv.int ((L.length - 1:Nat)),.int (r1:Nat)]) (i:=r2) (by omega) (by simpa using b2);refine ⟨z,g2,by unfold GN;simp only [Wm,kS,s1,q1,q2,ez],?_,hg2⟩;simp only [kh,lV,or_false] at hz;rcases hz with rfl | rfl
   ·exact ⟨_,rfl,by omega⟩
   ·exact ⟨_,rfl,by omega⟩
  obtain ⟨ps,rfl,hp⟩:=Qo (n:=L.length) (xs:=qs) h3;rw [BY] at l3;refine ⟨.act (.str l) ps,f3,?_,⟨⟨k,hm,by rw [l3];simp;omega,hk,l,rfl⟩,hp⟩,hf3⟩;simp only [kS,if_true,i1,l1,e2,ex];rw [Qi];simp only [er,kS];rw [BZ (by simp;omega),e3];rfl
include hfs
theorem Pi {f:Dv} (hf:Fd f) (hfl:fs.length<=100) {I0:Nat} (hI:I<=100) (hI0:fs.length=0->I=max I0 1) (hI1:fs.length≠0->I=I0) {many:Nat} (hm0:0 < many) (hm:many<=50):∃ x f',Ei f (.tup [.tup fs,.tup ds]) (.int (I0:Nat)) (.int (many:Nat))=some (x,f')/\hG I fs ds x/\Fd f':=by
 have i0:AG (.tup [.tup fs,.tup ds]) (.int 0)=some (.tup fs):=rfl;have l0:Am (.tup fs)=some (.int (fs.length:Nat)):=rfl;have it:items (.tup fs)=some fs:=rfl;have mx:∃ d3,(QT (.int (fs.length:Nat)) (.int 0)).bind (fun b2=>Ic (.bl b2))=some d3/\IZ (.int (I0:Nat)) d3=some (.int (I:Nat)):=by
  rw [Fg];simp only [kS,Ic];refine ⟨_,rfl,?_⟩;simp only [IZ]
  by_cases h:(fs.length:Int)=0
  ·have:=hI0 (by omega);simp only [h,decide_true,if_true];split
   ·congr 2;omega
   ·congr 2;omega
  ·have:=hI1 (by omega);simp only [h,decide_false,kg,if_false];rw [if_neg (by omega)];congr 2;omega
 obtain ⟨d3,m1,m2⟩:=mx;obtain ⟨b2,q1,q2⟩:=la.mp m1;have rg:=Zr I (by omega);have y7:BG Dx ((List.range I).map fun k=>.int (k:Nat))=some (nD ((List.range I).map Nd.inp)):=by
  have:∀ l:List Nat,BG Dx (l.map fun k=>.int (k:Nat))=some (nD (l.map Nd.inp)):=fun l=>by
   induction l with
   | nil=>rfl
   | cons a l ih=>simp only [nD] at ih;simp only [nD,kj,BG,Dx,kS,ih];rfl
  exact this _
 have y11:BG Dw fs=some (nD (fs.map Nd.fix)):=by
  have:∀ l:List Dv,BG Dw l=some (nD (l.map Nd.fix)):=fun l=>by
   induction l with
   | nil=>rfl
   | cons a l ih=>simp only [nD] at ih;simp only [nD,kj,BG,Dw,kS,ih];rfl
  exact this _
 let S:List Nd:=(List.range I).map Nd.inp++fs.map Nd.fix
 have hS:nD ((List.range I).map Nd.inp)++nD (fs.map Nd.fix)=nD S:=by simp [nD,S]
 have lS:S.length=I+fs.length:=by simp [S]
 have okS:∀ x∈S,∀ i,FH I fs ds i x:=fun x hx i=>by
  rcases lC.mp hx with hx | hx
  ·obtain ⟨k,hk,rfl⟩:=mE.mp hx;exact (show k < I by simpa using hk)
  ·obtain ⟨c,hc,rfl⟩:=mE.mp hx;obtain ⟨l,rfl,_⟩:=hfs c hc;exact ⟨hc,l,rfl⟩
 have ad:Ax (.lst (nD ((List.range I).map Nd.inp))) (.lst (nD (fs.map Nd.fix)))=some (.lst (nD S)):=by
  simp only [Ax,if_pos (show (nD ((List.range I).map Nd.inp)).length+(nD (fs.map Nd.fix)).length<=1000000 by simp [Et];omega),hS]
 obtain ⟨r13,f13,e13,b13,hf13⟩:=AK hf (n:=((many:Nat):Int)) (by omega) (by omega);have oa:Ax (.int 1) (.int (r13:Nat))=some (.int ((1+r13:Nat))):=by rw [CY];congr 1
 have rg2:=Zr (1+r13) (by omega);obtain ⟨⟨f2,l2⟩,e2,L,rfl,hL,hLl,hL0,hf2⟩:=Pj (P:=fun i c=>∃ L,c.2=.lst (nD L)/\Dn I fs ds L/\L.length<=i/\(0 < i->0 < L.length)/\Fd c.1) (GO (.tup [.tup fs,.tup ds]) (.lst (nD S))) (1+r13) (f13,.lst []) ⟨[],rfl,(fun i x h=>by simp at h),by simp,(fun z=>by omega),hf13⟩ fun i hi c hc=>by
  obtain ⟨f,l⟩:=c;obtain ⟨L,rfl,hL,hLl,hL0,hf⟩:=hc;have hS0:0 < S.length:=by
   rw [lS]
   by_cases z:fs.length=0
   ·have:=hI0 z;omega
   ·omega
  obtain ⟨r,g1,e1,b1,hg1⟩:=AK hf (n:=((S.length:Nat):Int)) (by omega) (by omega);have hr:r < S.length:=by omega
  obtain ⟨x,g2,e3,hx,hg2⟩:=fo hds hdl hg1 hL (by omega) (okS S[r] (mM hr) L.length);obtain ⟨b,eb,hb⟩:=SL hx hL;unfold GO;simp only [Wm,kS,e1,YZ hr,e3];unfold Jz;rw [eb];simp only [kS];cases b with
  | true =>
   refine ⟨(g2,.lst (nD (L++[x]))),?_,L++[x],rfl,hL.snoc hx,by simp;omega,(fun _=>by simp),hg2⟩;simp only [if_true,Di,DF (show (nD L).length<=1000000 by rw [Et];omega),kS];simp [nD]
  | false =>
   refine ⟨(g2,.lst (nD L)),by simp,L,rfl,hL,by omega,fun _=>?_,hg2⟩;rcases Nat.eq_zero_or_pos L.length with z | z
   ·have:=hb (lM z);cases this
   ·exact z
 have hL0':=hL0 (by omega);obtain ⟨F,eF,okF,cvF,f0,fl⟩:=JC (top:=L.length - 1) hL (by omega) (by omega);refine ⟨_,f2,?_,⟨F,rfl,okF,cvF,f0,by omega⟩,hf2⟩;have s1:Mm (.int (L.length:Nat)) (.int 1)=some (.int ((L.length - 1:Nat))):=by
  show some (Dv.int ((L.length:Int) - 1))=_;congr 2;omega
 unfold Ei;simp only [i0,l0,kS,q1,q2,m2,rg];rw [BZ (by simp;omega),y7];simp only [kS,it];rw [BZ (by omega),y11];simp only [kS,ad,e13,oa,rg2];rw [e2];simp only [kS,Wm,s1,eF]
end
noncomputable def Ih:List Nat:=[105,110,112,117,116]
noncomputable def Ij:List Nat:=[102,105,120,101,100]
noncomputable def ZX:List Nat:=[100,111]
inductive Ne where
 | inp (k:Nat) | fix (l:List Nat) | act (l:List Nat) (ps:List Nat)
 deriving DecidableEq
def Ne.dv:Ne->Dv
 | .inp k=>.tup [Ii,.int (k:Nat)]
 | .fix l=>.tup [Ik,.str l]
 | .act l ps=>.tup [Lf,.str l,tI ps]
noncomputable def Ne.parts:Ne->List Nat
 | .act _ ps=>ps
 | _=>[]
noncomputable def eD (L:List Ne):List Dv:=L.map Ne.dv
theorem Gz (L:List Ne):(eD L).length=L.length:=by simp [eD]
theorem Tq (a b:List Ne):eD (a++b)=eD a++eD b:=by simp [eD]
theorem SO {I:Nat} {fs ds:List Dv} {i:Nat} {x:Nd} (h:FH I fs ds i x):∃ y:Ne,y.dv=x.dv/\(∀ p∈y.parts,p < i)/\y.parts.length<=2:=by
 cases x with
 | inp k=>exact ⟨.inp k,rfl,(fun _ z=>by cases z),by simp [Ne.parts]⟩
 | fix c =>
  obtain ⟨_,l,rfl⟩:=h;exact ⟨.fix l,rfl,(fun _ z=>by cases z),by simp [Ne.parts]⟩
 | act d ps =>
  obtain ⟨⟨r,_,h1,h2,l,rfl⟩,hp⟩:=h;exact ⟨.act l ps,rfl,hp,by show ps.length<=2;omega⟩
theorem SN {I:Nat} {fs ds:List Dv}:∀ (F:List Nd) (o:Nat),(∀ i x,F[i]?=some x->FH I fs ds (o+i) x)->∃ E:List Ne,eD E=nD F/\∀ i x,E[i]?=some x->(∀ p∈x.parts,p < o+i)/\x.parts.length<=2
 | [],o,_=>⟨[],rfl,fun i x h=>by simp at h⟩
 | x::F,o,h=>by
  obtain ⟨y,e1,h1,h2⟩:=SO (h 0 x rfl);obtain ⟨E,e2,h3⟩:=SN F (o+1) fun i z hz=>by
   have:=h (i+1) z (by simpa using hz);rw [show o+(i+1)=o+1+i by omega] at this;exact this
  refine ⟨y::E,by show y.dv::eD E=x.dv::nD F;rw [e1,e2],fun i z hz=>?_⟩;cases i with
  | zero=>cases hz;exact ⟨h1,h2⟩
  | succ i=>have:=h3 i z (by simpa using hz);rw [show o+(i+1)=o+1+i by omega];exact this
theorem Ny:∀ a b:List Nat,R.eqVs (nI a) (nI b)=decide (a=b)
 | [],[]=>rfl
 | [],_::_=>rfl
 | _::_,[]=>rfl
 | x::a,y::b=>by
  show (R.eqV (.int (x:Nat)) (.int (y:Nat)) && R.eqVs (nI a) (nI b))=_;rw [Ny a b];have:R.eqV (.int (x:Nat)) (.int (y:Nat))=decide (x=y):=by
   show (((x:Nat):Int) == ((y:Nat):Int))=_
   by_cases e:x=y
   ·subst e;simp
   ·have:¬ ((x:Nat):Int)=((y:Nat):Int):=by omega
    simp [e,this]
  rw [this,<- Bool.decide_and];exact decide_eq_decide.mpr ⟨fun h=>by rw [h.1,h.2],fun h=>by cases h;exact ⟨rfl,rfl⟩⟩
theorem Ti (a b:Ne):R.eqV a.dv b.dv=decide (a=b):=by
 have st:∀ l m:List Nat,(l == m)=decide (l=m):=fun l m=>nL l m
 cases a with
 | inp k =>
  cases b with
  | inp j =>
   show ((Ih == Ih) && ((((k:Nat):Int) == ((j:Nat):Int)) && true))=_
   by_cases e:k=j
   ·subst e;simp
   ·have:¬ ((k:Nat):Int)=((j:Nat):Int):=by omega
    simp [e,this]
  | fix _=>rfl
  | act _ _=>rfl
 | fix l =>
  cases b with
  | inp _=>rfl
  | fix m =>
   show ((Ij == Ij) && ((l == m) && true))=_;rw [st l m]
   by_cases e:l=m<;>simp [e]
  | act _ _=>rfl
 | act l ps =>
  cases b with
  | inp _=>rfl
  | fix _=>rfl
  | act m qs =>
   show ((ZX == ZX) && ((l == m) && (R.eqVs (nI ps) (nI qs) && true)))=_;rw [st l m,Ny]
   by_cases e:l=m
   ·by_cases e2:ps=qs<;>simp [e,e2]
   ·simp [e]
theorem SQ (x:Ne):x.dv.cmp=true/\x.dv.dep<=2:=by
 cases x with
 | inp k=>exact ⟨rfl,by show max 0 (max 0 0)+1<=2;decide⟩
 | fix l=>exact ⟨rfl,by show max 0 (max 0 0)+1<=2;decide⟩
 | act l ps =>
  have h:=Xy ps;refine ⟨?_,?_⟩
  ·show (true && (true && ((tI ps).cmp && true)))=true;rw [h.1];rfl
  ·show max 0 (max 0 (max (tI ps).dep 0))+1<=2;have:=h.2;omega
theorem MD:∀ L:List Ne,Aj (eD L)=true/\Aq (eD L)<=2
 | []=>⟨rfl,lg _⟩
 | x::L=>by
  have h:=SQ x;have k:=MD L;exact ⟨by show (x.dv.cmp && Aj (eD L))=true;rw [h.1,k.1];rfl,by show max x.dv.dep (Aq (eD L))<=2;omega⟩
theorem NW (x:Ne):∀ L:List Ne,R.memV x.dv (eD L)=decide (x∈L)
 | []=>rfl
 | y::L=>by
  show (R.eqV y.dv x.dv || R.memV x.dv (eD L))=_;rw [NW x L,Ti,<- Bool.decide_or];exact decide_eq_decide.mpr ⟨fun h=>by rcases h with h | h<;>simp [h],fun h=>by rcases kh.mp h with h | h<;>simp [h]⟩
theorem Fy (x:Ne):∃ xs,x.dv=.tup xs:=by cases x<;>exact ⟨_,rfl⟩
theorem SK (x:Ne) (L:List Ne):Dl x.dv (.lst (eD L))=some (!decide (x∈L)):=by
 have c:(x.dv.cmp && Aj (eD L) && decide (Aq (eD L)<=150))=true:=by
  have h:=MD L;rw [(SQ x).1,h.1,lh,nV];exact decide_eq_true (by omega)
 have v:hX (.lst (eD L))=some (eD L):=rfl;have m:=NW x L;cases x<;>simp only [Ne.dv] at c m ⊢<;>simp only [HV,v,c,if_true,m]
theorem Ni (x:Ne):∀ {L:List Ne},x∈L->R.idxV x.dv (eD L)=some (L.idxOf x)
 | y::L,h=>by
  show (if R.eqV y.dv x.dv=true then some 0 else (R.idxV x.dv (eD L)).map (·+1))=_;rw [Ti,nk]
  by_cases e:y=x
  ·subst e;simp
  ·have q:(y == x)=false:=beq_eq_false_iff_ne.mpr e;have h':x∈L:=(kh.mp h).resolve_left fun z=>e z.symm
   rw [Ni x h',q];simp [e]
theorem So {x:Ne} {L:List Ne} (h:x∈L):FG (.lst (eD L)) x.dv=some (.int (L.idxOf x:Nat)):=by
 have c:(x.dv.cmp && Aj (eD L) && decide (Aq (eD L)<=150))=true:=by
  have h:=MD L;rw [(SQ x).1,h.1,lh,nV];exact decide_eq_true (by omega)
 simp only [FG,c,if_true,Ni x h,lQ]
noncomputable def put (G:List Ne) (x:Ne):List Ne:=if x∈G then G else G++[x]
theorem NN (G:List Ne) (x:Ne):x∈put G x:=by
 unfold put;split
 ·assumption
 ·simp
noncomputable def Lu (ns:List Nat):Ne->Ne
 | .act l ps=>.act l (ps.map fun p=>ns.getD p 0)
 | x=>x
def Ds (s:List Ne×List Nat) (x:Ne):List Ne×List Nat:=(put s.1 (Lu s.2 x),s.2++[(put s.1 (Lu s.2 x)).idxOf (Lu s.2 x)])
theorem Vr (G:List Ne) (x:Ne):(put G x).length<=G.length+1:=by
 unfold put;split
 ·omega
 ·simp
theorem Il (s:List Ne×List Nat) (x:Ne):(Ds s x).1.length<=s.1.length+1/\(Ds s x).2.length=s.2.length+1:=⟨Vr _ _,by simp [Ds]⟩
theorem Dr:∀ (E:List Ne) (s:List Ne×List Nat),(E.foldl Ds s).1.length<=s.1.length+E.length/\(E.foldl Ds s).2.length=s.2.length+E.length
 | [],s=>⟨kb _,rfl⟩
 | x::E,s=>by
  have h:=Dr E (Ds s x);have k:=Il s x;rw [mn,ki];omega
def cv (o:Nat) (E:List Ne):Prop:=∀ i x,E[i]?=some x->(∀ p∈x.parts,p < o+i)/\x.parts.length<=2
theorem cv.tail {o:Nat} {x:Ne} {E:List Ne} (h:cv o (x::E)):cv (o+1) E:=fun i z hz=>by
 have:=h (i+1) z (by simpa using hz);rw [show o+(i+1)=o+1+i by omega] at this;exact this
theorem iG {ns:List Nat} {p:Nat} (h:p < ns.length):AG (.lst (nI ns)) (.int (p:Nat))=some (.int (ns.getD p 0:Nat)):=dD h
theorem Gf {g:Dv->Option Dv} {ns:List Nat} (hg:∀ p:Nat,p < ns.length->g (.int (p:Nat))=some (.int (ns.getD p 0:Nat))):∀ ps:List Nat,(∀ p∈ps,p < ns.length)->BG g (nI ps)=some (nI (ps.map fun p=>ns.getD p 0))
 | [],_=>rfl
 | p::ps,h=>by
  have ih:=Gf hg ps fun q hq=>h q (kX _ hq)
  have e:=hg p (h p kZ);simp only [nI] at ih;simp only [nI,kj,BG,e,kS,ih]
theorem Yf (ps:List Nat):items (tI ps)=some (nI ps):=rfl
theorem RW {ns:List Nat} {x:Ne} (h:∀ p∈x.parts,p < ns.length) (hl:x.parts.length<=2):BU x.dv (.lst (nI ns))=some (Lu ns x).dv:=by
 cases x with
 | inp k=>rfl
 | fix l=>rfl
 | act l ps =>
  have e0:AG (Ne.act l ps).dv (.int 0)=some Lf:=rfl;have e1:AG (Ne.act l ps).dv (.int 1)=some (.str l):=rfl;have e2:AG (Ne.act l ps).dv (.int 2)=some (tI ps):=rfl;have ne:VJ Lf (.str [100,111])=some false:=rfl;have hp:ps.length<=2:=hl;have m:=Gf (g:=Br (.lst (nI ns))) (ns:=ns) (fun p hp=>by unfold Br;rw [iG hp];rfl) ps h;unfold BU;simp only [e0,e1,e2,ne,kS,kg,if_false,Yf];rw [BZ (by rw [BY];omega),m];rfl
def Bi:Ne->NK AS
 | .inp k=>[.inl (.inr (tx Ih)),.inl (.inl ((k:Nat):Int))]
 | .fix l=>[.inl (.inr (tx Ij)),.inl (.inr (tx l))]
 | .act l ps=>[.inl (.inr (tx ZX)),.inl (.inr (tx l)),.inr (kI ps)]
theorem Hy:∀ ps:List Nat,Dh (nI ps)=some (kI ps)
 | []=>rfl
 | p::ps=>by
  have ih:=Hy ps;simp only [nI,kI] at ih;simp only [nI,kI,kj,Dh,CN,kS,ih]
theorem JG (x:Ne):MM x.dv=some (Bi x):=by
 cases x with
 | inp k=>rfl
 | fix l=>rfl
 | act l ps =>
  have h:PV (tI ps)=some (kI ps):=Hy ps;have k:CN (tI ps)=none:=rfl;show Hz [Lf,.str l,tI ps]=_;simp only [Hz,Lf,CN,k,h,lQ,Option.map_none,ny,nz,kS];rfl
theorem FV {a b:List Nat} (h:tx a=tx b):a=b:=by
 have:=congrArg Str.cps h;simpa [tx] using this
theorem Si:∀ {a b:List Nat},kI a=kI b->a=b
 | [],[],_=>rfl
 | [],_::_,h=>by simp [kI] at h
 | _::_,[],h=>by simp [kI] at h
 | x::a,y::b,h=>by
  simp only [kI,kj,List.cons.injEq,Sum.inl.injEq] at h;have:x=y:=by omega
  rw [this,Si (a:=a) (b:=b) h.2]
theorem Kj {a b:Ne} (h:Bi a=Bi b):a=b:=by
 cases a with
 | inp k =>
  cases b with
  | inp j =>
   simp only [Bi,List.cons.injEq,Sum.inl.injEq,true_and,and_true] at h;have:k=j:=by omega
   rw [this]
  | fix m=>simp only [Bi,List.cons.injEq,Sum.inl.injEq,Sum.inr.injEq] at h;exact absurd (FV h.1) (by decide)
  | act m qs=>simp [Bi] at h
 | fix l =>
  cases b with
  | inp j=>simp only [Bi,List.cons.injEq,Sum.inl.injEq,Sum.inr.injEq] at h;exact absurd (FV h.1) (by decide)
  | fix m =>
   simp only [Bi,List.cons.injEq,Sum.inl.injEq,Sum.inr.injEq,true_and,and_true] at h;rw [FV h]
  | act m qs=>simp [Bi] at h
 | act l ps =>
  cases b with
  | inp j=>simp [Bi] at h
  | fix m=>simp [Bi] at h
  | act m qs =>
   simp only [Bi,List.cons.injEq,Sum.inl.injEq,Sum.inr.injEq,true_and,and_true] at h;rw [FV h.1,Si h.2]
theorem Sh (G:List Ne) (x:Ne):((G.map Bi).any fun j=>decide (j=Bi x))=decide (x∈G):=by
 induction G with
 | nil=>rfl
 | cons y G ih =>
  rw [kj,lu,ih,<- Bool.decide_or];exact decide_eq_decide.mpr ⟨fun h=>h.elim (fun h=>(Kj h)▸kZ) fun h=>kX _ h,fun h=>by rcases kh.mp h with h | h<;>simp [h]⟩
theorem Yt (x:Ne):∀ (G:List Ne) (o:Nat),Bl (Bi x) (G.map Bi) (nI ((List.range G.length).map (o+·)))=if x∈G then some (.int ((o+G.idxOf x:Nat))) else none
 | [],_=>rfl
 | y::G,o=>by
  rw [ki,ma];simp only [nI,kj,nF,Bl]
  by_cases e:y=x
  ·subst e;simp
  ·have e1:¬ Bi y=Bi x:=fun z=>e (Kj z)
   have q:(y == x)=false:=beq_eq_false_iff_ne.mpr e;rw [if_neg e1,nk,q];have ih:=Yt x G (o+1);unfold nI at ih;rw [nF] at ih;have:((fun t=>Dv.int ((t:Nat):Int))∘(fun x=>o+x)∘Nat.succ)=((fun t=>Dv.int ((t:Nat):Int))∘(fun x=>o+1+x)):=by
    funext z;simp only [Function.comp];congr 2;omega
   rw [this,ih];have e2:¬ x=y:=fun z=>e z.symm
   by_cases h:x∈G
   ·rw [if_pos h,if_pos (kX _ h)];congr 3;simp only [cond_false];omega
   ·rw [if_neg h,if_neg (by simp [e2,h])]
theorem Tz (x:Ne) (G:List Ne):Bl (Bi x) (G.map Bi) (nI (List.range G.length))=if x∈G then some (.int (G.idxOf x:Nat)) else none:=by
 have:=Yt x G 0;simp only [mJ] at this;have e:(List.range G.length).map (fun x=>x)=List.range G.length:=List.map_id' _;rw [e] at this;exact this
def dic (G:List Ne):Dv:=match G with
 | []=>.dct [] []
 | G=>.dnt (G.map Bi) (nI (List.range G.length))
theorem Ff {G:List Ne} (h:G≠[]):dic G=.dnt (G.map Bi) (nI (List.range G.length)):=by
 cases G with
 | nil=>exact (h rfl).elim
 | cons _ _=>rfl
theorem Ki (x:Ne):CN x.dv=none:=by cases x<;>rfl
theorem Pp (x:Ne) (G:List Ne):Dl x.dv (dic G)=some (!decide (x∈G)):=by
 have k:=JG x;have k0:=Ki x
 by_cases h:G=[]
 ·subst h;obtain ⟨xs,e⟩:=Fy x;rw [e] at k k0 ⊢;simp only [dic,HV,k,k0,Option.bind_none,nz,nh,if_true,kS];simp
 ·rw [Ff h];obtain ⟨xs,e⟩:=Fy x;have d:=Tz x G;rw [e] at k ⊢;simp only [HV,k,kS,d,if_true]
  by_cases m:x∈G<;>simp [m]
theorem Wz {x:Ne} {G:List Ne} (h:x∈G):AG (dic G) x.dv=some (.int (G.idxOf x:Nat)):=by
 have k:=JG x;have n:G≠[]:=fun z=>by rw [z] at h;cases h
 rw [Ff n];obtain ⟨xs,e⟩:=Fy x;have d:=Tz x G;rw [if_pos h] at d;rw [e] at k ⊢;simp only [AG,k,kS,d]
theorem Wy {x:Ne} {G:List Ne} (h:x∉G) (hl:G.length<=1000000):Aw (dic G) x.dv (.int (G.length:Nat))=some (dic (G++[x])):=by
 have k:=JG x;have k0:=Ki x;have e2:nI (List.range G.length)++[Dv.int (G.length:Nat)]=nI (List.range (G++[x]).length):=by rw [lI,lY,nE,Er];rfl
 by_cases n:G=[]
 ·subst n;obtain ⟨xs,e⟩:=Fy x;rw [e] at k k0;rw [e];simp only [dic,Aw,k,k0,Option.bind_none,nz,nh,if_true,kS];rfl
 ·rw [Ff n,Ff (by simp)];have a:=Sh G x;rw [decide_eq_false h] at a;obtain ⟨xs,e⟩:=Fy x;rw [e] at k;rw [e];simp only [Aw,k,kS,if_pos (show (G.map Bi).length<=1000000 by simpa using hl),LA,Kz,a,kg,if_false,e2];simp
def ob (G:List Ne):Dv:=.obj "Nodes" Wq ["listed", "numbers"] [.lst (eD G),dic G]
theorem fK (G:List Ne):HM (ob G) "listed" = some (.lst (eD G)):=rfl
theorem aw (G:List Ne):HM (ob G) "numbers" = some (dic G):=by
 show (if ("numbers" : Str) == "listed" then some (Dv.lst (eD G)) else if ("numbers" : Str) == "numbers" then some (dic G) else none)=_
 rw [show (("numbers" : Str) == "listed")=false by decide,show (("numbers" : Str) == "numbers")=true by decide];rfl
theorem YV (G:List Ne):CQ (ob G) "listed" = true:=rfl
theorem Sj (G:List Ne):Wo (dic G)=true:=by cases G<;>rfl
theorem YU (G:List Ne):CQ (ob G) "numbers" = true:=by unfold CQ;rw [aw];exact Sj G
def iF (xs:List Dv) (d:Dv):Dv:=.obj "Nodes" Wq ["listed", "numbers"] [.lst xs,d]
theorem fJ (G:List Ne) (d:Dv):Bx (ob G) "numbers" d=iF (eD G) d:=by
 show Dv.obj _ _ _ (if ("numbers" : Str) == "listed" then _ else Dv.lst (eD G)::(if ("numbers" : Str) == "numbers" then _ else _))=_
 rw [show (("numbers" : Str) == "listed")=false by decide,show (("numbers" : Str) == "numbers")=true by decide];rfl
theorem fL (xs:List Dv) (d:Dv):HM (iF xs d) "listed" = some (.lst xs):=rfl
theorem ay (xs:List Dv) (d:Dv):CQ (iF xs d) "listed" = true:=rfl
theorem ax (xs:List Dv) (d y:Dv):Bx (iF xs d) "listed" y=.obj "Nodes" Wq ["listed", "numbers"] [y,d]:=rfl
theorem SJ {G:List Ne} {x:Ne} (hl:G.length<=100000):As (ob G) x.dv=some (.int ((put G x).idxOf x:Nat),ob (put G x)):=by
  have s:BL (ob G) x.dv=some (ob (put G x)):=by
    unfold BL put;simp only [YU,cond_true,aw,kS,Pp]
    by_cases h:x∈G
    · simp [h]
    · have ll:Am (.lst (eD G))=some (.int (G.length:Nat)):=by
        show some (Dv.int ((eD G).length:Nat))=_;rw [Gz]
      simp only [h,decide_false,nM,if_true,YV,cond_true,fK,kS,ll,Wy h (show G.length<=1000000 by omega),fJ,ay,fL,Di,DF (show (eD G).length<=1000000 by rw [Gz];omega),ax,if_false];unfold ob;rw [Tq];rfl
  unfold As;rw [s];simp only [kS,YU,cond_true,aw,Wz (NN G x)]
theorem SM:∀ ps:List Nat,nols (nI ps)=true
 | []=>rfl
 | p::ps=>by show (true && nols (nI ps))=true;rw [SM ps];rfl
theorem az (x:Ne):nol x.dv=true:=by
 cases x with
 | inp k=>rfl
 | fix l=>rfl
 | act l ps=>show (true && (true && (nols (nI ps) && true)))=true;rw [SM];rfl
theorem Nh:∀ (E:List Ne) (o:Nat) (G:List Ne) (ns:List Nat),ns.length=o->cv o E->G.length+E.length<=100000->o+E.length<=100000->Bb Cb (eD E) (ob G,.lst (nI ns))=some (ob (E.foldl Ds (G,ns)).1,.lst (nI (E.foldl Ds (G,ns)).2))
 | [],o,G,ns,_,_,_,_=>rfl
 | x::E,o,G,ns,hn,hw,hg,ho=>by
  rw [ki] at hg ho;have h0:=hw 0 x rfl;have hb:Cb x.dv (ob G,.lst (nI ns))=some (ob (Ds (G,ns) x).1,.lst (nI (Ds (G,ns) x).2)):=by
   have io:Sk (ob G) "Nodes" "number_of" = true:=rfl
   unfold Cb;simp only [Di,io,cond_true,RW (ns:=ns) (x:=x) (fun p hp=>by rw [hn];have:=h0.1 p hp;omega) h0.2,kS,az,SJ (G:=G) (x:=Lu ns x) (by omega),DF (show (nI ns).length<=1000000 by rw [BY];omega)];simp only [Ds,Er];rfl
  have k:=Il (G,ns) x;have ih:=Nh E (o+1) (Ds (G,ns) x).1 (Ds (G,ns) x).2 (by rw [k.2];simp [hn]) hw.tail (by have:=k.1;simp at this ⊢;omega) (by omega);show (Cb x.dv (ob G,.lst (nI ns))).bind (Bb Cb (eD E))=_;rw [hb];exact ih
theorem Sq:∀ (E:List Ne) (o:Nat) (G:List Ne) (ns:List Nat),ns.length=o->cv o E->G.length+E.length<=100000->o+E.length<=100000->Bb Be (eD E) (.lst (eD G),.lst (nI ns))=some (.lst (eD (E.foldl Ds (G,ns)).1),.lst (nI (E.foldl Ds (G,ns)).2))
 | [],o,G,ns,_,_,_,_=>rfl
 | x::E,o,G,ns,hn,hw,hg,ho=>by
  rw [ki] at hg ho;have h0:=hw 0 x rfl;have r1:GH x.dv (.lst (nI ns))=some (Lu ns x).dv:=by
   have h:=fun p hp=>show p < ns.length by rw [hn];have:=h0.1 p hp;omega
   cases x with
   | inp k=>rfl
   | fix l=>rfl
   | act l ps =>
    have e0:AG (Ne.act l ps).dv (.int 0)=some Lf:=rfl;have e1:AG (Ne.act l ps).dv (.int 1)=some (.str l):=rfl;have e2:AG (Ne.act l ps).dv (.int 2)=some (tI ps):=rfl;have ne:QT Lf (.str [100,111])=some true:=rfl;have hp:ps.length<=2:=h0.2;have m:=Gf (g:=GL (.lst (nI ns))) (ns:=ns) (fun p hp=>by unfold GL;rw [iG hp];rfl) ps h;unfold GH;simp only [e0,e1,e2,ne,kS,if_true,Yf];rw [BZ (by rw [BY];omega),m];rfl
  have r2:GG (.lst (eD G)) (Lu ns x).dv=some (.lst (eD (put G (Lu ns x)))):=by
   unfold GG put;simp only [SK,kS]
   by_cases h:Lu ns x∈G
   ·simp [h]
   ·simp only [h,decide_false,nM,if_true,Di,DF (show (eD G).length<=1000000 by rw [Gz];omega),kS,if_false,Tq];rfl
  have r3:GE (Lu ns x).dv (.lst (eD (put G (Lu ns x))))=some (.int ((put G (Lu ns x)).idxOf (Lu ns x):Nat)):=by
   unfold GE;simp only [Di,So (NN G (Lu ns x)),kS,ny]
  have hb:Be x.dv (.lst (eD G),.lst (nI ns))=some (.lst (eD (Ds (G,ns) x).1),.lst (nI (Ds (G,ns) x).2)):=by
   unfold Be;simp only [r1,r2,r3,kS,Di,DF (show (nI ns).length<=1000000 by rw [BY];omega)];simp only [Ds,Er];rfl
  have k:=Il (G,ns) x;have ih:=Sq E (o+1) (Ds (G,ns) x).1 (Ds (G,ns) x).2 (by rw [k.2];simp [hn]) hw.tail (by have:=k.1;simp at this ⊢;omega) (by omega);show (Be x.dv (.lst (eD G),.lst (nI ns))).bind (Bb Be (eD E))=_;rw [hb];exact ih
def fD (E:List Ne):Dv:=.tup [.tup (eD E),.int ((E.length - 1:Nat))]
def Qc (E:List Ne):Prop:=cv 0 E/\0 < E.length/\E.length<=100
def FW (s:List Ne×List Nat) (E:List Ne):List Ne×List Nat:=((E.foldl Ds (s.1,[])).1,s.2++[(E.foldl Ds (s.1,[])).2.getD (E.length - 1) 0])
theorem Im {E:List Ne} (h:Qc E) (s:List Ne×List Nat):(FW s E).1.length<=s.1.length+100/\(FW s E).2.length=s.2.length+1:=by
 have k:=Dr E (s.1,[]);have:=h.2.2;refine ⟨?_,by simp [FW]⟩;show (E.foldl Ds (s.1,[])).1.length<=_;have:=k.1;simp only at this;omega
theorem Ka:∀ (Es:List (List Ne)) (G:List Ne) (ts:List Nat),(∀ E∈Es,Qc E)->G.length+100 * Es.length<=10000->ts.length+Es.length<=10000->Bb Ca (Es.map fD) (ob G,.lst (nI ts))=some (ob (Es.foldl FW (G,ts)).1,.lst (nI (Es.foldl FW (G,ts)).2))
 | [],G,ts,_,_,_=>rfl
 | E::Es,G,ts,h,hg,ht=>by
  rw [ki] at hg ht;have hE:=h E kZ;have i0:AG (fD E) (.int 0)=some (.tup (eD E)):=rfl;have i1:AG (fD E) (.int 1)=some (.int ((E.length - 1:Nat))):=rfl;have it:items (.tup (eD E))=some (eD E):=rfl;have l2:=(Dr E (G,[])).2;simp only [mH,mJ] at l2;have e1:=Nh E 0 G [] rfl hE.1 (by have:=hE.2.2;omega) (by have:=hE.2.2;omega);have e2:AG (.lst (nI (E.foldl Ds (G,[])).2)) (.int ((E.length - 1:Nat)))=some (.int ((E.foldl Ds (G,[])).2.getD (E.length - 1) 0:Nat)):=iG (by rw [l2];have:=hE.2.1;omega);have hb:Ca (fD E) (ob G,.lst (nI ts))=some (ob (FW (G,ts) E).1,.lst (nI (FW (G,ts) E).2)):=by
   unfold Ca;simp only [i0,it,kS];have e1':Bb Cb (eD E) (ob G,.lst [])=_:=e1;rw [e1'];simp only [kS,Di,i1,e2,DF (show (nI ts).length<=1000000 by rw [BY];omega)];simp only [FW,Er];rfl
  have k:=Im hE (G,ts);have ih:=Ka Es (FW (G,ts) E).1 (FW (G,ts) E).2 (fun F hF=>h F (kX _ hF)) (by have:=k.1;simp at this ⊢;omega) (by rw [k.2];simp;omega);show (Ca (fD E) (ob G,.lst (nI ts))).bind (Bb Ca (Es.map fD))=_;rw [hb];exact ih
theorem NS:∀ (Es:List (List Ne)) (G:List Ne) (ts:List Nat),(∀ E∈Es,Qc E)->G.length+100 * Es.length<=10000->ts.length+Es.length<=10000->Bb Bd (Es.map fD) (.lst (eD G),.lst (nI ts))=some (.lst (eD (Es.foldl FW (G,ts)).1),.lst (nI (Es.foldl FW (G,ts)).2))
 | [],G,ts,_,_,_=>rfl
 | E::Es,G,ts,h,hg,ht=>by
  rw [ki] at hg ht;have hE:=h E kZ;have it:items (.tup (eD E))=some (eD E):=rfl;have l2:=(Dr E (G,[])).2;simp only [mH,mJ] at l2;have e1:=Sq E 0 G [] rfl hE.1 (by have:=hE.2.2;omega) (by have:=hE.2.2;omega);have e2:AG (.lst (nI (E.foldl Ds (G,[])).2)) (.int ((E.length - 1:Nat)))=some (.int ((E.foldl Ds (G,[])).2.getD (E.length - 1) 0:Nat)):=iG (by rw [l2];have:=hE.2.1;omega);have hb:Bd (fD E) (.lst (eD G),.lst (nI ts))=some (.lst (eD (FW (G,ts) E).1),.lst (nI (FW (G,ts) E).2)):=by
   unfold Bd fD;rw [Qi];simp only [it,kS];have e1':Bb Be (eD E) (.lst (eD G),.lst [])=_:=e1;rw [e1'];simp only [kS,Di,e2,DF (show (nI ts).length<=1000000 by rw [BY];omega)];simp only [FW,Er];rfl
  have k:=Im hE (G,ts);have ih:=NS Es (FW (G,ts) E).1 (FW (G,ts) E).2 (fun F hF=>h F (kX _ hF)) (by have:=k.1;simp at this ⊢;omega) (by rw [k.2];simp;omega);show (Bd (fD E) (.lst (eD G),.lst (nI ts))).bind (Bb Bd (Es.map fD))=_;rw [hb];exact ih
def Xm (Es:List (List Ne)):Dv:=.tup [.tup (eD (Es.foldl FW ([],[])).1),.tup (nI (Es.foldl FW ([],[])).2)]
theorem Pe:Bg (.obj "Nodes" Wq [] [])=some (.non,ob []):=by
 have h1:Dk (.obj "Nodes" Wq [] []) "listed" (.lst [])=some (.obj "Nodes" Wq ["listed"] [.lst []]):=by rfl
 have h2:Dk (.obj "Nodes" Wq ["listed"] [.lst []]) "numbers" (.dct [] [])=some (ob []):=by rfl
 unfold Bg;rw [h1];simp only [kS,h2]
theorem PU {a:Dv} {Es:List (List Ne)} (ha:items a=some (Es.map fD)) (h:∀ E∈Es,Qc E) (hl:Es.length<=50):KC a=some (Xm Es)/\GP a=some (Xm Es):=by
 have e1:=Ka Es [] [] h (by simp;omega) (by simp;omega);have e2:=NS Es [] [] h (by simp;omega) (by simp;omega);refine ⟨?_,?_⟩
 ·have m1:fS Dv.non [ob []]=fun (k:Dv->Option Dv)=>k (ob []):=rfl
  unfold KC;rw [Pe];simp only [kS,m1,ha];have e1':Bb Ca (Es.map fD) (ob [],.lst [])=_:=e1;rw [e1'];simp only [kS,YV,cond_true,fK,Al];rfl
 ·unfold GP;simp only [ha,kS];have e2':Bb Bd (Es.map fD) (.lst [],.lst [])=_:=e2;rw [e2'];simp only [kS,Al];rfl
theorem Ut (n:Nat) (i:Int):AU (n+1) (.int i) (.int i)=some (.bl true):=by
 have h1:Dc (.int i) (.ty "tuple")=some (.bl false):=rfl
 have h2:Dc (.int i) (.ty "str")=some (.bl false):=rfl
 have h3:Dc (.int i) (.ty "int")=some (.bl true):=rfl
 have h4:Dc (.int i) (.ty "bool")=some (.bl false):=rfl
 have h6:QT (.int i) (.int i)=some true:=by rw [Fg];simp
 unfold AU Hn Ho;simp only [h1,h2,h3,h4,h6,kS,Le,kg,if_false,gn,if_true,nM]
theorem HF (n:Nat) (l:List Nat):AU (n+1) (.str l) (.str l)=some (.bl true):=by
 have h1:Dc (.str l) (.ty "tuple")=some (.bl false):=rfl
 have h2:Dc (.str l) (.ty "str")=some (.bl true):=rfl
 have h6:QT (.str l) (.str l)=some true:=by simp [QT,Mj,Dv.cmp,Dv.dep,R.eqV]
 unfold AU Hq;simp only [h1,h2,h6,kS,Le,kg,if_false,gn,if_true]
theorem Ji:∀ xs:List Dv,zipD2 xs xs=xs.map fun x=>.tup [x,x]
 | []=>rfl
 | x::xs=>by rw [kj,<- Ji xs];rfl
theorem Hh {α:Type}:∀ xs:List α,OR (xs.map fun _=>Dv.bl true)=some (xs.map fun _=>true)
 | []=>rfl
 | x::xs=>by rw [kj,kj];simp only [OR,Hh xs,lQ,kS]
theorem Us {α:Type} (xs:List α):QW (.lst (xs.map fun _=>Dv.bl true))=some (.bl true):=by
 simp only [QW,Hh,lQ];congr 2;simp
theorem FE {n:Nat} {xs:List Dv} (hl:xs.length<=1000000) (h:∀ x∈xs,AU n x x=some (.bl true)):AU (n+1) (.tup xs) (.tup xs)=some (.bl true):=by
 have h1:Dc (.tup xs) (.ty "tuple")=some (.bl true):=rfl
 have l:Am (.tup xs)=some (.int (xs.length:Nat)):=rfl;have h2:Ea (.tup xs) (.tup xs)=some false:=by
  unfold Ea;simp only [h1,l,kS,Le,mL,kg,if_false,Xg,decide_true]
 have z:NI [.tup xs,.tup xs]=some (zipD2 xs xs):=rfl;have m:∀ ys:List Dv,(∀ x∈ys,AU n x x=some (.bl true))->BG (Ef (AU n)) (ys.map fun x=>.tup [x,x])=some (ys.map fun _=>Dv.bl true):=fun ys=>by
  induction ys with
  | nil=>intro _;rfl
  | cons y ys ih =>
   intro hy;simp only [kj,BG,Ef,Qi,hy y kZ,kS,fN,cond_true,ih fun z hz=>hy z (kX _ hz)]
 unfold AU;simp only [h1,kS,Le,if_true,h2,kg,if_false,z];rw [Ji,BZ (by simpa using hl),m xs h];simp only [kS,Us]
theorem ZE (n:Nat) {ts:List Nat} (hl:ts.length<=1000000):AU (n+2) (.tup (nI ts)) (.tup (nI ts))=some (.bl true):=FE (by rw [BY];exact hl) fun x hx=>by
 obtain ⟨t,_,rfl⟩:=mE.mp hx;exact Ut n _
theorem gp (n:Nat) (x:Ne) (h:x.parts.length<=1000):AU (n+3) x.dv x.dv=some (.bl true):=by
 cases x with
 | inp k =>
  refine FE (by simp) fun y hy=>?_
  simp only [kh,lV,or_false] at hy;rcases hy with rfl | rfl
  ·exact HF _ _
  ·exact Ut _ _
 | fix l =>
  refine FE (by simp) fun y hy=>?_
  simp only [kh,lV,or_false] at hy;rcases hy with rfl | rfl
  ·exact HF _ _
  ·exact HF _ _
 | act l ps =>
  refine FE (by simp) fun y hy=>?_
  simp only [kh,lV,or_false] at hy;rcases hy with rfl | rfl | rfl
  ·exact HF _ _
  ·exact HF _ _
  ·exact ZE n (show ps.length<=1000000 by have:ps.length<=1000:=h;omega)
def cx (G:List Ne):Prop:=∀ x∈G,x.parts.length<=2
theorem Vm {ns:List Nat} {x:Ne} (h:x.parts.length<=2):(Lu ns x).parts.length<=2:=by
 cases x with
 | inp k=>exact h
 | fix l=>exact h
 | act l ps=>show (ps.map _).length<=2;rw [lK];exact h
theorem Vs {G:List Ne} {x:Ne} (h:cx G) (hx:x.parts.length<=2):cx (put G x):=by
 unfold put;split
 ·exact h
 ·intro y hy;rcases lC.mp hy with hy | hy
  ·exact h y hy
  ·rw [lJ] at hy;subst hy;exact hx
theorem Jt:∀ (E:List Ne) (s:List Ne×List Nat),cx s.1->(∀ x∈E,x.parts.length<=2)->cx (E.foldl Ds s).1
 | [],s,h,_=>h
 | x::E,s,h,hE=>Jt E (Ds s x) (Vs h (Vm (hE x kZ))) fun y hy=>hE y (kX _ hy)
theorem Qc.few {E:List Ne} (h:Qc E):∀ x∈E,x.parts.length<=2:=fun x hx=>by
 obtain ⟨i,hi⟩:=mi hx;exact (h.1 i x hi).2
theorem Jw:∀ (Es:List (List Ne)) (s:List Ne×List Nat),cx s.1->(∀ E∈Es,Qc E)->cx (Es.foldl FW s).1
 | [],s,h,_=>h
 | E::Es,s,h,hE=>Jw Es (FW s E) (Jt E (s.1,[]) h (hE E kZ).few) fun F hF=>hE F (kX _ hF)
theorem Jv:∀ (Es:List (List Ne)) (s:List Ne×List Nat),(∀ E∈Es,Qc E)->(Es.foldl FW s).1.length<=s.1.length+100 * Es.length/\(Es.foldl FW s).2.length=s.2.length+Es.length
 | [],s,_=>⟨by simp,by simp⟩
 | E::Es,s,h=>by
  have k:=Im (h E kZ) s;have ih:=Jv Es (FW s E) fun F hF=>h F (kX _ hF)
  rw [mn,ki];omega
theorem cX {Es:List (List Ne)} (h:∀ E∈Es,Qc E) (hl:Es.length<=50):FZ (Xm Es) (Xm Es)=some (.bl true):=by
 have k:=Jv Es ([],[]) h;simp only [mH,mJ] at k;have fw:=Jw Es ([],[]) (fun _ z=>by cases z) h;rw [Gq];refine FE (by simp) fun y hy=>?_
 simp only [kh,lV,or_false] at hy;rcases hy with rfl | rfl
 ·refine FE (by rw [Gz];omega) fun z hz=>?_
  obtain ⟨x,hx,rfl⟩:=mE.mp hz;exact gp 7 x (by have:=fw x hx;omega)
 ·exact ZE 9 (by omega)
theorem Qn {a:Dv} {Es:List (List Ne)} (ha:items a=some (Es.map fD)) (h:∀ E∈Es,Qc E) (hl:Es.length<=50):Eg a ()=some (.go ()):=by
 obtain ⟨e1,e2⟩:=PU ha h hl;unfold Eg;simp only [e1,e2,cX h hl,kS,fN,cond_true,Le,mL,kg,if_false]
def FR (d:Dv):Prop:=∃ E,d=fD E/\Qc E
theorem frs:∀ {xs:List Dv},(∀ d∈xs,FR d)->∃ Es:List (List Ne),xs=Es.map fD/\∀ E∈Es,Qc E
 | [],_=>⟨[],rfl,fun _ z=>by cases z⟩
 | x::xs,h=>by
  obtain ⟨Es,e,h2⟩:=frs (xs:=xs) fun d hd=>h d (kX _ hd)
  obtain ⟨E,e1,h1⟩:=h x kZ;refine ⟨E::Es,by rw [e,e1];rfl,fun F hF=>?_⟩;rcases kh.mp hF with rfl | hF
  ·exact h1
  ·exact h2 F hF
theorem fm {I:Nat} {fs ds:List Dv} {x:Dv} (h:hG I fs ds x):FR x:=by
 obtain ⟨F,rfl,ok,_,f0,fl⟩:=h;obtain ⟨E,e,w⟩:=SN F 0 (fun i x hx=>by rw [mJ];exact ok i x hx);have l:E.length=F.length:=by have:=congrArg List.length e;rw [Gz,Et] at this;exact this
 exact ⟨E,by unfold fD;rw [e,l],fun i x hx=>w i x hx,by omega,by omega⟩
theorem dC (ns:List Int) (k:Nat):Iu (.scr ns) (.int (k:Nat)) ()=some (.go ()):=by
 obtain ⟨f0,e0,hf0⟩:=Pk (ns:=ns) (k:=k);obtain ⟨fs,ds,f1,e1,hfl,hfs,hdl,hds,_,hf1⟩:=Ll hf0;obtain ⟨r2,f2,e2,b2,hf2⟩:=AK hf1 (n:=4) (by decide) (by decide);obtain ⟨r3,f3,e3,b3,hf3⟩:=AK hf2 (n:=4) (by decide) (by decide);have oa:Ax (.int 1) (.int (r3:Nat))=some (.int ((1+r3:Nat))):=by rw [CY];congr 1
 have rg:=Zr (1+r3) (by omega);obtain ⟨xs,f4,e4,l4,h4,hf4⟩:=DT (Ln (.tup [.tup fs,.tup ds]) (.int (r2:Nat))) Fd FR ((List.range (1+r3)).map fun k=>.int (k:Nat)) f3 hf3 fun x _ c hc=>by
  obtain ⟨y,f',e,hy,hf'⟩:=Pi (I:=if fs.length=0 then max r2 1 else r2) (I0:=r2) hfs hds (by omega) hc (by omega) (by split<;>omega) (fun z=>by rw [if_pos z]) (fun z=>by rw [if_neg z]) (many:=10) (by decide) (by decide);refine ⟨y,f',?_,fm hy,hf'⟩;have e':Ei c (.tup [.tup fs,.tup ds]) (.int (r2:Nat)) (.int 10)=some (y,f'):=e;unfold Ln;simp only [e',kS]
 have l4':xs.length=1+r3:=by rw [l4];simp
 have fin:∃ ys f',Lj xs f4=some (f',.lst ys)/\(∀ d∈ys,FR d)/\ys.length<=10:=by
  obtain ⟨r5,f5,e5,b5,hf5⟩:=AK hf4 (n:=3) (by decide) (by decide);unfold Lj;simp only [e5,kS,Fg]
  by_cases z:((r5:Nat):Int)=0
  ·have ll:Am (.lst xs)=some (.int (xs.length:Nat)):=rfl;obtain ⟨r6,f6,e6,b6,hf6⟩:=AK hf5 (n:=((xs.length:Nat):Int)) (by omega) (by omega);obtain ⟨y,hy,ey⟩:=VB (xs:=xs) (i:=r6) (by omega) b6;simp only [z,decide_true,if_true,Di,ll,kS,e6,ey,DF (show xs.length<=1000000 by omega)];refine ⟨_,_,rfl,fun d hd=>?_,by simp;omega⟩;rcases lC.mp hd with hd | hd
   ·exact h4 d hd
   ·rw [lJ] at hd;rw [hd];exact h4 y hy
  ·simp only [z,decide_false,kg,if_false];exact ⟨_,_,rfl,h4,by omega⟩
 obtain ⟨ys,f5,e5,h5,l5⟩:=fin;obtain ⟨Es,rfl,hE⟩:=frs h5;have lE:Es.length<=10:=by simpa using l5
 have ng:FU (.int 1)=some (.int (-1)):=rfl;have rv:HG (.lst (Es.map fD)) (.int (-1))=some (.lst (Es.map fD).reverse):=rfl;have it:items (.tup [.lst (Es.map fD),.lst (Es.map fD).reverse,.tup (Es.map fD)])=some [.lst (Es.map fD),.lst (Es.map fD).reverse,.tup (Es.map fD)]:=rfl;have t1:Eg (.lst (Es.map fD)) ()=some (.go ()):=Qn rfl hE (by omega);have t2:Eg (.lst (Es.map fD).reverse) ()=some (.go ()):=Qn (Es:=Es.reverse) (by rw [<- List.map_reverse];rfl) (fun E h=>hE E (List.mem_reverse.mp h)) (by rw [mm];omega);have t3:Eg (.tup (Es.map fD)) ()=some (.go ()):=Qn rfl hE (by omega);have e2':AV f1 (.int 4)=some (.int (r2:Nat),f2):=e2;have e3':AV f2 (.int 4)=some (.int (r3:Nat),f3):=e3;unfold Iu;simp only [e0,e1,e2',e3',oa,rg,kS];rw [BZ (by simp;omega),e4];simp only [kS,e5,ng,rv,Al,it,Kn,t1,t2,t3,Rs.el]
theorem Se (ns:List Int) (h:ns.length<=63):one Vi [Dv.scr ns]=some (Dv.bl true):=by
 show Vi (.scr ns)=_;have sl:LQ (.scr ns) (some 1) (some 7)=some (.lst ((cutA ns (some 1) (some 7)).map Dv.int)):=rfl;have ll:Am (.lst ((cutA ns (some 1) (some 7)).map Dv.int))=some (.int ((cutA ns (some 1) (some 7)).length:Nat)):=by
  show some (Dv.int (((cutA ns (some 1) (some 7)).map Dv.int).length:Nat))=_;rw [lK]
 have hl:=JS ns (some 1) (some 7);generalize (cutA ns (some 1) (some 7)).length=L at ll hl;have sm:(R.small 1 && R.small (2+(L:Nat)))=true:=by
  unfold R.small;simp only [dL,decide_eq_true_eq];omega
 have rg:Oh [.int 1,.int (2+(L:Nat))]=some ((List.range (2+(L:Int) - 1).toNat).map fun k=>.int (1+(k:Nat))):=by
  simp only [Oh,sm,cond_true]
 unfold Vi;simp only [sl,ll,CY,rg,kS];rw [Nq (Iu (.scr ns)) () _ fun x hx=>?_]
 ·rfl
 ·obtain ⟨k,_,rfl⟩:=mE.mp hx;have:=dC ns (1+k);rw [show ((1+k:Nat):Int)=1+(k:Int) by omega] at this;exact this
theorem LN:HL "__init__" "Nodes.__init__" (PJ 2 0):=Xf (by kernel_rfl) (by intros;kernel_rfl)
theorem FT:HL "number_of" "Nodes.number_of" (PJ 2 1):=Mi (by kernel_rfl) (by intros;kernel_rfl)
theorem JX:Cn "renumbered" (top 3):=Mi (by kernel_rfl) (by intros;kernel_rfl)
theorem cS:Cn "laid" (top 5):=Xf (by kernel_rfl) (by intros;kernel_rfl)
theorem Xd:Cn "_law_feed" (top 7):=Mi (by kernel_rfl) (by intros;kernel_rfl)
theorem Xa:Cn "_law_take" (top 8):=Mi (by kernel_rfl) (by intros;kernel_rfl)
theorem Up:Cn "_law_names" (top 9):=Mi (by kernel_rfl) (by intros;kernel_rfl)
theorem Uo:Cn "_law_shape" (top 10):=Xf (by kernel_rfl) (by intros;kernel_rfl)
theorem Mh:Cn "_law_ordered" (top 11):=Mi (by kernel_rfl) (by intros;kernel_rfl)
theorem Xc:Cn "_law_form" (top 12):=jH (by kernel_rfl) (by intros;kernel_rfl)
theorem Uq:Cn "_law_alike" (top 13):=Mi (by kernel_rfl) (by intros;kernel_rfl)
theorem Xb:Cn "_law_laid" (top 14):=Xf (by kernel_rfl) (by intros;kernel_rfl)
theorem all_mk {l:W.OpenLaw} {w:World} {K:W.Frag} {h:Heap} {mg:Str->Option Value} {fa:Addr} (X:K.In h) (G:h.Ns mainGlobals mg) (hfa:mg "law" = some (.ref fa)) (hz:md.bl.all (MB K)=true)
    (hsNodesInit:GM K "Nodes" "Nodes.__init__" "__init__" (PJ 2 0))
    (hsNodesNumberOf:GM K "Nodes" "Nodes.number_of" "number_of" (PJ 2 1))
    (hsRenumbered:GF K "renumbered" (top 3))
    (hsLaid:GF K "laid" (top 5))
    (hsLFeed:GF K "_law_feed" (top 7))
    (hsLTake:GF K "_law_take" (top 8))
    (hsLNames:GF K "_law_names" (top 9))
    (hsLShape:GF K "_law_shape" (top 10))
    (hsLOrdered:GF K "_law_ordered" (top 11))
    (hsLForm:GF K "_law_form" (top 12))
    (hsLAlike:GF K "_law_alike" (top 13))
    (hsLLaid:GF K "_law_laid" (top 14))
    (hsLaw:GF K "law" (top 15))
    (hCNodes:GC K "Nodes" md.fl)
    : ∃ fd:FuncData,(∀ (s:Shared) (v:Value),BindsTo s fd ⟨[v],[]⟩ [("_law_script", v)])/\∀ base:Heap,K.In base->base.Ns mainGlobals mg->FnOk l.prog w K mg base Mp 27 fa fd ["_law_script"] (NF K):=by
  have e:=hfa.symm.trans (W.mg_of X G hsLaw.1);cases e;have b:Bs md K mg:=gi X G rfl hz
  refine ⟨W.fnOf "law" "law" (Ak (top 15)) (AY (top 15)) (AH (top 15)) .none .none .none (WG K (CU K "law")) none (Py K (CU K "law")) .none,fun s v=>.of_eq rfl,fun base _ _=>?_⟩
  have f0:Fs l.prog w K mg base md.fl 0 iH:=Fs.nil;have f1:=f0.defM (nb:=true) b LF Ku hsNodesInit hCNodes (W.mg_of X G hCNodes.1) LN;have f2:=f1.defM (nb:=false) b FS FQ hsNodesNumberOf hCNodes (W.mg_of X G hCNodes.1) FT;have f3:=f2.def (nb:=true) b JT JP hsRenumbered (W.mg_of X G hsRenumbered.1) JX;have f4:=f3.def (nb:=false) b bt bj hsLaid (W.mg_of X G hsLaid.1) cS;have f5:=f4.def (nb:=false) b XD Wv hsLFeed (W.mg_of X G hsLFeed.1) Xd;have f6:=f5.def (nb:=false) b XA Ws hsLTake (W.mg_of X G hsLTake.1) Xa;have f7:=f6.def (nb:=false) b UC Tf hsLNames (W.mg_of X G hsLNames.1) Up;have f8:=f7.def (nb:=false) b UB Te hsLShape (W.mg_of X G hsLShape.1) Uo;have f9:=f8.def (nb:=false) b Ma MV hsLOrdered (W.mg_of X G hsLOrdered.1) Mh;have f10:=f9.def (nb:=false) b XC Wu hsLForm (W.mg_of X G hsLForm.1) Xc;have f11:Fs l.prog w K mg base md.fl 25 TF:=by unfold TF;rw [Gq];exact f10.defR (io:=[]) (F:=fun n=>two (AU n)) b (by kernel_rfl) (fun ds=>iP ds) UD Th hsLAlike (W.mg_of X G hsLAlike.1) Uq 12
  have f12:=f11.def (nb:=false) b XB Wt hsLLaid (W.mg_of X G hsLLaid.1) Xb
  have hp:AE (top 15)=(["_law_script"]:List Str):=by kernel_rfl
  have r:=bL (ps:=AE (top 15)) (nb:=true) (by rw [hp];rfl) (JQ b f12 gN gI (MR hsLaw)) Se;rw [hp] at r;exact r
theorem walk {l:W.OpenLaw} {q:Program} {loose:List Str} {XP:(Str->Option Value)->Heap->Prop} {YP:World->Heap->Prop} {d:DefRec} {K:Params->W.Frag} (hn:l.most=some 63) (hdf:d.params.defaults=[])
    (hY:∀ (w:World) (h:Heap),YP w h->(K w.params).In h)
    (F:∀ (w:World) (mg:Str->Option Value) (fa:Addr) (h:Heap),(K w.params).In h->h.Ns mainGlobals mg->mg d.name=some (.ref fa) ->
      ∃ fd:FuncData,(∀ (s:Shared) (u:Value),BindsTo s fd ⟨[u],[]⟩ [("_law_script", u)])/\∀ base:Heap,(K w.params).In base->base.Ns mainGlobals mg->FnOk l.prog w (K w.params) mg base Mp 27 fa fd ["_law_script"] (NF (K w.params))) :
    W.WalkO q loose XP YP l.row.toRowW d [] (fun f vs=>PySem.call f vs):=
  L2.walk_of (n:=63) (k:=27) (x := "_law_script") (CX:=fun _=>Mp) (sp:=fun w=>NF (K w.params)) hn (by decide) hdf ⟨rfl,by decide,by decide,rfl⟩ hY F (fun _ _ a ns hl hO hS=>⟨a,ns,rfl,hS,hl,hO,fun _=>rfl⟩) fun _ _ _ _ _ z=>z
abbrev fO (i:Nat) (x:Str) (pm:Value) (cd:Addr):Obj:=⟨.type "function", none,.func (W.fnOf x x (Ak (top i)) (AY (top i)) (AH (top i)) .none .none .none pm none (.ref cd) .none),#[]⟩
abbrev jh (i j:Nat) (x q:Str) (pm:Value) (cd:Addr):Obj:=⟨.type "function", none,.func (W.fnOf x q (Ak (PJ i j)) (AY (PJ i j)) (AH (PJ i j)) .none .none .none pm none (.ref cd) .none),#[]⟩
noncomputable def KP (P:Params):W.Frag:=[
(3,⟨.type "dict", none,.dict #[ke P "__name__" 165 (.str "law_shapefree_k35_forms_laid_together" 270),ke P "__doc__" 166 .none,ke P "__package__" 167 .none,ke P "__loader__" 168 (.builtin "__main__.__loader__#opaque"),ke P "__spec__" 169 .none,ke P "__annotations__" 170 (.ref 6),ke P "__builtins__" 171 (.ref 4),ke P "__file__" 173 (.str "/claim/cut.py" 172),ke P "__cached__" 174 .none,ke P "_wall" 193 (.ref 21),ke P "Nodes" 249 (.ref 59),ke P "renumbered" 255 (.ref 68),ke P "laid" 269 (.ref 75),ke P "_law_feed" 281 (.ref 82),ke P "_law_take" 291 (.ref 89),ke P "_law_names" 297 (.ref 94),ke P "_law_shape" 303 (.ref 99),ke P "_law_ordered" 309 (.ref 104),ke P "_law_form" 315 (.ref 109),ke P "_law_alike" 321 (.ref 114),ke P "_law_laid" 327 (.ref 119),ke P "law" 333 (.ref 124)] 22,#[]⟩),
(21,fO 0 "_wall" (.str "__main__" 164) 20),
(20,cO "_wall" 187 1 1 3 15 16 .none (.ref 17) (.ref 18) 19 191),
(35,jh 2 0 "__init__" "Nodes.__init__" (.str "shapefree.nodes" 194) 34),
(34,⟨.type "code", none,.fields #[.str "__init__" 208,.str "Nodes.__init__" 209,.str "/claim/cut.py" 210,.int 7 0,.int 1 0,.int 0 0,.int 0 0,.int 3 0,.ref 29,.bool true,.int 181 0,.ref 30,.none,.ref 31,.ref 32,.ref 33,.int 212 0,.int 7 0,.str "/claim/cut.py" 213],#[]⟩),
(42,jh 2 1 "number_of" "Nodes.number_of" (.str "shapefree.nodes" 194) 41),
(41,⟨.type "code", none,.fields #[.str "number_of" 215,.str "Nodes.number_of" 216,.str "/claim/cut.py" 217,.int 11 0,.int 2 0,.int 0 0,.int 0 0,.int 3 0,.ref 36,.bool true,.int 181 0,.ref 37,.none,.ref 38,.ref 39,.ref 40,.int 220 0,.int 11 0,.str "/claim/cut.py" 221],#[]⟩),
(68,fO 3 "renumbered" (.str "shapefree.nodes" 194) 67),
(67,cO "renumbered" 250 22 2 3 64 65 .none .none .none 66 253),
(75,fO 5 "laid" (.str "shapefree.alike" 256) 74),
(74,cO "laid" 258 27 1 3 69 70 .none (.ref 71) (.ref 72) 73 267),
(82,fO 7 "_law_feed" (.str "law_shapefree_k35_forms_laid_together" 270) 81),
(81,cO "_law_feed" 272 37 2 3 76 77 .none (.ref 78) (.ref 79) 80 279),
(89,fO 8 "_law_take" (.str "law_shapefree_k35_forms_laid_together" 270) 88),
(88,cO "_law_take" 282 47 2 3 83 84 .none (.ref 85) (.ref 86) 87 289),
(94,fO 9 "_law_names" (.str "law_shapefree_k35_forms_laid_together" 270) 93),
(93,cO "_law_names" 292 55 2 3 90 91 .none .none .none 92 295),
(99,fO 10 "_law_shape" (.str "law_shapefree_k35_forms_laid_together" 270) 98),
(98,cO "_law_shape" 298 70 1 3 95 96 .none .none .none 97 301),
(104,fO 11 "_law_ordered" (.str "law_shapefree_k35_forms_laid_together" 270) 103),
(103,cO "_law_ordered" 304 76 2 3 100 101 .none .none .none 102 307),
(109,fO 12 "_law_form" (.str "law_shapefree_k35_forms_laid_together" 270) 108),
(108,cO "_law_form" 310 95 4 3 105 106 .none .none .none 107 313),
(114,fO 13 "_law_alike" (.str "law_shapefree_k35_forms_laid_together" 270) 113),
(113,cO "_law_alike" 316 108 2 3 110 111 .none .none .none 112 319),
(119,fO 14 "_law_laid" (.str "law_shapefree_k35_forms_laid_together" 270) 118),
(118,cO "_law_laid" 322 116 1 3 115 116 .none .none .none 117 325),
(124,fO 15 "law" (.str "law_shapefree_k35_forms_laid_together" 270) 123),
(123,cO "law" 328 129 1 3 120 121 .none .none .none 122 331),
(59,⟨.type "type", none,.cls ⟨"Nodes", [.type "object"],[.ref 59,.type "object"],58, "Nodes", true,[],[],false,none,false⟩,#[none,none,some (.str "Nodes" 196),some (.str "Nodes" 204),some (.builtin "object.__new__"),some (.bool true)]⟩),
(58,⟨.type "dict", none,.dict #[ke P "__module__" 203 (.str "shapefree.nodes" 194),ke P "__firstlineno__" 207 (.int 5 206),ke P "__init__" 214 (.ref 35),ke P "number_of" 222 (.ref 42),ke P "fixed_thing" 230 (.ref 49),ke P "done_thing" 239 (.ref 56),ke P "__static_attributes__" 242 (.ref 57),ke P "__dict__" 244 (.ref 60),ke P "__weakref__" 246 (.ref 61),ke P "__doc__" 247 .none] 4,#[]⟩)]
def dLaw:DefRec:=⟨"law", Ak (top 15),AY (top 15),AH (top 15),bq (top 15)⟩
theorem top_left:Xx PySem.Challenge.rw_shapefree_k35_forms_laid_together 16 [3,21,20,35,34,42,41,68,67,75,74,82,81,89,88,94,93,99,98,104,103,109,108,114,113,119,118,124,123,59,58] KP 1488:=fun w=>by kernel_rfl
theorem top_said:PySem.Challenge.rw_shapefree_k35_forms_laid_together.wellSaid=true:=by decide +kernel
end My
set_option maxHeartbeats 1000000
set_option maxHeartbeats 1000000
set_option maxHeartbeats 1000000
set_option maxHeartbeats 1000000
set_option maxHeartbeats 1000000
set_option maxHeartbeats 1000000
set_option maxHeartbeats 1000000
set_option maxHeartbeats 1000000
set_option maxHeartbeats 1000000
open PySem PySem.W PyProof.Rows
set_option maxRecDepth 100000 in
set_option maxHeartbeats 0 in
theorem PySem.Challenge.cw_shapefree_k35_forms_laid_together_holds : PySem.Challenge.rw_shapefree_k35_forms_laid_together.Holds := by
  refine L2.mk_law (d:=My.dLaw) My.top_said My.top_left (fun P=>by kernel_rfl) (by kernel_rfl) (by kernel_rfl) (by kernel_rfl) (by kernel_rfl) (by kernel_rfl) (by decide +kernel) ⟨rfl,rfl,rfl,rfl,rfl,by decide +kernel⟩ (by w_witness2) ?call
  refine My.walk (l:=PySem.Challenge.rw_shapefree_k35_forms_laid_together) (d:=My.dLaw) (K:=My.KP) rfl (by kernel_rfl) (fun w h Y=>Y) fun w mg fa h KX G hmg=>My.all_mk KX G hmg (by kernel_rfl) (by and_intros<;>kernel_rfl) (by and_intros<;>kernel_rfl) (by and_intros<;>kernel_rfl) (by and_intros<;>kernel_rfl) (by and_intros<;>kernel_rfl) (by and_intros<;>kernel_rfl) (by and_intros<;>kernel_rfl) (by and_intros<;>kernel_rfl) (by and_intros<;>kernel_rfl) (by and_intros<;>kernel_rfl) (by and_intros<;>kernel_rfl) (by and_intros<;>kernel_rfl) (by and_intros<;>kernel_rfl) (by and_intros<;>kernel_rfl)
