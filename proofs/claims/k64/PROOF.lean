import PyProof.Rows.All
import Wide.All
import OpenK.AllK
import Wide.FinOn
import PyProof.ZipIter
import PyProof.EnumMake
import PyProof.Draws
import KE.KRevIter
import PyProof.ListRange
import PyProof.CollectStr
import PyProof.ListMulRoad
import PyProof.Rows.SortShell
import PyProof.StrLawsIn
import Lean
import PyProof.EqAt
import PyProof.EqKinds
import PyProof.TupleCall
import PySem.Challenge.RW_shapefree_k64_whole_values_along_moves
noncomputable section
set_option Elab.async false
set_option linter.all false
set_option maxRecDepth 100000
set_option maxHeartbeats 4000000
abbrev dL:=@Option.bind_some
abbrev lx:=@PySem.Heap.get?_push_of_some
abbrev ly:=@Bool.and_eq_true
abbrev lz:=@List.getElem?_eq_getElem
abbrev mB:=@List.getElem?_eq_some_iff
abbrev mC:=@List.mem_cons_self
abbrev mD:=@List.size_toArray
abbrev mE:=@List.mem_cons_of_mem
abbrev mF:=@Nat.le_refl
abbrev mG:=@List.mem_append_right
abbrev mH:=@List.getElem?_append_left
abbrev mI:=@Bool.false_eq_true
abbrev mJ:=@List.map_cons
abbrev mK:=@PySem.Heap.get?_push_size
abbrev mL:=@List.mem_cons
abbrev mM:=@List.contains_iff_mem
abbrev mN:=@List.mem_append_left
abbrev mO:=@PySem.Heap.lt_size
abbrev mP:=@Nat.lt_of_lt_of_le
abbrev mQ:=@Nat.le_trans
abbrev mR:=@List.getElem?_map
abbrev mS:=@List.length_cons
abbrev mT:=@Bool.false_ne_true
abbrev mU:=@List.mem_append
abbrev mV:=@List.length_append
abbrev mW:=@List.all_eq_true
abbrev mX:=@List.length_map
abbrev mY:=@List.mem_singleton
abbrev mZ:=@List.getD_eq_getElem?_getD
abbrev ma:=@List.length_set
abbrev me:=@List.getElem?_append_right
abbrev mf:=@List.getElem?_set_ne
abbrev mh:=@Nat.ne_of_lt
abbrev mi:=@PyProof.Rows.callWith_type1
abbrev mj:=@Option.map_some
abbrev ml:=@List.getElem?_set_self
abbrev mm:=@PyProof.Rows.slot_tuple_getitem
abbrev mn:=@PySem.Heap.size_push
abbrev mq:=@List.eq_nil_of_length_eq_zero
abbrev mr:=@List.mem_map
abbrev mw:=@PySem.mem_of_lookup
abbrev my:=@Bool.and_self
abbrev mz:=@List.not_mem_nil
abbrev nA:=@List.lookup_cons
abbrev nB:=@List.append_assoc
abbrev nC:=@List.all_cons
abbrev nE:=@List.getElem?_eq_none
abbrev nF:=@Option.map_eq_some_iff
abbrev nG:=@Nat.zero_le
abbrev nK:=@PySem.Heap.get?_update_self
abbrev nL:=@List.mem_filter
abbrev nM:=@List.find?_some
abbrev nN:=@List.length_singleton
abbrev nO:=@List.append_nil
abbrev nP:=@Nat.sub_self
abbrev nQ:=@List.replicate_succ
abbrev nR:=@Nat.lt_irrefl
abbrev nS:=@List.map_map
abbrev nT:=@List.filter_append
abbrev nU:=@List.any_cons
abbrev nV:=@List.mem_of_getElem?
abbrev nW:=@Bool.and_eq_true_iff
abbrev nX:=@List.flatMap_cons
abbrev nY:=@Bool.not_eq_true'
abbrev nZ:=@Nat.lt_or_ge
abbrev nc:=@List.map_congr_left
abbrev nh:=@List.getElem?_range
abbrev nk:=@List.filterMap_cons
abbrev nr:=@List.length_take
abbrev nu:=@List.getElem_mem
abbrev ny:=@List.mem_range
abbrev nz:=@PySem.Heap.get?_update_other
abbrev oA:=@List.zip_cons_cons
abbrev oB:=@List.lookup_append
abbrev oC:=@List.flatten_cons
abbrev oD:=@Int.toNat_natCast
abbrev oE:=@List.pairwise_iff_getElem
abbrev oF:=@Option.isSome_iff_exists
abbrev oG:=@Nat.zero_add
abbrev oH:=@Option.bind_eq_some_iff
abbrev oI:=@List.forIn_cons
abbrev oJ:=@List.foldl_cons
abbrev oK:=@List.find?_cons
abbrev oM:=@Bool.not_true
abbrev oN:=@List.range_succ_eq_map
abbrev oO:=@List.length_range
abbrev oP:=@List.map_nil
abbrev oQ:=@List.length_filter_le
abbrev oR:=@Bool.true_or
abbrev oS:=@Bool.false_or
abbrev oT:=@Nat.le_succ
abbrev oU:=@List.nodup_cons
abbrev oV:=@List.length_reverse
abbrev oW:=@Nat.ne_of_gt
abbrev oX:=@Nat.lt_of_le_of_lt
abbrev oY:=@List.getElem_range
abbrev oZ:=@List.forIn_nil
abbrev og:=@List.drop_eq_getElem_cons
abbrev oh:=@List.mem_singleton_self
abbrev oi:=@List.filter_cons_of_pos
abbrev oj:=@List.zipIdx_cons
abbrev om:=@List.mem_flatMap
abbrev oo:=@List.length_drop
abbrev oq:=@List.getElem_inj
abbrev ot:=@List.length_eq_one_iff
abbrev ou:=@Nat.sub_eq_zero_of_le
abbrev ow:=@List.zipIdx_nil
abbrev ox:=@List.singleton_append
abbrev oy:=@Int.emod_nonneg
abbrev oz:=@List.getElem?_of_mem
abbrev pA:=@List.getElem_of_mem
abbrev pB:=@List.filterMap_map
abbrev pC:=@Int.emod_lt_of_pos
abbrev pE:=@Bool.true_and
abbrev pF:=@Option.isSome_map
abbrev pG:=@List.reverse_cons
abbrev pH:=@List.eraseIdxIfInBounds_toArray
abbrev pI:=@PySem.Heap.get?_push_ne
abbrev pJ:=@Nat.min_self
abbrev pK:=@Bool.or_true
abbrev pL:=@Nat.lt_succ_self
abbrev pM:=@List.range'_succ
abbrev pN:=@List.any_eq_true
abbrev pO:=@Bool.not_eq_true
abbrev pP:=@List.range_succ
abbrev pQ:=@List.of_mem_zip
abbrev pR:=@List.nil_append
abbrev pS:=@List.map_append
abbrev pT:=@Bool.or_eq_true
abbrev pU:=@List.nodup_iff_pairwise_ne
abbrev pV:=@List.mem_or_eq_of_mem_set
abbrev pW:=@List.mem_of_find?_eq_some
abbrev pX:=@Bool.and_false
abbrev pY:=@List.idxOf_lt_length_iff
abbrev pZ:=@List.getElem?_take_of_lt
abbrev pb:=@List.not_all_eq_any_not
abbrev pd:=@List.map_take
abbrev pe:=@List.map_drop
abbrev pf:=@List.getElem?_replicate
abbrev ph:=@List.getElem?_cons_succ
abbrev pj:=@List.filter_cons_of_neg
namespace L2
open PySem PySem.Spec PyProof.Rows
noncomputable abbrev BE:=Sum Int Str
def JK:BE->Value->Bool
 | .inl k,v=>Value.isInt k v
 | .inr x,v=>Value.isStrOf x v
def ju (w:World):BE->Int
 | .inl k=>hashInt k
 | .inr x=>hashStr w x
theorem An:∀ {k:BE} {v:Value},JK k v=true->(∃ i t,k=Sum.inl i/\v=Value.int i t)\/(∃ x t,k=Sum.inr x/\v=Value.str x t)
 | .inl i,v,h=>by
  obtain ⟨t,e⟩:=Value.isInt_shape (k:=i) (v:=v) h;exact .inl ⟨i,t,rfl,e⟩
 | .inr x,v,h=>by
  obtain ⟨t,e⟩:=Value.isStrOf_shape (x:=x) (v:=v) h;exact .inr ⟨x,t,rfl,e⟩
theorem Qn (i:Int) (t:Tok):JK (.inl i) (.int i t)=true:=by simp [JK,Value.isInt]
theorem Qm (x:Str) (t:Tok):JK (.inr x) (.str x t)=true:=by simp [JK,Value.isStrOf]
theorem cJ (a b:Int):decide ((Sum.inl a:BE)=Sum.inl b)=(a == b):=by
 by_cases e:a=b
 ·subst e;simp
 ·have h:¬ (Sum.inl a:BE)=Sum.inl b:=fun q=>e (Sum.inl.inj q)
  rw [decide_eq_false h];exact (beq_eq_false_iff_ne.mpr e).symm
theorem cF (a b:Str):decide ((Sum.inr a:BE)=Sum.inr b)=decide (a=b):=by
 by_cases e:a=b
 ·subst e;simp
 ·have h:¬ (Sum.inr a:BE)=Sum.inr b:=fun q=>e (Sum.inr.inj q)
  rw [decide_eq_false h,decide_eq_false e]
theorem cI (a:Int) (b:Str):decide ((Sum.inl a:BE)=Sum.inr b)=false:=decide_eq_false (fun q=>nomatch q)
theorem cH (a:Str) (b:Int):decide ((Sum.inr a:BE)=Sum.inl b)=false:=decide_eq_false (fun q=>nomatch q)
def BG (prog:Program) (w:World):PySem.KeyKind prog w BE where
 is:=JK
 hash:=ju w
 inj:=fun v a b ha hb=>by
  rcases An ha with ⟨i,t,rfl,rfl⟩ | ⟨x,t,rfl,rfl⟩
  ·rcases An hb with ⟨j,u,rfl,e⟩ | ⟨y,u,rfl,e⟩
   ·injection e with e1 _;rw [e1]
   ·exact nomatch e
  ·rcases An hb with ⟨j,u,rfl,e⟩ | ⟨y,u,rfl,e⟩
   ·exact nomatch e
   ·injection e with e1 _;rw [e1]
 byValue:=fun k v h=>by
  rcases An h with ⟨i,t,rfl,rfl⟩ | ⟨x,t,rfl,rfl⟩<;>rfl
 pyHash:=fun hv h=>by
  rcases An hv with ⟨i,t,rfl,rfl⟩ | ⟨x,t,rfl,rfl⟩
  ·exact wpAny_pyHash_int h
  ·exact wpAny_pyHash_str h
 eqBool:=fun hu hv h=>by
  rcases An hu with ⟨i,t,rfl,rfl⟩ | ⟨x,t,rfl,rfl⟩
  ·rcases An hv with ⟨j,u,rfl,rfl⟩ | ⟨y,u,rfl,rfl⟩
   ·rw [cJ] at h;exact wpAny_eqBool_int h
   ·rw [cI] at h;exact SeqAt.EqAt.int_str i t y u _ _ _ _ h
  ·rcases An hv with ⟨j,u,rfl,rfl⟩ | ⟨y,u,rfl,rfl⟩
   ·rw [cH] at h;exact SeqAt.EqAt.str_int x t j u _ _ _ _ h
   ·rw [cF] at h;exact wpAny_eqBool_str h
 «strs»:=fun k x t v h=>by
  rcases An h with ⟨i,u,rfl,e⟩ | ⟨y,u,rfl,e⟩
  ·exact nomatch e
  ·injection e with e1 _
   subst e1;cases v<;>rfl
theorem Lw (prog:Program) (w:World) (i:Int) (t:Tok):(BG prog w).is (.inl i) (.int i t)=true:=Qn i t
theorem Lv (prog:Program) (w:World) (x:Str) (t:Tok):(BG prog w).is (.inr x) (.str x t)=true:=Qm x t
inductive V where
 | non | bl (b:Bool) | int (i:Int) | str (x:Str) | byt (b:Array UInt8) | flt (b:UInt64) | ref (a:Addr) | ty (n:String)
 deriving DecidableEq
def RelV:V->Value->Prop
 | .non,u=>u=Value.none
 | .bl b,u=>u=Value.bool b
 | .int i,u=>∃ t,u=Value.int i t
 | .str x,u=>∃ t,u=Value.str x t
 | .byt b,u=>∃ t,u=Value.bytes b t
 | .flt b,u=>∃ t,u=Value.float b t
 | .ref a,u=>u=Value.ref a
 | .ty n,u=>u=Value.type n
abbrev AE:List V->List Value->Prop:=Paired RelV
theorem AE.length {xs:List V} {us:List Value} (r:AE xs us):xs.length=us.length:=Paired.length r
theorem AE.get:∀ {xs:List V} {us:List Value} {i:Nat} {x:V},AE xs us->xs[i]?=some x->∃ u,us[i]?=some u/\RelV x u
 | _,_,_,_,.nil,e=>by simp at e
 | _,_,0,_,.cons r _,e=>by simp at e;subst e;exact ⟨_,rfl,r⟩
 | _,_,i+1,x,.cons _ t,e=>by
  obtain ⟨u,h1,h2⟩:=AE.get (i:=i) (x:=x) t (by simpa using e);exact ⟨u,by simpa using h1,h2⟩
theorem AE.set {x:V} {u:Value} (r:RelV x u):∀ {xs:List V} {us:List Value} (i:Nat),AE xs us->AE (xs.set i x) (us.set i u)
 | _,_,_,.nil=>.nil
 | _,_,0,.cons _ t=>.cons r t
 | _,_,i+1,.cons q t=>.cons q (AE.set r i t)
theorem AE.append:∀ {xs ys:List V} {us ws:List Value},AE xs us->AE ys ws->AE (xs++ys) (us++ws)
 | _,_,_,_,.nil,s=>s
 | _,_,_,_,.cons r t,s=>.cons r (AE.append t s)
theorem AE.take:∀ {xs:List V} {us:List Value} (n:Nat),AE xs us->AE (xs.take n) (us.take n)
 | _,_,0,_=>.nil
 | _,_,_+1,.nil=>.nil
 | _,_,n+1,.cons r t=>.cons r (AE.take n t)
theorem AE.drop:∀ {xs:List V} {us:List Value} (n:Nat),AE xs us->AE (xs.drop n) (us.drop n)
 | _,_,0,r=>r
 | _,_,_+1,.nil=>.nil
 | _,_,n+1,.cons _ t=>AE.drop n t
def II:Option V->Option Value->Prop
 | some v,some u=>RelV v u
 | none,none=>True
 | _,_=>False
def KV {κ:Type}:List (κ×V)->List (κ×Value)->Prop:=Paired fun (p:κ×V) (q:κ×Value)=>p.1=q.1/\RelV p.2 q.2
def kV:BE->V
 | .inl i=>.int i
 | .inr x=>.str x
inductive HO where
 | lst (xs:List V)
 | tup (xs:List V)
 | dK (kvs:List (BE×V)) | dT (kvs:List (List BE×V))
 | set (S:Int->Bool) (n:Nat)
 | ins (C dx:Addr) (fs:List (Str×V))
 | own (x:Addr)
 | xd (fs:List (Str×V))
 | met (f x:Addr)
 | rng (lo hi:Int)
 | frz (o:Obj) (u:HO)
 | tbl (ps:Array Value)
 | ext (φ:Heap->Prop)
noncomputable abbrev Hp:=Addr->Option HO
def upd (H:Hp) (a:Addr) (o:HO):Hp:=fun b=>if b=a then some o else H b
theorem BX {H:Hp} {a:Addr} {o:HO}:upd H a o a=some o:=by unfold upd;rw [if_pos rfl]
theorem AO {H:Hp} {a b:Addr} {o:HO} (h:b≠a):upd H a o b=H b:=by unfold upd;rw [if_neg h]
theorem gg {H:Hp} {a b:Addr} {o u:HO} (h:H a=some o) (h':H b=some u) (d:o≠u):a≠b:=by
 intro e;subst e;rw [h] at h';exact d (Option.some.inj h')
theorem Bm {H:Hp} {a b:Addr} {o:HO} (h:H a=some o) (h':H b=none):a≠b:=by
 intro e;subst e;rw [h] at h';cases h'
def FQ (h:Heap) (a:Addr) (items:Array Value):Prop:=∃ o,h.get? a=some o/\o.cls=.type "tuple" /\ o.dict=none/\∃ n,o.data=.seq items n
theorem FQ.tup {h:Heap} {a:Addr} {items:Array Value} (x:FQ h a items):IsTup h a items:=let ⟨o,e,c,_,d⟩:=x;⟨o,e,c,d⟩
theorem FQ.new (h:Heap) (items:Array Value):FQ (h.push { cls:=.type "tuple", data:=.seq items }) h.objs.size items:=⟨_,mK _ rfl,rfl,rfl,_,rfl⟩
section
variable (P:Program) (w:World)
def Aa (H:Hp) (h:Heap) (a:Addr):HO->Prop
  | .lst xs=>xs.length<=sizeLine/\∃ (its:List Value) (n:Nat),AE xs its/\h.get? a=some { cls:=.type "list", data:=.seq its.toArray n }
  | .tup xs=>xs.length<=sizeLine/\∃ its:List Value,AE xs its/\FQ h a its.toArray
  | .dK kvs=>kvs.length<=sizeLine/\(a == sysModules)=false/\∃ vs,KV kvs vs/\h.DictOf (BG P w) a vs
  | .dT kvs=>kvs.length<=sizeLine/\(a == sysModules)=false/\∃ xs:List (List BE×Addr×Value),
      Paired (fun (p:List BE×V) (q:List BE×Addr×Value)=>p.1=q.1/\H q.2.1=some (.tup (p.1.map kV))/\RelV p.2 q.2.2) kvs xs /\
      ∃ o es ep,h.get? a=some o/\o.ExactDict/\o.data=.dict es ep/\es.toList=xs.map (entryOfKey (tupleKind (BG P w)))/\(xs.map (·.1)).Nodup
  | .set S n=>h.SetOf (intKind P w) a S n
  | .ins C dx fs=>H dx=some (.own a)/\fs.length<=1000/\dx≠a/\h.get? a=some (W.instObj C dx) /\
      ∃ mA,h.Ns1 dx mA/\(∀ f,II (fs.lookup f) (mA f))/\PySem.Within mA (fs.map (·.1))
  | .own _=>∃ o,h.get? a=some o
  | .xd fs=>∃ mA,h.Ns1 a mA/\∀ f,II (fs.lookup f) (mA f)
  | .rng lo hi=>∃ t u v,h.get? a=some { cls:=.type "range", data:=.fields #[.int lo t,.int hi u,.int 1 v] }
  | .frz o u=>h.get? a=some o/\Aa H h a u
  | .tbl ps=>h.get? a=some { cls:=.none,data:=.fields ps }
  | .met f x=>h.get? a=some (W.methodObj (.ref f) (.ref x))
  | .ext φ=>φ h/\(∃ o,h.get? a=some o)/\∀ h1 h2:Heap,φ h1->(∀ o,h1.get? a=some o->h2.get? a=some o)->φ h2
def Eh (H:Hp) (h:Heap):Prop:=∀ a o,H a=some o->Aa P w H h a o
end
section
variable {P:Program} {w:World} {H H':Hp} {h h':Heap} {a:Addr} {o:HO}
theorem Aa.lt (x:Aa P w H h a o):a < h.objs.size:=by
 cases o with
 | lst xs=>obtain ⟨_,_,_,_,e⟩:=x;exact mO e
 | tup xs=>obtain ⟨_,_,_,p⟩:=x;exact p.tup.lt
 | dK kvs=>obtain ⟨_,_,_,_,o,_,_,e,_⟩:=x;exact mO e
 | dT kvs=>obtain ⟨_,_,_,_,o,_,_,e,_⟩:=x;exact mO e
 | set S n=>obtain ⟨o,_,_,_,e,_⟩:=x;exact mO e
 | ins C dx fs=>obtain ⟨_,_,_,e,_⟩:=x;exact mO e
 | own y=>obtain ⟨_,e⟩:=x;exact mO e
 | xd fs=>obtain ⟨_,⟨_,_,_,e,_⟩,_⟩:=x;exact mO e
 | rng lo hi=>obtain ⟨_,_,_,e⟩:=x;exact mO e
 | frz ob u=>obtain ⟨e,_⟩:=x;exact mO e
 | tbl ps=>exact mO (show h.get? a=some _ from x)
 | met f y=>exact mO (show h.get? a=some _ from x)
 | ext φ=>obtain ⟨_,⟨_,e⟩,_⟩:=x;exact mO e
theorem Paired.mapP {α β:Type} {F G:α->β->Prop}:∀ {l₁:List α} {l₂:List β},Paired F l₁ l₂->(∀ a b,F a b->G a b)->Paired G l₁ l₂
 | _,_,.nil,_=>.nil
 | _,_,.cons r t,f=>.cons (f _ _ r) (Paired.mapP t f)
theorem Aa.stay (x:Aa P w H h a o) (k:∀ b u,(b=a\/H b=some (.own a))->h.get? b=some u->h'.get? b=some u)
    (ho:∀ b,H b=some (.own a)->H' b=some (.own a)) (ht:∀ b xs,H b=some (.tup xs)->H' b=some (.tup xs)):Aa P w H' h' a o:=by
  induction o with
  | lst xs=>obtain ⟨z,its,n,r,e⟩:=x;exact ⟨z,its,n,r,k _ _ (.inl rfl) e⟩
  | tup xs=>obtain ⟨z,its,r,ob,e,c⟩:=x;exact ⟨z,its,r,ob,k _ _ (.inl rfl) e,c⟩
  | dK kvs=>obtain ⟨z,y,vs,r,ob,es,ep,e,c⟩:=x;exact ⟨z,y,vs,r,ob,es,ep,k _ _ (.inl rfl) e,c⟩
  | dT kvs =>
    obtain ⟨z,y,xs,r,ob,es,ep,e,c⟩:=x;exact ⟨z,y,xs,Paired.mapP r fun p q z=>⟨z.1,ht _ _ z.2.1,z.2.2⟩,ob,es,ep,k _ _ (.inl rfl) e,c⟩
  | set S n=>obtain ⟨ob,es,ep,t,e,c⟩:=x;exact ⟨ob,es,ep,t,k _ _ (.inl rfl) e,c⟩
  | ins C dx fs =>
    obtain ⟨d,z,ne,e,mA,⟨od,es,ep,e2,c⟩,r⟩:=x;exact ⟨ho _ d,z,ne,k _ _ (.inl rfl) e,mA,⟨od,es,ep,k _ _ (.inr d) e2,c⟩,r⟩
  | own y=>obtain ⟨ob,e⟩:=x;exact ⟨ob,k _ _ (.inl rfl) e⟩
  | xd fs=>obtain ⟨mA,⟨od,es,ep,e,c⟩,r⟩:=x;exact ⟨mA,⟨od,es,ep,k _ _ (.inl rfl) e,c⟩,r⟩
  | rng lo hi=>obtain ⟨t,u,v,e⟩:=x;exact ⟨t,u,v,k _ _ (.inl rfl) e⟩
  | frz ob u ih=>obtain ⟨e,q⟩:=x;exact ⟨k _ _ (.inl rfl) e,ih q⟩
  | tbl ps =>
    have e:h.get? a=some { cls:=.none,data:=.fields ps }:=x;show h'.get? a=some { cls:=.none,data:=.fields ps };exact k a _ (.inl rfl) e
  | met f y =>
    have e:h.get? a=some (W.methodObj (.ref f) (.ref y)):=x;show h'.get? a=some (W.methodObj (.ref f) (.ref y));exact k a _ (.inl rfl) e
  | ext φ=>obtain ⟨p,⟨o,e⟩,st⟩:=x;exact ⟨st _ _ p fun o q=>k _ _ (.inl rfl) q,⟨o,k _ _ (.inl rfl) e⟩,st⟩
theorem Eh.lt (x:Eh P w H h) (e:H a=some o):a < h.objs.size:=(x a o e).lt
theorem Eh.fresh (x:Eh P w H h) (e:h.objs.size<=a):H a=none:=by
 cases q:H a with
 | none=>rfl
 | some u=>exact absurd (mP (x.lt q) e) (nR _)
theorem Eh.kept (x:Eh P w H h) (k:∀ b u,h.get? b=some u->h'.get? b=some u):Eh P w H h':=fun a o e =>
 (x a o e).stay (fun b u _ q=>k b u q) (fun _ q=>q) fun _ _ q=>q
theorem Eh.laid (x:Eh P w H h) (k:∀ b u,h.get? b=some u->h'.get? b=some u) (hp:h.objs.size<=a) (new:Aa P w (upd H a o) h' a o):Eh P w (upd H a o) h':=fun b u e=>by
 have hn:=x.fresh hp
 by_cases hb:b=a
 ·subst hb;rw [BX] at e;cases e;exact new
 ·rw [AO hb] at e;exact (x b u e).stay (fun c v _ q=>k c v q) (fun c q=>by rw [AO (Bm q hn)];exact q) fun c xs q=>by rw [AO (Bm q hn)];exact q
end
def Rd (H:Hp) (a:Addr) (u:HO):Prop:=H a=some u\/∃ o,H a=some (.frz o u)
theorem Rd.ok {P:Program} {w:World} {H:Hp} {h:Heap} {a:Addr} {u:HO} (r:Rd H a u) (x:Eh P w H h):Aa P w H h a u:=by
 rcases r with r | ⟨o,r⟩
 ·exact x a u r
 ·obtain ⟨_,q⟩:=x a _ r;exact q
def eV:Option HO->Prop
 | some (.lst _)=>True
 | some (.dK _)=>True
 | some (.dT _)=>True
 | some (.set _ _)=>True
 | some (.ins _ _ _)=>True
 | some (.ext _)=>True
 | _=>False
section
variable {P:Program} {w:World} {H:Hp} {h h':Heap} {x e:Addr} {o':HO}
theorem Eh.write (ok:Eh P w H h) (mu:eV (H x)) (he:e=x\/H e=some (.own x)) (k:∀ b u,b≠e->h.get? b=some u->h'.get? b=some u) (heo:∃ u,h'.get? e=some u)
    (new:Aa P w (upd H x o') h' x o'):Eh P w (upd H x o') h':=fun b u q=>by
  have nown:∀ c y,H c=some (.own y)->c≠x:=fun c y r z=>by subst z;rw [r] at mu;exact mu
  have ntup:∀ c xs,H c=some (.tup xs)->c≠x:=fun c xs r z=>by subst z;rw [r] at mu;exact mu
  by_cases hb:b=x
  · subst hb;rw [BX] at q;cases q;exact new
  · rw [AO hb] at q
    by_cases hbe:b=e
    · have q':H b=some (.own x):=by
        rcases he with z | z
        · exact absurd (hbe.trans z) hb
        · rw [hbe];exact z
      rw [q] at q';cases q';obtain ⟨v,hv⟩:=heo;exact ⟨v,by rw [hbe];exact hv⟩
    · refine (ok b u q).stay (fun c v hc r=>k c v ?_ r) (fun c r=>by rw [AO (nown c b r)];exact r) fun c xs r=>by rw [AO (ntup c xs r)];exact r
      rcases hc with rfl | hc
      · exact hbe
      · rintro rfl;rcases he with z | z
        · exact nown c b hc z
        · rw [hc] at z;cases z;exact hb rfl
end
structure Un (fs ex:List Addr) (H H':Hp) (h h':Heap):Prop where
 keep:∀ b o,h.get? b=some o->H b=none->b∉fs->b∉ex->h'.get? b=some o
 slot:∀ b o,h.get? b=some o->H b=none->b∈fs->b∉ex->∃ sl,h'.get? b=some { o with slots:=sl }
 free:∀ b o,h.get? b=some o->H b=none->b∉ex->H' b=none
 there:∀ b o,h.get? b=some o->b∉ex->∃ o',h'.get? b=some o'
 tups:∀ b xs,H b=some (.tup xs)->H' b=some (.tup xs)
 frzs:∀ b o u,H b=some (.frz o u)->H' b=some (.frz o u)
 tbls:∀ b ps,H b=some (.tbl ps)->∃ more,H' b=some (.tbl (ps++more))
section
variable {fs fs' ex ex':List Addr} {H H1 H2:Hp} {h h1 h2 h':Heap} {a x e:Addr} {o:HO}
theorem Un.any (u:Un fs ex H H1 h h1) {b:Addr} {ob:Obj} (q:h.get? b=some ob) (n:H b=none) (hx:b∉ex):∃ sl,h1.get? b=some { ob with slots:=sl }:=by
 by_cases hb:b∈fs
 ·exact u.slot b ob q n hb hx
 ·exact ⟨ob.slots,u.keep b ob q n hb hx⟩
theorem Un.kept (k:∀ b u,h.get? b=some u->h'.get? b=some u):Un fs ex H H h h':=
 ⟨fun b ob q _ _ _=>k b ob q,fun b ob q _ _ _=>⟨ob.slots,k b ob q⟩,fun _ _ _ n _=>n,fun b ob q _=>⟨ob,k b ob q⟩,fun _ _ q=>q,fun _ _ _ q=>q,fun _ ps q=>⟨#[],by rw [q];simp⟩⟩
theorem Un.refl:Un fs ex H H h h:=Un.kept fun _ _ q=>q
theorem Un.laid (k:∀ b u,h.get? b=some u->h'.get? b=some u) (hp:h.objs.size<=a) (hn:H a=none):Un fs ex H (upd H a o) h h' where
 keep:=fun b u q _ _ _=>k b u q
 slot:=fun b u q _ _ _=>⟨u.slots,k b u q⟩
 free:=fun b u q n _=>by rw [AO (mh (mP (mO q) hp))];exact n
 there:=fun b u q _=>⟨u,k b u q⟩
 tups:=fun b xs q=>by rw [AO (Bm q hn)];exact q
 frzs:=fun b u xs q=>by rw [AO (Bm q hn)];exact q
 tbls:=fun b ps q=>⟨#[],by rw [AO (Bm q hn),q];simp⟩
theorem Un.write (mu:eV (H x)) (he:e=x\/H e=some (.own x)) (k:∀ b u,b≠e->h.get? b=some u->h'.get? b=some u) (heo:∃ u,h'.get? e=some u):Un fs ex H (upd H x o) h h':=by
 have hx:∀ b,H b=none->b≠x:=fun b n z=>by subst z;rw [n] at mu;exact mu
 have hb:∀ b,H b=none->b≠e:=fun b n z=>by
  subst z;rcases he with r | r
  ·exact hx b n r
  ·rw [n] at r;cases r
 have hm:∀ b u,H b=some u->¬ eV (some u)->b≠x:=fun b u q nm z=>by subst z;rw [q] at mu;exact nm mu
 refine ⟨fun b u q n _ _=>k b u (hb b n) q,fun b u q n _ _=>⟨u.slots,k b u (hb b n) q⟩,fun b u q n _=>by rw [AO (hx b n)];exact n,fun b u q _=>?_,
  fun b xs q=>by rw [AO (hm b _ q fun z=>z)];exact q,fun b u xs q=>by rw [AO (hm b _ q fun z=>z)];exact q,fun b ps q=>⟨#[],by rw [AO (hm b _ q fun z=>z),q];simp⟩⟩
 by_cases hbe:b=e
 ·subst hbe;exact heo
 ·exact ⟨u,k b u hbe q⟩
end
def jG (h:Heap) (H:Hp):List Addr:=(List.range h.objs.size).filter fun a=>(H a).isSome
def KS (h:Heap) (H:Hp):Heap:=W.hideAll h (jG h H)
theorem Qs (h:Heap) (H:Hp):(KS h H).objs.size=h.objs.size:=W.hideAll_size _ _
theorem UT {h:Heap} {H:Hp} {b:Addr} {o:Obj} (e:h.get? b=some o) (n:H b=none):(KS h H).get? b=some o:=
 W.hideAll_get _ e fun hm=>by
  have q:(H b).isSome=true:=(nL.mp hm).2;rw [n] at q;simp at q
theorem XX {h:Heap} {H:Hp} {b:Addr} {o:Obj} (e:(KS h H).get? b=some o):h.get? b=some o/\H b=none:=by
 have e':h.get? b=some o:=W.of_hideAll (jG h H) e;refine ⟨e',?_⟩;cases q:H b with
 | none=>rfl
 | some x =>
  have hm:b∈jG h H:=nL.mpr ⟨ny.mpr (mO e'),by simp [q]⟩;have z:(KS h H).get? b=none:=W.hideAll_none (jG h H) hm;rw [z] at e;cases e
noncomputable def Yk (g h:Heap) (L:Addr):List (Addr×Obj):=(List.range h.objs.size).filterMap fun a=>if a=L\/(g.get? a).isSome=true then none else (h.get? a).map fun o=>(a,o)
def rest (g h:Heap) (L d:Addr):List (Addr×Obj):=(Yk g h L).filter fun p=>decide (p.1≠d)
structure Mod (K:W.Frag) (mg:Str->Option Value) (base:Heap):Prop where
 kin:K.In base
 glob:base.Ns mainGlobals mg
 blt:∃ mb,base.Ns builtinsNs mb/\∀ x:Str,x ≠ "__name__" -> mb x=bootBuiltins x
 nolimit:base.NoLimit
structure Cx where
 prog:Program
 w:World
 K:W.Frag
 mg:Str->Option Value
 base:Heap
 A:Around
 N:List Str
 s₀:Shared
 H₀:Hp
 env:Env
 outer:List Env
 stack:List Env
 ex:List Addr
 fn:Str->Bool
 calm:Bool
 pn:List (Addr×Obj)
 xe:Value->Shared->Prop
noncomputable def PH (l:List Env):List Addr:=l.filterMap (·.frame)
abbrev Cx.fs (X:Cx):List Addr:=PH X.outer
def eT (sc:Scope) (x:Str):Prop:=sc.names.lookup x=some .local\/sc.names.lookup x=some .cell\/sc.names.lookup x=some .free
def Loc (sc:Scope) (x:Str):Prop:=sc.names.lookup x=some .local\/sc.names.lookup x=some .cell
def Look (env:Env) (h:Heap) (m:Str->Option Value) (x:Str) (u:Value):Prop:=
 (env.kindOf x=some .local/\m x=some u)\/((env.kindOf x=some .cell\/env.kindOf x=some .free)/\∃ c,env.cells.lookup x=some c/\h.IsCell c (some u))
structure Cx.Ok (X:Cx):Prop where
 mod:Mod X.K X.mg X.base
 kind:X.env.scope.kind=.function
 glob:X.env.globals=mainGlobals
 blt:X.env.builtins=builtinsNs
 above:X.s₀.heap.objs.size<=X.env.locals
 inj:∀ x y c,X.env.cells.lookup x=some c->X.env.cells.lookup y=some c->x=y
 has:∀ x,(X.env.kindOf x=some .cell\/X.env.kindOf x=some .free)->∃ c,X.env.cells.lookup x=some c
 cab:∀ x c,X.fn x=true->X.env.cells.lookup x=some c->X.s₀.heap.objs.size<=c
 hd:X.calm=true->X.A.handled=none
 frames:X.A.frames=some X.stack
 stk:X.stack=X.outer\/(X.stack=X.env::X.outer/\X.env.frame=some X.env.locals)
 exf:∀ b∈X.ex,b≠X.env.locals/\∀ x c,X.env.cells.lookup x=some c->c≠b
 bs:∀ b o,X.base.get? b=some o->X.s₀.heap.get? b=some o/\X.H₀ b=none
 bsz:X.base.objs.size<=X.s₀.heap.objs.size
 noex:∀ b o,X.base.get? b=some o->b∉X.ex
 exfs:∀ b∈X.ex,b∉X.fs
 funs:X.s₀.heap.FunFrames X.base X.outer
 frf:∀ b∈X.fs,X.H₀ b=none
structure Inv (X:Cx) (pins:List (Addr×Obj)) (σ:List (Option V)) (H:Hp) (s:Shared):Prop where
 ok:X.Ok
 os:s.os=X.s₀.os
 bare:AllBare s.gens
 base:Un X.fs X.ex X.H₀ H X.s₀.heap s.heap
 loc:∃ m,s.heap.Ns X.env.locals m/\∀ (i:Nat) (x:Str) (v:V),X.N[i]?=some x->σ[i]?=some (some v)->eT X.env.scope x->∃ u,RelV v u/\Look X.env s.heap m x u
 cell:∀ x c,X.env.cells.lookup x=some c->∃ v,s.heap.IsCell c v
 free:H X.env.locals=none
 freeC:∀ x c,X.env.cells.lookup x=some c->H c=none
 pin:∀ p∈X.pn++pins,s.heap.get? p.1=some p.2/\H p.1=none/\p.1≠X.env.locals/\p.1∉X.fs/\∀ v,p.2.data≠.cell v
 hok:Eh X.prog X.w H s.heap
 len:σ.length=X.N.length
section
variable {X:Cx} {pins:List (Addr×Obj)} {σ:List (Option V)} {H H':Hp} {s:Shared} {h':Heap}
theorem Cx.Ok.nofr (ok:X.Ok) {b:Addr} {o:Obj} (e:X.base.get? b=some o):b∉X.fs:=fun hb=>by
 have:=(ok.funs.mem hb).1;rw [e] at this;cases this
theorem Inv.bs (I:Inv X pins σ H s):∀ b o,X.base.get? b=some o->s.heap.get? b=some o/\H b=none:=fun b o e =>
 ⟨I.base.keep b o (I.ok.bs b o e).1 (I.ok.bs b o e).2 (I.ok.nofr e) (I.ok.noex b o e),I.base.free b o (I.ok.bs b o e).1 (I.ok.bs b o e).2 (I.ok.noex b o e)⟩
theorem Inv.bk (I:Inv X pins σ H s):∀ b o,X.base.get? b=some o->s.heap.get? b=some o:=fun b o e=>(I.bs b o e).1
theorem Inv.mod (I:Inv X pins σ H s):Mod X.K X.mg X.base:=I.ok.mod
theorem Inv.kIn (I:Inv X pins σ H s):X.K.In s.heap:=I.ok.mod.kin.keeps I.bk
theorem Inv.fr (I:Inv X pins σ H s):∃ m,Fr X.base X.env.locals s.heap m:=
 let ⟨m,hn,_⟩:=I.loc
 ⟨m,hn,I.bk,mQ I.ok.bsz I.ok.above⟩
theorem Inv.lt (I:Inv X pins σ H s):X.env.locals < s.heap.objs.size:=let ⟨_,hn,_⟩:=I.loc;hn.lt
theorem Inv.sz (I:Inv X pins σ H s):X.s₀.heap.objs.size<=s.heap.objs.size:=mQ I.ok.above (Nat.le_of_lt I.lt)
theorem Inv.nofs (I:Inv X pins σ H s) {a:Addr} (h:s.heap.objs.size<=a):a∉X.fs:=fun hb=>by
 obtain ⟨_,o,ho,_⟩:=I.ok.funs.mem hb;exact absurd (mP (mO ho) (mQ I.sz h)) (nR _)
theorem Inv.cne (I:Inv X pins σ H s):∀ x c,X.env.cells.lookup x=some c->c≠X.env.locals:=fun x c e z=>by
 obtain ⟨v,o,ho,hd⟩:=I.cell x c e;obtain ⟨m,⟨o',es,ep,ho',hd',_⟩,_⟩:=I.loc;rw [z,ho'] at ho;cases ho;rw [hd'] at hd;cases hd
theorem Inv.funs (I:Inv X pins σ H s):s.heap.FunFrames X.base X.outer:=by
 have all:∀ (l:List Env),(∀ b∈PH l,b∈X.fs)->X.s₀.heap.FunFrames X.base l->s.heap.FunFrames X.base l:=by
  intro l
  induction l with
  | nil=>intro _ _;trivial
  | cons env r ih =>
   intro hs hl;obtain ⟨hk,⟨L,o,hf,hn,ho,hd⟩,hr⟩:=hl;have hL:L∈X.fs:=hs L (by unfold PH;rw [nk,hf];exact mC);obtain ⟨sl,e⟩:=I.base.slot L o ho (I.ok.frf L hL) hL fun z=>I.ok.exfs L z hL
   exact ⟨hk,⟨L,_,hf,hn,e,hd⟩,ih (fun b hb=>hs b (by unfold PH;rw [nk,hf];exact mE _ hb)) hr⟩
 exact all X.outer (fun _ hb=>hb) I.ok.funs
theorem Inv.stack (I:Inv X pins σ H s):s.heap.FunFrames X.base X.stack:=by
 rcases I.ok.stk with e | ⟨e,hf⟩
 ·rw [e];exact I.funs
 ·rw [e];obtain ⟨m,hn,_⟩:=I.loc;refine .cons (by rw [I.ok.kind];decide) hf hn ?_ I.funs;exact Heap.get?_none_of_le (mQ I.ok.bsz I.ok.above)
theorem Inv.stkSub (I:Inv X pins σ H s):∀ b∈PH X.stack,b∈X.env.locals::X.fs:=fun b hb=>by
 rcases I.ok.stk with e | ⟨e,hf⟩
 ·rw [e] at hb;exact mE _ hb
 ·rw [e] at hb;unfold PH at hb;rw [nk,hf] at hb;exact hb
theorem Inv.stkFree (I:Inv X pins σ H s):∀ b∈PH X.stack,H b=none:=fun b hb=>by
 rcases mL.mp (I.stkSub b hb) with e | hb
 ·rw [e];exact I.free
 ·obtain ⟨_,o,ho,_⟩:=I.ok.funs.mem hb;exact I.base.free b o ho (I.ok.frf b hb) fun z=>I.ok.exfs b z hb
theorem Inv.step {g':Array GenState} {t':Nat} {d':Drawn} {ch:List Addr} (I:Inv X pins σ H s)
    (hch:∀ b∈ch,(b∈X.ex\/X.s₀.heap.objs.size<=b)/\b≠X.env.locals/\(∀ x c,X.env.cells.lookup x=some c->c≠b)/\∀ p∈X.pn++pins,p.1≠b)
    (keep:∀ b o,b≠X.env.locals->b∉X.fs->b∉ch->s.heap.get? b=some o->H b=none->h'.get? b=some o)
    (slot:∀ b o,b≠X.env.locals->b∈X.fs->b∉ch->s.heap.get? b=some o->H b=none->∃ sl,h'.get? b=some { o with slots:=sl }) (free:∀ b o,b∉ch->s.heap.get? b=some o->H b=none->H' b=none)
    (there:∀ b o,b∉ch->s.heap.get? b=some o->∃ o',h'.get? b=some o')
    (tups:∀ b xs,H b=some (.tup xs)->H' b=some (.tup xs)) (frzs:∀ b o u,H b=some (.frz o u)->H' b=some (.frz o u)) (tbls:∀ b ps,H b=some (.tbl ps)->∃ more,H' b=some (.tbl (ps++more)))
    (ns:∀ m,s.heap.Ns X.env.locals m->h'.Ns X.env.locals m) (hok:Eh X.prog X.w H' h') (hg:AllBare g') :
    Inv X pins σ H' { s with heap:=h',gens:=g',drawn:=d',toks:=t' }:=by
  have neL:∀ b o,X.s₀.heap.get? b=some o->b≠X.env.locals:=fun b o e=>mh (mP (mO e) I.ok.above)
  have neC:∀ b o,X.s₀.heap.get? b=some o->b∉X.ex->b∉ch:=fun b o e hx hb=>by
    rcases (hch b hb).1 with z | z
    · exact hx z
    · exact absurd (mP (mO e) z) (nR _)
  have cellK:∀ x c,X.env.cells.lookup x=some c->∀ v,s.heap.IsCell c v->h'.IsCell c v:=fun x c e v ⟨o,ho,hd⟩=>by
    have nch:c∉ch:=fun z=>(hch c z).2.2.1 x c e rfl
    by_cases hc:c∈X.fs
    · obtain ⟨sl,q⟩:=slot c o (I.cne x c e) hc nch ho (I.freeC x c e);exact ⟨_,q,hd⟩
    · exact ⟨o,keep c o (I.cne x c e) hc nch ho (I.freeC x c e),hd⟩
  refine ⟨I.ok,I.os,hg,⟨fun b o e n hb hx=>?_,fun b o e n hb hx=>?_,fun b o e n hx=>?_,fun b o e hx=>?_,fun b xs e=>tups b xs (I.base.tups b xs e),fun b o xs e=>frzs b o xs (I.base.frzs b o xs e),fun b ps e=>?_⟩,?_,fun x c e=>?_,?_,fun x c e=>?_,fun p hp=>?_,hok,I.len⟩
  · exact keep b o (neL b o e) hb (neC b o e hx) (I.base.keep b o e n hb hx) (I.base.free b o e n hx)
  · obtain ⟨sl,e1⟩:=I.base.slot b o e n hb hx;obtain ⟨sl',e2⟩:=slot b _ (neL b o e) hb (neC b o e hx) e1 (I.base.free b o e n hx);exact ⟨sl',e2⟩
  · obtain ⟨o',e1⟩:=I.base.there b o e hx;exact free b o' (neC b o e hx) e1 (I.base.free b o e n hx)
  · obtain ⟨o',e1⟩:=I.base.there b o e hx;exact there b o' (neC b o e hx) e1
  · obtain ⟨m1,e1⟩:=I.base.tbls b ps e;obtain ⟨m2,e2⟩:=tbls b _ e1;exact ⟨m1++m2,by rw [e2,Array.append_assoc]⟩
  · obtain ⟨m,hn,hl⟩:=I.loc;refine ⟨m,ns m hn,fun i x v e1 e2 e3=>?_⟩;obtain ⟨u,r,l⟩:=hl i x v e1 e2 e3;refine ⟨u,r,?_⟩;rcases l with l | ⟨k,c,e,z⟩
    · exact .inl l
    · exact .inr ⟨k,c,e,cellK x c e _ z⟩
  · obtain ⟨v,z⟩:=I.cell x c e;exact ⟨v,cellK x c e v z⟩
  · obtain ⟨m,⟨o,_,_,ho,_⟩,_⟩:=I.loc;exact free _ o (fun z=>(hch _ z).2.1 rfl) ho I.free
  · obtain ⟨v,o,ho,hd⟩:=I.cell x c e;exact free c o (fun z=>(hch c z).2.2.1 x c e rfl) ho (I.freeC x c e)
  · obtain ⟨e,n,ne,nf,d⟩:=I.pin p hp;have nch:p.1∉ch:=fun z=>(hch p.1 z).2.2.2 p hp rfl
    exact ⟨keep p.1 p.2 ne nf nch e n,free p.1 p.2 nch e n,ne,nf,d⟩
theorem Inv.un {t':Nat} (I:Inv X pins σ H s) (u:Un X.fs [] H H' s.heap h') (hok:Eh X.prog X.w H' h'):Inv X pins σ H' { s with heap:=h',toks:=t' }:=by
 obtain ⟨m,⟨o,es,ep,ho,r⟩,_⟩:=id I.loc;obtain ⟨sl,hL⟩:=u.any ho I.free (by simp);exact I.step (g':=s.gens) (d':=s.drawn) (ch:=[]) (fun _ z=>nomatch z) (fun b o _ hb _ e n=>u.keep b o e n hb (by simp)) (fun b o _ hb _ e n=>u.slot b o e n hb (by simp)) (fun b o _ e n=>u.free b o e n (by simp)) (fun b o _ e=>u.there b o e (by simp)) u.tups u.frzs u.tbls (fun m' hm=>by
  obtain ⟨o',es',ep',ho',r'⟩:=hm;rw [ho] at ho';cases ho';exact ⟨_,es',ep',hL,r'⟩) hok I.bare
theorem Inv.call {g':Array GenState} {t':Nat} {d':Drawn} {ch:List Addr} (I:Inv X pins σ H s) (u:Un (PH X.stack) ch H H' s.heap h') (hok:Eh X.prog X.w H' h') (hg:AllBare g')
    (hch:∀ b∈ch,(b∈X.ex\/X.s₀.heap.objs.size<=b)/\b≠X.env.locals/\(∀ x c,X.env.cells.lookup x=some c->c≠b)/\∀ p∈X.pn++pins,p.1≠b) :
    Inv X pins σ H' { s with heap:=h',gens:=g',drawn:=d',toks:=t' }:=by
  obtain ⟨m,⟨o,es,ep,ho,r⟩,_⟩:=id I.loc;obtain ⟨sl,hL⟩:=u.any ho I.free fun z=>(hch _ z).2.1 rfl
  exact I.step (ch:=ch) hch (fun b o hL hb hc e n=>u.keep b o e n (fun z=>(mL.mp (I.stkSub b z)).elim hL hb) hc) (fun b o _ _ hc e n=>u.any e n hc) (fun b o hc e n=>u.free b o e n hc) (fun b o hc e=>u.there b o e hc) u.tups u.frzs u.tbls (fun m' hm=>by
    obtain ⟨o',es',ep',ho',r'⟩:=hm;rw [ho] at ho';cases ho';exact ⟨_,es',ep',hL,r'⟩) hok hg
theorem Inv.turned {t':Nat} {it:Addr} (I:Inv X pins σ H s) (k:∀ b o,b≠it->s.heap.get? b=some o->h'.get? b=some o) (hn:H it=none) (hL:it≠X.env.locals)
    (h1:it∈X.ex\/X.s₀.heap.objs.size<=it) (h2:∀ x c,X.env.cells.lookup x=some c->c≠it) (h3:∀ p∈X.pn++pins,p.1≠it):Inv X pins σ H { s with heap:=h',toks:=t' }:=by
  have nit:∀ b u,H b=some u->b≠it:=fun b u e z=>by rw [z,hn] at e;cases e
  refine I.step (g':=s.gens) (d':=s.drawn) (ch:=[it]) (fun b hb=>?_) (fun b o _ _ hc e _=>k b o (fun z=>hc (by simp [z])) e) (fun b o _ _ hc e _=>⟨o.slots,k b o (fun z=>hc (by simp [z])) e⟩) (fun _ _ _ _ n=>n)
    (fun b o hc e=>⟨o,k b o (fun z=>hc (by simp [z])) e⟩) (fun _ _ e=>e) (fun _ _ _ e=>e) (fun b ps e=>⟨#[],by rw [e];simp⟩) (fun m hm=>?_) (fun b u e=>?_) I.bare
  · have e:b=it:=by simpa using hb
    subst e;exact ⟨h1,hL,h2,h3⟩
  · obtain ⟨o,es,ep,ho,r⟩:=hm;exact ⟨o,es,ep,k _ o (Ne.symm hL) ho,r⟩
  · refine (I.hok b u e).stay (fun c v hc q=>k c v ?_ q) (fun _ q=>q) fun _ _ q=>q
    rcases hc with z | z
    · rw [z];exact nit b u e
    · exact nit c _ z
theorem Inv.tok (I:Inv X pins σ H s) (t:Nat):Inv X pins σ H { s with toks:=t }:=I.un (h':=s.heap) (t':=t) Un.refl I.hok
theorem Inv.kept {t':Nat} (I:Inv X pins σ H s) (k:∀ b u,s.heap.get? b=some u->h'.get? b=some u):Inv X pins σ H { s with heap:=h',toks:=t' }:=I.un (Un.kept k) (I.hok.kept k)
theorem Inv.laid {a:Addr} {o:HO} {t':Nat} (I:Inv X pins σ H s) (k:∀ b u,s.heap.get? b=some u->h'.get? b=some u) (hp:s.heap.objs.size<=a) (new:Aa X.prog X.w (upd H a o) h' a o) :
    Inv X pins σ (upd H a o) { s with heap:=h',toks:=t' }:=I.un (Un.laid k hp (I.hok.fresh hp)) (I.hok.laid k hp new)
theorem Inv.write {x e:Addr} {o:HO} {t':Nat} (I:Inv X pins σ H s) (mu:eV (H x)) (he:e=x\/H e=some (.own x)) (k:∀ b u,b≠e->s.heap.get? b=some u->h'.get? b=some u) (heo:∃ u,h'.get? e=some u)
    (new:Aa X.prog X.w (upd H x o) h' x o):Inv X pins σ (upd H x o) { s with heap:=h',toks:=t' }:=I.un (Un.write mu he k heo) (I.hok.write mu he k heo new)
theorem Inv.weak {σ':List (Option V)} (I:Inv X pins σ H s) (hl:σ'.length=σ.length) (w:∀ (i:Nat) v,σ'[i]?=some (some v)->σ[i]?=some (some v)):Inv X pins σ' H s:=
 ⟨I.ok,I.os,I.bare,I.base,let ⟨m,hn,hl'⟩:=I.loc;⟨m,hn,fun i x v e1 e2 e3=>hl' i x v e1 (w i v e2) e3⟩,I.cell,I.free,I.freeC,I.pin,I.hok,hl.trans I.len⟩
theorem Inv.pins_of {pins':List (Addr×Obj)} (I:Inv X pins σ H s) (h:∀ p∈pins',s.heap.get? p.1=some p.2/\H p.1=none/\p.1≠X.env.locals/\p.1∉X.fs/\∀ v,p.2.data≠.cell v):Inv X pins' σ H s:=
 ⟨I.ok,I.os,I.bare,I.base,I.loc,I.cell,I.free,I.freeC,fun p hp=>(mU.mp hp).elim (fun z=>I.pin p (mN _ z)) (h p),I.hok,I.len⟩
theorem Lu {N:List Str} (hN:N.Nodup) {i j:Nat} {x:Str} (a:N[i]?=some x) (b:N[j]?=some x):i=j:=by
 obtain ⟨h1,e1⟩:=mB.mp a;obtain ⟨h2,e2⟩:=mB.mp b;exact (oq hN).mp (e1.trans e2.symm)
theorem Iv {M:Model} {A:Around} {E:Value->Shared->Prop} {i:Nat} {x:Str} {v:V} {u:Value} {Q:Unit->Shared->Prop} (I:Inv X pins σ H s) (hN:X.N.Nodup) (hi:X.N[i]?=some x) (hx:Loc X.env.scope x) (r:RelV v u)
    (h:∀ s',Inv X pins (σ.set i (some v)) H s'->(∃ a,Heap.SameBut a s.heap s'.heap/\(a=X.env.locals\/X.env.cells.lookup x=some a))->Q () s') (hf:X.fn x=true\/X.env.scope.names.lookup x=some .local:=by first | exact .inl rfl | exact .inr rfl | assumption):wpAny M A (storeName X.env x u) Q E s:=by
  obtain ⟨m,hn,hl⟩:=id I.loc;have hcls:(X.env.scope.kind == .class || (X.env.scope.kind == .module && X.env.locals != X.env.globals))=false:=by rw [I.ok.kind];rfl
  have hiσ:i < σ.length:=by rw [I.len];exact (mB.mp hi).1
  have cne:=I.cne;have tracked:∀ {a:Addr} {h':Heap},(∃ o,s.heap.get? a=some o/\H a=none)->Heap.SameBut a s.heap h'->Eh X.prog X.w H h':=fun {a h'} ha hs b ob e=>by
    obtain ⟨_,_,hfree⟩:=ha;refine (I.hok b ob e).stay (fun c w' hc q=>(hs.2 c ?_).trans q) (fun _ q=>q) fun _ _ q=>q
    rintro rfl;rcases hc with rfl | hc
    · rw [hfree] at e;cases e
    · rw [hfree] at hc;cases hc
  rcases hx with hk | hk
  · refine wpAny_storeName_local hk hn (fun h' hn' hs=>?_) hcls;obtain ⟨oL,_,_,hoL,_⟩:=id hn;refine h _ ⟨I.ok,I.os,I.bare,⟨fun b o e n hb hx=>?_,fun b o e n hb hx=>?_,I.base.free,fun b o e hx=>?_,I.base.tups,I.base.frzs,I.base.tbls⟩,⟨_,hn',fun j y v' e1 e2 e3=>?_⟩,fun y c e=>?_,I.free,I.freeC,fun p hp=>?_,tracked ⟨oL,hoL,I.free⟩ hs,by simpa using I.len⟩ ⟨_,hs,.inl rfl⟩
    · exact (hs.2 b (mh (mP (mO e) I.ok.above))).trans (I.base.keep b o e n hb hx)
    · obtain ⟨sl,e1⟩:=I.base.slot b o e n hb hx;exact ⟨sl,(hs.2 b (mh (mP (mO e) I.ok.above))).trans e1⟩
    · obtain ⟨o',e1⟩:=I.base.there b o e hx;exact ⟨o',(hs.2 b (mh (mP (mO e) I.ok.above))).trans e1⟩
    · by_cases hj:j=i
      · subst hj;rw [hi] at e1;cases e1;rw [ml hiσ] at e2;cases e2;exact ⟨u,r,.inl ⟨hk,by simp⟩⟩
      · rw [mf (Ne.symm hj)] at e2;obtain ⟨u',r',q⟩:=hl j y v' e1 e2 e3;refine ⟨u',r',?_⟩;rcases q with ⟨k,e⟩ | ⟨k,c,e,z⟩
        · refine .inl ⟨k,?_⟩;have:y≠x:=fun e=>hj (Lu hN e1 (e▸hi))
          simp [this,e]
        · exact .inr ⟨k,c,e,z.sameBut hs (cne y c e)⟩
    · obtain ⟨w',z⟩:=I.cell y c e;exact ⟨w',z.sameBut hs (cne y c e)⟩
    · obtain ⟨e,n,ne,nf,d⟩:=I.pin p hp;exact ⟨(hs.2 p.1 ne).trans e,n,ne,nf,d⟩
  · have hfn:X.fn x=true:=by
      rcases hf with z | z
      · exact z
      · rw [z] at hk;cases hk
    obtain ⟨c,hc⟩:=I.ok.has x (.inl hk);obtain ⟨w',z⟩:=I.cell x c hc;refine wpAny_storeName_cell I.ok.kind hk hc z (fun h' hc' hs=>?_);obtain ⟨oc,hoc,hocd⟩:=id z;refine h { s with heap:=h' } ⟨I.ok,I.os,I.bare,⟨fun b o e n hb hx=>?_,fun b o e n hb hx=>?_,I.base.free,fun b o e hx=>?_,I.base.tups,I.base.frzs,I.base.tbls⟩,⟨m,hn.sameBut hs (Ne.symm (cne x c hc)),fun j y v' e1 e2 e3=>?_⟩,fun y c' e=>?_,I.free,I.freeC,fun p hp=>?_,tracked ⟨oc,hoc,I.freeC x c hc⟩ hs,by simpa using I.len⟩ ⟨c,hs,.inr hc⟩
    · exact (hs.2 b (mh (mP (mO e) (I.ok.cab x c hfn hc)))).trans (I.base.keep b o e n hb hx)
    · obtain ⟨sl,e1⟩:=I.base.slot b o e n hb hx;exact ⟨sl,(hs.2 b (mh (mP (mO e) (I.ok.cab x c hfn hc)))).trans e1⟩
    · obtain ⟨o',e1⟩:=I.base.there b o e hx;exact ⟨o',(hs.2 b (mh (mP (mO e) (I.ok.cab x c hfn hc)))).trans e1⟩
    · by_cases hj:j=i
      · subst hj;rw [hi] at e1;cases e1;rw [ml hiσ] at e2;cases e2;exact ⟨u,r,.inr ⟨.inl hk,c,hc,hc'⟩⟩
      · rw [mf (Ne.symm hj)] at e2;obtain ⟨u',r',q⟩:=hl j y v' e1 e2 e3;refine ⟨u',r',?_⟩;rcases q with q | ⟨k,c',e,z'⟩
        · exact .inl q
        · refine .inr ⟨k,c',e,z'.sameBut hs ?_⟩;rintro rfl;exact hj (Lu hN e1 (I.ok.inj _ _ _ e hc▸hi))
    · by_cases hcc:c'=c
      · subst hcc;exact ⟨_,hc'⟩
      · obtain ⟨w2,z2⟩:=I.cell y c' e;exact ⟨w2,z2.sameBut hs hcc⟩
    · obtain ⟨e,n,ne,nf,d⟩:=I.pin p hp;refine ⟨(hs.2 p.1 ?_).trans e,n,ne,nf,d⟩;intro q;rw [q,hoc] at e;have q':oc=p.2:=Option.some.inj e;exact d w' (by rw [<- q'];exact hocd)
theorem DT {M:Model} {A:Around} {E:Value->Shared->Prop} {i:Nat} {x:Str} {v:V} {u:Value} {Q:Unit->Shared->Prop} (I:Inv X pins σ H s) (hN:X.N.Nodup) (hi:X.N[i]?=some x) (hx:Loc X.env.scope x) (r:RelV v u)
    (h:∀ s',Inv X pins (σ.set i (some v)) H s'->Q () s') (hf:X.fn x=true\/X.env.scope.names.lookup x=some .local:=by first | exact .inl rfl | exact .inr rfl | assumption):wpAny M A (storeName X.env x u) Q E s:=
  Iv I hN hi hx r (fun s' I' _=>h s' I') hf
theorem Inv.call' {s':Shared} {ch:List Addr} (I:Inv X pins σ H s) (ho:s'.os=s.os) (u:Un (PH X.stack) ch H H' s.heap s'.heap) (hok:Eh X.prog X.w H' s'.heap) (hg:AllBare s'.gens)
    (hch:∀ b∈ch,(b∈X.ex\/X.s₀.heap.objs.size<=b)/\b≠X.env.locals/\(∀ x c,X.env.cells.lookup x=some c->c≠b)/\∀ p∈X.pn++pins,p.1≠b):Inv X pins σ H' s':=by
  obtain ⟨h',g',d',t',o'⟩:=s';have e:o'=s.os:=ho;subst e;exact I.call (g':=g') (t':=t') (d':=d') u hok hg hch
end
abbrev XK:=Value->Option Addr->Hp->Prop
noncomputable abbrev St:=List (Option V)
abbrev VK:=V->Hp->Prop
abbrev TE:=St->Hp->VK->Prop
abbrev TT:=St->Hp->(Bool->Hp->Prop)->Prop
abbrev TA:=St->Hp->(List V->Hp->Prop)->Prop
structure Ends where
 nx:St->Hp->Prop
 rt:VK
 bk:St->Hp->Prop:=fun _ _=>False
 ct:St->Hp->Prop:=fun _ _=>False
abbrev TS:=Ends->St->Hp->Prop
def EP (X:Cx) (pins:List (Addr×Obj)) (σ:St) (Q:VK) (u:Value) (s':Shared):Prop:=∃ v H',Inv X pins σ H' s'/\RelV v u/\Q v H'
def TP (X:Cx) (pins:List (Addr×Obj)) (σ:St) (Q:Bool->Hp->Prop) (b:Bool) (s':Shared):Prop:=∃ H',Inv X pins σ H' s'/\Q b H'
def AP (X:Cx) (pins:List (Addr×Obj)) (σ:St) (Q:List V->Hp->Prop) (us:List Value) (s':Shared):Prop:=∃ vs H',Inv X pins σ H' s'/\AE vs us/\Q vs H'
def SP (X:Cx) (pins:List (Addr×Obj)) (D:Ends) (f:Flow) (s':Shared):Prop:=
 match f with
 | .next=>∃ σ' H',Inv X pins σ' H' s'/\D.nx σ' H'
 | .brk=>∃ σ' H',Inv X pins σ' H' s'/\D.bk σ' H'
 | .cont=>∃ σ' H',Inv X pins σ' H' s'/\D.ct σ' H'
 | .ret u=>∃ v σ' H',Inv X pins σ' H' s'/\RelV v u/\D.rt v H'
def PE (X:Cx) (e:Expr) (t:TE):Prop:=
 ∀ (pins:List (Addr×Obj)) (s:Shared) (σ:St) (H:Hp) (Q:VK),Inv X pins σ H s->t σ H Q->wpAny (model X.prog X.w) X.A (eval e X.env) (EP X pins σ Q) X.xe s
def PT (X:Cx) (e:Expr) (t:TT):Prop:=
 ∀ (pins:List (Addr×Obj)) (s:Shared) (σ:St) (H:Hp) (Q:Bool->Hp->Prop),Inv X pins σ H s->t σ H Q->wpAny (model X.prog X.w) X.A (isTrue e X.env (eval e X.env)) (TP X pins σ Q) X.xe s
def PW (X:Cx) (e:Expr) (t:TT):Prop:=
 ∀ (whole:Sem Value) (pins:List (Addr×Obj)) (s:Shared) (σ:St) (H:Hp) (Q:Bool->Hp->Prop),Inv X pins σ H s->t σ H Q->wpAny (model X.prog X.w) X.A (isTrue e X.env whole) (TP X pins σ Q) X.xe s
theorem PW.pt {X:Cx} {e:Expr} {t:TT} (h:PW X e t):PT X e t:=h _
def PA (X:Cx) (es:List Expr) (t:TA):Prop:=
 ∀ (pos:Pos) (pins:List (Addr×Obj)) (s:Shared) (σ:St) (H:Hp) (Q:List V->Hp->Prop),Inv X pins σ H s->t σ H Q->wpAny (model X.prog X.w) X.A (spliced (backTo pos (starEach es X.env))) (AP X pins σ Q) X.xe s
def PS (X:Cx) (st:Stmt) (t:TS):Prop:=
 ∀ (pins:List (Addr×Obj)) (s:Shared) (σ:St) (H:Hp) (D:Ends),Inv X pins σ H s->t D σ H->wpAny (model X.prog X.w) X.A (exec st X.env) (SP X pins D) X.xe s
def DQ (X:Cx) (st:List Stmt) (t:TS):Prop:=
 ∀ (pins:List (Addr×Obj)) (s:Shared) (σ:St) (H:Hp) (D:Ends),Inv X pins σ H s->t D σ H->wpAny (model X.prog X.w) X.A (execs st X.env) (SP X pins D) X.xe s
theorem Ap {α:Type} {t:Sem α} {Q Q':α->Shared->Prop} {M:Model} {A:Around} {E:Value->Shared->Prop} {s:Shared} (h:wpAny M A t Q E s) (hQ:∀ a s,Q a s->Q' a s):wpAny M A t Q' E s:=wpAny_mono h hQ fun _ _ x=>x
section
variable {X:Cx}
theorem bin {a b:Expr} {ta tb:TE} (ha:PE X a ta) (hb:PE X b tb) {pins:List (Addr×Obj)} {s:Shared} {σ:St} {H:Hp} {R:V->V->Hp->Prop} (I:Inv X pins σ H s) (h:ta σ H fun x H1=>tb σ H1 fun y H2=>R x y H2)
    {α:Type} {Q:α->Shared->Prop} {f:Value->Value->Sem α}
    (hf:∀ v u s2 x y H2,Inv X pins σ H2 s2->RelV x v->RelV y u->R x y H2->wpAny (model X.prog X.w) X.A (f v u) Q X.xe s2) :
    wpAny (model X.prog X.w) X.A (eval a X.env) (fun v s₁=>wpAny (model X.prog X.w) X.A (eval b X.env) (fun u s₂=>wpAny (model X.prog X.w) X.A (f v u) Q X.xe s₂) X.xe s₁) X.xe s:=by
  refine Ap (ha pins s σ H _ I h) fun v s1 ⟨x,H1,I1,r1,q1⟩=>?_
  refine Ap (hb pins s1 σ H1 _ I1 q1) fun u s2 ⟨y,H2,I2,r2,q2⟩=>?_
  exact hf v u s2 x y H2 I2 r1 r2 q2
abbrev HA (i:Nat):TE:=fun σ H Q=>∃ v,σ[i]?=some (some v)/\Q v H
abbrev tC (v:V):TE:=fun _ H Q=>Q v H
theorem Tn {i:Nat} {x:Str} {pos:Pos} (hN:X.N[i]?=some x) (hv:eT X.env.scope x) (hd:(x == ("__debug__" : Str))=false:=by decide) (hcd:(x == ("__classdict__" : Str))=false:=by decide):PE X (.Name x pos) (HA i):=by
 intro pins s σ H Q I h;obtain ⟨v,e,h⟩:=h;obtain ⟨m,hn,hl⟩:=I.loc;obtain ⟨u,r,l⟩:=hl i x v hN e hv;have fin:EP X pins σ Q u s:=⟨v,H,I,r,h⟩;rcases l with ⟨hk,hm⟩ | ⟨hk,c,hc,hcell⟩
 ·exact wpAny_Name (wpAny_loadName_local I.ok.kind hk hn hm fin) hd
 ·rcases hk with hk | hk
  ·exact wpAny_Name (wpAny_loadName_cell I.ok.kind hk hc hcell fin) hd
  ·exact wpAny_Name (wpAny_loadName_free I.ok.kind hk hc hcell fin hcd) hd
theorem bT {i j pos}:PE X (.Constant (.int i) j pos) (tC (.int i)):=fun _ _ _ H _ I h=>wpAny_Constant_int ⟨.int i,H,I.tok _,⟨_,rfl⟩,h⟩
theorem gS {b j pos}:PE X (.Constant (.bool b) j pos) (tC (.bl b)):=fun _ _ _ H _ I h=>Constant_bool ⟨.bl b,H,I,rfl,h⟩
theorem bR {j pos}:PE X (.Constant .none j pos) (tC .non):=fun _ _ _ H _ I h=>Constant_none ⟨.non,H,I,rfl,h⟩
theorem bO {x j pos}:PE X (.Constant (.str x) j pos) (tC (.str x)):=fun _ _ _ H _ I h=>Calls.Constant_str ⟨.str x,H,I.tok _,⟨_,rfl⟩,h⟩
def Gl (X:Cx) (x:Str):Prop:=X.env.kindOf x=some .globalImplicit
theorem KM {E:Value->Shared->Prop} {pins:List (Addr×Obj)} {s:Shared} {σ:St} {H:Hp} {x:Str} {u:Value} {pos:Pos} {Q:Value->Shared->Prop} (I:Inv X pins σ H s) (hg:Gl X x) (hm:X.mg x=some u) (h:Q u s)
    (hd:(x == ("__debug__" : Str))=false:=by decide):wpAny (model X.prog X.w) X.A (eval (.Name x pos) X.env) Q E s:=
  Calls.Name_function_global I.ok.kind hg (Calls.loadGlobal_global (by rw [I.ok.glob];exact I.mod.glob.keeps I.bk) hm h) hd
theorem Bc {E:Value->Shared->Prop} {pins:List (Addr×Obj)} {s:Shared} {σ:St} {H:Hp} {x:Str} {u:Value} {pos:Pos} {Q:Value->Shared->Prop} (I:Inv X pins σ H s) (hg:Gl X x) (hm:X.mg x=none) (hv:bootBuiltins x=some u) (h:Q u s)
    (hn:x ≠ "__name__" := by decide) (hd:(x == ("__debug__" : Str))=false:=by decide):wpAny (model X.prog X.w) X.A (eval (.Name x pos) X.env) Q E s:=by
  obtain ⟨mb,h1,h2⟩:=I.mod.blt;exact Calls.Name_function_global I.ok.kind hg (Calls.loadGlobal_builtin (by rw [I.ok.glob];exact I.mod.glob.keeps I.bk) hm (by rw [I.ok.blt];exact h1.keeps I.bk) ((h2 x hn).trans hv) h) hd
theorem XF {x:Str} {v:V} {u:Value} {pos:Pos} (hg:Gl X x) (hm:X.mg x=some u) (r:RelV v u) (hd:(x == ("__debug__" : Str))=false:=by decide):PE X (.Name x pos) (tC v):=
 fun _ _ _ H _ I h=>KM I hg hm ⟨v,H,I,r,h⟩ hd
theorem XI {x:Str} {v:V} {u:Value} {pos:Pos} (hg:Gl X x) (hm:X.mg x=none) (hv:bootBuiltins x=some u) (r:RelV v u) (hn:x ≠ "__name__" := by decide) (hd:(x == ("__debug__" : Str))=false:=by decide):PE X (.Name x pos) (tC v):=
 fun _ _ _ H _ I h=>Bc I hg hm hv ⟨v,H,I,r,h⟩ hn hd
variable {a b:Expr} {ta tb:TE} {pos:Pos}
variable {tA Yx:TT} {rest:List Expr}
abbrev fK (t u:TT):TT:=fun σ H Q=>t σ H fun c H1=>if c=true then u σ H1 Q else Q false H1
abbrev ku (t u:TT):TT:=fun σ H Q=>t σ H fun c H1=>if c=true then Q true H1 else u σ H1 Q
abbrev fB (t:TT):TT:=fun σ H Q=>t σ H fun c H1=>Q (!c) H1
theorem Wj (ha:PT X a tA):PW X (.BoolOp .And [a] pos) tA:=by
 intro wh pins s σ H Q I h;refine isTrue_and (Ap (ha pins s σ H Q I h) fun c s1 e=>?_);cases c with
 | true=>exact isTrue_and_nil e
 | false=>exact e
theorem av (ha:PT X a tA):PW X (.BoolOp .Or [a] pos) tA:=by
 intro wh pins s σ H Q I h;refine isTrue_or (Ap (ha pins s σ H Q I h) fun c s1 e=>?_);cases c with
 | false=>exact isTrue_or_nil e
 | true=>exact e
theorem aw (ha:PT X a tA) (hb:PW X (.BoolOp .And (b::rest) pos) Yx):PW X (.BoolOp .And (a::b::rest) pos) (fK tA Yx):=by
 intro wh pins s σ H Q I h;refine isTrue_and (Ap (ha pins s σ H _ I h) fun c s1 ⟨H1,I1,q1⟩=>?_);cases c with
 | true=>exact hb wh pins s1 σ H1 Q I1 q1
 | false=>exact ⟨H1,I1,q1⟩
theorem gI (ha:PT X a tA) (hb:PW X (.BoolOp .Or (b::rest) pos) Yx):PW X (.BoolOp .Or (a::b::rest) pos) (ku tA Yx):=by
 intro wh pins s σ H Q I h;refine isTrue_or (Ap (ha pins s σ H _ I h) fun c s1 ⟨H1,I1,q1⟩=>?_);cases c with
 | true=>exact ⟨H1,I1,q1⟩
 | false=>exact hb wh pins s1 σ H1 Q I1 q1
theorem ax (ha:PT X a tA):PT X (.UnaryOp .Not a pos) (fB tA):=by
 intro pins s σ H Q I h;exact isTrue_not (ha pins s σ H (fun c H1=>Q (!c) H1) I h)
abbrev Yy (ta tb:TE):TE:=fun σ H Q=>ta σ H fun x H1=>∃ c,x=.bl c/\if c=true then tb σ H1 Q else Q (.bl false) H1
abbrev fA (ta tb:TE):TE:=fun σ H Q=>ta σ H fun x H1=>∃ c,x=.bl c/\if c=true then Q (.bl true) H1 else tb σ H1 Q
abbrev Yt (ta:TE):TE:=fun σ H Q=>ta σ H fun x H1=>∃ c,x=.bl c/\Q (.bl (!c)) H1
theorem bP {op} {t:TE} (h:PE X a t):PE X (.BoolOp op [a] pos) t:=fun pins s σ H Q I hw=>BoolOp_one (h pins s σ H Q I hw)
theorem bU (ha:PE X a ta) (hb:PE X (.BoolOp .And (b::rest) pos) tb):PE X (.BoolOp .And (a::b::rest) pos) (Yy ta tb):=by
 intro pins s σ H Q I h;refine BoolOp_and (Ap (ha pins s σ H _ I h) fun v s1 ⟨x,H1,I1,r1,q1⟩=>?_);obtain ⟨c,rfl,q1⟩:=q1;cases r1;refine wpAny_truthy_bool ?_;cases c with
 | true=>exact hb pins s1 σ H1 Q I1 q1
 | false=>exact ⟨.bl false,H1,I1,rfl,q1⟩
theorem gO (ha:PE X a ta) (hb:PE X (.BoolOp .Or (b::rest) pos) tb):PE X (.BoolOp .Or (a::b::rest) pos) (fA ta tb):=by
 intro pins s σ H Q I h;refine BoolOp_or (Ap (ha pins s σ H _ I h) fun v s1 ⟨x,H1,I1,r1,q1⟩=>?_);obtain ⟨c,rfl,q1⟩:=q1;cases r1;refine wpAny_truthy_bool ?_;cases c with
 | false=>exact hb pins s1 σ H1 Q I1 q1
 | true=>exact ⟨.bl true,H1,I1,rfl,q1⟩
theorem bQ (ha:PE X a ta):PE X (.UnaryOp .Not a pos) (Yt ta):=by
 intro pins s σ H Q I h;refine UnaryOp_ (Ap (ha pins s σ H _ I h) fun v s1 ⟨x,H1,I1,r1,q1⟩=>?_);obtain ⟨c,rfl,q1⟩:=q1;cases r1;exact not_of (wpAny_truthy_bool ⟨.bl (!c),H1,I1,rfl,q1⟩)
abbrev kz (t:TT) (ta tb:TE):TE:=fun σ H Q=>t σ H fun c H1=>if c=true then ta σ H1 Q else tb σ H1 Q
theorem Tp {c:Expr} (hc:PT X c tA) (ha:PE X a ta) (hb:PE X b tb):PE X (.IfExp c a b pos) (kz tA ta tb):=by
 intro pins s σ H Q I h;refine wpAny_IfExp (Ap (hc pins s σ H _ I h) fun d s1 ⟨H1,I1,q1⟩=>?_);cases d with
 | true=>exact ha pins s1 σ H1 Q I1 q1
 | false=>exact hb pins s1 σ H1 Q I1 q1
end
def DA (K:W.Frag) (H:Hp) (a:Addr) (xs:List V):Prop:=
 Rd H a (.lst xs) \/
  ∃ (o:Obj) (its:Array Value) (n:Nat),K.lookup a=some o/\o.cls=.type "list" /\ o.dict=none/\o.data=.seq its n/\its.size<=sizeLine/\AE xs its.toList
def Eg (K:W.Frag) (H:Hp) (a:Addr) (xs:List V):Prop:=
 Rd H a (.tup xs) \/
  ∃ (o:Obj) (its:Array Value) (n:Nat),K.lookup a=some o/\o.cls=.type "tuple" /\ o.data=.seq its n/\its.size<=sizeLine/\AE xs its.toList
noncomputable def ka:Value->Option V
 | .none=>some .non
 | .bool b=>some (.bl b)
 | .int i _=>some (.int i)
 | .str x _=>some (.str x)
 | .bytes b _=>some (.byt b)
 | .float b _=>some (.flt b)
 | .ref a=>some (.ref a)
 | .type n=>some (.ty n)
 | _=>none
theorem RelV.abs {x:V} {u:Value} (r:RelV x u):ka u=some x:=by
 cases x with
 | non=>cases r;rfl
 | bl _=>cases r;rfl
 | int _=>obtain ⟨t,rfl⟩:=r;rfl
 | str _=>obtain ⟨t,rfl⟩:=r;rfl
 | byt _=>obtain ⟨t,rfl⟩:=r;rfl
 | flt _=>obtain ⟨t,rfl⟩:=r;rfl
 | ref _=>cases r;rfl
 | ty _=>cases r;rfl
theorem RelV.inj {x y:V} {u:Value} (r:RelV x u) (q:RelV y u):x=y:=Option.some.inj (r.abs.symm.trans q.abs)
theorem AE.inj:∀ {xs ys:List V} {us:List Value},AE xs us->AE ys us->xs=ys
 | _,_,_,.nil,.nil=>rfl
 | _,_,_,.cons r t,.cons r' t'=>by rw [r.inj r',AE.inj t t']
section
variable {X:Cx} {pins:List (Addr×Obj)} {σ:St} {H:Hp} {s:Shared} {a:Addr} {xs ys:List V}
theorem Inv.list (I:Inv X pins σ H s) (h:DA X.K H a xs):∃ its:List Value,AE xs its/\PlainL s.heap a its.toArray/\xs.length<=sizeLine:=by
 rcases h with h | ⟨o,its,n,hk,hc,hd,hs,hz,r⟩
 ·obtain ⟨z,its,n,r,e⟩:=h.ok I.hok;exact ⟨its,r,⟨_,n,e,rfl,rfl,rfl⟩,z⟩
 ·refine ⟨its.toList,r,⟨o,n,I.kIn a o hk,hc,hd,by simpa using hs⟩,?_⟩;have e:=r.length;simp only [Array.length_toList] at e;omega
theorem Inv.tuple (I:Inv X pins σ H s) (h:Eg X.K H a xs):∃ its:List Value,AE xs its/\IsTup s.heap a its.toArray/\xs.length<=sizeLine:=by
 rcases h with h | ⟨o,its,n,hk,hc,hs,hz,r⟩
 ·obtain ⟨z,its,r,p⟩:=h.ok I.hok;exact ⟨its,r,p.tup,z⟩
 ·refine ⟨its.toList,r,⟨o,I.kIn a o hk,hc,n,by simpa using hs⟩,?_⟩;have e:=r.length;simp only [Array.length_toList] at e;omega
theorem Inv.list_inj (I:Inv X pins σ H s) (h:DA X.K H a xs) (h':DA X.K H a ys):xs=ys:=by
 obtain ⟨its,r,⟨o,n,e,_,_,d⟩,_⟩:=I.list h;obtain ⟨its',r',⟨o',n',e',_,_,d'⟩,_⟩:=I.list h';rw [e] at e';cases e';rw [d] at d';injection d' with d1 _
 have:its=its':=by simpa using congrArg Array.toList d1
 subst this;exact r.inj r'
theorem Inv.tuple_inj (I:Inv X pins σ H s) (h:Eg X.K H a xs) (h':Eg X.K H a ys):xs=ys:=by
 obtain ⟨its,r,⟨o,e,_,n,d⟩,_⟩:=I.tuple h;obtain ⟨its',r',⟨o',e',_,n',d'⟩,_⟩:=I.tuple h';rw [e] at e';cases e';rw [d] at d';injection d' with d1 _
 have:its=its':=by simpa using congrArg Array.toList d1
 subst this;exact r.inj r'
end
noncomputable abbrev Cx.wish (X:Cx) (E:Value->Shared->Prop):Cx:={ X with xe:=E }
noncomputable abbrev Cx.nox (X:Cx):Cx:=X.wish fun _ _=>False
theorem Cx.Ok.wish {X:Cx} (ok:X.Ok) (E:Value->Shared->Prop):(X.wish E).Ok:=
 ⟨ok.mod,ok.kind,ok.glob,ok.blt,ok.above,ok.inj,ok.has,ok.cab,ok.hd,ok.frames,ok.stk,ok.exf,ok.bs,ok.bsz,ok.noex,ok.exfs,ok.funs,ok.frf⟩
theorem Cx.Ok.unwish {X:Cx} {E:Value->Shared->Prop} (ok:(X.wish E).Ok):X.Ok:=
 ⟨ok.mod,ok.kind,ok.glob,ok.blt,ok.above,ok.inj,ok.has,ok.cab,ok.hd,ok.frames,ok.stk,ok.exf,ok.bs,ok.bsz,ok.noex,ok.exfs,ok.funs,ok.frf⟩
section
variable {X:Cx} {pins:List (Addr×Obj)} {σ:St} {H:Hp} {s:Shared} {E:Value->Shared->Prop}
theorem Inv.wish (I:Inv X pins σ H s) (E:Value->Shared->Prop):Inv (X.wish E) pins σ H s:=⟨I.ok.wish E,I.os,I.bare,I.base,I.loc,I.cell,I.free,I.freeC,I.pin,I.hok,I.len⟩
theorem Inv.unwish (I:Inv (X.wish E) pins σ H s):Inv X pins σ H s:=⟨I.ok.unwish,I.os,I.bare,I.base,I.loc,I.cell,I.free,I.freeC,I.pin,I.hok,I.len⟩
theorem SP.unwish {D:Ends} {f:Flow} {s':Shared} (h:SP (X.wish E) pins D f s'):SP X pins D f s':=by
 cases f with
 | next=>obtain ⟨σ',H',I,q⟩:=h;exact ⟨σ',H',I.unwish,q⟩
 | brk=>obtain ⟨σ',H',I,q⟩:=h;exact ⟨σ',H',I.unwish,q⟩
 | cont=>obtain ⟨σ',H',I,q⟩:=h;exact ⟨σ',H',I.unwish,q⟩
 | ret u=>obtain ⟨v,σ',H',I,r,q⟩:=h;exact ⟨v,σ',H',I.unwish,r,q⟩
theorem DQ.nox {st:List Stmt} {t:TS} (h:DQ X.nox st t):DQ X st t:=fun pins s σ H D I hw =>
 wpAny_mono (h pins s σ H D (I.wish _) hw) (fun _ _ q=>q.unwish) fun _ _ z=>False.elim z
end
section
variable {X:Cx} {st:Stmt} {rest:List Stmt} {t u:TS} {e:Expr} {te:TE} {pos:Pos}
abbrev SS:TS:=fun D σ H=>D.nx σ H
abbrev jV (t u:TS):TS:=fun D σ H=>t { D with nx:=u D } σ H
theorem Wn:DQ X [] SS:=fun _ _ σ H _ I h=>wpAny_execs_nil ⟨σ,H,I,h⟩
theorem Lh (h1:PS X st t) (h2:DQ X rest u):DQ X (st::rest) (jV t u):=by
 intro pins s σ H D I h;refine wpAny_execs_cons (Ap (h1 pins s σ H { D with nx:=u D } I h) fun f s1 q=>?_);cases f with
 | next =>
  obtain ⟨σ',H',I',q⟩:=q;exact h2 pins s1 σ' H' D I' q
 | ret v=>exact q
 | brk=>exact q
 | cont=>exact q
theorem Wm (h1:PS X st t):DQ X [st] t:=by
 intro pins s σ H D I h;refine wpAny_execs_cons (Ap (h1 pins s σ H D I h) fun f s1 q=>?_);cases f with
 | next=>exact wpAny_execs_nil q
 | ret v=>exact q
 | brk=>exact q
 | cont=>exact q
abbrev aL:TS:=fun D σ H=>D.bk σ H
abbrev fH:TS:=fun D σ H=>D.ct σ H
theorem Wo:PS X (.Pass pos) SS:=fun _ _ σ H _ I h=>wpAny_Pass ⟨σ,H,I,h⟩
theorem TR:PS X (.Break pos) aL:=fun _ _ σ H _ I h=>wpAny_Break ⟨σ,H,I,h⟩
theorem Ll:PS X (.Continue pos) fH:=fun _ _ σ H _ I h=>wpAny_Continue ⟨σ,H,I,h⟩
theorem Inv.quiet {pins:List (Addr×Obj)} {σ:St} {H:Hp} {s:Shared} (I:Inv X pins σ H s):interactive X.env=false:=by simp [interactive,I.ok.kind]
theorem bB {x j pos pos'}:PS X (.Expr (.Constant (.str x) j pos) pos') SS:=fun _ s σ H _ I h=>wpAny_Expr (Calls.Constant_str (show SP X _ _ .next { s with toks:=s.toks+1 } from ⟨σ,H,I.tok _,h⟩)) I.quiet
abbrev fG (te:TE):TS:=fun D σ H=>te σ H fun _ H1=>D.nx σ H1
theorem Wp (he:PE X e te) (hs:swapsWith e none pos.line X.env=pure false:=by rfl):PS X (.Expr e pos) (fG te):=by
 intro pins s σ H D I h;exact wpAny_Expr_any (Ap (he pins s σ H _ I h) fun v s1 ⟨x,H1,I1,r1,q1⟩=>⟨σ,H1,I1,q1⟩) I.quiet hs
abbrev jW (te:TE):TS:=fun D σ H=>te σ H D.rt
theorem az (he:PE X e te):PS X (.Return (some e) pos) (jW te):=by
 intro pins s σ H D I h;exact wpAny_Return_some (Ap (he pins s σ H _ I h) fun v s1 ⟨x,H1,I1,r1,q1⟩=>⟨x,σ,H1,I1,r1,q1⟩)
abbrev jZ (c:TT) (t u:TS):TS:=fun D σ H=>c σ H fun b H1=>if b=true then t D σ H1 else u D σ H1
theorem gK {c:Expr} {a b:List Stmt} {tc:TT} (hc:PT X c tc) (ha:DQ X a t) (hb:DQ X b u):PS X (.If c a b pos) (jZ tc t u):=by
 intro pins s σ H D I h;refine wpAny_If (Ap (hc pins s σ H _ I h) fun d s1 ⟨H1,I1,q1⟩=>?_);cases d with
 | true=>exact ha pins s1 σ H1 D I1 q1
 | false=>exact hb pins s1 σ H1 D I1 q1
end
abbrev TG:=V->St->Hp->(St->Hp->Prop)->Prop
abbrev OM:=List V->St->Hp->(St->Hp->Prop)->Prop
def PG (X:Cx) (target:Expr) (t:TG):Prop:=
 ∀ (pins:List (Addr×Obj)) (s:Shared) (σ:St) (H:Hp) (v:V) (u:Value) (Q:St->Hp->Prop),Inv X pins σ H s->RelV v u->t v σ H Q ->
  wpAny (model X.prog X.w) X.A (assign target X.env u) (fun _ s'=>∃ σ' H',Inv X pins σ' H' s'/\Q σ' H') X.xe s
def eU (X:Cx) (ts:List Expr) (t:OM):Prop:=
 ∀ (pins:List (Addr×Obj)) (s:Shared) (σ:St) (H:Hp) (vs:List V) (us:List Value) (Q:St->Hp->Prop),Inv X pins σ H s->AE vs us->t vs σ H Q ->
  wpAny (model X.prog X.w) X.A (assignInOrder ((assignEach ts X.env).map (·.2)) us) (fun _ s'=>∃ σ' H',Inv X pins σ' H' s'/\Q σ' H') X.xe s
abbrev OL:=V->V->V->Hp->(Hp->Prop)->Prop
def Kz (X:Cx) (t:OL):Prop:=
 ∀ (pins:List (Addr×Obj)) (s:Shared) (σ:St) (H:Hp) (o i v:V) (ov iv u:Value) (Q:Hp->Prop),Inv X pins σ H s->RelV o ov->RelV i iv->RelV v u->t o i v H Q ->
  wpAny (model X.prog X.w) X.A (setItem ov iv u) (fun _ s'=>∃ H',Inv X pins σ H' s'/\Q H') X.xe s
abbrev jN:=V->V->Hp->VK->Prop
def kg (X:Cx) (op:Operator) (t:jN):Prop:=
 ∀ (pins:List (Addr×Obj)) (s:Shared) (σ:St) (H:Hp) (x y:V) (v u:Value) (Q:VK),Inv X pins σ H s->RelV x v->RelV y u->t x y H Q ->
  wpAny (model X.prog X.w) X.A (inplaceOp op v u) (EP X pins σ Q) X.xe s
section
variable {X:Cx} {pos:Pos}
abbrev Dk (i:Nat):TG:=fun v σ H Q=>Q (σ.set i (some v)) H
theorem XD {i:Nat} {x:Str} (hN:X.N.Nodup) (hi:X.N[i]?=some x) (hx:Loc X.env.scope x) (hf:X.fn x=true\/X.env.scope.names.lookup x=some .local:=by first | exact .inl rfl | exact .inr rfl | assumption):PG X (.Name x pos) (Dk i):=by
 intro pins s σ H v u Q I r h;exact wpAny_assign_Name (DT I hN hi hx r (fun s' I'=>⟨_,H,I',h⟩) hf)
abbrev cX:OM:=fun vs σ H Q=>vs=[]/\Q σ H
abbrev UW (t:TG) (u:OM):OM:=fun vs σ H Q=>∃ v r,vs=v::r/\t v σ H fun σ' H'=>u r σ' H' Q
theorem XC:eU X [] cX:=by
 intro pins s σ H vs us Q I r h;obtain ⟨e,h⟩:=h;subst e;cases r;exact assignInOrder_nil ⟨σ,H,I,h⟩
theorem Tj {e:Expr} {es:List Expr} {t:TG} {u:OM} (h1:PG X e t) (h2:eU X es u)
    (hs:(assignEach (e::es) X.env).map (·.2)=assign e X.env::(assignEach es X.env).map (·.2):=by rfl):eU X (e::es) (UW t u):=by
  intro pins s σ H vs us Q I r h;obtain ⟨v,vr,e1,h⟩:=h;subst e1;cases r with
  | cons r rr =>
    rw [hs];refine assignInOrder_cons (Ap (h1 pins s σ H _ _ _ I r h) fun _ s1 ⟨σ1,H1,I1,q1⟩=>?_);exact h2 pins s1 σ1 H1 _ _ Q I1 rr q1
abbrev cW (K:W.Frag) (n:Nat) (t:OM):TG:=fun v σ H Q=>∃ a xs,v=.ref a/\Eg K H a xs/\xs.length=n/\t xs σ H Q
theorem bK {es:List Expr} {k:Nat} {t:OM} {n:Nat} (hc:X.calm=true) (h:eU X es t)
    (hn:(assignEach es X.env).length=n:=by rfl) (hst:(assignEach es X.env).findIdx? (·.1)=none:=by rfl):PG X (.Tuple es k pos) (cW X.K n t):=by
  intro pins s σ H v u Q I r hw;obtain ⟨a,xs,e1,hq,hl,hw⟩:=hw;subst e1;cases r;obtain ⟨its,rv,ht,hz⟩:=I.tuple hq;refine assign_Tuple_tuple (I.ok.hd hc) ht (by simp [hn,<- hl,rv.length]) hst fun h' hx=>?_
  have I1:Inv X pins σ H { s with heap:=h' }:=I.kept (t':=s.toks) fun b o e=>hx b o (mh (mO e)) e
  exact h pins _ σ H xs _ Q I1 (by simpa using rv) hw
abbrev hX (to ti:TE) (t:OL):TG:=fun v σ H Q=>to σ H fun o H1=>ti σ H1 fun i H2=>t o i v H2 fun H3=>Q σ H3
theorem bL {o i:Expr} {to ti:TE} {t:OL} (ho:PE X o to) (hi:PE X i ti) (hs:Kz X t)
    (ha:∀ v,assign (.Subscript o i pos) X.env v=(do
      let ov <- holding [v] (eval o X.env)
      let iv <- holding [v,ov] (eval i X.env)
      standAt pos
      holding [v,ov,iv] (setItem ov iv v)
      release [v,ov,iv] []):=by intro _;rfl):PG X (.Subscript o i pos) (hX to ti t):=by
  intro pins s σ H v u Q I r h;rw [ha];refine wpAny_bind (wpAny_holding (Ap (ho pins s σ H _ I h) fun ov s1 ⟨x,H1,I1,r1,q1⟩=>?_));refine wpAny_bind (wpAny_holding (Ap (hi pins s1 σ H1 _ I1 q1) fun iv s2 ⟨y,H2,I2,r2,q2⟩=>?_));refine wpAny_bind (wpAny_standAt (wpAny_bind (wpAny_holding (Ap (hs pins s2 σ H2 x y v ov iv u _ I2 r1 r2 r q2) fun _ s3 ⟨H3,I3,q3⟩=>?_))));exact wpAny_release ⟨σ,H3,I3,q3⟩
abbrev Mt (te:TE) (g:TG):TS:=fun D σ H=>te σ H fun x H1=>g x σ H1 D.nx
theorem TV {tg e:Expr} {te:TE} {g:TG} (he:PE X e te) (hg:PG X tg g) (hs:swapsWithSole [tg] e pos.line X.env=pure false:=by rfl) (hw:swappedStores [tg] e X.env=pure none:=by rfl)
    (h1:(assignEach [tg] X.env).map (·.2)=[assign tg X.env]:=by rfl):PS X (.Assign [tg] e pos) (Mt te g):=by
  intro pins s σ H D I h;refine wpAny_Assign_stores (Ap (he pins s σ H _ I h) fun v s1 ⟨x,H1,I1,r1,q1⟩=>?_) hs hw;rw [h1];exact Ap (hg pins s1 σ H1 x v _ I1 r1 q1) fun _ s2 q=>q
theorem ay {i:Nat} {x:Str} {e:Expr} {te:TE} {pos':Pos} (hN:X.N.Nodup) (hi:X.N[i]?=some x) (hx:Loc X.env.scope x) (he:PE X e te) (hs:swapsWith e (some (.Name x pos')) pos.line X.env=pure false:=by rfl) (hf:X.fn x=true\/X.env.scope.names.lookup x=some .local:=by first | exact .inl rfl | exact .inr rfl | assumption) :
    PS X (.Assign [.Name x pos'] e pos) (Mt te (Dk i)):=by
  intro pins s σ H D I h;refine wpAny_Assign_Name (Ap (he pins s σ H _ I h) fun v s1 ⟨y,H1,I1,r1,q1⟩=>?_) hs;exact DT I1 hN hi hx r1 (fun s2 I2=>⟨_,H1,I2,q1⟩) hf
abbrev jX (i j:Nat) (ta:TA):TS:=fun D σ H=>ta σ H fun vs H1=>∃ v w,vs=[v,w]/\D.nx ((σ.set i (some v)).set j (some w)) H1
theorem bA {i j:Nat} {x y:Str} {a b:Expr} {ta:TA} {px py pt:Pos} {kt k2 pt2} (hc:X.calm=true) (hN:X.N.Nodup) (hi:X.N[i]?=some x) (hj:X.N[j]?=some y) (hij:i≠j)
    (hx:X.env.scope.names.lookup x=some .local) (hy:X.env.scope.names.lookup y=some .local) (ha:PA X [a,b] ta)
    (hw:swappedStores [.Tuple [.Name x px,.Name y py] kt pt] (.Tuple [a,b] k2 pt2) X.env=pure (some [x,y]))
    (hs:swapsWithSole [.Tuple [.Name x px,.Name y py] kt pt] (.Tuple [a,b] k2 pt2) pos.line X.env=pure false:=by rfl) :
    PS X (.Assign [.Tuple [.Name x px,.Name y py] kt pt] (.Tuple [a,b] k2 pt2) pos) (jX i j ta):=by
  intro pins s σ H D I h;rw [exec_Assign_arm];refine wpAny_bind (wpAny_standAt ?_);rw [hs];refine wpAny_bind (wpAny_pure ?_);rw [if_neg (by decide)];refine wpAny_bind (Tuple_ (Ap (ha _ pins s σ H _ I h) fun us s1 ⟨vs,H1,I1,r1,q1⟩=>?_));obtain ⟨v,w,e1,q1⟩:=q1;subst e1;obtain ⟨u1,u2,rfl,rv,rw'⟩:∃ u1 u2,us=[u1,u2]/\RelV v u1/\RelV w u2:=by
    cases r1 with
    | cons p q =>
      cases q with
      | cons p' q' =>
        cases q';exact ⟨_,_,rfl,p,p'⟩
  refine wpAny_newObj_type ?_ (by show 2<=sizeLine;decide)
  have I2:Inv X pins σ H1 { s1 with heap:=s1.heap.push { cls:=.type "tuple", data:=.seq [u1,u2].toArray } }:=I1.kept (t':=s1.toks) fun b o e=>lx _ e
  rw [hw];refine wpAny_bind (wpAny_pure ?_)
  show wpAny (model X.prog X.w) X.A (do rule "assign.swapped-stores"; let items <- unpackItems (.ref s1.heap.objs.size) 2 none;assignInOrder [fun v=>bindName X.env y v,fun v=>bindName X.env x v] items.reverse;pure Flow.next) _ _ _
  refine wpAny_bind (wpAny_rule (wpAny_bind (unpackItems_tuple (items:=#[u1,u2]) (I.ok.hd hc) (IsTup.new s1.heap _) fun h' hx'=>?_)));have I3:=I2.kept (h':=h') (t':=s1.toks) fun b o e=>hx' b o (mh (mO e)) e
  show wpAny _ _ (assignInOrder [fun v=>bindName X.env y v,fun v=>bindName X.env x v] [u2,u1] >>= fun _=>pure Flow.next) _ _ _;refine wpAny_bind (assignInOrder_cons (wpAny_bindName (DT I3 hN hj (.inl hy) rw' (fun s2 I4=>?_) (.inr hy))));refine assignInOrder_cons (wpAny_bindName (DT I4 hN hi (.inl hx) rv (fun s3 I5=>assignInOrder_nil (wpAny_pure ?_)) (.inr hx)));rw [List.set_comm _ _ (Ne.symm hij)] at I5;exact ⟨_,H1,I5,q1⟩
abbrev fJ (i:Nat) (te:TE) (ti:jN):TS:=fun D σ H=>∃ x,σ[i]?=some (some x)/\te σ H fun y H1=>ti x y H1 fun z H2=>D.nx (σ.set i (some z)) H2
theorem TU {i:Nat} {x:Str} {e:Expr} {te:TE} {op:Operator} {ti:jN} {pos':Pos} (hN:X.N.Nodup) (hi:X.N[i]?=some x) (hx:Loc X.env.scope x) (he:PE X e te) (ho:kg X op ti) (hf:X.fn x=true\/X.env.scope.names.lookup x=some .local:=by first | exact .inl rfl | exact .inr rfl | assumption) :
    PS X (.AugAssign (.Name x pos') op e pos) (fJ i te ti):=by
  intro pins s σ H D I h;obtain ⟨v,e1,h⟩:=h;obtain ⟨m,hn,hl⟩:=I.loc;have vis:eT X.env.scope x:=by rcases hx with k | k;exact .inl k;exact .inr (.inl k)
  obtain ⟨u,r,l⟩:=hl i x v hi e1 vis;refine wpAny_AugAssign_Name ?_;have go:wpAny (model X.prog X.w) X.A (eval e X.env) (fun w s₂=>wpAny (model X.prog X.w) X.A (inplaceOp op u w) (fun r s₃=>wpAny (model X.prog X.w) X.A (storeName X.env x r) (fun _=>SP X pins D .next) X.xe s₃) X.xe s₂) X.xe s:=by
    refine Ap (he pins s σ H _ I h) fun w s1 ⟨y,H1,I1,r1,q1⟩=>?_
    refine Ap (ho pins s1 σ H1 v y u w _ I1 r r1 q1) fun z s2 ⟨zv,H2,I2,r2,q2⟩=>?_
    exact DT I2 hN hi hx r2 (fun s3 I3=>⟨_,H2,I3,q2⟩) hf
  rcases l with ⟨hk,hm⟩ | ⟨hk,c,hc,hcell⟩
  · exact wpAny_loadName_local I.ok.kind hk hn hm go
  · rcases hk with hk | hk
    · exact wpAny_loadName_cell I.ok.kind hk hc hcell go
    · rcases hx with k | k
      · have:X.env.scope.names.lookup x=some .free:=hk;rw [k] at this;cases this
      · have:X.env.scope.names.lookup x=some .free:=hk;rw [k] at this;cases this
def jy (f:Int->Int->Int):jN:=fun x y H Q=>∃ i j,x=.int i/\y=.int j/\Q (.int (f i j)) H
theorem cS:kg X .Add (jy fun i j=>i+j):=by
 intro pins s σ H x y v u Q I r1 r2 h;obtain ⟨i,j,e1,e2,q⟩:=h;subst e1;subst e2;obtain ⟨t,rfl⟩:=r1;obtain ⟨t',rfl⟩:=r2;exact iadd_int ⟨.int _,H,I.tok _,⟨_,rfl⟩,q⟩
theorem cR:kg X .Sub (jy fun i j=>i - j):=by
 intro pins s σ H x y v u Q I r1 r2 h;obtain ⟨i,j,e1,e2,q⟩:=h;subst e1;subst e2;obtain ⟨t,rfl⟩:=r1;obtain ⟨t',rfl⟩:=r2;exact isub_int ⟨.int _,H,I.tok _,⟨_,rfl⟩,q⟩
end
section
variable {X:Cx} {pos:Pos}
def SO (c:TT) (tb:TS):TS:=fun D σ H=>∃ W:Nat->St->Hp->Prop,(∃ m,W m σ H)/\∀ m σ H,W m σ H ->
 c σ H fun b H1=>if b=true then ∃ N:St->Hp->Prop,(∀ σ' H',N σ' H'->∃ m',m' < m/\W m' σ' H')/\tb { D with nx:=N,ct:=N,bk:=D.nx } σ H1 else D.nx σ H1
theorem Li {c:Expr} {body:List Stmt} {tc:TT} {tb:TS} (hp:PassesOwn (model X.prog X.w) X.A X.env X.xe) (hc:PT X c tc) (hb:DQ X body tb):PS X (.While c body [] pos) (SO tc tb):=by
 intro pins s σ H D I h;obtain ⟨W,⟨m0,w0⟩,turn⟩:=h;refine wpAny_While (codeAny_whileLoop (fun n s'=>∃ σ' H',Inv X pins σ' H' s'/\W n σ' H') ?_ m0 ⟨σ,H,I,w0⟩);rintro n s1 ⟨σ1,H1,I1,w1⟩;refine wpAny_passesOwn hp (Ap (hc pins s1 σ1 H1 _ I1 (turn n σ1 H1 w1)) fun b s2 ⟨H2,I2,q2⟩=>?_);cases b with
 | true =>
  obtain ⟨N,hN,q2⟩:=q2;rw [if_pos rfl];refine wpAny_passesOwn hp (Ap (hb pins s2 σ1 H2 _ I2 q2) fun f s3 q3=>?_);cases f with
  | next =>
   obtain ⟨σ3,H3,I3,n3⟩:=q3;obtain ⟨m',hm,w3⟩:=hN σ3 H3 n3;exact ⟨m',hm,σ3,H3,I3,w3⟩
  | cont =>
   obtain ⟨σ3,H3,I3,n3⟩:=q3;obtain ⟨m',hm,w3⟩:=hN σ3 H3 n3;exact ⟨m',hm,σ3,H3,I3,w3⟩
  | brk=>exact q3
  | ret v=>exact q3
 | false =>
  rw [if_neg mT];exact wpAny_execs_nil ⟨σ1,H2,I2,q2⟩
end
structure It where
 go:Nat->Hp->Prop
 yld:Nat->Hp->V->Hp->Prop
 stop:Nat->Hp->Prop
def FpOk (X:Cx) (pins:List (Addr×Obj)) (H:Hp) (b:Addr):Prop:=
 H b=none/\b≠X.env.locals/\b∉X.fs/\(b∈X.ex\/X.s₀.heap.objs.size<=b)/\(∀ x c,X.env.cells.lookup x=some c->c≠b)/\∀ p∈X.pn++pins,p.1≠b
theorem Inv.fpOk {X:Cx} {pins:List (Addr×Obj)} {σ:St} {H H':Hp} {s:Shared} {b:Addr} (I:Inv X pins σ H s) (hb:s.heap.objs.size<=b) (hn:H' b=none):FpOk X pins H' b:=by
 refine ⟨hn,oW (mP I.lt hb),I.nofs hb,.inr (mQ I.sz hb),fun x c e z=>?_,fun p hp z=>?_⟩
 ·obtain ⟨v,q⟩:=I.cell x c e;exact absurd (mP q.lt (by rw [z];exact hb)) (nR _)
 ·exact absurd (mP (mO (I.pin p hp).1) (by rw [z];exact hb)) (nR _)
structure Turn (P:Program) (w:World) (K:W.Frag) (tg:Expr) (J:It) (fp:List Addr) (it:Addr) (tn:Nat->Heap->Prop):Prop where
 mem:it∈fp
 obj:∀ i h,tn i h->∀ b∈fp,∃ o,h.get? b=some o/\∀ v,o.data≠.cell v
 keep:∀ i h h',tn i h->(∀ b∈fp,∀ o,h.get? b=some o->h'.get? b=some o)->tn i h'
 item:∀ (X:Cx),X.prog=P->X.w=w->X.K=K->X.calm=true->∀ (i:Nat) (pins:List (Addr×Obj)) (s:Shared) (σ:St) (H:Hp) (E:Value->Shared->Prop),Inv X pins σ H s->(∀ b∈fp,FpOk X pins H b)->tn i s.heap->J.go i H ->
  wpAny (model P w) X.A (pyNext (.ref it)) (fun r s1=>∃ u,r=some u /\
   wpAny (model P w) X.A (letOwnedTupleGo tg (.ref it) u) (fun _ s2=>∃ x H',Inv X pins σ H' s2/\RelV x u/\J.yld i H x H'/\tn (i+1) s2.heap/\∀ b∈fp,H' b=none) E s1) E s
 done:∀ (X:Cx),X.prog=P->X.w=w->X.K=K->X.calm=true->∀ (i:Nat) (pins:List (Addr×Obj)) (s:Shared) (σ:St) (H:Hp) (E:Value->Shared->Prop),Inv X pins σ H s->(∀ b∈fp,FpOk X pins H b)->tn i s.heap->J.stop i H ->
  wpAny (model P w) X.A (pyNext (.ref it)) (fun r s1=>r=none/\Inv X pins σ H s1) E s
 self:∀ (A:Around) (i:Nat) (s:Shared) (Q:Value->Shared->Prop) (E:Value->Shared->Prop),tn i s.heap->Q (.ref it) s->wpAny (model P w) A (pyIter (.ref it)) Q E s
abbrev TI:=St->Hp->(It->Hp->Prop)->Prop
def lO (X:Cx) (pins:List (Addr×Obj)) (σ:St) (tg:Expr) (R:It->Hp->Prop) (itv:Value) (s2:Shared):Prop:=
 ∃ (it:Addr) (fp:List Addr) (tn:Nat->Heap->Prop) (J:It) (H':Hp),itv=.ref it/\Inv X pins σ H' s2/\Turn X.prog X.w X.K tg J fp it tn/\tn 0 s2.heap/\(∀ b∈fp,FpOk X pins H' b)/\R J H'
def PI (X:Cx) (tg iter:Expr) (wi:TI):Prop:=
 ∀ (pins:List (Addr×Obj)) (s:Shared) (σ:St) (H:Hp) (R:It->Hp->Prop),Inv X pins σ H s->wi σ H R ->
  wpAny (model X.prog X.w) X.A (eval iter X.env) (fun v s1=>wpAny (model X.prog X.w) X.A (pyIter v) (lO X pins σ tg R) X.xe s1) X.xe s
theorem PD {M:Model} {A:Around} {E:Value->Shared->Prop} {s:Shared} {tg:Expr} {it:Addr} {u:Value} {o:Obj} {n:String} {vs:Array Value} {Q:Unit->Shared->Prop} (ho:s.heap.get? it=some o) (hc:o.cls=.type n) (hd:o.data=.fields vs)
    (hn:["enumerate", "zip", "dict_itemiterator", "dict_reverseitemiterator", "odict_iterator", "itertools.zip_longest", "itertools.pairwise"].contains n=false) (hQ:Q () s):wpAny M A (letOwnedTupleGo tg (.ref it) u) Q E s:=by
  unfold letOwnedTupleGo;cases tg<;>first
    | exact wpAny_pure hQ
    | (cases u<;>first
        | exact wpAny_pure hQ
        | (refine wpAny_bind (wpAny_load ho ?_)
           rw [hc,hd]
           show wpAny M A (if (["enumerate", "zip", "dict_itemiterator", "dict_reverseitemiterator", "odict_iterator", "itertools.zip_longest", "itertools.pairwise"].contains n && vs[0]? == some (rawInt _))=true then _ else _) Q E s
           rw [if_neg (by intro h;rw [hn,Bool.false_and] at h;cases h)];exact wpAny_pure hQ))
noncomputable def jQ (K:W.Frag) (a:Addr):It:=
 ⟨fun i H=>∃ xs x,DA K H a xs/\xs[i]?=some x,fun i H x H'=>H'=H/\∀ xs,DA K H a xs->xs[i]?=some x,fun i H=>∃ xs,DA K H a xs/\xs.length<=i⟩
noncomputable def kh (K:W.Frag) (a:Addr):It:=
 ⟨fun i H=>∃ xs x,Eg K H a xs/\xs[i]?=some x,fun i H x H'=>H'=H/\∀ xs,Eg K H a xs->xs[i]?=some x,fun i H=>∃ xs,Eg K H a xs/\xs.length<=i⟩
noncomputable def eJ (lo:Int) (n:Nat):It:=⟨fun i _=>i < n,fun i H x H'=>H'=H/\x=.int (lo+i),fun i _=>n<=i⟩
theorem QB {P:Program} {w:World} {K:W.Frag} {tg:Expr} (a it:Addr):Turn P w K tg (jQ K a) [it] it (fun i h=>h.IsListIter it a i) where
 mem:=by simp
 obj:=fun i h st b hb=>by
  have e:b=it:=by simpa using hb
  subst e;obtain ⟨o,e,c,d⟩:=st;exact ⟨o,e,fun v z=>by rw [d] at z;cases z⟩
 keep:=fun i h h' st k=>st.at fun o e=>k it (by simp) o e
 item:=by
  intro X hP hw hK hc i pins s σ H E I hf st hg;subst hP hw hK;obtain ⟨xs,x,hq,hx⟩:=hg;obtain ⟨its,rv,p,hz⟩:=I.list hq;obtain ⟨u,hu,ru⟩:=rv.get hx;obtain ⟨f0,f1,f2,f3,f4,f5⟩:=hf it (by simp);refine wpAny_pyNext_list_item st p.isList (x:=u) (by simpa using hu) fun h' st' sb=>?_
  have I1:Inv X pins σ H { s with heap:=h' }:=I.turned (t':=s.toks) (fun b o hb e=>(sb.2 b hb).trans e) f0 f1 f3 f4 f5;obtain ⟨o,e,c,d⟩:=id st';exact ⟨u,rfl,PD (s:={ s with heap:=h' }) e c d (by decide) ⟨x,H,I1,ru,⟨rfl,fun ys hy=>by rw [I.list_inj hy hq];exact hx⟩,st',fun b hb=>(hf b hb).1⟩⟩
 done:=by
  intro X hP hw hK hc i pins s σ H E I hf st hg;subst hP hw hK;obtain ⟨xs,hq,hx⟩:=hg;obtain ⟨its,rv,p,hz⟩:=I.list hq;obtain ⟨f0,f1,f2,f3,f4,f5⟩:=hf it (by simp);have hl:=rv.length;exact wpAny_pyNext_list_end (I.ok.hd hc) st p.isList (by simp;omega) fun h' eb=>⟨rfl,I.turned (t':=s.toks) (fun b o hb e=>eb b o hb e) f0 f1 f3 f4 f5⟩
 self:=fun _ _ _ _ _ st h=>wpAny_pyIter_listiter st h
theorem Mo {P:Program} {w:World} {K:W.Frag} {tg:Expr} (a it:Addr):Turn P w K tg (kh K a) [it] it (fun i h=>h.IsTupleIter it a i) where
 mem:=by simp
 obj:=fun i h st b hb=>by
  have e:b=it:=by simpa using hb
  subst e;obtain ⟨o,e,c,d⟩:=st;exact ⟨o,e,fun v z=>by rw [d] at z;cases z⟩
 keep:=fun i h h' st k=>st.at fun o e=>k it (by simp) o e
 item:=by
  intro X hP hw hK hc i pins s σ H E I hf st hg;subst hP hw hK;obtain ⟨xs,x,hq,hx⟩:=hg;obtain ⟨its,rv,p,hz⟩:=I.tuple hq;obtain ⟨u,hu,ru⟩:=rv.get hx;obtain ⟨f0,f1,f2,f3,f4,f5⟩:=hf it (by simp);refine wpAny_pyNext_tuple_item st (show s.heap.IsTuple a its.toArray from p) (x:=u) (by simpa using hu) fun h' st' sb=>?_
  have I1:Inv X pins σ H { s with heap:=h' }:=I.turned (t':=s.toks) (fun b o hb e=>(sb.2 b hb).trans e) f0 f1 f3 f4 f5;obtain ⟨o,e,c,d⟩:=id st';exact ⟨u,rfl,PD (s:={ s with heap:=h' }) e c d (by decide) ⟨x,H,I1,ru,⟨rfl,fun ys hy=>by rw [I.tuple_inj hy hq];exact hx⟩,st',fun b hb=>(hf b hb).1⟩⟩
 done:=by
  intro X hP hw hK hc i pins s σ H E I hf st hg;subst hP hw hK;obtain ⟨xs,hq,hx⟩:=hg;obtain ⟨its,rv,p,hz⟩:=I.tuple hq;obtain ⟨f0,f1,f2,f3,f4,f5⟩:=hf it (by simp);have hl:=rv.length;exact wpAny_pyNext_tuple_end (I.ok.hd hc) st (show s.heap.IsTuple a its.toArray from p) (by simp;omega) fun h' eb=>⟨rfl,I.turned (t':=s.toks) (fun b o hb e=>eb b o hb e) f0 f1 f3 f4 f5⟩
 self:=fun _ _ _ _ _ st h=>wpAny_pyIter_tupleiter st h
theorem Mp {P:Program} {w:World} {K:W.Frag} {tg:Expr} (it:Addr) (lo:Int) (n:Nat):Turn P w K tg (eJ lo n) [it] it (fun i h=>IsRangeIter h it (lo+(i:Nat) * 1) ((n:Int) - (i:Nat)) 1) where
 mem:=by simp
 obj:=fun i h st b hb=>by
  have e:b=it:=by simpa using hb
  subst e;exact ⟨_,st,fun v z=>by
   have z':Data.fields _=Data.cell v:=z;cases z'⟩
 keep:=fun i h h' st k=>k it (by simp) _ st
 item:=by
  intro X hP hw hK hc i pins s σ H E I hf st hg;subst hP hw hK;obtain ⟨f0,f1,f2,f3,f4,f5⟩:=hf it (by simp);have W:=Walks.range (prog:=X.prog) (w:=X.w) (I.ok.hd hc) it lo 1 n;refine W.item i s _ _ hg st fun v h' tk hv st' kk=>?_
  obtain ⟨t,rfl⟩:=hv;have I1:Inv X pins σ H { s with heap:=h',toks:=tk }:=I.turned (fun b o hb e=>kk b o (by simpa using hb) e) f0 f1 f3 f4 f5
  refine ⟨_,rfl,PD (s:={ s with heap:=h',toks:=tk }) (n := "range_iterator") st' rfl rfl (by decide) ⟨.int (lo+i),H,I1,⟨t,?_⟩,⟨rfl,rfl⟩,st',fun b hb=>(hf b hb).1⟩⟩
  rw [Int.mul_one]
 done:=by
  intro X hP hw hK hc i pins s σ H E I hf st hg;subst hP hw hK;obtain ⟨f0,f1,f2,f3,f4,f5⟩:=hf it (by simp);exact wpAny_pyNext_range_end (I.ok.hd hc) st (by have:n<=i:=hg;omega) fun h' eb=>⟨rfl,I.turned (t':=s.toks) (fun b o hb e=>eb b o hb e) f0 f1 f3 f4 f5⟩
 self:=fun _ _ _ _ _ st h=>wpAny_pyIter_rangeiter st h
section
variable {X:Cx} {tg:Expr}
theorem Lb {pins:List (Addr×Obj)} {σ:St} {H:Hp} {s:Shared} {R:It->Hp->Prop} {E:Value->Shared->Prop} {lo hi:Int} {t u v:Tok} {tk:Nat} (I:Inv X pins σ H s) (h1:-(2 ^ 62)<=lo) (h2:lo < 2 ^ 62) (h3:-(2 ^ 62)<=hi) (h4:hi < 2 ^ 62)
    (q:R (eJ lo (hi - lo).toNat) H):wpAny (model X.prog X.w) X.A (pyIter (.ref s.heap.objs.size)) (lO X pins σ tg R) E { s with heap:=s.heap.push { cls:=.type "range", data:=.fields #[.int lo t,.int hi u,.int 1 v] },toks:=tk }:=by
  refine wpAny_pyIter_range (IsRange.new ..) (small_one h1 h2 h3 h4) ?_
  have I1:Inv X pins σ H { s with heap:=s.heap.push { cls:=.type "range", data:=.fields #[.int lo t,.int hi u,.int 1 v] },toks:=tk }:=I.kept fun b o e=>lx _ e
  refine ⟨(s.heap.push { cls:=.type "range", data:=.fields #[.int lo t,.int hi u,.int 1 v] }).objs.size,[(s.heap.push { cls:=.type "range", data:=.fields #[.int lo t,.int hi u,.int 1 v] }).objs.size],_,_,H,rfl,
    I1.kept (t':=tk) fun b o e=>lx _ e,Mp _ lo (hi - lo).toNat,?_,fun b hb=>?_,q⟩
  · have e1:lo+((0:Nat):Int) * 1=lo:=by simp
    have e2:(((hi - lo).toNat:Nat):Int) - ((0:Nat):Int)=Builtin.Range.rangeSize lo hi 1:=by rw [rangeSize_one];split<;>omega
    show IsRangeIter _ _ (lo+((0:Nat):Int) * 1) ((((hi - lo).toNat:Nat):Int) - ((0:Nat):Int)) 1;rw [e1,e2];exact mK _ rfl
  · have e:b=(s.heap.push { cls:=.type "range", data:=.fields #[.int lo t,.int hi u,.int 1 v] }).objs.size:=by simpa using hb
    subst e;exact I1.fpOk (mF _) (I1.hok.fresh (mF _))
abbrev hV (ta:TA):TI:=fun σ H R=>ta σ H fun vs H1=>∃ j:Int,vs=[.int j]/\-(2 ^ 62)<=j/\j < 2 ^ 62/\R (eJ 0 j.toNat) H1
abbrev hG (ta:TA):TI:=fun σ H R=>ta σ H fun vs H1=>∃ i j:Int,vs=[.int i,.int j]/\(-(2 ^ 62)<=i/\i < 2 ^ 62/\-(2 ^ 62)<=j/\j < 2 ^ 62)/\R (eJ i (j - i).toNat) H1
theorem QV {a:Expr} {ta:TA} {p pos:Pos} (hg:Gl X "range") (hm:X.mg "range" = none) (ha:PA X [a] ta) (hs:starEach [a] X.env=[(false,eval a X.env)]:=by rfl):PI X tg (.Call (.Name "range" p) [a] [] pos) (hV ta):=by
 intro pins s σ H R I h;refine Call_ (Bc I hg hm boot_range (mi (Ap (ha pos pins s σ H _ I h) fun us s1 ⟨vs,H1,I1,r1,q1⟩=>?_) hs rfl));obtain ⟨j,e,q1,q2,q⟩:=q1;subst e;cases r1 with
 | cons r rr =>
  cases rr;obtain ⟨t,rfl⟩:=r;exact call_range_1 (Lb I1 (by omega) (by omega) q1 q2 (by simpa using q))
theorem QU {a b:Expr} {ta:TA} {p pos:Pos} (hg:Gl X "range") (hm:X.mg "range" = none) (ha:PA X [a,b] ta) (hs:starEach [a,b] X.env=[(false,eval a X.env),(false,eval b X.env)]:=by rfl) (hs2:starEach [b] X.env=[(false,eval b X.env)]:=by rfl) :
    PI X tg (.Call (.Name "range" p) [a,b] [] pos) (hG ta):=by
  intro pins s σ H R I h;refine Call_ (Bc I hg hm boot_range (mi (Ap (ha pos pins s σ H _ I h) fun us s1 ⟨vs,H1,I1,r1,q1⟩=>?_) (by rw [hs,hs2]) (by rw [hs2];rfl)));obtain ⟨i,j,e,⟨q1,q2,q3,q4⟩,q⟩:=q1;subst e;cases r1 with
  | cons r rr =>
    cases rr with
    | cons r' rr =>
      cases rr;obtain ⟨t,rfl⟩:=r;obtain ⟨t',rfl⟩:=r';exact call_range_2 (Lb I1 q1 q2 q3 q4 q)
abbrev jd (wi:TI) (g:TG) (tb:TS):TS:=fun D σ H=>wi σ H fun J H1=>∃ W:Nat->Nat->St->Hp->Prop,(∃ m,W 0 m σ H1)/\∀ i m σ H,W i m σ H ->
 (J.stop i H/\D.nx σ H)\/(J.go i H/\∃ N:St->Hp->Prop,(∀ σ' H',N σ' H'->∃ m',m' < m/\W (i+1) m' σ' H')/\∀ x H',J.yld i H x H'->g x σ H' fun σ2 H2=>tb { D with nx:=N,ct:=N,bk:=D.nx } σ2 H2)
noncomputable def KD (fp:List Addr) (h:Heap):List (Addr×Obj):=fp.filterMap fun b=>(h.get? b).map fun o=>(b,o)
theorem DF {fp:List Addr} {h:Heap} {b:Addr} {o:Obj} (hb:b∈fp) (e:h.get? b=some o):(b,o)∈KD fp h:=List.mem_filterMap.mpr ⟨b,hb,by rw [e];rfl⟩
theorem Qa {fp:List Addr} {h:Heap} {p:Addr×Obj} (hp:p∈KD fp h):p.1∈fp/\h.get? p.1=some p.2:=by
 obtain ⟨b,hb,e⟩:=List.mem_filterMap.mp hp;cases q:h.get? b with
 | none=>rw [q] at e;cases e
 | some o =>
  rw [q] at e;have e':(b,o)=p:=Option.some.inj e;subst e';exact ⟨hb,q⟩
theorem Inv.pinned {pins:List (Addr×Obj)} {σ:St} {H:Hp} {s:Shared} {fp:List Addr} (I:Inv X pins σ H s) (hf:∀ b∈fp,FpOk X pins H b) (ho:∀ b∈fp,∃ o,s.heap.get? b=some o/\∀ v,o.data≠.cell v):Inv X (pins++KD fp s.heap) σ H s:=
 I.pins_of fun p hp=>(mU.mp hp).elim (fun z=>I.pin p (mG _ z)) fun z=>by
  obtain ⟨hb,e⟩:=Qa z;obtain ⟨f0,f1,f2,_⟩:=hf p.1 hb;obtain ⟨o,e',d⟩:=ho p.1 hb;rw [e] at e';cases e';exact ⟨e,f0,f1,f2,d⟩
theorem Inv.unpinned {pins pl:List (Addr×Obj)} {σ:St} {H:Hp} {s:Shared} (I:Inv X (pins++pl) σ H s):Inv X pins σ H s:=I.pins_of fun p hp=>I.pin p (mG _ (mN _ hp))
theorem TQ {iter:Expr} {body:List Stmt} {wi:TI} {g:TG} {tb:TS} {pos:Pos} (hp:PassesOwn (model X.prog X.w) X.A X.env X.xe) (hc:X.calm=true) (hi:PI X tg iter wi) (hg:PG X tg g) (hb:DQ X body tb)
    (hs:∀ x,foldedSetIterable iter X.env x=pure x:=by intro _;rfl):PS X (.For tg iter body [] pos) (jd wi g tb):=by
  intro pins s σ H D I h;refine wpAny_For (Ap (hi pins s σ H _ I h) fun v s1 h1=>Ap h1 fun itv s2 h2=>?_) hs;obtain ⟨it,fp,tn,J,H2,e,I2,T,st2,f2,W,⟨m0,w0⟩,turn⟩:=h2;subst e
  -- what stays true of the iterator's objects through the loop
  have stat:∀ {H':Hp},(∀ b∈fp,H' b=none)->∀ b∈fp,FpOk X pins H' b:=fun hn b hb=>⟨hn b hb,(f2 b hb).2⟩
  refine codeAny_forLoop_any (fun n s'=>∃ i σ' H',Inv X pins σ' H' s'/\tn i s'.heap/\(∀ b∈fp,H' b=none)/\W i n σ' H') ?_ m0 ⟨0,σ,H2,I2,st2,fun b hb=>(f2 b hb).1,w0⟩;rintro n s3 ⟨i,σ3,H3,I3,st3,fr3,w3⟩;rcases turn i n σ3 H3 w3 with ⟨stop,qn⟩ | ⟨go,N,hN,step⟩
  · refine wpAny_passesOwn hp (Ap (T.done X rfl rfl rfl hc i pins s3 σ3 H3 X.xe I3 (stat fr3) st3 stop) fun r s4 ⟨hr,I4⟩=>?_);subst hr;exact wpAny_execs_nil ⟨σ3,H3,I4,qn⟩
  · refine wpAny_passesOwn hp (Ap (T.item X rfl rfl rfl hc i pins s3 σ3 H3 X.xe I3 (stat fr3) st3 go) fun r s4 ⟨u,hr,h4⟩=>?_);subst hr;refine wpAny_passesOwn hp (Ap h4 fun _ s5 ⟨x,H5,I5,r5,y5,st5,fr5⟩=>?_);have I5':=I5.pinned (stat fr5) (T.obj _ _ st5);refine wpAny_passesOwn hp (Ap (hg _ s5 σ3 H5 x u _ I5' r5 (step x H5 y5)) fun _ s6 ⟨σ6,H6,I6,q6⟩=>?_);refine wpAny_passesOwn hp (Ap (hb _ s6 σ6 H6 _ I6 q6) fun f s7 q7=>?_);have again:∀ {σ7:St} {H7:Hp},Inv X (pins++KD fp s5.heap) σ7 H7 s7->N σ7 H7->∃ m,m < n/\∃ i σ' H',Inv X pins σ' H' s7/\tn i s7.heap/\(∀ b∈fp,H' b=none)/\W i m σ' H':=fun {σ7 H7} I7 n7=>by
      obtain ⟨m',hm,w7⟩:=hN σ7 H7 n7;refine ⟨m',hm,i+1,σ7,H7,I7.unpinned,T.keep _ _ _ st5 fun b hb o e=>(I7.pin (b,o) (mG _ (mG _ (DF hb e)))).1,fun b hb=>?_,w7⟩;obtain ⟨o,e,d⟩:=T.obj _ _ st5 b hb;exact (I7.pin (b,o) (mG _ (mG _ (DF hb e)))).2.1
    cases f with
    | next=>obtain ⟨σ7,H7,I7,n7⟩:=q7;exact again I7 n7
    | cont=>obtain ⟨σ7,H7,I7,n7⟩:=q7;exact again I7 n7
    | brk=>obtain ⟨σ7,H7,I7,q7⟩:=q7;exact ⟨σ7,H7,I7.unpinned,q7⟩
    | ret v=>obtain ⟨x7,σ7,H7,I7,r7,q7⟩:=q7;exact ⟨x7,σ7,H7,I7.unpinned,r7,q7⟩
end
abbrev R2:=V->V->Hp->VK->Prop
def CH (X:Cx) (f:Value->Value->Sem Value) (r:R2):Prop:=
 ∀ (pins:List (Addr×Obj)) (s:Shared) (σ:St) (H:Hp) (x y:V) (v u:Value) (Q:VK),Inv X pins σ H s->RelV x v->RelV y u->r x y H Q ->
  wpAny (model X.prog X.w) X.A (f v u) (EP X pins σ Q) X.xe s
def kb (X:Cx) (f:Value->Sem Value) (r:V->Hp->VK->Prop):Prop:=
 ∀ (pins:List (Addr×Obj)) (s:Shared) (σ:St) (H:Hp) (x:V) (v:Value) (Q:VK),Inv X pins σ H s->RelV x v->r x H Q ->
  wpAny (model X.prog X.w) X.A (f v) (EP X pins σ Q) X.xe s
def BM (X:Cx) (f:Value) (r:List V->Hp->VK->Prop):Prop:=
 ∀ (pins:List (Addr×Obj)) (s:Shared) (σ:St) (H:Hp) (xs:List V) (us:List Value) (Q:VK),Inv X pins σ H s->AE xs us->r xs H Q ->
  wpAny (model X.prog X.w) X.A (call f us) (EP X pins σ Q) X.xe s
def kc (X:Cx) (r:V->Hp->(Bool->Hp->Prop)->Prop):Prop:=
 ∀ (pins:List (Addr×Obj)) (s:Shared) (σ:St) (H:Hp) (x:V) (v:Value) (Q:Bool->Hp->Prop),Inv X pins σ H s->RelV x v->r x H Q ->
  wpAny (model X.prog X.w) X.A (truthy v) (TP X pins σ Q) X.xe s
abbrev jH (r:R2) (ta tb:TE):TE:=fun σ H Q=>ta σ H fun x H1=>tb σ H1 fun y H2=>r x y H2 Q
abbrev lX (r:V->Hp->VK->Prop) (ta:TE):TE:=fun σ H Q=>ta σ H fun x H1=>r x H1 Q
def rI (C:Int->Int->Prop) (g:Int->Int->V):R2:=fun x y H Q=>∃ i j,x=.int i/\y=.int j/\C i j/\Q (g i j) H
def Rr (g:Int->Int->V):R2:=fun x y H Q=>∃ i j,x=.int i/\y=.int j/\Q (g i j) H
def rU (g:Int->V):V->Hp->VK->Prop:=fun x H Q=>∃ i,x=.int i/\Q (g i) H
section
variable {X:Cx} {a b c:Expr} {ta tb tc:TE} {pos:Pos}
theorem dk (ha:PE X a ta) (hb:PE X b tb) {pins:List (Addr×Obj)} {s:Shared} {σ:St} {H:Hp} {R:V->V->Hp->Prop} (I:Inv X pins σ H s)
    (h:ta σ H fun x H1=>tb σ H1 fun y H2=>R x y H2) {Q:Value->Shared->Prop} {f:Value->Value->Sem Value}
    (hf:∀ v u s2 x y H2,Inv X pins σ H2 s2->RelV x v->RelV y u->R x y H2->wpAny (model X.prog X.w) X.A (f v u) Q X.xe s2) :
    wpAny (model X.prog X.w) X.A (eval a X.env) (fun v s₁=>wpAny (model X.prog X.w) X.A (eval b X.env) (fun u s₂=>wpAny (model X.prog X.w) X.A (f v u) Q X.xe s₂) X.xe s₁) X.xe s:=by
  refine Ap (ha pins s σ H _ I h) fun v s1 ⟨x,H1,I1,r1,q1⟩=>?_
  refine Ap (hb pins s1 σ H1 _ I1 q1) fun u s2 ⟨y,H2,I2,r2,q2⟩=>?_
  exact hf v u s2 x y H2 I2 r1 r2 q2
theorem gP {op:Operator} {r:R2} (ho:CH X (binaryOp op) r) (ha:PE X a ta) (hb:PE X b tb):PE X (.BinOp a op b pos) (jH r ta tb):=by
 intro pins s σ H Q I h;exact wpAny_BinOp (dk ha hb I h fun v u s2 x y H2 I2 rx ry q=>ho pins s2 σ H2 x y v u Q I2 rx ry q)
theorem gN {op:UnaryOp} {r:V->Hp->VK->Prop} (ho:kb X (unaryOp op) r) (ha:PE X a ta):PE X (.UnaryOp op a pos) (lX r ta):=by
 intro pins s σ H Q I h;exact UnaryOp_ (Ap (ha pins s σ H _ I h) fun v s1 ⟨x,H1,I1,r1,q1⟩=>ho pins s1 σ H1 x v Q I1 r1 q1)
theorem jI {f:Value->Value->Sem Value} {C:Int->Int->Prop} {g:Int->Int->Int}
    (rule:∀ (i j:Int) (t u:Tok) (s:Shared) (Q:Value->Shared->Prop) (E:Value->Shared->Prop),C i j->Q (.int (g i j) s.toks) { s with toks:=s.toks+1 }->wpAny (model X.prog X.w) X.A (f (.int i t) (.int j u)) Q E s) :
    CH X f (rI C fun i j=>.int (g i j)):=by
  intro pins s σ H x y v u Q I rx ry h;obtain ⟨i,j,rfl,rfl,hc,q⟩:=h;obtain ⟨t,rfl⟩:=rx;obtain ⟨t',rfl⟩:=ry;exact rule i j t t' s _ _ hc ⟨.int (g i j),H,I.tok _,⟨_,rfl⟩,q⟩
theorem gb {f:Value->Value->Sem Value} {g:Int->Int->Int}
    (rule:∀ (i j:Int) (t u:Tok) (s:Shared) (Q:Value->Shared->Prop) (E:Value->Shared->Prop),Q (.int (g i j) s.toks) { s with toks:=s.toks+1 }->wpAny (model X.prog X.w) X.A (f (.int i t) (.int j u)) Q E s) :
    CH X f (Rr fun i j=>.int (g i j)):=by
  intro pins s σ H x y v u Q I rx ry h;obtain ⟨i,j,rfl,rfl,q⟩:=h;obtain ⟨t,rfl⟩:=rx;obtain ⟨t',rfl⟩:=ry;exact rule i j t t' s _ _ ⟨.int (g i j),H,I.tok _,⟨_,rfl⟩,q⟩
theorem XU {f:Value->Value->Sem Value} {g:Int->Int->Bool}
    (rule:∀ (i j:Int) (t u:Tok) (s:Shared) (Q:Value->Shared->Prop) (E:Value->Shared->Prop),Q (.bool (g i j)) s->wpAny (model X.prog X.w) X.A (f (.int i t) (.int j u)) Q E s) :
    CH X f (Rr fun i j=>.bl (g i j)):=by
  intro pins s σ H x y v u Q I rx ry h;obtain ⟨i,j,rfl,rfl,q⟩:=h;obtain ⟨t,rfl⟩:=rx;obtain ⟨t',rfl⟩:=ry;exact rule i j t t' s _ _ ⟨.bl (g i j),H,I,rfl,q⟩
def km (i j:Int):Prop:=0 < j/\j < 1073741824
def kj (i j:Int):Prop:=0<=j/\j<=1000000/\i.natAbs < 2 ^ 64
def Yo (i j:Int):Prop:=(-(2 ^ 64) < i/\i < 2 ^ 64)\/(-(2 ^ 64) < j/\j < 2 ^ 64)
theorem Yo.ok {i j:Int} (h:Yo i j):IntMulOk i j:=by
 rcases h with ⟨h1,h2⟩ | ⟨h1,h2⟩
 ·exact .of_left (intBits_le_64 h1 h2)
 ·exact .of_right (intBits_le_64 h1 h2)
theorem bo:CH X (binaryOp .Add) (Rr fun i j=>.int (i+j)):=gb fun _ _ _ _ _ _ _ q=>add_int q
theorem bX:CH X (binaryOp .Sub) (Rr fun i j=>.int (i - j)):=gb fun _ _ _ _ _ _ _ q=>sub_int q
theorem ba:CH X (binaryOp .Mult) (rI Yo fun i j=>.int (i * j)):=jI fun _ _ _ _ _ _ _ hc q=>mul_int q hc.ok
theorem XN:CH X (binaryOp .FloorDiv) (rI km fun i j=>.int (i / j)):=jI fun i j _ _ _ _ _ hc q=>by
 have h1:(0:Int) < j:=hc.1;have h2:j < 1073741824:=hc.2;exact floordiv_int (by omega) (by rw [Int.fdiv_eq_ediv_of_nonneg i (by omega)];exact q) (.inl (PyProof.noPylong_small (by omega)))
theorem bc:CH X (binaryOp .Mod) (rI (fun _ j=>0 < j) fun i j=>.int (i % j)):=jI fun i j _ _ _ _ _ hc q=>by
 have h1:(0:Int) < j:=hc;exact mod_int' (by omega) (by rw [Int.fmod_eq_emod_of_nonneg i (by omega)];exact q)
theorem bZ:CH X (binaryOp .Pow) (rI kj fun i j=>.int (i ^ j.toNat)):=jI fun _ _ _ _ _ _ _ hc q=>pow_int_small hc.1 hc.2.1 hc.2.2 q
theorem lQ {f:Value->Sem Value} {g:Int->Int}
    (rule:∀ (i:Int) (t:Tok) (s:Shared) (Q:Value->Shared->Prop) (E:Value->Shared->Prop),Q (.int (g i) s.toks) { s with toks:=s.toks+1 }->wpAny (model X.prog X.w) X.A (f (.int i t)) Q E s) :
    kb X f (rU fun i=>.int (g i)):=by
  intro pins s σ H x v Q I rx h;obtain ⟨i,rfl,q⟩:=h;obtain ⟨t,rfl⟩:=rx;exact rule i t s _ _ ⟨.int (g i),H,I.tok _,⟨_,rfl⟩,q⟩
theorem aB:kb X (unaryOp .USub) (rU fun i=>.int (-i)):=lQ fun _ _ _ _ _ q=>neg_int q
end
section
variable {X:Cx} {a b c:Expr} {ta tb tc:TE} {pos:Pos}
theorem dC {pins:List (Addr×Obj)} {σ:St} {H:Hp} {s:Shared} {Q:VK} {k k':Bool} (I:Inv X pins σ H s) (q:Q (.bl k) H) (e:k=k'):EP X pins σ Q (.bool k') s:=by
 subst e;exact ⟨.bl k,H,I,rfl,q⟩
theorem gW:CH X (compareOp .Lt) (Rr fun i j=>.bl (decide (i < j))):=XU fun _ _ _ _ _ _ _ q=>lt_int q
theorem gX:CH X (compareOp .LtE) (Rr fun i j=>.bl (decide (i<=j))):=XU fun _ _ _ _ _ _ _ q=>le_int q
theorem gY:CH X (compareOp .Gt) (Rr fun i j=>.bl (decide (j < i))):=XU fun _ _ _ _ _ _ _ q=>gt_int q
theorem gZ:CH X (compareOp .GtE) (Rr fun i j=>.bl (decide (j<=i))):=XU fun _ _ _ _ _ _ _ q=>ge_int q
theorem QZ:CH X (compareOp .In) (fun x y H Q=>∃ i j,x=.str i/\y=.str j/\Q (.bl (!(Builtin.Str.occurrences j i 0 j.length 1).isEmpty)) H):=by
 intro pins s σ H x y v u Q I rx ry h;obtain ⟨i,j,rfl,rfl,q⟩:=h;obtain ⟨t,rfl⟩:=rx;obtain ⟨t',rfl⟩:=ry;exact in_str (dC I q rfl)
theorem CH.or {f:Value->Value->Sem Value} {r r':R2} (h:CH X f r) (h':CH X f r'):CH X f (fun x y H Q=>r x y H Q\/r' x y H Q):=by
 intro pins s σ H x y v u Q I rx ry q;rcases q with q | q
 ·exact h pins s σ H x y v u Q I rx ry q
 ·exact h' pins s σ H x y v u Q I rx ry q
theorem XG {op:CmpOp} {r:R2} (ho:CH X (compareOp op) r) (ha:PE X a ta) (hb:PE X b tb) (hm:behindInMarks op b=false):PE X (.Compare a [op] [b] pos) (jH r ta tb):=by
 intro pins s σ H Q I h;exact wpAny_Compare1 (dk ha hb I h fun v u s2 x y H2 I2 rx ry q=>ho pins s2 σ H2 x y v u Q I2 rx ry q) hm
abbrev Ys (t:TE):TT:=fun σ H Q=>t σ H fun x H'=>∃ k,x=.bl k/\Q k H'
theorem Wk {op:CmpOp} {r:R2} (ho:CH X (compareOp op) r) (ha:PE X a ta) (hb:PE X b tb) (hm:behindInMarks op b=false):PT X (.Compare a [op] [b] pos) (Ys (jH r ta tb)):=by
 intro pins s σ H Q I h;refine wpAny_isTrue_Compare1 (Ap (ha pins s σ H _ I h) fun v s1 ⟨x,H1,I1,r1,q1⟩=>Ap (hb pins s1 σ H1 _ I1 q1) fun u s2 ⟨y,H2,I2,r2,q2⟩ =>
  Ap (ho pins s2 σ H2 x y v u _ I2 r1 r2 q2) fun c s3 ⟨z,H3,I3,r3,k,e,q3⟩=>?_) hm
 subst e;cases r3;exact wpAny_truthy_bool ⟨H3,I3,q3⟩
abbrev Jq (r r':R2) (ta tb tc:TE):TE:=fun σ H Q=>ta σ H fun x H1=>tb σ H1 fun y H2=>r x y H2 fun z H3=>∃ k,z=.bl k /\
 (if k=true then tc σ H3 fun w' H4=>r' y w' H4 Q else Q (.bl false) H3)
theorem Lq {op op':CmpOp} {r r':R2} (ho:CH X (compareOp op) r) (ho':CH X (compareOp op') r') (ha:PE X a ta) (hb:PE X b tb) (hc:PE X c tc)
    (hm:lastMarks [op,op'] [b,c]=false:=by with_unfolding_all rfl):PE X (.Compare a [op,op'] [b,c] pos) (Jq r r' ta tb tc):=by
  intro pins s σ H Q I h;refine Compare_chain (Ap (ha pins s σ H _ I h) fun v s1 ⟨x,H1,I1,r1,q1⟩=>chain_link (Ap (hb pins s1 σ H1 _ I1 q1) fun u s2 ⟨y,H2,I2,r2,q2⟩ =>
    Ap (ho pins s2 σ H2 x y v u _ I2 r1 r2 q2) fun d s3 ⟨z,H3,I3,r3,k,e,q3⟩=>?_)) hm
  subst e;cases r3;refine wpAny_truthy_bool ?_;cases k with
  | false=>exact ite_ff ⟨.bl false,H3,I3,rfl,q3⟩
  | true=>exact ite_tt (chain_last (Ap (hc pins s3 σ H3 _ I3 q3) fun w' s4 ⟨z',H4,I4,r4,q4⟩=>ho' pins s4 σ H4 y z' u w' Q I4 r2 r4 q4))
theorem Lg {op op':CmpOp} {r r':R2} (ho:CH X (compareOp op) r) (ho':CH X (compareOp op') r') (ha:PE X a ta) (hb:PE X b tb) (hc:PE X c tc)
    (hm:lastMarks [op,op'] [b,c]=false:=by with_unfolding_all rfl):PT X (.Compare a [op,op'] [b,c] pos) (Ys (Jq r r' ta tb tc)):=by
  intro pins s σ H Q I h;refine isTrue_chain (Ap (ha pins s σ H _ I h) fun v s1 ⟨x,H1,I1,r1,q1⟩=>test_link (Ap (hb pins s1 σ H1 _ I1 q1) fun u s2 ⟨y,H2,I2,r2,q2⟩ =>
    Ap (ho pins s2 σ H2 x y v u _ I2 r1 r2 q2) fun d s3 ⟨z,H3,I3,r3,k,e,q3⟩=>?_)) hm
  subst e;cases r3;refine wpAny_truthy_bool ?_;cases k with
  | false =>
    obtain ⟨k',e',q'⟩:=q3;cases e';exact ite_ff ⟨H3,I3,q'⟩
  | true =>
    refine ite_tt (test_last (Ap (hc pins s3 σ H3 _ I3 q3) fun w' s4 ⟨z',H4,I4,r4,q4⟩=>Ap (ho' pins s4 σ H4 y z' u w' _ I4 r2 r4 q4) fun d' s5 ⟨z2,H5,I5,r5,k2,e2,q5⟩=>?_));subst e2;cases r5;exact wpAny_truthy_bool ⟨H5,I5,q5⟩
def Vv (K:W.Frag) (x:V) (H:Hp) (k:Bool):Prop:=
 match x with
 | .non=>k=false
 | .bl b=>k=b
 | .int i=>k=(i != 0)
 | .str y=>y.length<=sizeLine/\k=((y.length:Int) != 0)
 | .byt y=>y.size<=sizeLine/\k=((y.size:Int) != 0)
 | .ref p=>(∃ xs,DA K H p xs/\k=!xs.isEmpty)\/(∃ xs,Eg K H p xs/\k=!xs.isEmpty)\/∃ kvs,H p=some (.dK kvs)/\k=!kvs.isEmpty
 | _=>False
theorem Nc {κ:Type} {kvs:List (κ×V)} {vs:List (κ×Value)} (r:KV kvs vs):(!vs.isEmpty)=!kvs.isEmpty:=by
 cases r<;>rfl
theorem Hq {xs:List V} {its:List Value} (r:AE xs its):(!its.toArray.isEmpty)=!xs.isEmpty:=by
 cases r<;>simp
theorem GG:(sizeLine:Nat) < 2 ^ 63:=by rw [sizeLine_eq];decide
theorem aF:kc X (fun x H Q=>∃ k,Vv X.K x H k/\Q k H):=by
 intro pins s σ H x v Q I rx h;obtain ⟨k,e,q⟩:=h;have hl:=GG;have hs:sizeLine=16777216:=sizeLine_eq;cases x with
 | non =>
  cases rx;have e':k=false:=e;subst e';exact truthy_none ⟨H,I,q⟩
 | bl b =>
  cases rx;have e':k=b:=e;subst e';exact wpAny_truthy_bool ⟨H,I,q⟩
 | int i =>
  obtain ⟨t,rfl⟩:=rx;have e':k=(i != 0):=e;subst e';exact PySem.P.truthy_int ⟨H,I,q⟩
 | str y =>
  obtain ⟨t,rfl⟩:=rx;obtain ⟨hy,e'⟩:y.length<=sizeLine/\k=((y.length:Int) != 0):=e;subst e';exact PySem.P.truthy_str (by omega) ⟨H,I.tok _,q⟩
 | byt y =>
  obtain ⟨t,rfl⟩:=rx;obtain ⟨hy,e'⟩:y.size<=sizeLine/\k=((y.size:Int) != 0):=e;subst e';exact W.truthy_bytes (by omega) ⟨H,I.tok _,q⟩
 | ref p =>
  cases rx;have e':(∃ xs,DA X.K H p xs/\k=!xs.isEmpty)\/(∃ xs,Eg X.K H p xs/\k=!xs.isEmpty)\/∃ kvs,H p=some (.dK kvs)/\k=!kvs.isEmpty:=e;rcases e' with ⟨xs,hx,e'⟩ | ⟨xs,hx,e'⟩ | ⟨kvs,hx,e'⟩
  ·subst e';obtain ⟨its,r,pl,hz⟩:=I.list hx;have hlen:=r.length;exact wpAny_truthy_list pl.isList (by simp only [mD];omega) ⟨H,I.tok _,by rw [Hq r];exact q⟩
  ·subst e';obtain ⟨its,r,pl,hz⟩:=I.tuple hx;have hlen:=r.length;exact truthy_tuple pl (by simp only [mD];omega) ⟨H,I.tok _,by rw [Hq r];exact q⟩
  ·subst e';obtain ⟨hz,hS,vs,r,m⟩:kvs.length<=sizeLine/\(p == sysModules)=false/\∃ vs,KV kvs vs/\s.heap.DictOf (BG X.prog X.w) p vs:=I.hok p _ hx;have hlen:kvs.length=vs.length:=Paired.length r;exact wpAny_truthy_dict hS m (by omega) ⟨H,I.tok _,by rw [Nc r];exact q⟩
 | _=>exact (show False from e).elim
theorem TN (ha:PE X a ta) (he:∀ whole,isTrue a X.env whole=(do let v <- whole;standAt a.pos;holding [v] (truthy v))) :
    PT X a (fun σ H Q=>ta σ H fun x H'=>∃ k,Vv X.K x H' k/\Q k H'):=by
  intro pins s σ H Q I h;exact isTrue_plain (Ap (ha pins s σ H _ I h) fun v s1 ⟨x,H1,I1,r1,q1⟩=>aF pins s1 σ H1 x v Q I1 r1 q1) (he _)
theorem NN:CH X (binaryOp .Add) (fun x y H Q=>∃ i j,x=.str i/\y=.str j/\i.length+j.length<=sizeLine/\Q (.str (i++j)) H):=by
 intro pins s σ H x y v u Q I rx ry h;obtain ⟨i,j,rfl,rfl,hz,q⟩:=h;obtain ⟨t,rfl⟩:=rx;obtain ⟨t',rfl⟩:=ry;exact add_str (fun t' tk=>⟨.str (i++j),H,I.tok _,⟨_,rfl⟩,q⟩) hz
theorem vals1 {x:V} {us:List Value} (r:AE [x] us):∃ u,us=[u]/\RelV x u:=by
 cases r with
 | cons r1 r2=>cases r2;exact ⟨_,rfl,r1⟩
theorem Yp {x y:V} {us:List Value} (r:AE [x,y] us):∃ u w',us=[u,w']/\RelV x u/\RelV y w':=by
 cases r with
 | cons r1 r2 =>
  cases r2 with
  | cons r3 r4=>cases r4;exact ⟨_,_,rfl,r1,r3⟩
theorem RN (hc:X.calm=true):BM X (.builtin "max") (fun xs H Q=>∃ i j,xs=[.int i,.int j]/\Q (.int (if j > i then j else i)) H):=by
 intro pins s σ H xs us Q I r h;obtain ⟨i,j,rfl,q⟩:=h;obtain ⟨u,w',rfl,⟨t,rfl⟩,⟨t',rfl⟩⟩:=Yp r;refine max_two_ints (I.ok.hd hc) fun h' tk k=>⟨_,H,I.kept k,?_,q⟩
 by_cases hj:j > i
 ·rw [if_pos hj,if_pos hj];exact ⟨_,rfl⟩
 ·rw [if_neg hj,if_neg hj];exact ⟨_,rfl⟩
theorem RM (hc:X.calm=true):BM X (.builtin "min") (fun xs H Q=>∃ i j,xs=[.int i,.int j]/\Q (.int (if j < i then j else i)) H):=by
 intro pins s σ H xs us Q I r h;obtain ⟨i,j,rfl,q⟩:=h;obtain ⟨u,w',rfl,⟨t,rfl⟩,⟨t',rfl⟩⟩:=Yp r;refine min_two_ints (I.ok.hd hc) fun h' tk k=>⟨_,H,I.kept k,?_,q⟩
 by_cases hj:j < i
 ·rw [if_pos hj,if_pos hj];exact ⟨_,rfl⟩
 ·rw [if_neg hj,if_neg hj];exact ⟨_,rfl⟩
theorem RU:BM X (.type "int") (fun xs H Q=>(∃ i,xs=[.int i]/\Q (.int i) H)\/∃ k,xs=[.bl k]/\Q (.int (if k then 1 else 0)) H):=by
 intro pins s σ H xs us Q I r h;rcases h with ⟨i,rfl,q⟩ | ⟨k,rfl,q⟩
 ·obtain ⟨u,rfl,t,rfl⟩:=vals1 r;exact call_int_int ⟨.int i,H,I,⟨_,rfl⟩,q⟩
 ·obtain ⟨u,rfl,r1⟩:=vals1 r;cases r1;exact call_int_bool ⟨.int (if k then 1 else 0),H,I.tok _,⟨_,rfl⟩,q⟩
def jC (K:W.Frag) (x:V) (H:Hp) (n:Nat):Prop:=
 match x with
 | .str y=>y.length<=sizeLine/\n=y.length
 | .byt y=>y.size<=sizeLine/\n=y.size
 | .ref p=>(∃ xs,DA K H p xs/\n=xs.length)\/∃ xs,Eg K H p xs/\n=xs.length
 | _=>False
theorem VL:BM X (.builtin "len") (fun xs H Q=>∃ x n,xs=[x]/\jC X.K x H n/\Q (.int n) H):=by
 intro pins s σ H xs us Q I r h;obtain ⟨x,n,rfl,e,q⟩:=h;obtain ⟨u,rfl,rx⟩:=vals1 r;have hl:=GG;have hs:sizeLine=16777216:=sizeLine_eq;cases x with
 | str y =>
  obtain ⟨t,rfl⟩:=rx;obtain ⟨hy,e'⟩:y.length<=sizeLine/\n=y.length:=e;subst e';exact len_str (by omega) ⟨.int _,H,I.tok _,⟨_,rfl⟩,q⟩
 | byt y =>
  obtain ⟨t,rfl⟩:=rx;obtain ⟨hy,e'⟩:y.size<=sizeLine/\n=y.size:=e;subst e';exact W.len_bytes (by omega) ⟨.int _,H,I.tok _,⟨_,rfl⟩,q⟩
 | ref p =>
  cases rx;have e':(∃ xs,DA X.K H p xs/\n=xs.length)\/∃ xs,Eg X.K H p xs/\n=xs.length:=e;rcases e' with ⟨xs,hx,e'⟩ | ⟨xs,hx,e'⟩
  ·subst e';obtain ⟨its,r',pl,hz⟩:=I.list hx;have hlen:=r'.length;exact Calls.call_len_list pl.isList (by simp only [mD];omega) ⟨.int xs.length,H,I.tok _,⟨_,by simp only [mD];rw [hlen]⟩,q⟩
  ·subst e';obtain ⟨its,r',pl,hz⟩:=I.tuple hx;have hlen:=r'.length;exact len_tuple pl (by simp only [mD];omega) ⟨.int xs.length,H,I.tok _,⟨_,by simp only [mD];rw [hlen]⟩,q⟩
 | _=>exact (show False from e).elim
end
structure ObjM (h:Heap) (x dx C:Addr) (mA:Str->Option Value):Prop where
 obj:h.get? x=some (W.instObj C dx)
 ns:h.Ns1 dx mA
 ne:dx≠x
theorem Qk {h:Heap} {dx:Addr} {mA:Str->Option Value} (n:h.Ns1 dx mA):∃ od,h.get? dx=some od/\∀ name,W.lookIn name od=some (mA name):=by
  obtain ⟨o,es,ep,ho,hd,hk,_,hm⟩:=n;refine ⟨o,ho,fun name=>?_⟩;have e:=hm name;unfold nsFind findBy at e;rw [<- Array.find?_toList] at e;unfold W.lookIn;rw [hd];dsimp only;split
  · rename_i y q;rw [q] at e;exact congrArg some e
  · rename_i q;rw [q] at e;have a:es.toList.any (·.refKey)=false:=by
      rw [List.any_eq_false];intro y hy;obtain ⟨z,t,hkey⟩:=hk y (Array.mem_toList_iff.mp hy);simp [DictEntry.refKey,hkey]
    have a':¬ es.toList.any (·.refKey)=true:=by rw [a];exact mT
    rw [if_neg a'];exact congrArg some e
theorem ObjM.look {h:Heap} {x dx C:Addr} {mA:Str->Option Value} (I:ObjM h x dx C mA):∃ od,W.InstAt h x (W.instObj C dx) C (some od)/\∀ name,W.lookIn name od=some (mA name):=
 let ⟨od,ho,hl⟩:=Qk I.ns
 ⟨od,⟨I.obj,rfl,rfl,ho⟩,hl⟩
section
end
theorem II.some_of {v:V} {o:Option Value} (r:II (some v) o):∃ u,o=some u/\RelV v u:=by
 cases o with
 | none=>exact (show False from r).elim
 | some u=>exact ⟨u,rfl,r⟩
section
variable {P:Program} {w:World} {H H':Hp} {h h':Heap} {a C dx:Addr} {fs fs':List (Str×V)}
theorem Xk (hok:Eh P w H h) (e:H a=some (.ins C dx fs)):∃ mA,ObjM h a dx C mA/\(∀ f,II (fs.lookup f) (mA f))/\PySem.Within mA (fs.map (·.1))/\fs.length<=1000/\H dx=some (.own a):=by
 obtain ⟨d,z,ne,ob,mA,n,r,q⟩:=(show Aa P w H h a (.ins C dx fs) from hok a _ e);exact ⟨mA,⟨ob,n,ne⟩,r,q,z,d⟩
end
structure Cls (K:W.Frag) (C:Addr):Prop where
 pg:W.plainGet K C Str.empty=true
 hd:W.hasDictIn K C=true
 po:W.plainOver K C=true
 sa:W.findIn K (.ref C) "__setattr__" = some (some (.builtin "object.__setattr__"))
theorem Cls.get {K:W.Frag} {C:Addr} (c:Cls K C) (f:Str):W.plainGet K C f=true:=c.pg
section
end
section
end
section
variable {X:Cx} {pins:List (Addr×Obj)} {σ:St} {H:Hp} {s:Shared} {A:Around} {E:Value->Shared->Prop} {Q:Value->Shared->Prop} {c:Value} {b:Bool}
inductive TyOf (K:W.Frag) (H:Hp):V->Value->Prop where
  | non:TyOf K H .non (.type "NoneType")
  | bl (x:Bool):TyOf K H (.bl x) (.type "bool")
  | int (i:Int):TyOf K H (.int i) (.type "int")
  | str (x:Str):TyOf K H (.str x) (.type "str")
  | flt (x:UInt64):TyOf K H (.flt x) (.type "float")
  | lst {a:Addr} {xs:List V} (e:H a=some (.lst xs)):TyOf K H (.ref a) (.type "list")
  | frz {a:Addr} {o:Obj} {xs:List V} (e:H a=some (.frz o (.lst xs))):TyOf K H (.ref a) (.type "list")
  | tup {a:Addr} {xs:List V} (e:H a=some (.tup xs)):TyOf K H (.ref a) (.type "tuple")
  | dK {a:Addr} {kvs:List (BE×V)} (e:H a=some (.dK kvs)):TyOf K H (.ref a) (.type "dict")
  | dT {a:Addr} {kvs:List (List BE×V)} (e:H a=some (.dT kvs)):TyOf K H (.ref a) (.type "dict")
  | ins {a C dx:Addr} {fs:List (Str×V)} (e:H a=some (.ins C dx fs)) (cl:Cls K C) (ha:W.findIn K (.ref C) "__class__" = some (some (.builtin "object.__class__")))
      (hn:W.specialIn K (.builtin "object.__class__") "__get__" = some (some (.builtin "getset_descriptor.__get__"))) (htk:W.takesIn K (.builtin "object.__class__")=some true)
      (hm:W.mroIn K C (.type "object")=some true):TyOf K H (.ref a) (.ref C)
theorem Qo {x:V} {u t:Value} (I:Inv X pins σ H s) (rx:RelV x u) (ty:TyOf X.K H x t) (e:W.kitOne X.K t c=some b) (h:∀ tk,Q (.bool b) { s with toks:=tk }) :
    wpAny (model X.prog X.w) A (call (.builtin "isinstance") [u,c]) Q E s:=by
  cases ty with
  | non=>cases (show u=Value.none from rx);exact W.kia_one W.kitx_none I.kIn True.intro e (fun z=>nomatch z) h
  | bl y=>cases (show u=Value.bool y from rx);exact W.kia_one W.kitx_bool I.kIn True.intro e (fun z=>nomatch z) h
  | int i=>obtain ⟨t,q⟩:=(show ∃ t,u=Value.int i t from rx);cases q;exact W.kia_one W.kitx_int I.kIn True.intro e (fun z=>nomatch z) h
  | str y=>obtain ⟨t,q⟩:=(show ∃ t,u=Value.str y t from rx);cases q;exact W.kia_one W.kitx_str I.kIn True.intro e (fun z=>nomatch z) h
  | flt y=>obtain ⟨t,q⟩:=(show ∃ t,u=Value.float y t from rx);cases q;exact W.kia_one W.kitx_float I.kIn True.intro e (fun z=>nomatch z) h
  | @lst a xs ea =>
    cases (show u=Value.ref a from rx);obtain ⟨_,_,n,_,h1⟩:=(show Aa X.prog X.w H s.heap a (.lst xs) from I.hok a _ ea);exact W.kia_one W.kitx_list I.kIn ⟨_,h1,rfl⟩ e (fun z=>nomatch z) h
  | @frz a ob xs ea =>
    cases (show u=Value.ref a from rx);obtain ⟨_,_,_,n,_,h1⟩:=(show Aa X.prog X.w H s.heap a (.frz ob (.lst xs)) from I.hok a _ ea);exact W.kia_one W.kitx_list I.kIn ⟨_,h1,rfl⟩ e (fun z=>nomatch z) h
  | @tup a xs ea =>
    cases (show u=Value.ref a from rx);obtain ⟨_,_,_,p⟩:=(show Aa X.prog X.w H s.heap a (.tup xs) from I.hok a _ ea);obtain ⟨o,h1,h2,_⟩:=p;exact W.kia_one W.kitx_tuple I.kIn ⟨o,h1,h2⟩ e (fun z=>nomatch z) h
  | @dK a kvs ea =>
    cases (show u=Value.ref a from rx);obtain ⟨_,_,vs,_,p⟩:=(show Aa X.prog X.w H s.heap a (.dK kvs) from I.hok a _ ea);obtain ⟨o,es,ep,h1,h2,_⟩:=p;exact W.kia_one W.kitx_dict I.kIn ⟨o,h1,h2.1⟩ e (fun z=>nomatch z) h
  | @dT a kvs ea =>
    cases (show u=Value.ref a from rx);obtain ⟨_,_,xs,_,o,es,ep,h1,h2,_⟩:=(show Aa X.prog X.w H s.heap a (.dT kvs) from I.hok a _ ea);exact W.kia_one W.kitx_dict I.kIn ⟨o,h1,h2.1⟩ e (fun z=>nomatch z) h
  | @ins a C dx fs ea cl ha hn htk hm =>
    cases (show u=Value.ref a from rx);obtain ⟨mA,O,_⟩:=Xk I.hok ea;obtain ⟨od,J,_⟩:=O.look;exact W.kia_one (W.kitx_own (cl.get _) cl.hd ha hn htk hm) I.kIn J e (fun z=>nomatch z) h
end
structure Room (k:Nat) (A:Around):Prop where
 hd:A.handled=none
 dp:A.depth+3 * k+5 < recursionLimit
 un:A.units+16 * k+200 < cLine
 gd:A.guards=some []
theorem Room.mono {j k:Nat} {A:Around} (r:Room k A) (h:j<=k):Room j A:=⟨r.hd,by have:=r.dp;omega,by have:=r.un;omega,r.gd⟩
theorem Room.deeper {k:Nat} {A:Around} (r:Room (k+1) A) (env:Env):Room k (A.deeper env):=
 ⟨r.hd,by have:=r.dp;show A.depth+1+3 * k+5 < _;omega,by have:=r.un;show A.units+3+16 * k+200 < _;omega,r.gd⟩
theorem Room.depth {k:Nat} {A:Around} (r:Room k A):A.depth < recursionLimit:=by have:=r.dp;omega
abbrev WN:TA:=fun _ H Q=>Q [] H
abbrev Yv (ta:TE) (tr:TA):TA:=fun σ H Q=>ta σ H fun x H1=>tr σ H1 fun xs H2=>Q (x::xs) H2
section
variable {X:Cx} {e:Expr} {es:List Expr} {te:TE} {t:TA} {pos:Pos}
theorem Tv:PA X [] WN:=fun _ _ _ _ H Q I h=>Calls.spliced_nil ⟨[],H,I,.nil,h⟩
theorem FB (ha:PE X e te) (hr:PA X es t) (hs:starEach (e::es) X.env=(false,eval e X.env)::starEach es X.env:=by rfl):PA X (e::es) (Yv te t):=by
 intro pos pins s σ H Q I h;rw [hs];show wpAny _ _ (spliced ((false,eval e X.env)::backTo pos (starEach es X.env))) _ _ s;refine Calls.spliced_cons (Ap (ha pins s σ H _ I h) fun u s1 ⟨x,H1,I1,r1,q1⟩=>?_);exact Ap (hr pos pins s1 σ H1 _ I1 q1) fun us s2 ⟨xs,H2,I2,r2,q2⟩=>⟨x::xs,H2,I2,.cons r1 r2,q2⟩
abbrev jU (t:TA):TE:=fun σ H Q=>t σ H fun xs H1=>xs.length<=sizeLine/\∀ p,H1 p=none->Q (.ref p) (upd H1 p (.tup xs))
abbrev jY (t:TA):TE:=fun σ H Q=>t σ H fun xs H1=>xs.length<=sizeLine/\∀ p,H1 p=none->Q (.ref p) (upd H1 p (.lst xs))
theorem bN {x1} (h:PA X es t):PE X (.Tuple es x1 pos) (jU t):=by
 intro pins s σ H Q I hq;refine wpAny_Tuple_spliced (Ap (h pos pins s σ H _ I hq) fun us s1 ⟨xs,H1,I1,r,z,q⟩=>⟨by rw [<- r.length];exact z,?_⟩);have hf:H1 s1.heap.objs.size=none:=I1.hok.fresh (mF _);refine ⟨.ref s1.heap.objs.size,upd H1 s1.heap.objs.size (.tup xs),I1.laid (t':=s1.toks) (fun b u e=>lx _ e) (mF _) ?_,rfl,q _ hf⟩;exact ⟨z,us,r,⟨_,mK _ rfl,rfl,rfl,_,rfl⟩⟩
theorem bS (h:PA X es t):PE X (.List es pos) (jY t):=by
 intro pins s σ H Q I hq;refine wpAny_List_spliced (Ap (h pos pins s σ H _ I hq) fun us s1 ⟨xs,H1,I1,r,z,q⟩=>⟨by rw [<- r.length];exact z,?_⟩);have hf:H1 s1.heap.objs.size=none:=I1.hok.fresh (mF _);refine ⟨.ref s1.heap.objs.size,upd H1 s1.heap.objs.size (.lst xs),I1.laid (t':=s1.toks) (fun b u e=>lx _ e) (mF _) ?_,rfl,q _ hf⟩;exact ⟨z,us,0,r,mK _ rfl⟩
end
abbrev Sp:=List V->Hp->VK->XK->Prop
abbrev WA:=List Env->Hp->Shared->XK->Value->Shared->Prop
structure Env0 (P:Program) (w:World) (K:W.Frag) (mg:Str->Option Value) (base:Heap) (A:Around) (outer:List Env) (s:Shared) (H:Hp):Prop where
 frames:A.frames=some outer
 mod:Mod K mg base
 bs:∀ b o,base.get? b=some o->s.heap.get? b=some o/\H b=none
 bsz:base.objs.size<=s.heap.objs.size
 funs:s.heap.FunFrames base outer
 frf:∀ b∈PH outer,H b=none
 hok:Eh P w H s.heap
 bare:AllBare s.gens
def CE (outer:List Env) (P:Program) (w:World) (H:Hp) (s:Shared) (Q:VK) (u:Value) (s':Shared):Prop:=
 ∃ v H',s'.os=s.os/\AllBare s'.gens/\Un (PH outer) [] H H' s.heap s'.heap/\Eh P w H' s'.heap/\RelV v u/\Q v H'
def CR (CX:WA) (outer:List Env) (P:Program) (w:World) (H:Hp) (s:Shared) (Q:VK) (E:XK) (r:Result) (s':Shared):Prop:=
 match r with
 | .ok (.ret u)=>CE outer P w H s Q u s'
 | .ok _=>False
 | .error e=>CX outer H s E e s'
structure FnOk (P:Program) (w:World) (K:W.Frag) (mg:Str->Option Value) (base:Heap) (CX:WA) (k:Nat) (f:Addr) (fd:FuncData) (ps:List Str) (sp:Sp):Prop where
 len:∀ vs H Q E,sp vs H Q E->vs.length=ps.length
 run:∀ (A:Around) (outer:List Env) (s:Shared) (H:Hp) (args:Args) (us:List Value) (vs:List V) (Q:VK) (E:XK),Room k A->Env0 P w K mg base A outer s H->BindsTo s fd args (ps.zip us)->AE vs us->sp vs H Q E ->
  codeAny (model P w) A (.call (.ref f) args) (CR CX outer P w H s Q E) s
theorem FnOk.imp {P:Program} {w:World} {K:W.Frag} {mg:Str->Option Value} {base:Heap} {CX:WA} {k:Nat} {f:Addr} {fd:FuncData} {ps:List Str} {sp sp':Sp} (F:FnOk P w K mg base CX k f fd ps sp)
    (h:∀ vs H Q E,sp' vs H Q E->sp vs H Q E):FnOk P w K mg base CX k f fd ps sp':=
  ⟨fun vs H Q E q=>F.len vs H Q E (h _ _ _ _ q),fun A outer s H args us vs Q E hr he hb hv hs=>F.run A outer s H args us vs Q E hr he hb hv (h _ _ _ _ hs)⟩
section
variable {X:Cx} {pins:List (Addr×Obj)} {σ:St} {H:Hp} {s s':Shared}
theorem Inv.env0 (I:Inv X pins σ H s):Env0 X.prog X.w X.K X.mg X.base X.A X.stack s H:=
 ⟨I.ok.frames,I.ok.mod,I.bs,mQ I.ok.bsz I.sz,I.stack,I.stkFree,I.hok,I.bare⟩
theorem Inv.after {Q:VK} {u:Value} (I:Inv X pins σ H s) (h:CE X.stack X.prog X.w H s Q u s'):EP X pins σ Q u s':=by
 obtain ⟨v,H',os,bare,un,hok,r,q⟩:=h;obtain ⟨hh,g,d,t,os'⟩:=s';obtain rfl:os'=s.os:=os;exact ⟨v,H',I.call (h':=hh) (g':=g) (d':=d) (t':=t) (ch:=[]) un hok bare (fun b z=>absurd z (by simp)),r,q⟩
end
abbrev Yw (sp:Sp) (dvs:List V) (E:XK) (t:TA):TE:=fun σ H Q=>t σ H fun vs H1=>sp (vs++dvs) H1 Q E
def Binds (K:W.Frag) (fd:FuncData) (ps:List Str) (ds:List Value):Prop:=
 ∀ (s:Shared) (us:List Value),K.In s.heap->(us++ds).length=ps.length->BindsTo s fd ⟨us,[]⟩ (ps.zip (us++ds))
theorem Binds.all {K:W.Frag} {fd:FuncData} {ps:List Str} (h:∀ us:List Value,us.length=ps.length->bindArgs fd ⟨us,[]⟩=pure (ps.zip us)):Binds K fd ps []:=fun s us _ hl=>by
 rw [nO] at hl ⊢;exact .of_eq (h us hl)
def Ky (CX:WA) (X:Cx) (E:XK):Prop:=∀ (pins:List (Addr×Obj)) (σ:St) (H:Hp) (s:Shared) (e:Value) (s':Shared),Inv X pins σ H s->CX X.stack H s E e s'->X.xe e s'
section
variable {X:Cx} {CX:WA} {k:Nat} {f C:Addr} {fd:FuncData} {ps:List Str} {sp:Sp} {dvs:List V} {ds:List Value} {E:XK} {x m:Str} {p pos apos:Pos} {e o:Expr} {es:List Expr} {ta:TE} {t:TA}
theorem Sz {pins:List (Addr×Obj)} {σ:St} {H:Hp} {s:Shared} {Q:VK} {us:List Value} {vs:List V} (F:FnOk X.prog X.w X.K X.mg X.base CX k f fd ps sp) (hr:Room k X.A) (hb:Binds X.K fd ps ds) (hd:AE dvs ds) (hx:Ky CX X E)
    (I:Inv X pins σ H s) (r:AE vs us) (h:sp (vs++dvs) H Q E):wpAny (model X.prog X.w) X.A (call (.ref f) us) (EP X pins σ Q) X.xe s:=by
  have r2:AE (vs++dvs) (us++ds):=r.append hd;have hl:(us++ds).length=ps.length:=by rw [<- r2.length];exact F.len _ _ _ _ h
  refine wpAny_call (codeAny_mono (F.run X.A X.stack s H ⟨us,[]⟩ (us++ds) (vs++dvs) Q E hr I.env0 (hb s us I.kIn hl) r2 h) fun r s' hq=>?_);cases r with
  | error e=>exact hx pins σ H s e s' I hq
  | ok fl =>
    cases fl with
    | ret u=>exact I.after hq
    | next=>exact False.elim hq
    | brk=>exact False.elim hq
    | cont=>exact False.elim hq
theorem XH (F:FnOk X.prog X.w X.K X.mg X.base CX k f fd ps sp) (hr:Room k X.A) (hg:Gl X x) (hm:X.mg x=some (.ref f)) (hk:W.keepIn X.K (.ref f)=true) (hb:Binds X.K fd ps ds) (hd:AE dvs ds) (hx:Ky CX X E)
    (ha:PA X (e::es) t) (hdb:(x == ("__debug__" : Str))=false:=by decide) (he:starEach (e::es) X.env=(false,eval e X.env)::starEach es X.env:=by rfl) (hpl:(backTo pos (starEach es X.env)).any (·.1)=false:=by rfl) :
    PE X (.Call (.Name x p) (e::es) [] pos) (Yw sp dvs E t):=by
  intro pins s σ H Q I h;refine wpAny_Call_Name_kw (KM I hg hm ?_ hdb);refine W.callWith_K (h₀:=X.base) I.ok.mod.kin hk (Ap (ha pos pins s σ H _ I h) fun us s1 ⟨vs,H1,I1,r,q⟩=>⟨I1.kIn,?_⟩) he hpl;exact Sz F hr hb hd hx I1 r q
theorem Ts (F:FnOk X.prog X.w X.K X.mg X.base CX k f fd ps sp) (hr:Room k X.A) (hg:Gl X x) (hm:X.mg x=some (.ref f)) (hk:W.keepIn X.K (.ref f)=true) (hb:Binds X.K fd ps ds) (hd:AE dvs ds) (hx:Ky CX X E)
    (hdb:(x == ("__debug__" : Str))=false:=by decide):PE X (.Call (.Name x p) [] [] pos) (Yw sp dvs E WN):=by
  intro pins s σ H Q I h;refine wpAny_Call_Name_kw (KM I hg hm ?_ hdb);exact W.callWith_K0 I.kIn hk (Sz (us:=[]) F hr hb hd hx I .nil h)
end
section
end
structure FnScope (N P:List Str) (sc:Scope):Prop where
 kind:sc.kind=.function
 co:sc.isCoroutine=false
 gen:sc.isGenerator=false
 nd:N.Nodup
 pre:N.take P.length=P
 par:∀ x∈P,sc.names.lookup x=some .local\/sc.names.lookup x=some .cell
 nofree:∀ y∈sc.names,y.2≠.free
theorem Je {kindOf:Str->Option NameKind} {x:Str}:∀ {binds:List (Str×Value)} {m:Str->Option Value},(∀ v,(x,v)∉binds)->bindL kindOf binds m x=m x
 | [],_,_=>rfl
 | (n,v)::r,m,h=>by
  unfold bindL;rw [Je fun w hw=>h w (mE _ hw)];split
  ·have:x≠n:=by rintro rfl;exact h v mC
   simp [this]
  ·rfl
theorem Jg {kindOf:Str->Option NameKind} {x:Str}:∀ {binds:List (Str×Value)} {m:Str->Option Value},(∀ v,(x,v)∉binds)->bindC kindOf binds m x=m x
 | [],_,_=>rfl
 | (n,v)::r,m,h=>by
  unfold bindC;rw [Jg fun w hw=>h w (mE _ hw)];split
  ·rfl
  ·have:x≠n:=by rintro rfl;exact h v mC
   simp [this]
theorem Jf {kindOf:Str->Option NameKind} {x:Str} {v:Value}:∀ {P:List Str} {vs:List Value} {i:Nat} {m:Str->Option Value},P.Nodup->P[i]?=some x->vs[i]?=some v->kindOf x=some .local ->
    bindL kindOf (P.zip vs) m x=some v
  | [],_,_,_,_,h,_,_=>by simp at h
  | _::_,[],_,_,_,_,h,_=>by simp at h
  | p::P,w::vs,0,m,nd,h1,h2,hk=>by
    simp at h1 h2;subst h1;subst h2;show bindL kindOf ((p,w)::P.zip vs) m p=_;unfold bindL;rw [Je fun v hv=>(oU.mp nd).1 (pQ hv).1,if_pos hk];simp
  | p::P,w::vs,i+1,m,nd,h1,h2,hk=>by
    show bindL kindOf ((p,w)::P.zip vs) m x=_;unfold bindL;exact Jf (i:=i) (oU.mp nd).2 (by simpa using h1) (by simpa using h2) hk
theorem Jh {kindOf:Str->Option NameKind} {x:Str} {v:Value}:∀ {P:List Str} {vs:List Value} {i:Nat} {m:Str->Option Value},P.Nodup->P[i]?=some x->vs[i]?=some v->kindOf x≠some .local ->
    bindC kindOf (P.zip vs) m x=some v
  | [],_,_,_,_,h,_,_=>by simp at h
  | _::_,[],_,_,_,_,h,_=>by simp at h
  | p::P,w::vs,0,m,nd,h1,h2,hk=>by
    simp at h1 h2;subst h1;subst h2;show bindC kindOf ((p,w)::P.zip vs) m p=_;unfold bindC;rw [Jg fun v hv=>(oU.mp nd).1 (pQ hv).1,if_neg hk];simp
  | p::P,w::vs,i+1,m,nd,h1,h2,hk=>by
    show bindC kindOf ((p,w)::P.zip vs) m x=_;unfold bindC;exact Jh (i:=i) (oU.mp nd).2 (by simpa using h1) (by simpa using h2) hk
def start (N:List Str) (vs:List V):St:=vs.map some++List.replicate (N.length - vs.length) none
def MT (CX:WA) (P:Program) (w:World) (K:W.Frag) (mg:Str->Option Value) (base:Heap) (N:List Str) (qual:Str) (scope:Scope) (f:Addr) (cd:Value) (A:Around) (outer:List Env) (s:Shared) (H:Hp) (E:XK):Cx where
 prog:=P
 w:=w
 K:=K
 mg:=mg
 base:=base
 A:=A.deeper (envOfC qual scope s.heap.objs.size f cd)
 N:=N
 s₀:=s
 H₀:=H
 env:=envOfC qual scope s.heap.objs.size f cd
 outer:=outer
 stack:=envOfC qual scope s.heap.objs.size f cd::outer
 ex:=[]
 calm:=true
 fn:=fun _=>true
 pn:=[]
 xe:=fun e s'=>wpAny (model P w) (A.deeper (envOfC qual scope s.heap.objs.size f cd)) (leaving (envOfC qual scope s.heap.objs.size f cd) e) (fun _ s''=>CX outer H s E e s'') (fun e' s''=>CX outer H s E e' s'') s'
theorem MX {sc:Scope} {n:Nat} {x:Str} (h:sc.names.lookup x=some .cell):∃ c,(cellsFrom n sc.names []).lookup x=some c:=by
 have q:=W.cellsFrom_some sc.names n [] (.inl h);exact oF.mp q
theorem Qr {CX:WA} {P:Program} {w:World} {K:W.Frag} {mg:Str->Option Value} {base:Heap} {N ps:List Str} {qual:Str} {scope:Scope} {f:Addr} {cd:Value} {A:Around} {outer:List Env} {s s1:Shared} {H:Hp} {E:XK} {us:List Value} {vs:List V}
    (S:FnScope N ps scope) (hd:A.handled=none) (e0:Env0 P w K mg base A outer s H) (hl:vs.length=ps.length) (r:AE vs us)
    (x:InCallC s s.heap.objs.size (bindL (envOfC qual scope s.heap.objs.size f cd).kindOf (ps.zip us) fun _=>none) (cellsFrom (s.heap.objs.size+1) scope.names []) (bindC (envOfC qual scope s.heap.objs.size f cd).kindOf (ps.zip us) fun _=>none) s1) :
    Inv (MT CX P w K mg base N qual scope f cd A outer s H E) [] (start N vs) H s1:=by
  have hpl:ps.length<=N.length:=by have:=congrArg List.length S.pre;rw [nr] at this;omega
  obtain ⟨h1,tk,rfl,hk⟩:=x.done;have noA:∀ b:Addr,b∉(MT CX P w K mg base N qual scope f cd A outer s H E).ex:=fun b z=>absurd (show b∈([]:List Addr) from z) (by simp)
  refine ⟨⟨e0.mod,S.kind,rfl,rfl,mF _,fun y z c h1 h2=>?_,fun y hy=>?_,fun y c _ h=>?_,fun _=>hd,Around.frames_deeper e0.frames,.inr ⟨rfl,rfl⟩,fun b z=>absurd z (noA b),e0.bs,e0.bsz,fun b _ _=>noA b,fun b z=>absurd z (noA b),e0.funs,e0.frf⟩,
    rfl,e0.bare,Un.kept hk,⟨_,x.toInCall.ns,fun i y v h1 h2 h3=>?_⟩,fun y c h=>⟨_,x.cell y c h⟩,e0.hok.fresh (mF _),fun y c h=>?_,fun p hp=>absurd (show p∈([]:List (Addr×Obj)) from hp) (by simp),e0.hok.kept hk,?_⟩
  · exact name_of_addr x.apart (mw h1) (mw h2)
  · have hy:scope.names.lookup y=some .cell\/scope.names.lookup y=some .free:=hy;rcases hy with hy | hy
    · exact MX hy
    · exact absurd rfl (S.nofree _ (mw hy))
  · exact Nat.le_of_lt (x.above y c (mw h))
  · have hi:i < vs.length:=by
      unfold start at h2
      by_cases hi:i < vs.length
      · exact hi
      · rw [me (by simpa using hi)] at h2;rw [pf] at h2;split at h2<;>cases h2
    have ha:vs[i]?=some v:=by
      unfold start at h2;rw [mH (by simpa using hi),mR] at h2;cases e:vs[i]? with
      | none=>rw [e] at h2;cases h2
      | some a=>rw [e] at h2;cases h2;rfl
    obtain ⟨u,hu,rv⟩:=r.get ha;have hp:ps[i]?=some y:=by
      rw [<- S.pre,pZ (by omega)];exact h1
    have ndP:ps.Nodup:=by rw [<- S.pre];exact S.nd.sublist (List.take_sublist _ _)
    refine ⟨u,rv,?_⟩;rcases S.par y (nV hp) with k | k
    · exact .inl ⟨k,Jf ndP hp hu k⟩
    · obtain ⟨c,e⟩:=MX (n:=s.heap.objs.size+1) k;refine .inr ⟨.inl k,c,e,?_⟩;have q:=x.cell y c e;rw [Jh ndP hp hu (by show scope.names.lookup y≠_;rw [k];decide)] at q;exact q
  · exact e0.hok.fresh (Nat.le_of_lt (x.above y c (mw h)))
  · unfold start;show _=N.length;rw [mV,mX,List.length_replicate];omega
theorem iE {CX:WA} {P:Program} {w:World} {K:W.Frag} {mg:Str->Option Value} {base:Heap} {k:Nat} {f:Addr} {name qual:Str} {params:Arguments} {body:List Stmt} {scope:Scope} {dV kV doc pm cdv ct oc:Value} {an od:Option Addr}
    {osl:Array (Option Value)} {N ps:List Str} {sp:Sp} (lk:K.lookup f=some ⟨oc,od,.func (W.fnOf name qual params body scope dV kV doc pm an cdv ct),osl⟩) (hcd:W.codeIn K cdv qual=true) (S:FnScope N ps scope)
    (len:∀ vs H Q E,sp vs H Q E->vs.length=ps.length)
    (hbody:∀ (A:Around) (outer:List Env) (s:Shared) (H:Hp) (vs:List V) (Q:VK) (E:XK),Room k (A.deeper (envOfC qual scope s.heap.objs.size f cdv))->sp vs H Q E ->
      ∃ t,DQ (MT CX P w K mg base N qual scope f cdv A outer s H E) body t/\t { nx:=fun _ H'=>Q .non H',rt:=Q } (start N vs) H) :
    FnOk P w K mg base CX (k+1) f (W.fnOf name qual params body scope dV kV doc pm an cdv ct) ps sp:=by
  refine ⟨len,fun A outer s H args us vs Q E hr e0 hb r hsp=>?_⟩;have hl:=len _ _ _ _ hsp;have KX:K.In s.heap:=e0.mod.kin.keeps fun b o e=>(e0.bs b o e).1
  have lim:s.heap.NoLimit:=e0.mod.nolimit.keeps fun b o e=>(e0.bs b o e).1
  have hkind:∀ y∈ps.zip us,scope.names.lookup y.1=some .local\/(scope.names.lookup y.1=some .cell/\((cellsFrom (s.heap.objs.size+1) scope.names []).lookup y.1).isSome=true):=fun ⟨n,v⟩ hy=>by
    rcases S.par n (pQ hy).1 with q | q
    · exact .inl q
    · exact .inr ⟨q,W.cellsFrom_some _ _ _ (.inl q)⟩
  refine codeAny_call_function hr.depth (KX _ _ lk) rfl S.co S.gen rfl (W.codeRec_of KX hcd) (hb _ _ _ _ ?_);refine wpAny_newFunctionEnv_cells S.kind hkind fun env he s1 x=>?_
  subst he;refine ⟨lim.keeps x.toInCall.keep,codeAny_func ?_⟩;obtain ⟨t,ht,hq⟩:=hbody A outer s H vs Q E (hr.deeper _) hsp;have I:Inv (MT CX P w K mg base N qual scope f cdv A outer s H E) [] (start N vs) H s1:=Qr S hr.hd e0 hl r x;refine wpAny_mono (ht [] s1 (start N vs) H _ I hq) (fun fl s' hs=>?_) fun e s' hs=>hs
  have fin:∀ {σ':St} {H':Hp} {v:V} {u:Value},Inv (MT CX P w K mg base N qual scope f cdv A outer s H E) [] σ' H' s'->RelV v u->Q v H'->CE outer P w H s Q u s':=
    fun {σ' H' v u} J rv q=>⟨v,H',J.os,J.bare,J.base,J.hok,rv,q⟩
  cases fl with
  | ret u =>
    obtain ⟨v,σ',H',J,rv,q⟩:=hs;exact fin J rv q
  | next =>
    obtain ⟨σ',H',J,q⟩:=hs;exact fin (v:=V.non) (u:=Value.none) J rfl q
  | brk =>
    obtain ⟨_,_,_,q⟩:=hs;exact False.elim q
  | cont =>
    obtain ⟨_,_,_,q⟩:=hs;exact False.elim q
section
variable {X:Cx} {x:Str} {p pos:Pos} {e:Expr} {es:List Expr} {t:TA} {id T:String} {r:List V->Hp->VK->Prop}
abbrev lA (r:List V->Hp->VK->Prop) (t:TA):TE:=fun σ H Q=>t σ H fun vs H1=>r vs H1 Q
theorem Tr (hc:BM X (.builtin id) r) (hg:Gl X x) (hm:X.mg x=none) (hv:bootBuiltins x=some (.builtin id)) (ha:PA X (e::es) t) (hn:x ≠ "__name__" := by decide) (hdb:(x == ("__debug__" : Str))=false:=by decide)
    (he:starEach (e::es) X.env=(false,eval e X.env)::starEach es X.env:=by rfl) (hpl:(backTo pos (starEach es X.env)).any (·.1)=false:=by rfl):PE X (.Call (.Name x p) (e::es) [] pos) (lA r t):=by
  intro pins s σ H Q I h;refine wpAny_Call_Name_kw (Bc I hg hm hv ?_ hn hdb);exact PyProof.Rows.callWith_builtin1 (Ap (ha pos pins s σ H _ I h) fun us s1 ⟨vs,H1,I1,r1,q1⟩=>hc pins s1 σ H1 vs us Q I1 r1 q1) he hpl
theorem QX (hc:BM X (.type T) r) (hg:Gl X x) (hm:X.mg x=none) (hv:bootBuiltins x=some (.type T)) (ha:PA X (e::es) t) (hn:x ≠ "__name__" := by decide) (hdb:(x == ("__debug__" : Str))=false:=by decide)
    (he:starEach (e::es) X.env=(false,eval e X.env)::starEach es X.env:=by rfl) (hpl:(backTo pos (starEach es X.env)).any (·.1)=false:=by rfl):PE X (.Call (.Name x p) (e::es) [] pos) (lA r t):=by
  intro pins s σ H Q I h;refine wpAny_Call_Name_kw (Bc I hg hm hv ?_ hn hdb);exact mi (Ap (ha pos pins s σ H _ I h) fun us s1 ⟨vs,H1,I1,r1,q1⟩=>hc pins s1 σ H1 vs us Q I1 r1 q1) he hpl
end
end L2
namespace HT
open PySem PyProof.Rows
section
open PySem.SeqAt
open PySem.AutoSeq1 (wpAny_loadPart')
open PySem.MeetsSeq PySem.MeetsSeq2 PySem.MeetsSeq3
end
section
variable {prog:Program} {w:World} {A:Around} {E:Value->Shared->Prop} {s:Shared}
theorem cat_tup {t b:Addr} {vs ws:List Value} {Q:Value->Shared->Prop} (ht:IsTup s.heap t vs.toArray) (hb:IsTup s.heap b ws.toArray) (hv:vs≠[])
    (h1:ws=[]->Q (.ref t) s) (h2:ws≠[]->Q (.ref s.heap.objs.size) { s with heap:=s.heap.push { cls:=.type "tuple", data:=.seq (vs++ws).toArray } })
    (hsz:vs.length+ws.length<=sizeLine):wpAny (model prog w) A (binaryOp .Add (.ref t) (.ref b)) Q E s:=by
  obtain ⟨⟨cls,dd,data,sl⟩,ho,hc,n,hd⟩:=id ht;obtain ⟨⟨cls2,dd2,data2,sl2⟩,ho2,hc2,n2,hd2⟩:=id hb;simp only at hc hd hc2 hd2;subst hc hd hc2 hd2;have e:vs.toArray++ws.toArray=(vs++ws).toArray:=by simp
  by_cases hw:ws=[]
  · exact concat_meets ⟨_,ho,rfl⟩ ⟨_,ho2,rfl⟩ noFill_tuple_add seq_tuple_add PySem.F.slot_tuple_add PySem.F.entry_tuple_add (PySem.F.args_tuple_add_2 _ _)
      (tuple_addW1 t b vs.toArray ws.toArray n n2 dd dd2 sl sl2 (by simpa using hv) (by simp [hw])) ⟨ho,ho2,h1 hw⟩
  · refine concat_meets ⟨_,ho,rfl⟩ ⟨_,ho2,rfl⟩ noFill_tuple_add seq_tuple_add PySem.F.slot_tuple_add PySem.F.entry_tuple_add (PySem.F.args_tuple_add_2 _ _)
      (tuple_addW2 t b vs.toArray ws.toArray n n2 dd dd2 sl sl2 (by simpa using hv) (by simpa using hw) (by rw [mD,mD];exact hsz)) ⟨ho,ho2,?_⟩
    rw [e];exact h2 hw
noncomputable def sIx (n d:Nat):Option Int->Nat
 | none=>d
 | some v=>if v < 0 then (v+(n:Int)).toNat else min v.toNat n
theorem sIx_le (n d:Nat) (hd:d<=n) (o:Option Int):sIx n d o<=n:=by
 cases o with
 | none=>exact hd
 | some v =>
  show (if v < 0 then (v+(n:Int)).toNat else min v.toNat n)<=n
  by_cases hv:v < 0
  ·rw [if_pos hv];omega
  ·rw [if_neg hv];exact Nat.min_le_right _ _
theorem Pd (v:Int) (n d:Nat):(if v < 0 then max (v+(n:Int)) 0 else min v (n:Int))=((sIx n d (some v):Nat):Int):=by
 show (if v < 0 then max (v+(n:Int)) 0 else min v (n:Int))=(((if v < 0 then (v+(n:Int)).toNat else min v.toNat n):Nat):Int)
 by_cases hv:v < 0
 ·simp only [if_pos hv];omega
 ·simp only [if_neg hv];omega
theorem OJ (lo hi:Option Int) (n:Nat):Builtin.Slice.sliceAdjust lo hi 1 (n:Int)=(((sIx n 0 lo:Nat):Int),((sIx n n hi:Nat):Int)):=by
 have h1:¬ ((1:Int) < 0):=by omega
 unfold Builtin.Slice.sliceAdjust;simp only [h1,if_false];refine Prod.ext ?_ ?_
 ·cases lo with
  | none=>rfl
  | some v=>exact Pd v n 0
 ·cases hi with
  | none=>rfl
  | some v=>exact Pd v n n
theorem NJ (i j:Nat):Builtin.Slice.slicePlaces (i:Int) (j:Int) 1=j - i:=by
 unfold Builtin.Slice.slicePlaces;have h1:(1:Int) > 0:=by omega
 simp only [h1,if_true,Int.ediv_one];split<;>omega
theorem EV {v:Value} {o:Option Int} {Q:Option Int->Shared->Prop} (p:IsPart v o) (h:Q o s):wpAny (model prog w) A (Builtin.Slice.slicePartIndex v) Q E s:=by
 cases p with
 | none=>exact slicePart_none h
 | int i t=>exact slicePart_int h
theorem sliceApplied_gen {sl:Addr} {vl vu:Value} {lo hi:Option Int} {n:Nat} {Q:Int×Int×Nat->Shared->Prop} (hs:s.heap.IsSliceOf sl vl vu .none) (pl:IsPart vl lo) (pu:IsPart vu hi)
    (h:Q (((sIx n 0 lo:Nat):Int),1,sIx n n hi - sIx n 0 lo) s):wpAny (model prog w) A (Builtin.Slice.sliceApplied (.ref sl) (pure (n:Int))) Q E s:=by
  obtain ⟨os,hos,hcs,hds⟩:=id hs;unfold Builtin.Slice.sliceApplied Builtin.Slice.sliceFields;refine wpAny_bind (wpAny_bind (wpAny_field hos hds (x:=vl) rfl (wpAny_bind (wpAny_field hos hds (x:=vu) rfl (wpAny_bind (wpAny_field hos hds (x:=.none) rfl (wpAny_pure ?_)))))));refine wpAny_bind (slicePart_none ?_);show wpAny _ _ (if ((1:Int) == 0)=true then _ else _) _ _ s;rw [if_neg (by decide)];refine wpAny_bind (EV pl (wpAny_bind (EV pu (wpAny_bind (wpAny_pure ?_)))));show wpAny _ _ (match Builtin.Slice.sliceAdjust lo hi 1 (n:Int) with | (lo,hi)=>pure (lo,(1:Int),Builtin.Slice.slicePlaces lo hi 1)) _ _ s;rw [OJ lo hi n];show wpAny _ _ (pure (((sIx n 0 lo:Nat):Int),(1:Int),Builtin.Slice.slicePlaces ((sIx n 0 lo:Nat):Int) ((sIx n n hi:Nat):Int) 1)) _ _ s;rw [NJ];exact wpAny_pure h
theorem Th (xs:Array Value) (i k:Nat):((List.range k).filterMap fun (m:Nat)=>xs[((i:Int)+(m:Int) * 1).toNat]?).toArray=((xs.toList.drop i).take k).toArray:=by
 have e:(fun (m:Nat)=>xs[((i:Int)+(m:Int) * 1).toNat]?)=fun m=>xs[i+m]?:=by
  funext m;have:((i:Int)+(m:Int) * 1).toNat=i+m:=by omega
  rw [this]
 rw [e];have:=pick_run xs i k;rw [pB] at this;have e2:((fun x=>xs[x]?)∘fun x=>i+x)=fun m=>xs[i+m]?:=rfl
 rw [e2] at this;rw [this]
theorem getItem_tuple_cut {t sl:Addr} {items:Array Value} {vl vu:Value} {lo hi:Option Int} {Q:Value->Shared->Prop} (ht:IsTup s.heap t items) (hs:s.heap.IsSliceOf sl vl vu .none) (pl:IsPart vl lo) (pu:IsPart vu hi)
    (hw:¬ (sIx items.size 0 lo=0/\sIx items.size items.size hi=items.size))
    (h:Q (.ref s.heap.objs.size) { s with heap:=s.heap.push { cls:=.type "tuple", data:=.seq ((items.toList.drop (sIx items.size 0 lo)).take (sIx items.size items.size hi - sIx items.size 0 lo)).toArray } })
    (hsz:items.size<=sizeLine):wpAny (model prog w) A (getItem (.ref t) (.ref sl)) Q E s:=by
  have htake:sizeOk (.seq ((items.toList.drop (sIx items.size 0 lo)).take (sIx items.size items.size hi - sIx items.size 0 lo)).toArray):=by
    show ((items.toList.drop (sIx items.size 0 lo)).take (sIx items.size items.size hi - sIx items.size 0 lo)).toArray.size<=sizeLine;rw [mD,nr,oo,Array.length_toList];omega
  have hj:sIx items.size items.size hi<=items.size:=sIx_le _ _ (mF _) hi;obtain ⟨os,hos,hcs,hds⟩:=id hs
  have hTs:s.TypeIs (.ref sl) "slice" := ⟨os,hos,hcs⟩
  unfold getItem
  try with_reducible refine wpAny_holding ?_
  first | refine wpAny_bind (wpAny_pure ?_) | skip
  refine wpAny_bind (wpAny_sequenceKey ht.typeIs (by decide) ?_)
  refine wpAny_bind (wpAny_callSpecial?_slot (name:=Str.ofString "__getitem__") ht.typeIs mm
    (wpAny_call_entry mm ht.typeIs entry_tuple_getitem ?_ (args_tuple_getitem _ _)))
  show wpAny _ _ (Builtin.Tuple.tupleItemsOf (.ref t) >>= _) _ _ s;refine wpAny_bind (tupleItemsOf_ ht ?_);refine wpAny_bind (wpAny_typeOf hTs ?_);rw [if_pos (by decide)];refine wpAny_bind (sliceApplied_gen hs pl pu ?_);have hno:¬ ((((sIx items.size 0 lo:Nat):Int) == 0 && (1:Int) == 1 && (sIx items.size items.size hi - sIx items.size 0 lo) == items.size)=true):=by
    intro q;rw [ly,ly] at q;have q1:((sIx items.size 0 lo:Nat):Int)=0:=eq_of_beq q.1.1;have q2:sIx items.size items.size hi - sIx items.size 0 lo=items.size:=eq_of_beq q.2;exact hw ⟨by omega,by omega⟩
  show wpAny _ _ (if (((sIx items.size 0 lo:Nat):Int) == 0 && (1:Int) == 1 && (sIx items.size items.size hi - sIx items.size 0 lo) == items.size)=true then _ else _) _ _ s;rw [if_neg hno,Th]
  first
    | exact wpAny_bind (m:=Builtin.Tuple.tupleExact _) (wpAny_newObj_type (wpAny_pure ⟨_,rfl,wpAny_pure h⟩) htake)
    | exact wpAny_bind (m:=Builtin.Tuple.tupleExact _) (wpAny_newObj_type (wpAny_bind (wpAny_pure (wpAny_pure ⟨_,rfl,wpAny_pure h⟩))) htake)
    | exact wpAny_bind (wpAny_bind (m:=Builtin.Tuple.tupleExact _) (wpAny_newObj_type (wpAny_pure (wpAny_pure ⟨_,rfl,wpAny_pure h⟩)) htake))
    | exact wpAny_bind (wpAny_bind (m:=Builtin.Tuple.tupleExact _) (wpAny_newObj_type (wpAny_pure ⟨_,rfl,wpAny_pure h⟩) htake))
end
end HT
namespace L2
open PySem PySem.Spec PyProof.Rows
abbrev TO:=St->Hp->(Option Int->Hp->Prop)->Prop
def PO (X:Cx) (e:Option Expr) (t:TO):Prop:=
 ∀ (pins:List (Addr×Obj)) (s:Shared) (σ:St) (H:Hp) (Q:Option Int->Hp->Prop),Inv X pins σ H s->t σ H Q ->
  wpAny (model X.prog X.w) X.A (evalPart e X.env) (fun u s'=>∃ o H',Inv X pins σ H' s'/\IsPart u o/\Q o H') X.xe s
abbrev WM:TO:=fun _ H Q=>Q none H
abbrev eg (t:TE):TO:=fun σ H Q=>t σ H fun x H1=>∃ i,x=.int i/\Q (some i) H1
section
variable {X:Cx} {e:Expr} {te:TE} {lo hi:Option Expr} {tl th:TO} {pos p2:Pos}
theorem Wy:PO X none WM:=by
 intro pins s σ H Q I h;rw [evalPart_none];exact wpAny_pure ⟨none,H,I,.none,h⟩
theorem Wx (h:PE X e te):PO X (some e) (eg te):=by
 intro pins s σ H Q I hw;rw [evalPart_some];refine Ap (h pins s σ H _ I hw) fun u s1 ⟨x,H1,I1,r1,q1⟩=>?_
 obtain ⟨i,rfl,q⟩:=q1;obtain ⟨t,rfl⟩:=r1;exact ⟨some i,H1,I1,.int i t,q⟩
def Ru (X:Cx) (r:V->Option Int->Option Int->Hp->VK->Prop):Prop:=
 ∀ (pins:List (Addr×Obj)) (s:Shared) (σ:St) (H:Hp) (x:V) (v vl vu:Value) (lo hi:Option Int) (sl:Addr) (Q:VK),Inv X pins σ H s->RelV x v->s.heap.IsSliceOf sl vl vu .none->IsPart vl lo->IsPart vu hi->r x lo hi H Q ->
  ∃ T id,typeLookup (.type T) "__getitem__" = pure (some (.builtin id))/\s.TypeIs v T/\wpAny (model X.prog X.w) X.A (getItem v (.ref sl)) (EP X pins σ Q) X.xe s
theorem Ru.or {r r':V->Option Int->Option Int->Hp->VK->Prop} (h:Ru X r) (h':Ru X r'):Ru X (fun x lo hi H Q=>r x lo hi H Q\/r' x lo hi H Q):=by
 intro pins s σ H x v vl vu lo hi sl Q I rx hs pl pu q;rcases q with q | q
 ·exact h pins s σ H x v vl vu lo hi sl Q I rx hs pl pu q
 ·exact h' pins s σ H x v vl vu lo hi sl Q I rx hs pl pu q
abbrev kr (r:V->Option Int->Option Int->Hp->VK->Prop) (te:TE) (tl th:TO):TE:=fun σ H Q=>te σ H fun x H1=>tl σ H1 fun l H2=>th σ H2 fun u H3=>r x l u H3 Q
theorem To {r:V->Option Int->Option Int->Hp->VK->Prop} (hr:Ru X r) (he:PE X e te) (hl:PO X lo tl) (hu:PO X hi th):PE X (.Subscript e (.Slice lo hi none p2) pos) (kr r te tl th):=by
 intro pins s σ H Q I h;refine Subscript_ (Ap (he pins s σ H _ I h) fun v s1 ⟨x,H1,I1,r1,q1⟩=>?_);refine wpAny_Slice (Ap (hl pins s1 σ H1 _ I1 q1) fun vl s2 ⟨l,H2,I2,pl,q2⟩=>Ap (hu pins s2 σ H2 _ I2 q2) fun vu s3 ⟨u,H3,I3,pu,q3⟩=>?_);rw [evalPart_none];refine wpAny_pure ?_
 have I4:Inv X pins σ H3 { s3 with heap:=s3.heap.push { cls:=.type "slice", data:=.fields #[vl,vu,.none] } }:=I3.kept (t':=s3.toks) fun b ob q=>lx _ q
 obtain ⟨T,id,hT,ht,hg⟩:=hr pins { s3 with heap:=s3.heap.push { cls:=.type "slice", data:=.fields #[vl,vu,.none] } } σ H3 x v vl vu l u s3.heap.objs.size Q I4 r1 (Heap.IsSliceOf.new ..) pl pu q3
 show wpAny (model X.prog X.w) X.A (subscriptTail e (.Slice lo hi none p2) v (.ref s3.heap.objs.size)) (EP X pins σ Q) X.xe { s3 with heap:=s3.heap.push { cls:=.type "slice", data:=.fields #[vl,vu,.none] } }
 exact tail_any (ops:=[.ref s3.heap.objs.size,v]) ht hT hg (by with_unfolding_all rfl)
def FK (xs:List V) (lo hi:Option Int):List V:=(xs.drop (HT.sIx xs.length 0 lo)).take (HT.sIx xs.length xs.length hi - HT.sIx xs.length 0 lo)
theorem GR (xs:List V) (lo hi:Option Int):(FK xs lo hi).length<=xs.length:=by
 unfold FK;rw [nr,oo];omega
def fh (K:W.Frag):V->Option Int->Option Int->Hp->VK->Prop:=fun x lo hi H Q=>∃ a xs,x=.ref a/\Eg K H a xs /\
 ¬ (HT.sIx xs.length 0 lo=0/\HT.sIx xs.length xs.length hi=xs.length)/\∀ p,H p=none->Q (.ref p) (upd H p (.tup (FK xs lo hi)))
theorem aO:Ru X (fh X.K):=by
 intro pins s σ H x v vl vu lo hi sl Q I rx hs pl pu h;obtain ⟨a,xs,rfl,hx,hw,q⟩:=h;cases rx;obtain ⟨its,r,ht,hz⟩:=I.tuple hx;have hlen:its.toArray.size=xs.length:=by rw [mD];exact r.length.symm
 refine ⟨"tuple", _,mm.lookup,ht.typeIs,?_⟩
 refine HT.getItem_tuple_cut ht hs pl pu (by rw [hlen];exact hw) ?_ (by rw [hlen];exact hz);rw [hlen];refine ⟨.ref s.heap.objs.size,_,I.laid (t':=s.toks) (o:=.tup (FK xs lo hi)) (fun b ob q=>lx _ q) (mF _) ?_,rfl,q _ (I.hok.fresh (mF _))⟩;exact ⟨mQ (GR xs lo hi) hz,_,(r.drop (HT.sIx xs.length 0 lo)).take (HT.sIx xs.length xs.length hi - HT.sIx xs.length 0 lo),FQ.new _ _⟩
def ZH (K:W.Frag):R2:=fun x y H Q=>∃ a b xs ys,x=.ref a/\y=.ref b/\Eg K H a xs/\Eg K H b ys/\xs≠[]/\xs.length+ys.length<=sizeLine /\
 (ys=[]->Q (.ref a) H)/\(ys≠[]->∀ p,H p=none->Q (.ref p) (upd H p (.tup (xs++ys))))
theorem AE.nil_iff {xs:List V} {us:List Value} (r:AE xs us):us=[]↔xs=[]:=by
 cases r with
 | nil=>simp
 | cons _ _=>simp
theorem XQ:CH X (binaryOp .Add) (ZH X.K):=by
 intro pins s σ H x y v u Q I rx ry h;obtain ⟨a,b,xs,ys,rfl,rfl,ha,hb,hx,hz,q1,q2⟩:=h;cases rx;cases ry;obtain ⟨its,r1,p1,_⟩:=I.tuple ha;obtain ⟨its2,r2,p2,_⟩:=I.tuple hb;refine HT.cat_tup p1 p2 (fun z=>hx (r1.nil_iff.mp z)) (fun z=>⟨.ref a,H,I,rfl,q1 (r2.nil_iff.mp z)⟩) (fun z=>?_) (by rw [<- r1.length,<- r2.length];exact hz);refine ⟨.ref s.heap.objs.size,_,I.laid (t':=s.toks) (o:=.tup (xs++ys)) (fun b ob q=>lx _ q) (mF _) ?_,rfl,q2 (fun w=>z (r2.nil_iff.mpr w)) _ (I.hok.fresh (mF _))⟩;exact ⟨by rw [mV];exact hz,_,r1.append r2,FQ.new _ _⟩
end
noncomputable def Nb (n:Nat) (i:Int):Option Nat:=if 0<=i then (if i < n then some i.toNat else none) else if -(n:Int)<=i then some (i+n).toNat else none
def ES {α:Type} (xs:List α) (i:Int):Option α:=(Nb xs.length i).bind fun j=>xs[j]?
theorem PB {n:Nat} {i:Int} {j:Nat} (h:Nb n i=some j):seqIndex? i n=some j/\j < n/\-(n:Int)<=i/\i < n:=by
 unfold Nb at h
 by_cases h0:0<=i
 ·rw [if_pos h0] at h
  by_cases h1:i < n
  ·rw [if_pos h1] at h;have e:i.toNat=j:=Option.some.inj h;exact ⟨by rw [seqIndex_of h0 h1,e],by omega,by omega,h1⟩
  ·rw [if_neg h1] at h;cases h
 ·rw [if_neg h0] at h
  by_cases h1:-(n:Int)<=i
  ·rw [if_pos h1] at h;have e:(i+n).toNat=j:=Option.some.inj h;exact ⟨by rw [seqIndex_neg (by omega) h1,e],by omega,h1,by omega⟩
  ·rw [if_neg h1] at h;cases h
theorem Kr {α:Type} {xs:List α} {i:Int} {v:α} (h:ES xs i=some v):∃ j,seqIndex? i xs.length=some j/\xs[j]?=some v/\j < xs.length/\-(xs.length:Int)<=i/\i < xs.length:=by
 unfold ES at h;cases e:Nb xs.length i with
 | none=>rw [e] at h;cases h
 | some j =>
  rw [e] at h;obtain ⟨h1,h2,h3,h4⟩:=PB e;exact ⟨j,h1,h,h2,h3,h4⟩
theorem atI_nat {α:Type} {xs:List α} {j:Nat} {v:α} (h:xs[j]?=some v):ES xs (j:Int)=some v:=by
 have hj:j < xs.length:=(mB.mp h).1;have e:Nb xs.length (j:Int)=some j:=by
  unfold Nb;rw [if_pos (by omega),if_pos (by omega)];simp
 unfold ES;rw [e];exact h
def Pm (b:Expr):Prop:=∀ o i,subscripted b false o i=operate [o,i] (getItem o i)
def Rn (X:Cx) (r:R2):Prop:=
 ∀ (value slice:Expr) (pins:List (Addr×Obj)) (s:Shared) (σ:St) (H:Hp) (x y:V) (v u:Value) (Q:VK),Inv X pins σ H s->RelV x v->RelV y u->r x y H Q ->
  subscripted slice false v u=operate [v,u] (getItem v u)->wpAny (model X.prog X.w) X.A (subscriptTail value slice v u) (EP X pins σ Q) X.xe s
def eE (X:Cx) (id:String) (r:V->List V->Hp->VK->Prop):Prop:=
 ∀ (pins:List (Addr×Obj)) (s:Shared) (σ:St) (H:Hp) (x:V) (xs:List V) (v:Value) (us:List Value) (Q:VK),Inv X pins σ H s->RelV x v->AE xs us->r x xs H Q ->
  wpAny (model X.prog X.w) X.A (call (.builtin id) (v::us)) (EP X pins σ Q) X.xe s
section
variable {X:Cx} {a b:Expr} {ta tb:TE} {pos:Pos}
theorem Rn.or {r r':R2} (h:Rn X r) (h':Rn X r'):Rn X (fun x y H Q=>r x y H Q\/r' x y H Q):=by
 intro value slice pins s σ H x y v u Q I rx ry q hs;rcases q with q | q
 ·exact h value slice pins s σ H x y v u Q I rx ry q hs
 ·exact h' value slice pins s σ H x y v u Q I rx ry q hs
theorem gQ {r:R2} (hr:Rn X r) (ha:PE X a ta) (hb:PE X b tb) (hs:Pm b):PE X (.Subscript a b pos) (jH r ta tb):=by
 intro pins s σ H Q I h;exact Subscript_ (dk ha hb I h fun v u s2 x y H2 I2 rx ry q=>hr a b pins s2 σ H2 x y v u Q I2 rx ry q (hs _ _))
def gD (K:W.Frag):R2:=fun x y H Q=>∃ p xs i v,x=.ref p/\y=.int i/\DA K H p xs/\ES xs i=some v/\Q v H
def gB (K:W.Frag):R2:=fun x y H Q=>∃ p xs i v,x=.ref p/\y=.int i/\Eg K H p xs/\ES xs i=some v/\Q v H
def gC:R2:=fun x y H Q=>∃ z i c,x=.str z/\y=.int i/\z.length<=sizeLine/\ES z.cps.toList i=some c/\Q (.str ⟨#[c]⟩) H
theorem Xj:Rn X (gD X.K):=by
  intro value slice pins s σ H x y v u Q I rx ry h hs;obtain ⟨p,xs,i,z,rfl,rfl,hq,he,q⟩:=h;cases rx;obtain ⟨t,rfl⟩:=ry;obtain ⟨its,r,pl,hz⟩:=I.list hq;obtain ⟨j,h1,h2,h3,h4,h5⟩:=Kr he;obtain ⟨w,ew,rw'⟩:=r.get h2;have hl:=r.length;have hn:=GG;have fin:EP X pins σ Q w s:=⟨z,H,I,rw',q⟩
  by_cases h0:0<=i
  · have hj:i.toNat=j:=by
      rw [seqIndex_of h0 h5] at h1;exact Option.some.inj h1
    exact item_listR pl.isList h0 (by omega) (by rw [hj];simpa using ew) fin hs
  · have hj:(i+(its.toArray.size:Int)).toNat=j:=by
      rw [seqIndex_neg (by omega) h4] at h1;rw [mD,<- hl];exact Option.some.inj h1
    exact subscriptTail_builtinR (x:=w) pl.isList.typeIs slot_list_getitem.lookup
      (wpAny_getItem_list_neg (Q:=fun r s'=>r=w/\EP X pins σ Q r s') pl.isList (by omega) (by rw [mD]<;>omega) (by omega) (by rw [hj];simpa using ew) ⟨rfl,fin⟩) hs
theorem cM:Rn X (gB X.K):=by
 intro value slice pins s σ H x y v u Q I rx ry h hs;obtain ⟨p,xs,i,z,rfl,rfl,hq,he,q⟩:=h;cases rx;obtain ⟨t,rfl⟩:=ry;obtain ⟨its,r,pl,hz⟩:=I.tuple hq;obtain ⟨j,h1,h2,h3,h4,h5⟩:=Kr he;obtain ⟨w,ew,rw'⟩:=r.get h2;have hl:=r.length;have hn:=GG;have fin:EP X pins σ Q w s:=⟨z,H,I,rw',q⟩;exact subscriptTail_builtinR (x:=w) pl.typeIs slot_tuple_getitem.lookup
  (getItem_tuple (j:=j) (Q:=fun r s'=>r=w/\EP X pins σ Q r s') pl (by omega) (by omega) (by rw [mD,<- hl];exact h1) (by simpa using ew) ⟨rfl,fin⟩) hs
theorem cN:Rn X gC:=by
 intro value slice pins s σ H x y v u Q I rx ry h hs;obtain ⟨z,i,c,rfl,rfl,hz,he,q⟩:=h;obtain ⟨t,rfl⟩:=rx;obtain ⟨t',rfl⟩:=ry;obtain ⟨j,h1,h2,h3,h4,h5⟩:=Kr he;have hl:z.cps.toList.length=z.length:=by simp [Str.length]
 rw [hl] at h1 h4 h5;have hn:=GG;exact tail_any (typeIs_str s z t) slot_str_getitem.lookup (getItem_str (c:=c) (by
  have e1:decide (i < -(2 ^ 63:Int))=false:=decide_eq_false (by omega);have e2:decide (i >= 2 ^ 63)=false:=decide_eq_false (by omega);rw [e1,e2,Bool.or_false]) (by rw [h1];simpa using h2) ⟨.str ⟨#[c]⟩,H,I.tok _,⟨_,rfl⟩,q⟩) hs
def ak (K:W.Frag):R2:=fun x y H Q=>gD K x y H Q\/gB K x y H Q\/gC x y H Q
theorem cP:Rn X (ak X.K):=Xj.or (cM.or cN)
theorem NY (its:List Value) (n j:Nat) (u:Value):Obj.mapSeq (·.setIfInBounds j u) { cls:=.type "list", data:=.seq its.toArray n }={ cls:=.type "list", data:=.seq (its.set j u).toArray n }:=by
 simp [Obj.mapSeq]
theorem Inv.lst {pins:List (Addr×Obj)} {σ:St} {H:Hp} {s:Shared} {p:Addr} {xs:List V} (I:Inv X pins σ H s) (h:H p=some (.lst xs)) :
    ∃ (its:List Value) (n:Nat),AE xs its/\s.heap.get? p=some { cls:=.type "list", data:=.seq its.toArray n }/\xs.length<=sizeLine:=by
  obtain ⟨z,its,n,r,e⟩:=I.hok p _ h;exact ⟨its,n,r,e,z⟩
theorem Inv.lstUpd {pins:List (Addr×Obj)} {σ:St} {H:Hp} {s:Shared} {p:Addr} {xs ys:List V} {its its':List Value} {n n':Nat} {f:Obj->Obj} (I:Inv X pins σ H s) (h:H p=some (.lst xs))
    (ho:s.heap.get? p=some { cls:=.type "list", data:=.seq its.toArray n }) (hf:f { cls:=.type "list", data:=.seq its.toArray n }={ cls:=.type "list", data:=.seq its'.toArray n' }) (r:AE ys its') (hz:ys.length<=sizeLine) (t:Nat) :
    Inv X pins σ (upd H p (.lst ys)) { s with heap:=s.heap.update p f,toks:=t }:=by
  have e:(s.heap.update p f).get? p=some { cls:=.type "list", data:=.seq its'.toArray n' }:=by
    rw [nK f ho (by rw [hf]<;>rfl),hf]
  refine I.write (x:=p) (e:=p) (by rw [h];trivial) (.inl rfl) (fun b u hb q=>(nz _ _ (Ne.symm hb)).trans q) ⟨_,e⟩ ?_;exact ⟨hz,its',n',r,e⟩
def TK:V->V->V->Hp->(Hp->Prop)->Prop:=fun o i v H Q=>∃ p xs k j,o=.ref p/\i=.int k/\H p=some (.lst xs)/\Nb xs.length k=some j/\Q (upd H p (.lst (xs.set j v)))
theorem set_list:Kz X TK:=by
  intro pins s σ H o i v ov iv u Q I ro ri rv h;obtain ⟨p,xs,k,j,rfl,rfl,hp,hj,q⟩:=h;cases ro;obtain ⟨t,rfl⟩:=ri;obtain ⟨its,n,r,ho,hz⟩:=I.lst hp;obtain ⟨h1,h2,h3,h4⟩:=PB hj;have hl:=r.length;have hn:=GG;have I':Inv X pins σ (upd H p (.lst (xs.set j v))) { s with heap:=s.heap.update p (Obj.mapSeq (·.setIfInBounds j u)) }:=
    I.lstUpd hp ho (NY its n j u) (r.set rv j) (by rw [ma];exact hz) s.toks
  by_cases h0:0<=k
  · have hk:k.toNat=j:=by
      rw [seqIndex_of h0 h4] at h1;exact Option.some.inj h1
    exact W.ki_setAt ho h0 (by omega) (by rw [mD,<- hl];exact h4) (by rw [hk];exact ⟨_,I',q⟩)
  · have hk:(k+(its.toArray.size:Int)).toNat=j:=by
      rw [seqIndex_neg (by omega) h3] at h1;rw [mD,<- hl];exact Option.some.inj h1
    exact W.ki_setBack ho (by omega) (by rw [mD,<- hl];exact h3) (by omega) (by rw [hk];exact ⟨_,I',q⟩)
theorem Jt (lo hi:Option Int) (n:Nat):(sliceBounds lo hi none n).1=((HT.sIx n 0 lo:Nat):Int)/\(sliceBounds lo hi none n).2.1=((HT.sIx n n hi:Nat):Int)/\(sliceBounds lo hi none n).2.2=1:=by
 refine ⟨?_,?_,rfl⟩
 ·cases lo with
  | none=>simp [sliceBounds,HT.sIx]
  | some i =>
   simp only [sliceBounds,HT.sIx,Option.getD_none,show (1:Int) > 0 by decide,if_true]
   by_cases h:i < 0
   ·simp only [h,if_true]<;>omega
   ·simp only [h,if_false]<;>omega
 ·cases hi with
  | none=>simp [sliceBounds,HT.sIx]
  | some i =>
   simp only [sliceBounds,HT.sIx,Option.getD_none,show (1:Int) > 0 by decide,if_true]
   by_cases h:i < 0
   ·simp only [h,if_true]<;>omega
   ·simp only [h,if_false]<;>omega
theorem IP (its:List Value) (lo hi:Option Int):slicePick its.toArray lo hi none=((its.drop (HT.sIx its.length 0 lo)).take (HT.sIx its.length its.length hi - HT.sIx its.length 0 lo)).toArray:=by
 obtain ⟨h1,h2,h3⟩:=Jt lo hi its.toArray.size;unfold slicePick;rw [h1,h2,h3];simp only [sliceRange_one,pick_run,mD]<;>rfl
def fm (K:W.Frag):V->Option Int->Option Int->Hp->VK->Prop:=fun x lo hi H Q=>∃ a xs,x=.ref a/\DA K H a xs/\∀ p,H p=none->Q (.ref p) (upd H p (.lst (FK xs lo hi)))
theorem WW:Ru X (fm X.K):=by
 intro pins s σ H x v vl vu lo hi sl Q I rx hs pl pu h;obtain ⟨a,xs,rfl,hx,q⟩:=h;cases rx;obtain ⟨its,r,ht,hz⟩:=I.list hx;have hlen:=r.length
 refine ⟨"list", _,slot_list_getitem.lookup,ht.isList.typeIs,?_⟩
 refine wpAny_getItem_list_slice ht.isList hs pl pu .none (by simp) ?_ (by rw [mD]<;>omega);rw [IP,<- hlen];refine ⟨.ref s.heap.objs.size,_,I.laid (t':=s.toks) (o:=.lst (FK xs lo hi)) (fun b ob q=>lx _ q) (mF _) ?_,rfl,q _ (I.hok.fresh (mF _))⟩;exact ⟨mQ (GR xs lo hi) hz,_,0,(r.drop (HT.sIx xs.length 0 lo)).take (HT.sIx xs.length xs.length hi - HT.sIx xs.length 0 lo),mK _ rfl⟩
noncomputable def FH:V->Bool
 | .non=>true
 | .bl _=>true
 | .int _=>true
 | .str _=>true
 | _=>false
noncomputable def eqV:V->V->Bool
 | .non,.non=>true
 | .bl a,.bl b=>a == b
 | .bl a,.int b=>(if a then 1 else 0) == b
 | .int a,.bl b=>a == (if b then 1 else 0)
 | .int a,.int b=>a == b
 | .str a,.str b=>a == b
 | _,_=>false
theorem dE {A:Around} {s:Shared} {y x:V} {u v:Value} (ry:RelV y u) (rx:RelV x v) (fy:FH y=true) (fx:FH x=true):SeqAt.EqAt A s u v (eqV y x):=by
 cases y with
 | non =>
  cases ry;cases x with
  | non=>cases rx;exact SeqAt.EqAt.same _
  | bl b=>cases rx;exact SeqAt.EqAt.none_bool b
  | int b=>obtain ⟨t,rfl⟩:=rx;exact SeqAt.EqAt.none_int b t
  | str b=>obtain ⟨t,rfl⟩:=rx;exact SeqAt.EqAt.none_str b t
  | _=>exact absurd (show false=true from fx) mT
 | bl a =>
  cases ry;cases x with
  | non=>cases rx;exact SeqAt.EqAt.bool_none a
  | bl b=>cases rx;exact SeqAt.EqAt.bool_bool a b
  | int b=>obtain ⟨t,rfl⟩:=rx;exact SeqAt.EqAt.bool_int a b t
  | str b=>obtain ⟨t,rfl⟩:=rx;exact SeqAt.EqAt.bool_str a b t
  | _=>exact absurd (show false=true from fx) mT
 | int a =>
  obtain ⟨t',rfl⟩:=ry;cases x with
  | non=>cases rx;exact SeqAt.EqAt.int_none a t'
  | bl b=>cases rx;exact SeqAt.EqAt.int_bool a t' b
  | int b=>obtain ⟨t,rfl⟩:=rx;exact SeqAt.EqAt.int_int a t' b t
  | str b=>obtain ⟨t,rfl⟩:=rx;exact SeqAt.EqAt.int_str a t' b t
  | _=>exact absurd (show false=true from fx) mT
 | str a =>
  obtain ⟨t',rfl⟩:=ry;cases x with
  | non=>cases rx;exact SeqAt.EqAt.str_none a t'
  | bl b=>cases rx;exact SeqAt.EqAt.str_bool a t' b
  | int b=>obtain ⟨t,rfl⟩:=rx;exact SeqAt.EqAt.str_int a t' b t
  | str b=>obtain ⟨t,rfl⟩:=rx;exact SeqAt.EqAt.str_str a t' b t
  | _=>exact absurd (show false=true from fx) mT
 | _=>exact absurd (show false=true from fy) mT
theorem KG:CH X (compareOp .NotIn) (fun x y H Q=>∃ i j,x=.str i/\y=.str j/\Q (.bl (!(!(Builtin.Str.occurrences j i 0 j.length 1).isEmpty))) H):=by
 intro pins s σ H x y v u Q I rx ry h;obtain ⟨i,j,rfl,rfl,q⟩:=h;obtain ⟨t,rfl⟩:=rx;obtain ⟨t',rfl⟩:=ry;exact notIn_str ⟨.bl _,H,I,rfl,q⟩
theorem BM.or {f:Value} {r r':List V->Hp->VK->Prop} (h:BM X f r) (h':BM X f r'):BM X f (fun xs H Q=>r xs H Q\/r' xs H Q):=by
 intro pins s σ H xs us Q I rs q;rcases q with q | q
 ·exact h pins s σ H xs us Q I rs q
 ·exact h' pins s σ H xs us Q I rs q
theorem Kl:BM X (.type "list") (fun xs H Q=>∃ p ys,xs=[.ref p]/\(DA X.K H p ys\/Eg X.K H p ys)/\∀ l,H l=none->Q (.ref l) (upd H l (.lst ys))):=by
  intro pins s σ H xs us Q I r h;obtain ⟨p,ys,rfl,hq,q⟩:=h;obtain ⟨u,rfl,rx⟩:=vals1 r;cases rx;have fin:∀ (its:List Value),AE ys its->ys.length<=sizeLine->∀ (h':Heap) (c':Nat),(∀ b o',s.heap.get? b=some o'->h'.get? b=some o') ->
      h'.get? s.heap.objs.size=some { cls:=.type "list", dict:=none,data:=.seq its.toArray c',slots:=#[] }->EP X pins σ Q (.ref s.heap.objs.size) { s with heap:=h' }:=fun its r' hz h' c' kp e =>
    ⟨.ref s.heap.objs.size,_,I.laid (t':=s.toks) kp (mF _) (show Aa X.prog X.w _ h' _ (.lst ys) from ⟨hz,its,c',r',e⟩),rfl,q _ (I.hok.fresh (mF _))⟩
  rcases hq with hq | hq
  · obtain ⟨its,r',pl,hz⟩:=I.list hq;have hlen:=r'.length;obtain ⟨o,ho,hc,n,hd⟩:=pl.isList;exact call_list_seq p (.inl rfl) ho hc hd (fun h' c' kp e=>fin its r' hz h' c' kp e) (by simp only [mD]<;>omega)
  · obtain ⟨its,r',pl,hz⟩:=I.tuple hq;have hlen:=r'.length;obtain ⟨o,ho,hc,n,hd⟩:=pl;exact call_list_seq p (.inr rfl) ho hc hd (fun h' c' kp e=>fin its r' hz h' c' kp e) (by simp only [mD]<;>omega)
theorem IV:BM X (.type "tuple") (fun xs H Q=>∃ p ys,xs=[.ref p]/\((DA X.K H p ys/\∀ l,H l=none->Q (.ref l) (upd H l (.tup ys)))\/(Eg X.K H p ys/\Q (.ref p) H))):=by
 intro pins s σ H xs us Q I r h;obtain ⟨p,ys,rfl,h⟩:=h;obtain ⟨u,rfl,rx⟩:=vals1 r;cases rx;rcases h with ⟨hq,q⟩ | ⟨hq,q⟩
 ·obtain ⟨its,r',pl,hz⟩:=I.list hq;have hlen:=r'.length;refine call_tuple_list pl.isList (fun h' kp=>?_) (by simp only [mD]<;>omega);have I1:Inv X pins σ H { s with heap:=h' }:=I.kept (t':=s.toks) kp
  have I2:Inv X pins σ (upd H h'.objs.size (.tup ys)) { s with heap:=h'.push { cls:=.type "tuple", data:=.seq its.toArray } }:=
   I1.laid (t':=s.toks) (fun b o e=>lx _ e) (mF _) (show Aa X.prog X.w _ _ _ (.tup ys) from ⟨hz,its,r',FQ.new _ _⟩)
  exact ⟨.ref h'.objs.size,_,I2,rfl,q _ (I1.hok.fresh (mF _))⟩
 ·obtain ⟨its,r',pl,hz⟩:=I.tuple hq;exact call_tuple_same pl ⟨.ref p,H,I,rfl,q⟩
def jF (K:W.Frag) (T:String) (x:V) (H:Hp):Prop:=match x with
  | .str _=>T = "str"
  | .int _=>T = "int"
  | .ref p=>(T = "list" /\ ∃ xs,DA K H p xs)\/(T = "tuple" /\ ∃ o,K.lookup p=some o/\o.cls=.type "tuple" /\ o.dict=none) \/
      (T = "dict" /\ ((∃ kvs,H p=some (.dK kvs))\/∃ kvs,H p=some (.dT kvs)))\/(T = "set" /\ ∃ S n,H p=some (.set S n))
  | _=>False
theorem SG {pins:List (Addr×Obj)} {σ:St} {H:Hp} {s:Shared} {T:String} {x:V} {v:Value} (I:Inv X pins σ H s) (r:RelV x v) (ty:jF X.K T x H) :
    s.TypeIs v T/\∀ a,v=.ref a->∃ ob,s.heap.get? a=some ob/\ob.dict=none:=by
  cases x with
  | str z =>
    obtain ⟨t,rfl⟩:=r
    cases (show T = "str" from ty)
    exact ⟨typeIs_str s z t,fun _ e=>nomatch e⟩
  | int i =>
    obtain ⟨t,rfl⟩:=r
    cases (show T = "int" from ty)
    exact ⟨typeIs_int s i t,fun _ e=>nomatch e⟩
  | ref p =>
    cases r;rcases ty with ⟨rfl,xs,hq⟩ | ⟨rfl,o,hk,hc,hd⟩ | ⟨rfl,hk⟩ | ⟨rfl,S,n,hk⟩
    · obtain ⟨its,_,pl,_⟩:=I.list hq;refine ⟨pl.isList.typeIs,fun a e=>?_⟩;cases e;obtain ⟨o,n,e,c,hd,_⟩:=pl;exact ⟨o,e,hd⟩
    · refine ⟨⟨o,I.kIn p o hk,hc⟩,fun a e=>?_⟩;cases e;exact ⟨o,I.kIn _ o hk,hd⟩
    · have z:∃ o,s.heap.get? p=some o/\o.ExactDict:=by
        rcases hk with ⟨kvs,hk⟩ | ⟨kvs,hk⟩
        · obtain ⟨_,_,_,_,o,_,_,e,ex,_⟩:=I.hok p _ hk;exact ⟨o,e,ex⟩
        · obtain ⟨_,_,_,_,o,_,_,e,ex,_⟩:=I.hok p _ hk;exact ⟨o,e,ex⟩
      obtain ⟨o,e,ex⟩:=z;refine ⟨⟨o,e,ex.1⟩,fun a e2=>?_⟩;cases e2;exact ⟨o,e,ex.2.1⟩
    · obtain ⟨o,_,_,_,e,ex,_⟩:=I.hok p _ hk;refine ⟨⟨o,e,ex.1⟩,fun a e2=>?_⟩;cases e2;exact ⟨o,e,ex.2.1⟩
  | _=>exact False.elim ty
abbrev jg (K:W.Frag) (T:String) (r:V->List V->Hp->VK->Prop) (to:TE):TE:=fun σ H Q=>to σ H fun x H1=>jF K T x H1/\r x [] H1 Q
abbrev fI (K:W.Frag) (T:String) (r:V->List V->Hp->VK->Prop) (to:TE) (t:TA):TE:=fun σ H Q=>to σ H fun x H1=>jF K T x H1/\t σ H1 fun xs H2=>r x xs H2 Q
variable {o e:Expr} {es:List Expr} {to:TE} {t:TA} {name:Str} {apos cpos:Pos} {T id:String} {r:V->List V->Hp->VK->Prop}
theorem Tt (pa:PlainAttrs T) (slot:Slot T name id) (hty:typeOf (.builtin id)=pure (.type "method_descriptor")) (hm:eE X id r) (ho:PE X o to)
    (hbase:attributeBase o name X.env (eval o X.env)=eval o X.env:=by rfl) (hline:(apos.endLine == cpos.line)=true:=by rfl):PE X (.Call (.Attribute o name apos) [] [] cpos) (jg X.K T r to):=by
  intro pins s σ H Q I h;refine wpAny_Call_method0_late hbase hline (Ap (ho pins s σ H _ I h) fun v s1 ⟨x,H1,I1,r1,ty,q1⟩=>?_);obtain ⟨h1,h2⟩:=SG I1 r1 ty;exact ⟨T,id,pa,slot,hty,h1,h2,Calls.callWith_builtin rfl (PySem.evalArgs_none (hm pins s1 σ H1 x [] v [] Q I1 r1 .nil q1))⟩
theorem ZJ (pa:PlainAttrs T) (slot:Slot T name id) (hty:typeOf (.builtin id)=pure (.type "method_descriptor")) (hm:eE X id r) (ho:PE X o to) (ha:PA X (e::es) t)
    (hbase:attributeBase o name X.env (eval o X.env)=eval o X.env:=by rfl)
    (hfew:((backTo cpos (starEach (e::es) X.env)).all (fun x=>!x.1) && (backToKw cpos (keywordEach [] X.env)).all (fun x=>x.1.isSome)
      && decide ((e::es).length+([]:List Keyword).length+(if ([]:List Keyword).isEmpty then 0 else 1) < 30))=true:=by rfl)
    (hline:(apos.endLine == cpos.line)=true:=by rfl) (hs:starEach (e::es) X.env=(false,eval e X.env)::starEach es X.env:=by rfl) (hplain:(backTo cpos (starEach es X.env)).any (·.1)=false:=by rfl) :
    PE X (.Call (.Attribute o name apos) (e::es) [] cpos) (fI X.K T r to t):=by
  intro pins s σ H Q I h;refine wpAny_Call_method_late hbase hfew hline rfl (Ap (ho pins s σ H _ I h) fun v s1 ⟨x,H1,I1,r1,ty,q1⟩=>?_);obtain ⟨h1,h2⟩:=SG I1 r1 ty;refine ⟨T,id,pa,slot,hty,h1,h2,?_⟩;have hA:=ha cpos pins s1 σ H1 _ I1 q1;rw [hs] at hA ⊢;refine Calls.callWith_builtin (by show (false || (backTo cpos (starEach es X.env)).any (·.1))=false;rw [hplain]<;>rfl) (Calls.evalArgs_plain ?_);exact Ap hA fun us s2 ⟨vs,H2,I2,r2,q2⟩=>hm pins s2 σ H2 x vs v us Q I2 r1 r2 q2
end
def eG (X:Cx) (id:String) (r:V->List V->Hp->VK->Prop):Prop:=
 ∀ (pins:List (Addr×Obj)) (s:Shared) (σ:St) (H:Hp) (x:V) (xs:List V) (v:Value) (us:List Value) (Q:VK),Inv X pins σ H s->RelV x v->AE xs us->r x xs H Q ->
  wpAny (model X.prog X.w) X.A (call (.builtin id) (v::us)) (EP X pins σ Q) X.xe s
theorem AE.one:∀ {x:V} {us:List Value},AE [x] us->∃ u,us=[u]/\RelV x u
 := by
 intro x us h;cases h with | cons r t=>cases t;exact ⟨_,rfl,r⟩
theorem AE.two:∀ {x y:V} {us:List Value},AE [x,y] us->∃ u v,us=[u,v]/\RelV x u/\RelV y v
 := by
 intro x y us h;cases h with | cons r t=>cases t with | cons q t=>cases t;exact ⟨_,_,rfl,r,q⟩
theorem AE.zero:∀ {us:List Value},AE [] us->us=[]
 | _,.nil=>rfl
theorem AE.dropLast {xs:List V} {us:List Value} (h:AE xs us):AE xs.dropLast us.dropLast:=by
 induction h with
 | nil=>exact .nil
 | cons r t ih =>
  cases t with
  | nil=>exact .nil
  | cons q t'=>exact .cons r ih
theorem AE.eraseIdx:∀ {xs:List V} {us:List Value} (i:Nat),AE xs us->AE (xs.eraseIdx i) (us.eraseIdx i)
 | _,_,_,.nil=>.nil
 | _,_,0,.cons _ t=>t
 | _,_,i+1,.cons r t=>.cons r (AE.eraseIdx i t)
theorem AE.rep {xs:List V} {us:List Value} (h:AE xs us):∀ k:Nat,AE (List.replicate k xs).flatten (List.replicate k us).flatten
 | 0=>.nil
 | k+1=>by
  rw [nQ,nQ,oC,oC];exact AE.append h (AE.rep h k)
theorem Nq {α:Type} (l:List α):l.eraseIdx (l.length - 1)=l.dropLast:=by
 induction l with
 | nil=>rfl
 | cons a r ih =>
  cases r with
  | nil=>rfl
  | cons b r =>
   have e:(a::b::r).length - 1=((b::r).length - 1)+1:=by
    have h1:(a::b::r).length=r.length+2:=rfl;have h2:(b::r).length=r.length+1:=rfl;omega
   rw [e,List.eraseIdx_cons_succ,ih]
   all_goals rfl
theorem JI {α:Type}:∀ (l:List α) (i:Nat),(l.eraseIdx i).length<=l.length
 | [],_=>mF _
 | _::_,0=>oT _
 | _::r,i+1=>Nat.succ_le_succ (JI r i)
theorem foldl_rep (its:List Value):∀ (k:Nat) (acc:List Value),
    List.foldl (fun x1 x2=>x1++x2) acc.toArray (List.replicate k its.toArray)=(acc++(List.replicate k its).flatten).toArray
  | 0,acc=>by simp
  | k+1,acc=>by
    have e:acc.toArray++its.toArray=(acc++its).toArray:=by simp
    have e2:(acc++its)++(List.replicate k its).flatten=acc++(List.replicate (k+1) its).flatten:=by
      rw [nQ,oC,nB]
    rw [<- e2,<- foldl_rep its k (acc++its),<- e,nQ,oJ]
section
variable {X:Cx} {pins:List (Addr×Obj)} {σ:St} {H:Hp} {s:Shared} {l b:Addr} {xs ys zs:List V}
theorem Inv.lset {its its':List Value} {n:Nat} {f:Array Value->Array Value} {t':Nat} (I:Inv X pins σ H s) (hH:H l=some (.lst xs))
    (e:s.heap.get? l=some { cls:=.type "list", data:=.seq its.toArray n }) (hf:f its.toArray=its'.toArray) (hv:AE ys its') (hz:ys.length<=sizeLine) :
    Inv X pins σ (upd H l (.lst ys)) { s with heap:=s.heap.update l (Obj.mapSeq f),toks:=t' }:=by
  have q:=PySem.IsL.update e f;rw [hf] at q;refine I.write (x:=l) (e:=l) (by rw [hH];exact trivial) (.inl rfl) (fun b' u hb hu=>(nz s.heap (Obj.mapSeq f) (Ne.symm hb)).trans hu) ⟨_,q⟩ ?_;exact ⟨hz,its',_,hv,q⟩
theorem Inv.lnew {its:List Value} {t':Nat} (I:Inv X pins σ H s) (hv:AE ys its) (hz:ys.length<=sizeLine) :
    Inv X pins σ (upd H s.heap.objs.size (.lst ys)) { s with heap:=s.heap.push { cls:=.type "list", data:=.seq its.toArray },toks:=t' }:=
  I.laid (fun _ _ q=>lx _ q) (mF _) ⟨hz,its,0,hv,mK _ rfl⟩
theorem Inv.fresh (I:Inv X pins σ H s):H s.heap.objs.size=none:=I.hok.fresh (mF _)
theorem Inv.lstM (I:Inv X pins σ H s) (hH:H l=some (.lst xs)):xs.length<=sizeLine/\∃ (its:List Value) (n:Nat),AE xs its/\xs.length=its.length/\s.heap.get? l=some { cls:=.type "list", data:=.seq its.toArray n }:=by
 obtain ⟨z,its,n,r,e⟩:=I.hok l _ hH;exact ⟨z,its,n,r,r.length,e⟩
theorem Ls {n:Nat} (h:n<=sizeLine):Builtin.List.listTooLong n=false:=by
 unfold Builtin.List.listTooLong;exact decide_eq_false (by omega)
end
section
variable {X:Cx}
def Oq:V->List V->Hp->VK->Prop:=fun x vs H Q=>∃ l xs y,x=.ref l/\vs=[y]/\H l=some (.lst xs)/\xs.length < sizeLine/\Q .non (upd H l (.lst (xs++[y])))
theorem Qg:eG X "list.append" Oq:=by
 intro pins s σ H x vs v us Q I rx rv h;obtain ⟨l,xs,y,rfl,rfl,hH,hz,q⟩:=h;cases rx;obtain ⟨u,rfl,ru⟩:=rv.one;obtain ⟨z,its,n,r,hl,e⟩:=I.lstM hH;refine call_meets F.slot_list_append ⟨_,e,rfl⟩ F.entry_list_append (F.args_list_append_2 _ _) (PySem.list_append l its.toArray n u (by rw [mD];omega)) ⟨e,?_⟩;refine ⟨.non,_,I.lset (its':=its++[u]) hH e (by simp) (r.append (.cons ru .nil)) ?_,rfl,q⟩;rw [mV,nN];omega
def Oo:V->List V->Hp->VK->Prop:=fun x vs H Q=>∃ l b xs zs,x=.ref l/\vs=[.ref b]/\H l=some (.lst xs)/\H b=some (.lst zs)/\xs.length+zs.length<=sizeLine/\Q .non (upd H l (.lst (xs++zs)))
theorem Qf:eG X "list.extend" Oo:=by
 intro pins s σ H x vs v us Q I rx rv h;obtain ⟨l,b,xs,zs,rfl,rfl,hH,hB,hz,q⟩:=h;cases rx;obtain ⟨u,rfl,ru⟩:=rv.one;cases ru;obtain ⟨z,its,n,r,hl,e⟩:=I.lstM hH;obtain ⟨z2,its2,n2,r2,hl2,e2⟩:=I.lstM hB;have hsz:its.toArray.size+its2.toArray.size<=sizeLine:=by rw [mD,mD];omega
 have hlong:¬ (!its.toArray.isEmpty && Builtin.List.listTooLong (its.toArray.size+its2.toArray.size))=true:=by
  rw [Ls hsz,pX];exact mT
 refine call_meets F.slot_list_extend ⟨_,e,rfl⟩ F.entry_list_extend (F.args_list_extend_2 _ _)
  (AutoSeq1.list_extend_list_list_0 l its.toArray n b its2.toArray n2 hlong (by rw [mD];omega) (by omega)) ⟨e,e2,?_⟩
 refine ⟨.non,_,I.lset (its':=its++its2) hH e (by simp) (r.append r2) ?_,rfl,q⟩;rw [mV];omega
def gA:V->List V->Hp->VK->Prop:=fun x vs H Q=>∃ l xs y,x=.ref l/\vs=[]/\H l=some (.lst xs)/\xs[xs.length - 1]?=some y/\Q y (upd H l (.lst xs.dropLast))
theorem bx:eG X "list.pop" gA:=by
 intro pins s σ H x vs v us Q I rx rv h;obtain ⟨l,xs,y,rfl,rfl,hH,hy,q⟩:=h;cases rx;have hus:=rv.zero;subst hus;obtain ⟨z,its,n,r,hl,e⟩:=I.lstM hH;obtain ⟨u,hu,ru⟩:=r.get hy;have hy':its.toArray[its.toArray.size - 1]?=some u:=by
  show its.toArray[its.length - 1]?=some u;rw [<- Array.getElem?_toList,<- hl];exact hu
 refine call_meets F.slot_list_pop ⟨_,e,rfl⟩ F.entry_list_pop (F.args_list_pop_1 _) (MeetsSeq.list_pop_last l its.toArray n u hy' (by rw [mD];omega)) ⟨e,?_⟩;refine ⟨y,_,I.lset (its':=its.dropLast) hH e ?_ r.dropLast ?_,ru,q⟩
 ·show its.toArray.eraseIdxIfInBounds (its.toArray.size - 1)=its.dropLast.toArray;rw [mD,pH,Nq]
 ·rw [List.length_dropLast];omega
def TL:V->List V->Hp->VK->Prop:=fun x vs H Q=>∃ l xs i k y,x=.ref l/\vs=[.int i]/\H l=some (.lst xs)/\-(2 ^ 63)<=i/\i < 2 ^ 63/\seqIndex? i xs.length=some k/\xs[k]?=some y/\Q y (upd H l (.lst (xs.eraseIdx k)))
theorem UH:eG X "list.pop" TL:=by
 intro pins s σ H x vs v us Q I rx rv h;obtain ⟨l,xs,i,k,y,rfl,rfl,hH,h1,h2,hk,hy,q⟩:=h;cases rx;obtain ⟨u,rfl,ru⟩:=rv.one;obtain ⟨t,rfl⟩:=ru;obtain ⟨z,its,n,r,hl,e⟩:=I.lstM hH;obtain ⟨w,hw,rw'⟩:=r.get hy;refine call_meets F.slot_list_pop ⟨_,e,rfl⟩ F.entry_list_pop (F.args_list_pop_2 _ _)
  (MeetsSeq.list_pop_at l its.toArray n i t k w (fitsIndex_both h1 h2) (by rw [mD,<- hl];exact hk) (by rw [<- Array.getElem?_toList];exact hw) (by rw [mD];omega)) ⟨e,?_⟩
 refine ⟨y,_,I.lset (its':=its.eraseIdx k) hH e ?_ (r.eraseIdx k) ?_,rw',q⟩
 ·show its.toArray.eraseIdxIfInBounds k=(its.eraseIdx k).toArray;rw [pH]
 ·have:=JI xs k;omega
def gF:R2:=fun x y H Q=>∃ l b xs zs,x=.ref l/\y=.ref b/\H l=some (.lst xs)/\H b=some (.lst zs)/\xs.length+zs.length<=sizeLine/\∀ p,H p=none->Q (.ref p) (upd H p (.lst (xs++zs)))
theorem bj:CH X (binaryOp .Add) gF:=by
 intro pins s σ H x y v u Q I rx ry h;obtain ⟨l,b,xs,zs,rfl,rfl,hH,hB,hz,q⟩:=h;cases rx;cases ry;obtain ⟨z,its,n,r,hl,e⟩:=I.lstM hH;obtain ⟨z2,its2,n2,r2,hl2,e2⟩:=I.lstM hB;refine PySem.P.add_list e e2 ?_ (by rw [mD,mD];omega);have ea:its.toArray++its2.toArray=(its++its2).toArray:=by simp
 rw [ea];exact ⟨.ref _,_,I.lnew (t':=s.toks) (r.append r2) (by rw [mV];omega),rfl,q _ I.fresh⟩
def fw:R2:=fun x y H Q=>∃ l k xs,x=.ref l/\y=.int k/\H l=some (.lst xs)/\-(2 ^ 63)<=k/\k < 2 ^ 63/\xs.length * k.toNat<=sizeLine /\
 ∀ p,H p=none->Q (.ref p) (upd H p (.lst (List.replicate k.toNat xs).flatten))
theorem len_rep {α:Type} (xs:List α) (k:Nat):(List.replicate k xs).flatten.length=k * xs.length:=by
 induction k with
 | zero=>simp
 | succ k ih=>rw [nQ,oC,mV,ih,Nat.succ_mul,Nat.add_comm]
theorem bY:CH X (binaryOp .Mult) fw:=by
 intro pins s σ H x y v u Q I rx ry h;obtain ⟨l,k,xs,rfl,rfl,hH,h1,h2,hz,q⟩:=h;cases rx;obtain ⟨t,rfl⟩:=ry;obtain ⟨z,its,n,r,hl,e⟩:=I.lstM hH;have hlen:its.toArray.size * k.toNat<=sizeLine:=by rw [mD,<- hl];exact hz
 have hcap:¬ its.toArray.size * k.toNat > (2 ^ 63 - 1) / 8:=by
  have:(sizeLine:Nat)<=(2 ^ 63 - 1) / 8:=by decide
  omega
 have hfit:¬ (!Builtin.List.listFitsIndex k)=true:=by
  rw [fitsIndex_both h1 h2];exact mT
 have hlong:¬ Builtin.List.listTooLong (its.toArray.size * k.toNat)=true:=by
  rw [Ls hlen];exact mT
 have hnew:List.foldl (fun x1 x2=>x1++x2) #[] (List.replicate (if its.toArray.isEmpty=true then 0 else k.toNat) its.toArray)=(List.replicate k.toNat its).flatten.toArray:=by
  have f0:∀ m:Nat,List.foldl (fun x1 x2=>x1++x2) #[] (List.replicate m its.toArray)=(List.replicate m its).flatten.toArray:=fun m=>by
   have:=foldl_rep its m [];rw [pR] at this;exact this
  rw [f0];cases its with
  | nil=>simp
  | cons a r'=>rw [if_neg (by simp)]
 refine wpAny_binaryOp_repeat_ref (T := "list") (U := "int") (by decide) ⟨_,e,rfl⟩ (fun s'=>typeIs_int s' k t) noFill_list_mul F.fills_int_mul F.slot_int_rmul repeat_list F.slot_int_index.lookup
  (call_meets F.slot_int_rmul (typeIs_int s k t) F.entry_int_rmul (F.args_int_rmul_2 _ _) (int___rmul___int_list k t l its.toArray n)
   ⟨e,rfl,⟨_,e,rfl⟩,call_meets F.slot_list_mul ⟨_,e,rfl⟩ F.entry_list_mul (F.args_list_mul_2 _ _) (AutoListH.list___mul___list_int_3 l its.toArray n k t hfit hcap hlong) ⟨e,?_⟩⟩)
 rw [hnew];exact ⟨.ref _,_,I.lnew (t':=s.toks) (r.rep k.toNat) (by rw [len_rep,Nat.mul_comm];exact hz),rfl,q _ I.fresh⟩
end
section
end
section
end
end L2
namespace Att
open PySem PySem.W PySem.Calls PyProof.Rows
theorem GX {P:Params} {h:Heap}:∀ (ns:List Int) (vs:List Value),WellAll P h vs (ns.map WData.int)->IntsAre vs ns:=by
 intro ns
 induction ns with
 | nil =>
  intro vs w;rw [oP] at w;cases w;exact .nil
 | cons n ns ih =>
  intro vs w;rw [mJ] at w;cases w with
  | cons a b =>
   cases a;exact .cons _ _ (ih _ b)
theorem QK {l:OpenLaw} {n:Nat} (hn:l.most=some n) {P:Params} {h:Heap} {args:List WData} {DB:List Value}
    (hpre:l.row.toRowW.claim.pre args=true) (hwl:WellAll P h DB args) :
    ∃ a vs ns,DB=[Value.ref a]/\args=[WData.list (ns.map WData.int)]/\h.get? a=some { cls:=.type "list", data:=.seq vs.toArray }/\IntsAre vs ns/\ns.length<=n:=by
  have hsh:WShape.hasAll [] args [.list .int]=true:=(pre_splitW hpre).1;have hc:l.pre.holds [] { args:=args }=true:=(pre_splitW hpre).2;obtain ⟨d,r,rfl,h1,h2⟩:=hasAllW_cons hsh;obtain rfl:=hasAllW_nil h2;obtain ⟨xs,rfl,h3⟩:=hasW_list h1;obtain ⟨ns,rfl⟩:=items_int h3;have hlen:ns.length<=n:=by
    unfold OpenLaw.pre at hc;have h4:(WTm.not (.lt (.lit (.int (n:Int))) (.len (.arg 0)))).holds [] { args:=[.list (ns.map .int)] }=true:=by
      have h4:=(holds_andW hc).1;rw [hn] at h4;exact h4
    have h5:=condW_of h4 (w_not (w_lt w_lit (w_len_list (w_arg rfl))));rw [mX] at h5;refine Nat.le_of_not_lt fun q=>?_
    have q':(n:Int) < ((ns.length:Nat):Int):=by omega
    first
      | (rw [decide_eq_true q'] at h5;exact absurd h5 (by decide))
      | (simp at h5;omega)
  cases hwl with
  | cons w1 w2 =>
    cases w2;cases w1 with
    | list ho hall=>exact ⟨_,_,ns,rfl,rfl,ho,GX ns _ hall,hlen⟩
theorem QS (l:OpenLaw) (args:List WData):l.row.toRowW.claim.post args (.bool true) args=true:=
 postW_of (r:=l.row.toRowW) (X:=(true == true))
  (show WShape.has [] (.bool true) .bool=true by first | rfl | decide | simp [WShape.has,WShape.arms,WShape.armsAll])
  (show (WTm.eq .res (.lit (.bool true))).value [] { args:=args,res:=some (.bool true),after:=args }=some (.bool (true == true)) from w_eq_bool (w_res rfl) w_lit) rfl
theorem attach_call {l:OpenLaw} {n:Nat} {q:Program} {loose:List Str} {XP:(Str->Option Value)->Heap->Prop} {YP:World->Heap->Prop} {d:DefRec}
    (hn:l.most=some n) (hdf:d.params.defaults=[])
    (call:∀ (w:World) (s₀ s₁:Shared) (mg mb:Str->Option Value) (fa:Addr) (o:Obj) (pm cd doc:Value) (a:Addr) (vs:List Value) (ns:List Int),
      Ground q loose [] XP w s₀ mg mb s₁.heap->YP w s₁.heap ->
      s₁.heap.get? fa=some o->o.data=.func (docDef d.name d.params d.body d.scope pm cd doc)->s₁.heap.CodeRec cd d.name->mg d.name=some (.ref fa) ->
      s₁.heap.get? a=some { cls:=.type "list", data:=.seq vs.toArray }->IntsAre vs ns->ns.length<=n->s₁.gens=#[] ->
      codeAny (model l.prog w) callerA (.call (.ref fa) ⟨[.ref a],[]⟩) (fun r s'=>r=.ok (.ret (.bool true))/\OldK s₁.heap s'.heap/\s'.os=s₁.os/\AllBare s'.gens) s₁) :
    WalkO q loose XP YP l.row.toRowW d [] (fun f vs=>PySem.call f vs):=by
  intro w s₀ s₁ mg mb G Y fa o pm cd doc dV kV ho hd hcd hD hmg hg args DB as hpre hlay hrd hwl hlo;obtain rfl:dV=.none:=Dflts.none hD hdf;obtain rfl:kV=.none:=Dflts.noKw hD;obtain ⟨a,vs,ns,rfl,rfl,hobj,hints,hlen⟩:=QK hn hpre hwl;refine enter_call (codeAny_mono (call w s₀ s₁ mg mb fa o pm cd doc a vs ns G Y ho (fd_plain hd) hcd hmg hobj hints hlen hg) fun r s' hq=>?_);obtain ⟨rfl,h2,h3,h4⟩:=hq;exact ⟨.inl ⟨.bool true,.bool true,[],rfl,fun _=>rfl,.bool true,QS l _,fun _=>⟨List.Pairwise.nil,fun _ hm=>(nomatch hm)⟩⟩,h2,h3,h4⟩
section
end
end Att
namespace L2
open PySem PySem.Spec PyProof.Rows
theorem Ir:∀ {vs:List Value} {ns:List Int},IntsAre vs ns->AE (ns.map V.int) vs
 | _,_,.nil=>.nil
 | _,_,.cons n t h=>.cons ⟨t,rfl⟩ (Ir h)
def Ym (H:Hp):Prop:=∀ b,H b=none\/∃ o xs,H b=some (.frz o (.lst xs))
theorem UP {P:Program} {w:World} {K:W.Frag} {mg mb:Str->Option Value} {CX:WA} {k:Nat} {fa a:Addr} {fd:FuncData} {x:Str} {sp:Sp} {s₁:Shared} {vs:List Value} {ns:List Int}
    (KX:K.In s₁.heap) (hns:s₁.heap.Ns mainGlobals mg) (hb:s₁.heap.Ns builtinsNs mb) (hbb:∀ x:Str,x ≠ "__name__" -> mb x=bootBuiltins x) (hlim:s₁.heap.NoLimit) (hg:s₁.gens=#[])
    (ha:s₁.heap.get? a=some { cls:=.type "list", data:=.seq vs.toArray }) (hi:IntsAre vs ns) (hl:ns.length<=sizeLine) (hr:Room k callerA)
    (F:∀ base:Heap,K.In base->base.Ns mainGlobals mg->FnOk P w K mg base CX k fa fd [x] sp) (hbind:∀ (s:Shared) (u:Value),BindsTo s fd ⟨[u],[]⟩ [(x,u)])
    (hsp:∀ H:Hp,Ym H->DA K H a (ns.map V.int)->sp [.ref a] H (fun v _=>v=.bl true) fun _ _ _=>False)
    (hCX:∀ H e s',CX [] H s₁ (fun _ _ _=>False) e s'->False) :
    codeAny (model P w) callerA (.call (.ref fa) ⟨[.ref a],[]⟩) (fun r s'=>r=.ok (.ret (.bool true))/\OldK s₁.heap s'.heap/\s'.os=s₁.os/\AllBare s'.gens) s₁:=by
  have rv:=Ir hi;have lenV:=hi.length
  -- from an abstract heap in which nothing but the script may be tracked
  have core:∀ H:Hp,Ym H->DA K H a (ns.map V.int)->Eh P w H s₁.heap->(∀ b,H b≠none->b=a)->(H a≠none->K.lookup a=none) ->
      codeAny (model P w) callerA (.call (.ref fa) ⟨[.ref a],[]⟩) (fun r s'=>r=.ok (.ret (.bool true))/\OldK s₁.heap s'.heap/\s'.os=s₁.os/\AllBare s'.gens) s₁:=by
    intro H hO hS hok hA hK;have FN:∀ {b:Addr} {o:Obj},s₁.heap.get? b=some o->H b=none->(KS s₁.heap H).get? b=some o:=fun e n=>UT e n
    have noA:∀ {b:Addr} {o:Obj} {es:Array DictEntry} {ep:Nat},s₁.heap.get? b=some o->o.data=.dict es ep->H b=none:=fun {b o es ep} e d=>by
      cases q:H b with
      | none=>rfl
      | some u =>
        have e':b=a:=hA b (by rw [q];simp);subst e';rw [ha] at e;cases e;have d':Data.seq vs.toArray _=Data.dict es ep:=d;cases d'
    have nsK:∀ {b:Addr} {m:Str->Option Value},s₁.heap.Ns b m->(KS s₁.heap H).Ns b m:=fun {b m} ⟨o,es,ep,e,d,r⟩=>⟨o,es,ep,FN e (noA e d),d,r⟩
    have hKb:K.In (KS s₁.heap H):=fun b o e=>FN (KX b o e) (by
      cases q:H b with
      | none=>rfl
      | some u =>
        have e':b=a:=hA b (by rw [q];simp);subst e';rw [hK (by rw [q];simp)] at e;cases e)
    have hM:Mod K mg (KS s₁.heap H):=⟨hKb,nsK hns,⟨mb,nsK hb,hbb⟩,let ⟨mc,h1,h2⟩:=hlim;⟨mc,nsK h1,h2⟩⟩;have e0:Env0 P w K mg (KS s₁.heap H) callerA [] s₁ H:=⟨rfl,hM,fun b o e=>XX e,Nat.le_of_eq (Qs _ _),trivial,fun b hb=>absurd (show b∈([]:List Addr) from hb) (by simp),hok,.of_eq hg⟩;refine codeAny_mono ((F _ hKb (nsK hns)).run callerA [] s₁ H ⟨[.ref a],[]⟩ [.ref a] [.ref a] _ _ hr e0 (hbind s₁ (.ref a)) (.cons rfl .nil) (hsp H hO hS)) fun r s' h=>?_
    cases r with
    | error e=>exact (hCX H e s' h).elim
    | ok fl =>
      cases fl with
      | next=>exact False.elim h
      | brk=>exact False.elim h
      | cont=>exact False.elim h
      | ret u =>
        obtain ⟨v,H',os,bare,un,hok',r',q⟩:=h;have q':v=.bl true:=q;subst q';obtain rfl:u=Value.bool true:=r';refine ⟨rfl,OldK.of_keep fun b o e=>?_,os,bare⟩;cases q:H b with
        | none=>exact un.keep b o e q (by intro z;exact absurd (show b∈([]:List Addr) from z) (by simp)) (by simp)
        | some u =>
          rcases hO b with z | ⟨ob,xs,z⟩
          · rw [q] at z;cases z
          · have z2:=un.frzs b ob _ z;obtain ⟨e1,_⟩:=hok b _ z;obtain ⟨e2,_⟩:=hok' b _ z2;rw [e] at e1;cases e1;exact e2
  cases hk:K.lookup a with
  | some o =>
    -- the script is one of the module's own objects
    have e:=KX a o hk;rw [ha] at e;cases e;refine core (fun _=>none) (fun _=>.inl rfl) (.inr ⟨_,vs.toArray,_,hk,rfl,rfl,rfl,by rw [mD,lenV];exact hl,by simpa using rv⟩) (fun b u z=>by have z':(none:Option HO)=some u:=z;cases z') (fun b z=>absurd rfl z) fun z=>absurd rfl z
  | none =>
    refine core (fun b=>if b=a then some (.frz { cls:=.type "list", data:=.seq vs.toArray } (.lst (ns.map V.int))) else none) (fun b=>?_) (.inl (.inr ⟨{ cls:=.type "list", data:=.seq vs.toArray },if_pos rfl⟩)) (fun b u z=>?_) (fun b z=>?_) fun _=>hk
    · by_cases hb:b=a
      · exact .inr ⟨_,_,if_pos hb⟩
      · exact .inl (if_neg hb)
    · by_cases hb:b=a
      · have z':=(if_pos hb).symm.trans z;cases z';subst hb;exact ⟨ha,by rw [mX];exact hl,vs,_,rv,ha⟩
      · have z':=(if_neg hb).symm.trans z;cases z'
    · by_cases hb:b=a
      · exact hb
      · exact absurd (if_neg hb) z
theorem walk_of {l:W.OpenLaw} {n k:Nat} {q:Program} {loose:List Str} {XP:(Str->Option Value)->Heap->Prop} {YP:World->Heap->Prop} {d:DefRec} {K:Params->W.Frag} {CX:World->WA} {sp:World->Sp} {x:Str}
    (hn:l.most=some n) (hn2:n<=sizeLine) (hdf:d.params.defaults=[]) (hr:Room k callerA)
    (hY:∀ (w:World) (h:Heap),YP w h->(K w.params).In h)
    (F:∀ (w:World) (mg:Str->Option Value) (fa:Addr) (h:Heap),(K w.params).In h->h.Ns mainGlobals mg->mg d.name=some (.ref fa) ->
      ∃ fd:FuncData,(∀ (s:Shared) (u:Value),BindsTo s fd ⟨[u],[]⟩ [(x,u)]) /\
        ∀ base:Heap,(K w.params).In base->base.Ns mainGlobals mg->FnOk l.prog w (K w.params) mg base (CX w) k fa fd [x] (sp w))
    (hsp:∀ (w:World) (H:Hp) (a:Addr) (ns:List Int),ns.length<=n->Ym H->DA (K w.params) H a (ns.map V.int)->sp w [.ref a] H (fun v _=>v=.bl true) fun _ _ _=>False)
    (hCX:∀ (w:World) (H:Hp) (s:Shared) (e:Value) (s':Shared),CX w [] H s (fun _ _ _=>False) e s'->False) :
    W.WalkO q loose XP YP l.row.toRowW d [] (fun f vs=>PySem.call f vs):=by
  refine Att.attach_call hn hdf fun w s₀ s₁ mg mb fa o pm cd doc a vs ns G Y ho hd hcd hmg hobj hints hlen hg=>?_
  have KX:=hY w _ Y;obtain ⟨fd,hb,hF⟩:=F w mg fa _ KX G.T.g hmg;exact UP KX G.T.g G.T.b G.T.builtins G.T.nolimit hg hobj hints (mQ hlen hn2) hr hF hb (fun H hO hS=>hsp w H a ns hlen hO hS) fun H e s'=>hCX w H s₁ e s'
noncomputable def Av (s:Stmt):Arguments:=match s with
 | .FunctionDef _ a _ _ _ _ _ _ _ _=>a
 | _=>{ posonlyargs:=[],args:=[],vararg:=none,kwonlyargs:=[],kw_defaults:=[],kwarg:=none,defaults:=[] }
noncomputable def Ab (s:Stmt):List Stmt:=match s with
 | .FunctionDef _ _ b _ _ _ _ _ _ _=>b
 | _=>[]
noncomputable def AJ (s:Stmt):Scope:=match s with
 | .FunctionDef _ _ _ _ _ _ sc _ _ _=>sc
 | _=>{ kind:=.function,names:=[],isGenerator:=false,isCoroutine:=false }
abbrev Rq:WA:=fun _ _ _ _ _ _=>False
abbrev E0:XK:=fun _ _ _=>False
theorem ZK {X:Cx}:Ky Rq X E0:=fun _ _ _ _ _ _ _ h=>h.elim
structure Fun (K:W.Frag) (x qual:Str) (st:Stmt) (f:Addr) (fd:FuncData):Prop where
 ex:∃ (oc:Value) (od:Option Addr) (kV doc pm:Value) (an:Option Addr) (cdv ct:Value) (osl:Array (Option Value)),
  fd=W.fnOf x qual (Av st) (Ab st) (AJ st) .none kV doc pm an cdv ct/\K.lookup f=some ⟨oc,od,.func fd,osl⟩/\W.codeIn K cdv qual=true
 kp:W.keepIn K (.ref f)=true
section
variable {P:Program} {w:World} {K:W.Frag} {mg:Str->Option Value} {base:Heap}
theorem Fun.ok {x qual:Str} {st:Stmt} {f:Addr} {fd:FuncData} {N ps:List Str} {k:Nat} {sp:Sp} (F:Fun K x qual st f fd) (S:FnScope N ps (AJ st)) (len:∀ vs H Q E,sp vs H Q E->vs.length=ps.length)
    (hbody:∀ (cdv:Value) (A:Around) (outer:List Env) (s:Shared) (H:Hp) (vs:List V) (Q:VK) (E:XK),Room k (A.deeper (envOfC qual (AJ st) s.heap.objs.size f cdv))->sp vs H Q E ->
      ∃ t,DQ (MT Rq P w K mg base N qual (AJ st) f cdv A outer s H E).nox (Ab st) t/\t { nx:=fun _ H'=>Q .non H',rt:=Q } (start N vs) H):FnOk P w K mg base Rq (k+1) f fd ps sp:=by
  obtain ⟨oc,od,kV,doc,pm,an,cdv,ct,osl,rfl,lk,hcd⟩:=F.ex;refine iE lk hcd S len fun A outer s H vs Q E hr hsp=>?_
  obtain ⟨t,h,q⟩:=hbody cdv A outer s H vs Q E hr hsp;exact ⟨t,h.nox,q⟩
theorem Fun.binds {x qual:Str} {st:Stmt} {f:Addr} {fd:FuncData} {ps:List Str} (F:Fun K x qual st f fd)
    (h:∀ (kV doc pm:Value) (an:Option Addr) (cdv ct:Value) (us:List Value),us.length=ps.length->bindArgs (W.fnOf x qual (Av st) (Ab st) (AJ st) .none kV doc pm an cdv ct) ⟨us,[]⟩=pure (ps.zip us)):Binds K fd ps []:=by
  obtain ⟨oc,od,kV,doc,pm,an,cdv,ct,osl,rfl,lk,hcd⟩:=F.ex;exact .all (h kV doc pm an cdv ct)
theorem cZ {x qual:Str} {st:Stmt} {f:Addr} {oc:Value} {od an:Option Addr} {osl:Array (Option Value)} {kV doc pm cdv ct:Value} (l:K.lookup f=some ⟨oc,od,.func (W.fnOf x qual (Av st) (Ab st) (AJ st) .none kV doc pm an cdv ct),osl⟩)
    (c:W.codeIn K cdv qual=true) (k:W.keepIn K (.ref f)=true):Fun K x qual st f (W.fnOf x qual (Av st) (Ab st) (AJ st) .none kV doc pm an cdv ct):=⟨⟨oc,od,kV,doc,pm,an,cdv,ct,osl,rfl,l,c⟩,k⟩
end
section
variable {X:Cx}
theorem pv (i:Nat) {x:Str} {pos:Pos} (hN:X.N[i]?=some x:=by rfl) (hv:eT X.env.scope x:=by first | exact Or.inl rfl | exact Or.inr (Or.inl rfl) | exact Or.inr (Or.inr rfl)) (hd:(x == ("__debug__" : Str))=false:=by decide)
    (hcd:(x == ("__classdict__" : Str))=false:=by decide):PE X (.Name x pos) (HA i):=Tn hN hv hd hcd
end
def OO (H H':Hp):Prop:=∀ b o,H b=some o->H' b=some o
noncomputable def AN (sc:Scope) (x:Str):Bool:=match sc.names.lookup x with | some .cell=>true | _=>false
def Cx.inner (X:Cx) (scope:Scope) (cl:List (Str×Addr)) (C:Addr) (s:Shared) (H:Hp) (fp:List Addr):Cx:=
 { X with s₀:=s,H₀:=H,env:=compEnvC scope cl C X.env,outer:=X.stack,ex:=fp,fn:=AN scope,xe:=fun _ _=>False }
theorem Am {scope:Scope} {env:Env} {x:Str}:∀ {names:List (Str×NameKind)}, 
    ((names.map fun (n,k)=>if (k == NameKind.free && env.scope.kind == .function && env.kindOf n == some .cell) then (n,NameKind.cell) else (n,k)).lookup x=some .cell \/
     (names.map fun (n,k)=>if (k == NameKind.free && env.scope.kind == .function && env.kindOf n == some .cell) then (n,NameKind.cell) else (n,k)).lookup x=some .free) ->
    names.lookup x=some .cell\/names.lookup x=some .free
  | [],h=>by simp at h
  | (n,k)::r,h=>by
    have ih:=@Am scope env x r;cases hx:x == n with
    | true =>
      simp only [mJ,nA] at h ⊢
      by_cases hc:(k == NameKind.free && env.scope.kind == .function && env.kindOf n == some .cell)=true
      · have hk:k=.free:=by
          simp only [ly,beq_iff_eq] at hc;exact hc.1.1
        right;simp [hx,hk]
      · rw [if_neg hc] at h;simp only [nA,hx] at h ⊢;exact h
    | false =>
      simp only [mJ,nA] at h ⊢
      by_cases hc:(k == NameKind.free && env.scope.kind == .function && env.kindOf n == some .cell)=true
      · rw [if_pos hc] at h;simp only [nA,hx] at h ⊢;exact ih h
      · rw [if_neg hc] at h;simp only [nA,hx] at h ⊢;exact ih h
theorem Cn {env:Env} {x:Str}:∀ {names:List (Str×NameKind)}, 
    (names.map fun (n,k)=>if (k == NameKind.free && env.scope.kind == .function && env.kindOf n == some .cell) then (n,NameKind.cell) else (n,k)).lookup x=some .local ->
    names.lookup x=some .local
  | [],h=>by simp at h
  | (n,k)::r,h=>by
    have ih:=@Cn env x r;cases hx:x == n with
    | true =>
      simp only [mJ,nA] at h ⊢
      by_cases hc:(k == NameKind.free && env.scope.kind == .function && env.kindOf n == some .cell)=true
      · rw [if_pos hc] at h;simp only [nA,hx] at h;cases h
      · rw [if_neg hc] at h;simp only [nA,hx] at h ⊢;exact h
    | false =>
      simp only [mJ,nA] at h ⊢
      by_cases hc:(k == NameKind.free && env.scope.kind == .function && env.kindOf n == some .cell)=true
      · rw [if_pos hc] at h;simp only [nA,hx] at h ⊢;exact ih h
      · rw [if_neg hc] at h;simp only [nA,hx] at h ⊢;exact ih h
theorem IA {scope:Scope} {env:Env} (hhas:∀ x,scope.names.lookup x=some .free->∃ c,env.cells.lookup x=some c) (hnd:∀ x k,(x,k)∈scope.names->k=.free->scope.names.lookup x=some .free) :
    ∃ cl,closureFor scope env=pure cl/\(∀ x c,cl.lookup x=some c->env.cells.lookup x=some c)/\∀ x,scope.names.lookup x=some .free->∃ c,cl.lookup x=some c:=by
  have go:∀ (names:List (Str×NameKind)) (cs:List (Str×Addr)),(∀ x k,(x,k)∈names->k=.free->∃ c,env.cells.lookup x=some c)->(∀ x c,cs.lookup x=some c->env.cells.lookup x=some c) ->
      ∃ cl,(forIn names cs (fun (x:Str×NameKind) (r:List (Str×Addr))=>(if (x.2 == NameKind.free)=true then (cellOf env x.1 >>= fun c=>(pure (ForInStep.yield ((x.1,c)::r)):Sem _)) else pure (ForInStep.yield r))))=(pure cl:Sem _) /\
        (∀ x c,cl.lookup x=some c->env.cells.lookup x=some c)/\(∀ x,(cs.lookup x).isSome=true->(cl.lookup x).isSome=true)/\∀ x,(x,NameKind.free)∈names->(cl.lookup x).isSome=true:=by
    intro names
    induction names with
    | nil=>intro cs _ h2;exact ⟨cs,by simp,h2,fun _ z=>z,fun _ z=>by simp at z⟩
    | cons p r ih =>
      intro cs h1 h2;obtain ⟨n,k⟩:=p
      by_cases hk:k=.free
      · subst hk;obtain ⟨c,hc⟩:=h1 n _ mC rfl;have hcell:cellOf env n=pure c:=by unfold cellOf;rw [hc]
        obtain ⟨cl,e,a,b,d⟩:=ih ((n,c)::cs) (fun x k hx hk=>h1 x k (mE _ hx) hk) (fun x c' hx=>by
          rw [nA] at hx;cases hxn:x == n with
          | true => rw [hxn] at hx; simp at hx; subst hx; have : x = n := by simpa using hxn
                    rw [this];exact hc
          | false=>rw [hxn] at hx;exact h2 x c' hx)
        refine ⟨cl,?_,a,fun x hx=>b x ?_,fun x hx=>?_⟩
        · rw [oI];simp only [hcell];simpa using e
        · rw [nA];cases hxn:x == n with
          | true=>rfl
          | false=>exact hx
        · rcases mL.mp hx with z | z
          · injection z with z1 _
            subst z1;exact b x (by rw [nA];simp)
          · exact d x z
      · have hb:(k == NameKind.free)=false:=by simpa using hk
        obtain ⟨cl,e,a,b,d⟩:=ih cs (fun x k hx hk=>h1 x k (mE _ hx) hk) h2;refine ⟨cl,?_,a,b,fun x hx=>?_⟩
        · rw [oI];simp only [hb];simpa using e
        · rcases mL.mp hx with z | z
          · injection z with _ z2
            exact absurd z2.symm hk
          · exact d x z
  obtain ⟨cl,e,a,_,d⟩:=go scope.names [] (fun x k hx hk=>hhas x (hnd x k hx hk)) (fun x c h=>by simp at h);refine ⟨cl,?_,a,fun x hx=>oF.mp (d x (mw hx))⟩;unfold closureFor;simpa using e
theorem Au:∀ (names:List (Str×NameKind)) (n:Nat) (acc:List (Str×Addr)),cellsFrom n names acc=cellsFrom n names []++acc
 | [],n,acc=>by simp [cellsFrom]
 | (x,k)::r,n,acc=>by
  unfold cellsFrom;split
  ·rw [Au r (n+1) ((x,n)::acc),Au r (n+1) [(x,n)],nB];rfl
  ·exact Au r n acc
theorem Co {x:Str} {c:Addr}:∀ (names:List (Str×NameKind)) (n:Nat),(x,c)∈cellsFrom n names []->(x,NameKind.cell)∈names
 | [],n,h=>by simp [cellsFrom] at h
 | (y,k)::r,n,h=>by
  unfold cellsFrom at h;split at h
  ·rename_i hk;have hk:k=.cell:=by simpa using hk
   rw [Au] at h;rcases mU.mp h with h | h
   ·exact mE _ (Co r _ h)
   ·rw [mY] at h;cases h;rw [hk];exact mC
  ·exact mE _ (Co r _ h)
theorem Cp {x:Str}:∀ (names:List (Str×NameKind)) (n:Nat),(x,NameKind.cell)∈names->∃ c,(cellsFrom n names []).lookup x=some c
 | [],n,h=>by cases h
 | (y,k)::r,n,h=>by
  unfold cellsFrom
  by_cases hr:(x,NameKind.cell)∈r
  ·split
   ·rw [Au];obtain ⟨c,e⟩:=Cp r (n+1) hr;exact ⟨c,by rw [oB,e];rfl⟩
   ·exact Cp r n hr
  ·rcases mL.mp h with e | e
   ·cases e;simp only [beq_self_eq_true,if_true];rw [Au];cases q:(cellsFrom (n+1) r []).lookup x with
    | some c=>exact ⟨c,by rw [oB,q];rfl⟩
    | none=>exact ⟨n,by rw [oB,q];simp⟩
   ·exact absurd e hr
theorem Bx {M:Model} {A:Around} {E:Value->Shared->Prop} {s:Shared} {scope:Scope} {globals:Addr} {closure:List (Str×Addr)} {qual:Str} {outer:Env} {Q:Env->Shared->Prop}
    (hQ:Q { scope:=scope,locals:=s.heap.objs.size,globals:=globals,cells:=cellsFrom (s.heap.objs.size+1) scope.names closure,qual:=qual,func:=none,code:=outer.code,frame:=outer.frame,builtins:=outer.builtins } { s with heap:=pushCells (s.heap.push { cls:=.type "dict", data:=.dict #[] }) scope.names }) :
    wpAny M A (newFunctionEnv scope globals closure [] qual none .none (some outer)) Q E s:=by
  simp only [newFunctionEnv,Option.isSome_some,if_true];refine wpAny_bind (wpAny_alloc ?_);refine wpAny_bind (wpAny_layCells _ (fun name kind cells=>by cases hkc:kind == NameKind.cell<;>simp [hkc]) _ _ _ _ ?_)
  rw [show ({ s with heap:=s.heap.push { cls:=.type "dict", data:=.dict #[] } }:Shared).heap.objs.size=s.heap.objs.size+1 from mn ..]
  rw [oZ];exact wpAny_bind (wpAny_pure (wpAny_pure hQ))
noncomputable def innerOk (N:List Str) (sc scope:Scope) (js:List Nat):Bool:=
 (match scope.kind with | .function=>true | _=>false) &&
 scope.names.all (fun p=>(match p.2 with
  | .cell=>(match scope.names.lookup p.1 with | some .cell=>true | _=>false)
  | .local=>(match scope.names.lookup p.1 with | some .local=>true | _=>false)
  | .free=>(match scope.names.lookup p.1 with | some .free=>true | _=>false) && (match sc.names.lookup p.1 with | some .cell=>true | some .free=>true | _=>false)
  | _=>true)) &&
 (N.zipIdx.all fun p=>(match scope.names.lookup p.1 with | some .local=>js.contains p.2 | some .cell=>js.contains p.2 | _=>true))
structure InnerIn (N:List Str) (sc scope:Scope) (js:List Nat):Prop where
 kind:scope.kind=.function
 uniqC:∀ x k,(x,k)∈scope.names->k=.cell->scope.names.lookup x=some .cell
 uniqL:∀ y∈scope.names,y.2=.local->scope.names.lookup y.1=some .local
 uniqF:∀ x k,(x,k)∈scope.names->k=.free->scope.names.lookup x=some .free
 fr:∀ x,scope.names.lookup x=some .free->sc.names.lookup x=some .cell\/sc.names.lookup x=some .free
 jsl:∀ (i:Nat) x,N[i]?=some x->scope.names.lookup x=some .local\/scope.names.lookup x=some .cell->i∈js
theorem Hs {N:List Str} {sc scope:Scope} {js:List Nat} (h:innerOk N sc scope js=true):InnerIn N sc scope js:=by
  unfold innerOk at h;rw [ly,ly] at h;obtain ⟨⟨h1,h2⟩,h3⟩:=h;rw [mW] at h2 h3;refine ⟨?_,fun x k hy e=>?_,fun y hy e=>?_,fun x k hy e=>?_,fun x e=>?_,fun i x e1 e2=>?_⟩
  · cases q:scope.kind<;>rw [q] at h1<;>first | rfl | cases h1
  · have:=h2 _ hy;rw [e] at this;dsimp only at this;split at this
    · assumption
    · cases this
  · have:=h2 y hy;rw [e] at this;dsimp only at this;split at this
    · assumption
    · cases this
  · have:=h2 _ hy;rw [e] at this;dsimp only at this;rw [ly] at this;have:=this.1;split at this
    · assumption
    · cases this
  · have:=h2 _ (mw e);dsimp only at this;rw [ly] at this;have:=this.2;split at this
    · left;assumption
    · right;assumption
    · cases this
  · have hm:(x,i)∈N.zipIdx:=by
      rw [List.mem_zipIdx_iff_getElem?];exact e1
    have:=h3 _ hm;dsimp only at this;rcases e2 with e2 | e2
    · rw [e2] at this;dsimp only at this;simpa using this
    · rw [e2] at this;dsimp only at this;simpa using this
def blank (js:List Nat) (σ:St):St:=js.foldl (fun σ j=>σ.set j none) σ
theorem blank_length (js:List Nat):∀ σ:St,(blank js σ).length=σ.length:=by
 induction js with
 | nil=>intro σ;rfl
 | cons j r ih=>intro σ;unfold blank;rw [oJ];have:=ih (σ.set j none);unfold blank at this;rw [this,ma]
theorem GK (js:List Nat):∀ (σ:St) (i:Nat) (v:V),(blank js σ)[i]?=some (some v)->i∉js/\σ[i]?=some (some v):=by
 induction js with
 | nil=>intro σ i v h;exact ⟨by simp,h⟩
 | cons j r ih =>
  intro σ i v h;unfold blank at h;rw [oJ] at h;obtain ⟨a,b⟩:=ih (σ.set j none) i v h
  by_cases e:i=j
  ·subst e
   by_cases hl:i < σ.length
   ·rw [ml hl] at b;cases b
   ·rw [nE (by rw [ma];omega)] at b;cases b
  ·rw [mf (Ne.symm e)] at b;exact ⟨by simp [e,a],b⟩
def Rv (js:List Nat) (g:TG):Prop:=∀ x σ H Q,g x σ H Q->g x σ H fun σ2 H2=>(σ2.length=σ.length/\∀ i,i∉js->σ2[i]?=σ[i]?)/\Q σ2 H2
theorem UV {j:Nat} {js:List Nat} (h:j∈js):Rv js (Dk j):=fun x σ H Q q=>⟨⟨ma ..,fun i hi=>mf (fun (e:j=i)=>hi (e▸h))⟩,q⟩
def Ro (js:List Nat) (g:OM):Prop:=∀ x σ H Q,g x σ H Q->g x σ H fun σ2 H2=>(σ2.length=σ.length/\∀ i,i∉js->σ2[i]?=σ[i]?)/\Q σ2 H2
theorem UU {js:List Nat}:Ro js cX:=fun x σ H Q ⟨e,q⟩=>⟨e,⟨rfl,fun _ _=>rfl⟩,q⟩
theorem Qt {j:Nat} {js:List Nat} {u:OM} (h:j∈js) (hu:Ro js u):Ro js (UW (Dk j) u):=by
 rintro x σ H Q ⟨v,r,e,q⟩;refine ⟨v,r,e,?_⟩;have:=hu r (σ.set j (some v)) H Q q;show u r (σ.set j (some v)) H _;have key:∀ (P P':St->Hp->Prop),(∀ a b,P a b->P' a b)->True:=fun _ _ _=>trivial
 have e2:(fun σ2 H2=>(σ2.length=(σ.set j (some v)).length/\∀ (i:Nat),i∉js->σ2[i]?=(σ.set j (some v))[i]?)/\Q σ2 H2)=(fun σ2 H2=>(σ2.length=σ.length/\∀ (i:Nat),i∉js->σ2[i]?=σ[i]?)/\Q σ2 H2):=by
  funext σ2 H2;have e3:(∀ (i:Nat),i∉js->σ2[i]?=(σ.set j (some v))[i]?)=(∀ (i:Nat),i∉js->σ2[i]?=σ[i]?):=by
   apply propext;constructor
   ·intro k i hi;rw [k i hi,mf (fun (e:j=i)=>hi (e▸h))]
   ·intro k i hi;rw [k i hi,mf (fun (e:j=i)=>hi (e▸h))]
  rw [e3,ma]
 rw [e2] at this;exact this
theorem Xm {K:W.Frag} {n:Nat} {js:List Nat} {u:OM} (hu:Ro js u):Rv js (cW K n u):=by
 rintro x σ H Q ⟨a,xs,e,hq,hl,q⟩;exact ⟨a,xs,e,hq,hl,hu _ _ _ _ q⟩
section
variable {X:Cx} {pins:List (Addr×Obj)} {σ:St} {H:Hp} {s:Shared} {scope:Scope} {cl:List (Str×Addr)} {js:List Nat} {fp:List Addr} {C D:Addr}
theorem Inv.notStk (I:Inv X pins σ H s) {a:Addr} (h:s.heap.objs.size<=a):a∉PH X.stack:=fun hb=>by
 rcases mL.mp (I.stkSub a hb) with e | e
 ·exact absurd (mP I.lt (e▸h)) (nR _)
 ·exact I.nofs h e
theorem Inv.cellLt (I:Inv X pins σ H s) {x:Str} {c:Addr} (e:X.env.cells.lookup x=some c):c < s.heap.objs.size:=by
 obtain ⟨v,q⟩:=I.cell x c e;exact q.lt
theorem Inv.pinLt (I:Inv X pins σ H s) {p:Addr×Obj} (hp:p∈X.pn++pins):p.1 < s.heap.objs.size:=mO (I.pin p hp).1
structure Celz (X:Cx) (scope:Scope) (cl:List (Str×Addr)) (s:Shared) (C:Addr):Prop where
 old:∀ x c,cl.lookup x=some c->AN scope x=false->X.env.cells.lookup x=some c
 own:∀ x c,cl.lookup x=some c->AN scope x=true->s.heap.objs.size<=c/\C < c
 inj:∀ x y c,cl.lookup x=some c->cl.lookup y=some c->AN scope x=true->AN scope y=true->x=y
 fr:∀ x,scope.names.lookup x=some .free->∃ c,cl.lookup x=some c
 has:∀ x,AN scope x=true->∃ c,cl.lookup x=some c
theorem Celz.ne (L:Celz X scope cl s C) {x:Str} {c b:Addr} (e:cl.lookup x=some c) (hb:b < s.heap.objs.size) (h:∀ x c,X.env.cells.lookup x=some c->c≠b):c≠b:=by
 cases q:AN scope x with
 | false=>exact h x c (L.old x c e q)
 | true=>exact oW (mP hb (L.own x c e q).1)
theorem YG {cl0:List (Str×Addr)} (hin:InnerIn X.N X.env.scope scope js) (hcl:∀ x c,cl0.lookup x=some c->X.env.cells.lookup x=some c) (hfr:∀ x,scope.names.lookup x=some .free->∃ c,cl0.lookup x=some c)
    {h:Heap} (hC:s.heap.objs.size<=C) (hs:h.objs.size=C+1):Celz X scope (cellsFrom (C+1) scope.names cl0) s C/\∀ x c,(cellsFrom (C+1) scope.names cl0).lookup x=some c->AN scope x=true->∃ v,(pushCells h scope.names).IsCell c v:=by
  have ok:=cellsFrom_ok scope.names h (C+1) [] ⟨fun _ _ hm=>(nomatch hm),List.Pairwise.nil⟩ (by rw [hs];exact mF _);rw [hs] at ok;rw [Au];generalize hw:cellsFrom (C+1) scope.names []=own at ok;have mem:∀ x c,own.lookup x=some c->AN scope x=true:=fun x c e=>by
    have:=hin.uniqC x _ (Co scope.names (C+1) (by rw [hw];exact mw e)) rfl;unfold AN;rw [this]
  have has:∀ x,AN scope x=true->∃ c,own.lookup x=some c:=fun x e=>by
    unfold AN at e;split at e
    · rename_i q;obtain ⟨c,z⟩:=Cp scope.names (C+1) (mw q);rw [hw] at z;exact ⟨c,z⟩
    · cases e
  have yes:∀ x c,(own++cl0).lookup x=some c->AN scope x=true->own.lookup x=some c:=fun x c e q=>by
    obtain ⟨c',z⟩:=has x q;rw [oB,z] at e;rw [z];exact e
  have no:∀ x,AN scope x=false->(own++cl0).lookup x=cl0.lookup x:=fun x q=>by
    rw [oB];cases z:own.lookup x with
    | none=>rfl
    | some c=>rw [mem x c z] at q;cases q
  refine ⟨⟨fun x c e q=>hcl x c (by rw [<- no x q];exact e),fun x c e q=>?_,fun x y c e1 e2 q1 q2=>?_,fun x e=>?_,fun x q=>?_⟩,fun x c e q=>?_⟩
  · have:=(ok.empty x c (mw (yes x c e q))).2;exact ⟨mQ hC (Nat.le_of_succ_le this),this⟩
  · exact PySem.name_of_addr ok.apart (mw (yes x c e1 q1)) (mw (yes y c e2 q2))
  · obtain ⟨c,z⟩:=hfr x e;exact ⟨c,by rw [no x (by unfold AN;rw [e])];exact z⟩
  · obtain ⟨c,z⟩:=has x q;exact ⟨c,by rw [oB,z];rfl⟩
  · exact ⟨none,(ok.empty x c (mw (yes x c e q))).1⟩
theorem Inv.innerOk (I:Inv X pins σ H s) (hin:InnerIn X.N X.env.scope scope js) (hf:∀ b∈fp,FpOk X pins H b) (hfe:∀ b∈fp,b < s.heap.objs.size) (hC:s.heap.objs.size<=C)
    (L:Celz X scope cl s C):(X.inner scope cl C s H fp).Ok where
  mod:=I.ok.mod
  kind:=hin.kind
  glob:=I.ok.glob
  blt:=I.ok.blt
  above:=hC
  inj:=fun x y c a b=>by
    cases hx:AN scope x<;>cases hy:AN scope y
    · exact I.ok.inj x y c (L.old x c a hx) (L.old y c b hy)
    · exact absurd (I.cellLt (L.old x c a hx)) (Nat.not_lt.mpr (L.own y c b hy).1)
    · exact absurd (I.cellLt (L.old y c b hy)) (Nat.not_lt.mpr (L.own x c a hx).1)
    · exact L.inj x y c a b hx hy
  has:=fun x h=>by
    rcases Am (scope:=scope) (env:=X.env) (names:=scope.names) h with q | q
    · exact L.has x (by unfold AN;rw [q])
    · exact L.fr x q
  cab:=fun x c h e=>(L.own x c e h).1
  hd:=I.ok.hd
  frames:=I.ok.frames
  stk:=.inl rfl
  exf:=fun b hb=>⟨mh (mP (hfe b hb) hC),fun x c e=>L.ne e (hfe b hb) (hf b hb).2.2.2.2.1⟩
  bs:=I.bs
  bsz:=mQ I.ok.bsz I.sz
  noex:=fun b o e hb=>by
    rcases (hf b hb).2.2.2.1 with z | z
    · exact I.ok.noex b o e z
    · exact absurd (mP (mO e) (mQ I.ok.bsz z)) (nR _)
  exfs:=fun b hb z=>by
    rcases mL.mp (I.stkSub b z) with e | e
    · exact (hf b hb).2.1 e
    · exact (hf b hb).2.2.1 e
  funs:=I.stack
  frf:=I.stkFree
theorem Inv.enter {h':Heap} {tk:Nat} {o:Obj} (I:Inv X pins σ H s) (hin:InnerIn X.N X.env.scope scope js) (hf:∀ b∈fp,FpOk X pins H b) (hfe:∀ b∈fp,b < s.heap.objs.size) (hC:s.heap.objs.size<=C) (hD:s.heap.objs.size<=D) (hDC:D≠C)
    (L:Celz X scope cl s C) (hown:∀ x c,cl.lookup x=some c->AN scope x=true->∃ v,h'.IsCell c v)
    (k:∀ b u,s.heap.get? b=some u->h'.get? b=some u) {m:Str->Option Value} (hns:h'.Ns C m) (ho:h'.get? D=some o) (hoc:∀ v,o.data≠.cell v) :
    Inv (X.inner scope cl C s H fp) (pins++[(D,o)]) (blank js σ) H { s with heap:=h',toks:=tk } where
  ok:=I.innerOk hin hf hfe hC L
  os:=rfl
  bare:=I.bare
  base:=Un.kept k
  loc:=by
    refine ⟨m,hns,fun i x v e1 e2 e3=>?_⟩;obtain ⟨hj,e2⟩:=GK js σ i v e2;have free:scope.names.lookup x=some .free:=by
      rcases e3 with q | q | q
      · exact absurd (hin.jsl i x e1 (.inl (Cn (env:=X.env) (names:=scope.names) q))) hj
      · rcases Am (scope:=scope) (env:=X.env) (names:=scope.names) (.inl q) with z | z
        · exact absurd (hin.jsl i x e1 (.inr z)) hj
        · exact z
      · rcases Am (scope:=scope) (env:=X.env) (names:=scope.names) (.inr q) with z | z
        · exact absurd (hin.jsl i x e1 (.inr z)) hj
        · exact z
    have kx:=hin.fr x free;obtain ⟨m0,hn0,hl0⟩:=I.loc;obtain ⟨u,r,l⟩:=hl0 i x v e1 e2 (kx.elim (fun z=>.inr (.inl z)) fun z=>.inr (.inr z));refine ⟨u,r,?_⟩;rcases l with ⟨z,_⟩ | ⟨_,c,hc,hcell⟩
    · have z':X.env.scope.names.lookup x=some .local:=z;rcases kx with y | y
      · rw [y] at z';cases z'
      · rw [y] at z';cases z'
    · obtain ⟨c',hc'⟩:=L.fr x free;have:c'=c:=by
        have q:=L.old x c' hc' (by unfold AN;rw [free]);rw [hc] at q;exact (Option.some.inj q).symm
      subst this;obtain ⟨oc,q1,q2⟩:=hcell;refine .inr ⟨?_,c',hc',oc,k _ _ q1,q2⟩;rcases e3 with q | q | q
      · have:=Cn (env:=X.env) (names:=scope.names) q;rw [free] at this;cases this
      · exact .inl q
      · exact .inr q
  cell:=fun x c e=>by
    cases q:AN scope x with
    | true=>exact hown x c e q
    | false =>
      obtain ⟨v,oc,q1,q2⟩:=I.cell x c (L.old x c e q);exact ⟨v,oc,k _ _ q1,q2⟩
  free:=I.hok.fresh hC
  freeC:=fun x c e=>by
    cases q:AN scope x with
    | true=>exact I.hok.fresh (L.own x c e q).1
    | false=>exact I.freeC x c (L.old x c e q)
  pin:=fun p hp=>by
    have hp':p∈X.pn++(pins++[(D,o)]):=hp;rw [<- nB] at hp';rcases mU.mp hp' with z | z
    · obtain ⟨a1,a2,a3,a4,a5⟩:=I.pin p z;refine ⟨k _ _ a1,a2,mh (mP (mO a1) hC),fun q=>?_,a5⟩;rcases mL.mp (I.stkSub p.1 q) with e | e
      · exact a3 e
      · exact a4 e
    · have e:p=(D,o):=by simpa using z
      subst e;exact ⟨ho,I.hok.fresh hD,hDC,I.notStk hD,hoc⟩
  hok:=I.hok.kept k
  len:=(blank_length js σ).trans I.len
theorem Inv.leave {Y:Cx} {H':Hp} {s':Shared} {τ:St} {pl:List (Addr×Obj)} {ys:List V} {its:List Value} {n:Nat} (I:Inv X pins σ H s) (hf:∀ b∈fp,FpOk X pins H b) (hY:Y=X.inner scope cl C s H fp) (J:Inv Y pl τ H' s') (hD:s.heap.objs.size<=D)
    (hHD:H' D=none) (hz:ys.length<=sizeLine) (hv:AE ys its) (ho:s'.heap.get? D=some { cls:=.type "list", data:=.seq its.toArray n }) :
    Inv X pins σ (upd H' D (.lst ys)) s':=by
  subst hY;have un:Un (PH X.stack) fp H H' s.heap s'.heap:=J.base;have ne:∀ {b:Addr} {o:Obj},s.heap.get? b=some o->b≠D:=fun e=>mh (mP (mO e) hD)
  have nH:∀ {b:Addr} {o:HO},H' b=some o->b≠D:=fun e z=>by rw [z,hHD] at e;cases e
  have un':Un (PH X.stack) fp H (upd H' D (.lst ys)) s.heap s'.heap:=
    ⟨un.keep,un.slot,fun b o e n' hx=>by rw [AO (ne e)];exact un.free b o e n' hx,un.there,fun b xs e=>by have:=un.tups b xs e;rw [AO (nH this)];exact this,
      fun b o u e=>by have:=un.frzs b o u e;rw [AO (nH this)];exact this,fun b ps e=>by obtain ⟨more,q⟩:=un.tbls b ps e;exact ⟨more,by rw [AO (nH q)];exact q⟩⟩
  have hok:Eh X.prog X.w (upd H' D (.lst ys)) s'.heap:=fun b u e=>by
    by_cases hb:b=D
    · subst hb;rw [BX] at e;cases e;exact ⟨hz,its,n,hv,ho⟩
    · rw [AO hb] at e;exact (J.hok b u e).stay (fun _ _ _ q=>q) (fun c q=>by rw [AO (nH q)];exact q) fun c xs q=>by rw [AO (nH q)];exact q
  exact I.call' J.os un' hok J.bare fun b hb=>by
    obtain ⟨_,f1,_,f3,f4,f5⟩:=hf b hb;exact ⟨f3,f1,f4,f5⟩
end
section
end
section
end
section
variable {X:Cx}
def fj:V->Option Int->Option Int->Hp->VK->Prop:=fun x lo hi H Q=>∃ z,x=.str z/\z.length<=sizeLine/\Q (.str (Txt.slice z lo hi)) H
theorem aP:Ru X fj:=by
 intro pins s σ H x v vl vu lo hi sl Q I rx hs pl pu h;obtain ⟨z,rfl,hz,q⟩:=h;obtain ⟨t,rfl⟩:=rx;have fin:∀ t' k,EP X pins σ Q (.str (Txt.slice z lo hi) t') { s with toks:=k }:=fun t' k=>⟨.str _,H,I.tok k,⟨_,rfl⟩,q⟩
 refine ⟨"str", _,F.slot_str_getitem.lookup,typeIs_str _ _ _,?_⟩
 obtain ⟨o,e1,e2,e3⟩:=hs;cases pl with
 | none =>
  cases pu with
  | none=>exact wpAny_getItem_str_slice (l:=none) (u:=none) (st:=none) ⟨o,e1,e2,e3⟩ rfl (post_val_or_str ⟨mQ (Txt.slice_le z _ _) hz,fin⟩)
  | int j uj=>exact wpAny_getItem_str_slice (l:=none) (u:=some (j,uj)) (st:=none) ⟨o,e1,e2,e3⟩ rfl (post_val_or_str ⟨mQ (Txt.slice_le z _ _) hz,fin⟩)
 | int i ui =>
  cases pu with
  | none=>exact wpAny_getItem_str_slice (l:=some (i,ui)) (u:=none) (st:=none) ⟨o,e1,e2,e3⟩ rfl (post_val_or_str ⟨mQ (Txt.slice_le z _ _) hz,fin⟩)
  | int j uj=>exact wpAny_getItem_str_slice (l:=some (i,ui)) (u:=some (j,uj)) (st:=none) ⟨o,e1,e2,e3⟩ rfl (post_val_or_str ⟨mQ (Txt.slice_le z _ _) hz,fin⟩)
theorem Mv {ys:List Str}:∀ {us:List Value},AE (ys.map V.str) us->StrsAre us ys:=by
 induction ys with
 | nil=>intro us r;rw [oP] at r;cases r;exact .nil
 | cons n ns ih =>
  intro us r;rw [mJ] at r;cases r with
  | cons r1 r2 =>
   obtain ⟨t,e⟩:=r1;subst e;exact .cons n t (ih r2)
def TM (K:W.Frag):V->List V->Hp->VK->Prop:=fun x vs H Q=>∃ sep l ys,x=.str sep/\vs=[.ref l]/\DA K H l (ys.map V.str)/\(ys.map (·.length)).sum+ys.length * sep.length<=16777216/\Q (.str (Txt.join sep ys)) H
theorem Xb:eG X "str.join" (TM X.K):=by
 intro pins s σ H x vs v us Q I rx rv h;obtain ⟨sep,l,ys,rfl,rfl,hl,hz,q⟩:=h;obtain ⟨t,rfl⟩:=rx;obtain ⟨u,rfl,ru⟩:=rv.one;cases ru;obtain ⟨its,r,p,_⟩:=I.list hl;exact join_list p.isList (by simpa using Mv r) hz fun t' k=>⟨.str _,H,I.tok k,⟨_,rfl⟩,q⟩
end
structure Fx (P:Program) (w:World) (K:W.Frag) (mg:Str->Option Value) (base:Heap) (k:Nat) (x:Str) (ps:List Str) (sp:Sp):Prop where
 ex:∃ (f:Addr) (fd:FuncData),FnOk P w K mg base Rq k f fd ps sp/\mg x=some (.ref f)/\W.keepIn K (.ref f)=true/\Binds K fd ps []
section
variable {X:Cx} {k j:Nat} {x:Str} {ps:List Str} {sp:Sp} {p pos:Pos} {e:Expr} {es:List Expr} {t:TA}
abbrev fD (sp:Sp) (t:TA):TE:=fun σ H Q=>t σ H fun vs H1=>sp vs H1 Q E0
theorem Ou (F:Fx X.prog X.w X.K X.mg X.base k x ps sp) (hr:Room j X.A) (hkj:k<=j) (hg:Gl X x) (ha:PA X (e::es) t) (hdb:(x == ("__debug__" : Str))=false:=by decide)
    (he:starEach (e::es) X.env=(false,eval e X.env)::starEach es X.env:=by rfl) (hpl:(backTo pos (starEach es X.env)).any (·.1)=false:=by rfl):PE X (.Call (.Name x p) (e::es) [] pos) (fD sp t):=by
  obtain ⟨f,fd,G,hm,hk,hb⟩:=F.ex;have q:=XH (p:=p) (pos:=pos) G (hr.mono hkj) hg hm hk hb .nil ZK ha hdb he hpl;intro pins s σ H Q I h;refine q pins s σ H Q I ?_;show t σ H fun vs H1=>sp (vs++[]) H1 Q E0
  have e2:(fun (vs:List V) (H1:Hp)=>sp (vs++[]) H1 Q E0)=(fun vs H1=>sp vs H1 Q E0):=by
    funext vs H1;rw [nO]
  rw [e2];exact h
theorem Tq (F:Fx X.prog X.w X.K X.mg X.base k x ps sp) (hr:Room j X.A) (hkj:k<=j) (hg:Gl X x) (hdb:(x == ("__debug__" : Str))=false:=by decide):PE X (.Call (.Name x p) [] [] pos) (fD sp WN):=by
 obtain ⟨f,fd,G,hm,hk,hb⟩:=F.ex;have q:=Ts (p:=p) (pos:=pos) G (hr.mono hkj) hg hm hk hb .nil ZK hdb;intro pins s σ H Q I h;exact q pins s σ H Q I h
end
section
variable {X:Cx}
def gH:R2:=fun x y H Q=>∃ i j,x=.str i/\y=.str j/\i.length+j.length<=sizeLine/\Q (.str (i++j)) H
def Le (K:W.Frag):R2:=fun x y H Q=>(Rr fun i j=>.int (i+j)) x y H Q\/gH x y H Q\/gF x y H Q\/ZH K x y H Q
theorem XT:CH X (binaryOp .Add) (Le X.K):=bo.or (NN.or (bj.or XQ))
theorem Vs {K:W.Frag} {i j:Int} {H:Hp} {Q:VK} (q:Q (.int (i+j)) H):Le K (.int i) (.int j) H Q:=.inl ⟨i,j,rfl,rfl,q⟩
theorem Vq {K:W.Frag} {i j:Str} {H:Hp} {Q:VK} (h:i.length+j.length<=1000000) (q:Q (.str (i++j)) H):Le K (.str i) (.str j) H Q:=.inr (.inl ⟨i,j,rfl,rfl,mQ h (by decide),q⟩)
theorem Vr {K:W.Frag} {a b:Addr} {xs ys:List V} {H:Hp} {Q:VK} (ha:H a=some (.lst xs)) (hb:H b=some (.lst ys)) (h:xs.length+ys.length<=1000000) (q:∀ p,H p=none->Q (.ref p) (upd H p (.lst (xs++ys)))):Le K (.ref a) (.ref b) H Q:=
 .inr (.inr (.inl ⟨a,b,xs,ys,rfl,rfl,ha,hb,mQ h (by decide),q⟩))
theorem Wg {K:W.Frag} {p:Addr} {xs:List V} {i:Int} {v:V} {H:Hp} {Q:VK} (h:H p=some (.lst xs)) (e:ES xs i=some v) (q:Q v H):ak K (.ref p) (.int i) H Q:=.inl ⟨p,xs,i,v,rfl,rfl,.inl (.inl h),e,q⟩
theorem aj {K:W.Frag} {p:Addr} {xs:List V} {i:Int} {v:V} {H:Hp} {Q:VK} (h:DA K H p xs) (e:ES xs i=some v) (q:Q v H):ak K (.ref p) (.int i) H Q:=.inl ⟨p,xs,i,v,rfl,rfl,h,e,q⟩
theorem Wf {K:W.Frag} {z:Str} {i:Int} {c:Nat} {H:Hp} {Q:VK} (h:z.length<=1000000) (e:ES z.cps.toList i=some c) (q:Q (.str ⟨#[c]⟩) H):ak K (.str z) (.int i) H Q:=.inr (.inr ⟨z,i,c,rfl,rfl,mQ h (by decide),e,q⟩)
theorem cQ:Rn X (ak X.K):=cP
def TJ (K:W.Frag):V->Option Int->Option Int->Hp->VK->Prop:=fun x lo hi H Q=>fj x lo hi H Q\/fm K x lo hi H Q\/fh K x lo hi H Q
theorem aR:Ru X (TJ X.K):=aP.or (WW.or aO)
theorem WT {K:W.Frag} {z:Str} {lo hi:Option Int} {H:Hp} {Q:VK} (h:z.length<=1000000) (q:Q (.str (Txt.slice z lo hi)) H):TJ K (.str z) lo hi H Q:=.inl ⟨z,rfl,mQ h (by decide),q⟩
theorem So {K:W.Frag} {a:Addr} {xs:List V} {lo hi:Option Int} {H:Hp} {Q:VK} (h:DA K H a xs) (q:∀ p,H p=none->Q (.ref p) (upd H p (.lst (FK xs lo hi)))):TJ K (.ref a) lo hi H Q:=.inr (.inl ⟨a,xs,rfl,h,q⟩)
theorem WU {K:W.Frag} {a:Addr} {xs:List V} {lo hi:Option Int} {H:Hp} {Q:VK} (h:H a=some (.lst xs)) (q:∀ p,H p=none->Q (.ref p) (upd H p (.lst (FK xs lo hi)))):TJ K (.ref a) lo hi H Q:=So (.inl (.inl h)) q
theorem Wa:Kz X TK:=set_list
def QO (K:W.Frag):List V->Hp->VK->Prop:=fun xs H Q=>∃ x n,xs=[x]/\jC K x H n/\Q (.int n) H
theorem RQ:BM X (.builtin "len") (QO X.K):=VL
theorem Ql {K:W.Frag} {z:Str} {H:Hp} {Q:VK} (h:z.length<=1000000) (q:Q (.int z.length) H):QO K [.str z] H Q:=⟨_,_,rfl,⟨mQ h (by decide),rfl⟩,q⟩
theorem UM {K:W.Frag} {p:Addr} {xs:List V} {H:Hp} {Q:VK} (h:DA K H p xs) (q:Q (.int xs.length) H):QO K [.ref p] H Q:=⟨_,_,rfl,.inl ⟨xs,h,rfl⟩,q⟩
theorem Xg {K:W.Frag} {p:Addr} {xs:List V} {H:Hp} {Q:VK} (h:H p=some (.lst xs)) (q:Q (.int xs.length) H):QO K [.ref p] H Q:=UM (.inl (.inl h)) q
end
theorem Da {H:Hp} {p:Addr} (h:H p=none) (o:HO):OO H (upd H p o):=fun b u q=>by rw [AO (Bm q h)];exact q
section
variable {X:Cx}
theorem jv (K:W.Frag) (h:X.K=K:=by rfl):Rn X (ak K):=by subst h;exact cQ
theorem RO (K:W.Frag) (h:X.K=K:=by rfl):BM X (.builtin "len") (QO K):=by subst h;exact RQ
theorem UI (K:W.Frag) (h:X.K=K:=by rfl):eG X "str.join" (TM K):=by subst h;exact Xb
def On (K:W.Frag):List V->Hp->VK->Prop:=fun xs H Q=>∃ p ys,xs=[.ref p]/\(DA K H p ys\/Eg K H p ys)/\∀ l,H l=none->Q (.ref l) (upd H l (.lst ys))
theorem Ny (K:W.Frag) (h:X.K=K:=by rfl):BM X (.type "list") (On K):=by subst h;exact Kl
def Lc (K:W.Frag):List V->Hp->VK->Prop:=fun xs H Q=>∃ p ys,xs=[.ref p]/\((DA K H p ys/\∀ l,H l=none->Q (.ref l) (upd H l (.tup ys)))\/(Eg K H p ys/\Q (.ref p) H))
theorem MY (K:W.Frag) (h:X.K=K:=by rfl):BM X (.type "tuple") (Lc K):=by subst h;exact IV
end
noncomputable def tx (l:List Nat):Str:=⟨l.toArray⟩
theorem Ga (l:List Nat):(tx l).cps.toList=l:=by simp [tx]
theorem CJ (l:List Nat):(tx l).length=l.length:=by simp [tx,Str.length]
theorem Mn (a b:List Nat):tx a++tx b=tx (a++b):=by
 show (⟨(tx a).cps++(tx b).cps⟩:Str)=_;simp [tx]
theorem aD {a b:List Nat} (h:tx a=tx b):a=b:=by
 have:=congrArg (fun z:Str=>z.cps.toList) h;simpa [tx] using this
def Nv (l:List Nat) (lo hi:Option Int):List Nat:=(l.drop (HT.sIx l.length 0 lo)).take (HT.sIx l.length l.length hi - HT.sIx l.length 0 lo)
theorem Tf (l:List Nat) (a k:Nat) (h:a+k<=l.length):((List.range k).map fun j=>a+j).filterMap (fun i=>l[i]?)=(l.drop a).take k:=by
  apply List.ext_getElem?;intro i
  by_cases hi:i < k
  · rw [pZ hi,List.getElem?_drop];have e:(List.map (fun j=>a+j) (List.range k)).filterMap (fun i=>l[i]?)=(List.range k).map fun j=>l[a+j]!:=by
      rw [pB];rw [show (fun i=>l[i]?)∘(fun j=>a+j)=fun j=>l[a+j]? from rfl];have:∀ (r:List Nat),(∀ j∈r,a+j < l.length)->r.filterMap (fun j=>l[a+j]?)=r.map fun j=>l[a+j]!:=by
        intro r
        induction r with
        | nil=>intro _;rfl
        | cons x r ih =>
          intro hx;have hxl:=hx x mC;rw [nk,lz hxl,mJ,ih fun j hj=>hx j (mE _ hj)];simp [hxl]
      exact this _ fun j hj=>by have:=ny.mp hj;omega
    rw [e,mR,nh hi];have hl:a+i < l.length:=by omega
    simp [hl]
  · have e1:(((List.range k).map fun j=>a+j).filterMap (fun i=>l[i]?)).length<=k:=mQ (List.length_filterMap_le _ _) (by simp);rw [nE (by omega),nE (by rw [nr];omega)]
theorem cl (i:Int) (n:Nat):max 0 (min (if i < 0 then i+(n:Int) else i) (n:Int))=(((if i < 0 then (i+(n:Int)).toNat else min i.toNat n):Nat):Int):=by
 by_cases h:i < 0
 ·simp only [h,if_true];omega
 ·simp only [h,if_false];omega
theorem SH (l:List Nat) (lo hi:Option Int):Txt.slice (tx l) lo hi=tx (Nv l lo hi):=by
 have hlen:(tx l).length=l.length:=CJ l;have key:Builtin.Str.strSliceIndices lo hi 1 l.length=(List.range (HT.sIx l.length l.length hi - HT.sIx l.length 0 lo)).map fun j=>HT.sIx l.length 0 lo+j:=by
  have key0:Builtin.Str.strSliceIndices lo hi 1 l.length=sliceRange ((HT.sIx l.length 0 lo:Nat):Int) ((HT.sIx l.length l.length hi:Nat):Int) 1:=by
   unfold Builtin.Str.strSliceIndices;rcases lo with _ | i<;>rcases hi with _ | j<;>simp only [show (1:Int) > 0 by decide,if_true,HT.sIx,cl,Int.natCast_zero]<;>rfl
  rw [key0];unfold sliceRange;simp only [show (1:Int) > 0 by decide,if_true];generalize HT.sIx l.length 0 lo=a;generalize HT.sIx l.length l.length hi=b;have LA:(if (a:Int) < (b:Int) then ((b:Int) - (a:Int)+1 - 1) / 1 else 0).toNat=b - a:=by
   split<;>omega
  rw [LA];apply nc;intro j _;omega
 have hle:HT.sIx l.length l.length hi<=l.length:=HT.sIx_le _ _ (mF _) _;have hlo:HT.sIx l.length 0 lo<=l.length:=HT.sIx_le _ _ (nG _) _;unfold Txt.slice;rw [hlen,key];unfold Nv;generalize HT.sIx l.length 0 lo=a at *;generalize HT.sIx l.length l.length hi=b at *;have e2:(List.map (fun j=>a+j) (List.range (b - a))).filterMap (fun i=>(tx l).cps[i]?)=(l.drop a).take (b - a):=by
  have e3:(fun i:Nat=>(tx l).cps[i]?)=fun i=>l[i]?:=by funext i;simp [tx]
  rw [e3]
  by_cases hab:a<=b
  ·exact Tf l a (b - a) (by omega)
  ·have:b - a=0:=by omega
   rw [this];simp
 split
 ·rename_i hc;simp only [mX,oO,ly,beq_iff_eq] at hc;have h0:a=0:=by omega
  have h1:b=l.length:=by omega
  subst h0 h1;simp
 ·rw [e2];rfl
def small (c:Nat):Prop:=97<=c/\c<=122
theorem eqV_str (a b:List Nat):eqV (.str (tx a)) (.str (tx b))=decide (a=b):=by
 unfold eqV
 by_cases h:a=b
 ·subst h;simp
 ·rw [decide_eq_false h];have:tx a≠tx b:=fun e=>h (aD e)
  simpa using this
section
variable {X:Cx}
def ao (K:W.Frag):List V->Hp->VK->Prop:=fun xs H Q=>∃ x T t b,xs=[x,.ty T]/\TyOf K H x t/\W.kitOne K t (.type T)=some b/\Q (.bl b) H
theorem RS (K:W.Frag) (hK:X.K=K:=by rfl):BM X (.builtin "isinstance") (ao K):=by
 subst hK;intro pins s σ H xs us Q I r h;obtain ⟨x,T,t,b,rfl,ty,e,q⟩:=h;obtain ⟨u,v,rfl,ru,rv⟩:=r.two;cases rv;exact Qo I ru ty e fun tk=>⟨.bl b,H,I.tok tk,rfl,q⟩
theorem AE.get':∀ {xs:List V} {us:List Value} {i:Nat} {u:Value},AE xs us->us[i]?=some u->∃ x,xs[i]?=some x/\RelV x u
 | _,_,_,_,.nil,e=>by simp at e
 | _,_,0,_,.cons r _,e=>by simp at e;subst e;exact ⟨_,rfl,r⟩
 | _,_,i+1,u,.cons _ t,e=>by
  obtain ⟨x,h1,h2⟩:=AE.get' (i:=i) (u:=u) t (by simpa using e);exact ⟨x,by simpa using h1,h2⟩
def gG (K:W.Frag):List V->Hp->VK->Prop:=fun xs H Q=>∃ (p:Addr) (bs:List Bool),xs=[.ref p]/\DA K H p (bs.map V.bl)/\Q (.bl (bs.all id)) H
theorem Yg {bs:List Bool} {us:List Value} (r:AE (bs.map V.bl) us) {i:Nat} {v:Value} (e:us[i]?=some v):∃ b,bs[i]?=some b/\v=.bool b:=by
 obtain ⟨x,e1,e2⟩:=r.get' e;rw [mR] at e1;cases q:bs[i]? with
 | none=>rw [q] at e1;cases e1
 | some b =>
  rw [q] at e1;have:V.bl b=x:=Option.some.inj e1;subst this;exact ⟨b,rfl,e2⟩
theorem HZ:∀ bs:List Bool,((List.range bs.length).all fun i=>(bs[i]?).getD true)=bs.all id
 | []=>rfl
 | b::bs=>by
  rw [mS,oN,nC,List.all_map,nC];have ih:=HZ bs;rw [<- ih];rfl
theorem bp {h h':Heap} {o:Obj} (hk:∀ b x,b∉[h.objs.size]->(h.push o).get? b=some x->h'.get? b=some x):∀ b x,h.get? b=some x->h'.get? b=some x:=
 fun b x e=>hk b x (fun hm=>by rw [mY.mp hm] at e;exact nR _ (mO e)) (lx _ e)
theorem RV (K:W.Frag) (hK:X.K=K:=by rfl) (hc:X.calm=true:=by rfl):BM X (.builtin "all") (gG K):=by
  subst hK;intro pins s σ H xs us Q I r h;obtain ⟨p,bs,rfl,hp,q⟩:=h;obtain ⟨u,rfl,rx⟩:=vals1 r;cases rx;obtain ⟨its,rv,pl,hz⟩:=I.list hp;have hl:=pl.isList;have hlt:p < s.heap.objs.size:=by obtain ⟨_,e,_⟩:=hl;exact mO e
  refine call_all_walk (wpAny_pyIter_list hl ?_);refine ⟨s.heap.objs.size,[s.heap.objs.size,p],[s.heap.objs.size],its.toArray.size,_,_,fun i=>(bs[i]?).getD true,rfl,Walks.list (A:=X.A.in1) (I.ok.hd hc) _ p (mh hlt) its.toArray,
    ⟨⟨_,mK _ rfl,rfl,rfl⟩,hl.push _⟩,fun i v s' Q' E' hP hQ=>?_,fun h' tk hk=>?_⟩
  · obtain ⟨b,e,rfl⟩:=Yg rv (i:=i) (v:=v) (by simpa using hP);simp only [e,Option.getD_some] at hQ;exact wpAny_truthy_bool hQ
  · have e:((List.range its.toArray.size).all fun i=>(bs[i]?).getD true)=bs.all id:=by
      rw [mD,<- rv.length,mX];exact HZ bs
    rw [e];exact ⟨.bl _,H,I.kept (bp hk),rfl,q⟩
def eqVs:List V->List V->Bool
 | [],[]=>true
 | x::xs,y::ys=>eqV x y && eqVs xs ys
 | _,_=>false
def fg (K:W.Frag):V->Option Int->Option Int->Hp->VK->Prop:=fun x lo hi H Q=>∃ a xs,x=.ref a/\Eg K H a xs/\(HT.sIx xs.length 0 lo=0/\HT.sIx xs.length xs.length hi=xs.length)/\Q (.ref a) H
theorem WV:Ru X (fg X.K):=by
 intro pins s σ H x v vl vu lo hi sl Q I rx hs pl pu h;obtain ⟨a,xs,rfl,hx,hw,q⟩:=h;cases rx;obtain ⟨its,r,ht,hz⟩:=I.tuple hx;have hlen:its.toArray.size=xs.length:=by rw [mD];exact r.length.symm
 refine ⟨"tuple", _,mm.lookup,ht.typeIs,?_⟩
 obtain ⟨os,hos,hcs,hds⟩:=id hs
 have hTs:s.TypeIs (.ref sl) "slice" := ⟨os,hos,hcs⟩
 unfold getItem
 try with_reducible refine wpAny_holding ?_
 first | refine wpAny_bind (wpAny_pure ?_) | skip
 refine wpAny_bind (wpAny_sequenceKey ht.typeIs (by decide) ?_)
 refine wpAny_bind (wpAny_callSpecial?_slot (name:=Str.ofString "__getitem__") ht.typeIs mm
  (wpAny_call_entry mm ht.typeIs entry_tuple_getitem ?_ (args_tuple_getitem _ _)))
 show wpAny _ _ (Builtin.Tuple.tupleItemsOf (.ref a) >>= _) _ _ s;refine wpAny_bind (tupleItemsOf_ ht ?_);refine wpAny_bind (wpAny_typeOf hTs ?_);rw [if_pos (by decide)];refine wpAny_bind (HT.sliceApplied_gen hs pl pu ?_);have hyes:((((HT.sIx its.toArray.size 0 lo:Nat):Int) == 0 && (1:Int) == 1 && (HT.sIx its.toArray.size its.toArray.size hi - HT.sIx its.toArray.size 0 lo) == its.toArray.size)=true):=by
  rw [hlen,hw.1,hw.2];simp
 show wpAny _ _ (if (((HT.sIx its.toArray.size 0 lo:Nat):Int) == 0 && (1:Int) == 1 && (HT.sIx its.toArray.size its.toArray.size hi - HT.sIx its.toArray.size 0 lo) == its.toArray.size)=true then _ else _) _ _ s;rw [if_pos hyes];have fin:EP X pins σ Q (.ref a) s:=⟨.ref a,H,I,rfl,q⟩;refine wpAny_bind (m:=Builtin.Tuple.tupleIsExact (Value.ref a)) ?_;unfold Builtin.Tuple.tupleIsExact;refine wpAny_bind (wpAny_typeOf ht.typeIs (wpAny_pure ?_));rw [if_pos (by decide)];exact wpAny_bind (wpAny_rule (wpAny_pure ⟨_,rfl,wpAny_pure fin⟩))
end
end L2
namespace L2
open PySem PySem.Spec PyProof.Rows PySem.SeqAt
theorem IM (l:Addr) (items:Array Value) (n:Nat) (dd:Option Addr) (sl:Array (Option Value)) (x:Value) (e:Value->Bool) (j:Nat) (hj:j < items.size) 
    (hit:e items[j]=true) (hno:∀ m (hm:m < items.size),m < j->e items[m]=false) :
    Meets (Builtin.«tuple.index» ⟨[.ref l,x],[]⟩)
      (fun A R s=>s.heap.get? l=some { cls:=.type "tuple", dict:=dd,data:=.seq items n,slots:=sl }/\(∀ y,y∈items->EqAt A.in1 s y x (e y))/\R (.ok (.ret (.int j s.toks))) { s with toks:=s.toks+1 }):=
  .of_wp fun prog w A R s h=>by
    obtain ⟨hp,g,d,tk,os⟩:=s;obtain ⟨hl,he,h⟩:=h;have f2:=AutoSeq1.sub_tuple_tuple
    wp_walk using wpAny_loadPart' hl
    let f:Nat->(Option Fin×Unit)->Sem (ForInStep (Option Fin×Unit)):=fun i __s =>
            match items[i]? with
            | some y=>do
              let __do_lift <- eqBool y x
              if __do_lift=true then do
                  let __do_lift <- retInt ↑i
                  pure (ForInStep.done (some __do_lift,()))
                else pure (ForInStep.yield (none,()))
            | x=>pure (ForInStep.yield (none,()))
    have key:wpAny (model prog w) A.in1 (forIn [:min items.size items.size] ((none,()):Option Fin×Unit) f) (fun a s' =>
      wpAny (model prog w) A.in1
        (match a.fst with
        | some r=>pure r
        | none=>do
          rule "tuple.index.not-found"
          raiseErrorWords "ValueError" "tuple.index(x): x not in tuple")
        (fun fin s'=>∃ v,fin=Fin.done (Flow.ret v)/\R (Except.ok (Flow.ret v)) s')
        (fun e s'=>R (Except.error e) s') s') (fun e s'=>R (Except.error e) s') { heap:=hp,gens:=g,drawn:=d,toks:=tk,os:=os }:=by
      rw [Std.Legacy.Range.forIn_eq_forIn_range'];simp only [Std.Legacy.Range.size,Nat.sub_zero,Nat.add_sub_cancel,Nat.div_one,pJ];refine wpAny_forIn_list _ (fun rest b s'=>b=(none,())/\s'=⟨hp,g,d,tk,os⟩/\∃ i,rest=List.range' i (items.size - i)/\i<=j) _ ?_ ?_ _ _ ⟨rfl,rfl,0,by simp,nG _⟩
      · rintro y rest b s' ⟨hb,rfl,i,hr,hi⟩;have hlt:i < items.size:=by omega
        obtain ⟨hy,hrest⟩:y=i/\rest=List.range' (i+1) (items.size - (i+1)):=by
          have e:items.size - i=(items.size - (i+1))+1:=by omega
          rw [e,pM] at hr;injection hr with h1 h2
          exact ⟨h1,h2⟩
        subst hy;show wpAny _ _ (match items[y]? with
            | some z=>do
              let __do_lift <- eqBool z x
              if __do_lift=true then do
                  let __do_lift <- retInt ↑y
                  pure (ForInStep.done (some __do_lift,()))
                else pure (ForInStep.yield (none,()))
            | x=>pure (ForInStep.yield (none,()))) _ _ _
        rw [Array.getElem?_eq_getElem hlt];refine wpAny_bind (he _ (Array.getElem_mem hlt) prog w _ _ ?_)
        by_cases hyj:y=j
        · subst hyj;rw [hit]
          wp_walk
          exact ⟨_,rfl,h⟩
        · rw [hno y hlt (by omega)]
          wp_walk
          exact ⟨rfl,rfl,y+1,hrest,by omega⟩
      · rintro b s' ⟨hb,rfl,i,hr,hi⟩;have:(List.range' i (items.size - i)).length=0:=by rw [<- hr];rfl
        rw [List.length_range'] at this;omega
    refine cast ?_ key;congr 1;funext a s';obtain ⟨a1,a2⟩:=a;cases a1 with
    | none=>rfl
    | some r=>rfl
section
variable {X:Cx}
def je (r:V->List V->Hp->VK->Prop) (to:TE) (t:TA):TE:=fun σ H Q=>to σ H fun x H1=>(∃ p xs,x=.ref p/\H1 p=some (.tup xs))/\t σ H1 fun xs H2=>r x xs H2 Q
theorem gR {o e:Expr} {es:List Expr} {to:TE} {t:TA} {name:Str} {apos cpos:Pos} {id:String} {r:V->List V->Hp->VK->Prop} (pa:PlainAttrs "tuple") (slot:Slot "tuple" name id) (hty:typeOf (.builtin id)=pure (.type "method_descriptor")) (hm:eE X id r) (ho:PE X o to) (ha:PA X (e::es) t)
    (hbase:attributeBase o name X.env (eval o X.env)=eval o X.env:=by rfl)
    (hfew:((backTo cpos (starEach (e::es) X.env)).all (fun x=>!x.1) && (backToKw cpos (keywordEach [] X.env)).all (fun x=>x.1.isSome)
      && decide ((e::es).length+([]:List Keyword).length+(if ([]:List Keyword).isEmpty then 0 else 1) < 30))=true:=by rfl)
    (hline:(apos.endLine == cpos.line)=true:=by rfl) (hs:starEach (e::es) X.env=(false,eval e X.env)::starEach es X.env:=by rfl) (hplain:(backTo cpos (starEach es X.env)).any (·.1)=false:=by rfl) :
    PE X (.Call (.Attribute o name apos) (e::es) [] cpos) (je r to t):=by
  intro pins s σ H Q I h;refine wpAny_Call_method_late hbase hfew hline rfl (Ap (ho pins s σ H _ I h) fun v s1 ⟨x,H1,I1,r1,ty,q1⟩=>?_);obtain ⟨p,xs,rfl,hp⟩:=ty;cases r1;obtain ⟨_,its,_,ob,h1,hc,hd,_⟩:=I1.hok p _ hp
  refine ⟨"tuple", id,pa,slot,hty,⟨ob,h1,hc⟩,fun a e=>by cases e;exact ⟨ob,h1,hd⟩,?_⟩
  have hA:=ha cpos pins s1 σ H1 _ I1 q1;rw [hs] at hA ⊢;refine Calls.callWith_builtin (by show (false || (backTo cpos (starEach es X.env)).any (·.1))=false;rw [hplain]<;>rfl) (Calls.evalArgs_plain ?_);exact Ap hA fun us s2 ⟨vs,H2,I2,r2,q2⟩=>hm pins s2 σ H2 (.ref p) vs (.ref p) us Q I2 rfl r2 q2
def ZI (K:W.Frag):R2:=fun x y H Q=>∃ a b ys,x=.ref a/\y=.ref b/\Eg K H a []/\Eg K H b ys/\Q (.ref b) H
theorem XR:CH X (binaryOp .Add) (ZI X.K):=by
  intro pins s σ H x y v u Q I rx ry h;obtain ⟨a,b,ys,rfl,rfl,ha,hb,q⟩:=h;cases rx;cases ry;obtain ⟨its,r1,p1,_⟩:=I.tuple ha;obtain ⟨its2,r2,p2,_⟩:=I.tuple hb;cases r1;obtain ⟨⟨cls,dd,data,sl⟩,ho,hc,n,hd⟩:=id p1;obtain ⟨⟨cls2,dd2,data2,sl2⟩,ho2,hc2,n2,hd2⟩:=id p2;simp only at hc hd hc2 hd2;subst hc hd hc2 hd2;exact concat_meets ⟨_,ho,rfl⟩ ⟨_,ho2,rfl⟩ noFill_tuple_add seq_tuple_add PySem.F.slot_tuple_add PySem.F.entry_tuple_add (PySem.F.args_tuple_add_2 _ _)
      (tuple_addW0 a b _ its2.toArray n n2 dd dd2 sl sl2 (by simp)) ⟨ho,ho2,⟨.ref b,H,I,rfl,q⟩⟩
def Ld (K:W.Frag):R2:=fun x y H Q=>Le K x y H Q\/ZI K x y H Q
theorem XS (K:W.Frag) (h:X.K=K:=by rfl):CH X (binaryOp .Add) (Ld K):=by subst h;exact XT.or XR
theorem Vp {K:W.Frag} {i j:Int} {H:Hp} {Q:VK} (q:Q (.int (i+j)) H):Ld K (.int i) (.int j) H Q:=.inl (Vs q)
theorem Vn {K:W.Frag} {i j:Str} {H:Hp} {Q:VK} (h:i.length+j.length<=1000000) (q:Q (.str (i++j)) H):Ld K (.str i) (.str j) H Q:=.inl (Vq h q)
theorem Vo {K:W.Frag} {a b:Addr} {xs ys:List V} {H:Hp} {Q:VK} (ha:H a=some (.lst xs)) (hb:H b=some (.lst ys)) (h:xs.length+ys.length<=1000000) (q:∀ p,H p=none->Q (.ref p) (upd H p (.lst (xs++ys)))):Ld K (.ref a) (.ref b) H Q:=.inl (Vr ha hb h q)
def QN (K:W.Frag):V->Option Int->Option Int->Hp->VK->Prop:=fun x lo hi H Q=>TJ K x lo hi H Q\/fg K x lo hi H Q
theorem jm (K:W.Frag) (h:X.K=K:=by rfl):Ru X (QN K):=by subst h;exact aR.or WV
theorem WR {K:W.Frag} {z:Str} {lo hi:Option Int} {H:Hp} {Q:VK} (h:z.length<=1000000) (q:Q (.str (Txt.slice z lo hi)) H):QN K (.str z) lo hi H Q:=.inl (WT h q)
theorem aN {K:W.Frag} {a:Addr} {xs:List V} {lo hi:Option Int} {H:Hp} {Q:VK} (h:DA K H a xs) (q:∀ p,H p=none->Q (.ref p) (upd H p (.lst (FK xs lo hi)))):QN K (.ref a) lo hi H Q:=.inl (So h q)
theorem WS {K:W.Frag} {a:Addr} {xs:List V} {lo hi:Option Int} {H:Hp} {Q:VK} (h:H a=some (.lst xs)) (q:∀ p,H p=none->Q (.ref p) (upd H p (.lst (FK xs lo hi)))):QN K (.ref a) lo hi H Q:=.inl (WU h q)
def TH:V->List V->Hp->VK->Prop:=fun x vs H Q=>∃ l,x=.str (tx l)/\vs=[]/\(∀ c∈l,c < 128)/\l.length<=1000000/\Q (.str (tx (l.map up1))) H
theorem UG:eG X "str.upper" TH:=by
 intro pins s σ H x vs v us Q I rx rv h;obtain ⟨l,rfl,rfl,hA,hz,q⟩:=h;obtain ⟨t,rfl⟩:=rx;cases rv.zero;have e:Txt.upper (tx l)=tx (l.map up1):=by
  rw [upper_ascii (by rw [Ga];exact hA)];simp [tx]
 refine SC.upper (by rw [e,CJ,mX];exact decide_eq_false (by have:sizeLine=16777216:=sizeLine_eq;omega)) ⟨.str (tx (l.map up1)),H,I.tok _,⟨_,by rw [e]⟩,q⟩
end
end L2
namespace L2
open PySem PySem.Spec PyProof.Rows
section
variable {prog:Program} {w:World} {A:Around} {E:Value->Shared->Prop}
theorem JV {it t:Addr} {items:Array Value} (hne:t≠it):∀ (n i:Nat) (s:Shared) (Q:List Value->Shared->Prop),s.heap.IsListIter it t i->s.heap.IsList t items->i+n<=items.size ->
    (∀ h',h'.IsListIter it t (i+n)->Heap.SameBut it s.heap h'->Q ((items.toList.drop i).take n) { s with heap:=h' })->wpAny (model prog w) A (draw (.ref it) n) Q E s
  | 0,i,s,Q,hit,_,_,hQ=>by
    show wpAny _ _ (pure []) Q E s;exact wpAny_pure (by simpa using hQ s.heap hit (Heap.SameBut.refl ..))
  | n+1,i,s,Q,hit,ht,hle,hQ=>by
    have hlt:i < items.size:=by omega
    show wpAny _ _ (pyNext (.ref it) >>= _) Q E s;refine wpAny_bind (wpAny_pyNext_list_item hit ht (x:=items[i]) (by simp [hlt]) fun h₁ hit₁ hs₁=>?_);refine wpAny_bind (wpAny_holding (JV hne n (i+1) _ _ hit₁ (ht.extBut hs₁.extBut hne) (by omega) fun h₂ hit₂ hs₂=>wpAny_pure ?_));have hd:items.toList.drop i=items[i]::items.toList.drop (i+1):=by simp [og,hlt]
    have:=hQ h₂ (by rw [show i+(n+1)=i+1+n by omega];exact hit₂) (hs₁.trans hs₂);rw [hd,List.take_succ_cons] at this;exact this
theorem FT {s:Shared} {t:Addr} {items:Array Value} {Q:List Value->Shared->Prop} (hh:A.handled=none) (ht:s.heap.IsList t items)
    (hQ:∀ h',Heap.ExtBut s.heap.objs.size s.heap h'->Q items.toList { s with heap:=h' }):wpAny (model prog w) A (unpackItems (.ref t) items.size none) Q E s:=by
  have hlt:t≠s.heap.objs.size:=by obtain ⟨o,ho,_⟩:=ht;exact mh (mO ho)
  unfold unpackItems;refine wpAny_bind ?_
  · unfold notIterableAtAll;refine wpAny_bind (wpAny_specialOf ht.typeIs PySem.slot_list_iter.lookup ?_);refine wpAny_pure ?_;simp only [mI,if_false];refine wpAny_bind (wpAny_holding (wpAny_pyIter_list ht ?_));refine wpAny_bind (wpAny_holding (JV hlt items.size 0 _ _ ⟨_,mK _ rfl,rfl,rfl⟩ (ht.push _) (by omega) fun h₁ hit₁ hs₁=>?_));have hall:List.take items.size (List.drop 0 items.toList)=items.toList:=by
      rw [List.drop_zero];exact List.take_of_length_le (by simp)
    rw [hall];rw [if_neg (by simp)];have ht₁:h₁.IsList t items:=(ht.push _).extBut hs₁.extBut hlt;refine wpAny_bind (wpAny_holding (wpAny_pyNext_list_end hh hit₁ ht₁ (by simp) fun h₂ he₂=>?_));simp only [Option.isSome_none,mI,if_false];refine wpAny_pure (hQ h₂ fun b o hb e=>he₂ b o hb (hs₁.extBut b o hb (lx _ e)))
theorem LL {s:Shared} {t:Addr} {items:Array Value} {targets:List (Bool×(Value->Sem Unit))} {Q:Unit->Shared->Prop} (hh:A.handled=none) (ht:s.heap.IsList t items)
    (hn:targets.length=items.size) (hstar:targets.findIdx? (·.1)=none)
    (h:∀ h',Heap.ExtBut s.heap.objs.size s.heap h'->wpAny (model prog w) A (assignInOrder (targets.map (·.2)) items.toList) Q E { s with heap:=h' }) :
    wpAny (model prog w) A (unpack (.ref t) targets) Q E s:=by
  unfold unpack;rw [hn,hstar];exact wpAny_bind (wpAny_holding (FT hh ht h))
end
section
variable {X:Cx}
abbrev cY (n:Nat) (t:OM):TG:=fun v σ H Q=>∃ a xs,v=.ref a/\H a=some (.lst xs)/\xs.length=n/\t xs σ H Q
theorem bM {es:List Expr} {k:Nat} {t:OM} {n:Nat} {pos:Pos} (hc:X.calm=true) (h:eU X es t)
    (hn:(assignEach es X.env).length=n:=by rfl) (hst:(assignEach es X.env).findIdx? (·.1)=none:=by rfl):PG X (.Tuple es k pos) (cY n t):=by
  intro pins s σ H v u Q I r hw;obtain ⟨a,xs,e1,hq,hl,hw⟩:=hw;subst e1;cases r;obtain ⟨its,rv,ht,hz⟩:=I.list (.inl (.inl hq));rw [assign_Tuple];refine wpAny_bind (wpAny_standAt (LL (I.ok.hd hc) ht.isList (by simp [hn,<- hl,rv.length]) hst fun h' hx=>?_));have I1:Inv X pins σ H { s with heap:=h' }:=I.kept (t':=s.toks) fun b o e=>hx b o (mh (mO e)) e
  exact h pins _ σ H xs _ Q I1 (by simpa using rv) hw
theorem Xn {n:Nat} {js:List Nat} {u:OM} (hu:Ro js u):Rv js (cY n u):=by
 rintro x σ H Q ⟨a,xs,e,hq,hl,q⟩;exact ⟨a,xs,e,hq,hl,hu _ _ _ _ q⟩
end
end L2
namespace L2
open PySem PySem.Spec PyProof.Rows PySem.SeqAt
inductive D where
 | fl (v:V)
 | tup (ds:List D)
 | lst (ds:List D)
mutual
noncomputable def eqD:D->D->Bool
 | .fl a,.fl b=>eqV a b
 | .tup a,.tup b=>eqDs a b
 | .lst a,.lst b=>eqDs a b
 | _,_=>false
noncomputable def eqDs:List D->List D->Bool
 | [],[]=>true
 | x::xs,y::ys=>eqD x y && eqDs xs ys
 | _,_=>false
end
mutual
noncomputable def D.dep:D->Nat
 | .fl _=>0
 | .tup ds=>depL ds+1
 | .lst ds=>depL ds+1
noncomputable def depL:List D->Nat
 | []=>0
 | d::ds=>max d.dep (depL ds)
end
mutual
noncomputable def Is (H:Hp):V->D->Prop
 | x,.fl v=>x=v/\FH v=true
 | x,.tup ds=>∃ a xs,x=.ref a/\H a=some (.tup xs)/\IsL H xs ds
 | x,.lst ds=>∃ a xs,x=.ref a/\H a=some (.lst xs)/\IsL H xs ds
noncomputable def IsL (H:Hp):List V->List D->Prop
 | [],[]=>True
 | x::xs,d::ds=>Is H x d/\IsL H xs ds
 | _,_=>False
end
theorem IsL.inv {H:Hp} {x:V} {xs:List V} {es:List D} (h:IsL H (x::xs) es):∃ d ds,es=d::ds/\Is H x d/\IsL H xs ds:=by
 cases es with
 | nil=>unfold IsL at h;exact h.elim
 | cons d ds=>unfold IsL at h;exact ⟨d,ds,rfl,h.1,h.2⟩
theorem IsL.length {H:Hp}:∀ {xs:List V} {ds:List D},IsL H xs ds->xs.length=ds.length
 | [],[],_=>rfl
 | [],_::_,h=>by unfold IsL at h;exact h.elim
 | _::_,[],h=>by unfold IsL at h;exact h.elim
 | x::xs,d::ds,h=>by unfold IsL at h;rw [mS,mS,IsL.length h.2]
mutual
theorem Is.inj {H:Hp}:∀ {d e:D} {x:V},Is H x d->Is H x e->d=e
 | .fl v,e,x,h,k=>by
  unfold Is at h;obtain ⟨rfl,hf⟩:=h;cases e with
  | fl u=>unfold Is at k;rw [k.1]
  | tup es=>unfold Is at k;obtain ⟨a,xs,rfl,_⟩:=k;cases hf
  | lst es=>unfold Is at k;obtain ⟨a,xs,rfl,_⟩:=k;cases hf
 | .tup ds,e,x,h,k=>by
  unfold Is at h;obtain ⟨a,xs,rfl,h1,h2⟩:=h;cases e with
  | fl u=>unfold Is at k;obtain ⟨k1,k2⟩:=k;rw [<- k1] at k2;cases k2
  | tup es =>
   unfold Is at k;obtain ⟨b,ys,e,k1,k2⟩:=k;cases e;rw [h1] at k1;cases k1;rw [IsL.inj h2 k2]
  | lst es=>unfold Is at k;obtain ⟨b,ys,e,k1,k2⟩:=k;cases e;rw [h1] at k1;cases k1
 | .lst ds,e,x,h,k=>by
  unfold Is at h;obtain ⟨a,xs,rfl,h1,h2⟩:=h;cases e with
  | fl u=>unfold Is at k;obtain ⟨k1,k2⟩:=k;rw [<- k1] at k2;cases k2
  | lst es =>
   unfold Is at k;obtain ⟨b,ys,e,k1,k2⟩:=k;cases e;rw [h1] at k1;cases k1;rw [IsL.inj h2 k2]
  | tup es=>unfold Is at k;obtain ⟨b,ys,e,k1,k2⟩:=k;cases e;rw [h1] at k1;cases k1
theorem IsL.inj {H:Hp}:∀ {ds es:List D} {xs:List V},IsL H xs ds->IsL H xs es->ds=es
 | [],es,[],h,k=>by
  cases es with
  | nil=>rfl
  | cons e es=>unfold IsL at k;exact k.elim
 | [],_,_::_,h,_=>by unfold IsL at h;exact h.elim
 | _::_,_,[],h,_=>by unfold IsL at h;exact h.elim
 | d::ds,es,x::xs,h,k=>by
  unfold IsL at h;obtain ⟨e,es',rfl,k1,k2⟩:=k.inv;rw [Is.inj h.1 k1,IsL.inj h.2 k2]
end
theorem eqV_refl {v:V} (h:FH v=true):eqV v v=true:=by
 cases v<;>first | rfl | (simp [eqV];done) | cases h
mutual
theorem eqD_refl {H:Hp}:∀ {d:D} {x:V},Is H x d->eqD d d=true
 | .fl v,x,h=>by unfold Is at h;unfold eqD;exact eqV_refl h.2
 | .tup ds,x,h=>by unfold Is at h;obtain ⟨_,_,_,_,h2⟩:=h;unfold eqD;exact eqDs_refl h2
 | .lst ds,x,h=>by unfold Is at h;obtain ⟨_,_,_,_,h2⟩:=h;unfold eqD;exact eqDs_refl h2
theorem eqDs_refl {H:Hp}:∀ {ds:List D} {xs:List V},IsL H xs ds->eqDs ds ds=true
 | [],_,_=>by unfold eqDs;rfl
 | _::_,[],h=>by unfold IsL at h;exact h.elim
 | d::ds,x::xs,h=>by
  unfold IsL at h;unfold eqDs;rw [eqD_refl h.1,eqDs_refl h.2];rfl
end
section
variable {X:Cx} {pins:List (Addr×Obj)} {σ:St} {H:Hp} {s:Shared}
def eAt (ds es:List D) (i:Nat):Bool:=match ds[i]?,es[i]? with | some a,some b=>eqD a b | _,_=>true
theorem eAt_of {ds es:List D} {i:Nat} {a b:D} (h1:ds[i]?=some a) (h2:es[i]?=some b):eAt ds es i=eqD a b:=by unfold eAt;rw [h1,h2]
end
end L2
namespace L2
open PySem PySem.Spec PyProof.Rows
inductive T where
 | leaf (k:Str) (v:V)
 | op (s:Str) (m n:T)
 | many (k w:Str) (ts:List T)
 | lett (x:Str) (a b:T)
 | loop (i:Str) (n:T) (x:Str) (a b:T)
 | pick (n:T) (ts:List T)
noncomputable abbrev sD (x:Str):D:=.fl (.str x)
mutual
noncomputable def T.toD:T->D
 | .leaf k v=>.tup [sD k,.fl v]
 | .op s m n=>.tup [sD "op", sD s,m.toD,n.toD]
 | .many k w ts=>.tup [sD k,sD w,.tup (toDs ts)]
 | .lett x a b=>.tup [sD "let", sD x,a.toD,b.toD]
 | .loop i n x a b=>.tup [sD "loop", sD i,n.toD,sD x,a.toD,b.toD]
 | .pick n ts=>.tup [sD "pick", n.toD,.tup (toDs ts)]
noncomputable def toDs:List T->List D
 | []=>[]
 | t::ts=>t.toD::toDs ts
end
end L2
namespace L2
open PySem PySem.Spec PyProof.Rows PySem.SeqAt
section
end
end L2
namespace L2
open PySem PySem.Spec PyProof.Rows
section
variable {prog:Program} {w:World} {A:Around} {E:Value->Shared->Prop} {s:Shared}
theorem NZ:typeLookup (.type "list_reverseiterator") "__len__" = pure none:=by rw [typeLookup_type,builtinLookup_eq_fast];kernel_rfl
theorem UK:typeLookup (.type "list_reverseiterator") "__length_hint__" = pure (some (.builtin "list_reverseiterator.__length_hint__")):=by rw [typeLookup_type,builtinLookup_eq_fast];kernel_rfl
theorem TC {r:Addr} {Q:Bool->Shared->Prop} (hT:s.TypeIs (.ref r) "list_reverseiterator") (h:Q false s):wpAny (model prog w) A (Builtin.List.listLengthHint (.ref r)) Q E s:=by
 unfold Builtin.List.listLengthHint;refine wpAny_bind (wpAny_specialOf hT NZ ?_);refine wpAny_bind (wpAny_specialOf hT UK ?_)
 generalize hid:("list_reverseiterator.__length_hint__" : String)=id0
 wp_delta
 rw [show splitId id0=some ("list_reverseiterator", "__length_hint__") from by subst hid;decide +kernel]
 subst hid
 refine wpAny_bind (wpAny_isInstance (T := "list_reverseiterator") (b:=true) hT (by rw [isSubtype_type];kernel_rfl) ?_)
 refine wpAny_ite_split (fun hab=>absurd hab (by decide)) (fun _=>?_);refine wpAny_ite_split (fun _=>?_) (fun hab=>absurd (by decide +kernel) hab);refine wpAny_ite_split (fun hab=>absurd hab (by decide +kernel)) (fun _=>?_);exact wpAny_pure h
theorem TF {p l:Addr} {items:Array Value} {Q:Value->Shared->Prop} (hh:A.handled=none) (hne:l≠p) (hit:s.heap.IsRevIter p l ((items.size:Int) - 1)) (hl:s.heap.IsList l items) (hn:items.size<=sizeLine)
    (hQ:∀ h' tk c',(∀ b o,b≠p->s.heap.get? b=some o->h'.get? b=some o)->h'.get? s.heap.objs.size=some { cls:=.type "list", dict:=none,data:=.seq items.reverse c',slots:=#[] }->Q (.ref s.heap.objs.size) { s with heap:=h',toks:=tk }) :
    wpAny (model prog w) A (call (.type "list") [.ref p]) Q E s:=by
  have hpl:p < s.heap.objs.size:=by obtain ⟨o,e,_⟩:=hit;exact mO e
  have hll:l < s.heap.objs.size:=by obtain ⟨o,e,_⟩:=hl;exact mO e
  refine callType_codes (Q₁:=fun obj s₁=>obj=.ref s.heap.objs.size/\s₁={ s with heap:=s.heap.push { cls:=.type "list", data:=.seq #[] } }) PySem.F.called_list (PySem.F.typeCall_list_1 _) PySem.F.entry_list_init
    (code_list_new _ ⟨rfl,rfl⟩) fun obj s₁ h₁=>?_
  obtain ⟨rfl,rfl⟩:=h₁
  have hS:(s.heap.push { cls:=.type "list", data:=.seq #[] }).get? s.heap.objs.size=some { cls:=.type "list", data:=.seq #[] }:=mK _ rfl
  generalize hSe:s.heap.objs.size=S at *;have hSp:S≠p:=oW hpl;have hSl:S≠l:=oW hll;refine ⟨⟨_,hS,rfl⟩,PySem.F.args_list_init_2 _ _,?_⟩;show wpAny _ _ (do let old <- Builtin.List.listItems (.ref S);Builtin.List.listUpdate (.ref S) (fun _=>#[]);letGo old.toList.reverse;Builtin.List.listExtendWith (.ref S) (.ref p) .none) _ _ _;refine wpAny_bind ?_;unfold Builtin.List.listItems;refine wpAny_bind (wpAny_seqItems hS rfl (wpAny_pure ?_));show wpAny _ _ (updateSeq S (fun _=>#[]) >>= fun _=>letGo (#[]:Array Value).toList.reverse >>= fun _=>Builtin.List.listExtendWith (.ref S) (.ref p) .none) _ _ _;refine wpAny_bind (wpAny_updateSeq hS rfl ?_);have hS₂:=nK (Obj.mapSeq (fun _=>(#[]:Array Value))) hS rfl
  have oth:∀ b o,b≠S->s.heap.get? b=some o->((s.heap.push { cls:=.type "list", data:=.seq #[] }).update S (Obj.mapSeq (fun _=>(#[]:Array Value)))).get? b=some o:=
    fun b o hb e=>(nz _ _ (Ne.symm hb)).trans (lx _ e)
  refine wpAny_bind (wpAny_letGo ?_)
  generalize (s.heap.push { cls:=.type "list", data:=.seq #[] }).update S (Obj.mapSeq (fun _=>(#[]:Array Value)))=h1 at hS₂ oth ⊢
  have hit1:h1.IsRevIter p l ((items.size:Int) - 1):=hit.at fun o e=>oth p o hSp.symm e
  have hl1:h1.IsList l items:=hl.at fun o e=>oth l o hSl.symm e
  unfold Builtin.List.listExtendWith
  refine wpAny_bind (wpAny_typeOf (T := "list_reverseiterator") (s:={ s with heap:=h1 }) hit1.typeIs ?_)
  have e1:Builtin.List.listSameRef (.ref S) (.ref p)=false:=by simp [Builtin.List.listSameRef,hSp]
  have e2:(Value.type "list_reverseiterator" == Value.type "list")=false:=by decide
  have e3:(Value.type "list_reverseiterator" == Value.type "tuple")=false:=by decide
  simp only [e1,e2,e3,Bool.or_false,mI,if_false];refine wpAny_bind (wpAny_pyIter_revIter (s:={ s with heap:=h1 }) hit1 ?_);refine wpAny_bind (wpAny_holding (TC (s:={ s with heap:=h1 }) hit1.typeIs ?_));refine wpAny_ite_split (fun hab=>absurd hab (by decide +kernel)) (fun _=>?_);have W:=Walks.listRev (prog:=prog) (w:=w) (A:=A.in1.in1) hh p l hne items;refine wpAny_pure ⟨plainId_quiet PySem.F.plain_extend_loop _,codeAny_extend_loopS (A:=A.in1) W.toS hn S (by simp [hSp,hSl]) _ items.size 0 { s with heap:=h1 } #[] _ rfl (nG _) ⟨nG _,by simpa using hit1,hl1⟩ hS₂ (ItemsOf.nil _) fun s' acc' c' hm hS' hacc=>?_⟩;rw [Moved.eq_with hm];have er:acc'=items.reverse:=by
    apply Array.ext
    · rw [hacc.1,Array.size_reverse]
    · intro i h1 h2;have this:items[items.size - 1 - i]?=some acc'[i]:=hacc.2 i (acc'[i]) (Array.getElem?_eq_getElem h1);rw [Array.getElem_reverse];have h3:i < items.size:=by rw [<- hacc.1];exact h1
      rw [Array.getElem?_eq_getElem (by omega)] at this;exact (Option.some.inj this).symm
  subst er;refine ⟨rfl,hQ s'.heap s'.toks c' (fun b o hb e=>hm.heap b o (fun hmem=>?_) (oth b o ?_ e)) hS'⟩
  · rcases mL.mp hmem with e' | hmem
    · exact absurd (mO e) (by rw [hSe,e'];exact nR _)
    · exact hb (mY.mp hmem)
  · intro e';exact absurd (mO e) (by rw [hSe,e'];exact nR _)
end
section
variable {X:Cx} {e:Expr} {te:TE} {p1 p2 pos1 pos2:Pos}
abbrev SU (K:W.Frag) (te:TE):TE:=fun σ H Q=>te σ H fun v H1=>∃ a xs,v=.ref a/\DA K H1 a xs/\∀ l,H1 l=none->Q (.ref l) (upd H1 l (.lst xs.reverse))
theorem Ek:∀ {xs:List V} {us:List Value},AE xs us->AE xs.reverse us.reverse
 | _,_,.nil=>.nil
 | _,_,.cons (a:=x) (b:=u) (l₁:=xs) (l₂:=us) r t=>by
  rw [pG,pG];exact AE.append (Ek t) (.cons r .nil)
theorem NL (hc:X.calm=true) (hgL:Gl X "list") (hmL:X.mg "list" = none) (hgR:Gl X "reversed") (hmR:X.mg "reversed" = none) (he:PE X e te)
    (hs1:starEach [.Call (.Name "reversed" p2) [e] [] pos2] X.env=(false,eval (.Call (.Name "reversed" p2) [e] [] pos2) X.env)::starEach [] X.env:=by rfl)
    (hpl1:(backTo pos1 (starEach [] X.env)).any (·.1)=false:=by rfl)
    (hs2:starEach [e] X.env=(false,eval e X.env)::starEach [] X.env:=by rfl)
    (hpl2:(backTo pos2 (starEach [] X.env)).any (·.1)=false:=by rfl) :
    PE X (.Call (.Name "list" p1) [.Call (.Name "reversed" p2) [e] [] pos2] [] pos1) (SU X.K te):=by
  intro pins s σ H Q I h;refine wpAny_Call_Name_kw (Bc I hgL hmL PyProof.Rows.Boot.«list» ?_ (by decide) (by decide));refine mi ?_ hs1 hpl1;rw [hs1]
  show wpAny _ _ (spliced ((false,eval (.Call (.Name "reversed" p2) [e] [] pos2) X.env)::backTo pos1 (starEach [] X.env))) _ _ s
  refine Calls.spliced_cons ?_;refine wpAny_Call_Name_kw (Bc I hgR hmR PyProof.Rows.Boot.«reversed» ?_ (by decide) (by decide));refine mi ?_ hs2 hpl2;rw [hs2];show wpAny _ _ (spliced ((false,eval e X.env)::backTo pos2 (starEach [] X.env))) _ _ s;refine Calls.spliced_cons (Ap (he pins s σ H _ I h) fun v s1 ⟨x,H1,I1,r1,q1⟩=>?_);obtain ⟨a,xs,ex,hq,q⟩:=q1;subst ex;cases r1;obtain ⟨its,rv,pl,hz⟩:=I1.list hq;have hlen:=rv.length;refine Calls.spliced_nil ?_;have hil:=pl.isList;refine call_reversed_list hil ?_;refine Calls.spliced_nil ?_;have hal:a < s1.heap.objs.size:=by obtain ⟨o,e,_⟩:=hil;exact mO e
  refine TF (s:={ s1 with heap:=s1.heap.push (revObj a ((its.toArray.size:Int) - 1)) }) (I1.ok.hd hc) (mh hal) ⟨_,mK _ rfl,rfl,rfl⟩ (hil.at fun o e=>lx _ e) (by simp only [mD];omega) fun h' tk c' kp eh=>?_
  have kp':∀ b o,s1.heap.get? b=some o->h'.get? b=some o:=fun b o e=>kp b o (mh (mO e)) (lx _ e)
  have hsz:(s1.heap.push (revObj a ((its.toArray.size:Int) - 1))).objs.size=s1.heap.objs.size+1:=size_push' _ _;refine ⟨.ref _,_,I1.laid (t':=tk) kp' (by rw [hsz];exact oT _) (show Aa X.prog X.w _ h' _ (.lst xs.reverse) from ⟨by rw [oV];exact hz,its.reverse,c',Ek rv,by rw [eh];simp⟩),rfl,q _ (I1.hok.fresh (by rw [hsz];exact oT _))⟩
end
section
variable {X:Cx} {pins:List (Addr×Obj)} {σ:St} {H:Hp} {s:Shared} {h':Heap}
theorem Inv.turnedL {t':Nat} {ch:List Addr} (I:Inv X pins σ H s) (k:∀ b o,b∉ch->s.heap.get? b=some o->h'.get? b=some o) (hf:∀ b∈ch,FpOk X pins H b):Inv X pins σ H { s with heap:=h',toks:=t' }:=by
 have nit:∀ b u,H b=some u->b∉ch:=fun b u e z=>by have:=(hf b z).1;rw [e] at this;cases this
 refine I.step (g':=s.gens) (d':=s.drawn) (ch:=ch) (fun b hb=>?_) (fun b o _ _ hc e _=>k b o hc e) (fun b o _ _ hc e _=>⟨o.slots,k b o hc e⟩) (fun _ _ _ _ n=>n)
  (fun b o hc e=>⟨o,k b o hc e⟩) (fun _ _ e=>e) (fun _ _ _ e=>e) (fun b ps e=>⟨#[],by rw [e];simp⟩) (fun m hm=>?_) (fun b u e=>?_) I.bare
 ·obtain ⟨f0,f1,f2,f3,f4,f5⟩:=hf b hb;exact ⟨f3,f1,f4,f5⟩
 ·obtain ⟨o,es,ep,ho,r⟩:=hm;exact ⟨o,es,ep,k _ o (fun z=>(hf _ z).2.1 rfl) ho,r⟩
 ·refine (I.hok b u e).stay (fun c v hc q=>k c v ?_ q) (fun _ q=>q) fun _ _ q=>q
  rcases hc with z | z
  ·rw [z];exact nit b u e
  ·exact nit c _ z
end
section
end
section
end
section
end
section
variable {κ:Type} [DecidableEq κ]
noncomputable def FS (kvs:List (κ×V)) (k:κ):Option V:=(kvs.find? fun kv=>decide (kv.1=k)).map (·.2)
noncomputable def GA (kvs:List (κ×V)) (k:κ) (v:V):List (κ×V):=
 if (kvs.any fun kv=>decide (kv.1=k))=true then kvs.map (fun kv=>if kv.1=k then (kv.1,v) else kv) else kvs++[(k,v)]
theorem DR {p:κ×V} {r:List (κ×V)} {k:κ} (e:p.1=k):FS (p::r) k=some p.2:=by simp [FS,oK,e]
theorem DS {p:κ×V} {r:List (κ×V)} {k:κ} (e:¬ p.1=k):FS (p::r) k=FS r k:=by simp [FS,oK,e]
theorem LK (k:κ):∀ kvs:List (κ×V),(kvs.any fun kv=>decide (kv.1=k))=(FS kvs k).isSome
 | []=>rfl
 | p::r=>by
  rw [nU]
  by_cases e:p.1=k
  ·simp only [DR e,decide_eq_true e,oR,Option.isSome_some]
  ·rw [DS e,decide_eq_false e,oS];exact LK k r
theorem GQ (kvs:List (κ×V)) (k:κ) (v:V):(GA kvs k v).length<=kvs.length+1:=by
 unfold GA;split
 ·rw [mX];omega
 ·rw [mV,mS,List.length_nil];omega
theorem II.isSome_eq {o:Option V} {u:Option Value} (r:II o u):o.isSome=u.isSome:=by
 cases o with
 | none=>cases u with
  | none=>rfl
  | some _=>exact (show False from r).elim
 | some _=>cases u with
  | none=>exact (show False from r).elim
  | some _=>rfl
theorem KV.val {kvs:List (κ×V)} {vs:List (κ×Value)} (r:KV kvs vs) (k:κ):II (FS kvs k) (valueAt vs k):=by
 unfold KV at r
 induction r with
 | nil=>exact True.intro
 | @cons p q ps qs h t ih =>
  obtain ⟨h1,h2⟩:=h
  by_cases e:p.1=k
  ·have e':q.1=k:=h1.symm.trans e;have b:valueAt (q::qs) k=some q.2:=by simp [valueAt,oK,e']
   rw [DR e,b];exact h2
  ·have e':¬ q.1=k:=fun z=>e (h1.trans z)
   have b:valueAt (q::qs) k=valueAt qs k:=by simp [valueAt,oK,e']
   rw [DS e,b];exact ih
theorem KV.any {kvs:List (κ×V)} {vs:List (κ×Value)} (r:KV kvs vs) (k:κ):(kvs.any fun kv=>decide (kv.1=k))=vs.any fun kv=>decide (kv.1=k):=by
 unfold KV at r
 induction r with
 | nil=>rfl
 | cons h t ih=>rw [nU,nU,ih,h.1]
theorem KV.repl {kvs:List (κ×V)} {vs:List (κ×Value)} (r:KV kvs vs) (k:κ) {y:V} {u:Value} (ry:RelV y u) :
    KV (kvs.map fun kv=>if kv.1=k then (kv.1,y) else kv) (vs.map fun kv=>if kv.1=k then (kv.1,u) else kv):=by
  unfold KV at r ⊢
  induction r with
  | nil=>exact .nil
  | @cons p q ps qs h t ih =>
    rw [mJ,mJ];refine .cons ?_ ih;obtain ⟨h1,h2⟩:=h
    by_cases e:p.1=k
    · rw [if_pos e,if_pos (h1.symm.trans e)];exact ⟨h1,ry⟩
    · rw [if_neg e,if_neg (fun z=>e (h1.trans z))];exact ⟨h1,h2⟩
theorem KV.put {kvs:List (κ×V)} {vs:List (κ×Value)} (r:KV kvs vs) (k:κ) {y:V} {u:Value} (ry:RelV y u):KV (GA kvs k y) (stored vs k u):=by
 unfold GA stored;rw [r.any k]
 by_cases e:(vs.any fun kv=>decide (kv.1=k))=true
 ·rw [if_pos e,if_pos e];exact r.repl k ry
 ·rw [if_neg e,if_neg e];exact Paired.snoc r ⟨rfl,ry⟩
theorem KV.length {kvs:List (κ×V)} {vs:List (κ×Value)} (r:KV kvs vs):kvs.length=vs.length:=Paired.length r
end
theorem MC {P:Program} {w:World} {k:BE} {u:Value} (r:RelV (kV k) u):(BG P w).is k u=true:=by
 cases k with
 | inl i=>obtain ⟨t,e⟩:=(show ∃ t,u=Value.int i t from r);subst e;exact Lw P w i t
 | inr x=>obtain ⟨t,e⟩:=(show ∃ t,u=Value.str x t from r);subst e;exact Lv P w x t
theorem JL {P:Program} {w:World}:∀ {ks:List BE} {us:List Value},AE (ks.map kV) us->ItemsAre (BG P w) ks us
 | [],_,r=>by rw [oP] at r;cases r;exact .nil
 | k::ks,_,r=>by
  rw [mJ] at r;cases r with
  | cons h t=>exact .cons (MC h) (JL t)
abbrev KT (H:Hp):List (List BE×V)->List (List BE×Addr×Value)->Prop:=Paired fun p q=>p.1=q.1/\H q.2.1=some (.tup (p.1.map kV))/\RelV p.2 q.2.2
theorem KT.val {H:Hp} {kvs:List (List BE×V)} {xs:List (List BE×Addr×Value)} (r:KT H kvs xs) (k:List BE):II (FS kvs k) ((atKey xs k).map (·.2)):=by
 induction r with
 | nil=>exact True.intro
 | @cons p q ps qs h t ih =>
  obtain ⟨h1,_,h2⟩:=h
  by_cases e:p.1=k
  ·have e':q.1=k:=h1.symm.trans e;have b:atKey (q::qs) k=some q.2:=by simp [atKey,oK,e']
   rw [DR e,b];exact h2
  ·have e':¬ q.1=k:=fun z=>e (h1.trans z)
   have b:atKey (q::qs) k=atKey qs k:=by simp [atKey,oK,e']
   rw [DS e,b];exact ih
theorem KT.repl {H:Hp} {kvs:List (List BE×V)} {xs:List (List BE×Addr×Value)} (r:KT H kvs xs) (k:List BE) {y:V} {u:Value} (ry:RelV y u) :
    KT H (kvs.map fun kv=>if kv.1=k then (kv.1,y) else kv) (xs.map (putAt k u)):=by
  induction r with
  | nil=>exact .nil
  | @cons p q ps qs h t ih =>
    rw [mJ,mJ];refine .cons ?_ ih;obtain ⟨h1,h2,h3⟩:=h;unfold putAt
    by_cases e:p.1=k
    · rw [if_pos e,if_pos (h1.symm.trans e)];exact ⟨h1,h2,ry⟩
    · rw [if_neg e,if_neg (fun z=>e (h1.trans z))];exact ⟨h1,h2,h3⟩
theorem KT.put {H:Hp} {kvs:List (List BE×V)} {xs:List (List BE×Addr×Value)} (r:KT H kvs xs) (k:List BE) {b:Addr} {y:V} {u:Value} (hb:H b=some (.tup (k.map kV))) (ry:RelV y u) :
    KT H (GA kvs k y) (storedH xs k b u):=by
  have e:(kvs.any fun kv=>decide (kv.1=k))=(atKey xs k).isSome:=by
    rw [LK,(r.val k).isSome_eq,pF]
  unfold GA storedH;rw [e]
  by_cases q:(atKey xs k).isSome=true
  · rw [if_pos q,if_pos q];exact r.repl k ry
  · rw [if_neg q,if_neg q];exact Paired.snoc r ⟨rfl,hb,ry⟩
theorem KT.keeps {H H':Hp} {kvs:List (List BE×V)} {xs:List (List BE×Addr×Value)} (r:KT H kvs xs) (ht:∀ b ys,H b=some (.tup ys)->H' b=some (.tup ys)):KT H' kvs xs:=
 Paired.mapP r fun _ _ z=>⟨z.1,ht _ _ z.2.1,z.2.2⟩
section
variable {P:Program} {w:World} {H:Hp} {h:Heap} {a:Addr}
theorem ZF {u:HO} (ok:Eh P w H h) (e:Rd H a u):Aa P w H h a u:=e.ok ok
theorem JW {kvs:List (BE×V)} (ok:Eh P w H h) (e:Rd H a (.dK kvs)):kvs.length<=sizeLine/\(a == sysModules)=false/\∃ vs,KV kvs vs/\h.DictOf (BG P w) a vs:=
 show Aa P w H h a (.dK kvs) from ZF ok e
theorem iQ {kvs:List (BE×V)} (ok:Eh P w H h) (e:H a=some (.dK kvs)):kvs.length<=sizeLine/\(a == sysModules)=false/\∃ vs,KV kvs vs/\h.DictOf (BG P w) a vs:=JW ok (.inl e)
theorem Hm {ks:List BE} (ok:Eh P w H h) (e:H a=some (.tup (ks.map kV))):(tupleKind (BG P w)).is h ks a:=by
 obtain ⟨_,its,r,o,h1,h2,_,n,h3⟩:=(show Aa P w H h a (.tup (ks.map kV)) from ok a _ e);exact ⟨o,its.toArray,n,h1,h2,h3,by simpa using JL r⟩
theorem MO {kvs:List (List BE×V)} (ok:Eh P w H h) (e:Rd H a (.dT kvs)):kvs.length<=sizeLine/\(a == sysModules)=false /\
    ∃ xs,KT H kvs xs/\h.DictOfH (tupleKind (BG P w)) a xs:=by
  obtain ⟨z,y,xs,r,o,es,ep,h1,h2,h3,h4,h5⟩:=(show Aa P w H h a (.dT kvs) from ZF ok e);refine ⟨z,y,xs,r,o,es,ep,h1,h2,h3,h4,fun x hx=>?_,h5⟩;have all:∀ {l:List (List BE×V)} {m:List (List BE×Addr×Value)},KT H l m->∀ x∈m,(tupleKind (BG P w)).is h x.1 x.2.1:=by
    intro l m q
    induction q with
    | nil=>intro x hx;exact nomatch hx
    | @cons p q ps qs hq t ih =>
      intro x hx;rcases mL.mp hx with e | hx
      · subst e;exact Hm ok (by rw [<- hq.1];exact hq.2.1)
      · exact ih x hx
  exact all r x hx
theorem iP {kvs:List (List BE×V)} (ok:Eh P w H h) (e:H a=some (.dT kvs)):kvs.length<=sizeLine/\(a == sysModules)=false /\
    ∃ xs,KT H kvs xs/\h.DictOfH (tupleKind (BG P w)) a xs:=MO ok (.inl e)
end
def IZ (H:Hp) (a:Addr) (y:V) (r:Option V):Prop:=
 (∃ kvs k,Rd H a (.dK kvs)/\y=kV k/\r=FS kvs k)\/∃ kvs k b,Rd H a (.dT kvs)/\y=.ref b/\H b=some (.tup (k.map kV))/\r=FS kvs k
def Vz (H:Hp) (a:Addr) (y v:V) (H':Hp):Prop:=
 (∃ kvs k,H a=some (.dK kvs)/\y=kV k/\kvs.length < sizeLine/\H'=upd H a (.dK (GA kvs k v))) \/
 ∃ kvs k b,H a=some (.dT kvs)/\y=.ref b/\H b=some (.tup (k.map kV))/\kvs.length < sizeLine/\H'=upd H a (.dT (GA kvs k v))
theorem IZ.k {H:Hp} {a:Addr} {kvs:List (BE×V)} {k:BE} (e:H a=some (.dK kvs)):IZ H a (kV k) (FS kvs k):=.inl ⟨kvs,k,.inl e,rfl,rfl⟩
theorem Vz.k {H:Hp} {a:Addr} {kvs:List (BE×V)} {k:BE} {v:V} (e:H a=some (.dK kvs)) (hl:kvs.length < sizeLine):Vz H a (kV k) v (upd H a (.dK (GA kvs k v))):=.inl ⟨kvs,k,e,rfl,hl,rfl⟩
section
variable {X:Cx} {pins:List (Addr×Obj)} {σ:St} {H:Hp} {s:Shared} {a:Addr} {y v:V} {u r:Value} {o:Option V} {A:Around} {E:Value->Shared->Prop}
theorem Inv.big (I:Inv X pins σ H s):sysModules < s.heap.objs.size:=by
 have h:mainGlobals < s.heap.objs.size:=(I.mod.glob.keeps I.bk).lt;exact Nat.lt_trans (by decide) h
theorem RF {Q:Value->Shared->Prop} (hu:A.units+1 < cLine) (I:Inv X pins σ H s) (g:IZ H a y (some v)) (ry:RelV y u) (h:∀ w' s',Inv X pins σ H s'->RelV v w'->Q w' s') :
    wpAny (model X.prog X.w) A (getItem (.ref a) u) Q E s:=by
  rcases g with ⟨kvs,k,e,ey,l⟩ | ⟨kvs,k,b,e,ey,eb,l⟩
  · subst ey;obtain ⟨z,hd,vs,rel,dd⟩:=JW I.hok e;obtain ⟨w',hw,rw'⟩:=II.some_of (v:=v) (o:=valueAt vs k) (by rw [l];exact rel.val k);exact wpAny_getItem_of (MC ry) dd.mapOf hw (h w' _ (I.tok _) rw')
  · subst ey;cases (show u=Value.ref b from ry);obtain ⟨z,hd,xs,rel,dd⟩:=MO I.hok e;obtain ⟨w',hw,rw'⟩:=II.some_of (v:=v) (o:=(atKey xs k).map (·.2)) (by rw [l];exact rel.val k);obtain ⟨p,hp,hp2⟩:=nF.mp hw;refine wpAny_getItem_heap (tupleKind_room_in1 hu) (Hm I.hok eb) dd hp ?_;rw [hp2];exact h w' _ (I.tok _) rw'
theorem kN {Q:Value->Shared->Prop} (hu:A.units+1 < cLine) (I:Inv X pins σ H s) (g:IZ H a y o) (ry:RelV y u) (h:∀ s',Inv X pins σ H s'->Q (.bool o.isSome) s') :
    wpAny (model X.prog X.w) A (compareOp .In u (.ref a)) Q E s:=by
  rcases g with ⟨kvs,k,e,ey,l⟩ | ⟨kvs,k,b,e,ey,eb,l⟩
  · subst ey;obtain ⟨z,hd,vs,rel,dd⟩:=JW I.hok e;refine wpAny_in_of (MC ry) hd dd.mapOf ?_;rw [<- (rel.val k).isSome_eq,<- l];exact h _ (I.tok _)
  · subst ey;cases (show u=Value.ref b from ry);obtain ⟨z,hd,xs,rel,dd⟩:=MO I.hok e;refine wpAny_in_heap (tupleKind_room_in1 hu) (Hm I.hok eb) hd dd ?_;have q:=(rel.val k).isSome_eq;rw [pF] at q;rw [<- q,<- l];exact h _ (I.tok _)
theorem Xz {Q:Value->Shared->Prop} (hu:A.units+1 < cLine) (I:Inv X pins σ H s) (g:IZ H a y o) (ry:RelV y u) (h:∀ s',Inv X pins σ H s'->Q (.bool (!o.isSome)) s') :
    wpAny (model X.prog X.w) A (compareOp .NotIn u (.ref a)) Q E s:=by
  rcases g with ⟨kvs,k,e,ey,l⟩ | ⟨kvs,k,b,e,ey,eb,l⟩
  · subst ey;obtain ⟨z,hd,vs,rel,dd⟩:=JW I.hok e;refine wpAny_notIn_of (MC ry) hd dd.mapOf ?_;rw [<- (rel.val k).isSome_eq,<- l];exact h _ (I.tok _)
  · subst ey;cases (show u=Value.ref b from ry);obtain ⟨z,hd,xs,rel,dd⟩:=MO I.hok e;refine wpAny_notIn_heap (tupleKind_room_in1 hu) (Hm I.hok eb) hd dd ?_;have q:=(rel.val k).isSome_eq;rw [pF] at q;rw [<- q,<- l];exact h _ (I.tok _)
theorem PY {h':Heap} {t':Nat} {ob:HO} (I:Inv X pins σ H s) (mu:eV (H a)) (hs:Heap.SameBut a s.heap h') (he:∃ q,h'.get? a=some q) (new:Aa X.prog X.w (upd H a ob) h' a ob) :
    Inv X pins σ (upd H a ob) { s with heap:=h',toks:=t' }:=
  I.write (x:=a) (e:=a) mu (.inl rfl) (fun b q hb z=>(hs.2 b hb).trans z) he new
theorem dF {P:Program} {w:World} {H':Hp} {h':Heap} {kvs:List (BE×V)} {vs:List (BE×Value)} (z:kvs.length<=sizeLine) (hd:(a == sysModules)=false) (rel:KV kvs vs) (dd:h'.DictOf (BG P w) a vs) :
    Aa P w H' h' a (.dK kvs):=⟨z,hd,vs,rel,dd⟩
theorem RE {H':Hp} {Q:Unit->Shared->Prop} (hu:A.units+1 < cLine) (I:Inv X pins σ H s) (g:Vz H a y v H') (ry:RelV y u) (rv:RelV v r) (h:∀ s',Inv X pins σ H' s'->Q () s') :
    wpAny (model X.prog X.w) A (setItem (.ref a) u r) Q E s:=by
  rcases g with ⟨kvs,k,e,ey,l,eH⟩ | ⟨kvs,k,b,e,ey,eb,l,eH⟩
  · subst ey eH;obtain ⟨z,hd,vs,rel,dd⟩:=iQ I.hok e;have hz:vs.length<=sizeLine:=by rw [<- rel.length];exact z
    have hl:(GA kvs k v).length<=sizeLine:=by have:=GQ kvs k v;omega
    refine wpAny_setItem_pairs (hsz:=hz) (MC ry) dd fun h' dd' hs=>h _ ?_
    have he:∃ q,h'.get? a=some q:=let ⟨q,_,_,hq,_⟩:=dd';⟨q,hq⟩;exact PY I (by rw [e];exact True.intro) hs he (dF hl hd (rel.put k rv) dd')
  · subst ey eH;cases (show u=Value.ref b from ry);obtain ⟨z,hd,xs,rel,dd⟩:=iP I.hok e;have hz:xs.length<=sizeLine:=by rw [<- Paired.length rel];exact z
    have hl:(GA kvs k v).length<=sizeLine:=by have:=GQ kvs k v;omega
    refine wpAny_setItem_heap (hsz:=hz) (tupleKind_room_in1 hu) (Hm I.hok eb) dd fun h' dd' hs=>h _ ?_
    obtain ⟨q,es,ep,hq,h2,h3,h4,_,h5⟩:=dd';refine PY I (by rw [e];exact True.intro) hs ⟨q,hq⟩ ⟨hl,hd,_,(rel.put k eb rv).keeps fun c ys ec=>?_,q,es,ep,hq,h2,h3,h4,h5⟩;rw [AO (gg ec e (fun z=>nomatch z))];exact ec
end
section
variable {X:Cx} {pins:List (Addr×Obj)} {σ:St} {H:Hp} {s:Shared} {a:Addr} {kvs:List (BE×V)} {k:BE} {u:Value} {A:Around} {E:Value->Shared->Prop}
theorem iR {Q:Value->Shared->Prop} (I:Inv X pins σ H s) (e:Rd H a (.dK kvs)) (h:∀ t s',Inv X pins σ H s'->Q (.int kvs.length t) s'):wpAny (model X.prog X.w) A (call (.builtin "len") [.ref a]) Q E s:=by
 obtain ⟨z,hd,vs,rel,dd⟩:=JW I.hok e;refine call_len_dict hd dd (by rw [<- rel.length];rw [sizeLine_eq] at z;omega) ?_;rw [<- rel.length];exact h _ _ (I.tok _)
end
theorem MP {X:Cx} {pins:List (Addr×Obj)} {σ:St} {H:Hp} {s:Shared} {a:Addr} {y:V} {o:Option V} (I:Inv X pins σ H s) (g:IZ H a y o):s.TypeIs (.ref a) "dict" := by
 rcases g with ⟨kvs,k,e,_,_⟩ | ⟨kvs,k,b,e,_,_,_⟩
 ·obtain ⟨_,_,vs,_,dd⟩:=JW I.hok e;exact dd.typeIs
 ·obtain ⟨_,_,xs,_,dd⟩:=MO I.hok e;exact dd.typeIs
section
end
theorem Uv {P:Program} {w:World} {H:Hp} (h:Heap) (hb:sysModules < h.objs.size):Aa P w H (h.push { cls:=.type "dict", data:=.dict #[] }) h.objs.size (.dK []):=
 ⟨nG _,beq_eq_false_iff_ne.mpr (Ne.symm (mh hb)),[],.nil,Heap.DictOf.new h⟩
abbrev SW:TE:=fun _ H Q=>∀ p,H p=none->Q (.ref p) (upd H p (.dK []))
section
variable {X:Cx} {pos:Pos}
theorem Ln:PE X (.Dict [] [] pos) SW:=fun pins s σ H Q I h =>
 wpAny_Dict_empty ⟨.ref s.heap.objs.size,_,I.laid (a:=s.heap.objs.size) (o:=.dK []) (t':=s.toks) (fun _ _ q=>lx _ q) (mF _) (Uv s.heap I.big),rfl,h _ (I.hok.fresh (mF _))⟩
end
section
end
section
end
section
end
section
end
section
variable {X:Cx}
theorem RP:BM X (.builtin "len") (fun xs H Q=>∃ a kvs,xs=[V.ref a]/\H a=some (.dK kvs)/\Q (.int kvs.length) H):=by
 intro pins s σ H xs us Q I r h;obtain ⟨a,kvs,rfl,ha,q⟩:=h;obtain ⟨u,rfl,ru⟩:=vals1 r;cases ru;exact iR I (.inl ha) fun t s' I'=>⟨.int kvs.length,H,I',⟨t,rfl⟩,q⟩
end
section
end
section
end
section
end
section
end
section
end
section
end
section
end
section
end
section
end
noncomputable def cs (z:Str):List Nat:=z.cps.toList
noncomputable def jn (sep:List Nat):List (List Nat)->List Nat
 | []=>[]
 | x::ys=>x++(ys.flatMap fun y=>sep++y)
theorem eX (sep:List Nat):∀ ys:List (List Nat),Txt.join (tx sep) (ys.map tx)=tx (jn sep ys):=by
 intro ys;have h:Txt.join (tx sep) (ys.map tx)=Str.join (tx sep) (ys.map tx):=by simpa using join_plain_closes (tx sep) (ys.map tx)
 rw [h];have:∀ (x:List Nat) (ys:List (List Nat)),Str.join (tx sep) ((x::ys).map tx)=tx (x++(ys.flatMap fun y=>sep++y)):=by
  intro x ys
  induction ys generalizing x with
  | nil=>simp [Str.join]
  | cons y ys ih =>
   show tx x++tx sep++Str.join (tx sep) ((y::ys).map tx)=_;rw [ih y,Mn,Mn];simp
 cases ys with
 | nil=>rfl
 | cons x ys=>exact this x ys
theorem aC (ys:List (List Nat)):((ys.map tx).map (·.length)).sum=(ys.map List.length).sum:=by
 rw [nS];congr 1
end L2
namespace R
open PySem L2
inductive Dv where
 | non | bl (b:Bool) | int (i:Int) | str (x:List Nat) | tup (xs:List Dv) | lst (xs:List Dv) | dct (ks:List BE) (xs:List Dv) | ref (k:Nat) | scr (ns:List Int) | ty (n:String) | mtp (ls:List (List Nat)) | dti (kvs:List (List Int×Int))
 deriving Inhabited
structure G where
 Z:Addr->Prop
 μ:List Addr
noncomputable abbrev Fp:=Addr->Prop
def Disj (P Q:Fp):Prop:=∀ a,P a->Q a->False
def nop:Fp:=fun _=>False
def Lk (g:G) (H:Hp) (o:Nat) (a:Addr) (vs:List V):Prop:=H a=some (.lst vs)/\(o=0->g.Z a)/\(o≠0->¬ g.Z a)
def Scr (K:W.Frag) (H:Hp) (a:Addr) (ns:List Int):Prop:=(∃ o,H a=some (.frz o (.lst (ns.map V.int)))) \/
    ∃ (o:Obj) (its:Array Value) (n:Nat),K.lookup a=some o/\o.cls=.type "list" /\ o.dict=none/\o.data=.seq its n/\its.size<=sizeLine/\AE (ns.map V.int) its.toList
theorem Scr.sq {K:W.Frag} {H:Hp} {a:Addr} {ns:List Int} (h:Scr K H a ns):DA K H a (ns.map V.int):=h.elim (fun h=>.inl (.inr h)) .inr
def Mtp (K:W.Frag) (a:Addr) (ls:List (List Nat)):Prop:=∃ (o:Obj) (its:Array Value) (n:Nat),K.lookup a=some o/\o.cls=.type "tuple" /\ o.data=.seq its n/\its.size<=sizeLine/\AE (ls.map fun l=>V.str (tx l)) its.toList
def encD (kvs:List (List Int×Int)):List (List BE×V):=kvs.map fun p=>(p.1.map Sum.inl,V.int p.2)
mutual
noncomputable def Rep (K:W.Frag) (g:G) (H:Hp):Nat->Dv->V->Fp->Prop
 | _,.non,v,P=>v=.non/\∀ a,¬ P a
 | _,.bl b,v,P=>v=.bl b/\∀ a,¬ P a
 | _,.int i,v,P=>v=.int i/\∀ a,¬ P a
 | _,.str l,v,P=>v=.str (tx l)/\∀ a,¬ P a
 | o,.tup ds,v,P=>∃ a vs,v=.ref a/\H a=some (.tup vs)/\Reps K g H (o - 1) ds vs P
 | o,.lst ds,v,P=>∃ a vs P',v=.ref a/\Lk g H o a vs/\Reps K g H (o - 1) ds vs P'/\¬ P' a/\∀ b,P b↔(o≠0/\b=a)\/P' b
 | o,.dct ks ds,v,P=>∃ a vs,v=.ref a/\H a=some (.dK (ks.zip vs))/\(o=0->g.Z a)/\(o≠0->¬ g.Z a)/\(ks.length=ds.length/\∃ R,Reps K g H 0 ds vs R)/\∀ b,P b↔(o≠0/\b=a)
 | _,.ref k,v,P=>(∃ a,g.μ[k]?=some a/\v=.ref a)/\∀ a,¬ P a
 | _,.scr ns,v,P=>(∃ a,v=.ref a/\Scr K H a ns)/\∀ a,¬ P a
 | _,.ty n,v,P=>v=.ty n/\∀ a,¬ P a
 | _,.mtp ls,v,P=>(∃ a,v=.ref a/\Mtp K a ls)/\∀ a,¬ P a
 | o,.dti kvs,v,P=>∃ a,v=.ref a/\H a=some (.dT (encD kvs))/\(o=0->g.Z a)/\(o≠0->¬ g.Z a)/\∀ b,P b↔(o≠0/\b=a)
noncomputable def Reps (K:W.Frag) (g:G) (H:Hp):Nat->List Dv->List V->Fp->Prop
 | _,[],vs,P=>vs=[]/\∀ a,¬ P a
 | o,d::ds,vs,P=>∃ v r P1 P2,vs=v::r/\Rep K g H o d v P1/\Reps K g H o ds r P2/\Disj P1 P2/\∀ a,P a↔P1 a\/P2 a
end
def Zd (g:G) (H:Hp):Prop:=∀ a,g.Z a->H a≠none
structure Step (g:G) (P:Fp) (H:Hp) (g':G) (P':Fp) (H':Hp):Prop where
 keep:∀ b o,H b=some o->¬ P b->H' b=some o
 dom:∀ b,H' b=none->H b=none
 zm:∀ a,g.Z a->g'.Z a
 zn:∀ a,g'.Z a->g.Z a\/P a\/H a=none
 mu:∃ r,g'.μ=g.μ++r
 nw:∀ a,P' a->P a\/H a=none
 zd:Zd g H->Zd g' H'
theorem Step.refl {g:G} {P:Fp} {H:Hp}:Step g P H g P H:=⟨fun _ _ h _=>h,fun _ h=>h,fun _ h=>h,fun _ h=>.inl h,⟨[],by simp⟩,fun _ h=>.inl h,fun h=>h⟩
theorem Step.trans {g g1 g2:G} {P P1 P2:Fp} {H H1 H2:Hp} (a:Step g P H g1 P1 H1) (b:Step g1 P1 H1 g2 P2 H2):Step g P H g2 P2 H2:=by
 refine ⟨fun c o h n=>?_,fun c h=>a.dom c (b.dom c h),fun c h=>b.zm c (a.zm c h),fun c h=>?_,?_,fun c h=>?_,fun z=>b.zd (a.zd z)⟩
 ·refine b.keep c o (a.keep c o h n) fun z=>?_
  rcases a.nw c z with z | z
  ·exact n z
  ·rw [h] at z;cases z
 ·rcases b.zn c h with z | z | z
  ·exact a.zn c z
  ·exact (a.nw c z).elim (fun q=>.inr (.inl q)) fun q=>.inr (.inr q)
  ·exact .inr (.inr (a.dom c z))
 ·obtain ⟨r1,e1⟩:=a.mu;obtain ⟨r2,e2⟩:=b.mu;exact ⟨r1++r2,by rw [e2,e1,nB]⟩
 ·rcases b.nw c h with z | z
  ·exact a.nw c z
  ·exact .inr (a.dom c z)
theorem Step.sub {g g':G} {P Q P' Q':Fp} {H H':Hp} (s:Step g P H g' P' H') (h1:∀ a,P a->Q a) (h2:∀ a,Q' a->P' a):Step g Q H g' Q' H':=
 ⟨fun b o h n=>s.keep b o h fun z=>n (h1 b z),s.dom,s.zm,fun a h=>(s.zn a h).elim .inl fun z=>.inr (z.elim (fun q=>.inl (h1 a q)) .inr),s.mu,fun a h=>(s.nw a (h2 a h)).elim (fun q=>.inl (h1 a q)) .inr,s.zd⟩
theorem Step.less {g g':G} {P P' Q':Fp} {H H':Hp} (s:Step g P H g' P' H') (h2:∀ a,Q' a->P' a):Step g P H g' Q' H':=s.sub (fun _ q=>q) h2
theorem Step.frame {g g':G} {P P' R:Fp} {H H':Hp} (s:Step g P H g' P' H'):Step g (fun a=>P a\/R a) H g' (fun a=>P' a\/R a) H':=
 ⟨fun b o h n=>s.keep b o h fun z=>n (.inl z),s.dom,s.zm,fun a h=>(s.zn a h).elim .inl fun z=>.inr (z.elim (fun q=>.inl (.inl q)) .inr),s.mu,fun a h=>h.elim (fun q=>(s.nw a q).elim (fun z=>.inl (.inl z)) .inr) fun q=>.inl (.inr q),s.zd⟩
theorem Step.same {g:G} {P:Fp} {H H':Hp} (s:OO H H'):Step g P H g P H':=
 have dm:∀ b,H' b=none->H b=none:=fun b h=>by
  cases e:H b with
  | none=>rfl
  | some o=>rw [s b o e] at h;cases h
 ⟨fun b o h _=>s b o h,dm,fun _ h=>h,fun _ h=>.inl h,⟨[],by simp⟩,fun _ h=>.inl h,fun z a h q=>z a h (dm a q)⟩
def FpOk (g:G) (H:Hp) (P:Fp):Prop:=∀ a,P a->eV (H a)/\¬ g.Z a
theorem FpOk.or {g:G} {H:Hp} {P Q:Fp} (h:FpOk g H P) (k:FpOk g H Q):FpOk g H fun a=>P a\/Q a:=fun a q=>q.elim (h a) (k a)
theorem FpOk.nop {g:G} {H:Hp}:FpOk g H nop:=fun _ z=>z.elim
theorem FpOk.new {g:G} {H:Hp} {P:Fp} (h:FpOk g H P) {a:Addr} (n:H a=none):¬ P a:=fun z=>by have:=(h a z).1;rw [n] at this;exact this
theorem nop_iff {P:Fp} (h:∀ a,¬ P a):P=nop:=funext fun a=>propext ⟨fun z=>(h a z).elim,fun z=>z.elim⟩
section
variable {K:W.Frag} {g g':G} {H H':Hp}
theorem Step.out {P P' R:Fp} (s:Step g P H g' P' H') (ok:FpOk g H R) (n:Disj R P):Disj R P':=fun a q z=>(s.nw a z).elim (fun z=>n a q z) fun z=>ok.new z q
theorem Lk.held {o:Nat} {a:Addr} {vs:List V} {P P':Fp} (h:Lk g H o a vs) (hn:o≠0->¬ P a) (s:Step g P H g' P' H') (ok:FpOk g H P):Lk g' H' o a vs:=by
 have np:¬ P a:=by
  by_cases z:o=0
  ·exact fun q=>(ok a q).2 (h.2.1 z)
  ·exact hn z
 refine ⟨s.keep _ _ h.1 np,fun z=>s.zm _ (h.2.1 z),fun z q=>?_⟩;rcases s.zn _ q with q | q | q
 ·exact h.2.2 z q
 ·exact np q
 ·rw [h.1] at q;cases q
mutual
theorem Rep.none0:∀ {d:Dv} {v:V} {R:Fp},Rep K g H 0 d v R->∀ a,¬ R a
 | .non,v,R,h | .bl _,v,R,h | .int _,v,R,h | .str _,v,R,h | .ty _,v,R,h | .mtp _,v,R,h | .ref _,v,R,h | .scr _,v,R,h=>by unfold Rep at h;exact h.2
 | .dti n,v,R,h=>by
  unfold Rep at h;obtain ⟨b,e,h1,h2,h3,h4⟩:=h;exact fun a q=>((h4 a).mp q).1 rfl
 | .tup ds,v,R,h=>by
  unfold Rep at h;obtain ⟨_,vs,e,h1,h2⟩:=h;exact Reps.none0 h2
 | .lst ds,v,R,h=>by
  unfold Rep at h;obtain ⟨b,vs,R',e,h1,h2,h3,h5⟩:=h;exact fun a q=>((h5 a).mp q).elim (fun z=>z.1 rfl) fun z=>Reps.none0 h2 a z
 | .dct ks ds,v,R,h=>by
  unfold Rep at h;obtain ⟨b,vs,e,h1,h2,h3,h5,h4⟩:=h;exact fun a q=>((h4 a).mp q).1 rfl
theorem Reps.none0:∀ {ds:List Dv} {vs:List V} {R:Fp},Reps K g H 0 ds vs R->∀ a,¬ R a
 | [],vs,R,h=>by unfold Reps at h;exact h.2
 | d::ds,vs,R,h=>by
  unfold Reps at h;obtain ⟨v,r,P1,P2,e,h1,h2,h3,h4⟩:=h;exact fun a q=>((h4 a).mp q).elim (fun z=>Rep.none0 h1 a z) fun z=>Reps.none0 h2 a z
end
mutual
theorem Rep.held {P P':Fp} (s:Step g P H g' P' H') (ok:FpOk g H P):∀ {o:Nat} {d:Dv} {v:V} {R:Fp},Rep K g H o d v R->Disj R P->Rep K g' H' o d v R
 | _,.non,v,R,h,_ | _,.bl _,v,R,h,_ | _,.int _,v,R,h,_ | _,.str _,v,R,h,_ | _,.ty _,v,R,h,_ | _,.mtp _,v,R,h,_=>by unfold Rep at h ⊢;exact h
 | o,.dti n,v,R,h,d=>by
  unfold Rep at h ⊢;obtain ⟨a,e,h1,h2,h3,h4⟩:=h;have hn:¬ P a:=fun z=>by
   by_cases q:o=0
   ·exact (ok a z).2 (h2 q)
   ·exact d a ((h4 a).mpr ⟨q,rfl⟩) z
  refine ⟨a,e,s.keep _ _ h1 hn,fun q=>s.zm _ (h2 q),fun q z=>?_,h4⟩;rcases s.zn _ z with z | z | z
  ·exact h3 q z
  ·exact hn z
  ·rw [h1] at z;cases z
 | o,.tup ds,v,R,h,n=>by
  unfold Rep at h ⊢;obtain ⟨a,vs,e,h1,h2⟩:=h;exact ⟨a,vs,e,s.keep _ _ h1 fun z=>(by have:=(ok a z).1;rw [h1] at this;exact this),Reps.held s ok h2 n⟩
 | o,.lst ds,v,R,h,n=>by
  unfold Rep at h ⊢;obtain ⟨a,vs,R',e,h1,h2,h3,h5⟩:=h;exact ⟨a,vs,R',e,h1.held (fun z q=>n a ((h5 a).mpr (.inl ⟨z,rfl⟩)) q) s ok,Reps.held s ok h2 fun b q z=>n b ((h5 b).mpr (.inr q)) z,h3,h5⟩
 | o,.dct ks ds,v,R,h,d=>by
  unfold Rep at h ⊢;obtain ⟨a,vs,e,h1,h2,h3,⟨h5,R',h6⟩,h4⟩:=h;have hn:¬ P a:=fun z=>by
   by_cases q:o=0
   ·exact (ok a z).2 (h2 q)
   ·exact d a ((h4 a).mpr ⟨q,rfl⟩) z
  refine ⟨a,vs,e,s.keep _ _ h1 hn,fun q=>s.zm _ (h2 q),fun q z=>?_,⟨h5,R',Reps.held s ok h6 fun b q z=>(Reps.none0 h6 b q).elim⟩,h4⟩;rcases s.zn _ z with z | z | z
  ·exact h3 q z
  ·exact hn z
  ·rw [h1] at z;cases z
 | _,.ref k,v,R,h,_=>by
  unfold Rep at h ⊢;obtain ⟨⟨a,h1,h2⟩,h3⟩:=h;obtain ⟨r,e⟩:=s.mu;refine ⟨⟨a,?_,h2⟩,h3⟩;rw [e,mH (mB.mp h1).1];exact h1
 | _,.scr ns,v,R,h,_=>by
  unfold Rep at h ⊢;obtain ⟨⟨a,h1,h2⟩,h3⟩:=h;refine ⟨⟨a,h1,?_⟩,h3⟩;rcases h2 with ⟨o,h2⟩ | h2
  ·exact .inl ⟨o,s.keep _ _ h2 fun z=>by have:=(ok a z).1;rw [h2] at this;exact this⟩
  ·exact .inr h2
theorem Reps.held {P P':Fp} (s:Step g P H g' P' H') (ok:FpOk g H P):∀ {o:Nat} {ds:List Dv} {vs:List V} {R:Fp},Reps K g H o ds vs R->Disj R P->Reps K g' H' o ds vs R
 | _,[],vs,R,h,_=>by unfold Reps at h ⊢;exact h
 | o,d::ds,vs,R,h,n=>by
  unfold Reps at h ⊢;obtain ⟨v,r,P1,P2,e,h1,h2,h3,h4⟩:=h;exact ⟨v,r,P1,P2,e,Rep.held s ok h1 fun a q z=>n a ((h4 a).mpr (.inl q)) z,Reps.held s ok h2 fun a q z=>n a ((h4 a).mpr (.inr q)) z,h3,h4⟩
end
mutual
theorem Rep.fpOk:∀ {o:Nat} {d:Dv} {v:V} {R:Fp},Rep K g H o d v R->FpOk g H R
 | _,.non,v,R,h,a,q | _,.bl _,v,R,h,a,q | _,.int _,v,R,h,a,q | _,.str _,v,R,h,a,q | _,.ty _,v,R,h,a,q | _,.mtp _,v,R,h,a,q | _,.ref _,v,R,h,a,q | _,.scr _,v,R,h,a,q=>by unfold Rep at h;exact (h.2 a q).elim
 | o,.dti n,v,R,h,a,q=>by
  unfold Rep at h;obtain ⟨b,e,h1,h2,h3,h4⟩:=h;obtain ⟨ho,rfl⟩:=(h4 a).mp q;exact ⟨by rw [h1];trivial,h3 ho⟩
 | o,.tup ds,v,R,h,a,q=>by
  unfold Rep at h;obtain ⟨_,vs,e,h1,h2⟩:=h;exact Reps.fpOk h2 a q
 | o,.lst ds,v,R,h,a,q=>by
  unfold Rep at h;obtain ⟨b,vs,R',e,h1,h2,h3,h5⟩:=h;rcases (h5 a).mp q with ⟨z,rfl⟩ | z
  ·exact ⟨by rw [h1.1];trivial,h1.2.2 z⟩
  ·exact Reps.fpOk h2 a z
 | o,.dct ks ds,v,R,h,a,q=>by
  unfold Rep at h;obtain ⟨b,vs,e,h1,h2,h3,h5,h4⟩:=h;obtain ⟨ho,rfl⟩:=(h4 a).mp q;exact ⟨by rw [h1];trivial,h3 ho⟩
theorem Reps.fpOk:∀ {o:Nat} {ds:List Dv} {vs:List V} {R:Fp},Reps K g H o ds vs R->FpOk g H R
 | _,[],vs,R,h,a,q=>by unfold Reps at h;exact (h.2 a q).elim
 | o,d::ds,vs,R,h,a,q=>by
  unfold Reps at h;obtain ⟨v,r,P1,P2,e,h1,h2,h3,h4⟩:=h;rcases (h4 a).mp q with z | z
  ·exact Rep.fpOk h1 a z
  ·exact Reps.fpOk h2 a z
end
theorem Rep.iff {o:Nat} {d:Dv} {v:V} {P Q:Fp} (h:Rep K g H o d v P) (e:∀ a,Q a↔P a):Rep K g H o d v Q:=by
 have:Q=P:=funext fun a=>propext (e a)
 rw [this];exact h
theorem Reps.iff {o:Nat} {d:List Dv} {v:List V} {P Q:Fp} (h:Reps K g H o d v P) (e:∀ a,Q a↔P a):Reps K g H o d v Q:=by
 have:Q=P:=funext fun a=>propext (e a)
 rw [this];exact h
theorem Rep.z {d:Dv} {v:V} {R:Fp} (h:Rep K g H 0 d v R):Rep K g H 0 d v nop:=by rw [<- nop_iff h.none0];exact h
theorem Reps.z {d:List Dv} {v:List V} {R:Fp} (h:Reps K g H 0 d v R):Reps K g H 0 d v nop:=by rw [<- nop_iff h.none0];exact h
def G.add (g:G) (P:Fp):G:={ g with Z:=fun a=>g.Z a\/P a }
mutual
theorem Rep.freeze {P:Fp}:∀ {o:Nat} {d:Dv} {v:V} {R:Fp},Rep K g H o d v R->(∀ a,R a->P a)->Rep K (g.add P) H 0 d v nop
 | _,.non,v,R,h,_ | _,.bl _,v,R,h,_ | _,.int _,v,R,h,_ | _,.str _,v,R,h,_ | _,.ty _,v,R,h,_ | _,.mtp _,v,R,h,_ | _,.ref _,v,R,h,_ | _,.scr _,v,R,h,_=>by unfold Rep at h ⊢;exact ⟨h.1,fun _ z=>z⟩
 | o,.dti n,v,R,h,s=>by
  unfold Rep at h ⊢;obtain ⟨a,e,h1,h2,h3,h4⟩:=h;refine ⟨a,e,h1,fun _=>?_,fun z=>(z rfl).elim,fun b=>⟨fun z=>z.elim,fun z=>(z.1 rfl).elim⟩⟩
  by_cases q:o=0
  ·exact .inl (h2 q)
  ·exact .inr (s a ((h4 a).mpr ⟨q,rfl⟩))
 | o,.tup ds,v,R,h,s=>by
  unfold Rep at h ⊢;obtain ⟨a,vs,e,h1,h2⟩:=h;exact ⟨a,vs,e,h1,Reps.freeze h2 s⟩
 | o,.lst ds,v,R,h,s=>by
  unfold Rep at h ⊢;obtain ⟨a,vs,R',e,h1,h2,h3,h5⟩:=h;refine ⟨a,vs,nop,e,⟨h1.1,fun _=>?_,fun z=>(z rfl).elim⟩,Reps.freeze h2 (fun b q=>s b ((h5 b).mpr (.inr q))),fun z=>z,fun b=>⟨fun z=>z.elim,fun z=>z.elim (fun q=>(q.1 rfl).elim) id⟩⟩
  by_cases q:o=0
  ·exact .inl (h1.2.1 q)
  ·exact .inr (s a ((h5 a).mpr (.inl ⟨q,rfl⟩)))
 | o,.dct ks ds,v,R,h,s=>by
  unfold Rep at h ⊢;obtain ⟨a,vs,e,h1,h2,h3,⟨h5,R',h6⟩,h4⟩:=h;refine ⟨a,vs,e,h1,fun _=>?_,fun z=>(z rfl).elim,⟨h5,nop,Reps.freeze h6 fun b q=>(Reps.none0 h6 b q).elim⟩,fun b=>⟨fun z=>z.elim,fun z=>(z.1 rfl).elim⟩⟩
  by_cases q:o=0
  ·exact .inl (h2 q)
  ·exact .inr (s a ((h4 a).mpr ⟨q,rfl⟩))
theorem Reps.freeze {P:Fp}:∀ {o:Nat} {ds:List Dv} {vs:List V} {R:Fp},Reps K g H o ds vs R->(∀ a,R a->P a)->Reps K (g.add P) H 0 ds vs nop
 | _,[],vs,R,h,_=>by unfold Reps at h ⊢;exact ⟨h.1,fun _ z=>z⟩
 | o,d::ds,vs,R,h,s=>by
  unfold Reps at h ⊢;obtain ⟨v,r,P1,P2,e,h1,h2,h3,h4⟩:=h;exact ⟨v,r,nop,nop,e,Rep.freeze h1 (fun a q=>s a ((h4 a).mpr (.inl q))),Reps.freeze h2 (fun a q=>s a ((h4 a).mpr (.inr q))),fun _ z=>z.elim,fun a=>⟨fun z=>z.elim,fun z=>z.elim id id⟩⟩
end
theorem Step.freeze {P:Fp} (ok:FpOk g H P):Step g P H (g.add P) nop H:=
 ⟨fun _ _ h _=>h,fun _ h=>h,fun _ h=>.inl h,fun a h=>h.elim .inl fun q=>.inr (.inl q),⟨[],by show g.μ=_;simp⟩,fun _ h=>h.elim,fun z a h q=>h.elim (fun h=>z a h q) fun h=>by have:=(ok a h).1;rw [q] at this;exact this⟩
theorem Reps.nil {o:Nat}:Reps K g H o [] [] nop:=by unfold Reps;exact ⟨rfl,fun _ z=>z⟩
theorem Reps.cons {o:Nat} {d:Dv} {v:V} {ds:List Dv} {vs:List V} {P1 P2:Fp} (h1:Rep K g H o d v P1) (h2:Reps K g H o ds vs P2) (n:Disj P1 P2):Reps K g H o (d::ds) (v::vs) fun a=>P1 a\/P2 a:=by
 unfold Reps;exact ⟨v,vs,P1,P2,rfl,h1,h2,n,fun _=>Iff.rfl⟩
theorem Reps.len:∀ {o:Nat} {ds:List Dv} {vs:List V} {R:Fp},Reps K g H o ds vs R->ds.length=vs.length
 | _,[],vs,R,h=>by unfold Reps at h;rw [h.1];rfl
 | _,d::ds,vs,R,h=>by
  unfold Reps at h;obtain ⟨v,r,P1,P2,rfl,h1,h2,_⟩:=h;simp [h2.len]
theorem Reps.get:∀ {o:Nat} {ds:List Dv} {vs:List V} {R:Fp} {i:Nat} {d:Dv},Reps K g H o ds vs R->ds[i]?=some d->∃ v P,vs[i]?=some v/\Rep K g H o d v P/\∀ a,P a->R a
 | _,[],_,_,_,_,_,e=>by simp at e
 | _,d::ds,vs,R,i,d',h,e=>by
  unfold Reps at h;obtain ⟨v,r,P1,P2,rfl,h1,h2,_,h4⟩:=h;cases i with
  | zero=>simp at e;subst e;exact ⟨v,P1,rfl,h1,fun a q=>(h4 a).mpr (.inl q)⟩
  | succ i =>
   obtain ⟨v',P,e',h',s⟩:=h2.get (i:=i) (by simpa using e);exact ⟨v',P,by simpa using e',h',fun a q=>(h4 a).mpr (.inr (s a q))⟩
theorem Reps.app:∀ {o:Nat} {ds es:List Dv} {vs us:List V} {P Q:Fp},Reps K g H o ds vs P->Reps K g H o es us Q->Disj P Q->Reps K g H o (ds++es) (vs++us) fun a=>P a\/Q a
 | _,[],es,vs,us,P,Q,h,k,_=>by
  unfold Reps at h;obtain ⟨rfl,n⟩:=h;exact k.iff fun a=>⟨fun z=>z.elim (fun q=>(n a q).elim) id,.inr⟩
 | _,d::ds,es,vs,us,P,Q,h,k,n=>by
  unfold Reps at h;obtain ⟨v,r,P1,P2,rfl,h1,h2,h3,h4⟩:=h;have t:=Reps.app h2 k fun a q z=>n a ((h4 a).mpr (.inr q)) z
  refine (Reps.cons h1 t fun a q z=>z.elim (fun z=>h3 a q z) fun z=>n a ((h4 a).mpr (.inl q)) z).iff fun a=>?_
  rw [h4 a,or_assoc]
end
noncomputable abbrev M:=List Dv
noncomputable abbrev Gm:=List (Option Nat)
noncomputable def M.at (m:M) (i:Nat):Dv:=m.getD i .non
structure REnv (K:W.Frag) (g:G) (H:Hp) (Γ:Gm) (ρ:List Dv) (σ:St) (F:Nat->Fp):Prop where
 l1:ρ.length=Γ.length
 l2:σ.length=Γ.length
 rep:∀ i o,Γ[i]?=some (some o)->∃ d v,ρ[i]?=some d/\σ[i]?=some (some v)/\Rep K g H o d v (F i)
 out:∀ i,(∀ o,Γ[i]?≠some (some o))->∀ a,¬ F i a
 dj:∀ i j,i≠j->Disj (F i) (F j)
def Rel (K:W.Frag) (g:G) (H:Hp) (Γ:Gm) (m:M) (σ:St) (P:Fp):Prop:=Zd g H/\∃ F,REnv K g H Γ m σ F/\∀ a,P a↔∃ i,F i a
theorem Du {α:Type} {l:List α} {i j:Nat} {x y:α} (h:(l.set i x)[j]?=some y):(i=j/\y=x)\/(i≠j/\l[j]?=some y):=by
 by_cases e:i=j
 ·subst e;refine .inl ⟨rfl,?_⟩;rw [List.getElem?_set] at h;simp only [if_true] at h;split at h
  ·exact (Option.some.inj h).symm
  ·cases h
 ·rw [mf e] at h;exact .inr ⟨e,h⟩
theorem Ji {m:M} {i:Nat} {d:Dv} (h:m[i]?=some d):m.at i=d:=by unfold M.at;rw [mZ,h];rfl
section
variable {K:W.Frag} {g g':G} {H H':Hp} {Γ:Gm} {m:M} {σ:St} {P:Fp}
theorem Rel.zd (h:Rel K g H Γ m σ P):Zd g H:=h.1
theorem Rel.len (h:Rel K g H Γ m σ P):m.length=Γ.length/\σ.length=Γ.length:=let ⟨_,_,h1,_⟩:=h;⟨h1.l1,h1.l2⟩
theorem Rel.fpOk (h:Rel K g H Γ m σ P):FpOk g H P:=by
 obtain ⟨_,F,h1,h4⟩:=h;intro a q;obtain ⟨i,z⟩:=(h4 a).mp q
 by_cases e:∃ o,Γ[i]?=some (some o)
 ·obtain ⟨o,e⟩:=e;obtain ⟨d,v,_,_,r⟩:=h1.rep i o e;exact r.fpOk a z
 ·exact (h1.out i (fun o z=>e ⟨o,z⟩) a z).elim
theorem Rel.held {P' R:Fp} (s:Step g P H g' P' H') (ok:FpOk g H P) (h:Rel K g H Γ m σ R) (n:Disj R P):Rel K g' H' Γ m σ R:=by
 obtain ⟨zd,F,h1,h4⟩:=h;refine ⟨s.zd zd,F,⟨h1.l1,h1.l2,fun i o e=>?_,h1.out,h1.dj⟩,h4⟩;obtain ⟨d,v,e1,e2,r⟩:=h1.rep i o e;exact ⟨d,v,e1,e2,r.held s ok fun a q z=>n a ((h4 a).mpr ⟨i,q⟩) z⟩
theorem Rel.same (h:Rel K g H Γ m σ P) (s:OO H H'):Rel K g H' Γ m σ P:=h.held (Step.same (P:=nop) s) FpOk.nop fun _ _ z=>z
theorem Rel.see {i o:Nat} (h:Rel K g H Γ m σ P) (e:Γ[i]?=some (some o)):∃ v P1,σ[i]?=some (some v)/\Rep K g H o (m.at i) v P1/\∀ a,P1 a->P a:=by
 obtain ⟨_,F,h1,h4⟩:=h;obtain ⟨d,v,e1,e2,r⟩:=h1.rep i o e;exact ⟨v,F i,e2,by rw [Ji e1];exact r,fun a q=>(h4 a).mpr ⟨i,q⟩⟩
theorem Rel.agree {m2:M} (h:Rel K g H Γ m σ P) (hl:m2.length=m.length) (ha:∀ i o,Γ[i]?=some (some o)->m2.at i=m.at i):Rel K g H Γ m2 σ P:=by
 obtain ⟨zd,F,h1,h4⟩:=h;refine ⟨zd,F,⟨hl.trans h1.l1,h1.l2,fun i o e=>?_,h1.out,h1.dj⟩,h4⟩;obtain ⟨d,v,e1,e2,r⟩:=h1.rep i o e;have hi:i < m2.length:=by rw [hl];exact (mB.mp e1).1
 refine ⟨d,v,?_,e2,r⟩;have:=ha i o e;unfold M.at at this;rw [mZ,mZ,e1,lz hi] at this;rw [lz hi];exact congrArg some this
theorem Rel.drop (i:Nat) (d:Dv) (x:Option V) (h:Rel K g H Γ m σ P):∃ P2,Rel K g H (Γ.set i none) (m.set i d) (σ.set i x) P2/\∀ a,P2 a->P a:=by
 obtain ⟨zd,F,h1,h4⟩:=h;refine ⟨fun a=>∃ j,j≠i/\F j a,⟨zd,fun j a=>j≠i/\F j a,⟨by rw [ma,ma,h1.l1],by rw [ma,ma,h1.l2],fun j o e=>?_,fun j e a q=>?_,fun j k n a q z=>h1.dj j k n a q.2 z.2⟩,fun _=>Iff.rfl⟩,fun a ⟨j,_,q⟩=>(h4 a).mpr ⟨j,q⟩⟩
 ·rcases Du e with ⟨_,z⟩ | ⟨n,e⟩
  ·cases z
  ·obtain ⟨d',v,e1,e2,r⟩:=h1.rep j o e;have eq:(fun a=>j≠i/\F j a)=F j:=funext fun a=>propext ⟨fun z=>z.2,fun z=>⟨fun q=>n q.symm,z⟩⟩
   exact ⟨d',v,by rw [mf n];exact e1,by rw [mf n];exact e2,by show Rep K g H o d' v (fun a=>j≠i/\F j a);rw [eq];exact r⟩
 ·refine h1.out j (fun o z=>e o ?_) a q.2;rw [mf fun z=>q.1 z.symm];exact z
theorem Rel.fill {i o:Nat} {d:Dv} {v:V} {P1:Fp} (h:Rel K g H Γ m σ P) (e:Γ[i]?=some none) (hd:m[i]?=some d) (hv:σ[i]?=some (some v)) (r:Rep K g H o d v P1) (n:Disj P1 P):Rel K g H (Γ.set i (some o)) m σ fun a=>P1 a\/P a:=by
 obtain ⟨zd,F,h1,h4⟩:=h;have fi:∀ a,¬ F i a:=h1.out i fun o z=>by rw [e] at z;cases z
 have hi:i < Γ.length:=(mB.mp e).1;refine ⟨zd,fun j a=>if j=i then P1 a else F j a,⟨by rw [ma];exact h1.l1,by rw [ma];exact h1.l2,fun j o' e'=>?_,fun j e' a q=>?_,fun j k nn a q z=>?_⟩,fun a=>?_⟩
 ·rcases Du e' with ⟨rfl,z⟩ | ⟨nn,e'⟩
  ·cases z;have eq:(fun a=>if i=i then P1 a else F i a)=P1:=funext fun a=>by rw [if_pos rfl]
   exact ⟨d,v,hd,hv,by show Rep K g H o d v fun a=>if i=i then P1 a else F i a;rw [eq];exact r⟩
  ·obtain ⟨d',v',e1,e2,r'⟩:=h1.rep j o' e';have eq:(fun a=>if j=i then P1 a else F j a)=F j:=funext fun a=>by rw [if_neg fun z=>nn z.symm]
   exact ⟨d',v',e1,e2,by show Rep K g H o' d' v' fun a=>if j=i then P1 a else F j a;rw [eq];exact r'⟩
 ·by_cases z:j=i
  ·subst z;exact e' o (ml hi)
  ·simp only [if_neg z] at q;exact h1.out j (fun o' z'=>e' o' (by rw [mf fun w=>z w.symm];exact z')) a q
 ·by_cases zj:j=i
  ·by_cases zk:k=i
   ·exact nn (zj.trans zk.symm)
   ·simp only [if_pos zj,if_neg zk] at q z;exact n a q ((h4 a).mpr ⟨k,z⟩)
  ·by_cases zk:k=i
   ·simp only [if_neg zj,if_pos zk] at q z;exact n a z ((h4 a).mpr ⟨j,q⟩)
   ·simp only [if_neg zj,if_neg zk] at q z;exact h1.dj j k nn a q z
 ·show P1 a\/P a↔_;rw [h4 a];refine ⟨fun z=>?_,fun ⟨j,z⟩=>?_⟩
  ·rcases z with z | ⟨j,z⟩
   ·exact ⟨i,by simp only [if_true];exact z⟩
   ·have:j≠i:=fun w=>fi a (w▸z)
    exact ⟨j,by simp only [if_neg this];exact z⟩
  ·by_cases zj:j=i
   ·simp only [if_pos zj] at z;exact .inl z
   ·simp only [if_neg zj] at z;exact .inr ⟨j,z⟩
theorem HM {α:Type} {l:List α} {i:Nat} {x:α} (h:l[i]?=some x):l.set i x=l:=by
 apply List.ext_getElem?;intro j
 by_cases e:i=j
 ·subst e;rw [ml (mB.mp h).1,h]
 ·rw [mf e]
theorem Rel.take {i o:Nat} (h:Rel K g H Γ m σ P) (e:Γ[i]?=some (some o)):∃ v P1 P2,σ[i]?=some (some v)/\m[i]?=some (m.at i)/\Rep K g H o (m.at i) v P1/\Rel K g H (Γ.set i none) m σ P2/\Disj P1 P2/\∀ a,P a↔P1 a\/P2 a:=by
 obtain ⟨zd,F,h1,h4⟩:=h;obtain ⟨d,v,e1,e2,r⟩:=h1.rep i o e;refine ⟨v,F i,fun a=>∃ j,j≠i/\F j a,e2,by rw [Ji e1];exact e1,by rw [Ji e1];exact r,⟨zd,fun j a=>j≠i/\F j a,⟨by rw [ma];exact h1.l1,by rw [ma];exact h1.l2,fun j o' e'=>?_,fun j e' a q=>?_,fun j k n a q z=>h1.dj j k n a q.2 z.2⟩,fun _=>Iff.rfl⟩,fun a q ⟨j,n,z⟩=>h1.dj i j (fun w=>n w.symm) a q z,fun a=>?_⟩
 ·rcases Du e' with ⟨_,z⟩ | ⟨n,e'⟩
  ·cases z
  ·obtain ⟨d',v',e3,e4,r'⟩:=h1.rep j o' e';have eq:(fun a=>j≠i/\F j a)=F j:=funext fun a=>propext ⟨fun z=>z.2,fun z=>⟨fun q=>n q.symm,z⟩⟩
   exact ⟨d',v',e3,e4,by show Rep K g H o' d' v' (fun a=>j≠i/\F j a);rw [eq];exact r'⟩
 ·exact h1.out j (fun o' z=>e' o' (by rw [mf fun w=>q.1 w.symm];exact z)) a q.2
 ·rw [h4 a];refine ⟨fun ⟨j,z⟩=>?_,fun z=>?_⟩
  ·by_cases zj:j=i
   ·exact .inl (zj▸z)
   ·exact .inr ⟨j,zj,z⟩
  ·rcases z with z | ⟨j,_,z⟩
   ·exact ⟨i,z⟩
   ·exact ⟨j,z⟩
theorem DW {α:Type} (l:List α) (i:Nat) (x y:α):(l.set i x).set i y=l.set i y:=List.set_set ..
theorem Rel.setNew {Pv:Fp} {i o:Nat} {d:Dv} {v:V} (h:Rel K g H Γ m σ P) (hi:i < Γ.length) (hv:Rep K g H o d v Pv) (n:Disj Pv P) :
    ∃ P2,Rel K g H (Γ.set i (some o)) (m.set i d) (σ.set i (some v)) P2/\∀ a,P2 a->P a\/Pv a:=by
  obtain ⟨P2,h2,s⟩:=h.drop i d (some v);have l:=h.len;have:=h2.fill (i:=i) (ml hi) (ml (by omega)) (ml (by omega)) hv fun a q z=>n a q (s a z)
  rw [DW] at this;exact ⟨_,this,fun a q=>q.elim .inr fun q=>.inl (s a q)⟩
theorem Rel.putIn {P1:Fp} {i o:Nat} {d:Dv} {v:V} (h:Rel K g H (Γ.set i none) m σ P) (hi:i < Γ.length) (hv:σ[i]?=some (some v)) (r:Rep K g H o d v P1) (n:Disj P1 P):∃ P2,Rel K g H (Γ.set i (some o)) (m.set i d) σ P2/\∀ a,P2 a->P1 a\/P a:=by
 obtain ⟨P2,h2,s⟩:=h.drop i d (some v);rw [HM hv] at h2;have l:=h.len;rw [ma] at l;have h3:=h2.fill (i:=i) (by rw [DW];exact ml hi) (ml (by omega)) hv r fun a q z=>n a q (s a z)
 rw [DW,DW] at h3;exact ⟨_,h3,fun a q=>q.elim .inl fun q=>.inr (s a q)⟩
theorem Rel.freeze {i o:Nat} (h:Rel K g H Γ m σ P) (e:Γ[i]?=some (some o)):∃ g' P' v,Step g P H g' P' H/\Rel K g' H (Γ.set i (some 0)) m σ P'/\σ[i]?=some (some v)/\Rep K g' H 0 (m.at i) v nop:=by
 obtain ⟨v,P1,P2,ev,ed,r,r2,n,hP⟩:=h.take e;have st:Step g P1 H (g.add P1) nop H:=Step.freeze r.fpOk;have fr:Rep K (g.add P1) H 0 (m.at i) v nop:=r.freeze fun _ q=>q
 have r3:=r2.held st r.fpOk fun a q z=>n a z q
 have hi:i < Γ.length:=(mB.mp e).1;have r4:=r3.fill (i:=i) (ml hi) ed ev fr fun _ z=>z.elim
 rw [DW] at r4;refine ⟨_,_,v,?_,r4,ev,fr⟩;exact (st.frame (R:=P2)).sub (fun a q=>(hP a).mpr q) fun a q=>q.elim (fun z=>z.elim) .inr
def Bb:Gm->Gm->Bool
 | [],[]=>true
 | none::a,_::b=>Bb a b
 | some o::a,some o'::b=>(o == 0 || o == o') && Bb a b
 | _,_=>false
theorem EH:∀ {a b:Gm},Bb a b=true->a.length=b.length
 | [],[],_=>rfl
 | none::a,_::b,h=>by unfold Bb at h;simp [EH h]
 | some o::a,some o'::b,h=>by unfold Bb at h;simp [EH (nW.mp h).2]
 | [],_::_,h=>by cases h
 | some _::_,none::_,h=>by cases h
 | some _::_,[],h=>by cases h
 | none::_,[],h=>by cases h
theorem FD:∀ {a b:Gm} {i o:Nat},Bb a b=true->a[i]?=some (some o)->∃ o',b[i]?=some (some o')/\(o=0\/o=o')
 | [],_,i,o,_,e=>by simp at e
 | none::a,x::b,i,o,h,e=>by
  unfold Bb at h;cases i with
  | zero=>simp at e
  | succ i=>obtain ⟨o',e',z⟩:=FD (i:=i) h (by simpa using e);exact ⟨o',by simpa using e',z⟩
 | some p::a,some p'::b,i,o,h,e=>by
  unfold Bb at h;rw [ly] at h;cases i with
  | zero =>
   simp at e;subst e;refine ⟨p',rfl,?_⟩;have:=h.1;rw [pT,beq_iff_eq,beq_iff_eq] at this;exact this
  | succ i=>obtain ⟨o',e',z⟩:=FD (i:=i) h.2 (by simpa using e);exact ⟨o',by simpa using e',z⟩
 | some _::_,none::_,_,_,h,_=>by cases h
 | some _::_,[],_,_,h,_=>by cases h
 | none::_,[],_,_,h,_=>by cases h
theorem Rel.weaken {Γ':Gm} (h:Rel K g H Γ m σ P) (e:Bb Γ' Γ=true):∃ g' P',Step g P H g' P' H/\Rel K g' H Γ' m σ P':=by
 have ok:=h.fpOk;obtain ⟨zd,F,h1,h4⟩:=h
 let D:Fp:=fun a=>∃ i,Γ'[i]?=some (some 0)/\F i a
 have okD:FpOk g H D:=fun a ⟨i,_,q⟩=>ok a ((h4 a).mpr ⟨i,q⟩)
 have st:Step g D H (g.add D) nop H:=Step.freeze okD
 let F':Nat->Fp:=fun i a=>(∃ o,Γ'[i]?=some (some (o+1)))/\F i a
 refine ⟨g.add D,fun a=>∃ i,F' i a,?_,st.zd zd,F',⟨by rw [EH e];exact h1.l1,by rw [EH e];exact h1.l2,fun i o ei=>?_,fun i ei a q=>?_,fun i j n a q z=>h1.dj i j n a q.2 z.2⟩,fun _=>Iff.rfl⟩
 ·refine (st.frame (R:=fun a=>∃ i,F' i a)).sub (fun a q=>?_) fun a q=>.inr q
  rcases q with ⟨i,_,q⟩ | ⟨i,q⟩
  ·exact (h4 a).mpr ⟨i,q⟩
  ·exact (h4 a).mpr ⟨i,q.2⟩
 ·obtain ⟨o',eo,z⟩:=FD e ei;obtain ⟨d,v,e1,e2,r⟩:=h1.rep i o' eo;refine ⟨d,v,e1,e2,?_⟩;cases o with
  | zero =>
   have eq:F' i=nop:=nop_iff fun a ⟨⟨o,w⟩,_⟩=>by rw [ei] at w;cases w
   rw [eq];exact r.freeze fun a q=>⟨i,ei,q⟩
  | succ o =>
   have eq:F' i=F i:=funext fun a=>propext ⟨fun w=>w.2,fun w=>⟨⟨o,ei⟩,w⟩⟩
   rcases z with z | z
   ·cases z
   ·subst z;rw [eq];refine r.held st okD fun a q ⟨j,ej,z⟩=>?_
    by_cases w:i=j
    ·subst w;rw [ei] at ej;cases ej
    ·exact h1.dj i j w a q z
 ·obtain ⟨⟨o,w⟩,_⟩:=q;exact ei _ w
end
theorem PE.imp {X:Cx} {e:Expr} {t t':TE} (h:PE X e t) (k:∀ σ H Q,t' σ H Q->t σ H Q):PE X e t':=fun pins s σ H Q I q=>h pins s σ H Q I (k σ H Q q)
theorem PT.imp {X:Cx} {e:Expr} {t t':TT} (h:PT X e t) (k:∀ σ H Q,t' σ H Q->t σ H Q):PT X e t':=fun pins s σ H Q I q=>h pins s σ H Q I (k σ H Q q)
theorem PW.imp {X:Cx} {e:Expr} {t t':TT} (h:PW X e t) (k:∀ σ H Q,t' σ H Q->t σ H Q):PW X e t':=fun wh pins s σ H Q I q=>h wh pins s σ H Q I (k σ H Q q)
theorem PS.imp {X:Cx} {e:Stmt} {t t':TS} (h:PS X e t) (k:∀ D σ H,t' D σ H->t D σ H):PS X e t':=fun pins s σ H D I q=>h pins s σ H D I (k D σ H q)
theorem DQ.imp {X:Cx} {e:List Stmt} {t t':TS} (h:DQ X e t) (k:∀ D σ H,t' D σ H->t D σ H):DQ X e t':=fun pins s σ H D I q=>h pins s σ H D I (k D σ H q)
noncomputable abbrev Ev (α:Type):=(R:Type)->M->(α->M->Option R)->Option R
def Bg (js:List Nat) (m m':M):Prop:=m'.length=m.length/\∀ i,i∉js->m'.at i=m.at i
theorem Bg.refl {js:List Nat} {m:M}:Bg js m m:=⟨rfl,fun _ _=>rfl⟩
theorem Bg.trans {js ks:List Nat} {m m1 m2:M} (a:Bg js m m1) (b:Bg ks m1 m2):Bg (js++ks) m m2:=⟨b.1.trans a.1,fun i h=>(b.2 i fun z=>h (mG _ z)).trans (a.2 i fun z=>h (mN _ z))⟩
theorem Bg.set {m:M} {i:Nat} {d:Dv}:Bg [i] m (m.set i d):=⟨ma ..,fun j h=>by
 have n:i≠j:=fun z=>h (by rw [z];exact oh _)
 unfold M.at;rw [mZ,mZ,mf n]⟩
theorem Bg.mono {js ks:List Nat} {m m1:M} (a:Bg js m m1) (h:∀ i∈js,i∈ks):Bg ks m m1:=⟨a.1,fun i n=>a.2 i fun z=>n (h i z)⟩
def tE (K:W.Frag) (Γ:Gm) (o:Nat) (Γ':Gm) (js:List Nat) (f:Ev Dv):TE:=fun σ H Q=>∃ g m P,Rel K g H Γ m σ P/\∃ (R:Type) (k:Dv->M->Option R) (r:R),f R m k=some r /\
 ∀ d m' g' P' Pv v H',k d m'=some r->Bg js m m'->Step g P H g' (fun a=>P' a\/Pv a) H'->Rep K g' H' o d v Pv->Rel K g' H' Γ' m' σ P'->Disj P' Pv->Q v H'
def tT (K:W.Frag) (Γ Γ':Gm) (js:List Nat) (f:Ev Bool):TT:=fun σ H Q=>∃ g m P,Rel K g H Γ m σ P/\∃ (R:Type) (k:Bool->M->Option R) (r:R),f R m k=some r /\
 ∀ b m' g' P' H',k b m'=some r->Bg js m m'->Step g P H g' P' H'->Rel K g' H' Γ' m' σ P'->Q b H'
inductive Ar:Type 1 where
 | rf (i:Nat)
 | ev (Γ Γ':Gm) (js:List Nat) (f:Ev Dv)
def IK (K:W.Frag):Ar->TE
 | .rf i=>HA i
 | .ev Γ Γ' js f=>tE K Γ 0 Γ' js f
def BY (K:W.Frag):List Ar->TA
 | []=>WN
 | a::as=>Yv (IK K a) (BY K as)
def AQ:List Ar->Ev (List Dv)
 | [],_,m,k=>k [] m
 | .rf i::as,R,m,k=>AQ as R m fun ds m1=>k (m1.at i::ds) m1
 | .ev _ _ _ f::as,R,m,k=>f R m fun d m1=>AQ as R m1 fun ds m2=>k (d::ds) m2
def AC:Gm->List Ar->Gm->List Nat->Prop
 | Γ,[],Γ',js=>Γ'=Γ/\js=[]
 | Γ,.rf i::as,Γ',js=>(∃ o,Γ[i]?=some (some o))/\(∃ o,o<=1/\Γ'[i]?=some (some o))/\AC Γ as Γ' js
 | Γ,.ev Γ1 Γ2 js1 _::as,Γ',js=>Γ1=Γ/\∃ js2,js=js1++js2/\AC Γ2 as Γ' js2
def AU (K:W.Frag) (g:G) (H:Hp) (Γ:Gm) (m:M) (σ:St):List Ar->List Dv->List V->Prop
 | [],ds,vs=>ds=[]/\vs=[]
 | .rf i::as,ds,vs=>∃ v ds' vs',ds=m.at i::ds'/\vs=v::vs'/\σ[i]?=some (some v)/\(∃ o,o<=1/\Γ[i]?=some (some o))/\AU K g H Γ m σ as ds' vs'
 | .ev _ _ _ _::as,ds,vs=>∃ d v ds' vs',ds=d::ds'/\vs=v::vs'/\Rep K g H 0 d v nop/\AU K g H Γ m σ as ds' vs'
theorem AM {K:W.Frag} {σ:St}:∀ (as:List Ar) {g:G} {Γ Γ':Gm} {js:List Nat} {m:M} {P:Fp} {H:Hp} {R:Type} {k:List Dv->M->Option R} {r:R} {Q:List V->Hp->Prop},Rel K g H Γ m σ P->AC Γ as Γ' js->AQ as R m k=some r ->
    (∀ ds m' g' P' vs H',k ds m'=some r->Bg js m m'->Step g P H g' P' H'->AU K g' H' Γ' m' σ as ds vs->Rel K g' H' Γ' m' σ P'->Q vs H')->BY K as σ H Q
  | [],g,Γ,Γ',js,m,P,H,R,k,r,Q,rl,c,e,q=>by
    unfold AC at c;obtain ⟨rfl,rfl⟩:=c;exact q [] m g P [] H e Bg.refl Step.refl (by unfold AU;exact ⟨rfl,rfl⟩) rl
  | .rf i::as,g,Γ,Γ',js,m,P,H,R,k,r,Q,rl,c,e,q=>by
    unfold AC at c;obtain ⟨⟨o,ho⟩,h2,c⟩:=c;obtain ⟨v,_,hv,_⟩:=rl.see ho;refine ⟨v,hv,AM as rl c e fun ds m' g' P' vs H' hk ag s ar r1=>q _ m' g' P' _ H' hk ag s ?_ r1⟩;unfold AU;exact ⟨v,ds,vs,rfl,rfl,hv,h2,ar⟩
  | .ev Γ1 Γ2 js1 f::as,g,Γ,Γ',js,m,P,H,R,k,r,Q,rl,c,e,q=>by
    unfold AC at c;obtain ⟨rfl,js2,rfl,c⟩:=c;refine ⟨g,m,P,rl,R,_,r,e,fun d m1 g1 P1 Pv v H1 hk ag s rv r1 n=>?_⟩;refine AM as r1 c hk fun ds m2 g2 P2 vs H2 hk2 ag2 s2 ar r2=>q _ m2 g2 P2 _ H2 hk2 (ag.trans ag2) ((s.less fun _ q=>.inl q).trans s2) ?_ r2
    unfold AU;exact ⟨d,v,ds,vs,rfl,rfl,rv.z.held s2 r1.fpOk fun _ z=>z.elim,ar⟩
def RA (K:W.Frag) (g:G) (H:Hp):List Dv->List V->Prop
 | [],vs=>vs=[]
 | d::ds,vs=>∃ v r o P,vs=v::r/\o<=1/\Rep K g H o d v P/\RA K g H ds r
def AY (K:W.Frag) (g:G) (H:Hp) (o:Nat) (d:Dv) (v:V) (H':Hp):Prop:=OO H H'/\∃ Pv,Rep K g H' o d v Pv/\∀ a,Pv a->H a=none
noncomputable abbrev Pr:=List Dv->Option Dv
abbrev Rl:=List V->Hp->VK->Prop
def AK (K:W.Frag) (p:Pr) (o:Nat) (R:Rl):Prop:=∀ g H ds vs d Q,Zd g H->RA K g H ds vs->p ds=some d->(∀ v H',AY K g H o d v H'->Q v H')->R vs H Q
def DG (p:Pr) (fa:Ev (List Dv)):Ev Dv:=fun R m k=>fa R m fun ds m'=>(p ds).bind fun d=>k d m'
theorem bind_some'.{u,v} {α:Type u} {β:Type v} {x:Option α} {f:α->Option β} {b:β} (h:x.bind f=some b):∃ a,x=some a/\f a=some b:=oH.mp h
section
variable {K:W.Frag} {g:G} {H H':Hp} {σ:St} {Γ Γ':Gm} {m:M} {P:Fp}
theorem AU.ra (r:Rel K g H Γ m σ P):∀ {as:List Ar} {ds:List Dv} {vs:List V},AU K g H Γ m σ as ds vs->RA K g H ds vs
 | [],ds,vs,h=>by unfold AU at h;obtain ⟨rfl,rfl⟩:=h;unfold RA;rfl
 | .ev _ _ _ f::as,ds,vs,h=>by
  unfold AU at h;obtain ⟨d,v,ds',vs',rfl,rfl,h1,h2⟩:=h;unfold RA;exact ⟨v,vs',0,nop,rfl,by decide,h1,AU.ra r h2⟩
 | .rf i::as,ds,vs,h=>by
  unfold AU at h;obtain ⟨v,ds',vs',rfl,rfl,h1,⟨o,hl,ho⟩,h3⟩:=h;obtain ⟨v',P1,e,k,_⟩:=r.see ho;rw [h1] at e;cases e;unfold RA;exact ⟨v,vs',o,P1,rfl,hl,k,AU.ra r h3⟩
theorem AY.go {g0:G} {P0:Fp} {H0:Hp} {o:Nat} {d:Dv} {v:V} (s:Step g0 P0 H0 g P H) (r:Rel K g H Γ m σ P) (n:AY K g H o d v H') :
    ∃ Pv,Step g0 P0 H0 g (fun a=>P a\/Pv a) H'/\Rep K g H' o d v Pv/\Rel K g H' Γ m σ P/\Disj P Pv:=by
  obtain ⟨sm,Pv,h1,h2⟩:=n;refine ⟨Pv,s.trans ⟨fun b o h _=>sm b o h,(Step.same (g:=g) (P:=nop) sm).dom,fun _ h=>h,fun _ h=>.inl h,⟨[],by simp⟩,fun a h=>h.elim .inl fun q=>.inr (h2 a q),(Step.same (g:=g) (P:=nop) sm).zd⟩,h1,r.same sm,fun a q z=>r.fpOk.new (h2 a z) q⟩
theorem Ba {p:Pr} {o:Nat} {as:List Ar} {js:List Nat} {R:Rl} (hp:AK K p o R) (c:AC Γ as Γ' js) {Q:VK} (h:tE K Γ o Γ' js (DG p (AQ as)) σ H Q):BY K as σ H fun vs H1=>R vs H1 Q:=by
 obtain ⟨g,m,P,r,R',k,res,e,q⟩:=h;refine AM as r c e fun ds m' g' P' vs H1 hk ag s ar r1=>?_
 obtain ⟨d,e1,e2⟩:=bind_some' hk;refine hp g' H1 ds vs d Q r1.zd (ar.ra r1) e1 fun v H2 nw=>?_
 obtain ⟨Pv,s2,h1,r2,n2⟩:=AY.go s r1 nw;exact q d m' g' P' Pv v H2 e2 ag s2 h1 r2 n2
end
def Jm (r:R2):Rl:=fun vs H Q=>match vs with | [x,y]=>r x y H Q | _=>False
def jD (r:V->Hp->VK->Prop):Rl:=fun vs H Q=>match vs with | [x]=>r x H Q | _=>False
def MI (d:Dv):Ev Dv:=fun _ m k=>k d m
def PM (i:Nat):Ev Dv:=fun _ m k=>k (m.at i) m
section
variable {X:Cx} {e:Expr} {Γ Γ':Gm} {js:List Nat} {o:Nat} {f:Ev Dv}
theorem eM {v:V} {d:Dv} (h:PE X e (tC v)) (hd:∀ g H,Rep X.K g H o d v nop):PE X e (tE X.K Γ o Γ [] (MI d)):=PE.imp h fun σ H Q q=>by
 obtain ⟨g,m,P,r,R,k,res,e,q⟩:=q;exact q d m g P nop v H e Bg.refl (Step.refl.less fun _ q=>q.elim id False.elim) (hd g H) r fun _ _ z=>z
theorem fV {i:Nat} (h:PE X e (HA i)) {o:Nat} (hi:Γ[i]?=some (some o)):PE X e (tE X.K Γ 0 (Γ.set i (some 0)) [] (PM i)):=PE.imp h fun σ H Q q=>by
 obtain ⟨g,m,P,r,R,k,res,e,q⟩:=q;obtain ⟨g',P',v,s,r',ev,rv⟩:=r.freeze hi;exact ⟨v,ev,q _ m g' P' nop v H e Bg.refl (s.less fun _ q=>q.elim id False.elim) rv r' fun _ _ z=>z⟩
theorem fX {i:Nat} (h:PE X e (HA i)) (hi:Γ[i]?=some (some o)):PE X e (tE X.K Γ o (Γ.set i none) [] (PM i)):=PE.imp h fun σ H Q q=>by
 obtain ⟨g,m,P,r,R,k,res,e,q⟩:=q;obtain ⟨v,P1,P2,ev,_,rv,r2,n,hP⟩:=r.take hi;exact ⟨v,ev,q _ m g P2 P1 v H e Bg.refl (Step.refl.less fun a q=>(hP a).mpr q.symm) rv r2 fun a q z=>n a z q⟩
theorem DL (h:PE X e (tE X.K Γ o Γ' js f)):PE X e (tE X.K Γ 0 Γ' js f):=PE.imp h fun σ H Q q=>by
 obtain ⟨g,m,P,r,R,k,res,e,q⟩:=q;refine ⟨g,m,P,r,R,k,res,e,fun d m' g' P' Pv v H' hk ag s rv r1 n=>?_⟩;have st:Step g' Pv H' (g'.add Pv) nop H':=Step.freeze rv.fpOk;refine q d m' (g'.add Pv) P' nop v H' hk ag (s.trans ?_) (rv.freeze fun _ q=>q) (r1.held st rv.fpOk n) fun _ _ z=>z
 exact (st.frame (R:=P')).sub (fun a q=>q.symm) fun a q=>q.elim .inr False.elim
end
def PN (t:List Dv->Dv) (fa:Ev (List Dv)):Ev Dv:=fun R m k=>fa R m fun ds m'=>if ds.length<=1000000 then k (t ds) m' else none
noncomputable def evd:List Ar->Bool
 | []=>true
 | .ev _ _ _ _::as=>evd as
 | .rf _::_=>false
theorem AU.reps {K:W.Frag} {g:G} {H:Hp} {Γ:Gm} {m:M} {σ:St}:∀ {as:List Ar} {ds:List Dv} {vs:List V},evd as=true->AU K g H Γ m σ as ds vs->Reps K g H 0 ds vs nop
 | [],ds,vs,_,h=>by unfold AU at h;obtain ⟨rfl,rfl⟩:=h;exact Reps.nil
 | .ev _ _ _ f::as,ds,vs,e,h=>by
  unfold AU at h;obtain ⟨d,v,ds',vs',rfl,rfl,h1,h2⟩:=h;exact (Reps.cons h1 (AU.reps (by unfold evd at e;exact e) h2) fun _ z=>z.elim).iff fun a=>⟨fun z=>z.elim,fun z=>z.elim id id⟩
 | .rf i::as,ds,vs,e,h=>by unfold evd at e;cases e
section
variable {X:Cx} {es:List Expr} {Γ Γ':Gm} {js:List Nat} {as:List Ar} {pos:Pos}
theorem fW {x1} (hq:PA X es (BY X.K as)) (c:AC Γ as Γ' js) (he:evd as=true):PE X (.Tuple es x1 pos) (tE X.K Γ 1 Γ' js (PN .tup (AQ as))):=PE.imp (bN hq) fun σ H Q q=>by
 obtain ⟨g,m,P,r,R,k,res,e,q⟩:=q;refine AM as r c e fun ds m' g' P' vs H1 hk ag s ar r1=>?_
 split at hk
 ·rename_i hz;have rp:=ar.reps he;refine ⟨by rw [<- rp.len];exact mQ hz (by decide),fun p hp=>?_⟩;have sm:=Da hp (.tup vs);have st:=Step.same (g:=g') (P:=nop) sm;refine q _ m' g' P' nop (.ref p) _ hk ag ((s.trans (Step.same sm)).less fun _ q=>q.elim id False.elim) ?_ (r1.same sm) fun _ _ z=>z
  unfold Rep;exact ⟨p,vs,rfl,BX,rp.held st FpOk.nop fun _ _ z=>z⟩
 ·cases hk
theorem AY.lst {K:W.Frag} {g:G} {H:Hp} {ds:List Dv} {vs:List V} {p:Addr} (zd:Zd g H) (rp:Reps K g H 0 ds vs nop) (hp:H p=none):AY K g H 1 (.lst ds) (.ref p) (upd H p (.lst vs)):=by
 have sm:=Da hp (.lst vs);refine ⟨sm,fun b=>b=p,?_,fun a q=>q▸hp⟩;unfold Rep;exact ⟨p,vs,nop,rfl,⟨BX,(fun z=>by cases z),fun _ z=>zd p z hp⟩,rp.held (Step.same (g:=g) (P:=nop) sm) FpOk.nop fun _ _ z=>z,fun z=>z,fun b=>⟨fun z=>.inl ⟨by decide,z⟩,fun z=>z.elim (fun z=>z.2) False.elim⟩⟩
theorem fY (hq:PA X es (BY X.K as)) (c:AC Γ as Γ' js) (he:evd as=true):PE X (.List es pos) (tE X.K Γ 1 Γ' js (PN .lst (AQ as))):=PE.imp (bS hq) fun σ H Q q=>by
 obtain ⟨g,m,P,r,R,k,res,e,q⟩:=q;refine AM as r c e fun ds m' g' P' vs H1 hk ag s ar r1=>?_
 split at hk
 ·rename_i hz;have rp:=ar.reps he;refine ⟨by rw [<- rp.len];exact mQ hz (by decide),fun p hp=>?_⟩;obtain ⟨Pv,s2,h1,r2,n2⟩:=AY.go s r1 (AY.lst r1.zd rp hp);exact q _ m' g' P' Pv (.ref p) _ hk ag s2 h1 r2 n2
 ·cases hk
end
def ER:List Nat->Type
 | []=>Unit
 | [_]=>Dv
 | _::i::J=>Dv×ER (i::J)
noncomputable def AZ:(J:List Nat)->M->ER J
 | [],_=>()
 | [i],m=>m.at i
 | i::j::J,m=>(m.at i,AZ (j::J) m)
noncomputable def Ae:(J:List Nat)->M->ER J->M
 | [],m,_=>m
 | [i],m,d=>m.set i d
 | i::j::J,m,t=>Ae (j::J) (m.set i t.1) t.2
theorem Sx {m:M} {i:Nat} {d:Dv} (h:i < m.length):M.at (m.set i d) i=d:=Ji (ml h)
theorem Hb:∀ (J:List Nat) (m:M) (t:ER J),(Ae J m t).length=m.length
 | [],_,_=>rfl
 | [i],m,d=>ma ..
 | i::j::J,m,t=>by unfold Ae;rw [Hb];exact ma ..
theorem AS:∀ (J:List Nat) (m:M) (t:ER J),Bg J m (Ae J m t)
 | [],_,_=>Bg.refl
 | [i],m,d=>Bg.set
 | i::j::J,m,t=>by
  unfold Ae;exact (Bg.set (i:=i)).trans (AS (j::J) _ _)
theorem Ot:∀ (J:List Nat) (m m':M) (i:Nat),i < m.length->i∈J->M.at (Ae J m (AZ J m')) i=m'.at i
 | [],_,_,_,_,h=>by cases h
 | [i],m,m',k,hk,h=>by
  have e:=mY.mp h;subst e;exact Sx hk
 | i::j::J,m,m',k,hk,h=>by
  show M.at (Ae (j::J) (m.set i (m'.at i)) (AZ (j::J) m')) k=_
  by_cases z:k∈j::J
  ·exact Ot (j::J) _ m' k (by rw [ma];exact hk) z
  ·rw [(AS (j::J) _ _).2 k z];rcases mL.mp h with e | e
   ·subst e;exact Sx hk
   ·exact (z e).elim
def BC (Γ:Gm) (js:List Nat):List Nat:=(List.range Γ.length).filter fun i=>js.contains i && (Γ.getD i none).isSome
theorem BQ {Γ:Gm} {js:List Nat} {i o:Nat} (h:Γ[i]?=some (some o)):i∈BC Γ js\/i∉js:=by
 by_cases e:i∈js
 ·refine .inl (nL.mpr ⟨ny.mpr (mB.mp h).1,?_⟩);rw [ly,mM,mZ,h];exact ⟨e,rfl⟩
 ·exact .inr e
theorem BB {Γ:Gm} {js:List Nat} {i:Nat} (h:i∈BC Γ js):i∈js:=by
 have:=(nL.mp h).2;rw [ly,mM] at this;exact this.1
theorem Rel.join {K:W.Frag} {g:G} {H:Hp} {Γ:Gm} {m m':M} {σ:St} {P:Fp} {J js:List Nat} (r:Rel K g H Γ m' σ P) (ag:Bg js m m') (hj:∀ i o,Γ[i]?=some (some o)->i∈J\/i∉js):Rel K g H Γ (Ae J m (AZ J m')) σ P:=by
 refine r.agree ((Hb ..).trans ag.1.symm) fun i o e=>?_
 have hi:i < m.length:=by rw [<- ag.1,r.len.1];exact (mB.mp e).1
 by_cases z:i∈J
 ·exact Ot J m m' i hi z
 ·rw [(AS J m _).2 i z];exact (ag.2 i ((hj i o e).elim (fun q=>(z q).elim) id)).symm
def Zj (p:List Dv->Option Bool) (fa:Ev (List Dv)):Ev Bool:=fun R m k=>fa R m fun ds m'=>(p ds).bind fun b=>k b m'
def Nl (f:Ev Bool):Ev Dv:=fun R m k=>f R m fun b m'=>k (.bl b) m'
def Zh (f:Ev Bool):Ev Bool:=fun R m k=>f R m fun b m'=>k (!b) m'
def Hy {α:Type} (c:Ev Bool) (f g:Ev α):Ev α:=fun R m k=>c R m fun b m1=>if b=true then f R m1 k else g R m1 k
def Jn (α:Type):List Nat->Type
 | []=>α
 | i::J=>α×ER (i::J)
def ZS {α:Type}:(J:List Nat)->α->M->Jn α J
 | [],a,_=>a
 | i::J,a,m=>(a,AZ (i::J) m)
def kn {α R:Type}:(J:List Nat)->M->Jn α J->(α->M->Option R)->Option R
 | [],m,a,k=>k a m
 | i::J,m,t,k=>k t.1 (Ae (i::J) m t.2)
theorem SF {α R:Type} (J:List Nat) (m m':M) (a:α) (k:α->M->Option R):kn J m (ZS J a m') k=k a (Ae J m (AZ J m')):=by cases J<;>rfl
def Nj {α:Type} (J:List Nat) (f:Ev α):Ev α:=fun R m k=>(f (Jn α J) m fun a m'=>some (ZS J a m')).bind fun t=>kn J m t k
section
variable {K:W.Frag} {Γ Γ' Γ2 Γ3:Gm} {js js2 js3 J:List Nat} {σ:St} {H:Hp} {o:Nat}
theorem Ge {f:Ev Dv} {Q:VK} (hj:∀ i o,Γ'[i]?=some (some o)->i∈J\/i∉js) (hs:∀ i∈J,i∈js) (h:tE K Γ o Γ' js (Nj J f) σ H Q):tE K Γ o Γ' js f σ H Q:=by
 obtain ⟨g,m,P,r,R,k,res,e,q⟩:=h;obtain ⟨t,e1,e2⟩:=bind_some' e;refine ⟨g,m,P,r,_,_,t,e1,fun d m' g' P' Pv v H' hk ag s rv r1 n=>?_⟩;cases hk;rw [SF] at e2;exact q d _ g' P' Pv v H' e2 ((AS J m _).mono hs) s rv (r1.join ag hj) n
theorem Oz {f:Ev Bool} {Q:Bool->Hp->Prop} (hj:∀ i o,Γ'[i]?=some (some o)->i∈J\/i∉js) (hs:∀ i∈J,i∈js) (h:tT K Γ Γ' js (Nj J f) σ H Q):tT K Γ Γ' js f σ H Q:=by
 obtain ⟨g,m,P,r,R,k,res,e,q⟩:=h;obtain ⟨t,e1,e2⟩:=bind_some' e;refine ⟨g,m,P,r,_,_,t,e1,fun d m' g' P' H' hk ag s r1=>?_⟩;cases hk;rw [SF] at e2;exact q d _ g' P' H' e2 ((AS J m _).mono hs) s (r1.join ag hj)
theorem OY {f:Ev Bool} {Q:Bool->Hp->Prop} (hw:Bb Γ2 Γ'=true) (hs:∀ i∈js,i∈js2) (h:tT K Γ Γ2 js2 f σ H Q):tT K Γ Γ' js f σ H Q:=by
 obtain ⟨g,m,P,r,R,k,res,e,q⟩:=h;refine ⟨g,m,P,r,R,k,res,e,fun b m' g' P' H' hk ag s r1=>?_⟩;obtain ⟨g2,P2,s2,r2⟩:=r1.weaken hw;exact q b m' g2 P2 H' hk (ag.mono hs) (s.trans s2) r2
theorem GZ {f:Ev Dv} {Q:VK} (hw:Bb Γ2 Γ'=true) (hs:∀ i∈js,i∈js2) (h:tE K Γ 0 Γ2 js2 f σ H Q):tE K Γ 0 Γ' js f σ H Q:=by
 obtain ⟨g,m,P,r,R,k,res,e,q⟩:=h;refine ⟨g,m,P,r,R,k,res,e,fun b m' g' P' Pv v H' hk ag s rv r1 n=>?_⟩;obtain ⟨g2,P2,s2,r2⟩:=r1.weaken hw;exact q b m' g2 P2 nop v H' hk (ag.mono hs) (((s.less fun _ q=>.inl q).trans s2).less fun _ q=>q.elim id False.elim) (rv.z.held s2 r1.fpOk fun _ z=>z.elim) r2 fun _ _ z=>z
theorem ir {p:List Dv->Option Bool} {as:List Ar} {r:Rl} (hp:AK K (fun ds=>(p ds).map .bl) 0 r) (c:AC Γ as Γ' js) {Q:Bool->Hp->Prop} (h:tT K Γ Γ' js (Zj p (AQ as)) σ H Q):BY K as σ H fun vs H1=>r vs H1 fun x H'=>∃ k,x=.bl k/\Q k H':=by
 obtain ⟨g,m,P,rl,R',k,res,e,q⟩:=h;refine AM as rl c e fun ds m' g' P' vs H1 hk ag s ar r1=>?_
 obtain ⟨b,e1,e2⟩:=bind_some' hk;refine hp g' H1 ds vs (.bl b) _ r1.zd (ar.ra r1) (by show (p ds).map _=_;rw [e1];rfl) fun v H2 nw=>?_
 obtain ⟨Pv,s2,h1,r2,n2⟩:=AY.go s r1 nw;refine ⟨b,by unfold Rep at h1;exact h1.1,q b m' g' P' H2 e2 ag (s2.less fun _ q=>.inl q) r2⟩
theorem rep_bl {g:G} {o:Nat} {b:Bool} {v:V} {P:Fp} (h:Rep K g H o (.bl b) v P):v=.bl b:=by unfold Rep at h;exact h.1
theorem CP {g:G} {b:Bool}:Rep K g H o (.bl b) (.bl b) nop:=by unfold Rep;exact ⟨rfl,fun _ z=>z⟩
theorem SQ {t u:Ev Bool} {Q:Bool->Hp->Prop} (h:tT K Γ Γ' (js++js2) (Hy t u (fun R m k=>k false m)) σ H Q) (hw:Bb Γ' Γ2=true):fK (tT K Γ Γ2 js t) (tT K Γ2 Γ' js2 u) σ H Q:=by
 obtain ⟨g,m,P,r,R,k,res,e,q⟩:=h;refine ⟨g,m,P,r,R,_,res,e,fun b m1 g1 P1 H1 hk ag s r1=>?_⟩;cases b with
 | true =>
  rw [if_pos rfl] at hk ⊢;exact ⟨g1,m1,P1,r1,R,k,res,hk,fun c m2 g2 P2 H2 hk2 ag2 s2 r2=>q c m2 g2 P2 H2 hk2 (ag.trans ag2) (s.trans s2) r2⟩
 | false =>
  rw [if_neg mT] at hk ⊢;obtain ⟨g2,P2,s2,r2⟩:=r1.weaken hw;exact q false m1 g2 P2 H1 hk (ag.mono fun _ z=>mN _ z) (s.trans s2) r2
theorem ee {t u:Ev Bool} {Q:Bool->Hp->Prop} (h:tT K Γ Γ' (js++js2) (Hy t (fun R m k=>k true m) u) σ H Q) (hw:Bb Γ' Γ2=true):ku (tT K Γ Γ2 js t) (tT K Γ2 Γ' js2 u) σ H Q:=by
 obtain ⟨g,m,P,r,R,k,res,e,q⟩:=h;refine ⟨g,m,P,r,R,_,res,e,fun b m1 g1 P1 H1 hk ag s r1=>?_⟩;cases b with
 | false =>
  rw [if_neg mT] at hk ⊢;exact ⟨g1,m1,P1,r1,R,k,res,hk,fun c m2 g2 P2 H2 hk2 ag2 s2 r2=>q c m2 g2 P2 H2 hk2 (ag.trans ag2) (s.trans s2) r2⟩
 | true =>
  rw [if_pos rfl] at hk ⊢;obtain ⟨g2,P2,s2,r2⟩:=r1.weaken hw;exact q true m1 g2 P2 H1 hk (ag.mono fun _ z=>mN _ z) (s.trans s2) r2
theorem aH {t:Ev Bool} {Q:Bool->Hp->Prop} (h:tT K Γ Γ' js (Zh t) σ H Q):fB (tT K Γ Γ' js t) σ H Q:=by
 obtain ⟨g,m,P,r,R,k,res,e,q⟩:=h;exact ⟨g,m,P,r,R,_,res,e,fun b m1 g1 P1 H1 hk ag s r1=>q (!b) m1 g1 P1 H1 hk ag s r1⟩
theorem fF {c:Ev Bool} {fa fb:Ev Dv} {Q:VK} (h:tE K Γ 0 Γ' (js++(js2++js3)) (Hy c fa fb) σ H Q):kz (tT K Γ Γ2 js c) (tE K Γ2 0 Γ' js2 fa) (tE K Γ2 0 Γ' js3 fb) σ H Q:=by
 obtain ⟨g,m,P,r,R,k,res,e,q⟩:=h;refine ⟨g,m,P,r,R,_,res,e,fun b m1 g1 P1 H1 hk ag s r1=>?_⟩;cases b with
 | true =>
  rw [if_pos rfl] at hk ⊢;exact ⟨g1,m1,P1,r1,R,k,res,hk,fun d m2 g2 P2 Pv v H2 hk2 ag2 s2 rv r2 n=>q d m2 g2 P2 Pv v H2 hk2 ((ag.trans ag2).mono fun i z=>(mU.mp z).elim (fun z=>mN _ z) fun z=>mG _ (mN _ z)) (s.trans s2) rv r2 n⟩
 | false =>
  rw [if_neg mT] at hk ⊢;exact ⟨g1,m1,P1,r1,R,k,res,hk,fun d m2 g2 P2 Pv v H2 hk2 ag2 s2 rv r2 n=>q d m2 g2 P2 Pv v H2 hk2 ((ag.trans ag2).mono fun i z=>(mU.mp z).elim (fun z=>mN _ z) fun z=>mG _ (mG _ z)) (s.trans s2) rv r2 n⟩
end
structure Kt (R:Type) where
 nx:M->Option R
 rt:Dv->M->Option R
 bk:M->Option R
 ct:M->Option R
noncomputable abbrev Es:=(R:Type)->M->Kt R->Option R
def Io (io:List Nat) (σ σ':St):Prop:=∀ i∈io,σ'[i]?=σ[i]?
theorem Io.refl {io:List Nat} {σ:St}:Io io σ σ:=fun _ _=>rfl
theorem Io.trans {io:List Nat} {σ σ1 σ2:St} (a:Io io σ σ1) (b:Io io σ1 σ2):Io io σ σ2:=fun i h=>(b i h).trans (a i h)
theorem Io.set {io:List Nat} {σ:St} {i:Nat} {x:Option V} (h:i∉io):Io io σ (σ.set i x):=fun j hj=>mf fun z=>h (by rw [z];exact hj)
structure Fr where
 io:List Nat
 Γr:Gm
 ro:Nat
structure AcS (K:W.Frag) (F:Fr) (Γl:Option Gm) (g:G) (P:Fp) (H:Hp) (σ:St) (D:Ends) (Γn:Option Gm) (js:List Nat) (m:M) {R:Type} (k:Kt R) (r:R):Prop where
 nx:∀ Γ' m' g' P' σ' H',Γn=some Γ'->k.nx m'=some r->Bg js m m'->Step g P H g' P' H'->Io F.io σ σ'->Rel K g' H' Γ' m' σ' P'->D.nx σ' H'
 rt:∀ d m' g' P' Pv σ' v H',k.rt d m'=some r->Bg js m m'->Step g P H g' (fun a=>P' a\/Pv a) H'->Io F.io σ σ'->Rep K g' H' F.ro d v Pv->Rel K g' H' F.Γr m' σ' P'->Disj P' Pv->D.rt v H'
 bk:∀ Γ' m' g' P' σ' H',Γl=some Γ'->k.bk m'=some r->Bg js m m'->Step g P H g' P' H'->Io F.io σ σ'->Rel K g' H' Γ' m' σ' P'->D.bk σ' H'
 ct:∀ Γ' m' g' P' σ' H',Γl=some Γ'->k.ct m'=some r->Bg js m m'->Step g P H g' P' H'->Io F.io σ σ'->Rel K g' H' Γ' m' σ' P'->D.ct σ' H'
def tS (K:W.Frag) (F:Fr) (Γl:Option Gm) (Γ:Gm) (Γn:Option Gm) (js:List Nat) (f:Es):TS:=fun D σ H=>∃ g m P,Rel K g H Γ m σ P/\∃ (R:Type) (k:Kt R) (r:R),f R m k=some r/\AcS K F Γl g P H σ D Γn js m k r
theorem AcS.later {K:W.Frag} {F:Fr} {Γl Γn:Option Gm} {g g1:G} {P P1:Fp} {H H1:Hp} {σ σ1:St} {D:Ends} {js ks:List Nat} {m m1:M} {R:Type} {k:Kt R} {r:R} (s:Step g P H g1 P1 H1) (i:Io F.io σ σ1) (ag:Bg js m m1) (h:AcS K F Γl g P H σ D Γn (js++ks) m k r):AcS K F Γl g1 P1 H1 σ1 D Γn ks m1 k r:=
  ⟨fun Γ' m' g' P' σ' H' e hk a s' i' r'=>h.nx Γ' m' g' P' σ' H' e hk (ag.trans a) (s.trans s') (i.trans i') r',
   fun d m' g' P' Pv σ' v H' hk a s' i' rv r' n=>h.rt d m' g' P' Pv σ' v H' hk (ag.trans a) (s.trans s') (i.trans i') rv r' n,
   fun Γ' m' g' P' σ' H' e hk a s' i' r'=>h.bk Γ' m' g' P' σ' H' e hk (ag.trans a) (s.trans s') (i.trans i') r',
   fun Γ' m' g' P' σ' H' e hk a s' i' r'=>h.ct Γ' m' g' P' σ' H' e hk (ag.trans a) (s.trans s') (i.trans i') r'⟩
def Hx:Es:=fun _ m k=>k.nx m
def iH (f g:Es):Es:=fun R m k=>f R m { k with nx:=fun m1=>g R m1 k }
def MJ (c:Ev Bool) (f g:Es):Es:=fun R m k=>c R m fun b m1=>if b=true then f R m1 k else g R m1 k
def Zf (f:Ev Dv):Es:=fun R m k=>f R m k.rt
def Uj (f:Ev Dv):Es:=fun R m k=>f R m fun _ m1=>k.nx m1
section
variable {X:Cx} {F:Fr} {Γl Γn Γn2:Option Gm} {Γ Γ' Γ2:Gm} {js js2 js3 J:List Nat} {s:Stmt} {ss rest a b:List Stmt} {e c:Expr} {pos:Pos} {f f2:Es} {fe:Ev Dv} {t:Ev Bool} {o:Nat}
theorem HF {K:W.Frag} {D:Ends} {σ:St} {H:Hp} (h:tS K F Γl Γ (some Γ) [] Hx D σ H):D.nx σ H:=by
 obtain ⟨g,m,P,r,R,k,res,e,q⟩:=h;exact q.nx Γ m g P σ H rfl e Bg.refl Step.refl Io.refl r
theorem fS:DQ X [] (tS X.K F Γl Γ (some Γ) [] Hx):=DQ.imp Wn fun D σ H h=>HF h
theorem aY:PS X (.Pass pos) (tS X.K F Γl Γ (some Γ) [] Hx):=PS.imp Wo fun D σ H h=>HF h
theorem fT {x j pos'}:PS X (.Expr (.Constant (.str x) j pos) pos') (tS X.K F Γl Γ (some Γ) [] Hx):=PS.imp bB fun D σ H h=>HF h
theorem ah (h1:PS X s (tS X.K F Γl Γ (some Γ2) js f)) (h2:DQ X rest (tS X.K F Γl Γ2 Γn js2 f2)):DQ X (s::rest) (tS X.K F Γl Γ Γn (js++js2) (iH f f2)):=DQ.imp (Lh h1 h2) fun D σ H h=>by
 obtain ⟨g,m,P,r,R,k,res,e,q⟩:=h;refine ⟨g,m,P,r,R,_,res,e,⟨fun Γ' m' g' P' σ' H' e hk ag s' i' r'=>?_,fun d m' g' P' Pv σ' v H' hk ag=>q.rt d m' g' P' Pv σ' v H' hk (ag.mono fun _ z=>mN _ z),fun Γ' m' g' P' σ' H' e hk ag=>q.bk Γ' m' g' P' σ' H' e hk (ag.mono fun _ z=>mN _ z),fun Γ' m' g' P' σ' H' e hk ag=>q.ct Γ' m' g' P' σ' H' e hk (ag.mono fun _ z=>mN _ z)⟩⟩;cases e;exact ⟨g',m',P',r',R,k,res,hk,q.later s' i' ag⟩
theorem aZ (h1:PS X s (tS X.K F Γl Γ none js f)):DQ X (s::rest) (tS X.K F Γl Γ none js f):=DQ.imp (Lh h1 (u:=fun _ _ _=>False) fun _ _ _ _ _ _ z=>z.elim) fun D σ H h=>by
 obtain ⟨g,m,P,r,R,k,res,e,q⟩:=h;exact ⟨g,m,P,r,R,k,res,e,(fun _ _ _ _ _ _ e=>by cases e),q.rt,q.bk,q.ct⟩
theorem fR (h1:PS X s (tS X.K F Γl Γ Γn js f)):DQ X [s] (tS X.K F Γl Γ Γn js f):=Wm h1
theorem fP (hq:PE X e (tE X.K Γ F.ro F.Γr js fe)):PS X (.Return (some e) pos) (tS X.K F Γl Γ none js (Zf fe)):=PS.imp (az hq) fun D σ H h=>by
 obtain ⟨g,m,P,r,R,k,res,e,q⟩:=h;exact ⟨g,m,P,r,R,_,res,e,fun d m' g' P' Pv v H' hk ag s rv r1 n=>q.rt d m' g' P' Pv σ v H' hk ag s Io.refl rv r1 n⟩
theorem af (hq:PE X e (tE X.K Γ o Γ' js fe)) (hs:swapsWith e none pos.line X.env=pure false):PS X (.Expr e pos) (tS X.K F Γl Γ (some Γ') js (Uj fe)):=PS.imp (Wp hq hs) fun D σ H h=>by
 obtain ⟨g,m,P,r,R,k,res,e,q⟩:=h;exact ⟨g,m,P,r,R,_,res,e,fun d m' g' P' Pv v H' hk ag s rv r1 n=>q.nx Γ' m' g' P' σ H' rfl hk ag (s.less fun _ q=>.inl q) Io.refl r1⟩
theorem jo (hc:PT X c (tT X.K Γ Γ2 js t)) (ha:DQ X a (tS X.K F Γl Γ2 Γn js2 f)) (hb:DQ X b (tS X.K F Γl Γ2 Γn js3 f2)):PS X (.If c a b pos) (tS X.K F Γl Γ Γn (js++(js2++js3)) (MJ t f f2)):=PS.imp (gK hc ha hb) fun D σ H h=>by
 obtain ⟨g,m,P,r,R,k,res,e,q⟩:=h;refine ⟨g,m,P,r,R,_,res,e,fun b m1 g1 P1 H1 hk ag s r1=>?_⟩;have q2:=q.later s Io.refl ag;have mo:∀ (ks:List Nat),(∀ i∈ks,i∈js2++js3)->AcS X.K F Γl g1 P1 H1 σ D Γn ks m1 k res:=fun ks hks =>
  ⟨fun Γ' m' g' P' σ' H' e hk a=>q2.nx Γ' m' g' P' σ' H' e hk (a.mono hks),fun d m' g' P' Pv σ' v H' hk a=>q2.rt d m' g' P' Pv σ' v H' hk (a.mono hks),fun Γ' m' g' P' σ' H' e hk a=>q2.bk Γ' m' g' P' σ' H' e hk (a.mono hks),fun Γ' m' g' P' σ' H' e hk a=>q2.ct Γ' m' g' P' σ' H' e hk (a.mono hks)⟩
 cases b with
 | true=>rw [if_pos rfl] at hk;show (if true=true then _ else _);rw [if_pos rfl];exact ⟨g1,m1,P1,r1,R,k,res,hk,mo js2 fun _ z=>mN _ z⟩
 | false=>rw [if_neg mT] at hk;show (if false=true then _ else _);rw [if_neg mT];exact ⟨g1,m1,P1,r1,R,k,res,hk,mo js3 fun _ z=>mG _ z⟩
def KL:Option Gm->Option Gm->Bool
 | some a,some b=>Bb a b
 | _,none=>true
 | none,some _=>false
theorem Sy (h:DQ X ss (tS X.K F Γl Γ Γn js f)) (hw:KL Γn2 Γn=true):DQ X ss (tS X.K F Γl Γ Γn2 js f):=DQ.imp h fun D σ H h=>by
 obtain ⟨g,m,P,r,R,k,res,e,q⟩:=h;refine ⟨g,m,P,r,R,k,res,e,fun Γ' m' g' P' σ' H' e hk ag s' i' r'=>?_,q.rt,q.bk,q.ct⟩;subst e;cases Γn2 with
 | none=>cases hw
 | some Γ3 =>
  obtain ⟨g2,P2,s2,r2⟩:=r'.weaken (by unfold KL at hw;exact hw);exact q.nx Γ3 m' g2 P2 σ' H' rfl hk ag (s'.trans s2) i' r2
def iK (J:List Nat) (f:Es):Es:=fun R m k=>(f (ER J) m ⟨fun m'=>some (AZ J m'),fun _ _=>none,fun _=>none,fun _=>none⟩).bind fun t=>k.nx (Ae J m t)
theorem cL {K:W.Frag} {D:Ends} {σ:St} {H:Hp} (hj:∀ i o,Γ'[i]?=some (some o)->i∈J\/i∉js) (hs:∀ i∈J,i∈js) (h:tS K F Γl Γ (some Γ') js (iK J f) D σ H):tS K F Γl Γ (some Γ') js f D σ H:=by
 obtain ⟨g,m,P,r,R,k,res,e,q⟩:=h;obtain ⟨t,e1,e2⟩:=bind_some' e;refine ⟨g,m,P,r,_,_,t,e1,⟨fun Γ2 m' g' P' σ' H' e hk ag s' i' r'=>?_,(fun _ _ _ _ _ _ _ _ hk=>by cases hk),(fun _ _ _ _ _ _ _ hk=>by cases hk),fun _ _ _ _ _ _ _ hk=>by cases hk⟩⟩;cases e;cases hk;exact q.nx Γ' _ g' P' σ' H' rfl e2 ((AS J m _).mono hs) s' i' (r'.join ag hj)
end
noncomputable abbrev Tg:=(R:Type)->Dv->M->(M->Option R)->Option R
def Ag (js:List Nat) (σ σ':St):Prop:=σ'.length=σ.length/\∀ i,i∉js->σ'[i]?=σ[i]?
theorem Ag.io {js io:List Nat} {σ σ':St} (h:Ag js σ σ') (d:∀ i∈io,i∉js):Io io σ σ':=fun i hi=>h.2 i (d i hi)
theorem Ag.trans {js ks:List Nat} {σ σ1 σ2:St} (a:Ag js σ σ1) (b:Ag ks σ1 σ2):Ag (js++ks) σ σ2:=⟨b.1.trans a.1,fun i h=>(b.2 i fun z=>h (mG _ z)).trans (a.2 i fun z=>h (mN _ z))⟩
theorem Ag.set {σ:St} {i:Nat} {x:Option V}:Ag [i] σ (σ.set i x):=⟨ma ..,fun j h=>mf fun z=>h (by rw [z];exact oh _)⟩
def OK (K:W.Frag) (Γ Γ':Gm) (js:List Nat) (tg:TG) (f:Tg):Prop:=∀ (g:G) (m:M) (P:Fp) (d:Dv) (v:V) (σ:St) (H:Hp) (R:Type) (k:M->Option R) (r:R) (Q:St->Hp->Prop),Rel K g H Γ m σ P->Rep K g H 0 d v nop->f R d m k=some r ->
 (∀ m' P' σ',k m'=some r->Bg js m m'->(∀ a,P' a->P a)->Ag js σ σ'->Rel K g H Γ' m' σ' P'->Q σ' H)->tg v σ H Q
def eZ (i:Nat):Tg:=fun _ d m k=>k (m.set i d)
theorem WL {K:W.Frag} {Γ:Gm} {i:Nat} (hi:i < Γ.length):OK K Γ (Γ.set i (some 0)) [i] (Dk i) (eZ i):=fun g m P d v σ H R k r Q rl rv e q=>by
 obtain ⟨P2,r2,s⟩:=rl.setNew hi rv fun _ z=>z.elim
 exact q _ P2 _ e Bg.set (fun a z=>(s a z).elim id False.elim) Ag.set r2
noncomputable def eL:(J:List Nat)->List Dv->Option (ER J)
 | [],[]=>some ()
 | [_],[d]=>some d
 | _::j::J,d::ds=>(eL (j::J) ds).bind fun t=>some (d,t)
 | _,_=>none
def Pu (J:List Nat) (d:Dv):Option (ER J):=match d with
 | .tup ds=>eL J ds
 | .lst ds=>eL J ds
 | _=>none
def kq (J:List Nat):Tg:=fun _ d m k=>(Pu J d).bind fun t=>k (Ae J m t)
def Eb:List Nat->OM
 | []=>cX
 | i::J=>UW (Dk i) (Eb J)
def aX (Γ:Gm) (J:List Nat) (x:Option Nat):Gm:=J.foldl (fun Γ i=>Γ.set i x) Γ
theorem JG {K:W.Frag}:∀ (J:List Nat) {Γ:Gm} {g:G} {m:M} {P:Fp} {ds:List Dv} {vs:List V} {σ:St} {H:Hp} {t:ER J} {Q:St->Hp->Prop},(∀ i∈J,i < Γ.length)->Rel K g H Γ m σ P->Reps K g H 0 ds vs nop->eL J ds=some t ->
    (∀ P' σ',(∀ a,P' a->P a)->Ag J σ σ'->Rel K g H (aX Γ J (some 0)) (Ae J m t) σ' P'->Q σ' H)->ds.length=J.length/\Eb J vs σ H Q
  | [],Γ,g,m,P,ds,vs,σ,H,t,Q,hJ,r,rv,e,q=>by
    cases ds with
    | nil =>
      unfold Reps at rv;exact ⟨rfl,rv.1,q P σ (fun _ z=>z) ⟨rfl,fun _ _=>rfl⟩ r⟩
    | cons d ds=>cases e
  | [i],Γ,g,m,P,ds,vs,σ,H,t,Q,hJ,r,rv,e,q=>by
    match ds,e with
    | [d],e =>
      cases e;unfold Reps at rv;obtain ⟨v,vr,P1,P2,rfl,h1,h2,_,h4⟩:=rv;unfold Reps at h2;obtain ⟨P3,r3,s⟩:=r.setNew (hJ i mC) h1.z fun _ z=>z.elim
      exact ⟨rfl,v,vr,rfl,h2.1,q P3 _ (fun a z=>(s a z).elim id False.elim) Ag.set r3⟩
    | [],e=>cases e
    | _::_::_,e=>cases e
  | i::j::J,Γ,g,m,P,ds,vs,σ,H,t,Q,hJ,r,rv,e,q=>by
    match ds,e with
    | [],e=>cases e
    | d::ds,e =>
      obtain ⟨t',e1,e2⟩:=bind_some' (show (eL (j::J) ds).bind (fun t=>some (d,t))=some t from e);cases e2;unfold Reps at rv;obtain ⟨v,vr,P1,P2,rfl,h1,h2,_,h4⟩:=rv;obtain ⟨P3,r3,s⟩:=r.setNew (hJ i mC) h1.z fun _ z=>z.elim
      have s':∀ a,P3 a->P a:=fun a z=>(s a z).elim id False.elim
      have:=JG (j::J) (Q:=Q) (fun k hk=>by rw [ma];exact hJ k (mE _ hk)) r3 h2.z e1 fun P' σ' sp ag r'=>q P' σ' (fun a z=>s' a (sp a z)) (Ag.set.trans ag) r'
      exact ⟨by simp [this.1],v,vr,rfl,this.2⟩
abbrev hZ (K:W.Frag) (n:Nat) (t:OM):TG:=fun v σ H Q=>cW K n t v σ H Q\/cY n t v σ H Q
theorem SM {K:W.Frag} {Γ:Gm} {J:List Nat} (hJ:∀ i∈J,i < Γ.length):OK K Γ (aX Γ J (some 0)) J (hZ K J.length (Eb J)) (kq J):=fun g m P d v σ H R k r Q rl rv e q=>by
 obtain ⟨t,e1,e2⟩:=bind_some' e;have go:∀ {ds vs},Reps K g H 0 ds vs nop->eL J ds=some t->ds.length=J.length/\Eb J vs σ H Q:=fun h1 h2=>JG J hJ rl h1 h2 fun P' σ' sp ag r'=>q _ P' σ' e2 (AS J m t) sp ag r'
 cases d with
 | tup ds =>
  unfold Rep at rv;obtain ⟨a,vs,rfl,h1,h2⟩:=rv;obtain ⟨l,z⟩:=go h2 e1;exact .inl ⟨a,vs,rfl,.inl (.inl h1),by rw [<- h2.len];exact l,z⟩
 | lst ds =>
  unfold Rep at rv;obtain ⟨a,vs,P',rfl,h1,h2,_⟩:=rv;obtain ⟨l,z⟩:=go h2.z e1;exact .inr ⟨a,vs,rfl,h1.1,by rw [<- h2.len];exact l,z⟩
 | _=>cases e1
theorem PG.or {X:Cx} {e:Expr} {t u:TG} (h:PG X e t) (k:PG X e u):PG X e fun v σ H Q=>t v σ H Q\/u v σ H Q:=fun pins s σ H v w Q I r q=>q.elim (h pins s σ H v w Q I r) (k pins s σ H v w Q I r)
theorem cV {js:List Nat} {t u:TG} (h:Rv js t) (k:Rv js u):Rv js fun v σ H Q=>t v σ H Q\/u v σ H Q:=fun x σ H Q q=>q.elim (fun q=>.inl (h x σ H Q q)) fun q=>.inr (k x σ H Q q)
theorem Ea {js:List Nat}:∀ (J:List Nat),(∀ i∈J,i∈js)->Ro js (Eb J)
 | [],_=>UU
 | i::J,h=>Qt (h i mC) (Ea J fun k hk=>h k (mE _ hk))
def JT (f:Ev Dv) (tg:Tg):Es:=fun R m k=>f R m fun d m1=>tg R d m1 k.nx
section
variable {X:Cx} {F:Fr} {Γl:Option Gm} {Γ Γ' Γ2:Gm} {js js2:List Nat} {e tg:Expr} {pos pos':Pos} {fe:Ev Dv} {g:TG} {ft:Tg} {i o:Nat} {x:Str}
theorem Yi {K:W.Frag} (ht:OK K Γ2 Γ' js2 g ft) (hio:∀ i∈F.io,i∉js2) {D:Ends} {σ:St} {H:Hp} (h:tS K F Γl Γ (some Γ') (js++js2) (JT fe ft) D σ H):Mt (tE K Γ 0 Γ2 js fe) g D σ H:=by
 obtain ⟨g0,m,P,r,R,k,res,e,q⟩:=h;refine ⟨g0,m,P,r,R,_,res,e,fun d m1 g' P' Pv v H' hk ag s rv r1 n=>ht g' m1 P' d v σ H' R k.nx res _ r1 rv.z hk fun m' P2 σ2 hk2 ag2 s2 i r2=>?_⟩;exact q.nx Γ' m' g' P2 σ2 H' rfl hk2 (ag.trans ag2) (s.less fun a z=>.inl (s2 a z)) (i.io hio) r2
theorem Og {K:W.Frag} (hi:i < Γ2.length) (hio:i∉F.io) {D:Ends} {σ:St} {H:Hp} (h:tS K F Γl Γ (some (Γ2.set i (some o))) (js++[i]) (JT fe (eZ i)) D σ H):Mt (tE K Γ o Γ2 js fe) (Dk i) D σ H:=by
 obtain ⟨g0,m,P,r,R,k,res,e,q⟩:=h;refine ⟨g0,m,P,r,R,_,res,e,fun d m1 g' P' Pv v H' hk ag s rv r1 n=>?_⟩;obtain ⟨P2,r2,s2⟩:=r1.setNew hi rv fun a q z=>n a z q
 exact q.nx _ _ g' P2 _ H' rfl hk (ag.trans Bg.set) (s.less fun a z=>s2 a z) (Io.set hio) r2
theorem fN (hN:X.N.Nodup) (hix:X.N[i]?=some x) (hx:Loc X.env.scope x) (hio:i∉F.io) (hi:i < Γ2.length) (he:PE X e (tE X.K Γ o Γ2 js fe)) (hs:swapsWith e (some (.Name x pos')) pos.line X.env=pure false) (hf:X.fn x=true\/X.env.scope.names.lookup x=some .local) :
    PS X (.Assign [.Name x pos'] e pos) (tS X.K F Γl Γ (some (Γ2.set i (some o))) (js++[i]) (JT fe (eZ i))):=PS.imp (ay hN hix hx he hs hf) fun _ _ _ h=>Og hi hio h
theorem fU (he:PE X e (tE X.K Γ 0 Γ2 js fe)) (hg:PG X tg g) (ht:OK X.K Γ2 Γ' js2 g ft) (hio:∀ i∈F.io,i∉js2) (hs:swapsWithSole [tg] e pos.line X.env=pure false) (hw:swappedStores [tg] e X.env=pure none)
    (h1:(assignEach [tg] X.env).map (·.2)=[assign tg X.env]):PS X (.Assign [tg] e pos) (tS X.K F Γl Γ (some Γ') (js++js2) (JT fe ft)):=PS.imp (TV he hg hs hw h1) fun _ _ _ h=>Yi ht hio h
end
def IH (g:G) (H:Hp) (g2:G) (H2:Hp):Prop:=∃ P P',Step g P H g2 P' H2/\FpOk g H P
def Yl (K:W.Frag) (J:It) (ds:List Dv) (g:G) (H:Hp):Prop:=∀ g2 H2,IH g H g2 H2 ->
 (∀ i d,ds[i]?=some d->J.go i H2/\∀ x H3,J.yld i H2 x H3->AY K g2 H2 0 d x H3)/\∀ i,ds.length<=i->J.stop i H2
def tI (K:W.Frag) (Γ Γ':Gm) (js:List Nat) (f:Ev (List Dv)):TI:=fun σ H Q=>∃ g m P,Rel K g H Γ m σ P/\∃ (R:Type) (k:List Dv->M->Option R) (r:R),f R m k=some r /\
 ∀ ds m' g' P' H' J,k ds m'=some r->Bg js m m'->Step g P H g' P' H'->Rel K g' H' Γ' m' σ P'->Yl K J ds g' H'->Q J H'
theorem PI.imp {X:Cx} {tg e:Expr} {t t':TI} (h:PI X tg e t) (k:∀ σ H R,t' σ H R->t σ H R):PI X tg e t':=fun pins s σ H R I q=>h pins s σ H R I (k σ H R q)
theorem AY.old {K:W.Frag} {g:G} {H:Hp} {o:Nat} {d:Dv} {v:V} (h:Rep K g H o d v nop):AY K g H o d v H:=⟨fun _ _ q=>q,nop,h,fun _ z=>z.elim⟩
theorem IH.rep {K:W.Frag} {g g2:G} {H H2:Hp} {d:Dv} {v:V} (s:IH g H g2 H2) (h:Rep K g H 0 d v nop):Rep K g2 H2 0 d v nop:=by
 obtain ⟨P,P',st,ok⟩:=s;exact h.held st ok fun _ z=>z.elim
section
variable {τ γ ρ:Type}
inductive Lp (τ γ ρ:Type) where
 | go (c:γ) | bk (c:γ) | rt (d:τ) (r:ρ)
inductive Rs (τ γ ρ:Type) where
 | go (c:γ) | rt (d:τ) (r:ρ)
noncomputable def Rs.el {δ:Type} (x:Rs τ γ ρ) (f:γ->δ) (h:τ->ρ->δ):δ:=match x with | .go c=>f c | .rt d r=>h d r
noncomputable def Az (g:Dv->γ->Option γ):List Dv->γ->Option γ
 | [],c=>some c
 | x::xs,c=>(g x c).bind fun c1=>Az g xs c1
noncomputable def Ec (g:Dv->γ->Option (Lp τ γ ρ)):List Dv->γ->Option (Rs τ γ ρ)
 | [],c=>some (.go c)
 | x::xs,c=>(g x c).bind fun l=>match l with
  | .go c1=>Ec g xs c1
  | .bk c1=>some (.go c1)
  | .rt d r=>some (.rt d r)
noncomputable def OX (t:γ->Option Bool) (g:γ->Option γ):Nat->γ->Option γ
 | 0,_=>none
 | n+1,c=>(t c).bind fun b=>if b=true then (g c).bind (OX t g n) else some c
noncomputable def jR (t:γ->Option Bool) (g:γ->Option (Lp τ γ ρ)):Nat->γ->Option (Rs τ γ ρ)
 | 0,_=>none
 | n+1,c=>(t c).bind fun b=>if b=true then (g c).bind (fun l=>match l with
  | .go c1=>jR t g n c1
  | .bk c1=>some (.go c1)
  | .rt d r=>some (.rt d r)) else some (.go c)
end
def kC (J:List Nat):Kt (ER J):=⟨fun m'=>some (AZ J m'),fun _ _=>none,fun _=>none,fun m'=>some (AZ J m')⟩
def kE (J Jr:List Nat):Kt (Lp Dv (ER J) (ER Jr)):=⟨fun m'=>some (.go (AZ J m')),fun d m'=>some (.rt d (AZ Jr m')),fun m'=>some (.bk (AZ J m')),fun m'=>some (.go (AZ J m'))⟩
def Ui (src:Ev (List Dv)) (tg:Tg) (J:List Nat) (b:Es):Es:=fun R m k=>src R m fun ds m1 =>
 (Az (fun d t=>tg (ER J) d (Ae J m1 t) fun m2=>b (ER J) m2 (kC J)) ds (AZ J m1)).bind fun t=>k.nx (Ae J m1 t)
def Uh (src:Ev (List Dv)) (tg:Tg) (J Jr:List Nat) (b:Es):Es:=fun R m k=>src R m fun ds m1 =>
 (Ec (fun d t=>tg (Lp Dv (ER J) (ER Jr)) d (Ae J m1 t) fun m2=>b (Lp Dv (ER J) (ER Jr)) m2 (kE J Jr)) ds (AZ J m1)).bind fun x=>x.el (fun t=>k.nx (Ae J m1 t)) fun d t=>k.rt d (Ae Jr m1 t)
theorem Ng {J:List Nat} {Γ:Gm} {K:W.Frag} {g:G} {H:Hp} {m:M} {σ:St} {P:Fp} (r:Rel K g H Γ m σ P):Rel K g H Γ (Ae J m (AZ J m)) σ P:=r.join (js:=[]) Bg.refl fun _ _ _=>.inr (by simp)
theorem PJ {K:W.Frag} {F:Fr} {Γl0:Option Gm} {Γ Γt:Gm} {Γo:Option Gm} {jt jb:List Nat} {g:TG} {ft:Tg} {b:Es} {J Jr:List Nat} (ht:OK K Γ Γt jt g ft) (hio:∀ i∈F.io,i∉jt) (hw:KL (some Γ) Γo=true)
    (hJ:J=BC Γ (jt++jb)) (hJr:Jr=BC F.Γr (jt++jb)) {ds:List Dv} {m1:M} {D:Ends} {σ:St} {H1:Hp} {g1:G} {P1:Fp} {I:It} {R:Type} {k:Kt R} {res:R}
    (r1:Rel K g1 H1 Γ m1 σ P1) (yl:Yl K I ds g1 H1) (run:List Dv->ER J->Prop) (h0:run ds (AZ J m1)) (hn:∀ t,run [] t->k.nx (Ae J m1 t)=some res)
    (hc:∀ d ds t,run (d::ds) t->∃ (B:Type) (κ:Kt B) (r:B),ft B d (Ae J m1 t) (fun m2=>b B m2 κ)=some r/\(∀ m',κ.nx m'=some r->run ds (AZ J m'))/\(∀ m',κ.ct m'=some r->run ds (AZ J m')) /\
      (∀ m',κ.bk m'=some r->k.nx (Ae J m1 (AZ J m'))=some res)/\∀ d m',κ.rt d m'=some r->k.rt d (Ae Jr m1 (AZ Jr m'))=some res)
    (q:AcS K F Γl0 g1 P1 H1 σ D (some Γ) (jt++jb) m1 k res) :
    ∃ W:Nat->Nat->St->Hp->Prop,(∃ m,W 0 m σ H1)/\∀ i m σ H,W i m σ H ->
      (I.stop i H/\D.nx σ H)\/(I.go i H/\∃ N:St->Hp->Prop,(∀ σ' H',N σ' H'->∃ m',m' < m/\W (i+1) m' σ' H')/\∀ x H',I.yld i H x H'->g x σ H' fun σ2 H2=>tS K F (some Γ) Γt Γo jb b { D with nx:=N,ct:=N,bk:=D.nx } σ2 H2):=by
  have sub:∀ i∈J,i∈jt++jb:=fun i h=>BB (hJ▸h)
  have subr:∀ i∈Jr,i∈jt++jb:=fun i h=>BB (hJr▸h)
  refine ⟨fun i j σ' H'=>j=ds.length - i/\i<=ds.length/\∃ g2 t P2,Step g1 P1 H1 g2 P2 H'/\Io F.io σ σ'/\Rel K g2 H' Γ (Ae J m1 t) σ' P2/\run (ds.drop i) t,⟨ds.length,by simp,nG _,g1,AZ J m1,P1,Step.refl,Io.refl,Ng r1,by simpa using h0⟩,?_⟩;rintro i j σ2 H2 ⟨rfl,hi,g2,t,P2,s2,i2,r2,e2⟩;have st:IH g1 H1 g2 H2:=⟨P1,P2,s2,r1.fpOk⟩
  by_cases hlt:i < ds.length
  · rw [og hlt] at e2;obtain ⟨B,κ,rB,e3,knx,kct,kbk,krt⟩:=hc _ _ _ e2;obtain ⟨go,yy⟩:=(yl g2 H2 st).1 i ds[i] (lz hlt);refine .inr ⟨go,fun σ' H'=>∃ g5 P5 m',Step g1 P1 H1 g5 P5 H'/\Io F.io σ σ'/\Rel K g5 H' Γ m' σ' P5/\Bg (jt++jb) m1 m'/\run (ds.drop (i+1)) (AZ J m'),?_,fun x H3 hy=>?_⟩
    · rintro σ' H' ⟨g5,P5,m',s5,i5,r5,ag,hr⟩;exact ⟨ds.length - (i+1),by omega,rfl,hlt,g5,AZ J m',P5,s5,i5,r5.join ag fun i o h=>hJ▸BQ h,hr⟩
    · obtain ⟨Pv,s3,h3,r3,n3⟩:=AY.go s2 r2 (yy x H3 hy);refine ht g2 _ P2 ds[i] x σ2 H3 B _ rB _ r3 h3.z e3 fun m2 P' σ' hk ag sp ip r'=>?_
      have s4:Step g1 P1 H1 g2 P' H3:=s3.less fun a z=>.inl (sp a z)
      have i4:=i2.trans (ip.io hio);have a4:Bg (jt++jb) m1 m2:=((AS J m1 t).mono sub).trans ag |>.mono fun i z=>(mU.mp z).elim id fun z=>mN _ z
      have a5:∀ {m'},Bg jb m2 m'->Bg (jt++jb) m1 m':=fun h=>(a4.trans h).mono fun i z=>(mU.mp z).elim id fun z=>mG _ z
      refine ⟨g2,m2,P',r',B,κ,rB,hk,⟨fun Γ' m' g' P'' σ'' H' e hk ag' s' i' rr=>?_,fun d m' g' P'' Pv σ'' v H' hk ag' s' i' rv rr n=>?_,fun Γ' m' g' P'' σ'' H' e hk ag' s' i' rr=>?_,fun Γ' m' g' P'' σ'' H' e hk ag' s' i' rr=>?_⟩⟩
      · subst e;obtain ⟨g6,P6,s6,r6⟩:=rr.weaken (by unfold KL at hw;exact hw);exact ⟨g6,P6,m',(s4.trans s').trans s6,i4.trans i',r6,a5 ag',knx m' hk⟩
      · exact q.rt d _ g' P'' Pv σ'' v H' (krt d m' hk) ((AS Jr m1 _).mono subr) (s4.trans s') (i4.trans i') rv (rr.join (a5 ag') fun i o h=>hJr▸BQ h) n
      · cases e;exact q.nx Γ _ g' P'' σ'' H' rfl (kbk m' hk) ((AS J m1 _).mono sub) (s4.trans s') (i4.trans i') (rr.join (a5 ag') fun i o h=>hJ▸BQ h)
      · cases e;exact ⟨g',P'',m',s4.trans s',i4.trans i',rr,a5 ag',kct m' hk⟩
  · have ei:i=ds.length:=by omega
    subst ei;rw [List.drop_length] at e2;exact .inl ⟨(yl g2 H2 st).2 _ (mF _),q.nx Γ _ g2 P2 σ2 H2 rfl (hn t e2) ((AS J m1 _).mono sub) s2 i2 r2⟩
section
variable {X:Cx} {F:Fr} {Γl0:Option Gm} {Γ Γ1 Γ2 Γt:Gm} {Γo:Option Gm} {js jt jb J Jr:List Nat} {tg iter:Expr} {body:List Stmt} {src:Ev (List Dv)} {g:TG} {ft:Tg} {b:Es} {pos:Pos}
theorem IH.pre {g g2 g3:G} {H H3:Hp} {P P2:Fp} (s:Step g P H g2 P2 H) (ok:FpOk g H P) (st:IH g2 H g3 H3):IH g H g3 H3:=by
 obtain ⟨P3,P3',s3,ok3⟩:=st;exact ⟨fun a=>P a\/P3 a,P3',(s.frame (R:=P3)).trans (s3.sub (fun _ z=>.inr z) fun _ z=>z),ok.or fun a z=>⟨(ok3 a z).1,fun w=>(ok3 a z).2 (s.zm a w)⟩⟩
theorem WI {K:W.Frag} {σ:St} {H:Hp} {Q:It->Hp->Prop} (hw:Bb Γ2 Γ1=true) (h:tI K Γ Γ2 js src σ H Q):tI K Γ Γ1 js src σ H Q:=by
 obtain ⟨g,m,P,r,R,k,res,e,q⟩:=h;refine ⟨g,m,P,r,R,k,res,e,fun ds m' g' P' H' J hk ag s r1 yl=>?_⟩;obtain ⟨g2,P2,s2,r2⟩:=r1.weaken hw;exact q ds m' g2 P2 H' J hk ag (s.trans s2) r2 fun g3 H3 st=>yl g3 H3 (st.pre s2 r1.fpOk)
theorem ae (hp:PassesOwn (model X.prog X.w) X.A X.env X.xe) (hc:X.calm=true) (hi:PI X tg iter (tI X.K Γ Γ1 js src)) (hg:PG X tg g) (ht:OK X.K Γ1 Γt jt g ft) (hio:∀ i∈F.io,i∉jt) (hb:DQ X body (tS X.K F (some Γ1) Γt Γo jb b)) (hw:KL (some Γ1) Γo=true) (hJ:J=BC Γ1 (jt++jb))
    (hs:∀ x,foldedSetIterable iter X.env x=pure x):PS X (.For tg iter body [] pos) (tS X.K F Γl0 Γ (some Γ1) (js++(jt++jb)) (Ui src ft J b)):=PS.imp (TQ hp hc hi hg hb hs) fun D σ H h=>by
  obtain ⟨g0,m,P,r,R,k,res,e,q⟩:=h;refine ⟨g0,m,P,r,R,_,res,e,fun ds m1 g1 P1 H1 I hk ag s r1 yl=>?_⟩;obtain ⟨t,e1,e2⟩:=bind_some' hk;refine PJ (Jr:=BC F.Γr (jt++jb)) ht hio hw hJ rfl r1 yl (fun ds t0=>Az _ ds t0=some t) e1 (fun t0 h=>?_) (fun d ds t0 h=>?_) (q.later s Io.refl ag)
  · cases h;exact e2
  · obtain ⟨t1,h1,h2⟩:=bind_some' h;refine ⟨ER J,kC J,t1,h1,fun m' hk=>?_,fun m' hk=>?_,(fun m' hk=>by cases hk),fun d m' hk=>by cases hk⟩
    · cases hk;exact h2
    · cases hk;exact h2
theorem aa (hp:PassesOwn (model X.prog X.w) X.A X.env X.xe) (hc:X.calm=true) (hi:PI X tg iter (tI X.K Γ Γ1 js src)) (hg:PG X tg g) (ht:OK X.K Γ1 Γt jt g ft) (hio:∀ i∈F.io,i∉jt) (hb:DQ X body (tS X.K F (some Γ1) Γt Γo jb b)) (hw:KL (some Γ1) Γo=true) (hJ:J=BC Γ1 (jt++jb)) (hJr:Jr=BC F.Γr (jt++jb))
    (hs:∀ x,foldedSetIterable iter X.env x=pure x):PS X (.For tg iter body [] pos) (tS X.K F Γl0 Γ (some Γ1) (js++(jt++jb)) (Uh src ft J Jr b)):=PS.imp (TQ hp hc hi hg hb hs) fun D σ H h=>by
  obtain ⟨g0,m,P,r,R,k,res,e,q⟩:=h;refine ⟨g0,m,P,r,R,_,res,e,fun ds m1 g1 P1 H1 I hk ag s r1 yl=>?_⟩;obtain ⟨x,e1,e2⟩:=bind_some' hk;refine PJ ht hio hw hJ hJr r1 yl (fun ds t0=>Ec _ ds t0=some x) e1 (fun t0 h=>?_) (fun d ds t0 h=>?_) (q.later s Io.refl ag)
  · cases h;exact e2
  · obtain ⟨l,h1,h2⟩:=bind_some' h;refine ⟨_,kE J Jr,l,h1,fun m' hk=>?_,fun m' hk=>?_,fun m' hk=>?_,fun d m' hk=>?_⟩
    · cases hk;exact h2
    · cases hk;exact h2
    · cases hk;cases h2;exact e2
    · cases hk;cases h2;exact e2
end
def Zb (n:Nat) (c:Ev Bool) (J:List Nat) (b:Es):Es:=fun R m k =>
 (OX (fun t=>c Bool (Ae J m t) fun b _=>some b) (fun t=>b (ER J) (Ae J m t) (kC J)) n (AZ J m)).bind fun t=>k.nx (Ae J m t)
def Za (n:Nat) (c:Ev Bool) (J Jr:List Nat) (b:Es):Es:=fun R m k =>
 (jR (fun t=>c Bool (Ae J m t) fun b _=>some b) (fun t=>b (Lp Dv (ER J) (ER Jr)) (Ae J m t) (kE J Jr)) n (AZ J m)).bind fun x=>x.el (fun t=>k.nx (Ae J m t)) fun d t=>k.rt d (Ae Jr m t)
theorem Ry {K:W.Frag} {F:Fr} {Γl0:Option Gm} {Γ Γc:Gm} {Γo:Option Gm} {jb:List Nat} {c:Ev Bool} {b:Es} {J Jr:List Nat} (hwc:Bb Γ Γc=true) (hw:KL (some Γ) Γo=true)
    (hJ:J=BC Γ jb) (hJr:Jr=BC F.Γr jb) {m1:M} {D:Ends} {σ:St} {H1:Hp} {g1:G} {P1:Fp} {R:Type} {k:Kt R} {res:R}
    (r1:Rel K g1 H1 Γ m1 σ P1) (run:Nat->ER J->Prop) {n:Nat} (h0:run n (AZ J m1))
    (hc:∀ n t,run n t->∃ bb,c Bool (Ae J m1 t) (fun b _=>some b)=some bb/\if bb=true then ∃ n',n' < n/\∃ (B:Type) (κ:Kt B) (r:B),b B (Ae J m1 t) κ=some r/\(∀ m',κ.nx m'=some r->run n' (AZ J m'))/\(∀ m',κ.ct m'=some r->run n' (AZ J m')) /\
      (∀ m',κ.bk m'=some r->k.nx (Ae J m1 (AZ J m'))=some res)/\(∀ d m',κ.rt d m'=some r->k.rt d (Ae Jr m1 (AZ Jr m'))=some res) else k.nx (Ae J m1 t)=some res)
    (q:AcS K F Γl0 g1 P1 H1 σ D (some Γ) jb m1 k res):SO (tT K Γ Γc [] c) (tS K F (some Γ) Γ Γo jb b) D σ H1:=by
  have sub:∀ i∈J,i∈jb:=fun i h=>BB (hJ▸h)
  have subr:∀ i∈Jr,i∈jb:=fun i h=>BB (hJr▸h)
  refine ⟨fun n σ' H'=>∃ g2 t P2,Step g1 P1 H1 g2 P2 H'/\Io F.io σ σ'/\Rel K g2 H' Γ (Ae J m1 t) σ' P2/\run n t,⟨n,g1,AZ J m1,P1,Step.refl,Io.refl,Ng r1,h0⟩,?_⟩;rintro n' σ2 H2 ⟨g2,t,P2,s2,i2,r2,e2⟩;obtain ⟨bb,e3,e4⟩:=hc n' t e2;refine ⟨g2,_,P2,r2,Bool,_,bb,e3,fun b' m' g3 P3 H3 hk ag s3 r3=>?_⟩;cases hk;obtain ⟨g4,P4,s4,r4⟩:=r3.weaken hwc;have r5:Rel K g4 H3 Γ (Ae J m1 t) σ2 P4:=r4.agree ag.1.symm fun i o _=>(ag.2 i (by simp)).symm
  have s5:=(s2.trans s3).trans s4;cases bb with
  | false=>rw [if_neg mT] at e4 ⊢;exact q.nx Γ _ g4 P4 σ2 H3 rfl e4 ((AS J m1 _).mono sub) s5 i2 r5
  | true =>
    rw [if_pos rfl] at e4 ⊢;obtain ⟨n2,hn,B,κ,rB,eb,knx,kct,kbk,krt⟩:=e4;have a5:∀ {m'},Bg jb (Ae J m1 t) m'->Bg jb m1 m':=fun h=>(((AS J m1 t).mono sub).trans h).mono fun i z=>(mU.mp z).elim id id
    refine ⟨fun σ' H'=>∃ g5 P5 m',Step g1 P1 H1 g5 P5 H'/\Io F.io σ σ'/\Rel K g5 H' Γ m' σ' P5/\Bg jb m1 m'/\run n2 (AZ J m'),?_,g4,_,P4,r5,B,κ,rB,eb,⟨fun Γ' m' g' P'' σ'' H' e hk ag' s' i' rr=>?_,fun d m' g' P'' Pv σ'' v H' hk ag' s' i' rv rr n=>?_,fun Γ' m' g' P'' σ'' H' e hk ag' s' i' rr=>?_,fun Γ' m' g' P'' σ'' H' e hk ag' s' i' rr=>?_⟩⟩
    · rintro σ' H' ⟨g6,P6,m',s6,i6,r6,ag6,hr⟩;exact ⟨n2,hn,g6,AZ J m',P6,s6,i6,r6.join ag6 fun i o h=>hJ▸BQ h,hr⟩
    · subst e;obtain ⟨g6,P6,s6,r6⟩:=rr.weaken (by unfold KL at hw;exact hw);exact ⟨g6,P6,m',(s5.trans s').trans s6,i2.trans i',r6,a5 ag',knx m' hk⟩
    · exact q.rt d _ g' P'' Pv σ'' v H' (krt d m' hk) ((AS Jr m1 _).mono subr) (s5.trans s') (i2.trans i') rv (rr.join (a5 ag') fun i o h=>hJr▸BQ h) n
    · cases e;exact q.nx Γ _ g' P'' σ'' H' rfl (kbk m' hk) ((AS J m1 _).mono sub) (s5.trans s') (i2.trans i') (rr.join (a5 ag') fun i o h=>hJ▸BQ h)
    · cases e;exact ⟨g',P'',m',s5.trans s',i2.trans i',rr,a5 ag',kct m' hk⟩
section
variable {X:Cx} {F:Fr} {Γl0:Option Gm} {Γ Γc:Gm} {Γo:Option Gm} {jb J Jr:List Nat} {c:Expr} {body:List Stmt} {t:Ev Bool} {b:Es} {pos:Pos}
theorem fM (n:Nat) (hp:PassesOwn (model X.prog X.w) X.A X.env X.xe) (hc:PT X c (tT X.K Γ Γc [] t)) (hb:DQ X body (tS X.K F (some Γ) Γ Γo jb b)) (hwc:Bb Γ Γc=true) (hw:KL (some Γ) Γo=true) (hJ:J=BC Γ jb) :
    PS X (.While c body [] pos) (tS X.K F Γl0 Γ (some Γ) jb (Zb n t J b)):=PS.imp (Li hp hc hb) fun D σ H h=>by
  obtain ⟨g0,m,P,r,R,k,res,e,q⟩:=h;obtain ⟨t',e1,e2⟩:=bind_some' e;refine Ry (Jr:=BC F.Γr jb) hwc hw hJ rfl r (fun n t0=>OX _ _ n t0=some t') e1 (fun n t0 h=>?_) q;cases n with
  | zero=>cases h
  | succ n =>
    obtain ⟨bb,h1,h2⟩:=bind_some' h;refine ⟨bb,h1,?_⟩;cases bb with
    | false=>rw [if_neg mT] at h2 ⊢;cases h2;exact e2
    | true =>
      rw [if_pos rfl] at h2 ⊢;obtain ⟨t1,h3,h4⟩:=bind_some' h2;refine ⟨n,pL n,ER J,kC J,t1,h3,fun m' hk=>?_,fun m' hk=>?_,(fun m' hk=>by cases hk),fun d m' hk=>by cases hk⟩
      · cases hk;exact h4
      · cases hk;exact h4
theorem fL (n:Nat) (hp:PassesOwn (model X.prog X.w) X.A X.env X.xe) (hc:PT X c (tT X.K Γ Γc [] t)) (hb:DQ X body (tS X.K F (some Γ) Γ Γo jb b)) (hwc:Bb Γ Γc=true) (hw:KL (some Γ) Γo=true) (hJ:J=BC Γ jb) (hJr:Jr=BC F.Γr jb) :
    PS X (.While c body [] pos) (tS X.K F Γl0 Γ (some Γ) jb (Za n t J Jr b)):=PS.imp (Li hp hc hb) fun D σ H h=>by
  obtain ⟨g0,m,P,r,R,k,res,e,q⟩:=h;obtain ⟨x,e1,e2⟩:=bind_some' e;refine Ry hwc hw hJ hJr r (fun n t0=>jR _ _ n t0=some x) e1 (fun n t0 h=>?_) q;cases n with
  | zero=>cases h
  | succ n =>
    obtain ⟨bb,h1,h2⟩:=bind_some' h;refine ⟨bb,h1,?_⟩;cases bb with
    | false=>rw [if_neg mT] at h2 ⊢;cases h2;exact e2
    | true =>
      rw [if_pos rfl] at h2 ⊢;obtain ⟨l,h3,h4⟩:=bind_some' h2;refine ⟨n,pL n,_,kE J Jr,l,h3,fun m' hk=>?_,fun m' hk=>?_,fun m' hk=>?_,fun d m' hk=>?_⟩
      · cases hk;exact h4
      · cases hk;exact h4
      · cases hk;cases h4;exact e2
      · cases hk;cases h4;exact e2
end
end R
namespace Q
open PySem L2
inductive Dt where
 | non | bl (b:Bool) | int (i:Int) | str (x:List Nat)
 | tup (xs:List Dt) | lst (o:Bool) (xs:List Dt) | dic (o:Bool) (kvs:List (Dt×Dt)) | ref (k:Nat) | scr (ns:List Int) | ty (n:String) | mtp (ls:List (List Nat)) | dti (o:Bool) (kvs:List (List Int×Int))
 deriving Inhabited
structure G where
 Z:Addr->Prop
 μ:List Addr
noncomputable abbrev Fp:=Addr->Prop
def Disj (P Q:Fp):Prop:=∀ a,P a->Q a->False
def Lk (g:G) (H:Hp):Bool->Addr->List V->Prop
 | true,a,vs=>H a=some (.lst vs)/\¬ g.Z a
 | false,a,vs=>H a=some (.lst vs)/\g.Z a
def Scr (K:W.Frag) (H:Hp) (a:Addr) (ns:List Int):Prop:=(∃ o,H a=some (.frz o (.lst (ns.map V.int)))) \/
    ∃ (o:Obj) (its:Array Value) (n:Nat),K.lookup a=some o/\o.cls=.type "list" /\ o.dict=none/\o.data=.seq its n/\its.size<=sizeLine/\AE (ns.map V.int) its.toList
def Mtp (K:W.Frag) (a:Addr) (ls:List (List Nat)):Prop:=∃ (o:Obj) (its:Array Value) (n:Nat),K.lookup a=some o/\o.cls=.type "tuple" /\ o.data=.seq its n/\its.size<=sizeLine/\AE (ls.map fun l=>V.str (tx l)) its.toList
def encD (kvs:List (List Int×Int)):List (List BE×V):=kvs.map fun p=>(p.1.map Sum.inl,V.int p.2)
mutual
noncomputable def Rep (K:W.Frag) (g:G) (H:Hp):Dt->V->Fp->Prop
 | .non,v,P=>v=.non/\∀ a,¬ P a
 | .bl b,v,P=>v=.bl b/\∀ a,¬ P a
 | .int i,v,P=>v=.int i/\∀ a,¬ P a
 | .str l,v,P=>v=.str (tx l)/\∀ a,¬ P a
 | .tup ds,v,P=>∃ a vs,v=.ref a/\H a=some (.tup vs)/\Reps K g H ds vs P
 | .lst o ds,v,P=>∃ a vs P',v=.ref a/\Lk g H o a vs/\Reps K g H ds vs P'/\¬ P' a/\(o=false->∀ b,¬ P' b)/\∀ b,P b↔(o=true/\b=a)\/P' b
 | .dic _ _,_,_=>False
 | .ref k,v,P=>(∃ a,g.μ[k]?=some a/\v=.ref a)/\∀ a,¬ P a
 | .scr ns,v,P=>(∃ a,v=.ref a/\Scr K H a ns)/\∀ a,¬ P a
 | .ty n,v,P=>v=.ty n/\∀ a,¬ P a
 | .mtp ls,v,P=>(∃ a,v=.ref a/\Mtp K a ls)/\∀ a,¬ P a
 | .dti o kvs,v,P=>∃ a,v=.ref a/\H a=some (.dT (encD kvs))/\(o=true->¬ g.Z a)/\(o=false->g.Z a)/\∀ b,P b↔(o=true/\b=a)
noncomputable def Reps (K:W.Frag) (g:G) (H:Hp):List Dt->List V->Fp->Prop
 | [],vs,P=>vs=[]/\∀ a,¬ P a
 | d::ds,vs,P=>∃ v r P1 P2,vs=v::r/\Rep K g H d v P1/\Reps K g H ds r P2/\Disj P1 P2/\∀ a,P a↔P1 a\/P2 a
end
mutual
noncomputable def Dt.cp:Dt->Bool
 | .tup ds=>cps ds
 | .lst o ds=>!o && cps ds
 | .dti o _=>!o
 | .dic _ _=>false
 | _=>true
noncomputable def cps:List Dt->Bool
 | []=>true
 | d::ds=>d.cp && cps ds
end
section
variable {K:W.Frag} {g g':G} {H H':Hp}
def nop:Fp:=fun _=>False
theorem nop_iff {R:Fp} (h:∀ a,¬ R a):R=nop:=funext fun a=>propext ⟨fun z=>(h a z).elim,fun z=>z.elim⟩
theorem Reps.nil:Reps K g H [] [] nop:=by unfold Reps;exact ⟨rfl,fun _ z=>z⟩
end
structure Ob where
 c:Nat
 fs:List (Str×Dt)
structure M where
 ρ:List (Option Dt)
 S:List Ob
noncomputable abbrev Ev (α:Type):=M->Option (α×M)
section
end
section
end
inductive Om where
 | ev (f:Ev Dt)
 | rf (i:Nat)
def RA (K:W.Frag) (g:G) (H:Hp):List Dt->List V->Prop
 | [],vs=>vs=[]
 | d::ds,vs=>∃ v r P,vs=v::r/\Rep K g H d v P/\RA K g H ds r
noncomputable abbrev Pr:=List Dt->Option Dt
section
end
section
variable {X:Cx} {a b c e:Expr} {es:List Expr} {pos:Pos} {oa ob oc:Om} {os:List Om} {f fa fb:Ev Dt} {p:Pr}
def evd:List Om->Bool
 | []=>true
 | .ev _::os=>evd os
 | .rf _::_=>false
end
def lH (f g:Ev Bool) (m:M):Option (Bool×M):=do
 let (b,m1) <- f m
 if b then g m1 else some (false,m1)
def evOr (f g:Ev Bool) (m:M):Option (Bool×M):=do
 let (b,m1) <- f m
 if b then some (true,m1) else g m1
section
variable {K:W.Frag} {σ:St} {H:Hp}
theorem rep_bl {g:G} {b:Bool} {v:V} {P:Fp} (h:Rep K g H (.bl b) v P):v=.bl b:=by unfold Rep at h;exact h.1
theorem rep_int {g:G} {b:Int} {v:V} {P:Fp} (h:Rep K g H (.int b) v P):v=.int b:=by unfold Rep at h;exact h.1
theorem rep_str {g:G} {b:List Nat} {v:V} {P:Fp} (h:Rep K g H (.str b) v P):v=.str (tx b):=by unfold Rep at h;exact h.1
theorem rep_non {g:G} {v:V} {P:Fp} (h:Rep K g H .non v P):v=.non:=by unfold Rep at h;exact h.1
end
section
end
inductive Fl where
 | nx | ct | bk | rt (d:Dt)
noncomputable abbrev Es:=M->Option (Fl×M)
section
end
noncomputable abbrev Tg:=Dt->M->Option M
section
end
section
end
def items:Dt->Option (List Dt)
 | .tup ds=>bif cps ds then some ds else none
 | .lst _ ds=>bif cps ds then some ds else none
 | .scr ns=>some (ns.map .int)
 | _=>none
section
end
section
variable {X:Cx} {tg e a b:Expr} {f:Ev Dt} {oa ob:Om} {p pos:Pos}
noncomputable def small (i:Int):Bool:=-1000000000<=i && i<=1000000000
end
section
end
def Bk (K:W.Frag) (g:G) (H:Hp) (vs:List V):List Nat->List Dt->Fp->Prop
 | [],bs,P=>bs=[]/\∀ a,¬ P a
 | i::io,bs,P=>∃ b br v P1 P2,bs=b::br/\vs[i]?=some v/\Rep K g H b v P1/\Bk K g H vs io br P2/\Disj P1 P2/\∀ a,P a↔P1 a\/P2 a
section
end
section
end
section
end
section
end
section
end
section
variable {K:W.Frag} {g:G} {H:Hp}
noncomputable def big (i:Int):Bool:=decide (-(2 ^ 64) < i) && decide (i < 2 ^ 64)
theorem atI_map {α β:Type} {f:α->β} {xs:List α} {i:Int}:ES (xs.map f) i=(ES xs i).map f:=by
 unfold ES;rw [mX];cases Nb xs.length i with
 | none=>rfl
 | some j=>show (xs.map f)[j]?=_;rw [mR];rfl
def cutA {α:Type} (xs:List α) (lo hi:Option Int):List α:=(xs.drop (HT.sIx xs.length 0 lo)).take (HT.sIx xs.length xs.length hi - HT.sIx xs.length 0 lo)
theorem map_cut {α β:Type} (f:α->β) (xs:List α) (lo hi:Option Int):(cutA xs lo hi).map f=cutA (xs.map f) lo hi:=by
 unfold cutA;rw [pd,pe,mX]
end
section
end
end Q
namespace L3
open PySem PySem.Spec PyProof.Rows PySem.SeqAt L2
abbrev St:=L2.St
inductive D where
 | fl (v:V)
 | tup (ds:List D)
 | lst (ds:List D)
mutual
noncomputable def eqD:D->D->Bool
 | .fl a,.fl b=>eqV a b
 | .tup a,.tup b=>eqDs a b
 | .lst a,.lst b=>eqDs a b
 | _,_=>false
noncomputable def eqDs:List D->List D->Bool
 | [],[]=>true
 | x::xs,y::ys=>eqD x y && eqDs xs ys
 | _,_=>false
end
mutual
noncomputable def D.dep:D->Nat
 | .fl _=>0
 | .tup ds=>depL ds+1
 | .lst ds=>depL ds+1
noncomputable def depL:List D->Nat
 | []=>0
 | d::ds=>max d.dep (depL ds)
end
mutual
noncomputable def Is (K:W.Frag) (H:Hp):V->D->Prop
 | x,.fl v=>x=v/\FH v=true
 | x,.tup ds=>∃ a xs,x=.ref a/\Eg K H a xs/\IsL K H xs ds
 | x,.lst ds=>∃ a xs,x=.ref a/\DA K H a xs/\IsL K H xs ds
noncomputable def IsL (K:W.Frag) (H:Hp):List V->List D->Prop
 | [],[]=>True
 | x::xs,d::ds=>Is K H x d/\IsL K H xs ds
 | _,_=>False
end
theorem IsL.inv {K:W.Frag} {H:Hp} {x:V} {xs:List V} {es:List D} (h:IsL K H (x::xs) es):∃ d ds,es=d::ds/\Is K H x d/\IsL K H xs ds:=by
 cases es with
 | nil=>unfold IsL at h;exact h.elim
 | cons d ds=>unfold IsL at h;exact ⟨d,ds,rfl,h.1,h.2⟩
theorem IsL.length {K:W.Frag} {H:Hp}:∀ {xs:List V} {ds:List D},IsL K H xs ds->xs.length=ds.length
 | [],[],_=>rfl
 | [],_::_,h=>by unfold IsL at h;exact h.elim
 | _::_,[],h=>by unfold IsL at h;exact h.elim
 | x::xs,d::ds,h=>by unfold IsL at h;rw [mS,mS,IsL.length h.2]
theorem IsL.get {K:W.Frag} {H:Hp}:∀ {xs:List V} {ds:List D} {i:Nat} {d:D},IsL K H xs ds->ds[i]?=some d->∃ x,xs[i]?=some x/\Is K H x d
 | [],[],_,_,_,e=>by simp at e
 | [],_::_,_,_,h,_=>by unfold IsL at h;exact h.elim
 | _::_,[],_,_,_,e=>by simp at e
 | x::xs,d::ds,0,d',h,e=>by
  unfold IsL at h;have:d=d':=by simpa using e
  subst this;exact ⟨x,rfl,h.1⟩
 | x::xs,d::ds,i+1,_,h,e=>by
  unfold IsL at h;obtain ⟨y,e1,e2⟩:=IsL.get (i:=i) h.2 (by simpa using e);exact ⟨y,by simpa using e1,e2⟩
theorem OZ {X:Cx} {pins:List (Addr×Obj)} {σ:St} {H:Hp} {s:Shared} {a:Addr} {xs ys:List V} (I:Inv X pins σ H s) (h:Eg X.K H a xs) (k:DA X.K H a ys):False:=by
 obtain ⟨_,_,⟨o,e,c,_⟩,_⟩:=I.tuple h;obtain ⟨_,_,⟨o',n,e',c',_⟩,_⟩:=I.list k;rw [e] at e';cases e';rw [c] at c';injection c' with q
 exact absurd q (by decide)
mutual
theorem Is.inj {X:Cx} {pins:List (Addr×Obj)} {σ:St} {H:Hp} {s:Shared} (I:Inv X pins σ H s):∀ {d e:D} {x:V},Is X.K H x d->Is X.K H x e->d=e
 | .fl v,e,x,h,k=>by
  unfold Is at h;obtain ⟨rfl,hf⟩:=h;cases e with
  | fl u=>unfold Is at k;rw [k.1]
  | tup es=>unfold Is at k;obtain ⟨a,xs,rfl,_⟩:=k;cases hf
  | lst es=>unfold Is at k;obtain ⟨a,xs,rfl,_⟩:=k;cases hf
 | .tup ds,e,x,h,k=>by
  unfold Is at h;obtain ⟨a,xs,rfl,h1,h2⟩:=h;cases e with
  | fl u=>unfold Is at k;obtain ⟨k1,k2⟩:=k;rw [<- k1] at k2;cases k2
  | tup es =>
   unfold Is at k;obtain ⟨b,ys,e,k1,k2⟩:=k;cases e;rw [I.tuple_inj h1 k1] at h2;rw [IsL.inj I h2 k2]
  | lst es=>unfold Is at k;obtain ⟨b,ys,e,k1,k2⟩:=k;cases e;exact (OZ I h1 k1).elim
 | .lst ds,e,x,h,k=>by
  unfold Is at h;obtain ⟨a,xs,rfl,h1,h2⟩:=h;cases e with
  | fl u=>unfold Is at k;obtain ⟨k1,k2⟩:=k;rw [<- k1] at k2;cases k2
  | lst es =>
   unfold Is at k;obtain ⟨b,ys,e,k1,k2⟩:=k;cases e;rw [I.list_inj h1 k1] at h2;rw [IsL.inj I h2 k2]
  | tup es=>unfold Is at k;obtain ⟨b,ys,e,k1,k2⟩:=k;cases e;exact (OZ I k1 h1).elim
theorem IsL.inj {X:Cx} {pins:List (Addr×Obj)} {σ:St} {H:Hp} {s:Shared} (I:Inv X pins σ H s):∀ {ds es:List D} {xs:List V},IsL X.K H xs ds->IsL X.K H xs es->ds=es
 | [],es,[],h,k=>by
  cases es with
  | nil=>rfl
  | cons e es=>unfold IsL at k;exact k.elim
 | [],_,_::_,h,_=>by unfold IsL at h;exact h.elim
 | _::_,_,[],h,_=>by unfold IsL at h;exact h.elim
 | d::ds,es,x::xs,h,k=>by
  unfold IsL at h;obtain ⟨e,es',rfl,k1,k2⟩:=k.inv;rw [Is.inj I h.1 k1,IsL.inj I h.2 k2]
end
theorem eqV_refl {v:V} (h:FH v=true):eqV v v=true:=by
 cases v<;>first | rfl | (simp [eqV];done) | cases h
mutual
theorem eqD_refl {K:W.Frag} {H:Hp}:∀ {d:D} {x:V},Is K H x d->eqD d d=true
 | .fl v,x,h=>by unfold Is at h;unfold eqD;exact eqV_refl h.2
 | .tup ds,x,h=>by unfold Is at h;obtain ⟨_,_,_,_,h2⟩:=h;unfold eqD;exact eqDs_refl h2
 | .lst ds,x,h=>by unfold Is at h;obtain ⟨_,_,_,_,h2⟩:=h;unfold eqD;exact eqDs_refl h2
theorem eqDs_refl {K:W.Frag} {H:Hp}:∀ {ds:List D} {xs:List V},IsL K H xs ds->eqDs ds ds=true
 | [],_,_=>by unfold eqDs;rfl
 | _::_,[],h=>by unfold IsL at h;exact h.elim
 | d::ds,x::xs,h=>by
  unfold IsL at h;unfold eqDs;rw [eqD_refl h.1,eqDs_refl h.2];rfl
end
theorem Bn:∀ (xs ys:List D) (e:Nat->Bool),(∀ i x y,xs[i]?=some x->ys[i]?=some y->e i=eqD x y)->((List.range (min xs.length ys.length)).all e && xs.length == ys.length)=eqDs xs ys
 | [],[],_,_=>by unfold eqDs;rfl
 | [],_::_,_,_=>by unfold eqDs;simp
 | _::_,[],_,_=>by unfold eqDs;simp
 | x::xs,y::ys,e,h=>by
  have ih:=Bn xs ys (fun i=>e (i+1)) fun i a b h1 h2=>h (i+1) a b (by simpa using h1) (by simpa using h2)
  have h0:=h 0 x y rfl rfl;unfold eqDs;rw [<- ih,<- h0,mS,mS,Nat.succ_min_succ,oN,nC,List.all_map];have:((xs.length+1 == ys.length+1):Bool)=(xs.length == ys.length):=by simp
  rw [this,Bool.and_assoc];rfl
theorem FJ:∀ {ds:List D} {i:Nat} {d:D},ds[i]?=some d->d.dep<=depL ds
 | [],_,_,e=>by simp at e
 | d::ds,0,d',e=>by
  have:d=d':=by simpa using e
  subst this;show d.dep<=depL (d::ds);unfold depL;exact Nat.le_max_left _ _
 | d::ds,i+1,x,e=>by
  have:=FJ (ds:=ds) (i:=i) (d:=x) (by simpa using e);unfold depL;exact mQ this (Nat.le_max_right _ _)
section
variable {X:Cx} {pins:List (Addr×Obj)} {σ:St} {H:Hp} {s:Shared}
def eAt (ds es:List D) (i:Nat):Bool:=match ds[i]?,es[i]? with | some a,some b=>eqD a b | _,_=>true
theorem eAt_of {ds es:List D} {i:Nat} {a b:D} (h1:ds[i]?=some a) (h2:es[i]?=some b):eAt ds es i=eqD a b:=by unfold eAt;rw [h1,h2]
theorem As {x:V} (h:FH x=true):x=.non\/(∃ b,x=.bl b)\/(∃ i,x=.int i)\/∃ z,x=.str z:=by
 cases x with
 | non=>exact .inl rfl
 | bl b=>exact .inr (.inl ⟨b,rfl⟩)
 | int i=>exact .inr (.inr (.inl ⟨i,rfl⟩))
 | str z=>exact .inr (.inr (.inr ⟨z,rfl⟩))
 | _=>cases h
theorem Ut (I:Inv X pins σ H s):∀ (n:Nat) (A:Around) (d e:D) (x y:V) (u v:Value),d.dep<=n->A.units+n < cLine->RelV x u->RelV y v->Is X.K H x d->Is X.K H y e->EqAt A s u v (eqD d e):=by
 intro n
 induction n with
 | zero =>
  intro A d e x y u v hd hu rx ry hx hy;cases d with
  | fl a =>
   unfold Is at hx;obtain ⟨rfl,fx⟩:=hx;cases e with
   | fl b=>unfold Is at hy;obtain ⟨rfl,fy⟩:=hy;unfold eqD;exact dE rx ry fx fy
   | tup es =>
    unfold Is at hy;obtain ⟨b,ys,rfl,h1,h2⟩:=hy;cases ry;obtain ⟨its,r,ht,_⟩:=I.tuple h1;unfold eqD;rcases As fx with rfl | ⟨c,rfl⟩ | ⟨c,rfl⟩ | ⟨c,rfl⟩
    ·cases rx;exact EqAt.none_tuple ht hu
    ·cases rx;exact EqAt.bool_tuple c ht hu
    ·obtain ⟨t,rfl⟩:=rx;exact EqAt.int_tuple c t ht hu
    ·obtain ⟨t,rfl⟩:=rx;exact EqAt.str_tuple c t ht hu
   | lst es =>
    unfold Is at hy;obtain ⟨b,ys,rfl,h1,h2⟩:=hy;cases ry;obtain ⟨its,r,ht,_⟩:=I.list h1;unfold eqD;rcases As fx with rfl | ⟨c,rfl⟩ | ⟨c,rfl⟩ | ⟨c,rfl⟩
    ·cases rx;exact EqAt.none_list ht.isList hu
    ·cases rx;exact EqAt.bool_list c ht.isList hu
    ·obtain ⟨t,rfl⟩:=rx;exact EqAt.int_list c t ht.isList hu
    ·obtain ⟨t,rfl⟩:=rx;exact EqAt.str_list c t ht.isList hu
  | tup ds=>unfold D.dep at hd;omega
  | lst ds=>unfold D.dep at hd;omega
 | succ n ih =>
  intro A d e x y u v hd hu rx ry hx hy;have hu0:A.units < cLine:=by omega
  cases d with
  | fl a=>exact ih A (.fl a) e x y u v (by unfold D.dep;omega) (by omega) rx ry hx hy
  | tup ds =>
   unfold D.dep at hd;have hx0:=hx;unfold Is at hx;obtain ⟨a,xs,rfl,h1,h2⟩:=hx;cases rx;obtain ⟨its,r,ht,_⟩:=I.tuple h1;cases e with
   | fl b =>
    unfold Is at hy;obtain ⟨rfl,fy⟩:=hy;unfold eqD;rcases As fy with rfl | ⟨c,rfl⟩ | ⟨c,rfl⟩ | ⟨c,rfl⟩
    ·cases ry;exact EqAt.tuple_none ht hu0
    ·cases ry;exact EqAt.tuple_bool c ht hu0
    ·obtain ⟨t,rfl⟩:=ry;exact EqAt.tuple_int c t ht hu0
    ·obtain ⟨t,rfl⟩:=ry;exact EqAt.tuple_str c t ht hu0
   | tup es =>
    have hy0:=hy;unfold Is at hy;obtain ⟨b,ys,rfl,k1,k2⟩:=hy;cases ry;obtain ⟨its2,r2,ht2,_⟩:=I.tuple k1
    by_cases hab:a=b
    ·subst hab;rw [Is.inj I hx0 hy0,eqD_refl hy0];exact EqAt.same _
    ·refine EqAt.of_refs hab ?_;have q:=RcAt.tuples (e:=eAt ds es) ht ht2 hu0 (fun j j1 j2=>?_)
     ·have e1:=Bn ds es (eAt ds es) fun i a b q1 q2=>eAt_of q1 q2
      rw [mD,mD,<- r.length,<- r2.length,h2.length,k2.length,e1] at q;unfold eqD;exact q
     ·have j1':j < its.length:=by simpa using j1
      have j2':j < its2.length:=by simpa using j2
      have l1:j < ds.length:=by rw [<- h2.length,r.length];exact j1'
      have l2:j < es.length:=by rw [<- k2.length,r2.length];exact j2'
      obtain ⟨x',ex,px⟩:=h2.get (i:=j) (lz l1);obtain ⟨y',ey,py⟩:=k2.get (i:=j) (lz l2);obtain ⟨u',eu,ru⟩:=r.get ex;obtain ⟨v',ev,rv⟩:=r2.get ey;rw [eAt_of (lz l1) (lz l2)];have z1:its.toArray[j]=u':=by rw [lz j1'] at eu;simpa using Option.some.inj eu
      have z2:its2.toArray[j]=v':=by rw [lz j2'] at ev;simpa using Option.some.inj ev
      rw [z1,z2];exact ih A.in1 _ _ x' y' u' v' (mQ (FJ (lz l1)) (by omega)) (by show A.units+1+n < cLine;omega) ru rv px py
   | lst es =>
    unfold Is at hy;obtain ⟨b,ys,rfl,k1,k2⟩:=hy;cases ry;obtain ⟨its2,r2,ht2,_⟩:=I.list k1;unfold eqD;exact EqAt.tuple_list ht ht2.isList hu0
  | lst ds =>
   unfold D.dep at hd;have hx0:=hx;unfold Is at hx;obtain ⟨a,xs,rfl,h1,h2⟩:=hx;cases rx;obtain ⟨its,r,ht,_⟩:=I.list h1;cases e with
   | fl b =>
    unfold Is at hy;obtain ⟨rfl,fy⟩:=hy;unfold eqD;rcases As fy with rfl | ⟨c,rfl⟩ | ⟨c,rfl⟩ | ⟨c,rfl⟩
    ·cases ry;exact EqAt.list_none ht.isList hu0
    ·cases ry;exact EqAt.list_bool c ht.isList hu0
    ·obtain ⟨t,rfl⟩:=ry;exact EqAt.list_int c t ht.isList hu0
    ·obtain ⟨t,rfl⟩:=ry;exact EqAt.list_str c t ht.isList hu0
   | tup es =>
    unfold Is at hy;obtain ⟨b,ys,rfl,k1,k2⟩:=hy;cases ry;obtain ⟨its2,r2,ht2,_⟩:=I.tuple k1;unfold eqD;exact EqAt.list_tuple ht.isList ht2 hu0
   | lst es =>
    have hy0:=hy;unfold Is at hy;obtain ⟨b,ys,rfl,k1,k2⟩:=hy;cases ry;obtain ⟨its2,r2,ht2,_⟩:=I.list k1
    by_cases hab:a=b
    ·subst hab;rw [Is.inj I hx0 hy0,eqD_refl hy0];exact EqAt.same _
    ·refine EqAt.of_refs hab ?_
     by_cases hsz:ds.length=es.length
     ·have e1:=Bn ds es (eAt ds es) fun i a b q1 q2=>eAt_of q1 q2
      rw [hsz,pJ,beq_self_eq_true,Bool.and_true] at e1;have q:=RcAt.lists (e:=eAt ds es) ht.isList ht2.isList (by rw [mD,mD,<- r.length,<- r2.length,h2.length,k2.length];exact hsz) hu0 (fun j j1 j2=>?_)
      ·rw [mD,<- r.length,h2.length,hsz,e1] at q;unfold eqD;exact q
      ·have j1':j < its.length:=by simpa using j1
       have j2':j < its2.length:=by simpa using j2
       have l1:j < ds.length:=by rw [<- h2.length,r.length];exact j1'
       have l2:j < es.length:=by rw [<- k2.length,r2.length];exact j2'
       obtain ⟨x',ex,px⟩:=h2.get (i:=j) (lz l1);obtain ⟨y',ey,py⟩:=k2.get (i:=j) (lz l2);obtain ⟨u',eu,ru⟩:=r.get ex;obtain ⟨v',ev,rv⟩:=r2.get ey;rw [eAt_of (lz l1) (lz l2)];have z1:its.toArray[j]=u':=by rw [lz j1'] at eu;simpa using Option.some.inj eu
       have z2:its2.toArray[j]=v':=by rw [lz j2'] at ev;simpa using Option.some.inj ev
       rw [z1,z2];exact ih A.in1 _ _ x' y' u' v' (mQ (FJ (lz l1)) (by omega)) (by show A.units+1+n < cLine;omega) ru rv px py
     ·have q:=RcAt.lists_lengths (A:=A) ht.isList ht2.isList (by rw [mD,mD,<- r.length,<- r2.length,h2.length,k2.length];simpa using hsz) hu0;have e1:=Bn ds es (eAt ds es) fun i a b q1 q2=>eAt_of q1 q2
      have:(ds.length == es.length)=false:=by simpa using hsz
      rw [this,pX] at e1;unfold eqD;rw [<- e1];exact q
end
noncomputable def D.seq:D->Bool
 | .fl _=>false
 | _=>true
section
variable {X:Cx} {pins:List (Addr×Obj)} {σ:St} {H:Hp} {s:Shared}
theorem MD (I:Inv X pins σ H s) {n:Nat} {A:Around} {xs ys:List V} {ds es:List D} {its its2:List Value} (hd:depL ds<=n) (hu:A.units+1+n < cLine) (r:AE xs its) (r2:AE ys its2) (h2:IsL X.K H xs ds) (k2:IsL X.K H ys es) :
    ∀ j (h1:j < its.toArray.size) (h2:j < its2.toArray.size),EqAt A.in1 s its.toArray[j] its2.toArray[j] (eAt ds es j):=fun j j1 j2=>by
  have j1':j < its.length:=by simpa using j1
  have j2':j < its2.length:=by simpa using j2
  have l1:j < ds.length:=by rw [<- h2.length,r.length];exact j1'
  have l2:j < es.length:=by rw [<- k2.length,r2.length];exact j2'
  obtain ⟨x',ex,px⟩:=h2.get (i:=j) (lz l1);obtain ⟨y',ey,py⟩:=k2.get (i:=j) (lz l2);obtain ⟨u',eu,ru⟩:=r.get ex;obtain ⟨v',ev,rv⟩:=r2.get ey;rw [eAt_of (lz l1) (lz l2)];have z1:its.toArray[j]=u':=by rw [lz j1'] at eu;simpa using Option.some.inj eu
  have z2:its2.toArray[j]=v':=by rw [lz j2'] at ev;simpa using Option.some.inj ev
  rw [z1,z2];exact Ut I n A.in1 _ _ x' y' u' v' (mQ (FJ (lz l1)) hd) (by show A.units+1+n < cLine;exact hu) ru rv px py
theorem KA (I:Inv X pins σ H s) {A:Around} {d e:D} {x y:V} {u v:Value} (sd:d.seq=true) (se:e.seq=true) (hu:A.units+d.dep+1 < cLine) (rx:RelV x u) (ry:RelV y v) (hx:Is X.K H x d) (hy:Is X.K H y e):RcAt A s u v (eqD d e)/\RcNeAt A s u v (!eqD d e):=by
 have hu0:A.units < cLine:=by omega
 cases d with
 | fl a=>cases sd
 | tup ds =>
  unfold D.dep at hu;unfold Is at hx;obtain ⟨a,xs,rfl,h1,h2⟩:=hx;cases rx;obtain ⟨its,r,ht,_⟩:=I.tuple h1;cases e with
  | fl b=>cases se
  | tup es =>
   unfold Is at hy;obtain ⟨b,ys,rfl,k1,k2⟩:=hy;cases ry;obtain ⟨its2,r2,ht2,_⟩:=I.tuple k1;have e1:=Bn ds es (eAt ds es) fun i a b q1 q2=>eAt_of q1 q2
   have it:=MD I (A:=A) (n:=depL ds) (mF _) (by omega) r r2 h2 k2;have q:=RcAt.tuples (e:=eAt ds es) ht ht2 hu0 it;have q':=RcNeAt.tuples (e:=eAt ds es) ht ht2 hu0 it;rw [mD,mD,<- r.length,<- r2.length,h2.length,k2.length,e1] at q q';unfold eqD;exact ⟨q,q'⟩
  | lst es =>
   unfold Is at hy;obtain ⟨b,ys,rfl,k1,k2⟩:=hy;cases ry;obtain ⟨its2,r2,ht2,_⟩:=I.list k1;unfold eqD;exact ⟨RcAt.tuple_list ht ht2.isList hu0,RcNeAt.tuple_list ht ht2.isList hu0⟩
 | lst ds =>
  unfold D.dep at hu;unfold Is at hx;obtain ⟨a,xs,rfl,h1,h2⟩:=hx;cases rx;obtain ⟨its,r,ht,_⟩:=I.list h1;cases e with
  | fl b=>cases se
  | tup es =>
   unfold Is at hy;obtain ⟨b,ys,rfl,k1,k2⟩:=hy;cases ry;obtain ⟨its2,r2,ht2,_⟩:=I.tuple k1;unfold eqD;exact ⟨RcAt.list_tuple ht.isList ht2 hu0,RcNeAt.list_tuple ht.isList ht2 hu0⟩
  | lst es =>
   unfold Is at hy;obtain ⟨b,ys,rfl,k1,k2⟩:=hy;cases ry;obtain ⟨its2,r2,ht2,_⟩:=I.list k1;have e1:=Bn ds es (eAt ds es) fun i a b q1 q2=>eAt_of q1 q2
   unfold eqD
   by_cases hsz:ds.length=es.length
   ·rw [hsz,pJ,beq_self_eq_true,Bool.and_true] at e1;have it:=MD I (A:=A) (n:=depL ds) (mF _) (by omega) r r2 h2 k2;have sz:its.toArray.size=its2.toArray.size:=by rw [mD,mD,<- r.length,<- r2.length,h2.length,k2.length];exact hsz
    have q:=RcAt.lists (e:=eAt ds es) ht.isList ht2.isList sz hu0 it;have q':=RcNeAt.lists (e:=eAt ds es) ht.isList ht2.isList sz hu0 it;rw [mD,<- r.length,h2.length,hsz,e1] at q q';exact ⟨q,q'⟩
   ·have sz:(its.toArray.size != its2.toArray.size)=true:=by rw [mD,mD,<- r.length,<- r2.length,h2.length,k2.length];simpa using hsz
    have:(ds.length == es.length)=false:=by simpa using hsz
    rw [this,pX] at e1;rw [<- e1];exact ⟨RcAt.lists_lengths ht.isList ht2.isList sz hu0,RcNeAt.lists_lengths ht.isList ht2.isList sz hu0⟩
end
section
variable {X:Cx} {pins:List (Addr×Obj)} {σ:L2.St} {H:Hp} {s:Shared}
theorem Wi {A:Around} {x y:V} {u v:Value} (rx:RelV x u) (ry:RelV y v) (fx:FH x=true) (fy:FH y=true):RcAt A s u v (eqV x y)/\RcNeAt A s u v (!eqV x y):=by
 rcases As fx with rfl | ⟨c,rfl⟩ | ⟨c,rfl⟩ | ⟨c,rfl⟩<;>rcases As fy with rfl | ⟨d,rfl⟩ | ⟨d,rfl⟩ | ⟨d,rfl⟩
 ·cases rx;cases ry;exact ⟨RcAt.none_none , RcNeAt.none_none ⟩
 ·cases rx;cases ry;exact ⟨RcAt.none_bool d,RcNeAt.none_bool d⟩
 ·cases rx;obtain ⟨dt,rfl⟩:=ry;exact ⟨RcAt.none_int d dt,RcNeAt.none_int d dt⟩
 ·cases rx;obtain ⟨dt,rfl⟩:=ry;exact ⟨RcAt.none_str d dt,RcNeAt.none_str d dt⟩
 ·cases rx;cases ry;exact ⟨RcAt.bool_none c,RcNeAt.bool_none c⟩
 ·cases rx;cases ry;exact ⟨RcAt.bool_bool c d,RcNeAt.bool_bool c d⟩
 ·cases rx;obtain ⟨dt,rfl⟩:=ry;exact ⟨RcAt.bool_int c d dt,RcNeAt.bool_int c d dt⟩
 ·cases rx;obtain ⟨dt,rfl⟩:=ry;exact ⟨RcAt.bool_str c d dt,RcNeAt.bool_str c d dt⟩
 ·obtain ⟨ct,rfl⟩:=rx;cases ry;exact ⟨RcAt.int_none c ct,RcNeAt.int_none c ct⟩
 ·obtain ⟨ct,rfl⟩:=rx;cases ry;exact ⟨RcAt.int_bool c ct d,RcNeAt.int_bool c ct d⟩
 ·obtain ⟨ct,rfl⟩:=rx;obtain ⟨dt,rfl⟩:=ry;exact ⟨RcAt.int_int c ct d dt,RcNeAt.int_int c ct d dt⟩
 ·obtain ⟨ct,rfl⟩:=rx;obtain ⟨dt,rfl⟩:=ry;exact ⟨RcAt.int_str c ct d dt,RcNeAt.int_str c ct d dt⟩
 ·obtain ⟨ct,rfl⟩:=rx;cases ry;exact ⟨RcAt.str_none c ct,RcNeAt.str_none c ct⟩
 ·obtain ⟨ct,rfl⟩:=rx;cases ry;exact ⟨RcAt.str_bool c ct d,RcNeAt.str_bool c ct d⟩
 ·obtain ⟨ct,rfl⟩:=rx;obtain ⟨dt,rfl⟩:=ry;exact ⟨RcAt.str_int c ct d dt,RcNeAt.str_int c ct d dt⟩
 ·obtain ⟨ct,rfl⟩:=rx;obtain ⟨dt,rfl⟩:=ry;exact ⟨RcAt.str_str c ct d dt,RcNeAt.str_str c ct d dt⟩
theorem La (I:Inv X pins σ H s) {A:Around} {d e:D} {x y:V} {u v:Value} (hu:A.units+d.dep+1 < cLine) (rx:RelV x u) (ry:RelV y v) (hx:Is X.K H x d) (hy:Is X.K H y e):RcAt A s u v (eqD d e)/\RcNeAt A s u v (!eqD d e):=by
 have hu0:A.units < cLine:=by omega
 cases d with
 | fl a =>
  unfold Is at hx;obtain ⟨rfl,fx⟩:=hx;cases e with
  | fl b =>
   unfold Is at hy;obtain ⟨rfl,fy⟩:=hy;unfold eqD;exact Wi rx ry fx fy
  | tup es =>
   unfold Is at hy;obtain ⟨b,ys,rfl,k1,k2⟩:=hy;cases ry;obtain ⟨its2,r2,ht2,_⟩:=I.tuple k1;unfold eqD;rcases As fx with rfl | ⟨c,rfl⟩ | ⟨c,rfl⟩ | ⟨c,rfl⟩
   ·cases rx;exact ⟨RcAt.none_tuple ht2 hu0,RcNeAt.none_tuple ht2 hu0⟩
   ·cases rx;exact ⟨RcAt.bool_tuple c ht2 hu0,RcNeAt.bool_tuple c ht2 hu0⟩
   ·obtain ⟨t,rfl⟩:=rx;exact ⟨RcAt.int_tuple c t ht2 hu0,RcNeAt.int_tuple c t ht2 hu0⟩
   ·obtain ⟨t,rfl⟩:=rx;exact ⟨RcAt.str_tuple c t ht2 hu0,RcNeAt.str_tuple c t ht2 hu0⟩
  | lst es =>
   unfold Is at hy;obtain ⟨b,ys,rfl,k1,k2⟩:=hy;cases ry;obtain ⟨its2,r2,ht2,_⟩:=I.list k1;unfold eqD;rcases As fx with rfl | ⟨c,rfl⟩ | ⟨c,rfl⟩ | ⟨c,rfl⟩
   ·cases rx;exact ⟨RcAt.none_list ht2.isList hu0,RcNeAt.none_list ht2.isList hu0⟩
   ·cases rx;exact ⟨RcAt.bool_list c ht2.isList hu0,RcNeAt.bool_list c ht2.isList hu0⟩
   ·obtain ⟨t,rfl⟩:=rx;exact ⟨RcAt.int_list c t ht2.isList hu0,RcNeAt.int_list c t ht2.isList hu0⟩
   ·obtain ⟨t,rfl⟩:=rx;exact ⟨RcAt.str_list c t ht2.isList hu0,RcNeAt.str_list c t ht2.isList hu0⟩
 | tup ds =>
  cases e with
  | fl b =>
   unfold Is at hx hy;obtain ⟨b',ys,rfl,k1,k2⟩:=hx;obtain ⟨rfl,fy⟩:=hy;cases rx;obtain ⟨its2,r2,ht2,_⟩:=I.tuple k1;unfold eqD;rcases As fy with rfl | ⟨c,rfl⟩ | ⟨c,rfl⟩ | ⟨c,rfl⟩
   ·cases ry;exact ⟨RcAt.tuple_none ht2 hu0,RcNeAt.tuple_none ht2 hu0⟩
   ·cases ry;exact ⟨RcAt.tuple_bool c ht2 hu0,RcNeAt.tuple_bool c ht2 hu0⟩
   ·obtain ⟨t,rfl⟩:=ry;exact ⟨RcAt.tuple_int c t ht2 hu0,RcNeAt.tuple_int c t ht2 hu0⟩
   ·obtain ⟨t,rfl⟩:=ry;exact ⟨RcAt.tuple_str c t ht2 hu0,RcNeAt.tuple_str c t ht2 hu0⟩
  | tup es=>exact KA I rfl rfl hu rx ry hx hy
  | lst es=>exact KA I rfl rfl hu rx ry hx hy
 | lst ds =>
  cases e with
  | fl b =>
   unfold Is at hx hy;obtain ⟨b',ys,rfl,k1,k2⟩:=hx;obtain ⟨rfl,fy⟩:=hy;cases rx;obtain ⟨its2,r2,ht2,_⟩:=I.list k1;unfold eqD;rcases As fy with rfl | ⟨c,rfl⟩ | ⟨c,rfl⟩ | ⟨c,rfl⟩
   ·cases ry;exact ⟨RcAt.list_none ht2.isList hu0,RcNeAt.list_none ht2.isList hu0⟩
   ·cases ry;exact ⟨RcAt.list_bool c ht2.isList hu0,RcNeAt.list_bool c ht2.isList hu0⟩
   ·obtain ⟨t,rfl⟩:=ry;exact ⟨RcAt.list_int c t ht2.isList hu0,RcNeAt.list_int c t ht2.isList hu0⟩
   ·obtain ⟨t,rfl⟩:=ry;exact ⟨RcAt.list_str c t ht2.isList hu0,RcNeAt.list_str c t ht2.isList hu0⟩
  | tup es=>exact KA I rfl rfl hu rx ry hx hy
  | lst es=>exact KA I rfl rfl hu rx ry hx hy
def rEqA (K:W.Frag) (neg:Bool):R2:=fun x y H Q=>∃ d e,d.dep<=150/\Is K H x d/\Is K H y e/\Q (.bl (if neg then !eqD d e else eqD d e)) H
theorem op_eqA {j:Nat} (hr:Room j X.A):CH X (compareOp .Eq) (rEqA X.K false):=by
 intro pins s σ H x y v u Q I rx ry h;obtain ⟨d,e,hd,hx,hy,q⟩:=h;have:=hr.un;exact (La I (by omega) rx ry hx hy).1 X.prog X.w _ _ ⟨.bl _,H,I,rfl,q⟩
theorem op_neA {j:Nat} (hr:Room j X.A):CH X (compareOp .NotEq) (rEqA X.K true):=by
 intro pins s σ H x y v u Q I rx ry h;obtain ⟨d,e,hd,hx,hy,q⟩:=h;have:=hr.un;exact (La I (by omega) rx ry hx hy).2 X.prog X.w _ _ ⟨.bl _,H,I,rfl,q⟩
open Classical in
def eqW (its:List Value) (ds:List D) (e:D) (u:Value):Bool:=decide (∃ (i:Nat) (d:D),its[i]?=some u/\ds[i]?=some d/\eqD d e=true)
open Classical in
theorem eqW_at (I:Inv X pins σ H s) {xs:List V} {its:List Value} {ds:List D} (r:AE xs its) (h:IsL X.K H xs ds) {e:D} {i:Nat} {u:Value} {d:D} (hu:its[i]?=some u) (hd:ds[i]?=some d):eqW its ds e u=eqD d e:=by
 have key:∀ (j:Nat) (d':D),its[j]?=some u->ds[j]?=some d'->d'=d:=fun j d' h1 h2=>by
  obtain ⟨x,ex,px⟩:=h.get hd;obtain ⟨y,ey,py⟩:=h.get h2;obtain ⟨u1,e1,r1⟩:=r.get ex;obtain ⟨u2,e2,r2⟩:=r.get ey;rw [hu] at e1;cases e1;rw [h1] at e2;cases e2;rw [r2.inj r1] at py;exact Is.inj I py px
 unfold eqW;cases q:eqD d e with
 | true=>exact decide_eq_true ⟨i,d,hu,hd,q⟩
 | false =>
  refine decide_eq_false ?_;rintro ⟨j,d',h1,h2,h3⟩;rw [key j d' h1 h2,q] at h3;cases h3
theorem Gp (I:Inv X pins σ H s) {xs:List V} {its:List Value} {ds:List D} (r:AE xs its) (h:IsL X.K H xs ds) (e:D):its.any (eqW its ds e)=ds.any fun d=>eqD d e:=by
 rw [Bool.eq_iff_iff,pN,pN];have hl:its.length=ds.length:=by rw [<- r.length,h.length]
 constructor
 ·rintro ⟨u,hu,q⟩;obtain ⟨i,hi,rfl⟩:=pA hu;have hd:ds[i]?=some ds[i]:=lz (by omega);rw [eqW_at I r h (lz hi) hd] at q;exact ⟨_,nV hd,q⟩
 ·rintro ⟨d,hd,q⟩;obtain ⟨i,hi,rfl⟩:=pA hd;have hu:its[i]?=some its[i]:=lz (by omega);exact ⟨_,nV hu,by rw [eqW_at I r h hu (lz hi)];exact q⟩
theorem all_eqW (I:Inv X pins σ H s) {A:Around} {xs:List V} {its:List Value} {ds:List D} (r:AE xs its) (h:IsL X.K H xs ds) {e:D} {y:V} {v:Value} (ry:RelV y v) (hy:Is X.K H y e) (hd:depL ds<=150) (hu:A.units+150 < cLine):∀ w∈its,EqAt A s w v (eqW its ds e w):=fun w hw=>by
 obtain ⟨i,hi,rfl⟩:=pA hw;have hl:its.length=ds.length:=by rw [<- r.length,h.length]
 have hdi:ds[i]?=some ds[i]:=lz (by omega);rw [eqW_at I r h (lz hi) hdi];obtain ⟨x,ex,px⟩:=h.get hdi;obtain ⟨u1,e1,r1⟩:=r.get ex;rw [lz hi] at e1;cases e1;exact Ut I 150 A _ _ x y _ _ (mQ (FJ hdi) hd) hu r1 ry px hy
def rInA (K:W.Frag) (neg:Bool):R2:=fun x y H Q=>∃ p ys ds e,y=.ref p/\(DA K H p ys\/Eg K H p ys)/\IsL K H ys ds/\Is K H x e/\depL ds<=150/\Q (.bl (if neg then !(ds.any fun d=>eqD d e) else ds.any fun d=>eqD d e)) H
theorem op_inA {j:Nat} (hr:Room j X.A):CH X (compareOp .In) (rInA X.K false):=by
 intro pins s σ H x y v u Q I rx ry h;obtain ⟨p,ys,ds,e,rfl,hq,hl,hx,hd,q⟩:=h;have hu:X.A.units+1+150 < cLine:=by have:=hr.un;omega
 cases ry;rcases hq with hq | hq
 ·obtain ⟨its,r,pl,hz⟩:=I.list hq;refine SeqAt.in_listAt (eqW its ds e) pl.isList (fun w hw=>all_eqW I r hl rx hx hd hu w (by simpa using hw)) ⟨.bl _,H,I,rfl,?_⟩;rw [show its.toArray.any (eqW its ds e)=its.any (eqW its ds e) by simp,Gp I r hl];exact q
 ·obtain ⟨its,r,pl,hz⟩:=I.tuple hq;refine SeqAt.in_tupleAt (eqW its ds e) pl (fun w hw=>all_eqW I r hl rx hx hd hu w (by simpa using hw)) ⟨.bl _,H,I,rfl,?_⟩;rw [show its.toArray.any (eqW its ds e)=its.any (eqW its ds e) by simp,Gp I r hl];exact q
theorem op_notInA {j:Nat} (hr:Room j X.A):CH X (compareOp .NotIn) (rInA X.K true):=by
 intro pins s σ H x y v u Q I rx ry h;obtain ⟨p,ys,ds,e,rfl,hq,hl,hx,hd,q⟩:=h;have hu:X.A.units+1+150 < cLine:=by have:=hr.un;omega
 cases ry;rcases hq with hq | hq
 ·obtain ⟨its,r,pl,hz⟩:=I.list hq;refine SeqAt.notIn_listAt (eqW its ds e) pl.isList (fun w hw=>all_eqW I r hl rx hx hd hu w (by simpa using hw)) ⟨.bl _,H,I,rfl,?_⟩;rw [show its.toArray.any (eqW its ds e)=its.any (eqW its ds e) by simp,Gp I r hl];exact q
 ·obtain ⟨its,r,pl,hz⟩:=I.tuple hq;refine SeqAt.notIn_tupleAt (eqW its ds e) pl (fun w hw=>all_eqW I r hl rx hx hd hu w (by simpa using hw)) ⟨.bl _,H,I,rfl,?_⟩;rw [show its.toArray.any (eqW its ds e)=its.any (eqW its ds e) by simp,Gp I r hl];exact q
end
end L3
namespace Q
open PySem L2
mutual
noncomputable def toD:Dt->L3.D
 | .non=>.fl .non
 | .bl b=>.fl (.bl b)
 | .int i=>.fl (.int i)
 | .str l=>.fl (.str (tx l))
 | .tup xs=>.tup (toDs xs)
 | .lst _ xs=>.lst (toDs xs)
 | _=>.fl .non
noncomputable def toDs:List Dt->List L3.D
 | []=>[]
 | d::ds=>toD d::toDs ds
end
mutual
noncomputable def Dt.cmp:Dt->Bool
 | .non=>true
 | .bl _=>true
 | .int _=>true
 | .str _=>true
 | .tup xs=>cmps xs
 | .lst _ xs=>cmps xs
 | _=>false
noncomputable def cmps:List Dt->Bool
 | []=>true
 | d::ds=>d.cmp && cmps ds
end
mutual
noncomputable def Dt.dep:Dt->Nat
 | .tup xs=>RD xs+1
 | .lst _ xs=>RD xs+1
 | _=>0
noncomputable def RD:List Dt->Nat
 | []=>0
 | d::ds=>max d.dep (RD ds)
end
mutual
noncomputable def eqT:Dt->Dt->Bool
 | .non,.non=>true
 | .bl a,.bl b=>a == b
 | .bl a,.int b=>(if a then 1 else 0) == b
 | .int a,.bl b=>a == (if b then 1 else 0)
 | .int a,.int b=>a == b
 | .str a,.str b=>a == b
 | .tup xs,.tup ys=>MN xs ys
 | .lst _ xs,.lst _ ys=>MN xs ys
 | _,_=>false
noncomputable def MN:List Dt->List Dt->Bool
 | [],[]=>true
 | x::xs,y::ys=>eqT x y && MN xs ys
 | _,_=>false
end
mutual
theorem Zk:∀ (d e:Dt),d.cmp=true->e.cmp=true->L3.eqD (toD d) (toD e)=eqT d e
 | .non,e,h,k=>by cases e<;>first | (unfold toD L3.eqD eqT;rfl) | (unfold Dt.cmp at k;cases k)
 | .bl b,e,h,k=>by cases e<;>first | (unfold toD L3.eqD eqT;rfl) | (unfold Dt.cmp at k;cases k)
 | .int i,e,h,k=>by cases e<;>first | (unfold toD L3.eqD eqT;rfl) | (unfold Dt.cmp at k;cases k)
 | .str l,e,h,k=>by
  cases e with
  | str m=>unfold toD L3.eqD eqT;rw [eqV_str];exact (Bool.beq_eq_decide_eq l m).symm
  | _=>first | (unfold toD L3.eqD eqT;rfl) | (unfold Dt.cmp at k;cases k)
 | .tup xs,e,h,k=>by
  cases e with
  | tup ys=>unfold toD L3.eqD eqT;unfold Dt.cmp at h k;exact Nt xs ys h k
  | _=>first | (unfold toD L3.eqD eqT;rfl) | (unfold Dt.cmp at k;cases k)
 | .lst o xs,e,h,k=>by
  cases e with
  | lst o' ys=>unfold toD L3.eqD eqT;unfold Dt.cmp at h k;exact Nt xs ys h k
  | _=>first | (unfold toD L3.eqD eqT;rfl) | (unfold Dt.cmp at k;cases k)
 | .dic o xs,e,h,k=>by unfold Dt.cmp at h;cases h
 | .ref o,e,h,k=>by unfold Dt.cmp at h;cases h
 | .scr o,e,h,k=>by unfold Dt.cmp at h;cases h
 | .ty o,e,h,k=>by unfold Dt.cmp at h;cases h
 | .mtp o,e,h,k=>by unfold Dt.cmp at h;cases h
 | .dti _ o,e,h,k=>by unfold Dt.cmp at h;cases h
theorem Nt:∀ (d e:List Dt),cmps d=true->cmps e=true->L3.eqDs (toDs d) (toDs e)=MN d e
 | [],[],_,_=>by unfold toDs L3.eqDs MN;rfl
 | [],_::_,_,_=>by simp only [toDs,L3.eqDs,MN]
 | _::_,[],_,_=>by simp only [toDs,L3.eqDs,MN]
 | x::xs,y::ys,h,k=>by
  unfold cmps at h k;rw [ly] at h k;simp only [toDs,L3.eqDs,MN];rw [Zk x y h.1 k.1,Nt xs ys h.2 k.2]
end
mutual
theorem dep_D:∀ (d:Dt),(toD d).dep=d.dep
 | .non=>by unfold toD L3.D.dep Dt.dep;rfl
 | .bl b=>by unfold toD L3.D.dep Dt.dep;rfl
 | .int i=>by unfold toD L3.D.dep Dt.dep;rfl
 | .str l=>by unfold toD L3.D.dep Dt.dep;rfl
 | .tup xs=>by unfold toD L3.D.dep Dt.dep;rw [deps_D xs]
 | .lst o xs=>by unfold toD L3.D.dep Dt.dep;rw [deps_D xs]
 | .dic o xs=>by unfold toD L3.D.dep Dt.dep;rfl
 | .ref o=>by unfold toD L3.D.dep Dt.dep;rfl
 | .scr o=>by unfold toD L3.D.dep Dt.dep;rfl
 | .ty o=>by unfold toD L3.D.dep Dt.dep;rfl
 | .mtp o=>by unfold toD L3.D.dep Dt.dep;rfl
 | .dti _ o=>by unfold toD L3.D.dep Dt.dep;rfl
theorem deps_D:∀ (d:List Dt),L3.depL (toDs d)=RD d
 | []=>by unfold toDs L3.depL RD;rfl
 | x::xs=>by simp only [toDs,L3.depL,RD];rw [dep_D x,deps_D xs]
end
section
variable {K:W.Frag} {g:G} {H:Hp}
def bz (e:Dt) (ds:List Dt):Bool:=ds.any fun d=>eqT d e
def sub1 (x l:List Nat):Bool:=!(Builtin.Str.occurrences (tx l) (tx x) 0 (tx l).length 1).isEmpty
def aq (neg:Bool):R2:=fun x y H Q=>∃ i j,x=.str i/\y=.str j/\Q (.bl (if neg then !(!(Builtin.Str.occurrences j i 0 j.length 1).isEmpty) else !(Builtin.Str.occurrences j i 0 j.length 1).isEmpty)) H
def rInQ (K:W.Frag) (neg:Bool):R2:=fun x y H Q=>aq neg x y H Q\/L3.rInA K neg x y H Q
theorem anyD (e:Dt) (he:e.cmp=true):∀ (ds:List Dt),cmps ds=true->((toDs ds).any fun d=>L3.eqD d (toD e))=bz e ds
 | [],_=>by unfold toDs bz;rfl
 | d::ds,h=>by
  unfold cmps at h;rw [ly] at h;unfold bz;simp only [toDs,nU];rw [Zk d e h.1 he,anyD e he ds h.2];rfl
end
section
end
section
end
section
variable {K:W.Frag}
def rIndexD (K:W.Frag):V->List V->Hp->VK->Prop:=fun x vs H Q=>∃ p xs y ds e j,x=.ref p/\vs=[y]/\DA K H p xs/\L3.IsL K H xs ds/\L3.Is K H y e/\L3.depL ds<=150/\(∃ d,ds[j]?=some d/\L3.eqD d e=true)/\(∀ (m:Nat) (d:L3.D),m < j->ds[m]?=some d->L3.eqD d e=false)/\Q (.int (j:Nat)) H
theorem mt_indexD {X:Cx} {j:Nat} (hr:Room j X.A):eE X "list.index" (rIndexD X.K):=by
 intro pins s σ H x vs v us Q I rx rv h;obtain ⟨p,xs,y,ds,e,j,rfl,rfl,hp,hds,hy,hdp,⟨dj,ej,hit⟩,hno,q⟩:=h;cases rx;obtain ⟨u,rfl,ru⟩:=rv.one;obtain ⟨its,r,pl,hz⟩:=I.list hp;obtain ⟨⟨cls,dd,data,sl⟩,ho,hc,n,hd⟩:=pl.isList;simp only at hc hd;subst hc hd;have hu:X.A.units+1+150 < cLine:=by have:=hr.un;omega
 have hl:its.length=ds.length:=by rw [<- r.length,hds.length]
 have hj:j < ds.length:=(mB.mp ej).1;have hs:sizeLine=16777216:=sizeLine_eq;have hxl:=r.length;have at_:∀ m (hm:m < its.toArray.size),∃ d,ds[m]?=some d/\L3.eqW its ds e its.toArray[m]=L3.eqD d e:=fun m hm=>by
  have hm':m < its.length:=by simpa using hm
  have hd:ds[m]?=some ds[m]:=lz (by omega);exact ⟨ds[m],hd,by simpa using L3.eqW_at I r hds (lz hm') hd⟩
 refine call_meets F.slot_list_index ⟨_,ho,rfl⟩ F.entry_list_index (F.args_list_index_2 _ _)
  (SeqAt.list_indexAt p its.toArray n dd sl u (L3.eqW its ds e) j (by simpa [hl] using hj) (by omega) ?_ ?_) ⟨ho,fun w hw=>L3.all_eqW I r hds ru hy hdp hu w (by simpa using hw),⟨.int (j:Nat),H,I.tok _,⟨_,rfl⟩,q⟩⟩
 ·obtain ⟨w,e1,e2⟩:=at_ j (by simpa [hl] using hj);rw [ej] at e1;cases e1;rw [e2];exact hit
 ·intro m hm hlt;obtain ⟨w,e1,e2⟩:=at_ m hm;rw [e2];exact hno m w hlt e1
theorem toDs_get:∀ (ds:List Dt) (i:Nat),(toDs ds)[i]?=(ds[i]?).map toD
 | [],i=>by unfold toDs;simp
 | d::ds,0=>by unfold toDs;simp
 | d::ds,i+1=>by
  have:=toDs_get ds i;simp only [toDs,ph];exact this
def rIndexTD (K:W.Frag):V->List V->Hp->VK->Prop:=fun x vs H Q=>∃ p xs y ds e j,x=.ref p/\vs=[y]/\H p=some (.tup xs)/\L3.IsL K H xs ds/\L3.Is K H y e/\L3.depL ds<=150/\(∃ d,ds[j]?=some d/\L3.eqD d e=true)/\(∀ (m:Nat) (d:L3.D),m < j->ds[m]?=some d->L3.eqD d e=false)/\Q (.int (j:Nat)) H
theorem mt_indexTD {X:Cx} {j:Nat} (hr:Room j X.A):eE X "tuple.index" (rIndexTD X.K):=by
 intro pins s σ H x vs v us Q I rx rv h;obtain ⟨p,xs,y,ds,e,j,rfl,rfl,hp,hds,hy,hdp,⟨dj,ej,hit⟩,hno,q⟩:=h;cases rx;obtain ⟨u,rfl,ru⟩:=rv.one;obtain ⟨hz,its,r,⟨cls,dd,data,sl⟩,ho,hc,hdd,n,hd⟩:=I.hok p _ hp;simp only at hc hd;subst hc hd;have hu:X.A.units+1+150 < cLine:=by have:=hr.un;omega
 have hl:its.length=ds.length:=by rw [<- r.length,hds.length]
 have hj:j < ds.length:=(mB.mp ej).1;have at_:∀ m (hm:m < its.toArray.size),∃ d,ds[m]?=some d/\L3.eqW its ds e its.toArray[m]=L3.eqD d e:=fun m hm=>by
  have hm':m < its.length:=by simpa using hm
  have hd:ds[m]?=some ds[m]:=lz (by omega);exact ⟨ds[m],hd,by simpa using L3.eqW_at I r hds (lz hm') hd⟩
 refine call_meets F.slot_tuple_index ⟨_,ho,rfl⟩ F.entry_tuple_index (F.args_tuple_index_2 _ _)
  (IM p its.toArray n dd sl u (L3.eqW its ds e) j (by simpa [hl] using hj) ?_ ?_) ⟨ho,fun w hw=>L3.all_eqW I r hds ru hy hdp hu w (by simpa using hw),⟨.int (j:Nat),H,I.tok _,⟨_,rfl⟩,q⟩⟩
 ·obtain ⟨w,e1,e2⟩:=at_ j (by simpa [hl] using hj);rw [ej] at e1;cases e1;rw [e2];exact hit
 ·intro m hm hlt;obtain ⟨w,e1,e2⟩:=at_ m hm;rw [e2];exact hno m w hlt e1
end
section
end
section
variable {K:W.Frag}
noncomputable def isSub (k T:String):Bool:=k == T || (k == "bool" && T == "int")
theorem kit_ok (K:W.Frag) {k T:String} (hk:k∈["NoneType", "bool", "int", "str", "tuple", "list"]) (hT:T∈["int", "bool", "str", "tuple", "list"]):W.kitOne K (.type k) (.type T)=some (isSub k T):=by
 simp only [mL,mz,or_false] at hk hT;rcases hk with rfl | rfl | rfl | rfl | rfl | rfl<;>rcases hT with rfl | rfl | rfl | rfl | rfl<;>kernel_rfl
def rLeA:R2:=fun x y H Q=>(Rr fun i j=>.bl (decide (i<=j))) x y H Q\/∃ i j,x=.str i/\y=.str j/\Q (.bl (!decide (j.cps.toList < i.cps.toList))) H
theorem bf {X:Cx}:CH X (compareOp .LtE) (fun x y H Q=>∃ i j,x=.str i/\y=.str j/\Q (.bl (!decide (j.cps.toList < i.cps.toList))) H):=by
 intro pins s σ H x y v u Q I rx ry h;obtain ⟨i,j,rfl,rfl,q⟩:=h;obtain ⟨t,rfl⟩:=rx;obtain ⟨t',rfl⟩:=ry;exact PySem.P.le_str ⟨.bl _,H,I,rfl,q⟩
theorem op_leAQ {X:Cx}:CH X (compareOp .LtE) rLeA:=gX.or bf
end
section
end
section
end
theorem bg {X:Cx}:CH X (compareOp .In) (aq false):=QZ
theorem QY {X:Cx}:CH X (compareOp .NotIn) (aq true):=KG
theorem op_inQ {X:Cx} {j:Nat} (hr:Room j X.A):CH X (compareOp .In) (rInQ X.K false):=bg.or (L3.op_inA hr)
theorem op_notInQ {X:Cx} {j:Nat} (hr:Room j X.A):CH X (compareOp .NotIn) (rInQ X.K true):=QY.or (L3.op_notInA hr)
noncomputable abbrev tI (xs:List Int):Dt:=.tup (xs.map .int)
end Q
set_option maxHeartbeats 2000000
set_option maxHeartbeats 2000000
namespace L2
open PySem PySem.Spec PyProof.Rows
noncomputable def cT (ifs:List Expr) (env:Env):Sem Bool:=forIn ifs true fun c r=>if r=true then do let ok <- isTrue c env (eval c env);pure (ForInStep.yield ok) else pure (ForInStep.yield r)
def WC (X:Cx) (ifs:List Expr) (t:TT):Prop:=
 ∀ (pins:List (Addr×Obj)) (s:Shared) (σ:St) (H:Hp) (Q:Bool->Hp->Prop),Inv X pins σ H s->t σ H Q->wpAny (model X.prog X.w) X.A (cT ifs X.env) (TP X pins σ Q) X.xe s
theorem WC.one {X:Cx} {c:Expr} {t:TT} (h:PT X c t):WC X [c] t:=fun pins s σ H Q I q=>wpAny_tests_one (h pins s σ H Q I q)
theorem Ki {prog:Program} {w:World} {A:Around} {R:Result->Shared->Prop} {s:Shared} {elt target iter:Expr} {ifs:List Expr} {scope:Scope} {pos:Pos} {it acc:Value} {env:Env} (I:Nat->Shared->Prop)
    (turn:∀ n s,I n s->wpAny (model prog w) A (pyNext it) (fun r s₁=>match r with
      | none=>R (.ok .next) s₁
      | some v=>wpAny (model prog w) A (letOwnedTupleGo target it v) (fun _ s₂=>wpAny (model prog w) A (assign target env v) (fun _ s₃=>wpAny (model prog w) A (cT ifs env) (fun ok s₄=>if ok=true then wpAny (model prog w) A (eval elt env) (fun x s₅ =>
          wpAny (model prog w) A (call (.builtin "list.append") [acc,x]) (fun _ s₆=>∃ m,m < n/\I m s₆) (fun _ _=>False) s₅) (fun _ _=>False) s₄ else ∃ m,m < n/\I m s₄) (fun _ _=>False) s₃) (fun _ _=>False) s₂) (fun _ _=>False) s₁) (fun _ _=>False) s)
    (n:Nat) (h:I n s) :
    codeAny (model prog w) A (.compLoop (.ListComp elt [⟨target,iter,ifs,0⟩] scope pos) 0 it acc env) R s:=by
  refine codeAny_loop rfl I (fun n s hI=>?_) n h;show wpAny _ _ ((compTurn (.ListComp elt [⟨target,iter,ifs,0⟩] scope pos) 0 it acc env).onRaise (fun x=>do noteFrame x env;theTreesLotGoes x)) _ _ s;refine wpAny_noted ?_;rw [compTurn_list];have no:∀ {E:Value->Shared->Prop},∀ (e:Value) (s:Shared),False->E e s:=fun _ _ z=>z.elim
  refine wpAny_bind (wpAny_standAt (wpAny_bind (wpAny_mono (turn n s hI) (fun r s₁ h₁=>?_) no)));cases r with
  | none=>exact wpAny_pure h₁
  | some v =>
    refine wpAny_bind (wpAny_mono h₁ (fun _ s₂ h₂=>?_) no);refine wpAny_bind (wpAny_mono h₂ (fun _ s₃ h₃=>wpAny_bind (wpAny_mono h₃ (fun ok s₄ h₄=>?_) no)) no);cases ok with
    | false=>exact wpAny_pure ⟨rfl,h₄⟩
    | true=>exact wpAny_bind (wpAny_bind (wpAny_mono h₄ (fun x s₅ h₅=>wpAny_bind (wpAny_mono h₅ (fun _ s₆ h₆=>wpAny_pure (wpAny_pure ⟨rfl,h₆⟩)) no)) no))
section
variable {X:Cx} {tg iter elt:Expr} {ifs:List Expr} {scope:Scope} {pos:Pos} {g:TG} {te:TE} {tc:TT} {js:List Nat} {wi:TI}
def OP (js:List Nat) (g:TG) (tc:TT) (te:TE) (J:It) (σ:St) (Fin:List V->Hp->Prop) (W:Nat->Nat->List V->Hp->Prop):Prop:=∀ i m ys H,W i m ys H ->
 (J.stop i H/\Fin ys H)\/(J.go i H/\ys.length < sizeLine/\∃ N:List V->Hp->Prop,(∀ zs H',N zs H'->∃ m',m' < m/\W (i+1) m' zs H')/\∀ x H',J.yld i H x H'->g x (blank js σ) H' fun σ2 H2=>tc σ2 H2 fun b H3=>if b=true then te σ2 H3 fun v H4=>N (ys++[v]) H4 else N ys H3)
theorem GS {pins:List (Addr×Obj)} {s2:Shared} {σ:St} {H2:Hp} {it:Addr} {fp:List Addr} {tn:Nat->Heap->Prop} {J:It} {cl:List (Str×Addr)} {W:Nat->Nat->List V->Hp->Prop} {Fin:List V->Hp->Prop} {E:Value->Shared->Prop} {RR:Value->Addr->Result->Shared->Prop}
    (hin:InnerIn X.N X.env.scope scope js) (hc:X.calm=true) (hg:∀ cl C s H fp,PG (X.inner scope cl C s H fp) tg g) (hgo:Rv js g) (hcn:∀ cl C s H fp,WC (X.inner scope cl C s H fp) ifs tc) (he:∀ cl C s H fp,PE (X.inner scope cl C s H fp) elt te)
    (I2:Inv X pins σ H2 s2) (T:Turn X.prog X.w X.K tg J fp it tn) (t0:tn 0 s2.heap) (hf:∀ b∈fp,FpOk X pins H2 b)
    (hcl:∀ x c,cl.lookup x=some c->X.env.cells.lookup x=some c) (hfr:∀ x,scope.names.lookup x=some .free->∃ c,cl.lookup x=some c)
    {m0:Nat} (w0:W 0 m0 [] H2) (turn:OP js g tc te J σ Fin W)
    (hRR:∀ D C s' H' ys m,Inv X pins σ (upd H' D (.lst ys)) s'->H' D=none->Fin ys H'->s'.heap.Ns C m->C≠X.env.locals->X.s₀.heap.objs.size<=C->(∀ x c,X.env.cells.lookup x=some c->c≠C)->(∀ p∈X.pn++pins,p.1≠C)->H' C=none->D≠C->RR (.ref D) C (.ok .next) s') :
    wpAny (model X.prog X.w) X.A (newList []) (fun acc s₃=>wpAny (model X.prog X.w) X.A (newFunctionEnv scope X.env.globals cl [] X.env.qual none .none (some X.env)) (fun cenv s₄ =>
      codeAny (model X.prog X.w) X.A (.compStart (.ListComp elt [⟨tg,iter,ifs,0⟩] scope pos) 0 (.ref it) acc { cenv with scope:=relabel scope X.env }) (RR acc cenv.locals) s₄) E s₃) E s2:=by
  have hfe:∀ b∈fp,b < s2.heap.objs.size:=fun b hb=>let ⟨_,e,_⟩:=T.obj _ _ t0 b hb;mO e
  refine wpAny_newObj_type (Bx ?_);dsimp only
  generalize hHH:s2.heap.push { cls:=.type "list", dict:=none,data:=.seq ([]:List Value).toArray }=HH
  have hC:HH.objs.size=s2.heap.objs.size+1:=by rw [<- hHH,mn]
  have hDC:s2.heap.objs.size≠HH.objs.size:=by rw [hC];exact mh (pL _)
  have hCle:s2.heap.objs.size<=HH.objs.size:=by rw [hC];exact oT _
  have below:∀ b,b < s2.heap.objs.size->b≠HH.objs.size/\b≠s2.heap.objs.size:=fun b hb=>⟨by rw [hC];exact mh (Nat.lt_succ_of_lt hb),mh hb⟩
  obtain ⟨h₁,hh₁⟩:∃ h₁,pushCells (HH.push { cls:=.type "dict", data:=.dict #[] }) scope.names=h₁:=⟨_,rfl⟩
  have old:∀ b o,s2.heap.get? b=some o->h₁.get? b=some o:=fun b o e=>hh₁▸pushCells_keeps _ _ b o (lx _ (hHH▸lx _ e))
  have hacc:h₁.get? s2.heap.objs.size=some { cls:=.type "list", data:=.seq ([]:List Value).toArray 0 }:=hh₁▸pushCells_keeps _ _ _ _ (lx _ (hHH▸mK _ rfl))
  have hns₁:h₁.Ns HH.objs.size (fun _=>none):=hh₁▸(Heap.Ns.new HH (.type "dict")).keeps (pushCells_keeps _ _)
  obtain ⟨L,hown⟩:=YG (s:=s2) (C:=HH.objs.size) hin hcl hfr (h:=HH.push { cls:=.type "dict", data:=.dict #[] }) hCle (mn ..)
  rw [hh₁] at hown ⊢;generalize hcc:cellsFrom (HH.objs.size+1) scope.names cl=cl' at L hown ⊢;clear hh₁ hcc;generalize hDD:s2.heap.objs.size=D at *;generalize hCC:HH.objs.size=C at *;have hDle:s2.heap.objs.size<=D:=Nat.le_of_eq hDD;have hCle':s2.heap.objs.size<=C:=by rw [hDD];exact hCle
  have nocell:∀ (its:List Value) (n:Nat) v,({ cls:=.type "list", data:=.seq its.toArray n }:Obj).data≠.cell v:=fun _ _ _ z=>by cases z
  have I4:Inv (X.inner scope cl' C s2 H2 fp) (pins++[(D,{ cls:=.type "list", data:=.seq ([]:List Value).toArray 0 })]) (blank js σ) H2 { s2 with heap:=h₁,toks:=s2.toks }:=
    I2.enter hin hf (by rw [hDD];exact hfe) hCle' hDle hDC L hown old hns₁ hacc (nocell _ _)
  have stat:∀ {H':Hp} {o:Obj},(∀ b∈fp,H' b=none)->∀ b∈fp,FpOk (X.inner scope cl' C s2 H2 fp) (pins++[(D,o)]) H' b:=fun {H' o} hn b hb=>by
    obtain ⟨_,f1,f2,f3,f4,f5⟩:=hf b hb;refine ⟨hn b hb,(below b (hfe b hb)).1,fun z=>?_,.inl hb,fun x c e=>L.ne e (by rw [hDD];exact hfe b hb) f4,fun p hp=>?_⟩
    · rcases mL.mp (I2.stkSub b z) with e | e
      · exact f1 e
      · exact f2 e
    · have hp':p∈X.pn++(pins++[(D,o)]):=hp;rw [<- nB] at hp';rcases mU.mp hp' with z | z
      · exact f5 p z
      · have e:p=(D,o):=by simpa using z
        subst e;exact fun z=>(below b (hfe b hb)).2 z.symm
  have loop:∀ s₃:Shared,s₃={ s2 with heap:=h₁,toks:=s2.toks } ->
      codeAny (model X.prog X.w) X.A (.compLoop (.ListComp elt [⟨tg,iter,ifs,0⟩] scope pos) 0 (.ref it) (.ref D) (compEnvC scope cl' C X.env)) (RR (.ref D) C) s₃:=by
    rintro s₃ rfl
    refine Ki (fun n s'=>∃ i ys its k H',Inv (X.inner scope cl' C s2 H2 fp) (pins++[(D,{ cls:=.type "list", data:=.seq its.toArray k })]) (blank js σ) H' s'/\tn i s'.heap/\(∀ b∈fp,H' b=none)/\AE ys its/\ys.length<=sizeLine/\W i n ys H') ?_ m0
      ⟨0,[],[],0,H2,I4,T.keep _ _ _ t0 fun b hb o e=>old b o e,fun b hb=>(hf b hb).1,.nil,nG _,w0⟩
    rintro n s3 ⟨i,ys,its,k,H3,I3,st3,fr3,hv3,hz3,w3⟩;rcases turn i n ys H3 w3 with ⟨stop,fin⟩ | ⟨go,hlt,N,hN,step⟩
    · refine Ap (T.done (X.inner scope cl' C s2 H2 fp) rfl rfl rfl hc i _ s3 _ H3 _ I3 (stat fr3) st3 stop) fun r s4 ⟨hr,I4⟩=>?_
      subst hr
      have pD:=I4.pin (D,{ cls:=.type "list", data:=.seq its.toArray k }) (mG _ (mG _ mC))
      obtain ⟨m,hn,_⟩:=id I4.loc;refine hRR D C s4 H3 ys m (I2.leave (fp:=fp) hf rfl I4 hDle pD.2.1 hz3 hv3 pD.1) pD.2.1 fin hn ?_ ?_ (fun x c e=>?_) (fun p hp=>?_) I4.free hDC
      · exact oW (mP I2.lt hCle')
      · exact mQ I2.sz hCle'
      · exact mh (mP (I2.cellLt e) hCle')
      · exact mh (mP (I2.pinLt hp) hCle')
    · refine Ap (T.item (X.inner scope cl' C s2 H2 fp) rfl rfl rfl hc i _ s3 _ H3 _ I3 (stat fr3) st3 go) fun r s4 ⟨u,hr,h4⟩=>?_
      subst hr;refine Ap h4 fun _ s5 ⟨x,H5,I5,r5,y5,st5,fr5⟩=>?_
      have I5':=I5.pinned (stat fr5) (T.obj _ _ st5);refine Ap (hg cl' C s2 H2 fp _ s5 _ H5 x u _ I5' r5 (hgo _ _ _ _ (step x H5 y5))) fun _ s6 ⟨σ6,H6,I6,⟨hl6,hs6⟩,q6⟩=>?_
      refine Ap (hcn cl' C s2 H2 fp _ s6 σ6 H6 _ I6 q6) fun ok s6b ⟨H6b,I6b,q6b⟩=>?_
      have other:∀ (s7:Shared) (v:Value) (b:Addr) (u:Obj),b≠D->s7.heap.get? b=some u->(s7.heap.update D (Obj.mapSeq fun a=>a.push v)).get? b=some u:=fun s7 v b u hb hu=>(nz s7.heap (Obj.mapSeq fun a=>a.push v) (Ne.symm hb)).trans hu
      cases ok with
      | false =>
        obtain ⟨m',hm,w7⟩:=hN _ _ q6b
        have pD:=I6b.pin (D,{ cls:=.type "list", data:=.seq its.toArray k }) (mG _ (mN _ (mG _ mC)))
        have fpk:∀ b∈fp,∀ o,s5.heap.get? b=some o->s6b.heap.get? b=some o/\H6b b=none:=fun b hb o e =>
          let z:=I6b.pin (b,o) (mG _ (mG _ (DF hb e)));⟨z.1,z.2.1⟩
        have I8:Inv (X.inner scope cl' C s2 H2 fp) pins (blank js σ) H6b s6b:=by
          have Ia:Inv (X.inner scope cl' C s2 H2 fp) pins σ6 H6b s6b:=I6b.pins_of fun p hp=>I6b.pin p (mG _ (mN _ (mN _ hp)))
          exact Ia.weak hl6.symm fun i v e=>by
            obtain ⟨hj,_⟩:=GK js σ i v e;rw [hs6 i hj];exact e
        refine ⟨m',hm,i+1,ys,its,k,H6b,I8.pins_of (fun p hp=>?_),T.keep _ _ _ st5 fun b hb o e=>(fpk b hb o e).1,fun b hb=>?_,hv3,hz3,w7⟩
        · rcases mU.mp hp with z | z
          · exact I8.pin p (mG _ z)
          · have e:p=(D,_):=mY.mp z;subst e;exact ⟨pD.1,pD.2.1,pD.2.2.1,pD.2.2.2.1,nocell _ _⟩
        · obtain ⟨o,e,_⟩:=T.obj _ _ st5 b hb;exact (fpk b hb o e).2
      | true =>
      refine Ap (he cl' C s2 H2 fp _ s6b σ6 H6b _ I6b q6b) fun v s7 ⟨y,H7,I7,r7,n7⟩=>?_
      obtain ⟨m',hm,w7⟩:=hN _ _ n7
      have pD:=I7.pin (D,{ cls:=.type "list", data:=.seq its.toArray k }) (mG _ (mN _ (mG _ mC)))
      have lt:its.toArray.size<=sizeLine:=by rw [mD,<- hv3.length];exact hz3
      refine call_meets F.slot_list_append ⟨_,pD.1,rfl⟩ F.entry_list_append (F.args_list_append_2 _ _) (PySem.list_append D its.toArray k v lt) ⟨pD.1,?_⟩
      obtain ⟨k',q⟩:∃ k',(s7.heap.update D (Obj.mapSeq fun a=>a.push v)).get? D=some { cls:=.type "list", data:=.seq (its.toArray.push v) k' }:=⟨_,PySem.IsL.update pD.1 (fun a=>a.push v)⟩
      have eq:(its.toArray.push v)=(its++[v]).toArray:=by simp
      have fpk:∀ b∈fp,∀ o,s5.heap.get? b=some o->s7.heap.get? b=some o/\H7 b=none:=fun b hb o e =>
        let z:=I7.pin (b,o) (mG _ (mG _ (DF hb e)));⟨z.1,z.2.1⟩
      have other:∀ b u,b≠D->s7.heap.get? b=some u->(s7.heap.update D (Obj.mapSeq fun a=>a.push v)).get? b=some u:=fun b u hb hu=>(nz s7.heap (Obj.mapSeq fun a=>a.push v) (Ne.symm hb)).trans hu
      have I8:Inv (X.inner scope cl' C s2 H2 fp) pins (blank js σ) H7 { s7 with heap:=s7.heap.update D (Obj.mapSeq fun a=>a.push v),toks:=s7.toks }:=by
        have Ia:Inv (X.inner scope cl' C s2 H2 fp) pins σ6 H7 s7:=I7.pins_of fun p hp=>I7.pin p (mG _ (mN _ (mN _ hp)))
        have Ib:Inv (X.inner scope cl' C s2 H2 fp) pins (blank js σ) H7 s7:=Ia.weak hl6.symm fun i v e=>by
          obtain ⟨hj,_⟩:=GK js σ i v e;rw [hs6 i hj];exact e
        refine Ib.turned (it:=D) (fun b o hb e=>other b o hb e) pD.2.1 pD.2.2.1 (.inr hDle) (fun x c e=>?_) (fun p hp=>?_)
        · cases q:AN scope x with
          | false=>exact mh (mP (I2.cellLt (L.old x c e q)) hDle)
          | true=>exact oW (oX hCle (L.own x c e q).2)
        · exact mh (mP (I2.pinLt hp) hDle)
      refine ⟨m',hm,i+1,ys++[y],its++[v],k',H7,I8.pins_of (fun p hp=>?_),T.keep _ _ _ st5 fun b hb o e=>other b o (below b (hfe b hb)).2 (fpk b hb o e).1,fun b hb=>?_,hv3.append (.cons r7 .nil),by rw [mV,nN];omega,w7⟩
      · rcases mU.mp hp with z | z
        · exact I8.pin p (mG _ z)
        · have e:p=(D,_):=mY.mp z;subst e;rw [<- eq];exact ⟨q,pD.2.1,pD.2.2.1,pD.2.2.2.1,nocell _ _⟩
      · obtain ⟨o,e,_⟩:=T.obj _ _ st5 b hb;exact (fpk b hb o e).2
  exact codeAny_compStart_list (loop _ rfl) (T.self _ 0 _ _ _ (T.keep _ _ _ t0 fun b hb o e=>old b o e) (loop _ rfl))
def FV (wi:TI) (js:List Nat) (g:TG) (tc:TT) (te:TE):TE:=fun σ H Q=>wi σ H fun J H1=>∃ W:Nat->Nat->List V->Hp->Prop,(∃ m,W 0 m [] H1)/\OP js g tc te J σ (fun ys H=>∀ p,H p=none->Q (.ref p) (upd H p (.lst ys))) W
theorem Lo (hin:innerOk X.N X.env.scope scope js=true) (hc:X.calm=true) (hi:PI X tg iter wi) (hg:∀ cl C s H fp,PG (X.inner scope cl C s H fp) tg g) (hgo:Rv js g) (hcn:∀ cl C s H fp,WC (X.inner scope cl C s H fp) ifs tc) (he:∀ cl C s H fp,PE (X.inner scope cl C s H fp) elt te)
    (hs:∀ x,foldedSetIterable iter X.env x=pure x:=by intro _;rfl):PE X (.ListComp elt [⟨tg,iter,ifs,0⟩] scope pos) (FV wi js g tc te):=by
  intro pins s σ H Q I h;have hin:=Hs hin;obtain ⟨cl,hclos,hcl,hfr⟩:=IA (scope:=scope) (env:=X.env) (fun x hx=>I.ok.has x (hin.fr x hx)) hin.uniqF;rw [eval_ListComp];refine wpAny_comprehension_free (use:=none) rfl hs hclos hin.kind hin.uniqL ?_;refine Ap (hi pins s σ H _ I h) fun v s1 h1=>Ap h1 fun itv s2 h2=>?_
  obtain ⟨it,fp,tn,J,H2,e,I2,T,st2,f2,W,⟨m0,w0⟩,turn⟩:=h2;subst e;refine GS (RR:=fun acc C=>compPost (model X.prog X.w) X.A X.xe none (EP X pins σ Q) acc C) hin hc hg hgo hcn he I2 T st2 f2 hcl hfr w0 turn ?_;intro D C s' H' ys m I' hD fin hn c1 c2 c3 c4 c5 c6;refine ⟨m,hn,fun h' sb=>⟨.ref D,_,I'.turned (t':=s'.toks) (it:=C) (fun b o hb e=>(sb.2 b hb).trans e) ?_ c1 (.inr c2) c3 c4,rfl,fin D hD⟩⟩;rw [AO (Ne.symm c6)];exact c5
theorem Lj {i:Nat} {x:Str} {pos' spos:Pos} (hN:X.N.Nodup) (hix:X.N[i]?=some x) (hx:Loc X.env.scope x)
    (hin:innerOk X.N X.env.scope scope js=true) (hc:X.calm=true) (hi:PI X tg iter wi) (hg:∀ cl C s H fp,PG (X.inner scope cl C s H fp) tg g) (hgo:Rv js g) (hcn:∀ cl C s H fp,WC (X.inner scope cl C s H fp) ifs tc) (he:∀ cl C s H fp,PE (X.inner scope cl C s H fp) elt te)
    (hsw:swapsWith (.ListComp elt [⟨tg,iter,ifs,0⟩] scope pos) (some (.Name x pos')) spos.line X.env=pure true:=by rfl)
    (hs:∀ x,foldedSetIterable iter X.env x=pure x:=by intro _;rfl)
    (hf:X.fn x=true\/X.env.scope.names.lookup x=some .local:=by first | exact .inl rfl | exact .inr rfl | assumption) :
    PS X (.Assign [.Name x pos'] (.ListComp elt [⟨tg,iter,ifs,0⟩] scope pos) spos) (Mt (FV wi js g tc te) (Dk i)):=by
  intro pins s σ H D I h;have hin:=Hs hin;obtain ⟨cl,hclos,hcl,hfr⟩:=IA (scope:=scope) (env:=X.env) (fun x hx=>I.ok.has x (hin.fr x hx)) hin.uniqF;rw [exec_Assign_Name_used _ _ _ _ hsw];refine wpAny_bind (wpAny_standAt (wpAny_bind ?_));show wpAny _ _ (do let _ <- comprehension (.ListComp elt [⟨tg,iter,ifs,0⟩] scope pos) scope X.env _ (newList []) false (eval iter X.env) (some (assign (.Name x pos') X.env))) _ _ s;refine wpAny_bind (Ap (wpAny_comprehension_free (use:=some (assign (.Name x pos') X.env)) (Q:=fun _ s'=>SP X pins D .next s') rfl hs hclos hin.kind hin.uniqL ?_) (fun _ s' hq=>wpAny_pure (wpAny_pure hq)));refine Ap (hi pins s σ H _ I h) fun v s1 h1=>Ap h1 fun itv s2 h2=>?_
  obtain ⟨it,fp,tn,J,H2,e,I2,T,st2,f2,W,⟨m0,w0⟩,turn⟩:=h2;subst e;refine GS (RR:=fun acc C=>compPost (model X.prog X.w) X.A X.xe (some (assign (.Name x pos') X.env)) (fun _ s'=>SP X pins D .next s') acc C) hin hc hg hgo hcn he I2 T st2 f2 hcl hfr w0 turn ?_;intro DD C s' H' ys m I' hD fin hn c1 c2 c3 c4 c5 c6;show wpAny _ _ (assign (.Name x pos') X.env (.ref DD)) _ _ _;refine wpAny_assign_Name (Iv (v:=.ref DD) I' hN hix hx rfl (fun s'' I'' ⟨a,sb,ha⟩=>?_) hf);have ne:C≠a:=by
    rcases ha with z | z
    · rw [z];exact c1
    · exact (c3 x a z).symm
  refine ⟨m,hn.sameBut sb ne,fun h' sb'=>⟨_,_,I''.turned (t':=s''.toks) (it:=C) (fun b o hb e=>(sb'.2 b hb).trans e) ?_ c1 (.inr c2) c3 c4,fin DD hD⟩⟩;rw [AO (Ne.symm c6)];exact c5
end
end L2
namespace R
open PySem L2
section
variable {γ:Type}
noncomputable def Bi (g:Dv->γ->Option (Dv×γ)):List Dv->γ->Option (List Dv×γ)
 | [],c=>some ([],c)
 | x::xs,c=>(g x c).bind fun p=>(Bi g xs p.2).bind fun q=>some (p.1::q.1,q.2)
noncomputable def AW (g:Dv->Option Dv):List Dv->Option (List Dv)
 | []=>some []
 | x::xs=>(g x).bind fun p=>(AW g xs).bind fun q=>some (p::q)
noncomputable def Pc (g:Dv->γ->Option (Option Dv×γ)):List Dv->γ->Option (List Dv×γ)
 | [],c=>some ([],c)
 | x::xs,c=>(g x c).bind fun p=>(Pc g xs p.2).bind fun q=>some (match p.1 with | some d=>d::q.1 | none=>q.1,q.2)
noncomputable def Qh (g:Dv->Option (Option Dv)):List Dv->Option (List Dv)
 | []=>some []
 | x::xs=>(g x).bind fun p=>(Qh g xs).bind fun q=>some (match p with | some d=>d::q | none=>q)
noncomputable def DN {α:Type} (xs:List Dv) (o:Option α):Option α:=if xs.length<=1000000 then o else none
end
theorem FI {α:Type} {xs:List Dv} {o:Option α} {a:α} (h:DN xs o=some a):xs.length<=1000000/\o=some a:=by
 unfold DN at h;split at h
 ·rename_i z;exact ⟨z,h⟩
 ·cases h
section
variable {K:W.Frag} {g g':G} {H H':Hp} {Γ:Gm} {m:M} {σ:St} {P:Fp}
theorem Rel.sub {Γ':Gm} {σ':St} (h:Rel K g H Γ m σ P) (hl:Γ'.length=Γ.length) (hs:σ'.length=σ.length) (k:∀ (i o:Nat),Γ'[i]?=some (some o)->Γ[i]?=some (some o)/\σ'[i]?=σ[i]?):∃ P',Rel K g H Γ' m σ' P'/\∀ a,P' a->P a:=by
 obtain ⟨zd,F,h1,h4⟩:=h;refine ⟨fun a=>∃ i,(∃ o,Γ'[i]?=some (some o))/\F i a,⟨zd,fun i a=>(∃ o,Γ'[i]?=some (some o))/\F i a,⟨by rw [hl];exact h1.l1,by rw [hs,hl];exact h1.l2,fun i o e=>?_,fun i e a q=>q.1.elim fun o z=>e o z,fun i j n a q z=>h1.dj i j n a q.2 z.2⟩,fun _=>Iff.rfl⟩,fun a ⟨i,_,q⟩=>(h4 a).mpr ⟨i,q⟩⟩;obtain ⟨e',es⟩:=k i o e;obtain ⟨d,v,e1,e2,r⟩:=h1.rep i o e';have eq:(fun a=>(∃ o,Γ'[i]?=some (some o))/\F i a)=F i:=funext fun a=>propext ⟨fun z=>z.2,fun z=>⟨⟨o,e⟩,z⟩⟩
 exact ⟨d,v,e1,by rw [es];exact e2,by show Rep K g H o d v fun a=>(∃ o,Γ'[i]?=some (some o))/\F i a;rw [eq];exact r⟩
theorem Rel.more {Γ':Gm} {σ':St} (h:Rel K g H Γ m σ P) (hl:Γ'.length=Γ.length) (hs:σ'.length=σ.length) (k:∀ (i o:Nat),Γ'[i]?=some (some o)->(Γ[i]?=some (some o)/\σ'[i]?=σ[i]?)\/(o=0/\∃ d v,m[i]?=some d/\σ'[i]?=some (some v)/\Rep K g H 0 d v nop)):∃ P',Rel K g H Γ' m σ' P'/\∀ a,P' a->P a:=by
 obtain ⟨zd,F,h1,h4⟩:=h
 let C:Nat->Prop:=fun i=>∃ o,Γ'[i]?=some (some o)/\Γ[i]?=some (some o)/\σ'[i]?=σ[i]?
 refine ⟨fun a=>∃ i,C i/\F i a,⟨zd,fun i a=>C i/\F i a,⟨by rw [hl];exact h1.l1,by rw [hs,hl];exact h1.l2,fun i o e=>?_,fun i e a q=>q.1.elim fun o z=>e o z.1,fun i j n a q z=>h1.dj i j n a q.2 z.2⟩,fun _=>Iff.rfl⟩,fun a ⟨i,_,q⟩=>(h4 a).mpr ⟨i,q⟩⟩
 by_cases c:C i
 ·obtain ⟨o',e1,e2,e3⟩:=c;rw [e] at e1;cases e1;obtain ⟨d,v,e4,e5,r⟩:=h1.rep i o e2;have eq:(fun a=>C i/\F i a)=F i:=funext fun a=>propext ⟨fun z=>z.2,fun z=>⟨⟨o,e,e2,e3⟩,z⟩⟩
  exact ⟨d,v,e4,by rw [e3];exact e5,by show Rep K g H o d v fun a=>C i/\F i a;rw [eq];exact r⟩
 ·have eq:(fun a=>C i/\F i a)=nop:=nop_iff fun a z=>c z.1
  rcases k i o e with z | ⟨rfl,d,v,e1,e2,r⟩
  ·exact (c ⟨o,e,z⟩).elim
  ·exact ⟨d,v,e1,e2,by show Rep K g H 0 d v fun a=>C i/\F i a;rw [eq];exact r⟩
end
def Mf (js:List Nat) (Γ:Gm):Gm:=(List.range Γ.length).map fun i=>if js.contains i then none else Γ.getD i none
def LV (js:List Nat) (Γ1 Γ:Gm):Gm:=(List.range Γ.length).map fun i=>if js.contains i then (if Γ1.getD i none == some 0 then some 0 else none) else Γ.getD i none
theorem Ey {α:Type} {n i:Nat} {f:Nat->α} {x:α} (h:((List.range n).map f)[i]?=some x):i < n/\x=f i:=by
 rw [mR] at h
 by_cases z:i < n
 ·rw [nh z] at h;exact ⟨z,(Option.some.inj h).symm⟩
 ·rw [List.getElem?_eq_none_iff.mpr (by simpa using z)] at h;cases h
theorem Be {Γ:Gm} {i o:Nat} (h:Γ.getD i none=some o):Γ[i]?=some (some o):=by
 rw [mZ] at h;cases e:Γ[i]? with
 | none=>rw [e] at h;cases h
 | some x=>rw [e] at h;exact congrArg some h
theorem DH {js:List Nat} {Γ:Gm} {i o:Nat} (h:(Mf js Γ)[i]?=some (some o)):i∉js/\Γ[i]?=some (some o):=by
 obtain ⟨_,e⟩:=Ey h;split at e
 ·cases e
 ·rename_i z;exact ⟨fun q=>z (mM.mpr q),Be e.symm⟩
theorem Jd (js:List Nat):∀ (σ:St) (i:Nat),i∉js->(L2.blank js σ)[i]?=σ[i]?:=by
 induction js with
 | nil=>intro σ i _;rfl
 | cons j js ih =>
  intro σ i h;show (L2.blank js (σ.set j none))[i]?=_;rw [ih _ i fun z=>h (mE _ z),mf fun z=>h (by rw [<- z];exact mC)]
theorem FL {K:W.Frag} {Γ1 Γl Γt Γc Γf:Gm} {jx jt jc jf J:List Nat} {g:TG} {ft:Tg} {c:Ev Bool} {f:Ev Dv} (ht:OK K Γl Γt jt g ft) (hbl:Bb Γl (Mf jx Γ1)=true) (hwf:Bb Γl Γf=true) (hwc:Bb Γl Γc=true) (hsx:∀ i∈jt,i∈jx)
    (hJ:J=BC Γl (jt++(jc++jf))) {ds:List Dv} (hz:ds.length<=1000000) {m1:M} {σ:St} {H1:Hp} {g1:G} {P1:Fp} {I:It} {R:Type} {k:Dv->M->Option R} {res:R} {Q:VK}
    (r1:Rel K g1 H1 Γ1 m1 σ P1) (yl:Yl K I ds g1 H1) (run:List Dv->ER J->List Dv->Prop) (h0:run ds (AZ J m1) []) (hn:∀ t ya,run [] t ya->k (.lst ya) (Ae J m1 t)=some res)
    (hc:∀ d ds t ya,run (d::ds) t ya->∃ (B:Type) (kx:Dv->M->Option B) (kf:M->Option B) (r:B),ft B d (Ae J m1 t) (fun m2=>c B m2 fun b m3=>if b=true then f B m3 kx else kf m3)=some r/\(∀ x m',kx x m'=some r->run ds (AZ J m') (ya++[x]))/\∀ m',kf m'=some r->run ds (AZ J m') ya)
    (q:∀ d m' g' P' Pv v H',k d m'=some res->Bg (jt++(jc++jf)) m1 m'->Step g1 P1 H1 g' (fun a=>P' a\/Pv a) H'->Rep K g' H' 1 d v Pv->Rel K g' H' (LV jx Γ1 Γl) m' σ P'->Disj P' Pv->Q v H') :
    ∃ W:Nat->Nat->List V->Hp->Prop,(∃ m,W 0 m [] H1)/\OP jx g (tT K Γt Γc jc c) (tE K Γc 0 Γf jf f) I σ (fun ys H=>∀ p,H p=none->Q (.ref p) (upd H p (.lst ys))) W:=by
  have sub:∀ i∈J,i∈jt++(jc++jf):=fun i h=>BB (hJ▸h)
  have nJ:∀ i∈J,i∉jx:=fun i h z=>by
    rw [hJ] at h;have:=(nL.mp h).2;rw [ly] at this;cases e:Γl.getD i none with
    | none=>rw [e] at this;cases this.2
    | some o =>
      obtain ⟨o',e',_⟩:=FD hbl (Be e);exact (DH e').1 z
  have lb:(Mf jx Γ1).length=Γ1.length:=by unfold Mf;simp
  obtain ⟨Pb,rb,sb⟩:=r1.sub (Γ':=Mf jx Γ1) (σ':=L2.blank jx σ) lb (L2.blank_length ..) fun i o e=>⟨(DH e).2,Jd jx σ i (DH e).1⟩
  obtain ⟨g0,P0,s0,r0⟩:=rb.weaken hbl;have s10:Step g1 P1 H1 g0 P0 H1:=s0.sub sb fun _ z=>z
  refine ⟨fun i j ys H=>j=ds.length - i/\i<=ds.length/\ys.length<=i/\∃ g2 t P2 ya,Step g1 P1 H1 g2 P2 H/\Rel K g2 H Γl (Ae J m1 t) (L2.blank jx σ) P2/\Reps K g2 H 0 ya ys nop/\run (ds.drop i) t ya,
    ⟨ds.length,by simp,nG _,nG _,g0,AZ J m1,P0,[],s10,Ng r0,Reps.nil,by simpa using h0⟩,?_⟩
  rintro i j ys H2 ⟨rfl,hi,hyl,g2,t,P2,ya,s2,r2,ry,e2⟩;have st:IH g1 H1 g2 H2:=⟨P1,P2,s2,r1.fpOk⟩
  by_cases hlt:i < ds.length
  · rw [og hlt] at e2;obtain ⟨B,kx,kf,rB,e3,hx,hf⟩:=hc _ _ _ _ e2;obtain ⟨go,yy⟩:=(yl g2 H2 st).1 i ds[i] (lz hlt);refine .inr ⟨go,oX hyl (mP hlt (mQ hz (by decide))),fun zs H'=>zs.length<=i+1/\∃ g5 P5 m' za,Step g1 P1 H1 g5 P5 H'/\Rel K g5 H' Γl m' (L2.blank jx σ) P5/\Bg (jt++(jc++jf)) m1 m'/\Reps K g5 H' 0 za zs nop/\run (ds.drop (i+1)) (AZ J m') za,?_,fun y H3 hy=>?_⟩
    · rintro zs H' ⟨hl,g5,P5,m',za,s5,r5,ag,rz,hr⟩;exact ⟨ds.length - (i+1),by omega,rfl,hlt,hl,g5,AZ J m',P5,za,s5,r5.join ag fun i o h=>hJ▸BQ h,rz,hr⟩
    · obtain ⟨Pv,s3,h3,r3,n3⟩:=AY.go s2 r2 (yy y H3 hy);have ry3:Reps K g2 H3 0 ya ys nop:=ry.held (Step.same (P:=nop) (yy y H3 hy).1) FpOk.nop fun _ _ z=>z
      refine ht g2 _ P2 ds[i] y _ H3 B _ rB _ r3 h3.z e3 fun m2 P' σ' hk ag sp ip r'=>?_
      have s4:Step g1 P1 H1 g2 P' H3:=s3.less fun a z=>.inl (sp a z)
      have a4:Bg (jt++(jc++jf)) m1 m2:=((AS J m1 t).mono sub).trans ag |>.mono fun i z=>(mU.mp z).elim id fun z=>mN _ z
      -- outside of the comprehension's own slots nothing is bound
      have back:∀ {g5:G} {P5:Fp} {m':M} {H':Hp},Rel K g5 H' Γl m' σ' P5->∃ P6,Rel K g5 H' Γl m' (L2.blank jx σ) P6/\∀ a,P6 a->P5 a:=fun {g5 P5 m' H'} r5=>r5.sub rfl (by rw [ip.1]) fun i o e=>⟨e,(ip.2 i fun z=>by
          obtain ⟨o',e',_⟩:=FD hbl e;exact (DH e').1 (hsx i z)).symm⟩
      refine ⟨g2,m2,P',r',B,_,rB,hk,fun b m3 g4 P4 H4 hk4 ag4 s5 r4=>?_⟩;have ry4:=ry3.held s5 r'.fpOk fun _ z=>z.elim
      cases b with
      | false =>
        rw [if_neg mT] at hk4;show (if false=true then _ else _);rw [if_neg mT];obtain ⟨g6,P6,s6,r6⟩:=r4.weaken hwc;obtain ⟨P7,r7,sp7⟩:=back r6;exact ⟨by omega,g6,P7,m3,ya,((s4.trans s5).trans s6).less sp7,r7,(a4.trans ag4).mono fun i z=>(mU.mp z).elim id fun z=>mG _ (mN _ z),ry4.held s6 r4.fpOk fun _ z=>z.elim,hf m3 hk4⟩
      | true =>
        rw [if_pos rfl] at hk4;show (if true=true then _ else _);rw [if_pos rfl];refine ⟨g4,m3,P4,r4,B,kx,rB,hk4,fun x m4 g5 P5 Pv v H5 hk5 ag5 s6 rv r5 n5=>?_⟩;have ry5:=ry4.held s6 r4.fpOk fun _ z=>z.elim
        obtain ⟨g6,P6,s7,r6⟩:=r5.weaken hwf;obtain ⟨P7,r7,sp7⟩:=back r6;refine ⟨by rw [mV,nN];omega,g6,P7,m4,ya++[x],(((s4.trans s5).trans (s6.less fun _ z=>.inl z)).trans s7).less sp7,r7,?_,?_,hx x m4 hk5⟩
        · exact ((a4.trans ag4).trans ag5).mono fun i z=>(mU.mp z).elim (fun z=>(mU.mp z).elim id fun z=>mG _ (mN _ z)) fun z=>mG _ (mG _ z)
        · refine ((Reps.app ry5 (Reps.cons rv.z Reps.nil fun _ z=>z.elim) fun _ z=>z.elim).iff (Q:=nop) fun a=>⟨fun z=>z.elim,fun z=>z.elim id fun z=>z.elim id id⟩).held s7 r5.fpOk fun _ z=>z.elim
  · have ei:i=ds.length:=by omega
    subst ei;rw [List.drop_length] at e2;refine .inl ⟨(yl g2 H2 st).2 _ (mF _),fun p hp=>?_⟩;obtain ⟨Pv,s3,h1,r3,n3⟩:=AY.go s2 r2 (AY.lst r2.zd ry hp);have l1:Γl.length=Γ1.length:=(EH hbl).trans lb;obtain ⟨P4,r4,sp4⟩:=r3.more (Γ':=LV jx Γ1 Γl) (σ':=σ) (by unfold LV;simp) (by rw [L2.blank_length]) fun i o e=>by
      obtain ⟨hi,e⟩:=Ey e;split at e
      · rename_i z;split at e
        · rename_i z0;cases e;refine .inr ⟨rfl,?_⟩;obtain ⟨v,Px,ev,rx,_⟩:=r1.see (Be (beq_iff_eq.mp z0));have ji:i∉J:=fun w=>nJ i w (mM.mp z)
          have hl:i < m1.length:=by rw [r1.len.1,<- l1];exact hi
          refine ⟨m1.at i,v,?_,ev,(rx.z.held s2 r1.fpOk fun _ z=>z.elim).held (Step.same (P:=nop) (Da hp (.lst ys))) FpOk.nop fun _ _ z=>z⟩;have:=(AS J m1 t).2 i ji;have hl':i < (Ae J m1 t).length:=by rw [Hb];exact hl
          rw [lz hl',<- this];unfold M.at;rw [mZ,lz hl'];rfl
        · cases e
      · rename_i z;exact .inl ⟨Be e.symm,(Jd jx σ i fun w=>z (mM.mpr w)).symm⟩
    exact q _ _ g2 P4 Pv _ _ (hn t ya e2) ((AS J m1 t).mono sub) (s3.less fun a z=>z.elim (fun z=>.inl (sp4 a z)) .inr) h1 r4 fun a z w=>n3 a (sp4 a z) w
def Ue (src:Ev (List Dv)) (tg:Tg) (f:Ev Dv):Ev Dv:=fun R m k=>src R m fun ds m1=>DN ds ((AW (fun d=>tg Dv d m1 fun m2=>f Dv m2 fun x _=>some x) ds).bind fun xs=>k (.lst xs) m1)
def Ug (src:Ev (List Dv)) (tg:Tg) (c:Ev Bool) (f:Ev Dv):Ev Dv:=fun R m k=>src R m fun ds m1=>DN ds ((Qh (fun d=>tg (Option Dv) d m1 fun m2=>c (Option Dv) m2 fun b m3=>if b=true then f (Option Dv) m3 fun x _=>some (some x) else some none) ds).bind fun xs=>k (.lst xs) m1)
def PR (src:Ev (List Dv)) (tg:Tg) (J:List Nat) (f:Ev Dv):Ev Dv:=fun R m k=>src R m fun ds m1=>DN ds ((Bi (fun d t=>tg (Dv×ER J) d (Ae J m1 t) fun m2=>f (Dv×ER J) m2 fun x m3=>some (x,AZ J m3)) ds (AZ J m1)).bind fun p=>k (.lst p.1) (Ae J m1 p.2))
def PQ (src:Ev (List Dv)) (tg:Tg) (J:List Nat) (c:Ev Bool) (f:Ev Dv):Ev Dv:=fun R m k=>src R m fun ds m1=>DN ds ((Pc (fun d t=>tg (Option Dv×ER J) d (Ae J m1 t) fun m2=>c (Option Dv×ER J) m2 fun b m3=>if b=true then f (Option Dv×ER J) m3 fun x m4=>some (some x,AZ J m4) else some (none,AZ J m3)) ds (AZ J m1)).bind fun p=>k (.lst p.1) (Ae J m1 p.2))
def Dm:Ev Bool:=fun _ m k=>k true m
section
variable {K:W.Frag} {Γ Γ1 Γl Γt Γc Γf:Gm} {js jx jt jc jf J:List Nat} {g:TG} {ft:Tg} {c:Ev Bool} {f:Ev Dv} {src:Ev (List Dv)} {σ:St} {H:Hp} {Q:VK}
theorem Ly (ht:OK K Γl Γt jt g ft) (hbl:Bb Γl (Mf jx Γ1)=true) (hwf:Bb Γl Γf=true) (hwc:Bb Γl Γt=true) (hsx:∀ i∈jt,i∈jx) (hJ:([]:List Nat)=BC Γl (jt++([]++jf)))
    (h:tE K Γ 1 (LV jx Γ1 Γl) (js++(jt++([]++jf))) (Ue src ft f) σ H Q):FV (tI K Γ Γ1 js src) jx g (tT K Γt Γt [] Dm) (tE K Γt 0 Γf jf f) σ H Q:=by
  obtain ⟨g0,m,P,r,R,k,res,e,q⟩:=h;refine ⟨g0,m,P,r,R,_,res,e,fun ds m1 g1 P1 H1 I hk ag s r1 yl=>?_⟩;obtain ⟨hz,hk⟩:=FI hk;obtain ⟨xs,e1,e2⟩:=bind_some' hk;refine FL (c:=Dm) ht hbl hwf hwc hsx hJ hz r1 yl (fun ds _ ya=>∃ yb,xs=ya++yb/\AW _ ds=some yb) ⟨xs,rfl,e1⟩ (fun t ya ⟨yb,h1,h2⟩=>?_) (fun d ds t ya ⟨yb,h1,h2⟩=>?_) fun d m' g' P' Pv v H' hk ag' s'=>q d m' g' P' Pv v H' hk (ag.trans ag') (s.trans s')
  · cases h2;rw [nO] at h1;subst h1;exact e2
  · obtain ⟨x,h3,h4⟩:=bind_some' h2;obtain ⟨yc,h5,h6⟩:=bind_some' h4;cases h6;exact ⟨Dv,fun x _=>some x,fun _=>none,x,h3,(fun y m' hk=>by cases hk;exact ⟨yc,by rw [h1,nB];rfl,h5⟩),fun m' hk=>by cases hk⟩
theorem Lz (ht:OK K Γl Γt jt g ft) (hbl:Bb Γl (Mf jx Γ1)=true) (hwf:Bb Γl Γf=true) (hwc:Bb Γl Γc=true) (hsx:∀ i∈jt,i∈jx) (hJ:([]:List Nat)=BC Γl (jt++(jc++jf)))
    (h:tE K Γ 1 (LV jx Γ1 Γl) (js++(jt++(jc++jf))) (Ug src ft c f) σ H Q):FV (tI K Γ Γ1 js src) jx g (tT K Γt Γc jc c) (tE K Γc 0 Γf jf f) σ H Q:=by
  obtain ⟨g0,m,P,r,R,k,res,e,q⟩:=h;refine ⟨g0,m,P,r,R,_,res,e,fun ds m1 g1 P1 H1 I hk ag s r1 yl=>?_⟩;obtain ⟨hz,hk⟩:=FI hk;obtain ⟨xs,e1,e2⟩:=bind_some' hk;refine FL ht hbl hwf hwc hsx hJ hz r1 yl (fun ds _ ya=>∃ yb,xs=ya++yb/\Qh _ ds=some yb) ⟨xs,rfl,e1⟩ (fun t ya ⟨yb,h1,h2⟩=>?_) (fun d ds t ya ⟨yb,h1,h2⟩=>?_) fun d m' g' P' Pv v H' hk ag' s'=>q d m' g' P' Pv v H' hk (ag.trans ag') (s.trans s')
  · cases h2;rw [nO] at h1;subst h1;exact e2
  · obtain ⟨x,h3,h4⟩:=bind_some' h2;obtain ⟨yc,h5,h6⟩:=bind_some' h4;cases h6;refine ⟨Option Dv,fun x _=>some (some x),fun _=>some none,x,h3,(fun y m' hk=>?_),fun m' hk=>?_⟩
    · cases hk;exact ⟨yc,by rw [h1,nB];rfl,h5⟩
    · cases hk;exact ⟨yc,h1,h5⟩
theorem JZ (ht:OK K Γl Γt jt g ft) (hbl:Bb Γl (Mf jx Γ1)=true) (hwf:Bb Γl Γf=true) (hwc:Bb Γl Γt=true) (hsx:∀ i∈jt,i∈jx) (hJ:J=BC Γl (jt++([]++jf)))
    (h:tE K Γ 1 (LV jx Γ1 Γl) (js++(jt++([]++jf))) (PR src ft J f) σ H Q):FV (tI K Γ Γ1 js src) jx g (tT K Γt Γt [] Dm) (tE K Γt 0 Γf jf f) σ H Q:=by
  obtain ⟨g0,m,P,r,R,k,res,e,q⟩:=h;refine ⟨g0,m,P,r,R,_,res,e,fun ds m1 g1 P1 H1 I hk ag s r1 yl=>?_⟩;obtain ⟨hz,hk⟩:=FI hk;obtain ⟨p,e1,e2⟩:=bind_some' hk;refine FL (c:=Dm) ht hbl hwf hwc hsx hJ hz r1 yl (fun ds t ya=>∃ yb,p.1=ya++yb/\Bi _ ds t=some (yb,p.2)) ⟨p.1,rfl,e1⟩ (fun t ya ⟨yb,h1,h2⟩=>?_) (fun d ds t ya ⟨yb,h1,h2⟩=>?_) fun d m' g' P' Pv v H' hk ag' s'=>q d m' g' P' Pv v H' hk (ag.trans ag') (s.trans s')
  · simp only [Bi,Option.some.injEq,Prod.mk.injEq] at h2;obtain ⟨rfl,rfl⟩:=h2;rw [nO] at h1;rw [<- h1];exact e2
  · obtain ⟨x,h3,h4⟩:=bind_some' h2;obtain ⟨yc,h5,h6⟩:=bind_some' h4;simp only [Option.some.injEq,Prod.mk.injEq] at h6;obtain ⟨rfl,h7⟩:=h6;refine ⟨_,fun x m3=>some (x,AZ J m3),fun _=>none,x,h3,(fun y m' hk=>?_),fun m' hk=>by cases hk⟩;cases hk;exact ⟨yc.1,by rw [h1,nB];rfl,by rw [<- h7];exact h5⟩
theorem JY (ht:OK K Γl Γt jt g ft) (hbl:Bb Γl (Mf jx Γ1)=true) (hwf:Bb Γl Γf=true) (hwc:Bb Γl Γc=true) (hsx:∀ i∈jt,i∈jx) (hJ:J=BC Γl (jt++(jc++jf)))
    (h:tE K Γ 1 (LV jx Γ1 Γl) (js++(jt++(jc++jf))) (PQ src ft J c f) σ H Q):FV (tI K Γ Γ1 js src) jx g (tT K Γt Γc jc c) (tE K Γc 0 Γf jf f) σ H Q:=by
  obtain ⟨g0,m,P,r,R,k,res,e,q⟩:=h;refine ⟨g0,m,P,r,R,_,res,e,fun ds m1 g1 P1 H1 I hk ag s r1 yl=>?_⟩;obtain ⟨hz,hk⟩:=FI hk;obtain ⟨p,e1,e2⟩:=bind_some' hk;refine FL ht hbl hwf hwc hsx hJ hz r1 yl (fun ds t ya=>∃ yb,p.1=ya++yb/\Pc _ ds t=some (yb,p.2)) ⟨p.1,rfl,e1⟩ (fun t ya ⟨yb,h1,h2⟩=>?_) (fun d ds t ya ⟨yb,h1,h2⟩=>?_) fun d m' g' P' Pv v H' hk ag' s'=>q d m' g' P' Pv v H' hk (ag.trans ag') (s.trans s')
  · simp only [Pc,Option.some.injEq,Prod.mk.injEq] at h2;obtain ⟨rfl,rfl⟩:=h2;rw [nO] at h1;rw [<- h1];exact e2
  · obtain ⟨x,h3,h4⟩:=bind_some' h2;obtain ⟨yc,h5,h6⟩:=bind_some' h4;simp only [Option.some.injEq,Prod.mk.injEq] at h6;obtain ⟨rfl,h7⟩:=h6;refine ⟨_,fun x m4=>some (some x,AZ J m4),fun m3=>some (none,AZ J m3),x,h3,(fun y m' hk=>?_),fun m' hk=>?_⟩
    · cases hk;exact ⟨yc.1,by rw [h1,nB];rfl,by rw [<- h7];exact h5⟩
    · cases hk;exact ⟨yc.1,h1,by rw [<- h7];exact h5⟩
end
end R
namespace L2
open PySem PySem.Spec PyProof.Rows
theorem BI {a b:Nat} (h:a≠b):@Ne Addr a b:=h
def Cr (h:Heap) (it l:Addr) (i:Nat):Bool->Prop
 | false=>h.IsListIter it l i
 | true=>h.IsTupleIter it l i
def Cd (h:Heap) (l:Addr) (xs:Array Value):Bool->Prop
 | false=>h.IsList l xs
 | true=>h.IsTuple l xs
noncomputable def Hn (l:Addr):Bool->Obj
 | false=>{ cls:=.type "list_iterator", data:=.fields #[.ref l,.int 0 0] }
 | true=>{ cls:=.type "tuple_iterator", data:=.fields #[.ref l,.int 0 0] }
theorem Cr.at {h h':Heap} {it l:Addr} {i:Nat} {b:Bool} (x:Cr h it l i b) (k:∀ o,h.get? it=some o->h'.get? it=some o):Cr h' it l i b:=by
 cases b with
 | false=>obtain ⟨o,e,r⟩:=x;exact ⟨o,k o e,r⟩
 | true=>obtain ⟨o,e,r⟩:=x;exact ⟨o,k o e,r⟩
theorem Cd.at {h h':Heap} {l:Addr} {xs:Array Value} {b:Bool} (x:Cd h l xs b) (k:∀ o,h.get? l=some o->h'.get? l=some o):Cd h' l xs b:=by
 cases b with
 | false=>obtain ⟨o,e,r⟩:=x;exact ⟨o,k o e,r⟩
 | true=>obtain ⟨o,e,r⟩:=x;exact ⟨o,k o e,r⟩
theorem Cr.obj {h:Heap} {it l:Addr} {i:Nat} {b:Bool} (x:Cr h it l i b):∃ o,h.get? it=some o/\∀ v,o.data≠.cell v:=by
 cases b with
 | false=>obtain ⟨o,e,c,d⟩:=x;exact ⟨o,e,fun v z=>by rw [d] at z;cases z⟩
 | true=>obtain ⟨o,e,c,d⟩:=x;exact ⟨o,e,fun v z=>by rw [d] at z;cases z⟩
theorem Cr.new {h:Heap} {l:Addr} {b:Bool}:Cr (h.push (Hn l b)) h.objs.size l 0 b:=by
 cases b with
 | false=>exact ⟨_,mK _ rfl,rfl,rfl⟩
 | true=>exact ⟨_,mK _ rfl,rfl,rfl⟩
section
variable {prog:Program} {w:World} {A:Around} {E:Value->Shared->Prop} {s:Shared}
theorem Cs {l:Addr} {xs:Array Value} {b:Bool} {Q:Value->Shared->Prop} (hl:Cd s.heap l xs b) (hQ:Q (.ref s.heap.objs.size) { s with heap:=s.heap.push (Hn l b) }):wpAny (model prog w) A (pyIter (.ref l)) Q E s:=by
 cases b with
 | false=>exact wpAny_pyIter_list hl hQ
 | true=>exact wpAny_pyIter_tuple hl hQ
theorem Bz {it l:Addr} {i:Nat} {items:Array Value} {x:Value} {b:Bool} {Q:Value->Shared->Prop} (hit:Cr s.heap it l i b) (hl:Cd s.heap l items b) (hx:items[i]?=some x)
    (hQ:∀ h',Cr h' it l (i+1) b->Heap.SameBut it s.heap h'->Q x { s with heap:=h' }):wpAny (model prog w) A (Builtin.SmallTypes.nextOf (.ref it)) Q E s:=by
  cases b with
  | false=>exact wpAny_nextOf_list_item hit hl hx hQ
  | true =>
    obtain ⟨o,ho,hc,hd⟩:=id hit;obtain ⟨ol,hol,_,nl,hdl⟩:=hl
    have ht:s.TypeIs (.ref it) "tuple_iterator" := ⟨o,ho,hc⟩
    unfold Builtin.SmallTypes.nextOf
    refine wpAny_bind (wpAny_callSpecial?_slot (name:=Str.ofString "__next__") ht F.slot_tuple_iterator_next
      (wpAny_call_entry F.slot_tuple_iterator_next ht F.entry_tuple_iterator_next ?_ (F.args_tuple_iterator_next_1 _)))
    show wpAny _ _ (field (.ref it) 0 >>= _) _ _ s;refine wpAny_bind (wpAny_field ho hd (x:=.ref l) rfl ?_);show wpAny _ _ (if (Value.ref l == Value.none)=true then _ else _) _ _ s;rw [if_neg (show ¬ ((Value.ref l == Value.none)=true) from mT)];show wpAny _ _ (field (.ref it) 1 >>= _) _ _ s;refine wpAny_bind (wpAny_field ho hd (x:=.int i 0) rfl ?_);show wpAny _ _ (seqItems? (.ref l) >>= _) _ _ s;refine wpAny_bind (wpAny_seqItems hol hdl ?_);simp only [oD,hx];refine wpAny_bind (wpAny_setField ho hd (by simp) (wpAny_pure ⟨x,rfl,wpAny_pure (hQ _ ?_ (Heap.SameBut.update ..))⟩));exact ⟨_,nK _ ho (Obj.isFreed_of_fields (Obj.data_mapFields hd _)),(Obj.cls_mapFields ..).trans hc,by
      rw [Obj.data_mapFields hd];simp [rawInt]⟩
theorem FY {it l:Addr} {i:Nat} {items:Array Value} {b:Bool} {Q:Value->Shared->Prop} (hh:A.handled=none) (hit:Cr s.heap it l i b) (hl:Cd s.heap l items b) (hx:items[i]?=none)
    (hE:∀ h' e,Heap.ExtBut it s.heap h'->(∃ o,h'.get? e=some o/\o.cls=.type "StopIteration")->E (.ref e) { s with heap:=h' }):wpAny (model prog w) A (Builtin.SmallTypes.nextOf (.ref it)) Q E s:=by
  cases b with
  | false=>exact wpAny_nextOf_list_end hh hit hl hx hE
  | true =>
    obtain ⟨o,ho,hc,hd⟩:=id hit;obtain ⟨ol,hol,_,nl,hdl⟩:=hl
    have ht:s.TypeIs (.ref it) "tuple_iterator" := ⟨o,ho,hc⟩
    unfold Builtin.SmallTypes.nextOf
    refine wpAny_bind (wpAny_callSpecial?_slot (name:=Str.ofString "__next__") ht F.slot_tuple_iterator_next
      (wpAny_call_entry F.slot_tuple_iterator_next ht F.entry_tuple_iterator_next ?_ (F.args_tuple_iterator_next_1 _)))
    show wpAny _ _ (field (.ref it) 0 >>= _) _ _ s;refine wpAny_bind (wpAny_field ho hd (x:=.ref l) rfl ?_);show wpAny _ _ (if (Value.ref l == Value.none)=true then _ else _) _ _ s;rw [if_neg (show ¬ ((Value.ref l == Value.none)=true) from mT)];show wpAny _ _ (field (.ref it) 1 >>= _) _ _ s;refine wpAny_bind (wpAny_field ho hd (x:=.int i 0) rfl ?_);show wpAny _ _ (seqItems? (.ref l) >>= _) _ _ s;refine wpAny_bind (wpAny_seqItems hol hdl ?_);simp only [oD,hx];refine wpAny_bind (wpAny_rule (wpAny_bind (wpAny_setField ho hd (by simp) ?_)))
    show wpAny _ _ (newExc (.type "StopIteration") [] >>= _) _ _ _
    refine wpAny_bind ?_;simp only [newExc,newTuple];refine wpAny_bind (wpAny_newObj_type ?_ (by size_fits));refine wpAny_bind (m:=firstArgMember _ _) (wpAny_of_eq (a:=Value.none) (by first | rfl | (simp only [firstArgMember];rfl)) ?_);refine wpAny_newObj_type ?_ (by size_fits);simp only [raiseNew];refine wpAny_bind (wpAny_handled ?_)
    first | rw [show A.in1.handled=none from hh] | rw [hh]
    refine wpAny_bind (wpAny_pure (wpAny_throw ?_));exact hE _ _ (((Heap.SameBut.update ..).extBut.push _).push _) ⟨_,mK _ rfl,rfl⟩
end
def DO (K:W.Frag) (H:Hp) (a:Addr) (xs:List V):Bool->Prop
 | false=>DA K H a xs
 | true=>Eg K H a xs
section
variable {X:Cx} {pins:List (Addr×Obj)} {σ:St} {H:Hp} {s:Shared} {a:Addr} {xs ys:List V} {b:Bool}
theorem Inv.sqB (I:Inv X pins σ H s) (h:DO X.K H a xs b):∃ its:List Value,AE xs its/\Cd s.heap a its.toArray b/\a < s.heap.objs.size:=by
 cases b with
 | false =>
  obtain ⟨its,r,p,_⟩:=I.list h;exact ⟨its,r,p.isList,by obtain ⟨o,n,e,_⟩:=p;exact mO e⟩
 | true =>
  obtain ⟨its,r,p,_⟩:=I.tuple h;exact ⟨its,r,p,by obtain ⟨o,e,_⟩:=p;exact mO e⟩
theorem Inv.sqB_inj (I:Inv X pins σ H s) (h:DO X.K H a xs b) (h':DO X.K H a ys b):xs=ys:=by
 cases b with
 | false=>exact I.list_inj h h'
 | true=>exact I.tuple_inj h h'
end
abbrev Pn (h:Heap) (T:Addr) (v1 v2:Value):Prop:=h.get? T=some { cls:=.type "tuple", data:=.seq #[v1,v2] }
section
variable {prog:Program} {w:World} {A:Around} {E:Value->Shared->Prop} {s:Shared}
theorem SE {T:Addr} {v1 v2 x:Value} {Q:Unit->Shared->Prop} (hT:Pn s.heap T v1 v2) (h:∀ h',Pn h' T x v2->Heap.SameBut T s.heap h'->Q () { s with heap:=h' }):wpAny (model prog w) A (updateSeq T (·.setIfInBounds 0 x)) Q E s:=by
 refine wpAny_updateSeq hT rfl (h _ ?_ (Heap.SameBut.update ..));show Heap.get? _ _=_;rw [nK _ hT rfl];simp [Obj.mapSeq]
theorem Zz {T:Addr} {v1 v2 x:Value} {Q:Unit->Shared->Prop} (hT:Pn s.heap T v1 v2) (h:∀ h',Pn h' T v1 x->Heap.SameBut T s.heap h'->Q () { s with heap:=h' }):wpAny (model prog w) A (updateSeq T (·.setIfInBounds 1 x)) Q E s:=by
 refine wpAny_updateSeq hT rfl (h _ ?_ (Heap.SameBut.update ..));show Heap.get? _ _=_;rw [nK _ hT rfl];simp [Obj.mapSeq]
structure Zst2 (h:Heap) (I:Nat) (l1 l2:Nat) (b1 b2:Bool) (i:Nat) (f0:Value):Prop where
 z:IsZip h (I+4) (I+2) (I+3) f0
 ti:Pn h (I+2) (.ref I) (.ref (I+1))
 to:∃ v1 v2,Pn h (I+3) v1 v2
 s1:Cr h I l1 i b1
 s2:Cr h (I+1) l2 i b2
theorem Zst2.at {h h':Heap} {I l1 l2:Nat} {b1 b2:Bool} {i:Nat} {f0:Value} (x:Zst2 h I l1 l2 b1 b2 i f0) (k:∀ (c:Nat) o,I<=c->c < I+5->h.get? c=some o->h'.get? c=some o):Zst2 h' I l1 l2 b1 b2 i f0:=
 ⟨k _ _ (by omega) (by omega) x.z,k _ _ (by omega) (by omega) x.ti,let ⟨v1,v2,e⟩:=x.to;⟨v1,v2,k _ _ (by omega) (by omega) e⟩,x.s1.at fun o e=>k _ o (by omega) (by omega) e,x.s2.at fun o e=>k _ o (by omega) (by omega) e⟩
theorem Pq {I l1 l2:Nat} {b1 b2:Bool} {i:Nat} {xs1 xs2:Array Value} {y1 y2:Value} {Q:Value->Shared->Prop} (hz:Zst2 s.heap I l1 l2 b1 b2 i .none) (hl1:Cd s.heap l1 xs1 b1) (lt1:l1 < I) (hl2:Cd s.heap l2 xs2 b2) (lt2:l2 < I) (hx1:xs1[i]?=some y1) (hx2:xs2[i]?=some y2)
    (hQ:∀ h',Zst2 h' I l1 l2 b1 b2 (i+1) (rawInt s.heap.objs.size)->Pn h' s.heap.objs.size y1 y2->h'.objs.size=s.heap.objs.size+1->(∀ (c:Nat) o,(c < I\/I+5<=c)->s.heap.get? c=some o->h'.get? c=some o)->Q (.ref s.heap.objs.size) { s with heap:=h' }) :
    wpAny (model prog w) A (Builtin.«zip.__next__» ⟨[.ref (I+4)],[]⟩) (fun fin s'=>∃ v,fin=.done (.ret v)/\Q v s') E s:=by
  obtain ⟨z0,ti0,⟨v1,v2,to0⟩,s10,s20⟩:=hz;show wpAny _ _ (field (.ref (I+4)) 2 >>= _) _ _ _;refine wpAny_bind (wpAny_field z0 rfl (x:=.bool false) rfl ?_);show wpAny _ _ (field (.ref (I+4)) 3 >>= _) _ _ _;refine wpAny_bind (wpAny_field z0 rfl (x:=.ref (I+2)) rfl ?_);refine wpAny_bind (wpAny_seqItems ti0 rfl ?_);show wpAny _ _ (Builtin.SmallTypes.ownedTupleIsFree (.ref (I+4)) >>= _) _ _ _;refine wpAny_bind ?_;unfold Builtin.SmallTypes.ownedTupleIsFree;refine wpAny_bind (wpAny_field z0 rfl (x:=.none) rfl (wpAny_pure ?_));simp only [if_true];refine wpAny_bind (wpAny_rule ?_);refine wpAny_bind (wpAny_field z0 rfl (x:=.ref (I+3)) rfl ?_);refine wpAny_bind (wpAny_setField_rec z0 (by simp) fun h₁ hz₁ hs₁=>?_);replace hz₁:IsZip h₁ (I+4) (I+2) (I+3) .ellipsis:=hz₁;refine wpAny_bind ?_;simp only [oj,ow,oI,oZ];have g0:∀ (c:Nat) o,c≠(I+4)->s.heap.get? c=some o->h₁.get? c=some o:=fun c o c1 e=>hs₁.extBut _ _ c1 e
  have k0:∀ (c:Nat) o,c≠(I+4)->c≠(I+3)->(c < I\/I<=c)->s.heap.get? c=some o->h₁.get? c=some o:=fun c o c1 _ _ e=>g0 c o c1 e
  have to1:Pn h₁ (I+3) v1 v2:=g0 _ _ (by omega) to0;refine wpAny_bind (wpAny_bind (wpAny_onRaise ?_));show wpAny _ _ (Builtin.SmallTypes.nextOf (.ref I) >>= _) _ _ _;refine wpAny_bind (Bz (s10.at fun o e=>k0 _ o (by omega) (by omega) (by omega) e) (hl1.at fun o e=>k0 _ o (by omega) (by omega) (by omega) e) hx1 fun p1 si1 sp1=>wpAny_pure ?_);have u1:Pn p1 (I+3) v1 v2:=sp1.extBut _ _ (BI (by omega)) to1;refine wpAny_bind (wpAny_seqItems u1 rfl ?_);refine wpAny_bind (SE u1 fun q1 to2 sq1=>?_);have k1:∀ (c:Nat) o,c≠(I+4)->c≠(I+3)->(c < I\/I+1<=c)->s.heap.get? c=some o->q1.get? c=some o:=fun c o c1 c2 c3 e=>sq1.extBut _ _ c2 (sp1.extBut _ _ (BI (by omega)) (k0 c o c1 c2 (by omega) e))
  have zz1:IsZip q1 (I+4) (I+2) (I+3) .ellipsis:=sq1.extBut _ _ (BI (by omega)) (sp1.extBut _ _ (BI (by omega)) hz₁);have w1_1:Cr q1 I l1 (i+1) b1:=si1.at fun o e=>sq1.extBut _ _ (BI (by omega)) e
  refine wpAny_bind (wpAny_letGo (wpAny_pure ?_));refine wpAny_bind (wpAny_bind (wpAny_onRaise ?_));show wpAny _ _ (Builtin.SmallTypes.nextOf (.ref (I+1)) >>= _) _ _ _;refine wpAny_bind (Bz (s20.at fun o e=>k1 _ o (by omega) (by omega) (by omega) e) (hl2.at fun o e=>k1 _ o (by omega) (by omega) (by omega) e) hx2 fun p2 si2 sp2=>wpAny_pure ?_);have u2:Pn p2 (I+3) y1 v2:=sp2.extBut _ _ (BI (by omega)) to2;refine wpAny_bind (wpAny_seqItems u2 rfl ?_);refine wpAny_bind (Zz u2 fun q2 to3 sq2=>?_);have k2:∀ (c:Nat) o,c≠(I+4)->c≠(I+3)->(c < I\/I+2<=c)->s.heap.get? c=some o->q2.get? c=some o:=fun c o c1 c2 c3 e=>sq2.extBut _ _ c2 (sp2.extBut _ _ (BI (by omega)) (k1 c o c1 c2 (by omega) e))
  have zz2:IsZip q2 (I+4) (I+2) (I+3) .ellipsis:=sq2.extBut _ _ (BI (by omega)) (sp2.extBut _ _ (BI (by omega)) zz1);have w2_2:Cr q2 (I+1) l2 (i+1) b2:=si2.at fun o e=>sq2.extBut _ _ (BI (by omega)) e
  have w1_2:Cr q2 I l1 (i+1) b1:=w1_1.at fun o e=>sq2.extBut _ _ (BI (by omega)) (sp2.extBut _ _ (BI (by omega)) e)
  refine wpAny_bind (wpAny_letGo (wpAny_pure (wpAny_pure ?_)));refine wpAny_bind (wpAny_seqItems to3 rfl ?_);refine wpAny_bind (wpAny_newTuple ?_);have hsz:q2.objs.size=s.heap.objs.size:=by rw [sq2.1,sp2.1,sq1.1,sp1.1,hs₁.1]
  have zlt:(I+4) < q2.objs.size:=mO zz2;show wpAny _ _ (Builtin.SmallTypes.ownedTupleHandOut (.ref (I+4)) (.ref q2.objs.size) >>= _) _ _ _;refine wpAny_bind ?_;unfold Builtin.SmallTypes.ownedTupleHandOut
  have z6:IsZip (q2.push { cls:=.type "tuple", data:=.seq #[y1,y2] }) (I+4) (I+2) (I+3) .ellipsis:=lx _ zz2
  refine wpAny_bind (wpAny_setField_rec z6 (by simp) fun h₇ hz₇ hs₇=>?_);replace hz₇:IsZip h₇ (I+4) (I+2) (I+3) (rawInt q2.objs.size):=hz₇;refine wpAny_setField_rec hz₇ (by simp) fun h₈ hz₈ hs₈=>?_
  replace hz₈:IsZip h₈ (I+4) (I+2) (I+3) (rawInt q2.objs.size):=hz₈;have up:∀ (c:Nat) o,c≠(I+4)->q2.get? c=some o->h₈.get? c=some o:=fun c o c1 e=>hs₈.extBut _ _ c1 (hs₇.extBut _ _ c1 (lx _ e))
  have hT₈:Pn h₈ q2.objs.size y1 y2:=hs₈.extBut _ _ (BI (by omega)) (hs₇.extBut _ _ (BI (by omega)) (mK _ rfl));have hz8:h₈.objs.size=q2.objs.size+1:=by rw [hs₈.1,hs₇.1,mn]
  rw [hsz] at hz₈ hT₈ hz8;refine wpAny_pure ⟨_,rfl,?_⟩;show Q (.ref q2.objs.size) _;rw [hsz];exact hQ h₈ ⟨hz₈,up _ _ (by omega) (k2 _ _ (by omega) (by omega) (by omega) ti0),⟨y1,y2,up _ _ (by omega) to3⟩,w1_2.at fun o e=>up _ o (by omega) e,w2_2.at fun o e=>up _ o (by omega) e⟩ hT₈ hz8 fun c o hc e=>up c o (by omega) (k2 c o (by omega) (by omega) (by omega) e)
theorem Rx {I l1 l2:Nat} {b1 b2:Bool} {i:Nat} {xs1 xs2:Array Value} {Q:Fin->Shared->Prop} (hh:A.handled=none) (hz:Zst2 s.heap I l1 l2 b1 b2 i .none) (hl1:Cd s.heap l1 xs1 b1) (lt1:l1 < I) (hl2:Cd s.heap l2 xs2 b2) (lt2:l2 < I) (hend:xs1[i]?=none\/xs2[i]?=none)
    (hE:∀ h' e,(∀ (c:Nat) o,(c < I\/I+5<=c)->s.heap.get? c=some o->h'.get? c=some o)->(∃ o,h'.get? e=some o/\o.cls=.type "StopIteration")->E (.ref e) { s with heap:=h' }) :
    wpAny (model prog w) A (Builtin.«zip.__next__» ⟨[.ref (I+4)],[]⟩) Q E s:=by
  obtain ⟨z0,ti0,⟨v1,v2,to0⟩,s10,s20⟩:=hz;show wpAny _ _ (field (.ref (I+4)) 2 >>= _) _ _ _;refine wpAny_bind (wpAny_field z0 rfl (x:=.bool false) rfl ?_);show wpAny _ _ (field (.ref (I+4)) 3 >>= _) _ _ _;refine wpAny_bind (wpAny_field z0 rfl (x:=.ref (I+2)) rfl ?_);refine wpAny_bind (wpAny_seqItems ti0 rfl ?_);show wpAny _ _ (Builtin.SmallTypes.ownedTupleIsFree (.ref (I+4)) >>= _) _ _ _;refine wpAny_bind ?_;unfold Builtin.SmallTypes.ownedTupleIsFree;refine wpAny_bind (wpAny_field z0 rfl (x:=.none) rfl (wpAny_pure ?_));simp only [if_true];refine wpAny_bind (wpAny_rule ?_);refine wpAny_bind (wpAny_field z0 rfl (x:=.ref (I+3)) rfl ?_);refine wpAny_bind (wpAny_setField_rec z0 (by simp) fun h₁ hz₁ hs₁=>?_);replace hz₁:IsZip h₁ (I+4) (I+2) (I+3) .ellipsis:=hz₁;refine wpAny_bind ?_;simp only [oj,ow,oI,oZ];have g0:∀ (c:Nat) o,c≠(I+4)->s.heap.get? c=some o->h₁.get? c=some o:=fun c o c1 e=>hs₁.extBut _ _ c1 e
  have k0:∀ (c:Nat) o,c≠(I+4)->c≠(I+3)->(c < I\/I<=c)->s.heap.get? c=some o->h₁.get? c=some o:=fun c o c1 _ _ e=>g0 c o c1 e
  have to1:Pn h₁ (I+3) v1 v2:=g0 _ _ (by omega) to0;have zz0:IsZip h₁ (I+4) (I+2) (I+3) .ellipsis:=hz₁;refine wpAny_bind (wpAny_bind (wpAny_onRaise ?_));show wpAny _ _ (Builtin.SmallTypes.nextOf (.ref I) >>= _) _ _ _;cases hx1:xs1[i]? with
  | none =>
    refine wpAny_bind (FY hh (s10.at fun o e=>k0 _ o (by omega) (by omega) (by omega) e) (hl1.at fun o e=>k0 _ o (by omega) (by omega) (by omega) e) hx1 fun h₂ e hs₂ he=>?_);obtain ⟨oe,hoe,hce⟩:=he;have hz₂:IsZip h₂ (I+4) (I+2) (I+3) .ellipsis:=hs₂ _ _ (BI (by omega)) zz0;have hez:e≠(I+4):=fun x=>by subst x;rw [hz₂] at hoe;cases hoe;simp at hce
    exact wpAny_setField_rec hz₂ (by simp) fun h₃ _ hs₃=>hE h₃ e (fun c o hc x=>hs₃.extBut _ _ (BI (by omega)) (hs₂ _ _ (BI (by omega)) (k0 c o (by omega) (by omega) (by omega) x))) ⟨oe,hs₃.extBut _ _ hez hoe,hce⟩
  | some y1 =>
    refine wpAny_bind (Bz (s10.at fun o e=>k0 _ o (by omega) (by omega) (by omega) e) (hl1.at fun o e=>k0 _ o (by omega) (by omega) (by omega) e) hx1 fun p1 si1 sp1=>wpAny_pure ?_);have u1:Pn p1 (I+3) v1 v2:=sp1.extBut _ _ (BI (by omega)) to1;refine wpAny_bind (wpAny_seqItems u1 rfl ?_);refine wpAny_bind (SE u1 fun q1 to2 sq1=>?_);have k1:∀ (c:Nat) o,c≠(I+4)->c≠(I+3)->(c < I\/I+1<=c)->s.heap.get? c=some o->q1.get? c=some o:=fun c o c1 c2 c3 e=>sq1.extBut _ _ c2 (sp1.extBut _ _ (BI (by omega)) (k0 c o c1 c2 (by omega) e))
    have zz1:IsZip q1 (I+4) (I+2) (I+3) .ellipsis:=sq1.extBut _ _ (BI (by omega)) (sp1.extBut _ _ (BI (by omega)) zz0);refine wpAny_bind (wpAny_letGo (wpAny_pure ?_));refine wpAny_bind (wpAny_bind (wpAny_onRaise ?_));show wpAny _ _ (Builtin.SmallTypes.nextOf (.ref (I+1)) >>= _) _ _ _;cases hx2:xs2[i]? with
    | none =>
      refine wpAny_bind (FY hh (s20.at fun o e=>k1 _ o (by omega) (by omega) (by omega) e) (hl2.at fun o e=>k1 _ o (by omega) (by omega) (by omega) e) hx2 fun h₂ e hs₂ he=>?_);obtain ⟨oe,hoe,hce⟩:=he;have hz₂:IsZip h₂ (I+4) (I+2) (I+3) .ellipsis:=hs₂ _ _ (BI (by omega)) zz1;have hez:e≠(I+4):=fun x=>by subst x;rw [hz₂] at hoe;cases hoe;simp at hce
      exact wpAny_setField_rec hz₂ (by simp) fun h₃ _ hs₃=>hE h₃ e (fun c o hc x=>hs₃.extBut _ _ (BI (by omega)) (hs₂ _ _ (BI (by omega)) (k1 c o (by omega) (by omega) (by omega) x))) ⟨oe,hs₃.extBut _ _ hez hoe,hce⟩
    | some y2 =>
      simp [hx1,hx2] at hend
theorem Fy {I l1 l2:Nat} {b1 b2:Bool} {i:Nat} {xs1 xs2:Array Value} {y1 y2:Value} {Q:Option Value->Shared->Prop} (hz:Zst2 s.heap I l1 l2 b1 b2 i .none) (hl1:Cd s.heap l1 xs1 b1) (lt1:l1 < I) (hl2:Cd s.heap l2 xs2 b2) (lt2:l2 < I) (hx1:xs1[i]?=some y1) (hx2:xs2[i]?=some y2)
    (hQ:∀ h',Zst2 h' I l1 l2 b1 b2 (i+1) (rawInt s.heap.objs.size)->Pn h' s.heap.objs.size y1 y2->h'.objs.size=s.heap.objs.size+1->(∀ (c:Nat) o,(c < I\/I+5<=c)->s.heap.get? c=some o->h'.get? c=some o)->Q (some (.ref s.heap.objs.size)) { s with heap:=h' }) :
    wpAny (model prog w) A (pyNext (.ref (I+4))) Q E s:=by
  have hT:s.TypeIs (.ref (I+4)) "zip" := ⟨_,hz.z,rfl⟩
  unfold pyNext
  exact wpAny_bind (wpAny_attempt (wpAny_callSpecial?_slot (name:=Str.ofString "__next__") hT F.slot_zip_next
    (wpAny_call_entry F.slot_zip_next hT F.entry_zip_next (Pq hz hl1 lt1 hl2 lt2 hx1 hx2 fun h' a1 a2 a3 a4=>wpAny_pure (hQ h' a1 a2 a3 a4)) (F.args_zip_next_1 _))))
theorem GW {I l1 l2:Nat} {b1 b2:Bool} {i:Nat} {xs1 xs2:Array Value} {Q:Option Value->Shared->Prop} (hh:A.handled=none) (hz:Zst2 s.heap I l1 l2 b1 b2 i .none) (hl1:Cd s.heap l1 xs1 b1) (lt1:l1 < I) (hl2:Cd s.heap l2 xs2 b2) (lt2:l2 < I) (hend:xs1[i]?=none\/xs2[i]?=none)
    (hQ:∀ h',(∀ (c:Nat) o,(c < I\/I+5<=c)->s.heap.get? c=some o->h'.get? c=some o)->Q none { s with heap:=h' }) :
    wpAny (model prog w) A (pyNext (.ref (I+4))) Q E s:=by
  have hT:s.TypeIs (.ref (I+4)) "zip" := ⟨_,hz.z,rfl⟩
  unfold pyNext
  refine wpAny_bind (wpAny_attempt (wpAny_callSpecial?_slot (name:=Str.ofString "__next__") hT F.slot_zip_next
    (wpAny_call_entry F.slot_zip_next hT F.entry_zip_next (Rx hh hz hl1 lt1 hl2 lt2 hend fun h' e hk he=>?_) (F.args_zip_next_1 _))))
  obtain ⟨o,ho,hc⟩:=he
  refine wpAny_bind (wpAny_isInstance (T := "StopIteration") (b:=true) ⟨o,ho,hc⟩ isSubtype_stop ?_)
  exact wpAny_pure (hQ _ hk)
abbrev Ik (h:Heap) (l1 l2:Nat) (b1 b2:Bool):Heap:=h.push (Hn l1 b1)
abbrev OW (h:Heap) (l1 l2:Nat) (b1 b2:Bool):Heap:=(Ik h l1 l2 b1 b2).push (Hn l2 b2)
abbrev OV (h:Heap) (l1 l2:Nat) (b1 b2:Bool):Heap:=(OW h l1 l2 b1 b2).push { cls:=.type "tuple", data:=.seq #[.ref h.objs.size,.ref (Ik h l1 l2 b1 b2).objs.size] }
abbrev OU (h:Heap) (l1 l2:Nat) (b1 b2:Bool):Heap:=(OV h l1 l2 b1 b2).push { cls:=.type "tuple", data:=.seq #[.none,.none] }
abbrev Gq (h:Heap) (l1 l2:Nat) (b1 b2:Bool):Heap:=(OU h l1 l2 b1 b2).push { cls:=.type "zip", data:=.fields #[.none,.bool false,.bool false,.ref (OW h l1 l2 b1 b2).objs.size,.ref (OV h l1 l2 b1 b2).objs.size] }
theorem NX (l1 l2:Nat) (b1 b2:Bool) (xs1 xs2:Array Value) :
    Meets (Builtin.«zip.__new__» ⟨[.type "zip", .ref l1,.ref l2],[]⟩) (fun _ R s=>Cd s.heap l1 xs1 b1/\Cd s.heap l2 xs2 b2 /\
      R (.ok (.ret (.ref (OU s.heap l1 l2 b1 b2).objs.size))) { s with heap:=Gq s.heap l1 l2 b1 b2 }):=
  .of_wp fun prog w A R s h=>by
    obtain ⟨hp,g,d,tk,os⟩:=s;obtain ⟨hl1,hl2,h⟩:=h;have hsub:=sub_zip;have hL1:Cd (Shared.heap ⟨hp,g,d,tk,os⟩) l1 xs1 b1:=hl1.at fun o e=>e
    have hL2:Cd (Shared.heap ⟨(Ik hp l1 l2 b1 b2),g,d,tk,os⟩) l2 xs2 b2:=hl2.at fun o e=>lx _ e
    wp_walk using Cs hL1,Cs hL2
    exact ⟨_,rfl,h⟩
theorem RL {l1 l2:Nat} {b1 b2:Bool} {xs1 xs2:Array Value} {Q:Value->Shared->Prop} (hl1:Cd s.heap l1 xs1 b1) (hl2:Cd s.heap l2 xs2 b2)
    (h:∀ h',Zst2 h' s.heap.objs.size l1 l2 b1 b2 0 .none->h'.objs.size=s.heap.objs.size+5->(∀ (c:Nat) o,s.heap.get? c=some o->h'.get? c=some o)->Q (.ref (s.heap.objs.size+4)) { s with heap:=h' }) :
    wpAny (model prog w) A (call (.type "zip") [.ref l1,.ref l2]) Q E s:=by
  refine callType_new F.called_zip (by decide) (F.typeCall_zip_2 _ _) (F.newCall_zip_2 _ _) (fun obj=>F.args_object_init_3 obj _ _) F.entry_zip_new (NX l1 l2 b1 b2 xs1 xs2) ⟨hl1,hl2,?_⟩;have z1:(Ik s.heap l1 l2 b1 b2).objs.size=s.heap.objs.size+1:=by exact mn ..
  have z2:(OW s.heap l1 l2 b1 b2).objs.size=s.heap.objs.size+2:=by rw [mn,z1]
  have z3:(OV s.heap l1 l2 b1 b2).objs.size=s.heap.objs.size+3:=by rw [mn,z2]
  have z4:(OU s.heap l1 l2 b1 b2).objs.size=s.heap.objs.size+4:=by rw [mn,z3]
  have z5:(Gq s.heap l1 l2 b1 b2).objs.size=s.heap.objs.size+5:=by rw [mn,z4]
  have gz:(Gq s.heap l1 l2 b1 b2).get? (OU s.heap l1 l2 b1 b2).objs.size=some _:=mK _ rfl;have gto:(Gq s.heap l1 l2 b1 b2).get? (OV s.heap l1 l2 b1 b2).objs.size=some _:=(lx _ (mK _ rfl));have gti:(Gq s.heap l1 l2 b1 b2).get? (OW s.heap l1 l2 b1 b2).objs.size=some _:=(lx _ (lx _ (mK _ rfl)));have gs1:Cr (Gq s.heap l1 l2 b1 b2) s.heap.objs.size l1 0 b1:=Cr.at (Cr.new (h:=s.heap)) fun o e=>(lx _ (lx _ (lx _ (lx _ e))))
  have gs2:Cr (Gq s.heap l1 l2 b1 b2) (Ik s.heap l1 l2 b1 b2).objs.size l2 0 b2:=Cr.at (Cr.new (h:=(Ik s.heap l1 l2 b1 b2))) fun o e=>(lx _ (lx _ (lx _ e)))
  show _/\_;rw [z2,z3,z4] at gz;rw [z3] at gto;rw [z1,z2] at gti;rw [z1] at gs2;rw [z4];exact ⟨⟨_,gz,rfl⟩,h _ ⟨gz,gti,⟨_,_,gto⟩,gs1,gs2⟩ z5 fun c o x=>(lx _ (lx _ (lx _ (lx _ (lx _ x)))))⟩
end
theorem ZN {I b:Nat} (h:¬ b∈([(I+4),(I+2),(I+3),I,(I+1)]:List Nat)):b < I\/I+5<=b:=by simp only [mL,mz,or_false,not_or] at h;omega
theorem gu {I b:Nat} (h:b∈([(I+4),(I+2),(I+3),I,(I+1)]:List Nat)):I<=b/\b < I+5:=by simp only [mL,mz,or_false] at h;omega
def Vx (K:W.Frag) (a1 a2:Nat) (b1 b2:Bool):It:=
 ⟨fun i H=>∃ xs1 xs2 y1 y2,DO K H a1 xs1 b1/\xs1[i]?=some y1/\DO K H a2 xs2 b2/\xs2[i]?=some y2,fun i H x H'=>∃ p y1 y2,H p=none/\x=.ref p/\H'=upd H p (.tup [y1,y2])/\(∀ xs,DO K H a1 xs b1->xs[i]?=some y1)/\(∀ xs,DO K H a2 xs b2->xs[i]?=some y2),fun i H=>∃ xs1 xs2,DO K H a1 xs1 b1/\DO K H a2 xs2 b2/\(xs1.length<=i\/xs2.length<=i)⟩
theorem QA {P:Program} {w:World} {K:W.Frag} {elts:List Expr} {x1} {pos:Pos} (I a1 a2:Nat) (b1 b2:Bool) (lt1:a1 < I) (lt2:a2 < I):Turn P w K (.Tuple elts x1 pos) (Vx K a1 a2 b1 b2) [(I+4),(I+2),(I+3),I,(I+1)] (I+4) (fun i h=>Zst2 h I a1 a2 b1 b2 i .none) where
 mem:=by simp
 obj:=fun i h st b hb=>by
  obtain ⟨z0,ti0,⟨v1,v2,to0⟩,s10,s20⟩:=st;simp only [mL,mz,or_false] at hb;rcases hb with rfl | rfl | rfl | rfl | rfl
  ·exact ⟨_,z0,fun v z=>by cases z⟩
  ·exact ⟨_,ti0,fun v z=>by cases z⟩
  ·exact ⟨_,to0,fun v z=>by cases z⟩
  ·exact s10.obj
  ·exact s20.obj
 keep:=fun i h h' st k=>st.at fun c o c1 c2 e=>k c (by show c∈([(I+4),(I+2),(I+3),I,(I+1)]:List Nat);simp only [mL,mz,or_false];omega) o e
 item:=by
  intro X hP hw hK hc i pins s σ H E I1 hf st hg;subst hP hw hK;obtain ⟨ws1,ws2,y1,y2,hq1,hy1,hq2,hy2⟩:=hg;obtain ⟨its1,rv1,p1,hl1⟩:=I1.sqB hq1;obtain ⟨u1,hu1,ru1⟩:=rv1.get hy1;obtain ⟨its2,rv2,p2,hl2⟩:=I1.sqB hq2;obtain ⟨u2,hu2,ru2⟩:=rv2.get hy2;refine Fy st p1 lt1 p2 lt2 (y1:=u1) (y2:=u2) (by simpa using hu1) (by simpa using hu2) fun h1 st1 t1 z1 k1=>?_
  refine ⟨_,rfl,wpAny_letOwnedTupleGo_zip (s:={ s with heap:=h1 }) st1.z fun h2 e2 sb=>?_⟩;have hzl:(I+4) < s.heap.objs.size:=mO st.z;have hfr:=I1.hok.fresh (mF s.heap.objs.size)
  have I2:Inv X pins σ (upd H s.heap.objs.size (.tup [y1,y2])) { s with heap:=s.heap.push { cls:=.type "tuple", data:=.seq #[u1,u2] },toks:=s.toks }:=
   I1.laid (fun b o q=>lx _ q) (mF _) (show Aa X.prog X.w _ _ _ (.tup [y1,y2]) from ⟨by show 2<=sizeLine;decide,[u1,u2],(.cons ru1 (.cons ru2 .nil)),FQ.new _ _⟩)
  have hb:∀ b∈([(I+4),(I+2),(I+3),I,(I+1)]:List Nat),I<=b/\b < I+5:=fun b hb=>gu hb
  have hf1:∀ b∈([(I+4),(I+2),(I+3),I,(I+1)]:List Nat),FpOk X pins (upd H s.heap.objs.size (.tup [y1,y2])) b:=fun b hbb=>by
   obtain ⟨f0,r⟩:=hf b hbb;refine ⟨?_,r⟩;rw [AO (mh (mP (hb b hbb).2 (by omega)))];exact f0
  have I3:Inv X pins σ (upd H s.heap.objs.size (.tup [y1,y2])) { s with heap:=h2,toks:=s.toks }:=by
   refine Inv.turnedL (s:={ s with heap:=s.heap.push { cls:=.type "tuple", data:=.seq #[u1,u2] },toks:=s.toks }) (h':=h2) (t':=s.toks) (ch:=[(I+4),(I+2),(I+3),I,(I+1)]) I2 (fun b o hbb q=>?_) hf1
   have q:(s.heap.push { cls:=.type "tuple", data:=.seq #[u1,u2] }).get? b=some o:=q
   have hbe:b≠(I+4):=fun z=>hbb (by simp [z])
   refine (sb.2 b hbe).trans ?_
   by_cases hbs:b=s.heap.objs.size
   ·subst hbs;rw [mK _ rfl] at q;rw [<- q];exact t1
   ·rw [pI _ _ _ hbs] at q;exact k1 b o (ZN hbb) q
  refine ⟨.ref s.heap.objs.size,_,I3,rfl,⟨_,y1,y2,hfr,rfl,rfl,fun zs hz=>by rw [I1.sqB_inj hz hq1];exact hy1,fun zs hz=>by rw [I1.sqB_inj hz hq2];exact hy2⟩,?_,fun b hbb=>(hf1 b hbb).1⟩;exact ⟨e2,sb.extBut _ _ (BI (by omega)) st1.ti,let ⟨v1,v2,e⟩:=st1.to;⟨v1,v2,sb.extBut _ _ (BI (by omega)) e⟩,st1.s1.at fun o e=>sb.extBut _ _ (BI (by omega)) e,st1.s2.at fun o e=>sb.extBut _ _ (BI (by omega)) e⟩
 done:=by
  intro X hP hw hK hc i pins s σ H E I1 hf st hg;subst hP hw hK;obtain ⟨ws1,ws2,hq1,hq2,hend⟩:=hg;obtain ⟨its1,rv1,p1,hl1⟩:=I1.sqB hq1;have le1:=rv1.length;obtain ⟨its2,rv2,p2,hl2⟩:=I1.sqB hq2;have le2:=rv2.length;have hend2:its1.toArray[i]?=none\/its2.toArray[i]?=none:=by
   rcases hend with h | h
   ·exact .inl (by simp;omega)
   ·exact .inr (by simp;omega)
  refine GW (I1.ok.hd hc) st p1 lt1 p2 lt2 hend2 fun h' k=>⟨rfl,?_⟩
  refine Inv.turnedL (t':=s.toks) (ch:=[(I+4),(I+2),(I+3),I,(I+1)]) I1 (fun b o hbb e=>k b o (ZN hbb) e) hf
 self:=fun _ _ _ _ _ st h=>wpAny_pyIter_zip st.z h
section
variable {X:Cx} {elts:List Expr} {x1} {tpos:Pos}
abbrev gy (K:W.Frag) (ta:TA):TI:=fun σ H R=>ta σ H fun vs H1=>∃ a1 a2 b1 b2,vs=[.ref a1,.ref a2]/\(∃ xs,DO K H1 a1 xs b1)/\(∃ xs,DO K H1 a2 xs b2)/\R (Vx K a1 a2 b1 b2) H1
theorem XA (K:W.Frag) {e1 e2:Expr} {ta:TA} {p pos:Pos} (hg:Gl X "zip") (hm:X.mg "zip" = none) (ha:PA X [e1,e2] ta) (hK:X.K=K:=by rfl) (hs:starEach (e1::[e2]) X.env=(false,eval e1 X.env)::starEach [e2] X.env:=by rfl) (hpl:(backTo pos (starEach [e2] X.env)).any (·.1)=false:=by rfl):PI X (.Tuple elts x1 tpos) (.Call (.Name "zip" p) [e1,e2] [] pos) (gy K ta):=by
 subst hK;intro pins s σ H R I h;refine Call_ (Bc I hg hm PyProof.Rows.Boot.«zip» (mi (Ap (ha pos pins s σ H _ I h) fun us s1 ⟨vs,H1,I1,r1,q1⟩=>?_) hs hpl));obtain ⟨a1,a2,b1,b2,rfl,⟨ws1,hq1⟩,⟨ws2,hq2⟩,q⟩:=q1;obtain ⟨its1,rv1,p1,hl1⟩:=I1.sqB hq1;obtain ⟨its2,rv2,p2,hl2⟩:=I1.sqB hq2;have rr:=r1;clear r1;cases rr with
 | cons r1 w1 =>
  cases w1 with
  | cons r2 w2 =>
   cases w2;cases r1;cases r2;refine RL p1 p2 fun h' st hsz hk=>?_
   refine wpAny_pyIter_zip (s:={ s1 with heap:=h' }) st.z ?_;refine ⟨s1.heap.objs.size+4,[(s1.heap.objs.size+4),(s1.heap.objs.size+2),(s1.heap.objs.size+3),s1.heap.objs.size,(s1.heap.objs.size+1)],fun i h=>Zst2 h s1.heap.objs.size a1 a2 b1 b2 i .none,Vx X.K a1 a2 b1 b2,H1,rfl,I1.kept (t':=s1.toks) hk,QA s1.heap.objs.size a1 a2 b1 b2 hl1 hl2,st,fun b hb=>?_,q⟩;have hb':s1.heap.objs.size<=b:=(gu (I:=s1.heap.objs.size) hb).1;exact I1.fpOk hb' (I1.hok.fresh hb')
end
abbrev LB (h:Heap) (T:Addr) (v1 v2 v3:Value):Prop:=h.get? T=some { cls:=.type "tuple", data:=.seq #[v1,v2,v3] }
section
variable {prog:Program} {w:World} {A:Around} {E:Value->Shared->Prop} {s:Shared}
theorem Gv (a b c:Value):checkTypeCall "zip" ⟨[a,b,c],[]⟩=pure ():=by kernel_rfl
theorem IR (a b c:Value):checkBuiltinCall "zip.__new__" ⟨[.type "zip", a,b,c],[]⟩=pure ():=by kernel_rfl
theorem Ee (a b c d:Value):argsOk "object.__init__" ⟨[a,b,c,d],[]⟩:=by
 unfold argsOk;rw [signature?_of (id := "object.__init__") (n:=['_','_','t','i','n','i','_','_']) (o:=['t','c','e','j','b','o']) (by kernel_rfl) F.owner_object];kernel_rfl
theorem SD {T:Addr} {v1 v2 v3 x:Value} {Q:Unit->Shared->Prop} (hT:LB s.heap T v1 v2 v3) (h:∀ h',LB h' T x v2 v3->Heap.SameBut T s.heap h'->Q () { s with heap:=h' }):wpAny (model prog w) A (updateSeq T (·.setIfInBounds 0 x)) Q E s:=by
 refine wpAny_updateSeq hT rfl (h _ ?_ (Heap.SameBut.update ..));show Heap.get? _ _=_;rw [nK _ hT rfl];simp [Obj.mapSeq]
theorem SB {T:Addr} {v1 v2 v3 x:Value} {Q:Unit->Shared->Prop} (hT:LB s.heap T v1 v2 v3) (h:∀ h',LB h' T v1 x v3->Heap.SameBut T s.heap h'->Q () { s with heap:=h' }):wpAny (model prog w) A (updateSeq T (·.setIfInBounds 1 x)) Q E s:=by
 refine wpAny_updateSeq hT rfl (h _ ?_ (Heap.SameBut.update ..));show Heap.get? _ _=_;rw [nK _ hT rfl];simp [Obj.mapSeq]
theorem Zy {T:Addr} {v1 v2 v3 x:Value} {Q:Unit->Shared->Prop} (hT:LB s.heap T v1 v2 v3) (h:∀ h',LB h' T v1 v2 x->Heap.SameBut T s.heap h'->Q () { s with heap:=h' }):wpAny (model prog w) A (updateSeq T (·.setIfInBounds 2 x)) Q E s:=by
 refine wpAny_updateSeq hT rfl (h _ ?_ (Heap.SameBut.update ..));show Heap.get? _ _=_;rw [nK _ hT rfl];simp [Obj.mapSeq]
structure Zst3 (h:Heap) (I:Nat) (l1 l2 l3:Nat) (b1 b2 b3:Bool) (i:Nat) (f0:Value):Prop where
 z:IsZip h (I+5) (I+3) (I+4) f0
 ti:LB h (I+3) (.ref I) (.ref (I+1)) (.ref (I+2))
 to:∃ v1 v2 v3,LB h (I+4) v1 v2 v3
 s1:Cr h I l1 i b1
 s2:Cr h (I+1) l2 i b2
 s3:Cr h (I+2) l3 i b3
theorem Zst3.at {h h':Heap} {I l1 l2 l3:Nat} {b1 b2 b3:Bool} {i:Nat} {f0:Value} (x:Zst3 h I l1 l2 l3 b1 b2 b3 i f0) (k:∀ (c:Nat) o,I<=c->c < I+6->h.get? c=some o->h'.get? c=some o):Zst3 h' I l1 l2 l3 b1 b2 b3 i f0:=
 ⟨k _ _ (by omega) (by omega) x.z,k _ _ (by omega) (by omega) x.ti,let ⟨v1,v2,v3,e⟩:=x.to;⟨v1,v2,v3,k _ _ (by omega) (by omega) e⟩,x.s1.at fun o e=>k _ o (by omega) (by omega) e,x.s2.at fun o e=>k _ o (by omega) (by omega) e,x.s3.at fun o e=>k _ o (by omega) (by omega) e⟩
theorem Pp {I l1 l2 l3:Nat} {b1 b2 b3:Bool} {i:Nat} {xs1 xs2 xs3:Array Value} {y1 y2 y3:Value} {Q:Value->Shared->Prop} (hz:Zst3 s.heap I l1 l2 l3 b1 b2 b3 i .none) (hl1:Cd s.heap l1 xs1 b1) (lt1:l1 < I) (hl2:Cd s.heap l2 xs2 b2) (lt2:l2 < I) (hl3:Cd s.heap l3 xs3 b3) (lt3:l3 < I) (hx1:xs1[i]?=some y1) (hx2:xs2[i]?=some y2) (hx3:xs3[i]?=some y3)
    (hQ:∀ h',Zst3 h' I l1 l2 l3 b1 b2 b3 (i+1) (rawInt s.heap.objs.size)->LB h' s.heap.objs.size y1 y2 y3->h'.objs.size=s.heap.objs.size+1->(∀ (c:Nat) o,(c < I\/I+6<=c)->s.heap.get? c=some o->h'.get? c=some o)->Q (.ref s.heap.objs.size) { s with heap:=h' }) :
    wpAny (model prog w) A (Builtin.«zip.__next__» ⟨[.ref (I+5)],[]⟩) (fun fin s'=>∃ v,fin=.done (.ret v)/\Q v s') E s:=by
  obtain ⟨z0,ti0,⟨v1,v2,v3,to0⟩,s10,s20,s30⟩:=hz;show wpAny _ _ (field (.ref (I+5)) 2 >>= _) _ _ _;refine wpAny_bind (wpAny_field z0 rfl (x:=.bool false) rfl ?_);show wpAny _ _ (field (.ref (I+5)) 3 >>= _) _ _ _;refine wpAny_bind (wpAny_field z0 rfl (x:=.ref (I+3)) rfl ?_);refine wpAny_bind (wpAny_seqItems ti0 rfl ?_);show wpAny _ _ (Builtin.SmallTypes.ownedTupleIsFree (.ref (I+5)) >>= _) _ _ _;refine wpAny_bind ?_;unfold Builtin.SmallTypes.ownedTupleIsFree;refine wpAny_bind (wpAny_field z0 rfl (x:=.none) rfl (wpAny_pure ?_));simp only [if_true];refine wpAny_bind (wpAny_rule ?_);refine wpAny_bind (wpAny_field z0 rfl (x:=.ref (I+4)) rfl ?_);refine wpAny_bind (wpAny_setField_rec z0 (by simp) fun h₁ hz₁ hs₁=>?_);replace hz₁:IsZip h₁ (I+5) (I+3) (I+4) .ellipsis:=hz₁;refine wpAny_bind ?_;simp only [oj,ow,oI,oZ];have g0:∀ (c:Nat) o,c≠(I+5)->s.heap.get? c=some o->h₁.get? c=some o:=fun c o c1 e=>hs₁.extBut _ _ c1 e
  have k0:∀ (c:Nat) o,c≠(I+5)->c≠(I+4)->(c < I\/I<=c)->s.heap.get? c=some o->h₁.get? c=some o:=fun c o c1 _ _ e=>g0 c o c1 e
  have to1:LB h₁ (I+4) v1 v2 v3:=g0 _ _ (by omega) to0;refine wpAny_bind (wpAny_bind (wpAny_onRaise ?_));show wpAny _ _ (Builtin.SmallTypes.nextOf (.ref I) >>= _) _ _ _;refine wpAny_bind (Bz (s10.at fun o e=>k0 _ o (by omega) (by omega) (by omega) e) (hl1.at fun o e=>k0 _ o (by omega) (by omega) (by omega) e) hx1 fun p1 si1 sp1=>wpAny_pure ?_);have u1:LB p1 (I+4) v1 v2 v3:=sp1.extBut _ _ (BI (by omega)) to1;refine wpAny_bind (wpAny_seqItems u1 rfl ?_);refine wpAny_bind (SD u1 fun q1 to2 sq1=>?_);have k1:∀ (c:Nat) o,c≠(I+5)->c≠(I+4)->(c < I\/I+1<=c)->s.heap.get? c=some o->q1.get? c=some o:=fun c o c1 c2 c3 e=>sq1.extBut _ _ c2 (sp1.extBut _ _ (BI (by omega)) (k0 c o c1 c2 (by omega) e))
  have zz1:IsZip q1 (I+5) (I+3) (I+4) .ellipsis:=sq1.extBut _ _ (BI (by omega)) (sp1.extBut _ _ (BI (by omega)) hz₁);have w1_1:Cr q1 I l1 (i+1) b1:=si1.at fun o e=>sq1.extBut _ _ (BI (by omega)) e
  refine wpAny_bind (wpAny_letGo (wpAny_pure ?_));refine wpAny_bind (wpAny_bind (wpAny_onRaise ?_));show wpAny _ _ (Builtin.SmallTypes.nextOf (.ref (I+1)) >>= _) _ _ _;refine wpAny_bind (Bz (s20.at fun o e=>k1 _ o (by omega) (by omega) (by omega) e) (hl2.at fun o e=>k1 _ o (by omega) (by omega) (by omega) e) hx2 fun p2 si2 sp2=>wpAny_pure ?_);have u2:LB p2 (I+4) y1 v2 v3:=sp2.extBut _ _ (BI (by omega)) to2;refine wpAny_bind (wpAny_seqItems u2 rfl ?_);refine wpAny_bind (SB u2 fun q2 to3 sq2=>?_);have k2:∀ (c:Nat) o,c≠(I+5)->c≠(I+4)->(c < I\/I+2<=c)->s.heap.get? c=some o->q2.get? c=some o:=fun c o c1 c2 c3 e=>sq2.extBut _ _ c2 (sp2.extBut _ _ (BI (by omega)) (k1 c o c1 c2 (by omega) e))
  have zz2:IsZip q2 (I+5) (I+3) (I+4) .ellipsis:=sq2.extBut _ _ (BI (by omega)) (sp2.extBut _ _ (BI (by omega)) zz1);have w2_2:Cr q2 (I+1) l2 (i+1) b2:=si2.at fun o e=>sq2.extBut _ _ (BI (by omega)) e
  have w1_2:Cr q2 I l1 (i+1) b1:=w1_1.at fun o e=>sq2.extBut _ _ (BI (by omega)) (sp2.extBut _ _ (BI (by omega)) e)
  refine wpAny_bind (wpAny_letGo (wpAny_pure ?_));refine wpAny_bind (wpAny_bind (wpAny_onRaise ?_));show wpAny _ _ (Builtin.SmallTypes.nextOf (.ref (I+2)) >>= _) _ _ _;refine wpAny_bind (Bz (s30.at fun o e=>k2 _ o (by omega) (by omega) (by omega) e) (hl3.at fun o e=>k2 _ o (by omega) (by omega) (by omega) e) hx3 fun p3 si3 sp3=>wpAny_pure ?_);have u3:LB p3 (I+4) y1 y2 v3:=sp3.extBut _ _ (BI (by omega)) to3;refine wpAny_bind (wpAny_seqItems u3 rfl ?_);refine wpAny_bind (Zy u3 fun q3 to4 sq3=>?_);have k3:∀ (c:Nat) o,c≠(I+5)->c≠(I+4)->(c < I\/I+3<=c)->s.heap.get? c=some o->q3.get? c=some o:=fun c o c1 c2 c3 e=>sq3.extBut _ _ c2 (sp3.extBut _ _ (BI (by omega)) (k2 c o c1 c2 (by omega) e))
  have zz3:IsZip q3 (I+5) (I+3) (I+4) .ellipsis:=sq3.extBut _ _ (BI (by omega)) (sp3.extBut _ _ (BI (by omega)) zz2);have w3_3:Cr q3 (I+2) l3 (i+1) b3:=si3.at fun o e=>sq3.extBut _ _ (BI (by omega)) e
  have w1_3:Cr q3 I l1 (i+1) b1:=w1_2.at fun o e=>sq3.extBut _ _ (BI (by omega)) (sp3.extBut _ _ (BI (by omega)) e)
  have w2_3:Cr q3 (I+1) l2 (i+1) b2:=w2_2.at fun o e=>sq3.extBut _ _ (BI (by omega)) (sp3.extBut _ _ (BI (by omega)) e)
  refine wpAny_bind (wpAny_letGo (wpAny_pure (wpAny_pure ?_)));refine wpAny_bind (wpAny_seqItems to4 rfl ?_);refine wpAny_bind (wpAny_newTuple ?_);have hsz:q3.objs.size=s.heap.objs.size:=by rw [sq3.1,sp3.1,sq2.1,sp2.1,sq1.1,sp1.1,hs₁.1]
  have zlt:(I+5) < q3.objs.size:=mO zz3;show wpAny _ _ (Builtin.SmallTypes.ownedTupleHandOut (.ref (I+5)) (.ref q3.objs.size) >>= _) _ _ _;refine wpAny_bind ?_;unfold Builtin.SmallTypes.ownedTupleHandOut
  have z6:IsZip (q3.push { cls:=.type "tuple", data:=.seq #[y1,y2,y3] }) (I+5) (I+3) (I+4) .ellipsis:=lx _ zz3
  refine wpAny_bind (wpAny_setField_rec z6 (by simp) fun h₇ hz₇ hs₇=>?_);replace hz₇:IsZip h₇ (I+5) (I+3) (I+4) (rawInt q3.objs.size):=hz₇;refine wpAny_setField_rec hz₇ (by simp) fun h₈ hz₈ hs₈=>?_
  replace hz₈:IsZip h₈ (I+5) (I+3) (I+4) (rawInt q3.objs.size):=hz₈;have up:∀ (c:Nat) o,c≠(I+5)->q3.get? c=some o->h₈.get? c=some o:=fun c o c1 e=>hs₈.extBut _ _ c1 (hs₇.extBut _ _ c1 (lx _ e))
  have hT₈:LB h₈ q3.objs.size y1 y2 y3:=hs₈.extBut _ _ (BI (by omega)) (hs₇.extBut _ _ (BI (by omega)) (mK _ rfl));have hz8:h₈.objs.size=q3.objs.size+1:=by rw [hs₈.1,hs₇.1,mn]
  rw [hsz] at hz₈ hT₈ hz8;refine wpAny_pure ⟨_,rfl,?_⟩;show Q (.ref q3.objs.size) _;rw [hsz];exact hQ h₈ ⟨hz₈,up _ _ (by omega) (k3 _ _ (by omega) (by omega) (by omega) ti0),⟨y1,y2,y3,up _ _ (by omega) to4⟩,w1_3.at fun o e=>up _ o (by omega) e,w2_3.at fun o e=>up _ o (by omega) e,w3_3.at fun o e=>up _ o (by omega) e⟩ hT₈ hz8 fun c o hc e=>up c o (by omega) (k3 c o (by omega) (by omega) (by omega) e)
theorem Rw {I l1 l2 l3:Nat} {b1 b2 b3:Bool} {i:Nat} {xs1 xs2 xs3:Array Value} {Q:Fin->Shared->Prop} (hh:A.handled=none) (hz:Zst3 s.heap I l1 l2 l3 b1 b2 b3 i .none) (hl1:Cd s.heap l1 xs1 b1) (lt1:l1 < I) (hl2:Cd s.heap l2 xs2 b2) (lt2:l2 < I) (hl3:Cd s.heap l3 xs3 b3) (lt3:l3 < I) (hend:xs1[i]?=none\/xs2[i]?=none\/xs3[i]?=none)
    (hE:∀ h' e,(∀ (c:Nat) o,(c < I\/I+6<=c)->s.heap.get? c=some o->h'.get? c=some o)->(∃ o,h'.get? e=some o/\o.cls=.type "StopIteration")->E (.ref e) { s with heap:=h' }) :
    wpAny (model prog w) A (Builtin.«zip.__next__» ⟨[.ref (I+5)],[]⟩) Q E s:=by
  obtain ⟨z0,ti0,⟨v1,v2,v3,to0⟩,s10,s20,s30⟩:=hz;show wpAny _ _ (field (.ref (I+5)) 2 >>= _) _ _ _;refine wpAny_bind (wpAny_field z0 rfl (x:=.bool false) rfl ?_);show wpAny _ _ (field (.ref (I+5)) 3 >>= _) _ _ _;refine wpAny_bind (wpAny_field z0 rfl (x:=.ref (I+3)) rfl ?_);refine wpAny_bind (wpAny_seqItems ti0 rfl ?_);show wpAny _ _ (Builtin.SmallTypes.ownedTupleIsFree (.ref (I+5)) >>= _) _ _ _;refine wpAny_bind ?_;unfold Builtin.SmallTypes.ownedTupleIsFree;refine wpAny_bind (wpAny_field z0 rfl (x:=.none) rfl (wpAny_pure ?_));simp only [if_true];refine wpAny_bind (wpAny_rule ?_);refine wpAny_bind (wpAny_field z0 rfl (x:=.ref (I+4)) rfl ?_);refine wpAny_bind (wpAny_setField_rec z0 (by simp) fun h₁ hz₁ hs₁=>?_);replace hz₁:IsZip h₁ (I+5) (I+3) (I+4) .ellipsis:=hz₁;refine wpAny_bind ?_;simp only [oj,ow,oI,oZ];have g0:∀ (c:Nat) o,c≠(I+5)->s.heap.get? c=some o->h₁.get? c=some o:=fun c o c1 e=>hs₁.extBut _ _ c1 e
  have k0:∀ (c:Nat) o,c≠(I+5)->c≠(I+4)->(c < I\/I<=c)->s.heap.get? c=some o->h₁.get? c=some o:=fun c o c1 _ _ e=>g0 c o c1 e
  have to1:LB h₁ (I+4) v1 v2 v3:=g0 _ _ (by omega) to0;have zz0:IsZip h₁ (I+5) (I+3) (I+4) .ellipsis:=hz₁;refine wpAny_bind (wpAny_bind (wpAny_onRaise ?_));show wpAny _ _ (Builtin.SmallTypes.nextOf (.ref I) >>= _) _ _ _;cases hx1:xs1[i]? with
  | none =>
    refine wpAny_bind (FY hh (s10.at fun o e=>k0 _ o (by omega) (by omega) (by omega) e) (hl1.at fun o e=>k0 _ o (by omega) (by omega) (by omega) e) hx1 fun h₂ e hs₂ he=>?_);obtain ⟨oe,hoe,hce⟩:=he;have hz₂:IsZip h₂ (I+5) (I+3) (I+4) .ellipsis:=hs₂ _ _ (BI (by omega)) zz0;have hez:e≠(I+5):=fun x=>by subst x;rw [hz₂] at hoe;cases hoe;simp at hce
    exact wpAny_setField_rec hz₂ (by simp) fun h₃ _ hs₃=>hE h₃ e (fun c o hc x=>hs₃.extBut _ _ (BI (by omega)) (hs₂ _ _ (BI (by omega)) (k0 c o (by omega) (by omega) (by omega) x))) ⟨oe,hs₃.extBut _ _ hez hoe,hce⟩
  | some y1 =>
    refine wpAny_bind (Bz (s10.at fun o e=>k0 _ o (by omega) (by omega) (by omega) e) (hl1.at fun o e=>k0 _ o (by omega) (by omega) (by omega) e) hx1 fun p1 si1 sp1=>wpAny_pure ?_);have u1:LB p1 (I+4) v1 v2 v3:=sp1.extBut _ _ (BI (by omega)) to1;refine wpAny_bind (wpAny_seqItems u1 rfl ?_);refine wpAny_bind (SD u1 fun q1 to2 sq1=>?_);have k1:∀ (c:Nat) o,c≠(I+5)->c≠(I+4)->(c < I\/I+1<=c)->s.heap.get? c=some o->q1.get? c=some o:=fun c o c1 c2 c3 e=>sq1.extBut _ _ c2 (sp1.extBut _ _ (BI (by omega)) (k0 c o c1 c2 (by omega) e))
    have zz1:IsZip q1 (I+5) (I+3) (I+4) .ellipsis:=sq1.extBut _ _ (BI (by omega)) (sp1.extBut _ _ (BI (by omega)) zz0);refine wpAny_bind (wpAny_letGo (wpAny_pure ?_));refine wpAny_bind (wpAny_bind (wpAny_onRaise ?_));show wpAny _ _ (Builtin.SmallTypes.nextOf (.ref (I+1)) >>= _) _ _ _;cases hx2:xs2[i]? with
    | none =>
      refine wpAny_bind (FY hh (s20.at fun o e=>k1 _ o (by omega) (by omega) (by omega) e) (hl2.at fun o e=>k1 _ o (by omega) (by omega) (by omega) e) hx2 fun h₂ e hs₂ he=>?_);obtain ⟨oe,hoe,hce⟩:=he;have hz₂:IsZip h₂ (I+5) (I+3) (I+4) .ellipsis:=hs₂ _ _ (BI (by omega)) zz1;have hez:e≠(I+5):=fun x=>by subst x;rw [hz₂] at hoe;cases hoe;simp at hce
      exact wpAny_setField_rec hz₂ (by simp) fun h₃ _ hs₃=>hE h₃ e (fun c o hc x=>hs₃.extBut _ _ (BI (by omega)) (hs₂ _ _ (BI (by omega)) (k1 c o (by omega) (by omega) (by omega) x))) ⟨oe,hs₃.extBut _ _ hez hoe,hce⟩
    | some y2 =>
      refine wpAny_bind (Bz (s20.at fun o e=>k1 _ o (by omega) (by omega) (by omega) e) (hl2.at fun o e=>k1 _ o (by omega) (by omega) (by omega) e) hx2 fun p2 si2 sp2=>wpAny_pure ?_);have u2:LB p2 (I+4) y1 v2 v3:=sp2.extBut _ _ (BI (by omega)) to2;refine wpAny_bind (wpAny_seqItems u2 rfl ?_);refine wpAny_bind (SB u2 fun q2 to3 sq2=>?_);have k2:∀ (c:Nat) o,c≠(I+5)->c≠(I+4)->(c < I\/I+2<=c)->s.heap.get? c=some o->q2.get? c=some o:=fun c o c1 c2 c3 e=>sq2.extBut _ _ c2 (sp2.extBut _ _ (BI (by omega)) (k1 c o c1 c2 (by omega) e))
      have zz2:IsZip q2 (I+5) (I+3) (I+4) .ellipsis:=sq2.extBut _ _ (BI (by omega)) (sp2.extBut _ _ (BI (by omega)) zz1);refine wpAny_bind (wpAny_letGo (wpAny_pure ?_));refine wpAny_bind (wpAny_bind (wpAny_onRaise ?_));show wpAny _ _ (Builtin.SmallTypes.nextOf (.ref (I+2)) >>= _) _ _ _;cases hx3:xs3[i]? with
      | none =>
        refine wpAny_bind (FY hh (s30.at fun o e=>k2 _ o (by omega) (by omega) (by omega) e) (hl3.at fun o e=>k2 _ o (by omega) (by omega) (by omega) e) hx3 fun h₂ e hs₂ he=>?_);obtain ⟨oe,hoe,hce⟩:=he;have hz₂:IsZip h₂ (I+5) (I+3) (I+4) .ellipsis:=hs₂ _ _ (BI (by omega)) zz2;have hez:e≠(I+5):=fun x=>by subst x;rw [hz₂] at hoe;cases hoe;simp at hce
        exact wpAny_setField_rec hz₂ (by simp) fun h₃ _ hs₃=>hE h₃ e (fun c o hc x=>hs₃.extBut _ _ (BI (by omega)) (hs₂ _ _ (BI (by omega)) (k2 c o (by omega) (by omega) (by omega) x))) ⟨oe,hs₃.extBut _ _ hez hoe,hce⟩
      | some y3 =>
        simp [hx1,hx2,hx3] at hend
theorem Fw {I l1 l2 l3:Nat} {b1 b2 b3:Bool} {i:Nat} {xs1 xs2 xs3:Array Value} {y1 y2 y3:Value} {Q:Option Value->Shared->Prop} (hz:Zst3 s.heap I l1 l2 l3 b1 b2 b3 i .none) (hl1:Cd s.heap l1 xs1 b1) (lt1:l1 < I) (hl2:Cd s.heap l2 xs2 b2) (lt2:l2 < I) (hl3:Cd s.heap l3 xs3 b3) (lt3:l3 < I) (hx1:xs1[i]?=some y1) (hx2:xs2[i]?=some y2) (hx3:xs3[i]?=some y3)
    (hQ:∀ h',Zst3 h' I l1 l2 l3 b1 b2 b3 (i+1) (rawInt s.heap.objs.size)->LB h' s.heap.objs.size y1 y2 y3->h'.objs.size=s.heap.objs.size+1->(∀ (c:Nat) o,(c < I\/I+6<=c)->s.heap.get? c=some o->h'.get? c=some o)->Q (some (.ref s.heap.objs.size)) { s with heap:=h' }) :
    wpAny (model prog w) A (pyNext (.ref (I+5))) Q E s:=by
  have hT:s.TypeIs (.ref (I+5)) "zip" := ⟨_,hz.z,rfl⟩
  unfold pyNext
  exact wpAny_bind (wpAny_attempt (wpAny_callSpecial?_slot (name:=Str.ofString "__next__") hT F.slot_zip_next
    (wpAny_call_entry F.slot_zip_next hT F.entry_zip_next (Pp hz hl1 lt1 hl2 lt2 hl3 lt3 hx1 hx2 hx3 fun h' a1 a2 a3 a4=>wpAny_pure (hQ h' a1 a2 a3 a4)) (F.args_zip_next_1 _))))
theorem GV {I l1 l2 l3:Nat} {b1 b2 b3:Bool} {i:Nat} {xs1 xs2 xs3:Array Value} {Q:Option Value->Shared->Prop} (hh:A.handled=none) (hz:Zst3 s.heap I l1 l2 l3 b1 b2 b3 i .none) (hl1:Cd s.heap l1 xs1 b1) (lt1:l1 < I) (hl2:Cd s.heap l2 xs2 b2) (lt2:l2 < I) (hl3:Cd s.heap l3 xs3 b3) (lt3:l3 < I) (hend:xs1[i]?=none\/xs2[i]?=none\/xs3[i]?=none)
    (hQ:∀ h',(∀ (c:Nat) o,(c < I\/I+6<=c)->s.heap.get? c=some o->h'.get? c=some o)->Q none { s with heap:=h' }) :
    wpAny (model prog w) A (pyNext (.ref (I+5))) Q E s:=by
  have hT:s.TypeIs (.ref (I+5)) "zip" := ⟨_,hz.z,rfl⟩
  unfold pyNext
  refine wpAny_bind (wpAny_attempt (wpAny_callSpecial?_slot (name:=Str.ofString "__next__") hT F.slot_zip_next
    (wpAny_call_entry F.slot_zip_next hT F.entry_zip_next (Rw hh hz hl1 lt1 hl2 lt2 hl3 lt3 hend fun h' e hk he=>?_) (F.args_zip_next_1 _))))
  obtain ⟨o,ho,hc⟩:=he
  refine wpAny_bind (wpAny_isInstance (T := "StopIteration") (b:=true) ⟨o,ho,hc⟩ isSubtype_stop ?_)
  exact wpAny_pure (hQ _ hk)
abbrev Ij (h:Heap) (l1 l2 l3:Nat) (b1 b2 b3:Bool):Heap:=h.push (Hn l1 b1)
abbrev Ii (h:Heap) (l1 l2 l3:Nat) (b1 b2 b3:Bool):Heap:=(Ij h l1 l2 l3 b1 b2 b3).push (Hn l2 b2)
abbrev OT (h:Heap) (l1 l2 l3:Nat) (b1 b2 b3:Bool):Heap:=(Ii h l1 l2 l3 b1 b2 b3).push (Hn l3 b3)
abbrev OS (h:Heap) (l1 l2 l3:Nat) (b1 b2 b3:Bool):Heap:=(OT h l1 l2 l3 b1 b2 b3).push { cls:=.type "tuple", data:=.seq #[.ref h.objs.size,.ref (Ij h l1 l2 l3 b1 b2 b3).objs.size,.ref (Ii h l1 l2 l3 b1 b2 b3).objs.size] }
abbrev OR (h:Heap) (l1 l2 l3:Nat) (b1 b2 b3:Bool):Heap:=(OS h l1 l2 l3 b1 b2 b3).push { cls:=.type "tuple", data:=.seq #[.none,.none,.none] }
abbrev GN (h:Heap) (l1 l2 l3:Nat) (b1 b2 b3:Bool):Heap:=(OR h l1 l2 l3 b1 b2 b3).push { cls:=.type "zip", data:=.fields #[.none,.bool false,.bool false,.ref (OT h l1 l2 l3 b1 b2 b3).objs.size,.ref (OS h l1 l2 l3 b1 b2 b3).objs.size] }
theorem NW (l1 l2 l3:Nat) (b1 b2 b3:Bool) (xs1 xs2 xs3:Array Value) :
    Meets (Builtin.«zip.__new__» ⟨[.type "zip", .ref l1,.ref l2,.ref l3],[]⟩) (fun _ R s=>Cd s.heap l1 xs1 b1/\Cd s.heap l2 xs2 b2/\Cd s.heap l3 xs3 b3 /\
      R (.ok (.ret (.ref (OR s.heap l1 l2 l3 b1 b2 b3).objs.size))) { s with heap:=GN s.heap l1 l2 l3 b1 b2 b3 }):=
  .of_wp fun prog w A R s h=>by
    obtain ⟨hp,g,d,tk,os⟩:=s;obtain ⟨hl1,hl2,hl3,h⟩:=h;have hsub:=sub_zip;have hL1:Cd (Shared.heap ⟨hp,g,d,tk,os⟩) l1 xs1 b1:=hl1.at fun o e=>e
    have hL2:Cd (Shared.heap ⟨(Ij hp l1 l2 l3 b1 b2 b3),g,d,tk,os⟩) l2 xs2 b2:=hl2.at fun o e=>lx _ e
    have hL3:Cd (Shared.heap ⟨(Ii hp l1 l2 l3 b1 b2 b3),g,d,tk,os⟩) l3 xs3 b3:=hl3.at fun o e=>lx _ (lx _ e)
    wp_walk using Cs hL1,Cs hL2,Cs hL3
    exact ⟨_,rfl,h⟩
theorem RK {l1 l2 l3:Nat} {b1 b2 b3:Bool} {xs1 xs2 xs3:Array Value} {Q:Value->Shared->Prop} (hl1:Cd s.heap l1 xs1 b1) (hl2:Cd s.heap l2 xs2 b2) (hl3:Cd s.heap l3 xs3 b3)
    (h:∀ h',Zst3 h' s.heap.objs.size l1 l2 l3 b1 b2 b3 0 .none->h'.objs.size=s.heap.objs.size+6->(∀ (c:Nat) o,s.heap.get? c=some o->h'.get? c=some o)->Q (.ref (s.heap.objs.size+5)) { s with heap:=h' }) :
    wpAny (model prog w) A (call (.type "zip") [.ref l1,.ref l2,.ref l3]) Q E s:=by
  refine callType_new F.called_zip (by decide) (Gv _ _ _) (IR _ _ _) (fun obj=>Ee obj _ _ _) F.entry_zip_new (NW l1 l2 l3 b1 b2 b3 xs1 xs2 xs3) ⟨hl1,hl2,hl3,?_⟩;have z1:(Ij s.heap l1 l2 l3 b1 b2 b3).objs.size=s.heap.objs.size+1:=by exact mn ..
  have z2:(Ii s.heap l1 l2 l3 b1 b2 b3).objs.size=s.heap.objs.size+2:=by rw [mn,z1]
  have z3:(OT s.heap l1 l2 l3 b1 b2 b3).objs.size=s.heap.objs.size+3:=by rw [mn,z2]
  have z4:(OS s.heap l1 l2 l3 b1 b2 b3).objs.size=s.heap.objs.size+4:=by rw [mn,z3]
  have z5:(OR s.heap l1 l2 l3 b1 b2 b3).objs.size=s.heap.objs.size+5:=by rw [mn,z4]
  have z6:(GN s.heap l1 l2 l3 b1 b2 b3).objs.size=s.heap.objs.size+6:=by rw [mn,z5]
  have gz:(GN s.heap l1 l2 l3 b1 b2 b3).get? (OR s.heap l1 l2 l3 b1 b2 b3).objs.size=some _:=mK _ rfl;have gto:(GN s.heap l1 l2 l3 b1 b2 b3).get? (OS s.heap l1 l2 l3 b1 b2 b3).objs.size=some _:=(lx _ (mK _ rfl));have gti:(GN s.heap l1 l2 l3 b1 b2 b3).get? (OT s.heap l1 l2 l3 b1 b2 b3).objs.size=some _:=(lx _ (lx _ (mK _ rfl)));have gs1:Cr (GN s.heap l1 l2 l3 b1 b2 b3) s.heap.objs.size l1 0 b1:=Cr.at (Cr.new (h:=s.heap)) fun o e=>(lx _ (lx _ (lx _ (lx _ (lx _ e)))))
  have gs2:Cr (GN s.heap l1 l2 l3 b1 b2 b3) (Ij s.heap l1 l2 l3 b1 b2 b3).objs.size l2 0 b2:=Cr.at (Cr.new (h:=(Ij s.heap l1 l2 l3 b1 b2 b3))) fun o e=>(lx _ (lx _ (lx _ (lx _ e))))
  have gs3:Cr (GN s.heap l1 l2 l3 b1 b2 b3) (Ii s.heap l1 l2 l3 b1 b2 b3).objs.size l3 0 b3:=Cr.at (Cr.new (h:=(Ii s.heap l1 l2 l3 b1 b2 b3))) fun o e=>(lx _ (lx _ (lx _ e)))
  show _/\_;rw [z3,z4,z5] at gz;rw [z4] at gto;rw [z1,z2,z3] at gti;rw [z1] at gs2;rw [z2] at gs3;rw [z5];exact ⟨⟨_,gz,rfl⟩,h _ ⟨gz,gti,⟨_,_,_,gto⟩,gs1,gs2,gs3⟩ z6 fun c o x=>(lx _ (lx _ (lx _ (lx _ (lx _ (lx _ x))))))⟩
end
theorem ZM {I b:Nat} (h:¬ b∈([(I+5),(I+3),(I+4),I,(I+1),(I+2)]:List Nat)):b < I\/I+6<=b:=by simp only [mL,mz,or_false,not_or] at h;omega
theorem gr {I b:Nat} (h:b∈([(I+5),(I+3),(I+4),I,(I+1),(I+2)]:List Nat)):I<=b/\b < I+6:=by simp only [mL,mz,or_false] at h;omega
def Vw (K:W.Frag) (a1 a2 a3:Nat) (b1 b2 b3:Bool):It:=
 ⟨fun i H=>∃ xs1 xs2 xs3 y1 y2 y3,DO K H a1 xs1 b1/\xs1[i]?=some y1/\DO K H a2 xs2 b2/\xs2[i]?=some y2/\DO K H a3 xs3 b3/\xs3[i]?=some y3,fun i H x H'=>∃ p y1 y2 y3,H p=none/\x=.ref p/\H'=upd H p (.tup [y1,y2,y3])/\(∀ xs,DO K H a1 xs b1->xs[i]?=some y1)/\(∀ xs,DO K H a2 xs b2->xs[i]?=some y2)/\(∀ xs,DO K H a3 xs b3->xs[i]?=some y3),fun i H=>∃ xs1 xs2 xs3,DO K H a1 xs1 b1/\DO K H a2 xs2 b2/\DO K H a3 xs3 b3/\(xs1.length<=i\/xs2.length<=i\/xs3.length<=i)⟩
theorem Pz {P:Program} {w:World} {K:W.Frag} {elts:List Expr} {x1} {pos:Pos} (I a1 a2 a3:Nat) (b1 b2 b3:Bool) (lt1:a1 < I) (lt2:a2 < I) (lt3:a3 < I):Turn P w K (.Tuple elts x1 pos) (Vw K a1 a2 a3 b1 b2 b3) [(I+5),(I+3),(I+4),I,(I+1),(I+2)] (I+5) (fun i h=>Zst3 h I a1 a2 a3 b1 b2 b3 i .none) where
 mem:=by simp
 obj:=fun i h st b hb=>by
  obtain ⟨z0,ti0,⟨v1,v2,v3,to0⟩,s10,s20,s30⟩:=st;simp only [mL,mz,or_false] at hb;rcases hb with rfl | rfl | rfl | rfl | rfl | rfl
  ·exact ⟨_,z0,fun v z=>by cases z⟩
  ·exact ⟨_,ti0,fun v z=>by cases z⟩
  ·exact ⟨_,to0,fun v z=>by cases z⟩
  ·exact s10.obj
  ·exact s20.obj
  ·exact s30.obj
 keep:=fun i h h' st k=>st.at fun c o c1 c2 e=>k c (by show c∈([(I+5),(I+3),(I+4),I,(I+1),(I+2)]:List Nat);simp only [mL,mz,or_false];omega) o e
 item:=by
  intro X hP hw hK hc i pins s σ H E I1 hf st hg;subst hP hw hK;obtain ⟨ws1,ws2,ws3,y1,y2,y3,hq1,hy1,hq2,hy2,hq3,hy3⟩:=hg;obtain ⟨its1,rv1,p1,hl1⟩:=I1.sqB hq1;obtain ⟨u1,hu1,ru1⟩:=rv1.get hy1;obtain ⟨its2,rv2,p2,hl2⟩:=I1.sqB hq2;obtain ⟨u2,hu2,ru2⟩:=rv2.get hy2;obtain ⟨its3,rv3,p3,hl3⟩:=I1.sqB hq3;obtain ⟨u3,hu3,ru3⟩:=rv3.get hy3;refine Fw st p1 lt1 p2 lt2 p3 lt3 (y1:=u1) (y2:=u2) (y3:=u3) (by simpa using hu1) (by simpa using hu2) (by simpa using hu3) fun h1 st1 t1 z1 k1=>?_
  refine ⟨_,rfl,wpAny_letOwnedTupleGo_zip (s:={ s with heap:=h1 }) st1.z fun h2 e2 sb=>?_⟩;have hzl:(I+5) < s.heap.objs.size:=mO st.z;have hfr:=I1.hok.fresh (mF s.heap.objs.size)
  have I2:Inv X pins σ (upd H s.heap.objs.size (.tup [y1,y2,y3])) { s with heap:=s.heap.push { cls:=.type "tuple", data:=.seq #[u1,u2,u3] },toks:=s.toks }:=
   I1.laid (fun b o q=>lx _ q) (mF _) (show Aa X.prog X.w _ _ _ (.tup [y1,y2,y3]) from ⟨by show 3<=sizeLine;decide,[u1,u2,u3],(.cons ru1 (.cons ru2 (.cons ru3 .nil))),FQ.new _ _⟩)
  have hb:∀ b∈([(I+5),(I+3),(I+4),I,(I+1),(I+2)]:List Nat),I<=b/\b < I+6:=fun b hb=>gr hb
  have hf1:∀ b∈([(I+5),(I+3),(I+4),I,(I+1),(I+2)]:List Nat),FpOk X pins (upd H s.heap.objs.size (.tup [y1,y2,y3])) b:=fun b hbb=>by
   obtain ⟨f0,r⟩:=hf b hbb;refine ⟨?_,r⟩;rw [AO (mh (mP (hb b hbb).2 (by omega)))];exact f0
  have I3:Inv X pins σ (upd H s.heap.objs.size (.tup [y1,y2,y3])) { s with heap:=h2,toks:=s.toks }:=by
   refine Inv.turnedL (s:={ s with heap:=s.heap.push { cls:=.type "tuple", data:=.seq #[u1,u2,u3] },toks:=s.toks }) (h':=h2) (t':=s.toks) (ch:=[(I+5),(I+3),(I+4),I,(I+1),(I+2)]) I2 (fun b o hbb q=>?_) hf1
   have q:(s.heap.push { cls:=.type "tuple", data:=.seq #[u1,u2,u3] }).get? b=some o:=q
   have hbe:b≠(I+5):=fun z=>hbb (by simp [z])
   refine (sb.2 b hbe).trans ?_
   by_cases hbs:b=s.heap.objs.size
   ·subst hbs;rw [mK _ rfl] at q;rw [<- q];exact t1
   ·rw [pI _ _ _ hbs] at q;exact k1 b o (ZM hbb) q
  refine ⟨.ref s.heap.objs.size,_,I3,rfl,⟨_,y1,y2,y3,hfr,rfl,rfl,fun zs hz=>by rw [I1.sqB_inj hz hq1];exact hy1,fun zs hz=>by rw [I1.sqB_inj hz hq2];exact hy2,fun zs hz=>by rw [I1.sqB_inj hz hq3];exact hy3⟩,?_,fun b hbb=>(hf1 b hbb).1⟩;exact ⟨e2,sb.extBut _ _ (BI (by omega)) st1.ti,let ⟨v1,v2,v3,e⟩:=st1.to;⟨v1,v2,v3,sb.extBut _ _ (BI (by omega)) e⟩,st1.s1.at fun o e=>sb.extBut _ _ (BI (by omega)) e,st1.s2.at fun o e=>sb.extBut _ _ (BI (by omega)) e,st1.s3.at fun o e=>sb.extBut _ _ (BI (by omega)) e⟩
 done:=by
  intro X hP hw hK hc i pins s σ H E I1 hf st hg;subst hP hw hK;obtain ⟨ws1,ws2,ws3,hq1,hq2,hq3,hend⟩:=hg;obtain ⟨its1,rv1,p1,hl1⟩:=I1.sqB hq1;have le1:=rv1.length;obtain ⟨its2,rv2,p2,hl2⟩:=I1.sqB hq2;have le2:=rv2.length;obtain ⟨its3,rv3,p3,hl3⟩:=I1.sqB hq3;have le3:=rv3.length;have hend2:its1.toArray[i]?=none\/its2.toArray[i]?=none\/its3.toArray[i]?=none:=by
   rcases hend with h | h | h
   ·exact .inl (by simp;omega)
   ·exact .inr (.inl (by simp;omega))
   ·exact .inr (.inr (by simp;omega))
  refine GV (I1.ok.hd hc) st p1 lt1 p2 lt2 p3 lt3 hend2 fun h' k=>⟨rfl,?_⟩
  refine Inv.turnedL (t':=s.toks) (ch:=[(I+5),(I+3),(I+4),I,(I+1),(I+2)]) I1 (fun b o hbb e=>k b o (ZM hbb) e) hf
 self:=fun _ _ _ _ _ st h=>wpAny_pyIter_zip st.z h
section
variable {X:Cx} {elts:List Expr} {x1} {tpos:Pos}
abbrev gw (K:W.Frag) (ta:TA):TI:=fun σ H R=>ta σ H fun vs H1=>∃ a1 a2 a3 b1 b2 b3,vs=[.ref a1,.ref a2,.ref a3]/\(∃ xs,DO K H1 a1 xs b1)/\(∃ xs,DO K H1 a2 xs b2)/\(∃ xs,DO K H1 a3 xs b3)/\R (Vw K a1 a2 a3 b1 b2 b3) H1
theorem Wz (K:W.Frag) {e1 e2 e3:Expr} {ta:TA} {p pos:Pos} (hg:Gl X "zip") (hm:X.mg "zip" = none) (ha:PA X [e1,e2,e3] ta) (hK:X.K=K:=by rfl) (hs:starEach (e1::[e2,e3]) X.env=(false,eval e1 X.env)::starEach [e2,e3] X.env:=by rfl) (hpl:(backTo pos (starEach [e2,e3] X.env)).any (·.1)=false:=by rfl):PI X (.Tuple elts x1 tpos) (.Call (.Name "zip" p) [e1,e2,e3] [] pos) (gw K ta):=by
 subst hK;intro pins s σ H R I h;refine Call_ (Bc I hg hm PyProof.Rows.Boot.«zip» (mi (Ap (ha pos pins s σ H _ I h) fun us s1 ⟨vs,H1,I1,r1,q1⟩=>?_) hs hpl));obtain ⟨a1,a2,a3,b1,b2,b3,rfl,⟨ws1,hq1⟩,⟨ws2,hq2⟩,⟨ws3,hq3⟩,q⟩:=q1;obtain ⟨its1,rv1,p1,hl1⟩:=I1.sqB hq1;obtain ⟨its2,rv2,p2,hl2⟩:=I1.sqB hq2;obtain ⟨its3,rv3,p3,hl3⟩:=I1.sqB hq3;have rr:=r1;clear r1;cases rr with
 | cons r1 w1 =>
  cases w1 with
  | cons r2 w2 =>
   cases w2 with
   | cons r3 w3 =>
    cases w3;cases r1;cases r2;cases r3;refine RK p1 p2 p3 fun h' st hsz hk=>?_
    refine wpAny_pyIter_zip (s:={ s1 with heap:=h' }) st.z ?_;refine ⟨s1.heap.objs.size+5,[(s1.heap.objs.size+5),(s1.heap.objs.size+3),(s1.heap.objs.size+4),s1.heap.objs.size,(s1.heap.objs.size+1),(s1.heap.objs.size+2)],fun i h=>Zst3 h s1.heap.objs.size a1 a2 a3 b1 b2 b3 i .none,Vw X.K a1 a2 a3 b1 b2 b3,H1,rfl,I1.kept (t':=s1.toks) hk,Pz s1.heap.objs.size a1 a2 a3 b1 b2 b3 hl1 hl2 hl3,st,fun b hb=>?_,q⟩;have hb':s1.heap.objs.size<=b:=(gr (I:=s1.heap.objs.size) hb).1;exact I1.fpOk hb' (I1.hok.fresh hb')
end
def jP (x:Str):It:=⟨fun i H=>∃ c,x.cps[i]?=some c,fun i H v H'=>H'=H/\∃ c,x.cps[i]?=some c/\v=.str ⟨#[c]⟩,fun i H=>x.cps[i]?=none⟩
theorem Mw {h h':Heap} {a:Addr} {ty:String} {x:Str} {t:Tok} {i:Nat} (y:h.IsStrIter a ty x t i) (k:∀ o,h.get? a=some o->h'.get? a=some o):h'.IsStrIter a ty x t i:=
 let ⟨o,ho,r⟩:=y;⟨o,k o ho,r⟩
theorem SJ {P:Program} {w:World} {K:W.Frag} {tg:Expr} (x:Str) (t:Tok) (it:Addr):Turn P w K tg (jP x) [it] it (fun i h=>h.IsStrIter it (strIterType x) x t i) where
 mem:=by simp
 obj:=fun i h st b hb=>by
  have e:b=it:=by simpa using hb
  subst e;obtain ⟨o,e,c,d⟩:=st;exact ⟨o,e,fun v z=>by rw [d] at z;cases z⟩
 keep:=fun i h h' st k=>Mw st fun o e=>k it (by simp) o e
 item:=by
  intro X hP hw hK hc i pins s σ H E I hf st hg;subst hP hw hK;obtain ⟨c,hx⟩:=hg;obtain ⟨f0,f1,f2,f3,f4,f5⟩:=hf it (by simp);have fin:∀ h':Heap,h'.IsStrIter it (strIterType x) x t (i+1)->Heap.SameBut it s.heap h'->∃ u,some (Value.str ⟨#[c]⟩ s.toks)=some u/\wpAny (model X.prog X.w) X.A (letOwnedTupleGo tg (.ref it) u) (fun _ s2=>∃ x_1 H',Inv X pins σ H' s2/\RelV x_1 u/\(jP x).yld i H x_1 H'/\s2.heap.IsStrIter it (strIterType x) x t (i+1)/\∀ b∈[it],H' b=none) E { s with heap:=h',toks:=s.toks+1 }:=fun h' st' sb=>by
   have I1:Inv X pins σ H { s with heap:=h',toks:=s.toks+1 }:=I.turned (t':=s.toks+1) (fun b o hb e=>(sb.2 b hb).trans e) f0 f1 f3 f4 f5;obtain ⟨o,e,c',d⟩:=id st';exact ⟨_,rfl,PD (s:={ s with heap:=h',toks:=s.toks+1 }) e c' d (by unfold strIterType;split<;>decide) ⟨.str ⟨#[c]⟩,H,I1,⟨_,rfl⟩,⟨rfl,c,hx,rfl⟩,st',fun b hb=>(hf b hb).1⟩⟩
  by_cases ha:x.cps.all (· < 128)=true
  ·have e:strIterType x = "str_ascii_iterator" := by unfold strIterType;rw [if_pos ha]
   rw [e] at st fin ⊢;exact wpAny_pyNext_ascii_item st hx fun h' st' sb=>fin h' st' sb
  ·have e:strIterType x = "str_iterator" := by unfold strIterType;rw [if_neg ha]
   rw [e] at st fin ⊢;exact wpAny_pyNext_wide_item st hx fun h' st' sb=>fin h' st' sb
 done:=by
  intro X hP hw hK hc i pins s σ H E I hf st hg;subst hP hw hK;obtain ⟨f0,f1,f2,f3,f4,f5⟩:=hf it (by simp)
  by_cases ha:x.cps.all (· < 128)=true
  ·have e:strIterType x = "str_ascii_iterator" := by unfold strIterType;rw [if_pos ha]
   rw [e] at st;exact wpAny_pyNext_ascii_end (I.ok.hd hc) st hg fun h' eb=>⟨rfl,I.turned (t':=s.toks) (fun b o hb e=>eb b o hb e) f0 f1 f3 f4 f5⟩
  ·have e:strIterType x = "str_iterator" := by unfold strIterType;rw [if_neg ha]
   rw [e] at st;exact wpAny_pyNext_wide_end (I.ok.hd hc) st hg fun h' eb=>⟨rfl,I.turned (t':=s.toks) (fun b o hb e=>eb b o hb e) f0 f1 f3 f4 f5⟩
 self:=fun A i s Q E st h=>by
  by_cases ha:x.cps.all (· < 128)=true
  ·have e:strIterType x = "str_ascii_iterator" := by unfold strIterType;rw [if_pos ha]
   rw [e] at st;exact wpAny_pyIter_striter_ascii st h
  ·have e:strIterType x = "str_iterator" := by unfold strIterType;rw [if_neg ha]
   rw [e] at st;exact wpAny_pyIter_striter_wide st h
section
variable {X:Cx}
abbrev hW (K:W.Frag) (tl:TE):TI:=fun σ H R=>tl σ H fun x H1=>(∃ a xs,x=.ref a/\((DA K H1 a xs/\R (jQ K a) H1)\/(Eg K H1 a xs/\R (kh K a) H1)))\/∃ z,x=.str z/\R (jP z) H1
theorem XB {tg l:Expr} {tl:TE} (hl:PE X l tl):PI X tg l (hW X.K tl):=by
 intro pins s σ H R I h;refine Ap (hl pins s σ H _ I h) fun v s1 ⟨x,H1,I1,r1,q1⟩=>?_
 rcases q1 with ⟨a,xs,e,q⟩ | ⟨z,e,q⟩
 ·subst e;cases r1;rcases q with ⟨hq,q⟩ | ⟨hq,q⟩
  ·obtain ⟨its,rv,p,hz⟩:=I1.list hq;refine wpAny_pyIter_list p.isList ?_;refine ⟨s1.heap.objs.size,[s1.heap.objs.size],_,_,H1,rfl,I1.kept (t':=s1.toks) fun b o e=>lx _ e,QB a _,⟨_,mK _ rfl,rfl,rfl⟩,fun b hb=>?_,q⟩;have e:b=s1.heap.objs.size:=by simpa using hb
   subst e;exact I1.fpOk (mF _) (I1.hok.fresh (mF _))
  ·obtain ⟨its,rv,p,hz⟩:=I1.tuple hq;refine wpAny_pyIter_tuple (show s1.heap.IsTuple a its.toArray from p) ?_;refine ⟨s1.heap.objs.size,[s1.heap.objs.size],_,_,H1,rfl,I1.kept (t':=s1.toks) fun b o e=>lx _ e,Mo a _,⟨_,mK _ rfl,rfl,rfl⟩,fun b hb=>?_,q⟩;have e:b=s1.heap.objs.size:=by simpa using hb
   subst e;exact I1.fpOk (mF _) (I1.hok.fresh (mF _))
 ·subst e;obtain ⟨t,rfl⟩:=r1;refine wpAny_pyIter_strU ?_;refine ⟨s1.heap.objs.size,[s1.heap.objs.size],_,_,H1,rfl,I1.kept (t':=s1.toks) fun b o e=>lx _ e,SJ z t _,⟨_,mK _ rfl,rfl,rfl⟩,fun b hb=>?_,q⟩;have e:b=s1.heap.objs.size:=by simpa using hb
  subst e;exact I1.fpOk (mF _) (I1.hok.fresh (mF _))
end
section
end
theorem Draws.sq {prog:Program} {w:World} {A:Around} (hh:A.handled=none) (it l:Addr) (hne:l≠it) (items:Array Value) (b:Bool) :
    Draws prog w A it [it,l] items.size (fun i v=>items[i]?=some v) (fun i h=>Cr h it l i b/\Cd h l items b) where
  live:=fun _ _ st=>let ⟨o,ho,_⟩:=st.1.obj;⟨o,ho⟩
  frame:=fun _ _ _ st hk=>⟨st.1.at fun o e=>hk it (by simp) o e,st.2.at fun o e=>hk l (by simp) o e⟩
  item:=fun i s Q E hi st hQ=>by
    refine Bz st.1 st.2 (x:=items[i]) (by simp [hi]) fun h' hit' hs'=>?_
    exact hQ _ h' s.toks (by simp [hi]) ⟨hit',st.2.at fun o e=>hs'.extBut _ _ hne e⟩ hs'
  done:=fun s Q E st hE=>FY hh st.1 st.2 (by simp) hE
def Yn (K:W.Frag) (a:Addr) (b:Bool) (n:Nat):It:=
 ⟨fun i H=>∃ xs x,DO K H a xs b/\xs.length=n/\xs[i]?=some x,fun i H x H'=>∃ p y,H p=none/\x=.ref p/\H'=upd H p (.tup [.int i,y])/\∀ xs,DO K H a xs b->xs[i]?=some y,fun i H=>∃ xs,DO K H a xs b/\xs.length=n/\n<=i⟩
theorem Mq {P:Program} {w:World} {K:W.Frag} {elts:List Expr} {x1} {pos:Pos} (a e it:Addr) (b:Bool) (n:Nat) (hne:e≠it) (hae:a≠e) (hai:a≠it):Turn P w K (.Tuple elts x1 pos) (Yn K a b n) [e,it] e (fun i h=>(∃ old,IsEnum h e it i old)/\Cr h it a i b/\i<=n) where
 mem:=by simp
 obj:=fun i h st c hb=>by
  obtain ⟨⟨old,he⟩,hi,hin⟩:=st;rcases mL.mp hb with z | z
  ·subst z;exact ⟨_,he,fun v z=>by cases z⟩
  ·have z:=mY.mp z;subst z;exact hi.obj
 keep:=fun i h h' st k=>by
  obtain ⟨⟨old,he⟩,hi,hin⟩:=st;exact ⟨⟨old,k e (by simp) _ he⟩,hi.at fun o q=>k it (by simp) o q,hin⟩
 item:=by
  intro X hP hw hK hc i pins s σ H E I hf st hg;subst hP hw hK;obtain ⟨xs,x,hq,hxn,hx⟩:=hg;obtain ⟨⟨old,he⟩,hi,hin⟩:=st;obtain ⟨its,rv,p,hz⟩:=I.sqB hq;obtain ⟨u,hu,ru⟩:=rv.get hx;have hil:i < its.toArray.size:=by have:=(mB.mp hu).1;simpa using this
  refine wpAny_pyNext_enum_itemD (Draws.sq (A:=X.A.in1) (I.ok.hd hc) it a hai its.toArray b) he ⟨hi,p⟩ hil hne (by simp [hne,hae.symm]) fun x' h1 tk e1 o1 i1 t1 z1 k1=>?_
  have ex:x'=u:=by
   have e1:its.toArray[i]?=some x':=e1;rw [List.getElem?_toArray,hu] at e1;exact (Option.some.inj e1).symm
  subst ex;refine ⟨_,rfl,wpAny_letOwnedTupleGo_enum (s:={ s with heap:=h1,toks:=tk+1 }) o1 fun h2 e2 sb=>?_⟩;have hel:e < s.heap.objs.size:=mO he;have hil:it < s.heap.objs.size:=by obtain ⟨o,q,_⟩:=hi.obj;exact mO q
  have hfr:=I.hok.fresh (mF s.heap.objs.size)
  have I1:Inv X pins σ (upd H s.heap.objs.size (.tup [.int i,x])) { s with heap:=s.heap.push { cls:=.type "tuple", data:=.seq #[.int i tk,x'] },toks:=tk+1 }:=
   I.laid (fun b o q=>lx _ q) (mF _) (show Aa X.prog X.w _ _ _ (.tup [.int i,x]) from ⟨by show 2<=sizeLine;decide,[.int i tk,x'],.cons ⟨_,rfl⟩ (.cons ru .nil),FQ.new _ _⟩)
  have hf1:∀ b∈[e,it],FpOk X pins (upd H s.heap.objs.size (.tup [.int i,x])) b:=fun b hb=>by
   obtain ⟨f0,r⟩:=hf b hb;refine ⟨?_,r⟩;have hbl:b≠s.heap.objs.size:=by
    rcases mL.mp hb with z | z
    ·rw [z];exact mh hel
    ·rw [mY.mp z];exact mh hil
   rw [AO hbl];exact f0
  have I2:Inv X pins σ (upd H s.heap.objs.size (.tup [.int i,x])) { s with heap:=h2,toks:=tk+1 }:=by
   refine Inv.turnedL (s:={ s with heap:=s.heap.push { cls:=.type "tuple", data:=.seq #[.int i tk,x'] },toks:=tk+1 }) (h':=h2) (t':=tk+1) (ch:=[e,it]) I1 (fun b o hb q=>?_) hf1
   have q:(s.heap.push { cls:=.type "tuple", data:=.seq #[.int i tk,x'] }).get? b=some o:=q
   have hbe:b≠e:=fun z=>hb (by simp [z])
   have hbi:b≠it:=fun z=>hb (by simp [z])
   refine (sb.2 b hbe).trans ?_
   by_cases hbs:b=s.heap.objs.size
   ·subst hbs;rw [mK _ rfl] at q;rw [<- q];exact t1
   ·refine k1 b o hbe hbi ?_;rw [pI _ _ _ hbs] at q;exact q
  refine ⟨.ref s.heap.objs.size,_,I2,rfl,⟨_,x,hfr,rfl,rfl,fun ys hy=>by rw [I.sqB_inj hy hq];exact hx⟩,⟨⟨x',by simpa using e2⟩,?_,?_⟩,fun b hb=>(hf1 b hb).1⟩
  ·exact i1.1.at fun o q=>(sb.2 it hne.symm).trans q
  ·have:=(mB.mp hx).1;omega
 done:=by
  intro X hP hw hK hc i pins s σ H E I hf st hg;subst hP hw hK;obtain ⟨xs,hq,hx,hx2⟩:=hg;obtain ⟨⟨old,he⟩,hi,hin⟩:=st;obtain ⟨its,rv,p,hz⟩:=I.sqB hq;obtain ⟨f0,f1,f2,f3,f4,f5⟩:=hf it (by simp);have hl:=rv.length;have ei:its.toArray.size=i:=by simp;omega
  exact wpAny_pyNext_enum_endD (Draws.sq (A:=X.A.in1) (I.ok.hd hc) it a hai its.toArray b) he (by rw [ei];exact ⟨hi,p⟩) fun h' eb=>⟨rfl,I.turned (t':=s.toks) (fun b o hb e=>eb b o hb e) f0 f1 f3 f4 f5⟩
 self:=fun _ _ _ _ _ st h=>wpAny_pyIter_enum st.1.choose_spec h
theorem Lx (l:Addr) (items:Array Value) (n:Nat) (dct:Option Addr) (sl:Array (Option Value)) :
    Meets (Builtin.«enumerate.__new__» ⟨[.type "enumerate", .ref l],[]⟩) (fun _ R s=>s.heap.get? l=some { cls:=.type "tuple", dict:=dct,data:=.seq items n,slots:=sl } /\
      R (.ok (.ret (.ref (s.heap.push { cls:=.type "tuple_iterator", data:=.fields #[.ref l,.int 0 0] }).objs.size)))
        { s with heap:=(s.heap.push { cls:=.type "tuple_iterator", data:=.fields #[.ref l,.int 0 0] }).push { cls:=.type "enumerate", data:=.fields #[.none,.bool false,.ref s.heap.objs.size,rawInt 0,.none,.none] } }):=
  .of_wp fun prog w A R s h=>by
    obtain ⟨hp,g,d,tk,os⟩:=s;obtain ⟨hl,h⟩:=h;have hsub:=sub_enumerate;have hL:Heap.IsTuple (Shared.heap ⟨hp,g,d,tk,os⟩) l items:=⟨_,hl,rfl,n,rfl⟩
    wp_walk using PySem.AutoSeq1.wpAny_loadPart' hl
    refine wpAny_stack_any fun st=>wpAny_pure ?_
    split
    · rename_i c _ _ _ _ _
      cases (c == Value.type "enumerate")
      · wp_walk using PySem.AutoSeq1.wpAny_loadPart' hl,wpAny_pyIter_tuple hL
        exact ⟨_,rfl,h⟩
      · wp_walk using PySem.AutoSeq1.wpAny_loadPart' hl,wpAny_pyIter_tuple hL
        exact ⟨_,rfl,h⟩
    · wp_walk using PySem.AutoSeq1.wpAny_loadPart' hl,wpAny_pyIter_tuple hL
      exact ⟨_,rfl,h⟩
section
variable {prog:Program} {w:World} {A:Around} {E:Value->Shared->Prop} {s:Shared}
theorem OA {l:Addr} {items:Array Value} {b:Bool} {Q:Value->Shared->Prop} (hL:Cd s.heap l items b)
    (h:∀ h',IsEnum h' (s.heap.objs.size+1) s.heap.objs.size 0 .none->Cr h' s.heap.objs.size l 0 b->h'.objs.size=s.heap.objs.size+2 ->
      (∀ b o,s.heap.get? b=some o->h'.get? b=some o)->Q (.ref (s.heap.objs.size+1)) { s with heap:=h' }) :
    wpAny (model prog w) A (call (.type "enumerate") [.ref l]) Q E s:=by
  cases b with
  | false=>exact call_enumerate_list hL h
  | true =>
    obtain ⟨⟨c,dct,dt,sl⟩,hl,hc,n,hd⟩:=hL
    replace hc:c=.type "tuple" := hc
    replace hd:dt=.seq items n:=hd;subst hc hd;refine callType_new F.called_enumerate (by decide) (F.typeCall_enumerate_1 _) (F.newCall_enumerate_1 _) (fun obj=>F.args_object_init_2 obj _) F.entry_enumerate_new
      (Lx l items n dct sl) ⟨hl,?_⟩
    have hz:(s.heap.push { cls:=.type "tuple_iterator", data:=.fields #[.ref l,.int 0 0] }).objs.size=s.heap.objs.size+1:=mn ..
    show _/\_;rw [hz]
    have he:IsEnum ((s.heap.push { cls:=.type "tuple_iterator", data:=.fields #[.ref l,.int 0 0] }).push
        { cls:=.type "enumerate", data:=.fields #[.none,.bool false,.ref s.heap.objs.size,rawInt 0,.none,.none] }) (s.heap.objs.size+1) s.heap.objs.size 0 .none:=by
      have:=mK (s.heap.push { cls:=.type "tuple_iterator", data:=.fields #[.ref l,.int 0 0] })
        (o:={ cls:=.type "enumerate", data:=.fields #[.none,.bool false,.ref s.heap.objs.size,rawInt 0,.none,.none] }) rfl
      rw [hz] at this;exact this
    refine ⟨⟨_,he,rfl⟩,h _ he ⟨_,lx _ (mK _ rfl),rfl,rfl⟩ (by rw [mn,hz]) fun b o x=>lx _ (lx _ x)⟩
end
section
variable {X:Cx} {elts:List Expr} {x1} {tpos:Pos}
abbrev cU (K:W.Frag) (ta:TA):TI:=fun σ H R=>ta σ H fun vs H1=>∃ a b xs,vs=[.ref a]/\DO K H1 a xs b/\R (Yn K a b xs.length) H1
theorem Ti (K:W.Frag) {a:Expr} {ta:TA} {p pos:Pos} (hg:Gl X "enumerate") (hm:X.mg "enumerate" = none) (ha:PA X [a] ta) (hK:X.K=K:=by rfl) (hs:starEach [a] X.env=[(false,eval a X.env)]:=by rfl):PI X (.Tuple elts x1 tpos) (.Call (.Name "enumerate" p) [a] [] pos) (cU K ta):=by
 subst hK;intro pins s σ H R I h;refine Call_ (Bc I hg hm PyProof.Rows.Boot.«enumerate» (mi (Ap (ha pos pins s σ H _ I h) fun us s1 ⟨vs,H1,I1,r1,q1⟩=>?_) hs rfl));obtain ⟨l,b,xs,e,hq,q⟩:=q1;subst e;cases r1 with
 | cons r rr =>
  cases rr;cases r;obtain ⟨its,rv,pl,hz⟩:=I1.sqB hq;refine OA pl fun h' hE hI hsz hk=>?_
  refine wpAny_pyIter_enum (s:={ s1 with heap:=h' }) hE ?_;refine ⟨s1.heap.objs.size+1,[s1.heap.objs.size+1,s1.heap.objs.size],_,_,H1,rfl,I1.kept (t':=s1.toks) hk,Mq l _ _ b xs.length (Nat.succ_ne_self _) (mh (Nat.lt_succ_of_lt hz)) (mh hz),⟨⟨_,hE⟩,hI,nG _⟩,fun c hb=>?_,q⟩;have hb':s1.heap.objs.size<=c:=by
   rcases mL.mp hb with z | z
   ·rw [z];exact oT _
   ·rw [mY.mp z];exact mF _
  exact I1.fpOk hb' (I1.hok.fresh hb')
end
section
variable {X:Cx} {p1 p2 pos1 pos2:Pos} {es:List Expr} {e:Expr} {ta:TA}
abbrev LN (ta:TA):TE:=fun σ H Q=>ta σ H fun vs H1=>∃ (i j:Int),(vs=[.int j]/\i=0\/vs=[.int i,.int j])/\(-(2 ^ 62)<=i/\i < 2 ^ 62/\-(2 ^ 62)<=j/\j < 2 ^ 62)/\(j - i).toNat<=1000000/\∀ l,H1 l=none->Q (.ref l) (upd H1 l (.lst ((List.range (j - i).toNat).map fun k=>.int (i+(k:Nat)))))
theorem JF {A:Around} {E:Value->Shared->Prop} {pins:List (Addr×Obj)} {σ:St} {H:Hp} {s:Shared} {Q:VK} {i j:Int} {t u v:Tok} {tk:Nat} (hh:A.handled=none) (I:Inv X pins σ H s) (h1:-(2 ^ 62)<=i) (h2:i < 2 ^ 62) (h3:-(2 ^ 62)<=j) (h4:j < 2 ^ 62) (hl:(j - i).toNat<=1000000)
    (q:∀ l,H l=none->Q (.ref l) (upd H l (.lst ((List.range (j - i).toNat).map fun k=>.int (i+(k:Nat)))))) :
    wpAny (model X.prog X.w) A (call (.type "list") [.ref s.heap.objs.size]) (fun v s'=>∃ x H',Inv X pins σ H' s'/\RelV x v/\Q x H') E { s with heap:=s.heap.push { cls:=.type "range", data:=.fields #[.int i t,.int j u,.int 1 v] },toks:=tk }:=by
  have hr:Builtin.Range.rangeSize i j 1=((j - i).toNat:Nat):=by rw [rangeSize_one];split<;>omega
  refine call_list_range (n:=(j - i).toNat) hh (IsRange.new ..) (small_one h1 h2 h3 h4) hr (by omega) fun h' tk' acc c' hk eh hacc=>?_
  have kp:∀ b o,s.heap.get? b=some o->h'.get? b=some o:=fun b o e=>hk b o (lx _ e)
  have hsz:(s.heap.push { cls:=.type "range", data:=.fields #[.int i t,.int j u,.int 1 v] }).objs.size=s.heap.objs.size+1:=mn ..
  have hv:AE ((List.range (j - i).toNat).map fun k=>V.int (i+(k:Nat))) acc.toList:=by
    have:∀ (n m:Nat) (l:List Value),l.length=n->(∀ (q:Nat) (v:Value),l[q]?=some v->∃ t,v=.int (i+((m+q:Nat):Int)) t)->AE ((List.range' m n).map fun k=>V.int (i+(k:Nat))) l:=by
      intro n
      induction n with
      | zero=>intro m l e _;cases l with | nil=>exact .nil | cons a b=>cases e
      | succ n ih =>
        intro m l e h;cases l with
        | nil=>cases e
        | cons a b =>
          rw [pM,mJ];refine .cons ?_ (ih (m+1) b (by simpa using e) fun q v hv=>?_)
          · obtain ⟨t,rfl⟩:=h 0 a rfl;exact ⟨t,rfl⟩
          · obtain ⟨t,rfl⟩:=h (q+1) v (by simpa using hv);exact ⟨t,by rw [Nat.add_assoc,Nat.add_comm 1 q]⟩
    rw [List.range_eq_range'];refine this (j - i).toNat 0 acc.toList (by simp [hacc.1]) fun q v hv=>?_
    obtain ⟨t,e⟩:=hacc.2 q v (by simpa using hv);exact ⟨t,by rw [e];simp⟩
  refine ⟨.ref _,_,I.laid (t':=tk') kp (by rw [hsz];exact oT _) (show Aa X.prog X.w _ h' _ (.lst ((List.range (j - i).toNat).map fun k=>.int (i+(k:Nat)))) from ⟨by rw [mX,oO];exact mQ hl (show 1000000<=sizeLine by decide),acc.toList,c',hv,by rw [eh]⟩),rfl,q _ (I.hok.fresh (by rw [hsz];exact oT _))⟩
theorem NK (hc:X.calm=true) (hgL:Gl X "list") (hmL:X.mg "list" = none) (hgR:Gl X "range") (hmR:X.mg "range" = none) (ha:PA X (e::es) ta)
    (hs1:starEach [.Call (.Name "range" p2) (e::es) [] pos2] X.env=(false,eval (.Call (.Name "range" p2) (e::es) [] pos2) X.env)::starEach [] X.env:=by rfl)
    (hpl1:(backTo pos1 (starEach [] X.env)).any (·.1)=false:=by rfl)
    (hs2:starEach (e::es) X.env=(false,eval e X.env)::starEach es X.env:=by rfl) (hpl2:(backTo pos2 (starEach es X.env)).any (·.1)=false:=by rfl) :
    PE X (.Call (.Name "list" p1) [.Call (.Name "range" p2) (e::es) [] pos2] [] pos1) (LN ta):=by
  intro pins s σ H Q I h;refine wpAny_Call_Name_kw (Bc I hgL hmL PyProof.Rows.Boot.«list» ?_ (by decide) (by decide));refine mi ?_ hs1 hpl1;rw [hs1]
  show wpAny _ _ (spliced ((false,eval (.Call (.Name "range" p2) (e::es) [] pos2) X.env)::backTo pos1 (starEach [] X.env))) _ _ s
  refine Calls.spliced_cons ?_;refine wpAny_Call_Name_kw (Bc I hgR hmR boot_range ?_ (by decide) (by decide));refine mi (Ap (ha pos2 pins s σ H _ I h) fun us s1 ⟨vs,H1,I1,r1,q1⟩=>?_) hs2 hpl2;obtain ⟨i,j,ev,⟨b1,b2,b3,b4⟩,hl,q⟩:=q1;rcases ev with ⟨ev,rfl⟩ | ev
  · subst ev;cases r1 with
    | cons r rr =>
      cases rr;obtain ⟨t,rfl⟩:=r;refine call_range_1 (Calls.spliced_nil ?_);exact JF (I1.ok.hd hc) I1 b1 b2 b3 b4 hl q
  · subst ev;cases r1 with
    | cons r rr =>
      cases rr with
      | cons r' rr =>
        cases rr;obtain ⟨t,rfl⟩:=r;obtain ⟨t',rfl⟩:=r';refine call_range_2 (Calls.spliced_nil ?_);exact JF (I1.ok.hd hc) I1 b1 b2 b3 b4 hl q
end
end L2
namespace R
open PySem L2
noncomputable def items:Dv->Option (List Dv)
 | .tup ds=>some ds
 | .lst ds=>some ds
 | .scr ns=>some (ns.map .int)
 | .str l=>some (l.map fun c=>.str [c])
 | _=>none
def PP (f:Ev Dv):Ev (List Dv):=fun R m k=>f R m fun d m'=>(items d).bind fun ds=>k ds m'
section
variable {K:W.Frag} {g:G} {H:Hp}
theorem rep_int {o:Nat} {i:Int} {v:V} {P:Fp} (h:Rep K g H o (.int i) v P):v=.int i:=by unfold Rep at h;exact h.1
theorem BW {o:Nat} {i:Int}:Rep K g H o (.int i) (.int i) nop:=by unfold Rep;exact ⟨rfl,fun _ z=>z⟩
theorem WG {a:Addr} {ds:List Dv} (h:Rep K g H 0 (.lst ds) (.ref a) nop):Yl K (jQ K a) ds g H:=by
 intro g2 H2 st;have h2:=st.rep h;unfold Rep at h2;obtain ⟨b,vs,P',e,h1,h2,_⟩:=h2;cases e;have sq:DA K H2 a vs:=.inl (.inl h1.1);refine ⟨fun i d e=>?_,fun i hi=>⟨vs,sq,by rw [<- h2.len];exact hi⟩⟩;obtain ⟨v,P,ev,rv,_⟩:=h2.get e;refine ⟨⟨vs,v,sq,ev⟩,fun x H3 y=>?_⟩;obtain ⟨rfl,y⟩:=y;have:=y vs sq;rw [ev] at this;cases this;exact AY.old rv.z
theorem Zv {a:Addr} {ds:List Dv} (h:Rep K g H 0 (.tup ds) (.ref a) nop):Yl K (kh K a) ds g H:=by
 intro g2 H2 st;have h2:=st.rep h;unfold Rep at h2;obtain ⟨b,vs,e,h1,h2⟩:=h2;cases e;have sq:Eg K H2 a vs:=.inl (.inl h1);refine ⟨fun i d e=>?_,fun i hi=>⟨vs,sq,by rw [<- h2.len];exact hi⟩⟩;obtain ⟨v,P,ev,rv,_⟩:=h2.get e;refine ⟨⟨vs,v,sq,ev⟩,fun x H3 y=>?_⟩;obtain ⟨rfl,y⟩:=y;have:=y vs sq;rw [ev] at this;cases this;exact AY.old rv.z
theorem Zx {a:Addr} {ns:List Int} (h:Rep K g H 0 (.scr ns) (.ref a) nop):Yl K (jQ K a) (ns.map .int) g H:=by
 intro g2 H2 st;have h2:=st.rep h;unfold Rep at h2;obtain ⟨⟨b,e,h1⟩,_⟩:=h2;cases e;have sq:=h1.sq;refine ⟨fun i d e=>?_,fun i hi=>⟨_,sq,by rw [mX] at hi ⊢;exact hi⟩⟩;rw [mR] at e;cases q:ns[i]? with
 | none=>rw [q] at e;cases e
 | some k =>
  rw [q] at e;cases e;refine ⟨⟨_,.int k,sq,by rw [mR,q];rfl⟩,fun x H3 y=>?_⟩;obtain ⟨rfl,y⟩:=y;have:=y _ sq;rw [mR,q] at this;cases this;exact AY.old BW
theorem Zw {l:List Nat}:Yl K (jP (tx l)) (l.map fun c=>.str [c]) g H:=by
 intro g2 H2 st;have ec:∀ i:Nat,(tx l).cps[i]?=l[i]?:=fun i=>by show l.toArray[i]?=l[i]?;simp
 refine ⟨fun i d e=>?_,fun i hi=>?_⟩
 ·rw [mR] at e;cases q:l[i]? with
  | none=>rw [q] at e;cases e
  | some c =>
   rw [q] at e;simp only [mj,Option.some.injEq] at e;subst e;refine ⟨⟨c,by rw [ec,q]⟩,fun x H3 y=>?_⟩;obtain ⟨rfl,c',e',rfl⟩:=y;rw [ec,q] at e';cases e';exact AY.old (by unfold Rep;exact ⟨rfl,fun _ z=>z⟩)
 ·show (tx l).cps[i]?=none;rw [ec];rw [mX] at hi;exact nE hi
theorem LF {lo:Int} {n:Nat}:Yl K (eJ lo n) ((List.range n).map fun k=>.int (lo+(k:Nat))) g H:=by
 intro g2 H2 st;refine ⟨fun i d e=>?_,fun i hi=>by rw [mX,oO] at hi;exact hi⟩;obtain ⟨hi,rfl⟩:=Ey e;refine ⟨hi,fun x H3 y=>?_⟩;obtain ⟨rfl,rfl⟩:=y;exact AY.old BW
end
section
variable {X:Cx} {tg e a b:Expr} {es:List Expr} {f:Ev Dv} {p pos:Pos} {Γ Γ':Gm} {js:List Nat} {as:List Ar}
theorem gv (h:PE X e (tE X.K Γ 0 Γ' js f)):PI X tg e (tI X.K Γ Γ' js (PP f)):=PI.imp (XB h) fun σ H Q q=>by
 obtain ⟨g,m,P,r,R,k,res,e,q⟩:=q;refine ⟨g,m,P,r,R,_,res,e,fun d m' g' P' Pv v H' hk ag s rv r1 n=>?_⟩;obtain ⟨ds,e1,e2⟩:=bind_some' hk;have s':Step g P H g' P' H':=s.less fun _ z=>.inl z
 have rz:=rv.z;cases d with
 | tup es =>
  cases e1;have h0:=rz;unfold Rep at h0;obtain ⟨a,vs,rfl,h1,h2⟩:=h0;exact .inl ⟨a,vs,rfl,.inr ⟨.inl (.inl h1),q _ m' g' P' H' _ e2 ag s' r1 (Zv rz)⟩⟩
 | lst es =>
  cases e1;have h0:=rz;unfold Rep at h0;obtain ⟨a,vs,P1,rfl,h1,h2,_⟩:=h0;exact .inl ⟨a,vs,rfl,.inl ⟨.inl (.inl h1.1),q _ m' g' P' H' _ e2 ag s' r1 (WG rz)⟩⟩
 | scr ns =>
  cases e1;have h0:=rz;unfold Rep at h0;obtain ⟨⟨a,rfl,h1⟩,_⟩:=h0;exact .inl ⟨a,_,rfl,.inl ⟨h1.sq,q _ m' g' P' H' _ e2 ag s' r1 (Zx rz)⟩⟩
 | str l =>
  cases e1;have h0:=rz;unfold Rep at h0;exact .inr ⟨_,h0.1,q _ m' g' P' H' _ e2 ag s' r1 Zw⟩
 | _=>cases e1
def ON (K:W.Frag) (p:List Dv->Option (List Dv)) (r:List V->Hp->(It->Hp->Prop)->Prop):Prop:=∀ g H ds vs its Q,Zd g H->Reps K g H 0 ds vs nop->p ds=some its->(∀ J H',OO H H'->Yl K J its g H'->Q J H')->r vs H Q
def Zc (p:List Dv->Option (List Dv)) (fa:Ev (List Dv)):Ev (List Dv):=fun R m k=>fa R m fun ds m'=>(p ds).bind fun its=>k its m'
abbrev ZW (r:List V->Hp->(It->Hp->Prop)->Prop) (ta:TA):TI:=fun σ H Q=>ta σ H fun vs H1=>r vs H1 Q
theorem WQ {K:W.Frag} {pr:List Dv->Option (List Dv)} {r:List V->Hp->(It->Hp->Prop)->Prop} (hp:ON K pr r) (c:AC Γ as Γ' js) (he:evd as=true) {σ:St} {H:Hp} {Q:It->Hp->Prop} (h:tI K Γ Γ' js (Zc pr (AQ as)) σ H Q):ZW r (BY K as) σ H Q:=by
 obtain ⟨g,m,P,rl,R',k,res,e,q⟩:=h;refine AM as rl c e fun ds m' g' P' vs H1 hk ag s ar r1=>?_
 obtain ⟨its,e1,e2⟩:=bind_some' hk;exact hp g' H1 ds vs its Q r1.zd (ar.reps he) e1 fun J H2 sm yl=>q its m' g' P' H2 J e2 ag ((s.trans (Step.same sm)).less fun _ z=>z) (r1.same sm) yl
noncomputable def small (i:Int):Bool:=-1000000000<=i && i<=1000000000
theorem BN {i:Int} (h:small i=true):-1000000000<=i/\i<=1000000000:=by
 unfold small at h;rw [ly,decide_eq_true_eq,decide_eq_true_eq] at h;exact h
def BS (ds:List Dv):Option (List Dv):=match ds with
 | [.int n]=>bif small n then some ((List.range n.toNat).map fun k=>.int (0+(k:Nat))) else none
 | _=>none
def QL (ds:List Dv):Option (List Dv):=match ds with
 | [.int i,.int n]=>bif small i && small n then some ((List.range (n - i).toNat).map fun k=>.int (i+(k:Nat))) else none
 | _=>none
def fu:List V->Hp->(It->Hp->Prop)->Prop:=fun vs H1 R=>∃ j:Int,vs=[.int j]/\-(2 ^ 62)<=j/\j < 2 ^ 62/\R (eJ 0 j.toNat) H1
def fo:List V->Hp->(It->Hp->Prop)->Prop:=fun vs H1 R=>∃ i j:Int,vs=[.int i,.int j]/\(-(2 ^ 62)<=i/\i < 2 ^ 62/\-(2 ^ 62)<=j/\j < 2 ^ 62)/\R (eJ i (j - i).toNat) H1
theorem Sl {K:W.Frag}:ON K BS fu:=fun g H ds vs its Q zd ra e q=>by
 unfold BS at e;split at e
 ·rename_i n;cases c:small n with
  | false=>rw [c] at e;cases e
  | true =>
   rw [c] at e;cases e;have hn:=BN c;unfold Reps at ra;obtain ⟨v,vr,_,_,rfl,h1,h2,_⟩:=ra;unfold Reps at h2;obtain ⟨rfl,_⟩:=h2;rw [rep_int h1];exact ⟨n,rfl,by omega,by omega,q _ H (fun _ _ z=>z) LF⟩
 ·cases e
theorem Sk {K:W.Frag}:ON K QL fo:=fun g H ds vs its Q zd ra e q=>by
 unfold QL at e;split at e
 ·rename_i i n;cases c:small i && small n with
  | false=>rw [c] at e;cases e
  | true =>
   rw [c] at e;cases e;rw [ly] at c;have hi:=BN c.1;have hn:=BN c.2;unfold Reps at ra;obtain ⟨v,vr,_,_,rfl,h1,h2,_⟩:=ra;unfold Reps at h2;obtain ⟨v2,vr2,_,_,rfl,h3,h4,_⟩:=h2;unfold Reps at h4;obtain ⟨rfl,_⟩:=h4;rw [rep_int h1,rep_int h3];exact ⟨i,n,rfl,by omega,q _ H (fun _ _ z=>z) LF⟩
 ·cases e
end
structure Sig:Type 1 where
 ps:List Str
 io:List Nat
 ro:Nat
 nb:Bool
 fn:List Dv->Option (Dv×List Dv)
 cps:(R:Type)->List Dv->(Dv->List Dv->Option R)->Option R
 eq:∀ R ds k,cps R ds k=(fn ds).bind fun p=>k p.1 p.2
def Rt (n:Nat) (io:List Nat):Gm:=(List.range n).map fun i=>some (if io.contains i then 1 else 0)
def Bk (K:W.Frag) (g:G) (H:Hp) (io:List Nat) (bs:List Dv) (vs:List V) (P:Fp):Prop:=Rel K g H (io.map fun _=>some 1) bs (io.map fun i=>(vs[i]?).map id) P
def QJ (K:W.Frag) (s:Sig):Sp:=fun vs H Q _=>∃ g ds P,Rel K g H (Rt s.ps.length s.io) ds (vs.map some) P/\∃ d bs,s.fn ds=some (d,bs) /\
 ∀ g' H' v Pv Pb,Step g P H g' (fun a=>Pv a\/Pb a) H'->Rep K g' H' s.ro d v Pv->Bk K g' H' s.io bs vs Pb->Disj Pv Pb->Q v H'
def NC (n:Nat) (io:List Nat):Gm:=(List.range n).map fun i=>if io.contains i then some 1 else none
def Xx (n p:Nat) (io:List Nat):Gm:=Rt p io++List.replicate (n - p) none
section
variable {K:W.Frag} {g:G} {H:Hp}
theorem Rel.pad {Γ:Gm} {m:M} {vs:List V} {P:Fp} (h:Rel K g H Γ m (vs.map some) P) (n:Nat):Rel K g H (Γ++List.replicate n none) (m++List.replicate n .non) (vs.map some++List.replicate n none) P:=by
 obtain ⟨zd,F,h1,h4⟩:=h;have old:∀ {i o:Nat},(Γ++List.replicate n none)[i]?=some (some o)->i < Γ.length/\Γ[i]?=some (some o):=fun {i o} e=>by
  by_cases z:i < Γ.length
  ·rw [mH z] at e;exact ⟨z,e⟩
  ·rw [me (by omega),pf] at e;split at e<;>cases e
 refine ⟨zd,F,⟨by simp [h1.l1],by have:=h1.l2;simp at this ⊢;omega,fun i o e=>?_,fun i e=>?_,h1.dj⟩,h4⟩
 ·obtain ⟨hi,e⟩:=old e;obtain ⟨d,v,e1,e2,r⟩:=h1.rep i o e;exact ⟨d,v,by rw [mH (by rw [h1.l1];exact hi)];exact e1,by rw [mH (by rw [h1.l2];exact hi)];exact e2,r⟩
 ·refine h1.out i fun o z=>e o ?_
  rw [mH (mB.mp z).1];exact z
theorem Rel.pick {Γ:Gm} {m:M} {σ:St} {P:Fp} {io:List Nat} (h:Rel K g H Γ m σ P) (nd:io.Nodup) (hl:∀ i∈io,Γ[i]?=some (some 1)):∃ P',Rel K g H (io.map fun _=>some 1) (io.map m.at) (io.map fun i=>(σ[i]?).join) P'/\∀ a,P' a->P a:=by
 obtain ⟨zd,F,h1,h4⟩:=h;refine ⟨fun a=>∃ j i,io[j]?=some i/\F i a,⟨zd,fun j a=>∃ i,io[j]?=some i/\F i a,⟨by simp,by simp,fun j o e=>?_,fun j e a ⟨i,e',_⟩=>?_,fun j k n a ⟨i,e1,q1⟩ ⟨i',e2,q2⟩=>?_⟩,fun _=>Iff.rfl⟩,fun a ⟨j,i,_,q⟩=>(h4 a).mpr ⟨i,q⟩⟩
 ·rw [mR] at e;cases ej:io[j]? with
  | none=>rw [ej] at e;cases e
  | some i =>
   rw [ej] at e;cases e;obtain ⟨d,v,e1,e2,r⟩:=h1.rep i 1 (hl i (nV ej));have eq:(fun a=>∃ i',some i=some i'/\F i' a)=F i:=funext fun a=>propext ⟨fun ⟨i',z,q⟩=>by cases z;exact q,fun q=>⟨i,rfl,q⟩⟩
   exact ⟨d,v,by rw [mR,ej,mj,Ji e1],by rw [mR,ej,mj,e2];rfl,by show Rep K g H 1 d v fun a=>∃ i',some i=some i'/\F i' a;rw [eq];exact r⟩
 ·refine e 1 ?_;rw [mR,e'];rfl
 ·by_cases z:i=i'
  ·subst z;refine n ?_;have hj:=(mB.mp e1);have hk:=(mB.mp e2);exact (oq (h₀:=hj.1) (h₁:=hk.1) nd).mp (hj.2.trans hk.2.symm)
  ·exact h1.dj i i' z a q1 q2
end
theorem iD {P:Program} {w:World} {K:W.Frag} {mg:Str->Option Value} {base:Heap} {x qual:Str} {st:Stmt} {f:Addr} {fd:FuncData} {N:List Str} {k:Nat} {s:Sig} (Fn:Fun K x qual st f fd) (S:FnScope N s.ps (AJ st)) (nd:s.io.Nodup) (hio:∀ i∈s.io,i < s.ps.length) (hn:s.ps.length<=N.length)
    {body:Es} {Γn:Option Gm} {js:List Nat} (hw:KL (some (NC N.length s.io)) Γn=true)
    (hb:∀ (cdv:Value) (A:Around) (outer:List Env) (s':Shared) (H:Hp) (E:XK),Room k (A.deeper (PyProof.Rows.envOfC qual (AJ st) s'.heap.objs.size f cdv))->DQ (MT Rq P w K mg base N qual (AJ st) f cdv A outer s' H E).nox (Ab st) (tS K ⟨s.io,NC N.length s.io,s.ro⟩ none (Xx N.length s.ps.length s.io) Γn js body))
    (hΦ:∀ ds d bs,ds.length=s.ps.length->s.fn ds=some (d,bs)->∃ (R:Type) (k:Kt R) (r:R),body R (ds++List.replicate (N.length - s.ps.length) .non) k=some r/\(∀ m,k.nx m=some r->d=.non/\bs=s.io.map m.at)/\(∀ d' m,k.rt d' m=some r->d=d'/\bs=s.io.map m.at)):FnOk P w K mg base Rq (k+1) f fd s.ps (QJ K s):=by
  have ll:∀ n io,(Rt n io).length=n:=fun n io=>by unfold Rt;simp
  refine Fn.ok S (fun vs H Q E h=>?_) fun cdv A outer s' H vs Q E hr h=>⟨_,hb cdv A outer s' H E hr,?_⟩
  · obtain ⟨g,ds,Pa,r,_⟩:=h;have:=r.len.2;rw [ll] at this;simpa using this
  · obtain ⟨g,ds,Pa,r,d,bs,e,q⟩:=h;have l1:=r.len.1;have l2:=r.len.2;rw [ll] at l1 l2;rw [mX] at l2;have r0:Rel K g H (Xx N.length s.ps.length s.io) (ds++List.replicate (N.length - s.ps.length) .non) (L2.start N vs) Pa:=by
      unfold L2.start Xx;rw [l2];exact r.pad _
    have hv:∀ {σ':St},Io s.io (L2.start N vs) σ'->∀ i∈s.io,(σ'[i]?).join=vs[i]?:=fun {σ'} hi i hm=>by
      rw [hi i hm];unfold L2.start;have hl:i < vs.length:=by rw [l2];exact hio i hm
      rw [mH (by simpa using hl),mR];cases vs[i]?<;>rfl
    have rg:∀ i∈s.io,(NC N.length s.io)[i]?=some (some 1):=fun i hi=>by
      unfold NC;rw [mR,nh (by have:=hio i hi;omega),mj,if_pos (mM.mpr hi)]
    obtain ⟨RT,kt,rt,hb0,hnx,hrt⟩:=hΦ ds d bs l1 e;have fin:∀ {d':Dv} {m':M} {g':G} {P' Pv:Fp} {σ':St} {v:V} {H':Hp},d=d'/\bs=s.io.map m'.at->Step g Pa H g' (fun a=>P' a\/Pv a) H'->Io s.io (L2.start N vs) σ'->Rep K g' H' s.ro d' v Pv->Rel K g' H' (NC N.length s.io) m' σ' P'->Disj P' Pv->Q v H':=fun {d' m' g' P' Pv σ' v H'} hk st io rv r' n=>by
      obtain ⟨rfl,rfl⟩:=hk;obtain ⟨Pb,hbk,sb⟩:=r'.pick nd rg;refine q g' H' v Pv Pb (st.less fun a z=>z.elim .inr fun z=>.inl (sb a z)) rv ?_ fun a z w=>n a (sb a w) z
      have e:(s.io.map fun i=>(σ'[i]?).join)=s.io.map fun i=>(vs[i]?).map id:=nc fun i hi=>by rw [hv io i hi];cases vs[i]?<;>rfl
      unfold Bk;rw [<- e];exact hbk
    refine ⟨g,_,Pa,r0,RT,kt,rt,hb0,⟨fun Γ' m' g' P' σ' H' eΓ hk ag st' i' r'=>?_,fun d' m' g' P' Pv σ' v H' hk ag st' i' rv r' n=>fin (hrt d' m' hk) st' i' rv r' n,(fun _ _ _ _ _ _ z=>by cases z),fun _ _ _ _ _ _ z=>by cases z⟩⟩;subst eΓ;obtain ⟨g2,P2,s2,r2⟩:=r'.weaken (by unfold KL at hw;exact hw);exact fin (Pv:=nop) (v:=.non) (hnx m' hk) ((st'.trans s2).less fun _ z=>z.elim id False.elim) i' (by unfold Rep;exact ⟨rfl,fun _ z=>z⟩) r2 fun _ _ z=>z
noncomputable def EL (as:List Ar) (i:Nat):Option Nat:=match as[i]? with | some (.rf j)=>some j | _=>none
def slots (as:List Ar) (io:List Nat):List Nat:=io.map fun i=>(EL as i).getD 0
def aU (as:List Ar) (io:List Nat):Bool:=(List.range as.length).all fun i=>((EL as i).isSome == io.contains i) && (List.range as.length).all fun j=>i == j || (EL as i).isNone || (EL as i != EL as j)
noncomputable def EY:List Nat->List Dv->M->M
 | s::sl,b::bs,m=>EY sl bs (m.set s b)
 | _,_,m=>m
def Nk (s:Sig) (as:List Ar):Ev Dv:=fun R m k=>AQ as R m fun ds m1=>s.cps R ds fun d bs=>k d (EY (slots as s.io) bs m1)
theorem Ha:∀ (sl:List Nat) (bs:List Dv) (m:M),(EY sl bs m).length=m.length
 | [],_,_=>rfl
 | _::_,[],_=>rfl
 | s::sl,b::bs,m=>by unfold EY;rw [Ha,ma]
theorem FA:∀ (sl:List Nat) (bs:List Dv) (m:M) (j:Nat),j∉sl->(EY sl bs m)[j]?=m[j]?
 | [],_,_,_,_=>rfl
 | _::_,[],_,_,_=>rfl
 | s::sl,b::bs,m,j,h=>by
  unfold EY;rw [FA sl bs _ j fun z=>h (mE _ z),mf fun z=>h (by rw [z];exact mC)]
theorem Os:∀ (sl:List Nat) (bs:List Dv) (m:M) (k j:Nat) (b:Dv),sl.Nodup->sl[k]?=some j->bs[k]?=some b->j < m.length->(EY sl bs m)[j]?=some b
 | [],_,_,k,_,_,_,h,_,_=>by simp at h
 | _::_,[],_,k,_,_,_,_,h,_=>by simp at h
 | s::sl,c::bs,m,k,j,b,nd,h1,h2,hl=>by
  unfold EY;rw [oU] at nd;cases k with
  | zero =>
   simp at h1 h2;subst h1 h2;rw [FA sl bs _ s nd.1,ml hl]
  | succ k=>exact Os sl bs _ k j b nd.2 (by simpa using h1) (by simpa using h2) (by rw [ma];exact hl)
theorem Lf (sl:List Nat) (bs:List Dv) (m:M):Bg sl m (EY sl bs m):=⟨Ha ..,fun i h=>by
 unfold M.at;rw [mZ,mZ,FA sl bs m i h]⟩
section
variable {K:W.Frag} {g:G} {H:Hp} {σ:St} {Γ Γ':Gm} {js:List Nat} {m:M} {P:Fp} {as:List Ar}
theorem AU.len:∀ {as:List Ar} {ds:List Dv} {vs:List V},AU K g H Γ m σ as ds vs->ds.length=as.length/\vs.length=as.length
 | [],ds,vs,h=>by unfold AU at h;obtain ⟨rfl,rfl⟩:=h;exact ⟨rfl,rfl⟩
 | .ev _ _ _ _::as,ds,vs,h=>by
  unfold AU at h;obtain ⟨d,v,ds',vs',rfl,rfl,_,h2⟩:=h;simp [h2.len.1,h2.len.2]
 | .rf i::as,ds,vs,h=>by
  unfold AU at h;obtain ⟨v,ds',vs',rfl,rfl,_,_,h3⟩:=h;simp [h3.len.1,h3.len.2]
theorem AU.get:∀ {as:List Ar} {ds:List Dv} {vs:List V} {i:Nat},AU K g H Γ m σ as ds vs->i < as.length->∃ d v,ds[i]?=some d/\vs[i]?=some v/\((∃ j,EL as i=some j/\d=m.at j/\σ[j]?=some (some v))\/(EL as i=none/\Rep K g H 0 d v nop))
 | [],_,_,i,_,h=>by simp at h
 | .ev _ _ _ f::as,ds,vs,i,h,hi=>by
  unfold AU at h;obtain ⟨d,v,ds',vs',rfl,rfl,h1,h2⟩:=h;cases i with
  | zero=>exact ⟨d,v,rfl,rfl,.inr ⟨rfl,h1⟩⟩
  | succ i =>
   obtain ⟨d,v,e1,e2,z⟩:=h2.get (i:=i) (by simpa using hi);exact ⟨d,v,by simpa using e1,by simpa using e2,z⟩
 | .rf j::as,ds,vs,i,h,hi=>by
  unfold AU at h;obtain ⟨v,ds',vs',rfl,rfl,h1,_,h3⟩:=h;cases i with
  | zero=>exact ⟨_,v,rfl,rfl,.inl ⟨j,rfl,rfl,h1⟩⟩
  | succ i =>
   obtain ⟨d,v,e1,e2,z⟩:=h3.get (i:=i) (by simpa using hi);exact ⟨d,v,by simpa using e1,by simpa using e2,z⟩
theorem Ez {i j:Nat} (h:EL as i=some j):i < as.length:=by
 unfold EL at h;cases e:as[i]? with
 | none=>rw [e] at h;cases h
 | some a=>exact (mB.mp e).1
theorem aT {io:List Nat} (h:aU as io=true):(∀ i,i < as.length->((EL as i).isSome=true↔i∈io))/\∀ i i' j,EL as i=some j->EL as i'=some j->i=i':=by
 unfold aU at h;rw [mW] at h;refine ⟨fun i hi=>?_,fun i i' j e e'=>?_⟩
 ·have:=h i (ny.mpr hi);rw [ly,beq_iff_eq] at this;rw [this.1,mM]
 ·have:=h i (ny.mpr (Ez e));rw [ly,mW] at this;have:=this.2 i' (ny.mpr (Ez e'));rw [e,e'] at this;simp at this;exact this
theorem Jb {s:Sig} {g1:G} {H1:Hp} {m1:M} {P1:Fp} {ds:List Dv} {vs:List V} {d:Dv} {bs:List Dv} (hs:aU as s.io=true) (hn:as.length=s.ps.length) (nd:s.io.Nodup) (hio:∀ i∈s.io,i < s.ps.length) (hl:∀ i∈slots as s.io,Γ'[i]?=some (some 1)) {Q:VK}
    (r1:Rel K g1 H1 Γ' m1 σ P1) (ar:AU K g1 H1 Γ' m1 σ as ds vs) (e1:s.fn ds=some (d,bs))
    (q:∀ g2 P2 Pv v H2,Step g1 P1 H1 g2 (fun a=>P2 a\/Pv a) H2->Rep K g2 H2 s.ro d v Pv->Rel K g2 H2 Γ' (EY (slots as s.io) bs m1) σ P2->Disj P2 Pv->Q v H2):QJ K s vs H1 Q E0:=by
  obtain ⟨hs1,hs2⟩:=aT hs;have r1':=r1;obtain ⟨zd,F,h1,h4⟩:=r1'
  -- the slots,one by one
  have sl:∀ {i j:Nat},EL as i=some j->i∈s.io/\j∈slots as s.io:=fun {i j} e=>by
    have hi:=(hs1 i (Ez e)).mp (by rw [e];rfl);exact ⟨hi,mr.mpr ⟨i,hi,by rw [e];rfl⟩⟩
  have sl2:∀ {i:Nat},i∈s.io->∃ j,EL as i=some j:=fun {i} hi=>oF.mp ((hs1 i (by rw [hn];exact hio i hi)).mpr hi)
  have ndS:(slots as s.io).Nodup:=by
    unfold slots;rw [pU,List.pairwise_map];refine (pU.mp nd).imp_of_mem fun {a b} ha hb n z=>?_
    obtain ⟨ja,ea⟩:=sl2 ha;obtain ⟨jb,eb⟩:=sl2 hb;rw [ea,eb] at z;simp only [Option.getD_some] at z;subst z;exact n (hs2 a b ja ea eb)
  let Fa:Nat->Fp:=fun i a=>∃ j,EL as i=some j/\F j a
  have al:=ar.len;have rA:Rel K g1 H1 (Rt s.ps.length s.io) ds (vs.map some) fun a=>∃ i,Fa i a:=by
    refine ⟨zd,Fa,⟨by unfold Rt;simp;rw [al.1,hn],by unfold Rt;simp;rw [al.2,hn],fun i o ei=>?_,fun i ei a ⟨j,ej,_⟩=>?_,fun i i' n a ⟨j,ej,z⟩ ⟨j',ej',z'⟩=>?_⟩,fun _=>Iff.rfl⟩
    · obtain ⟨hi,eo⟩:=Ey ei;obtain ⟨d',v,d1,d2,z⟩:=ar.get (i:=i) (by rw [hn];exact hi);refine ⟨d',v,d1,by rw [mR,d2];rfl,?_⟩;rcases z with ⟨j,ej,rfl,hv⟩ | ⟨ej,z⟩
      · have:o=1:=by
          have:=Option.some.inj eo;rw [if_pos (mM.mpr (sl ej).1)] at this;exact this
        subst this;obtain ⟨d3,v3,e3,e4,r3⟩:=h1.rep j 1 (hl j (sl ej).2);rw [hv] at e4;cases e4;have eq:Fa i=F j:=funext fun a=>propext ⟨fun ⟨j',z,q⟩=>by rw [ej] at z;cases z;exact q,fun q=>⟨j,ej,q⟩⟩
        rw [Ji e3,eq];exact r3
      · have:o=0:=by
          have:=Option.some.inj eo;rw [if_neg fun w=>?_] at this
          · exact this
          · obtain ⟨j,w⟩:=sl2 (mM.mp w);rw [ej] at w;cases w
        subst this;have eq:Fa i=nop:=nop_iff fun a ⟨j,w,_⟩=>by rw [ej] at w;cases w
        rw [eq];exact z
    · refine ei (if s.io.contains i then 1 else 0) ?_;unfold Rt;rw [mR,nh (by rw [<- hn];exact Ez ej)];rfl
    · by_cases w:j=j'
      · subst w;exact n (hs2 i i' j ej ej')
      · exact h1.dj j j' w a z z'
  let Fr:Nat->Fp:=fun j a=>j∉slots as s.io/\F j a
  have rr:Rel K g1 H1 (Mf (slots as s.io) Γ') m1 σ fun a=>∃ j,Fr j a:=by
    refine ⟨zd,Fr,⟨by unfold Mf;simp;exact h1.l1,by unfold Mf;simp;exact h1.l2,fun j o ej=>?_,fun j ej a ⟨n,z⟩=>?_,fun i j n a q z=>h1.dj i j n a q.2 z.2⟩,fun _=>Iff.rfl⟩
    · obtain ⟨nj,ej⟩:=DH ej;obtain ⟨d',v,d1,d2,z⟩:=h1.rep j o ej;have eq:Fr j=F j:=funext fun a=>propext ⟨fun w=>w.2,fun w=>⟨nj,w⟩⟩
      exact ⟨d',v,d1,d2,by rw [eq];exact z⟩
    · refine h1.out j (fun o w=>ej o ?_) a z;unfold Mf;have hj:=(mB.mp w).1;rw [mR,nh hj,mj,if_neg (fun q=>n (mM.mp q)),mZ,w];rfl
  have dA:Disj (fun a=>∃ j,Fr j a) fun a=>∃ i,Fa i a:=fun a ⟨j,nj,z⟩ ⟨i,j',ej,z'⟩=>by
    by_cases w:j=j'
    · subst w;exact nj (sl ej).2
    · exact h1.dj j j' w a z z'
  have okA:FpOk g1 H1 fun a=>∃ i,Fa i a:=rA.fpOk
  refine ⟨g1,ds,_,rA,d,bs,e1,fun g2 H2 v Pv Pb s2 rv hb n=>?_⟩;have rr2:=rr.held s2 okA dA;have dB:Disj (fun a=>∃ j,Fr j a) fun a=>Pv a\/Pb a:=s2.out rr.fpOk dA
  obtain ⟨zd2,Fq,q1,q4⟩:=rr2;obtain ⟨zb,Fb,b1,b4⟩:=hb;have lb:bs.length=s.io.length:=by have:=b1.l1;simpa using this
  have fq:∀ {a:Addr},(∃ j,Fr j a)↔∃ j,Fq j a:=fun {a}=>q4 a
  let Fz:Nat->Fp:=fun j a=>(∃ k,(slots as s.io)[k]?=some j/\Fb k a)\/Fq j a
  have nq:∀ j∈slots as s.io,∀ a,¬ Fq j a:=fun j hj=>q1.out j fun o w=>(DH w).1 hj
  have rz:Rel K g2 H2 Γ' (EY (slots as s.io) bs m1) σ fun a=>∃ j,Fz j a:=by
    refine ⟨zd2,Fz,⟨by rw [Ha];exact h1.l1,h1.l2,fun j o ej=>?_,fun j ej a z=>?_,fun i j n' a z w=>?_⟩,fun _=>Iff.rfl⟩
    · have hjl:j < m1.length:=by rw [h1.l1];exact (mB.mp ej).1
      by_cases hj:j∈slots as s.io
      · obtain ⟨kk,hk1⟩:=oz hj;have hkk:kk < s.io.length:=by have:=(mB.mp hk1).1;unfold slots at this;simpa using this
        rw [hl j hj] at ej;cases ej;obtain ⟨b,u,c1,c2,c3⟩:=b1.rep kk 1 (by rw [mR,lz hkk];rfl);have ei:(slots as s.io)[kk]?=some ((EL as s.io[kk]).getD 0):=by unfold slots;rw [mR,lz hkk];rfl
        obtain ⟨jj,ejj⟩:=sl2 (nu hkk);rw [hk1,ejj] at ei;have ejj':j=jj:=Option.some.inj ei;subst ejj';obtain ⟨d3,v3,d1,d2,z3⟩:=ar.get (i:=s.io[kk]) (Ez ejj);rw [mR,lz hkk,mj,d2] at c2;have eu:u=v3:=by simpa using c2.symm
        subst eu;have hv:σ[j]?=some (some u):=by
          rcases z3 with ⟨j2,e2',_,z3⟩ | ⟨e2',_⟩
          · rw [ejj] at e2';cases e2';exact z3
          · rw [ejj] at e2';cases e2'
        have eq:Fz j=Fb kk:=funext fun a=>propext ⟨fun w=>w.elim (fun ⟨k',h',w⟩=>by
            have h1':=mB.mp hk1;have h2':=mB.mp h';have:k'=kk:=(oq (h₀:=h2'.1) (h₁:=h1'.1) ndS).mp (h2'.2.trans h1'.2.symm);exact this▸w) fun w=>(nq j hj a w).elim,fun w=>.inl ⟨kk,hk1,w⟩⟩
        exact ⟨b,u,Os _ bs m1 kk j b ndS hk1 c1 hjl,hv,by rw [eq];exact c3⟩
      · have ej':(Mf (slots as s.io) Γ')[j]?=some (some o):=by
          unfold Mf;rw [mR,nh (mB.mp ej).1,mj,if_neg (fun w=>hj (mM.mp w)),mZ,ej];rfl
        obtain ⟨d3,v3,d1,d2,r3⟩:=q1.rep j o ej';have eq:Fz j=Fq j:=funext fun a=>propext ⟨fun w=>w.elim (fun ⟨k',h',_⟩=>(hj (nV h')).elim) id,.inr⟩
        exact ⟨d3,v3,by rw [FA _ _ _ _ hj];exact d1,d2,by rw [eq];exact r3⟩
    · rcases z with ⟨k',h',z⟩ | z
      · exact ej 1 (hl j (nV h'))
      · refine q1.out j (fun o w=>ej o (DH w).2) a z
    · rcases z with ⟨k1,h1',z⟩ | z
      · rcases w with ⟨k2,h2',w⟩ | w
        · by_cases kk:k1=k2
          · subst kk;rw [h1'] at h2';exact n' (Option.some.inj h2')
          · exact b1.dj k1 k2 kk a z w
        · exact dB a (fq.mpr ⟨j,w⟩) (.inr ((b4 a).mpr ⟨k1,z⟩))
      · rcases w with ⟨k2,h2',w⟩ | w
        · exact dB a (fq.mpr ⟨i,z⟩) (.inr ((b4 a).mpr ⟨k2,w⟩))
        · exact q1.dj i j n' a z w
  refine q g2 _ Pv v H2 ((s2.frame (R:=fun a=>∃ j,Fr j a)).sub (fun a z=>?_) fun a z=>?_) rv rz fun a z w=>?_
  · rcases z with ⟨i,j,_,z⟩ | ⟨j,_,z⟩
    · exact (h4 a).mpr ⟨j,z⟩
    · exact (h4 a).mpr ⟨j,z⟩
  · rcases z with ⟨j,z⟩ | z
    · rcases z with ⟨k',_,z⟩ | z
      · exact .inl (.inr ((b4 a).mpr ⟨k',z⟩))
      · exact .inr (fq.mpr ⟨j,z⟩)
    · exact .inl (.inl z)
  · obtain ⟨j,z⟩:=z;rcases z with ⟨k',_,z⟩ | z
    · exact n a w ((b4 a).mpr ⟨k',z⟩)
    · exact dB a (fq.mpr ⟨j,z⟩) (.inl w)
theorem VJ {s:Sig} (c:AC Γ as Γ' js) (hs:aU as s.io=true) (hn:as.length=s.ps.length) (nd:s.io.Nodup) (hio:∀ i∈s.io,i < s.ps.length) (hl:∀ i∈slots as s.io,Γ'[i]?=some (some 1)) {Q:VK}
    (h:tE K Γ s.ro Γ' (js++slots as s.io) (Nk s as) σ H Q):BY K as σ H fun vs H1=>QJ K s vs H1 Q E0:=by
  obtain ⟨g,m,P,r,R,k,res,e,q⟩:=h;refine AM as r c e fun ds m1 g1 P1 vs H1 hk ag st ar r1=>?_
  rw [s.eq] at hk;obtain ⟨⟨d,bs⟩,e1,e2⟩:=bind_some' hk;exact Jb hs hn nd hio hl r1 ar e1 fun g2 P2 Pv v H2 st2 rv rz n=>q d _ g2 P2 Pv v H2 e2 (ag.trans (Lf _ bs m1)) (st.trans st2) rv rz n
noncomputable def UC:Dv->Bool
 | .non | .bl _ | .int _ | .str _=>true
 | _=>false
theorem XZ {g':G} {o o':Nat} {d:Dv} {v:V} {Pv:Fp} (h:Rep K g' H o d v Pv) (e:UC d=true):Rep K g H o' d v nop:=by
 cases d with
 | non=>unfold Rep at h ⊢;exact ⟨h.1,fun _ z=>z⟩
 | bl b=>unfold Rep at h ⊢;exact ⟨h.1,fun _ z=>z⟩
 | int i=>unfold Rep at h ⊢;exact ⟨h.1,fun _ z=>z⟩
 | str l=>unfold Rep at h ⊢;exact ⟨h.1,fun _ z=>z⟩
 | _=>cases e
theorem AU.fz (r:Rel K g H Γ m σ P):∀ {as:List Ar} {ds:List Dv} {vs:List V},AU K g H Γ m σ as ds vs->Reps K (g.add P) H 0 ds vs nop
 | [],ds,vs,h=>by unfold AU at h;obtain ⟨rfl,rfl⟩:=h;exact Reps.nil
 | .ev _ _ _ f::as,ds,vs,h=>by
  unfold AU at h;obtain ⟨d,v,ds',vs',rfl,rfl,h1,h2⟩:=h;exact (Reps.cons (h1.freeze (P:=P) fun _ z=>z.elim) (AU.fz r h2) fun _ z=>z.elim).iff fun a=>⟨fun z=>z.elim,fun z=>z.elim id id⟩
 | .rf i::as,ds,vs,h=>by
  unfold AU at h;obtain ⟨v,ds',vs',rfl,rfl,h1,⟨o,_,ho⟩,h3⟩:=h;obtain ⟨v',P1,e,k,sb⟩:=r.see ho;rw [h1] at e;cases e;exact (Reps.cons (k.freeze (P:=P) sb) (AU.fz r h3) fun _ z=>z.elim).iff fun a=>⟨fun z=>z.elim,fun z=>z.elim id id⟩
theorem Xd {n:Nat} {ds:List Dv} {vs:List V} (zd:Zd g H) (h:Reps K g H 0 ds vs nop) (hn:ds.length=n):Rel K g H (Rt n []) ds (vs.map some) nop:=by
 refine ⟨zd,fun _=>nop,⟨by unfold Rt;simp [hn],by unfold Rt;simp [<- hn,h.len],fun i o e=>?_,fun i e a z=>z,fun i j n a z=>z.elim⟩,fun a=>⟨fun z=>z.elim,fun ⟨i,z⟩=>z⟩⟩;obtain ⟨hi,e⟩:=Ey e;have eo:o=0:=(Option.some.inj e);subst eo;obtain ⟨v,_,ev,rv,_⟩:=h.get (lz (by omega:i < ds.length));exact ⟨_,v,lz (by omega),by rw [mR,ev];rfl,rv.z⟩
def KZ (s:Sig) (as:List Ar):Ev Dv:=fun R m k=>AQ as R m fun ds m1=>s.cps R ds fun d _=>bif UC d then k d m1 else none
theorem RJ {s:Sig} (c:AC Γ as Γ' js) (hs:s.io=[]) (hn:as.length=s.ps.length) {Q:VK} (h:tE K Γ 1 Γ' js (KZ s as) σ H Q):BY K as σ H fun vs H1=>QJ K s vs H1 Q E0:=by
 obtain ⟨g,m,P,r,R,k,res,e,q⟩:=h;refine AM as r c e fun ds m1 g1 P1 vs H1 hk ag st ar r1=>?_
 rw [s.eq] at hk;obtain ⟨⟨d,bs⟩,e1,e2⟩:=bind_some' hk;cases c:UC d with
 | false=>simp only [c,cond_false] at e2;cases e2
 | true =>
  simp only [c,cond_true] at e2;have fs:Step g1 P1 H1 (g1.add P1) nop H1:=Step.freeze r1.fpOk;refine ⟨g1.add P1,ds,nop,by rw [hs];exact Xd (fs.zd r1.zd) (ar.fz r1) (ar.len.1.trans hn),d,bs,e1,fun g' H' v Pv Pb s2 rv _ _=>?_⟩;have sm:OO H1 H':=fun b o hb=>s2.keep b o hb fun z=>z
  exact q d m1 g1 P1 nop v H' e2 ag ((st.trans (Step.same sm)).less fun _ z=>z.elim id False.elim) (XZ rv c) (r1.same sm) fun _ _ z=>z
end
end R
namespace L2
open PySem PySem.Spec PyProof.Rows
section
variable {X:Cx}
def lF:R2:=fun x y H Q=>∃ a v,x=.ref a/\IZ H a y (some v)/\Q v H
theorem gm (hu:X.A.units+1 < cLine):Rn X lF:=by
 intro value slice pins s σ H x y v u Q I rx ry h hs;obtain ⟨a,z,rfl,g,q⟩:=h;obtain rfl:v=Value.ref a:=rx;have hT:=MP I g;have h2:=RF (Q:=EP X pins σ Q) (E:=X.xe) (A:=X.A) hu I g ry fun w' s3 I3 rw'=>⟨z,H,I3,rw',q⟩
 unfold subscriptTail;refine wpAny_bind ?_;rw [getitemInPython_of_ne hT.not_modules];refine wpAny_bind (wpAny_specialOf hT PySem.F.slot_dict_getitem.lookup ?_);have fin:wpAny (model X.prog X.w) X.A (subscripted slice false (.ref a) u) (fun r s₃=>wpAny (model X.prog X.w) X.A (letTemporaryGo value (.ref a) r >>= fun _=>pure r) (EP X pins σ Q) X.xe s₃) X.xe s:=by
  rw [hs];exact wpAny_operating (wpAny_mono h2 (fun r s₃ h₃=>wpAny_bind (wpAny_letTemporaryGo (wpAny_pure h₃))) fun _ _ x=>x)
 first
  | exact wpAny_pure (wpAny_bind fin)
  | exact wpAny_bind (wpAny_pure (wpAny_bind fin))
  | exact wpAny_bind fin
def lE:OL:=fun o i v H Q=>∃ a H',o=.ref a/\Vz H a i v H'/\Q H'
theorem aW (hu:X.A.units+1 < cLine):Kz X lE:=by
 intro pins s σ H o i v ov iv u Q I ro ri rv h;obtain ⟨a,H',rfl,g,q⟩:=h;obtain rfl:ov=Value.ref a:=ro;exact RE hu I g ri rv fun s4 I4=>⟨H',I4,q⟩
theorem Kz.or {t t':OL} (h:Kz X t) (h':Kz X t'):Kz X (fun o i v H Q=>t o i v H Q\/t' o i v H Q):=by
 intro pins s σ H o i v ov iv u Q I ro ri rv q;rcases q with q | q
 ·exact h pins s σ H o i v ov iv u Q I ro ri rv q
 ·exact h' pins s σ H o i v ov iv u Q I ro ri rv q
def au (neg:Bool):R2:=fun y x H Q=>∃ a o,x=.ref a/\IZ H a y o/\Q (.bl (if neg then !o.isSome else o.isSome)) H
theorem bh (hu:X.A.units+1 < cLine):CH X (compareOp .In) (au false):=by
 intro pins s σ H y x u v Q I ry rx h;obtain ⟨a,o,rfl,g,q⟩:=h;obtain rfl:v=Value.ref a:=rx;exact kN hu I g ry fun s3 I3=>⟨.bl o.isSome,H,I3,rfl,q⟩
theorem XO (hu:X.A.units+1 < cLine):CH X (compareOp .NotIn) (au true):=by
 intro pins s σ H y x u v Q I ry rx h;obtain ⟨a,o,rfl,g,q⟩:=h;obtain rfl:v=Value.ref a:=rx;exact Xz hu I g ry fun s3 I3=>⟨.bl (!o.isSome),H,I3,rfl,q⟩
def ZG:List V->Hp->VK->Prop:=fun xs H Q=>∃ a kvs,xs=[V.ref a]/\H a=some (.dK kvs)/\Q (.int kvs.length) H
theorem Nz:BM X (.builtin "len") ZG:=RP
end
end L2
namespace R
open PySem L2
def JJ:Dv->Option BE
 | .int i=>some (.inl i)
 | .str l=>some (.inr (tx l))
 | _=>none
def GH (k:BE):List BE->List Dv->Option Dv
 | j::ks,d::ds=>if j=k then some d else GH k ks ds
 | _,_=>none
def Uz (k:BE) (ks:List BE):List BE:=if ks.any (fun j=>decide (j=k))=true then ks else ks++[k]
def RG (k:BE) (x:Dv):List BE->List Dv->List Dv
 | j::ks,d::ds=>(if j=k then x else d)::RG k x ks ds
 | _,_=>[]
def Ux (k:BE) (x:Dv) (ks:List BE) (ds:List Dv):List Dv:=if ks.any (fun j=>decide (j=k))=true then RG k x ks ds else ds++[x]
section
variable {K:W.Frag} {g:G} {H:Hp}
theorem KN {o:Nat} {d:Dv} {v:V} {P:Fp} {k:BE} (h:Rep K g H o d v P) (e:JJ d=some k):v=kV k:=by
 cases d with
 | int i=>cases e;unfold Rep at h;exact h.1
 | str l=>cases e;unfold Rep at h;exact h.1
 | _=>cases e
theorem MQ {k:BE}:∀ {ks:List BE} {ds:List Dv} {us:List V} {R:Fp} {d:Dv},Reps K g H 0 ds us R->GH k ks ds=some d->∃ v,FS (ks.zip us) k=some v/\Rep K g H 0 d v nop
 | [],ds,us,R,d,_,e=>by cases ds<;>cases e
 | j::ks,[],us,R,d,_,e=>by cases e
 | j::ks,x::ds,us,R,d,h,e=>by
  unfold Reps at h;obtain ⟨v,r,P1,P2,rfl,h1,h2,_⟩:=h;unfold GH at e;split at e
  ·rename_i c;cases e;exact ⟨v,by rw [oA];exact DR c,h1.z⟩
  ·rename_i c;obtain ⟨w,e1,e2⟩:=MQ h2 e;exact ⟨w,by rw [oA,DS c];exact e1,e2⟩
theorem JX {k:BE}:∀ {ks:List BE} {ds:List Dv} {us:List V},ks.length=ds.length->ds.length=us.length->(FS (ks.zip us) k).isSome=(GH k ks ds).isSome
 | [],[],_,_,_=>rfl
 | j::ks,d::ds,[],_,h=>by cases h
 | j::ks,d::ds,u::us,h1,h2=>by
  have ih:=JX (k:=k) (ks:=ks) (ds:=ds) (us:=us) (by simpa using h1) (by simpa using h2);rw [oA];unfold GH
  by_cases c:j=k
  ·rw [DR (p:=(j,u)) c,if_pos c];rfl
  ·rw [DS (p:=(j,u)) c,if_neg c];exact ih
theorem Uy {k:BE} {x:Dv} {w:V} {ks:List BE} {ds:List Dv} {us:List V} {R:Fp} (hl:ks.length=ds.length) (h:Reps K g H 0 ds us R) (hx:Rep K g H 0 x w nop) :
    ∃ us',GA (ks.zip us) k w=(Uz k ks).zip us'/\Reps K g H 0 (Ux k x ks ds) us' nop/\(Uz k ks).length=(Ux k x ks ds).length:=by
  have hl2:ks.length=us.length:=by rw [hl,h.len]
  have any_eq:∀ {ks:List BE} {us:List V},ks.length=us.length->((ks.zip us).any fun kv=>decide (kv.1=k))=ks.any fun j=>decide (j=k):=fun {ks us} h=>by
    induction ks generalizing us with
    | nil=>rfl
    | cons j ks ih =>
      cases us with
      | nil=>cases h
      | cons u us=>rw [oA,nU,nU,ih (by simpa using h)]
  unfold GA Uz Ux;rw [any_eq hl2]
  by_cases c:(ks.any fun j=>decide (j=k))=true
  · rw [if_pos c,if_pos c,if_pos c];have:∀ {ks:List BE} {ds:List Dv} {us:List V} {R:Fp},ks.length=ds.length->Reps K g H 0 ds us R->∃ us',((ks.zip us).map fun kv=>if kv.1=k then (kv.1,w) else kv)=ks.zip us'/\Reps K g H 0 (RG k x ks ds) us' nop/\ks.length=(RG k x ks ds).length:=fun {ks ds us R} hl h=>by
      induction ks generalizing ds us R with
      | nil=>exact ⟨[],by simp,by cases ds<;>exact Reps.nil,by cases ds<;>rfl⟩
      | cons j ks ih =>
        cases ds with
        | nil=>cases hl
        | cons d ds =>
          unfold Reps at h;obtain ⟨v,r,P1,P2,rfl,h1,h2,_⟩:=h;obtain ⟨us',e1,e2,e3⟩:=ih (by simpa using hl) h2;refine ⟨(if j=k then w else v)::us',?_,?_,by simp [RG];omega⟩
          · rw [oA,mJ,oA,e1]
            by_cases q:j=k<;>simp [q]
          · unfold RG;refine ((Reps.cons (P1:=nop) (P2:=nop) ?_ e2 (fun _ z=>z.elim)).iff fun a=>⟨fun z=>z.elim,fun z=>z.elim id id⟩)
            by_cases q:j=k
            · rw [if_pos q,if_pos q];exact hx
            · rw [if_neg q,if_neg q];exact h1.z
    exact this hl h
  · rw [if_neg c,if_neg c,if_neg c];refine ⟨us++[w],?_,?_,by simp [hl]⟩
    · rw [List.zip_append hl2];rfl
    · exact (Reps.app (P:=nop) (Q:=nop) h.z ((Reps.cons (P1:=nop) (P2:=nop) hx Reps.nil fun _ z=>z.elim).iff fun a=>⟨fun z=>z.elim,fun z=>z.elim id id⟩) fun _ z=>z.elim).iff fun a=>⟨fun z=>z.elim,fun z=>z.elim id id⟩
theorem Xy {o:Nat} {ks:List BE} {ds:List Dv} {v:V} {P:Fp} (h:Rep K g H o (.dct ks ds) v P):∃ a us,v=.ref a/\H a=some (.dK (ks.zip us))/\ks.length=ds.length/\Reps K g H 0 ds us nop:=by
 unfold Rep at h;obtain ⟨a,us,e,h1,_,_,⟨h5,R,h6⟩,_⟩:=h;exact ⟨a,us,e,h1,h5,h6.z⟩
theorem XJ {ks:List BE} {ds:List Dv} {v:V} {P:Fp} (h:Rep K g H 1 (.dct ks ds) v P):∃ a us,v=.ref a/\H a=some (.dK (ks.zip us))/\ks.length=ds.length/\Reps K g H 0 ds us nop /\
    ∀ ks' ds' us',ks'.length=ds'.length->Reps K g H 0 ds' us' nop->Step g P H g P (upd H a (.dK (ks'.zip us')))/\Rep K g (upd H a (.dK (ks'.zip us'))) 1 (.dct ks' ds') (.ref a) P:=by
  have ok:=h.fpOk;unfold Rep at h;obtain ⟨a,us,e,h1,h2,h3,⟨h5,R,h6⟩,h4⟩:=h;have pa:P a:=(h4 a).mpr ⟨by decide,rfl⟩;refine ⟨a,us,e,h1,h5,h6.z,fun ks' ds' us' hl hr=>?_⟩;have st:Step g P H g P (upd H a (.dK (ks'.zip us'))):=by
    refine ⟨fun b o hb n=>?_,fun b hb=>?_,fun _ z=>z,fun _ z=>.inl z,⟨[],by simp⟩,fun _ z=>.inl z,fun z b hb q=>?_⟩
    · unfold upd;rw [if_neg fun e=>n (by rw [e];exact pa)];exact hb
    · unfold upd at hb;split at hb
      · cases hb
      · exact hb
    · unfold upd at q;split at q
      · cases q
      · exact z b hb q
  refine ⟨st,?_⟩;unfold Rep;exact ⟨a,us',rfl,by unfold upd;rw [if_pos rfl],(fun z=>(Nat.one_ne_zero z).elim),(fun _=>h3 (by decide)),⟨hl,nop,hr.held st ok fun _ z=>z.elim⟩,h4⟩
end
noncomputable abbrev Mu:=Dv->List Dv->Option (Dv×Dv)
def Rm (K:W.Frag) (p:Mu) (R:V->List V->Hp->VK->Prop):Prop:=∀ g H x v P ds us r y Q,Zd g H->Rep K g H 1 x v P->Reps K g H 0 ds us nop->p x ds=some (r,y) ->
 (∀ w H' P',Step g P H g P' H'->Rep K g H' 1 y v P'->Rep K g H' 0 r w nop->Q w H')->R v us H Q
noncomputable def kind:Dv->String
 | .lst _ => "list"
 | .scr _ => "list"
 | .str _ => "str"
 | .int _ => "int"
 | .dti _ => "dict"
 | .dct _ _ => "dict"
 | .tup _ => "tuple"
 | _ => "?"
def Dj {α:Type} (T:String) (d:Dv) (o:Option α):Option α:=if kind d=T then o else none
theorem Di {α:Type} {T:String} {d:Dv} {o:Option α} {a:α} (h:Dj T d o=some a):kind d=T/\o=some a:=by
 unfold Dj at h;split at h
 ·rename_i z;exact ⟨z,h⟩
 ·cases h
def Uc (T:String) (i:Nat) (p:Mu) (fa:Ev (List Dv)):Ev Dv:=fun R m k=>Dj T (m.at i) (fa R m fun ds m1=>(p (m1.at i) ds).bind fun r=>k r.1 (m1.set i r.2))
section
variable {K:W.Frag} {g:G} {H:Hp} {σ:St} {Γ Γ':Gm} {js:List Nat} {as:List Ar}
theorem Mm {o:Nat} {d:Dv} {v:V} {P:Fp} {T:String} (h:Rep K g H o d v P) (e:kind d=T) (hT:T = "list" \/ T = "str" \/ T = "int" \/ T = "dict"):jF K T v H:=by
 subst e;cases d with
 | lst ds=>unfold Rep at h;obtain ⟨a,vs,P',rfl,h1,_⟩:=h;exact .inl ⟨rfl,vs,.inl (.inl h1.1)⟩
 | scr ns=>unfold Rep at h;obtain ⟨⟨a,rfl,h1⟩,_⟩:=h;exact .inl ⟨rfl,_,h1.sq⟩
 | str l=>unfold Rep at h;rw [h.1];rfl
 | int i=>unfold Rep at h;rw [h.1];rfl
 | dti l=>unfold Rep at h;obtain ⟨a,rfl,h1,_⟩:=h;exact .inr (.inr (.inl ⟨rfl,.inr ⟨_,h1⟩⟩))
 | dct ks l=>unfold Rep at h;obtain ⟨a,vs,rfl,h1,_⟩:=h;exact .inr (.inr (.inl ⟨rfl,.inl ⟨_,h1⟩⟩))
 | _=>rcases hT with h | h | h | h<;>simp [kind] at h
theorem Xa {T:String} {i:Nat} {p:Mu} {R:V->List V->Hp->VK->Prop} (hR:Rm K p R) (hT:T = "list" \/ T = "str" \/ T = "int" \/ T = "dict") (c:AC Γ as Γ' js) (he:evd as=true) (h0:∃ o,Γ[i]?=some (some o)) (hi:Γ'[i]?=some (some 1)) {Q:VK}
    (h:tE K Γ 0 Γ' (js++[i]) (Uc T i p (AQ as)) σ H Q):fI K T R (HA i) (BY K as) σ H Q:=by
  obtain ⟨g,m,P,r,R',k,res,e,q⟩:=h;obtain ⟨e0,e⟩:=Di e;obtain ⟨o0,h0⟩:=h0;obtain ⟨v0,P0,ev0,rv0,_⟩:=r.see h0;refine ⟨v0,ev0,Mm rv0 e0 hT,AM as r c e fun ds m1 g1 P1 vs H1 hk ag s ar r1=>?_⟩;obtain ⟨⟨rs,y⟩,e1,e2⟩:=bind_some' hk;obtain ⟨v,Pa,Pr,ev,em,rv,r2,n,hP⟩:=r1.take hi;rw [ev0] at ev;cases ev;refine hR g1 H1 _ v0 Pa ds vs rs y Q r1.zd rv (ar.reps he) e1 fun w H2 P' s2 ry rr=>?_
  have r3:=r2.held s2 rv.fpOk fun a q z=>n a z q
  have n3:=s2.out r2.fpOk fun a q z=>n a z q
  have hil:i < Γ'.length:=(mB.mp hi).1;obtain ⟨P4,r4,sp⟩:=r3.putIn hil ev0 ry fun a q z=>n3 a z q
  rw [HM hi] at r4;refine q rs _ g1 P4 nop w H2 e2 (ag.trans Bg.set) (s.trans ((s2.frame (R:=Pr)).sub (fun a z=>(hP a).mpr z) fun a z=>z.elim (fun z=>sp a z) False.elim)) rr r4 fun _ _ z=>z
theorem Step.upd {a:Addr} {o:HO} {P':Fp} (h:H a≠none) (hs:∀ b,P' b->b=a\/H b=none):Step g (fun b=>b=a) H g P' (upd H a o):=by
 have dm:∀ b,L2.upd H a o b=none->H b=none:=fun b q=>by
  by_cases hb:b=a
  ·subst hb;rw [BX] at q;cases q
  ·rw [AO hb] at q;exact q
 exact ⟨fun b u q n=>by rw [AO n];exact q,dm,fun _ q=>q,fun _ q=>.inl q,⟨[],by simp⟩,hs,fun z b q e=>z b q (dm b e)⟩
theorem FC {xs:List Dv} {v:V} {P:Fp} (h:Rep K g H 1 (.lst xs) v P):∃ a vs,v=.ref a/\H a=some (.lst vs)/\¬ g.Z a/\Reps K g H 0 xs vs nop/\(∀ b,P b↔b=a) /\
    ∀ ws,Step g P H g P (upd H a (.lst ws))/\(∀ {d:Dv} {u:V},Rep K g H 0 d u nop->Rep K g (upd H a (.lst ws)) 0 d u nop)/\∀ ys,Reps K g H 0 ys ws nop->Rep K g (upd H a (.lst ws)) 1 (.lst ys) (.ref a) P:=by
  unfold Rep at h;obtain ⟨a,vs,P',rfl,h1,h2,h3,h5⟩:=h;have hP:∀ b,P b↔b=a:=fun b=>by rw [h5 b];exact ⟨fun z=>z.elim (fun z=>z.2) fun z=>(h2.none0 b z).elim,fun z=>.inl ⟨by decide,z⟩⟩
  have eP:P=fun b=>b=a:=funext fun b=>propext (hP b)
  have hz:=h1.2.2 (by decide);have oka:FpOk g H fun b=>b=a:=fun b q=>by subst q;exact ⟨by rw [h1.1];trivial,hz⟩
  refine ⟨a,vs,rfl,h1.1,hz,h2.z,hP,fun ws=>?_⟩;have st:Step g (fun b=>b=a) H g (fun b=>b=a) (upd H a (.lst ws)):=Step.upd (by rw [h1.1];simp) fun b z=>.inl z
  refine ⟨by rw [eP];exact st,fun r=>r.held st oka fun _ z=>z.elim,fun ys r=>?_⟩;unfold Rep;exact ⟨a,ws,nop,rfl,⟨BX,(fun z=>by cases z),fun _=>hz⟩,r.held st oka fun _ z=>z.elim,fun z=>z,fun b=>by rw [hP b];exact ⟨fun z=>.inl ⟨by decide,z⟩,fun z=>z.elim (fun z=>z.2) False.elim⟩⟩
theorem CO:∀ {ds:List Dv} {vs:List V},Reps K g H 0 ds vs nop↔ds.length=vs.length/\∀ (i:Nat) (d:Dv) (v:V),ds[i]?=some d->vs[i]?=some v->Rep K g H 0 d v nop
 | [],vs=>⟨fun h=>⟨h.len,fun i d v e=>by simp at e⟩,fun h=>by
  have:vs=[]:=mq h.1.symm;subst this;exact Reps.nil⟩
 | x::xs,vs=>by
  refine ⟨fun h=>⟨h.len,fun i d v e1 e2=>?_⟩,fun h=>?_⟩
  ·obtain ⟨v',P,e',r,_⟩:=h.get e1;rw [e2] at e';cases e';exact r.z
  ·cases vs with
   | nil=>simp at h
   | cons v vs =>
    exact (Reps.cons (h.2 0 x v rfl rfl) (CO.mpr ⟨by simpa using h.1,fun i d u e1 e2=>h.2 (i+1) d u (by simpa using e1) (by simpa using e2)⟩) fun _ z=>z.elim).iff fun a=>⟨fun z=>z.elim,fun z=>z.elim id id⟩
theorem BJ {ds es:List Dv} {vs us:List V} (h:Reps K g H 0 ds vs nop) (k:Reps K g H 0 es us nop):Reps K g H 0 (ds++es) (vs++us) nop:=(Reps.app h k fun _ z=>z.elim).iff fun a=>⟨fun z=>z.elim,fun z=>z.elim id id⟩
theorem BV {d:Dv} {v:V} (h:Rep K g H 0 d v nop):Reps K g H 0 [d] [v] nop:=(Reps.cons h Reps.nil fun _ z=>z.elim).iff fun a=>⟨fun z=>z.elim,fun z=>z.elim id id⟩
theorem Aw {d:Dv} {ds:List Dv} {vs:List V} (h:Reps K g H 0 (d::ds) vs nop):∃ v us,vs=v::us/\Rep K g H 0 d v nop/\Reps K g H 0 ds us nop:=by
 unfold Reps at h;obtain ⟨v,r,P1,P2,rfl,h1,h2,_⟩:=h;exact ⟨v,r,rfl,h1.z,h2.z⟩
theorem BD {vs:List V} (h:Reps K g H 0 [] vs nop):vs=[]:=by unfold Reps at h;exact h.1
theorem QM {ds:List Dv} {vs:List V} {d:Dv} {v:V} (j:Nat) (h:Reps K g H 0 ds vs nop) (r:Rep K g H 0 d v nop):Reps K g H 0 (ds.set j d) (vs.set j v) nop:=by
 have h0:=CO.mp h;refine CO.mpr ⟨by simp [h0.1],fun i x y e1 e2=>?_⟩;rcases Du e1 with ⟨rfl,rfl⟩ | ⟨n,e1⟩
 ·rcases Du e2 with ⟨_,rfl⟩ | ⟨n,_⟩
  ·exact r
  ·exact (n rfl).elim
 ·rcases Du e2 with ⟨z,_⟩ | ⟨_,e2⟩
  ·exact (n z).elim
  ·exact h0.2 i x y e1 e2
theorem Fv {o:Nat}:Rep K g H o .non .non nop:=by unfold Rep;exact ⟨rfl,fun _ z=>z⟩
noncomputable def AV (x:Dv) (ds:List Dv):Option (Dv×Dv):=match x,ds with
 | .lst xs,[d]=>if xs.length<=1000000 then some (.non,.lst (xs++[d])) else none
 | _,_=>none
noncomputable def Ri (x:Dv) (ds:List Dv):Option (Dv×Dv):=match x,ds with
 | .lst xs,[]=>match xs.getLast? with
  | some d=>some (d,.lst xs.dropLast)
  | none=>none
 | _,_=>none
noncomputable def DI (x:Dv) (ds:List Dv):Option (Dv×Dv):=match x,ds with
 | .lst xs,[.lst ys]=>if xs.length+ys.length<=1000000 then some (.non,.lst (xs++ys)) else none
 | _,_=>none
theorem Qe:Rm K AV Oq:=fun g H x v P ds us r y Q zd rx rd e k=>by
 unfold AV at e;split at e
 ·rename_i xs d;split at e
  ·rename_i hl;cases e;obtain ⟨a,vs,rfl,ha,hz,hx,hP,go⟩:=FC rx;obtain ⟨u,us',rfl,hu,h2⟩:=Aw rd;cases BD h2;obtain ⟨s,hd,mk⟩:=go (vs++[u]);exact ⟨a,vs,u,rfl,rfl,ha,oX (by rw [<- hx.len];exact hl) (by decide),k _ _ P s (mk _ (BJ hx (BV hu))) Fv⟩
  ·cases e
 ·cases e
theorem bu:Rm K Ri gA:=fun g H x v P ds us r y Q zd rx rd e k=>by
 unfold Ri at e;split at e
 ·rename_i xs;split at e
  ·rename_i d el;cases e;obtain ⟨a,vs,rfl,ha,hz,hx,hP,go⟩:=FC rx;cases BD rd;obtain ⟨s,hd,mk⟩:=go vs.dropLast;have h0:=CO.mp hx;rw [List.getLast?_eq_getElem?] at el;obtain ⟨u,P1,e2,r2,_⟩:=hx.get el;refine ⟨a,vs,u,rfl,rfl,ha,by rw [<- h0.1];exact e2,k _ _ P s (mk _ ?_) (hd r2.z)⟩;refine CO.mpr ⟨by simp [h0.1],fun i d v e3 e4=>?_⟩;rw [List.getElem?_dropLast] at e3 e4;split at e3
   ·split at e4
    ·exact h0.2 i d v e3 e4
    ·cases e4
   ·cases e3
  ·cases e
 ·cases e
theorem Qd:Rm K DI Oo:=fun g H x v P ds us r y Q zd rx rd e k=>by
 unfold DI at e;split at e
 ·rename_i xs ys;split at e
  ·rename_i hl;cases e;obtain ⟨a,vs,rfl,ha,hz,hx,hP,go⟩:=FC rx;obtain ⟨u,us',rfl,hu,h2⟩:=Aw rd;cases BD h2;unfold Rep at hu;obtain ⟨b,ws,P',rfl,h1,h3,_⟩:=hu;obtain ⟨s,hd,mk⟩:=go (vs++ws);exact ⟨a,b,vs,ws,rfl,rfl,ha,h1.1,mQ (by rw [<- hx.len,<- h3.len];exact hl) (by decide),k _ _ P s (mk _ (BJ hx h3.z)) Fv⟩
  ·cases e
 ·cases e
end
def Ze (i:Nat) (p:Dv->Dv->Dv->Option Dv) (f:Ev Dv) (fk:Ev (List Dv)):Es:=fun R m k=>f R m fun d m1=>fk R m1 fun ks m2=>match ks with | [j]=>(p (m2.at i) j d).bind fun y=>k.nx (m2.set i y) | _=>none
def Ay (x k d:Dv):Option Dv:=match x,k with
 | .lst xs,.int k=>(Nb xs.length k).bind fun j=>some (.lst (xs.set j d))
 | .dct ks ds,k=>(JJ k).bind fun k=>if ks.length<=1000000 then some (.dct (Uz k ks) (Ux k d ks ds)) else none
 | _,_=>none
def eD (K:W.Frag) (p:Dv->Dv->Dv->Option Dv) (T:OL):Prop:=∀ g H x v P j vj d u y (Q:Hp->Prop),Zd g H->Rep K g H 1 x v P->RA K g H [j] [vj]->Rep K g H 0 d u nop->p x j d=some y->(∀ H' P',Step g P H g P' H'->Rep K g H' 1 y v P'->Q H')->T v vj u H Q
theorem aV {K:W.Frag}:eD K Ay (fun o i v H Q=>TK o i v H Q\/lE o i v H Q):=fun g H x v P j vj d u y Q zd rx rj rd e q=>by
 unfold Ay at e;split at e
 ·rename_i xs kk;obtain ⟨jj,ej,e⟩:=bind_some' e;cases e;obtain ⟨a,vs,rfl,ha,hz,hx,hP,go⟩:=FC rx;unfold RA at rj;obtain ⟨w,wr,o,Po,ew,_,rw',_⟩:=rj;cases ew;rw [rep_int rw'];obtain ⟨s,hd,mk⟩:=go (vs.set jj u);exact .inl ⟨a,vs,kk,jj,rfl,rfl,ha,by rw [<- hx.len];exact ej,q _ P s (mk _ (QM jj hx rd))⟩
 ·rename_i ks ds;obtain ⟨k,ek,e⟩:=bind_some' e;split at e
  ·rename_i hl;cases e;obtain ⟨a,us,rfl,ha,hl2,hx,go⟩:=XJ rx;unfold RA at rj;obtain ⟨w,wr,o,Po,ew,_,rw',_⟩:=rj;cases ew;obtain ⟨us',e1,e2,e3⟩:=Uy (k:=k) hl2 hx rd;obtain ⟨s,mk⟩:=go _ _ us' e3 e2;refine .inr ⟨a,_,rfl,?_,q _ P s mk⟩;rw [KN rw' ek,<- e1];refine Vz.k ha ?_;have:(ks.zip us).length<=ks.length:=by rw [List.length_zip];omega
   have z:(1000000:Nat) < sizeLine:=by decide
   omega
  ·cases e
 ·cases e
section
variable {K:W.Frag} {F:Fr} {Γl:Option Gm} {Γ Γ1 Γ':Gm} {js js2:List Nat} {i:Nat} {f:Ev Dv} {a:Ar} {p:Dv->Dv->Dv->Option Dv} {T:OL}
theorem Sw (hp:eD K p T) (c:AC Γ1 [a] Γ' js2) (h0:∃ o,Γ1[i]?=some (some o)) (hi:Γ'[i]?=some (some 1)) {D:Ends} {σ:St} {H:Hp} (h:tS K F Γl Γ (some Γ') (js++(js2++[i])) (Ze i p f (AQ [a])) D σ H):Mt (tE K Γ 0 Γ1 js f) (hX (HA i) (IK K a) T) D σ H:=by
 obtain ⟨g,m,P,r,R,k,res,e,q⟩:=h;refine ⟨g,m,P,r,R,_,res,e,fun d m1 g1 P1 Pv u H1 hk ag s rv r1 n=>?_⟩;obtain ⟨o0,h0⟩:=h0;obtain ⟨v0,P0,ev0,_,_⟩:=r1.see h0;refine ⟨v0,ev0,?_⟩;have rz:=rv.z;have s':Step g P H g1 P1 H1:=s.less fun _ z=>.inl z
 have key:BY K [a] σ H1 fun vs H2=>∃ w,vs=[w]/\T v0 w u H2 fun H3=>D.nx σ H3:=by
  refine AM [a] r1 c hk fun ds m2 g2 P2 vs H2 hk2 ag2 s2 ar r2=>?_
  have al:=ar.len;have ra:=ar.ra r2
  match ds,al.1,hk2,ra with
  | [j],_,hk2,ra =>
   have ra0:=ra;unfold RA at ra;obtain ⟨w,wr,o,Po,rfl,_,h1,h2⟩:=ra;unfold RA at h2;subst h2;obtain ⟨y,e1,e2⟩:=bind_some' hk2;obtain ⟨v,Pa,Pr,ev,em,rx,r3,n3,hP⟩:=r2.take hi;rw [ev0] at ev;cases ev;refine ⟨w,rfl,hp g2 H2 _ v0 Pa j w d u y _ r2.zd rx ra0 (rz.held s2 r1.fpOk fun _ z=>z.elim) e1 fun H3 P' s3 ry=>?_⟩;have r4:=r3.held s3 rx.fpOk fun a q z=>n3 a z q
   have n4:=s3.out r3.fpOk fun a q z=>n3 a z q
   obtain ⟨P5,r5,sp⟩:=r4.putIn (mB.mp hi).1 ev0 ry fun a q z=>n4 a z q
   rw [HM hi] at r5;exact q.nx Γ' _ g2 P5 σ H3 rfl e2 (ag.trans (ag2.trans Bg.set)) ((s'.trans s2).trans ((s3.frame (R:=Pr)).sub (fun a z=>(hP a).mpr z) fun a z=>sp a z)) Io.refl r5
 have mono:∀ (Q1 Q2:VK),(∀ v H,Q1 v H->Q2 v H)->IK K a σ H1 Q1->IK K a σ H1 Q2:=by
  intro Q1 Q2 h12 t;cases a with
  | ev Γa Γb ja fa =>
   obtain ⟨g,m,P,r,R,k,res,e,q⟩:=t;exact ⟨g,m,P,r,R,k,res,e,fun d m' g' P' Pv v H' h1 h2 h3 h4 h5 h6=>h12 _ _ (q d m' g' P' Pv v H' h1 h2 h3 h4 h5 h6)⟩
  | rf i=>obtain ⟨v,e,q⟩:=t;exact ⟨v,e,h12 _ _ q⟩
 refine mono _ _ (fun v H2 z=>?_) key;obtain ⟨w,ew,z⟩:=z;cases ew;exact z
end
def Ud (T:String) (a:Ar) (as:List Ar) (p:Pr):Ev Dv:=match a with
 | .rf i=>fun R m k=>Dj T (m.at i) (AQ as R m fun ds m1=>(p (m1.at i::ds)).bind fun d=>k d m1)
 | .ev _ _ _ f=>fun R m k=>f R m fun x m1=>Dj T x (AQ as R m1 fun ds m2=>(p (x::ds)).bind fun d=>k d m2)
def eI (r:V->List V->Hp->VK->Prop):Rl:=fun vs H Q=>match vs with | x::us=>r x us H Q | _=>False
theorem bw {K:W.Frag} {σ:St} {H:Hp} {Γ Γ':Gm} {js:List Nat} {T:String} {a:Ar} {as:List Ar} {p:Pr} {o:Nat} {r:V->List V->Hp->VK->Prop} (hp:AK K p o (eI r)) (hT:T = "list" \/ T = "str" \/ T = "int" \/ T = "dict") (c:AC Γ (a::as) Γ' js) {Q:VK}
    (h:tE K Γ o Γ' js (Ud T a as p) σ H Q):fI K T r (IK K a) (BY K as) σ H Q:=by
  obtain ⟨g,m,P,rl,R',k,res,e,q⟩:=h;cases a with
  | rf i =>
    obtain ⟨e0,e⟩:=Di e;unfold AC at c;obtain ⟨⟨o0,h0⟩,⟨o1,hl1,h1⟩,c⟩:=c;obtain ⟨v0,P0,ev0,rv0,_⟩:=rl.see h0;refine ⟨v0,ev0,Mm rv0 e0 hT,AM as rl c e fun ds m1 g1 P1 vs H1 hk ag s ar r1=>?_⟩;obtain ⟨d,e1,e2⟩:=bind_some' hk;obtain ⟨v1,P1',ev1,rv1,_⟩:=r1.see h1;rw [ev0] at ev1;cases ev1;refine hp g1 H1 _ (v0::vs) d Q r1.zd (by unfold RA;exact ⟨v0,vs,o1,P1',rfl,hl1,rv1,ar.ra r1⟩) e1 fun v H2 nw=>?_
    obtain ⟨Pv,s2,h1,r2,n2⟩:=AY.go s r1 nw;exact q d m1 g1 P1 Pv v H2 e2 ag s2 h1 r2 n2
  | ev Γ1 Γ2 js1 f =>
    unfold AC at c;obtain ⟨rfl,js2,rfl,c⟩:=c;refine ⟨g,m,P,rl,R',_,res,e,fun x m1 g1 P1 Pv v0 H1 hk ag s rv r1 n=>?_⟩;obtain ⟨e0,hk⟩:=Di hk;have rz:=rv.z;have s':Step g P H g1 P1 H1:=s.less fun _ z=>.inl z
    refine ⟨Mm rz e0 hT,AM as r1 c hk fun ds m2 g2 P2 vs H2 hk2 ag2 s2 ar r2=>?_⟩;obtain ⟨d,e1,e2⟩:=bind_some' hk2;refine hp g2 H2 _ (v0::vs) d Q r2.zd (by unfold RA;exact ⟨v0,vs,0,nop,rfl,by decide,rz.held s2 r1.fpOk fun _ z=>z.elim,ar.ra r2⟩) e1 fun v H3 nw=>?_
    obtain ⟨Pw,s3,h1,r3,n3⟩:=AY.go (s'.trans s2) r2 nw;exact q d m2 g2 P2 Pw v H3 e2 (ag.trans ag2) s3 h1 r3 n3
theorem Xc {K:W.Frag} {σ:St} {H:Hp} {Γ Γ':Gm} {js:List Nat} {a:Ar} {as:List Ar} {p:Pr} {o:Nat} {r:V->List V->Hp->VK->Prop} (hp:AK K p o (eI r)) (c:AC Γ (a::as) Γ' js) {Q:VK}
    (h:tE K Γ o Γ' js (Ud "tuple" a as p) σ H Q):je r (IK K a) (BY K as) σ H Q:=by
  obtain ⟨g,m,P,rl,R',k,res,e,q⟩:=h
  have ty:∀ {g:G} {H:Hp} {o:Nat} {d:Dv} {v:V} {P:Fp},Rep K g H o d v P->kind d = "tuple" -> ∃ a us,v=.ref a/\H a=some (.tup us):=fun {g H o d v P} h e=>by
    cases d with
    | tup ds=>unfold Rep at h;obtain ⟨a,vs,rfl,h1,_⟩:=h;exact ⟨a,vs,rfl,h1⟩
    | _=>simp [kind] at e
  cases a with
  | rf i =>
    obtain ⟨e0,e⟩:=Di e;unfold AC at c;obtain ⟨⟨o0,h0⟩,⟨o1,hl1,h1⟩,c⟩:=c;obtain ⟨v0,P0,ev0,rv0,_⟩:=rl.see h0;refine ⟨v0,ev0,ty rv0 e0,AM as rl c e fun ds m1 g1 P1 vs H1 hk ag s ar r1=>?_⟩;obtain ⟨d,e1,e2⟩:=bind_some' hk;obtain ⟨v1,P1',ev1,rv1,_⟩:=r1.see h1;rw [ev0] at ev1;cases ev1;refine hp g1 H1 _ (v0::vs) d Q r1.zd (by unfold RA;exact ⟨v0,vs,o1,P1',rfl,hl1,rv1,ar.ra r1⟩) e1 fun v H2 nw=>?_
    obtain ⟨Pv,s2,h1,r2,n2⟩:=AY.go s r1 nw;exact q d m1 g1 P1 Pv v H2 e2 ag s2 h1 r2 n2
  | ev Γ1 Γ2 js1 f =>
    unfold AC at c;obtain ⟨rfl,js2,rfl,c⟩:=c;refine ⟨g,m,P,rl,R',_,res,e,fun x m1 g1 P1 Pv v0 H1 hk ag s rv r1 n=>?_⟩;obtain ⟨e0,hk⟩:=Di hk;have rz:=rv.z;have s':Step g P H g1 P1 H1:=s.less fun _ z=>.inl z
    refine ⟨ty rz e0,AM as r1 c hk fun ds m2 g2 P2 vs H2 hk2 ag2 s2 ar r2=>?_⟩;obtain ⟨d,e1,e2⟩:=bind_some' hk2;refine hp g2 H2 _ (v0::vs) d Q r2.zd (by unfold RA;exact ⟨v0,vs,0,nop,rfl,by decide,rz.held s2 r1.fpOk fun _ z=>z.elim,ar.ra r2⟩) e1 fun v H3 nw=>?_
    obtain ⟨Pw,s3,h1,r3,n3⟩:=AY.go (s'.trans s2) r2 nw;exact q d m2 g2 P2 Pw v H3 e2 (ag.trans ag2) s3 h1 r3 n3
def evOr (f g:Ev Dv):Ev Dv:=fun R m k=>(f R m k).or (g R m k)
theorem aI {K:W.Frag} {Γ Γ':Gm} {js:List Nat} {σ:St} {H:Hp} {o:Nat} {f g:Ev Dv} {Q:VK} (h:tE K Γ o Γ' js (evOr f g) σ H Q):tE K Γ o Γ' js f σ H Q\/tE K Γ o Γ' js g σ H Q:=by
 obtain ⟨g0,m,P,r,R,k,res,e,q⟩:=h;unfold evOr at e;cases e1:f R m k with
 | some z=>rw [e1] at e;exact .inl ⟨g0,m,P,r,R,k,z,e1,by cases e;exact q⟩
 | none=>rw [e1] at e;exact .inr ⟨g0,m,P,r,R,k,res,e,q⟩
end R
namespace L2
open PySem PySem.Spec PyProof.Rows
open AutoSeq1 (wpAny_loadPart')
section
variable {prog:Program} {w:World} {A:Around} {E:Value->Shared->Prop} {s:Shared}
theorem IU {r:Addr} {a b c:Int} {t u v:Tok} {n:Nat} {Q:List Value->Shared->Prop} (hh:A.handled=none) (hr:IsRange s.heap r a b c t u v) (hsmall:Builtin.Range.small a b c=true) (hn:Builtin.Range.rangeSize a b c=n) (hlen:n<=2 ^ 20)
    (hQ:∀ (h':Heap) (tk:Nat) (acc:Array Value),(∀ b o,s.heap.get? b=some o->h'.get? b=some o)->ItemsOf (fun i v=>∃ t,v=.int (a+i * c) t) acc n->Q acc.toList { s with heap:=h',toks:=tk }):wpAny (model prog w) A (collect (.ref r)) Q E s:=by
  unfold collect;refine wpAny_bind (wpAny_runValue (codeAny_builtin F.entry_proto_collect ?_));rw [Around.under_plainId F.plain_proto_collect _]
  show wpAny _ A.in1 (newList [] >>= fun l=>again (.builtin "list.__iadd__" ⟨[l,.ref r],[]⟩)) _ _ s
  refine wpAny_bind (wpAny_newObj_type ?_);refine wpAny_pure ⟨plainId_quiet F.plain_list_iadd _,codeAny_builtin F.entry_list_iadd ?_⟩;rw [Around.under_plainId F.plain_list_iadd _]
  have hS:(s.heap.push { cls:=.type "list", data:=.seq ([]:List Value).toArray }).get? s.heap.objs.size=some { cls:=.type "list", data:=.seq #[] 0 }:=mK _ rfl
  show wpAny _ A.in1 (Builtin.List.listExtendWith (.ref s.heap.objs.size) (.ref r) (.ref s.heap.objs.size)) _ _ _;refine wpAny_extend_range (A:=A) (prog:=prog) (w:=w) (R:=fun r s'=>match r with
    | Except.ok (Flow.ret v)=>wpAny (model prog w) A (match v with
      | Value.ref a=>do
        let o <- load a
        match o.data with
        | Data.seq xs _=>pure xs.toList
        | _=>unsupported "internal:collect"
      | _=>unsupported "internal:collect") Q E s'
    | Except.ok _=>False
    | Except.error e=>E e s') (s:={ s with heap:=s.heap.push { cls:=.type "list", data:=.seq ([]:List Value).toArray } }) hh (lx _ hr) hsmall hn (by omega) s.heap.objs.size (.ref s.heap.objs.size) 0 hS fun h' tk acc' c' hk hS' hacc=>?_
  show wpAny _ A (load s.heap.objs.size >>= _) _ _ _;refine wpAny_bind (wpAny_load hS' ?_);exact wpAny_pure (hQ h' tk acc' (fun b o e=>hk b o (mh (mO e)) (lx _ e)) hacc)
end
theorem DM (r:Addr) (a b c:Int) (t u v:Tok) (n:Nat) (hsmall:Builtin.Range.small a b c=true) (hn:Builtin.Range.rangeSize a b c=n) (hlen:n<=2 ^ 20) :
    Meets (Builtin.«tuple.__new__» ⟨[.type "tuple", .ref r],[]⟩)
      (fun A R s=>A.handled=none/\IsRange s.heap r a b c t u v/\∀ (h':Heap) (tk:Nat) (acc:Array Value),(∀ b o,s.heap.get? b=some o->h'.get? b=some o)->ItemsOf (fun i v=>∃ t,v=.int (a+i * c) t) acc n ->
        R (.ok (.ret (.ref h'.objs.size))) { s with heap:=h'.push { cls:=.type "tuple", data:=.seq acc },toks:=tk }):=
  .of_wp fun prog w A R s h=>by
    obtain ⟨hh,hr,h⟩:=h;have hsub:=sub_tuple_self;have hinit:=init_tuple_lookup;have hmh:=madeHere_tuple
    have hT:s.TypeIs (.ref r) "range" := ⟨_,hr,rfl⟩
    have hh1:A.in1.handled=none:=hh
    wp_walk using wpAny_typeOf hT,IU hh1 hr hsmall hn hlen
    intro h' tk acc hk hacc;show wpAny _ _ (Builtin.Tuple.tupleExact acc.toList.toArray >>= fun v=>ret v) _ _ _;unfold Builtin.Tuple.tupleExact;refine wpAny_bind (wpAny_newObj_type ?_ (show acc.toList.toArray.size<=sizeLine by simp only [Array.toArray_toList];rw [hacc.1,sizeLine_eq];omega));refine wpAny_pure ⟨_,rfl,?_⟩;have e:acc.toList.toArray=acc:=by simp
    rw [e];exact h h' tk acc hk hacc
theorem GJ {prog:Program} {w:World} {A:Around} {E:Value->Shared->Prop} {s:Shared} {Q:Value->Shared->Prop} {r:Addr} {a b c:Int} {t u v:Tok} {n:Nat} (hh:A.handled=none) (hr:IsRange s.heap r a b c t u v) (hsmall:Builtin.Range.small a b c=true) (hn:Builtin.Range.rangeSize a b c=n) (hlen:n<=2 ^ 20)
    (h:∀ (h':Heap) (tk:Nat) (acc:Array Value),(∀ b o,s.heap.get? b=some o->h'.get? b=some o)->ItemsOf (fun i v=>∃ t,v=.int (a+i * c) t) acc n->Q (.ref h'.objs.size) { s with heap:=h'.push { cls:=.type "tuple", data:=.seq acc },toks:=tk }) :
    wpAny (model prog w) A (call (.type "tuple") [.ref r]) Q E s:=by
  refine callType_new F.called_tuple (by decide) (F.typeCall_tuple_1 _) (F.newCall_tuple_1 _) (fun obj=>F.args_object_init_2 obj _) F.entry_tuple_new
    (DM r a b c t u v n hsmall hn hlen) ⟨hh,hr,fun h' tk acc hk hacc=>⟨⟨_,mK _ rfl,rfl⟩,h h' tk acc hk hacc⟩⟩
section
variable {X:Cx} {p1 p2 pos1 pos2:Pos} {es:List Expr} {e:Expr} {ta:TA}
abbrev Oc (ta:TA):TE:=fun σ H Q=>ta σ H fun vs H1=>∃ (i j:Int),(vs=[.int j]/\i=0\/vs=[.int i,.int j])/\(-(2 ^ 62)<=i/\i < 2 ^ 62/\-(2 ^ 62)<=j/\j < 2 ^ 62)/\(j - i).toNat<=1000000/\∀ l,H1 l=none->Q (.ref l) (upd H1 l (.tup ((List.range (j - i).toNat).map fun k=>.int (i+(k:Nat)))))
theorem JE {A:Around} {E:Value->Shared->Prop} {pins:List (Addr×Obj)} {σ:St} {H:Hp} {s:Shared} {Q:VK} {i j:Int} {t u v:Tok} {tk:Nat} (hh:A.handled=none) (I:Inv X pins σ H s) (h1:-(2 ^ 62)<=i) (h2:i < 2 ^ 62) (h3:-(2 ^ 62)<=j) (h4:j < 2 ^ 62) (hl:(j - i).toNat<=1000000)
    (q:∀ l,H l=none->Q (.ref l) (upd H l (.tup ((List.range (j - i).toNat).map fun k=>.int (i+(k:Nat)))))) :
    wpAny (model X.prog X.w) A (call (.type "tuple") [.ref s.heap.objs.size]) (fun v s'=>∃ x H',Inv X pins σ H' s'/\RelV x v/\Q x H') E { s with heap:=s.heap.push { cls:=.type "range", data:=.fields #[.int i t,.int j u,.int 1 v] },toks:=tk }:=by
  have hr:Builtin.Range.rangeSize i j 1=((j - i).toNat:Nat):=by rw [rangeSize_one];split<;>omega
  refine GJ (n:=(j - i).toNat) hh (IsRange.new ..) (small_one h1 h2 h3 h4) hr (by omega) fun h' tk' acc hk hacc=>?_
  have kp:∀ b o,s.heap.get? b=some o->h'.get? b=some o:=fun b o e=>hk b o (lx _ e)
  have hsz:(s.heap.push { cls:=.type "range", data:=.fields #[.int i t,.int j u,.int 1 v] }).objs.size=s.heap.objs.size+1:=mn ..
  have hv:AE ((List.range (j - i).toNat).map fun k=>V.int (i+(k:Nat))) acc.toList:=by
    have:∀ (n m:Nat) (l:List Value),l.length=n->(∀ (q:Nat) (v:Value),l[q]?=some v->∃ t,v=.int (i+((m+q:Nat):Int)) t)->AE ((List.range' m n).map fun k=>V.int (i+(k:Nat))) l:=by
      intro n
      induction n with
      | zero=>intro m l e _;cases l with | nil=>exact .nil | cons a b=>cases e
      | succ n ih =>
        intro m l e h;cases l with
        | nil=>cases e
        | cons a b =>
          rw [pM,mJ];refine .cons ?_ (ih (m+1) b (by simpa using e) fun q v hv=>?_)
          · obtain ⟨t,rfl⟩:=h 0 a rfl;exact ⟨t,rfl⟩
          · obtain ⟨t,rfl⟩:=h (q+1) v (by simpa using hv);exact ⟨t,by rw [Nat.add_assoc,Nat.add_comm 1 q]⟩
    rw [List.range_eq_range'];refine this (j - i).toNat 0 acc.toList (by simp [hacc.1]) fun q v hv=>?_
    obtain ⟨t,e⟩:=hacc.2 q v (by simpa using hv);exact ⟨t,by rw [e];simp⟩
  have I1:Inv X pins σ H { s with heap:=h',toks:=tk' }:=I.kept (t':=tk') kp;refine ⟨.ref h'.objs.size,_,I1.laid (t':=tk') (fun b o e=>lx _ e) (mF _) (show Aa X.prog X.w _ _ _ (.tup ((List.range (j - i).toNat).map fun k=>.int (i+(k:Nat)))) from ⟨by rw [mX,oO];exact mQ hl (show 1000000<=sizeLine by decide),acc.toList,hv,?_⟩),rfl,q _ (I1.hok.fresh (mF _))⟩;have:=FQ.new h' acc;have e:acc.toList.toArray=acc:=by simp
  rw [e];exact this
theorem QW (hc:X.calm=true) (hgL:Gl X "tuple") (hmL:X.mg "tuple" = none) (hgR:Gl X "range") (hmR:X.mg "range" = none) (ha:PA X (e::es) ta)
    (hs1:starEach [.Call (.Name "range" p2) (e::es) [] pos2] X.env=(false,eval (.Call (.Name "range" p2) (e::es) [] pos2) X.env)::starEach [] X.env:=by rfl)
    (hpl1:(backTo pos1 (starEach [] X.env)).any (·.1)=false:=by rfl)
    (hs2:starEach (e::es) X.env=(false,eval e X.env)::starEach es X.env:=by rfl) (hpl2:(backTo pos2 (starEach es X.env)).any (·.1)=false:=by rfl) :
    PE X (.Call (.Name "tuple" p1) [.Call (.Name "range" p2) (e::es) [] pos2] [] pos1) (Oc ta):=by
  intro pins s σ H Q I h;refine wpAny_Call_Name_kw (Bc I hgL hmL PyProof.Rows.Boot.«tuple» ?_ (by decide) (by decide));refine mi ?_ hs1 hpl1;rw [hs1]
  show wpAny _ _ (spliced ((false,eval (.Call (.Name "range" p2) (e::es) [] pos2) X.env)::backTo pos1 (starEach [] X.env))) _ _ s
  refine Calls.spliced_cons ?_;refine wpAny_Call_Name_kw (Bc I hgR hmR boot_range ?_ (by decide) (by decide));refine mi (Ap (ha pos2 pins s σ H _ I h) fun us s1 ⟨vs,H1,I1,r1,q1⟩=>?_) hs2 hpl2;obtain ⟨i,j,ev,⟨b1,b2,b3,b4⟩,hl,q⟩:=q1;rcases ev with ⟨ev,rfl⟩ | ev
  · subst ev;cases r1 with
    | cons r rr =>
      cases rr;obtain ⟨t,rfl⟩:=r;refine call_range_1 (Calls.spliced_nil ?_);exact JE (I1.ok.hd hc) I1 b1 b2 b3 b4 hl q
  · subst ev;cases r1 with
    | cons r rr =>
      cases rr with
      | cons r' rr =>
        cases rr;obtain ⟨t,rfl⟩:=r;obtain ⟨t',rfl⟩:=r';refine call_range_2 (Calls.spliced_nil ?_);exact JE (I1.ok.hd hc) I1 b1 b2 b3 b4 hl q
end
end L2
namespace R
open PySem L2
def Gx (X:Cx):Prop:=X.calm=true/\∃ j,Room j X.A
noncomputable def two {α:Type} (f:Dv->Dv->Option α) (ds:List Dv):Option α:=match ds with | [a,b]=>f a b | _=>none
noncomputable def one {α:Type} (f:Dv->Option α) (ds:List Dv):Option α:=match ds with | [a]=>f a | _=>none
noncomputable def Aq:Expr->Bool
 | .Starred _ _=>false
 | _=>true
structure BinE where
 op:Operator
 f:Dv->Dv->Option Dv
 ok:∀ X,Gx X->∃ r,CH X (binaryOp op) r/\AK X.K (two f) 1 (Jm r)
structure CmpE where
 op:CmpOp
 f:Dv->Dv->Option Bool
 ok:∀ X,Gx X->∃ r,CH X (compareOp op) r/\AK X.K (fun ds=>(two f ds).map .bl) 0 (Jm r)
structure CallE where
 x:Str
 n:Nat
 o:Nat
 f:List Dv->Option Dv
 ok:∀ X,Gx X->∃ r,AK X.K f o r/\((∃ id,BM X (.builtin id) r/\bootBuiltins x=some (.builtin id))\/∃ T,BM X (.type T) r/\bootBuiltins x=some (.type T))
abbrev lG (T:String):Prop:=T = "list" \/ T = "str" \/ T = "int" \/ T = "dict"
structure MethE where
 x:Str
 n:Nat
 T:String
 o:Nat
 f:List Dv->Option Dv
 hT:lG T\/T = "tuple" /\ n=1
 ok:∀ X,Gx X->∃ id r,PlainAttrs T/\Slot T x id/\typeOf (.builtin id)=pure (.type "method_descriptor")/\eE X id r/\AK X.K f o (eI r)
structure MutE where
 x:Str
 n:Nat
 T:String
 p:Mu
 hT:lG T
 ok:∀ X,Gx X->∃ id r,PlainAttrs T/\Slot T x id/\typeOf (.builtin id)=pure (.type "method_descriptor")/\eE X id r/\Rm X.K p r
noncomputable def KO:Expr->Bool
 | .Tuple _ _ _=>true
 | _=>false
structure SrcE where
 x:Str
 n:Nat
 tt:Bool
 f:List Dv->Option (List Dv)
 ok:∀ X,Gx X->∃ r,ON X.K f r/\∀ tg es p pos ta,(tt=true->KO tg=true)->es.length=n->es.all Aq=true->Gl X x->X.mg x=none->PA X es ta->PI X tg (.Call (.Name x p) es [] pos) (ZW r ta)
def lD:Rl:=fun vs H1 Q=>LN (fun _ H R=>R vs H) [] H1 Q
def lB:Rl:=fun vs H1 Q=>Oc (fun _ H R=>R vs H) [] H1 Q
def lC (K:W.Frag):R2:=fun x y H2 Q=>∃ a xs b,x=.ref a/\y=.int (-1)/\DO K H2 a xs b/\∀ p,H2 p=none->Q (.ref p) (upd H2 p (bif b then .tup xs.reverse else .lst xs.reverse))
def lZ (K:W.Frag):V->Hp->VK->Prop:=fun v H1 Q=>∃ a xs,v=.ref a/\DA K H1 a xs/\∀ l,H1 l=none->Q (.ref l) (upd H1 l (.lst xs.reverse))
structure Tb where
 bins:List BinE
 cmps:List CmpE
 calls:List CallE
 meths:List MethE
 muts:List MutE
 srcs:List SrcE
 ix:Dv->Dv->Option Dv
 ixok:∀ X,Gx X->∃ r,Rn X r/\AK X.K (two ix) 0 (Jm r)
 sl:Dv->Option Int->Option Int->Option Dv
 slok:∀ X,Gx X->∃ r,Ru X r/\∀ lo hi,AK X.K (one fun d=>sl d lo hi) 1 (jD fun x H Q=>r x lo hi H Q)
 tru:Dv->Option Bool
 trok:∀ K g H o d v P b,Rep K g H o d v P->tru d=some b->Vv K v H b
 lr:List Dv->Option Dv
 lrok:∀ X,Gx X->AK X.K lr 1 lD
 tr:List Dv->Option Dv
 trrok:∀ X,Gx X->AK X.K tr 1 lB
 rv:Dv->Dv->Option Dv
 rvok:∀ X,Gx X->AK X.K (two rv) 1 (Jm (lC X.K))
 lv:Dv->Option Dv
 lvok:∀ X,Gx X->AK X.K (one lv) 1 (jD (lZ X.K))
 st:Dv->Dv->Dv->Option Dv
 stok:∀ X,Gx X->∃ T,Kz X T/\eD X.K st T
structure Cf:Type 1 where
 N:List Str
 sc:Scope
 fn:Str->Bool
 fs:List (Str×Sig)
 cs:List (Str×Dv)
 bl:List Str
 T:Tb
 F:Fr
structure Cok (C:Cf) (X:Cx):Prop where
 N:X.N=C.N
 sc:X.env.scope=C.sc
 nd:X.N.Nodup
 calm:X.calm=true
 fn:∀ x,C.fn x=true->X.fn x=true
 room:Gx X
 fs:∀ x s,(x,s)∈C.fs->s.io.Nodup/\(∀ i∈s.io,i < s.ps.length)/\∃ j k,j<=k/\Room k X.A/\Fx X.prog X.w X.K X.mg X.base j x s.ps (QJ X.K s)
 cs:∀ x d,(x,d)∈C.cs->∃ v u,X.mg x=some u/\RelV v u/\∀ g H,Rep X.K g H 0 d v nop
 bl:∀ x∈C.bl,X.mg x=none
 xe:X.xe=fun _ _=>False
noncomputable def DC:List Str->Str->Option Nat
 | [],_=>none
 | y::r,x=>if y == x then some 0 else (DC r x).map (·+1)
theorem Bj:∀ {N:List Str} {x:Str} {i:Nat},DC N x=some i->N[i]?=some x
 | [],_,_,h=>by cases h
 | y::r,x,i,h=>by
  unfold DC at h;split at h
  ·rename_i e;cases h;rw [beq_iff_eq.mp e];rfl
  ·cases q:DC r x with
   | none=>rw [q] at h;cases h
   | some j=>rw [q] at h;cases h;simpa using Bj q
noncomputable def UQ (sc:Scope) (x:Str):Bool:=match sc.names.lookup x with
 | some .local=>true
 | some .cell=>true
 | some .free=>true
 | _=>false
noncomputable def Ho (sc:Scope) (x:Str):Bool:=match sc.names.lookup x with
 | some .globalImplicit=>true
 | _=>false
noncomputable def Tz (x:Str):Bool:=!(x == ("__debug__" : Str)) && !(x == ("__classdict__" : Str)) && !(x == ("__name__" : Str))
def lv (C:Cf) (x:Str):Option Nat:=if UQ C.sc x && Tz x then DC C.N x else none
def Xe (C:Cf) (e:Expr):Option Nat:=match e with
 | .Name x _=>lv C x
 | _=>none
theorem CQ {x:Str} (h:Tz x=true):(x == ("__debug__" : Str))=false/\(x == ("__classdict__" : Str))=false/\x ≠ "__name__" := by
 unfold Tz at h;simp only [ly,nY] at h;exact ⟨h.1.1,h.1.2,fun z=>by rw [z] at h;simp at h⟩
theorem Qq {sc:Scope} {x:Str} (h:UQ sc x=true):eT sc x:=by
 unfold UQ at h;unfold eT;split at h
 ·rename_i e;exact .inl e
 ·rename_i e;exact .inr (.inl e)
 ·rename_i e;exact .inr (.inr e)
 ·cases h
theorem Bd {X:Cx} {C:Cf} (ok:Cok C X) {x:Str} (h:Ho C.sc x=true):Gl X x:=by
 unfold Ho at h;unfold Gl Env.kindOf;rw [ok.sc];split at h
 ·rename_i e;exact e
 ·cases h
theorem ZT {X:Cx} {C:Cf} (ok:Cok C X) {x:Str} {i:Nat} {pos:Pos} (h:lv C x=some i):PE X (.Name x pos) (HA i):=by
 unfold lv at h;split at h
 ·rename_i e;rw [ly] at e;have n:=CQ e.2;exact Tn (by rw [ok.N];exact Bj h) (by rw [ok.sc];exact Qq e.1) n.1 n.2.1
 ·cases h
theorem Dg {X:Cx} {C:Cf} (ok:Cok C X) {e:Expr} {i:Nat} (h:Xe C e=some i):PE X e (HA i):=by
 cases e with
 | Name x pos=>exact ZT ok h
 | _=>cases h
structure CE:Type 1 where
 o:Nat
 Γ:Gm
 js:List Nat
 f:Ev Dv
structure CT:Type 1 where
 Γ:Gm
 js:List Nat
 f:Ev Bool
structure CA:Type 1 where
 as:List Ar
 Γ:Gm
 js:List Nat
structure CI:Type 1 where
 Γ:Gm
 js:List Nat
 f:Ev (List Dv)
structure CS:Type 1 where
 Γ:Option Gm
 js:List Nat
 f:Es
 er:Bool
 eb:Bool
 ec:Bool
structure Rec:Type 1 where
 E:Cf->Gm->Expr->Option CE
 A:Cf->Gm->List Bool->List Expr->Option CA
 T:Cf->Gm->Expr->Option CT
 I:Cf->Gm->Bool->Expr->Option CI
 S:Cf->Option Gm->Gm->Stmt->Option CS
 Ss:Cf->Option Gm->Gm->List Stmt->Option CS
abbrev SR (t:TA) (te:TE):TA:=fun σ H Q=>t σ H fun vs H1=>te σ H1 fun x H2=>Q (vs++[x]) H2
structure OkR (r:Rec):Prop where
 E:∀ {C X Γ e c},Cok C X->r.E C Γ e=some c->PE X e (tE X.K Γ c.o c.Γ c.js c.f)
 A:∀ {C X Γ md es c},Cok C X->r.A C Γ md es=some c->PA X es (BY X.K c.as)/\AC Γ c.as c.Γ c.js/\c.as.length=es.length/\es.all Aq=true/\(md=[]->evd c.as=true)
 T:∀ {C X Γ e c},Cok C X->r.T C Γ e=some c->PT X e (tT X.K Γ c.Γ c.js c.f)
 I:∀ {C X Γ e c} (tg),Cok C X->r.I C Γ (KO tg) e=some c->PI X tg e (tI X.K Γ c.Γ c.js c.f)
 S:∀ {C X Γl Γ s c},Cok C X->r.S C Γl Γ s=some c->PS X s (tS X.K C.F Γl Γ c.Γ c.js c.f)
 Ss:∀ {C X Γl Γ s c},Cok C X->r.Ss C Γl Γ s=some c->DQ X s (tS X.K C.F Γl Γ c.Γ c.js c.f)
 B:∀ {C X Γ md es c},Cok C X->r.A C Γ md es=some c->∀ {e te},PE X e te->Aq e=true->PA X (es++[e]) (SR (BY X.K c.as) te)
def eN (Γ:Gm) (i:Nat):Bool:=match Γ.getD i none with
 | some o=>decide (o<=1)
 | none=>false
theorem Hk {Γ:Gm} {i:Nat} (h:eN Γ i=true):∃ o,o<=1/\Γ[i]?=some (some o):=by
 unfold eN at h;split at h
 ·rename_i o e;exact ⟨o,of_decide_eq_true h,Be e⟩
 ·cases h
def LO (r:Rec) (C:Cf) (Γ:Gm) (md:List Bool) (es:List Expr):Option CA:=match es with
  | []=>some ⟨[],Γ,[]⟩
  | e::es=>if Aq e then
      match (if md.headD false then Xe C e else none) with
      | some i=>if (Γ.getD i none).isSome then (r.A C Γ md.tail es).bind fun c=>if eN c.Γ i then some ⟨.rf i::c.as,c.Γ,c.js⟩ else none else none
      | none=>(r.E C Γ e).bind fun c1=>(r.A C c1.Γ md.tail es).bind fun c=>some ⟨.ev Γ c1.Γ c1.js c1.f::c.as,c.Γ,c1.js++c.js⟩
    else none
theorem AG {e:Expr} {es:List Expr} {env:Env} (h:Aq e=true):starEach (e::es) env=(false,eval e env)::starEach es env:=by
 cases e<;>first | rfl | (cases h)
theorem getD_some {Γ:Gm} {i:Nat} (h:(Γ.getD i none).isSome=true):∃ o,Γ[i]?=some (some o):=by
 obtain ⟨o,e⟩:=oF.mp h;exact ⟨o,Be e⟩
theorem QH {r:Rec} (R:OkR r) {C:Cf} {X:Cx} {Γ:Gm} {md:List Bool} {es:List Expr} {c:CA} (ok:Cok C X) (h:LO r C Γ md es=some c) {e0:Expr} {te:TE} (h0:PE X e0 te) (hn0:Aq e0=true):PA X (es++[e0]) (SR (BY X.K c.as) te):=by
  cases es with
  | nil=>cases h;exact FB h0 Tv (AG hn0)
  | cons e es =>
    unfold LO at h;simp only at h;split at h
    · rename_i hs;have hst:=AG (es:=es++[e0]) (env:=X.env) hs;split at h
      · rename_i i hi;have hmd:md.headD false=true:=by
          cases q:md.headD false with
          | true=>rfl
          | false=>rw [q] at hi;cases hi
        rw [hmd] at hi;split at h
        · obtain ⟨c2,e2,h⟩:=bind_some' h;split at h
          · cases h;exact FB (Dg ok hi) (R.B ok e2 h0 hn0) hst
          · cases h
        · cases h
      · obtain ⟨c1,e1,h⟩:=bind_some' h;obtain ⟨c2,e2,h⟩:=bind_some' h;cases h;exact FB (DL (R.E ok e1)) (R.B ok e2 h0 hn0) hst
    · cases h
theorem Sh {r:Rec} (R:OkR r) {C:Cf} {X:Cx} {Γ:Gm} {md:List Bool} {es:List Expr} {c:CA} (ok:Cok C X) (h:LO r C Γ md es=some c):PA X es (BY X.K c.as)/\AC Γ c.as c.Γ c.js/\c.as.length=es.length/\es.all Aq=true/\(md=[]->evd c.as=true):=by
  cases es with
  | nil=>cases h;exact ⟨Tv,by unfold AC;exact ⟨rfl,rfl⟩,rfl,rfl,fun _=>rfl⟩
  | cons e es =>
    unfold LO at h;simp only at h;split at h
    · rename_i hs;have hst:=AG (es:=es) (env:=X.env) hs;split at h
      · rename_i i hi;have hmd:md.headD false=true:=by
          cases q:md.headD false with
          | true=>rfl
          | false=>rw [q] at hi;cases hi
        rw [hmd] at hi;split at h
        · rename_i h1;obtain ⟨c2,e2,h⟩:=bind_some' h;split at h
          · rename_i h2;cases h;obtain ⟨a1,a2,a3,a4,a5⟩:=R.A ok e2;refine ⟨FB (Dg ok hi) a1 hst,?_,by simp [a3],by simp [hs,a4],fun z=>by rw [z] at hmd;cases hmd⟩;unfold AC;exact ⟨getD_some h1,Hk h2,a2⟩
          · cases h
        · cases h
      · obtain ⟨c1,e1,h⟩:=bind_some' h;obtain ⟨c2,e2,h⟩:=bind_some' h;cases h;obtain ⟨a1,a2,a3,a4,a5⟩:=R.A ok e2;refine ⟨FB (DL (R.E ok e1)) a1 hst,?_,by simp [a3],by simp [hs,a4],fun z=>?_⟩
        · unfold AC;exact ⟨rfl,_,rfl,a2⟩
        · show evd c2.as=true;exact a5 (by rw [z];rfl)
    · cases h
def VX (Γ:Gm):Const->Option CE
 | .int i=>some ⟨1,Γ,[],MI (.int i)⟩
 | .bool b=>some ⟨1,Γ,[],MI (.bl b)⟩
 | .none=>some ⟨1,Γ,[],MI .non⟩
 | .str x=>some ⟨1,Γ,[],MI (.str x.cps.toList)⟩
 | _=>none
theorem aE (x:Str):tx x.cps.toList=x:=by
 unfold tx;cases x;rfl
theorem RX {X:Cx} {Γ:Gm} {k:Const} {c:CE} {j:Nat} {pos:Pos} (h:VX Γ k=some c):PE X (.Constant k j pos) (tE X.K Γ c.o c.Γ c.js c.f):=by
 cases k with
 | int i=>cases h;exact eM bT fun _ _=>BW
 | bool b=>cases h;exact eM gS fun _ _=>CP
 | none=>cases h;exact eM bR fun _ _=>Fv
 | str x=>cases h;exact eM bO fun _ _=>by unfold Rep;exact ⟨by rw [aE],fun _ z=>z⟩
 | _=>cases h
noncomputable def WJ (x:Str):Option String:=if x == ("int" : Str) then some "int" else if x == ("bool" : Str) then some "bool" else if x == ("str" : Str) then some "str" else if x == ("tuple" : Str) then some "tuple" else if x == ("list" : Str) then some "list" else none
theorem Py {x:Str} {T:String} (h:WJ x=some T):bootBuiltins x=some (.type T):=by
 unfold WJ at h
 repeat' split at h
 all_goals first | (rename_i e;rw [beq_iff_eq.mp e];cases h;first | exact PyProof.Rows.Boot.«int» | exact PyProof.Rows.Boot.«bool» | exact PyProof.Rows.Boot.«str» | exact PyProof.Rows.Boot.«tuple» | exact PyProof.Rows.Boot.«list») | cases h
def VW (C:Cf) (Γ:Gm) (x:Str):Option CE:=match lv C x with
  | some i=>if (Γ.getD i none).isSome then some ⟨0,Γ.set i (some 0),[],PM i⟩ else none
  | none=>if Ho C.sc x && Tz x then (match C.cs.find? fun p=>p.1 == x with
      | some p=>some ⟨0,Γ,[],MI p.2⟩
      | none=>if C.bl.contains x then (WJ x).map fun T=>⟨0,Γ,[],MI (.ty T)⟩ else none) else none
theorem VV {C:Cf} {X:Cx} {Γ:Gm} {x:Str} {c:CE} {pos:Pos} (ok:Cok C X) (h:VW C Γ x=some c):PE X (.Name x pos) (tE X.K Γ c.o c.Γ c.js c.f):=by
 unfold VW at h;split at h
 ·rename_i i hi;split at h
  ·rename_i h1;cases h;obtain ⟨o,ho⟩:=getD_some h1;exact fV (ZT ok hi) ho
  ·cases h
 ·split at h
  ·rename_i hg;rw [ly] at hg;cases q:C.cs.find? fun p=>p.1 == x with
   | none =>
    rw [q] at h;simp only at h;split at h
    ·rename_i hb;cases t:WJ x with
     | none=>rw [t] at h;cases h
     | some T =>
      rw [t] at h;cases h;exact eM (XI (v:=.ty T) (Bd ok hg.1) (ok.bl x (mM.mp hb)) (Py t) rfl (CQ hg.2).2.2 (CQ hg.2).1) fun _ _=>by unfold Rep;exact ⟨rfl,fun _ z=>z⟩
    ·cases h
   | some p =>
    rw [q] at h;cases h;have e:p.1=x:=beq_iff_eq.mp (by simpa using nM q);obtain ⟨v,u,h1,h3,h2⟩:=ok.cs p.1 p.2 (pW q);rw [e] at h1;exact eM (XF (Bd ok hg.1) h1 h3 (CQ hg.2).1) h2
  ·cases h
structure C1:Type 1 where
 a:Ar
 Γ:Gm
 js:List Nat
def Dn (r:Rec) (C:Cf) (Γ:Gm) (m:Bool) (e:Expr):Option C1:=match (if m then Xe C e else none) with
 | some i=>if (Γ.getD i none).isSome then some ⟨.rf i,Γ,[]⟩ else none
 | none=>(r.E C Γ e).bind fun c=>some ⟨.ev Γ c.Γ c.js c.f,c.Γ,c.js⟩
def DJ (a:Ar) (Γ:Gm):Bool:=match a with
 | .rf i=>eN Γ i
 | _=>true
theorem Bf {r:Rec} (R:OkR r) {C:Cf} {X:Cx} {Γ:Gm} {m:Bool} {e:Expr} {c:C1} (ok:Cok C X) (h:Dn r C Γ m e=some c):PE X e (IK X.K c.a)/\(m=false->evd [c.a]=true)/\∀ {as Γ' js},AC c.Γ as Γ' js->DJ c.a Γ'=true->AC Γ (c.a::as) Γ' (c.js++js):=by
 unfold Dn at h;split at h
 ·rename_i i hi;split at h
  ·rename_i h1;cases h;have hm:m=true:=by cases m with | true=>rfl | false=>cases hi
   subst hm;refine ⟨Dg ok hi,(fun z=>by cases z),fun ch hs=>?_⟩;unfold AC;exact ⟨getD_some h1,Hk hs,ch⟩
  ·cases h
 ·obtain ⟨c1,e1,h⟩:=bind_some' h;cases h;refine ⟨DL (R.E ok e1),fun _=>rfl,fun ch hs=>?_⟩;unfold AC;exact ⟨rfl,_,rfl,ch⟩
theorem BK {Γ:Gm}:AC Γ [] Γ []:=by unfold AC;exact ⟨rfl,rfl⟩
def Jj (r:Rec) (C:Cf) (Γ:Gm) (a b:Expr):Option (C1×C1):=(Dn r C Γ true a).bind fun x=>(Dn r C x.Γ true b).bind fun y=>if DJ x.a y.Γ && DJ y.a y.Γ then some (x,y) else none
noncomputable def jj (p:C1×C1):List Nat:=p.1.js++(p.2.js++[])
theorem FO {r:Rec} (R:OkR r) {C:Cf} {X:Cx} {Γ:Gm} {a b:Expr} {p:C1×C1} (ok:Cok C X) (h:Jj r C Γ a b=some p):PE X a (IK X.K p.1.a)/\PE X b (IK X.K p.2.a)/\AC Γ [p.1.a,p.2.a] p.2.Γ (jj p):=by
 unfold Jj at h;obtain ⟨x,e1,h⟩:=bind_some' h;obtain ⟨y,e2,h⟩:=bind_some' h;split at h
 ·rename_i z;rw [ly] at z;cases h;obtain ⟨a1,_,a2⟩:=Bf R ok e1;obtain ⟨b1,_,b2⟩:=Bf R ok e2;exact ⟨a1,b1,a2 (b2 BK z.2) z.1⟩
 ·cases h
def Rh (r:Rec) (C:Cf) (Γ:Gm) (a:Expr):Option C1:=(Dn r C Γ true a).bind fun x=>if DJ x.a x.Γ then some x else none
theorem Gn {r:Rec} (R:OkR r) {C:Cf} {X:Cx} {Γ:Gm} {a:Expr} {x:C1} (ok:Cok C X) (h:Rh r C Γ a=some x):PE X a (IK X.K x.a)/\AC Γ [x.a] x.Γ (x.js++[]):=by
 unfold Rh at h;obtain ⟨y,e1,h⟩:=bind_some' h;split at h
 ·rename_i z;cases h;obtain ⟨a1,_,a2⟩:=Bf R ok e1;exact ⟨a1,a2 BK z⟩
 ·cases h
theorem Cok.gx {C:Cf} {X:Cx} (ok:Cok C X):Gx X:=ok.room
def ig (r:Rec) (C:Cf) (Γ:Gm) (a:Expr) (op:Operator) (b:Expr):Option CE:=(C.T.bins.find? fun e=>e.op == op).bind fun en=>(Jj r C Γ a b).bind fun p=>some ⟨1,p.2.Γ,jj p,DG (two en.f) (AQ [p.1.a,p.2.a])⟩
theorem YY {r:Rec} (R:OkR r) {C:Cf} {X:Cx} {Γ:Gm} {a b:Expr} {op:Operator} {pos:Pos} {c:CE} (ok:Cok C X) (h:ig r C Γ a op b=some c):PE X (.BinOp a op b pos) (tE X.K Γ c.o c.Γ c.js c.f):=by
 obtain ⟨en,e1,h⟩:=bind_some' h;obtain ⟨p,e2,h⟩:=bind_some' h;cases h;have eo:en.op=op:=by simpa using nM e1
 obtain ⟨h1,h2,h3⟩:=FO R ok e2;obtain ⟨rr,q1,q2⟩:=en.ok X ok.gx;rw [eo] at q1;exact PE.imp (gP q1 h1 h2) fun _ _ _ h=>Ba q2 h3 h
noncomputable def IY (x:Dv):Option Dv:=match x with | .int i=>some (.int (-i)) | _=>none
theorem bC {K:W.Frag}:AK K (one IY) 1 (jD (rU fun i=>.int (-i))):=fun g H ds vs d Q zd ra e k=>by
 unfold one at e;split at e
 ·rename_i a;unfold IY at e;split at e
  ·rename_i i;cases e;unfold RA at ra;obtain ⟨v,r,o,P,rfl,_,h1,h2⟩:=ra;unfold RA at h2;subst h2;rw [rep_int h1];exact ⟨i,rfl,k _ H (AY.old BW)⟩
  ·cases e
 ·cases e
def iZ (r:Rec) (C:Cf) (Γ:Gm) (a:Expr):Option CE:=(Rh r C Γ a).bind fun x=>some ⟨1,x.Γ,x.js++[],DG (one IY) (AQ [x.a])⟩
theorem YQ {r:Rec} (R:OkR r) {C:Cf} {X:Cx} {Γ:Gm} {a:Expr} {pos:Pos} {c:CE} (ok:Cok C X) (h:iZ r C Γ a=some c):PE X (.UnaryOp .USub a pos) (tE X.K Γ c.o c.Γ c.js c.f):=by
 obtain ⟨x,e1,h⟩:=bind_some' h;cases h;obtain ⟨h1,h2⟩:=Gn R ok e1;exact PE.imp (gN aB h1) fun _ _ _ h=>Ba bC h2 h
def eO (t:CT):CE:=⟨1,t.Γ,t.js,Nl t.f⟩
def OC (r:Rec) (C:Cf) (Γ:Gm) (a:Expr) (op:CmpOp) (b:Expr):Option CT:=if behindInMarks op b then none else (C.T.cmps.find? fun e=>e.op == op).bind fun en=>(Jj r C Γ a b).bind fun p=>some ⟨p.2.Γ,jj p,Zj (two en.f) (AQ [p.1.a,p.2.a])⟩
theorem dg {K:W.Frag} {Γ Γ':Gm} {js:List Nat} {σ:St} {H:Hp} {o:Nat} {p:List Dv->Option Bool} {as:List Ar} {r:Rl} (hp:AK K (fun ds=>(p ds).map .bl) 0 r) (c:AC Γ as Γ' js) {Q:VK} (h:tE K Γ o Γ' js (Nl (Zj p (AQ as))) σ H Q):BY K as σ H fun vs H1=>r vs H1 Q:=by
 obtain ⟨g,m,P,rl,R',k,res,e,q⟩:=h;refine AM as rl c e fun ds m' g' P' vs H1 hk ag s ar r1=>?_
 obtain ⟨b,e1,e2⟩:=bind_some' hk;refine hp g' H1 ds vs (.bl b) _ r1.zd (ar.ra r1) (by show (p ds).map _=_;rw [e1];rfl) fun v H2 nw=>?_
 obtain ⟨Pv,s2,h1,r2,n2⟩:=AY.go s r1 nw;have ev:=rep_bl h1;subst ev;exact q (.bl b) m' g' P' nop _ H2 e2 ag (s2.less fun _ z=>z.elim .inl False.elim) CP r2 fun _ _ z=>z
theorem Pg {r:Rec} (R:OkR r) {C:Cf} {X:Cx} {Γ:Gm} {a b:Expr} {op:CmpOp} {pos:Pos} {c:CT} (ok:Cok C X) (h:OC r C Γ a op b=some c):PT X (.Compare a [op] [b] pos) (tT X.K Γ c.Γ c.js c.f)/\∀ o,PE X (.Compare a [op] [b] pos) (tE X.K Γ o c.Γ c.js (Nl c.f)):=by
 unfold OC at h;split at h
 ·cases h
 ·rename_i hm;rw [pO] at hm;obtain ⟨en,e1,h⟩:=bind_some' h;obtain ⟨p,e2,h⟩:=bind_some' h;cases h;have eo:en.op=op:=by simpa using nM e1
  obtain ⟨h1,h2,h3⟩:=FO R ok e2;obtain ⟨rr,q1,q2⟩:=en.ok X ok.gx;rw [eo] at q1;exact ⟨PT.imp (Wk q1 h1 h2 hm) fun _ _ _ h=>ir q2 h3 h,fun o=>PE.imp (XG q1 h1 h2 hm) fun _ _ _ h=>dg q2 h3 h⟩
noncomputable def Hd:Expr->Bool
 | .Slice _ _ _ _=>false
 | _=>true
theorem Te {b:Expr} (h:Hd b=true):Pm b:=fun o i=>by
 cases b<;>first | rfl | (cases h)
def kS (r:Rec) (C:Cf) (Γ:Gm) (a b:Expr):Option CE:=(Jj r C Γ a b).bind fun p=>some ⟨0,p.2.Γ,jj p,DG (two C.T.ix) (AQ [p.1.a,p.2.a])⟩
theorem dX {r:Rec} (R:OkR r) {C:Cf} {X:Cx} {Γ:Gm} {a b:Expr} {pos:Pos} {c:CE} (ok:Cok C X) (hb:Hd b=true) (h:kS r C Γ a b=some c):PE X (.Subscript a b pos) (tE X.K Γ c.o c.Γ c.js c.f):=by
 obtain ⟨p,e2,h⟩:=bind_some' h;cases h;obtain ⟨h1,h2,h3⟩:=FO R ok e2;obtain ⟨rr,q1,q2⟩:=C.T.ixok X ok.gx;exact PE.imp (gQ q1 h1 h2 (Te hb)) fun _ _ _ h=>Ba q2 h3 h
noncomputable def Zu {R:Type} (d:Dv) (k:Int->Option R):Option R:=match d with | .int i=>k i | _=>none
def di (o:Option (Ev Dv)):Ev (Option Int):=match o with
 | none=>fun _ m k=>k none m
 | some f=>fun R m k=>f R m fun d m1=>Zu d fun i=>k (some i) m1
def iI (p:Dv->Option Int->Option Int->Option Dv) (a:Ar) (lo hi:Option (Ev Dv)):Ev Dv:=match a with
 | .rf i=>fun R m k=>di lo R m fun l m1=>di hi R m1 fun u m2=>(p (m2.at i) l u).bind fun d=>k d m2
 | .ev _ _ _ f=>fun R m k=>f R m fun x m1=>di lo R m1 fun l m2=>di hi R m2 fun u m3=>(p x l u).bind fun d=>k d m3
def kU (r:Rec) (C:Cf) (Γ:Gm) (o:Option Expr):Option (Option (Ev Dv)×Gm×List Nat):=match o with
 | none=>some (none,Γ,[])
 | some e=>(r.E C Γ e).bind fun c=>some (some c.f,c.Γ,c.js)
def Yx (K:W.Frag) (Γ Γ':Gm) (js:List Nat) (f:Ev (Option Int)):TO:=fun σ H Q=>∃ g m P,Rel K g H Γ m σ P/\∃ (R:Type) (k:Option Int->M->Option R) (r:R),f R m k=some r /\
 ∀ b m' g' P' H',k b m'=some r->Bg js m m'->Step g P H g' P' H'->Rel K g' H' Γ' m' σ P'->Q b H'
theorem PO.imp {X:Cx} {e:Option Expr} {t t':TO} (h:PO X e t) (k:∀ σ H Q,t' σ H Q->t σ H Q):PO X e t':=fun pins s σ H Q I q=>h pins s σ H Q I (k σ H Q q)
theorem VZ {r:Rec} (R:OkR r) {C:Cf} {X:Cx} {Γ:Gm} {e:Option Expr} {p:Option (Ev Dv)×Gm×List Nat} (ok:Cok C X) (h:kU r C Γ e=some p):PO X e (Yx X.K Γ p.2.1 p.2.2 (di p.1)):=by
 cases e with
 | none =>
  cases h;exact PO.imp Wy fun σ H Q q=>by
   obtain ⟨g,m,P,r,R,k,res,e,q⟩:=q;exact q none m g P H e Bg.refl Step.refl r
 | some e =>
  obtain ⟨c,e1,h⟩:=bind_some' h;cases h;exact PO.imp (Wx (DL (R.E ok e1))) fun σ H Q q=>by
   obtain ⟨g,m,P,r,R,k,res,e,q⟩:=q;refine ⟨g,m,P,r,R,_,res,e,fun d m' g' P' Pv v H' hk ag s rv r1 n=>?_⟩;cases d<;>first | (cases hk;done) | skip
   rename_i i;exact ⟨i,rep_int rv,q (some i) m' g' P' H' hk ag (s.less fun _ z=>.inl z) r1⟩
def lJ (r:Rec) (C:Cf) (Γ:Gm) (a:Expr) (lo hi:Option Expr):Option CE:=(Dn r C Γ true a).bind fun x=>(kU r C x.Γ lo).bind fun l=>(kU r C l.2.1 hi).bind fun u=>if DJ x.a u.2.1 then some ⟨1,u.2.1,x.js++(l.2.2++u.2.2),iI C.T.sl x.a l.1 u.1⟩ else none
theorem aQ {K:W.Frag} {Γ Γ1 Γ2 Γ':Gm} {j1 j2 j3:List Nat} {p:Dv->Option Int->Option Int->Option Dv} {rr:V->Option Int->Option Int->Hp->VK->Prop} (hp:∀ lo hi,AK K (one fun d=>p d lo hi) 1 (jD fun x H Q=>rr x lo hi H Q)) {a:Ar} {lo hi:Option (Ev Dv)}
    (ha:∀ {as Γ' js},AC Γ1 as Γ' js->DJ a Γ'=true->AC Γ (a::as) Γ' (j1++js)) (hs:DJ a Γ'=true) {σ:St} {H:Hp} {Q:VK}
    (h:tE K Γ 1 Γ' (j1++(j2++j3)) (iI p a lo hi) σ H Q):kr rr (IK K a) (Yx K Γ1 Γ2 j2 (di lo)) (Yx K Γ2 Γ' j3 (di hi)) σ H Q:=by
  obtain ⟨g,m,P,r,R,k,res,e,q⟩:=h;have fin:∀ {x:Dv} {l u:Option Int} {m3:M} {g3:G} {P3:Fp} {H3:Hp} {v:V} {o:Nat} {Px:Fp},(p x l u).bind (fun d=>k d m3)=some res->Bg (j1++(j2++j3)) m m3->Step g P H g3 P3 H3->Rel K g3 H3 Γ' m3 σ P3->o<=1->Rep K g3 H3 o x v Px->rr v l u H3 Q:=fun {x l u m3 g3 P3 H3 v o Px} hk ag s r3 hlo rx=>by
    obtain ⟨d,e1,e2⟩:=bind_some' hk;refine hp l u g3 H3 [x] [v] d Q r3.zd (by unfold RA;exact ⟨v,[],o,Px,rfl,hlo,rx,by unfold RA;rfl⟩) e1 fun w H4 nw=>?_
    obtain ⟨Pv,s2,h1,r2,n2⟩:=AY.go s r3 nw;exact q d m3 g3 P3 Pv w H4 e2 ag s2 h1 r2 n2
  cases a with
  | rf i =>
    have c0:=ha (as:=[]) (Γ':=Γ1) (js:=[]) BK;have hs':=hs
    -- the slot is set ahead
    have h0:(∃ o,Γ[i]?=some (some o))/\Γ1=Γ/\j1=[]:=by
      have:=ha (as:=[.ev Γ1 Γ' (j2++j3) (fun _ m k=>k .non m)]) (Γ':=Γ') (js:=(j2++j3)++[]) (by unfold AC;exact ⟨rfl,[],rfl,BK⟩) hs;unfold AC at this;refine ⟨this.1,?_⟩;obtain ⟨_,_,c⟩:=this;unfold AC at c;refine ⟨c.1,?_⟩;obtain ⟨_,js2,e,c⟩:=c;unfold AC at c;rw [c.2] at e;have l:(j1++((j2++j3)++[])).length=((j2++j3)++[]).length:=congrArg List.length e;simp at l;exact l
    obtain ⟨⟨o0,h0⟩,rfl,rfl⟩:=h0;obtain ⟨v0,P0,ev0,rv0,_⟩:=r.see h0;refine ⟨v0,ev0,g,m,P,r,R,_,res,e,fun l m1 g1 P1 H1 hk1 ag1 s1 r1=>⟨g1,m1,P1,r1,R,_,res,hk1,fun u m2 g2 P2 H2 hk2 ag2 s2 r2=>?_⟩⟩;obtain ⟨o1,hl1,h1⟩:=Hk hs;obtain ⟨v1,Px,ev1,rv1,_⟩:=r2.see h1;rw [ev0] at ev1;cases ev1;exact fin hk2 (ag1.trans ag2) (s1.trans s2) r2 hl1 rv1
  | ev Γa Γb ja f =>
    have h0:Γa=Γ/\Γb=Γ1/\j1=ja:=by
      have:=ha (as:=[.ev Γ1 Γ1 [] (fun _ m k=>k .non m)]) (Γ':=Γ1) (js:=[]) (by unfold AC;exact ⟨rfl,[],rfl,BK⟩) rfl;unfold AC at this;obtain ⟨e1,js2,e2,c⟩:=this;unfold AC at c;obtain ⟨e3,js3,e4,c⟩:=c;unfold AC at c;rw [c.2] at e4;subst e4;simp at e2;exact ⟨e1,e3.symm,e2⟩
    obtain ⟨rfl,rfl,rfl⟩:=h0;refine ⟨g,m,P,r,R,_,res,e,fun x m1 g1 P1 Pv v H1 hk1 ag1 s1 rv r1 n1=>⟨g1,m1,P1,r1,R,_,res,hk1,fun l m2 g2 P2 H2 hk2 ag2 s2 r2=>⟨g2,m2,P2,r2,R,_,res,hk2,fun u m3 g3 P3 H3 hk3 ag3 s3 r3=>?_⟩⟩⟩;exact fin hk3 (ag1.trans (ag2.trans ag3)) (((s1.less fun _ z=>.inl z).trans s2).trans s3) r3 (by decide:0<=1) ((rv.z.held s2 r1.fpOk fun _ z=>z.elim).held s3 r2.fpOk fun _ z=>z.elim)
theorem dN {r:Rec} (R:OkR r) {C:Cf} {X:Cx} {Γ:Gm} {a:Expr} {lo hi:Option Expr} {p2 pos:Pos} {c:CE} (ok:Cok C X) (h:lJ r C Γ a lo hi=some c):PE X (.Subscript a (.Slice lo hi none p2) pos) (tE X.K Γ c.o c.Γ c.js c.f):=by
 obtain ⟨x,e1,h⟩:=bind_some' h;obtain ⟨l,e2,h⟩:=bind_some' h;obtain ⟨u,e3,h⟩:=bind_some' h;split at h
 ·rename_i hs;cases h;obtain ⟨h1,_,h2⟩:=Bf R ok e1;obtain ⟨rr,q1,q2⟩:=C.T.slok X ok.gx;exact PE.imp (To q1 h1 (VZ R ok e2) (VZ R ok e3)) fun _ _ _ h=>aQ q2 h2 hs h
 ·cases h
def iW (r:Rec) (C:Cf) (Γ:Gm) (es:List Expr):Option CE:=(r.A C Γ [] es).bind fun c=>some ⟨1,c.Γ,c.js,PN .tup (AQ c.as)⟩
def ib (r:Rec) (C:Cf) (Γ:Gm) (es:List Expr):Option CE:=(r.A C Γ [] es).bind fun c=>some ⟨1,c.Γ,c.js,PN .lst (AQ c.as)⟩
def Ub:Ev Dv:=MI (.dct [] [])
theorem AY.dct {K:W.Frag} {g:G} {H:Hp} {p:Addr} (zd:Zd g H) (hp:H p=none):AY K g H 1 (.dct [] []) (.ref p) (upd H p (.dK [])):=by
 have sm:=Da hp (.dK []);refine ⟨sm,fun b=>b=p,?_,fun a q=>q▸hp⟩;unfold Rep;exact ⟨p,[],rfl,BX,(fun z=>by cases z),(fun _ z=>zd p z hp),⟨rfl,nop,Reps.nil⟩,fun b=>⟨fun z=>⟨by decide,z⟩,fun z=>z.2⟩⟩
theorem fZ {X:Cx} {Γ:Gm} {pos:Pos}:PE X (.Dict [] [] pos) (tE X.K Γ 1 Γ [] Ub):=PE.imp Ln fun σ H Q q=>by
 obtain ⟨g,m,P,r,R,k,res,e,q⟩:=q;intro p hp;obtain ⟨Pv,s2,h1,r2,n2⟩:=AY.go Step.refl r (AY.dct r.zd hp);exact q _ m g P Pv _ _ e Bg.refl s2 h1 r2 n2
theorem YJ {r:Rec} (R:OkR r) {C:Cf} {X:Cx} {Γ:Gm} {es:List Expr} {x1:Nat} {pos:Pos} {c:CE} (ok:Cok C X) (h:iW r C Γ es=some c):PE X (.Tuple es x1 pos) (tE X.K Γ c.o c.Γ c.js c.f):=by
 obtain ⟨x,e1,h⟩:=bind_some' h;cases h;obtain ⟨a1,a2,_,_,a5⟩:=R.A ok e1;exact fW a1 a2 (a5 rfl)
theorem YS {r:Rec} (R:OkR r) {C:Cf} {X:Cx} {Γ:Gm} {es:List Expr} {pos:Pos} {c:CE} (ok:Cok C X) (h:ib r C Γ es=some c):PE X (.List es pos) (tE X.K Γ c.o c.Γ c.js c.f):=by
 obtain ⟨x,e1,h⟩:=bind_some' h;cases h;obtain ⟨a1,a2,_,_,a5⟩:=R.A ok e1;exact fY a1 a2 (a5 rfl)
def Bh:Gm->Gm->Gm
 | some a::x,some b::y=>some (if a == b then a else 0)::Bh x y
 | _::x,_::y=>none::Bh x y
 | _,_=>[]
def iG (t:Dv->Option Bool) (fa:Ev (List Dv)):Ev Bool:=Zj (one t) fa
def dM (r:Rec) (C:Cf) (Γ:Gm) (a:Expr):Option CT:=(Rh r C Γ a).bind fun x=>some ⟨x.Γ,x.js++[],iG C.T.tru (AQ [x.a])⟩
noncomputable def PC:Expr->Bool
 | .UnaryOp .Not _ _=>false
 | .BoolOp _ _ _=>false
 | .IfExp _ _ _ _=>false
 | .Compare _ _ _ _=>false
 | _=>true
theorem YK {r:Rec} (R:OkR r) {C:Cf} {X:Cx} {Γ:Gm} {a:Expr} {c:CT} (ok:Cok C X) (hv:PC a=true) (h:dM r C Γ a=some c):PT X a (tT X.K Γ c.Γ c.js c.f):=by
  obtain ⟨x,e1,h⟩:=bind_some' h;cases h;obtain ⟨h1,h2⟩:=Gn R ok e1;refine PT.imp (TN h1 fun whole=>?_) fun σ H Q h=>?_
  · cases a<;>first | rfl | (cases hv;done) | skip
    rename_i op b pos;cases op<;>first | rfl | (cases hv;done)
  · obtain ⟨g,m,P,rl,R',k,res,e,q⟩:=h;have key:BY X.K [x.a] σ H fun vs H1=>∃ w,vs=[w]/\∃ b,Vv X.K w H1 b/\Q b H1:=by
      refine AM [x.a] rl h2 e fun ds m' g' P' vs H1 hk ag s ar r1=>?_
      obtain ⟨b,e1,e2⟩:=bind_some' hk;unfold one at e1;split at e1
      · rename_i d;have ra:=ar.ra r1;unfold RA at ra;obtain ⟨w,wr,o,Po,rfl,_,h3,h4⟩:=ra;unfold RA at h4;subst h4;exact ⟨w,rfl,b,C.T.trok _ _ _ _ _ _ _ _ h3 e1,q b m' g' P' H1 e2 ag s r1⟩
      · cases e1
    revert key
    cases x.a with
    | ev Γa Γb ja fa =>
      rintro ⟨g,m,P,r,R,k,res,e,q⟩;refine ⟨g,m,P,r,R,k,res,e,fun d m' g' P' Pv v H' h1 h2 h3 h4 h5 h6=>?_⟩;obtain ⟨w,ew,z⟩:=q d m' g' P' Pv v H' h1 h2 h3 h4 h5 h6;cases ew;exact z
    | rf i =>
      rintro ⟨v,e,w,ew,z⟩;cases ew;exact ⟨v,e,z⟩
def dS (t:CT):CT:=⟨t.Γ,t.js,Zh t.f⟩
def kW (a b:CT):CT:=let Γ':=Bh a.Γ b.Γ;let js:=a.js++b.js;⟨Γ',js,Nj (BC Γ' js) (Hy a.f b.f fun _ m k=>k false m)⟩
def lq (a b:CT):CT:=let Γ':=Bh a.Γ b.Γ;let js:=a.js++b.js;⟨Γ',js,Nj (BC Γ' js) (Hy a.f (fun _ m k=>k true m) b.f)⟩
theorem gJ {X:Cx} {op:BoolOp} {vs:List Expr} {pos:Pos} {t:TT} (h:PT X (.BoolOp op vs pos) t):PW X (.BoolOp op vs pos) t:=fun wh pins s σ H Q I q=>h pins s σ H Q I q
def ZD (r:Rec) (C:Cf) (Γ:Gm) (op:BoolOp) (vs:List Expr) (pos:Pos):Option CT:=match vs with
 | []=>none
 | [a]=>r.T C Γ a
 | a::b::vs=>(r.T C Γ a).bind fun x=>(r.T C x.Γ (.BoolOp op (b::vs) pos)).bind fun y=>if Bb (Bh x.Γ y.Γ) x.Γ && Bb (Bh x.Γ y.Γ) y.Γ then some (match op with | .And=>kW x y | .Or=>lq x y) else none
theorem Sf {r:Rec} (R:OkR r) {C:Cf} {X:Cx} {Γ:Gm} {op:BoolOp} {vs:List Expr} {pos:Pos} {c:CT} (ok:Cok C X) (h:ZD r C Γ op vs pos=some c):PT X (.BoolOp op vs pos) (tT X.K Γ c.Γ c.js c.f):=by
 match vs,h with
 | [],h=>cases h
 | [a],h =>
  cases op with
  | And=>exact PW.pt (Wj (R.T ok h))
  | Or=>exact PW.pt (av (R.T ok h))
 | a::b::vs,h =>
  obtain ⟨x,e1,h⟩:=bind_some' h;obtain ⟨y,e2,h⟩:=bind_some' h;split at h
  ·rename_i hw;rw [ly] at hw;have ha:=R.T ok e1;have hb:=gJ (R.T ok e2);have jk:∀ (i o:Nat),(Bh x.Γ y.Γ)[i]?=some (some o)->i∈BC (Bh x.Γ y.Γ) (x.js++y.js)\/i∉x.js++y.js:=fun i o h=>BQ h
   cases op with
   | And =>
    cases h;exact PW.pt (PW.imp (aw ha (PW.imp hb fun _ _ _ h=>OY hw.2 (fun _ z=>z) h)) fun σ H Q h=>SQ (Oz jk (fun i z=>BB z) h) hw.1)
   | Or =>
    cases h;exact PW.pt (PW.imp (gI ha (PW.imp hb fun _ _ _ h=>OY hw.2 (fun _ z=>z) h)) fun σ H Q h=>ee (Oz jk (fun i z=>BB z) h) hw.1)
  ·cases h
def iM (p p':List Dv->Option Bool) (a:Ar) (i:Nat) (c:Ar):Ev Bool:=Hy (Zj p (AQ [a,.rf i])) (Zj p' (AQ [.rf i,c])) fun R m k=>k false m
section
variable {K:W.Frag} {Γ Γ2 Γ':Gm} {js js2:List Nat} {σ:St} {H:Hp}
theorem Jp {f:Ev Bool} {Q Q':Bool->Hp->Prop} (h:tT K Γ Γ' js f σ H Q) (m:∀ b H',Q b H'->Q' b H'):tT K Γ Γ' js f σ H Q':=by
 obtain ⟨g,m',P,r,R,k,res,e,q⟩:=h;exact ⟨g,m',P,r,R,k,res,e,fun b m1 g1 P1 H1 h1 h2 h3 h4=>m _ _ (q b m1 g1 P1 H1 h1 h2 h3 h4)⟩
theorem HC {a:Ar} {Q1 Q2:VK} (h12:∀ v H,Q1 v H->Q2 v H) (t:IK K a σ H Q1):IK K a σ H Q2:=by
 cases a with
 | ev Γa Γb ja fa =>
  obtain ⟨g,m,P,r,R,k,res,e,q⟩:=t;exact ⟨g,m,P,r,R,k,res,e,fun d m' g' P' Pv v H' h1 h2 h3 h4 h5 h6=>h12 _ _ (q d m' g' P' Pv v H' h1 h2 h3 h4 h5 h6)⟩
 | rf i=>obtain ⟨v,e,q⟩:=t;exact ⟨v,e,h12 _ _ q⟩
theorem Zt {o:Nat} {f:Ev Bool} {Q:VK} (h:tE K Γ o Γ' js (Nl f) σ H Q):tT K Γ Γ' js f σ H fun b H'=>Q (.bl b) H':=by
 obtain ⟨g,m,P,r,R,k,res,e,q⟩:=h;exact ⟨g,m,P,r,R,_,res,e,fun b m1 g1 P1 H1 hk ag s r1=>q (.bl b) m1 g1 P1 nop _ H1 hk ag (s.less fun _ z=>z.elim id False.elim) CP r1 fun _ _ z=>z⟩
theorem Vk {p:List Dv->Option Bool} {as:List Ar} {r:Rl} (hp:AK K (fun ds=>(p ds).map .bl) 0 r) (c:AC Γ as Γ' js) {Q:VK} (h:tT K Γ Γ' js (Zj p (AQ as)) σ H fun b H'=>Q (.bl b) H'):BY K as σ H fun vs H1=>r vs H1 Q:=by
 obtain ⟨g,m,P,rl,R',k,res,e,q⟩:=h;refine AM as rl c e fun ds m' g' P' vs H1 hk ag s ar r1=>?_
 obtain ⟨b,e1,e2⟩:=bind_some' hk;refine hp g' H1 ds vs (.bl b) _ r1.zd (ar.ra r1) (by show (p ds).map _=_;rw [e1];rfl) fun v H2 nw=>?_
 obtain ⟨Pv,s2,h1,r2,n2⟩:=AY.go s r1 nw;rw [rep_bl h1];exact q b m' g' P' H2 e2 ag (s2.less fun _ q=>.inl q) r2
theorem Ja {p p':List Dv->Option Bool} {a c:Ar} {i o:Nat} {r r':R2} (hp:AK K (fun ds=>(p ds).map .bl) 0 (Jm r)) (hp':AK K (fun ds=>(p' ds).map .bl) 0 (Jm r')) (c1:AC Γ [a,.rf i] Γ2 js) (c2:AC Γ2 [.rf i,c] Γ' js2) (hi:Γ[i]?=some (some o)) (hw:Bb Γ' Γ2=true) {Q:VK}
    (h:tT K Γ Γ' (js++js2) (iM p p' a i c) σ H fun b H'=>Q (.bl b) H'):Jq r r' (IK K a) (HA i) (IK K c) σ H Q:=by
  have h0:∃ v,σ[i]?=some (some v):=by
    obtain ⟨g,m,P,r,_⟩:=h;obtain ⟨v,_,e,_⟩:=r.see hi;exact ⟨v,e⟩
  obtain ⟨v,hv⟩:=h0;have h1:=SQ h hw;have h2:tT K Γ Γ2 js (Zj p (AQ [a,.rf i])) σ H fun b H'=>∃ k,V.bl b=V.bl k/\if k=true then IK K c σ H' fun w' H4=>r' v w' H4 Q else Q (.bl false) H':=Jp h1 fun b H' q=>⟨b,rfl,by
    cases b with
    | true =>
      rw [if_pos rfl] at q ⊢;obtain ⟨v',hv',q'⟩:=Vk hp' c2 q;rw [hv] at hv';cases hv';exact q'
    | false=>rw [if_neg mT] at q ⊢;exact q⟩
  have h3:=Vk (Q:=fun z H'=>∃ k,z=V.bl k/\if k=true then IK K c σ H' fun w' H4=>r' v w' H4 Q else Q (.bl false) H') hp c1 h2;refine HC (fun x H1 z=>?_) h3;obtain ⟨w,hw',q⟩:=z;rw [hv] at hw';cases hw';exact ⟨v,hv,q⟩
end
def Zi (p p':List Dv->Option Bool) (a b c:Ar):Ev Bool:=fun R m k=>AQ [a,b] R m fun ds m1=>(p ds).bind fun t=>if t=true then AQ [c] R m1 fun cs m2=>(p' (ds.getD 1 .non::cs)).bind fun u=>k u m2 else k false m1
theorem IB {K:W.Frag} {Γ Γ2 Γ' Γa Γb:Gm} {js js2 jb:List Nat} {σ:St} {H:Hp} {p p':List Dv->Option Bool} {a c:Ar} {fb:Ev Dv} {r r':R2} (hp:AK K (fun ds=>(p ds).map .bl) 0 (Jm r)) (hp':AK K (fun ds=>(p' ds).map .bl) 0 (Jm r')) (c1:AC Γ [a,.ev Γa Γb jb fb] Γ2 js) (c2:AC Γ2 [c] Γ' js2) (hw:Bb Γ' Γ2=true) {Q:VK}
    (h:tT K Γ Γ' (js++js2) (Zi p p' a (.ev Γa Γb jb fb) c) σ H fun b H'=>Q (.bl b) H'):Jq r r' (IK K a) (tE K Γa 0 Γb jb fb) (IK K c) σ H Q:=by
  obtain ⟨g,m,P,rl,R,k,res,e,q⟩:=h;have key:BY K [a,.ev Γa Γb jb fb] σ H fun vs H1=>∃ x y,vs=[x,y]/\r x y H1 fun z H3=>∃ k,z=.bl k/\(if k=true then IK K c σ H3 fun w' H4=>r' y w' H4 Q else Q (.bl false) H3):=by
    refine AM _ rl c1 e fun ds m1 g1 P1 vs H1 hk ag s ar r1=>?_
    obtain ⟨t,e1,e2⟩:=bind_some' hk;have ra:=ar.ra r1
    -- the middle's value is frozen
    obtain ⟨dx,dy,x,y,rfl,rfl,ry⟩:∃ dx dy x y,ds=[dx,dy]/\vs=[x,y]/\Rep K g1 H1 0 dy y nop:=by
      cases a with
      | rf i =>
        unfold AU at ar;obtain ⟨v,ds',vs',rfl,rfl,_,_,ar⟩:=ar;unfold AU at ar;obtain ⟨d,v',ds',vs',rfl,rfl,h1,ar⟩:=ar;unfold AU at ar;obtain ⟨rfl,rfl⟩:=ar;exact ⟨_,_,_,_,rfl,rfl,h1⟩
      | ev _ _ _ _ =>
        unfold AU at ar;obtain ⟨d0,v,ds',vs',rfl,rfl,_,ar⟩:=ar;unfold AU at ar;obtain ⟨d,v',ds',vs',rfl,rfl,h1,ar⟩:=ar;unfold AU at ar;obtain ⟨rfl,rfl⟩:=ar;exact ⟨_,_,_,_,rfl,rfl,h1⟩
    refine ⟨x,y,rfl,hp g1 H1 [dx,dy] [x,y] (.bl t) _ r1.zd ra (by show (p _).map _=_;rw [e1];rfl) fun v H2 nw=>?_⟩;obtain ⟨Pv,s2,h1,r2,n2⟩:=AY.go s r1 nw;have sm:=nw.1;have ry2:Rep K g1 H2 0 dy y nop:=ry.held (Step.same (g:=g1) (P:=nop) sm) FpOk.nop fun _ z=>z.elim
    have s3:Step g P H g1 P1 H2:=s2.less fun _ z=>.inl z
    refine ⟨t,rep_bl h1,?_⟩;cases t with
    | false =>
      rw [if_neg mT] at e2 ⊢;obtain ⟨g4,P4,s4,r4⟩:=r2.weaken hw;exact q false m1 g4 P4 H2 e2 (ag.mono fun _ z=>mN _ z) (s3.trans s4) r4
    | true =>
      rw [if_pos rfl] at e2 ⊢;have key2:BY K [c] σ H2 fun ws H4=>∃ w,ws=[w]/\r' y w H4 Q:=by
        refine AM _ r2 c2 e2 fun cs m2 g4 P4 ws H4 hk2 ag2 s4 ar2 r4=>?_
        obtain ⟨u,e3,e4⟩:=bind_some' hk2;have ra2:=ar2.ra r4;have al:=ar2.len
        match cs,ws,al.1,al.2,ra2,e3 with
        | [cd],[w],_,_,ra2,e3 =>
          have ry4:Rep K g4 H4 0 dy y nop:=ry2.held s4 r2.fpOk fun _ z=>z.elim
          refine ⟨w,rfl,hp' g4 H4 [dy,cd] [y,w] (.bl u) Q r4.zd (by unfold RA;exact ⟨y,[w],0,nop,rfl,by decide,ry4,ra2⟩) (by show (p' _).map _=_;rw [show p' [dy,cd]=some u from e3];rfl) fun v' H5 nw'=>?_⟩;obtain ⟨Pv',s5,h5,r5,n5⟩:=AY.go (s3.trans s4) r4 nw';rw [rep_bl h5];exact q u m2 g4 P4 H5 e4 (ag.trans ag2) (s5.less fun _ z=>.inl z) r5
      refine HC (fun w H4 z=>?_) key2;obtain ⟨w',ew,z⟩:=z;cases ew;exact z
  refine HC (fun x H1 z=>?_) key;obtain ⟨g,m,P,r,R,k,res,e,q⟩:=z;refine ⟨g,m,P,r,R,k,res,e,fun d m' g' P' Pv v H' h1 h2 h3 h4 h5 h6=>?_⟩;obtain ⟨x',y',ev,z⟩:=q d m' g' P' Pv v H' h1 h2 h3 h4 h5 h6;cases ev;exact z
def de (r:Rec) (C:Cf) (Γ:Gm) (a:Expr) (op:CmpOp) (b:Expr) (op':CmpOp) (c:Expr):Option CT:=if lastMarks [op,op'] [b,c] then none else (C.T.cmps.find? fun e=>e.op == op).bind fun en=>(C.T.cmps.find? fun e=>e.op == op').bind fun en'=>(Dn r C Γ true a).bind fun x=>(r.E C x.Γ b).bind fun y=>(Dn r C y.Γ true c).bind fun z =>
 if DJ x.a y.Γ && DJ z.a z.Γ && Bb z.Γ y.Γ then some ⟨z.Γ,(x.js++(y.js++[]))++(z.js++[]),Zi (two en.f) (two en'.f) x.a (.ev x.Γ y.Γ y.js y.f) z.a⟩ else none
theorem YW {r:Rec} (R:OkR r) {C:Cf} {X:Cx} {Γ:Gm} {a b c:Expr} {op op':CmpOp} {pos:Pos} {t:CT} (ok:Cok C X) (h:de r C Γ a op b op' c=some t):PT X (.Compare a [op,op'] [b,c] pos) (tT X.K Γ t.Γ t.js t.f)/\∀ o,PE X (.Compare a [op,op'] [b,c] pos) (tE X.K Γ o t.Γ t.js (Nl t.f)):=by
 unfold de at h;split at h
 ·cases h
 ·rename_i hm;rw [pO] at hm;obtain ⟨en,e1,h⟩:=bind_some' h;obtain ⟨en',e2,h⟩:=bind_some' h;obtain ⟨x,e3,h⟩:=bind_some' h;obtain ⟨y,e5,h⟩:=bind_some' h;obtain ⟨z,e4,h⟩:=bind_some' h;split at h
  ·rename_i hw;simp only [ly] at hw;obtain ⟨⟨w2,w4⟩,w6⟩:=hw;cases h;have eo:en.op=op:=by simpa using nM e1
   have eo':en'.op=op':=by simpa using nM e2
   obtain ⟨rr,q1,q2⟩:=en.ok X ok.gx;obtain ⟨rr',q1',q2'⟩:=en'.ok X ok.gx;rw [eo] at q1;rw [eo'] at q1';obtain ⟨a1,_,a2⟩:=Bf R ok e3;obtain ⟨b1,_,b2⟩:=Bf R ok e4;have hb:=DL (R.E ok e5);have c1:AC Γ [x.a,.ev x.Γ y.Γ y.js y.f] y.Γ (x.js++(y.js++[])):=a2 (by unfold AC;exact ⟨rfl,_,rfl,BK⟩) w2;have c2:AC y.Γ [z.a] z.Γ (z.js++[]):=b2 BK w4;exact ⟨PT.imp (Lg q1 q1' a1 hb b1 hm) fun σ H Q h=>IB (Q:=fun v H'=>∃ k,v=V.bl k/\Q k H') q2 q2' c1 c2 w6 (Jp h fun b H' q=>⟨b,rfl,q⟩),fun o=>PE.imp (Lq q1 q1' a1 hb b1 hm) fun σ H Q h=>IB q2 q2' c1 c2 w6 (Zt h)⟩
  ·cases h
def kT (r:Rec) (C:Cf) (Γ:Gm) (a:Expr) (op:CmpOp) (b:Expr) (op':CmpOp) (c:Expr):Option CT:=if lastMarks [op,op'] [b,c] then none else (Xe C b).bind fun i=>(C.T.cmps.find? fun e=>e.op == op).bind fun en=>(C.T.cmps.find? fun e=>e.op == op').bind fun en'=>(Dn r C Γ true a).bind fun x=>(Dn r C x.Γ true c).bind fun z =>
 if (Γ.getD i none).isSome && DJ x.a x.Γ && eN x.Γ i && DJ z.a z.Γ && eN z.Γ i && Bb z.Γ x.Γ then some ⟨z.Γ,(x.js++[])++(z.js++[]),iM (two en.f) (two en'.f) x.a i z.a⟩ else none
theorem dc {r:Rec} (R:OkR r) {C:Cf} {X:Cx} {Γ:Gm} {a b c:Expr} {op op':CmpOp} {pos:Pos} {t:CT} (ok:Cok C X) (h:kT r C Γ a op b op' c=some t):PT X (.Compare a [op,op'] [b,c] pos) (tT X.K Γ t.Γ t.js t.f)/\∀ o,PE X (.Compare a [op,op'] [b,c] pos) (tE X.K Γ o t.Γ t.js (Nl t.f)):=by
 unfold kT at h;split at h
 ·cases h
 ·rename_i hm;rw [pO] at hm;obtain ⟨i,e0,h⟩:=bind_some' h;obtain ⟨en,e1,h⟩:=bind_some' h;obtain ⟨en',e2,h⟩:=bind_some' h;obtain ⟨x,e3,h⟩:=bind_some' h;obtain ⟨z,e4,h⟩:=bind_some' h;split at h
  ·rename_i hw;simp only [ly] at hw;obtain ⟨⟨⟨⟨⟨w1,w2⟩,w3⟩,w4⟩,w5⟩,w6⟩:=hw;cases h;have eo:en.op=op:=by simpa using nM e1
   have eo':en'.op=op':=by simpa using nM e2
   obtain ⟨rr,q1,q2⟩:=en.ok X ok.gx;obtain ⟨rr',q1',q2'⟩:=en'.ok X ok.gx;rw [eo] at q1;rw [eo'] at q1';obtain ⟨a1,_,a2⟩:=Bf R ok e3;obtain ⟨b1,_,b2⟩:=Bf R ok e4;obtain ⟨o,hi⟩:=getD_some w1;obtain ⟨o2,lo2,hi2⟩:=Hk w3;have c1:AC Γ [x.a,.rf i] x.Γ (x.js++[]):=a2 (by unfold AC;exact ⟨⟨o2,hi2⟩,⟨o2,lo2,hi2⟩,BK⟩) w2;have c2:AC x.Γ [.rf i,z.a] z.Γ (z.js++[]):=by
    unfold AC;exact ⟨⟨o2,hi2⟩,Hk w5,b2 BK w4⟩
   exact ⟨PT.imp (Lg q1 q1' a1 (Dg ok e0) b1 hm) fun σ H Q h=>Ja (Q:=fun v H'=>∃ k,v=V.bl k/\Q k H') q2 q2' c1 c2 hi w6 (Jp h fun b H' q=>⟨b,rfl,q⟩),fun o=>PE.imp (Lq q1 q1' a1 (Dg ok e0) b1 hm) fun σ H Q h=>Ja q2 q2' c1 c2 hi w6 (Zt h)⟩
  ·cases h
def OD (r:Rec) (C:Cf) (Γ:Gm) (a:Expr) (op:CmpOp) (b:Expr) (op':CmpOp) (c:Expr):Option CT:=match Xe C b with
 | some _=>kT r C Γ a op b op' c
 | none=>de r C Γ a op b op' c
theorem Ph {r:Rec} (R:OkR r) {C:Cf} {X:Cx} {Γ:Gm} {a b c:Expr} {op op':CmpOp} {pos:Pos} {t:CT} (ok:Cok C X) (h:OD r C Γ a op b op' c=some t):PT X (.Compare a [op,op'] [b,c] pos) (tT X.K Γ t.Γ t.js t.f)/\∀ o,PE X (.Compare a [op,op'] [b,c] pos) (tE X.K Γ o t.Γ t.js (Nl t.f)):=by
 unfold OD at h;split at h
 ·exact dc R ok h
 ·exact YW R ok h
def Yz (r:Rec) (C:Cf) (Γ:Gm) (e:Expr):Option CT:=match e with
 | .Compare a [op] [b] _=>OC r C Γ a op b
 | .Compare a [op,op'] [b,c] _=>OD r C Γ a op b op' c
 | .UnaryOp .Not x _=>(r.T C Γ x).map dS
 | .BoolOp op vs pos=>ZD r C Γ op vs pos
 | e=>if PC e then dM r C Γ e else none
theorem SY {r:Rec} (R:OkR r) {C:Cf} {X:Cx} {Γ:Gm} {e:Expr} {c:CT} (ok:Cok C X) (h:Yz r C Γ e=some c):PT X e (tT X.K Γ c.Γ c.js c.f):=by
 have val:PC e=true->(if PC e then dM r C Γ e else none)=some c->PT X e (tT X.K Γ c.Γ c.js c.f):=fun hv h=>by
  rw [if_pos hv] at h;exact YK R ok hv h
 match e,h with
 | .Compare a ops bs pos,h =>
  match ops,bs,h with
  | [op],[b],h=>exact (Pg R ok h).1
  | [op,op'],[b,c],h=>exact (Ph R ok h).1
  | [],_,h=>cases h
  | [_],[],h=>cases h
  | [_],_::_::_,h=>cases h
  | [_,_],[],h=>cases h
  | [_,_],[_],h=>cases h
  | [_,_],_::_::_::_,h=>cases h
  | _::_::_::_,_,h=>cases h
 | .UnaryOp op x pos,h =>
  cases op with
  | Not =>
   cases q:r.T C Γ x with
   | none=>replace h:(r.T C Γ x).map dS=some c:=h;rw [q] at h;cases h
   | some t =>
    replace h:(r.T C Γ x).map dS=some c:=h;rw [q] at h;cases h;exact PT.imp (ax (R.T ok q)) fun _ _ _ h=>aH h
  | _=>exact val rfl h
 | .BoolOp op vs pos,h=>exact Sf R ok h
 | .IfExp a b c' d,h=>cases h
 | .NamedExpr ..,h | .BinOp ..,h | .Lambda ..,h | .Dict ..,h | .Set ..,h | .ListComp ..,h | .SetComp ..,h | .DictComp ..,h | .GeneratorExp ..,h | .Await ..,h | .Yield ..,h | .YieldFrom ..,h | .Call ..,h | .FormattedValue ..,h | .JoinedStr ..,h | .Constant ..,h | .Attribute ..,h | .Subscript ..,h | .Starred ..,h | .Name ..,h | .List ..,h | .Tuple ..,h | .Slice ..,h=>exact val rfl h
noncomputable def eS {R:Type} (d:Dv) (k:Bool->Option R):Option R:=match d with | .bl b=>k b | _=>none
theorem ID {R:Type} {d:Dv} {k:Bool->Option R} {r:R} (h:eS d k=some r):∃ b,d=.bl b/\k b=some r:=by
 cases d<;>first | (cases h;done) | exact ⟨_,rfl,h⟩
def Ul (f g:Ev Dv):Ev Dv:=fun R m k=>f R m fun d m1=>eS d fun b=>if b=true then g R m1 k else k (.bl false) m1
def Zg (f g:Ev Dv):Ev Dv:=fun R m k=>f R m fun d m1=>eS d fun b=>if b=true then k (.bl true) m1 else g R m1 k
def Ua (f:Ev Dv):Ev Dv:=fun R m k=>f R m fun d m1=>eS d fun b=>k (.bl (!b)) m1
section
variable {K:W.Frag} {Γ Γ' Γ2:Gm} {js js2:List Nat} {σ:St} {H:Hp} {f u:Ev Dv} {Q:VK}
theorem aK (hw:Bb Γ' Γ2=true) (h:tE K Γ 0 Γ' (js++js2) (Ul f u) σ H Q):Yy (tE K Γ 0 Γ2 js f) (tE K Γ2 0 Γ' js2 u) σ H Q:=by
 obtain ⟨g,m,P,r,R,k,res,e,q⟩:=h;refine ⟨g,m,P,r,R,_,res,e,fun d m1 g1 P1 Pv v H1 hk ag s rv r1 n=>?_⟩;replace hk:=ID hk;obtain ⟨b,rfl,hk⟩:=hk;have s1:Step _ _ _ g1 P1 H1:=s.less fun _ z=>.inl z
 refine ⟨b,rep_bl rv,?_⟩;cases b with
 | true=>rw [if_pos rfl] at hk ⊢;exact ⟨g1,m1,P1,r1,R,k,res,hk,fun d m2 g2 P2 Pw w H2 hk2 ag2 s2 rv2 r2 n2=>q d m2 g2 P2 Pw w H2 hk2 (ag.trans ag2) (s1.trans s2) rv2 r2 n2⟩
 | false =>
  rw [if_neg mT] at hk ⊢;obtain ⟨g2,P2,s2,r2⟩:=r1.weaken hw;exact q _ m1 g2 P2 nop _ H1 hk (ag.mono fun _ z=>mN _ z) ((s1.trans s2).less fun _ z=>z.elim id False.elim) CP r2 fun _ _ z=>z
theorem fE (hw:Bb Γ' Γ2=true) (h:tE K Γ 0 Γ' (js++js2) (Zg f u) σ H Q):fA (tE K Γ 0 Γ2 js f) (tE K Γ2 0 Γ' js2 u) σ H Q:=by
 obtain ⟨g,m,P,r,R,k,res,e,q⟩:=h;refine ⟨g,m,P,r,R,_,res,e,fun d m1 g1 P1 Pv v H1 hk ag s rv r1 n=>?_⟩;replace hk:=ID hk;obtain ⟨b,rfl,hk⟩:=hk;have s1:Step _ _ _ g1 P1 H1:=s.less fun _ z=>.inl z
 refine ⟨b,rep_bl rv,?_⟩;cases b with
 | false=>rw [if_neg mT] at hk ⊢;exact ⟨g1,m1,P1,r1,R,k,res,hk,fun d m2 g2 P2 Pw w H2 hk2 ag2 s2 rv2 r2 n2=>q d m2 g2 P2 Pw w H2 hk2 (ag.trans ag2) (s1.trans s2) rv2 r2 n2⟩
 | true =>
  rw [if_pos rfl] at hk ⊢;obtain ⟨g2,P2,s2,r2⟩:=r1.weaken hw;exact q _ m1 g2 P2 nop _ H1 hk (ag.mono fun _ z=>mN _ z) ((s1.trans s2).less fun _ z=>z.elim id False.elim) CP r2 fun _ _ z=>z
theorem aJ (h:tE K Γ 0 Γ' js (Ua f) σ H Q):Yt (tE K Γ 0 Γ' js f) σ H Q:=by
 obtain ⟨g,m,P,r,R,k,res,e,q⟩:=h;refine ⟨g,m,P,r,R,_,res,e,fun d m1 g1 P1 Pv v H1 hk ag s rv r1 n=>?_⟩;replace hk:=ID hk;obtain ⟨b,rfl,hk⟩:=hk;exact ⟨b,rep_bl rv,q _ m1 g1 P1 nop _ H1 hk ag (s.less fun _ z=>z.elim .inl False.elim) CP r1 fun _ _ z=>z⟩
end
def iY (r:Rec) (C:Cf) (Γ:Gm) (x:Expr):Option CE:=(r.E C Γ x).bind fun c=>some ⟨0,c.Γ,c.js,Ua c.f⟩
def Sg (r:Rec) (C:Cf) (Γ:Gm) (op:BoolOp) (vs:List Expr) (pos:Pos):Option CE:=match vs with
 | []=>none
 | [a]=>r.E C Γ a
 | a::b::vs=>(r.E C Γ a).bind fun x=>(r.E C x.Γ (.BoolOp op (b::vs) pos)).bind fun y=>let Γ':=Bh x.Γ y.Γ;let js:=x.js++y.js;if Bb Γ' x.Γ && Bb Γ' y.Γ then some ⟨0,Γ',js,Nj (BC Γ' js) (match op with | .And=>Ul x.f y.f | .Or=>Zg x.f y.f)⟩ else none
theorem QG {r:Rec} (R:OkR r) {C:Cf} {X:Cx} {Γ:Gm} {op:BoolOp} {vs:List Expr} {pos:Pos} {c:CE} (ok:Cok C X) (h:Sg r C Γ op vs pos=some c):PE X (.BoolOp op vs pos) (tE X.K Γ c.o c.Γ c.js c.f):=by
 match vs,h with
 | [],h=>cases h
 | [a],h=>exact bP (R.E ok h)
 | a::b::vs,h =>
  obtain ⟨x,e1,h⟩:=bind_some' h;obtain ⟨y,e2,h⟩:=bind_some' h;simp only at h;split at h
  ·rename_i hw;rw [ly] at hw;have ha:=DL (R.E ok e1);have hb:=DL (R.E ok e2);have jk:∀ (i o:Nat),(Bh x.Γ y.Γ)[i]?=some (some o)->i∈BC (Bh x.Γ y.Γ) (x.js++y.js)\/i∉x.js++y.js:=fun i o h=>BQ h
   cases op with
   | And=>cases h;exact PE.imp (bU ha (PE.imp hb fun _ _ _ h=>GZ hw.2 (fun _ z=>z) h)) fun σ H Q h=>aK hw.1 (Ge jk (fun i z=>BB z) h)
   | Or=>cases h;exact PE.imp (gO ha (PE.imp hb fun _ _ _ h=>GZ hw.2 (fun _ z=>z) h)) fun σ H Q h=>fE hw.1 (Ge jk (fun i z=>BB z) h)
  ·cases h
def ic (r:Rec) (C:Cf) (Γ:Gm) (c a b:Expr):Option CE:=(r.T C Γ c).bind fun t=>(r.E C t.Γ a).bind fun x=>(r.E C t.Γ b).bind fun y=>let Γ':=Bh x.Γ y.Γ;let js:=t.js++(x.js++y.js);if Bb Γ' x.Γ && Bb Γ' y.Γ then some ⟨0,Γ',js,Nj (BC Γ' js) (Hy t.f x.f y.f)⟩ else none
theorem YT {r:Rec} (R:OkR r) {C:Cf} {X:Cx} {Γ:Gm} {c a b:Expr} {pos:Pos} {d:CE} (ok:Cok C X) (h:ic r C Γ c a b=some d):PE X (.IfExp c a b pos) (tE X.K Γ d.o d.Γ d.js d.f):=by
 obtain ⟨t,e1,h⟩:=bind_some' h;obtain ⟨x,e2,h⟩:=bind_some' h;obtain ⟨y,e3,h⟩:=bind_some' h;simp only at h;split at h
 ·rename_i hw;rw [ly] at hw;cases h;exact PE.imp (Tp (R.T ok e1) (PE.imp (DL (R.E ok e2)) fun _ _ _ h=>GZ hw.1 (fun _ z=>z) h) (PE.imp (DL (R.E ok e3)) fun _ _ _ h=>GZ hw.2 (fun _ z=>z) h)) fun σ H Q h=>fF (Ge (fun i o z=>BQ z) (fun i z=>BB z) h)
 ·cases h
theorem BA {es:List Expr} {env:Env} {pos:Pos} (h:es.all Aq=true):(backTo pos (starEach es env)).any (·.1)=false:=by
 induction es with
 | nil=>rfl
 | cons e es ih =>
  rw [nC,ly] at h;rw [AG h.1];show (false || (backTo pos (starEach es env)).any (·.1))=false;rw [ih h.2];rfl
theorem du {es:List Expr} {env:Env} {pos:Pos} (h:es.all Aq=true):(backTo pos (starEach es env)).all (fun x=>!x.1)=true:=by
 induction es with
 | nil=>rfl
 | cons e es ih =>
  rw [nC,ly] at h;rw [AG h.1];show (true && (backTo pos (starEach es env)).all (fun x=>!x.1))=true;rw [ih h.2];rfl
def Zq (r:Rec) (C:Cf) (Γ:Gm) (s:Sig) (es:List Expr):Option CE:=(r.A C Γ ((List.range es.length).map s.io.contains) es).bind fun c=>if aU c.as s.io && (es.length == s.ps.length) && (slots c.as s.io).all (fun i=>c.Γ.getD i none == some 1) then some ⟨s.ro,c.Γ,c.js++slots c.as s.io,Nk s c.as⟩ else none
theorem VU {r:Rec} (R:OkR r) {C:Cf} {X:Cx} {Γ:Gm} {x:Str} {s:Sig} {es:List Expr} {p pos:Pos} {c:CE} (ok:Cok C X) (hs:(x,s)∈C.fs) (hg:Gl X x) (hn:Tz x=true) (h:Zq r C Γ s es=some c):PE X (.Call (.Name x p) es [] pos) (tE X.K Γ c.o c.Γ c.js c.f):=by
 obtain ⟨c1,e1,h⟩:=bind_some' h;split at h
 ·rename_i hw;simp only [ly,mW,beq_iff_eq] at hw;cases h;obtain ⟨a1,a2,a3,a4,_⟩:=R.A ok e1;obtain ⟨nd,hio,j,kk,hj,hrm,F⟩:=ok.fs x s hs;have run:∀ {σ H Q},tE X.K Γ s.ro c1.Γ (c1.js++slots c1.as s.io) (Nk s c1.as) σ H Q->fD (QJ X.K s) (BY X.K c1.as) σ H Q:=fun h=>VJ a2 hw.1.1 (a3.trans hw.1.2) nd hio (fun i hi=>Be (hw.2 i hi)) h
  cases es with
  | nil =>
   have e:c1.as=[]:=mq a3;refine PE.imp (Tq F hrm hj hg (CQ hn).1) fun σ H Q h=>?_
   have:=run h;rw [e] at this;exact this
  | cons e es =>
   rw [nC,ly] at a4;exact PE.imp (Ou F hrm hj hg a1 (CQ hn).1 (AG a4.1) (BA a4.2)) fun σ H Q h=>run h
 ·cases h
def Zo (r:Rec) (C:Cf) (Γ:Gm) (s:Sig) (es:List Expr):Option CE:=(r.A C Γ (List.replicate es.length true) es).bind fun c=>if es.length == s.ps.length then some ⟨1,c.Γ,c.js,KZ s c.as⟩ else none
theorem VS {r:Rec} (R:OkR r) {C:Cf} {X:Cx} {Γ:Gm} {x:Str} {s:Sig} {es:List Expr} {p pos:Pos} {c:CE} (ok:Cok C X) (hs:(x,s)∈C.fs) (hio:s.io=[]) (hg:Gl X x) (hn:Tz x=true) (h:Zo r C Γ s es=some c):PE X (.Call (.Name x p) es [] pos) (tE X.K Γ c.o c.Γ c.js c.f):=by
 obtain ⟨c1,e1,h⟩:=bind_some' h;split at h
 ·rename_i hw;rw [beq_iff_eq] at hw;cases h;obtain ⟨a1,a2,a3,a4,_⟩:=R.A ok e1;obtain ⟨nd,_,j,kk,hj,hrm,F⟩:=ok.fs x s hs;have run:∀ {σ H Q},tE X.K Γ 1 c1.Γ c1.js (KZ s c1.as) σ H Q->fD (QJ X.K s) (BY X.K c1.as) σ H Q:=fun h=>RJ a2 hio (a3.trans hw) h
  cases es with
  | nil =>
   have e:c1.as=[]:=mq a3;refine PE.imp (Tq F hrm hj hg (CQ hn).1) fun σ H Q h=>?_
   have:=run h;rw [e] at this;exact this
  | cons e es =>
   rw [nC,ly] at a4;exact PE.imp (Ou F hrm hj hg a1 (CQ hn).1 (AG a4.1) (BA a4.2)) fun σ H Q h=>run h
 ·cases h
theorem ED:∀ (sl:List Nat) (bs:List Dv) (m:M) (d:Dv),∃ d',EY sl bs (m++[d])=EY sl bs m++[d']
 | [],_,m,d=>⟨d,rfl⟩
 | _::_,[],m,d=>⟨d,rfl⟩
 | s::sl,b::bs,m,d=>by
  unfold EY
  by_cases h:s < m.length
  ·rw [List.set_append_left _ _ h];exact ED sl bs _ d
  ·rw [List.set_append_right _ _ (by omega),List.set_eq_of_length_le (l:=m) (by omega)];cases s - m.length with
   | zero=>exact ED sl bs m b
   | succ k=>exact ED sl bs m d
section
variable {K:W.Frag} {g:G} {H H':Hp} {σ:St} {Γ Γ':Gm} {js:List Nat} {m:M} {P:Fp} {as:List Ar}
theorem Rel.snoc {d:Dv} {v:V} {Pv:Fp} (r:Rel K g H Γ m σ P) (h:Rep K g H 1 d v Pv) (n:Disj P Pv):Rel K g H (Γ++[some 1]) (m++[d]) (σ++[some v]) fun a=>P a\/Pv a:=by
  obtain ⟨zd,F,h1,h4⟩:=r
  let F':Nat->Fp:=fun i a=>(i < Γ.length/\F i a)\/(i=Γ.length/\Pv a)
  have lt:∀ {i:Nat} {a:Addr},F i a->i < Γ.length:=fun {i a} z=>by
    rcases nZ i Γ.length with w | w
    · exact w
    · exact (h1.out i (fun o e=>by rw [nE w] at e;cases e) a z).elim
  refine ⟨zd,F',⟨by simp [h1.l1],by simp [h1.l2],fun i o e=>?_,fun i e a z=>?_,fun i j ne a z w=>?_⟩,fun a=>⟨fun z=>?_,fun ⟨i,z⟩=>?_⟩⟩
  · rcases nZ i Γ.length with w | w
    · rw [mH w] at e;obtain ⟨d',v',e1,e2,e3⟩:=h1.rep i o e;refine ⟨d',v',by rw [mH (by rw [h1.l1];exact w)];exact e1,by rw [mH (by rw [h1.l2];exact w)];exact e2,e3.iff fun a=>⟨fun z=>z.elim (fun z=>z.2) fun z=>by omega,fun z=>.inl ⟨w,z⟩⟩⟩
    · have:i=Γ.length:=by
        have:=(mB.mp e).1;simp at this;omega
      subst this;rw [me (mF _),nP] at e;cases e;refine ⟨d,v,by rw [<- h1.l1,me (mF _),nP];rfl,by rw [<- h1.l2,me (mF _),nP];rfl,h.iff fun a=>⟨fun z=>z.elim (fun z=>by omega) fun z=>z.2,fun z=>.inr ⟨rfl,z⟩⟩⟩
  · rcases z with ⟨w,z⟩ | ⟨rfl,z⟩
    · exact h1.out i (fun o e'=>e o (by rw [mH w];exact e')) a z
    · exact e 1 (by rw [me (mF _),nP];rfl)
  · rcases z with ⟨_,z⟩ | ⟨e1,z⟩<;>rcases w with ⟨_,w⟩ | ⟨e2,w⟩
    · exact h1.dj i j ne a z w
    · exact n a ((h4 a).mpr ⟨i,z⟩) w
    · exact n a ((h4 a).mpr ⟨j,w⟩) z
    · omega
  · rcases z with z | z
    · obtain ⟨i,z⟩:=(h4 a).mp z;exact ⟨i,.inl ⟨lt z,z⟩⟩
    · exact ⟨_,.inr ⟨rfl,z⟩⟩
  · rcases z with ⟨_,z⟩ | ⟨_,z⟩
    · exact .inl ((h4 a).mpr ⟨i,z⟩)
    · exact .inr z
theorem Rel.init {x:Option Nat} {d:Dv} {y:Option V} (r:Rel K g H (Γ++[x]) (m++[d]) (σ++[y]) P):∃ P0,Rel K g H Γ m σ P0/\∀ a,P0 a->P a:=by
 obtain ⟨zd,F,h1,h4⟩:=r;have l1:m.length=Γ.length:=by have:=h1.l1;simpa using this
 have l2:σ.length=Γ.length:=by have:=h1.l2;simpa using this
 let F':Nat->Fp:=fun i a=>i < Γ.length/\F i a
 refine ⟨fun a=>∃ i,F' i a,⟨zd,F',⟨l1,l2,fun i o e=>?_,fun i e a z=>?_,fun i j ne a z w=>h1.dj i j ne a z.2 w.2⟩,fun _=>Iff.rfl⟩,fun a ⟨i,z⟩=>(h4 a).mpr ⟨i,z.2⟩⟩
 ·have w:=(mB.mp e).1;obtain ⟨d',v',e1,e2,e3⟩:=h1.rep i o (by rw [mH w];exact e);rw [mH (by omega)] at e1 e2;exact ⟨d',v',e1,e2,e3.iff fun a=>⟨fun z=>z.2,fun z=>⟨w,z⟩⟩⟩
 ·exact h1.out i (fun o e'=>e o (by rw [mH z.1] at e';exact e')) a z.2
theorem AU.snoc {d:Dv} {v:V} (l1:m.length=Γ.length) (l2:σ.length=Γ.length) (s:OO H H'):∀ {as:List Ar} {ds:List Dv} {vs:List V},AU K g H Γ m σ as ds vs->AU K g H' (Γ++[some 1]) (m++[d]) (σ++[some v]) (as++[Ar.rf Γ.length]) (ds++[d]) (vs++[v])
 | [],ds,vs,h=>by
  unfold AU at h;obtain ⟨rfl,rfl⟩:=h;show AU K g H' _ _ _ [Ar.rf Γ.length] [d] [v];unfold AU;refine ⟨v,[],[],?_,rfl,by rw [<- l2,me (mF _),nP];rfl,⟨1,by decide,by rw [me (mF _),nP];rfl⟩,by unfold AU;exact ⟨rfl,rfl⟩⟩;have:(m++[d]).at Γ.length=d:=by unfold M.at;rw [mZ,<- l1,me (mF _),nP];rfl
  rw [this]
 | .ev _ _ _ f::as,ds,vs,h=>by
  unfold AU at h;obtain ⟨d0,v0,ds',vs',rfl,rfl,h1,h2⟩:=h;show AU K g H' _ _ _ (.ev _ _ _ f::(as++[Ar.rf Γ.length])) (d0::(ds'++[d])) (v0::(vs'++[v]));unfold AU;exact ⟨d0,v0,_,_,rfl,rfl,h1.held (Step.same (g:=g) (P:=nop) s) FpOk.nop fun _ z=>z.elim,AU.snoc l1 l2 s h2⟩
 | .rf i::as,ds,vs,h=>by
  unfold AU at h;obtain ⟨v0,ds',vs',rfl,rfl,h1,⟨o,ho,h2⟩,h3⟩:=h;have w:=(mB.mp h2).1;show AU K g H' _ _ _ (.rf i::(as++[Ar.rf Γ.length])) (m.at i::(ds'++[d])) (v0::(vs'++[v]));unfold AU;refine ⟨v0,_,_,?_,rfl,by rw [mH (by omega)];exact h1,⟨o,ho,by rw [mH w];exact h2⟩,AU.snoc l1 l2 s h3⟩;have:(m++[d]).at i=m.at i:=by unfold M.at;rw [mZ,mZ,mH (by omega)]
  rw [this]
def Ka (s:Sig) (as:List Ar) (N:Nat):Ev Dv:=fun R m k=>AQ as R m fun ds m1=>s.cps R (ds++[.dct [] []]) fun d bs=>k d (EY (slots (as++[Ar.rf N]) s.io) bs m1)
theorem RW {s:Sig} (c:AC Γ as Γ' js) (hs:aU (as++[Ar.rf Γ'.length]) s.io=true) (hn:(as++[Ar.rf Γ'.length]).length=s.ps.length) (nd:s.io.Nodup) (hio:∀ i∈s.io,i < s.ps.length) (hl:∀ i∈slots (as++[Ar.rf Γ'.length]) s.io,(Γ'++[some 1])[i]?=some (some 1)) {Q:VK}
    (h:tE K Γ s.ro Γ' (js++slots (as++[Ar.rf Γ'.length]) s.io) (Ka s as Γ'.length) σ H Q):BY K as σ H fun vs H1=>∀ p,H1 p=none->QJ K s (vs++[.ref p]) (upd H1 p (.dK [])) Q E0:=by
  obtain ⟨g,m,P,r,R,k,res,e,q⟩:=h;refine AM as r c e fun ds m1 g1 P1 vs H1 hk ag st ar r1 p hp=>?_
  rw [s.eq] at hk;obtain ⟨⟨d,bs⟩,e1,e2⟩:=bind_some' hk;have nw:AY K g1 H1 1 (.dct [] []) (.ref p) (upd H1 p (.dK [])):=AY.dct r1.zd hp;have sm:=nw.1;obtain ⟨Pv,s2,h1,r2,n2⟩:=AY.go Step.refl r1 nw;obtain ⟨l1,l2⟩:m1.length=Γ'.length/\σ.length=Γ'.length:=by obtain ⟨_,F,h,_⟩:=r1;exact ⟨h.l1,h.l2⟩
  refine Jb hs hn nd hio hl (r2.snoc h1 n2) (ar.snoc l1 l2 sm) e1 fun g2 P2 Pw v H2 st2 rv rz n=>?_
  obtain ⟨d',ed⟩:=ED (slots (as++[Ar.rf Γ'.length]) s.io) bs m1 (.dct [] []);rw [ed] at rz;obtain ⟨P0,r0,hP⟩:=rz.init;exact q d _ g2 P0 Pw v H2 e2 (ag.trans (Lf _ bs m1)) (st.trans (s2.trans (st2.less fun a z=>z.elim (fun z=>.inl (hP a z)) .inr))) rv r0 fun a z w=>n a (hP a z) w
end
noncomputable def KQ:Expr->Bool
 | .Dict [] [] _=>true
 | _=>false
theorem Qp {e:Expr} (h:KQ e=true):∃ pos,e=.Dict [] [] pos:=by
 unfold KQ at h;split at h
 ·exact ⟨_,rfl⟩
 ·cases h
def Zp (r:Rec) (C:Cf) (Γ:Gm) (s:Sig) (es:List Expr):Option CE:=(r.A C Γ ((List.range es.length).map s.io.contains) es.dropLast).bind fun c=>if aU (c.as++[Ar.rf c.Γ.length]) s.io && (es.length == s.ps.length) && (slots (c.as++[Ar.rf c.Γ.length]) s.io).all (fun i=>(c.Γ++[some 1]).getD i none == some 1) then some ⟨s.ro,c.Γ,c.js++slots (c.as++[Ar.rf c.Γ.length]) s.io,Ka s c.as c.Γ.length⟩ else none
theorem VT {r:Rec} (R:OkR r) {C:Cf} {X:Cx} {Γ:Gm} {x:Str} {s:Sig} {es:List Expr} {p pos:Pos} {c:CE} (ok:Cok C X) (hs:(x,s)∈C.fs) (hg:Gl X x) (hn:Tz x=true) (hd:(es.getLast?.map KQ).getD false=true) (h:Zp r C Γ s es=some c):PE X (.Call (.Name x p) es [] pos) (tE X.K Γ c.o c.Γ c.js c.f):=by
  obtain ⟨c1,e1,h⟩:=bind_some' h;split at h
  · rename_i hw;simp only [ly,mW,beq_iff_eq] at hw;cases h;obtain ⟨a1,a2,a3,a4,_⟩:=R.A ok e1;obtain ⟨nd,hio,j,kk,hj,hrm,F⟩:=ok.fs x s hs;obtain ⟨l,es0,rfl⟩:∃ l es0,es=es0++[l]:=by
      cases q:es.getLast? with
      | none=>rw [q] at hd;cases hd
      | some l=>obtain ⟨ys,e⟩:=List.getLast?_eq_some_iff.mp q;exact ⟨l,ys,e⟩
    rw [List.getLast?_concat] at hd;obtain ⟨ps,rfl⟩:=Qp hd;rw [List.dropLast_concat] at e1 a1 a3 a4;have pa:=R.B ok e1 (Ln (X:=X) (pos:=ps)) rfl;have run:∀ {σ H Q},tE X.K Γ s.ro c1.Γ (c1.js++slots (c1.as++[Ar.rf c1.Γ.length]) s.io) (Ka s c1.as c1.Γ.length) σ H Q->fD (QJ X.K s) (SR (BY X.K c1.as) SW) σ H Q:=fun h=>RW a2 hw.1.1 (by rw [<- hw.1.2];simp [a3]) nd hio (fun i hi=>Be (hw.2 i hi)) h
    have ns:(es0++[Expr.Dict [] [] ps]).all Aq=true:=by rw [List.all_append,a4];rfl
    cases es0 with
    | nil=>exact PE.imp (Ou F hrm hj hg pa (CQ hn).1 (AG rfl) rfl) fun σ H Q h=>run h
    | cons e es =>
      rw [List.cons_append,nC,ly] at ns;exact PE.imp (Ou F hrm hj hg pa (CQ hn).1 (AG ns.1) (BA ns.2)) fun σ H Q h=>run h
  · cases h
def dR (r:Rec) (C:Cf) (Γ:Gm) (s:Sig) (es:List Expr):Option CE:=if s.nb && s.io.isEmpty then Zo r C Γ s es else if (es.getLast?.map KQ).getD false && s.io.contains (es.length - 1) then Zp r C Γ s es else Zq r C Γ s es
theorem YO {r:Rec} (R:OkR r) {C:Cf} {X:Cx} {Γ:Gm} {x:Str} {s:Sig} {es:List Expr} {p pos:Pos} {c:CE} (ok:Cok C X) (hs:(x,s)∈C.fs) (hg:Gl X x) (hn:Tz x=true) (h:dR r C Γ s es=some c):PE X (.Call (.Name x p) es [] pos) (tE X.K Γ c.o c.Γ c.js c.f):=by
 unfold dR at h;split at h
 ·rename_i z;rw [ly,List.isEmpty_iff] at z;exact VS R ok hs z.2 hg hn h
 ·split at h
  ·rename_i z;rw [ly] at z;exact VT R ok hs hg hn z.1 h
  ·exact VU R ok hs hg hn h
def VR (r:Rec) (C:Cf) (Γ:Gm) (en:CallE) (es:List Expr):Option CE:=if es.isEmpty then none else (r.A C Γ (List.replicate es.length true) es).bind fun c=>some ⟨en.o,c.Γ,c.js,DG en.f (AQ c.as)⟩
theorem VQ {r:Rec} (R:OkR r) {C:Cf} {X:Cx} {Γ:Gm} {en:CallE} {es:List Expr} {p pos:Pos} {c:CE} (ok:Cok C X) (hb:en.x∈C.bl) (hg:Gl X en.x) (hn:Tz en.x=true) (h:VR r C Γ en es=some c):PE X (.Call (.Name en.x p) es [] pos) (tE X.K Γ c.o c.Γ c.js c.f):=by
 cases es with
 | nil=>cases h
 | cons e es =>
  unfold VR at h;rw [if_neg (by simp)] at h;obtain ⟨c1,e1,h⟩:=bind_some' h;cases h;obtain ⟨a1,a2,a3,a4,_⟩:=R.A ok e1;rw [nC,ly] at a4;obtain ⟨rr,q1,q2⟩:=en.ok X ok.gx;have n:=CQ hn;rcases q2 with ⟨id,q2,q3⟩ | ⟨T,q2,q3⟩
  ·exact PE.imp (Tr q2 hg (ok.bl _ hb) q3 a1 n.2.2 n.1 (AG a4.1) (BA a4.2)) fun _ _ _ h=>Ba q1 a2 h
  ·exact PE.imp (QX q2 hg (ok.bl _ hb) q3 a1 n.2.2 n.1 (AG a4.1) (BA a4.2)) fun _ _ _ h=>Ba q1 a2 h
noncomputable def Vj:Expr->Bool
 | .Call _ _ _ _=>false
 | _=>true
theorem FN {o:Expr} {name:Str} {env:Env} {w:Sem Value} (h:Vj o=true):attributeBase o name env w=w:=by
 cases o<;>first | rfl | (cases h)
def dU (r:Rec) (C:Cf) (Γ:Gm) (en:MutE) (i:Nat) (es:List Expr):Option CE:=if es.length < 29 && (Γ.getD i none).isSome then (r.A C Γ [] es).bind fun c=>if c.Γ.getD i none == some 1 then some ⟨0,c.Γ,c.js++[i],Uc en.T i en.p (AQ c.as)⟩ else none else none
theorem Ni {e:Expr} {es:List Expr} {env:Env} {pos:Pos} (h:(e::es).all Aq=true) (hl:(e::es).length < 29):((backTo pos (starEach (e::es) env)).all (fun x=>!x.1) && (backToKw pos (keywordEach [] env)).all (fun x=>x.1.isSome)
      && decide ((e::es).length+([]:List Keyword).length+(if ([]:List Keyword).isEmpty then 0 else 1) < 30))=true:=by
  rw [du h];show (true && true && decide _)=true;simp only [my,pE,decide_eq_true_eq,List.length_nil,List.isEmpty_nil,if_true];omega
theorem YR {r:Rec} (R:OkR r) {C:Cf} {X:Cx} {Γ:Gm} {en:MutE} {i:Nat} {o:Expr} {es:List Expr} {apos pos:Pos} {c:CE} (ok:Cok C X) (hi:Xe C o=some i) (hline:(apos.endLine == pos.line)=true) (h:dU r C Γ en i es=some c):PE X (.Call (.Attribute o en.x apos) es [] pos) (tE X.K Γ c.o c.Γ c.js c.f):=by
 unfold dU at h;split at h
 ·rename_i h0;simp only [ly,decide_eq_true_eq] at h0;obtain ⟨c1,e1,h⟩:=bind_some' h;split at h
  ·rename_i h1;cases h;obtain ⟨a1,a2,a3,a4,a5⟩:=R.A ok e1;obtain ⟨id,rr,q1,q2,q3,q4,q5⟩:=en.ok X ok.gx;have ho:=Dg ok hi;have hbase:attributeBase o en.x X.env (eval o X.env)=eval o X.env:=FN (by cases o<;>first | rfl | (cases hi));have run:∀ {σ H Q},tE X.K Γ 0 c1.Γ (c1.js++[i]) (Uc en.T i en.p (AQ c1.as)) σ H Q->fI X.K en.T rr (HA i) (BY X.K c1.as) σ H Q:=fun h=>Xa q5 en.hT a2 (a5 rfl) (getD_some h0.2) (Be (beq_iff_eq.mp h1)) h
   cases es with
   | nil =>
    have e:c1.as=[]:=mq a3;refine PE.imp (Tt q1 q2 q3 q4 ho hbase hline) fun σ H Q h=>?_
    have:=run h;rw [e] at this;exact this
   | cons e es =>
    have a4':=a4;rw [nC,ly] at a4;exact PE.imp (ZJ q1 q2 q3 q4 ho a1 hbase (Ni a4' h0.1) hline (AG a4.1) (BA a4.2)) fun σ H Q h=>run h
  ·cases h
 ·cases h
def ia (r:Rec) (C:Cf) (Γ:Gm) (en:MethE) (o:Expr) (es:List Expr):Option CE:=if es.length < 29 && Vj o then (Dn r C Γ true o).bind fun x=>(r.A C x.Γ (List.replicate es.length true) es).bind fun c=>if DJ x.a c.Γ then some ⟨en.o,c.Γ,x.js++c.js,Ud en.T x.a c.as en.f⟩ else none else none
theorem OB {r:Rec} (R:OkR r) {C:Cf} {X:Cx} {Γ:Gm} {en:MethE} {o:Expr} {es:List Expr} {apos pos:Pos} {c:CE} (ok:Cok C X) (hline:(apos.endLine == pos.line)=true) (hn:en.n=es.length) (h:ia r C Γ en o es=some c):PE X (.Call (.Attribute o en.x apos) es [] pos) (tE X.K Γ c.o c.Γ c.js c.f):=by
 unfold ia at h;split at h
 ·rename_i h0;simp only [ly,decide_eq_true_eq] at h0;obtain ⟨x,e0,h⟩:=bind_some' h;obtain ⟨c1,e1,h⟩:=bind_some' h;split at h
  ·rename_i h1;cases h;obtain ⟨o1,_,o2⟩:=Bf R ok e0;obtain ⟨a1,a2,a3,a4,a5⟩:=R.A ok e1;obtain ⟨id,rr,q1,q2,q3,q4,q5⟩:=en.ok X ok.gx;have hbase:attributeBase o en.x X.env (eval o X.env)=eval o X.env:=FN h0.2;rcases en.hT with hT | ⟨hT,hT1⟩
   ·have run:∀ {σ H Q},tE X.K Γ en.o c1.Γ (x.js++c1.js) (Ud en.T x.a c1.as en.f) σ H Q->fI X.K en.T rr (IK X.K x.a) (BY X.K c1.as) σ H Q:=fun h=>bw q5 hT (o2 a2 h1) h
    cases es with
    | nil =>
     have e:c1.as=[]:=mq a3;refine PE.imp (Tt q1 q2 q3 q4 o1 hbase hline) fun σ H Q h=>?_
     have:=run h;rw [e] at this;exact this
    | cons e es =>
     have a4':=a4;rw [nC,ly] at a4;exact PE.imp (ZJ q1 q2 q3 q4 o1 a1 hbase (Ni a4' h0.1) hline (AG a4.1) (BA a4.2)) fun σ H Q h=>run h
   ·have run:∀ {σ H Q},tE X.K Γ en.o c1.Γ (x.js++c1.js) (Ud en.T x.a c1.as en.f) σ H Q->je rr (IK X.K x.a) (BY X.K c1.as) σ H Q:=fun h=>Xc q5 (o2 a2 h1) (by rw [hT] at h;exact h)
    rw [hT] at q1 q2;cases es with
    | nil=>rw [hT1] at hn;cases hn
    | cons e es =>
     have a4':=a4;rw [nC,ly] at a4;exact PE.imp (gR q1 q2 q3 q4 o1 a1 hbase (Ni a4' h0.1) hline (AG a4.1) (BA a4.2)) fun σ H Q h=>run h
  ·cases h
 ·cases h
def dJ (c1 c2:CE):Option CE:=if c1.o == c2.o && c1.Γ == c2.Γ && c1.js == c2.js then some ⟨c1.o,c1.Γ,c1.js,Nj (BC c1.Γ c1.js) (evOr c1.f c2.f)⟩ else none
theorem YI {X:Cx} {Γ:Gm} {e:Expr} {c1 c2 c:CE} (h1:PE X e (tE X.K Γ c1.o c1.Γ c1.js c1.f)) (h2:PE X e (tE X.K Γ c2.o c2.Γ c2.js c2.f)) (h:dJ c1 c2=some c):PE X e (tE X.K Γ c.o c.Γ c.js c.f):=by
 unfold dJ at h;split at h
 ·rename_i h0;simp only [ly,beq_iff_eq] at h0;obtain ⟨⟨e1,e2⟩,e3⟩:=h0;cases h;rw [<- e1,<- e2,<- e3] at h2;intro pins s σ H Q I q;rcases aI (Ge (fun i o z=>BQ z) (fun i z=>BB z) q) with q | q
  ·exact h1 pins s σ H Q I q
  ·exact h2 pins s σ H Q I q
 ·cases h
def kQ (r:Rec) (C:Cf) (Γ:Gm) (o:Expr) (es:List Expr):List MethE->Option CE
 | []=>none
 | [en]=>ia r C Γ en o es
 | en::en2::_=>(ia r C Γ en o es).bind fun c1=>(ia r C Γ en2 o es).bind fun c2=>dJ c1 c2
def Pi (r:Rec) (C:Cf) (Γ:Gm) (f:Expr) (es:List Expr) (pos:Pos):Option CE:=match f with
  | .Name x _=>if Ho C.sc x && Tz x then (match C.fs.find? fun p=>p.1 == x with
      | some p=>dR r C Γ p.2 es
      | none=>(C.T.calls.find? fun e=>e.x == x && e.n == es.length).bind fun en=>if C.bl.contains x then VR r C Γ en es else none) else none
  | .Attribute o name apos=>if apos.endLine == pos.line then (match C.T.muts.find? fun e=>e.x == name && e.n == es.length with
      | some en=>(Xe C o).bind fun i=>dU r C Γ en i es
      | none=>kQ r C Γ o es (C.T.meths.filter fun e=>e.x == name && e.n == es.length)) else none
  | _=>none
theorem VY {r:Rec} (R:OkR r) {C:Cf} {X:Cx} {Γ:Gm} {f:Expr} {es:List Expr} {pos:Pos} {c:CE} (ok:Cok C X) (h:Pi r C Γ f es pos=some c):PE X (.Call f es [] pos) (tE X.K Γ c.o c.Γ c.js c.f):=by
  cases f with
  | Name x p =>
    simp only [Pi] at h;split at h
    · rename_i h0;rw [ly] at h0;split at h
      · rename_i p' hp;have e:p'.1=x:=by simpa using nM hp
        have hm:=pW hp;exact YO R ok (s:=p'.2) (by rw [<- e];exact hm) (Bd ok h0.1) h0.2 h
      · replace h:=bind_some' h;obtain ⟨en,e1,h⟩:=h;split at h
        · rename_i hb;have e:=nM e1;simp only [ly,beq_iff_eq] at e;obtain ⟨rfl,_⟩:=e;exact VQ R ok (mM.mp hb) (Bd ok h0.1) h0.2 h
        · cases h
    · cases h
  | Attribute o name apos =>
    simp only [Pi] at h;split at h
    · rename_i hl;split at h
      · rename_i en he;have e:=nM he;simp only [ly,beq_iff_eq] at e;obtain ⟨rfl,_⟩:=e;obtain ⟨i,e1,h⟩:=bind_some' h;exact YR R ok e1 hl h
      · have hm:∀ en∈C.T.meths.filter fun e=>e.x == name && e.n == es.length,en.x=name/\en.n=es.length:=fun en he=>by
          have:=(nL.mp he).2;simp only [ly,beq_iff_eq] at this;exact this
        revert h hm
        generalize (C.T.meths.filter fun e=>e.x == name && e.n == es.length)=L;intro h hm
        match L,hm,h with
        | [],hm,h=>cases h
        | [en],hm,h =>
          obtain ⟨rfl,e2⟩:=hm en mC;exact OB R ok hl e2 h
        | en::en2::_,hm,h =>
          obtain ⟨c1,e1,h⟩:=bind_some' h;obtain ⟨c2,e2,h⟩:=bind_some' h;obtain ⟨q1,q2⟩:=hm en mC;obtain ⟨q3,q4⟩:=hm en2 (mE _ mC);have p1:=OB (pos:=pos) (apos:=apos) R ok hl q2 e1;have p2:=OB (pos:=pos) (apos:=apos) R ok hl q4 e2;rw [q1] at p1;rw [q3] at p2;exact YI p1 p2 h
    · cases h
  | _=>cases h
def Ks (C:Cf) (x:Str):Option Nat:=if Tz x then (match C.sc.names.lookup x with
 | some .local=>DC C.N x
 | some .cell=>if C.fn x then DC C.N x else none
 | _=>none) else none
theorem Gk {C:Cf} {X:Cx} {x:Str} {i:Nat} (ok:Cok C X) (h:Ks C x=some i):X.N[i]?=some x/\Loc X.env.scope x/\(X.fn x=true\/X.env.scope.names.lookup x=some .local):=by
 unfold Ks at h;split at h
 ·split at h
  ·rename_i e;rw [ok.N,ok.sc];exact ⟨Bj h,.inl e,.inr e⟩
  ·rename_i e;split at h
   ·rename_i hf;rw [ok.N,ok.sc];exact ⟨Bj h,.inr e,.inl (ok.fn x hf)⟩
   ·cases h
  ·cases h
 ·cases h
theorem Pl {C:Cf} {X:Cx} {x:Str} {i:Nat} {pos:Pos} (ok:Cok C X) (h:Ks C x=some i):PG X (.Name x pos) (Dk i):=by
 obtain ⟨h1,h2,h3⟩:=Gk ok h;exact XD ok.nd h1 h2 h3
def eY (C:Cf):List Expr->Option (List Nat)
 | []=>some []
 | .Name x _::es=>(Ks C x).bind fun i=>(eY C es).bind fun J=>some (i::J)
 | _::_=>none
theorem SK {C:Cf} {X:Cx} (ok:Cok C X):∀ {es:List Expr} {J:List Nat},eY C es=some J->eU X es (Eb J)/\(assignEach es X.env).length=J.length/\(assignEach es X.env).findIdx? (·.1)=none
 | [],J,h=>by cases h;exact ⟨XC,rfl,rfl⟩
 | e::es,J,h=>by
  cases e with
  | Name x pos =>
   obtain ⟨i,e1,h⟩:=bind_some' (show (Ks C x).bind (fun i=>(eY C es).bind fun J=>some (i::J))=some J from h);obtain ⟨J',e2,h⟩:=bind_some' h;cases h;obtain ⟨h1,h2,h3⟩:=SK ok e2;refine ⟨Tj (Pl ok e1) h1 rfl,?_,?_⟩
   ·show (assignEach es X.env).length+1=_;rw [h2];rfl
   ·show List.findIdx? (·.1) ((false,assign (.Name x pos) X.env)::assignEach es X.env)=none;rw [List.findIdx?_cons,h3];rfl
  | _=>cases h
structure CG:Type 1 where
 J:List Nat
 f:Tg
 g:W.Frag->TG
 Γ:Gm->Gm
def cG (C:Cf) (e:Expr):Option CG:=match e with
 | .Name x _=>(Ks C x).map fun i=>⟨[i],eZ i,fun _=>Dk i,fun Γ=>Γ.set i (some 0)⟩
 | .Tuple es _ _=>(eY C es).map fun J=>⟨J,kq J,fun K=>hZ K J.length (Eb J),fun Γ=>aX Γ J (some 0)⟩
 | _=>none
theorem GT {C:Cf} {X:Cx} {e:Expr} {c:CG} (ok:Cok C X) (h:cG C e=some c):PG X e (c.g X.K)/\(∀ js,(∀ i∈c.J,i∈js)->Rv js (c.g X.K))/\∀ {K Γ},c.J.all (fun i=>decide (i < Γ.length))=true->OK K Γ (c.Γ Γ) c.J (c.g K) c.f:=by
 cases e with
 | Name x pos =>
  cases q:Ks C x with
  | none=>simp only [cG,q] at h;cases h
  | some i =>
   simp only [cG,q] at h;cases h;exact ⟨Pl ok q,fun js hj=>UV (hj i (oh _)),fun h=>WL (by simpa using h)⟩
 | Tuple es k pos =>
  cases q:eY C es with
  | none=>simp only [cG,q] at h;cases h
  | some J =>
   simp only [cG,q] at h;cases h;obtain ⟨h1,h2,h3⟩:=SK ok q;exact ⟨PG.or (bK ok.calm h1 h2 h3) (bM ok.calm h1 h2 h3),fun js hj=>cV (Xm (Ea J hj)) (Xn (Ea J hj)),fun h=>SM (by simpa using h)⟩
 | _=>cases h
def kP (r:Rec) (C:Cf) (Γ:Gm) (en:SrcE) (es:List Expr):Option CI:=(r.A C Γ [] es).bind fun c=>some ⟨c.Γ,c.js,Zc en.f (AQ c.as)⟩
def dO (r:Rec) (C:Cf) (Γ:Gm) (e:Expr):Option CI:=(r.E C Γ e).bind fun c=>some ⟨c.Γ,c.js,PP c.f⟩
def Sd (r:Rec) (C:Cf) (Γ:Gm) (tt:Bool) (e:Expr):Option CI:=match e with
  | .Call (.Name x _) es [] _=>(match C.T.srcs.find? fun en=>en.x == x && en.n == es.length && (!en.tt || tt) with
      | some en=>if Ho C.sc x && C.bl.contains x && (C.fs.find? fun p=>p.1 == x).isNone then kP r C Γ en es else none
      | none=>dO r C Γ e)
  | e=>dO r C Γ e
theorem Sb {r:Rec} (R:OkR r) {C:Cf} {X:Cx} {Γ:Gm} {e:Expr} {c:CI} (tg:Expr) (ok:Cok C X) (h:Sd r C Γ (KO tg) e=some c):PI X tg e (tI X.K Γ c.Γ c.js c.f):=by
 have seq:dO r C Γ e=some c->PI X tg e (tI X.K Γ c.Γ c.js c.f):=fun h=>by
  obtain ⟨c1,e1,h⟩:=bind_some' h;cases h;exact gv (DL (R.E ok e1))
 unfold Sd at h;split at h
 ·rename_i x p es pos;split at h
  ·rename_i en he;split at h
   ·rename_i h0;simp only [ly] at h0;have e:=nM he;simp only [ly,beq_iff_eq] at e;obtain ⟨⟨rfl,hn⟩,htt⟩:=e;obtain ⟨c1,e1,h⟩:=bind_some' h;cases h;obtain ⟨a1,a2,a3,a4,a5⟩:=R.A ok e1;obtain ⟨rr,q1,q2⟩:=en.ok X ok.gx;exact PI.imp (q2 tg es p pos _ (fun z=>by rw [z] at htt;simpa using htt) hn.symm a4 (Bd ok h0.1.1) (ok.bl _ (mM.mp h0.1.2)) a1) fun _ _ _ h=>WQ q1 a2 (a5 rfl) h
   ·cases h
  ·exact seq h
 ·exact seq h
def HY (scope sc:Scope):Scope:={ scope with names:=scope.names.map fun (n,k)=>if (k == .free && sc.kind == .function && sc.names.lookup n == some .cell) then (n,.cell) else (n,k) }
def Cf.inner (C:Cf) (scope:Scope):Cf:={ C with sc:=HY scope C.sc,fn:=AN scope }
theorem Cok.inner {C:Cf} {X:Cx} (ok:Cok C X) (scope:Scope) (cl:List (Str×Addr)) (a:Addr) (s:Shared) (H:Hp) (fp:List Addr):Cok (C.inner scope) (X.inner scope cl a s H fp) where
 N:=ok.N
 sc:=by
  show relabel scope X.env=HY scope C.sc;unfold relabel HY Env.kindOf;rw [ok.sc]
 nd:=ok.nd
 calm:=ok.calm
 fn:=fun _ h=>h
 room:=ok.room
 fs:=ok.fs
 cs:=ok.cs
 bl:=ok.bl
 xe:=rfl
noncomputable def NM (N:List Str) (scope:Scope):List Nat:=(List.range N.length).filter fun i=>match N[i]? with
 | some x=>(match scope.names.lookup x with | some .local=>true | some .cell=>true | _=>false)
 | none=>false
structure CC:Type 1 where
 t:CG
 c:CT
 e:CE
def LM (r:Rec) (C:Cf) (Γl:Gm) (tg:CG) (ifs:List Expr) (elt:Expr):Option CC:=if tg.J.all (fun i=>decide (i < Γl.length)) then (match ifs with
 | []=>some (CT.mk (tg.Γ Γl) [] Dm)
 | [c]=>r.T C (tg.Γ Γl) c
 | _=>none).bind fun c=>(r.E C c.Γ elt).bind fun e=>some ⟨tg,c,e⟩ else none
def cz (r:Rec) (C:Cf) (tg:CG) (ifs:List Expr) (elt:Expr):Nat->Gm->Option (Gm×CC)
 | 0,_=>none
 | n+1,Γl=>(LM r C Γl tg ifs elt).bind fun x=>if Bb Γl x.c.Γ && Bb Γl x.e.Γ then some (Γl,x) else cz r C tg ifs elt n (Bh Γl (Bh x.c.Γ x.e.Γ))
def Jc (r:Rec) (C:Cf) (Γ:Gm) (elt:Expr) (gens:List Comprehension) (scope:Scope):Option CE:=match gens with
  | [⟨tg,iter,ifs,0⟩]=>(match iter with | .Set _ _ _=>none | _=>r.I C Γ (KO tg) iter).bind fun s=>let jx:=NM C.N scope;if innerOk C.N C.sc scope jx then (cG (C.inner scope) tg).bind fun t=>(cz r (C.inner scope) t ifs elt 4 (Mf jx s.Γ)).bind fun p =>
      let J:=BC p.1 (t.J++(p.2.c.js++p.2.e.js))
      if Bb p.1 (Mf jx s.Γ) && t.J.all jx.contains then some ⟨1,LV jx s.Γ p.1,s.js++(t.J++(p.2.c.js++p.2.e.js)),match J,ifs with
        | [],[]=>Ue s.f t.f p.2.e.f
        | [],_=>Ug s.f t.f p.2.c.f p.2.e.f
        | J,[]=>PR s.f t.f J p.2.e.f
        | J,_=>PQ s.f t.f J p.2.c.f p.2.e.f⟩ else none else none
  | _=>none
theorem KY {r:Rec} {C:Cf} {tg:CG} {ifs:List Expr} {elt:Expr}:∀ {n:Nat} {Γ:Gm} {p:Gm×CC},cz r C tg ifs elt n Γ=some p->LM r C p.1 tg ifs elt=some p.2/\Bb p.1 p.2.c.Γ=true/\Bb p.1 p.2.e.Γ=true
 | 0,_,_,h=>by cases h
 | n+1,Γ,p,h=>by
  obtain ⟨x,e1,h⟩:=bind_some' (show (LM r C Γ tg ifs elt).bind _=some p from h);split at h
  ·rename_i hw;rw [ly] at hw;cases h;exact ⟨e1,hw.1,hw.2⟩
  ·exact KY h
theorem Tu {X:Cx} {Γ:Gm}:WC X [] (tT X.K Γ Γ [] Dm):=fun pins s σ H Q I h=>by
 obtain ⟨g,m,P,r,R,k,res,e,q⟩:=h;exact wpAny_tests_nil ⟨H,I,q true m g P H e Bg.refl Step.refl r⟩
theorem Ma {r:Rec} (R:OkR r) {C:Cf} {X:Cx} {Γ:Gm} {elt:Expr} {gens:List Comprehension} {scope:Scope} {pos:Pos} {c:CE} (ok:Cok C X) (h:Jc r C Γ elt gens scope=some c):PE X (.ListComp elt gens scope pos) (tE X.K Γ c.o c.Γ c.js c.f):=by
 unfold Jc at h;split at h
 ·rename_i tg iter ifs;obtain ⟨s,e1,h⟩:=bind_some' h;simp only at h;split at h
  ·rename_i hin;obtain ⟨t,e2,h⟩:=bind_some' h;obtain ⟨p,e3,h⟩:=bind_some' h;split at h
   ·rename_i hw;rw [ly] at hw;cases h;obtain ⟨f1,f2,f3⟩:=KY e3;unfold LM at f1;split at f1
    ·rename_i hj;obtain ⟨ct,f1a,f1⟩:=bind_some' f1;obtain ⟨ce,f1b,f1⟩:=bind_some' f1;have ep:p.2=⟨t,ct,ce⟩:=(Option.some.inj f1).symm;have hs:∀ x,foldedSetIterable iter X.env x=pure x:=fun x=>by cases iter<;>first | rfl | (cases e1)
     have hI:r.I C Γ (KO tg) iter=some s:=by cases iter<;>first | exact e1 | (cases e1)
     have hi:=R.I tg ok hI;have okI:=fun cl a s H fp=>ok.inner scope cl a s H fp
     have hg:∀ cl a s H fp,PG (X.inner scope cl a s H fp) tg (t.g X.K):=fun cl a s H fp=>(GT (okI cl a s H fp) e2).1
     have hsx:∀ i∈t.J,i∈NM C.N scope:=fun i hi=>mM.mp ((mW.mp hw.2) i hi)
     have hgo:Rv (NM C.N scope) (t.g X.K):=(GT (okI [] 0 X.s₀ X.H₀ []) e2).2.1 _ hsx;have ht:OK X.K p.1 (t.Γ p.1) t.J (t.g X.K) t.f:=(GT (okI [] 0 X.s₀ X.H₀ []) e2).2.2 hj;have he:∀ cl a s H fp,PE (X.inner scope cl a s H fp) elt (tE X.K ct.Γ 0 ce.Γ ce.js ce.f):=fun cl a s H fp=>DL (R.E (okI cl a s H fp) f1b)
     have hin':innerOk X.N X.env.scope scope (NM C.N scope)=true:=by rw [ok.N,ok.sc];exact hin
     rw [ep] at f2 f3 ⊢;simp only at f2 f3 ⊢;cases ifs with
     | nil =>
      cases f1a;have hc:∀ cl a s H fp,WC (X.inner scope cl a s H fp) [] (tT X.K (t.Γ p.1) (t.Γ p.1) [] Dm):=fun cl a s H fp=>Tu
      have base:=Lo (pos:=pos) hin' ok.calm hi hg hgo hc he hs;cases hJ:BC p.1 (t.J++([]++ce.js)) with
      | nil=>exact PE.imp base fun σ H Q h=>Ly ht hw.1 f3 f2 hsx hJ.symm h
      | cons j J=>exact PE.imp base fun σ H Q h=>JZ ht hw.1 f3 f2 hsx hJ.symm h
     | cons i1 ifs =>
      cases ifs with
      | nil =>
       have hc:∀ cl a s H fp,WC (X.inner scope cl a s H fp) [i1] (tT X.K (t.Γ p.1) ct.Γ ct.js ct.f):=fun cl a s H fp=>.one (R.T (okI cl a s H fp) f1a)
       have base:=Lo (pos:=pos) hin' ok.calm hi hg hgo hc he hs;cases hJ:BC p.1 (t.J++(ct.js++ce.js)) with
       | nil=>exact PE.imp base fun σ H Q h=>Lz ht hw.1 f3 f2 hsx hJ.symm h
       | cons j J=>exact PE.imp base fun σ H Q h=>JY ht hw.1 f3 f2 hsx hJ.symm h
      | cons _ _=>cases f1a
    ·cases f1
   ·cases h
  ·cases h
 ·cases h
end R
namespace Q
open PySem L2
section
end
noncomputable def enumD (k:Nat):List Dt->List Dt
 | []=>[]
 | d::ds=>.tup [.int k,d]::enumD (k+1) ds
theorem enumD_len:∀ (ds:List Dt) (k:Nat),(enumD k ds).length=ds.length
 | [],k=>rfl
 | d::ds,k=>by simp [enumD,enumD_len ds (k+1)]
section
end
section
end
section
end
section
end
section
end
noncomputable def zipD2:List Dt->List Dt->List Dt
 | x1::xs1,x2::xs2=>.tup [x1,x2]::zipD2 xs1 xs2
 | _,_=>[]
section
end
noncomputable def zipD3:List Dt->List Dt->List Dt->List Dt
 | x1::xs1,x2::xs2,x3::xs3=>.tup [x1,x2,x3]::zipD3 xs1 xs2 xs3
 | _,_,_=>[]
section
end
section
end
section
end
section
end
section
end
section
end
section
end
section
end
end Q
namespace HT
open PySem PyProof.Rows
section
variable {prog:Program} {w:World} {A:Around} {E:Value->Shared->Prop} {s:Shared}
theorem MG {α β:Type} {f g:α->Option β}:∀ {l:List α},(∀ a∈l,f a=g a)->l.filterMap f=l.filterMap g
 | [],_=>rfl
 | a::l,h=>by
  rw [nk,nk,h a mC,MG fun b hb=>h b (mE _ hb)]
theorem Mg (n:Nat):Builtin.Slice.sliceAdjust none none (-1) (n:Int)=((n:Int) - 1,-1):=by
 unfold Builtin.Slice.sliceAdjust;rfl
theorem Lm (n:Nat):Builtin.Slice.slicePlaces ((n:Int) - 1) (-1) (-1)=n:=by
 unfold Builtin.Slice.slicePlaces;have h1:¬ ((-1:Int) > 0):=by omega
 simp only [h1,if_false];have h2:(-(-1:Int))=1:=by decide
 simp only [h2,Int.ediv_one];split<;>omega
theorem QT (xs:Array Value):((List.range xs.size).filterMap fun (m:Nat)=>xs[((xs.size:Int) - 1+(m:Int) * (-1)).toNat]?).toArray=xs.toList.reverse.toArray:=by
 have e:(List.range xs.size).filterMap (fun (m:Nat)=>xs[((xs.size:Int) - 1+(m:Int) * (-1)).toNat]?)=((List.range xs.size).map fun k=>xs.size - 1 - k).filterMap (xs[·]?):=by
  rw [pB];refine MG fun m hm=>?_
  have hm:=ny.mp hm;have:((xs.size:Int) - 1+(m:Int) * (-1)).toNat=xs.size - 1 - m:=by omega
  show _=xs[xs.size - 1 - m]?;rw [this]
 rw [e,W.krv_range,List.filterMap_reverse,W.krv_all]
theorem getItem_tuple_back {t sl:Addr} {items:Array Value} {k:Tok} {Q:Value->Shared->Prop} (ht:IsTup s.heap t items) (hs:s.heap.IsSliceOf sl .none .none (.int (-1) k))
    (h:Q (.ref s.heap.objs.size) { s with heap:=s.heap.push { cls:=.type "tuple", data:=.seq items.toList.reverse.toArray } })
    (hsz:items.size<=sizeLine):wpAny (model prog w) A (getItem (.ref t) (.ref sl)) Q E s:=by
  have htake:sizeOk (.seq items.toList.reverse.toArray):=by
    show items.toList.reverse.toArray.size<=sizeLine;rw [mD,oV,Array.length_toList];exact hsz
  obtain ⟨os,hos,hcs,hds⟩:=id hs
  have hTs:s.TypeIs (.ref sl) "slice" := ⟨os,hos,hcs⟩
  unfold getItem
  try with_reducible refine wpAny_holding ?_
  first | refine wpAny_bind (wpAny_pure ?_) | skip
  refine wpAny_bind (wpAny_sequenceKey ht.typeIs (by decide) ?_)
  refine wpAny_bind (wpAny_callSpecial?_slot (name:=Str.ofString "__getitem__") ht.typeIs mm
    (wpAny_call_entry mm ht.typeIs entry_tuple_getitem ?_ (args_tuple_getitem _ _)))
  show wpAny _ _ (Builtin.Tuple.tupleItemsOf (.ref t) >>= _) _ _ s;refine wpAny_bind (tupleItemsOf_ ht ?_);refine wpAny_bind (wpAny_typeOf hTs ?_);rw [if_pos (by decide)];have ap:∀ {A':Around} {Q:Int×Int×Nat->Shared->Prop},Q ((items.size:Int) - 1,-1,items.size) s->wpAny (model prog w) A' (Builtin.Slice.sliceApplied (.ref sl) (pure (items.size:Int))) Q E s:=fun {A' Q} h=>by
    unfold Builtin.Slice.sliceApplied Builtin.Slice.sliceFields;refine wpAny_bind (wpAny_bind (wpAny_field hos hds (x:=.none) rfl (wpAny_bind (wpAny_field hos hds (x:=.none) rfl (wpAny_bind (wpAny_field hos hds (x:=.int (-1) k) rfl (wpAny_pure ?_)))))));refine wpAny_bind (EV (.int (-1) k) ?_);show wpAny _ _ (if ((-1:Int) == 0)=true then _ else _) _ _ s;rw [if_neg (by decide)];refine wpAny_bind (slicePart_none (wpAny_bind (slicePart_none (wpAny_bind (wpAny_pure ?_)))));show wpAny _ _ (match Builtin.Slice.sliceAdjust none none (-1) (items.size:Int) with | (lo,hi)=>pure (lo,(-1:Int),Builtin.Slice.slicePlaces lo hi (-1))) _ _ s;rw [Mg];show wpAny _ _ (pure (((items.size:Int) - 1),(-1:Int),Builtin.Slice.slicePlaces ((items.size:Int) - 1) (-1) (-1))) _ _ s;rw [Lm];exact wpAny_pure h
  refine wpAny_bind (ap ?_);have hno:¬ ((((items.size:Int) - 1) == 0 && (-1:Int) == 1 && items.size == items.size)=true):=by
    intro q;rw [ly,ly] at q;exact absurd q.1.2 (by decide)
  show wpAny _ _ (if (((items.size:Int) - 1) == 0 && (-1:Int) == 1 && items.size == items.size)=true then _ else _) _ _ s;rw [if_neg hno,QT]
  first
    | exact wpAny_bind (m:=Builtin.Tuple.tupleExact _) (wpAny_newObj_type (wpAny_pure ⟨_,rfl,wpAny_pure h⟩) htake)
    | exact wpAny_bind (m:=Builtin.Tuple.tupleExact _) (wpAny_newObj_type (wpAny_bind (wpAny_pure (wpAny_pure ⟨_,rfl,wpAny_pure h⟩))) htake)
    | exact wpAny_bind (wpAny_bind (m:=Builtin.Tuple.tupleExact _) (wpAny_newObj_type (wpAny_pure (wpAny_pure ⟨_,rfl,wpAny_pure h⟩)) htake))
    | exact wpAny_bind (wpAny_bind (m:=Builtin.Tuple.tupleExact _) (wpAny_newObj_type (wpAny_pure ⟨_,rfl,wpAny_pure h⟩) htake))
end
end HT
namespace L2
open PySem PySem.Spec PyProof.Rows
section
variable {X:Cx} {e st:Expr} {te ts:TE} {pos p2:Pos}
abbrev ef (K:W.Frag) (te ts:TE):TE:=fun σ H Q=>te σ H fun x H1=>ts σ H1 fun y H2=>∃ a xs b,x=.ref a/\y=.int (-1)/\DO K H2 a xs b/\∀ p,H2 p=none->Q (.ref p) (upd H2 p (bif b then .tup xs.reverse else .lst xs.reverse))
theorem XE (K:W.Frag) (he:PE X e te) (hst:PE X st ts) (hK:X.K=K:=by rfl) (hsub:∀ o i,∃ ops,subscripted (.Slice none none (some st) p2) false o i=operate ops (getItem o i):=by intro o i;exact ⟨_,by with_unfolding_all rfl⟩):PE X (.Subscript e (.Slice none none (some st) p2) pos) (ef K te ts):=by
 subst hK;intro pins s σ H Q I h;refine Subscript_ (Ap (he pins s σ H _ I h) fun v s1 ⟨x,H1,I1,r1,q1⟩=>?_);refine wpAny_Slice ?_;rw [evalPart_none];refine wpAny_pure ?_;refine wpAny_pure ?_;rw [evalPart_some];refine Ap (hst pins s1 σ H1 _ I1 q1) fun vs s3 ⟨y,H3,I3,r3,q3⟩=>?_
 obtain ⟨a,xs,b,rfl,rfl,hx,q⟩:=q3;cases r1;obtain ⟨t,rfl⟩:=r3
 have I4:Inv X pins σ H3 { s3 with heap:=s3.heap.push { cls:=.type "slice", data:=.fields #[.none,.none,.int (-1) t] } }:=I3.kept (t':=s3.toks) fun b ob q=>lx _ q
 show wpAny (model X.prog X.w) X.A (subscriptTail e (.Slice none none (some st) p2) (.ref a) (.ref s3.heap.objs.size)) (EP X pins σ Q) X.xe { s3 with heap:=s3.heap.push { cls:=.type "slice", data:=.fields #[.none,.none,.int (-1) t] } }
 obtain ⟨ops,hops⟩:=hsub (.ref a) (.ref s3.heap.objs.size);cases b with
 | false =>
  obtain ⟨its,r,ht,hz⟩:=I4.list hx;have hlen:=r.length;refine tail_any (ops:=ops) ht.isList.typeIs slot_list_getitem.lookup ?_ hops;refine wpAny_getItem_list_slice ht.isList (Heap.IsSliceOf.new ..) .none .none (.int (-1) t) (by decide) ?_ (by rw [mD];omega);rw [W.krv_pick];rw [show its.toArray.toList.reverse=its.reverse by simp]
  have I5:=I4.laid (t':=s3.toks) (o:=.lst xs.reverse) (h':=(s3.heap.push { cls:=.type "slice", data:=.fields #[.none,.none,.int (-1) t] }).push { cls:=.type "list", data:=.seq its.reverse.toArray }) (fun b ob q=>lx _ q) (mF _) ⟨by rw [oV];exact hz,its.reverse,0,Ek r,mK _ rfl⟩
  exact ⟨.ref _,_,I5,rfl,q _ (I4.hok.fresh (mF _))⟩
 | true =>
  obtain ⟨its,r,ht,hz⟩:=I4.tuple hx;have hlen:=r.length;refine tail_any (ops:=ops) ht.typeIs mm.lookup ?_ hops;refine HT.getItem_tuple_back ht (Heap.IsSliceOf.new ..) ?_ (by rw [mD];omega);rw [show its.toArray.toList.reverse=its.reverse by simp]
  have I5:=I4.laid (t':=s3.toks) (o:=.tup xs.reverse) (h':=(s3.heap.push { cls:=.type "slice", data:=.fields #[.none,.none,.int (-1) t] }).push { cls:=.type "tuple", data:=.seq its.reverse.toArray }) (fun b ob q=>lx _ q) (mF _) ⟨by rw [oV];exact hz,its.reverse,Ek r,FQ.new _ _⟩
  exact ⟨.ref _,_,I5,rfl,q _ (I4.hok.fresh (mF _))⟩
end
end L2
namespace Q
open PySem L2
section
end
end Q
namespace R
open PySem L2
noncomputable def cB (f:Expr) (es:List Expr):Option (List Expr):=match f,es with
 | .Name x _,[.Call (.Name y _) (a::es) [] _]=>if x == ("list" : Str) && y == ("range" : Str) then some (a::es) else none
 | _,_=>none
theorem Qj {f:Expr} {es as:List Expr} (h:cB f es=some as):∃ p a es' p2 pos2,f=.Name "list" p/\as=a::es'/\es=[.Call (.Name "range" p2) (a::es') [] pos2]:=by
 unfold cB at h;split at h
 ·split at h
  ·rename_i e;rw [ly,beq_iff_eq,beq_iff_eq] at e;obtain ⟨rfl,rfl⟩:=e;cases h;exact ⟨_,_,_,_,_,rfl,rfl,rfl⟩
  ·cases h
 ·cases h
def lK (r:Rec) (C:Cf) (Γ:Gm) (as:List Expr):Option CE:=if Ho C.sc "list" && Ho C.sc "range" && C.bl.contains "list" && C.bl.contains "range" then (r.A C Γ (List.replicate as.length true) as).bind fun c=>some ⟨1,c.Γ,c.js,DG C.T.lr (AQ c.as)⟩ else none
noncomputable def aG (f:Expr) (es:List Expr):Option (List Expr):=match f,es with
 | .Name x _,[.Call (.Name y _) (a::es) [] _]=>if x == ("tuple" : Str) && y == ("range" : Str) then some (a::es) else none
 | _,_=>none
theorem QC {f:Expr} {es as:List Expr} (h:aG f es=some as):∃ p a es' p2 pos2,f=.Name "tuple" p/\as=a::es'/\es=[.Call (.Name "range" p2) (a::es') [] pos2]:=by
 unfold aG at h;split at h
 ·split at h
  ·rename_i e;rw [ly,beq_iff_eq,beq_iff_eq] at e;obtain ⟨rfl,rfl⟩:=e;cases h;exact ⟨_,_,_,_,_,rfl,rfl,rfl⟩
  ·cases h
 ·cases h
def lI (r:Rec) (C:Cf) (Γ:Gm) (as:List Expr):Option CE:=if Ho C.sc "tuple" && Ho C.sc "range" && C.bl.contains "tuple" && C.bl.contains "range" then (r.A C Γ (List.replicate as.length true) as).bind fun c=>some ⟨1,c.Γ,c.js,DG C.T.tr (AQ c.as)⟩ else none
noncomputable def cA (f:Expr) (es:List Expr):Option Expr:=match f,es with
 | .Name x _,[.Call (.Name y _) [a] [] _]=>if x == ("list" : Str) && y == ("reversed" : Str) then some a else none
 | _,_=>none
theorem Qi {f a:Expr} {es:List Expr} (h:cA f es=some a):∃ p p2 pos2,f=.Name "list" p/\es=[.Call (.Name "reversed" p2) [a] [] pos2]:=by
 unfold cA at h;split at h
 ·split at h
  ·rename_i e;rw [ly,beq_iff_eq,beq_iff_eq] at e;obtain ⟨rfl,rfl⟩:=e;cases h;exact ⟨_,_,_,rfl,rfl⟩
  ·cases h
 ·cases h
def kR (r:Rec) (C:Cf) (Γ:Gm) (a:Expr):Option CE:=if Ho C.sc "list" && Ho C.sc "reversed" && C.bl.contains "list" && C.bl.contains "reversed" && Aq a then (Rh r C Γ a).bind fun x=>some ⟨1,x.Γ,x.js++[],DG (one C.T.lv) (AQ [x.a])⟩ else none
theorem dW {r:Rec} (R:OkR r) {C:Cf} {X:Cx} {Γ:Gm} {a:Expr} {p p2 pos2 pos:Pos} {c:CE} (ok:Cok C X) (h:kR r C Γ a=some c):PE X (.Call (.Name "list" p) [.Call (.Name "reversed" p2) [a] [] pos2] [] pos) (tE X.K Γ c.o c.Γ c.js c.f):=by
 unfold kR at h;split at h
 ·rename_i hg;simp only [ly] at hg;obtain ⟨⟨⟨⟨g1,g2⟩,g3⟩,g4⟩,g5⟩:=hg;obtain ⟨x,e1,h⟩:=bind_some' h;cases h;obtain ⟨a1,a2⟩:=Gn R ok e1;exact PE.imp (NL ok.calm (Bd ok g1) (ok.bl _ (mM.mp g3)) (Bd ok g2) (ok.bl _ (mM.mp g4)) a1 rfl rfl (AG g5) rfl) fun _ _ _ h=>Ba (C.T.lvok X ok.gx) a2 h
 ·cases h
def OE (r:Rec) (C:Cf) (Γ:Gm) (f:Expr) (es:List Expr) (pos:Pos):Option CE:=match cB f es with
 | some as=>lK r C Γ as
 | none=>match cA f es with
  | some a=>kR r C Γ a
  | none=>match aG f es with
   | some as=>lI r C Γ as
   | none=>Pi r C Γ f es pos
theorem RZ {r:Rec} (R:OkR r) {C:Cf} {X:Cx} {Γ:Gm} {f:Expr} {es:List Expr} {pos:Pos} {c:CE} (ok:Cok C X) (h:OE r C Γ f es pos=some c):PE X (.Call f es [] pos) (tE X.K Γ c.o c.Γ c.js c.f):=by
 unfold OE at h;split at h
 ·rename_i as e;obtain ⟨p,a,es',p2,pos2,rfl,rfl,rfl⟩:=Qj e;unfold lK at h;split at h
  ·rename_i hg;simp only [ly] at hg;obtain ⟨⟨⟨g1,g2⟩,g3⟩,g4⟩:=hg;obtain ⟨c1,e1,h⟩:=bind_some' h;cases h;obtain ⟨a1,a2,a3,a4,_⟩:=R.A ok e1;rw [nC,ly] at a4;exact PE.imp (NK ok.calm (Bd ok g1) (ok.bl _ (mM.mp g3)) (Bd ok g2) (ok.bl _ (mM.mp g4)) a1 rfl rfl (AG a4.1) (BA a4.2)) fun _ _ _ h=>Ba (C.T.lrok X ok.gx) a2 h
  ·cases h
 ·split at h
  ·rename_i a e;obtain ⟨p,p2,pos2,rfl,rfl⟩:=Qi e;exact dW R ok h
  ·split at h
   ·rename_i as e;obtain ⟨p,a,es',p2,pos2,rfl,rfl,rfl⟩:=QC e;unfold lI at h;split at h
    ·rename_i hg;simp only [ly] at hg;obtain ⟨⟨⟨g1,g2⟩,g3⟩,g4⟩:=hg;obtain ⟨c1,e1,h⟩:=bind_some' h;cases h;obtain ⟨a1,a2,a3,a4,_⟩:=R.A ok e1;rw [nC,ly] at a4;exact PE.imp (QW ok.calm (Bd ok g1) (ok.bl _ (mM.mp g3)) (Bd ok g2) (ok.bl _ (mM.mp g4)) a1 rfl rfl (AG a4.1) (BA a4.2)) fun _ _ _ h=>Ba (C.T.trrok X ok.gx) a2 h
    ·cases h
   ·exact VY R ok h
noncomputable def gn:Expr->Bool
 | .UnaryOp .USub (.Constant (.int 1) _ _) _=>true
 | _=>false
def dP (r:Rec) (C:Cf) (Γ:Gm) (a st:Expr):Option CE:=if gn st then (Jj r C Γ a st).bind fun p=>some ⟨1,p.2.Γ,jj p,DG (two C.T.rv) (AQ [p.1.a,p.2.a])⟩ else none
theorem YL {r:Rec} (R:OkR r) {C:Cf} {X:Cx} {Γ:Gm} {a st:Expr} {p2 pos:Pos} {c:CE} (ok:Cok C X) (h:dP r C Γ a st=some c):PE X (.Subscript a (.Slice none none (some st) p2) pos) (tE X.K Γ c.o c.Γ c.js c.f):=by
 unfold dP at h;split at h
 ·rename_i hm;obtain ⟨p,e1,h⟩:=bind_some' h;cases h;obtain ⟨h1,h2,h3⟩:=FO R ok e1;unfold gn at hm;split at hm
  ·exact PE.imp (XE X.K h1 h2 rfl (by intro o i;exact ⟨_,by with_unfolding_all rfl⟩)) fun _ _ _ h=>Ba (C.T.rvok X ok.gx) h3 h
  ·cases hm
 ·cases h
def ZC (r:Rec) (C:Cf) (Γ:Gm) (e:Expr):Option CE:=match e with
 | .Constant k _ _=>VX Γ k
 | .Name x _=>VW C Γ x
 | .BinOp a op b _=>ig r C Γ a op b
 | .UnaryOp .USub a _=>iZ r C Γ a
 | .UnaryOp .Not a _=>iY r C Γ a
 | .Compare a [op] [b] _=>(OC r C Γ a op b).map eO
 | .Compare a [op,op'] [b,c] _=>(OD r C Γ a op b op' c).map eO
 | .BoolOp op vs pos=>Sg r C Γ op vs pos
 | .IfExp c a b _=>ic r C Γ c a b
 | .Call f es [] pos=>OE r C Γ f es pos
 | .Tuple es _ _=>iW r C Γ es
 | .List es _=>ib r C Γ es
 | .Dict [] [] _=>some ⟨1,Γ,[],Ub⟩
 | .Subscript a (.Slice lo hi none _) _=>lJ r C Γ a lo hi
 | .Subscript a (.Slice none none (some st) _) _=>dP r C Γ a st
 | .Subscript a b _=>if Hd b then kS r C Γ a b else none
 | .ListComp e gens sc _=>Jc r C Γ e gens sc
 | _=>none
theorem Se {r:Rec} (R:OkR r) {C:Cf} {X:Cx} {Γ:Gm} {e:Expr} {c:CE} (ok:Cok C X) (h:ZC r C Γ e=some c):PE X e (tE X.K Γ c.o c.Γ c.js c.f):=by
 match e,h with
 | .Constant k j pos,h=>exact RX h
 | .Name x pos,h=>exact VV ok h
 | .BinOp a op b pos,h=>exact YY R ok h
 | .UnaryOp op a pos,h =>
  cases op with
  | USub=>exact YQ R ok h
  | Not =>
   obtain ⟨c1,e1,h⟩:=bind_some' (show (r.E C Γ a).bind _=some c from h);cases h;exact PE.imp (bQ (DL (R.E ok e1))) fun _ _ _ h=>aJ h
  | _=>cases h
 | .Compare a ops bs pos,h =>
  match ops,bs,h with
  | [op],[b],h =>
   cases q:OC r C Γ a op b with
   | none=>replace h:(OC r C Γ a op b).map eO=some c:=h;rw [q] at h;cases h
   | some t =>
    replace h:(OC r C Γ a op b).map eO=some c:=h;rw [q] at h;cases h;exact (Pg R ok q).2 1
  | [op,op'],[b,d],h =>
   cases q:OD r C Γ a op b op' d with
   | none=>replace h:(OD r C Γ a op b op' d).map eO=some c:=h;rw [q] at h;cases h
   | some t =>
    replace h:(OD r C Γ a op b op' d).map eO=some c:=h;rw [q] at h;cases h;exact (Ph R ok q).2 1
  | [],_,h=>cases h
  | [_],[],h=>cases h
  | [_],_::_::_,h=>cases h
  | [_,_],[],h=>cases h
  | [_,_],[_],h=>cases h
  | [_,_],_::_::_::_,h=>cases h
  | _::_::_::_,_,h=>cases h
 | .BoolOp op vs pos,h=>exact QG R ok h
 | .IfExp c a b pos,h=>exact YT R ok h
 | .Call f es ks pos,h =>
  cases ks with
  | nil=>exact RZ R ok h
  | cons _ _=>cases h
 | .Tuple es k pos,h=>exact YJ R ok h
 | .List es pos,h=>exact YS R ok h
 | .Dict ks vs pos,h =>
  cases ks with
  | nil =>
   cases vs with
   | nil=>cases h;exact fZ
   | cons _ _=>cases h
  | cons _ _=>cases h
 | .Subscript a b pos,h =>
  have ix:Hd b=true->(if Hd b then kS r C Γ a b else none)=some c->PE X (.Subscript a b pos) (tE X.K Γ c.o c.Γ c.js c.f):=fun hb h=>by
   rw [if_pos hb] at h;exact dX R ok hb h
  match b,h with
  | .Slice lo hi st p2,h =>
   cases st with
   | none=>exact dN R ok h
   | some st =>
    cases lo with
    | none =>
     cases hi with
     | none=>exact YL R ok h
     | some _=>cases h
    | some _=>cases h
  | .NamedExpr ..,h | .BinOp ..,h | .Lambda ..,h | .Dict ..,h | .Set ..,h | .ListComp ..,h | .SetComp ..,h | .DictComp ..,h | .GeneratorExp ..,h | .Await ..,h | .Yield ..,h | .YieldFrom ..,h | .Call ..,h | .FormattedValue ..,h | .JoinedStr ..,h | .Constant ..,h | .Attribute ..,h | .Subscript ..,h | .Starred ..,h | .Name ..,h | .List ..,h | .Tuple ..,h | .UnaryOp ..,h | .BoolOp ..,h | .IfExp ..,h | .Compare ..,h=>exact ix rfl h
 | .ListComp e gens sc pos,h=>exact Ma R ok h
 | .NamedExpr ..,h | .Lambda ..,h | .Set ..,h | .SetComp ..,h | .DictComp ..,h | .GeneratorExp ..,h | .Await ..,h | .Yield ..,h | .YieldFrom ..,h | .FormattedValue ..,h | .JoinedStr ..,h | .Attribute ..,h | .Starred ..,h | .Slice ..,h=>cases h
noncomputable def NS:Expr->Bool
 | .ListComp ..=>false
 | .SetComp ..=>false
 | .DictComp ..=>false
 | _=>true
theorem HD {e:Expr} {t:Option Expr} {l:Nat} {env:Env} (h:NS e=true):swapsWith e t l env=pure false:=by
 cases e<;>first | rfl | (cases h)
theorem Rz {K:W.Frag} {Γ Γ' Γ2:Gm} {js:List Nat} {o:Nat} {f:Ev Dv} {σ:St} {H:Hp} {Q:VK} (hw:Bb Γ2 Γ'=true) (h:tE K Γ o Γ2 js f σ H Q):tE K Γ o Γ' js f σ H Q:=by
 obtain ⟨g,m,P,r,R,k,res,e,q⟩:=h;refine ⟨g,m,P,r,R,k,res,e,fun b m' g' P' Pv v H' hk ag s rv r1 n=>?_⟩;obtain ⟨g2,P2,s2,r2⟩:=r1.weaken hw;have nn:Disj Pv P':=fun a q z=>n a z q
 refine q b m' g2 P2 Pv v H' hk ag (s.trans ((s2.frame (R:=Pv)).sub (fun _ z=>z) fun _ z=>z)) (rv.held s2 r1.fpOk nn) r2 fun a q z=>s2.out rv.fpOk nn a z q
def Sq (Γ:Gm):CS:=⟨some Γ,[],Hx,false,false,false⟩
def iX (r:Rec) (C:Cf) (Γ:Gm) (e:Expr):Option CS:=(match Xe C e with
 | some i=>(match Γ.getD i none with | some o=>some (CE.mk o (Γ.set i none) [] (PM i)) | none=>none)
 | none=>r.E C Γ e).bind fun c=>if Bb C.F.Γr c.Γ && (C.F.ro == 0 || c.o == C.F.ro) then some ⟨none,c.js,Zf c.f,true,false,false⟩ else none
theorem YM {r:Rec} (R:OkR r) {C:Cf} {X:Cx} {Γl:Option Gm} {Γ:Gm} {e:Expr} {pos:Pos} {c:CS} (ok:Cok C X) (h:iX r C Γ e=some c):PS X (.Return (some e) pos) (tS X.K C.F Γl Γ c.Γ c.js c.f):=by
  obtain ⟨c1,e1,h⟩:=bind_some' h;split at h
  · rename_i hw;simp only [ly,pT,beq_iff_eq] at hw;cases h;have he:PE X e (tE X.K Γ c1.o c1.Γ c1.js c1.f):=by
      split at e1
      · rename_i i hi;split at e1
        · rename_i o ho;cases e1;exact fX (Dg ok hi) (Be ho)
        · cases e1
      · exact R.E ok e1
    have he2:PE X e (tE X.K Γ C.F.ro c1.Γ c1.js c1.f):=by
      rcases hw.2 with z | z
      · rw [z];exact DL he
      · rw [<- z];exact he
    exact fP (PE.imp he2 fun _ _ _ h=>Rz hw.1 h)
  · cases h
def dZ (r:Rec) (C:Cf) (Γ:Gm) (e:Expr):Option CS:=if NS e then (r.E C Γ e).bind fun c=>some ⟨some c.Γ,c.js,Uj c.f,false,false,false⟩ else none
theorem Pf {r:Rec} (R:OkR r) {C:Cf} {X:Cx} {Γl:Option Gm} {Γ:Gm} {e:Expr} {pos:Pos} {c:CS} (ok:Cok C X) (h:dZ r C Γ e=some c):PS X (.Expr e pos) (tS X.K C.F Γl Γ c.Γ c.js c.f):=by
 unfold dZ at h;split at h
 ·rename_i hn;obtain ⟨c1,e1,h⟩:=bind_some' h;cases h;exact af (R.E ok e1) (HD hn)
 ·cases h
def Pe (C:Cf) (x:Str) (c:CE):Option CS:=(Ks C x).bind fun i=>if decide (i < c.Γ.length) && !C.F.io.contains i then some ⟨some (c.Γ.set i (some c.o)),c.js++[i],JT c.f (eZ i),false,false,false⟩ else none
theorem MZ {C:Cf} {X:Cx} {Γl:Option Gm} {Γ:Gm} {x:Str} {e:Expr} {pos pos':Pos} {c1:CE} {c:CS} (ok:Cok C X) (he:PE X e (tE X.K Γ c1.o c1.Γ c1.js c1.f)) (hs:swapsWith e (some (.Name x pos')) pos.line X.env=pure false) (h:Pe C x c1=some c):PS X (.Assign [.Name x pos'] e pos) (tS X.K C.F Γl Γ c.Γ c.js c.f):=by
 obtain ⟨i,e1,h⟩:=bind_some' h;split at h
 ·rename_i hw;simp only [ly,decide_eq_true_eq,nY] at hw;cases h;obtain ⟨h1,h2,h3⟩:=Gk ok e1;exact fN ok.nd h1 h2 (fun z=>by rw [mM.mpr z] at hw;cases hw.2) hw.1 he hs h3
 ·cases h
def jh (sc:Scope) (x:Str) (pl:Nat) (scope:Scope) (vl:Nat):Bool:=(if sc.kind.isAnnotationScope then ScopeKind.function else sc.kind) == .function && sc.names.lookup x == some .local && pl == vl && !(scope.names.any fun (n,k)=>n == x && (k == .local || k == .cell))
theorem SX {X:Cx} {C:Cf} (ok:Cok C X) {x:Str} {pos':Pos} {elt:Expr} {gens:List Comprehension} {scope:Scope} {pos:Pos} {l:Nat}:swapsWith (.ListComp elt gens scope pos) (some (.Name x pos')) l X.env=pure (jh C.sc x pos'.line scope pos.line):=by
 unfold jh;rw [<- ok.sc];rfl
theorem RY {r:Rec} (R:OkR r) {C:Cf} {X:Cx} {Γ:Gm} {elt:Expr} {gens:List Comprehension} {scope:Scope} {pos:Pos} {c:CE} (ok:Cok C X) (h:Jc r C Γ elt gens scope=some c) :
    ∃ t:TE,(∀ σ H Q,tE X.K Γ c.o c.Γ c.js c.f σ H Q->t σ H Q)/\∀ {i x pos' spos},X.N[i]?=some x->Loc X.env.scope x->(X.fn x=true\/X.env.scope.names.lookup x=some .local)->swapsWith (.ListComp elt gens scope pos) (some (.Name x pos')) spos.line X.env=pure true->PS X (.Assign [.Name x pos'] (.ListComp elt gens scope pos) spos) (Mt t (Dk i)):=by
  unfold Jc at h;split at h
  · rename_i tg iter ifs;obtain ⟨s,e1,h⟩:=bind_some' h;simp only at h;split at h
    · rename_i hin;obtain ⟨t,e2,h⟩:=bind_some' h;obtain ⟨p,e3,h⟩:=bind_some' h;split at h
      · rename_i hw;rw [ly] at hw;cases h;obtain ⟨f1,f2,f3⟩:=KY e3;unfold LM at f1;split at f1
        · rename_i hj;obtain ⟨ct,f1a,f1⟩:=bind_some' f1;obtain ⟨ce,f1b,f1⟩:=bind_some' f1;have ep:p.2=⟨t,ct,ce⟩:=(Option.some.inj f1).symm;have hs:∀ x,foldedSetIterable iter X.env x=pure x:=fun x=>by cases iter<;>first | rfl | (cases e1)
          have hI:r.I C Γ (KO tg) iter=some s:=by cases iter<;>first | exact e1 | (cases e1)
          have hi:=R.I tg ok hI;have okI:=fun cl a s H fp=>ok.inner scope cl a s H fp
          have hg:∀ cl a s H fp,PG (X.inner scope cl a s H fp) tg (t.g X.K):=fun cl a s H fp=>(GT (okI cl a s H fp) e2).1
          have hsx:∀ i∈t.J,i∈NM C.N scope:=fun i hi=>mM.mp ((mW.mp hw.2) i hi)
          have hgo:Rv (NM C.N scope) (t.g X.K):=(GT (okI [] 0 X.s₀ X.H₀ []) e2).2.1 _ hsx;have ht:OK X.K p.1 (t.Γ p.1) t.J (t.g X.K) t.f:=(GT (okI [] 0 X.s₀ X.H₀ []) e2).2.2 hj;have he:∀ cl a s H fp,PE (X.inner scope cl a s H fp) elt (tE X.K ct.Γ 0 ce.Γ ce.js ce.f):=fun cl a s H fp=>DL (R.E (okI cl a s H fp) f1b)
          have hin':innerOk X.N X.env.scope scope (NM C.N scope)=true:=by rw [ok.N,ok.sc];exact hin
          rw [ep] at f2 f3 ⊢;simp only at f2 f3 ⊢;cases ifs with
          | nil =>
            cases f1a;have hc:∀ cl a s H fp,WC (X.inner scope cl a s H fp) [] (tT X.K (t.Γ p.1) (t.Γ p.1) [] Dm):=fun cl a s H fp=>Tu
            refine ⟨_,?_,fun {i x pos' spos} hix hx hf hsw=>Lj ok.nd hix hx hin' ok.calm hi hg hgo hc he hsw hs hf⟩;intro σ H Q h;cases hJ:BC p.1 (t.J++([]++ce.js)) with
            | nil=>rw [hJ] at h;exact Ly ht hw.1 f3 f2 hsx hJ.symm h
            | cons j J=>rw [hJ] at h;exact JZ ht hw.1 f3 f2 hsx hJ.symm h
          | cons i1 ifs =>
            cases ifs with
            | nil =>
              have hc:∀ cl a s H fp,WC (X.inner scope cl a s H fp) [i1] (tT X.K (t.Γ p.1) ct.Γ ct.js ct.f):=fun cl a s H fp=>.one (R.T (okI cl a s H fp) f1a)
              refine ⟨_,?_,fun {i x pos' spos} hix hx hf hsw=>Lj ok.nd hix hx hin' ok.calm hi hg hgo hc he hsw hs hf⟩;intro σ H Q h;cases hJ:BC p.1 (t.J++(ct.js++ce.js)) with
              | nil=>rw [hJ] at h;exact Lz ht hw.1 f3 f2 hsx hJ.symm h
              | cons j J=>rw [hJ] at h;exact JY ht hw.1 f3 f2 hsx hJ.symm h
            | cons _ _=>cases f1a
        · cases f1
      · cases h
    · cases h
  · cases h
def Zr (r:Rec) (C:Cf) (Γ:Gm) (x:Str) (elt:Expr) (gens:List Comprehension) (scope:Scope):Option CS:=(Jc r C Γ elt gens scope).bind fun c=>Pe C x c
theorem Vc {r:Rec} (R:OkR r) {C:Cf} {X:Cx} {Γl:Option Gm} {Γ:Gm} {x:Str} {elt:Expr} {gens:List Comprehension} {scope:Scope} {pos' cpos pos:Pos} {c:CS} (ok:Cok C X) (h:Zr r C Γ x elt gens scope=some c):PS X (.Assign [.Name x pos'] (.ListComp elt gens scope cpos) pos) (tS X.K C.F Γl Γ c.Γ c.js c.f):=by
 obtain ⟨c1,e1,h⟩:=bind_some' h;cases hb:jh C.sc x pos'.line scope cpos.line with
 | false=>exact MZ ok (Ma R ok e1) (by rw [SX ok,hb]) h
 | true =>
  obtain ⟨i,e2,h⟩:=bind_some' h;split at h
  ·rename_i hw;simp only [ly,decide_eq_true_eq,nY] at hw;cases h;obtain ⟨h1,h2,h3⟩:=Gk ok e2;obtain ⟨t,q1,q2⟩:=RY R (pos:=cpos) ok e1;refine PS.imp (q2 h1 h2 h3 (by rw [SX ok,hb])) fun D σ H h=>q1 _ _ _ (Og hw.1 (fun z=>by rw [mM.mpr z] at hw;cases hw.2) h)
  ·cases h
noncomputable def gc:Expr->Bool
 | .Tuple ..=>false
 | _=>true
theorem QE {tg e:Expr} {env:Env} (h:gc e=true):swappedStores [tg] e env=pure none:=by
 cases e<;>first | (cases h;done) | (cases tg<;>rfl)
theorem Of {tg e:Expr} {l:Nat} {env:Env} (h:NS e=true):swapsWithSole [tg] e l env=pure false:=HD h
def Vb (r:Rec) (C:Cf) (Γ:Gm) (es:List Expr) (k:Nat) (p:Pos) (e:Expr):Option CS:=if gc e && NS e then (r.E C Γ e).bind fun c=>(cG C (.Tuple es k p)).bind fun t=>if t.J.all (fun i=>decide (i < c.Γ.length) && !C.F.io.contains i) then some ⟨some (t.Γ c.Γ),c.js++t.J,JT c.f t.f,false,false,false⟩ else none else none
theorem Va {r:Rec} (R:OkR r) {C:Cf} {X:Cx} {Γl:Option Gm} {Γ:Gm} {es:List Expr} {k:Nat} {p pos:Pos} {e:Expr} {c:CS} (ok:Cok C X) (h:Vb r C Γ es k p e=some c):PS X (.Assign [.Tuple es k p] e pos) (tS X.K C.F Γl Γ c.Γ c.js c.f):=by
 unfold Vb at h;split at h
 ·rename_i hn;rw [ly] at hn;obtain ⟨c1,e1,h⟩:=bind_some' h;obtain ⟨t,e2,h⟩:=bind_some' h;split at h
  ·rename_i hw;cases h;obtain ⟨g1,_,g3⟩:=GT ok e2;rw [mW] at hw;refine fU (DL (R.E ok e1)) g1 (g3 (by rw [mW];exact fun i hi=>(nW.mp (hw i hi)).1)) (fun i hi z=>?_) (Of hn.2) (QE hn.1) rfl;have:=(nW.mp (hw i z)).2;rw [mM.mpr hi] at this;cases this
  ·cases h
 ·cases h
def iJ (i j:Nat) (fa:Ev (List Dv)):Es:=fun R m k=>fa R m fun ds m1=>match ds with | [a,b]=>k.nx ((m1.set i a).set j b) | _=>none
def bW (sc:Scope) (x y:Str) (px py:Pos) (a b:Expr):Bool:=(match sc.kind with | .function=>true | _=>false) && (match sc.names.lookup x with | some .local=>true | _=>false) && (match sc.names.lookup y with | some .local=>true | _=>false) && !(x == y) && (py.line == px.line) && Aq a && Aq b && !(foldedForSure 8 a && foldedForSure 8 b) && !(constantsAlone 8 a && constantsAlone 8 b)
theorem bV {env:Env} {x y:Str} {px py pt pt2:Pos} {kt k2:Nat} {a b:Expr} (h:bW env.scope x y px py a b=true):swappedStores [.Tuple [.Name x px,.Name y py] kt pt] (.Tuple [a,b] k2 pt2) env=pure (some [x,y])/\env.scope.names.lookup x=some .local/\env.scope.names.lookup y=some .local:=by
 unfold bW at h;simp only [ly,nY] at h;obtain ⟨⟨⟨⟨⟨⟨⟨⟨h1,h2⟩,h3⟩,h4⟩,h5⟩,h6⟩,h7⟩,h8⟩,h9⟩:=h;have k1:env.scope.kind=.function:=by split at h1;(assumption);(cases h1)
 have k2:env.scope.names.lookup x=some .local:=by split at h2;(assumption);(cases h2)
 have k3:env.scope.names.lookup y=some .local:=by split at h3;(assumption);(cases h3)
 refine ⟨?_,k2,k3⟩;have kx:env.kindOf x=some .local:=k2;have ky:env.kindOf y=some .local:=k3;have yx:(y == x)=false:=by
  cases q:y == x with
  | false=>rfl
  | true=>rw [beq_iff_eq.mp q,beq_self_eq_true] at h4;cases h4
 unfold swappedStores;simp [Env.blockKind,k1,ScopeKind.isAnnotationScope,kx,ky,beq_iff_eq.mp h5,h8,h9,List.eraseDups_cons,yx,h4,Expr.pos];rintro (z | z)
 ·cases a<;>first | (cases z;done) | (cases h6;done)
 ·cases b<;>first | (cases z;done) | (cases h7;done)
def dQ (r:Rec) (C:Cf) (Γ:Gm) (x y:Str) (px py:Pos) (a b:Expr):Option CS:=if bW C.sc x y px py a b then (r.A C Γ [] [a,b]).bind fun c=>(DC C.N x).bind fun i=>(DC C.N y).bind fun j=>if decide (i < c.Γ.length) && decide (j < c.Γ.length) && !(i == j) && !C.F.io.contains i && !C.F.io.contains j then some ⟨some ((c.Γ.set i (some 0)).set j (some 0)),c.js++([i]++[j]),iJ i j (AQ c.as),false,false,false⟩ else none else none
theorem YN {r:Rec} (R:OkR r) {C:Cf} {X:Cx} {Γl:Option Gm} {Γ:Gm} {x y:Str} {px py pt pt2 pos:Pos} {kt k2:Nat} {a b:Expr} {c:CS} (ok:Cok C X) (h:dQ r C Γ x y px py a b=some c):PS X (.Assign [.Tuple [.Name x px,.Name y py] kt pt] (.Tuple [a,b] k2 pt2) pos) (tS X.K C.F Γl Γ c.Γ c.js c.f):=by
 unfold dQ at h;split at h
 ·rename_i hp;obtain ⟨c1,e1,h⟩:=bind_some' h;obtain ⟨i,e2,h⟩:=bind_some' h;obtain ⟨j,e3,h⟩:=bind_some' h;split at h
  ·rename_i hw;simp only [ly,decide_eq_true_eq,nY,beq_eq_false_iff_ne] at hw;obtain ⟨⟨⟨⟨w1,w2⟩,w3⟩,w4⟩,w5⟩:=hw;cases h;obtain ⟨a1,a2,a3,a4,a5⟩:=R.A ok e1;rw [<- ok.sc] at hp;obtain ⟨p1,p2,p3⟩:=bV (pt:=pt) (pt2:=pt2) (kt:=kt) (k2:=k2) hp;refine PS.imp (bA ok.calm ok.nd (by rw [ok.N];exact Bj e2) (by rw [ok.N];exact Bj e3) w3 p2 p3 a1 p1 rfl) fun D σ H h=>?_
   obtain ⟨g,m,P,r',R',k,res,e,q⟩:=h;refine AM c1.as r' a2 e fun ds m1 g1 P1 vs H1 hk ag s ar r1=>?_
   have rp:=ar.reps (a5 rfl)
   match ds,hk,rp with
   | [d1,d2],hk,rp =>
    obtain ⟨v1,us,rfl,h1,rp⟩:=Aw rp;obtain ⟨v2,us2,rfl,h2,rp⟩:=Aw rp;cases BD rp;obtain ⟨P2,r2,s2⟩:=r1.setNew w1 h1 fun _ z=>z.elim
    obtain ⟨P3,r3,s3⟩:=r2.setNew (by rw [ma];exact w2) h2 fun _ z=>z.elim
    refine ⟨v1,v2,rfl,q.nx _ _ g1 P3 _ H1 rfl hk (ag.trans (Bg.set.trans Bg.set)) (s.less fun a z=>(s3 a z).elim (fun z=>(s2 a z).elim id False.elim) False.elim) ((Io.set ?_).trans (Io.set ?_)) r3⟩
    ·exact fun z=>by rw [mM.mpr z] at w4;cases w4
    ·exact fun z=>by rw [mM.mpr z] at w5;cases w5
   | [],hk,_=>cases hk
   | [_],hk,_=>cases hk
   | _::_::_::_,hk,_=>cases hk
  ·cases h
 ·cases h
def VP (r:Rec) (C:Cf) (Γ:Gm) (x k e:Expr):Option CS:=if NS e && Hd k then (Xe C x).bind fun i=>(r.E C Γ e).bind fun c=>(Rh r C c.Γ k).bind fun a=>if (c.Γ.getD i none).isSome && a.Γ.getD i none == some 1 then some ⟨some a.Γ,c.js++((a.js++[])++[i]),Ze i C.T.st c.f (AQ [a.a]),false,false,false⟩ else none else none
theorem QD {X:Cx} {x k:Expr} {tpos:Pos} (hk:Hd k=true):∀ v,assign (.Subscript x k tpos) X.env v=(do
      let ov <- holding [v] (eval x X.env)
      let iv <- holding [v,ov] (eval k X.env)
      standAt tpos
      holding [v,ov,iv] (setItem ov iv v)
      release [v,ov,iv] []):=fun v=>by
  cases k<;>first | rfl | (cases hk)
theorem VO {r:Rec} (R:OkR r) {C:Cf} {X:Cx} {Γl:Option Gm} {Γ:Gm} {x k e:Expr} {tpos pos:Pos} {c:CS} (ok:Cok C X) (h:VP r C Γ x k e=some c):PS X (.Assign [.Subscript x k tpos] e pos) (tS X.K C.F Γl Γ c.Γ c.js c.f):=by
 unfold VP at h;split at h
 ·rename_i hn;rw [ly] at hn;obtain ⟨i,e0,h⟩:=bind_some' h;obtain ⟨c1,e1,h⟩:=bind_some' h;obtain ⟨a,e2,h⟩:=bind_some' h;split at h
  ·rename_i hw;rw [ly] at hw;cases h;obtain ⟨a1,a2⟩:=Gn R ok e2;obtain ⟨T,t1,t2⟩:=C.T.stok X ok.gx;refine PS.imp (TV (DL (R.E ok e1)) (bL (Dg ok e0) a1 t1 (QD hn.2)) (Of hn.1) ?_ rfl) fun D σ H h=>Sw t2 a2 (getD_some hw.1) (Be (beq_iff_eq.mp hw.2)) h
   cases e<;>rfl
  ·cases h
 ·cases h
def ZU:Option Gm->Option Gm->Option Gm
 | some a,some b=>some (Bh a b)
 | none,b=>b
 | a,none=>a
def lL (r:Rec) (C:Cf) (Γl:Option Gm) (Γ:Gm) (c:Expr) (a b:List Stmt):Option CS:=(r.T C Γ c).bind fun t=>(r.Ss C Γl t.Γ a).bind fun x=>(r.Ss C Γl t.Γ b).bind fun y=>let Γn:=ZU x.Γ y.Γ;let js:=t.js++(x.js++y.js);if KL Γn x.Γ && KL Γn y.Γ then some ⟨Γn,js,match x.Γ,y.Γ,Γn with
      | some _,some _,some Γ'=>if x.er || x.eb || x.ec || y.er || y.eb || y.ec then MJ t.f x.f y.f else iK (BC Γ' js) (MJ t.f x.f y.f)
      | _,_,_=>MJ t.f x.f y.f,x.er || y.er,x.eb || y.eb,x.ec || y.ec⟩ else none
theorem dY {r:Rec} (R:OkR r) {C:Cf} {X:Cx} {Γl:Option Gm} {Γ:Gm} {t:Expr} {a b:List Stmt} {pos:Pos} {c:CS} (ok:Cok C X) (h:lL r C Γl Γ t a b=some c):PS X (.If t a b pos) (tS X.K C.F Γl Γ c.Γ c.js c.f):=by
 obtain ⟨ct,e1,h⟩:=bind_some' h;obtain ⟨x,e2,h⟩:=bind_some' h;obtain ⟨y,e3,h⟩:=bind_some' h;simp only at h;split at h
 ·rename_i hw;rw [ly] at hw;have base:PS X (.If t a b pos) (tS X.K C.F Γl Γ (ZU x.Γ y.Γ) (ct.js++(x.js++y.js)) (MJ ct.f x.f y.f)):=jo (R.T ok e1) (Sy (R.Ss ok e2) hw.1) (Sy (R.Ss ok e3) hw.2);cases h;split
  ·rename_i Γ' _ _ hj;split
   ·exact base
   ·simp only [hj] at base ⊢;exact PS.imp base fun D σ H h=>cL (fun i o z=>BQ z) (fun i z=>BB z) h
  ·exact base
 ·cases h
noncomputable def Vl (f:Int->Int->Int) (x y:Dv):Option Dv:=match x,y with | .int i,.int j=>some (.int (f i j)) | _,_=>none
theorem Rg {f:Int->Int->Int} {x y z:Dv} (h:Vl f x y=some z):∃ i j,x=.int i/\y=.int j/\z=.int (f i j):=by
 unfold Vl at h;split at h
 ·cases h;exact ⟨_,_,rfl,rfl,rfl⟩
 ·cases h
def iy:=Vl fun i j=>i+j
def eB:=Vl fun i j=>i - j
def Uk (i:Nat) (p:Dv->Dv->Option Dv) (f:Ev Dv):Es:=fun R m k=>f R m fun d m1=>(p (m.at i) d).bind fun y=>k.nx (m1.set i y)
theorem Pj {K:W.Frag} {F:Fr} {Γl:Option Gm} {Γ Γ2:Gm} {js:List Nat} {fe:Ev Dv} {i o:Nat} {f:Int->Int->Int} (h0:Γ[i]?=some (some o)) (hi:i < Γ2.length) (hio:i∉F.io) {D:Ends} {σ:St} {H:Hp} (h:tS K F Γl Γ (some (Γ2.set i (some 0))) (js++[i]) (Uk i (Vl f) fe) D σ H):fJ i (tE K Γ 0 Γ2 js fe) (jy f) D σ H:=by
 obtain ⟨g0,m,P,r,R,k,res,e,q⟩:=h;obtain ⟨v0,P0,ev0,rv0,_⟩:=r.see h0;refine ⟨v0,ev0,g0,m,P,r,R,_,res,e,fun d m1 g' P' Pv v H' hk ag s rv r1 n=>?_⟩;obtain ⟨y,e1,e2⟩:=bind_some' hk;obtain ⟨a,b,ea,rfl,rfl⟩:=Rg e1;rw [ea] at rv0;refine ⟨a,b,rep_int rv0,rep_int rv,?_⟩;obtain ⟨P2,r2,s2⟩:=r1.setNew (o:=0) (v:=.int (f a b)) (d:=.int (f a b)) (Pv:=nop) hi BW fun _ z=>z.elim
 exact q.nx _ _ g' P2 _ H' rfl e2 (ag.trans Bg.set) (s.less fun a z=>(s2 a z).elim .inl False.elim) (Io.set hio) r2
def ij (r:Rec) (C:Cf) (Γ:Gm) (x:Str) (op:Operator) (e:Expr):Option CS:=(Ks C x).bind fun i=>if (Γ.getD i none).isSome then (r.E C Γ e).bind fun c=>if decide (i < c.Γ.length) && !C.F.io.contains i then (match op with
    | .Add=>some ⟨some (c.Γ.set i (some 0)),c.js++[i],Uk i iy c.f,false,false,false⟩
    | .Sub=>some ⟨some (c.Γ.set i (some 0)),c.js++[i],Uk i eB c.f,false,false,false⟩
    | _=>none) else none else none
theorem YZ {r:Rec} (R:OkR r) {C:Cf} {X:Cx} {Γl:Option Gm} {Γ:Gm} {x:Str} {op:Operator} {e:Expr} {pos pos':Pos} {c:CS} (ok:Cok C X) (h:ij r C Γ x op e=some c):PS X (.AugAssign (.Name x pos') op e pos) (tS X.K C.F Γl Γ c.Γ c.js c.f):=by
 obtain ⟨i,e1,h⟩:=bind_some' h;split at h
 ·rename_i hs;obtain ⟨c1,e2,h⟩:=bind_some' h;split at h
  ·rename_i hw;simp only [ly,decide_eq_true_eq,nY] at hw;obtain ⟨o,ho⟩:=getD_some hs;obtain ⟨h1,h2,h3⟩:=Gk ok e1;have hio:i∉C.F.io:=fun z=>by rw [mM.mpr z] at hw;cases hw.2
   split at h
   ·cases h;exact PS.imp (TU ok.nd h1 h2 (DL (R.E ok e2)) cS h3) fun _ _ _ h=>Pj ho hw.1 hio h
   ·cases h;exact PS.imp (TU ok.nd h1 h2 (DL (R.E ok e2)) cR h3) fun _ _ _ h=>Pj ho hw.1 hio h
   ·cases h
  ·cases h
 ·cases h
def UY (r:Rec) (C:Cf) (pre:Gm->Gm) (body:List Stmt):Nat->Gm->Option (Gm×CS)
 | 0,_=>none
 | n+1,Γ=>match r.Ss C (some Γ) (pre Γ) body with
  | some x=>if KL (some Γ) x.Γ then some (Γ,x) else UY r C pre body n (match x.Γ with | some Γ'=>Bh Γ Γ' | none=>Γ)
  | none=>UY r C pre body n (Γ.map fun o=>o.map fun _=>0)
theorem KW {r:Rec} {C:Cf} {pre:Gm->Gm} {body:List Stmt}:∀ {n:Nat} {Γ:Gm} {p:Gm×CS},UY r C pre body n Γ=some p->r.Ss C (some p.1) (pre p.1) body=some p.2/\KL (some p.1) p.2.Γ=true
 | 0,_,_,h=>by cases h
 | n+1,Γ,p,h=>by
  unfold UY at h;split at h
  ·rename_i x hx;split at h
   ·rename_i hw;cases h;exact ⟨hx,hw⟩
   ·exact KW h
  ·exact KW h
def ie (r:Rec) (C:Cf) (Γ:Gm) (tg iter:Expr) (body:List Stmt):Option CS:=(match iter with | .Set _ _ _=>none | _=>r.I C Γ (KO tg) iter).bind fun s=>(cG C tg).bind fun t=>if t.J.all (fun i=>decide (i < s.Γ.length) && !C.F.io.contains i) then (UY r C t.Γ body 4 s.Γ).bind fun p=>if Bb p.1 s.Γ then
    let jb:=t.J++p.2.js
    some ⟨some p.1,s.js++jb,if p.2.er || p.2.eb then Uh s.f t.f (BC p.1 jb) (BC C.F.Γr jb) p.2.f else Ui s.f t.f (BC p.1 jb) p.2.f,p.2.er,false,false⟩ else none else none
theorem YU {r:Rec} (R:OkR r) {C:Cf} {X:Cx} {Γl:Option Gm} {Γ:Gm} {tg iter:Expr} {body:List Stmt} {pos:Pos} {c:CS} (ok:Cok C X) (h:ie r C Γ tg iter body=some c):PS X (.For tg iter body [] pos) (tS X.K C.F Γl Γ c.Γ c.js c.f):=by
 obtain ⟨s,e1,h⟩:=bind_some' h;obtain ⟨t,e2,h⟩:=bind_some' h;split at h
 ·rename_i hj;obtain ⟨p,e3,h⟩:=bind_some' h;split at h
  ·rename_i hw;have hs:∀ x,foldedSetIterable iter X.env x=pure x:=fun x=>by cases iter<;>first | rfl | (cases e1)
   have hI:r.I C Γ (KO tg) iter=some s:=by cases iter<;>first | exact e1 | (cases e1)
   obtain ⟨f1,f2⟩:=KW e3;obtain ⟨g1,_,g3⟩:=GT ok e2;rw [mW] at hj;have hJ:t.J.all (fun i=>decide (i < p.1.length))=true:=by
    rw [mW];intro i hi;rw [EH hw];exact (nW.mp (hj i hi)).1
   have hio:∀ i∈C.F.io,i∉t.J:=fun i hi z=>by
    have:=(nW.mp (hj i z)).2;rw [mM.mpr hi] at this;cases this
   have hi:PI X tg iter (tI X.K Γ p.1 s.js s.f):=PI.imp (R.I tg ok hI) fun _ _ _ h=>WI hw h
   have hp:PassesOwn (model X.prog X.w) X.A X.env X.xe:=by rw [ok.xe];exact PassesOwn.never
   have hb:=R.Ss ok f1;simp only at h;cases h;split
   ·exact aa hp ok.calm hi g1 (g3 hJ) hio hb f2 rfl rfl hs
   ·exact ae hp ok.calm hi g1 (g3 hJ) hio hb f2 rfl hs
  ·cases h
 ·cases h
noncomputable def jE:Nat:=1000000
def jL (r:Rec) (C:Cf) (Γ:Gm) (c:Expr) (body:List Stmt):Option CS:=(fixW r C c body 4 Γ).bind fun p=>if Bb p.1 Γ then some ⟨some p.1,p.2.2.js,if p.2.2.er || p.2.2.eb then Za jE p.2.1.f (BC p.1 p.2.2.js) (BC C.F.Γr p.2.2.js) p.2.2.f else Zb jE p.2.1.f (BC p.1 p.2.2.js) p.2.2.f,p.2.2.er,false,false⟩ else none
where
 fixW (r:Rec) (C:Cf) (c:Expr) (body:List Stmt):Nat->Gm->Option (Gm×CT×CS)
 | 0,_=>none
 | n+1,Γ=>(r.T C Γ c).bind fun t=>if t.js.isEmpty && Bb Γ t.Γ then (match r.Ss C (some Γ) Γ body with
  | some x=>if KL (some Γ) x.Γ then some (Γ,t,x) else fixW r C c body n (match x.Γ with | some Γ'=>Bh Γ Γ' | none=>Γ)
  | none=>fixW r C c body n (Γ.map fun o=>o.map fun _=>0)) else fixW r C c body n (Bh Γ t.Γ)
theorem Gg {r:Rec} {C:Cf} {c:Expr} {body:List Stmt}:∀ {n:Nat} {Γ:Gm} {p:Gm×CT×CS},jL.fixW r C c body n Γ=some p->r.T C p.1 c=some p.2.1/\p.2.1.js=[]/\Bb p.1 p.2.1.Γ=true/\r.Ss C (some p.1) p.1 body=some p.2.2/\KL (some p.1) p.2.2.Γ=true
 | 0,_,_,h=>by cases h
 | n+1,Γ,p,h=>by
  unfold jL.fixW at h;obtain ⟨t,e1,h⟩:=bind_some' h;split at h
  ·rename_i hw;rw [ly] at hw;split at h
   ·rename_i x hx;split at h
    ·rename_i hl;cases h;exact ⟨e1,List.isEmpty_iff.mp hw.1,hw.2,hx,hl⟩
    ·exact Gg h
   ·exact Gg h
  ·exact Gg h
theorem fQ {X:Cx} {F:Fr} {Γl Γn:Option Gm} {Γ Γ':Gm} {js:List Nat} {s:Stmt} {f:Es} (hw:Bb Γ' Γ=true) (h:PS X s (tS X.K F Γl Γ' Γn js f)):PS X s (tS X.K F Γl Γ Γn js f):=PS.imp h fun D σ H h=>by
 obtain ⟨g,m,P,r,R,k,res,e,q⟩:=h;obtain ⟨g2,P2,s2,r2⟩:=r.weaken hw;exact ⟨g2,m,P2,r2,R,k,res,e,⟨fun Γ' m' g' P' σ' H' e hk a s'=>q.nx Γ' m' g' P' σ' H' e hk a (s2.trans s'),fun d m' g' P' Pv σ' v H' hk a s'=>q.rt d m' g' P' Pv σ' v H' hk a (s2.trans s'),fun Γ' m' g' P' σ' H' e hk a s'=>q.bk Γ' m' g' P' σ' H' e hk a (s2.trans s'),fun Γ' m' g' P' σ' H' e hk a s'=>q.ct Γ' m' g' P' σ' H' e hk a (s2.trans s')⟩⟩
theorem dI {r:Rec} (R:OkR r) {C:Cf} {X:Cx} {Γl:Option Gm} {Γ:Gm} {t:Expr} {body:List Stmt} {pos:Pos} {c:CS} (ok:Cok C X) (h:jL r C Γ t body=some c):PS X (.While t body [] pos) (tS X.K C.F Γl Γ c.Γ c.js c.f):=by
 obtain ⟨p,e1,h⟩:=bind_some' h;split at h
 ·rename_i hw;cases h;obtain ⟨f1,f2,f3,f4,f5⟩:=Gg e1;have hp:PassesOwn (model X.prog X.w) X.A X.env X.xe:=by rw [ok.xe];exact PassesOwn.never
  have ht:=R.T ok f1;rw [f2] at ht;refine fQ hw ?_;split
  ·exact fL jE hp ht (R.Ss ok f4) f3 f5 rfl rfl
  ·exact fM jE hp ht (R.Ss ok f4) f3 f5 rfl
 ·cases h
def iN:Es:=fun _ m k=>k.bk m
def iL:Es:=fun _ m k=>k.ct m
def df (Γl:Option Gm) (Γ:Gm):Option CS:=match Γl with
 | some Γ'=>if Bb Γ' Γ then some ⟨none,[],iN,false,true,false⟩ else none
 | none=>none
def da (Γl:Option Gm) (Γ:Gm):Option CS:=match Γl with
 | some Γ'=>if Bb Γ' Γ then some ⟨none,[],iL,false,false,true⟩ else none
 | none=>none
theorem YX {C:Cf} {X:Cx} {Γl:Option Gm} {Γ:Gm} {pos:Pos} {c:CS} (h:df Γl Γ=some c):PS X (.Break pos) (tS X.K C.F Γl Γ c.Γ c.js c.f):=by
  unfold df at h;split at h
  · rename_i Γ';split at h
    · rename_i hw;cases h;exact PS.imp TR fun D σ H h=>by
        obtain ⟨g,m,P,r,R,k,res,e,q⟩:=h;obtain ⟨g2,P2,s2,r2⟩:=r.weaken hw;exact q.bk Γ' m g2 P2 σ H rfl e Bg.refl s2 Io.refl r2
    · cases h
  · cases h
theorem YV {C:Cf} {X:Cx} {Γl:Option Gm} {Γ:Gm} {pos:Pos} {c:CS} (h:da Γl Γ=some c):PS X (.Continue pos) (tS X.K C.F Γl Γ c.Γ c.js c.f):=by
  unfold da at h;split at h
  · rename_i Γ';split at h
    · rename_i hw;cases h;exact PS.imp Ll fun D σ H h=>by
        obtain ⟨g,m,P,r,R,k,res,e,q⟩:=h;obtain ⟨g2,P2,s2,r2⟩:=r.weaken hw;exact q.ct Γ' m g2 P2 σ H rfl e Bg.refl s2 Io.refl r2
    · cases h
  · cases h
noncomputable def ZL (es:List Expr) (e:Expr):Option (Str×Pos×Str×Pos×Expr×Expr):=match es with
 | [.Name x px,.Name y py]=>match e with
  | .Tuple [a,b] _ _=>some (x,px,y,py,a,b)
  | _=>none
 | _=>none
def VN (r:Rec) (C:Cf) (Γ:Gm) (es:List Expr) (k:Nat) (p:Pos) (e:Expr):Option CS:=match ZL es e with
 | some t=>dQ r C Γ t.1 t.2.2.1 t.2.1 t.2.2.2.1 t.2.2.2.2.1 t.2.2.2.2.2
 | none=>Vb r C Γ es k p e
theorem VM {r:Rec} (R:OkR r) {C:Cf} {X:Cx} {Γl:Option Gm} {Γ:Gm} {es:List Expr} {k:Nat} {p pos:Pos} {e:Expr} {c:CS} (ok:Cok C X) (h:VN r C Γ es k p e=some c):PS X (.Assign [.Tuple es k p] e pos) (tS X.K C.F Γl Γ c.Γ c.js c.f):=by
 unfold VN at h;split at h
 ·rename_i t q;unfold ZL at q;split at q
  ·split at q
   ·cases q;exact YN R ok h
   ·cases q
  ·cases q
 ·exact Va R ok h
theorem Yj {r:Rec} (R:OkR r) {C:Cf} {X:Cx} {Γl:Option Gm} {Γ:Gm} {x:Str} {p pos:Pos} {e:Expr} {c:CS} (ok:Cok C X) (h:(if NS e then (r.E C Γ e).bind fun c=>Pe C x c else none)=some c):PS X (.Assign [.Name x p] e pos) (tS X.K C.F Γl Γ c.Γ c.js c.f):=by
 split at h
 ·rename_i hn;obtain ⟨c1,e1,h⟩:=bind_some' h;exact MZ ok (R.E ok e1) (HD hn) h
 ·cases h
def ZA (r:Rec) (C:Cf) (Γl:Option Gm) (Γ:Gm) (s:Stmt):Option CS:=match s with
 | .Pass _=>some (Sq Γ)
 | .Expr (.Constant (.str _) _ _) _=>some (Sq Γ)
 | .Expr e _=>dZ r C Γ e
 | .Return (some e) _=>iX r C Γ e
 | .Assign [.Name x _] (.ListComp elt gens scope _) _=>Zr r C Γ x elt gens scope
 | .Assign [.Name x _] e _=>if NS e then (r.E C Γ e).bind fun c=>Pe C x c else none
 | .Assign [.Tuple es k p] e _=>VN r C Γ es k p e
 | .Assign [.Subscript x k _] e _=>VP r C Γ x k e
 | .AugAssign (.Name x _) op e _=>ij r C Γ x op e
 | .If c a b _=>lL r C Γl Γ c a b
 | .For tg iter body [] _=>ie r C Γ tg iter body
 | .While c body [] _=>jL r C Γ c body
 | .Break _=>df Γl Γ
 | .Continue _=>da Γl Γ
 | _=>none
theorem Sa {r:Rec} (R:OkR r) {C:Cf} {X:Cx} {Γl:Option Gm} {Γ:Gm} {s:Stmt} {c:CS} (ok:Cok C X) (h:ZA r C Γl Γ s=some c):PS X s (tS X.K C.F Γl Γ c.Γ c.js c.f):=by
 cases s with
 | Pass _=>cases h;exact aY
 | Expr e _ =>
  cases e with
  | Constant k _ _ =>
   cases k with
   | str _=>cases h;exact fT
   | _=>exact Pf R ok h
  | _=>exact Pf R ok h
 | Return v _ =>
  cases v with
  | none=>cases h
  | some e=>exact YM R ok h
 | Assign ts e _ =>
  match ts,h with
  | [],h=>cases h
  | t::_::_,h=>cases t<;>cases h
  | [t],h =>
   cases t with
   | Name x _ =>
    cases e with
    | ListComp elt gens scope _=>exact Vc R ok h
    | _=>exact Yj R ok h
   | Tuple es k p=>exact VM R ok h
   | Subscript x k _=>exact VO R ok h
   | _=>cases h
 | AugAssign t op e _ =>
  cases t with
  | Name x _=>exact YZ R ok h
  | _=>cases h
 | If c a b _=>exact dY R ok h
 | For tg iter body o _ =>
  cases o with
  | nil=>exact YU R ok h
  | cons _ _=>cases h
 | While c body o _ =>
  cases o with
  | nil=>exact dI R ok h
  | cons _ _=>cases h
 | Break _=>exact YX h
 | Continue _=>exact YV h
 | _=>cases h
def SZ (r:Rec) (C:Cf) (Γl:Option Gm) (Γ:Gm) (ss:List Stmt):Option CS:=match ss with
 | []=>some (Sq Γ)
 | [s]=>r.S C Γl Γ s
 | s::ss=>(r.S C Γl Γ s).bind fun x=>match x.Γ with
  | none=>some x
  | some Γ'=>(r.Ss C Γl Γ' ss).bind fun y=>some ⟨y.Γ,x.js++y.js,iH x.f y.f,x.er || y.er,x.eb || y.eb,x.ec || y.ec⟩
theorem QF {r:Rec} (R:OkR r) {C:Cf} {X:Cx} {Γl:Option Gm} {Γ:Gm} {ss:List Stmt} {c:CS} (ok:Cok C X) (h:SZ r C Γl Γ ss=some c):DQ X ss (tS X.K C.F Γl Γ c.Γ c.js c.f):=by
 match ss,h with
 | [],h=>cases h;exact fS
 | [s],h=>exact fR (R.S ok h)
 | s::s2::ss,h =>
  obtain ⟨x,e1,h⟩:=bind_some' (show (r.S C Γl Γ s).bind _=some c from h);have h1:=R.S ok e1;cases hx:x.Γ with
  | none =>
   simp only [hx] at h;cases h;rw [hx] at h1 ⊢;exact aZ h1
  | some Γ' =>
   simp only [hx] at h;obtain ⟨y,e2,h⟩:=bind_some' h;cases h;rw [hx] at h1;exact ah (f:=x.f) (f2:=y.f) (js:=x.js) (js2:=y.js) h1 (R.Ss ok e2)
def step (r:Rec):Rec:=⟨ZC r,LO r,Yz r,Sd r,ZA r,SZ r⟩
def comp:Nat->Rec
 | 0=>⟨fun _ _ _=>none,fun _ _ _ _=>none,fun _ _ _=>none,fun _ _ _ _=>none,fun _ _ _ _=>none,fun _ _ _ _=>none⟩
 | n+1=>step (comp n)
theorem PZ:∀ n,OkR (comp n)
 | 0=>⟨(fun _ h=>by cases h),(fun _ h=>by cases h),(fun _ h=>by cases h),(fun _ _ h=>by cases h),(fun _ h=>by cases h),(fun _ h=>by cases h),fun _ h=>by cases h⟩
 | n+1=>have R:=PZ n;⟨fun ok h=>Se R ok h,fun ok h=>Sh R ok h,fun ok h=>SY R ok h,fun tg ok h=>Sb R tg ok h,fun ok h=>Sa R ok h,fun ok h=>QF R ok h,fun ok h _ _ h0 hn=>QH R ok h h0 hn⟩
noncomputable def gT (sc:Scope):List Str:=sc.names.filterMap fun p=>match p.2 with | .local=>some p.1 | .cell=>some p.1 | _=>none
mutual
noncomputable def Af:Expr->List Str
 | .ListComp e gs sc _=>gT sc++Af e++UE gs
 | .BoolOp _ vs _=>Bp vs
 | .BinOp a _ b _=>Af a++Af b
 | .UnaryOp _ a _=>Af a
 | .IfExp a b c _=>Af a++Af b++Af c
 | .Compare a _ bs _=>Af a++Bp bs
 | .Call f es _ _=>Af f++Bp es
 | .Attribute a _ _=>Af a
 | .Subscript a b _=>Af a++Af b
 | .Slice a b c _=>Hg a++Hg b++Hg c
 | .List es _=>Bp es
 | .Tuple es _ _=>Bp es
 | .Dict _ vs _=>Bp vs
 | .JoinedStr vs _=>Bp vs
 | .FormattedValue v _ _ _=>Af v
 | _=>[]
noncomputable def Bp:List Expr->List Str
 | []=>[]
 | e::es=>Af e++Bp es
noncomputable def Hg:Option Expr->List Str
 | none=>[]
 | some e=>Af e
noncomputable def UE:List Comprehension->List Str
 | []=>[]
 | ⟨_,it,ifs,_⟩::gs=>Af it++Bp ifs++UE gs
end
mutual
noncomputable def bq:Stmt->List Str
 | .Return v _=>Hg v
 | .Assign ts v _=>Bp ts++Af v
 | .AugAssign t _ v _=>Af t++Af v
 | .Expr v _=>Af v
 | .If c a b _=>Af c++EF a++EF b
 | .For _ it b _ _=>Af it++EF b
 | .While c b _ _=>Af c++EF b
 | .Raise e _ _=>Hg e
 | _=>[]
noncomputable def EF:List Stmt->List Str
 | []=>[]
 | s::ss=>bq s++EF ss
end
noncomputable def Uw:List Str->List Str->List Str
 | [],acc=>acc
 | x::xs,acc=>if acc.contains x then Uw xs acc else Uw xs (acc++[x])
def AD (st:Stmt):List Str:=(Av st).args.map (·.arg)
def Bo (st:Stmt):List Str:=Uw (AD st++gT (AJ st)++EF (Ab st)) []
noncomputable def hd:(io:List Nat)->Jn Dv io->Dv
 | [],t=>t
 | _::_,t=>t.1
noncomputable def Oy:(J:List Nat)->ER J->List Dv
 | [],_=>[]
 | [_],d=>[d]
 | _::j::J,t=>t.1::Oy (j::J) t.2
def tl:(io:List Nat)->Jn Dv io->List Dv
 | [],_=>[]
 | i::io,t=>Oy (i::io) t.2
theorem JH:∀ (J:List Nat) (m:M),Oy J (AZ J m)=J.map m.at
 | [],_=>rfl
 | [_],_=>rfl
 | i::j::J,m=>by
  show m.at i::Oy (j::J) (AZ (j::J) m)=_;rw [JH (j::J) m];rfl
theorem ZX (io:List Nat) (d:Dv) (m:M):hd io (ZS io d m)=d:=by cases io<;>rfl
theorem Yq (io:List Nat) (d:Dv) (m:M):tl io (ZS io d m)=io.map m.at:=by
 cases io with
 | nil=>rfl
 | cons i io=>exact JH (i::io) m
def Ah (ps:List Str) (io:List Nat) (ro:Nat) (nb:Bool) (F:List Dv->Option (Jn Dv io)):Sig where
 ps:=ps
 io:=io
 ro:=ro
 nb:=nb
 fn:=fun ds=>(F ds).bind fun t=>some (hd io t,tl io t)
 cps:=fun R ds k=>(F ds).bind fun t=>k (hd io t) (tl io t)
 eq:=fun R ds k=>by cases F ds<;>rfl
def kJ (io:List Nat):Kt (Jn Dv io):=⟨fun m=>some (ZS io .non m),fun d m=>some (ZS io d m),fun _=>none,fun _=>none⟩
end R
namespace L2
open PySem
abbrev Yu (l:W.OpenLaw) (n:Nat) (as:List Addr) (K:Params->W.Frag) (N:Nat):Prop:=
 W.LeftO l.row.prog (W.view l.prog (List.range n)) [] (fun s=>W.xlAt (W.view l.prog (List.range n)) [] s && W.recOk [] s) (fun s=>as.map s.heap.get?) (fun w=>(K w.params).map fun p=>some p.2) N
theorem mk_law {l:W.OpenLaw} {n:Nat} {N:Nat} {d:DefRec} {K:Params->W.Frag} {as:List Addr} (ws:l.wellSaid=true) (left:Yu l n as K N)
    (has:∀ P,as=(K P).map (·.1)) (hr:l.row.records=[]) (hdef:W.defOf (W.view l.prog (List.range n)) l.row.name=some (d,[])) (hp:l.row.prog.theDef l.row.name=some (d.params,d.body,d.scope)) (hk:W.kwWritten? d.params.kwonlyargs d.params.kw_defaults=some [])
    (hwr:(!l.row.writes || l.row.records.isEmpty)=true)
    (ok:(W.chainsOk (W.view l.prog (List.range n)) && W.opensWell l.row.prog && (W.frees l.row.toRowW && l.row.within.isEmpty))=true) (hb:l.row.prog.bare) (hw:l.row.toRowW.promised)
    (call:W.WalkO (W.view l.prog (List.range n)) [] (W.XL (W.view l.prog (List.range n)) []) (W.InK K) l.row.toRowW d [] fun f vs=>PySem.call f vs):l.Holds:=
  W.holds_law ws fun said=>W.holds_open (q:=W.view l.prog (List.range n)) (loose:=[]) (XP:=W.XL (W.view l.prog (List.range n)) []) (YP:=W.InK K) left (W.InK.of has) W.InK.keeps (fun s e=>W.xl_of s (nW.mp e).1) W.XL.keeps hdef hp hk (fun s e=>W.recFacts_nil hr) hwr said ok hb hw call
noncomputable abbrev ke (P:Params) (x:Str) (t:Tok) (v:Value):DictEntry:=⟨PyData.keyHash P x,.str x t,v⟩
noncomputable abbrev cO (x:Str) (t:Tok) (l a s:Int) (r1 r2:Addr) (v1 v2 v3:Value) (r3:Addr) (t2:Nat):Obj:=⟨.type "code", none,.fields #[.str x t,.str x (t+1),.str "/claim/cut.py" (t+2),.int l 0,.int a 0,.int 0 0,.int 0 0,.int s 0,.ref r1,.bool true,.int 181 0,.ref r2,v1,v2,v3,.ref r3,.int t2 0,.int l 0,.str "/claim/cut.py" (t2+1)],#[]⟩
noncomputable def dG:Stmt->Pos
 | .FunctionDef _ _ _ _ _ _ _ _ _ p=>p
 | _=>⟨0,0,0,0⟩
noncomputable def Qx (K:W.Frag) (n:Str):Addr:=match W.nsIn K mainGlobals n with
 | some (some (.ref a))=>a
 | _=>0
noncomputable def bJ (K:W.Frag) (f:Addr):Value:=match K.lookup f with
 | some ⟨_,_,.func d,_⟩=>d.pyModule
 | _=>.none
noncomputable def YH (K:W.Frag) (f:Addr):Value:=match K.lookup f with
 | some ⟨_,_,.func d,_⟩=>d.code
 | _=>.none
abbrev GF (K:W.Frag) (n:Str) (t:Stmt):Prop:=W.nsIn K mainGlobals n=some (some (.ref (Qx K n))) /\
 K.lookup (Qx K n)=some ⟨.type "function", none,.func (W.fnOf n n (Av t) (Ab t) (AJ t) .none .none .none (bJ K (Qx K n)) none (YH K (Qx K n)) .none),#[]⟩ /\
 W.codeIn K (YH K (Qx K n)) n=true/\W.keepIn K (.ref (Qx K n))=true
theorem Nf {K:W.Frag} {n:Str} {t:Stmt} (h:GF K n t):Fun K n n t (Qx K n) (W.fnOf n n (Av t) (Ab t) (AJ t) .none .none .none (bJ K (Qx K n)) none (YH K (Qx K n)) .none):=cZ h.2.1 h.2.2.1 h.2.2.2
end L2
namespace R
open PySem L2
structure Md:Type 1 where
 T:Tb
 cs:List (Str×Dv)
 bl:List Str
def iV (M:Md) (fs:List (Str×Sig)) (st:Stmt) (io:List Nat) (ro:Nat):Cf:=⟨Bo st,AJ st,fun _=>true,fs,M.cs,M.bl,M.T,⟨io,NC (Bo st).length io,ro⟩⟩
noncomputable def jq:Rec:=⟨fun _ _ _=>none,fun _ _ _ _=>none,fun _ _ _=>none,fun _ _ _ _=>none,fun _ _ _ _=>none,fun _ _ _ _=>none⟩
def cmp (n:Nat):Rec:=Nat.rec jq (fun _ r=>step r) n
theorem VI:∀ n,cmp n=comp n
 | 0=>rfl
 | n+1=>by
  show step (cmp n)=step (comp n);rw [VI n]
def Wd (M:Md) (fs:List (Str×Sig)) (st:Stmt) (io:List Nat) (ro:Nat):Option CS:=(cmp 100).Ss (iV M fs st io ro) none (Xx (Bo st).length (AD st).length io) (Ab st)
def TB (M:Md) (fs:List (Str×Sig)) (st:Stmt) (io:List Nat) (ro:Nat) (ds:List Dv):Option (Jn Dv io):=match Wd M fs st io ro with
 | some c=>c.f (Jn Dv io) (ds++List.replicate ((Bo st).length - (AD st).length) .non) (kJ io)
 | none=>none
noncomputable def jw:ScopeKind->Bool
 | .function=>true
 | _=>false
noncomputable def XY:NameKind->Bool
 | .free=>false
 | _=>true
def Wb (N P:List Str) (sc:Scope):Bool:=jw sc.kind && !sc.isCoroutine && !sc.isGenerator && decide N.Nodup && (N.take P.length == P) && (P.all fun x=>match sc.names.lookup x with | some .local=>true | some .cell=>true | _=>false) && sc.names.all fun y=>XY y.2
theorem Oi {N P:List Str} {sc:Scope} (h:Wb N P sc=true):FnScope N P sc:=by
 unfold Wb at h;simp only [ly,nY,decide_eq_true_eq,mW] at h;obtain ⟨⟨⟨⟨⟨⟨h1,h2⟩,h3⟩,h4⟩,h5⟩,h6⟩,h7⟩:=h;refine ⟨?_,h2,h3,h4,by simpa using h5,fun x hx=>?_,fun y hy z=>?_⟩
 ·cases q:sc.kind<;>first | rfl | (rw [q] at h1;cases h1)
 ·have:=h6 x hx;split at this
  ·rename_i e;exact .inl e
  ·rename_i e;exact .inr e
  ·cases this
 ·have:=h7 y hy;rw [z] at this;cases this
def FM (M:Md) (fs:List (Str×Sig)) (st:Stmt) (io:List Nat) (ro:Nat):Bool:=Wb (Bo st) (AD st) (AJ st) && decide io.Nodup && (io.all fun i=>decide (i < (AD st).length)) && decide ((AD st).length<=(Bo st).length) && match Wd M fs st io ro with
 | some c=>KL (some (NC (Bo st).length io)) c.Γ
 | none=>false
section
variable {P:Program} {w:World} {K:W.Frag} {mg:Str->Option Value} {base:Heap}
structure Bs (M:Md) (K:W.Frag) (mg:Str->Option Value):Prop where
 cs:∀ x d,(x,d)∈M.cs->∃ v u,mg x=some u/\RelV v u/\∀ g H,Rep K g H 0 d v nop
 bl:∀ x∈M.bl,mg x=none
def Fs (P:Program) (w:World) (K:W.Frag) (mg:Str->Option Value) (base:Heap) (k:Nat) (fs:List (Str×Sig)):Prop:=∀ x s,(x,s)∈fs->s.io.Nodup/\(∀ i∈s.io,i < s.ps.length)/\∃ j,j<=k/\Fx P w K mg base j x s.ps (QJ K s)
theorem Fs.nil {k:Nat}:Fs P w K mg base k []:=fun _ _ h=>by cases h
theorem Fs.cons {k:Nat} {x:Str} {s:Sig} {fs:List (Str×Sig)} (h:Fs P w K mg base k fs) (h1:s.io.Nodup) (h2:∀ i∈s.io,i < s.ps.length) (h3:Fx P w K mg base (k+1) x s.ps (QJ K s)):Fs P w K mg base (k+1) ((x,s)::fs):=fun y t q=>by
 rcases mL.mp q with q | q
 ·cases q;exact ⟨h1,h2,k+1,mF _,h3⟩
 ·obtain ⟨a,b,j,hj,f⟩:=h y t q;exact ⟨a,b,j,by omega,f⟩
theorem Nu {M:Md} {k:Nat} {fs:List (Str×Sig)} {x:Str} {st:Stmt} {f:Addr} {fd:FuncData} {io:List Nat} {ro:Nat} {nb:Bool} {F:List Dv->Option (Jn Dv io)} (b:Bs M K mg) (h:Fs P w K mg base k fs) (c:FM M fs st io ro=true) (hF:∀ ds,ds.length=(AD st).length->TB M fs st io ro ds=F ds)
    (Fn:Fun K x x st f fd):FnOk P w K mg base Rq (k+1) f fd (AD st) (QJ K (Ah (AD st) io ro nb F)):=by
  unfold FM at c;simp only [ly,decide_eq_true_eq,mW] at c;obtain ⟨⟨⟨⟨c1,c2⟩,c3⟩,c4⟩,c5⟩:=c;cases e:Wd M fs st io ro with
  | none=>rw [e] at c5;cases c5
  | some cs =>
    rw [e] at c5;have S:=Oi c1;refine iD (s:=Ah (AD st) io ro nb F) (N:=Bo st) (body:=cs.f) (Γn:=cs.Γ) (js:=cs.js) Fn S c2 c3 c4 c5 (fun cdv A outer s' H E hr=>?_) fun ds d bs hl hf=>?_
    · have ok:Cok (iV M fs st io ro) (MT Rq P w K mg base (Bo st) x (AJ st) f cdv A outer s' H E).nox:=⟨rfl,rfl,S.nd,rfl,fun _ _=>rfl,⟨rfl,k,hr⟩,fun y t q=>by
        obtain ⟨a,b,j,hj,q⟩:=h y t q;exact ⟨a,b,j,k,hj,hr,q⟩,b.cs,b.bl,rfl⟩
      unfold Wd at e;rw [VI] at e;exact (PZ 100).Ss ok e
    · have hr:=hF ds hl;unfold TB at hr;rw [e] at hr;obtain ⟨t,e1,e2⟩:=bind_some' (show (F ds).bind _=some (d,bs) from hf);cases e2;refine ⟨_,kJ io,t,hr.trans e1,fun m z=>?_,fun d' m z=>?_⟩
      · have z:some (ZS io .non m)=some t:=z;cases z;exact ⟨ZX io _ m,Yq io _ m⟩
      · have z:some (ZS io d' m)=some t:=z;cases z;exact ⟨ZX io _ m,Yq io _ m⟩
abbrev Ao (x:Str) (st:Stmt):Prop:=∀ (kV doc pm:Value) (an:Option Addr) (cdv ct:Value) (us:List Value),us.length=(AD st).length->bindArgs (W.fnOf x x (Av st) (Ab st) (AJ st) .none kV doc pm an cdv ct) ⟨us,[]⟩=pure ((AD st).zip us)
theorem GI {M:Md} {fs:List (Str×Sig)} {st:Stmt} {io:List Nat} {ro:Nat} (c:FM M fs st io ro=true):io.Nodup/\∀ i∈io,i < (AD st).length:=by
 unfold FM at c;simp only [ly,decide_eq_true_eq,mW] at c;exact ⟨c.1.1.1.2,c.1.1.2⟩
theorem Fs.def {M:Md} {k:Nat} {fs:List (Str×Sig)} {x:Str} {st:Stmt} {io:List Nat} {ro:Nat} {nb:Bool} {F:List Dv->Option (Jn Dv io)} (h:Fs P w K mg base k fs) (b:Bs M K mg) (c:FM M fs st io ro=true) (hF:∀ ds,ds.length=(AD st).length->TB M fs st io ro ds=F ds)
    (gf:GF K x st) (hm:mg x=some (.ref (Qx K x))) (hb:Ao x st):Fs P w K mg base (k+1) ((x,Ah (AD st) io ro nb F)::fs):=
  h.cons (GI c).1 (GI c).2 ⟨_,_,Nu b h c hF (Nf gf),hm,gf.2.2.2,(Nf gf).binds hb⟩
theorem Fs.defR {M:Md} {k:Nat} {fs:List (Str×Sig)} {x:Str} {st:Stmt} {io:List Nat} {ro:Nat} {nb:Bool} {F:Nat->List Dv->Option (Jn Dv io)} (h:Fs P w K mg base k fs) (b:Bs M K mg) (c0:Wb (Bo st) (AD st) (AJ st)=true) (h0:∀ ds,F 0 ds=none) (c:∀ n,FM M ((x,Ah (AD st) io ro nb (F n))::fs) st io ro=true)
    (hF:∀ n ds,ds.length=(AD st).length->TB M ((x,Ah (AD st) io ro nb (F n))::fs) st io ro ds=F (n+1) ds)
    (gf:GF K x st) (hm:mg x=some (.ref (Qx K x))) (hb:Ao x st):∀ n,Fs P w K mg base (k+n+1) ((x,Ah (AD st) io ro nb (F n))::fs)
  | 0=>h.cons (GI (c 0)).1 (GI (c 0)).2 ⟨_,_,(Nf gf).ok (k:=k) (Oi c0) (fun vs H Q E q=>by
      obtain ⟨g,ds,P,r,d,bs,e,q⟩:=q;have e:(F 0 ds).bind _=some (d,bs):=e;rw [h0 ds] at e;cases e) (fun cdv A outer s H vs Q E _ q=>by
      obtain ⟨g,ds,P,r,d,bs,e,q⟩:=q;have e:(F 0 ds).bind _=some (d,bs):=e;rw [h0 ds] at e;cases e),hm,gf.2.2.2,(Nf gf).binds hb⟩
  | n+1=>by
    have ih:=Fs.defR h b c0 h0 c hF gf hm hb n;have hh:Fs P w K mg base (k+n+1) fs:=fun y t q=>ih y t (mE _ q)
    exact hh.cons (GI (c 0)).1 (GI (c 0)).2 ⟨_,_,Nu b ih (c n) (hF n) (Nf gf),hm,gf.2.2.2,(Nf gf).binds hb⟩
theorem kX {x:Str} {st:Stmt} (hn:(AD st).length=1) (h:∀ (kV doc pm:Value) (an:Option Addr) (cdv ct:Value) (a:Value),bindArgs (W.fnOf x x (Av st) (Ab st) (AJ st) .none kV doc pm an cdv ct) ⟨[a],[]⟩=pure ((AD st).zip [a])):Ao x st:=fun kV doc pm an cdv ct us hl=>by
 rw [hn] at hl
 match us,hl with | [a],_=>exact h kV doc pm an cdv ct a
theorem Me {x:Str} {st:Stmt} (hn:(AD st).length=2) (h:∀ (kV doc pm:Value) (an:Option Addr) (cdv ct:Value) (a b:Value),bindArgs (W.fnOf x x (Av st) (Ab st) (AJ st) .none kV doc pm an cdv ct) ⟨[a,b],[]⟩=pure ((AD st).zip [a,b])):Ao x st:=fun kV doc pm an cdv ct us hl=>by
 rw [hn] at hl
 match us,hl with | [a,b],_=>exact h kV doc pm an cdv ct a b
theorem Vi {x:Str} {st:Stmt} (hn:(AD st).length=3) (h:∀ (kV doc pm:Value) (an:Option Addr) (cdv ct:Value) (a b c:Value),bindArgs (W.fnOf x x (Av st) (Ab st) (AJ st) .none kV doc pm an cdv ct) ⟨[a,b,c],[]⟩=pure ((AD st).zip [a,b,c])):Ao x st:=fun kV doc pm an cdv ct us hl=>by
 rw [hn] at hl
 match us,hl with | [a,b,c],_=>exact h kV doc pm an cdv ct a b c
theorem Rc {x:Str} {st:Stmt} (hn:(AD st).length=4) (h:∀ (kV doc pm:Value) (an:Option Addr) (cdv ct:Value) (a b c d:Value),bindArgs (W.fnOf x x (Av st) (Ab st) (AJ st) .none kV doc pm an cdv ct) ⟨[a,b,c,d],[]⟩=pure ((AD st).zip [a,b,c,d])):Ao x st:=fun kV doc pm an cdv ct us hl=>by
 rw [hn] at hl
 match us,hl with | [a,b,c,d],_=>exact h kV doc pm an cdv ct a b c d
theorem iq {x:Str} {st:Stmt} (hn:(AD st).length=5) (h:∀ (kV doc pm:Value) (an:Option Addr) (cdv ct:Value) (a b c d e:Value),bindArgs (W.fnOf x x (Av st) (Ab st) (AJ st) .none kV doc pm an cdv ct) ⟨[a,b,c,d,e],[]⟩=pure ((AD st).zip [a,b,c,d,e])):Ao x st:=fun kV doc pm an cdv ct us hl=>by
 rw [hn] at hl
 match us,hl with | [a,b,c,d,e],_=>exact h kV doc pm an cdv ct a b c d e
noncomputable def NQ (K:W.Frag) (x:Str):Bool:=match W.nsIn K mainGlobals x with | some none=>true | _=>false
theorem il {M:Md} {h:Heap} (X:K.In h) (G:h.Ns mainGlobals mg) (hc:M.cs=[]) (hz:M.bl.all (NQ K)=true):Bs M K mg:=⟨(fun x d q=>by rw [hc] at q;cases q),fun x hx=>by
 have:=(mW.mp hz) x hx;unfold NQ at this;split at this
 ·rename_i e;exact W.mg_none_of X G e
 ·cases this⟩
noncomputable def Dl {α:Type} (f:Dv->Dv->Dv->Dv->Option α) (ds:List Dv):Option α:=match ds with | [a,b,c,d]=>f a b c d | _=>none
noncomputable def UZ {α:Type} (f:Dv->Dv->Dv->Dv->Dv->Option α) (ds:List Dv):Option α:=match ds with | [a,b,c,d,e]=>f a b c d e | _=>none
noncomputable def Gz {α:Type} (f:Dv->Dv->Dv->Option α) (ds:List Dv):Option α:=match ds with | [a,b,c]=>f a b c | _=>none
theorem iB {α:Type}:∀ ds,Dl (fun _ _ _ _=>(none:Option α)) ds=none
 | []=>rfl | [_]=>rfl | [_,_]=>rfl | [_,_,_]=>rfl | [_,_,_,_]=>rfl | _::_::_::_::_::_=>rfl
abbrev IJ (M:Md) (fs:List (Str×Sig)) (st:Stmt) (io:List Nat) (ro:Nat) (f:List Dv->Option (Jn Dv io)):Prop:=∀ ds,ds.length=(AD st).length->TB M fs st io ro ds=f ds
theorem lN {α:Type} {G:List Dv->Option α} {f:Dv->Option α} {n:Nat} (hn:n=1) (h:∀ a,G [a]=f a):∀ ds,ds.length=n->G ds=one f ds:=fun ds hl=>by
 subst hn
 match ds,hl with | [a],_=>exact h a
theorem Zs {α:Type} {G:List Dv->Option α} {f:Dv->Dv->Option α} {n:Nat} (hn:n=2) (h:∀ a b,G [a,b]=f a b):∀ ds,ds.length=n->G ds=two f ds:=fun ds hl=>by
 subst hn
 match ds,hl with | [a,b],_=>exact h a b
theorem ik {α:Type} {G:List Dv->Option α} {f:Dv->Dv->Dv->Option α} {n:Nat} (hn:n=3) (h:∀ a b c,G [a,b,c]=f a b c):∀ ds,ds.length=n->G ds=Gz f ds:=fun ds hl=>by
 subst hn
 match ds,hl with | [a,b,c],_=>exact h a b c
theorem eQ {α:Type} {G:List Dv->Option α} {f:Dv->Dv->Dv->Dv->Option α} {n:Nat} (hn:n=4) (h:∀ a b c d,G [a,b,c,d]=f a b c d):∀ ds,ds.length=n->G ds=Dl f ds:=fun ds hl=>by
 subst hn
 match ds,hl with | [a,b,c,d],_=>exact h a b c d
theorem lM {α:Type} {G:List Dv->Option α} {f:Dv->Dv->Dv->Dv->Dv->Option α} {n:Nat} (hn:n=5) (h:∀ a b c d e,G [a,b,c,d,e]=f a b c d e):∀ ds,ds.length=n->G ds=UZ f ds:=fun ds hl=>by
 subst hn
 match ds,hl with | [a,b,c,d,e],_=>exact h a b c d e
def Oe (K:W.Frag):Sp:=fun vs H Q _=>∃ (a:Addr) (ns:List Int),vs=[.ref a]/\DA K H a (ns.map V.int)/\ns.length<=63/\Ym H/\∀ H',Q (.bl true) H'
theorem cD {k:Nat} {f:Addr} {fd:FuncData} {ps:List Str} {nb:Bool} {F:List Dv->Option Dv} (hp:ps.length=1) (h0:FnOk P w K mg base Rq k f fd ps (QJ K (Ah ps [] 1 nb F))) (h:∀ ns:List Int,ns.length<=63->F [.scr ns]=some (.bl true)):FnOk P w K mg base Rq k f fd ps (Oe K):=h0.imp fun vs H Q E q=>by
 obtain ⟨a,ns,rfl,hS,hn,hO,q⟩:=q;have hs:Scr K H a ns:=by
  rcases hS with (h1 | h1) | h1
  ·rcases hO a with z | ⟨o,xs,z⟩
   ·rw [h1] at z;cases z
   ·rw [h1] at z;cases z
  ·exact .inl h1
  ·exact .inr h1
 refine ⟨⟨fun _=>False,[]⟩,[.scr ns],nop,?_,.bl true,[],by show (F [.scr ns]).bind _=_;rw [h ns hn];rfl,fun g' H' v Pv Pb _ rv _ _=>by rw [rep_bl rv];exact q H'⟩;show Rel K _ H (Rt ps.length []) _ _ _;rw [hp];refine ⟨?_,fun _=>nop,⟨rfl,rfl,fun i o e=>?_,fun i e a z=>z,fun i j n a z=>z.elim⟩,fun a=>⟨fun z=>z.elim,fun ⟨i,z⟩=>z⟩⟩
 ·exact fun _ z=>z.elim
 ·match i,e with
  | 0,e=>cases e;exact ⟨_,_,rfl,rfl,by unfold Rep;exact ⟨⟨a,rfl,hs⟩,fun _ z=>z⟩⟩
end
end R
namespace L4
open PySem PySem.Spec PyProof.Rows L2 Builtin
theorem GC:fillsNumberSlot (.type "tuple") "mul" = pure false:=
 PySem.fillsNumberSlot_seq (id := "tuple.__mul__") (r:=some (.builtin "tuple.__rmul__")) F.slot_tuple_mul.lookup (by decide +kernel) F.slot_tuple_rmul.lookup (by decide +kernel)
theorem Jy:seqRepeat? (.type "tuple")=pure (some (.builtin "tuple.__mul__")):=by
 unfold seqRepeat?
 rw [PySem.seqSlot_of (T := "tuple") (name := "__mul__") (id := "tuple.__mul__") F.slot_tuple_mul.lookup (by decide +kernel),PySem.seqSlot_of (T := "tuple") (name := "__rmul__") (id := "tuple.__rmul__") F.slot_tuple_rmul.lookup (by decide +kernel)]
 rfl
theorem Hr (a:Int) (t:Tok) (l:Addr) (items:Array Value) (n:Nat) :
    Meets (Builtin.«int.__rmul__» ⟨[.int a t,.ref l],[]⟩) (fun _ R s=>(∃ o,s.heap.get? l=some o/\o.cls=.type "tuple" /\ o.data=.seq items n)/\R (.ok (.ret Value.notImplemented)) s):=
  .of_wp fun prog w A R s h=>by
    obtain ⟨hp,g,d,tk,os⟩:=s;obtain ⟨⟨⟨c,dd,dat,sl⟩,hl,hc,hd⟩,h⟩:=h;simp only at hc hd;subst hc;subst hd
    wp_walk;exact ⟨_,rfl,h⟩
theorem Gw (l:Addr) (items:Array Value) (n:Nat) (x:Int) (u:Tok) (h1:1 < x) (h2:x < 2 ^ 63) (hz:items.size * x.toNat<=1000000) (hne:items.isEmpty=false) :
    Meets (Builtin.«tuple.__mul__» ⟨[.ref l,.int x u],[]⟩) (fun _ R s=>(∃ o,s.heap.get? l=some o/\o.cls=.type "tuple" /\ o.data=.seq items n)/\R (.ok (.ret (Value.ref s.heap.objs.size))) { s with heap:=s.heap.push { cls:=Value.type "tuple", data:=Data.seq ((List.replicate x.toNat items).foldl (·++·) #[]) },toks:=s.toks }):=
  .of_wp fun prog w A R s h=>by
    obtain ⟨hp,g,d,tk,os⟩:=s;obtain ⟨⟨⟨c,dd,dat,sl⟩,hl,hc,hd⟩,h⟩:=h;simp only at hc hd;subst hc;subst hd;have hz':(items.size:Int) * x<=1000000:=by
      have e:x=(x.toNat:Int):=by omega
      rw [e,<- Int.natCast_mul];omega
    wp_walk
    refine wpAny_ite_false (by simp;omega) ?_
    wp_walk
    refine wpAny_ite_false (by rw [hne];simp;omega) ?_
    wp_walk
    refine wpAny_ite_false (by rw [hne];simp;omega) ?_
    wp_walk
    refine wpAny_ite_false (decide_eq_false (by have : ((2 : Int) ^ 63 - 1) / 8 > 1000000 := by decide
                                                omega)) ?_
    wp_walk
    refine wpAny_ite_false (decide_eq_false (by unfold Tuple.tupleTooMany;rw [decide_eq_true_eq,sizeLine_eq];omega)) ?_
    wp_walk
    refine wpAny_ite_false (decide_eq_false (by rw [AutoListH.size_joined,sizeLine_eq];simp only [Array.size_empty];have:=Nat.mul_comm items.size x.toNat;omega)) ?_
    wp_walk
    exact ⟨_,rfl,h⟩
theorem IL (l:Addr) (items:Array Value) (n:Nat) (u:Tok) :
    Meets (Builtin.«tuple.__mul__» ⟨[.ref l,.int 1 u],[]⟩) (fun _ R s=>(∃ o,s.heap.get? l=some o/\o.cls=.type "tuple" /\ o.data=.seq items n)/\R (.ok (.ret (Value.ref l))) s):=
  .of_wp fun prog w A R s h=>by
    obtain ⟨hp,g,d,tk,os⟩:=s;obtain ⟨⟨⟨c,dd,dat,sl⟩,hl,hc,hd⟩,h⟩:=h;simp only at hc hd;subst hc;subst hd
    wp_walk
    exact ⟨_,rfl,h⟩
def rRepT:R2:=fun x y H Q=>∃ l k xs,x=.ref l/\y=.int k/\H l=some (.tup xs)/\xs≠[]/\1<=k/\k < 2 ^ 63/\xs.length * k.toNat<=1000000/\(k=1->Q (.ref l) H) /\
 (k≠1->∀ p,H p=none->Q (.ref p) (upd H p (.tup (List.replicate k.toNat xs).flatten)))
theorem op_repT {X:Cx}:CH X (binaryOp .Mult) rRepT:=by
  intro pins s σ H x y v u Q I rx ry h;obtain ⟨l,k,xs,rfl,rfl,hH,hne,h1,h2,hz,q1,q2⟩:=h;cases rx;obtain ⟨t,rfl⟩:=ry;obtain ⟨its,r,⟨o,e,c,n,dt⟩,_⟩:=I.tuple (show Eg X.K H l xs from .inl (.inl hH));have hl:its.length=xs.length:=r.length.symm
  have ho:∃ o,s.heap.get? l=some o/\o.cls=.type "tuple" /\ o.data=.seq its.toArray n:=⟨o,e,c,dt⟩
  have em:its.toArray.isEmpty=false:=by
    cases its with
    | nil=>cases xs with
      | nil=>exact absurd rfl hne
      | cons _ _=>simp at hl
    | cons _ _=>rfl
  refine wpAny_binaryOp_repeat_ref (T := "tuple") (U := "int") (by decide) ⟨_,e,c⟩ (fun s'=>typeIs_int s' k t) GC F.fills_int_mul F.slot_int_rmul Jy F.slot_int_index.lookup
    (call_meets F.slot_int_rmul (typeIs_int s k t) F.entry_int_rmul (F.args_int_rmul_2 _ _) (Hr k t l its.toArray n)
      ⟨ho,rfl,⟨_,e,c⟩,?_⟩)
  by_cases hk:k=1
  · subst hk;exact call_meets F.slot_tuple_mul ⟨_,e,c⟩ F.entry_tuple_mul (F.args_tuple_mul_2 _ _) (IL l its.toArray n t) ⟨ho,.ref l,H,I,rfl,q1 rfl⟩
  · refine call_meets F.slot_tuple_mul ⟨_,e,c⟩ F.entry_tuple_mul (F.args_tuple_mul_2 _ _) (Gw l its.toArray n k t (by omega) h2 (by rw [mD,hl];exact hz) em) ⟨ho,?_⟩;have f0:List.foldl (fun x1 x2=>x1++x2) #[] (List.replicate k.toNat its.toArray)=(List.replicate k.toNat its).flatten.toArray:=by
      have:=foldl_rep its k.toNat [];rw [pR] at this;exact this
    rw [f0];refine ⟨.ref _,_,I.laid (t':=s.toks) (fun _ _ q=>lx _ q) (mF _) (o:=.tup (List.replicate k.toNat xs).flatten) ⟨?_,_,r.rep k.toNat,FQ.new _ _⟩,rfl,q2 hk _ I.fresh⟩;rw [len_rep,Nat.mul_comm];exact mQ hz (by decide)
end L4
namespace R
open PySem L2
section
variable {K:W.Frag} {g:G} {H:Hp}
theorem RA.nil {vs:List V} (h:RA K g H [] vs):vs=[]:=by unfold RA at h;exact h
theorem RA.cons {d:Dv} {ds:List Dv} {vs:List V} (h:RA K g H (d::ds) vs):∃ v r o P,vs=v::r/\o<=1/\Rep K g H o d v P/\RA K g H ds r:=by unfold RA at h;exact h
theorem RA.one {d:Dv} {vs:List V} (h:RA K g H [d] vs):∃ v o P,vs=[v]/\o<=1/\Rep K g H o d v P:=by
 obtain ⟨v,r,o,P,rfl,ho,h1,h2⟩:=h.cons;cases h2.nil;exact ⟨v,o,P,rfl,ho,h1⟩
theorem RA.two {d e:Dv} {vs:List V} (h:RA K g H [d,e] vs):∃ v o P w u R,vs=[v,w]/\o<=1/\Rep K g H o d v P/\u<=1/\Rep K g H u e w R:=by
 obtain ⟨v,r,o,P,rfl,ho,h1,h2⟩:=h.cons;obtain ⟨w,u,R,rfl,hu,h3⟩:=h2.one;exact ⟨v,o,P,w,u,R,rfl,ho,h1,hu,h3⟩
theorem rep_str {o:Nat} {l:List Nat} {v:V} {P:Fp} (h:Rep K g H o (.str l) v P):v=.str (tx l):=by unfold Rep at h;exact h.1
theorem rep_non {o:Nat} {v:V} {P:Fp} (h:Rep K g H o .non v P):v=.non:=by unfold Rep at h;exact h.1
theorem EM {o:Nat} {xs:List Dv} {v:V} {P:Fp} (ho:o<=1) (h:Rep K g H o (.lst xs) v P):∃ a us,v=.ref a/\DA K H a us/\Reps K g H 0 xs us nop/\H a=some (.lst us):=by
 unfold Rep at h;obtain ⟨a,us,P',rfl,h1,h2,_⟩:=h;rw [ou ho] at h2;exact ⟨a,us,rfl,.inl (.inl h1.1),h2.z,h1.1⟩
theorem Em {o:Nat} {xs:List Dv} {v:V} {P:Fp} (ho:o<=1) (h:Rep K g H o (.tup xs) v P):∃ a us,v=.ref a/\Eg K H a us/\Reps K g H 0 xs us nop/\H a=some (.tup us):=by
 unfold Rep at h;obtain ⟨a,us,rfl,h1,h2⟩:=h;rw [ou ho] at h2;exact ⟨a,us,rfl,.inl (.inl h1),h2.z,h1⟩
theorem Mz {o:Nat} {ns:List Int} {v:V} {P:Fp} (h:Rep K g H o (.scr ns) v P):∃ a,v=.ref a/\DA K H a (ns.map V.int):=by
 unfold Rep at h;obtain ⟨⟨a,rfl,h1⟩,_⟩:=h;exact ⟨a,rfl,h1.sq⟩
theorem EC {o:Nat} (ho:o<=1) {a:Addr} {xs:List Dv} {us:List V} (h1:H a=some (.tup us)) (h2:Reps K g H 0 xs us nop):Rep K g H o (.tup xs) (.ref a) nop:=by
 unfold Rep;rw [ou ho];exact ⟨a,us,rfl,h1,h2⟩
theorem AY.int {o:Nat} (i:Int):AY K g H o (.int i) (.int i) H:=AY.old BW
theorem AY.bl {o:Nat} (b:Bool):AY K g H o (.bl b) (.bl b) H:=AY.old CP
theorem AY.str {o:Nat} (l:List Nat):AY K g H o (.str l) (.str (tx l)) H:=AY.old (by unfold Rep;exact ⟨rfl,fun _ z=>z⟩)
theorem AY.tup {o:Nat} (ho:o<=1) {xs:List Dv} {vs:List V} {p:Addr} (hp:H p=none) (h:Reps K g H 0 xs vs nop):AY K g H o (.tup xs) (.ref p) (upd H p (.tup vs)):=
 have sm:=Da hp (.tup vs)
 ⟨sm,nop,EC ho BX (h.held (Step.same (g:=g) (P:=nop) sm) FpOk.nop fun _ z=>z.elim),fun _ z=>z.elim⟩
theorem Ft {xs:List Dv} {vs:List V} (h:Reps K g H 0 xs vs nop):∀ n,Reps K g H 0 (List.replicate n xs).flatten (List.replicate n vs).flatten nop
 | 0=>by simpa using Reps.nil
 | n+1=>by
  rw [nQ,nQ,oC,oC];exact BJ h (Ft h n)
theorem NG {xs:List Dv} {vs:List V} (n:Nat) (h:Reps K g H 0 xs vs nop):Reps K g H 0 (xs.drop n) (vs.drop n) nop:=by
 have h0:=CO.mp h;exact CO.mpr ⟨by simp [h0.1],fun i d v e1 e2=>h0.2 (n+i) d v (by simpa using e1) (by simpa using e2)⟩
theorem ND {xs:List Dv} {vs:List V} (n:Nat) (h:Reps K g H 0 xs vs nop):Reps K g H 0 (xs.take n) (vs.take n) nop:=by
 have h0:=CO.mp h;refine CO.mpr ⟨by simp [h0.1],fun i d v e1 e2=>?_⟩;rw [List.getElem?_take] at e1 e2;split at e1
 ·rename_i hi;rw [if_pos hi] at e2;exact h0.2 i d v e1 e2
 ·cases e1
theorem JD {xs:List Dv} {vs:List V} (h:Reps K g H 0 xs vs nop):Reps K g H 0 xs.reverse vs.reverse nop:=by
 have h0:=CO.mp h;refine CO.mpr ⟨by simp [h0.1],fun i d v e1 e2=>?_⟩;have hi:i < xs.length:=by simpa using (mB.mp e1).1
 rw [List.getElem?_reverse hi] at e1;rw [List.getElem?_reverse (by rw [<- h0.1];exact hi),<- h0.1] at e2;exact h0.2 _ d v e1 e2
theorem CN (ns:List Int):Reps K g H 0 (ns.map .int) (ns.map V.int) nop:=CO.mpr ⟨by simp,fun i d v e1 e2=>by
 rw [mR] at e1 e2;cases q:ns[i]? with
 | none=>rw [q] at e1;cases e1
 | some k=>rw [q] at e1 e2;cases e1;cases e2;exact BW⟩
def cutA {α:Type} (xs:List α) (lo hi:Option Int):List α:=(xs.drop (HT.sIx xs.length 0 lo)).take (HT.sIx xs.length xs.length hi - HT.sIx xs.length 0 lo)
theorem map_cut {α β:Type} (f:α->β) (xs:List α) (lo hi:Option Int):(cutA xs lo hi).map f=cutA (xs.map f) lo hi:=by
 unfold cutA;rw [pd,pe,mX]
theorem atI_map {α β:Type} {f:α->β} {xs:List α} {i:Int}:ES (xs.map f) i=(ES xs i).map f:=by
 unfold ES;rw [mX];cases Nb xs.length i with
 | none=>rfl
 | some j=>show (xs.map f)[j]?=_;rw [mR];rfl
theorem Fu {xs:List Dv} {vs:List V} (lo hi:Option Int) (h:Reps K g H 0 xs vs nop):Reps K g H 0 (cutA xs lo hi) (FK vs lo hi) nop:=by
 unfold cutA FK;rw [h.len];exact ND _ (NG _ h)
theorem LY {xs:List Dv} {vs:List V} {i:Int} {d:Dv} (h:Reps K g H 0 xs vs nop) (e:ES xs i=some d):∃ v,ES vs i=some v/\Rep K g H 0 d v nop:=by
 unfold ES at e ⊢;rw [h.len] at e;cases q:Nb vs.length i with
 | none=>rw [q] at e;cases e
 | some j =>
  rw [q] at e;obtain ⟨v,R,e1,e2,_⟩:=h.get e;exact ⟨v,e1,e2.z⟩
noncomputable def Cc (C:Int->Int->Bool) (f:Int->Int->Int) (x y:Dv):Option Dv:=match x,y with | .int i,.int j=>if C i j=true then some (.int (f i j)) else none | _,_=>none
noncomputable def Bw (f:Int->Int->Bool) (x y:Dv):Option Bool:=match x,y with | .int i,.int j=>some (f i j) | _,_=>none
abbrev Ku:=Cc (fun _ _=>true) fun i j=>i - j
abbrev Cq:=Cc (fun _ j=>decide (0 < j)) fun i j=>i % j
abbrev Kw:=Cc (fun _ j=>decide (0 < j) && decide (j < 1073741824)) fun i j=>i / j
abbrev eA:=Cc (fun i j=>decide (0<=j) && decide (j<=1000000) && decide (i.natAbs < 2 ^ 64)) fun i j=>i ^ j.toNat
abbrev dq:=Bw fun i j=>decide (i < j)
abbrev Yh:=Bw fun i j=>decide (j < i)
abbrev kY:=Bw fun i j=>decide (j<=i)
theorem El {α:Type} {f:Dv->Dv->Option α} {ds:List Dv} {a:α} (h:two f ds=some a):∃ x y,ds=[x,y]/\f x y=some a:=by
 unfold two at h;split at h
 ·exact ⟨_,_,rfl,h⟩
 ·cases h
theorem GB {f:Dv->Dv->Option Dv} {o:Nat} {r:R2} (h:∀ g H x y v w o1 o2 P R d Q,Zd g H->o1<=1->Rep K g H o1 x v P->o2<=1->Rep K g H o2 y w R->f x y=some d->(∀ v H',AY K g H o d v H'->Q v H')->r v w H Q):AK K (two f) o (Jm r):=fun g H ds vs d Q zd ra e k=>by
 obtain ⟨x,y,rfl,e⟩:=El e;obtain ⟨v,o1,P,w,o2,R,rfl,h1,h2,h3,h4⟩:=ra.two;exact h g H x y v w o1 o2 P R d Q zd h1 h2 h3 h4 e k
theorem Gc {f:Dv->Dv->Option Bool} {r:R2} (h:∀ g H x y v w o1 o2 P R b (Q:VK),Zd g H->o1<=1->Rep K g H o1 x v P->o2<=1->Rep K g H o2 y w R->f x y=some b->Q (.bl b) H->r v w H Q):AK K (fun ds=>(two f ds).map .bl) 0 (Jm r):=fun g H ds vs d Q zd ra e k=>by
 have e:(two f ds).map Dv.bl=some d:=e;cases q:two f ds with
 | none=>rw [q] at e;cases e
 | some b =>
  rw [q] at e;cases e;obtain ⟨x,y,rfl,e2⟩:=El q;obtain ⟨v,o1,P,w,o2,R,rfl,h1,h2,h3,h4⟩:=ra.two;exact h g H x y v w o1 o2 P R b Q zd h1 h2 h3 h4 e2 (k _ _ (AY.bl _))
theorem KB {C:Int->Int->Bool} {C':Int->Int->Prop} {f:Int->Int->Int} {o:Nat} (hc:∀ i j,C i j=true->C' i j):AK K (two (Cc C f)) o (Jm (rI C' fun i j=>.int (f i j))):=GB fun g H x y v w o1 o2 P R d Q zd _ h1 _ h2 e k=>by
 unfold Cc at e;split at e
 ·split at e
  ·rename_i c;cases e;rw [rep_int h1,rep_int h2];exact ⟨_,_,rfl,rfl,hc _ _ c,k _ _ (AY.int _)⟩
  ·cases e
 ·cases e
theorem Ww {f:Int->Int->Int} {o:Nat}:AK K (two (Cc (fun _ _=>true) f)) o (Jm (Rr fun i j=>.int (f i j))):=GB fun g H x y v w o1 o2 P R d Q zd _ h1 _ h2 e k=>by
 unfold Cc at e;split at e
 ·cases e;rw [rep_int h1,rep_int h2];exact ⟨_,_,rfl,rfl,k _ _ (AY.int _)⟩
 ·cases e
theorem KC {f:Int->Int->Bool}:AK K (fun ds=>(two (Bw f) ds).map .bl) 0 (Jm (Rr fun i j=>.bl (f i j))):=Gc fun g H x y v w o1 o2 P R b Q zd _ h1 _ h2 e k=>by
 unfold Bw at e;split at e
 ·cases e;rw [rep_int h1,rep_int h2];exact ⟨_,_,rfl,rfl,k⟩
 ·cases e
noncomputable def Ai (x y:Dv):Option Dv:=match x,y with
 | .int i,.int j=>some (.int (i+j))
 | .str a,.str b=>if a.length+b.length<=1000000 then some (.str (a++b)) else none
 | .lst xs,.lst ys=>if xs.length+ys.length<=1000000 then some (.lst (xs++ys)) else none
 | .tup xs,.tup ys=>if xs.length+ys.length<=1000000 then some (.tup (xs++ys)) else none
 | _,_=>none
theorem bI:AK K (two Ai) 1 (Jm (Ld K)):=GB fun g H x y v w o1 o2 P R d Q zd l1 h1 l2 h2 e k=>by
 unfold Ai at e;split at e
 ·cases e;rw [rep_int h1,rep_int h2];exact Vp (k _ _ (AY.int _))
 ·split at e
  ·rename_i hl;cases e;rw [rep_str h1,rep_str h2];refine Vn (by rw [CJ,CJ];exact hl) ?_;rw [Mn];exact k _ _ (AY.str _)
  ·cases e
 ·split at e
  ·rename_i hl;cases e;obtain ⟨a,us,rfl,_,hx,ha⟩:=EM l1 h1;obtain ⟨b,ws,rfl,_,hy,hb⟩:=EM l2 h2;exact Vo ha hb (by rw [<- hx.len,<- hy.len];exact hl) fun p hp=>k _ _ (AY.lst zd (BJ hx hy) hp)
  ·cases e
 ·split at e
  ·rename_i hl;cases e;obtain ⟨a,us,rfl,ha,hx,ha'⟩:=Em l1 h1;obtain ⟨b,ws,rfl,hb,hy,hb'⟩:=Em l2 h2;have al:=BJ hx hy
   by_cases hu:us=[]
   ·subst hu;exact .inr ⟨a,b,ws,rfl,rfl,ha,hb,k _ _ (AY.old (EC (mF 1) hb' al))⟩
   ·refine .inl (.inr (.inr (.inr ⟨a,b,us,ws,rfl,rfl,ha,hb,hu,by rw [<- hx.len,<- hy.len];exact mQ hl (by decide),fun hw=>?_,fun _ p hp=>k _ _ (AY.tup (mF 1) hp al)⟩)));subst hw;rw [nO] at al;exact k _ _ (AY.old (EC (mF 1) ha' al))
  ·cases e
 ·cases e
noncomputable def big (i:Int):Bool:=decide (-(2 ^ 64) < i) && decide (i < 2 ^ 64)
def EO (x y:Dv):Option Dv:=match x,y with
 | .int i,.int j=>if (big i || big j)=true then some (.int (i * j)) else none
 | .lst xs,.int k=>if xs.length * k.toNat<=1000000/\k < 1000000/\-1000000 < k then some (.lst (List.replicate k.toNat xs).flatten) else none
 | .tup xs,.int k=>if xs≠[]/\1<=k/\k < 1000000/\xs.length * k.toNat<=1000000 then some (.tup (List.replicate k.toNat xs).flatten) else none
 | _,_=>none
theorem bD:AK K (two EO) 1 (Jm (fun x y H Q=>(rI Yo fun i j=>.int (i * j)) x y H Q\/fw x y H Q\/L4.rRepT x y H Q)):=GB fun g H x y v w o1 o2 P R d Q zd l1 h1 l2 h2 e k=>by
 unfold EO at e;split at e
 ·split at e
  ·rename_i c;cases e;rw [rep_int h1,rep_int h2];refine .inl ⟨_,_,rfl,rfl,?_,k _ _ (AY.int _)⟩;rw [pT] at c;unfold big at c;rw [ly,ly,decide_eq_true_eq,decide_eq_true_eq,decide_eq_true_eq,decide_eq_true_eq] at c;exact c
  ·cases e
 ·split at e
  ·rename_i hl;cases e;obtain ⟨a,us,rfl,ha,hx,ha'⟩:=EM l1 h1;rw [rep_int h2];exact .inr (.inl ⟨a,_,us,rfl,rfl,ha',by omega,by omega,by rw [<- hx.len];exact mQ hl.1 (by decide),fun p hp=>k _ _ (AY.lst zd (Ft hx _) hp)⟩)
  ·cases e
 ·split at e
  ·rename_i hl;cases e;obtain ⟨a,us,rfl,ha,hx,ha'⟩:=Em l1 h1;rw [rep_int h2];refine .inr (.inr ⟨a,_,us,rfl,rfl,ha',?_,hl.2.1,by omega,by rw [<- hx.len];exact hl.2.2.2,fun z=>?_,fun _ p hp=>k _ _ (AY.tup (mF 1) hp (Ft hx _))⟩)
   ·intro z;have:=hx.len;rw [z] at this;exact hl.1 (mq this)
   ·subst z;have:∀ (l:List Dv),(List.replicate (Int.toNat 1) l).flatten=l:=fun l=>by simp
    rw [this] at k;exact k _ _ (AY.old (EC (mF 1) ha' hx))
  ·cases e
 ·cases e
noncomputable def Ad (x:Dv):Option Dv:=match x with
 | .str l=>if l.length<=1000000 then some (.int l.length) else none
 | .lst xs=>some (.int xs.length)
 | .tup xs=>some (.int xs.length)
 | .scr ns=>some (.int ns.length)
 | .dct ks _=>some (.int ks.length)
 | _=>none
theorem Lr {α:Type} {f:Dv->Option α} {ds:List Dv} {a:α} (h:one f ds=some a):∃ x,ds=[x]/\f x=some a:=by
 unfold one at h;split at h
 ·exact ⟨_,rfl,h⟩
 ·cases h
theorem EZ {f:Dv->Option Dv} {o:Nat} {r:Rl} (h:∀ g H x v o1 P d Q,Zd g H->o1<=1->Rep K g H o1 x v P->f x=some d->(∀ v H',AY K g H o d v H'->Q v H')->r [v] H Q):AK K (one f) o r:=fun g H ds vs d Q zd ra e k=>by
 obtain ⟨x,rfl,e⟩:=Lr e;obtain ⟨v,o1,P,rfl,h1,h2⟩:=ra.one;exact h g H x v o1 P d Q zd h1 h2 e k
theorem bE {o:Nat}:AK K (one Ad) o (fun xs H Q=>QO K xs H Q\/ZG xs H Q):=EZ fun g H x v o1 P d Q zd l1 h1 e k=>by
 unfold Ad at e;split at e
 ·split at e
  ·rename_i l hl;cases e;rw [rep_str h1];refine .inl (Ql (by rw [CJ];exact hl) ?_);rw [CJ];exact k _ _ (AY.int _)
  ·cases e
 ·cases e;obtain ⟨a,us,rfl,ha,hx,ha'⟩:=EM l1 h1;refine .inl (Xg ha' ?_);rw [<- hx.len];exact k _ _ (AY.int _)
 ·cases e;obtain ⟨a,us,rfl,ha,hx,ha'⟩:=Em l1 h1;refine .inl ⟨_,_,rfl,.inr ⟨us,ha,rfl⟩,?_⟩;rw [<- hx.len];exact k _ _ (AY.int _)
 ·cases e;obtain ⟨a,rfl,ha⟩:=Mz h1;refine .inl (UM ha ?_);rw [mX];exact k _ _ (AY.int _)
 ·cases e;obtain ⟨a,us,rfl,ha,hl,hx⟩:=Xy h1;refine .inr ⟨a,_,rfl,ha,?_⟩;rename_i ks xs;have:(ks.zip us).length=ks.length:=by rw [List.length_zip,hl,hx.len,pJ]
  rw [this];exact k _ _ (AY.int _)
 ·cases e
def AA (x y:Dv):Option Dv:=match x,y with
 | .lst xs,.int i=>ES xs i
 | .tup xs,.int i=>ES xs i
 | .scr ns,.int i=>(ES ns i).map .int
 | .str l,.int i=>if l.length<=1000000 then (ES l i).map fun c=>.str [c] else none
 | .dct ks ds,k=>(JJ k).bind fun k=>GH k ks ds
 | _,_=>none
theorem bG:AK K (two AA) 0 (Jm fun x y H Q=>ak K x y H Q\/lF x y H Q):=GB fun g H x y v w o1 o2 P R d Q zd l1 h1 l2 h2 e k=>by
 unfold AA at e;split at e
 ·obtain ⟨a,us,rfl,ha,hx,ha'⟩:=EM l1 h1;rw [rep_int h2];obtain ⟨u,e2,h3⟩:=LY hx e;exact .inl (Wg ha' e2 (k _ _ (AY.old h3)))
 ·obtain ⟨a,us,rfl,ha,hx,ha'⟩:=Em l1 h1;rw [rep_int h2];obtain ⟨u,e2,h3⟩:=LY hx e;exact .inl (.inr (.inl ⟨a,us,_,u,rfl,rfl,ha,e2,k _ _ (AY.old h3)⟩))
 ·rename_i ns i;obtain ⟨a,rfl,ha⟩:=Mz h1;rw [rep_int h2];cases q:ES ns i with
  | none=>rw [q] at e;cases e
  | some j =>
   rw [q] at e;cases e;exact .inl (aj ha (by rw [atI_map,q];rfl) (k _ _ (AY.int _)))
 ·rename_i l i;split at e
  ·rename_i hl;rw [rep_str h1,rep_int h2];cases q:ES l i with
   | none=>rw [q] at e;cases e
   | some c =>
    rw [q] at e;cases e;exact .inl (Wf (by rw [CJ];exact hl) (by rw [Ga];exact q) (k _ _ (AY.str [c])))
  ·cases e
 ·obtain ⟨kk,ek,e⟩:=bind_some' e;obtain ⟨a,us,rfl,ha,hl,hx⟩:=Xy h1;obtain ⟨u,e2,h3⟩:=MQ hx e;rw [KN h2 ek];exact .inr ⟨a,u,rfl,e2▸IZ.k ha,k _ _ (AY.old h3)⟩
 ·cases e
def Kv (x:Dv) (lo hi:Option Int):Option Dv:=match x with
 | .str l=>if l.length<=1000000 then some (.str (Nv l lo hi)) else none
 | .lst xs=>some (.lst (cutA xs lo hi))
 | .tup xs=>some (.tup (cutA xs lo hi))
 | .scr ns=>some (.lst ((cutA ns lo hi).map .int))
 | _=>none
theorem gL (lo hi:Option Int):AK K (one fun d=>Kv d lo hi) 1 (jD fun x H Q=>QN K x lo hi H Q):=EZ fun g H x v o1 P d Q zd l1 h1 e k=>by
 show QN K v lo hi H Q;cases x with
 | str l =>
  simp only [Kv.eq_def] at e;split at e
  ·rename_i hl;cases e;rw [rep_str h1];refine WR (by rw [CJ];exact hl) ?_;rw [SH];exact k _ _ (AY.str _)
  ·cases e
 | lst xs =>
  cases e;obtain ⟨a,us,rfl,ha,hx,ha'⟩:=EM l1 h1;exact WS ha' fun p hp=>k _ _ (AY.lst zd (Fu lo hi hx) hp)
 | tup xs =>
  cases e;obtain ⟨a,us,rfl,ha,hx,ha'⟩:=Em l1 h1;have al:=Fu lo hi hx
  by_cases w:HT.sIx us.length 0 lo=0/\HT.sIx us.length us.length hi=us.length
  ·refine .inr ⟨a,us,rfl,ha,w,k _ _ (AY.old ?_)⟩;have ec:FK us lo hi=us:=by unfold FK;rw [w.1,w.2];simp
   rw [ec] at al;exact EC (mF 1) ha' al
  ·exact .inl (.inr (.inr ⟨a,us,rfl,ha,w,fun p hp=>k _ _ (AY.tup (mF 1) hp al)⟩))
 | scr ns =>
  cases e;obtain ⟨a,rfl,ha⟩:=Mz h1;refine aN ha fun p hp=>k _ _ (AY.lst zd ?_ hp)
  rw [map_cut];exact Fu lo hi (CN ns)
 | _=>cases e
end
mutual
noncomputable def toD:Dv->L3.D
 | .bl b=>.fl (.bl b)
 | .int i=>.fl (.int i)
 | .str l=>.fl (.str (tx l))
 | .tup xs=>.tup (toDs xs)
 | .lst xs=>.lst (toDs xs)
 | _=>.fl .non
noncomputable def toDs:List Dv->List L3.D
 | []=>[]
 | d::ds=>toD d::toDs ds
end
mutual
noncomputable def Dv.cmp:Dv->Bool
 | .non | .bl _ | .int _ | .str _=>true
 | .tup xs=>AX xs
 | .lst xs=>AX xs
 | _=>false
noncomputable def AX:List Dv->Bool
 | []=>true
 | d::ds=>d.cmp && AX ds
end
mutual
noncomputable def Dv.dep:Dv->Nat
 | .tup xs=>Aj xs+1
 | .lst xs=>Aj xs+1
 | _=>0
noncomputable def Aj:List Dv->Nat
 | []=>0
 | d::ds=>max d.dep (Aj ds)
end
mutual
noncomputable def eqV:Dv->Dv->Bool
 | .non,.non=>true
 | .bl a,.bl b=>a == b
 | .bl a,.int b=>(if a then 1 else 0) == b
 | .int a,.bl b=>a == (if b then 1 else 0)
 | .int a,.int b=>a == b
 | .str a,.str b=>a == b
 | .tup xs,.tup ys=>eqVs xs ys
 | .lst xs,.lst ys=>eqVs xs ys
 | _,_=>false
noncomputable def eqVs:List Dv->List Dv->Bool
 | [],[]=>true
 | x::xs,y::ys=>eqV x y && eqVs xs ys
 | _,_=>false
end
mutual
theorem MM:∀ (d e:Dv),d.cmp=true->e.cmp=true->L3.eqD (toD d) (toD e)=eqV d e
 | .non,e,h,k | .bl _,e,h,k | .int _,e,h,k=>by cases e<;>first | (unfold toD L3.eqD eqV;rfl) | (unfold Dv.cmp at k;cases k)
 | .str l,e,h,k=>by
  cases e with
  | str m=>unfold toD L3.eqD eqV;rw [L2.eqV_str];exact (Bool.beq_eq_decide_eq l m).symm
  | _=>first | (unfold toD L3.eqD eqV;rfl) | (unfold Dv.cmp at k;cases k)
 | .tup xs,e,h,k=>by
  cases e with
  | tup ys=>unfold toD L3.eqD eqV;unfold Dv.cmp at h k;exact Nr xs ys h k
  | _=>first | (unfold toD L3.eqD eqV;rfl) | (unfold Dv.cmp at k;cases k)
 | .lst xs,e,h,k=>by
  cases e with
  | lst ys=>unfold toD L3.eqD eqV;unfold Dv.cmp at h k;exact Nr xs ys h k
  | _=>first | (unfold toD L3.eqD eqV;rfl) | (unfold Dv.cmp at k;cases k)
 | .dct _ _,e,h,k | .ref _,e,h,k | .scr _,e,h,k | .ty _,e,h,k | .mtp _,e,h,k | .dti _,e,h,k=>by unfold Dv.cmp at h;cases h
theorem Nr:∀ (d e:List Dv),AX d=true->AX e=true->L3.eqDs (toDs d) (toDs e)=eqVs d e
 | [],[],_,_=>by unfold toDs L3.eqDs eqVs;rfl
 | [],_::_,_,_=>by simp only [toDs,L3.eqDs,eqVs]
 | _::_,[],_,_=>by simp only [toDs,L3.eqDs,eqVs]
 | x::xs,y::ys,h,k=>by
  unfold AX at h k;rw [ly] at h k;simp only [toDs,L3.eqDs,eqVs];rw [MM x y h.1 k.1,Nr xs ys h.2 k.2]
end
mutual
theorem dep_D:∀ (d:Dv),(toD d).dep=d.dep
 | .non | .bl _ | .int _ | .str _ | .dct _ _ | .ref _ | .scr _ | .ty _ | .mtp _ | .dti _=>by unfold toD L3.D.dep Dv.dep;rfl
 | .tup xs=>by unfold toD L3.D.dep Dv.dep;rw [deps_D xs]
 | .lst xs=>by unfold toD L3.D.dep Dv.dep;rw [deps_D xs]
theorem deps_D:∀ (d:List Dv),L3.depL (toDs d)=Aj d
 | []=>by unfold toDs L3.depL Aj;rfl
 | x::xs=>by simp only [toDs,L3.depL,Aj];rw [dep_D x,deps_D xs]
end
section
variable {K:W.Frag} {g:G} {H:Hp}
mutual
theorem Rep.is:∀ {o:Nat} {d:Dv} {v:V} {P:Fp},Rep K g H o d v P->d.cmp=true->L3.Is K H v (toD d)
 | _,.non,v,P,h,_=>by rw [rep_non h];unfold toD L3.Is;exact ⟨rfl,rfl⟩
 | _,.bl b,v,P,h,_=>by rw [rep_bl h];unfold toD L3.Is;exact ⟨rfl,rfl⟩
 | _,.int i,v,P,h,_=>by rw [rep_int h];unfold toD L3.Is;exact ⟨rfl,rfl⟩
 | _,.str l,v,P,h,_=>by rw [rep_str h];unfold toD L3.Is;exact ⟨rfl,rfl⟩
 | _,.tup xs,v,P,h,c=>by
  unfold Rep at h;obtain ⟨a,vs,rfl,h1,h2⟩:=h;unfold Dv.cmp at c;unfold toD L3.Is;exact ⟨a,vs,rfl,.inl (.inl h1),Reps.isL h2 c⟩
 | _,.lst xs,v,P,h,c=>by
  unfold Rep at h;obtain ⟨a,vs,P',rfl,h1,h2,_⟩:=h;unfold Dv.cmp at c;unfold toD L3.Is;exact ⟨a,vs,rfl,.inl (.inl h1.1),Reps.isL h2 c⟩
 | _,.dct _ _,v,P,h,c | _,.ref _,v,P,h,c | _,.scr _,v,P,h,c | _,.ty _,v,P,h,c | _,.mtp _,v,P,h,c | _,.dti _,v,P,h,c=>by unfold Dv.cmp at c;cases c
theorem Reps.isL:∀ {o:Nat} {d:List Dv} {v:List V} {P:Fp},Reps K g H o d v P->AX d=true->L3.IsL K H v (toDs d)
 | _,[],v,P,h,_=>by
  unfold Reps at h;obtain ⟨rfl,_⟩:=h;unfold toDs L3.IsL
  trivial
 | _,x::xs,v,P,h,c=>by
  unfold Reps at h;obtain ⟨u,r,P1,P2,rfl,h1,h2,_⟩:=h;unfold AX at c;rw [ly] at c;unfold toDs L3.IsL;exact ⟨Rep.is h1 c.1,Reps.isL h2 c.2⟩
end
def Rf (neg:Bool) (x y:Dv):Option Bool:=if (x.cmp && y.cmp && decide (x.dep<=150))=true then some (if neg then !eqV x y else eqV x y) else none
abbrev IX:=Rf false
abbrev WB:=Rf true
theorem Tc {neg:Bool}:AK K (fun ds=>(two (Rf neg) ds).map .bl) 0 (Jm (L3.rEqA K neg)):=Gc fun g H x y v w o1 o2 P R b Q zd _ h1 _ h2 e k=>by
 unfold Rf at e;split at e
 ·rename_i c;cases e;rw [ly,ly,decide_eq_true_eq] at c;refine ⟨toD x,toD y,by rw [dep_D];exact c.2,h1.is c.1.1,h2.is c.1.2,?_⟩;rw [MM x y c.1.1 c.1.2];exact k
 ·cases e
noncomputable def eW:Dv->Option (List Dv)
 | .lst xs=>some xs
 | .tup xs=>some xs
 | .mtp ls=>some (ls.map .str)
 | _=>none
def GE (e:Dv) (ds:List Dv):Bool:=ds.any fun d=>eqV d e
def Kq (neg:Bool) (e s:Dv):Option Bool:=match e,s with
 | .str x,.str l=>some (if neg then !Q.sub1 x l else Q.sub1 x l)
 | e,.dct ks ds=>(JJ e).bind fun k=>some (if neg then !(GH k ks ds).isSome else (GH k ks ds).isSome)
 | e,s=>match eW s with
  | some xs=>if (e.cmp && AX xs && decide (Aj xs<=150))=true then some (if neg then !GE e xs else GE e xs) else none
  | none=>none
abbrev jM:=Kq false
abbrev IC:=Kq true
theorem anyD (e:Dv) (he:e.cmp=true):∀ (ds:List Dv),AX ds=true->((toDs ds).any fun d=>L3.eqD d (toD e))=GE e ds
 | [],_=>by unfold toDs GE;rfl
 | d::ds,h=>by
  unfold AX at h;rw [ly] at h;unfold GE;simp only [toDs,nU];rw [MM d e h.1 he,anyD e he ds h.2];rfl
theorem NF (ls:List (List Nat)):Reps K g H 0 (ls.map .str) (ls.map fun l=>V.str (tx l)) nop:=CO.mpr ⟨by simp,fun i d v e1 e2=>by
 rw [mR] at e1 e2;cases q:ls[i]? with
 | none=>rw [q] at e1;cases e1
 | some k=>rw [q] at e1 e2;cases e1;cases e2;unfold Rep;exact ⟨rfl,fun _ z=>z⟩⟩
theorem Ta {neg:Bool}:AK K (fun ds=>(two (Kq neg) ds).map .bl) 0 (Jm fun x y H q=>Q.rInQ K neg x y H q\/au neg x y H q):=Gc fun g H x y v w o1 o2 P R b Q zd l1 h1 l2 h2 e k=>by
  unfold Kq at e;split at e
  · cases e;rw [rep_str h1,rep_str h2];exact .inl (.inl ⟨_,_,rfl,rfl,k⟩)
  · obtain ⟨kk,ek,e⟩:=bind_some' e;cases e;obtain ⟨a,us,rfl,ha,hl,hx⟩:=Xy h2;rw [KN h1 ek];refine .inr ⟨a,_,rfl,IZ.k ha,?_⟩;rw [JX hl hx.len];exact k
  · rename_i a s _;split at e
    · rename_i xs es;split at e
      · rename_i c;cases e;rw [ly,ly,decide_eq_true_eq] at c;have go:∀ p ys,w=.ref p->(DA K H p ys\/Eg K H p ys)->Reps K g H 0 xs ys nop->L3.rInA K neg v w H Q:=by
          rintro p ys rfl hs hr;refine ⟨p,ys,toDs xs,toD x,rfl,hs,hr.isL c.1.2,h1.is c.1.1,by rw [deps_D];exact c.2,?_⟩;rw [anyD x c.1.1 xs c.1.2];exact k
        cases y with
        | lst ys =>
          cases es;obtain ⟨p,us,rfl,ha,hx,_⟩:=EM l2 h2;exact .inl (.inr (go p us rfl (.inl ha) hx))
        | tup ys =>
          cases es;obtain ⟨p,us,rfl,ha,hx,_⟩:=Em l2 h2;exact .inl (.inr (go p us rfl (.inr ha) hx))
        | mtp ls =>
          cases es;unfold Rep at h2;obtain ⟨⟨p,rfl,hm⟩,_⟩:=h2;exact .inl (.inr (go p _ rfl (.inr (.inr hm)) (NF ls)))
        | _=>cases es
      · cases e
    · cases e
end
noncomputable def Pt:List Dv->Option (List Bool)
 | []=>some []
 | .bl b::ds=>(Pt ds).map (b::·)
 | _=>none
noncomputable def SA:List Dv->Option (List Int)
 | []=>some []
 | .int b::ds=>(SA ds).map (b::·)
 | _=>none
noncomputable def Ip:List Dv->Option (List (List Nat))
 | []=>some []
 | .str b::ds=>(Ip ds).map (b::·)
 | _=>none
section
variable {K:W.Frag} {g:G} {H:Hp}
theorem LJ:∀ {ds:List Dv} {bs:List Bool} {vs:List V},Reps K g H 0 ds vs nop->Pt ds=some bs->vs=bs.map V.bl
 | [],bs,vs,h,e=>by cases e;exact BD h
 | d::ds,bs,vs,h,e=>by
  obtain ⟨v,r,rfl,h1,h2⟩:=Aw h;cases d<;>simp only [Pt,nF,reduceCtorEq] at e;obtain ⟨bs',e,rfl⟩:=e;rw [rep_bl h1,LJ h2 e];rfl
theorem Il:∀ {ds:List Dv} {bs:List (List Nat)} {vs:List V},Reps K g H 0 ds vs nop->Ip ds=some bs->vs=(bs.map tx).map V.str
 | [],bs,vs,h,e=>by cases e;exact BD h
 | d::ds,bs,vs,h,e=>by
  obtain ⟨v,r,rfl,h1,h2⟩:=Aw h;cases d<;>simp only [Ip,nF,reduceCtorEq] at e;obtain ⟨bs',e,rfl⟩:=e;rw [rep_str h1,Il h2 e];rfl
def Kx (x:Dv):Option Dv:=match x with | .lst xs=>(Pt xs).map fun bs=>.bl (bs.all id) | _=>none
theorem bH {o:Nat}:AK K (one Kx) o (gG K):=EZ fun g H x v o1 P d Q zd l1 h1 e k=>by
 unfold Kx at e;split at e
 ·simp only [nF] at e;obtain ⟨bs,e,rfl⟩:=e;obtain ⟨p,us,rfl,ha,hx,_⟩:=EM l1 h1;rw [LJ hx e] at ha;exact ⟨p,bs,rfl,ha,k _ _ (AY.bl _)⟩
 ·cases e
def lu (x:Dv):Option Dv:=match x with
 | .lst xs=>(SA xs).map fun ns=>.int ns.sum
 | .tup xs=>(SA xs).map fun ns=>.int ns.sum
 | _=>none
noncomputable def DK (x y:Dv):Option Dv:=match x,y with | .int i,.int j=>some (.int (if j > i then j else i)) | _,_=>none
noncomputable def Jk (x y:Dv):Option Dv:=match x,y with | .int i,.int j=>some (.int (if j < i then j else i)) | _,_=>none
theorem EE {f:Dv->Dv->Option Dv} {o:Nat} {r:Rl} (h:∀ g H x y v w o1 o2 P R d Q,Zd g H->o1<=1->Rep K g H o1 x v P->o2<=1->Rep K g H o2 y w R->f x y=some d->(∀ v H',AY K g H o d v H'->Q v H')->r [v,w] H Q):AK K (two f) o r:=fun g H ds vs d Q zd ra e k=>by
 obtain ⟨x,y,rfl,e⟩:=El e;obtain ⟨v,o1,P,w,o2,R,rfl,h1,h2,h3,h4⟩:=ra.two;exact h g H x y v w o1 o2 P R d Q zd h1 h2 h3 h4 e k
theorem Ws {o:Nat}:AK K (two DK) o (fun xs H Q=>∃ i j,xs=[.int i,.int j]/\Q (.int (if j > i then j else i)) H):=EE fun g H x y v w o1 o2 P R d Q zd _ h1 _ h2 e k=>by
 unfold DK at e;split at e
 ·cases e;rw [rep_int h1,rep_int h2];exact ⟨_,_,rfl,k _ _ (AY.int _)⟩
 ·cases e
theorem Wr {o:Nat}:AK K (two Jk) o (fun xs H Q=>∃ i j,xs=[.int i,.int j]/\Q (.int (if j < i then j else i)) H):=EE fun g H x y v w o1 o2 P R d Q zd _ h1 _ h2 e k=>by
 unfold Jk at e;split at e
 ·cases e;rw [rep_int h1,rep_int h2];exact ⟨_,_,rfl,k _ _ (AY.int _)⟩
 ·cases e
noncomputable def FP (x:Dv):Option Dv:=match x with | .int i=>some (.int i) | .bl b=>some (.int (if b then 1 else 0)) | _=>none
theorem Wv {o:Nat}:AK K (one FP) o (fun xs H Q=>(∃ i,xs=[.int i]/\Q (.int i) H)\/∃ k,xs=[.bl k]/\Q (.int (if k then 1 else 0)) H):=EZ fun g H x v o1 P d Q zd l1 h1 e k=>by
 unfold FP at e;split at e
 ·cases e;rw [rep_int h1];exact .inl ⟨_,rfl,k _ _ (AY.int _)⟩
 ·cases e;rw [rep_bl h1];exact .inr ⟨_,rfl,k _ _ (AY.int _)⟩
 ·cases e
noncomputable def AI (x:Dv):Option Dv:=match x with | .lst xs=>some (.tup xs) | .tup xs=>some (.tup xs) | _=>none
theorem TY:AK K (one AI) 1 (Lc K):=EZ fun g H x v o1 P d Q zd l1 h1 e k=>by
 unfold AI at e;split at e
 ·cases e;obtain ⟨p,us,rfl,ha,hx,_⟩:=EM l1 h1;exact ⟨p,us,rfl,.inl ⟨ha,fun l hl=>k _ _ (AY.tup (mF 1) hl hx)⟩⟩
 ·cases e;obtain ⟨p,us,rfl,ha,hx,ha'⟩:=Em l1 h1;exact ⟨p,us,rfl,.inr ⟨ha,k _ _ (AY.old (EC (mF 1) ha' hx))⟩⟩
 ·cases e
noncomputable def Mi (x:Dv):Option Dv:=match x with | .lst xs=>some (.lst xs) | .tup xs=>some (.lst xs) | .scr ns=>some (.lst (ns.map .int)) | _=>none
theorem Wt:AK K (one Mi) 1 (On K):=EZ fun g H x v o1 P d Q zd l1 h1 e k=>by
 unfold Mi at e;split at e
 ·cases e;obtain ⟨p,us,rfl,ha,hx,_⟩:=EM l1 h1;exact ⟨p,us,rfl,.inl ha,fun l hl=>k _ _ (AY.lst zd hx hl)⟩
 ·cases e;obtain ⟨p,us,rfl,ha,hx,_⟩:=Em l1 h1;exact ⟨p,us,rfl,.inr ha,fun l hl=>k _ _ (AY.lst zd hx hl)⟩
 ·cases e;obtain ⟨p,rfl,ha⟩:=Mz h1;exact ⟨p,_,rfl,.inl ha,fun l hl=>k _ _ (AY.lst zd (CN _) hl)⟩
 ·cases e
def IG (x y:Dv):Option Dv:=match x,y with
 | .str sep,.lst xs=>match Ip xs with
  | some ys=>if (ys.map List.length).sum+ys.length * sep.length<=1000000 then some (.str (jn sep ys)) else none
  | none=>none
 | _,_=>none
theorem Wu {o:Nat}:AK K (two IG) o (eI (TM K)):=EE fun g H x y v w o1 o2 P R d Q zd l1 h1 l2 h2 e k=>by
 unfold IG at e;split at e
 ·split at e
  ·rename_i sep xs _ ys e1;split at e
   ·rename_i hz;cases e;obtain ⟨a,us,rfl,ha,hx,_⟩:=EM l2 h2;rw [rep_str h1];rw [Il hx e1] at ha;refine ⟨tx sep,a,ys.map tx,rfl,rfl,ha,?_,?_⟩
    ·rw [aC,mX,CJ];exact mQ hz (by decide)
    ·rw [eX];exact k _ _ (AY.str _)
   ·cases e
  ·cases e
 ·cases e
noncomputable def GL (x:Dv):Option Dv:=match x with
 | .str l=>if (l.all (fun c=>decide (c < 128)) && decide (l.length<=1000000))=true then some (.str (l.map PyProof.Rows.up1)) else none
 | _=>none
theorem TX {o:Nat}:AK K (one GL) o (eI TH):=EZ fun g H x v o1 P d Q zd l1 h1 e k=>by
 unfold GL at e;split at e
 ·split at e
  ·rename_i l c;cases e;rw [ly,decide_eq_true_eq,mW] at c;rw [rep_str h1];exact ⟨l,rfl,rfl,fun x hx=>of_decide_eq_true (c.1 x hx),c.2,k _ _ (AY.str _)⟩
  ·cases e
 ·cases e
def FE (e:Dv):List Dv->Option Nat
 | []=>none
 | d::ds=>if eqV d e=true then some 0 else (FE e ds).map (·+1)
theorem JM (e:Dv):∀ (ds:List Dv) (j:Nat),FE e ds=some j->(∃ d,ds[j]?=some d/\eqV d e=true)/\∀ (i:Nat) (d:Dv),i < j->ds[i]?=some d->eqV d e=false
 | [],j,h=>by cases h
 | d::ds,j,h=>by
  unfold FE at h;split at h
  ·rename_i c;cases h;exact ⟨⟨d,rfl,c⟩,fun i d hi=>by omega⟩
  ·rename_i c;simp only [nF] at h;obtain ⟨k,hk,rfl⟩:=h;obtain ⟨h1,h2⟩:=JM e ds k hk;refine ⟨by simpa using h1,fun i d' hi hd=>?_⟩;cases i with
   | zero=>simp at hd;subst hd;simpa using c
   | succ i=>exact h2 i d' (by omega) (by simpa using hd)
theorem toDs_get:∀ (ds:List Dv) (i:Nat),(toDs ds)[i]?=(ds[i]?).map toD
 | [],i=>by unfold toDs;simp
 | d::ds,0=>by unfold toDs;simp
 | d::ds,i+1=>by
  have:=toDs_get ds i;simp only [toDs,ph];exact this
theorem Iq {ds:List Dv} (h:AX ds=true):∀ {i:Nat} {d:Dv},ds[i]?=some d->d.cmp=true:=by
 induction ds with
 | nil=>intro i d e;simp at e
 | cons x xs ih =>
  unfold AX at h;rw [ly] at h;intro i d e;cases i with
  | zero=>simp at e;subst e;exact h.1
  | succ i=>exact ih h.2 (i:=i) (by simpa using e)
theorem US {e:Dv} {ds:List Dv} {j:Nat} (he:e.cmp=true) (hd:AX ds=true) (h:FE e ds=some j) :
    (∃ d,(toDs ds)[j]?=some d/\L3.eqD d (toD e)=true)/\∀ (m:Nat) (d:L3.D),m < j->(toDs ds)[m]?=some d->L3.eqD d (toD e)=false:=by
  obtain ⟨⟨d,h1,h2⟩,h3⟩:=JM e ds j h;refine ⟨⟨toD d,by rw [toDs_get,h1];rfl,by rw [MM d e (Iq hd h1) he];exact h2⟩,fun m d' hm hd'=>?_⟩;rw [toDs_get] at hd';cases q:ds[m]? with
  | none=>rw [q] at hd';cases hd'
  | some dm =>
    rw [q] at hd';cases hd';rw [MM dm e (Iq hd q) he];exact h3 m dm hm q
def Dq (x e:Dv):Option Dv:=match x with
 | .lst xs=>if (e.cmp && AX xs && decide (Aj xs<=150))=true then (FE e xs).map fun j=>.int (j:Nat) else none
 | _=>none
theorem TZ {o:Nat}:AK K (two Dq) o (eI (Q.rIndexD K)):=EE fun g H x y v w o1 o2 P R d Q zd l1 h1 l2 h2 e k=>by
 unfold Dq at e;split at e
 ·split at e
  ·rename_i xs c;rw [ly,ly,decide_eq_true_eq] at c;simp only [nF] at e;obtain ⟨j,e1,rfl⟩:=e;obtain ⟨p,us,rfl,ha,hx,_⟩:=EM l1 h1;obtain ⟨q1,q2⟩:=US c.1.1 c.1.2 e1;exact ⟨p,us,w,toDs xs,toD y,j,rfl,rfl,ha,hx.isL c.1.2,h2.is c.1.1,by rw [deps_D];exact c.2,q1,q2,k _ _ (AY.int _)⟩
  ·cases e
 ·cases e
def Bq (x e:Dv):Option Dv:=match x with
 | .tup xs=>if (e.cmp && AX xs && decide (Aj xs<=150))=true then (FE e xs).map fun j=>.int (j:Nat) else none
 | _=>none
theorem QR {o:Nat}:AK K (two Bq) o (eI (Q.rIndexTD K)):=EE fun g H x y v w o1 o2 P R d Q zd l1 h1 l2 h2 e k=>by
 unfold Bq at e;split at e
 ·split at e
  ·rename_i xs c;rw [ly,ly,decide_eq_true_eq] at c;simp only [nF] at e;obtain ⟨j,e1,rfl⟩:=e;obtain ⟨p,us,rfl,_,hx,ha⟩:=Em l1 h1;obtain ⟨q1,q2⟩:=US c.1.1 c.1.2 e1;exact ⟨p,us,w,toDs xs,toD y,j,rfl,rfl,ha,hx.isL c.1.2,h2.is c.1.1,by rw [deps_D];exact c.2,q1,q2,k _ _ (AY.int _)⟩
  ·cases e
 ·cases e
noncomputable def gk:Dv->Option String
 | .non=>some "NoneType"
 | .bl _=>some "bool"
 | .int _=>some "int"
 | .str _=>some "str"
 | .tup _=>some "tuple"
 | .lst _=>some "list"
 | _=>none
def Rj (x y:Dv):Option Dv:=match y with
 | .ty T=>if ["int", "bool", "str", "tuple", "list"].contains T=true then (gk x).map fun k=>.bl (Q.isSub k T) else none
 | _=>none
theorem bF {o:Nat}:AK K (two Rj) o (ao K):=EE fun g H x y v w o1 o2 P R d Q zd l1 h1 l2 h2 e k=>by
 unfold Rj at e;split at e
 ·rename_i T;split at e
  ·rename_i c
   have hT:T∈["int", "bool", "str", "tuple", "list"]:=by simpa using c
   have hw:w=.ty T:=by unfold Rep at h2;exact h2.1
   subst hw
   have go:∀ kd,TyOf K H v (.type kd)->kd∈["NoneType", "bool", "int", "str", "tuple", "list"]->some (Dv.bl (_root_.Q.isSub kd T))=some d->ao K [v,.ty T] H Q:=fun kd ty hk he=>by
    cases he;exact ⟨v,T,.type kd,_,rfl,ty,_root_.Q.kit_ok K hk hT,k _ _ (AY.bl _)⟩
   cases x with
   | non=>rw [rep_non h1] at go ⊢;exact go "NoneType" .non (by simp) e
   | bl b=>rw [rep_bl h1] at go ⊢;exact go "bool" (.bl _) (by simp) e
   | int b=>rw [rep_int h1] at go ⊢;exact go "int" (.int _) (by simp) e
   | str b=>rw [rep_str h1] at go ⊢;exact go "str" (.str _) (by simp) e
   | tup b=>obtain ⟨p,us,rfl,_,_,ha⟩:=Em l1 h1;exact go "tuple" (.tup ha) (by simp) e
   | lst b=>obtain ⟨p,us,rfl,_,_,ha⟩:=EM l1 h1;exact go "list" (.lst ha) (by simp) e
   | _=>cases e
  ·cases e
 ·cases e
noncomputable def eR (x y:Dv):Option Bool:=match x,y with
 | .int i,.int j=>some (decide (i<=j))
 | .str a,.str b=>some (!decide (b < a))
 | _,_=>none
theorem gM:AK K (fun ds=>(two eR ds).map .bl) 0 (Jm Q.rLeA):=Gc fun g H x y v w o1 o2 P R b Q zd _ h1 _ h2 e k=>by
 unfold eR at e;split at e
 ·cases e;rw [rep_int h1,rep_int h2];exact .inl ⟨_,_,rfl,rfl,k⟩
 ·cases e;rw [rep_str h1,rep_str h2];refine .inr ⟨_,_,rfl,rfl,?_⟩;rw [Ga,Ga];exact k
 ·cases e
end
end R
namespace L2
open PySem PySem.Spec PyProof.Rows
section
end
end L2
namespace R
open PySem L2
noncomputable def HN:Dv->Option (List Dv)
 | .tup ds=>some ds
 | .lst ds=>some ds
 | .scr ns=>some (ns.map .int)
 | _=>none
section
variable {K:W.Frag} {g:G} {H:Hp}
abbrev eC (K:W.Frag) (g:G) (H:Hp) (a:Addr) (b:Bool) (ds:List Dv):Prop:=∀ g2 H2,IH g H g2 H2->∃ vs,DO K H2 a vs b/\Reps K g2 H2 0 ds vs nop
theorem Ct {d:Dv} {ds:List Dv} {v:V} (h:Rep K g H 0 d v nop) (e:HN d=some ds):∃ a b,v=.ref a/\eC K g H a b ds:=by
 have z1:(0:Nat)<=1:=by decide
 cases d with
 | tup es =>
  cases e;obtain ⟨a,vs,rfl,_⟩:=Em z1 h;refine ⟨a,true,rfl,fun g2 H2 st=>?_⟩;obtain ⟨a',us,q,k1,k2,_⟩:=Em z1 (st.rep h);cases q;exact ⟨us,k1,k2⟩
 | lst es =>
  cases e;obtain ⟨a,vs,rfl,_⟩:=EM z1 h;refine ⟨a,false,rfl,fun g2 H2 st=>?_⟩;obtain ⟨a',us,q,k1,k2,_⟩:=EM z1 (st.rep h);cases q;exact ⟨us,k1,k2⟩
 | scr ns =>
  cases e;obtain ⟨a,rfl,_⟩:=Mz h;refine ⟨a,false,rfl,fun g2 H2 st=>?_⟩;obtain ⟨a',q,k1⟩:=Mz (st.rep h);cases q;exact ⟨_,k1,CN ns⟩
 | _=>cases e
theorem Ds:IH g H g H:=by
 first | exact ⟨nop,nop,Step.refl,fun _ z=>z.elim⟩ | exact ⟨nop,nop,Step.refl,FpOk.nop⟩ | exact IH.refl
def zipD2:List Dv->List Dv->List Dv
 | x1::xs1,x2::xs2=>.tup [x1,x2]::zipD2 xs1 xs2
 | _,_=>[]
theorem Ig:∀ (xs1 xs2:List Dv) (i:Nat) (e:Dv),(zipD2 xs1 xs2)[i]?=some e->∃ x1 x2,xs1[i]?=some x1/\xs2[i]?=some x2/\e=.tup [x1,x2]
 | x1::xs1,x2::xs2,0,e,h=>by simp [zipD2] at h;exact ⟨x1,x2,rfl,rfl,h.symm⟩
 | x1::xs1,x2::xs2,i+1,e,h=>by
  obtain ⟨y1,y2,h1,h2,q⟩:=Ig xs1 xs2 i e (by simpa [zipD2] using h);exact ⟨y1,y2,by simpa using h1,by simpa using h2,q⟩
 | [],_,i,e,h=>by simp [zipD2] at h
 | x1::xs1,[],i,e,h=>by simp [zipD2] at h
theorem Ih:∀ (xs1 xs2:List Dv) (i:Nat),(zipD2 xs1 xs2).length<=i->xs1.length<=i\/xs2.length<=i
 | x1::xs1,x2::xs2,0,h=>by simp [zipD2] at h
 | x1::xs1,x2::xs2,i+1,h=>by
  have:=Ih xs1 xs2 i (by simpa [zipD2] using h);simp only [mS];omega
 | [],_,i,h=>by simp
 | x1::xs1,[],i,h=>by simp
def JC (ds:List Dv):Option (List Dv):=two (fun x y=>(HN x).bind fun xs=>(HN y).bind fun ys=>some (zipD2 xs ys)) ds
def ff (K:W.Frag):List V->Hp->(It->Hp->Prop)->Prop:=fun vs H1 R=>∃ a1 a2 b1 b2,vs=[.ref a1,.ref a2]/\(∃ xs,DO K H1 a1 xs b1)/\(∃ xs,DO K H1 a2 xs b2)/\R (Vx K a1 a2 b1 b2) H1
theorem WE {a1 a2:Addr} {b1 b2:Bool} {ds1 ds2:List Dv} (h1:eC K g H a1 b1 ds1) (h2:eC K g H a2 b2 ds2):Yl K (Vx K a1 a2 b1 b2) (zipD2 ds1 ds2) g H:=by
 intro g2 H2 st;obtain ⟨vs1,sq1,r1⟩:=h1 g2 H2 st;obtain ⟨vs2,sq2,r2⟩:=h2 g2 H2 st;refine ⟨fun i d e=>?_,fun i hi=>⟨vs1,vs2,sq1,sq2,by have:=Ih _ _ _ hi;rw [<- r1.len,<- r2.len];exact this⟩⟩;obtain ⟨x1,x2,e1,e2,rfl⟩:=Ig _ _ i d e;obtain ⟨u1,_,eu1,ru1,_⟩:=r1.get e1;obtain ⟨u2,_,eu2,ru2,_⟩:=r2.get e2;refine ⟨⟨vs1,vs2,u1,u2,sq1,eu1,sq2,eu2⟩,fun x H3 y=>?_⟩;obtain ⟨p,w1,w2,hp,rfl,rfl,y1,y2⟩:=y;have:=y1 vs1 sq1;rw [eu1] at this;cases this;have:=y2 vs2 sq2;rw [eu2] at this;cases this;exact AY.tup (by decide) hp (BJ (BV ru1.z) (BV ru2.z))
theorem Sj:ON K JC (ff K):=fun g H ds vs its Q zd ra e q=>by
 obtain ⟨x,y,rfl,e⟩:=El e;obtain ⟨xs,e1,e⟩:=bind_some' e;obtain ⟨ys,e2,e⟩:=bind_some' e;cases e;obtain ⟨v,us,rfl,h1,h2⟩:=Aw ra;obtain ⟨w,us,rfl,h4,h3⟩:=Aw h2;cases BD h3;obtain ⟨a,b,rfl,q1⟩:=Ct h1 e1;obtain ⟨a2,b2,rfl,q2⟩:=Ct h4 e2;obtain ⟨w1,s1,_⟩:=q1 g H Ds;obtain ⟨w2,s2,_⟩:=q2 g H Ds;exact ⟨a,a2,b,b2,rfl,⟨w1,s1⟩,⟨w2,s2⟩,q _ H (fun _ _ z=>z) (WE q1 q2)⟩
def enumD (k:Nat):List Dv->List Dv
 | []=>[]
 | d::ds=>.tup [.int (k:Nat),d]::enumD (k+1) ds
theorem JU:∀ (ds:List Dv) (k i:Nat) (e:Dv),(enumD k ds)[i]?=some e->∃ d,ds[i]?=some d/\e=.tup [.int ((k+i:Nat):Int),d]
 | [],k,i,e,h=>by simp [enumD] at h
 | d::ds,k,0,e,h=>by simp [enumD] at h;exact ⟨d,rfl,h.symm⟩
 | d::ds,k,i+1,e,h=>by
  obtain ⟨d',h1,h2⟩:=JU ds (k+1) i e (by simpa [enumD] using h);exact ⟨d',by simpa using h1,by rw [h2];congr 3;omega⟩
theorem enumD_len:∀ (ds:List Dv) (k:Nat),(enumD k ds).length=ds.length
 | [],k=>rfl
 | d::ds,k=>by simp [enumD,enumD_len ds]
def Oj (ds:List Dv):Option (List Dv):=one (fun x=>(HN x).bind fun xs=>some (enumD 0 xs)) ds
def gE (K:W.Frag):List V->Hp->(It->Hp->Prop)->Prop:=fun vs H1 R=>∃ a b xs,vs=[.ref a]/\DO K H1 a xs b/\R (Yn K a b xs.length) H1
theorem WH {a:Addr} {b:Bool} {ds:List Dv} (h:eC K g H a b ds):Yl K (Yn K a b ds.length) (enumD 0 ds) g H:=by
 intro g2 H2 st;obtain ⟨vs,sq,hr⟩:=h g2 H2 st;refine ⟨fun i d e=>?_,fun i hi=>⟨vs,sq,hr.len.symm,by rw [enumD_len] at hi;exact hi⟩⟩;obtain ⟨d',e',rfl⟩:=JU ds 0 i d e;obtain ⟨v,_,ev,rv,_⟩:=hr.get e';refine ⟨⟨vs,v,sq,hr.len.symm,ev⟩,fun x H3 y=>?_⟩;obtain ⟨p,w,hp,rfl,rfl,y⟩:=y;have:=y vs sq;rw [ev] at this;cases this;have ri:Rep K g2 H2 0 (.int ((0+i:Nat):Int)) (.int (i:Nat)) nop:=by rw [oG];exact BW
 exact AY.tup (by decide) hp (BJ (BV ri) (BV rv.z))
theorem Sm:ON K Oj (gE K):=fun g H ds vs its Q zd ra e q=>by
 obtain ⟨x,rfl,e⟩:=Lr e;obtain ⟨xs,e1,e⟩:=bind_some' e;cases e;obtain ⟨v,us,rfl,h1,h2⟩:=Aw ra;cases BD h2;obtain ⟨a,b,rfl,q1⟩:=Ct h1 e1;obtain ⟨w1,s1,r1⟩:=q1 g H Ds;exact ⟨a,b,w1,rfl,s1,by rw [<- r1.len];exact q _ H (fun _ _ z=>z) (WH q1)⟩
def lY (ds:List Dv):Option (List Dv):=one (fun x=>match x with | .lst xs=>some xs.reverse | _=>none) ds
end
section
variable {K:W.Frag} {g:G} {H:Hp}
def zipD3:List Dv->List Dv->List Dv->List Dv
 | x1::xs1,x2::xs2,x3::xs3=>.tup [x1,x2,x3]::zipD3 xs1 xs2 xs3
 | _,_,_=>[]
theorem Ic:∀ (xs1 xs2 xs3:List Dv) (i:Nat) (e:Dv),(zipD3 xs1 xs2 xs3)[i]?=some e->∃ x1 x2 x3,xs1[i]?=some x1/\xs2[i]?=some x2/\xs3[i]?=some x3/\e=.tup [x1,x2,x3]
 | x1::xs1,x2::xs2,x3::xs3,0,e,h=>by simp [zipD3] at h;exact ⟨x1,x2,x3,rfl,rfl,rfl,h.symm⟩
 | x1::xs1,x2::xs2,x3::xs3,i+1,e,h=>by
  obtain ⟨y1,y2,y3,h1,h2,h3,q⟩:=Ic xs1 xs2 xs3 i e (by simpa [zipD3] using h);exact ⟨y1,y2,y3,by simpa using h1,by simpa using h2,by simpa using h3,q⟩
 | [],_,_,i,e,h=>by simp [zipD3] at h
 | x1::xs1,[],_,i,e,h=>by simp [zipD3] at h
 | x1::xs1,x2::xs2,[],i,e,h=>by simp [zipD3] at h
theorem Ie:∀ (xs1 xs2 xs3:List Dv) (i:Nat),(zipD3 xs1 xs2 xs3).length<=i->xs1.length<=i\/xs2.length<=i\/xs3.length<=i
 | x1::xs1,x2::xs2,x3::xs3,0,h=>by simp [zipD3] at h
 | x1::xs1,x2::xs2,x3::xs3,i+1,h=>by
  have:=Ie xs1 xs2 xs3 i (by simpa [zipD3] using h);simp only [mS];omega
 | [],_,_,i,h=>by simp
 | x1::xs1,[],_,i,h=>by simp
 | x1::xs1,x2::xs2,[],i,h=>by simp
noncomputable def Yr {α:Type} (f:Dv->Dv->Dv->Option α) (ds:List Dv):Option α:=match ds with | [a,b,c]=>f a b c | _=>none
def LS (ds:List Dv):Option (List Dv):=Yr (fun x y z=>(HN x).bind fun xs=>(HN y).bind fun ys=>(HN z).bind fun zs=>some (zipD3 xs ys zs)) ds
def fc (K:W.Frag):List V->Hp->(It->Hp->Prop)->Prop:=fun vs H1 R=>∃ a1 a2 a3 b1 b2 b3,vs=[.ref a1,.ref a2,.ref a3]/\(∃ xs,DO K H1 a1 xs b1)/\(∃ xs,DO K H1 a2 xs b2)/\(∃ xs,DO K H1 a3 xs b3)/\R (Vw K a1 a2 a3 b1 b2 b3) H1
theorem WD {a1 a2 a3:Addr} {b1 b2 b3:Bool} {ds1 ds2 ds3:List Dv} (h1:eC K g H a1 b1 ds1) (h2:eC K g H a2 b2 ds2) (h3:eC K g H a3 b3 ds3):Yl K (Vw K a1 a2 a3 b1 b2 b3) (zipD3 ds1 ds2 ds3) g H:=by
 intro g2 H2 st;obtain ⟨vs1,sq1,r1⟩:=h1 g2 H2 st;obtain ⟨vs2,sq2,r2⟩:=h2 g2 H2 st;obtain ⟨vs3,sq3,r3⟩:=h3 g2 H2 st;refine ⟨fun i d e=>?_,fun i hi=>⟨vs1,vs2,vs3,sq1,sq2,sq3,by have:=Ie _ _ _ _ hi;rw [<- r1.len,<- r2.len,<- r3.len];exact this⟩⟩;obtain ⟨x1,x2,x3,e1,e2,e3,rfl⟩:=Ic _ _ _ i d e;obtain ⟨u1,_,eu1,ru1,_⟩:=r1.get e1;obtain ⟨u2,_,eu2,ru2,_⟩:=r2.get e2;obtain ⟨u3,_,eu3,ru3,_⟩:=r3.get e3;refine ⟨⟨vs1,vs2,vs3,u1,u2,u3,sq1,eu1,sq2,eu2,sq3,eu3⟩,fun x H3 y=>?_⟩;obtain ⟨p,w1,w2,w3,hp,rfl,rfl,y1,y2,y3⟩:=y;have:=y1 vs1 sq1;rw [eu1] at this;cases this;have:=y2 vs2 sq2;rw [eu2] at this;cases this;have:=y3 vs3 sq3;rw [eu3] at this;cases this;exact AY.tup (by decide) hp (BJ (BV ru1.z) (BJ (BV ru2.z) (BV ru3.z)))
theorem Si:ON K LS (fc K):=fun g H ds vs its Q zd ra e q=>by
 unfold LS Yr at e;split at e
 ·rename_i x y z;obtain ⟨xs,e1,e⟩:=bind_some' e;obtain ⟨ys,e2,e⟩:=bind_some' e;obtain ⟨zs,e3,e⟩:=bind_some' e;cases e;obtain ⟨v,us,rfl,h1,h2⟩:=Aw ra;obtain ⟨w,us,rfl,h4,h3⟩:=Aw h2;obtain ⟨w',us,rfl,h5,h6⟩:=Aw h3;cases BD h6;obtain ⟨a,b,rfl,q1⟩:=Ct h1 e1;obtain ⟨a2,b2,rfl,q2⟩:=Ct h4 e2;obtain ⟨a3,b3,rfl,q3⟩:=Ct h5 e3;obtain ⟨w1,s1,_⟩:=q1 g H Ds;obtain ⟨w2,s2,_⟩:=q2 g H Ds;obtain ⟨w3,s3,_⟩:=q3 g H Ds;exact ⟨a,a2,a3,b,b2,b3,rfl,⟨w1,s1⟩,⟨w2,s2⟩,⟨w3,s3⟩,q _ H (fun _ _ z=>z) (WD q1 q2 q3)⟩
 ·cases e
def CU (ds:List Dv):Option Dv:=match ds with
 | [.int j]=>if small j=true/\j<=1000000 then some (.lst ((List.range j.toNat).map fun k=>.int (k:Nat))) else none
 | [.int i,.int j]=>if (small i && small j)=true/\j - i<=1000000 then some (.lst ((List.range (j - i).toNat).map fun k=>.int (i+(k:Nat)))) else none
 | _=>none
theorem NI:AK K CU 1 lD:=fun g H ds vs d Q zd ra e k=>by
 have fin:∀ (i j:Int),(∀ v H',AY K g H 1 (.lst ((List.range (j - i).toNat).map fun k=>.int (i+(k:Nat)))) v H'->Q v H')->∀ l,H l=none->Q (.ref l) (upd H l (.lst ((List.range (j - i).toNat).map fun k=>.int (i+(k:Nat))))):=fun i j kk l hl=>by
  have:=CN (K:=K) (g:=g) (H:=H) ((List.range (j - i).toNat).map fun k:Nat=>i+(k:Int));simp only [nS] at this;exact kk _ _ (AY.lst zd this hl)
 unfold CU at e;split at e
 ·rename_i j;split at e
  ·rename_i c;cases e;obtain ⟨v,o,P,rfl,_,h1⟩:=ra.one;rw [rep_int h1];have b:=BN c.1;refine ⟨0,j,.inl ⟨rfl,rfl⟩,by omega,by omega,fin 0 j fun v H' n=>k v H' ?_⟩;simpa using n
  ·cases e
 ·rename_i i j;split at e
  ·rename_i c;cases e;obtain ⟨v,o,P,w,u,R,rfl,_,h1,_,h2⟩:=ra.two;rw [rep_int h1,rep_int h2];rw [ly] at c;have b:=BN c.1.1;have b':=BN c.1.2;exact ⟨i,j,.inr rfl,by omega,by omega,fin i j k⟩
  ·cases e
 ·cases e
def EK (ds:List Dv):Option Dv:=match ds with
 | [.int j]=>if small j=true/\j<=1000000 then some (.tup ((List.range j.toNat).map fun k=>.int (k:Nat))) else none
 | [.int i,.int j]=>if (small i && small j)=true/\j - i<=1000000 then some (.tup ((List.range (j - i).toNat).map fun k=>.int (i+(k:Nat)))) else none
 | _=>none
theorem QQ:AK K EK 1 lB:=fun g H ds vs d Q zd ra e k=>by
 have fin:∀ (i j:Int),(∀ v H',AY K g H 1 (.tup ((List.range (j - i).toNat).map fun k=>.int (i+(k:Nat)))) v H'->Q v H')->∀ l,H l=none->Q (.ref l) (upd H l (.tup ((List.range (j - i).toNat).map fun k=>.int (i+(k:Nat))))):=fun i j kk l hl=>by
  have:=CN (K:=K) (g:=g) (H:=H) ((List.range (j - i).toNat).map fun k:Nat=>i+(k:Int));simp only [nS] at this;exact kk _ _ (AY.tup (mF 1) hl this)
 unfold EK at e;split at e
 ·rename_i j;split at e
  ·rename_i c;cases e;obtain ⟨v,o,P,rfl,_,h1⟩:=ra.one;rw [rep_int h1];have b:=BN c.1;refine ⟨0,j,.inl ⟨rfl,rfl⟩,by omega,by omega,fin 0 j fun v H' n=>k v H' ?_⟩;simpa using n
  ·cases e
 ·rename_i i j;split at e
  ·rename_i c;cases e;obtain ⟨v,o,P,w,u,R,rfl,_,h1,_,h2⟩:=ra.two;rw [rep_int h1,rep_int h2];rw [ly] at c;have b:=BN c.1.1;have b':=BN c.1.2;exact ⟨i,j,.inr rfl,by omega,by omega,fin i j k⟩
  ·cases e
 ·cases e
def Ef (x:Dv) (ds:List Dv):Option (Dv×Dv):=match x,ds with
 | .lst xs,[.int i]=>if small i=true then (seqIndex? i xs.length).bind fun k=>(xs[k]?).map fun d=>(d,.lst (xs.eraseIdx k)) else none
 | _,_=>none
theorem UF:Rm K Ef TL:=fun g H x v P ds us r y Q zd rx rd e k=>by
 unfold Ef at e;split at e
 ·rename_i xs i;split at e
  ·rename_i c;obtain ⟨n,en,e⟩:=bind_some' e;simp only [nF,Prod.mk.injEq] at e;obtain ⟨d,ed,rfl,rfl⟩:=e;obtain ⟨a,vs,rfl,ha,hz,hx,hP,go⟩:=FC rx;obtain ⟨u,us',rfl,hu,h2⟩:=Aw rd;cases BD h2;obtain ⟨s,hd,mk⟩:=go (vs.eraseIdx n);have h0:=CO.mp hx;obtain ⟨w,P1,e2,r2,_⟩:=hx.get ed;have b:=BN c;rw [rep_int hu];refine ⟨a,vs,i,n,w,rfl,rfl,ha,by omega,by omega,by rw [<- h0.1];exact en,e2,k _ _ P s (mk _ ?_) (hd r2.z)⟩;refine CO.mpr ⟨by simp [List.length_eraseIdx,h0.1],fun j d v e3 e4=>?_⟩;rw [List.getElem?_eraseIdx] at e3 e4;split at e3
   ·rename_i z;rw [if_pos z] at e4;exact h0.2 j d v e3 e4
   ·rename_i z;rw [if_neg z] at e4;exact h0.2 (j+1) d v e3 e4
  ·cases e
 ·cases e
end
noncomputable def Mh (x y:Dv):Option Dv:=match x,y with
 | .lst xs,.int i=>if i = -1 then some (.lst xs.reverse) else none
 | .tup xs,.int i=>if i = -1 then some (.tup xs.reverse) else none
 | _,_=>none
theorem Wq {K:W.Frag}:AK K (two Mh) 1 (Jm (lC K)):=GB fun g H x y v w o1 o2 P R d Q zd l1 h1 l2 h2 e k=>by
 unfold Mh at e;split at e
 ·split at e
  ·rename_i hi;subst hi;cases e;obtain ⟨a,us,rfl,ha,hx,_⟩:=EM l1 h1;exact ⟨a,us,false,rfl,rep_int h2,ha,fun l hl=>k _ _ (AY.lst zd (JD hx) hl)⟩
  ·cases e
 ·split at e
  ·rename_i hi;subst hi;cases e;obtain ⟨a,us,rfl,ha,hx,_⟩:=Em l1 h1;exact ⟨a,us,true,rfl,rep_int h2,ha,fun l hl=>k _ _ (AY.tup (mF 1) hl (JD hx))⟩
  ·cases e
 ·cases e
noncomputable def IE:Dv->Option Bool
 | .non=>some false
 | .bl b=>some b
 | .int i=>some (i != 0)
 | .str l=>if l.length<=1000000 then some (!l.isEmpty) else none
 | .lst xs=>some (!xs.isEmpty)
 | .tup xs=>some (!xs.isEmpty)
 | .scr xs=>some (!xs.isEmpty)
 | .dct ks _=>some (!ks.isEmpty)
 | _=>none
theorem Ol {K:W.Frag} {g:G} {H:Hp} {o:Nat} {xs:List Dv} {vs:List V} {P:Fp} (h:Reps K g H o xs vs P):(!xs.isEmpty)=!vs.isEmpty:=by
 have:=h.len;cases xs<;>cases vs<;>simp at this<;>rfl
theorem WK (K:W.Frag) (g:G) (H:Hp) (o:Nat) (d:Dv) (v:V) (P:Fp) (b:Bool) (h:Rep K g H o d v P) (e:IE d=some b):Vv K v H b:=by
 cases d with
 | non=>cases e;rw [rep_non h];exact rfl
 | bl b=>cases e;rw [rep_bl h];exact rfl
 | int i=>cases e;rw [rep_int h];exact rfl
 | str l =>
  simp only [IE.eq_def] at e;split at e
  ·rename_i hl;cases e;rw [rep_str h];refine ⟨by rw [CJ];exact mQ hl (by decide),?_⟩;rw [CJ];cases l<;>simp;omega
  ·cases e
 | lst xs =>
  cases e;unfold Rep at h;obtain ⟨a,vs,P',rfl,h1,h2,_⟩:=h;exact .inl ⟨vs,.inl (.inl h1.1),Ol h2⟩
 | tup xs =>
  cases e;unfold Rep at h;obtain ⟨a,vs,rfl,h1,h2⟩:=h;exact .inr (.inl ⟨vs,.inl (.inl h1),Ol h2⟩)
 | scr ns =>
  cases e;obtain ⟨a,rfl,h1⟩:=Mz h;exact .inl ⟨_,h1,by cases ns<;>rfl⟩
 | dct ks ds =>
  cases e;obtain ⟨a,us,rfl,ha,hl,hx⟩:=Xy h;refine .inr (.inr ⟨_,ha,?_⟩);have:=hx.len;cases ks<;>cases ds<;>cases us<;>simp at hl this<;>rfl
 | _=>cases e
theorem kM {es:List Expr} (h:es.length=1):∃ a,es=[a]:=ot.mp h
theorem kL {es:List Expr} (h:es.length=2):∃ a b,es=[a,b]:=by
 cases es with
 | nil=>cases h
 | cons a es=>obtain ⟨b,rfl⟩:=kM (Nat.succ.inj h);exact ⟨a,b,rfl⟩
theorem lh {es:List Expr} (h:es.length=3):∃ a b c,es=[a,b,c]:=by
 cases es with
 | nil=>cases h
 | cons a es=>obtain ⟨b,c,rfl⟩:=kL (Nat.succ.inj h);exact ⟨a,b,c,rfl⟩
theorem SL {tg:Expr} (h:KO tg=true):∃ elts x1 tpos,tg=.Tuple elts x1 tpos:=by
 cases tg<;>first | exact ⟨_,_,_,rfl⟩ | cases h
theorem Xl {X:Cx} (h:Gx X):X.A.units+1 < cLine:=by obtain ⟨j,r⟩:=h.2;have:=r.un;omega
end R
namespace My
open PySem L2 R
theorem lg {K:W.Frag} {o:Nat} {r:Rl}:AK K (one fun _=>none) o r:=fun _ _ ds _ _ _ _ _ e _=>by unfold one at e;split at e<;>cases e
def tb:Tb where
 bins:=[⟨.Add,Ai,fun X h=>⟨_,XS X.K,bI⟩⟩,
  ⟨.Sub,Ku,fun X h=>⟨_,bX,Ww⟩⟩,
  ⟨.Mult,EO,fun X h=>⟨_,ba.or (bY.or L4.op_repT),bD⟩⟩,
  ⟨.Mod,Cq,fun X h=>⟨_,bc,KB fun _ _ h=>of_decide_eq_true h⟩⟩,
  ⟨.FloorDiv,Kw,fun X h=>⟨_,XN,KB fun _ _ h=>by rw [ly,decide_eq_true_eq,decide_eq_true_eq] at h;exact h⟩⟩,
  ⟨.Pow,eA,fun X h=>⟨_,bZ,KB fun _ _ h=>by rw [ly,ly,decide_eq_true_eq,decide_eq_true_eq,decide_eq_true_eq] at h;exact ⟨h.1.1,h.1.2,h.2⟩⟩⟩]
 cmps:=[⟨.Eq,IX,fun X h=>⟨_,L3.op_eqA h.2.choose_spec,Tc⟩⟩,
  ⟨.NotEq,WB,fun X h=>⟨_,L3.op_neA h.2.choose_spec,Tc⟩⟩,
  ⟨.Lt,dq,fun X h=>⟨_,gW,KC⟩⟩,
  ⟨.LtE,eR,fun X h=>⟨_,Q.op_leAQ,gM⟩⟩,
  ⟨.Gt,Yh,fun X h=>⟨_,gY,KC⟩⟩,
  ⟨.GtE,kY,fun X h=>⟨_,gZ,KC⟩⟩,
  ⟨.In,jM,fun X h=>⟨_,(Q.op_inQ h.2.choose_spec).or (bh (Xl h)),Ta⟩⟩,
  ⟨.NotIn,IC,fun X h=>⟨_,(Q.op_notInQ h.2.choose_spec).or (XO (Xl h)),Ta⟩⟩]
 calls:=[⟨"len", 1,1,one Ad,fun X h=>⟨_,bE,.inl ⟨_,(RO X.K).or Nz,PySem.boot_len⟩⟩⟩,
  ⟨"tuple", 1,1,one AI,fun X h=>⟨_,TY,.inr ⟨_,MY X.K,PyProof.Rows.Boot.«tuple»⟩⟩⟩,
  ⟨"list", 1,1,one Mi,fun X h=>⟨_,Wt,.inr ⟨_,Ny X.K,PyProof.Rows.Boot.«list»⟩⟩⟩,
  ⟨"int", 1,1,one FP,fun X h=>⟨_,Wv,.inr ⟨_,RU,PyProof.Rows.Boot.«int»⟩⟩⟩,
  ⟨"all", 1,1,one Kx,fun X h=>⟨_,bH,.inl ⟨_,RV X.K rfl h.1,PyProof.Rows.Boot.«all»⟩⟩⟩,
  ⟨"max", 2,1,two DK,fun X h=>⟨_,Ws,.inl ⟨_,RN h.1,PyProof.Rows.Boot.«max»⟩⟩⟩,
  ⟨"min", 2,1,two Jk,fun X h=>⟨_,Wr,.inl ⟨_,RM h.1,PyProof.Rows.Boot.«min»⟩⟩⟩,
  ⟨"isinstance", 2,1,two Rj,fun X h=>⟨_,bF,.inl ⟨_,RS X.K,PyProof.Rows.Boot.«isinstance»⟩⟩⟩]
 meths:=[⟨"join", 1, "str", 1,two IG,.inl (.inr (.inl rfl)),fun X h=>⟨_,_,PySem.F.plainAttrs_str,PySem.F.slot_str_join,PySem.F.type_str_join,UI X.K,Wu⟩⟩,
  ⟨"upper", 0, "str", 1,one GL,.inl (.inr (.inl rfl)),fun X h=>⟨_,_,PySem.F.plainAttrs_str,PySem.F.slot_str_upper,PySem.F.type_str_upper,UG,TX⟩⟩,
  ⟨"index", 1, "list", 1,two Dq,.inl (.inl rfl),fun X h=>⟨_,_,PySem.F.plainAttrs_list,PySem.F.slot_list_index,PySem.F.type_list_index,Q.mt_indexD h.2.choose_spec,TZ⟩⟩,
  ⟨"index", 1, "tuple", 1,two Bq,.inr ⟨rfl,rfl⟩,fun X h=>⟨_,_,PySem.F.plainAttrs_tuple,PySem.F.slot_tuple_index,PySem.F.type_tuple_index,Q.mt_indexTD h.2.choose_spec,QR⟩⟩]
 muts:=[⟨"append", 1, "list", AV,.inl rfl,fun X h=>⟨_,_,PySem.F.plainAttrs_list,PySem.F.slot_list_append,PySem.F.type_list_append,Qg,Qe⟩⟩,
  ⟨"pop", 0, "list", Ri,.inl rfl,fun X h=>⟨_,_,PySem.F.plainAttrs_list,PySem.F.slot_list_pop,PySem.F.type_list_pop,bx,bu⟩⟩,
  ⟨"pop", 1, "list", Ef,.inl rfl,fun X h=>⟨_,_,PySem.F.plainAttrs_list,PySem.F.slot_list_pop,PySem.F.type_list_pop,UH,UF⟩⟩,
  ⟨"extend", 1, "list", DI,.inl rfl,fun X h=>⟨_,_,PySem.F.plainAttrs_list,PySem.F.slot_list_extend,PySem.F.type_list_extend,Qf,Qd⟩⟩]
 srcs:=[⟨"range", 1,false,BS,fun X h=>⟨_,Sl,fun tg es p pos ta _ hn hs hg hm ha=>by obtain ⟨a,rfl⟩:=kM hn;exact QV hg hm ha (AG (by simpa using hs))⟩⟩,
  ⟨"range", 2,false,QL,fun X h=>⟨_,Sk,fun tg es p pos ta _ hn hs hg hm ha=>by
   obtain ⟨a,b,rfl⟩:=kL hn;have z:Aq a=true/\Aq b=true:=by simpa using hs
   exact QU hg hm ha ((AG z.1).trans (by rw [AG z.2];rfl)) (AG z.2)⟩⟩,
  ⟨"zip", 2,true,JC,fun X h=>⟨_,Sj,fun tg es p pos ta ht hn hs hg hm ha=>by
   obtain ⟨elts,x1,tpos,rfl⟩:=SL (ht rfl);obtain ⟨a,b,rfl⟩:=kL hn;have z:Aq a=true/\Aq b=true:=by simpa using hs
   exact XA X.K hg hm ha rfl (AG z.1) (BA (by simp [z.2]))⟩⟩,
  ⟨"zip", 3,true,LS,fun X h=>⟨_,Si,fun tg es p pos ta ht hn hs hg hm ha=>by
   obtain ⟨elts,x1,tpos,rfl⟩:=SL (ht rfl);obtain ⟨a,b,c,rfl⟩:=lh hn;have z:Aq a=true/\Aq b=true/\Aq c=true:=by simpa using hs
   exact Wz X.K hg hm ha rfl (AG z.1) (BA (by simp [z.2.1,z.2.2]))⟩⟩,
  ⟨"enumerate", 1,true,Oj,fun X h=>⟨_,Sm,fun tg es p pos ta ht hn hs hg hm ha=>by
   obtain ⟨elts,x1,tpos,rfl⟩:=SL (ht rfl);obtain ⟨a,rfl⟩:=kM hn;exact Ti X.K hg hm ha rfl (AG (by simpa using hs))⟩⟩]
 ix:=AA
 ixok:=fun X h=>⟨_,(jv X.K).or (gm (Xl h)),bG⟩
 sl:=Kv
 slok:=fun X h=>⟨_,jm X.K,gL⟩
 tru:=IE
 trok:=WK
 lr:=CU
 lrok:=fun X h=>NI
 tr:=EK
 trrok:=fun X h=>QQ
 rv:=Mh
 rvok:=fun X h=>Wq
 lv:=fun _=>none
 lvok:=fun X h=>lg
 st:=Ay
 stok:=fun X h=>⟨_,Wa.or (aW (Xl h)),aV⟩
noncomputable def top (i:Nat):Stmt:=PySem.Challenge.pw_shapefree_k64_whole_values_along_moves.main.body.getD i (.Pass ⟨0,0,0,0⟩)
def md:Md:=⟨tb,[],["len", "range", "tuple", "list", "zip", "isinstance", "enumerate", "all", "any", "int", "bool", "str", "sum", "max", "min", "reversed", "sorted", "dict", "repr", "set", "abs", "type", "ord", "chr"]⟩
noncomputable def jK:List (Str×Sig):=[]
noncomputable def HP (x3:Dv):Option Dv:=
(AA x3 (Dv.int 0)).bind fun d4 =>
some d4
noncomputable def NA (x9:Dv):Option Dv:=
(AA x9 (Dv.int 0)).bind fun d10 =>
some d10
noncomputable def HG (a0:Dv) (a2:Dv):Option (Dv):=
Option.or ((AA a0 (Dv.int 1)).bind fun d1 =>
(items d1).bind fun s2 =>
DN s2 ((AW HP s2).bind fun y5 =>
Dj "list" (Dv.lst y5) (
(Dq (Dv.lst y5) a2).bind fun d6 =>
some d6))) ((AA a0 (Dv.int 1)).bind fun d7 =>
(items d7).bind fun s8 =>
DN s8 ((AW NA s8).bind fun y11 =>
Dj "tuple" (Dv.lst y11) (
(Bq (Dv.lst y11) a2).bind fun d12 =>
some d12)))
noncomputable def Et (a0 a1 a2:Dv):Option (Dv):=
(AA a1 (Dv.int 2)).bind fun d0 =>
((HG a0 a2)).bind fun t13 =>
(AA d0 t13).bind fun d14 =>
some d14
theorem RH:FM md jK (top 1) [] 0=true:=by kernel_rfl
theorem Qy:IJ md jK (top 1) [] 0 (Gz Et):=ik (by kernel_rfl) fun _ _ _=>(by kernel_rfl)
def kK:List (Str×Sig):=("table_in", Ah (AD (top 1)) [] 0 false (Gz Et))::jK
noncomputable def Gb (x2:Dv) (t3:Dv):Option (Dv):=
(AA t3 x2).bind fun d4 =>
some d4
noncomputable def LU (a0 a1 a2 a3:Dv):Option (Dv):=
(Et a0 a1 a2).bind fun c0 =>
(items a3).bind fun s1 =>
(Az Gb s1 c0).bind fun t5 =>
some t5
theorem dH:FM md kK (top 2) [] 0=true:=by kernel_rfl
theorem dD:IJ md kK (top 2) [] 0 (Dl LU):=eQ (by kernel_rfl) fun _ _ _ _=>(by kernel_rfl)
def kH:List (Str×Sig):=("done", Ah (AD (top 2)) [] 0 false (Dl LU))::kK
noncomputable def EW (a0:Dv) (a2:Dv):Option (Dv):=
Option.or ((AA a0 (Dv.int 0)).bind fun d1 =>
Dj "list" d1 (
(Dq d1 a2).bind fun d2 =>
some d2)) ((AA a0 (Dv.int 0)).bind fun d3 =>
Dj "tuple" d3 (
(Bq d3 a2).bind fun d4 =>
some d4))
noncomputable def Ex (a0 a1 a2:Dv):Option (Dv):=
(AA a1 (Dv.int 1)).bind fun d0 =>
((EW a0 a2)).bind fun t5 =>
(AA d0 t5).bind fun d6 =>
some d6
theorem RI:FM md kH (top 3) [] 0=true:=by kernel_rfl
theorem Qz:IJ md kH (top 3) [] 0 (Gz Ex):=ik (by kernel_rfl) fun _ _ _=>(by kernel_rfl)
def kG:List (Str×Sig):=("fixed_in", Ah (AD (top 3)) [] 0 false (Gz Ex))::kH
noncomputable def CK (x1:Dv) (x4:Dv):Option Dv:=
(Ai x1 (Dv.tup [x4])).bind fun d5 =>
some d5
noncomputable def CL (a1:Dv) (x1:Dv) (t2:Dv):Option (Dv):=
Dj "list" t2 (
(BS [a1]).bind fun s3 =>
DN s3 ((AW (CK x1) s3).bind fun y6 =>
(DI t2 [(Dv.lst y6)]).bind fun r7 =>
some r7.2))
noncomputable def BZ (a0 a1:Dv):Option (Dv):=
(items a0).bind fun s0 =>
(Az (CL a1) s0 (Dv.lst [])).bind fun t8 =>
some t8
theorem IT:FM md kG (top 4) [] 1=true:=by kernel_rfl
theorem IS:IJ md kG (top 4) [] 1 (two BZ):=Zs (by kernel_rfl) fun _ _=>(by kernel_rfl)
def kF:List (Str×Sig):=("longer_by_one", Ah (AD (top 4)) [] 1 false (two BZ))::kG
noncomputable def Cg (a1:Dv) (a2:Dv) (a3:Dv):Option (Dv):=
(Ad a3).bind fun d1 =>
(kY a1 d1).bind fun b2 =>
eS (Dv.bl b2) fun b3 =>
if b3=true then
some (Dv.bl true)
else
(AA a3 a1).bind fun d4 =>
(IX d4 a2).bind fun b5 =>
some (Dv.bl b5)
noncomputable def BO (self:Dv->Dv->Dv->Dv->Option (Dv)) (a0:Dv) (a1:Dv) (a2:Dv) (a3:Dv) (x8:Dv):Option Dv:=
(Pu [5,6] x8).bind fun (t9:Dv×Dv) =>
(Ku a0 (Dv.int 1)).bind fun d10 =>
(AA a1 t9.1).bind fun d11 =>
(AA a2 t9.2).bind fun d12 =>
(self d10 d11 d12 a3).bind fun c13 =>
bif UC c13 then
some c13
else none
noncomputable def AL:Nat->Dv->Dv->Dv->Dv->Option (Dv)
 | 0,_,_,_,_=>none
 | n+1,a0,a1,a2,a3=>(
(IX a0 (Dv.int 0)).bind fun b0 =>
if b0=true then
((Cg a1 a2 a3)).bind fun t6 =>
some t6
else
(Oj [a3]).bind fun s7 =>
DN s7 ((AW (BO (AL n) a0 a1 a2 a3) s7).bind fun y14 =>
(Kx (Dv.lst y14)).bind fun d15 =>
some d15))
theorem Kf (n:Nat):FM md (("table_leads", Ah (AD (top 8)) [] 0 true (Dl (AL n)))::kF) (top 8) [] 0=true:=by kernel_rfl
theorem Kb (n:Nat):IJ md (("table_leads", Ah (AD (top 8)) [] 0 true (Dl (AL n)))::kF) (top 8) [] 0 (Dl (AL (n+1))):=eQ (by kernel_rfl) fun _ _ _ _=>(by kernel_rfl)
def jJ:List (Str×Sig):=("table_leads", Ah (AD (top 8)) [] 0 true (Dl (AL 200)))::kF
noncomputable def Ce (a3:Dv) (t5_1:Dv) (t5_2:Dv):Option (Bool):=
(Ad a3).bind fun d6 =>
(dq t5_1 d6).bind fun b7 =>
if b7=true then
(AA a3 t5_1).bind fun d8 =>
(WB d8 t5_2).bind fun b9 =>
some b9
else
some false
noncomputable def Cm (a3:Dv) (x3:Dv) (t4:Unit):Option (Lp Dv (Unit) (Unit)):=
(Pu [4,5] x3).bind fun (t5:Dv×Dv) =>
((Ce a3 t5.1 t5.2)).bind fun t10 =>
if t10=true then
some (.rt (Dv.bl false) ())
else
some (.go ())
noncomputable def Ck (a3:Dv) (x18:Dv) (t19:Unit):Option (Lp Dv (Unit) (Unit)):=
(Pu [6,4,5] x18).bind fun (t20:Dv×Dv×Dv) =>
(AA t20.1 (Dv.int 1)).bind fun d21 =>
(AL 200 d21 t20.2.1 t20.2.2 a3).bind fun c22 =>
bif UC c22 then
(IE c22).bind fun b23 =>
if (!b23)=true then
some (.rt (Dv.bl false) ())
else
some (.go ())
else none
noncomputable def BU (a0 a1 a2 a3:Dv):Option (Dv):=
(AA a1 (Dv.int 1)).bind fun d0 =>
(AA a2 (Dv.int 1)).bind fun d1 =>
(JC [d0,d1]).bind fun s2 =>
(Ec (Cm a3) s2 ()).bind fun l28=>l28.el (fun (t11:Unit) =>
(AA a0 (Dv.int 1)).bind fun d14 =>
(AA a1 (Dv.int 2)).bind fun d15 =>
(AA a2 (Dv.int 2)).bind fun d16 =>
(LS [d14,d15,d16]).bind fun s17 =>
(Ec (Ck a3) s17 ()).bind fun l27=>l27.el (fun (t24:Unit) =>
some (Dv.bl true)) fun (e25:Dv) (r26:Unit) =>
some e25) fun (e12:Dv) (r13:Unit) =>
some e12
theorem Kg:FM md jJ (top 7) [] 1=true:=by kernel_rfl
theorem Kc:IJ md jJ (top 7) [] 1 (Dl BU):=eQ (by kernel_rfl) fun _ _ _ _=>(by kernel_rfl)
def kD:List (Str×Sig):=("leads_alike", Ah (AD (top 7)) [] 1 true (Dl BU))::jJ
noncomputable def Dy (a2:Dv) (x4:Dv):Option Dv:=
(eR (Dv.int 0) x4).bind fun b5 =>
if b5=true then
(AA a2 (Dv.int 0)).bind fun d6 =>
(dq x4 d6).bind fun b7 =>
some (Dv.bl b7)
else
some (Dv.bl false)
noncomputable def FX (a1:Dv) (a2:Dv) (a3:Dv):Option (Bool):=
(Ad a3).bind fun d0 =>
(AA a1 (Dv.int 0)).bind fun d1 =>
(WB d0 d1).bind fun b2 =>
if b2=true then
some true
else
(items a3).bind fun s3 =>
DN s3 ((AW (Dy a2) s3).bind fun y8 =>
(Kx (Dv.lst y8)).bind fun d9 =>
(IE d9).bind fun b10 =>
some (!b10))
noncomputable def EA (a0 a1 a2 a3:Dv):Option (Dv):=
((FX a1 a2 a3)).bind fun t11 =>
if t11=true then
some (Dv.bl false)
else
(BU a0 a1 a2 a3).bind fun c12 =>
bif UC c12 then
some c12
else none
theorem VF:FM md kD (top 6) [] 1=true:=by kernel_rfl
theorem Ur:IJ md kD (top 6) [] 1 (Dl EA):=eQ (by kernel_rfl) fun _ _ _ _=>(by kernel_rfl)
def kB:List (Str×Sig):=("is_move", Ah (AD (top 6)) [] 1 true (Dl EA))::kD
noncomputable def HQ (a0:Dv) (a1:Dv) (a2:Dv) (x7:Dv):Option (Option Dv):=
(BU a0 a1 a2 x7).bind fun c8 =>
bif UC c8 then
(IE c8).bind fun b9 =>
if b9=true then
some (some x7)
else some none
else none
noncomputable def HS (a0:Dv) (a1:Dv) (a2:Dv) (x2:Dv) (t3:Dv):Option (Dv):=
(AA a2 (Dv.int 0)).bind fun d4 =>
(BZ t3 d4).bind fun c5 =>
(items c5).bind fun s6 =>
DN s6 ((Qh (HQ a0 a1 a2) s6).bind fun y10 =>
some (Dv.lst y10))
noncomputable def Fm (a0 a1 a2:Dv):Option (Dv):=
(AA a1 (Dv.int 0)).bind fun d0 =>
(BS [d0]).bind fun s1 =>
(Az (HS a0 a1 a2) s1 (Dv.lst [(Dv.tup [])])).bind fun t11 =>
some t11
theorem YB:FM md kB (top 9) [] 1=true:=by kernel_rfl
theorem Xs:IJ md kB (top 9) [] 1 (Gz Fm):=ik (by kernel_rfl) fun _ _ _=>(by kernel_rfl)
def kA:List (Str×Sig):=("moves", Ah (AD (top 9)) [] 1 false (Gz Fm))::kB
noncomputable def CB (a4:Dv) (x11:Dv):Option Dv:=
(AA a4 x11).bind fun d12 =>
some d12
noncomputable def BR (a0 a1 a2 a3 a4:Dv):Option (Dv):=
(AA a1 (Dv.int 0)).bind fun d0 =>
(IX d0 (Dv.str [105,110,112,117,116])).bind fun b1 =>
if b1=true then
(AA a1 (Dv.int 1)).bind fun d2 =>
(AA a3 d2).bind fun d3 =>
some d3
else
(AA a1 (Dv.int 0)).bind fun d4 =>
(IX d4 (Dv.str [102,105,120,101,100])).bind fun b5 =>
if b5=true then
(AA a1 (Dv.int 1)).bind fun d6 =>
(Ex a0 a2 d6).bind fun c7 =>
some c7
else
(AA a1 (Dv.int 1)).bind fun d8 =>
(AA a1 (Dv.int 2)).bind fun d9 =>
(items d9).bind fun s10 =>
DN s10 ((AW (CB a4) s10).bind fun y13 =>
(LU a0 a2 d8 (Dv.lst y13)).bind fun c14 =>
some c14)
theorem MU:FM md kA (top 12) [] 0=true:=by kernel_rfl
theorem MK:IJ md kA (top 12) [] 0 (UZ BR):=lM (by kernel_rfl) fun _ _ _ _ _=>(by kernel_rfl)
def jz:List (Str×Sig):=("node_value", Ah (AD (top 12)) [] 0 true (UZ BR))::kA
noncomputable def Er (a0:Dv) (a2:Dv) (a3:Dv) (x2:Dv) (t3:Dv):Option (Dv):=
Dj "list" t3 (
(BR a0 x2 a2 a3 t3).bind fun c4 =>
bif UC c4 then
(AV t3 [c4]).bind fun r5 =>
some r5.2
else none)
noncomputable def Dc (a0 a1 a2 a3:Dv):Option (Dv):=
(AA a1 (Dv.int 0)).bind fun d0 =>
(items d0).bind fun s1 =>
(Az (Er a0 a2 a3) s1 (Dv.lst [])).bind fun t6 =>
(AA a1 (Dv.int 1)).bind fun d7 =>
(AA t6 d7).bind fun d8 =>
some d8
theorem YA:FM md jz (top 11) [] 0=true:=by kernel_rfl
theorem Xr:IJ md jz (top 11) [] 0 (Dl Dc):=eQ (by kernel_rfl) fun _ _ _ _=>(by kernel_rfl)
def cx:List (Str×Sig):=("value", Ah (AD (top 11)) [] 0 false (Dl Dc))::jz
noncomputable def LR (a0:Dv) (a1:Dv) (d1:Dv):Option (Dv):=
(Ad a0).bind fun d5 =>
(Yh d5 (Dv.int 0)).bind fun b6 =>
if b6=true then
(Ad a0).bind fun d7 =>
(Cq a1 d7).bind fun d8 =>
(AA a0 d8).bind fun d9 =>
(Cq d9 (Dv.int 2147483629)).bind fun d10 =>
(EO d10 (Dv.int 31)).bind fun d11 =>
(EO (Dv.int 7907) a1).bind fun d12 =>
(Ai d11 d12).bind fun d13 =>
some d13
else
some d1
noncomputable def HL (a0:Dv) (a1:Dv) (d1:Dv):Option (Dv):=
(Ad a0).bind fun d2 =>
(dq a1 d2).bind fun b3 =>
if b3=true then
(AA a0 a1).bind fun d4 =>
some d4
else
((LR a0 a1 d1)).bind fun t14 =>
some t14
noncomputable def HK (t15:Dv):Option (Dv):=
(eA (Dv.int 10) (Dv.int 18)).bind fun d16 =>
(kY t15 d16).bind fun b17 =>
if b17=true then
some t15
else
some (Dv.int 0)
noncomputable def HV (a0 a1:Dv):Option (Dv):=
(EO (Dv.int 7907) a1).bind fun d0 =>
(Ai d0 (Dv.int 13579)).bind fun d1 =>
((HL a0 a1 d1)).bind fun t15 =>
((HK t15)).bind fun t18 =>
(Cq t15 (Dv.int 2147483629)).bind fun d19 =>
(EO d19 (Dv.int 48271)).bind fun d20 =>
(EO (Dv.int 40692) a1).bind fun d21 =>
(Ai d20 d21).bind fun d22 =>
(Cq d22 (Dv.int 2147483646)).bind fun d23 =>
(Ai d23 (Dv.int 1)).bind fun d24 =>
some (Dv.lst [t18,d24])
theorem YF:FM md cx (top 14) [] 1=true:=by kernel_rfl
theorem Xw:IJ md cx (top 14) [] 1 (two HV):=Zs (by kernel_rfl) fun _ _=>(by kernel_rfl)
def cw:List (Str×Sig):=("_law_feed", Ah (AD (top 14)) [] 1 false (two HV))::cx
noncomputable def AH (a0 a1:Dv):Option (Dv×Dv):=
(AA a0 (Dv.int 0)).bind fun d0 =>
(Yh d0 (Dv.int 0)).bind fun b1 =>
if b1=true then
(AA a0 (Dv.int 0)).bind fun d2 =>
(Cq d2 a1).bind fun d3 =>
(AA a0 (Dv.int 0)).bind fun d4 =>
(Kw d4 a1).bind fun d5 =>
(Ay a0 (Dv.int 0) d5).bind fun d6 =>
some (d3,d6)
else
(AA a0 (Dv.int 1)).bind fun d7 =>
(EO d7 (Dv.int 48271)).bind fun d8 =>
(Cq d8 (Dv.int 2147483647)).bind fun d9 =>
(EO d9 (Dv.int 40692)).bind fun d10 =>
(Ai d10 (Dv.int 30103)).bind fun d11 =>
(Cq d11 (Dv.int 2147483399)).bind fun d12 =>
(Ai d12 (Dv.int 1)).bind fun d13 =>
(Ay a0 (Dv.int 1) d13).bind fun d14 =>
(EO d9 (Dv.int 2147483647)).bind fun d15 =>
(AA d14 (Dv.int 1)).bind fun d16 =>
(Ai d15 d16).bind fun d17 =>
(Kw d17 (Dv.int 8191)).bind fun d18 =>
(Cq d18 a1).bind fun d19 =>
some (d19,d14)
theorem YC:FM md cw (top 15) [0] 1=true:=by kernel_rfl
theorem Xt:IJ md cw (top 15) [0] 1 (two AH):=Zs (by kernel_rfl) fun _ _=>(by kernel_rfl)
def cv:List (Str×Sig):=("_law_take", Ah (AD (top 15)) [0] 1 false (two AH))::cw
noncomputable def Dw (x2:Dv) (t3:Dv):Option (Dv×Dv):=
(AH t3 (Dv.int 26)).bind fun c4 =>
(AA (Dv.str [97,98,99,100,101,102,103,104,105,106,107,108,109,110,111,112,113,114,115,116,117,118,119,120,121,122]) c4.1).bind fun d5 =>
some (d5,c4.2)
noncomputable def Fe (d28:Dv):Option (Dv):=
(jM d28 (Dv.tup [(Dv.str [100,101,102]),(Dv.str [108,101,116]),(Dv.str [116,101,108,108]),(Dv.str [108,111,111,112]),(Dv.str [112,105,99,107]),(Dv.str [99,97,108,108])])).bind fun b29 =>
if b29=true then
(Ai d28 (Dv.str [113])).bind fun d30 =>
some d30
else
some d28
noncomputable def Fj (d7:Dv) (c8_1:Dv) (c11_1:Dv) (c12_1:Dv) (x14:Dv) (t15:Dv):Option (Dv):=
(EO (Dv.int 7) x14).bind fun d16 =>
(Ai c8_1 d16).bind fun d17 =>
(Cq d17 (Dv.int 26)).bind fun d18 =>
(AA (Dv.str [97,98,99,100,101,102,103,104,105,106,107,108,109,110,111,112,113,114,115,116,117,118,119,120,121,122]) d18).bind fun d19 =>
Zu c11_1 fun i20 =>
(Kv d7 none (some i20)).bind fun d21 =>
(Ai d21 d19).bind fun d22 =>
Zu c11_1 fun i23 =>
(Ai c12_1 x14).bind fun d24 =>
(Cq d24 (Dv.int 4)).bind fun d25 =>
Zu d25 fun i26 =>
(Kv d7 (some i23) (some i26)).bind fun d27 =>
(Ai d22 d27).bind fun d28 =>
((Fe d28)).bind fun t31 =>
Dj "list" t15 (
(AV t15 [t31]).bind fun r32 =>
some r32.2)
noncomputable def Iw (c12_2:Dv) (t33:Dv):Option (Bool×Dv):=
(IY (Dv.int 2)).bind fun d35 =>
(AA t33 d35).bind fun d36 =>
(Ad d36).bind fun d37 =>
(dq d37 (Dv.int 4)).bind fun b38 =>
if b38=true then
(AH c12_2 (Dv.int 4)).bind fun c39 =>
(IX c39.1 (Dv.int 0)).bind fun b40 =>
some (b40,c39.2)
else
some (false,c12_2)
noncomputable def FW (a1:Dv) (c12_2:Dv) (t33:Dv):Option (Bool×Dv):=
(Yh a1 (Dv.int 1)).bind fun b34 =>
if b34=true then
((Iw c12_2 t33)).bind fun t41 =>
some (t41.1,t41.2)
else
some (false,c12_2)
noncomputable def Fc (a1:Dv) (c12_2:Dv) (t33:Dv):Option (Dv×Dv):=
((FW a1 c12_2 t33)).bind fun t42 =>
if t42.1=true then
(IY (Dv.int 2)).bind fun d43 =>
(AA t33 d43).bind fun d44 =>
(Ai d44 (Dv.str [113])).bind fun d45 =>
(IY (Dv.int 1)).bind fun d46 =>
(Ay t33 d46 d45).bind fun d47 =>
some (t42.2,d47)
else
some (t42.2,t33)
noncomputable def Cb (a0 a1:Dv):Option (Dv×Dv):=
Dj "str" (Dv.str []) (
(AH a0 (Dv.int 4)).bind fun c0 =>
(BS [c0.1]).bind fun s1 =>
DN s1 ((Bi Dw s1 c0.2).bind fun p6 =>
(IG (Dv.str []) (Dv.lst p6.1)).bind fun d7 =>
(AH p6.2 (Dv.int 26)).bind fun c8 =>
(Ad d7).bind fun d9 =>
(Ai d9 (Dv.int 1)).bind fun d10 =>
(AH c8.2 d10).bind fun c11 =>
(AH c11.2 (Dv.int 4)).bind fun c12 =>
(BS [a1]).bind fun s13 =>
(Az (Fj d7 c8.1 c11.1 c12.1) s13 (Dv.lst [])).bind fun t33 =>
((Fc a1 c12.2 t33)).bind fun t48 =>
some (t48.2,t48.1)))
theorem VD:FM md cv (top 16) [0] 1=true:=by kernel_rfl
theorem Up:IJ md cv (top 16) [0] 1 (two Cb):=Zs (by kernel_rfl) fun _ _=>(by kernel_rfl)
def cu:List (Str×Sig):=("_law_names", Ah (AD (top 16)) [0] 1 false (two Cb))::cv
noncomputable def Fh (x5:Dv):Option Dv:=
(Kv x5 none (some 1)).bind fun d6 =>
Dj "str" d6 (
(GL d6).bind fun d7 =>
(Kv x5 (some 1) none).bind fun d8 =>
(Ai d7 d8).bind fun d9 =>
some d9)
noncomputable def Fg (c11_1:Dv) (x15:Dv) (t16:Dv):Option (Dv×Dv):=
(AA c11_1 x15).bind fun d17 =>
(AH t16 (Dv.int 2)).bind fun c18 =>
(Ai (Dv.int 1) c18.1).bind fun d19 =>
some ((Dv.tup [d17,d19]),c18.2)
noncomputable def Eu (a0:Dv):Option (Dv×Dv):=
(Cb a0 (Dv.int 4)).bind fun c0 =>
(AH c0.2 (Dv.int 4)).bind fun c1 =>
Zu c1.1 fun i2 =>
(Kv c0.1 none (some i2)).bind fun d3 =>
(items d3).bind fun s4 =>
DN s4 ((AW Fh s4).bind fun y10 =>
(Cb c1.2 (Dv.int 3)).bind fun c11 =>
(AH c11.2 (Dv.int 8)).bind fun c12 =>
(AA (Dv.lst [(Dv.int 1),(Dv.int 2),(Dv.int 3),(Dv.int 2),(Dv.int 3),(Dv.int 1),(Dv.int 2),(Dv.int 0)]) c12.1).bind fun d13 =>
(BS [d13]).bind fun s14 =>
DN s14 ((Bi (Fg c11.1) s14 c12.2).bind fun p20 =>
(AI (Dv.lst y10)).bind fun d21 =>
(AI (Dv.lst p20.1)).bind fun d22 =>
some ((Dv.tup [d21,d22]),p20.2)))
theorem VC:FM md cu (top 17) [0] 1=true:=by kernel_rfl
theorem Uo:IJ md cu (top 17) [0] 1 (one Eu):=lN (by kernel_rfl) fun _=>(by kernel_rfl)
def cq:List (Str×Sig):=("_law_shape", Ah (AD (top 17)) [0] 1 false (one Eu))::cu
noncomputable def JB (a2:Dv) (x2:Dv) (t3:Dv):Option (Dv×Dv):=
(AH t3 a2).bind fun c4 =>
some (c4.1,c4.2)
noncomputable def JA (a2:Dv) (x14:Dv) (t15:Dv):Option (Dv×Dv):=
(AH t15 a2).bind fun c16 =>
some (c16.1,c16.2)
noncomputable def Iz (a2:Dv) (x24:Dv) (t25:Dv):Option (Dv×Dv):=
(AH t25 a2).bind fun c26 =>
some (c26.1,c26.2)
noncomputable def Ff (a2:Dv) (x21:Dv) (t22:Dv):Option (Dv×Dv):=
(BS [a2]).bind fun s23 =>
DN s23 ((Bi (Iz a2) s23 t22).bind fun p27 =>
(AI (Dv.lst p27.1)).bind fun d28 =>
some (d28,p27.2))
noncomputable def FZ (a2:Dv) (t10_1:Dv) (t10_2:Dv) (t11_2:Dv):Option (Dv×Dv):=
(IX t11_2 (Dv.int 1)).bind fun b12 =>
if b12=true then
Dj "list" t10_2 (
(BS [a2]).bind fun s13 =>
DN s13 ((Bi (JA a2) s13 t10_1).bind fun p17 =>
(AI (Dv.lst p17.1)).bind fun d18 =>
(AV t10_2 [d18]).bind fun r19 =>
some (p17.2,r19.2)))
else
Dj "list" t10_2 (
(BS [a2]).bind fun s20 =>
DN s20 ((Bi (Ff a2) s20 t10_1).bind fun p29 =>
(AI (Dv.lst p29.1)).bind fun d30 =>
(AV t10_2 [d30]).bind fun r31 =>
some (p29.2,r31.2)))
noncomputable def Dz (a2:Dv) (x9:Dv) (t10:Dv×Dv):Option (Dv×Dv):=
(Pu [5,6] x9).bind fun (t11:Dv×Dv) =>
((FZ a2 t10.1 t10.2 t11.2)).bind fun t32 =>
some (t32.1,t32.2)
noncomputable def DE (a0 a1 a2:Dv):Option (Dv×Dv):=
(AA a1 (Dv.int 0)).bind fun d0 =>
(items d0).bind fun s1 =>
DN s1 ((Bi (JB a2) s1 a0).bind fun p5 =>
(AI (Dv.lst p5.1)).bind fun d6 =>
(AA a1 (Dv.int 1)).bind fun d7 =>
(items d7).bind fun s8 =>
(Az (Dz a2) s8 (p5.2,(Dv.lst []))).bind fun t33 =>
(AI t33.2).bind fun d34 =>
some ((Dv.tup [a2,d6,d34]),t33.1))
theorem VB:FM md cq (top 18) [0] 1=true:=by kernel_rfl
theorem Um:IJ md cq (top 18) [0] 1 (Gz DE):=ik (by kernel_rfl) fun _ _ _=>(by kernel_rfl)
def cn:List (Str×Sig):=("_law_world", Ah (AD (top 18)) [0] 1 false (Gz DE))::cq
noncomputable def Br (t0:Dv×Dv×Dv):Option Bool:=
(Ad t0.2.2).bind fun d1 =>
(Yh d1 (Dv.int 0)).bind fun b2 =>
some b2
noncomputable def Ca (d14:Dv) (x19:Dv):Option Dv:=
(AA d14 x19).bind fun d20 =>
some d20
noncomputable def CZ (x29:Dv):Option Dv:=
some (Dv.tup [x29,(Dv.bl false)])
noncomputable def DV (t0_1:Dv) (t0_2_1:Dv) (r3_2:Dv) (t4_1:Dv) (t4_2:Dv) (d6:Dv):Option (Dv×Dv×Dv):=
(IE t4_2).bind fun b12 =>
if b12=true then
(Ad t0_1).bind fun d13 =>
(Ay t0_2_1 t4_1 d13).bind fun d14 =>
Dj "list" t0_1 (
(AA d6 (Dv.int 0)).bind fun d15 =>
(AA d6 (Dv.int 1)).bind fun d16 =>
(AA d6 (Dv.int 2)).bind fun d17 =>
(items d17).bind fun s18 =>
DN s18 ((AW (Ca d14) s18).bind fun y21 =>
(AI (Dv.lst y21)).bind fun d22 =>
(AV t0_1 [(Dv.tup [d15,d16,d22])]).bind fun r23 =>
some (r23.2,d14,r3_2)))
else
Dj "list" r3_2 (
(AV r3_2 [(Dv.tup [t4_1,(Dv.bl true)])]).bind fun r24 =>
Dj "list" r24.2 (
(AA d6 (Dv.int 2)).bind fun d25 =>
(IY (Dv.int 1)).bind fun d26 =>
(Mh d25 d26).bind fun d27 =>
(items d27).bind fun s28 =>
DN s28 ((AW CZ s28).bind fun y30 =>
(DI r24.2 [(Dv.lst y30)]).bind fun r31 =>
some (t0_1,t0_2_1,r31.2))))
noncomputable def Bt (t0_1:Dv) (t0_2_1:Dv) (r3_2:Dv) (t4_1:Dv) (t4_2:Dv) (d6:Dv):Option (Dv×Dv×Dv):=
(AA d6 (Dv.int 0)).bind fun d7 =>
(WB d7 (Dv.str [100,111])).bind fun b8 =>
if b8=true then
(Ad t0_1).bind fun d9 =>
(Ay t0_2_1 t4_1 d9).bind fun d10 =>
Dj "list" t0_1 (
(AV t0_1 [d6]).bind fun r11 =>
some (r11.2,d10,r3_2))
else
((DV t0_1 t0_2_1 r3_2 t4_1 t4_2 d6)).bind fun t32 =>
some (t32.1,t32.2.1,t32.2.2)
noncomputable def Ac (a0:Dv) (t0:Dv×Dv×Dv):Option (Dv×Dv×Dv):=
Dj "list" t0.2.2 (
(Ri t0.2.2 []).bind fun r3 =>
(Pu [5,6] r3.1).bind fun (t4:Dv×Dv) =>
(jM t4.1 t0.2.1).bind fun b5 =>
if b5=true then
some (t0.1,t0.2.1,r3.2)
else
(AA a0 t4.1).bind fun d6 =>
((Bt t0.1 t0.2.1 r3.2 t4.1 t4.2 d6)).bind fun t33 =>
some (t33.1,t33.2.1,t33.2.2))
noncomputable def Cv (a0 a1:Dv):Option (Dv):=
(OX Br (Ac a0) 1000000 ((Dv.lst []),(Dv.dct [] []),(Dv.lst [(Dv.tup [a1,(Dv.bl false)])]))).bind fun t34 =>
(AI t34.1).bind fun d35 =>
(Ad t34.1).bind fun d36 =>
(Ku d36 (Dv.int 1)).bind fun d37 =>
some (Dv.tup [d35,d37])
theorem Nx:FM md cn (top 19) [] 1=true:=by kernel_rfl
theorem Np:IJ md cn (top 19) [] 1 (two Cv):=Zs (by kernel_rfl) fun _ _=>(by kernel_rfl)
def cm:List (Str×Sig):=("_law_ordered", Ah (AD (top 19)) [] 1 false (two Cv))::cn
noncomputable def Eo (x6:Dv):Option Dv:=
some (Dv.tup [(Dv.str [105,110,112,117,116]),x6])
noncomputable def En (x10:Dv):Option Dv:=
some (Dv.tup [(Dv.str [102,105,120,101,100]),x10])
noncomputable def LP (a1:Dv) (c19_2:Dv):Option (Bool×Dv):=
(AA a1 (Dv.int 1)).bind fun d23 =>
(Ad d23).bind fun d24 =>
(Yh d24 (Dv.int 0)).bind fun b25 =>
if b25=true then
(AH c19_2 (Dv.int 4)).bind fun c26 =>
(Yh c26.1 (Dv.int 0)).bind fun b27 =>
some (b27,c26.2)
else
some (false,c19_2)
noncomputable def HE (a1:Dv) (t17_2:Dv) (c19_2:Dv):Option (Bool×Dv):=
(Ad t17_2).bind fun d21 =>
(Yh d21 (Dv.int 0)).bind fun b22 =>
if b22=true then
((LP a1 c19_2)).bind fun t28 =>
some (t28.1,t28.2)
else
some (false,c19_2)
noncomputable def HR (t17_2:Dv) (x37:Dv) (t38:Dv):Option (Dv×Dv):=
(Ad t17_2).bind fun d39 =>
(Ku d39 (Dv.int 1)).bind fun d40 =>
(Ad t17_2).bind fun d41 =>
(AH t38 d41).bind fun c42 =>
(AH c42.2 (Dv.int 2)).bind fun c43 =>
(AA (Dv.lst [d40,c42.1]) c43.1).bind fun d44 =>
some (d44,c43.2)
noncomputable def HI (a1:Dv) (t17_2:Dv) (c19_2:Dv) (d20:Dv):Option (Dv×Dv):=
((HE a1 t17_2 c19_2)).bind fun t29 =>
if t29.1=true then
(AA a1 (Dv.int 1)).bind fun d30 =>
(AA a1 (Dv.int 1)).bind fun d31 =>
(Ad d31).bind fun d32 =>
(AH t29.2 d32).bind fun c33 =>
(AA d30 c33.1).bind fun d34 =>
(Pu [8,9] d34).bind fun (t35:Dv×Dv) =>
(BS [t35.2]).bind fun s36 =>
DN s36 ((Bi (HR t17_2) s36 c33.2).bind fun p45 =>
(AI (Dv.lst p45.1)).bind fun d46 =>
some (p45.2,(Dv.tup [(Dv.str [100,111]),t35.1,d46])))
else
some (t29.2,d20)
noncomputable def LQ (t17_2:Dv) (t47_2:Dv):Option (Dv):=
(IC t47_2 t17_2).bind fun b48 =>
if b48=true then
Dj "list" t17_2 (
(AV t17_2 [t47_2]).bind fun r49 =>
some r49.2)
else
some t17_2
noncomputable def HU (a1:Dv) (d12:Dv) (x16:Dv) (t17:Dv×Dv):Option (Dv×Dv):=
(Ad d12).bind fun d18 =>
(AH t17.1 d18).bind fun c19 =>
(AA d12 c19.1).bind fun d20 =>
((HI a1 t17.2 c19.2 d20)).bind fun t47 =>
((LQ t17.2 t47.2)).bind fun t50 =>
some (t47.1,t50)
noncomputable def Fo (a0 a1 a2 a3:Dv):Option (Dv×Dv):=
(AA a1 (Dv.int 0)).bind fun d0 =>
(Ad d0).bind fun d1 =>
(IX d1 (Dv.int 0)).bind fun b2 =>
(FP (Dv.bl b2)).bind fun d3 =>
(DK a2 d3).bind fun d4 =>
(BS [d4]).bind fun s5 =>
DN s5 ((AW Eo s5).bind fun y7 =>
(AA a1 (Dv.int 0)).bind fun d8 =>
(items d8).bind fun s9 =>
DN s9 ((AW En s9).bind fun y11 =>
(Ai (Dv.lst y7) (Dv.lst y11)).bind fun d12 =>
(AH a0 a3).bind fun c13 =>
(Ai (Dv.int 1) c13.1).bind fun d14 =>
(BS [d14]).bind fun s15 =>
(Az (HU a1 d12) s15 (c13.2,(Dv.lst []))).bind fun t51 =>
(Ad t51.2).bind fun d52 =>
(Ku d52 (Dv.int 1)).bind fun d53 =>
(Cv t51.2 d53).bind fun c54 =>
some (c54,t51.1)))
theorem YD:FM md cm (top 20) [0] 1=true:=by kernel_rfl
theorem Xu:IJ md cm (top 20) [0] 1 (Dl Fo):=eQ (by kernel_rfl) fun _ _ _ _=>(by kernel_rfl)
def ck:List (Str×Sig):=("_law_form", Ah (AD (top 20)) [0] 1 false (Dl Fo))::cm
noncomputable def Ak (t1:Dv×Dv×Dv):Option Bool:=
(Ad t1.2.1).bind fun d2 =>
(Yh d2 (Dv.int 0)).bind fun b3 =>
some b3
noncomputable def Al (t1:Dv×Dv×Dv):Option (Dv×Dv×Dv):=
Dj "list" t1.2.2 (
Dj "list" t1.2.1 (
(Ad t1.2.1).bind fun d4 =>
(AH t1.1 d4).bind fun c5 =>
(Ef t1.2.1 [c5.1]).bind fun r6 =>
(AV t1.2.2 [r6.1]).bind fun r7 =>
some (c5.2,r6.2,r7.2)))
noncomputable def Bl (a0 a1:Dv):Option (Dv×Dv):=
(CU [a1]).bind fun d0 =>
(OX Ak Al 1000000 (a0,d0,(Dv.lst []))).bind fun t8 =>
(AI t8.2.2).bind fun d9 =>
some (d9,t8.1)
theorem MV:FM md ck (top 21) [0] 1=true:=by kernel_rfl
theorem ML:IJ md ck (top 21) [0] 1 (two Bl):=Zs (by kernel_rfl) fun _ _=>(by kernel_rfl)
def cj:List (Str×Sig):=("_law_shuffled", Ah (AD (top 21)) [0] 1 false (two Bl))::ck
noncomputable def GO (a2:Dv) (x2:Dv):Option (Dv):=
Option.or (Dj "list" a2 (
(Dq a2 x2).bind fun d3 =>
some d3)) (Dj "tuple" a2 (
(Bq a2 x2).bind fun d4 =>
some d4))
noncomputable def DZ (a2:Dv) (x2:Dv):Option Dv:=
((GO a2 x2)).bind fun t5 =>
some t5
noncomputable def DY (a2:Dv) (y6:List Dv) (t12_2:Dv) (x16:Dv):Option Dv:=
(AA (Dv.lst y6) x16).bind fun d17 =>
(AA t12_2 d17).bind fun d18 =>
(AA a2 d18).bind fun d19 =>
some d19
noncomputable def DX (a2:Dv) (y6:List Dv) (t12_2:Dv) (x24:Dv) (x26:Dv):Option Dv:=
(AA (Dv.lst y6) x24).bind fun d27 =>
(AA t12_2 d27).bind fun d28 =>
(AA (Dv.lst y6) x26).bind fun d29 =>
(AA d28 d29).bind fun d30 =>
(AA a2 d30).bind fun d31 =>
some d31
noncomputable def CY (a2:Dv) (d0:Dv) (y6:List Dv) (t12_2:Dv) (x24:Dv):Option Dv:=
(BS [d0]).bind fun s25 =>
DN s25 ((AW (DX a2 y6 t12_2 x24) s25).bind fun y32 =>
(AI (Dv.lst y32)).bind fun d33 =>
some d33)
noncomputable def DU (a2:Dv) (d0:Dv) (y6:List Dv) (t11:Dv) (t12_1:Dv) (t12_2:Dv):Option (Dv):=
(AA t12_1 (Dv.int 1)).bind fun d13 =>
(IX d13 (Dv.int 1)).bind fun b14 =>
if b14=true then
Dj "list" t11 (
(BS [d0]).bind fun s15 =>
DN s15 ((AW (DY a2 y6 t12_2) s15).bind fun y20 =>
(AI (Dv.lst y20)).bind fun d21 =>
(AV t11 [d21]).bind fun r22 =>
some r22.2))
else
Dj "list" t11 (
(BS [d0]).bind fun s23 =>
DN s23 ((AW (CY a2 d0 y6 t12_2) s23).bind fun y34 =>
(AI (Dv.lst y34)).bind fun d35 =>
(AV t11 [d35]).bind fun r36 =>
some r36.2))
noncomputable def Bu (a2:Dv) (d0:Dv) (y6:List Dv) (x10:Dv) (t11:Dv):Option (Dv):=
(Pu [6,7] x10).bind fun (t12:Dv×Dv) =>
((DU a2 d0 y6 t11 t12.1 t12.2)).bind fun t37 =>
some t37
noncomputable def CW (a2:Dv) (x41:Dv):Option Dv:=
(AA a2 x41).bind fun d42 =>
some d42
noncomputable def Cu (a0 a1 a2:Dv):Option (Dv):=
(AA a1 (Dv.int 0)).bind fun d0 =>
(BS [d0]).bind fun s1 =>
DN s1 ((AW (DZ a2) s1).bind fun y6 =>
(AA a0 (Dv.int 1)).bind fun d7 =>
(AA a1 (Dv.int 2)).bind fun d8 =>
(JC [d7,d8]).bind fun s9 =>
(Az (Bu a2 d0 y6) s9 (Dv.lst [])).bind fun t38 =>
(AA a1 (Dv.int 1)).bind fun d39 =>
(items d39).bind fun s40 =>
DN s40 ((AW (CW a2) s40).bind fun y43 =>
(AI (Dv.lst y43)).bind fun d44 =>
(AI t38).bind fun d45 =>
some (Dv.tup [d0,d44,d45])))
theorem Nw:FM md cj (top 22) [] 1=true:=by kernel_rfl
theorem Nn:IJ md cj (top 22) [] 1 (Gz Cu):=ik (by kernel_rfl) fun _ _ _=>(by kernel_rfl)
def cg:List (Str×Sig):=("_law_renamed", Ah (AD (top 22)) [] 1 false (Gz Cu))::cj
noncomputable def Ep (d2:Dv) (x17:Dv):Option Dv:=
(Cq x17 d2).bind fun d18 =>
some d18
noncomputable def HJ (d2:Dv) (x10:Dv) (t11:Dv):Option (Dv):=
(AA t11 x10).bind fun d12 =>
(Rj d12 (Dv.ty "tuple")).bind fun d13 =>
(IE d13).bind fun b14 =>
if b14=true then
(AA t11 x10).bind fun d15 =>
(items d15).bind fun s16 =>
DN s16 ((AW (Ep d2) s16).bind fun y19 =>
(AI (Dv.lst y19)).bind fun d20 =>
(Ay t11 x10 d20).bind fun d21 =>
some d21)
else
(AA t11 x10).bind fun d22 =>
(Cq d22 d2).bind fun d23 =>
(Ay t11 x10 d23).bind fun d24 =>
some d24
noncomputable def BP (d2:Dv) (x10:Dv) (t11:Dv):Option (Dv):=
((HJ d2 x10 t11)).bind fun t25 =>
some t25
noncomputable def CM (d2:Dv) (x5:Dv) (t6:Dv):Option (Dv):=
(Mi x5).bind fun d7 =>
(Ad d7).bind fun d8 =>
(BS [d8]).bind fun s9 =>
(Az (BP d2) s9 d7).bind fun t26 =>
Dj "list" t6 (
(AI t26).bind fun d27 =>
(AV t6 [d27]).bind fun r28 =>
some r28.2)
noncomputable def EX (a0 a1:Dv):Option (Dv×Dv):=
(AA a1 (Dv.int 0)).bind fun d0 =>
(AH a0 d0).bind fun c1 =>
(Ai (Dv.int 1) c1.1).bind fun d2 =>
(AA a1 (Dv.int 2)).bind fun d3 =>
(items d3).bind fun s4 =>
(Az (CM d2) s4 (Dv.lst [])).bind fun t29 =>
(AA a1 (Dv.int 0)).bind fun d30 =>
(AA a1 (Dv.int 1)).bind fun d31 =>
(AI t29).bind fun d32 =>
some ((Dv.tup [d30,d31,d32]),c1.2)
theorem YE:FM md cg (top 23) [0] 1=true:=by kernel_rfl
theorem Xv:IJ md cg (top 23) [0] 1 (two EX):=Zs (by kernel_rfl) fun _ _=>(by kernel_rfl)
def cf:List (Str×Sig):=("_law_flat", Ah (AD (top 23)) [0] 1 false (two EX))::cg
noncomputable def Cj (c5_1:Dv) (c5_2:Dv):Option (Dv×Dv):=
(AH c5_2 (Dv.int 2)).bind fun c6 =>
(IX c6.1 (Dv.int 0)).bind fun b7 =>
if b7=true then
(EX c6.2 c5_1).bind fun c8 =>
some (c8.2,c8.1)
else
some (c6.2,c5_1)
noncomputable def Ci (c10_1:Dv) (c21_1:Dv) (c21_2:Dv):Option (Dv×Dv):=
(IX c10_1 (Dv.int 3)).bind fun b22 =>
if b22=true then
(EX c21_2 c21_1).bind fun c23 =>
some (c23.2,c23.1)
else
some (c21_2,c21_1)
noncomputable def Bv (a0 a1:Dv):Option (Dv×Dv):=
(AH a0 (Dv.int 3)).bind fun c0 =>
(Ai (Dv.int 1) c0.1).bind fun d1 =>
(AH c0.2 (Dv.int 6)).bind fun c2 =>
(Kw c2.1 (Dv.int 5)).bind fun d3 =>
(AA (Dv.lst [d1,(Dv.int 4)]) d3).bind fun d4 =>
(DE c2.2 a1 d4).bind fun c5 =>
((Cj c5.1 c5.2)).bind fun t9 =>
(AH t9.1 (Dv.int 5)).bind fun c10 =>
(IX c10.1 (Dv.int 0)).bind fun b11 =>
if b11=true then
some ((Dv.tup [t9.2,t9.2]),c10.2)
else
(dq c10.1 (Dv.int 3)).bind fun b12 =>
if b12=true then
(AA t9.2 (Dv.int 0)).bind fun d13 =>
(Bl c10.2 d13).bind fun c14 =>
(Cu a1 t9.2 c14.1).bind fun c15 =>
some ((Dv.tup [t9.2,c15]),c14.2)
else
(AH c10.2 (Dv.int 3)).bind fun c16 =>
(Ai (Dv.int 1) c16.1).bind fun d17 =>
(AH c16.2 (Dv.int 6)).bind fun c18 =>
(Kw c18.1 (Dv.int 5)).bind fun d19 =>
(AA (Dv.lst [d17,(Dv.int 4)]) d19).bind fun d20 =>
(DE c18.2 a1 d20).bind fun c21 =>
((Ci c10.1 c21.1 c21.2)).bind fun t24 =>
some ((Dv.tup [t9.2,t24.2]),t24.1)
theorem Kh:FM md cf (top 24) [0] 1=true:=by kernel_rfl
theorem Kd:IJ md cf (top 24) [0] 1 (two Bv):=Zs (by kernel_rfl) fun _ _=>(by kernel_rfl)
def cc:List (Str×Sig):=("_law_two_worlds", Ah (AD (top 24)) [0] 1 false (two Bv))::cf
noncomputable def Fi (t0_1:Dv) (x6:Dv) (t7:Dv):Option (Dv×Dv):=
(AA t0_1 (Dv.int 0)).bind fun d8 =>
(AH t7 d8).bind fun c9 =>
some (c9.1,c9.2)
noncomputable def Dx (a4:Dv) (x13:Dv):Option Dv:=
(AA a4 x13).bind fun d14 =>
some d14
noncomputable def Fk (a1:Dv) (a2:Dv) (a4:Dv) (t0_1:Dv) (t0_2:Dv) (x2:Dv) (t3:Dv):Option (Lp Dv (Dv) (Dv)):=
(Fo t3 a1 a2 (Dv.int 8)).bind fun c4 =>
(BS [a2]).bind fun s5 =>
DN s5 ((Bi (Fi t0_1) s5 c4.2).bind fun p10 =>
(AI (Dv.lst p10.1)).bind fun d11 =>
(items d11).bind fun s12 =>
DN s12 ((AW (Dx a4) s12).bind fun y15 =>
(AI (Dv.lst y15)).bind fun d16 =>
(Dc a1 c4.1 t0_2 d16).bind fun c17 =>
(Dc a1 c4.1 t0_1 d11).bind fun c18 =>
(AA a4 c18).bind fun d19 =>
(WB c17 d19).bind fun b20 =>
if b20=true then
some (.rt (Dv.bl false) p10.2)
else
some (.go p10.2)))
noncomputable def Ew (a0 a1 a2 a3 a4:Dv):Option (Dv×Dv):=
(Pu [5,6] a3).bind fun (t0:Dv×Dv) =>
(BS [(Dv.int 3)]).bind fun s1 =>
(Ec (Fk a1 a2 a4 t0.1 t0.2) s1 a0).bind fun l24=>l24.el (fun (t21:Dv) =>
some ((Dv.bl true),t21)) fun (e22:Dv) (r23:Dv) =>
some (e22,r23)
theorem VE:FM md cc (top 25) [0] 1=true:=by kernel_rfl
theorem Uq:IJ md cc (top 25) [0] 1 (UZ Ew):=lM (by kernel_rfl) fun _ _ _ _ _=>(by kernel_rfl)
def iA:List (Str×Sig):=("_law_along", Ah (AD (top 25)) [0] 1 true (UZ Ew))::cc
noncomputable def Jv (d34:Dv) (x36:Dv):Option Dv:=
(AA d34 x36).bind fun d37 =>
some d37
noncomputable def NB (c7_1:Dv) (d13:Dv) (t15_1:Dv) (t15_2:Dv) (c17:Dv) (x28:Dv) (t29:Dv):Option (Lp Dv (Dv) (Unit)):=
(Ew t29 c7_1 d13 (Dv.lst [t15_1,t15_2]) x28).bind fun c30 =>
(IE c30.1).bind fun b31 =>
if (!b31)=true then
some (.rt (Dv.bl false) ())
else
(Ad c17).bind fun d32 =>
(AH c30.2 d32).bind fun c33 =>
(AA c17 c33.1).bind fun d34 =>
(items x28).bind fun s35 =>
DN s35 ((AW (Jv d34) s35).bind fun y38 =>
(AI (Dv.lst y38)).bind fun d39 =>
(EA c7_1 t15_1 t15_2 d39).bind fun c40 =>
bif UC c40 then
(IE c40).bind fun b41 =>
if (!b41)=true then
some (.rt (Dv.bl false) ())
else
some (.go c33.2)
else none)
noncomputable def Jw (a0:Dv) (x4:Dv) (t5:Unit):Option (Lp Dv (Unit) (Unit)):=
(HV a0 x4).bind fun c6 =>
(Eu c6).bind fun c7 =>
(AH c7.2 (Dv.int 4)).bind fun c8 =>
(AA c7.1 (Dv.int 0)).bind fun d9 =>
(Ad d9).bind fun d10 =>
(IX d10 (Dv.int 0)).bind fun b11 =>
(FP (Dv.bl b11)).bind fun d12 =>
(DK c8.1 d12).bind fun d13 =>
(Bv c8.2 c7.1).bind fun c14 =>
(Pu [5,6] c14.1).bind fun (t15:Dv×Dv) =>
(Fm c7.1 t15.1 t15.2).bind fun c16 =>
(Fm c7.1 t15.2 t15.2).bind fun c17 =>
(Ad c16).bind fun d18 =>
(Ai d18 (Dv.int 1)).bind fun d19 =>
(AH c14.2 d19).bind fun c20 =>
Zu c20.1 fun i21 =>
(Kv c16 (some i21) none).bind fun d22 =>
Zu c20.1 fun i23 =>
(Kv c16 none (some i23)).bind fun d24 =>
(Ai d22 d24).bind fun d25 =>
(Kv d25 none (some 6)).bind fun d26 =>
(items d26).bind fun s27 =>
(Ec (NB c7.1 d13 t15.1 t15.2 c17) s27 c20.2).bind fun l48=>l48.el (fun (t42:Dv) =>
(AA t15.2 (Dv.int 0)).bind fun d45 =>
(EK [d45]).bind fun d46 =>
(IC d46 c17).bind fun b47 =>
if b47=true then
some (.rt (Dv.bl false) ())
else
some (.go ())) fun (e43:Dv) (r44:Unit) =>
some (.rt e43 ())
noncomputable def Wc (a0:Dv):Option (Dv):=
(Ad a0).bind fun d0 =>
(Jk (Dv.int 4) d0).bind fun d1 =>
(DK (Dv.int 3) d1).bind fun d2 =>
(QL [(Dv.int 1),d2]).bind fun s3 =>
(Ec (Jw a0) s3 ()).bind fun l52=>l52.el (fun (t49:Unit) =>
some (Dv.bl true)) fun (e50:Dv) (r51:Unit) =>
some e50
theorem iS:FM md iA (top 26) [] 1=true:=by kernel_rfl
theorem iO:IJ md iA (top 26) [] 1 (one Wc):=lN (by kernel_rfl) fun _=>(by kernel_rfl)
end My
set_option maxHeartbeats 1000000
namespace R
open PySem L2
def Fd (x:Dv):Prop:=∃ a b:Int,x=.lst [.int a,.int b]
def Tx (N:Nat) (x:Dv):Prop:=∃ l,x=.str l/\l.length<=N/\∀ c∈l,c < 128
theorem Tx.mono {N M:Nat} {x:Dv} (h:Tx N x) (le:N<=M):Tx M x:=let ⟨l,e,h1,h2⟩:=h;⟨l,e,mQ h1 le,h2⟩
section
variable {γ τ ρ:Type}
theorem CF (g:Dv->γ->Option (Dv×γ)) (P:γ->Prop) (R:Dv->Prop):∀ (xs:List Dv) (c:γ),P c->(∀ x∈xs,∀ c,P c->∃ d c',g x c=some (d,c')/\R d/\P c')->∃ ds c',Bi g xs c=some (ds,c')/\ds.length=xs.length/\(∀ d∈ds,R d)/\P c'
 | [],c,hc,_=>⟨[],c,rfl,rfl,fun _ z=>(mz z).elim,hc⟩
 | x::xs,c,hc,h=>by
  obtain ⟨d,c1,e1,r1,p1⟩:=h x mC c hc;obtain ⟨ds,c2,e2,l2,r2,p2⟩:=CF g P R xs c1 p1 fun y hy=>h y (mE _ hy)
  refine ⟨d::ds,c2,by simp only [Bi,e1,e2,dL],by rw [mS,mS,l2],fun y hy=>?_,p2⟩;rcases mL.mp hy with rfl | hy
  ·exact r1
  ·exact r2 y hy
theorem FG (g:Dv->γ->Option γ) (I:Nat->γ->Prop):∀ (xs:List Dv) (k:Nat) (c:γ),I k c->(∀ i x,xs[i]?=some x->∀ c,I (k+i) c->∃ c',g x c=some c'/\I (k+i+1) c')->∃ c',Az g xs c=some c'/\I (k+xs.length) c'
 | [],k,c,hc,_=>⟨c,rfl,hc⟩
 | x::xs,k,c,hc,h=>by
  obtain ⟨c1,e1,i1⟩:=h 0 x rfl c hc;obtain ⟨c2,e2,i2⟩:=FG g I xs (k+1) c1 i1 fun i y hy c hc=>by
   have:=h (i+1) y hy c (by rw [show k+(i+1)=k+1+i by omega];exact hc);rw [show k+(i+1)+1=k+1+i+1 by omega] at this;exact this
  exact ⟨c2,by simp only [Az,e1,e2,dL],by rw [mS,show k+(xs.length+1)=k+1+xs.length by omega];exact i2⟩
theorem Df (g:Dv->Option Dv) (R:Dv->Prop):∀ (xs:List Dv),(∀ x∈xs,∃ d,g x=some d/\R d)->∃ ds,AW g xs=some ds/\ds.length=xs.length/\∀ d∈ds,R d
 | [],_=>⟨[],rfl,rfl,fun _ z=>by cases z⟩
 | x::xs,h=>by
  obtain ⟨d,e1,r1⟩:=h x mC;obtain ⟨ds,e2,l2,r2⟩:=Df g R xs fun y hy=>h y (mE _ hy)
  refine ⟨d::ds,by simp only [AW,e1,e2,dL],by rw [mS,mS,l2],fun y hy=>?_⟩;rcases mL.mp hy with rfl | hy
  ·exact r1
  ·exact r2 y hy
theorem PK (g:Dv->γ->Option (Lp τ γ ρ)) (c:γ):∀ (xs:List Dv),(∀ x∈xs,g x c=some (.go c))->Ec g xs c=some (.go c)
 | [],_=>rfl
 | x::xs,h=>by simp only [Ec,h x mC,dL];exact PK g c xs fun y hy=>h y (mE _ hy)
theorem Hu (g:Dv->Unit->Option (Lp τ Unit ρ)) (p:Dv->Bool) (d:τ) (r:ρ):∀ (xs:List Dv),(∀ x∈xs,g x ()=some (if p x=true then .rt d r else .go ()))->Ec g xs ()=some (if xs.any p=true then .rt d r else .go ())
 | [],_=>rfl
 | x::xs,h=>by
  have ih:=Hu g p d r xs fun y hy=>h y (mE _ hy)
  simp only [Ec,h x mC,dL,nU]
  by_cases q:p x=true
  ·simp [q]
  ·simp only [q,mI,if_false,oS];simpa using ih
theorem AR {α:Type} {xs:List Dv} {o:Option α} (h:xs.length<=1000000):DN xs o=o:=by unfold DN;rw [if_pos h]
end
theorem atI_nat {α:Type} (xs:List α) (i:Nat) (h:i < xs.length):ES xs (i:Int)=some xs[i]:=by
 unfold ES Nb;rw [if_pos (by omega),if_pos (by omega)];simp [h]
theorem Gj {α:Type} {xs:List α} {i:Int} (h0:0<=i) (h:i < xs.length):∃ x∈xs,ES xs i=some x:=by
 obtain ⟨n,rfl⟩:∃ n:Nat,i=n:=⟨i.toNat,by omega⟩;exact ⟨xs[n]'(by omega),nu _,atI_nat xs n (by omega)⟩
theorem Jl {xs:List Dv} {i:Int} (h0:0<=i) (h:i < xs.length):∃ x∈xs,AA (.lst xs) (.int i)=some x:=Gj h0 h
theorem Vt {xs:List Dv} {i:Int} (h0:0<=i) (h:i < xs.length):∃ x∈xs,AA (.tup xs) (.int i)=some x:=Gj h0 h
theorem iz {l:List Nat} {i:Int} (h0:0<=i) (h:i < l.length) (hl:l.length<=1000000):∃ c∈l,AA (.str l) (.int i)=some (.str [c]):=by
 obtain ⟨c,hc,e⟩:=Gj h0 h;exact ⟨c,hc,by simp only [AA,if_pos hl,e,mj]⟩
theorem EB {n:Int} (h0:-1000000000<=n) (h:n<=1000000000):BS [.int n]=some ((List.range n.toNat).map fun k=>.int (k:Nat)):=by
 have:small n=true:=by unfold small;simp [h0,h]
 simp only [BS,this,cond_true,Int.zero_add]
theorem Jx (n:Nat) (h:n<=1000000):BS [.int (n:Nat)]=some ((List.range n).map fun k=>.int (k:Nat)):=by
 have:=EB (n:=(n:Int)) (by omega) (by omega);simpa using this
theorem EN {α:Type} (xs:List Dv) (o:Option α):Dj "list" (.lst xs) o=o:=rfl
theorem gq {α:Type} (l:List Nat) (o:Option α):Dj "str" (.str l) o=o:=rfl
theorem gp {α:Type} (xs:List Dv) (o:Option α):Dj "tuple" (.tup xs) o=o:=rfl
theorem ZV {α:Type} (xs:List Dv) (o:Option α):Dj "list" (.tup xs) o=none:=rfl
theorem kZ {R:Type} (b:Bool) (k:Bool->Option R):eS (.bl b) k=k b:=rfl
theorem dr {R:Type} (i:Int) (k:Int->Option R):Zu (.int i) k=k i:=rfl
theorem Jo (b:Bool):IE (.bl b)=some b:=rfl
theorem Qb (b:Bool):UC (.bl b)=true:=rfl
theorem Gu {β:Type} {i j:Nat} (x y:Dv) (f:Dv×Dv->Option β):((Pu [i,j] (.tup [x,y])).bind fun (t:Dv×Dv)=>f t)=f (x,y):=rfl
theorem jS {β:Type} {i j k:Nat} (x y z:Dv) (f:Dv×Dv×Dv->Option β):((Pu [i,j,k] (.tup [x,y,z])).bind fun (t:Dv×Dv×Dv)=>f t)=f (x,y,z):=rfl
theorem Do {xs:List Dv} {y:Dv} (h:xs.length<=1000000):AV (.lst xs) [y]=some (.non,.lst (xs++[y])):=by simp only [AV,if_pos h]
theorem ZZ {xs ys:List Dv} (h:xs.length+ys.length<=1000000):DI (.lst xs) [.lst ys]=some (.non,.lst (xs++ys)):=by simp only [DI,if_pos h]
theorem Hc {R:Dv->Dv->Prop}:∀ {xs ys:List Dv},Paired R xs ys->xs.length=ys.length
 | _,_,.nil=>rfl
 | _,_,.cons _ p=>by rw [mS,mS,Hc p]
theorem EJ {α:Type} {xs:List α} {lo hi:Option Int} {x:α} (h:x∈cutA xs lo hi):x∈xs:=List.mem_of_mem_drop (List.mem_of_mem_take h)
theorem Gi {α:Type} (xs:List α) (lo hi:Option Int):(cutA xs lo hi).length<=xs.length:=by
 unfold cutA;rw [nr,oo];omega
theorem Hz (l:List Nat) (lo hi:Option Int):Nv l lo hi=cutA l lo hi:=rfl
theorem EU:∀ ls:List (List Nat),AX (ls.map Dv.str)=true
 | []=>rfl
 | x::xs=>by simp only [mJ,AX,Dv.cmp,EU xs,my]
theorem ET:∀ ls:List (List Nat),Aj (ls.map Dv.str)=0
 | []=>rfl
 | x::xs=>by simp only [mJ,Aj,Dv.dep,ET xs];rfl
theorem GD (x:List Nat):∀ ls:List (List Nat),GE (.str x) (ls.map Dv.str)=ls.contains x
 | []=>rfl
 | y::ys=>by
  have:=GD x ys;simp only [GE] at this;simp only [GE,mJ,nU,this,List.contains_cons,eqV]
  by_cases e:y=x
  ·subst e;simp
  ·have e2:¬ x=y:=fun z=>e z.symm
   have h1:(y == x)=false:=by simpa using e
   have h2:(x == y)=false:=by simpa using e2
   rw [h1,h2]
theorem iu (neg:Bool) (x:List Nat) (ls:List (List Nat)):Kq neg (.str x) (.lst (ls.map Dv.str))=some (if neg=true then !ls.contains x else ls.contains x):=by
 simp only [Kq,eW,Dv.cmp,EU,ET,my,nG,decide_true,if_true,GD]
theorem Re (neg:Bool) (x:List Nat) (ls:List (List Nat)):Kq neg (.str x) (.tup (ls.map Dv.str))=some (if neg=true then !ls.contains x else ls.contains x):=by
 simp only [Kq,eW,Dv.cmp,EU,ET,my,nG,decide_true,if_true,GD]
theorem Cz (i j:Int):Ai (.int i) (.int j)=some (.int (i+j)):=rfl
theorem IF (i j:Int) (h:0 < j):Cq (.int i) (.int j)=some (.int (i % j)):=by simp only [Cq,Cc,h,decide_true,if_true]
theorem BH (i j:Int):IX (.int i) (.int j)=some (decide (i=j)):=by
 simp only [Rf,Dv.cmp,Dv.dep,my,nG,decide_true,if_true,eqV,mI,if_false];congr 1
theorem Kp (i j:Int):WB (.int i) (.int j)=some (!decide (i=j)):=by
 simp only [Rf,Dv.cmp,Dv.dep,my,nG,decide_true,if_true,eqV];congr 1
theorem Tx.cut {N:Nat} {x:Dv} (h:Tx N x) (hN:N<=1000000) (lo hi:Option Int):∃ y,Kv x lo hi=some y/\Tx N y:=by
 obtain ⟨l,rfl,h1,h2⟩:=h;exact ⟨.str (Nv l lo hi),by simp only [Kv,if_pos (mQ h1 hN)],_,rfl,by rw [Hz];exact mQ (Gi _ _ _) h1,fun c hc=>h2 c (EJ (by rw [<- Hz];exact hc))⟩
theorem Tx.add {N M:Nat} {x y:Dv} (h:Tx N x) (h':Tx M y) (hN:N+M<=1000000):∃ z,Ai x y=some z/\Tx (N+M) z:=by
 obtain ⟨l,rfl,h1,h2⟩:=h;obtain ⟨l',rfl,h1',h2'⟩:=h';refine ⟨.str (l++l'),by simp only [Ai,if_pos (show l.length+l'.length<=1000000 by omega)],_,rfl,by rw [mV];omega,fun c hc=>?_⟩;rcases mU.mp hc with hc | hc
 ·exact h2 c hc
 ·exact h2' c hc
theorem aA {c:Nat} (h:c < 128):PyProof.Rows.up1 c < 128:=by
 unfold PyProof.Rows.up1;split<;>omega
theorem Tx.upper {N:Nat} {x:Dv} (h:Tx N x) (hN:N<=1000000):∃ y,GL x=some y/\Tx N y:=by
 obtain ⟨l,rfl,h1,h2⟩:=h;have e:(l.all (fun c=>decide (c < 128)) && decide (l.length<=1000000))=true:=by
  rw [ly];exact ⟨mW.mpr fun c hc=>decide_eq_true (h2 c hc),decide_eq_true (mQ h1 hN)⟩
 refine ⟨.str (l.map PyProof.Rows.up1),by simp only [GL,e,if_true],_,rfl,by rw [mX];exact h1,fun c hc=>?_⟩;obtain ⟨d,hd,rfl⟩:=mr.mp hc;exact aA (h2 d hd)
theorem Im:∀ ls:List (List Nat),Ip (ls.map Dv.str)=some ls
 | []=>rfl
 | x::xs=>by simp only [mJ,Ip,Im xs,mj]
theorem Na:∀ {xs:List Dv},(∀ x∈xs,∃ c,x=.str [c]/\c < 128)->xs.length<=1000->∃ z,IG (.str []) (.lst xs)=some z/\Tx xs.length z:=by
 intro xs h hl;have:∃ cs:List Nat,xs=(cs.map fun c=>[c]).map Dv.str/\∀ c∈cs,c < 128:=by
  clear hl
  induction xs with
  | nil=>exact ⟨[],rfl,fun _ z=>by cases z⟩
  | cons x xs ih =>
   obtain ⟨cs,e,h2⟩:=ih fun y hy=>h y (mE _ hy)
   obtain ⟨c,rfl,hc⟩:=h x mC;refine ⟨c::cs,by rw [e];rfl,fun d hd=>?_⟩;rcases mL.mp hd with rfl | hd
   ·exact hc
   ·exact h2 d hd
 obtain ⟨cs,e,h2⟩:=this;have hlen:xs.length=cs.length:=by rw [e];simp
 have hj:∀ cs:List Nat,jn [] (cs.map fun c=>[c])=cs:=by
  intro cs;cases cs with
  | nil=>rfl
  | cons a b =>
   show [a]++((b.map fun c=>[c]).flatMap fun y=>[]++y)=a::b;have:∀ b:List Nat,((b.map fun c=>[c]).flatMap fun y=>[]++y)=b:=by
    intro b
    induction b with
    | nil=>rfl
    | cons x y ih=>simp only [mJ,nX,ih];rfl
   rw [this];rfl
 have hs:((cs.map fun c=>[c]).map List.length).sum=cs.length:=by
  clear e h2 hlen
  induction cs with
  | nil=>rfl
  | cons a b ih=>rw [mJ,mJ,List.sum_cons,ih];simp;omega
 rw [e];refine ⟨.str cs,?_,cs,rfl,by simp,h2⟩;simp only [IG,Im,hj];rw [if_pos (by rw [hs];simp;omega)]
end R
set_option maxHeartbeats 1000000
namespace My
open PySem L2 R
theorem AF {f:Dv} (hf:Fd f) {n:Int} (h0:0 < n) (h1:n < 1073741824):∃ (r:Nat) (f':Dv),AH f (.int n)=some (.int r,f')/\(r:Int) < n/\Fd f':=by
 obtain ⟨a,b,rfl⟩:=hf;have i0:∀ x y:Dv,AA (.lst [x,y]) (.int 0)=some x:=fun _ _=>rfl
 have i1:∀ x y:Dv,AA (.lst [x,y]) (.int 1)=some y:=fun _ _=>rfl
 have s0:∀ x y d:Dv,Ay (.lst [x,y]) (.int 0) d=some (.lst [d,y]):=fun _ _ _=>rfl
 have s1:∀ x y d:Dv,Ay (.lst [x,y]) (.int 1) d=some (.lst [x,d]):=fun _ _ _=>rfl
 have m:∀ x:Int,∃ r:Nat,x % n=r/\(r:Int) < n:=fun x=>⟨(x % n).toNat,by have:=oy x (show n≠0 by omega);omega,by have:=oy x (show n≠0 by omega);have:=pC x h0;omega⟩
 have big1:big 48271=true:=by decide
 have big2:big 40692=true:=by decide
 have big3:big 2147483647=true:=by decide
 unfold AH;simp only [i0,dL,Bw]
 by_cases h:0 < a
 ·obtain ⟨r,e,hr⟩:=m a;refine ⟨r,.lst [.int (a / n),.int b],?_,hr,a / n,b,rfl⟩;simp only [h,decide_true,if_true,Cq,Kw,Cc,h0,h1,my,dL,i0,s0,e]
 ·simp only [h,decide_false,mI,if_false,i1,s1,EO,big1,big2,big3,pK,if_true,dL,Cq,Kw,Cc,Ai,h0,decide_true,show (0:Int) < 2147483647 by decide,show (0:Int) < 2147483399 by decide,show (0:Int) < 8191 by decide,show (8191:Int) < 1073741824 by decide,my];obtain ⟨r,e,hr⟩:=m (((b * 48271 % 2147483647) * 2147483647+((b * 48271 % 2147483647 * 40692+30103) % 2147483399+1)) / 8191);exact ⟨r,_,by rw [e],hr,_,_,rfl⟩
theorem Qw {ns:List Int} {k:Nat}:∃ f,HV (.scr ns) (.int k)=some f/\Fd f:=by
 have b1:big 7907=true:=by decide
 have b2:big 2147483629=true:=by decide
 have b3:big 31=true:=by decide
 have b4:big 48271=true:=by decide
 have b5:big 40692=true:=by decide
 have c1:∃ c:Int,HL (.scr ns) (.int k) (.int (7907 * k+13579))=some (.int c):=by
  unfold HL LR;simp only [Ad,dL,Bw]
  by_cases h:(k:Int) < ns.length
  ·simp only [h,decide_true,if_true,AA,atI_nat ns k (by omega),mj,dL];exact ⟨_,rfl⟩
  ·simp only [h,decide_false,mI,if_false]
   by_cases h2:0 < (ns.length:Int)
   ·have e:=oy (k:Int) (show (ns.length:Int)≠0 by omega);have e':=pC (k:Int) h2;obtain ⟨x,_,ex⟩:=Gj e e';simp only [h2,decide_true,if_true,Cq,Cc,dL,AA,ex,mj,EO,b1,b3,oR,pK,Ai,show (0:Int) < 2147483629 by decide];exact ⟨_,rfl⟩
   ·simp only [h2,decide_false,mI,if_false];exact ⟨_,rfl⟩
 obtain ⟨c,e⟩:=c1;have c2:∃ d:Int,HK (.int c)=some (.int d):=by
  unfold HK;simp only [eA,Cc,show (decide ((0:Int)<=18) && decide ((18:Int)<=1000000) && decide ((10:Int).natAbs < 2 ^ 64))=true by decide,if_true,dL,Bw];split<;>exact ⟨_,rfl⟩
 obtain ⟨d,e2⟩:=c2;unfold HV;simp only [EO,b1,b4,b5,oR,pK,if_true,dL,Ai,e,e2,Cq,Cc,show (0:Int) < 2147483629 by decide,show (0:Int) < 2147483646 by decide,decide_true];exact ⟨_,rfl,_,_,rfl⟩
noncomputable abbrev dz:List Nat:=[97,98,99,100,101,102,103,104,105,106,107,108,109,110,111,112,113,114,115,116,117,118,119,120,121,122]
theorem dw:∀ c∈dz,c < 128:=by decide
theorem cC {i:Int} (h0:0<=i) (h:i < 26):∃ c,AA (.str dz) (.int i)=some (.str [c])/\c < 128:=by
 obtain ⟨c,hc,e⟩:=iz (l:=dz) h0 (show i < ((26:Nat):Int) by omega) (by decide);exact ⟨c,e,dw c hc⟩
theorem Ju {c:Nat} (h:c < 128):Tx 1 (.str [c]):=⟨[c],rfl,by simp,fun d hd=>by rw [mY] at hd;subst hd;exact h⟩
theorem QI {f:Dv} (hf:Fd f) (xs:List Dv) (hl:xs.length<=1000):∃ z f',(∃ ds,Bi Dw xs f=some (ds,f')/\IG (.str []) (.lst ds)=some z)/\Tx xs.length z/\Fd f':=by
 obtain ⟨ds,f',e,hl2,hd,hf'⟩:=CF Dw Fd (fun d=>∃ c,d=.str [c]/\c < 128) xs f hf fun x _ c hc=>by
  obtain ⟨r,f',e,hr,hf'⟩:=AF hc (n:=26) (by decide) (by decide);obtain ⟨c,e2,hc⟩:=cC (i:=r) (by omega) hr;exact ⟨.str [c],f',by unfold Dw;simp only [e,e2,dL],⟨c,rfl,hc⟩,hf'⟩
 obtain ⟨z,e2,hz⟩:=Na hd (by omega);exact ⟨z,f',⟨ds,e,e2⟩,by rw [hl2] at hz;exact hz,hf'⟩
theorem lj {α:Type} (xs:List α) (r:Nat):(cutA xs none (some (r:Int))).length<=r:=by
 unfold cutA;rw [nr];unfold HT.sIx;simp only [];split<;>omega
theorem kO {α:Type} (xs:List α) (r:Nat) (h:Option Int):(cutA xs (some (r:Int)) h).length<=xs.length - r:=by
 unfold cutA;rw [nr,oo];have:HT.sIx xs.length 0 (some (r:Int))=min r xs.length:=by unfold HT.sIx;simp only [];split<;>omega
 omega
theorem lR {N:Nat} {l:List Nat} (hN:l.length<=1000000) (h:∀ c∈l,c < 128) {lo hi:Option Int} (hl:(cutA l lo hi).length<=N):∃ y,Kv (.str l) lo hi=some y/\Tx N y:=
 ⟨.str (Nv l lo hi),by simp only [Kv,if_pos hN],_,rfl,by rw [Hz];exact hl,fun c hc=>h c (EJ (by rw [<- Hz];exact hc))⟩
def Nm (p:List Nat) (c:Nat) (x:Dv):Prop:=∃ t,x=.str (p++c::t)
theorem Xf {i:Int} (h0:0<=i) (h:i < 26):AA (.str dz) (.int i)=some (.str [97+i.toNat]):=by
 obtain ⟨n,rfl⟩:∃ n:Nat,i=n:=⟨i.toNat,by omega⟩;have hn:n < 26:=by omega
 have e:∀ k < 26,dz[k]?=some (97+k):=by decide
 have:=atI_nat dz n hn;have e2:=e n hn;rw [lz hn] at e2;simp only [AA,if_pos (show dz.length<=1000000 by decide),this,Option.some.inj e2,mj,oD]
noncomputable def ch (r i:Nat):Nat:=97+(r+7 * i) % 26
theorem iU {r i j:Nat} (hi:i < 26) (hj:j < 26) (h:i≠j):ch r i≠ch r j:=by unfold ch;omega
theorem VA {l:List Nat} {r:Nat} (h:r<=l.length):Nv l none (some (r:Int))=l.take r:=by
 rw [Hz];unfold cutA;have a:HT.sIx l.length 0 none=0:=rfl;have b:HT.sIx l.length l.length (some (r:Int))=r:=by unfold HT.sIx;simp only [];split<;>omega
 rw [a,b];simp
theorem Vm {a b:List Nat} (h:a.length+b.length<=1000000):Ai (.str a) (.str b)=some (.str (a++b)):=by simp only [Ai,if_pos h]
theorem NV {l:List Nat} (h:Tx 4 (.str l)):∃ u,Fe (.str l)=some (.str (l++u))/\Tx 5 (.str (l++u)):=by
 obtain ⟨_,e0,h1,h2⟩:=id h;cases e0;unfold Fe;have e:=Re false l [[100,101,102],[108,101,116],[116,101,108,108],[108,111,111,112],[112,105,99,107],[99,97,108,108]];simp only [mJ,oP,mI,if_false] at e;simp only [e,dL];split
 ·obtain ⟨z,e1,hz⟩:=h.add (Ju (c:=113) (by decide)) (by decide);rw [Vm (by simp;omega)] at e1;cases e1;exact ⟨[113],by rw [Vm (by simp;omega)];rfl,hz⟩
 ·exact ⟨[],by rw [nO],by rw [nO];exact h.mono (by decide)⟩
theorem Hf {f:Dv} (hf:Fd f) {n:Nat} (h2:2<=n) (hn:n<=26):∃ ns f',Cb f (.int n)=some (.lst ns,f')/\ns.length=n/\(∀ x∈ns,Tx 5 x)/\ns.Pairwise (·≠·)/\Fd f':=by
 obtain ⟨r1,f1,e1,b1,hf1⟩:=AF hf (n:=4) (by decide) (by decide);have er:BS [.int r1]=some ((List.range (r1:Int).toNat).map fun k=>.int (k:Nat)):=EB (by omega) (by omega);obtain ⟨z,f2,⟨ds,e3,e4⟩,hz,hf2⟩:=QI hf1 ((List.range (r1:Int).toNat).map fun k=>.int (k:Nat)) (by simp;omega);have hz:Tx 3 z:=hz.mono (by simp;omega);obtain ⟨zl,rfl,hz1,hz2⟩:=hz;obtain ⟨r7,f7,e7,b7,hf7⟩:=AF hf2 (n:=26) (by decide) (by decide);have el:Ad (.str zl)=some (.int zl.length):=by simp only [Ad,if_pos (show zl.length<=1000000 by omega)]
 obtain ⟨r10,f10,e10,b10,hf10⟩:=AF hf7 (n:=(zl.length:Int)+1) (by omega) (by omega);obtain ⟨r11,f11,e11,b11,hf11⟩:=AF hf10 (n:=4) (by decide) (by decide);have en:BS [.int n]=some ((List.range (n:Int).toNat).map fun k=>.int (k:Nat)):=EB (by omega) (by omega);obtain ⟨c,e12,ns,rfl,hl,hns,hnm⟩:=FG (Fj (.str zl) (.int r7) (.int r10) (.int r11)) (fun i c=>∃ ns,c=.lst ns/\ns.length=i/\(∀ x∈ns,Tx 5 x)/\∀ j x,ns[j]?=some x->Nm (zl.take r10) (ch r7 j) x) ((List.range (n:Int).toNat).map fun k=>.int (k:Nat)) 0 (.lst []) ⟨[],rfl,rfl,(fun _ z=>(mz z).elim),fun j x h=>by simp at h⟩ fun i x hx c hc=>by
  obtain ⟨ns,rfl,hl,hns,hnm⟩:=hc;rw [mR] at hx;have hi:i < n:=by
   rcases nZ i n with h | h
   ·exact h
   ·rw [nE (by simp;omega)] at hx;cases hx
  rw [lz (by simp;omega)] at hx;simp only [mj,Option.some.injEq,oY] at hx;subst hx;have ec:=Xf (i:=((r7:Int)+7 * (i:Nat)) % 26) (oy _ (by decide)) (pC _ (by decide));have ecc:97+(((r7:Int)+7 * (i:Nat)) % 26).toNat=ch r7 i:=by unfold ch;omega
  rw [ecc] at ec;have hc:ch r7 i < 128:=by unfold ch;omega
  have r10l:r10<=zl.length:=by omega
  have ey1:Kv (.str zl) none (some (r10:Int))=some (.str (zl.take r10)):=by simp only [Kv,if_pos (show zl.length<=1000000 by omega),VA r10l]
  have hy1:Tx r10 (.str (zl.take r10)):=⟨_,rfl,by simp;omega,fun c hc=>hz2 c (List.mem_of_mem_take hc)⟩;have ey2:=Vm (a:=zl.take r10) (b:=[ch r7 i]) (by simp;omega);obtain ⟨y2',ey2',hy2⟩:=hy1.add (Ju hc) (by omega);rw [ey2] at ey2';cases ey2';obtain ⟨y3,ey3,hy3⟩:=lR (by omega) hz2 (kO zl r10 (some (((r11:Int)+(i:Nat)) % 4)));obtain ⟨t3,rfl,ht3,_⟩:=id hy3;have ey4:=Vm (a:=zl.take r10++[ch r7 i]) (b:=t3) (by simp;omega);obtain ⟨y4',ey4',hy4⟩:=hy2.add hy3 (by omega);rw [ey4] at ey4';cases ey4';obtain ⟨u,ey5,hy5⟩:=NV (hy4.mono (by omega));refine ⟨.lst (ns++[.str (zl.take r10++[ch r7 i]++t3++u)]),?_,ns++[.str (zl.take r10++[ch r7 i]++t3++u)],rfl,by rw [mV,hl];rfl,fun x hx=>?_,fun j x hx=>?_⟩
  ·have b7:big 7=true:=by decide
   unfold Fj;simp only [EO,b7,oR,if_true,dL,Cz,IF _ _ (show (0:Int) < 26 by decide),IF _ _ (show (0:Int) < 4 by decide),ec,dr,ey1,ey3];rw [ey2];simp only [dL];rw [ey4];simp only [dL,ey5,EN,Do (show ns.length<=1000000 by omega)]
  ·rcases mU.mp hx with hx | hx
   ·exact hns x hx
   ·rw [mY] at hx;subst hx;exact hy5
  ·rcases nZ j ns.length with w | w
   ·rw [mH w] at hx;exact hnm j x hx
   ·have hj:j=ns.length:=by have:=(mB.mp hx).1;simp at this;omega
    subst hj;rw [me (mF _),nP] at hx;cases hx;rw [hl,oG];exact ⟨t3++u,by simp⟩
 have hl:ns.length=n:=by rw [hl];simp
 have gh:∀ i j x y,i≠j->i < 26->j < 26->Nm (zl.take r10) (ch r7 i) x->Nm (zl.take r10) (ch r7 j) y->x≠y:=fun i j x y ne hi hj ⟨t,e⟩ ⟨t',e'⟩ q=>by
  rw [e,e',Dv.str.injEq] at q;have:=List.append_cancel_left q;exact iU hi hj ne (List.cons.inj this).1
 have nd:ns.Pairwise (·≠·):=oE.mpr fun i j hi hj lt=>gh i j _ _ (by omega) (by omega) (by omega) (hnm i _ (lz hi)) (hnm j _ (lz hj))
 have last:∃ ms f',Fc (.int n) f11 (.lst ns)=some (f',.lst ms)/\ms.length=n/\(∀ x∈ms,Tx 5 x)/\ms.Pairwise (·≠·)/\Fd f':=by
  have m2:∃ x∈ns,AA (.lst ns) (.int (-2))=some x/\ns[n - 2]?=some x:=by
   refine ⟨ns[n - 2]'(by omega),nu _,?_,lz (by omega)⟩;simp only [AA,ES,Nb];rw [if_neg (by omega),if_pos (by omega)];simp only [dL];rw [show (-2+(ns.length:Int)).toNat=n - 2 by omega];exact lz (by omega)
  obtain ⟨x,hx,ex,ex2⟩:=m2;obtain ⟨l,rfl,hl1,hl2⟩:=id (hns x hx);have t1:∃ (b:Bool) (f':Dv),FW (.int n) f11 (.lst ns)=some (b,f')/\(b=true->l.length<=3)/\Fd f':=by
   unfold FW Iw;simp only [Bw,show (1:Int) < n by omega,decide_true,if_true,dL,IY,ex,Ad,if_pos (show l.length<=1000000 by omega)];split
   ·rename_i hlt;obtain ⟨r,f',e,_,h⟩:=AF hf11 (n:=4) (by decide) (by decide);simp only [e,dL,BH];exact ⟨_,_,rfl,fun _=>by have:=of_decide_eq_true hlt;omega,h⟩
   ·exact ⟨_,_,rfl,(fun z=>by cases z),hf11⟩
  obtain ⟨b,f',et,hb3,hf'⟩:=t1;unfold Fc;simp only [et,dL];cases b
  ·exact ⟨ns,f',by simp,hl,hns,nd,hf'⟩
  ·have ey:=Vm (a:=l) (b:=[113]) (by have:=hb3 rfl;simp;omega);obtain ⟨y',ey',hy⟩:=Tx.add (N:=3) (M:=1) ⟨l,rfl,hb3 rfl,hl2⟩ (Ju (c:=113) (by decide)) (by decide);rw [ey] at ey';cases ey';simp only [if_true,IY,dL,ex,ey,Ay,Nb];rw [if_neg (by omega),if_pos (by omega)];refine ⟨_,f',rfl,by rw [ma];exact hl,fun x hx=>?_,?_,hf'⟩
   ·rcases pV hx with hx | rfl
    ·exact hns x hx
    ·exact hy.mono (by decide)
   ·have k1:(-1+(ns.length:Int)).toNat=n - 1:=by omega
    rw [k1];refine oE.mpr fun i j hi hj lt=>?_
    rw [ma] at hi hj;rw [List.getElem_set,List.getElem_set,if_neg (show ¬ n - 1=i by omega)];have hi':=hnm i _ (lz hi);split
    ·rename_i ej;obtain ⟨t,et⟩:=hnm (n - 2) _ ex2
     by_cases e2:i=n - 2
     ·subst e2;have:ns[n - 2]=.str l:=by rw [lz hi] at ex2;exact Option.some.inj ex2
      rw [this];intro q;have:=congrArg List.length (Dv.str.inj q);simp at this
     ·refine gh i (n - 2) _ _ e2 (by omega) (by omega) hi' ⟨t++[113],?_⟩;rw [Dv.str.inj et];simp
    ·exact gh i j _ _ (by omega) (by omega) (by omega) hi' (hnm j _ (lz hj))
 obtain ⟨ms,f',e13,hl3,hms,hnd,hf'⟩:=last;refine ⟨ms,f',?_,hl3,hms,hnd,hf'⟩;unfold Cb;simp only [gq,e1,er,dL];rw [AR (by simp;omega)];simp only [dL,e3,e4,e7,el,Cz,e10,e11,en];rw [e12];simp only [dL,e13]
def jA (n:Nat) (xs:List Dv):Prop:=∀ y∈xs,∃ r:Nat,y=.int r/\r < n
def Row (n:Nat) (x:Dv):Prop:=∃ xs,x=.tup xs/\xs.length=n/\jA n xs
def Tab (n:Nat) (r:Int) (x:Dv):Prop:=(r=1/\Row n x)\/(r=2/\∃ xs,x=.tup xs/\xs.length=n/\∀ y∈xs,Row n y)
def Ei (N:Nat) (x:Dv):Prop:=∃ a r,x=.tup [a,.int r]/\Tx N a/\(r=1\/r=2)
def Mj (n:Nat) (d t:Dv):Prop:=∃ a r,d=.tup [a,.int r]/\(r=1\/r=2)/\Tab n r t
noncomputable def Rp (d:Dv):Dv:=match d with | .tup (a::_)=>a | _=>.non
abbrev DP (ds:List Dv):Prop:=ds.Pairwise fun x y=>Rp x≠Rp y
theorem MW {γ:Type} (g:Dv->γ->Option (Dv×γ)) (P:γ->Prop) (R:Nat->Dv->Prop):∀ (xs:List Dv) (o:Nat) (c:γ),P c->(∀ i x,xs[i]?=some x->∀ c,P c->∃ d c',g x c=some (d,c')/\R (o+i) d/\P c')->∃ ds c',Bi g xs c=some (ds,c')/\ds.length=xs.length/\(∀ i d,ds[i]?=some d->R (o+i) d)/\P c'
 | [],o,c,hc,_=>⟨[],c,rfl,rfl,(fun i d h=>by simp at h),hc⟩
 | x::xs,o,c,hc,h=>by
  obtain ⟨d,c1,e1,r1,p1⟩:=h 0 x rfl c hc;obtain ⟨ds,c2,e2,l2,r2,p2⟩:=MW g P R xs (o+1) c1 p1 fun i y hy c hc=>by
   have:=h (i+1) y hy c hc;rw [show o+(i+1)=o+1+i by omega] at this;exact this
  refine ⟨d::ds,c2,by simp only [Bi,e1,e2,dL],by rw [mS,mS,l2],fun i y hy=>?_,p2⟩;cases i with
  | zero=>simp at hy;subst hy;exact r1
  | succ i=>have:=r2 i y (by simpa using hy);rw [show o+(i+1)=o+1+i by omega];exact this
theorem Mx {f:Dv} (hf:Fd f):∃ fs ds f',Eu f=some (.tup [.tup fs,.tup ds],f')/\fs.length<=4/\(∀ x∈fs,Tx 10 x)/\ds.length<=3/\(∀ x∈ds,Ei 5 x)/\DP ds/\Fd f':=by
 obtain ⟨ns,f1,e1,hl,hns,_,hf1⟩:=Hf hf (n:=4) (by decide) (by decide);obtain ⟨r2,f2,e2,b2,hf2⟩:=AF hf1 (n:=4) (by decide) (by decide);have h3:∀ x∈cutA ns none (some (r2:Int)),Tx 5 x:=fun x hx=>hns x (EJ hx)
 have l3:=Gi ns none (some (r2:Int));obtain ⟨ps,e4,l4,h4⟩:=Df Fh (Tx 10) (cutA ns none (some (r2:Int))) fun x hx=>by
  obtain ⟨y1,ey1,hy1⟩:=(h3 x hx).cut (by decide) none (some 1);obtain ⟨l1,rfl,_,_⟩:=id hy1;obtain ⟨y2,ey2,hy2⟩:=hy1.upper (by decide);obtain ⟨y3,ey3,hy3⟩:=(h3 x hx).cut (by decide) (some 1) none;obtain ⟨y4,ey4,hy4⟩:=hy2.add hy3 (by decide);exact ⟨y4,by unfold Fh;simp only [ey1,gq,ey2,ey3,ey4,dL],hy4⟩
 obtain ⟨ms,f10,e10,hl10,hms,hnd,hf10⟩:=Hf hf2 (n:=3) (by decide) (by decide);obtain ⟨r11,f11,e11,b11,hf11⟩:=AF hf10 (n:=8) (by decide) (by decide);have m:∀ x∈[(Dv.int 1),(Dv.int 2),(Dv.int 3),(Dv.int 2),(Dv.int 3),(Dv.int 1),(Dv.int 2),(Dv.int 0)],∃ k:Nat,x=.int k/\k<=3:=by
  intro x hx;simp only [mL,mz,or_false] at hx;rcases hx with rfl | rfl | rfl | rfl | rfl | rfl | rfl | rfl
  all_goals first | exact ⟨0,rfl,by decide⟩ | exact ⟨1,rfl,by decide⟩ | exact ⟨2,rfl,by decide⟩ | exact ⟨3,rfl,by decide⟩
 obtain ⟨x,hx,ex⟩:=Jl (xs:=[(Dv.int 1),(Dv.int 2),(Dv.int 3),(Dv.int 2),(Dv.int 3),(Dv.int 1),(Dv.int 2),(Dv.int 0)]) (i:=r11) (by omega) b11;obtain ⟨k,rfl,hk⟩:=m x hx;have er:BS [.int k]=some ((List.range (k:Int).toNat).map fun j=>.int (j:Nat)):=EB (by omega) (by omega);obtain ⟨qs,f16,e16,l6,h6,hf16⟩:=MW (Fg (.lst ms)) Fd (fun j d=>∃ a r,ms[j]?=some a/\d=.tup [a,.int r]/\Tx 5 a/\(r=1\/r=2)) ((List.range (k:Int).toNat).map fun j=>.int (j:Nat)) 0 f11 hf11 fun i x hx c hc=>by
  rw [mR] at hx;have hi:i < k:=by
   rcases nZ i k with h | h
   ·exact h
   ·rw [nE (by simp;omega)] at hx;cases hx
  rw [lz (by simp;omega)] at hx;simp only [mj,Option.some.injEq,oY] at hx;subst hx;have ea:AA (.lst ms) (.int (i:Nat))=some ms[i]:=atI_nat ms i (by omega);obtain ⟨r,f',e,b,hf'⟩:=AF hc (n:=2) (by decide) (by decide);exact ⟨.tup [ms[i],.int (1+r)],f',by unfold Fg;simp only [ea,e,dL,Cz],⟨ms[i],1+r,by rw [oG];exact lz (by omega),rfl,hms _ (nu _),by omega⟩,hf'⟩
 have h6':∀ x∈qs,Ei 5 x:=fun x hx=>by
  obtain ⟨i,hi⟩:=oz hx;obtain ⟨a,r,_,rfl,h⟩:=h6 i x hi;exact ⟨a,r,rfl,h⟩
 have h7:qs.Pairwise (fun x y=>Rp x≠Rp y):=oE.mpr fun i j hi hj lt=>by
  obtain ⟨a,r,ea,e,_⟩:=h6 i _ (lz hi);obtain ⟨b,q,eb,e',_⟩:=h6 j _ (lz hj);rw [e,e'];show a≠b;rw [oG] at ea eb;obtain ⟨h1,rfl⟩:=mB.mp ea;obtain ⟨h2,rfl⟩:=mB.mp eb;exact oE.mp hnd i j h1 h2 lt
 refine ⟨ps,qs,f16,?_,by omega,h4,by rw [l6];simp;omega,h6',h7,hf16⟩;have e1':Cb f (.int 4)=some (.lst ns,f1):=e1;have e10':Cb f2 (.int 3)=some (.lst ms,f10):=e10;unfold Eu;simp only [e1',e2,dL,dr,Kv,items];rw [AR (by omega),e4];simp only [dL,e10',e11];rw [ex];simp only [dL,er];rw [AR (by simp;omega),e16];rfl
theorem HX (g:Dv->Dv->Dv->Option (Dv×Dv)) (hg:∀ x2 it c,g x2 it c=(AH c x2).bind fun r=>some (r.1,r.2)) {n:Nat} (h0:0 < n) (h1:n<=1000) {f:Dv} (hf:Fd f) (xs:List Dv):∃ ts f',Bi (g (.int n)) xs f=some (ts,f')/\ts.length=xs.length/\jA n ts/\Fd f':=
 CF (g (.int n)) Fd (fun y=>∃ r:Nat,y=.int r/\r < n) xs f hf fun x hx c hc=>by
  obtain ⟨r,f',e,b,hf'⟩:=AF hc (n:=n) (by omega) (by omega);exact ⟨.int r,f',by rw [hg,e];rfl,⟨r,rfl,by omega⟩,hf'⟩
theorem JO (g:Dv->(Dv×Dv)->Option (Dv×Dv)) (P:Dv->Prop) (R:Dv->Dv->Prop):∀ (xs:List Dv) (f:Dv) (acc:List Dv),P f->acc.length+xs.length<=1000->(∀ x∈xs,∀ f acc,P f->acc.length<=1000->∃ f' t,g x (f,.lst acc)=some (f',.lst (acc++[t]))/\R x t/\P f')->∃ f' ts,Az g xs (f,.lst acc)=some (f',.lst (acc++ts))/\Paired R xs ts/\P f'
 | [],f,acc,hf,_,_=>⟨f,[],by simp only [Az,nO],.nil,hf⟩
 | x::xs,f,acc,hf,hl,h=>by
  rw [mS] at hl;obtain ⟨f1,t,e1,r1,h1⟩:=h x mC f acc hf (by omega);obtain ⟨f2,ts,e2,r2,h2⟩:=JO g P R xs f1 (acc++[t]) h1 (by rw [mV];simp;omega) fun y hy=>h y (mE _ hy)
  exact ⟨f2,t::ts,by simp only [Az,e1,dL,e2,nB,ox],.cons r1 r2,h2⟩
theorem Mk {f:Dv} (hf:Fd f) {fs ds:List Dv} {n:Nat} (h0:0 < n) (h1:n<=1000) (hfs:fs.length<=100) (hds:ds.length<=100) (hd:∀ x∈ds,∃ a r,x=.tup [a,.int r]/\(r=1\/r=2)):∃ ts tbs f',DE f (.tup [.tup fs,.tup ds]) (.int n)=some (.tup [.int n,.tup ts,.tup tbs],f')/\ts.length=fs.length/\jA n ts/\Paired (Mj n) ds tbs/\Fd f':=by
  obtain ⟨ts,f1,e1,l1,h1',hf1⟩:=HX JB (fun _ _ _=>rfl) h0 h1 hf fs;have er:BS [.int n]=some ((List.range (n:Int).toNat).map fun j=>.int (j:Nat)):=EB (by omega) (by omega);have lr:((List.range (n:Int).toNat).map fun j=>Dv.int (j:Nat)).length=n:=by simp
  obtain ⟨f2,tbs,e2,p2,hf2⟩:=JO (Dz (.int n)) Fd (Mj n) ds f1 [] hf1 (by simp;omega) fun x hx f acc hf hl=>by
    obtain ⟨a,r,rfl,hr⟩:=hd x hx;rcases hr with rfl | rfl
    · obtain ⟨ys,f',e,l,hy,hf'⟩:=HX JA (fun _ _ _=>rfl) h0 h1 hf ((List.range (n:Int).toNat).map fun j=>.int (j:Nat));refine ⟨f',.tup ys,?_,⟨a,1,rfl,.inl rfl,.inl ⟨rfl,ys,rfl,by rw [l,lr],hy⟩⟩,hf'⟩;unfold Dz FZ;simp only [Gu,dL,BH,decide_true,if_true,er,EN];rw [AR (by omega),e];simp only [dL,AI,Do (show acc.length<=1000000 by omega)]
    · obtain ⟨ys,f',e,l,hy,hf'⟩:=CF (Ff (.int n)) Fd (Row n) ((List.range (n:Int).toNat).map fun j=>.int (j:Nat)) f hf fun x hx c hc=>by
        obtain ⟨zs,f',e,l,hz,hf'⟩:=HX Iz (fun _ _ _=>rfl) h0 h1 hc ((List.range (n:Int).toNat).map fun j=>.int (j:Nat));refine ⟨.tup zs,f',?_,⟨zs,rfl,by rw [l,lr],hz⟩,hf'⟩;unfold Ff;simp only [dL,er];rw [AR (by omega),e];simp only [dL,AI]
      refine ⟨f',.tup ys,?_,⟨a,2,rfl,.inr rfl,.inr ⟨rfl,ys,rfl,by rw [l,lr],hy⟩⟩,hf'⟩;unfold Dz FZ;simp only [Gu,dL,BH,show decide ((2:Int)=1)=false by decide,mI,if_false,er,EN];rw [AR (by omega),e];simp only [dL,AI,Do (show acc.length<=1000000 by omega)]
  refine ⟨ts,tbs,f2,?_,l1,h1',p2,hf2⟩;have i0:AA (.tup [.tup fs,.tup ds]) (.int 0)=some (.tup fs):=rfl;have i1:AA (.tup [.tup fs,.tup ds]) (.int 1)=some (.tup ds):=rfl;unfold DE;simp only [i0,i1,dL,items];rw [AR (by omega),e1];simp only [dL,AI];rw [e2];rfl
noncomputable def nI (ts:List Nat):List Dv:=ts.map fun t=>Dv.int (t:Nat)
def tI (ts:List Nat):Dv:=.tup (nI ts)
theorem Ax (ts:List Nat):(nI ts).length=ts.length:=by simp [nI]
theorem KI (a b:List Nat):nI (a++b)=nI a++nI b:=by simp [nI]
theorem Ms (ts:List Nat):Ad (tI ts)=some (.int (ts.length:Nat)):=by show some (Dv.int ((nI ts).length:Nat))=_;rw [Ax]
theorem Gy {n:Nat}:∀ {xs:List Dv},jA n xs->∃ ts,xs=nI ts/\∀ t∈ts,t < n
 | [],_=>⟨[],rfl,fun _ h=>by cases h⟩
 | x::xs,h=>by
  obtain ⟨ts,e,ht⟩:=Gy (xs:=xs) fun y hy=>h y (mE _ hy)
  obtain ⟨r,rfl,hr⟩:=h x mC;refine ⟨r::ts,by rw [e];rfl,fun t h=>?_⟩;rcases mL.mp h with rfl | h
  ·exact hr
  ·exact ht t h
theorem bt {n:Nat} {ts:List Nat} (h:∀ t∈ts,t < n):jA n (nI ts):=fun y hy=>by
 obtain ⟨t,ht,rfl⟩:=mr.mp hy;exact ⟨t,rfl,h t ht⟩
theorem CV {ts:List Nat} {h:Nat} (hh:h < ts.length):AA (tI ts) (.int (h:Nat))=some (.int (ts.getD h 0:Nat)):=by
 show ES (nI ts) (h:Int)=_;rw [atI_nat _ _ (by rw [Ax];exact hh)];simp [nI,List.getD,hh]
theorem getD_mem {ts:List Nat} {h:Nat} (hh:h < ts.length):ts.getD h 0∈ts:=by
 simp [List.getD,hh]
def sub (x:Dv) (a:Nat):Dv:=(AA x (.int (a:Nat))).getD .non
def FR (x:Dv) (a:Nat):Nat:=match sub x a with | .int c=>c.toNat | _=>0
theorem BF {n:Nat} {x:Dv} {a:Nat} (h:Row n x) (ha:a < n):AA x (.int (a:Nat))=some (.int (FR x a:Nat))/\FR x a < n:=by
 obtain ⟨xs,rfl,hl,hx⟩:=h;obtain ⟨y,hy,e⟩:=Vt (xs:=xs) (i:=a) (by omega) (by omega);obtain ⟨c,rfl,hc⟩:=hx y hy;have:FR (.tup xs) a=c:=by unfold FR sub;rw [e];simp
 rw [this];exact ⟨e,hc⟩
def Rk (n:Nat) (x:Dv):Prop:=∃ xs,x=.tup xs/\xs.length=n/\∀ y∈xs,Row n y
theorem By {n:Nat} {x:Dv} {a:Nat} (h:Rk n x) (ha:a < n):AA x (.int (a:Nat))=some (sub x a)/\Row n (sub x a):=by
 obtain ⟨xs,rfl,hl,hx⟩:=h;obtain ⟨y,hy,e⟩:=Vt (xs:=xs) (i:=a) (by omega) (by omega);have:sub (.tup xs) a=y:=by unfold sub;rw [e];rfl
 rw [this];exact ⟨e,hx y hy⟩
theorem Tab.one {n:Nat} {x:Dv} (h:Tab n 1 x):Row n x:=by
 rcases h with ⟨_,h⟩ | ⟨h,_⟩
 ·exact h
 ·cases h
theorem Tab.two {n:Nat} {x:Dv} (h:Tab n 2 x):Rk n x:=by
 rcases h with ⟨h,_⟩ | ⟨_,h⟩
 ·cases h
 ·exact h
def Wl (n nf:Nat) (ds:List Dv) (w:Dv) (cs:List Nat) (tbs:List Dv):Prop:=w=.tup [.int (n:Nat),tI cs,.tup tbs]/\cs.length=nf/\(∀ c∈cs,c < n)/\Paired (Mj n) ds tbs
theorem Wl.w0 {n nf:Nat} {ds:List Dv} {w:Dv} {cs:List Nat} {tbs:List Dv} (h:Wl n nf ds w cs tbs):AA w (.int 0)=some (.int (n:Nat)):=by rw [h.1];rfl
theorem Wl.w1 {n nf:Nat} {ds:List Dv} {w:Dv} {cs:List Nat} {tbs:List Dv} (h:Wl n nf ds w cs tbs):AA w (.int 1)=some (tI cs):=by rw [h.1];rfl
theorem Wl.w2 {n nf:Nat} {ds:List Dv} {w:Dv} {cs:List Nat} {tbs:List Dv} (h:Wl n nf ds w cs tbs):AA w (.int 2)=some (.tup tbs):=by rw [h.1];rfl
theorem LC {n m:Nat} {z:Dv}:∀ {ds ts us:List Dv},Paired (Mj n) ds ts->Paired (Mj m) ds us->z∈zipD3 ds ts us->∃ a r t u,z=.tup [.tup [a,.int r],t,u]/\(r=1\/r=2)/\Tab n r t/\Tab m r u
 | _,_,_,.nil,_,h=>by simp [zipD3] at h
 | _,_,_,.cons q1 p1,.cons q2 p2,h=>by
  simp only [zipD3,mL] at h;rcases h with rfl | h
  ·obtain ⟨a,r,rfl,hr,ht⟩:=q1;obtain ⟨a',r',e,_,hu⟩:=q2;simp only [Dv.tup.injEq,List.cons.injEq,Dv.int.injEq,and_true] at e;obtain ⟨_,rfl⟩:=e;exact ⟨a,r,_,_,rfl,hr,ht,hu⟩
  ·exact LC p1 p2 h
theorem LD {z:Dv}:∀ {cs es:List Nat},z∈zipD2 (nI cs) (nI es)->∃ c e:Nat,z=.tup [.int c,.int e]/\c∈cs
 | [],es,h=>by simp [nI,zipD2] at h
 | c::cs,[],h=>by simp [nI,zipD2] at h
 | c::cs,e::es,h=>by
  simp only [nI,mJ,zipD2,mL] at h;rcases h with rfl | h
  ·exact ⟨c,e,rfl,mC⟩
  ·obtain ⟨c',e',q,hc⟩:=LD (cs:=cs) (es:=es) h;exact ⟨c',e',q,mE _ hc⟩
noncomputable def NP (ts:List Nat) (h v:Nat):Bool:=decide (ts.length<=h) || decide (ts.getD h 0=v)
def Cy (T U:Dv) (ts:List Nat):Bool:=(List.range ts.length).all fun k=>NP ts (FR T k) (FR U (ts.getD k 0))
def Dh (T U:Dv) (ts:List Nat):Bool:=(List.range ts.length).all fun k=>Cy (sub T k) (sub U (ts.getD k 0)) ts
def Hv (ts:List Nat) (z:Dv):Bool:=match z with | .tup [.int c,.int d]=>NP ts c.toNat d.toNat | _=>true
def Cw (ts:List Nat) (z:Dv):Bool:=match z with | .tup [.tup [_,.int r],T,U]=>if r=1 then Cy T U ts else Dh T U ts | _=>true
def la (cs es:List Nat) (ds T U:List Dv) (ts:List Nat):Bool:=(zipD2 (nI cs) (nI es)).all (Hv ts) && (zipD3 ds T U).all (Cw ts)
theorem PX (a b:Nat):decide ((a:Int)=(b:Int))=decide (a=b):=decide_eq_decide.mpr (by omega)
theorem XW (ts:List Nat) (h v:Nat):Cg (.int (h:Nat)) (.int (v:Nat)) (tI ts)=some (.bl (NP ts h v)):=by
 unfold Cg NP;simp only [Ms,dL,Bw,kZ]
 by_cases hh:ts.length<=h
 ·have:((ts.length:Nat):Int)<=(h:Int):=by omega
  simp only [this,hh,decide_true,if_true,oR]
 ·have:¬ ((ts.length:Nat):Int)<=(h:Int):=by omega
  simp only [this,hh,decide_false,mI,if_false,oS,CV (show h < ts.length by omega),dL,BH,PX]
theorem PV:∀ (ts:List Nat) (j:Nat),enumD j (nI ts)=(List.range ts.length).map fun k=>.tup [.int ((j+k:Nat)),.int (ts.getD k 0:Nat)]
 | [],j=>rfl
 | t::ts,j=>by
  have ih:=PV ts (j+1);simp only [nI,mJ,enumD,mS,oN,mJ,nS,Function.comp_def];simp only [nI] at ih;rw [ih];congr 1;refine nc fun k _=>?_
  rw [show j+1+k=j+(k+1) by omega];simp [List.getD]
theorem Vu {α:Type} (p:α->Bool):∀ (xs:List α),Kx (.lst (xs.map fun x=>.bl (p x)))=some (.bl (xs.all p)):=by
 intro xs;have:Pt (xs.map fun x=>.bl (p x))=some (xs.map p):=by
  induction xs with
  | nil=>rfl
  | cons x xs ih=>simp only [mJ,Pt,ih,mj]
 simp only [Kx,this,mj,List.all_map,Function.comp_def,id]
theorem KJ {α:Type} (g:Dv->Option Dv) (f:α->Dv) (p:α->Bool) (xs:List α) (h:∀ x∈xs,g (f x)=some (.bl (p x))):∃ ps,AW g (xs.map f)=some ps/\Kx (.lst ps)=some (.bl (xs.all p)):=by
 have:AW g (xs.map f)=some (xs.map fun x=>.bl (p x)):=by
  induction xs with
  | nil=>rfl
  | cons x xs ih=>simp only [mJ,AW,h x mC,ih fun y hy=>h y (mE _ hy),dL]
 exact ⟨_,this,Vu p xs⟩
theorem lW (m:Nat) (ts:List Nat) (h v:Nat):AL (m+1) (.int 0) (.int (h:Nat)) (.int (v:Nat)) (tI ts)=some (.bl (NP ts h v)):=by
 simp only [AL,BH,decide_true,dL,if_true,XW]
theorem Zl (ts:List Nat):Oj [tI ts]=some ((List.range ts.length).map fun k=>.tup [.int (k:Nat),.int (ts.getD k 0:Nat)]):=by
 show some (enumD 0 (nI ts))=_;rw [PV];simp only [oG]
theorem sub_int (i j:Int):Ku (.int i) (.int j)=some (.int (i - j)):=rfl
section
variable {n1 n2:Nat} {T U:Dv} {ts:List Nat}
theorem ko (m:Nat) (hT:Row n1 T) (hU:Row n2 U) (hl:ts.length<=n1) (hn:n1<=1000) (ht:∀ t∈ts,t < n2):AL (m+2) (.int 1) T U (tI ts)=some (.bl (Cy T U ts)):=by
 obtain ⟨ps,e,hp⟩:=KJ (BO (AL (m+1)) (.int 1) T U (tI ts)) (fun k:Nat=>.tup [.int (k:Nat),.int (ts.getD k 0:Nat)]) (fun k=>NP ts (FR T k) (FR U (ts.getD k 0))) (List.range ts.length) fun k hk=>by
  have hk:k < ts.length:=by simpa using hk
  have e1:=(BF hT (show k < n1 by omega)).1;have e2:=(BF hU (ht _ (getD_mem hk))).1;simp only [BO,Gu,Qb,cond_true,dL,sub_int,e1,e2,show ((1:Int) - 1)=0 by decide,lW]
 unfold AL;simp only [BH,show decide ((1:Int)=0)=false by decide,dL,mI,if_false,Zl];rw [AR (by simp;omega),e];simp only [dL,hp];rfl
theorem lV (m:Nat) (hT:Rk n1 T) (hU:Rk n2 U) (hl:ts.length<=n1) (hn:n1<=1000) (ht:∀ t∈ts,t < n2):AL (m+3) (.int 2) T U (tI ts)=some (.bl (Dh T U ts)):=by
 obtain ⟨ps,e,hp⟩:=KJ (BO (AL (m+2)) (.int 2) T U (tI ts)) (fun k:Nat=>.tup [.int (k:Nat),.int (ts.getD k 0:Nat)]) (fun k=>Cy (sub T k) (sub U (ts.getD k 0)) ts) (List.range ts.length) fun k hk=>by
  have hk:k < ts.length:=by simpa using hk
  obtain ⟨e1,r1⟩:=By hT (show k < n1 by omega);obtain ⟨e2,r2⟩:=By hU (ht _ (getD_mem hk));simp only [BO,Gu,Qb,cond_true,dL,sub_int,e1,e2,show ((2:Int) - 1)=1 by decide,ko m r1 r2 hl hn ht]
 unfold AL;simp only [BH,show decide ((2:Int)=0)=false by decide,dL,mI,if_false,Zl];rw [AR (by simp;omega),e];simp only [dL,hp];rfl
end
section
variable {n1 n2 nf:Nat} {ds:List Dv} {one oth fx:Dv} {cs es:List Nat} {T U:List Dv} {ts:List Nat}
theorem Hl (W1:Wl n1 nf ds one cs T) (W2:Wl n2 nf ds oth es U) (hl:ts.length<=n1) (hn:n1<=1000) (ht:∀ t∈ts,t < n2):BU (.tup [fx,.tup ds]) one oth (tI ts)=some (.bl (la cs es ds T U ts)):=by
 have j1:AA (.tup [fx,.tup ds]) (.int 1)=some (.tup ds):=rfl;have z2:JC [tI cs,tI es]=some (zipD2 (nI cs) (nI es)):=rfl;have z3:LS [.tup ds,.tup T,.tup U]=some (zipD3 ds T U):=rfl;have h1:=Hu (τ:=Dv) (ρ:=Unit) (Cm (tI ts)) (fun z=>!Hv ts z) (.bl false) () (zipD2 (nI cs) (nI es)) fun z hz=>by
  obtain ⟨c,e,rfl,hc⟩:=LD hz;have fz:Hv ts (.tup [.int (c:Nat),.int (e:Nat)])=NP ts c e:=by simp only [Hv,oD]
  have t1:Ce (tI ts) (.int (c:Nat)) (.int (e:Nat))=some (!Hv ts (.tup [.int (c:Nat),.int (e:Nat)])):=by
   rw [fz];unfold Ce NP;simp only [Ms,dL,Bw]
   by_cases hh:c < ts.length
   ·have:(c:Int) < ((ts.length:Nat):Int):=by omega
    have h2:¬ ts.length<=c:=by omega
    simp only [this,h2,decide_true,decide_false,if_true,oS,CV hh,dL,Kp,PX]
   ·have:¬ (c:Int) < ((ts.length:Nat):Int):=by omega
    have h2:ts.length<=c:=by omega
    simp only [this,h2,decide_true,decide_false,mI,if_false,oR,oM]
  simp only [Cm,Gu,dL,t1]
  by_cases hb:(!Hv ts (.tup [.int (c:Nat),.int (e:Nat)]))=true
  ·rw [if_pos hb,if_pos hb]
  ·rw [if_neg hb,if_neg hb]
 have h2:=Hu (τ:=Dv) (ρ:=Unit) (Ck (tI ts)) (fun z=>!Cw ts z) (.bl false) () (zipD3 ds T U) fun z hz=>by
  obtain ⟨a,r,t,u,rfl,hr,h1,h2⟩:=LC W1.2.2.2 W2.2.2.2 hz;have i1:AA (.tup [a,.int r]) (.int 1)=some (.int r):=rfl;have t1:AL 200 (.int r) t u (tI ts)=some (.bl (Cw ts (.tup [.tup [a,.int r],t,u]))):=by
   rcases hr with rfl | rfl
   ·simp only [Cw,if_true];exact ko 198 h1.one h2.one hl hn ht
   ·simp only [Cw,show ¬ ((2:Int)=1) by decide,if_false];exact lV 197 h1.two h2.two hl hn ht
  simp only [Ck,jS,dL,i1,t1,Qb,cond_true,Jo]
  by_cases hb:(!Cw ts (.tup [.tup [a,.int r],t,u]))=true
  ·rw [if_pos hb,if_pos hb]
  ·rw [if_neg hb,if_neg hb]
 unfold BU la;simp only [W1.w1,W2.w1,W1.w2,W2.w2,j1,z2,z3,dL];rw [h1,<- pb];cases (zipD2 (nI cs) (nI es)).all (Hv ts)
 ·rfl
 ·simp only [oM,mI,if_false,dL,Rs.el];rw [h2,<- pb];cases (zipD3 ds T U).all (Cw ts)<;>rfl
theorem UA {ts:List Nat} {t h v:Nat} (x:NP (ts++[t]) h v=true):NP ts h v=true:=by
 unfold NP at x ⊢
 by_cases hh:ts.length<=h
 ·simp only [hh,decide_true,oR]
 ·have h2:¬ (ts++[t]).length<=h:=by rw [mV];simp;omega
  have e:(ts++[t]).getD h 0=ts.getD h 0:=by simp [List.getD,mH (show h < ts.length by omega)]
  simp only [h2,decide_false,oS,e] at x;simp only [x,pK]
theorem MB {T U:Dv} {ts:List Nat} {t:Nat} (f:List Nat) (hf:f=ts++[t]) (x:(List.range f.length).all (fun k=>NP f (FR T k) (FR U (f.getD k 0)))=true):Cy T U ts=true:=by
 subst hf;unfold Cy;rw [mW] at x ⊢;intro k hk;have hk:k < ts.length:=by simpa using hk
 have:=UA (x k (by simp;omega));have e:(ts++[t]).getD k 0=ts.getD k 0:=by simp [List.getD,mH hk]
 rw [e] at this;exact this
theorem gi {t:Nat} (x:la cs es ds T U (ts++[t])=true):la cs es ds T U ts=true:=by
 unfold la at x ⊢;rw [ly,mW,mW] at x ⊢;refine ⟨fun z hz=>?_,fun z hz=>?_⟩
 ·have:=x.1 z hz;unfold Hv at this ⊢;split at this
  ·exact UA this
  ·rfl
 ·have:=x.2 z hz;unfold Cw at this ⊢;split at this
  ·split at this
   ·rename_i hr;rw [if_pos hr];exact MB _ rfl this
   ·rename_i hr;rw [if_neg hr];unfold Dh at this ⊢;rw [mW] at this ⊢;intro k hk;have hk:k < ts.length:=by simpa using hk
    have y:=this k (by simp;omega);have e:(ts++[t]).getD k 0=ts.getD k 0:=by simp [List.getD,mH hk]
    rw [e] at y;exact MB _ rfl y
  ·rfl
end
theorem Hj {α:Type} (g:Dv->Option Dv) (f h:α->Dv):∀ (xs:List α),(∀ x∈xs,g (f x)=some (h x))->AW g (xs.map f)=some (xs.map h)
 | [],_=>rfl
 | x::xs,e=>by simp only [mJ,AW,e x mC,Hj g f h xs fun y hy=>e y (mE _ hy),dL]
theorem Ej:∀ ts:List Nat,AX (nI ts)=true
 | []=>rfl
 | t::ts=>by have:=Ej ts;simp only [nI] at this;simp only [nI,mJ,AX,Dv.cmp,this,my]
theorem Gr:∀ ts:List Nat,Aj (nI ts)=0
 | []=>rfl
 | t::ts=>by have:=Gr ts;simp only [nI] at this;simp only [nI,mJ,Aj,Dv.dep,this];rfl
theorem PU:∀ a b:List Nat,R.eqVs (nI a) (nI b)=decide (a=b)
 | [],[]=>rfl
 | [],b::bs=>rfl
 | a::as,[]=>rfl
 | a::as,b::bs=>by
  have:=PU as bs;simp only [nI] at this;simp only [nI,mJ,R.eqVs,R.eqV,this,List.cons.injEq]
  by_cases e:a=b
  ·subst e;simp
  ·have:((a:Int) == (b:Int))=false:=beq_eq_false_iff_ne.mpr (by omega);simp [e,this]
section
variable {n1 n2 nf:Nat} {ds:List Dv} {one oth fx:Dv} {cs es:List Nat} {T U:List Dv} {ts:List Nat}
theorem NO {ts:List Nat} {h v:Nat} (hh:h < ts.length):NP ts h v=decide (ts.getD h 0=v):=by
 have:¬ ts.length<=h:=by omega
 simp only [NP,this,decide_false,oS]
theorem EI {ts:List Nat}:∀ {cs es:List Nat},cs.length=es.length->(∀ c∈cs,c < ts.length)->decide (cs.map (fun c=>ts.getD c 0)=es)=(zipD2 (nI cs) (nI es)).all (Hv ts)
 | [],[],_,_=>rfl
 | [],_::_,h,_=>by simp at h
 | _::_,[],h,_=>by simp at h
 | c::cs,e::es,hl,hc=>by
  have ih:=EI (ts:=ts) (cs:=cs) (es:=es) (by simpa using hl) fun x hx=>hc x (mE _ hx)
  simp only [nI] at ih;simp only [nI,mJ,zipD2,nC,<- ih,Hv,oD,NO (hc c mC),List.cons.injEq]
  by_cases h:ts.getD c 0=e<;>simp []
end
noncomputable def ext (L:List (List Nat)) (n:Nat):List (List Nat):=L.flatMap fun r=>(List.range n).map fun t=>r++[t]
def rows (n:Nat):Nat->List (List Nat)
 | 0=>[[]]
 | k+1=>ext (rows n k) n
theorem Gh (n:Nat):∀ L:List (List Nat),(ext L n).length=L.length * n
 | []=>by simp [ext]
 | x::L=>by have:=Gh n L;unfold ext at this ⊢;rw [nX,mV,this,mS,Nat.add_mul];simp;omega
theorem LW (n:Nat):∀ k,(rows n k).length=n ^ k
 | 0=>rfl
 | k+1=>by unfold rows;rw [Gh,LW n k,Nat.pow_succ]
theorem HW {n k:Nat} (hn:n<=4) (hk:k<=4):(rows n k).length<=256:=by
 rw [LW];exact mQ (Nat.pow_le_pow_left hn k) (mQ (Nat.pow_le_pow_right (by decide) hk) (by decide))
theorem Dd {n:Nat}:∀ {k:Nat} {r:List Nat},r∈rows n k->r.length=k/\∀ t∈r,t < n
 | 0,r,h=>by
  have:r=[]:=by simpa [rows] using h
  subst this;exact ⟨rfl,fun _ z=>by cases z⟩
 | k+1,r,h=>by
  unfold rows ext at h;obtain ⟨x,hx,h⟩:=om.mp h;obtain ⟨t,ht,rfl⟩:=mr.mp h;obtain ⟨a,b⟩:=Dd hx;refine ⟨by simp [a],fun y hy=>?_⟩;rcases mU.mp hy with hy | hy
  ·exact b y hy
  ·rw [mY] at hy;subst hy;simpa using ht
theorem Hw {n:Nat} (q:List Nat->Bool) (hq:∀ r t,q (r++[t])=true->q r=true):∀ L:List (List Nat),(ext (L.filter q) n).filter q=(ext L n).filter q
 | []=>rfl
 | x::L=>by
  have ih:=Hw (n:=n) q hq L;unfold ext at ih ⊢;cases h:q x with
  | true=>rw [oi h,nX,nX,nT,nT,ih]
  | false =>
   rw [pj (by simp [h]),nX,nT,ih];have:((List.range n).map fun t=>x++[t]).filter q=[]:=by
    rw [List.filter_eq_nil_iff];intro y hy hq';obtain ⟨t,_,rfl⟩:=mr.mp hy;rw [hq x t hq'] at h;cases h
   rw [this,pR]
theorem JP {α:Type} (g:Dv->Dv->Option Dv) (f:α->Dv) (h:α->List Dv) (B:Nat):∀ (xs:List α) (acc:List Dv),(∀ x∈xs,∀ acc,acc.length+(h x).length<=B->g (f x) (.lst acc)=some (.lst (acc++h x)))->acc.length+(xs.flatMap h).length<=B->Az g (xs.map f) (.lst acc)=some (.lst (acc++xs.flatMap h))
 | [],acc,_,_=>by simp [Az]
 | x::xs,acc,hg,hl=>by
  rw [nX,mV] at hl;simp only [mJ,Az,hg x mC acc (by omega),dL];rw [JP g f h B xs (acc++h x) (fun y hy=>hg y (mE _ hy)) (by rw [mV];omega),nX,nB]
theorem iw {r:List Nat} {t:Nat} (h:r.length<=1000):Ai (tI r) (.tup [.int (t:Nat)])=some (tI (r++[t])):=by
 unfold tI;rw [KI];simp only [Ai,Ax];rw [if_pos (by simp;omega)];rfl
theorem MA {L:List (List Nat)} {n:Nat} (hn:n<=1000) (hr:∀ r∈L,r.length<=1000) (hl:L.length * n<=1000000):BZ (.lst (L.map tI)) (.int (n:Nat))=some (.lst ((ext L n).map tI)):=by
 have e:L.flatMap (fun r=>(List.range n).map fun t=>tI (r++[t]))=(ext L n).map tI:=by simp only [ext,List.map_flatMap,nS,Function.comp_def]
 have:=JP (CL (.int (n:Nat))) tI (fun r=>(List.range n).map fun t=>tI (r++[t])) 1000000 L [] (fun r hr' acc hb=>by
  have m:=Hj (CK (tI r)) (fun t:Nat=>Dv.int (t:Nat)) (fun t=>tI (r++[t])) (List.range n) fun t _=>by
   simp only [CK,iw (hr r hr'),dL]
  simp only [mX,oO] at hb;unfold CL;rw [EN,Jx n (by omega)];simp only [dL];rw [AR (by simp;omega),m];simp only [dL,ZZ (show acc.length+((List.range n).map fun t=>tI (r++[t])).length<=1000000 by simp;omega)]) (by rw [e,mX,Gh];simpa using hl)
 unfold BZ;simp only [items,dL];rw [this,e];rfl
theorem MF {P:Nat->Dv->Prop} (g:Dv->Dv->Option Dv) (n:Nat) (c:Dv) (h0:P 0 c) (h:∀ i < n,∀ c,P i c->∃ c',g (.int (i:Nat)) c=some c'/\P (i+1) c'):∃ c',Az g ((List.range n).map fun k=>.int (k:Nat)) c=some c'/\P n c':=by
 obtain ⟨c',e,p⟩:=FG g P ((List.range n).map fun k=>.int (k:Nat)) 0 c h0 fun i x hx c hc=>by
  rw [mR] at hx;have hi:i < n:=by
   rcases nZ i n with h | h
   ·exact h
   ·rw [nE (by simp;omega)] at hx;cases hx
  rw [lz (by simp;omega)] at hx;simp only [mj,Option.some.injEq,oY] at hx;subst hx;rw [oG] at hc ⊢;exact h i hi c hc
 exact ⟨c',e,by simpa using p⟩
theorem GP {α:Type} (g:Dv->Option (Option Dv)) (f:α->Dv) (q:α->Bool):∀ (xs:List α),(∀ x∈xs,g (f x)=some (if q x=true then some (f x) else none))->Qh g (xs.map f)=some ((xs.filter q).map f)
 | [],_=>rfl
 | x::xs,h=>by
  have ih:=GP g f q xs fun y hy=>h y (mE _ hy)
  simp only [mJ,Qh,h x mC,ih,dL];cases e:q x with
  | true=>rw [oi e];rfl
  | false=>rw [pj (by simp [e])];rfl
section
variable {n1 n2 nf:Nat} {ds:List Dv} {one oth fx:Dv} {cs es:List Nat} {T U:List Dv}
theorem cE:la cs es ds T U []=true:=by
 unfold la;rw [ly,mW,mW];refine ⟨fun z _=>?_,fun z _=>?_⟩
 ·unfold Hv;split
  ·simp [NP]
  ·rfl
 ·unfold Cw;split
  ·split<;>rfl
  ·rfl
theorem Hi (W1:Wl n1 nf ds one cs T) (W2:Wl n2 nf ds oth es U) (h1:n1<=4) (h2:n2<=4):Fm (.tup [fx,.tup ds]) one oth=some (.lst (((rows n2 n1).filter (la cs es ds T U)).map tI)):=by
 obtain ⟨c,e,rfl⟩:=MF (P:=fun i c=>c=.lst (((rows n2 i).filter (la cs es ds T U)).map tI)) (HS (.tup [fx,.tup ds]) one oth) n1 (.lst [.tup []]) (by simp only [rows];rw [oi cE];rfl) fun i hi c hc=>by
  subst hc;have hf:=HW h2 (show i<=4 by omega);have hfl:((rows n2 i).filter (la cs es ds T U)).length<=256:=mQ (oQ _ _) hf;have hl:((rows n2 i).filter (la cs es ds T U)).length * n2<=1000000:=mQ (Nat.mul_le_mul hfl h2) (by decide);refine ⟨_,?_,rfl⟩;have rm:∀ r∈ext ((rows n2 i).filter (la cs es ds T U)) n2,r.length=i+1/\∀ t∈r,t < n2:=fun r hr=>by
   have:r∈rows n2 (i+1):=by
    unfold rows ext;unfold ext at hr;obtain ⟨x,hx,h⟩:=om.mp hr;exact om.mpr ⟨x,(nL.mp hx).1,h⟩
   exact Dd this
  have m:=GP (HQ (.tup [fx,.tup ds]) one oth) tI (la cs es ds T U) (ext ((rows n2 i).filter (la cs es ds T U)) n2) fun r hr=>by
   obtain ⟨a,b⟩:=rm r hr;unfold HQ;rw [Hl (fx:=fx) W1 W2 (show r.length<=n1 by omega) (by omega) b];simp only [dL,Qb,cond_true,Jo];split<;>rfl
  unfold HS;rw [W2.w0];simp only [dL];rw [MA (by omega) (fun r hr=>by have:=(Dd (nL.mp hr).1).1;omega) hl];simp only [dL,items];rw [AR (by rw [mX,Gh];exact hl),m,Hw (la cs es ds T U) (fun r t h=>gi h)];rfl
 unfold Fm;rw [W1.w0];simp only [dL];rw [Jx n1 (by omega)];simp only [dL];rw [e];rfl
end
theorem LI {γ:Type} (t:γ->Option Bool) (g:γ->Option γ) (P:Nat->γ->Prop) (h0:∀ c,P 0 c->t c=some false) (hs:∀ m c,P (m+1) c->t c=some true/\∃ c',g c=some c'/\P m c'):∀ (m n:Nat) (c:γ),m < n->P m c->∃ c',OX t g n c=some c'/\P 0 c'
 | m,0,c,h,_=>by omega
 | 0,n+1,c,_,p=>⟨c,by simp only [OX,h0 c p,dL,mI,if_false],p⟩
 | m+1,n+1,c,h,p=>by
  obtain ⟨e1,c1,e2,p1⟩:=hs m c p;obtain ⟨c2,e3,p2⟩:=LI t g P h0 hs m n c1 (by omega) p1;exact ⟨c2,by simp only [OX,e1,dL,if_true,e2,e3],p2⟩
theorem Td {ts:List Nat} {r:Nat} (h:r < ts.length) (hl:ts.length<=1000):Ef (.lst (nI ts)) [.int (r:Nat)]=some (.int (ts.getD r 0:Nat),.lst (nI (ts.eraseIdx r))):=by
 have s:seqIndex? (r:Int) (nI ts).length=some r:=by
  unfold seqIndex?;rw [Ax];have h1:¬ (r:Int) < 0:=by omega
  have h2:(0:Int)<=(r:Int):=by omega
  have h3:(r:Int) < (ts.length:Int):=by omega
  simp only [h1,if_false,h2,h3,decide_true,my,if_true,oD]
 have g:(nI ts)[r]?=some (.int (ts.getD r 0:Nat)):=by simp [nI,List.getD,h]
 have e:(nI ts).eraseIdx r=nI (ts.eraseIdx r):=by simp only [nI,List.eraseIdx_eq_take_drop_succ,pS,pd,pe]
 simp only [Ef];rw [if_pos (show R.small (r:Int)=true by unfold R.small;simp;omega),s];simp only [dL,g,mj,e]
theorem Us {ts:List Nat} {r x:Nat} (hr:r < ts.length) (h:x∈ts):x∈ts.eraseIdx r\/x=ts.getD r 0:=by
 obtain ⟨i,hi,rfl⟩:=List.mem_iff_getElem.mp h
 by_cases e:i=r
 ·subst e;right;simp [List.getD,hi]
 ·left;rw [List.mem_eraseIdx_iff_getElem];exact ⟨i,hi,e,rfl⟩
def jO (n:Nat) (ts:List Nat):Prop:=ts.length=n/\(∀ t∈ts,t < n)/\∀ t < n,t∈ts
theorem WZ {x0 x1 t1 t9:Dv} {c8:Dv×Dv×Dv} (h1:CU [x1]=some t1) (h2:OX Ak Al 1000000 (x0,t1,.lst [])=some c8) (h3:AI c8.2.2=some t9):Bl x0 x1=some (t9,c8.1):=by
 unfold Bl;simp only [h1,h2,h3,dL]
theorem UN (ts:List Nat):Ad (.lst (nI ts))=some (.int (ts.length:Nat)):=by show some (Dv.int ((nI ts).length:Nat))=_;rw [Ax]
theorem Sr (f:Dv) (left found:List Nat):Ak (f,.lst (nI left),.lst (nI found))=some (decide (0 < left.length)):=by
 unfold Ak;simp only [UN,dL,Bw];congr 1;exact decide_eq_decide.mpr (by omega)
theorem Sv {c1 t2 r f' y l' l2 u:Dv} {x2 x3:List Dv} (h2:Ad (.lst x2)=some t2) (h3:AH c1 t2=some (r,f')) (h4:Ef (.lst x2) [r]=some (y,l')) (h5:AV (.lst x3) [y]=some (u,l2)):Al (c1,.lst x2,.lst x3)=some (f',l',l2):=by
 unfold Al;simp only [EN,h2,h3,h4,h5,dL]
theorem aS {f:Dv} (hf:Fd f) {left found:List Nat} (h0:0 < left.length) (hl:left.length<=1000) (hl2:found.length<=1000):∃ (r:Nat) (f':Dv),Al (f,.lst (nI left),.lst (nI found))=some (f',.lst (nI (left.eraseIdx r)),.lst (nI (found++[left.getD r 0])))/\r < left.length/\Fd f':=by
 obtain ⟨r,f',e,b,hf'⟩:=AF hf (n:=((left.length:Nat):Int)) (by omega) (by omega);have hr:r < left.length:=by omega
 refine ⟨r,f',?_,hr,hf'⟩;have e2:AV (.lst (nI found)) [.int (left.getD r 0:Nat)]=some (.non,.lst (nI (found++[left.getD r 0]))):=by
  rw [Do (by rw [Ax];omega),KI];rfl
 exact Sv (UN left) e (Td hr hl) e2
def jB (n m:Nat) (c:Dv×Dv×Dv):Prop:=∃ f left found,c=(f,.lst (nI left),.lst (nI found))/\Fd f/\left.length=m/\found.length+m=n/\(∀ t < n,t∈left\/t∈found)/\(∀ t∈left,t < n)/\∀ t∈found,t < n
theorem WY {n m:Nat} (hn:n<=1000) {c:Dv×Dv×Dv} (h:jB n (m+1) c):Ak c=some true/\∃ c',Al c=some c'/\jB n m c':=by
 obtain ⟨f,left,found,rfl,hf,hl,h1,h2,h3,h4⟩:=h;refine ⟨by rw [Sr,decide_eq_true (by omega)],?_⟩;obtain ⟨r,f',e,hr,hf'⟩:=aS hf (left:=left) (found:=found) (by omega) (by omega) (by omega);refine ⟨_,e,f',left.eraseIdx r,found++[left.getD r 0],rfl,hf',by rw [List.length_eraseIdx_of_lt hr];omega,by simp;omega,fun t ht=>?_,fun t ht=>h3 t (List.mem_of_mem_eraseIdx ht),fun t ht=>?_⟩
 ·rcases h2 t ht with h | h
  ·rcases Us hr h with h | h
   ·exact .inl h
   ·exact .inr (by rw [h];simp)
  ·exact .inr (mN _ h)
 ·rcases mU.mp ht with h | h
  ·exact h4 t h
  ·rw [mY] at h;rw [h];exact h3 _ (getD_mem hr)
theorem Su {n:Nat} {c:Dv×Dv×Dv} (h:jB n 0 c):Ak c=some false:=by
 obtain ⟨f,left,found,rfl,hf,hl,h1⟩:=h;rw [Sr,decide_eq_false (by omega)]
theorem WX {n N:Nat} (hn:n<=1000) (hN:n < N) {f:Dv} (hf:Fd f):∃ c',OX Ak Al N (f,.lst (nI (List.range n)),.lst [])=some c'/\jB n 0 c':=
 LI Ak Al (jB n) (fun _ h=>Su h) (fun _ _ h=>WY hn h) n N _ hN ⟨f,List.range n,[],rfl,hf,by simp,by simp,fun t ht=>.inl (by simpa using ht),fun t ht=>by simpa using ht,fun t h=>by cases h⟩
theorem UL (n:Nat) (hn:n<=1000):CU [.int (n:Nat)]=some (.lst (nI (List.range n))):=by
 have sm:R.small (n:Int)=true:=by unfold R.small;simp;omega
 simp only [CU];rw [if_pos ⟨sm,by omega⟩];simp [nI]
theorem IQ {f:Dv} (hf:Fd f) {n:Nat} (hn:n<=1000):∃ ts f',Bl f (.int (n:Nat))=some (tI ts,f')/\jO n ts/\Fd f':=by
 obtain ⟨c,e,f',left,found,rfl,hf',hl,h1,h2,h3,h4⟩:=WX (N:=1000000) hn (oX hn (by decide)) hf;have hl':left=[]:=mq hl;subst hl';have r1:=UL n hn;exact ⟨found,f',WZ r1 e rfl,⟨by omega,h4,fun t ht=>(h2 t ht).resolve_left (by simp)⟩,hf'⟩
theorem Mr {ts:List Nat} {h:Nat} (hh:h < ts.length):AA (.lst (nI ts)) (.int (h:Nat))=some (.int (ts.getD h 0:Nat)):=CV hh
theorem UR {t:Nat}:∀ {ts:List Nat},t∈ts->∃ j,FE (.int (t:Nat)) (nI ts)=some j/\j < ts.length
 | [],h=>by cases h
 | x::xs,h=>by
  simp only [nI,mJ,FE,R.eqV]
  by_cases e:x=t
  ·subst e;exact ⟨0,by simp,by simp⟩
  ·obtain ⟨j,q,hj⟩:=UR (ts:=xs) ((mL.mp h).resolve_left fun z=>e z.symm);have:((x:Int) == (t:Int))=false:=beq_eq_false_iff_ne.mpr (by omega);simp only [nI] at q;exact ⟨j+1,by simp only [this,mI,if_false,q,mj],by simp;omega⟩
theorem ai {n:Nat} (g:Dv->Option Dv) (hn:n<=1000) (h:∀ k < n,∃ r:Nat,g (.int (k:Nat))=some (.int (r:Nat))/\r < n):∃ ts:List Nat,AW g ((List.range n).map fun k=>.int (k:Nat))=some (nI ts)/\ts.length=n/\∀ t∈ts,t < n:=by
 obtain ⟨xs,e,hl,hx⟩:=Df g (fun d=>∃ r:Nat,d=.int r/\r < n) ((List.range n).map fun k=>.int (k:Nat)) fun x hx=>by
  obtain ⟨k,hk,rfl⟩:=mr.mp hx;obtain ⟨r,e,hr⟩:=h k (by simpa using hk);exact ⟨_,e,r,rfl,hr⟩
 obtain ⟨ts,rfl,ht⟩:=Gy hx;rw [Ax] at hl;exact ⟨ts,e,by simpa using hl,ht⟩
theorem UJ {n:Nat} {ts:List Nat} (hl:ts.length=n) (h:∀ t∈ts,t < n):Row n (tI ts):=⟨nI ts,rfl,by rw [Ax];exact hl,bt h⟩
theorem Wh {n:Nat} {ts sp:List Nat} {a t:Dv} {r:Int} (hn:n<=1000) (p:jO n ts) (hs:sp.length=n) (hs2:∀ t∈sp,t < n) (hr:r=1\/r=2) (ht:Tab n r t) (acc:List Dv) (hacc:acc.length<=1000) :
    ∃ u,Bu (tI ts) (.int (n:Nat)) (nI sp) (.tup [.tup [a,.int r],t]) (.lst acc)=some (.lst (acc++[u]))/\Mj n (.tup [a,.int r]) u:=by
  have i1:AA (.tup [a,.int r]) (.int 1)=some (.int r):=rfl;have rg:=Jx n (by omega);have spa:∀ k < n,sp.getD k 0 < n:=fun k hk=>hs2 _ (getD_mem (by omega))
  rcases hr with rfl | rfl
  · obtain ⟨xs,e,hl,hx⟩:=ai (DY (tI ts) (nI sp) t) hn fun k hk=>by
      obtain ⟨e1,b1⟩:=BF ht.one (spa k hk);refine ⟨_,?_,p.2.1 _ (getD_mem (show FR t (sp.getD k 0) < ts.length by rw [p.1];exact b1))⟩;simp only [DY,Mr (show k < sp.length by omega),e1,CV (show FR t (sp.getD k 0) < ts.length by rw [p.1];exact b1),dL]
    refine ⟨tI xs,?_,a,1,rfl,.inl rfl,.inl ⟨rfl,UJ hl hx⟩⟩;unfold Bu DU;simp only [Gu,dL,i1,BH,decide_true,if_true,rg,EN];rw [AR (by simp;omega)];simp only [e,AI,dL,Do (show acc.length<=1000000 by omega)];rfl
  · have inner:∀ a' < n,∃ u,CY (tI ts) (.int (n:Nat)) (nI sp) t (.int (a':Nat))=some u/\Row n u:=fun a' ha=>by
      obtain ⟨e1,r1⟩:=By ht.two (spa a' ha);obtain ⟨xs,e,hl,hx⟩:=ai (DX (tI ts) (nI sp) t (.int (a':Nat))) hn fun k hk=>by
        obtain ⟨e2,b2⟩:=BF r1 (spa k hk);refine ⟨_,?_,p.2.1 _ (getD_mem (show FR (sub t (sp.getD a' 0)) (sp.getD k 0) < ts.length by rw [p.1];exact b2))⟩;simp only [DX,Mr (show a' < sp.length by omega),Mr (show k < sp.length by omega),e1,e2,CV (show FR (sub t (sp.getD a' 0)) (sp.getD k 0) < ts.length by rw [p.1];exact b2),dL]
      refine ⟨tI xs,?_,UJ hl hx⟩;unfold CY;simp only [rg,dL];rw [AR (by simp;omega)];simp only [e,AI,dL];rfl
    obtain ⟨us,e,hl,hu⟩:=Df (CY (tI ts) (.int (n:Nat)) (nI sp) t) (Row n) ((List.range n).map fun k=>.int (k:Nat)) fun x hx=>by
      obtain ⟨k,hk,rfl⟩:=mr.mp hx;exact inner k (by simpa using hk)
    refine ⟨.tup us,?_,a,2,rfl,.inr rfl,.inr ⟨rfl,us,rfl,by simpa using hl,hu⟩⟩;unfold Bu DU;simp only [Gu,dL,i1,BH,show decide ((2:Int)=1)=false by decide,mI,if_false,rg,EN];rw [AR (by simp;omega),e];simp only [dL,AI,Do (show acc.length<=1000000 by omega)]
theorem LZ {n:Nat} {ts sp:List Nat} (hn:n<=1000) (p:jO n ts) (hs:sp.length=n) (hs2:∀ t∈sp,t < n):∀ {ds T:List Dv} (acc:List Dv),Paired (Mj n) ds T->acc.length+T.length<=1000->∃ T',Az (Bu (tI ts) (.int (n:Nat)) (nI sp)) (zipD2 ds T) (.lst acc)=some (.lst (acc++T'))/\Paired (Mj n) ds T'
 | _,_,acc,.nil,_=>⟨[],by simp [zipD2,Az],.nil⟩
 | _,_,acc,.cons (l₁:=ds) (l₂:=T) q r,hl=>by
  rw [mS] at hl;obtain ⟨a,rr,rfl,hr,ht⟩:=q;obtain ⟨u,e1,hu⟩:=Wh (a:=a) hn p hs hs2 hr ht acc (by omega);obtain ⟨T',e2,hT⟩:=LZ hn p hs hs2 (acc++[u]) r (by rw [mV];simp;omega);exact ⟨u::T',by simp only [zipD2,Az,e1,dL,e2,nB,ox],.cons hu hT⟩
section
variable {n nf:Nat} {ds:List Dv} {w fx:Dv} {cs:List Nat} {T:List Dv}
theorem Jz {ts:List Nat} (hn:n<=1000) (hnf:nf<=1000) (hd:ds.length<=1000) (W:Wl n nf ds w cs T) (p:jO n ts):∃ w' cs' T',Cu (.tup [fx,.tup ds]) w (tI ts)=some w'/\Wl n nf ds w' cs' T':=by
 have j1:AA (.tup [fx,.tup ds]) (.int 1)=some (.tup ds):=rfl;have z2:JC [.tup ds,.tup T]=some (zipD2 ds T):=rfl;have i1:items (tI cs)=some (nI cs):=rfl;have rg:=Jx n (by omega);obtain ⟨sp,e1,hs,hs2⟩:=ai (DZ (tI ts)) hn fun k hk=>by
  obtain ⟨j,q,hj⟩:=UR (p.2.2 k hk);refine ⟨j,?_,by rw [<- p.1];exact hj⟩;have:Bq (tI ts) (.int (k:Nat))=some (.int (j:Nat)):=by
   simp only [Bq,tI,Dv.cmp,Ej,Gr,my,nG,decide_true,if_true,q,mj]
  unfold DZ GO;simp only [tI,ZV,gp] at this ⊢;rw [this];rfl
 obtain ⟨T',e2,hT⟩:=LZ hn p hs hs2 [] W.2.2.2 (by have:=Hc W.2.2.2;simp;omega);have m:=Hj (CW (tI ts)) (fun c:Nat=>Dv.int (c:Nat)) (fun c:Nat=>Dv.int (ts.getD c 0:Nat)) cs fun c hc=>by
  simp only [CW,CV (show c < ts.length by rw [p.1];exact W.2.2.1 c hc),dL]
 have m2:AW (CW (tI ts)) (nI cs)=some (nI (cs.map fun c=>ts.getD c 0)):=by
  unfold nI;rw [m,nS];rfl
 refine ⟨.tup [.int (n:Nat),tI (cs.map fun c=>ts.getD c 0),.tup T'],cs.map fun c=>ts.getD c 0,T',?_,rfl,by rw [mX];exact W.2.1,fun c hc=>?_,hT⟩
 ·unfold Cu;simp only [W.w0,rg,dL];rw [AR (by simp;omega),e1];simp only [W.w1,W.w2,j1,z2,dL];rw [e2];simp only [dL,i1];rw [AR (by rw [Ax,W.2.1];omega),m2];rfl
 ·obtain ⟨x,hx,rfl⟩:=mr.mp hc;exact p.2.1 _ (getD_mem (by rw [p.1];exact W.2.2.1 x hx))
end
theorem Oh {ys:List Dv} {i:Nat} {z:Dv} (h:i < ys.length):Ay (.lst ys) (.int (i:Nat)) z=some (.lst (ys.set i z)):=by
 simp only [Ay,Nb];rw [if_pos (by omega),if_pos (by omega)];simp
theorem Ox {r m:Nat} (hm:0 < m):Cq (.int (r:Nat)) (.int (m:Nat))=some (.int ((r % m:Nat))):=by
 rw [IF _ _ (by omega)];congr 1
theorem Xq {x2 it c t9 t18 t19:Dv} (h9:AA c it=some t9) (h10:Rj t9 (.ty "tuple")=some (.bl false)) (h18:Cq t9 x2=some t18) (h19:Ay c it t18=some t19):BP x2 it c=some t19:=by
 unfold BP HJ;simp only [h9,h10,Jo,h18,h19,dL,mI,if_false]
theorem Xp {x2 it c t9 t15 t16:Dv} {t12 p14:List Dv} (h9:AA c it=some t9) (h10:Rj t9 (.ty "tuple")=some (.bl true)) (h12:items t9=some t12) (hl:t12.length<=1000000) (h14:AW (Ep x2) t12=some p14) (h15:AI (.lst p14)=some t15) (h16:Ay c it t15=some t16):BP x2 it c=some t16:=by
 unfold BP HJ;simp only [h9,h10,Jo,h12,AR hl,h14,h15,h16,dL,if_true]
theorem cy {x2 it t6 t7 c20 t21 t22 u:Dv} {t8 c:List Dv} (h6:Mi it=some t6) (h7:Ad t6=some t7) (h8:BS [t7]=some t8) (h20:Az (BP x2) t8 t6=some c20) (h21:AI c20=some t21) (h22:AV (.lst c) [t21]=some (u,t22)):CM x2 it (.lst c)=some t22:=by
 unfold CM;simp only [h6,h7,h8,h20,EN,h21,h22,dL]
theorem MH {n m:Nat} (hm:0 < m) (hmn:m<=n) (hn:n<=1000) {xs:List Dv} (hl:xs.length=n) (Pk:Dv->Prop) (hx:∀ y∈xs,Pk y)
    (hP:∀ y,Pk y->∀ c it t16 z,AA c it=some y->(Pk z->Ay c it z=some t16->True)->True)
    (step:∀ (ys:List Dv) (i:Nat),i < ys.length->(∀ y∈ys,Pk y)->∃ z,BP (.int (m:Nat)) (.int (i:Nat)) (.lst ys)=some (.lst (ys.set i z))/\Pk z) :
    ∃ ys,Az (BP (.int (m:Nat))) ((List.range n).map fun k=>.int (k:Nat)) (.lst xs)=some (.lst ys)/\ys.length=n/\∀ y∈ys,Pk y:=by
  obtain ⟨c,e,ys,rfl,h1,h2⟩:=MF (P:=fun _ c=>∃ ys,c=.lst ys/\ys.length=n/\∀ y∈ys,Pk y) (BP (.int (m:Nat))) n (.lst xs) ⟨xs,rfl,hl,hx⟩ fun i hi c hc=>by
    obtain ⟨ys,rfl,h1,h2⟩:=hc;obtain ⟨z,e,hz⟩:=step ys i (by omega) h2;refine ⟨_,e,ys.set i z,rfl,by rw [ma];exact h1,fun y hy=>?_⟩;rcases pV hy with hy | rfl
    · exact h2 y hy
    · exact hz
  exact ⟨ys,e,h1,h2⟩
theorem UX {n m:Nat} (hm:0 < m) (hmn:m<=n) (hn:n<=1000) {d t:Dv} (h:Mj n d t) (acc:List Dv) (hacc:acc.length<=1000):∃ u,CM (.int (m:Nat)) t (.lst acc)=some (.lst (acc++[u]))/\Mj n d u:=by
  obtain ⟨a,r,rfl,hr,ht⟩:=h;have fin:∀ xs ys:List Dv,t=.tup xs->xs.length=n->Az (BP (.int (m:Nat))) ((List.range n).map fun k=>.int (k:Nat)) (.lst xs)=some (.lst ys)->CM (.int (m:Nat)) t (.lst acc)=some (.lst (acc++[.tup ys])):=fun xs ys e hl h20=>by
    subst e;have h7:Ad (.lst xs)=some (.int (n:Nat)):=by show some (Dv.int (xs.length:Nat))=_;rw [hl]
    exact cy (t6:=.lst xs) rfl h7 (Jx n (by omega)) h20 rfl (Do (by omega))
  rcases hr with rfl | rfl
  · obtain ⟨xs,rfl,hl,hx⟩:=ht.one;obtain ⟨ys,e,h1,h2⟩:=MH hm hmn hn hl (fun y=>∃ r:Nat,y=.int r/\r < n) hx (fun _ _ _ _ _ _ _ _=>trivial) fun ys i hi hy=>by
      obtain ⟨y,hy',ey⟩:=Jl (xs:=ys) (i:=i) (by omega) (by omega);obtain ⟨r,rfl,hr⟩:=hy y hy';exact ⟨_,Xq ey rfl (Ox hm) (Oh hi),_,rfl,mP (Nat.mod_lt _ hm) hmn⟩
    exact ⟨.tup ys,fin xs ys rfl hl e,a,1,rfl,.inl rfl,.inl ⟨rfl,ys,rfl,h1,h2⟩⟩
  · obtain ⟨xs,rfl,hl,hx⟩:=ht.two;obtain ⟨ys,e,h1,h2⟩:=MH hm hmn hn hl (Row n) hx (fun _ _ _ _ _ _ _ _=>trivial) fun ys i hi hy=>by
      obtain ⟨y,hy',ey⟩:=Jl (xs:=ys) (i:=i) (by omega) (by omega);obtain ⟨zs,rfl,hzl,hz⟩:=hy y hy';obtain ⟨us,eu,hul,hu⟩:=Df (Ep (.int (m:Nat))) (fun d=>∃ r:Nat,d=.int r/\r < n) zs fun z hz'=>by
        obtain ⟨r,rfl,hr⟩:=hz z hz';exact ⟨_,by unfold Ep;rw [Ox hm];rfl,_,rfl,mP (Nat.mod_lt _ hm) hmn⟩
      exact ⟨_,Xp ey rfl rfl (by omega) eu rfl (Oh hi),us,rfl,by omega,hu⟩
    exact ⟨.tup ys,fin xs ys rfl hl e,a,2,rfl,.inr rfl,.inr ⟨rfl,ys,rfl,h1,h2⟩⟩
theorem JR {n m:Nat} (hm:0 < m) (hmn:m<=n) (hn:n<=1000):∀ {ds T:List Dv} (acc:List Dv),Paired (Mj n) ds T->acc.length+T.length<=1000->∃ T',Az (CM (.int (m:Nat))) T (.lst acc)=some (.lst (acc++T'))/\Paired (Mj n) ds T'
 | _,_,acc,.nil,_=>⟨[],by simp [Az],.nil⟩
 | _,_,acc,.cons (l₁:=ds) (l₂:=T) q r,hl=>by
  rw [mS] at hl;obtain ⟨u,e1,hu⟩:=UX hm hmn hn q acc (by omega);obtain ⟨T',e2,hT⟩:=JR hm hmn hn (acc++[u]) r (by rw [mV];simp;omega);exact ⟨u::T',by simp only [Az,e1,dL,e2,nB,ox],.cons hu hT⟩
theorem KH {r:Nat}:Ai (.int 1) (.int (r:Nat))=some (.int ((1+r:Nat))):=by rw [Cz];congr 1
theorem Xo {x0 x1 t1 r f' t3 c23 t25 t26:Dv} {t5:List Dv} (h1:AA x1 (.int 0)=some t1) (h2:AH x0 t1=some (r,f')) (h3:Ai (.int 1) r=some t3) (h4:AA x1 (.int 2)=some (.tup t5)) (h23:Az (CM t3) t5 (.lst [])=some c23) (h25:AA x1 (.int 1)=some t25) (h26:AI c23=some t26):EX x0 x1=some (.tup [t1,t25,t26],f'):=by
 unfold EX;have h5:items (.tup t5)=some t5:=rfl;simp only [h1,h2,h3,h4,h5,h23,h25,h26,dL]
section
variable {n nf:Nat} {ds:List Dv} {w:Dv} {cs:List Nat} {T:List Dv}
theorem JS {f:Dv} (hf:Fd f) (h0:0 < n) (hn:n<=1000) (hd:ds.length<=1000) (W:Wl n nf ds w cs T):∃ w' T' f',EX f w=some (w',f')/\Wl n nf ds w' cs T'/\Fd f':=by
 obtain ⟨r,f',e,b,hf'⟩:=AF hf (n:=((n:Nat):Int)) (by omega) (by omega);obtain ⟨T',e2,hT⟩:=JR (m:=1+r) (by omega) (by omega) hn [] W.2.2.2 (by have:=Hc W.2.2.2;simp;omega);exact ⟨_,T',f',Xo W.w0 e KH W.w2 e2 W.w1 rfl,⟨rfl,W.2.1,W.2.2.1,hT⟩,hf'⟩
end
def eK (n nf:Nat) (ds:List Dv) (w:Dv):Prop:=∃ cs T,Wl n nf ds w cs T
theorem LG {f:Dv} (hf:Fd f) {fs ds:List Dv} {n:Nat} (h0:0 < n) (h1:n<=1000) (hfs:fs.length<=100) (hds:ds.length<=100) (hd:∀ x∈ds,Ei 5 x):∃ w f',DE f (.tup [.tup fs,.tup ds]) (.int (n:Nat))=some (w,f')/\eK n fs.length ds w/\Fd f':=by
 obtain ⟨ts,tbs,f',e,hl,ht,p,hf'⟩:=Mk hf (fs:=fs) (ds:=ds) h0 h1 hfs hds fun x hx=>by
  obtain ⟨a,r,rfl,_,hr⟩:=hd x hx;exact ⟨a,r,rfl,hr⟩
 obtain ⟨cs,rfl,hc⟩:=Gy ht;rw [Ax] at hl;exact ⟨_,f',e,⟨cs,tbs,rfl,hl,hc,p⟩,hf'⟩
section
variable {nf:Nat} {ds fs:List Dv}
theorem lU {n:Nat} {f w:Dv} (hf:Fd f) (h0:0 < n) (hn:n<=1000) (hd:ds.length<=1000) (W:eK n nf ds w):∃ w' f',Cj w f=some (f',w')/\eK n nf ds w'/\Fd f':=by
 obtain ⟨cs,T,W⟩:=W;obtain ⟨r,f1,e,b,hf1⟩:=AF hf (n:=2) (by decide) (by decide);unfold Cj;simp only [e,dL,BH];split
 ·obtain ⟨w',T',f',e2,W',hf'⟩:=JS hf1 h0 hn hd W;exact ⟨w',f',by rw [e2];rfl,⟨cs,T',W'⟩,hf'⟩
 ·exact ⟨w,f1,rfl,⟨cs,T,W⟩,hf1⟩
theorem lT {n:Nat} {f w:Dv} {r:Int} (hf:Fd f) (h0:0 < n) (hn:n<=1000) (hd:ds.length<=1000) (W:eK n nf ds w):∃ w' f',Ci (.int r) w f=some (f',w')/\eK n nf ds w'/\Fd f':=by
 obtain ⟨cs,T,W⟩:=W;unfold Ci;simp only [dL,BH];split
 ·obtain ⟨w',T',f',e2,W',hf'⟩:=JS hf h0 hn hd W;exact ⟨w',f',by rw [e2];rfl,⟨cs,T',W'⟩,hf'⟩
 ·exact ⟨w,f,rfl,⟨cs,T,W⟩,hf⟩
theorem Iy {f:Dv} (hf:Fd f):∃ (n:Nat) (f' r1 r2 g d1 d3:Dv),AH f (.int 3)=some (r1,g)/\Ai (.int 1) r1=some d1/\AH g (.int 6)=some (r2,f')/\Kw r2 (.int 5)=some d3/\AA (.lst [d1,.int 4]) d3=some (.int (n:Nat))/\0 < n/\n<=4/\Fd f':=by
 obtain ⟨r1,f1,e1,b1,hf1⟩:=AF hf (n:=3) (by decide) (by decide);obtain ⟨r2,f2,e2,b2,hf2⟩:=AF hf1 (n:=6) (by decide) (by decide);have dv:Kw (.int (r2:Nat)) (.int 5)=some (.int ((r2:Int) / 5)):=rfl;obtain ⟨x,hx,ex⟩:=Jl (xs:=[Dv.int ((1+r1:Nat)),.int ((4:Nat))]) (i:=(r2:Int) / 5) (by omega) (by show (r2:Int) / 5 < 2;omega);have ex':AA (.lst [.int ((1+r1:Nat)),.int 4]) (.int ((r2:Int) / 5))=some x:=ex;simp only [mL,mz,or_false] at hx;rcases hx with rfl | rfl
 ·exact ⟨1+r1,f2,_,_,f1,_,_,e1,KH,e2,dv,ex',by omega,by omega,hf2⟩
 ·exact ⟨4,f2,_,_,f1,_,_,e1,KH,e2,dv,ex',by omega,by omega,hf2⟩
theorem SI {f:Dv} (hf:Fd f) (hfs:fs.length<=100) (hds:ds.length<=100) (hd:∀ x∈ds,Ei 5 x):∃ one oth f' n1 n2,Bv f (.tup [.tup fs,.tup ds])=some (.tup [one,oth],f')/\0 < n1/\n1<=4/\eK n1 fs.length ds one/\0 < n2/\n2<=4/\eK n2 fs.length ds oth/\Fd f':=by
 obtain ⟨n1,f1,a1,a2,a3,a4,a5,q1,q2,q3,q4,q5,h0,h1,hf1⟩:=Iy hf;obtain ⟨w,f3,e3,W3,hf3⟩:=LG hf1 (fs:=fs) (ds:=ds) (n:=n1) (by omega) (by omega) hfs hds hd;obtain ⟨one,f7,e7,W7,hf7⟩:=lU hf3 (by omega) (by omega) (by omega) W3;obtain ⟨r8,f8,e8,b8,hf8⟩:=AF hf7 (n:=5) (by decide) (by decide);unfold Bv;simp only [q1,q2,q3,q4,q5,dL,e3,e7,e8,BH,Bw];split
 ·exact ⟨one,one,f8,n1,n1,rfl,by omega,by omega,W7,by omega,by omega,W7,hf8⟩
 ·split
  ·obtain ⟨cs,T,W⟩:=W7;obtain ⟨ts,f12,e12,p,hf12⟩:=IQ hf8 (n:=n1) (by omega);obtain ⟨w',cs',T',e13,W'⟩:=Jz (fx:=.tup fs) (ts:=ts) (by omega) (by omega) (by omega) W p;exact ⟨one,w',f12,n1,n1,by simp only [W.w0,dL,e12,e13],by omega,by omega,⟨cs,T,W⟩,by omega,by omega,⟨cs',T',W'⟩,hf12⟩
  ·obtain ⟨n2,g1,c1,c2,c3,c4,c5,p1,p2,p3,p4,p5,k0,k1,hg1⟩:=Iy hf8;obtain ⟨w2,f16,e16,W16,hf16⟩:=LG hg1 (fs:=fs) (ds:=ds) (n:=n2) (by omega) (by omega) hfs hds hd;obtain ⟨oth,f19,e19,W19,hf19⟩:=lT (r:=r8) hf16 (by omega) (by omega) (by omega) W16;exact ⟨one,oth,f19,n1,n2,by simp only [p1,p2,p3,p4,p5,e16,e19,dL],by omega,by omega,W7,by omega,by omega,W19,hf19⟩
end
theorem PF {r:List Nat} {k:Nat} (h:k < r.length):r.getD k 0=r[k]:=by simp [List.getD,h]
theorem LX {n:Nat}:∀ {k:Nat} {r:List Nat},r.length=k->(∀ t∈r,t < n)->r∈rows n k
 | 0,r,h,_=>by have:r=[]:=mq h;subst this;simp [rows]
 | k+1,r,h,ht=>by
  have hne:r≠[]:=fun z=>by rw [z] at h;cases h
  have e:=List.dropLast_concat_getLast hne;have m:=LX (n:=n) (k:=k) (r:=r.dropLast) (by rw [List.length_dropLast,h];rfl) fun t hx=>ht t (List.dropLast_subset r hx)
  unfold rows ext;refine om.mpr ⟨_,m,mr.mpr ⟨r.getLast hne,?_,e⟩⟩;simpa using ht _ (List.getLast_mem hne)
noncomputable def Ed (r b:List Nat):List Nat:=r.map fun t=>b.getD t 0
theorem Kk {r b:List Nat} {k:Nat} (h:k < r.length):(Ed r b).getD k 0=b.getD (r.getD k 0) 0:=by
 rw [PF (by simpa [Ed] using h),PF h];simp [Ed]
theorem CD {n:Nat} {T U:Dv} {r:List Nat} (hl:r.length=n) (hT:Row n T):Cy T U r=true↔∀ k < n,r.getD (FR T k) 0=FR U (r.getD k 0):=by
 unfold Cy;rw [mW];refine ⟨fun h k hk=>?_,fun h k hk=>?_⟩
 ·have:=h k (by simp;omega);rw [NO (by rw [hl];exact (BF hT hk).2)] at this;exact of_decide_eq_true this
 ·have hk:k < n:=by rw [<- hl];simpa using hk
  rw [NO (by rw [hl];exact (BF hT hk).2)];exact decide_eq_true (h k hk)
theorem Zm {n1 n2:Nat} {T U V:Dv} {r b:List Nat} (hl:r.length=n1) (hr:∀ t∈r,t < n2) (hb:b.length=n2) (hT:Row n1 T) (hU:Row n2 U) (h1:Cy T U r=true) (h2:Cy U V b=true):Cy T V (Ed r b)=true:=by
 rw [CD hl hT] at h1;rw [CD hb hU] at h2;rw [CD (by simpa [Ed] using hl) hT];intro k hk;rw [Kk (by rw [hl];exact (BF hT hk).2),Kk (by rw [hl];exact hk),h1 k hk,h2 _ (hr _ (getD_mem (by rw [hl];exact hk)))]
theorem iT {n1 n2:Nat} {T U V:Dv} {r b:List Nat} (hl:r.length=n1) (hr:∀ t∈r,t < n2) (hb:b.length=n2) (hT:Rk n1 T) (hU:Rk n2 U) (h1:Dh T U r=true) (h2:Dh U V b=true):Dh T V (Ed r b)=true:=by
 unfold Dh at *;rw [mW] at *;intro k hk;have hk:k < n1:=by rw [<- hl];simpa [Ed] using hk
 have hk':k < r.length:=by rw [hl];exact hk
 have hv:=hr _ (getD_mem hk');rw [Kk hk'];exact Zm hl hr hb (By hT hk).2 (By hU hv).2 (h1 k (by simpa using hk')) (h2 _ (ny.mpr (by rw [hb];exact hv)))
theorem SN {n:Nat} {a t:Dv} {r:Int} (h:Mj n (.tup [a,.int r]) t):(r=1\/r=2)/\Tab n r t:=by
 obtain ⟨a',r',e,hr,ht⟩:=h;simp only [Dv.tup.injEq,List.cons.injEq,Dv.int.injEq,and_true] at e;obtain ⟨_,rfl⟩:=e;exact ⟨hr,ht⟩
theorem Iu {n1 n2 n3:Nat} {r b:List Nat} (hl:r.length=n1) (hr:∀ t∈r,t < n2) (hb:b.length=n2):∀ {ds T U V:List Dv},Paired (Mj n1) ds T->Paired (Mj n2) ds U->Paired (Mj n3) ds V->(zipD3 ds T U).all (Cw r)=true->(zipD3 ds U V).all (Cw b)=true->(zipD3 ds T V).all (Cw (Ed r b))=true
 | _,_,_,_,.nil,.nil,.nil,_,_=>rfl
 | _,_,_,_,.cons q1 p1,.cons q2 p2,.cons q3 p3,h1,h2=>by
  simp only [zipD3,nC,ly] at h1 h2 ⊢;refine ⟨?_,Iu hl hr hb p1 p2 p3 h1.2 h2.2⟩;obtain ⟨a,rr,rfl,hrr,ht⟩:=q1;have hu:=(SN q2).2;have e1:=h1.1;have e2:=h2.1;rcases hrr with rfl | rfl
  ·exact Zm hl hr hb ht.one hu.one e1 e2
  ·exact iT hl hr hb ht.two hu.two e1 e2
section
variable {n1 n2 n3 nf:Nat} {ds:List Dv} {one oth thr:Dv} {cs es gs:List Nat} {T U V:List Dv}
theorem Xi {r b:List Nat} (W1:Wl n1 nf ds one cs T) (W2:Wl n2 nf ds oth es U) (W3:Wl n3 nf ds thr gs V) (hl:r.length=n1) (hr:∀ t∈r,t < n2) (hb:b.length=n2) (h1:la cs es ds T U r=true) (h2:la es gs ds U V b=true):la cs gs ds T V (Ed r b)=true:=by
 unfold la at *;rw [ly] at *;refine ⟨?_,Iu hl hr hb W1.2.2.2 W2.2.2.2 W3.2.2.2 h1.2 h2.2⟩;have l1:∀ c∈cs,c < r.length:=fun c hc=>by rw [hl];exact W1.2.2.1 c hc
 have l2:∀ c∈es,c < b.length:=fun c hc=>by rw [hb];exact W2.2.2.1 c hc
 rw [<- EI (by rw [W1.2.1,W2.2.1]) l1] at h1;rw [<- EI (by rw [W2.2.1,W3.2.1]) l2] at h2;rw [<- EI (by rw [W1.2.1,W3.2.1]) (by simpa [Ed] using l1)];have e1:=of_decide_eq_true h1.1;have e2:=of_decide_eq_true h2.1;refine decide_eq_true ?_;rw [<- e2,<- e1,nS];exact nc fun c hc=>Kk (l1 c hc)
end
inductive Nd where
 | inp (k:Nat) | fix (c:Dv) | act (d:Dv) (ps:List Nat)
noncomputable def HB:Dv:=.str [105,110,112,117,116]
noncomputable def FU:Dv:=.str [102,105,120,101,100]
noncomputable def SV:Dv:=.str [100,111]
def Nd.dv:Nd->Dv
 | .inp k=>.tup [HB,.int (k:Nat)]
 | .fix c=>.tup [FU,c]
 | .act d ps=>.tup [SV,d,tI ps]
noncomputable def Nd.parts:Nd->List Nat
 | .act _ ps=>ps
 | _=>[]
def GM (I:Nat) (fs ds:List Dv) (i:Nat):Nd->Prop
 | .inp k=>k < I
 | .fix c=>c∈fs/\∃ l,c=.str l
 | .act d ps=>(∃ r:Int,Dv.tup [d,.int r]∈ds/\(ps.length:Int)=r/\(r=1\/r=2)/\∃ l,d=.str l)/\∀ p∈ps,p < i
def Dr (I:Nat) (fs ds:List Dv) (L:List Nd):Prop:=∀ i x,L[i]?=some x->GM I fs ds i x
theorem GM.part {I:Nat} {fs ds:List Dv} {i:Nat} {x:Nd} (h:GM I fs ds i x):∀ p∈x.parts,p < i:=fun p hp=>by
 cases x with
 | inp k=>cases hp
 | fix c=>cases hp
 | act d ps=>exact h.2 p hp
noncomputable def nD (L:List Nd):List Dv:=L.map Nd.dv
theorem Hh (L:List Nd):(nD L).length=L.length:=by simp [nD]
theorem ZQ {L:List Nd} {i:Nat} (h:i < L.length):AA (.lst (nD L)) (.int (i:Nat))=some L[i].dv:=by
 show ES (nD L) (i:Int)=_;rw [atI_nat _ _ (by rw [Hh];exact h)];simp [nD]
def Nd.kd:Nd->Dv
 | .inp _=>HB
 | .fix _=>FU
 | .act _ _=>SV
theorem gh (x:Nd):AA x.dv (.int 0)=some x.kd:=by cases x<;>rfl
noncomputable def LA (p:Nat->Bool) (N:Nat):Nat:=((List.range N).filter p).length
theorem Kj {p q:Nat->Bool} (h:∀ v,q v=true->p v=true):∀ N,LA q N<=LA p N
 | 0=>mF _
 | N+1=>by
  have ih:=Kj h N;unfold LA at *;rw [pP,nT,nT,mV,mV];have:([N].filter q).length<=([N].filter p).length:=by
   cases e:q N with
   | true=>simp [List.filter,e,h N e]
   | false=>simp [List.filter,e]
  omega
theorem VH {p q:Nat->Bool} {v:Nat} (h:∀ v,q v=true->p v=true) (h1:p v=true) (h2:q v=false):∀ {N},v < N->LA q N < LA p N
  | 0,hv=>by omega
  | N+1,hv=>by
    have le:=Kj h N;unfold LA at *;rw [pP,nT,nT,mV,mV]
    by_cases e:v=N
    · subst e;simp [List.filter,h1,h2];omega
    · have ih:=VH h h1 h2 (N:=N) (by omega);unfold LA at ih;have:([N].filter q).length<=([N].filter p).length:=by
        cases e:q N with
        | true=>simp [List.filter,e,h N e]
        | false=>simp [List.filter,e]
      omega
theorem He:∀ {N:Nat} {l:List Nat},l.Nodup->(∀ x∈l,x < N)->l.length<=N
 | 0,[],_,_=>mF _
 | 0,x::_,_,h=>by have:=h x mC;omega
 | N+1,l,nd,h=>by
  have nd':=nd.erase N;have:=He (N:=N) nd' fun x hx=>by
   have h1:=h x (List.mem_of_mem_erase hx);have:x≠N:=fun e=>by rw [e] at hx;exact (List.Nodup.mem_erase_iff nd).mp hx |>.1 rfl
   omega
  have e:l.length - 1<=(l.erase N).length:=by
   rw [List.length_erase];split<;>omega
  omega
def kI (ks:List Nat):List BE:=ks.map fun k=>Sum.inl ((k:Nat):Int)
def BL (ks:List Nat):Dv:=.dct (kI ks) (nI (List.range ks.length))
theorem cK (ks:List Nat) (k:Nat):(kI ks).any (fun j=>decide (j=Sum.inl ((k:Nat):Int)))=decide (k∈ks):=by
 induction ks with
 | nil=>rfl
 | cons x xs ih =>
  unfold kI at ih;simp only [kI,mJ,nU,ih,mL]
  by_cases e:x=k
  ·subst e;simp
  ·have e1:¬ (Sum.inl ((x:Nat):Int):BE)=Sum.inl ((k:Nat):Int):=fun z=>e (by have:=Sum.inl.inj z;omega)
   have e2:¬ k=x:=fun z=>e z.symm
   simp [e1,e2]
theorem MR (k:Nat):∀ (ks:List Nat) (xs:List Dv),ks.length=xs.length->(GH (.inl ((k:Nat):Int)) (kI ks) xs).isSome=decide (k∈ks)
 | [],_,_=>rfl
 | x::ks,[],h=>by cases h
 | x::ks,d::xs,h=>by
  have ih:=MR k ks xs (by simpa using h);unfold kI at ih;simp only [kI,mJ,GH,mL]
  by_cases e:x=k
  ·subst e;simp
  ·have e1:¬ (Sum.inl ((x:Nat):Int):BE)=Sum.inl ((k:Nat):Int):=fun z=>e (by have:=Sum.inl.inj z;omega)
   have e2:¬ k=x:=fun z=>e z.symm
   rw [if_neg e1,ih];simp [e2]
theorem MS (k:Nat):∀ (ks:List Nat) (o:Nat),k∈ks->GH (.inl ((k:Nat):Int)) (kI ks) (nI ((List.range ks.length).map (o+·)))=some (.int ((o+ks.idxOf k:Nat)))
 | [],_,h=>by cases h
 | x::ks,o,h=>by
  rw [mS,oN];simp only [kI,nI,mJ,nS,GH]
  by_cases e:x=k
  ·subst e;simp
  ·have e1:¬ (Sum.inl ((x:Nat):Int):BE)=Sum.inl ((k:Nat):Int):=fun z=>e (by have:=Sum.inl.inj z;omega)
   rw [if_neg e1,show List.idxOf k (x::ks)=List.idxOf k ks+1 by have q:(x == k)=false:=beq_eq_false_iff_ne.mpr e;rw [List.idxOf_cons,q];rfl];have ih:=MS k ks (o+1) ((mL.mp h).resolve_left fun z=>e z.symm);unfold kI nI at ih;rw [nS] at ih;have:((fun t=>Dv.int ((t:Nat):Int))∘(fun x=>o+x)∘Nat.succ)=((fun t=>Dv.int ((t:Nat):Int))∘(fun x=>o+1+x)):=by
    funext y;simp only [Function.comp];congr 2;omega
   rw [this,ih];congr 3;omega
theorem ZE (ks:List Nat) (k:Nat):jM (.int (k:Nat)) (BL ks)=some (decide (k∈ks)):=by
 have:=MR k ks (nI (List.range ks.length)) (by rw [Ax];simp);show some (GH (.inl ((k:Nat):Int)) (kI ks) (nI (List.range ks.length))).isSome=_;rw [this]
theorem aM {ks:List Nat} {k:Nat} (h:k∈ks):AA (BL ks) (.int (k:Nat))=some (.int (ks.idxOf k:Nat)):=by
 have:=MS k ks 0 h;simp only [oG] at this;have e:(List.range ks.length).map (fun x=>x)=List.range ks.length:=List.map_id' _;rw [e] at this;simp only [BL,AA,JJ,dL,this]
theorem Sn {ks:List Nat} {k:Nat} (h:k∉ks) (hl:ks.length<=1000000):Ay (BL ks) (.int (k:Nat)) (.int (ks.length:Nat))=some (BL (ks++[k])):=by
 have a:(kI ks).any (fun j=>decide (j=Sum.inl ((k:Nat):Int)))=false:=by rw [cK];simp [h]
 have l:(kI ks).length<=1000000:=by simpa [kI] using hl
 simp only [BL,Ay,JJ,dL,if_pos l,Uz,Ux,a,mI,if_false];congr 2
 ·simp [kI]
 ·rw [mV,nN,pP,KI];rfl
noncomputable def Uu (e:Nat×Bool):Dv:=.tup [.int (e.1:Nat),.bl e.2]
def stk (s:List (Nat×Bool)):Dv:=.lst (s.reverse.map Uu)
noncomputable def QP (L:List Nd) (q:Nat):List Nat:=match L[q]? with | some x=>x.parts | none=>[]
theorem LH {γ:Type} (t:γ->Option Bool) (g:γ->Option γ) (P:Nat->γ->Prop) (E:γ->Prop) (h:∀ m c,P m c->(t c=some false/\E c)\/(t c=some true/\∃ c' m',g c=some c'/\m' < m/\P m' c')):∀ (n m:Nat) (c:γ),m < n->P m c->∃ c',OX t g n c=some c'/\E c'
 | 0,m,c,hm,_=>by omega
 | n+1,m,c,hm,p=>by
  rcases h m c p with ⟨e,q⟩ | ⟨e,c',m',e',lt,p'⟩
  ·exact ⟨c,by simp only [OX,e,dL,mI,if_false],q⟩
  ·obtain ⟨c2,e2,q⟩:=LH t g P E h n m' c' (by omega) p';exact ⟨c2,by simp only [OX,e,dL,if_true,e',e2],q⟩
theorem WO (s:List (Nat×Bool)):Ad (stk s)=some (.int (s.length:Nat)):=by
 show some (Dv.int ((s.reverse.map Uu).length:Nat))=_;simp
theorem Od (e:Nat×Bool) (s:List (Nat×Bool)):Ri (stk (e::s)) []=some (Uu e,stk s):=by
 unfold stk;rw [pG,pS];simp only [Ri,mJ,oP,List.getLast?_concat,List.dropLast_concat]
theorem FF (F:List Nd):Ad (.lst (nD F))=some (.int (F.length:Nat)):=by
 show some (Dv.int ((nD F).length:Nat))=_;rw [Hh]
section
variable {L F:List Nd} {ks:List Nat} {v:Nat} {b:Bool} {s:List (Nat×Bool)}
theorem XM (h:v∈ks):Ac (.lst (nD L)) (.lst (nD F),BL ks,stk ((v,b)::s))=some (.lst (nD F),BL ks,stk s):=by
 unfold Ac
 show Dj "list" (stk ((v,b)::s)) _=_
 unfold stk;rw [EN];have p:=Od (v,b) s;unfold stk at p;rw [p];simp only [dL,Uu];rw [Gu];simp only [ZE,decide_eq_true h,dL,if_true]
theorem Tw (h:v∉ks) {x:Nd} (hx:L[v]?=some x):Ac (.lst (nD L)) (.lst (nD F),BL ks,stk ((v,b)::s))=(Bt (.lst (nD F)) (BL ks) (stk s) (.int (v:Nat)) (.bl b) x.dv).bind fun t=>some (t.1,t.2.1,t.2.2):=by
 unfold Ac
 show Dj "list" (stk ((v,b)::s)) _=_
 unfold stk;rw [EN];have p:=Od (v,b) s;unfold stk at p;rw [p];simp only [dL,Uu];rw [Gu];obtain ⟨hv,rfl⟩:=mB.mp hx;simp only [ZE,decide_eq_false h,dL,mI,if_false,ZQ hv]
theorem iF (hl:F.length<=1000) (x:Dv):AV (.lst (nD F)) [x]=some (.non,.lst (nD F++[x])):=Do (by rw [Hh];omega)
theorem Ov (h:v∉ks) {x:Nd} (hd:WB x.kd SV=some true) (hx:L[v]?=some x) (hl:F.length=ks.length) (hk:ks.length<=1000):Ac (.lst (nD L)) (.lst (nD F),BL ks,stk ((v,b)::s))=some (.lst (nD (F++[x])),BL (ks++[v]),stk s):=by
 rw [Tw h hx];have e2:WB x.kd (.str [100,111])=some true:=hd;unfold Bt;rw [gh];simp only [dL,e2,if_true,FF,hl,Sn h (by omega),EN,iF (F:=F) (by omega)];simp [nD]
theorem gV (h:v∉ks) {d:Dv} {ps:List Nat} (hx:L[v]?=some (.act d ps)) (hp:∀ p∈ps,p∈ks) (hl:F.length=ks.length) (hk:ks.length<=1000) (hps:ps.length<=1000):Ac (.lst (nD L)) (.lst (nD F),BL ks,stk ((v,true)::s))=some (.lst (nD (F++[.act d (ps.map fun p=>ks.idxOf p)])),BL (ks++[v]),stk s):=by
 rw [Tw h hx];have e0:AA (Nd.act d ps).dv (.int 0)=some SV:=rfl;have e1:AA (Nd.act d ps).dv (.int 1)=some d:=rfl;have e2:AA (Nd.act d ps).dv (.int 2)=some (tI ps):=rfl;have ne:WB SV (.str [100,111])=some false:=rfl;have it:items (tI ps)=some (nI ps):=rfl;have m:AW (Ca (BL (ks++[v]))) (nI ps)=some (nI (ps.map fun p=>ks.idxOf p)):=by
  have:∀ (qs:List Nat),(∀ p∈qs,p∈ks)->AW (Ca (BL (ks++[v]))) (nI qs)=some (nI (qs.map fun p=>ks.idxOf p)):=fun qs hq=>by
   induction qs with
   | nil=>rfl
   | cons p qs ih =>
    have hp':=hq p mC;have i1:(ks++[v]).idxOf p=ks.idxOf p:=by rw [List.idxOf_append,if_pos hp']
    have ih:=ih fun q z=>hq q (mE _ z)
    simp only [nI] at ih;simp only [nI,mJ,AW,Ca,aM (mN [v] hp'),i1,dL,ih]
  exact this ps hp
 unfold Bt;rw [e0];simp only [dL,ne,mI,if_false];unfold DV;simp only [Jo,dL,if_true,FF,hl,Sn h (by omega),EN,e0,e1,e2,it];rw [AR (by rw [Ax];omega),m];simp only [dL,AI,iF (F:=F) (by omega)];simp [nD,Nd.dv,tI]
theorem gU (h:v∉ks) {d:Dv} {ps:List Nat} (hx:L[v]?=some (.act d ps)) (hl:s.length<=1000) (hps:ps.length<=1000):Ac (.lst (nD L)) (.lst (nD F),BL ks,stk ((v,false)::s))=some (.lst (nD F),BL ks,stk (ps.map (fun p=>(p,false))++(v,true)::s)):=by
 rw [Tw h hx];have e0:AA (Nd.act d ps).dv (.int 0)=some SV:=rfl;have e2:AA (Nd.act d ps).dv (.int 2)=some (tI ps):=rfl;have ne:WB SV (.str [100,111])=some false:=rfl;have ng:IY (.int 1)=some (.int (-1)):=rfl;have rv:Mh (tI ps) (.int (-1))=some (.tup (nI ps).reverse):=rfl;have it:items (.tup (nI ps).reverse)=some (nI ps).reverse:=rfl;have m:AW CZ (nI ps).reverse=some ((ps.reverse.map fun p=>(p,false)).map Uu):=by
  have:∀ (qs:List Nat),AW CZ (nI qs)=some ((qs.map fun p=>(p,false)).map Uu):=fun qs=>by
   induction qs with
   | nil=>rfl
   | cons p qs ih=>simp only [nI] at ih;simp only [nI,mJ,AW,CZ,dL,ih];rfl
  rw [show (nI ps).reverse=nI ps.reverse by simp [nI]];exact this ps.reverse
 unfold Bt;rw [e0];simp only [dL,ne,mI,if_false];unfold DV;simp only [Jo,dL,mI,if_false,stk,EN,Do (show (s.reverse.map Uu).length<=1000000 by simp;omega),e2,ng,rv,it];rw [AR (by simp [Ax];omega),m];simp only [dL,ZZ (show (s.reverse.map Uu++[Dv.tup [.int (v:Nat),.bl true]]).length+((ps.reverse.map fun p=>(p,false)).map Uu).length<=1000000 by simp;omega)];simp [Uu]
end
def Vy (L:List Nd) (top:Nat):List (Nat×Bool)->Prop
 | []=>True
 | e::r=>((r=[]/\e.1=top)\/∃ q,(q,true)∈r/\e.1∈QP L q)/\(∀ f∈r,f.2=true->e.1 < f.1)/\Vy L top r
def AB (L:List Nd) (ks:List Nat):List Nat->List (Nat×Bool)->Prop
 | _,[]=>True
 | a,e::r=>(e.2=true->∀ x∈QP L e.1,x∈ks\/x∈a)/\AB L ks (e.1::a) r
theorem AB.mono {L:List Nd} {ks ks':List Nat} (hk:∀ x∈ks,x∈ks'):∀ {s:List (Nat×Bool)} {a a':List Nat},(∀ x∈a,x∈ks'\/x∈a')->AB L ks a s->AB L ks' a' s
  | [],_,_,_,_=>trivial
  | e::r,a,a',ha,h=>⟨fun z x hx=>(h.1 z x hx).elim (fun q=>.inl (hk x q)) fun q=>ha x q,h.2.mono hk fun x hx=>by
      rcases mL.mp hx with rfl | hx
      · exact .inr mC
      · exact (ha x hx).elim .inl fun q=>.inr (mE _ q)⟩
theorem AB.app {L:List Nd} {ks:List Nat} {t:List (Nat×Bool)}:∀ {ps a:List Nat},AB L ks (ps.reverse++a) t->AB L ks a (ps.map (fun p=>(p,false))++t)
 | [],a,h=>h
 | p::ps,a,h=>⟨(fun z=>by cases z),AB.app (ps:=ps) (a:=p::a) (by simpa using h)⟩
section
variable {I:Nat} {fs ds:List Dv} {L:List Nd} {top:Nat}
theorem NH (hL:Dr I fs ds L) {q x:Nat} (h:x∈QP L q):x < q:=by
 unfold QP at h;split at h
 ·rename_i y hy;exact (hL q y hy).part x h
 ·cases h
theorem Gf (hL:Dr I fs ds L):∀ {s:List (Nat×Bool)},Vy L top s->∀ e∈s,e.1<=top
 | [],_,e,h=>by cases h
 | f::r,g,e,h=>by
  have ih:=Gf hL g.2.2;rcases mL.mp h with rfl | h
  ·rcases g.1 with ⟨_,z⟩ | ⟨q,hq,z⟩
   ·omega
   ·have:=ih _ hq;have:=NH hL z;simp at *;omega
  ·exact ih e h
theorem JN (hL:Dr I fs ds L) {v:Nat} {r:List (Nat×Bool)} (g:Vy L top ((v,true)::r)):∀ {xs:List Nat},(∀ x∈xs,x∈QP L v)->Vy L top (xs.map (fun p=>(p,false))++(v,true)::r)
 | [],_=>g
 | x::xs,h=>by
  refine ⟨.inr ⟨v,mG _ mC,h x mC⟩,fun f hf ht=>?_,JN hL g fun y hy=>h y (mE _ hy)⟩;have xv:=NH hL (h x mC);rcases mU.mp hf with hf | hf
  ·obtain ⟨y,_,rfl⟩:=mr.mp hf;cases ht
  ·rcases mL.mp hf with rfl | hf
   ·exact xv
   ·have:=g.2.1 f hf ht;show x < f.1;simp at this;omega
structure OI (I:Nat) (fs ds:List Dv) (L:List Nd) (top:Nat) (F:List Nd) (ks:List Nat) (s:List (Nat×Bool)):Prop where
 lf:F.length=ks.length
 nd:ks.Nodup
 lt:∀ k∈ks,k < L.length
 ok:Dr I fs ds F
 g:Vy L top s
 pend:∀ q,(q,true)∈s->q∉ks
 ab:AB L ks [] s
 cov:∀ i k,ks[i]?=some k->(∃ (j:Nat) (y:Nd),F[j]?=some y/\i∈y.parts)\/(∃ q,(q,true)∈s/\k∈QP L q)\/k=top
 fin:(top∉ks/\s≠[])\/(s=[]/\∃ k0,ks=k0++[top]/\top∉k0)
variable {F:List Nd} {ks:List Nat} {v:Nat} {b:Bool} {s:List (Nat×Bool)}
theorem OI.top_out (h:OI I fs ds L top F ks ((v,b)::s)):top∉ks:=h.fin.elim (fun z=>z.1) fun z=>by cases z.1
theorem OI.one (h:OI I fs ds L top F ks ((v,b)::s)) (hs:s=[]):v=top:=by
 rcases h.g.1 with ⟨_,z⟩ | ⟨q,hq,_⟩
 ·exact z
 ·rw [hs] at hq;cases hq
theorem OI.skip (h:OI I fs ds L top F ks ((v,b)::s)) (hv:v∈ks):OI I fs ds L top F ks s:=by
 refine ⟨h.lf,h.nd,h.lt,h.ok,h.g.2.2,fun q hq=>h.pend q (mE _ hq),h.ab.2.mono (fun _ z=>z) fun x hx=>?_,fun i k hk=>?_,.inl ⟨h.top_out,fun z=>h.top_out (h.one z▸hv)⟩⟩
 ·rw [mY] at hx;rw [hx];exact .inl hv
 ·rcases h.cov i k hk with z | ⟨q,hq,z⟩ | z
  ·exact .inl z
  ·rcases mL.mp hq with e | hq
   ·cases e;exact (h.pend v mC hv).elim
   ·exact .inr (.inl ⟨q,hq,z⟩)
  ·exact .inr (.inr z)
theorem OI.emit (hL:Dr I fs ds L) (ht:top < L.length) (h:OI I fs ds L top F ks ((v,b)::s)) (hv:v∉ks) {y:Nd} (hy:GM I fs ds F.length y) (hp:b=true->∀ i k,ks[i]?=some k->k∈QP L v->i∈y.parts):OI I fs ds L top (F++[y]) (ks++[v]) s:=by
 have vt:v<=top:=Gf hL h.g (v,b) mC;refine ⟨by simp [h.lf],?_,fun k hk=>?_,fun i x hx=>?_,h.g.2.2,fun q hq hm=>?_,h.ab.2.mono (fun x z=>mN _ z) fun x hx=>?_,fun i k hk=>?_,?_⟩
 ·exact List.nodup_append.mpr ⟨h.nd,by simp,fun a ha b' hb=>by rw [mY] at hb;subst hb;exact fun e=>hv (e▸ha)⟩
 ·rcases mU.mp hk with hk | hk
  ·exact h.lt k hk
  ·rw [mY] at hk;subst hk;omega
 ·rcases nZ i F.length with w | w
  ·rw [mH w] at hx;exact h.ok i x hx
  ·have:i=F.length:=by have:=(mB.mp hx).1;simp at this;omega
   subst this;rw [me (mF _),nP] at hx;cases hx;exact hy
 ·rcases mU.mp hm with hm | hm
  ·exact h.pend q (mE _ hq) hm
  ·rw [mY] at hm;subst hm;have:=h.g.2.1 (q,true) hq rfl;simp at this
 ·rw [mY] at hx;rw [hx];exact .inl (mG _ mC)
 ·rcases nZ i ks.length with w | w
  ·rw [mH w] at hk;rcases h.cov i k hk with ⟨j,x,hx,z⟩ | ⟨q,hq,z⟩ | z
   ·exact .inl ⟨j,x,by rw [mH (mB.mp hx).1];exact hx,z⟩
   ·rcases mL.mp hq with e | hq
    ·cases e;exact .inl ⟨F.length,y,by rw [me (mF _),nP];rfl,hp rfl i k hk z⟩
    ·exact .inr (.inl ⟨q,hq,z⟩)
   ·exact .inr (.inr z)
  ·have:i=ks.length:=by have:=(mB.mp hk).1;simp at this;omega
   subst this;rw [me (mF _),nP] at hk;cases hk;rcases h.g.1 with ⟨_,z⟩ | z
   ·exact .inr (.inr z)
   ·exact .inr (.inl z)
 ·by_cases e:v=top
  ·refine .inr ⟨?_,ks,by rw [e],h.top_out⟩;rcases h.g.1 with ⟨z,_⟩ | ⟨q,hq,z⟩
   ·exact z
   ·have h1:=NH hL z;have h2:=Gf hL h.g (q,true) (mE _ hq);simp at h1 h2;omega
  ·refine .inl ⟨fun z=>?_,fun z=>e (h.one z)⟩;rcases mU.mp z with z | z
   ·exact h.top_out z
   ·rw [mY] at z;exact e z.symm
theorem OI.expand (hL:Dr I fs ds L) (h:OI I fs ds L top F ks ((v,false)::s)) (hv:v∉ks) {d:Dv} {ps:List Nat} (hx:L[v]?=some (.act d ps)):OI I fs ds L top F ks (ps.map (fun p=>(p,false))++(v,true)::s):=by
 have pv:QP L v=ps:=by unfold QP;rw [hx];rfl
 refine ⟨h.lf,h.nd,h.lt,h.ok,JN hL (v:=v) (r:=s) ⟨h.g.1,h.g.2.1,h.g.2.2⟩ fun x hx=>by rw [pv];exact hx,fun q hq=>?_,AB.app ⟨fun _ x hx=>.inr (by rw [pv] at hx;simpa using hx),h.ab.2.mono (fun _ z=>z) fun x hx=>?_⟩,fun i k hk=>?_,.inl ⟨h.top_out,by simp⟩⟩
 ·rcases mU.mp hq with hq | hq
  ·obtain ⟨y,_,e⟩:=mr.mp hq;cases e
  ·rcases mL.mp hq with e | hq
   ·cases e;exact hv
   ·exact h.pend q (mE _ hq)
 ·rw [mY] at hx;rw [hx];exact .inr mC
 ·rcases h.cov i k hk with z | ⟨q,hq,z⟩ | z
  ·exact .inl z
  ·rcases mL.mp hq with e | hq
   ·cases e
   ·exact .inr (.inl ⟨q,mG _ (mE _ hq),z⟩)
  ·exact .inr (.inr z)
def mu (N:Nat) (ks:List Nat) (s:List (Nat×Bool)):Nat:=3 * LA (fun u=>decide (u∉ks) && decide ((u,true)∉s)) N+s.length
theorem Ow (hv:v∈ks) (hp:∀ q,(q,true)∈(v,b)::s->q∉ks) (N:Nat):mu N ks s < mu N ks ((v,b)::s):=by
 have:LA (fun u=>decide (u∉ks) && decide ((u,true)∉s)) N<=LA (fun u=>decide (u∉ks) && decide ((u,true)∉(v,b)::s)) N:=Kj (fun u hu=>by
  simp only [ly,decide_eq_true_eq] at hu ⊢;refine ⟨hu.1,fun z=>?_⟩;rcases mL.mp z with e | z
  ·cases e;exact hu.1 hv
  ·exact hu.2 z) N
 unfold mu;rw [mS];omega
theorem EG (N:Nat):mu N (ks++[v]) s < mu N ks ((v,b)::s):=by
 have:LA (fun u=>decide (u∉ks++[v]) && decide ((u,true)∉s)) N<=LA (fun u=>decide (u∉ks) && decide ((u,true)∉(v,b)::s)) N:=Kj (fun u hu=>by
  simp only [ly,decide_eq_true_eq,mU,mY,not_or] at hu ⊢;refine ⟨hu.1.1,fun z=>?_⟩;rcases mL.mp z with e | z
  ·cases e;exact hu.1.2 rfl
  ·exact hu.2 z) N
 unfold mu;rw [mS];omega
theorem ZR {ps:List Nat} {N:Nat} (hv:v∉ks) (hN:v < N) (hs:(v,true)∉s) (hp:ps.length<=2):mu N ks (ps.map (fun p=>(p,false))++(v,true)::s) < mu N ks ((v,false)::s):=by
  have:LA (fun u=>decide (u∉ks) && decide ((u,true)∉ps.map (fun p=>(p,false))++(v,true)::s)) N < LA (fun u=>decide (u∉ks) && decide ((u,true)∉(v,false)::s)) N:=VH (v:=v) (fun u hu=>by
      simp only [ly,decide_eq_true_eq,mU,mL,not_or] at hu ⊢;exact ⟨hu.1,(fun e=>by cases e),hu.2.2.2⟩) (by
      simp only [ly,decide_eq_true_eq,mL,not_or];exact ⟨hv,(fun e=>by cases e),hs⟩) (by simp) hN
  unfold mu;rw [mV,mS,mS,mX];omega
theorem Zn (p:Nat->Bool) (N:Nat):LA p N<=N:=by
 have:=oQ p (List.range N);unfold LA;simpa using this
def lP (F:List Nd):Prop:=∀ i,i+1 < F.length->∃ (j:Nat) (y:Nd),F[j]?=some y/\i∈y.parts
theorem KF (hL:Dr I fs ds L) (ht:top < L.length) (hN:L.length<=100):∃ F,Cv (.lst (nD L)) (.int (top:Nat))=some (.tup [.tup (nD F),.int ((F.length - 1:Nat))])/\Dr I fs ds F/\lP F/\0 < F.length/\F.length<=L.length:=by
  obtain ⟨c,e,F,ks,rfl,o⟩:=LH Br (Ac (.lst (nD L))) (fun m c=>∃ F ks s,c=(.lst (nD F),BL ks,stk s)/\OI I fs ds L top F ks s/\mu L.length ks s=m/\m<=1000) (fun c=>∃ F ks,c=(.lst (nD F),BL ks,stk [])/\OI I fs ds L top F ks []) (fun m c ⟨F,ks,s,e,o,hm,hs⟩=>by
    subst e;have t:Br (.lst (nD F),BL ks,stk s)=some (decide (0 < s.length)):=by
      unfold Br;simp only [WO,dL,Bw];congr 1;exact decide_eq_decide.mpr (by omega)
    cases s with
    | nil=>exact .inl ⟨by rw [t];rfl,F,ks,rfl,o⟩
    | cons e s =>
      obtain ⟨v,b⟩:=e;refine .inr ⟨by rw [t];simp,?_⟩;have vt:v<=top:=Gf hL o.g (v,b) mC;have vL:v < L.length:=by omega
      have hx:=lz vL;have kl:ks.length<=L.length:=He o.nd o.lt;have lfl:=o.lf;have hs':s.length<=1000:=by unfold mu at hm;rw [mS] at hm;omega
      have dn:∀ {m'},m' < m->m'<=1000:=fun h=>by omega
      by_cases hv:v∈ks
      · exact ⟨_,_,XM hv,(by rw [<- hm];exact Ow hv o.pend L.length),F,ks,s,rfl,o.skip hv,rfl,dn (by rw [<- hm];exact Ow hv o.pend L.length)⟩
      · have okv:=hL v _ hx;cases q:L[v] with
        | inp k =>
          rw [q] at hx okv;exact ⟨_,_,Ov hv rfl hx o.lf (by omega),by rw [<- hm];exact EG L.length,_,_,s,rfl,o.emit hL ht hv okv (fun _ i k' _ hk=>by unfold QP at hk;rw [hx] at hk;cases hk),rfl,dn (by rw [<- hm];exact EG L.length)⟩
        | fix c =>
          rw [q] at hx okv;exact ⟨_,_,Ov hv rfl hx o.lf (by omega),by rw [<- hm];exact EG L.length,_,_,s,rfl,o.emit hL ht hv okv (fun _ i k' _ hk=>by unfold QP at hk;rw [hx] at hk;cases hk),rfl,dn (by rw [<- hm];exact EG L.length)⟩
        | act d ps =>
          rw [q] at hx okv;have pv:QP L v=ps:=by unfold QP;rw [hx];rfl
          have pl:ps.length<=2:=by obtain ⟨⟨r,_,h1,h2,_⟩,_⟩:=okv;omega
          cases b with
          | true =>
            have hp:∀ p∈ps,p∈ks:=fun p hp=>(o.ab.1 rfl p (by rw [pv];exact hp)).resolve_right (by simp)
            refine ⟨_,_,gV hv hx hp o.lf (by omega) (by omega),by rw [<- hm];exact EG L.length,_,_,s,rfl,o.emit hL ht hv ?_ (fun _ i k hk hm=>?_),rfl,dn (by rw [<- hm];exact EG L.length)⟩
            · obtain ⟨⟨r,h1,h2,h3⟩,_⟩:=okv;refine ⟨⟨r,h1,by simpa using h2,h3⟩,fun p hp'=>?_⟩;obtain ⟨x,hx',rfl⟩:=mr.mp hp';rw [o.lf];exact pY.mpr (hp x hx')
            · rw [pv] at hm;refine mr.mpr ⟨k,hm,?_⟩;obtain ⟨hi,rfl⟩:=mB.mp hk;have h1:ks.idxOf ks[i] < ks.length:=pY.mpr (nu hi);have:=List.getElem_idxOf h1;exact (oq o.nd).mp this
          | false =>
            have ns:(v,true)∉s:=fun z=>by have:=o.g.2.1 (v,true) z rfl;simp at this
            exact ⟨_,_,gU hv hx hs' (by omega),(by rw [<- hm];exact ZR hv vL ns pl),_,_,_,rfl,o.expand hL hv hx,rfl,dn (by rw [<- hm];exact ZR hv vL ns pl)⟩) 1000000 (mu L.length [] [(top,false)]) _ (by unfold mu;have:=Zn (fun u=>decide (u∉([]:List Nat)) && decide ((u,true)∉[(top,false)])) L.length;simp only [nN];omega) ⟨[],[],[(top,false)],rfl,⟨rfl,by simp,(fun _ z=>by cases z),(fun i x h=>by simp at h),⟨.inl ⟨rfl,rfl⟩,(fun _ z=>by cases z),trivial⟩,(fun q hq=>by simp at hq),⟨(fun z=>by cases z),trivial⟩,(fun i k h=>by simp at h),.inl ⟨by simp,by simp⟩⟩,rfl,by unfold mu;have:=Zn (fun u=>decide (u∉([]:List Nat)) && decide ((u,true)∉[(top,false)])) L.length;simp only [nN];omega⟩
  have kl:ks.length<=L.length:=He o.nd o.lt;have lf:=o.lf;obtain ⟨k0,rfl,nt⟩:∃ k0,ks=k0++[top]/\top∉k0:=o.fin.elim (fun z=>(z.2 rfl).elim) fun z=>z.2
  have l0:0 < F.length:=by rw [lf];simp
  refine ⟨F,?_,o.ok,fun i hi=>?_,l0,by omega⟩
  · unfold Cv;have e':OX Br (Ac (.lst (nD L))) 1000000 (.lst [],.dct [] [],.lst [.tup [.int (top:Nat),.bl false]])=some (.lst (nD F),BL (k0++[top]),stk []):=e;rw [e'];simp only [dL,AI,FF];have:Ku (.int (F.length:Nat)) (.int 1)=some (.int ((F.length - 1:Nat))):=by
      show some (Dv.int ((F.length:Int) - 1))=_;congr 2;omega
    rw [this];rfl
  · have hi':i < k0.length:=by rw [lf,mV,nN] at hi;omega
    rcases o.cov i k0[i] (by rw [mH hi'];exact lz hi') with z | ⟨q,hq,_⟩ | z
    · exact z
    · cases hq
    · exact (nt (z▸nu hi')).elim
end
def ki (I:Nat) (fs ds:List Dv) (x:Dv):Prop:=∃ F,x=.tup [.tup (nD F),.int ((F.length - 1:Nat))]/\Dr I fs ds F/\lP F/\0 < F.length/\F.length<=100
theorem Qv {γ:Type} {P:Nat->γ->Prop} (g:Dv->γ->Option γ) (n:Nat) (c:γ) (h0:P 0 c) (h:∀ i < n,∀ c,P i c->∃ c',g (.int (i:Nat)) c=some c'/\P (i+1) c'):∃ c',Az g ((List.range n).map fun k=>.int (k:Nat)) c=some c'/\P n c':=by
 obtain ⟨c',e,p⟩:=FG g P ((List.range n).map fun k=>.int (k:Nat)) 0 c h0 fun i x hx c hc=>by
  rw [mR] at hx;have hi:i < n:=by
   rcases nZ i n with h | h
   ·exact h
   ·rw [nE (by simp;omega)] at hx;cases hx
  rw [lz (by simp;omega)] at hx;simp only [mj,Option.some.injEq,oY] at hx;subst hx;rw [oG] at hc ⊢;exact h i hi c hc
 exact ⟨c',e,by simpa using p⟩
theorem fC (ts:List Nat):(tI ts).cmp=true/\(tI ts).dep<=1:=by
 have a:∀ ts:List Nat,AX (nI ts)=true/\Aj (nI ts)=0:=fun ts=>by
  induction ts with
  | nil=>exact ⟨rfl,rfl⟩
  | cons t ts ih =>
   simp only [nI] at ih;simp only [nI,mJ,AX,Aj,Dv.cmp,Dv.dep,ih.1,ih.2,my];exact ⟨trivial,rfl⟩
 simp only [tI,Dv.cmp,Dv.dep,a ts];exact ⟨trivial,mF _⟩
section
variable {I:Nat} {fs ds:List Dv}
theorem ZP {i:Nat} {x:Nd} (h:GM I fs ds i x):x.dv.cmp=true/\x.dv.dep<=2:=by
 cases x with
 | inp k=>exact ⟨rfl,by simp [Nd.dv,HB,Dv.dep,Aj]⟩
 | fix c=>obtain ⟨_,l,rfl⟩:=h;exact ⟨rfl,by simp [Nd.dv,FU,Dv.dep,Aj]⟩
 | act d ps =>
  obtain ⟨⟨r,_,_,_,l,rfl⟩,_⟩:=h;obtain ⟨h1,h2⟩:=fC ps;simp only [Nd.dv,SV,Dv.cmp,AX,Dv.dep,Aj,h1,my];exact ⟨trivial,by omega⟩
theorem ZO:∀ {L:List Nd},(∀ x∈L,∃ i,GM I fs ds i x)->AX (nD L)=true/\Aj (nD L)<=2
 | [],_=>⟨rfl,by decide⟩
 | x::L,h=>by
  obtain ⟨h1,h2⟩:=ZO (L:=L) fun y hy=>h y (mE _ hy)
  obtain ⟨i,hi⟩:=h x mC;obtain ⟨h3,h4⟩:=ZP hi;simp only [nD] at h1 h2;simp only [nD,mJ,AX,Aj,h1,h3,my];exact ⟨trivial,by omega⟩
theorem UB {L:List Nd} {i:Nat} {x:Nd} (hx:GM I fs ds i x) (hL:Dr I fs ds L):∃ b,IC x.dv (.lst (nD L))=some b/\(L=[]->b=true):=by
 obtain ⟨h1,h2⟩:=ZO (L:=L) fun y hy=>by obtain ⟨j,hj⟩:=oz hy;exact ⟨j,hL j y hj⟩
 have h3:=(ZP hx).1;refine ⟨!GE x.dv (nD L),?_,fun e=>by rw [e];rfl⟩;have c:(x.dv.cmp && AX (nD L) && decide (Aj (nD L)<=150))=true:=by rw [h1,h3,my,pE];exact decide_eq_true (by omega)
 have v:eW (.lst (nD L))=some (nD L):=rfl;cases x<;>simp only [Nd.dv] at c ⊢<;>simp only [Kq,v,c,if_true]
theorem Xh (L:List Nd):Ad (.lst (nD L))=some (.int (L.length:Nat)):=FF L
theorem VG {a:Dv} {r:Int} {x:Dv} (h:x∈ds) (hd:∀ x∈ds,Ei 5 x):∃ a r,x=.tup [a,.int r]/\(∃ l,a=.str l)/\(r=1\/r=2)/\Dv.tup [a,.int r]∈ds:=by
 obtain ⟨a,r,rfl,⟨l,rfl,_⟩,hr⟩:=hd x h;exact ⟨_,r,rfl,⟨l,rfl⟩,hr,h⟩
theorem Dr.snoc {L:List Nd} {x:Nd} (h:Dr I fs ds L) (hx:GM I fs ds L.length x):Dr I fs ds (L++[x]):=fun i y hy=>by
 rcases nZ i L.length with w | w
 ·rw [mH w] at hy;exact h i y hy
 ·have:i=L.length:=by have:=(mB.mp hy).1;simp at this;omega
  subst this;rw [me (mF _),nP] at hy;cases hy;exact hx
variable (hfs:∀ x∈fs,Tx 10 x) (hds:∀ x∈ds,Ei 5 x) (hdl:ds.length<=1000)
include hds hdl
theorem RB {f:Dv} (hf:Fd f) (h0:0 < ds.length):∃ (r:Nat) (f' a:Dv) (k:Int),AH f (.int (ds.length:Nat))=some (.int r,f')/\Fd f'/\AA (.tup ds) (.int r)=some (.tup [a,.int k])/\(∃ l,a=.str l)/\(k=1\/k=2)/\Dv.tup [a,.int k]∈ds:=by
 obtain ⟨r,f',e,b,hf'⟩:=AF hf (n:=((ds.length:Nat):Int)) (by omega) (by omega);obtain ⟨x,hx,ex⟩:=Vt (xs:=ds) (i:=r) (by omega) b;obtain ⟨a,k,rfl,h1,h2,h3⟩:=VG (a:=.non) (r:=0) hx hds;exact ⟨r,f',a,k,e,hf',ex,h1,h2,h3⟩
theorem iC {f:Dv} (hf:Fd f) {L:List Nd} (hL:Dr I fs ds L) (hl:L.length<=100) {y:Nd} (hy:GM I fs ds L.length y):∃ x f',HI (.tup [.tup fs,.tup ds]) (.lst (nD L)) f y.dv=some (f',x.dv)/\GM I fs ds L.length x/\Fd f':=by
 have i1:AA (.tup [.tup fs,.tup ds]) (.int 1)=some (.tup ds):=rfl;have l1:Ad (.tup ds)=some (.int (ds.length:Nat)):=rfl;have t:∃ b f',HE (.tup [.tup fs,.tup ds]) (.lst (nD L)) f=some (b,f')/\Fd f'/\(b=true->0 < L.length/\0 < ds.length):=by
  unfold HE;simp only [Xh,dL,Bw]
  by_cases h0:(0:Int) < (L.length:Nat)
  ·simp only [h0,decide_true,if_true];unfold LP;simp only [i1,l1,dL,Bw]
   by_cases h1:(0:Int) < (ds.length:Nat)
   ·obtain ⟨r,f',e,b,hf'⟩:=AF hf (n:=4) (by decide) (by decide);simp only [h1,decide_true,if_true,e,dL,Bw];exact ⟨_,f',rfl,hf',fun _=>by omega⟩
   ·simp only [h1,decide_false,mI,if_false,dL];exact ⟨_,f,rfl,hf,fun z=>by cases z⟩
  ·simp only [h0,decide_false,mI,if_false];exact ⟨_,f,rfl,hf,fun z=>by cases z⟩
 obtain ⟨b,f1,e1,hf1,hb⟩:=t;unfold HI;rw [e1];cases b with
 | false=>exact ⟨y,f1,rfl,hy,hf1⟩
 | true =>
  obtain ⟨L0,d0⟩:=hb rfl;obtain ⟨r,f2,a,k,e2,hf2,ex,⟨l,rfl⟩,hk,hm⟩:=RB hds hdl hf1 d0;have er:BS [.int k]=some ((List.range k.toNat).map fun j=>.int (j:Nat)):=EB (by omega) (by omega);obtain ⟨qs,f3,e3,l3,h3,hf3⟩:=CF (HR (.lst (nD L))) Fd (fun d=>∃ p:Nat,d=.int p/\p < L.length) ((List.range k.toNat).map fun j=>.int (j:Nat)) f2 hf2 fun x hx c hc=>by
   obtain ⟨r1,g1,q1,b1,hg1⟩:=AF hc (n:=((L.length:Nat):Int)) (by omega) (by omega);obtain ⟨r2,g2,q2,b2,hg2⟩:=AF hg1 (n:=2) (by decide) (by decide);have s1:Ku (.int (L.length:Nat)) (.int 1)=some (.int ((L.length - 1:Nat))):=by
    show some (Dv.int ((L.length:Int) - 1))=_;congr 2;omega
   obtain ⟨z,hz,ez⟩:=Jl (xs:=[Dv.int ((L.length - 1:Nat)),.int (r1:Nat)]) (i:=r2) (by omega) (by simpa using b2);refine ⟨z,g2,by unfold HR;simp only [Xh,dL,s1,q1,q2,ez],?_,hg2⟩;simp only [mL,mz,or_false] at hz;rcases hz with rfl | rfl
   ·exact ⟨_,rfl,by omega⟩
   ·exact ⟨_,rfl,by omega⟩
  obtain ⟨ps,rfl,hp⟩:=Gy (n:=L.length) (xs:=qs) h3;rw [Ax] at l3;refine ⟨.act (.str l) ps,f3,?_,⟨⟨k,hm,by rw [l3];simp;omega,hk,l,rfl⟩,hp⟩,hf3⟩;simp only [dL,if_true,i1,l1,e2,ex];rw [Gu];simp only [er,dL];rw [AR (by simp;omega),e3];rfl
include hfs
theorem Qu {f:Dv} (hf:Fd f) (hfl:fs.length<=100) (hI:I<=100) (hI0:fs.length=0->0 < I) {many:Nat} (hm0:0 < many) (hm:many<=50):∃ x f',Fo f (.tup [.tup fs,.tup ds]) (.int (I:Nat)) (.int (many:Nat))=some (x,f')/\ki I fs ds x/\Fd f':=by
 have i0:AA (.tup [.tup fs,.tup ds]) (.int 0)=some (.tup fs):=rfl;have l0:Ad (.tup fs)=some (.int (fs.length:Nat)):=rfl;have it:items (.tup fs)=some fs:=rfl;have mx:∃ d3,(IX (.int (fs.length:Nat)) (.int 0)).bind (fun b2=>FP (.bl b2))=some d3/\DK (.int (I:Nat)) d3=some (.int (I:Nat)):=by
  rw [BH];simp only [dL,FP];refine ⟨_,rfl,?_⟩;simp only [DK]
  by_cases h:(fs.length:Int)=0
  ·have:=hI0 (by omega);simp only [h,decide_true,if_true];rw [if_neg (by omega)]
  ·simp only [h,decide_false,mI,if_false];rw [if_neg (by omega)]
 obtain ⟨d3,m1,m2⟩:=mx;obtain ⟨b2,q1,q2⟩:=oH.mp m1;have rg:=Jx I (by omega);have y7:AW Eo ((List.range I).map fun k=>.int (k:Nat))=some (nD ((List.range I).map Nd.inp)):=by
  have:∀ l:List Nat,AW Eo (l.map fun k=>.int (k:Nat))=some (nD (l.map Nd.inp)):=fun l=>by
   induction l with
   | nil=>rfl
   | cons a l ih=>simp only [nD] at ih;simp only [nD,mJ,AW,Eo,dL,ih];rfl
  exact this _
 have y11:AW En fs=some (nD (fs.map Nd.fix)):=by
  have:∀ l:List Dv,AW En l=some (nD (l.map Nd.fix)):=fun l=>by
   induction l with
   | nil=>rfl
   | cons a l ih=>simp only [nD] at ih;simp only [nD,mJ,AW,En,dL,ih];rfl
  exact this _
 let S:List Nd:=(List.range I).map Nd.inp++fs.map Nd.fix
 have hS:nD ((List.range I).map Nd.inp)++nD (fs.map Nd.fix)=nD S:=by simp [nD,S]
 have lS:S.length=I+fs.length:=by simp [S]
 have okS:∀ x∈S,∀ i,GM I fs ds i x:=fun x hx i=>by
  rcases mU.mp hx with hx | hx
  ·obtain ⟨k,hk,rfl⟩:=mr.mp hx;exact (show k < I by simpa using hk)
  ·obtain ⟨c,hc,rfl⟩:=mr.mp hx;obtain ⟨l,rfl,_⟩:=hfs c hc;exact ⟨hc,l,rfl⟩
 have ad:Ai (.lst (nD ((List.range I).map Nd.inp))) (.lst (nD (fs.map Nd.fix)))=some (.lst (nD S)):=by
  simp only [Ai,if_pos (show (nD ((List.range I).map Nd.inp)).length+(nD (fs.map Nd.fix)).length<=1000000 by simp [Hh];omega),hS]
 obtain ⟨r13,f13,e13,b13,hf13⟩:=AF hf (n:=((many:Nat):Int)) (by omega) (by omega);have oa:Ai (.int 1) (.int (r13:Nat))=some (.int ((1+r13:Nat))):=by rw [Cz];congr 1
 have rg2:=Jx (1+r13) (by omega);obtain ⟨⟨f2,l2⟩,e2,L,rfl,hL,hLl,hL0,hf2⟩:=Qv (P:=fun i c=>∃ L,c.2=.lst (nD L)/\Dr I fs ds L/\L.length<=i/\(0 < i->0 < L.length)/\Fd c.1) (HU (.tup [.tup fs,.tup ds]) (.lst (nD S))) (1+r13) (f13,.lst []) ⟨[],rfl,(fun i x h=>by simp at h),by simp,(fun z=>by omega),hf13⟩ fun i hi c hc=>by
  obtain ⟨f,l⟩:=c;obtain ⟨L,rfl,hL,hLl,hL0,hf⟩:=hc;obtain ⟨r,g1,e1,b1,hg1⟩:=AF hf (n:=((S.length:Nat):Int)) (by omega) (by omega);have hr:r < S.length:=by omega
  obtain ⟨x,g2,e3,hx,hg2⟩:=iC hds hdl hg1 hL (by omega) (okS S[r] (nu hr) L.length);obtain ⟨b,eb,hb⟩:=UB hx hL;unfold HU;simp only [Xh,dL,e1,ZQ hr,e3];unfold LQ;rw [eb];simp only [dL];cases b with
  | true =>
   refine ⟨(g2,.lst (nD (L++[x]))),?_,L++[x],rfl,hL.snoc hx,by simp;omega,(fun _=>by simp),hg2⟩;simp only [if_true,EN,Do (show (nD L).length<=1000000 by rw [Hh];omega),dL];simp [nD]
  | false =>
   refine ⟨(g2,.lst (nD L)),by simp,L,rfl,hL,by omega,fun _=>?_,hg2⟩;rcases Nat.eq_zero_or_pos L.length with z | z
   ·have:=hb (mq z);cases this
   ·exact z
 have hL0':=hL0 (by omega);obtain ⟨F,eF,okF,cvF,f0,fl⟩:=KF (top:=L.length - 1) hL (by omega) (by omega);refine ⟨_,f2,?_,⟨F,rfl,okF,cvF,f0,by omega⟩,hf2⟩;have s1:Ku (.int (L.length:Nat)) (.int 1)=some (.int ((L.length - 1:Nat))):=by
  show some (Dv.int ((L.length:Int) - 1))=_;congr 2;omega
 unfold Fo;simp only [i0,l0,dL,q1,q2,m2,rg];rw [AR (by simp;omega),y7];simp only [dL,it];rw [AR (by omega),y11];simp only [dL,ad,e13,oa,rg2];rw [e2];simp only [dL,Xh,s1,eF]
end
noncomputable def ZY (st:List Nat->Nd->Nat) (xs:List Nd) (acc:List Nat):List Nat:=xs.foldl (fun a x=>a++[st a x]) acc
theorem JQ {g:Dv->Dv->Option Dv} {st:List Nat->Nd->Nat} (Pv:Nat->Prop):∀ (xs:List Nd) (acc:List Nat),(∀ t∈acc,Pv t)->(∀ i x,xs[i]?=some x->∀ a:List Nat,a.length=acc.length+i->(∀ t∈a,Pv t)->g x.dv (.lst (nI a))=some (.lst (nI (a++[st a x])))/\Pv (st a x))->Az g (nD xs) (.lst (nI acc))=some (.lst (nI (ZY st xs acc)))/\(∀ t∈ZY st xs acc,Pv t)
 | [],acc,ha,_=>⟨rfl,ha⟩
 | x::xs,acc,ha,h=>by
  obtain ⟨e,p⟩:=h 0 x rfl acc rfl ha;obtain ⟨e2,p2⟩:=JQ (g:=g) (st:=st) Pv xs (acc++[st acc x]) (fun t ht=>by
   rcases mU.mp ht with ht | ht
   ·exact ha t ht
   ·rw [mY] at ht;rw [ht];exact p) fun i y hy a hl hp=>h (i+1) y hy a (by rw [hl];simp;omega) hp
  refine ⟨?_,p2⟩;simp only [nD] at e2;simp only [nD,mJ,Az,e,dL];exact e2
theorem KU (st:List Nat->Nd->Nat):∀ (xs:List Nd) (acc:List Nat),(ZY st xs acc).length=acc.length+xs.length
 | [],acc=>rfl
 | x::xs,acc=>by
  have:=KU st xs (acc++[st acc x]);unfold ZY at *;rw [oJ,this];simp;omega
theorem KR {l:List Nat}:∀ {fs:List Dv},Dv.str l∈fs->∃ j,FE (.str l) fs=some j/\j < fs.length
 | [],h=>by cases h
 | x::xs,h=>by
  unfold FE
  by_cases e:R.eqV x (.str l)=true
  ·exact ⟨0,by rw [if_pos e],by simp⟩
  ·have:Dv.str l∈xs:=(mL.mp h).resolve_left fun z=>e (by rw [<- z];simp [R.eqV])
   obtain ⟨j,q,hj⟩:=KR this;exact ⟨j+1,by rw [if_neg e,q];rfl,by simp;omega⟩
theorem Ke {l:List Nat} {r:Int}:∀ {ds:List Dv},(∀ x∈ds,Ei 5 x)->DP ds->Dv.tup [.str l,.int r]∈ds->∃ j,FE (.str l) (ds.map Rp)=some j/\ds[j]?=some (.tup [.str l,.int r])
 | [],_,_,h=>by cases h
 | x::xs,hd,pw,h=>by
  rw [mJ];unfold FE;rcases mL.mp h with e | hm
  ·refine ⟨0,?_,by rw [<- e];rfl⟩;rw [if_pos (by rw [<- e];simp [Rp,R.eqV])]
  ·obtain ⟨a,r',rfl,⟨l',rfl,_⟩,_⟩:=hd x mC;have ne:=(List.pairwise_cons.mp pw).1 _ hm;have e:¬ R.eqV (Rp (.tup [.str l',.int r'])) (.str l)=true:=fun z=>ne (by simp [Rp,R.eqV] at z ⊢;exact z)
   obtain ⟨j,q,hj⟩:=Ke (fun y hy=>hd y (mE _ hy)) (List.pairwise_cons.mp pw).2 hm;exact ⟨j+1,by rw [if_neg e,q];rfl,by simpa using hj⟩
theorem Gd {R:Dv->Dv->Prop}:∀ {xs ys:List Dv},Paired R xs ys->∀ {j:Nat} {x:Dv},xs[j]?=some x->∃ y,ys[j]?=some y/\R x y
 | _,_,.nil,j,x,h=>by simp at h
 | _,_,.cons r p,0,x,h=>by simp at h;subst h;exact ⟨_,rfl,r⟩
 | _,_,.cons r p,j+1,x,h=>by obtain ⟨y,e,z⟩:=Gd p (j:=j) (by simpa using h);exact ⟨y,by simpa using e,z⟩
theorem Js:∀ {xs:List Dv},(∀ x∈xs,∃ l,x=.str l)->AX xs=true/\Aj xs=0
 | [],_=>⟨rfl,rfl⟩
 | x::xs,h=>by
  obtain ⟨l,rfl⟩:=h x mC;obtain ⟨h1,h2⟩:=Js (xs:=xs) fun y hy=>h y (mE _ hy)
  simp only [AX,Aj,Dv.cmp,Dv.dep,h1,h2,my];exact ⟨trivial,rfl⟩
def Dp (t:Dv):List Nat->Dv
 | []=>t
 | a::as=>Dp (sub t a) as
def ac (t:Dv) (ths:List Nat):Nat:=match Dp t ths with | .int c=>c.toNat | _=>0
theorem Oa {n:Nat} {r:Int} {t:Dv} {ths:List Nat} (ht:Tab n r t) (hr:r=1\/r=2) (hl:(ths.length:Int)=r) (hx:∀ a∈ths,a < n):Az Gb (nI ths) t=some (.int (ac t ths:Nat))/\ac t ths < n:=by
 rcases hr with rfl | rfl
 ·obtain ⟨a,rfl⟩:∃ a,ths=[a]:=ot.mp (by omega);obtain ⟨e,b⟩:=BF ht.one (hx a mC);have s:sub t a=.int (FR t a:Nat):=by unfold sub;rw [e];rfl
  have c:ac t [a]=FR t a:=by unfold ac Dp Dp;rw [s];simp
  rw [c];exact ⟨by simp only [nI,mJ,oP,Az,Gb,e,dL],b⟩
 ·obtain ⟨a,b,rfl⟩:∃ a b,ths=[a,b]:=match ths,(show ths.length=2 by omega) with | [a,b],_=>⟨a,b,rfl⟩
  obtain ⟨e,rw1⟩:=By ht.two (hx a mC);obtain ⟨e2,b2⟩:=BF rw1 (hx b (by simp));have s:sub (sub t a) b=.int (FR (sub t a) b:Nat):=by unfold sub at e2 ⊢;rw [e2];rfl
  have c:ac t [a,b]=FR (sub t a) b:=by unfold ac Dp Dp Dp;rw [s];simp
  rw [c];exact ⟨by simp only [nI,mJ,oP,Az,Gb,e,e2,dL],b2⟩
def GU (ds T:List Dv) (d:Dv):Dv:=T.getD ((FE d (ds.map Rp)).getD 0) .non
def GY (fs:List Dv) (cs:List Nat) (c:Dv):Nat:=cs.getD ((FE c fs).getD 0) 0
def nv (fs ds:List Dv) (cs ins:List Nat) (T:List Dv) (acc:List Nat):Nd->Nat
 | .inp k=>ins.getD k 0
 | .fix c=>GY fs cs c
 | .act d ps=>ac (GU ds T d) (ps.map fun p=>acc.getD p 0)
section
variable {n I:Nat} {fs ds:List Dv} {w:Dv} {cs ins:List Nat} {T:List Dv}
theorem NU (hd:∀ x∈ds,Ei 5 x) (g:Dv->Option Dv) (hg:∀ a r,g (.tup [a,.int r])=some a):AW g ds=some (ds.map Rp):=by
 induction ds with
 | nil=>rfl
 | cons x xs ih =>
  obtain ⟨a,r,rfl,_⟩:=hd x mC;simp only [AW,hg,ih fun y hy=>hd y (mE _ hy),dL,mJ];rfl
theorem UD (hd:∀ x∈ds,Ei 5 x):AX (ds.map Rp)=true/\Aj (ds.map Rp)=0:=Js fun x hx=>by
 obtain ⟨y,hy,rfl⟩:=mr.mp hx;obtain ⟨a,r,rfl,⟨l,rfl,_⟩,_⟩:=hd y hy;exact ⟨l,rfl⟩
theorem RC (hd:∀ x∈ds,Ei 5 x) (hdl:ds.length<=1000) (pw:DP ds) (W:Wl n fs.length ds w cs T) {l:List Nat} {r:Int} (hm:Dv.tup [.str l,.int r]∈ds) (hr:r=1\/r=2) {ths:List Nat} (hl:(ths.length:Int)=r) (hx:∀ a∈ths,a < n) :
    LU (.tup [.tup fs,.tup ds]) w (.str l) (.lst (nI ths))=some (.int (ac (GU ds T (.str l)) ths:Nat))/\ac (GU ds T (.str l)) ths < n:=by
  obtain ⟨j,ej,hj⟩:=Ke hd pw hm;obtain ⟨t,et,ht⟩:=Gd W.2.2.2 hj;obtain ⟨a',r',e,_,ht⟩:=ht;simp only [Dv.tup.injEq,List.cons.injEq,Dv.int.injEq,and_true] at e;obtain ⟨_,rfl⟩:=e;have td:GU ds T (.str l)=t:=by unfold GU;rw [ej];simp [List.getD,et]
  rw [td];obtain ⟨h1,h3⟩:=Oa ht hr hl hx;have i1:AA (.tup [.tup fs,.tup ds]) (.int 1)=some (.tup ds):=rfl;have it:items (.tup ds)=some ds:=rfl;have it2:items (.lst (nI ths))=some (nI ths):=rfl;obtain ⟨c1,c2⟩:=UD hd;have ix:Dq (.lst (ds.map Rp)) (.str l)=some (.int (j:Nat)):=by
    simp only [Dq,Dv.cmp,c1,c2,my,nG,decide_true,if_true,ej,mj]
  have jT:j < T.length:=(mB.mp et).1;have at_:AA (.tup T) (.int (j:Nat))=some t:=by
    show ES T (j:Int)=_;rw [atI_nat T j jT];rw [lz jT] at et;exact et
  refine ⟨?_,h3⟩
  · unfold LU Et HG;simp only [W.w2,i1,it,dL];rw [AR (by omega),NU hd HP (fun a r=>rfl)];simp only [dL,EN,ix,Option.some_or,at_,it2];rw [h1];rfl
theorem Nh (hfs:∀ x∈fs,Tx 10 x) (W:Wl n fs.length ds w cs T) {c:Dv} (hc:c∈fs):∃ j:Nat,EW (.tup [.tup fs,.tup ds]) c=some (.int (j:Nat))/\AA (tI cs) (.int (j:Nat))=some (.int (GY fs cs c:Nat))/\GY fs cs c < n:=by
 obtain ⟨l,rfl,_⟩:=hfs c hc;obtain ⟨j,ej,hj⟩:=KR hc;obtain ⟨c1,c2⟩:=Js (xs:=fs) fun x hx=>by obtain ⟨l,e,_⟩:=hfs x hx;exact ⟨l,e⟩
 have i0:AA (.tup [.tup fs,.tup ds]) (.int 0)=some (.tup fs):=rfl;have ix:Bq (.tup fs) (.str l)=some (.int (j:Nat)):=by
  simp only [Bq,Dv.cmp,c1,c2,my,nG,decide_true,if_true,ej,mj]
 have jl:j < cs.length:=by rw [W.2.1];exact hj
 have fv:GY fs cs (.str l)=cs.getD j 0:=by unfold GY;rw [ej];rfl
 refine ⟨j,?_,by rw [fv];exact CV jl,by rw [fv];exact W.2.2.1 _ (getD_mem jl)⟩
 ·unfold EW;simp only [i0,dL,ZV,gp,ix,Option.none_or]
variable {inp:Dv}
theorem Qc (hfs:∀ x∈fs,Tx 10 x) (hd:∀ x∈ds,Ei 5 x) (hdl:ds.length<=1000) (pw:DP ds) (W:Wl n fs.length ds w cs T) (hin:∀ k < I,AA inp (.int (k:Nat))=some (.int (ins.getD k 0:Nat))/\ins.getD k 0 < n) {i:Nat} {x:Nd} (hx:GM I fs ds i x) {a:List Nat} (hl:a.length=i) (ha:∀ t∈a,t < n) :
    BR (.tup [.tup fs,.tup ds]) x.dv w inp (.lst (nI a))=some (.int (nv fs ds cs ins T a x:Nat))/\nv fs ds cs ins T a x < n:=by
  cases x with
  | inp k =>
    have e0:AA (Nd.inp k).dv (.int 0)=some HB:=rfl;have e1:AA (Nd.inp k).dv (.int 1)=some (.int (k:Nat)):=rfl;have b:IX HB (.str [105,110,112,117,116])=some true:=rfl;unfold BR;simp only [e0,e1,dL,b,if_true,(hin k hx).1];exact ⟨rfl,(hin k hx).2⟩
  | fix c =>
    have e0:AA (Nd.fix c).dv (.int 0)=some FU:=rfl;have e1:AA (Nd.fix c).dv (.int 1)=some c:=rfl;have b:IX FU (.str [105,110,112,117,116])=some false:=rfl;have b2:IX FU (.str [102,105,120,101,100])=some true:=rfl;obtain ⟨j,h1,h2,h3⟩:=Nh hfs W hx.1;unfold BR Ex;simp only [e0,e1,dL,b,b2,mI,if_false,if_true,W.w1,h1,h2];exact ⟨rfl,h3⟩
  | act d ps =>
    obtain ⟨⟨r,hm,hpl,hr,l,rfl⟩,hp⟩:=hx;have e0:AA (Nd.act (.str l) ps).dv (.int 0)=some SV:=rfl;have e1:AA (Nd.act (.str l) ps).dv (.int 1)=some (.str l):=rfl;have e2:AA (Nd.act (.str l) ps).dv (.int 2)=some (tI ps):=rfl;have it:items (tI ps)=some (nI ps):=rfl;have b:IX SV (.str [105,110,112,117,116])=some false:=rfl;have b2:IX SV (.str [102,105,120,101,100])=some false:=rfl;have m:AW (CB (.lst (nI a))) (nI ps)=some (nI (ps.map fun p=>a.getD p 0)):=by
      have:∀ qs:List Nat,(∀ p∈qs,p < i)->AW (CB (.lst (nI a))) (nI qs)=some (nI (qs.map fun p=>a.getD p 0)):=fun qs hq=>by
        induction qs with
        | nil=>rfl
        | cons p qs ih =>
          have ih:=ih fun q z=>hq q (mE _ z)
          have ix:AA (.lst (nI a)) (.int (p:Nat))=some (.int (a.getD p 0:Nat)):=CV (show p < a.length by rw [hl];exact hq p mC);simp only [nI] at ih ix;simp only [nI,mJ,AW,CB,ix,dL,ih]
      exact this ps hp
    obtain ⟨h1,h3⟩:=RC (fs:=fs) hd hdl pw W hm hr (ths:=ps.map fun p=>a.getD p 0) (by simpa using hpl) fun y hy=>by
      obtain ⟨p,hp',rfl⟩:=mr.mp hy;exact ha _ (getD_mem (by rw [hl];exact hp p hp'))
    unfold BR;simp only [e0,e1,e2,it,dL,b,b2,mI,if_false];rw [AR (by rw [Ax];omega),m];simp only [dL,h1];exact ⟨rfl,h3⟩
def DB (fs ds:List Dv) (cs ins:List Nat) (T:List Dv) (F:List Nd):List Nat:=ZY (nv fs ds cs ins T) F []
theorem Gs (hfs:∀ x∈fs,Tx 10 x) (hd:∀ x∈ds,Ei 5 x) (hdl:ds.length<=1000) (pw:DP ds) (W:Wl n fs.length ds w cs T) (hin:∀ k < I,AA inp (.int (k:Nat))=some (.int (ins.getD k 0:Nat))/\ins.getD k 0 < n) {F:List Nd} (hF:Dr I fs ds F) (h0:0 < F.length) (hF1:F.length<=1000) :
    Dc (.tup [.tup fs,.tup ds]) (.tup [.tup (nD F),.int ((F.length - 1:Nat))]) w inp=some (.int ((DB fs ds cs ins T F).getD (F.length - 1) 0:Nat))/\∀ t∈DB fs ds cs ins T F,t < n:=by
  obtain ⟨e,p⟩:=JQ (g:=Er (.tup [.tup fs,.tup ds]) w inp) (st:=nv fs ds cs ins T) (· < n) F [] (fun t h=>by cases h) fun i x hx a hl ha=>by
    obtain ⟨h1,h2⟩:=Qc hfs hd hdl pw W hin (hF i x hx) (a:=a) (by simpa using hl) ha;refine ⟨?_,h2⟩;have hi:=(mB.mp hx).1;have nl:UC (.int (nv fs ds cs ins T a x:Nat))=true:=rfl;unfold Er;simp only [EN,h1,dL,nl,cond_true,Do (show (nI a).length<=1000000 by rw [Ax,hl];simp;omega)];rw [KI];rfl
  refine ⟨?_,p⟩;have i0:AA (.tup [.tup (nD F),.int ((F.length - 1:Nat))]) (.int 0)=some (.tup (nD F)):=rfl;have i1:AA (.tup [.tup (nD F),.int ((F.length - 1:Nat))]) (.int 1)=some (.int ((F.length - 1:Nat))):=rfl;have it:items (.tup (nD F))=some (nD F):=rfl;unfold Dc;simp only [i0,i1,it,dL];have e':Az (Er (.tup [.tup fs,.tup ds]) w inp) (nD F) (.lst [])=some (.lst (nI (DB fs ds cs ins T F))):=e;rw [e'];have ix:AA (.lst (nI (DB fs ds cs ins T F))) (.int ((F.length - 1:Nat)))=some (.int ((DB fs ds cs ins T F).getD (F.length - 1) 0:Nat)):=CV (by unfold DB;rw [KU];simp;omega);simp only [dL,ix]
end
theorem PL {st st':List Nat->Nd->Nat} {r:List Nat}:∀ (xs:List Nd) (a:List Nat),(∀ i x,xs[i]?=some x->∀ b:List Nat,b.length=a.length+i->(∀ t∈b,t < r.length)->st' (b.map fun t=>r.getD t 0) x=r.getD (st b x) 0/\st b x < r.length)->(∀ t∈a,t < r.length)->ZY st' xs (a.map fun t=>r.getD t 0)=(ZY st xs a).map fun t=>r.getD t 0
 | [],a,_,_=>rfl
 | x::xs,a,h,ha=>by
  obtain ⟨e,lt⟩:=h 0 x rfl a rfl ha;have ih:=PL (st:=st) (st':=st') (r:=r) xs (a++[st a x]) (fun i y hy b hl hb=>h (i+1) y hy b (by rw [hl];simp;omega) hb) fun t ht=>by
   rcases mU.mp ht with ht | ht
   ·exact ha t ht
   ·rw [mY] at ht;rw [ht];exact lt
  unfold ZY at *;rw [oJ,oJ,<- ih,pS,e];rfl
theorem De {r b:List Nat} {p:Nat} (h:p < b.length):(b.map fun t=>r.getD t 0).getD p 0=r.getD (b.getD p 0) 0:=by
 simp [List.getD,h]
theorem OQ:∀ {ds T U:List Dv} {j:Nat} {d t u:Dv},ds[j]?=some d->T[j]?=some t->U[j]?=some u->Dv.tup [d,t,u]∈zipD3 ds T U
 | [],_,_,j,_,_,_,h,_,_=>by simp at h
 | _::_,[],_,j,_,_,_,_,h,_=>by simp at h
 | _::_,_::_,[],j,_,_,_,_,_,h=>by simp at h
 | d::ds,t::T,u::U,0,_,_,_,h1,h2,h3=>by simp at h1 h2 h3;subst h1 h2 h3;simp [zipD3]
 | d::ds,t::T,u::U,j+1,_,_,_,h1,h2,h3=>by
  have:=OQ (ds:=ds) (T:=T) (U:=U) (j:=j) (by simpa using h1) (by simpa using h2) (by simpa using h3);simp only [zipD3,mL];exact .inr this
section
variable {n1 n2 I:Nat} {fs ds:List Dv} {one oth:Dv} {cs es ins:List Nat} {T U:List Dv} {r:List Nat}
theorem NT (hfs:∀ x∈fs,Tx 10 x) (hd:∀ x∈ds,Ei 5 x) (pw:DP ds) (W1:Wl n1 fs.length ds one cs T) (W2:Wl n2 fs.length ds oth es U) (hl:r.length=n1) (hr:∀ t∈r,t < n2) (h:la cs es ds T U r=true) (hin:ins.length=I) (hins:∀ t∈ins,t < n1) {i:Nat} {x:Nd} (hx:GM I fs ds i x) {b:List Nat} (bl:b.length=i) (hb:∀ t∈b,t < n1) :
    nv fs ds es (ins.map fun t=>r.getD t 0) U (b.map fun t=>r.getD t 0) x=r.getD (nv fs ds cs ins T b x) 0/\nv fs ds cs ins T b x < n1:=by
  unfold la at h;rw [ly] at h;have l1:∀ c∈cs,c < r.length:=fun c hc=>by rw [hl];exact W1.2.2.1 c hc
  rw [<- EI (by rw [W1.2.1,W2.2.1]) l1] at h;have ecs:=of_decide_eq_true h.1;cases x with
  | inp k =>
    have hk:k < ins.length:=by rw [hin];exact hx
    exact ⟨De hk,hins _ (getD_mem hk)⟩
  | fix c =>
    obtain ⟨l,rfl,_⟩:=hfs c hx.1;obtain ⟨j,ej,hj⟩:=KR hx.1;have jc:j < cs.length:=by rw [W1.2.1];exact hj
    have f1:GY fs cs (.str l)=cs.getD j 0:=by unfold GY;rw [ej];rfl
    have f2:GY fs es (.str l)=es.getD j 0:=by unfold GY;rw [ej];rfl
    show GY fs es (.str l)=r.getD (GY fs cs (.str l)) 0/\GY fs cs (.str l) < n1;rw [f1,f2,<- ecs];exact ⟨De jc,W1.2.2.1 _ (getD_mem jc)⟩
  | act d ps =>
    obtain ⟨⟨q,hm,hpl,hq,l,rfl⟩,hp⟩:=hx;obtain ⟨j,ej,hj⟩:=Ke hd pw hm;obtain ⟨t,et,ht⟩:=Gd W1.2.2.2 hj;obtain ⟨u,eu,hu⟩:=Gd W2.2.2.2 hj;have ht:=(SN ht).2;have hu:=(SN hu).2;have td:GU ds T (.str l)=t:=by unfold GU;rw [ej];simp [List.getD,et]
    have tu:GU ds U (.str l)=u:=by unfold GU;rw [ej];simp [List.getD,eu]
    have ld:=mW.mp h.2 _ (OQ hj et eu);show ac (GU ds U (.str l)) (ps.map fun p=>(b.map fun t=>r.getD t 0).getD p 0)=r.getD (ac (GU ds T (.str l)) (ps.map fun p=>b.getD p 0)) 0/\ac (GU ds T (.str l)) (ps.map fun p=>b.getD p 0) < n1;have em:(ps.map fun p=>(b.map fun t=>r.getD t 0).getD p 0)=(ps.map fun p=>b.getD p 0).map fun t=>r.getD t 0:=by
      rw [nS];exact nc fun p hp'=>De (by rw [bl];exact hp p hp')
    have hths:∀ a∈ps.map (fun p=>b.getD p 0),a < n1:=fun a ha=>by
      obtain ⟨p,hp',rfl⟩:=mr.mp ha;exact hb _ (getD_mem (by rw [bl];exact hp p hp'))
    have hlen:((ps.map fun p=>b.getD p 0).length:Int)=q:=by simpa using hpl
    rw [em,td,tu];generalize ps.map (fun p=>b.getD p 0)=ths at hths hlen;refine ⟨?_,(Oa ht hq hlen hths).2⟩;rcases hq with rfl | rfl
    · obtain ⟨a,rfl⟩:∃ a,ths=[a]:=ot.mp (by omega);have ha:=hths a mC;have ld':Cy t u r=true:=ld;rw [CD hl ht.one] at ld';have s1:sub t a=.int (FR t a:Nat):=by have:=(BF ht.one ha).1;unfold sub;rw [this];rfl
      have hra:r.getD a 0 < n2:=hr _ (getD_mem (by rw [hl];exact ha));have s2:sub u (r.getD a 0)=.int (FR u (r.getD a 0):Nat):=by have:=(BF hu.one hra).1;unfold sub;rw [this];rfl
      have c1:ac t [a]=FR t a:=by unfold ac Dp Dp;rw [s1];simp
      have c2:ac u [r.getD a 0]=FR u (r.getD a 0):=by unfold ac Dp Dp;rw [s2];simp
      show ac u [r.getD a 0]=_;rw [c1,c2,ld' a ha]
    · obtain ⟨a,c,rfl⟩:∃ a c,ths=[a,c]:=match ths,(show ths.length=2 by omega) with | [a,c],_=>⟨a,c,rfl⟩
      have ha:=hths a mC;have hc:=hths c (by simp);have ld':Dh t u r=true:=ld;unfold Dh at ld';rw [mW] at ld';have ra:=(By ht.two ha).2;have hra:r.getD a 0 < n2:=hr _ (getD_mem (by rw [hl];exact ha));have hrc:r.getD c 0 < n2:=hr _ (getD_mem (by rw [hl];exact hc));have rb:=(By hu.two hra).2;have l2:=ld' a (by simp [hl];exact ha);rw [CD hl ra] at l2;have s1:sub (sub t a) c=.int (FR (sub t a) c:Nat):=by have:=(BF ra hc).1;unfold sub at this ⊢;rw [this];rfl
      have s2:sub (sub u (r.getD a 0)) (r.getD c 0)=.int (FR (sub u (r.getD a 0)) (r.getD c 0):Nat):=by have:=(BF rb hrc).1;unfold sub at this ⊢;rw [this];rfl
      have c1:ac t [a,c]=FR (sub t a) c:=by unfold ac Dp Dp Dp;rw [s1];simp
      have c2:ac u [r.getD a 0,r.getD c 0]=FR (sub u (r.getD a 0)) (r.getD c 0):=by unfold ac Dp Dp Dp;rw [s2];simp
      show ac u [r.getD a 0,r.getD c 0]=_;rw [c1,c2,l2 c hc]
theorem Ml (hfs:∀ x∈fs,Tx 10 x) (hd:∀ x∈ds,Ei 5 x) (pw:DP ds) (W1:Wl n1 fs.length ds one cs T) (W2:Wl n2 fs.length ds oth es U) (hl:r.length=n1) (hr:∀ t∈r,t < n2) (h:la cs es ds T U r=true) (hin:ins.length=I) (hins:∀ t∈ins,t < n1) {F:List Nd} (hF:Dr I fs ds F) :
    DB fs ds es (ins.map fun t=>r.getD t 0) U F=(DB fs ds cs ins T F).map fun t=>r.getD t 0:=by
  refine PL F [] (fun i x hx b hb hbt=>?_) (fun t z=>by cases z);have:=NT hfs hd pw W1 W2 hl hr h hin hins (hF i x hx) (b:=b) (by simpa using hb) fun t ht=>by rw [<- hl];exact hbt t ht
  rw [hl];exact this
theorem gj (W:Wl n1 fs.length ds one cs T):la cs cs ds T T (List.range n1)=true:=by
 have rg:∀ {k:Nat},k < n1->(List.range n1).getD k 0=k:=fun {k} hk=>by simp [List.getD,hk]
 unfold la;rw [ly];refine ⟨?_,?_⟩
 ·rw [<- EI rfl fun c hc=>by simpa using W.2.2.1 c hc];refine decide_eq_true ((nc (g:=id) fun c hc=>rg (W.2.2.1 c hc)).trans (List.map_id _))
 ·have l1:∀ {t:Dv},Row n1 t->Cy t t (List.range n1)=true:=fun {t} ht=>(CD (by simp) ht).mpr fun k hk=>by rw [rg hk,rg (BF ht hk).2]
  have go:∀ {ds T:List Dv},Paired (Mj n1) ds T->(zipD3 ds T T).all (Cw (List.range n1))=true:=fun {ds T} p=>by
   induction p with
   | nil=>rfl
   | cons q p ih =>
    simp only [zipD3,nC,ly];refine ⟨?_,ih⟩;obtain ⟨a,rr,rfl,hrr,ht⟩:=q;rcases hrr with rfl | rfl
    ·exact l1 ht.one
    ·show Dh _ _ _=true;unfold Dh;rw [mW];intro k hk;have hk:k < n1:=by simpa using hk
     rw [rg hk];exact l1 (By ht.two hk).2
  exact go W.2.2.2
theorem ME (W1:Wl n1 fs.length ds one cs T) (W2:Wl n2 fs.length ds oth es U) (hl:r.length=n1) (hn:n1<=1000) (hr:∀ t∈r,t < n2) (h:la cs es ds T U r=true):EA (.tup [.tup fs,.tup ds]) one oth (tI r)=some (.bl true):=by
 have m:∀ ts:List Nat,(∀ t∈ts,t < n2)->∃ ps,AW (Dy oth) (nI ts)=some ps/\Kx (.lst ps)=some (.bl true):=fun ts ht=>by
  obtain ⟨ps,e,hp⟩:=KJ (Dy oth) (fun t:Nat=>Dv.int (t:Nat)) (fun _=>true) ts fun t hm=>by
   have b1:eR (.int 0) (.int (t:Nat))=some true:=by simp [eR]
   have b2:dq (.int (t:Nat)) (.int (n2:Nat))=some true:=by
    show some (decide ((t:Int) < (n2:Int)))=_;rw [decide_eq_true (by have:=ht t hm;omega)]
   unfold Dy;simp only [b1,W2.w0,b2,dL,if_true]
  refine ⟨ps,e,hp.trans ?_⟩;simp
 obtain ⟨ps,e,hp⟩:=m r hr;have it:items (tI r)=some (nI r):=rfl;have s:FX one oth (tI r)=some false:=by
  unfold FX;simp only [Ms,W1.w0,dL,Kp,hl,decide_true,oM,mI,if_false,it];rw [AR (by rw [Ax];omega),e];simp only [dL,hp,Jo,oM]
 unfold EA;rw [s];simp only [dL,mI,if_false,Hl W1 W2 (show r.length<=n1 by omega) hn hr,h,Qb,cond_true]
theorem NR {r:List Nat}:∀ {M:List (List Nat)},r∈M->(∀ x∈M,x.length<=1000)->IC (tI r) (.lst (M.map tI))=some false:=fun {M} hm _=>by
 have cd:∀ L:List (List Nat),AX (L.map tI)=true/\Aj (L.map tI)<=1:=fun L=>by
  induction L with
  | nil=>exact ⟨rfl,by decide⟩
  | cons x L ih =>
   simp only [mJ,AX,Aj,tI,Dv.cmp,Dv.dep,Ej,Gr,pE];exact ⟨ih.1,by omega⟩
 have mem:GE (tI r) (M.map tI)=true:=by
  unfold GE;rw [pN];exact ⟨tI r,mr.mpr ⟨r,hm,rfl⟩,by simp only [tI,R.eqV,PU,decide_true]⟩
 have c1:=cd M;have c:((tI r).cmp && AX (M.map tI) && decide (Aj (M.map tI)<=150))=true:=by
  rw [c1.1];simp only [tI,Dv.cmp,Ej,my,pE];exact decide_eq_true (by have:=c1.2;omega)
 show (match eW (.lst (M.map tI)) with | some xs=>if ((tI r).cmp && AX xs && decide (Aj xs<=150))=true then some (!GE (tI r) xs) else none | none=>none)=_;show (if ((tI r).cmp && AX (M.map tI) && decide (Aj (M.map tI)<=150))=true then some (!GE (tI r) (M.map tI)) else none)=_;rw [if_pos c,mem];rfl
end
theorem Ht {γ ρ:Type} (g:Dv->γ->Option (Lp Dv γ ρ)) (P:γ->Prop):∀ (xs:List Dv) (c:γ),P c->(∀ x∈xs,∀ c,P c->∃ c',g x c=some (.go c')/\P c')->∃ c',Ec g xs c=some (.go c')/\P c'
 | [],c,hc,_=>⟨c,rfl,hc⟩
 | x::xs,c,hc,h=>by
  obtain ⟨c1,e1,h1⟩:=h x mC c hc;obtain ⟨c2,e2,h2⟩:=Ht g P xs c1 h1 fun y hy=>h y (mE _ hy)
  exact ⟨c2,by simp only [Ec,e1,dL,e2],h2⟩
section
variable {n1 n2 I:Nat} {fs ds:List Dv} {one oth:Dv} {cs es:List Nat} {T U:List Dv} {r:List Nat}
theorem OH (hfs:∀ x∈fs,Tx 10 x) (hfl:fs.length<=100) (hd:∀ x∈ds,Ei 5 x) (hdl:ds.length<=100) (pw:DP ds) (hI:I<=100) (hI0:fs.length=0->0 < I) (W1:Wl n1 fs.length ds one cs T) (W2:Wl n2 fs.length ds oth es U) (n0:0 < n1) (h1:n1<=4) (hl:r.length=n1) (hr:∀ t∈r,t < n2) (h:la cs es ds T U r=true) {f:Dv} (hf:Fd f) :
    ∃ f',Ew f (.tup [.tup fs,.tup ds]) (.int (I:Nat)) (.lst [one,oth]) (tI r)=some (.bl true,f')/\Fd f':=by
  have unl:∀ {β:Type} (x y:Dv) (g:Dv×Dv->Option β),((Pu [5,6] (.lst [x,y])).bind fun (t:Dv×Dv)=>g t)=g (x,y):=fun _ _ _=>rfl
  have r3:BS [.int 3]=some ((List.range 3).map fun k=>.int (k:Nat)):=Jx 3 (by decide);obtain ⟨f',e,hf'⟩:=Ht (ρ:=Dv) (Fk (.tup [.tup fs,.tup ds]) (.int (I:Nat)) (tI r) one oth) Fd ((List.range 3).map fun k=>.int (k:Nat)) f hf fun x _ f hf=>by
    obtain ⟨x1,f1,e1,⟨F,rfl,hF,_,F0,Fl⟩,hf1⟩:=Qu (I:=I) hfs hd (by omega) hf hfl hI hI0 (many:=8) (by decide) (by decide);have e1':Fo f (.tup [.tup fs,.tup ds]) (.int (I:Nat)) (.int 8)=some (.tup [.tup (nD F),.int ((F.length - 1:Nat))],f1):=e1;obtain ⟨ts,f2,e2,l2,h2,hf2⟩:=CF (Fi one) Fd (fun d=>∃ q:Nat,d=.int q/\q < n1) ((List.range I).map fun k=>.int (k:Nat)) f1 hf1 fun x _ c hc=>by
      obtain ⟨q,f',e,b,hf'⟩:=AF hc (n:=((n1:Nat):Int)) (by omega) (by omega);exact ⟨.int q,f',by unfold Fi;simp only [W1.w0,dL,e],⟨q,rfl,by omega⟩,hf'⟩
    obtain ⟨ins,rfl,hins⟩:=Gy h2;rw [Ax] at l2;have li:ins.length=I:=by simpa using l2
    have m:AW (Dx (tI r)) (nI ins)=some (nI (ins.map fun t=>r.getD t 0)):=by
      have:=Hj (Dx (tI r)) (fun t:Nat=>Dv.int (t:Nat)) (fun t:Nat=>Dv.int (r.getD t 0:Nat)) ins fun t ht=>by
        simp only [Dx,CV (show t < r.length by rw [hl];exact hins t ht),dL]
      unfold nI;rw [this,nS];rfl
    have v1:=Gs hfs hd (by omega) pw W1 (I:=I) (inp:=tI ins) (ins:=ins) (fun k hk=>⟨CV (by omega),hins _ (getD_mem (by omega))⟩) hF F0 (by omega);have v2:=Gs hfs hd (by omega) pw W2 (I:=I) (inp:=tI (ins.map fun t=>r.getD t 0)) (ins:=ins.map fun t=>r.getD t 0) (fun k hk=>⟨CV (by simp;omega),by
      have hk':k < ins.length:=by omega
      rw [De hk'];exact hr _ (getD_mem (by rw [hl];exact hins _ (getD_mem hk')))⟩) hF F0 (by omega)
    have ev:=Ml hfs hd pw W1 W2 hl hr h li hins hF;have lv:F.length - 1 < (DB fs ds cs ins T F).length:=by unfold DB;rw [KU];simp;omega
    have vt:=v1.2 _ (getD_mem lv);have e3:(DB fs ds es (ins.map fun t=>r.getD t 0) U F).getD (F.length - 1) 0=r.getD ((DB fs ds cs ins T F).getD (F.length - 1) 0) 0:=by rw [ev];exact De lv
    have it:items (.tup (nI ins))=some (nI ins):=rfl;have q1:Dc (.tup [.tup fs,.tup ds]) (.tup [.tup (nD F),.int ((F.length - 1:Nat))]) oth (.tup (nI (ins.map fun t=>r.getD t 0)))=some (.int (r.getD ((DB fs ds cs ins T F).getD (F.length - 1) 0) 0:Nat)):=by rw [<- e3];exact v2.1
    have q2:Dc (.tup [.tup fs,.tup ds]) (.tup [.tup (nD F),.int ((F.length - 1:Nat))]) one (.tup (nI ins))=some (.int ((DB fs ds cs ins T F).getD (F.length - 1) 0:Nat)):=v1.1;refine ⟨f2,?_,hf2⟩;unfold Fk;simp only [e1',dL,Jx I (show I<=1000000 by omega)];rw [AR (by simp;omega),e2];simp only [dL,AI,it];rw [AR (by rw [Ax];omega),m];simp only [dL,q1,q2,CV (show (DB fs ds cs ins T F).getD (F.length - 1) 0 < r.length by rw [hl];exact vt),Kp,decide_true,oM,mI,if_false]
  refine ⟨f',?_,hf'⟩;unfold Ew;rw [unl,r3,dL,e];rfl
end
theorem We (n:Nat):List.range n∈rows n n:=LX (by simp) fun t ht=>by simpa using ht
theorem jr {ns:List Int} {k:Nat}:Jw (.scr ns) (.int (k:Nat)) ()=some (.go ()):=by
 obtain ⟨f,e0,hf⟩:=Qw (ns:=ns) (k:=k);obtain ⟨fs,ds,f1,e1,lf,hfs,ld,hd,pw,hf1⟩:=Mx hf;obtain ⟨r2,f2,e2,b2,hf2⟩:=AF hf1 (n:=4) (by decide) (by decide);have e2':AH f1 (.int 4)=some (.int (r2:Nat),f2):=e2;have i0:AA (.tup [.tup fs,.tup ds]) (.int 0)=some (.tup fs):=rfl;have l0:Ad (.tup fs)=some (.int (fs.length:Nat)):=rfl;have mx:∃ (d6:Dv) (I:Nat),(IX (.int (fs.length:Nat)) (.int 0)).bind (fun b=>FP (.bl b))=some d6/\DK (.int (r2:Nat)) d6=some (.int (I:Nat))/\I<=100/\(fs.length=0->0 < I):=by
  rw [BH];simp only [dL,FP,DK]
  by_cases h:(fs.length:Int)=0
  ·simp only [h,decide_true,if_true]
   by_cases h2:(1:Int) > (r2:Nat)
   ·exact ⟨_,1,rfl,by show some (Dv.int (if _ then _ else _))=_;rw [if_pos h2];rfl,by omega,fun _=>by omega⟩
   ·exact ⟨_,r2,rfl,by show some (Dv.int (if _ then _ else _))=_;rw [if_neg h2],by omega,fun _=>by omega⟩
  ·simp only [h,decide_false,mI,if_false];exact ⟨_,r2,rfl,by show some (Dv.int (if (0:Int) > (r2:Nat) then _ else _))=_;rw [if_neg (by omega)],by omega,fun z=>by omega⟩
 obtain ⟨d6,I,m1,m2,hI,hI0⟩:=mx;obtain ⟨b5,q1,q2⟩:=oH.mp m1;obtain ⟨one,oth,f3,n1,n2,e3,p1,p2,W1,p3,p4,W2,hf3⟩:=SI (fs:=fs) hf2 (by omega) (by omega) hd;obtain ⟨cs,T,W1⟩:=W1;obtain ⟨es,U,W2⟩:=W2;have mv:=Hi (fx:=.tup fs) W1 W2 p2 p4;have mo:=Hi (fx:=.tup fs) W2 W2 p4 p4;have hM1:∀ r∈(rows n2 n1).filter (la cs es ds T U),r.length=n1/\(∀ t∈r,t < n2)/\la cs es ds T U r=true:=fun r hr=>by
  obtain ⟨a,b⟩:=nL.mp hr;obtain ⟨c,d⟩:=Dd a;exact ⟨c,d,b⟩
 have hM2:∀ r∈(rows n2 n2).filter (la es es ds U U),r.length=n2/\(∀ t∈r,t < n2)/\la es es ds U U r=true:=fun r hr=>by
  obtain ⟨a,b⟩:=nL.mp hr;obtain ⟨c,d⟩:=Dd a;exact ⟨c,d,b⟩
 have idm:List.range n2∈(rows n2 n2).filter (la es es ds U U):=nL.mpr ⟨We n2,gj W2⟩;have lM1:((rows n2 n1).filter (la cs es ds T U)).length<=256:=mQ (oQ _ _) (HW p4 p2);have lM2:((rows n2 n2).filter (la es es ds U U)).length<=256:=mQ (oQ _ _) (HW p4 p4);have lM2':0 < ((rows n2 n2).filter (la es es ds U U)).length:=List.length_pos_of_mem idm;generalize (rows n2 n1).filter (la cs es ds T U)=M1 at mv hM1 lM1;generalize (rows n2 n2).filter (la es es ds U U)=M2 at mo hM2 lM2 lM2' idm;have len1:Ad (.lst (M1.map tI))=some (.int (M1.length:Nat)):=by show some (Dv.int ((M1.map tI).length:Nat))=_;rw [mX]
 have len2:Ad (.lst (M2.map tI))=some (.int (M2.length:Nat)):=by show some (Dv.int ((M2.map tI).length:Nat))=_;rw [mX]
 have ad1:Ai (.int (M1.length:Nat)) (.int 1)=some (.int ((M1.length+1:Nat))):=by rw [Cz];congr 1
 obtain ⟨at_,f4,e4,b4,hf4⟩:=AF hf3 (n:=((M1.length+1:Nat):Int)) (by omega) (by omega);have ad2:Ai (.lst (cutA (M1.map tI) (some (at_:Int)) none)) (.lst (cutA (M1.map tI) none (some (at_:Int))))=some (.lst (cutA (M1.map tI) (some (at_:Int)) none++cutA (M1.map tI) none (some (at_:Int)))):=by
  have a1:=Gi (M1.map tI) (some (at_:Int)) none;have a2:=Gi (M1.map tI) none (some (at_:Int));rw [mX] at a1 a2;simp only [Ai];rw [if_pos (by omega)]
 have lp:∃ f',Ec (NB (.tup [.tup fs,.tup ds]) (.int (I:Nat)) one oth (.lst (M2.map tI))) (cutA (cutA (M1.map tI) (some (at_:Int)) none++cutA (M1.map tI) none (some (at_:Int))) none (some 6)) f4=some (.go f')/\Fd f':=Ht _ Fd _ f4 hf4 fun x hx f hf=>by
  have hx:x∈M1.map tI:=by
   rcases mU.mp (EJ hx) with z | z
   ·exact EJ z
   ·exact EJ z
  obtain ⟨r,hr,rfl⟩:=mr.mp hx;obtain ⟨a1,a2,a3⟩:=hM1 r hr;obtain ⟨g1,c1,hg1⟩:=OH hfs (by omega) hd (by omega) pw hI hI0 W1 W2 p1 p2 a1 a2 a3 hf;obtain ⟨q,g2,c2,cb,hg2⟩:=AF hg1 (n:=((M2.length:Nat):Int)) (by omega) (by omega);obtain ⟨y,hy,ey⟩:=Jl (xs:=M2.map tI) (i:=q) (by omega) (by rw [mX];omega);obtain ⟨b,hb,rfl⟩:=mr.mp hy;obtain ⟨d1,d2,d3⟩:=hM2 b hb;have it:items (tI r)=some (nI r):=rfl;have m:AW (Jv (tI b)) (nI r)=some (nI (Ed r b)):=by
   have:=Hj (Jv (tI b)) (fun t:Nat=>Dv.int (t:Nat)) (fun t:Nat=>Dv.int (b.getD t 0:Nat)) r fun t ht=>by
    simp only [Jv,CV (show t < b.length by rw [d1];exact a2 t ht),dL]
   unfold nI;rw [this];simp [Ed]
  have im:=ME W1 W2 (r:=Ed r b) (by simpa [Ed] using a1) (by omega) (fun t ht=>by
   obtain ⟨x,hx,rfl⟩:=mr.mp ht;exact d2 _ (getD_mem (by rw [d1];exact a2 x hx))) (Xi W1 W2 W2 a1 a2 d1 a3 d3)
  have im':EA (.tup [.tup fs,.tup ds]) one oth (.tup (nI (Ed r b)))=some (.bl true):=im;refine ⟨g2,?_,hg2⟩;unfold NB;simp only [c1,dL,Jo,oM,mI,if_false,len2,c2,ey,it];rw [AR (by rw [Ax,a1];omega),m];simp only [dL,AI,im',Qb,cond_true,Jo,oM,mI,if_false]
 obtain ⟨f5,e5,hf5⟩:=lp;have sl1:∀ (xs:List Dv) (lo hi:Option Int),Kv (.lst xs) lo hi=some (.lst (cutA xs lo hi)):=fun _ _ _=>rfl
 have its:∀ xs:List Dv,items (.lst xs)=some xs:=fun _=>rfl
 have tr:EK [.int (n2:Nat)]=some (tI (List.range n2)):=by
  have sm:R.small (n2:Int)=true:=by unfold R.small;simp;omega
  simp only [EK];rw [if_pos ⟨sm,by omega⟩];simp [tI,nI]
 have ni:=NR idm (fun x hx=>by have:=(hM2 x hx).1;omega);unfold Jw;simp only [e0,dL];rw [e1];simp only [dL,e2',i0,l0,q1,q2,m2,e3];rw [Gu];simp only [mv,mo,dL,len1,ad1,e4,dr,sl1,ad2,its];rw [e5];simp only [dL,Rs.el,W2.w0,tr,ni,mI,if_false]
theorem UO (ns:List Int) (h:ns.length<=63):one Wc [Dv.scr ns]=some (Dv.bl true):=by
 show Wc (Dv.scr ns)=_;have l:Ad (.scr ns)=some (.int (ns.length:Nat)):=rfl;have:∃ d:Int,(Jk (.int 4) (.int (ns.length:Nat))).bind (fun d1=>DK (.int 3) d1)=some (.int d)/\1<=d/\d<=4:=by
  simp only [Jk,DK,dL];exact ⟨_,rfl,by split<;>(split<;>omega),by split<;>(split<;>omega)⟩
 obtain ⟨d,ed,d1,d2⟩:=this;obtain ⟨x,ex,ed⟩:=oH.mp ed;have sm:(R.small 1 && R.small d)=true:=by unfold R.small;simp;omega
 have rg:QL [.int 1,.int d]=some ((List.range (d - 1).toNat).map fun k=>.int (1+(k:Nat))):=by simp only [QL,sm,cond_true]
 unfold Wc;rw [l,dL,ex,dL,ed,dL,rg,dL];rw [PK (Jw (.scr ns)) () _ fun y hy=>by
  obtain ⟨k,_,rfl⟩:=mr.mp hy;exact jr (k:=1+k)]
 rfl
theorem Ra:Ao "table_in" (top 1):=Vi (by kernel_rfl) (by intros;kernel_rfl)
theorem dh:Ao "done" (top 2):=Rc (by kernel_rfl) (by intros;kernel_rfl)
theorem Rb:Ao "fixed_in" (top 3):=Vi (by kernel_rfl) (by intros;kernel_rfl)
theorem IW:Ao "longer_by_one" (top 4):=Me (by kernel_rfl) (by intros;kernel_rfl)
theorem Km:Ao "table_leads" (top 8):=Rc (by kernel_rfl) (by intros;kernel_rfl)
theorem Kn:Ao "leads_alike" (top 7):=Rc (by kernel_rfl) (by intros;kernel_rfl)
theorem Vh:Ao "is_move" (top 6):=Rc (by kernel_rfl) (by intros;kernel_rfl)
theorem Yb:Ao "moves" (top 9):=Vi (by kernel_rfl) (by intros;kernel_rfl)
theorem Mb:Ao "node_value" (top 12):=iq (by kernel_rfl) (by intros;kernel_rfl)
theorem Ya:Ao "value" (top 11):=Rc (by kernel_rfl) (by intros;kernel_rfl)
theorem Yf:Ao "_law_feed" (top 14):=Me (by kernel_rfl) (by intros;kernel_rfl)
theorem Yc:Ao "_law_take" (top 15):=Me (by kernel_rfl) (by intros;kernel_rfl)
theorem Vf:Ao "_law_names" (top 16):=Me (by kernel_rfl) (by intros;kernel_rfl)
theorem Ve:Ao "_law_shape" (top 17):=kX (by kernel_rfl) (by intros;kernel_rfl)
theorem Vd:Ao "_law_world" (top 18):=Vi (by kernel_rfl) (by intros;kernel_rfl)
theorem OG:Ao "_law_ordered" (top 19):=Me (by kernel_rfl) (by intros;kernel_rfl)
theorem Yd:Ao "_law_form" (top 20):=Rc (by kernel_rfl) (by intros;kernel_rfl)
theorem Mc:Ao "_law_shuffled" (top 21):=Me (by kernel_rfl) (by intros;kernel_rfl)
theorem OF:Ao "_law_renamed" (top 22):=Vi (by kernel_rfl) (by intros;kernel_rfl)
theorem Ye:Ao "_law_flat" (top 23):=Me (by kernel_rfl) (by intros;kernel_rfl)
theorem Ko:Ao "_law_two_worlds" (top 24):=Me (by kernel_rfl) (by intros;kernel_rfl)
theorem Vg:Ao "_law_along" (top 25):=iq (by kernel_rfl) (by intros;kernel_rfl)
theorem all_mk {l:W.OpenLaw} {w:World} {K:W.Frag} {h:Heap} {mg:Str->Option Value} {fa:Addr} (X:K.In h) (G:h.Ns mainGlobals mg) (hfa:mg "law" = some (.ref fa)) (hz:md.bl.all (NQ K)=true)
    (hsTableIn:GF K "table_in" (top 1))
    (hsDone:GF K "done" (top 2))
    (hsFixedIn:GF K "fixed_in" (top 3))
    (hsLongerByOne:GF K "longer_by_one" (top 4))
    (hsTableLeads:GF K "table_leads" (top 8))
    (hsLeadsAlike:GF K "leads_alike" (top 7))
    (hsIsMove:GF K "is_move" (top 6))
    (hsMoves:GF K "moves" (top 9))
    (hsNodeValue:GF K "node_value" (top 12))
    (hsValue:GF K "value" (top 11))
    (hsLFeed:GF K "_law_feed" (top 14))
    (hsLTake:GF K "_law_take" (top 15))
    (hsLNames:GF K "_law_names" (top 16))
    (hsLShape:GF K "_law_shape" (top 17))
    (hsLWorld:GF K "_law_world" (top 18))
    (hsLOrdered:GF K "_law_ordered" (top 19))
    (hsLForm:GF K "_law_form" (top 20))
    (hsLShuffled:GF K "_law_shuffled" (top 21))
    (hsLRenamed:GF K "_law_renamed" (top 22))
    (hsLFlat:GF K "_law_flat" (top 23))
    (hsLTwoWorlds:GF K "_law_two_worlds" (top 24))
    (hsLAlong:GF K "_law_along" (top 25))
    (hsLaw:GF K "law" (top 26))
    : ∃ fd:FuncData,(∀ (s:Shared) (v:Value),BindsTo s fd ⟨[v],[]⟩ [("_law_script", v)])/\∀ base:Heap,K.In base->base.Ns mainGlobals mg->FnOk l.prog w K mg base Rq 223 fa fd ["_law_script"] (Oe K):=by
  have e:=hfa.symm.trans (W.mg_of X G hsLaw.1);cases e;have b:Bs md K mg:=il X G rfl hz
  refine ⟨W.fnOf "law" "law" (Av (top 26)) (Ab (top 26)) (AJ (top 26)) .none .none .none (bJ K (Qx K "law")) none (YH K (Qx K "law")) .none,fun s v=>.of_eq rfl,fun base _ _=>?_⟩
  have f0:Fs l.prog w K mg base 0 jK:=Fs.nil;have f1:=f0.def (nb:=false) b RH Qy hsTableIn (W.mg_of X G hsTableIn.1) Ra;have f2:=f1.def (nb:=false) b dH dD hsDone (W.mg_of X G hsDone.1) dh;have f3:=f2.def (nb:=false) b RI Qz hsFixedIn (W.mg_of X G hsFixedIn.1) Rb;have f4:=f3.def (nb:=false) b IT IS hsLongerByOne (W.mg_of X G hsLongerByOne.1) IW;have f5:Fs l.prog w K mg base 205 jJ:=f4.defR (io:=[]) (F:=fun n=>Dl (AL n)) b (by kernel_rfl) (fun ds=>iB ds) Kf Kb hsTableLeads (W.mg_of X G hsTableLeads.1) Km 200;have f6:=f5.def (nb:=true) b Kg Kc hsLeadsAlike (W.mg_of X G hsLeadsAlike.1) Kn;have f7:=f6.def (nb:=true) b VF Ur hsIsMove (W.mg_of X G hsIsMove.1) Vh;have f8:=f7.def (nb:=false) b YB Xs hsMoves (W.mg_of X G hsMoves.1) Yb;have f9:=f8.def (nb:=true) b MU MK hsNodeValue (W.mg_of X G hsNodeValue.1) Mb;have f10:=f9.def (nb:=false) b YA Xr hsValue (W.mg_of X G hsValue.1) Ya;have f11:=f10.def (nb:=false) b YF Xw hsLFeed (W.mg_of X G hsLFeed.1) Yf;have f12:=f11.def (nb:=false) b YC Xt hsLTake (W.mg_of X G hsLTake.1) Yc;have f13:=f12.def (nb:=false) b VD Up hsLNames (W.mg_of X G hsLNames.1) Vf;have f14:=f13.def (nb:=false) b VC Uo hsLShape (W.mg_of X G hsLShape.1) Ve;have f15:=f14.def (nb:=false) b VB Um hsLWorld (W.mg_of X G hsLWorld.1) Vd;have f16:=f15.def (nb:=false) b Nx Np hsLOrdered (W.mg_of X G hsLOrdered.1) OG;have f17:=f16.def (nb:=false) b YD Xu hsLForm (W.mg_of X G hsLForm.1) Yd;have f18:=f17.def (nb:=false) b MV ML hsLShuffled (W.mg_of X G hsLShuffled.1) Mc;have f19:=f18.def (nb:=false) b Nw Nn hsLRenamed (W.mg_of X G hsLRenamed.1) OF;have f20:=f19.def (nb:=false) b YE Xv hsLFlat (W.mg_of X G hsLFlat.1) Ye;have f21:=f20.def (nb:=false) b Kh Kd hsLTwoWorlds (W.mg_of X G hsLTwoWorlds.1) Ko;have f22:=f21.def (nb:=true) b VE Uq hsLAlong (W.mg_of X G hsLAlong.1) Vg
  have hp:AD (top 26)=(["_law_script"]:List Str):=by kernel_rfl
  have r:=cD (ps:=AD (top 26)) (nb:=true) (by rw [hp];rfl) (Nu b f22 iS iO (Nf hsLaw)) UO;rw [hp] at r;exact r
theorem walk {l:W.OpenLaw} {q:Program} {loose:List Str} {XP:(Str->Option Value)->Heap->Prop} {YP:World->Heap->Prop} {d:DefRec} {K:Params->W.Frag} (hn:l.most=some 63) (hdf:d.params.defaults=[])
    (hY:∀ (w:World) (h:Heap),YP w h->(K w.params).In h)
    (F:∀ (w:World) (mg:Str->Option Value) (fa:Addr) (h:Heap),(K w.params).In h->h.Ns mainGlobals mg->mg d.name=some (.ref fa) ->
      ∃ fd:FuncData,(∀ (s:Shared) (u:Value),BindsTo s fd ⟨[u],[]⟩ [("_law_script", u)])/\∀ base:Heap,(K w.params).In base->base.Ns mainGlobals mg->FnOk l.prog w (K w.params) mg base Rq 223 fa fd ["_law_script"] (Oe (K w.params))) :
    W.WalkO q loose XP YP l.row.toRowW d [] (fun f vs=>PySem.call f vs):=
  L2.walk_of (n:=63) (k:=223) (x := "_law_script") (CX:=fun _=>Rq) (sp:=fun w=>Oe (K w.params)) hn (by decide) hdf ⟨rfl,by decide,by decide,rfl⟩ hY F (fun _ _ a ns hl hO hS=>⟨a,ns,rfl,hS,hl,hO,fun _=>rfl⟩) fun _ _ _ _ _ z=>z
abbrev fO (i:Nat) (x:Str) (pm:Value) (cd:Addr):Obj:=⟨.type "function", none,.func (W.fnOf x x (Av (top i)) (Ab (top i)) (AJ (top i)) .none .none .none pm none (.ref cd) .none),#[]⟩
noncomputable def KP (P:Params):W.Frag:=[
(3,⟨.type "dict", none,.dict #[ke P "__name__" 165 (.str "law_shapefree_k64_whole_values_along_moves" 275),ke P "__doc__" 166 .none,ke P "__package__" 167 .none,ke P "__loader__" 168 (.builtin "__main__.__loader__#opaque"),ke P "__spec__" 169 .none,ke P "__annotations__" 170 (.ref 6),ke P "__builtins__" 171 (.ref 4),ke P "__file__" 173 (.str "/claim/cut.py" 172),ke P "__cached__" 174 .none,ke P "table_in" 194 (.ref 19),ke P "done" 206 (.ref 26),ke P "fixed_in" 215 (.ref 33),ke P "longer_by_one" 221 (.ref 38),ke P "is_move" 229 (.ref 43),ke P "leads_alike" 242 (.ref 50),ke P "table_leads" 248 (.ref 55),ke P "moves" 254 (.ref 60),ke P "value" 268 (.ref 67),ke P "node_value" 274 (.ref 72),ke P "_law_feed" 286 (.ref 79),ke P "_law_take" 296 (.ref 86),ke P "_law_names" 302 (.ref 91),ke P "_law_shape" 308 (.ref 96),ke P "_law_world" 314 (.ref 101),ke P "_law_ordered" 320 (.ref 106),ke P "_law_form" 326 (.ref 111),ke P "_law_shuffled" 336 (.ref 118),ke P "_law_renamed" 342 (.ref 123),ke P "_law_flat" 348 (.ref 128),ke P "_law_two_worlds" 359 (.ref 135),ke P "_law_along" 365 (.ref 140),ke P "law" 371 (.ref 145)] 32,#[]⟩),
(19,fO 1 "table_in" (.str "shapefree.worlds" 187) 18),
(18,cO "table_in" 189 2 3 3 15 16 .none .none .none 17 192),
(26,fO 2 "done" (.str "shapefree.worlds" 187) 25),
(25,cO "done" 195 4 4 3 20 21 .none (.ref 22) (.ref 23) 24 204),
(33,fO 3 "fixed_in" (.str "shapefree.worlds" 187) 32),
(32,cO "fixed_in" 207 9 3 3 27 28 .none (.ref 29) (.ref 30) 31 213),
(38,fO 4 "longer_by_one" (.str "shapefree.worlds" 187) 37),
(37,cO "longer_by_one" 216 11 2 3 34 35 .none .none .none 36 219),
(43,fO 6 "is_move" (.str "shapefree.moves" 222) 42),
(42,cO "is_move" 224 17 4 3 39 40 .none .none .none 41 227),
(50,fO 7 "leads_alike" (.str "shapefree.moves" 222) 49),
(49,cO "leads_alike" 230 21 4 3 44 45 .none (.ref 46) (.ref 47) 48 240),
(55,fO 8 "table_leads" (.str "shapefree.moves" 222) 54),
(54,cO "table_leads" 243 29 4 3 51 52 .none .none .none 53 246),
(60,fO 9 "moves" (.str "shapefree.moves" 222) 59),
(59,cO "moves" 249 33 3 3 56 57 .none .none .none 58 252),
(67,fO 11 "value" (.str "shapefree.plain" 255) 66),
(66,cO "value" 257 39 4 3 61 62 .none (.ref 63) (.ref 64) 65 266),
(72,fO 12 "node_value" (.str "shapefree.plain" 255) 71),
(71,cO "node_value" 269 44 5 3 68 69 .none .none .none 70 272),
(79,fO 14 "_law_feed" (.str "law_shapefree_k64_whole_values_along_moves" 275) 78),
(78,cO "_law_feed" 277 51 2 3 73 74 .none (.ref 75) (.ref 76) 77 284),
(86,fO 15 "_law_take" (.str "law_shapefree_k64_whole_values_along_moves" 275) 85),
(85,cO "_law_take" 287 61 2 3 80 81 .none (.ref 82) (.ref 83) 84 294),
(91,fO 16 "_law_names" (.str "law_shapefree_k64_whole_values_along_moves" 275) 90),
(90,cO "_law_names" 297 69 2 3 87 88 .none .none .none 89 300),
(96,fO 17 "_law_shape" (.str "law_shapefree_k64_whole_values_along_moves" 275) 95),
(95,cO "_law_shape" 303 84 1 3 92 93 .none .none .none 94 306),
(101,fO 18 "_law_world" (.str "law_shapefree_k64_whole_values_along_moves" 275) 100),
(100,cO "_law_world" 309 90 3 3 97 98 .none .none .none 99 312),
(106,fO 19 "_law_ordered" (.str "law_shapefree_k64_whole_values_along_moves" 275) 105),
(105,cO "_law_ordered" 315 99 2 3 102 103 .none .none .none 104 318),
(111,fO 20 "_law_form" (.str "law_shapefree_k64_whole_values_along_moves" 275) 110),
(110,cO "_law_form" 321 118 4 3 107 108 .none .none .none 109 324),
(118,fO 21 "_law_shuffled" (.str "law_shapefree_k64_whole_values_along_moves" 275) 117),
(117,cO "_law_shuffled" 327 131 2 3 112 113 .none (.ref 114) (.ref 115) 116 334),
(123,fO 22 "_law_renamed" (.str "law_shapefree_k64_whole_values_along_moves" 275) 122),
(122,cO "_law_renamed" 337 137 3 3 119 120 .none .none .none 121 340),
(128,fO 23 "_law_flat" (.str "law_shapefree_k64_whole_values_along_moves" 275) 127),
(127,cO "_law_flat" 343 147 2 3 124 125 .none .none .none 126 346),
(135,fO 24 "_law_two_worlds" (.str "law_shapefree_k64_whole_values_along_moves" 275) 134),
(134,cO "_law_two_worlds" 349 159 2 3 129 130 .none (.ref 131) (.ref 132) 133 357),
(140,fO 25 "_law_along" (.str "law_shapefree_k64_whole_values_along_moves" 275) 139),
(139,cO "_law_along" 360 172 5 3 136 137 .none .none .none 138 363),
(145,fO 26 "law" (.str "law_shapefree_k64_whole_values_along_moves" 275) 144),
(144,cO "law" 366 181 1 3 141 142 .none .none .none 143 369)]
def dLaw:DefRec:=⟨"law", Av (top 26),Ab (top 26),AJ (top 26),dG (top 26)⟩
theorem top_left:Yu PySem.Challenge.rw_shapefree_k64_whole_values_along_moves 27 [3,19,18,26,25,33,32,38,37,43,42,50,49,55,54,60,59,67,66,72,71,79,78,86,85,91,90,96,95,101,100,106,105,111,110,118,117,123,122,128,127,135,134,140,139,145,144] KP 1504:=fun w=>by kernel_rfl
theorem top_said:PySem.Challenge.rw_shapefree_k64_whole_values_along_moves.wellSaid=true:=by decide +kernel
end My
set_option maxHeartbeats 1000000
set_option maxHeartbeats 1000000
set_option maxHeartbeats 1000000
set_option maxHeartbeats 1000000
set_option maxHeartbeats 1000000
set_option maxHeartbeats 1000000
set_option maxHeartbeats 1000000
set_option maxHeartbeats 1000000
set_option maxHeartbeats 1000000
set_option maxHeartbeats 1000000
set_option maxHeartbeats 1000000
set_option maxHeartbeats 1000000
set_option maxHeartbeats 1000000
set_option maxHeartbeats 1000000
set_option maxHeartbeats 1000000
open PySem PySem.W PyProof.Rows
set_option maxRecDepth 100000 in
set_option maxHeartbeats 0 in
theorem PySem.Challenge.cw_shapefree_k64_whole_values_along_moves_holds : PySem.Challenge.rw_shapefree_k64_whole_values_along_moves.Holds := by
  refine L2.mk_law (d:=My.dLaw) My.top_said My.top_left (fun P=>by kernel_rfl) (by kernel_rfl) (by kernel_rfl) (by kernel_rfl) (by kernel_rfl) (by kernel_rfl) (by decide +kernel) ⟨rfl,rfl,rfl,rfl,rfl,by decide +kernel⟩ (by w_witness2) ?call
  refine My.walk (l:=PySem.Challenge.rw_shapefree_k64_whole_values_along_moves) (d:=My.dLaw) (K:=My.KP) rfl (by kernel_rfl) (fun w h Y=>Y) fun w mg fa h KX G hmg=>My.all_mk KX G hmg (by kernel_rfl) (by and_intros<;>kernel_rfl) (by and_intros<;>kernel_rfl) (by and_intros<;>kernel_rfl) (by and_intros<;>kernel_rfl) (by and_intros<;>kernel_rfl) (by and_intros<;>kernel_rfl) (by and_intros<;>kernel_rfl) (by and_intros<;>kernel_rfl) (by and_intros<;>kernel_rfl) (by and_intros<;>kernel_rfl) (by and_intros<;>kernel_rfl) (by and_intros<;>kernel_rfl) (by and_intros<;>kernel_rfl) (by and_intros<;>kernel_rfl) (by and_intros<;>kernel_rfl) (by and_intros<;>kernel_rfl) (by and_intros<;>kernel_rfl) (by and_intros<;>kernel_rfl) (by and_intros<;>kernel_rfl) (by and_intros<;>kernel_rfl) (by and_intros<;>kernel_rfl) (by and_intros<;>kernel_rfl) (by and_intros<;>kernel_rfl)
