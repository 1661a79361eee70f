import PyProof.Rows.All
import Wide.All
import OpenK.AllK
import Wide.FinOn
import PyProof.Rows.SortShell
import PyProof.Rows.StrSplit
import PyProof.StrCalls2
import KE.KIntText
import PyProof.ZipIter
import PyProof.EnumMake
import PyProof.Draws
import KE.KRevIter
import PyProof.ListRange
import PyProof.CollectStr
import PyProof.Rows.CallKwBuiltin
import PyProof.MinMaxWalk
import PyProof.WalkInts
import PyProof.ListMulRoad
import PyProof.ReprRoads
import PyProof.ReprLen
import PyProof.IsRules
import KE.KSortTup
import PyProof.StrLawsIn
import Lean
import PyProof.EqAt
import PyProof.EqKinds
import PyProof.TupleCall
import PySem.Challenge.RW_shapefree_k12_whole_worlds_written_and_r
noncomputable section
set_option Elab.async false
set_option linter.all false
set_option maxRecDepth 100000
set_option maxHeartbeats 4000000
abbrev dL:=@Option.bind_some
abbrev kX:=@Bool.and_eq_true
abbrev kY:=@PySem.Heap.get?_push_of_some
abbrev kZ:=@List.getElem?_eq_getElem
abbrev ka:=@List.getElem?_eq_some_iff
abbrev kb:=@List.length_map
abbrev kc:=@List.size_toArray
abbrev kg:=@List.mem_cons_self
abbrev kh:=@List.mem_cons_of_mem
abbrev ki:=@List.contains_iff_mem
abbrev kj:=@Nat.le_refl
abbrev kl:=@List.mem_append_right
abbrev km:=@List.mem_cons
abbrev kn:=@List.getElem?_map
abbrev ko:=@List.map_cons
abbrev kq:=@List.getElem?_append_left
abbrev kr:=@Bool.false_ne_true
abbrev ku:=@List.mem_append_left
abbrev kz:=@PySem.Heap.get?_push_size
abbrev lA:=@PySem.Heap.lt_size
abbrev lB:=@List.getD_eq_getElem?_getD
abbrev lC:=@Nat.lt_of_lt_of_le
abbrev lE:=@List.length_cons
abbrev lG:=@Bool.false_eq_true
abbrev lH:=@Option.map_eq_some_iff
abbrev lI:=@Nat.le_trans
abbrev lJ:=@List.length_append
abbrev lK:=@List.mem_append
abbrev lL:=@List.getElem?_set_ne
abbrev lM:=@List.length_set
abbrev lN:=@List.getElem?_append_right
abbrev lO:=@List.all_eq_true
abbrev lP:=@Nat.ne_of_lt
abbrev lQ:=@List.length_singleton
abbrev lR:=@List.mem_map
abbrev lS:=@List.getElem?_set_self
abbrev lT:=@PyProof.Rows.slot_tuple_getitem
abbrev lU:=@List.not_mem_nil
abbrev lV:=@PyProof.Rows.callWith_type1
abbrev lW:=@PySem.mem_of_lookup
abbrev lX:=@Option.map_some
abbrev lY:=@List.mem_of_getElem?
abbrev lZ:=@List.length_take
abbrev la:=@List.mem_singleton
abbrev lg:=@List.lookup_cons
abbrev lh:=@List.append_assoc
abbrev lj:=@PySem.Heap.get?_update_other
abbrev lp:=@List.all_cons
abbrev lq:=@Nat.zero_le
abbrev lu:=@List.flatten_cons
abbrev lx:=@List.zip_cons_cons
abbrev ly:=@List.length_nil
abbrev lz:=@List.eq_nil_of_length_eq_zero
abbrev mB:=@List.find?_some
abbrev mC:=@List.append_nil
abbrev mD:=@Bool.and_self
abbrev mE:=@PySem.Heap.size_push
abbrev mF:=@PySem.Heap.get?_update_self
abbrev mG:=@Option.bind_eq_some_iff
abbrev mH:=@Nat.lt_irrefl
abbrev mI:=@List.any_cons
abbrev mJ:=@Bool.not_eq_true'
abbrev mK:=@List.replicate_succ
abbrev mL:=@List.getElem?_eq_none
abbrev mM:=@Bool.and_eq_true_iff
abbrev mN:=@Nat.sub_self
abbrev mO:=@List.map_map
abbrev mP:=@List.getElem?_range
abbrev mQ:=@List.filterMap_cons
abbrev mR:=@List.mem_range
abbrev mS:=@List.lookup_append
abbrev mT:=@List.length_range
abbrev mU:=@Option.isSome_iff_exists
abbrev mV:=@List.nil_append
abbrev mW:=@List.mem_filter
abbrev mX:=@List.getElem?_cons_succ
abbrev mY:=@List.find?_cons
abbrev mZ:=@List.map_nil
abbrev ma:=@Bool.beq_eq_decide_eq
abbrev me:=@List.length_drop
abbrev mf:=@List.cons_append
abbrev mh:=@Bool.not_true
abbrev mi:=@List.nodup_cons
abbrev mj:=@List.map_append
abbrev ml:=@List.length_reverse
abbrev mn:=@Nat.ne_of_gt
abbrev mq:=@Nat.add_sub_cancel
abbrev mr:=@List.drop_eq_getElem_cons
abbrev mv:=@List.mem_singleton_self
abbrev mw:=@List.getElem_mem
abbrev mx:=@Nat.succ_mul
abbrev my:=@Nat.sub_eq_zero_of_le
abbrev mz:=@Nat.add_comm
abbrev nA:=@List.singleton_append
abbrev nB:=@List.forIn_cons
abbrev nC:=@Int.natCast_add
abbrev nD:=@Int.emod_nonneg
abbrev nE:=@Bool.true_or
abbrev nF:=@List.drop_zero
abbrev nG:=@Bool.and_false
abbrev nK:=@Nat.le_succ
abbrev nL:=@List.map_congr_left
abbrev nM:=@List.getElem_of_mem
abbrev nN:=@Nat.lt_of_le_of_lt
abbrev nO:=@List.filterMap_map
abbrev nP:=@Int.emod_lt_of_pos
abbrev nQ:=@Option.isSome_map
abbrev nR:=@Nat.min_self
abbrev nS:=@Nat.lt_or_ge
abbrev nT:=@Nat.lt_succ_self
abbrev nU:=@List.range'_succ
abbrev nV:=@List.getElem_inj
abbrev nW:=@Bool.not_eq_true
abbrev nX:=@List.of_mem_zip
abbrev nY:=@List.foldl_cons
abbrev nZ:=@Bool.or_eq_true
abbrev nc:=@List.nodup_iff_pairwise_ne
abbrev ng:=@List.mem_of_find?_eq_some
abbrev nh:=@List.forIn_nil
abbrev ni:=@List.getElem?_take_of_lt
abbrev nk:=@List.map_take
abbrev nr:=@List.map_drop
abbrev nt:=@List.getElem?_replicate
abbrev nu:=@Bool.and_true
namespace L2
open PySem PySem.Spec PyProof.Rows
noncomputable abbrev BB:=Sum Int Str
def Iw:BB->Value->Bool
 | .inl k,v=>Value.isInt k v
 | .inr x,v=>Value.isStrOf x v
def iY (w:World):BB->Int
 | .inl k=>hashInt k
 | .inr x=>hashStr w x
theorem Af:∀ {k:BB} {v:Value},Iw k v=true->(∃ i t,k=Sum.inl i/\v=Value.int i t)\/(∃ x t,k=Sum.inr x/\v=Value.str x t)
 | .inl i,v,h=>by
  obtain ⟨t,e⟩:=Value.isInt_shape (k:=i) (v:=v) h;exact .inl ⟨i,t,rfl,e⟩
 | .inr x,v,h=>by
  obtain ⟨t,e⟩:=Value.isStrOf_shape (x:=x) (v:=v) h;exact .inr ⟨x,t,rfl,e⟩
theorem QY (i:Int) (t:Tok):Iw (.inl i) (.int i t)=true:=by simp [Iw,Value.isInt]
theorem QX (x:Str) (t:Tok):Iw (.inr x) (.str x t)=true:=by simp [Iw,Value.isStrOf]
theorem bS (a b:Int):decide ((Sum.inl a:BB)=Sum.inl b)=(a == b):=by
 by_cases e:a=b
 ·subst e;simp
 ·have h:¬ (Sum.inl a:BB)=Sum.inl b:=fun q=>e (Sum.inl.inj q)
  rw [decide_eq_false h];exact (beq_eq_false_iff_ne.mpr e).symm
theorem bP (a b:Str):decide ((Sum.inr a:BB)=Sum.inr b)=decide (a=b):=by
 by_cases e:a=b
 ·subst e;simp
 ·have h:¬ (Sum.inr a:BB)=Sum.inr b:=fun q=>e (Sum.inr.inj q)
  rw [decide_eq_false h,decide_eq_false e]
theorem bR (a:Int) (b:Str):decide ((Sum.inl a:BB)=Sum.inr b)=false:=decide_eq_false (fun q=>nomatch q)
theorem bQ (a:Str) (b:Int):decide ((Sum.inr a:BB)=Sum.inl b)=false:=decide_eq_false (fun q=>nomatch q)
def Ay (prog:Program) (w:World):PySem.KeyKind prog w BB where
 is:=Iw
 hash:=iY w
 inj:=fun v a b ha hb=>by
  rcases Af ha with ⟨i,t,rfl,rfl⟩ | ⟨x,t,rfl,rfl⟩
  ·rcases Af hb with ⟨j,u,rfl,e⟩ | ⟨y,u,rfl,e⟩
   ·injection e with e1 _;rw [e1]
   ·exact nomatch e
  ·rcases Af hb with ⟨j,u,rfl,e⟩ | ⟨y,u,rfl,e⟩
   ·exact nomatch e
   ·injection e with e1 _;rw [e1]
 byValue:=fun k v h=>by
  rcases Af h with ⟨i,t,rfl,rfl⟩ | ⟨x,t,rfl,rfl⟩<;>rfl
 pyHash:=fun hv h=>by
  rcases Af hv with ⟨i,t,rfl,rfl⟩ | ⟨x,t,rfl,rfl⟩
  ·exact wpAny_pyHash_int h
  ·exact wpAny_pyHash_str h
 eqBool:=fun hu hv h=>by
  rcases Af hu with ⟨i,t,rfl,rfl⟩ | ⟨x,t,rfl,rfl⟩
  ·rcases Af hv with ⟨j,u,rfl,rfl⟩ | ⟨y,u,rfl,rfl⟩
   ·rw [bS] at h;exact wpAny_eqBool_int h
   ·rw [bR] at h;exact SeqAt.EqAt.int_str i t y u _ _ _ _ h
  ·rcases Af hv with ⟨j,u,rfl,rfl⟩ | ⟨y,u,rfl,rfl⟩
   ·rw [bQ] at h;exact SeqAt.EqAt.str_int x t j u _ _ _ _ h
   ·rw [bP] at h;exact wpAny_eqBool_str h
 «strs»:=fun k x t v h=>by
  rcases Af h with ⟨i,u,rfl,e⟩ | ⟨y,u,rfl,e⟩
  ·exact nomatch e
  ·injection e with e1 _
   subst e1;cases v<;>rfl
theorem LI (prog:Program) (w:World) (i:Int) (t:Tok):(Ay prog w).is (.inl i) (.int i t)=true:=QY i t
theorem LH (prog:Program) (w:World) (x:Str) (t:Tok):(Ay prog w).is (.inr x) (.str x t)=true:=QX x t
inductive V where
 | non | bl (b:Bool) | int (i:Int) | str (x:Str) | byt (b:Array UInt8) | flt (b:UInt64) | ref (a:Addr) | ty (n:String)
 deriving DecidableEq
def RelV:V->Value->Prop
 | .non,u=>u=Value.none
 | .bl b,u=>u=Value.bool b
 | .int i,u=>∃ t,u=Value.int i t
 | .str x,u=>∃ t,u=Value.str x t
 | .byt b,u=>∃ t,u=Value.bytes b t
 | .flt b,u=>∃ t,u=Value.float b t
 | .ref a,u=>u=Value.ref a
 | .ty n,u=>u=Value.type n
abbrev AD:List V->List Value->Prop:=Paired RelV
theorem AD.length {xs:List V} {us:List Value} (r:AD xs us):xs.length=us.length:=Paired.length r
theorem AD.get:∀ {xs:List V} {us:List Value} {i:Nat} {x:V},AD xs us->xs[i]?=some x->∃ u,us[i]?=some u/\RelV x u
 | _,_,_,_,.nil,e=>by simp at e
 | _,_,0,_,.cons r _,e=>by simp at e;subst e;exact ⟨_,rfl,r⟩
 | _,_,i+1,x,.cons _ t,e=>by
  obtain ⟨u,h1,h2⟩:=AD.get (i:=i) (x:=x) t (by simpa using e);exact ⟨u,by simpa using h1,h2⟩
theorem AD.set {x:V} {u:Value} (r:RelV x u):∀ {xs:List V} {us:List Value} (i:Nat),AD xs us->AD (xs.set i x) (us.set i u)
 | _,_,_,.nil=>.nil
 | _,_,0,.cons _ t=>.cons r t
 | _,_,i+1,.cons q t=>.cons q (AD.set r i t)
theorem AD.append:∀ {xs ys:List V} {us ws:List Value},AD xs us->AD ys ws->AD (xs++ys) (us++ws)
 | _,_,_,_,.nil,s=>s
 | _,_,_,_,.cons r t,s=>.cons r (AD.append t s)
theorem AD.take:∀ {xs:List V} {us:List Value} (n:Nat),AD xs us->AD (xs.take n) (us.take n)
 | _,_,0,_=>.nil
 | _,_,_+1,.nil=>.nil
 | _,_,n+1,.cons r t=>.cons r (AD.take n t)
theorem AD.drop:∀ {xs:List V} {us:List Value} (n:Nat),AD xs us->AD (xs.drop n) (us.drop n)
 | _,_,0,r=>r
 | _,_,_+1,.nil=>.nil
 | _,_,n+1,.cons _ t=>AD.drop n t
def Hl:Option V->Option Value->Prop
 | some v,some u=>RelV v u
 | none,none=>True
 | _,_=>False
def KV {κ:Type}:List (κ×V)->List (κ×Value)->Prop:=Paired fun (p:κ×V) (q:κ×Value)=>p.1=q.1/\RelV p.2 q.2
def kV:BB->V
 | .inl i=>.int i
 | .inr x=>.str x
inductive HO where
 | lst (xs:List V)
 | tup (xs:List V)
 | dK (kvs:List (BB×V)) | dT (kvs:List (List BB×V))
 | set (S:Int->Bool) (n:Nat)
 | ins (C dx:Addr) (fs:List (Str×V))
 | own (x:Addr)
 | xd (fs:List (Str×V))
 | met (f x:Addr)
 | rng (lo hi:Int)
 | frz (o:Obj) (u:HO)
 | tbl (ps:Array Value)
 | ext (φ:Heap->Prop)
noncomputable abbrev Hp:=Addr->Option HO
def upd (H:Hp) (a:Addr) (o:HO):Hp:=fun b=>if b=a then some o else H b
theorem BQ {H:Hp} {a:Addr} {o:HO}:upd H a o a=some o:=by unfold upd;rw [if_pos rfl]
theorem AN {H:Hp} {a b:Addr} {o:HO} (h:b≠a):upd H a o b=H b:=by unfold upd;rw [if_neg h]
theorem fX {H:Hp} {a b:Addr} {o u:HO} (h:H a=some o) (h':H b=some u) (d:o≠u):a≠b:=by
 intro e;subst e;rw [h] at h';exact d (Option.some.inj h')
theorem Bb {H:Hp} {a b:Addr} {o:HO} (h:H a=some o) (h':H b=none):a≠b:=by
 intro e;subst e;rw [h] at h';cases h'
def GK (h:Heap) (a:Addr) (items:Array Value):Prop:=∃ o,h.get? a=some o/\o.cls=.type "tuple" /\ o.dict=none/\∃ n,o.data=.seq items n
theorem GK.tup {h:Heap} {a:Addr} {items:Array Value} (x:GK h a items):IsTup h a items:=let ⟨o,e,c,_,d⟩:=x;⟨o,e,c,d⟩
theorem GK.new (h:Heap) (items:Array Value):GK (h.push { cls:=.type "tuple", data:=.seq items }) h.objs.size items:=⟨_,kz _ rfl,rfl,rfl,_,rfl⟩
section
variable (P:Program) (w:World)
def AQ (H:Hp) (h:Heap) (a:Addr):HO->Prop
  | .lst xs=>xs.length<=sizeLine/\∃ (its:List Value) (n:Nat),AD xs its/\h.get? a=some { cls:=.type "list", data:=.seq its.toArray n }
  | .tup xs=>xs.length<=sizeLine/\∃ its:List Value,AD xs its/\GK h a its.toArray
  | .dK kvs=>kvs.length<=sizeLine/\(a == sysModules)=false/\∃ vs,KV kvs vs/\h.DictOf (Ay P w) a vs
  | .dT kvs=>kvs.length<=sizeLine/\(a == sysModules)=false/\∃ xs:List (List BB×Addr×Value),
      Paired (fun (p:List BB×V) (q:List BB×Addr×Value)=>p.1=q.1/\H q.2.1=some (.tup (p.1.map kV))/\RelV p.2 q.2.2) kvs xs /\
      ∃ o es ep,h.get? a=some o/\o.ExactDict/\o.data=.dict es ep/\es.toList=xs.map (entryOfKey (tupleKind (Ay P w)))/\(xs.map (·.1)).Nodup
  | .set S n=>h.SetOf (intKind P w) a S n
  | .ins C dx fs=>H dx=some (.own a)/\fs.length<=1000/\dx≠a/\h.get? a=some (W.instObj C dx) /\
      ∃ mA,h.Ns1 dx mA/\(∀ f,Hl (fs.lookup f) (mA f))/\PySem.Within mA (fs.map (·.1))
  | .own _=>∃ o,h.get? a=some o
  | .xd fs=>∃ mA,h.Ns1 a mA/\∀ f,Hl (fs.lookup f) (mA f)
  | .rng lo hi=>∃ t u v,h.get? a=some { cls:=.type "range", data:=.fields #[.int lo t,.int hi u,.int 1 v] }
  | .frz o u=>h.get? a=some o/\AQ H h a u
  | .tbl ps=>h.get? a=some { cls:=.none,data:=.fields ps }
  | .met f x=>h.get? a=some (W.methodObj (.ref f) (.ref x))
  | .ext φ=>φ h/\(∃ o,h.get? a=some o)/\∀ h1 h2:Heap,φ h1->(∀ o,h1.get? a=some o->h2.get? a=some o)->φ h2
def EO (H:Hp) (h:Heap):Prop:=∀ a o,H a=some o->AQ P w H h a o
end
section
variable {P:Program} {w:World} {H H':Hp} {h h':Heap} {a:Addr} {o:HO}
theorem AQ.lt (x:AQ P w H h a o):a < h.objs.size:=by
 cases o with
 | lst xs=>obtain ⟨_,_,_,_,e⟩:=x;exact lA e
 | tup xs=>obtain ⟨_,_,_,p⟩:=x;exact p.tup.lt
 | dK kvs=>obtain ⟨_,_,_,_,o,_,_,e,_⟩:=x;exact lA e
 | dT kvs=>obtain ⟨_,_,_,_,o,_,_,e,_⟩:=x;exact lA e
 | set S n=>obtain ⟨o,_,_,_,e,_⟩:=x;exact lA e
 | ins C dx fs=>obtain ⟨_,_,_,e,_⟩:=x;exact lA e
 | own y=>obtain ⟨_,e⟩:=x;exact lA e
 | xd fs=>obtain ⟨_,⟨_,_,_,e,_⟩,_⟩:=x;exact lA e
 | rng lo hi=>obtain ⟨_,_,_,e⟩:=x;exact lA e
 | frz ob u=>obtain ⟨e,_⟩:=x;exact lA e
 | tbl ps=>exact lA (show h.get? a=some _ from x)
 | met f y=>exact lA (show h.get? a=some _ from x)
 | ext φ=>obtain ⟨_,⟨_,e⟩,_⟩:=x;exact lA e
theorem Paired.mapP {α β:Type} {F G:α->β->Prop}:∀ {l₁:List α} {l₂:List β},Paired F l₁ l₂->(∀ a b,F a b->G a b)->Paired G l₁ l₂
 | _,_,.nil,_=>.nil
 | _,_,.cons r t,f=>.cons (f _ _ r) (Paired.mapP t f)
theorem AQ.stay (x:AQ P w H h a o) (k:∀ b u,(b=a\/H b=some (.own a))->h.get? b=some u->h'.get? b=some u)
    (ho:∀ b,H b=some (.own a)->H' b=some (.own a)) (ht:∀ b xs,H b=some (.tup xs)->H' b=some (.tup xs)):AQ P w H' h' a o:=by
  induction o with
  | lst xs=>obtain ⟨z,its,n,r,e⟩:=x;exact ⟨z,its,n,r,k _ _ (.inl rfl) e⟩
  | tup xs=>obtain ⟨z,its,r,ob,e,c⟩:=x;exact ⟨z,its,r,ob,k _ _ (.inl rfl) e,c⟩
  | dK kvs=>obtain ⟨z,y,vs,r,ob,es,ep,e,c⟩:=x;exact ⟨z,y,vs,r,ob,es,ep,k _ _ (.inl rfl) e,c⟩
  | dT kvs =>
    obtain ⟨z,y,xs,r,ob,es,ep,e,c⟩:=x;exact ⟨z,y,xs,Paired.mapP r fun p q z=>⟨z.1,ht _ _ z.2.1,z.2.2⟩,ob,es,ep,k _ _ (.inl rfl) e,c⟩
  | set S n=>obtain ⟨ob,es,ep,t,e,c⟩:=x;exact ⟨ob,es,ep,t,k _ _ (.inl rfl) e,c⟩
  | ins C dx fs =>
    obtain ⟨d,z,ne,e,mA,⟨od,es,ep,e2,c⟩,r⟩:=x;exact ⟨ho _ d,z,ne,k _ _ (.inl rfl) e,mA,⟨od,es,ep,k _ _ (.inr d) e2,c⟩,r⟩
  | own y=>obtain ⟨ob,e⟩:=x;exact ⟨ob,k _ _ (.inl rfl) e⟩
  | xd fs=>obtain ⟨mA,⟨od,es,ep,e,c⟩,r⟩:=x;exact ⟨mA,⟨od,es,ep,k _ _ (.inl rfl) e,c⟩,r⟩
  | rng lo hi=>obtain ⟨t,u,v,e⟩:=x;exact ⟨t,u,v,k _ _ (.inl rfl) e⟩
  | frz ob u ih=>obtain ⟨e,q⟩:=x;exact ⟨k _ _ (.inl rfl) e,ih q⟩
  | tbl ps =>
    have e:h.get? a=some { cls:=.none,data:=.fields ps }:=x;show h'.get? a=some { cls:=.none,data:=.fields ps };exact k a _ (.inl rfl) e
  | met f y =>
    have e:h.get? a=some (W.methodObj (.ref f) (.ref y)):=x;show h'.get? a=some (W.methodObj (.ref f) (.ref y));exact k a _ (.inl rfl) e
  | ext φ=>obtain ⟨p,⟨o,e⟩,st⟩:=x;exact ⟨st _ _ p fun o q=>k _ _ (.inl rfl) q,⟨o,k _ _ (.inl rfl) e⟩,st⟩
theorem EO.lt (x:EO P w H h) (e:H a=some o):a < h.objs.size:=(x a o e).lt
theorem EO.fresh (x:EO P w H h) (e:h.objs.size<=a):H a=none:=by
 cases q:H a with
 | none=>rfl
 | some u=>exact absurd (lC (x.lt q) e) (mH _)
theorem EO.kept (x:EO P w H h) (k:∀ b u,h.get? b=some u->h'.get? b=some u):EO P w H h':=fun a o e =>
 (x a o e).stay (fun b u _ q=>k b u q) (fun _ q=>q) fun _ _ q=>q
theorem EO.laid (x:EO P w H h) (k:∀ b u,h.get? b=some u->h'.get? b=some u) (hp:h.objs.size<=a) (new:AQ P w (upd H a o) h' a o):EO P w (upd H a o) h':=fun b u e=>by
 have hn:=x.fresh hp
 by_cases hb:b=a
 ·subst hb;rw [BQ] at e;cases e;exact new
 ·rw [AN hb] at e;exact (x b u e).stay (fun c v _ q=>k c v q) (fun c q=>by rw [AN (Bb q hn)];exact q) fun c xs q=>by rw [AN (Bb q hn)];exact q
end
def Rd (H:Hp) (a:Addr) (u:HO):Prop:=H a=some u\/∃ o,H a=some (.frz o u)
theorem Rd.ok {P:Program} {w:World} {H:Hp} {h:Heap} {a:Addr} {u:HO} (r:Rd H a u) (x:EO P w H h):AQ P w H h a u:=by
 rcases r with r | ⟨o,r⟩
 ·exact x a u r
 ·obtain ⟨_,q⟩:=x a _ r;exact q
def dN:Option HO->Prop
 | some (.lst _)=>True
 | some (.dK _)=>True
 | some (.dT _)=>True
 | some (.set _ _)=>True
 | some (.ins _ _ _)=>True
 | some (.ext _)=>True
 | _=>False
section
variable {P:Program} {w:World} {H:Hp} {h h':Heap} {x e:Addr} {o':HO}
theorem EO.write (ok:EO P w H h) (mu:dN (H x)) (he:e=x\/H e=some (.own x)) (k:∀ b u,b≠e->h.get? b=some u->h'.get? b=some u) (heo:∃ u,h'.get? e=some u)
    (new:AQ P w (upd H x o') h' x o'):EO P w (upd H x o') h':=fun b u q=>by
  have nown:∀ c y,H c=some (.own y)->c≠x:=fun c y r z=>by subst z;rw [r] at mu;exact mu
  have ntup:∀ c xs,H c=some (.tup xs)->c≠x:=fun c xs r z=>by subst z;rw [r] at mu;exact mu
  by_cases hb:b=x
  · subst hb;rw [BQ] at q;cases q;exact new
  · rw [AN hb] at q
    by_cases hbe:b=e
    · have q':H b=some (.own x):=by
        rcases he with z | z
        · exact absurd (hbe.trans z) hb
        · rw [hbe];exact z
      rw [q] at q';cases q';obtain ⟨v,hv⟩:=heo;exact ⟨v,by rw [hbe];exact hv⟩
    · refine (ok b u q).stay (fun c v hc r=>k c v ?_ r) (fun c r=>by rw [AN (nown c b r)];exact r) fun c xs r=>by rw [AN (ntup c xs r)];exact r
      rcases hc with rfl | hc
      · exact hbe
      · rintro rfl;rcases he with z | z
        · exact nown c b hc z
        · rw [hc] at z;cases z;exact hb rfl
end
structure Un (fs ex:List Addr) (H H':Hp) (h h':Heap):Prop where
 keep:∀ b o,h.get? b=some o->H b=none->b∉fs->b∉ex->h'.get? b=some o
 slot:∀ b o,h.get? b=some o->H b=none->b∈fs->b∉ex->∃ sl,h'.get? b=some { o with slots:=sl }
 free:∀ b o,h.get? b=some o->H b=none->b∉ex->H' b=none
 there:∀ b o,h.get? b=some o->b∉ex->∃ o',h'.get? b=some o'
 tups:∀ b xs,H b=some (.tup xs)->H' b=some (.tup xs)
 frzs:∀ b o u,H b=some (.frz o u)->H' b=some (.frz o u)
 tbls:∀ b ps,H b=some (.tbl ps)->∃ more,H' b=some (.tbl (ps++more))
section
variable {fs fs' ex ex':List Addr} {H H1 H2:Hp} {h h1 h2 h':Heap} {a x e:Addr} {o:HO}
theorem Un.any (u:Un fs ex H H1 h h1) {b:Addr} {ob:Obj} (q:h.get? b=some ob) (n:H b=none) (hx:b∉ex):∃ sl,h1.get? b=some { ob with slots:=sl }:=by
 by_cases hb:b∈fs
 ·exact u.slot b ob q n hb hx
 ·exact ⟨ob.slots,u.keep b ob q n hb hx⟩
theorem Un.kept (k:∀ b u,h.get? b=some u->h'.get? b=some u):Un fs ex H H h h':=
 ⟨fun b ob q _ _ _=>k b ob q,fun b ob q _ _ _=>⟨ob.slots,k b ob q⟩,fun _ _ _ n _=>n,fun b ob q _=>⟨ob,k b ob q⟩,fun _ _ q=>q,fun _ _ _ q=>q,fun _ ps q=>⟨#[],by rw [q];simp⟩⟩
theorem Un.refl:Un fs ex H H h h:=Un.kept fun _ _ q=>q
theorem Un.laid (k:∀ b u,h.get? b=some u->h'.get? b=some u) (hp:h.objs.size<=a) (hn:H a=none):Un fs ex H (upd H a o) h h' where
 keep:=fun b u q _ _ _=>k b u q
 slot:=fun b u q _ _ _=>⟨u.slots,k b u q⟩
 free:=fun b u q n _=>by rw [AN (lP (lC (lA q) hp))];exact n
 there:=fun b u q _=>⟨u,k b u q⟩
 tups:=fun b xs q=>by rw [AN (Bb q hn)];exact q
 frzs:=fun b u xs q=>by rw [AN (Bb q hn)];exact q
 tbls:=fun b ps q=>⟨#[],by rw [AN (Bb q hn),q];simp⟩
theorem Un.write (mu:dN (H x)) (he:e=x\/H e=some (.own x)) (k:∀ b u,b≠e->h.get? b=some u->h'.get? b=some u) (heo:∃ u,h'.get? e=some u):Un fs ex H (upd H x o) h h':=by
 have hx:∀ b,H b=none->b≠x:=fun b n z=>by subst z;rw [n] at mu;exact mu
 have hb:∀ b,H b=none->b≠e:=fun b n z=>by
  subst z;rcases he with r | r
  ·exact hx b n r
  ·rw [n] at r;cases r
 have hm:∀ b u,H b=some u->¬ dN (some u)->b≠x:=fun b u q nm z=>by subst z;rw [q] at mu;exact nm mu
 refine ⟨fun b u q n _ _=>k b u (hb b n) q,fun b u q n _ _=>⟨u.slots,k b u (hb b n) q⟩,fun b u q n _=>by rw [AN (hx b n)];exact n,fun b u q _=>?_,
  fun b xs q=>by rw [AN (hm b _ q fun z=>z)];exact q,fun b u xs q=>by rw [AN (hm b _ q fun z=>z)];exact q,fun b ps q=>⟨#[],by rw [AN (hm b _ q fun z=>z),q];simp⟩⟩
 by_cases hbe:b=e
 ·subst hbe;exact heo
 ·exact ⟨u,k b u hbe q⟩
end
def hW (h:Heap) (H:Hp):List Addr:=(List.range h.objs.size).filter fun a=>(H a).isSome
def Jv (h:Heap) (H:Hp):Heap:=W.hideAll h (hW h H)
theorem Qd (h:Heap) (H:Hp):(Jv h H).objs.size=h.objs.size:=W.hideAll_size _ _
theorem Tq {h:Heap} {H:Hp} {b:Addr} {o:Obj} (e:h.get? b=some o) (n:H b=none):(Jv h H).get? b=some o:=
 W.hideAll_get _ e fun hm=>by
  have q:(H b).isSome=true:=(mW.mp hm).2;rw [n] at q;simp at q
theorem Ww {h:Heap} {H:Hp} {b:Addr} {o:Obj} (e:(Jv h H).get? b=some o):h.get? b=some o/\H b=none:=by
 have e':h.get? b=some o:=W.of_hideAll (hW h H) e;refine ⟨e',?_⟩;cases q:H b with
 | none=>rfl
 | some x =>
  have hm:b∈hW h H:=mW.mpr ⟨mR.mpr (lA e'),by simp [q]⟩;have z:(Jv h H).get? b=none:=W.hideAll_none (hW h H) hm;rw [z] at e;cases e
noncomputable def YN (g h:Heap) (L:Addr):List (Addr×Obj):=(List.range h.objs.size).filterMap fun a=>if a=L\/(g.get? a).isSome=true then none else (h.get? a).map fun o=>(a,o)
def rest (g h:Heap) (L d:Addr):List (Addr×Obj):=(YN g h L).filter fun p=>decide (p.1≠d)
structure Mod (K:W.Frag) (mg:Str->Option Value) (base:Heap):Prop where
 kin:K.In base
 glob:base.Ns mainGlobals mg
 blt:∃ mb,base.Ns builtinsNs mb/\∀ x:Str,x ≠ "__name__" -> mb x=bootBuiltins x
 nolimit:base.NoLimit
structure Cx where
 prog:Program
 w:World
 K:W.Frag
 mg:Str->Option Value
 base:Heap
 A:Around
 N:List Str
 s₀:Shared
 H₀:Hp
 env:Env
 outer:List Env
 stack:List Env
 ex:List Addr
 fn:Str->Bool
 calm:Bool
 pn:List (Addr×Obj)
 xe:Value->Shared->Prop
noncomputable def Oj (l:List Env):List Addr:=l.filterMap (·.frame)
abbrev Cx.fs (X:Cx):List Addr:=Oj X.outer
def gr (sc:Scope) (x:Str):Prop:=sc.names.lookup x=some .local\/sc.names.lookup x=some .cell\/sc.names.lookup x=some .free
def Loc (sc:Scope) (x:Str):Prop:=sc.names.lookup x=some .local\/sc.names.lookup x=some .cell
def Look (env:Env) (h:Heap) (m:Str->Option Value) (x:Str) (u:Value):Prop:=
 (env.kindOf x=some .local/\m x=some u)\/((env.kindOf x=some .cell\/env.kindOf x=some .free)/\∃ c,env.cells.lookup x=some c/\h.IsCell c (some u))
structure Cx.Ok (X:Cx):Prop where
 mod:Mod X.K X.mg X.base
 kind:X.env.scope.kind=.function
 glob:X.env.globals=mainGlobals
 blt:X.env.builtins=builtinsNs
 above:X.s₀.heap.objs.size<=X.env.locals
 inj:∀ x y c,X.env.cells.lookup x=some c->X.env.cells.lookup y=some c->x=y
 has:∀ x,(X.env.kindOf x=some .cell\/X.env.kindOf x=some .free)->∃ c,X.env.cells.lookup x=some c
 cab:∀ x c,X.fn x=true->X.env.cells.lookup x=some c->X.s₀.heap.objs.size<=c
 hd:X.calm=true->X.A.handled=none
 frames:X.A.frames=some X.stack
 stk:X.stack=X.outer\/(X.stack=X.env::X.outer/\X.env.frame=some X.env.locals)
 exf:∀ b∈X.ex,b≠X.env.locals/\∀ x c,X.env.cells.lookup x=some c->c≠b
 bs:∀ b o,X.base.get? b=some o->X.s₀.heap.get? b=some o/\X.H₀ b=none
 bsz:X.base.objs.size<=X.s₀.heap.objs.size
 noex:∀ b o,X.base.get? b=some o->b∉X.ex
 exfs:∀ b∈X.ex,b∉X.fs
 funs:X.s₀.heap.FunFrames X.base X.outer
 frf:∀ b∈X.fs,X.H₀ b=none
structure Inv (X:Cx) (pins:List (Addr×Obj)) (σ:List (Option V)) (H:Hp) (s:Shared):Prop where
 ok:X.Ok
 os:s.os=X.s₀.os
 bare:AllBare s.gens
 base:Un X.fs X.ex X.H₀ H X.s₀.heap s.heap
 loc:∃ m,s.heap.Ns X.env.locals m/\∀ (i:Nat) (x:Str) (v:V),X.N[i]?=some x->σ[i]?=some (some v)->gr X.env.scope x->∃ u,RelV v u/\Look X.env s.heap m x u
 cell:∀ x c,X.env.cells.lookup x=some c->∃ v,s.heap.IsCell c v
 free:H X.env.locals=none
 freeC:∀ x c,X.env.cells.lookup x=some c->H c=none
 pin:∀ p∈X.pn++pins,s.heap.get? p.1=some p.2/\H p.1=none/\p.1≠X.env.locals/\p.1∉X.fs/\∀ v,p.2.data≠.cell v
 hok:EO X.prog X.w H s.heap
 len:σ.length=X.N.length
section
variable {X:Cx} {pins:List (Addr×Obj)} {σ:List (Option V)} {H H':Hp} {s:Shared} {h':Heap}
theorem Cx.Ok.nofr (ok:X.Ok) {b:Addr} {o:Obj} (e:X.base.get? b=some o):b∉X.fs:=fun hb=>by
 have:=(ok.funs.mem hb).1;rw [e] at this;cases this
theorem Inv.bs (I:Inv X pins σ H s):∀ b o,X.base.get? b=some o->s.heap.get? b=some o/\H b=none:=fun b o e =>
 ⟨I.base.keep b o (I.ok.bs b o e).1 (I.ok.bs b o e).2 (I.ok.nofr e) (I.ok.noex b o e),I.base.free b o (I.ok.bs b o e).1 (I.ok.bs b o e).2 (I.ok.noex b o e)⟩
theorem Inv.bk (I:Inv X pins σ H s):∀ b o,X.base.get? b=some o->s.heap.get? b=some o:=fun b o e=>(I.bs b o e).1
theorem Inv.mod (I:Inv X pins σ H s):Mod X.K X.mg X.base:=I.ok.mod
theorem Inv.kIn (I:Inv X pins σ H s):X.K.In s.heap:=I.ok.mod.kin.keeps I.bk
theorem Inv.fr (I:Inv X pins σ H s):∃ m,Fr X.base X.env.locals s.heap m:=
 let ⟨m,hn,_⟩:=I.loc
 ⟨m,hn,I.bk,lI I.ok.bsz I.ok.above⟩
theorem Inv.lt (I:Inv X pins σ H s):X.env.locals < s.heap.objs.size:=let ⟨_,hn,_⟩:=I.loc;hn.lt
theorem Inv.sz (I:Inv X pins σ H s):X.s₀.heap.objs.size<=s.heap.objs.size:=lI I.ok.above (Nat.le_of_lt I.lt)
theorem Inv.nofs (I:Inv X pins σ H s) {a:Addr} (h:s.heap.objs.size<=a):a∉X.fs:=fun hb=>by
 obtain ⟨_,o,ho,_⟩:=I.ok.funs.mem hb;exact absurd (lC (lA ho) (lI I.sz h)) (mH _)
theorem Inv.cne (I:Inv X pins σ H s):∀ x c,X.env.cells.lookup x=some c->c≠X.env.locals:=fun x c e z=>by
 obtain ⟨v,o,ho,hd⟩:=I.cell x c e;obtain ⟨m,⟨o',es,ep,ho',hd',_⟩,_⟩:=I.loc;rw [z,ho'] at ho;cases ho;rw [hd'] at hd;cases hd
theorem Inv.funs (I:Inv X pins σ H s):s.heap.FunFrames X.base X.outer:=by
 have all:∀ (l:List Env),(∀ b∈Oj l,b∈X.fs)->X.s₀.heap.FunFrames X.base l->s.heap.FunFrames X.base l:=by
  intro l
  induction l with
  | nil=>intro _ _;trivial
  | cons env r ih =>
   intro hs hl;obtain ⟨hk,⟨L,o,hf,hn,ho,hd⟩,hr⟩:=hl;have hL:L∈X.fs:=hs L (by unfold Oj;rw [mQ,hf];exact kg);obtain ⟨sl,e⟩:=I.base.slot L o ho (I.ok.frf L hL) hL fun z=>I.ok.exfs L z hL
   exact ⟨hk,⟨L,_,hf,hn,e,hd⟩,ih (fun b hb=>hs b (by unfold Oj;rw [mQ,hf];exact kh _ hb)) hr⟩
 exact all X.outer (fun _ hb=>hb) I.ok.funs
theorem Inv.stack (I:Inv X pins σ H s):s.heap.FunFrames X.base X.stack:=by
 rcases I.ok.stk with e | ⟨e,hf⟩
 ·rw [e];exact I.funs
 ·rw [e];obtain ⟨m,hn,_⟩:=I.loc;refine .cons (by rw [I.ok.kind];decide) hf hn ?_ I.funs;exact Heap.get?_none_of_le (lI I.ok.bsz I.ok.above)
theorem Inv.stkSub (I:Inv X pins σ H s):∀ b∈Oj X.stack,b∈X.env.locals::X.fs:=fun b hb=>by
 rcases I.ok.stk with e | ⟨e,hf⟩
 ·rw [e] at hb;exact kh _ hb
 ·rw [e] at hb;unfold Oj at hb;rw [mQ,hf] at hb;exact hb
theorem Inv.stkFree (I:Inv X pins σ H s):∀ b∈Oj X.stack,H b=none:=fun b hb=>by
 rcases km.mp (I.stkSub b hb) with e | hb
 ·rw [e];exact I.free
 ·obtain ⟨_,o,ho,_⟩:=I.ok.funs.mem hb;exact I.base.free b o ho (I.ok.frf b hb) fun z=>I.ok.exfs b z hb
theorem Inv.step {g':Array GenState} {t':Nat} {d':Drawn} {ch:List Addr} (I:Inv X pins σ H s)
    (hch:∀ b∈ch,(b∈X.ex\/X.s₀.heap.objs.size<=b)/\b≠X.env.locals/\(∀ x c,X.env.cells.lookup x=some c->c≠b)/\∀ p∈X.pn++pins,p.1≠b)
    (keep:∀ b o,b≠X.env.locals->b∉X.fs->b∉ch->s.heap.get? b=some o->H b=none->h'.get? b=some o)
    (slot:∀ b o,b≠X.env.locals->b∈X.fs->b∉ch->s.heap.get? b=some o->H b=none->∃ sl,h'.get? b=some { o with slots:=sl }) (free:∀ b o,b∉ch->s.heap.get? b=some o->H b=none->H' b=none)
    (there:∀ b o,b∉ch->s.heap.get? b=some o->∃ o',h'.get? b=some o')
    (tups:∀ b xs,H b=some (.tup xs)->H' b=some (.tup xs)) (frzs:∀ b o u,H b=some (.frz o u)->H' b=some (.frz o u)) (tbls:∀ b ps,H b=some (.tbl ps)->∃ more,H' b=some (.tbl (ps++more)))
    (ns:∀ m,s.heap.Ns X.env.locals m->h'.Ns X.env.locals m) (hok:EO X.prog X.w H' h') (hg:AllBare g') :
    Inv X pins σ H' { s with heap:=h',gens:=g',drawn:=d',toks:=t' }:=by
  have neL:∀ b o,X.s₀.heap.get? b=some o->b≠X.env.locals:=fun b o e=>lP (lC (lA e) I.ok.above)
  have neC:∀ b o,X.s₀.heap.get? b=some o->b∉X.ex->b∉ch:=fun b o e hx hb=>by
    rcases (hch b hb).1 with z | z
    · exact hx z
    · exact absurd (lC (lA e) z) (mH _)
  have cellK:∀ x c,X.env.cells.lookup x=some c->∀ v,s.heap.IsCell c v->h'.IsCell c v:=fun x c e v ⟨o,ho,hd⟩=>by
    have nch:c∉ch:=fun z=>(hch c z).2.2.1 x c e rfl
    by_cases hc:c∈X.fs
    · obtain ⟨sl,q⟩:=slot c o (I.cne x c e) hc nch ho (I.freeC x c e);exact ⟨_,q,hd⟩
    · exact ⟨o,keep c o (I.cne x c e) hc nch ho (I.freeC x c e),hd⟩
  refine ⟨I.ok,I.os,hg,⟨fun b o e n hb hx=>?_,fun b o e n hb hx=>?_,fun b o e n hx=>?_,fun b o e hx=>?_,fun b xs e=>tups b xs (I.base.tups b xs e),fun b o xs e=>frzs b o xs (I.base.frzs b o xs e),fun b ps e=>?_⟩,?_,fun x c e=>?_,?_,fun x c e=>?_,fun p hp=>?_,hok,I.len⟩
  · exact keep b o (neL b o e) hb (neC b o e hx) (I.base.keep b o e n hb hx) (I.base.free b o e n hx)
  · obtain ⟨sl,e1⟩:=I.base.slot b o e n hb hx;obtain ⟨sl',e2⟩:=slot b _ (neL b o e) hb (neC b o e hx) e1 (I.base.free b o e n hx);exact ⟨sl',e2⟩
  · obtain ⟨o',e1⟩:=I.base.there b o e hx;exact free b o' (neC b o e hx) e1 (I.base.free b o e n hx)
  · obtain ⟨o',e1⟩:=I.base.there b o e hx;exact there b o' (neC b o e hx) e1
  · obtain ⟨m1,e1⟩:=I.base.tbls b ps e;obtain ⟨m2,e2⟩:=tbls b _ e1;exact ⟨m1++m2,by rw [e2,Array.append_assoc]⟩
  · obtain ⟨m,hn,hl⟩:=I.loc;refine ⟨m,ns m hn,fun i x v e1 e2 e3=>?_⟩;obtain ⟨u,r,l⟩:=hl i x v e1 e2 e3;refine ⟨u,r,?_⟩;rcases l with l | ⟨k,c,e,z⟩
    · exact .inl l
    · exact .inr ⟨k,c,e,cellK x c e _ z⟩
  · obtain ⟨v,z⟩:=I.cell x c e;exact ⟨v,cellK x c e v z⟩
  · obtain ⟨m,⟨o,_,_,ho,_⟩,_⟩:=I.loc;exact free _ o (fun z=>(hch _ z).2.1 rfl) ho I.free
  · obtain ⟨v,o,ho,hd⟩:=I.cell x c e;exact free c o (fun z=>(hch c z).2.2.1 x c e rfl) ho (I.freeC x c e)
  · obtain ⟨e,n,ne,nf,d⟩:=I.pin p hp;have nch:p.1∉ch:=fun z=>(hch p.1 z).2.2.2 p hp rfl
    exact ⟨keep p.1 p.2 ne nf nch e n,free p.1 p.2 nch e n,ne,nf,d⟩
theorem Inv.un {t':Nat} (I:Inv X pins σ H s) (u:Un X.fs [] H H' s.heap h') (hok:EO X.prog X.w H' h'):Inv X pins σ H' { s with heap:=h',toks:=t' }:=by
 obtain ⟨m,⟨o,es,ep,ho,r⟩,_⟩:=id I.loc;obtain ⟨sl,hL⟩:=u.any ho I.free (by simp);exact I.step (g':=s.gens) (d':=s.drawn) (ch:=[]) (fun _ z=>nomatch z) (fun b o _ hb _ e n=>u.keep b o e n hb (by simp)) (fun b o _ hb _ e n=>u.slot b o e n hb (by simp)) (fun b o _ e n=>u.free b o e n (by simp)) (fun b o _ e=>u.there b o e (by simp)) u.tups u.frzs u.tbls (fun m' hm=>by
  obtain ⟨o',es',ep',ho',r'⟩:=hm;rw [ho] at ho';cases ho';exact ⟨_,es',ep',hL,r'⟩) hok I.bare
theorem Inv.call {g':Array GenState} {t':Nat} {d':Drawn} {ch:List Addr} (I:Inv X pins σ H s) (u:Un (Oj X.stack) ch H H' s.heap h') (hok:EO X.prog X.w H' h') (hg:AllBare g')
    (hch:∀ b∈ch,(b∈X.ex\/X.s₀.heap.objs.size<=b)/\b≠X.env.locals/\(∀ x c,X.env.cells.lookup x=some c->c≠b)/\∀ p∈X.pn++pins,p.1≠b) :
    Inv X pins σ H' { s with heap:=h',gens:=g',drawn:=d',toks:=t' }:=by
  obtain ⟨m,⟨o,es,ep,ho,r⟩,_⟩:=id I.loc;obtain ⟨sl,hL⟩:=u.any ho I.free fun z=>(hch _ z).2.1 rfl
  exact I.step (ch:=ch) hch (fun b o hL hb hc e n=>u.keep b o e n (fun z=>(km.mp (I.stkSub b z)).elim hL hb) hc) (fun b o _ _ hc e n=>u.any e n hc) (fun b o hc e n=>u.free b o e n hc) (fun b o hc e=>u.there b o e hc) u.tups u.frzs u.tbls (fun m' hm=>by
    obtain ⟨o',es',ep',ho',r'⟩:=hm;rw [ho] at ho';cases ho';exact ⟨_,es',ep',hL,r'⟩) hok hg
theorem Inv.turned {t':Nat} {it:Addr} (I:Inv X pins σ H s) (k:∀ b o,b≠it->s.heap.get? b=some o->h'.get? b=some o) (hn:H it=none) (hL:it≠X.env.locals)
    (h1:it∈X.ex\/X.s₀.heap.objs.size<=it) (h2:∀ x c,X.env.cells.lookup x=some c->c≠it) (h3:∀ p∈X.pn++pins,p.1≠it):Inv X pins σ H { s with heap:=h',toks:=t' }:=by
  have nit:∀ b u,H b=some u->b≠it:=fun b u e z=>by rw [z,hn] at e;cases e
  refine I.step (g':=s.gens) (d':=s.drawn) (ch:=[it]) (fun b hb=>?_) (fun b o _ _ hc e _=>k b o (fun z=>hc (by simp [z])) e) (fun b o _ _ hc e _=>⟨o.slots,k b o (fun z=>hc (by simp [z])) e⟩) (fun _ _ _ _ n=>n)
    (fun b o hc e=>⟨o,k b o (fun z=>hc (by simp [z])) e⟩) (fun _ _ e=>e) (fun _ _ _ e=>e) (fun b ps e=>⟨#[],by rw [e];simp⟩) (fun m hm=>?_) (fun b u e=>?_) I.bare
  · have e:b=it:=by simpa using hb
    subst e;exact ⟨h1,hL,h2,h3⟩
  · obtain ⟨o,es,ep,ho,r⟩:=hm;exact ⟨o,es,ep,k _ o (Ne.symm hL) ho,r⟩
  · refine (I.hok b u e).stay (fun c v hc q=>k c v ?_ q) (fun _ q=>q) fun _ _ q=>q
    rcases hc with z | z
    · rw [z];exact nit b u e
    · exact nit c _ z
theorem Inv.tok (I:Inv X pins σ H s) (t:Nat):Inv X pins σ H { s with toks:=t }:=I.un (h':=s.heap) (t':=t) Un.refl I.hok
theorem Inv.kept {t':Nat} (I:Inv X pins σ H s) (k:∀ b u,s.heap.get? b=some u->h'.get? b=some u):Inv X pins σ H { s with heap:=h',toks:=t' }:=I.un (Un.kept k) (I.hok.kept k)
theorem Inv.laid {a:Addr} {o:HO} {t':Nat} (I:Inv X pins σ H s) (k:∀ b u,s.heap.get? b=some u->h'.get? b=some u) (hp:s.heap.objs.size<=a) (new:AQ X.prog X.w (upd H a o) h' a o) :
    Inv X pins σ (upd H a o) { s with heap:=h',toks:=t' }:=I.un (Un.laid k hp (I.hok.fresh hp)) (I.hok.laid k hp new)
theorem Inv.write {x e:Addr} {o:HO} {t':Nat} (I:Inv X pins σ H s) (mu:dN (H x)) (he:e=x\/H e=some (.own x)) (k:∀ b u,b≠e->s.heap.get? b=some u->h'.get? b=some u) (heo:∃ u,h'.get? e=some u)
    (new:AQ X.prog X.w (upd H x o) h' x o):Inv X pins σ (upd H x o) { s with heap:=h',toks:=t' }:=I.un (Un.write mu he k heo) (I.hok.write mu he k heo new)
theorem Inv.weak {σ':List (Option V)} (I:Inv X pins σ H s) (hl:σ'.length=σ.length) (w:∀ (i:Nat) v,σ'[i]?=some (some v)->σ[i]?=some (some v)):Inv X pins σ' H s:=
 ⟨I.ok,I.os,I.bare,I.base,let ⟨m,hn,hl'⟩:=I.loc;⟨m,hn,fun i x v e1 e2 e3=>hl' i x v e1 (w i v e2) e3⟩,I.cell,I.free,I.freeC,I.pin,I.hok,hl.trans I.len⟩
theorem Inv.pins_of {pins':List (Addr×Obj)} (I:Inv X pins σ H s) (h:∀ p∈pins',s.heap.get? p.1=some p.2/\H p.1=none/\p.1≠X.env.locals/\p.1∉X.fs/\∀ v,p.2.data≠.cell v):Inv X pins' σ H s:=
 ⟨I.ok,I.os,I.bare,I.base,I.loc,I.cell,I.free,I.freeC,fun p hp=>(lK.mp hp).elim (fun z=>I.pin p (ku _ z)) (h p),I.hok,I.len⟩
theorem LG {N:List Str} (hN:N.Nodup) {i j:Nat} {x:Str} (a:N[i]?=some x) (b:N[j]?=some x):i=j:=by
 obtain ⟨h1,e1⟩:=ka.mp a;obtain ⟨h2,e2⟩:=ka.mp b;exact (nV hN).mp (e1.trans e2.symm)
theorem IY {M:Model} {A:Around} {E:Value->Shared->Prop} {i:Nat} {x:Str} {v:V} {u:Value} {Q:Unit->Shared->Prop} (I:Inv X pins σ H s) (hN:X.N.Nodup) (hi:X.N[i]?=some x) (hx:Loc X.env.scope x) (r:RelV v u)
    (h:∀ s',Inv X pins (σ.set i (some v)) H s'->(∃ a,Heap.SameBut a s.heap s'.heap/\(a=X.env.locals\/X.env.cells.lookup x=some a))->Q () s') (hf:X.fn x=true\/X.env.scope.names.lookup x=some .local:=by first | exact .inl rfl | exact .inr rfl | assumption):wpAny M A (storeName X.env x u) Q E s:=by
  obtain ⟨m,hn,hl⟩:=id I.loc;have hcls:(X.env.scope.kind == .class || (X.env.scope.kind == .module && X.env.locals != X.env.globals))=false:=by rw [I.ok.kind];rfl
  have hiσ:i < σ.length:=by rw [I.len];exact (ka.mp hi).1
  have cne:=I.cne;have tracked:∀ {a:Addr} {h':Heap},(∃ o,s.heap.get? a=some o/\H a=none)->Heap.SameBut a s.heap h'->EO X.prog X.w H h':=fun {a h'} ha hs b ob e=>by
    obtain ⟨_,_,hfree⟩:=ha;refine (I.hok b ob e).stay (fun c w' hc q=>(hs.2 c ?_).trans q) (fun _ q=>q) fun _ _ q=>q
    rintro rfl;rcases hc with rfl | hc
    · rw [hfree] at e;cases e
    · rw [hfree] at hc;cases hc
  rcases hx with hk | hk
  · refine wpAny_storeName_local hk hn (fun h' hn' hs=>?_) hcls;obtain ⟨oL,_,_,hoL,_⟩:=id hn;refine h _ ⟨I.ok,I.os,I.bare,⟨fun b o e n hb hx=>?_,fun b o e n hb hx=>?_,I.base.free,fun b o e hx=>?_,I.base.tups,I.base.frzs,I.base.tbls⟩,⟨_,hn',fun j y v' e1 e2 e3=>?_⟩,fun y c e=>?_,I.free,I.freeC,fun p hp=>?_,tracked ⟨oL,hoL,I.free⟩ hs,by simpa using I.len⟩ ⟨_,hs,.inl rfl⟩
    · exact (hs.2 b (lP (lC (lA e) I.ok.above))).trans (I.base.keep b o e n hb hx)
    · obtain ⟨sl,e1⟩:=I.base.slot b o e n hb hx;exact ⟨sl,(hs.2 b (lP (lC (lA e) I.ok.above))).trans e1⟩
    · obtain ⟨o',e1⟩:=I.base.there b o e hx;exact ⟨o',(hs.2 b (lP (lC (lA e) I.ok.above))).trans e1⟩
    · by_cases hj:j=i
      · subst hj;rw [hi] at e1;cases e1;rw [lS hiσ] at e2;cases e2;exact ⟨u,r,.inl ⟨hk,by simp⟩⟩
      · rw [lL (Ne.symm hj)] at e2;obtain ⟨u',r',q⟩:=hl j y v' e1 e2 e3;refine ⟨u',r',?_⟩;rcases q with ⟨k,e⟩ | ⟨k,c,e,z⟩
        · refine .inl ⟨k,?_⟩;have:y≠x:=fun e=>hj (LG hN e1 (e▸hi))
          simp [this,e]
        · exact .inr ⟨k,c,e,z.sameBut hs (cne y c e)⟩
    · obtain ⟨w',z⟩:=I.cell y c e;exact ⟨w',z.sameBut hs (cne y c e)⟩
    · obtain ⟨e,n,ne,nf,d⟩:=I.pin p hp;exact ⟨(hs.2 p.1 ne).trans e,n,ne,nf,d⟩
  · have hfn:X.fn x=true:=by
      rcases hf with z | z
      · exact z
      · rw [z] at hk;cases hk
    obtain ⟨c,hc⟩:=I.ok.has x (.inl hk);obtain ⟨w',z⟩:=I.cell x c hc;refine wpAny_storeName_cell I.ok.kind hk hc z (fun h' hc' hs=>?_);obtain ⟨oc,hoc,hocd⟩:=id z;refine h { s with heap:=h' } ⟨I.ok,I.os,I.bare,⟨fun b o e n hb hx=>?_,fun b o e n hb hx=>?_,I.base.free,fun b o e hx=>?_,I.base.tups,I.base.frzs,I.base.tbls⟩,⟨m,hn.sameBut hs (Ne.symm (cne x c hc)),fun j y v' e1 e2 e3=>?_⟩,fun y c' e=>?_,I.free,I.freeC,fun p hp=>?_,tracked ⟨oc,hoc,I.freeC x c hc⟩ hs,by simpa using I.len⟩ ⟨c,hs,.inr hc⟩
    · exact (hs.2 b (lP (lC (lA e) (I.ok.cab x c hfn hc)))).trans (I.base.keep b o e n hb hx)
    · obtain ⟨sl,e1⟩:=I.base.slot b o e n hb hx;exact ⟨sl,(hs.2 b (lP (lC (lA e) (I.ok.cab x c hfn hc)))).trans e1⟩
    · obtain ⟨o',e1⟩:=I.base.there b o e hx;exact ⟨o',(hs.2 b (lP (lC (lA e) (I.ok.cab x c hfn hc)))).trans e1⟩
    · by_cases hj:j=i
      · subst hj;rw [hi] at e1;cases e1;rw [lS hiσ] at e2;cases e2;exact ⟨u,r,.inr ⟨.inl hk,c,hc,hc'⟩⟩
      · rw [lL (Ne.symm hj)] at e2;obtain ⟨u',r',q⟩:=hl j y v' e1 e2 e3;refine ⟨u',r',?_⟩;rcases q with q | ⟨k,c',e,z'⟩
        · exact .inl q
        · refine .inr ⟨k,c',e,z'.sameBut hs ?_⟩;rintro rfl;exact hj (LG hN e1 (I.ok.inj _ _ _ e hc▸hi))
    · by_cases hcc:c'=c
      · subst hcc;exact ⟨_,hc'⟩
      · obtain ⟨w2,z2⟩:=I.cell y c' e;exact ⟨w2,z2.sameBut hs hcc⟩
    · obtain ⟨e,n,ne,nf,d⟩:=I.pin p hp;refine ⟨(hs.2 p.1 ?_).trans e,n,ne,nf,d⟩;intro q;rw [q,hoc] at e;have q':oc=p.2:=Option.some.inj e;exact d w' (by rw [<- q'];exact hocd)
theorem DN {M:Model} {A:Around} {E:Value->Shared->Prop} {i:Nat} {x:Str} {v:V} {u:Value} {Q:Unit->Shared->Prop} (I:Inv X pins σ H s) (hN:X.N.Nodup) (hi:X.N[i]?=some x) (hx:Loc X.env.scope x) (r:RelV v u)
    (h:∀ s',Inv X pins (σ.set i (some v)) H s'->Q () s') (hf:X.fn x=true\/X.env.scope.names.lookup x=some .local:=by first | exact .inl rfl | exact .inr rfl | assumption):wpAny M A (storeName X.env x u) Q E s:=
  IY I hN hi hx r (fun s' I' _=>h s' I') hf
theorem Inv.call' {s':Shared} {ch:List Addr} (I:Inv X pins σ H s) (ho:s'.os=s.os) (u:Un (Oj X.stack) ch H H' s.heap s'.heap) (hok:EO X.prog X.w H' s'.heap) (hg:AllBare s'.gens)
    (hch:∀ b∈ch,(b∈X.ex\/X.s₀.heap.objs.size<=b)/\b≠X.env.locals/\(∀ x c,X.env.cells.lookup x=some c->c≠b)/\∀ p∈X.pn++pins,p.1≠b):Inv X pins σ H' s':=by
  obtain ⟨h',g',d',t',o'⟩:=s';have e:o'=s.os:=ho;subst e;exact I.call (g':=g') (t':=t') (d':=d') u hok hg hch
end
abbrev XK:=Value->Option Addr->Hp->Prop
noncomputable abbrev St:=List (Option V)
abbrev VK:=V->Hp->Prop
abbrev TE:=St->Hp->VK->Prop
abbrev TT:=St->Hp->(Bool->Hp->Prop)->Prop
abbrev TA:=St->Hp->(List V->Hp->Prop)->Prop
structure Ends where
 nx:St->Hp->Prop
 rt:VK
 bk:St->Hp->Prop:=fun _ _=>False
 ct:St->Hp->Prop:=fun _ _=>False
abbrev TS:=Ends->St->Hp->Prop
def EP (X:Cx) (pins:List (Addr×Obj)) (σ:St) (Q:VK) (u:Value) (s':Shared):Prop:=∃ v H',Inv X pins σ H' s'/\RelV v u/\Q v H'
def TP (X:Cx) (pins:List (Addr×Obj)) (σ:St) (Q:Bool->Hp->Prop) (b:Bool) (s':Shared):Prop:=∃ H',Inv X pins σ H' s'/\Q b H'
def AP (X:Cx) (pins:List (Addr×Obj)) (σ:St) (Q:List V->Hp->Prop) (us:List Value) (s':Shared):Prop:=∃ vs H',Inv X pins σ H' s'/\AD vs us/\Q vs H'
def SP (X:Cx) (pins:List (Addr×Obj)) (D:Ends) (f:Flow) (s':Shared):Prop:=
 match f with
 | .next=>∃ σ' H',Inv X pins σ' H' s'/\D.nx σ' H'
 | .brk=>∃ σ' H',Inv X pins σ' H' s'/\D.bk σ' H'
 | .cont=>∃ σ' H',Inv X pins σ' H' s'/\D.ct σ' H'
 | .ret u=>∃ v σ' H',Inv X pins σ' H' s'/\RelV v u/\D.rt v H'
def PE (X:Cx) (e:Expr) (t:TE):Prop:=
 ∀ (pins:List (Addr×Obj)) (s:Shared) (σ:St) (H:Hp) (Q:VK),Inv X pins σ H s->t σ H Q->wpAny (model X.prog X.w) X.A (eval e X.env) (EP X pins σ Q) X.xe s
def PT (X:Cx) (e:Expr) (t:TT):Prop:=
 ∀ (pins:List (Addr×Obj)) (s:Shared) (σ:St) (H:Hp) (Q:Bool->Hp->Prop),Inv X pins σ H s->t σ H Q->wpAny (model X.prog X.w) X.A (isTrue e X.env (eval e X.env)) (TP X pins σ Q) X.xe s
def PW (X:Cx) (e:Expr) (t:TT):Prop:=
 ∀ (whole:Sem Value) (pins:List (Addr×Obj)) (s:Shared) (σ:St) (H:Hp) (Q:Bool->Hp->Prop),Inv X pins σ H s->t σ H Q->wpAny (model X.prog X.w) X.A (isTrue e X.env whole) (TP X pins σ Q) X.xe s
theorem PW.pt {X:Cx} {e:Expr} {t:TT} (h:PW X e t):PT X e t:=h _
def PA (X:Cx) (es:List Expr) (t:TA):Prop:=
 ∀ (pos:Pos) (pins:List (Addr×Obj)) (s:Shared) (σ:St) (H:Hp) (Q:List V->Hp->Prop),Inv X pins σ H s->t σ H Q->wpAny (model X.prog X.w) X.A (spliced (backTo pos (starEach es X.env))) (AP X pins σ Q) X.xe s
def PS (X:Cx) (st:Stmt) (t:TS):Prop:=
 ∀ (pins:List (Addr×Obj)) (s:Shared) (σ:St) (H:Hp) (D:Ends),Inv X pins σ H s->t D σ H->wpAny (model X.prog X.w) X.A (exec st X.env) (SP X pins D) X.xe s
def DJ (X:Cx) (st:List Stmt) (t:TS):Prop:=
 ∀ (pins:List (Addr×Obj)) (s:Shared) (σ:St) (H:Hp) (D:Ends),Inv X pins σ H s->t D σ H->wpAny (model X.prog X.w) X.A (execs st X.env) (SP X pins D) X.xe s
theorem Ah {α:Type} {t:Sem α} {Q Q':α->Shared->Prop} {M:Model} {A:Around} {E:Value->Shared->Prop} {s:Shared} (h:wpAny M A t Q E s) (hQ:∀ a s,Q a s->Q' a s):wpAny M A t Q' E s:=wpAny_mono h hQ fun _ _ x=>x
section
variable {X:Cx}
theorem bin {a b:Expr} {ta tb:TE} (ha:PE X a ta) (hb:PE X b tb) {pins:List (Addr×Obj)} {s:Shared} {σ:St} {H:Hp} {R:V->V->Hp->Prop} (I:Inv X pins σ H s) (h:ta σ H fun x H1=>tb σ H1 fun y H2=>R x y H2)
    {α:Type} {Q:α->Shared->Prop} {f:Value->Value->Sem α}
    (hf:∀ v u s2 x y H2,Inv X pins σ H2 s2->RelV x v->RelV y u->R x y H2->wpAny (model X.prog X.w) X.A (f v u) Q X.xe s2) :
    wpAny (model X.prog X.w) X.A (eval a X.env) (fun v s₁=>wpAny (model X.prog X.w) X.A (eval b X.env) (fun u s₂=>wpAny (model X.prog X.w) X.A (f v u) Q X.xe s₂) X.xe s₁) X.xe s:=by
  refine Ah (ha pins s σ H _ I h) fun v s1 ⟨x,H1,I1,r1,q1⟩=>?_
  refine Ah (hb pins s1 σ H1 _ I1 q1) fun u s2 ⟨y,H2,I2,r2,q2⟩=>?_
  exact hf v u s2 x y H2 I2 r1 r2 q2
abbrev Ex (i:Nat):TE:=fun σ H Q=>∃ v,σ[i]?=some (some v)/\Q v H
abbrev tC (v:V):TE:=fun _ H Q=>Q v H
theorem aZ {i:Nat} {x:Str} {pos:Pos} (hN:X.N[i]?=some x) (hv:gr X.env.scope x) (hd:(x == ("__debug__" : Str))=false:=by decide) (hcd:(x == ("__classdict__" : Str))=false:=by decide):PE X (.Name x pos) (Ex i):=by
 intro pins s σ H Q I h;obtain ⟨v,e,h⟩:=h;obtain ⟨m,hn,hl⟩:=I.loc;obtain ⟨u,r,l⟩:=hl i x v hN e hv;have fin:EP X pins σ Q u s:=⟨v,H,I,r,h⟩;rcases l with ⟨hk,hm⟩ | ⟨hk,c,hc,hcell⟩
 ·exact wpAny_Name (wpAny_loadName_local I.ok.kind hk hn hm fin) hd
 ·rcases hk with hk | hk
  ·exact wpAny_Name (wpAny_loadName_cell I.ok.kind hk hc hcell fin) hd
  ·exact wpAny_Name (wpAny_loadName_free I.ok.kind hk hc hcell fin hcd) hd
theorem ak {i j pos}:PE X (.Constant (.int i) j pos) (tC (.int i)):=fun _ _ _ H _ I h=>wpAny_Constant_int ⟨.int i,H,I.tok _,⟨_,rfl⟩,h⟩
theorem fQ {b j pos}:PE X (.Constant (.bool b) j pos) (tC (.bl b)):=fun _ _ _ H _ I h=>Constant_bool ⟨.bl b,H,I,rfl,h⟩
theorem ai {j pos}:PE X (.Constant .none j pos) (tC .non):=fun _ _ _ H _ I h=>Constant_none ⟨.non,H,I,rfl,h⟩
theorem ae {x j pos}:PE X (.Constant (.str x) j pos) (tC (.str x)):=fun _ _ _ H _ I h=>Calls.Constant_str ⟨.str x,H,I.tok _,⟨_,rfl⟩,h⟩
def Gl (X:Cx) (x:Str):Prop:=X.env.kindOf x=some .globalImplicit
theorem Jo {E:Value->Shared->Prop} {pins:List (Addr×Obj)} {s:Shared} {σ:St} {H:Hp} {x:Str} {u:Value} {pos:Pos} {Q:Value->Shared->Prop} (I:Inv X pins σ H s) (hg:Gl X x) (hm:X.mg x=some u) (h:Q u s)
    (hd:(x == ("__debug__" : Str))=false:=by decide):wpAny (model X.prog X.w) X.A (eval (.Name x pos) X.env) Q E s:=
  Calls.Name_function_global I.ok.kind hg (Calls.loadGlobal_global (by rw [I.ok.glob];exact I.mod.glob.keeps I.bk) hm h) hd
theorem Bc {E:Value->Shared->Prop} {pins:List (Addr×Obj)} {s:Shared} {σ:St} {H:Hp} {x:Str} {u:Value} {pos:Pos} {Q:Value->Shared->Prop} (I:Inv X pins σ H s) (hg:Gl X x) (hm:X.mg x=none) (hv:bootBuiltins x=some u) (h:Q u s)
    (hn:x ≠ "__name__" := by decide) (hd:(x == ("__debug__" : Str))=false:=by decide):wpAny (model X.prog X.w) X.A (eval (.Name x pos) X.env) Q E s:=by
  obtain ⟨mb,h1,h2⟩:=I.mod.blt;exact Calls.Name_function_global I.ok.kind hg (Calls.loadGlobal_builtin (by rw [I.ok.glob];exact I.mod.glob.keeps I.bk) hm (by rw [I.ok.blt];exact h1.keeps I.bk) ((h2 x hn).trans hv) h) hd
theorem Wk {x:Str} {v:V} {u:Value} {pos:Pos} (hg:Gl X x) (hm:X.mg x=some u) (r:RelV v u) (hd:(x == ("__debug__" : Str))=false:=by decide):PE X (.Name x pos) (tC v):=
 fun _ _ _ H _ I h=>Jo I hg hm ⟨v,H,I,r,h⟩ hd
theorem Wn {x:Str} {v:V} {u:Value} {pos:Pos} (hg:Gl X x) (hm:X.mg x=none) (hv:bootBuiltins x=some u) (r:RelV v u) (hn:x ≠ "__name__" := by decide) (hd:(x == ("__debug__" : Str))=false:=by decide):PE X (.Name x pos) (tC v):=
 fun _ _ _ H _ I h=>Bc I hg hm hv ⟨v,H,I,r,h⟩ hn hd
variable {a b:Expr} {ta tb:TE} {pos:Pos}
variable {tA Yc:TT} {rest:List Expr}
abbrev dr (t u:TT):TT:=fun σ H Q=>t σ H fun c H1=>if c=true then u σ H1 Q else Q false H1
abbrev jh (t u:TT):TT:=fun σ H Q=>t σ H fun c H1=>if c=true then Q true H1 else u σ H1 Q
abbrev dc (t:TT):TT:=fun σ H Q=>t σ H fun c H1=>Q (!c) H1
theorem WN (ha:PT X a tA):PW X (.BoolOp .And [a] pos) tA:=by
 intro wh pins s σ H Q I h;refine isTrue_and (Ah (ha pins s σ H Q I h) fun c s1 e=>?_);cases c with
 | true=>exact isTrue_and_nil e
 | false=>exact e
theorem aI (ha:PT X a tA):PW X (.BoolOp .Or [a] pos) tA:=by
 intro wh pins s σ H Q I h;refine isTrue_or (Ah (ha pins s σ H Q I h) fun c s1 e=>?_);cases c with
 | false=>exact isTrue_or_nil e
 | true=>exact e
theorem aJ (ha:PT X a tA) (hb:PW X (.BoolOp .And (b::rest) pos) Yc):PW X (.BoolOp .And (a::b::rest) pos) (dr tA Yc):=by
 intro wh pins s σ H Q I h;refine isTrue_and (Ah (ha pins s σ H _ I h) fun c s1 ⟨H1,I1,q1⟩=>?_);cases c with
 | true=>exact hb wh pins s1 σ H1 Q I1 q1
 | false=>exact ⟨H1,I1,q1⟩
theorem fE (ha:PT X a tA) (hb:PW X (.BoolOp .Or (b::rest) pos) Yc):PW X (.BoolOp .Or (a::b::rest) pos) (jh tA Yc):=by
 intro wh pins s σ H Q I h;refine isTrue_or (Ah (ha pins s σ H _ I h) fun c s1 ⟨H1,I1,q1⟩=>?_);cases c with
 | true=>exact ⟨H1,I1,q1⟩
 | false=>exact hb wh pins s1 σ H1 Q I1 q1
theorem aK (ha:PT X a tA):PT X (.UnaryOp .Not a pos) (dc tA):=by
 intro pins s σ H Q I h;exact isTrue_not (ha pins s σ H (fun c H1=>Q (!c) H1) I h)
abbrev Yd (ta tb:TE):TE:=fun σ H Q=>ta σ H fun x H1=>∃ c,x=.bl c/\if c=true then tb σ H1 Q else Q (.bl false) H1
abbrev da (ta tb:TE):TE:=fun σ H Q=>ta σ H fun x H1=>∃ c,x=.bl c/\if c=true then Q (.bl true) H1 else tb σ H1 Q
abbrev YY (ta:TE):TE:=fun σ H Q=>ta σ H fun x H1=>∃ c,x=.bl c/\Q (.bl (!c)) H1
theorem af {op} {t:TE} (h:PE X a t):PE X (.BoolOp op [a] pos) t:=fun pins s σ H Q I hw=>BoolOp_one (h pins s σ H Q I hw)
theorem ao (ha:PE X a ta) (hb:PE X (.BoolOp .And (b::rest) pos) tb):PE X (.BoolOp .And (a::b::rest) pos) (Yd ta tb):=by
 intro pins s σ H Q I h;refine BoolOp_and (Ah (ha pins s σ H _ I h) fun v s1 ⟨x,H1,I1,r1,q1⟩=>?_);obtain ⟨c,rfl,q1⟩:=q1;cases r1;refine wpAny_truthy_bool ?_;cases c with
 | true=>exact hb pins s1 σ H1 Q I1 q1
 | false=>exact ⟨.bl false,H1,I1,rfl,q1⟩
theorem fL (ha:PE X a ta) (hb:PE X (.BoolOp .Or (b::rest) pos) tb):PE X (.BoolOp .Or (a::b::rest) pos) (da ta tb):=by
 intro pins s σ H Q I h;refine BoolOp_or (Ah (ha pins s σ H _ I h) fun v s1 ⟨x,H1,I1,r1,q1⟩=>?_);obtain ⟨c,rfl,q1⟩:=q1;cases r1;refine wpAny_truthy_bool ?_;cases c with
 | false=>exact hb pins s1 σ H1 Q I1 q1
 | true=>exact ⟨.bl true,H1,I1,rfl,q1⟩
theorem ah (ha:PE X a ta):PE X (.UnaryOp .Not a pos) (YY ta):=by
 intro pins s σ H Q I h;refine UnaryOp_ (Ah (ha pins s σ H _ I h) fun v s1 ⟨x,H1,I1,r1,q1⟩=>?_);obtain ⟨c,rfl,q1⟩:=q1;cases r1;exact not_of (wpAny_truthy_bool ⟨.bl (!c),H1,I1,rfl,q1⟩)
abbrev jl (t:TT) (ta tb:TE):TE:=fun σ H Q=>t σ H fun c H1=>if c=true then ta σ H1 Q else tb σ H1 Q
theorem TH {c:Expr} (hc:PT X c tA) (ha:PE X a ta) (hb:PE X b tb):PE X (.IfExp c a b pos) (jl tA ta tb):=by
 intro pins s σ H Q I h;refine wpAny_IfExp (Ah (hc pins s σ H _ I h) fun d s1 ⟨H1,I1,q1⟩=>?_);cases d with
 | true=>exact ha pins s1 σ H1 Q I1 q1
 | false=>exact hb pins s1 σ H1 Q I1 q1
end
def CZ (K:W.Frag) (H:Hp) (a:Addr) (xs:List V):Prop:=
 Rd H a (.lst xs) \/
  ∃ (o:Obj) (its:Array Value) (n:Nat),K.lookup a=some o/\o.cls=.type "list" /\ o.dict=none/\o.data=.seq its n/\its.size<=sizeLine/\AD xs its.toList
def DG (K:W.Frag) (H:Hp) (a:Addr) (xs:List V):Prop:=
 Rd H a (.tup xs) \/
  ∃ (o:Obj) (its:Array Value) (n:Nat),K.lookup a=some o/\o.cls=.type "tuple" /\ o.data=.seq its n/\its.size<=sizeLine/\AD xs its.toList
noncomputable def jO:Value->Option V
 | .none=>some .non
 | .bool b=>some (.bl b)
 | .int i _=>some (.int i)
 | .str x _=>some (.str x)
 | .bytes b _=>some (.byt b)
 | .float b _=>some (.flt b)
 | .ref a=>some (.ref a)
 | .type n=>some (.ty n)
 | _=>none
theorem RelV.abs {x:V} {u:Value} (r:RelV x u):jO u=some x:=by
 cases x with
 | non=>cases r;rfl
 | bl _=>cases r;rfl
 | int _=>obtain ⟨t,rfl⟩:=r;rfl
 | str _=>obtain ⟨t,rfl⟩:=r;rfl
 | byt _=>obtain ⟨t,rfl⟩:=r;rfl
 | flt _=>obtain ⟨t,rfl⟩:=r;rfl
 | ref _=>cases r;rfl
 | ty _=>cases r;rfl
theorem RelV.inj {x y:V} {u:Value} (r:RelV x u) (q:RelV y u):x=y:=Option.some.inj (r.abs.symm.trans q.abs)
theorem AD.inj:∀ {xs ys:List V} {us:List Value},AD xs us->AD ys us->xs=ys
 | _,_,_,.nil,.nil=>rfl
 | _,_,_,.cons r t,.cons r' t'=>by rw [r.inj r',AD.inj t t']
section
variable {X:Cx} {pins:List (Addr×Obj)} {σ:St} {H:Hp} {s:Shared} {a:Addr} {xs ys:List V}
theorem Inv.list (I:Inv X pins σ H s) (h:CZ X.K H a xs):∃ its:List Value,AD xs its/\PlainL s.heap a its.toArray/\xs.length<=sizeLine:=by
 rcases h with h | ⟨o,its,n,hk,hc,hd,hs,hz,r⟩
 ·obtain ⟨z,its,n,r,e⟩:=h.ok I.hok;exact ⟨its,r,⟨_,n,e,rfl,rfl,rfl⟩,z⟩
 ·refine ⟨its.toList,r,⟨o,n,I.kIn a o hk,hc,hd,by simpa using hs⟩,?_⟩;have e:=r.length;simp only [Array.length_toList] at e;omega
theorem Inv.tuple (I:Inv X pins σ H s) (h:DG X.K H a xs):∃ its:List Value,AD xs its/\IsTup s.heap a its.toArray/\xs.length<=sizeLine:=by
 rcases h with h | ⟨o,its,n,hk,hc,hs,hz,r⟩
 ·obtain ⟨z,its,r,p⟩:=h.ok I.hok;exact ⟨its,r,p.tup,z⟩
 ·refine ⟨its.toList,r,⟨o,I.kIn a o hk,hc,n,by simpa using hs⟩,?_⟩;have e:=r.length;simp only [Array.length_toList] at e;omega
theorem Inv.list_inj (I:Inv X pins σ H s) (h:CZ X.K H a xs) (h':CZ X.K H a ys):xs=ys:=by
 obtain ⟨its,r,⟨o,n,e,_,_,d⟩,_⟩:=I.list h;obtain ⟨its',r',⟨o',n',e',_,_,d'⟩,_⟩:=I.list h';rw [e] at e';cases e';rw [d] at d';injection d' with d1 _
 have:its=its':=by simpa using congrArg Array.toList d1
 subst this;exact r.inj r'
theorem Inv.tuple_inj (I:Inv X pins σ H s) (h:DG X.K H a xs) (h':DG X.K H a ys):xs=ys:=by
 obtain ⟨its,r,⟨o,e,_,n,d⟩,_⟩:=I.tuple h;obtain ⟨its',r',⟨o',e',_,n',d'⟩,_⟩:=I.tuple h';rw [e] at e';cases e';rw [d] at d';injection d' with d1 _
 have:its=its':=by simpa using congrArg Array.toList d1
 subst this;exact r.inj r'
end
noncomputable abbrev Cx.wish (X:Cx) (E:Value->Shared->Prop):Cx:={ X with xe:=E }
noncomputable abbrev Cx.nox (X:Cx):Cx:=X.wish fun _ _=>False
theorem Cx.Ok.wish {X:Cx} (ok:X.Ok) (E:Value->Shared->Prop):(X.wish E).Ok:=
 ⟨ok.mod,ok.kind,ok.glob,ok.blt,ok.above,ok.inj,ok.has,ok.cab,ok.hd,ok.frames,ok.stk,ok.exf,ok.bs,ok.bsz,ok.noex,ok.exfs,ok.funs,ok.frf⟩
theorem Cx.Ok.unwish {X:Cx} {E:Value->Shared->Prop} (ok:(X.wish E).Ok):X.Ok:=
 ⟨ok.mod,ok.kind,ok.glob,ok.blt,ok.above,ok.inj,ok.has,ok.cab,ok.hd,ok.frames,ok.stk,ok.exf,ok.bs,ok.bsz,ok.noex,ok.exfs,ok.funs,ok.frf⟩
section
variable {X:Cx} {pins:List (Addr×Obj)} {σ:St} {H:Hp} {s:Shared} {E:Value->Shared->Prop}
theorem Inv.wish (I:Inv X pins σ H s) (E:Value->Shared->Prop):Inv (X.wish E) pins σ H s:=⟨I.ok.wish E,I.os,I.bare,I.base,I.loc,I.cell,I.free,I.freeC,I.pin,I.hok,I.len⟩
theorem Inv.unwish (I:Inv (X.wish E) pins σ H s):Inv X pins σ H s:=⟨I.ok.unwish,I.os,I.bare,I.base,I.loc,I.cell,I.free,I.freeC,I.pin,I.hok,I.len⟩
theorem SP.unwish {D:Ends} {f:Flow} {s':Shared} (h:SP (X.wish E) pins D f s'):SP X pins D f s':=by
 cases f with
 | next=>obtain ⟨σ',H',I,q⟩:=h;exact ⟨σ',H',I.unwish,q⟩
 | brk=>obtain ⟨σ',H',I,q⟩:=h;exact ⟨σ',H',I.unwish,q⟩
 | cont=>obtain ⟨σ',H',I,q⟩:=h;exact ⟨σ',H',I.unwish,q⟩
 | ret u=>obtain ⟨v,σ',H',I,r,q⟩:=h;exact ⟨v,σ',H',I.unwish,r,q⟩
theorem DJ.nox {st:List Stmt} {t:TS} (h:DJ X.nox st t):DJ X st t:=fun pins s σ H D I hw =>
 wpAny_mono (h pins s σ H D (I.wish _) hw) (fun _ _ q=>q.unwish) fun _ _ z=>False.elim z
end
section
variable {X:Cx} {st:Stmt} {rest:List Stmt} {t u:TS} {e:Expr} {te:TE} {pos:Pos}
abbrev Rr:TS:=fun D σ H=>D.nx σ H
abbrev iJ (t u:TS):TS:=fun D σ H=>t { D with nx:=u D } σ H
theorem WR:DJ X [] Rr:=fun _ _ σ H _ I h=>wpAny_execs_nil ⟨σ,H,I,h⟩
theorem Ks (h1:PS X st t) (h2:DJ X rest u):DJ X (st::rest) (iJ t u):=by
 intro pins s σ H D I h;refine wpAny_execs_cons (Ah (h1 pins s σ H { D with nx:=u D } I h) fun f s1 q=>?_);cases f with
 | next =>
  obtain ⟨σ',H',I',q⟩:=q;exact h2 pins s1 σ' H' D I' q
 | ret v=>exact q
 | brk=>exact q
 | cont=>exact q
theorem WQ (h1:PS X st t):DJ X [st] t:=by
 intro pins s σ H D I h;refine wpAny_execs_cons (Ah (h1 pins s σ H D I h) fun f s1 q=>?_);cases f with
 | next=>exact wpAny_execs_nil q
 | ret v=>exact q
 | brk=>exact q
 | cont=>exact q
abbrev Zo:TS:=fun D σ H=>D.bk σ H
abbrev dk:TS:=fun D σ H=>D.ct σ H
theorem WS:PS X (.Pass pos) Rr:=fun _ _ σ H _ I h=>wpAny_Pass ⟨σ,H,I,h⟩
theorem Sn:PS X (.Break pos) Zo:=fun _ _ σ H _ I h=>wpAny_Break ⟨σ,H,I,h⟩
theorem Kw:PS X (.Continue pos) dk:=fun _ _ σ H _ I h=>wpAny_Continue ⟨σ,H,I,h⟩
theorem Inv.quiet {pins:List (Addr×Obj)} {σ:St} {H:Hp} {s:Shared} (I:Inv X pins σ H s):interactive X.env=false:=by simp [interactive,I.ok.kind]
theorem aO {x j pos pos'}:PS X (.Expr (.Constant (.str x) j pos) pos') Rr:=fun _ s σ H _ I h=>wpAny_Expr (Calls.Constant_str (show SP X _ _ .next { s with toks:=s.toks+1 } from ⟨σ,H,I.tok _,h⟩)) I.quiet
abbrev di (te:TE):TS:=fun D σ H=>te σ H fun _ H1=>D.nx σ H1
theorem WT (he:PE X e te) (hs:swapsWith e none pos.line X.env=pure false:=by rfl):PS X (.Expr e pos) (di te):=by
 intro pins s σ H D I h;exact wpAny_Expr_any (Ah (he pins s σ H _ I h) fun v s1 ⟨x,H1,I1,r1,q1⟩=>⟨σ,H1,I1,q1⟩) I.quiet hs
abbrev iK (te:TE):TS:=fun D σ H=>te σ H D.rt
theorem aM (he:PE X e te):PS X (.Return (some e) pos) (iK te):=by
 intro pins s σ H D I h;exact wpAny_Return_some (Ah (he pins s σ H _ I h) fun v s1 ⟨x,H1,I1,r1,q1⟩=>⟨x,σ,H1,I1,r1,q1⟩)
abbrev iN (c:TT) (t u:TS):TS:=fun D σ H=>c σ H fun b H1=>if b=true then t D σ H1 else u D σ H1
theorem fG {c:Expr} {a b:List Stmt} {tc:TT} (hc:PT X c tc) (ha:DJ X a t) (hb:DJ X b u):PS X (.If c a b pos) (iN tc t u):=by
 intro pins s σ H D I h;refine wpAny_If (Ah (hc pins s σ H _ I h) fun d s1 ⟨H1,I1,q1⟩=>?_);cases d with
 | true=>exact ha pins s1 σ H1 D I1 q1
 | false=>exact hb pins s1 σ H1 D I1 q1
end
abbrev TG:=V->St->Hp->(St->Hp->Prop)->Prop
abbrev Nm:=List V->St->Hp->(St->Hp->Prop)->Prop
def PG (X:Cx) (target:Expr) (t:TG):Prop:=
 ∀ (pins:List (Addr×Obj)) (s:Shared) (σ:St) (H:Hp) (v:V) (u:Value) (Q:St->Hp->Prop),Inv X pins σ H s->RelV v u->t v σ H Q ->
  wpAny (model X.prog X.w) X.A (assign target X.env u) (fun _ s'=>∃ σ' H',Inv X pins σ' H' s'/\Q σ' H') X.xe s
def dM (X:Cx) (ts:List Expr) (t:Nm):Prop:=
 ∀ (pins:List (Addr×Obj)) (s:Shared) (σ:St) (H:Hp) (vs:List V) (us:List Value) (Q:St->Hp->Prop),Inv X pins σ H s->AD vs us->t vs σ H Q ->
  wpAny (model X.prog X.w) X.A (assignInOrder ((assignEach ts X.env).map (·.2)) us) (fun _ s'=>∃ σ' H',Inv X pins σ' H' s'/\Q σ' H') X.xe s
abbrev MJ:=V->V->V->Hp->(Hp->Prop)->Prop
def KN (X:Cx) (t:MJ):Prop:=
 ∀ (pins:List (Addr×Obj)) (s:Shared) (σ:St) (H:Hp) (o i v:V) (ov iv u:Value) (Q:Hp->Prop),Inv X pins σ H s->RelV o ov->RelV i iv->RelV v u->t o i v H Q ->
  wpAny (model X.prog X.w) X.A (setItem ov iv u) (fun _ s'=>∃ H',Inv X pins σ H' s'/\Q H') X.xe s
abbrev iC:=V->V->Hp->VK->Prop
def jU (X:Cx) (op:Operator) (t:iC):Prop:=
 ∀ (pins:List (Addr×Obj)) (s:Shared) (σ:St) (H:Hp) (x y:V) (v u:Value) (Q:VK),Inv X pins σ H s->RelV x v->RelV y u->t x y H Q ->
  wpAny (model X.prog X.w) X.A (inplaceOp op v u) (EP X pins σ Q) X.xe s
section
variable {X:Cx} {pos:Pos}
abbrev DZ (i:Nat):TG:=fun v σ H Q=>Q (σ.set i (some v)) H
theorem Wh {i:Nat} {x:Str} (hN:X.N.Nodup) (hi:X.N[i]?=some x) (hx:Loc X.env.scope x) (hf:X.fn x=true\/X.env.scope.names.lookup x=some .local:=by first | exact .inl rfl | exact .inr rfl | assumption):PG X (.Name x pos) (DZ i):=by
 intro pins s σ H v u Q I r h;exact wpAny_assign_Name (DN I hN hi hx r (fun s' I'=>⟨_,H,I',h⟩) hf)
abbrev XN:Nm:=fun vs σ H Q=>vs=[]/\Q σ H
abbrev LR (t:TG) (u:Nm):Nm:=fun vs σ H Q=>∃ v r,vs=v::r/\t v σ H fun σ' H'=>u r σ' H' Q
theorem OR:dM X [] XN:=by
 intro pins s σ H vs us Q I r h;obtain ⟨e,h⟩:=h;subst e;cases r;exact assignInOrder_nil ⟨σ,H,I,h⟩
theorem HB {e:Expr} {es:List Expr} {t:TG} {u:Nm} (h1:PG X e t) (h2:dM X es u)
    (hs:(assignEach (e::es) X.env).map (·.2)=assign e X.env::(assignEach es X.env).map (·.2):=by rfl):dM X (e::es) (LR t u):=by
  intro pins s σ H vs us Q I r h;obtain ⟨v,vr,e1,h⟩:=h;subst e1;cases r with
  | cons r rr =>
    rw [hs];refine assignInOrder_cons (Ah (h1 pins s σ H _ _ _ I r h) fun _ s1 ⟨σ1,H1,I1,q1⟩=>?_);exact h2 pins s1 σ1 H1 _ _ Q I1 rr q1
abbrev XM (K:W.Frag) (n:Nat) (t:Nm):TG:=fun v σ H Q=>∃ a xs,v=.ref a/\DG K H a xs/\xs.length=n/\t xs σ H Q
theorem TC {es:List Expr} {k:Nat} {t:Nm} {n:Nat} (hc:X.calm=true) (h:dM X es t)
    (hn:(assignEach es X.env).length=n:=by rfl) (hst:(assignEach es X.env).findIdx? (·.1)=none:=by rfl):PG X (.Tuple es k pos) (XM X.K n t):=by
  intro pins s σ H v u Q I r hw;obtain ⟨a,xs,e1,hq,hl,hw⟩:=hw;subst e1;cases r;obtain ⟨its,rv,ht,hz⟩:=I.tuple hq;refine assign_Tuple_tuple (I.ok.hd hc) ht (by simp [hn,<- hl,rv.length]) hst fun h' hx=>?_
  have I1:Inv X pins σ H { s with heap:=h' }:=I.kept (t':=s.toks) fun b o e=>hx b o (lP (lA e)) e
  exact h pins _ σ H xs _ Q I1 (by simpa using rv) hw
abbrev Tu (to ti:TE) (t:MJ):TG:=fun v σ H Q=>to σ H fun o H1=>ti σ H1 fun i H2=>t o i v H2 fun H3=>Q σ H3
theorem Ml {o i:Expr} {to ti:TE} {t:MJ} (ho:PE X o to) (hi:PE X i ti) (hs:KN X t)
    (ha:∀ v,assign (.Subscript o i pos) X.env v=(do
      let ov <- holding [v] (eval o X.env)
      let iv <- holding [v,ov] (eval i X.env)
      standAt pos
      holding [v,ov,iv] (setItem ov iv v)
      release [v,ov,iv] []):=by intro _;rfl):PG X (.Subscript o i pos) (Tu to ti t):=by
  intro pins s σ H v u Q I r h;rw [ha];refine wpAny_bind (wpAny_holding (Ah (ho pins s σ H _ I h) fun ov s1 ⟨x,H1,I1,r1,q1⟩=>?_));refine wpAny_bind (wpAny_holding (Ah (hi pins s1 σ H1 _ I1 q1) fun iv s2 ⟨y,H2,I2,r2,q2⟩=>?_));refine wpAny_bind (wpAny_standAt (wpAny_bind (wpAny_holding (Ah (hs pins s2 σ H2 x y v ov iv u _ I2 r1 r2 r q2) fun _ s3 ⟨H3,I3,q3⟩=>?_))));exact wpAny_release ⟨σ,H3,I3,q3⟩
abbrev Kb (te:TE) (g:TG):TS:=fun D σ H=>te σ H fun x H1=>g x σ H1 D.nx
theorem Mj {tg e:Expr} {te:TE} {g:TG} (he:PE X e te) (hg:PG X tg g) (hs:swapsWithSole [tg] e pos.line X.env=pure false:=by rfl) (hw:swappedStores [tg] e X.env=pure none:=by rfl)
    (h1:(assignEach [tg] X.env).map (·.2)=[assign tg X.env]:=by rfl):PS X (.Assign [tg] e pos) (Kb te g):=by
  intro pins s σ H D I h;refine wpAny_Assign_stores (Ah (he pins s σ H _ I h) fun v s1 ⟨x,H1,I1,r1,q1⟩=>?_) hs hw;rw [h1];exact Ah (hg pins s1 σ H1 x v _ I1 r1 q1) fun _ s2 q=>q
theorem aL {i:Nat} {x:Str} {e:Expr} {te:TE} {pos':Pos} (hN:X.N.Nodup) (hi:X.N[i]?=some x) (hx:Loc X.env.scope x) (he:PE X e te) (hs:swapsWith e (some (.Name x pos')) pos.line X.env=pure false:=by rfl) (hf:X.fn x=true\/X.env.scope.names.lookup x=some .local:=by first | exact .inl rfl | exact .inr rfl | assumption) :
    PS X (.Assign [.Name x pos'] e pos) (Kb te (DZ i)):=by
  intro pins s σ H D I h;refine wpAny_Assign_Name (Ah (he pins s σ H _ I h) fun v s1 ⟨y,H1,I1,r1,q1⟩=>?_) hs;exact DN I1 hN hi hx r1 (fun s2 I2=>⟨_,H1,I2,q1⟩) hf
abbrev iL (i j:Nat) (ta:TA):TS:=fun D σ H=>ta σ H fun vs H1=>∃ v w,vs=[v,w]/\D.nx ((σ.set i (some v)).set j (some w)) H1
theorem aN {i j:Nat} {x y:Str} {a b:Expr} {ta:TA} {px py pt:Pos} {kt k2 pt2} (hc:X.calm=true) (hN:X.N.Nodup) (hi:X.N[i]?=some x) (hj:X.N[j]?=some y) (hij:i≠j)
    (hx:X.env.scope.names.lookup x=some .local) (hy:X.env.scope.names.lookup y=some .local) (ha:PA X [a,b] ta)
    (hw:swappedStores [.Tuple [.Name x px,.Name y py] kt pt] (.Tuple [a,b] k2 pt2) X.env=pure (some [x,y]))
    (hs:swapsWithSole [.Tuple [.Name x px,.Name y py] kt pt] (.Tuple [a,b] k2 pt2) pos.line X.env=pure false:=by rfl) :
    PS X (.Assign [.Tuple [.Name x px,.Name y py] kt pt] (.Tuple [a,b] k2 pt2) pos) (iL i j ta):=by
  intro pins s σ H D I h;rw [exec_Assign_arm];refine wpAny_bind (wpAny_standAt ?_);rw [hs];refine wpAny_bind (wpAny_pure ?_);rw [if_neg (by decide)];refine wpAny_bind (Tuple_ (Ah (ha _ pins s σ H _ I h) fun us s1 ⟨vs,H1,I1,r1,q1⟩=>?_));obtain ⟨v,w,e1,q1⟩:=q1;subst e1;obtain ⟨u1,u2,rfl,rv,rw'⟩:∃ u1 u2,us=[u1,u2]/\RelV v u1/\RelV w u2:=by
    cases r1 with
    | cons p q =>
      cases q with
      | cons p' q' =>
        cases q';exact ⟨_,_,rfl,p,p'⟩
  refine wpAny_newObj_type ?_ (by show 2<=sizeLine;decide)
  have I2:Inv X pins σ H1 { s1 with heap:=s1.heap.push { cls:=.type "tuple", data:=.seq [u1,u2].toArray } }:=I1.kept (t':=s1.toks) fun b o e=>kY _ e
  rw [hw];refine wpAny_bind (wpAny_pure ?_)
  show wpAny (model X.prog X.w) X.A (do rule "assign.swapped-stores"; let items <- unpackItems (.ref s1.heap.objs.size) 2 none;assignInOrder [fun v=>bindName X.env y v,fun v=>bindName X.env x v] items.reverse;pure Flow.next) _ _ _
  refine wpAny_bind (wpAny_rule (wpAny_bind (unpackItems_tuple (items:=#[u1,u2]) (I.ok.hd hc) (IsTup.new s1.heap _) fun h' hx'=>?_)));have I3:=I2.kept (h':=h') (t':=s1.toks) fun b o e=>hx' b o (lP (lA e)) e
  show wpAny _ _ (assignInOrder [fun v=>bindName X.env y v,fun v=>bindName X.env x v] [u2,u1] >>= fun _=>pure Flow.next) _ _ _;refine wpAny_bind (assignInOrder_cons (wpAny_bindName (DN I3 hN hj (.inl hy) rw' (fun s2 I4=>?_) (.inr hy))));refine assignInOrder_cons (wpAny_bindName (DN I4 hN hi (.inl hx) rv (fun s3 I5=>assignInOrder_nil (wpAny_pure ?_)) (.inr hx)));rw [List.set_comm _ _ (Ne.symm hij)] at I5;exact ⟨_,H1,I5,q1⟩
abbrev dq (i:Nat) (te:TE) (ti:iC):TS:=fun D σ H=>∃ x,σ[i]?=some (some x)/\te σ H fun y H1=>ti x y H1 fun z H2=>D.nx (σ.set i (some z)) H2
theorem So {i:Nat} {x:Str} {e:Expr} {te:TE} {op:Operator} {ti:iC} {pos':Pos} (hN:X.N.Nodup) (hi:X.N[i]?=some x) (hx:Loc X.env.scope x) (he:PE X e te) (ho:jU X op ti) (hf:X.fn x=true\/X.env.scope.names.lookup x=some .local:=by first | exact .inl rfl | exact .inr rfl | assumption) :
    PS X (.AugAssign (.Name x pos') op e pos) (dq i te ti):=by
  intro pins s σ H D I h;obtain ⟨v,e1,h⟩:=h;obtain ⟨m,hn,hl⟩:=I.loc;have vis:gr X.env.scope x:=by rcases hx with k | k;exact .inl k;exact .inr (.inl k)
  obtain ⟨u,r,l⟩:=hl i x v hi e1 vis;refine wpAny_AugAssign_Name ?_;have go:wpAny (model X.prog X.w) X.A (eval e X.env) (fun w s₂=>wpAny (model X.prog X.w) X.A (inplaceOp op u w) (fun r s₃=>wpAny (model X.prog X.w) X.A (storeName X.env x r) (fun _=>SP X pins D .next) X.xe s₃) X.xe s₂) X.xe s:=by
    refine Ah (he pins s σ H _ I h) fun w s1 ⟨y,H1,I1,r1,q1⟩=>?_
    refine Ah (ho pins s1 σ H1 v y u w _ I1 r r1 q1) fun z s2 ⟨zv,H2,I2,r2,q2⟩=>?_
    exact DN I2 hN hi hx r2 (fun s3 I3=>⟨_,H2,I3,q2⟩) hf
  rcases l with ⟨hk,hm⟩ | ⟨hk,c,hc,hcell⟩
  · exact wpAny_loadName_local I.ok.kind hk hn hm go
  · rcases hk with hk | hk
    · exact wpAny_loadName_cell I.ok.kind hk hc hcell go
    · rcases hx with k | k
      · have:X.env.scope.names.lookup x=some .free:=hk;rw [k] at this;cases this
      · have:X.env.scope.names.lookup x=some .free:=hk;rw [k] at this;cases this
def ic (f:Int->Int->Int):iC:=fun x y H Q=>∃ i j,x=.int i/\y=.int j/\Q (.int (f i j)) H
theorem bZ:jU X .Add (ic fun i j=>i+j):=by
 intro pins s σ H x y v u Q I r1 r2 h;obtain ⟨i,j,e1,e2,q⟩:=h;subst e1;subst e2;obtain ⟨t,rfl⟩:=r1;obtain ⟨t',rfl⟩:=r2;exact iadd_int ⟨.int _,H,I.tok _,⟨_,rfl⟩,q⟩
theorem bY:jU X .Sub (ic fun i j=>i - j):=by
 intro pins s σ H x y v u Q I r1 r2 h;obtain ⟨i,j,e1,e2,q⟩:=h;subst e1;subst e2;obtain ⟨t,rfl⟩:=r1;obtain ⟨t',rfl⟩:=r2;exact isub_int ⟨.int _,H,I.tok _,⟨_,rfl⟩,q⟩
end
section
variable {X:Cx} {pos:Pos}
def Ro (c:TT) (tb:TS):TS:=fun D σ H=>∃ W:Nat->St->Hp->Prop,(∃ m,W m σ H)/\∀ m σ H,W m σ H ->
 c σ H fun b H1=>if b=true then ∃ N:St->Hp->Prop,(∀ σ' H',N σ' H'->∃ m',m' < m/\W m' σ' H')/\tb { D with nx:=N,ct:=N,bk:=D.nx } σ H1 else D.nx σ H1
theorem Ku {c:Expr} {body:List Stmt} {tc:TT} {tb:TS} (hp:PassesOwn (model X.prog X.w) X.A X.env X.xe) (hc:PT X c tc) (hb:DJ X body tb):PS X (.While c body [] pos) (Ro tc tb):=by
 intro pins s σ H D I h;obtain ⟨W,⟨m0,w0⟩,turn⟩:=h;refine wpAny_While (codeAny_whileLoop (fun n s'=>∃ σ' H',Inv X pins σ' H' s'/\W n σ' H') ?_ m0 ⟨σ,H,I,w0⟩);rintro n s1 ⟨σ1,H1,I1,w1⟩;refine wpAny_passesOwn hp (Ah (hc pins s1 σ1 H1 _ I1 (turn n σ1 H1 w1)) fun b s2 ⟨H2,I2,q2⟩=>?_);cases b with
 | true =>
  obtain ⟨N,hN,q2⟩:=q2;rw [if_pos rfl];refine wpAny_passesOwn hp (Ah (hb pins s2 σ1 H2 _ I2 q2) fun f s3 q3=>?_);cases f with
  | next =>
   obtain ⟨σ3,H3,I3,n3⟩:=q3;obtain ⟨m',hm,w3⟩:=hN σ3 H3 n3;exact ⟨m',hm,σ3,H3,I3,w3⟩
  | cont =>
   obtain ⟨σ3,H3,I3,n3⟩:=q3;obtain ⟨m',hm,w3⟩:=hN σ3 H3 n3;exact ⟨m',hm,σ3,H3,I3,w3⟩
  | brk=>exact q3
  | ret v=>exact q3
 | false =>
  rw [if_neg kr];exact wpAny_execs_nil ⟨σ1,H2,I2,q2⟩
end
structure It where
 go:Nat->Hp->Prop
 yld:Nat->Hp->V->Hp->Prop
 stop:Nat->Hp->Prop
def FpOk (X:Cx) (pins:List (Addr×Obj)) (H:Hp) (b:Addr):Prop:=
 H b=none/\b≠X.env.locals/\b∉X.fs/\(b∈X.ex\/X.s₀.heap.objs.size<=b)/\(∀ x c,X.env.cells.lookup x=some c->c≠b)/\∀ p∈X.pn++pins,p.1≠b
theorem Inv.fpOk {X:Cx} {pins:List (Addr×Obj)} {σ:St} {H H':Hp} {s:Shared} {b:Addr} (I:Inv X pins σ H s) (hb:s.heap.objs.size<=b) (hn:H' b=none):FpOk X pins H' b:=by
 refine ⟨hn,mn (lC I.lt hb),I.nofs hb,.inr (lI I.sz hb),fun x c e z=>?_,fun p hp z=>?_⟩
 ·obtain ⟨v,q⟩:=I.cell x c e;exact absurd (lC q.lt (by rw [z];exact hb)) (mH _)
 ·exact absurd (lC (lA (I.pin p hp).1) (by rw [z];exact hb)) (mH _)
structure Turn (P:Program) (w:World) (K:W.Frag) (tg:Expr) (J:It) (fp:List Addr) (it:Addr) (tn:Nat->Heap->Prop):Prop where
 mem:it∈fp
 obj:∀ i h,tn i h->∀ b∈fp,∃ o,h.get? b=some o/\∀ v,o.data≠.cell v
 keep:∀ i h h',tn i h->(∀ b∈fp,∀ o,h.get? b=some o->h'.get? b=some o)->tn i h'
 item:∀ (X:Cx),X.prog=P->X.w=w->X.K=K->X.calm=true->∀ (i:Nat) (pins:List (Addr×Obj)) (s:Shared) (σ:St) (H:Hp) (E:Value->Shared->Prop),Inv X pins σ H s->(∀ b∈fp,FpOk X pins H b)->tn i s.heap->J.go i H ->
  wpAny (model P w) X.A (pyNext (.ref it)) (fun r s1=>∃ u,r=some u /\
   wpAny (model P w) X.A (letOwnedTupleGo tg (.ref it) u) (fun _ s2=>∃ x H',Inv X pins σ H' s2/\RelV x u/\J.yld i H x H'/\tn (i+1) s2.heap/\∀ b∈fp,H' b=none) E s1) E s
 done:∀ (X:Cx),X.prog=P->X.w=w->X.K=K->X.calm=true->∀ (i:Nat) (pins:List (Addr×Obj)) (s:Shared) (σ:St) (H:Hp) (E:Value->Shared->Prop),Inv X pins σ H s->(∀ b∈fp,FpOk X pins H b)->tn i s.heap->J.stop i H ->
  wpAny (model P w) X.A (pyNext (.ref it)) (fun r s1=>r=none/\Inv X pins σ H s1) E s
 self:∀ (A:Around) (i:Nat) (s:Shared) (Q:Value->Shared->Prop) (E:Value->Shared->Prop),tn i s.heap->Q (.ref it) s->wpAny (model P w) A (pyIter (.ref it)) Q E s
abbrev TI:=St->Hp->(It->Hp->Prop)->Prop
def kH (X:Cx) (pins:List (Addr×Obj)) (σ:St) (tg:Expr) (R:It->Hp->Prop) (itv:Value) (s2:Shared):Prop:=
 ∃ (it:Addr) (fp:List Addr) (tn:Nat->Heap->Prop) (J:It) (H':Hp),itv=.ref it/\Inv X pins σ H' s2/\Turn X.prog X.w X.K tg J fp it tn/\tn 0 s2.heap/\(∀ b∈fp,FpOk X pins H' b)/\R J H'
def PI (X:Cx) (tg iter:Expr) (wi:TI):Prop:=
 ∀ (pins:List (Addr×Obj)) (s:Shared) (σ:St) (H:Hp) (R:It->Hp->Prop),Inv X pins σ H s->wi σ H R ->
  wpAny (model X.prog X.w) X.A (eval iter X.env) (fun v s1=>wpAny (model X.prog X.w) X.A (pyIter v) (kH X pins σ tg R) X.xe s1) X.xe s
theorem Oi {M:Model} {A:Around} {E:Value->Shared->Prop} {s:Shared} {tg:Expr} {it:Addr} {u:Value} {o:Obj} {n:String} {vs:Array Value} {Q:Unit->Shared->Prop} (ho:s.heap.get? it=some o) (hc:o.cls=.type n) (hd:o.data=.fields vs)
    (hn:["enumerate", "zip", "dict_itemiterator", "dict_reverseitemiterator", "odict_iterator", "itertools.zip_longest", "itertools.pairwise"].contains n=false) (hQ:Q () s):wpAny M A (letOwnedTupleGo tg (.ref it) u) Q E s:=by
  unfold letOwnedTupleGo;cases tg<;>first
    | exact wpAny_pure hQ
    | (cases u<;>first
        | exact wpAny_pure hQ
        | (refine wpAny_bind (wpAny_load ho ?_)
           rw [hc,hd]
           show wpAny M A (if (["enumerate", "zip", "dict_itemiterator", "dict_reverseitemiterator", "odict_iterator", "itertools.zip_longest", "itertools.pairwise"].contains n && vs[0]? == some (rawInt _))=true then _ else _) Q E s
           rw [if_neg (by intro h;rw [hn,Bool.false_and] at h;cases h)];exact wpAny_pure hQ))
noncomputable def iF (K:W.Frag) (a:Addr):It:=
 ⟨fun i H=>∃ xs x,CZ K H a xs/\xs[i]?=some x,fun i H x H'=>H'=H/\∀ xs,CZ K H a xs->xs[i]?=some x,fun i H=>∃ xs,CZ K H a xs/\xs.length<=i⟩
noncomputable def jV (K:W.Frag) (a:Addr):It:=
 ⟨fun i H=>∃ xs x,DG K H a xs/\xs[i]?=some x,fun i H x H'=>H'=H/\∀ xs,DG K H a xs->xs[i]?=some x,fun i H=>∃ xs,DG K H a xs/\xs.length<=i⟩
noncomputable def dE (lo:Int) (n:Nat):It:=⟨fun i _=>i < n,fun i H x H'=>H'=H/\x=.int (lo+i),fun i _=>n<=i⟩
theorem Pd {P:Program} {w:World} {K:W.Frag} {tg:Expr} (a it:Addr):Turn P w K tg (iF K a) [it] it (fun i h=>h.IsListIter it a i) where
 mem:=by simp
 obj:=fun i h st b hb=>by
  have e:b=it:=by simpa using hb
  subst e;obtain ⟨o,e,c,d⟩:=st;exact ⟨o,e,fun v z=>by rw [d] at z;cases z⟩
 keep:=fun i h h' st k=>st.at fun o e=>k it (by simp) o e
 item:=by
  intro X hP hw hK hc i pins s σ H E I hf st hg;subst hP hw hK;obtain ⟨xs,x,hq,hx⟩:=hg;obtain ⟨its,rv,p,hz⟩:=I.list hq;obtain ⟨u,hu,ru⟩:=rv.get hx;obtain ⟨f0,f1,f2,f3,f4,f5⟩:=hf it (by simp);refine wpAny_pyNext_list_item st p.isList (x:=u) (by simpa using hu) fun h' st' sb=>?_
  have I1:Inv X pins σ H { s with heap:=h' }:=I.turned (t':=s.toks) (fun b o hb e=>(sb.2 b hb).trans e) f0 f1 f3 f4 f5;obtain ⟨o,e,c,d⟩:=id st';exact ⟨u,rfl,Oi (s:={ s with heap:=h' }) e c d (by decide) ⟨x,H,I1,ru,⟨rfl,fun ys hy=>by rw [I.list_inj hy hq];exact hx⟩,st',fun b hb=>(hf b hb).1⟩⟩
 done:=by
  intro X hP hw hK hc i pins s σ H E I hf st hg;subst hP hw hK;obtain ⟨xs,hq,hx⟩:=hg;obtain ⟨its,rv,p,hz⟩:=I.list hq;obtain ⟨f0,f1,f2,f3,f4,f5⟩:=hf it (by simp);have hl:=rv.length;exact wpAny_pyNext_list_end (I.ok.hd hc) st p.isList (by simp;omega) fun h' eb=>⟨rfl,I.turned (t':=s.toks) (fun b o hb e=>eb b o hb e) f0 f1 f3 f4 f5⟩
 self:=fun _ _ _ _ _ st h=>wpAny_pyIter_listiter st h
theorem MR {P:Program} {w:World} {K:W.Frag} {tg:Expr} (a it:Addr):Turn P w K tg (jV K a) [it] it (fun i h=>h.IsTupleIter it a i) where
 mem:=by simp
 obj:=fun i h st b hb=>by
  have e:b=it:=by simpa using hb
  subst e;obtain ⟨o,e,c,d⟩:=st;exact ⟨o,e,fun v z=>by rw [d] at z;cases z⟩
 keep:=fun i h h' st k=>st.at fun o e=>k it (by simp) o e
 item:=by
  intro X hP hw hK hc i pins s σ H E I hf st hg;subst hP hw hK;obtain ⟨xs,x,hq,hx⟩:=hg;obtain ⟨its,rv,p,hz⟩:=I.tuple hq;obtain ⟨u,hu,ru⟩:=rv.get hx;obtain ⟨f0,f1,f2,f3,f4,f5⟩:=hf it (by simp);refine wpAny_pyNext_tuple_item st (show s.heap.IsTuple a its.toArray from p) (x:=u) (by simpa using hu) fun h' st' sb=>?_
  have I1:Inv X pins σ H { s with heap:=h' }:=I.turned (t':=s.toks) (fun b o hb e=>(sb.2 b hb).trans e) f0 f1 f3 f4 f5;obtain ⟨o,e,c,d⟩:=id st';exact ⟨u,rfl,Oi (s:={ s with heap:=h' }) e c d (by decide) ⟨x,H,I1,ru,⟨rfl,fun ys hy=>by rw [I.tuple_inj hy hq];exact hx⟩,st',fun b hb=>(hf b hb).1⟩⟩
 done:=by
  intro X hP hw hK hc i pins s σ H E I hf st hg;subst hP hw hK;obtain ⟨xs,hq,hx⟩:=hg;obtain ⟨its,rv,p,hz⟩:=I.tuple hq;obtain ⟨f0,f1,f2,f3,f4,f5⟩:=hf it (by simp);have hl:=rv.length;exact wpAny_pyNext_tuple_end (I.ok.hd hc) st (show s.heap.IsTuple a its.toArray from p) (by simp;omega) fun h' eb=>⟨rfl,I.turned (t':=s.toks) (fun b o hb e=>eb b o hb e) f0 f1 f3 f4 f5⟩
 self:=fun _ _ _ _ _ st h=>wpAny_pyIter_tupleiter st h
theorem MS {P:Program} {w:World} {K:W.Frag} {tg:Expr} (it:Addr) (lo:Int) (n:Nat):Turn P w K tg (dE lo n) [it] it (fun i h=>IsRangeIter h it (lo+(i:Nat) * 1) ((n:Int) - (i:Nat)) 1) where
 mem:=by simp
 obj:=fun i h st b hb=>by
  have e:b=it:=by simpa using hb
  subst e;exact ⟨_,st,fun v z=>by
   have z':Data.fields _=Data.cell v:=z;cases z'⟩
 keep:=fun i h h' st k=>k it (by simp) _ st
 item:=by
  intro X hP hw hK hc i pins s σ H E I hf st hg;subst hP hw hK;obtain ⟨f0,f1,f2,f3,f4,f5⟩:=hf it (by simp);have W:=Walks.range (prog:=X.prog) (w:=X.w) (I.ok.hd hc) it lo 1 n;refine W.item i s _ _ hg st fun v h' tk hv st' kk=>?_
  obtain ⟨t,rfl⟩:=hv;have I1:Inv X pins σ H { s with heap:=h',toks:=tk }:=I.turned (fun b o hb e=>kk b o (by simpa using hb) e) f0 f1 f3 f4 f5
  refine ⟨_,rfl,Oi (s:={ s with heap:=h',toks:=tk }) (n := "range_iterator") st' rfl rfl (by decide) ⟨.int (lo+i),H,I1,⟨t,?_⟩,⟨rfl,rfl⟩,st',fun b hb=>(hf b hb).1⟩⟩
  rw [Int.mul_one]
 done:=by
  intro X hP hw hK hc i pins s σ H E I hf st hg;subst hP hw hK;obtain ⟨f0,f1,f2,f3,f4,f5⟩:=hf it (by simp);exact wpAny_pyNext_range_end (I.ok.hd hc) st (by have:n<=i:=hg;omega) fun h' eb=>⟨rfl,I.turned (t':=s.toks) (fun b o hb e=>eb b o hb e) f0 f1 f3 f4 f5⟩
 self:=fun _ _ _ _ _ st h=>wpAny_pyIter_rangeiter st h
section
variable {X:Cx} {tg:Expr}
theorem Km {pins:List (Addr×Obj)} {σ:St} {H:Hp} {s:Shared} {R:It->Hp->Prop} {E:Value->Shared->Prop} {lo hi:Int} {t u v:Tok} {tk:Nat} (I:Inv X pins σ H s) (h1:-(2 ^ 62)<=lo) (h2:lo < 2 ^ 62) (h3:-(2 ^ 62)<=hi) (h4:hi < 2 ^ 62)
    (q:R (dE lo (hi - lo).toNat) H):wpAny (model X.prog X.w) X.A (pyIter (.ref s.heap.objs.size)) (kH X pins σ tg R) E { s with heap:=s.heap.push { cls:=.type "range", data:=.fields #[.int lo t,.int hi u,.int 1 v] },toks:=tk }:=by
  refine wpAny_pyIter_range (IsRange.new ..) (small_one h1 h2 h3 h4) ?_
  have I1:Inv X pins σ H { s with heap:=s.heap.push { cls:=.type "range", data:=.fields #[.int lo t,.int hi u,.int 1 v] },toks:=tk }:=I.kept fun b o e=>kY _ e
  refine ⟨(s.heap.push { cls:=.type "range", data:=.fields #[.int lo t,.int hi u,.int 1 v] }).objs.size,[(s.heap.push { cls:=.type "range", data:=.fields #[.int lo t,.int hi u,.int 1 v] }).objs.size],_,_,H,rfl,
    I1.kept (t':=tk) fun b o e=>kY _ e,MS _ lo (hi - lo).toNat,?_,fun b hb=>?_,q⟩
  · have e1:lo+((0:Nat):Int) * 1=lo:=by simp
    have e2:(((hi - lo).toNat:Nat):Int) - ((0:Nat):Int)=Builtin.Range.rangeSize lo hi 1:=by rw [rangeSize_one];split<;>omega
    show IsRangeIter _ _ (lo+((0:Nat):Int) * 1) ((((hi - lo).toNat:Nat):Int) - ((0:Nat):Int)) 1;rw [e1,e2];exact kz _ rfl
  · have e:b=(s.heap.push { cls:=.type "range", data:=.fields #[.int lo t,.int hi u,.int 1 v] }).objs.size:=by simpa using hb
    subst e;exact I1.fpOk (kj _) (I1.hok.fresh (kj _))
abbrev fm (ta:TA):TI:=fun σ H R=>ta σ H fun vs H1=>∃ j:Int,vs=[.int j]/\-(2 ^ 62)<=j/\j < 2 ^ 62/\R (dE 0 j.toNat) H1
abbrev fj (ta:TA):TI:=fun σ H R=>ta σ H fun vs H1=>∃ i j:Int,vs=[.int i,.int j]/\(-(2 ^ 62)<=i/\i < 2 ^ 62/\-(2 ^ 62)<=j/\j < 2 ^ 62)/\R (dE i (j - i).toNat) H1
theorem QD {a:Expr} {ta:TA} {p pos:Pos} (hg:Gl X "range") (hm:X.mg "range" = none) (ha:PA X [a] ta) (hs:starEach [a] X.env=[(false,eval a X.env)]:=by rfl):PI X tg (.Call (.Name "range" p) [a] [] pos) (fm ta):=by
 intro pins s σ H R I h;refine Call_ (Bc I hg hm boot_range (lV (Ah (ha pos pins s σ H _ I h) fun us s1 ⟨vs,H1,I1,r1,q1⟩=>?_) hs rfl));obtain ⟨j,e,q1,q2,q⟩:=q1;subst e;cases r1 with
 | cons r rr =>
  cases rr;obtain ⟨t,rfl⟩:=r;exact call_range_1 (Km I1 (by omega) (by omega) q1 q2 (by simpa using q))
theorem QC {a b:Expr} {ta:TA} {p pos:Pos} (hg:Gl X "range") (hm:X.mg "range" = none) (ha:PA X [a,b] ta) (hs:starEach [a,b] X.env=[(false,eval a X.env),(false,eval b X.env)]:=by rfl) (hs2:starEach [b] X.env=[(false,eval b X.env)]:=by rfl) :
    PI X tg (.Call (.Name "range" p) [a,b] [] pos) (fj ta):=by
  intro pins s σ H R I h;refine Call_ (Bc I hg hm boot_range (lV (Ah (ha pos pins s σ H _ I h) fun us s1 ⟨vs,H1,I1,r1,q1⟩=>?_) (by rw [hs,hs2]) (by rw [hs2];rfl)));obtain ⟨i,j,e,⟨q1,q2,q3,q4⟩,q⟩:=q1;subst e;cases r1 with
  | cons r rr =>
    cases rr with
    | cons r' rr =>
      cases rr;obtain ⟨t,rfl⟩:=r;obtain ⟨t',rfl⟩:=r';exact call_range_2 (Km I1 q1 q2 q3 q4 q)
abbrev iO (wi:TI) (g:TG) (tb:TS):TS:=fun D σ H=>wi σ H fun J H1=>∃ W:Nat->Nat->St->Hp->Prop,(∃ m,W 0 m σ H1)/\∀ i m σ H,W i m σ H ->
 (J.stop i H/\D.nx σ H)\/(J.go i H/\∃ N:St->Hp->Prop,(∀ σ' H',N σ' H'->∃ m',m' < m/\W (i+1) m' σ' H')/\∀ x H',J.yld i H x H'->g x σ H' fun σ2 H2=>tb { D with nx:=N,ct:=N,bk:=D.nx } σ2 H2)
noncomputable def Ji (fp:List Addr) (h:Heap):List (Addr×Obj):=fp.filterMap fun b=>(h.get? b).map fun o=>(b,o)
theorem DA {fp:List Addr} {h:Heap} {b:Addr} {o:Obj} (hb:b∈fp) (e:h.get? b=some o):(b,o)∈Ji fp h:=List.mem_filterMap.mpr ⟨b,hb,by rw [e];rfl⟩
theorem QI {fp:List Addr} {h:Heap} {p:Addr×Obj} (hp:p∈Ji fp h):p.1∈fp/\h.get? p.1=some p.2:=by
 obtain ⟨b,hb,e⟩:=List.mem_filterMap.mp hp;cases q:h.get? b with
 | none=>rw [q] at e;cases e
 | some o =>
  rw [q] at e;have e':(b,o)=p:=Option.some.inj e;subst e';exact ⟨hb,q⟩
theorem Inv.pinned {pins:List (Addr×Obj)} {σ:St} {H:Hp} {s:Shared} {fp:List Addr} (I:Inv X pins σ H s) (hf:∀ b∈fp,FpOk X pins H b) (ho:∀ b∈fp,∃ o,s.heap.get? b=some o/\∀ v,o.data≠.cell v):Inv X (pins++Ji fp s.heap) σ H s:=
 I.pins_of fun p hp=>(lK.mp hp).elim (fun z=>I.pin p (kl _ z)) fun z=>by
  obtain ⟨hb,e⟩:=QI z;obtain ⟨f0,f1,f2,_⟩:=hf p.1 hb;obtain ⟨o,e',d⟩:=ho p.1 hb;rw [e] at e';cases e';exact ⟨e,f0,f1,f2,d⟩
theorem Inv.unpinned {pins pl:List (Addr×Obj)} {σ:St} {H:Hp} {s:Shared} (I:Inv X (pins++pl) σ H s):Inv X pins σ H s:=I.pins_of fun p hp=>I.pin p (kl _ (ku _ hp))
theorem Sm {iter:Expr} {body:List Stmt} {wi:TI} {g:TG} {tb:TS} {pos:Pos} (hp:PassesOwn (model X.prog X.w) X.A X.env X.xe) (hc:X.calm=true) (hi:PI X tg iter wi) (hg:PG X tg g) (hb:DJ X body tb)
    (hs:∀ x,foldedSetIterable iter X.env x=pure x:=by intro _;rfl):PS X (.For tg iter body [] pos) (iO wi g tb):=by
  intro pins s σ H D I h;refine wpAny_For (Ah (hi pins s σ H _ I h) fun v s1 h1=>Ah h1 fun itv s2 h2=>?_) hs;obtain ⟨it,fp,tn,J,H2,e,I2,T,st2,f2,W,⟨m0,w0⟩,turn⟩:=h2;subst e
  -- what stays true of the iterator's objects through the loop
  have stat:∀ {H':Hp},(∀ b∈fp,H' b=none)->∀ b∈fp,FpOk X pins H' b:=fun hn b hb=>⟨hn b hb,(f2 b hb).2⟩
  refine codeAny_forLoop_any (fun n s'=>∃ i σ' H',Inv X pins σ' H' s'/\tn i s'.heap/\(∀ b∈fp,H' b=none)/\W i n σ' H') ?_ m0 ⟨0,σ,H2,I2,st2,fun b hb=>(f2 b hb).1,w0⟩;rintro n s3 ⟨i,σ3,H3,I3,st3,fr3,w3⟩;rcases turn i n σ3 H3 w3 with ⟨stop,qn⟩ | ⟨go,N,hN,step⟩
  · refine wpAny_passesOwn hp (Ah (T.done X rfl rfl rfl hc i pins s3 σ3 H3 X.xe I3 (stat fr3) st3 stop) fun r s4 ⟨hr,I4⟩=>?_);subst hr;exact wpAny_execs_nil ⟨σ3,H3,I4,qn⟩
  · refine wpAny_passesOwn hp (Ah (T.item X rfl rfl rfl hc i pins s3 σ3 H3 X.xe I3 (stat fr3) st3 go) fun r s4 ⟨u,hr,h4⟩=>?_);subst hr;refine wpAny_passesOwn hp (Ah h4 fun _ s5 ⟨x,H5,I5,r5,y5,st5,fr5⟩=>?_);have I5':=I5.pinned (stat fr5) (T.obj _ _ st5);refine wpAny_passesOwn hp (Ah (hg _ s5 σ3 H5 x u _ I5' r5 (step x H5 y5)) fun _ s6 ⟨σ6,H6,I6,q6⟩=>?_);refine wpAny_passesOwn hp (Ah (hb _ s6 σ6 H6 _ I6 q6) fun f s7 q7=>?_);have again:∀ {σ7:St} {H7:Hp},Inv X (pins++Ji fp s5.heap) σ7 H7 s7->N σ7 H7->∃ m,m < n/\∃ i σ' H',Inv X pins σ' H' s7/\tn i s7.heap/\(∀ b∈fp,H' b=none)/\W i m σ' H':=fun {σ7 H7} I7 n7=>by
      obtain ⟨m',hm,w7⟩:=hN σ7 H7 n7;refine ⟨m',hm,i+1,σ7,H7,I7.unpinned,T.keep _ _ _ st5 fun b hb o e=>(I7.pin (b,o) (kl _ (kl _ (DA hb e)))).1,fun b hb=>?_,w7⟩;obtain ⟨o,e,d⟩:=T.obj _ _ st5 b hb;exact (I7.pin (b,o) (kl _ (kl _ (DA hb e)))).2.1
    cases f with
    | next=>obtain ⟨σ7,H7,I7,n7⟩:=q7;exact again I7 n7
    | cont=>obtain ⟨σ7,H7,I7,n7⟩:=q7;exact again I7 n7
    | brk=>obtain ⟨σ7,H7,I7,q7⟩:=q7;exact ⟨σ7,H7,I7.unpinned,q7⟩
    | ret v=>obtain ⟨x7,σ7,H7,I7,r7,q7⟩:=q7;exact ⟨x7,σ7,H7,I7.unpinned,r7,q7⟩
end
abbrev R2:=V->V->Hp->VK->Prop
def Br (X:Cx) (f:Value->Value->Sem Value) (r:R2):Prop:=
 ∀ (pins:List (Addr×Obj)) (s:Shared) (σ:St) (H:Hp) (x y:V) (v u:Value) (Q:VK),Inv X pins σ H s->RelV x v->RelV y u->r x y H Q ->
  wpAny (model X.prog X.w) X.A (f v u) (EP X pins σ Q) X.xe s
def jQ (X:Cx) (f:Value->Sem Value) (r:V->Hp->VK->Prop):Prop:=
 ∀ (pins:List (Addr×Obj)) (s:Shared) (σ:St) (H:Hp) (x:V) (v:Value) (Q:VK),Inv X pins σ H s->RelV x v->r x H Q ->
  wpAny (model X.prog X.w) X.A (f v) (EP X pins σ Q) X.xe s
def Aq (X:Cx) (f:Value) (r:List V->Hp->VK->Prop):Prop:=
 ∀ (pins:List (Addr×Obj)) (s:Shared) (σ:St) (H:Hp) (xs:List V) (us:List Value) (Q:VK),Inv X pins σ H s->AD xs us->r xs H Q ->
  wpAny (model X.prog X.w) X.A (call f us) (EP X pins σ Q) X.xe s
def jR (X:Cx) (r:V->Hp->(Bool->Hp->Prop)->Prop):Prop:=
 ∀ (pins:List (Addr×Obj)) (s:Shared) (σ:St) (H:Hp) (x:V) (v:Value) (Q:Bool->Hp->Prop),Inv X pins σ H s->RelV x v->r x H Q ->
  wpAny (model X.prog X.w) X.A (truthy v) (TP X pins σ Q) X.xe s
abbrev hX (r:R2) (ta tb:TE):TE:=fun σ H Q=>ta σ H fun x H1=>tb σ H1 fun y H2=>r x y H2 Q
abbrev kK (r:V->Hp->VK->Prop) (ta:TE):TE:=fun σ H Q=>ta σ H fun x H1=>r x H1 Q
def rI (C:Int->Int->Prop) (g:Int->Int->V):R2:=fun x y H Q=>∃ i j,x=.int i/\y=.int j/\C i j/\Q (g i j) H
def Sk (g:Int->Int->V):R2:=fun x y H Q=>∃ i j,x=.int i/\y=.int j/\Q (g i j) H
def rU (g:Int->V):V->Hp->VK->Prop:=fun x H Q=>∃ i,x=.int i/\Q (g i) H
section
variable {X:Cx} {a b c:Expr} {ta tb tc:TE} {pos:Pos}
theorem cx (ha:PE X a ta) (hb:PE X b tb) {pins:List (Addr×Obj)} {s:Shared} {σ:St} {H:Hp} {R:V->V->Hp->Prop} (I:Inv X pins σ H s)
    (h:ta σ H fun x H1=>tb σ H1 fun y H2=>R x y H2) {Q:Value->Shared->Prop} {f:Value->Value->Sem Value}
    (hf:∀ v u s2 x y H2,Inv X pins σ H2 s2->RelV x v->RelV y u->R x y H2->wpAny (model X.prog X.w) X.A (f v u) Q X.xe s2) :
    wpAny (model X.prog X.w) X.A (eval a X.env) (fun v s₁=>wpAny (model X.prog X.w) X.A (eval b X.env) (fun u s₂=>wpAny (model X.prog X.w) X.A (f v u) Q X.xe s₂) X.xe s₁) X.xe s:=by
  refine Ah (ha pins s σ H _ I h) fun v s1 ⟨x,H1,I1,r1,q1⟩=>?_
  refine Ah (hb pins s1 σ H1 _ I1 q1) fun u s2 ⟨y,H2,I2,r2,q2⟩=>?_
  exact hf v u s2 x y H2 I2 r1 r2 q2
theorem fM {op:Operator} {r:R2} (ho:Br X (binaryOp op) r) (ha:PE X a ta) (hb:PE X b tb):PE X (.BinOp a op b pos) (hX r ta tb):=by
 intro pins s σ H Q I h;exact wpAny_BinOp (cx ha hb I h fun v u s2 x y H2 I2 rx ry q=>ho pins s2 σ H2 x y v u Q I2 rx ry q)
theorem fK {op:UnaryOp} {r:V->Hp->VK->Prop} (ho:jQ X (unaryOp op) r) (ha:PE X a ta):PE X (.UnaryOp op a pos) (kK r ta):=by
 intro pins s σ H Q I h;exact UnaryOp_ (Ah (ha pins s σ H _ I h) fun v s1 ⟨x,H1,I1,r1,q1⟩=>ho pins s1 σ H1 x v Q I1 r1 q1)
theorem hZ {f:Value->Value->Sem Value} {C:Int->Int->Prop} {g:Int->Int->Int}
    (rule:∀ (i j:Int) (t u:Tok) (s:Shared) (Q:Value->Shared->Prop) (E:Value->Shared->Prop),C i j->Q (.int (g i j) s.toks) { s with toks:=s.toks+1 }->wpAny (model X.prog X.w) X.A (f (.int i t) (.int j u)) Q E s) :
    Br X f (rI C fun i j=>.int (g i j)):=by
  intro pins s σ H x y v u Q I rx ry h;obtain ⟨i,j,rfl,rfl,hc,q⟩:=h;obtain ⟨t,rfl⟩:=rx;obtain ⟨t',rfl⟩:=ry;exact rule i j t t' s _ _ hc ⟨.int (g i j),H,I.tok _,⟨_,rfl⟩,q⟩
theorem iW {f:Value->Value->Sem Value} {g:Int->Int->Int}
    (rule:∀ (i j:Int) (t u:Tok) (s:Shared) (Q:Value->Shared->Prop) (E:Value->Shared->Prop),Q (.int (g i j) s.toks) { s with toks:=s.toks+1 }->wpAny (model X.prog X.w) X.A (f (.int i t) (.int j u)) Q E s) :
    Br X f (Sk fun i j=>.int (g i j)):=by
  intro pins s σ H x y v u Q I rx ry h;obtain ⟨i,j,rfl,rfl,q⟩:=h;obtain ⟨t,rfl⟩:=rx;obtain ⟨t',rfl⟩:=ry;exact rule i j t t' s _ _ ⟨.int (g i j),H,I.tok _,⟨_,rfl⟩,q⟩
theorem Wv {f:Value->Value->Sem Value} {g:Int->Int->Bool}
    (rule:∀ (i j:Int) (t u:Tok) (s:Shared) (Q:Value->Shared->Prop) (E:Value->Shared->Prop),Q (.bool (g i j)) s->wpAny (model X.prog X.w) X.A (f (.int i t) (.int j u)) Q E s) :
    Br X f (Sk fun i j=>.bl (g i j)):=by
  intro pins s σ H x y v u Q I rx ry h;obtain ⟨i,j,rfl,rfl,q⟩:=h;obtain ⟨t,rfl⟩:=rx;obtain ⟨t',rfl⟩:=ry;exact rule i j t t' s _ _ ⟨.bl (g i j),H,I,rfl,q⟩
def jX (i j:Int):Prop:=0 < j/\j < 1073741824
def jW (i j:Int):Prop:=0<=j/\j<=1000000/\i.natAbs < 2 ^ 64
def YS (i j:Int):Prop:=(-(2 ^ 64) < i/\i < 2 ^ 64)\/(-(2 ^ 64) < j/\j < 2 ^ 64)
theorem YS.ok {i j:Int} (h:YS i j):IntMulOk i j:=by
 rcases h with ⟨h1,h2⟩ | ⟨h1,h2⟩
 ·exact .of_left (intBits_le_64 h1 h2)
 ·exact .of_right (intBits_le_64 h1 h2)
theorem bG:Br X (binaryOp .Add) (Sk fun i j=>.int (i+j)):=iW fun _ _ _ _ _ _ _ q=>add_int q
theorem ax:Br X (binaryOp .Mult) (rI YS fun i j=>.int (i * j)):=hZ fun _ _ _ _ _ _ _ hc q=>mul_int q hc.ok
theorem Wp:Br X (binaryOp .FloorDiv) (rI jX fun i j=>.int (i / j)):=hZ fun i j _ _ _ _ _ hc q=>by
 have h1:(0:Int) < j:=hc.1;have h2:j < 1073741824:=hc.2;exact floordiv_int (by omega) (by rw [Int.fdiv_eq_ediv_of_nonneg i (by omega)];exact q) (.inl (PyProof.noPylong_small (by omega)))
theorem ay:Br X (binaryOp .Mod) (rI (fun _ j=>0 < j) fun i j=>.int (i % j)):=hZ fun i j _ _ _ _ _ hc q=>by
 have h1:(0:Int) < j:=hc;exact mod_int' (by omega) (by rw [Int.fmod_eq_emod_of_nonneg i (by omega)];exact q)
theorem aw:Br X (binaryOp .Pow) (rI jW fun i j=>.int (i ^ j.toNat)):=hZ fun _ _ _ _ _ _ _ hc q=>pow_int_small hc.1 hc.2.1 hc.2.2 q
theorem kI {f:Value->Sem Value} {g:Int->Int}
    (rule:∀ (i:Int) (t:Tok) (s:Shared) (Q:Value->Shared->Prop) (E:Value->Shared->Prop),Q (.int (g i) s.toks) { s with toks:=s.toks+1 }->wpAny (model X.prog X.w) X.A (f (.int i t)) Q E s) :
    jQ X f (rU fun i=>.int (g i)):=by
  intro pins s σ H x v Q I rx h;obtain ⟨i,rfl,q⟩:=h;obtain ⟨t,rfl⟩:=rx;exact rule i t s _ _ ⟨.int (g i),H,I.tok _,⟨_,rfl⟩,q⟩
theorem Ze:jQ X (unaryOp .USub) (rU fun i=>.int (-i)):=kI fun _ _ _ _ _ q=>neg_int q
end
section
variable {X:Cx} {a b c:Expr} {ta tb tc:TE} {pos:Pos}
theorem Tx {pins:List (Addr×Obj)} {σ:St} {H:Hp} {s:Shared} {Q:VK} {k k':Bool} (I:Inv X pins σ H s) (q:Q (.bl k) H) (e:k=k'):EP X pins σ Q (.bool k') s:=by
 subst e;exact ⟨.bl k,H,I,rfl,q⟩
theorem fS:Br X (compareOp .Lt) (Sk fun i j=>.bl (decide (i < j))):=Wv fun _ _ _ _ _ _ _ q=>lt_int q
theorem fT:Br X (compareOp .LtE) (Sk fun i j=>.bl (decide (i<=j))):=Wv fun _ _ _ _ _ _ _ q=>le_int q
theorem fU:Br X (compareOp .Gt) (Sk fun i j=>.bl (decide (j < i))):=Wv fun _ _ _ _ _ _ _ q=>gt_int q
theorem fV:Br X (compareOp .GtE) (Sk fun i j=>.bl (decide (j<=i))):=Wv fun _ _ _ _ _ _ _ q=>ge_int q
theorem QH:Br X (compareOp .In) (fun x y H Q=>∃ i j,x=.str i/\y=.str j/\Q (.bl (!(Builtin.Str.occurrences j i 0 j.length 1).isEmpty)) H):=by
 intro pins s σ H x y v u Q I rx ry h;obtain ⟨i,j,rfl,rfl,q⟩:=h;obtain ⟨t,rfl⟩:=rx;obtain ⟨t',rfl⟩:=ry;exact in_str (Tx I q rfl)
theorem bC:Br X (compareOp .Is) (fun x y H Q=>y=.non/\Q (.bl (decide (x=.non))) H):=by
 intro pins s σ H x y v u Q I rx ry h;obtain ⟨rfl,q⟩:=h;cases ry;refine is_none_gen (Tx I q ?_);cases x<;>first
  | (cases rx;rfl)
  | (obtain ⟨t,rfl⟩:=rx;rfl)
theorem Br.or {f:Value->Value->Sem Value} {r r':R2} (h:Br X f r) (h':Br X f r'):Br X f (fun x y H Q=>r x y H Q\/r' x y H Q):=by
 intro pins s σ H x y v u Q I rx ry q;rcases q with q | q
 ·exact h pins s σ H x y v u Q I rx ry q
 ·exact h' pins s σ H x y v u Q I rx ry q
theorem Wl {op:CmpOp} {r:R2} (ho:Br X (compareOp op) r) (ha:PE X a ta) (hb:PE X b tb) (hm:behindInMarks op b=false):PE X (.Compare a [op] [b] pos) (hX r ta tb):=by
 intro pins s σ H Q I h;exact wpAny_Compare1 (cx ha hb I h fun v u s2 x y H2 I2 rx ry q=>ho pins s2 σ H2 x y v u Q I2 rx ry q) hm
abbrev YX (t:TE):TT:=fun σ H Q=>t σ H fun x H'=>∃ k,x=.bl k/\Q k H'
theorem WO {op:CmpOp} {r:R2} (ho:Br X (compareOp op) r) (ha:PE X a ta) (hb:PE X b tb) (hm:behindInMarks op b=false):PT X (.Compare a [op] [b] pos) (YX (hX r ta tb)):=by
 intro pins s σ H Q I h;refine wpAny_isTrue_Compare1 (Ah (ha pins s σ H _ I h) fun v s1 ⟨x,H1,I1,r1,q1⟩=>Ah (hb pins s1 σ H1 _ I1 q1) fun u s2 ⟨y,H2,I2,r2,q2⟩ =>
  Ah (ho pins s2 σ H2 x y v u _ I2 r1 r2 q2) fun c s3 ⟨z,H3,I3,r3,k,e,q3⟩=>?_) hm
 subst e;cases r3;exact wpAny_truthy_bool ⟨H3,I3,q3⟩
abbrev JW (r r':R2) (ta tb tc:TE):TE:=fun σ H Q=>ta σ H fun x H1=>tb σ H1 fun y H2=>r x y H2 fun z H3=>∃ k,z=.bl k /\
 (if k=true then tc σ H3 fun w' H4=>r' y w' H4 Q else Q (.bl false) H3)
theorem LC {op op':CmpOp} {r r':R2} (ho:Br X (compareOp op) r) (ho':Br X (compareOp op') r') (ha:PE X a ta) (hb:PE X b tb) (hc:PE X c tc)
    (hm:lastMarks [op,op'] [b,c]=false:=by with_unfolding_all rfl):PE X (.Compare a [op,op'] [b,c] pos) (JW r r' ta tb tc):=by
  intro pins s σ H Q I h;refine Compare_chain (Ah (ha pins s σ H _ I h) fun v s1 ⟨x,H1,I1,r1,q1⟩=>chain_link (Ah (hb pins s1 σ H1 _ I1 q1) fun u s2 ⟨y,H2,I2,r2,q2⟩ =>
    Ah (ho pins s2 σ H2 x y v u _ I2 r1 r2 q2) fun d s3 ⟨z,H3,I3,r3,k,e,q3⟩=>?_)) hm
  subst e;cases r3;refine wpAny_truthy_bool ?_;cases k with
  | false=>exact ite_ff ⟨.bl false,H3,I3,rfl,q3⟩
  | true=>exact ite_tt (chain_last (Ah (hc pins s3 σ H3 _ I3 q3) fun w' s4 ⟨z',H4,I4,r4,q4⟩=>ho' pins s4 σ H4 y z' u w' Q I4 r2 r4 q4))
theorem Kr {op op':CmpOp} {r r':R2} (ho:Br X (compareOp op) r) (ho':Br X (compareOp op') r') (ha:PE X a ta) (hb:PE X b tb) (hc:PE X c tc)
    (hm:lastMarks [op,op'] [b,c]=false:=by with_unfolding_all rfl):PT X (.Compare a [op,op'] [b,c] pos) (YX (JW r r' ta tb tc)):=by
  intro pins s σ H Q I h;refine isTrue_chain (Ah (ha pins s σ H _ I h) fun v s1 ⟨x,H1,I1,r1,q1⟩=>test_link (Ah (hb pins s1 σ H1 _ I1 q1) fun u s2 ⟨y,H2,I2,r2,q2⟩ =>
    Ah (ho pins s2 σ H2 x y v u _ I2 r1 r2 q2) fun d s3 ⟨z,H3,I3,r3,k,e,q3⟩=>?_)) hm
  subst e;cases r3;refine wpAny_truthy_bool ?_;cases k with
  | false =>
    obtain ⟨k',e',q'⟩:=q3;cases e';exact ite_ff ⟨H3,I3,q'⟩
  | true =>
    refine ite_tt (test_last (Ah (hc pins s3 σ H3 _ I3 q3) fun w' s4 ⟨z',H4,I4,r4,q4⟩=>Ah (ho' pins s4 σ H4 y z' u w' _ I4 r2 r4 q4) fun d' s5 ⟨z2,H5,I5,r5,k2,e2,q5⟩=>?_));subst e2;cases r5;exact wpAny_truthy_bool ⟨H5,I5,q5⟩
def Vd (K:W.Frag) (x:V) (H:Hp) (k:Bool):Prop:=
 match x with
 | .non=>k=false
 | .bl b=>k=b
 | .int i=>k=(i != 0)
 | .str y=>y.length<=sizeLine/\k=((y.length:Int) != 0)
 | .byt y=>y.size<=sizeLine/\k=((y.size:Int) != 0)
 | .ref p=>(∃ xs,CZ K H p xs/\k=!xs.isEmpty)\/(∃ xs,DG K H p xs/\k=!xs.isEmpty)\/∃ kvs,H p=some (.dK kvs)/\k=!kvs.isEmpty
 | _=>False
theorem NG {κ:Type} {kvs:List (κ×V)} {vs:List (κ×Value)} (r:KV kvs vs):(!vs.isEmpty)=!kvs.isEmpty:=by
 cases r<;>rfl
theorem HM {xs:List V} {its:List Value} (r:AD xs its):(!its.toArray.isEmpty)=!xs.isEmpty:=by
 cases r<;>simp
theorem FV:(sizeLine:Nat) < 2 ^ 63:=by rw [sizeLine_eq];decide
theorem Zh:jR X (fun x H Q=>∃ k,Vd X.K x H k/\Q k H):=by
 intro pins s σ H x v Q I rx h;obtain ⟨k,e,q⟩:=h;have hl:=FV;have hs:sizeLine=16777216:=sizeLine_eq;cases x with
 | non =>
  cases rx;have e':k=false:=e;subst e';exact truthy_none ⟨H,I,q⟩
 | bl b =>
  cases rx;have e':k=b:=e;subst e';exact wpAny_truthy_bool ⟨H,I,q⟩
 | int i =>
  obtain ⟨t,rfl⟩:=rx;have e':k=(i != 0):=e;subst e';exact PySem.P.truthy_int ⟨H,I,q⟩
 | str y =>
  obtain ⟨t,rfl⟩:=rx;obtain ⟨hy,e'⟩:y.length<=sizeLine/\k=((y.length:Int) != 0):=e;subst e';exact PySem.P.truthy_str (by omega) ⟨H,I.tok _,q⟩
 | byt y =>
  obtain ⟨t,rfl⟩:=rx;obtain ⟨hy,e'⟩:y.size<=sizeLine/\k=((y.size:Int) != 0):=e;subst e';exact W.truthy_bytes (by omega) ⟨H,I.tok _,q⟩
 | ref p =>
  cases rx;have e':(∃ xs,CZ X.K H p xs/\k=!xs.isEmpty)\/(∃ xs,DG X.K H p xs/\k=!xs.isEmpty)\/∃ kvs,H p=some (.dK kvs)/\k=!kvs.isEmpty:=e;rcases e' with ⟨xs,hx,e'⟩ | ⟨xs,hx,e'⟩ | ⟨kvs,hx,e'⟩
  ·subst e';obtain ⟨its,r,pl,hz⟩:=I.list hx;have hlen:=r.length;exact wpAny_truthy_list pl.isList (by simp only [kc];omega) ⟨H,I.tok _,by rw [HM r];exact q⟩
  ·subst e';obtain ⟨its,r,pl,hz⟩:=I.tuple hx;have hlen:=r.length;exact truthy_tuple pl (by simp only [kc];omega) ⟨H,I.tok _,by rw [HM r];exact q⟩
  ·subst e';obtain ⟨hz,hS,vs,r,m⟩:kvs.length<=sizeLine/\(p == sysModules)=false/\∃ vs,KV kvs vs/\s.heap.DictOf (Ay X.prog X.w) p vs:=I.hok p _ hx;have hlen:kvs.length=vs.length:=Paired.length r;exact wpAny_truthy_dict hS m (by omega) ⟨H,I.tok _,by rw [NG r];exact q⟩
 | _=>exact (show False from e).elim
theorem Sl (ha:PE X a ta) (he:∀ whole,isTrue a X.env whole=(do let v <- whole;standAt a.pos;holding [v] (truthy v))) :
    PT X a (fun σ H Q=>ta σ H fun x H'=>∃ k,Vd X.K x H' k/\Q k H'):=by
  intro pins s σ H Q I h;exact isTrue_plain (Ah (ha pins s σ H _ I h) fun v s1 ⟨x,H1,I1,r1,q1⟩=>Zh pins s1 σ H1 x v Q I1 r1 q1) (he _)
theorem Mq:Br X (binaryOp .Add) (fun x y H Q=>∃ i j,x=.str i/\y=.str j/\i.length+j.length<=sizeLine/\Q (.str (i++j)) H):=by
 intro pins s σ H x y v u Q I rx ry h;obtain ⟨i,j,rfl,rfl,hz,q⟩:=h;obtain ⟨t,rfl⟩:=rx;obtain ⟨t',rfl⟩:=ry;exact add_str (fun t' tk=>⟨.str (i++j),H,I.tok _,⟨_,rfl⟩,q⟩) hz
theorem vals1 {x:V} {us:List Value} (r:AD [x] us):∃ u,us=[u]/\RelV x u:=by
 cases r with
 | cons r1 r2=>cases r2;exact ⟨_,rfl,r1⟩
theorem YT {x y:V} {us:List Value} (r:AD [x,y] us):∃ u w',us=[u,w']/\RelV x u/\RelV y w':=by
 cases r with
 | cons r1 r2 =>
  cases r2 with
  | cons r3 r4=>cases r4;exact ⟨_,_,rfl,r1,r3⟩
theorem Qw (hc:X.calm=true):Aq X (.builtin "max") (fun xs H Q=>∃ i j,xs=[.int i,.int j]/\Q (.int (if j > i then j else i)) H):=by
 intro pins s σ H xs us Q I r h;obtain ⟨i,j,rfl,q⟩:=h;obtain ⟨u,w',rfl,⟨t,rfl⟩,⟨t',rfl⟩⟩:=YT r;refine max_two_ints (I.ok.hd hc) fun h' tk k=>⟨_,H,I.kept k,?_,q⟩
 by_cases hj:j > i
 ·rw [if_pos hj,if_pos hj];exact ⟨_,rfl⟩
 ·rw [if_neg hj,if_neg hj];exact ⟨_,rfl⟩
theorem Qu (hc:X.calm=true):Aq X (.builtin "min") (fun xs H Q=>∃ i j,xs=[.int i,.int j]/\Q (.int (if j < i then j else i)) H):=by
 intro pins s σ H xs us Q I r h;obtain ⟨i,j,rfl,q⟩:=h;obtain ⟨u,w',rfl,⟨t,rfl⟩,⟨t',rfl⟩⟩:=YT r;refine min_two_ints (I.ok.hd hc) fun h' tk k=>⟨_,H,I.kept k,?_,q⟩
 by_cases hj:j < i
 ·rw [if_pos hj,if_pos hj];exact ⟨_,rfl⟩
 ·rw [if_neg hj,if_neg hj];exact ⟨_,rfl⟩
theorem RE:Aq X (.type "int") (fun xs H Q=>(∃ i,xs=[.int i]/\Q (.int i) H)\/∃ k,xs=[.bl k]/\Q (.int (if k then 1 else 0)) H):=by
 intro pins s σ H xs us Q I r h;rcases h with ⟨i,rfl,q⟩ | ⟨k,rfl,q⟩
 ·obtain ⟨u,rfl,t,rfl⟩:=vals1 r;exact call_int_int ⟨.int i,H,I,⟨_,rfl⟩,q⟩
 ·obtain ⟨u,rfl,r1⟩:=vals1 r;cases r1;exact call_int_bool ⟨.int (if k then 1 else 0),H,I.tok _,⟨_,rfl⟩,q⟩
theorem KC:Aq X (.type "str") (fun xs H Q=>∃ i,xs=[.int i]/\i.natAbs.log2 < 1920/\Q (.str (toString i)) H):=by
 intro pins s σ H xs us Q I r h;obtain ⟨i,rfl,hz,q⟩:=h;obtain ⟨u,rfl,t,rfl⟩:=vals1 r;exact PySem.P.str_of_int hz ⟨.str _,H,I.tok _,⟨_,rfl⟩,q⟩
def gw (K:W.Frag) (x:V) (H:Hp) (n:Nat):Prop:=
 match x with
 | .str y=>y.length<=sizeLine/\n=y.length
 | .byt y=>y.size<=sizeLine/\n=y.size
 | .ref p=>(∃ xs,CZ K H p xs/\n=xs.length)\/∃ xs,DG K H p xs/\n=xs.length
 | _=>False
theorem Uo:Aq X (.builtin "len") (fun xs H Q=>∃ x n,xs=[x]/\gw X.K x H n/\Q (.int n) H):=by
 intro pins s σ H xs us Q I r h;obtain ⟨x,n,rfl,e,q⟩:=h;obtain ⟨u,rfl,rx⟩:=vals1 r;have hl:=FV;have hs:sizeLine=16777216:=sizeLine_eq;cases x with
 | str y =>
  obtain ⟨t,rfl⟩:=rx;obtain ⟨hy,e'⟩:y.length<=sizeLine/\n=y.length:=e;subst e';exact len_str (by omega) ⟨.int _,H,I.tok _,⟨_,rfl⟩,q⟩
 | byt y =>
  obtain ⟨t,rfl⟩:=rx;obtain ⟨hy,e'⟩:y.size<=sizeLine/\n=y.size:=e;subst e';exact W.len_bytes (by omega) ⟨.int _,H,I.tok _,⟨_,rfl⟩,q⟩
 | ref p =>
  cases rx;have e':(∃ xs,CZ X.K H p xs/\n=xs.length)\/∃ xs,DG X.K H p xs/\n=xs.length:=e;rcases e' with ⟨xs,hx,e'⟩ | ⟨xs,hx,e'⟩
  ·subst e';obtain ⟨its,r',pl,hz⟩:=I.list hx;have hlen:=r'.length;exact Calls.call_len_list pl.isList (by simp only [kc];omega) ⟨.int xs.length,H,I.tok _,⟨_,by simp only [kc];rw [hlen]⟩,q⟩
  ·subst e';obtain ⟨its,r',pl,hz⟩:=I.tuple hx;have hlen:=r'.length;exact len_tuple pl (by simp only [kc];omega) ⟨.int xs.length,H,I.tok _,⟨_,by simp only [kc];rw [hlen]⟩,q⟩
 | _=>exact (show False from e).elim
end
structure ObjM (h:Heap) (x dx C:Addr) (mA:Str->Option Value):Prop where
 obj:h.get? x=some (W.instObj C dx)
 ns:h.Ns1 dx mA
 ne:dx≠x
theorem QV {h:Heap} {dx:Addr} {mA:Str->Option Value} (n:h.Ns1 dx mA):∃ od,h.get? dx=some od/\∀ name,W.lookIn name od=some (mA name):=by
  obtain ⟨o,es,ep,ho,hd,hk,_,hm⟩:=n;refine ⟨o,ho,fun name=>?_⟩;have e:=hm name;unfold nsFind findBy at e;rw [<- Array.find?_toList] at e;unfold W.lookIn;rw [hd];dsimp only;split
  · rename_i y q;rw [q] at e;exact congrArg some e
  · rename_i q;rw [q] at e;have a:es.toList.any (·.refKey)=false:=by
      rw [List.any_eq_false];intro y hy;obtain ⟨z,t,hkey⟩:=hk y (Array.mem_toList_iff.mp hy);simp [DictEntry.refKey,hkey]
    have a':¬ es.toList.any (·.refKey)=true:=by rw [a];exact kr
    rw [if_neg a'];exact congrArg some e
theorem ObjM.look {h:Heap} {x dx C:Addr} {mA:Str->Option Value} (I:ObjM h x dx C mA):∃ od,W.InstAt h x (W.instObj C dx) C (some od)/\∀ name,W.lookIn name od=some (mA name):=
 let ⟨od,ho,hl⟩:=QV I.ns
 ⟨od,⟨I.obj,rfl,rfl,ho⟩,hl⟩
section
end
theorem Hl.some_of {v:V} {o:Option Value} (r:Hl (some v) o):∃ u,o=some u/\RelV v u:=by
 cases o with
 | none=>exact (show False from r).elim
 | some u=>exact ⟨u,rfl,r⟩
section
variable {P:Program} {w:World} {H H':Hp} {h h':Heap} {a C dx:Addr} {fs fs':List (Str×V)}
theorem XG (hok:EO P w H h) (e:H a=some (.ins C dx fs)):∃ mA,ObjM h a dx C mA/\(∀ f,Hl (fs.lookup f) (mA f))/\PySem.Within mA (fs.map (·.1))/\fs.length<=1000/\H dx=some (.own a):=by
 obtain ⟨d,z,ne,ob,mA,n,r,q⟩:=(show AQ P w H h a (.ins C dx fs) from hok a _ e);exact ⟨mA,⟨ob,n,ne⟩,r,q,z,d⟩
end
structure Cls (K:W.Frag) (C:Addr):Prop where
 pg:W.plainGet K C Str.empty=true
 hd:W.hasDictIn K C=true
 po:W.plainOver K C=true
 sa:W.findIn K (.ref C) "__setattr__" = some (some (.builtin "object.__setattr__"))
theorem Cls.get {K:W.Frag} {C:Addr} (c:Cls K C) (f:Str):W.plainGet K C f=true:=c.pg
section
end
section
end
section
variable {X:Cx} {pins:List (Addr×Obj)} {σ:St} {H:Hp} {s:Shared} {A:Around} {E:Value->Shared->Prop} {Q:Value->Shared->Prop} {c:Value} {b:Bool}
inductive TyOf (K:W.Frag) (H:Hp):V->Value->Prop where
  | non:TyOf K H .non (.type "NoneType")
  | bl (x:Bool):TyOf K H (.bl x) (.type "bool")
  | int (i:Int):TyOf K H (.int i) (.type "int")
  | str (x:Str):TyOf K H (.str x) (.type "str")
  | flt (x:UInt64):TyOf K H (.flt x) (.type "float")
  | lst {a:Addr} {xs:List V} (e:H a=some (.lst xs)):TyOf K H (.ref a) (.type "list")
  | frz {a:Addr} {o:Obj} {xs:List V} (e:H a=some (.frz o (.lst xs))):TyOf K H (.ref a) (.type "list")
  | tup {a:Addr} {xs:List V} (e:H a=some (.tup xs)):TyOf K H (.ref a) (.type "tuple")
  | dK {a:Addr} {kvs:List (BB×V)} (e:H a=some (.dK kvs)):TyOf K H (.ref a) (.type "dict")
  | dT {a:Addr} {kvs:List (List BB×V)} (e:H a=some (.dT kvs)):TyOf K H (.ref a) (.type "dict")
  | ins {a C dx:Addr} {fs:List (Str×V)} (e:H a=some (.ins C dx fs)) (cl:Cls K C) (ha:W.findIn K (.ref C) "__class__" = some (some (.builtin "object.__class__")))
      (hn:W.specialIn K (.builtin "object.__class__") "__get__" = some (some (.builtin "getset_descriptor.__get__"))) (htk:W.takesIn K (.builtin "object.__class__")=some true)
      (hm:W.mroIn K C (.type "object")=some true):TyOf K H (.ref a) (.ref C)
theorem QZ {x:V} {u t:Value} (I:Inv X pins σ H s) (rx:RelV x u) (ty:TyOf X.K H x t) (e:W.kitOne X.K t c=some b) (h:∀ tk,Q (.bool b) { s with toks:=tk }) :
    wpAny (model X.prog X.w) A (call (.builtin "isinstance") [u,c]) Q E s:=by
  cases ty with
  | non=>cases (show u=Value.none from rx);exact W.kia_one W.kitx_none I.kIn True.intro e (fun z=>nomatch z) h
  | bl y=>cases (show u=Value.bool y from rx);exact W.kia_one W.kitx_bool I.kIn True.intro e (fun z=>nomatch z) h
  | int i=>obtain ⟨t,q⟩:=(show ∃ t,u=Value.int i t from rx);cases q;exact W.kia_one W.kitx_int I.kIn True.intro e (fun z=>nomatch z) h
  | str y=>obtain ⟨t,q⟩:=(show ∃ t,u=Value.str y t from rx);cases q;exact W.kia_one W.kitx_str I.kIn True.intro e (fun z=>nomatch z) h
  | flt y=>obtain ⟨t,q⟩:=(show ∃ t,u=Value.float y t from rx);cases q;exact W.kia_one W.kitx_float I.kIn True.intro e (fun z=>nomatch z) h
  | @lst a xs ea =>
    cases (show u=Value.ref a from rx);obtain ⟨_,_,n,_,h1⟩:=(show AQ X.prog X.w H s.heap a (.lst xs) from I.hok a _ ea);exact W.kia_one W.kitx_list I.kIn ⟨_,h1,rfl⟩ e (fun z=>nomatch z) h
  | @frz a ob xs ea =>
    cases (show u=Value.ref a from rx);obtain ⟨_,_,_,n,_,h1⟩:=(show AQ X.prog X.w H s.heap a (.frz ob (.lst xs)) from I.hok a _ ea);exact W.kia_one W.kitx_list I.kIn ⟨_,h1,rfl⟩ e (fun z=>nomatch z) h
  | @tup a xs ea =>
    cases (show u=Value.ref a from rx);obtain ⟨_,_,_,p⟩:=(show AQ X.prog X.w H s.heap a (.tup xs) from I.hok a _ ea);obtain ⟨o,h1,h2,_⟩:=p;exact W.kia_one W.kitx_tuple I.kIn ⟨o,h1,h2⟩ e (fun z=>nomatch z) h
  | @dK a kvs ea =>
    cases (show u=Value.ref a from rx);obtain ⟨_,_,vs,_,p⟩:=(show AQ X.prog X.w H s.heap a (.dK kvs) from I.hok a _ ea);obtain ⟨o,es,ep,h1,h2,_⟩:=p;exact W.kia_one W.kitx_dict I.kIn ⟨o,h1,h2.1⟩ e (fun z=>nomatch z) h
  | @dT a kvs ea =>
    cases (show u=Value.ref a from rx);obtain ⟨_,_,xs,_,o,es,ep,h1,h2,_⟩:=(show AQ X.prog X.w H s.heap a (.dT kvs) from I.hok a _ ea);exact W.kia_one W.kitx_dict I.kIn ⟨o,h1,h2.1⟩ e (fun z=>nomatch z) h
  | @ins a C dx fs ea cl ha hn htk hm =>
    cases (show u=Value.ref a from rx);obtain ⟨mA,O,_⟩:=XG I.hok ea;obtain ⟨od,J,_⟩:=O.look;exact W.kia_one (W.kitx_own (cl.get _) cl.hd ha hn htk hm) I.kIn J e (fun z=>nomatch z) h
end
structure Room (k:Nat) (A:Around):Prop where
 hd:A.handled=none
 dp:A.depth+3 * k+5 < recursionLimit
 un:A.units+16 * k+200 < cLine
 gd:A.guards=some []
theorem Room.mono {j k:Nat} {A:Around} (r:Room k A) (h:j<=k):Room j A:=⟨r.hd,by have:=r.dp;omega,by have:=r.un;omega,r.gd⟩
theorem Room.deeper {k:Nat} {A:Around} (r:Room (k+1) A) (env:Env):Room k (A.deeper env):=
 ⟨r.hd,by have:=r.dp;show A.depth+1+3 * k+5 < _;omega,by have:=r.un;show A.units+3+16 * k+200 < _;omega,r.gd⟩
theorem Room.depth {k:Nat} {A:Around} (r:Room k A):A.depth < recursionLimit:=by have:=r.dp;omega
abbrev Vu:TA:=fun _ H Q=>Q [] H
abbrev Ya (ta:TE) (tr:TA):TA:=fun σ H Q=>ta σ H fun x H1=>tr σ H1 fun xs H2=>Q (x::xs) H2
section
variable {X:Cx} {e:Expr} {es:List Expr} {te:TE} {t:TA} {pos:Pos}
theorem Mo:PA X [] Vu:=fun _ _ _ _ H Q I h=>Calls.spliced_nil ⟨[],H,I,.nil,h⟩
theorem Cz (ha:PE X e te) (hr:PA X es t) (hs:starEach (e::es) X.env=(false,eval e X.env)::starEach es X.env:=by rfl):PA X (e::es) (Ya te t):=by
 intro pos pins s σ H Q I h;rw [hs];show wpAny _ _ (spliced ((false,eval e X.env)::backTo pos (starEach es X.env))) _ _ s;refine Calls.spliced_cons (Ah (ha pins s σ H _ I h) fun u s1 ⟨x,H1,I1,r1,q1⟩=>?_);exact Ah (hr pos pins s1 σ H1 _ I1 q1) fun us s2 ⟨xs,H2,I2,r2,q2⟩=>⟨x::xs,H2,I2,.cons r1 r2,q2⟩
abbrev iI (t:TA):TE:=fun σ H Q=>t σ H fun xs H1=>xs.length<=sizeLine/\∀ p,H1 p=none->Q (.ref p) (upd H1 p (.tup xs))
abbrev iM (t:TA):TE:=fun σ H Q=>t σ H fun xs H1=>xs.length<=sizeLine/\∀ p,H1 p=none->Q (.ref p) (upd H1 p (.lst xs))
theorem aa {x1} (h:PA X es t):PE X (.Tuple es x1 pos) (iI t):=by
 intro pins s σ H Q I hq;refine wpAny_Tuple_spliced (Ah (h pos pins s σ H _ I hq) fun us s1 ⟨xs,H1,I1,r,z,q⟩=>⟨by rw [<- r.length];exact z,?_⟩);have hf:H1 s1.heap.objs.size=none:=I1.hok.fresh (kj _);refine ⟨.ref s1.heap.objs.size,upd H1 s1.heap.objs.size (.tup xs),I1.laid (t':=s1.toks) (fun b u e=>kY _ e) (kj _) ?_,rfl,q _ hf⟩;exact ⟨z,us,r,⟨_,kz _ rfl,rfl,rfl,_,rfl⟩⟩
theorem aj (h:PA X es t):PE X (.List es pos) (iM t):=by
 intro pins s σ H Q I hq;refine wpAny_List_spliced (Ah (h pos pins s σ H _ I hq) fun us s1 ⟨xs,H1,I1,r,z,q⟩=>⟨by rw [<- r.length];exact z,?_⟩);have hf:H1 s1.heap.objs.size=none:=I1.hok.fresh (kj _);refine ⟨.ref s1.heap.objs.size,upd H1 s1.heap.objs.size (.lst xs),I1.laid (t':=s1.toks) (fun b u e=>kY _ e) (kj _) ?_,rfl,q _ hf⟩;exact ⟨z,us,0,r,kz _ rfl⟩
end
abbrev Sp:=List V->Hp->VK->XK->Prop
abbrev Vi:=List Env->Hp->Shared->XK->Value->Shared->Prop
structure Env0 (P:Program) (w:World) (K:W.Frag) (mg:Str->Option Value) (base:Heap) (A:Around) (outer:List Env) (s:Shared) (H:Hp):Prop where
 frames:A.frames=some outer
 mod:Mod K mg base
 bs:∀ b o,base.get? b=some o->s.heap.get? b=some o/\H b=none
 bsz:base.objs.size<=s.heap.objs.size
 funs:s.heap.FunFrames base outer
 frf:∀ b∈Oj outer,H b=none
 hok:EO P w H s.heap
 bare:AllBare s.gens
def CE (outer:List Env) (P:Program) (w:World) (H:Hp) (s:Shared) (Q:VK) (u:Value) (s':Shared):Prop:=
 ∃ v H',s'.os=s.os/\AllBare s'.gens/\Un (Oj outer) [] H H' s.heap s'.heap/\EO P w H' s'.heap/\RelV v u/\Q v H'
def CR (CX:Vi) (outer:List Env) (P:Program) (w:World) (H:Hp) (s:Shared) (Q:VK) (E:XK) (r:Result) (s':Shared):Prop:=
 match r with
 | .ok (.ret u)=>CE outer P w H s Q u s'
 | .ok _=>False
 | .error e=>CX outer H s E e s'
structure FnOk (P:Program) (w:World) (K:W.Frag) (mg:Str->Option Value) (base:Heap) (CX:Vi) (k:Nat) (f:Addr) (fd:FuncData) (ps:List Str) (sp:Sp):Prop where
 len:∀ vs H Q E,sp vs H Q E->vs.length=ps.length
 run:∀ (A:Around) (outer:List Env) (s:Shared) (H:Hp) (args:Args) (us:List Value) (vs:List V) (Q:VK) (E:XK),Room k A->Env0 P w K mg base A outer s H->BindsTo s fd args (ps.zip us)->AD vs us->sp vs H Q E ->
  codeAny (model P w) A (.call (.ref f) args) (CR CX outer P w H s Q E) s
theorem FnOk.imp {P:Program} {w:World} {K:W.Frag} {mg:Str->Option Value} {base:Heap} {CX:Vi} {k:Nat} {f:Addr} {fd:FuncData} {ps:List Str} {sp sp':Sp} (F:FnOk P w K mg base CX k f fd ps sp)
    (h:∀ vs H Q E,sp' vs H Q E->sp vs H Q E):FnOk P w K mg base CX k f fd ps sp':=
  ⟨fun vs H Q E q=>F.len vs H Q E (h _ _ _ _ q),fun A outer s H args us vs Q E hr he hb hv hs=>F.run A outer s H args us vs Q E hr he hb hv (h _ _ _ _ hs)⟩
section
variable {X:Cx} {pins:List (Addr×Obj)} {σ:St} {H:Hp} {s s':Shared}
theorem Inv.env0 (I:Inv X pins σ H s):Env0 X.prog X.w X.K X.mg X.base X.A X.stack s H:=
 ⟨I.ok.frames,I.ok.mod,I.bs,lI I.ok.bsz I.sz,I.stack,I.stkFree,I.hok,I.bare⟩
theorem Inv.after {Q:VK} {u:Value} (I:Inv X pins σ H s) (h:CE X.stack X.prog X.w H s Q u s'):EP X pins σ Q u s':=by
 obtain ⟨v,H',os,bare,un,hok,r,q⟩:=h;obtain ⟨hh,g,d,t,os'⟩:=s';obtain rfl:os'=s.os:=os;exact ⟨v,H',I.call (h':=hh) (g':=g) (d':=d) (t':=t) (ch:=[]) un hok bare (fun b z=>absurd z (by simp)),r,q⟩
end
abbrev Yb (sp:Sp) (dvs:List V) (E:XK) (t:TA):TE:=fun σ H Q=>t σ H fun vs H1=>sp (vs++dvs) H1 Q E
def Binds (K:W.Frag) (fd:FuncData) (ps:List Str) (ds:List Value):Prop:=
 ∀ (s:Shared) (us:List Value),K.In s.heap->(us++ds).length=ps.length->BindsTo s fd ⟨us,[]⟩ (ps.zip (us++ds))
theorem Binds.all {K:W.Frag} {fd:FuncData} {ps:List Str} (h:∀ us:List Value,us.length=ps.length->bindArgs fd ⟨us,[]⟩=pure (ps.zip us)):Binds K fd ps []:=fun s us _ hl=>by
 rw [mC] at hl ⊢;exact .of_eq (h us hl)
def KM (CX:Vi) (X:Cx) (E:XK):Prop:=∀ (pins:List (Addr×Obj)) (σ:St) (H:Hp) (s:Shared) (e:Value) (s':Shared),Inv X pins σ H s->CX X.stack H s E e s'->X.xe e s'
section
variable {X:Cx} {CX:Vi} {k:Nat} {f C:Addr} {fd:FuncData} {ps:List Str} {sp:Sp} {dvs:List V} {ds:List Value} {E:XK} {x m:Str} {p pos apos:Pos} {e o:Expr} {es:List Expr} {ta:TE} {t:TA}
theorem SX {pins:List (Addr×Obj)} {σ:St} {H:Hp} {s:Shared} {Q:VK} {us:List Value} {vs:List V} (F:FnOk X.prog X.w X.K X.mg X.base CX k f fd ps sp) (hr:Room k X.A) (hb:Binds X.K fd ps ds) (hd:AD dvs ds) (hx:KM CX X E)
    (I:Inv X pins σ H s) (r:AD vs us) (h:sp (vs++dvs) H Q E):wpAny (model X.prog X.w) X.A (call (.ref f) us) (EP X pins σ Q) X.xe s:=by
  have r2:AD (vs++dvs) (us++ds):=r.append hd;have hl:(us++ds).length=ps.length:=by rw [<- r2.length];exact F.len _ _ _ _ h
  refine wpAny_call (codeAny_mono (F.run X.A X.stack s H ⟨us,[]⟩ (us++ds) (vs++dvs) Q E hr I.env0 (hb s us I.kIn hl) r2 h) fun r s' hq=>?_);cases r with
  | error e=>exact hx pins σ H s e s' I hq
  | ok fl =>
    cases fl with
    | ret u=>exact I.after hq
    | next=>exact False.elim hq
    | brk=>exact False.elim hq
    | cont=>exact False.elim hq
theorem Wm (F:FnOk X.prog X.w X.K X.mg X.base CX k f fd ps sp) (hr:Room k X.A) (hg:Gl X x) (hm:X.mg x=some (.ref f)) (hk:W.keepIn X.K (.ref f)=true) (hb:Binds X.K fd ps ds) (hd:AD dvs ds) (hx:KM CX X E)
    (ha:PA X (e::es) t) (hdb:(x == ("__debug__" : Str))=false:=by decide) (he:starEach (e::es) X.env=(false,eval e X.env)::starEach es X.env:=by rfl) (hpl:(backTo pos (starEach es X.env)).any (·.1)=false:=by rfl) :
    PE X (.Call (.Name x p) (e::es) [] pos) (Yb sp dvs E t):=by
  intro pins s σ H Q I h;refine wpAny_Call_Name_kw (Jo I hg hm ?_ hdb);refine W.callWith_K (h₀:=X.base) I.ok.mod.kin hk (Ah (ha pos pins s σ H _ I h) fun us s1 ⟨vs,H1,I1,r,q⟩=>⟨I1.kIn,?_⟩) he hpl;exact SX F hr hb hd hx I1 r q
theorem TL (F:FnOk X.prog X.w X.K X.mg X.base CX k f fd ps sp) (hr:Room k X.A) (hg:Gl X x) (hm:X.mg x=some (.ref f)) (hk:W.keepIn X.K (.ref f)=true) (hb:Binds X.K fd ps ds) (hd:AD dvs ds) (hx:KM CX X E)
    (hdb:(x == ("__debug__" : Str))=false:=by decide):PE X (.Call (.Name x p) [] [] pos) (Yb sp dvs E Vu):=by
  intro pins s σ H Q I h;refine wpAny_Call_Name_kw (Jo I hg hm ?_ hdb);exact W.callWith_K0 I.kIn hk (SX (us:=[]) F hr hb hd hx I .nil h)
end
section
end
structure FnScope (N P:List Str) (sc:Scope):Prop where
 kind:sc.kind=.function
 co:sc.isCoroutine=false
 gen:sc.isGenerator=false
 nd:N.Nodup
 pre:N.take P.length=P
 par:∀ x∈P,sc.names.lookup x=some .local\/sc.names.lookup x=some .cell
 nofree:∀ y∈sc.names,y.2≠.free
theorem JM {kindOf:Str->Option NameKind} {x:Str}:∀ {binds:List (Str×Value)} {m:Str->Option Value},(∀ v,(x,v)∉binds)->bindL kindOf binds m x=m x
 | [],_,_=>rfl
 | (n,v)::r,m,h=>by
  unfold bindL;rw [JM fun w hw=>h w (kh _ hw)];split
  ·have:x≠n:=by rintro rfl;exact h v kg
   simp [this]
  ·rfl
theorem JO {kindOf:Str->Option NameKind} {x:Str}:∀ {binds:List (Str×Value)} {m:Str->Option Value},(∀ v,(x,v)∉binds)->bindC kindOf binds m x=m x
 | [],_,_=>rfl
 | (n,v)::r,m,h=>by
  unfold bindC;rw [JO fun w hw=>h w (kh _ hw)];split
  ·rfl
  ·have:x≠n:=by rintro rfl;exact h v kg
   simp [this]
theorem JN {kindOf:Str->Option NameKind} {x:Str} {v:Value}:∀ {P:List Str} {vs:List Value} {i:Nat} {m:Str->Option Value},P.Nodup->P[i]?=some x->vs[i]?=some v->kindOf x=some .local ->
    bindL kindOf (P.zip vs) m x=some v
  | [],_,_,_,_,h,_,_=>by simp at h
  | _::_,[],_,_,_,_,h,_=>by simp at h
  | p::P,w::vs,0,m,nd,h1,h2,hk=>by
    simp at h1 h2;subst h1;subst h2;show bindL kindOf ((p,w)::P.zip vs) m p=_;unfold bindL;rw [JM fun v hv=>(mi.mp nd).1 (nX hv).1,if_pos hk];simp
  | p::P,w::vs,i+1,m,nd,h1,h2,hk=>by
    show bindL kindOf ((p,w)::P.zip vs) m x=_;unfold bindL;exact JN (i:=i) (mi.mp nd).2 (by simpa using h1) (by simpa using h2) hk
theorem JP {kindOf:Str->Option NameKind} {x:Str} {v:Value}:∀ {P:List Str} {vs:List Value} {i:Nat} {m:Str->Option Value},P.Nodup->P[i]?=some x->vs[i]?=some v->kindOf x≠some .local ->
    bindC kindOf (P.zip vs) m x=some v
  | [],_,_,_,_,h,_,_=>by simp at h
  | _::_,[],_,_,_,_,h,_=>by simp at h
  | p::P,w::vs,0,m,nd,h1,h2,hk=>by
    simp at h1 h2;subst h1;subst h2;show bindC kindOf ((p,w)::P.zip vs) m p=_;unfold bindC;rw [JO fun v hv=>(mi.mp nd).1 (nX hv).1,if_neg hk];simp
  | p::P,w::vs,i+1,m,nd,h1,h2,hk=>by
    show bindC kindOf ((p,w)::P.zip vs) m x=_;unfold bindC;exact JP (i:=i) (mi.mp nd).2 (by simpa using h1) (by simpa using h2) hk
def start (N:List Str) (vs:List V):St:=vs.map some++List.replicate (N.length - vs.length) none
def Lm (CX:Vi) (P:Program) (w:World) (K:W.Frag) (mg:Str->Option Value) (base:Heap) (N:List Str) (qual:Str) (scope:Scope) (f:Addr) (cd:Value) (A:Around) (outer:List Env) (s:Shared) (H:Hp) (E:XK):Cx where
 prog:=P
 w:=w
 K:=K
 mg:=mg
 base:=base
 A:=A.deeper (envOfC qual scope s.heap.objs.size f cd)
 N:=N
 s₀:=s
 H₀:=H
 env:=envOfC qual scope s.heap.objs.size f cd
 outer:=outer
 stack:=envOfC qual scope s.heap.objs.size f cd::outer
 ex:=[]
 calm:=true
 fn:=fun _=>true
 pn:=[]
 xe:=fun e s'=>wpAny (model P w) (A.deeper (envOfC qual scope s.heap.objs.size f cd)) (leaving (envOfC qual scope s.heap.objs.size f cd) e) (fun _ s''=>CX outer H s E e s'') (fun e' s''=>CX outer H s E e' s'') s'
theorem Lu {sc:Scope} {n:Nat} {x:Str} (h:sc.names.lookup x=some .cell):∃ c,(cellsFrom n sc.names []).lookup x=some c:=by
 have q:=W.cellsFrom_some sc.names n [] (.inl h);exact mU.mp q
theorem Qc {CX:Vi} {P:Program} {w:World} {K:W.Frag} {mg:Str->Option Value} {base:Heap} {N ps:List Str} {qual:Str} {scope:Scope} {f:Addr} {cd:Value} {A:Around} {outer:List Env} {s s1:Shared} {H:Hp} {E:XK} {us:List Value} {vs:List V}
    (S:FnScope N ps scope) (hd:A.handled=none) (e0:Env0 P w K mg base A outer s H) (hl:vs.length=ps.length) (r:AD vs us)
    (x:InCallC s s.heap.objs.size (bindL (envOfC qual scope s.heap.objs.size f cd).kindOf (ps.zip us) fun _=>none) (cellsFrom (s.heap.objs.size+1) scope.names []) (bindC (envOfC qual scope s.heap.objs.size f cd).kindOf (ps.zip us) fun _=>none) s1) :
    Inv (Lm CX P w K mg base N qual scope f cd A outer s H E) [] (start N vs) H s1:=by
  have hpl:ps.length<=N.length:=by have:=congrArg List.length S.pre;rw [lZ] at this;omega
  obtain ⟨h1,tk,rfl,hk⟩:=x.done;have noA:∀ b:Addr,b∉(Lm CX P w K mg base N qual scope f cd A outer s H E).ex:=fun b z=>absurd (show b∈([]:List Addr) from z) (by simp)
  refine ⟨⟨e0.mod,S.kind,rfl,rfl,kj _,fun y z c h1 h2=>?_,fun y hy=>?_,fun y c _ h=>?_,fun _=>hd,Around.frames_deeper e0.frames,.inr ⟨rfl,rfl⟩,fun b z=>absurd z (noA b),e0.bs,e0.bsz,fun b _ _=>noA b,fun b z=>absurd z (noA b),e0.funs,e0.frf⟩,
    rfl,e0.bare,Un.kept hk,⟨_,x.toInCall.ns,fun i y v h1 h2 h3=>?_⟩,fun y c h=>⟨_,x.cell y c h⟩,e0.hok.fresh (kj _),fun y c h=>?_,fun p hp=>absurd (show p∈([]:List (Addr×Obj)) from hp) (by simp),e0.hok.kept hk,?_⟩
  · exact name_of_addr x.apart (lW h1) (lW h2)
  · have hy:scope.names.lookup y=some .cell\/scope.names.lookup y=some .free:=hy;rcases hy with hy | hy
    · exact Lu hy
    · exact absurd rfl (S.nofree _ (lW hy))
  · exact Nat.le_of_lt (x.above y c (lW h))
  · have hi:i < vs.length:=by
      unfold start at h2
      by_cases hi:i < vs.length
      · exact hi
      · rw [lN (by simpa using hi)] at h2;rw [nt] at h2;split at h2<;>cases h2
    have ha:vs[i]?=some v:=by
      unfold start at h2;rw [kq (by simpa using hi),kn] at h2;cases e:vs[i]? with
      | none=>rw [e] at h2;cases h2
      | some a=>rw [e] at h2;cases h2;rfl
    obtain ⟨u,hu,rv⟩:=r.get ha;have hp:ps[i]?=some y:=by
      rw [<- S.pre,ni (by omega)];exact h1
    have ndP:ps.Nodup:=by rw [<- S.pre];exact S.nd.sublist (List.take_sublist _ _)
    refine ⟨u,rv,?_⟩;rcases S.par y (lY hp) with k | k
    · exact .inl ⟨k,JN ndP hp hu k⟩
    · obtain ⟨c,e⟩:=Lu (n:=s.heap.objs.size+1) k;refine .inr ⟨.inl k,c,e,?_⟩;have q:=x.cell y c e;rw [JP ndP hp hu (by show scope.names.lookup y≠_;rw [k];decide)] at q;exact q
  · exact e0.hok.fresh (Nat.le_of_lt (x.above y c (lW h)))
  · unfold start;show _=N.length;rw [lJ,kb,List.length_replicate];omega
theorem gA {CX:Vi} {P:Program} {w:World} {K:W.Frag} {mg:Str->Option Value} {base:Heap} {k:Nat} {f:Addr} {name qual:Str} {params:Arguments} {body:List Stmt} {scope:Scope} {dV kV doc pm cdv ct oc:Value} {an od:Option Addr}
    {osl:Array (Option Value)} {N ps:List Str} {sp:Sp} (lk:K.lookup f=some ⟨oc,od,.func (W.fnOf name qual params body scope dV kV doc pm an cdv ct),osl⟩) (hcd:W.codeIn K cdv qual=true) (S:FnScope N ps scope)
    (len:∀ vs H Q E,sp vs H Q E->vs.length=ps.length)
    (hbody:∀ (A:Around) (outer:List Env) (s:Shared) (H:Hp) (vs:List V) (Q:VK) (E:XK),Room k (A.deeper (envOfC qual scope s.heap.objs.size f cdv))->sp vs H Q E ->
      ∃ t,DJ (Lm CX P w K mg base N qual scope f cdv A outer s H E) body t/\t { nx:=fun _ H'=>Q .non H',rt:=Q } (start N vs) H) :
    FnOk P w K mg base CX (k+1) f (W.fnOf name qual params body scope dV kV doc pm an cdv ct) ps sp:=by
  refine ⟨len,fun A outer s H args us vs Q E hr e0 hb r hsp=>?_⟩;have hl:=len _ _ _ _ hsp;have KX:K.In s.heap:=e0.mod.kin.keeps fun b o e=>(e0.bs b o e).1
  have lim:s.heap.NoLimit:=e0.mod.nolimit.keeps fun b o e=>(e0.bs b o e).1
  have hkind:∀ y∈ps.zip us,scope.names.lookup y.1=some .local\/(scope.names.lookup y.1=some .cell/\((cellsFrom (s.heap.objs.size+1) scope.names []).lookup y.1).isSome=true):=fun ⟨n,v⟩ hy=>by
    rcases S.par n (nX hy).1 with q | q
    · exact .inl q
    · exact .inr ⟨q,W.cellsFrom_some _ _ _ (.inl q)⟩
  refine codeAny_call_function hr.depth (KX _ _ lk) rfl S.co S.gen rfl (W.codeRec_of KX hcd) (hb _ _ _ _ ?_);refine wpAny_newFunctionEnv_cells S.kind hkind fun env he s1 x=>?_
  subst he;refine ⟨lim.keeps x.toInCall.keep,codeAny_func ?_⟩;obtain ⟨t,ht,hq⟩:=hbody A outer s H vs Q E (hr.deeper _) hsp;have I:Inv (Lm CX P w K mg base N qual scope f cdv A outer s H E) [] (start N vs) H s1:=Qc S hr.hd e0 hl r x;refine wpAny_mono (ht [] s1 (start N vs) H _ I hq) (fun fl s' hs=>?_) fun e s' hs=>hs
  have fin:∀ {σ':St} {H':Hp} {v:V} {u:Value},Inv (Lm CX P w K mg base N qual scope f cdv A outer s H E) [] σ' H' s'->RelV v u->Q v H'->CE outer P w H s Q u s':=
    fun {σ' H' v u} J rv q=>⟨v,H',J.os,J.bare,J.base,J.hok,rv,q⟩
  cases fl with
  | ret u =>
    obtain ⟨v,σ',H',J,rv,q⟩:=hs;exact fin J rv q
  | next =>
    obtain ⟨σ',H',J,q⟩:=hs;exact fin (v:=V.non) (u:=Value.none) J rfl q
  | brk =>
    obtain ⟨_,_,_,q⟩:=hs;exact False.elim q
  | cont =>
    obtain ⟨_,_,_,q⟩:=hs;exact False.elim q
section
variable {X:Cx} {x:Str} {p pos:Pos} {e:Expr} {es:List Expr} {t:TA} {id T:String} {r:List V->Hp->VK->Prop}
abbrev jm (r:List V->Hp->VK->Prop) (t:TA):TE:=fun σ H Q=>t σ H fun vs H1=>r vs H1 Q
theorem TK (hc:Aq X (.builtin id) r) (hg:Gl X x) (hm:X.mg x=none) (hv:bootBuiltins x=some (.builtin id)) (ha:PA X (e::es) t) (hn:x ≠ "__name__" := by decide) (hdb:(x == ("__debug__" : Str))=false:=by decide)
    (he:starEach (e::es) X.env=(false,eval e X.env)::starEach es X.env:=by rfl) (hpl:(backTo pos (starEach es X.env)).any (·.1)=false:=by rfl):PE X (.Call (.Name x p) (e::es) [] pos) (jm r t):=by
  intro pins s σ H Q I h;refine wpAny_Call_Name_kw (Bc I hg hm hv ?_ hn hdb);exact PyProof.Rows.callWith_builtin1 (Ah (ha pos pins s σ H _ I h) fun us s1 ⟨vs,H1,I1,r1,q1⟩=>hc pins s1 σ H1 vs us Q I1 r1 q1) he hpl
theorem QF (hc:Aq X (.type T) r) (hg:Gl X x) (hm:X.mg x=none) (hv:bootBuiltins x=some (.type T)) (ha:PA X (e::es) t) (hn:x ≠ "__name__" := by decide) (hdb:(x == ("__debug__" : Str))=false:=by decide)
    (he:starEach (e::es) X.env=(false,eval e X.env)::starEach es X.env:=by rfl) (hpl:(backTo pos (starEach es X.env)).any (·.1)=false:=by rfl):PE X (.Call (.Name x p) (e::es) [] pos) (jm r t):=by
  intro pins s σ H Q I h;refine wpAny_Call_Name_kw (Bc I hg hm hv ?_ hn hdb);exact lV (Ah (ha pos pins s σ H _ I h) fun us s1 ⟨vs,H1,I1,r1,q1⟩=>hc pins s1 σ H1 vs us Q I1 r1 q1) he hpl
end
end L2
namespace HT
open PySem PyProof.Rows
noncomputable def lexLt:List Int->List Int->Bool
 | [],[]=>false
 | [],_::_=>true
 | _::_,[]=>false
 | x::xs,y::ys=>if x=y then lexLt xs ys else decide (x < y)
theorem NA (x y:Int) (xs ys:List Int):lexLt (x::xs) (y::ys)=if x=y then lexLt xs ys else decide (x < y):=rfl
theorem Hv:lexLt [] []=false:=rfl
theorem HG (y:Int) (ys:List Int):lexLt [] (y::ys)=true:=rfl
theorem HI (x:Int) (xs:List Int):lexLt (x::xs) []=false:=rfl
theorem Lg (A:Around) (s:Shared) (a:Int) (t:Tok) (c:Int) (u:Tok):∃ e,SeqAt.EqAt A s (.int a t) (.int c u) e/\(e=true↔a=c):=
 ⟨(a == c),SeqAt.EqAt.int_int a t c u,by simp⟩
theorem Sd (A:Around) (s:Shared) (a:Int) (t:Tok) (c:Int) (u:Tok) (prog:Program) (w:World) (E:Value->Shared->Prop) (Q:Value->Shared->Prop) (h:Q (.bool (decide (a < c))) s) :
    wpAny (model prog w) A (richCompare .Lt (.int a t) (.int c u)) Q E s:=
  (PyProof.Rows.lt_int h:wpAny (model prog w) A (compareOp .Lt (.int a t) (.int c u)) Q E s)
section
open PySem.SeqAt
open PySem.AutoSeq1 (wpAny_loadPart')
open PySem.MeetsSeq PySem.MeetsSeq2 PySem.MeetsSeq3
theorem Hr (l b:Addr) (items items2:Array Value) (n n2:Nat) (dd dd2:Option Addr) (sl sl2:Array (Option Value)) (ns ms:List Int) (hi:IntsAre items.toList ns) (hj:IntsAre items2.toList ms) :
    Meets (Builtin.«tuple.__lt__» ⟨[.ref l,.ref b],[]⟩)
      (fun _ R s=>s.heap.get? l=some { cls:=.type "tuple", dict:=dd,data:=.seq items n,slots:=sl }/\s.heap.get? b=some { cls:=.type "tuple", dict:=dd2,data:=.seq items2 n2,slots:=sl2 } /\
        R (.ok (.ret (.bool (lexLt ns ms)))) s):=
  .of_wp fun prog w A R s h=>by
    obtain ⟨hp,g,d,tk,os⟩:=s;obtain ⟨hl,hb,h⟩:=h;have f2:=AutoSeq1.sub_tuple_tuple;have z1:items.size=ns.length:=by rw [<- hi.length];simp
    have z2:items2.size=ms.length:=by rw [<- hj.length];simp
    wp_walk using wpAny_loadPart' hl,wpAny_loadPart' hb,wpAny_forIn_list _ (fun rest b s'=>b.1=none/\s'=⟨hp,g,d,tk,os⟩/\∃ (vs ws:List Value) (ns' ms':List Int),rest=vs.zip ws /\
      IntsAre vs ns'/\IntsAre ws ms'/\ns'.length+items2.size=ms'.length+items.size/\R (.ok (.ret (.bool (lexLt ns' ms')))) ⟨hp,g,d,tk,os⟩) _
    case turn =>
      rintro ⟨y,x⟩ rest b s' ⟨hb',rfl,vs,ws,ns',ms',hz,hvi,hwi,hlen,hR⟩;cases hvi with
      | nil=>rw [List.zip_nil_left] at hz;cases hz
      | cons a t hvi' =>
        cases hwi with
        | nil=>rw [List.zip_nil_right] at hz;cases hz
        | cons c u hwi' =>
          rw [lx] at hz;injection hz with hyx hrest
          injection hyx with hy hx
          subst hy hx;rw [NA] at hR;simp only [lE] at hlen;obtain ⟨e,he,hiff⟩:=Lg A.in1 ⟨hp,g,d,tk,os⟩ a t c u;refine wpAny_bind (he prog w _ _ ?_);cases e with
          | true =>
            rw [if_pos (hiff.mp rfl)] at hR
            wp_walk
            exact ⟨rfl,rfl,_,_,_,_,hrest,hvi',hwi',by omega,hR⟩
          | false =>
            rw [if_neg (fun q=>absurd (hiff.mpr q) kr)] at hR;have hri:=Sd A.in1 ⟨hp,g,d,tk,os⟩ a t c u prog w
            wp_walk using hri
            exact ⟨_,rfl,by simpa using hR⟩
    case fin =>
      rintro ⟨b1,b2⟩ s' ⟨hb',rfl,vs,ws,ns',ms',hz,hvi,hwi,hlen,hR⟩;simp only at hb';subst hb';have hv:lexLt ns' ms'=decide (items.size < items2.size):=by
        cases hvi with
        | nil =>
          cases hwi with
          | nil =>
            simp only [ly] at hlen;rw [Hv];exact (decide_eq_false (by omega)).symm
          | cons c u hw =>
            simp only [ly,lE] at hlen;rw [HG];exact (decide_eq_true (by omega)).symm
        | cons a t hv =>
          cases hwi with
          | nil =>
            simp only [ly,lE] at hlen;rw [HI];exact (decide_eq_false (by omega)).symm
          | cons c u hw =>
            rw [lx] at hz;cases hz
      rw [hv] at hR
      wp_walk
      exact ⟨_,rfl,by simpa [Builtin.Tuple.tupleCompareSizes] using hR⟩
    case h =>
      exact ⟨rfl,rfl,items.toList,items2.toList,ns,ms,rfl,hi,hj,by omega,h⟩
end
section
variable {prog:Program} {w:World} {A:Around} {E:Value->Shared->Prop} {s:Shared}
theorem lt_tupInts {l b:Addr} {items items2:Array Value} {ns ms:List Int} {Q:Value->Shared->Prop} (hl:IsTup s.heap l items) (hb:IsTup s.heap b items2) (hi:IntsAre items.toList ns) (hj:IntsAre items2.toList ms)
    (hu:A.units < cLine) (h:Q (.bool (lexLt ns ms)) s):wpAny (model prog w) A (compareOp .Lt (.ref l) (.ref b)) Q E s:=by
  obtain ⟨⟨cls,dd,data,sl⟩,ho,hc,n,hd⟩:=id hl;obtain ⟨⟨cls2,dd2,data2,sl2⟩,ho2,hc2,n2,hd2⟩:=id hb;simp only at hc hd hc2 hd2;subst hc hd hc2 hd2;exact richCompare_meets_room (op:=.Lt) ⟨_,ho,rfl⟩ ⟨_,ho2,rfl⟩ PySem.F.slot_tuple_lt PySem.F.entry_tuple_lt (PySem.F.args_tuple_lt_2 _ _) (Hr l b items items2 n n2 dd dd2 sl sl2 ns ms hi hj)
    ⟨ho,ho2,show Value.bool (lexLt ns ms)≠Value.notImplemented/\Q (.bool (lexLt ns ms)) s from ⟨(fun x=>nomatch x),h⟩⟩ hu
theorem cat_tup {t b:Addr} {vs ws:List Value} {Q:Value->Shared->Prop} (ht:IsTup s.heap t vs.toArray) (hb:IsTup s.heap b ws.toArray) (hv:vs≠[])
    (h1:ws=[]->Q (.ref t) s) (h2:ws≠[]->Q (.ref s.heap.objs.size) { s with heap:=s.heap.push { cls:=.type "tuple", data:=.seq (vs++ws).toArray } })
    (hsz:vs.length+ws.length<=sizeLine):wpAny (model prog w) A (binaryOp .Add (.ref t) (.ref b)) Q E s:=by
  obtain ⟨⟨cls,dd,data,sl⟩,ho,hc,n,hd⟩:=id ht;obtain ⟨⟨cls2,dd2,data2,sl2⟩,ho2,hc2,n2,hd2⟩:=id hb;simp only at hc hd hc2 hd2;subst hc hd hc2 hd2;have e:vs.toArray++ws.toArray=(vs++ws).toArray:=by simp
  by_cases hw:ws=[]
  · exact concat_meets ⟨_,ho,rfl⟩ ⟨_,ho2,rfl⟩ noFill_tuple_add seq_tuple_add PySem.F.slot_tuple_add PySem.F.entry_tuple_add (PySem.F.args_tuple_add_2 _ _)
      (tuple_addW1 t b vs.toArray ws.toArray n n2 dd dd2 sl sl2 (by simpa using hv) (by simp [hw])) ⟨ho,ho2,h1 hw⟩
  · refine concat_meets ⟨_,ho,rfl⟩ ⟨_,ho2,rfl⟩ noFill_tuple_add seq_tuple_add PySem.F.slot_tuple_add PySem.F.entry_tuple_add (PySem.F.args_tuple_add_2 _ _)
      (tuple_addW2 t b vs.toArray ws.toArray n n2 dd dd2 sl sl2 (by simpa using hv) (by simpa using hw) (by rw [kc,kc];exact hsz)) ⟨ho,ho2,?_⟩
    rw [e];exact h2 hw
noncomputable def sIx (n d:Nat):Option Int->Nat
 | none=>d
 | some v=>if v < 0 then (v+(n:Int)).toNat else min v.toNat n
theorem sIx_le (n d:Nat) (hd:d<=n) (o:Option Int):sIx n d o<=n:=by
 cases o with
 | none=>exact hd
 | some v =>
  show (if v < 0 then (v+(n:Int)).toNat else min v.toNat n)<=n
  by_cases hv:v < 0
  ·rw [if_pos hv];omega
  ·rw [if_neg hv];exact Nat.min_le_right _ _
theorem PC (v:Int) (n d:Nat):(if v < 0 then max (v+(n:Int)) 0 else min v (n:Int))=((sIx n d (some v):Nat):Int):=by
 show (if v < 0 then max (v+(n:Int)) 0 else min v (n:Int))=(((if v < 0 then (v+(n:Int)).toNat else min v.toNat n):Nat):Int)
 by_cases hv:v < 0
 ·simp only [if_pos hv];omega
 ·simp only [if_neg hv];omega
theorem Nk (lo hi:Option Int) (n:Nat):Builtin.Slice.sliceAdjust lo hi 1 (n:Int)=(((sIx n 0 lo:Nat):Int),((sIx n n hi:Nat):Int)):=by
 have h1:¬ ((1:Int) < 0):=by omega
 unfold Builtin.Slice.sliceAdjust;simp only [h1,if_false];refine Prod.ext ?_ ?_
 ·cases lo with
  | none=>rfl
  | some v=>exact PC v n 0
 ·cases hi with
  | none=>rfl
  | some v=>exact PC v n n
theorem Mk (i j:Nat):Builtin.Slice.slicePlaces (i:Int) (j:Int) 1=j - i:=by
 unfold Builtin.Slice.slicePlaces;have h1:(1:Int) > 0:=by omega
 simp only [h1,if_true,Int.ediv_one];split<;>omega
theorem EG {v:Value} {o:Option Int} {Q:Option Int->Shared->Prop} (p:IsPart v o) (h:Q o s):wpAny (model prog w) A (Builtin.Slice.slicePartIndex v) Q E s:=by
 cases p with
 | none=>exact slicePart_none h
 | int i t=>exact slicePart_int h
theorem sliceApplied_gen {sl:Addr} {vl vu:Value} {lo hi:Option Int} {n:Nat} {Q:Int×Int×Nat->Shared->Prop} (hs:s.heap.IsSliceOf sl vl vu .none) (pl:IsPart vl lo) (pu:IsPart vu hi)
    (h:Q (((sIx n 0 lo:Nat):Int),1,sIx n n hi - sIx n 0 lo) s):wpAny (model prog w) A (Builtin.Slice.sliceApplied (.ref sl) (pure (n:Int))) Q E s:=by
  obtain ⟨os,hos,hcs,hds⟩:=id hs;unfold Builtin.Slice.sliceApplied Builtin.Slice.sliceFields;refine wpAny_bind (wpAny_bind (wpAny_field hos hds (x:=vl) rfl (wpAny_bind (wpAny_field hos hds (x:=vu) rfl (wpAny_bind (wpAny_field hos hds (x:=.none) rfl (wpAny_pure ?_)))))));refine wpAny_bind (slicePart_none ?_);show wpAny _ _ (if ((1:Int) == 0)=true then _ else _) _ _ s;rw [if_neg (by decide)];refine wpAny_bind (EG pl (wpAny_bind (EG pu (wpAny_bind (wpAny_pure ?_)))));show wpAny _ _ (match Builtin.Slice.sliceAdjust lo hi 1 (n:Int) with | (lo,hi)=>pure (lo,(1:Int),Builtin.Slice.slicePlaces lo hi 1)) _ _ s;rw [Nk lo hi n];show wpAny _ _ (pure (((sIx n 0 lo:Nat):Int),(1:Int),Builtin.Slice.slicePlaces ((sIx n 0 lo:Nat):Int) ((sIx n n hi:Nat):Int) 1)) _ _ s;rw [Mk];exact wpAny_pure h
theorem TB (xs:Array Value) (i k:Nat):((List.range k).filterMap fun (m:Nat)=>xs[((i:Int)+(m:Int) * 1).toNat]?).toArray=((xs.toList.drop i).take k).toArray:=by
 have e:(fun (m:Nat)=>xs[((i:Int)+(m:Int) * 1).toNat]?)=fun m=>xs[i+m]?:=by
  funext m;have:((i:Int)+(m:Int) * 1).toNat=i+m:=by omega
  rw [this]
 rw [e];have:=pick_run xs i k;rw [nO] at this;have e2:((fun x=>xs[x]?)∘fun x=>i+x)=fun m=>xs[i+m]?:=rfl
 rw [e2] at this;rw [this]
theorem getItem_tuple_cut {t sl:Addr} {items:Array Value} {vl vu:Value} {lo hi:Option Int} {Q:Value->Shared->Prop} (ht:IsTup s.heap t items) (hs:s.heap.IsSliceOf sl vl vu .none) (pl:IsPart vl lo) (pu:IsPart vu hi)
    (hw:¬ (sIx items.size 0 lo=0/\sIx items.size items.size hi=items.size))
    (h:Q (.ref s.heap.objs.size) { s with heap:=s.heap.push { cls:=.type "tuple", data:=.seq ((items.toList.drop (sIx items.size 0 lo)).take (sIx items.size items.size hi - sIx items.size 0 lo)).toArray } })
    (hsz:items.size<=sizeLine):wpAny (model prog w) A (getItem (.ref t) (.ref sl)) Q E s:=by
  have htake:sizeOk (.seq ((items.toList.drop (sIx items.size 0 lo)).take (sIx items.size items.size hi - sIx items.size 0 lo)).toArray):=by
    show ((items.toList.drop (sIx items.size 0 lo)).take (sIx items.size items.size hi - sIx items.size 0 lo)).toArray.size<=sizeLine;rw [kc,lZ,me,Array.length_toList];omega
  have hj:sIx items.size items.size hi<=items.size:=sIx_le _ _ (kj _) hi;obtain ⟨os,hos,hcs,hds⟩:=id hs
  have hTs:s.TypeIs (.ref sl) "slice" := ⟨os,hos,hcs⟩
  unfold getItem
  try with_reducible refine wpAny_holding ?_
  first | refine wpAny_bind (wpAny_pure ?_) | skip
  refine wpAny_bind (wpAny_sequenceKey ht.typeIs (by decide) ?_)
  refine wpAny_bind (wpAny_callSpecial?_slot (name:=Str.ofString "__getitem__") ht.typeIs lT
    (wpAny_call_entry lT ht.typeIs entry_tuple_getitem ?_ (args_tuple_getitem _ _)))
  show wpAny _ _ (Builtin.Tuple.tupleItemsOf (.ref t) >>= _) _ _ s;refine wpAny_bind (tupleItemsOf_ ht ?_);refine wpAny_bind (wpAny_typeOf hTs ?_);rw [if_pos (by decide)];refine wpAny_bind (sliceApplied_gen hs pl pu ?_);have hno:¬ ((((sIx items.size 0 lo:Nat):Int) == 0 && (1:Int) == 1 && (sIx items.size items.size hi - sIx items.size 0 lo) == items.size)=true):=by
    intro q;rw [kX,kX] at q;have q1:((sIx items.size 0 lo:Nat):Int)=0:=eq_of_beq q.1.1;have q2:sIx items.size items.size hi - sIx items.size 0 lo=items.size:=eq_of_beq q.2;exact hw ⟨by omega,by omega⟩
  show wpAny _ _ (if (((sIx items.size 0 lo:Nat):Int) == 0 && (1:Int) == 1 && (sIx items.size items.size hi - sIx items.size 0 lo) == items.size)=true then _ else _) _ _ s;rw [if_neg hno,TB]
  first
    | exact wpAny_bind (m:=Builtin.Tuple.tupleExact _) (wpAny_newObj_type (wpAny_pure ⟨_,rfl,wpAny_pure h⟩) htake)
    | exact wpAny_bind (m:=Builtin.Tuple.tupleExact _) (wpAny_newObj_type (wpAny_bind (wpAny_pure (wpAny_pure ⟨_,rfl,wpAny_pure h⟩))) htake)
    | exact wpAny_bind (wpAny_bind (m:=Builtin.Tuple.tupleExact _) (wpAny_newObj_type (wpAny_pure (wpAny_pure ⟨_,rfl,wpAny_pure h⟩)) htake))
    | exact wpAny_bind (wpAny_bind (m:=Builtin.Tuple.tupleExact _) (wpAny_newObj_type (wpAny_pure ⟨_,rfl,wpAny_pure h⟩) htake))
end
end HT
namespace L2
open PySem PySem.Spec PyProof.Rows
abbrev TO:=St->Hp->(Option Int->Hp->Prop)->Prop
def PO (X:Cx) (e:Option Expr) (t:TO):Prop:=
 ∀ (pins:List (Addr×Obj)) (s:Shared) (σ:St) (H:Hp) (Q:Option Int->Hp->Prop),Inv X pins σ H s->t σ H Q ->
  wpAny (model X.prog X.w) X.A (evalPart e X.env) (fun u s'=>∃ o H',Inv X pins σ H' s'/\IsPart u o/\Q o H') X.xe s
abbrev Vt:TO:=fun _ H Q=>Q none H
abbrev dZ (t:TE):TO:=fun σ H Q=>t σ H fun x H1=>∃ i,x=.int i/\Q (some i) H1
theorem Bd {ns:List Int}:∀ {us:List Value},AD (ns.map V.int) us->IntsAre us ns:=by
 induction ns with
 | nil=>intro us r;rw [mZ] at r;cases r;exact .nil
 | cons n ns ih =>
  intro us r;rw [ko] at r;cases r with
  | cons r1 r2 =>
   obtain ⟨t,e⟩:=r1;subst e;exact .cons n t (ih r2)
section
variable {X:Cx} {e:Expr} {te:TE} {lo hi:Option Expr} {tl th:TO} {pos p2:Pos}
theorem Wc:PO X none Vt:=by
 intro pins s σ H Q I h;rw [evalPart_none];exact wpAny_pure ⟨none,H,I,.none,h⟩
theorem Wb (h:PE X e te):PO X (some e) (dZ te):=by
 intro pins s σ H Q I hw;rw [evalPart_some];refine Ah (h pins s σ H _ I hw) fun u s1 ⟨x,H1,I1,r1,q1⟩=>?_
 obtain ⟨i,rfl,q⟩:=q1;obtain ⟨t,rfl⟩:=r1;exact ⟨some i,H1,I1,.int i t,q⟩
def Ra (X:Cx) (r:V->Option Int->Option Int->Hp->VK->Prop):Prop:=
 ∀ (pins:List (Addr×Obj)) (s:Shared) (σ:St) (H:Hp) (x:V) (v vl vu:Value) (lo hi:Option Int) (sl:Addr) (Q:VK),Inv X pins σ H s->RelV x v->s.heap.IsSliceOf sl vl vu .none->IsPart vl lo->IsPart vu hi->r x lo hi H Q ->
  ∃ T id,typeLookup (.type T) "__getitem__" = pure (some (.builtin id))/\s.TypeIs v T/\wpAny (model X.prog X.w) X.A (getItem v (.ref sl)) (EP X pins σ Q) X.xe s
theorem Ra.or {r r':V->Option Int->Option Int->Hp->VK->Prop} (h:Ra X r) (h':Ra X r'):Ra X (fun x lo hi H Q=>r x lo hi H Q\/r' x lo hi H Q):=by
 intro pins s σ H x v vl vu lo hi sl Q I rx hs pl pu q;rcases q with q | q
 ·exact h pins s σ H x v vl vu lo hi sl Q I rx hs pl pu q
 ·exact h' pins s σ H x v vl vu lo hi sl Q I rx hs pl pu q
abbrev jg (r:V->Option Int->Option Int->Hp->VK->Prop) (te:TE) (tl th:TO):TE:=fun σ H Q=>te σ H fun x H1=>tl σ H1 fun l H2=>th σ H2 fun u H3=>r x l u H3 Q
theorem TF {r:V->Option Int->Option Int->Hp->VK->Prop} (hr:Ra X r) (he:PE X e te) (hl:PO X lo tl) (hu:PO X hi th):PE X (.Subscript e (.Slice lo hi none p2) pos) (jg r te tl th):=by
 intro pins s σ H Q I h;refine Subscript_ (Ah (he pins s σ H _ I h) fun v s1 ⟨x,H1,I1,r1,q1⟩=>?_);refine wpAny_Slice (Ah (hl pins s1 σ H1 _ I1 q1) fun vl s2 ⟨l,H2,I2,pl,q2⟩=>Ah (hu pins s2 σ H2 _ I2 q2) fun vu s3 ⟨u,H3,I3,pu,q3⟩=>?_);rw [evalPart_none];refine wpAny_pure ?_
 have I4:Inv X pins σ H3 { s3 with heap:=s3.heap.push { cls:=.type "slice", data:=.fields #[vl,vu,.none] } }:=I3.kept (t':=s3.toks) fun b ob q=>kY _ q
 obtain ⟨T,id,hT,ht,hg⟩:=hr pins { s3 with heap:=s3.heap.push { cls:=.type "slice", data:=.fields #[vl,vu,.none] } } σ H3 x v vl vu l u s3.heap.objs.size Q I4 r1 (Heap.IsSliceOf.new ..) pl pu q3
 show wpAny (model X.prog X.w) X.A (subscriptTail e (.Slice lo hi none p2) v (.ref s3.heap.objs.size)) (EP X pins σ Q) X.xe { s3 with heap:=s3.heap.push { cls:=.type "slice", data:=.fields #[vl,vu,.none] } }
 exact tail_any (ops:=[.ref s3.heap.objs.size,v]) ht hT hg (by with_unfolding_all rfl)
def Ek (xs:List V) (lo hi:Option Int):List V:=(xs.drop (HT.sIx xs.length 0 lo)).take (HT.sIx xs.length xs.length hi - HT.sIx xs.length 0 lo)
theorem Fv (xs:List V) (lo hi:Option Int):(Ek xs lo hi).length<=xs.length:=by
 unfold Ek;rw [lZ,me];omega
def eS (K:W.Frag):V->Option Int->Option Int->Hp->VK->Prop:=fun x lo hi H Q=>∃ a xs,x=.ref a/\DG K H a xs /\
 ¬ (HT.sIx xs.length 0 lo=0/\HT.sIx xs.length xs.length hi=xs.length)/\∀ p,H p=none->Q (.ref p) (upd H p (.tup (Ek xs lo hi)))
theorem Zq:Ra X (eS X.K):=by
 intro pins s σ H x v vl vu lo hi sl Q I rx hs pl pu h;obtain ⟨a,xs,rfl,hx,hw,q⟩:=h;cases rx;obtain ⟨its,r,ht,hz⟩:=I.tuple hx;have hlen:its.toArray.size=xs.length:=by rw [kc];exact r.length.symm
 refine ⟨"tuple", _,lT.lookup,ht.typeIs,?_⟩
 refine HT.getItem_tuple_cut ht hs pl pu (by rw [hlen];exact hw) ?_ (by rw [hlen];exact hz);rw [hlen];refine ⟨.ref s.heap.objs.size,_,I.laid (t':=s.toks) (o:=.tup (Ek xs lo hi)) (fun b ob q=>kY _ q) (kj _) ?_,rfl,q _ (I.hok.fresh (kj _))⟩;exact ⟨lI (Fv xs lo hi) hz,_,(r.drop (HT.sIx xs.length 0 lo)).take (HT.sIx xs.length xs.length hi - HT.sIx xs.length 0 lo),GK.new _ _⟩
def eZ (K:W.Frag):R2:=fun x y H Q=>∃ a b ns ms,x=.ref a/\y=.ref b/\DG K H a (ns.map V.int)/\DG K H b (ms.map V.int)/\Q (.bl (HT.lexLt ns ms)) H
theorem az (hu:X.A.units < cLine):Br X (compareOp .Lt) (eZ X.K):=by
 intro pins s σ H x y v u Q I rx ry h;obtain ⟨a,b,ns,ms,rfl,rfl,ha,hb,q⟩:=h;cases rx;cases ry;obtain ⟨its,r1,p1,_⟩:=I.tuple ha;obtain ⟨its2,r2,p2,_⟩:=I.tuple hb;have i1:IntsAre its.toArray.toList ns:=Bd r1;have i2:IntsAre its2.toArray.toList ms:=Bd r2;exact HT.lt_tupInts p1 p2 i1 i2 hu ⟨.bl (HT.lexLt ns ms),H,I,rfl,q⟩
def Yo (K:W.Frag):R2:=fun x y H Q=>∃ a b xs ys,x=.ref a/\y=.ref b/\DG K H a xs/\DG K H b ys/\xs≠[]/\xs.length+ys.length<=sizeLine /\
 (ys=[]->Q (.ref a) H)/\(ys≠[]->∀ p,H p=none->Q (.ref p) (upd H p (.tup (xs++ys))))
theorem AD.nil_iff {xs:List V} {us:List Value} (r:AD xs us):us=[]↔xs=[]:=by
 cases r with
 | nil=>simp
 | cons _ _=>simp
theorem Wr:Br X (binaryOp .Add) (Yo X.K):=by
 intro pins s σ H x y v u Q I rx ry h;obtain ⟨a,b,xs,ys,rfl,rfl,ha,hb,hx,hz,q1,q2⟩:=h;cases rx;cases ry;obtain ⟨its,r1,p1,_⟩:=I.tuple ha;obtain ⟨its2,r2,p2,_⟩:=I.tuple hb;refine HT.cat_tup p1 p2 (fun z=>hx (r1.nil_iff.mp z)) (fun z=>⟨.ref a,H,I,rfl,q1 (r2.nil_iff.mp z)⟩) (fun z=>?_) (by rw [<- r1.length,<- r2.length];exact hz);refine ⟨.ref s.heap.objs.size,_,I.laid (t':=s.toks) (o:=.tup (xs++ys)) (fun b ob q=>kY _ q) (kj _) ?_,rfl,q2 (fun w=>z (r2.nil_iff.mpr w)) _ (I.hok.fresh (kj _))⟩;exact ⟨by rw [lJ];exact hz,_,r1.append r2,GK.new _ _⟩
end
noncomputable def LO (n:Nat) (i:Int):Option Nat:=if 0<=i then (if i < n then some i.toNat else none) else if -(n:Int)<=i then some (i+n).toNat else none
def Dx {α:Type} (xs:List α) (i:Int):Option α:=(LO xs.length i).bind fun j=>xs[j]?
theorem Of {n:Nat} {i:Int} {j:Nat} (h:LO n i=some j):seqIndex? i n=some j/\j < n/\-(n:Int)<=i/\i < n:=by
 unfold LO at h
 by_cases h0:0<=i
 ·rw [if_pos h0] at h
  by_cases h1:i < n
  ·rw [if_pos h1] at h;have e:i.toNat=j:=Option.some.inj h;exact ⟨by rw [seqIndex_of h0 h1,e],by omega,by omega,h1⟩
  ·rw [if_neg h1] at h;cases h
 ·rw [if_neg h0] at h
  by_cases h1:-(n:Int)<=i
  ·rw [if_pos h1] at h;have e:(i+n).toNat=j:=Option.some.inj h;exact ⟨by rw [seqIndex_neg (by omega) h1,e],by omega,h1,by omega⟩
  ·rw [if_neg h1] at h;cases h
theorem KJ {α:Type} {xs:List α} {i:Int} {v:α} (h:Dx xs i=some v):∃ j,seqIndex? i xs.length=some j/\xs[j]?=some v/\j < xs.length/\-(xs.length:Int)<=i/\i < xs.length:=by
 unfold Dx at h;cases e:LO xs.length i with
 | none=>rw [e] at h;cases h
 | some j =>
  rw [e] at h;obtain ⟨h1,h2,h3,h4⟩:=Of e;exact ⟨j,h1,h,h2,h3,h4⟩
theorem atI_nat {α:Type} {xs:List α} {j:Nat} {v:α} (h:xs[j]?=some v):Dx xs (j:Int)=some v:=by
 have hj:j < xs.length:=(ka.mp h).1;have e:LO xs.length (j:Int)=some j:=by
  unfold LO;rw [if_pos (by omega),if_pos (by omega)];simp
 unfold Dx;rw [e];exact h
def PU (b:Expr):Prop:=∀ o i,subscripted b false o i=operate [o,i] (getItem o i)
def RS (X:Cx) (r:R2):Prop:=
 ∀ (value slice:Expr) (pins:List (Addr×Obj)) (s:Shared) (σ:St) (H:Hp) (x y:V) (v u:Value) (Q:VK),Inv X pins σ H s->RelV x v->RelV y u->r x y H Q ->
  subscripted slice false v u=operate [v,u] (getItem v u)->wpAny (model X.prog X.w) X.A (subscriptTail value slice v u) (EP X pins σ Q) X.xe s
def RQ (X:Cx) (id:String) (r:V->List V->Hp->VK->Prop):Prop:=
 ∀ (pins:List (Addr×Obj)) (s:Shared) (σ:St) (H:Hp) (x:V) (xs:List V) (v:Value) (us:List Value) (Q:VK),Inv X pins σ H s->RelV x v->AD xs us->r x xs H Q ->
  wpAny (model X.prog X.w) X.A (call (.builtin id) (v::us)) (EP X pins σ Q) X.xe s
section
variable {X:Cx} {a b:Expr} {ta tb:TE} {pos:Pos}
theorem RS.or {r r':R2} (h:RS X r) (h':RS X r'):RS X (fun x y H Q=>r x y H Q\/r' x y H Q):=by
 intro value slice pins s σ H x y v u Q I rx ry q hs;rcases q with q | q
 ·exact h value slice pins s σ H x y v u Q I rx ry q hs
 ·exact h' value slice pins s σ H x y v u Q I rx ry q hs
theorem RQ.or {id:String} {r r':V->List V->Hp->VK->Prop} (h:RQ X id r) (h':RQ X id r'):RQ X id (fun x xs H Q=>r x xs H Q\/r' x xs H Q):=by
 intro pins s σ H x xs v us Q I rx rs q;rcases q with q | q
 ·exact h pins s σ H x xs v us Q I rx rs q
 ·exact h' pins s σ H x xs v us Q I rx rs q
theorem fN {r:R2} (hr:RS X r) (ha:PE X a ta) (hb:PE X b tb) (hs:PU b):PE X (.Subscript a b pos) (hX r ta tb):=by
 intro pins s σ H Q I h;exact Subscript_ (cx ha hb I h fun v u s2 x y H2 I2 rx ry q=>hr a b pins s2 σ H2 x y v u Q I2 rx ry q (hs _ _))
def ez (K:W.Frag):R2:=fun x y H Q=>∃ p xs i v,x=.ref p/\y=.int i/\CZ K H p xs/\Dx xs i=some v/\Q v H
def ef (K:W.Frag):R2:=fun x y H Q=>∃ p xs i v,x=.ref p/\y=.int i/\DG K H p xs/\Dx xs i=some v/\Q v H
def eg:R2:=fun x y H Q=>∃ z i c,x=.str z/\y=.int i/\z.length<=sizeLine/\Dx z.cps.toList i=some c/\Q (.str ⟨#[c]⟩) H
theorem XF:RS X (ez X.K):=by
  intro value slice pins s σ H x y v u Q I rx ry h hs;obtain ⟨p,xs,i,z,rfl,rfl,hq,he,q⟩:=h;cases rx;obtain ⟨t,rfl⟩:=ry;obtain ⟨its,r,pl,hz⟩:=I.list hq;obtain ⟨j,h1,h2,h3,h4,h5⟩:=KJ he;obtain ⟨w,ew,rw'⟩:=r.get h2;have hl:=r.length;have hn:=FV;have fin:EP X pins σ Q w s:=⟨z,H,I,rw',q⟩
  by_cases h0:0<=i
  · have hj:i.toNat=j:=by
      rw [seqIndex_of h0 h5] at h1;exact Option.some.inj h1
    exact item_listR pl.isList h0 (by omega) (by rw [hj];simpa using ew) fin hs
  · have hj:(i+(its.toArray.size:Int)).toNat=j:=by
      rw [seqIndex_neg (by omega) h4] at h1;rw [kc,<- hl];exact Option.some.inj h1
    exact subscriptTail_builtinR (x:=w) pl.isList.typeIs slot_list_getitem.lookup
      (wpAny_getItem_list_neg (Q:=fun r s'=>r=w/\EP X pins σ Q r s') pl.isList (by omega) (by rw [kc]<;>omega) (by omega) (by rw [hj];simpa using ew) ⟨rfl,fin⟩) hs
theorem bU:RS X (ef X.K):=by
 intro value slice pins s σ H x y v u Q I rx ry h hs;obtain ⟨p,xs,i,z,rfl,rfl,hq,he,q⟩:=h;cases rx;obtain ⟨t,rfl⟩:=ry;obtain ⟨its,r,pl,hz⟩:=I.tuple hq;obtain ⟨j,h1,h2,h3,h4,h5⟩:=KJ he;obtain ⟨w,ew,rw'⟩:=r.get h2;have hl:=r.length;have hn:=FV;have fin:EP X pins σ Q w s:=⟨z,H,I,rw',q⟩;exact subscriptTail_builtinR (x:=w) pl.typeIs slot_tuple_getitem.lookup
  (getItem_tuple (j:=j) (Q:=fun r s'=>r=w/\EP X pins σ Q r s') pl (by omega) (by omega) (by rw [kc,<- hl];exact h1) (by simpa using ew) ⟨rfl,fin⟩) hs
theorem bV:RS X eg:=by
 intro value slice pins s σ H x y v u Q I rx ry h hs;obtain ⟨z,i,c,rfl,rfl,hz,he,q⟩:=h;obtain ⟨t,rfl⟩:=rx;obtain ⟨t',rfl⟩:=ry;obtain ⟨j,h1,h2,h3,h4,h5⟩:=KJ he;have hl:z.cps.toList.length=z.length:=by simp [Str.length]
 rw [hl] at h1 h4 h5;have hn:=FV;exact tail_any (typeIs_str s z t) slot_str_getitem.lookup (getItem_str (c:=c) (by
  have e1:decide (i < -(2 ^ 63:Int))=false:=decide_eq_false (by omega);have e2:decide (i >= 2 ^ 63)=false:=decide_eq_false (by omega);rw [e1,e2,Bool.or_false]) (by rw [h1];simpa using h2) ⟨.str ⟨#[c]⟩,H,I.tok _,⟨_,rfl⟩,q⟩) hs
def aF (K:W.Frag):R2:=fun x y H Q=>ez K x y H Q\/ef K x y H Q\/eg x y H Q
theorem bW:RS X (aF X.K):=XF.or (bU.or bV)
theorem Mv (its:List Value) (n j:Nat) (u:Value):Obj.mapSeq (·.setIfInBounds j u) { cls:=.type "list", data:=.seq its.toArray n }={ cls:=.type "list", data:=.seq (its.set j u).toArray n }:=by
 simp [Obj.mapSeq]
theorem Inv.lst {pins:List (Addr×Obj)} {σ:St} {H:Hp} {s:Shared} {p:Addr} {xs:List V} (I:Inv X pins σ H s) (h:H p=some (.lst xs)) :
    ∃ (its:List Value) (n:Nat),AD xs its/\s.heap.get? p=some { cls:=.type "list", data:=.seq its.toArray n }/\xs.length<=sizeLine:=by
  obtain ⟨z,its,n,r,e⟩:=I.hok p _ h;exact ⟨its,n,r,e,z⟩
theorem Inv.lstUpd {pins:List (Addr×Obj)} {σ:St} {H:Hp} {s:Shared} {p:Addr} {xs ys:List V} {its its':List Value} {n n':Nat} {f:Obj->Obj} (I:Inv X pins σ H s) (h:H p=some (.lst xs))
    (ho:s.heap.get? p=some { cls:=.type "list", data:=.seq its.toArray n }) (hf:f { cls:=.type "list", data:=.seq its.toArray n }={ cls:=.type "list", data:=.seq its'.toArray n' }) (r:AD ys its') (hz:ys.length<=sizeLine) (t:Nat) :
    Inv X pins σ (upd H p (.lst ys)) { s with heap:=s.heap.update p f,toks:=t }:=by
  have e:(s.heap.update p f).get? p=some { cls:=.type "list", data:=.seq its'.toArray n' }:=by
    rw [mF f ho (by rw [hf]<;>rfl),hf]
  refine I.write (x:=p) (e:=p) (by rw [h];trivial) (.inl rfl) (fun b u hb q=>(lj _ _ (Ne.symm hb)).trans q) ⟨_,e⟩ ?_;exact ⟨hz,its',n',r,e⟩
def Si:V->V->V->Hp->(Hp->Prop)->Prop:=fun o i v H Q=>∃ p xs k j,o=.ref p/\i=.int k/\H p=some (.lst xs)/\LO xs.length k=some j/\Q (upd H p (.lst (xs.set j v)))
theorem set_list:KN X Si:=by
  intro pins s σ H o i v ov iv u Q I ro ri rv h;obtain ⟨p,xs,k,j,rfl,rfl,hp,hj,q⟩:=h;cases ro;obtain ⟨t,rfl⟩:=ri;obtain ⟨its,n,r,ho,hz⟩:=I.lst hp;obtain ⟨h1,h2,h3,h4⟩:=Of hj;have hl:=r.length;have hn:=FV;have I':Inv X pins σ (upd H p (.lst (xs.set j v))) { s with heap:=s.heap.update p (Obj.mapSeq (·.setIfInBounds j u)) }:=
    I.lstUpd hp ho (Mv its n j u) (r.set rv j) (by rw [lM];exact hz) s.toks
  by_cases h0:0<=k
  · have hk:k.toNat=j:=by
      rw [seqIndex_of h0 h4] at h1;exact Option.some.inj h1
    exact W.ki_setAt ho h0 (by omega) (by rw [kc,<- hl];exact h4) (by rw [hk];exact ⟨_,I',q⟩)
  · have hk:(k+(its.toArray.size:Int)).toNat=j:=by
      rw [seqIndex_neg (by omega) h3] at h1;rw [kc,<- hl];exact Option.some.inj h1
    exact W.ki_setBack ho (by omega) (by rw [kc,<- hl];exact h3) (by omega) (by rw [hk];exact ⟨_,I',q⟩)
theorem Jb (lo hi:Option Int) (n:Nat):(sliceBounds lo hi none n).1=((HT.sIx n 0 lo:Nat):Int)/\(sliceBounds lo hi none n).2.1=((HT.sIx n n hi:Nat):Int)/\(sliceBounds lo hi none n).2.2=1:=by
 refine ⟨?_,?_,rfl⟩
 ·cases lo with
  | none=>simp [sliceBounds,HT.sIx]
  | some i =>
   simp only [sliceBounds,HT.sIx,Option.getD_none,show (1:Int) > 0 by decide,if_true]
   by_cases h:i < 0
   ·simp only [h,if_true]<;>omega
   ·simp only [h,if_false]<;>omega
 ·cases hi with
  | none=>simp [sliceBounds,HT.sIx]
  | some i =>
   simp only [sliceBounds,HT.sIx,Option.getD_none,show (1:Int) > 0 by decide,if_true]
   by_cases h:i < 0
   ·simp only [h,if_true]<;>omega
   ·simp only [h,if_false]<;>omega
theorem Hu (its:List Value) (lo hi:Option Int):slicePick its.toArray lo hi none=((its.drop (HT.sIx its.length 0 lo)).take (HT.sIx its.length its.length hi - HT.sIx its.length 0 lo)).toArray:=by
 obtain ⟨h1,h2,h3⟩:=Jb lo hi its.toArray.size;unfold slicePick;rw [h1,h2,h3];simp only [sliceRange_one,pick_run,kc]<;>rfl
def eV (K:W.Frag):V->Option Int->Option Int->Hp->VK->Prop:=fun x lo hi H Q=>∃ a xs,x=.ref a/\CZ K H a xs/\∀ p,H p=none->Q (.ref p) (upd H p (.lst (Ek xs lo hi)))
theorem WC:Ra X (eV X.K):=by
 intro pins s σ H x v vl vu lo hi sl Q I rx hs pl pu h;obtain ⟨a,xs,rfl,hx,q⟩:=h;cases rx;obtain ⟨its,r,ht,hz⟩:=I.list hx;have hlen:=r.length
 refine ⟨"list", _,slot_list_getitem.lookup,ht.isList.typeIs,?_⟩
 refine wpAny_getItem_list_slice ht.isList hs pl pu .none (by simp) ?_ (by rw [kc]<;>omega);rw [Hu,<- hlen];refine ⟨.ref s.heap.objs.size,_,I.laid (t':=s.toks) (o:=.lst (Ek xs lo hi)) (fun b ob q=>kY _ q) (kj _) ?_,rfl,q _ (I.hok.fresh (kj _))⟩;exact ⟨lI (Fv xs lo hi) hz,_,0,(r.drop (HT.sIx xs.length 0 lo)).take (HT.sIx xs.length xs.length hi - HT.sIx xs.length 0 lo),kz _ rfl⟩
noncomputable def Ef:V->Bool
 | .non=>true
 | .bl _=>true
 | .int _=>true
 | .str _=>true
 | _=>false
noncomputable def eqV:V->V->Bool
 | .non,.non=>true
 | .bl a,.bl b=>a == b
 | .bl a,.int b=>(if a then 1 else 0) == b
 | .int a,.bl b=>a == (if b then 1 else 0)
 | .int a,.int b=>a == b
 | .str a,.str b=>a == b
 | _,_=>false
theorem cI {A:Around} {s:Shared} {y x:V} {u v:Value} (ry:RelV y u) (rx:RelV x v) (fy:Ef y=true) (fx:Ef x=true):SeqAt.EqAt A s u v (eqV y x):=by
 cases y with
 | non =>
  cases ry;cases x with
  | non=>cases rx;exact SeqAt.EqAt.same _
  | bl b=>cases rx;exact SeqAt.EqAt.none_bool b
  | int b=>obtain ⟨t,rfl⟩:=rx;exact SeqAt.EqAt.none_int b t
  | str b=>obtain ⟨t,rfl⟩:=rx;exact SeqAt.EqAt.none_str b t
  | _=>exact absurd (show false=true from fx) kr
 | bl a =>
  cases ry;cases x with
  | non=>cases rx;exact SeqAt.EqAt.bool_none a
  | bl b=>cases rx;exact SeqAt.EqAt.bool_bool a b
  | int b=>obtain ⟨t,rfl⟩:=rx;exact SeqAt.EqAt.bool_int a b t
  | str b=>obtain ⟨t,rfl⟩:=rx;exact SeqAt.EqAt.bool_str a b t
  | _=>exact absurd (show false=true from fx) kr
 | int a =>
  obtain ⟨t',rfl⟩:=ry;cases x with
  | non=>cases rx;exact SeqAt.EqAt.int_none a t'
  | bl b=>cases rx;exact SeqAt.EqAt.int_bool a t' b
  | int b=>obtain ⟨t,rfl⟩:=rx;exact SeqAt.EqAt.int_int a t' b t
  | str b=>obtain ⟨t,rfl⟩:=rx;exact SeqAt.EqAt.int_str a t' b t
  | _=>exact absurd (show false=true from fx) kr
 | str a =>
  obtain ⟨t',rfl⟩:=ry;cases x with
  | non=>cases rx;exact SeqAt.EqAt.str_none a t'
  | bl b=>cases rx;exact SeqAt.EqAt.str_bool a t' b
  | int b=>obtain ⟨t,rfl⟩:=rx;exact SeqAt.EqAt.str_int a t' b t
  | str b=>obtain ⟨t,rfl⟩:=rx;exact SeqAt.EqAt.str_str a t' b t
  | _=>exact absurd (show false=true from fx) kr
 | _=>exact absurd (show false=true from fy) kr
theorem Jj:Br X (compareOp .NotIn) (fun x y H Q=>∃ i j,x=.str i/\y=.str j/\Q (.bl (!(!(Builtin.Str.occurrences j i 0 j.length 1).isEmpty))) H):=by
 intro pins s σ H x y v u Q I rx ry h;obtain ⟨i,j,rfl,rfl,q⟩:=h;obtain ⟨t,rfl⟩:=rx;obtain ⟨t',rfl⟩:=ry;exact notIn_str ⟨.bl _,H,I,rfl,q⟩
theorem Aq.or {f:Value} {r r':List V->Hp->VK->Prop} (h:Aq X f r) (h':Aq X f r'):Aq X f (fun xs H Q=>r xs H Q\/r' xs H Q):=by
 intro pins s σ H xs us Q I rs q;rcases q with q | q
 ·exact h pins s σ H xs us Q I rs q
 ·exact h' pins s σ H xs us Q I rs q
theorem KD:Aq X (.type "list") (fun xs H Q=>∃ p ys,xs=[.ref p]/\(CZ X.K H p ys\/DG X.K H p ys)/\∀ l,H l=none->Q (.ref l) (upd H l (.lst ys))):=by
  intro pins s σ H xs us Q I r h;obtain ⟨p,ys,rfl,hq,q⟩:=h;obtain ⟨u,rfl,rx⟩:=vals1 r;cases rx;have fin:∀ (its:List Value),AD ys its->ys.length<=sizeLine->∀ (h':Heap) (c':Nat),(∀ b o',s.heap.get? b=some o'->h'.get? b=some o') ->
      h'.get? s.heap.objs.size=some { cls:=.type "list", dict:=none,data:=.seq its.toArray c',slots:=#[] }->EP X pins σ Q (.ref s.heap.objs.size) { s with heap:=h' }:=fun its r' hz h' c' kp e =>
    ⟨.ref s.heap.objs.size,_,I.laid (t':=s.toks) kp (kj _) (show AQ X.prog X.w _ h' _ (.lst ys) from ⟨hz,its,c',r',e⟩),rfl,q _ (I.hok.fresh (kj _))⟩
  rcases hq with hq | hq
  · obtain ⟨its,r',pl,hz⟩:=I.list hq;have hlen:=r'.length;obtain ⟨o,ho,hc,n,hd⟩:=pl.isList;exact call_list_seq p (.inl rfl) ho hc hd (fun h' c' kp e=>fin its r' hz h' c' kp e) (by simp only [kc]<;>omega)
  · obtain ⟨its,r',pl,hz⟩:=I.tuple hq;have hlen:=r'.length;obtain ⟨o,ho,hc,n,hd⟩:=pl;exact call_list_seq p (.inr rfl) ho hc hd (fun h' c' kp e=>fin its r' hz h' c' kp e) (by simp only [kc]<;>omega)
theorem IF:Aq X (.type "tuple") (fun xs H Q=>∃ p ys,xs=[.ref p]/\((CZ X.K H p ys/\∀ l,H l=none->Q (.ref l) (upd H l (.tup ys)))\/(DG X.K H p ys/\Q (.ref p) H))):=by
 intro pins s σ H xs us Q I r h;obtain ⟨p,ys,rfl,h⟩:=h;obtain ⟨u,rfl,rx⟩:=vals1 r;cases rx;rcases h with ⟨hq,q⟩ | ⟨hq,q⟩
 ·obtain ⟨its,r',pl,hz⟩:=I.list hq;have hlen:=r'.length;refine call_tuple_list pl.isList (fun h' kp=>?_) (by simp only [kc]<;>omega);have I1:Inv X pins σ H { s with heap:=h' }:=I.kept (t':=s.toks) kp
  have I2:Inv X pins σ (upd H h'.objs.size (.tup ys)) { s with heap:=h'.push { cls:=.type "tuple", data:=.seq its.toArray } }:=
   I1.laid (t':=s.toks) (fun b o e=>kY _ e) (kj _) (show AQ X.prog X.w _ _ _ (.tup ys) from ⟨hz,its,r',GK.new _ _⟩)
  exact ⟨.ref h'.objs.size,_,I2,rfl,q _ (I1.hok.fresh (kj _))⟩
 ·obtain ⟨its,r',pl,hz⟩:=I.tuple hq;exact call_tuple_same pl ⟨.ref p,H,I,rfl,q⟩
def hU (K:W.Frag) (T:String) (x:V) (H:Hp):Prop:=match x with
  | .str _=>T = "str"
  | .int _=>T = "int"
  | .ref p=>(T = "list" /\ ∃ xs,CZ K H p xs)\/(T = "tuple" /\ ∃ o,K.lookup p=some o/\o.cls=.type "tuple" /\ o.dict=none) \/
      (T = "dict" /\ ((∃ kvs,H p=some (.dK kvs))\/∃ kvs,H p=some (.dT kvs)))\/(T = "set" /\ ∃ S n,H p=some (.set S n))
  | _=>False
theorem Ri {pins:List (Addr×Obj)} {σ:St} {H:Hp} {s:Shared} {T:String} {x:V} {v:Value} (I:Inv X pins σ H s) (r:RelV x v) (ty:hU X.K T x H) :
    s.TypeIs v T/\∀ a,v=.ref a->∃ ob,s.heap.get? a=some ob/\ob.dict=none:=by
  cases x with
  | str z =>
    obtain ⟨t,rfl⟩:=r
    cases (show T = "str" from ty)
    exact ⟨typeIs_str s z t,fun _ e=>nomatch e⟩
  | int i =>
    obtain ⟨t,rfl⟩:=r
    cases (show T = "int" from ty)
    exact ⟨typeIs_int s i t,fun _ e=>nomatch e⟩
  | ref p =>
    cases r;rcases ty with ⟨rfl,xs,hq⟩ | ⟨rfl,o,hk,hc,hd⟩ | ⟨rfl,hk⟩ | ⟨rfl,S,n,hk⟩
    · obtain ⟨its,_,pl,_⟩:=I.list hq;refine ⟨pl.isList.typeIs,fun a e=>?_⟩;cases e;obtain ⟨o,n,e,c,hd,_⟩:=pl;exact ⟨o,e,hd⟩
    · refine ⟨⟨o,I.kIn p o hk,hc⟩,fun a e=>?_⟩;cases e;exact ⟨o,I.kIn _ o hk,hd⟩
    · have z:∃ o,s.heap.get? p=some o/\o.ExactDict:=by
        rcases hk with ⟨kvs,hk⟩ | ⟨kvs,hk⟩
        · obtain ⟨_,_,_,_,o,_,_,e,ex,_⟩:=I.hok p _ hk;exact ⟨o,e,ex⟩
        · obtain ⟨_,_,_,_,o,_,_,e,ex,_⟩:=I.hok p _ hk;exact ⟨o,e,ex⟩
      obtain ⟨o,e,ex⟩:=z;refine ⟨⟨o,e,ex.1⟩,fun a e2=>?_⟩;cases e2;exact ⟨o,e,ex.2.1⟩
    · obtain ⟨o,_,_,_,e,ex,_⟩:=I.hok p _ hk;refine ⟨⟨o,e,ex.1⟩,fun a e2=>?_⟩;cases e2;exact ⟨o,e,ex.2.1⟩
  | _=>exact False.elim ty
abbrev iQ (K:W.Frag) (T:String) (r:V->List V->Hp->VK->Prop) (to:TE):TE:=fun σ H Q=>to σ H fun x H1=>hU K T x H1/\r x [] H1 Q
abbrev dn (K:W.Frag) (T:String) (r:V->List V->Hp->VK->Prop) (to:TE) (t:TA):TE:=fun σ H Q=>to σ H fun x H1=>hU K T x H1/\t σ H1 fun xs H2=>r x xs H2 Q
variable {o e:Expr} {es:List Expr} {to:TE} {t:TA} {name:Str} {apos cpos:Pos} {T id:String} {r:V->List V->Hp->VK->Prop}
theorem TM (pa:PlainAttrs T) (slot:Slot T name id) (hty:typeOf (.builtin id)=pure (.type "method_descriptor")) (hm:RQ X id r) (ho:PE X o to)
    (hbase:attributeBase o name X.env (eval o X.env)=eval o X.env:=by rfl) (hline:(apos.endLine == cpos.line)=true:=by rfl):PE X (.Call (.Attribute o name apos) [] [] cpos) (iQ X.K T r to):=by
  intro pins s σ H Q I h;refine wpAny_Call_method0_late hbase hline (Ah (ho pins s σ H _ I h) fun v s1 ⟨x,H1,I1,r1,ty,q1⟩=>?_);obtain ⟨h1,h2⟩:=Ri I1 r1 ty;exact ⟨T,id,pa,slot,hty,h1,h2,Calls.callWith_builtin rfl (PySem.evalArgs_none (hm pins s1 σ H1 x [] v [] Q I1 r1 .nil q1))⟩
theorem Yq (pa:PlainAttrs T) (slot:Slot T name id) (hty:typeOf (.builtin id)=pure (.type "method_descriptor")) (hm:RQ X id r) (ho:PE X o to) (ha:PA X (e::es) t)
    (hbase:attributeBase o name X.env (eval o X.env)=eval o X.env:=by rfl)
    (hfew:((backTo cpos (starEach (e::es) X.env)).all (fun x=>!x.1) && (backToKw cpos (keywordEach [] X.env)).all (fun x=>x.1.isSome)
      && decide ((e::es).length+([]:List Keyword).length+(if ([]:List Keyword).isEmpty then 0 else 1) < 30))=true:=by rfl)
    (hline:(apos.endLine == cpos.line)=true:=by rfl) (hs:starEach (e::es) X.env=(false,eval e X.env)::starEach es X.env:=by rfl) (hplain:(backTo cpos (starEach es X.env)).any (·.1)=false:=by rfl) :
    PE X (.Call (.Attribute o name apos) (e::es) [] cpos) (dn X.K T r to t):=by
  intro pins s σ H Q I h;refine wpAny_Call_method_late hbase hfew hline rfl (Ah (ho pins s σ H _ I h) fun v s1 ⟨x,H1,I1,r1,ty,q1⟩=>?_);obtain ⟨h1,h2⟩:=Ri I1 r1 ty;refine ⟨T,id,pa,slot,hty,h1,h2,?_⟩;have hA:=ha cpos pins s1 σ H1 _ I1 q1;rw [hs] at hA ⊢;refine Calls.callWith_builtin (by show (false || (backTo cpos (starEach es X.env)).any (·.1))=false;rw [hplain]<;>rfl) (Calls.evalArgs_plain ?_);exact Ah hA fun us s2 ⟨vs,H2,I2,r2,q2⟩=>hm pins s2 σ H2 x vs v us Q I2 r1 r2 q2
end
def dO (X:Cx) (id:String) (r:V->List V->Hp->VK->Prop):Prop:=
 ∀ (pins:List (Addr×Obj)) (s:Shared) (σ:St) (H:Hp) (x:V) (xs:List V) (v:Value) (us:List Value) (Q:VK),Inv X pins σ H s->RelV x v->AD xs us->r x xs H Q ->
  wpAny (model X.prog X.w) X.A (call (.builtin id) (v::us)) (EP X pins σ Q) X.xe s
theorem AD.one:∀ {x:V} {us:List Value},AD [x] us->∃ u,us=[u]/\RelV x u
 := by
 intro x us h;cases h with | cons r t=>cases t;exact ⟨_,rfl,r⟩
theorem AD.two:∀ {x y:V} {us:List Value},AD [x,y] us->∃ u v,us=[u,v]/\RelV x u/\RelV y v
 := by
 intro x y us h;cases h with | cons r t=>cases t with | cons q t=>cases t;exact ⟨_,_,rfl,r,q⟩
theorem AD.zero:∀ {us:List Value},AD [] us->us=[]
 | _,.nil=>rfl
theorem AD.rep {xs:List V} {us:List Value} (h:AD xs us):∀ k:Nat,AD (List.replicate k xs).flatten (List.replicate k us).flatten
 | 0=>.nil
 | k+1=>by
  rw [mK,mK,lu,lu];exact AD.append h (AD.rep h k)
theorem foldl_rep (its:List Value):∀ (k:Nat) (acc:List Value),
    List.foldl (fun x1 x2=>x1++x2) acc.toArray (List.replicate k its.toArray)=(acc++(List.replicate k its).flatten).toArray
  | 0,acc=>by simp
  | k+1,acc=>by
    have e:acc.toArray++its.toArray=(acc++its).toArray:=by simp
    have e2:(acc++its)++(List.replicate k its).flatten=acc++(List.replicate (k+1) its).flatten:=by
      rw [mK,lu,lh]
    rw [<- e2,<- foldl_rep its k (acc++its),<- e,mK,nY]
section
variable {X:Cx} {pins:List (Addr×Obj)} {σ:St} {H:Hp} {s:Shared} {l b:Addr} {xs ys zs:List V}
theorem Inv.lset {its its':List Value} {n:Nat} {f:Array Value->Array Value} {t':Nat} (I:Inv X pins σ H s) (hH:H l=some (.lst xs))
    (e:s.heap.get? l=some { cls:=.type "list", data:=.seq its.toArray n }) (hf:f its.toArray=its'.toArray) (hv:AD ys its') (hz:ys.length<=sizeLine) :
    Inv X pins σ (upd H l (.lst ys)) { s with heap:=s.heap.update l (Obj.mapSeq f),toks:=t' }:=by
  have q:=PySem.IsL.update e f;rw [hf] at q;refine I.write (x:=l) (e:=l) (by rw [hH];exact trivial) (.inl rfl) (fun b' u hb hu=>(lj s.heap (Obj.mapSeq f) (Ne.symm hb)).trans hu) ⟨_,q⟩ ?_;exact ⟨hz,its',_,hv,q⟩
theorem Inv.lnew {its:List Value} {t':Nat} (I:Inv X pins σ H s) (hv:AD ys its) (hz:ys.length<=sizeLine) :
    Inv X pins σ (upd H s.heap.objs.size (.lst ys)) { s with heap:=s.heap.push { cls:=.type "list", data:=.seq its.toArray },toks:=t' }:=
  I.laid (fun _ _ q=>kY _ q) (kj _) ⟨hz,its,0,hv,kz _ rfl⟩
theorem Inv.fresh (I:Inv X pins σ H s):H s.heap.objs.size=none:=I.hok.fresh (kj _)
theorem Inv.lstM (I:Inv X pins σ H s) (hH:H l=some (.lst xs)):xs.length<=sizeLine/\∃ (its:List Value) (n:Nat),AD xs its/\xs.length=its.length/\s.heap.get? l=some { cls:=.type "list", data:=.seq its.toArray n }:=by
 obtain ⟨z,its,n,r,e⟩:=I.hok l _ hH;exact ⟨z,its,n,r,r.length,e⟩
theorem HC {n:Nat} (h:n<=sizeLine):Builtin.List.listTooLong n=false:=by
 unfold Builtin.List.listTooLong;exact decide_eq_false (by omega)
end
section
variable {X:Cx}
def OM:V->List V->Hp->VK->Prop:=fun x vs H Q=>∃ l xs y,x=.ref l/\vs=[y]/\H l=some (.lst xs)/\xs.length < sizeLine/\Q .non (upd H l (.lst (xs++[y])))
theorem QN:dO X "list.append" OM:=by
 intro pins s σ H x vs v us Q I rx rv h;obtain ⟨l,xs,y,rfl,rfl,hH,hz,q⟩:=h;cases rx;obtain ⟨u,rfl,ru⟩:=rv.one;obtain ⟨z,its,n,r,hl,e⟩:=I.lstM hH;refine call_meets F.slot_list_append ⟨_,e,rfl⟩ F.entry_list_append (F.args_list_append_2 _ _) (PySem.list_append l its.toArray n u (by rw [kc];omega)) ⟨e,?_⟩;refine ⟨.non,_,I.lset (its':=its++[u]) hH e (by simp) (r.append (.cons ru .nil)) ?_,rfl,q⟩;rw [lJ,lQ];omega
def OL:V->List V->Hp->VK->Prop:=fun x vs H Q=>∃ l b xs zs,x=.ref l/\vs=[.ref b]/\H l=some (.lst xs)/\H b=some (.lst zs)/\xs.length+zs.length<=sizeLine/\Q .non (upd H l (.lst (xs++zs)))
theorem QM:dO X "list.extend" OL:=by
 intro pins s σ H x vs v us Q I rx rv h;obtain ⟨l,b,xs,zs,rfl,rfl,hH,hB,hz,q⟩:=h;cases rx;obtain ⟨u,rfl,ru⟩:=rv.one;cases ru;obtain ⟨z,its,n,r,hl,e⟩:=I.lstM hH;obtain ⟨z2,its2,n2,r2,hl2,e2⟩:=I.lstM hB;have hsz:its.toArray.size+its2.toArray.size<=sizeLine:=by rw [kc,kc];omega
 have hlong:¬ (!its.toArray.isEmpty && Builtin.List.listTooLong (its.toArray.size+its2.toArray.size))=true:=by
  rw [HC hsz,nG];exact kr
 refine call_meets F.slot_list_extend ⟨_,e,rfl⟩ F.entry_list_extend (F.args_list_extend_2 _ _)
  (AutoSeq1.list_extend_list_list_0 l its.toArray n b its2.toArray n2 hlong (by rw [kc];omega) (by omega)) ⟨e,e2,?_⟩
 refine ⟨.non,_,I.lset (its':=its++its2) hH e (by simp) (r.append r2) ?_,rfl,q⟩;rw [lJ];omega
def fB:R2:=fun x y H Q=>∃ l b xs zs,x=.ref l/\y=.ref b/\H l=some (.lst xs)/\H b=some (.lst zs)/\xs.length+zs.length<=sizeLine/\∀ p,H p=none->Q (.ref p) (upd H p (.lst (xs++zs)))
theorem bF:Br X (binaryOp .Add) fB:=by
 intro pins s σ H x y v u Q I rx ry h;obtain ⟨l,b,xs,zs,rfl,rfl,hH,hB,hz,q⟩:=h;cases rx;cases ry;obtain ⟨z,its,n,r,hl,e⟩:=I.lstM hH;obtain ⟨z2,its2,n2,r2,hl2,e2⟩:=I.lstM hB;refine PySem.P.add_list e e2 ?_ (by rw [kc,kc];omega);have ea:its.toArray++its2.toArray=(its++its2).toArray:=by simp
 rw [ea];exact ⟨.ref _,_,I.lnew (t':=s.toks) (r.append r2) (by rw [lJ];omega),rfl,q _ I.fresh⟩
def eY:R2:=fun x y H Q=>∃ l k xs,x=.ref l/\y=.int k/\H l=some (.lst xs)/\-(2 ^ 63)<=k/\k < 2 ^ 63/\xs.length * k.toNat<=sizeLine /\
 ∀ p,H p=none->Q (.ref p) (upd H p (.lst (List.replicate k.toNat xs).flatten))
theorem len_rep {α:Type} (xs:List α) (k:Nat):(List.replicate k xs).flatten.length=k * xs.length:=by
 induction k with
 | zero=>simp
 | succ k ih=>rw [mK,lu,lJ,ih,mx,mz]
theorem av:Br X (binaryOp .Mult) eY:=by
 intro pins s σ H x y v u Q I rx ry h;obtain ⟨l,k,xs,rfl,rfl,hH,h1,h2,hz,q⟩:=h;cases rx;obtain ⟨t,rfl⟩:=ry;obtain ⟨z,its,n,r,hl,e⟩:=I.lstM hH;have hlen:its.toArray.size * k.toNat<=sizeLine:=by rw [kc,<- hl];exact hz
 have hcap:¬ its.toArray.size * k.toNat > (2 ^ 63 - 1) / 8:=by
  have:(sizeLine:Nat)<=(2 ^ 63 - 1) / 8:=by decide
  omega
 have hfit:¬ (!Builtin.List.listFitsIndex k)=true:=by
  rw [fitsIndex_both h1 h2];exact kr
 have hlong:¬ Builtin.List.listTooLong (its.toArray.size * k.toNat)=true:=by
  rw [HC hlen];exact kr
 have hnew:List.foldl (fun x1 x2=>x1++x2) #[] (List.replicate (if its.toArray.isEmpty=true then 0 else k.toNat) its.toArray)=(List.replicate k.toNat its).flatten.toArray:=by
  have f0:∀ m:Nat,List.foldl (fun x1 x2=>x1++x2) #[] (List.replicate m its.toArray)=(List.replicate m its).flatten.toArray:=fun m=>by
   have:=foldl_rep its m [];rw [mV] at this;exact this
  rw [f0];cases its with
  | nil=>simp
  | cons a r'=>rw [if_neg (by simp)]
 refine wpAny_binaryOp_repeat_ref (T := "list") (U := "int") (by decide) ⟨_,e,rfl⟩ (fun s'=>typeIs_int s' k t) noFill_list_mul F.fills_int_mul F.slot_int_rmul repeat_list F.slot_int_index.lookup
  (call_meets F.slot_int_rmul (typeIs_int s k t) F.entry_int_rmul (F.args_int_rmul_2 _ _) (int___rmul___int_list k t l its.toArray n)
   ⟨e,rfl,⟨_,e,rfl⟩,call_meets F.slot_list_mul ⟨_,e,rfl⟩ F.entry_list_mul (F.args_list_mul_2 _ _) (AutoListH.list___mul___list_int_3 l its.toArray n k t hfit hcap hlong) ⟨e,?_⟩⟩)
 rw [hnew];exact ⟨.ref _,_,I.lnew (t':=s.toks) (r.rep k.toNat) (by rw [len_rep,Nat.mul_comm];exact hz),rfl,q _ I.fresh⟩
end
section
end
section
end
end L2
namespace Att
open PySem PySem.W PySem.Calls PyProof.Rows
theorem GD {P:Params} {h:Heap}:∀ (ns:List Int) (vs:List Value),WellAll P h vs (ns.map WData.int)->IntsAre vs ns:=by
 intro ns
 induction ns with
 | nil =>
  intro vs w;rw [mZ] at w;cases w;exact .nil
 | cons n ns ih =>
  intro vs w;rw [ko] at w;cases w with
  | cons a b =>
   cases a;exact .cons _ _ (ih _ b)
theorem Pp {l:OpenLaw} {n:Nat} (hn:l.most=some n) {P:Params} {h:Heap} {args:List WData} {vals:List Value}
    (hpre:l.row.toRowW.claim.pre args=true) (hwl:WellAll P h vals args) :
    ∃ a vs ns,vals=[Value.ref a]/\args=[WData.list (ns.map WData.int)]/\h.get? a=some { cls:=.type "list", data:=.seq vs.toArray }/\IntsAre vs ns/\ns.length<=n:=by
  have hsh:WShape.hasAll [] args [.list .int]=true:=(pre_splitW hpre).1;have hc:l.pre.holds [] { args:=args }=true:=(pre_splitW hpre).2;obtain ⟨d,r,rfl,h1,h2⟩:=hasAllW_cons hsh;obtain rfl:=hasAllW_nil h2;obtain ⟨xs,rfl,h3⟩:=hasW_list h1;obtain ⟨ns,rfl⟩:=items_int h3;have hlen:ns.length<=n:=by
    unfold OpenLaw.pre at hc;have h4:(WTm.not (.lt (.lit (.int (n:Int))) (.len (.arg 0)))).holds [] { args:=[.list (ns.map .int)] }=true:=by
      have h4:=(holds_andW hc).1;rw [hn] at h4;exact h4
    have h5:=condW_of h4 (w_not (w_lt w_lit (w_len_list (w_arg rfl))));rw [kb] at h5;refine Nat.le_of_not_lt fun q=>?_
    have q':(n:Int) < ((ns.length:Nat):Int):=by omega
    first
      | (rw [decide_eq_true q'] at h5;exact absurd h5 (by decide))
      | (simp at h5;omega)
  cases hwl with
  | cons w1 w2 =>
    cases w2;cases w1 with
    | list ho hall=>exact ⟨_,_,ns,rfl,rfl,ho,GD ns _ hall,hlen⟩
theorem QA (l:OpenLaw) (args:List WData):l.row.toRowW.claim.post args (.bool true) args=true:=
 postW_of (r:=l.row.toRowW) (X:=(true == true))
  (show WShape.has [] (.bool true) .bool=true by first | rfl | decide | simp [WShape.has,WShape.arms,WShape.armsAll])
  (show (WTm.eq .res (.lit (.bool true))).value [] { args:=args,res:=some (.bool true),after:=args }=some (.bool (true == true)) from w_eq_bool (w_res rfl) w_lit) rfl
theorem attach_call {l:OpenLaw} {n:Nat} {q:Program} {loose:List Str} {XP:(Str->Option Value)->Heap->Prop} {YP:World->Heap->Prop} {d:DefRec}
    (hn:l.most=some n) (hdf:d.params.defaults=[])
    (call:∀ (w:World) (s₀ s₁:Shared) (mg mb:Str->Option Value) (fa:Addr) (o:Obj) (pm cd doc:Value) (a:Addr) (vs:List Value) (ns:List Int),
      Ground q loose [] XP w s₀ mg mb s₁.heap->YP w s₁.heap ->
      s₁.heap.get? fa=some o->o.data=.func (docDef d.name d.params d.body d.scope pm cd doc)->s₁.heap.CodeRec cd d.name->mg d.name=some (.ref fa) ->
      s₁.heap.get? a=some { cls:=.type "list", data:=.seq vs.toArray }->IntsAre vs ns->ns.length<=n->s₁.gens=#[] ->
      codeAny (model l.prog w) callerA (.call (.ref fa) ⟨[.ref a],[]⟩) (fun r s'=>r=.ok (.ret (.bool true))/\OldK s₁.heap s'.heap/\s'.os=s₁.os/\AllBare s'.gens) s₁) :
    WalkO q loose XP YP l.row.toRowW d [] (fun f vs=>PySem.call f vs):=by
  intro w s₀ s₁ mg mb G Y fa o pm cd doc dV kV ho hd hcd hD hmg hg args vals as hpre hlay hrd hwl hlo;obtain rfl:dV=.none:=Dflts.none hD hdf;obtain rfl:kV=.none:=Dflts.noKw hD;obtain ⟨a,vs,ns,rfl,rfl,hobj,hints,hlen⟩:=Pp hn hpre hwl;refine enter_call (codeAny_mono (call w s₀ s₁ mg mb fa o pm cd doc a vs ns G Y ho (fd_plain hd) hcd hmg hobj hints hlen hg) fun r s' hq=>?_);obtain ⟨rfl,h2,h3,h4⟩:=hq;exact ⟨.inl ⟨.bool true,.bool true,[],rfl,fun _=>rfl,.bool true,QA l _,fun _=>⟨List.Pairwise.nil,fun _ hm=>(nomatch hm)⟩⟩,h2,h3,h4⟩
section
end
end Att
namespace L2
open PySem PySem.Spec PyProof.Rows
theorem IX:∀ {vs:List Value} {ns:List Int},IntsAre vs ns->AD (ns.map V.int) vs
 | _,_,.nil=>.nil
 | _,_,.cons n t h=>.cons ⟨t,rfl⟩ (IX h)
def YQ (H:Hp):Prop:=∀ b,H b=none\/∃ o xs,H b=some (.frz o (.lst xs))
theorem Th {P:Program} {w:World} {K:W.Frag} {mg mb:Str->Option Value} {CX:Vi} {k:Nat} {fa a:Addr} {fd:FuncData} {x:Str} {sp:Sp} {s₁:Shared} {vs:List Value} {ns:List Int}
    (KX:K.In s₁.heap) (hns:s₁.heap.Ns mainGlobals mg) (hb:s₁.heap.Ns builtinsNs mb) (hbb:∀ x:Str,x ≠ "__name__" -> mb x=bootBuiltins x) (hlim:s₁.heap.NoLimit) (hg:s₁.gens=#[])
    (ha:s₁.heap.get? a=some { cls:=.type "list", data:=.seq vs.toArray }) (hi:IntsAre vs ns) (hl:ns.length<=sizeLine) (hr:Room k callerA)
    (F:∀ base:Heap,K.In base->base.Ns mainGlobals mg->FnOk P w K mg base CX k fa fd [x] sp) (hbind:∀ (s:Shared) (u:Value),BindsTo s fd ⟨[u],[]⟩ [(x,u)])
    (hsp:∀ H:Hp,YQ H->CZ K H a (ns.map V.int)->sp [.ref a] H (fun v _=>v=.bl true) fun _ _ _=>False)
    (hCX:∀ H e s',CX [] H s₁ (fun _ _ _=>False) e s'->False) :
    codeAny (model P w) callerA (.call (.ref fa) ⟨[.ref a],[]⟩) (fun r s'=>r=.ok (.ret (.bool true))/\OldK s₁.heap s'.heap/\s'.os=s₁.os/\AllBare s'.gens) s₁:=by
  have rv:=IX hi;have lenV:=hi.length
  -- from an abstract heap in which nothing but the script may be tracked
  have core:∀ H:Hp,YQ H->CZ K H a (ns.map V.int)->EO P w H s₁.heap->(∀ b,H b≠none->b=a)->(H a≠none->K.lookup a=none) ->
      codeAny (model P w) callerA (.call (.ref fa) ⟨[.ref a],[]⟩) (fun r s'=>r=.ok (.ret (.bool true))/\OldK s₁.heap s'.heap/\s'.os=s₁.os/\AllBare s'.gens) s₁:=by
    intro H hO hS hok hA hK;have Em:∀ {b:Addr} {o:Obj},s₁.heap.get? b=some o->H b=none->(Jv s₁.heap H).get? b=some o:=fun e n=>Tq e n
    have noA:∀ {b:Addr} {o:Obj} {es:Array DictEntry} {ep:Nat},s₁.heap.get? b=some o->o.data=.dict es ep->H b=none:=fun {b o es ep} e d=>by
      cases q:H b with
      | none=>rfl
      | some u =>
        have e':b=a:=hA b (by rw [q];simp);subst e';rw [ha] at e;cases e;have d':Data.seq vs.toArray _=Data.dict es ep:=d;cases d'
    have nsK:∀ {b:Addr} {m:Str->Option Value},s₁.heap.Ns b m->(Jv s₁.heap H).Ns b m:=fun {b m} ⟨o,es,ep,e,d,r⟩=>⟨o,es,ep,Em e (noA e d),d,r⟩
    have hKb:K.In (Jv s₁.heap H):=fun b o e=>Em (KX b o e) (by
      cases q:H b with
      | none=>rfl
      | some u =>
        have e':b=a:=hA b (by rw [q];simp);subst e';rw [hK (by rw [q];simp)] at e;cases e)
    have hM:Mod K mg (Jv s₁.heap H):=⟨hKb,nsK hns,⟨mb,nsK hb,hbb⟩,let ⟨mc,h1,h2⟩:=hlim;⟨mc,nsK h1,h2⟩⟩;have e0:Env0 P w K mg (Jv s₁.heap H) callerA [] s₁ H:=⟨rfl,hM,fun b o e=>Ww e,Nat.le_of_eq (Qd _ _),trivial,fun b hb=>absurd (show b∈([]:List Addr) from hb) (by simp),hok,.of_eq hg⟩;refine codeAny_mono ((F _ hKb (nsK hns)).run callerA [] s₁ H ⟨[.ref a],[]⟩ [.ref a] [.ref a] _ _ hr e0 (hbind s₁ (.ref a)) (.cons rfl .nil) (hsp H hO hS)) fun r s' h=>?_
    cases r with
    | error e=>exact (hCX H e s' h).elim
    | ok fl =>
      cases fl with
      | next=>exact False.elim h
      | brk=>exact False.elim h
      | cont=>exact False.elim h
      | ret u =>
        obtain ⟨v,H',os,bare,un,hok',r',q⟩:=h;have q':v=.bl true:=q;subst q';obtain rfl:u=Value.bool true:=r';refine ⟨rfl,OldK.of_keep fun b o e=>?_,os,bare⟩;cases q:H b with
        | none=>exact un.keep b o e q (by intro z;exact absurd (show b∈([]:List Addr) from z) (by simp)) (by simp)
        | some u =>
          rcases hO b with z | ⟨ob,xs,z⟩
          · rw [q] at z;cases z
          · have z2:=un.frzs b ob _ z;obtain ⟨e1,_⟩:=hok b _ z;obtain ⟨e2,_⟩:=hok' b _ z2;rw [e] at e1;cases e1;exact e2
  cases hk:K.lookup a with
  | some o =>
    -- the script is one of the module's own objects
    have e:=KX a o hk;rw [ha] at e;cases e;refine core (fun _=>none) (fun _=>.inl rfl) (.inr ⟨_,vs.toArray,_,hk,rfl,rfl,rfl,by rw [kc,lenV];exact hl,by simpa using rv⟩) (fun b u z=>by have z':(none:Option HO)=some u:=z;cases z') (fun b z=>absurd rfl z) fun z=>absurd rfl z
  | none =>
    refine core (fun b=>if b=a then some (.frz { cls:=.type "list", data:=.seq vs.toArray } (.lst (ns.map V.int))) else none) (fun b=>?_) (.inl (.inr ⟨{ cls:=.type "list", data:=.seq vs.toArray },if_pos rfl⟩)) (fun b u z=>?_) (fun b z=>?_) fun _=>hk
    · by_cases hb:b=a
      · exact .inr ⟨_,_,if_pos hb⟩
      · exact .inl (if_neg hb)
    · by_cases hb:b=a
      · have z':=(if_pos hb).symm.trans z;cases z';subst hb;exact ⟨ha,by rw [kb];exact hl,vs,_,rv,ha⟩
      · have z':=(if_neg hb).symm.trans z;cases z'
    · by_cases hb:b=a
      · exact hb
      · exact absurd (if_neg hb) z
theorem walk_of {l:W.OpenLaw} {n k:Nat} {q:Program} {loose:List Str} {XP:(Str->Option Value)->Heap->Prop} {YP:World->Heap->Prop} {d:DefRec} {K:Params->W.Frag} {CX:World->Vi} {sp:World->Sp} {x:Str}
    (hn:l.most=some n) (hn2:n<=sizeLine) (hdf:d.params.defaults=[]) (hr:Room k callerA)
    (hY:∀ (w:World) (h:Heap),YP w h->(K w.params).In h)
    (F:∀ (w:World) (mg:Str->Option Value) (fa:Addr) (h:Heap),(K w.params).In h->h.Ns mainGlobals mg->mg d.name=some (.ref fa) ->
      ∃ fd:FuncData,(∀ (s:Shared) (u:Value),BindsTo s fd ⟨[u],[]⟩ [(x,u)]) /\
        ∀ base:Heap,(K w.params).In base->base.Ns mainGlobals mg->FnOk l.prog w (K w.params) mg base (CX w) k fa fd [x] (sp w))
    (hsp:∀ (w:World) (H:Hp) (a:Addr) (ns:List Int),ns.length<=n->YQ H->CZ (K w.params) H a (ns.map V.int)->sp w [.ref a] H (fun v _=>v=.bl true) fun _ _ _=>False)
    (hCX:∀ (w:World) (H:Hp) (s:Shared) (e:Value) (s':Shared),CX w [] H s (fun _ _ _=>False) e s'->False) :
    W.WalkO q loose XP YP l.row.toRowW d [] (fun f vs=>PySem.call f vs):=by
  refine Att.attach_call hn hdf fun w s₀ s₁ mg mb fa o pm cd doc a vs ns G Y ho hd hcd hmg hobj hints hlen hg=>?_
  have KX:=hY w _ Y;obtain ⟨fd,hb,hF⟩:=F w mg fa _ KX G.T.g hmg;exact Th KX G.T.g G.T.b G.T.builtins G.T.nolimit hg hobj hints (lI hlen hn2) hr hF hb (fun H hO hS=>hsp w H a ns hlen hO hS) fun H e s'=>hCX w H s₁ e s'
noncomputable def Am (s:Stmt):Arguments:=match s with
 | .FunctionDef _ a _ _ _ _ _ _ _ _=>a
 | _=>{ posonlyargs:=[],args:=[],vararg:=none,kwonlyargs:=[],kw_defaults:=[],kwarg:=none,defaults:=[] }
noncomputable def AW (s:Stmt):List Stmt:=match s with
 | .FunctionDef _ _ b _ _ _ _ _ _ _=>b
 | _=>[]
noncomputable def AG (s:Stmt):Scope:=match s with
 | .FunctionDef _ _ _ _ _ _ sc _ _ _=>sc
 | _=>{ kind:=.function,names:=[],isGenerator:=false,isCoroutine:=false }
abbrev RV:Vi:=fun _ _ _ _ _ _=>False
abbrev E0:XK:=fun _ _ _=>False
theorem Yr {X:Cx}:KM RV X E0:=fun _ _ _ _ _ _ _ h=>h.elim
structure Fun (K:W.Frag) (x qual:Str) (st:Stmt) (f:Addr) (fd:FuncData):Prop where
 ex:∃ (oc:Value) (od:Option Addr) (kV doc pm:Value) (an:Option Addr) (cdv ct:Value) (osl:Array (Option Value)),
  fd=W.fnOf x qual (Am st) (AW st) (AG st) .none kV doc pm an cdv ct/\K.lookup f=some ⟨oc,od,.func fd,osl⟩/\W.codeIn K cdv qual=true
 kp:W.keepIn K (.ref f)=true
section
variable {P:Program} {w:World} {K:W.Frag} {mg:Str->Option Value} {base:Heap}
theorem Fun.ok {x qual:Str} {st:Stmt} {f:Addr} {fd:FuncData} {N ps:List Str} {k:Nat} {sp:Sp} (F:Fun K x qual st f fd) (S:FnScope N ps (AG st)) (len:∀ vs H Q E,sp vs H Q E->vs.length=ps.length)
    (hbody:∀ (cdv:Value) (A:Around) (outer:List Env) (s:Shared) (H:Hp) (vs:List V) (Q:VK) (E:XK),Room k (A.deeper (envOfC qual (AG st) s.heap.objs.size f cdv))->sp vs H Q E ->
      ∃ t,DJ (Lm RV P w K mg base N qual (AG st) f cdv A outer s H E).nox (AW st) t/\t { nx:=fun _ H'=>Q .non H',rt:=Q } (start N vs) H):FnOk P w K mg base RV (k+1) f fd ps sp:=by
  obtain ⟨oc,od,kV,doc,pm,an,cdv,ct,osl,rfl,lk,hcd⟩:=F.ex;refine gA lk hcd S len fun A outer s H vs Q E hr hsp=>?_
  obtain ⟨t,h,q⟩:=hbody cdv A outer s H vs Q E hr hsp;exact ⟨t,h.nox,q⟩
theorem Fun.binds {x qual:Str} {st:Stmt} {f:Addr} {fd:FuncData} {ps:List Str} (F:Fun K x qual st f fd)
    (h:∀ (kV doc pm:Value) (an:Option Addr) (cdv ct:Value) (us:List Value),us.length=ps.length->bindArgs (W.fnOf x qual (Am st) (AW st) (AG st) .none kV doc pm an cdv ct) ⟨us,[]⟩=pure (ps.zip us)):Binds K fd ps []:=by
  obtain ⟨oc,od,kV,doc,pm,an,cdv,ct,osl,rfl,lk,hcd⟩:=F.ex;exact .all (h kV doc pm an cdv ct)
theorem bf {x qual:Str} {st:Stmt} {f:Addr} {oc:Value} {od an:Option Addr} {osl:Array (Option Value)} {kV doc pm cdv ct:Value} (l:K.lookup f=some ⟨oc,od,.func (W.fnOf x qual (Am st) (AW st) (AG st) .none kV doc pm an cdv ct),osl⟩)
    (c:W.codeIn K cdv qual=true) (k:W.keepIn K (.ref f)=true):Fun K x qual st f (W.fnOf x qual (Am st) (AW st) (AG st) .none kV doc pm an cdv ct):=⟨⟨oc,od,kV,doc,pm,an,cdv,ct,osl,rfl,l,c⟩,k⟩
end
section
end
def Nn (H H':Hp):Prop:=∀ b o,H b=some o->H' b=some o
noncomputable def AM (sc:Scope) (x:Str):Bool:=match sc.names.lookup x with | some .cell=>true | _=>false
def Cx.inner (X:Cx) (scope:Scope) (cl:List (Str×Addr)) (C:Addr) (s:Shared) (H:Hp) (fp:List Addr):Cx:=
 { X with s₀:=s,H₀:=H,env:=compEnvC scope cl C X.env,outer:=X.stack,ex:=fp,fn:=AM scope,xe:=fun _ _=>False }
theorem Ae {scope:Scope} {env:Env} {x:Str}:∀ {names:List (Str×NameKind)}, 
    ((names.map fun (n,k)=>if (k == NameKind.free && env.scope.kind == .function && env.kindOf n == some .cell) then (n,NameKind.cell) else (n,k)).lookup x=some .cell \/
     (names.map fun (n,k)=>if (k == NameKind.free && env.scope.kind == .function && env.kindOf n == some .cell) then (n,NameKind.cell) else (n,k)).lookup x=some .free) ->
    names.lookup x=some .cell\/names.lookup x=some .free
  | [],h=>by simp at h
  | (n,k)::r,h=>by
    have ih:=@Ae scope env x r;cases hx:x == n with
    | true =>
      simp only [ko,lg] at h ⊢
      by_cases hc:(k == NameKind.free && env.scope.kind == .function && env.kindOf n == some .cell)=true
      · have hk:k=.free:=by
          simp only [kX,beq_iff_eq] at hc;exact hc.1.1
        right;simp [hx,hk]
      · rw [if_neg hc] at h;simp only [lg,hx] at h ⊢;exact h
    | false =>
      simp only [ko,lg] at h ⊢
      by_cases hc:(k == NameKind.free && env.scope.kind == .function && env.kindOf n == some .cell)=true
      · rw [if_pos hc] at h;simp only [lg,hx] at h ⊢;exact ih h
      · rw [if_neg hc] at h;simp only [lg,hx] at h ⊢;exact ih h
theorem Ca {env:Env} {x:Str}:∀ {names:List (Str×NameKind)}, 
    (names.map fun (n,k)=>if (k == NameKind.free && env.scope.kind == .function && env.kindOf n == some .cell) then (n,NameKind.cell) else (n,k)).lookup x=some .local ->
    names.lookup x=some .local
  | [],h=>by simp at h
  | (n,k)::r,h=>by
    have ih:=@Ca env x r;cases hx:x == n with
    | true =>
      simp only [ko,lg] at h ⊢
      by_cases hc:(k == NameKind.free && env.scope.kind == .function && env.kindOf n == some .cell)=true
      · rw [if_pos hc] at h;simp only [lg,hx] at h;cases h
      · rw [if_neg hc] at h;simp only [lg,hx] at h ⊢;exact h
    | false =>
      simp only [ko,lg] at h ⊢
      by_cases hc:(k == NameKind.free && env.scope.kind == .function && env.kindOf n == some .cell)=true
      · rw [if_pos hc] at h;simp only [lg,hx] at h ⊢;exact ih h
      · rw [if_neg hc] at h;simp only [lg,hx] at h ⊢;exact ih h
theorem Ha {scope:Scope} {env:Env} (hhas:∀ x,scope.names.lookup x=some .free->∃ c,env.cells.lookup x=some c) (hnd:∀ x k,(x,k)∈scope.names->k=.free->scope.names.lookup x=some .free) :
    ∃ cl,closureFor scope env=pure cl/\(∀ x c,cl.lookup x=some c->env.cells.lookup x=some c)/\∀ x,scope.names.lookup x=some .free->∃ c,cl.lookup x=some c:=by
  have go:∀ (names:List (Str×NameKind)) (cs:List (Str×Addr)),(∀ x k,(x,k)∈names->k=.free->∃ c,env.cells.lookup x=some c)->(∀ x c,cs.lookup x=some c->env.cells.lookup x=some c) ->
      ∃ cl,(forIn names cs (fun (x:Str×NameKind) (r:List (Str×Addr))=>(if (x.2 == NameKind.free)=true then (cellOf env x.1 >>= fun c=>(pure (ForInStep.yield ((x.1,c)::r)):Sem _)) else pure (ForInStep.yield r))))=(pure cl:Sem _) /\
        (∀ x c,cl.lookup x=some c->env.cells.lookup x=some c)/\(∀ x,(cs.lookup x).isSome=true->(cl.lookup x).isSome=true)/\∀ x,(x,NameKind.free)∈names->(cl.lookup x).isSome=true:=by
    intro names
    induction names with
    | nil=>intro cs _ h2;exact ⟨cs,by simp,h2,fun _ z=>z,fun _ z=>by simp at z⟩
    | cons p r ih =>
      intro cs h1 h2;obtain ⟨n,k⟩:=p
      by_cases hk:k=.free
      · subst hk;obtain ⟨c,hc⟩:=h1 n _ kg rfl;have hcell:cellOf env n=pure c:=by unfold cellOf;rw [hc]
        obtain ⟨cl,e,a,b,d⟩:=ih ((n,c)::cs) (fun x k hx hk=>h1 x k (kh _ hx) hk) (fun x c' hx=>by
          rw [lg] at hx;cases hxn:x == n with
          | true => rw [hxn] at hx; simp at hx; subst hx; have : x = n := by simpa using hxn
                    rw [this];exact hc
          | false=>rw [hxn] at hx;exact h2 x c' hx)
        refine ⟨cl,?_,a,fun x hx=>b x ?_,fun x hx=>?_⟩
        · rw [nB];simp only [hcell];simpa using e
        · rw [lg];cases hxn:x == n with
          | true=>rfl
          | false=>exact hx
        · rcases km.mp hx with z | z
          · injection z with z1 _
            subst z1;exact b x (by rw [lg];simp)
          · exact d x z
      · have hb:(k == NameKind.free)=false:=by simpa using hk
        obtain ⟨cl,e,a,b,d⟩:=ih cs (fun x k hx hk=>h1 x k (kh _ hx) hk) h2;refine ⟨cl,?_,a,b,fun x hx=>?_⟩
        · rw [nB];simp only [hb];simpa using e
        · rcases km.mp hx with z | z
          · injection z with _ z2
            exact absurd z2.symm hk
          · exact d x z
  obtain ⟨cl,e,a,_,d⟩:=go scope.names [] (fun x k hx hk=>hhas x (hnd x k hx hk)) (fun x c h=>by simp at h);refine ⟨cl,?_,a,fun x hx=>mU.mp (d x (lW hx))⟩;unfold closureFor;simpa using e
theorem Aj:∀ (names:List (Str×NameKind)) (n:Nat) (acc:List (Str×Addr)),cellsFrom n names acc=cellsFrom n names []++acc
 | [],n,acc=>by simp [cellsFrom]
 | (x,k)::r,n,acc=>by
  unfold cellsFrom;split
  ·rw [Aj r (n+1) ((x,n)::acc),Aj r (n+1) [(x,n)],lh];rfl
  ·exact Aj r n acc
theorem Cd {x:Str} {c:Addr}:∀ (names:List (Str×NameKind)) (n:Nat),(x,c)∈cellsFrom n names []->(x,NameKind.cell)∈names
 | [],n,h=>by simp [cellsFrom] at h
 | (y,k)::r,n,h=>by
  unfold cellsFrom at h;split at h
  ·rename_i hk;have hk:k=.cell:=by simpa using hk
   rw [Aj] at h;rcases lK.mp h with h | h
   ·exact kh _ (Cd r _ h)
   ·rw [la] at h;cases h;rw [hk];exact kg
  ·exact kh _ (Cd r _ h)
theorem Ce {x:Str}:∀ (names:List (Str×NameKind)) (n:Nat),(x,NameKind.cell)∈names->∃ c,(cellsFrom n names []).lookup x=some c
 | [],n,h=>by cases h
 | (y,k)::r,n,h=>by
  unfold cellsFrom
  by_cases hr:(x,NameKind.cell)∈r
  ·split
   ·rw [Aj];obtain ⟨c,e⟩:=Ce r (n+1) hr;exact ⟨c,by rw [mS,e];rfl⟩
   ·exact Ce r n hr
  ·rcases km.mp h with e | e
   ·cases e;simp only [beq_self_eq_true,if_true];rw [Aj];cases q:(cellsFrom (n+1) r []).lookup x with
    | some c=>exact ⟨c,by rw [mS,q];rfl⟩
    | none=>exact ⟨n,by rw [mS,q];simp⟩
   ·exact absurd e hr
theorem Bt {M:Model} {A:Around} {E:Value->Shared->Prop} {s:Shared} {scope:Scope} {globals:Addr} {closure:List (Str×Addr)} {qual:Str} {outer:Env} {Q:Env->Shared->Prop}
    (hQ:Q { scope:=scope,locals:=s.heap.objs.size,globals:=globals,cells:=cellsFrom (s.heap.objs.size+1) scope.names closure,qual:=qual,func:=none,code:=outer.code,frame:=outer.frame,builtins:=outer.builtins } { s with heap:=pushCells (s.heap.push { cls:=.type "dict", data:=.dict #[] }) scope.names }) :
    wpAny M A (newFunctionEnv scope globals closure [] qual none .none (some outer)) Q E s:=by
  simp only [newFunctionEnv,Option.isSome_some,if_true];refine wpAny_bind (wpAny_alloc ?_);refine wpAny_bind (wpAny_layCells _ (fun name kind cells=>by cases hkc:kind == NameKind.cell<;>simp [hkc]) _ _ _ _ ?_)
  rw [show ({ s with heap:=s.heap.push { cls:=.type "dict", data:=.dict #[] } }:Shared).heap.objs.size=s.heap.objs.size+1 from mE ..]
  rw [nh];exact wpAny_bind (wpAny_pure (wpAny_pure hQ))
noncomputable def innerOk (N:List Str) (sc scope:Scope) (js:List Nat):Bool:=
 (match scope.kind with | .function=>true | _=>false) &&
 scope.names.all (fun p=>(match p.2 with
  | .cell=>(match scope.names.lookup p.1 with | some .cell=>true | _=>false)
  | .local=>(match scope.names.lookup p.1 with | some .local=>true | _=>false)
  | .free=>(match scope.names.lookup p.1 with | some .free=>true | _=>false) && (match sc.names.lookup p.1 with | some .cell=>true | some .free=>true | _=>false)
  | _=>true)) &&
 (N.zipIdx.all fun p=>(match scope.names.lookup p.1 with | some .local=>js.contains p.2 | some .cell=>js.contains p.2 | _=>true))
structure InnerIn (N:List Str) (sc scope:Scope) (js:List Nat):Prop where
 kind:scope.kind=.function
 uniqC:∀ x k,(x,k)∈scope.names->k=.cell->scope.names.lookup x=some .cell
 uniqL:∀ y∈scope.names,y.2=.local->scope.names.lookup y.1=some .local
 uniqF:∀ x k,(x,k)∈scope.names->k=.free->scope.names.lookup x=some .free
 fr:∀ x,scope.names.lookup x=some .free->sc.names.lookup x=some .cell\/sc.names.lookup x=some .free
 jsl:∀ (i:Nat) x,N[i]?=some x->scope.names.lookup x=some .local\/scope.names.lookup x=some .cell->i∈js
theorem HP {N:List Str} {sc scope:Scope} {js:List Nat} (h:innerOk N sc scope js=true):InnerIn N sc scope js:=by
  unfold innerOk at h;rw [kX,kX] at h;obtain ⟨⟨h1,h2⟩,h3⟩:=h;rw [lO] at h2 h3;refine ⟨?_,fun x k hy e=>?_,fun y hy e=>?_,fun x k hy e=>?_,fun x e=>?_,fun i x e1 e2=>?_⟩
  · cases q:scope.kind<;>rw [q] at h1<;>first | rfl | cases h1
  · have:=h2 _ hy;rw [e] at this;dsimp only at this;split at this
    · assumption
    · cases this
  · have:=h2 y hy;rw [e] at this;dsimp only at this;split at this
    · assumption
    · cases this
  · have:=h2 _ hy;rw [e] at this;dsimp only at this;rw [kX] at this;have:=this.1;split at this
    · assumption
    · cases this
  · have:=h2 _ (lW e);dsimp only at this;rw [kX] at this;have:=this.2;split at this
    · left;assumption
    · right;assumption
    · cases this
  · have hm:(x,i)∈N.zipIdx:=by
      rw [List.mem_zipIdx_iff_getElem?];exact e1
    have:=h3 _ hm;dsimp only at this;rcases e2 with e2 | e2
    · rw [e2] at this;dsimp only at this;simpa using this
    · rw [e2] at this;dsimp only at this;simpa using this
def blank (js:List Nat) (σ:St):St:=js.foldl (fun σ j=>σ.set j none) σ
theorem blank_length (js:List Nat):∀ σ:St,(blank js σ).length=σ.length:=by
 induction js with
 | nil=>intro σ;rfl
 | cons j r ih=>intro σ;unfold blank;rw [nY];have:=ih (σ.set j none);unfold blank at this;rw [this,lM]
theorem Fj (js:List Nat):∀ (σ:St) (i:Nat) (v:V),(blank js σ)[i]?=some (some v)->i∉js/\σ[i]?=some (some v):=by
 induction js with
 | nil=>intro σ i v h;exact ⟨by simp,h⟩
 | cons j r ih =>
  intro σ i v h;unfold blank at h;rw [nY] at h;obtain ⟨a,b⟩:=ih (σ.set j none) i v h
  by_cases e:i=j
  ·subst e
   by_cases hl:i < σ.length
   ·rw [lS hl] at b;cases b
   ·rw [mL (by rw [lM];omega)] at b;cases b
  ·rw [lL (Ne.symm e)] at b;exact ⟨by simp [e,a],b⟩
def Rb (js:List Nat) (g:TG):Prop:=∀ x σ H Q,g x σ H Q->g x σ H fun σ2 H2=>(σ2.length=σ.length/\∀ i,i∉js->σ2[i]?=σ[i]?)/\Q σ2 H2
theorem Tt {j:Nat} {js:List Nat} (h:j∈js):Rb js (DZ j):=fun x σ H Q q=>⟨⟨lM ..,fun i hi=>lL (fun (e:j=i)=>hi (e▸h))⟩,q⟩
def RU (js:List Nat) (g:Nm):Prop:=∀ x σ H Q,g x σ H Q->g x σ H fun σ2 H2=>(σ2.length=σ.length/\∀ i,i∉js->σ2[i]?=σ[i]?)/\Q σ2 H2
theorem Tr {js:List Nat}:RU js XN:=fun x σ H Q ⟨e,q⟩=>⟨e,⟨rfl,fun _ _=>rfl⟩,q⟩
theorem Qf {j:Nat} {js:List Nat} {u:Nm} (h:j∈js) (hu:RU js u):RU js (LR (DZ j) u):=by
 rintro x σ H Q ⟨v,r,e,q⟩;refine ⟨v,r,e,?_⟩;have:=hu r (σ.set j (some v)) H Q q;show u r (σ.set j (some v)) H _;have key:∀ (P P':St->Hp->Prop),(∀ a b,P a b->P' a b)->True:=fun _ _ _=>trivial
 have e2:(fun σ2 H2=>(σ2.length=(σ.set j (some v)).length/\∀ (i:Nat),i∉js->σ2[i]?=(σ.set j (some v))[i]?)/\Q σ2 H2)=(fun σ2 H2=>(σ2.length=σ.length/\∀ (i:Nat),i∉js->σ2[i]?=σ[i]?)/\Q σ2 H2):=by
  funext σ2 H2;have e3:(∀ (i:Nat),i∉js->σ2[i]?=(σ.set j (some v))[i]?)=(∀ (i:Nat),i∉js->σ2[i]?=σ[i]?):=by
   apply propext;constructor
   ·intro k i hi;rw [k i hi,lL (fun (e:j=i)=>hi (e▸h))]
   ·intro k i hi;rw [k i hi,lL (fun (e:j=i)=>hi (e▸h))]
  rw [e3,lM]
 rw [e2] at this;exact this
theorem XI {K:W.Frag} {n:Nat} {js:List Nat} {u:Nm} (hu:RU js u):Rb js (XM K n u):=by
 rintro x σ H Q ⟨a,xs,e,hq,hl,q⟩;exact ⟨a,xs,e,hq,hl,hu _ _ _ _ q⟩
section
variable {X:Cx} {pins:List (Addr×Obj)} {σ:St} {H:Hp} {s:Shared} {scope:Scope} {cl:List (Str×Addr)} {js:List Nat} {fp:List Addr} {C D:Addr}
theorem Inv.notStk (I:Inv X pins σ H s) {a:Addr} (h:s.heap.objs.size<=a):a∉Oj X.stack:=fun hb=>by
 rcases km.mp (I.stkSub a hb) with e | e
 ·exact absurd (lC I.lt (e▸h)) (mH _)
 ·exact I.nofs h e
theorem Inv.cellLt (I:Inv X pins σ H s) {x:Str} {c:Addr} (e:X.env.cells.lookup x=some c):c < s.heap.objs.size:=by
 obtain ⟨v,q⟩:=I.cell x c e;exact q.lt
theorem Inv.pinLt (I:Inv X pins σ H s) {p:Addr×Obj} (hp:p∈X.pn++pins):p.1 < s.heap.objs.size:=lA (I.pin p hp).1
structure Celz (X:Cx) (scope:Scope) (cl:List (Str×Addr)) (s:Shared) (C:Addr):Prop where
 old:∀ x c,cl.lookup x=some c->AM scope x=false->X.env.cells.lookup x=some c
 own:∀ x c,cl.lookup x=some c->AM scope x=true->s.heap.objs.size<=c/\C < c
 inj:∀ x y c,cl.lookup x=some c->cl.lookup y=some c->AM scope x=true->AM scope y=true->x=y
 fr:∀ x,scope.names.lookup x=some .free->∃ c,cl.lookup x=some c
 has:∀ x,AM scope x=true->∃ c,cl.lookup x=some c
theorem Celz.ne (L:Celz X scope cl s C) {x:Str} {c b:Addr} (e:cl.lookup x=some c) (hb:b < s.heap.objs.size) (h:∀ x c,X.env.cells.lookup x=some c->c≠b):c≠b:=by
 cases q:AM scope x with
 | false=>exact h x c (L.old x c e q)
 | true=>exact mn (lC hb (L.own x c e q).1)
theorem Xj {cl0:List (Str×Addr)} (hin:InnerIn X.N X.env.scope scope js) (hcl:∀ x c,cl0.lookup x=some c->X.env.cells.lookup x=some c) (hfr:∀ x,scope.names.lookup x=some .free->∃ c,cl0.lookup x=some c)
    {h:Heap} (hC:s.heap.objs.size<=C) (hs:h.objs.size=C+1):Celz X scope (cellsFrom (C+1) scope.names cl0) s C/\∀ x c,(cellsFrom (C+1) scope.names cl0).lookup x=some c->AM scope x=true->∃ v,(pushCells h scope.names).IsCell c v:=by
  have ok:=cellsFrom_ok scope.names h (C+1) [] ⟨fun _ _ hm=>(nomatch hm),List.Pairwise.nil⟩ (by rw [hs];exact kj _);rw [hs] at ok;rw [Aj];generalize hw:cellsFrom (C+1) scope.names []=own at ok;have mem:∀ x c,own.lookup x=some c->AM scope x=true:=fun x c e=>by
    have:=hin.uniqC x _ (Cd scope.names (C+1) (by rw [hw];exact lW e)) rfl;unfold AM;rw [this]
  have has:∀ x,AM scope x=true->∃ c,own.lookup x=some c:=fun x e=>by
    unfold AM at e;split at e
    · rename_i q;obtain ⟨c,z⟩:=Ce scope.names (C+1) (lW q);rw [hw] at z;exact ⟨c,z⟩
    · cases e
  have yes:∀ x c,(own++cl0).lookup x=some c->AM scope x=true->own.lookup x=some c:=fun x c e q=>by
    obtain ⟨c',z⟩:=has x q;rw [mS,z] at e;rw [z];exact e
  have no:∀ x,AM scope x=false->(own++cl0).lookup x=cl0.lookup x:=fun x q=>by
    rw [mS];cases z:own.lookup x with
    | none=>rfl
    | some c=>rw [mem x c z] at q;cases q
  refine ⟨⟨fun x c e q=>hcl x c (by rw [<- no x q];exact e),fun x c e q=>?_,fun x y c e1 e2 q1 q2=>?_,fun x e=>?_,fun x q=>?_⟩,fun x c e q=>?_⟩
  · have:=(ok.empty x c (lW (yes x c e q))).2;exact ⟨lI hC (Nat.le_of_succ_le this),this⟩
  · exact PySem.name_of_addr ok.apart (lW (yes x c e1 q1)) (lW (yes y c e2 q2))
  · obtain ⟨c,z⟩:=hfr x e;exact ⟨c,by rw [no x (by unfold AM;rw [e])];exact z⟩
  · obtain ⟨c,z⟩:=has x q;exact ⟨c,by rw [mS,z];rfl⟩
  · exact ⟨none,(ok.empty x c (lW (yes x c e q))).1⟩
theorem Inv.innerOk (I:Inv X pins σ H s) (hin:InnerIn X.N X.env.scope scope js) (hf:∀ b∈fp,FpOk X pins H b) (hfe:∀ b∈fp,b < s.heap.objs.size) (hC:s.heap.objs.size<=C)
    (L:Celz X scope cl s C):(X.inner scope cl C s H fp).Ok where
  mod:=I.ok.mod
  kind:=hin.kind
  glob:=I.ok.glob
  blt:=I.ok.blt
  above:=hC
  inj:=fun x y c a b=>by
    cases hx:AM scope x<;>cases hy:AM scope y
    · exact I.ok.inj x y c (L.old x c a hx) (L.old y c b hy)
    · exact absurd (I.cellLt (L.old x c a hx)) (Nat.not_lt.mpr (L.own y c b hy).1)
    · exact absurd (I.cellLt (L.old y c b hy)) (Nat.not_lt.mpr (L.own x c a hx).1)
    · exact L.inj x y c a b hx hy
  has:=fun x h=>by
    rcases Ae (scope:=scope) (env:=X.env) (names:=scope.names) h with q | q
    · exact L.has x (by unfold AM;rw [q])
    · exact L.fr x q
  cab:=fun x c h e=>(L.own x c e h).1
  hd:=I.ok.hd
  frames:=I.ok.frames
  stk:=.inl rfl
  exf:=fun b hb=>⟨lP (lC (hfe b hb) hC),fun x c e=>L.ne e (hfe b hb) (hf b hb).2.2.2.2.1⟩
  bs:=I.bs
  bsz:=lI I.ok.bsz I.sz
  noex:=fun b o e hb=>by
    rcases (hf b hb).2.2.2.1 with z | z
    · exact I.ok.noex b o e z
    · exact absurd (lC (lA e) (lI I.ok.bsz z)) (mH _)
  exfs:=fun b hb z=>by
    rcases km.mp (I.stkSub b z) with e | e
    · exact (hf b hb).2.1 e
    · exact (hf b hb).2.2.1 e
  funs:=I.stack
  frf:=I.stkFree
theorem Inv.enter {h':Heap} {tk:Nat} {o:Obj} (I:Inv X pins σ H s) (hin:InnerIn X.N X.env.scope scope js) (hf:∀ b∈fp,FpOk X pins H b) (hfe:∀ b∈fp,b < s.heap.objs.size) (hC:s.heap.objs.size<=C) (hD:s.heap.objs.size<=D) (hDC:D≠C)
    (L:Celz X scope cl s C) (hown:∀ x c,cl.lookup x=some c->AM scope x=true->∃ v,h'.IsCell c v)
    (k:∀ b u,s.heap.get? b=some u->h'.get? b=some u) {m:Str->Option Value} (hns:h'.Ns C m) (ho:h'.get? D=some o) (hoc:∀ v,o.data≠.cell v) :
    Inv (X.inner scope cl C s H fp) (pins++[(D,o)]) (blank js σ) H { s with heap:=h',toks:=tk } where
  ok:=I.innerOk hin hf hfe hC L
  os:=rfl
  bare:=I.bare
  base:=Un.kept k
  loc:=by
    refine ⟨m,hns,fun i x v e1 e2 e3=>?_⟩;obtain ⟨hj,e2⟩:=Fj js σ i v e2;have free:scope.names.lookup x=some .free:=by
      rcases e3 with q | q | q
      · exact absurd (hin.jsl i x e1 (.inl (Ca (env:=X.env) (names:=scope.names) q))) hj
      · rcases Ae (scope:=scope) (env:=X.env) (names:=scope.names) (.inl q) with z | z
        · exact absurd (hin.jsl i x e1 (.inr z)) hj
        · exact z
      · rcases Ae (scope:=scope) (env:=X.env) (names:=scope.names) (.inr q) with z | z
        · exact absurd (hin.jsl i x e1 (.inr z)) hj
        · exact z
    have kx:=hin.fr x free;obtain ⟨m0,hn0,hl0⟩:=I.loc;obtain ⟨u,r,l⟩:=hl0 i x v e1 e2 (kx.elim (fun z=>.inr (.inl z)) fun z=>.inr (.inr z));refine ⟨u,r,?_⟩;rcases l with ⟨z,_⟩ | ⟨_,c,hc,hcell⟩
    · have z':X.env.scope.names.lookup x=some .local:=z;rcases kx with y | y
      · rw [y] at z';cases z'
      · rw [y] at z';cases z'
    · obtain ⟨c',hc'⟩:=L.fr x free;have:c'=c:=by
        have q:=L.old x c' hc' (by unfold AM;rw [free]);rw [hc] at q;exact (Option.some.inj q).symm
      subst this;obtain ⟨oc,q1,q2⟩:=hcell;refine .inr ⟨?_,c',hc',oc,k _ _ q1,q2⟩;rcases e3 with q | q | q
      · have:=Ca (env:=X.env) (names:=scope.names) q;rw [free] at this;cases this
      · exact .inl q
      · exact .inr q
  cell:=fun x c e=>by
    cases q:AM scope x with
    | true=>exact hown x c e q
    | false =>
      obtain ⟨v,oc,q1,q2⟩:=I.cell x c (L.old x c e q);exact ⟨v,oc,k _ _ q1,q2⟩
  free:=I.hok.fresh hC
  freeC:=fun x c e=>by
    cases q:AM scope x with
    | true=>exact I.hok.fresh (L.own x c e q).1
    | false=>exact I.freeC x c (L.old x c e q)
  pin:=fun p hp=>by
    have hp':p∈X.pn++(pins++[(D,o)]):=hp;rw [<- lh] at hp';rcases lK.mp hp' with z | z
    · obtain ⟨a1,a2,a3,a4,a5⟩:=I.pin p z;refine ⟨k _ _ a1,a2,lP (lC (lA a1) hC),fun q=>?_,a5⟩;rcases km.mp (I.stkSub p.1 q) with e | e
      · exact a3 e
      · exact a4 e
    · have e:p=(D,o):=by simpa using z
      subst e;exact ⟨ho,I.hok.fresh hD,hDC,I.notStk hD,hoc⟩
  hok:=I.hok.kept k
  len:=(blank_length js σ).trans I.len
theorem Inv.leave {Y:Cx} {H':Hp} {s':Shared} {τ:St} {pl:List (Addr×Obj)} {ys:List V} {its:List Value} {n:Nat} (I:Inv X pins σ H s) (hf:∀ b∈fp,FpOk X pins H b) (hY:Y=X.inner scope cl C s H fp) (J:Inv Y pl τ H' s') (hD:s.heap.objs.size<=D)
    (hHD:H' D=none) (hz:ys.length<=sizeLine) (hv:AD ys its) (ho:s'.heap.get? D=some { cls:=.type "list", data:=.seq its.toArray n }) :
    Inv X pins σ (upd H' D (.lst ys)) s':=by
  subst hY;have un:Un (Oj X.stack) fp H H' s.heap s'.heap:=J.base;have ne:∀ {b:Addr} {o:Obj},s.heap.get? b=some o->b≠D:=fun e=>lP (lC (lA e) hD)
  have nH:∀ {b:Addr} {o:HO},H' b=some o->b≠D:=fun e z=>by rw [z,hHD] at e;cases e
  have un':Un (Oj X.stack) fp H (upd H' D (.lst ys)) s.heap s'.heap:=
    ⟨un.keep,un.slot,fun b o e n' hx=>by rw [AN (ne e)];exact un.free b o e n' hx,un.there,fun b xs e=>by have:=un.tups b xs e;rw [AN (nH this)];exact this,
      fun b o u e=>by have:=un.frzs b o u e;rw [AN (nH this)];exact this,fun b ps e=>by obtain ⟨more,q⟩:=un.tbls b ps e;exact ⟨more,by rw [AN (nH q)];exact q⟩⟩
  have hok:EO X.prog X.w (upd H' D (.lst ys)) s'.heap:=fun b u e=>by
    by_cases hb:b=D
    · subst hb;rw [BQ] at e;cases e;exact ⟨hz,its,n,hv,ho⟩
    · rw [AN hb] at e;exact (J.hok b u e).stay (fun _ _ _ q=>q) (fun c q=>by rw [AN (nH q)];exact q) fun c xs q=>by rw [AN (nH q)];exact q
  exact I.call' J.os un' hok J.bare fun b hb=>by
    obtain ⟨_,f1,_,f3,f4,f5⟩:=hf b hb;exact ⟨f3,f1,f4,f5⟩
end
section
end
section
end
section
variable {X:Cx}
def eU:V->Option Int->Option Int->Hp->VK->Prop:=fun x lo hi H Q=>∃ z,x=.str z/\z.length<=sizeLine/\Q (.str (Txt.slice z lo hi)) H
theorem Zr:Ra X eU:=by
 intro pins s σ H x v vl vu lo hi sl Q I rx hs pl pu h;obtain ⟨z,rfl,hz,q⟩:=h;obtain ⟨t,rfl⟩:=rx;have fin:∀ t' k,EP X pins σ Q (.str (Txt.slice z lo hi) t') { s with toks:=k }:=fun t' k=>⟨.str _,H,I.tok k,⟨_,rfl⟩,q⟩
 refine ⟨"str", _,F.slot_str_getitem.lookup,typeIs_str _ _ _,?_⟩
 obtain ⟨o,e1,e2,e3⟩:=hs;cases pl with
 | none =>
  cases pu with
  | none=>exact wpAny_getItem_str_slice (l:=none) (u:=none) (st:=none) ⟨o,e1,e2,e3⟩ rfl (post_val_or_str ⟨lI (Txt.slice_le z _ _) hz,fin⟩)
  | int j uj=>exact wpAny_getItem_str_slice (l:=none) (u:=some (j,uj)) (st:=none) ⟨o,e1,e2,e3⟩ rfl (post_val_or_str ⟨lI (Txt.slice_le z _ _) hz,fin⟩)
 | int i ui =>
  cases pu with
  | none=>exact wpAny_getItem_str_slice (l:=some (i,ui)) (u:=none) (st:=none) ⟨o,e1,e2,e3⟩ rfl (post_val_or_str ⟨lI (Txt.slice_le z _ _) hz,fin⟩)
  | int j uj=>exact wpAny_getItem_str_slice (l:=some (i,ui)) (u:=some (j,uj)) (st:=none) ⟨o,e1,e2,e3⟩ rfl (post_val_or_str ⟨lI (Txt.slice_le z _ _) hz,fin⟩)
theorem MY {ys:List Str}:∀ {us:List Value},AD (ys.map V.str) us->StrsAre us ys:=by
 induction ys with
 | nil=>intro us r;rw [mZ] at r;cases r;exact .nil
 | cons n ns ih =>
  intro us r;rw [ko] at r;cases r with
  | cons r1 r2 =>
   obtain ⟨t,e⟩:=r1;subst e;exact .cons n t (ih r2)
def Sj (K:W.Frag):V->List V->Hp->VK->Prop:=fun x vs H Q=>∃ sep l ys,x=.str sep/\vs=[.ref l]/\CZ K H l (ys.map V.str)/\(ys.map (·.length)).sum+ys.length * sep.length<=16777216/\Q (.str (Txt.join sep ys)) H
theorem Wz:dO X "str.join" (Sj X.K):=by
 intro pins s σ H x vs v us Q I rx rv h;obtain ⟨sep,l,ys,rfl,rfl,hl,hz,q⟩:=h;obtain ⟨t,rfl⟩:=rx;obtain ⟨u,rfl,ru⟩:=rv.one;cases ru;obtain ⟨its,r,p,_⟩:=I.list hl;exact join_list p.isList (by simpa using MY r) hz fun t' k=>⟨.str _,H,I.tok k,⟨_,rfl⟩,q⟩
end
structure Fx (P:Program) (w:World) (K:W.Frag) (mg:Str->Option Value) (base:Heap) (k:Nat) (x:Str) (ps:List Str) (sp:Sp):Prop where
 ex:∃ (f:Addr) (fd:FuncData),FnOk P w K mg base RV k f fd ps sp/\mg x=some (.ref f)/\W.keepIn K (.ref f)=true/\Binds K fd ps []
section
variable {X:Cx} {k j:Nat} {x:Str} {ps:List Str} {sp:Sp} {p pos:Pos} {e:Expr} {es:List Expr} {t:TA}
abbrev de (sp:Sp) (t:TA):TE:=fun σ H Q=>t σ H fun vs H1=>sp vs H1 Q E0
theorem Kz (F:Fx X.prog X.w X.K X.mg X.base k x ps sp) (hr:Room j X.A) (hkj:k<=j) (hg:Gl X x) (ha:PA X (e::es) t) (hdb:(x == ("__debug__" : Str))=false:=by decide)
    (he:starEach (e::es) X.env=(false,eval e X.env)::starEach es X.env:=by rfl) (hpl:(backTo pos (starEach es X.env)).any (·.1)=false:=by rfl):PE X (.Call (.Name x p) (e::es) [] pos) (de sp t):=by
  obtain ⟨f,fd,G,hm,hk,hb⟩:=F.ex;have q:=Wm (p:=p) (pos:=pos) G (hr.mono hkj) hg hm hk hb .nil Yr ha hdb he hpl;intro pins s σ H Q I h;refine q pins s σ H Q I ?_;show t σ H fun vs H1=>sp (vs++[]) H1 Q E0
  have e2:(fun (vs:List V) (H1:Hp)=>sp (vs++[]) H1 Q E0)=(fun vs H1=>sp vs H1 Q E0):=by
    funext vs H1;rw [mC]
  rw [e2];exact h
theorem TJ (F:Fx X.prog X.w X.K X.mg X.base k x ps sp) (hr:Room j X.A) (hkj:k<=j) (hg:Gl X x) (hdb:(x == ("__debug__" : Str))=false:=by decide):PE X (.Call (.Name x p) [] [] pos) (de sp Vu):=by
 obtain ⟨f,fd,G,hm,hk,hb⟩:=F.ex;have q:=TL (p:=p) (pos:=pos) G (hr.mono hkj) hg hm hk hb .nil Yr hdb;intro pins s σ H Q I h;exact q pins s σ H Q I h
end
section
variable {X:Cx}
def fD:R2:=fun x y H Q=>∃ i j,x=.str i/\y=.str j/\i.length+j.length<=sizeLine/\Q (.str (i++j)) H
def Kq (K:W.Frag):R2:=fun x y H Q=>(Sk fun i j=>.int (i+j)) x y H Q\/fD x y H Q\/fB x y H Q\/Yo K x y H Q
theorem Wu:Br X (binaryOp .Add) (Kq X.K):=bG.or (Mq.or (bF.or Wr))
theorem Vb {K:W.Frag} {i j:Int} {H:Hp} {Q:VK} (q:Q (.int (i+j)) H):Kq K (.int i) (.int j) H Q:=.inl ⟨i,j,rfl,rfl,q⟩
theorem VZ {K:W.Frag} {i j:Str} {H:Hp} {Q:VK} (h:i.length+j.length<=1000000) (q:Q (.str (i++j)) H):Kq K (.str i) (.str j) H Q:=.inr (.inl ⟨i,j,rfl,rfl,lI h (by decide),q⟩)
theorem Va {K:W.Frag} {a b:Addr} {xs ys:List V} {H:Hp} {Q:VK} (ha:H a=some (.lst xs)) (hb:H b=some (.lst ys)) (h:xs.length+ys.length<=1000000) (q:∀ p,H p=none->Q (.ref p) (upd H p (.lst (xs++ys)))):Kq K (.ref a) (.ref b) H Q:=
 .inr (.inr (.inl ⟨a,b,xs,ys,rfl,rfl,ha,hb,lI h (by decide),q⟩))
theorem WL {K:W.Frag} {p:Addr} {xs:List V} {i:Int} {v:V} {H:Hp} {Q:VK} (h:H p=some (.lst xs)) (e:Dx xs i=some v) (q:Q v H):aF K (.ref p) (.int i) H Q:=.inl ⟨p,xs,i,v,rfl,rfl,.inl (.inl h),e,q⟩
theorem aE {K:W.Frag} {p:Addr} {xs:List V} {i:Int} {v:V} {H:Hp} {Q:VK} (h:CZ K H p xs) (e:Dx xs i=some v) (q:Q v H):aF K (.ref p) (.int i) H Q:=.inl ⟨p,xs,i,v,rfl,rfl,h,e,q⟩
theorem WK {K:W.Frag} {z:Str} {i:Int} {c:Nat} {H:Hp} {Q:VK} (h:z.length<=1000000) (e:Dx z.cps.toList i=some c) (q:Q (.str ⟨#[c]⟩) H):aF K (.str z) (.int i) H Q:=.inr (.inr ⟨z,i,c,rfl,rfl,lI h (by decide),e,q⟩)
theorem bX:RS X (aF X.K):=bW
def Sh (K:W.Frag):V->Option Int->Option Int->Hp->VK->Prop:=fun x lo hi H Q=>eU x lo hi H Q\/eV K x lo hi H Q\/eS K x lo hi H Q
theorem Zt:Ra X (Sh X.K):=Zr.or (WC.or Zq)
theorem Vz {K:W.Frag} {z:Str} {lo hi:Option Int} {H:Hp} {Q:VK} (h:z.length<=1000000) (q:Q (.str (Txt.slice z lo hi)) H):Sh K (.str z) lo hi H Q:=.inl ⟨z,rfl,lI h (by decide),q⟩
theorem SM {K:W.Frag} {a:Addr} {xs:List V} {lo hi:Option Int} {H:Hp} {Q:VK} (h:CZ K H a xs) (q:∀ p,H p=none->Q (.ref p) (upd H p (.lst (Ek xs lo hi)))):Sh K (.ref a) lo hi H Q:=.inr (.inl ⟨a,xs,rfl,h,q⟩)
theorem WA {K:W.Frag} {a:Addr} {xs:List V} {lo hi:Option Int} {H:Hp} {Q:VK} (h:H a=some (.lst xs)) (q:∀ p,H p=none->Q (.ref p) (upd H p (.lst (Ek xs lo hi)))):Sh K (.ref a) lo hi H Q:=SM (.inl (.inl h)) q
theorem WE:KN X Si:=set_list
def Py (K:W.Frag):List V->Hp->VK->Prop:=fun xs H Q=>∃ x n,xs=[x]/\gw K x H n/\Q (.int n) H
theorem Qz:Aq X (.builtin "len") (Py X.K):=Uo
theorem QW {K:W.Frag} {z:Str} {H:Hp} {Q:VK} (h:z.length<=1000000) (q:Q (.int z.length) H):Py K [.str z] H Q:=⟨_,_,rfl,⟨lI h (by decide),rfl⟩,q⟩
theorem Te {K:W.Frag} {p:Addr} {xs:List V} {H:Hp} {Q:VK} (h:CZ K H p xs) (q:Q (.int xs.length) H):Py K [.ref p] H Q:=⟨_,_,rfl,.inl ⟨xs,h,rfl⟩,q⟩
theorem XE {K:W.Frag} {p:Addr} {xs:List V} {H:Hp} {Q:VK} (h:H p=some (.lst xs)) (q:Q (.int xs.length) H):Py K [.ref p] H Q:=Te (.inl (.inl h)) q
end
theorem DT {H:Hp} {p:Addr} (h:H p=none) (o:HO):Nn H (upd H p o):=fun b u q=>by rw [AN (Bb q h)];exact q
section
variable {X:Cx}
theorem iZ (K:W.Frag) (h:X.K=K:=by rfl):RS X (aF K):=by subst h;exact bX
theorem Qx (K:W.Frag) (h:X.K=K:=by rfl):Aq X (.builtin "len") (Py K):=by subst h;exact Qz
theorem TZ (K:W.Frag) (h:X.K=K:=by rfl):dO X "str.join" (Sj K):=by subst h;exact Wz
def OK (K:W.Frag):List V->Hp->VK->Prop:=fun xs H Q=>∃ p ys,xs=[.ref p]/\(CZ K H p ys\/DG K H p ys)/\∀ l,H l=none->Q (.ref l) (upd H l (.lst ys))
theorem NY (K:W.Frag) (h:X.K=K:=by rfl):Aq X (.type "list") (OK K):=by subst h;exact KD
def Kn (K:W.Frag):List V->Hp->VK->Prop:=fun xs H Q=>∃ p ys,xs=[.ref p]/\((CZ K H p ys/\∀ l,H l=none->Q (.ref l) (upd H l (.tup ys)))\/(DG K H p ys/\Q (.ref p) H))
theorem Lv (K:W.Frag) (h:X.K=K:=by rfl):Aq X (.type "tuple") (Kn K):=by subst h;exact IF
end
noncomputable def tx (l:List Nat):Str:=⟨l.toArray⟩
theorem Nz (z:Str):z=tx z.cps.toList:=by cases z;simp [tx]
theorem GN (l:List Nat):(tx l).cps.toList=l:=by simp [tx]
theorem BH (l:List Nat):(tx l).length=l.length:=by simp [tx,Str.length]
theorem MQ (a b:List Nat):tx a++tx b=tx (a++b):=by
 show (⟨(tx a).cps++(tx b).cps⟩:Str)=_;simp [tx]
theorem Zg {a b:List Nat} (h:tx a=tx b):a=b:=by
 have:=congrArg (fun z:Str=>z.cps.toList) h;simpa [tx] using this
def Xd (l:List Nat) (lo hi:Option Int):List Nat:=(l.drop (HT.sIx l.length 0 lo)).take (HT.sIx l.length l.length hi - HT.sIx l.length 0 lo)
theorem Sz (l:List Nat) (a k:Nat) (h:a+k<=l.length):((List.range k).map fun j=>a+j).filterMap (fun i=>l[i]?)=(l.drop a).take k:=by
  apply List.ext_getElem?;intro i
  by_cases hi:i < k
  · rw [ni hi,List.getElem?_drop];have e:(List.map (fun j=>a+j) (List.range k)).filterMap (fun i=>l[i]?)=(List.range k).map fun j=>l[a+j]!:=by
      rw [nO];rw [show (fun i=>l[i]?)∘(fun j=>a+j)=fun j=>l[a+j]? from rfl];have:∀ (r:List Nat),(∀ j∈r,a+j < l.length)->r.filterMap (fun j=>l[a+j]?)=r.map fun j=>l[a+j]!:=by
        intro r
        induction r with
        | nil=>intro _;rfl
        | cons x r ih =>
          intro hx;have hxl:=hx x kg;rw [mQ,kZ hxl,ko,ih fun j hj=>hx j (kh _ hj)];simp [hxl]
      exact this _ fun j hj=>by have:=mR.mp hj;omega
    rw [e,kn,mP hi];have hl:a+i < l.length:=by omega
    simp [hl]
  · have e1:(((List.range k).map fun j=>a+j).filterMap (fun i=>l[i]?)).length<=k:=lI (List.length_filterMap_le _ _) (by simp);rw [mL (by omega),mL (by rw [lZ];omega)]
theorem cl (i:Int) (n:Nat):max 0 (min (if i < 0 then i+(n:Int) else i) (n:Int))=(((if i < 0 then (i+(n:Int)).toNat else min i.toNat n):Nat):Int):=by
 by_cases h:i < 0
 ·simp only [h,if_true];omega
 ·simp only [h,if_false];omega
theorem Rj (l:List Nat) (lo hi:Option Int):Txt.slice (tx l) lo hi=tx (Xd l lo hi):=by
 have hlen:(tx l).length=l.length:=BH l;have key:Builtin.Str.strSliceIndices lo hi 1 l.length=(List.range (HT.sIx l.length l.length hi - HT.sIx l.length 0 lo)).map fun j=>HT.sIx l.length 0 lo+j:=by
  have key0:Builtin.Str.strSliceIndices lo hi 1 l.length=sliceRange ((HT.sIx l.length 0 lo:Nat):Int) ((HT.sIx l.length l.length hi:Nat):Int) 1:=by
   unfold Builtin.Str.strSliceIndices;rcases lo with _ | i<;>rcases hi with _ | j<;>simp only [show (1:Int) > 0 by decide,if_true,HT.sIx,cl,Int.natCast_zero]<;>rfl
  rw [key0];unfold sliceRange;simp only [show (1:Int) > 0 by decide,if_true];generalize HT.sIx l.length 0 lo=a;generalize HT.sIx l.length l.length hi=b;have cnt:(if (a:Int) < (b:Int) then ((b:Int) - (a:Int)+1 - 1) / 1 else 0).toNat=b - a:=by
   split<;>omega
  rw [cnt];apply nL;intro j _;omega
 have hle:HT.sIx l.length l.length hi<=l.length:=HT.sIx_le _ _ (kj _) _;have hlo:HT.sIx l.length 0 lo<=l.length:=HT.sIx_le _ _ (lq _) _;unfold Txt.slice;rw [hlen,key];unfold Xd;generalize HT.sIx l.length 0 lo=a at *;generalize HT.sIx l.length l.length hi=b at *;have e2:(List.map (fun j=>a+j) (List.range (b - a))).filterMap (fun i=>(tx l).cps[i]?)=(l.drop a).take (b - a):=by
  have e3:(fun i:Nat=>(tx l).cps[i]?)=fun i=>l[i]?:=by funext i;simp [tx]
  rw [e3]
  by_cases hab:a<=b
  ·exact Sz l a (b - a) (by omega)
  ·have:b - a=0:=by omega
   rw [this];simp
 split
 ·rename_i hc;simp only [kb,mT,kX,beq_iff_eq] at hc;have h0:a=0:=by omega
  have h1:b=l.length:=by omega
  subst h0 h1;simp
 ·rw [e2];rfl
def small (c:Nat):Prop:=97<=c/\c<=122
theorem eqV_str (a b:List Nat):eqV (.str (tx a)) (.str (tx b))=decide (a=b):=by
 unfold eqV
 by_cases h:a=b
 ·subst h;simp
 ·rw [decide_eq_false h];have:tx a≠tx b:=fun e=>h (Zg e)
  simpa using this
section
variable {X:Cx}
def fA (K:W.Frag):List V->Hp->VK->Prop:=fun xs H Q=>∃ x T t b,xs=[x,.ty T]/\TyOf K H x t/\W.kitOne K t (.type T)=some b/\Q (.bl b) H
theorem RC (K:W.Frag) (hK:X.K=K:=by rfl):Aq X (.builtin "isinstance") (fA K):=by
 subst hK;intro pins s σ H xs us Q I r h;obtain ⟨x,T,t,b,rfl,ty,e,q⟩:=h;obtain ⟨u,v,rfl,ru,rv⟩:=r.two;cases rv;exact QZ I ru ty e fun tk=>⟨.bl b,H,I.tok tk,rfl,q⟩
theorem AD.get':∀ {xs:List V} {us:List Value} {i:Nat} {u:Value},AD xs us->us[i]?=some u->∃ x,xs[i]?=some x/\RelV x u
 | _,_,_,_,.nil,e=>by simp at e
 | _,_,0,_,.cons r _,e=>by simp at e;subst e;exact ⟨_,rfl,r⟩
 | _,_,i+1,u,.cons _ t,e=>by
  obtain ⟨x,h1,h2⟩:=AD.get' (i:=i) (u:=u) t (by simpa using e);exact ⟨x,by simpa using h1,h2⟩
def fC (K:W.Frag):List V->Hp->VK->Prop:=fun xs H Q=>∃ (p:Addr) (bs:List Bool),xs=[.ref p]/\CZ K H p (bs.map V.bl)/\Q (.bl (bs.all id)) H
theorem YI {bs:List Bool} {us:List Value} (r:AD (bs.map V.bl) us) {i:Nat} {v:Value} (e:us[i]?=some v):∃ b,bs[i]?=some b/\v=.bool b:=by
 obtain ⟨x,e1,e2⟩:=r.get' e;rw [kn] at e1;cases q:bs[i]? with
 | none=>rw [q] at e1;cases e1
 | some b =>
  rw [q] at e1;have:V.bl b=x:=Option.some.inj e1;subst this;exact ⟨b,rfl,e2⟩
theorem Gw:∀ bs:List Bool,((List.range bs.length).all fun i=>(bs[i]?).getD true)=bs.all id
 | []=>rfl
 | b::bs=>by
  rw [lE,List.range_succ_eq_map,lp,List.all_map,lp];have ih:=Gw bs;rw [<- ih];rfl
theorem bH {h h':Heap} {o:Obj} (hk:∀ b x,b∉[h.objs.size]->(h.push o).get? b=some x->h'.get? b=some x):∀ b x,h.get? b=some x->h'.get? b=some x:=
 fun b x e=>hk b x (fun hm=>by rw [la.mp hm] at e;exact mH _ (lA e)) (kY _ e)
theorem RF (K:W.Frag) (hK:X.K=K:=by rfl) (hc:X.calm=true:=by rfl):Aq X (.builtin "all") (fC K):=by
  subst hK;intro pins s σ H xs us Q I r h;obtain ⟨p,bs,rfl,hp,q⟩:=h;obtain ⟨u,rfl,rx⟩:=vals1 r;cases rx;obtain ⟨its,rv,pl,hz⟩:=I.list hp;have hl:=pl.isList;have hlt:p < s.heap.objs.size:=by obtain ⟨_,e,_⟩:=hl;exact lA e
  refine call_all_walk (wpAny_pyIter_list hl ?_);refine ⟨s.heap.objs.size,[s.heap.objs.size,p],[s.heap.objs.size],its.toArray.size,_,_,fun i=>(bs[i]?).getD true,rfl,Walks.list (A:=X.A.in1) (I.ok.hd hc) _ p (lP hlt) its.toArray,
    ⟨⟨_,kz _ rfl,rfl,rfl⟩,hl.push _⟩,fun i v s' Q' E' hP hQ=>?_,fun h' tk hk=>?_⟩
  · obtain ⟨b,e,rfl⟩:=YI rv (i:=i) (v:=v) (by simpa using hP);simp only [e,Option.getD_some] at hQ;exact wpAny_truthy_bool hQ
  · have e:((List.range its.toArray.size).all fun i=>(bs[i]?).getD true)=bs.all id:=by
      rw [kc,<- rv.length,kb];exact Gw bs
    rw [e];exact ⟨.bl _,H,I.kept (bH hk),rfl,q⟩
def eqVs:List V->List V->Bool
 | [],[]=>true
 | x::xs,y::ys=>eqV x y && eqVs xs ys
 | _,_=>false
def eR (K:W.Frag):V->Option Int->Option Int->Hp->VK->Prop:=fun x lo hi H Q=>∃ a xs,x=.ref a/\DG K H a xs/\(HT.sIx xs.length 0 lo=0/\HT.sIx xs.length xs.length hi=xs.length)/\Q (.ref a) H
theorem WB:Ra X (eR X.K):=by
 intro pins s σ H x v vl vu lo hi sl Q I rx hs pl pu h;obtain ⟨a,xs,rfl,hx,hw,q⟩:=h;cases rx;obtain ⟨its,r,ht,hz⟩:=I.tuple hx;have hlen:its.toArray.size=xs.length:=by rw [kc];exact r.length.symm
 refine ⟨"tuple", _,lT.lookup,ht.typeIs,?_⟩
 obtain ⟨os,hos,hcs,hds⟩:=id hs
 have hTs:s.TypeIs (.ref sl) "slice" := ⟨os,hos,hcs⟩
 unfold getItem
 try with_reducible refine wpAny_holding ?_
 first | refine wpAny_bind (wpAny_pure ?_) | skip
 refine wpAny_bind (wpAny_sequenceKey ht.typeIs (by decide) ?_)
 refine wpAny_bind (wpAny_callSpecial?_slot (name:=Str.ofString "__getitem__") ht.typeIs lT
  (wpAny_call_entry lT ht.typeIs entry_tuple_getitem ?_ (args_tuple_getitem _ _)))
 show wpAny _ _ (Builtin.Tuple.tupleItemsOf (.ref a) >>= _) _ _ s;refine wpAny_bind (tupleItemsOf_ ht ?_);refine wpAny_bind (wpAny_typeOf hTs ?_);rw [if_pos (by decide)];refine wpAny_bind (HT.sliceApplied_gen hs pl pu ?_);have hyes:((((HT.sIx its.toArray.size 0 lo:Nat):Int) == 0 && (1:Int) == 1 && (HT.sIx its.toArray.size its.toArray.size hi - HT.sIx its.toArray.size 0 lo) == its.toArray.size)=true):=by
  rw [hlen,hw.1,hw.2];simp
 show wpAny _ _ (if (((HT.sIx its.toArray.size 0 lo:Nat):Int) == 0 && (1:Int) == 1 && (HT.sIx its.toArray.size its.toArray.size hi - HT.sIx its.toArray.size 0 lo) == its.toArray.size)=true then _ else _) _ _ s;rw [if_pos hyes];have fin:EP X pins σ Q (.ref a) s:=⟨.ref a,H,I,rfl,q⟩;refine wpAny_bind (m:=Builtin.Tuple.tupleIsExact (Value.ref a)) ?_;unfold Builtin.Tuple.tupleIsExact;refine wpAny_bind (wpAny_typeOf ht.typeIs (wpAny_pure ?_));rw [if_pos (by decide)];exact wpAny_bind (wpAny_rule (wpAny_pure ⟨_,rfl,wpAny_pure fin⟩))
end
section
variable {X:Cx} {pins:List (Addr×Obj)} {σ:St} {H:Hp} {s:Shared} {A:Around} {E:Value->Shared->Prop} {Q:Value->Shared->Prop} {b:Bool}
theorem NF {x:V} {u t:Value} {tp:Addr} {dd:Option Addr} {its:List Value} {n:Nat} {sl:Array (Option Value)} (I:Inv X pins σ H s) (rx:RelV x u) (ty:TyOf X.K H x t) (hT:∃ T,t=.type T/\T ≠ "float" /\ T ≠ "dict") (htp:s.heap.get? tp=some ⟨.type "tuple", dd,.seq its.toArray n,sl⟩) (e:W.kitAny X.K t its=some b) (h:∀ tk,Q (.bool b) { s with toks:=tk }) :
    wpAny (model X.prog X.w) A (call (.builtin "isinstance") [u,.ref tp]) Q E s:=by
  obtain ⟨T,eT,n1,n2⟩:=hT;cases ty with
  | non=>cases (show u=Value.none from rx);exact W.kia_tup W.kitx_none I.kIn True.intro htp e (fun z=>nomatch z) h
  | bl y=>cases (show u=Value.bool y from rx);exact W.kia_tup W.kitx_bool I.kIn True.intro htp e (fun z=>nomatch z) h
  | int i=>obtain ⟨t,q⟩:=(show ∃ t,u=Value.int i t from rx);cases q;exact W.kia_tup W.kitx_int I.kIn True.intro htp e (fun z=>nomatch z) h
  | str y=>obtain ⟨t,q⟩:=(show ∃ t,u=Value.str y t from rx);cases q;exact W.kia_tup W.kitx_str I.kIn True.intro htp e (fun z=>nomatch z) h
  | flt y=>cases eT;exact absurd rfl n1
  | @lst a xs ea =>
    cases (show u=Value.ref a from rx);obtain ⟨_,_,n,_,h1⟩:=(show AQ X.prog X.w H s.heap a (.lst xs) from I.hok a _ ea);exact W.kia_tup W.kitx_list I.kIn ⟨_,h1,rfl⟩ htp e (fun z=>nomatch z) h
  | @frz a ob xs ea =>
    cases (show u=Value.ref a from rx);obtain ⟨_,_,_,n,_,h1⟩:=(show AQ X.prog X.w H s.heap a (.frz ob (.lst xs)) from I.hok a _ ea);exact W.kia_tup W.kitx_list I.kIn ⟨_,h1,rfl⟩ htp e (fun z=>nomatch z) h
  | @tup a xs ea =>
    cases (show u=Value.ref a from rx);obtain ⟨_,_,_,p⟩:=(show AQ X.prog X.w H s.heap a (.tup xs) from I.hok a _ ea);obtain ⟨o,h1,h2,_⟩:=p;exact W.kia_tup W.kitx_tuple I.kIn ⟨o,h1,h2⟩ htp e (fun z=>nomatch z) h
  | @dK a kvs ea=>cases eT;exact absurd rfl n2
  | @dT a kvs ea=>cases eT;exact absurd rfl n2
  | @ins a C dx fs ea cl ha hn htk hm=>cases eT
theorem KY:∀ {Ts:List String} {us:List Value},AD (Ts.map V.ty) us->us=Ts.map Value.type
 | [],_,.nil=>rfl
 | T::Ts,_,.cons r q=>by rw [KY q];cases r;rfl
def Ym (K:W.Frag):List V->Hp->VK->Prop:=fun xs H Q=>∃ x p,∃ (Ts:List String),∃ t b,xs=[x,.ref p]/\DG K H p (Ts.map V.ty)/\TyOf K H x t/\(∃ T,t=.type T/\T ≠ "float" /\ T ≠ "dict")/\W.kitAny K t (Ts.map Value.type)=some b/\Q (.bl b) H
theorem RB:Aq X (.builtin "isinstance") (Ym X.K):=by
 intro pins s σ H xs us Q I r h;obtain ⟨x,p,Ts,t,b,rfl,hp,ty,hT,e,q⟩:=h;obtain ⟨u,v,rfl,ru,rv⟩:=r.two;cases rv;obtain ⟨its,rv,pl,_⟩:=I.tuple hp;rw [KY rv] at pl;obtain ⟨o,h1,h2,n,h3⟩:=pl;obtain ⟨cls,dd,dat,sl⟩:=o;cases h2;cases h3;exact NF I ru ty hT h1 e fun tk=>⟨.bl b,H,I.tok tk,rfl,q⟩
end
end L2
namespace L2
open PySem PySem.Spec PyProof.Rows PySem.SeqAt
theorem Ht (l:Addr) (items:Array Value) (n:Nat) (dd:Option Addr) (sl:Array (Option Value)) (x:Value) (e:Value->Bool) (j:Nat) (hj:j < items.size) 
    (hit:e items[j]=true) (hno:∀ m (hm:m < items.size),m < j->e items[m]=false) :
    Meets (Builtin.«tuple.index» ⟨[.ref l,x],[]⟩)
      (fun A R s=>s.heap.get? l=some { cls:=.type "tuple", dict:=dd,data:=.seq items n,slots:=sl }/\(∀ y,y∈items->EqAt A.in1 s y x (e y))/\R (.ok (.ret (.int j s.toks))) { s with toks:=s.toks+1 }):=
  .of_wp fun prog w A R s h=>by
    obtain ⟨hp,g,d,tk,os⟩:=s;obtain ⟨hl,he,h⟩:=h;have f2:=AutoSeq1.sub_tuple_tuple
    wp_walk using wpAny_loadPart' hl
    let f:Nat->(Option Fin×Unit)->Sem (ForInStep (Option Fin×Unit)):=fun i __s =>
            match items[i]? with
            | some y=>do
              let __do_lift <- eqBool y x
              if __do_lift=true then do
                  let __do_lift <- retInt ↑i
                  pure (ForInStep.done (some __do_lift,()))
                else pure (ForInStep.yield (none,()))
            | x=>pure (ForInStep.yield (none,()))
    have key:wpAny (model prog w) A.in1 (forIn [:min items.size items.size] ((none,()):Option Fin×Unit) f) (fun a s' =>
      wpAny (model prog w) A.in1
        (match a.fst with
        | some r=>pure r
        | none=>do
          rule "tuple.index.not-found"
          raiseErrorWords "ValueError" "tuple.index(x): x not in tuple")
        (fun fin s'=>∃ v,fin=Fin.done (Flow.ret v)/\R (Except.ok (Flow.ret v)) s')
        (fun e s'=>R (Except.error e) s') s') (fun e s'=>R (Except.error e) s') { heap:=hp,gens:=g,drawn:=d,toks:=tk,os:=os }:=by
      rw [Std.Legacy.Range.forIn_eq_forIn_range'];simp only [Std.Legacy.Range.size,Nat.sub_zero,mq,Nat.div_one,nR];refine wpAny_forIn_list _ (fun rest b s'=>b=(none,())/\s'=⟨hp,g,d,tk,os⟩/\∃ i,rest=List.range' i (items.size - i)/\i<=j) _ ?_ ?_ _ _ ⟨rfl,rfl,0,by simp,lq _⟩
      · rintro y rest b s' ⟨hb,rfl,i,hr,hi⟩;have hlt:i < items.size:=by omega
        obtain ⟨hy,hrest⟩:y=i/\rest=List.range' (i+1) (items.size - (i+1)):=by
          have e:items.size - i=(items.size - (i+1))+1:=by omega
          rw [e,nU] at hr;injection hr with h1 h2
          exact ⟨h1,h2⟩
        subst hy;show wpAny _ _ (match items[y]? with
            | some z=>do
              let __do_lift <- eqBool z x
              if __do_lift=true then do
                  let __do_lift <- retInt ↑y
                  pure (ForInStep.done (some __do_lift,()))
                else pure (ForInStep.yield (none,()))
            | x=>pure (ForInStep.yield (none,()))) _ _ _
        rw [Array.getElem?_eq_getElem hlt];refine wpAny_bind (he _ (Array.getElem_mem hlt) prog w _ _ ?_)
        by_cases hyj:y=j
        · subst hyj;rw [hit]
          wp_walk
          exact ⟨_,rfl,h⟩
        · rw [hno y hlt (by omega)]
          wp_walk
          exact ⟨rfl,rfl,y+1,hrest,by omega⟩
      · rintro b s' ⟨hb,rfl,i,hr,hi⟩;have:(List.range' i (items.size - i)).length=0:=by rw [<- hr];rfl
        rw [List.length_range'] at this;omega
    refine cast ?_ key;congr 1;funext a s';obtain ⟨a1,a2⟩:=a;cases a1 with
    | none=>rfl
    | some r=>rfl
section
variable {X:Cx}
def iP (r:V->List V->Hp->VK->Prop) (to:TE) (t:TA):TE:=fun σ H Q=>to σ H fun x H1=>(∃ p xs,x=.ref p/\H1 p=some (.tup xs))/\t σ H1 fun xs H2=>r x xs H2 Q
theorem fP {o e:Expr} {es:List Expr} {to:TE} {t:TA} {name:Str} {apos cpos:Pos} {id:String} {r:V->List V->Hp->VK->Prop} (pa:PlainAttrs "tuple") (slot:Slot "tuple" name id) (hty:typeOf (.builtin id)=pure (.type "method_descriptor")) (hm:RQ X id r) (ho:PE X o to) (ha:PA X (e::es) t)
    (hbase:attributeBase o name X.env (eval o X.env)=eval o X.env:=by rfl)
    (hfew:((backTo cpos (starEach (e::es) X.env)).all (fun x=>!x.1) && (backToKw cpos (keywordEach [] X.env)).all (fun x=>x.1.isSome)
      && decide ((e::es).length+([]:List Keyword).length+(if ([]:List Keyword).isEmpty then 0 else 1) < 30))=true:=by rfl)
    (hline:(apos.endLine == cpos.line)=true:=by rfl) (hs:starEach (e::es) X.env=(false,eval e X.env)::starEach es X.env:=by rfl) (hplain:(backTo cpos (starEach es X.env)).any (·.1)=false:=by rfl) :
    PE X (.Call (.Attribute o name apos) (e::es) [] cpos) (iP r to t):=by
  intro pins s σ H Q I h;refine wpAny_Call_method_late hbase hfew hline rfl (Ah (ho pins s σ H _ I h) fun v s1 ⟨x,H1,I1,r1,ty,q1⟩=>?_);obtain ⟨p,xs,rfl,hp⟩:=ty;cases r1;obtain ⟨_,its,_,ob,h1,hc,hd,_⟩:=I1.hok p _ hp
  refine ⟨"tuple", id,pa,slot,hty,⟨ob,h1,hc⟩,fun a e=>by cases e;exact ⟨ob,h1,hd⟩,?_⟩
  have hA:=ha cpos pins s1 σ H1 _ I1 q1;rw [hs] at hA ⊢;refine Calls.callWith_builtin (by show (false || (backTo cpos (starEach es X.env)).any (·.1))=false;rw [hplain]<;>rfl) (Calls.evalArgs_plain ?_);exact Ah hA fun us s2 ⟨vs,H2,I2,r2,q2⟩=>hm pins s2 σ H2 (.ref p) vs (.ref p) us Q I2 rfl r2 q2
def Yp (K:W.Frag):R2:=fun x y H Q=>∃ a b ys,x=.ref a/\y=.ref b/\DG K H a []/\DG K H b ys/\Q (.ref b) H
theorem Ws:Br X (binaryOp .Add) (Yp X.K):=by
  intro pins s σ H x y v u Q I rx ry h;obtain ⟨a,b,ys,rfl,rfl,ha,hb,q⟩:=h;cases rx;cases ry;obtain ⟨its,r1,p1,_⟩:=I.tuple ha;obtain ⟨its2,r2,p2,_⟩:=I.tuple hb;cases r1;obtain ⟨⟨cls,dd,data,sl⟩,ho,hc,n,hd⟩:=id p1;obtain ⟨⟨cls2,dd2,data2,sl2⟩,ho2,hc2,n2,hd2⟩:=id p2;simp only at hc hd hc2 hd2;subst hc hd hc2 hd2;exact concat_meets ⟨_,ho,rfl⟩ ⟨_,ho2,rfl⟩ noFill_tuple_add seq_tuple_add PySem.F.slot_tuple_add PySem.F.entry_tuple_add (PySem.F.args_tuple_add_2 _ _)
      (tuple_addW0 a b _ its2.toArray n n2 dd dd2 sl sl2 (by simp)) ⟨ho,ho2,⟨.ref b,H,I,rfl,q⟩⟩
def Kp (K:W.Frag):R2:=fun x y H Q=>Kq K x y H Q\/Yp K x y H Q
theorem Wt (K:W.Frag) (h:X.K=K:=by rfl):Br X (binaryOp .Add) (Kp K):=by subst h;exact Wu.or Ws
theorem VY {K:W.Frag} {i j:Int} {H:Hp} {Q:VK} (q:Q (.int (i+j)) H):Kp K (.int i) (.int j) H Q:=.inl (Vb q)
theorem VW {K:W.Frag} {i j:Str} {H:Hp} {Q:VK} (h:i.length+j.length<=1000000) (q:Q (.str (i++j)) H):Kp K (.str i) (.str j) H Q:=.inl (VZ h q)
theorem VX {K:W.Frag} {a b:Addr} {xs ys:List V} {H:Hp} {Q:VK} (ha:H a=some (.lst xs)) (hb:H b=some (.lst ys)) (h:xs.length+ys.length<=1000000) (q:∀ p,H p=none->Q (.ref p) (upd H p (.lst (xs++ys)))):Kp K (.ref a) (.ref b) H Q:=.inl (Va ha hb h q)
def Pu (K:W.Frag):V->Option Int->Option Int->Hp->VK->Prop:=fun x lo hi H Q=>Sh K x lo hi H Q\/eR K x lo hi H Q
theorem iS (K:W.Frag) (h:X.K=K:=by rfl):Ra X (Pu K):=by subst h;exact Zt.or WB
theorem Vx {K:W.Frag} {z:Str} {lo hi:Option Int} {H:Hp} {Q:VK} (h:z.length<=1000000) (q:Q (.str (Txt.slice z lo hi)) H):Pu K (.str z) lo hi H Q:=.inl (Vz h q)
theorem Zp {K:W.Frag} {a:Addr} {xs:List V} {lo hi:Option Int} {H:Hp} {Q:VK} (h:CZ K H a xs) (q:∀ p,H p=none->Q (.ref p) (upd H p (.lst (Ek xs lo hi)))):Pu K (.ref a) lo hi H Q:=.inl (SM h q)
theorem Vy {K:W.Frag} {a:Addr} {xs:List V} {lo hi:Option Int} {H:Hp} {Q:VK} (h:H a=some (.lst xs)) (q:∀ p,H p=none->Q (.ref p) (upd H p (.lst (Ek xs lo hi)))):Pu K (.ref a) lo hi H Q:=.inl (WA h q)
def Sf:V->List V->Hp->VK->Prop:=fun x vs H Q=>∃ l,x=.str (tx l)/\vs=[]/\(∀ c∈l,c < 128)/\l.length<=1000000/\Q (.str (tx (l.map up1))) H
theorem TX:dO X "str.upper" Sf:=by
 intro pins s σ H x vs v us Q I rx rv h;obtain ⟨l,rfl,rfl,hA,hz,q⟩:=h;obtain ⟨t,rfl⟩:=rx;cases rv.zero;have e:Txt.upper (tx l)=tx (l.map up1):=by
  rw [upper_ascii (by rw [GN];exact hA)];simp [tx]
 refine SC.upper (by rw [e,BH,kb];exact decide_eq_false (by have:sizeLine=16777216:=sizeLine_eq;omega)) ⟨.str (tx (l.map up1)),H,I.tok _,⟨_,by rw [e]⟩,q⟩
end
end L2
namespace L2
open PySem PySem.Spec PyProof.Rows
section
variable {prog:Program} {w:World} {A:Around} {E:Value->Shared->Prop}
theorem JE {it t:Addr} {items:Array Value} (hne:t≠it):∀ (n i:Nat) (s:Shared) (Q:List Value->Shared->Prop),s.heap.IsListIter it t i->s.heap.IsList t items->i+n<=items.size ->
    (∀ h',h'.IsListIter it t (i+n)->Heap.SameBut it s.heap h'->Q ((items.toList.drop i).take n) { s with heap:=h' })->wpAny (model prog w) A (draw (.ref it) n) Q E s
  | 0,i,s,Q,hit,_,_,hQ=>by
    show wpAny _ _ (pure []) Q E s;exact wpAny_pure (by simpa using hQ s.heap hit (Heap.SameBut.refl ..))
  | n+1,i,s,Q,hit,ht,hle,hQ=>by
    have hlt:i < items.size:=by omega
    show wpAny _ _ (pyNext (.ref it) >>= _) Q E s;refine wpAny_bind (wpAny_pyNext_list_item hit ht (x:=items[i]) (by simp [hlt]) fun h₁ hit₁ hs₁=>?_);refine wpAny_bind (wpAny_holding (JE hne n (i+1) _ _ hit₁ (ht.extBut hs₁.extBut hne) (by omega) fun h₂ hit₂ hs₂=>wpAny_pure ?_));have hd:items.toList.drop i=items[i]::items.toList.drop (i+1):=by simp [mr,hlt]
    have:=hQ h₂ (by rw [show i+(n+1)=i+1+n by omega];exact hit₂) (hs₁.trans hs₂);rw [hd,List.take_succ_cons] at this;exact this
theorem Eu {s:Shared} {t:Addr} {items:Array Value} {Q:List Value->Shared->Prop} (hh:A.handled=none) (ht:s.heap.IsList t items)
    (hQ:∀ h',Heap.ExtBut s.heap.objs.size s.heap h'->Q items.toList { s with heap:=h' }):wpAny (model prog w) A (unpackItems (.ref t) items.size none) Q E s:=by
  have hlt:t≠s.heap.objs.size:=by obtain ⟨o,ho,_⟩:=ht;exact lP (lA ho)
  unfold unpackItems;refine wpAny_bind ?_
  · unfold notIterableAtAll;refine wpAny_bind (wpAny_specialOf ht.typeIs PySem.slot_list_iter.lookup ?_);refine wpAny_pure ?_;simp only [lG,if_false];refine wpAny_bind (wpAny_holding (wpAny_pyIter_list ht ?_));refine wpAny_bind (wpAny_holding (JE hlt items.size 0 _ _ ⟨_,kz _ rfl,rfl,rfl⟩ (ht.push _) (by omega) fun h₁ hit₁ hs₁=>?_));have hall:List.take items.size (List.drop 0 items.toList)=items.toList:=by
      rw [nF];exact List.take_of_length_le (by simp)
    rw [hall];rw [if_neg (by simp)];have ht₁:h₁.IsList t items:=(ht.push _).extBut hs₁.extBut hlt;refine wpAny_bind (wpAny_holding (wpAny_pyNext_list_end hh hit₁ ht₁ (by simp) fun h₂ he₂=>?_));simp only [Option.isSome_none,lG,if_false];refine wpAny_pure (hQ h₂ fun b o hb e=>he₂ b o hb (hs₁.extBut b o hb (kY _ e)))
theorem KW {s:Shared} {t:Addr} {items:Array Value} {targets:List (Bool×(Value->Sem Unit))} {Q:Unit->Shared->Prop} (hh:A.handled=none) (ht:s.heap.IsList t items)
    (hn:targets.length=items.size) (hstar:targets.findIdx? (·.1)=none)
    (h:∀ h',Heap.ExtBut s.heap.objs.size s.heap h'->wpAny (model prog w) A (assignInOrder (targets.map (·.2)) items.toList) Q E { s with heap:=h' }) :
    wpAny (model prog w) A (unpack (.ref t) targets) Q E s:=by
  unfold unpack;rw [hn,hstar];exact wpAny_bind (wpAny_holding (Eu hh ht h))
end
section
variable {X:Cx}
abbrev bc (n:Nat) (t:Nm):TG:=fun v σ H Q=>∃ a xs,v=.ref a/\H a=some (.lst xs)/\xs.length=n/\t xs σ H Q
theorem aY {es:List Expr} {k:Nat} {t:Nm} {n:Nat} {pos:Pos} (hc:X.calm=true) (h:dM X es t)
    (hn:(assignEach es X.env).length=n:=by rfl) (hst:(assignEach es X.env).findIdx? (·.1)=none:=by rfl):PG X (.Tuple es k pos) (bc n t):=by
  intro pins s σ H v u Q I r hw;obtain ⟨a,xs,e1,hq,hl,hw⟩:=hw;subst e1;cases r;obtain ⟨its,rv,ht,hz⟩:=I.list (.inl (.inl hq));rw [assign_Tuple];refine wpAny_bind (wpAny_standAt (KW (I.ok.hd hc) ht.isList (by simp [hn,<- hl,rv.length]) hst fun h' hx=>?_));have I1:Inv X pins σ H { s with heap:=h' }:=I.kept (t':=s.toks) fun b o e=>hx b o (lP (lA e)) e
  exact h pins _ σ H xs _ Q I1 (by simpa using rv) hw
theorem XJ {n:Nat} {js:List Nat} {u:Nm} (hu:RU js u):Rb js (bc n u):=by
 rintro x σ H Q ⟨a,xs,e,hq,hl,q⟩;exact ⟨a,xs,e,hq,hl,hu _ _ _ _ q⟩
end
end L2
namespace L2
open PySem PySem.Spec PyProof.Rows PySem.SeqAt
inductive D where
 | fl (v:V)
 | tup (ds:List D)
 | lst (ds:List D)
mutual
noncomputable def eqD:D->D->Bool
 | .fl a,.fl b=>eqV a b
 | .tup a,.tup b=>eqDs a b
 | .lst a,.lst b=>eqDs a b
 | _,_=>false
noncomputable def eqDs:List D->List D->Bool
 | [],[]=>true
 | x::xs,y::ys=>eqD x y && eqDs xs ys
 | _,_=>false
end
mutual
noncomputable def D.dep:D->Nat
 | .fl _=>0
 | .tup ds=>depL ds+1
 | .lst ds=>depL ds+1
noncomputable def depL:List D->Nat
 | []=>0
 | d::ds=>max d.dep (depL ds)
end
mutual
noncomputable def Is (H:Hp):V->D->Prop
 | x,.fl v=>x=v/\Ef v=true
 | x,.tup ds=>∃ a xs,x=.ref a/\H a=some (.tup xs)/\IsL H xs ds
 | x,.lst ds=>∃ a xs,x=.ref a/\H a=some (.lst xs)/\IsL H xs ds
noncomputable def IsL (H:Hp):List V->List D->Prop
 | [],[]=>True
 | x::xs,d::ds=>Is H x d/\IsL H xs ds
 | _,_=>False
end
theorem IsL.inv {H:Hp} {x:V} {xs:List V} {es:List D} (h:IsL H (x::xs) es):∃ d ds,es=d::ds/\Is H x d/\IsL H xs ds:=by
 cases es with
 | nil=>unfold IsL at h;exact h.elim
 | cons d ds=>unfold IsL at h;exact ⟨d,ds,rfl,h.1,h.2⟩
theorem IsL.length {H:Hp}:∀ {xs:List V} {ds:List D},IsL H xs ds->xs.length=ds.length
 | [],[],_=>rfl
 | [],_::_,h=>by unfold IsL at h;exact h.elim
 | _::_,[],h=>by unfold IsL at h;exact h.elim
 | x::xs,d::ds,h=>by unfold IsL at h;rw [lE,lE,IsL.length h.2]
mutual
theorem Is.inj {H:Hp}:∀ {d e:D} {x:V},Is H x d->Is H x e->d=e
 | .fl v,e,x,h,k=>by
  unfold Is at h;obtain ⟨rfl,hf⟩:=h;cases e with
  | fl u=>unfold Is at k;rw [k.1]
  | tup es=>unfold Is at k;obtain ⟨a,xs,rfl,_⟩:=k;cases hf
  | lst es=>unfold Is at k;obtain ⟨a,xs,rfl,_⟩:=k;cases hf
 | .tup ds,e,x,h,k=>by
  unfold Is at h;obtain ⟨a,xs,rfl,h1,h2⟩:=h;cases e with
  | fl u=>unfold Is at k;obtain ⟨k1,k2⟩:=k;rw [<- k1] at k2;cases k2
  | tup es =>
   unfold Is at k;obtain ⟨b,ys,e,k1,k2⟩:=k;cases e;rw [h1] at k1;cases k1;rw [IsL.inj h2 k2]
  | lst es=>unfold Is at k;obtain ⟨b,ys,e,k1,k2⟩:=k;cases e;rw [h1] at k1;cases k1
 | .lst ds,e,x,h,k=>by
  unfold Is at h;obtain ⟨a,xs,rfl,h1,h2⟩:=h;cases e with
  | fl u=>unfold Is at k;obtain ⟨k1,k2⟩:=k;rw [<- k1] at k2;cases k2
  | lst es =>
   unfold Is at k;obtain ⟨b,ys,e,k1,k2⟩:=k;cases e;rw [h1] at k1;cases k1;rw [IsL.inj h2 k2]
  | tup es=>unfold Is at k;obtain ⟨b,ys,e,k1,k2⟩:=k;cases e;rw [h1] at k1;cases k1
theorem IsL.inj {H:Hp}:∀ {ds es:List D} {xs:List V},IsL H xs ds->IsL H xs es->ds=es
 | [],es,[],h,k=>by
  cases es with
  | nil=>rfl
  | cons e es=>unfold IsL at k;exact k.elim
 | [],_,_::_,h,_=>by unfold IsL at h;exact h.elim
 | _::_,_,[],h,_=>by unfold IsL at h;exact h.elim
 | d::ds,es,x::xs,h,k=>by
  unfold IsL at h;obtain ⟨e,es',rfl,k1,k2⟩:=k.inv;rw [Is.inj h.1 k1,IsL.inj h.2 k2]
end
theorem eqV_refl {v:V} (h:Ef v=true):eqV v v=true:=by
 cases v<;>first | rfl | (simp [eqV];done) | cases h
mutual
theorem eqD_refl {H:Hp}:∀ {d:D} {x:V},Is H x d->eqD d d=true
 | .fl v,x,h=>by unfold Is at h;unfold eqD;exact eqV_refl h.2
 | .tup ds,x,h=>by unfold Is at h;obtain ⟨_,_,_,_,h2⟩:=h;unfold eqD;exact eqDs_refl h2
 | .lst ds,x,h=>by unfold Is at h;obtain ⟨_,_,_,_,h2⟩:=h;unfold eqD;exact eqDs_refl h2
theorem eqDs_refl {H:Hp}:∀ {ds:List D} {xs:List V},IsL H xs ds->eqDs ds ds=true
 | [],_,_=>by unfold eqDs;rfl
 | _::_,[],h=>by unfold IsL at h;exact h.elim
 | d::ds,x::xs,h=>by
  unfold IsL at h;unfold eqDs;rw [eqD_refl h.1,eqDs_refl h.2];rfl
end
section
variable {X:Cx} {pins:List (Addr×Obj)} {σ:St} {H:Hp} {s:Shared}
def eAt (ds es:List D) (i:Nat):Bool:=match ds[i]?,es[i]? with | some a,some b=>eqD a b | _,_=>true
theorem eAt_of {ds es:List D} {i:Nat} {a b:D} (h1:ds[i]?=some a) (h2:es[i]?=some b):eAt ds es i=eqD a b:=by unfold eAt;rw [h1,h2]
end
end L2
namespace L2
open PySem PySem.Spec PyProof.Rows
inductive T where
 | leaf (k:Str) (v:V)
 | op (s:Str) (m n:T)
 | many (k w:Str) (ts:List T)
 | lett (x:Str) (a b:T)
 | loop (i:Str) (n:T) (x:Str) (a b:T)
 | pick (n:T) (ts:List T)
noncomputable abbrev sD (x:Str):D:=.fl (.str x)
mutual
noncomputable def T.toD:T->D
 | .leaf k v=>.tup [sD k,.fl v]
 | .op s m n=>.tup [sD "op", sD s,m.toD,n.toD]
 | .many k w ts=>.tup [sD k,sD w,.tup (toDs ts)]
 | .lett x a b=>.tup [sD "let", sD x,a.toD,b.toD]
 | .loop i n x a b=>.tup [sD "loop", sD i,n.toD,sD x,a.toD,b.toD]
 | .pick n ts=>.tup [sD "pick", n.toD,.tup (toDs ts)]
noncomputable def toDs:List T->List D
 | []=>[]
 | t::ts=>t.toD::toDs ts
end
end L2
namespace L2
open PySem PySem.Spec PyProof.Rows PySem.SeqAt
section
end
end L2
namespace L2
open PySem PySem.Spec PyProof.Rows
section
variable {prog:Program} {w:World} {A:Around} {E:Value->Shared->Prop} {s:Shared}
theorem Mx:typeLookup (.type "list_reverseiterator") "__len__" = pure none:=by rw [typeLookup_type,builtinLookup_eq_fast];kernel_rfl
theorem Tc:typeLookup (.type "list_reverseiterator") "__length_hint__" = pure (some (.builtin "list_reverseiterator.__length_hint__")):=by rw [typeLookup_type,builtinLookup_eq_fast];kernel_rfl
theorem Sa {r:Addr} {Q:Bool->Shared->Prop} (hT:s.TypeIs (.ref r) "list_reverseiterator") (h:Q false s):wpAny (model prog w) A (Builtin.List.listLengthHint (.ref r)) Q E s:=by
 unfold Builtin.List.listLengthHint;refine wpAny_bind (wpAny_specialOf hT Mx ?_);refine wpAny_bind (wpAny_specialOf hT Tc ?_)
 generalize hid:("list_reverseiterator.__length_hint__" : String)=id0
 wp_delta
 rw [show splitId id0=some ("list_reverseiterator", "__length_hint__") from by subst hid;decide +kernel]
 subst hid
 refine wpAny_bind (wpAny_isInstance (T := "list_reverseiterator") (b:=true) hT (by rw [isSubtype_type];kernel_rfl) ?_)
 refine wpAny_ite_split (fun hab=>absurd hab (by decide)) (fun _=>?_);refine wpAny_ite_split (fun _=>?_) (fun hab=>absurd (by decide +kernel) hab);refine wpAny_ite_split (fun hab=>absurd hab (by decide +kernel)) (fun _=>?_);exact wpAny_pure h
theorem Sb {p l:Addr} {items:Array Value} {Q:Value->Shared->Prop} (hh:A.handled=none) (hne:l≠p) (hit:s.heap.IsRevIter p l ((items.size:Int) - 1)) (hl:s.heap.IsList l items) (hn:items.size<=sizeLine)
    (hQ:∀ h' tk c',(∀ b o,b≠p->s.heap.get? b=some o->h'.get? b=some o)->h'.get? s.heap.objs.size=some { cls:=.type "list", dict:=none,data:=.seq items.reverse c',slots:=#[] }->Q (.ref s.heap.objs.size) { s with heap:=h',toks:=tk }) :
    wpAny (model prog w) A (call (.type "list") [.ref p]) Q E s:=by
  have hpl:p < s.heap.objs.size:=by obtain ⟨o,e,_⟩:=hit;exact lA e
  have hll:l < s.heap.objs.size:=by obtain ⟨o,e,_⟩:=hl;exact lA e
  refine callType_codes (Q₁:=fun obj s₁=>obj=.ref s.heap.objs.size/\s₁={ s with heap:=s.heap.push { cls:=.type "list", data:=.seq #[] } }) PySem.F.called_list (PySem.F.typeCall_list_1 _) PySem.F.entry_list_init
    (code_list_new _ ⟨rfl,rfl⟩) fun obj s₁ h₁=>?_
  obtain ⟨rfl,rfl⟩:=h₁
  have hS:(s.heap.push { cls:=.type "list", data:=.seq #[] }).get? s.heap.objs.size=some { cls:=.type "list", data:=.seq #[] }:=kz _ rfl
  generalize hSe:s.heap.objs.size=S at *;have hSp:S≠p:=mn hpl;have hSl:S≠l:=mn hll;refine ⟨⟨_,hS,rfl⟩,PySem.F.args_list_init_2 _ _,?_⟩;show wpAny _ _ (do let old <- Builtin.List.listItems (.ref S);Builtin.List.listUpdate (.ref S) (fun _=>#[]);letGo old.toList.reverse;Builtin.List.listExtendWith (.ref S) (.ref p) .none) _ _ _;refine wpAny_bind ?_;unfold Builtin.List.listItems;refine wpAny_bind (wpAny_seqItems hS rfl (wpAny_pure ?_));show wpAny _ _ (updateSeq S (fun _=>#[]) >>= fun _=>letGo (#[]:Array Value).toList.reverse >>= fun _=>Builtin.List.listExtendWith (.ref S) (.ref p) .none) _ _ _;refine wpAny_bind (wpAny_updateSeq hS rfl ?_);have hS₂:=mF (Obj.mapSeq (fun _=>(#[]:Array Value))) hS rfl
  have oth:∀ b o,b≠S->s.heap.get? b=some o->((s.heap.push { cls:=.type "list", data:=.seq #[] }).update S (Obj.mapSeq (fun _=>(#[]:Array Value)))).get? b=some o:=
    fun b o hb e=>(lj _ _ (Ne.symm hb)).trans (kY _ e)
  refine wpAny_bind (wpAny_letGo ?_)
  generalize (s.heap.push { cls:=.type "list", data:=.seq #[] }).update S (Obj.mapSeq (fun _=>(#[]:Array Value)))=h1 at hS₂ oth ⊢
  have hit1:h1.IsRevIter p l ((items.size:Int) - 1):=hit.at fun o e=>oth p o hSp.symm e
  have hl1:h1.IsList l items:=hl.at fun o e=>oth l o hSl.symm e
  unfold Builtin.List.listExtendWith
  refine wpAny_bind (wpAny_typeOf (T := "list_reverseiterator") (s:={ s with heap:=h1 }) hit1.typeIs ?_)
  have e1:Builtin.List.listSameRef (.ref S) (.ref p)=false:=by simp [Builtin.List.listSameRef,hSp]
  have e2:(Value.type "list_reverseiterator" == Value.type "list")=false:=by decide
  have e3:(Value.type "list_reverseiterator" == Value.type "tuple")=false:=by decide
  simp only [e1,e2,e3,Bool.or_false,lG,if_false];refine wpAny_bind (wpAny_pyIter_revIter (s:={ s with heap:=h1 }) hit1 ?_);refine wpAny_bind (wpAny_holding (Sa (s:={ s with heap:=h1 }) hit1.typeIs ?_));refine wpAny_ite_split (fun hab=>absurd hab (by decide +kernel)) (fun _=>?_);have W:=Walks.listRev (prog:=prog) (w:=w) (A:=A.in1.in1) hh p l hne items;refine wpAny_pure ⟨plainId_quiet PySem.F.plain_extend_loop _,codeAny_extend_loopS (A:=A.in1) W.toS hn S (by simp [hSp,hSl]) _ items.size 0 { s with heap:=h1 } #[] _ rfl (lq _) ⟨lq _,by simpa using hit1,hl1⟩ hS₂ (ItemsOf.nil _) fun s' acc' c' hm hS' hacc=>?_⟩;rw [Moved.eq_with hm];have er:acc'=items.reverse:=by
    apply Array.ext
    · rw [hacc.1,Array.size_reverse]
    · intro i h1 h2;have this:items[items.size - 1 - i]?=some acc'[i]:=hacc.2 i (acc'[i]) (Array.getElem?_eq_getElem h1);rw [Array.getElem_reverse];have h3:i < items.size:=by rw [<- hacc.1];exact h1
      rw [Array.getElem?_eq_getElem (by omega)] at this;exact (Option.some.inj this).symm
  subst er;refine ⟨rfl,hQ s'.heap s'.toks c' (fun b o hb e=>hm.heap b o (fun hmem=>?_) (oth b o ?_ e)) hS'⟩
  · rcases km.mp hmem with e' | hmem
    · exact absurd (lA e) (by rw [hSe,e'];exact mH _)
    · exact hb (la.mp hmem)
  · intro e';exact absurd (lA e) (by rw [hSe,e'];exact mH _)
end
section
variable {X:Cx} {e:Expr} {te:TE} {p1 p2 pos1 pos2:Pos}
abbrev Rt (K:W.Frag) (te:TE):TE:=fun σ H Q=>te σ H fun v H1=>∃ a xs,v=.ref a/\CZ K H1 a xs/\∀ l,H1 l=none->Q (.ref l) (upd H1 l (.lst xs.reverse))
theorem ER:∀ {xs:List V} {us:List Value},AD xs us->AD xs.reverse us.reverse
 | _,_,.nil=>.nil
 | _,_,.cons (a:=x) (b:=u) (l₁:=xs) (l₂:=us) r t=>by
  rw [List.reverse_cons,List.reverse_cons];exact AD.append (ER t) (.cons r .nil)
theorem Mn (hc:X.calm=true) (hgL:Gl X "list") (hmL:X.mg "list" = none) (hgR:Gl X "reversed") (hmR:X.mg "reversed" = none) (he:PE X e te)
    (hs1:starEach [.Call (.Name "reversed" p2) [e] [] pos2] X.env=(false,eval (.Call (.Name "reversed" p2) [e] [] pos2) X.env)::starEach [] X.env:=by rfl)
    (hpl1:(backTo pos1 (starEach [] X.env)).any (·.1)=false:=by rfl)
    (hs2:starEach [e] X.env=(false,eval e X.env)::starEach [] X.env:=by rfl)
    (hpl2:(backTo pos2 (starEach [] X.env)).any (·.1)=false:=by rfl) :
    PE X (.Call (.Name "list" p1) [.Call (.Name "reversed" p2) [e] [] pos2] [] pos1) (Rt X.K te):=by
  intro pins s σ H Q I h;refine wpAny_Call_Name_kw (Bc I hgL hmL PyProof.Rows.Boot.«list» ?_ (by decide) (by decide));refine lV ?_ hs1 hpl1;rw [hs1]
  show wpAny _ _ (spliced ((false,eval (.Call (.Name "reversed" p2) [e] [] pos2) X.env)::backTo pos1 (starEach [] X.env))) _ _ s
  refine Calls.spliced_cons ?_;refine wpAny_Call_Name_kw (Bc I hgR hmR PyProof.Rows.Boot.«reversed» ?_ (by decide) (by decide));refine lV ?_ hs2 hpl2;rw [hs2];show wpAny _ _ (spliced ((false,eval e X.env)::backTo pos2 (starEach [] X.env))) _ _ s;refine Calls.spliced_cons (Ah (he pins s σ H _ I h) fun v s1 ⟨x,H1,I1,r1,q1⟩=>?_);obtain ⟨a,xs,ex,hq,q⟩:=q1;subst ex;cases r1;obtain ⟨its,rv,pl,hz⟩:=I1.list hq;have hlen:=rv.length;refine Calls.spliced_nil ?_;have hil:=pl.isList;refine call_reversed_list hil ?_;refine Calls.spliced_nil ?_;have hal:a < s1.heap.objs.size:=by obtain ⟨o,e,_⟩:=hil;exact lA e
  refine Sb (s:={ s1 with heap:=s1.heap.push (revObj a ((its.toArray.size:Int) - 1)) }) (I1.ok.hd hc) (lP hal) ⟨_,kz _ rfl,rfl,rfl⟩ (hil.at fun o e=>kY _ e) (by simp only [kc];omega) fun h' tk c' kp eh=>?_
  have kp':∀ b o,s1.heap.get? b=some o->h'.get? b=some o:=fun b o e=>kp b o (lP (lA e)) (kY _ e)
  have hsz:(s1.heap.push (revObj a ((its.toArray.size:Int) - 1))).objs.size=s1.heap.objs.size+1:=size_push' _ _;refine ⟨.ref _,_,I1.laid (t':=tk) kp' (by rw [hsz];exact nK _) (show AQ X.prog X.w _ h' _ (.lst xs.reverse) from ⟨by rw [ml];exact hz,its.reverse,c',ER rv,by rw [eh];simp⟩),rfl,q _ (I1.hok.fresh (by rw [hsz];exact nK _))⟩
end
section
variable {X:Cx} {pins:List (Addr×Obj)} {σ:St} {H:Hp} {s:Shared} {h':Heap}
theorem Inv.turnedL {t':Nat} {ch:List Addr} (I:Inv X pins σ H s) (k:∀ b o,b∉ch->s.heap.get? b=some o->h'.get? b=some o) (hf:∀ b∈ch,FpOk X pins H b):Inv X pins σ H { s with heap:=h',toks:=t' }:=by
 have nit:∀ b u,H b=some u->b∉ch:=fun b u e z=>by have:=(hf b z).1;rw [e] at this;cases this
 refine I.step (g':=s.gens) (d':=s.drawn) (ch:=ch) (fun b hb=>?_) (fun b o _ _ hc e _=>k b o hc e) (fun b o _ _ hc e _=>⟨o.slots,k b o hc e⟩) (fun _ _ _ _ n=>n)
  (fun b o hc e=>⟨o,k b o hc e⟩) (fun _ _ e=>e) (fun _ _ _ e=>e) (fun b ps e=>⟨#[],by rw [e];simp⟩) (fun m hm=>?_) (fun b u e=>?_) I.bare
 ·obtain ⟨f0,f1,f2,f3,f4,f5⟩:=hf b hb;exact ⟨f3,f1,f4,f5⟩
 ·obtain ⟨o,es,ep,ho,r⟩:=hm;exact ⟨o,es,ep,k _ o (fun z=>(hf _ z).2.1 rfl) ho,r⟩
 ·refine (I.hok b u e).stay (fun c v hc q=>k c v ?_ q) (fun _ q=>q) fun _ _ q=>q
  rcases hc with z | z
  ·rw [z];exact nit b u e
  ·exact nit c _ z
end
section
end
section
end
section
variable {X:Cx}
def Yj (K:W.Frag):List V->Hp->VK->Prop:=fun xs H Q=>∃ (p:Addr) (ns:List Int),xs=[.ref p]/\CZ K H p (ns.map V.int)/\0 < ns.length/\∀ M,M∈ns->(∀ a,a∈ns->a<=M)->Q (.int M) H
theorem Qv (K:W.Frag) (hK:X.K=K:=by rfl) (hc:X.calm=true:=by rfl):Aq X (.builtin "max") (Yj K):=by
 subst hK;intro pins s σ H xs us Q I r h;obtain ⟨p,ns,rfl,hp,hne,q⟩:=h;obtain ⟨u,rfl,rx⟩:=vals1 r;cases rx;obtain ⟨its,rv,pl,hz⟩:=I.list hp;have hl:=pl.isList;have hi:=Bd rv;obtain ⟨xs,e⟩:=hi.allInts.items;have hns:ns=xs.toList.map (·.1):=by
  rw [<- hi.numsOf,<- nums_intItems,<- e]
 have hsz:0 < xs.size:=by
  have h3:=hne;rw [hns,kb,Array.length_toList] at h3;exact h3
 rw [e] at hl;refine max_intList (I.ok.hd hc) hl hsz fun v h' tk hv hk=>?_
 obtain ⟨t,rfl⟩:=intItems_at hv;obtain ⟨h1,h2⟩:=argBest_gt (numAt xs) (xs.size - 1);refine ⟨.int _,H,I.kept hk,⟨t,rfl⟩,q _ ?_ fun a ha=>?_⟩
 ·rw [hns,numAt_eq];exact getD_mem (by rw [kb,Array.length_toList];omega)
 ·rw [hns] at ha;obtain ⟨j,hj,rfl⟩:=mem_getD ha;rw [kb,Array.length_toList] at hj;rw [<- numAt_eq];exact h2 j (by omega)
end
section
variable {κ:Type} [DecidableEq κ]
noncomputable def Et (kvs:List (κ×V)) (k:κ):Option V:=(kvs.find? fun kv=>decide (kv.1=k)).map (·.2)
noncomputable def FR (kvs:List (κ×V)) (k:κ) (v:V):List (κ×V):=
 if (kvs.any fun kv=>decide (kv.1=k))=true then kvs.map (fun kv=>if kv.1=k then (kv.1,v) else kv) else kvs++[(k,v)]
theorem DL {p:κ×V} {r:List (κ×V)} {k:κ} (e:p.1=k):Et (p::r) k=some p.2:=by simp [Et,mY,e]
theorem DM {p:κ×V} {r:List (κ×V)} {k:κ} (e:¬ p.1=k):Et (p::r) k=Et r k:=by simp [Et,mY,e]
theorem KU (k:κ):∀ kvs:List (κ×V),(kvs.any fun kv=>decide (kv.1=k))=(Et kvs k).isSome
 | []=>rfl
 | p::r=>by
  rw [mI]
  by_cases e:p.1=k
  ·simp only [DL e,decide_eq_true e,nE,Option.isSome_some]
  ·rw [DM e,decide_eq_false e,Bool.false_or];exact KU k r
theorem Fu (kvs:List (κ×V)) (k:κ) (v:V):(FR kvs k v).length<=kvs.length+1:=by
 unfold FR;split
 ·rw [kb];omega
 ·rw [lJ,lE,ly];omega
theorem Hl.isSome_eq {o:Option V} {u:Option Value} (r:Hl o u):o.isSome=u.isSome:=by
 cases o with
 | none=>cases u with
  | none=>rfl
  | some _=>exact (show False from r).elim
 | some _=>cases u with
  | none=>exact (show False from r).elim
  | some _=>rfl
theorem KV.val {kvs:List (κ×V)} {vs:List (κ×Value)} (r:KV kvs vs) (k:κ):Hl (Et kvs k) (valueAt vs k):=by
 unfold KV at r
 induction r with
 | nil=>exact True.intro
 | @cons p q ps qs h t ih =>
  obtain ⟨h1,h2⟩:=h
  by_cases e:p.1=k
  ·have e':q.1=k:=h1.symm.trans e;have b:valueAt (q::qs) k=some q.2:=by simp [valueAt,mY,e']
   rw [DL e,b];exact h2
  ·have e':¬ q.1=k:=fun z=>e (h1.trans z)
   have b:valueAt (q::qs) k=valueAt qs k:=by simp [valueAt,mY,e']
   rw [DM e,b];exact ih
theorem KV.any {kvs:List (κ×V)} {vs:List (κ×Value)} (r:KV kvs vs) (k:κ):(kvs.any fun kv=>decide (kv.1=k))=vs.any fun kv=>decide (kv.1=k):=by
 unfold KV at r
 induction r with
 | nil=>rfl
 | cons h t ih=>rw [mI,mI,ih,h.1]
theorem KV.repl {kvs:List (κ×V)} {vs:List (κ×Value)} (r:KV kvs vs) (k:κ) {y:V} {u:Value} (ry:RelV y u) :
    KV (kvs.map fun kv=>if kv.1=k then (kv.1,y) else kv) (vs.map fun kv=>if kv.1=k then (kv.1,u) else kv):=by
  unfold KV at r ⊢
  induction r with
  | nil=>exact .nil
  | @cons p q ps qs h t ih =>
    rw [ko,ko];refine .cons ?_ ih;obtain ⟨h1,h2⟩:=h
    by_cases e:p.1=k
    · rw [if_pos e,if_pos (h1.symm.trans e)];exact ⟨h1,ry⟩
    · rw [if_neg e,if_neg (fun z=>e (h1.trans z))];exact ⟨h1,h2⟩
theorem KV.put {kvs:List (κ×V)} {vs:List (κ×Value)} (r:KV kvs vs) (k:κ) {y:V} {u:Value} (ry:RelV y u):KV (FR kvs k y) (stored vs k u):=by
 unfold FR stored;rw [r.any k]
 by_cases e:(vs.any fun kv=>decide (kv.1=k))=true
 ·rw [if_pos e,if_pos e];exact r.repl k ry
 ·rw [if_neg e,if_neg e];exact Paired.snoc r ⟨rfl,ry⟩
theorem KV.length {kvs:List (κ×V)} {vs:List (κ×Value)} (r:KV kvs vs):kvs.length=vs.length:=Paired.length r
end
theorem LN {P:Program} {w:World} {k:BB} {u:Value} (r:RelV (kV k) u):(Ay P w).is k u=true:=by
 cases k with
 | inl i=>obtain ⟨t,e⟩:=(show ∃ t,u=Value.int i t from r);subst e;exact LI P w i t
 | inr x=>obtain ⟨t,e⟩:=(show ∃ t,u=Value.str x t from r);subst e;exact LH P w x t
theorem Iy {P:Program} {w:World}:∀ {ks:List BB} {us:List Value},AD (ks.map kV) us->ItemsAre (Ay P w) ks us
 | [],_,r=>by rw [mZ] at r;cases r;exact .nil
 | k::ks,_,r=>by
  rw [ko] at r;cases r with
  | cons h t=>exact .cons (LN h) (Iy t)
abbrev KT (H:Hp):List (List BB×V)->List (List BB×Addr×Value)->Prop:=Paired fun p q=>p.1=q.1/\H q.2.1=some (.tup (p.1.map kV))/\RelV p.2 q.2.2
theorem KT.val {H:Hp} {kvs:List (List BB×V)} {xs:List (List BB×Addr×Value)} (r:KT H kvs xs) (k:List BB):Hl (Et kvs k) ((atKey xs k).map (·.2)):=by
 induction r with
 | nil=>exact True.intro
 | @cons p q ps qs h t ih =>
  obtain ⟨h1,_,h2⟩:=h
  by_cases e:p.1=k
  ·have e':q.1=k:=h1.symm.trans e;have b:atKey (q::qs) k=some q.2:=by simp [atKey,mY,e']
   rw [DL e,b];exact h2
  ·have e':¬ q.1=k:=fun z=>e (h1.trans z)
   have b:atKey (q::qs) k=atKey qs k:=by simp [atKey,mY,e']
   rw [DM e,b];exact ih
theorem KT.repl {H:Hp} {kvs:List (List BB×V)} {xs:List (List BB×Addr×Value)} (r:KT H kvs xs) (k:List BB) {y:V} {u:Value} (ry:RelV y u) :
    KT H (kvs.map fun kv=>if kv.1=k then (kv.1,y) else kv) (xs.map (putAt k u)):=by
  induction r with
  | nil=>exact .nil
  | @cons p q ps qs h t ih =>
    rw [ko,ko];refine .cons ?_ ih;obtain ⟨h1,h2,h3⟩:=h;unfold putAt
    by_cases e:p.1=k
    · rw [if_pos e,if_pos (h1.symm.trans e)];exact ⟨h1,h2,ry⟩
    · rw [if_neg e,if_neg (fun z=>e (h1.trans z))];exact ⟨h1,h2,h3⟩
theorem KT.put {H:Hp} {kvs:List (List BB×V)} {xs:List (List BB×Addr×Value)} (r:KT H kvs xs) (k:List BB) {b:Addr} {y:V} {u:Value} (hb:H b=some (.tup (k.map kV))) (ry:RelV y u) :
    KT H (FR kvs k y) (storedH xs k b u):=by
  have e:(kvs.any fun kv=>decide (kv.1=k))=(atKey xs k).isSome:=by
    rw [KU,(r.val k).isSome_eq,nQ]
  unfold FR storedH;rw [e]
  by_cases q:(atKey xs k).isSome=true
  · rw [if_pos q,if_pos q];exact r.repl k ry
  · rw [if_neg q,if_neg q];exact Paired.snoc r ⟨rfl,hb,ry⟩
theorem KT.keeps {H H':Hp} {kvs:List (List BB×V)} {xs:List (List BB×Addr×Value)} (r:KT H kvs xs) (ht:∀ b ys,H b=some (.tup ys)->H' b=some (.tup ys)):KT H' kvs xs:=
 Paired.mapP r fun _ _ z=>⟨z.1,ht _ _ z.2.1,z.2.2⟩
section
variable {P:Program} {w:World} {H:Hp} {h:Heap} {a:Addr}
theorem Yi {u:HO} (ok:EO P w H h) (e:Rd H a u):AQ P w H h a u:=e.ok ok
theorem JF {kvs:List (BB×V)} (ok:EO P w H h) (e:Rd H a (.dK kvs)):kvs.length<=sizeLine/\(a == sysModules)=false/\∃ vs,KV kvs vs/\h.DictOf (Ay P w) a vs:=
 show AQ P w H h a (.dK kvs) from Yi ok e
theorem gM {kvs:List (BB×V)} (ok:EO P w H h) (e:H a=some (.dK kvs)):kvs.length<=sizeLine/\(a == sysModules)=false/\∃ vs,KV kvs vs/\h.DictOf (Ay P w) a vs:=JF ok (.inl e)
theorem HL {ks:List BB} (ok:EO P w H h) (e:H a=some (.tup (ks.map kV))):(tupleKind (Ay P w)).is h ks a:=by
 obtain ⟨_,its,r,o,h1,h2,_,n,h3⟩:=(show AQ P w H h a (.tup (ks.map kV)) from ok a _ e);exact ⟨o,its.toArray,n,h1,h2,h3,by simpa using Iy r⟩
theorem Lh {kvs:List (List BB×V)} (ok:EO P w H h) (e:Rd H a (.dT kvs)):kvs.length<=sizeLine/\(a == sysModules)=false /\
    ∃ xs,KT H kvs xs/\h.DictOfH (tupleKind (Ay P w)) a xs:=by
  obtain ⟨z,y,xs,r,o,es,ep,h1,h2,h3,h4,h5⟩:=(show AQ P w H h a (.dT kvs) from Yi ok e);refine ⟨z,y,xs,r,o,es,ep,h1,h2,h3,h4,fun x hx=>?_,h5⟩;have all:∀ {l:List (List BB×V)} {m:List (List BB×Addr×Value)},KT H l m->∀ x∈m,(tupleKind (Ay P w)).is h x.1 x.2.1:=by
    intro l m q
    induction q with
    | nil=>intro x hx;exact nomatch hx
    | @cons p q ps qs hq t ih =>
      intro x hx;rcases km.mp hx with e | hx
      · subst e;exact HL ok (by rw [<- hq.1];exact hq.2.1)
      · exact ih x hx
  exact all r x hx
theorem gL {kvs:List (List BB×V)} (ok:EO P w H h) (e:H a=some (.dT kvs)):kvs.length<=sizeLine/\(a == sysModules)=false /\
    ∃ xs,KT H kvs xs/\h.DictOfH (tupleKind (Ay P w)) a xs:=Lh ok (.inl e)
end
def IM (H:Hp) (a:Addr) (y:V) (r:Option V):Prop:=
 (∃ kvs k,Rd H a (.dK kvs)/\y=kV k/\r=Et kvs k)\/∃ kvs k b,Rd H a (.dT kvs)/\y=.ref b/\H b=some (.tup (k.map kV))/\r=Et kvs k
def Vh (H:Hp) (a:Addr) (y v:V) (H':Hp):Prop:=
 (∃ kvs k,H a=some (.dK kvs)/\y=kV k/\kvs.length < sizeLine/\H'=upd H a (.dK (FR kvs k v))) \/
 ∃ kvs k b,H a=some (.dT kvs)/\y=.ref b/\H b=some (.tup (k.map kV))/\kvs.length < sizeLine/\H'=upd H a (.dT (FR kvs k v))
theorem IM.k {H:Hp} {a:Addr} {kvs:List (BB×V)} {k:BB} (e:H a=some (.dK kvs)):IM H a (kV k) (Et kvs k):=.inl ⟨kvs,k,.inl e,rfl,rfl⟩
theorem Vh.k {H:Hp} {a:Addr} {kvs:List (BB×V)} {k:BB} {v:V} (e:H a=some (.dK kvs)) (hl:kvs.length < sizeLine):Vh H a (kV k) v (upd H a (.dK (FR kvs k v))):=.inl ⟨kvs,k,e,rfl,hl,rfl⟩
section
variable {X:Cx} {pins:List (Addr×Obj)} {σ:St} {H:Hp} {s:Shared} {a:Addr} {y v:V} {u r:Value} {o:Option V} {A:Around} {E:Value->Shared->Prop}
theorem Inv.big (I:Inv X pins σ H s):sysModules < s.heap.objs.size:=by
 have h:mainGlobals < s.heap.objs.size:=(I.mod.glob.keeps I.bk).lt;exact Nat.lt_trans (by decide) h
theorem Qo {Q:Value->Shared->Prop} (hu:A.units+1 < cLine) (I:Inv X pins σ H s) (g:IM H a y (some v)) (ry:RelV y u) (h:∀ w' s',Inv X pins σ H s'->RelV v w'->Q w' s') :
    wpAny (model X.prog X.w) A (getItem (.ref a) u) Q E s:=by
  rcases g with ⟨kvs,k,e,ey,l⟩ | ⟨kvs,k,b,e,ey,eb,l⟩
  · subst ey;obtain ⟨z,hd,vs,rel,dd⟩:=JF I.hok e;obtain ⟨w',hw,rw'⟩:=Hl.some_of (v:=v) (o:=valueAt vs k) (by rw [l];exact rel.val k);exact wpAny_getItem_of (LN ry) dd.mapOf hw (h w' _ (I.tok _) rw')
  · subst ey;cases (show u=Value.ref b from ry);obtain ⟨z,hd,xs,rel,dd⟩:=Lh I.hok e;obtain ⟨w',hw,rw'⟩:=Hl.some_of (v:=v) (o:=(atKey xs k).map (·.2)) (by rw [l];exact rel.val k);obtain ⟨p,hp,hp2⟩:=lH.mp hw;refine wpAny_getItem_heap (tupleKind_room_in1 hu) (HL I.hok eb) dd hp ?_;rw [hp2];exact h w' _ (I.tok _) rw'
theorem iz {Q:Value->Shared->Prop} (hu:A.units+1 < cLine) (I:Inv X pins σ H s) (g:IM H a y o) (ry:RelV y u) (h:∀ s',Inv X pins σ H s'->Q (.bool o.isSome) s') :
    wpAny (model X.prog X.w) A (compareOp .In u (.ref a)) Q E s:=by
  rcases g with ⟨kvs,k,e,ey,l⟩ | ⟨kvs,k,b,e,ey,eb,l⟩
  · subst ey;obtain ⟨z,hd,vs,rel,dd⟩:=JF I.hok e;refine wpAny_in_of (LN ry) hd dd.mapOf ?_;rw [<- (rel.val k).isSome_eq,<- l];exact h _ (I.tok _)
  · subst ey;cases (show u=Value.ref b from ry);obtain ⟨z,hd,xs,rel,dd⟩:=Lh I.hok e;refine wpAny_in_heap (tupleKind_room_in1 hu) (HL I.hok eb) hd dd ?_;have q:=(rel.val k).isSome_eq;rw [nQ] at q;rw [<- q,<- l];exact h _ (I.tok _)
theorem XY {Q:Value->Shared->Prop} (hu:A.units+1 < cLine) (I:Inv X pins σ H s) (g:IM H a y o) (ry:RelV y u) (h:∀ s',Inv X pins σ H s'->Q (.bool (!o.isSome)) s') :
    wpAny (model X.prog X.w) A (compareOp .NotIn u (.ref a)) Q E s:=by
  rcases g with ⟨kvs,k,e,ey,l⟩ | ⟨kvs,k,b,e,ey,eb,l⟩
  · subst ey;obtain ⟨z,hd,vs,rel,dd⟩:=JF I.hok e;refine wpAny_notIn_of (LN ry) hd dd.mapOf ?_;rw [<- (rel.val k).isSome_eq,<- l];exact h _ (I.tok _)
  · subst ey;cases (show u=Value.ref b from ry);obtain ⟨z,hd,xs,rel,dd⟩:=Lh I.hok e;refine wpAny_notIn_heap (tupleKind_room_in1 hu) (HL I.hok eb) hd dd ?_;have q:=(rel.val k).isSome_eq;rw [nQ] at q;rw [<- q,<- l];exact h _ (I.tok _)
theorem Ov {h':Heap} {t':Nat} {ob:HO} (I:Inv X pins σ H s) (mu:dN (H a)) (hs:Heap.SameBut a s.heap h') (he:∃ q,h'.get? a=some q) (new:AQ X.prog X.w (upd H a ob) h' a ob) :
    Inv X pins σ (upd H a ob) { s with heap:=h',toks:=t' }:=
  I.write (x:=a) (e:=a) mu (.inl rfl) (fun b q hb z=>(hs.2 b hb).trans z) he new
theorem cJ {P:Program} {w:World} {H':Hp} {h':Heap} {kvs:List (BB×V)} {vs:List (BB×Value)} (z:kvs.length<=sizeLine) (hd:(a == sysModules)=false) (rel:KV kvs vs) (dd:h'.DictOf (Ay P w) a vs) :
    AQ P w H' h' a (.dK kvs):=⟨z,hd,vs,rel,dd⟩
theorem Qn {H':Hp} {Q:Unit->Shared->Prop} (hu:A.units+1 < cLine) (I:Inv X pins σ H s) (g:Vh H a y v H') (ry:RelV y u) (rv:RelV v r) (h:∀ s',Inv X pins σ H' s'->Q () s') :
    wpAny (model X.prog X.w) A (setItem (.ref a) u r) Q E s:=by
  rcases g with ⟨kvs,k,e,ey,l,eH⟩ | ⟨kvs,k,b,e,ey,eb,l,eH⟩
  · subst ey eH;obtain ⟨z,hd,vs,rel,dd⟩:=gM I.hok e;have hz:vs.length<=sizeLine:=by rw [<- rel.length];exact z
    have hl:(FR kvs k v).length<=sizeLine:=by have:=Fu kvs k v;omega
    refine wpAny_setItem_pairs (hsz:=hz) (LN ry) dd fun h' dd' hs=>h _ ?_
    have he:∃ q,h'.get? a=some q:=let ⟨q,_,_,hq,_⟩:=dd';⟨q,hq⟩;exact Ov I (by rw [e];exact True.intro) hs he (cJ hl hd (rel.put k rv) dd')
  · subst ey eH;cases (show u=Value.ref b from ry);obtain ⟨z,hd,xs,rel,dd⟩:=gL I.hok e;have hz:xs.length<=sizeLine:=by rw [<- Paired.length rel];exact z
    have hl:(FR kvs k v).length<=sizeLine:=by have:=Fu kvs k v;omega
    refine wpAny_setItem_heap (hsz:=hz) (tupleKind_room_in1 hu) (HL I.hok eb) dd fun h' dd' hs=>h _ ?_
    obtain ⟨q,es,ep,hq,h2,h3,h4,_,h5⟩:=dd';refine Ov I (by rw [e];exact True.intro) hs ⟨q,hq⟩ ⟨hl,hd,_,(rel.put k eb rv).keeps fun c ys ec=>?_,q,es,ep,hq,h2,h3,h4,h5⟩;rw [AN (fX ec e (fun z=>nomatch z))];exact ec
end
section
variable {X:Cx} {pins:List (Addr×Obj)} {σ:St} {H:Hp} {s:Shared} {a:Addr} {kvs:List (BB×V)} {k:BB} {u:Value} {A:Around} {E:Value->Shared->Prop}
theorem gN {Q:Value->Shared->Prop} (I:Inv X pins σ H s) (e:Rd H a (.dK kvs)) (h:∀ t s',Inv X pins σ H s'->Q (.int kvs.length t) s'):wpAny (model X.prog X.w) A (call (.builtin "len") [.ref a]) Q E s:=by
 obtain ⟨z,hd,vs,rel,dd⟩:=JF I.hok e;refine call_len_dict hd dd (by rw [<- rel.length];rw [sizeLine_eq] at z;omega) ?_;rw [<- rel.length];exact h _ _ (I.tok _)
end
theorem Li {X:Cx} {pins:List (Addr×Obj)} {σ:St} {H:Hp} {s:Shared} {a:Addr} {y:V} {o:Option V} (I:Inv X pins σ H s) (g:IM H a y o):s.TypeIs (.ref a) "dict" := by
 rcases g with ⟨kvs,k,e,_,_⟩ | ⟨kvs,k,b,e,_,_,_⟩
 ·obtain ⟨_,_,vs,_,dd⟩:=JF I.hok e;exact dd.typeIs
 ·obtain ⟨_,_,xs,_,dd⟩:=Lh I.hok e;exact dd.typeIs
section
end
theorem UW {P:Program} {w:World} {H:Hp} (h:Heap) (hb:sysModules < h.objs.size):AQ P w H (h.push { cls:=.type "dict", data:=.dict #[] }) h.objs.size (.dK []):=
 ⟨lq _,beq_eq_false_iff_ne.mpr (Ne.symm (lP hb)),[],.nil,Heap.DictOf.new h⟩
abbrev Ru:TE:=fun _ H Q=>∀ p,H p=none->Q (.ref p) (upd H p (.dK []))
section
variable {X:Cx} {pos:Pos}
theorem LA:PE X (.Dict [] [] pos) Ru:=fun pins s σ H Q I h =>
 wpAny_Dict_empty ⟨.ref s.heap.objs.size,_,I.laid (a:=s.heap.objs.size) (o:=.dK []) (t':=s.toks) (fun _ _ q=>kY _ q) (kj _) (UW s.heap I.big),rfl,h _ (I.hok.fresh (kj _))⟩
end
section
end
section
end
section
end
section
end
section
variable {X:Cx}
theorem Qy:Aq X (.builtin "len") (fun xs H Q=>∃ a kvs,xs=[V.ref a]/\H a=some (.dK kvs)/\Q (.int kvs.length) H):=by
 intro pins s σ H xs us Q I r h;obtain ⟨a,kvs,rfl,ha,q⟩:=h;obtain ⟨u,rfl,ru⟩:=vals1 r;cases ru;exact gN I (.inl ha) fun t s' I'=>⟨.int kvs.length,H,I',⟨t,rfl⟩,q⟩
end
section
end
section
end
section
end
section
end
section
end
section
end
section
end
section
end
section
end
noncomputable def cs (z:Str):List Nat:=z.cps.toList
theorem dP (z:Str):z=tx (cs z):=Nz z
noncomputable def jn (sep:List Nat):List (List Nat)->List Nat
 | []=>[]
 | x::ys=>x++(ys.flatMap fun y=>sep++y)
theorem YU (sep:List Nat):∀ ys:List (List Nat),Txt.join (tx sep) (ys.map tx)=tx (jn sep ys):=by
 intro ys;have h:Txt.join (tx sep) (ys.map tx)=Str.join (tx sep) (ys.map tx):=by simpa using join_plain_closes (tx sep) (ys.map tx)
 rw [h];have:∀ (x:List Nat) (ys:List (List Nat)),Str.join (tx sep) ((x::ys).map tx)=tx (x++(ys.flatMap fun y=>sep++y)):=by
  intro x ys
  induction ys generalizing x with
  | nil=>simp [Str.join]
  | cons y ys ih =>
   show tx x++tx sep++Str.join (tx sep) ((y::ys).map tx)=_;rw [ih y,MQ,MQ];simp
 cases ys with
 | nil=>rfl
 | cons x ys=>exact this x ys
theorem Zf (ys:List (List Nat)):((ys.map tx).map (·.length)).sum=(ys.map List.length).sum:=by
 rw [mO];congr 1
section
end
end L2
namespace L2
open PySem PySem.Spec PyProof.Rows PySem.Builtin PySem.Builtin.Str
noncomputable def MK (c:Nat):List Nat->List (List Nat)
 | []=>[[]]
 | a::l=>if a=c then []::MK c l else match MK c l with
  | p::ps=>(a::p)::ps
  | []=>[[a]]
theorem Ge {c:Nat}:∀ {x:List Nat} {l:List Nat},c∉x->MK c (x++l)=match MK c l with | p::ps=>(x++p)::ps | []=>[x]
 | [],l,_=>by
  cases e:MK c l with
  | nil =>
   cases l with
   | nil=>cases e
   | cons a l =>
    unfold MK at e;split at e
    ·cases e
    ·split at e<;>cases e
  | cons p ps=>simp [e]
 | a::x,l,h=>by
  rw [km,not_or] at h;rw [mf,MK,if_neg (fun z=>h.1 z.symm),Ge h.2];cases MK c l<;>rfl
theorem Ma {c:Nat}:∀ {ps:List (List Nat)},ps≠[]->(∀ p∈ps,c∉p)->MK c (jn [c] ps)=ps
 | [],h,_=>(h rfl).elim
 | [x],_,h=>by
  have:jn [c] [x]=x++[]:=by simp [jn]
  rw [this,Ge (h x kg)];simp [MK]
 | x::y::ps,_,h=>by
  have e:jn [c] (x::y::ps)=x++(c::jn [c] (y::ps)):=by simp [jn]
  rw [e,Ge (h x kg),MK,if_pos rfl,Ma (by simp) fun p hp=>h p (kh _ hp)];simp
theorem Ke (l:List Nat) (c:Nat):Txt.split (tx l) (tx [c])=(MK c l).map tx:=by
 have hj:=StrLaws.join_split (tx l) (tx [c]);have hf:=StrLaws.split_free (tx l) c;have hp:=split_pos (tx l) (tx [c]);have e:Txt.split (tx l) (tx [c])=((Txt.split (tx l) (tx [c])).map cs).map tx:=by
  rw [mO]
  conv=>lhs;rw [<- List.map_id (Txt.split (tx l) (tx [c]))]
  exact nL fun z _=>dP z
 have hj2:Txt.join (tx [c]) (((Txt.split (tx l) (tx [c])).map cs).map tx)=tx l:=by
  rw [<- e];have h:Txt.join (tx [c]) (Txt.split (tx l) (tx [c]))=Str.join (tx [c]) (Txt.split (tx l) (tx [c])):=by simpa using join_plain_closes (tx [c]) (Txt.split (tx l) (tx [c]))
  rw [h];exact hj
 rw [YU] at hj2;have hl:jn [c] ((Txt.split (tx l) (tx [c])).map cs)=l:=by
  have:=congrArg cs hj2;simpa [cs,tx] using this
 have u:=Ma (c:=c) (ps:=(Txt.split (tx l) (tx [c])).map cs) (fun z=>by
  have:=congrArg List.length z;simp only [kb,ly] at this;omega) fun p hp=>by
  obtain ⟨z,hz,rfl⟩:=lR.mp hp;exact hf z hz
 rw [hl] at u;rw [u];exact e
section
variable {prog:Program} {w:World} {A:Around} {E:Value->Shared->Prop} {s:Shared} {x y:Str} {t u:Tok} {Q:Value->Shared->Prop}
theorem Pl (hy:(y.length == 0)=false) (hz:x.length<=1000000)
    (hq:∀ l tk,l.map (·.1)=Txt.split x y->Q (.ref s.heap.objs.size) { s with heap:=s.heap.push { cls:=.type "list", data:=.seq (strValues l).toArray },toks:=tk }) :
    wpAny (model prog w) A (call (.builtin "str.split") [.str x t,.str y u]) Q E s:=by
  have hsz:x.length<=sizeLine:=by rw [sizeLine_eq];omega
  have hsz2:(partsBetween x (occurrences x y 0 x.length (x.length+1)) y.length).length<=sizeLine:=by
    have e1:=StrLaws.occ_length_le x y 0 x.length (x.length+1);rw [length_partsBetween,sizeLine_eq];omega
  cases h1:(decide (x.length < y.length) || decide (strKind x < strKind y))
  · cases hf:(occurrences x y 0 x.length (x.length+1)).isEmpty
    · refine call_meets F.slot_str_split (typeIs_str _ _ _) F.entry_str_split (F.args_str_split_2 _ _) (meets_str_split_sep x y t u h1 hy hf hsz hsz2) ?_
      show wants Q E _ { s with toks:=_,heap:=s.heap.push { cls:=.type "list", data:=.seq (strsFrom s.toks (partsBetween x (occurrences x y 0 x.length (x.length+1)) y.length)).toArray } }
      rw [strsFrom_eq];exact hq (numbered s.toks _) _ ((numbered_texts _ _).trans ((if_neg (ne_true_of_eq_false h1)).trans (if_neg (ne_true_of_eq_false hf))).symm)
    · exact call_meets F.slot_str_split (typeIs_str _ _ _) F.entry_str_split (F.args_str_split_2 _ _) (meets_str_split_not_found x y t u h1 hy hf)
        (hq [(x,t)] s.toks ((if_neg (ne_true_of_eq_false h1)).trans (if_pos hf)).symm)
  · exact call_meets F.slot_str_split (typeIs_str _ _ _) F.entry_str_split (F.args_str_split_2 _ _) (meets_str_split_cannot_occur x y t u h1)
      (hq [(x,t)] s.toks (if_pos h1).symm)
end
def Sg:V->List V->Hp->VK->Prop:=fun x vs H Q=>∃ l c,x=.str (tx l)/\vs=[.str (tx [c])]/\l.length<=1000000/\∀ p,H p=none->Q (.ref p) (upd H p (.lst ((MK c l).map fun z=>V.str (tx z))))
theorem IW:∀ (l:List (Str×Tok)),AD ((l.map (·.1)).map V.str) (strValues l)
 | []=>.nil
 | (x,t)::l=>.cons ⟨t,rfl⟩ (IW l)
variable {X:Cx}
theorem TY:RQ X "str.split" Sg:=by
 intro pins s σ H x vs v us Q I rx rv h;obtain ⟨l,c,rfl,rfl,hz,q⟩:=h;obtain ⟨t,rfl⟩:=rx;obtain ⟨u,rfl,ru⟩:=vals1 rv;obtain ⟨t2,rfl⟩:=ru;refine Pl (by rw [BH];rfl) (by rw [BH];exact hz) fun ls tk e=>?_
 rw [Ke] at e;have hv:=IW ls;rw [e,mO] at hv;have hl:(MK c l).length<=1000002:=by
  have:=split_le (tx l) (tx [c]);rw [Ke,kb,BH] at this;omega
 exact ⟨.ref s.heap.objs.size,_,I.laid (t':=tk) (o:=.lst ((MK c l).map fun z=>V.str (tx z))) (fun b ob q=>kY _ q) (kj _) (show AQ X.prog X.w _ _ _ (.lst _) from ⟨by rw [kb,sizeLine_eq];omega,strValues ls,0,hv,kz _ rfl⟩),rfl,q _ (I.hok.fresh (kj _))⟩
def Yn:List V->Hp->VK->Prop:=fun xs H Q=>∃ l,xs=[.str (tx l)]/\(∀ c∈l,48<=c/\c<=57)/\l≠[]/\l.length<=600/\Q (.int ((NumText.digitsVal l:Nat):Int)) H
theorem RD:Aq X (.type "int") Yn:=by
 intro pins s σ H xs us Q I r h;obtain ⟨l,rfl,hd,hne,hl,q⟩:=h;obtain ⟨u,rfl,ru⟩:=vals1 r;obtain ⟨t,rfl⟩:=ru;have e:=PySem.intText_digits (x:=tx l) (by have e:(tx l).cps.toList=l:=(by simp [tx]);rw [e];exact hd) (by simpa [tx] using hne) (by rw [BH];omega);refine W.KIN.call_text e (by rw [BH];omega) ⟨.int _,H,I.tok _,⟨_,rfl⟩,?_⟩;have:(tx l).cps.toList=l:=by simp [tx]
 rw [this];exact q
def Ko:V->List V->Hp->VK->Prop:=fun x vs H Q=>∃ l b xs zs,x=.ref l/\vs=[.ref b]/\H l=some (.lst xs)/\H b=some (.tup zs)/\xs.length+zs.length<=sizeLine/\Q .non (upd H l (.lst (xs++zs)))
theorem Ms:dO X "list.extend" Ko:=by
 intro pins s σ H x vs v us Q I rx rv h;obtain ⟨l,b,xs,zs,rfl,rfl,hH,hB,hz,q⟩:=h;cases rx;obtain ⟨u,rfl,ru⟩:=rv.one;cases ru;obtain ⟨z,its,n,r,hl,e⟩:=I.lstM hH;obtain ⟨its2,r2,⟨o,ho,hc,n2,hd⟩,_⟩:=I.tuple (a:=b) (xs:=zs) (.inl (.inl hB));have hl2:=r2.length;have hsz:its.toArray.size+its2.toArray.size<=sizeLine:=by rw [kc,kc];omega
 have hlong:¬ (!its.toArray.isEmpty && Builtin.List.listTooLong (its.toArray.size+its2.toArray.size))=true:=by
  rw [HC hsz,nG];exact kr
 refine wpAny_call_entry F.slot_list_extend ⟨_,e,rfl⟩ F.entry_list_extend ?_ (F.args_list_extend_2 _ _);show wpAny _ _ (Builtin.List.listExtendWith (.ref l) (.ref b) .none) _ _ s;unfold Builtin.List.listExtendWith
 refine wpAny_bind (wpAny_typeOf (T := "tuple") ⟨o,ho,hc⟩ ?_)
 have ht:((Builtin.List.listSameRef (.ref l) (.ref b) || Value.type "tuple" == Value.type "list") || Value.type "tuple" == Value.type "tuple")=true:=by
  have:(Value.type "tuple" == Value.type "tuple")=true:=by rfl
  rw [this];simp
 rw [if_pos ht];refine wpAny_bind (listItems_at ho hd ?_);refine wpAny_bind (listItems_at e rfl ?_);rw [if_neg hlong];refine wpAny_bind (listUpdate_at e rfl ?_ (by rw [kc];omega) (by rw [Array.size_append];omega));refine wpAny_pure ?_;refine ⟨_,rfl,.non,_,I.lset (its':=its++its2) hH e (by simp) (r.append r2) ?_,rfl,q⟩;rw [lJ];omega
end L2
namespace HT
open PySem PyProof.Rows
noncomputable def lexLe:List Int->List Int->Bool
 | [],[]=>true
 | [],_::_=>true
 | _::_,[]=>false
 | x::xs,y::ys=>if x=y then lexLe xs ys else decide (x<=y)
theorem NB (x y:Int) (xs ys:List Int):lexLe (x::xs) (y::ys)=if x=y then lexLe xs ys else decide (x<=y):=rfl
theorem Hw:lexLe [] []=true:=rfl
theorem HJ (y:Int) (ys:List Int):lexLe [] (y::ys)=true:=rfl
theorem HK (x:Int) (xs:List Int):lexLe (x::xs) []=false:=rfl
theorem Se (A:Around) (s:Shared) (a:Int) (t:Tok) (c:Int) (u:Tok) (prog:Program) (w:World) (E:Value->Shared->Prop) (Q:Value->Shared->Prop) (h:Q (.bool (decide (a<=c))) s) :
    wpAny (model prog w) A (richCompare .LtE (.int a t) (.int c u)) Q E s:=
  (PyProof.Rows.le_int h:wpAny (model prog w) A (compareOp .LtE (.int a t) (.int c u)) Q E s)
section
open PySem.SeqAt
open PySem.AutoSeq1 (wpAny_loadPart')
open PySem.MeetsSeq PySem.MeetsSeq2 PySem.MeetsSeq3
theorem Hs (l b:Addr) (items items2:Array Value) (n n2:Nat) (dd dd2:Option Addr) (sl sl2:Array (Option Value)) (ns ms:List Int) (hi:IntsAre items.toList ns) (hj:IntsAre items2.toList ms) :
    Meets (Builtin.«tuple.__le__» ⟨[.ref l,.ref b],[]⟩)
      (fun _ R s=>s.heap.get? l=some { cls:=.type "tuple", dict:=dd,data:=.seq items n,slots:=sl }/\s.heap.get? b=some { cls:=.type "tuple", dict:=dd2,data:=.seq items2 n2,slots:=sl2 } /\
        R (.ok (.ret (.bool (lexLe ns ms)))) s):=
  .of_wp fun prog w A R s h=>by
    obtain ⟨hp,g,d,tk,os⟩:=s;obtain ⟨hl,hb,h⟩:=h;have f2:=AutoSeq1.sub_tuple_tuple;have z1:items.size=ns.length:=by rw [<- hi.length];simp
    have z2:items2.size=ms.length:=by rw [<- hj.length];simp
    wp_walk using wpAny_loadPart' hl,wpAny_loadPart' hb,wpAny_forIn_list _ (fun rest b s'=>b.1=none/\s'=⟨hp,g,d,tk,os⟩/\∃ (vs ws:List Value) (ns' ms':List Int),rest=vs.zip ws /\
      IntsAre vs ns'/\IntsAre ws ms'/\ns'.length+items2.size=ms'.length+items.size/\R (.ok (.ret (.bool (lexLe ns' ms')))) ⟨hp,g,d,tk,os⟩) _
    case turn =>
      rintro ⟨y,x⟩ rest b s' ⟨hb',rfl,vs,ws,ns',ms',hz,hvi,hwi,hlen,hR⟩;cases hvi with
      | nil=>rw [List.zip_nil_left] at hz;cases hz
      | cons a t hvi' =>
        cases hwi with
        | nil=>rw [List.zip_nil_right] at hz;cases hz
        | cons c u hwi' =>
          rw [lx] at hz;injection hz with hyx hrest
          injection hyx with hy hx
          subst hy hx;rw [NB] at hR;simp only [lE] at hlen;obtain ⟨e,he,hiff⟩:=Lg A.in1 ⟨hp,g,d,tk,os⟩ a t c u;refine wpAny_bind (he prog w _ _ ?_);cases e with
          | true =>
            rw [if_pos (hiff.mp rfl)] at hR
            wp_walk
            exact ⟨rfl,rfl,_,_,_,_,hrest,hvi',hwi',by omega,hR⟩
          | false =>
            rw [if_neg (fun q=>absurd (hiff.mpr q) kr)] at hR;have hri:=Se A.in1 ⟨hp,g,d,tk,os⟩ a t c u prog w
            wp_walk using hri
            exact ⟨_,rfl,by simpa using hR⟩
    case fin =>
      rintro ⟨b1,b2⟩ s' ⟨hb',rfl,vs,ws,ns',ms',hz,hvi,hwi,hlen,hR⟩;simp only at hb';subst hb';have hv:lexLe ns' ms'=decide (items.size<=items2.size):=by
        cases hvi with
        | nil =>
          cases hwi with
          | nil =>
            simp only [ly] at hlen;rw [Hw];exact (decide_eq_true (by omega)).symm
          | cons c u hw =>
            simp only [ly,lE] at hlen;rw [HJ];exact (decide_eq_true (by omega)).symm
        | cons a t hv =>
          cases hwi with
          | nil =>
            simp only [ly,lE] at hlen;rw [HK];exact (decide_eq_false (by omega)).symm
          | cons c u hw =>
            rw [lx] at hz;cases hz
      rw [hv] at hR
      wp_walk
      exact ⟨_,rfl,by simpa [Builtin.Tuple.tupleCompareSizes] using hR⟩
    case h =>
      exact ⟨rfl,rfl,items.toList,items2.toList,ns,ms,rfl,hi,hj,by omega,h⟩
end
section
variable {prog:Program} {w:World} {A:Around} {E:Value->Shared->Prop} {s:Shared}
theorem le_tupInts {l b:Addr} {items items2:Array Value} {ns ms:List Int} {Q:Value->Shared->Prop} (hl:IsTup s.heap l items) (hb:IsTup s.heap b items2) (hi:IntsAre items.toList ns) (hj:IntsAre items2.toList ms)
    (hu:A.units < cLine) (h:Q (.bool (lexLe ns ms)) s):wpAny (model prog w) A (compareOp .LtE (.ref l) (.ref b)) Q E s:=by
  obtain ⟨⟨cls,dd,data,sl⟩,ho,hc,n,hd⟩:=id hl;obtain ⟨⟨cls2,dd2,data2,sl2⟩,ho2,hc2,n2,hd2⟩:=id hb;simp only at hc hd hc2 hd2;subst hc hd hc2 hd2;exact richCompare_meets_room (op:=.LtE) ⟨_,ho,rfl⟩ ⟨_,ho2,rfl⟩ PySem.F.slot_tuple_le PySem.F.entry_tuple_le (PySem.F.args_tuple_le_2 _ _) (Hs l b items items2 n n2 dd dd2 sl sl2 ns ms hi hj)
    ⟨ho,ho2,show Value.bool (lexLe ns ms)≠Value.notImplemented/\Q (.bool (lexLe ns ms)) s from ⟨(fun x=>nomatch x),h⟩⟩ hu
end
end HT
namespace L2
open PySem PySem.Spec PyProof.Rows
section
variable {X:Cx}
def ee (K:W.Frag):R2:=fun x y H Q=>∃ a b ns ms,x=.ref a/\y=.ref b/\DG K H a (ns.map V.int)/\DG K H b (ms.map V.int)/\Q (.bl (HT.lexLe ns ms)) H
theorem bA (hu:X.A.units < cLine):Br X (compareOp .LtE) (ee X.K):=by
 intro pins s σ H x y v u Q I rx ry h;obtain ⟨a,b,ns,ms,rfl,rfl,ha,hb,q⟩:=h;cases rx;cases ry;obtain ⟨its,r1,p1,_⟩:=I.tuple ha;obtain ⟨its2,r2,p2,_⟩:=I.tuple hb;have i1:IntsAre its.toArray.toList ns:=Bd r1;have i2:IntsAre its2.toArray.toList ms:=Bd r2;exact HT.le_tupInts p1 p2 i1 i2 hu ⟨.bl (HT.lexLe ns ms),H,I,rfl,q⟩
end
end L2
namespace R
open PySem L2
inductive Dv where
 | non | bl (b:Bool) | int (i:Int) | str (x:List Nat) | tup (xs:List Dv) | lst (xs:List Dv) | dct (ks:List BB) (xs:List Dv) | ref (k:Nat) | scr (ns:List Int) | ty (n:String) | mtp (ls:List (List Nat)) | dti (kvs:List (List Int×Int))
 deriving Inhabited
structure G where
 Z:Addr->Prop
 μ:List Addr
noncomputable abbrev Fp:=Addr->Prop
def Disj (P Q:Fp):Prop:=∀ a,P a->Q a->False
def nop:Fp:=fun _=>False
def Lk (g:G) (H:Hp) (o:Nat) (a:Addr) (vs:List V):Prop:=H a=some (.lst vs)/\(o=0->g.Z a)/\(o≠0->¬ g.Z a)
def Scr (K:W.Frag) (H:Hp) (a:Addr) (ns:List Int):Prop:=(∃ o,H a=some (.frz o (.lst (ns.map V.int)))) \/
    ∃ (o:Obj) (its:Array Value) (n:Nat),K.lookup a=some o/\o.cls=.type "list" /\ o.dict=none/\o.data=.seq its n/\its.size<=sizeLine/\AD (ns.map V.int) its.toList
theorem Scr.sq {K:W.Frag} {H:Hp} {a:Addr} {ns:List Int} (h:Scr K H a ns):CZ K H a (ns.map V.int):=h.elim (fun h=>.inl (.inr h)) .inr
def Mtp (K:W.Frag) (a:Addr) (ls:List (List Nat)):Prop:=∃ (o:Obj) (its:Array Value) (n:Nat),K.lookup a=some o/\o.cls=.type "tuple" /\ o.data=.seq its n/\its.size<=sizeLine/\AD (ls.map fun l=>V.str (tx l)) its.toList
def encD (kvs:List (List Int×Int)):List (List BB×V):=kvs.map fun p=>(p.1.map Sum.inl,V.int p.2)
mutual
noncomputable def Rep (K:W.Frag) (g:G) (H:Hp):Nat->Dv->V->Fp->Prop
 | _,.non,v,P=>v=.non/\∀ a,¬ P a
 | _,.bl b,v,P=>v=.bl b/\∀ a,¬ P a
 | _,.int i,v,P=>v=.int i/\∀ a,¬ P a
 | _,.str l,v,P=>v=.str (tx l)/\∀ a,¬ P a
 | o,.tup ds,v,P=>∃ a vs,v=.ref a/\H a=some (.tup vs)/\Reps K g H (o - 1) ds vs P
 | o,.lst ds,v,P=>∃ a vs P',v=.ref a/\Lk g H o a vs/\Reps K g H (o - 1) ds vs P'/\¬ P' a/\∀ b,P b↔(o≠0/\b=a)\/P' b
 | o,.dct ks ds,v,P=>∃ a vs,v=.ref a/\H a=some (.dK (ks.zip vs))/\(o=0->g.Z a)/\(o≠0->¬ g.Z a)/\(ks.length=ds.length/\∃ R,Reps K g H 0 ds vs R)/\∀ b,P b↔(o≠0/\b=a)
 | _,.ref k,v,P=>(∃ a,g.μ[k]?=some a/\v=.ref a)/\∀ a,¬ P a
 | _,.scr ns,v,P=>(∃ a,v=.ref a/\Scr K H a ns)/\∀ a,¬ P a
 | _,.ty n,v,P=>v=.ty n/\∀ a,¬ P a
 | _,.mtp ls,v,P=>(∃ a,v=.ref a/\Mtp K a ls)/\∀ a,¬ P a
 | o,.dti kvs,v,P=>∃ a,v=.ref a/\H a=some (.dT (encD kvs))/\(o=0->g.Z a)/\(o≠0->¬ g.Z a)/\∀ b,P b↔(o≠0/\b=a)
noncomputable def Reps (K:W.Frag) (g:G) (H:Hp):Nat->List Dv->List V->Fp->Prop
 | _,[],vs,P=>vs=[]/\∀ a,¬ P a
 | o,d::ds,vs,P=>∃ v r P1 P2,vs=v::r/\Rep K g H o d v P1/\Reps K g H o ds r P2/\Disj P1 P2/\∀ a,P a↔P1 a\/P2 a
end
def Zd (g:G) (H:Hp):Prop:=∀ a,g.Z a->H a≠none
structure Step (g:G) (P:Fp) (H:Hp) (g':G) (P':Fp) (H':Hp):Prop where
 keep:∀ b o,H b=some o->¬ P b->H' b=some o
 dom:∀ b,H' b=none->H b=none
 zm:∀ a,g.Z a->g'.Z a
 zn:∀ a,g'.Z a->g.Z a\/P a\/H a=none
 mu:∃ r,g'.μ=g.μ++r
 nw:∀ a,P' a->P a\/H a=none
 zd:Zd g H->Zd g' H'
theorem Step.refl {g:G} {P:Fp} {H:Hp}:Step g P H g P H:=⟨fun _ _ h _=>h,fun _ h=>h,fun _ h=>h,fun _ h=>.inl h,⟨[],by simp⟩,fun _ h=>.inl h,fun h=>h⟩
theorem Step.trans {g g1 g2:G} {P P1 P2:Fp} {H H1 H2:Hp} (a:Step g P H g1 P1 H1) (b:Step g1 P1 H1 g2 P2 H2):Step g P H g2 P2 H2:=by
 refine ⟨fun c o h n=>?_,fun c h=>a.dom c (b.dom c h),fun c h=>b.zm c (a.zm c h),fun c h=>?_,?_,fun c h=>?_,fun z=>b.zd (a.zd z)⟩
 ·refine b.keep c o (a.keep c o h n) fun z=>?_
  rcases a.nw c z with z | z
  ·exact n z
  ·rw [h] at z;cases z
 ·rcases b.zn c h with z | z | z
  ·exact a.zn c z
  ·exact (a.nw c z).elim (fun q=>.inr (.inl q)) fun q=>.inr (.inr q)
  ·exact .inr (.inr (a.dom c z))
 ·obtain ⟨r1,e1⟩:=a.mu;obtain ⟨r2,e2⟩:=b.mu;exact ⟨r1++r2,by rw [e2,e1,lh]⟩
 ·rcases b.nw c h with z | z
  ·exact a.nw c z
  ·exact .inr (a.dom c z)
theorem Step.sub {g g':G} {P Q P' Q':Fp} {H H':Hp} (s:Step g P H g' P' H') (h1:∀ a,P a->Q a) (h2:∀ a,Q' a->P' a):Step g Q H g' Q' H':=
 ⟨fun b o h n=>s.keep b o h fun z=>n (h1 b z),s.dom,s.zm,fun a h=>(s.zn a h).elim .inl fun z=>.inr (z.elim (fun q=>.inl (h1 a q)) .inr),s.mu,fun a h=>(s.nw a (h2 a h)).elim (fun q=>.inl (h1 a q)) .inr,s.zd⟩
theorem Step.less {g g':G} {P P' Q':Fp} {H H':Hp} (s:Step g P H g' P' H') (h2:∀ a,Q' a->P' a):Step g P H g' Q' H':=s.sub (fun _ q=>q) h2
theorem Step.frame {g g':G} {P P' R:Fp} {H H':Hp} (s:Step g P H g' P' H'):Step g (fun a=>P a\/R a) H g' (fun a=>P' a\/R a) H':=
 ⟨fun b o h n=>s.keep b o h fun z=>n (.inl z),s.dom,s.zm,fun a h=>(s.zn a h).elim .inl fun z=>.inr (z.elim (fun q=>.inl (.inl q)) .inr),s.mu,fun a h=>h.elim (fun q=>(s.nw a q).elim (fun z=>.inl (.inl z)) .inr) fun q=>.inl (.inr q),s.zd⟩
theorem Step.same {g:G} {P:Fp} {H H':Hp} (s:Nn H H'):Step g P H g P H':=
 have dm:∀ b,H' b=none->H b=none:=fun b h=>by
  cases e:H b with
  | none=>rfl
  | some o=>rw [s b o e] at h;cases h
 ⟨fun b o h _=>s b o h,dm,fun _ h=>h,fun _ h=>.inl h,⟨[],by simp⟩,fun _ h=>.inl h,fun z a h q=>z a h (dm a q)⟩
def FpOk (g:G) (H:Hp) (P:Fp):Prop:=∀ a,P a->dN (H a)/\¬ g.Z a
theorem FpOk.or {g:G} {H:Hp} {P Q:Fp} (h:FpOk g H P) (k:FpOk g H Q):FpOk g H fun a=>P a\/Q a:=fun a q=>q.elim (h a) (k a)
theorem FpOk.nop {g:G} {H:Hp}:FpOk g H nop:=fun _ z=>z.elim
theorem FpOk.new {g:G} {H:Hp} {P:Fp} (h:FpOk g H P) {a:Addr} (n:H a=none):¬ P a:=fun z=>by have:=(h a z).1;rw [n] at this;exact this
theorem nop_iff {P:Fp} (h:∀ a,¬ P a):P=nop:=funext fun a=>propext ⟨fun z=>(h a z).elim,fun z=>z.elim⟩
section
variable {K:W.Frag} {g g':G} {H H':Hp}
theorem Step.out {P P' R:Fp} (s:Step g P H g' P' H') (ok:FpOk g H R) (n:Disj R P):Disj R P':=fun a q z=>(s.nw a z).elim (fun z=>n a q z) fun z=>ok.new z q
theorem Lk.held {o:Nat} {a:Addr} {vs:List V} {P P':Fp} (h:Lk g H o a vs) (hn:o≠0->¬ P a) (s:Step g P H g' P' H') (ok:FpOk g H P):Lk g' H' o a vs:=by
 have np:¬ P a:=by
  by_cases z:o=0
  ·exact fun q=>(ok a q).2 (h.2.1 z)
  ·exact hn z
 refine ⟨s.keep _ _ h.1 np,fun z=>s.zm _ (h.2.1 z),fun z q=>?_⟩;rcases s.zn _ q with q | q | q
 ·exact h.2.2 z q
 ·exact np q
 ·rw [h.1] at q;cases q
mutual
theorem Rep.none0:∀ {d:Dv} {v:V} {R:Fp},Rep K g H 0 d v R->∀ a,¬ R a
 | .non,v,R,h | .bl _,v,R,h | .int _,v,R,h | .str _,v,R,h | .ty _,v,R,h | .mtp _,v,R,h | .ref _,v,R,h | .scr _,v,R,h=>by unfold Rep at h;exact h.2
 | .dti n,v,R,h=>by
  unfold Rep at h;obtain ⟨b,e,h1,h2,h3,h4⟩:=h;exact fun a q=>((h4 a).mp q).1 rfl
 | .tup ds,v,R,h=>by
  unfold Rep at h;obtain ⟨_,vs,e,h1,h2⟩:=h;exact Reps.none0 h2
 | .lst ds,v,R,h=>by
  unfold Rep at h;obtain ⟨b,vs,R',e,h1,h2,h3,h5⟩:=h;exact fun a q=>((h5 a).mp q).elim (fun z=>z.1 rfl) fun z=>Reps.none0 h2 a z
 | .dct ks ds,v,R,h=>by
  unfold Rep at h;obtain ⟨b,vs,e,h1,h2,h3,h5,h4⟩:=h;exact fun a q=>((h4 a).mp q).1 rfl
theorem Reps.none0:∀ {ds:List Dv} {vs:List V} {R:Fp},Reps K g H 0 ds vs R->∀ a,¬ R a
 | [],vs,R,h=>by unfold Reps at h;exact h.2
 | d::ds,vs,R,h=>by
  unfold Reps at h;obtain ⟨v,r,P1,P2,e,h1,h2,h3,h4⟩:=h;exact fun a q=>((h4 a).mp q).elim (fun z=>Rep.none0 h1 a z) fun z=>Reps.none0 h2 a z
end
mutual
theorem Rep.held {P P':Fp} (s:Step g P H g' P' H') (ok:FpOk g H P):∀ {o:Nat} {d:Dv} {v:V} {R:Fp},Rep K g H o d v R->Disj R P->Rep K g' H' o d v R
 | _,.non,v,R,h,_ | _,.bl _,v,R,h,_ | _,.int _,v,R,h,_ | _,.str _,v,R,h,_ | _,.ty _,v,R,h,_ | _,.mtp _,v,R,h,_=>by unfold Rep at h ⊢;exact h
 | o,.dti n,v,R,h,d=>by
  unfold Rep at h ⊢;obtain ⟨a,e,h1,h2,h3,h4⟩:=h;have hn:¬ P a:=fun z=>by
   by_cases q:o=0
   ·exact (ok a z).2 (h2 q)
   ·exact d a ((h4 a).mpr ⟨q,rfl⟩) z
  refine ⟨a,e,s.keep _ _ h1 hn,fun q=>s.zm _ (h2 q),fun q z=>?_,h4⟩;rcases s.zn _ z with z | z | z
  ·exact h3 q z
  ·exact hn z
  ·rw [h1] at z;cases z
 | o,.tup ds,v,R,h,n=>by
  unfold Rep at h ⊢;obtain ⟨a,vs,e,h1,h2⟩:=h;exact ⟨a,vs,e,s.keep _ _ h1 fun z=>(by have:=(ok a z).1;rw [h1] at this;exact this),Reps.held s ok h2 n⟩
 | o,.lst ds,v,R,h,n=>by
  unfold Rep at h ⊢;obtain ⟨a,vs,R',e,h1,h2,h3,h5⟩:=h;exact ⟨a,vs,R',e,h1.held (fun z q=>n a ((h5 a).mpr (.inl ⟨z,rfl⟩)) q) s ok,Reps.held s ok h2 fun b q z=>n b ((h5 b).mpr (.inr q)) z,h3,h5⟩
 | o,.dct ks ds,v,R,h,d=>by
  unfold Rep at h ⊢;obtain ⟨a,vs,e,h1,h2,h3,⟨h5,R',h6⟩,h4⟩:=h;have hn:¬ P a:=fun z=>by
   by_cases q:o=0
   ·exact (ok a z).2 (h2 q)
   ·exact d a ((h4 a).mpr ⟨q,rfl⟩) z
  refine ⟨a,vs,e,s.keep _ _ h1 hn,fun q=>s.zm _ (h2 q),fun q z=>?_,⟨h5,R',Reps.held s ok h6 fun b q z=>(Reps.none0 h6 b q).elim⟩,h4⟩;rcases s.zn _ z with z | z | z
  ·exact h3 q z
  ·exact hn z
  ·rw [h1] at z;cases z
 | _,.ref k,v,R,h,_=>by
  unfold Rep at h ⊢;obtain ⟨⟨a,h1,h2⟩,h3⟩:=h;obtain ⟨r,e⟩:=s.mu;refine ⟨⟨a,?_,h2⟩,h3⟩;rw [e,kq (ka.mp h1).1];exact h1
 | _,.scr ns,v,R,h,_=>by
  unfold Rep at h ⊢;obtain ⟨⟨a,h1,h2⟩,h3⟩:=h;refine ⟨⟨a,h1,?_⟩,h3⟩;rcases h2 with ⟨o,h2⟩ | h2
  ·exact .inl ⟨o,s.keep _ _ h2 fun z=>by have:=(ok a z).1;rw [h2] at this;exact this⟩
  ·exact .inr h2
theorem Reps.held {P P':Fp} (s:Step g P H g' P' H') (ok:FpOk g H P):∀ {o:Nat} {ds:List Dv} {vs:List V} {R:Fp},Reps K g H o ds vs R->Disj R P->Reps K g' H' o ds vs R
 | _,[],vs,R,h,_=>by unfold Reps at h ⊢;exact h
 | o,d::ds,vs,R,h,n=>by
  unfold Reps at h ⊢;obtain ⟨v,r,P1,P2,e,h1,h2,h3,h4⟩:=h;exact ⟨v,r,P1,P2,e,Rep.held s ok h1 fun a q z=>n a ((h4 a).mpr (.inl q)) z,Reps.held s ok h2 fun a q z=>n a ((h4 a).mpr (.inr q)) z,h3,h4⟩
end
mutual
theorem Rep.fpOk:∀ {o:Nat} {d:Dv} {v:V} {R:Fp},Rep K g H o d v R->FpOk g H R
 | _,.non,v,R,h,a,q | _,.bl _,v,R,h,a,q | _,.int _,v,R,h,a,q | _,.str _,v,R,h,a,q | _,.ty _,v,R,h,a,q | _,.mtp _,v,R,h,a,q | _,.ref _,v,R,h,a,q | _,.scr _,v,R,h,a,q=>by unfold Rep at h;exact (h.2 a q).elim
 | o,.dti n,v,R,h,a,q=>by
  unfold Rep at h;obtain ⟨b,e,h1,h2,h3,h4⟩:=h;obtain ⟨ho,rfl⟩:=(h4 a).mp q;exact ⟨by rw [h1];trivial,h3 ho⟩
 | o,.tup ds,v,R,h,a,q=>by
  unfold Rep at h;obtain ⟨_,vs,e,h1,h2⟩:=h;exact Reps.fpOk h2 a q
 | o,.lst ds,v,R,h,a,q=>by
  unfold Rep at h;obtain ⟨b,vs,R',e,h1,h2,h3,h5⟩:=h;rcases (h5 a).mp q with ⟨z,rfl⟩ | z
  ·exact ⟨by rw [h1.1];trivial,h1.2.2 z⟩
  ·exact Reps.fpOk h2 a z
 | o,.dct ks ds,v,R,h,a,q=>by
  unfold Rep at h;obtain ⟨b,vs,e,h1,h2,h3,h5,h4⟩:=h;obtain ⟨ho,rfl⟩:=(h4 a).mp q;exact ⟨by rw [h1];trivial,h3 ho⟩
theorem Reps.fpOk:∀ {o:Nat} {ds:List Dv} {vs:List V} {R:Fp},Reps K g H o ds vs R->FpOk g H R
 | _,[],vs,R,h,a,q=>by unfold Reps at h;exact (h.2 a q).elim
 | o,d::ds,vs,R,h,a,q=>by
  unfold Reps at h;obtain ⟨v,r,P1,P2,e,h1,h2,h3,h4⟩:=h;rcases (h4 a).mp q with z | z
  ·exact Rep.fpOk h1 a z
  ·exact Reps.fpOk h2 a z
end
theorem Rep.iff {o:Nat} {d:Dv} {v:V} {P Q:Fp} (h:Rep K g H o d v P) (e:∀ a,Q a↔P a):Rep K g H o d v Q:=by
 have:Q=P:=funext fun a=>propext (e a)
 rw [this];exact h
theorem Reps.iff {o:Nat} {d:List Dv} {v:List V} {P Q:Fp} (h:Reps K g H o d v P) (e:∀ a,Q a↔P a):Reps K g H o d v Q:=by
 have:Q=P:=funext fun a=>propext (e a)
 rw [this];exact h
theorem Rep.z {d:Dv} {v:V} {R:Fp} (h:Rep K g H 0 d v R):Rep K g H 0 d v nop:=by rw [<- nop_iff h.none0];exact h
theorem Reps.z {d:List Dv} {v:List V} {R:Fp} (h:Reps K g H 0 d v R):Reps K g H 0 d v nop:=by rw [<- nop_iff h.none0];exact h
def G.add (g:G) (P:Fp):G:={ g with Z:=fun a=>g.Z a\/P a }
mutual
theorem Rep.freeze {P:Fp}:∀ {o:Nat} {d:Dv} {v:V} {R:Fp},Rep K g H o d v R->(∀ a,R a->P a)->Rep K (g.add P) H 0 d v nop
 | _,.non,v,R,h,_ | _,.bl _,v,R,h,_ | _,.int _,v,R,h,_ | _,.str _,v,R,h,_ | _,.ty _,v,R,h,_ | _,.mtp _,v,R,h,_ | _,.ref _,v,R,h,_ | _,.scr _,v,R,h,_=>by unfold Rep at h ⊢;exact ⟨h.1,fun _ z=>z⟩
 | o,.dti n,v,R,h,s=>by
  unfold Rep at h ⊢;obtain ⟨a,e,h1,h2,h3,h4⟩:=h;refine ⟨a,e,h1,fun _=>?_,fun z=>(z rfl).elim,fun b=>⟨fun z=>z.elim,fun z=>(z.1 rfl).elim⟩⟩
  by_cases q:o=0
  ·exact .inl (h2 q)
  ·exact .inr (s a ((h4 a).mpr ⟨q,rfl⟩))
 | o,.tup ds,v,R,h,s=>by
  unfold Rep at h ⊢;obtain ⟨a,vs,e,h1,h2⟩:=h;exact ⟨a,vs,e,h1,Reps.freeze h2 s⟩
 | o,.lst ds,v,R,h,s=>by
  unfold Rep at h ⊢;obtain ⟨a,vs,R',e,h1,h2,h3,h5⟩:=h;refine ⟨a,vs,nop,e,⟨h1.1,fun _=>?_,fun z=>(z rfl).elim⟩,Reps.freeze h2 (fun b q=>s b ((h5 b).mpr (.inr q))),fun z=>z,fun b=>⟨fun z=>z.elim,fun z=>z.elim (fun q=>(q.1 rfl).elim) id⟩⟩
  by_cases q:o=0
  ·exact .inl (h1.2.1 q)
  ·exact .inr (s a ((h5 a).mpr (.inl ⟨q,rfl⟩)))
 | o,.dct ks ds,v,R,h,s=>by
  unfold Rep at h ⊢;obtain ⟨a,vs,e,h1,h2,h3,⟨h5,R',h6⟩,h4⟩:=h;refine ⟨a,vs,e,h1,fun _=>?_,fun z=>(z rfl).elim,⟨h5,nop,Reps.freeze h6 fun b q=>(Reps.none0 h6 b q).elim⟩,fun b=>⟨fun z=>z.elim,fun z=>(z.1 rfl).elim⟩⟩
  by_cases q:o=0
  ·exact .inl (h2 q)
  ·exact .inr (s a ((h4 a).mpr ⟨q,rfl⟩))
theorem Reps.freeze {P:Fp}:∀ {o:Nat} {ds:List Dv} {vs:List V} {R:Fp},Reps K g H o ds vs R->(∀ a,R a->P a)->Reps K (g.add P) H 0 ds vs nop
 | _,[],vs,R,h,_=>by unfold Reps at h ⊢;exact ⟨h.1,fun _ z=>z⟩
 | o,d::ds,vs,R,h,s=>by
  unfold Reps at h ⊢;obtain ⟨v,r,P1,P2,e,h1,h2,h3,h4⟩:=h;exact ⟨v,r,nop,nop,e,Rep.freeze h1 (fun a q=>s a ((h4 a).mpr (.inl q))),Reps.freeze h2 (fun a q=>s a ((h4 a).mpr (.inr q))),fun _ z=>z.elim,fun a=>⟨fun z=>z.elim,fun z=>z.elim id id⟩⟩
end
theorem Step.freeze {P:Fp} (ok:FpOk g H P):Step g P H (g.add P) nop H:=
 ⟨fun _ _ h _=>h,fun _ h=>h,fun _ h=>.inl h,fun a h=>h.elim .inl fun q=>.inr (.inl q),⟨[],by show g.μ=_;simp⟩,fun _ h=>h.elim,fun z a h q=>h.elim (fun h=>z a h q) fun h=>by have:=(ok a h).1;rw [q] at this;exact this⟩
theorem Reps.nil {o:Nat}:Reps K g H o [] [] nop:=by unfold Reps;exact ⟨rfl,fun _ z=>z⟩
theorem Reps.cons {o:Nat} {d:Dv} {v:V} {ds:List Dv} {vs:List V} {P1 P2:Fp} (h1:Rep K g H o d v P1) (h2:Reps K g H o ds vs P2) (n:Disj P1 P2):Reps K g H o (d::ds) (v::vs) fun a=>P1 a\/P2 a:=by
 unfold Reps;exact ⟨v,vs,P1,P2,rfl,h1,h2,n,fun _=>Iff.rfl⟩
theorem Reps.len:∀ {o:Nat} {ds:List Dv} {vs:List V} {R:Fp},Reps K g H o ds vs R->ds.length=vs.length
 | _,[],vs,R,h=>by unfold Reps at h;rw [h.1];rfl
 | _,d::ds,vs,R,h=>by
  unfold Reps at h;obtain ⟨v,r,P1,P2,rfl,h1,h2,_⟩:=h;simp [h2.len]
theorem Reps.get:∀ {o:Nat} {ds:List Dv} {vs:List V} {R:Fp} {i:Nat} {d:Dv},Reps K g H o ds vs R->ds[i]?=some d->∃ v P,vs[i]?=some v/\Rep K g H o d v P/\∀ a,P a->R a
 | _,[],_,_,_,_,_,e=>by simp at e
 | _,d::ds,vs,R,i,d',h,e=>by
  unfold Reps at h;obtain ⟨v,r,P1,P2,rfl,h1,h2,_,h4⟩:=h;cases i with
  | zero=>simp at e;subst e;exact ⟨v,P1,rfl,h1,fun a q=>(h4 a).mpr (.inl q)⟩
  | succ i =>
   obtain ⟨v',P,e',h',s⟩:=h2.get (i:=i) (by simpa using e);exact ⟨v',P,by simpa using e',h',fun a q=>(h4 a).mpr (.inr (s a q))⟩
theorem Reps.app:∀ {o:Nat} {ds es:List Dv} {vs us:List V} {P Q:Fp},Reps K g H o ds vs P->Reps K g H o es us Q->Disj P Q->Reps K g H o (ds++es) (vs++us) fun a=>P a\/Q a
 | _,[],es,vs,us,P,Q,h,k,_=>by
  unfold Reps at h;obtain ⟨rfl,n⟩:=h;exact k.iff fun a=>⟨fun z=>z.elim (fun q=>(n a q).elim) id,.inr⟩
 | _,d::ds,es,vs,us,P,Q,h,k,n=>by
  unfold Reps at h;obtain ⟨v,r,P1,P2,rfl,h1,h2,h3,h4⟩:=h;have t:=Reps.app h2 k fun a q z=>n a ((h4 a).mpr (.inr q)) z
  refine (Reps.cons h1 t fun a q z=>z.elim (fun z=>h3 a q z) fun z=>n a ((h4 a).mpr (.inl q)) z).iff fun a=>?_
  rw [h4 a,or_assoc]
end
noncomputable abbrev M:=List Dv
noncomputable abbrev Gm:=List (Option Nat)
noncomputable def M.at (m:M) (i:Nat):Dv:=m.getD i .non
structure REnv (K:W.Frag) (g:G) (H:Hp) (Γ:Gm) (ρ:List Dv) (σ:St) (F:Nat->Fp):Prop where
 l1:ρ.length=Γ.length
 l2:σ.length=Γ.length
 rep:∀ i o,Γ[i]?=some (some o)->∃ d v,ρ[i]?=some d/\σ[i]?=some (some v)/\Rep K g H o d v (F i)
 out:∀ i,(∀ o,Γ[i]?≠some (some o))->∀ a,¬ F i a
 dj:∀ i j,i≠j->Disj (F i) (F j)
def Rel (K:W.Frag) (g:G) (H:Hp) (Γ:Gm) (m:M) (σ:St) (P:Fp):Prop:=Zd g H/\∃ F,REnv K g H Γ m σ F/\∀ a,P a↔∃ i,F i a
theorem Dk {α:Type} {l:List α} {i j:Nat} {x y:α} (h:(l.set i x)[j]?=some y):(i=j/\y=x)\/(i≠j/\l[j]?=some y):=by
 by_cases e:i=j
 ·subst e;refine .inl ⟨rfl,?_⟩;rw [List.getElem?_set] at h;simp only [if_true] at h;split at h
  ·exact (Option.some.inj h).symm
  ·cases h
 ·rw [lL e] at h;exact .inr ⟨e,h⟩
theorem JR {m:M} {i:Nat} {d:Dv} (h:m[i]?=some d):m.at i=d:=by unfold M.at;rw [lB,h];rfl
section
variable {K:W.Frag} {g g':G} {H H':Hp} {Γ:Gm} {m:M} {σ:St} {P:Fp}
theorem Rel.zd (h:Rel K g H Γ m σ P):Zd g H:=h.1
theorem Rel.len (h:Rel K g H Γ m σ P):m.length=Γ.length/\σ.length=Γ.length:=let ⟨_,_,h1,_⟩:=h;⟨h1.l1,h1.l2⟩
theorem Rel.fpOk (h:Rel K g H Γ m σ P):FpOk g H P:=by
 obtain ⟨_,F,h1,h4⟩:=h;intro a q;obtain ⟨i,z⟩:=(h4 a).mp q
 by_cases e:∃ o,Γ[i]?=some (some o)
 ·obtain ⟨o,e⟩:=e;obtain ⟨d,v,_,_,r⟩:=h1.rep i o e;exact r.fpOk a z
 ·exact (h1.out i (fun o z=>e ⟨o,z⟩) a z).elim
theorem Rel.held {P' R:Fp} (s:Step g P H g' P' H') (ok:FpOk g H P) (h:Rel K g H Γ m σ R) (n:Disj R P):Rel K g' H' Γ m σ R:=by
 obtain ⟨zd,F,h1,h4⟩:=h;refine ⟨s.zd zd,F,⟨h1.l1,h1.l2,fun i o e=>?_,h1.out,h1.dj⟩,h4⟩;obtain ⟨d,v,e1,e2,r⟩:=h1.rep i o e;exact ⟨d,v,e1,e2,r.held s ok fun a q z=>n a ((h4 a).mpr ⟨i,q⟩) z⟩
theorem Rel.same (h:Rel K g H Γ m σ P) (s:Nn H H'):Rel K g H' Γ m σ P:=h.held (Step.same (P:=nop) s) FpOk.nop fun _ _ z=>z
theorem Rel.see {i o:Nat} (h:Rel K g H Γ m σ P) (e:Γ[i]?=some (some o)):∃ v P1,σ[i]?=some (some v)/\Rep K g H o (m.at i) v P1/\∀ a,P1 a->P a:=by
 obtain ⟨_,F,h1,h4⟩:=h;obtain ⟨d,v,e1,e2,r⟩:=h1.rep i o e;exact ⟨v,F i,e2,by rw [JR e1];exact r,fun a q=>(h4 a).mpr ⟨i,q⟩⟩
theorem Rel.agree {m2:M} (h:Rel K g H Γ m σ P) (hl:m2.length=m.length) (ha:∀ i o,Γ[i]?=some (some o)->m2.at i=m.at i):Rel K g H Γ m2 σ P:=by
 obtain ⟨zd,F,h1,h4⟩:=h;refine ⟨zd,F,⟨hl.trans h1.l1,h1.l2,fun i o e=>?_,h1.out,h1.dj⟩,h4⟩;obtain ⟨d,v,e1,e2,r⟩:=h1.rep i o e;have hi:i < m2.length:=by rw [hl];exact (ka.mp e1).1
 refine ⟨d,v,?_,e2,r⟩;have:=ha i o e;unfold M.at at this;rw [lB,lB,e1,kZ hi] at this;rw [kZ hi];exact congrArg some this
theorem Rel.drop (i:Nat) (d:Dv) (x:Option V) (h:Rel K g H Γ m σ P):∃ P2,Rel K g H (Γ.set i none) (m.set i d) (σ.set i x) P2/\∀ a,P2 a->P a:=by
 obtain ⟨zd,F,h1,h4⟩:=h;refine ⟨fun a=>∃ j,j≠i/\F j a,⟨zd,fun j a=>j≠i/\F j a,⟨by rw [lM,lM,h1.l1],by rw [lM,lM,h1.l2],fun j o e=>?_,fun j e a q=>?_,fun j k n a q z=>h1.dj j k n a q.2 z.2⟩,fun _=>Iff.rfl⟩,fun a ⟨j,_,q⟩=>(h4 a).mpr ⟨j,q⟩⟩
 ·rcases Dk e with ⟨_,z⟩ | ⟨n,e⟩
  ·cases z
  ·obtain ⟨d',v,e1,e2,r⟩:=h1.rep j o e;have eq:(fun a=>j≠i/\F j a)=F j:=funext fun a=>propext ⟨fun z=>z.2,fun z=>⟨fun q=>n q.symm,z⟩⟩
   exact ⟨d',v,by rw [lL n];exact e1,by rw [lL n];exact e2,by show Rep K g H o d' v (fun a=>j≠i/\F j a);rw [eq];exact r⟩
 ·refine h1.out j (fun o z=>e o ?_) a q.2;rw [lL fun z=>q.1 z.symm];exact z
theorem Rel.fill {i o:Nat} {d:Dv} {v:V} {P1:Fp} (h:Rel K g H Γ m σ P) (e:Γ[i]?=some none) (hd:m[i]?=some d) (hv:σ[i]?=some (some v)) (r:Rep K g H o d v P1) (n:Disj P1 P):Rel K g H (Γ.set i (some o)) m σ fun a=>P1 a\/P a:=by
 obtain ⟨zd,F,h1,h4⟩:=h;have fi:∀ a,¬ F i a:=h1.out i fun o z=>by rw [e] at z;cases z
 have hi:i < Γ.length:=(ka.mp e).1;refine ⟨zd,fun j a=>if j=i then P1 a else F j a,⟨by rw [lM];exact h1.l1,by rw [lM];exact h1.l2,fun j o' e'=>?_,fun j e' a q=>?_,fun j k nn a q z=>?_⟩,fun a=>?_⟩
 ·rcases Dk e' with ⟨rfl,z⟩ | ⟨nn,e'⟩
  ·cases z;have eq:(fun a=>if i=i then P1 a else F i a)=P1:=funext fun a=>by rw [if_pos rfl]
   exact ⟨d,v,hd,hv,by show Rep K g H o d v fun a=>if i=i then P1 a else F i a;rw [eq];exact r⟩
  ·obtain ⟨d',v',e1,e2,r'⟩:=h1.rep j o' e';have eq:(fun a=>if j=i then P1 a else F j a)=F j:=funext fun a=>by rw [if_neg fun z=>nn z.symm]
   exact ⟨d',v',e1,e2,by show Rep K g H o' d' v' fun a=>if j=i then P1 a else F j a;rw [eq];exact r'⟩
 ·by_cases z:j=i
  ·subst z;exact e' o (lS hi)
  ·simp only [if_neg z] at q;exact h1.out j (fun o' z'=>e' o' (by rw [lL fun w=>z w.symm];exact z')) a q
 ·by_cases zj:j=i
  ·by_cases zk:k=i
   ·exact nn (zj.trans zk.symm)
   ·simp only [if_pos zj,if_neg zk] at q z;exact n a q ((h4 a).mpr ⟨k,z⟩)
  ·by_cases zk:k=i
   ·simp only [if_neg zj,if_pos zk] at q z;exact n a z ((h4 a).mpr ⟨j,q⟩)
   ·simp only [if_neg zj,if_neg zk] at q z;exact h1.dj j k nn a q z
 ·show P1 a\/P a↔_;rw [h4 a];refine ⟨fun z=>?_,fun ⟨j,z⟩=>?_⟩
  ·rcases z with z | ⟨j,z⟩
   ·exact ⟨i,by simp only [if_true];exact z⟩
   ·have:j≠i:=fun w=>fi a (w▸z)
    exact ⟨j,by simp only [if_neg this];exact z⟩
  ·by_cases zj:j=i
   ·simp only [if_pos zj] at z;exact .inl z
   ·simp only [if_neg zj] at z;exact .inr ⟨j,z⟩
theorem EU {α:Type} {l:List α} {i:Nat} {x:α} (h:l[i]?=some x):l.set i x=l:=by
 apply List.ext_getElem?;intro j
 by_cases e:i=j
 ·subst e;rw [lS (ka.mp h).1,h]
 ·rw [lL e]
theorem Rel.take {i o:Nat} (h:Rel K g H Γ m σ P) (e:Γ[i]?=some (some o)):∃ v P1 P2,σ[i]?=some (some v)/\m[i]?=some (m.at i)/\Rep K g H o (m.at i) v P1/\Rel K g H (Γ.set i none) m σ P2/\Disj P1 P2/\∀ a,P a↔P1 a\/P2 a:=by
 obtain ⟨zd,F,h1,h4⟩:=h;obtain ⟨d,v,e1,e2,r⟩:=h1.rep i o e;refine ⟨v,F i,fun a=>∃ j,j≠i/\F j a,e2,by rw [JR e1];exact e1,by rw [JR e1];exact r,⟨zd,fun j a=>j≠i/\F j a,⟨by rw [lM];exact h1.l1,by rw [lM];exact h1.l2,fun j o' e'=>?_,fun j e' a q=>?_,fun j k n a q z=>h1.dj j k n a q.2 z.2⟩,fun _=>Iff.rfl⟩,fun a q ⟨j,n,z⟩=>h1.dj i j (fun w=>n w.symm) a q z,fun a=>?_⟩
 ·rcases Dk e' with ⟨_,z⟩ | ⟨n,e'⟩
  ·cases z
  ·obtain ⟨d',v',e3,e4,r'⟩:=h1.rep j o' e';have eq:(fun a=>j≠i/\F j a)=F j:=funext fun a=>propext ⟨fun z=>z.2,fun z=>⟨fun q=>n q.symm,z⟩⟩
   exact ⟨d',v',e3,e4,by show Rep K g H o' d' v' (fun a=>j≠i/\F j a);rw [eq];exact r'⟩
 ·exact h1.out j (fun o' z=>e' o' (by rw [lL fun w=>q.1 w.symm];exact z)) a q.2
 ·rw [h4 a];refine ⟨fun ⟨j,z⟩=>?_,fun z=>?_⟩
  ·by_cases zj:j=i
   ·exact .inl (zj▸z)
   ·exact .inr ⟨j,zj,z⟩
  ·rcases z with z | ⟨j,_,z⟩
   ·exact ⟨i,z⟩
   ·exact ⟨j,z⟩
theorem DR {α:Type} (l:List α) (i:Nat) (x y:α):(l.set i x).set i y=l.set i y:=List.set_set ..
theorem Rel.setNew {Pv:Fp} {i o:Nat} {d:Dv} {v:V} (h:Rel K g H Γ m σ P) (hi:i < Γ.length) (hv:Rep K g H o d v Pv) (n:Disj Pv P) :
    ∃ P2,Rel K g H (Γ.set i (some o)) (m.set i d) (σ.set i (some v)) P2/\∀ a,P2 a->P a\/Pv a:=by
  obtain ⟨P2,h2,s⟩:=h.drop i d (some v);have l:=h.len;have:=h2.fill (i:=i) (lS hi) (lS (by omega)) (lS (by omega)) hv fun a q z=>n a q (s a z)
  rw [DR] at this;exact ⟨_,this,fun a q=>q.elim .inr fun q=>.inl (s a q)⟩
theorem Rel.putIn {P1:Fp} {i o:Nat} {d:Dv} {v:V} (h:Rel K g H (Γ.set i none) m σ P) (hi:i < Γ.length) (hv:σ[i]?=some (some v)) (r:Rep K g H o d v P1) (n:Disj P1 P):∃ P2,Rel K g H (Γ.set i (some o)) (m.set i d) σ P2/\∀ a,P2 a->P1 a\/P a:=by
 obtain ⟨P2,h2,s⟩:=h.drop i d (some v);rw [EU hv] at h2;have l:=h.len;rw [lM] at l;have h3:=h2.fill (i:=i) (by rw [DR];exact lS hi) (lS (by omega)) hv r fun a q z=>n a q (s a z)
 rw [DR,DR] at h3;exact ⟨_,h3,fun a q=>q.elim .inl fun q=>.inr (s a q)⟩
theorem Rel.freeze {i o:Nat} (h:Rel K g H Γ m σ P) (e:Γ[i]?=some (some o)):∃ g' P' v,Step g P H g' P' H/\Rel K g' H (Γ.set i (some 0)) m σ P'/\σ[i]?=some (some v)/\Rep K g' H 0 (m.at i) v nop:=by
 obtain ⟨v,P1,P2,ev,ed,r,r2,n,hP⟩:=h.take e;have st:Step g P1 H (g.add P1) nop H:=Step.freeze r.fpOk;have fr:Rep K (g.add P1) H 0 (m.at i) v nop:=r.freeze fun _ q=>q
 have r3:=r2.held st r.fpOk fun a q z=>n a z q
 have hi:i < Γ.length:=(ka.mp e).1;have r4:=r3.fill (i:=i) (lS hi) ed ev fr fun _ z=>z.elim
 rw [DR] at r4;refine ⟨_,_,v,?_,r4,ev,fr⟩;exact (st.frame (R:=P2)).sub (fun a q=>(hP a).mpr q) fun a q=>q.elim (fun z=>z.elim) .inr
def BS:Gm->Gm->Bool
 | [],[]=>true
 | none::a,_::b=>BS a b
 | some o::a,some o'::b=>(o == 0 || o == o') && BS a b
 | _,_=>false
theorem Dw:∀ {a b:Gm},BS a b=true->a.length=b.length
 | [],[],_=>rfl
 | none::a,_::b,h=>by unfold BS at h;simp [Dw h]
 | some o::a,some o'::b,h=>by unfold BS at h;simp [Dw (mM.mp h).2]
 | [],_::_,h=>by cases h
 | some _::_,none::_,h=>by cases h
 | some _::_,[],h=>by cases h
 | none::_,[],h=>by cases h
theorem Ee:∀ {a b:Gm} {i o:Nat},BS a b=true->a[i]?=some (some o)->∃ o',b[i]?=some (some o')/\(o=0\/o=o')
 | [],_,i,o,_,e=>by simp at e
 | none::a,x::b,i,o,h,e=>by
  unfold BS at h;cases i with
  | zero=>simp at e
  | succ i=>obtain ⟨o',e',z⟩:=Ee (i:=i) h (by simpa using e);exact ⟨o',by simpa using e',z⟩
 | some p::a,some p'::b,i,o,h,e=>by
  unfold BS at h;rw [kX] at h;cases i with
  | zero =>
   simp at e;subst e;refine ⟨p',rfl,?_⟩;have:=h.1;rw [nZ,beq_iff_eq,beq_iff_eq] at this;exact this
  | succ i=>obtain ⟨o',e',z⟩:=Ee (i:=i) h.2 (by simpa using e);exact ⟨o',by simpa using e',z⟩
 | some _::_,none::_,_,_,h,_=>by cases h
 | some _::_,[],_,_,h,_=>by cases h
 | none::_,[],_,_,h,_=>by cases h
theorem Rel.weaken {Γ':Gm} (h:Rel K g H Γ m σ P) (e:BS Γ' Γ=true):∃ g' P',Step g P H g' P' H/\Rel K g' H Γ' m σ P':=by
 have ok:=h.fpOk;obtain ⟨zd,F,h1,h4⟩:=h
 let D:Fp:=fun a=>∃ i,Γ'[i]?=some (some 0)/\F i a
 have okD:FpOk g H D:=fun a ⟨i,_,q⟩=>ok a ((h4 a).mpr ⟨i,q⟩)
 have st:Step g D H (g.add D) nop H:=Step.freeze okD
 let F':Nat->Fp:=fun i a=>(∃ o,Γ'[i]?=some (some (o+1)))/\F i a
 refine ⟨g.add D,fun a=>∃ i,F' i a,?_,st.zd zd,F',⟨by rw [Dw e];exact h1.l1,by rw [Dw e];exact h1.l2,fun i o ei=>?_,fun i ei a q=>?_,fun i j n a q z=>h1.dj i j n a q.2 z.2⟩,fun _=>Iff.rfl⟩
 ·refine (st.frame (R:=fun a=>∃ i,F' i a)).sub (fun a q=>?_) fun a q=>.inr q
  rcases q with ⟨i,_,q⟩ | ⟨i,q⟩
  ·exact (h4 a).mpr ⟨i,q⟩
  ·exact (h4 a).mpr ⟨i,q.2⟩
 ·obtain ⟨o',eo,z⟩:=Ee e ei;obtain ⟨d,v,e1,e2,r⟩:=h1.rep i o' eo;refine ⟨d,v,e1,e2,?_⟩;cases o with
  | zero =>
   have eq:F' i=nop:=nop_iff fun a ⟨⟨o,w⟩,_⟩=>by rw [ei] at w;cases w
   rw [eq];exact r.freeze fun a q=>⟨i,ei,q⟩
  | succ o =>
   have eq:F' i=F i:=funext fun a=>propext ⟨fun w=>w.2,fun w=>⟨⟨o,ei⟩,w⟩⟩
   rcases z with z | z
   ·cases z
   ·subst z;rw [eq];refine r.held st okD fun a q ⟨j,ej,z⟩=>?_
    by_cases w:i=j
    ·subst w;rw [ei] at ej;cases ej
    ·exact h1.dj i j w a q z
 ·obtain ⟨⟨o,w⟩,_⟩:=q;exact ei _ w
end
theorem PE.imp {X:Cx} {e:Expr} {t t':TE} (h:PE X e t) (k:∀ σ H Q,t' σ H Q->t σ H Q):PE X e t':=fun pins s σ H Q I q=>h pins s σ H Q I (k σ H Q q)
theorem PT.imp {X:Cx} {e:Expr} {t t':TT} (h:PT X e t) (k:∀ σ H Q,t' σ H Q->t σ H Q):PT X e t':=fun pins s σ H Q I q=>h pins s σ H Q I (k σ H Q q)
theorem PW.imp {X:Cx} {e:Expr} {t t':TT} (h:PW X e t) (k:∀ σ H Q,t' σ H Q->t σ H Q):PW X e t':=fun wh pins s σ H Q I q=>h wh pins s σ H Q I (k σ H Q q)
theorem PS.imp {X:Cx} {e:Stmt} {t t':TS} (h:PS X e t) (k:∀ D σ H,t' D σ H->t D σ H):PS X e t':=fun pins s σ H D I q=>h pins s σ H D I (k D σ H q)
theorem DJ.imp {X:Cx} {e:List Stmt} {t t':TS} (h:DJ X e t) (k:∀ D σ H,t' D σ H->t D σ H):DJ X e t':=fun pins s σ H D I q=>h pins s σ H D I (k D σ H q)
noncomputable abbrev Ev (α:Type):=(R:Type)->M->(α->M->Option R)->Option R
def BW (js:List Nat) (m m':M):Prop:=m'.length=m.length/\∀ i,i∉js->m'.at i=m.at i
theorem BW.refl {js:List Nat} {m:M}:BW js m m:=⟨rfl,fun _ _=>rfl⟩
theorem BW.trans {js ks:List Nat} {m m1 m2:M} (a:BW js m m1) (b:BW ks m1 m2):BW (js++ks) m m2:=⟨b.1.trans a.1,fun i h=>(b.2 i fun z=>h (kl _ z)).trans (a.2 i fun z=>h (ku _ z))⟩
theorem BW.set {m:M} {i:Nat} {d:Dv}:BW [i] m (m.set i d):=⟨lM ..,fun j h=>by
 have n:i≠j:=fun z=>h (by rw [z];exact mv _)
 unfold M.at;rw [lB,lB,lL n]⟩
theorem BW.mono {js ks:List Nat} {m m1:M} (a:BW js m m1) (h:∀ i∈js,i∈ks):BW ks m m1:=⟨a.1,fun i n=>a.2 i fun z=>n (h i z)⟩
def tE (K:W.Frag) (Γ:Gm) (o:Nat) (Γ':Gm) (js:List Nat) (f:Ev Dv):TE:=fun σ H Q=>∃ g m P,Rel K g H Γ m σ P/\∃ (R:Type) (k:Dv->M->Option R) (r:R),f R m k=some r /\
 ∀ d m' g' P' Pv v H',k d m'=some r->BW js m m'->Step g P H g' (fun a=>P' a\/Pv a) H'->Rep K g' H' o d v Pv->Rel K g' H' Γ' m' σ P'->Disj P' Pv->Q v H'
def tT (K:W.Frag) (Γ Γ':Gm) (js:List Nat) (f:Ev Bool):TT:=fun σ H Q=>∃ g m P,Rel K g H Γ m σ P/\∃ (R:Type) (k:Bool->M->Option R) (r:R),f R m k=some r /\
 ∀ b m' g' P' H',k b m'=some r->BW js m m'->Step g P H g' P' H'->Rel K g' H' Γ' m' σ P'->Q b H'
inductive Ar:Type 1 where
 | rf (i:Nat)
 | ev (Γ Γ':Gm) (js:List Nat) (f:Ev Dv)
def Ez (K:W.Frag):Ar->TE
 | .rf i=>Ex i
 | .ev Γ Γ' js f=>tE K Γ 0 Γ' js f
def BN (K:W.Frag):List Ar->TA
 | []=>Vu
 | a::as=>Ya (Ez K a) (BN K as)
def AJ:List Ar->Ev (List Dv)
 | [],_,m,k=>k [] m
 | .rf i::as,R,m,k=>AJ as R m fun ds m1=>k (m1.at i::ds) m1
 | .ev _ _ _ f::as,R,m,k=>f R m fun d m1=>AJ as R m1 fun ds m2=>k (d::ds) m2
def AA:Gm->List Ar->Gm->List Nat->Prop
 | Γ,[],Γ',js=>Γ'=Γ/\js=[]
 | Γ,.rf i::as,Γ',js=>(∃ o,Γ[i]?=some (some o))/\(∃ o,o<=1/\Γ'[i]?=some (some o))/\AA Γ as Γ' js
 | Γ,.ev Γ1 Γ2 js1 _::as,Γ',js=>Γ1=Γ/\∃ js2,js=js1++js2/\AA Γ2 as Γ' js2
def AL (K:W.Frag) (g:G) (H:Hp) (Γ:Gm) (m:M) (σ:St):List Ar->List Dv->List V->Prop
 | [],ds,vs=>ds=[]/\vs=[]
 | .rf i::as,ds,vs=>∃ v ds' vs',ds=m.at i::ds'/\vs=v::vs'/\σ[i]?=some (some v)/\(∃ o,o<=1/\Γ[i]?=some (some o))/\AL K g H Γ m σ as ds' vs'
 | .ev _ _ _ _::as,ds,vs=>∃ d v ds' vs',ds=d::ds'/\vs=v::vs'/\Rep K g H 0 d v nop/\AL K g H Γ m σ as ds' vs'
theorem AH {K:W.Frag} {σ:St}:∀ (as:List Ar) {g:G} {Γ Γ':Gm} {js:List Nat} {m:M} {P:Fp} {H:Hp} {R:Type} {k:List Dv->M->Option R} {r:R} {Q:List V->Hp->Prop},Rel K g H Γ m σ P->AA Γ as Γ' js->AJ as R m k=some r ->
    (∀ ds m' g' P' vs H',k ds m'=some r->BW js m m'->Step g P H g' P' H'->AL K g' H' Γ' m' σ as ds vs->Rel K g' H' Γ' m' σ P'->Q vs H')->BN K as σ H Q
  | [],g,Γ,Γ',js,m,P,H,R,k,r,Q,rl,c,e,q=>by
    unfold AA at c;obtain ⟨rfl,rfl⟩:=c;exact q [] m g P [] H e BW.refl Step.refl (by unfold AL;exact ⟨rfl,rfl⟩) rl
  | .rf i::as,g,Γ,Γ',js,m,P,H,R,k,r,Q,rl,c,e,q=>by
    unfold AA at c;obtain ⟨⟨o,ho⟩,h2,c⟩:=c;obtain ⟨v,_,hv,_⟩:=rl.see ho;refine ⟨v,hv,AH as rl c e fun ds m' g' P' vs H' hk ag s ar r1=>q _ m' g' P' _ H' hk ag s ?_ r1⟩;unfold AL;exact ⟨v,ds,vs,rfl,rfl,hv,h2,ar⟩
  | .ev Γ1 Γ2 js1 f::as,g,Γ,Γ',js,m,P,H,R,k,r,Q,rl,c,e,q=>by
    unfold AA at c;obtain ⟨rfl,js2,rfl,c⟩:=c;refine ⟨g,m,P,rl,R,_,r,e,fun d m1 g1 P1 Pv v H1 hk ag s rv r1 n=>?_⟩;refine AH as r1 c hk fun ds m2 g2 P2 vs H2 hk2 ag2 s2 ar r2=>q _ m2 g2 P2 _ H2 hk2 (ag.trans ag2) ((s.less fun _ q=>.inl q).trans s2) ?_ r2
    unfold AL;exact ⟨d,v,ds,vs,rfl,rfl,rv.z.held s2 r1.fpOk fun _ z=>z.elim,ar⟩
def RA (K:W.Frag) (g:G) (H:Hp):List Dv->List V->Prop
 | [],vs=>vs=[]
 | d::ds,vs=>∃ v r o P,vs=v::r/\o<=1/\Rep K g H o d v P/\RA K g H ds r
def AU (K:W.Frag) (g:G) (H:Hp) (o:Nat) (d:Dv) (v:V) (H':Hp):Prop:=Nn H H'/\∃ Pv,Rep K g H' o d v Pv/\∀ a,Pv a->H a=none
noncomputable abbrev Pr:=List Dv->Option Dv
abbrev Np:=List V->Hp->VK->Prop
def AF (K:W.Frag) (p:Pr) (o:Nat) (R:Np):Prop:=∀ g H ds vs d Q,Zd g H->RA K g H ds vs->p ds=some d->(∀ v H',AU K g H o d v H'->Q v H')->R vs H Q
def Cc (p:Pr) (fa:Ev (List Dv)):Ev Dv:=fun R m k=>fa R m fun ds m'=>(p ds).bind fun d=>k d m'
theorem bind_some'.{u,v} {α:Type u} {β:Type v} {x:Option α} {f:α->Option β} {b:β} (h:x.bind f=some b):∃ a,x=some a/\f a=some b:=mG.mp h
section
variable {K:W.Frag} {g:G} {H H':Hp} {σ:St} {Γ Γ':Gm} {m:M} {P:Fp}
theorem AL.ra (r:Rel K g H Γ m σ P):∀ {as:List Ar} {ds:List Dv} {vs:List V},AL K g H Γ m σ as ds vs->RA K g H ds vs
 | [],ds,vs,h=>by unfold AL at h;obtain ⟨rfl,rfl⟩:=h;unfold RA;rfl
 | .ev _ _ _ f::as,ds,vs,h=>by
  unfold AL at h;obtain ⟨d,v,ds',vs',rfl,rfl,h1,h2⟩:=h;unfold RA;exact ⟨v,vs',0,nop,rfl,by decide,h1,AL.ra r h2⟩
 | .rf i::as,ds,vs,h=>by
  unfold AL at h;obtain ⟨v,ds',vs',rfl,rfl,h1,⟨o,hl,ho⟩,h3⟩:=h;obtain ⟨v',P1,e,k,_⟩:=r.see ho;rw [h1] at e;cases e;unfold RA;exact ⟨v,vs',o,P1,rfl,hl,k,AL.ra r h3⟩
theorem AU.go {g0:G} {P0:Fp} {H0:Hp} {o:Nat} {d:Dv} {v:V} (s:Step g0 P0 H0 g P H) (r:Rel K g H Γ m σ P) (n:AU K g H o d v H') :
    ∃ Pv,Step g0 P0 H0 g (fun a=>P a\/Pv a) H'/\Rep K g H' o d v Pv/\Rel K g H' Γ m σ P/\Disj P Pv:=by
  obtain ⟨sm,Pv,h1,h2⟩:=n;refine ⟨Pv,s.trans ⟨fun b o h _=>sm b o h,(Step.same (g:=g) (P:=nop) sm).dom,fun _ h=>h,fun _ h=>.inl h,⟨[],by simp⟩,fun a h=>h.elim .inl fun q=>.inr (h2 a q),(Step.same (g:=g) (P:=nop) sm).zd⟩,h1,r.same sm,fun a q z=>r.fpOk.new (h2 a z) q⟩
theorem BJ {p:Pr} {o:Nat} {as:List Ar} {js:List Nat} {R:Np} (hp:AF K p o R) (c:AA Γ as Γ' js) {Q:VK} (h:tE K Γ o Γ' js (Cc p (AJ as)) σ H Q):BN K as σ H fun vs H1=>R vs H1 Q:=by
 obtain ⟨g,m,P,r,R',k,res,e,q⟩:=h;refine AH as r c e fun ds m' g' P' vs H1 hk ag s ar r1=>?_
 obtain ⟨d,e1,e2⟩:=bind_some' hk;refine hp g' H1 ds vs d Q r1.zd (ar.ra r1) e1 fun v H2 nw=>?_
 obtain ⟨Pv,s2,h1,r2,n2⟩:=AU.go s r1 nw;exact q d m' g' P' Pv v H2 e2 ag s2 h1 r2 n2
end
def IL (r:R2):Np:=fun vs H Q=>match vs with | [x,y]=>r x y H Q | _=>False
def gy (r:V->Hp->VK->Prop):Np:=fun vs H Q=>match vs with | [x]=>r x H Q | _=>False
def LX (d:Dv):Ev Dv:=fun _ m k=>k d m
def On (i:Nat):Ev Dv:=fun _ m k=>k (m.at i) m
section
variable {X:Cx} {e:Expr} {Γ Γ':Gm} {js:List Nat} {o:Nat} {f:Ev Dv}
theorem dH {v:V} {d:Dv} (h:PE X e (tC v)) (hd:∀ g H,Rep X.K g H o d v nop):PE X e (tE X.K Γ o Γ [] (LX d)):=PE.imp h fun σ H Q q=>by
 obtain ⟨g,m,P,r,R,k,res,e,q⟩:=q;exact q d m g P nop v H e BW.refl (Step.refl.less fun _ q=>q.elim id False.elim) (hd g H) r fun _ _ z=>z
theorem eK {i:Nat} (h:PE X e (Ex i)) {o:Nat} (hi:Γ[i]?=some (some o)):PE X e (tE X.K Γ 0 (Γ.set i (some 0)) [] (On i)):=PE.imp h fun σ H Q q=>by
 obtain ⟨g,m,P,r,R,k,res,e,q⟩:=q;obtain ⟨g',P',v,s,r',ev,rv⟩:=r.freeze hi;exact ⟨v,ev,q _ m g' P' nop v H e BW.refl (s.less fun _ q=>q.elim id False.elim) rv r' fun _ _ z=>z⟩
theorem eM {i:Nat} (h:PE X e (Ex i)) (hi:Γ[i]?=some (some o)):PE X e (tE X.K Γ o (Γ.set i none) [] (On i)):=PE.imp h fun σ H Q q=>by
 obtain ⟨g,m,P,r,R,k,res,e,q⟩:=q;obtain ⟨v,P1,P2,ev,_,rv,r2,n,hP⟩:=r.take hi;exact ⟨v,ev,q _ m g P2 P1 v H e BW.refl (Step.refl.less fun a q=>(hP a).mpr q.symm) rv r2 fun a q z=>n a z q⟩
theorem Cv (h:PE X e (tE X.K Γ o Γ' js f)):PE X e (tE X.K Γ 0 Γ' js f):=PE.imp h fun σ H Q q=>by
 obtain ⟨g,m,P,r,R,k,res,e,q⟩:=q;refine ⟨g,m,P,r,R,k,res,e,fun d m' g' P' Pv v H' hk ag s rv r1 n=>?_⟩;have st:Step g' Pv H' (g'.add Pv) nop H':=Step.freeze rv.fpOk;refine q d m' (g'.add Pv) P' nop v H' hk ag (s.trans ?_) (rv.freeze fun _ q=>q) (r1.held st rv.fpOk n) fun _ _ z=>z
 exact (st.frame (R:=P')).sub (fun a q=>q.symm) fun a q=>q.elim .inr False.elim
end
def Oo (t:List Dv->Dv) (fa:Ev (List Dv)):Ev Dv:=fun R m k=>fa R m fun ds m'=>if ds.length<=1000000 then k (t ds) m' else none
noncomputable def evd:List Ar->Bool
 | []=>true
 | .ev _ _ _ _::as=>evd as
 | .rf _::_=>false
theorem AL.reps {K:W.Frag} {g:G} {H:Hp} {Γ:Gm} {m:M} {σ:St}:∀ {as:List Ar} {ds:List Dv} {vs:List V},evd as=true->AL K g H Γ m σ as ds vs->Reps K g H 0 ds vs nop
 | [],ds,vs,_,h=>by unfold AL at h;obtain ⟨rfl,rfl⟩:=h;exact Reps.nil
 | .ev _ _ _ f::as,ds,vs,e,h=>by
  unfold AL at h;obtain ⟨d,v,ds',vs',rfl,rfl,h1,h2⟩:=h;exact (Reps.cons h1 (AL.reps (by unfold evd at e;exact e) h2) fun _ z=>z.elim).iff fun a=>⟨fun z=>z.elim,fun z=>z.elim id id⟩
 | .rf i::as,ds,vs,e,h=>by unfold evd at e;cases e
section
variable {X:Cx} {es:List Expr} {Γ Γ':Gm} {js:List Nat} {as:List Ar} {pos:Pos}
theorem eL {x1} (hq:PA X es (BN X.K as)) (c:AA Γ as Γ' js) (he:evd as=true):PE X (.Tuple es x1 pos) (tE X.K Γ 1 Γ' js (Oo .tup (AJ as))):=PE.imp (aa hq) fun σ H Q q=>by
 obtain ⟨g,m,P,r,R,k,res,e,q⟩:=q;refine AH as r c e fun ds m' g' P' vs H1 hk ag s ar r1=>?_
 split at hk
 ·rename_i hz;have rp:=ar.reps he;refine ⟨by rw [<- rp.len];exact lI hz (by decide),fun p hp=>?_⟩;have sm:=DT hp (.tup vs);have st:=Step.same (g:=g') (P:=nop) sm;refine q _ m' g' P' nop (.ref p) _ hk ag ((s.trans (Step.same sm)).less fun _ q=>q.elim id False.elim) ?_ (r1.same sm) fun _ _ z=>z
  unfold Rep;exact ⟨p,vs,rfl,BQ,rp.held st FpOk.nop fun _ _ z=>z⟩
 ·cases hk
theorem AU.lst {K:W.Frag} {g:G} {H:Hp} {ds:List Dv} {vs:List V} {p:Addr} (zd:Zd g H) (rp:Reps K g H 0 ds vs nop) (hp:H p=none):AU K g H 1 (.lst ds) (.ref p) (upd H p (.lst vs)):=by
 have sm:=DT hp (.lst vs);refine ⟨sm,fun b=>b=p,?_,fun a q=>q▸hp⟩;unfold Rep;exact ⟨p,vs,nop,rfl,⟨BQ,(fun z=>by cases z),fun _ z=>zd p z hp⟩,rp.held (Step.same (g:=g) (P:=nop) sm) FpOk.nop fun _ _ z=>z,fun z=>z,fun b=>⟨fun z=>.inl ⟨by decide,z⟩,fun z=>z.elim (fun z=>z.2) False.elim⟩⟩
theorem eN (hq:PA X es (BN X.K as)) (c:AA Γ as Γ' js) (he:evd as=true):PE X (.List es pos) (tE X.K Γ 1 Γ' js (Oo .lst (AJ as))):=PE.imp (aj hq) fun σ H Q q=>by
 obtain ⟨g,m,P,r,R,k,res,e,q⟩:=q;refine AH as r c e fun ds m' g' P' vs H1 hk ag s ar r1=>?_
 split at hk
 ·rename_i hz;have rp:=ar.reps he;refine ⟨by rw [<- rp.len];exact lI hz (by decide),fun p hp=>?_⟩;obtain ⟨Pv,s2,h1,r2,n2⟩:=AU.go s r1 (AU.lst r1.zd rp hp);exact q _ m' g' P' Pv (.ref p) _ hk ag s2 h1 r2 n2
 ·cases hk
end
def ED:List Nat->Type
 | []=>Unit
 | [_]=>Dv
 | _::i::J=>Dv×ED (i::J)
noncomputable def AS:(J:List Nat)->M->ED J
 | [],_=>()
 | [i],m=>m.at i
 | i::j::J,m=>(m.at i,AS (j::J) m)
noncomputable def Aa:(J:List Nat)->M->ED J->M
 | [],m,_=>m
 | [i],m,d=>m.set i d
 | i::j::J,m,t=>Aa (j::J) (m.set i t.1) t.2
theorem SR {m:M} {i:Nat} {d:Dv} (h:i < m.length):M.at (m.set i d) i=d:=JR (lS h)
theorem HA:∀ (J:List Nat) (m:M) (t:ED J),(Aa J m t).length=m.length
 | [],_,_=>rfl
 | [i],m,d=>lM ..
 | i::j::J,m,t=>by unfold Aa;rw [HA];exact lM ..
theorem AO:∀ (J:List Nat) (m:M) (t:ED J),BW J m (Aa J m t)
 | [],_,_=>BW.refl
 | [i],m,d=>BW.set
 | i::j::J,m,t=>by
  unfold Aa;exact (BW.set (i:=i)).trans (AO (j::J) _ _)
theorem OP:∀ (J:List Nat) (m m':M) (i:Nat),i < m.length->i∈J->M.at (Aa J m (AS J m')) i=m'.at i
 | [],_,_,_,_,h=>by cases h
 | [i],m,m',k,hk,h=>by
  have e:=la.mp h;subst e;exact SR hk
 | i::j::J,m,m',k,hk,h=>by
  show M.at (Aa (j::J) (m.set i (m'.at i)) (AS (j::J) m')) k=_
  by_cases z:k∈j::J
  ·exact OP (j::J) _ m' k (by rw [lM];exact hk) z
  ·rw [(AO (j::J) _ _).2 k z];rcases km.mp h with e | e
   ·subst e;exact SR hk
   ·exact (z e).elim
def Ax (Γ:Gm) (js:List Nat):List Nat:=(List.range Γ.length).filter fun i=>js.contains i && (Γ.getD i none).isSome
theorem BL {Γ:Gm} {js:List Nat} {i o:Nat} (h:Γ[i]?=some (some o)):i∈Ax Γ js\/i∉js:=by
 by_cases e:i∈js
 ·refine .inl (mW.mpr ⟨mR.mpr (ka.mp h).1,?_⟩);rw [kX,ki,lB,h];exact ⟨e,rfl⟩
 ·exact .inr e
theorem Aw {Γ:Gm} {js:List Nat} {i:Nat} (h:i∈Ax Γ js):i∈js:=by
 have:=(mW.mp h).2;rw [kX,ki] at this;exact this.1
theorem Rel.join {K:W.Frag} {g:G} {H:Hp} {Γ:Gm} {m m':M} {σ:St} {P:Fp} {J js:List Nat} (r:Rel K g H Γ m' σ P) (ag:BW js m m') (hj:∀ i o,Γ[i]?=some (some o)->i∈J\/i∉js):Rel K g H Γ (Aa J m (AS J m')) σ P:=by
 refine r.agree ((HA ..).trans ag.1.symm) fun i o e=>?_
 have hi:i < m.length:=by rw [<- ag.1,r.len.1];exact (ka.mp e).1
 by_cases z:i∈J
 ·exact OP J m m' i hi z
 ·rw [(AO J m _).2 i z];exact (ag.2 i ((hj i o e).elim (fun q=>(z q).elim) id)).symm
def ZO (p:List Dv->Option Bool) (fa:Ev (List Dv)):Ev Bool:=fun R m k=>fa R m fun ds m'=>(p ds).bind fun b=>k b m'
def NQ (f:Ev Bool):Ev Dv:=fun R m k=>f R m fun b m'=>k (.bl b) m'
def ZM (f:Ev Bool):Ev Bool:=fun R m k=>f R m fun b m'=>k (!b) m'
def HV {α:Type} (c:Ev Bool) (f g:Ev α):Ev α:=fun R m k=>c R m fun b m1=>if b=true then f R m1 k else g R m1 k
def Jn (α:Type):List Nat->Type
 | []=>α
 | i::J=>α×ED (i::J)
def Yx {α:Type}:(J:List Nat)->α->M->Jn α J
 | [],a,_=>a
 | i::J,a,m=>(a,AS (i::J) m)
def jZ {α R:Type}:(J:List Nat)->M->Jn α J->(α->M->Option R)->Option R
 | [],m,a,k=>k a m
 | i::J,m,t,k=>k t.1 (Aa (i::J) m t.2)
theorem Rh {α R:Type} (J:List Nat) (m m':M) (a:α) (k:α->M->Option R):jZ J m (Yx J a m') k=k a (Aa J m (AS J m')):=by cases J<;>rfl
def NO {α:Type} (J:List Nat) (f:Ev α):Ev α:=fun R m k=>(f (Jn α J) m fun a m'=>some (Yx J a m')).bind fun t=>jZ J m t k
section
variable {K:W.Frag} {Γ Γ' Γ2 Γ3:Gm} {js js2 js3 J:List Nat} {σ:St} {H:Hp} {o:Nat}
theorem GR {f:Ev Dv} {Q:VK} (hj:∀ i o,Γ'[i]?=some (some o)->i∈J\/i∉js) (hs:∀ i∈J,i∈js) (h:tE K Γ o Γ' js (NO J f) σ H Q):tE K Γ o Γ' js f σ H Q:=by
 obtain ⟨g,m,P,r,R,k,res,e,q⟩:=h;obtain ⟨t,e1,e2⟩:=bind_some' e;refine ⟨g,m,P,r,_,_,t,e1,fun d m' g' P' Pv v H' hk ag s rv r1 n=>?_⟩;cases hk;rw [Rh] at e2;exact q d _ g' P' Pv v H' e2 ((AO J m _).mono hs) s rv (r1.join ag hj) n
theorem Oc {f:Ev Bool} {Q:Bool->Hp->Prop} (hj:∀ i o,Γ'[i]?=some (some o)->i∈J\/i∉js) (hs:∀ i∈J,i∈js) (h:tT K Γ Γ' js (NO J f) σ H Q):tT K Γ Γ' js f σ H Q:=by
 obtain ⟨g,m,P,r,R,k,res,e,q⟩:=h;obtain ⟨t,e1,e2⟩:=bind_some' e;refine ⟨g,m,P,r,_,_,t,e1,fun d m' g' P' H' hk ag s r1=>?_⟩;cases hk;rw [Rh] at e2;exact q d _ g' P' H' e2 ((AO J m _).mono hs) s (r1.join ag hj)
theorem Nx {f:Ev Bool} {Q:Bool->Hp->Prop} (hw:BS Γ2 Γ'=true) (hs:∀ i∈js,i∈js2) (h:tT K Γ Γ2 js2 f σ H Q):tT K Γ Γ' js f σ H Q:=by
 obtain ⟨g,m,P,r,R,k,res,e,q⟩:=h;refine ⟨g,m,P,r,R,k,res,e,fun b m' g' P' H' hk ag s r1=>?_⟩;obtain ⟨g2,P2,s2,r2⟩:=r1.weaken hw;exact q b m' g2 P2 H' hk (ag.mono hs) (s.trans s2) r2
theorem GM {f:Ev Dv} {Q:VK} (hw:BS Γ2 Γ'=true) (hs:∀ i∈js,i∈js2) (h:tE K Γ 0 Γ2 js2 f σ H Q):tE K Γ 0 Γ' js f σ H Q:=by
 obtain ⟨g,m,P,r,R,k,res,e,q⟩:=h;refine ⟨g,m,P,r,R,k,res,e,fun b m' g' P' Pv v H' hk ag s rv r1 n=>?_⟩;obtain ⟨g2,P2,s2,r2⟩:=r1.weaken hw;exact q b m' g2 P2 nop v H' hk (ag.mono hs) (((s.less fun _ q=>.inl q).trans s2).less fun _ q=>q.elim id False.elim) (rv.z.held s2 r1.fpOk fun _ z=>z.elim) r2 fun _ _ z=>z
theorem gk {p:List Dv->Option Bool} {as:List Ar} {r:Np} (hp:AF K (fun ds=>(p ds).map .bl) 0 r) (c:AA Γ as Γ' js) {Q:Bool->Hp->Prop} (h:tT K Γ Γ' js (ZO p (AJ as)) σ H Q):BN K as σ H fun vs H1=>r vs H1 fun x H'=>∃ k,x=.bl k/\Q k H':=by
 obtain ⟨g,m,P,rl,R',k,res,e,q⟩:=h;refine AH as rl c e fun ds m' g' P' vs H1 hk ag s ar r1=>?_
 obtain ⟨b,e1,e2⟩:=bind_some' hk;refine hp g' H1 ds vs (.bl b) _ r1.zd (ar.ra r1) (by show (p ds).map _=_;rw [e1];rfl) fun v H2 nw=>?_
 obtain ⟨Pv,s2,h1,r2,n2⟩:=AU.go s r1 nw;refine ⟨b,by unfold Rep at h1;exact h1.1,q b m' g' P' H2 e2 ag (s2.less fun _ q=>.inl q) r2⟩
theorem rep_bl {g:G} {o:Nat} {b:Bool} {v:V} {P:Fp} (h:Rep K g H o (.bl b) v P):v=.bl b:=by unfold Rep at h;exact h.1
theorem CO {g:G} {b:Bool}:Rep K g H o (.bl b) (.bl b) nop:=by unfold Rep;exact ⟨rfl,fun _ z=>z⟩
theorem Rp {t u:Ev Bool} {Q:Bool->Hp->Prop} (h:tT K Γ Γ' (js++js2) (HV t u (fun R m k=>k false m)) σ H Q) (hw:BS Γ' Γ2=true):dr (tT K Γ Γ2 js t) (tT K Γ2 Γ' js2 u) σ H Q:=by
 obtain ⟨g,m,P,r,R,k,res,e,q⟩:=h;refine ⟨g,m,P,r,R,_,res,e,fun b m1 g1 P1 H1 hk ag s r1=>?_⟩;cases b with
 | true =>
  rw [if_pos rfl] at hk ⊢;exact ⟨g1,m1,P1,r1,R,k,res,hk,fun c m2 g2 P2 H2 hk2 ag2 s2 r2=>q c m2 g2 P2 H2 hk2 (ag.trans ag2) (s.trans s2) r2⟩
 | false =>
  rw [if_neg kr] at hk ⊢;obtain ⟨g2,P2,s2,r2⟩:=r1.weaken hw;exact q false m1 g2 P2 H1 hk (ag.mono fun _ z=>ku _ z) (s.trans s2) r2
theorem dX {t u:Ev Bool} {Q:Bool->Hp->Prop} (h:tT K Γ Γ' (js++js2) (HV t (fun R m k=>k true m) u) σ H Q) (hw:BS Γ' Γ2=true):jh (tT K Γ Γ2 js t) (tT K Γ2 Γ' js2 u) σ H Q:=by
 obtain ⟨g,m,P,r,R,k,res,e,q⟩:=h;refine ⟨g,m,P,r,R,_,res,e,fun b m1 g1 P1 H1 hk ag s r1=>?_⟩;cases b with
 | false =>
  rw [if_neg kr] at hk ⊢;exact ⟨g1,m1,P1,r1,R,k,res,hk,fun c m2 g2 P2 H2 hk2 ag2 s2 r2=>q c m2 g2 P2 H2 hk2 (ag.trans ag2) (s.trans s2) r2⟩
 | true =>
  rw [if_pos rfl] at hk ⊢;obtain ⟨g2,P2,s2,r2⟩:=r1.weaken hw;exact q true m1 g2 P2 H1 hk (ag.mono fun _ z=>ku _ z) (s.trans s2) r2
theorem Zk {t:Ev Bool} {Q:Bool->Hp->Prop} (h:tT K Γ Γ' js (ZM t) σ H Q):dc (tT K Γ Γ' js t) σ H Q:=by
 obtain ⟨g,m,P,r,R,k,res,e,q⟩:=h;exact ⟨g,m,P,r,R,_,res,e,fun b m1 g1 P1 H1 hk ag s r1=>q (!b) m1 g1 P1 H1 hk ag s r1⟩
theorem dh {c:Ev Bool} {fa fb:Ev Dv} {Q:VK} (h:tE K Γ 0 Γ' (js++(js2++js3)) (HV c fa fb) σ H Q):jl (tT K Γ Γ2 js c) (tE K Γ2 0 Γ' js2 fa) (tE K Γ2 0 Γ' js3 fb) σ H Q:=by
 obtain ⟨g,m,P,r,R,k,res,e,q⟩:=h;refine ⟨g,m,P,r,R,_,res,e,fun b m1 g1 P1 H1 hk ag s r1=>?_⟩;cases b with
 | true =>
  rw [if_pos rfl] at hk ⊢;exact ⟨g1,m1,P1,r1,R,k,res,hk,fun d m2 g2 P2 Pv v H2 hk2 ag2 s2 rv r2 n=>q d m2 g2 P2 Pv v H2 hk2 ((ag.trans ag2).mono fun i z=>(lK.mp z).elim (fun z=>ku _ z) fun z=>kl _ (ku _ z)) (s.trans s2) rv r2 n⟩
 | false =>
  rw [if_neg kr] at hk ⊢;exact ⟨g1,m1,P1,r1,R,k,res,hk,fun d m2 g2 P2 Pv v H2 hk2 ag2 s2 rv r2 n=>q d m2 g2 P2 Pv v H2 hk2 ((ag.trans ag2).mono fun i z=>(lK.mp z).elim (fun z=>ku _ z) fun z=>kl _ (kl _ z)) (s.trans s2) rv r2 n⟩
end
structure Kt (R:Type) where
 nx:M->Option R
 rt:Dv->M->Option R
 bk:M->Option R
 ct:M->Option R
noncomputable abbrev Es:=(R:Type)->M->Kt R->Option R
def Io (io:List Nat) (σ σ':St):Prop:=∀ i∈io,σ'[i]?=σ[i]?
theorem Io.refl {io:List Nat} {σ:St}:Io io σ σ:=fun _ _=>rfl
theorem Io.trans {io:List Nat} {σ σ1 σ2:St} (a:Io io σ σ1) (b:Io io σ1 σ2):Io io σ σ2:=fun i h=>(b i h).trans (a i h)
theorem Io.set {io:List Nat} {σ:St} {i:Nat} {x:Option V} (h:i∉io):Io io σ (σ.set i x):=fun j hj=>lL fun z=>h (by rw [z];exact hj)
structure Fr where
 io:List Nat
 Γr:Gm
 ro:Nat
structure AcS (K:W.Frag) (F:Fr) (Γl:Option Gm) (g:G) (P:Fp) (H:Hp) (σ:St) (D:Ends) (Γn:Option Gm) (js:List Nat) (m:M) {R:Type} (k:Kt R) (r:R):Prop where
 nx:∀ Γ' m' g' P' σ' H',Γn=some Γ'->k.nx m'=some r->BW js m m'->Step g P H g' P' H'->Io F.io σ σ'->Rel K g' H' Γ' m' σ' P'->D.nx σ' H'
 rt:∀ d m' g' P' Pv σ' v H',k.rt d m'=some r->BW js m m'->Step g P H g' (fun a=>P' a\/Pv a) H'->Io F.io σ σ'->Rep K g' H' F.ro d v Pv->Rel K g' H' F.Γr m' σ' P'->Disj P' Pv->D.rt v H'
 bk:∀ Γ' m' g' P' σ' H',Γl=some Γ'->k.bk m'=some r->BW js m m'->Step g P H g' P' H'->Io F.io σ σ'->Rel K g' H' Γ' m' σ' P'->D.bk σ' H'
 ct:∀ Γ' m' g' P' σ' H',Γl=some Γ'->k.ct m'=some r->BW js m m'->Step g P H g' P' H'->Io F.io σ σ'->Rel K g' H' Γ' m' σ' P'->D.ct σ' H'
def tS (K:W.Frag) (F:Fr) (Γl:Option Gm) (Γ:Gm) (Γn:Option Gm) (js:List Nat) (f:Es):TS:=fun D σ H=>∃ g m P,Rel K g H Γ m σ P/\∃ (R:Type) (k:Kt R) (r:R),f R m k=some r/\AcS K F Γl g P H σ D Γn js m k r
theorem AcS.later {K:W.Frag} {F:Fr} {Γl Γn:Option Gm} {g g1:G} {P P1:Fp} {H H1:Hp} {σ σ1:St} {D:Ends} {js ks:List Nat} {m m1:M} {R:Type} {k:Kt R} {r:R} (s:Step g P H g1 P1 H1) (i:Io F.io σ σ1) (ag:BW js m m1) (h:AcS K F Γl g P H σ D Γn (js++ks) m k r):AcS K F Γl g1 P1 H1 σ1 D Γn ks m1 k r:=
  ⟨fun Γ' m' g' P' σ' H' e hk a s' i' r'=>h.nx Γ' m' g' P' σ' H' e hk (ag.trans a) (s.trans s') (i.trans i') r',
   fun d m' g' P' Pv σ' v H' hk a s' i' rv r' n=>h.rt d m' g' P' Pv σ' v H' hk (ag.trans a) (s.trans s') (i.trans i') rv r' n,
   fun Γ' m' g' P' σ' H' e hk a s' i' r'=>h.bk Γ' m' g' P' σ' H' e hk (ag.trans a) (s.trans s') (i.trans i') r',
   fun Γ' m' g' P' σ' H' e hk a s' i' r'=>h.ct Γ' m' g' P' σ' H' e hk (ag.trans a) (s.trans s') (i.trans i') r'⟩
def HU:Es:=fun _ m k=>k.nx m
def gD (f g:Es):Es:=fun R m k=>f R m { k with nx:=fun m1=>g R m1 k }
def LY (c:Ev Bool) (f g:Es):Es:=fun R m k=>c R m fun b m1=>if b=true then f R m1 k else g R m1 k
def ZK (f:Ev Dv):Es:=fun R m k=>f R m k.rt
def UL (f:Ev Dv):Es:=fun R m k=>f R m fun _ m1=>k.nx m1
section
variable {X:Cx} {F:Fr} {Γl Γn Γn2:Option Gm} {Γ Γ' Γ2:Gm} {js js2 js3 J:List Nat} {s:Stmt} {ss rest a b:List Stmt} {e c:Expr} {pos:Pos} {f f2:Es} {fe:Ev Dv} {t:Ev Bool} {o:Nat}
theorem Gh {K:W.Frag} {D:Ends} {σ:St} {H:Hp} (h:tS K F Γl Γ (some Γ) [] HU D σ H):D.nx σ H:=by
 obtain ⟨g,m,P,r,R,k,res,e,q⟩:=h;exact q.nx Γ m g P σ H rfl e BW.refl Step.refl Io.refl r
theorem eG:DJ X [] (tS X.K F Γl Γ (some Γ) [] HU):=DJ.imp WR fun D σ H h=>Gh h
theorem Zy:PS X (.Pass pos) (tS X.K F Γl Γ (some Γ) [] HU):=PS.imp WS fun D σ H h=>Gh h
theorem eI {x j pos'}:PS X (.Expr (.Constant (.str x) j pos) pos') (tS X.K F Γl Γ (some Γ) [] HU):=PS.imp aO fun D σ H h=>Gh h
theorem aD (h1:PS X s (tS X.K F Γl Γ (some Γ2) js f)) (h2:DJ X rest (tS X.K F Γl Γ2 Γn js2 f2)):DJ X (s::rest) (tS X.K F Γl Γ Γn (js++js2) (gD f f2)):=DJ.imp (Ks h1 h2) fun D σ H h=>by
 obtain ⟨g,m,P,r,R,k,res,e,q⟩:=h;refine ⟨g,m,P,r,R,_,res,e,⟨fun Γ' m' g' P' σ' H' e hk ag s' i' r'=>?_,fun d m' g' P' Pv σ' v H' hk ag=>q.rt d m' g' P' Pv σ' v H' hk (ag.mono fun _ z=>ku _ z),fun Γ' m' g' P' σ' H' e hk ag=>q.bk Γ' m' g' P' σ' H' e hk (ag.mono fun _ z=>ku _ z),fun Γ' m' g' P' σ' H' e hk ag=>q.ct Γ' m' g' P' σ' H' e hk (ag.mono fun _ z=>ku _ z)⟩⟩;cases e;exact ⟨g',m',P',r',R,k,res,hk,q.later s' i' ag⟩
theorem Zz (h1:PS X s (tS X.K F Γl Γ none js f)):DJ X (s::rest) (tS X.K F Γl Γ none js f):=DJ.imp (Ks h1 (u:=fun _ _ _=>False) fun _ _ _ _ _ _ z=>z.elim) fun D σ H h=>by
 obtain ⟨g,m,P,r,R,k,res,e,q⟩:=h;exact ⟨g,m,P,r,R,k,res,e,(fun _ _ _ _ _ _ e=>by cases e),q.rt,q.bk,q.ct⟩
theorem eF (h1:PS X s (tS X.K F Γl Γ Γn js f)):DJ X [s] (tS X.K F Γl Γ Γn js f):=WQ h1
theorem eD (hq:PE X e (tE X.K Γ F.ro F.Γr js fe)):PS X (.Return (some e) pos) (tS X.K F Γl Γ none js (ZK fe)):=PS.imp (aM hq) fun D σ H h=>by
 obtain ⟨g,m,P,r,R,k,res,e,q⟩:=h;exact ⟨g,m,P,r,R,_,res,e,fun d m' g' P' Pv v H' hk ag s rv r1 n=>q.rt d m' g' P' Pv σ v H' hk ag s Io.refl rv r1 n⟩
theorem aC (hq:PE X e (tE X.K Γ o Γ' js fe)) (hs:swapsWith e none pos.line X.env=pure false):PS X (.Expr e pos) (tS X.K F Γl Γ (some Γ') js (UL fe)):=PS.imp (WT hq hs) fun D σ H h=>by
 obtain ⟨g,m,P,r,R,k,res,e,q⟩:=h;exact ⟨g,m,P,r,R,_,res,e,fun d m' g' P' Pv v H' hk ag s rv r1 n=>q.nx Γ' m' g' P' σ H' rfl hk ag (s.less fun _ q=>.inl q) Io.refl r1⟩
theorem iT (hc:PT X c (tT X.K Γ Γ2 js t)) (ha:DJ X a (tS X.K F Γl Γ2 Γn js2 f)) (hb:DJ X b (tS X.K F Γl Γ2 Γn js3 f2)):PS X (.If c a b pos) (tS X.K F Γl Γ Γn (js++(js2++js3)) (LY t f f2)):=PS.imp (fG hc ha hb) fun D σ H h=>by
 obtain ⟨g,m,P,r,R,k,res,e,q⟩:=h;refine ⟨g,m,P,r,R,_,res,e,fun b m1 g1 P1 H1 hk ag s r1=>?_⟩;have q2:=q.later s Io.refl ag;have mo:∀ (ks:List Nat),(∀ i∈ks,i∈js2++js3)->AcS X.K F Γl g1 P1 H1 σ D Γn ks m1 k res:=fun ks hks =>
  ⟨fun Γ' m' g' P' σ' H' e hk a=>q2.nx Γ' m' g' P' σ' H' e hk (a.mono hks),fun d m' g' P' Pv σ' v H' hk a=>q2.rt d m' g' P' Pv σ' v H' hk (a.mono hks),fun Γ' m' g' P' σ' H' e hk a=>q2.bk Γ' m' g' P' σ' H' e hk (a.mono hks),fun Γ' m' g' P' σ' H' e hk a=>q2.ct Γ' m' g' P' σ' H' e hk (a.mono hks)⟩
 cases b with
 | true=>rw [if_pos rfl] at hk;show (if true=true then _ else _);rw [if_pos rfl];exact ⟨g1,m1,P1,r1,R,k,res,hk,mo js2 fun _ z=>ku _ z⟩
 | false=>rw [if_neg kr] at hk;show (if false=true then _ else _);rw [if_neg kr];exact ⟨g1,m1,P1,r1,R,k,res,hk,mo js3 fun _ z=>kl _ z⟩
def Jm:Option Gm->Option Gm->Bool
 | some a,some b=>BS a b
 | _,none=>true
 | none,some _=>false
theorem SW (h:DJ X ss (tS X.K F Γl Γ Γn js f)) (hw:Jm Γn2 Γn=true):DJ X ss (tS X.K F Γl Γ Γn2 js f):=DJ.imp h fun D σ H h=>by
 obtain ⟨g,m,P,r,R,k,res,e,q⟩:=h;refine ⟨g,m,P,r,R,k,res,e,fun Γ' m' g' P' σ' H' e hk ag s' i' r'=>?_,q.rt,q.bk,q.ct⟩;subst e;cases Γn2 with
 | none=>cases hw
 | some Γ3 =>
  obtain ⟨g2,P2,s2,r2⟩:=r'.weaken (by unfold Jm at hw;exact hw);exact q.nx Γ3 m' g2 P2 σ' H' rfl hk ag (s'.trans s2) i' r2
def gG (J:List Nat) (f:Es):Es:=fun R m k=>(f (ED J) m ⟨fun m'=>some (AS J m'),fun _ _=>none,fun _=>none,fun _=>none⟩).bind fun t=>k.nx (Aa J m t)
theorem bT {K:W.Frag} {D:Ends} {σ:St} {H:Hp} (hj:∀ i o,Γ'[i]?=some (some o)->i∈J\/i∉js) (hs:∀ i∈J,i∈js) (h:tS K F Γl Γ (some Γ') js (gG J f) D σ H):tS K F Γl Γ (some Γ') js f D σ H:=by
 obtain ⟨g,m,P,r,R,k,res,e,q⟩:=h;obtain ⟨t,e1,e2⟩:=bind_some' e;refine ⟨g,m,P,r,_,_,t,e1,⟨fun Γ2 m' g' P' σ' H' e hk ag s' i' r'=>?_,(fun _ _ _ _ _ _ _ _ hk=>by cases hk),(fun _ _ _ _ _ _ _ hk=>by cases hk),fun _ _ _ _ _ _ _ hk=>by cases hk⟩⟩;cases e;cases hk;exact q.nx Γ' _ g' P' σ' H' rfl e2 ((AO J m _).mono hs) s' i' (r'.join ag hj)
end
noncomputable abbrev Tg:=(R:Type)->Dv->M->(M->Option R)->Option R
def Ag (js:List Nat) (σ σ':St):Prop:=σ'.length=σ.length/\∀ i,i∉js->σ'[i]?=σ[i]?
theorem Ag.io {js io:List Nat} {σ σ':St} (h:Ag js σ σ') (d:∀ i∈io,i∉js):Io io σ σ':=fun i hi=>h.2 i (d i hi)
theorem Ag.trans {js ks:List Nat} {σ σ1 σ2:St} (a:Ag js σ σ1) (b:Ag ks σ1 σ2):Ag (js++ks) σ σ2:=⟨b.1.trans a.1,fun i h=>(b.2 i fun z=>h (kl _ z)).trans (a.2 i fun z=>h (ku _ z))⟩
theorem Ag.set {σ:St} {i:Nat} {x:Option V}:Ag [i] σ (σ.set i x):=⟨lM ..,fun j h=>lL fun z=>h (by rw [z];exact mv _)⟩
def Nl (K:W.Frag) (Γ Γ':Gm) (js:List Nat) (tg:TG) (f:Tg):Prop:=∀ (g:G) (m:M) (P:Fp) (d:Dv) (v:V) (σ:St) (H:Hp) (R:Type) (k:M->Option R) (r:R) (Q:St->Hp->Prop),Rel K g H Γ m σ P->Rep K g H 0 d v nop->f R d m k=some r ->
 (∀ m' P' σ',k m'=some r->BW js m m'->(∀ a,P' a->P a)->Ag js σ σ'->Rel K g H Γ' m' σ' P'->Q σ' H)->tg v σ H Q
def dW (i:Nat):Tg:=fun _ d m k=>k (m.set i d)
theorem Vs {K:W.Frag} {Γ:Gm} {i:Nat} (hi:i < Γ.length):Nl K Γ (Γ.set i (some 0)) [i] (DZ i) (dW i):=fun g m P d v σ H R k r Q rl rv e q=>by
 obtain ⟨P2,r2,s⟩:=rl.setNew hi rv fun _ z=>z.elim
 exact q _ P2 _ e BW.set (fun a z=>(s a z).elim id False.elim) Ag.set r2
noncomputable def dG:(J:List Nat)->List Dv->Option (ED J)
 | [],[]=>some ()
 | [_],[d]=>some d
 | _::j::J,d::ds=>(dG (j::J) ds).bind fun t=>some (d,t)
 | _,_=>none
def Vp (J:List Nat) (d:Dv):Option (ED J):=match d with
 | .tup ds=>dG J ds
 | .lst ds=>dG J ds
 | _=>none
def je (J:List Nat):Tg:=fun _ d m k=>(Vp J d).bind fun t=>k (Aa J m t)
def EL:List Nat->Nm
 | []=>XN
 | i::J=>LR (DZ i) (EL J)
def Zx (Γ:Gm) (J:List Nat) (x:Option Nat):Gm:=J.foldl (fun Γ i=>Γ.set i x) Γ
theorem Iu {K:W.Frag}:∀ (J:List Nat) {Γ:Gm} {g:G} {m:M} {P:Fp} {ds:List Dv} {vs:List V} {σ:St} {H:Hp} {t:ED J} {Q:St->Hp->Prop},(∀ i∈J,i < Γ.length)->Rel K g H Γ m σ P->Reps K g H 0 ds vs nop->dG J ds=some t ->
    (∀ P' σ',(∀ a,P' a->P a)->Ag J σ σ'->Rel K g H (Zx Γ J (some 0)) (Aa J m t) σ' P'->Q σ' H)->ds.length=J.length/\EL J vs σ H Q
  | [],Γ,g,m,P,ds,vs,σ,H,t,Q,hJ,r,rv,e,q=>by
    cases ds with
    | nil =>
      unfold Reps at rv;exact ⟨rfl,rv.1,q P σ (fun _ z=>z) ⟨rfl,fun _ _=>rfl⟩ r⟩
    | cons d ds=>cases e
  | [i],Γ,g,m,P,ds,vs,σ,H,t,Q,hJ,r,rv,e,q=>by
    match ds,e with
    | [d],e =>
      cases e;unfold Reps at rv;obtain ⟨v,vr,P1,P2,rfl,h1,h2,_,h4⟩:=rv;unfold Reps at h2;obtain ⟨P3,r3,s⟩:=r.setNew (hJ i kg) h1.z fun _ z=>z.elim
      exact ⟨rfl,v,vr,rfl,h2.1,q P3 _ (fun a z=>(s a z).elim id False.elim) Ag.set r3⟩
    | [],e=>cases e
    | _::_::_,e=>cases e
  | i::j::J,Γ,g,m,P,ds,vs,σ,H,t,Q,hJ,r,rv,e,q=>by
    match ds,e with
    | [],e=>cases e
    | d::ds,e =>
      obtain ⟨t',e1,e2⟩:=bind_some' (show (dG (j::J) ds).bind (fun t=>some (d,t))=some t from e);cases e2;unfold Reps at rv;obtain ⟨v,vr,P1,P2,rfl,h1,h2,_,h4⟩:=rv;obtain ⟨P3,r3,s⟩:=r.setNew (hJ i kg) h1.z fun _ z=>z.elim
      have s':∀ a,P3 a->P a:=fun a z=>(s a z).elim id False.elim
      have:=Iu (j::J) (Q:=Q) (fun k hk=>by rw [lM];exact hJ k (kh _ hk)) r3 h2.z e1 fun P' σ' sp ag r'=>q P' σ' (fun a z=>s' a (sp a z)) (Ag.set.trans ag) r'
      exact ⟨by simp [this.1],v,vr,rfl,this.2⟩
abbrev fu (K:W.Frag) (n:Nat) (t:Nm):TG:=fun v σ H Q=>XM K n t v σ H Q\/bc n t v σ H Q
theorem Rm {K:W.Frag} {Γ:Gm} {J:List Nat} (hJ:∀ i∈J,i < Γ.length):Nl K Γ (Zx Γ J (some 0)) J (fu K J.length (EL J)) (je J):=fun g m P d v σ H R k r Q rl rv e q=>by
 obtain ⟨t,e1,e2⟩:=bind_some' e;have go:∀ {ds vs},Reps K g H 0 ds vs nop->dG J ds=some t->ds.length=J.length/\EL J vs σ H Q:=fun h1 h2=>Iu J hJ rl h1 h2 fun P' σ' sp ag r'=>q _ P' σ' e2 (AO J m t) sp ag r'
 cases d with
 | tup ds =>
  unfold Rep at rv;obtain ⟨a,vs,rfl,h1,h2⟩:=rv;obtain ⟨l,z⟩:=go h2 e1;exact .inl ⟨a,vs,rfl,.inl (.inl h1),by rw [<- h2.len];exact l,z⟩
 | lst ds =>
  unfold Rep at rv;obtain ⟨a,vs,P',rfl,h1,h2,_⟩:=rv;obtain ⟨l,z⟩:=go h2.z e1;exact .inr ⟨a,vs,rfl,h1.1,by rw [<- h2.len];exact l,z⟩
 | _=>cases e1
theorem PG.or {X:Cx} {e:Expr} {t u:TG} (h:PG X e t) (k:PG X e u):PG X e fun v σ H Q=>t v σ H Q\/u v σ H Q:=fun pins s σ H v w Q I r q=>q.elim (h pins s σ H v w Q I r) (k pins s σ H v w Q I r)
theorem ba {js:List Nat} {t u:TG} (h:Rb js t) (k:Rb js u):Rb js fun v σ H Q=>t v σ H Q\/u v σ H Q:=fun x σ H Q q=>q.elim (fun q=>.inl (h x σ H Q q)) fun q=>.inr (k x σ H Q q)
theorem EK {js:List Nat}:∀ (J:List Nat),(∀ i∈J,i∈js)->RU js (EL J)
 | [],_=>Tr
 | i::J,h=>Qf (h i kg) (EK J fun k hk=>h k (kh _ hk))
def JD (f:Ev Dv) (tg:Tg):Es:=fun R m k=>f R m fun d m1=>tg R d m1 k.nx
section
variable {X:Cx} {F:Fr} {Γl:Option Gm} {Γ Γ' Γ2:Gm} {js js2:List Nat} {e tg:Expr} {pos pos':Pos} {fe:Ev Dv} {g:TG} {ft:Tg} {i o:Nat} {x:Str}
theorem YL {K:W.Frag} (ht:Nl K Γ2 Γ' js2 g ft) (hio:∀ i∈F.io,i∉js2) {D:Ends} {σ:St} {H:Hp} (h:tS K F Γl Γ (some Γ') (js++js2) (JD fe ft) D σ H):Kb (tE K Γ 0 Γ2 js fe) g D σ H:=by
 obtain ⟨g0,m,P,r,R,k,res,e,q⟩:=h;refine ⟨g0,m,P,r,R,_,res,e,fun d m1 g' P' Pv v H' hk ag s rv r1 n=>ht g' m1 P' d v σ H' R k.nx res _ r1 rv.z hk fun m' P2 σ2 hk2 ag2 s2 i r2=>?_⟩;exact q.nx Γ' m' g' P2 σ2 H' rfl hk2 (ag.trans ag2) (s.less fun a z=>.inl (s2 a z)) (i.io hio) r2
theorem OG {K:W.Frag} (hi:i < Γ2.length) (hio:i∉F.io) {D:Ends} {σ:St} {H:Hp} (h:tS K F Γl Γ (some (Γ2.set i (some o))) (js++[i]) (JD fe (dW i)) D σ H):Kb (tE K Γ o Γ2 js fe) (DZ i) D σ H:=by
 obtain ⟨g0,m,P,r,R,k,res,e,q⟩:=h;refine ⟨g0,m,P,r,R,_,res,e,fun d m1 g' P' Pv v H' hk ag s rv r1 n=>?_⟩;obtain ⟨P2,r2,s2⟩:=r1.setNew hi rv fun a q z=>n a z q
 exact q.nx _ _ g' P2 _ H' rfl hk (ag.trans BW.set) (s.less fun a z=>s2 a z) (Io.set hio) r2
theorem eC (hN:X.N.Nodup) (hix:X.N[i]?=some x) (hx:Loc X.env.scope x) (hio:i∉F.io) (hi:i < Γ2.length) (he:PE X e (tE X.K Γ o Γ2 js fe)) (hs:swapsWith e (some (.Name x pos')) pos.line X.env=pure false) (hf:X.fn x=true\/X.env.scope.names.lookup x=some .local) :
    PS X (.Assign [.Name x pos'] e pos) (tS X.K F Γl Γ (some (Γ2.set i (some o))) (js++[i]) (JD fe (dW i))):=PS.imp (aL hN hix hx he hs hf) fun _ _ _ h=>OG hi hio h
theorem eJ (he:PE X e (tE X.K Γ 0 Γ2 js fe)) (hg:PG X tg g) (ht:Nl X.K Γ2 Γ' js2 g ft) (hio:∀ i∈F.io,i∉js2) (hs:swapsWithSole [tg] e pos.line X.env=pure false) (hw:swappedStores [tg] e X.env=pure none)
    (h1:(assignEach [tg] X.env).map (·.2)=[assign tg X.env]):PS X (.Assign [tg] e pos) (tS X.K F Γl Γ (some Γ') (js++js2) (JD fe ft)):=PS.imp (Mj he hg hs hw h1) fun _ _ _ h=>YL ht hio h
end
def Hk (g:G) (H:Hp) (g2:G) (H2:Hp):Prop:=∃ P P',Step g P H g2 P' H2/\FpOk g H P
def Yl (K:W.Frag) (J:It) (ds:List Dv) (g:G) (H:Hp):Prop:=∀ g2 H2,Hk g H g2 H2 ->
 (∀ i d,ds[i]?=some d->J.go i H2/\∀ x H3,J.yld i H2 x H3->AU K g2 H2 0 d x H3)/\∀ i,ds.length<=i->J.stop i H2
def tI (K:W.Frag) (Γ Γ':Gm) (js:List Nat) (f:Ev (List Dv)):TI:=fun σ H Q=>∃ g m P,Rel K g H Γ m σ P/\∃ (R:Type) (k:List Dv->M->Option R) (r:R),f R m k=some r /\
 ∀ ds m' g' P' H' J,k ds m'=some r->BW js m m'->Step g P H g' P' H'->Rel K g' H' Γ' m' σ P'->Yl K J ds g' H'->Q J H'
theorem PI.imp {X:Cx} {tg e:Expr} {t t':TI} (h:PI X tg e t) (k:∀ σ H R,t' σ H R->t σ H R):PI X tg e t':=fun pins s σ H R I q=>h pins s σ H R I (k σ H R q)
theorem AU.old {K:W.Frag} {g:G} {H:Hp} {o:Nat} {d:Dv} {v:V} (h:Rep K g H o d v nop):AU K g H o d v H:=⟨fun _ _ q=>q,nop,h,fun _ z=>z.elim⟩
theorem Hk.rep {K:W.Frag} {g g2:G} {H H2:Hp} {d:Dv} {v:V} (s:Hk g H g2 H2) (h:Rep K g H 0 d v nop):Rep K g2 H2 0 d v nop:=by
 obtain ⟨P,P',st,ok⟩:=s;exact h.held st ok fun _ z=>z.elim
section
variable {τ γ ρ:Type}
inductive Lp (τ γ ρ:Type) where
 | go (c:γ) | bk (c:γ) | rt (d:τ) (r:ρ)
inductive Rs (τ γ ρ:Type) where
 | go (c:γ) | rt (d:τ) (r:ρ)
noncomputable def Rs.el {δ:Type} (x:Rs τ γ ρ) (f:γ->δ) (h:τ->ρ->δ):δ:=match x with | .go c=>f c | .rt d r=>h d r
noncomputable def BP (g:Dv->γ->Option γ):List Dv->γ->Option γ
 | [],c=>some c
 | x::xs,c=>(g x c).bind fun c1=>BP g xs c1
noncomputable def NK (g:Dv->γ->Option (Lp τ γ ρ)):List Dv->γ->Option (Rs τ γ ρ)
 | [],c=>some (.go c)
 | x::xs,c=>(g x c).bind fun l=>match l with
  | .go c1=>NK g xs c1
  | .bk c1=>some (.go c1)
  | .rt d r=>some (.rt d r)
noncomputable def iH (t:γ->Option Bool) (g:γ->Option γ):Nat->γ->Option γ
 | 0,_=>none
 | n+1,c=>(t c).bind fun b=>if b=true then (g c).bind (iH t g n) else some c
noncomputable def iG (t:γ->Option Bool) (g:γ->Option (Lp τ γ ρ)):Nat->γ->Option (Rs τ γ ρ)
 | 0,_=>none
 | n+1,c=>(t c).bind fun b=>if b=true then (g c).bind (fun l=>match l with
  | .go c1=>iG t g n c1
  | .bk c1=>some (.go c1)
  | .rt d r=>some (.rt d r)) else some (.go c)
end
def kC (J:List Nat):Kt (ED J):=⟨fun m'=>some (AS J m'),fun _ _=>none,fun _=>none,fun m'=>some (AS J m')⟩
def kE (J Jr:List Nat):Kt (Lp Dv (ED J) (ED Jr)):=⟨fun m'=>some (.go (AS J m')),fun d m'=>some (.rt d (AS Jr m')),fun m'=>some (.bk (AS J m')),fun m'=>some (.go (AS J m'))⟩
def UK (src:Ev (List Dv)) (tg:Tg) (J:List Nat) (b:Es):Es:=fun R m k=>src R m fun ds m1 =>
 (BP (fun d t=>tg (ED J) d (Aa J m1 t) fun m2=>b (ED J) m2 (kC J)) ds (AS J m1)).bind fun t=>k.nx (Aa J m1 t)
def UJ (src:Ev (List Dv)) (tg:Tg) (J Jr:List Nat) (b:Es):Es:=fun R m k=>src R m fun ds m1 =>
 (NK (fun d t=>tg (Lp Dv (ED J) (ED Jr)) d (Aa J m1 t) fun m2=>b (Lp Dv (ED J) (ED Jr)) m2 (kE J Jr)) ds (AS J m1)).bind fun x=>x.el (fun t=>k.nx (Aa J m1 t)) fun d t=>k.rt d (Aa Jr m1 t)
theorem NJ {J:List Nat} {Γ:Gm} {K:W.Frag} {g:G} {H:Hp} {m:M} {σ:St} {P:Fp} (r:Rel K g H Γ m σ P):Rel K g H Γ (Aa J m (AS J m)) σ P:=r.join (js:=[]) BW.refl fun _ _ _=>.inr (by simp)
theorem Ol {K:W.Frag} {F:Fr} {Γl0:Option Gm} {Γ Γt:Gm} {Γo:Option Gm} {jt jb:List Nat} {g:TG} {ft:Tg} {b:Es} {J Jr:List Nat} (ht:Nl K Γ Γt jt g ft) (hio:∀ i∈F.io,i∉jt) (hw:Jm (some Γ) Γo=true)
    (hJ:J=Ax Γ (jt++jb)) (hJr:Jr=Ax F.Γr (jt++jb)) {ds:List Dv} {m1:M} {D:Ends} {σ:St} {H1:Hp} {g1:G} {P1:Fp} {I:It} {R:Type} {k:Kt R} {res:R}
    (r1:Rel K g1 H1 Γ m1 σ P1) (yl:Yl K I ds g1 H1) (run:List Dv->ED J->Prop) (h0:run ds (AS J m1)) (hn:∀ t,run [] t->k.nx (Aa J m1 t)=some res)
    (hc:∀ d ds t,run (d::ds) t->∃ (B:Type) (κ:Kt B) (r:B),ft B d (Aa J m1 t) (fun m2=>b B m2 κ)=some r/\(∀ m',κ.nx m'=some r->run ds (AS J m'))/\(∀ m',κ.ct m'=some r->run ds (AS J m')) /\
      (∀ m',κ.bk m'=some r->k.nx (Aa J m1 (AS J m'))=some res)/\∀ d m',κ.rt d m'=some r->k.rt d (Aa Jr m1 (AS Jr m'))=some res)
    (q:AcS K F Γl0 g1 P1 H1 σ D (some Γ) (jt++jb) m1 k res) :
    ∃ W:Nat->Nat->St->Hp->Prop,(∃ m,W 0 m σ H1)/\∀ i m σ H,W i m σ H ->
      (I.stop i H/\D.nx σ H)\/(I.go i H/\∃ N:St->Hp->Prop,(∀ σ' H',N σ' H'->∃ m',m' < m/\W (i+1) m' σ' H')/\∀ x H',I.yld i H x H'->g x σ H' fun σ2 H2=>tS K F (some Γ) Γt Γo jb b { D with nx:=N,ct:=N,bk:=D.nx } σ2 H2):=by
  have sub:∀ i∈J,i∈jt++jb:=fun i h=>Aw (hJ▸h)
  have subr:∀ i∈Jr,i∈jt++jb:=fun i h=>Aw (hJr▸h)
  refine ⟨fun i j σ' H'=>j=ds.length - i/\i<=ds.length/\∃ g2 t P2,Step g1 P1 H1 g2 P2 H'/\Io F.io σ σ'/\Rel K g2 H' Γ (Aa J m1 t) σ' P2/\run (ds.drop i) t,⟨ds.length,by simp,lq _,g1,AS J m1,P1,Step.refl,Io.refl,NJ r1,by simpa using h0⟩,?_⟩;rintro i j σ2 H2 ⟨rfl,hi,g2,t,P2,s2,i2,r2,e2⟩;have st:Hk g1 H1 g2 H2:=⟨P1,P2,s2,r1.fpOk⟩
  by_cases hlt:i < ds.length
  · rw [mr hlt] at e2;obtain ⟨B,κ,rB,e3,knx,kct,kbk,krt⟩:=hc _ _ _ e2;obtain ⟨go,yy⟩:=(yl g2 H2 st).1 i ds[i] (kZ hlt);refine .inr ⟨go,fun σ' H'=>∃ g5 P5 m',Step g1 P1 H1 g5 P5 H'/\Io F.io σ σ'/\Rel K g5 H' Γ m' σ' P5/\BW (jt++jb) m1 m'/\run (ds.drop (i+1)) (AS J m'),?_,fun x H3 hy=>?_⟩
    · rintro σ' H' ⟨g5,P5,m',s5,i5,r5,ag,hr⟩;exact ⟨ds.length - (i+1),by omega,rfl,hlt,g5,AS J m',P5,s5,i5,r5.join ag fun i o h=>hJ▸BL h,hr⟩
    · obtain ⟨Pv,s3,h3,r3,n3⟩:=AU.go s2 r2 (yy x H3 hy);refine ht g2 _ P2 ds[i] x σ2 H3 B _ rB _ r3 h3.z e3 fun m2 P' σ' hk ag sp ip r'=>?_
      have s4:Step g1 P1 H1 g2 P' H3:=s3.less fun a z=>.inl (sp a z)
      have i4:=i2.trans (ip.io hio);have a4:BW (jt++jb) m1 m2:=((AO J m1 t).mono sub).trans ag |>.mono fun i z=>(lK.mp z).elim id fun z=>ku _ z
      have a5:∀ {m'},BW jb m2 m'->BW (jt++jb) m1 m':=fun h=>(a4.trans h).mono fun i z=>(lK.mp z).elim id fun z=>kl _ z
      refine ⟨g2,m2,P',r',B,κ,rB,hk,⟨fun Γ' m' g' P'' σ'' H' e hk ag' s' i' rr=>?_,fun d m' g' P'' Pv σ'' v H' hk ag' s' i' rv rr n=>?_,fun Γ' m' g' P'' σ'' H' e hk ag' s' i' rr=>?_,fun Γ' m' g' P'' σ'' H' e hk ag' s' i' rr=>?_⟩⟩
      · subst e;obtain ⟨g6,P6,s6,r6⟩:=rr.weaken (by unfold Jm at hw;exact hw);exact ⟨g6,P6,m',(s4.trans s').trans s6,i4.trans i',r6,a5 ag',knx m' hk⟩
      · exact q.rt d _ g' P'' Pv σ'' v H' (krt d m' hk) ((AO Jr m1 _).mono subr) (s4.trans s') (i4.trans i') rv (rr.join (a5 ag') fun i o h=>hJr▸BL h) n
      · cases e;exact q.nx Γ _ g' P'' σ'' H' rfl (kbk m' hk) ((AO J m1 _).mono sub) (s4.trans s') (i4.trans i') (rr.join (a5 ag') fun i o h=>hJ▸BL h)
      · cases e;exact ⟨g',P'',m',s4.trans s',i4.trans i',rr,a5 ag',kct m' hk⟩
  · have ei:i=ds.length:=by omega
    subst ei;rw [List.drop_length] at e2;exact .inl ⟨(yl g2 H2 st).2 _ (kj _),q.nx Γ _ g2 P2 σ2 H2 rfl (hn t e2) ((AO J m1 _).mono sub) s2 i2 r2⟩
section
variable {X:Cx} {F:Fr} {Γl0:Option Gm} {Γ Γ1 Γ2 Γt:Gm} {Γo:Option Gm} {js jt jb J Jr:List Nat} {tg iter:Expr} {body:List Stmt} {src:Ev (List Dv)} {g:TG} {ft:Tg} {b:Es} {pos:Pos}
theorem Hk.pre {g g2 g3:G} {H H3:Hp} {P P2:Fp} (s:Step g P H g2 P2 H) (ok:FpOk g H P) (st:Hk g2 H g3 H3):Hk g H g3 H3:=by
 obtain ⟨P3,P3',s3,ok3⟩:=st;exact ⟨fun a=>P a\/P3 a,P3',(s.frame (R:=P3)).trans (s3.sub (fun _ z=>.inr z) fun _ z=>z),ok.or fun a z=>⟨(ok3 a z).1,fun w=>(ok3 a z).2 (s.zm a w)⟩⟩
theorem Vo {K:W.Frag} {σ:St} {H:Hp} {Q:It->Hp->Prop} (hw:BS Γ2 Γ1=true) (h:tI K Γ Γ2 js src σ H Q):tI K Γ Γ1 js src σ H Q:=by
 obtain ⟨g,m,P,r,R,k,res,e,q⟩:=h;refine ⟨g,m,P,r,R,k,res,e,fun ds m' g' P' H' J hk ag s r1 yl=>?_⟩;obtain ⟨g2,P2,s2,r2⟩:=r1.weaken hw;exact q ds m' g2 P2 H' J hk ag (s.trans s2) r2 fun g3 H3 st=>yl g3 H3 (st.pre s2 r1.fpOk)
theorem aB (hp:PassesOwn (model X.prog X.w) X.A X.env X.xe) (hc:X.calm=true) (hi:PI X tg iter (tI X.K Γ Γ1 js src)) (hg:PG X tg g) (ht:Nl X.K Γ1 Γt jt g ft) (hio:∀ i∈F.io,i∉jt) (hb:DJ X body (tS X.K F (some Γ1) Γt Γo jb b)) (hw:Jm (some Γ1) Γo=true) (hJ:J=Ax Γ1 (jt++jb))
    (hs:∀ x,foldedSetIterable iter X.env x=pure x):PS X (.For tg iter body [] pos) (tS X.K F Γl0 Γ (some Γ1) (js++(jt++jb)) (UK src ft J b)):=PS.imp (Sm hp hc hi hg hb hs) fun D σ H h=>by
  obtain ⟨g0,m,P,r,R,k,res,e,q⟩:=h;refine ⟨g0,m,P,r,R,_,res,e,fun ds m1 g1 P1 H1 I hk ag s r1 yl=>?_⟩;obtain ⟨t,e1,e2⟩:=bind_some' hk;refine Ol (Jr:=Ax F.Γr (jt++jb)) ht hio hw hJ rfl r1 yl (fun ds t0=>BP _ ds t0=some t) e1 (fun t0 h=>?_) (fun d ds t0 h=>?_) (q.later s Io.refl ag)
  · cases h;exact e2
  · obtain ⟨t1,h1,h2⟩:=bind_some' h;refine ⟨ED J,kC J,t1,h1,fun m' hk=>?_,fun m' hk=>?_,(fun m' hk=>by cases hk),fun d m' hk=>by cases hk⟩
    · cases hk;exact h2
    · cases hk;exact h2
theorem aA (hp:PassesOwn (model X.prog X.w) X.A X.env X.xe) (hc:X.calm=true) (hi:PI X tg iter (tI X.K Γ Γ1 js src)) (hg:PG X tg g) (ht:Nl X.K Γ1 Γt jt g ft) (hio:∀ i∈F.io,i∉jt) (hb:DJ X body (tS X.K F (some Γ1) Γt Γo jb b)) (hw:Jm (some Γ1) Γo=true) (hJ:J=Ax Γ1 (jt++jb)) (hJr:Jr=Ax F.Γr (jt++jb))
    (hs:∀ x,foldedSetIterable iter X.env x=pure x):PS X (.For tg iter body [] pos) (tS X.K F Γl0 Γ (some Γ1) (js++(jt++jb)) (UJ src ft J Jr b)):=PS.imp (Sm hp hc hi hg hb hs) fun D σ H h=>by
  obtain ⟨g0,m,P,r,R,k,res,e,q⟩:=h;refine ⟨g0,m,P,r,R,_,res,e,fun ds m1 g1 P1 H1 I hk ag s r1 yl=>?_⟩;obtain ⟨x,e1,e2⟩:=bind_some' hk;refine Ol ht hio hw hJ hJr r1 yl (fun ds t0=>NK _ ds t0=some x) e1 (fun t0 h=>?_) (fun d ds t0 h=>?_) (q.later s Io.refl ag)
  · cases h;exact e2
  · obtain ⟨l,h1,h2⟩:=bind_some' h;refine ⟨_,kE J Jr,l,h1,fun m' hk=>?_,fun m' hk=>?_,fun m' hk=>?_,fun d m' hk=>?_⟩
    · cases hk;exact h2
    · cases hk;exact h2
    · cases hk;cases h2;exact e2
    · cases hk;cases h2;exact e2
end
def ZG (n:Nat) (c:Ev Bool) (J:List Nat) (b:Es):Es:=fun R m k =>
 (iH (fun t=>c Bool (Aa J m t) fun b _=>some b) (fun t=>b (ED J) (Aa J m t) (kC J)) n (AS J m)).bind fun t=>k.nx (Aa J m t)
def ZF (n:Nat) (c:Ev Bool) (J Jr:List Nat) (b:Es):Es:=fun R m k =>
 (iG (fun t=>c Bool (Aa J m t) fun b _=>some b) (fun t=>b (Lp Dv (ED J) (ED Jr)) (Aa J m t) (kE J Jr)) n (AS J m)).bind fun x=>x.el (fun t=>k.nx (Aa J m t)) fun d t=>k.rt d (Aa Jr m t)
theorem Re {K:W.Frag} {F:Fr} {Γl0:Option Gm} {Γ Γc:Gm} {Γo:Option Gm} {jb:List Nat} {c:Ev Bool} {b:Es} {J Jr:List Nat} (hwc:BS Γ Γc=true) (hw:Jm (some Γ) Γo=true)
    (hJ:J=Ax Γ jb) (hJr:Jr=Ax F.Γr jb) {m1:M} {D:Ends} {σ:St} {H1:Hp} {g1:G} {P1:Fp} {R:Type} {k:Kt R} {res:R}
    (r1:Rel K g1 H1 Γ m1 σ P1) (run:Nat->ED J->Prop) {n:Nat} (h0:run n (AS J m1))
    (hc:∀ n t,run n t->∃ bb,c Bool (Aa J m1 t) (fun b _=>some b)=some bb/\if bb=true then ∃ n',n' < n/\∃ (B:Type) (κ:Kt B) (r:B),b B (Aa J m1 t) κ=some r/\(∀ m',κ.nx m'=some r->run n' (AS J m'))/\(∀ m',κ.ct m'=some r->run n' (AS J m')) /\
      (∀ m',κ.bk m'=some r->k.nx (Aa J m1 (AS J m'))=some res)/\(∀ d m',κ.rt d m'=some r->k.rt d (Aa Jr m1 (AS Jr m'))=some res) else k.nx (Aa J m1 t)=some res)
    (q:AcS K F Γl0 g1 P1 H1 σ D (some Γ) jb m1 k res):Ro (tT K Γ Γc [] c) (tS K F (some Γ) Γ Γo jb b) D σ H1:=by
  have sub:∀ i∈J,i∈jb:=fun i h=>Aw (hJ▸h)
  have subr:∀ i∈Jr,i∈jb:=fun i h=>Aw (hJr▸h)
  refine ⟨fun n σ' H'=>∃ g2 t P2,Step g1 P1 H1 g2 P2 H'/\Io F.io σ σ'/\Rel K g2 H' Γ (Aa J m1 t) σ' P2/\run n t,⟨n,g1,AS J m1,P1,Step.refl,Io.refl,NJ r1,h0⟩,?_⟩;rintro n' σ2 H2 ⟨g2,t,P2,s2,i2,r2,e2⟩;obtain ⟨bb,e3,e4⟩:=hc n' t e2;refine ⟨g2,_,P2,r2,Bool,_,bb,e3,fun b' m' g3 P3 H3 hk ag s3 r3=>?_⟩;cases hk;obtain ⟨g4,P4,s4,r4⟩:=r3.weaken hwc;have r5:Rel K g4 H3 Γ (Aa J m1 t) σ2 P4:=r4.agree ag.1.symm fun i o _=>(ag.2 i (by simp)).symm
  have s5:=(s2.trans s3).trans s4;cases bb with
  | false=>rw [if_neg kr] at e4 ⊢;exact q.nx Γ _ g4 P4 σ2 H3 rfl e4 ((AO J m1 _).mono sub) s5 i2 r5
  | true =>
    rw [if_pos rfl] at e4 ⊢;obtain ⟨n2,hn,B,κ,rB,eb,knx,kct,kbk,krt⟩:=e4;have a5:∀ {m'},BW jb (Aa J m1 t) m'->BW jb m1 m':=fun h=>(((AO J m1 t).mono sub).trans h).mono fun i z=>(lK.mp z).elim id id
    refine ⟨fun σ' H'=>∃ g5 P5 m',Step g1 P1 H1 g5 P5 H'/\Io F.io σ σ'/\Rel K g5 H' Γ m' σ' P5/\BW jb m1 m'/\run n2 (AS J m'),?_,g4,_,P4,r5,B,κ,rB,eb,⟨fun Γ' m' g' P'' σ'' H' e hk ag' s' i' rr=>?_,fun d m' g' P'' Pv σ'' v H' hk ag' s' i' rv rr n=>?_,fun Γ' m' g' P'' σ'' H' e hk ag' s' i' rr=>?_,fun Γ' m' g' P'' σ'' H' e hk ag' s' i' rr=>?_⟩⟩
    · rintro σ' H' ⟨g6,P6,m',s6,i6,r6,ag6,hr⟩;exact ⟨n2,hn,g6,AS J m',P6,s6,i6,r6.join ag6 fun i o h=>hJ▸BL h,hr⟩
    · subst e;obtain ⟨g6,P6,s6,r6⟩:=rr.weaken (by unfold Jm at hw;exact hw);exact ⟨g6,P6,m',(s5.trans s').trans s6,i2.trans i',r6,a5 ag',knx m' hk⟩
    · exact q.rt d _ g' P'' Pv σ'' v H' (krt d m' hk) ((AO Jr m1 _).mono subr) (s5.trans s') (i2.trans i') rv (rr.join (a5 ag') fun i o h=>hJr▸BL h) n
    · cases e;exact q.nx Γ _ g' P'' σ'' H' rfl (kbk m' hk) ((AO J m1 _).mono sub) (s5.trans s') (i2.trans i') (rr.join (a5 ag') fun i o h=>hJ▸BL h)
    · cases e;exact ⟨g',P'',m',s5.trans s',i2.trans i',rr,a5 ag',kct m' hk⟩
section
variable {X:Cx} {F:Fr} {Γl0:Option Gm} {Γ Γc:Gm} {Γo:Option Gm} {jb J Jr:List Nat} {c:Expr} {body:List Stmt} {t:Ev Bool} {b:Es} {pos:Pos}
theorem dz (n:Nat) (hp:PassesOwn (model X.prog X.w) X.A X.env X.xe) (hc:PT X c (tT X.K Γ Γc [] t)) (hb:DJ X body (tS X.K F (some Γ) Γ Γo jb b)) (hwc:BS Γ Γc=true) (hw:Jm (some Γ) Γo=true) (hJ:J=Ax Γ jb) :
    PS X (.While c body [] pos) (tS X.K F Γl0 Γ (some Γ) jb (ZG n t J b)):=PS.imp (Ku hp hc hb) fun D σ H h=>by
  obtain ⟨g0,m,P,r,R,k,res,e,q⟩:=h;obtain ⟨t',e1,e2⟩:=bind_some' e;refine Re (Jr:=Ax F.Γr jb) hwc hw hJ rfl r (fun n t0=>iH _ _ n t0=some t') e1 (fun n t0 h=>?_) q;cases n with
  | zero=>cases h
  | succ n =>
    obtain ⟨bb,h1,h2⟩:=bind_some' h;refine ⟨bb,h1,?_⟩;cases bb with
    | false=>rw [if_neg kr] at h2 ⊢;cases h2;exact e2
    | true =>
      rw [if_pos rfl] at h2 ⊢;obtain ⟨t1,h3,h4⟩:=bind_some' h2;refine ⟨n,nT n,ED J,kC J,t1,h3,fun m' hk=>?_,fun m' hk=>?_,(fun m' hk=>by cases hk),fun d m' hk=>by cases hk⟩
      · cases hk;exact h4
      · cases hk;exact h4
theorem dv (n:Nat) (hp:PassesOwn (model X.prog X.w) X.A X.env X.xe) (hc:PT X c (tT X.K Γ Γc [] t)) (hb:DJ X body (tS X.K F (some Γ) Γ Γo jb b)) (hwc:BS Γ Γc=true) (hw:Jm (some Γ) Γo=true) (hJ:J=Ax Γ jb) (hJr:Jr=Ax F.Γr jb) :
    PS X (.While c body [] pos) (tS X.K F Γl0 Γ (some Γ) jb (ZF n t J Jr b)):=PS.imp (Ku hp hc hb) fun D σ H h=>by
  obtain ⟨g0,m,P,r,R,k,res,e,q⟩:=h;obtain ⟨x,e1,e2⟩:=bind_some' e;refine Re hwc hw hJ hJr r (fun n t0=>iG _ _ n t0=some x) e1 (fun n t0 h=>?_) q;cases n with
  | zero=>cases h
  | succ n =>
    obtain ⟨bb,h1,h2⟩:=bind_some' h;refine ⟨bb,h1,?_⟩;cases bb with
    | false=>rw [if_neg kr] at h2 ⊢;cases h2;exact e2
    | true =>
      rw [if_pos rfl] at h2 ⊢;obtain ⟨l,h3,h4⟩:=bind_some' h2;refine ⟨n,nT n,_,kE J Jr,l,h3,fun m' hk=>?_,fun m' hk=>?_,fun m' hk=>?_,fun d m' hk=>?_⟩
      · cases hk;exact h4
      · cases hk;exact h4
      · cases hk;cases h4;exact e2
      · cases hk;cases h4;exact e2
end
end R
namespace Q
open PySem L2
inductive Dt where
 | non | bl (b:Bool) | int (i:Int) | str (x:List Nat)
 | tup (xs:List Dt) | lst (o:Bool) (xs:List Dt) | dic (o:Bool) (kvs:List (Dt×Dt)) | ref (k:Nat) | scr (ns:List Int) | ty (n:String) | mtp (ls:List (List Nat)) | dti (o:Bool) (kvs:List (List Int×Int))
 deriving Inhabited
structure G where
 Z:Addr->Prop
 μ:List Addr
noncomputable abbrev Fp:=Addr->Prop
def Disj (P Q:Fp):Prop:=∀ a,P a->Q a->False
def Lk (g:G) (H:Hp):Bool->Addr->List V->Prop
 | true,a,vs=>H a=some (.lst vs)/\¬ g.Z a
 | false,a,vs=>H a=some (.lst vs)/\g.Z a
def Scr (K:W.Frag) (H:Hp) (a:Addr) (ns:List Int):Prop:=(∃ o,H a=some (.frz o (.lst (ns.map V.int)))) \/
    ∃ (o:Obj) (its:Array Value) (n:Nat),K.lookup a=some o/\o.cls=.type "list" /\ o.dict=none/\o.data=.seq its n/\its.size<=sizeLine/\AD (ns.map V.int) its.toList
theorem Scr.sq {K:W.Frag} {H:Hp} {a:Addr} {ns:List Int} (h:Scr K H a ns):CZ K H a (ns.map V.int):=h.elim (fun h=>.inl (.inr h)) .inr
def Mtp (K:W.Frag) (a:Addr) (ls:List (List Nat)):Prop:=∃ (o:Obj) (its:Array Value) (n:Nat),K.lookup a=some o/\o.cls=.type "tuple" /\ o.data=.seq its n/\its.size<=sizeLine/\AD (ls.map fun l=>V.str (tx l)) its.toList
def encD (kvs:List (List Int×Int)):List (List BB×V):=kvs.map fun p=>(p.1.map Sum.inl,V.int p.2)
mutual
noncomputable def Rep (K:W.Frag) (g:G) (H:Hp):Dt->V->Fp->Prop
 | .non,v,P=>v=.non/\∀ a,¬ P a
 | .bl b,v,P=>v=.bl b/\∀ a,¬ P a
 | .int i,v,P=>v=.int i/\∀ a,¬ P a
 | .str l,v,P=>v=.str (tx l)/\∀ a,¬ P a
 | .tup ds,v,P=>∃ a vs,v=.ref a/\H a=some (.tup vs)/\Reps K g H ds vs P
 | .lst o ds,v,P=>∃ a vs P',v=.ref a/\Lk g H o a vs/\Reps K g H ds vs P'/\¬ P' a/\(o=false->∀ b,¬ P' b)/\∀ b,P b↔(o=true/\b=a)\/P' b
 | .dic _ _,_,_=>False
 | .ref k,v,P=>(∃ a,g.μ[k]?=some a/\v=.ref a)/\∀ a,¬ P a
 | .scr ns,v,P=>(∃ a,v=.ref a/\Scr K H a ns)/\∀ a,¬ P a
 | .ty n,v,P=>v=.ty n/\∀ a,¬ P a
 | .mtp ls,v,P=>(∃ a,v=.ref a/\Mtp K a ls)/\∀ a,¬ P a
 | .dti o kvs,v,P=>∃ a,v=.ref a/\H a=some (.dT (encD kvs))/\(o=true->¬ g.Z a)/\(o=false->g.Z a)/\∀ b,P b↔(o=true/\b=a)
noncomputable def Reps (K:W.Frag) (g:G) (H:Hp):List Dt->List V->Fp->Prop
 | [],vs,P=>vs=[]/\∀ a,¬ P a
 | d::ds,vs,P=>∃ v r P1 P2,vs=v::r/\Rep K g H d v P1/\Reps K g H ds r P2/\Disj P1 P2/\∀ a,P a↔P1 a\/P2 a
end
mutual
noncomputable def Dt.cp:Dt->Bool
 | .tup ds=>cps ds
 | .lst o ds=>!o && cps ds
 | .dti o _=>!o
 | .dic _ _=>false
 | _=>true
noncomputable def cps:List Dt->Bool
 | []=>true
 | d::ds=>d.cp && cps ds
end
section
variable {K:W.Frag} {g g':G} {H H':Hp}
def nop:Fp:=fun _=>False
theorem nop_iff {R:Fp} (h:∀ a,¬ R a):R=nop:=funext fun a=>propext ⟨fun z=>(h a z).elim,fun z=>z.elim⟩
theorem Reps.nil:Reps K g H [] [] nop:=by unfold Reps;exact ⟨rfl,fun _ z=>z⟩
end
structure Ob where
 c:Nat
 fs:List (Str×Dt)
structure M where
 ρ:List (Option Dt)
 S:List Ob
noncomputable abbrev Ev (α:Type):=M->Option (α×M)
section
end
section
end
inductive Om where
 | ev (f:Ev Dt)
 | rf (i:Nat)
def RA (K:W.Frag) (g:G) (H:Hp):List Dt->List V->Prop
 | [],vs=>vs=[]
 | d::ds,vs=>∃ v r P,vs=v::r/\Rep K g H d v P/\RA K g H ds r
noncomputable abbrev Pr:=List Dt->Option Dt
section
end
section
variable {X:Cx} {a b c e:Expr} {es:List Expr} {pos:Pos} {oa ob oc:Om} {os:List Om} {f fa fb:Ev Dt} {p:Pr}
def evd:List Om->Bool
 | []=>true
 | .ev _::os=>evd os
 | .rf _::_=>false
end
def jw (f g:Ev Bool) (m:M):Option (Bool×M):=do
 let (b,m1) <- f m
 if b then g m1 else some (false,m1)
def evOr (f g:Ev Bool) (m:M):Option (Bool×M):=do
 let (b,m1) <- f m
 if b then some (true,m1) else g m1
section
variable {K:W.Frag} {σ:St} {H:Hp}
theorem rep_bl {g:G} {b:Bool} {v:V} {P:Fp} (h:Rep K g H (.bl b) v P):v=.bl b:=by unfold Rep at h;exact h.1
theorem rep_int {g:G} {b:Int} {v:V} {P:Fp} (h:Rep K g H (.int b) v P):v=.int b:=by unfold Rep at h;exact h.1
theorem rep_str {g:G} {b:List Nat} {v:V} {P:Fp} (h:Rep K g H (.str b) v P):v=.str (tx b):=by unfold Rep at h;exact h.1
theorem rep_non {g:G} {v:V} {P:Fp} (h:Rep K g H .non v P):v=.non:=by unfold Rep at h;exact h.1
theorem Rep.tup {g:G} {ds:List Dt} {v:V} {P:Fp} (h:Rep K g H (.tup ds) v P):∃ a vs,v=.ref a/\DG K H a vs/\Reps K g H ds vs P:=by unfold Rep at h;obtain ⟨a,vs,e,h1,h2⟩:=h;exact ⟨a,vs,e,.inl (.inl h1),h2⟩
theorem Rep.lst {g:G} {o:Bool} {ds:List Dt} {v:V} {P:Fp} (h:Rep K g H (.lst o ds) v P):∃ a vs P',v=.ref a/\H a=some (.lst vs)/\Reps K g H ds vs P':=by
 unfold Rep at h;obtain ⟨a,vs,P',e,h1,h2,_⟩:=h;refine ⟨a,vs,P',e,?_,h2⟩;cases o<;>exact h1.1
theorem Rep.scr {g:G} {ns:List Int} {v:V} {P:Fp} (h:Rep K g H (.scr ns) v P):∃ a,v=.ref a/\CZ K H a (ns.map V.int):=by unfold Rep at h;obtain ⟨⟨a,e,h1⟩,_⟩:=h;exact ⟨a,e,h1.sq⟩
end
section
end
inductive Fl where
 | nx | ct | bk | rt (d:Dt)
noncomputable abbrev Es:=M->Option (Fl×M)
section
end
noncomputable abbrev Tg:=Dt->M->Option M
section
end
section
end
def items:Dt->Option (List Dt)
 | .tup ds=>bif cps ds then some ds else none
 | .lst _ ds=>bif cps ds then some ds else none
 | .scr ns=>some (ns.map .int)
 | _=>none
section
end
section
variable {X:Cx} {tg e a b:Expr} {f:Ev Dt} {oa ob:Om} {p pos:Pos}
noncomputable def small (i:Int):Bool:=-1000000000<=i && i<=1000000000
end
section
end
def Bk (K:W.Frag) (g:G) (H:Hp) (vs:List V):List Nat->List Dt->Fp->Prop
 | [],bs,P=>bs=[]/\∀ a,¬ P a
 | i::io,bs,P=>∃ b br v P1 P2,bs=b::br/\vs[i]?=some v/\Rep K g H b v P1/\Bk K g H vs io br P2/\Disj P1 P2/\∀ a,P a↔P1 a\/P2 a
section
end
section
end
section
end
section
end
section
end
section
variable {K:W.Frag} {g:G} {H:Hp}
noncomputable def big (i:Int):Bool:=decide (-(2 ^ 64) < i) && decide (i < 2 ^ 64)
theorem atI_map {α β:Type} {f:α->β} {xs:List α} {i:Int}:Dx (xs.map f) i=(Dx xs i).map f:=by
 unfold Dx;rw [kb];cases LO xs.length i with
 | none=>rfl
 | some j=>show (xs.map f)[j]?=_;rw [kn];rfl
def cutA {α:Type} (xs:List α) (lo hi:Option Int):List α:=(xs.drop (HT.sIx xs.length 0 lo)).take (HT.sIx xs.length xs.length hi - HT.sIx xs.length 0 lo)
theorem map_cut {α β:Type} (f:α->β) (xs:List α) (lo hi:Option Int):(cutA xs lo hi).map f=cutA (xs.map f) lo hi:=by
 unfold cutA;rw [nk,nr,kb]
end
section
end
end Q
namespace L3
open PySem PySem.Spec PyProof.Rows PySem.SeqAt L2
abbrev St:=L2.St
inductive D where
 | fl (v:V)
 | tup (ds:List D)
 | lst (ds:List D)
mutual
noncomputable def eqD:D->D->Bool
 | .fl a,.fl b=>eqV a b
 | .tup a,.tup b=>eqDs a b
 | .lst a,.lst b=>eqDs a b
 | _,_=>false
noncomputable def eqDs:List D->List D->Bool
 | [],[]=>true
 | x::xs,y::ys=>eqD x y && eqDs xs ys
 | _,_=>false
end
mutual
noncomputable def D.dep:D->Nat
 | .fl _=>0
 | .tup ds=>depL ds+1
 | .lst ds=>depL ds+1
noncomputable def depL:List D->Nat
 | []=>0
 | d::ds=>max d.dep (depL ds)
end
mutual
noncomputable def Is (K:W.Frag) (H:Hp):V->D->Prop
 | x,.fl v=>x=v/\Ef v=true
 | x,.tup ds=>∃ a xs,x=.ref a/\DG K H a xs/\IsL K H xs ds
 | x,.lst ds=>∃ a xs,x=.ref a/\CZ K H a xs/\IsL K H xs ds
noncomputable def IsL (K:W.Frag) (H:Hp):List V->List D->Prop
 | [],[]=>True
 | x::xs,d::ds=>Is K H x d/\IsL K H xs ds
 | _,_=>False
end
theorem IsL.inv {K:W.Frag} {H:Hp} {x:V} {xs:List V} {es:List D} (h:IsL K H (x::xs) es):∃ d ds,es=d::ds/\Is K H x d/\IsL K H xs ds:=by
 cases es with
 | nil=>unfold IsL at h;exact h.elim
 | cons d ds=>unfold IsL at h;exact ⟨d,ds,rfl,h.1,h.2⟩
theorem IsL.length {K:W.Frag} {H:Hp}:∀ {xs:List V} {ds:List D},IsL K H xs ds->xs.length=ds.length
 | [],[],_=>rfl
 | [],_::_,h=>by unfold IsL at h;exact h.elim
 | _::_,[],h=>by unfold IsL at h;exact h.elim
 | x::xs,d::ds,h=>by unfold IsL at h;rw [lE,lE,IsL.length h.2]
theorem IsL.get {K:W.Frag} {H:Hp}:∀ {xs:List V} {ds:List D} {i:Nat} {d:D},IsL K H xs ds->ds[i]?=some d->∃ x,xs[i]?=some x/\Is K H x d
 | [],[],_,_,_,e=>by simp at e
 | [],_::_,_,_,h,_=>by unfold IsL at h;exact h.elim
 | _::_,[],_,_,_,e=>by simp at e
 | x::xs,d::ds,0,d',h,e=>by
  unfold IsL at h;have:d=d':=by simpa using e
  subst this;exact ⟨x,rfl,h.1⟩
 | x::xs,d::ds,i+1,_,h,e=>by
  unfold IsL at h;obtain ⟨y,e1,e2⟩:=IsL.get (i:=i) h.2 (by simpa using e);exact ⟨y,by simpa using e1,e2⟩
theorem OA {X:Cx} {pins:List (Addr×Obj)} {σ:St} {H:Hp} {s:Shared} {a:Addr} {xs ys:List V} (I:Inv X pins σ H s) (h:DG X.K H a xs) (k:CZ X.K H a ys):False:=by
 obtain ⟨_,_,⟨o,e,c,_⟩,_⟩:=I.tuple h;obtain ⟨_,_,⟨o',n,e',c',_⟩,_⟩:=I.list k;rw [e] at e';cases e';rw [c] at c';injection c' with q
 exact absurd q (by decide)
mutual
theorem Is.inj {X:Cx} {pins:List (Addr×Obj)} {σ:St} {H:Hp} {s:Shared} (I:Inv X pins σ H s):∀ {d e:D} {x:V},Is X.K H x d->Is X.K H x e->d=e
 | .fl v,e,x,h,k=>by
  unfold Is at h;obtain ⟨rfl,hf⟩:=h;cases e with
  | fl u=>unfold Is at k;rw [k.1]
  | tup es=>unfold Is at k;obtain ⟨a,xs,rfl,_⟩:=k;cases hf
  | lst es=>unfold Is at k;obtain ⟨a,xs,rfl,_⟩:=k;cases hf
 | .tup ds,e,x,h,k=>by
  unfold Is at h;obtain ⟨a,xs,rfl,h1,h2⟩:=h;cases e with
  | fl u=>unfold Is at k;obtain ⟨k1,k2⟩:=k;rw [<- k1] at k2;cases k2
  | tup es =>
   unfold Is at k;obtain ⟨b,ys,e,k1,k2⟩:=k;cases e;rw [I.tuple_inj h1 k1] at h2;rw [IsL.inj I h2 k2]
  | lst es=>unfold Is at k;obtain ⟨b,ys,e,k1,k2⟩:=k;cases e;exact (OA I h1 k1).elim
 | .lst ds,e,x,h,k=>by
  unfold Is at h;obtain ⟨a,xs,rfl,h1,h2⟩:=h;cases e with
  | fl u=>unfold Is at k;obtain ⟨k1,k2⟩:=k;rw [<- k1] at k2;cases k2
  | lst es =>
   unfold Is at k;obtain ⟨b,ys,e,k1,k2⟩:=k;cases e;rw [I.list_inj h1 k1] at h2;rw [IsL.inj I h2 k2]
  | tup es=>unfold Is at k;obtain ⟨b,ys,e,k1,k2⟩:=k;cases e;exact (OA I k1 h1).elim
theorem IsL.inj {X:Cx} {pins:List (Addr×Obj)} {σ:St} {H:Hp} {s:Shared} (I:Inv X pins σ H s):∀ {ds es:List D} {xs:List V},IsL X.K H xs ds->IsL X.K H xs es->ds=es
 | [],es,[],h,k=>by
  cases es with
  | nil=>rfl
  | cons e es=>unfold IsL at k;exact k.elim
 | [],_,_::_,h,_=>by unfold IsL at h;exact h.elim
 | _::_,_,[],h,_=>by unfold IsL at h;exact h.elim
 | d::ds,es,x::xs,h,k=>by
  unfold IsL at h;obtain ⟨e,es',rfl,k1,k2⟩:=k.inv;rw [Is.inj I h.1 k1,IsL.inj I h.2 k2]
end
theorem eqV_refl {v:V} (h:Ef v=true):eqV v v=true:=by
 cases v<;>first | rfl | (simp [eqV];done) | cases h
mutual
theorem eqD_refl {K:W.Frag} {H:Hp}:∀ {d:D} {x:V},Is K H x d->eqD d d=true
 | .fl v,x,h=>by unfold Is at h;unfold eqD;exact eqV_refl h.2
 | .tup ds,x,h=>by unfold Is at h;obtain ⟨_,_,_,_,h2⟩:=h;unfold eqD;exact eqDs_refl h2
 | .lst ds,x,h=>by unfold Is at h;obtain ⟨_,_,_,_,h2⟩:=h;unfold eqD;exact eqDs_refl h2
theorem eqDs_refl {K:W.Frag} {H:Hp}:∀ {ds:List D} {xs:List V},IsL K H xs ds->eqDs ds ds=true
 | [],_,_=>by unfold eqDs;rfl
 | _::_,[],h=>by unfold IsL at h;exact h.elim
 | d::ds,x::xs,h=>by
  unfold IsL at h;unfold eqDs;rw [eqD_refl h.1,eqDs_refl h.2];rfl
end
theorem Be:∀ (xs ys:List D) (e:Nat->Bool),(∀ i x y,xs[i]?=some x->ys[i]?=some y->e i=eqD x y)->((List.range (min xs.length ys.length)).all e && xs.length == ys.length)=eqDs xs ys
 | [],[],_,_=>by unfold eqDs;rfl
 | [],_::_,_,_=>by unfold eqDs;simp
 | _::_,[],_,_=>by unfold eqDs;simp
 | x::xs,y::ys,e,h=>by
  have ih:=Be xs ys (fun i=>e (i+1)) fun i a b h1 h2=>h (i+1) a b (by simpa using h1) (by simpa using h2)
  have h0:=h 0 x y rfl rfl;unfold eqDs;rw [<- ih,<- h0,lE,lE,Nat.succ_min_succ,List.range_succ_eq_map,lp,List.all_map];have:((xs.length+1 == ys.length+1):Bool)=(xs.length == ys.length):=by simp
  rw [this,Bool.and_assoc];rfl
theorem Ej:∀ {ds:List D} {i:Nat} {d:D},ds[i]?=some d->d.dep<=depL ds
 | [],_,_,e=>by simp at e
 | d::ds,0,d',e=>by
  have:d=d':=by simpa using e
  subst this;show d.dep<=depL (d::ds);unfold depL;exact Nat.le_max_left _ _
 | d::ds,i+1,x,e=>by
  have:=Ej (ds:=ds) (i:=i) (d:=x) (by simpa using e);unfold depL;exact lI this (Nat.le_max_right _ _)
section
variable {X:Cx} {pins:List (Addr×Obj)} {σ:St} {H:Hp} {s:Shared}
def eAt (ds es:List D) (i:Nat):Bool:=match ds[i]?,es[i]? with | some a,some b=>eqD a b | _,_=>true
theorem eAt_of {ds es:List D} {i:Nat} {a b:D} (h1:ds[i]?=some a) (h2:es[i]?=some b):eAt ds es i=eqD a b:=by unfold eAt;rw [h1,h2]
theorem Ai {x:V} (h:Ef x=true):x=.non\/(∃ b,x=.bl b)\/(∃ i,x=.int i)\/∃ z,x=.str z:=by
 cases x with
 | non=>exact .inl rfl
 | bl b=>exact .inr (.inl ⟨b,rfl⟩)
 | int i=>exact .inr (.inr (.inl ⟨i,rfl⟩))
 | str z=>exact .inr (.inr (.inr ⟨z,rfl⟩))
 | _=>cases h
theorem UU (I:Inv X pins σ H s):∀ (n:Nat) (A:Around) (d e:D) (x y:V) (u v:Value),d.dep<=n->A.units+n < cLine->RelV x u->RelV y v->Is X.K H x d->Is X.K H y e->EqAt A s u v (eqD d e):=by
 intro n
 induction n with
 | zero =>
  intro A d e x y u v hd hu rx ry hx hy;cases d with
  | fl a =>
   unfold Is at hx;obtain ⟨rfl,fx⟩:=hx;cases e with
   | fl b=>unfold Is at hy;obtain ⟨rfl,fy⟩:=hy;unfold eqD;exact cI rx ry fx fy
   | tup es =>
    unfold Is at hy;obtain ⟨b,ys,rfl,h1,h2⟩:=hy;cases ry;obtain ⟨its,r,ht,_⟩:=I.tuple h1;unfold eqD;rcases Ai fx with rfl | ⟨c,rfl⟩ | ⟨c,rfl⟩ | ⟨c,rfl⟩
    ·cases rx;exact EqAt.none_tuple ht hu
    ·cases rx;exact EqAt.bool_tuple c ht hu
    ·obtain ⟨t,rfl⟩:=rx;exact EqAt.int_tuple c t ht hu
    ·obtain ⟨t,rfl⟩:=rx;exact EqAt.str_tuple c t ht hu
   | lst es =>
    unfold Is at hy;obtain ⟨b,ys,rfl,h1,h2⟩:=hy;cases ry;obtain ⟨its,r,ht,_⟩:=I.list h1;unfold eqD;rcases Ai fx with rfl | ⟨c,rfl⟩ | ⟨c,rfl⟩ | ⟨c,rfl⟩
    ·cases rx;exact EqAt.none_list ht.isList hu
    ·cases rx;exact EqAt.bool_list c ht.isList hu
    ·obtain ⟨t,rfl⟩:=rx;exact EqAt.int_list c t ht.isList hu
    ·obtain ⟨t,rfl⟩:=rx;exact EqAt.str_list c t ht.isList hu
  | tup ds=>unfold D.dep at hd;omega
  | lst ds=>unfold D.dep at hd;omega
 | succ n ih =>
  intro A d e x y u v hd hu rx ry hx hy;have hu0:A.units < cLine:=by omega
  cases d with
  | fl a=>exact ih A (.fl a) e x y u v (by unfold D.dep;omega) (by omega) rx ry hx hy
  | tup ds =>
   unfold D.dep at hd;have hx0:=hx;unfold Is at hx;obtain ⟨a,xs,rfl,h1,h2⟩:=hx;cases rx;obtain ⟨its,r,ht,_⟩:=I.tuple h1;cases e with
   | fl b =>
    unfold Is at hy;obtain ⟨rfl,fy⟩:=hy;unfold eqD;rcases Ai fy with rfl | ⟨c,rfl⟩ | ⟨c,rfl⟩ | ⟨c,rfl⟩
    ·cases ry;exact EqAt.tuple_none ht hu0
    ·cases ry;exact EqAt.tuple_bool c ht hu0
    ·obtain ⟨t,rfl⟩:=ry;exact EqAt.tuple_int c t ht hu0
    ·obtain ⟨t,rfl⟩:=ry;exact EqAt.tuple_str c t ht hu0
   | tup es =>
    have hy0:=hy;unfold Is at hy;obtain ⟨b,ys,rfl,k1,k2⟩:=hy;cases ry;obtain ⟨its2,r2,ht2,_⟩:=I.tuple k1
    by_cases hab:a=b
    ·subst hab;rw [Is.inj I hx0 hy0,eqD_refl hy0];exact EqAt.same _
    ·refine EqAt.of_refs hab ?_;have q:=RcAt.tuples (e:=eAt ds es) ht ht2 hu0 (fun j j1 j2=>?_)
     ·have e1:=Be ds es (eAt ds es) fun i a b q1 q2=>eAt_of q1 q2
      rw [kc,kc,<- r.length,<- r2.length,h2.length,k2.length,e1] at q;unfold eqD;exact q
     ·have j1':j < its.length:=by simpa using j1
      have j2':j < its2.length:=by simpa using j2
      have l1:j < ds.length:=by rw [<- h2.length,r.length];exact j1'
      have l2:j < es.length:=by rw [<- k2.length,r2.length];exact j2'
      obtain ⟨x',ex,px⟩:=h2.get (i:=j) (kZ l1);obtain ⟨y',ey,py⟩:=k2.get (i:=j) (kZ l2);obtain ⟨u',eu,ru⟩:=r.get ex;obtain ⟨v',ev,rv⟩:=r2.get ey;rw [eAt_of (kZ l1) (kZ l2)];have z1:its.toArray[j]=u':=by rw [kZ j1'] at eu;simpa using Option.some.inj eu
      have z2:its2.toArray[j]=v':=by rw [kZ j2'] at ev;simpa using Option.some.inj ev
      rw [z1,z2];exact ih A.in1 _ _ x' y' u' v' (lI (Ej (kZ l1)) (by omega)) (by show A.units+1+n < cLine;omega) ru rv px py
   | lst es =>
    unfold Is at hy;obtain ⟨b,ys,rfl,k1,k2⟩:=hy;cases ry;obtain ⟨its2,r2,ht2,_⟩:=I.list k1;unfold eqD;exact EqAt.tuple_list ht ht2.isList hu0
  | lst ds =>
   unfold D.dep at hd;have hx0:=hx;unfold Is at hx;obtain ⟨a,xs,rfl,h1,h2⟩:=hx;cases rx;obtain ⟨its,r,ht,_⟩:=I.list h1;cases e with
   | fl b =>
    unfold Is at hy;obtain ⟨rfl,fy⟩:=hy;unfold eqD;rcases Ai fy with rfl | ⟨c,rfl⟩ | ⟨c,rfl⟩ | ⟨c,rfl⟩
    ·cases ry;exact EqAt.list_none ht.isList hu0
    ·cases ry;exact EqAt.list_bool c ht.isList hu0
    ·obtain ⟨t,rfl⟩:=ry;exact EqAt.list_int c t ht.isList hu0
    ·obtain ⟨t,rfl⟩:=ry;exact EqAt.list_str c t ht.isList hu0
   | tup es =>
    unfold Is at hy;obtain ⟨b,ys,rfl,k1,k2⟩:=hy;cases ry;obtain ⟨its2,r2,ht2,_⟩:=I.tuple k1;unfold eqD;exact EqAt.list_tuple ht.isList ht2 hu0
   | lst es =>
    have hy0:=hy;unfold Is at hy;obtain ⟨b,ys,rfl,k1,k2⟩:=hy;cases ry;obtain ⟨its2,r2,ht2,_⟩:=I.list k1
    by_cases hab:a=b
    ·subst hab;rw [Is.inj I hx0 hy0,eqD_refl hy0];exact EqAt.same _
    ·refine EqAt.of_refs hab ?_
     by_cases hsz:ds.length=es.length
     ·have e1:=Be ds es (eAt ds es) fun i a b q1 q2=>eAt_of q1 q2
      rw [hsz,nR,beq_self_eq_true,nu] at e1;have q:=RcAt.lists (e:=eAt ds es) ht.isList ht2.isList (by rw [kc,kc,<- r.length,<- r2.length,h2.length,k2.length];exact hsz) hu0 (fun j j1 j2=>?_)
      ·rw [kc,<- r.length,h2.length,hsz,e1] at q;unfold eqD;exact q
      ·have j1':j < its.length:=by simpa using j1
       have j2':j < its2.length:=by simpa using j2
       have l1:j < ds.length:=by rw [<- h2.length,r.length];exact j1'
       have l2:j < es.length:=by rw [<- k2.length,r2.length];exact j2'
       obtain ⟨x',ex,px⟩:=h2.get (i:=j) (kZ l1);obtain ⟨y',ey,py⟩:=k2.get (i:=j) (kZ l2);obtain ⟨u',eu,ru⟩:=r.get ex;obtain ⟨v',ev,rv⟩:=r2.get ey;rw [eAt_of (kZ l1) (kZ l2)];have z1:its.toArray[j]=u':=by rw [kZ j1'] at eu;simpa using Option.some.inj eu
       have z2:its2.toArray[j]=v':=by rw [kZ j2'] at ev;simpa using Option.some.inj ev
       rw [z1,z2];exact ih A.in1 _ _ x' y' u' v' (lI (Ej (kZ l1)) (by omega)) (by show A.units+1+n < cLine;omega) ru rv px py
     ·have q:=RcAt.lists_lengths (A:=A) ht.isList ht2.isList (by rw [kc,kc,<- r.length,<- r2.length,h2.length,k2.length];simpa using hsz) hu0;have e1:=Be ds es (eAt ds es) fun i a b q1 q2=>eAt_of q1 q2
      have:(ds.length == es.length)=false:=by simpa using hsz
      rw [this,nG] at e1;unfold eqD;rw [<- e1];exact q
end
noncomputable def D.seq:D->Bool
 | .fl _=>false
 | _=>true
section
variable {X:Cx} {pins:List (Addr×Obj)} {σ:St} {H:Hp} {s:Shared}
theorem LP (I:Inv X pins σ H s) {n:Nat} {A:Around} {xs ys:List V} {ds es:List D} {its its2:List Value} (hd:depL ds<=n) (hu:A.units+1+n < cLine) (r:AD xs its) (r2:AD ys its2) (h2:IsL X.K H xs ds) (k2:IsL X.K H ys es) :
    ∀ j (h1:j < its.toArray.size) (h2:j < its2.toArray.size),EqAt A.in1 s its.toArray[j] its2.toArray[j] (eAt ds es j):=fun j j1 j2=>by
  have j1':j < its.length:=by simpa using j1
  have j2':j < its2.length:=by simpa using j2
  have l1:j < ds.length:=by rw [<- h2.length,r.length];exact j1'
  have l2:j < es.length:=by rw [<- k2.length,r2.length];exact j2'
  obtain ⟨x',ex,px⟩:=h2.get (i:=j) (kZ l1);obtain ⟨y',ey,py⟩:=k2.get (i:=j) (kZ l2);obtain ⟨u',eu,ru⟩:=r.get ex;obtain ⟨v',ev,rv⟩:=r2.get ey;rw [eAt_of (kZ l1) (kZ l2)];have z1:its.toArray[j]=u':=by rw [kZ j1'] at eu;simpa using Option.some.inj eu
  have z2:its2.toArray[j]=v':=by rw [kZ j2'] at ev;simpa using Option.some.inj ev
  rw [z1,z2];exact UU I n A.in1 _ _ x' y' u' v' (lI (Ej (kZ l1)) hd) (by show A.units+1+n < cLine;exact hu) ru rv px py
theorem Jf (I:Inv X pins σ H s) {A:Around} {d e:D} {x y:V} {u v:Value} (sd:d.seq=true) (se:e.seq=true) (hu:A.units+d.dep+1 < cLine) (rx:RelV x u) (ry:RelV y v) (hx:Is X.K H x d) (hy:Is X.K H y e):RcAt A s u v (eqD d e)/\RcNeAt A s u v (!eqD d e):=by
 have hu0:A.units < cLine:=by omega
 cases d with
 | fl a=>cases sd
 | tup ds =>
  unfold D.dep at hu;unfold Is at hx;obtain ⟨a,xs,rfl,h1,h2⟩:=hx;cases rx;obtain ⟨its,r,ht,_⟩:=I.tuple h1;cases e with
  | fl b=>cases se
  | tup es =>
   unfold Is at hy;obtain ⟨b,ys,rfl,k1,k2⟩:=hy;cases ry;obtain ⟨its2,r2,ht2,_⟩:=I.tuple k1;have e1:=Be ds es (eAt ds es) fun i a b q1 q2=>eAt_of q1 q2
   have it:=LP I (A:=A) (n:=depL ds) (kj _) (by omega) r r2 h2 k2;have q:=RcAt.tuples (e:=eAt ds es) ht ht2 hu0 it;have q':=RcNeAt.tuples (e:=eAt ds es) ht ht2 hu0 it;rw [kc,kc,<- r.length,<- r2.length,h2.length,k2.length,e1] at q q';unfold eqD;exact ⟨q,q'⟩
  | lst es =>
   unfold Is at hy;obtain ⟨b,ys,rfl,k1,k2⟩:=hy;cases ry;obtain ⟨its2,r2,ht2,_⟩:=I.list k1;unfold eqD;exact ⟨RcAt.tuple_list ht ht2.isList hu0,RcNeAt.tuple_list ht ht2.isList hu0⟩
 | lst ds =>
  unfold D.dep at hu;unfold Is at hx;obtain ⟨a,xs,rfl,h1,h2⟩:=hx;cases rx;obtain ⟨its,r,ht,_⟩:=I.list h1;cases e with
  | fl b=>cases se
  | tup es =>
   unfold Is at hy;obtain ⟨b,ys,rfl,k1,k2⟩:=hy;cases ry;obtain ⟨its2,r2,ht2,_⟩:=I.tuple k1;unfold eqD;exact ⟨RcAt.list_tuple ht.isList ht2 hu0,RcNeAt.list_tuple ht.isList ht2 hu0⟩
  | lst es =>
   unfold Is at hy;obtain ⟨b,ys,rfl,k1,k2⟩:=hy;cases ry;obtain ⟨its2,r2,ht2,_⟩:=I.list k1;have e1:=Be ds es (eAt ds es) fun i a b q1 q2=>eAt_of q1 q2
   unfold eqD
   by_cases hsz:ds.length=es.length
   ·rw [hsz,nR,beq_self_eq_true,nu] at e1;have it:=LP I (A:=A) (n:=depL ds) (kj _) (by omega) r r2 h2 k2;have sz:its.toArray.size=its2.toArray.size:=by rw [kc,kc,<- r.length,<- r2.length,h2.length,k2.length];exact hsz
    have q:=RcAt.lists (e:=eAt ds es) ht.isList ht2.isList sz hu0 it;have q':=RcNeAt.lists (e:=eAt ds es) ht.isList ht2.isList sz hu0 it;rw [kc,<- r.length,h2.length,hsz,e1] at q q';exact ⟨q,q'⟩
   ·have sz:(its.toArray.size != its2.toArray.size)=true:=by rw [kc,kc,<- r.length,<- r2.length,h2.length,k2.length];simpa using hsz
    have:(ds.length == es.length)=false:=by simpa using hsz
    rw [this,nG] at e1;rw [<- e1];exact ⟨RcAt.lists_lengths ht.isList ht2.isList sz hu0,RcNeAt.lists_lengths ht.isList ht2.isList sz hu0⟩
end
section
variable {X:Cx} {pins:List (Addr×Obj)} {σ:L2.St} {H:Hp} {s:Shared}
theorem WM {A:Around} {x y:V} {u v:Value} (rx:RelV x u) (ry:RelV y v) (fx:Ef x=true) (fy:Ef y=true):RcAt A s u v (eqV x y)/\RcNeAt A s u v (!eqV x y):=by
 rcases Ai fx with rfl | ⟨c,rfl⟩ | ⟨c,rfl⟩ | ⟨c,rfl⟩<;>rcases Ai fy with rfl | ⟨d,rfl⟩ | ⟨d,rfl⟩ | ⟨d,rfl⟩
 ·cases rx;cases ry;exact ⟨RcAt.none_none , RcNeAt.none_none ⟩
 ·cases rx;cases ry;exact ⟨RcAt.none_bool d,RcNeAt.none_bool d⟩
 ·cases rx;obtain ⟨dt,rfl⟩:=ry;exact ⟨RcAt.none_int d dt,RcNeAt.none_int d dt⟩
 ·cases rx;obtain ⟨dt,rfl⟩:=ry;exact ⟨RcAt.none_str d dt,RcNeAt.none_str d dt⟩
 ·cases rx;cases ry;exact ⟨RcAt.bool_none c,RcNeAt.bool_none c⟩
 ·cases rx;cases ry;exact ⟨RcAt.bool_bool c d,RcNeAt.bool_bool c d⟩
 ·cases rx;obtain ⟨dt,rfl⟩:=ry;exact ⟨RcAt.bool_int c d dt,RcNeAt.bool_int c d dt⟩
 ·cases rx;obtain ⟨dt,rfl⟩:=ry;exact ⟨RcAt.bool_str c d dt,RcNeAt.bool_str c d dt⟩
 ·obtain ⟨ct,rfl⟩:=rx;cases ry;exact ⟨RcAt.int_none c ct,RcNeAt.int_none c ct⟩
 ·obtain ⟨ct,rfl⟩:=rx;cases ry;exact ⟨RcAt.int_bool c ct d,RcNeAt.int_bool c ct d⟩
 ·obtain ⟨ct,rfl⟩:=rx;obtain ⟨dt,rfl⟩:=ry;exact ⟨RcAt.int_int c ct d dt,RcNeAt.int_int c ct d dt⟩
 ·obtain ⟨ct,rfl⟩:=rx;obtain ⟨dt,rfl⟩:=ry;exact ⟨RcAt.int_str c ct d dt,RcNeAt.int_str c ct d dt⟩
 ·obtain ⟨ct,rfl⟩:=rx;cases ry;exact ⟨RcAt.str_none c ct,RcNeAt.str_none c ct⟩
 ·obtain ⟨ct,rfl⟩:=rx;cases ry;exact ⟨RcAt.str_bool c ct d,RcNeAt.str_bool c ct d⟩
 ·obtain ⟨ct,rfl⟩:=rx;obtain ⟨dt,rfl⟩:=ry;exact ⟨RcAt.str_int c ct d dt,RcNeAt.str_int c ct d dt⟩
 ·obtain ⟨ct,rfl⟩:=rx;obtain ⟨dt,rfl⟩:=ry;exact ⟨RcAt.str_str c ct d dt,RcNeAt.str_str c ct d dt⟩
theorem Kl (I:Inv X pins σ H s) {A:Around} {d e:D} {x y:V} {u v:Value} (hu:A.units+d.dep+1 < cLine) (rx:RelV x u) (ry:RelV y v) (hx:Is X.K H x d) (hy:Is X.K H y e):RcAt A s u v (eqD d e)/\RcNeAt A s u v (!eqD d e):=by
 have hu0:A.units < cLine:=by omega
 cases d with
 | fl a =>
  unfold Is at hx;obtain ⟨rfl,fx⟩:=hx;cases e with
  | fl b =>
   unfold Is at hy;obtain ⟨rfl,fy⟩:=hy;unfold eqD;exact WM rx ry fx fy
  | tup es =>
   unfold Is at hy;obtain ⟨b,ys,rfl,k1,k2⟩:=hy;cases ry;obtain ⟨its2,r2,ht2,_⟩:=I.tuple k1;unfold eqD;rcases Ai fx with rfl | ⟨c,rfl⟩ | ⟨c,rfl⟩ | ⟨c,rfl⟩
   ·cases rx;exact ⟨RcAt.none_tuple ht2 hu0,RcNeAt.none_tuple ht2 hu0⟩
   ·cases rx;exact ⟨RcAt.bool_tuple c ht2 hu0,RcNeAt.bool_tuple c ht2 hu0⟩
   ·obtain ⟨t,rfl⟩:=rx;exact ⟨RcAt.int_tuple c t ht2 hu0,RcNeAt.int_tuple c t ht2 hu0⟩
   ·obtain ⟨t,rfl⟩:=rx;exact ⟨RcAt.str_tuple c t ht2 hu0,RcNeAt.str_tuple c t ht2 hu0⟩
  | lst es =>
   unfold Is at hy;obtain ⟨b,ys,rfl,k1,k2⟩:=hy;cases ry;obtain ⟨its2,r2,ht2,_⟩:=I.list k1;unfold eqD;rcases Ai fx with rfl | ⟨c,rfl⟩ | ⟨c,rfl⟩ | ⟨c,rfl⟩
   ·cases rx;exact ⟨RcAt.none_list ht2.isList hu0,RcNeAt.none_list ht2.isList hu0⟩
   ·cases rx;exact ⟨RcAt.bool_list c ht2.isList hu0,RcNeAt.bool_list c ht2.isList hu0⟩
   ·obtain ⟨t,rfl⟩:=rx;exact ⟨RcAt.int_list c t ht2.isList hu0,RcNeAt.int_list c t ht2.isList hu0⟩
   ·obtain ⟨t,rfl⟩:=rx;exact ⟨RcAt.str_list c t ht2.isList hu0,RcNeAt.str_list c t ht2.isList hu0⟩
 | tup ds =>
  cases e with
  | fl b =>
   unfold Is at hx hy;obtain ⟨b',ys,rfl,k1,k2⟩:=hx;obtain ⟨rfl,fy⟩:=hy;cases rx;obtain ⟨its2,r2,ht2,_⟩:=I.tuple k1;unfold eqD;rcases Ai fy with rfl | ⟨c,rfl⟩ | ⟨c,rfl⟩ | ⟨c,rfl⟩
   ·cases ry;exact ⟨RcAt.tuple_none ht2 hu0,RcNeAt.tuple_none ht2 hu0⟩
   ·cases ry;exact ⟨RcAt.tuple_bool c ht2 hu0,RcNeAt.tuple_bool c ht2 hu0⟩
   ·obtain ⟨t,rfl⟩:=ry;exact ⟨RcAt.tuple_int c t ht2 hu0,RcNeAt.tuple_int c t ht2 hu0⟩
   ·obtain ⟨t,rfl⟩:=ry;exact ⟨RcAt.tuple_str c t ht2 hu0,RcNeAt.tuple_str c t ht2 hu0⟩
  | tup es=>exact Jf I rfl rfl hu rx ry hx hy
  | lst es=>exact Jf I rfl rfl hu rx ry hx hy
 | lst ds =>
  cases e with
  | fl b =>
   unfold Is at hx hy;obtain ⟨b',ys,rfl,k1,k2⟩:=hx;obtain ⟨rfl,fy⟩:=hy;cases rx;obtain ⟨its2,r2,ht2,_⟩:=I.list k1;unfold eqD;rcases Ai fy with rfl | ⟨c,rfl⟩ | ⟨c,rfl⟩ | ⟨c,rfl⟩
   ·cases ry;exact ⟨RcAt.list_none ht2.isList hu0,RcNeAt.list_none ht2.isList hu0⟩
   ·cases ry;exact ⟨RcAt.list_bool c ht2.isList hu0,RcNeAt.list_bool c ht2.isList hu0⟩
   ·obtain ⟨t,rfl⟩:=ry;exact ⟨RcAt.list_int c t ht2.isList hu0,RcNeAt.list_int c t ht2.isList hu0⟩
   ·obtain ⟨t,rfl⟩:=ry;exact ⟨RcAt.list_str c t ht2.isList hu0,RcNeAt.list_str c t ht2.isList hu0⟩
  | tup es=>exact Jf I rfl rfl hu rx ry hx hy
  | lst es=>exact Jf I rfl rfl hu rx ry hx hy
def rEqA (K:W.Frag) (neg:Bool):R2:=fun x y H Q=>∃ d e,d.dep<=150/\Is K H x d/\Is K H y e/\Q (.bl (if neg then !eqD d e else eqD d e)) H
theorem op_eqA {j:Nat} (hr:Room j X.A):Br X (compareOp .Eq) (rEqA X.K false):=by
 intro pins s σ H x y v u Q I rx ry h;obtain ⟨d,e,hd,hx,hy,q⟩:=h;have:=hr.un;exact (Kl I (by omega) rx ry hx hy).1 X.prog X.w _ _ ⟨.bl _,H,I,rfl,q⟩
theorem op_neA {j:Nat} (hr:Room j X.A):Br X (compareOp .NotEq) (rEqA X.K true):=by
 intro pins s σ H x y v u Q I rx ry h;obtain ⟨d,e,hd,hx,hy,q⟩:=h;have:=hr.un;exact (Kl I (by omega) rx ry hx hy).2 X.prog X.w _ _ ⟨.bl _,H,I,rfl,q⟩
open Classical in
def eqW (its:List Value) (ds:List D) (e:D) (u:Value):Bool:=decide (∃ (i:Nat) (d:D),its[i]?=some u/\ds[i]?=some d/\eqD d e=true)
open Classical in
theorem eqW_at (I:Inv X pins σ H s) {xs:List V} {its:List Value} {ds:List D} (r:AD xs its) (h:IsL X.K H xs ds) {e:D} {i:Nat} {u:Value} {d:D} (hu:its[i]?=some u) (hd:ds[i]?=some d):eqW its ds e u=eqD d e:=by
 have key:∀ (j:Nat) (d':D),its[j]?=some u->ds[j]?=some d'->d'=d:=fun j d' h1 h2=>by
  obtain ⟨x,ex,px⟩:=h.get hd;obtain ⟨y,ey,py⟩:=h.get h2;obtain ⟨u1,e1,r1⟩:=r.get ex;obtain ⟨u2,e2,r2⟩:=r.get ey;rw [hu] at e1;cases e1;rw [h1] at e2;cases e2;rw [r2.inj r1] at py;exact Is.inj I py px
 unfold eqW;cases q:eqD d e with
 | true=>exact decide_eq_true ⟨i,d,hu,hd,q⟩
 | false =>
  refine decide_eq_false ?_;rintro ⟨j,d',h1,h2,h3⟩;rw [key j d' h1 h2,q] at h3;cases h3
theorem GV (I:Inv X pins σ H s) {xs:List V} {its:List Value} {ds:List D} (r:AD xs its) (h:IsL X.K H xs ds) (e:D):its.any (eqW its ds e)=ds.any fun d=>eqD d e:=by
 rw [Bool.eq_iff_iff,List.any_eq_true,List.any_eq_true];have hl:its.length=ds.length:=by rw [<- r.length,h.length]
 constructor
 ·rintro ⟨u,hu,q⟩;obtain ⟨i,hi,rfl⟩:=nM hu;have hd:ds[i]?=some ds[i]:=kZ (by omega);rw [eqW_at I r h (kZ hi) hd] at q;exact ⟨_,lY hd,q⟩
 ·rintro ⟨d,hd,q⟩;obtain ⟨i,hi,rfl⟩:=nM hd;have hu:its[i]?=some its[i]:=kZ (by omega);exact ⟨_,lY hu,by rw [eqW_at I r h hu (kZ hi)];exact q⟩
theorem all_eqW (I:Inv X pins σ H s) {A:Around} {xs:List V} {its:List Value} {ds:List D} (r:AD xs its) (h:IsL X.K H xs ds) {e:D} {y:V} {v:Value} (ry:RelV y v) (hy:Is X.K H y e) (hd:depL ds<=150) (hu:A.units+150 < cLine):∀ w∈its,EqAt A s w v (eqW its ds e w):=fun w hw=>by
 obtain ⟨i,hi,rfl⟩:=nM hw;have hl:its.length=ds.length:=by rw [<- r.length,h.length]
 have hdi:ds[i]?=some ds[i]:=kZ (by omega);rw [eqW_at I r h (kZ hi) hdi];obtain ⟨x,ex,px⟩:=h.get hdi;obtain ⟨u1,e1,r1⟩:=r.get ex;rw [kZ hi] at e1;cases e1;exact UU I 150 A _ _ x y _ _ (lI (Ej hdi) hd) hu r1 ry px hy
def rInA (K:W.Frag) (neg:Bool):R2:=fun x y H Q=>∃ p ys ds e,y=.ref p/\(CZ K H p ys\/DG K H p ys)/\IsL K H ys ds/\Is K H x e/\depL ds<=150/\Q (.bl (if neg then !(ds.any fun d=>eqD d e) else ds.any fun d=>eqD d e)) H
theorem op_inA {j:Nat} (hr:Room j X.A):Br X (compareOp .In) (rInA X.K false):=by
 intro pins s σ H x y v u Q I rx ry h;obtain ⟨p,ys,ds,e,rfl,hq,hl,hx,hd,q⟩:=h;have hu:X.A.units+1+150 < cLine:=by have:=hr.un;omega
 cases ry;rcases hq with hq | hq
 ·obtain ⟨its,r,pl,hz⟩:=I.list hq;refine SeqAt.in_listAt (eqW its ds e) pl.isList (fun w hw=>all_eqW I r hl rx hx hd hu w (by simpa using hw)) ⟨.bl _,H,I,rfl,?_⟩;rw [show its.toArray.any (eqW its ds e)=its.any (eqW its ds e) by simp,GV I r hl];exact q
 ·obtain ⟨its,r,pl,hz⟩:=I.tuple hq;refine SeqAt.in_tupleAt (eqW its ds e) pl (fun w hw=>all_eqW I r hl rx hx hd hu w (by simpa using hw)) ⟨.bl _,H,I,rfl,?_⟩;rw [show its.toArray.any (eqW its ds e)=its.any (eqW its ds e) by simp,GV I r hl];exact q
theorem op_notInA {j:Nat} (hr:Room j X.A):Br X (compareOp .NotIn) (rInA X.K true):=by
 intro pins s σ H x y v u Q I rx ry h;obtain ⟨p,ys,ds,e,rfl,hq,hl,hx,hd,q⟩:=h;have hu:X.A.units+1+150 < cLine:=by have:=hr.un;omega
 cases ry;rcases hq with hq | hq
 ·obtain ⟨its,r,pl,hz⟩:=I.list hq;refine SeqAt.notIn_listAt (eqW its ds e) pl.isList (fun w hw=>all_eqW I r hl rx hx hd hu w (by simpa using hw)) ⟨.bl _,H,I,rfl,?_⟩;rw [show its.toArray.any (eqW its ds e)=its.any (eqW its ds e) by simp,GV I r hl];exact q
 ·obtain ⟨its,r,pl,hz⟩:=I.tuple hq;refine SeqAt.notIn_tupleAt (eqW its ds e) pl (fun w hw=>all_eqW I r hl rx hx hd hu w (by simpa using hw)) ⟨.bl _,H,I,rfl,?_⟩;rw [show its.toArray.any (eqW its ds e)=its.any (eqW its ds e) by simp,GV I r hl];exact q
end
end L3
namespace Q
open PySem L2
mutual
noncomputable def toD:Dt->L3.D
 | .non=>.fl .non
 | .bl b=>.fl (.bl b)
 | .int i=>.fl (.int i)
 | .str l=>.fl (.str (tx l))
 | .tup xs=>.tup (toDs xs)
 | .lst _ xs=>.lst (toDs xs)
 | _=>.fl .non
noncomputable def toDs:List Dt->List L3.D
 | []=>[]
 | d::ds=>toD d::toDs ds
end
mutual
noncomputable def Dt.cmp:Dt->Bool
 | .non=>true
 | .bl _=>true
 | .int _=>true
 | .str _=>true
 | .tup xs=>cmps xs
 | .lst _ xs=>cmps xs
 | _=>false
noncomputable def cmps:List Dt->Bool
 | []=>true
 | d::ds=>d.cmp && cmps ds
end
mutual
noncomputable def Dt.dep:Dt->Nat
 | .tup xs=>Ql xs+1
 | .lst _ xs=>Ql xs+1
 | _=>0
noncomputable def Ql:List Dt->Nat
 | []=>0
 | d::ds=>max d.dep (Ql ds)
end
mutual
noncomputable def eqT:Dt->Dt->Bool
 | .non,.non=>true
 | .bl a,.bl b=>a == b
 | .bl a,.int b=>(if a then 1 else 0) == b
 | .int a,.bl b=>a == (if b then 1 else 0)
 | .int a,.int b=>a == b
 | .str a,.str b=>a == b
 | .tup xs,.tup ys=>Lf xs ys
 | .lst _ xs,.lst _ ys=>Lf xs ys
 | _,_=>false
noncomputable def Lf:List Dt->List Dt->Bool
 | [],[]=>true
 | x::xs,y::ys=>eqT x y && Lf xs ys
 | _,_=>false
end
mutual
theorem ZP:∀ (d e:Dt),d.cmp=true->e.cmp=true->L3.eqD (toD d) (toD e)=eqT d e
 | .non,e,h,k=>by cases e<;>first | (unfold toD L3.eqD eqT;rfl) | (unfold Dt.cmp at k;cases k)
 | .bl b,e,h,k=>by cases e<;>first | (unfold toD L3.eqD eqT;rfl) | (unfold Dt.cmp at k;cases k)
 | .int i,e,h,k=>by cases e<;>first | (unfold toD L3.eqD eqT;rfl) | (unfold Dt.cmp at k;cases k)
 | .str l,e,h,k=>by
  cases e with
  | str m=>unfold toD L3.eqD eqT;rw [eqV_str];exact (ma l m).symm
  | _=>first | (unfold toD L3.eqD eqT;rfl) | (unfold Dt.cmp at k;cases k)
 | .tup xs,e,h,k=>by
  cases e with
  | tup ys=>unfold toD L3.eqD eqT;unfold Dt.cmp at h k;exact NU xs ys h k
  | _=>first | (unfold toD L3.eqD eqT;rfl) | (unfold Dt.cmp at k;cases k)
 | .lst o xs,e,h,k=>by
  cases e with
  | lst o' ys=>unfold toD L3.eqD eqT;unfold Dt.cmp at h k;exact NU xs ys h k
  | _=>first | (unfold toD L3.eqD eqT;rfl) | (unfold Dt.cmp at k;cases k)
 | .dic o xs,e,h,k=>by unfold Dt.cmp at h;cases h
 | .ref o,e,h,k=>by unfold Dt.cmp at h;cases h
 | .scr o,e,h,k=>by unfold Dt.cmp at h;cases h
 | .ty o,e,h,k=>by unfold Dt.cmp at h;cases h
 | .mtp o,e,h,k=>by unfold Dt.cmp at h;cases h
 | .dti _ o,e,h,k=>by unfold Dt.cmp at h;cases h
theorem NU:∀ (d e:List Dt),cmps d=true->cmps e=true->L3.eqDs (toDs d) (toDs e)=Lf d e
 | [],[],_,_=>by unfold toDs L3.eqDs Lf;rfl
 | [],_::_,_,_=>by simp only [toDs,L3.eqDs,Lf]
 | _::_,[],_,_=>by simp only [toDs,L3.eqDs,Lf]
 | x::xs,y::ys,h,k=>by
  unfold cmps at h k;rw [kX] at h k;simp only [toDs,L3.eqDs,Lf];rw [ZP x y h.1 k.1,NU xs ys h.2 k.2]
end
mutual
theorem dep_D:∀ (d:Dt),(toD d).dep=d.dep
 | .non=>by unfold toD L3.D.dep Dt.dep;rfl
 | .bl b=>by unfold toD L3.D.dep Dt.dep;rfl
 | .int i=>by unfold toD L3.D.dep Dt.dep;rfl
 | .str l=>by unfold toD L3.D.dep Dt.dep;rfl
 | .tup xs=>by unfold toD L3.D.dep Dt.dep;rw [deps_D xs]
 | .lst o xs=>by unfold toD L3.D.dep Dt.dep;rw [deps_D xs]
 | .dic o xs=>by unfold toD L3.D.dep Dt.dep;rfl
 | .ref o=>by unfold toD L3.D.dep Dt.dep;rfl
 | .scr o=>by unfold toD L3.D.dep Dt.dep;rfl
 | .ty o=>by unfold toD L3.D.dep Dt.dep;rfl
 | .mtp o=>by unfold toD L3.D.dep Dt.dep;rfl
 | .dti _ o=>by unfold toD L3.D.dep Dt.dep;rfl
theorem deps_D:∀ (d:List Dt),L3.depL (toDs d)=Ql d
 | []=>by unfold toDs L3.depL Ql;rfl
 | x::xs=>by simp only [toDs,L3.depL,Ql];rw [dep_D x,deps_D xs]
end
section
variable {K:W.Frag} {g:G} {H:Hp}
def bK (e:Dt) (ds:List Dt):Bool:=ds.any fun d=>eqT d e
def sub1 (x l:List Nat):Bool:=!(Builtin.Str.occurrences (tx l) (tx x) 0 (tx l).length 1).isEmpty
def aG (neg:Bool):R2:=fun x y H Q=>∃ i j,x=.str i/\y=.str j/\Q (.bl (if neg then !(!(Builtin.Str.occurrences j i 0 j.length 1).isEmpty) else !(Builtin.Str.occurrences j i 0 j.length 1).isEmpty)) H
def rInQ (K:W.Frag) (neg:Bool):R2:=fun x y H Q=>aG neg x y H Q\/L3.rInA K neg x y H Q
theorem anyD (e:Dt) (he:e.cmp=true):∀ (ds:List Dt),cmps ds=true->((toDs ds).any fun d=>L3.eqD d (toD e))=bK e ds
 | [],_=>by unfold toDs bK;rfl
 | d::ds,h=>by
  unfold cmps at h;rw [kX] at h;unfold bK;simp only [toDs,mI];rw [ZP d e h.1 he,anyD e he ds h.2];rfl
noncomputable def Dt.isNon:Dt->Bool
 | .non=>true
 | _=>false
theorem rep_isNon {d:Dt} {v:V} {P:Fp} (h:Rep K g H d v P):decide (v=V.non)=d.isNon:=by
 cases d with
 | non=>rw [rep_non h];rfl
 | bl b=>rw [rep_bl h];rfl
 | int b=>rw [rep_int h];rfl
 | str b=>rw [rep_str h];rfl
 | tup b=>obtain ⟨a,vs,rfl,_⟩:=h.tup;rfl
 | lst o b=>obtain ⟨a,vs,P',rfl,_⟩:=h.lst;rfl
 | dic o b=>unfold Rep at h;exact h.elim
 | ref k=>unfold Rep at h;obtain ⟨⟨a,_,rfl⟩,_⟩:=h;rfl
 | scr ns=>obtain ⟨a,rfl,_⟩:=h.scr;rfl
 | ty n=>unfold Rep at h;rw [h.1];rfl
 | mtp n=>unfold Rep at h;obtain ⟨⟨a,rfl,_⟩,_⟩:=h;rfl
 | dti o n=>unfold Rep at h;obtain ⟨a,rfl,_⟩:=h;rfl
noncomputable def mxI:List Int->Int
 | []=>0
 | [a]=>a
 | a::r=>max a (mxI r)
theorem mxI_spec:∀ (ns:List Int),ns≠[]->mxI ns∈ns/\∀ a∈ns,a<=mxI ns
 | [],h=>absurd rfl h
 | [a],_=>by simp [mxI]
 | a::b::r,_=>by
  obtain ⟨h1,h2⟩:=mxI_spec (b::r) (by simp);show max a (mxI (b::r))∈_/\∀ c∈a::b::r,c<=max a (mxI (b::r));constructor
  ·rcases Int.le_total a (mxI (b::r)) with h | h
   ·rw [Int.max_eq_right h];exact kh _ h1
   ·rw [Int.max_eq_left h];exact kg
  ·intro c hc;rcases km.mp hc with rfl | hc
   ·exact Int.le_max_left _ _
   ·exact Int.le_trans (h2 c hc) (Int.le_max_right _ _)
def figs (i:Int):List Nat:=(toString i:Str).cps.toList
end
section
end
section
end
section
variable {K:W.Frag}
def rIndexD (K:W.Frag):V->List V->Hp->VK->Prop:=fun x vs H Q=>∃ p xs y ds e j,x=.ref p/\vs=[y]/\CZ K H p xs/\L3.IsL K H xs ds/\L3.Is K H y e/\L3.depL ds<=150/\(∃ d,ds[j]?=some d/\L3.eqD d e=true)/\(∀ (m:Nat) (d:L3.D),m < j->ds[m]?=some d->L3.eqD d e=false)/\Q (.int (j:Nat)) H
theorem mt_indexD {X:Cx} {j:Nat} (hr:Room j X.A):RQ X "list.index" (rIndexD X.K):=by
 intro pins s σ H x vs v us Q I rx rv h;obtain ⟨p,xs,y,ds,e,j,rfl,rfl,hp,hds,hy,hdp,⟨dj,ej,hit⟩,hno,q⟩:=h;cases rx;obtain ⟨u,rfl,ru⟩:=rv.one;obtain ⟨its,r,pl,hz⟩:=I.list hp;obtain ⟨⟨cls,dd,data,sl⟩,ho,hc,n,hd⟩:=pl.isList;simp only at hc hd;subst hc hd;have hu:X.A.units+1+150 < cLine:=by have:=hr.un;omega
 have hl:its.length=ds.length:=by rw [<- r.length,hds.length]
 have hj:j < ds.length:=(ka.mp ej).1;have hs:sizeLine=16777216:=sizeLine_eq;have hxl:=r.length;have at_:∀ m (hm:m < its.toArray.size),∃ d,ds[m]?=some d/\L3.eqW its ds e its.toArray[m]=L3.eqD d e:=fun m hm=>by
  have hm':m < its.length:=by simpa using hm
  have hd:ds[m]?=some ds[m]:=kZ (by omega);exact ⟨ds[m],hd,by simpa using L3.eqW_at I r hds (kZ hm') hd⟩
 refine call_meets F.slot_list_index ⟨_,ho,rfl⟩ F.entry_list_index (F.args_list_index_2 _ _)
  (SeqAt.list_indexAt p its.toArray n dd sl u (L3.eqW its ds e) j (by simpa [hl] using hj) (by omega) ?_ ?_) ⟨ho,fun w hw=>L3.all_eqW I r hds ru hy hdp hu w (by simpa using hw),⟨.int (j:Nat),H,I.tok _,⟨_,rfl⟩,q⟩⟩
 ·obtain ⟨w,e1,e2⟩:=at_ j (by simpa [hl] using hj);rw [ej] at e1;cases e1;rw [e2];exact hit
 ·intro m hm hlt;obtain ⟨w,e1,e2⟩:=at_ m hm;rw [e2];exact hno m w hlt e1
theorem toDs_get:∀ (ds:List Dt) (i:Nat),(toDs ds)[i]?=(ds[i]?).map toD
 | [],i=>by unfold toDs;simp
 | d::ds,0=>by unfold toDs;simp
 | d::ds,i+1=>by
  have:=toDs_get ds i;simp only [toDs,mX];exact this
def rIndexTD (K:W.Frag):V->List V->Hp->VK->Prop:=fun x vs H Q=>∃ p xs y ds e j,x=.ref p/\vs=[y]/\H p=some (.tup xs)/\L3.IsL K H xs ds/\L3.Is K H y e/\L3.depL ds<=150/\(∃ d,ds[j]?=some d/\L3.eqD d e=true)/\(∀ (m:Nat) (d:L3.D),m < j->ds[m]?=some d->L3.eqD d e=false)/\Q (.int (j:Nat)) H
theorem mt_indexTD {X:Cx} {j:Nat} (hr:Room j X.A):RQ X "tuple.index" (rIndexTD X.K):=by
 intro pins s σ H x vs v us Q I rx rv h;obtain ⟨p,xs,y,ds,e,j,rfl,rfl,hp,hds,hy,hdp,⟨dj,ej,hit⟩,hno,q⟩:=h;cases rx;obtain ⟨u,rfl,ru⟩:=rv.one;obtain ⟨hz,its,r,⟨cls,dd,data,sl⟩,ho,hc,hdd,n,hd⟩:=I.hok p _ hp;simp only at hc hd;subst hc hd;have hu:X.A.units+1+150 < cLine:=by have:=hr.un;omega
 have hl:its.length=ds.length:=by rw [<- r.length,hds.length]
 have hj:j < ds.length:=(ka.mp ej).1;have at_:∀ m (hm:m < its.toArray.size),∃ d,ds[m]?=some d/\L3.eqW its ds e its.toArray[m]=L3.eqD d e:=fun m hm=>by
  have hm':m < its.length:=by simpa using hm
  have hd:ds[m]?=some ds[m]:=kZ (by omega);exact ⟨ds[m],hd,by simpa using L3.eqW_at I r hds (kZ hm') hd⟩
 refine call_meets F.slot_tuple_index ⟨_,ho,rfl⟩ F.entry_tuple_index (F.args_tuple_index_2 _ _)
  (Ht p its.toArray n dd sl u (L3.eqW its ds e) j (by simpa [hl] using hj) ?_ ?_) ⟨ho,fun w hw=>L3.all_eqW I r hds ru hy hdp hu w (by simpa using hw),⟨.int (j:Nat),H,I.tok _,⟨_,rfl⟩,q⟩⟩
 ·obtain ⟨w,e1,e2⟩:=at_ j (by simpa [hl] using hj);rw [ej] at e1;cases e1;rw [e2];exact hit
 ·intro m hm hlt;obtain ⟨w,e1,e2⟩:=at_ m hm;rw [e2];exact hno m w hlt e1
end
section
end
section
variable {K:W.Frag}
noncomputable def isSub (k T:String):Bool:=k == T || (k == "bool" && T == "int")
theorem kit_ok (K:W.Frag) {k T:String} (hk:k∈["NoneType", "bool", "int", "str", "tuple", "list"]) (hT:T∈["int", "bool", "str", "tuple", "list"]):W.kitOne K (.type k) (.type T)=some (isSub k T):=by
 simp only [km,lU,or_false] at hk hT;rcases hk with rfl | rfl | rfl | rfl | rfl | rfl<;>rcases hT with rfl | rfl | rfl | rfl | rfl<;>kernel_rfl
def rLeA:R2:=fun x y H Q=>(Sk fun i j=>.bl (decide (i<=j))) x y H Q\/∃ i j,x=.str i/\y=.str j/\Q (.bl (!decide (j.cps.toList < i.cps.toList))) H
theorem bB {X:Cx}:Br X (compareOp .LtE) (fun x y H Q=>∃ i j,x=.str i/\y=.str j/\Q (.bl (!decide (j.cps.toList < i.cps.toList))) H):=by
 intro pins s σ H x y v u Q I rx ry h;obtain ⟨i,j,rfl,rfl,q⟩:=h;obtain ⟨t,rfl⟩:=rx;obtain ⟨t',rfl⟩:=ry;exact PySem.P.le_str ⟨.bl _,H,I,rfl,q⟩
theorem op_leAQ {X:Cx}:Br X (compareOp .LtE) rLeA:=fT.or bB
end
section
end
section
end
theorem bD {X:Cx}:Br X (compareOp .In) (aG false):=QH
theorem QG {X:Cx}:Br X (compareOp .NotIn) (aG true):=Jj
theorem op_inQ {X:Cx} {j:Nat} (hr:Room j X.A):Br X (compareOp .In) (rInQ X.K false):=bD.or (L3.op_inA hr)
theorem op_notInQ {X:Cx} {j:Nat} (hr:Room j X.A):Br X (compareOp .NotIn) (rInQ X.K true):=QG.or (L3.op_notInA hr)
theorem atI_nat' {α:Type} (xs:List α) (i:Nat) (h:i < xs.length):Dx xs (i:Int)=some xs[i]:=by
 unfold Dx LO;simp [h]
end Q
set_option maxHeartbeats 2000000
set_option maxHeartbeats 2000000
namespace L2
open PySem PySem.Spec PyProof.Rows
noncomputable def cT (ifs:List Expr) (env:Env):Sem Bool:=forIn ifs true fun c r=>if r=true then do let ok <- isTrue c env (eval c env);pure (ForInStep.yield ok) else pure (ForInStep.yield r)
def Vl (X:Cx) (ifs:List Expr) (t:TT):Prop:=
 ∀ (pins:List (Addr×Obj)) (s:Shared) (σ:St) (H:Hp) (Q:Bool->Hp->Prop),Inv X pins σ H s->t σ H Q->wpAny (model X.prog X.w) X.A (cT ifs X.env) (TP X pins σ Q) X.xe s
theorem Vl.one {X:Cx} {c:Expr} {t:TT} (h:PT X c t):Vl X [c] t:=fun pins s σ H Q I q=>wpAny_tests_one (h pins s σ H Q I q)
theorem KB {prog:Program} {w:World} {A:Around} {R:Result->Shared->Prop} {s:Shared} {elt target iter:Expr} {ifs:List Expr} {scope:Scope} {pos:Pos} {it acc:Value} {env:Env} (I:Nat->Shared->Prop)
    (turn:∀ n s,I n s->wpAny (model prog w) A (pyNext it) (fun r s₁=>match r with
      | none=>R (.ok .next) s₁
      | some v=>wpAny (model prog w) A (letOwnedTupleGo target it v) (fun _ s₂=>wpAny (model prog w) A (assign target env v) (fun _ s₃=>wpAny (model prog w) A (cT ifs env) (fun ok s₄=>if ok=true then wpAny (model prog w) A (eval elt env) (fun x s₅ =>
          wpAny (model prog w) A (call (.builtin "list.append") [acc,x]) (fun _ s₆=>∃ m,m < n/\I m s₆) (fun _ _=>False) s₅) (fun _ _=>False) s₄ else ∃ m,m < n/\I m s₄) (fun _ _=>False) s₃) (fun _ _=>False) s₂) (fun _ _=>False) s₁) (fun _ _=>False) s)
    (n:Nat) (h:I n s) :
    codeAny (model prog w) A (.compLoop (.ListComp elt [⟨target,iter,ifs,0⟩] scope pos) 0 it acc env) R s:=by
  refine codeAny_loop rfl I (fun n s hI=>?_) n h;show wpAny _ _ ((compTurn (.ListComp elt [⟨target,iter,ifs,0⟩] scope pos) 0 it acc env).onRaise (fun x=>do noteFrame x env;theTreesLotGoes x)) _ _ s;refine wpAny_noted ?_;rw [compTurn_list];have no:∀ {E:Value->Shared->Prop},∀ (e:Value) (s:Shared),False->E e s:=fun _ _ z=>z.elim
  refine wpAny_bind (wpAny_standAt (wpAny_bind (wpAny_mono (turn n s hI) (fun r s₁ h₁=>?_) no)));cases r with
  | none=>exact wpAny_pure h₁
  | some v =>
    refine wpAny_bind (wpAny_mono h₁ (fun _ s₂ h₂=>?_) no);refine wpAny_bind (wpAny_mono h₂ (fun _ s₃ h₃=>wpAny_bind (wpAny_mono h₃ (fun ok s₄ h₄=>?_) no)) no);cases ok with
    | false=>exact wpAny_pure ⟨rfl,h₄⟩
    | true=>exact wpAny_bind (wpAny_bind (wpAny_mono h₄ (fun x s₅ h₅=>wpAny_bind (wpAny_mono h₅ (fun _ s₆ h₆=>wpAny_pure (wpAny_pure ⟨rfl,h₆⟩)) no)) no))
section
variable {X:Cx} {tg iter elt:Expr} {ifs:List Expr} {scope:Scope} {pos:Pos} {g:TG} {te:TE} {tc:TT} {js:List Nat} {wi:TI}
def Nt (js:List Nat) (g:TG) (tc:TT) (te:TE) (J:It) (σ:St) (Fin:List V->Hp->Prop) (W:Nat->Nat->List V->Hp->Prop):Prop:=∀ i m ys H,W i m ys H ->
 (J.stop i H/\Fin ys H)\/(J.go i H/\ys.length < sizeLine/\∃ N:List V->Hp->Prop,(∀ zs H',N zs H'->∃ m',m' < m/\W (i+1) m' zs H')/\∀ x H',J.yld i H x H'->g x (blank js σ) H' fun σ2 H2=>tc σ2 H2 fun b H3=>if b=true then te σ2 H3 fun v H4=>N (ys++[v]) H4 else N ys H3)
theorem Fw {pins:List (Addr×Obj)} {s2:Shared} {σ:St} {H2:Hp} {it:Addr} {fp:List Addr} {tn:Nat->Heap->Prop} {J:It} {cl:List (Str×Addr)} {W:Nat->Nat->List V->Hp->Prop} {Fin:List V->Hp->Prop} {E:Value->Shared->Prop} {RR:Value->Addr->Result->Shared->Prop}
    (hin:InnerIn X.N X.env.scope scope js) (hc:X.calm=true) (hg:∀ cl C s H fp,PG (X.inner scope cl C s H fp) tg g) (hgo:Rb js g) (hcn:∀ cl C s H fp,Vl (X.inner scope cl C s H fp) ifs tc) (he:∀ cl C s H fp,PE (X.inner scope cl C s H fp) elt te)
    (I2:Inv X pins σ H2 s2) (T:Turn X.prog X.w X.K tg J fp it tn) (t0:tn 0 s2.heap) (hf:∀ b∈fp,FpOk X pins H2 b)
    (hcl:∀ x c,cl.lookup x=some c->X.env.cells.lookup x=some c) (hfr:∀ x,scope.names.lookup x=some .free->∃ c,cl.lookup x=some c)
    {m0:Nat} (w0:W 0 m0 [] H2) (turn:Nt js g tc te J σ Fin W)
    (hRR:∀ D C s' H' ys m,Inv X pins σ (upd H' D (.lst ys)) s'->H' D=none->Fin ys H'->s'.heap.Ns C m->C≠X.env.locals->X.s₀.heap.objs.size<=C->(∀ x c,X.env.cells.lookup x=some c->c≠C)->(∀ p∈X.pn++pins,p.1≠C)->H' C=none->D≠C->RR (.ref D) C (.ok .next) s') :
    wpAny (model X.prog X.w) X.A (newList []) (fun acc s₃=>wpAny (model X.prog X.w) X.A (newFunctionEnv scope X.env.globals cl [] X.env.qual none .none (some X.env)) (fun cenv s₄ =>
      codeAny (model X.prog X.w) X.A (.compStart (.ListComp elt [⟨tg,iter,ifs,0⟩] scope pos) 0 (.ref it) acc { cenv with scope:=relabel scope X.env }) (RR acc cenv.locals) s₄) E s₃) E s2:=by
  have hfe:∀ b∈fp,b < s2.heap.objs.size:=fun b hb=>let ⟨_,e,_⟩:=T.obj _ _ t0 b hb;lA e
  refine wpAny_newObj_type (Bt ?_);dsimp only
  generalize hHH:s2.heap.push { cls:=.type "list", dict:=none,data:=.seq ([]:List Value).toArray }=HH
  have hC:HH.objs.size=s2.heap.objs.size+1:=by rw [<- hHH,mE]
  have hDC:s2.heap.objs.size≠HH.objs.size:=by rw [hC];exact lP (nT _)
  have hCle:s2.heap.objs.size<=HH.objs.size:=by rw [hC];exact nK _
  have below:∀ b,b < s2.heap.objs.size->b≠HH.objs.size/\b≠s2.heap.objs.size:=fun b hb=>⟨by rw [hC];exact lP (Nat.lt_succ_of_lt hb),lP hb⟩
  obtain ⟨h₁,hh₁⟩:∃ h₁,pushCells (HH.push { cls:=.type "dict", data:=.dict #[] }) scope.names=h₁:=⟨_,rfl⟩
  have old:∀ b o,s2.heap.get? b=some o->h₁.get? b=some o:=fun b o e=>hh₁▸pushCells_keeps _ _ b o (kY _ (hHH▸kY _ e))
  have hacc:h₁.get? s2.heap.objs.size=some { cls:=.type "list", data:=.seq ([]:List Value).toArray 0 }:=hh₁▸pushCells_keeps _ _ _ _ (kY _ (hHH▸kz _ rfl))
  have hns₁:h₁.Ns HH.objs.size (fun _=>none):=hh₁▸(Heap.Ns.new HH (.type "dict")).keeps (pushCells_keeps _ _)
  obtain ⟨L,hown⟩:=Xj (s:=s2) (C:=HH.objs.size) hin hcl hfr (h:=HH.push { cls:=.type "dict", data:=.dict #[] }) hCle (mE ..)
  rw [hh₁] at hown ⊢;generalize hcc:cellsFrom (HH.objs.size+1) scope.names cl=cl' at L hown ⊢;clear hh₁ hcc;generalize hDD:s2.heap.objs.size=D at *;generalize hCC:HH.objs.size=C at *;have hDle:s2.heap.objs.size<=D:=Nat.le_of_eq hDD;have hCle':s2.heap.objs.size<=C:=by rw [hDD];exact hCle
  have nocell:∀ (its:List Value) (n:Nat) v,({ cls:=.type "list", data:=.seq its.toArray n }:Obj).data≠.cell v:=fun _ _ _ z=>by cases z
  have I4:Inv (X.inner scope cl' C s2 H2 fp) (pins++[(D,{ cls:=.type "list", data:=.seq ([]:List Value).toArray 0 })]) (blank js σ) H2 { s2 with heap:=h₁,toks:=s2.toks }:=
    I2.enter hin hf (by rw [hDD];exact hfe) hCle' hDle hDC L hown old hns₁ hacc (nocell _ _)
  have stat:∀ {H':Hp} {o:Obj},(∀ b∈fp,H' b=none)->∀ b∈fp,FpOk (X.inner scope cl' C s2 H2 fp) (pins++[(D,o)]) H' b:=fun {H' o} hn b hb=>by
    obtain ⟨_,f1,f2,f3,f4,f5⟩:=hf b hb;refine ⟨hn b hb,(below b (hfe b hb)).1,fun z=>?_,.inl hb,fun x c e=>L.ne e (by rw [hDD];exact hfe b hb) f4,fun p hp=>?_⟩
    · rcases km.mp (I2.stkSub b z) with e | e
      · exact f1 e
      · exact f2 e
    · have hp':p∈X.pn++(pins++[(D,o)]):=hp;rw [<- lh] at hp';rcases lK.mp hp' with z | z
      · exact f5 p z
      · have e:p=(D,o):=by simpa using z
        subst e;exact fun z=>(below b (hfe b hb)).2 z.symm
  have loop:∀ s₃:Shared,s₃={ s2 with heap:=h₁,toks:=s2.toks } ->
      codeAny (model X.prog X.w) X.A (.compLoop (.ListComp elt [⟨tg,iter,ifs,0⟩] scope pos) 0 (.ref it) (.ref D) (compEnvC scope cl' C X.env)) (RR (.ref D) C) s₃:=by
    rintro s₃ rfl
    refine KB (fun n s'=>∃ i ys its k H',Inv (X.inner scope cl' C s2 H2 fp) (pins++[(D,{ cls:=.type "list", data:=.seq its.toArray k })]) (blank js σ) H' s'/\tn i s'.heap/\(∀ b∈fp,H' b=none)/\AD ys its/\ys.length<=sizeLine/\W i n ys H') ?_ m0
      ⟨0,[],[],0,H2,I4,T.keep _ _ _ t0 fun b hb o e=>old b o e,fun b hb=>(hf b hb).1,.nil,lq _,w0⟩
    rintro n s3 ⟨i,ys,its,k,H3,I3,st3,fr3,hv3,hz3,w3⟩;rcases turn i n ys H3 w3 with ⟨stop,fin⟩ | ⟨go,hlt,N,hN,step⟩
    · refine Ah (T.done (X.inner scope cl' C s2 H2 fp) rfl rfl rfl hc i _ s3 _ H3 _ I3 (stat fr3) st3 stop) fun r s4 ⟨hr,I4⟩=>?_
      subst hr
      have pD:=I4.pin (D,{ cls:=.type "list", data:=.seq its.toArray k }) (kl _ (kl _ kg))
      obtain ⟨m,hn,_⟩:=id I4.loc;refine hRR D C s4 H3 ys m (I2.leave (fp:=fp) hf rfl I4 hDle pD.2.1 hz3 hv3 pD.1) pD.2.1 fin hn ?_ ?_ (fun x c e=>?_) (fun p hp=>?_) I4.free hDC
      · exact mn (lC I2.lt hCle')
      · exact lI I2.sz hCle'
      · exact lP (lC (I2.cellLt e) hCle')
      · exact lP (lC (I2.pinLt hp) hCle')
    · refine Ah (T.item (X.inner scope cl' C s2 H2 fp) rfl rfl rfl hc i _ s3 _ H3 _ I3 (stat fr3) st3 go) fun r s4 ⟨u,hr,h4⟩=>?_
      subst hr;refine Ah h4 fun _ s5 ⟨x,H5,I5,r5,y5,st5,fr5⟩=>?_
      have I5':=I5.pinned (stat fr5) (T.obj _ _ st5);refine Ah (hg cl' C s2 H2 fp _ s5 _ H5 x u _ I5' r5 (hgo _ _ _ _ (step x H5 y5))) fun _ s6 ⟨σ6,H6,I6,⟨hl6,hs6⟩,q6⟩=>?_
      refine Ah (hcn cl' C s2 H2 fp _ s6 σ6 H6 _ I6 q6) fun ok s6b ⟨H6b,I6b,q6b⟩=>?_
      have other:∀ (s7:Shared) (v:Value) (b:Addr) (u:Obj),b≠D->s7.heap.get? b=some u->(s7.heap.update D (Obj.mapSeq fun a=>a.push v)).get? b=some u:=fun s7 v b u hb hu=>(lj s7.heap (Obj.mapSeq fun a=>a.push v) (Ne.symm hb)).trans hu
      cases ok with
      | false =>
        obtain ⟨m',hm,w7⟩:=hN _ _ q6b
        have pD:=I6b.pin (D,{ cls:=.type "list", data:=.seq its.toArray k }) (kl _ (ku _ (kl _ kg)))
        have fpk:∀ b∈fp,∀ o,s5.heap.get? b=some o->s6b.heap.get? b=some o/\H6b b=none:=fun b hb o e =>
          let z:=I6b.pin (b,o) (kl _ (kl _ (DA hb e)));⟨z.1,z.2.1⟩
        have I8:Inv (X.inner scope cl' C s2 H2 fp) pins (blank js σ) H6b s6b:=by
          have Ia:Inv (X.inner scope cl' C s2 H2 fp) pins σ6 H6b s6b:=I6b.pins_of fun p hp=>I6b.pin p (kl _ (ku _ (ku _ hp)))
          exact Ia.weak hl6.symm fun i v e=>by
            obtain ⟨hj,_⟩:=Fj js σ i v e;rw [hs6 i hj];exact e
        refine ⟨m',hm,i+1,ys,its,k,H6b,I8.pins_of (fun p hp=>?_),T.keep _ _ _ st5 fun b hb o e=>(fpk b hb o e).1,fun b hb=>?_,hv3,hz3,w7⟩
        · rcases lK.mp hp with z | z
          · exact I8.pin p (kl _ z)
          · have e:p=(D,_):=la.mp z;subst e;exact ⟨pD.1,pD.2.1,pD.2.2.1,pD.2.2.2.1,nocell _ _⟩
        · obtain ⟨o,e,_⟩:=T.obj _ _ st5 b hb;exact (fpk b hb o e).2
      | true =>
      refine Ah (he cl' C s2 H2 fp _ s6b σ6 H6b _ I6b q6b) fun v s7 ⟨y,H7,I7,r7,n7⟩=>?_
      obtain ⟨m',hm,w7⟩:=hN _ _ n7
      have pD:=I7.pin (D,{ cls:=.type "list", data:=.seq its.toArray k }) (kl _ (ku _ (kl _ kg)))
      have lt:its.toArray.size<=sizeLine:=by rw [kc,<- hv3.length];exact hz3
      refine call_meets F.slot_list_append ⟨_,pD.1,rfl⟩ F.entry_list_append (F.args_list_append_2 _ _) (PySem.list_append D its.toArray k v lt) ⟨pD.1,?_⟩
      obtain ⟨k',q⟩:∃ k',(s7.heap.update D (Obj.mapSeq fun a=>a.push v)).get? D=some { cls:=.type "list", data:=.seq (its.toArray.push v) k' }:=⟨_,PySem.IsL.update pD.1 (fun a=>a.push v)⟩
      have eq:(its.toArray.push v)=(its++[v]).toArray:=by simp
      have fpk:∀ b∈fp,∀ o,s5.heap.get? b=some o->s7.heap.get? b=some o/\H7 b=none:=fun b hb o e =>
        let z:=I7.pin (b,o) (kl _ (kl _ (DA hb e)));⟨z.1,z.2.1⟩
      have other:∀ b u,b≠D->s7.heap.get? b=some u->(s7.heap.update D (Obj.mapSeq fun a=>a.push v)).get? b=some u:=fun b u hb hu=>(lj s7.heap (Obj.mapSeq fun a=>a.push v) (Ne.symm hb)).trans hu
      have I8:Inv (X.inner scope cl' C s2 H2 fp) pins (blank js σ) H7 { s7 with heap:=s7.heap.update D (Obj.mapSeq fun a=>a.push v),toks:=s7.toks }:=by
        have Ia:Inv (X.inner scope cl' C s2 H2 fp) pins σ6 H7 s7:=I7.pins_of fun p hp=>I7.pin p (kl _ (ku _ (ku _ hp)))
        have Ib:Inv (X.inner scope cl' C s2 H2 fp) pins (blank js σ) H7 s7:=Ia.weak hl6.symm fun i v e=>by
          obtain ⟨hj,_⟩:=Fj js σ i v e;rw [hs6 i hj];exact e
        refine Ib.turned (it:=D) (fun b o hb e=>other b o hb e) pD.2.1 pD.2.2.1 (.inr hDle) (fun x c e=>?_) (fun p hp=>?_)
        · cases q:AM scope x with
          | false=>exact lP (lC (I2.cellLt (L.old x c e q)) hDle)
          | true=>exact mn (nN hCle (L.own x c e q).2)
        · exact lP (lC (I2.pinLt hp) hDle)
      refine ⟨m',hm,i+1,ys++[y],its++[v],k',H7,I8.pins_of (fun p hp=>?_),T.keep _ _ _ st5 fun b hb o e=>other b o (below b (hfe b hb)).2 (fpk b hb o e).1,fun b hb=>?_,hv3.append (.cons r7 .nil),by rw [lJ,lQ];omega,w7⟩
      · rcases lK.mp hp with z | z
        · exact I8.pin p (kl _ z)
        · have e:p=(D,_):=la.mp z;subst e;rw [<- eq];exact ⟨q,pD.2.1,pD.2.2.1,pD.2.2.2.1,nocell _ _⟩
      · obtain ⟨o,e,_⟩:=T.obj _ _ st5 b hb;exact (fpk b hb o e).2
  exact codeAny_compStart_list (loop _ rfl) (T.self _ 0 _ _ _ (T.keep _ _ _ t0 fun b hb o e=>old b o e) (loop _ rfl))
def Ey (wi:TI) (js:List Nat) (g:TG) (tc:TT) (te:TE):TE:=fun σ H Q=>wi σ H fun J H1=>∃ W:Nat->Nat->List V->Hp->Prop,(∃ m,W 0 m [] H1)/\Nt js g tc te J σ (fun ys H=>∀ p,H p=none->Q (.ref p) (upd H p (.lst ys))) W
theorem LB (hin:innerOk X.N X.env.scope scope js=true) (hc:X.calm=true) (hi:PI X tg iter wi) (hg:∀ cl C s H fp,PG (X.inner scope cl C s H fp) tg g) (hgo:Rb js g) (hcn:∀ cl C s H fp,Vl (X.inner scope cl C s H fp) ifs tc) (he:∀ cl C s H fp,PE (X.inner scope cl C s H fp) elt te)
    (hs:∀ x,foldedSetIterable iter X.env x=pure x:=by intro _;rfl):PE X (.ListComp elt [⟨tg,iter,ifs,0⟩] scope pos) (Ey wi js g tc te):=by
  intro pins s σ H Q I h;have hin:=HP hin;obtain ⟨cl,hclos,hcl,hfr⟩:=Ha (scope:=scope) (env:=X.env) (fun x hx=>I.ok.has x (hin.fr x hx)) hin.uniqF;rw [eval_ListComp];refine wpAny_comprehension_free (use:=none) rfl hs hclos hin.kind hin.uniqL ?_;refine Ah (hi pins s σ H _ I h) fun v s1 h1=>Ah h1 fun itv s2 h2=>?_
  obtain ⟨it,fp,tn,J,H2,e,I2,T,st2,f2,W,⟨m0,w0⟩,turn⟩:=h2;subst e;refine Fw (RR:=fun acc C=>compPost (model X.prog X.w) X.A X.xe none (EP X pins σ Q) acc C) hin hc hg hgo hcn he I2 T st2 f2 hcl hfr w0 turn ?_;intro D C s' H' ys m I' hD fin hn c1 c2 c3 c4 c5 c6;refine ⟨m,hn,fun h' sb=>⟨.ref D,_,I'.turned (t':=s'.toks) (it:=C) (fun b o hb e=>(sb.2 b hb).trans e) ?_ c1 (.inr c2) c3 c4,rfl,fin D hD⟩⟩;rw [AN (Ne.symm c6)];exact c5
theorem Kv {i:Nat} {x:Str} {pos' spos:Pos} (hN:X.N.Nodup) (hix:X.N[i]?=some x) (hx:Loc X.env.scope x)
    (hin:innerOk X.N X.env.scope scope js=true) (hc:X.calm=true) (hi:PI X tg iter wi) (hg:∀ cl C s H fp,PG (X.inner scope cl C s H fp) tg g) (hgo:Rb js g) (hcn:∀ cl C s H fp,Vl (X.inner scope cl C s H fp) ifs tc) (he:∀ cl C s H fp,PE (X.inner scope cl C s H fp) elt te)
    (hsw:swapsWith (.ListComp elt [⟨tg,iter,ifs,0⟩] scope pos) (some (.Name x pos')) spos.line X.env=pure true:=by rfl)
    (hs:∀ x,foldedSetIterable iter X.env x=pure x:=by intro _;rfl)
    (hf:X.fn x=true\/X.env.scope.names.lookup x=some .local:=by first | exact .inl rfl | exact .inr rfl | assumption) :
    PS X (.Assign [.Name x pos'] (.ListComp elt [⟨tg,iter,ifs,0⟩] scope pos) spos) (Kb (Ey wi js g tc te) (DZ i)):=by
  intro pins s σ H D I h;have hin:=HP hin;obtain ⟨cl,hclos,hcl,hfr⟩:=Ha (scope:=scope) (env:=X.env) (fun x hx=>I.ok.has x (hin.fr x hx)) hin.uniqF;rw [exec_Assign_Name_used _ _ _ _ hsw];refine wpAny_bind (wpAny_standAt (wpAny_bind ?_));show wpAny _ _ (do let _ <- comprehension (.ListComp elt [⟨tg,iter,ifs,0⟩] scope pos) scope X.env _ (newList []) false (eval iter X.env) (some (assign (.Name x pos') X.env))) _ _ s;refine wpAny_bind (Ah (wpAny_comprehension_free (use:=some (assign (.Name x pos') X.env)) (Q:=fun _ s'=>SP X pins D .next s') rfl hs hclos hin.kind hin.uniqL ?_) (fun _ s' hq=>wpAny_pure (wpAny_pure hq)));refine Ah (hi pins s σ H _ I h) fun v s1 h1=>Ah h1 fun itv s2 h2=>?_
  obtain ⟨it,fp,tn,J,H2,e,I2,T,st2,f2,W,⟨m0,w0⟩,turn⟩:=h2;subst e;refine Fw (RR:=fun acc C=>compPost (model X.prog X.w) X.A X.xe (some (assign (.Name x pos') X.env)) (fun _ s'=>SP X pins D .next s') acc C) hin hc hg hgo hcn he I2 T st2 f2 hcl hfr w0 turn ?_;intro DD C s' H' ys m I' hD fin hn c1 c2 c3 c4 c5 c6;show wpAny _ _ (assign (.Name x pos') X.env (.ref DD)) _ _ _;refine wpAny_assign_Name (IY (v:=.ref DD) I' hN hix hx rfl (fun s'' I'' ⟨a,sb,ha⟩=>?_) hf);have ne:C≠a:=by
    rcases ha with z | z
    · rw [z];exact c1
    · exact (c3 x a z).symm
  refine ⟨m,hn.sameBut sb ne,fun h' sb'=>⟨_,_,I''.turned (t':=s''.toks) (it:=C) (fun b o hb e=>(sb'.2 b hb).trans e) ?_ c1 (.inr c2) c3 c4,fin DD hD⟩⟩;rw [AN (Ne.symm c6)];exact c5
end
end L2
namespace R
open PySem L2
section
variable {γ:Type}
noncomputable def CW (g:Dv->γ->Option (Dv×γ)):List Dv->γ->Option (List Dv×γ)
 | [],c=>some ([],c)
 | x::xs,c=>(g x c).bind fun p=>(CW g xs p.2).bind fun q=>some (p.1::q.1,q.2)
noncomputable def BF (g:Dv->Option Dv):List Dv->Option (List Dv)
 | []=>some []
 | x::xs=>(g x).bind fun p=>(BF g xs).bind fun q=>some (p::q)
noncomputable def Oz (g:Dv->γ->Option (Option Dv×γ)):List Dv->γ->Option (List Dv×γ)
 | [],c=>some ([],c)
 | x::xs,c=>(g x c).bind fun p=>(Oz g xs p.2).bind fun q=>some (match p.1 with | some d=>d::q.1 | none=>q.1,q.2)
noncomputable def Mw (g:Dv->Option (Option Dv)):List Dv->Option (List Dv)
 | []=>some []
 | x::xs=>(g x).bind fun p=>(Mw g xs).bind fun q=>some (match p with | some d=>d::q | none=>q)
noncomputable def FY {α:Type} (xs:List Dv) (o:Option α):Option α:=if xs.length<=1000000 then o else none
end
theorem Eh {α:Type} {xs:List Dv} {o:Option α} {a:α} (h:FY xs o=some a):xs.length<=1000000/\o=some a:=by
 unfold FY at h;split at h
 ·rename_i z;exact ⟨z,h⟩
 ·cases h
section
variable {K:W.Frag} {g g':G} {H H':Hp} {Γ:Gm} {m:M} {σ:St} {P:Fp}
theorem Rel.sub {Γ':Gm} {σ':St} (h:Rel K g H Γ m σ P) (hl:Γ'.length=Γ.length) (hs:σ'.length=σ.length) (k:∀ (i o:Nat),Γ'[i]?=some (some o)->Γ[i]?=some (some o)/\σ'[i]?=σ[i]?):∃ P',Rel K g H Γ' m σ' P'/\∀ a,P' a->P a:=by
 obtain ⟨zd,F,h1,h4⟩:=h;refine ⟨fun a=>∃ i,(∃ o,Γ'[i]?=some (some o))/\F i a,⟨zd,fun i a=>(∃ o,Γ'[i]?=some (some o))/\F i a,⟨by rw [hl];exact h1.l1,by rw [hs,hl];exact h1.l2,fun i o e=>?_,fun i e a q=>q.1.elim fun o z=>e o z,fun i j n a q z=>h1.dj i j n a q.2 z.2⟩,fun _=>Iff.rfl⟩,fun a ⟨i,_,q⟩=>(h4 a).mpr ⟨i,q⟩⟩;obtain ⟨e',es⟩:=k i o e;obtain ⟨d,v,e1,e2,r⟩:=h1.rep i o e';have eq:(fun a=>(∃ o,Γ'[i]?=some (some o))/\F i a)=F i:=funext fun a=>propext ⟨fun z=>z.2,fun z=>⟨⟨o,e⟩,z⟩⟩
 exact ⟨d,v,e1,by rw [es];exact e2,by show Rep K g H o d v fun a=>(∃ o,Γ'[i]?=some (some o))/\F i a;rw [eq];exact r⟩
theorem Rel.more {Γ':Gm} {σ':St} (h:Rel K g H Γ m σ P) (hl:Γ'.length=Γ.length) (hs:σ'.length=σ.length) (k:∀ (i o:Nat),Γ'[i]?=some (some o)->(Γ[i]?=some (some o)/\σ'[i]?=σ[i]?)\/(o=0/\∃ d v,m[i]?=some d/\σ'[i]?=some (some v)/\Rep K g H 0 d v nop)):∃ P',Rel K g H Γ' m σ' P'/\∀ a,P' a->P a:=by
 obtain ⟨zd,F,h1,h4⟩:=h
 let C:Nat->Prop:=fun i=>∃ o,Γ'[i]?=some (some o)/\Γ[i]?=some (some o)/\σ'[i]?=σ[i]?
 refine ⟨fun a=>∃ i,C i/\F i a,⟨zd,fun i a=>C i/\F i a,⟨by rw [hl];exact h1.l1,by rw [hs,hl];exact h1.l2,fun i o e=>?_,fun i e a q=>q.1.elim fun o z=>e o z.1,fun i j n a q z=>h1.dj i j n a q.2 z.2⟩,fun _=>Iff.rfl⟩,fun a ⟨i,_,q⟩=>(h4 a).mpr ⟨i,q⟩⟩
 by_cases c:C i
 ·obtain ⟨o',e1,e2,e3⟩:=c;rw [e] at e1;cases e1;obtain ⟨d,v,e4,e5,r⟩:=h1.rep i o e2;have eq:(fun a=>C i/\F i a)=F i:=funext fun a=>propext ⟨fun z=>z.2,fun z=>⟨⟨o,e,e2,e3⟩,z⟩⟩
  exact ⟨d,v,e4,by rw [e3];exact e5,by show Rep K g H o d v fun a=>C i/\F i a;rw [eq];exact r⟩
 ·have eq:(fun a=>C i/\F i a)=nop:=nop_iff fun a z=>c z.1
  rcases k i o e with z | ⟨rfl,d,v,e1,e2,r⟩
  ·exact (c ⟨o,e,z⟩).elim
  ·exact ⟨d,v,e1,e2,by show Rep K g H 0 d v fun a=>C i/\F i a;rw [eq];exact r⟩
end
def MD (js:List Nat) (Γ:Gm):Gm:=(List.range Γ.length).map fun i=>if js.contains i then none else Γ.getD i none
def Kj (js:List Nat) (Γ1 Γ:Gm):Gm:=(List.range Γ.length).map fun i=>if js.contains i then (if Γ1.getD i none == some 0 then some 0 else none) else Γ.getD i none
theorem rng_get {α:Type} {n i:Nat} {f:Nat->α} {x:α} (h:((List.range n).map f)[i]?=some x):i < n/\x=f i:=by
 rw [kn] at h
 by_cases z:i < n
 ·rw [mP z] at h;exact ⟨z,(Option.some.inj h).symm⟩
 ·rw [List.getElem?_eq_none_iff.mpr (by simpa using z)] at h;cases h
theorem Az {Γ:Gm} {i o:Nat} (h:Γ.getD i none=some o):Γ[i]?=some (some o):=by
 rw [lB] at h;cases e:Γ[i]? with
 | none=>rw [e] at h;cases h
 | some x=>rw [e] at h;exact congrArg some h
theorem DE {js:List Nat} {Γ:Gm} {i o:Nat} (h:(MD js Γ)[i]?=some (some o)):i∉js/\Γ[i]?=some (some o):=by
 obtain ⟨_,e⟩:=rng_get h;split at e
 ·cases e
 ·rename_i z;exact ⟨fun q=>z (ki.mpr q),Az e.symm⟩
theorem JL (js:List Nat):∀ (σ:St) (i:Nat),i∉js->(L2.blank js σ)[i]?=σ[i]?:=by
 induction js with
 | nil=>intro σ i _;rfl
 | cons j js ih =>
  intro σ i h;show (L2.blank js (σ.set j none))[i]?=_;rw [ih _ i fun z=>h (kh _ z),lL fun z=>h (by rw [<- z];exact kg)]
theorem El {K:W.Frag} {Γ1 Γl Γt Γc Γf:Gm} {jx jt jc jf J:List Nat} {g:TG} {ft:Tg} {c:Ev Bool} {f:Ev Dv} (ht:Nl K Γl Γt jt g ft) (hbl:BS Γl (MD jx Γ1)=true) (hwf:BS Γl Γf=true) (hwc:BS Γl Γc=true) (hsx:∀ i∈jt,i∈jx)
    (hJ:J=Ax Γl (jt++(jc++jf))) {ds:List Dv} (hz:ds.length<=1000000) {m1:M} {σ:St} {H1:Hp} {g1:G} {P1:Fp} {I:It} {R:Type} {k:Dv->M->Option R} {res:R} {Q:VK}
    (r1:Rel K g1 H1 Γ1 m1 σ P1) (yl:Yl K I ds g1 H1) (run:List Dv->ED J->List Dv->Prop) (h0:run ds (AS J m1) []) (hn:∀ t ya,run [] t ya->k (.lst ya) (Aa J m1 t)=some res)
    (hc:∀ d ds t ya,run (d::ds) t ya->∃ (B:Type) (kx:Dv->M->Option B) (kf:M->Option B) (r:B),ft B d (Aa J m1 t) (fun m2=>c B m2 fun b m3=>if b=true then f B m3 kx else kf m3)=some r/\(∀ x m',kx x m'=some r->run ds (AS J m') (ya++[x]))/\∀ m',kf m'=some r->run ds (AS J m') ya)
    (q:∀ d m' g' P' Pv v H',k d m'=some res->BW (jt++(jc++jf)) m1 m'->Step g1 P1 H1 g' (fun a=>P' a\/Pv a) H'->Rep K g' H' 1 d v Pv->Rel K g' H' (Kj jx Γ1 Γl) m' σ P'->Disj P' Pv->Q v H') :
    ∃ W:Nat->Nat->List V->Hp->Prop,(∃ m,W 0 m [] H1)/\Nt jx g (tT K Γt Γc jc c) (tE K Γc 0 Γf jf f) I σ (fun ys H=>∀ p,H p=none->Q (.ref p) (upd H p (.lst ys))) W:=by
  have sub:∀ i∈J,i∈jt++(jc++jf):=fun i h=>Aw (hJ▸h)
  have nJ:∀ i∈J,i∉jx:=fun i h z=>by
    rw [hJ] at h;have:=(mW.mp h).2;rw [kX] at this;cases e:Γl.getD i none with
    | none=>rw [e] at this;cases this.2
    | some o =>
      obtain ⟨o',e',_⟩:=Ee hbl (Az e);exact (DE e').1 z
  have lb:(MD jx Γ1).length=Γ1.length:=by unfold MD;simp
  obtain ⟨Pb,rb,sb⟩:=r1.sub (Γ':=MD jx Γ1) (σ':=L2.blank jx σ) lb (L2.blank_length ..) fun i o e=>⟨(DE e).2,JL jx σ i (DE e).1⟩
  obtain ⟨g0,P0,s0,r0⟩:=rb.weaken hbl;have s10:Step g1 P1 H1 g0 P0 H1:=s0.sub sb fun _ z=>z
  refine ⟨fun i j ys H=>j=ds.length - i/\i<=ds.length/\ys.length<=i/\∃ g2 t P2 ya,Step g1 P1 H1 g2 P2 H/\Rel K g2 H Γl (Aa J m1 t) (L2.blank jx σ) P2/\Reps K g2 H 0 ya ys nop/\run (ds.drop i) t ya,
    ⟨ds.length,by simp,lq _,lq _,g0,AS J m1,P0,[],s10,NJ r0,Reps.nil,by simpa using h0⟩,?_⟩
  rintro i j ys H2 ⟨rfl,hi,hyl,g2,t,P2,ya,s2,r2,ry,e2⟩;have st:Hk g1 H1 g2 H2:=⟨P1,P2,s2,r1.fpOk⟩
  by_cases hlt:i < ds.length
  · rw [mr hlt] at e2;obtain ⟨B,kx,kf,rB,e3,hx,hf⟩:=hc _ _ _ _ e2;obtain ⟨go,yy⟩:=(yl g2 H2 st).1 i ds[i] (kZ hlt);refine .inr ⟨go,nN hyl (lC hlt (lI hz (by decide))),fun zs H'=>zs.length<=i+1/\∃ g5 P5 m' za,Step g1 P1 H1 g5 P5 H'/\Rel K g5 H' Γl m' (L2.blank jx σ) P5/\BW (jt++(jc++jf)) m1 m'/\Reps K g5 H' 0 za zs nop/\run (ds.drop (i+1)) (AS J m') za,?_,fun y H3 hy=>?_⟩
    · rintro zs H' ⟨hl,g5,P5,m',za,s5,r5,ag,rz,hr⟩;exact ⟨ds.length - (i+1),by omega,rfl,hlt,hl,g5,AS J m',P5,za,s5,r5.join ag fun i o h=>hJ▸BL h,rz,hr⟩
    · obtain ⟨Pv,s3,h3,r3,n3⟩:=AU.go s2 r2 (yy y H3 hy);have ry3:Reps K g2 H3 0 ya ys nop:=ry.held (Step.same (P:=nop) (yy y H3 hy).1) FpOk.nop fun _ _ z=>z
      refine ht g2 _ P2 ds[i] y _ H3 B _ rB _ r3 h3.z e3 fun m2 P' σ' hk ag sp ip r'=>?_
      have s4:Step g1 P1 H1 g2 P' H3:=s3.less fun a z=>.inl (sp a z)
      have a4:BW (jt++(jc++jf)) m1 m2:=((AO J m1 t).mono sub).trans ag |>.mono fun i z=>(lK.mp z).elim id fun z=>ku _ z
      -- outside of the comprehension's own slots nothing is bound
      have back:∀ {g5:G} {P5:Fp} {m':M} {H':Hp},Rel K g5 H' Γl m' σ' P5->∃ P6,Rel K g5 H' Γl m' (L2.blank jx σ) P6/\∀ a,P6 a->P5 a:=fun {g5 P5 m' H'} r5=>r5.sub rfl (by rw [ip.1]) fun i o e=>⟨e,(ip.2 i fun z=>by
          obtain ⟨o',e',_⟩:=Ee hbl e;exact (DE e').1 (hsx i z)).symm⟩
      refine ⟨g2,m2,P',r',B,_,rB,hk,fun b m3 g4 P4 H4 hk4 ag4 s5 r4=>?_⟩;have ry4:=ry3.held s5 r'.fpOk fun _ z=>z.elim
      cases b with
      | false =>
        rw [if_neg kr] at hk4;show (if false=true then _ else _);rw [if_neg kr];obtain ⟨g6,P6,s6,r6⟩:=r4.weaken hwc;obtain ⟨P7,r7,sp7⟩:=back r6;exact ⟨by omega,g6,P7,m3,ya,((s4.trans s5).trans s6).less sp7,r7,(a4.trans ag4).mono fun i z=>(lK.mp z).elim id fun z=>kl _ (ku _ z),ry4.held s6 r4.fpOk fun _ z=>z.elim,hf m3 hk4⟩
      | true =>
        rw [if_pos rfl] at hk4;show (if true=true then _ else _);rw [if_pos rfl];refine ⟨g4,m3,P4,r4,B,kx,rB,hk4,fun x m4 g5 P5 Pv v H5 hk5 ag5 s6 rv r5 n5=>?_⟩;have ry5:=ry4.held s6 r4.fpOk fun _ z=>z.elim
        obtain ⟨g6,P6,s7,r6⟩:=r5.weaken hwf;obtain ⟨P7,r7,sp7⟩:=back r6;refine ⟨by rw [lJ,lQ];omega,g6,P7,m4,ya++[x],(((s4.trans s5).trans (s6.less fun _ z=>.inl z)).trans s7).less sp7,r7,?_,?_,hx x m4 hk5⟩
        · exact ((a4.trans ag4).trans ag5).mono fun i z=>(lK.mp z).elim (fun z=>(lK.mp z).elim id fun z=>kl _ (ku _ z)) fun z=>kl _ (kl _ z)
        · refine ((Reps.app ry5 (Reps.cons rv.z Reps.nil fun _ z=>z.elim) fun _ z=>z.elim).iff (Q:=nop) fun a=>⟨fun z=>z.elim,fun z=>z.elim id fun z=>z.elim id id⟩).held s7 r5.fpOk fun _ z=>z.elim
  · have ei:i=ds.length:=by omega
    subst ei;rw [List.drop_length] at e2;refine .inl ⟨(yl g2 H2 st).2 _ (kj _),fun p hp=>?_⟩;obtain ⟨Pv,s3,h1,r3,n3⟩:=AU.go s2 r2 (AU.lst r2.zd ry hp);have l1:Γl.length=Γ1.length:=(Dw hbl).trans lb;obtain ⟨P4,r4,sp4⟩:=r3.more (Γ':=Kj jx Γ1 Γl) (σ':=σ) (by unfold Kj;simp) (by rw [L2.blank_length]) fun i o e=>by
      obtain ⟨hi,e⟩:=rng_get e;split at e
      · rename_i z;split at e
        · rename_i z0;cases e;refine .inr ⟨rfl,?_⟩;obtain ⟨v,Px,ev,rx,_⟩:=r1.see (Az (beq_iff_eq.mp z0));have ji:i∉J:=fun w=>nJ i w (ki.mp z)
          have hl:i < m1.length:=by rw [r1.len.1,<- l1];exact hi
          refine ⟨m1.at i,v,?_,ev,(rx.z.held s2 r1.fpOk fun _ z=>z.elim).held (Step.same (P:=nop) (DT hp (.lst ys))) FpOk.nop fun _ _ z=>z⟩;have:=(AO J m1 t).2 i ji;have hl':i < (Aa J m1 t).length:=by rw [HA];exact hl
          rw [kZ hl',<- this];unfold M.at;rw [lB,kZ hl'];rfl
        · cases e
      · rename_i z;exact .inl ⟨Az e.symm,(JL jx σ i fun w=>z (ki.mpr w)).symm⟩
    exact q _ _ g2 P4 Pv _ _ (hn t ya e2) ((AO J m1 t).mono sub) (s3.less fun a z=>z.elim (fun z=>.inl (sp4 a z)) .inr) h1 r4 fun a z w=>n3 a (sp4 a z) w
def UH (src:Ev (List Dv)) (tg:Tg) (f:Ev Dv):Ev Dv:=fun R m k=>src R m fun ds m1=>FY ds ((BF (fun d=>tg Dv d m1 fun m2=>f Dv m2 fun x _=>some x) ds).bind fun xs=>k (.lst xs) m1)
def UI (src:Ev (List Dv)) (tg:Tg) (c:Ev Bool) (f:Ev Dv):Ev Dv:=fun R m k=>src R m fun ds m1=>FY ds ((Mw (fun d=>tg (Option Dv) d m1 fun m2=>c (Option Dv) m2 fun b m3=>if b=true then f (Option Dv) m3 fun x _=>some (some x) else some none) ds).bind fun xs=>k (.lst xs) m1)
def Ot (src:Ev (List Dv)) (tg:Tg) (J:List Nat) (f:Ev Dv):Ev Dv:=fun R m k=>src R m fun ds m1=>FY ds ((CW (fun d t=>tg (Dv×ED J) d (Aa J m1 t) fun m2=>f (Dv×ED J) m2 fun x m3=>some (x,AS J m3)) ds (AS J m1)).bind fun p=>k (.lst p.1) (Aa J m1 p.2))
def Os (src:Ev (List Dv)) (tg:Tg) (J:List Nat) (c:Ev Bool) (f:Ev Dv):Ev Dv:=fun R m k=>src R m fun ds m1=>FY ds ((Oz (fun d t=>tg (Option Dv×ED J) d (Aa J m1 t) fun m2=>c (Option Dv×ED J) m2 fun b m3=>if b=true then f (Option Dv×ED J) m3 fun x m4=>some (some x,AS J m4) else some (none,AS J m3)) ds (AS J m1)).bind fun p=>k (.lst p.1) (Aa J m1 p.2))
def Da:Ev Bool:=fun _ m k=>k true m
section
variable {K:W.Frag} {Γ Γ1 Γl Γt Γc Γf:Gm} {js jx jt jc jf J:List Nat} {g:TG} {ft:Tg} {c:Ev Bool} {f:Ev Dv} {src:Ev (List Dv)} {σ:St} {H:Hp} {Q:VK}
theorem LJ (ht:Nl K Γl Γt jt g ft) (hbl:BS Γl (MD jx Γ1)=true) (hwf:BS Γl Γf=true) (hwc:BS Γl Γt=true) (hsx:∀ i∈jt,i∈jx) (hJ:([]:List Nat)=Ax Γl (jt++([]++jf)))
    (h:tE K Γ 1 (Kj jx Γ1 Γl) (js++(jt++([]++jf))) (UH src ft f) σ H Q):Ey (tI K Γ Γ1 js src) jx g (tT K Γt Γt [] Da) (tE K Γt 0 Γf jf f) σ H Q:=by
  obtain ⟨g0,m,P,r,R,k,res,e,q⟩:=h;refine ⟨g0,m,P,r,R,_,res,e,fun ds m1 g1 P1 H1 I hk ag s r1 yl=>?_⟩;obtain ⟨hz,hk⟩:=Eh hk;obtain ⟨xs,e1,e2⟩:=bind_some' hk;refine El (c:=Da) ht hbl hwf hwc hsx hJ hz r1 yl (fun ds _ ya=>∃ yb,xs=ya++yb/\BF _ ds=some yb) ⟨xs,rfl,e1⟩ (fun t ya ⟨yb,h1,h2⟩=>?_) (fun d ds t ya ⟨yb,h1,h2⟩=>?_) fun d m' g' P' Pv v H' hk ag' s'=>q d m' g' P' Pv v H' hk (ag.trans ag') (s.trans s')
  · cases h2;rw [mC] at h1;subst h1;exact e2
  · obtain ⟨x,h3,h4⟩:=bind_some' h2;obtain ⟨yc,h5,h6⟩:=bind_some' h4;cases h6;exact ⟨Dv,fun x _=>some x,fun _=>none,x,h3,(fun y m' hk=>by cases hk;exact ⟨yc,by rw [h1,lh];rfl,h5⟩),fun m' hk=>by cases hk⟩
theorem LL (ht:Nl K Γl Γt jt g ft) (hbl:BS Γl (MD jx Γ1)=true) (hwf:BS Γl Γf=true) (hwc:BS Γl Γc=true) (hsx:∀ i∈jt,i∈jx) (hJ:([]:List Nat)=Ax Γl (jt++(jc++jf)))
    (h:tE K Γ 1 (Kj jx Γ1 Γl) (js++(jt++(jc++jf))) (UI src ft c f) σ H Q):Ey (tI K Γ Γ1 js src) jx g (tT K Γt Γc jc c) (tE K Γc 0 Γf jf f) σ H Q:=by
  obtain ⟨g0,m,P,r,R,k,res,e,q⟩:=h;refine ⟨g0,m,P,r,R,_,res,e,fun ds m1 g1 P1 H1 I hk ag s r1 yl=>?_⟩;obtain ⟨hz,hk⟩:=Eh hk;obtain ⟨xs,e1,e2⟩:=bind_some' hk;refine El ht hbl hwf hwc hsx hJ hz r1 yl (fun ds _ ya=>∃ yb,xs=ya++yb/\Mw _ ds=some yb) ⟨xs,rfl,e1⟩ (fun t ya ⟨yb,h1,h2⟩=>?_) (fun d ds t ya ⟨yb,h1,h2⟩=>?_) fun d m' g' P' Pv v H' hk ag' s'=>q d m' g' P' Pv v H' hk (ag.trans ag') (s.trans s')
  · cases h2;rw [mC] at h1;subst h1;exact e2
  · obtain ⟨x,h3,h4⟩:=bind_some' h2;obtain ⟨yc,h5,h6⟩:=bind_some' h4;cases h6;refine ⟨Option Dv,fun x _=>some (some x),fun _=>some none,x,h3,(fun y m' hk=>?_),fun m' hk=>?_⟩
    · cases hk;exact ⟨yc,by rw [h1,lh];rfl,h5⟩
    · cases hk;exact ⟨yc,h1,h5⟩
theorem JI (ht:Nl K Γl Γt jt g ft) (hbl:BS Γl (MD jx Γ1)=true) (hwf:BS Γl Γf=true) (hwc:BS Γl Γt=true) (hsx:∀ i∈jt,i∈jx) (hJ:J=Ax Γl (jt++([]++jf)))
    (h:tE K Γ 1 (Kj jx Γ1 Γl) (js++(jt++([]++jf))) (Ot src ft J f) σ H Q):Ey (tI K Γ Γ1 js src) jx g (tT K Γt Γt [] Da) (tE K Γt 0 Γf jf f) σ H Q:=by
  obtain ⟨g0,m,P,r,R,k,res,e,q⟩:=h;refine ⟨g0,m,P,r,R,_,res,e,fun ds m1 g1 P1 H1 I hk ag s r1 yl=>?_⟩;obtain ⟨hz,hk⟩:=Eh hk;obtain ⟨p,e1,e2⟩:=bind_some' hk;refine El (c:=Da) ht hbl hwf hwc hsx hJ hz r1 yl (fun ds t ya=>∃ yb,p.1=ya++yb/\CW _ ds t=some (yb,p.2)) ⟨p.1,rfl,e1⟩ (fun t ya ⟨yb,h1,h2⟩=>?_) (fun d ds t ya ⟨yb,h1,h2⟩=>?_) fun d m' g' P' Pv v H' hk ag' s'=>q d m' g' P' Pv v H' hk (ag.trans ag') (s.trans s')
  · simp only [CW,Option.some.injEq,Prod.mk.injEq] at h2;obtain ⟨rfl,rfl⟩:=h2;rw [mC] at h1;rw [<- h1];exact e2
  · obtain ⟨x,h3,h4⟩:=bind_some' h2;obtain ⟨yc,h5,h6⟩:=bind_some' h4;simp only [Option.some.injEq,Prod.mk.injEq] at h6;obtain ⟨rfl,h7⟩:=h6;refine ⟨_,fun x m3=>some (x,AS J m3),fun _=>none,x,h3,(fun y m' hk=>?_),fun m' hk=>by cases hk⟩;cases hk;exact ⟨yc.1,by rw [h1,lh];rfl,by rw [<- h7];exact h5⟩
theorem JH (ht:Nl K Γl Γt jt g ft) (hbl:BS Γl (MD jx Γ1)=true) (hwf:BS Γl Γf=true) (hwc:BS Γl Γc=true) (hsx:∀ i∈jt,i∈jx) (hJ:J=Ax Γl (jt++(jc++jf)))
    (h:tE K Γ 1 (Kj jx Γ1 Γl) (js++(jt++(jc++jf))) (Os src ft J c f) σ H Q):Ey (tI K Γ Γ1 js src) jx g (tT K Γt Γc jc c) (tE K Γc 0 Γf jf f) σ H Q:=by
  obtain ⟨g0,m,P,r,R,k,res,e,q⟩:=h;refine ⟨g0,m,P,r,R,_,res,e,fun ds m1 g1 P1 H1 I hk ag s r1 yl=>?_⟩;obtain ⟨hz,hk⟩:=Eh hk;obtain ⟨p,e1,e2⟩:=bind_some' hk;refine El ht hbl hwf hwc hsx hJ hz r1 yl (fun ds t ya=>∃ yb,p.1=ya++yb/\Oz _ ds t=some (yb,p.2)) ⟨p.1,rfl,e1⟩ (fun t ya ⟨yb,h1,h2⟩=>?_) (fun d ds t ya ⟨yb,h1,h2⟩=>?_) fun d m' g' P' Pv v H' hk ag' s'=>q d m' g' P' Pv v H' hk (ag.trans ag') (s.trans s')
  · simp only [Oz,Option.some.injEq,Prod.mk.injEq] at h2;obtain ⟨rfl,rfl⟩:=h2;rw [mC] at h1;rw [<- h1];exact e2
  · obtain ⟨x,h3,h4⟩:=bind_some' h2;obtain ⟨yc,h5,h6⟩:=bind_some' h4;simp only [Option.some.injEq,Prod.mk.injEq] at h6;obtain ⟨rfl,h7⟩:=h6;refine ⟨_,fun x m4=>some (some x,AS J m4),fun m3=>some (none,AS J m3),x,h3,(fun y m' hk=>?_),fun m' hk=>?_⟩
    · cases hk;exact ⟨yc.1,by rw [h1,lh];rfl,by rw [<- h7];exact h5⟩
    · cases hk;exact ⟨yc.1,h1,by rw [<- h7];exact h5⟩
end
end R
namespace L2
open PySem PySem.Spec PyProof.Rows
theorem Er {a b:Nat} (h:a≠b):@Ne Addr a b:=h
def IJ (h:Heap) (it l:Addr) (i:Nat):Bool->Prop
 | false=>h.IsListIter it l i
 | true=>h.IsTupleIter it l i
def IK (h:Heap) (l:Addr) (xs:Array Value):Bool->Prop
 | false=>h.IsList l xs
 | true=>h.IsTuple l xs
noncomputable def Og (l:Addr):Bool->Obj
 | false=>{ cls:=.type "list_iterator", data:=.fields #[.ref l,.int 0 0] }
 | true=>{ cls:=.type "tuple_iterator", data:=.fields #[.ref l,.int 0 0] }
theorem IJ.at {h h':Heap} {it l:Addr} {i:Nat} {b:Bool} (x:IJ h it l i b) (k:∀ o,h.get? it=some o->h'.get? it=some o):IJ h' it l i b:=by
 cases b with
 | false=>obtain ⟨o,e,r⟩:=x;exact ⟨o,k o e,r⟩
 | true=>obtain ⟨o,e,r⟩:=x;exact ⟨o,k o e,r⟩
theorem IK.at {h h':Heap} {l:Addr} {xs:Array Value} {b:Bool} (x:IK h l xs b) (k:∀ o,h.get? l=some o->h'.get? l=some o):IK h' l xs b:=by
 cases b with
 | false=>obtain ⟨o,e,r⟩:=x;exact ⟨o,k o e,r⟩
 | true=>obtain ⟨o,e,r⟩:=x;exact ⟨o,k o e,r⟩
theorem IJ.obj {h:Heap} {it l:Addr} {i:Nat} {b:Bool} (x:IJ h it l i b):∃ o,h.get? it=some o/\∀ v,o.data≠.cell v:=by
 cases b with
 | false=>obtain ⟨o,e,c,d⟩:=x;exact ⟨o,e,fun v z=>by rw [d] at z;cases z⟩
 | true=>obtain ⟨o,e,c,d⟩:=x;exact ⟨o,e,fun v z=>by rw [d] at z;cases z⟩
theorem IJ.new {h:Heap} {l:Addr} {b:Bool}:IJ (h.push (Og l b)) h.objs.size l 0 b:=by
 cases b with
 | false=>exact ⟨_,kz _ rfl,rfl,rfl⟩
 | true=>exact ⟨_,kz _ rfl,rfl,rfl⟩
section
variable {prog:Program} {w:World} {A:Around} {E:Value->Shared->Prop} {s:Shared}
theorem Ic {l:Addr} {xs:Array Value} {b:Bool} {Q:Value->Shared->Prop} (hl:IK s.heap l xs b) (hQ:Q (.ref s.heap.objs.size) { s with heap:=s.heap.push (Og l b) }):wpAny (model prog w) A (pyIter (.ref l)) Q E s:=by
 cases b with
 | false=>exact wpAny_pyIter_list hl hQ
 | true=>exact wpAny_pyIter_tuple hl hQ
theorem JZ {it l:Addr} {i:Nat} {items:Array Value} {x:Value} {b:Bool} {Q:Value->Shared->Prop} (hit:IJ s.heap it l i b) (hl:IK s.heap l items b) (hx:items[i]?=some x)
    (hQ:∀ h',IJ h' it l (i+1) b->Heap.SameBut it s.heap h'->Q x { s with heap:=h' }):wpAny (model prog w) A (Builtin.SmallTypes.nextOf (.ref it)) Q E s:=by
  cases b with
  | false=>exact wpAny_nextOf_list_item hit hl hx hQ
  | true =>
    obtain ⟨o,ho,hc,hd⟩:=id hit;obtain ⟨ol,hol,_,nl,hdl⟩:=hl
    have ht:s.TypeIs (.ref it) "tuple_iterator" := ⟨o,ho,hc⟩
    unfold Builtin.SmallTypes.nextOf
    refine wpAny_bind (wpAny_callSpecial?_slot (name:=Str.ofString "__next__") ht F.slot_tuple_iterator_next
      (wpAny_call_entry F.slot_tuple_iterator_next ht F.entry_tuple_iterator_next ?_ (F.args_tuple_iterator_next_1 _)))
    show wpAny _ _ (field (.ref it) 0 >>= _) _ _ s;refine wpAny_bind (wpAny_field ho hd (x:=.ref l) rfl ?_);show wpAny _ _ (if (Value.ref l == Value.none)=true then _ else _) _ _ s;rw [if_neg (show ¬ ((Value.ref l == Value.none)=true) from kr)];show wpAny _ _ (field (.ref it) 1 >>= _) _ _ s;refine wpAny_bind (wpAny_field ho hd (x:=.int i 0) rfl ?_);show wpAny _ _ (seqItems? (.ref l) >>= _) _ _ s;refine wpAny_bind (wpAny_seqItems hol hdl ?_);simp only [Int.toNat_natCast,hx];refine wpAny_bind (wpAny_setField ho hd (by simp) (wpAny_pure ⟨x,rfl,wpAny_pure (hQ _ ?_ (Heap.SameBut.update ..))⟩));exact ⟨_,mF _ ho (Obj.isFreed_of_fields (Obj.data_mapFields hd _)),(Obj.cls_mapFields ..).trans hc,by
      rw [Obj.data_mapFields hd];simp [rawInt]⟩
theorem SL {it l:Addr} {i:Nat} {items:Array Value} {b:Bool} {Q:Value->Shared->Prop} (hh:A.handled=none) (hit:IJ s.heap it l i b) (hl:IK s.heap l items b) (hx:items[i]?=none)
    (hE:∀ h' e,Heap.ExtBut it s.heap h'->(∃ o,h'.get? e=some o/\o.cls=.type "StopIteration")->E (.ref e) { s with heap:=h' }):wpAny (model prog w) A (Builtin.SmallTypes.nextOf (.ref it)) Q E s:=by
  cases b with
  | false=>exact wpAny_nextOf_list_end hh hit hl hx hE
  | true =>
    obtain ⟨o,ho,hc,hd⟩:=id hit;obtain ⟨ol,hol,_,nl,hdl⟩:=hl
    have ht:s.TypeIs (.ref it) "tuple_iterator" := ⟨o,ho,hc⟩
    unfold Builtin.SmallTypes.nextOf
    refine wpAny_bind (wpAny_callSpecial?_slot (name:=Str.ofString "__next__") ht F.slot_tuple_iterator_next
      (wpAny_call_entry F.slot_tuple_iterator_next ht F.entry_tuple_iterator_next ?_ (F.args_tuple_iterator_next_1 _)))
    show wpAny _ _ (field (.ref it) 0 >>= _) _ _ s;refine wpAny_bind (wpAny_field ho hd (x:=.ref l) rfl ?_);show wpAny _ _ (if (Value.ref l == Value.none)=true then _ else _) _ _ s;rw [if_neg (show ¬ ((Value.ref l == Value.none)=true) from kr)];show wpAny _ _ (field (.ref it) 1 >>= _) _ _ s;refine wpAny_bind (wpAny_field ho hd (x:=.int i 0) rfl ?_);show wpAny _ _ (seqItems? (.ref l) >>= _) _ _ s;refine wpAny_bind (wpAny_seqItems hol hdl ?_);simp only [Int.toNat_natCast,hx];refine wpAny_bind (wpAny_rule (wpAny_bind (wpAny_setField ho hd (by simp) ?_)))
    show wpAny _ _ (newExc (.type "StopIteration") [] >>= _) _ _ _
    refine wpAny_bind ?_;simp only [newExc,newTuple];refine wpAny_bind (wpAny_newObj_type ?_ (by size_fits));refine wpAny_bind (m:=firstArgMember _ _) (wpAny_of_eq (a:=Value.none) (by first | rfl | (simp only [firstArgMember];rfl)) ?_);refine wpAny_newObj_type ?_ (by size_fits);simp only [raiseNew];refine wpAny_bind (wpAny_handled ?_)
    first | rw [show A.in1.handled=none from hh] | rw [hh]
    refine wpAny_bind (wpAny_pure (wpAny_throw ?_));exact hE _ _ (((Heap.SameBut.update ..).extBut.push _).push _) ⟨_,kz _ rfl,rfl⟩
end
def ML (K:W.Frag) (H:Hp) (a:Addr) (xs:List V):Bool->Prop
 | false=>CZ K H a xs
 | true=>DG K H a xs
section
variable {X:Cx} {pins:List (Addr×Obj)} {σ:St} {H:Hp} {s:Shared} {a:Addr} {xs ys:List V} {b:Bool}
theorem Inv.sqB (I:Inv X pins σ H s) (h:ML X.K H a xs b):∃ its:List Value,AD xs its/\IK s.heap a its.toArray b/\a < s.heap.objs.size:=by
 cases b with
 | false =>
  obtain ⟨its,r,p,_⟩:=I.list h;exact ⟨its,r,p.isList,by obtain ⟨o,n,e,_⟩:=p;exact lA e⟩
 | true =>
  obtain ⟨its,r,p,_⟩:=I.tuple h;exact ⟨its,r,p,by obtain ⟨o,e,_⟩:=p;exact lA e⟩
theorem Inv.sqB_inj (I:Inv X pins σ H s) (h:ML X.K H a xs b) (h':ML X.K H a ys b):xs=ys:=by
 cases b with
 | false=>exact I.list_inj h h'
 | true=>exact I.tuple_inj h h'
end
abbrev PV (h:Heap) (T:Addr) (v1 v2:Value):Prop:=h.get? T=some { cls:=.type "tuple", data:=.seq #[v1,v2] }
section
variable {prog:Program} {w:World} {A:Around} {E:Value->Shared->Prop} {s:Shared}
theorem Rg {T:Addr} {v1 v2 x:Value} {Q:Unit->Shared->Prop} (hT:PV s.heap T v1 v2) (h:∀ h',PV h' T x v2->Heap.SameBut T s.heap h'->Q () { s with heap:=h' }):wpAny (model prog w) A (updateSeq T (·.setIfInBounds 0 x)) Q E s:=by
 refine wpAny_updateSeq hT rfl (h _ ?_ (Heap.SameBut.update ..));show Heap.get? _ _=_;rw [mF _ hT rfl];simp [Obj.mapSeq]
theorem Zb {T:Addr} {v1 v2 x:Value} {Q:Unit->Shared->Prop} (hT:PV s.heap T v1 v2) (h:∀ h',PV h' T v1 x->Heap.SameBut T s.heap h'->Q () { s with heap:=h' }):wpAny (model prog w) A (updateSeq T (·.setIfInBounds 1 x)) Q E s:=by
 refine wpAny_updateSeq hT rfl (h _ ?_ (Heap.SameBut.update ..));show Heap.get? _ _=_;rw [mF _ hT rfl];simp [Obj.mapSeq]
structure Zst2 (h:Heap) (I:Nat) (l1 l2:Nat) (b1 b2:Bool) (i:Nat) (f0:Value):Prop where
 z:IsZip h (I+4) (I+2) (I+3) f0
 ti:PV h (I+2) (.ref I) (.ref (I+1))
 to:∃ v1 v2,PV h (I+3) v1 v2
 s1:IJ h I l1 i b1
 s2:IJ h (I+1) l2 i b2
theorem Zst2.at {h h':Heap} {I l1 l2:Nat} {b1 b2:Bool} {i:Nat} {f0:Value} (x:Zst2 h I l1 l2 b1 b2 i f0) (k:∀ (c:Nat) o,I<=c->c < I+5->h.get? c=some o->h'.get? c=some o):Zst2 h' I l1 l2 b1 b2 i f0:=
 ⟨k _ _ (by omega) (by omega) x.z,k _ _ (by omega) (by omega) x.ti,let ⟨v1,v2,e⟩:=x.to;⟨v1,v2,k _ _ (by omega) (by omega) e⟩,x.s1.at fun o e=>k _ o (by omega) (by omega) e,x.s2.at fun o e=>k _ o (by omega) (by omega) e⟩
theorem PX {I l1 l2:Nat} {b1 b2:Bool} {i:Nat} {xs1 xs2:Array Value} {y1 y2:Value} {Q:Value->Shared->Prop} (hz:Zst2 s.heap I l1 l2 b1 b2 i .none) (hl1:IK s.heap l1 xs1 b1) (lt1:l1 < I) (hl2:IK s.heap l2 xs2 b2) (lt2:l2 < I) (hx1:xs1[i]?=some y1) (hx2:xs2[i]?=some y2)
    (hQ:∀ h',Zst2 h' I l1 l2 b1 b2 (i+1) (rawInt s.heap.objs.size)->PV h' s.heap.objs.size y1 y2->h'.objs.size=s.heap.objs.size+1->(∀ (c:Nat) o,(c < I\/I+5<=c)->s.heap.get? c=some o->h'.get? c=some o)->Q (.ref s.heap.objs.size) { s with heap:=h' }) :
    wpAny (model prog w) A (Builtin.«zip.__next__» ⟨[.ref (I+4)],[]⟩) (fun fin s'=>∃ v,fin=.done (.ret v)/\Q v s') E s:=by
  obtain ⟨z0,ti0,⟨v1,v2,to0⟩,s10,s20⟩:=hz;show wpAny _ _ (field (.ref (I+4)) 2 >>= _) _ _ _;refine wpAny_bind (wpAny_field z0 rfl (x:=.bool false) rfl ?_);show wpAny _ _ (field (.ref (I+4)) 3 >>= _) _ _ _;refine wpAny_bind (wpAny_field z0 rfl (x:=.ref (I+2)) rfl ?_);refine wpAny_bind (wpAny_seqItems ti0 rfl ?_);show wpAny _ _ (Builtin.SmallTypes.ownedTupleIsFree (.ref (I+4)) >>= _) _ _ _;refine wpAny_bind ?_;unfold Builtin.SmallTypes.ownedTupleIsFree;refine wpAny_bind (wpAny_field z0 rfl (x:=.none) rfl (wpAny_pure ?_));simp only [if_true];refine wpAny_bind (wpAny_rule ?_);refine wpAny_bind (wpAny_field z0 rfl (x:=.ref (I+3)) rfl ?_);refine wpAny_bind (wpAny_setField_rec z0 (by simp) fun h₁ hz₁ hs₁=>?_);replace hz₁:IsZip h₁ (I+4) (I+2) (I+3) .ellipsis:=hz₁;refine wpAny_bind ?_;simp only [List.zipIdx_cons,List.zipIdx_nil,nB,nh];have g0:∀ (c:Nat) o,c≠(I+4)->s.heap.get? c=some o->h₁.get? c=some o:=fun c o c1 e=>hs₁.extBut _ _ c1 e
  have k0:∀ (c:Nat) o,c≠(I+4)->c≠(I+3)->(c < I\/I<=c)->s.heap.get? c=some o->h₁.get? c=some o:=fun c o c1 _ _ e=>g0 c o c1 e
  have to1:PV h₁ (I+3) v1 v2:=g0 _ _ (by omega) to0;refine wpAny_bind (wpAny_bind (wpAny_onRaise ?_));show wpAny _ _ (Builtin.SmallTypes.nextOf (.ref I) >>= _) _ _ _;refine wpAny_bind (JZ (s10.at fun o e=>k0 _ o (by omega) (by omega) (by omega) e) (hl1.at fun o e=>k0 _ o (by omega) (by omega) (by omega) e) hx1 fun p1 si1 sp1=>wpAny_pure ?_);have u1:PV p1 (I+3) v1 v2:=sp1.extBut _ _ (Er (by omega)) to1;refine wpAny_bind (wpAny_seqItems u1 rfl ?_);refine wpAny_bind (Rg u1 fun q1 to2 sq1=>?_);have k1:∀ (c:Nat) o,c≠(I+4)->c≠(I+3)->(c < I\/I+1<=c)->s.heap.get? c=some o->q1.get? c=some o:=fun c o c1 c2 c3 e=>sq1.extBut _ _ c2 (sp1.extBut _ _ (Er (by omega)) (k0 c o c1 c2 (by omega) e))
  have zz1:IsZip q1 (I+4) (I+2) (I+3) .ellipsis:=sq1.extBut _ _ (Er (by omega)) (sp1.extBut _ _ (Er (by omega)) hz₁);have w1_1:IJ q1 I l1 (i+1) b1:=si1.at fun o e=>sq1.extBut _ _ (Er (by omega)) e
  refine wpAny_bind (wpAny_letGo (wpAny_pure ?_));refine wpAny_bind (wpAny_bind (wpAny_onRaise ?_));show wpAny _ _ (Builtin.SmallTypes.nextOf (.ref (I+1)) >>= _) _ _ _;refine wpAny_bind (JZ (s20.at fun o e=>k1 _ o (by omega) (by omega) (by omega) e) (hl2.at fun o e=>k1 _ o (by omega) (by omega) (by omega) e) hx2 fun p2 si2 sp2=>wpAny_pure ?_);have u2:PV p2 (I+3) y1 v2:=sp2.extBut _ _ (Er (by omega)) to2;refine wpAny_bind (wpAny_seqItems u2 rfl ?_);refine wpAny_bind (Zb u2 fun q2 to3 sq2=>?_);have k2:∀ (c:Nat) o,c≠(I+4)->c≠(I+3)->(c < I\/I+2<=c)->s.heap.get? c=some o->q2.get? c=some o:=fun c o c1 c2 c3 e=>sq2.extBut _ _ c2 (sp2.extBut _ _ (Er (by omega)) (k1 c o c1 c2 (by omega) e))
  have zz2:IsZip q2 (I+4) (I+2) (I+3) .ellipsis:=sq2.extBut _ _ (Er (by omega)) (sp2.extBut _ _ (Er (by omega)) zz1);have w2_2:IJ q2 (I+1) l2 (i+1) b2:=si2.at fun o e=>sq2.extBut _ _ (Er (by omega)) e
  have w1_2:IJ q2 I l1 (i+1) b1:=w1_1.at fun o e=>sq2.extBut _ _ (Er (by omega)) (sp2.extBut _ _ (Er (by omega)) e)
  refine wpAny_bind (wpAny_letGo (wpAny_pure (wpAny_pure ?_)));refine wpAny_bind (wpAny_seqItems to3 rfl ?_);refine wpAny_bind (wpAny_newTuple ?_);have hsz:q2.objs.size=s.heap.objs.size:=by rw [sq2.1,sp2.1,sq1.1,sp1.1,hs₁.1]
  have zlt:(I+4) < q2.objs.size:=lA zz2;show wpAny _ _ (Builtin.SmallTypes.ownedTupleHandOut (.ref (I+4)) (.ref q2.objs.size) >>= _) _ _ _;refine wpAny_bind ?_;unfold Builtin.SmallTypes.ownedTupleHandOut
  have z6:IsZip (q2.push { cls:=.type "tuple", data:=.seq #[y1,y2] }) (I+4) (I+2) (I+3) .ellipsis:=kY _ zz2
  refine wpAny_bind (wpAny_setField_rec z6 (by simp) fun h₇ hz₇ hs₇=>?_);replace hz₇:IsZip h₇ (I+4) (I+2) (I+3) (rawInt q2.objs.size):=hz₇;refine wpAny_setField_rec hz₇ (by simp) fun h₈ hz₈ hs₈=>?_
  replace hz₈:IsZip h₈ (I+4) (I+2) (I+3) (rawInt q2.objs.size):=hz₈;have up:∀ (c:Nat) o,c≠(I+4)->q2.get? c=some o->h₈.get? c=some o:=fun c o c1 e=>hs₈.extBut _ _ c1 (hs₇.extBut _ _ c1 (kY _ e))
  have hT₈:PV h₈ q2.objs.size y1 y2:=hs₈.extBut _ _ (Er (by omega)) (hs₇.extBut _ _ (Er (by omega)) (kz _ rfl));have hz8:h₈.objs.size=q2.objs.size+1:=by rw [hs₈.1,hs₇.1,mE]
  rw [hsz] at hz₈ hT₈ hz8;refine wpAny_pure ⟨_,rfl,?_⟩;show Q (.ref q2.objs.size) _;rw [hsz];exact hQ h₈ ⟨hz₈,up _ _ (by omega) (k2 _ _ (by omega) (by omega) (by omega) ti0),⟨y1,y2,up _ _ (by omega) to3⟩,w1_2.at fun o e=>up _ o (by omega) e,w2_2.at fun o e=>up _ o (by omega) e⟩ hT₈ hz8 fun c o hc e=>up c o (by omega) (k2 c o (by omega) (by omega) (by omega) e)
theorem Rc {I l1 l2:Nat} {b1 b2:Bool} {i:Nat} {xs1 xs2:Array Value} {Q:Fin->Shared->Prop} (hh:A.handled=none) (hz:Zst2 s.heap I l1 l2 b1 b2 i .none) (hl1:IK s.heap l1 xs1 b1) (lt1:l1 < I) (hl2:IK s.heap l2 xs2 b2) (lt2:l2 < I) (hend:xs1[i]?=none\/xs2[i]?=none)
    (hE:∀ h' e,(∀ (c:Nat) o,(c < I\/I+5<=c)->s.heap.get? c=some o->h'.get? c=some o)->(∃ o,h'.get? e=some o/\o.cls=.type "StopIteration")->E (.ref e) { s with heap:=h' }) :
    wpAny (model prog w) A (Builtin.«zip.__next__» ⟨[.ref (I+4)],[]⟩) Q E s:=by
  obtain ⟨z0,ti0,⟨v1,v2,to0⟩,s10,s20⟩:=hz;show wpAny _ _ (field (.ref (I+4)) 2 >>= _) _ _ _;refine wpAny_bind (wpAny_field z0 rfl (x:=.bool false) rfl ?_);show wpAny _ _ (field (.ref (I+4)) 3 >>= _) _ _ _;refine wpAny_bind (wpAny_field z0 rfl (x:=.ref (I+2)) rfl ?_);refine wpAny_bind (wpAny_seqItems ti0 rfl ?_);show wpAny _ _ (Builtin.SmallTypes.ownedTupleIsFree (.ref (I+4)) >>= _) _ _ _;refine wpAny_bind ?_;unfold Builtin.SmallTypes.ownedTupleIsFree;refine wpAny_bind (wpAny_field z0 rfl (x:=.none) rfl (wpAny_pure ?_));simp only [if_true];refine wpAny_bind (wpAny_rule ?_);refine wpAny_bind (wpAny_field z0 rfl (x:=.ref (I+3)) rfl ?_);refine wpAny_bind (wpAny_setField_rec z0 (by simp) fun h₁ hz₁ hs₁=>?_);replace hz₁:IsZip h₁ (I+4) (I+2) (I+3) .ellipsis:=hz₁;refine wpAny_bind ?_;simp only [List.zipIdx_cons,List.zipIdx_nil,nB,nh];have g0:∀ (c:Nat) o,c≠(I+4)->s.heap.get? c=some o->h₁.get? c=some o:=fun c o c1 e=>hs₁.extBut _ _ c1 e
  have k0:∀ (c:Nat) o,c≠(I+4)->c≠(I+3)->(c < I\/I<=c)->s.heap.get? c=some o->h₁.get? c=some o:=fun c o c1 _ _ e=>g0 c o c1 e
  have to1:PV h₁ (I+3) v1 v2:=g0 _ _ (by omega) to0;have zz0:IsZip h₁ (I+4) (I+2) (I+3) .ellipsis:=hz₁;refine wpAny_bind (wpAny_bind (wpAny_onRaise ?_));show wpAny _ _ (Builtin.SmallTypes.nextOf (.ref I) >>= _) _ _ _;cases hx1:xs1[i]? with
  | none =>
    refine wpAny_bind (SL hh (s10.at fun o e=>k0 _ o (by omega) (by omega) (by omega) e) (hl1.at fun o e=>k0 _ o (by omega) (by omega) (by omega) e) hx1 fun h₂ e hs₂ he=>?_);obtain ⟨oe,hoe,hce⟩:=he;have hz₂:IsZip h₂ (I+4) (I+2) (I+3) .ellipsis:=hs₂ _ _ (Er (by omega)) zz0;have hez:e≠(I+4):=fun x=>by subst x;rw [hz₂] at hoe;cases hoe;simp at hce
    exact wpAny_setField_rec hz₂ (by simp) fun h₃ _ hs₃=>hE h₃ e (fun c o hc x=>hs₃.extBut _ _ (Er (by omega)) (hs₂ _ _ (Er (by omega)) (k0 c o (by omega) (by omega) (by omega) x))) ⟨oe,hs₃.extBut _ _ hez hoe,hce⟩
  | some y1 =>
    refine wpAny_bind (JZ (s10.at fun o e=>k0 _ o (by omega) (by omega) (by omega) e) (hl1.at fun o e=>k0 _ o (by omega) (by omega) (by omega) e) hx1 fun p1 si1 sp1=>wpAny_pure ?_);have u1:PV p1 (I+3) v1 v2:=sp1.extBut _ _ (Er (by omega)) to1;refine wpAny_bind (wpAny_seqItems u1 rfl ?_);refine wpAny_bind (Rg u1 fun q1 to2 sq1=>?_);have k1:∀ (c:Nat) o,c≠(I+4)->c≠(I+3)->(c < I\/I+1<=c)->s.heap.get? c=some o->q1.get? c=some o:=fun c o c1 c2 c3 e=>sq1.extBut _ _ c2 (sp1.extBut _ _ (Er (by omega)) (k0 c o c1 c2 (by omega) e))
    have zz1:IsZip q1 (I+4) (I+2) (I+3) .ellipsis:=sq1.extBut _ _ (Er (by omega)) (sp1.extBut _ _ (Er (by omega)) zz0);refine wpAny_bind (wpAny_letGo (wpAny_pure ?_));refine wpAny_bind (wpAny_bind (wpAny_onRaise ?_));show wpAny _ _ (Builtin.SmallTypes.nextOf (.ref (I+1)) >>= _) _ _ _;cases hx2:xs2[i]? with
    | none =>
      refine wpAny_bind (SL hh (s20.at fun o e=>k1 _ o (by omega) (by omega) (by omega) e) (hl2.at fun o e=>k1 _ o (by omega) (by omega) (by omega) e) hx2 fun h₂ e hs₂ he=>?_);obtain ⟨oe,hoe,hce⟩:=he;have hz₂:IsZip h₂ (I+4) (I+2) (I+3) .ellipsis:=hs₂ _ _ (Er (by omega)) zz1;have hez:e≠(I+4):=fun x=>by subst x;rw [hz₂] at hoe;cases hoe;simp at hce
      exact wpAny_setField_rec hz₂ (by simp) fun h₃ _ hs₃=>hE h₃ e (fun c o hc x=>hs₃.extBut _ _ (Er (by omega)) (hs₂ _ _ (Er (by omega)) (k1 c o (by omega) (by omega) (by omega) x))) ⟨oe,hs₃.extBut _ _ hez hoe,hce⟩
    | some y2 =>
      simp [hx1,hx2] at hend
theorem FQ {I l1 l2:Nat} {b1 b2:Bool} {i:Nat} {xs1 xs2:Array Value} {y1 y2:Value} {Q:Option Value->Shared->Prop} (hz:Zst2 s.heap I l1 l2 b1 b2 i .none) (hl1:IK s.heap l1 xs1 b1) (lt1:l1 < I) (hl2:IK s.heap l2 xs2 b2) (lt2:l2 < I) (hx1:xs1[i]?=some y1) (hx2:xs2[i]?=some y2)
    (hQ:∀ h',Zst2 h' I l1 l2 b1 b2 (i+1) (rawInt s.heap.objs.size)->PV h' s.heap.objs.size y1 y2->h'.objs.size=s.heap.objs.size+1->(∀ (c:Nat) o,(c < I\/I+5<=c)->s.heap.get? c=some o->h'.get? c=some o)->Q (some (.ref s.heap.objs.size)) { s with heap:=h' }) :
    wpAny (model prog w) A (pyNext (.ref (I+4))) Q E s:=by
  have hT:s.TypeIs (.ref (I+4)) "zip" := ⟨_,hz.z,rfl⟩
  unfold pyNext
  exact wpAny_bind (wpAny_attempt (wpAny_callSpecial?_slot (name:=Str.ofString "__next__") hT F.slot_zip_next
    (wpAny_call_entry F.slot_zip_next hT F.entry_zip_next (PX hz hl1 lt1 hl2 lt2 hx1 hx2 fun h' a1 a2 a3 a4=>wpAny_pure (hQ h' a1 a2 a3 a4)) (F.args_zip_next_1 _))))
theorem GA {I l1 l2:Nat} {b1 b2:Bool} {i:Nat} {xs1 xs2:Array Value} {Q:Option Value->Shared->Prop} (hh:A.handled=none) (hz:Zst2 s.heap I l1 l2 b1 b2 i .none) (hl1:IK s.heap l1 xs1 b1) (lt1:l1 < I) (hl2:IK s.heap l2 xs2 b2) (lt2:l2 < I) (hend:xs1[i]?=none\/xs2[i]?=none)
    (hQ:∀ h',(∀ (c:Nat) o,(c < I\/I+5<=c)->s.heap.get? c=some o->h'.get? c=some o)->Q none { s with heap:=h' }) :
    wpAny (model prog w) A (pyNext (.ref (I+4))) Q E s:=by
  have hT:s.TypeIs (.ref (I+4)) "zip" := ⟨_,hz.z,rfl⟩
  unfold pyNext
  refine wpAny_bind (wpAny_attempt (wpAny_callSpecial?_slot (name:=Str.ofString "__next__") hT F.slot_zip_next
    (wpAny_call_entry F.slot_zip_next hT F.entry_zip_next (Rc hh hz hl1 lt1 hl2 lt2 hend fun h' e hk he=>?_) (F.args_zip_next_1 _))))
  obtain ⟨o,ho,hc⟩:=he
  refine wpAny_bind (wpAny_isInstance (T := "StopIteration") (b:=true) ⟨o,ho,hc⟩ isSubtype_stop ?_)
  exact wpAny_pure (hQ _ hk)
abbrev IR (h:Heap) (l1 l2:Nat) (b1 b2:Bool):Heap:=h.push (Og l1 b1)
abbrev Nw (h:Heap) (l1 l2:Nat) (b1 b2:Bool):Heap:=(IR h l1 l2 b1 b2).push (Og l2 b2)
abbrev Nv (h:Heap) (l1 l2:Nat) (b1 b2:Bool):Heap:=(Nw h l1 l2 b1 b2).push { cls:=.type "tuple", data:=.seq #[.ref h.objs.size,.ref (IR h l1 l2 b1 b2).objs.size] }
abbrev Nu (h:Heap) (l1 l2:Nat) (b1 b2:Bool):Heap:=(Nv h l1 l2 b1 b2).push { cls:=.type "tuple", data:=.seq #[.none,.none] }
abbrev GX (h:Heap) (l1 l2:Nat) (b1 b2:Bool):Heap:=(Nu h l1 l2 b1 b2).push { cls:=.type "zip", data:=.fields #[.none,.bool false,.bool false,.ref (Nw h l1 l2 b1 b2).objs.size,.ref (Nv h l1 l2 b1 b2).objs.size] }
theorem Mt (l1 l2:Nat) (b1 b2:Bool) (xs1 xs2:Array Value) :
    Meets (Builtin.«zip.__new__» ⟨[.type "zip", .ref l1,.ref l2],[]⟩) (fun _ R s=>IK s.heap l1 xs1 b1/\IK s.heap l2 xs2 b2 /\
      R (.ok (.ret (.ref (Nu s.heap l1 l2 b1 b2).objs.size))) { s with heap:=GX s.heap l1 l2 b1 b2 }):=
  .of_wp fun prog w A R s h=>by
    obtain ⟨hp,g,d,tk,os⟩:=s;obtain ⟨hl1,hl2,h⟩:=h;have hsub:=sub_zip;have hL1:IK (Shared.heap ⟨hp,g,d,tk,os⟩) l1 xs1 b1:=hl1.at fun o e=>e
    have hL2:IK (Shared.heap ⟨(IR hp l1 l2 b1 b2),g,d,tk,os⟩) l2 xs2 b2:=hl2.at fun o e=>kY _ e
    wp_walk using Ic hL1,Ic hL2
    exact ⟨_,rfl,h⟩
theorem Qt {l1 l2:Nat} {b1 b2:Bool} {xs1 xs2:Array Value} {Q:Value->Shared->Prop} (hl1:IK s.heap l1 xs1 b1) (hl2:IK s.heap l2 xs2 b2)
    (h:∀ h',Zst2 h' s.heap.objs.size l1 l2 b1 b2 0 .none->h'.objs.size=s.heap.objs.size+5->(∀ (c:Nat) o,s.heap.get? c=some o->h'.get? c=some o)->Q (.ref (s.heap.objs.size+4)) { s with heap:=h' }) :
    wpAny (model prog w) A (call (.type "zip") [.ref l1,.ref l2]) Q E s:=by
  refine callType_new F.called_zip (by decide) (F.typeCall_zip_2 _ _) (F.newCall_zip_2 _ _) (fun obj=>F.args_object_init_3 obj _ _) F.entry_zip_new (Mt l1 l2 b1 b2 xs1 xs2) ⟨hl1,hl2,?_⟩;have z1:(IR s.heap l1 l2 b1 b2).objs.size=s.heap.objs.size+1:=by exact mE ..
  have z2:(Nw s.heap l1 l2 b1 b2).objs.size=s.heap.objs.size+2:=by rw [mE,z1]
  have z3:(Nv s.heap l1 l2 b1 b2).objs.size=s.heap.objs.size+3:=by rw [mE,z2]
  have z4:(Nu s.heap l1 l2 b1 b2).objs.size=s.heap.objs.size+4:=by rw [mE,z3]
  have z5:(GX s.heap l1 l2 b1 b2).objs.size=s.heap.objs.size+5:=by rw [mE,z4]
  have gz:(GX s.heap l1 l2 b1 b2).get? (Nu s.heap l1 l2 b1 b2).objs.size=some _:=kz _ rfl;have gto:(GX s.heap l1 l2 b1 b2).get? (Nv s.heap l1 l2 b1 b2).objs.size=some _:=(kY _ (kz _ rfl));have gti:(GX s.heap l1 l2 b1 b2).get? (Nw s.heap l1 l2 b1 b2).objs.size=some _:=(kY _ (kY _ (kz _ rfl)));have gs1:IJ (GX s.heap l1 l2 b1 b2) s.heap.objs.size l1 0 b1:=IJ.at (IJ.new (h:=s.heap)) fun o e=>(kY _ (kY _ (kY _ (kY _ e))))
  have gs2:IJ (GX s.heap l1 l2 b1 b2) (IR s.heap l1 l2 b1 b2).objs.size l2 0 b2:=IJ.at (IJ.new (h:=(IR s.heap l1 l2 b1 b2))) fun o e=>(kY _ (kY _ (kY _ e)))
  show _/\_;rw [z2,z3,z4] at gz;rw [z3] at gto;rw [z1,z2] at gti;rw [z1] at gs2;rw [z4];exact ⟨⟨_,gz,rfl⟩,h _ ⟨gz,gti,⟨_,_,gto⟩,gs1,gs2⟩ z5 fun c o x=>(kY _ (kY _ (kY _ (kY _ (kY _ x)))))⟩
end
theorem Yu {I b:Nat} (h:¬ b∈([(I+4),(I+2),(I+3),I,(I+1)]:List Nat)):b < I\/I+5<=b:=by simp only [km,lU,or_false,not_or] at h;omega
theorem fc {I b:Nat} (h:b∈([(I+4),(I+2),(I+3),I,(I+1)]:List Nat)):I<=b/\b < I+5:=by simp only [km,lU,or_false] at h;omega
def Vg (K:W.Frag) (a1 a2:Nat) (b1 b2:Bool):It:=
 ⟨fun i H=>∃ xs1 xs2 y1 y2,ML K H a1 xs1 b1/\xs1[i]?=some y1/\ML K H a2 xs2 b2/\xs2[i]?=some y2,fun i H x H'=>∃ p y1 y2,H p=none/\x=.ref p/\H'=upd H p (.tup [y1,y2])/\(∀ xs,ML K H a1 xs b1->xs[i]?=some y1)/\(∀ xs,ML K H a2 xs b2->xs[i]?=some y2),fun i H=>∃ xs1 xs2,ML K H a1 xs1 b1/\ML K H a2 xs2 b2/\(xs1.length<=i\/xs2.length<=i)⟩
theorem Pc {P:Program} {w:World} {K:W.Frag} {elts:List Expr} {x1} {pos:Pos} (I a1 a2:Nat) (b1 b2:Bool) (lt1:a1 < I) (lt2:a2 < I):Turn P w K (.Tuple elts x1 pos) (Vg K a1 a2 b1 b2) [(I+4),(I+2),(I+3),I,(I+1)] (I+4) (fun i h=>Zst2 h I a1 a2 b1 b2 i .none) where
 mem:=by simp
 obj:=fun i h st b hb=>by
  obtain ⟨z0,ti0,⟨v1,v2,to0⟩,s10,s20⟩:=st;simp only [km,lU,or_false] at hb;rcases hb with rfl | rfl | rfl | rfl | rfl
  ·exact ⟨_,z0,fun v z=>by cases z⟩
  ·exact ⟨_,ti0,fun v z=>by cases z⟩
  ·exact ⟨_,to0,fun v z=>by cases z⟩
  ·exact s10.obj
  ·exact s20.obj
 keep:=fun i h h' st k=>st.at fun c o c1 c2 e=>k c (by show c∈([(I+4),(I+2),(I+3),I,(I+1)]:List Nat);simp only [km,lU,or_false];omega) o e
 item:=by
  intro X hP hw hK hc i pins s σ H E I1 hf st hg;subst hP hw hK;obtain ⟨ws1,ws2,y1,y2,hq1,hy1,hq2,hy2⟩:=hg;obtain ⟨its1,rv1,p1,hl1⟩:=I1.sqB hq1;obtain ⟨u1,hu1,ru1⟩:=rv1.get hy1;obtain ⟨its2,rv2,p2,hl2⟩:=I1.sqB hq2;obtain ⟨u2,hu2,ru2⟩:=rv2.get hy2;refine FQ st p1 lt1 p2 lt2 (y1:=u1) (y2:=u2) (by simpa using hu1) (by simpa using hu2) fun h1 st1 t1 z1 k1=>?_
  refine ⟨_,rfl,wpAny_letOwnedTupleGo_zip (s:={ s with heap:=h1 }) st1.z fun h2 e2 sb=>?_⟩;have hzl:(I+4) < s.heap.objs.size:=lA st.z;have hfr:=I1.hok.fresh (kj s.heap.objs.size)
  have I2:Inv X pins σ (upd H s.heap.objs.size (.tup [y1,y2])) { s with heap:=s.heap.push { cls:=.type "tuple", data:=.seq #[u1,u2] },toks:=s.toks }:=
   I1.laid (fun b o q=>kY _ q) (kj _) (show AQ X.prog X.w _ _ _ (.tup [y1,y2]) from ⟨by show 2<=sizeLine;decide,[u1,u2],(.cons ru1 (.cons ru2 .nil)),GK.new _ _⟩)
  have hb:∀ b∈([(I+4),(I+2),(I+3),I,(I+1)]:List Nat),I<=b/\b < I+5:=fun b hb=>fc hb
  have hf1:∀ b∈([(I+4),(I+2),(I+3),I,(I+1)]:List Nat),FpOk X pins (upd H s.heap.objs.size (.tup [y1,y2])) b:=fun b hbb=>by
   obtain ⟨f0,r⟩:=hf b hbb;refine ⟨?_,r⟩;rw [AN (lP (lC (hb b hbb).2 (by omega)))];exact f0
  have I3:Inv X pins σ (upd H s.heap.objs.size (.tup [y1,y2])) { s with heap:=h2,toks:=s.toks }:=by
   refine Inv.turnedL (s:={ s with heap:=s.heap.push { cls:=.type "tuple", data:=.seq #[u1,u2] },toks:=s.toks }) (h':=h2) (t':=s.toks) (ch:=[(I+4),(I+2),(I+3),I,(I+1)]) I2 (fun b o hbb q=>?_) hf1
   have q:(s.heap.push { cls:=.type "tuple", data:=.seq #[u1,u2] }).get? b=some o:=q
   have hbe:b≠(I+4):=fun z=>hbb (by simp [z])
   refine (sb.2 b hbe).trans ?_
   by_cases hbs:b=s.heap.objs.size
   ·subst hbs;rw [kz _ rfl] at q;rw [<- q];exact t1
   ·rw [Heap.get?_push_ne _ _ _ hbs] at q;exact k1 b o (Yu hbb) q
  refine ⟨.ref s.heap.objs.size,_,I3,rfl,⟨_,y1,y2,hfr,rfl,rfl,fun zs hz=>by rw [I1.sqB_inj hz hq1];exact hy1,fun zs hz=>by rw [I1.sqB_inj hz hq2];exact hy2⟩,?_,fun b hbb=>(hf1 b hbb).1⟩;exact ⟨e2,sb.extBut _ _ (Er (by omega)) st1.ti,let ⟨v1,v2,e⟩:=st1.to;⟨v1,v2,sb.extBut _ _ (Er (by omega)) e⟩,st1.s1.at fun o e=>sb.extBut _ _ (Er (by omega)) e,st1.s2.at fun o e=>sb.extBut _ _ (Er (by omega)) e⟩
 done:=by
  intro X hP hw hK hc i pins s σ H E I1 hf st hg;subst hP hw hK;obtain ⟨ws1,ws2,hq1,hq2,hend⟩:=hg;obtain ⟨its1,rv1,p1,hl1⟩:=I1.sqB hq1;have le1:=rv1.length;obtain ⟨its2,rv2,p2,hl2⟩:=I1.sqB hq2;have le2:=rv2.length;have hend2:its1.toArray[i]?=none\/its2.toArray[i]?=none:=by
   rcases hend with h | h
   ·exact .inl (by simp;omega)
   ·exact .inr (by simp;omega)
  refine GA (I1.ok.hd hc) st p1 lt1 p2 lt2 hend2 fun h' k=>⟨rfl,?_⟩
  refine Inv.turnedL (t':=s.toks) (ch:=[(I+4),(I+2),(I+3),I,(I+1)]) I1 (fun b o hbb e=>k b o (Yu hbb) e) hf
 self:=fun _ _ _ _ _ st h=>wpAny_pyIter_zip st.z h
section
variable {X:Cx} {elts:List Expr} {x1} {tpos:Pos}
abbrev fh (K:W.Frag) (ta:TA):TI:=fun σ H R=>ta σ H fun vs H1=>∃ a1 a2 b1 b2,vs=[.ref a1,.ref a2]/\(∃ xs,ML K H1 a1 xs b1)/\(∃ xs,ML K H1 a2 xs b2)/\R (Vg K a1 a2 b1 b2) H1
theorem Wf (K:W.Frag) {e1 e2:Expr} {ta:TA} {p pos:Pos} (hg:Gl X "zip") (hm:X.mg "zip" = none) (ha:PA X [e1,e2] ta) (hK:X.K=K:=by rfl) (hs:starEach (e1::[e2]) X.env=(false,eval e1 X.env)::starEach [e2] X.env:=by rfl) (hpl:(backTo pos (starEach [e2] X.env)).any (·.1)=false:=by rfl):PI X (.Tuple elts x1 tpos) (.Call (.Name "zip" p) [e1,e2] [] pos) (fh K ta):=by
 subst hK;intro pins s σ H R I h;refine Call_ (Bc I hg hm PyProof.Rows.Boot.«zip» (lV (Ah (ha pos pins s σ H _ I h) fun us s1 ⟨vs,H1,I1,r1,q1⟩=>?_) hs hpl));obtain ⟨a1,a2,b1,b2,rfl,⟨ws1,hq1⟩,⟨ws2,hq2⟩,q⟩:=q1;obtain ⟨its1,rv1,p1,hl1⟩:=I1.sqB hq1;obtain ⟨its2,rv2,p2,hl2⟩:=I1.sqB hq2;have rr:=r1;clear r1;cases rr with
 | cons r1 w1 =>
  cases w1 with
  | cons r2 w2 =>
   cases w2;cases r1;cases r2;refine Qt p1 p2 fun h' st hsz hk=>?_
   refine wpAny_pyIter_zip (s:={ s1 with heap:=h' }) st.z ?_;refine ⟨s1.heap.objs.size+4,[(s1.heap.objs.size+4),(s1.heap.objs.size+2),(s1.heap.objs.size+3),s1.heap.objs.size,(s1.heap.objs.size+1)],fun i h=>Zst2 h s1.heap.objs.size a1 a2 b1 b2 i .none,Vg X.K a1 a2 b1 b2,H1,rfl,I1.kept (t':=s1.toks) hk,Pc s1.heap.objs.size a1 a2 b1 b2 hl1 hl2,st,fun b hb=>?_,q⟩;have hb':s1.heap.objs.size<=b:=(fc (I:=s1.heap.objs.size) hb).1;exact I1.fpOk hb' (I1.hok.fresh hb')
end
section
end
section
end
def iE (x:Str):It:=⟨fun i H=>∃ c,x.cps[i]?=some c,fun i H v H'=>H'=H/\∃ c,x.cps[i]?=some c/\v=.str ⟨#[c]⟩,fun i H=>x.cps[i]?=none⟩
theorem MZ {h h':Heap} {a:Addr} {ty:String} {x:Str} {t:Tok} {i:Nat} (y:h.IsStrIter a ty x t i) (k:∀ o,h.get? a=some o->h'.get? a=some o):h'.IsStrIter a ty x t i:=
 let ⟨o,ho,r⟩:=y;⟨o,k o ho,r⟩
theorem Rk {P:Program} {w:World} {K:W.Frag} {tg:Expr} (x:Str) (t:Tok) (it:Addr):Turn P w K tg (iE x) [it] it (fun i h=>h.IsStrIter it (strIterType x) x t i) where
 mem:=by simp
 obj:=fun i h st b hb=>by
  have e:b=it:=by simpa using hb
  subst e;obtain ⟨o,e,c,d⟩:=st;exact ⟨o,e,fun v z=>by rw [d] at z;cases z⟩
 keep:=fun i h h' st k=>MZ st fun o e=>k it (by simp) o e
 item:=by
  intro X hP hw hK hc i pins s σ H E I hf st hg;subst hP hw hK;obtain ⟨c,hx⟩:=hg;obtain ⟨f0,f1,f2,f3,f4,f5⟩:=hf it (by simp);have fin:∀ h':Heap,h'.IsStrIter it (strIterType x) x t (i+1)->Heap.SameBut it s.heap h'->∃ u,some (Value.str ⟨#[c]⟩ s.toks)=some u/\wpAny (model X.prog X.w) X.A (letOwnedTupleGo tg (.ref it) u) (fun _ s2=>∃ x_1 H',Inv X pins σ H' s2/\RelV x_1 u/\(iE x).yld i H x_1 H'/\s2.heap.IsStrIter it (strIterType x) x t (i+1)/\∀ b∈[it],H' b=none) E { s with heap:=h',toks:=s.toks+1 }:=fun h' st' sb=>by
   have I1:Inv X pins σ H { s with heap:=h',toks:=s.toks+1 }:=I.turned (t':=s.toks+1) (fun b o hb e=>(sb.2 b hb).trans e) f0 f1 f3 f4 f5;obtain ⟨o,e,c',d⟩:=id st';exact ⟨_,rfl,Oi (s:={ s with heap:=h',toks:=s.toks+1 }) e c' d (by unfold strIterType;split<;>decide) ⟨.str ⟨#[c]⟩,H,I1,⟨_,rfl⟩,⟨rfl,c,hx,rfl⟩,st',fun b hb=>(hf b hb).1⟩⟩
  by_cases ha:x.cps.all (· < 128)=true
  ·have e:strIterType x = "str_ascii_iterator" := by unfold strIterType;rw [if_pos ha]
   rw [e] at st fin ⊢;exact wpAny_pyNext_ascii_item st hx fun h' st' sb=>fin h' st' sb
  ·have e:strIterType x = "str_iterator" := by unfold strIterType;rw [if_neg ha]
   rw [e] at st fin ⊢;exact wpAny_pyNext_wide_item st hx fun h' st' sb=>fin h' st' sb
 done:=by
  intro X hP hw hK hc i pins s σ H E I hf st hg;subst hP hw hK;obtain ⟨f0,f1,f2,f3,f4,f5⟩:=hf it (by simp)
  by_cases ha:x.cps.all (· < 128)=true
  ·have e:strIterType x = "str_ascii_iterator" := by unfold strIterType;rw [if_pos ha]
   rw [e] at st;exact wpAny_pyNext_ascii_end (I.ok.hd hc) st hg fun h' eb=>⟨rfl,I.turned (t':=s.toks) (fun b o hb e=>eb b o hb e) f0 f1 f3 f4 f5⟩
  ·have e:strIterType x = "str_iterator" := by unfold strIterType;rw [if_neg ha]
   rw [e] at st;exact wpAny_pyNext_wide_end (I.ok.hd hc) st hg fun h' eb=>⟨rfl,I.turned (t':=s.toks) (fun b o hb e=>eb b o hb e) f0 f1 f3 f4 f5⟩
 self:=fun A i s Q E st h=>by
  by_cases ha:x.cps.all (· < 128)=true
  ·have e:strIterType x = "str_ascii_iterator" := by unfold strIterType;rw [if_pos ha]
   rw [e] at st;exact wpAny_pyIter_striter_ascii st h
  ·have e:strIterType x = "str_iterator" := by unfold strIterType;rw [if_neg ha]
   rw [e] at st;exact wpAny_pyIter_striter_wide st h
section
variable {X:Cx}
abbrev fo (K:W.Frag) (tl:TE):TI:=fun σ H R=>tl σ H fun x H1=>(∃ a xs,x=.ref a/\((CZ K H1 a xs/\R (iF K a) H1)\/(DG K H1 a xs/\R (jV K a) H1)))\/∃ z,x=.str z/\R (iE z) H1
theorem Wg {tg l:Expr} {tl:TE} (hl:PE X l tl):PI X tg l (fo X.K tl):=by
 intro pins s σ H R I h;refine Ah (hl pins s σ H _ I h) fun v s1 ⟨x,H1,I1,r1,q1⟩=>?_
 rcases q1 with ⟨a,xs,e,q⟩ | ⟨z,e,q⟩
 ·subst e;cases r1;rcases q with ⟨hq,q⟩ | ⟨hq,q⟩
  ·obtain ⟨its,rv,p,hz⟩:=I1.list hq;refine wpAny_pyIter_list p.isList ?_;refine ⟨s1.heap.objs.size,[s1.heap.objs.size],_,_,H1,rfl,I1.kept (t':=s1.toks) fun b o e=>kY _ e,Pd a _,⟨_,kz _ rfl,rfl,rfl⟩,fun b hb=>?_,q⟩;have e:b=s1.heap.objs.size:=by simpa using hb
   subst e;exact I1.fpOk (kj _) (I1.hok.fresh (kj _))
  ·obtain ⟨its,rv,p,hz⟩:=I1.tuple hq;refine wpAny_pyIter_tuple (show s1.heap.IsTuple a its.toArray from p) ?_;refine ⟨s1.heap.objs.size,[s1.heap.objs.size],_,_,H1,rfl,I1.kept (t':=s1.toks) fun b o e=>kY _ e,MR a _,⟨_,kz _ rfl,rfl,rfl⟩,fun b hb=>?_,q⟩;have e:b=s1.heap.objs.size:=by simpa using hb
   subst e;exact I1.fpOk (kj _) (I1.hok.fresh (kj _))
 ·subst e;obtain ⟨t,rfl⟩:=r1;refine wpAny_pyIter_strU ?_;refine ⟨s1.heap.objs.size,[s1.heap.objs.size],_,_,H1,rfl,I1.kept (t':=s1.toks) fun b o e=>kY _ e,Rk z t _,⟨_,kz _ rfl,rfl,rfl⟩,fun b hb=>?_,q⟩;have e:b=s1.heap.objs.size:=by simpa using hb
  subst e;exact I1.fpOk (kj _) (I1.hok.fresh (kj _))
end
section
end
section
end
section
end
section
variable {X:Cx} {p1 p2 pos1 pos2:Pos} {es:List Expr} {e:Expr} {ta:TA}
abbrev Ka (ta:TA):TE:=fun σ H Q=>ta σ H fun vs H1=>∃ (i j:Int),(vs=[.int j]/\i=0\/vs=[.int i,.int j])/\(-(2 ^ 62)<=i/\i < 2 ^ 62/\-(2 ^ 62)<=j/\j < 2 ^ 62)/\(j - i).toNat<=1000000/\∀ l,H1 l=none->Q (.ref l) (upd H1 l (.lst ((List.range (j - i).toNat).map fun k=>.int (i+(k:Nat)))))
theorem Ir {A:Around} {E:Value->Shared->Prop} {pins:List (Addr×Obj)} {σ:St} {H:Hp} {s:Shared} {Q:VK} {i j:Int} {t u v:Tok} {tk:Nat} (hh:A.handled=none) (I:Inv X pins σ H s) (h1:-(2 ^ 62)<=i) (h2:i < 2 ^ 62) (h3:-(2 ^ 62)<=j) (h4:j < 2 ^ 62) (hl:(j - i).toNat<=1000000)
    (q:∀ l,H l=none->Q (.ref l) (upd H l (.lst ((List.range (j - i).toNat).map fun k=>.int (i+(k:Nat)))))) :
    wpAny (model X.prog X.w) A (call (.type "list") [.ref s.heap.objs.size]) (fun v s'=>∃ x H',Inv X pins σ H' s'/\RelV x v/\Q x H') E { s with heap:=s.heap.push { cls:=.type "range", data:=.fields #[.int i t,.int j u,.int 1 v] },toks:=tk }:=by
  have hr:Builtin.Range.rangeSize i j 1=((j - i).toNat:Nat):=by rw [rangeSize_one];split<;>omega
  refine call_list_range (n:=(j - i).toNat) hh (IsRange.new ..) (small_one h1 h2 h3 h4) hr (by omega) fun h' tk' acc c' hk eh hacc=>?_
  have kp:∀ b o,s.heap.get? b=some o->h'.get? b=some o:=fun b o e=>hk b o (kY _ e)
  have hsz:(s.heap.push { cls:=.type "range", data:=.fields #[.int i t,.int j u,.int 1 v] }).objs.size=s.heap.objs.size+1:=mE ..
  have hv:AD ((List.range (j - i).toNat).map fun k=>V.int (i+(k:Nat))) acc.toList:=by
    have:∀ (n m:Nat) (l:List Value),l.length=n->(∀ (q:Nat) (v:Value),l[q]?=some v->∃ t,v=.int (i+((m+q:Nat):Int)) t)->AD ((List.range' m n).map fun k=>V.int (i+(k:Nat))) l:=by
      intro n
      induction n with
      | zero=>intro m l e _;cases l with | nil=>exact .nil | cons a b=>cases e
      | succ n ih =>
        intro m l e h;cases l with
        | nil=>cases e
        | cons a b =>
          rw [nU,ko];refine .cons ?_ (ih (m+1) b (by simpa using e) fun q v hv=>?_)
          · obtain ⟨t,rfl⟩:=h 0 a rfl;exact ⟨t,rfl⟩
          · obtain ⟨t,rfl⟩:=h (q+1) v (by simpa using hv);exact ⟨t,by rw [Nat.add_assoc,mz 1 q]⟩
    rw [List.range_eq_range'];refine this (j - i).toNat 0 acc.toList (by simp [hacc.1]) fun q v hv=>?_
    obtain ⟨t,e⟩:=hacc.2 q v (by simpa using hv);exact ⟨t,by rw [e];simp⟩
  refine ⟨.ref _,_,I.laid (t':=tk') kp (by rw [hsz];exact nK _) (show AQ X.prog X.w _ h' _ (.lst ((List.range (j - i).toNat).map fun k=>.int (i+(k:Nat)))) from ⟨by rw [kb,mT];exact lI hl (show 1000000<=sizeLine by decide),acc.toList,c',hv,by rw [eh]⟩),rfl,q _ (I.hok.fresh (by rw [hsz];exact nK _))⟩
theorem Mm (hc:X.calm=true) (hgL:Gl X "list") (hmL:X.mg "list" = none) (hgR:Gl X "range") (hmR:X.mg "range" = none) (ha:PA X (e::es) ta)
    (hs1:starEach [.Call (.Name "range" p2) (e::es) [] pos2] X.env=(false,eval (.Call (.Name "range" p2) (e::es) [] pos2) X.env)::starEach [] X.env:=by rfl)
    (hpl1:(backTo pos1 (starEach [] X.env)).any (·.1)=false:=by rfl)
    (hs2:starEach (e::es) X.env=(false,eval e X.env)::starEach es X.env:=by rfl) (hpl2:(backTo pos2 (starEach es X.env)).any (·.1)=false:=by rfl) :
    PE X (.Call (.Name "list" p1) [.Call (.Name "range" p2) (e::es) [] pos2] [] pos1) (Ka ta):=by
  intro pins s σ H Q I h;refine wpAny_Call_Name_kw (Bc I hgL hmL PyProof.Rows.Boot.«list» ?_ (by decide) (by decide));refine lV ?_ hs1 hpl1;rw [hs1]
  show wpAny _ _ (spliced ((false,eval (.Call (.Name "range" p2) (e::es) [] pos2) X.env)::backTo pos1 (starEach [] X.env))) _ _ s
  refine Calls.spliced_cons ?_;refine wpAny_Call_Name_kw (Bc I hgR hmR boot_range ?_ (by decide) (by decide));refine lV (Ah (ha pos2 pins s σ H _ I h) fun us s1 ⟨vs,H1,I1,r1,q1⟩=>?_) hs2 hpl2;obtain ⟨i,j,ev,⟨b1,b2,b3,b4⟩,hl,q⟩:=q1;rcases ev with ⟨ev,rfl⟩ | ev
  · subst ev;cases r1 with
    | cons r rr =>
      cases rr;obtain ⟨t,rfl⟩:=r;refine call_range_1 (Calls.spliced_nil ?_);exact Ir (I1.ok.hd hc) I1 b1 b2 b3 b4 hl q
  · subst ev;cases r1 with
    | cons r rr =>
      cases rr with
      | cons r' rr =>
        cases rr;obtain ⟨t,rfl⟩:=r;obtain ⟨t',rfl⟩:=r';refine call_range_2 (Calls.spliced_nil ?_);exact Ir (I1.ok.hd hc) I1 b1 b2 b3 b4 hl q
end
end L2
namespace R
open PySem L2
noncomputable def items:Dv->Option (List Dv)
 | .tup ds=>some ds
 | .lst ds=>some ds
 | .scr ns=>some (ns.map .int)
 | .str l=>some (l.map fun c=>.str [c])
 | _=>none
def Oq (f:Ev Dv):Ev (List Dv):=fun R m k=>f R m fun d m'=>(items d).bind fun ds=>k ds m'
section
variable {K:W.Frag} {g:G} {H:Hp}
theorem rep_int {o:Nat} {i:Int} {v:V} {P:Fp} (h:Rep K g H o (.int i) v P):v=.int i:=by unfold Rep at h;exact h.1
theorem BO {o:Nat} {i:Int}:Rep K g H o (.int i) (.int i) nop:=by unfold Rep;exact ⟨rfl,fun _ z=>z⟩
theorem Vn {a:Addr} {ds:List Dv} (h:Rep K g H 0 (.lst ds) (.ref a) nop):Yl K (iF K a) ds g H:=by
 intro g2 H2 st;have h2:=st.rep h;unfold Rep at h2;obtain ⟨b,vs,P',e,h1,h2,_⟩:=h2;cases e;have sq:CZ K H2 a vs:=.inl (.inl h1.1);refine ⟨fun i d e=>?_,fun i hi=>⟨vs,sq,by rw [<- h2.len];exact hi⟩⟩;obtain ⟨v,P,ev,rv,_⟩:=h2.get e;refine ⟨⟨vs,v,sq,ev⟩,fun x H3 y=>?_⟩;obtain ⟨rfl,y⟩:=y;have:=y vs sq;rw [ev] at this;cases this;exact AU.old rv.z
theorem ZY {a:Addr} {ds:List Dv} (h:Rep K g H 0 (.tup ds) (.ref a) nop):Yl K (jV K a) ds g H:=by
 intro g2 H2 st;have h2:=st.rep h;unfold Rep at h2;obtain ⟨b,vs,e,h1,h2⟩:=h2;cases e;have sq:DG K H2 a vs:=.inl (.inl h1);refine ⟨fun i d e=>?_,fun i hi=>⟨vs,sq,by rw [<- h2.len];exact hi⟩⟩;obtain ⟨v,P,ev,rv,_⟩:=h2.get e;refine ⟨⟨vs,v,sq,ev⟩,fun x H3 y=>?_⟩;obtain ⟨rfl,y⟩:=y;have:=y vs sq;rw [ev] at this;cases this;exact AU.old rv.z
theorem Za {a:Addr} {ns:List Int} (h:Rep K g H 0 (.scr ns) (.ref a) nop):Yl K (iF K a) (ns.map .int) g H:=by
 intro g2 H2 st;have h2:=st.rep h;unfold Rep at h2;obtain ⟨⟨b,e,h1⟩,_⟩:=h2;cases e;have sq:=h1.sq;refine ⟨fun i d e=>?_,fun i hi=>⟨_,sq,by rw [kb] at hi ⊢;exact hi⟩⟩;rw [kn] at e;cases q:ns[i]? with
 | none=>rw [q] at e;cases e
 | some k =>
  rw [q] at e;cases e;refine ⟨⟨_,.int k,sq,by rw [kn,q];rfl⟩,fun x H3 y=>?_⟩;obtain ⟨rfl,y⟩:=y;have:=y _ sq;rw [kn,q] at this;cases this;exact AU.old BO
theorem ZZ {l:List Nat}:Yl K (iE (tx l)) (l.map fun c=>.str [c]) g H:=by
 intro g2 H2 st;have ec:∀ i:Nat,(tx l).cps[i]?=l[i]?:=fun i=>by show l.toArray[i]?=l[i]?;simp
 refine ⟨fun i d e=>?_,fun i hi=>?_⟩
 ·rw [kn] at e;cases q:l[i]? with
  | none=>rw [q] at e;cases e
  | some c =>
   rw [q] at e;simp only [lX,Option.some.injEq] at e;subst e;refine ⟨⟨c,by rw [ec,q]⟩,fun x H3 y=>?_⟩;obtain ⟨rfl,c',e',rfl⟩:=y;rw [ec,q] at e';cases e';exact AU.old (by unfold Rep;exact ⟨rfl,fun _ z=>z⟩)
 ·show (tx l).cps[i]?=none;rw [ec];rw [kb] at hi;exact mL hi
theorem KQ {lo:Int} {n:Nat}:Yl K (dE lo n) ((List.range n).map fun k=>.int (lo+(k:Nat))) g H:=by
 intro g2 H2 st;refine ⟨fun i d e=>?_,fun i hi=>by rw [kb,mT] at hi;exact hi⟩;obtain ⟨hi,rfl⟩:=rng_get e;refine ⟨hi,fun x H3 y=>?_⟩;obtain ⟨rfl,rfl⟩:=y;exact AU.old BO
end
section
variable {X:Cx} {tg e a b:Expr} {es:List Expr} {f:Ev Dv} {p pos:Pos} {Γ Γ':Gm} {js:List Nat} {as:List Ar}
theorem ff (h:PE X e (tE X.K Γ 0 Γ' js f)):PI X tg e (tI X.K Γ Γ' js (Oq f)):=PI.imp (Wg h) fun σ H Q q=>by
 obtain ⟨g,m,P,r,R,k,res,e,q⟩:=q;refine ⟨g,m,P,r,R,_,res,e,fun d m' g' P' Pv v H' hk ag s rv r1 n=>?_⟩;obtain ⟨ds,e1,e2⟩:=bind_some' hk;have s':Step g P H g' P' H':=s.less fun _ z=>.inl z
 have rz:=rv.z;cases d with
 | tup es =>
  cases e1;have h0:=rz;unfold Rep at h0;obtain ⟨a,vs,rfl,h1,h2⟩:=h0;exact .inl ⟨a,vs,rfl,.inr ⟨.inl (.inl h1),q _ m' g' P' H' _ e2 ag s' r1 (ZY rz)⟩⟩
 | lst es =>
  cases e1;have h0:=rz;unfold Rep at h0;obtain ⟨a,vs,P1,rfl,h1,h2,_⟩:=h0;exact .inl ⟨a,vs,rfl,.inl ⟨.inl (.inl h1.1),q _ m' g' P' H' _ e2 ag s' r1 (Vn rz)⟩⟩
 | scr ns =>
  cases e1;have h0:=rz;unfold Rep at h0;obtain ⟨⟨a,rfl,h1⟩,_⟩:=h0;exact .inl ⟨a,_,rfl,.inl ⟨h1.sq,q _ m' g' P' H' _ e2 ag s' r1 (Za rz)⟩⟩
 | str l =>
  cases e1;have h0:=rz;unfold Rep at h0;exact .inr ⟨_,h0.1,q _ m' g' P' H' _ e2 ag s' r1 ZZ⟩
 | _=>cases e1
def Ve (K:W.Frag) (p:List Dv->Option (List Dv)) (r:List V->Hp->(It->Hp->Prop)->Prop):Prop:=∀ g H ds vs its Q,Zd g H->Reps K g H 0 ds vs nop->p ds=some its->(∀ J H',Nn H H'->Yl K J its g H'->Q J H')->r vs H Q
def ZI (p:List Dv->Option (List Dv)) (fa:Ev (List Dv)):Ev (List Dv):=fun R m k=>fa R m fun ds m'=>(p ds).bind fun its=>k its m'
abbrev ZC (r:List V->Hp->(It->Hp->Prop)->Prop) (ta:TA):TI:=fun σ H Q=>ta σ H fun vs H1=>r vs H1 Q
theorem Vw {K:W.Frag} {pr:List Dv->Option (List Dv)} {r:List V->Hp->(It->Hp->Prop)->Prop} (hp:Ve K pr r) (c:AA Γ as Γ' js) (he:evd as=true) {σ:St} {H:Hp} {Q:It->Hp->Prop} (h:tI K Γ Γ' js (ZI pr (AJ as)) σ H Q):ZC r (BN K as) σ H Q:=by
 obtain ⟨g,m,P,rl,R',k,res,e,q⟩:=h;refine AH as rl c e fun ds m' g' P' vs H1 hk ag s ar r1=>?_
 obtain ⟨its,e1,e2⟩:=bind_some' hk;exact hp g' H1 ds vs its Q r1.zd (ar.reps he) e1 fun J H2 sm yl=>q its m' g' P' H2 J e2 ag ((s.trans (Step.same sm)).less fun _ z=>z) (r1.same sm) yl
noncomputable def small (i:Int):Bool:=-1000000000<=i && i<=1000000000
theorem Gg {i:Int} (h:small i=true):-1000000000<=i/\i<=1000000000:=by
 unfold small at h;rw [kX,decide_eq_true_eq,decide_eq_true_eq] at h;exact h
def Cu (ds:List Dv):Option (List Dv):=match ds with
 | [.int n]=>bif small n then some ((List.range n.toNat).map fun k=>.int (0+(k:Nat))) else none
 | _=>none
def Pq (ds:List Dv):Option (List Dv):=match ds with
 | [.int i,.int n]=>bif small i && small n then some ((List.range (n - i).toNat).map fun k=>.int (i+(k:Nat))) else none
 | _=>none
def eX:List V->Hp->(It->Hp->Prop)->Prop:=fun vs H1 R=>∃ j:Int,vs=[.int j]/\-(2 ^ 62)<=j/\j < 2 ^ 62/\R (dE 0 j.toNat) H1
def eW:List V->Hp->(It->Hp->Prop)->Prop:=fun vs H1 R=>∃ i j:Int,vs=[.int i,.int j]/\(-(2 ^ 62)<=i/\i < 2 ^ 62/\-(2 ^ 62)<=j/\j < 2 ^ 62)/\R (dE i (j - i).toNat) H1
theorem SK {K:W.Frag}:Ve K Cu eX:=fun g H ds vs its Q zd ra e q=>by
 unfold Cu at e;split at e
 ·rename_i n;cases c:small n with
  | false=>rw [c] at e;cases e
  | true =>
   rw [c] at e;cases e;have hn:=Gg c;unfold Reps at ra;obtain ⟨v,vr,_,_,rfl,h1,h2,_⟩:=ra;unfold Reps at h2;obtain ⟨rfl,_⟩:=h2;rw [rep_int h1];exact ⟨n,rfl,by omega,by omega,q _ H (fun _ _ z=>z) KQ⟩
 ·cases e
theorem SJ {K:W.Frag}:Ve K Pq eW:=fun g H ds vs its Q zd ra e q=>by
 unfold Pq at e;split at e
 ·rename_i i n;cases c:small i && small n with
  | false=>rw [c] at e;cases e
  | true =>
   rw [c] at e;cases e;rw [kX] at c;have hi:=Gg c.1;have hn:=Gg c.2;unfold Reps at ra;obtain ⟨v,vr,_,_,rfl,h1,h2,_⟩:=ra;unfold Reps at h2;obtain ⟨v2,vr2,_,_,rfl,h3,h4,_⟩:=h2;unfold Reps at h4;obtain ⟨rfl,_⟩:=h4;rw [rep_int h1,rep_int h3];exact ⟨i,n,rfl,by omega,q _ H (fun _ _ z=>z) KQ⟩
 ·cases e
end
structure Sig:Type 1 where
 ps:List Str
 io:List Nat
 ro:Nat
 nb:Bool
 fn:List Dv->Option (Dv×List Dv)
 cps:(R:Type)->List Dv->(Dv->List Dv->Option R)->Option R
 eq:∀ R ds k,cps R ds k=(fn ds).bind fun p=>k p.1 p.2
def RX (n:Nat) (io:List Nat):Gm:=(List.range n).map fun i=>some (if io.contains i then 1 else 0)
def Bk (K:W.Frag) (g:G) (H:Hp) (io:List Nat) (bs:List Dv) (vs:List V) (P:Fp):Prop:=Rel K g H (io.map fun _=>some 1) bs (io.map fun i=>(vs[i]?).map id) P
def OE (K:W.Frag) (s:Sig):Sp:=fun vs H Q _=>∃ g ds P,Rel K g H (RX s.ps.length s.io) ds (vs.map some) P/\∃ d bs,s.fn ds=some (d,bs) /\
 ∀ g' H' v Pv Pb,Step g P H g' (fun a=>Pv a\/Pb a) H'->Rep K g' H' s.ro d v Pv->Bk K g' H' s.io bs vs Pb->Disj Pv Pb->Q v H'
def Mg (n:Nat) (io:List Nat):Gm:=(List.range n).map fun i=>if io.contains i then some 1 else none
def XT (n p:Nat) (io:List Nat):Gm:=RX p io++List.replicate (n - p) none
section
variable {K:W.Frag} {g:G} {H:Hp}
theorem Rel.pad {Γ:Gm} {m:M} {vs:List V} {P:Fp} (h:Rel K g H Γ m (vs.map some) P) (n:Nat):Rel K g H (Γ++List.replicate n none) (m++List.replicate n .non) (vs.map some++List.replicate n none) P:=by
 obtain ⟨zd,F,h1,h4⟩:=h;have old:∀ {i o:Nat},(Γ++List.replicate n none)[i]?=some (some o)->i < Γ.length/\Γ[i]?=some (some o):=fun {i o} e=>by
  by_cases z:i < Γ.length
  ·rw [kq z] at e;exact ⟨z,e⟩
  ·rw [lN (by omega),nt] at e;split at e<;>cases e
 refine ⟨zd,F,⟨by simp [h1.l1],by have:=h1.l2;simp at this ⊢;omega,fun i o e=>?_,fun i e=>?_,h1.dj⟩,h4⟩
 ·obtain ⟨hi,e⟩:=old e;obtain ⟨d,v,e1,e2,r⟩:=h1.rep i o e;exact ⟨d,v,by rw [kq (by rw [h1.l1];exact hi)];exact e1,by rw [kq (by rw [h1.l2];exact hi)];exact e2,r⟩
 ·refine h1.out i fun o z=>e o ?_
  rw [kq (ka.mp z).1];exact z
theorem Rel.pick {Γ:Gm} {m:M} {σ:St} {P:Fp} {io:List Nat} (h:Rel K g H Γ m σ P) (nd:io.Nodup) (hl:∀ i∈io,Γ[i]?=some (some 1)):∃ P',Rel K g H (io.map fun _=>some 1) (io.map m.at) (io.map fun i=>(σ[i]?).join) P'/\∀ a,P' a->P a:=by
 obtain ⟨zd,F,h1,h4⟩:=h;refine ⟨fun a=>∃ j i,io[j]?=some i/\F i a,⟨zd,fun j a=>∃ i,io[j]?=some i/\F i a,⟨by simp,by simp,fun j o e=>?_,fun j e a ⟨i,e',_⟩=>?_,fun j k n a ⟨i,e1,q1⟩ ⟨i',e2,q2⟩=>?_⟩,fun _=>Iff.rfl⟩,fun a ⟨j,i,_,q⟩=>(h4 a).mpr ⟨i,q⟩⟩
 ·rw [kn] at e;cases ej:io[j]? with
  | none=>rw [ej] at e;cases e
  | some i =>
   rw [ej] at e;cases e;obtain ⟨d,v,e1,e2,r⟩:=h1.rep i 1 (hl i (lY ej));have eq:(fun a=>∃ i',some i=some i'/\F i' a)=F i:=funext fun a=>propext ⟨fun ⟨i',z,q⟩=>by cases z;exact q,fun q=>⟨i,rfl,q⟩⟩
   exact ⟨d,v,by rw [kn,ej,lX,JR e1],by rw [kn,ej,lX,e2];rfl,by show Rep K g H 1 d v fun a=>∃ i',some i=some i'/\F i' a;rw [eq];exact r⟩
 ·refine e 1 ?_;rw [kn,e'];rfl
 ·by_cases z:i=i'
  ·subst z;refine n ?_;have hj:=(ka.mp e1);have hk:=(ka.mp e2);exact (nV (h₀:=hj.1) (h₁:=hk.1) nd).mp (hj.2.trans hk.2.symm)
  ·exact h1.dj i i' z a q1 q2
end
theorem fw {P:Program} {w:World} {K:W.Frag} {mg:Str->Option Value} {base:Heap} {x qual:Str} {st:Stmt} {f:Addr} {fd:FuncData} {N:List Str} {k:Nat} {s:Sig} (Fn:Fun K x qual st f fd) (S:FnScope N s.ps (AG st)) (nd:s.io.Nodup) (hio:∀ i∈s.io,i < s.ps.length) (hn:s.ps.length<=N.length)
    {body:Es} {Γn:Option Gm} {js:List Nat} (hw:Jm (some (Mg N.length s.io)) Γn=true)
    (hb:∀ (cdv:Value) (A:Around) (outer:List Env) (s':Shared) (H:Hp) (E:XK),Room k (A.deeper (PyProof.Rows.envOfC qual (AG st) s'.heap.objs.size f cdv))->DJ (Lm RV P w K mg base N qual (AG st) f cdv A outer s' H E).nox (AW st) (tS K ⟨s.io,Mg N.length s.io,s.ro⟩ none (XT N.length s.ps.length s.io) Γn js body))
    (hΦ:∀ ds d bs,ds.length=s.ps.length->s.fn ds=some (d,bs)->∃ (R:Type) (k:Kt R) (r:R),body R (ds++List.replicate (N.length - s.ps.length) .non) k=some r/\(∀ m,k.nx m=some r->d=.non/\bs=s.io.map m.at)/\(∀ d' m,k.rt d' m=some r->d=d'/\bs=s.io.map m.at)):FnOk P w K mg base RV (k+1) f fd s.ps (OE K s):=by
  have ll:∀ n io,(RX n io).length=n:=fun n io=>by unfold RX;simp
  refine Fn.ok S (fun vs H Q E h=>?_) fun cdv A outer s' H vs Q E hr h=>⟨_,hb cdv A outer s' H E hr,?_⟩
  · obtain ⟨g,ds,Pa,r,_⟩:=h;have:=r.len.2;rw [ll] at this;simpa using this
  · obtain ⟨g,ds,Pa,r,d,bs,e,q⟩:=h;have l1:=r.len.1;have l2:=r.len.2;rw [ll] at l1 l2;rw [kb] at l2;have r0:Rel K g H (XT N.length s.ps.length s.io) (ds++List.replicate (N.length - s.ps.length) .non) (L2.start N vs) Pa:=by
      unfold L2.start XT;rw [l2];exact r.pad _
    have hv:∀ {σ':St},Io s.io (L2.start N vs) σ'->∀ i∈s.io,(σ'[i]?).join=vs[i]?:=fun {σ'} hi i hm=>by
      rw [hi i hm];unfold L2.start;have hl:i < vs.length:=by rw [l2];exact hio i hm
      rw [kq (by simpa using hl),kn];cases vs[i]?<;>rfl
    have rg:∀ i∈s.io,(Mg N.length s.io)[i]?=some (some 1):=fun i hi=>by
      unfold Mg;rw [kn,mP (by have:=hio i hi;omega),lX,if_pos (ki.mpr hi)]
    obtain ⟨RT,kt,rt,hb0,hnx,hrt⟩:=hΦ ds d bs l1 e;have fin:∀ {d':Dv} {m':M} {g':G} {P' Pv:Fp} {σ':St} {v:V} {H':Hp},d=d'/\bs=s.io.map m'.at->Step g Pa H g' (fun a=>P' a\/Pv a) H'->Io s.io (L2.start N vs) σ'->Rep K g' H' s.ro d' v Pv->Rel K g' H' (Mg N.length s.io) m' σ' P'->Disj P' Pv->Q v H':=fun {d' m' g' P' Pv σ' v H'} hk st io rv r' n=>by
      obtain ⟨rfl,rfl⟩:=hk;obtain ⟨Pb,hbk,sb⟩:=r'.pick nd rg;refine q g' H' v Pv Pb (st.less fun a z=>z.elim .inr fun z=>.inl (sb a z)) rv ?_ fun a z w=>n a (sb a w) z
      have e:(s.io.map fun i=>(σ'[i]?).join)=s.io.map fun i=>(vs[i]?).map id:=nL fun i hi=>by rw [hv io i hi];cases vs[i]?<;>rfl
      unfold Bk;rw [<- e];exact hbk
    refine ⟨g,_,Pa,r0,RT,kt,rt,hb0,⟨fun Γ' m' g' P' σ' H' eΓ hk ag st' i' r'=>?_,fun d' m' g' P' Pv σ' v H' hk ag st' i' rv r' n=>fin (hrt d' m' hk) st' i' rv r' n,(fun _ _ _ _ _ _ z=>by cases z),fun _ _ _ _ _ _ z=>by cases z⟩⟩;subst eΓ;obtain ⟨g2,P2,s2,r2⟩:=r'.weaken (by unfold Jm at hw;exact hw);exact fin (Pv:=nop) (v:=.non) (hnx m' hk) ((st'.trans s2).less fun _ z=>z.elim id False.elim) i' (by unfold Rep;exact ⟨rfl,fun _ z=>z⟩) r2 fun _ _ z=>z
noncomputable def EA (as:List Ar) (i:Nat):Option Nat:=match as[i]? with | some (.rf j)=>some j | _=>none
def slots (as:List Ar) (io:List Nat):List Nat:=io.map fun i=>(EA as i).getD 0
def WD (as:List Ar) (io:List Nat):Bool:=(List.range as.length).all fun i=>((EA as i).isSome == io.contains i) && (List.range as.length).all fun j=>i == j || (EA as i).isNone || (EA as i != EA as j)
noncomputable def EB:List Nat->List Dv->M->M
 | s::sl,b::bs,m=>EB sl bs (m.set s b)
 | _,_,m=>m
def NP (s:Sig) (as:List Ar):Ev Dv:=fun R m k=>AJ as R m fun ds m1=>s.cps R ds fun d bs=>k d (EB (slots as s.io) bs m1)
theorem Gy:∀ (sl:List Nat) (bs:List Dv) (m:M),(EB sl bs m).length=m.length
 | [],_,_=>rfl
 | _::_,[],_=>rfl
 | s::sl,b::bs,m=>by unfold EB;rw [Gy,lM]
theorem Ec:∀ (sl:List Nat) (bs:List Dv) (m:M) (j:Nat),j∉sl->(EB sl bs m)[j]?=m[j]?
 | [],_,_,_,_=>rfl
 | _::_,[],_,_,_=>rfl
 | s::sl,b::bs,m,j,h=>by
  unfold EB;rw [Ec sl bs _ j fun z=>h (kh _ z),lL fun z=>h (by rw [z];exact kg)]
theorem OO:∀ (sl:List Nat) (bs:List Dv) (m:M) (k j:Nat) (b:Dv),sl.Nodup->sl[k]?=some j->bs[k]?=some b->j < m.length->(EB sl bs m)[j]?=some b
 | [],_,_,k,_,_,_,h,_,_=>by simp at h
 | _::_,[],_,k,_,_,_,_,h,_=>by simp at h
 | s::sl,c::bs,m,k,j,b,nd,h1,h2,hl=>by
  unfold EB;rw [mi] at nd;cases k with
  | zero =>
   simp at h1 h2;subst h1 h2;rw [Ec sl bs _ s nd.1,lS hl]
  | succ k=>exact OO sl bs _ k j b nd.2 (by simpa using h1) (by simpa using h2) (by rw [lM];exact hl)
theorem Gz (sl:List Nat) (bs:List Dv) (m:M):BW sl m (EB sl bs m):=⟨Gy ..,fun i h=>by
 unfold M.at;rw [lB,lB,Ec sl bs m i h]⟩
section
variable {K:W.Frag} {g:G} {H:Hp} {σ:St} {Γ Γ':Gm} {js:List Nat} {m:M} {P:Fp} {as:List Ar}
theorem AL.len:∀ {as:List Ar} {ds:List Dv} {vs:List V},AL K g H Γ m σ as ds vs->ds.length=as.length/\vs.length=as.length
 | [],ds,vs,h=>by unfold AL at h;obtain ⟨rfl,rfl⟩:=h;exact ⟨rfl,rfl⟩
 | .ev _ _ _ _::as,ds,vs,h=>by
  unfold AL at h;obtain ⟨d,v,ds',vs',rfl,rfl,_,h2⟩:=h;simp [h2.len.1,h2.len.2]
 | .rf i::as,ds,vs,h=>by
  unfold AL at h;obtain ⟨v,ds',vs',rfl,rfl,_,_,h3⟩:=h;simp [h3.len.1,h3.len.2]
theorem AL.get:∀ {as:List Ar} {ds:List Dv} {vs:List V} {i:Nat},AL K g H Γ m σ as ds vs->i < as.length->∃ d v,ds[i]?=some d/\vs[i]?=some v/\((∃ j,EA as i=some j/\d=m.at j/\σ[j]?=some (some v))\/(EA as i=none/\Rep K g H 0 d v nop))
 | [],_,_,i,_,h=>by simp at h
 | .ev _ _ _ f::as,ds,vs,i,h,hi=>by
  unfold AL at h;obtain ⟨d,v,ds',vs',rfl,rfl,h1,h2⟩:=h;cases i with
  | zero=>exact ⟨d,v,rfl,rfl,.inr ⟨rfl,h1⟩⟩
  | succ i =>
   obtain ⟨d,v,e1,e2,z⟩:=h2.get (i:=i) (by simpa using hi);exact ⟨d,v,by simpa using e1,by simpa using e2,z⟩
 | .rf j::as,ds,vs,i,h,hi=>by
  unfold AL at h;obtain ⟨v,ds',vs',rfl,rfl,h1,_,h3⟩:=h;cases i with
  | zero=>exact ⟨_,v,rfl,rfl,.inl ⟨j,rfl,rfl,h1⟩⟩
  | succ i =>
   obtain ⟨d,v,e1,e2,z⟩:=h3.get (i:=i) (by simpa using hi);exact ⟨d,v,by simpa using e1,by simpa using e2,z⟩
theorem Ea {i j:Nat} (h:EA as i=some j):i < as.length:=by
 unfold EA at h;cases e:as[i]? with
 | none=>rw [e] at h;cases h
 | some a=>exact (ka.mp e).1
theorem Zu {io:List Nat} (h:WD as io=true):(∀ i,i < as.length->((EA as i).isSome=true↔i∈io))/\∀ i i' j,EA as i=some j->EA as i'=some j->i=i':=by
 unfold WD at h;rw [lO] at h;refine ⟨fun i hi=>?_,fun i i' j e e'=>?_⟩
 ·have:=h i (mR.mpr hi);rw [kX,beq_iff_eq] at this;rw [this.1,ki]
 ·have:=h i (mR.mpr (Ea e));rw [kX,lO] at this;have:=this.2 i' (mR.mpr (Ea e'));rw [e,e'] at this;simp at this;exact this
theorem Fi {s:Sig} {g1:G} {H1:Hp} {m1:M} {P1:Fp} {ds:List Dv} {vs:List V} {d:Dv} {bs:List Dv} (hs:WD as s.io=true) (hn:as.length=s.ps.length) (nd:s.io.Nodup) (hio:∀ i∈s.io,i < s.ps.length) (hl:∀ i∈slots as s.io,Γ'[i]?=some (some 1)) {Q:VK}
    (r1:Rel K g1 H1 Γ' m1 σ P1) (ar:AL K g1 H1 Γ' m1 σ as ds vs) (e1:s.fn ds=some (d,bs))
    (q:∀ g2 P2 Pv v H2,Step g1 P1 H1 g2 (fun a=>P2 a\/Pv a) H2->Rep K g2 H2 s.ro d v Pv->Rel K g2 H2 Γ' (EB (slots as s.io) bs m1) σ P2->Disj P2 Pv->Q v H2):OE K s vs H1 Q E0:=by
  obtain ⟨hs1,hs2⟩:=Zu hs;have r1':=r1;obtain ⟨zd,F,h1,h4⟩:=r1'
  -- the slots,one by one
  have sl:∀ {i j:Nat},EA as i=some j->i∈s.io/\j∈slots as s.io:=fun {i j} e=>by
    have hi:=(hs1 i (Ea e)).mp (by rw [e];rfl);exact ⟨hi,lR.mpr ⟨i,hi,by rw [e];rfl⟩⟩
  have sl2:∀ {i:Nat},i∈s.io->∃ j,EA as i=some j:=fun {i} hi=>mU.mp ((hs1 i (by rw [hn];exact hio i hi)).mpr hi)
  have ndS:(slots as s.io).Nodup:=by
    unfold slots;rw [nc,List.pairwise_map];refine (nc.mp nd).imp_of_mem fun {a b} ha hb n z=>?_
    obtain ⟨ja,ea⟩:=sl2 ha;obtain ⟨jb,eb⟩:=sl2 hb;rw [ea,eb] at z;simp only [Option.getD_some] at z;subst z;exact n (hs2 a b ja ea eb)
  let Fa:Nat->Fp:=fun i a=>∃ j,EA as i=some j/\F j a
  have al:=ar.len;have rA:Rel K g1 H1 (RX s.ps.length s.io) ds (vs.map some) fun a=>∃ i,Fa i a:=by
    refine ⟨zd,Fa,⟨by unfold RX;simp;rw [al.1,hn],by unfold RX;simp;rw [al.2,hn],fun i o ei=>?_,fun i ei a ⟨j,ej,_⟩=>?_,fun i i' n a ⟨j,ej,z⟩ ⟨j',ej',z'⟩=>?_⟩,fun _=>Iff.rfl⟩
    · obtain ⟨hi,eo⟩:=rng_get ei;obtain ⟨d',v,d1,d2,z⟩:=ar.get (i:=i) (by rw [hn];exact hi);refine ⟨d',v,d1,by rw [kn,d2];rfl,?_⟩;rcases z with ⟨j,ej,rfl,hv⟩ | ⟨ej,z⟩
      · have:o=1:=by
          have:=Option.some.inj eo;rw [if_pos (ki.mpr (sl ej).1)] at this;exact this
        subst this;obtain ⟨d3,v3,e3,e4,r3⟩:=h1.rep j 1 (hl j (sl ej).2);rw [hv] at e4;cases e4;have eq:Fa i=F j:=funext fun a=>propext ⟨fun ⟨j',z,q⟩=>by rw [ej] at z;cases z;exact q,fun q=>⟨j,ej,q⟩⟩
        rw [JR e3,eq];exact r3
      · have:o=0:=by
          have:=Option.some.inj eo;rw [if_neg fun w=>?_] at this
          · exact this
          · obtain ⟨j,w⟩:=sl2 (ki.mp w);rw [ej] at w;cases w
        subst this;have eq:Fa i=nop:=nop_iff fun a ⟨j,w,_⟩=>by rw [ej] at w;cases w
        rw [eq];exact z
    · refine ei (if s.io.contains i then 1 else 0) ?_;unfold RX;rw [kn,mP (by rw [<- hn];exact Ea ej)];rfl
    · by_cases w:j=j'
      · subst w;exact n (hs2 i i' j ej ej')
      · exact h1.dj j j' w a z z'
  let Fr:Nat->Fp:=fun j a=>j∉slots as s.io/\F j a
  have rr:Rel K g1 H1 (MD (slots as s.io) Γ') m1 σ fun a=>∃ j,Fr j a:=by
    refine ⟨zd,Fr,⟨by unfold MD;simp;exact h1.l1,by unfold MD;simp;exact h1.l2,fun j o ej=>?_,fun j ej a ⟨n,z⟩=>?_,fun i j n a q z=>h1.dj i j n a q.2 z.2⟩,fun _=>Iff.rfl⟩
    · obtain ⟨nj,ej⟩:=DE ej;obtain ⟨d',v,d1,d2,z⟩:=h1.rep j o ej;have eq:Fr j=F j:=funext fun a=>propext ⟨fun w=>w.2,fun w=>⟨nj,w⟩⟩
      exact ⟨d',v,d1,d2,by rw [eq];exact z⟩
    · refine h1.out j (fun o w=>ej o ?_) a z;unfold MD;have hj:=(ka.mp w).1;rw [kn,mP hj,lX,if_neg (fun q=>n (ki.mp q)),lB,w];rfl
  have dA:Disj (fun a=>∃ j,Fr j a) fun a=>∃ i,Fa i a:=fun a ⟨j,nj,z⟩ ⟨i,j',ej,z'⟩=>by
    by_cases w:j=j'
    · subst w;exact nj (sl ej).2
    · exact h1.dj j j' w a z z'
  have okA:FpOk g1 H1 fun a=>∃ i,Fa i a:=rA.fpOk
  refine ⟨g1,ds,_,rA,d,bs,e1,fun g2 H2 v Pv Pb s2 rv hb n=>?_⟩;have rr2:=rr.held s2 okA dA;have dB:Disj (fun a=>∃ j,Fr j a) fun a=>Pv a\/Pb a:=s2.out rr.fpOk dA
  obtain ⟨zd2,Fq,q1,q4⟩:=rr2;obtain ⟨zb,Fb,b1,b4⟩:=hb;have lb:bs.length=s.io.length:=by have:=b1.l1;simpa using this
  have fq:∀ {a:Addr},(∃ j,Fr j a)↔∃ j,Fq j a:=fun {a}=>q4 a
  let Fz:Nat->Fp:=fun j a=>(∃ k,(slots as s.io)[k]?=some j/\Fb k a)\/Fq j a
  have nq:∀ j∈slots as s.io,∀ a,¬ Fq j a:=fun j hj=>q1.out j fun o w=>(DE w).1 hj
  have rz:Rel K g2 H2 Γ' (EB (slots as s.io) bs m1) σ fun a=>∃ j,Fz j a:=by
    refine ⟨zd2,Fz,⟨by rw [Gy];exact h1.l1,h1.l2,fun j o ej=>?_,fun j ej a z=>?_,fun i j n' a z w=>?_⟩,fun _=>Iff.rfl⟩
    · have hjl:j < m1.length:=by rw [h1.l1];exact (ka.mp ej).1
      by_cases hj:j∈slots as s.io
      · obtain ⟨kk,hk1⟩:=List.getElem?_of_mem hj;have hkk:kk < s.io.length:=by have:=(ka.mp hk1).1;unfold slots at this;simpa using this
        rw [hl j hj] at ej;cases ej;obtain ⟨b,u,c1,c2,c3⟩:=b1.rep kk 1 (by rw [kn,kZ hkk];rfl);have ei:(slots as s.io)[kk]?=some ((EA as s.io[kk]).getD 0):=by unfold slots;rw [kn,kZ hkk];rfl
        obtain ⟨jj,ejj⟩:=sl2 (mw hkk);rw [hk1,ejj] at ei;have ejj':j=jj:=Option.some.inj ei;subst ejj';obtain ⟨d3,v3,d1,d2,z3⟩:=ar.get (i:=s.io[kk]) (Ea ejj);rw [kn,kZ hkk,lX,d2] at c2;have eu:u=v3:=by simpa using c2.symm
        subst eu;have hv:σ[j]?=some (some u):=by
          rcases z3 with ⟨j2,e2',_,z3⟩ | ⟨e2',_⟩
          · rw [ejj] at e2';cases e2';exact z3
          · rw [ejj] at e2';cases e2'
        have eq:Fz j=Fb kk:=funext fun a=>propext ⟨fun w=>w.elim (fun ⟨k',h',w⟩=>by
            have h1':=ka.mp hk1;have h2':=ka.mp h';have:k'=kk:=(nV (h₀:=h2'.1) (h₁:=h1'.1) ndS).mp (h2'.2.trans h1'.2.symm);exact this▸w) fun w=>(nq j hj a w).elim,fun w=>.inl ⟨kk,hk1,w⟩⟩
        exact ⟨b,u,OO _ bs m1 kk j b ndS hk1 c1 hjl,hv,by rw [eq];exact c3⟩
      · have ej':(MD (slots as s.io) Γ')[j]?=some (some o):=by
          unfold MD;rw [kn,mP (ka.mp ej).1,lX,if_neg (fun w=>hj (ki.mp w)),lB,ej];rfl
        obtain ⟨d3,v3,d1,d2,r3⟩:=q1.rep j o ej';have eq:Fz j=Fq j:=funext fun a=>propext ⟨fun w=>w.elim (fun ⟨k',h',_⟩=>(hj (lY h')).elim) id,.inr⟩
        exact ⟨d3,v3,by rw [Ec _ _ _ _ hj];exact d1,d2,by rw [eq];exact r3⟩
    · rcases z with ⟨k',h',z⟩ | z
      · exact ej 1 (hl j (lY h'))
      · refine q1.out j (fun o w=>ej o (DE w).2) a z
    · rcases z with ⟨k1,h1',z⟩ | z
      · rcases w with ⟨k2,h2',w⟩ | w
        · by_cases kk:k1=k2
          · subst kk;rw [h1'] at h2';exact n' (Option.some.inj h2')
          · exact b1.dj k1 k2 kk a z w
        · exact dB a (fq.mpr ⟨j,w⟩) (.inr ((b4 a).mpr ⟨k1,z⟩))
      · rcases w with ⟨k2,h2',w⟩ | w
        · exact dB a (fq.mpr ⟨i,z⟩) (.inr ((b4 a).mpr ⟨k2,w⟩))
        · exact q1.dj i j n' a z w
  refine q g2 _ Pv v H2 ((s2.frame (R:=fun a=>∃ j,Fr j a)).sub (fun a z=>?_) fun a z=>?_) rv rz fun a z w=>?_
  · rcases z with ⟨i,j,_,z⟩ | ⟨j,_,z⟩
    · exact (h4 a).mpr ⟨j,z⟩
    · exact (h4 a).mpr ⟨j,z⟩
  · rcases z with ⟨j,z⟩ | z
    · rcases z with ⟨k',_,z⟩ | z
      · exact .inl (.inr ((b4 a).mpr ⟨k',z⟩))
      · exact .inr (fq.mpr ⟨j,z⟩)
    · exact .inl (.inl z)
  · obtain ⟨j,z⟩:=z;rcases z with ⟨k',_,z⟩ | z
    · exact n a w ((b4 a).mpr ⟨k',z⟩)
    · exact dB a (fq.mpr ⟨j,z⟩) (.inl w)
theorem Um {s:Sig} (c:AA Γ as Γ' js) (hs:WD as s.io=true) (hn:as.length=s.ps.length) (nd:s.io.Nodup) (hio:∀ i∈s.io,i < s.ps.length) (hl:∀ i∈slots as s.io,Γ'[i]?=some (some 1)) {Q:VK}
    (h:tE K Γ s.ro Γ' (js++slots as s.io) (NP s as) σ H Q):BN K as σ H fun vs H1=>OE K s vs H1 Q E0:=by
  obtain ⟨g,m,P,r,R,k,res,e,q⟩:=h;refine AH as r c e fun ds m1 g1 P1 vs H1 hk ag st ar r1=>?_
  rw [s.eq] at hk;obtain ⟨⟨d,bs⟩,e1,e2⟩:=bind_some' hk;exact Fi hs hn nd hio hl r1 ar e1 fun g2 P2 Pv v H2 st2 rv rz n=>q d _ g2 P2 Pv v H2 e2 (ag.trans (Gz _ bs m1)) (st.trans st2) rv rz n
mutual
noncomputable def nol:Dv->Bool
 | .non | .bl _ | .int _ | .str _=>true
 | .tup ds=>nols ds
 | _=>false
noncomputable def nols:List Dv->Bool
 | []=>true
 | d::ds=>nol d && nols ds
end
mutual
theorem OS {g':G}:∀ {o o':Nat} {d:Dv} {v:V} {Pv:Fp},Rep K g' H o d v Pv->nol d=true->Rep K g H o' d v nop
 | _,_,.non,_,_,h,_ | _,_,.bl _,_,_,h,_ | _,_,.int _,_,_,h,_ | _,_,.str _,_,_,h,_=>by unfold Rep at h ⊢;exact ⟨h.1,fun _ z=>z⟩
 | _,_,.tup ds,v,_,h,e=>by
  unfold Rep at h ⊢;obtain ⟨a,vs,e1,h1,h2⟩:=h;unfold nol at e;exact ⟨a,vs,e1,h1,LF h2 e⟩
 | _,_,.lst _,_,_,_,e | _,_,.dct _ _,_,_,_,e | _,_,.ref _,_,_,_,e | _,_,.scr _,_,_,_,e | _,_,.ty _,_,_,_,e | _,_,.mtp _,_,_,_,e | _,_,.dti _,_,_,_,e=>by unfold nol at e;cases e
theorem LF {g':G}:∀ {o o':Nat} {ds:List Dv} {vs:List V} {Pv:Fp},Reps K g' H o ds vs Pv->nols ds=true->Reps K g H o' ds vs nop
 | _,_,[],_,_,h,_=>by unfold Reps at h ⊢;exact ⟨h.1,fun _ z=>z⟩
 | _,_,d::ds,_,_,h,e=>by
  unfold Reps at h ⊢;obtain ⟨v,r,P1,P2,e1,h1,h2,_,_⟩:=h;unfold nols at e;rw [kX] at e;exact ⟨v,r,nop,nop,e1,OS h1 e.1,LF h2 e.2,fun _ z=>z.elim,fun a=>⟨fun z=>z.elim,fun z=>z.elim id id⟩⟩
end
theorem AL.fz (r:Rel K g H Γ m σ P):∀ {as:List Ar} {ds:List Dv} {vs:List V},AL K g H Γ m σ as ds vs->Reps K (g.add P) H 0 ds vs nop
 | [],ds,vs,h=>by unfold AL at h;obtain ⟨rfl,rfl⟩:=h;exact Reps.nil
 | .ev _ _ _ f::as,ds,vs,h=>by
  unfold AL at h;obtain ⟨d,v,ds',vs',rfl,rfl,h1,h2⟩:=h;exact (Reps.cons (h1.freeze (P:=P) fun _ z=>z.elim) (AL.fz r h2) fun _ z=>z.elim).iff fun a=>⟨fun z=>z.elim,fun z=>z.elim id id⟩
 | .rf i::as,ds,vs,h=>by
  unfold AL at h;obtain ⟨v,ds',vs',rfl,rfl,h1,⟨o,_,ho⟩,h3⟩:=h;obtain ⟨v',P1,e,k,sb⟩:=r.see ho;rw [h1] at e;cases e;exact (Reps.cons (k.freeze (P:=P) sb) (AL.fz r h3) fun _ z=>z.elim).iff fun a=>⟨fun z=>z.elim,fun z=>z.elim id id⟩
theorem XC {n:Nat} {ds:List Dv} {vs:List V} (zd:Zd g H) (h:Reps K g H 0 ds vs nop) (hn:ds.length=n):Rel K g H (RX n []) ds (vs.map some) nop:=by
 refine ⟨zd,fun _=>nop,⟨by unfold RX;simp [hn],by unfold RX;simp [<- hn,h.len],fun i o e=>?_,fun i e a z=>z,fun i j n a z=>z.elim⟩,fun a=>⟨fun z=>z.elim,fun ⟨i,z⟩=>z⟩⟩;obtain ⟨hi,e⟩:=rng_get e;have eo:o=0:=(Option.some.inj e);subst eo;obtain ⟨v,_,ev,rv,_⟩:=h.get (kZ (by omega:i < ds.length));exact ⟨_,v,kZ (by omega),by rw [kn,ev];rfl,rv.z⟩
def Jy (s:Sig) (as:List Ar):Ev Dv:=fun R m k=>AJ as R m fun ds m1=>s.cps R ds fun d _=>bif nol d then k d m1 else none
theorem Qs {s:Sig} (c:AA Γ as Γ' js) (hs:s.io=[]) (hn:as.length=s.ps.length) {Q:VK} (h:tE K Γ 1 Γ' js (Jy s as) σ H Q):BN K as σ H fun vs H1=>OE K s vs H1 Q E0:=by
 obtain ⟨g,m,P,r,R,k,res,e,q⟩:=h;refine AH as r c e fun ds m1 g1 P1 vs H1 hk ag st ar r1=>?_
 rw [s.eq] at hk;obtain ⟨⟨d,bs⟩,e1,e2⟩:=bind_some' hk;cases c:nol d with
 | false=>simp only [c,cond_false] at e2;cases e2
 | true =>
  simp only [c,cond_true] at e2;have fs:Step g1 P1 H1 (g1.add P1) nop H1:=Step.freeze r1.fpOk;refine ⟨g1.add P1,ds,nop,by rw [hs];exact XC (fs.zd r1.zd) (ar.fz r1) (ar.len.1.trans hn),d,bs,e1,fun g' H' v Pv Pb s2 rv _ _=>?_⟩;have sm:Nn H1 H':=fun b o hb=>s2.keep b o hb fun z=>z
  exact q d m1 g1 P1 nop v H' e2 ag ((st.trans (Step.same sm)).less fun _ z=>z.elim id False.elim) (OS rv c) (r1.same sm) fun _ _ z=>z
end
end R
namespace L2
open PySem PySem.Spec PyProof.Rows
section
variable {X:Cx}
def jq:R2:=fun x y H Q=>∃ a v,x=.ref a/\IM H a y (some v)/\Q v H
theorem fY (hu:X.A.units+1 < cLine):RS X jq:=by
 intro value slice pins s σ H x y v u Q I rx ry h hs;obtain ⟨a,z,rfl,g,q⟩:=h;obtain rfl:v=Value.ref a:=rx;have hT:=Li I g;have h2:=Qo (Q:=EP X pins σ Q) (E:=X.xe) (A:=X.A) hu I g ry fun w' s3 I3 rw'=>⟨z,H,I3,rw',q⟩
 unfold subscriptTail;refine wpAny_bind ?_;rw [getitemInPython_of_ne hT.not_modules];refine wpAny_bind (wpAny_specialOf hT PySem.F.slot_dict_getitem.lookup ?_);have fin:wpAny (model X.prog X.w) X.A (subscripted slice false (.ref a) u) (fun r s₃=>wpAny (model X.prog X.w) X.A (letTemporaryGo value (.ref a) r >>= fun _=>pure r) (EP X pins σ Q) X.xe s₃) X.xe s:=by
  rw [hs];exact wpAny_operating (wpAny_mono h2 (fun r s₃ h₃=>wpAny_bind (wpAny_letTemporaryGo (wpAny_pure h₃))) fun _ _ x=>x)
 first
  | exact wpAny_pure (wpAny_bind fin)
  | exact wpAny_bind (wpAny_pure (wpAny_bind fin))
  | exact wpAny_bind fin
def jo:MJ:=fun o i v H Q=>∃ a H',o=.ref a/\Vh H a i v H'/\Q H'
theorem Zw (hu:X.A.units+1 < cLine):KN X jo:=by
 intro pins s σ H o i v ov iv u Q I ro ri rv h;obtain ⟨a,H',rfl,g,q⟩:=h;obtain rfl:ov=Value.ref a:=ro;exact Qn hu I g ri rv fun s4 I4=>⟨H',I4,q⟩
theorem KN.or {t t':MJ} (h:KN X t) (h':KN X t'):KN X (fun o i v H Q=>t o i v H Q\/t' o i v H Q):=by
 intro pins s σ H o i v ov iv u Q I ro ri rv q;rcases q with q | q
 ·exact h pins s σ H o i v ov iv u Q I ro ri rv q
 ·exact h' pins s σ H o i v ov iv u Q I ro ri rv q
def aH (neg:Bool):R2:=fun y x H Q=>∃ a o,x=.ref a/\IM H a y o/\Q (.bl (if neg then !o.isSome else o.isSome)) H
theorem bE (hu:X.A.units+1 < cLine):Br X (compareOp .In) (aH false):=by
 intro pins s σ H y x u v Q I ry rx h;obtain ⟨a,o,rfl,g,q⟩:=h;obtain rfl:v=Value.ref a:=rx;exact iz hu I g ry fun s3 I3=>⟨.bl o.isSome,H,I3,rfl,q⟩
theorem Wq (hu:X.A.units+1 < cLine):Br X (compareOp .NotIn) (aH true):=by
 intro pins s σ H y x u v Q I ry rx h;obtain ⟨a,o,rfl,g,q⟩:=h;obtain rfl:v=Value.ref a:=rx;exact XY hu I g ry fun s3 I3=>⟨.bl (!o.isSome),H,I3,rfl,q⟩
def Yk:List V->Hp->VK->Prop:=fun xs H Q=>∃ a kvs,xs=[V.ref a]/\H a=some (.dK kvs)/\Q (.int kvs.length) H
theorem NZ:Aq X (.builtin "len") Yk:=Qy
end
end L2
namespace R
open PySem L2
def Oa:Dv->Option BB
 | .int i=>some (.inl i)
 | .str l=>some (.inr (tx l))
 | _=>none
def Ll (k:BB):List BB->List Dv->Option Dv
 | j::ks,d::ds=>if j=k then some d else Ll k ks ds
 | _,_=>none
def Xa (k:BB) (ks:List BB):List BB:=if ks.any (fun j=>decide (j=k))=true then ks else ks++[k]
def Qp (k:BB) (x:Dv):List BB->List Dv->List Dv
 | j::ks,d::ds=>(if j=k then x else d)::Qp k x ks ds
 | _,_=>[]
def XZ (k:BB) (x:Dv) (ks:List BB) (ds:List Dv):List Dv:=if ks.any (fun j=>decide (j=k))=true then Qp k x ks ds else ds++[x]
section
variable {K:W.Frag} {g:G} {H:Hp}
theorem Jp {o:Nat} {d:Dv} {v:V} {P:Fp} {k:BB} (h:Rep K g H o d v P) (e:Oa d=some k):v=kV k:=by
 cases d with
 | int i=>cases e;unfold Rep at h;exact h.1
 | str l=>cases e;unfold Rep at h;exact h.1
 | _=>cases e
theorem Lj {k:BB}:∀ {ks:List BB} {ds:List Dv} {us:List V} {R:Fp} {d:Dv},Reps K g H 0 ds us R->Ll k ks ds=some d->∃ v,Et (ks.zip us) k=some v/\Rep K g H 0 d v nop
 | [],ds,us,R,d,_,e=>by cases ds<;>cases e
 | j::ks,[],us,R,d,_,e=>by cases e
 | j::ks,x::ds,us,R,d,h,e=>by
  unfold Reps at h;obtain ⟨v,r,P1,P2,rfl,h1,h2,_⟩:=h;unfold Ll at e;split at e
  ·rename_i c;cases e;exact ⟨v,by rw [lx];exact DL c,h1.z⟩
  ·rename_i c;obtain ⟨w,e1,e2⟩:=Lj h2 e;exact ⟨w,by rw [lx,DM c];exact e1,e2⟩
theorem JG {k:BB}:∀ {ks:List BB} {ds:List Dv} {us:List V},ks.length=ds.length->ds.length=us.length->(Et (ks.zip us) k).isSome=(Ll k ks ds).isSome
 | [],[],_,_,_=>rfl
 | j::ks,d::ds,[],_,h=>by cases h
 | j::ks,d::ds,u::us,h1,h2=>by
  have ih:=JG (k:=k) (ks:=ks) (ds:=ds) (us:=us) (by simpa using h1) (by simpa using h2);rw [lx];unfold Ll
  by_cases c:j=k
  ·rw [DL (p:=(j,u)) c,if_pos c];rfl
  ·rw [DM (p:=(j,u)) c,if_neg c];exact ih
theorem UZ {k:BB} {x:Dv} {w:V} {ks:List BB} {ds:List Dv} {us:List V} {R:Fp} (hl:ks.length=ds.length) (h:Reps K g H 0 ds us R) (hx:Rep K g H 0 x w nop) :
    ∃ us',FR (ks.zip us) k w=(Xa k ks).zip us'/\Reps K g H 0 (XZ k x ks ds) us' nop/\(Xa k ks).length=(XZ k x ks ds).length:=by
  have hl2:ks.length=us.length:=by rw [hl,h.len]
  have any_eq:∀ {ks:List BB} {us:List V},ks.length=us.length->((ks.zip us).any fun kv=>decide (kv.1=k))=ks.any fun j=>decide (j=k):=fun {ks us} h=>by
    induction ks generalizing us with
    | nil=>rfl
    | cons j ks ih =>
      cases us with
      | nil=>cases h
      | cons u us=>rw [lx,mI,mI,ih (by simpa using h)]
  unfold FR Xa XZ;rw [any_eq hl2]
  by_cases c:(ks.any fun j=>decide (j=k))=true
  · rw [if_pos c,if_pos c,if_pos c];have:∀ {ks:List BB} {ds:List Dv} {us:List V} {R:Fp},ks.length=ds.length->Reps K g H 0 ds us R->∃ us',((ks.zip us).map fun kv=>if kv.1=k then (kv.1,w) else kv)=ks.zip us'/\Reps K g H 0 (Qp k x ks ds) us' nop/\ks.length=(Qp k x ks ds).length:=fun {ks ds us R} hl h=>by
      induction ks generalizing ds us R with
      | nil=>exact ⟨[],by simp,by cases ds<;>exact Reps.nil,by cases ds<;>rfl⟩
      | cons j ks ih =>
        cases ds with
        | nil=>cases hl
        | cons d ds =>
          unfold Reps at h;obtain ⟨v,r,P1,P2,rfl,h1,h2,_⟩:=h;obtain ⟨us',e1,e2,e3⟩:=ih (by simpa using hl) h2;refine ⟨(if j=k then w else v)::us',?_,?_,by simp [Qp];omega⟩
          · rw [lx,ko,lx,e1]
            by_cases q:j=k<;>simp [q]
          · unfold Qp;refine ((Reps.cons (P1:=nop) (P2:=nop) ?_ e2 (fun _ z=>z.elim)).iff fun a=>⟨fun z=>z.elim,fun z=>z.elim id id⟩)
            by_cases q:j=k
            · rw [if_pos q,if_pos q];exact hx
            · rw [if_neg q,if_neg q];exact h1.z
    exact this hl h
  · rw [if_neg c,if_neg c,if_neg c];refine ⟨us++[w],?_,?_,by simp [hl]⟩
    · rw [List.zip_append hl2];rfl
    · exact (Reps.app (P:=nop) (Q:=nop) h.z ((Reps.cons (P1:=nop) (P2:=nop) hx Reps.nil fun _ z=>z.elim).iff fun a=>⟨fun z=>z.elim,fun z=>z.elim id id⟩) fun _ z=>z.elim).iff fun a=>⟨fun z=>z.elim,fun z=>z.elim id id⟩
theorem XX {o:Nat} {ks:List BB} {ds:List Dv} {v:V} {P:Fp} (h:Rep K g H o (.dct ks ds) v P):∃ a us,v=.ref a/\H a=some (.dK (ks.zip us))/\ks.length=ds.length/\Reps K g H 0 ds us nop:=by
 unfold Rep at h;obtain ⟨a,us,e,h1,_,_,⟨h5,R,h6⟩,_⟩:=h;exact ⟨a,us,e,h1,h5,h6.z⟩
theorem Wo {ks:List BB} {ds:List Dv} {v:V} {P:Fp} (h:Rep K g H 1 (.dct ks ds) v P):∃ a us,v=.ref a/\H a=some (.dK (ks.zip us))/\ks.length=ds.length/\Reps K g H 0 ds us nop /\
    ∀ ks' ds' us',ks'.length=ds'.length->Reps K g H 0 ds' us' nop->Step g P H g P (upd H a (.dK (ks'.zip us')))/\Rep K g (upd H a (.dK (ks'.zip us'))) 1 (.dct ks' ds') (.ref a) P:=by
  have ok:=h.fpOk;unfold Rep at h;obtain ⟨a,us,e,h1,h2,h3,⟨h5,R,h6⟩,h4⟩:=h;have pa:P a:=(h4 a).mpr ⟨by decide,rfl⟩;refine ⟨a,us,e,h1,h5,h6.z,fun ks' ds' us' hl hr=>?_⟩;have st:Step g P H g P (upd H a (.dK (ks'.zip us'))):=by
    refine ⟨fun b o hb n=>?_,fun b hb=>?_,fun _ z=>z,fun _ z=>.inl z,⟨[],by simp⟩,fun _ z=>.inl z,fun z b hb q=>?_⟩
    · unfold upd;rw [if_neg fun e=>n (by rw [e];exact pa)];exact hb
    · unfold upd at hb;split at hb
      · cases hb
      · exact hb
    · unfold upd at q;split at q
      · cases q
      · exact z b hb q
  refine ⟨st,?_⟩;unfold Rep;exact ⟨a,us',rfl,by unfold upd;rw [if_pos rfl],(fun z=>(Nat.one_ne_zero z).elim),(fun _=>h3 (by decide)),⟨hl,nop,hr.held st ok fun _ z=>z.elim⟩,h4⟩
end
noncomputable abbrev Mu:=Dv->List Dv->Option (Dv×Dv)
def YR (K:W.Frag) (p:Mu) (R:V->List V->Hp->VK->Prop):Prop:=∀ g H x v P ds us r y Q,Zd g H->Rep K g H 1 x v P->Reps K g H 0 ds us nop->p x ds=some (r,y) ->
 (∀ w H' P',Step g P H g P' H'->Rep K g H' 1 y v P'->Rep K g H' 0 r w nop->Q w H')->R v us H Q
noncomputable def kind:Dv->String
 | .lst _ => "list"
 | .scr _ => "list"
 | .str _ => "str"
 | .int _ => "int"
 | .dti _ => "dict"
 | .dct _ _ => "dict"
 | .tup _ => "tuple"
 | _ => "?"
def DY {α:Type} (T:String) (d:Dv) (o:Option α):Option α:=if kind d=T then o else none
theorem DX {α:Type} {T:String} {d:Dv} {o:Option α} {a:α} (h:DY T d o=some a):kind d=T/\o=some a:=by
 unfold DY at h;split at h
 ·rename_i z;exact ⟨z,h⟩
 ·cases h
def UF (T:String) (i:Nat) (p:Mu) (fa:Ev (List Dv)):Ev Dv:=fun R m k=>DY T (m.at i) (fa R m fun ds m1=>(p (m1.at i) ds).bind fun r=>k r.1 (m1.set i r.2))
section
variable {K:W.Frag} {g:G} {H:Hp} {σ:St} {Γ Γ':Gm} {js:List Nat} {as:List Ar}
theorem MO {o:Nat} {d:Dv} {v:V} {P:Fp} {T:String} (h:Rep K g H o d v P) (e:kind d=T) (hT:T = "list" \/ T = "str" \/ T = "int" \/ T = "dict"):hU K T v H:=by
 subst e;cases d with
 | lst ds=>unfold Rep at h;obtain ⟨a,vs,P',rfl,h1,_⟩:=h;exact .inl ⟨rfl,vs,.inl (.inl h1.1)⟩
 | scr ns=>unfold Rep at h;obtain ⟨⟨a,rfl,h1⟩,_⟩:=h;exact .inl ⟨rfl,_,h1.sq⟩
 | str l=>unfold Rep at h;rw [h.1];rfl
 | int i=>unfold Rep at h;rw [h.1];rfl
 | dti l=>unfold Rep at h;obtain ⟨a,rfl,h1,_⟩:=h;exact .inr (.inr (.inl ⟨rfl,.inr ⟨_,h1⟩⟩))
 | dct ks l=>unfold Rep at h;obtain ⟨a,vs,rfl,h1,_⟩:=h;exact .inr (.inr (.inl ⟨rfl,.inl ⟨_,h1⟩⟩))
 | _=>rcases hT with h | h | h | h<;>simp [kind] at h
theorem Wy {T:String} {i:Nat} {p:Mu} {R:V->List V->Hp->VK->Prop} (hR:YR K p R) (hT:T = "list" \/ T = "str" \/ T = "int" \/ T = "dict") (c:AA Γ as Γ' js) (he:evd as=true) (h0:∃ o,Γ[i]?=some (some o)) (hi:Γ'[i]?=some (some 1)) {Q:VK}
    (h:tE K Γ 0 Γ' (js++[i]) (UF T i p (AJ as)) σ H Q):dn K T R (Ex i) (BN K as) σ H Q:=by
  obtain ⟨g,m,P,r,R',k,res,e,q⟩:=h;obtain ⟨e0,e⟩:=DX e;obtain ⟨o0,h0⟩:=h0;obtain ⟨v0,P0,ev0,rv0,_⟩:=r.see h0;refine ⟨v0,ev0,MO rv0 e0 hT,AH as r c e fun ds m1 g1 P1 vs H1 hk ag s ar r1=>?_⟩;obtain ⟨⟨rs,y⟩,e1,e2⟩:=bind_some' hk;obtain ⟨v,Pa,Pr,ev,em,rv,r2,n,hP⟩:=r1.take hi;rw [ev0] at ev;cases ev;refine hR g1 H1 _ v0 Pa ds vs rs y Q r1.zd rv (ar.reps he) e1 fun w H2 P' s2 ry rr=>?_
  have r3:=r2.held s2 rv.fpOk fun a q z=>n a z q
  have n3:=s2.out r2.fpOk fun a q z=>n a z q
  have hil:i < Γ'.length:=(ka.mp hi).1;obtain ⟨P4,r4,sp⟩:=r3.putIn hil ev0 ry fun a q z=>n3 a z q
  rw [EU hi] at r4;refine q rs _ g1 P4 nop w H2 e2 (ag.trans BW.set) (s.trans ((s2.frame (R:=Pr)).sub (fun a z=>(hP a).mpr z) fun a z=>z.elim (fun z=>sp a z) False.elim)) rr r4 fun _ _ z=>z
theorem Step.upd {a:Addr} {o:HO} {P':Fp} (h:H a≠none) (hs:∀ b,P' b->b=a\/H b=none):Step g (fun b=>b=a) H g P' (upd H a o):=by
 have dm:∀ b,L2.upd H a o b=none->H b=none:=fun b q=>by
  by_cases hb:b=a
  ·subst hb;rw [BQ] at q;cases q
  ·rw [AN hb] at q;exact q
 exact ⟨fun b u q n=>by rw [AN n];exact q,dm,fun _ q=>q,fun _ q=>.inl q,⟨[],by simp⟩,hs,fun z b q e=>z b q (dm b e)⟩
theorem GP {xs:List Dv} {v:V} {P:Fp} (h:Rep K g H 1 (.lst xs) v P):∃ a vs,v=.ref a/\H a=some (.lst vs)/\¬ g.Z a/\Reps K g H 0 xs vs nop/\(∀ b,P b↔b=a) /\
    ∀ ws,Step g P H g P (upd H a (.lst ws))/\(∀ {d:Dv} {u:V},Rep K g H 0 d u nop->Rep K g (upd H a (.lst ws)) 0 d u nop)/\∀ ys,Reps K g H 0 ys ws nop->Rep K g (upd H a (.lst ws)) 1 (.lst ys) (.ref a) P:=by
  unfold Rep at h;obtain ⟨a,vs,P',rfl,h1,h2,h3,h5⟩:=h;have hP:∀ b,P b↔b=a:=fun b=>by rw [h5 b];exact ⟨fun z=>z.elim (fun z=>z.2) fun z=>(h2.none0 b z).elim,fun z=>.inl ⟨by decide,z⟩⟩
  have eP:P=fun b=>b=a:=funext fun b=>propext (hP b)
  have hz:=h1.2.2 (by decide);have oka:FpOk g H fun b=>b=a:=fun b q=>by subst q;exact ⟨by rw [h1.1];trivial,hz⟩
  refine ⟨a,vs,rfl,h1.1,hz,h2.z,hP,fun ws=>?_⟩;have st:Step g (fun b=>b=a) H g (fun b=>b=a) (upd H a (.lst ws)):=Step.upd (by rw [h1.1];simp) fun b z=>.inl z
  refine ⟨by rw [eP];exact st,fun r=>r.held st oka fun _ z=>z.elim,fun ys r=>?_⟩;unfold Rep;exact ⟨a,ws,nop,rfl,⟨BQ,(fun z=>by cases z),fun _=>hz⟩,r.held st oka fun _ z=>z.elim,fun z=>z,fun b=>by rw [hP b];exact ⟨fun z=>.inl ⟨by decide,z⟩,fun z=>z.elim (fun z=>z.2) False.elim⟩⟩
theorem Eb:∀ {ds:List Dv} {vs:List V},Reps K g H 0 ds vs nop↔ds.length=vs.length/\∀ (i:Nat) (d:Dv) (v:V),ds[i]?=some d->vs[i]?=some v->Rep K g H 0 d v nop
 | [],vs=>⟨fun h=>⟨h.len,fun i d v e=>by simp at e⟩,fun h=>by
  have:vs=[]:=lz h.1.symm;subst this;exact Reps.nil⟩
 | x::xs,vs=>by
  refine ⟨fun h=>⟨h.len,fun i d v e1 e2=>?_⟩,fun h=>?_⟩
  ·obtain ⟨v',P,e',r,_⟩:=h.get e1;rw [e2] at e';cases e';exact r.z
  ·cases vs with
   | nil=>simp at h
   | cons v vs =>
    exact (Reps.cons (h.2 0 x v rfl rfl) (Eb.mpr ⟨by simpa using h.1,fun i d u e1 e2=>h.2 (i+1) d u (by simpa using e1) (by simpa using e2)⟩) fun _ z=>z.elim).iff fun a=>⟨fun z=>z.elim,fun z=>z.elim id id⟩
theorem Ba {ds es:List Dv} {vs us:List V} (h:Reps K g H 0 ds vs nop) (k:Reps K g H 0 es us nop):Reps K g H 0 (ds++es) (vs++us) nop:=(Reps.app h k fun _ z=>z.elim).iff fun a=>⟨fun z=>z.elim,fun z=>z.elim id id⟩
theorem FO {d:Dv} {v:V} (h:Rep K g H 0 d v nop):Reps K g H 0 [d] [v] nop:=(Reps.cons h Reps.nil fun _ z=>z.elim).iff fun a=>⟨fun z=>z.elim,fun z=>z.elim id id⟩
theorem Au {d:Dv} {ds:List Dv} {vs:List V} (h:Reps K g H 0 (d::ds) vs nop):∃ v us,vs=v::us/\Rep K g H 0 d v nop/\Reps K g H 0 ds us nop:=by
 unfold Reps at h;obtain ⟨v,r,P1,P2,rfl,h1,h2,_⟩:=h;exact ⟨v,r,rfl,h1.z,h2.z⟩
theorem BE {vs:List V} (h:Reps K g H 0 [] vs nop):vs=[]:=by unfold Reps at h;exact h.1
theorem Pt {ds:List Dv} {vs:List V} {d:Dv} {v:V} (j:Nat) (h:Reps K g H 0 ds vs nop) (r:Rep K g H 0 d v nop):Reps K g H 0 (ds.set j d) (vs.set j v) nop:=by
 have h0:=Eb.mp h;refine Eb.mpr ⟨by simp [h0.1],fun i x y e1 e2=>?_⟩;rcases Dk e1 with ⟨rfl,rfl⟩ | ⟨n,e1⟩
 ·rcases Dk e2 with ⟨_,rfl⟩ | ⟨n,_⟩
  ·exact r
  ·exact (n rfl).elim
 ·rcases Dk e2 with ⟨z,_⟩ | ⟨_,e2⟩
  ·exact (n z).elim
  ·exact h0.2 i x y e1 e2
theorem Dq {o:Nat}:Rep K g H o .non .non nop:=by unfold Rep;exact ⟨rfl,fun _ z=>z⟩
noncomputable def BA (x:Dv) (ds:List Dv):Option (Dv×Dv):=match x,ds with
 | .lst xs,[d]=>if xs.length<=1000000 then some (.non,.lst (xs++[d])) else none
 | _,_=>none
noncomputable def Bi (x:Dv) (ds:List Dv):Option (Dv×Dv):=match x,ds with
 | .lst xs,[.lst ys]=>if xs.length+ys.length<=1000000 then some (.non,.lst (xs++ys)) else none
 | .lst xs,[.tup ys]=>if xs.length+ys.length<=1000000 then some (.non,.lst (xs++ys)) else none
 | _,_=>none
theorem QL:YR K BA OM:=fun g H x v P ds us r y Q zd rx rd e k=>by
 unfold BA at e;split at e
 ·rename_i xs d;split at e
  ·rename_i hl;cases e;obtain ⟨a,vs,rfl,ha,hz,hx,hP,go⟩:=GP rx;obtain ⟨u,us',rfl,hu,h2⟩:=Au rd;cases BE h2;obtain ⟨s,hd,mk⟩:=go (vs++[u]);exact ⟨a,vs,u,rfl,rfl,ha,nN (by rw [<- hx.len];exact hl) (by decide),k _ _ P s (mk _ (Ba hx (FO hu))) Dq⟩
  ·cases e
 ·cases e
theorem QK:YR K Bi (fun x vs H Q=>OL x vs H Q\/Ko x vs H Q):=fun g H x v P ds us r y Q zd rx rd e k=>by
 unfold Bi at e;split at e
 ·rename_i xs ys;split at e
  ·rename_i hl;cases e;obtain ⟨a,vs,rfl,ha,hz,hx,hP,go⟩:=GP rx;obtain ⟨u,us',rfl,hu,h2⟩:=Au rd;cases BE h2;unfold Rep at hu;obtain ⟨b,ws,P',rfl,h1,h3,_⟩:=hu;obtain ⟨s,hd,mk⟩:=go (vs++ws);exact .inl ⟨a,b,vs,ws,rfl,rfl,ha,h1.1,lI (by rw [<- hx.len,<- h3.len];exact hl) (by decide),k _ _ P s (mk _ (Ba hx h3.z)) Dq⟩
  ·cases e
 ·rename_i xs ys;split at e
  ·rename_i hl;cases e;obtain ⟨a,vs,rfl,ha,hz,hx,hP,go⟩:=GP rx;obtain ⟨u,us',rfl,hu,h2⟩:=Au rd;cases BE h2;unfold Rep at hu;obtain ⟨b,ws,rfl,h1,h3⟩:=hu;obtain ⟨s,hd,mk⟩:=go (vs++ws);exact .inr ⟨a,b,vs,ws,rfl,rfl,ha,h1,lI (by rw [<- hx.len,<- h3.len];exact hl) (by decide),k _ _ P s (mk _ (Ba hx h3.z)) Dq⟩
  ·cases e
 ·cases e
end
def ZJ (i:Nat) (p:Dv->Dv->Dv->Option Dv) (f:Ev Dv) (fk:Ev (List Dv)):Es:=fun R m k=>f R m fun d m1=>fk R m1 fun ks m2=>match ks with | [j]=>(p (m2.at i) j d).bind fun y=>k.nx (m2.set i y) | _=>none
def DF (x k d:Dv):Option Dv:=match x,k with
 | .lst xs,.int k=>(LO xs.length k).bind fun j=>some (.lst (xs.set j d))
 | .dct ks ds,k=>(Oa k).bind fun k=>if ks.length<=1000000 then some (.dct (Xa k ks) (XZ k d ks ds)) else none
 | _,_=>none
def Vf (K:W.Frag) (p:Dv->Dv->Dv->Option Dv) (T:MJ):Prop:=∀ g H x v P j vj d u y (Q:Hp->Prop),Zd g H->Rep K g H 1 x v P->RA K g H [j] [vj]->Rep K g H 0 d u nop->p x j d=some y->(∀ H' P',Step g P H g P' H'->Rep K g H' 1 y v P'->Q H')->T v vj u H Q
theorem Zv {K:W.Frag}:Vf K DF (fun o i v H Q=>Si o i v H Q\/jo o i v H Q):=fun g H x v P j vj d u y Q zd rx rj rd e q=>by
 unfold DF at e;split at e
 ·rename_i xs kk;obtain ⟨jj,ej,e⟩:=bind_some' e;cases e;obtain ⟨a,vs,rfl,ha,hz,hx,hP,go⟩:=GP rx;unfold RA at rj;obtain ⟨w,wr,o,Po,ew,_,rw',_⟩:=rj;cases ew;rw [rep_int rw'];obtain ⟨s,hd,mk⟩:=go (vs.set jj u);exact .inl ⟨a,vs,kk,jj,rfl,rfl,ha,by rw [<- hx.len];exact ej,q _ P s (mk _ (Pt jj hx rd))⟩
 ·rename_i ks ds;obtain ⟨k,ek,e⟩:=bind_some' e;split at e
  ·rename_i hl;cases e;obtain ⟨a,us,rfl,ha,hl2,hx,go⟩:=Wo rx;unfold RA at rj;obtain ⟨w,wr,o,Po,ew,_,rw',_⟩:=rj;cases ew;obtain ⟨us',e1,e2,e3⟩:=UZ (k:=k) hl2 hx rd;obtain ⟨s,mk⟩:=go _ _ us' e3 e2;refine .inr ⟨a,_,rfl,?_,q _ P s mk⟩;rw [Jp rw' ek,<- e1];refine Vh.k ha ?_;have:(ks.zip us).length<=ks.length:=by rw [List.length_zip];omega
   have z:(1000000:Nat) < sizeLine:=by decide
   omega
  ·cases e
 ·cases e
section
variable {K:W.Frag} {F:Fr} {Γl:Option Gm} {Γ Γ1 Γ':Gm} {js js2:List Nat} {i:Nat} {f:Ev Dv} {a:Ar} {p:Dv->Dv->Dv->Option Dv} {T:MJ}
theorem SQ (hp:Vf K p T) (c:AA Γ1 [a] Γ' js2) (h0:∃ o,Γ1[i]?=some (some o)) (hi:Γ'[i]?=some (some 1)) {D:Ends} {σ:St} {H:Hp} (h:tS K F Γl Γ (some Γ') (js++(js2++[i])) (ZJ i p f (AJ [a])) D σ H):Kb (tE K Γ 0 Γ1 js f) (Tu (Ex i) (Ez K a) T) D σ H:=by
 obtain ⟨g,m,P,r,R,k,res,e,q⟩:=h;refine ⟨g,m,P,r,R,_,res,e,fun d m1 g1 P1 Pv u H1 hk ag s rv r1 n=>?_⟩;obtain ⟨o0,h0⟩:=h0;obtain ⟨v0,P0,ev0,_,_⟩:=r1.see h0;refine ⟨v0,ev0,?_⟩;have rz:=rv.z;have s':Step g P H g1 P1 H1:=s.less fun _ z=>.inl z
 have key:BN K [a] σ H1 fun vs H2=>∃ w,vs=[w]/\T v0 w u H2 fun H3=>D.nx σ H3:=by
  refine AH [a] r1 c hk fun ds m2 g2 P2 vs H2 hk2 ag2 s2 ar r2=>?_
  have al:=ar.len;have ra:=ar.ra r2
  match ds,al.1,hk2,ra with
  | [j],_,hk2,ra =>
   have ra0:=ra;unfold RA at ra;obtain ⟨w,wr,o,Po,rfl,_,h1,h2⟩:=ra;unfold RA at h2;subst h2;obtain ⟨y,e1,e2⟩:=bind_some' hk2;obtain ⟨v,Pa,Pr,ev,em,rx,r3,n3,hP⟩:=r2.take hi;rw [ev0] at ev;cases ev;refine ⟨w,rfl,hp g2 H2 _ v0 Pa j w d u y _ r2.zd rx ra0 (rz.held s2 r1.fpOk fun _ z=>z.elim) e1 fun H3 P' s3 ry=>?_⟩;have r4:=r3.held s3 rx.fpOk fun a q z=>n3 a z q
   have n4:=s3.out r3.fpOk fun a q z=>n3 a z q
   obtain ⟨P5,r5,sp⟩:=r4.putIn (ka.mp hi).1 ev0 ry fun a q z=>n4 a z q
   rw [EU hi] at r5;exact q.nx Γ' _ g2 P5 σ H3 rfl e2 (ag.trans (ag2.trans BW.set)) ((s'.trans s2).trans ((s3.frame (R:=Pr)).sub (fun a z=>(hP a).mpr z) fun a z=>sp a z)) Io.refl r5
 have mono:∀ (Q1 Q2:VK),(∀ v H,Q1 v H->Q2 v H)->Ez K a σ H1 Q1->Ez K a σ H1 Q2:=by
  intro Q1 Q2 h12 t;cases a with
  | ev Γa Γb ja fa =>
   obtain ⟨g,m,P,r,R,k,res,e,q⟩:=t;exact ⟨g,m,P,r,R,k,res,e,fun d m' g' P' Pv v H' h1 h2 h3 h4 h5 h6=>h12 _ _ (q d m' g' P' Pv v H' h1 h2 h3 h4 h5 h6)⟩
  | rf i=>obtain ⟨v,e,q⟩:=t;exact ⟨v,e,h12 _ _ q⟩
 refine mono _ _ (fun v H2 z=>?_) key;obtain ⟨w,ew,z⟩:=z;cases ew;exact z
end
def UG (T:String) (a:Ar) (as:List Ar) (p:Pr):Ev Dv:=match a with
 | .rf i=>fun R m k=>DY T (m.at i) (AJ as R m fun ds m1=>(p (m1.at i::ds)).bind fun d=>k d m1)
 | .ev _ _ _ f=>fun R m k=>f R m fun x m1=>DY T x (AJ as R m1 fun ds m2=>(p (x::ds)).bind fun d=>k d m2)
def ZX (r:V->List V->Hp->VK->Prop):Np:=fun vs H Q=>match vs with | x::us=>r x us H Q | _=>False
theorem bJ {K:W.Frag} {σ:St} {H:Hp} {Γ Γ':Gm} {js:List Nat} {T:String} {a:Ar} {as:List Ar} {p:Pr} {o:Nat} {r:V->List V->Hp->VK->Prop} (hp:AF K p o (ZX r)) (hT:T = "list" \/ T = "str" \/ T = "int" \/ T = "dict") (c:AA Γ (a::as) Γ' js) {Q:VK}
    (h:tE K Γ o Γ' js (UG T a as p) σ H Q):dn K T r (Ez K a) (BN K as) σ H Q:=by
  obtain ⟨g,m,P,rl,R',k,res,e,q⟩:=h;cases a with
  | rf i =>
    obtain ⟨e0,e⟩:=DX e;unfold AA at c;obtain ⟨⟨o0,h0⟩,⟨o1,hl1,h1⟩,c⟩:=c;obtain ⟨v0,P0,ev0,rv0,_⟩:=rl.see h0;refine ⟨v0,ev0,MO rv0 e0 hT,AH as rl c e fun ds m1 g1 P1 vs H1 hk ag s ar r1=>?_⟩;obtain ⟨d,e1,e2⟩:=bind_some' hk;obtain ⟨v1,P1',ev1,rv1,_⟩:=r1.see h1;rw [ev0] at ev1;cases ev1;refine hp g1 H1 _ (v0::vs) d Q r1.zd (by unfold RA;exact ⟨v0,vs,o1,P1',rfl,hl1,rv1,ar.ra r1⟩) e1 fun v H2 nw=>?_
    obtain ⟨Pv,s2,h1,r2,n2⟩:=AU.go s r1 nw;exact q d m1 g1 P1 Pv v H2 e2 ag s2 h1 r2 n2
  | ev Γ1 Γ2 js1 f =>
    unfold AA at c;obtain ⟨rfl,js2,rfl,c⟩:=c;refine ⟨g,m,P,rl,R',_,res,e,fun x m1 g1 P1 Pv v0 H1 hk ag s rv r1 n=>?_⟩;obtain ⟨e0,hk⟩:=DX hk;have rz:=rv.z;have s':Step g P H g1 P1 H1:=s.less fun _ z=>.inl z
    refine ⟨MO rz e0 hT,AH as r1 c hk fun ds m2 g2 P2 vs H2 hk2 ag2 s2 ar r2=>?_⟩;obtain ⟨d,e1,e2⟩:=bind_some' hk2;refine hp g2 H2 _ (v0::vs) d Q r2.zd (by unfold RA;exact ⟨v0,vs,0,nop,rfl,by decide,rz.held s2 r1.fpOk fun _ z=>z.elim,ar.ra r2⟩) e1 fun v H3 nw=>?_
    obtain ⟨Pw,s3,h1,r3,n3⟩:=AU.go (s'.trans s2) r2 nw;exact q d m2 g2 P2 Pw v H3 e2 (ag.trans ag2) s3 h1 r3 n3
theorem XA {K:W.Frag} {σ:St} {H:Hp} {Γ Γ':Gm} {js:List Nat} {a:Ar} {as:List Ar} {p:Pr} {o:Nat} {r:V->List V->Hp->VK->Prop} (hp:AF K p o (ZX r)) (c:AA Γ (a::as) Γ' js) {Q:VK}
    (h:tE K Γ o Γ' js (UG "tuple" a as p) σ H Q):iP r (Ez K a) (BN K as) σ H Q:=by
  obtain ⟨g,m,P,rl,R',k,res,e,q⟩:=h
  have ty:∀ {g:G} {H:Hp} {o:Nat} {d:Dv} {v:V} {P:Fp},Rep K g H o d v P->kind d = "tuple" -> ∃ a us,v=.ref a/\H a=some (.tup us):=fun {g H o d v P} h e=>by
    cases d with
    | tup ds=>unfold Rep at h;obtain ⟨a,vs,rfl,h1,_⟩:=h;exact ⟨a,vs,rfl,h1⟩
    | _=>simp [kind] at e
  cases a with
  | rf i =>
    obtain ⟨e0,e⟩:=DX e;unfold AA at c;obtain ⟨⟨o0,h0⟩,⟨o1,hl1,h1⟩,c⟩:=c;obtain ⟨v0,P0,ev0,rv0,_⟩:=rl.see h0;refine ⟨v0,ev0,ty rv0 e0,AH as rl c e fun ds m1 g1 P1 vs H1 hk ag s ar r1=>?_⟩;obtain ⟨d,e1,e2⟩:=bind_some' hk;obtain ⟨v1,P1',ev1,rv1,_⟩:=r1.see h1;rw [ev0] at ev1;cases ev1;refine hp g1 H1 _ (v0::vs) d Q r1.zd (by unfold RA;exact ⟨v0,vs,o1,P1',rfl,hl1,rv1,ar.ra r1⟩) e1 fun v H2 nw=>?_
    obtain ⟨Pv,s2,h1,r2,n2⟩:=AU.go s r1 nw;exact q d m1 g1 P1 Pv v H2 e2 ag s2 h1 r2 n2
  | ev Γ1 Γ2 js1 f =>
    unfold AA at c;obtain ⟨rfl,js2,rfl,c⟩:=c;refine ⟨g,m,P,rl,R',_,res,e,fun x m1 g1 P1 Pv v0 H1 hk ag s rv r1 n=>?_⟩;obtain ⟨e0,hk⟩:=DX hk;have rz:=rv.z;have s':Step g P H g1 P1 H1:=s.less fun _ z=>.inl z
    refine ⟨ty rz e0,AH as r1 c hk fun ds m2 g2 P2 vs H2 hk2 ag2 s2 ar r2=>?_⟩;obtain ⟨d,e1,e2⟩:=bind_some' hk2;refine hp g2 H2 _ (v0::vs) d Q r2.zd (by unfold RA;exact ⟨v0,vs,0,nop,rfl,by decide,rz.held s2 r1.fpOk fun _ z=>z.elim,ar.ra r2⟩) e1 fun v H3 nw=>?_
    obtain ⟨Pw,s3,h1,r3,n3⟩:=AU.go (s'.trans s2) r2 nw;exact q d m2 g2 P2 Pw v H3 e2 (ag.trans ag2) s3 h1 r3 n3
def evOr (f g:Ev Dv):Ev Dv:=fun R m k=>(f R m k).or (g R m k)
theorem Zl {K:W.Frag} {Γ Γ':Gm} {js:List Nat} {σ:St} {H:Hp} {o:Nat} {f g:Ev Dv} {Q:VK} (h:tE K Γ o Γ' js (evOr f g) σ H Q):tE K Γ o Γ' js f σ H Q\/tE K Γ o Γ' js g σ H Q:=by
 obtain ⟨g0,m,P,r,R,k,res,e,q⟩:=h;unfold evOr at e;cases e1:f R m k with
 | some z=>rw [e1] at e;exact .inl ⟨g0,m,P,r,R,k,z,e1,by cases e;exact q⟩
 | none=>rw [e1] at e;exact .inr ⟨g0,m,P,r,R,k,res,e,q⟩
def UC (i:Nat) (p:Dv->Dv->Dv->Option Dv) (d:Dv) (fk:Ev (List Dv)):Ev Unit:=fun R m k=>fk R m fun ks m2=>match ks with | [j]=>(p (m2.at i) j d).bind fun y=>k () (m2.set i y) | _=>none
noncomputable def Yt (d:Dv):Option (Dv×Dv):=match d with
 | .tup [a,b]=>some (a,b)
 | _=>none
def ZH (i:Nat) (p:Dv->Dv->Dv->Option Dv) (f:Ev Dv) (f1 f2:Ev (List Dv)):Es:=fun R m k=>f R m fun d m1=>(Yt d).bind fun t=>UC i p t.1 f1 R m1 fun _ m2=>UC i p t.2 f2 R m2 fun _ m3=>k.nx m3
section
variable {K:W.Frag} {F:Fr} {Γl:Option Gm} {Γ Γ1 Γ' Γ'':Gm} {js js2 js3:List Nat} {i:Nat} {f:Ev Dv} {a b:Ar} {p:Dv->Dv->Dv->Option Dv} {T:MJ}
theorem ON (hp:Vf K p T) (c:AA Γ1 [a] Γ' js2) (h0:∃ o,Γ1[i]?=some (some o)) (hi:Γ'[i]?=some (some 1)) {σ:St} {g1:G} {m1:M} {P1:Fp} {H1:Hp} {R:Type} {k:Unit->M->Option R} {res:R} {d:Dv} {u:V} {Q:St->Hp->Prop} (r1:Rel K g1 H1 Γ1 m1 σ P1) (rz:Rep K g1 H1 0 d u nop) (hk:UC i p d (AJ [a]) R m1 k=some res)
    (q:∀ m' g' P' H',k () m'=some res->BW (js2++[i]) m1 m'->Step g1 P1 H1 g' P' H'->Rel K g' H' Γ' m' σ P'->Q σ H'):Tu (Ex i) (Ez K a) T u σ H1 Q:=by
  obtain ⟨o0,h0⟩:=h0;obtain ⟨v0,P0,ev0,_,_⟩:=r1.see h0;refine ⟨v0,ev0,?_⟩;have key:BN K [a] σ H1 fun vs H2=>∃ w,vs=[w]/\T v0 w u H2 fun H3=>Q σ H3:=by
    refine AH [a] r1 c hk fun ds m2 g2 P2 vs H2 hk2 ag2 s2 ar r2=>?_
    have al:=ar.len;have ra:=ar.ra r2
    match ds,al.1,hk2,ra with
    | [j],_,hk2,ra =>
      have ra0:=ra;unfold RA at ra;obtain ⟨w,wr,o,Po,rfl,_,h1,h2⟩:=ra;unfold RA at h2;subst h2;obtain ⟨y,e1,e2⟩:=bind_some' hk2;obtain ⟨v,Pa,Pr,ev,em,rx,r3,n3,hP⟩:=r2.take hi;rw [ev0] at ev;cases ev;refine ⟨w,rfl,hp g2 H2 _ v0 Pa j w d u y _ r2.zd rx ra0 (rz.held s2 r1.fpOk fun _ z=>z.elim) e1 fun H3 P' s3 ry=>?_⟩;have r4:=r3.held s3 rx.fpOk fun a q z=>n3 a z q
      have n4:=s3.out r3.fpOk fun a q z=>n3 a z q
      obtain ⟨P5,r5,sp⟩:=r4.putIn (ka.mp hi).1 ev0 ry fun a q z=>n4 a z q
      rw [EU hi] at r5;exact q _ g2 P5 H3 e2 (ag2.trans BW.set) (s2.trans ((s3.frame (R:=Pr)).sub (fun a z=>(hP a).mpr z) fun a z=>sp a z)) r5
  have mono:∀ (Q1 Q2:VK),(∀ v H,Q1 v H->Q2 v H)->Ez K a σ H1 Q1->Ez K a σ H1 Q2:=by
    intro Q1 Q2 h12 t;cases a with
    | ev Γa Γb ja fa =>
      obtain ⟨g,m,P,r,R,k,res,e,q⟩:=t;exact ⟨g,m,P,r,R,k,res,e,fun d m' g' P' Pv v H' h1 h2 h3 h4 h5 h6=>h12 _ _ (q d m' g' P' Pv v H' h1 h2 h3 h4 h5 h6)⟩
    | rf i=>obtain ⟨v,e,q⟩:=t;exact ⟨v,e,h12 _ _ q⟩
  refine mono _ _ (fun v H2 z=>?_) key;obtain ⟨w,ew,z⟩:=z;cases ew;exact z
theorem Vv (hp:Vf K p T) (c:AA Γ1 [a] Γ' js2) (c2:AA Γ' [b] Γ'' js3) (h0:∃ o,Γ1[i]?=some (some o)) (hi:Γ'[i]?=some (some 1)) (hi2:Γ''[i]?=some (some 1)) {D:Ends} {σ:St} {H:Hp} (h:tS K F Γl Γ (some Γ'') (js++((js2++[i])++(js3++[i]))) (ZH i p f (AJ [a]) (AJ [b])) D σ H):Kb (tE K Γ 0 Γ1 js f) (XM K 2 (LR (Tu (Ex i) (Ez K a) T) (LR (Tu (Ex i) (Ez K b) T) XN))) D σ H:=by
 obtain ⟨g,m,P,r,R,k,res,e,q⟩:=h;refine ⟨g,m,P,r,R,_,res,e,fun d m1 g1 P1 Pv u H1 hk ag s rv r1 n=>?_⟩;have rz:=rv.z;have s':Step g P H g1 P1 H1:=s.less fun _ z=>.inl z
 obtain ⟨⟨d1,d2⟩,ed,hk'⟩:=bind_some' hk;unfold Yt at ed;split at ed
 ·cases ed;unfold Rep at rz;obtain ⟨l,us,rfl,h1,h2⟩:=rz;obtain ⟨u1,us1,rfl,ru1,h3⟩:=Au h2;obtain ⟨u2,us2,rfl,ru2,h4⟩:=Au h3;cases BE h4;refine ⟨l,[u1,u2],rfl,.inl (.inl h1),rfl,u1,[u2],rfl,?_⟩;refine ON hp c h0 hi r1 ru1 hk' fun m2 g2 P2 H2 hk2 ag2 s2 r2=>?_
  refine ⟨u2,[],rfl,?_⟩;refine ON hp c2 ⟨_,hi⟩ hi2 r2 (ru2.held s2 r1.fpOk fun _ z=>z.elim) hk2 fun m3 g3 P3 H3 hk3 ag3 s3 r3=>?_
  exact ⟨rfl,q.nx Γ'' _ g3 P3 σ H3 rfl hk3 (ag.trans (ag2.trans ag3)) ((s'.trans s2).trans s3) Io.refl r3⟩
 ·cases ed
end
end R
namespace L2
open PySem PySem.Spec PyProof.Rows
open AutoSeq1 (wpAny_loadPart')
section
variable {prog:Program} {w:World} {A:Around} {E:Value->Shared->Prop} {s:Shared}
theorem IE {r:Addr} {a b c:Int} {t u v:Tok} {n:Nat} {Q:List Value->Shared->Prop} (hh:A.handled=none) (hr:IsRange s.heap r a b c t u v) (hsmall:Builtin.Range.small a b c=true) (hn:Builtin.Range.rangeSize a b c=n) (hlen:n<=2 ^ 20)
    (hQ:∀ (h':Heap) (tk:Nat) (acc:Array Value),(∀ b o,s.heap.get? b=some o->h'.get? b=some o)->ItemsOf (fun i v=>∃ t,v=.int (a+i * c) t) acc n->Q acc.toList { s with heap:=h',toks:=tk }):wpAny (model prog w) A (collect (.ref r)) Q E s:=by
  unfold collect;refine wpAny_bind (wpAny_runValue (codeAny_builtin F.entry_proto_collect ?_));rw [Around.under_plainId F.plain_proto_collect _]
  show wpAny _ A.in1 (newList [] >>= fun l=>again (.builtin "list.__iadd__" ⟨[l,.ref r],[]⟩)) _ _ s
  refine wpAny_bind (wpAny_newObj_type ?_);refine wpAny_pure ⟨plainId_quiet F.plain_list_iadd _,codeAny_builtin F.entry_list_iadd ?_⟩;rw [Around.under_plainId F.plain_list_iadd _]
  have hS:(s.heap.push { cls:=.type "list", data:=.seq ([]:List Value).toArray }).get? s.heap.objs.size=some { cls:=.type "list", data:=.seq #[] 0 }:=kz _ rfl
  show wpAny _ A.in1 (Builtin.List.listExtendWith (.ref s.heap.objs.size) (.ref r) (.ref s.heap.objs.size)) _ _ _;refine wpAny_extend_range (A:=A) (prog:=prog) (w:=w) (R:=fun r s'=>match r with
    | Except.ok (Flow.ret v)=>wpAny (model prog w) A (match v with
      | Value.ref a=>do
        let o <- load a
        match o.data with
        | Data.seq xs _=>pure xs.toList
        | _=>unsupported "internal:collect"
      | _=>unsupported "internal:collect") Q E s'
    | Except.ok _=>False
    | Except.error e=>E e s') (s:={ s with heap:=s.heap.push { cls:=.type "list", data:=.seq ([]:List Value).toArray } }) hh (kY _ hr) hsmall hn (by omega) s.heap.objs.size (.ref s.heap.objs.size) 0 hS fun h' tk acc' c' hk hS' hacc=>?_
  show wpAny _ A (load s.heap.objs.size >>= _) _ _ _;refine wpAny_bind (wpAny_load hS' ?_);exact wpAny_pure (hQ h' tk acc' (fun b o e=>hk b o (lP (lA e)) (kY _ e)) hacc)
end
theorem DI (r:Addr) (a b c:Int) (t u v:Tok) (n:Nat) (hsmall:Builtin.Range.small a b c=true) (hn:Builtin.Range.rangeSize a b c=n) (hlen:n<=2 ^ 20) :
    Meets (Builtin.«tuple.__new__» ⟨[.type "tuple", .ref r],[]⟩)
      (fun A R s=>A.handled=none/\IsRange s.heap r a b c t u v/\∀ (h':Heap) (tk:Nat) (acc:Array Value),(∀ b o,s.heap.get? b=some o->h'.get? b=some o)->ItemsOf (fun i v=>∃ t,v=.int (a+i * c) t) acc n ->
        R (.ok (.ret (.ref h'.objs.size))) { s with heap:=h'.push { cls:=.type "tuple", data:=.seq acc },toks:=tk }):=
  .of_wp fun prog w A R s h=>by
    obtain ⟨hh,hr,h⟩:=h;have hsub:=sub_tuple_self;have hinit:=init_tuple_lookup;have hmh:=madeHere_tuple
    have hT:s.TypeIs (.ref r) "range" := ⟨_,hr,rfl⟩
    have hh1:A.in1.handled=none:=hh
    wp_walk using wpAny_typeOf hT,IE hh1 hr hsmall hn hlen
    intro h' tk acc hk hacc;show wpAny _ _ (Builtin.Tuple.tupleExact acc.toList.toArray >>= fun v=>ret v) _ _ _;unfold Builtin.Tuple.tupleExact;refine wpAny_bind (wpAny_newObj_type ?_ (show acc.toList.toArray.size<=sizeLine by simp only [Array.toArray_toList];rw [hacc.1,sizeLine_eq];omega));refine wpAny_pure ⟨_,rfl,?_⟩;have e:acc.toList.toArray=acc:=by simp
    rw [e];exact h h' tk acc hk hacc
theorem Fh {prog:Program} {w:World} {A:Around} {E:Value->Shared->Prop} {s:Shared} {Q:Value->Shared->Prop} {r:Addr} {a b c:Int} {t u v:Tok} {n:Nat} (hh:A.handled=none) (hr:IsRange s.heap r a b c t u v) (hsmall:Builtin.Range.small a b c=true) (hn:Builtin.Range.rangeSize a b c=n) (hlen:n<=2 ^ 20)
    (h:∀ (h':Heap) (tk:Nat) (acc:Array Value),(∀ b o,s.heap.get? b=some o->h'.get? b=some o)->ItemsOf (fun i v=>∃ t,v=.int (a+i * c) t) acc n->Q (.ref h'.objs.size) { s with heap:=h'.push { cls:=.type "tuple", data:=.seq acc },toks:=tk }) :
    wpAny (model prog w) A (call (.type "tuple") [.ref r]) Q E s:=by
  refine callType_new F.called_tuple (by decide) (F.typeCall_tuple_1 _) (F.newCall_tuple_1 _) (fun obj=>F.args_object_init_2 obj _) F.entry_tuple_new
    (DI r a b c t u v n hsmall hn hlen) ⟨hh,hr,fun h' tk acc hk hacc=>⟨⟨_,kz _ rfl,rfl⟩,h h' tk acc hk hacc⟩⟩
section
variable {X:Cx} {p1 p2 pos1 pos2:Pos} {es:List Expr} {e:Expr} {ta:TA}
abbrev OB (ta:TA):TE:=fun σ H Q=>ta σ H fun vs H1=>∃ (i j:Int),(vs=[.int j]/\i=0\/vs=[.int i,.int j])/\(-(2 ^ 62)<=i/\i < 2 ^ 62/\-(2 ^ 62)<=j/\j < 2 ^ 62)/\(j - i).toNat<=1000000/\∀ l,H1 l=none->Q (.ref l) (upd H1 l (.tup ((List.range (j - i).toNat).map fun k=>.int (i+(k:Nat)))))
theorem Iq {A:Around} {E:Value->Shared->Prop} {pins:List (Addr×Obj)} {σ:St} {H:Hp} {s:Shared} {Q:VK} {i j:Int} {t u v:Tok} {tk:Nat} (hh:A.handled=none) (I:Inv X pins σ H s) (h1:-(2 ^ 62)<=i) (h2:i < 2 ^ 62) (h3:-(2 ^ 62)<=j) (h4:j < 2 ^ 62) (hl:(j - i).toNat<=1000000)
    (q:∀ l,H l=none->Q (.ref l) (upd H l (.tup ((List.range (j - i).toNat).map fun k=>.int (i+(k:Nat)))))) :
    wpAny (model X.prog X.w) A (call (.type "tuple") [.ref s.heap.objs.size]) (fun v s'=>∃ x H',Inv X pins σ H' s'/\RelV x v/\Q x H') E { s with heap:=s.heap.push { cls:=.type "range", data:=.fields #[.int i t,.int j u,.int 1 v] },toks:=tk }:=by
  have hr:Builtin.Range.rangeSize i j 1=((j - i).toNat:Nat):=by rw [rangeSize_one];split<;>omega
  refine Fh (n:=(j - i).toNat) hh (IsRange.new ..) (small_one h1 h2 h3 h4) hr (by omega) fun h' tk' acc hk hacc=>?_
  have kp:∀ b o,s.heap.get? b=some o->h'.get? b=some o:=fun b o e=>hk b o (kY _ e)
  have hsz:(s.heap.push { cls:=.type "range", data:=.fields #[.int i t,.int j u,.int 1 v] }).objs.size=s.heap.objs.size+1:=mE ..
  have hv:AD ((List.range (j - i).toNat).map fun k=>V.int (i+(k:Nat))) acc.toList:=by
    have:∀ (n m:Nat) (l:List Value),l.length=n->(∀ (q:Nat) (v:Value),l[q]?=some v->∃ t,v=.int (i+((m+q:Nat):Int)) t)->AD ((List.range' m n).map fun k=>V.int (i+(k:Nat))) l:=by
      intro n
      induction n with
      | zero=>intro m l e _;cases l with | nil=>exact .nil | cons a b=>cases e
      | succ n ih =>
        intro m l e h;cases l with
        | nil=>cases e
        | cons a b =>
          rw [nU,ko];refine .cons ?_ (ih (m+1) b (by simpa using e) fun q v hv=>?_)
          · obtain ⟨t,rfl⟩:=h 0 a rfl;exact ⟨t,rfl⟩
          · obtain ⟨t,rfl⟩:=h (q+1) v (by simpa using hv);exact ⟨t,by rw [Nat.add_assoc,mz 1 q]⟩
    rw [List.range_eq_range'];refine this (j - i).toNat 0 acc.toList (by simp [hacc.1]) fun q v hv=>?_
    obtain ⟨t,e⟩:=hacc.2 q v (by simpa using hv);exact ⟨t,by rw [e];simp⟩
  have I1:Inv X pins σ H { s with heap:=h',toks:=tk' }:=I.kept (t':=tk') kp;refine ⟨.ref h'.objs.size,_,I1.laid (t':=tk') (fun b o e=>kY _ e) (kj _) (show AQ X.prog X.w _ _ _ (.tup ((List.range (j - i).toNat).map fun k=>.int (i+(k:Nat)))) from ⟨by rw [kb,mT];exact lI hl (show 1000000<=sizeLine by decide),acc.toList,hv,?_⟩),rfl,q _ (I1.hok.fresh (kj _))⟩;have:=GK.new h' acc;have e:acc.toList.toArray=acc:=by simp
  rw [e];exact this
theorem QE (hc:X.calm=true) (hgL:Gl X "tuple") (hmL:X.mg "tuple" = none) (hgR:Gl X "range") (hmR:X.mg "range" = none) (ha:PA X (e::es) ta)
    (hs1:starEach [.Call (.Name "range" p2) (e::es) [] pos2] X.env=(false,eval (.Call (.Name "range" p2) (e::es) [] pos2) X.env)::starEach [] X.env:=by rfl)
    (hpl1:(backTo pos1 (starEach [] X.env)).any (·.1)=false:=by rfl)
    (hs2:starEach (e::es) X.env=(false,eval e X.env)::starEach es X.env:=by rfl) (hpl2:(backTo pos2 (starEach es X.env)).any (·.1)=false:=by rfl) :
    PE X (.Call (.Name "tuple" p1) [.Call (.Name "range" p2) (e::es) [] pos2] [] pos1) (OB ta):=by
  intro pins s σ H Q I h;refine wpAny_Call_Name_kw (Bc I hgL hmL PyProof.Rows.Boot.«tuple» ?_ (by decide) (by decide));refine lV ?_ hs1 hpl1;rw [hs1]
  show wpAny _ _ (spliced ((false,eval (.Call (.Name "range" p2) (e::es) [] pos2) X.env)::backTo pos1 (starEach [] X.env))) _ _ s
  refine Calls.spliced_cons ?_;refine wpAny_Call_Name_kw (Bc I hgR hmR boot_range ?_ (by decide) (by decide));refine lV (Ah (ha pos2 pins s σ H _ I h) fun us s1 ⟨vs,H1,I1,r1,q1⟩=>?_) hs2 hpl2;obtain ⟨i,j,ev,⟨b1,b2,b3,b4⟩,hl,q⟩:=q1;rcases ev with ⟨ev,rfl⟩ | ev
  · subst ev;cases r1 with
    | cons r rr =>
      cases rr;obtain ⟨t,rfl⟩:=r;refine call_range_1 (Calls.spliced_nil ?_);exact Iq (I1.ok.hd hc) I1 b1 b2 b3 b4 hl q
  · subst ev;cases r1 with
    | cons r rr =>
      cases rr with
      | cons r' rr =>
        cases rr;obtain ⟨t,rfl⟩:=r;obtain ⟨t',rfl⟩:=r';refine call_range_2 (Calls.spliced_nil ?_);exact Iq (I1.ok.hd hc) I1 b1 b2 b3 b4 hl q
end
end L2
namespace L2
open PySem PySem.Spec PyProof.Rows
noncomputable def Vk (d:Value):List (Str×Value):=[("default", d)]
section
variable {prog:Program} {w:World} {A:Around} {E:Value->Shared->Prop} {s:Shared}
theorem QQ {x d:Value} {Q:Value->Shared->Prop} (hc:wpAny (model prog w) A.in1 (Builtin.«max» ⟨[x],Vk d⟩) (fun fin s'=>match fin with
      | .done f=>wants Q E (.ok f) s'
      | .again c'=>c'.quiet=true/\codeAny (model prog w) A c' (wants Q E) s') (fun e s'=>wants Q E (.error e) s') s):wpAny (model prog w) A (call (.builtin "max") [x] (Vk d)) Q E s:=by
  refine wpAny_call (codeAny_call_builtin F.plain_max F.entry_max ?_)
  have ha:argsOk "max" ⟨[x],Vk d⟩:=by unfold argsOk;kernel_rfl
  simp only [checkBuiltinCall,F.kind_max]
  cases hsig:Manifest.signature? "max" with
  | none=>exact wpAny_pure hc
  | some sig =>
    have ha':Bind.checkArgs "max" sig ⟨[x],Vk d⟩=pure ():=by simpa only [argsOk,hsig] using ha
    simp only [ha'];exact wpAny_pure hc
end
section
variable {prog:Program} {w:World} {A:Around} {R:Result->Shared->Prop} {I:Addr} {fp wr:List Addr} {n:Nat} {P:Nat->Value->Prop} {St:Nat->Heap->Prop} {d:Value}
def jY (P:Nat->Value->Prop) (bt:Nat->Nat->Bool) (S:Addr) (j:Nat) (h:Heap):Prop:=∃ c,(j=0/\h.get? S=some { cls:=.type "list", dict:=none,data:=.seq #[] c,slots:=#[] })\/(0 < j/\∃ v,P (argBest bt (j - 1)) v/\h.get? S=some { cls:=.type "list", dict:=none,data:=.seq #[v,v] c,slots:=#[] })
theorem QR (W:Walks prog w A.in1 I fp wr n P St) (bt:Nat->Nat->Bool) (hcmp:CmpOf prog w A.in1 .Gt P bt) (S:Addr) (hSf:S∉fp):∀ (k j:Nat) (s:Shared),n - j=k->j<=n->St j s.heap->jY P bt S j s.heap ->
    (∀ v h' tk,(n=0/\v=d\/0 < n/\P (argBest bt (n - 1)) v)->(∀ b o,b∉wr->b≠S->s.heap.get? b=some o->h'.get? b=some o)->R (.ok (.ret v)) { s with heap:=h',toks:=tk }) ->
    codeAny (model prog w) A (.builtin "max.loop" ⟨[.ref I,.none,.ref S],Vk d⟩) R s:=by
  have hSw:S∉wr:=fun h=>hSf (W.sub _ h)
  have hname:(toString "max" ++ toString ".loop" : String) = "max.loop" := by decide
  intro k
  induction k with
  | zero =>
    intro j s hk hj hst hB hR;have hin:j=n:=by omega
    subst hin;refine codeAny_builtin F.entry_max_loop ?_;rw [Around.under_plainId F.plain_max_loop _];show wpAny _ A.in1 (seqItems? (.ref S) >>= _) _ _ s;obtain ⟨c,⟨j0,hS⟩ | ⟨j0,v,hv,hS⟩⟩:=hB
    · refine wpAny_bind (wpAny_seqItems hS rfl ?_);show wpAny _ A.in1 (tryCatch (pyNext (.ref I)) _ >>= _) _ _ s;refine wpAny_bind (wpAny_tryCatch (W.done s _ _ hst fun h' tk hk'=>?_));show wpAny _ A.in1 (rule _ >>= fun _=>ret d) _ _ _;exact wpAny_bind (wpAny_rule (wpAny_pure (hR d h' tk (.inl ⟨j0,rfl⟩) fun b o hw _ e=>hk' b o hw e)))
    · refine wpAny_bind (wpAny_seqItems hS rfl ?_);show wpAny _ A.in1 (tryCatch (pyNext (.ref I)) _ >>= _) _ _ s;refine wpAny_bind (wpAny_tryCatch (W.done s _ _ hst fun h' tk hk'=>?_));have hS':=hk' S _ hSw hS;show wpAny _ A.in1 (updateSeq S (fun _=>#[]) >>= _) _ _ _;refine wpAny_bind (wpAny_updateSeq hS' rfl (wpAny_bind (wpAny_letGo (wpAny_pure ?_))));exact hR v _ tk (.inr ⟨j0,hv⟩) fun b o hbw hbS e=>(lj _ _ (Ne.symm hbS)).trans (hk' b o hbw e)
  | succ k ih =>
    intro j s hk hj hst hB hR;have hlt:j < n:=by omega
    refine codeAny_builtin F.entry_max_loop ?_;rw [Around.under_plainId F.plain_max_loop _];show wpAny _ A.in1 (seqItems? (.ref S) >>= _) _ _ s;have keep:∀ {h':Heap} {f:Array Value->Array Value},(∀ b o,b∉wr->s.heap.get? b=some o->h'.get? b=some o)->∀ b o,b∉wr->b≠S->s.heap.get? b=some o->(h'.update S (Obj.mapSeq f)).get? b=some o:=fun hk' b o hw hn e=>(lj _ _ (Ne.symm hn)).trans (hk' b o hw e)
    obtain ⟨c,⟨rfl,hS⟩ | ⟨j0,vb,hvb,hS⟩⟩:=hB
    · refine wpAny_bind (wpAny_seqItems hS rfl ?_);show wpAny _ A.in1 (tryCatch (pyNext (.ref I)) _ >>= _) _ _ s;refine wpAny_bind (wpAny_tryCatch (W.item 0 s _ _ hlt hst fun v h' tk hP hst' hk'=>?_));have hS':=hk' S _ hSw hS;show wpAny _ A.in1 (updateSeq S (fun _=>#[v,v]) >>= _) _ _ _;refine wpAny_bind (wpAny_updateSeq hS' rfl ?_);rw [hname];exact wpAny_pure ⟨plainId_quiet F.plain_max_loop _,ih 1 _ (by omega) hlt (W.frame _ _ _ hst' fun b hbf o e=>(lj _ _ (fun h:S=b=>hSf (h▸hbf))).trans e) ⟨_,.inr ⟨by decide,v,hP,mF _ hS' rfl⟩⟩ fun v' h2 tk2 hP' hk2=>hR v' h2 tk2 hP' fun b o hw hn e=>hk2 b o hw hn (keep hk' b o hw hn e)⟩
    · refine wpAny_bind (wpAny_seqItems hS rfl ?_);show wpAny _ A.in1 (tryCatch (pyNext (.ref I)) _ >>= _) _ _ s;refine wpAny_bind (wpAny_tryCatch (W.item j s _ _ hlt hst fun v h' tk hP hst' hk'=>?_));have hS':=hk' S _ hSw hS;have ej:j=(j - 1)+1:=by omega
      have ab:argBest bt j=if bt j (argBest bt (j - 1)) then j else argBest bt (j - 1):=by
        conv=>lhs;rw [ej];unfold argBest
        rw [<- ej]
      show wpAny _ A.in1 (tryCatch (holding [v,v] (richCompare .Gt v vb >>= _)) _ >>= _) _ _ _;refine wpAny_bind (wpAny_tryCatch (wpAny_holding (wpAny_bind (hcmp j (argBest bt (j - 1)) v vb _ _ _ hP hvb ?_))));refine wpAny_bind (wpAny_holding (wpAny_truthy_bool ?_));refine wpAny_bind (wpAny_letGo (wpAny_pure ?_));cases hb:bt j (argBest bt (j - 1)) with
      | true =>
        simp only [if_true];refine wpAny_bind (wpAny_updateSeq hS' rfl (wpAny_bind (wpAny_letGo ?_)));rw [hname];exact wpAny_pure ⟨plainId_quiet F.plain_max_loop _,ih (j+1) _ (by omega) hlt (W.frame _ _ _ hst' fun b hbf o e=>(lj _ _ (fun h:S=b=>hSf (h▸hbf))).trans e) ⟨_,.inr ⟨by omega,v,by rw [mq,ab,hb];exact hP,mF _ hS' rfl⟩⟩ fun v' h2 tk2 hP' hk2=>hR v' h2 tk2 hP' fun b o hw hn e=>hk2 b o hw hn (keep hk' b o hw hn e)⟩
      | false =>
        simp only [lG,if_false];refine wpAny_bind (wpAny_letGo ?_);rw [hname];exact wpAny_pure ⟨plainId_quiet F.plain_max_loop _,ih (j+1) _ (by omega) hlt hst' ⟨c,.inr ⟨by omega,vb,by rw [mq,ab,hb];exact hvb,hS'⟩⟩ fun v' h2 tk2 hP' hk2=>hR v' h2 tk2 hP' fun b o hw hn e=>hk2 b o hw hn (hk' b o hw e)⟩
end
section
variable {prog:Program} {w:World} {A:Around} {E:Value->Shared->Prop} {s:Shared}
theorem QP {x d:Value} {Q:Value->Shared->Prop}
    (h:wpAny (model prog w) A.in1 (pyIter x) (fun it s₂=>∃ I fp wr n P St bt,it=.ref I/\Walks prog w A.in1 I fp wr n P St/\St 0 s₂.heap/\(∀ b∈fp,b < s₂.heap.objs.size)/\CmpOf prog w A.in1 .Gt P bt /\
      ∀ v h' tk,(n=0/\v=d\/0 < n/\P (argBest bt (n - 1)) v)->(∀ b o,b∉wr->s₂.heap.get? b=some o->h'.get? b=some o)->Q v { s₂ with heap:=h',toks:=tk }) E s) :
    wpAny (model prog w) A (call (.builtin "max") [x] (Vk d)) Q E s:=by
  have hname:(toString "max" ++ toString ".loop" : String) = "max.loop" := by decide
  refine QQ ?_
  show wpAny _ A.in1 (Builtin.Builtins.bindParams "max" ["key", "default"] 0 ⟨[],Vk d⟩ >>= _) _ _ s
  refine wpAny_bind (wpAny_of_eq (show Builtin.Builtins.bindParams "max" ["key", "default"] 0 ⟨[],Vk d⟩=pure [none,some d] from rfl) ?_)
  refine wpAny_bind (wpAny_pure ?_);refine wpAny_bind (wpAny_mono h (fun it s₂ h₂=>?_) fun _ _ e=>e);obtain ⟨I,fp,wr,n,P,St,bt,rfl,W,hst,hfp,hcmp,hQ⟩:=h₂;refine wpAny_bind (wpAny_newObj_type ?_);have hSf:s₂.heap.objs.size∉fp:=fun hm=>mH _ (hfp _ hm)
  rw [hname];refine wpAny_pure ⟨plainId_quiet F.plain_max_loop _,QR W bt hcmp s₂.heap.objs.size hSf n 0 _ (by omega) (lq _) (W.frame _ _ _ hst fun b _ o e=>kY _ e) ⟨0,.inl ⟨rfl,kz _ rfl⟩⟩ fun v h' tk hP hk=>?_⟩;exact hQ v h' tk hP fun b o hbw e=>hk b o hbw (lP (lA e)) (kY _ e)
end
section
variable {prog:Program} {w:World} {A:Around} {E:Value->Shared->Prop} {s:Shared}
theorem QS {l:Addr} {d:Value} {xs:Array (Int×Tok)} {Q:Value->Shared->Prop} (hh:A.handled=none) (hl:s.heap.IsList l (intItems xs))
    (h:∀ v h' tk,(xs.size=0/\v=d\/0 < xs.size/\(intItems xs)[argBest (fun i j=>decide (numAt xs i > numAt xs j)) (xs.size - 1)]?=some v)->(∀ b o,s.heap.get? b=some o->h'.get? b=some o)->Q v { s with heap:=h',toks:=tk }) :
    wpAny (model prog w) A (call (.builtin "max") [.ref l] (Vk d)) Q E s:=by
  refine QP (iter_intList hl fun s₂ e st hfp hlI=>?_);subst e;refine ⟨_,_,_,_,_,_,_,rfl,Walks.list (A:=A.in1) hh _ l hlI (intItems xs),st,hfp,CmpOf.ints_gt (numAt xs) (fun _ _=>intItems_at),fun v h' tk hP hk=>?_⟩;exact h v h' tk (by simpa [intItems] using hP) (old_kept hk)
end
section
variable {X:Cx} {a e:Expr} {ta te:TE} {p pos kp:Pos}
def iV (K:W.Frag) (x y:V) (H:Hp) (Q:VK):Prop:=∃ (l:Addr) (ns:List Int) (d:Int),x=.ref l/\y=.int d/\CZ K H l (ns.map V.int)/\∀ M,(ns=[]/\M=d\/M∈ns/\∀ a,a∈ns->a<=M)->Q (.int M) H
theorem Wj (hc:X.calm=true) (hg:Gl X "max") (hm:X.mg "max" = none) (ha:PE X a ta) (he:PE X e te) (hs:starEach [a] X.env=[(false,eval a X.env)]):PE X (.Call (.Name "max" p) [a] [⟨some "default", e,kp⟩] pos) (fun σ H Q=>ta σ H fun x H1=>te σ H1 fun y H2=>iV X.K x y H2 Q):=by
 intro pins s σ H Q I h;refine wpAny_Call_Name_kw (Bc I hg hm PyProof.Rows.Boot.«max» ?_);refine callWith_kw ?_ (by rw [hs];rfl) (by rw [hs];rfl);refine Ah (Cz ha Mo hs pos pins s σ H (fun vs H1=>te σ H1 fun y H2=>(match vs with | [x]=>iV X.K x y H2 Q | _=>False)) I h) fun us s1 ⟨vs,H1,I1,r1,q1⟩=>?_
 refine kws_cons (Ah (he pins s1 σ H1 _ I1 q1) fun u s2 ⟨y,H2,I2,r2,q2⟩=>kws_nil ?_);cases r1 with
 | nil=>exact q2.elim
 | cons rx r3 =>
  cases r3 with
  | cons _ _=>exact q2.elim
  | nil =>
   obtain ⟨l,ns,d,rfl,rfl,hp,q⟩:=q2;cases rx;obtain ⟨t,rfl⟩:=r2;obtain ⟨its,rv,pl,hz⟩:=I2.list hp;have hl:=pl.isList;have hi:=Bd rv;obtain ⟨xs,e⟩:=hi.allInts.items;have hns:ns=xs.toList.map (·.1):=by
    rw [<- hi.numsOf,<- nums_intItems,<- e]
   have hsz:ns.length=xs.size:=by rw [hns,kb,Array.length_toList]
   rw [e] at hl
   show wpAny (model X.prog X.w) X.A (call (.builtin "max") [.ref l] (Vk (.int d t))) _ _ _
   refine QS (I2.ok.hd hc) hl fun v h' tk hv hk=>?_
   obtain ⟨h0,rfl⟩ | ⟨h0,hv⟩:=hv
   ·exact ⟨.int _,H2,I2.kept hk,⟨t,rfl⟩,q _ (.inl ⟨List.length_eq_zero_iff.mp (hsz.trans h0),rfl⟩)⟩
   ·obtain ⟨t,rfl⟩:=intItems_at hv;obtain ⟨h1,h2⟩:=argBest_gt (numAt xs) (xs.size - 1);refine ⟨.int _,H2,I2.kept hk,⟨t,rfl⟩,q _ (.inr ⟨?_,fun a ha=>?_⟩)⟩
    ·rw [hns,numAt_eq];exact getD_mem (by rw [kb,Array.length_toList];omega)
    ·rw [hns] at ha;obtain ⟨j,hj,rfl⟩:=mem_getD ha;rw [kb,Array.length_toList] at hj;rw [<- numAt_eq];exact h2 j (by omega)
end
end L2
namespace R
open PySem L2
def Gx (X:Cx):Prop:=X.calm=true/\∃ j,Room j X.A
noncomputable def two {α:Type} (f:Dv->Dv->Option α) (ds:List Dv):Option α:=match ds with | [a,b]=>f a b | _=>none
noncomputable def one {α:Type} (f:Dv->Option α) (ds:List Dv):Option α:=match ds with | [a]=>f a | _=>none
noncomputable def Ao:Expr->Bool
 | .Starred _ _=>false
 | _=>true
structure BinE where
 op:Operator
 f:Dv->Dv->Option Dv
 ok:∀ X,Gx X->∃ r,Br X (binaryOp op) r/\AF X.K (two f) 1 (IL r)
structure CmpE where
 op:CmpOp
 f:Dv->Dv->Option Bool
 ok:∀ X,Gx X->∃ r,Br X (compareOp op) r/\AF X.K (fun ds=>(two f ds).map .bl) 0 (IL r)
structure CallE where
 x:Str
 n:Nat
 o:Nat
 f:List Dv->Option Dv
 ok:∀ X,Gx X->∃ r,AF X.K f o r/\((∃ id,Aq X (.builtin id) r/\bootBuiltins x=some (.builtin id))\/∃ T,Aq X (.type T) r/\bootBuiltins x=some (.type T))
abbrev jr (T:String):Prop:=T = "list" \/ T = "str" \/ T = "int" \/ T = "dict"
structure MethE where
 x:Str
 n:Nat
 T:String
 o:Nat
 f:List Dv->Option Dv
 hT:jr T\/T = "tuple" /\ n=1
 ok:∀ X,Gx X->∃ id r,PlainAttrs T/\Slot T x id/\typeOf (.builtin id)=pure (.type "method_descriptor")/\RQ X id r/\AF X.K f o (ZX r)
structure MutE where
 x:Str
 n:Nat
 T:String
 p:Mu
 hT:jr T
 ok:∀ X,Gx X->∃ id r,PlainAttrs T/\Slot T x id/\typeOf (.builtin id)=pure (.type "method_descriptor")/\RQ X id r/\YR X.K p r
noncomputable def Js:Expr->Bool
 | .Tuple _ _ _=>true
 | _=>false
structure SrcE where
 x:Str
 n:Nat
 tt:Bool
 f:List Dv->Option (List Dv)
 ok:∀ X,Gx X->∃ r,Ve X.K f r/\∀ tg es p pos ta,(tt=true->Js tg=true)->es.length=n->es.all Ao=true->Gl X x->X.mg x=none->PA X es ta->PI X tg (.Call (.Name x p) es [] pos) (ZC r ta)
def kO:Np:=fun vs H1 Q=>Ka (fun _ H R=>R vs H) [] H1 Q
def kL:Np:=fun vs H1 Q=>OB (fun _ H R=>R vs H) [] H1 Q
def kM (K:W.Frag):R2:=fun x y H2 Q=>∃ a xs b,x=.ref a/\y=.int (-1)/\ML K H2 a xs b/\∀ p,H2 p=none->Q (.ref p) (upd H2 p (bif b then .tup xs.reverse else .lst xs.reverse))
def kN (K:W.Frag):V->Hp->VK->Prop:=fun v H1 Q=>∃ a xs,v=.ref a/\CZ K H1 a xs/\∀ l,H1 l=none->Q (.ref l) (upd H1 l (.lst xs.reverse))
structure Tb where
 bins:List BinE
 cmps:List CmpE
 calls:List CallE
 meths:List MethE
 muts:List MutE
 srcs:List SrcE
 ix:Dv->Dv->Option Dv
 ixok:∀ X,Gx X->∃ r,RS X r/\AF X.K (two ix) 0 (IL r)
 sl:Dv->Option Int->Option Int->Option Dv
 slok:∀ X,Gx X->∃ r,Ra X r/\∀ lo hi,AF X.K (one fun d=>sl d lo hi) 1 (gy fun x H Q=>r x lo hi H Q)
 tru:Dv->Option Bool
 trok:∀ K g H o d v P b,Rep K g H o d v P->tru d=some b->Vd K v H b
 lr:List Dv->Option Dv
 lrok:∀ X,Gx X->AF X.K lr 1 kO
 tr:List Dv->Option Dv
 trrok:∀ X,Gx X->AF X.K tr 1 kL
 md:Dv->Dv->Option Dv
 mdok:∀ X,Gx X->AF X.K (two md) 1 (IL (iV X.K))
 rv:Dv->Dv->Option Dv
 rvok:∀ X,Gx X->AF X.K (two rv) 1 (IL (kM X.K))
 lv:Dv->Option Dv
 lvok:∀ X,Gx X->AF X.K (one lv) 1 (gy (kN X.K))
 st:Dv->Dv->Dv->Option Dv
 stok:∀ X,Gx X->∃ T,KN X T/\Vf X.K st T
structure Cf:Type 1 where
 N:List Str
 sc:Scope
 fn:Str->Bool
 fs:List (Str×Sig)
 cs:List (Str×Dv)
 bl:List Str
 T:Tb
 F:Fr
structure Cok (C:Cf) (X:Cx):Prop where
 N:X.N=C.N
 sc:X.env.scope=C.sc
 nd:X.N.Nodup
 calm:X.calm=true
 fn:∀ x,C.fn x=true->X.fn x=true
 room:Gx X
 fs:∀ x s,(x,s)∈C.fs->s.io.Nodup/\(∀ i∈s.io,i < s.ps.length)/\∃ j k,j<=k/\Room k X.A/\Fx X.prog X.w X.K X.mg X.base j x s.ps (OE X.K s)
 cs:∀ x d,(x,d)∈C.cs->∃ v u,X.mg x=some u/\RelV v u/\∀ g H,Rep X.K g H 0 d v nop
 bl:∀ x∈C.bl,X.mg x=none
 xe:X.xe=fun _ _=>False
noncomputable def Co:List Str->Str->Option Nat
 | [],_=>none
 | y::r,x=>if y == x then some 0 else (Co r x).map (·+1)
theorem BY:∀ {N:List Str} {x:Str} {i:Nat},Co N x=some i->N[i]?=some x
 | [],_,_,h=>by cases h
 | y::r,x,i,h=>by
  unfold Co at h;split at h
  ·rename_i e;cases h;rw [beq_iff_eq.mp e];rfl
  ·cases q:Co r x with
   | none=>rw [q] at h;cases h
   | some j=>rw [q] at h;cases h;simpa using BY q
noncomputable def To (sc:Scope) (x:Str):Bool:=match sc.names.lookup x with
 | some .local=>true
 | some .cell=>true
 | some .free=>true
 | _=>false
noncomputable def GC (sc:Scope) (x:Str):Bool:=match sc.names.lookup x with
 | some .globalImplicit=>true
 | _=>false
noncomputable def RW (x:Str):Bool:=!(x == ("__debug__" : Str)) && !(x == ("__classdict__" : Str)) && !(x == ("__name__" : Str))
def lv (C:Cf) (x:Str):Option Nat:=if To C.sc x && RW x then Co C.N x else none
def Ta (C:Cf) (e:Expr):Option Nat:=match e with
 | .Name x _=>lv C x
 | _=>none
theorem Bp {x:Str} (h:RW x=true):(x == ("__debug__" : Str))=false/\(x == ("__classdict__" : Str))=false/\x ≠ "__name__" := by
 unfold RW at h;simp only [kX,mJ] at h;exact ⟨h.1.1,h.1.2,fun z=>by rw [z] at h;simp at h⟩
theorem Qb {sc:Scope} {x:Str} (h:To sc x=true):gr sc x:=by
 unfold To at h;unfold gr;split at h
 ·rename_i e;exact .inl e
 ·rename_i e;exact .inr (.inl e)
 ·rename_i e;exact .inr (.inr e)
 ·cases h
theorem BM {X:Cx} {C:Cf} (ok:Cok C X) {x:Str} (h:GC C.sc x=true):Gl X x:=by
 unfold GC at h;unfold Gl Env.kindOf;rw [ok.sc];split at h
 ·rename_i e;exact e
 ·cases h
theorem Yy {X:Cx} {C:Cf} (ok:Cok C X) {x:Str} {i:Nat} {pos:Pos} (h:lv C x=some i):PE X (.Name x pos) (Ex i):=by
 unfold lv at h;split at h
 ·rename_i e;rw [kX] at e;have n:=Bp e.2;exact aZ (by rw [ok.N];exact BY h) (by rw [ok.sc];exact Qb e.1) n.1 n.2.1
 ·cases h
theorem Cb {X:Cx} {C:Cf} (ok:Cok C X) {e:Expr} {i:Nat} (h:Ta C e=some i):PE X e (Ex i):=by
 cases e with
 | Name x pos=>exact Yy ok h
 | _=>cases h
structure CE:Type 1 where
 o:Nat
 Γ:Gm
 js:List Nat
 f:Ev Dv
structure CT:Type 1 where
 Γ:Gm
 js:List Nat
 f:Ev Bool
structure CA:Type 1 where
 as:List Ar
 Γ:Gm
 js:List Nat
structure CI:Type 1 where
 Γ:Gm
 js:List Nat
 f:Ev (List Dv)
structure CS:Type 1 where
 Γ:Option Gm
 js:List Nat
 f:Es
 er:Bool
 eb:Bool
 ec:Bool
structure Rec:Type 1 where
 E:Cf->Gm->Expr->Option CE
 A:Cf->Gm->List Bool->List Expr->Option CA
 T:Cf->Gm->Expr->Option CT
 I:Cf->Gm->Bool->Expr->Option CI
 S:Cf->Option Gm->Gm->Stmt->Option CS
 Ss:Cf->Option Gm->Gm->List Stmt->Option CS
abbrev Rq (t:TA) (te:TE):TA:=fun σ H Q=>t σ H fun vs H1=>te σ H1 fun x H2=>Q (vs++[x]) H2
structure OkR (r:Rec):Prop where
 E:∀ {C X Γ e c},Cok C X->r.E C Γ e=some c->PE X e (tE X.K Γ c.o c.Γ c.js c.f)
 A:∀ {C X Γ md es c},Cok C X->r.A C Γ md es=some c->PA X es (BN X.K c.as)/\AA Γ c.as c.Γ c.js/\c.as.length=es.length/\es.all Ao=true/\(md=[]->evd c.as=true)
 T:∀ {C X Γ e c},Cok C X->r.T C Γ e=some c->PT X e (tT X.K Γ c.Γ c.js c.f)
 I:∀ {C X Γ e c} (tg),Cok C X->r.I C Γ (Js tg) e=some c->PI X tg e (tI X.K Γ c.Γ c.js c.f)
 S:∀ {C X Γl Γ s c},Cok C X->r.S C Γl Γ s=some c->PS X s (tS X.K C.F Γl Γ c.Γ c.js c.f)
 Ss:∀ {C X Γl Γ s c},Cok C X->r.Ss C Γl Γ s=some c->DJ X s (tS X.K C.F Γl Γ c.Γ c.js c.f)
 B:∀ {C X Γ md es c},Cok C X->r.A C Γ md es=some c->∀ {e te},PE X e te->Ao e=true->PA X (es++[e]) (Rq (BN X.K c.as) te)
def low (Γ:Gm) (i:Nat):Bool:=match Γ.getD i none with
 | some o=>decide (o<=1)
 | none=>false
theorem HF {Γ:Gm} {i:Nat} (h:low Γ i=true):∃ o,o<=1/\Γ[i]?=some (some o):=by
 unfold low at h;split at h
 ·rename_i o e;exact ⟨o,of_decide_eq_true h,Az e⟩
 ·cases h
def Kd (r:Rec) (C:Cf) (Γ:Gm) (md:List Bool) (es:List Expr):Option CA:=match es with
  | []=>some ⟨[],Γ,[]⟩
  | e::es=>if Ao e then
      match (if md.headD false then Ta C e else none) with
      | some i=>if (Γ.getD i none).isSome then (r.A C Γ md.tail es).bind fun c=>if low c.Γ i then some ⟨.rf i::c.as,c.Γ,c.js⟩ else none else none
      | none=>(r.E C Γ e).bind fun c1=>(r.A C c1.Γ md.tail es).bind fun c=>some ⟨.ev Γ c1.Γ c1.js c1.f::c.as,c.Γ,c1.js++c.js⟩
    else none
theorem AE {e:Expr} {es:List Expr} {env:Env} (h:Ao e=true):starEach (e::es) env=(false,eval e env)::starEach es env:=by
 cases e<;>first | rfl | (cases h)
theorem getD_some {Γ:Gm} {i:Nat} (h:(Γ.getD i none).isSome=true):∃ o,Γ[i]?=some (some o):=by
 obtain ⟨o,e⟩:=mU.mp h;exact ⟨o,Az e⟩
theorem Pj {r:Rec} (R:OkR r) {C:Cf} {X:Cx} {Γ:Gm} {md:List Bool} {es:List Expr} {c:CA} (ok:Cok C X) (h:Kd r C Γ md es=some c) {e0:Expr} {te:TE} (h0:PE X e0 te) (hn0:Ao e0=true):PA X (es++[e0]) (Rq (BN X.K c.as) te):=by
  cases es with
  | nil=>cases h;exact Cz h0 Mo (AE hn0)
  | cons e es =>
    unfold Kd at h;simp only at h;split at h
    · rename_i hs;have hst:=AE (es:=es++[e0]) (env:=X.env) hs;split at h
      · rename_i i hi;have hmd:md.headD false=true:=by
          cases q:md.headD false with
          | true=>rfl
          | false=>rw [q] at hi;cases hi
        rw [hmd] at hi;split at h
        · obtain ⟨c2,e2,h⟩:=bind_some' h;split at h
          · cases h;exact Cz (Cb ok hi) (R.B ok e2 h0 hn0) hst
          · cases h
        · cases h
      · obtain ⟨c1,e1,h⟩:=bind_some' h;obtain ⟨c2,e2,h⟩:=bind_some' h;cases h;exact Cz (Cv (R.E ok e1)) (R.B ok e2 h0 hn0) hst
    · cases h
theorem SH {r:Rec} (R:OkR r) {C:Cf} {X:Cx} {Γ:Gm} {md:List Bool} {es:List Expr} {c:CA} (ok:Cok C X) (h:Kd r C Γ md es=some c):PA X es (BN X.K c.as)/\AA Γ c.as c.Γ c.js/\c.as.length=es.length/\es.all Ao=true/\(md=[]->evd c.as=true):=by
  cases es with
  | nil=>cases h;exact ⟨Mo,by unfold AA;exact ⟨rfl,rfl⟩,rfl,rfl,fun _=>rfl⟩
  | cons e es =>
    unfold Kd at h;simp only at h;split at h
    · rename_i hs;have hst:=AE (es:=es) (env:=X.env) hs;split at h
      · rename_i i hi;have hmd:md.headD false=true:=by
          cases q:md.headD false with
          | true=>rfl
          | false=>rw [q] at hi;cases hi
        rw [hmd] at hi;split at h
        · rename_i h1;obtain ⟨c2,e2,h⟩:=bind_some' h;split at h
          · rename_i h2;cases h;obtain ⟨a1,a2,a3,a4,a5⟩:=R.A ok e2;refine ⟨Cz (Cb ok hi) a1 hst,?_,by simp [a3],by simp [hs,a4],fun z=>by rw [z] at hmd;cases hmd⟩;unfold AA;exact ⟨getD_some h1,HF h2,a2⟩
          · cases h
        · cases h
      · obtain ⟨c1,e1,h⟩:=bind_some' h;obtain ⟨c2,e2,h⟩:=bind_some' h;cases h;obtain ⟨a1,a2,a3,a4,a5⟩:=R.A ok e2;refine ⟨Cz (Cv (R.E ok e1)) a1 hst,?_,by simp [a3],by simp [hs,a4],fun z=>?_⟩
        · unfold AA;exact ⟨rfl,_,rfl,a2⟩
        · show evd c2.as=true;exact a5 (by rw [z];rfl)
    · cases h
def VC (Γ:Gm):Const->Option CE
 | .int i=>some ⟨1,Γ,[],LX (.int i)⟩
 | .bool b=>some ⟨1,Γ,[],LX (.bl b)⟩
 | .none=>some ⟨1,Γ,[],LX .non⟩
 | .str x=>some ⟨1,Γ,[],LX (.str x.cps.toList)⟩
 | _=>none
theorem MP (x:Str):tx x.cps.toList=x:=by
 unfold tx;cases x;rfl
theorem RI {X:Cx} {Γ:Gm} {k:Const} {c:CE} {j:Nat} {pos:Pos} (h:VC Γ k=some c):PE X (.Constant k j pos) (tE X.K Γ c.o c.Γ c.js c.f):=by
 cases k with
 | int i=>cases h;exact dH ak fun _ _=>BO
 | bool b=>cases h;exact dH fQ fun _ _=>CO
 | none=>cases h;exact dH ai fun _ _=>Dq
 | str x=>cases h;exact dH ae fun _ _=>by unfold Rep;exact ⟨by rw [MP],fun _ z=>z⟩
 | _=>cases h
noncomputable def Vq (x:Str):Option String:=if x == ("int" : Str) then some "int" else if x == ("bool" : Str) then some "bool" else if x == ("str" : Str) then some "str" else if x == ("tuple" : Str) then some "tuple" else if x == ("list" : Str) then some "list" else none
theorem PZ {x:Str} {T:String} (h:Vq x=some T):bootBuiltins x=some (.type T):=by
 unfold Vq at h
 repeat' split at h
 all_goals first | (rename_i e;rw [beq_iff_eq.mp e];cases h;first | exact PyProof.Rows.Boot.«int» | exact PyProof.Rows.Boot.«bool» | exact PyProof.Rows.Boot.«str» | exact PyProof.Rows.Boot.«tuple» | exact PyProof.Rows.Boot.«list») | cases h
def VB (C:Cf) (Γ:Gm) (x:Str):Option CE:=match lv C x with
  | some i=>if (Γ.getD i none).isSome then some ⟨0,Γ.set i (some 0),[],On i⟩ else none
  | none=>if GC C.sc x && RW x then (match C.cs.find? fun p=>p.1 == x with
      | some p=>some ⟨0,Γ,[],LX p.2⟩
      | none=>if C.bl.contains x then (Vq x).map fun T=>⟨0,Γ,[],LX (.ty T)⟩ else none) else none
theorem VA {C:Cf} {X:Cx} {Γ:Gm} {x:Str} {c:CE} {pos:Pos} (ok:Cok C X) (h:VB C Γ x=some c):PE X (.Name x pos) (tE X.K Γ c.o c.Γ c.js c.f):=by
 unfold VB at h;split at h
 ·rename_i i hi;split at h
  ·rename_i h1;cases h;obtain ⟨o,ho⟩:=getD_some h1;exact eK (Yy ok hi) ho
  ·cases h
 ·split at h
  ·rename_i hg;rw [kX] at hg;cases q:C.cs.find? fun p=>p.1 == x with
   | none =>
    rw [q] at h;simp only at h;split at h
    ·rename_i hb;cases t:Vq x with
     | none=>rw [t] at h;cases h
     | some T =>
      rw [t] at h;cases h;exact dH (Wn (v:=.ty T) (BM ok hg.1) (ok.bl x (ki.mp hb)) (PZ t) rfl (Bp hg.2).2.2 (Bp hg.2).1) fun _ _=>by unfold Rep;exact ⟨rfl,fun _ z=>z⟩
    ·cases h
   | some p =>
    rw [q] at h;cases h;have e:p.1=x:=beq_iff_eq.mp (by simpa using mB q);obtain ⟨v,u,h1,h3,h2⟩:=ok.cs p.1 p.2 (ng q);rw [e] at h1;exact dH (Wk (BM ok hg.1) h1 h3 (Bp hg.2).1) h2
  ·cases h
structure C1:Type 1 where
 a:Ar
 Γ:Gm
 js:List Nat
def Df (r:Rec) (C:Cf) (Γ:Gm) (m:Bool) (e:Expr):Option C1:=match (if m then Ta C e else none) with
 | some i=>if (Γ.getD i none).isSome then some ⟨.rf i,Γ,[]⟩ else none
 | none=>(r.E C Γ e).bind fun c=>some ⟨.ev Γ c.Γ c.js c.f,c.Γ,c.js⟩
def DH (a:Ar) (Γ:Gm):Bool:=match a with
 | .rf i=>low Γ i
 | _=>true
theorem BV {r:Rec} (R:OkR r) {C:Cf} {X:Cx} {Γ:Gm} {m:Bool} {e:Expr} {c:C1} (ok:Cok C X) (h:Df r C Γ m e=some c):PE X e (Ez X.K c.a)/\(m=false->evd [c.a]=true)/\∀ {as Γ' js},AA c.Γ as Γ' js->DH c.a Γ'=true->AA Γ (c.a::as) Γ' (c.js++js):=by
 unfold Df at h;split at h
 ·rename_i i hi;split at h
  ·rename_i h1;cases h;have hm:m=true:=by cases m with | true=>rfl | false=>cases hi
   subst hm;refine ⟨Cb ok hi,(fun z=>by cases z),fun ch hs=>?_⟩;unfold AA;exact ⟨getD_some h1,HF hs,ch⟩
  ·cases h
 ·obtain ⟨c1,e1,h⟩:=bind_some' h;cases h;refine ⟨Cv (R.E ok e1),fun _=>rfl,fun ch hs=>?_⟩;unfold AA;exact ⟨rfl,_,rfl,ch⟩
theorem BG {Γ:Gm}:AA Γ [] Γ []:=by unfold AA;exact ⟨rfl,rfl⟩
def Hg (r:Rec) (C:Cf) (Γ:Gm) (a b:Expr):Option (C1×C1):=(Df r C Γ true a).bind fun x=>(Df r C x.Γ true b).bind fun y=>if DH x.a y.Γ && DH y.a y.Γ then some (x,y) else none
noncomputable def jj (p:C1×C1):List Nat:=p.1.js++(p.2.js++[])
theorem De {r:Rec} (R:OkR r) {C:Cf} {X:Cx} {Γ:Gm} {a b:Expr} {p:C1×C1} (ok:Cok C X) (h:Hg r C Γ a b=some p):PE X a (Ez X.K p.1.a)/\PE X b (Ez X.K p.2.a)/\AA Γ [p.1.a,p.2.a] p.2.Γ (jj p):=by
 unfold Hg at h;obtain ⟨x,e1,h⟩:=bind_some' h;obtain ⟨y,e2,h⟩:=bind_some' h;split at h
 ·rename_i z;rw [kX] at z;cases h;obtain ⟨a1,_,a2⟩:=BV R ok e1;obtain ⟨b1,_,b2⟩:=BV R ok e2;exact ⟨a1,b1,a2 (b2 BG z.2) z.1⟩
 ·cases h
def MF (r:Rec) (C:Cf) (Γ:Gm) (a:Expr):Option C1:=(Df r C Γ true a).bind fun x=>if DH x.a x.Γ then some x else none
theorem Dy {r:Rec} (R:OkR r) {C:Cf} {X:Cx} {Γ:Gm} {a:Expr} {x:C1} (ok:Cok C X) (h:MF r C Γ a=some x):PE X a (Ez X.K x.a)/\AA Γ [x.a] x.Γ (x.js++[]):=by
 unfold MF at h;obtain ⟨y,e1,h⟩:=bind_some' h;split at h
 ·rename_i z;cases h;obtain ⟨a1,_,a2⟩:=BV R ok e1;exact ⟨a1,a2 BG z⟩
 ·cases h
theorem Cok.gx {C:Cf} {X:Cx} (ok:Cok C X):Gx X:=ok.room
def gb (r:Rec) (C:Cf) (Γ:Gm) (a:Expr) (op:Operator) (b:Expr):Option CE:=(C.T.bins.find? fun e=>e.op == op).bind fun en=>(Hg r C Γ a b).bind fun p=>some ⟨1,p.2.Γ,jj p,Cc (two en.f) (AJ [p.1.a,p.2.a])⟩
theorem YB {r:Rec} (R:OkR r) {C:Cf} {X:Cx} {Γ:Gm} {a b:Expr} {op:Operator} {pos:Pos} {c:CE} (ok:Cok C X) (h:gb r C Γ a op b=some c):PE X (.BinOp a op b pos) (tE X.K Γ c.o c.Γ c.js c.f):=by
 obtain ⟨en,e1,h⟩:=bind_some' h;obtain ⟨p,e2,h⟩:=bind_some' h;cases h;have eo:en.op=op:=by simpa using mB e1
 obtain ⟨h1,h2,h3⟩:=De R ok e2;obtain ⟨rr,q1,q2⟩:=en.ok X ok.gx;rw [eo] at q1;exact PE.imp (fM q1 h1 h2) fun _ _ _ h=>BJ q2 h3 h
noncomputable def Eo (x:Dv):Option Dv:=match x with | .int i=>some (.int (-i)) | _=>none
theorem aP {K:W.Frag}:AF K (one Eo) 1 (gy (rU fun i=>.int (-i))):=fun g H ds vs d Q zd ra e k=>by
 unfold one at e;split at e
 ·rename_i a;unfold Eo at e;split at e
  ·rename_i i;cases e;unfold RA at ra;obtain ⟨v,r,o,P,rfl,_,h1,h2⟩:=ra;unfold RA at h2;subst h2;rw [rep_int h1];exact ⟨i,rfl,k _ H (AU.old BO)⟩
  ·cases e
 ·cases e
def gV (r:Rec) (C:Cf) (Γ:Gm) (a:Expr):Option CE:=(MF r C Γ a).bind fun x=>some ⟨1,x.Γ,x.js++[],Cc (one Eo) (AJ [x.a])⟩
theorem Xt {r:Rec} (R:OkR r) {C:Cf} {X:Cx} {Γ:Gm} {a:Expr} {pos:Pos} {c:CE} (ok:Cok C X) (h:gV r C Γ a=some c):PE X (.UnaryOp .USub a pos) (tE X.K Γ c.o c.Γ c.js c.f):=by
 obtain ⟨x,e1,h⟩:=bind_some' h;cases h;obtain ⟨h1,h2⟩:=Dy R ok e1;exact PE.imp (fK Ze h1) fun _ _ _ h=>BJ aP h2 h
def dI (t:CT):CE:=⟨1,t.Γ,t.js,NQ t.f⟩
def Nb (r:Rec) (C:Cf) (Γ:Gm) (a:Expr) (op:CmpOp) (b:Expr):Option CT:=if behindInMarks op b then none else (C.T.cmps.find? fun e=>e.op == op).bind fun en=>(Hg r C Γ a b).bind fun p=>some ⟨p.2.Γ,jj p,ZO (two en.f) (AJ [p.1.a,p.2.a])⟩
theorem cv {K:W.Frag} {Γ Γ':Gm} {js:List Nat} {σ:St} {H:Hp} {o:Nat} {p:List Dv->Option Bool} {as:List Ar} {r:Np} (hp:AF K (fun ds=>(p ds).map .bl) 0 r) (c:AA Γ as Γ' js) {Q:VK} (h:tE K Γ o Γ' js (NQ (ZO p (AJ as))) σ H Q):BN K as σ H fun vs H1=>r vs H1 Q:=by
 obtain ⟨g,m,P,rl,R',k,res,e,q⟩:=h;refine AH as rl c e fun ds m' g' P' vs H1 hk ag s ar r1=>?_
 obtain ⟨b,e1,e2⟩:=bind_some' hk;refine hp g' H1 ds vs (.bl b) _ r1.zd (ar.ra r1) (by show (p ds).map _=_;rw [e1];rfl) fun v H2 nw=>?_
 obtain ⟨Pv,s2,h1,r2,n2⟩:=AU.go s r1 nw;have ev:=rep_bl h1;subst ev;exact q (.bl b) m' g' P' nop _ H2 e2 ag (s2.less fun _ z=>z.elim .inl False.elim) CO r2 fun _ _ z=>z
theorem PH {r:Rec} (R:OkR r) {C:Cf} {X:Cx} {Γ:Gm} {a b:Expr} {op:CmpOp} {pos:Pos} {c:CT} (ok:Cok C X) (h:Nb r C Γ a op b=some c):PT X (.Compare a [op] [b] pos) (tT X.K Γ c.Γ c.js c.f)/\∀ o,PE X (.Compare a [op] [b] pos) (tE X.K Γ o c.Γ c.js (NQ c.f)):=by
 unfold Nb at h;split at h
 ·cases h
 ·rename_i hm;rw [nW] at hm;obtain ⟨en,e1,h⟩:=bind_some' h;obtain ⟨p,e2,h⟩:=bind_some' h;cases h;have eo:en.op=op:=by simpa using mB e1
  obtain ⟨h1,h2,h3⟩:=De R ok e2;obtain ⟨rr,q1,q2⟩:=en.ok X ok.gx;rw [eo] at q1;exact ⟨PT.imp (WO q1 h1 h2 hm) fun _ _ _ h=>gk q2 h3 h,fun o=>PE.imp (Wl q1 h1 h2 hm) fun _ _ _ h=>cv q2 h3 h⟩
noncomputable def Ed:Expr->Bool
 | .Slice _ _ _ _=>false
 | _=>true
theorem Sy {b:Expr} (h:Ed b=true):PU b:=fun o i=>by
 cases b<;>first | rfl | (cases h)
def jG (r:Rec) (C:Cf) (Γ:Gm) (a b:Expr):Option CE:=(Hg r C Γ a b).bind fun p=>some ⟨0,p.2.Γ,jj p,Cc (two C.T.ix) (AJ [p.1.a,p.2.a])⟩
theorem cg {r:Rec} (R:OkR r) {C:Cf} {X:Cx} {Γ:Gm} {a b:Expr} {pos:Pos} {c:CE} (ok:Cok C X) (hb:Ed b=true) (h:jG r C Γ a b=some c):PE X (.Subscript a b pos) (tE X.K Γ c.o c.Γ c.js c.f):=by
 obtain ⟨p,e2,h⟩:=bind_some' h;cases h;obtain ⟨h1,h2,h3⟩:=De R ok e2;obtain ⟨rr,q1,q2⟩:=C.T.ixok X ok.gx;exact PE.imp (fN q1 h1 h2 (Sy hb)) fun _ _ _ h=>BJ q2 h3 h
noncomputable def RZ {R:Type} (d:Dv) (k:Int->Option R):Option R:=match d with | .int i=>k i | _=>none
def cw (o:Option (Ev Dv)):Ev (Option Int):=match o with
 | none=>fun _ m k=>k none m
 | some f=>fun R m k=>f R m fun d m1=>RZ d fun i=>k (some i) m1
def gE (p:Dv->Option Int->Option Int->Option Dv) (a:Ar) (lo hi:Option (Ev Dv)):Ev Dv:=match a with
 | .rf i=>fun R m k=>cw lo R m fun l m1=>cw hi R m1 fun u m2=>(p (m2.at i) l u).bind fun d=>k d m2
 | .ev _ _ _ f=>fun R m k=>f R m fun x m1=>cw lo R m1 fun l m2=>cw hi R m2 fun u m3=>(p x l u).bind fun d=>k d m3
def jI (r:Rec) (C:Cf) (Γ:Gm) (o:Option Expr):Option (Option (Ev Dv)×Gm×List Nat):=match o with
 | none=>some (none,Γ,[])
 | some e=>(r.E C Γ e).bind fun c=>some (some c.f,c.Γ,c.js)
def Yc (K:W.Frag) (Γ Γ':Gm) (js:List Nat) (f:Ev (Option Int)):TO:=fun σ H Q=>∃ g m P,Rel K g H Γ m σ P/\∃ (R:Type) (k:Option Int->M->Option R) (r:R),f R m k=some r /\
 ∀ b m' g' P' H',k b m'=some r->BW js m m'->Step g P H g' P' H'->Rel K g' H' Γ' m' σ P'->Q b H'
theorem PO.imp {X:Cx} {e:Option Expr} {t t':TO} (h:PO X e t) (k:∀ σ H Q,t' σ H Q->t σ H Q):PO X e t':=fun pins s σ H Q I q=>h pins s σ H Q I (k σ H Q q)
theorem VE {r:Rec} (R:OkR r) {C:Cf} {X:Cx} {Γ:Gm} {e:Option Expr} {p:Option (Ev Dv)×Gm×List Nat} (ok:Cok C X) (h:jI r C Γ e=some p):PO X e (Yc X.K Γ p.2.1 p.2.2 (cw p.1)):=by
 cases e with
 | none =>
  cases h;exact PO.imp Wc fun σ H Q q=>by
   obtain ⟨g,m,P,r,R,k,res,e,q⟩:=q;exact q none m g P H e BW.refl Step.refl r
 | some e =>
  obtain ⟨c,e1,h⟩:=bind_some' h;cases h;exact PO.imp (Wb (Cv (R.E ok e1))) fun σ H Q q=>by
   obtain ⟨g,m,P,r,R,k,res,e,q⟩:=q;refine ⟨g,m,P,r,R,_,res,e,fun d m' g' P' Pv v H' hk ag s rv r1 n=>?_⟩;cases d<;>first | (cases hk;done) | skip
   rename_i i;exact ⟨i,rep_int rv,q (some i) m' g' P' H' hk ag (s.less fun _ z=>.inl z) r1⟩
def kB (r:Rec) (C:Cf) (Γ:Gm) (a:Expr) (lo hi:Option Expr):Option CE:=(Df r C Γ true a).bind fun x=>(jI r C x.Γ lo).bind fun l=>(jI r C l.2.1 hi).bind fun u=>if DH x.a u.2.1 then some ⟨1,u.2.1,x.js++(l.2.2++u.2.2),gE C.T.sl x.a l.1 u.1⟩ else none
theorem Zs {K:W.Frag} {Γ Γ1 Γ2 Γ':Gm} {j1 j2 j3:List Nat} {p:Dv->Option Int->Option Int->Option Dv} {rr:V->Option Int->Option Int->Hp->VK->Prop} (hp:∀ lo hi,AF K (one fun d=>p d lo hi) 1 (gy fun x H Q=>rr x lo hi H Q)) {a:Ar} {lo hi:Option (Ev Dv)}
    (ha:∀ {as Γ' js},AA Γ1 as Γ' js->DH a Γ'=true->AA Γ (a::as) Γ' (j1++js)) (hs:DH a Γ'=true) {σ:St} {H:Hp} {Q:VK}
    (h:tE K Γ 1 Γ' (j1++(j2++j3)) (gE p a lo hi) σ H Q):jg rr (Ez K a) (Yc K Γ1 Γ2 j2 (cw lo)) (Yc K Γ2 Γ' j3 (cw hi)) σ H Q:=by
  obtain ⟨g,m,P,r,R,k,res,e,q⟩:=h;have fin:∀ {x:Dv} {l u:Option Int} {m3:M} {g3:G} {P3:Fp} {H3:Hp} {v:V} {o:Nat} {Px:Fp},(p x l u).bind (fun d=>k d m3)=some res->BW (j1++(j2++j3)) m m3->Step g P H g3 P3 H3->Rel K g3 H3 Γ' m3 σ P3->o<=1->Rep K g3 H3 o x v Px->rr v l u H3 Q:=fun {x l u m3 g3 P3 H3 v o Px} hk ag s r3 hlo rx=>by
    obtain ⟨d,e1,e2⟩:=bind_some' hk;refine hp l u g3 H3 [x] [v] d Q r3.zd (by unfold RA;exact ⟨v,[],o,Px,rfl,hlo,rx,by unfold RA;rfl⟩) e1 fun w H4 nw=>?_
    obtain ⟨Pv,s2,h1,r2,n2⟩:=AU.go s r3 nw;exact q d m3 g3 P3 Pv w H4 e2 ag s2 h1 r2 n2
  cases a with
  | rf i =>
    have c0:=ha (as:=[]) (Γ':=Γ1) (js:=[]) BG;have hs':=hs
    -- the slot is set ahead
    have h0:(∃ o,Γ[i]?=some (some o))/\Γ1=Γ/\j1=[]:=by
      have:=ha (as:=[.ev Γ1 Γ' (j2++j3) (fun _ m k=>k .non m)]) (Γ':=Γ') (js:=(j2++j3)++[]) (by unfold AA;exact ⟨rfl,[],rfl,BG⟩) hs;unfold AA at this;refine ⟨this.1,?_⟩;obtain ⟨_,_,c⟩:=this;unfold AA at c;refine ⟨c.1,?_⟩;obtain ⟨_,js2,e,c⟩:=c;unfold AA at c;rw [c.2] at e;have l:(j1++((j2++j3)++[])).length=((j2++j3)++[]).length:=congrArg List.length e;simp at l;exact l
    obtain ⟨⟨o0,h0⟩,rfl,rfl⟩:=h0;obtain ⟨v0,P0,ev0,rv0,_⟩:=r.see h0;refine ⟨v0,ev0,g,m,P,r,R,_,res,e,fun l m1 g1 P1 H1 hk1 ag1 s1 r1=>⟨g1,m1,P1,r1,R,_,res,hk1,fun u m2 g2 P2 H2 hk2 ag2 s2 r2=>?_⟩⟩;obtain ⟨o1,hl1,h1⟩:=HF hs;obtain ⟨v1,Px,ev1,rv1,_⟩:=r2.see h1;rw [ev0] at ev1;cases ev1;exact fin hk2 (ag1.trans ag2) (s1.trans s2) r2 hl1 rv1
  | ev Γa Γb ja f =>
    have h0:Γa=Γ/\Γb=Γ1/\j1=ja:=by
      have:=ha (as:=[.ev Γ1 Γ1 [] (fun _ m k=>k .non m)]) (Γ':=Γ1) (js:=[]) (by unfold AA;exact ⟨rfl,[],rfl,BG⟩) rfl;unfold AA at this;obtain ⟨e1,js2,e2,c⟩:=this;unfold AA at c;obtain ⟨e3,js3,e4,c⟩:=c;unfold AA at c;rw [c.2] at e4;subst e4;simp at e2;exact ⟨e1,e3.symm,e2⟩
    obtain ⟨rfl,rfl,rfl⟩:=h0;refine ⟨g,m,P,r,R,_,res,e,fun x m1 g1 P1 Pv v H1 hk1 ag1 s1 rv r1 n1=>⟨g1,m1,P1,r1,R,_,res,hk1,fun l m2 g2 P2 H2 hk2 ag2 s2 r2=>⟨g2,m2,P2,r2,R,_,res,hk2,fun u m3 g3 P3 H3 hk3 ag3 s3 r3=>?_⟩⟩⟩;exact fin hk3 (ag1.trans (ag2.trans ag3)) (((s1.less fun _ z=>.inl z).trans s2).trans s3) r3 (by decide:0<=1) ((rv.z.held s2 r1.fpOk fun _ z=>z.elim).held s3 r2.fpOk fun _ z=>z.elim)
theorem cU {r:Rec} (R:OkR r) {C:Cf} {X:Cx} {Γ:Gm} {a:Expr} {lo hi:Option Expr} {p2 pos:Pos} {c:CE} (ok:Cok C X) (h:kB r C Γ a lo hi=some c):PE X (.Subscript a (.Slice lo hi none p2) pos) (tE X.K Γ c.o c.Γ c.js c.f):=by
 obtain ⟨x,e1,h⟩:=bind_some' h;obtain ⟨l,e2,h⟩:=bind_some' h;obtain ⟨u,e3,h⟩:=bind_some' h;split at h
 ·rename_i hs;cases h;obtain ⟨h1,_,h2⟩:=BV R ok e1;obtain ⟨rr,q1,q2⟩:=C.T.slok X ok.gx;exact PE.imp (TF q1 h1 (VE R ok e2) (VE R ok e3)) fun _ _ _ h=>Zs q2 h2 hs h
 ·cases h
def gS (r:Rec) (C:Cf) (Γ:Gm) (es:List Expr):Option CE:=(r.A C Γ [] es).bind fun c=>some ⟨1,c.Γ,c.js,Oo .tup (AJ c.as)⟩
def gX (r:Rec) (C:Cf) (Γ:Gm) (es:List Expr):Option CE:=(r.A C Γ [] es).bind fun c=>some ⟨1,c.Γ,c.js,Oo .lst (AJ c.as)⟩
def UE:Ev Dv:=LX (.dct [] [])
theorem AU.dct {K:W.Frag} {g:G} {H:Hp} {p:Addr} (zd:Zd g H) (hp:H p=none):AU K g H 1 (.dct [] []) (.ref p) (upd H p (.dK [])):=by
 have sm:=DT hp (.dK []);refine ⟨sm,fun b=>b=p,?_,fun a q=>q▸hp⟩;unfold Rep;exact ⟨p,[],rfl,BQ,(fun z=>by cases z),(fun _ z=>zd p z hp),⟨rfl,nop,Reps.nil⟩,fun b=>⟨fun z=>⟨by decide,z⟩,fun z=>z.2⟩⟩
theorem eO {X:Cx} {Γ:Gm} {pos:Pos}:PE X (.Dict [] [] pos) (tE X.K Γ 1 Γ [] UE):=PE.imp LA fun σ H Q q=>by
 obtain ⟨g,m,P,r,R,k,res,e,q⟩:=q;intro p hp;obtain ⟨Pv,s2,h1,r2,n2⟩:=AU.go Step.refl r (AU.dct r.zd hp);exact q _ m g P Pv _ _ e BW.refl s2 h1 r2 n2
theorem Xm {r:Rec} (R:OkR r) {C:Cf} {X:Cx} {Γ:Gm} {es:List Expr} {x1:Nat} {pos:Pos} {c:CE} (ok:Cok C X) (h:gS r C Γ es=some c):PE X (.Tuple es x1 pos) (tE X.K Γ c.o c.Γ c.js c.f):=by
 obtain ⟨x,e1,h⟩:=bind_some' h;cases h;obtain ⟨a1,a2,_,_,a5⟩:=R.A ok e1;exact eL a1 a2 (a5 rfl)
theorem Xv {r:Rec} (R:OkR r) {C:Cf} {X:Cx} {Γ:Gm} {es:List Expr} {pos:Pos} {c:CE} (ok:Cok C X) (h:gX r C Γ es=some c):PE X (.List es pos) (tE X.K Γ c.o c.Γ c.js c.f):=by
 obtain ⟨x,e1,h⟩:=bind_some' h;cases h;obtain ⟨a1,a2,_,_,a5⟩:=R.A ok e1;exact eN a1 a2 (a5 rfl)
def BX:Gm->Gm->Gm
 | some a::x,some b::y=>some (if a == b then a else 0)::BX x y
 | _::x,_::y=>none::BX x y
 | _,_=>[]
def gC (t:Dv->Option Bool) (fa:Ev (List Dv)):Ev Bool:=ZO (one t) fa
def cR (r:Rec) (C:Cf) (Γ:Gm) (a:Expr):Option CT:=(MF r C Γ a).bind fun x=>some ⟨x.Γ,x.js++[],gC C.T.tru (AJ [x.a])⟩
noncomputable def Oh:Expr->Bool
 | .UnaryOp .Not _ _=>false
 | .BoolOp _ _ _=>false
 | .IfExp _ _ _ _=>false
 | .Compare _ _ _ _=>false
 | _=>true
theorem Xn {r:Rec} (R:OkR r) {C:Cf} {X:Cx} {Γ:Gm} {a:Expr} {c:CT} (ok:Cok C X) (hv:Oh a=true) (h:cR r C Γ a=some c):PT X a (tT X.K Γ c.Γ c.js c.f):=by
  obtain ⟨x,e1,h⟩:=bind_some' h;cases h;obtain ⟨h1,h2⟩:=Dy R ok e1;refine PT.imp (Sl h1 fun whole=>?_) fun σ H Q h=>?_
  · cases a<;>first | rfl | (cases hv;done) | skip
    rename_i op b pos;cases op<;>first | rfl | (cases hv;done)
  · obtain ⟨g,m,P,rl,R',k,res,e,q⟩:=h;have key:BN X.K [x.a] σ H fun vs H1=>∃ w,vs=[w]/\∃ b,Vd X.K w H1 b/\Q b H1:=by
      refine AH [x.a] rl h2 e fun ds m' g' P' vs H1 hk ag s ar r1=>?_
      obtain ⟨b,e1,e2⟩:=bind_some' hk;unfold one at e1;split at e1
      · rename_i d;have ra:=ar.ra r1;unfold RA at ra;obtain ⟨w,wr,o,Po,rfl,_,h3,h4⟩:=ra;unfold RA at h4;subst h4;exact ⟨w,rfl,b,C.T.trok _ _ _ _ _ _ _ _ h3 e1,q b m' g' P' H1 e2 ag s r1⟩
      · cases e1
    revert key
    cases x.a with
    | ev Γa Γb ja fa =>
      rintro ⟨g,m,P,r,R,k,res,e,q⟩;refine ⟨g,m,P,r,R,k,res,e,fun d m' g' P' Pv v H' h1 h2 h3 h4 h5 h6=>?_⟩;obtain ⟨w,ew,z⟩:=q d m' g' P' Pv v H' h1 h2 h3 h4 h5 h6;cases ew;exact z
    | rf i =>
      rintro ⟨v,e,w,ew,z⟩;cases ew;exact ⟨v,e,z⟩
def cZ (t:CT):CT:=⟨t.Γ,t.js,ZM t.f⟩
def jJ (a b:CT):CT:=let Γ':=BX a.Γ b.Γ;let js:=a.js++b.js;⟨Γ',js,NO (Ax Γ' js) (HV a.f b.f fun _ m k=>k false m)⟩
def kR (a b:CT):CT:=let Γ':=BX a.Γ b.Γ;let js:=a.js++b.js;⟨Γ',js,NO (Ax Γ' js) (HV a.f (fun _ m k=>k true m) b.f)⟩
theorem fF {X:Cx} {op:BoolOp} {vs:List Expr} {pos:Pos} {t:TT} (h:PT X (.BoolOp op vs pos) t):PW X (.BoolOp op vs pos) t:=fun wh pins s σ H Q I q=>h pins s σ H Q I q
def Yh (r:Rec) (C:Cf) (Γ:Gm) (op:BoolOp) (vs:List Expr) (pos:Pos):Option CT:=match vs with
 | []=>none
 | [a]=>r.T C Γ a
 | a::b::vs=>(r.T C Γ a).bind fun x=>(r.T C x.Γ (.BoolOp op (b::vs) pos)).bind fun y=>if BS (BX x.Γ y.Γ) x.Γ && BS (BX x.Γ y.Γ) y.Γ then some (match op with | .And=>jJ x y | .Or=>kR x y) else none
theorem SF {r:Rec} (R:OkR r) {C:Cf} {X:Cx} {Γ:Gm} {op:BoolOp} {vs:List Expr} {pos:Pos} {c:CT} (ok:Cok C X) (h:Yh r C Γ op vs pos=some c):PT X (.BoolOp op vs pos) (tT X.K Γ c.Γ c.js c.f):=by
 match vs,h with
 | [],h=>cases h
 | [a],h =>
  cases op with
  | And=>exact PW.pt (WN (R.T ok h))
  | Or=>exact PW.pt (aI (R.T ok h))
 | a::b::vs,h =>
  obtain ⟨x,e1,h⟩:=bind_some' h;obtain ⟨y,e2,h⟩:=bind_some' h;split at h
  ·rename_i hw;rw [kX] at hw;have ha:=R.T ok e1;have hb:=fF (R.T ok e2);have jk:∀ (i o:Nat),(BX x.Γ y.Γ)[i]?=some (some o)->i∈Ax (BX x.Γ y.Γ) (x.js++y.js)\/i∉x.js++y.js:=fun i o h=>BL h
   cases op with
   | And =>
    cases h;exact PW.pt (PW.imp (aJ ha (PW.imp hb fun _ _ _ h=>Nx hw.2 (fun _ z=>z) h)) fun σ H Q h=>Rp (Oc jk (fun i z=>Aw z) h) hw.1)
   | Or =>
    cases h;exact PW.pt (PW.imp (fE ha (PW.imp hb fun _ _ _ h=>Nx hw.2 (fun _ z=>z) h)) fun σ H Q h=>dX (Oc jk (fun i z=>Aw z) h) hw.1)
  ·cases h
def gI (p p':List Dv->Option Bool) (a:Ar) (i:Nat) (c:Ar):Ev Bool:=HV (ZO p (AJ [a,.rf i])) (ZO p' (AJ [.rf i,c])) fun R m k=>k false m
section
variable {K:W.Frag} {Γ Γ2 Γ':Gm} {js js2:List Nat} {σ:St} {H:Hp}
theorem JV {f:Ev Bool} {Q Q':Bool->Hp->Prop} (h:tT K Γ Γ' js f σ H Q) (m:∀ b H',Q b H'->Q' b H'):tT K Γ Γ' js f σ H Q':=by
 obtain ⟨g,m',P,r,R,k,res,e,q⟩:=h;exact ⟨g,m',P,r,R,k,res,e,fun b m1 g1 P1 H1 h1 h2 h3 h4=>m _ _ (q b m1 g1 P1 H1 h1 h2 h3 h4)⟩
theorem GZ {a:Ar} {Q1 Q2:VK} (h12:∀ v H,Q1 v H->Q2 v H) (t:Ez K a σ H Q1):Ez K a σ H Q2:=by
 cases a with
 | ev Γa Γb ja fa =>
  obtain ⟨g,m,P,r,R,k,res,e,q⟩:=t;exact ⟨g,m,P,r,R,k,res,e,fun d m' g' P' Pv v H' h1 h2 h3 h4 h5 h6=>h12 _ _ (q d m' g' P' Pv v H' h1 h2 h3 h4 h5 h6)⟩
 | rf i=>obtain ⟨v,e,q⟩:=t;exact ⟨v,e,h12 _ _ q⟩
theorem ZV {o:Nat} {f:Ev Bool} {Q:VK} (h:tE K Γ o Γ' js (NQ f) σ H Q):tT K Γ Γ' js f σ H fun b H'=>Q (.bl b) H':=by
 obtain ⟨g,m,P,r,R,k,res,e,q⟩:=h;exact ⟨g,m,P,r,R,_,res,e,fun b m1 g1 P1 H1 hk ag s r1=>q (.bl b) m1 g1 P1 nop _ H1 hk ag (s.less fun _ z=>z.elim id False.elim) CO r1 fun _ _ z=>z⟩
theorem VQ {p:List Dv->Option Bool} {as:List Ar} {r:Np} (hp:AF K (fun ds=>(p ds).map .bl) 0 r) (c:AA Γ as Γ' js) {Q:VK} (h:tT K Γ Γ' js (ZO p (AJ as)) σ H fun b H'=>Q (.bl b) H'):BN K as σ H fun vs H1=>r vs H1 Q:=by
 obtain ⟨g,m,P,rl,R',k,res,e,q⟩:=h;refine AH as rl c e fun ds m' g' P' vs H1 hk ag s ar r1=>?_
 obtain ⟨b,e1,e2⟩:=bind_some' hk;refine hp g' H1 ds vs (.bl b) _ r1.zd (ar.ra r1) (by show (p ds).map _=_;rw [e1];rfl) fun v H2 nw=>?_
 obtain ⟨Pv,s2,h1,r2,n2⟩:=AU.go s r1 nw;rw [rep_bl h1];exact q b m' g' P' H2 e2 ag (s2.less fun _ q=>.inl q) r2
theorem JJ {p p':List Dv->Option Bool} {a c:Ar} {i o:Nat} {r r':R2} (hp:AF K (fun ds=>(p ds).map .bl) 0 (IL r)) (hp':AF K (fun ds=>(p' ds).map .bl) 0 (IL r')) (c1:AA Γ [a,.rf i] Γ2 js) (c2:AA Γ2 [.rf i,c] Γ' js2) (hi:Γ[i]?=some (some o)) (hw:BS Γ' Γ2=true) {Q:VK}
    (h:tT K Γ Γ' (js++js2) (gI p p' a i c) σ H fun b H'=>Q (.bl b) H'):JW r r' (Ez K a) (Ex i) (Ez K c) σ H Q:=by
  have h0:∃ v,σ[i]?=some (some v):=by
    obtain ⟨g,m,P,r,_⟩:=h;obtain ⟨v,_,e,_⟩:=r.see hi;exact ⟨v,e⟩
  obtain ⟨v,hv⟩:=h0;have h1:=Rp h hw;have h2:tT K Γ Γ2 js (ZO p (AJ [a,.rf i])) σ H fun b H'=>∃ k,V.bl b=V.bl k/\if k=true then Ez K c σ H' fun w' H4=>r' v w' H4 Q else Q (.bl false) H':=JV h1 fun b H' q=>⟨b,rfl,by
    cases b with
    | true =>
      rw [if_pos rfl] at q ⊢;obtain ⟨v',hv',q'⟩:=VQ hp' c2 q;rw [hv] at hv';cases hv';exact q'
    | false=>rw [if_neg kr] at q ⊢;exact q⟩
  have h3:=VQ (Q:=fun z H'=>∃ k,z=V.bl k/\if k=true then Ez K c σ H' fun w' H4=>r' v w' H4 Q else Q (.bl false) H') hp c1 h2;refine GZ (fun x H1 z=>?_) h3;obtain ⟨w,hw',q⟩:=z;rw [hv] at hw';cases hw';exact ⟨v,hv,q⟩
end
def ZN (p p':List Dv->Option Bool) (a b c:Ar):Ev Bool:=fun R m k=>AJ [a,b] R m fun ds m1=>(p ds).bind fun t=>if t=true then AJ [c] R m1 fun cs m2=>(p' (ds.getD 1 .non::cs)).bind fun u=>k u m2 else k false m1
theorem Hc {K:W.Frag} {Γ Γ2 Γ' Γa Γb:Gm} {js js2 jb:List Nat} {σ:St} {H:Hp} {p p':List Dv->Option Bool} {a c:Ar} {fb:Ev Dv} {r r':R2} (hp:AF K (fun ds=>(p ds).map .bl) 0 (IL r)) (hp':AF K (fun ds=>(p' ds).map .bl) 0 (IL r')) (c1:AA Γ [a,.ev Γa Γb jb fb] Γ2 js) (c2:AA Γ2 [c] Γ' js2) (hw:BS Γ' Γ2=true) {Q:VK}
    (h:tT K Γ Γ' (js++js2) (ZN p p' a (.ev Γa Γb jb fb) c) σ H fun b H'=>Q (.bl b) H'):JW r r' (Ez K a) (tE K Γa 0 Γb jb fb) (Ez K c) σ H Q:=by
  obtain ⟨g,m,P,rl,R,k,res,e,q⟩:=h;have key:BN K [a,.ev Γa Γb jb fb] σ H fun vs H1=>∃ x y,vs=[x,y]/\r x y H1 fun z H3=>∃ k,z=.bl k/\(if k=true then Ez K c σ H3 fun w' H4=>r' y w' H4 Q else Q (.bl false) H3):=by
    refine AH _ rl c1 e fun ds m1 g1 P1 vs H1 hk ag s ar r1=>?_
    obtain ⟨t,e1,e2⟩:=bind_some' hk;have ra:=ar.ra r1
    -- the middle's value is frozen
    obtain ⟨dx,dy,x,y,rfl,rfl,ry⟩:∃ dx dy x y,ds=[dx,dy]/\vs=[x,y]/\Rep K g1 H1 0 dy y nop:=by
      cases a with
      | rf i =>
        unfold AL at ar;obtain ⟨v,ds',vs',rfl,rfl,_,_,ar⟩:=ar;unfold AL at ar;obtain ⟨d,v',ds',vs',rfl,rfl,h1,ar⟩:=ar;unfold AL at ar;obtain ⟨rfl,rfl⟩:=ar;exact ⟨_,_,_,_,rfl,rfl,h1⟩
      | ev _ _ _ _ =>
        unfold AL at ar;obtain ⟨d0,v,ds',vs',rfl,rfl,_,ar⟩:=ar;unfold AL at ar;obtain ⟨d,v',ds',vs',rfl,rfl,h1,ar⟩:=ar;unfold AL at ar;obtain ⟨rfl,rfl⟩:=ar;exact ⟨_,_,_,_,rfl,rfl,h1⟩
    refine ⟨x,y,rfl,hp g1 H1 [dx,dy] [x,y] (.bl t) _ r1.zd ra (by show (p _).map _=_;rw [e1];rfl) fun v H2 nw=>?_⟩;obtain ⟨Pv,s2,h1,r2,n2⟩:=AU.go s r1 nw;have sm:=nw.1;have ry2:Rep K g1 H2 0 dy y nop:=ry.held (Step.same (g:=g1) (P:=nop) sm) FpOk.nop fun _ z=>z.elim
    have s3:Step g P H g1 P1 H2:=s2.less fun _ z=>.inl z
    refine ⟨t,rep_bl h1,?_⟩;cases t with
    | false =>
      rw [if_neg kr] at e2 ⊢;obtain ⟨g4,P4,s4,r4⟩:=r2.weaken hw;exact q false m1 g4 P4 H2 e2 (ag.mono fun _ z=>ku _ z) (s3.trans s4) r4
    | true =>
      rw [if_pos rfl] at e2 ⊢;have key2:BN K [c] σ H2 fun ws H4=>∃ w,ws=[w]/\r' y w H4 Q:=by
        refine AH _ r2 c2 e2 fun cs m2 g4 P4 ws H4 hk2 ag2 s4 ar2 r4=>?_
        obtain ⟨u,e3,e4⟩:=bind_some' hk2;have ra2:=ar2.ra r4;have al:=ar2.len
        match cs,ws,al.1,al.2,ra2,e3 with
        | [cd],[w],_,_,ra2,e3 =>
          have ry4:Rep K g4 H4 0 dy y nop:=ry2.held s4 r2.fpOk fun _ z=>z.elim
          refine ⟨w,rfl,hp' g4 H4 [dy,cd] [y,w] (.bl u) Q r4.zd (by unfold RA;exact ⟨y,[w],0,nop,rfl,by decide,ry4,ra2⟩) (by show (p' _).map _=_;rw [show p' [dy,cd]=some u from e3];rfl) fun v' H5 nw'=>?_⟩;obtain ⟨Pv',s5,h5,r5,n5⟩:=AU.go (s3.trans s4) r4 nw';rw [rep_bl h5];exact q u m2 g4 P4 H5 e4 (ag.trans ag2) (s5.less fun _ z=>.inl z) r5
      refine GZ (fun w H4 z=>?_) key2;obtain ⟨w',ew,z⟩:=z;cases ew;exact z
  refine GZ (fun x H1 z=>?_) key;obtain ⟨g,m,P,r,R,k,res,e,q⟩:=z;refine ⟨g,m,P,r,R,k,res,e,fun d m' g' P' Pv v H' h1 h2 h3 h4 h5 h6=>?_⟩;obtain ⟨x',y',ev,z⟩:=q d m' g' P' Pv v H' h1 h2 h3 h4 h5 h6;cases ev;exact z
def cq (r:Rec) (C:Cf) (Γ:Gm) (a:Expr) (op:CmpOp) (b:Expr) (op':CmpOp) (c:Expr):Option CT:=if lastMarks [op,op'] [b,c] then none else (C.T.cmps.find? fun e=>e.op == op).bind fun en=>(C.T.cmps.find? fun e=>e.op == op').bind fun en'=>(Df r C Γ true a).bind fun x=>(r.E C x.Γ b).bind fun y=>(Df r C y.Γ true c).bind fun z =>
 if DH x.a y.Γ && DH z.a z.Γ && BS z.Γ y.Γ then some ⟨z.Γ,(x.js++(y.js++[]))++(z.js++[]),ZN (two en.f) (two en'.f) x.a (.ev x.Γ y.Γ y.js y.f) z.a⟩ else none
theorem Xz {r:Rec} (R:OkR r) {C:Cf} {X:Cx} {Γ:Gm} {a b c:Expr} {op op':CmpOp} {pos:Pos} {t:CT} (ok:Cok C X) (h:cq r C Γ a op b op' c=some t):PT X (.Compare a [op,op'] [b,c] pos) (tT X.K Γ t.Γ t.js t.f)/\∀ o,PE X (.Compare a [op,op'] [b,c] pos) (tE X.K Γ o t.Γ t.js (NQ t.f)):=by
 unfold cq at h;split at h
 ·cases h
 ·rename_i hm;rw [nW] at hm;obtain ⟨en,e1,h⟩:=bind_some' h;obtain ⟨en',e2,h⟩:=bind_some' h;obtain ⟨x,e3,h⟩:=bind_some' h;obtain ⟨y,e5,h⟩:=bind_some' h;obtain ⟨z,e4,h⟩:=bind_some' h;split at h
  ·rename_i hw;simp only [kX] at hw;obtain ⟨⟨w2,w4⟩,w6⟩:=hw;cases h;have eo:en.op=op:=by simpa using mB e1
   have eo':en'.op=op':=by simpa using mB e2
   obtain ⟨rr,q1,q2⟩:=en.ok X ok.gx;obtain ⟨rr',q1',q2'⟩:=en'.ok X ok.gx;rw [eo] at q1;rw [eo'] at q1';obtain ⟨a1,_,a2⟩:=BV R ok e3;obtain ⟨b1,_,b2⟩:=BV R ok e4;have hb:=Cv (R.E ok e5);have c1:AA Γ [x.a,.ev x.Γ y.Γ y.js y.f] y.Γ (x.js++(y.js++[])):=a2 (by unfold AA;exact ⟨rfl,_,rfl,BG⟩) w2;have c2:AA y.Γ [z.a] z.Γ (z.js++[]):=b2 BG w4;exact ⟨PT.imp (Kr q1 q1' a1 hb b1 hm) fun σ H Q h=>Hc (Q:=fun v H'=>∃ k,v=V.bl k/\Q k H') q2 q2' c1 c2 w6 (JV h fun b H' q=>⟨b,rfl,q⟩),fun o=>PE.imp (LC q1 q1' a1 hb b1 hm) fun σ H Q h=>Hc q2 q2' c1 c2 w6 (ZV h)⟩
  ·cases h
def jH (r:Rec) (C:Cf) (Γ:Gm) (a:Expr) (op:CmpOp) (b:Expr) (op':CmpOp) (c:Expr):Option CT:=if lastMarks [op,op'] [b,c] then none else (Ta C b).bind fun i=>(C.T.cmps.find? fun e=>e.op == op).bind fun en=>(C.T.cmps.find? fun e=>e.op == op').bind fun en'=>(Df r C Γ true a).bind fun x=>(Df r C x.Γ true c).bind fun z =>
 if (Γ.getD i none).isSome && DH x.a x.Γ && low x.Γ i && DH z.a z.Γ && low z.Γ i && BS z.Γ x.Γ then some ⟨z.Γ,(x.js++[])++(z.js++[]),gI (two en.f) (two en'.f) x.a i z.a⟩ else none
theorem cn {r:Rec} (R:OkR r) {C:Cf} {X:Cx} {Γ:Gm} {a b c:Expr} {op op':CmpOp} {pos:Pos} {t:CT} (ok:Cok C X) (h:jH r C Γ a op b op' c=some t):PT X (.Compare a [op,op'] [b,c] pos) (tT X.K Γ t.Γ t.js t.f)/\∀ o,PE X (.Compare a [op,op'] [b,c] pos) (tE X.K Γ o t.Γ t.js (NQ t.f)):=by
 unfold jH at h;split at h
 ·cases h
 ·rename_i hm;rw [nW] at hm;obtain ⟨i,e0,h⟩:=bind_some' h;obtain ⟨en,e1,h⟩:=bind_some' h;obtain ⟨en',e2,h⟩:=bind_some' h;obtain ⟨x,e3,h⟩:=bind_some' h;obtain ⟨z,e4,h⟩:=bind_some' h;split at h
  ·rename_i hw;simp only [kX] at hw;obtain ⟨⟨⟨⟨⟨w1,w2⟩,w3⟩,w4⟩,w5⟩,w6⟩:=hw;cases h;have eo:en.op=op:=by simpa using mB e1
   have eo':en'.op=op':=by simpa using mB e2
   obtain ⟨rr,q1,q2⟩:=en.ok X ok.gx;obtain ⟨rr',q1',q2'⟩:=en'.ok X ok.gx;rw [eo] at q1;rw [eo'] at q1';obtain ⟨a1,_,a2⟩:=BV R ok e3;obtain ⟨b1,_,b2⟩:=BV R ok e4;obtain ⟨o,hi⟩:=getD_some w1;obtain ⟨o2,lo2,hi2⟩:=HF w3;have c1:AA Γ [x.a,.rf i] x.Γ (x.js++[]):=a2 (by unfold AA;exact ⟨⟨o2,hi2⟩,⟨o2,lo2,hi2⟩,BG⟩) w2;have c2:AA x.Γ [.rf i,z.a] z.Γ (z.js++[]):=by
    unfold AA;exact ⟨⟨o2,hi2⟩,HF w5,b2 BG w4⟩
   exact ⟨PT.imp (Kr q1 q1' a1 (Cb ok e0) b1 hm) fun σ H Q h=>JJ (Q:=fun v H'=>∃ k,v=V.bl k/\Q k H') q2 q2' c1 c2 hi w6 (JV h fun b H' q=>⟨b,rfl,q⟩),fun o=>PE.imp (LC q1 q1' a1 (Cb ok e0) b1 hm) fun σ H Q h=>JJ q2 q2' c1 c2 hi w6 (ZV h)⟩
  ·cases h
def Nc (r:Rec) (C:Cf) (Γ:Gm) (a:Expr) (op:CmpOp) (b:Expr) (op':CmpOp) (c:Expr):Option CT:=match Ta C b with
 | some _=>jH r C Γ a op b op' c
 | none=>cq r C Γ a op b op' c
theorem PJ {r:Rec} (R:OkR r) {C:Cf} {X:Cx} {Γ:Gm} {a b c:Expr} {op op':CmpOp} {pos:Pos} {t:CT} (ok:Cok C X) (h:Nc r C Γ a op b op' c=some t):PT X (.Compare a [op,op'] [b,c] pos) (tT X.K Γ t.Γ t.js t.f)/\∀ o,PE X (.Compare a [op,op'] [b,c] pos) (tE X.K Γ o t.Γ t.js (NQ t.f)):=by
 unfold Nc at h;split at h
 ·exact cn R ok h
 ·exact Xz R ok h
def Ye (r:Rec) (C:Cf) (Γ:Gm) (e:Expr):Option CT:=match e with
 | .Compare a [op] [b] _=>Nb r C Γ a op b
 | .Compare a [op,op'] [b,c] _=>Nc r C Γ a op b op' c
 | .UnaryOp .Not x _=>(r.T C Γ x).map cZ
 | .BoolOp op vs pos=>Yh r C Γ op vs pos
 | e=>if Oh e then cR r C Γ e else none
theorem Ry {r:Rec} (R:OkR r) {C:Cf} {X:Cx} {Γ:Gm} {e:Expr} {c:CT} (ok:Cok C X) (h:Ye r C Γ e=some c):PT X e (tT X.K Γ c.Γ c.js c.f):=by
 have val:Oh e=true->(if Oh e then cR r C Γ e else none)=some c->PT X e (tT X.K Γ c.Γ c.js c.f):=fun hv h=>by
  rw [if_pos hv] at h;exact Xn R ok hv h
 match e,h with
 | .Compare a ops bs pos,h =>
  match ops,bs,h with
  | [op],[b],h=>exact (PH R ok h).1
  | [op,op'],[b,c],h=>exact (PJ R ok h).1
  | [],_,h=>cases h
  | [_],[],h=>cases h
  | [_],_::_::_,h=>cases h
  | [_,_],[],h=>cases h
  | [_,_],[_],h=>cases h
  | [_,_],_::_::_::_,h=>cases h
  | _::_::_::_,_,h=>cases h
 | .UnaryOp op x pos,h =>
  cases op with
  | Not =>
   cases q:r.T C Γ x with
   | none=>replace h:(r.T C Γ x).map cZ=some c:=h;rw [q] at h;cases h
   | some t =>
    replace h:(r.T C Γ x).map cZ=some c:=h;rw [q] at h;cases h;exact PT.imp (aK (R.T ok q)) fun _ _ _ h=>Zk h
  | _=>exact val rfl h
 | .BoolOp op vs pos,h=>exact SF R ok h
 | .IfExp a b c' d,h=>cases h
 | .NamedExpr ..,h | .BinOp ..,h | .Lambda ..,h | .Dict ..,h | .Set ..,h | .ListComp ..,h | .SetComp ..,h | .DictComp ..,h | .GeneratorExp ..,h | .Await ..,h | .Yield ..,h | .YieldFrom ..,h | .Call ..,h | .FormattedValue ..,h | .JoinedStr ..,h | .Constant ..,h | .Attribute ..,h | .Subscript ..,h | .Starred ..,h | .Name ..,h | .List ..,h | .Tuple ..,h | .Slice ..,h=>exact val rfl h
noncomputable def Ni {R:Type} (d:Dv) (k:Bool->Option R):Option R:=match d with | .bl b=>k b | _=>none
theorem Hf {R:Type} {d:Dv} {k:Bool->Option R} {r:R} (h:Ni d k=some r):∃ b,d=.bl b/\k b=some r:=by
 cases d<;>first | (cases h;done) | exact ⟨_,rfl,h⟩
def UN (f g:Ev Dv):Ev Dv:=fun R m k=>f R m fun d m1=>Ni d fun b=>if b=true then g R m1 k else k (.bl false) m1
def ZL (f g:Ev Dv):Ev Dv:=fun R m k=>f R m fun d m1=>Ni d fun b=>if b=true then k (.bl true) m1 else g R m1 k
def UD (f:Ev Dv):Ev Dv:=fun R m k=>f R m fun d m1=>Ni d fun b=>k (.bl (!b)) m1
section
variable {K:W.Frag} {Γ Γ' Γ2:Gm} {js js2:List Nat} {σ:St} {H:Hp} {f u:Ev Dv} {Q:VK}
theorem Zn (hw:BS Γ' Γ2=true) (h:tE K Γ 0 Γ' (js++js2) (UN f u) σ H Q):Yd (tE K Γ 0 Γ2 js f) (tE K Γ2 0 Γ' js2 u) σ H Q:=by
 obtain ⟨g,m,P,r,R,k,res,e,q⟩:=h;refine ⟨g,m,P,r,R,_,res,e,fun d m1 g1 P1 Pv v H1 hk ag s rv r1 n=>?_⟩;replace hk:=Hf hk;obtain ⟨b,rfl,hk⟩:=hk;have s1:Step _ _ _ g1 P1 H1:=s.less fun _ z=>.inl z
 refine ⟨b,rep_bl rv,?_⟩;cases b with
 | true=>rw [if_pos rfl] at hk ⊢;exact ⟨g1,m1,P1,r1,R,k,res,hk,fun d m2 g2 P2 Pw w H2 hk2 ag2 s2 rv2 r2 n2=>q d m2 g2 P2 Pw w H2 hk2 (ag.trans ag2) (s1.trans s2) rv2 r2 n2⟩
 | false =>
  rw [if_neg kr] at hk ⊢;obtain ⟨g2,P2,s2,r2⟩:=r1.weaken hw;exact q _ m1 g2 P2 nop _ H1 hk (ag.mono fun _ z=>ku _ z) ((s1.trans s2).less fun _ z=>z.elim id False.elim) CO r2 fun _ _ z=>z
theorem df (hw:BS Γ' Γ2=true) (h:tE K Γ 0 Γ' (js++js2) (ZL f u) σ H Q):da (tE K Γ 0 Γ2 js f) (tE K Γ2 0 Γ' js2 u) σ H Q:=by
 obtain ⟨g,m,P,r,R,k,res,e,q⟩:=h;refine ⟨g,m,P,r,R,_,res,e,fun d m1 g1 P1 Pv v H1 hk ag s rv r1 n=>?_⟩;replace hk:=Hf hk;obtain ⟨b,rfl,hk⟩:=hk;have s1:Step _ _ _ g1 P1 H1:=s.less fun _ z=>.inl z
 refine ⟨b,rep_bl rv,?_⟩;cases b with
 | false=>rw [if_neg kr] at hk ⊢;exact ⟨g1,m1,P1,r1,R,k,res,hk,fun d m2 g2 P2 Pw w H2 hk2 ag2 s2 rv2 r2 n2=>q d m2 g2 P2 Pw w H2 hk2 (ag.trans ag2) (s1.trans s2) rv2 r2 n2⟩
 | true =>
  rw [if_pos rfl] at hk ⊢;obtain ⟨g2,P2,s2,r2⟩:=r1.weaken hw;exact q _ m1 g2 P2 nop _ H1 hk (ag.mono fun _ z=>ku _ z) ((s1.trans s2).less fun _ z=>z.elim id False.elim) CO r2 fun _ _ z=>z
theorem Zm (h:tE K Γ 0 Γ' js (UD f) σ H Q):YY (tE K Γ 0 Γ' js f) σ H Q:=by
 obtain ⟨g,m,P,r,R,k,res,e,q⟩:=h;refine ⟨g,m,P,r,R,_,res,e,fun d m1 g1 P1 Pv v H1 hk ag s rv r1 n=>?_⟩;replace hk:=Hf hk;obtain ⟨b,rfl,hk⟩:=hk;exact ⟨b,rep_bl rv,q _ m1 g1 P1 nop _ H1 hk ag (s.less fun _ z=>z.elim .inl False.elim) CO r1 fun _ _ z=>z⟩
end
def gU (r:Rec) (C:Cf) (Γ:Gm) (x:Expr):Option CE:=(r.E C Γ x).bind fun c=>some ⟨0,c.Γ,c.js,UD c.f⟩
def SG (r:Rec) (C:Cf) (Γ:Gm) (op:BoolOp) (vs:List Expr) (pos:Pos):Option CE:=match vs with
 | []=>none
 | [a]=>r.E C Γ a
 | a::b::vs=>(r.E C Γ a).bind fun x=>(r.E C x.Γ (.BoolOp op (b::vs) pos)).bind fun y=>let Γ':=BX x.Γ y.Γ;let js:=x.js++y.js;if BS Γ' x.Γ && BS Γ' y.Γ then some ⟨0,Γ',js,NO (Ax Γ' js) (match op with | .And=>UN x.f y.f | .Or=>ZL x.f y.f)⟩ else none
theorem Pi {r:Rec} (R:OkR r) {C:Cf} {X:Cx} {Γ:Gm} {op:BoolOp} {vs:List Expr} {pos:Pos} {c:CE} (ok:Cok C X) (h:SG r C Γ op vs pos=some c):PE X (.BoolOp op vs pos) (tE X.K Γ c.o c.Γ c.js c.f):=by
 match vs,h with
 | [],h=>cases h
 | [a],h=>exact af (R.E ok h)
 | a::b::vs,h =>
  obtain ⟨x,e1,h⟩:=bind_some' h;obtain ⟨y,e2,h⟩:=bind_some' h;simp only at h;split at h
  ·rename_i hw;rw [kX] at hw;have ha:=Cv (R.E ok e1);have hb:=Cv (R.E ok e2);have jk:∀ (i o:Nat),(BX x.Γ y.Γ)[i]?=some (some o)->i∈Ax (BX x.Γ y.Γ) (x.js++y.js)\/i∉x.js++y.js:=fun i o h=>BL h
   cases op with
   | And=>cases h;exact PE.imp (ao ha (PE.imp hb fun _ _ _ h=>GM hw.2 (fun _ z=>z) h)) fun σ H Q h=>Zn hw.1 (GR jk (fun i z=>Aw z) h)
   | Or=>cases h;exact PE.imp (fL ha (PE.imp hb fun _ _ _ h=>GM hw.2 (fun _ z=>z) h)) fun σ H Q h=>df hw.1 (GR jk (fun i z=>Aw z) h)
  ·cases h
def gY (r:Rec) (C:Cf) (Γ:Gm) (c a b:Expr):Option CE:=(r.T C Γ c).bind fun t=>(r.E C t.Γ a).bind fun x=>(r.E C t.Γ b).bind fun y=>let Γ':=BX x.Γ y.Γ;let js:=t.js++(x.js++y.js);if BS Γ' x.Γ && BS Γ' y.Γ then some ⟨0,Γ',js,NO (Ax Γ' js) (HV t.f x.f y.f)⟩ else none
theorem Xw {r:Rec} (R:OkR r) {C:Cf} {X:Cx} {Γ:Gm} {c a b:Expr} {pos:Pos} {d:CE} (ok:Cok C X) (h:gY r C Γ c a b=some d):PE X (.IfExp c a b pos) (tE X.K Γ d.o d.Γ d.js d.f):=by
 obtain ⟨t,e1,h⟩:=bind_some' h;obtain ⟨x,e2,h⟩:=bind_some' h;obtain ⟨y,e3,h⟩:=bind_some' h;simp only at h;split at h
 ·rename_i hw;rw [kX] at hw;cases h;exact PE.imp (TH (R.T ok e1) (PE.imp (Cv (R.E ok e2)) fun _ _ _ h=>GM hw.1 (fun _ z=>z) h) (PE.imp (Cv (R.E ok e3)) fun _ _ _ h=>GM hw.2 (fun _ z=>z) h)) fun σ H Q h=>dh (GR (fun i o z=>BL z) (fun i z=>Aw z) h)
 ·cases h
theorem Av {es:List Expr} {env:Env} {pos:Pos} (h:es.all Ao=true):(backTo pos (starEach es env)).any (·.1)=false:=by
 induction es with
 | nil=>rfl
 | cons e es ih =>
  rw [lp,kX] at h;rw [AE h.1];show (false || (backTo pos (starEach es env)).any (·.1))=false;rw [ih h.2];rfl
theorem cz {es:List Expr} {env:Env} {pos:Pos} (h:es.all Ao=true):(backTo pos (starEach es env)).all (fun x=>!x.1)=true:=by
 induction es with
 | nil=>rfl
 | cons e es ih =>
  rw [lp,kX] at h;rw [AE h.1];show (true && (backTo pos (starEach es env)).all (fun x=>!x.1))=true;rw [ih h.2];rfl
def ZT (r:Rec) (C:Cf) (Γ:Gm) (s:Sig) (es:List Expr):Option CE:=(r.A C Γ ((List.range es.length).map s.io.contains) es).bind fun c=>if WD c.as s.io && (es.length == s.ps.length) && (slots c.as s.io).all (fun i=>c.Γ.getD i none == some 1) then some ⟨s.ro,c.Γ,c.js++slots c.as s.io,NP s c.as⟩ else none
theorem Uz {r:Rec} (R:OkR r) {C:Cf} {X:Cx} {Γ:Gm} {x:Str} {s:Sig} {es:List Expr} {p pos:Pos} {c:CE} (ok:Cok C X) (hs:(x,s)∈C.fs) (hg:Gl X x) (hn:RW x=true) (h:ZT r C Γ s es=some c):PE X (.Call (.Name x p) es [] pos) (tE X.K Γ c.o c.Γ c.js c.f):=by
 obtain ⟨c1,e1,h⟩:=bind_some' h;split at h
 ·rename_i hw;simp only [kX,lO,beq_iff_eq] at hw;cases h;obtain ⟨a1,a2,a3,a4,_⟩:=R.A ok e1;obtain ⟨nd,hio,j,kk,hj,hrm,F⟩:=ok.fs x s hs;have run:∀ {σ H Q},tE X.K Γ s.ro c1.Γ (c1.js++slots c1.as s.io) (NP s c1.as) σ H Q->de (OE X.K s) (BN X.K c1.as) σ H Q:=fun h=>Um a2 hw.1.1 (a3.trans hw.1.2) nd hio (fun i hi=>Az (hw.2 i hi)) h
  cases es with
  | nil =>
   have e:c1.as=[]:=lz a3;refine PE.imp (TJ F hrm hj hg (Bp hn).1) fun σ H Q h=>?_
   have:=run h;rw [e] at this;exact this
  | cons e es =>
   rw [lp,kX] at a4;exact PE.imp (Kz F hrm hj hg a1 (Bp hn).1 (AE a4.1) (Av a4.2)) fun σ H Q h=>run h
 ·cases h
def ZR (r:Rec) (C:Cf) (Γ:Gm) (s:Sig) (es:List Expr):Option CE:=(r.A C Γ (List.replicate es.length true) es).bind fun c=>if es.length == s.ps.length then some ⟨1,c.Γ,c.js,Jy s c.as⟩ else none
theorem Uv {r:Rec} (R:OkR r) {C:Cf} {X:Cx} {Γ:Gm} {x:Str} {s:Sig} {es:List Expr} {p pos:Pos} {c:CE} (ok:Cok C X) (hs:(x,s)∈C.fs) (hio:s.io=[]) (hg:Gl X x) (hn:RW x=true) (h:ZR r C Γ s es=some c):PE X (.Call (.Name x p) es [] pos) (tE X.K Γ c.o c.Γ c.js c.f):=by
 obtain ⟨c1,e1,h⟩:=bind_some' h;split at h
 ·rename_i hw;rw [beq_iff_eq] at hw;cases h;obtain ⟨a1,a2,a3,a4,_⟩:=R.A ok e1;obtain ⟨nd,_,j,kk,hj,hrm,F⟩:=ok.fs x s hs;have run:∀ {σ H Q},tE X.K Γ 1 c1.Γ c1.js (Jy s c1.as) σ H Q->de (OE X.K s) (BN X.K c1.as) σ H Q:=fun h=>Qs a2 hio (a3.trans hw) h
  cases es with
  | nil =>
   have e:c1.as=[]:=lz a3;refine PE.imp (TJ F hrm hj hg (Bp hn).1) fun σ H Q h=>?_
   have:=run h;rw [e] at this;exact this
  | cons e es =>
   rw [lp,kX] at a4;exact PE.imp (Kz F hrm hj hg a1 (Bp hn).1 (AE a4.1) (Av a4.2)) fun σ H Q h=>run h
 ·cases h
theorem Ck:∀ (sl:List Nat) (bs:List Dv) (m:M) (d:Dv),∃ d',EB sl bs (m++[d])=EB sl bs m++[d']
 | [],_,m,d=>⟨d,rfl⟩
 | _::_,[],m,d=>⟨d,rfl⟩
 | s::sl,b::bs,m,d=>by
  unfold EB
  by_cases h:s < m.length
  ·rw [List.set_append_left _ _ h];exact Ck sl bs _ d
  ·rw [List.set_append_right _ _ (by omega),List.set_eq_of_length_le (l:=m) (by omega)];cases s - m.length with
   | zero=>exact Ck sl bs m b
   | succ k=>exact Ck sl bs m d
section
variable {K:W.Frag} {g:G} {H H':Hp} {σ:St} {Γ Γ':Gm} {js:List Nat} {m:M} {P:Fp} {as:List Ar}
theorem Rel.snoc {d:Dv} {v:V} {Pv:Fp} (r:Rel K g H Γ m σ P) (h:Rep K g H 1 d v Pv) (n:Disj P Pv):Rel K g H (Γ++[some 1]) (m++[d]) (σ++[some v]) fun a=>P a\/Pv a:=by
  obtain ⟨zd,F,h1,h4⟩:=r
  let F':Nat->Fp:=fun i a=>(i < Γ.length/\F i a)\/(i=Γ.length/\Pv a)
  have lt:∀ {i:Nat} {a:Addr},F i a->i < Γ.length:=fun {i a} z=>by
    rcases nS i Γ.length with w | w
    · exact w
    · exact (h1.out i (fun o e=>by rw [mL w] at e;cases e) a z).elim
  refine ⟨zd,F',⟨by simp [h1.l1],by simp [h1.l2],fun i o e=>?_,fun i e a z=>?_,fun i j ne a z w=>?_⟩,fun a=>⟨fun z=>?_,fun ⟨i,z⟩=>?_⟩⟩
  · rcases nS i Γ.length with w | w
    · rw [kq w] at e;obtain ⟨d',v',e1,e2,e3⟩:=h1.rep i o e;refine ⟨d',v',by rw [kq (by rw [h1.l1];exact w)];exact e1,by rw [kq (by rw [h1.l2];exact w)];exact e2,e3.iff fun a=>⟨fun z=>z.elim (fun z=>z.2) fun z=>by omega,fun z=>.inl ⟨w,z⟩⟩⟩
    · have:i=Γ.length:=by
        have:=(ka.mp e).1;simp at this;omega
      subst this;rw [lN (kj _),mN] at e;cases e;refine ⟨d,v,by rw [<- h1.l1,lN (kj _),mN];rfl,by rw [<- h1.l2,lN (kj _),mN];rfl,h.iff fun a=>⟨fun z=>z.elim (fun z=>by omega) fun z=>z.2,fun z=>.inr ⟨rfl,z⟩⟩⟩
  · rcases z with ⟨w,z⟩ | ⟨rfl,z⟩
    · exact h1.out i (fun o e'=>e o (by rw [kq w];exact e')) a z
    · exact e 1 (by rw [lN (kj _),mN];rfl)
  · rcases z with ⟨_,z⟩ | ⟨e1,z⟩<;>rcases w with ⟨_,w⟩ | ⟨e2,w⟩
    · exact h1.dj i j ne a z w
    · exact n a ((h4 a).mpr ⟨i,z⟩) w
    · exact n a ((h4 a).mpr ⟨j,w⟩) z
    · omega
  · rcases z with z | z
    · obtain ⟨i,z⟩:=(h4 a).mp z;exact ⟨i,.inl ⟨lt z,z⟩⟩
    · exact ⟨_,.inr ⟨rfl,z⟩⟩
  · rcases z with ⟨_,z⟩ | ⟨_,z⟩
    · exact .inl ((h4 a).mpr ⟨i,z⟩)
    · exact .inr z
theorem Rel.init {x:Option Nat} {d:Dv} {y:Option V} (r:Rel K g H (Γ++[x]) (m++[d]) (σ++[y]) P):∃ P0,Rel K g H Γ m σ P0/\∀ a,P0 a->P a:=by
 obtain ⟨zd,F,h1,h4⟩:=r;have l1:m.length=Γ.length:=by have:=h1.l1;simpa using this
 have l2:σ.length=Γ.length:=by have:=h1.l2;simpa using this
 let F':Nat->Fp:=fun i a=>i < Γ.length/\F i a
 refine ⟨fun a=>∃ i,F' i a,⟨zd,F',⟨l1,l2,fun i o e=>?_,fun i e a z=>?_,fun i j ne a z w=>h1.dj i j ne a z.2 w.2⟩,fun _=>Iff.rfl⟩,fun a ⟨i,z⟩=>(h4 a).mpr ⟨i,z.2⟩⟩
 ·have w:=(ka.mp e).1;obtain ⟨d',v',e1,e2,e3⟩:=h1.rep i o (by rw [kq w];exact e);rw [kq (by omega)] at e1 e2;exact ⟨d',v',e1,e2,e3.iff fun a=>⟨fun z=>z.2,fun z=>⟨w,z⟩⟩⟩
 ·exact h1.out i (fun o e'=>e o (by rw [kq z.1] at e';exact e')) a z.2
theorem AL.snoc {d:Dv} {v:V} (l1:m.length=Γ.length) (l2:σ.length=Γ.length) (s:Nn H H'):∀ {as:List Ar} {ds:List Dv} {vs:List V},AL K g H Γ m σ as ds vs->AL K g H' (Γ++[some 1]) (m++[d]) (σ++[some v]) (as++[Ar.rf Γ.length]) (ds++[d]) (vs++[v])
 | [],ds,vs,h=>by
  unfold AL at h;obtain ⟨rfl,rfl⟩:=h;show AL K g H' _ _ _ [Ar.rf Γ.length] [d] [v];unfold AL;refine ⟨v,[],[],?_,rfl,by rw [<- l2,lN (kj _),mN];rfl,⟨1,by decide,by rw [lN (kj _),mN];rfl⟩,by unfold AL;exact ⟨rfl,rfl⟩⟩;have:(m++[d]).at Γ.length=d:=by unfold M.at;rw [lB,<- l1,lN (kj _),mN];rfl
  rw [this]
 | .ev _ _ _ f::as,ds,vs,h=>by
  unfold AL at h;obtain ⟨d0,v0,ds',vs',rfl,rfl,h1,h2⟩:=h;show AL K g H' _ _ _ (.ev _ _ _ f::(as++[Ar.rf Γ.length])) (d0::(ds'++[d])) (v0::(vs'++[v]));unfold AL;exact ⟨d0,v0,_,_,rfl,rfl,h1.held (Step.same (g:=g) (P:=nop) s) FpOk.nop fun _ z=>z.elim,AL.snoc l1 l2 s h2⟩
 | .rf i::as,ds,vs,h=>by
  unfold AL at h;obtain ⟨v0,ds',vs',rfl,rfl,h1,⟨o,ho,h2⟩,h3⟩:=h;have w:=(ka.mp h2).1;show AL K g H' _ _ _ (.rf i::(as++[Ar.rf Γ.length])) (m.at i::(ds'++[d])) (v0::(vs'++[v]));unfold AL;refine ⟨v0,_,_,?_,rfl,by rw [kq (by omega)];exact h1,⟨o,ho,by rw [kq w];exact h2⟩,AL.snoc l1 l2 s h3⟩;have:(m++[d]).at i=m.at i:=by unfold M.at;rw [lB,lB,kq (by omega)]
  rw [this]
def Jz (s:Sig) (as:List Ar) (N:Nat):Ev Dv:=fun R m k=>AJ as R m fun ds m1=>s.cps R (ds++[.dct [] []]) fun d bs=>k d (EB (slots (as++[Ar.rf N]) s.io) bs m1)
theorem RH {s:Sig} (c:AA Γ as Γ' js) (hs:WD (as++[Ar.rf Γ'.length]) s.io=true) (hn:(as++[Ar.rf Γ'.length]).length=s.ps.length) (nd:s.io.Nodup) (hio:∀ i∈s.io,i < s.ps.length) (hl:∀ i∈slots (as++[Ar.rf Γ'.length]) s.io,(Γ'++[some 1])[i]?=some (some 1)) {Q:VK}
    (h:tE K Γ s.ro Γ' (js++slots (as++[Ar.rf Γ'.length]) s.io) (Jz s as Γ'.length) σ H Q):BN K as σ H fun vs H1=>∀ p,H1 p=none->OE K s (vs++[.ref p]) (upd H1 p (.dK [])) Q E0:=by
  obtain ⟨g,m,P,r,R,k,res,e,q⟩:=h;refine AH as r c e fun ds m1 g1 P1 vs H1 hk ag st ar r1 p hp=>?_
  rw [s.eq] at hk;obtain ⟨⟨d,bs⟩,e1,e2⟩:=bind_some' hk;have nw:AU K g1 H1 1 (.dct [] []) (.ref p) (upd H1 p (.dK [])):=AU.dct r1.zd hp;have sm:=nw.1;obtain ⟨Pv,s2,h1,r2,n2⟩:=AU.go Step.refl r1 nw;obtain ⟨l1,l2⟩:m1.length=Γ'.length/\σ.length=Γ'.length:=by obtain ⟨_,F,h,_⟩:=r1;exact ⟨h.l1,h.l2⟩
  refine Fi hs hn nd hio hl (r2.snoc h1 n2) (ar.snoc l1 l2 sm) e1 fun g2 P2 Pw v H2 st2 rv rz n=>?_
  obtain ⟨d',ed⟩:=Ck (slots (as++[Ar.rf Γ'.length]) s.io) bs m1 (.dct [] []);rw [ed] at rz;obtain ⟨P0,r0,hP⟩:=rz.init;exact q d _ g2 P0 Pw v H2 e2 (ag.trans (Gz _ bs m1)) (st.trans (s2.trans (st2.less fun a z=>z.elim (fun z=>.inl (hP a z)) .inr))) rv r0 fun a z w=>n a (hP a z) w
end
noncomputable def Jt:Expr->Bool
 | .Dict [] [] _=>true
 | _=>false
theorem Qa {e:Expr} (h:Jt e=true):∃ pos,e=.Dict [] [] pos:=by
 unfold Jt at h;split at h
 ·exact ⟨_,rfl⟩
 ·cases h
def ZS (r:Rec) (C:Cf) (Γ:Gm) (s:Sig) (es:List Expr):Option CE:=(r.A C Γ ((List.range es.length).map s.io.contains) es.dropLast).bind fun c=>if WD (c.as++[Ar.rf c.Γ.length]) s.io && (es.length == s.ps.length) && (slots (c.as++[Ar.rf c.Γ.length]) s.io).all (fun i=>(c.Γ++[some 1]).getD i none == some 1) then some ⟨s.ro,c.Γ,c.js++slots (c.as++[Ar.rf c.Γ.length]) s.io,Jz s c.as c.Γ.length⟩ else none
theorem Uy {r:Rec} (R:OkR r) {C:Cf} {X:Cx} {Γ:Gm} {x:Str} {s:Sig} {es:List Expr} {p pos:Pos} {c:CE} (ok:Cok C X) (hs:(x,s)∈C.fs) (hg:Gl X x) (hn:RW x=true) (hd:(es.getLast?.map Jt).getD false=true) (h:ZS r C Γ s es=some c):PE X (.Call (.Name x p) es [] pos) (tE X.K Γ c.o c.Γ c.js c.f):=by
  obtain ⟨c1,e1,h⟩:=bind_some' h;split at h
  · rename_i hw;simp only [kX,lO,beq_iff_eq] at hw;cases h;obtain ⟨a1,a2,a3,a4,_⟩:=R.A ok e1;obtain ⟨nd,hio,j,kk,hj,hrm,F⟩:=ok.fs x s hs;obtain ⟨l,es0,rfl⟩:∃ l es0,es=es0++[l]:=by
      cases q:es.getLast? with
      | none=>rw [q] at hd;cases hd
      | some l=>obtain ⟨ys,e⟩:=List.getLast?_eq_some_iff.mp q;exact ⟨l,ys,e⟩
    rw [List.getLast?_concat] at hd;obtain ⟨ps,rfl⟩:=Qa hd;rw [List.dropLast_concat] at e1 a1 a3 a4;have pa:=R.B ok e1 (LA (X:=X) (pos:=ps)) rfl;have run:∀ {σ H Q},tE X.K Γ s.ro c1.Γ (c1.js++slots (c1.as++[Ar.rf c1.Γ.length]) s.io) (Jz s c1.as c1.Γ.length) σ H Q->de (OE X.K s) (Rq (BN X.K c1.as) Ru) σ H Q:=fun h=>RH a2 hw.1.1 (by rw [<- hw.1.2];simp [a3]) nd hio (fun i hi=>Az (hw.2 i hi)) h
    have ns:(es0++[Expr.Dict [] [] ps]).all Ao=true:=by rw [List.all_append,a4];rfl
    cases es0 with
    | nil=>exact PE.imp (Kz F hrm hj hg pa (Bp hn).1 (AE rfl) rfl) fun σ H Q h=>run h
    | cons e es =>
      rw [mf,lp,kX] at ns;exact PE.imp (Kz F hrm hj hg pa (Bp hn).1 (AE ns.1) (Av ns.2)) fun σ H Q h=>run h
  · cases h
section
variable {K:W.Frag} {g:G} {H H':Hp} {Γ Γ1 Γ':Gm} {m:M} {σ:St} {P:Fp} {as:List Ar} {js js0:List Nat} {f0:Ev Dv}
theorem AL.lift {d:Dv} {v:V} (l1:m.length=Γ.length) (l2:σ.length=Γ.length):∀ {as:List Ar} {ds:List Dv} {vs:List V},AL K g H Γ m σ as ds vs->AL K g H (Γ++[some 1]) (m++[d]) (σ++[some v]) as ds vs
 | [],ds,vs,h=>by unfold AL at h ⊢;exact h
 | .ev _ _ _ f::as,ds,vs,h=>by
  unfold AL at h ⊢;obtain ⟨d0,v0,ds',vs',e1,e2,h1,h2⟩:=h;exact ⟨d0,v0,ds',vs',e1,e2,h1,AL.lift l1 l2 h2⟩
 | .rf i::as,ds,vs,h=>by
  unfold AL at h ⊢;obtain ⟨v0,ds',vs',e1,e2,h1,⟨o,ho,h2⟩,h3⟩:=h;have w:=(ka.mp h2).1;refine ⟨v0,ds',vs',?_,e2,by rw [kq (by omega)];exact h1,⟨o,ho,by rw [kq w];exact h2⟩,AL.lift l1 l2 h3⟩;have:(m++[d]).at i=m.at i:=by unfold M.at;rw [lB,lB,kq (by omega)]
  rw [this];exact e1
def Ou (s:Sig) (f0:Ev Dv) (as:List Ar) (N:Nat):Ev Dv:=fun R m k=>f0 R m fun d0 m0=>AJ as R m0 fun ds m1=>s.cps R (d0::ds) fun d bs=>k d (EB (slots (Ar.rf N::as) s.io) bs m1)
theorem RG {s:Sig} (c:AA Γ1 as Γ' js) (hs:WD (Ar.rf Γ'.length::as) s.io=true) (hn:(Ar.rf Γ'.length::as).length=s.ps.length) (nd:s.io.Nodup) (hio:∀ i∈s.io,i < s.ps.length) (hl:∀ i∈slots (Ar.rf Γ'.length::as) s.io,(Γ'++[some 1])[i]?=some (some 1)) {Q:VK}
    (h:tE K Γ s.ro Γ' (js0++(js++slots (Ar.rf Γ'.length::as) s.io)) (Ou s f0 as Γ'.length) σ H Q):tE K Γ 1 Γ1 js0 f0 σ H fun v0 H0=>BN K as σ H0 fun vs H1=>OE K s (v0::vs) H1 Q E0:=by
  obtain ⟨g,m,P,r,R,k,res,e,q⟩:=h;refine ⟨g,m,P,r,R,_,res,e,fun d0 m0 g0 P0 Pv0 v0 H0 hk ag0 s0 rv0 r0 n0=>?_⟩;refine AH as r0 c hk fun ds m1 g1 P1 vs H1 hk1 ag1 st ar r1=>?_
  rw [s.eq] at hk1;obtain ⟨⟨d,bs⟩,e1,e2⟩:=bind_some' hk1;have rv1:=rv0.held st r0.fpOk fun a q z=>n0 a z q
  have n1:=st.out rv0.fpOk fun a q z=>n0 a z q
  obtain ⟨l1,l2⟩:m1.length=Γ'.length/\σ.length=Γ'.length:=by obtain ⟨_,F,h,_⟩:=r1;exact ⟨h.l1,h.l2⟩
  have ar':AL K g1 H1 (Γ'++[some 1]) (m1++[d0]) (σ++[some v0]) (Ar.rf Γ'.length::as) (d0::ds) (v0::vs):=by
    unfold AL;refine ⟨v0,ds,vs,?_,rfl,by rw [<- l2,lN (kj _),mN];rfl,⟨1,by decide,by rw [lN (kj _),mN];rfl⟩,ar.lift l1 l2⟩;have:(m1++[d0]).at Γ'.length=d0:=by unfold M.at;rw [lB,<- l1,lN (kj _),mN];rfl
    rw [this]
  refine Fi hs hn nd hio hl (r1.snoc rv1 fun a q z=>n1 a z q) ar' e1 fun g2 P2 Pw v H2 st2 rv rz n=>?_
  obtain ⟨d',ed⟩:=Ck (slots (Ar.rf Γ'.length::as) s.io) bs m1 d0;rw [ed] at rz;obtain ⟨P3,r3,hP⟩:=rz.init;exact q d _ g2 P3 Pw v H2 e2 (ag0.trans (ag1.trans (Gz _ bs m1))) (s0.trans ((st.frame (R:=Pv0)).trans (st2.less fun a z=>z.elim (fun z=>.inl (hP a z)) .inr))) rv r3 fun a z w=>n a (hP a z) w
end
noncomputable def ib:Expr->Bool
 | .Call ..=>true
 | _=>false
def Ux (r:Rec) (C:Cf) (Γ:Gm) (s:Sig) (es:List Expr):Option CE:=match es with
 | []=>none
 | e::es=>if Ao e then (r.E C Γ e).bind fun c0=>if c0.o == 1 then (r.A C c0.Γ ((List.range es.length).map fun i=>s.io.contains (i+1)) es).bind fun c=>if WD (Ar.rf c.Γ.length::c.as) s.io && (es.length+1 == s.ps.length) && (slots (Ar.rf c.Γ.length::c.as) s.io).all (fun i=>(c.Γ++[some 1]).getD i none == some 1) then some ⟨s.ro,c.Γ,c0.js++(c.js++slots (Ar.rf c.Γ.length::c.as) s.io),Ou s c0.f c.as c.Γ.length⟩ else none else none else none
theorem Uw {r:Rec} (R:OkR r) {C:Cf} {X:Cx} {Γ:Gm} {x:Str} {s:Sig} {es:List Expr} {p pos:Pos} {c:CE} (ok:Cok C X) (hs:(x,s)∈C.fs) (hg:Gl X x) (hn:RW x=true) (h:Ux r C Γ s es=some c):PE X (.Call (.Name x p) es [] pos) (tE X.K Γ c.o c.Γ c.js c.f):=by
 cases es with
 | nil=>cases h
 | cons e es =>
  unfold Ux at h;simp only at h;split at h
  ·rename_i ns;obtain ⟨c0,e0,h⟩:=bind_some' h;split at h
   ·rename_i ho;obtain ⟨c1,e1,h⟩:=bind_some' h;split at h
    ·rename_i hw;simp only [kX,lO,beq_iff_eq] at hw;cases h;have b0:=R.E ok e0;rw [beq_iff_eq.mp ho] at b0;obtain ⟨a1,a2,a3,a4,_⟩:=R.A ok e1;obtain ⟨nd,hio,j,kk,hj,hrm,F⟩:=ok.fs x s hs;exact PE.imp (Kz F hrm hj hg (Cz b0 a1 (AE ns)) (Bp hn).1 (AE ns) (Av a4)) fun σ H Q h=>RG a2 hw.1.1 (by rw [<- hw.1.2];simp [a3]) nd hio (fun i hi=>Az (hw.2 i hi)) h
    ·cases h
   ·cases h
  ·cases h
def cY (r:Rec) (C:Cf) (Γ:Gm) (s:Sig) (es:List Expr):Option CE:=if s.nb && s.io.isEmpty then ZR r C Γ s es else if (es.getLast?.map Jt).getD false && s.io.contains (es.length - 1) then ZS r C Γ s es else if (es.head?.map ib).getD false && s.io.contains 0 then Ux r C Γ s es else ZT r C Γ s es
theorem Xs {r:Rec} (R:OkR r) {C:Cf} {X:Cx} {Γ:Gm} {x:Str} {s:Sig} {es:List Expr} {p pos:Pos} {c:CE} (ok:Cok C X) (hs:(x,s)∈C.fs) (hg:Gl X x) (hn:RW x=true) (h:cY r C Γ s es=some c):PE X (.Call (.Name x p) es [] pos) (tE X.K Γ c.o c.Γ c.js c.f):=by
 unfold cY at h;split at h
 ·rename_i z;rw [kX,List.isEmpty_iff] at z;exact Uv R ok hs z.2 hg hn h
 ·split at h
  ·rename_i z;rw [kX] at z;exact Uy R ok hs hg hn z.1 h
  ·split at h
   ·exact Uw R ok hs hg hn h
   ·exact Uz R ok hs hg hn h
def Uu (r:Rec) (C:Cf) (Γ:Gm) (en:CallE) (es:List Expr):Option CE:=if es.isEmpty then none else (r.A C Γ (List.replicate es.length true) es).bind fun c=>some ⟨en.o,c.Γ,c.js,Cc en.f (AJ c.as)⟩
theorem Ut {r:Rec} (R:OkR r) {C:Cf} {X:Cx} {Γ:Gm} {en:CallE} {es:List Expr} {p pos:Pos} {c:CE} (ok:Cok C X) (hb:en.x∈C.bl) (hg:Gl X en.x) (hn:RW en.x=true) (h:Uu r C Γ en es=some c):PE X (.Call (.Name en.x p) es [] pos) (tE X.K Γ c.o c.Γ c.js c.f):=by
 cases es with
 | nil=>cases h
 | cons e es =>
  unfold Uu at h;rw [if_neg (by simp)] at h;obtain ⟨c1,e1,h⟩:=bind_some' h;cases h;obtain ⟨a1,a2,a3,a4,_⟩:=R.A ok e1;rw [lp,kX] at a4;obtain ⟨rr,q1,q2⟩:=en.ok X ok.gx;have n:=Bp hn;rcases q2 with ⟨id,q2,q3⟩ | ⟨T,q2,q3⟩
  ·exact PE.imp (TK q2 hg (ok.bl _ hb) q3 a1 n.2.2 n.1 (AE a4.1) (Av a4.2)) fun _ _ _ h=>BJ q1 a2 h
  ·exact PE.imp (QF q2 hg (ok.bl _ hb) q3 a1 n.2.2 n.1 (AE a4.1) (Av a4.2)) fun _ _ _ h=>BJ q1 a2 h
noncomputable def VP:Expr->Bool
 | .Call _ _ _ _=>false
 | _=>true
theorem Em {o:Expr} {name:Str} {env:Env} {w:Sem Value} (h:VP o=true):attributeBase o name env w=w:=by
 cases o<;>first | rfl | (cases h)
def cb (r:Rec) (C:Cf) (Γ:Gm) (en:MutE) (i:Nat) (es:List Expr):Option CE:=if es.length < 29 && (Γ.getD i none).isSome then (r.A C Γ [] es).bind fun c=>if c.Γ.getD i none == some 1 then some ⟨0,c.Γ,c.js++[i],UF en.T i en.p (AJ c.as)⟩ else none else none
theorem NN {e:Expr} {es:List Expr} {env:Env} {pos:Pos} (h:(e::es).all Ao=true) (hl:(e::es).length < 29):((backTo pos (starEach (e::es) env)).all (fun x=>!x.1) && (backToKw pos (keywordEach [] env)).all (fun x=>x.1.isSome)
      && decide ((e::es).length+([]:List Keyword).length+(if ([]:List Keyword).isEmpty then 0 else 1) < 30))=true:=by
  rw [cz h];show (true && true && decide _)=true;simp only [mD,Bool.true_and,decide_eq_true_eq,ly,List.isEmpty_nil,if_true];omega
theorem Xu {r:Rec} (R:OkR r) {C:Cf} {X:Cx} {Γ:Gm} {en:MutE} {i:Nat} {o:Expr} {es:List Expr} {apos pos:Pos} {c:CE} (ok:Cok C X) (hi:Ta C o=some i) (hline:(apos.endLine == pos.line)=true) (h:cb r C Γ en i es=some c):PE X (.Call (.Attribute o en.x apos) es [] pos) (tE X.K Γ c.o c.Γ c.js c.f):=by
 unfold cb at h;split at h
 ·rename_i h0;simp only [kX,decide_eq_true_eq] at h0;obtain ⟨c1,e1,h⟩:=bind_some' h;split at h
  ·rename_i h1;cases h;obtain ⟨a1,a2,a3,a4,a5⟩:=R.A ok e1;obtain ⟨id,rr,q1,q2,q3,q4,q5⟩:=en.ok X ok.gx;have ho:=Cb ok hi;have hbase:attributeBase o en.x X.env (eval o X.env)=eval o X.env:=Em (by cases o<;>first | rfl | (cases hi));have run:∀ {σ H Q},tE X.K Γ 0 c1.Γ (c1.js++[i]) (UF en.T i en.p (AJ c1.as)) σ H Q->dn X.K en.T rr (Ex i) (BN X.K c1.as) σ H Q:=fun h=>Wy q5 en.hT a2 (a5 rfl) (getD_some h0.2) (Az (beq_iff_eq.mp h1)) h
   cases es with
   | nil =>
    have e:c1.as=[]:=lz a3;refine PE.imp (TM q1 q2 q3 q4 ho hbase hline) fun σ H Q h=>?_
    have:=run h;rw [e] at this;exact this
   | cons e es =>
    have a4':=a4;rw [lp,kX] at a4;exact PE.imp (Yq q1 q2 q3 q4 ho a1 hbase (NN a4' h0.1) hline (AE a4.1) (Av a4.2)) fun σ H Q h=>run h
  ·cases h
 ·cases h
def gW (r:Rec) (C:Cf) (Γ:Gm) (en:MethE) (o:Expr) (es:List Expr):Option CE:=if es.length < 29 && VP o then (Df r C Γ true o).bind fun x=>(r.A C x.Γ (List.replicate es.length true) es).bind fun c=>if DH x.a c.Γ then some ⟨en.o,c.Γ,x.js++c.js,UG en.T x.a c.as en.f⟩ else none else none
theorem Na {r:Rec} (R:OkR r) {C:Cf} {X:Cx} {Γ:Gm} {en:MethE} {o:Expr} {es:List Expr} {apos pos:Pos} {c:CE} (ok:Cok C X) (hline:(apos.endLine == pos.line)=true) (hn:en.n=es.length) (h:gW r C Γ en o es=some c):PE X (.Call (.Attribute o en.x apos) es [] pos) (tE X.K Γ c.o c.Γ c.js c.f):=by
 unfold gW at h;split at h
 ·rename_i h0;simp only [kX,decide_eq_true_eq] at h0;obtain ⟨x,e0,h⟩:=bind_some' h;obtain ⟨c1,e1,h⟩:=bind_some' h;split at h
  ·rename_i h1;cases h;obtain ⟨o1,_,o2⟩:=BV R ok e0;obtain ⟨a1,a2,a3,a4,a5⟩:=R.A ok e1;obtain ⟨id,rr,q1,q2,q3,q4,q5⟩:=en.ok X ok.gx;have hbase:attributeBase o en.x X.env (eval o X.env)=eval o X.env:=Em h0.2;rcases en.hT with hT | ⟨hT,hT1⟩
   ·have run:∀ {σ H Q},tE X.K Γ en.o c1.Γ (x.js++c1.js) (UG en.T x.a c1.as en.f) σ H Q->dn X.K en.T rr (Ez X.K x.a) (BN X.K c1.as) σ H Q:=fun h=>bJ q5 hT (o2 a2 h1) h
    cases es with
    | nil =>
     have e:c1.as=[]:=lz a3;refine PE.imp (TM q1 q2 q3 q4 o1 hbase hline) fun σ H Q h=>?_
     have:=run h;rw [e] at this;exact this
    | cons e es =>
     have a4':=a4;rw [lp,kX] at a4;exact PE.imp (Yq q1 q2 q3 q4 o1 a1 hbase (NN a4' h0.1) hline (AE a4.1) (Av a4.2)) fun σ H Q h=>run h
   ·have run:∀ {σ H Q},tE X.K Γ en.o c1.Γ (x.js++c1.js) (UG en.T x.a c1.as en.f) σ H Q->iP rr (Ez X.K x.a) (BN X.K c1.as) σ H Q:=fun h=>XA q5 (o2 a2 h1) (by rw [hT] at h;exact h)
    rw [hT] at q1 q2;cases es with
    | nil=>rw [hT1] at hn;cases hn
    | cons e es =>
     have a4':=a4;rw [lp,kX] at a4;exact PE.imp (fP q1 q2 q3 q4 o1 a1 hbase (NN a4' h0.1) hline (AE a4.1) (Av a4.2)) fun σ H Q h=>run h
  ·cases h
 ·cases h
def cQ (c1 c2:CE):Option CE:=if c1.o == c2.o && c1.Γ == c2.Γ && c1.js == c2.js then some ⟨c1.o,c1.Γ,c1.js,NO (Ax c1.Γ c1.js) (evOr c1.f c2.f)⟩ else none
theorem Xl {X:Cx} {Γ:Gm} {e:Expr} {c1 c2 c:CE} (h1:PE X e (tE X.K Γ c1.o c1.Γ c1.js c1.f)) (h2:PE X e (tE X.K Γ c2.o c2.Γ c2.js c2.f)) (h:cQ c1 c2=some c):PE X e (tE X.K Γ c.o c.Γ c.js c.f):=by
 unfold cQ at h;split at h
 ·rename_i h0;simp only [kX,beq_iff_eq] at h0;obtain ⟨⟨e1,e2⟩,e3⟩:=h0;cases h;rw [<- e1,<- e2,<- e3] at h2;intro pins s σ H Q I q;rcases Zl (GR (fun i o z=>BL z) (fun i z=>Aw z) q) with q | q
  ·exact h1 pins s σ H Q I q
  ·exact h2 pins s σ H Q I q
 ·cases h
def jD (r:Rec) (C:Cf) (Γ:Gm) (o:Expr) (es:List Expr):List MethE->Option CE
 | []=>none
 | [en]=>gW r C Γ en o es
 | en::en2::_=>(gW r C Γ en o es).bind fun c1=>(gW r C Γ en2 o es).bind fun c2=>cQ c1 c2
def PK (r:Rec) (C:Cf) (Γ:Gm) (f:Expr) (es:List Expr) (pos:Pos):Option CE:=match f with
  | .Name x _=>if GC C.sc x && RW x then (match C.fs.find? fun p=>p.1 == x with
      | some p=>cY r C Γ p.2 es
      | none=>(C.T.calls.find? fun e=>e.x == x && e.n == es.length).bind fun en=>if C.bl.contains x then Uu r C Γ en es else none) else none
  | .Attribute o name apos=>if apos.endLine == pos.line then (match C.T.muts.find? fun e=>e.x == name && e.n == es.length with
      | some en=>(Ta C o).bind fun i=>cb r C Γ en i es
      | none=>jD r C Γ o es (C.T.meths.filter fun e=>e.x == name && e.n == es.length)) else none
  | _=>none
theorem VD {r:Rec} (R:OkR r) {C:Cf} {X:Cx} {Γ:Gm} {f:Expr} {es:List Expr} {pos:Pos} {c:CE} (ok:Cok C X) (h:PK r C Γ f es pos=some c):PE X (.Call f es [] pos) (tE X.K Γ c.o c.Γ c.js c.f):=by
  cases f with
  | Name x p =>
    simp only [PK] at h;split at h
    · rename_i h0;rw [kX] at h0;split at h
      · rename_i p' hp;have e:p'.1=x:=by simpa using mB hp
        have hm:=ng hp;exact Xs R ok (s:=p'.2) (by rw [<- e];exact hm) (BM ok h0.1) h0.2 h
      · replace h:=bind_some' h;obtain ⟨en,e1,h⟩:=h;split at h
        · rename_i hb;have e:=mB e1;simp only [kX,beq_iff_eq] at e;obtain ⟨rfl,_⟩:=e;exact Ut R ok (ki.mp hb) (BM ok h0.1) h0.2 h
        · cases h
    · cases h
  | Attribute o name apos =>
    simp only [PK] at h;split at h
    · rename_i hl;split at h
      · rename_i en he;have e:=mB he;simp only [kX,beq_iff_eq] at e;obtain ⟨rfl,_⟩:=e;obtain ⟨i,e1,h⟩:=bind_some' h;exact Xu R ok e1 hl h
      · have hm:∀ en∈C.T.meths.filter fun e=>e.x == name && e.n == es.length,en.x=name/\en.n=es.length:=fun en he=>by
          have:=(mW.mp he).2;simp only [kX,beq_iff_eq] at this;exact this
        revert h hm
        generalize (C.T.meths.filter fun e=>e.x == name && e.n == es.length)=L;intro h hm
        match L,hm,h with
        | [],hm,h=>cases h
        | [en],hm,h =>
          obtain ⟨rfl,e2⟩:=hm en kg;exact Na R ok hl e2 h
        | en::en2::_,hm,h =>
          obtain ⟨c1,e1,h⟩:=bind_some' h;obtain ⟨c2,e2,h⟩:=bind_some' h;obtain ⟨q1,q2⟩:=hm en kg;obtain ⟨q3,q4⟩:=hm en2 (kh _ kg);have p1:=Na (pos:=pos) (apos:=apos) R ok hl q2 e1;have p2:=Na (pos:=pos) (apos:=apos) R ok hl q4 e2;rw [q1] at p1;rw [q3] at p2;exact Xl p1 p2 h
    · cases h
  | _=>cases h
def KL (C:Cf) (x:Str):Option Nat:=if RW x then (match C.sc.names.lookup x with
 | some .local=>Co C.N x
 | some .cell=>if C.fn x then Co C.N x else none
 | _=>none) else none
theorem GU {C:Cf} {X:Cx} {x:Str} {i:Nat} (ok:Cok C X) (h:KL C x=some i):X.N[i]?=some x/\Loc X.env.scope x/\(X.fn x=true\/X.env.scope.names.lookup x=some .local):=by
 unfold KL at h;split at h
 ·split at h
  ·rename_i e;rw [ok.N,ok.sc];exact ⟨BY h,.inl e,.inr e⟩
  ·rename_i e;split at h
   ·rename_i hf;rw [ok.N,ok.sc];exact ⟨BY h,.inr e,.inl (ok.fn x hf)⟩
   ·cases h
  ·cases h
 ·cases h
theorem PQ {C:Cf} {X:Cx} {x:Str} {i:Nat} {pos:Pos} (ok:Cok C X) (h:KL C x=some i):PG X (.Name x pos) (DZ i):=by
 obtain ⟨h1,h2,h3⟩:=GU ok h;exact Wh ok.nd h1 h2 h3
def dS (C:Cf):List Expr->Option (List Nat)
 | []=>some []
 | .Name x _::es=>(KL C x).bind fun i=>(dS C es).bind fun J=>some (i::J)
 | _::_=>none
theorem Rl {C:Cf} {X:Cx} (ok:Cok C X):∀ {es:List Expr} {J:List Nat},dS C es=some J->dM X es (EL J)/\(assignEach es X.env).length=J.length/\(assignEach es X.env).findIdx? (·.1)=none
 | [],J,h=>by cases h;exact ⟨OR,rfl,rfl⟩
 | e::es,J,h=>by
  cases e with
  | Name x pos =>
   obtain ⟨i,e1,h⟩:=bind_some' (show (KL C x).bind (fun i=>(dS C es).bind fun J=>some (i::J))=some J from h);obtain ⟨J',e2,h⟩:=bind_some' h;cases h;obtain ⟨h1,h2,h3⟩:=Rl ok e2;refine ⟨HB (PQ ok e1) h1 rfl,?_,?_⟩
   ·show (assignEach es X.env).length+1=_;rw [h2];rfl
   ·show List.findIdx? (·.1) ((false,assign (.Name x pos) X.env)::assignEach es X.env)=none;rw [List.findIdx?_cons,h3];rfl
  | _=>cases h
structure CG:Type 1 where
 J:List Nat
 f:Tg
 g:W.Frag->TG
 Γ:Gm->Gm
def cG (C:Cf) (e:Expr):Option CG:=match e with
 | .Name x _=>(KL C x).map fun i=>⟨[i],dW i,fun _=>DZ i,fun Γ=>Γ.set i (some 0)⟩
 | .Tuple es _ _=>(dS C es).map fun J=>⟨J,je J,fun K=>fu K J.length (EL J),fun Γ=>Zx Γ J (some 0)⟩
 | _=>none
theorem Fy {C:Cf} {X:Cx} {e:Expr} {c:CG} (ok:Cok C X) (h:cG C e=some c):PG X e (c.g X.K)/\(∀ js,(∀ i∈c.J,i∈js)->Rb js (c.g X.K))/\∀ {K Γ},c.J.all (fun i=>decide (i < Γ.length))=true->Nl K Γ (c.Γ Γ) c.J (c.g K) c.f:=by
 cases e with
 | Name x pos =>
  cases q:KL C x with
  | none=>simp only [cG,q] at h;cases h
  | some i =>
   simp only [cG,q] at h;cases h;exact ⟨PQ ok q,fun js hj=>Tt (hj i (mv _)),fun h=>Vs (by simpa using h)⟩
 | Tuple es k pos =>
  cases q:dS C es with
  | none=>simp only [cG,q] at h;cases h
  | some J =>
   simp only [cG,q] at h;cases h;obtain ⟨h1,h2,h3⟩:=Rl ok q;exact ⟨PG.or (TC ok.calm h1 h2 h3) (aY ok.calm h1 h2 h3),fun js hj=>ba (XI (EK J hj)) (XJ (EK J hj)),fun h=>Rm (by simpa using h)⟩
 | _=>cases h
def jC (r:Rec) (C:Cf) (Γ:Gm) (en:SrcE) (es:List Expr):Option CI:=(r.A C Γ [] es).bind fun c=>some ⟨c.Γ,c.js,ZI en.f (AJ c.as)⟩
def cV (r:Rec) (C:Cf) (Γ:Gm) (e:Expr):Option CI:=(r.E C Γ e).bind fun c=>some ⟨c.Γ,c.js,Oq c.f⟩
def SD (r:Rec) (C:Cf) (Γ:Gm) (tt:Bool) (e:Expr):Option CI:=match e with
  | .Call (.Name x _) es [] _=>(match C.T.srcs.find? fun en=>en.x == x && en.n == es.length && (!en.tt || tt) with
      | some en=>if GC C.sc x && C.bl.contains x && (C.fs.find? fun p=>p.1 == x).isNone then jC r C Γ en es else none
      | none=>cV r C Γ e)
  | e=>cV r C Γ e
theorem SB {r:Rec} (R:OkR r) {C:Cf} {X:Cx} {Γ:Gm} {e:Expr} {c:CI} (tg:Expr) (ok:Cok C X) (h:SD r C Γ (Js tg) e=some c):PI X tg e (tI X.K Γ c.Γ c.js c.f):=by
 have seq:cV r C Γ e=some c->PI X tg e (tI X.K Γ c.Γ c.js c.f):=fun h=>by
  obtain ⟨c1,e1,h⟩:=bind_some' h;cases h;exact ff (Cv (R.E ok e1))
 unfold SD at h;split at h
 ·rename_i x p es pos;split at h
  ·rename_i en he;split at h
   ·rename_i h0;simp only [kX] at h0;have e:=mB he;simp only [kX,beq_iff_eq] at e;obtain ⟨⟨rfl,hn⟩,htt⟩:=e;obtain ⟨c1,e1,h⟩:=bind_some' h;cases h;obtain ⟨a1,a2,a3,a4,a5⟩:=R.A ok e1;obtain ⟨rr,q1,q2⟩:=en.ok X ok.gx;exact PI.imp (q2 tg es p pos _ (fun z=>by rw [z] at htt;simpa using htt) hn.symm a4 (BM ok h0.1.1) (ok.bl _ (ki.mp h0.1.2)) a1) fun _ _ _ h=>Vw q1 a2 (a5 rfl) h
   ·cases h
  ·exact seq h
 ·exact seq h
def Gv (scope sc:Scope):Scope:={ scope with names:=scope.names.map fun (n,k)=>if (k == .free && sc.kind == .function && sc.names.lookup n == some .cell) then (n,.cell) else (n,k) }
def Cf.inner (C:Cf) (scope:Scope):Cf:={ C with sc:=Gv scope C.sc,fn:=AM scope }
theorem Cok.inner {C:Cf} {X:Cx} (ok:Cok C X) (scope:Scope) (cl:List (Str×Addr)) (a:Addr) (s:Shared) (H:Hp) (fp:List Addr):Cok (C.inner scope) (X.inner scope cl a s H fp) where
 N:=ok.N
 sc:=by
  show relabel scope X.env=Gv scope C.sc;unfold relabel Gv Env.kindOf;rw [ok.sc]
 nd:=ok.nd
 calm:=ok.calm
 fn:=fun _ h=>h
 room:=ok.room
 fs:=ok.fs
 cs:=ok.cs
 bl:=ok.bl
 xe:=rfl
noncomputable def Mp (N:List Str) (scope:Scope):List Nat:=(List.range N.length).filter fun i=>match N[i]? with
 | some x=>(match scope.names.lookup x with | some .local=>true | some .cell=>true | _=>false)
 | none=>false
structure CC:Type 1 where
 t:CG
 c:CT
 e:CE
def KZ (r:Rec) (C:Cf) (Γl:Gm) (tg:CG) (ifs:List Expr) (elt:Expr):Option CC:=if tg.J.all (fun i=>decide (i < Γl.length)) then (match ifs with
 | []=>some (CT.mk (tg.Γ Γl) [] Da)
 | [c]=>r.T C (tg.Γ Γl) c
 | _=>none).bind fun c=>(r.E C c.Γ elt).bind fun e=>some ⟨tg,c,e⟩ else none
def cE (r:Rec) (C:Cf) (tg:CG) (ifs:List Expr) (elt:Expr):Nat->Gm->Option (Gm×CC)
 | 0,_=>none
 | n+1,Γl=>(KZ r C Γl tg ifs elt).bind fun x=>if BS Γl x.c.Γ && BS Γl x.e.Γ then some (Γl,x) else cE r C tg ifs elt n (BX Γl (BX x.c.Γ x.e.Γ))
def JK (r:Rec) (C:Cf) (Γ:Gm) (elt:Expr) (gens:List Comprehension) (scope:Scope):Option CE:=match gens with
  | [⟨tg,iter,ifs,0⟩]=>(match iter with | .Set _ _ _=>none | _=>r.I C Γ (Js tg) iter).bind fun s=>let jx:=Mp C.N scope;if innerOk C.N C.sc scope jx then (cG (C.inner scope) tg).bind fun t=>(cE r (C.inner scope) t ifs elt 4 (MD jx s.Γ)).bind fun p =>
      let J:=Ax p.1 (t.J++(p.2.c.js++p.2.e.js))
      if BS p.1 (MD jx s.Γ) && t.J.all jx.contains then some ⟨1,Kj jx s.Γ p.1,s.js++(t.J++(p.2.c.js++p.2.e.js)),match J,ifs with
        | [],[]=>UH s.f t.f p.2.e.f
        | [],_=>UI s.f t.f p.2.c.f p.2.e.f
        | J,[]=>Ot s.f t.f J p.2.e.f
        | J,_=>Os s.f t.f J p.2.c.f p.2.e.f⟩ else none else none
  | _=>none
theorem Jx {r:Rec} {C:Cf} {tg:CG} {ifs:List Expr} {elt:Expr}:∀ {n:Nat} {Γ:Gm} {p:Gm×CC},cE r C tg ifs elt n Γ=some p->KZ r C p.1 tg ifs elt=some p.2/\BS p.1 p.2.c.Γ=true/\BS p.1 p.2.e.Γ=true
 | 0,_,_,h=>by cases h
 | n+1,Γ,p,h=>by
  obtain ⟨x,e1,h⟩:=bind_some' (show (KZ r C Γ tg ifs elt).bind _=some p from h);split at h
  ·rename_i hw;rw [kX] at hw;cases h;exact ⟨e1,hw.1,hw.2⟩
  ·exact Jx h
theorem TN {X:Cx} {Γ:Gm}:Vl X [] (tT X.K Γ Γ [] Da):=fun pins s σ H Q I h=>by
 obtain ⟨g,m,P,r,R,k,res,e,q⟩:=h;exact wpAny_tests_nil ⟨H,I,q true m g P H e BW.refl Step.refl r⟩
theorem Lx {r:Rec} (R:OkR r) {C:Cf} {X:Cx} {Γ:Gm} {elt:Expr} {gens:List Comprehension} {scope:Scope} {pos:Pos} {c:CE} (ok:Cok C X) (h:JK r C Γ elt gens scope=some c):PE X (.ListComp elt gens scope pos) (tE X.K Γ c.o c.Γ c.js c.f):=by
 unfold JK at h;split at h
 ·rename_i tg iter ifs;obtain ⟨s,e1,h⟩:=bind_some' h;simp only at h;split at h
  ·rename_i hin;obtain ⟨t,e2,h⟩:=bind_some' h;obtain ⟨p,e3,h⟩:=bind_some' h;split at h
   ·rename_i hw;rw [kX] at hw;cases h;obtain ⟨f1,f2,f3⟩:=Jx e3;unfold KZ at f1;split at f1
    ·rename_i hj;obtain ⟨ct,f1a,f1⟩:=bind_some' f1;obtain ⟨ce,f1b,f1⟩:=bind_some' f1;have ep:p.2=⟨t,ct,ce⟩:=(Option.some.inj f1).symm;have hs:∀ x,foldedSetIterable iter X.env x=pure x:=fun x=>by cases iter<;>first | rfl | (cases e1)
     have hI:r.I C Γ (Js tg) iter=some s:=by cases iter<;>first | exact e1 | (cases e1)
     have hi:=R.I tg ok hI;have okI:=fun cl a s H fp=>ok.inner scope cl a s H fp
     have hg:∀ cl a s H fp,PG (X.inner scope cl a s H fp) tg (t.g X.K):=fun cl a s H fp=>(Fy (okI cl a s H fp) e2).1
     have hsx:∀ i∈t.J,i∈Mp C.N scope:=fun i hi=>ki.mp ((lO.mp hw.2) i hi)
     have hgo:Rb (Mp C.N scope) (t.g X.K):=(Fy (okI [] 0 X.s₀ X.H₀ []) e2).2.1 _ hsx;have ht:Nl X.K p.1 (t.Γ p.1) t.J (t.g X.K) t.f:=(Fy (okI [] 0 X.s₀ X.H₀ []) e2).2.2 hj;have he:∀ cl a s H fp,PE (X.inner scope cl a s H fp) elt (tE X.K ct.Γ 0 ce.Γ ce.js ce.f):=fun cl a s H fp=>Cv (R.E (okI cl a s H fp) f1b)
     have hin':innerOk X.N X.env.scope scope (Mp C.N scope)=true:=by rw [ok.N,ok.sc];exact hin
     rw [ep] at f2 f3 ⊢;simp only at f2 f3 ⊢;cases ifs with
     | nil =>
      cases f1a;have hc:∀ cl a s H fp,Vl (X.inner scope cl a s H fp) [] (tT X.K (t.Γ p.1) (t.Γ p.1) [] Da):=fun cl a s H fp=>TN
      have base:=LB (pos:=pos) hin' ok.calm hi hg hgo hc he hs;cases hJ:Ax p.1 (t.J++([]++ce.js)) with
      | nil=>exact PE.imp base fun σ H Q h=>LJ ht hw.1 f3 f2 hsx hJ.symm h
      | cons j J=>exact PE.imp base fun σ H Q h=>JI ht hw.1 f3 f2 hsx hJ.symm h
     | cons i1 ifs =>
      cases ifs with
      | nil =>
       have hc:∀ cl a s H fp,Vl (X.inner scope cl a s H fp) [i1] (tT X.K (t.Γ p.1) ct.Γ ct.js ct.f):=fun cl a s H fp=>.one (R.T (okI cl a s H fp) f1a)
       have base:=LB (pos:=pos) hin' ok.calm hi hg hgo hc he hs;cases hJ:Ax p.1 (t.J++(ct.js++ce.js)) with
       | nil=>exact PE.imp base fun σ H Q h=>LL ht hw.1 f3 f2 hsx hJ.symm h
       | cons j J=>exact PE.imp base fun σ H Q h=>JH ht hw.1 f3 f2 hsx hJ.symm h
      | cons _ _=>cases f1a
    ·cases f1
   ·cases h
  ·cases h
 ·cases h
end R
namespace Q
open PySem L2
section
end
section
end
section
end
section
end
section
end
section
end
noncomputable def zipD2:List Dt->List Dt->List Dt
 | x1::xs1,x2::xs2=>.tup [x1,x2]::zipD2 xs1 xs2
 | _,_=>[]
section
end
section
end
section
end
section
end
section
end
section
end
mutual
noncomputable def Dt.nol:Dt->Bool
 | .tup ds=>nols ds
 | .lst _ _=>false
 | .dic _ _=>false
 | .dti _ _=>false
 | .ref _=>false
 | _=>true
noncomputable def nols:List Dt->Bool
 | []=>true
 | d::ds=>d.nol && nols ds
end
section
end
section
end
section
end
end Q
namespace HT
open PySem PyProof.Rows
section
variable {prog:Program} {w:World} {A:Around} {E:Value->Shared->Prop} {s:Shared}
theorem LV {α β:Type} {f g:α->Option β}:∀ {l:List α},(∀ a∈l,f a=g a)->l.filterMap f=l.filterMap g
 | [],_=>rfl
 | a::l,h=>by
  rw [mQ,mQ,h a kg,LV fun b hb=>h b (kh _ hb)]
theorem MG (n:Nat):Builtin.Slice.sliceAdjust none none (-1) (n:Int)=((n:Int) - 1,-1):=by
 unfold Builtin.Slice.sliceAdjust;rfl
theorem Ky (n:Nat):Builtin.Slice.slicePlaces ((n:Int) - 1) (-1) (-1)=n:=by
 unfold Builtin.Slice.slicePlaces;have h1:¬ ((-1:Int) > 0):=by omega
 simp only [h1,if_false];have h2:(-(-1:Int))=1:=by decide
 simp only [h2,Int.ediv_one];split<;>omega
theorem QB (xs:Array Value):((List.range xs.size).filterMap fun (m:Nat)=>xs[((xs.size:Int) - 1+(m:Int) * (-1)).toNat]?).toArray=xs.toList.reverse.toArray:=by
 have e:(List.range xs.size).filterMap (fun (m:Nat)=>xs[((xs.size:Int) - 1+(m:Int) * (-1)).toNat]?)=((List.range xs.size).map fun k=>xs.size - 1 - k).filterMap (xs[·]?):=by
  rw [nO];refine LV fun m hm=>?_
  have hm:=mR.mp hm;have:((xs.size:Int) - 1+(m:Int) * (-1)).toNat=xs.size - 1 - m:=by omega
  show _=xs[xs.size - 1 - m]?;rw [this]
 rw [e,W.krv_range,List.filterMap_reverse,W.krv_all]
theorem getItem_tuple_back {t sl:Addr} {items:Array Value} {k:Tok} {Q:Value->Shared->Prop} (ht:IsTup s.heap t items) (hs:s.heap.IsSliceOf sl .none .none (.int (-1) k))
    (h:Q (.ref s.heap.objs.size) { s with heap:=s.heap.push { cls:=.type "tuple", data:=.seq items.toList.reverse.toArray } })
    (hsz:items.size<=sizeLine):wpAny (model prog w) A (getItem (.ref t) (.ref sl)) Q E s:=by
  have htake:sizeOk (.seq items.toList.reverse.toArray):=by
    show items.toList.reverse.toArray.size<=sizeLine;rw [kc,ml,Array.length_toList];exact hsz
  obtain ⟨os,hos,hcs,hds⟩:=id hs
  have hTs:s.TypeIs (.ref sl) "slice" := ⟨os,hos,hcs⟩
  unfold getItem
  try with_reducible refine wpAny_holding ?_
  first | refine wpAny_bind (wpAny_pure ?_) | skip
  refine wpAny_bind (wpAny_sequenceKey ht.typeIs (by decide) ?_)
  refine wpAny_bind (wpAny_callSpecial?_slot (name:=Str.ofString "__getitem__") ht.typeIs lT
    (wpAny_call_entry lT ht.typeIs entry_tuple_getitem ?_ (args_tuple_getitem _ _)))
  show wpAny _ _ (Builtin.Tuple.tupleItemsOf (.ref t) >>= _) _ _ s;refine wpAny_bind (tupleItemsOf_ ht ?_);refine wpAny_bind (wpAny_typeOf hTs ?_);rw [if_pos (by decide)];have ap:∀ {A':Around} {Q:Int×Int×Nat->Shared->Prop},Q ((items.size:Int) - 1,-1,items.size) s->wpAny (model prog w) A' (Builtin.Slice.sliceApplied (.ref sl) (pure (items.size:Int))) Q E s:=fun {A' Q} h=>by
    unfold Builtin.Slice.sliceApplied Builtin.Slice.sliceFields;refine wpAny_bind (wpAny_bind (wpAny_field hos hds (x:=.none) rfl (wpAny_bind (wpAny_field hos hds (x:=.none) rfl (wpAny_bind (wpAny_field hos hds (x:=.int (-1) k) rfl (wpAny_pure ?_)))))));refine wpAny_bind (EG (.int (-1) k) ?_);show wpAny _ _ (if ((-1:Int) == 0)=true then _ else _) _ _ s;rw [if_neg (by decide)];refine wpAny_bind (slicePart_none (wpAny_bind (slicePart_none (wpAny_bind (wpAny_pure ?_)))));show wpAny _ _ (match Builtin.Slice.sliceAdjust none none (-1) (items.size:Int) with | (lo,hi)=>pure (lo,(-1:Int),Builtin.Slice.slicePlaces lo hi (-1))) _ _ s;rw [MG];show wpAny _ _ (pure (((items.size:Int) - 1),(-1:Int),Builtin.Slice.slicePlaces ((items.size:Int) - 1) (-1) (-1))) _ _ s;rw [Ky];exact wpAny_pure h
  refine wpAny_bind (ap ?_);have hno:¬ ((((items.size:Int) - 1) == 0 && (-1:Int) == 1 && items.size == items.size)=true):=by
    intro q;rw [kX,kX] at q;exact absurd q.1.2 (by decide)
  show wpAny _ _ (if (((items.size:Int) - 1) == 0 && (-1:Int) == 1 && items.size == items.size)=true then _ else _) _ _ s;rw [if_neg hno,QB]
  first
    | exact wpAny_bind (m:=Builtin.Tuple.tupleExact _) (wpAny_newObj_type (wpAny_pure ⟨_,rfl,wpAny_pure h⟩) htake)
    | exact wpAny_bind (m:=Builtin.Tuple.tupleExact _) (wpAny_newObj_type (wpAny_bind (wpAny_pure (wpAny_pure ⟨_,rfl,wpAny_pure h⟩))) htake)
    | exact wpAny_bind (wpAny_bind (m:=Builtin.Tuple.tupleExact _) (wpAny_newObj_type (wpAny_pure (wpAny_pure ⟨_,rfl,wpAny_pure h⟩)) htake))
    | exact wpAny_bind (wpAny_bind (m:=Builtin.Tuple.tupleExact _) (wpAny_newObj_type (wpAny_pure ⟨_,rfl,wpAny_pure h⟩) htake))
end
end HT
namespace L2
open PySem PySem.Spec PyProof.Rows
section
variable {X:Cx} {e st:Expr} {te ts:TE} {pos p2:Pos}
abbrev dY (K:W.Frag) (te ts:TE):TE:=fun σ H Q=>te σ H fun x H1=>ts σ H1 fun y H2=>∃ a xs b,x=.ref a/\y=.int (-1)/\ML K H2 a xs b/\∀ p,H2 p=none->Q (.ref p) (upd H2 p (bif b then .tup xs.reverse else .lst xs.reverse))
theorem Wi (K:W.Frag) (he:PE X e te) (hst:PE X st ts) (hK:X.K=K:=by rfl) (hsub:∀ o i,∃ ops,subscripted (.Slice none none (some st) p2) false o i=operate ops (getItem o i):=by intro o i;exact ⟨_,by with_unfolding_all rfl⟩):PE X (.Subscript e (.Slice none none (some st) p2) pos) (dY K te ts):=by
 subst hK;intro pins s σ H Q I h;refine Subscript_ (Ah (he pins s σ H _ I h) fun v s1 ⟨x,H1,I1,r1,q1⟩=>?_);refine wpAny_Slice ?_;rw [evalPart_none];refine wpAny_pure ?_;refine wpAny_pure ?_;rw [evalPart_some];refine Ah (hst pins s1 σ H1 _ I1 q1) fun vs s3 ⟨y,H3,I3,r3,q3⟩=>?_
 obtain ⟨a,xs,b,rfl,rfl,hx,q⟩:=q3;cases r1;obtain ⟨t,rfl⟩:=r3
 have I4:Inv X pins σ H3 { s3 with heap:=s3.heap.push { cls:=.type "slice", data:=.fields #[.none,.none,.int (-1) t] } }:=I3.kept (t':=s3.toks) fun b ob q=>kY _ q
 show wpAny (model X.prog X.w) X.A (subscriptTail e (.Slice none none (some st) p2) (.ref a) (.ref s3.heap.objs.size)) (EP X pins σ Q) X.xe { s3 with heap:=s3.heap.push { cls:=.type "slice", data:=.fields #[.none,.none,.int (-1) t] } }
 obtain ⟨ops,hops⟩:=hsub (.ref a) (.ref s3.heap.objs.size);cases b with
 | false =>
  obtain ⟨its,r,ht,hz⟩:=I4.list hx;have hlen:=r.length;refine tail_any (ops:=ops) ht.isList.typeIs slot_list_getitem.lookup ?_ hops;refine wpAny_getItem_list_slice ht.isList (Heap.IsSliceOf.new ..) .none .none (.int (-1) t) (by decide) ?_ (by rw [kc];omega);rw [W.krv_pick];rw [show its.toArray.toList.reverse=its.reverse by simp]
  have I5:=I4.laid (t':=s3.toks) (o:=.lst xs.reverse) (h':=(s3.heap.push { cls:=.type "slice", data:=.fields #[.none,.none,.int (-1) t] }).push { cls:=.type "list", data:=.seq its.reverse.toArray }) (fun b ob q=>kY _ q) (kj _) ⟨by rw [ml];exact hz,its.reverse,0,ER r,kz _ rfl⟩
  exact ⟨.ref _,_,I5,rfl,q _ (I4.hok.fresh (kj _))⟩
 | true =>
  obtain ⟨its,r,ht,hz⟩:=I4.tuple hx;have hlen:=r.length;refine tail_any (ops:=ops) ht.typeIs lT.lookup ?_ hops;refine HT.getItem_tuple_back ht (Heap.IsSliceOf.new ..) ?_ (by rw [kc];omega);rw [show its.toArray.toList.reverse=its.reverse by simp]
  have I5:=I4.laid (t':=s3.toks) (o:=.tup xs.reverse) (h':=(s3.heap.push { cls:=.type "slice", data:=.fields #[.none,.none,.int (-1) t] }).push { cls:=.type "tuple", data:=.seq its.reverse.toArray }) (fun b ob q=>kY _ q) (kj _) ⟨by rw [ml];exact hz,its.reverse,ER r,GK.new _ _⟩
  exact ⟨.ref _,_,I5,rfl,q _ (I4.hok.fresh (kj _))⟩
end
end L2
namespace Q
open PySem L2
section
end
end Q
namespace R
open PySem L2
noncomputable def bN (f:Expr) (es:List Expr):Option (List Expr):=match f,es with
 | .Name x _,[.Call (.Name y _) (a::es) [] _]=>if x == ("list" : Str) && y == ("range" : Str) then some (a::es) else none
 | _,_=>none
theorem QU {f:Expr} {es as:List Expr} (h:bN f es=some as):∃ p a es' p2 pos2,f=.Name "list" p/\as=a::es'/\es=[.Call (.Name "range" p2) (a::es') [] pos2]:=by
 unfold bN at h;split at h
 ·split at h
  ·rename_i e;rw [kX,beq_iff_eq,beq_iff_eq] at e;obtain ⟨rfl,rfl⟩:=e;cases h;exact ⟨_,_,_,_,_,rfl,rfl,rfl⟩
  ·cases h
 ·cases h
def kD (r:Rec) (C:Cf) (Γ:Gm) (as:List Expr):Option CE:=if GC C.sc "list" && GC C.sc "range" && C.bl.contains "list" && C.bl.contains "range" then (r.A C Γ (List.replicate as.length true) as).bind fun c=>some ⟨1,c.Γ,c.js,Cc C.T.lr (AJ c.as)⟩ else none
noncomputable def Zi (f:Expr) (es:List Expr):Option (List Expr):=match f,es with
 | .Name x _,[.Call (.Name y _) (a::es) [] _]=>if x == ("tuple" : Str) && y == ("range" : Str) then some (a::es) else none
 | _,_=>none
theorem Pe {f:Expr} {es as:List Expr} (h:Zi f es=some as):∃ p a es' p2 pos2,f=.Name "tuple" p/\as=a::es'/\es=[.Call (.Name "range" p2) (a::es') [] pos2]:=by
 unfold Zi at h;split at h
 ·split at h
  ·rename_i e;rw [kX,beq_iff_eq,beq_iff_eq] at e;obtain ⟨rfl,rfl⟩:=e;cases h;exact ⟨_,_,_,_,_,rfl,rfl,rfl⟩
  ·cases h
 ·cases h
def kA (r:Rec) (C:Cf) (Γ:Gm) (as:List Expr):Option CE:=if GC C.sc "tuple" && GC C.sc "range" && C.bl.contains "tuple" && C.bl.contains "range" then (r.A C Γ (List.replicate as.length true) as).bind fun c=>some ⟨1,c.Γ,c.js,Cc C.T.tr (AJ c.as)⟩ else none
noncomputable def bM (f:Expr) (es:List Expr):Option Expr:=match f,es with
 | .Name x _,[.Call (.Name y _) [a] [] _]=>if x == ("list" : Str) && y == ("reversed" : Str) then some a else none
 | _,_=>none
theorem QT {f a:Expr} {es:List Expr} (h:bM f es=some a):∃ p p2 pos2,f=.Name "list" p/\es=[.Call (.Name "reversed" p2) [a] [] pos2]:=by
 unfold bM at h;split at h
 ·split at h
  ·rename_i e;rw [kX,beq_iff_eq,beq_iff_eq] at e;obtain ⟨rfl,rfl⟩:=e;cases h;exact ⟨_,_,_,rfl,rfl⟩
  ·cases h
 ·cases h
def jF (r:Rec) (C:Cf) (Γ:Gm) (a:Expr):Option CE:=if GC C.sc "list" && GC C.sc "reversed" && C.bl.contains "list" && C.bl.contains "reversed" && Ao a then (MF r C Γ a).bind fun x=>some ⟨1,x.Γ,x.js++[],Cc (one C.T.lv) (AJ [x.a])⟩ else none
theorem cf {r:Rec} (R:OkR r) {C:Cf} {X:Cx} {Γ:Gm} {a:Expr} {p p2 pos2 pos:Pos} {c:CE} (ok:Cok C X) (h:jF r C Γ a=some c):PE X (.Call (.Name "list" p) [.Call (.Name "reversed" p2) [a] [] pos2] [] pos) (tE X.K Γ c.o c.Γ c.js c.f):=by
 unfold jF at h;split at h
 ·rename_i hg;simp only [kX] at hg;obtain ⟨⟨⟨⟨g1,g2⟩,g3⟩,g4⟩,g5⟩:=hg;obtain ⟨x,e1,h⟩:=bind_some' h;cases h;obtain ⟨a1,a2⟩:=Dy R ok e1;exact PE.imp (Mn ok.calm (BM ok g1) (ok.bl _ (ki.mp g3)) (BM ok g2) (ok.bl _ (ki.mp g4)) a1 rfl rfl (AE g5) rfl) fun _ _ _ h=>BJ (C.T.lvok X ok.gx) a2 h
 ·cases h
def Nd (r:Rec) (C:Cf) (Γ:Gm) (f:Expr) (es:List Expr) (pos:Pos):Option CE:=match bN f es with
 | some as=>kD r C Γ as
 | none=>match bM f es with
  | some a=>jF r C Γ a
  | none=>match Zi f es with
   | some as=>kA r C Γ as
   | none=>PK r C Γ f es pos
theorem RK {r:Rec} (R:OkR r) {C:Cf} {X:Cx} {Γ:Gm} {f:Expr} {es:List Expr} {pos:Pos} {c:CE} (ok:Cok C X) (h:Nd r C Γ f es pos=some c):PE X (.Call f es [] pos) (tE X.K Γ c.o c.Γ c.js c.f):=by
 unfold Nd at h;split at h
 ·rename_i as e;obtain ⟨p,a,es',p2,pos2,rfl,rfl,rfl⟩:=QU e;unfold kD at h;split at h
  ·rename_i hg;simp only [kX] at hg;obtain ⟨⟨⟨g1,g2⟩,g3⟩,g4⟩:=hg;obtain ⟨c1,e1,h⟩:=bind_some' h;cases h;obtain ⟨a1,a2,a3,a4,_⟩:=R.A ok e1;rw [lp,kX] at a4;exact PE.imp (Mm ok.calm (BM ok g1) (ok.bl _ (ki.mp g3)) (BM ok g2) (ok.bl _ (ki.mp g4)) a1 rfl rfl (AE a4.1) (Av a4.2)) fun _ _ _ h=>BJ (C.T.lrok X ok.gx) a2 h
  ·cases h
 ·split at h
  ·rename_i a e;obtain ⟨p,p2,pos2,rfl,rfl⟩:=QT e;exact cf R ok h
  ·split at h
   ·rename_i as e;obtain ⟨p,a,es',p2,pos2,rfl,rfl,rfl⟩:=Pe e;unfold kA at h;split at h
    ·rename_i hg;simp only [kX] at hg;obtain ⟨⟨⟨g1,g2⟩,g3⟩,g4⟩:=hg;obtain ⟨c1,e1,h⟩:=bind_some' h;cases h;obtain ⟨a1,a2,a3,a4,_⟩:=R.A ok e1;rw [lp,kX] at a4;exact PE.imp (QE ok.calm (BM ok g1) (ok.bl _ (ki.mp g3)) (BM ok g2) (ok.bl _ (ki.mp g4)) a1 rfl rfl (AE a4.1) (Av a4.2)) fun _ _ _ h=>BJ (C.T.trrok X ok.gx) a2 h
    ·cases h
   ·exact VD R ok h
noncomputable def fZ:Expr->Bool
 | .UnaryOp .USub (.Constant (.int 1) _ _) _=>true
 | _=>false
def cW (r:Rec) (C:Cf) (Γ:Gm) (a st:Expr):Option CE:=if fZ st then (Hg r C Γ a st).bind fun p=>some ⟨1,p.2.Γ,jj p,Cc (two C.T.rv) (AJ [p.1.a,p.2.a])⟩ else none
theorem Xp {r:Rec} (R:OkR r) {C:Cf} {X:Cx} {Γ:Gm} {a st:Expr} {p2 pos:Pos} {c:CE} (ok:Cok C X) (h:cW r C Γ a st=some c):PE X (.Subscript a (.Slice none none (some st) p2) pos) (tE X.K Γ c.o c.Γ c.js c.f):=by
 unfold cW at h;split at h
 ·rename_i hm;obtain ⟨p,e1,h⟩:=bind_some' h;cases h;obtain ⟨h1,h2,h3⟩:=De R ok e1;unfold fZ at hm;split at hm
  ·exact PE.imp (Wi X.K h1 h2 rfl (by intro o i;exact ⟨_,by with_unfolding_all rfl⟩)) fun _ _ _ h=>BJ (C.T.rvok X ok.gx) h3 h
  ·cases hm
 ·cases h
noncomputable def XB (f:Expr) (es:List Expr) (ks:List Keyword):Option (Expr×Expr):=match f,es,ks with
 | .Name x _,[a],[⟨some y,e,_⟩]=>if x == ("max" : Str) && y == ("default" : Str) then some (a,e) else none
 | _,_,_=>none
theorem QO {f:Expr} {es:List Expr} {ks:List Keyword} {q:Expr×Expr} (h:XB f es ks=some q):∃ p kp,f=.Name "max" p/\es=[q.1]/\ks=[⟨some "default", q.2,kp⟩]:=by
 unfold XB at h;split at h
 ·split at h
  ·rename_i e;rw [kX,beq_iff_eq,beq_iff_eq] at e;obtain ⟨rfl,rfl⟩:=e;cases h;exact ⟨_,_,rfl,rfl,rfl⟩
  ·cases h
 ·cases h
def jE (r:Rec) (C:Cf) (Γ:Gm) (a e:Expr):Option CE:=if GC C.sc "max" && C.bl.contains "max" && Ao a then (Hg r C Γ a e).bind fun p=>some ⟨1,p.2.Γ,jj p,Cc (two C.T.md) (AJ [p.1.a,p.2.a])⟩ else none
theorem cc {r:Rec} (R:OkR r) {C:Cf} {X:Cx} {Γ:Gm} {a e:Expr} {p kp pos:Pos} {c:CE} (ok:Cok C X) (h:jE r C Γ a e=some c):PE X (.Call (.Name "max" p) [a] [⟨some "default", e,kp⟩] pos) (tE X.K Γ c.o c.Γ c.js c.f):=by
 unfold jE at h;split at h
 ·rename_i hg;simp only [kX] at hg;obtain ⟨⟨g1,g2⟩,g3⟩:=hg;obtain ⟨p,e1,h⟩:=bind_some' h;cases h;obtain ⟨h1,h2,h3⟩:=De R ok e1;exact PE.imp (Wj ok.calm (BM ok g1) (ok.bl _ (ki.mp g2)) h1 h2 (AE g3)) fun _ _ _ h=>BJ (C.T.mdok X ok.gx) h3 h
 ·cases h
def KF (r:Rec) (C:Cf) (Γ:Gm) (f:Expr) (es:List Expr) (ks:List Keyword) (pos:Pos):Option CE:=match ks with
 | []=>Nd r C Γ f es pos
 | k::ks=>match XB f es (k::ks) with
  | some q=>jE r C Γ q.1 q.2
  | none=>none
theorem RL {r:Rec} (R:OkR r) {C:Cf} {X:Cx} {Γ:Gm} {f:Expr} {es:List Expr} {ks:List Keyword} {pos:Pos} {c:CE} (ok:Cok C X) (h:KF r C Γ f es ks pos=some c):PE X (.Call f es ks pos) (tE X.K Γ c.o c.Γ c.js c.f):=by
 cases ks with
 | nil=>exact RK R ok h
 | cons k ks =>
  cases q:XB f es (k::ks) with
  | none=>unfold KF at h;simp only [q] at h;cases h
  | some z =>
   unfold KF at h;simp only [q] at h;obtain ⟨p,kp,e1,e2,e3⟩:=QO q;rw [e1,e2,e3];exact cc R ok h
def Yg (r:Rec) (C:Cf) (Γ:Gm) (e:Expr):Option CE:=match e with
 | .Constant k _ _=>VC Γ k
 | .Name x _=>VB C Γ x
 | .BinOp a op b _=>gb r C Γ a op b
 | .UnaryOp .USub a _=>gV r C Γ a
 | .UnaryOp .Not a _=>gU r C Γ a
 | .Compare a [op] [b] _=>(Nb r C Γ a op b).map dI
 | .Compare a [op,op'] [b,c] _=>(Nc r C Γ a op b op' c).map dI
 | .BoolOp op vs pos=>SG r C Γ op vs pos
 | .IfExp c a b _=>gY r C Γ c a b
 | .Call f es ks pos=>KF r C Γ f es ks pos
 | .Tuple es _ _=>gS r C Γ es
 | .List es _=>gX r C Γ es
 | .Dict [] [] _=>some ⟨1,Γ,[],UE⟩
 | .Subscript a (.Slice lo hi none _) _=>kB r C Γ a lo hi
 | .Subscript a (.Slice none none (some st) _) _=>cW r C Γ a st
 | .Subscript a b _=>if Ed b then jG r C Γ a b else none
 | .ListComp e gens sc _=>JK r C Γ e gens sc
 | _=>none
theorem SE {r:Rec} (R:OkR r) {C:Cf} {X:Cx} {Γ:Gm} {e:Expr} {c:CE} (ok:Cok C X) (h:Yg r C Γ e=some c):PE X e (tE X.K Γ c.o c.Γ c.js c.f):=by
 match e,h with
 | .Constant k j pos,h=>exact RI h
 | .Name x pos,h=>exact VA ok h
 | .BinOp a op b pos,h=>exact YB R ok h
 | .UnaryOp op a pos,h =>
  cases op with
  | USub=>exact Xt R ok h
  | Not =>
   obtain ⟨c1,e1,h⟩:=bind_some' (show (r.E C Γ a).bind _=some c from h);cases h;exact PE.imp (ah (Cv (R.E ok e1))) fun _ _ _ h=>Zm h
  | _=>cases h
 | .Compare a ops bs pos,h =>
  match ops,bs,h with
  | [op],[b],h =>
   cases q:Nb r C Γ a op b with
   | none=>replace h:(Nb r C Γ a op b).map dI=some c:=h;rw [q] at h;cases h
   | some t =>
    replace h:(Nb r C Γ a op b).map dI=some c:=h;rw [q] at h;cases h;exact (PH R ok q).2 1
  | [op,op'],[b,d],h =>
   cases q:Nc r C Γ a op b op' d with
   | none=>replace h:(Nc r C Γ a op b op' d).map dI=some c:=h;rw [q] at h;cases h
   | some t =>
    replace h:(Nc r C Γ a op b op' d).map dI=some c:=h;rw [q] at h;cases h;exact (PJ R ok q).2 1
  | [],_,h=>cases h
  | [_],[],h=>cases h
  | [_],_::_::_,h=>cases h
  | [_,_],[],h=>cases h
  | [_,_],[_],h=>cases h
  | [_,_],_::_::_::_,h=>cases h
  | _::_::_::_,_,h=>cases h
 | .BoolOp op vs pos,h=>exact Pi R ok h
 | .IfExp c a b pos,h=>exact Xw R ok h
 | .Call f es ks pos,h=>exact RL R ok h
 | .Tuple es k pos,h=>exact Xm R ok h
 | .List es pos,h=>exact Xv R ok h
 | .Dict ks vs pos,h =>
  cases ks with
  | nil =>
   cases vs with
   | nil=>cases h;exact eO
   | cons _ _=>cases h
  | cons _ _=>cases h
 | .Subscript a b pos,h =>
  have ix:Ed b=true->(if Ed b then jG r C Γ a b else none)=some c->PE X (.Subscript a b pos) (tE X.K Γ c.o c.Γ c.js c.f):=fun hb h=>by
   rw [if_pos hb] at h;exact cg R ok hb h
  match b,h with
  | .Slice lo hi st p2,h =>
   cases st with
   | none=>exact cU R ok h
   | some st =>
    cases lo with
    | none =>
     cases hi with
     | none=>exact Xp R ok h
     | some _=>cases h
    | some _=>cases h
  | .NamedExpr ..,h | .BinOp ..,h | .Lambda ..,h | .Dict ..,h | .Set ..,h | .ListComp ..,h | .SetComp ..,h | .DictComp ..,h | .GeneratorExp ..,h | .Await ..,h | .Yield ..,h | .YieldFrom ..,h | .Call ..,h | .FormattedValue ..,h | .JoinedStr ..,h | .Constant ..,h | .Attribute ..,h | .Subscript ..,h | .Starred ..,h | .Name ..,h | .List ..,h | .Tuple ..,h | .UnaryOp ..,h | .BoolOp ..,h | .IfExp ..,h | .Compare ..,h=>exact ix rfl h
 | .ListComp e gens sc pos,h=>exact Lx R ok h
 | .NamedExpr ..,h | .Lambda ..,h | .Set ..,h | .SetComp ..,h | .DictComp ..,h | .GeneratorExp ..,h | .Await ..,h | .Yield ..,h | .YieldFrom ..,h | .FormattedValue ..,h | .JoinedStr ..,h | .Attribute ..,h | .Starred ..,h | .Slice ..,h=>cases h
noncomputable def LD:Expr->Bool
 | .ListComp ..=>false
 | .SetComp ..=>false
 | .DictComp ..=>false
 | _=>true
theorem Ga {e:Expr} {t:Option Expr} {l:Nat} {env:Env} (h:LD e=true):swapsWith e t l env=pure false:=by
 cases e<;>first | rfl | (cases h)
theorem Rf {K:W.Frag} {Γ Γ' Γ2:Gm} {js:List Nat} {o:Nat} {f:Ev Dv} {σ:St} {H:Hp} {Q:VK} (hw:BS Γ2 Γ'=true) (h:tE K Γ o Γ2 js f σ H Q):tE K Γ o Γ' js f σ H Q:=by
 obtain ⟨g,m,P,r,R,k,res,e,q⟩:=h;refine ⟨g,m,P,r,R,k,res,e,fun b m' g' P' Pv v H' hk ag s rv r1 n=>?_⟩;obtain ⟨g2,P2,s2,r2⟩:=r1.weaken hw;have nn:Disj Pv P':=fun a q z=>n a z q
 refine q b m' g2 P2 Pv v H' hk ag (s.trans ((s2.frame (R:=Pv)).sub (fun _ z=>z) fun _ z=>z)) (rv.held s2 r1.fpOk nn) r2 fun a q z=>s2.out rv.fpOk nn a z q
def SO (Γ:Gm):CS:=⟨some Γ,[],HU,false,false,false⟩
def gT (r:Rec) (C:Cf) (Γ:Gm) (e:Expr):Option CS:=(match Ta C e with
 | some i=>(match Γ.getD i none with | some o=>some (CE.mk o (Γ.set i none) [] (On i)) | none=>none)
 | none=>r.E C Γ e).bind fun c=>if BS C.F.Γr c.Γ && (C.F.ro == 0 || c.o == C.F.ro) then some ⟨none,c.js,ZK c.f,true,false,false⟩ else none
theorem Xq {r:Rec} (R:OkR r) {C:Cf} {X:Cx} {Γl:Option Gm} {Γ:Gm} {e:Expr} {pos:Pos} {c:CS} (ok:Cok C X) (h:gT r C Γ e=some c):PS X (.Return (some e) pos) (tS X.K C.F Γl Γ c.Γ c.js c.f):=by
  obtain ⟨c1,e1,h⟩:=bind_some' h;split at h
  · rename_i hw;simp only [kX,nZ,beq_iff_eq] at hw;cases h;have he:PE X e (tE X.K Γ c1.o c1.Γ c1.js c1.f):=by
      split at e1
      · rename_i i hi;split at e1
        · rename_i o ho;cases e1;exact eM (Cb ok hi) (Az ho)
        · cases e1
      · exact R.E ok e1
    have he2:PE X e (tE X.K Γ C.F.ro c1.Γ c1.js c1.f):=by
      rcases hw.2 with z | z
      · rw [z];exact Cv he
      · rw [<- z];exact he
    exact eD (PE.imp he2 fun _ _ _ h=>Rf hw.1 h)
  · cases h
def ck (r:Rec) (C:Cf) (Γ:Gm) (e:Expr):Option CS:=if LD e then (r.E C Γ e).bind fun c=>some ⟨some c.Γ,c.js,UL c.f,false,false,false⟩ else none
theorem PF {r:Rec} (R:OkR r) {C:Cf} {X:Cx} {Γl:Option Gm} {Γ:Gm} {e:Expr} {pos:Pos} {c:CS} (ok:Cok C X) (h:ck r C Γ e=some c):PS X (.Expr e pos) (tS X.K C.F Γl Γ c.Γ c.js c.f):=by
 unfold ck at h;split at h
 ·rename_i hn;obtain ⟨c1,e1,h⟩:=bind_some' h;cases h;exact aC (R.E ok e1) (Ga hn)
 ·cases h
def PD (C:Cf) (x:Str) (c:CE):Option CS:=(KL C x).bind fun i=>if decide (i < c.Γ.length) && !C.F.io.contains i then some ⟨some (c.Γ.set i (some c.o)),c.js++[i],JD c.f (dW i),false,false,false⟩ else none
theorem Lw {C:Cf} {X:Cx} {Γl:Option Gm} {Γ:Gm} {x:Str} {e:Expr} {pos pos':Pos} {c1:CE} {c:CS} (ok:Cok C X) (he:PE X e (tE X.K Γ c1.o c1.Γ c1.js c1.f)) (hs:swapsWith e (some (.Name x pos')) pos.line X.env=pure false) (h:PD C x c1=some c):PS X (.Assign [.Name x pos'] e pos) (tS X.K C.F Γl Γ c.Γ c.js c.f):=by
 obtain ⟨i,e1,h⟩:=bind_some' h;split at h
 ·rename_i hw;simp only [kX,decide_eq_true_eq,mJ] at hw;cases h;obtain ⟨h1,h2,h3⟩:=GU ok e1;exact eC ok.nd h1 h2 (fun z=>by rw [ki.mpr z] at hw;cases hw.2) hw.1 he hs h3
 ·cases h
def iR (sc:Scope) (x:Str) (pl:Nat) (scope:Scope) (vl:Nat):Bool:=(if sc.kind.isAnnotationScope then ScopeKind.function else sc.kind) == .function && sc.names.lookup x == some .local && pl == vl && !(scope.names.any fun (n,k)=>n == x && (k == .local || k == .cell))
theorem Rw {X:Cx} {C:Cf} (ok:Cok C X) {x:Str} {pos':Pos} {elt:Expr} {gens:List Comprehension} {scope:Scope} {pos:Pos} {l:Nat}:swapsWith (.ListComp elt gens scope pos) (some (.Name x pos')) l X.env=pure (iR C.sc x pos'.line scope pos.line):=by
 unfold iR;rw [<- ok.sc];rfl
theorem RJ {r:Rec} (R:OkR r) {C:Cf} {X:Cx} {Γ:Gm} {elt:Expr} {gens:List Comprehension} {scope:Scope} {pos:Pos} {c:CE} (ok:Cok C X) (h:JK r C Γ elt gens scope=some c) :
    ∃ t:TE,(∀ σ H Q,tE X.K Γ c.o c.Γ c.js c.f σ H Q->t σ H Q)/\∀ {i x pos' spos},X.N[i]?=some x->Loc X.env.scope x->(X.fn x=true\/X.env.scope.names.lookup x=some .local)->swapsWith (.ListComp elt gens scope pos) (some (.Name x pos')) spos.line X.env=pure true->PS X (.Assign [.Name x pos'] (.ListComp elt gens scope pos) spos) (Kb t (DZ i)):=by
  unfold JK at h;split at h
  · rename_i tg iter ifs;obtain ⟨s,e1,h⟩:=bind_some' h;simp only at h;split at h
    · rename_i hin;obtain ⟨t,e2,h⟩:=bind_some' h;obtain ⟨p,e3,h⟩:=bind_some' h;split at h
      · rename_i hw;rw [kX] at hw;cases h;obtain ⟨f1,f2,f3⟩:=Jx e3;unfold KZ at f1;split at f1
        · rename_i hj;obtain ⟨ct,f1a,f1⟩:=bind_some' f1;obtain ⟨ce,f1b,f1⟩:=bind_some' f1;have ep:p.2=⟨t,ct,ce⟩:=(Option.some.inj f1).symm;have hs:∀ x,foldedSetIterable iter X.env x=pure x:=fun x=>by cases iter<;>first | rfl | (cases e1)
          have hI:r.I C Γ (Js tg) iter=some s:=by cases iter<;>first | exact e1 | (cases e1)
          have hi:=R.I tg ok hI;have okI:=fun cl a s H fp=>ok.inner scope cl a s H fp
          have hg:∀ cl a s H fp,PG (X.inner scope cl a s H fp) tg (t.g X.K):=fun cl a s H fp=>(Fy (okI cl a s H fp) e2).1
          have hsx:∀ i∈t.J,i∈Mp C.N scope:=fun i hi=>ki.mp ((lO.mp hw.2) i hi)
          have hgo:Rb (Mp C.N scope) (t.g X.K):=(Fy (okI [] 0 X.s₀ X.H₀ []) e2).2.1 _ hsx;have ht:Nl X.K p.1 (t.Γ p.1) t.J (t.g X.K) t.f:=(Fy (okI [] 0 X.s₀ X.H₀ []) e2).2.2 hj;have he:∀ cl a s H fp,PE (X.inner scope cl a s H fp) elt (tE X.K ct.Γ 0 ce.Γ ce.js ce.f):=fun cl a s H fp=>Cv (R.E (okI cl a s H fp) f1b)
          have hin':innerOk X.N X.env.scope scope (Mp C.N scope)=true:=by rw [ok.N,ok.sc];exact hin
          rw [ep] at f2 f3 ⊢;simp only at f2 f3 ⊢;cases ifs with
          | nil =>
            cases f1a;have hc:∀ cl a s H fp,Vl (X.inner scope cl a s H fp) [] (tT X.K (t.Γ p.1) (t.Γ p.1) [] Da):=fun cl a s H fp=>TN
            refine ⟨_,?_,fun {i x pos' spos} hix hx hf hsw=>Kv ok.nd hix hx hin' ok.calm hi hg hgo hc he hsw hs hf⟩;intro σ H Q h;cases hJ:Ax p.1 (t.J++([]++ce.js)) with
            | nil=>rw [hJ] at h;exact LJ ht hw.1 f3 f2 hsx hJ.symm h
            | cons j J=>rw [hJ] at h;exact JI ht hw.1 f3 f2 hsx hJ.symm h
          | cons i1 ifs =>
            cases ifs with
            | nil =>
              have hc:∀ cl a s H fp,Vl (X.inner scope cl a s H fp) [i1] (tT X.K (t.Γ p.1) ct.Γ ct.js ct.f):=fun cl a s H fp=>.one (R.T (okI cl a s H fp) f1a)
              refine ⟨_,?_,fun {i x pos' spos} hix hx hf hsw=>Kv ok.nd hix hx hin' ok.calm hi hg hgo hc he hsw hs hf⟩;intro σ H Q h;cases hJ:Ax p.1 (t.J++(ct.js++ce.js)) with
              | nil=>rw [hJ] at h;exact LL ht hw.1 f3 f2 hsx hJ.symm h
              | cons j J=>rw [hJ] at h;exact JH ht hw.1 f3 f2 hsx hJ.symm h
            | cons _ _=>cases f1a
        · cases f1
      · cases h
    · cases h
  · cases h
def ZU (r:Rec) (C:Cf) (Γ:Gm) (x:Str) (elt:Expr) (gens:List Comprehension) (scope:Scope):Option CS:=(JK r C Γ elt gens scope).bind fun c=>PD C x c
theorem VH {r:Rec} (R:OkR r) {C:Cf} {X:Cx} {Γl:Option Gm} {Γ:Gm} {x:Str} {elt:Expr} {gens:List Comprehension} {scope:Scope} {pos' cpos pos:Pos} {c:CS} (ok:Cok C X) (h:ZU r C Γ x elt gens scope=some c):PS X (.Assign [.Name x pos'] (.ListComp elt gens scope cpos) pos) (tS X.K C.F Γl Γ c.Γ c.js c.f):=by
 obtain ⟨c1,e1,h⟩:=bind_some' h;cases hb:iR C.sc x pos'.line scope cpos.line with
 | false=>exact Lw ok (Lx R ok e1) (by rw [Rw ok,hb]) h
 | true =>
  obtain ⟨i,e2,h⟩:=bind_some' h;split at h
  ·rename_i hw;simp only [kX,decide_eq_true_eq,mJ] at hw;cases h;obtain ⟨h1,h2,h3⟩:=GU ok e2;obtain ⟨t,q1,q2⟩:=RJ R (pos:=cpos) ok e1;refine PS.imp (q2 h1 h2 h3 (by rw [Rw ok,hb])) fun D σ H h=>q1 _ _ _ (OG hw.1 (fun z=>by rw [ki.mpr z] at hw;cases hw.2) h)
  ·cases h
noncomputable def fW:Expr->Bool
 | .Tuple ..=>false
 | _=>true
theorem Pg {tg e:Expr} {env:Env} (h:fW e=true):swappedStores [tg] e env=pure none:=by
 cases e<;>first | (cases h;done) | (cases tg<;>rfl)
theorem Ja {tg e:Expr} {l:Nat} {env:Env} (h:LD e=true):swapsWithSole [tg] e l env=pure false:=Ga h
def VG (r:Rec) (C:Cf) (Γ:Gm) (es:List Expr) (k:Nat) (p:Pos) (e:Expr):Option CS:=if fW e && LD e then (r.E C Γ e).bind fun c=>(cG C (.Tuple es k p)).bind fun t=>if t.J.all (fun i=>decide (i < c.Γ.length) && !C.F.io.contains i) then some ⟨some (t.Γ c.Γ),c.js++t.J,JD c.f t.f,false,false,false⟩ else none else none
theorem VF {r:Rec} (R:OkR r) {C:Cf} {X:Cx} {Γl:Option Gm} {Γ:Gm} {es:List Expr} {k:Nat} {p pos:Pos} {e:Expr} {c:CS} (ok:Cok C X) (h:VG r C Γ es k p e=some c):PS X (.Assign [.Tuple es k p] e pos) (tS X.K C.F Γl Γ c.Γ c.js c.f):=by
 unfold VG at h;split at h
 ·rename_i hn;rw [kX] at hn;obtain ⟨c1,e1,h⟩:=bind_some' h;obtain ⟨t,e2,h⟩:=bind_some' h;split at h
  ·rename_i hw;cases h;obtain ⟨g1,_,g3⟩:=Fy ok e2;rw [lO] at hw;refine eJ (Cv (R.E ok e1)) g1 (g3 (by rw [lO];exact fun i hi=>(mM.mp (hw i hi)).1)) (fun i hi z=>?_) (Ja hn.2) (Pg hn.1) rfl;have:=(mM.mp (hw i z)).2;rw [ki.mpr hi] at this;cases this
  ·cases h
 ·cases h
def gF (i j:Nat) (fa:Ev (List Dv)):Es:=fun R m k=>fa R m fun ds m1=>match ds with | [a,b]=>k.nx ((m1.set i a).set j b) | _=>none
def au (sc:Scope) (x y:Str) (px py:Pos) (a b:Expr):Bool:=(match sc.kind with | .function=>true | _=>false) && (match sc.names.lookup x with | some .local=>true | _=>false) && (match sc.names.lookup y with | some .local=>true | _=>false) && !(x == y) && (py.line == px.line) && Ao a && Ao b && !(foldedForSure 8 a && foldedForSure 8 b) && !(constantsAlone 8 a && constantsAlone 8 b)
theorem aq {env:Env} {x y:Str} {px py pt pt2:Pos} {kt k2:Nat} {a b:Expr} (h:au env.scope x y px py a b=true):swappedStores [.Tuple [.Name x px,.Name y py] kt pt] (.Tuple [a,b] k2 pt2) env=pure (some [x,y])/\env.scope.names.lookup x=some .local/\env.scope.names.lookup y=some .local:=by
 unfold au at h;simp only [kX,mJ] at h;obtain ⟨⟨⟨⟨⟨⟨⟨⟨h1,h2⟩,h3⟩,h4⟩,h5⟩,h6⟩,h7⟩,h8⟩,h9⟩:=h;have k1:env.scope.kind=.function:=by split at h1;(assumption);(cases h1)
 have k2:env.scope.names.lookup x=some .local:=by split at h2;(assumption);(cases h2)
 have k3:env.scope.names.lookup y=some .local:=by split at h3;(assumption);(cases h3)
 refine ⟨?_,k2,k3⟩;have kx:env.kindOf x=some .local:=k2;have ky:env.kindOf y=some .local:=k3;have yx:(y == x)=false:=by
  cases q:y == x with
  | false=>rfl
  | true=>rw [beq_iff_eq.mp q,beq_self_eq_true] at h4;cases h4
 unfold swappedStores;simp [Env.blockKind,k1,ScopeKind.isAnnotationScope,kx,ky,beq_iff_eq.mp h5,h8,h9,List.eraseDups_cons,yx,h4,Expr.pos];rintro (z | z)
 ·cases a<;>first | (cases z;done) | (cases h6;done)
 ·cases b<;>first | (cases z;done) | (cases h7;done)
def cX (r:Rec) (C:Cf) (Γ:Gm) (x y:Str) (px py:Pos) (a b:Expr):Option CS:=if au C.sc x y px py a b then (r.A C Γ [] [a,b]).bind fun c=>(Co C.N x).bind fun i=>(Co C.N y).bind fun j=>if decide (i < c.Γ.length) && decide (j < c.Γ.length) && !(i == j) && !C.F.io.contains i && !C.F.io.contains j then some ⟨some ((c.Γ.set i (some 0)).set j (some 0)),c.js++([i]++[j]),gF i j (AJ c.as),false,false,false⟩ else none else none
theorem Xr {r:Rec} (R:OkR r) {C:Cf} {X:Cx} {Γl:Option Gm} {Γ:Gm} {x y:Str} {px py pt pt2 pos:Pos} {kt k2:Nat} {a b:Expr} {c:CS} (ok:Cok C X) (h:cX r C Γ x y px py a b=some c):PS X (.Assign [.Tuple [.Name x px,.Name y py] kt pt] (.Tuple [a,b] k2 pt2) pos) (tS X.K C.F Γl Γ c.Γ c.js c.f):=by
 unfold cX at h;split at h
 ·rename_i hp;obtain ⟨c1,e1,h⟩:=bind_some' h;obtain ⟨i,e2,h⟩:=bind_some' h;obtain ⟨j,e3,h⟩:=bind_some' h;split at h
  ·rename_i hw;simp only [kX,decide_eq_true_eq,mJ,beq_eq_false_iff_ne] at hw;obtain ⟨⟨⟨⟨w1,w2⟩,w3⟩,w4⟩,w5⟩:=hw;cases h;obtain ⟨a1,a2,a3,a4,a5⟩:=R.A ok e1;rw [<- ok.sc] at hp;obtain ⟨p1,p2,p3⟩:=aq (pt:=pt) (pt2:=pt2) (kt:=kt) (k2:=k2) hp;refine PS.imp (aN ok.calm ok.nd (by rw [ok.N];exact BY e2) (by rw [ok.N];exact BY e3) w3 p2 p3 a1 p1 rfl) fun D σ H h=>?_
   obtain ⟨g,m,P,r',R',k,res,e,q⟩:=h;refine AH c1.as r' a2 e fun ds m1 g1 P1 vs H1 hk ag s ar r1=>?_
   have rp:=ar.reps (a5 rfl)
   match ds,hk,rp with
   | [d1,d2],hk,rp =>
    obtain ⟨v1,us,rfl,h1,rp⟩:=Au rp;obtain ⟨v2,us2,rfl,h2,rp⟩:=Au rp;cases BE rp;obtain ⟨P2,r2,s2⟩:=r1.setNew w1 h1 fun _ z=>z.elim
    obtain ⟨P3,r3,s3⟩:=r2.setNew (by rw [lM];exact w2) h2 fun _ z=>z.elim
    refine ⟨v1,v2,rfl,q.nx _ _ g1 P3 _ H1 rfl hk (ag.trans (BW.set.trans BW.set)) (s.less fun a z=>(s3 a z).elim (fun z=>(s2 a z).elim id False.elim) False.elim) ((Io.set ?_).trans (Io.set ?_)) r3⟩
    ·exact fun z=>by rw [ki.mpr z] at w4;cases w4
    ·exact fun z=>by rw [ki.mpr z] at w5;cases w5
   | [],hk,_=>cases hk
   | [_],hk,_=>cases hk
   | _::_::_::_,hk,_=>cases hk
  ·cases h
 ·cases h
def Us (r:Rec) (C:Cf) (Γ:Gm) (x k e:Expr):Option CS:=if LD e && Ed k then (Ta C x).bind fun i=>(r.E C Γ e).bind fun c=>(MF r C c.Γ k).bind fun a=>if (c.Γ.getD i none).isSome && a.Γ.getD i none == some 1 then some ⟨some a.Γ,c.js++((a.js++[])++[i]),ZJ i C.T.st c.f (AJ [a.a]),false,false,false⟩ else none else none
theorem FA {X:Cx} {x k:Expr} {tpos:Pos} (hk:Ed k=true):∀ v,assign (.Subscript x k tpos) X.env v=(do
      let ov <- holding [v] (eval x X.env)
      let iv <- holding [v,ov] (eval k X.env)
      standAt tpos
      holding [v,ov,iv] (setItem ov iv v)
      release [v,ov,iv] []):=fun v=>by
  cases k<;>first | rfl | (cases hk)
theorem Ur {r:Rec} (R:OkR r) {C:Cf} {X:Cx} {Γl:Option Gm} {Γ:Gm} {x k e:Expr} {tpos pos:Pos} {c:CS} (ok:Cok C X) (h:Us r C Γ x k e=some c):PS X (.Assign [.Subscript x k tpos] e pos) (tS X.K C.F Γl Γ c.Γ c.js c.f):=by
 unfold Us at h;split at h
 ·rename_i hn;rw [kX] at hn;obtain ⟨i,e0,h⟩:=bind_some' h;obtain ⟨c1,e1,h⟩:=bind_some' h;obtain ⟨a,e2,h⟩:=bind_some' h;split at h
  ·rename_i hw;rw [kX] at hw;cases h;obtain ⟨a1,a2⟩:=Dy R ok e2;obtain ⟨T,t1,t2⟩:=C.T.stok X ok.gx;refine PS.imp (Mj (Cv (R.E ok e1)) (Ml (Cb ok e0) a1 t1 (FA hn.2)) (Ja hn.1) ?_ rfl) fun D σ H h=>SQ t2 a2 (getD_some hw.1) (Az (beq_iff_eq.mp hw.2)) h
   cases e<;>rfl
  ·cases h
 ·cases h
def ZA:Option Gm->Option Gm->Option Gm
 | some a,some b=>some (BX a b)
 | none,b=>b
 | a,none=>a
def kF (r:Rec) (C:Cf) (Γl:Option Gm) (Γ:Gm) (c:Expr) (a b:List Stmt):Option CS:=(r.T C Γ c).bind fun t=>(r.Ss C Γl t.Γ a).bind fun x=>(r.Ss C Γl t.Γ b).bind fun y=>let Γn:=ZA x.Γ y.Γ;let js:=t.js++(x.js++y.js);if Jm Γn x.Γ && Jm Γn y.Γ then some ⟨Γn,js,match x.Γ,y.Γ,Γn with
      | some _,some _,some Γ'=>if x.er || x.eb || x.ec || y.er || y.eb || y.ec then LY t.f x.f y.f else gG (Ax Γ' js) (LY t.f x.f y.f)
      | _,_,_=>LY t.f x.f y.f,x.er || y.er,x.eb || y.eb,x.ec || y.ec⟩ else none
theorem cj {r:Rec} (R:OkR r) {C:Cf} {X:Cx} {Γl:Option Gm} {Γ:Gm} {t:Expr} {a b:List Stmt} {pos:Pos} {c:CS} (ok:Cok C X) (h:kF r C Γl Γ t a b=some c):PS X (.If t a b pos) (tS X.K C.F Γl Γ c.Γ c.js c.f):=by
 obtain ⟨ct,e1,h⟩:=bind_some' h;obtain ⟨x,e2,h⟩:=bind_some' h;obtain ⟨y,e3,h⟩:=bind_some' h;simp only at h;split at h
 ·rename_i hw;rw [kX] at hw;have base:PS X (.If t a b pos) (tS X.K C.F Γl Γ (ZA x.Γ y.Γ) (ct.js++(x.js++y.js)) (LY ct.f x.f y.f)):=iT (R.T ok e1) (SW (R.Ss ok e2) hw.1) (SW (R.Ss ok e3) hw.2);cases h;split
  ·rename_i Γ' _ _ hj;split
   ·exact base
   ·simp only [hj] at base ⊢;exact PS.imp base fun D σ H h=>bT (fun i o z=>BL z) (fun i z=>Aw z) h
  ·exact base
 ·cases h
noncomputable def VT (f:Int->Int->Int) (x y:Dv):Option Dv:=match x,y with | .int i,.int j=>some (.int (f i j)) | _,_=>none
theorem RP {f:Int->Int->Int} {x y z:Dv} (h:VT f x y=some z):∃ i j,x=.int i/\y=.int j/\z=.int (f i j):=by
 unfold VT at h;split at h
 ·cases h;exact ⟨_,_,rfl,rfl,rfl⟩
 ·cases h
def gn:=VT fun i j=>i+j
def dD:=VT fun i j=>i - j
def UM (i:Nat) (p:Dv->Dv->Option Dv) (f:Ev Dv):Es:=fun R m k=>f R m fun d m1=>(p (m.at i) d).bind fun y=>k.nx (m1.set i y)
theorem PP {K:W.Frag} {F:Fr} {Γl:Option Gm} {Γ Γ2:Gm} {js:List Nat} {fe:Ev Dv} {i o:Nat} {f:Int->Int->Int} (h0:Γ[i]?=some (some o)) (hi:i < Γ2.length) (hio:i∉F.io) {D:Ends} {σ:St} {H:Hp} (h:tS K F Γl Γ (some (Γ2.set i (some 0))) (js++[i]) (UM i (VT f) fe) D σ H):dq i (tE K Γ 0 Γ2 js fe) (ic f) D σ H:=by
 obtain ⟨g0,m,P,r,R,k,res,e,q⟩:=h;obtain ⟨v0,P0,ev0,rv0,_⟩:=r.see h0;refine ⟨v0,ev0,g0,m,P,r,R,_,res,e,fun d m1 g' P' Pv v H' hk ag s rv r1 n=>?_⟩;obtain ⟨y,e1,e2⟩:=bind_some' hk;obtain ⟨a,b,ea,rfl,rfl⟩:=RP e1;rw [ea] at rv0;refine ⟨a,b,rep_int rv0,rep_int rv,?_⟩;obtain ⟨P2,r2,s2⟩:=r1.setNew (o:=0) (v:=.int (f a b)) (d:=.int (f a b)) (Pv:=nop) hi BO fun _ z=>z.elim
 exact q.nx _ _ g' P2 _ H' rfl e2 (ag.trans BW.set) (s.less fun a z=>(s2 a z).elim .inl False.elim) (Io.set hio) r2
def gc (r:Rec) (C:Cf) (Γ:Gm) (x:Str) (op:Operator) (e:Expr):Option CS:=(KL C x).bind fun i=>if (Γ.getD i none).isSome then (r.E C Γ e).bind fun c=>if decide (i < c.Γ.length) && !C.F.io.contains i then (match op with
    | .Add=>some ⟨some (c.Γ.set i (some 0)),c.js++[i],UM i gn c.f,false,false,false⟩
    | .Sub=>some ⟨some (c.Γ.set i (some 0)),c.js++[i],UM i dD c.f,false,false,false⟩
    | _=>none) else none else none
theorem YC {r:Rec} (R:OkR r) {C:Cf} {X:Cx} {Γl:Option Gm} {Γ:Gm} {x:Str} {op:Operator} {e:Expr} {pos pos':Pos} {c:CS} (ok:Cok C X) (h:gc r C Γ x op e=some c):PS X (.AugAssign (.Name x pos') op e pos) (tS X.K C.F Γl Γ c.Γ c.js c.f):=by
 obtain ⟨i,e1,h⟩:=bind_some' h;split at h
 ·rename_i hs;obtain ⟨c1,e2,h⟩:=bind_some' h;split at h
  ·rename_i hw;simp only [kX,decide_eq_true_eq,mJ] at hw;obtain ⟨o,ho⟩:=getD_some hs;obtain ⟨h1,h2,h3⟩:=GU ok e1;have hio:i∉C.F.io:=fun z=>by rw [ki.mpr z] at hw;cases hw.2
   split at h
   ·cases h;exact PS.imp (So ok.nd h1 h2 (Cv (R.E ok e2)) bZ h3) fun _ _ _ h=>PP ho hw.1 hio h
   ·cases h;exact PS.imp (So ok.nd h1 h2 (Cv (R.E ok e2)) bY h3) fun _ _ _ h=>PP ho hw.1 hio h
   ·cases h
  ·cases h
 ·cases h
def Tw (r:Rec) (C:Cf) (pre:Gm->Gm) (body:List Stmt):Nat->Gm->Option (Gm×CS)
 | 0,_=>none
 | n+1,Γ=>match r.Ss C (some Γ) (pre Γ) body with
  | some x=>if Jm (some Γ) x.Γ then some (Γ,x) else Tw r C pre body n (match x.Γ with | some Γ'=>BX Γ Γ' | none=>Γ)
  | none=>Tw r C pre body n (Γ.map fun o=>o.map fun _=>0)
theorem Jw {r:Rec} {C:Cf} {pre:Gm->Gm} {body:List Stmt}:∀ {n:Nat} {Γ:Gm} {p:Gm×CS},Tw r C pre body n Γ=some p->r.Ss C (some p.1) (pre p.1) body=some p.2/\Jm (some p.1) p.2.Γ=true
 | 0,_,_,h=>by cases h
 | n+1,Γ,p,h=>by
  unfold Tw at h;split at h
  ·rename_i x hx;split at h
   ·rename_i hw;cases h;exact ⟨hx,hw⟩
   ·exact Jw h
  ·exact Jw h
def gZ (r:Rec) (C:Cf) (Γ:Gm) (tg iter:Expr) (body:List Stmt):Option CS:=(match iter with | .Set _ _ _=>none | _=>r.I C Γ (Js tg) iter).bind fun s=>(cG C tg).bind fun t=>if t.J.all (fun i=>decide (i < s.Γ.length) && !C.F.io.contains i) then (Tw r C t.Γ body 4 s.Γ).bind fun p=>if BS p.1 s.Γ then
    let jb:=t.J++p.2.js
    some ⟨some p.1,s.js++jb,if p.2.er || p.2.eb then UJ s.f t.f (Ax p.1 jb) (Ax C.F.Γr jb) p.2.f else UK s.f t.f (Ax p.1 jb) p.2.f,p.2.er,false,false⟩ else none else none
theorem Xx {r:Rec} (R:OkR r) {C:Cf} {X:Cx} {Γl:Option Gm} {Γ:Gm} {tg iter:Expr} {body:List Stmt} {pos:Pos} {c:CS} (ok:Cok C X) (h:gZ r C Γ tg iter body=some c):PS X (.For tg iter body [] pos) (tS X.K C.F Γl Γ c.Γ c.js c.f):=by
 obtain ⟨s,e1,h⟩:=bind_some' h;obtain ⟨t,e2,h⟩:=bind_some' h;split at h
 ·rename_i hj;obtain ⟨p,e3,h⟩:=bind_some' h;split at h
  ·rename_i hw;have hs:∀ x,foldedSetIterable iter X.env x=pure x:=fun x=>by cases iter<;>first | rfl | (cases e1)
   have hI:r.I C Γ (Js tg) iter=some s:=by cases iter<;>first | exact e1 | (cases e1)
   obtain ⟨f1,f2⟩:=Jw e3;obtain ⟨g1,_,g3⟩:=Fy ok e2;rw [lO] at hj;have hJ:t.J.all (fun i=>decide (i < p.1.length))=true:=by
    rw [lO];intro i hi;rw [Dw hw];exact (mM.mp (hj i hi)).1
   have hio:∀ i∈C.F.io,i∉t.J:=fun i hi z=>by
    have:=(mM.mp (hj i z)).2;rw [ki.mpr hi] at this;cases this
   have hi:PI X tg iter (tI X.K Γ p.1 s.js s.f):=PI.imp (R.I tg ok hI) fun _ _ _ h=>Vo hw h
   have hp:PassesOwn (model X.prog X.w) X.A X.env X.xe:=by rw [ok.xe];exact PassesOwn.never
   have hb:=R.Ss ok f1;simp only at h;cases h;split
   ·exact aA hp ok.calm hi g1 (g3 hJ) hio hb f2 rfl rfl hs
   ·exact aB hp ok.calm hi g1 (g3 hJ) hio hb f2 rfl hs
  ·cases h
 ·cases h
noncomputable def hG:Nat:=1000000
def iB (r:Rec) (C:Cf) (Γ:Gm) (c:Expr) (body:List Stmt):Option CS:=(fixW r C c body 4 Γ).bind fun p=>if BS p.1 Γ then some ⟨some p.1,p.2.2.js,if p.2.2.er || p.2.2.eb then ZF hG p.2.1.f (Ax p.1 p.2.2.js) (Ax C.F.Γr p.2.2.js) p.2.2.f else ZG hG p.2.1.f (Ax p.1 p.2.2.js) p.2.2.f,p.2.2.er,false,false⟩ else none
where
 fixW (r:Rec) (C:Cf) (c:Expr) (body:List Stmt):Nat->Gm->Option (Gm×CT×CS)
 | 0,_=>none
 | n+1,Γ=>(r.T C Γ c).bind fun t=>if t.js.isEmpty && BS Γ t.Γ then (match r.Ss C (some Γ) Γ body with
  | some x=>if Jm (some Γ) x.Γ then some (Γ,t,x) else fixW r C c body n (match x.Γ with | some Γ'=>BX Γ Γ' | none=>Γ)
  | none=>fixW r C c body n (Γ.map fun o=>o.map fun _=>0)) else fixW r C c body n (BX Γ t.Γ)
theorem GT {r:Rec} {C:Cf} {c:Expr} {body:List Stmt}:∀ {n:Nat} {Γ:Gm} {p:Gm×CT×CS},iB.fixW r C c body n Γ=some p->r.T C p.1 c=some p.2.1/\p.2.1.js=[]/\BS p.1 p.2.1.Γ=true/\r.Ss C (some p.1) p.1 body=some p.2.2/\Jm (some p.1) p.2.2.Γ=true
 | 0,_,_,h=>by cases h
 | n+1,Γ,p,h=>by
  unfold iB.fixW at h;obtain ⟨t,e1,h⟩:=bind_some' h;split at h
  ·rename_i hw;rw [kX] at hw;split at h
   ·rename_i x hx;split at h
    ·rename_i hl;cases h;exact ⟨e1,List.isEmpty_iff.mp hw.1,hw.2,hx,hl⟩
    ·exact GT h
   ·exact GT h
  ·exact GT h
theorem eE {X:Cx} {F:Fr} {Γl Γn:Option Gm} {Γ Γ':Gm} {js:List Nat} {s:Stmt} {f:Es} (hw:BS Γ' Γ=true) (h:PS X s (tS X.K F Γl Γ' Γn js f)):PS X s (tS X.K F Γl Γ Γn js f):=PS.imp h fun D σ H h=>by
 obtain ⟨g,m,P,r,R,k,res,e,q⟩:=h;obtain ⟨g2,P2,s2,r2⟩:=r.weaken hw;exact ⟨g2,m,P2,r2,R,k,res,e,⟨fun Γ' m' g' P' σ' H' e hk a s'=>q.nx Γ' m' g' P' σ' H' e hk a (s2.trans s'),fun d m' g' P' Pv σ' v H' hk a s'=>q.rt d m' g' P' Pv σ' v H' hk a (s2.trans s'),fun Γ' m' g' P' σ' H' e hk a s'=>q.bk Γ' m' g' P' σ' H' e hk a (s2.trans s'),fun Γ' m' g' P' σ' H' e hk a s'=>q.ct Γ' m' g' P' σ' H' e hk a (s2.trans s')⟩⟩
theorem cP {r:Rec} (R:OkR r) {C:Cf} {X:Cx} {Γl:Option Gm} {Γ:Gm} {t:Expr} {body:List Stmt} {pos:Pos} {c:CS} (ok:Cok C X) (h:iB r C Γ t body=some c):PS X (.While t body [] pos) (tS X.K C.F Γl Γ c.Γ c.js c.f):=by
 obtain ⟨p,e1,h⟩:=bind_some' h;split at h
 ·rename_i hw;cases h;obtain ⟨f1,f2,f3,f4,f5⟩:=GT e1;have hp:PassesOwn (model X.prog X.w) X.A X.env X.xe:=by rw [ok.xe];exact PassesOwn.never
  have ht:=R.T ok f1;rw [f2] at ht;refine eE hw ?_;split
  ·exact dv hG hp ht (R.Ss ok f4) f3 f5 rfl rfl
  ·exact dz hG hp ht (R.Ss ok f4) f3 f5 rfl
 ·cases h
def gJ:Es:=fun _ m k=>k.bk m
def gH:Es:=fun _ m k=>k.ct m
def cH:Es:=fun _ _ _=>none
def cu (Γl:Option Gm) (Γ:Gm):Option CS:=match Γl with
 | some Γ'=>if BS Γ' Γ then some ⟨none,[],gJ,false,true,false⟩ else none
 | none=>none
def cm (Γl:Option Gm) (Γ:Gm):Option CS:=match Γl with
 | some Γ'=>if BS Γ' Γ then some ⟨none,[],gH,false,false,true⟩ else none
 | none=>none
theorem YA {C:Cf} {X:Cx} {Γl:Option Gm} {Γ:Gm} {pos:Pos} {c:CS} (h:cu Γl Γ=some c):PS X (.Break pos) (tS X.K C.F Γl Γ c.Γ c.js c.f):=by
  unfold cu at h;split at h
  · rename_i Γ';split at h
    · rename_i hw;cases h;exact PS.imp Sn fun D σ H h=>by
        obtain ⟨g,m,P,r,R,k,res,e,q⟩:=h;obtain ⟨g2,P2,s2,r2⟩:=r.weaken hw;exact q.bk Γ' m g2 P2 σ H rfl e BW.refl s2 Io.refl r2
    · cases h
  · cases h
theorem Xy {C:Cf} {X:Cx} {Γl:Option Gm} {Γ:Gm} {pos:Pos} {c:CS} (h:cm Γl Γ=some c):PS X (.Continue pos) (tS X.K C.F Γl Γ c.Γ c.js c.f):=by
  unfold cm at h;split at h
  · rename_i Γ';split at h
    · rename_i hw;cases h;exact PS.imp Kw fun D σ H h=>by
        obtain ⟨g,m,P,r,R,k,res,e,q⟩:=h;obtain ⟨g2,P2,s2,r2⟩:=r.weaken hw;exact q.ct Γ' m g2 P2 σ H rfl e BW.refl s2 Io.refl r2
    · cases h
  · cases h
noncomputable def Ys (es:List Expr) (e:Expr):Option (Str×Pos×Str×Pos×Expr×Expr):=match es with
 | [.Name x px,.Name y py]=>match e with
  | .Tuple [a,b] _ _=>some (x,px,y,py,a,b)
  | _=>none
 | _=>none
noncomputable def Rv (es:List Expr):Option (Expr×Expr×Expr×Expr):=match es with
 | [.Subscript x k _,.Subscript y j _]=>some (x,k,y,j)
 | _=>none
theorem MX {es:List Expr} {t:Expr×Expr×Expr×Expr} (h:Rv es=some t):∃ p q,es=[.Subscript t.1 t.2.1 p,.Subscript t.2.2.1 t.2.2.2 q]:=by
 unfold Rv at h;split at h
 ·cases h;exact ⟨_,_,rfl⟩
 ·cases h
def cS (r:Rec) (C:Cf) (Γ:Gm) (x k y j e:Expr):Option CS:=if LD e && Ed k && Ed j then (Ta C x).bind fun i=>(Ta C y).bind fun i2=>if i == i2 then (r.E C Γ e).bind fun c=>(MF r C c.Γ k).bind fun a=>(MF r C a.Γ j).bind fun b=>if (c.Γ.getD i none).isSome && a.Γ.getD i none == some 1 && b.Γ.getD i none == some 1 then some ⟨some b.Γ,c.js++(((a.js++[])++[i])++((b.js++[])++[i])),ZH i C.T.st c.f (AJ [a.a]) (AJ [b.a]),false,false,false⟩ else none else none else none
theorem MW {x k y j e:Expr} {p q pt:Pos} {kt:Nat} {env:Env}:swappedStores [.Tuple [.Subscript x k p,.Subscript y j q] kt pt] e env=pure none:=by
 cases e with
 | Tuple vs k2 p2 =>
  unfold swappedStores;simp only [];split
  ·rfl
  ·split
   ·rfl
   ·rfl
 | _=>rfl
theorem Xo {r:Rec} (R:OkR r) {C:Cf} {X:Cx} {Γl:Option Gm} {Γ:Gm} {x k y j e:Expr} {p q pt pos:Pos} {kt:Nat} {c:CS} (ok:Cok C X) (h:cS r C Γ x k y j e=some c):PS X (.Assign [.Tuple [.Subscript x k p,.Subscript y j q] kt pt] e pos) (tS X.K C.F Γl Γ c.Γ c.js c.f):=by
 unfold cS at h;split at h
 ·rename_i hn;simp only [kX] at hn;obtain ⟨i,e0,h⟩:=bind_some' h;obtain ⟨i2,e0',h⟩:=bind_some' h;split at h
  ·rename_i hi;have hi:=beq_iff_eq.mp hi;subst hi;obtain ⟨c1,e1,h⟩:=bind_some' h;obtain ⟨a,e2,h⟩:=bind_some' h;obtain ⟨b,e3,h⟩:=bind_some' h;split at h
   ·rename_i hw;simp only [kX] at hw;cases h;obtain ⟨a1,a2⟩:=Dy R ok e2;obtain ⟨b1,b2⟩:=Dy R ok e3;obtain ⟨T,t1,t2⟩:=C.T.stok X ok.gx;exact PS.imp (Mj (Cv (R.E ok e1)) (TC ok.calm (HB (Ml (Cb ok e0) a1 t1 (FA hn.1.2)) (HB (Ml (Cb ok e0') b1 t1 (FA hn.2)) OR))) (Ja hn.1.1) MW rfl) fun D σ H h=>Vv t2 a2 b2 (getD_some hw.1.1) (Az (beq_iff_eq.mp hw.1.2)) (Az (beq_iff_eq.mp hw.2)) h
   ·cases h
  ·cases h
 ·cases h
def Uq (r:Rec) (C:Cf) (Γ:Gm) (es:List Expr) (k:Nat) (p:Pos) (e:Expr):Option CS:=match Ys es e with
 | some t=>cX r C Γ t.1 t.2.2.1 t.2.1 t.2.2.2.1 t.2.2.2.2.1 t.2.2.2.2.2
 | none=>match Rv es with
  | some t=>cS r C Γ t.1 t.2.1 t.2.2.1 t.2.2.2 e
  | none=>VG r C Γ es k p e
theorem Up {r:Rec} (R:OkR r) {C:Cf} {X:Cx} {Γl:Option Gm} {Γ:Gm} {es:List Expr} {k:Nat} {p pos:Pos} {e:Expr} {c:CS} (ok:Cok C X) (h:Uq r C Γ es k p e=some c):PS X (.Assign [.Tuple es k p] e pos) (tS X.K C.F Γl Γ c.Γ c.js c.f):=by
 unfold Uq at h;split at h
 ·rename_i t q;unfold Ys at q;split at q
  ·split at q
   ·cases q;exact Xr R ok h
   ·cases q
  ·cases q
 ·split at h
  ·rename_i t q;obtain ⟨p1,p2,rfl⟩:=MX q;exact Xo R ok h
  ·exact VF R ok h
theorem YM {r:Rec} (R:OkR r) {C:Cf} {X:Cx} {Γl:Option Gm} {Γ:Gm} {x:Str} {p pos:Pos} {e:Expr} {c:CS} (ok:Cok C X) (h:(if LD e then (r.E C Γ e).bind fun c=>PD C x c else none)=some c):PS X (.Assign [.Name x p] e pos) (tS X.K C.F Γl Γ c.Γ c.js c.f):=by
 split at h
 ·rename_i hn;obtain ⟨c1,e1,h⟩:=bind_some' h;exact Lw ok (R.E ok e1) (Ga hn) h
 ·cases h
def Yf (r:Rec) (C:Cf) (Γl:Option Gm) (Γ:Gm) (s:Stmt):Option CS:=match s with
 | .Pass _=>some (SO Γ)
 | .Expr (.Constant (.str _) _ _) _=>some (SO Γ)
 | .Expr e _=>ck r C Γ e
 | .Return (some e) _=>gT r C Γ e
 | .Assign [.Name x _] (.ListComp elt gens scope _) _=>ZU r C Γ x elt gens scope
 | .Assign [.Name x _] e _=>if LD e then (r.E C Γ e).bind fun c=>PD C x c else none
 | .Assign [.Tuple es k p] e _=>Uq r C Γ es k p e
 | .Assign [.Subscript x k _] e _=>Us r C Γ x k e
 | .AugAssign (.Name x _) op e _=>gc r C Γ x op e
 | .If c a b _=>kF r C Γl Γ c a b
 | .For tg iter body [] _=>gZ r C Γ tg iter body
 | .While c body [] _=>iB r C Γ c body
 | .Break _=>cu Γl Γ
 | .Continue _=>cm Γl Γ
 | .Raise _ _ _=>some ⟨none,[],cH,false,false,false⟩
 | _=>none
theorem SA {r:Rec} (R:OkR r) {C:Cf} {X:Cx} {Γl:Option Gm} {Γ:Gm} {s:Stmt} {c:CS} (ok:Cok C X) (h:Yf r C Γl Γ s=some c):PS X s (tS X.K C.F Γl Γ c.Γ c.js c.f):=by
 cases s with
 | Pass _=>cases h;exact Zy
 | Expr e _ =>
  cases e with
  | Constant k _ _ =>
   cases k with
   | str _=>cases h;exact eI
   | _=>exact PF R ok h
  | _=>exact PF R ok h
 | Return v _ =>
  cases v with
  | none=>cases h
  | some e=>exact Xq R ok h
 | Assign ts e _ =>
  match ts,h with
  | [],h=>cases h
  | t::_::_,h=>cases t<;>cases h
  | [t],h =>
   cases t with
   | Name x _ =>
    cases e with
    | ListComp elt gens scope _=>exact VH R ok h
    | _=>exact YM R ok h
   | Tuple es k p=>exact Up R ok h
   | Subscript x k _=>exact Ur R ok h
   | _=>cases h
 | AugAssign t op e _ =>
  cases t with
  | Name x _=>exact YC R ok h
  | _=>cases h
 | If c a b _=>exact cj R ok h
 | For tg iter body o _ =>
  cases o with
  | nil=>exact Xx R ok h
  | cons _ _=>cases h
 | While c body o _ =>
  cases o with
  | nil=>exact cP R ok h
  | cons _ _=>cases h
 | Break _=>exact YA h
 | Continue _=>exact Xy h
 | Raise _ _ _ =>
  cases h;intro pins s σ H D I q;obtain ⟨g,m,P,r,R,k,res,e,q⟩:=q;cases e
 | _=>cases h
def Rz (r:Rec) (C:Cf) (Γl:Option Gm) (Γ:Gm) (ss:List Stmt):Option CS:=match ss with
 | []=>some (SO Γ)
 | [s]=>r.S C Γl Γ s
 | s::ss=>(r.S C Γl Γ s).bind fun x=>match x.Γ with
  | none=>some x
  | some Γ'=>(r.Ss C Γl Γ' ss).bind fun y=>some ⟨y.Γ,x.js++y.js,gD x.f y.f,x.er || y.er,x.eb || y.eb,x.ec || y.ec⟩
theorem Ph {r:Rec} (R:OkR r) {C:Cf} {X:Cx} {Γl:Option Gm} {Γ:Gm} {ss:List Stmt} {c:CS} (ok:Cok C X) (h:Rz r C Γl Γ ss=some c):DJ X ss (tS X.K C.F Γl Γ c.Γ c.js c.f):=by
 match ss,h with
 | [],h=>cases h;exact eG
 | [s],h=>exact eF (R.S ok h)
 | s::s2::ss,h =>
  obtain ⟨x,e1,h⟩:=bind_some' (show (r.S C Γl Γ s).bind _=some c from h);have h1:=R.S ok e1;cases hx:x.Γ with
  | none =>
   simp only [hx] at h;cases h;rw [hx] at h1 ⊢;exact Zz h1
  | some Γ' =>
   simp only [hx] at h;obtain ⟨y,e2,h⟩:=bind_some' h;cases h;rw [hx] at h1;exact aD (f:=x.f) (f2:=y.f) (js:=x.js) (js2:=y.js) h1 (R.Ss ok e2)
def step (r:Rec):Rec:=⟨Yg r,Kd r,Ye r,SD r,Yf r,Rz r⟩
def Xi:Nat->Rec
 | 0=>⟨fun _ _ _=>none,fun _ _ _ _=>none,fun _ _ _=>none,fun _ _ _ _=>none,fun _ _ _ _=>none,fun _ _ _ _=>none⟩
 | n+1=>step (Xi n)
theorem Oy:∀ n,OkR (Xi n)
 | 0=>⟨(fun _ h=>by cases h),(fun _ h=>by cases h),(fun _ h=>by cases h),(fun _ _ h=>by cases h),(fun _ h=>by cases h),(fun _ h=>by cases h),fun _ h=>by cases h⟩
 | n+1=>have R:=Oy n;⟨fun ok h=>SE R ok h,fun ok h=>SH R ok h,fun ok h=>Ry R ok h,fun tg ok h=>SB R tg ok h,fun ok h=>SA R ok h,fun ok h=>Ph R ok h,fun ok h _ _ h0 hn=>Pj R ok h h0 hn⟩
noncomputable def fR (sc:Scope):List Str:=sc.names.filterMap fun p=>match p.2 with | .local=>some p.1 | .cell=>some p.1 | _=>none
mutual
noncomputable def Ab:Expr->List Str
 | .ListComp e gs sc _=>fR sc++Ab e++TU gs
 | .BoolOp _ vs _=>Bg vs
 | .BinOp a _ b _=>Ab a++Ab b
 | .UnaryOp _ a _=>Ab a
 | .IfExp a b c _=>Ab a++Ab b++Ab c
 | .Compare a _ bs _=>Ab a++Bg bs
 | .Call f es _ _=>Ab f++Bg es
 | .Attribute a _ _=>Ab a
 | .Subscript a b _=>Ab a++Ab b
 | .Slice a b c _=>HE a++HE b++HE c
 | .List es _=>Bg es
 | .Tuple es _ _=>Bg es
 | .Dict _ vs _=>Bg vs
 | .JoinedStr vs _=>Bg vs
 | .FormattedValue v _ _ _=>Ab v
 | _=>[]
noncomputable def Bg:List Expr->List Str
 | []=>[]
 | e::es=>Ab e++Bg es
noncomputable def HE:Option Expr->List Str
 | none=>[]
 | some e=>Ab e
noncomputable def TU:List Comprehension->List Str
 | []=>[]
 | ⟨_,it,ifs,_⟩::gs=>Ab it++Bg ifs++TU gs
end
mutual
noncomputable def bI:Stmt->List Str
 | .Return v _=>HE v
 | .Assign ts v _=>Bg ts++Ab v
 | .AugAssign t _ v _=>Ab t++Ab v
 | .Expr v _=>Ab v
 | .If c a b _=>Ab c++Ds a++Ds b
 | .For _ it b _ _=>Ab it++Ds b
 | .While c b _ _=>Ab c++Ds b
 | .Raise e _ _=>HE e
 | _=>[]
noncomputable def Ds:List Stmt->List Str
 | []=>[]
 | s::ss=>bI s++Ds ss
end
noncomputable def UX:List Str->List Str->List Str
 | [],acc=>acc
 | x::xs,acc=>if acc.contains x then UX xs acc else UX xs (acc++[x])
def AB (st:Stmt):List Str:=(Am st).args.map (·.arg)
def Bf (st:Stmt):List Str:=UX (AB st++fR (AG st)++Ds (AW st)) []
noncomputable def hd:(io:List Nat)->Jn Dv io->Dv
 | [],t=>t
 | _::_,t=>t.1
noncomputable def OX:(J:List Nat)->ED J->List Dv
 | [],_=>[]
 | [_],d=>[d]
 | _::j::J,t=>t.1::OX (j::J) t.2
def tl:(io:List Nat)->Jn Dv io->List Dv
 | [],_=>[]
 | i::io,t=>OX (i::io) t.2
theorem Iv:∀ (J:List Nat) (m:M),OX J (AS J m)=J.map m.at
 | [],_=>rfl
 | [_],_=>rfl
 | i::j::J,m=>by
  show m.at i::OX (j::J) (AS (j::J) m)=_;rw [Iv (j::J) m];rfl
theorem ZD (io:List Nat) (d:Dv) (m:M):hd io (Yx io d m)=d:=by cases io<;>rfl
theorem YW (io:List Nat) (d:Dv) (m:M):tl io (Yx io d m)=io.map m.at:=by
 cases io with
 | nil=>rfl
 | cons i io=>exact Iv (i::io) m
def AR (ps:List Str) (io:List Nat) (ro:Nat) (nb:Bool) (F:List Dv->Option (Jn Dv io)):Sig where
 ps:=ps
 io:=io
 ro:=ro
 nb:=nb
 fn:=fun ds=>(F ds).bind fun t=>some (hd io t,tl io t)
 cps:=fun R ds k=>(F ds).bind fun t=>k (hd io t) (tl io t)
 eq:=fun R ds k=>by cases F ds<;>rfl
def kJ (io:List Nat):Kt (Jn Dv io):=⟨fun m=>some (Yx io .non m),fun d m=>some (Yx io d m),fun _=>none,fun _=>none⟩
end R
namespace L2
open PySem
abbrev YZ (l:W.OpenLaw) (n:Nat) (as:List Addr) (K:Params->W.Frag) (N:Nat):Prop:=
 W.LeftO l.row.prog (W.view l.prog (List.range n)) [] (fun s=>W.xlAt (W.view l.prog (List.range n)) [] s && W.recOk [] s) (fun s=>as.map s.heap.get?) (fun w=>(K w.params).map fun p=>some p.2) N
theorem mk_law {l:W.OpenLaw} {n:Nat} {N:Nat} {d:DefRec} {K:Params->W.Frag} {as:List Addr} (ws:l.wellSaid=true) (left:YZ l n as K N)
    (has:∀ P,as=(K P).map (·.1)) (hr:l.row.records=[]) (hdef:W.defOf (W.view l.prog (List.range n)) l.row.name=some (d,[])) (hp:l.row.prog.theDef l.row.name=some (d.params,d.body,d.scope)) (hk:W.kwWritten? d.params.kwonlyargs d.params.kw_defaults=some [])
    (hwr:(!l.row.writes || l.row.records.isEmpty)=true)
    (ok:(W.chainsOk (W.view l.prog (List.range n)) && W.opensWell l.row.prog && (W.frees l.row.toRowW && l.row.within.isEmpty))=true) (hb:l.row.prog.bare) (hw:l.row.toRowW.promised)
    (call:W.WalkO (W.view l.prog (List.range n)) [] (W.XL (W.view l.prog (List.range n)) []) (W.InK K) l.row.toRowW d [] fun f vs=>PySem.call f vs):l.Holds:=
  W.holds_law ws fun said=>W.holds_open (q:=W.view l.prog (List.range n)) (loose:=[]) (XP:=W.XL (W.view l.prog (List.range n)) []) (YP:=W.InK K) left (W.InK.of has) W.InK.keeps (fun s e=>W.xl_of s (mM.mp e).1) W.XL.keeps hdef hp hk (fun s e=>W.recFacts_nil hr) hwr said ok hb hw call
noncomputable abbrev ke (P:Params) (x:Str) (t:Tok) (v:Value):DictEntry:=⟨PyData.keyHash P x,.str x t,v⟩
noncomputable abbrev cO (x:Str) (t:Tok) (l a s:Int) (r1 r2:Addr) (v1 v2 v3:Value) (r3:Addr) (t2:Nat):Obj:=⟨.type "code", none,.fields #[.str x t,.str x (t+1),.str "/claim/cut.py" (t+2),.int l 0,.int a 0,.int 0 0,.int 0 0,.int s 0,.ref r1,.bool true,.int 181 0,.ref r2,v1,v2,v3,.ref r3,.int t2 0,.int l 0,.str "/claim/cut.py" (t2+1)],#[]⟩
noncomputable def cK:Stmt->Pos
 | .FunctionDef _ _ _ _ _ _ _ _ _ p=>p
 | _=>⟨0,0,0,0⟩
noncomputable def Qi (K:W.Frag) (n:Str):Addr:=match W.nsIn K mainGlobals n with
 | some (some (.ref a))=>a
 | _=>0
noncomputable def aX (K:W.Frag) (f:Addr):Value:=match K.lookup f with
 | some ⟨_,_,.func d,_⟩=>d.pyModule
 | _=>.none
noncomputable def Xk (K:W.Frag) (f:Addr):Value:=match K.lookup f with
 | some ⟨_,_,.func d,_⟩=>d.code
 | _=>.none
abbrev GF (K:W.Frag) (n:Str) (t:Stmt):Prop:=W.nsIn K mainGlobals n=some (some (.ref (Qi K n))) /\
 K.lookup (Qi K n)=some ⟨.type "function", none,.func (W.fnOf n n (Am t) (AW t) (AG t) .none .none .none (aX K (Qi K n)) none (Xk K (Qi K n)) .none),#[]⟩ /\
 W.codeIn K (Xk K (Qi K n)) n=true/\W.keepIn K (.ref (Qi K n))=true
theorem NI {K:W.Frag} {n:Str} {t:Stmt} (h:GF K n t):Fun K n n t (Qi K n) (W.fnOf n n (Am t) (AW t) (AG t) .none .none .none (aX K (Qi K n)) none (Xk K (Qi K n)) .none):=bf h.2.1 h.2.2.1 h.2.2.2
end L2
namespace R
open PySem L2
structure Md:Type 1 where
 T:Tb
 cs:List (Str×Dv)
 bl:List Str
def gR (M:Md) (fs:List (Str×Sig)) (st:Stmt) (io:List Nat) (ro:Nat):Cf:=⟨Bf st,AG st,fun _=>true,fs,M.cs,M.bl,M.T,⟨io,Mg (Bf st).length io,ro⟩⟩
noncomputable def iU:Rec:=⟨fun _ _ _=>none,fun _ _ _ _=>none,fun _ _ _=>none,fun _ _ _ _=>none,fun _ _ _ _=>none,fun _ _ _ _=>none⟩
def cmp (n:Nat):Rec:=Nat.rec iU (fun _ r=>step r) n
theorem Ul:∀ n,cmp n=Xi n
 | 0=>rfl
 | n+1=>by
  show step (cmp n)=step (Xi n);rw [Ul n]
def WI (M:Md) (fs:List (Str×Sig)) (st:Stmt) (io:List Nat) (ro:Nat):Option CS:=(cmp 100).Ss (gR M fs st io ro) none (XT (Bf st).length (AB st).length io) (AW st)
def SY (M:Md) (fs:List (Str×Sig)) (st:Stmt) (io:List Nat) (ro:Nat) (ds:List Dv):Option (Jn Dv io):=match WI M fs st io ro with
 | some c=>c.f (Jn Dv io) (ds++List.replicate ((Bf st).length - (AB st).length) .non) (kJ io)
 | none=>none
noncomputable def ia:ScopeKind->Bool
 | .function=>true
 | _=>false
noncomputable def Wx:NameKind->Bool
 | .free=>false
 | _=>true
def WG (N P:List Str) (sc:Scope):Bool:=ia sc.kind && !sc.isCoroutine && !sc.isGenerator && decide N.Nodup && (N.take P.length == P) && (P.all fun x=>match sc.names.lookup x with | some .local=>true | some .cell=>true | _=>false) && sc.names.all fun y=>Wx y.2
theorem OH {N P:List Str} {sc:Scope} (h:WG N P sc=true):FnScope N P sc:=by
 unfold WG at h;simp only [kX,mJ,decide_eq_true_eq,lO] at h;obtain ⟨⟨⟨⟨⟨⟨h1,h2⟩,h3⟩,h4⟩,h5⟩,h6⟩,h7⟩:=h;refine ⟨?_,h2,h3,h4,by simpa using h5,fun x hx=>?_,fun y hy z=>?_⟩
 ·cases q:sc.kind<;>first | rfl | (rw [q] at h1;cases h1)
 ·have:=h6 x hx;split at this
  ·rename_i e;exact .inl e
  ·rename_i e;exact .inr e
  ·cases this
 ·have:=h7 y hy;rw [z] at this;cases this
def EM (M:Md) (fs:List (Str×Sig)) (st:Stmt) (io:List Nat) (ro:Nat):Bool:=WG (Bf st) (AB st) (AG st) && decide io.Nodup && (io.all fun i=>decide (i < (AB st).length)) && decide ((AB st).length<=(Bf st).length) && match WI M fs st io ro with
 | some c=>Jm (some (Mg (Bf st).length io)) c.Γ
 | none=>false
section
variable {P:Program} {w:World} {K:W.Frag} {mg:Str->Option Value} {base:Heap}
structure Bs (M:Md) (K:W.Frag) (mg:Str->Option Value):Prop where
 cs:∀ x d,(x,d)∈M.cs->∃ v u,mg x=some u/\RelV v u/\∀ g H,Rep K g H 0 d v nop
 bl:∀ x∈M.bl,mg x=none
def Fs (P:Program) (w:World) (K:W.Frag) (mg:Str->Option Value) (base:Heap) (k:Nat) (fs:List (Str×Sig)):Prop:=∀ x s,(x,s)∈fs->s.io.Nodup/\(∀ i∈s.io,i < s.ps.length)/\∃ j,j<=k/\Fx P w K mg base j x s.ps (OE K s)
theorem Fs.nil {k:Nat}:Fs P w K mg base k []:=fun _ _ h=>by cases h
theorem Fs.cons {k:Nat} {x:Str} {s:Sig} {fs:List (Str×Sig)} (h:Fs P w K mg base k fs) (h1:s.io.Nodup) (h2:∀ i∈s.io,i < s.ps.length) (h3:Fx P w K mg base (k+1) x s.ps (OE K s)):Fs P w K mg base (k+1) ((x,s)::fs):=fun y t q=>by
 rcases km.mp q with q | q
 ·cases q;exact ⟨h1,h2,k+1,kj _,h3⟩
 ·obtain ⟨a,b,j,hj,f⟩:=h y t q;exact ⟨a,b,j,by omega,f⟩
theorem NV {M:Md} {k:Nat} {fs:List (Str×Sig)} {x:Str} {st:Stmt} {f:Addr} {fd:FuncData} {io:List Nat} {ro:Nat} {nb:Bool} {F:List Dv->Option (Jn Dv io)} (b:Bs M K mg) (h:Fs P w K mg base k fs) (c:EM M fs st io ro=true) (hF:∀ ds,ds.length=(AB st).length->SY M fs st io ro ds=F ds)
    (Fn:Fun K x x st f fd):FnOk P w K mg base RV (k+1) f fd (AB st) (OE K (AR (AB st) io ro nb F)):=by
  unfold EM at c;simp only [kX,decide_eq_true_eq,lO] at c;obtain ⟨⟨⟨⟨c1,c2⟩,c3⟩,c4⟩,c5⟩:=c;cases e:WI M fs st io ro with
  | none=>rw [e] at c5;cases c5
  | some cs =>
    rw [e] at c5;have S:=OH c1;refine fw (s:=AR (AB st) io ro nb F) (N:=Bf st) (body:=cs.f) (Γn:=cs.Γ) (js:=cs.js) Fn S c2 c3 c4 c5 (fun cdv A outer s' H E hr=>?_) fun ds d bs hl hf=>?_
    · have ok:Cok (gR M fs st io ro) (Lm RV P w K mg base (Bf st) x (AG st) f cdv A outer s' H E).nox:=⟨rfl,rfl,S.nd,rfl,fun _ _=>rfl,⟨rfl,k,hr⟩,fun y t q=>by
        obtain ⟨a,b,j,hj,q⟩:=h y t q;exact ⟨a,b,j,k,hj,hr,q⟩,b.cs,b.bl,rfl⟩
      unfold WI at e;rw [Ul] at e;exact (Oy 100).Ss ok e
    · have hr:=hF ds hl;unfold SY at hr;rw [e] at hr;obtain ⟨t,e1,e2⟩:=bind_some' (show (F ds).bind _=some (d,bs) from hf);cases e2;refine ⟨_,kJ io,t,hr.trans e1,fun m z=>?_,fun d' m z=>?_⟩
      · have z:some (Yx io .non m)=some t:=z;cases z;exact ⟨ZD io _ m,YW io _ m⟩
      · have z:some (Yx io d' m)=some t:=z;cases z;exact ⟨ZD io _ m,YW io _ m⟩
abbrev Ac (x:Str) (st:Stmt):Prop:=∀ (kV doc pm:Value) (an:Option Addr) (cdv ct:Value) (us:List Value),us.length=(AB st).length->bindArgs (W.fnOf x x (Am st) (AW st) (AG st) .none kV doc pm an cdv ct) ⟨us,[]⟩=pure ((AB st).zip us)
theorem Ff {M:Md} {fs:List (Str×Sig)} {st:Stmt} {io:List Nat} {ro:Nat} (c:EM M fs st io ro=true):io.Nodup/\∀ i∈io,i < (AB st).length:=by
 unfold EM at c;simp only [kX,decide_eq_true_eq,lO] at c;exact ⟨c.1.1.1.2,c.1.1.2⟩
theorem Fs.def {M:Md} {k:Nat} {fs:List (Str×Sig)} {x:Str} {st:Stmt} {io:List Nat} {ro:Nat} {nb:Bool} {F:List Dv->Option (Jn Dv io)} (h:Fs P w K mg base k fs) (b:Bs M K mg) (c:EM M fs st io ro=true) (hF:∀ ds,ds.length=(AB st).length->SY M fs st io ro ds=F ds)
    (gf:GF K x st) (hm:mg x=some (.ref (Qi K x))) (hb:Ac x st):Fs P w K mg base (k+1) ((x,AR (AB st) io ro nb F)::fs):=
  h.cons (Ff c).1 (Ff c).2 ⟨_,_,NV b h c hF (NI gf),hm,gf.2.2.2,(NI gf).binds hb⟩
theorem Fs.defR {M:Md} {k:Nat} {fs:List (Str×Sig)} {x:Str} {st:Stmt} {io:List Nat} {ro:Nat} {nb:Bool} {F:Nat->List Dv->Option (Jn Dv io)} (h:Fs P w K mg base k fs) (b:Bs M K mg) (c0:WG (Bf st) (AB st) (AG st)=true) (h0:∀ ds,F 0 ds=none) (c:∀ n,EM M ((x,AR (AB st) io ro nb (F n))::fs) st io ro=true)
    (hF:∀ n ds,ds.length=(AB st).length->SY M ((x,AR (AB st) io ro nb (F n))::fs) st io ro ds=F (n+1) ds)
    (gf:GF K x st) (hm:mg x=some (.ref (Qi K x))) (hb:Ac x st):∀ n,Fs P w K mg base (k+n+1) ((x,AR (AB st) io ro nb (F n))::fs)
  | 0=>h.cons (Ff (c 0)).1 (Ff (c 0)).2 ⟨_,_,(NI gf).ok (k:=k) (OH c0) (fun vs H Q E q=>by
      obtain ⟨g,ds,P,r,d,bs,e,q⟩:=q;have e:(F 0 ds).bind _=some (d,bs):=e;rw [h0 ds] at e;cases e) (fun cdv A outer s H vs Q E _ q=>by
      obtain ⟨g,ds,P,r,d,bs,e,q⟩:=q;have e:(F 0 ds).bind _=some (d,bs):=e;rw [h0 ds] at e;cases e),hm,gf.2.2.2,(NI gf).binds hb⟩
  | n+1=>by
    have ih:=Fs.defR h b c0 h0 c hF gf hm hb n;have hh:Fs P w K mg base (k+n+1) fs:=fun y t q=>ih y t (kh _ q)
    exact hh.cons (Ff (c 0)).1 (Ff (c 0)).2 ⟨_,_,NV b ih (c n) (hF n) (NI gf),hm,gf.2.2.2,(NI gf).binds hb⟩
theorem GI {x:Str} {st:Stmt} (hn:(AB st).length=1) (h:∀ (kV doc pm:Value) (an:Option Addr) (cdv ct:Value) (a:Value),bindArgs (W.fnOf x x (Am st) (AW st) (AG st) .none kV doc pm an cdv ct) ⟨[a],[]⟩=pure ((AB st).zip [a])):Ac x st:=fun kV doc pm an cdv ct us hl=>by
 rw [hn] at hl
 match us,hl with | [a],_=>exact h kV doc pm an cdv ct a
theorem KG {x:Str} {st:Stmt} (hn:(AB st).length=2) (h:∀ (kV doc pm:Value) (an:Option Addr) (cdv ct:Value) (a b:Value),bindArgs (W.fnOf x x (Am st) (AW st) (AG st) .none kV doc pm an cdv ct) ⟨[a,b],[]⟩=pure ((AB st).zip [a,b])):Ac x st:=fun kV doc pm an cdv ct us hl=>by
 rw [hn] at hl
 match us,hl with | [a,b],_=>exact h kV doc pm an cdv ct a b
theorem jM {x:Str} {st:Stmt} (hn:(AB st).length=3) (h:∀ (kV doc pm:Value) (an:Option Addr) (cdv ct:Value) (a b c:Value),bindArgs (W.fnOf x x (Am st) (AW st) (AG st) .none kV doc pm an cdv ct) ⟨[a,b,c],[]⟩=pure ((AB st).zip [a,b,c])):Ac x st:=fun kV doc pm an cdv ct us hl=>by
 rw [hn] at hl
 match us,hl with | [a,b,c],_=>exact h kV doc pm an cdv ct a b c
theorem jL {x:Str} {st:Stmt} (hn:(AB st).length=4) (h:∀ (kV doc pm:Value) (an:Option Addr) (cdv ct:Value) (a b c d:Value),bindArgs (W.fnOf x x (Am st) (AW st) (AG st) .none kV doc pm an cdv ct) ⟨[a,b,c,d],[]⟩=pure ((AB st).zip [a,b,c,d])):Ac x st:=fun kV doc pm an cdv ct us hl=>by
 rw [hn] at hl
 match us,hl with | [a,b,c,d],_=>exact h kV doc pm an cdv ct a b c d
theorem jK {x:Str} {st:Stmt} (hn:(AB st).length=5) (h:∀ (kV doc pm:Value) (an:Option Addr) (cdv ct:Value) (a b c d e:Value),bindArgs (W.fnOf x x (Am st) (AW st) (AG st) .none kV doc pm an cdv ct) ⟨[a,b,c,d,e],[]⟩=pure ((AB st).zip [a,b,c,d,e])):Ac x st:=fun kV doc pm an cdv ct us hl=>by
 rw [hn] at hl
 match us,hl with | [a,b,c,d,e],_=>exact h kV doc pm an cdv ct a b c d e
noncomputable def Jk (K:W.Frag) (x:Str):Bool:=match W.nsIn K mainGlobals x with | some none=>true | _=>false
theorem gg {M:Md} {h:Heap} (X:K.In h) (G:h.Ns mainGlobals mg) (hc:M.cs=[]) (hz:M.bl.all (Jk K)=true):Bs M K mg:=⟨(fun x d q=>by rw [hc] at q;cases q),fun x hx=>by
 have:=(lO.mp hz) x hx;unfold Jk at this;split at this
 ·rename_i e;exact W.mg_none_of X G e
 ·cases this⟩
def Kc:List Value->Option (List (List Nat))
 | []=>some []
 | .str z _::vs=>(Kc vs).map (z.cps.toList::·)
 | _=>none
def cN (K:W.Frag) (p:Str×Dv):Bool:=match W.nsIn K mainGlobals p.1 with
 | some (some (.int j _))=>(match p.2 with | .int i=>decide (i=j) | _=>false)
 | some (some (.str z _))=>(match p.2 with | .str l=>decide (z.cps.toList=l) | _=>false)
 | some (some (.ref a))=>(match p.2 with
  | .mtp ls=>(match K.lookup a with
   | some o=>(match o.data with
    | .seq its _=>o.cls == .type "tuple" && decide (its.size<=sizeLine) && decide (Kc its.toList=some ls)
    | _=>false)
   | none=>false)
  | _=>false)
 | _=>false
theorem Gb:∀ {vs:List Value} {ls:List (List Nat)},Kc vs=some ls->AD (ls.map fun l=>V.str (tx l)) vs
 | [],ls,h=>by cases h;exact .nil
 | v::vs,ls,h=>by
  cases v<;>first | (simp only [Kc,reduceCtorEq] at h;done) | skip
  rename_i z t;simp only [Kc,lH] at h;obtain ⟨r,e,rfl⟩:=h;refine .cons ⟨t,?_⟩ (Gb e);show _=Value.str (tx z.cps.toList) t;rw [MP]
theorem gh {M:Md} {h:Heap} (X:K.In h) (G:h.Ns mainGlobals mg) (hc:M.cs.all (cN K)=true) (hz:M.bl.all (Jk K)=true):Bs M K mg:=by
 refine ⟨fun x d q=>?_,(gg (M:=⟨M.T,[],M.bl⟩) X G rfl hz).bl⟩;have:=(lO.mp hc) (x,d) q;unfold cN at this;split at this
 ·rename_i j t e;split at this
  ·rename_i i hd;exact ⟨.int i,_,W.mg_of X G e,⟨t,by rw [of_decide_eq_true this]⟩,fun _ _=>by show Rep K _ _ 0 (x,d).2 _ _;rw [hd];exact BO⟩
  ·cases this
 ·rename_i z t e;split at this
  ·rename_i l hd;exact ⟨.str (tx l),_,W.mg_of X G e,⟨t,by rw [<- of_decide_eq_true this,MP]⟩,fun _ _=>by show Rep K _ _ 0 (x,d).2 _ _;rw [hd];unfold Rep;exact ⟨rfl,fun _ z=>z⟩⟩
  ·cases this
 ·rename_i a e;split at this
  ·rename_i ls hd;split at this
   ·rename_i o ho;split at this
    ·rename_i its n hd2;simp only [kX,decide_eq_true_eq] at this;refine ⟨.ref a,_,W.mg_of X G e,rfl,fun _ _=>?_⟩;show Rep K _ _ 0 (x,d).2 _ _;rw [hd];unfold Rep;exact ⟨⟨a,rfl,o,its,n,ho,eq_of_beq this.1.1,hd2,this.1.2,Gb this.2⟩,fun _ z=>z⟩
    ·cases this
   ·cases this
  ·cases this
 ·cases this
noncomputable def cD {α:Type} (f:Dv->Dv->Dv->Dv->Option α) (ds:List Dv):Option α:=match ds with | [a,b,c,d]=>f a b c d | _=>none
noncomputable def cF {α:Type} (f:Dv->Dv->Dv->Dv->Dv->Option α) (ds:List Dv):Option α:=match ds with | [a,b,c,d,e]=>f a b c d e | _=>none
noncomputable def Zj {α:Type} (f:Dv->Dv->Dv->Option α) (ds:List Dv):Option α:=match ds with | [a,b,c]=>f a b c | _=>none
theorem iX {α:Type}:∀ ds,one (fun _=>(none:Option α)) ds=none
 | []=>rfl | [_]=>rfl | _::_::_=>rfl
abbrev GL (M:Md) (fs:List (Str×Sig)) (st:Stmt) (io:List Nat) (ro:Nat) (f:List Dv->Option (Jn Dv io)):Prop:=∀ ds,ds.length=(AB st).length->SY M fs st io ro ds=f ds
theorem RM {α:Type} {G:List Dv->Option α} {f:Dv->Option α} {n:Nat} (hn:n=1) (h:∀ a,G [a]=f a):∀ ds,ds.length=n->G ds=one f ds:=fun ds hl=>by
 subst hn
 match ds,hl with | [a],_=>exact h a
theorem YD {α:Type} {G:List Dv->Option α} {f:Dv->Dv->Option α} {n:Nat} (hn:n=2) (h:∀ a b,G [a,b]=f a b):∀ ds,ds.length=n->G ds=two f ds:=fun ds hl=>by
 subst hn
 match ds,hl with | [a,b],_=>exact h a b
theorem kU {α:Type} {G:List Dv->Option α} {f:Dv->Dv->Dv->Option α} {n:Nat} (hn:n=3) (h:∀ a b c,G [a,b,c]=f a b c):∀ ds,ds.length=n->G ds=Zj f ds:=fun ds hl=>by
 subst hn
 match ds,hl with | [a,b,c],_=>exact h a b c
theorem kT {α:Type} {G:List Dv->Option α} {f:Dv->Dv->Dv->Dv->Option α} {n:Nat} (hn:n=4) (h:∀ a b c d,G [a,b,c,d]=f a b c d):∀ ds,ds.length=n->G ds=cD f ds:=fun ds hl=>by
 subst hn
 match ds,hl with | [a,b,c,d],_=>exact h a b c d
theorem kS {α:Type} {G:List Dv->Option α} {f:Dv->Dv->Dv->Dv->Dv->Option α} {n:Nat} (hn:n=5) (h:∀ a b c d e,G [a,b,c,d,e]=f a b c d e):∀ ds,ds.length=n->G ds=cF f ds:=fun ds hl=>by
 subst hn
 match ds,hl with | [a,b,c,d,e],_=>exact h a b c d e
def OD (K:W.Frag):Sp:=fun vs H Q _=>∃ (a:Addr) (ns:List Int),vs=[.ref a]/\CZ K H a (ns.map V.int)/\ns.length<=63/\YQ H/\∀ H',Q (.bl true) H'
theorem bO {k:Nat} {f:Addr} {fd:FuncData} {ps:List Str} {nb:Bool} {F:List Dv->Option Dv} (hp:ps.length=1) (h0:FnOk P w K mg base RV k f fd ps (OE K (AR ps [] 1 nb F))) (h:∀ ns:List Int,ns.length<=63->F [.scr ns]=some (.bl true)):FnOk P w K mg base RV k f fd ps (OD K):=h0.imp fun vs H Q E q=>by
 obtain ⟨a,ns,rfl,hS,hn,hO,q⟩:=q;have hs:Scr K H a ns:=by
  rcases hS with (h1 | h1) | h1
  ·rcases hO a with z | ⟨o,xs,z⟩
   ·rw [h1] at z;cases z
   ·rw [h1] at z;cases z
  ·exact .inl h1
  ·exact .inr h1
 refine ⟨⟨fun _=>False,[]⟩,[.scr ns],nop,?_,.bl true,[],by show (F [.scr ns]).bind _=_;rw [h ns hn];rfl,fun g' H' v Pv Pb _ rv _ _=>by rw [rep_bl rv];exact q H'⟩;show Rel K _ H (RX ps.length []) _ _ _;rw [hp];refine ⟨?_,fun _=>nop,⟨rfl,rfl,fun i o e=>?_,fun i e a z=>z,fun i j n a z=>z.elim⟩,fun a=>⟨fun z=>z.elim,fun ⟨i,z⟩=>z⟩⟩
 ·exact fun _ z=>z.elim
 ·match i,e with
  | 0,e=>cases e;exact ⟨_,_,rfl,rfl,by unfold Rep;exact ⟨⟨a,rfl,hs⟩,fun _ z=>z⟩⟩
end
end R
namespace L4
open PySem PySem.Spec PyProof.Rows L2 Builtin
theorem FT:fillsNumberSlot (.type "tuple") "mul" = pure false:=
 PySem.fillsNumberSlot_seq (id := "tuple.__mul__") (r:=some (.builtin "tuple.__rmul__")) F.slot_tuple_mul.lookup (by decide +kernel) F.slot_tuple_rmul.lookup (by decide +kernel)
theorem Je:seqRepeat? (.type "tuple")=pure (some (.builtin "tuple.__mul__")):=by
 unfold seqRepeat?
 rw [PySem.seqSlot_of (T := "tuple") (name := "__mul__") (id := "tuple.__mul__") F.slot_tuple_mul.lookup (by decide +kernel),PySem.seqSlot_of (T := "tuple") (name := "__rmul__") (id := "tuple.__rmul__") F.slot_tuple_rmul.lookup (by decide +kernel)]
 rfl
theorem HN (a:Int) (t:Tok) (l:Addr) (items:Array Value) (n:Nat) :
    Meets (Builtin.«int.__rmul__» ⟨[.int a t,.ref l],[]⟩) (fun _ R s=>(∃ o,s.heap.get? l=some o/\o.cls=.type "tuple" /\ o.data=.seq items n)/\R (.ok (.ret Value.notImplemented)) s):=
  .of_wp fun prog w A R s h=>by
    obtain ⟨hp,g,d,tk,os⟩:=s;obtain ⟨⟨⟨c,dd,dat,sl⟩,hl,hc,hd⟩,h⟩:=h;simp only at hc hd;subst hc;subst hd
    wp_walk;exact ⟨_,rfl,h⟩
theorem GY (l:Addr) (items:Array Value) (n:Nat) (x:Int) (u:Tok) (h1:1 < x) (h2:x < 2 ^ 63) (hz:items.size * x.toNat<=1000000) (hne:items.isEmpty=false) :
    Meets (Builtin.«tuple.__mul__» ⟨[.ref l,.int x u],[]⟩) (fun _ R s=>(∃ o,s.heap.get? l=some o/\o.cls=.type "tuple" /\ o.data=.seq items n)/\R (.ok (.ret (Value.ref s.heap.objs.size))) { s with heap:=s.heap.push { cls:=Value.type "tuple", data:=Data.seq ((List.replicate x.toNat items).foldl (·++·) #[]) },toks:=s.toks }):=
  .of_wp fun prog w A R s h=>by
    obtain ⟨hp,g,d,tk,os⟩:=s;obtain ⟨⟨⟨c,dd,dat,sl⟩,hl,hc,hd⟩,h⟩:=h;simp only at hc hd;subst hc;subst hd;have hz':(items.size:Int) * x<=1000000:=by
      have e:x=(x.toNat:Int):=by omega
      rw [e,<- Int.natCast_mul];omega
    wp_walk
    refine wpAny_ite_false (by simp;omega) ?_
    wp_walk
    refine wpAny_ite_false (by rw [hne];simp;omega) ?_
    wp_walk
    refine wpAny_ite_false (by rw [hne];simp;omega) ?_
    wp_walk
    refine wpAny_ite_false (decide_eq_false (by have : ((2 : Int) ^ 63 - 1) / 8 > 1000000 := by decide
                                                omega)) ?_
    wp_walk
    refine wpAny_ite_false (decide_eq_false (by unfold Tuple.tupleTooMany;rw [decide_eq_true_eq,sizeLine_eq];omega)) ?_
    wp_walk
    refine wpAny_ite_false (decide_eq_false (by rw [AutoListH.size_joined,sizeLine_eq];simp only [Array.size_empty];have:=Nat.mul_comm items.size x.toNat;omega)) ?_
    wp_walk
    exact ⟨_,rfl,h⟩
theorem Hq (l:Addr) (items:Array Value) (n:Nat) (u:Tok) :
    Meets (Builtin.«tuple.__mul__» ⟨[.ref l,.int 1 u],[]⟩) (fun _ R s=>(∃ o,s.heap.get? l=some o/\o.cls=.type "tuple" /\ o.data=.seq items n)/\R (.ok (.ret (Value.ref l))) s):=
  .of_wp fun prog w A R s h=>by
    obtain ⟨hp,g,d,tk,os⟩:=s;obtain ⟨⟨⟨c,dd,dat,sl⟩,hl,hc,hd⟩,h⟩:=h;simp only at hc hd;subst hc;subst hd
    wp_walk
    exact ⟨_,rfl,h⟩
def rRepT:R2:=fun x y H Q=>∃ l k xs,x=.ref l/\y=.int k/\H l=some (.tup xs)/\xs≠[]/\1<=k/\k < 2 ^ 63/\xs.length * k.toNat<=1000000/\(k=1->Q (.ref l) H) /\
 (k≠1->∀ p,H p=none->Q (.ref p) (upd H p (.tup (List.replicate k.toNat xs).flatten)))
theorem op_repT {X:Cx}:Br X (binaryOp .Mult) rRepT:=by
  intro pins s σ H x y v u Q I rx ry h;obtain ⟨l,k,xs,rfl,rfl,hH,hne,h1,h2,hz,q1,q2⟩:=h;cases rx;obtain ⟨t,rfl⟩:=ry;obtain ⟨its,r,⟨o,e,c,n,dt⟩,_⟩:=I.tuple (show DG X.K H l xs from .inl (.inl hH));have hl:its.length=xs.length:=r.length.symm
  have ho:∃ o,s.heap.get? l=some o/\o.cls=.type "tuple" /\ o.data=.seq its.toArray n:=⟨o,e,c,dt⟩
  have em:its.toArray.isEmpty=false:=by
    cases its with
    | nil=>cases xs with
      | nil=>exact absurd rfl hne
      | cons _ _=>simp at hl
    | cons _ _=>rfl
  refine wpAny_binaryOp_repeat_ref (T := "tuple") (U := "int") (by decide) ⟨_,e,c⟩ (fun s'=>typeIs_int s' k t) FT F.fills_int_mul F.slot_int_rmul Je F.slot_int_index.lookup
    (call_meets F.slot_int_rmul (typeIs_int s k t) F.entry_int_rmul (F.args_int_rmul_2 _ _) (HN k t l its.toArray n)
      ⟨ho,rfl,⟨_,e,c⟩,?_⟩)
  by_cases hk:k=1
  · subst hk;exact call_meets F.slot_tuple_mul ⟨_,e,c⟩ F.entry_tuple_mul (F.args_tuple_mul_2 _ _) (Hq l its.toArray n t) ⟨ho,.ref l,H,I,rfl,q1 rfl⟩
  · refine call_meets F.slot_tuple_mul ⟨_,e,c⟩ F.entry_tuple_mul (F.args_tuple_mul_2 _ _) (GY l its.toArray n k t (by omega) h2 (by rw [kc,hl];exact hz) em) ⟨ho,?_⟩;have f0:List.foldl (fun x1 x2=>x1++x2) #[] (List.replicate k.toNat its.toArray)=(List.replicate k.toNat its).flatten.toArray:=by
      have:=foldl_rep its k.toNat [];rw [mV] at this;exact this
    rw [f0];refine ⟨.ref _,_,I.laid (t':=s.toks) (fun _ _ q=>kY _ q) (kj _) (o:=.tup (List.replicate k.toNat xs).flatten) ⟨?_,_,r.rep k.toNat,GK.new _ _⟩,rfl,q2 hk _ I.fresh⟩;rw [len_rep,Nat.mul_comm];exact lI hz (by decide)
end L4
namespace R
open PySem L2
section
variable {K:W.Frag} {g:G} {H:Hp}
theorem RA.nil {vs:List V} (h:RA K g H [] vs):vs=[]:=by unfold RA at h;exact h
theorem RA.cons {d:Dv} {ds:List Dv} {vs:List V} (h:RA K g H (d::ds) vs):∃ v r o P,vs=v::r/\o<=1/\Rep K g H o d v P/\RA K g H ds r:=by unfold RA at h;exact h
theorem RA.one {d:Dv} {vs:List V} (h:RA K g H [d] vs):∃ v o P,vs=[v]/\o<=1/\Rep K g H o d v P:=by
 obtain ⟨v,r,o,P,rfl,ho,h1,h2⟩:=h.cons;cases h2.nil;exact ⟨v,o,P,rfl,ho,h1⟩
theorem RA.two {d e:Dv} {vs:List V} (h:RA K g H [d,e] vs):∃ v o P w u R,vs=[v,w]/\o<=1/\Rep K g H o d v P/\u<=1/\Rep K g H u e w R:=by
 obtain ⟨v,r,o,P,rfl,ho,h1,h2⟩:=h.cons;obtain ⟨w,u,R,rfl,hu,h3⟩:=h2.one;exact ⟨v,o,P,w,u,R,rfl,ho,h1,hu,h3⟩
theorem rep_str {o:Nat} {l:List Nat} {v:V} {P:Fp} (h:Rep K g H o (.str l) v P):v=.str (tx l):=by unfold Rep at h;exact h.1
theorem rep_non {o:Nat} {v:V} {P:Fp} (h:Rep K g H o .non v P):v=.non:=by unfold Rep at h;exact h.1
theorem EC {o:Nat} {xs:List Dv} {v:V} {P:Fp} (ho:o<=1) (h:Rep K g H o (.lst xs) v P):∃ a us,v=.ref a/\CZ K H a us/\Reps K g H 0 xs us nop/\H a=some (.lst us):=by
 unfold Rep at h;obtain ⟨a,us,P',rfl,h1,h2,_⟩:=h;rw [my ho] at h2;exact ⟨a,us,rfl,.inl (.inl h1.1),h2.z,h1.1⟩
theorem Dz {o:Nat} {xs:List Dv} {v:V} {P:Fp} (ho:o<=1) (h:Rep K g H o (.tup xs) v P):∃ a us,v=.ref a/\DG K H a us/\Reps K g H 0 xs us nop/\H a=some (.tup us):=by
 unfold Rep at h;obtain ⟨a,us,rfl,h1,h2⟩:=h;rw [my ho] at h2;exact ⟨a,us,rfl,.inl (.inl h1),h2.z,h1⟩
theorem Kh {o:Nat} {ns:List Int} {v:V} {P:Fp} (h:Rep K g H o (.scr ns) v P):∃ a,v=.ref a/\CZ K H a (ns.map V.int):=by
 unfold Rep at h;obtain ⟨⟨a,rfl,h1⟩,_⟩:=h;exact ⟨a,rfl,h1.sq⟩
theorem Dp {o:Nat} (ho:o<=1) {a:Addr} {xs:List Dv} {us:List V} (h1:H a=some (.tup us)) (h2:Reps K g H 0 xs us nop):Rep K g H o (.tup xs) (.ref a) nop:=by
 unfold Rep;rw [my ho];exact ⟨a,us,rfl,h1,h2⟩
theorem AU.int {o:Nat} (i:Int):AU K g H o (.int i) (.int i) H:=AU.old BO
theorem AU.bl {o:Nat} (b:Bool):AU K g H o (.bl b) (.bl b) H:=AU.old CO
theorem AU.str {o:Nat} (l:List Nat):AU K g H o (.str l) (.str (tx l)) H:=AU.old (by unfold Rep;exact ⟨rfl,fun _ z=>z⟩)
theorem AU.tup {o:Nat} (ho:o<=1) {xs:List Dv} {vs:List V} {p:Addr} (hp:H p=none) (h:Reps K g H 0 xs vs nop):AU K g H o (.tup xs) (.ref p) (upd H p (.tup vs)):=
 have sm:=DT hp (.tup vs)
 ⟨sm,nop,Dp ho BQ (h.held (Step.same (g:=g) (P:=nop) sm) FpOk.nop fun _ z=>z.elim),fun _ z=>z.elim⟩
theorem FN {xs:List Dv} {vs:List V} (h:Reps K g H 0 xs vs nop):∀ n,Reps K g H 0 (List.replicate n xs).flatten (List.replicate n vs).flatten nop
 | 0=>by simpa using Reps.nil
 | n+1=>by
  rw [mK,mK,lu,lu];exact Ba h (FN h n)
theorem Mi {xs:List Dv} {vs:List V} (n:Nat) (h:Reps K g H 0 xs vs nop):Reps K g H 0 (xs.drop n) (vs.drop n) nop:=by
 have h0:=Eb.mp h;exact Eb.mpr ⟨by simp [h0.1],fun i d v e1 e2=>h0.2 (n+i) d v (by simpa using e1) (by simpa using e2)⟩
theorem Mh {xs:List Dv} {vs:List V} (n:Nat) (h:Reps K g H 0 xs vs nop):Reps K g H 0 (xs.take n) (vs.take n) nop:=by
 have h0:=Eb.mp h;refine Eb.mpr ⟨by simp [h0.1],fun i d v e1 e2=>?_⟩;rw [List.getElem?_take] at e1 e2;split at e1
 ·rename_i hi;rw [if_pos hi] at e2;exact h0.2 i d v e1 e2
 ·cases e1
theorem EJ (ns:List Int):Reps K g H 0 (ns.map .int) (ns.map V.int) nop:=Eb.mpr ⟨by simp,fun i d v e1 e2=>by
 rw [kn] at e1 e2;cases q:ns[i]? with
 | none=>rw [q] at e1;cases e1
 | some k=>rw [q] at e1 e2;cases e1;cases e2;exact BO⟩
def cutA {α:Type} (xs:List α) (lo hi:Option Int):List α:=(xs.drop (HT.sIx xs.length 0 lo)).take (HT.sIx xs.length xs.length hi - HT.sIx xs.length 0 lo)
theorem map_cut {α β:Type} (f:α->β) (xs:List α) (lo hi:Option Int):(cutA xs lo hi).map f=cutA (xs.map f) lo hi:=by
 unfold cutA;rw [nk,nr,kb]
theorem atI_map {α β:Type} {f:α->β} {xs:List α} {i:Int}:Dx (xs.map f) i=(Dx xs i).map f:=by
 unfold Dx;rw [kb];cases LO xs.length i with
 | none=>rfl
 | some j=>show (xs.map f)[j]?=_;rw [kn];rfl
theorem FP {xs:List Dv} {vs:List V} (lo hi:Option Int) (h:Reps K g H 0 xs vs nop):Reps K g H 0 (cutA xs lo hi) (Ek vs lo hi) nop:=by
 unfold cutA Ek;rw [h.len];exact Mh _ (Mi _ h)
theorem Kk {xs:List Dv} {vs:List V} {i:Int} {d:Dv} (h:Reps K g H 0 xs vs nop) (e:Dx xs i=some d):∃ v,Dx vs i=some v/\Rep K g H 0 d v nop:=by
 unfold Dx at e ⊢;rw [h.len] at e;cases q:LO vs.length i with
 | none=>rw [q] at e;cases e
 | some j =>
  rw [q] at e;obtain ⟨v,R,e1,e2,_⟩:=h.get e;exact ⟨v,e1,e2.z⟩
noncomputable def Dh (C:Int->Int->Bool) (f:Int->Int->Int) (x y:Dv):Option Dv:=match x,y with | .int i,.int j=>if C i j=true then some (.int (f i j)) else none | _,_=>none
noncomputable def Dc (f:Int->Int->Bool) (x y:Dv):Option Bool:=match x,y with | .int i,.int j=>some (f i j) | _,_=>none
abbrev Dg:=Dh (fun _ j=>decide (0 < j)) fun i j=>i % j
abbrev Vc:=Dh (fun _ j=>decide (0 < j) && decide (j < 1073741824)) fun i j=>i / j
abbrev dC:=Dh (fun i j=>decide (0<=j) && decide (j<=1000000) && decide (i.natAbs < 2 ^ 64)) fun i j=>i ^ j.toNat
abbrev ZW:=Dc fun i j=>decide (j < i)
abbrev jN:=Dc fun i j=>decide (j<=i)
theorem ES {α:Type} {f:Dv->Dv->Option α} {ds:List Dv} {a:α} (h:two f ds=some a):∃ x y,ds=[x,y]/\f x y=some a:=by
 unfold two at h;split at h
 ·exact ⟨_,_,rfl,h⟩
 ·cases h
theorem Jg {f:Dv->Dv->Option Dv} {o:Nat} {r:R2} (h:∀ g H x y v w o1 o2 P R d Q,Zd g H->o1<=1->Rep K g H o1 x v P->o2<=1->Rep K g H o2 y w R->f x y=some d->(∀ v H',AU K g H o d v H'->Q v H')->r v w H Q):AF K (two f) o (IL r):=fun g H ds vs d Q zd ra e k=>by
 obtain ⟨x,y,rfl,e⟩:=ES e;obtain ⟨v,o1,P,w,o2,R,rfl,h1,h2,h3,h4⟩:=ra.two;exact h g H x y v w o1 o2 P R d Q zd h1 h2 h3 h4 e k
theorem Dr {f:Dv->Dv->Option Bool} {r:R2} (h:∀ g H x y v w o1 o2 P R b (Q:VK),Zd g H->o1<=1->Rep K g H o1 x v P->o2<=1->Rep K g H o2 y w R->f x y=some b->Q (.bl b) H->r v w H Q):AF K (fun ds=>(two f ds).map .bl) 0 (IL r):=fun g H ds vs d Q zd ra e k=>by
 have e:(two f ds).map Dv.bl=some d:=e;cases q:two f ds with
 | none=>rw [q] at e;cases e
 | some b =>
  rw [q] at e;cases e;obtain ⟨x,y,rfl,e2⟩:=ES q;obtain ⟨v,o1,P,w,o2,R,rfl,h1,h2,h3,h4⟩:=ra.two;exact h g H x y v w o1 o2 P R b Q zd h1 h2 h3 h4 e2 (k _ _ (AU.bl _))
theorem Jh {C:Int->Int->Bool} {C':Int->Int->Prop} {f:Int->Int->Int} {o:Nat} (hc:∀ i j,C i j=true->C' i j):AF K (two (Dh C f)) o (IL (rI C' fun i j=>.int (f i j))):=Jg fun g H x y v w o1 o2 P R d Q zd _ h1 _ h2 e k=>by
 unfold Dh at e;split at e
 ·split at e
  ·rename_i c;cases e;rw [rep_int h1,rep_int h2];exact ⟨_,_,rfl,rfl,hc _ _ c,k _ _ (AU.int _)⟩
  ·cases e
 ·cases e
theorem OQ {f:Int->Int->Bool}:AF K (fun ds=>(two (Dc f) ds).map .bl) 0 (IL (Sk fun i j=>.bl (f i j))):=Dr fun g H x y v w o1 o2 P R b Q zd _ h1 _ h2 e k=>by
 unfold Dc at e;split at e
 ·cases e;rw [rep_int h1,rep_int h2];exact ⟨_,_,rfl,rfl,k⟩
 ·cases e
noncomputable def AI (x y:Dv):Option Dv:=match x,y with
 | .int i,.int j=>some (.int (i+j))
 | .str a,.str b=>if a.length+b.length<=1000000 then some (.str (a++b)) else none
 | .lst xs,.lst ys=>if xs.length+ys.length<=1000000 then some (.lst (xs++ys)) else none
 | .tup xs,.tup ys=>if xs.length+ys.length<=1000000 then some (.tup (xs++ys)) else none
 | _,_=>none
theorem aW:AF K (two AI) 1 (IL (Kp K)):=Jg fun g H x y v w o1 o2 P R d Q zd l1 h1 l2 h2 e k=>by
 unfold AI at e;split at e
 ·cases e;rw [rep_int h1,rep_int h2];exact VY (k _ _ (AU.int _))
 ·split at e
  ·rename_i hl;cases e;rw [rep_str h1,rep_str h2];refine VW (by rw [BH,BH];exact hl) ?_;rw [MQ];exact k _ _ (AU.str _)
  ·cases e
 ·split at e
  ·rename_i hl;cases e;obtain ⟨a,us,rfl,_,hx,ha⟩:=EC l1 h1;obtain ⟨b,ws,rfl,_,hy,hb⟩:=EC l2 h2;exact VX ha hb (by rw [<- hx.len,<- hy.len];exact hl) fun p hp=>k _ _ (AU.lst zd (Ba hx hy) hp)
  ·cases e
 ·split at e
  ·rename_i hl;cases e;obtain ⟨a,us,rfl,ha,hx,ha'⟩:=Dz l1 h1;obtain ⟨b,ws,rfl,hb,hy,hb'⟩:=Dz l2 h2;have al:=Ba hx hy
   by_cases hu:us=[]
   ·subst hu;exact .inr ⟨a,b,ws,rfl,rfl,ha,hb,k _ _ (AU.old (Dp (kj 1) hb' al))⟩
   ·refine .inl (.inr (.inr (.inr ⟨a,b,us,ws,rfl,rfl,ha,hb,hu,by rw [<- hx.len,<- hy.len];exact lI hl (by decide),fun hw=>?_,fun _ p hp=>k _ _ (AU.tup (kj 1) hp al)⟩)));subst hw;rw [mC] at al;exact k _ _ (AU.old (Dp (kj 1) ha' al))
  ·cases e
 ·cases e
noncomputable def big (i:Int):Bool:=decide (-(2 ^ 64) < i) && decide (i < 2 ^ 64)
def CU (x y:Dv):Option Dv:=match x,y with
 | .int i,.int j=>if (big i || big j)=true then some (.int (i * j)) else none
 | .lst xs,.int k=>if xs.length * k.toNat<=1000000/\k < 1000000/\-1000000 < k then some (.lst (List.replicate k.toNat xs).flatten) else none
 | .tup xs,.int k=>if xs≠[]/\1<=k/\k < 1000000/\xs.length * k.toNat<=1000000 then some (.tup (List.replicate k.toNat xs).flatten) else none
 | _,_=>none
theorem aQ:AF K (two CU) 1 (IL (fun x y H Q=>(rI YS fun i j=>.int (i * j)) x y H Q\/eY x y H Q\/L4.rRepT x y H Q)):=Jg fun g H x y v w o1 o2 P R d Q zd l1 h1 l2 h2 e k=>by
 unfold CU at e;split at e
 ·split at e
  ·rename_i c;cases e;rw [rep_int h1,rep_int h2];refine .inl ⟨_,_,rfl,rfl,?_,k _ _ (AU.int _)⟩;rw [nZ] at c;unfold big at c;rw [kX,kX,decide_eq_true_eq,decide_eq_true_eq,decide_eq_true_eq,decide_eq_true_eq] at c;exact c
  ·cases e
 ·split at e
  ·rename_i hl;cases e;obtain ⟨a,us,rfl,ha,hx,ha'⟩:=EC l1 h1;rw [rep_int h2];exact .inr (.inl ⟨a,_,us,rfl,rfl,ha',by omega,by omega,by rw [<- hx.len];exact lI hl.1 (by decide),fun p hp=>k _ _ (AU.lst zd (FN hx _) hp)⟩)
  ·cases e
 ·split at e
  ·rename_i hl;cases e;obtain ⟨a,us,rfl,ha,hx,ha'⟩:=Dz l1 h1;rw [rep_int h2];refine .inr (.inr ⟨a,_,us,rfl,rfl,ha',?_,hl.2.1,by omega,by rw [<- hx.len];exact hl.2.2.2,fun z=>?_,fun _ p hp=>k _ _ (AU.tup (kj 1) hp (FN hx _))⟩)
   ·intro z;have:=hx.len;rw [z] at this;exact hl.1 (lz this)
   ·subst z;have:∀ (l:List Dv),(List.replicate (Int.toNat 1) l).flatten=l:=fun l=>by simp
    rw [this] at k;exact k _ _ (AU.old (Dp (kj 1) ha' hx))
  ·cases e
 ·cases e
noncomputable def Ak (x:Dv):Option Dv:=match x with
 | .str l=>if l.length<=1000000 then some (.int l.length) else none
 | .lst xs=>some (.int xs.length)
 | .tup xs=>some (.int xs.length)
 | .scr ns=>some (.int ns.length)
 | .dct ks _=>some (.int ks.length)
 | _=>none
theorem TQ {α:Type} {f:Dv->Option α} {ds:List Dv} {a:α} (h:one f ds=some a):∃ x,ds=[x]/\f x=some a:=by
 unfold one at h;split at h
 ·exact ⟨_,rfl,h⟩
 ·cases h
theorem Cy {f:Dv->Option Dv} {o:Nat} {r:Np} (h:∀ g H x v o1 P d Q,Zd g H->o1<=1->Rep K g H o1 x v P->f x=some d->(∀ v H',AU K g H o d v H'->Q v H')->r [v] H Q):AF K (one f) o r:=fun g H ds vs d Q zd ra e k=>by
 obtain ⟨x,rfl,e⟩:=TQ e;obtain ⟨v,o1,P,rfl,h1,h2⟩:=ra.one;exact h g H x v o1 P d Q zd h1 h2 e k
theorem aR {o:Nat}:AF K (one Ak) o (fun xs H Q=>Py K xs H Q\/Yk xs H Q):=Cy fun g H x v o1 P d Q zd l1 h1 e k=>by
 unfold Ak at e;split at e
 ·split at e
  ·rename_i l hl;cases e;rw [rep_str h1];refine .inl (QW (by rw [BH];exact hl) ?_);rw [BH];exact k _ _ (AU.int _)
  ·cases e
 ·cases e;obtain ⟨a,us,rfl,ha,hx,ha'⟩:=EC l1 h1;refine .inl (XE ha' ?_);rw [<- hx.len];exact k _ _ (AU.int _)
 ·cases e;obtain ⟨a,us,rfl,ha,hx,ha'⟩:=Dz l1 h1;refine .inl ⟨_,_,rfl,.inr ⟨us,ha,rfl⟩,?_⟩;rw [<- hx.len];exact k _ _ (AU.int _)
 ·cases e;obtain ⟨a,rfl,ha⟩:=Kh h1;refine .inl (Te ha ?_);rw [kb];exact k _ _ (AU.int _)
 ·cases e;obtain ⟨a,us,rfl,ha,hl,hx⟩:=XX h1;refine .inr ⟨a,_,rfl,ha,?_⟩;rename_i ks xs;have:(ks.zip us).length=ks.length:=by rw [List.length_zip,hl,hx.len,nR]
  rw [this];exact k _ _ (AU.int _)
 ·cases e
def AC (x y:Dv):Option Dv:=match x,y with
 | .lst xs,.int i=>Dx xs i
 | .tup xs,.int i=>Dx xs i
 | .scr ns,.int i=>(Dx ns i).map .int
 | .str l,.int i=>if l.length<=1000000 then (Dx l i).map fun c=>.str [c] else none
 | .dct ks ds,k=>(Oa k).bind fun k=>Ll k ks ds
 | _,_=>none
theorem aU:AF K (two AC) 0 (IL fun x y H Q=>aF K x y H Q\/jq x y H Q):=Jg fun g H x y v w o1 o2 P R d Q zd l1 h1 l2 h2 e k=>by
 unfold AC at e;split at e
 ·obtain ⟨a,us,rfl,ha,hx,ha'⟩:=EC l1 h1;rw [rep_int h2];obtain ⟨u,e2,h3⟩:=Kk hx e;exact .inl (WL ha' e2 (k _ _ (AU.old h3)))
 ·obtain ⟨a,us,rfl,ha,hx,ha'⟩:=Dz l1 h1;rw [rep_int h2];obtain ⟨u,e2,h3⟩:=Kk hx e;exact .inl (.inr (.inl ⟨a,us,_,u,rfl,rfl,ha,e2,k _ _ (AU.old h3)⟩))
 ·rename_i ns i;obtain ⟨a,rfl,ha⟩:=Kh h1;rw [rep_int h2];cases q:Dx ns i with
  | none=>rw [q] at e;cases e
  | some j =>
   rw [q] at e;cases e;exact .inl (aE ha (by rw [atI_map,q];rfl) (k _ _ (AU.int _)))
 ·rename_i l i;split at e
  ·rename_i hl;rw [rep_str h1,rep_int h2];cases q:Dx l i with
   | none=>rw [q] at e;cases e
   | some c =>
    rw [q] at e;cases e;exact .inl (WK (by rw [BH];exact hl) (by rw [GN];exact q) (k _ _ (AU.str [c])))
  ·cases e
 ·obtain ⟨kk,ek,e⟩:=bind_some' e;obtain ⟨a,us,rfl,ha,hl,hx⟩:=XX h1;obtain ⟨u,e2,h3⟩:=Lj hx e;rw [Jp h2 ek];exact .inr ⟨a,u,rfl,e2▸IM.k ha,k _ _ (AU.old h3)⟩
 ·cases e
def Hn (x:Dv) (lo hi:Option Int):Option Dv:=match x with
 | .str l=>if l.length<=1000000 then some (.str (Xd l lo hi)) else none
 | .lst xs=>some (.lst (cutA xs lo hi))
 | .tup xs=>some (.tup (cutA xs lo hi))
 | .scr ns=>some (.lst ((cutA ns lo hi).map .int))
 | _=>none
theorem fH (lo hi:Option Int):AF K (one fun d=>Hn d lo hi) 1 (gy fun x H Q=>Pu K x lo hi H Q):=Cy fun g H x v o1 P d Q zd l1 h1 e k=>by
 show Pu K v lo hi H Q;cases x with
 | str l =>
  simp only [Hn.eq_def] at e;split at e
  ·rename_i hl;cases e;rw [rep_str h1];refine Vx (by rw [BH];exact hl) ?_;rw [Rj];exact k _ _ (AU.str _)
  ·cases e
 | lst xs =>
  cases e;obtain ⟨a,us,rfl,ha,hx,ha'⟩:=EC l1 h1;exact Vy ha' fun p hp=>k _ _ (AU.lst zd (FP lo hi hx) hp)
 | tup xs =>
  cases e;obtain ⟨a,us,rfl,ha,hx,ha'⟩:=Dz l1 h1;have al:=FP lo hi hx
  by_cases w:HT.sIx us.length 0 lo=0/\HT.sIx us.length us.length hi=us.length
  ·refine .inr ⟨a,us,rfl,ha,w,k _ _ (AU.old ?_)⟩;have ec:Ek us lo hi=us:=by unfold Ek;rw [w.1,w.2];simp
   rw [ec] at al;exact Dp (kj 1) ha' al
  ·exact .inl (.inr (.inr ⟨a,us,rfl,ha,w,fun p hp=>k _ _ (AU.tup (kj 1) hp al)⟩))
 | scr ns =>
  cases e;obtain ⟨a,rfl,ha⟩:=Kh h1;refine Zp ha fun p hp=>k _ _ (AU.lst zd ?_ hp)
  rw [map_cut];exact FP lo hi (EJ ns)
 | _=>cases e
end
mutual
noncomputable def toD:Dv->L3.D
 | .bl b=>.fl (.bl b)
 | .int i=>.fl (.int i)
 | .str l=>.fl (.str (tx l))
 | .tup xs=>.tup (toDs xs)
 | .lst xs=>.lst (toDs xs)
 | _=>.fl .non
noncomputable def toDs:List Dv->List L3.D
 | []=>[]
 | d::ds=>toD d::toDs ds
end
mutual
noncomputable def Dv.cmp:Dv->Bool
 | .non | .bl _ | .int _ | .str _=>true
 | .tup xs=>Ap xs
 | .lst xs=>Ap xs
 | _=>false
noncomputable def Ap:List Dv->Bool
 | []=>true
 | d::ds=>d.cmp && Ap ds
end
mutual
noncomputable def Dv.dep:Dv->Nat
 | .tup xs=>Bj xs+1
 | .lst xs=>Bj xs+1
 | _=>0
noncomputable def Bj:List Dv->Nat
 | []=>0
 | d::ds=>max d.dep (Bj ds)
end
mutual
noncomputable def eqV:Dv->Dv->Bool
 | .non,.non=>true
 | .bl a,.bl b=>a == b
 | .bl a,.int b=>(if a then 1 else 0) == b
 | .int a,.bl b=>a == (if b then 1 else 0)
 | .int a,.int b=>a == b
 | .str a,.str b=>a == b
 | .tup xs,.tup ys=>eqVs xs ys
 | .lst xs,.lst ys=>eqVs xs ys
 | _,_=>false
noncomputable def eqVs:List Dv->List Dv->Bool
 | [],[]=>true
 | x::xs,y::ys=>eqV x y && eqVs xs ys
 | _,_=>false
end
mutual
theorem Le:∀ (d e:Dv),d.cmp=true->e.cmp=true->L3.eqD (toD d) (toD e)=eqV d e
 | .non,e,h,k | .bl _,e,h,k | .int _,e,h,k=>by cases e<;>first | (unfold toD L3.eqD eqV;rfl) | (unfold Dv.cmp at k;cases k)
 | .str l,e,h,k=>by
  cases e with
  | str m=>unfold toD L3.eqD eqV;rw [L2.eqV_str];exact (ma l m).symm
  | _=>first | (unfold toD L3.eqD eqV;rfl) | (unfold Dv.cmp at k;cases k)
 | .tup xs,e,h,k=>by
  cases e with
  | tup ys=>unfold toD L3.eqD eqV;unfold Dv.cmp at h k;exact NT xs ys h k
  | _=>first | (unfold toD L3.eqD eqV;rfl) | (unfold Dv.cmp at k;cases k)
 | .lst xs,e,h,k=>by
  cases e with
  | lst ys=>unfold toD L3.eqD eqV;unfold Dv.cmp at h k;exact NT xs ys h k
  | _=>first | (unfold toD L3.eqD eqV;rfl) | (unfold Dv.cmp at k;cases k)
 | .dct _ _,e,h,k | .ref _,e,h,k | .scr _,e,h,k | .ty _,e,h,k | .mtp _,e,h,k | .dti _,e,h,k=>by unfold Dv.cmp at h;cases h
theorem NT:∀ (d e:List Dv),Ap d=true->Ap e=true->L3.eqDs (toDs d) (toDs e)=eqVs d e
 | [],[],_,_=>by unfold toDs L3.eqDs eqVs;rfl
 | [],_::_,_,_=>by simp only [toDs,L3.eqDs,eqVs]
 | _::_,[],_,_=>by simp only [toDs,L3.eqDs,eqVs]
 | x::xs,y::ys,h,k=>by
  unfold Ap at h k;rw [kX] at h k;simp only [toDs,L3.eqDs,eqVs];rw [Le x y h.1 k.1,NT xs ys h.2 k.2]
end
mutual
theorem dep_D:∀ (d:Dv),(toD d).dep=d.dep
 | .non | .bl _ | .int _ | .str _ | .dct _ _ | .ref _ | .scr _ | .ty _ | .mtp _ | .dti _=>by unfold toD L3.D.dep Dv.dep;rfl
 | .tup xs=>by unfold toD L3.D.dep Dv.dep;rw [deps_D xs]
 | .lst xs=>by unfold toD L3.D.dep Dv.dep;rw [deps_D xs]
theorem deps_D:∀ (d:List Dv),L3.depL (toDs d)=Bj d
 | []=>by unfold toDs L3.depL Bj;rfl
 | x::xs=>by simp only [toDs,L3.depL,Bj];rw [dep_D x,deps_D xs]
end
section
variable {K:W.Frag} {g:G} {H:Hp}
mutual
theorem Rep.is:∀ {o:Nat} {d:Dv} {v:V} {P:Fp},Rep K g H o d v P->d.cmp=true->L3.Is K H v (toD d)
 | _,.non,v,P,h,_=>by rw [rep_non h];unfold toD L3.Is;exact ⟨rfl,rfl⟩
 | _,.bl b,v,P,h,_=>by rw [rep_bl h];unfold toD L3.Is;exact ⟨rfl,rfl⟩
 | _,.int i,v,P,h,_=>by rw [rep_int h];unfold toD L3.Is;exact ⟨rfl,rfl⟩
 | _,.str l,v,P,h,_=>by rw [rep_str h];unfold toD L3.Is;exact ⟨rfl,rfl⟩
 | _,.tup xs,v,P,h,c=>by
  unfold Rep at h;obtain ⟨a,vs,rfl,h1,h2⟩:=h;unfold Dv.cmp at c;unfold toD L3.Is;exact ⟨a,vs,rfl,.inl (.inl h1),Reps.isL h2 c⟩
 | _,.lst xs,v,P,h,c=>by
  unfold Rep at h;obtain ⟨a,vs,P',rfl,h1,h2,_⟩:=h;unfold Dv.cmp at c;unfold toD L3.Is;exact ⟨a,vs,rfl,.inl (.inl h1.1),Reps.isL h2 c⟩
 | _,.dct _ _,v,P,h,c | _,.ref _,v,P,h,c | _,.scr _,v,P,h,c | _,.ty _,v,P,h,c | _,.mtp _,v,P,h,c | _,.dti _,v,P,h,c=>by unfold Dv.cmp at c;cases c
theorem Reps.isL:∀ {o:Nat} {d:List Dv} {v:List V} {P:Fp},Reps K g H o d v P->Ap d=true->L3.IsL K H v (toDs d)
 | _,[],v,P,h,_=>by
  unfold Reps at h;obtain ⟨rfl,_⟩:=h;unfold toDs L3.IsL
  trivial
 | _,x::xs,v,P,h,c=>by
  unfold Reps at h;obtain ⟨u,r,P1,P2,rfl,h1,h2,_⟩:=h;unfold Ap at c;rw [kX] at c;unfold toDs L3.IsL;exact ⟨Rep.is h1 c.1,Reps.isL h2 c.2⟩
end
def KH (neg:Bool) (x y:Dv):Option Bool:=if (x.cmp && y.cmp && decide (x.dep<=150))=true then some (if neg then !eqV x y else eqV x y) else none
abbrev PN:=KH false
abbrev RY:=KH true
theorem Sx {neg:Bool}:AF K (fun ds=>(two (KH neg) ds).map .bl) 0 (IL (L3.rEqA K neg)):=Dr fun g H x y v w o1 o2 P R b Q zd _ h1 _ h2 e k=>by
 unfold KH at e;split at e
 ·rename_i c;cases e;rw [kX,kX,decide_eq_true_eq] at c;refine ⟨toD x,toD y,by rw [dep_D];exact c.2,h1.is c.1.1,h2.is c.1.2,?_⟩;rw [Le x y c.1.1 c.1.2];exact k
 ·cases e
noncomputable def dF:Dv->Option (List Dv)
 | .lst xs=>some xs
 | .tup xs=>some xs
 | .mtp ls=>some (ls.map .str)
 | _=>none
def FU (e:Dv) (ds:List Dv):Bool:=ds.any fun d=>eqV d e
def GJ (neg:Bool) (e s:Dv):Option Bool:=match e,s with
 | .str x,.str l=>some (if neg then !Q.sub1 x l else Q.sub1 x l)
 | e,.dct ks ds=>(Oa e).bind fun k=>some (if neg then !(Ll k ks ds).isSome else (Ll k ks ds).isSome)
 | e,s=>match dF s with
  | some xs=>if (e.cmp && Ap xs && decide (Bj xs<=150))=true then some (if neg then !FU e xs else FU e xs) else none
  | none=>none
abbrev dJ:=GJ false
abbrev He:=GJ true
theorem anyD (e:Dv) (he:e.cmp=true):∀ (ds:List Dv),Ap ds=true->((toDs ds).any fun d=>L3.eqD d (toD e))=FU e ds
 | [],_=>by unfold toDs FU;rfl
 | d::ds,h=>by
  unfold Ap at h;rw [kX] at h;unfold FU;simp only [toDs,mI];rw [Le d e h.1 he,anyD e he ds h.2];rfl
theorem Gu (ls:List (List Nat)):Reps K g H 0 (ls.map .str) (ls.map fun l=>V.str (tx l)) nop:=Eb.mpr ⟨by simp,fun i d v e1 e2=>by
 rw [kn] at e1 e2;cases q:ls[i]? with
 | none=>rw [q] at e1;cases e1
 | some k=>rw [q] at e1 e2;cases e1;cases e2;unfold Rep;exact ⟨rfl,fun _ z=>z⟩⟩
theorem Sw {neg:Bool}:AF K (fun ds=>(two (GJ neg) ds).map .bl) 0 (IL fun x y H q=>Q.rInQ K neg x y H q\/aH neg x y H q):=Dr fun g H x y v w o1 o2 P R b Q zd l1 h1 l2 h2 e k=>by
  unfold GJ at e;split at e
  · cases e;rw [rep_str h1,rep_str h2];exact .inl (.inl ⟨_,_,rfl,rfl,k⟩)
  · obtain ⟨kk,ek,e⟩:=bind_some' e;cases e;obtain ⟨a,us,rfl,ha,hl,hx⟩:=XX h2;rw [Jp h1 ek];refine .inr ⟨a,_,rfl,IM.k ha,?_⟩;rw [JG hl hx.len];exact k
  · rename_i a s _;split at e
    · rename_i xs es;split at e
      · rename_i c;cases e;rw [kX,kX,decide_eq_true_eq] at c;have go:∀ p ys,w=.ref p->(CZ K H p ys\/DG K H p ys)->Reps K g H 0 xs ys nop->L3.rInA K neg v w H Q:=by
          rintro p ys rfl hs hr;refine ⟨p,ys,toDs xs,toD x,rfl,hs,hr.isL c.1.2,h1.is c.1.1,by rw [deps_D];exact c.2,?_⟩;rw [anyD x c.1.1 xs c.1.2];exact k
        cases y with
        | lst ys =>
          cases es;obtain ⟨p,us,rfl,ha,hx,_⟩:=EC l2 h2;exact .inl (.inr (go p us rfl (.inl ha) hx))
        | tup ys =>
          cases es;obtain ⟨p,us,rfl,ha,hx,_⟩:=Dz l2 h2;exact .inl (.inr (go p us rfl (.inr ha) hx))
        | mtp ls =>
          cases es;unfold Rep at h2;obtain ⟨⟨p,rfl,hm⟩,_⟩:=h2;exact .inl (.inr (go p _ rfl (.inr (.inr hm)) (Gu ls)))
        | _=>cases es
      · cases e
    · cases e
noncomputable def Dv.isNon:Dv->Bool
 | .non=>true
 | _=>false
noncomputable def Nh (x y:Dv):Option Bool:=match y with | .non=>some x.isNon | _=>none
theorem rep_isNon {o:Nat} {d:Dv} {v:V} {P:Fp} (h:Rep K g H o d v P):decide (v=V.non)=d.isNon:=by
 cases d with
 | non=>rw [rep_non h];rfl
 | bl b=>rw [rep_bl h];rfl
 | int b=>rw [rep_int h];rfl
 | str b=>rw [rep_str h];rfl
 | tup b=>unfold Rep at h;obtain ⟨a,vs,rfl,_⟩:=h;rfl
 | lst b=>unfold Rep at h;obtain ⟨a,vs,P',rfl,_⟩:=h;rfl
 | dct b c=>unfold Rep at h;obtain ⟨a,vs,rfl,_⟩:=h;rfl
 | ref k=>unfold Rep at h;obtain ⟨⟨a,_,rfl⟩,_⟩:=h;rfl
 | scr ns=>obtain ⟨a,rfl,_⟩:=Kh h;rfl
 | ty n=>unfold Rep at h;rw [h.1];rfl
 | mtp n=>unfold Rep at h;obtain ⟨⟨a,rfl,_⟩,_⟩:=h;rfl
 | dti n=>unfold Rep at h;obtain ⟨a,rfl,_⟩:=h;rfl
theorem aT:AF K (fun ds=>(two Nh ds).map .bl) 0 (IL (fun x y H Q=>y=.non/\Q (.bl (decide (x=.non))) H)):=Dr fun g H x y v w o1 o2 P R b Q zd _ h1 _ h2 e k=>by
 unfold Nh at e;split at e
 ·cases e;exact ⟨rep_non h2,by rw [rep_isNon h1];exact k⟩
 ·cases e
end
noncomputable def Ho:List Dv->Option (List Bool)
 | []=>some []
 | .bl b::ds=>(Ho ds).map (b::·)
 | _=>none
noncomputable def DK:List Dv->Option (List Int)
 | []=>some []
 | .int b::ds=>(DK ds).map (b::·)
 | _=>none
noncomputable def IU:List Dv->Option (List (List Nat))
 | []=>some []
 | .str b::ds=>(IU ds).map (b::·)
 | _=>none
section
variable {K:W.Frag} {g:G} {H:Hp}
theorem KS:∀ {ds:List Dv} {bs:List Bool} {vs:List V},Reps K g H 0 ds vs nop->Ho ds=some bs->vs=bs.map V.bl
 | [],bs,vs,h,e=>by cases e;exact BE h
 | d::ds,bs,vs,h,e=>by
  obtain ⟨v,r,rfl,h1,h2⟩:=Au h;cases d<;>simp only [Ho,lH,reduceCtorEq] at e;obtain ⟨bs',e,rfl⟩:=e;rw [rep_bl h1,KS h2 e];rfl
theorem Di:∀ {ds:List Dv} {bs:List Int} {vs:List V},Reps K g H 0 ds vs nop->DK ds=some bs->vs=bs.map V.int
 | [],bs,vs,h,e=>by cases e;exact BE h
 | d::ds,bs,vs,h,e=>by
  obtain ⟨v,r,rfl,h1,h2⟩:=Au h;cases d<;>simp only [DK,lH,reduceCtorEq] at e;obtain ⟨bs',e,rfl⟩:=e;rw [rep_int h1,Di h2 e];rfl
theorem IS:∀ {ds:List Dv} {bs:List (List Nat)} {vs:List V},Reps K g H 0 ds vs nop->IU ds=some bs->vs=(bs.map tx).map V.str
 | [],bs,vs,h,e=>by cases e;exact BE h
 | d::ds,bs,vs,h,e=>by
  obtain ⟨v,r,rfl,h1,h2⟩:=Au h;cases d<;>simp only [IU,lH,reduceCtorEq] at e;obtain ⟨bs',e,rfl⟩:=e;rw [rep_str h1,IS h2 e];rfl
def EN (x:Dv):Option Dv:=match x with | .lst xs=>(Ho xs).map fun bs=>.bl (bs.all id) | _=>none
theorem aV {o:Nat}:AF K (one EN) o (fC K):=Cy fun g H x v o1 P d Q zd l1 h1 e k=>by
 unfold EN at e;split at e
 ·simp only [lH] at e;obtain ⟨bs,e,rfl⟩:=e;obtain ⟨p,us,rfl,ha,hx,_⟩:=EC l1 h1;rw [KS hx e] at ha;exact ⟨p,bs,rfl,ha,k _ _ (AU.bl _)⟩
 ·cases e
def kW (x:Dv):Option Dv:=match x with
 | .lst xs=>(DK xs).map fun ns=>.int ns.sum
 | .tup xs=>(DK xs).map fun ns=>.int ns.sum
 | _=>none
def JS (x:Dv):Option Dv:=match x with
 | .lst xs=>match DK xs with | some (n::ns)=>some (.int (Q.mxI (n::ns))) | _=>none
 | _=>none
theorem WW {o:Nat}:AF K (one JS) o (Yj K):=Cy fun g H x v o1 P d Q zd l1 h1 e k=>by
 unfold JS at e;split at e
 ·split at e
  ·rename_i n ns e1;cases e;obtain ⟨p,us,rfl,ha,hx,_⟩:=EC l1 h1;rw [Di hx e1] at ha;refine ⟨p,n::ns,rfl,ha,by simp,fun M hM hall=>?_⟩;obtain ⟨m1,m2⟩:=_root_.Q.mxI_spec (n::ns) (by simp);have:M=_root_.Q.mxI (n::ns):=Int.le_antisymm (m2 M hM) (hall _ m1);rw [this];exact k _ _ (AU.int _)
  ·cases e
 ·cases e
def kG (x y:Dv):Option Dv:=match x with
 | .lst xs=>match y with
  | .int d=>match DK xs with | some []=>some (.int d) | some (n::ns)=>some (.int (Q.mxI (n::ns))) | none=>none
  | _=>none
 | _=>none
noncomputable def MI (x y:Dv):Option Dv:=match x,y with | .int i,.int j=>some (.int (if j > i then j else i)) | _,_=>none
noncomputable def Hi (x y:Dv):Option Dv:=match x,y with | .int i,.int j=>some (.int (if j < i then j else i)) | _,_=>none
theorem Cw {f:Dv->Dv->Option Dv} {o:Nat} {r:Np} (h:∀ g H x y v w o1 o2 P R d Q,Zd g H->o1<=1->Rep K g H o1 x v P->o2<=1->Rep K g H o2 y w R->f x y=some d->(∀ v H',AU K g H o d v H'->Q v H')->r [v,w] H Q):AF K (two f) o r:=fun g H ds vs d Q zd ra e k=>by
 obtain ⟨x,y,rfl,e⟩:=ES e;obtain ⟨v,o1,P,w,o2,R,rfl,h1,h2,h3,h4⟩:=ra.two;exact h g H x y v w o1 o2 P R d Q zd h1 h2 h3 h4 e k
theorem WX {o:Nat}:AF K (two MI) o (fun xs H Q=>∃ i j,xs=[.int i,.int j]/\Q (.int (if j > i then j else i)) H):=Cw fun g H x y v w o1 o2 P R d Q zd _ h1 _ h2 e k=>by
 unfold MI at e;split at e
 ·cases e;rw [rep_int h1,rep_int h2];exact ⟨_,_,rfl,k _ _ (AU.int _)⟩
 ·cases e
theorem WV {o:Nat}:AF K (two Hi) o (fun xs H Q=>∃ i j,xs=[.int i,.int j]/\Q (.int (if j < i then j else i)) H):=Cw fun g H x y v w o1 o2 P R d Q zd _ h1 _ h2 e k=>by
 unfold Hi at e;split at e
 ·cases e;rw [rep_int h1,rep_int h2];exact ⟨_,_,rfl,k _ _ (AU.int _)⟩
 ·cases e
noncomputable def Hj (x:Dv):Option Dv:=match x with
 | .int i=>some (.int i)
 | .bl b=>some (.int (if b then 1 else 0))
 | .str l=>if (l.all (fun c=>decide (48<=c) && decide (c<=57)) && !l.isEmpty && decide (l.length<=600))=true then some (.int ((NumText.digitsVal l:Nat):Int)) else none
 | _=>none
theorem Wa {o:Nat}:AF K (one Hj) o (fun xs H Q=>((∃ i,xs=[.int i]/\Q (.int i) H)\/∃ k,xs=[.bl k]/\Q (.int (if k then 1 else 0)) H)\/Yn xs H Q):=Cy fun g H x v o1 P d Q zd l1 h1 e k=>by
 unfold Hj at e;split at e
 ·cases e;rw [rep_int h1];exact .inl (.inl ⟨_,rfl,k _ _ (AU.int _)⟩)
 ·cases e;rw [rep_bl h1];exact .inl (.inr ⟨_,rfl,k _ _ (AU.int _)⟩)
 ·split at e
  ·rename_i c;cases e;simp only [kX,lO,decide_eq_true_eq,mJ,List.isEmpty_eq_false_iff] at c;rw [rep_str h1];exact .inr ⟨_,rfl,c.1.1,c.1.2,c.2,k _ _ (AU.int _)⟩
  ·cases e
 ·cases e
def CP (x:Dv):Option Dv:=match x with | .int i=>if i.natAbs < 2 ^ 64 then some (.str (Q.figs i)) else none | _=>none
theorem WU {o:Nat}:AF K (one CP) o (fun xs H Q=>∃ i,xs=[.int i]/\i.natAbs.log2 < 1920/\Q (.str (toString i)) H):=Cy fun g H x v o1 P d Q zd l1 h1 e k=>by
 unfold CP at e;split at e
 ·rename_i i;split at e
  ·rename_i hi;cases e;rw [rep_int h1];refine ⟨i,rfl,?_,?_⟩
   ·by_cases h0:i.natAbs=0
    ·rw [h0];decide
    ·exact Nat.lt_trans ((Nat.log2_lt h0).mpr hi) (by decide)
   ·have:=AU.str (K:=K) (g:=g) (H:=H) (o:=o) (_root_.Q.figs i);unfold _root_.Q.figs at this;rw [<- Nz] at this;exact k _ _ this
  ·cases e
 ·cases e
noncomputable def AX (x:Dv):Option Dv:=match x with | .lst xs=>some (.tup xs) | .tup xs=>some (.tup xs) | _=>none
theorem Sr:AF K (one AX) 1 (Kn K):=Cy fun g H x v o1 P d Q zd l1 h1 e k=>by
 unfold AX at e;split at e
 ·cases e;obtain ⟨p,us,rfl,ha,hx,_⟩:=EC l1 h1;exact ⟨p,us,rfl,.inl ⟨ha,fun l hl=>k _ _ (AU.tup (kj 1) hl hx)⟩⟩
 ·cases e;obtain ⟨p,us,rfl,ha,hx,ha'⟩:=Dz l1 h1;exact ⟨p,us,rfl,.inr ⟨ha,k _ _ (AU.old (Dp (kj 1) ha' hx))⟩⟩
 ·cases e
noncomputable def EF (x:Dv):Option Dv:=match x with | .lst xs=>some (.lst xs) | .tup xs=>some (.lst xs) | .scr ns=>some (.lst (ns.map .int)) | _=>none
theorem WY:AF K (one EF) 1 (OK K):=Cy fun g H x v o1 P d Q zd l1 h1 e k=>by
 unfold EF at e;split at e
 ·cases e;obtain ⟨p,us,rfl,ha,hx,_⟩:=EC l1 h1;exact ⟨p,us,rfl,.inl ha,fun l hl=>k _ _ (AU.lst zd hx hl)⟩
 ·cases e;obtain ⟨p,us,rfl,ha,hx,_⟩:=Dz l1 h1;exact ⟨p,us,rfl,.inr ha,fun l hl=>k _ _ (AU.lst zd hx hl)⟩
 ·cases e;obtain ⟨p,rfl,ha⟩:=Kh h1;exact ⟨p,_,rfl,.inl ha,fun l hl=>k _ _ (AU.lst zd (EJ _) hl)⟩
 ·cases e
def Bq (x y:Dv):Option Dv:=match x,y with
 | .str sep,.lst xs=>match IU xs with
  | some ys=>if (ys.map List.length).sum+ys.length * sep.length<=1000000 then some (.str (jn sep ys)) else none
  | none=>none
 | _,_=>none
theorem WZ {o:Nat}:AF K (two Bq) o (ZX (Sj K)):=Cw fun g H x y v w o1 o2 P R d Q zd l1 h1 l2 h2 e k=>by
 unfold Bq at e;split at e
 ·split at e
  ·rename_i sep xs _ ys e1;split at e
   ·rename_i hz;cases e;obtain ⟨a,us,rfl,ha,hx,_⟩:=EC l2 h2;rw [rep_str h1];rw [IS hx e1] at ha;refine ⟨tx sep,a,ys.map tx,rfl,rfl,ha,?_,?_⟩
    ·rw [Zf,kb,BH];exact lI hz (by decide)
    ·rw [YU];exact k _ _ (AU.str _)
   ·cases e
  ·cases e
 ·cases e
noncomputable def Fk (x:Dv):Option Dv:=match x with
 | .str l=>if (l.all (fun c=>decide (c < 128)) && decide (l.length<=1000000))=true then some (.str (l.map PyProof.Rows.up1)) else none
 | _=>none
theorem Sq {o:Nat}:AF K (one Fk) o (ZX Sf):=Cy fun g H x v o1 P d Q zd l1 h1 e k=>by
 unfold Fk at e;split at e
 ·split at e
  ·rename_i l c;cases e;rw [kX,decide_eq_true_eq,lO] at c;rw [rep_str h1];exact ⟨l,rfl,rfl,fun x hx=>of_decide_eq_true (c.1 x hx),c.2,k _ _ (AU.str _)⟩
  ·cases e
 ·cases e
def Hx (e:Dv):List Dv->Option Nat
 | []=>none
 | d::ds=>if eqV d e=true then some 0 else (Hx e ds).map (·+1)
theorem Iz (e:Dv):∀ (ds:List Dv) (j:Nat),Hx e ds=some j->(∃ d,ds[j]?=some d/\eqV d e=true)/\∀ (i:Nat) (d:Dv),i < j->ds[i]?=some d->eqV d e=false
 | [],j,h=>by cases h
 | d::ds,j,h=>by
  unfold Hx at h;split at h
  ·rename_i c;cases h;exact ⟨⟨d,rfl,c⟩,fun i d hi=>by omega⟩
  ·rename_i c;simp only [lH] at h;obtain ⟨k,hk,rfl⟩:=h;obtain ⟨h1,h2⟩:=Iz e ds k hk;refine ⟨by simpa using h1,fun i d' hi hd=>?_⟩;cases i with
   | zero=>simp at hd;subst hd;simpa using c
   | succ i=>exact h2 i d' (by omega) (by simpa using hd)
theorem toDs_get:∀ (ds:List Dv) (i:Nat),(toDs ds)[i]?=(ds[i]?).map toD
 | [],i=>by unfold toDs;simp
 | d::ds,0=>by unfold toDs;simp
 | d::ds,i+1=>by
  have:=toDs_get ds i;simp only [toDs,mX];exact this
theorem IV {ds:List Dv} (h:Ap ds=true):∀ {i:Nat} {d:Dv},ds[i]?=some d->d.cmp=true:=by
 induction ds with
 | nil=>intro i d e;simp at e
 | cons x xs ih =>
  unfold Ap at h;rw [kX] at h;intro i d e;cases i with
  | zero=>simp at e;subst e;exact h.1
  | succ i=>exact ih h.2 (i:=i) (by simpa using e)
theorem Tp {e:Dv} {ds:List Dv} {j:Nat} (he:e.cmp=true) (hd:Ap ds=true) (h:Hx e ds=some j) :
    (∃ d,(toDs ds)[j]?=some d/\L3.eqD d (toD e)=true)/\∀ (m:Nat) (d:L3.D),m < j->(toDs ds)[m]?=some d->L3.eqD d (toD e)=false:=by
  obtain ⟨⟨d,h1,h2⟩,h3⟩:=Iz e ds j h;refine ⟨⟨toD d,by rw [toDs_get,h1];rfl,by rw [Le d e (IV hd h1) he];exact h2⟩,fun m d' hm hd'=>?_⟩;rw [toDs_get] at hd';cases q:ds[m]? with
  | none=>rw [q] at hd';cases hd'
  | some dm =>
    rw [q] at hd';cases hd';rw [Le dm e (IV hd q) he];exact h3 m dm hm q
def Fo (x e:Dv):Option Dv:=match x with
 | .lst xs=>if (e.cmp && Ap xs && decide (Bj xs<=150))=true then (Hx e xs).map fun j=>.int (j:Nat) else none
 | _=>none
theorem Sv {o:Nat}:AF K (two Fo) o (ZX (Q.rIndexD K)):=Cw fun g H x y v w o1 o2 P R d Q zd l1 h1 l2 h2 e k=>by
 unfold Fo at e;split at e
 ·split at e
  ·rename_i xs c;rw [kX,kX,decide_eq_true_eq] at c;simp only [lH] at e;obtain ⟨j,e1,rfl⟩:=e;obtain ⟨p,us,rfl,ha,hx,_⟩:=EC l1 h1;obtain ⟨q1,q2⟩:=Tp c.1.1 c.1.2 e1;exact ⟨p,us,w,toDs xs,toD y,j,rfl,rfl,ha,hx.isL c.1.2,h2.is c.1.1,by rw [deps_D];exact c.2,q1,q2,k _ _ (AU.int _)⟩
  ·cases e
 ·cases e
def GW (x e:Dv):Option Dv:=match x with
 | .tup xs=>if (e.cmp && Ap xs && decide (Bj xs<=150))=true then (Hx e xs).map fun j=>.int (j:Nat) else none
 | _=>none
theorem Pz {o:Nat}:AF K (two GW) o (ZX (Q.rIndexTD K)):=Cw fun g H x y v w o1 o2 P R d Q zd l1 h1 l2 h2 e k=>by
 unfold GW at e;split at e
 ·split at e
  ·rename_i xs c;rw [kX,kX,decide_eq_true_eq] at c;simp only [lH] at e;obtain ⟨j,e1,rfl⟩:=e;obtain ⟨p,us,rfl,_,hx,ha⟩:=Dz l1 h1;obtain ⟨q1,q2⟩:=Tp c.1.1 c.1.2 e1;exact ⟨p,us,w,toDs xs,toD y,j,rfl,rfl,ha,hx.isL c.1.2,h2.is c.1.1,by rw [deps_D];exact c.2,q1,q2,k _ _ (AU.int _)⟩
  ·cases e
 ·cases e
noncomputable def Ti:Dv->Option String
 | .non=>some "NoneType"
 | .bl _=>some "bool"
 | .int _=>some "int"
 | .str _=>some "str"
 | .tup _=>some "tuple"
 | .lst _=>some "list"
 | _=>none
noncomputable def hV:List Dv->Option (List String)
 | []=>some []
 | .ty T::xs=>(hV xs).map (T::·)
 | _=>none
noncomputable def TR (T:String):Bool:=["int", "bool", "str", "tuple", "list"].contains T
def Fm (x y:Dv):Option Dv:=match y with
 | .ty T=>if TR T=true then (Ti x).map fun k=>.bl (Q.isSub k T) else none
 | .tup ts=>(hV ts).bind fun Ts=>if Ts.all TR=true then (Ti x).map fun k=>.bl (Ts.any (Q.isSub k)) else none
 | _=>none
theorem OY (K:W.Frag) {k:String} (hk:k∈["NoneType", "bool", "int", "str", "tuple", "list"]):∀ {Ts:List String},Ts.all TR=true->W.kitAny K (.type k) (Ts.map Value.type)=some (Ts.any (_root_.Q.isSub k))
 | [],_=>rfl
 | T::Ts,h=>by
  rw [lp,kX] at h
  have hT:T∈["int", "bool", "str", "tuple", "list"]:=by have:=h.1;unfold TR at this;simpa using this
  rw [ko];unfold W.kitAny;rw [_root_.Q.kit_ok K hk hT,mI];cases _root_.Q.isSub k T with
  | true=>rfl
  | false=>exact OY K hk h.2
theorem Ny:∀ {ts:List Dv} {Ts:List String} {us:List V} {P:Fp},Reps K g H 0 ts us P->hV ts=some Ts->us=Ts.map V.ty
 | [],Ts,us,P,h,e=>by cases e;unfold Reps at h;exact h.1
 | .ty T::ts,Ts,us,P,h,e=>by
  unfold hV at e;rw [lH] at e;obtain ⟨Ts',e1,rfl⟩:=e;unfold Reps at h;obtain ⟨v,vs,R,S,rfl,h1,h2,_⟩:=h;rw [Ny h2 e1];unfold Rep at h1;rw [h1.1];rfl
 | .non::_,_,_,_,_,e | .bl _::_,_,_,_,_,e | .int _::_,_,_,_,_,e | .str _::_,_,_,_,_,e | .tup _::_,_,_,_,_,e | .lst _::_,_,_,_,_,e | .dct _ _::_,_,_,_,_,e | .ref _::_,_,_,_,_,e | .scr _::_,_,_,_,_,e | .mtp _::_,_,_,_,_,e | .dti _::_,_,_,_,_,e=>by cases e
theorem OZ {o:Nat} {x:Dv} {v:V} {P:Fp} {kd:String} (l1:o<=1) (h1:Rep K g H o x v P) (e:Ti x=some kd):TyOf K H v (.type kd)/\kd∈["NoneType", "bool", "int", "str", "tuple", "list"]:=by
 cases x with
 | non=>cases e;rw [rep_non h1];exact ⟨.non,by simp⟩
 | bl b=>cases e;rw [rep_bl h1];exact ⟨.bl _,by simp⟩
 | int b=>cases e;rw [rep_int h1];exact ⟨.int _,by simp⟩
 | str b=>cases e;rw [rep_str h1];exact ⟨.str _,by simp⟩
 | tup b=>cases e;obtain ⟨p,us,rfl,_,_,ha⟩:=Dz l1 h1;exact ⟨.tup ha,by simp⟩
 | lst b=>cases e;obtain ⟨p,us,rfl,_,_,ha⟩:=EC l1 h1;exact ⟨.lst ha,by simp⟩
 | _=>cases e
theorem aS {o:Nat}:AF K (two Fm) o (fun xs H Q=>fA K xs H Q\/Ym K xs H Q):=Cw fun g H x y v w o1 o2 P R d Q zd l1 h1 l2 h2 e k=>by
 unfold Fm at e;split at e
 ·rename_i T;split at e
  ·rename_i c
   have hT:T∈["int", "bool", "str", "tuple", "list"]:=by unfold TR at c;simpa using c
   have hw:w=.ty T:=by unfold Rep at h2;exact h2.1
   subst hw;rw [lH] at e;obtain ⟨kd,e1,rfl⟩:=e;obtain ⟨ty,hk⟩:=OZ l1 h1 e1;exact .inl ⟨v,T,.type kd,_,rfl,ty,_root_.Q.kit_ok K hk hT,k _ _ (AU.bl _)⟩
  ·cases e
 ·rename_i ts;obtain ⟨Ts,e0,e⟩:=mG.mp e;split at e
  ·rename_i c;rw [lH] at e;obtain ⟨kd,e1,rfl⟩:=e;obtain ⟨ty,hk⟩:=OZ l1 h1 e1;obtain ⟨p,us,rfl,ha,hx,_⟩:=Dz l2 h2;rw [Ny hx e0] at ha;refine .inr ⟨v,p,Ts,.type kd,_,rfl,ha,ty,⟨kd,rfl,?_,?_⟩,OY K hk c,k _ _ (AU.bl _)⟩
   ·rintro rfl;simp at hk
   ·rintro rfl;simp at hk
  ·cases e
 ·cases e
def XD (f:List Int->List Int->Bool) (xs:List Dv) (y:Dv):Option Bool:=match y with
 | .tup ys=>(DK xs).bind fun a=>(DK ys).map fun b=>f a b
 | _=>none
theorem LM {f:List Int->List Int->Bool} {xs:List Dv} {y:Dv} {v w:V} {o1 o2:Nat} {P R:Fp} {b:Bool} (l1:o1<=1) (h1:Rep K g H o1 (.tup xs) v P) (l2:o2<=1) (h2:Rep K g H o2 y w R) (e:XD f xs y=some b):∃ p q ns ms,v=.ref p/\w=.ref q/\DG K H p (ns.map V.int)/\DG K H q (ms.map V.int)/\b=f ns ms:=by
 unfold XD at e;split at e
 ·obtain ⟨ns,e1,e⟩:=mG.mp e;rw [lH] at e;obtain ⟨ms,e2,rfl⟩:=e;obtain ⟨p,us,rfl,ha,hx,_⟩:=Dz l1 h1;obtain ⟨q,ws,rfl,hb,hy,_⟩:=Dz l2 h2;rw [Di hx e1] at ha;rw [Di hy e2] at hb;exact ⟨p,q,ns,ms,rfl,rfl,ha,hb,rfl⟩
 ·cases e
def VR (x y:Dv):Option Bool:=match x with
 | .int i=>match y with | .int j=>some (decide (i < j)) | _=>none
 | .tup xs=>XD HT.lexLt xs y
 | _=>none
theorem fI:AF K (fun ds=>(two VR ds).map .bl) 0 (IL fun x y H Q=>Sk (fun i j=>.bl (decide (i < j))) x y H Q\/eZ K x y H Q):=Dr fun g H x y v w o1 o2 P R b Q zd l1 h1 l2 h2 e k=>by
 unfold VR at e;split at e
 ·split at e
  ·cases e;rw [rep_int h1,rep_int h2];exact .inl ⟨_,_,rfl,rfl,k⟩
  ·cases e
 ·obtain ⟨p,q,ns,ms,r1,r2,h3,h4,r3⟩:=LM l1 h1 l2 h2 e;rw [r3] at k;exact .inr ⟨p,q,ns,ms,r1,r2,h3,h4,k⟩
 ·cases e
def ME (x y:Dv):Option Bool:=match x with
 | .int i=>match y with | .int j=>some (decide (i<=j)) | _=>none
 | .str a=>match y with | .str b=>some (!decide (b < a)) | _=>none
 | .tup xs=>XD HT.lexLe xs y
 | _=>none
theorem fJ:AF K (fun ds=>(two ME ds).map .bl) 0 (IL fun x y H Q=>_root_.Q.rLeA x y H Q\/ee K x y H Q):=Dr fun g H x y v w o1 o2 P R b Q zd l1 h1 l2 h2 e k=>by
 unfold ME at e;split at e
 ·split at e
  ·cases e;rw [rep_int h1,rep_int h2];exact .inl (.inl ⟨_,_,rfl,rfl,k⟩)
  ·cases e
 ·split at e
  ·cases e;rw [rep_str h1,rep_str h2];refine .inl (.inr ⟨_,_,rfl,rfl,?_⟩);rw [GN,GN];exact k
  ·cases e
 ·obtain ⟨p,q,ns,ms,r1,r2,h3,h4,r3⟩:=LM l1 h1 l2 h2 e;rw [r3] at k;exact .inr ⟨p,q,ns,ms,r1,r2,h3,h4,k⟩
 ·cases e
end
end R
namespace L3
open PySem PySem.Spec PyProof.Rows L2
section
end
end L3
namespace KO
open PySem PySem.W PyProof.Rows
section
end
end KO
namespace L2
open PySem PySem.Spec PyProof.Rows
section
end
end L2
namespace R
open PySem L2
noncomputable def SS:Dv->Option (List Dv)
 | .tup ds=>some ds
 | .lst ds=>some ds
 | .scr ns=>some (ns.map .int)
 | _=>none
section
variable {K:W.Frag} {g:G} {H:Hp}
abbrev jT (K:W.Frag) (g:G) (H:Hp) (a:Addr) (b:Bool) (ds:List Dv):Prop:=∀ g2 H2,Hk g H g2 H2->∃ vs,ML K H2 a vs b/\Reps K g2 H2 0 ds vs nop
theorem Kg {d:Dv} {ds:List Dv} {v:V} (h:Rep K g H 0 d v nop) (e:SS d=some ds):∃ a b,v=.ref a/\jT K g H a b ds:=by
 have z1:(0:Nat)<=1:=by decide
 cases d with
 | tup es =>
  cases e;obtain ⟨a,vs,rfl,_⟩:=Dz z1 h;refine ⟨a,true,rfl,fun g2 H2 st=>?_⟩;obtain ⟨a',us,q,k1,k2,_⟩:=Dz z1 (st.rep h);cases q;exact ⟨us,k1,k2⟩
 | lst es =>
  cases e;obtain ⟨a,vs,rfl,_⟩:=EC z1 h;refine ⟨a,false,rfl,fun g2 H2 st=>?_⟩;obtain ⟨a',us,q,k1,k2,_⟩:=EC z1 (st.rep h);cases q;exact ⟨us,k1,k2⟩
 | scr ns =>
  cases e;obtain ⟨a,rfl,_⟩:=Kh h;refine ⟨a,false,rfl,fun g2 H2 st=>?_⟩;obtain ⟨a',q,k1⟩:=Kh (st.rep h);cases q;exact ⟨_,k1,EJ ns⟩
 | _=>cases e
theorem OC:Hk g H g H:=by
 first | exact ⟨nop,nop,Step.refl,fun _ z=>z.elim⟩ | exact ⟨nop,nop,Step.refl,FpOk.nop⟩ | exact Hk.refl
def zipD2:List Dv->List Dv->List Dv
 | x1::xs1,x2::xs2=>.tup [x1,x2]::zipD2 xs1 xs2
 | _,_=>[]
theorem IP:∀ (xs1 xs2:List Dv) (i:Nat) (e:Dv),(zipD2 xs1 xs2)[i]?=some e->∃ x1 x2,xs1[i]?=some x1/\xs2[i]?=some x2/\e=.tup [x1,x2]
 | x1::xs1,x2::xs2,0,e,h=>by simp [zipD2] at h;exact ⟨x1,x2,rfl,rfl,h.symm⟩
 | x1::xs1,x2::xs2,i+1,e,h=>by
  obtain ⟨y1,y2,h1,h2,q⟩:=IP xs1 xs2 i e (by simpa [zipD2] using h);exact ⟨y1,y2,by simpa using h1,by simpa using h2,q⟩
 | [],_,i,e,h=>by simp [zipD2] at h
 | x1::xs1,[],i,e,h=>by simp [zipD2] at h
theorem IQ:∀ (xs1 xs2:List Dv) (i:Nat),(zipD2 xs1 xs2).length<=i->xs1.length<=i\/xs2.length<=i
 | x1::xs1,x2::xs2,0,h=>by simp [zipD2] at h
 | x1::xs1,x2::xs2,i+1,h=>by
  have:=IQ xs1 xs2 i (by simpa [zipD2] using h);simp only [lE];omega
 | [],_,i,h=>by simp
 | x1::xs1,[],i,h=>by simp
def Im (ds:List Dv):Option (List Dv):=two (fun x y=>(SS x).bind fun xs=>(SS y).bind fun ys=>some (zipD2 xs ys)) ds
def eQ (K:W.Frag):List V->Hp->(It->Hp->Prop)->Prop:=fun vs H1 R=>∃ a1 a2 b1 b2,vs=[.ref a1,.ref a2]/\(∃ xs,ML K H1 a1 xs b1)/\(∃ xs,ML K H1 a2 xs b2)/\R (Vg K a1 a2 b1 b2) H1
theorem Vm {a1 a2:Addr} {b1 b2:Bool} {ds1 ds2:List Dv} (h1:jT K g H a1 b1 ds1) (h2:jT K g H a2 b2 ds2):Yl K (Vg K a1 a2 b1 b2) (zipD2 ds1 ds2) g H:=by
 intro g2 H2 st;obtain ⟨vs1,sq1,r1⟩:=h1 g2 H2 st;obtain ⟨vs2,sq2,r2⟩:=h2 g2 H2 st;refine ⟨fun i d e=>?_,fun i hi=>⟨vs1,vs2,sq1,sq2,by have:=IQ _ _ _ hi;rw [<- r1.len,<- r2.len];exact this⟩⟩;obtain ⟨x1,x2,e1,e2,rfl⟩:=IP _ _ i d e;obtain ⟨u1,_,eu1,ru1,_⟩:=r1.get e1;obtain ⟨u2,_,eu2,ru2,_⟩:=r2.get e2;refine ⟨⟨vs1,vs2,u1,u2,sq1,eu1,sq2,eu2⟩,fun x H3 y=>?_⟩;obtain ⟨p,w1,w2,hp,rfl,rfl,y1,y2⟩:=y;have:=y1 vs1 sq1;rw [eu1] at this;cases this;have:=y2 vs2 sq2;rw [eu2] at this;cases this;exact AU.tup (by decide) hp (Ba (FO ru1.z) (FO ru2.z))
theorem SI:Ve K Im (eQ K):=fun g H ds vs its Q zd ra e q=>by
 obtain ⟨x,y,rfl,e⟩:=ES e;obtain ⟨xs,e1,e⟩:=bind_some' e;obtain ⟨ys,e2,e⟩:=bind_some' e;cases e;obtain ⟨v,us,rfl,h1,h2⟩:=Au ra;obtain ⟨w,us,rfl,h4,h3⟩:=Au h2;cases BE h3;obtain ⟨a,b,rfl,q1⟩:=Kg h1 e1;obtain ⟨a2,b2,rfl,q2⟩:=Kg h4 e2;obtain ⟨w1,s1,_⟩:=q1 g H OC;obtain ⟨w2,s2,_⟩:=q2 g H OC;exact ⟨a,a2,b,b2,rfl,⟨w1,s1⟩,⟨w2,s2⟩,q _ H (fun _ _ z=>z) (Vm q1 q2)⟩
end
section
variable {K:W.Frag} {g:G} {H:Hp}
noncomputable def jd {α:Type} (f:Dv->Dv->Dv->Option α) (ds:List Dv):Option α:=match ds with | [a,b,c]=>f a b c | _=>none
end
noncomputable def Hh:Dv->Option Bool
 | .non=>some false
 | .bl b=>some b
 | .int i=>some (i != 0)
 | .str l=>if l.length<=1000000 then some (!l.isEmpty) else none
 | .lst xs=>some (!xs.isEmpty)
 | .tup xs=>some (!xs.isEmpty)
 | .scr xs=>some (!xs.isEmpty)
 | .dct ks _=>some (!ks.isEmpty)
 | _=>none
theorem OJ {K:W.Frag} {g:G} {H:Hp} {o:Nat} {xs:List Dv} {vs:List V} {P:Fp} (h:Reps K g H o xs vs P):(!xs.isEmpty)=!vs.isEmpty:=by
 have:=h.len;cases xs<;>cases vs<;>simp at this<;>rfl
theorem Vr (K:W.Frag) (g:G) (H:Hp) (o:Nat) (d:Dv) (v:V) (P:Fp) (b:Bool) (h:Rep K g H o d v P) (e:Hh d=some b):Vd K v H b:=by
 cases d with
 | non=>cases e;rw [rep_non h];exact rfl
 | bl b=>cases e;rw [rep_bl h];exact rfl
 | int i=>cases e;rw [rep_int h];exact rfl
 | str l =>
  simp only [Hh.eq_def] at e;split at e
  ·rename_i hl;cases e;rw [rep_str h];refine ⟨by rw [BH];exact lI hl (by decide),?_⟩;rw [BH];cases l<;>simp;omega
  ·cases e
 | lst xs =>
  cases e;unfold Rep at h;obtain ⟨a,vs,P',rfl,h1,h2,_⟩:=h;exact .inl ⟨vs,.inl (.inl h1.1),OJ h2⟩
 | tup xs =>
  cases e;unfold Rep at h;obtain ⟨a,vs,rfl,h1,h2⟩:=h;exact .inr (.inl ⟨vs,.inl (.inl h1),OJ h2⟩)
 | scr ns =>
  cases e;obtain ⟨a,rfl,h1⟩:=Kh h;exact .inl ⟨_,h1,by cases ns<;>rfl⟩
 | dct ks ds =>
  cases e;obtain ⟨a,us,rfl,ha,hl,hx⟩:=XX h;refine .inr (.inr ⟨_,ha,?_⟩);have:=hx.len;cases ks<;>cases ds<;>cases us<;>simp at hl this<;>rfl
 | _=>cases e
def Cg (x y:Dv):Option Dv:=match x with
 | .str l=>match y with
  | .str [c]=>if l.length<=1000000 then some (.lst ((MK c l).map .str)) else none
  | _=>none
 | _=>none
theorem Su {K:W.Frag}:AF K (two Cg) 1 (ZX Sg):=Cw fun g H x y v w o1 o2 P R d Q zd l1 h1 l2 h2 e k=>by
 unfold Cg at e;split at e
 ·split at e
  ·split at e
   ·rename_i hl;cases e;rw [rep_str h1,rep_str h2];exact ⟨_,_,rfl,rfl,hl,fun p hp=>k _ _ (AU.lst zd (Gu _) hp)⟩
   ·cases e
  ·cases e
 ·cases e
theorem jz {es:List Expr} (h:es.length=1):∃ a,es=[a]:=List.length_eq_one_iff.mp h
theorem jy {es:List Expr} (h:es.length=2):∃ a b,es=[a,b]:=by
 cases es with
 | nil=>cases h
 | cons a es=>obtain ⟨b,rfl⟩:=jz (Nat.succ.inj h);exact ⟨a,b,rfl⟩
theorem dU {tg:Expr} (h:Js tg=true):∃ elts x1 tpos,tg=.Tuple elts x1 tpos:=by
 cases tg<;>first | exact ⟨_,_,_,rfl⟩ | cases h
theorem Qe {X:Cx} (h:Gx X):X.A.units+1 < cLine:=by obtain ⟨j,r⟩:=h.2;have:=r.un;omega
end R
namespace My
open PySem L2 R
theorem jv {K:W.Frag} {o:Nat} {r:Np}:AF K (fun _=>none) o r:=fun _ _ _ _ _ _ _ _ e _=>by cases e
theorem kP {K:W.Frag} {o:Nat} {r:Np}:AF K (one fun _=>none) o r:=fun _ _ ds _ _ _ _ _ e _=>by unfold one at e;split at e<;>cases e
theorem ju {K:W.Frag} {o:Nat} {r:Np}:AF K (two fun _ _=>none) o r:=fun _ _ ds _ _ _ _ _ e _=>by unfold two at e;split at e<;>cases e
def tb:Tb where
 bins:=[⟨.Add,AI,fun X h=>⟨_,Wt X.K,aW⟩⟩,
  ⟨.Mult,CU,fun X h=>⟨_,ax.or (av.or L4.op_repT),aQ⟩⟩,
  ⟨.Mod,Dg,fun X h=>⟨_,ay,Jh fun _ _ h=>of_decide_eq_true h⟩⟩,
  ⟨.FloorDiv,Vc,fun X h=>⟨_,Wp,Jh fun _ _ h=>by rw [kX,decide_eq_true_eq,decide_eq_true_eq] at h;exact h⟩⟩,
  ⟨.Pow,dC,fun X h=>⟨_,aw,Jh fun _ _ h=>by rw [kX,kX,decide_eq_true_eq,decide_eq_true_eq,decide_eq_true_eq] at h;exact ⟨h.1.1,h.1.2,h.2⟩⟩⟩]
 cmps:=[⟨.Eq,PN,fun X h=>⟨_,L3.op_eqA h.2.choose_spec,Sx⟩⟩,
  ⟨.NotEq,RY,fun X h=>⟨_,L3.op_neA h.2.choose_spec,Sx⟩⟩,
  ⟨.Lt,VR,fun X h=>⟨_,fS.or (az (Nat.lt_of_succ_lt (Qe h))),fI⟩⟩,
  ⟨.LtE,ME,fun X h=>⟨_,Q.op_leAQ.or (bA (Nat.lt_of_succ_lt (Qe h))),fJ⟩⟩,
  ⟨.Gt,ZW,fun X h=>⟨_,fU,OQ⟩⟩,
  ⟨.GtE,jN,fun X h=>⟨_,fV,OQ⟩⟩,
  ⟨.In,dJ,fun X h=>⟨_,(Q.op_inQ h.2.choose_spec).or (bE (Qe h)),Sw⟩⟩,
  ⟨.NotIn,He,fun X h=>⟨_,(Q.op_notInQ h.2.choose_spec).or (Wq (Qe h)),Sw⟩⟩,
  ⟨.Is,Nh,fun X h=>⟨_,bC,aT⟩⟩]
 calls:=[⟨"len", 1,1,one Ak,fun X h=>⟨_,aR,.inl ⟨_,(Qx X.K).or NZ,PySem.boot_len⟩⟩⟩,
  ⟨"tuple", 1,1,one AX,fun X h=>⟨_,Sr,.inr ⟨_,Lv X.K,PyProof.Rows.Boot.«tuple»⟩⟩⟩,
  ⟨"list", 1,1,one EF,fun X h=>⟨_,WY,.inr ⟨_,NY X.K,PyProof.Rows.Boot.«list»⟩⟩⟩,
  ⟨"int", 1,1,one Hj,fun X h=>⟨_,Wa,.inr ⟨_,RE.or RD,PyProof.Rows.Boot.«int»⟩⟩⟩,
  ⟨"str", 1,1,one CP,fun X h=>⟨_,WU,.inr ⟨_,KC,PyProof.Rows.Boot.«str»⟩⟩⟩,
  ⟨"all", 1,1,one EN,fun X h=>⟨_,aV,.inl ⟨_,RF X.K rfl h.1,PyProof.Rows.Boot.«all»⟩⟩⟩,
  ⟨"max", 1,1,one JS,fun X h=>⟨_,WW,.inl ⟨_,Qv X.K rfl h.1,PyProof.Rows.Boot.«max»⟩⟩⟩,
  ⟨"max", 2,1,two MI,fun X h=>⟨_,WX,.inl ⟨_,Qw h.1,PyProof.Rows.Boot.«max»⟩⟩⟩,
  ⟨"min", 2,1,two Hi,fun X h=>⟨_,WV,.inl ⟨_,Qu h.1,PyProof.Rows.Boot.«min»⟩⟩⟩,
  ⟨"isinstance", 2,1,two Fm,fun X h=>⟨_,aS,.inl ⟨_,(RC X.K).or RB,PyProof.Rows.Boot.«isinstance»⟩⟩⟩]
 meths:=[⟨"join", 1, "str", 1,two Bq,.inl (.inr (.inl rfl)),fun X h=>⟨_,_,PySem.F.plainAttrs_str,PySem.F.slot_str_join,PySem.F.type_str_join,TZ X.K,WZ⟩⟩,
  ⟨"upper", 0, "str", 1,one Fk,.inl (.inr (.inl rfl)),fun X h=>⟨_,_,PySem.F.plainAttrs_str,PySem.F.slot_str_upper,PySem.F.type_str_upper,TX,Sq⟩⟩,
  ⟨"split", 1, "str", 1,two Cg,.inl (.inr (.inl rfl)),fun X h=>⟨_,_,PySem.F.plainAttrs_str,PySem.F.slot_str_split,PySem.F.type_str_split,TY,Su⟩⟩,
  ⟨"index", 1, "list", 1,two Fo,.inl (.inl rfl),fun X h=>⟨_,_,PySem.F.plainAttrs_list,PySem.F.slot_list_index,PySem.F.type_list_index,Q.mt_indexD h.2.choose_spec,Sv⟩⟩,
  ⟨"index", 1, "tuple", 1,two GW,.inr ⟨rfl,rfl⟩,fun X h=>⟨_,_,PySem.F.plainAttrs_tuple,PySem.F.slot_tuple_index,PySem.F.type_tuple_index,Q.mt_indexTD h.2.choose_spec,Pz⟩⟩]
 muts:=[⟨"append", 1, "list", BA,.inl rfl,fun X h=>⟨_,_,PySem.F.plainAttrs_list,PySem.F.slot_list_append,PySem.F.type_list_append,QN,QL⟩⟩,
  ⟨"extend", 1, "list", Bi,.inl rfl,fun X h=>⟨_,_,PySem.F.plainAttrs_list,PySem.F.slot_list_extend,PySem.F.type_list_extend,RQ.or QM Ms,QK⟩⟩]
 srcs:=[⟨"range", 1,false,Cu,fun X h=>⟨_,SK,fun tg es p pos ta _ hn hs hg hm ha=>by obtain ⟨a,rfl⟩:=jz hn;exact QD hg hm ha (AE (by simpa using hs))⟩⟩,
  ⟨"range", 2,false,Pq,fun X h=>⟨_,SJ,fun tg es p pos ta _ hn hs hg hm ha=>by
   obtain ⟨a,b,rfl⟩:=jy hn;have z:Ao a=true/\Ao b=true:=by simpa using hs
   exact QC hg hm ha ((AE z.1).trans (by rw [AE z.2];rfl)) (AE z.2)⟩⟩,
  ⟨"zip", 2,true,Im,fun X h=>⟨_,SI,fun tg es p pos ta ht hn hs hg hm ha=>by
   obtain ⟨elts,x1,tpos,rfl⟩:=dU (ht rfl);obtain ⟨a,b,rfl⟩:=jy hn;have z:Ao a=true/\Ao b=true:=by simpa using hs
   exact Wf X.K hg hm ha rfl (AE z.1) (Av (by simp [z.2]))⟩⟩]
 ix:=AC
 ixok:=fun X h=>⟨_,(iZ X.K).or (fY (Qe h)),aU⟩
 sl:=Hn
 slok:=fun X h=>⟨_,iS X.K,fH⟩
 tru:=Hh
 trok:=Vr
 lr:=fun _=>none
 lrok:=fun X h=>jv
 tr:=fun _=>none
 trrok:=fun X h=>jv
 md:=fun _ _=>none
 mdok:=fun X h=>ju
 rv:=fun _ _=>none
 rvok:=fun X h=>ju
 lv:=fun _=>none
 lvok:=fun X h=>kP
 st:=DF
 stok:=fun X h=>⟨_,WE.or (Zw (Qe h)),Zv⟩
noncomputable def top (i:Nat):Stmt:=PySem.Challenge.pw_shapefree_k12_whole_worlds_written_and_r.main.body.getD i (.Pass ⟨0,0,0,0⟩)
def md:Md:=⟨tb,[("KEPT", (Dv.mtp [[105,110,112,117,116,115],[100,101,102],[116,101,108,108],[108,101,116],[108,111,111,112],[112,105,99,107],[99,97,108,108],[119,111,114,108,100],[115,104,97,112,101]])),("LONGEST", (Dv.int 6))],["len", "range", "tuple", "list", "zip", "isinstance", "enumerate", "all", "any", "int", "bool", "str", "sum", "max", "min", "reversed", "sorted", "dict", "repr", "set", "abs", "type", "ord", "chr"]⟩
noncomputable def iA:List (Str×Sig):=[]
noncomputable def AZ (a0:Dv):Option (Dv):=
(Ak a0).bind fun d0 =>
(ME (Dv.int 1) d0).bind fun b1 =>
if b1=true then
(ME d0 (Dv.int 6)).bind fun b2 =>
some (Dv.bl b2)
else
some (Dv.bl false)
theorem GG:EM md iA (top 6) [] 1=true:=by kernel_rfl
theorem GE:GL md iA (top 6) [] 1 (one AZ):=RM (by kernel_rfl) fun _=>(by kernel_rfl)
def iy:List (Str×Sig):=("has_word_length", AR (AB (top 6)) [] 1 true (one AZ))::iA
noncomputable def Cp (x1:Dv):Option Dv:=
(ME (Dv.str [97]) x1).bind fun b2 =>
if b2=true then
(ME x1 (Dv.str [122])).bind fun b3 =>
some (Dv.bl b3)
else
some (Dv.bl false)
noncomputable def CM (a0:Dv):Option (Dv):=
(items a0).bind fun s0 =>
FY s0 ((BF Cp s0).bind fun y4 =>
(EN (Dv.lst y4)).bind fun d5 =>
some d5)
theorem Qq:EM md iy (top 7) [] 1=true:=by kernel_rfl
theorem Qj:GL md iy (top 7) [] 1 (one CM):=RM (by kernel_rfl) fun _=>(by kernel_rfl)
def iw:List (Str×Sig):=("is_small", AR (AB (top 7)) [] 1 true (one CM))::iy
noncomputable def Ih (a0:Dv):Option (Dv):=
(CM a0).bind fun c4 =>
bif nol c4 then
Ni c4 fun b5 =>
if b5=true then
(He a0 (Dv.mtp [[105,110,112,117,116,115],[100,101,102],[116,101,108,108],[108,101,116],[108,111,111,112],[112,105,99,107],[99,97,108,108],[119,111,114,108,100],[115,104,97,112,101]])).bind fun b6 =>
some (Dv.bl b6)
else
some (Dv.bl false)
else none
noncomputable def Ig (a0:Dv):Option (Dv):=
(AZ a0).bind fun c2 =>
bif nol c2 then
Ni c2 fun b3 =>
if b3=true then
((Ih a0)).bind fun t7 =>
some t7
else
some (Dv.bl false)
else none
noncomputable def Ie (a0:Dv):Option (Dv):=
(Fm a0 (Dv.ty "str")).bind fun d0 =>
Ni d0 fun b1 =>
if b1=true then
((Ig a0)).bind fun t8 =>
some t8
else
some (Dv.bl false)
noncomputable def EY (a0:Dv):Option (Dv):=
((Ie a0)).bind fun t9 =>
some t9
theorem Ui:EM md iw (top 8) [] 0=true:=by kernel_rfl
theorem UT:GL md iw (top 8) [] 0 (one EY):=RM (by kernel_rfl) fun _=>(by kernel_rfl)
def iu:List (Str×Sig):=("is_name", AR (AB (top 8)) [] 0 true (one EY))::iw
noncomputable def Gq (a0:Dv):Option (Dv):=
(AC a0 (Dv.int 0)).bind fun d4 =>
(ME (Dv.str [65]) d4).bind fun b5 =>
if b5=true then
(ME d4 (Dv.str [90])).bind fun b6 =>
Ni (Dv.bl b6) fun b7 =>
if b7=true then
(Hn a0 (some 1) none).bind fun d8 =>
(CM d8).bind fun c9 =>
bif nol c9 then
some c9
else none
else
some (Dv.bl false)
else
Ni (Dv.bl false) fun b10 =>
if b10=true then
(Hn a0 (some 1) none).bind fun d11 =>
(CM d11).bind fun c12 =>
bif nol c12 then
some c12
else none
else
some (Dv.bl false)
noncomputable def Gp (a0:Dv):Option (Dv):=
(AZ a0).bind fun c2 =>
bif nol c2 then
Ni c2 fun b3 =>
if b3=true then
((Gq a0)).bind fun t13 =>
some t13
else
some (Dv.bl false)
else none
noncomputable def Gn (a0:Dv):Option (Dv):=
(Fm a0 (Dv.ty "str")).bind fun d0 =>
Ni d0 fun b1 =>
if b1=true then
((Gp a0)).bind fun t14 =>
some t14
else
some (Dv.bl false)
noncomputable def DV (a0:Dv):Option (Dv):=
((Gn a0)).bind fun t15 =>
some t15
theorem Qr:EM md iu (top 9) [] 0=true:=by kernel_rfl
theorem Qk:GL md iu (top 9) [] 0 (one DV):=RM (by kernel_rfl) fun _=>(by kernel_rfl)
def ir:List (Str×Sig):=("is_fixed", AR (AB (top 9)) [] 0 true (one DV))::iu
noncomputable def BR (x3:Dv):Option Dv:=
(ME (Dv.str [48]) x3).bind fun b4 =>
if b4=true then
(ME x3 (Dv.str [57])).bind fun b5 =>
some (Dv.bl b5)
else
some (Dv.bl false)
noncomputable def Bz (a0:Dv):Option (Bool):=
(AZ a0).bind fun c0 =>
bif nol c0 then
(Hh c0).bind fun b1 =>
if (!b1)=true then
some true
else
(items a0).bind fun s2 =>
FY s2 ((BF BR s2).bind fun y6 =>
(EN (Dv.lst y6)).bind fun d7 =>
(Hh d7).bind fun b8 =>
some (!b8))
else none
noncomputable def By (a0:Dv):Option (Bool):=
(Ak a0).bind fun d10 =>
(ZW d10 (Dv.int 1)).bind fun b11 =>
if b11=true then
(AC a0 (Dv.int 0)).bind fun d12 =>
(PN d12 (Dv.str [48])).bind fun b13 =>
some b13
else
some false
noncomputable def BD (a0:Dv):Option (Dv):=
((Bz a0)).bind fun t9 =>
if t9=true then
some Dv.non
else
((By a0)).bind fun t14 =>
if t14=true then
some Dv.non
else
(Hj a0).bind fun d15 =>
some d15
theorem IB:EM md ir (top 10) [] 1=true:=by kernel_rfl
theorem Hy:GL md ir (top 10) [] 1 (one BD):=RM (by kernel_rfl) fun _=>(by kernel_rfl)
def iq:List (Str×Sig):=("read_figures", AR (AB (top 10)) [] 1 false (one BD))::ir
noncomputable def DS (x1:Dv):Option Dv:=
(CP x1).bind fun d2 =>
some d2
noncomputable def AV (a0 a1:Dv):Option (Dv):=
DY "str" (Dv.str [32]) (
(items a1).bind fun s0 =>
FY s0 ((BF DS s0).bind fun y3 =>
(AI (Dv.lst [a0]) (Dv.lst y3)).bind fun d4 =>
(Bq (Dv.str [32]) d4).bind fun d5 =>
some d5))
theorem ID:EM md iq (top 13) [] 1=true:=by kernel_rfl
theorem IA:GL md iq (top 13) [] 1 (two AV):=YD (by kernel_rfl) fun _ _=>(by kernel_rfl)
def ik:List (Str×Sig):=("entries_text", AR (AB (top 13)) [] 1 false (two AV))::iq
noncomputable def EV (x4:Dv) (t5:Dv):Option (Dv):=
DY "list" t5 (
(Bi t5 [x4]).bind fun r6 =>
some r6.2)
noncomputable def CN (a0 a1:Dv):Option (Dv):=
(AC a0 (Dv.int 1)).bind fun d0 =>
(PN d0 (Dv.int 1)).bind fun b1 =>
if b1=true then
(EF a1).bind fun d2 =>
some d2
else
(items a1).bind fun s3 =>
(BP EV s3 (Dv.lst [])).bind fun t7 =>
some t7
theorem Ls:EM md ik (top 14) [] 1=true:=by kernel_rfl
theorem Ld:GL md ik (top 14) [] 1 (two CN):=YD (by kernel_rfl) fun _ _=>(by kernel_rfl)
def ij:List (Str×Sig):=("entries_of", AR (AB (top 14)) [] 1 false (two CN))::ik
noncomputable def Cr (x5:Dv) (t6:Dv):Option (Dv):=
(Vp [3,4] x5).bind fun (t7:Dv×Dv) =>
DY "list" t6 (
(AV t7.1 (Dv.lst [t7.2])).bind fun c8 =>
(BA t6 [c8]).bind fun r9 =>
some r9.2)
noncomputable def Cq (x14:Dv) (t15:Dv):Option (Dv):=
(Vp [5,6] x14).bind fun (t16:Dv×Dv) =>
DY "list" t15 (
(AC t16.1 (Dv.int 0)).bind fun d17 =>
(CN t16.1 t16.2).bind fun c18 =>
(AV d17 c18).bind fun c19 =>
(BA t15 [c19]).bind fun r20 =>
some r20.2)
noncomputable def CJ (a0 a1:Dv):Option (Dv):=
(AC a1 (Dv.int 0)).bind fun d0 =>
(AV (Dv.str [119,111,114,108,100]) (Dv.lst [d0])).bind fun c1 =>
(AC a0 (Dv.int 0)).bind fun d2 =>
(AC a1 (Dv.int 1)).bind fun d3 =>
(Im [d2,d3]).bind fun s4 =>
(BP Cr s4 (Dv.lst [c1])).bind fun t10 =>
(AC a0 (Dv.int 1)).bind fun d11 =>
(AC a1 (Dv.int 2)).bind fun d12 =>
(Im [d11,d12]).bind fun s13 =>
(BP Cq s13 t10).bind fun t21 =>
DY "str" (Dv.str [10]) (
(Bq (Dv.str [10]) t21).bind fun d22 =>
some d22)
theorem Ln:EM md ij (top 12) [] 1=true:=by kernel_rfl
theorem LZ:GL md ij (top 12) [] 1 (two CJ):=YD (by kernel_rfl) fun _ _=>(by kernel_rfl)
def ig:List (Str×Sig):=("world_text", AR (AB (top 12)) [] 1 false (two CJ))::ij
noncomputable def DP (d0:Dv):Option (Bool):=
(Ak d0).bind fun d1 =>
(RY d1 (Dv.int 2)).bind fun b2 =>
if b2=true then
some true
else
(AC d0 (Dv.int 0)).bind fun d3 =>
(RY d3 (Dv.str [119,111,114,108,100])).bind fun b4 =>
some b4
noncomputable def DO (c7:Dv):Option (Bool):=
(Nh c7 Dv.non).bind fun b8 =>
if b8=true then
some true
else
(PN c7 (Dv.int 0)).bind fun b9 =>
some b9
noncomputable def Ci (a0:Dv):Option (Dv):=
DY "str" a0 (
(Cg a0 (Dv.str [32])).bind fun d0 =>
((DP d0)).bind fun t5 =>
if t5=true then
none
else
(AC d0 (Dv.int 1)).bind fun d6 =>
(BD d6).bind fun c7 =>
((DO c7)).bind fun t10 =>
if t10=true then
none
else
some c7)
theorem NW:EM md ig (top 16) [] 1=true:=by kernel_rfl
theorem NR:GL md ig (top 16) [] 1 (one Ci):=RM (by kernel_rfl) fun _=>(by kernel_rfl)
def ie:List (Str×Sig):=("read_size", AR (AB (top 16)) [] 1 false (one Ci))::ig
noncomputable def CF (a0:Dv) (a1:Dv):Option (Dv):=
(Ak a0).bind fun d0 =>
(VR a1 d0).bind fun b1 =>
if b1=true then
(AC a0 a1).bind fun d2 =>
DY "str" d2 (
(Cg d2 (Dv.str [32])).bind fun d3 =>
some d3)
else
some (Dv.lst [])
noncomputable def CD (a2:Dv) (a3:Dv) (t4:Dv):Option (Bool):=
(Ak t4).bind fun d5 =>
(AI (Dv.int 1) a3).bind fun d6 =>
(RY d5 d6).bind fun b7 =>
if b7=true then
some true
else
(AC t4 (Dv.int 0)).bind fun d8 =>
(RY d8 a2).bind fun b9 =>
some b9
noncomputable def CH (x13:Dv):Option Dv:=
(BD x13).bind fun c14 =>
some c14
noncomputable def CB (a4:Dv) (y15:List Dv):Option (Bool):=
(dJ Dv.non (Dv.lst y15)).bind fun b16 =>
if b16=true then
some true
else
(JS (Dv.lst y15)).bind fun d17 =>
(jN d17 a4).bind fun b18 =>
some b18
noncomputable def Ad (a0 a1 a2 a3 a4:Dv):Option (Dv):=
((CF a0 a1)).bind fun t4 =>
((CD a2 a3 t4)).bind fun t10 =>
if t10=true then
none
else
(Hn t4 (some 1) none).bind fun d11 =>
(items d11).bind fun s12 =>
FY s12 ((BF CH s12).bind fun y15 =>
((CB a4 y15)).bind fun t19 =>
if t19=true then
none
else
some (Dv.lst y15))
theorem IC:EM md ie (top 18) [] 1=true:=by kernel_rfl
theorem Hz:GL md ie (top 18) [] 1 (cF Ad):=kS (by kernel_rfl) fun _ _ _ _ _=>(by kernel_rfl)
def cC:List (Str×Sig):=("read_entries", AR (AB (top 18)) [] 1 false (cF Ad))::ie
noncomputable def Bu (a3:Dv) (c7:Dv) (x9:Dv):Option Dv:=
(CU a3 x9).bind fun d10 =>
RZ d10 fun i11 =>
(CU a3 x9).bind fun d12 =>
(AI d12 a3).bind fun d13 =>
RZ d13 fun i14 =>
(Hn c7 (some i11) (some i14)).bind fun d15 =>
(AX d15).bind fun d16 =>
some d16
noncomputable def CL (a0 a1 a2 a3:Dv):Option (Dv):=
(AC a2 (Dv.int 1)).bind fun d0 =>
(PN d0 (Dv.int 1)).bind fun b1 =>
if b1=true then
(AC a2 (Dv.int 0)).bind fun d2 =>
(Ad a0 a1 d2 a3 a3).bind fun c3 =>
(AX c3).bind fun d4 =>
some d4
else
(AC a2 (Dv.int 0)).bind fun d5 =>
(CU a3 a3).bind fun d6 =>
(Ad a0 a1 d5 d6 a3).bind fun c7 =>
(Cu [a3]).bind fun s8 =>
FY s8 ((BF (Bu a3 c7) s8).bind fun y17 =>
(AX (Dv.lst y17)).bind fun d18 =>
some d18)
theorem Lq:EM md cC (top 17) [] 1=true:=by kernel_rfl
theorem Lb:GL md cC (top 17) [] 1 (cD CL):=kT (by kernel_rfl) fun _ _ _ _=>(by kernel_rfl)
def cB:List (Str×Sig):=("read_table", AR (AB (top 17)) [] 1 false (cD CL))::cC
noncomputable def Ct (d0:Dv) (c2:Dv) (x5:Dv) (t6:Dv):Option (Dv):=
DY "list" t6 (
(Ak t6).bind fun d7 =>
(AI (Dv.int 1) d7).bind fun d8 =>
(Ad d0 d8 x5 (Dv.int 1) c2).bind fun c9 =>
(Bi t6 [c9]).bind fun r10 =>
some r10.2)
noncomputable def Cs (d0:Dv) (c2:Dv) (t11:Dv) (x14:Dv) (t15:Dv):Option (Dv):=
(Ak t11).bind fun d16 =>
(AI (Dv.int 1) d16).bind fun d17 =>
(Ak t15).bind fun d18 =>
(AI d17 d18).bind fun d19 =>
DY "list" t15 (
(CL d0 d19 x14 c2).bind fun c20 =>
(BA t15 [c20]).bind fun r21 =>
some r21.2)
noncomputable def CK (a0 a1:Dv):Option (Dv):=
DY "str" a1 (
(Cg a1 (Dv.str [10])).bind fun d0 =>
(AC d0 (Dv.int 0)).bind fun d1 =>
(Ci d1).bind fun c2 =>
(AC a0 (Dv.int 0)).bind fun d3 =>
(items d3).bind fun s4 =>
(BP (Ct d0 c2) s4 (Dv.lst [])).bind fun t11 =>
(AC a0 (Dv.int 1)).bind fun d12 =>
(items d12).bind fun s13 =>
(BP (Cs d0 c2 t11) s13 (Dv.lst [])).bind fun t22 =>
(Ak t11).bind fun d23 =>
(AI (Dv.int 1) d23).bind fun d24 =>
(Ak t22).bind fun d25 =>
(AI d24 d25).bind fun d26 =>
(Ak d0).bind fun d27 =>
(ZW d27 d26).bind fun b28 =>
if b28=true then
none
else
(AX t11).bind fun d29 =>
(AX t22).bind fun d30 =>
some (Dv.tup [c2,d29,d30]))
theorem Lo:EM md cB (top 15) [] 1=true:=by kernel_rfl
theorem La:GL md cB (top 15) [] 1 (two CK):=YD (by kernel_rfl) fun _ _=>(by kernel_rfl)
def cA:List (Str×Sig):=("read_world", AR (AB (top 15)) [] 1 false (two CK))::cB
noncomputable def Ft (a0:Dv) (d2:Dv):Option (Bool):=
(EY d2).bind fun c3 =>
bif nol c3 then
(Hh c3).bind fun b4 =>
if (!b4)=true then
some true
else
(Eo (Dv.int 2)).bind fun d5 =>
RZ d5 fun i6 =>
(Hn a0 (some i6) none).bind fun d7 =>
(He d7 (Dv.tup [(Dv.str [47,49]),(Dv.str [47,50])])).bind fun b8 =>
some b8
else none
noncomputable def Cj (a0:Dv):Option (Dv):=
(Eo (Dv.int 2)).bind fun d0 =>
RZ d0 fun i1 =>
(Hn a0 none (some i1)).bind fun d2 =>
((Ft a0 d2)).bind fun t9 =>
if t9=true then
some Dv.non
else
(Eo (Dv.int 1)).bind fun d10 =>
(AC a0 d10).bind fun d11 =>
(Hj d11).bind fun d12 =>
some (Dv.tup [d2,d12])
theorem NX:EM md cA (top 22) [] 1=true:=by kernel_rfl
theorem NS:GL md cA (top 22) [] 1 (one Cj):=RM (by kernel_rfl) fun _=>(by kernel_rfl)
def bz:List (Str×Sig):=("read_deed", AR (AB (top 22)) [] 1 false (one Cj))::cA
noncomputable def Bm (d0:Dv):Option (Bool):=
(AC d0 (Dv.int 0)).bind fun d1 =>
(RY d1 (Dv.str [115,104,97,112,101])).bind fun b2 =>
if b2=true then
some true
else
(He (Dv.str [124]) d0).bind fun b3 =>
some b3
noncomputable def Bn (d0:Dv):Option (Dv):=
Option.or (DY "list" d0 (
(Fo d0 (Dv.str [124])).bind fun d5 =>
some d5)) (DY "tuple" d0 (
(GW d0 (Dv.str [124])).bind fun d6 =>
some d6))
noncomputable def Bo (x14:Dv):Option Dv:=
(Cj x14).bind fun c15 =>
some c15
noncomputable def BK (x18:Dv):Option Dv:=
(DV x18).bind fun c19 =>
bif nol c19 then
some c19
else none
noncomputable def Bl (d9:Dv) (y16:List Dv):Option (Bool):=
(items d9).bind fun s17 =>
FY s17 ((BF BK s17).bind fun y20 =>
(EN (Dv.lst y20)).bind fun d21 =>
(Hh d21).bind fun b22 =>
if (!b22)=true then
some true
else
(dJ Dv.non (Dv.lst y16)).bind fun b23 =>
some b23)
noncomputable def BI (a0:Dv):Option (Dv):=
DY "str" a0 (
(Cg a0 (Dv.str [32])).bind fun d0 =>
((Bm d0)).bind fun t4 =>
if t4=true then
some Dv.non
else
((Bn d0)).bind fun t7 =>
RZ t7 fun i8 =>
(Hn d0 (some 1) (some i8)).bind fun d9 =>
(AI t7 (Dv.int 1)).bind fun d10 =>
RZ d10 fun i11 =>
(Hn d0 (some i11) none).bind fun d12 =>
(items d12).bind fun s13 =>
FY s13 ((BF Bo s13).bind fun y16 =>
((Bl d9 y16)).bind fun t24 =>
if t24=true then
some Dv.non
else
(AX d9).bind fun d25 =>
(AX (Dv.lst y16)).bind fun d26 =>
some (Dv.tup [d25,d26])))
theorem HZ:EM md bz (top 21) [] 1=true:=by kernel_rfl
theorem HW:GL md bz (top 21) [] 1 (one BI):=RM (by kernel_rfl) fun _=>(by kernel_rfl)
def bx:List (Str×Sig):=("read_shape_row", AR (AB (top 21)) [] 1 false (one BI))::bz
noncomputable def BZ (a0:Dv):Option (Dv):=
DY "str" a0 (
(Cg a0 (Dv.str [10])).bind fun d0 =>
(AC d0 (Dv.int 0)).bind fun d1 =>
(BI d1).bind fun c2 =>
(Nh c2 Dv.non).bind fun b3 =>
if b3=true then
none
else
(Ak d0).bind fun d4 =>
(ZW d4 (Dv.int 1)).bind fun b5 =>
if b5=true then
none
else
some c2)
theorem Lr:EM md bx (top 20) [] 1=true:=by kernel_rfl
theorem Lc:GL md bx (top 20) [] 1 (one BZ):=RM (by kernel_rfl) fun _=>(by kernel_rfl)
def bw:List (Str×Sig):=("read_shape", AR (AB (top 20)) [] 1 false (one BZ))::bx
noncomputable def Kf (a0:Dv) (a1:Dv) (d1:Dv):Option (Dv):=
(Ak a0).bind fun d5 =>
(ZW d5 (Dv.int 0)).bind fun b6 =>
if b6=true then
(Ak a0).bind fun d7 =>
(Dg a1 d7).bind fun d8 =>
(AC a0 d8).bind fun d9 =>
(Dg d9 (Dv.int 2147483629)).bind fun d10 =>
(CU d10 (Dv.int 31)).bind fun d11 =>
(CU (Dv.int 7907) a1).bind fun d12 =>
(AI d11 d12).bind fun d13 =>
some d13
else
some d1
noncomputable def Gk (a0:Dv) (a1:Dv) (d1:Dv):Option (Dv):=
(Ak a0).bind fun d2 =>
(VR a1 d2).bind fun b3 =>
if b3=true then
(AC a0 a1).bind fun d4 =>
some d4
else
((Kf a0 a1 d1)).bind fun t14 =>
some t14
noncomputable def Gj (t15:Dv):Option (Dv):=
(dC (Dv.int 10) (Dv.int 18)).bind fun d16 =>
(jN t15 d16).bind fun b17 =>
if b17=true then
some t15
else
some (Dv.int 0)
noncomputable def DU (a0 a1:Dv):Option (Dv):=
(CU (Dv.int 7907) a1).bind fun d0 =>
(AI d0 (Dv.int 13579)).bind fun d1 =>
((Gk a0 a1 d1)).bind fun t15 =>
((Gj t15)).bind fun t18 =>
(Dg t15 (Dv.int 2147483629)).bind fun d19 =>
(CU d19 (Dv.int 48271)).bind fun d20 =>
(CU (Dv.int 40692) a1).bind fun d21 =>
(AI d20 d21).bind fun d22 =>
(Dg d22 (Dv.int 2147483646)).bind fun d23 =>
(AI d23 (Dv.int 1)).bind fun d24 =>
some (Dv.lst [t18,d24])
theorem Xh:EM md bw (top 24) [] 1=true:=by kernel_rfl
theorem XS:GL md bw (top 24) [] 1 (two DU):=YD (by kernel_rfl) fun _ _=>(by kernel_rfl)
def bu:List (Str×Sig):=("_law_feed", AR (AB (top 24)) [] 1 false (two DU))::bw
noncomputable def An (a0 a1:Dv):Option (Dv×Dv):=
(AC a0 (Dv.int 0)).bind fun d0 =>
(ZW d0 (Dv.int 0)).bind fun b1 =>
if b1=true then
(AC a0 (Dv.int 0)).bind fun d2 =>
(Dg d2 a1).bind fun d3 =>
(AC a0 (Dv.int 0)).bind fun d4 =>
(Vc d4 a1).bind fun d5 =>
(DF a0 (Dv.int 0) d5).bind fun d6 =>
some (d3,d6)
else
(AC a0 (Dv.int 1)).bind fun d7 =>
(CU d7 (Dv.int 48271)).bind fun d8 =>
(Dg d8 (Dv.int 2147483647)).bind fun d9 =>
(CU d9 (Dv.int 40692)).bind fun d10 =>
(AI d10 (Dv.int 30103)).bind fun d11 =>
(Dg d11 (Dv.int 2147483399)).bind fun d12 =>
(AI d12 (Dv.int 1)).bind fun d13 =>
(DF a0 (Dv.int 1) d13).bind fun d14 =>
(CU d9 (Dv.int 2147483647)).bind fun d15 =>
(AC d14 (Dv.int 1)).bind fun d16 =>
(AI d15 d16).bind fun d17 =>
(Vc d17 (Dv.int 8191)).bind fun d18 =>
(Dg d18 a1).bind fun d19 =>
some (d19,d14)
theorem Xe:EM md bu (top 25) [0] 1=true:=by kernel_rfl
theorem XO:GL md bu (top 25) [0] 1 (two An):=YD (by kernel_rfl) fun _ _=>(by kernel_rfl)
def bq:List (Str×Sig):=("_law_take", AR (AB (top 25)) [0] 1 false (two An))::bu
noncomputable def Dm (x2:Dv) (t3:Dv):Option (Dv×Dv):=
(An t3 (Dv.int 26)).bind fun c4 =>
(AC (Dv.str [97,98,99,100,101,102,103,104,105,106,107,108,109,110,111,112,113,114,115,116,117,118,119,120,121,122]) c4.1).bind fun d5 =>
some (d5,c4.2)
noncomputable def FE (d28:Dv):Option (Dv):=
(dJ d28 (Dv.tup [(Dv.str [100,101,102]),(Dv.str [108,101,116]),(Dv.str [116,101,108,108]),(Dv.str [108,111,111,112]),(Dv.str [112,105,99,107]),(Dv.str [99,97,108,108])])).bind fun b29 =>
if b29=true then
(AI d28 (Dv.str [113])).bind fun d30 =>
some d30
else
some d28
noncomputable def FK (d7:Dv) (c8_1:Dv) (c11_1:Dv) (c12_1:Dv) (x14:Dv) (t15:Dv):Option (Dv):=
(CU (Dv.int 7) x14).bind fun d16 =>
(AI c8_1 d16).bind fun d17 =>
(Dg d17 (Dv.int 26)).bind fun d18 =>
(AC (Dv.str [97,98,99,100,101,102,103,104,105,106,107,108,109,110,111,112,113,114,115,116,117,118,119,120,121,122]) d18).bind fun d19 =>
RZ c11_1 fun i20 =>
(Hn d7 none (some i20)).bind fun d21 =>
(AI d21 d19).bind fun d22 =>
RZ c11_1 fun i23 =>
(AI c12_1 x14).bind fun d24 =>
(Dg d24 (Dv.int 4)).bind fun d25 =>
RZ d25 fun i26 =>
(Hn d7 (some i23) (some i26)).bind fun d27 =>
(AI d22 d27).bind fun d28 =>
((FE d28)).bind fun t31 =>
DY "list" t15 (
(BA t15 [t31]).bind fun r32 =>
some r32.2)
noncomputable def IZ (c12_2:Dv) (t33:Dv):Option (Bool×Dv):=
(Eo (Dv.int 2)).bind fun d35 =>
(AC t33 d35).bind fun d36 =>
(Ak d36).bind fun d37 =>
(VR d37 (Dv.int 4)).bind fun b38 =>
if b38=true then
(An c12_2 (Dv.int 4)).bind fun c39 =>
(PN c39.1 (Dv.int 0)).bind fun b40 =>
some (b40,c39.2)
else
some (false,c12_2)
noncomputable def FB (a1:Dv) (c12_2:Dv) (t33:Dv):Option (Bool×Dv):=
(ZW a1 (Dv.int 1)).bind fun b34 =>
if b34=true then
((IZ c12_2 t33)).bind fun t41 =>
some (t41.1,t41.2)
else
some (false,c12_2)
noncomputable def FD (a1:Dv) (c12_2:Dv) (t33:Dv):Option (Dv×Dv):=
((FB a1 c12_2 t33)).bind fun t42 =>
if t42.1=true then
(Eo (Dv.int 2)).bind fun d43 =>
(AC t33 d43).bind fun d44 =>
(AI d44 (Dv.str [113])).bind fun d45 =>
(Eo (Dv.int 1)).bind fun d46 =>
(DF t33 d46 d45).bind fun d47 =>
some (t42.2,d47)
else
some (t42.2,t33)
noncomputable def CV (a0 a1:Dv):Option (Dv×Dv):=
DY "str" (Dv.str []) (
(An a0 (Dv.int 4)).bind fun c0 =>
(Cu [c0.1]).bind fun s1 =>
FY s1 ((CW Dm s1 c0.2).bind fun p6 =>
(Bq (Dv.str []) (Dv.lst p6.1)).bind fun d7 =>
(An p6.2 (Dv.int 26)).bind fun c8 =>
(Ak d7).bind fun d9 =>
(AI d9 (Dv.int 1)).bind fun d10 =>
(An c8.2 d10).bind fun c11 =>
(An c11.2 (Dv.int 4)).bind fun c12 =>
(Cu [a1]).bind fun s13 =>
(BP (FK d7 c8.1 c11.1 c12.1) s13 (Dv.lst [])).bind fun t33 =>
((FD a1 c12.2 t33)).bind fun t48 =>
some (t48.2,t48.1)))
theorem Ug:EM md bq (top 26) [0] 1=true:=by kernel_rfl
theorem UR:GL md bq (top 26) [0] 1 (two CV):=YD (by kernel_rfl) fun _ _=>(by kernel_rfl)
def bp:List (Str×Sig):=("_law_names", AR (AB (top 26)) [0] 1 false (two CV))::bq
noncomputable def Dl (x5:Dv):Option Dv:=
(Hn x5 none (some 1)).bind fun d6 =>
DY "str" d6 (
(Fk d6).bind fun d7 =>
(Hn x5 (some 1) none).bind fun d8 =>
(AI d7 d8).bind fun d9 =>
some d9)
noncomputable def FI (c11_1:Dv) (x15:Dv) (t16:Dv):Option (Dv×Dv):=
(AC c11_1 x15).bind fun d17 =>
(An t16 (Dv.int 2)).bind fun c18 =>
(AI (Dv.int 1) c18.1).bind fun d19 =>
some ((Dv.tup [d17,d19]),c18.2)
noncomputable def EW (a0:Dv):Option (Dv×Dv):=
(CV a0 (Dv.int 4)).bind fun c0 =>
(An c0.2 (Dv.int 5)).bind fun c1 =>
RZ c1.1 fun i2 =>
(Hn c0.1 none (some i2)).bind fun d3 =>
(items d3).bind fun s4 =>
FY s4 ((BF Dl s4).bind fun y10 =>
(CV c1.2 (Dv.int 4)).bind fun c11 =>
(An c11.2 (Dv.int 8)).bind fun c12 =>
(AC (Dv.lst [(Dv.int 1),(Dv.int 2),(Dv.int 3),(Dv.int 2),(Dv.int 4),(Dv.int 1),(Dv.int 2),(Dv.int 0)]) c12.1).bind fun d13 =>
(Cu [d13]).bind fun s14 =>
FY s14 ((CW (FI c11.1) s14 c12.2).bind fun p20 =>
(AX (Dv.lst y10)).bind fun d21 =>
(AX (Dv.lst p20.1)).bind fun d22 =>
some ((Dv.tup [d21,d22]),p20.2)))
theorem Ud:EM md bp (top 27) [0] 1=true:=by kernel_rfl
theorem UP:GL md bp (top 27) [0] 1 (one EW):=RM (by kernel_rfl) fun _=>(by kernel_rfl)
def bo:List (Str×Sig):=("_law_shape", AR (AB (top 27)) [0] 1 false (one EW))::bp
noncomputable def Ik (a2:Dv) (x2:Dv) (t3:Dv):Option (Dv×Dv):=
(An t3 a2).bind fun c4 =>
some (c4.1,c4.2)
noncomputable def Ij (a2:Dv) (x14:Dv) (t15:Dv):Option (Dv×Dv):=
(An t15 a2).bind fun c16 =>
some (c16.1,c16.2)
noncomputable def Ii (a2:Dv) (x24:Dv) (t25:Dv):Option (Dv×Dv):=
(An t25 a2).bind fun c26 =>
some (c26.1,c26.2)
noncomputable def FH (a2:Dv) (x21:Dv) (t22:Dv):Option (Dv×Dv):=
(Cu [a2]).bind fun s23 =>
FY s23 ((CW (Ii a2) s23 t22).bind fun p27 =>
(AX (Dv.lst p27.1)).bind fun d28 =>
some (d28,p27.2))
noncomputable def FC (a2:Dv) (t10_1:Dv) (t10_2:Dv) (t11_2:Dv):Option (Dv×Dv):=
(PN t11_2 (Dv.int 1)).bind fun b12 =>
if b12=true then
DY "list" t10_2 (
(Cu [a2]).bind fun s13 =>
FY s13 ((CW (Ij a2) s13 t10_1).bind fun p17 =>
(AX (Dv.lst p17.1)).bind fun d18 =>
(BA t10_2 [d18]).bind fun r19 =>
some (p17.2,r19.2)))
else
DY "list" t10_2 (
(Cu [a2]).bind fun s20 =>
FY s20 ((CW (FH a2) s20 t10_1).bind fun p29 =>
(AX (Dv.lst p29.1)).bind fun d30 =>
(BA t10_2 [d30]).bind fun r31 =>
some (p29.2,r31.2)))
noncomputable def Dn (a2:Dv) (x9:Dv) (t10:Dv×Dv):Option (Dv×Dv):=
(Vp [5,6] x9).bind fun (t11:Dv×Dv) =>
((FC a2 t10.1 t10.2 t11.2)).bind fun t32 =>
some (t32.1,t32.2)
noncomputable def Do (a0 a1 a2:Dv):Option (Dv×Dv):=
(AC a1 (Dv.int 0)).bind fun d0 =>
(items d0).bind fun s1 =>
FY s1 ((CW (Ik a2) s1 a0).bind fun p5 =>
(AX (Dv.lst p5.1)).bind fun d6 =>
(AC a1 (Dv.int 1)).bind fun d7 =>
(items d7).bind fun s8 =>
(BP (Dn a2) s8 (p5.2,(Dv.lst []))).bind fun t33 =>
(AX t33.2).bind fun d34 =>
some ((Dv.tup [a2,d6,d34]),t33.1))
theorem Uc:EM md bo (top 28) [0] 1=true:=by kernel_rfl
theorem UO:GL md bo (top 28) [0] 1 (Zj Do):=kU (by kernel_rfl) fun _ _ _=>(by kernel_rfl)
def bj:List (Str×Sig):=("_law_world", AR (AB (top 28)) [0] 1 false (Zj Do))::bo
noncomputable def Ki (x1:Dv) (t2:Dv):Option (Dv):=
DY "list" t2 (
(Bi t2 [x1]).bind fun r3 =>
some r3.2)
noncomputable def Gr (a0:Dv):Option (Dv):=
(items a0).bind fun s0 =>
(BP Ki s0 (Dv.lst [])).bind fun t4 =>
some t4
theorem Xg:EM md bj (top 29) [] 1=true:=by kernel_rfl
theorem XR:GL md bj (top 29) [] 1 (one Gr):=RM (by kernel_rfl) fun _=>(by kernel_rfl)
def bh:List (Str×Sig):=("_law_flat", AR (AB (top 29)) [] 1 false (one Gr))::bj
noncomputable def FM (a0:Dv) (a1:Dv) (x6:Dv) (t7:Dv):Option (Dv):=
DY "list" t7 (
(AC a0 (Dv.int 0)).bind fun d8 =>
(AC d8 x6).bind fun d9 =>
(AI d9 (Dv.str [32])).bind fun d10 =>
(AC a1 (Dv.int 1)).bind fun d11 =>
(AC d11 x6).bind fun d12 =>
(CP d12).bind fun d13 =>
(AI d10 d13).bind fun d14 =>
(BA t7 [d14]).bind fun r15 =>
some r15.2)
noncomputable def FF (t24_2:Dv) (d27:Dv):Option (Dv):=
(PN t24_2 (Dv.int 2)).bind fun b28 =>
if b28=true then
(Gr d27).bind fun c29 =>
some c29
else
some d27
noncomputable def Il (x32:Dv):Option Dv:=
(CP x32).bind fun d33 =>
some d33
noncomputable def FL (a0:Dv) (a1:Dv) (x20:Dv) (t21:Dv):Option (Dv):=
(AC a0 (Dv.int 1)).bind fun d22 =>
(AC d22 x20).bind fun d23 =>
(Vp [4,5] d23).bind fun (t24:Dv×Dv) =>
(AC a1 (Dv.int 2)).bind fun d25 =>
(AC d25 x20).bind fun d26 =>
(EF d26).bind fun d27 =>
((FF t24.2 d27)).bind fun t30 =>
DY "list" t21 (
DY "str" (Dv.str [32]) (
(items t30).bind fun s31 =>
FY s31 ((BF Il s31).bind fun y34 =>
(AI (Dv.lst [t24.1]) (Dv.lst y34)).bind fun d35 =>
(Bq (Dv.str [32]) d35).bind fun d36 =>
(BA t21 [d36]).bind fun r37 =>
some r37.2)))
noncomputable def EX (a0 a1:Dv):Option (Dv):=
(AC a1 (Dv.int 0)).bind fun d0 =>
(CP d0).bind fun d1 =>
(AI (Dv.str [119,111,114,108,100,32]) d1).bind fun d2 =>
(AC a0 (Dv.int 0)).bind fun d3 =>
(Ak d3).bind fun d4 =>
(Cu [d4]).bind fun s5 =>
(BP (FM a0 a1) s5 (Dv.lst [d2])).bind fun t16 =>
(AC a0 (Dv.int 1)).bind fun d17 =>
(Ak d17).bind fun d18 =>
(Cu [d18]).bind fun s19 =>
(BP (FL a0 a1) s19 t16).bind fun t38 =>
DY "str" (Dv.str [10]) (
(Bq (Dv.str [10]) t38).bind fun d39 =>
some d39)
theorem Uh:EM md bh (top 30) [] 1=true:=by kernel_rfl
theorem US:GL md bh (top 30) [] 1 (two EX):=YD (by kernel_rfl) fun _ _=>(by kernel_rfl)
def bg:List (Str×Sig):=("_law_lines", AR (AB (top 30)) [] 1 false (two EX))::bh
noncomputable def FJ (self:Dv->Option (Dv)) (x3:Dv):Option Dv:=
(self x3).bind fun c4 =>
bif nol c4 then
some c4
else none
noncomputable def Pn (a0:Dv):Option (Dv):=
(Fm a0 (Dv.ty "int")).bind fun d7 =>
Ni d7 fun b8 =>
if b8=true then
(Fm a0 (Dv.ty "bool")).bind fun d9 =>
Ni d9 fun b10 =>
some (Dv.bl (!b10))
else
some (Dv.bl false)
noncomputable def Al:Nat->Dv->Option (Dv)
 | 0,_=>none
 | n+1,a0=>(
(Fm a0 (Dv.ty "tuple")).bind fun d0 =>
(Hh d0).bind fun b1 =>
if b1=true then
(items a0).bind fun s2 =>
FY s2 ((BF (FJ (Al n)) s2).bind fun y5 =>
(EN (Dv.lst y5)).bind fun d6 =>
some d6)
else
((Pn a0)).bind fun t11 =>
some t11)
theorem Ue (n:Nat):EM md (("_law_plain", AR (AB (top 31)) [] 0 true (one (Al n)))::bg) (top 31) [] 0=true:=by kernel_rfl
theorem UQ (n:Nat):GL md (("_law_plain", AR (AB (top 31)) [] 0 true (one (Al n)))::bg) (top 31) [] 0 (one (Al (n+1))):=RM (by kernel_rfl) fun _=>(by kernel_rfl)
def GS:Dv->Option (Dv):=(Classical.choice (⟨⟨Al 10,rfl⟩⟩:Nonempty {f:Dv->Option (Dv) // f=Al 10})).1
theorem HQ:GS=Al 10:=(Classical.choice (⟨⟨Al 10,rfl⟩⟩:Nonempty {f:Dv->Option (Dv) // f=Al 10})).2
def Tv:List (Str×Sig):=("_law_plain", AR (AB (top 31)) [] 0 true (one GS))::bg
noncomputable def Gd (c0:Dv) (c1:Dv):Option (Bool):=
(Fm c1 (Dv.ty "str")).bind fun d2 =>
(Hh d2).bind fun b3 =>
if (!b3)=true then
some true
else
(RY c1 c0).bind fun b4 =>
some b4
noncomputable def Gi (a1:Dv) (c6:Dv):Option (Dv):=
(GS c6).bind fun c7 =>
bif nol c7 then
Ni c7 fun b8 =>
if b8=true then
(PN c6 a1).bind fun b9 =>
some (Dv.bl b9)
else
some (Dv.bl false)
else none
noncomputable def EH (a0 a1:Dv):Option (Dv):=
(EX a0 a1).bind fun c0 =>
(CJ a0 a1).bind fun c1 =>
((Gd c0 c1)).bind fun t5 =>
if t5=true then
some (Dv.bl false)
else
(CK a0 c0).bind fun c6 =>
((Gi a1 c6)).bind fun t10 =>
some t10
theorem Xf:EM md Tv (top 32) [] 0=true:=by kernel_rfl
theorem XQ:GL md Tv (top 32) [] 0 (two EH):=YD (by kernel_rfl) fun _ _=>(by kernel_rfl)
def fv:List (Str×Sig):=("_law_good", AR (AB (top 32)) [] 0 true (two EH))::Tv
noncomputable def SV (x8:Dv):Option Dv:=
(Vp [10,11] x8).bind fun (t9:Dv×Dv) =>
(AI t9.1 (Dv.str [47])).bind fun d10 =>
(CP t9.2).bind fun d11 =>
(AI d10 d11).bind fun d12 =>
some d12
noncomputable def SU (x32:Dv):Option Dv:=
(Vp [10,11] x32).bind fun (t33:Dv×Dv) =>
(AI t33.1 (Dv.str [47])).bind fun d34 =>
(CP t33.2).bind fun d35 =>
(AI d34 d35).bind fun d36 =>
some d36
noncomputable def Mc (x55:Dv):Option (Option Dv):=
(Vp [12,11] x55).bind fun (t56:Dv×Dv) =>
(PN t56.2 (Dv.int 2)).bind fun b57 =>
if b57=true then
some (some t56.2)
else some none
noncomputable def Jc (c1_1:Dv) (c49_2:Dv) (d50:Dv):Option (Dv×Dv):=
(An c49_2 (Dv.int 8)).bind fun c51 =>
(PN c51.1 (Dv.int 0)).bind fun b52 =>
if b52=true then
(AC c1_1 (Dv.int 1)).bind fun d53 =>
(items d53).bind fun s54 =>
FY s54 ((Mw Mc s54).bind fun y58 =>
(Ak (Dv.lst y58)).bind fun d59 =>
(An c51.2 (Dv.int 36)).bind fun c60 =>
(AI (Dv.int 5) c60.1).bind fun d61 =>
(AC (Dv.lst [(Dv.int 40),(Dv.int 34),(Dv.int 24),(Dv.int 20),(Dv.int 17)]) d59).bind fun d62 =>
(Hi d61 d62).bind fun d63 =>
some (c60.2,d63))
else
some (c51.2,d50)
noncomputable def Me (a0:Dv) (c1_1:Dv) (x46:Dv) (t47:Dv):Option (Lp Dv (Dv) (Unit)):=
(DU a0 x46).bind fun c48 =>
(An c48 (Dv.int 4)).bind fun c49 =>
(AI (Dv.int 1) c49.1).bind fun d50 =>
((Jc c1_1 c49.2 d50)).bind fun t64 =>
DY "list" t47 (
(Do t64.1 c1_1 t64.2).bind fun c65 =>
(BA t47 [c65.1]).bind fun r66 =>
(Eo (Dv.int 1)).bind fun d67 =>
(AC r66.2 d67).bind fun d68 =>
(EH c1_1 d68).bind fun c69 =>
bif nol c69 then
(Hh c69).bind fun b70 =>
if (!b70)=true then
some (.rt (Dv.bl false) ())
else
some (.go r66.2)
else none)
noncomputable def WH (a0:Dv):Option (Dv):=
(DU a0 (Dv.int 0)).bind fun c0 =>
(EW c0).bind fun c1 =>
DY "str" (Dv.str [32]) (
(AC c1.1 (Dv.int 0)).bind fun d2 =>
(EF d2).bind fun d3 =>
(AI (Dv.lst [(Dv.str [115,104,97,112,101])]) d3).bind fun d4 =>
(AI d4 (Dv.lst [(Dv.str [124])])).bind fun d5 =>
(AC c1.1 (Dv.int 1)).bind fun d6 =>
(items d6).bind fun s7 =>
FY s7 ((BF SV s7).bind fun y13 =>
(AI d5 (Dv.lst y13)).bind fun d14 =>
(Bq (Dv.str [32]) d14).bind fun d15 =>
(BZ d15).bind fun c16 =>
(RY c16 c1.1).bind fun b17 =>
if b17=true then
some (Dv.bl false)
else
(AC c1.1 (Dv.int 0)).bind fun d18 =>
(AI d18 (Dv.tup [(Dv.str [65,98,99,100,101,102]),(Dv.str [83,104,97,112,101])])).bind fun d19 =>
(AC c1.1 (Dv.int 0)).bind fun d20 =>
(AI d19 d20).bind fun d21 =>
(AC c1.1 (Dv.int 1)).bind fun d22 =>
(AI d22 (Dv.tup [(Dv.tup [(Dv.str [97,98,99,100,101,102]),(Dv.int 1)]),(Dv.tup [(Dv.str [108,101,116,115]),(Dv.int 2)])])).bind fun d23 =>
(AC c1.1 (Dv.int 1)).bind fun d24 =>
(AI d23 d24).bind fun d25 =>
DY "str" (Dv.str [32]) (
(AC (Dv.tup [d21,d25]) (Dv.int 0)).bind fun d26 =>
(EF d26).bind fun d27 =>
(AI (Dv.lst [(Dv.str [115,104,97,112,101])]) d27).bind fun d28 =>
(AI d28 (Dv.lst [(Dv.str [124])])).bind fun d29 =>
(AC (Dv.tup [d21,d25]) (Dv.int 1)).bind fun d30 =>
(items d30).bind fun s31 =>
FY s31 ((BF SU s31).bind fun y37 =>
(AI d29 (Dv.lst y37)).bind fun d38 =>
(Bq (Dv.str [32]) d38).bind fun d39 =>
(BZ d39).bind fun c40 =>
(RY c40 (Dv.tup [d21,d25])).bind fun b41 =>
if b41=true then
some (Dv.bl false)
else
(Ak a0).bind fun d42 =>
(Hi (Dv.int 9) d42).bind fun d43 =>
(MI (Dv.int 3) d43).bind fun d44 =>
(Pq [(Dv.int 1),d44]).bind fun s45 =>
(NK (Me a0 c1.1) s45 (Dv.lst [])).bind fun l76=>l76.el (fun (t71:Dv) =>
(AC t71 (Dv.int 0)).bind fun d74 =>
(EH c1.1 d74).bind fun c75 =>
bif nol c75 then
some c75
else none) fun (e72:Dv) (r73:Unit) =>
some e72))))
theorem gO:EM md fv (top 33) [] 1=true:=by kernel_rfl
theorem gK:GL md fv (top 33) [] 1 (one WH):=RM (by kernel_rfl) fun _=>(by kernel_rfl)
end My
set_option maxHeartbeats 1000000
namespace R
open PySem L2
def Fd (x:Dv):Prop:=∃ a b:Int,x=.lst [.int a,.int b]
section
variable {γ τ ρ:Type}
theorem Cn (g:Dv->γ->Option (Dv×γ)) (P:γ->Prop) (R:Dv->Prop):∀ (xs:List Dv) (c:γ),P c->(∀ x∈xs,∀ c,P c->∃ d c',g x c=some (d,c')/\R d/\P c')->∃ ds c',CW g xs c=some (ds,c')/\ds.length=xs.length/\(∀ d∈ds,R d)/\P c'
 | [],c,hc,_=>⟨[],c,rfl,rfl,fun _ z=>(lU z).elim,hc⟩
 | x::xs,c,hc,h=>by
  obtain ⟨d,c1,e1,r1,p1⟩:=h x kg c hc;obtain ⟨ds,c2,e2,l2,r2,p2⟩:=Cn g P R xs c1 p1 fun y hy=>h y (kh _ hy)
  refine ⟨d::ds,c2,by simp only [CW,e1,e2,dL],by rw [lE,lE,l2],fun y hy=>?_,p2⟩;rcases km.mp hy with rfl | hy
  ·exact r1
  ·exact r2 y hy
theorem LU (g:Dv->γ->Option γ) (I:Nat->γ->Prop):∀ (xs:List Dv) (k:Nat) (c:γ),I k c->(∀ i x,xs[i]?=some x->∀ c,I (k+i) c->∃ c',g x c=some c'/\I (k+i+1) c')->∃ c',BP g xs c=some c'/\I (k+xs.length) c'
 | [],k,c,hc,_=>⟨c,rfl,hc⟩
 | x::xs,k,c,hc,h=>by
  obtain ⟨c1,e1,i1⟩:=h 0 x rfl c hc;obtain ⟨c2,e2,i2⟩:=LU g I xs (k+1) c1 i1 fun i y hy c hc=>by
   have:=h (i+1) y hy c (by rw [show k+(i+1)=k+1+i by omega];exact hc);rw [show k+(i+1)+1=k+1+i+1 by omega] at this;exact this
  exact ⟨c2,by simp only [BP,e1,e2,dL],by rw [lE,show k+(xs.length+1)=k+1+xs.length by omega];exact i2⟩
theorem DW (g:Dv->Option Dv) (f:Dv->Dv):∀ (xs:List Dv),(∀ x∈xs,g x=some (f x))->BF g xs=some (xs.map f)
 | [],_=>rfl
 | x::xs,h=>by simp only [BF,h x kg,DW g f xs fun y hy=>h y (kh _ hy),dL,ko]
theorem LK (g:Dv->Option Dv) (R:Dv->Prop):∀ (xs:List Dv),(∀ x∈xs,∃ d,g x=some d/\R d)->∃ ds,BF g xs=some ds/\ds.length=xs.length/\∀ d∈ds,R d
 | [],_=>⟨[],rfl,rfl,fun _ z=>by cases z⟩
 | x::xs,h=>by
  obtain ⟨d,e1,r1⟩:=h x kg;obtain ⟨ds,e2,l2,r2⟩:=LK g R xs fun y hy=>h y (kh _ hy)
  refine ⟨d::ds,by simp only [BF,e1,e2,dL],by rw [lE,lE,l2],fun y hy=>?_⟩;rcases km.mp hy with rfl | hy
  ·exact r1
  ·exact r2 y hy
theorem As {α:Type} {xs:List Dv} {o:Option α} (h:xs.length<=1000000):FY xs o=o:=by unfold FY;rw [if_pos h]
end
theorem atI_nat {α:Type} (xs:List α) (i:Nat) (h:i < xs.length):Dx xs (i:Int)=some xs[i]:=by
 unfold Dx LO;rw [if_pos (by omega),if_pos (by omega)];simp [h]
theorem KI {α:Type} {xs:List α} {i:Int} (h0:0<=i) (h:i < xs.length):∃ x∈xs,Dx xs i=some x:=by
 obtain ⟨n,rfl⟩:∃ n:Nat,i=n:=⟨i.toNat,by omega⟩;exact ⟨xs[n]'(by omega),mw _,atI_nat xs n (by omega)⟩
theorem gq {xs:List Dv} {i:Int} (h0:0<=i) (h:i < xs.length):∃ x∈xs,AC (.lst xs) (.int i)=some x:=KI h0 h
theorem gp {l:List Nat} {i:Int} (h0:0<=i) (h:i < l.length) (hl:l.length<=1000000):∃ c∈l,AC (.str l) (.int i)=some (.str [c]):=by
 obtain ⟨c,hc,e⟩:=KI h0 h;exact ⟨c,hc,by simp only [AC,if_pos hl,e,lX]⟩
theorem GO {n:Int} (h0:-1000000000<=n) (h:n<=1000000000):Cu [.int n]=some ((List.range n.toNat).map fun k=>.int (k:Nat)):=by
 have:small n=true:=by unfold small;simp [h0,h]
 simp only [Cu,this,cond_true,Int.zero_add]
theorem WJ (n:Nat) (h:n<=1000000):Cu [.int (n:Nat)]=some ((List.range n).map fun k=>.int (k:Nat)):=by
 have:=GO (n:=(n:Int)) (by omega) (by omega);simpa using this
theorem GB {α:Type} (xs:List Dv) (o:Option α):DY "list" (.lst xs) o=o:=rfl
theorem FW {α:Type} (l:List Nat) (o:Option α):DY "str" (.str l) o=o:=rfl
theorem cy {R:Type} (b:Bool) (k:Bool->Option R):Ni (.bl b) k=k b:=rfl
theorem VU {R:Type} (i:Int) (k:Int->Option R):RZ (.int i) k=k i:=rfl
theorem MT (b:Bool):Hh (.bl b)=some b:=rfl
theorem Jl (b:Bool):nol (.bl b)=true:=rfl
theorem PY {β:Type} {i j:Nat} (x y:Dv) (f:Dv×Dv->Option β):((Vp [i,j] (.tup [x,y])).bind fun (t:Dv×Dv)=>f t)=f (x,y):=rfl
theorem En {xs:List Dv} {y:Dv} (h:xs.length<=1000000):BA (.lst xs) [y]=some (.non,.lst (xs++[y])):=by simp only [BA,if_pos h]
theorem gB {xs ys:List Dv} (h:xs.length+ys.length<=1000000):Bi (.lst xs) [.lst ys]=some (.non,.lst (xs++ys)):=by simp only [Bi,if_pos h]
theorem Ow {α:Type} {xs:List α} {lo hi:Option Int} {x:α} (h:x∈cutA xs lo hi):x∈xs:=List.mem_of_mem_drop (List.mem_of_mem_take h)
theorem Xc {α:Type} (xs:List α) (lo hi:Option Int):(cutA xs lo hi).length<=xs.length:=by
 unfold cutA;rw [lZ,me];omega
theorem cL (l:List Nat) (lo hi:Option Int):Xd l lo hi=cutA l lo hi:=rfl
theorem Bx:∀ ls:List (List Nat),Ap (ls.map Dv.str)=true
 | []=>rfl
 | x::xs=>by simp only [ko,Ap,Dv.cmp,Bx xs,mD]
theorem Bw:∀ ls:List (List Nat),Bj (ls.map Dv.str)=0
 | []=>rfl
 | x::xs=>by simp only [ko,Bj,Dv.dep,Bw xs];rfl
theorem Du (x:List Nat):∀ ls:List (List Nat),FU (.str x) (ls.map Dv.str)=ls.contains x
 | []=>rfl
 | y::ys=>by
  have:=Du x ys;simp only [FU] at this;simp only [FU,ko,mI,this,List.contains_cons,eqV]
  by_cases e:y=x
  ·subst e;simp
  ·have e2:¬ x=y:=fun z=>e z.symm
   have h1:(y == x)=false:=by simpa using e
   have h2:(x == y)=false:=by simpa using e2
   rw [h1,h2]
theorem VS (neg:Bool) (x:List Nat) (ls:List (List Nat)):GJ neg (.str x) (.lst (ls.map Dv.str))=some (if neg=true then !ls.contains x else ls.contains x):=by
 simp only [GJ,dF,Dv.cmp,Bx,Bw,mD,lq,decide_true,if_true,Du]
theorem JQ (neg:Bool) (x:List Nat) (ls:List (List Nat)):GJ neg (.str x) (.tup (ls.map Dv.str))=some (if neg=true then !ls.contains x else ls.contains x):=by
 simp only [GJ,dF,Dv.cmp,Bx,Bw,mD,lq,decide_true,if_true,Du]
theorem YK (neg:Bool) (x:List Nat) (ls:List (List Nat)):GJ neg (.str x) (.mtp ls)=some (if neg=true then !ls.contains x else ls.contains x):=by
 simp only [GJ,dF,Dv.cmp,Bx,Bw,mD,lq,decide_true,if_true,Du]
theorem BC (i j:Int):AI (.int i) (.int j)=some (.int (i+j)):=rfl
theorem MH (i j:Int) (h:0 < j):Dg (.int i) (.int j)=some (.int (i % j)):=by simp only [Dg,Dh,h,decide_true,if_true]
theorem Bh (i j:Int):PN (.int i) (.int j)=some (decide (i=j)):=by
 simp only [KH,Dv.cmp,Dv.dep,mD,lq,decide_true,if_true,eqV,lG,if_false];congr 1
theorem PM (i j:Int):RY (.int i) (.int j)=some (!decide (i=j)):=by
 simp only [KH,Dv.cmp,Dv.dep,mD,lq,decide_true,if_true,eqV];congr 1
theorem IT:∀ ls:List (List Nat),IU (ls.map Dv.str)=some ls
 | []=>rfl
 | x::xs=>by simp only [ko,IU,IT xs,lX]
end R
set_option maxHeartbeats 1000000
namespace My
open PySem L2 R
theorem AY {f:Dv} (hf:Fd f) {n:Int} (h0:0 < n) (h1:n < 1073741824):∃ (r:Nat) (f':Dv),An f (.int n)=some (.int r,f')/\(r:Int) < n/\Fd f':=by
 obtain ⟨a,b,rfl⟩:=hf;have i0:∀ x y:Dv,AC (.lst [x,y]) (.int 0)=some x:=fun _ _=>rfl
 have i1:∀ x y:Dv,AC (.lst [x,y]) (.int 1)=some y:=fun _ _=>rfl
 have s0:∀ x y d:Dv,DF (.lst [x,y]) (.int 0) d=some (.lst [d,y]):=fun _ _ _=>rfl
 have s1:∀ x y d:Dv,DF (.lst [x,y]) (.int 1) d=some (.lst [x,d]):=fun _ _ _=>rfl
 have m:∀ x:Int,∃ r:Nat,x % n=r/\(r:Int) < n:=fun x=>⟨(x % n).toNat,by have:=nD x (show n≠0 by omega);omega,by have:=nD x (show n≠0 by omega);have:=nP x h0;omega⟩
 have big1:big 48271=true:=by decide
 have big2:big 40692=true:=by decide
 have big3:big 2147483647=true:=by decide
 unfold An;simp only [i0,dL,Dc,VR]
 by_cases h:0 < a
 ·obtain ⟨r,e,hr⟩:=m a;refine ⟨r,.lst [.int (a / n),.int b],?_,hr,a / n,b,rfl⟩;simp only [h,decide_true,if_true,Dg,Vc,Dh,h0,h1,mD,dL,i0,s0,e]
 ·simp only [h,decide_false,lG,if_false,i1,s1,CU,big1,big2,big3,Bool.or_true,if_true,dL,Dg,Vc,Dh,AI,h0,decide_true,show (0:Int) < 2147483647 by decide,show (0:Int) < 2147483399 by decide,show (0:Int) < 8191 by decide,show (8191:Int) < 1073741824 by decide,mD];obtain ⟨r,e,hr⟩:=m (((b * 48271 % 2147483647) * 2147483647+((b * 48271 % 2147483647 * 40692+30103) % 2147483399+1)) / 8191);exact ⟨r,_,by rw [e],hr,_,_,rfl⟩
theorem JC {ns:List Int} {k:Nat}:∃ f,DU (.scr ns) (.int k)=some f/\Fd f:=by
 have b1:big 7907=true:=by decide
 have b2:big 2147483629=true:=by decide
 have b3:big 31=true:=by decide
 have b4:big 48271=true:=by decide
 have b5:big 40692=true:=by decide
 have c1:∃ c:Int,Gk (.scr ns) (.int k) (.int (7907 * k+13579))=some (.int c):=by
  unfold Gk Kf;simp only [Ak,dL,Dc,VR]
  by_cases h:(k:Int) < ns.length
  ·simp only [h,decide_true,if_true,AC,atI_nat ns k (by omega),lX,dL];exact ⟨_,rfl⟩
  ·simp only [h,decide_false,lG,if_false]
   by_cases h2:0 < (ns.length:Int)
   ·have e:=nD (k:Int) (show (ns.length:Int)≠0 by omega);have e':=nP (k:Int) h2;obtain ⟨x,_,ex⟩:=KI e e';simp only [h2,decide_true,if_true,Dg,Dh,dL,AC,ex,lX,CU,b1,b3,nE,Bool.or_true,AI,show (0:Int) < 2147483629 by decide];exact ⟨_,rfl⟩
   ·simp only [h2,decide_false,lG,if_false];exact ⟨_,rfl⟩
 obtain ⟨c,e⟩:=c1;have c2:∃ d:Int,Gj (.int c)=some (.int d):=by
  unfold Gj;simp only [dC,Dh,show (decide ((0:Int)<=18) && decide ((18:Int)<=1000000) && decide ((10:Int).natAbs < 2 ^ 64))=true by decide,if_true,dL,Dc,VR];split<;>exact ⟨_,rfl⟩
 obtain ⟨d,e2⟩:=c2;unfold DU;simp only [CU,b1,b4,b5,nE,Bool.or_true,if_true,dL,AI,e,e2,Dg,Dh,show (0:Int) < 2147483629 by decide,show (0:Int) < 2147483646 by decide,decide_true];exact ⟨_,rfl,_,_,rfl⟩
def low (l:List Nat):Prop:=∀ c∈l,97<=c/\c<=122
noncomputable def kept:List (List Nat):=[[105,110,112,117,116,115],[100,101,102],[116,101,108,108],[108,101,116],[108,111,111,112],[112,105,99,107],[99,97,108,108],[119,111,114,108,100],[115,104,97,112,101]]
def gv (l:List Nat):Prop:=1<=l.length/\l.length<=6/\low l/\l∉kept
def Nq (l:List Nat):Prop:=∃ c r,l=c::r/\(65<=c/\c<=90)/\r.length<=5/\low r
theorem GQ {a b:List Nat} (ha:low a) (hb:low b):low (a++b):=fun c hc=>(lK.mp hc).elim (ha c) (hb c)
theorem Yv (l:List Nat):l++[113]∉kept:=fun h=>by
 have:(l++[113]).getLast?=some 113:=by simp
 simp only [kept,km,lU,or_false] at h;rcases h with h | h | h | h | h | h | h | h | h<;>(rw [h] at this;revert this;decide)
noncomputable abbrev jP:List Nat:=[97,98,99,100,101,102,103,104,105,106,107,108,109,110,111,112,113,114,115,116,117,118,119,120,121,122]
theorem YO:low jP:=by unfold low;decide
theorem Td {i:Int} (h0:0<=i) (h:i < 26):∃ c,AC (.str jP) (.int i)=some (.str [c])/\(97<=c/\c<=122):=by
 obtain ⟨c,hc,e⟩:=gp (l:=jP) h0 (show i < ((26:Nat):Int) by omega) (by decide);exact ⟨c,e,YO c hc⟩
theorem JX {P:List Nat->Prop}:∀ {ds:List Dv},(∀ d∈ds,∃ l,d=.str l/\P l)->∃ ls:List (List Nat),ds=ls.map .str/\∀ l∈ls,P l
 | [],_=>⟨[],rfl,fun _ z=>by cases z⟩
 | d::ds,h=>by
  obtain ⟨l,rfl,hl⟩:=h d kg;obtain ⟨ls,rfl,hls⟩:=JX fun x hx=>h x (kh _ hx)
  exact ⟨l::ls,rfl,fun x hx=>(km.mp hx).elim (fun e=>e▸hl) (hls x)⟩
theorem Tj (s:List Nat) (ls:List (List Nat)) (h:(ls.map List.length).sum+ls.length * s.length<=1000000):Bq (.str s) (.lst (ls.map .str))=some (.str (jn s ls)):=by
 simp only [Bq,IT,if_pos h]
theorem kQ:∀ cs:List Nat,jn [] (cs.map fun c=>[c])=cs
 | []=>rfl
 | a::b=>by
  show [a]++((b.map fun c=>[c]).flatMap fun y=>[]++y)=a::b;have:∀ b:List Nat,((b.map fun c=>[c]).flatMap fun y=>[]++y)=b:=fun b=>by
   induction b with
   | nil=>rfl
   | cons x y ih=>simp only [ko,List.flatMap_cons,ih];rfl
  rw [this];rfl
theorem du:∀ cs:List Nat,((cs.map fun c=>[c]).map List.length).sum=cs.length
 | []=>rfl
 | a::b=>by rw [ko,ko,List.sum_cons,du b];simp;omega
theorem Pk {f:Dv} (hf:Fd f) (xs:List Dv) (hl:xs.length<=1000):∃ z f',(∃ ds,CW Dm xs f=some (ds,f')/\Bq (.str []) (.lst ds)=some (.str z))/\z.length=xs.length/\low z/\Fd f':=by
 obtain ⟨ds,f',e,hl2,hd,hf'⟩:=Cn Dm Fd (fun d=>∃ l,d=.str l/\∃ c,l=[c]/\(97<=c/\c<=122)) xs f hf fun x _ c hc=>by
  obtain ⟨r,f',e,hr,hf'⟩:=AY hc (n:=26) (by decide) (by decide);obtain ⟨c,e2,hc⟩:=Td (i:=r) (by omega) hr;exact ⟨.str [c],f',by unfold Dm;simp only [e,e2,dL],⟨_,rfl,c,rfl,hc⟩,hf'⟩
 obtain ⟨ls,rfl,hls⟩:=JX hd;have:∃ cs:List Nat,ls=cs.map (fun c=>[c])/\low cs:=by
  clear e hl2 hd
  induction ls with
  | nil=>exact ⟨[],rfl,fun _ z=>by cases z⟩
  | cons l ls ih =>
   obtain ⟨cs,rfl,h2⟩:=ih fun x hx=>hls x (kh _ hx)
   obtain ⟨c,rfl,hc⟩:=hls l kg;exact ⟨c::cs,rfl,fun d hd=>(km.mp hd).elim (fun e=>e▸hc) (h2 d)⟩
 obtain ⟨cs,rfl,hcs⟩:=this;simp only [kb] at hl2;exact ⟨cs,f',⟨_,e,by rw [Tj _ _ (by rw [du];simp;omega),kQ]⟩,hl2,hcs,hf'⟩
theorem OW {l:List Nat} (h:low l) (lo hi:Option Int):low (cutA l lo hi):=fun c hc=>h c (Ow hc)
theorem SN (l:List Nat) (lo hi:Option Int) (h:l.length<=1000000):Hn (.str l) lo hi=some (.str (cutA l lo hi)):=by simp only [Hn,if_pos h,cL]
theorem EE (a b:List Nat) (h:a.length+b.length<=1000000):AI (.str a) (.str b)=some (.str (a++b)):=by simp only [AI,if_pos h]
theorem jB {α:Type} (xs:List α) (r:Nat):(cutA xs none (some (r:Int))).length<=r:=by
 unfold cutA;rw [lZ];unfold HT.sIx;simp only [];split<;>omega
theorem jA {α:Type} (xs:List α) (r:Nat) (h:Option Int):(cutA xs (some (r:Int)) h).length<=xs.length - r:=by
 unfold cutA;rw [lZ,me];have:HT.sIx xs.length 0 (some (r:Int))=min r xs.length:=by unfold HT.sIx;simp only [];split<;>omega
 omega
theorem Mr {l:List Nat} (h1:1<=l.length) (h4:l.length<=4) (hl:low l):∃ l',FE (.str l)=some (.str l')/\l'.length<=5/\gv l':=by
 unfold FE;have e:=JQ false l [[100,101,102],[108,101,116],[116,101,108,108],[108,111,111,112],[112,105,99,107],[99,97,108,108]];simp only [ko,mZ,lG,if_false] at e;simp only [e,dL];split
 ·refine ⟨l++[113],by rw [EE _ _ (by simp;omega)];rfl,by simp;omega,by simp,by simp;omega,GQ hl (by unfold low;decide),Yv l⟩
 ·rename_i c;refine ⟨l,rfl,by omega,h1,by omega,hl,fun hk=>c ?_⟩;rw [ki];simp only [kept,km,lU,or_false] at hk;rcases hk with rfl | rfl | rfl | rfl | rfl | rfl | rfl | rfl | rfl<;>first | (simp at h4;done) | decide
abbrev iD (x:Dv):Prop:=∃ l,x=.str l/\l.length<=5/\gv l
theorem HD {f:Dv} (hf:Fd f) {n:Nat} (h2:2<=n) (hn:n<=1000):∃ ns f',CV f (.int n)=some (.lst ns,f')/\ns.length=n/\(∀ x∈ns,iD x)/\Fd f':=by
 obtain ⟨r1,f1,e1,b1,hf1⟩:=AY hf (n:=4) (by decide) (by decide);have er:Cu [.int r1]=some ((List.range (r1:Int).toNat).map fun k=>.int (k:Nat)):=GO (by omega) (by omega);obtain ⟨zl,f2,⟨ds,e3,e4⟩,hz1,hz2,hf2⟩:=Pk hf1 ((List.range (r1:Int).toNat).map fun k=>.int (k:Nat)) (by simp;omega);simp only [kb,mT] at hz1;obtain ⟨r7,f7,e7,b7,hf7⟩:=AY hf2 (n:=26) (by decide) (by decide);have el:Ak (.str zl)=some (.int zl.length):=by simp only [Ak,if_pos (show zl.length<=1000000 by omega)]
 obtain ⟨r10,f10,e10,b10,hf10⟩:=AY hf7 (n:=(zl.length:Int)+1) (by omega) (by omega);obtain ⟨r11,f11,e11,b11,hf11⟩:=AY hf10 (n:=4) (by decide) (by decide);have en:Cu [.int n]=some ((List.range (n:Int).toNat).map fun k=>.int (k:Nat)):=GO (by omega) (by omega);obtain ⟨c,e12,ns,rfl,hl,hns⟩:=LU (FK (.str zl) (.int r7) (.int r10) (.int r11)) (fun i c=>∃ ns,c=.lst ns/\ns.length=i/\∀ x∈ns,iD x) ((List.range (n:Int).toNat).map fun k=>.int (k:Nat)) 0 (.lst []) ⟨[],rfl,rfl,fun _ z=>(lU z).elim⟩ fun i x hx c hc=>by
  obtain ⟨ns,rfl,hl,hns⟩:=hc;rw [kn] at hx;have hi:i < n:=by
   rcases nS i n with h | h
   ·exact h
   ·rw [mL (by simp;omega)] at hx;cases hx
  rw [kZ (by simp;omega)] at hx;simp only [lX,Option.some.injEq,List.getElem_range] at hx;subst hx;obtain ⟨c,ec,hc⟩:=Td (i:=((r7:Int)+7 * (i:Nat)) % 26) (nD _ (by decide)) (nP _ (by decide));have y1:=jB zl r10;have y3:=jA zl r10 (some (((r11:Int)+(i:Nat)) % 4));have lc:low [c]:=fun d hd=>by rw [la] at hd;subst hd;exact hc
  obtain ⟨l',e5,h5,hn5⟩:=Mr (l:=cutA zl none (some (r10:Int))++[c]++cutA zl (some (r10:Int)) (some (((r11:Int)+(i:Nat)) % 4))) (by simp;omega) (by simp only [lJ,lQ];omega) (GQ (GQ (OW hz2 _ _) lc) (OW hz2 _ _));refine ⟨.lst (ns++[.str l']),?_,ns++[.str l'],rfl,by rw [lJ,hl];rfl,fun x hx=>?_⟩
  ·have b7:big 7=true:=by decide
   unfold FK;simp only [CU,b7,nE,if_true,dL,BC,MH _ _ (show (0:Int) < 26 by decide),MH _ _ (show (0:Int) < 4 by decide),ec,VU,SN zl _ _ (by omega)];rw [EE _ _ (by simp;omega)];simp only [dL];rw [EE _ _ (by simp only [lJ,lQ];omega)];simp only [dL,e5,GB,En (show ns.length<=1000000 by omega)]
  ·rcases lK.mp hx with hx | hx
   ·exact hns x hx
   ·rw [la] at hx;subst hx;exact ⟨l',rfl,h5,hn5⟩
 have hl:ns.length=n:=by rw [hl];simp
 have last:∃ ms f',FD (.int n) f11 (.lst ns)=some (f',.lst ms)/\ms.length=n/\(∀ x∈ms,iD x)/\Fd f':=by
  have m2:∃ x∈ns,AC (.lst ns) (.int (-2))=some x:=by
   refine ⟨ns[n - 2]'(by omega),mw _,?_⟩;simp only [AC,Dx,LO];rw [if_neg (by omega),if_pos (by omega)];simp only [dL];rw [show (-2+(ns.length:Int)).toNat=n - 2 by omega];exact kZ (by omega)
  obtain ⟨x,hx,ex⟩:=m2;obtain ⟨l,rfl,hl5,hl2⟩:=id (hns x hx);have t1:∃ (b:Bool) (f':Dv),FB (.int n) f11 (.lst ns)=some (b,f')/\(b=true->l.length<=3)/\Fd f':=by
   unfold FB IZ;simp only [Dc,VR,show (1:Int) < n by omega,decide_true,if_true,dL,Eo,ex,Ak,if_pos (show l.length<=1000000 by omega)];split
   ·rename_i hlt;obtain ⟨r,f',e,_,h⟩:=AY hf11 (n:=4) (by decide) (by decide);simp only [e,dL,Bh];exact ⟨_,_,rfl,fun _=>by have:=of_decide_eq_true hlt;omega,h⟩
   ·exact ⟨_,_,rfl,(fun z=>by cases z),hf11⟩
  obtain ⟨b,f',et,hb3,hf'⟩:=t1;unfold FD;simp only [et,dL];cases b
  ·exact ⟨ns,f',by simp,hl,hns,hf'⟩
  ·have h3:=hb3 rfl;simp only [if_true,Eo,dL,ex,EE l [113] (by simp;omega),DF,LO];rw [if_neg (by omega),if_pos (by omega)];refine ⟨_,f',rfl,by rw [lM];exact hl,fun x hx=>?_,hf'⟩;rcases List.mem_or_eq_of_mem_set hx with hx | rfl
   ·exact hns x hx
   ·exact ⟨_,rfl,by simp;omega,by simp,by simp;omega,GQ hl2.2.2.1 (by unfold low;decide),Yv l⟩
 obtain ⟨ms,f',e13,hl3,hms,hf'⟩:=last;refine ⟨ms,f',?_,hl3,hms,hf'⟩;unfold CV;simp only [FW,e1,er,dL];rw [As (by simp;omega)];simp only [dL,e3,e4,e7,el,BC,e10,e11,en];rw [e12];simp only [dL,e13]
noncomputable abbrev Dd:=List Nat×Int
def AK (d:Dd):Dv:=.tup [.str d.1,.int d.2]
def DQ (F:List (List Nat)) (D:List Dd):Dv:=.tup [.tup (F.map .str),.tup (D.map AK)]
def Nr (d:Dd):Prop:=gv d.1/\(d.2=1\/d.2=2)
theorem UY {P:Dd->Prop}:∀ {ds:List Dv},(∀ x∈ds,∃ d,x=AK d/\P d)->∃ D:List Dd,ds=D.map AK/\∀ d∈D,P d
 | [],_=>⟨[],rfl,fun _ z=>by cases z⟩
 | x::ds,h=>by
  obtain ⟨l,rfl,hl⟩:=h x kg;obtain ⟨ls,rfl,hls⟩:=UY fun x hx=>h x (kh _ hx)
  exact ⟨l::ls,rfl,fun x hx=>(km.mp hx).elim (fun e=>e▸hl) (hls x)⟩
theorem Ua (c:Nat) (r:List Nat):cutA (c::r) none (some 1)=[c]/\cutA (c::r) (some 1) none=r:=by
 constructor
 ·unfold cutA HT.sIx;simp
 ·unfold cutA HT.sIx;simp
theorem Zc {c:Nat} (h:97<=c/\c<=122):65<=PyProof.Rows.up1 c/\PyProof.Rows.up1 c<=90:=by
 unfold PyProof.Rows.up1;split<;>omega
theorem NH {l:List Nat} (h:gv l) (h5:l.length<=5):∃ l',Dl (.str l)=some (.str l')/\Nq l':=by
 obtain ⟨h1,_,hl,_⟩:=h;cases l with
 | nil=>simp at h1
 | cons c r =>
  have hc:=hl c kg;simp only [lE] at h5;have eu:Fk (.str [c])=some (.str [PyProof.Rows.up1 c]):=by
   simp only [Fk,lp,List.all_nil,nu,lQ];rw [if_pos (by rw [decide_eq_true (by omega),decide_eq_true (by omega)];rfl)];rfl
  refine ⟨PyProof.Rows.up1 c::r,?_,_,r,rfl,Zc hc,by omega,fun d hd=>hl d (kh _ hd)⟩;unfold Dl;rw [SN _ _ _ (by simp;omega),SN _ _ _ (by simp;omega)];simp only [(Ua c r).1,(Ua c r).2,dL,FW,eu];rw [EE _ _ (by simp;omega)];rfl
theorem Mb {f:Dv} (hf:Fd f):∃ F D f',EW f=some (DQ F D,f')/\F.length<=4/\(∀ l∈F,Nq l)/\D.length<=4/\(∀ d∈D,Nr d)/\Fd f':=by
 obtain ⟨ns,f1,e1,hl,hns,hf1⟩:=HD hf (n:=4) (by decide) (by decide);obtain ⟨r2,f2,e2,b2,hf2⟩:=AY hf1 (n:=5) (by decide) (by decide);have h3:∀ x∈cutA ns none (some (r2:Int)),iD x:=fun x hx=>hns x (Ow hx)
 have l3:=Xc ns none (some (r2:Int));obtain ⟨ps,e4,l4,h4⟩:=LK Dl (fun x=>∃ l,x=.str l/\Nq l) (cutA ns none (some (r2:Int))) fun x hx=>by
  obtain ⟨l,rfl,h5,hn⟩:=h3 x hx;obtain ⟨l',e,hf⟩:=NH hn h5;exact ⟨_,e,l',rfl,hf⟩
 obtain ⟨F,rfl,hF⟩:=JX h4;obtain ⟨ms,f10,e10,hl10,hms,hf10⟩:=HD hf2 (n:=4) (by decide) (by decide);obtain ⟨r11,f11,e11,b11,hf11⟩:=AY hf10 (n:=8) (by decide) (by decide);have m:∀ x∈[(Dv.int 1),(Dv.int 2),(Dv.int 3),(Dv.int 2),(Dv.int 4),(Dv.int 1),(Dv.int 2),(Dv.int 0)],∃ k:Nat,x=.int k/\k<=4:=by
  intro x hx;simp only [km,lU,or_false] at hx;rcases hx with rfl | rfl | rfl | rfl | rfl | rfl | rfl | rfl
  all_goals first | exact ⟨4,rfl,by decide⟩ | exact ⟨0,rfl,by decide⟩ | exact ⟨1,rfl,by decide⟩ | exact ⟨2,rfl,by decide⟩ | exact ⟨3,rfl,by decide⟩
 obtain ⟨x,hx,ex⟩:=gq (xs:=[(Dv.int 1),(Dv.int 2),(Dv.int 3),(Dv.int 2),(Dv.int 4),(Dv.int 1),(Dv.int 2),(Dv.int 0)]) (i:=r11) (by omega) b11;obtain ⟨k,rfl,hk⟩:=m x hx;have er:Cu [.int k]=some ((List.range k).map fun j=>.int (j:Nat)):=WJ k (by omega);obtain ⟨qs,f16,e16,l6,h6,hf16⟩:=Cn (FI (.lst ms)) Fd (fun x=>∃ d,x=AK d/\Nr d) ((List.range k).map fun j=>.int (j:Nat)) f11 hf11 fun x hx c hc=>by
  obtain ⟨i,hi,rfl⟩:=lR.mp hx;have hi:=mR.mp hi;have ea:AC (.lst ms) (.int (i:Nat))=some ms[i]:=atI_nat ms i (by omega);obtain ⟨r,f',e,b,hf'⟩:=AY hc (n:=2) (by decide) (by decide);obtain ⟨l,el,_,hn⟩:=hms _ (mw (show i < ms.length by omega));exact ⟨.tup [ms[i],.int (1+r)],f',by unfold FI;simp only [ea,e,dL,BC],⟨(l,1+r),by rw [el];rfl,hn,by show (1+(r:Int)=1\/1+(r:Int)=2);omega⟩,hf'⟩
 obtain ⟨D,rfl,hD⟩:=UY h6;simp only [kb,mT] at l6 l4;refine ⟨F,D,f16,?_,by omega,hF,by omega,hD,hf16⟩;have e1':CV f (.int 4)=some (.lst ns,f1):=e1;have e10':CV f2 (.int 4)=some (.lst ms,f10):=e10;unfold EW;simp only [e1',e2,dL,VU,Hn,items];rw [As (by omega),e4];simp only [dL,e10',e11];rw [ex];simp only [dL,er];rw [As (by simp;omega),e16];rfl
theorem atI_nat' {α:Type} (a:α) (r:List α):Dx (a::r) 0=some a:=atI_nat (a::r) 0 (by simp)
theorem gm (a b:List Nat):PN (.str a) (.str b)=some (decide (a=b)):=by
 simp only [KH,Dv.cmp,Dv.dep,mD,lq,decide_true,if_true,R.eqV,lG,if_false];rw [ma]
theorem PL (a b:List Nat):RY (.str a) (.str b)=some (!decide (a=b)):=by
 simp only [KH,Dv.cmp,Dv.dep,mD,lq,decide_true,if_true,R.eqV];rw [ma]
theorem Tz (m:Nat):Q.figs (m:Int)=(Nat.toDigits 10 m).map Char.toNat:=W.KIN.signs_num m
theorem NM:∀ m,m < 100->(1<=((Nat.toDigits 10 m).map Char.toNat).length/\((Nat.toDigits 10 m).map Char.toNat).length<=2)/\(((Nat.toDigits 10 m).map Char.toNat).all fun c=>decide (48<=c) && decide (c<=57))=true/\(2<=((Nat.toDigits 10 m).map Char.toNat).length->((Nat.toDigits 10 m).map Char.toNat).head?≠some 48):=by decide +kernel
def fg (m:Nat):List Nat:=Q.figs (m:Int)
structure Fg (m:Nat):Prop where
 l1:1<=(fg m).length
 l2:(fg m).length<=2
 dg:∀ c∈fg m,48<=c/\c<=57
 hd:2<=(fg m).length->(fg m).head?≠some 48
 vl:PySem.NumText.digitsVal (fg m)=m
theorem ZE {m:Nat} (h:m < 100):Fg m:=by
 obtain ⟨⟨h1,h2⟩,h3,h4⟩:=NM m h;have e:fg m=(Nat.toDigits 10 m).map Char.toNat:=Tz m;refine ⟨by rw [e];exact h1,by rw [e];exact h2,fun c hc=>?_,by rw [e];exact h4,by rw [e];exact W.KIN.val_back m⟩;rw [e] at hc;have:=lO.mp h3 c hc;rw [kX,decide_eq_true_eq,decide_eq_true_eq] at this;exact this
theorem Gc {m:Nat} (h:m < 100):CP (.int (m:Nat))=some (.str (fg m)):=by
 simp only [CP];rw [if_pos (by omega)];rfl
theorem Nj (p:Nat->Bool):∀ l:List Nat,Ho (l.map fun c=>Dv.bl (p c))=some (l.map p)
 | []=>rfl
 | c::l=>by rw [ko,Ho,Nj p l];rfl
theorem NC (a b:Nat):ME (.str [a]) (.str [b])=some (decide (a<=b)):=by
 simp only [ME];congr 1;rw [<- decide_not];apply decide_eq_decide.mpr;constructor
 ·intro h;rcases nS b a with z | z
  ·exact (h (List.Lex.rel z)).elim
  ·exact z
 ·intro h z;cases z with
  | rel z=>omega
  | cons z=>cases z
theorem JU {l:List Nat} (h1:1<=l.length) (h6:l.length<=6):AZ (.str l)=some (.bl true):=by
 unfold AZ;have e:Ak (.str l)=some (.int l.length):=by simp only [Ak,if_pos (show l.length<=1000000 by omega)]
 have a:ME (.int 1) (.int (l.length:Nat))=some true:=by simp only [ME];rw [decide_eq_true (by omega)]
 have b:ME (.int (l.length:Nat)) (.int 6)=some true:=by simp only [ME];rw [decide_eq_true (by omega)]
 simp only [e,dL,a,b,if_true]
theorem Eg {m:Nat} (h:m < 100):BD (.str (fg m))=some (.int (m:Nat)):=by
 obtain ⟨h1,h2,h3,h4,h5⟩:=ZE h;have t1:Bz (.str (fg m))=some false:=by
  unfold Bz;have e:BF BR ((fg m).map fun c=>.str [c])=some ((fg m).map fun c=>.bl true):=by
   have:=DW BR (fun _=>.bl true) ((fg m).map fun c=>Dv.str [c]) fun x hx=>by
    obtain ⟨c,hc,rfl⟩:=lR.mp hx;obtain ⟨c1,c2⟩:=h3 c hc;unfold BR;simp only [NC,decide_eq_true c1,decide_eq_true c2,dL,if_true]
   rw [this,mO];rfl
  have ea:EN (.lst ((fg m).map fun _=>Dv.bl true))=some (.bl true):=by
   simp only [EN,Nj (fun _=>true),lX];congr 2;simp
  simp only [JU h1 (by omega),dL,Jl,cond_true,MT,mh,lG,if_false,items];rw [As (by simp;omega),e];simp only [dL,ea,MT,mh]
 have t2:By (.str (fg m))=some false:=by
  unfold By;have e:Ak (.str (fg m))=some (.int (fg m).length):=by simp only [Ak,if_pos (show (fg m).length<=1000000 by omega)]
  simp only [e,dL,Dc]
  by_cases c:(1:Int) < (fg m).length
  ·rw [decide_eq_true c];cases q:fg m with
   | nil=>rw [q] at h1;simp at h1
   | cons a r =>
    have i0:AC (.str (a::r)) (.int 0)=some (.str [a]):=by
     simp only [AC];rw [if_pos (by rw [<- q];omega),atI_nat' a r];rfl
    have ne:¬ a=48:=fun z=>h4 (by omega) (by rw [q,z];rfl)
    simp only [if_true,i0,dL,gm];rw [decide_eq_false (by simpa using ne)]
  ·rw [decide_eq_false c];rfl
 unfold BD;simp only [t1,t2,dL,lG,if_false,Hj];rw [if_pos (by
  rw [kX,kX,lO,decide_eq_true_eq];refine ⟨⟨fun c hc=>by rw [decide_eq_true (h3 c hc).1,decide_eq_true (h3 c hc).2];rfl,?_⟩,by omega⟩;cases q:fg m with
  | nil=>rw [q] at h1;simp at h1
  | cons a r=>rfl),h5]
 rfl
def Ep (l:List Nat):Prop:=10∉l/\32∉l
theorem Fe {l:List Nat} (h:low l):Ep l:=⟨fun z=>by have:=h _ z;omega,fun z=>by have:=h _ z;omega⟩
theorem Hb {l:List Nat} (h:Nq l):Ep l:=by
 obtain ⟨c,r,rfl,hc,_,hr⟩:=h;constructor<;>(rw [km];rintro (z | z);(· omega);(· have:=hr _ z;omega))
theorem Tn {c:Nat} {s:List Nat}:∀ {ls:List (List Nat)},c∈jn s ls->c∈s\/∃ l∈ls,c∈l
 | [],h=>by cases h
 | x::ys,h=>by
  rw [jn,lK,List.mem_flatMap] at h;rcases h with h | ⟨y,hy,h⟩
  ·exact .inr ⟨x,kg,h⟩
  ·rcases lK.mp h with h | h
   ·exact .inl h
   ·exact .inr ⟨y,kh _ hy,h⟩
theorem ND (s:List Nat) {N:Nat}:∀ {ls:List (List Nat)},(∀ l∈ls,l.length<=N)->(jn s ls).length<=ls.length * (N+s.length)
 | [],_=>by simp [jn]
 | x::ys,h=>by
  have hx:=h x kg;have:∀ ys:List (List Nat),(∀ l∈ys,l.length<=N)->(ys.flatMap fun y=>s++y).length<=ys.length * (N+s.length):=fun ys=>by
   induction ys with
   | nil=>intro _;simp
   | cons y ys ih =>
    intro h;have:=ih fun l hl=>h l (kh _ hl)
    have hy:=h y kg;rw [List.flatMap_cons,lJ,lJ,lE,mx];omega
  have:=this ys fun l hl=>h l (kh _ hl)
  rw [jn,lJ,lE,mx];omega
theorem Rx {N:Nat}:∀ {ls:List (List Nat)},(∀ l∈ls,l.length<=N)->(ls.map List.length).sum<=ls.length * N
 | [],_=>by simp
 | x::ys,h=>by
  have hx:=h x kg;have:=Rx fun l hl=>h l (kh _ hl)
  rw [ko,List.sum_cons,lE,mx];omega
theorem Jq {c N:Nat} {ls:List (List Nat)} (h:∀ l∈ls,l.length<=N) (hl:ls.length * (N+1)<=1000000):Bq (.str [c]) (.lst (ls.map .str))=some (.str (jn [c] ls)):=
 Tj [c] ls (by have:=Rx h;rw [Nat.mul_add] at hl;simp only [lQ];omega)
theorem ET {c N:Nat} {ls:List (List Nat)} (hn:ls≠[]) (h:∀ l∈ls,l.length<=N/\c∉l) (hl:ls.length * (N+1)<=1000000):Cg (.str (jn [c] ls)) (.str [c])=some (.lst (ls.map .str)):=by
 have:=ND [c] (fun l hl=>(h l hl).1);simp only [lQ] at this;simp only [Cg,if_pos (lI this hl),Ma hn fun p hp=>(h p hp).2]
theorem Ub {α:Type} (xs:List α) (a b:Nat) (h1:a<=xs.length) (h2:b<=xs.length):cutA xs (some (a:Int)) (some (b:Int))=(xs.drop a).take (b - a):=by
 unfold cutA HT.sIx;simp only [];rw [if_neg (by omega),if_neg (by omega)];congr 1
 ·omega
 ·congr 1;omega
theorem Ox {α:Type} (xs:List α) (a:Nat) (h1:a<=xs.length):cutA xs (some (a:Int)) none=xs.drop a:=by
 unfold cutA HT.sIx;simp only [];rw [if_neg (by omega),show min (a:Int).toNat xs.length=a by omega,List.take_of_length_le (by rw [me];omega)]
theorem cM {α:Type} (w:List α) (a b:α):cutA (w++[a,b]) none (some (-2))=w/\cutA (w++[a,b]) (some (-2)) none=[a,b]:=by
 have l:(w++[a,b]).length=w.length+2:=by simp
 constructor
 ·unfold cutA HT.sIx;simp only [l];rw [if_pos (by decide),nF,show (-2+((w.length+2:Nat):Int)).toNat - 0=w.length by omega,List.take_left]
 ·unfold cutA HT.sIx;simp only [l];rw [if_pos (by decide),show (-2+((w.length+2:Nat):Int)).toNat=w.length by omega,List.drop_left,show w.length+2 - w.length=2 by omega];rfl
theorem Gf {l:List Nat} (h:low l) (hl:l.length<=1000):CM (.str l)=some (.bl true):=by
 unfold CM;have e:BF Cp (l.map fun c=>.str [c])=some (l.map fun _=>.bl true):=by
  have:=DW Cp (fun _=>.bl true) (l.map fun c=>Dv.str [c]) fun x hx=>by
   obtain ⟨c,hc,rfl⟩:=lR.mp hx;obtain ⟨c1,c2⟩:=h c hc;unfold Cp;simp only [NC,decide_eq_true c1,decide_eq_true c2,dL,if_true]
  rw [this,mO];rfl
 have ea:EN (.lst (l.map fun _=>Dv.bl true))=some (.bl true):=by
  simp only [EN,Nj (fun _=>true),lX];congr 2;simp
 simp only [items,dL];rw [As (by simp;omega),e];simp only [dL,ea]
theorem QJ {l:List Nat} (h:gv l):EY (.str l)=some (.bl true):=by
 obtain ⟨h1,h6,hl,hk⟩:=h
 have e0:Fm (.str l) (.ty "str")=some (.bl true):=rfl
 have e1:=YK true l kept;have e2:kept.contains l=false:=by
  cases q:kept.contains l with
  | false=>rfl
  | true=>exact (hk (ki.mp q)).elim
 rw [e2] at e1;simp only [kept,if_true,Bool.not_false] at e1;unfold EY Ie Ig Ih;simp only [e0,dL,cy,if_true,JU h1 h6,Jl,cond_true,Gf hl (by omega),e1]
theorem NL {l:List Nat} (h:Nq l):DV (.str l)=some (.bl true):=by
 obtain ⟨c,r,rfl,hc,hr,hl⟩:=h
 have e0:Fm (.str (c::r)) (.ty "str")=some (.bl true):=rfl
 have i0:AC (.str (c::r)) (.int 0)=some (.str [c]):=by
  simp only [AC];rw [if_pos (by simp;omega),atI_nat' c r];rfl
 unfold DV Gn Gp Gq;simp only [e0,dL,cy,if_true,JU (l:=c::r) (by simp) (by simp;omega),Jl,cond_true,i0,NC,decide_eq_true hc.1,decide_eq_true hc.2,SN (c::r) _ _ (by simp;omega),(Ua c r).2,Gf hl (by omega)]
noncomputable def XW (i:Int):Nat:=if i=1 then 49 else 50
def dw (d:Dd):List Nat:=d.1++[47,XW d.2]
theorem UA {d:Dd} (h:Nr d):CP (.int d.2)=some (.str [XW d.2]):=by
 rcases h.2 with e | e<;>rw [e]
 ·exact (Gc (m:=1) (by decide)).trans (by congr 2)
 ·exact (Gc (m:=2) (by decide)).trans (by congr 2)
theorem XU (g:Dv->Option Dv) (hg:∀ a b,g (.tup [a,b])=(AI a (.str [47])).bind fun d10=>(CP b).bind fun d11=>(AI d10 d11).bind fun d12=>some d12) {d:Dd} (h:Nr d):g (AK d)=some (.str (dw d)):=by
 have l6:=h.1.2.1;rw [AK,hg,EE _ _ (by simp;omega)];simp only [dL,UA h];rw [EE _ _ (by simp;omega)];simp only [dL,dw,lh];rfl
theorem Qm {d:Dd} (h:Nr d):Cj (.str (dw d))=some (AK d):=by
 have l6:=h.1.2.1;have ll:(dw d).length=d.1.length+2:=by simp [dw]
 have ec:=cM d.1 47 (XW d.2);have ei:AC (.str (dw d)) (.int (-1))=some (.str [XW d.2]):=by
  simp only [AC];rw [if_pos (by omega)];simp only [Dx,LO];rw [if_neg (by omega),if_pos (by omega)];simp only [dL];rw [show (-1+((dw d).length:Int)).toNat=d.1.length+1 by omega];have:(dw d)[d.1.length+1]?=some (XW d.2):=by simp [dw]
  rw [this];rfl
 have eb:He (.str [47,XW d.2]) (.tup [(Dv.str [47,49]),(Dv.str [47,50])])=some false:=by
  have:=JQ true [47,XW d.2] [[47,49],[47,50]];simp only [ko,mZ,if_true] at this;refine this.trans ?_;rcases h.2 with e | e<;>rw [e]<;>rfl
 have ev:Hj (.str [XW d.2])=some (.int d.2):=by
  rcases h.2 with e | e<;>rw [e]<;>rfl
 unfold Cj Ft;simp only [Eo,dL,VU,SN (dw d) _ _ (by omega)];rw [show cutA (dw d) none (some (-2))=d.1 from ec.1,show cutA (dw d) (some (-2)) none=[47,XW d.2] from ec.2];simp only [QJ h.1,dL,Jl,cond_true,MT,mh,lG,if_false,eb,ei,ev,AK]
theorem LQ (x:List Nat) (Q:List (List Nat)):∀ P:List (List Nat),x∉P->Hx (.str x) ((P++x::Q).map .str)=some P.length
 | [],_=>by simp [Hx,R.eqV]
 | p::P,h=>by
  rw [km,not_or] at h;rw [mf,ko,Hx,LQ x Q P h.2,if_neg (by simp only [R.eqV,beq_iff_eq];exact fun z=>h.1 z.symm)];rfl
noncomputable def Vj:List Nat:=[115,104,97,112,101]
def Dj (F:List (List Nat)) (D:List Dd):List (List Nat):=(Vj::F)++[124]::D.map dw
theorem YJ {F:List (List Nat)} (hF:∀ l∈F,Nq l):[124]∉Vj::F:=fun h=>by
 rcases km.mp h with h | h
 ·exact absurd h (by decide)
 ·obtain ⟨c,r,e,hc,_⟩:=hF _ h;cases e;omega
theorem HY:∀ D:List Dd,Ap (D.map AK)=true/\Bj (D.map AK)<=1
 | []=>⟨rfl,by decide⟩
 | d::D=>by
  obtain ⟨a,b⟩:=HY D;simp only [ko,Ap,a,Bj,AK,Dv.cmp,Dv.dep,mD,true_and];omega
theorem OT:∀ D:List Dd,FU .non (D.map AK)=false
 | []=>rfl
 | d::D=>by
  have:=OT D;simp only [FU] at this ⊢;rw [ko,mI,this];rfl
theorem HR {l:List Nat} (h:Nq l):l.length<=6:=by
 obtain ⟨c,r,rfl,_,h,_⟩:=h;simp;omega
theorem UV {d:Dd} (h:Nr d):(dw d).length<=8/\Ep (dw d):=by
 have c:=Fe h.1.2.2.1;refine ⟨by have:=h.1.2.1;simp [dw];omega,?_,?_⟩
 ·intro z;rcases lK.mp z with z | z
  ·exact c.1 z
  ·rcases h.2 with e | e<;>rw [e] at z<;>exact absurd z (by decide)
 ·intro z;rcases lK.mp z with z | z
  ·exact c.2 z
  ·rcases h.2 with e | e<;>rw [e] at z<;>exact absurd z (by decide)
theorem FG {F:List (List Nat)} {D:List Dd} (hF:∀ l∈F,Nq l) (hD:∀ d∈D,Nr d):∀ l∈Dj F D,l.length<=8/\Ep l:=fun l hl=>by
 rcases lK.mp hl with h | h
 ·rcases km.mp h with rfl | h
  ·exact ⟨by decide,by unfold Ep;decide⟩
  ·exact ⟨by have:=HR (hF l h);omega,Hb (hF l h)⟩
 ·rcases km.mp h with rfl | h
  ·exact ⟨by decide,by unfold Ep;decide⟩
  ·obtain ⟨d,hd,rfl⟩:=lR.mp h;exact UV (hD d hd)
theorem SZ {F:List (List Nat)} {D:List Dd} (hF:∀ l∈F,Nq l) (hD:∀ d∈D,Nr d) (lF:F.length<=100) (lD:D.length<=100):BI (.str (jn [32] (Dj F D)))=some (DQ F D):=by
 have cl:=FG hF hD;have ll:(Dj F D).length=F.length+D.length+2:=by simp [Dj];omega
 have es:=ET (c:=32) (N:=8) (ls:=Dj F D) (by simp [Dj]) (fun l hl=>⟨(cl l hl).1,(cl l hl).2.2⟩) (by omega);have t1:Bm (.lst ((Dj F D).map .str))=some false:=by
  have i0:AC (.lst ((Dj F D).map .str)) (.int 0)=some (.str Vj):=atI_nat' _ _;have e1:=VS true [124] (Dj F D);have e2:(Dj F D).contains [124]=true:=ki.mpr (by simp [Dj]);rw [e2] at e1;unfold Bm;simp only [i0,dL,PL,e1];rfl
 have ix:Bn (.lst ((Dj F D).map .str))=some (.int ((F.length+1:Nat):Int)):=by
  unfold Bn;have:Fo (.lst ((Dj F D).map .str)) (.str [124])=some (.int ((F.length+1:Nat):Int)):=by
   simp only [Fo,Dv.cmp,Bx,Bw,mD,lq,decide_true,if_true];rw [show Hx (.str [124]) ((Dj F D).map .str)=some (Vj::F).length from LQ _ _ _ (YJ hF)];rfl
  simp only [GB,this,dL,Option.some_or]
 have e9:cutA ((Dj F D).map Dv.str) (some ((1:Nat):Int)) (some ((F.length+1:Nat):Int))=F.map .str:=by
  rw [Ub _ _ _ (by simp [ll]) (by simp [ll];omega)];simp only [Dj,mf,ko,List.drop_succ_cons,nF,mj,mq];rw [List.take_left' (by simp)]
 have e12:cutA ((Dj F D).map Dv.str) (some ((F.length+2:Nat):Int)) none=(D.map dw).map .str:=by
  rw [Ox _ _ (by simp [ll])];simp only [Dj,mf,ko,List.drop_succ_cons,mj];rw [show F.length+1=(F.map Dv.str).length+1 by simp,List.drop_append,List.drop_eq_nil_of_le (by simp)];simp
 have m1:BF Bo ((D.map dw).map .str)=some (D.map AK):=by
  clear e12 ix t1 es ll cl lD e9
  induction D with
  | nil=>rfl
  | cons d D ih =>
   simp only [ko,BF];rw [ih fun x hx=>hD x (kh _ hx)];unfold Bo;simp only [Qm (hD d kg),dL]
 have t2:Bl (.lst (F.map .str)) (D.map AK)=some false:=by
  have e:BF BK (F.map .str)=some (F.map fun _=>.bl true):=by
   have:=DW BK (fun _=>.bl true) (F.map Dv.str) fun x hx=>by
    obtain ⟨l,hl,rfl⟩:=lR.mp hx;unfold BK;simp only [NL (hF l hl),dL,Jl,cond_true]
   rw [this,mO];rfl
  have ea:EN (.lst (F.map fun _=>Dv.bl true))=some (.bl true):=by
   have:∀ F:List (List Nat),Ho (F.map fun _=>Dv.bl true)=some (F.map fun _=>true):=fun F=>by
    induction F with
    | nil=>rfl
    | cons a F ih=>rw [ko,Ho,ih];rfl
   simp only [EN,this,lX];congr 2;simp
  have eb:dJ .non (.lst (D.map AK))=some false:=by
   have:=HY D;simp only [GJ,dF,Dv.cmp,this.1,OT];rw [decide_eq_true (by omega)];rfl
  unfold Bl;simp only [items,dL];rw [As (by simp;omega),e];simp only [dL,ea,MT,mh,lG,if_false,eb]
 unfold BI;rw [FW];simp only [es,dL,t1,lG,if_false,ix,VU,Hn,BC,items];rw [show (some (1:Int))=some ((1:Nat):Int) from rfl,e9,show (((F.length+1:Nat):Int)+1)=((F.length+2:Nat):Int) by omega,e12,As (by simp;omega),m1];simp only [dL,t2,lG,if_false,AX];rfl
theorem Ip {F:List (List Nat)} {D:List Dd} (hF:∀ l∈F,Nq l) (hD:∀ d∈D,Nr d) (lF:F.length<=100) (lD:D.length<=100):BZ (.str (jn [32] (Dj F D)))=some (DQ F D):=by
 have cl:=FG hF hD;have ll:(Dj F D).length=F.length+D.length+2:=by simp [Dj];omega
 have lt:=ND [32] fun l hl=>(cl l hl).1
 simp only [lQ] at lt;have n10:10∉jn [32] (Dj F D):=fun h=>by
  rcases Tn h with h | ⟨l,hl,h⟩
  ·exact absurd h (by decide)
  ·exact (cl l hl).2.1 h
 have es:=ET (c:=10) (N:=2000) (ls:=[jn [32] (Dj F D)]) (by simp) (fun l hl=>by rw [la] at hl;subst hl;exact ⟨by omega,n10⟩) (by simp);rw [show jn [10] [jn [32] (Dj F D)]=jn [32] (Dj F D) by simp [jn]] at es;have i0:AC (.lst ([jn [32] (Dj F D)].map .str)) (.int 0)=some (.str (jn [32] (Dj F D))):=rfl;have b3:Nh (DQ F D) .non=some false:=rfl;have b5:ZW (.int (([jn [32] (Dj F D)].map Dv.str).length:Nat)) (.int 1)=some false:=rfl;unfold BZ;rw [FW];simp only [es,dL,i0,SZ hF hD lF lD,b3,lG,if_false,Ak,b5]
def gu (n:Nat) (xs:List Dv):Prop:=∀ y∈xs,∃ r:Nat,y=.int r/\r < n
def Row (n:Nat) (x:Dv):Prop:=∃ xs,x=.tup xs/\xs.length=n/\gu n xs
def Tab (n:Nat) (r:Int) (x:Dv):Prop:=(r=1/\Row n x)\/(r=2/\∃ xs,x=.tup xs/\xs.length=n/\∀ y∈xs,Row n y)
def jS (n:Nat) (d t:Dv):Prop:=∃ a r,d=.tup [a,.int r]/\(r=1\/r=2)/\Tab n r t
theorem Gs (g:Dv->Dv->Dv->Option (Dv×Dv)) (hg:∀ x2 it c,g x2 it c=(An c x2).bind fun r=>some (r.1,r.2)) {n:Nat} (h0:0 < n) (h1:n<=1000) {f:Dv} (hf:Fd f) (xs:List Dv):∃ ts f',CW (g (.int n)) xs f=some (ts,f')/\ts.length=xs.length/\gu n ts/\Fd f':=
 Cn (g (.int n)) Fd (fun y=>∃ r:Nat,y=.int r/\r < n) xs f hf fun x hx c hc=>by
  obtain ⟨r,f',e,b,hf'⟩:=AY hc (n:=n) (by omega) (by omega);exact ⟨.int r,f',by rw [hg,e];rfl,⟨r,rfl,by omega⟩,hf'⟩
theorem JA (g:Dv->(Dv×Dv)->Option (Dv×Dv)) (P:Dv->Prop) (R:Dv->Dv->Prop):∀ (xs:List Dv) (f:Dv) (acc:List Dv),P f->acc.length+xs.length<=1000->(∀ x∈xs,∀ f acc,P f->acc.length<=1000->∃ f' t,g x (f,.lst acc)=some (f',.lst (acc++[t]))/\R x t/\P f')->∃ f' ts,BP g xs (f,.lst acc)=some (f',.lst (acc++ts))/\Paired R xs ts/\P f'
 | [],f,acc,hf,_,_=>⟨f,[],by simp only [BP,mC],.nil,hf⟩
 | x::xs,f,acc,hf,hl,h=>by
  rw [lE] at hl;obtain ⟨f1,t,e1,r1,h1⟩:=h x kg f acc hf (by omega);obtain ⟨f2,ts,e2,r2,h2⟩:=JA g P R xs f1 (acc++[t]) h1 (by rw [lJ];simp;omega) fun y hy=>h y (kh _ hy)
  exact ⟨f2,t::ts,by simp only [BP,e1,dL,e2,lh,nA],.cons r1 r2,h2⟩
theorem MM {f:Dv} (hf:Fd f) {fs ds:List Dv} {n:Nat} (h0:0 < n) (h1:n<=1000) (hfs:fs.length<=100) (hds:ds.length<=100) (hd:∀ x∈ds,∃ a r,x=.tup [a,.int r]/\(r=1\/r=2)):∃ ts tbs f',Do f (.tup [.tup fs,.tup ds]) (.int n)=some (.tup [.int n,.tup ts,.tup tbs],f')/\ts.length=fs.length/\gu n ts/\Paired (jS n) ds tbs/\Fd f':=by
  obtain ⟨ts,f1,e1,l1,h1',hf1⟩:=Gs Ik (fun _ _ _=>rfl) h0 h1 hf fs;have er:Cu [.int n]=some ((List.range (n:Int).toNat).map fun j=>.int (j:Nat)):=GO (by omega) (by omega);have lr:((List.range (n:Int).toNat).map fun j=>Dv.int (j:Nat)).length=n:=by simp
  obtain ⟨f2,tbs,e2,p2,hf2⟩:=JA (Dn (.int n)) Fd (jS n) ds f1 [] hf1 (by simp;omega) fun x hx f acc hf hl=>by
    obtain ⟨a,r,rfl,hr⟩:=hd x hx;rcases hr with rfl | rfl
    · obtain ⟨ys,f',e,l,hy,hf'⟩:=Gs Ij (fun _ _ _=>rfl) h0 h1 hf ((List.range (n:Int).toNat).map fun j=>.int (j:Nat));refine ⟨f',.tup ys,?_,⟨a,1,rfl,.inl rfl,.inl ⟨rfl,ys,rfl,by rw [l,lr],hy⟩⟩,hf'⟩;unfold Dn FC;simp only [PY,dL,Bh,decide_true,if_true,er,GB];rw [As (by omega),e];simp only [dL,AX,En (show acc.length<=1000000 by omega)]
    · obtain ⟨ys,f',e,l,hy,hf'⟩:=Cn (FH (.int n)) Fd (Row n) ((List.range (n:Int).toNat).map fun j=>.int (j:Nat)) f hf fun x hx c hc=>by
        obtain ⟨zs,f',e,l,hz,hf'⟩:=Gs Ii (fun _ _ _=>rfl) h0 h1 hc ((List.range (n:Int).toNat).map fun j=>.int (j:Nat));refine ⟨.tup zs,f',?_,⟨zs,rfl,by rw [l,lr],hz⟩,hf'⟩;unfold FH;simp only [dL,er];rw [As (by omega),e];simp only [dL,AX]
      refine ⟨f',.tup ys,?_,⟨a,2,rfl,.inr rfl,.inr ⟨rfl,ys,rfl,by rw [l,lr],hy⟩⟩,hf'⟩;unfold Dn FC;simp only [PY,dL,Bh,show decide ((2:Int)=1)=false by decide,lG,if_false,er,GB];rw [As (by omega),e];simp only [dL,AX,En (show acc.length<=1000000 by omega)]
  refine ⟨ts,tbs,f2,?_,l1,h1',p2,hf2⟩;have i0:AC (.tup [.tup fs,.tup ds]) (.int 0)=some (.tup fs):=rfl;have i1:AC (.tup [.tup fs,.tup ds]) (.int 1)=some (.tup ds):=rfl;unfold Do;simp only [i0,i1,dL,items];rw [As (by omega),e1];simp only [dL,AX];rw [e2];rfl
noncomputable abbrev nI (l:List Nat):List Dv:=l.map fun k=>Dv.int (k:Nat)
noncomputable abbrev Fa:=List Nat×Nat
abbrev Tb:=Dd×List (List Nat)
def Bv (b:Tb):Dv:=if b.1.2=1 then .tup (nI b.2.flatten) else .tup (b.2.map fun r=>.tup (nI r))
structure TbOk (n:Nat) (b:Tb):Prop where
 dd:Nr b.1
 rw:∀ r∈b.2,r.length=n/\∀ k∈r,k < n
 ln:b.2.length=if b.1.2=1 then 1 else n
structure FaOk (n:Nat) (a:Fa):Prop where
 fx:Nq a.1
 lt:a.2 < n
def CQ (n:Nat) (A:List Fa) (B:List Tb):Dv:=.tup [.int n,.tup (A.map fun a=>.int (a.2:Nat)),.tup (B.map Bv)]
theorem MU {n:Nat}:∀ {xs:List Dv},gu n xs->∃ l:List Nat,xs=nI l/\l.length=xs.length/\∀ k∈l,k < n
 | [],_=>⟨[],rfl,rfl,fun _ z=>by cases z⟩
 | x::xs,h=>by
  obtain ⟨r,rfl,hr⟩:=h x kg;obtain ⟨l,e,hl,hk⟩:=MU fun y hy=>h y (kh _ hy)
  exact ⟨r::l,by rw [e];rfl,by simp [hl],fun k hk'=>(km.mp hk').elim (fun z=>z▸hr) (hk k)⟩
theorem UB {n:Nat}:∀ {F:List (List Nat)} {ts:List Dv},(∀ l∈F,Nq l)->ts.length=F.length->gu n ts->∃ A:List Fa,F=A.map (·.1)/\ts=(A.map fun a=>.int (a.2:Nat))/\∀ a∈A,FaOk n a
 | [],[],_,_,_=>⟨[],rfl,rfl,fun _ z=>by cases z⟩
 | f::F,t::ts,hF,hl,ht=>by
  obtain ⟨A,e1,e2,hA⟩:=UB (fun l hl=>hF l (kh _ hl)) (by simpa using hl) (n:=n) (fun y hy=>ht y (kh _ hy));obtain ⟨r,rfl,hr⟩:=ht t kg;exact ⟨(f,r)::A,by rw [e1];rfl,by rw [e2];rfl,fun a ha=>(km.mp ha).elim (fun z=>z▸⟨hF f kg,hr⟩) (hA a)⟩
theorem OI {n:Nat}:∀ {xs:List Dv},(∀ y∈xs,Row n y)->∃ R:List (List Nat),xs=(R.map fun r=>.tup (nI r))/\R.length=xs.length/\∀ r∈R,r.length=n/\∀ k∈r,k < n
 | [],_=>⟨[],rfl,rfl,fun _ z=>by cases z⟩
 | x::xs,h=>by
  obtain ⟨ys,rfl,hl,hy⟩:=h x kg;obtain ⟨l,rfl,hl2,hk⟩:=MU hy;obtain ⟨R,e,hR,hk2⟩:=OI fun y hy=>h y (kh _ hy)
  exact ⟨l::R,by rw [e];rfl,by simp [hR],fun r hr=>(km.mp hr).elim (fun z=>z▸⟨by omega,hk⟩) (hk2 r)⟩
theorem Rn {n:Nat}:∀ {D:List Dd} {ts:List Dv},(∀ d∈D,Nr d)->Paired (jS n) (D.map AK) ts->∃ B:List Tb,D=B.map (·.1)/\ts=B.map Bv/\∀ b∈B,TbOk n b
 | [],ts,_,h=>by
  cases h;exact ⟨[],rfl,rfl,fun _ z=>by cases z⟩
 | d::D,ts,hD,h=>by
  rw [ko] at h;cases h with
  | cons h1 h2 =>
   rename_i t ts;obtain ⟨B,e1,e2,hB⟩:=Rn (fun l hl=>hD l (kh _ hl)) h2;have:∃ R,t=Bv (d,R)/\TbOk n (d,R):=by
    obtain ⟨a,r,ed,hr,ht⟩:=h1;simp only [AK,Dv.tup.injEq,List.cons.injEq,Dv.int.injEq,and_true] at ed;obtain ⟨_,rfl⟩:=ed;rcases ht with ⟨e,xs,rfl,hl,hx⟩ | ⟨e,xs,rfl,hl,hx⟩
    ·obtain ⟨l,rfl,hl2,hk⟩:=MU hx;refine ⟨[l],by simp only [Bv,if_pos e];simp,hD d kg,fun r hr=>?_,by simp only [if_pos e];rfl⟩;rw [la] at hr;subst hr;exact ⟨by omega,hk⟩
    ·obtain ⟨R,rfl,hl2,hk⟩:=OI hx;have ne:¬ d.2=1:=by omega
     exact ⟨R,by simp only [Bv,if_neg ne],hD d kg,hk,by simp only [if_neg ne];omega⟩
   obtain ⟨R,rfl,hR⟩:=this;exact ⟨(d,R)::B,by rw [e1];rfl,by rw [e2];rfl,fun b hb=>(km.mp hb).elim (fun z=>z▸hR) (hB b)⟩
noncomputable def wW:List Nat:=[119,111,114,108,100]
def EI (a:Fa):List (List Nat):=[a.1,fg a.2]
def Jd (b:Tb):List (List Nat):=b.1.1::b.2.flatten.map fg
def EZ (n:Nat) (A:List Fa) (B:List Tb):List (List (List Nat)):=[wW,fg n]::(A.map EI++B.map Jd)
def Hm (n:Nat) (A:List Fa) (B:List Tb):List (List Nat):=(EZ n A B).map (jn [32])
theorem HS {n:Nat}:∀ {R:List (List Nat)},(∀ r∈R,r.length=n/\∀ k∈r,k < n)->R.flatten.length=R.length * n/\∀ k∈R.flatten,k < n
 | [],_=>⟨by simp,fun _ z=>by cases z⟩
 | r::R,h=>by
  obtain ⟨a,b⟩:=HS fun r hr=>h r (kh _ hr)
  obtain ⟨c,d⟩:=h r kg;refine ⟨by rw [lu,lJ,a,c,lE,mx];omega,fun k hk=>?_⟩;rw [lu,lK] at hk;exact hk.elim (d k) (b k)
theorem BU {m:Nat} (h:m < 100):(fg m).length<=8/\Ep (fg m):=by
 obtain ⟨h1,h2,h3,h4,h5⟩:=ZE h;exact ⟨by omega,fun z=>by have:=h3 _ z;omega,fun z=>by have:=h3 _ z;omega⟩
theorem Ew {n:Nat} (h:n<=40) {b:Tb} (hb:TbOk n b):b.2.flatten.length<=1600/\∀ k∈b.2.flatten,k < n:=by
 obtain ⟨a,c⟩:=HS hb.rw;refine ⟨?_,c⟩;have l:=hb.ln;rw [a];have:b.2.length<=40:=by
  rw [l];split<;>omega
 exact Nat.mul_le_mul this h
structure Wd (n:Nat) (A:List Fa) (B:List Tb):Prop where
 n1:1<=n
 n2:n<=40
 A1:A.length<=4
 B1:B.length<=4
 A2:∀ a∈A,FaOk n a
 B2:∀ b∈B,TbOk n b
theorem Mf {n:Nat} {A:List Fa} {B:List Tb} (w:Wd n A B):∀ r∈EZ n A B,r≠[]/\r.length<=1601/\∀ l∈r,l.length<=8/\Ep l:=fun r hr=>by
 obtain ⟨n1,n2,A1,B1,A2,B2⟩:=w;rcases km.mp hr with rfl | hr
 ·refine ⟨by simp,by simp,fun l hl=>?_⟩;simp only [km,lU,or_false] at hl;rcases hl with rfl | rfl
  ·exact ⟨by decide,by unfold Ep;decide⟩
  ·exact BU (by omega)
 ·rcases lK.mp hr with hr | hr
  ·obtain ⟨a,ha,rfl⟩:=lR.mp hr;refine ⟨by simp [EI],by simp [EI],fun l hl=>?_⟩;simp only [EI,km,lU,or_false] at hl;rcases hl with rfl | rfl
   ·exact ⟨by have:=HR (A2 a ha).fx;omega,Hb (A2 a ha).fx⟩
   ·exact BU (by have:=(A2 a ha).lt;omega)
  ·obtain ⟨b,hb,rfl⟩:=lR.mp hr;obtain ⟨q1,q2⟩:=Ew n2 (B2 b hb);refine ⟨by simp [Jd],by rw [Jd,lE,kb];omega,fun l hl=>?_⟩;rcases km.mp hl with rfl | hl
   ·exact ⟨by have:=(B2 b hb).dd.1.2.1;omega,Fe (B2 b hb).dd.1.2.2.1⟩
   ·obtain ⟨k,hk,rfl⟩:=lR.mp hl;exact BU (by have:=q2 k hk;omega)
theorem DB (g:Dv->Dv->Option Dv):∀ (xs ks acc:List Dv),xs.length=ks.length->(∀ i x k,xs[i]?=some x->ks[i]?=some k->g x (.lst (acc++ks.take i))=some (.lst (acc++ks.take i++[k])))->BP g xs (.lst acc)=some (.lst (acc++ks))
 | [],[],acc,_,_=>by simp only [BP,mC]
 | x::xs,k::ks,acc,hl,h=>by
  have e:=h 0 x k rfl rfl;rw [List.take_zero,mC] at e;have:=DB g xs ks (acc++[k]) (by simpa using hl) fun i y z hy hz=>by
   have:=h (i+1) y z hy hz;rw [List.take_succ_cons] at this;simpa using this
  simp only [BP,e,dL,this,lh,nA]
theorem JT {α:Type} (f g:α->Dv):∀ l:List α,zipD2 (l.map f) (l.map g)=l.map fun a=>.tup [f a,g a]
 | []=>rfl
 | a::l=>by simp only [ko,zipD2,JT f g l]
theorem JY (g:Dv->Option Dv) (hg:∀ x,g x=(CP x).bind fun d=>some d):∀ {l:List Nat},(∀ k∈l,k < 100)->BF g (nI l)=some ((l.map fg).map .str)
 | [],_=>rfl
 | k::l,h=>by
  have:=JY g hg fun x hx=>h x (kh _ hx)
  simp only [nI] at this;simp only [nI,ko,BF,this,hg,Gc (h k kg),dL]
theorem Uj (w:List Nat) (l:List (List Nat)) (h:l.length<=10000):AI (.lst [.str w]) (.lst (l.map .str))=some (.lst ((w::l).map .str)):=by
 simp only [AI];rw [if_pos (by simp;omega)];rfl
theorem DC {w:List Nat} {l:List Nat} (hw:w.length<=8) (hl:l.length<=1600) (h:∀ k∈l,k < 100):AV (.str w) (.lst (nI l))=some (.str (jn [32] (w::l.map fg))):=by
 unfold AV;rw [FW];simp only [items,dL];rw [As (by simp;omega),JY DS (fun _=>rfl) h];simp only [dL];rw [Uj _ _ (by simp;omega)];simp only [dL];rw [Jq (N:=8) (fun x hx=>by
  rcases km.mp hx with rfl | hx
  ·exact hw
  ·obtain ⟨k,hk,rfl⟩:=lR.mp hx;exact (BU (h k hk)).1) (by simp;omega)]
 rfl
theorem FX (g:Dv->Dv->Option Dv) (hg:∀ x t,g x t=DY "list" t ((Bi t [x]).bind fun r=>some r.2)):∀ (R:List (List Nat)) (acc:List Dv),acc.length+R.flatten.length<=1000000->BP g (R.map fun r=>.tup (nI r)) (.lst acc)=some (.lst (acc++nI R.flatten))
 | [],acc,_=>by simp [BP]
 | r::R,acc,h=>by
  rw [lu,lJ] at h;have:=FX g hg R (acc++nI r) (by rw [lJ,kb];omega);simp only [ko,BP,hg,GB,Bi];rw [if_pos (by rw [kb];omega)];simp only [dL];rw [this];simp
theorem HX {n:Nat} (h:n<=40) {b:Tb} (hb:TbOk n b):CN (AK b.1) (Bv b)=some (.lst (nI b.2.flatten)):=by
 obtain ⟨q1,q2⟩:=Ew h hb;have i1:AC (AK b.1) (.int 1)=some (.int b.1.2):=rfl;unfold CN;simp only [i1,dL,Bh,Bv]
 by_cases c:b.1.2=1
 ·simp only [decide_eq_true c,if_pos c,if_true,EF];rfl
 ·simp only [decide_eq_false c,if_neg c,lG,if_false,items,dL];rw [FX EV (fun _ _=>rfl) b.2 [] (by rw [ly];omega)];rfl
theorem Yz {n:Nat} {A:List Fa} {B:List Tb} (w:Wd n A B):(Hm n A B).length<=9/\∀ l∈Hm n A B,l.length<=15000/\10∉l:=by
 refine ⟨by have:=w.A1;have:=w.B1;simp [Hm,EZ];omega,fun l hl=>?_⟩;obtain ⟨r,hr,rfl⟩:=lR.mp hl;obtain ⟨_,b,c⟩:=Mf w r hr;have:=ND [32] fun l hl=>(c l hl).1
 simp only [lQ] at this;refine ⟨by omega,fun h=>?_⟩;rcases Tn h with h | ⟨l,hl,h⟩
 ·exact absurd h (by decide)
 ·exact (c l hl).2.1 h
def YV (n:Nat) (A:List Fa) (B:List Tb):List Nat:=jn [10] (Hm n A B)
theorem Oe {n:Nat} {A:List Fa} {B:List Tb} (w:Wd n A B):Bq (.str [10]) (.lst ((Hm n A B).map .str))=some (.str (YV n A B)):=by
 obtain ⟨a,b⟩:=Yz w;exact Jq (N:=15000) (fun l hl=>(b l hl).1) (by omega)
abbrev OF (A:List Fa) (B:List Tb):Dv:=DQ (A.map (·.1)) (B.map (·.1))
theorem Pf {n:Nat} {A:List Fa} {B:List Tb} (w:Wd n A B):CJ (OF A B) (CQ n A B)=some (.str (YV n A B)):=by
 obtain ⟨n1,n2,A1,B1,A2,B2⟩:=id w;have i0:AC (CQ n A B) (.int 0)=some (.int n):=rfl;have i1:AC (CQ n A B) (.int 1)=some (.tup (A.map fun a=>.int (a.2:Nat))):=rfl;have i2:AC (CQ n A B) (.int 2)=some (.tup (B.map Bv)):=rfl;have s0:AC (OF A B) (.int 0)=some (.tup ((A.map (·.1)).map .str)):=rfl;have s1:AC (OF A B) (.int 1)=some (.tup ((B.map (·.1)).map AK)):=rfl;have e1:AV (.str wW) (.lst [.int (n:Nat)])=some (.str (jn [32] [wW,fg n])):=DC (l:=[n]) (by decide) (by simp) (fun k hk=>by rw [la] at hk;omega);have z1:Im [.tup ((A.map (·.1)).map .str),.tup (A.map fun a=>.int (a.2:Nat))]=some (A.map fun a=>.tup [.str a.1,.int (a.2:Nat)]):=by
  rw [mO];show some (zipD2 _ _)=_;rw [JT];rfl
 have z2:Im [.tup ((B.map (·.1)).map AK),.tup (B.map Bv)]=some (B.map fun b=>.tup [AK b.1,Bv b]):=by
  rw [mO];show some (zipD2 _ _)=_;rw [JT];rfl
 have f1:BP Cr (A.map fun a=>.tup [.str a.1,.int (a.2:Nat)]) (.lst [.str (jn [32] [wW,fg n])])=some (.lst ([.str (jn [32] [wW,fg n])]++A.map fun a=>.str (jn [32] (EI a)))):=by
  refine DB _ _ _ _ (by simp) fun i x k hx hk=>?_
  rw [kn] at hx hk;obtain ⟨a,ha,rfl⟩:=lH.mp hx;rw [ha] at hk;cases hk;have hA:=A2 a (lY ha);have:=DC (w:=a.1) (l:=[a.2]) (by have:=HR hA.fx;omega) (by simp) (fun k hk=>by rw [la] at hk;have:=hA.lt;omega);unfold Cr;rw [PY,GB];simp only [nI,ko,mZ] at this;simp only [this,dL];rw [En (by simp only [lJ,lQ,lZ,kb];omega)];rfl
 have f2:BP Cq (B.map fun b=>.tup [AK b.1,Bv b]) (.lst ([.str (jn [32] [wW,fg n])]++A.map fun a=>.str (jn [32] (EI a))))=some (.lst (([.str (jn [32] [wW,fg n])]++A.map fun a=>.str (jn [32] (EI a)))++B.map fun b=>.str (jn [32] (Jd b)))):=by
  refine DB _ _ _ _ (by simp) fun i x k hx hk=>?_
  rw [kn] at hx hk;obtain ⟨b,hb,rfl⟩:=lH.mp hx;rw [hb] at hk;cases hk;have hB:=B2 b (lY hb);obtain ⟨q1,q2⟩:=Ew n2 hB;have:=DC (w:=b.1.1) (l:=b.2.flatten) (by have:=hB.dd.1.2.1;omega) q1 (fun k hk=>by have:=q2 k hk;omega);have d0:AC (AK b.1) (.int 0)=some (.str b.1.1):=rfl;unfold Cq;rw [PY,GB];simp only [d0,HX n2 hB,this,dL];rw [En (by simp only [lJ,lQ,lZ,kb];omega)];rfl
 have e3:([.str (jn [32] [wW,fg n])]++A.map fun a=>.str (jn [32] (EI a)))++(B.map fun b=>Dv.str (jn [32] (Jd b)))=(Hm n A B).map .str:=by
  simp [Hm,EZ,mO,Function.comp_def]
 have j:=Oe w;unfold CJ;have e1':AV (.str [119,111,114,108,100]) (.lst [.int (n:Nat)])=some (.str (jn [32] [wW,fg n])):=e1;simp only [i0,i1,i2,s0,s1,dL,e1',z1,z2,f1,f2];rw [FW,e3,j];rfl
theorem Ju {f:Nat->Nat} {xs:List Dv} {i:Nat} {x:Dv} (h:xs[i]?=some x):AC (.tup xs) (.int (i:Nat))=some x:=by
 have hi:i < xs.length:=(ka.mp h).1;refine (atI_nat xs i hi).trans ?_;rw [<- kZ hi];exact h
theorem XH {xs:List Dv} {i:Nat} {x:Dv} (h:xs[i]?=some x):AC (.lst xs) (.int (i:Nat))=some x:=by
 have hi:i < xs.length:=(ka.mp h).1;refine (atI_nat xs i hi).trans ?_;rw [<- kZ hi];exact h
theorem rng_get {n i:Nat} {x:Dv} (h:((List.range n).map fun k=>Dv.int (k:Nat))[i]?=some x):x=.int (i:Nat):=by
 rw [kn] at h;obtain ⟨j,hj,rfl⟩:=lH.mp h;obtain ⟨_,e⟩:=ka.mp hj;rw [List.getElem_range] at e;rw [e]
theorem Qh {R:List (List Nat)} (h:R.flatten.length<=1600):Gr (.lst (R.map fun r=>.tup (nI r)))=some (.lst (nI R.flatten)):=by
 unfold Gr;simp only [items,dL];rw [FX Ki (fun _ _=>rfl) R [] (by rw [ly];omega)];rfl
theorem Mz {n:Nat} {A:List Fa} {B:List Tb} (w:Wd n A B):EX (OF A B) (CQ n A B)=some (.str (YV n A B)):=by
 obtain ⟨n1,n2,A1,B1,A2,B2⟩:=id w;have i0:AC (CQ n A B) (.int 0)=some (.int n):=rfl;have i1:AC (CQ n A B) (.int 1)=some (.tup (A.map fun a=>.int (a.2:Nat))):=rfl;have i2:AC (CQ n A B) (.int 2)=some (.tup (B.map Bv)):=rfl;have s0:AC (OF A B) (.int 0)=some (.tup ((A.map (·.1)).map .str)):=rfl;have s1:AC (OF A B) (.int 1)=some (.tup ((B.map (·.1)).map AK)):=rfl;have fn:=BU (m:=n) (by omega);have e1:AI (.str [119,111,114,108,100,32]) (.str (fg n))=some (.str (jn [32] [wW,fg n])):=by
  rw [EE _ _ (by simp;omega)];simp [jn,wW]
 have f1:BP (FM (OF A B) (CQ n A B)) ((List.range A.length).map fun k=>.int (k:Nat)) (.lst [.str (jn [32] [wW,fg n])])=some (.lst ([.str (jn [32] [wW,fg n])]++A.map fun a=>.str (jn [32] (EI a)))):=by
  refine DB _ _ _ _ (by simp) fun i x k hx hk=>?_
  rw [rng_get hx];rw [kn] at hk;obtain ⟨a,ha,rfl⟩:=lH.mp hk;have hA:=A2 a (lY ha);have x1:AC (.tup ((A.map (·.1)).map .str)) (.int (i:Nat))=some (.str a.1):=Ju (f:=id) (by simp [ha]);have x2:AC (.tup (A.map fun a=>.int (a.2:Nat))) (.int (i:Nat))=some (.int (a.2:Nat)):=Ju (f:=id) (by simp [ha]);have l6:=HR hA.fx;have l8:=BU (m:=a.2) (by have:=hA.lt;omega);unfold FM;rw [GB];simp only [s0,x1,i1,x2,dL,Gc (show a.2 < 100 by have:=hA.lt;omega)];rw [EE _ _ (by simp;omega)];simp only [dL];rw [EE _ _ (by simp;omega)];simp only [dL];rw [En (by simp only [lJ,lQ,lZ,kb];omega)];simp [EI,jn]
 have f2:BP (FL (OF A B) (CQ n A B)) ((List.range B.length).map fun k=>.int (k:Nat)) (.lst ([.str (jn [32] [wW,fg n])]++A.map fun a=>.str (jn [32] (EI a))))=some (.lst (([.str (jn [32] [wW,fg n])]++A.map fun a=>.str (jn [32] (EI a)))++B.map fun b=>.str (jn [32] (Jd b)))):=by
  refine DB _ _ _ _ (by simp) fun i x k hx hk=>?_
  rw [rng_get hx];rw [kn] at hk;obtain ⟨b,hb,rfl⟩:=lH.mp hk;have hB:=B2 b (lY hb);obtain ⟨q1,q2⟩:=Ew n2 hB;have x1:AC (.tup ((B.map (·.1)).map AK)) (.int (i:Nat))=some (.tup [.str b.1.1,.int b.1.2]):=Ju (f:=id) (by simp [hb,AK]);have x2:AC (.tup (B.map Bv)) (.int (i:Nat))=some (Bv b):=Ju (f:=id) (by simp [hb]);have x3:∃ y,EF (Bv b)=some y/\FF (.int b.1.2) y=some (.lst (nI b.2.flatten)):=by
   unfold Bv FF
   by_cases c:b.1.2=1
   ·refine ⟨_,by rw [if_pos c];rfl,?_⟩;simp only [Bh,dL,c];rfl
   ·have c2:b.1.2=2:=hB.dd.2.resolve_left c;refine ⟨_,by rw [if_neg c];rfl,?_⟩;simp only [Bh,dL,decide_eq_true c2,if_true,Qh q1]
  obtain ⟨y,y1,y2⟩:=x3;unfold FL;simp only [s1,x1,i2,x2,dL];rw [PY];simp only [y1,y2,dL];rw [GB,FW];simp only [items,dL];rw [As (by rw [kb];omega),JY Il (fun _=>rfl) fun k hk=>by have:=q2 k hk;omega];simp only [dL];rw [Uj _ _ (by rw [kb];omega)];simp only [dL];rw [Jq (N:=8) (fun x hx=>by
   rcases km.mp hx with rfl | hx
   ·have:=hB.dd.1.2.1;omega
   ·obtain ⟨k,hk,rfl⟩:=lR.mp hx;exact (BU (by have:=q2 k hk;omega)).1) (by rw [lE,kb];omega)]
  simp only [dL];rw [En (by simp only [lJ,lQ,lZ,kb];omega)];rfl
 have e3:([.str (jn [32] [wW,fg n])]++A.map fun a=>.str (jn [32] (EI a)))++(B.map fun b=>Dv.str (jn [32] (Jd b)))=(Hm n A B).map .str:=by
  simp [Hm,EZ,mO,Function.comp_def]
 have j:=Oe w;have r1:=WJ A.length (by omega);have r2:=WJ B.length (by omega);unfold EX;simp only [i0,s0,s1,dL,Gc (show n < 100 by omega),e1,Ak,kb,r1,r2,f1,f2];rw [FW,e3,j];rfl
theorem KR:∀ l:List Nat,DK (nI l)=some (l.map fun k=>((k:Nat):Int))
 | []=>rfl
 | k::l=>by
  have:=KR l;simp only [nI] at this;simp only [nI,ko,DK,this,lX]
theorem TV:∀ l:List Nat,Ap (nI l)=true/\Bj (nI l)=0/\FU .non (nI l)=false
 | []=>⟨rfl,rfl,rfl⟩
 | k::l=>by
  obtain ⟨a,b,c⟩:=TV l;simp only [nI] at a b c;simp only [FU] at c;simp only [nI,ko,Ap,Bj,Dv.cmp,Dv.dep,a,b,FU,mI,c];exact ⟨rfl,rfl,rfl⟩
theorem bL {n:Nat} {l:List Nat} (hl:l≠[]) (h:∀ k∈l,k < n):∃ m:Int,JS (.lst (nI l))=some (.int m)/\m < n:=by
 cases l with
 | nil=>exact (hl rfl).elim
 | cons a l =>
  obtain ⟨m1,_⟩:=Q.mxI_spec ((a::l).map fun k=>((k:Nat):Int)) (by simp);obtain ⟨k,hk,e⟩:=lR.mp m1;refine ⟨Q.mxI ((a::l).map fun k=>((k:Nat):Int)),?_,by rw [<- e];exact_mod_cast h k hk⟩;simp only [JS,KR];rfl
theorem JB:∀ {l:List Nat},(∀ k∈l,k < 100)->BF CH ((l.map fg).map .str)=some (nI l)
 | [],_=>rfl
 | k::l,h=>by
  have:=JB fun x hx=>h x (kh _ hx)
  simp only [nI] at this;unfold CH at *;simp only [nI,ko,BF,this,Eg (h k kg),dL]
theorem Ei {ls:List (List Nat)} {i n:Nat} {w:List Nat} {l:List Nat} (hi:ls[i]?=some (jn [32] (w::l.map fg))) (hw:w.length<=8/\32∉w) (h1:l≠[]) (h2:l.length<=1600) (hn:n<=100) (hk:∀ k∈l,k < n):Ad (.lst (ls.map .str)) (.int (i:Nat)) (.str w) (.int (l.length:Nat)) (.int (n:Nat))=some (.lst (nI l)):=by
 have li:i < ls.length:=(ka.mp hi).1;have cl:∀ x∈w::l.map fg,x.length<=8/\32∉x:=fun x hx=>by
  rcases km.mp hx with rfl | hx
  ·exact hw
  ·obtain ⟨k,hk',rfl⟩:=lR.mp hx;obtain ⟨a,_,b⟩:=BU (m:=k) (by have:=hk k hk';omega);exact ⟨a,b⟩
 have es:=ET (c:=32) (N:=8) (ls:=w::l.map fg) (by simp) cl (by simp;omega);have ix:AC (.lst (ls.map .str)) (.int (i:Nat))=some (.str (jn [32] (w::l.map fg))):=XH (by simp [hi]);have t1:CF (.lst (ls.map .str)) (.int (i:Nat))=some (.lst ((w::l.map fg).map .str)):=by
  unfold CF;simp only [Ak,dL,VR,kb];rw [decide_eq_true (by omega),if_pos rfl,ix];simp only [dL];rw [FW,es];rfl
 have t2:CD (.str w) (.int (l.length:Nat)) (.lst ((w::l.map fg).map .str))=some false:=by
  have j0:AC (.lst ((w::l.map fg).map .str)) (.int 0)=some (.str w):=atI_nat' _ _;unfold CD;simp only [Ak,BC,dL,PM,j0,PL,kb,lE];rw [decide_eq_true (by omega)];simp
 have t3:CB (.int (n:Nat)) (nI l)=some false:=by
  obtain ⟨a,b,c⟩:=TV l;obtain ⟨m,e,hm⟩:=bL h1 hk;have eb:dJ .non (.lst (nI l))=some false:=by
   simp only [GJ,dF,Dv.cmp,a,b,c];rfl
  unfold CB;simp only [eb,dL,lG,if_false,e,Dc];rw [decide_eq_false (by omega)]
 have c1:cutA ((w::l.map fg).map Dv.str) (some 1) none=(l.map fg).map .str:=by
  have:=Ox ((w::l.map fg).map Dv.str) 1 (by simp);exact this
 unfold Ad;simp only [t1,t2,dL,lG,if_false,Hn,c1,items];rw [As (by simp;omega),JB fun k h=>by have:=hk k h;omega];simp only [dL,t3,lG,if_false]
theorem LW {n:Nat}:∀ {R:List (List Nat)} (k:Nat) {r:List Nat},(∀ r∈R,r.length=n)->R[k]?=some r->(R.flatten.drop (n * k)).take n=r
 | [],k,r,_,h=>by simp at h
 | a::R,0,r,hR,h=>by
  cases h;rw [Nat.mul_zero,nF,lu,List.take_left' (hR a kg)]
 | a::R,k+1,r,hR,h=>by
  have:=LW k (fun r hr=>hR r (kh _ hr)) (show R[k]?=some r from h);have ha:=hR a kg;rw [lu,Nat.mul_succ,mz,<- List.drop_drop,List.drop_left' ha];exact this
theorem gj {n:Nat} (h:n<=1000):big (n:Int)=true:=by
 unfold big;rw [kX,decide_eq_true_eq,decide_eq_true_eq];constructor<;>omega
theorem Yw {n k:Nat} (h:n<=1000):CU (.int (n:Nat)) (.int (k:Nat))=some (.int ((n * k:Nat):Int)):=by
 simp only [CU,gj h,nE,if_true,Int.natCast_mul]
theorem OU (g:Dv->Option Dv):∀ (xs ys:List Dv),xs.length=ys.length->(∀ (i:Nat) x y,xs[i]?=some x->ys[i]?=some y->g x=some y)->BF g xs=some ys
 | [],[],_,_=>rfl
 | x::xs,y::ys,hl,h=>by
  rw [BF,h 0 x y rfl rfl,OU g xs ys (by simpa using hl) fun i x y hx hy=>h (i+1) x y hx hy];rfl
theorem Xb {n k:Nat} {l r:List Nat} (h:n<=1000) (hl:l.length=n * n) (hk:k < n) (e:(l.drop (n * k)).take n=r):Bu (.int (n:Nat)) (.lst (nI l)) (.int (k:Nat))=some (.tup (nI r)):=by
 have lk:n * k+n<=n * n:=by
  rw [<- Nat.mul_succ];exact Nat.mul_le_mul_left n hk
 have ec:cutA (nI l) (some ((n * k:Nat):Int)) (some ((n * k+n:Nat):Int))=nI r:=by
  rw [Ub _ _ _ (by rw [kb,hl];omega) (by rw [kb,hl];omega),<- nr,<- nk,Nat.add_sub_cancel_left,e]
 unfold Bu;simp only [Yw h,dL,VU,BC,Hn,AX];rw [<- nC,ec]
theorem MV {ls:List (List Nat)} {i n:Nat} {b:Tb} (hi:ls[i]?=some (jn [32] (Jd b))) (n1:1<=n) (n2:n<=40) (hB:TbOk n b):CL (.lst (ls.map .str)) (.int (i:Nat)) (AK b.1) (.int (n:Nat))=some (Bv b):=by
  obtain ⟨q1,q2⟩:=Ew n2 hB;obtain ⟨f1,_⟩:=HS hB.rw;have d1:AC (AK b.1) (.int 1)=some (.int b.1.2):=rfl;have d0:AC (AK b.1) (.int 0)=some (.str b.1.1):=rfl;have hl:=hB.ln;have ne:b.2.flatten≠[]:=fun z=>by
    rw [z] at f1;have:1 * 1<=b.2.length * n:=Nat.mul_le_mul (by rw [hl];split<;>omega) n1;simp only [ly] at f1;omega
  have er:=Ei (i:=i) (w:=b.1.1) (l:=b.2.flatten) (n:=n) hi ⟨by have:=hB.dd.1.2.1;omega,(Fe hB.dd.1.2.2.1).2⟩ ne q1 (by omega) q2;unfold CL;rw [d1,d0,dL,Bh,dL,dL,dL]
  by_cases c:b.1.2=1
  · rw [if_pos c] at hl;rw [f1,hl,Nat.one_mul] at er;rw [if_pos (decide_eq_true c),er,dL,Bv,if_pos c];rfl
  · rw [if_neg c] at hl;rw [f1,hl] at er;have em:CU (.int (n:Nat)) (.int (n:Nat))=some (.int ((n * n:Nat):Int)):=Yw (by omega);have mm:BF (Bu (.int (n:Nat)) (.lst (nI b.2.flatten))) ((List.range n).map fun k=>.int (k:Nat))=some (b.2.map fun r=>.tup (nI r)):=
      OU _ _ _ (by simp [hl]) fun k x y hx hy=>by
        rw [rng_get hx];rw [kn] at hy;obtain ⟨r,hr,rfl⟩:=lH.mp hy;have hk:k < b.2.length:=(ka.mp hr).1;exact Xb (by omega) (by rw [f1,hl]) (by omega) (LW k (fun r hr=>(hB.rw r hr).1) hr)
    have rg:=WJ n (by omega);rw [if_neg (by rw [decide_eq_false c];exact kr),em,dL,er,dL,rg,dL,As (by simp;omega),mm,dL,Bv,if_neg c];rfl
theorem MN {n:Nat} {A:List Fa} {B:List Tb} (w:Wd n A B):CK (OF A B) (.str (YV n A B))=some (CQ n A B):=by
 obtain ⟨n1,n2,A1,B1,A2,B2⟩:=id w;obtain ⟨l1,l2⟩:=Yz w;have s0:AC (OF A B) (.int 0)=some (.tup ((A.map (·.1)).map .str)):=rfl;have s1:AC (OF A B) (.int 1)=some (.tup ((B.map (·.1)).map AK)):=rfl;have es:=ET (c:=10) (N:=15000) (ls:=Hm n A B) (by simp [Hm,EZ]) l2 (by omega);have fn:=BU (m:=n) (by omega);have r0:Ci (.str (jn [32] [wW,fg n]))=some (.int (n:Nat)):=by
  have e:=ET (c:=32) (N:=8) (ls:=[wW,fg n]) (by simp) (fun l hl=>by
   simp only [km,lU,or_false] at hl;rcases hl with rfl | rfl
   ·exact ⟨by decide,by decide⟩
   ·exact ⟨fn.1,fn.2.2⟩) (by simp)
  have a0:AC (.lst ([wW,fg n].map .str)) (.int 0)=some (.str wW):=rfl;have a1:AC (.lst ([wW,fg n].map .str)) (.int 1)=some (.str (fg n)):=rfl;have t1:DP (.lst ([wW,fg n].map .str))=some false:=by
   unfold DP;simp only [Ak,a0,dL,PM,PL];rfl
  have t2:DO (.int (n:Nat))=some false:=by
   have b0:Nh (.int (n:Nat)) .non=some false:=rfl;unfold DO;simp only [b0,dL,lG,if_false,Bh];rw [decide_eq_false (by omega)]
  unfold Ci;rw [FW];simp only [e,dL,t1,lG,if_false,a1,Eg (show n < 100 by omega),t2]
 have i0:AC (.lst ((Hm n A B).map .str)) (.int 0)=some (.str (jn [32] [wW,fg n])):=atI_nat' _ _;have f1:BP (Ct (.lst ((Hm n A B).map .str)) (.int (n:Nat))) ((A.map (·.1)).map .str) (.lst [])=some (.lst ([]++A.map fun a=>.int (a.2:Nat))):=by
  refine DB _ _ _ _ (by simp) fun i x k hx hk=>?_
  rw [kn] at hk;obtain ⟨a,ha,rfl⟩:=lH.mp hk;have ex:x=.str a.1:=by simpa [ha] using hx.symm
  subst ex;have hA:=A2 a (lY ha);have li:i < A.length:=(ka.mp ha).1;have gi:(Hm n A B)[1+i]?=some (jn [32] (a.1::[a.2].map fg)):=by
   rw [mz];simp only [Hm,EZ,ko,mX,mj];rw [kq (by simpa using li)];simp [ha,EI]
  have er:=Ei (n:=n) gi ⟨by have:=HR hA.fx;omega,(Hb hA.fx).2⟩ (by simp) (by simp) (by omega) (fun k hk=>by rw [la] at hk;rw [hk];exact hA.lt);have er:Ad (.lst ((Hm n A B).map .str)) (.int (1+(i:Nat))) (.str a.1) (.int 1) (.int (n:Nat))=some (.lst [.int (a.2:Nat)]):=by
   rw [show ((1:Int)+(i:Nat))=((1+i:Nat):Int) by push_cast;rfl];exact er
  unfold Ct;rw [GB];simp only [Ak,mV,lZ,kb,dL,BC];rw [show (((min i A.length:Nat):Int))=(i:Nat) by omega,er];simp only [dL];rw [gB (by simp only [lZ,kb,lQ];omega)];rfl
 have f2:BP (Cs (.lst ((Hm n A B).map .str)) (.int (n:Nat)) (.lst (A.map fun a=>.int (a.2:Nat)))) ((B.map (·.1)).map AK) (.lst [])=some (.lst ([]++B.map Bv)):=by
  refine DB _ _ _ _ (by simp) fun i x k hx hk=>?_
  rw [kn] at hk;obtain ⟨b,hb,rfl⟩:=lH.mp hk;have ex:x=AK b.1:=by simpa [hb] using hx.symm
  subst ex;have hB:=B2 b (lY hb);have li:i < B.length:=(ka.mp hb).1;have gi:(Hm n A B)[1+A.length+i]?=some (jn [32] (Jd b)):=by
   rw [show 1+A.length+i=A.length+i+1 by omega];simp only [Hm,EZ,ko,mX,mj];rw [lN (by simp),show A.length+i - ((A.map EI).map (jn [32])).length=i by simp];simp [hb]
  have er:=MV gi n1 n2 hB;rw [show (((1+A.length+i:Nat)):Int)=1+(A.length:Nat)+(i:Nat) by push_cast;rfl] at er;unfold Cs;simp only [GB,Ak,mV,lZ,kb,dL,BC];rw [show (((min i B.length:Nat):Int))=(i:Nat) by omega,er];simp only [dL];rw [En (by simp only [lZ,kb];omega)];rfl
 have ll:(Hm n A B).length=1+A.length+B.length:=by simp [Hm,EZ];omega
 unfold CK;rw [FW];rw [mV] at f1 f2;rw [show YV n A B=jn [10] (Hm n A B) from rfl];simp only [es,dL,i0,r0,s0,s1,items,f1,f2,Ak,BC,kb,ll,Dc];rw [decide_eq_false (by push_cast;omega)];simp only [lG,if_false,AX,dL];rfl
mutual
theorem eqV_refl:∀ d:Dv,d.cmp=true->R.eqV d d=true
 | .non,_=>rfl
 | .bl b,_=>by simp [R.eqV]
 | .int i,_=>by simp [R.eqV]
 | .str l,_=>by simp [R.eqV]
 | .tup xs,h=>by rw [R.eqV];exact FZ xs (by rw [Dv.cmp] at h;exact h)
 | .lst xs,h=>by rw [R.eqV];exact FZ xs (by rw [Dv.cmp] at h;exact h)
 | .dct _ _,h | .ref _,h | .scr _,h | .ty _,h | .mtp _,h | .dti _,h=>by simp [Dv.cmp] at h
theorem FZ:∀ ds:List Dv,Ap ds=true->R.eqVs ds ds=true
 | [],_=>rfl
 | d::ds,h=>by
  rw [Ap,kX] at h;rw [R.eqVs,eqV_refl d h.1,FZ ds h.2];rfl
end
theorem KA {d:Dv} (h:d.cmp=true) (hd:d.dep<=150):PN d d=some true/\RY d d=some false:=by
 constructor<;>simp [KH,h,hd,eqV_refl d h]
theorem PB {N:Nat}:∀ {ds:List Dv},(∀ d∈ds,d.cmp=true/\d.dep<=N)->Ap ds=true/\Bj ds<=N
 | [],_=>⟨rfl,lq _⟩
 | d::ds,h=>by
  obtain ⟨a,b⟩:=PB fun x hx=>h x (kh _ hx)
  obtain ⟨c,e⟩:=h d kg;exact ⟨by rw [Ap,a,c];rfl,by rw [Bj];exact Nat.max_le.mpr ⟨e,b⟩⟩
theorem CY {N:Nat} {ds:List Dv} (h:∀ d∈ds,d.cmp=true/\d.dep<=N):(Dv.tup ds).cmp=true/\(Dv.tup ds).dep<=N+1:=by
 obtain ⟨a,b⟩:=PB h;exact ⟨by rw [Dv.cmp];exact a,by rw [Dv.dep];omega⟩
theorem Uk (l:List Nat):∀ d∈nI l,d.cmp=true/\d.dep<=0:=fun d hd=>by
 obtain ⟨k,_,rfl⟩:=lR.mp hd;exact ⟨rfl,by simp only [Dv.dep];exact kj 0⟩
theorem gQ (b:Tb):(Bv b).cmp=true/\(Bv b).dep<=2:=by
  unfold Bv;split
  · obtain ⟨a,c⟩:=CY (Uk b.2.flatten);exact ⟨a,by omega⟩
  · exact CY fun d hd=>by
      obtain ⟨r,_,rfl⟩:=lR.mp hd;exact CY (Uk r)
theorem gP (n:Nat) (A:List Fa) (B:List Tb):(CQ n A B).cmp=true/\(CQ n A B).dep<=4:=CY (N:=3) fun d hd=>by
  simp only [km,lU,or_false] at hd;rcases hd with rfl | rfl | rfl
  · exact ⟨rfl,by simp only [Dv.dep];omega⟩
  · obtain ⟨a,c⟩:=CY (N:=0) (ds:=A.map fun a=>.int (a.2:Nat)) fun d hd=>by
      obtain ⟨k,_,rfl⟩:=lR.mp hd;exact ⟨rfl,by simp only [Dv.dep];exact kj 0⟩
    exact ⟨a,by omega⟩
  · exact CY (N:=2) fun d hd=>by
      obtain ⟨b,_,rfl⟩:=lR.mp hd;exact gQ b
theorem ZQ (F:List (List Nat)) (D:List Dd):(DQ F D).cmp=true/\(DQ F D).dep<=3:=CY (N:=2) fun d hd=>by
  simp only [km,lU,or_false] at hd;rcases hd with rfl | rfl
  · exact CY (N:=1) fun d hd=>by
      obtain ⟨k,_,rfl⟩:=lR.mp hd;exact ⟨rfl,by simp only [Dv.dep];omega⟩
  · obtain ⟨a,c⟩:=HY D;exact ⟨by rw [Dv.cmp];exact a,by rw [Dv.dep];omega⟩
theorem FS (n:Nat) (i:Int):Al (n+1) (.int i)=some (.bl true):=rfl
theorem Cm (n:Nat) {xs:List Dv} (hl:xs.length<=1000000) (h:∀ x∈xs,Al n x=some (.bl true)):Al (n+1) (.tup xs)=some (.bl true):=by
 have e0:Fm (.tup xs) (.ty "tuple")=some (.bl true):=rfl
 have m:BF (FJ (Al n)) xs=some (xs.map fun _=>.bl true):=DW _ _ xs fun x hx=>by
  unfold FJ;simp only [h x hx,dL,Jl,cond_true]
 have a1:EN (.lst (xs.map fun _=>Dv.bl true))=some (.bl true):=by
  have:∀ xs:List Dv,Ho (xs.map fun _=>Dv.bl true)=some (xs.map fun _=>true):=fun xs=>by
   induction xs with
   | nil=>rfl
   | cons x xs ih=>rw [ko,Ho,ih];rfl
  simp only [EN,this,lX];congr 2;simp
 rw [Al,e0];simp only [dL,MT,if_true,items];rw [As hl,m];simp only [dL,a1]
theorem Kx (n:Nat) {l:List Nat} (h:l.length<=1000000):Al (n+2) (.tup (nI l))=some (.bl true):=Cm _ (by simpa using h) fun x hx=>by
 obtain ⟨k,_,rfl⟩:=lR.mp hx;exact FS _ _
theorem We {n:Nat} {A:List Fa} {B:List Tb} (w:Wd n A B):GS (CQ n A B)=some (.bl true):=by
 rw [HQ];refine Cm 9 (by simp) fun d hd=>?_
 simp only [km,lU,or_false] at hd;rcases hd with rfl | rfl | rfl
 ·exact FS _ _
 ·refine Cm 8 (by have:=w.A1;rw [kb];omega) fun x hx=>?_
  obtain ⟨k,_,rfl⟩:=lR.mp hx;exact FS _ _
 ·refine Cm 8 (by have:=w.B1;rw [kb];omega) fun x hx=>?_
  obtain ⟨b,hb,rfl⟩:=lR.mp hx;have hB:=w.B2 b hb;obtain ⟨q1,_⟩:=Ew w.n2 hB;have l2:=hB.ln;have n2:=w.n2;unfold Bv;split
  ·exact Kx 6 (by omega)
  ·refine Cm 7 (by rw [kb,l2];split<;>omega) fun x hx=>?_
   obtain ⟨r,hr,rfl⟩:=lR.mp hx;exact Kx 5 (by have:=(hB.rw r hr).1;omega)
theorem Qg {n:Nat} {A:List Fa} {B:List Tb} (w:Wd n A B):EH (OF A B) (CQ n A B)=some (.bl true):=by
 have t:Gd (.str (YV n A B)) (.str (YV n A B))=some false:=by
  have e0:Fm (.str (YV n A B)) (.ty "str")=some (.bl true):=rfl
  unfold Gd;simp only [e0,dL,MT,mh,lG,if_false,PL,decide_true]
 have s:Gi (CQ n A B) (CQ n A B)=some (.bl true):=by
  obtain ⟨a,b⟩:=gP n A B;unfold Gi;simp only [We w,dL,Jl,cond_true,cy,if_true,(KA a (by omega)).1]
 unfold EH;rw [Mz w,Pf w,dL,dL,t,dL,if_neg (by decide),MN w,dL,s];rfl
theorem VV (a b:List (List Nat)) (h:a.length+b.length<=1000):AI (.lst (a.map .str)) (.lst (b.map .str))=some (.lst ((a++b).map .str)):=by
 simp only [AI];rw [if_pos (by simp;omega),mj]
theorem PR (a b:List Dv) (h:a.length+b.length<=1000):AI (.tup a) (.tup b)=some (.tup (a++b)):=by
 simp only [AI];rw [if_pos (by omega)]
theorem OV (g:Dv->Option (Option Dv)):∀ xs:List Dv,(∀ x∈xs,∃ p,g x=some p)->∃ ys,Mw g xs=some ys/\ys.length<=xs.length
 | [],_=>⟨[],rfl,kj _⟩
 | x::xs,h=>by
  obtain ⟨p,e⟩:=h x kg;obtain ⟨ys,e2,l⟩:=OV g xs fun y hy=>h y (kh _ hy)
  cases p with
  | none=>exact ⟨ys,by simp only [Mw,e,e2,dL],by rw [lE];omega⟩
  | some d=>exact ⟨d::ys,by simp only [Mw,e,e2,dL],by simp;exact l⟩
theorem Pm {f:Dv} (hf:Fd f) {F:List (List Nat)} {D:List Dd} (lD:D.length<=4) {m:Nat} (m1:1<=m) (m2:m<=4):∃ f' n,Jc (DQ F D) f (.int (m:Nat))=some (f',.int (n:Nat))/\1<=n/\n<=40/\Fd f':=by
  obtain ⟨r,f1,e1,b1,hf1⟩:=AY hf (n:=8) (by decide) (by decide);have s1:AC (DQ F D) (.int 1)=some (.tup (D.map AK)):=rfl;unfold Jc;simp only [e1,dL,Bh]
  by_cases c:(r:Int)=0
  · obtain ⟨ys,e2,l2⟩:=OV Mc (D.map AK) fun x hx=>by
      obtain ⟨d,_,rfl⟩:=lR.mp hx;unfold Mc AK;rw [PY];simp only [Bh,dL];split<;>exact ⟨_,rfl⟩
    rw [kb] at l2;obtain ⟨r2,f2,e3,b3,hf2⟩:=AY hf1 (n:=36) (by decide) (by decide);have ix:∃ k:Nat,AC (.lst [(.int 40),(.int 34),(.int 24),(.int 20),(.int 17)]) (.int (ys.length:Nat))=some (.int (k:Nat))/\1<=k/\k<=40:=by
      have:ys.length=0\/ys.length=1\/ys.length=2\/ys.length=3\/ys.length=4:=by omega
      rcases this with e | e | e | e | e<;>rw [e]
      · exact ⟨40,rfl,by decide,by decide⟩
      · exact ⟨34,rfl,by decide,by decide⟩
      · exact ⟨24,rfl,by decide,by decide⟩
      · exact ⟨20,rfl,by decide,by decide⟩
      · exact ⟨17,rfl,by decide,by decide⟩
    obtain ⟨k,ek,k1,k2⟩:=ix;rw [if_pos (decide_eq_true c),s1,dL];simp only [items,dL];rw [As (by rw [kb];omega),e2];simp only [dL,Ak,e3,BC,ek,Hi]
    by_cases q:((k:Nat):Int) < 5+(r2:Nat)
    · rw [if_pos q];exact ⟨f2,k,rfl,k1,k2,hf2⟩
    · rw [if_neg q];exact ⟨f2,5+r2,by rw [nC];rfl,by omega,by omega,hf2⟩
  · rw [if_neg (by rw [decide_eq_false c];decide)];exact ⟨f1,m,rfl,m1,by omega,hf1⟩
theorem LS {τ ρ:Type} (g:Dv->Dv->Option (Lp τ Dv ρ)) (P:Dv->Prop):∀ (xs acc:List Dv),acc.length+xs.length<=1000->(∀ x∈xs,∀ acc:List Dv,acc.length<=1000->∃ t,g x (.lst acc)=some (.go (.lst (acc++[t])))/\P t)->∃ ts,NK g xs (.lst acc)=some (.go (.lst (acc++ts)))/\ts.length=xs.length/\∀ t∈ts,P t
 | [],acc,_,_=>⟨[],by simp only [NK,mC],rfl,fun _ z=>by cases z⟩
 | x::xs,acc,hl,h=>by
  rw [lE] at hl;obtain ⟨t,e,ht⟩:=h x kg acc (by omega);obtain ⟨ts,e2,l2,h2⟩:=LS g P xs (acc++[t]) (by rw [lJ];simp;omega) fun y hy=>h y (kh _ hy)
  exact ⟨t::ts,by simp only [NK,e,dL,e2,lh,nA],by simp [l2],fun y hy=>(km.mp hy).elim (fun z=>z▸ht) (h2 y)⟩
noncomputable def A1:List Nat:=[65,98,99,100,101,102]
noncomputable def A2:List Nat:=[83,104,97,112,101]
def D1:Dd:=([97,98,99,100,101,102],1)
def D2:Dd:=([108,101,116,115],2)
theorem dQ {F:List (List Nat)} (hF:∀ l∈F,Nq l):∀ l∈F++[A1,A2]++F,Nq l:=fun l hl=>by
 rcases lK.mp hl with h | h
 ·rcases lK.mp h with h | h
  ·exact hF l h
  ·simp only [km,lU,or_false] at h;rcases h with rfl | rfl
   ·exact ⟨65,[98,99,100,101,102],rfl,by decide,by decide,by unfold low;decide⟩
   ·exact ⟨83,[104,97,112,101],rfl,by decide,by decide,by unfold low;decide⟩
 ·exact hF l h
theorem dR {D:List Dd} (hD:∀ d∈D,Nr d):∀ d∈D++[D1,D2]++D,Nr d:=fun l hl=>by
 rcases lK.mp hl with h | h
 ·rcases lK.mp h with h | h
  ·exact hD l h
  ·simp only [km,lU,or_false] at h;rcases h with rfl | rfl
   ·exact ⟨⟨by decide,by decide,by unfold low;decide,by decide⟩,.inl rfl⟩
   ·exact ⟨⟨by decide,by decide,by unfold low;decide,by decide⟩,.inr rfl⟩
 ·exact hD l h
theorem Fc (g:Dv->Option Dv) (hg:∀ a b,g (.tup [a,b])=(AI a (.str [47])).bind fun d10=>(CP b).bind fun d11=>(AI d10 d11).bind fun d12=>some d12):∀ {D:List Dd},(∀ d∈D,Nr d)->BF g (D.map AK)=some ((D.map dw).map .str)
 | [],_=>rfl
 | d::D,h=>by
  rw [ko,BF,XU g hg (h d kg),Fc g hg fun x hx=>h x (kh _ hx)];rfl
theorem Od {F:List (List Nat)} {D:List Dd} (hF:∀ l∈F,Nq l) (hD:∀ d∈D,Nr d) (lF:F.length<=100) (lD:D.length<=100):Bq (.str [32]) (.lst ((Dj F D).map .str))=some (.str (jn [32] (Dj F D))):=by
 have cl:=FG hF hD;have ll:(Dj F D).length=F.length+D.length+2:=by simp [Dj];omega
 exact Jq (N:=8) (fun l hl=>(cl l hl).1) (by omega)
theorem Tf (ns:List Int) (h:ns.length<=63):one WH [Dv.scr ns]=some (Dv.bl true):=by
 show WH (.scr ns)=_;obtain ⟨f0,e0,hf0⟩:=JC (ns:=ns) (k:=0);obtain ⟨F,D,f1,e1,lF,hF,lD,hD,hf1⟩:=Mb hf0;have s0:∀ F D,AC (DQ F D) (.int 0)=some (.tup (F.map .str)):=fun _ _=>rfl
 have s1:∀ F D,AC (DQ F D) (.int 1)=some (.tup (D.map AK)):=fun _ _=>rfl
 have p1:∀ {F:List (List Nat)},F.length<=100->AI (.lst [.str [115,104,97,112,101]]) (.lst (F.map .str))=some (.lst ((Vj::F).map .str)):=fun {F} l=>VV [Vj] F (by simp;omega)
 have p2:∀ {F:List (List Nat)},F.length<=100->AI (.lst ((Vj::F).map .str)) (.lst [.str [124]])=some (.lst ((Vj::F++[[124]]).map .str)):=fun {F} l=>VV (Vj::F) [[124]] (by simp;omega)
 have p3:∀ {F:List (List Nat)} {D:List Dd},F.length<=100->D.length<=100->AI (.lst ((Vj::F++[[124]]).map .str)) (.lst ((D.map dw).map .str))=some (.lst ((Dj F D).map .str)):=fun {F D} l l'=>by
  rw [VV _ _ (by simp;omega)];simp [Dj]
 have hF2:=dQ hF;have hD2:=dR hD;have lF2:(F++[A1,A2]++F).length<=100:=by simp;omega
 have lD2:(D++[D1,D2]++D).length<=100:=by simp;omega
 have q1:(AI (.tup (F.map .str)) (.tup [(.str [65,98,99,100,101,102]),(.str [83,104,97,112,101])])).bind (fun d=>AI d (.tup (F.map .str)))=some (.tup ((F++[A1,A2]++F).map .str)):=by
  rw [PR _ _ (by simp;omega),dL,PR _ _ (by simp;omega)];simp [A1,A2]
 have q2:(AI (.tup (D.map AK)) (.tup [(.tup [(.str [97,98,99,100,101,102]),(.int 1)]),(.tup [(.str [108,101,116,115]),(.int 2)])])).bind (fun d=>AI d (.tup (D.map AK)))=some (.tup ((D++[D1,D2]++D).map AK)):=by
  rw [PR _ _ (by simp;omega),dL,PR _ _ (by simp;omega)];simp [D1,D2,AK]
 obtain ⟨x1,q1a,q1b⟩:=mG.mp q1;obtain ⟨x2,q2a,q2b⟩:=mG.mp q2;obtain ⟨c1,c2⟩:=ZQ F D;obtain ⟨c3,c4⟩:=ZQ (F++[A1,A2]++F) (D++[D1,D2]++D);have m:∃ d:Int,(Hi (.int 9) (.int ns.length)).bind (fun d43=>MI (.int 3) d43)=some (.int d)/\3<=d/\d<=1000:=by
  refine ⟨_,rfl,?_,?_⟩<;>(split<;>split<;>omega)
 obtain ⟨d,hd,d3,d9⟩:=m;obtain ⟨y,ha,hb⟩:=mG.mp hd;have sm:(R.small 1 && R.small d)=true:=by unfold R.small;simp;omega
 have rg:Pq [.int 1,.int d]=some ((List.range (d - 1).toNat).map fun k=>.int (1+(k:Nat))):=by simp only [Pq,sm,cond_true]
 obtain ⟨ts,e2,l2,ht⟩:=LS (Me (.scr ns) (DQ F D)) (fun t=>EH (DQ F D) t=some (.bl true)) ((List.range (d - 1).toNat).map fun k=>.int (1+(k:Nat))) [] (by simp;omega) fun x hx acc hl=>by
  obtain ⟨k,_,rfl⟩:=lR.mp hx;obtain ⟨f,e1,hf⟩:=JC (ns:=ns) (k:=1+k);rw [nC] at e1;obtain ⟨r,f2,e2,b2,hf2⟩:=AY hf (n:=4) (by decide) (by decide);obtain ⟨f3,n,e3,n1,n2,hf3⟩:=Pm (F:=F) hf2 lD (m:=1+r) (by omega) (by omega);rw [nC] at e3;obtain ⟨us,tbs,f4,e4,l4,h4,p4,_⟩:=MM hf3 (fs:=F.map .str) (ds:=D.map AK) (n:=n) (by omega) (by omega) (by rw [kb];omega) (by rw [kb];omega) fun x hx=>by
   obtain ⟨d,hd,rfl⟩:=lR.mp hx;exact ⟨_,_,rfl,(hD d hd).2⟩
  rw [kb] at l4;obtain ⟨A,eA,rfl,hA⟩:=UB hF l4 h4;obtain ⟨B,eB,rfl,hB⟩:=Rn hD p4;have w:Wd n A B:=⟨n1,n2,by rw [eA,kb] at lF;exact lF,by rw [eB,kb] at lD;exact lD,hA,hB⟩;have gd:=Qg w;have sh:OF A B=DQ F D:=by rw [OF,<- eA,<- eB]
  rw [sh] at gd;have e4:Do f3 (DQ F D) (.int (n:Nat))=some (CQ n A B,f4):=e4;refine ⟨CQ n A B,?_,gd⟩;have il:AC (.lst (acc++[CQ n A B])) (.int (-1))=some (CQ n A B):=by
   simp only [AC,Dx,LO];rw [if_neg (by decide),if_pos (by simp;omega)];simp only [dL];rw [show (-1+((acc++[CQ n A B]).length:Int)).toNat=acc.length by simp;omega];simp
  have e1:DU (.scr ns) (.int (1+(k:Nat)))=some f:=e1;have e3:Jc (DQ F D) f2 (.int (1+(r:Nat)))=some (f3,.int (n:Nat)):=e3;unfold Me;simp only [e1,dL,e2,BC,e3,GB,e4,En (show acc.length<=1000000 by omega),Eo,il,gd,Jl,cond_true,MT,mh,lG,if_false]
 obtain ⟨t0,ts',rfl⟩:∃ a b,ts=a::b:=by
  cases ts with
  | nil=>simp at l2;omega
  | cons a b=>exact ⟨a,b,rfl⟩
 have g0:=ht t0 kg;have i0:AC (.lst (t0::ts')) (.int 0)=some t0:=atI_nat' _ _;have e0:DU (.scr ns) (.int 0)=some f0:=e0;have z1:DQ (F++[A1,A2]++F) (D++[D1,D2]++D)=.tup [.tup ((F++[A1,A2]++F).map .str),.tup ((D++[D1,D2]++D).map AK)]:=rfl;unfold WH;rw [e0,dL,e1,dL,FW];simp only [s0,s1,dL,EF,p1 (F:=F) (by omega),p2 (F:=F) (by omega),items];rw [As (by rw [kb];omega),Fc SV (fun _ _=>rfl) hD,dL,p3 (by omega) (by omega),dL,Od hF hD (by omega) (by omega),dL,Ip hF hD (by omega) (by omega),dL,(KA c1 (by omega)).2,dL,if_neg (by decide),q1a,dL,q1b,dL,q2a,dL,q2b,dL,FW,<- z1];simp only [s0,s1,dL,p1 lF2,p2 lF2];rw [As (by rw [kb];omega),Fc SU (fun _ _=>rfl) hD2,dL,p3 lF2 lD2,dL,Od hF2 hD2 lF2 lD2,dL,Ip hF2 hD2 lF2 lD2,dL,(KA c3 (by omega)).2,dL,if_neg (by decide)];have al:Ak (.scr ns)=some (.int ns.length):=rfl;rw [al,dL,ha,dL,hb,dL,rg,dL,e2,dL];simp only [Rs.el,mV,i0,dL,g0,Jl,cond_true]
theorem GH:Ac "has_word_length" (top 6):=GI (by kernel_rfl) (by intros;kernel_rfl)
theorem RN:Ac "is_small" (top 7):=GI (by kernel_rfl) (by intros;kernel_rfl)
theorem VO:Ac "is_name" (top 8):=GI (by kernel_rfl) (by intros;kernel_rfl)
theorem RO:Ac "is_fixed" (top 9):=GI (by kernel_rfl) (by intros;kernel_rfl)
theorem IG:Ac "read_figures" (top 10):=GI (by kernel_rfl) (by intros;kernel_rfl)
theorem II:Ac "entries_text" (top 13):=KG (by kernel_rfl) (by intros;kernel_rfl)
theorem MC:Ac "entries_of" (top 14):=KG (by kernel_rfl) (by intros;kernel_rfl)
theorem Ly:Ac "world_text" (top 12):=KG (by kernel_rfl) (by intros;kernel_rfl)
theorem Nf:Ac "read_size" (top 16):=GI (by kernel_rfl) (by intros;kernel_rfl)
theorem IH:Ac "read_entries" (top 18):=jK (by kernel_rfl) (by intros;kernel_rfl)
theorem MA:Ac "read_table" (top 17):=jL (by kernel_rfl) (by intros;kernel_rfl)
theorem Lz:Ac "read_world" (top 15):=KG (by kernel_rfl) (by intros;kernel_rfl)
theorem Ng:Ac "read_deed" (top 22):=GI (by kernel_rfl) (by intros;kernel_rfl)
theorem Hd:Ac "read_shape_row" (top 21):=GI (by kernel_rfl) (by intros;kernel_rfl)
theorem MB:Ac "read_shape" (top 20):=GI (by kernel_rfl) (by intros;kernel_rfl)
theorem YH:Ac "_law_feed" (top 24):=KG (by kernel_rfl) (by intros;kernel_rfl)
theorem YE:Ac "_law_take" (top 25):=KG (by kernel_rfl) (by intros;kernel_rfl)
theorem VM:Ac "_law_names" (top 26):=KG (by kernel_rfl) (by intros;kernel_rfl)
theorem VJ:Ac "_law_shape" (top 27):=GI (by kernel_rfl) (by intros;kernel_rfl)
theorem VI:Ac "_law_world" (top 28):=jM (by kernel_rfl) (by intros;kernel_rfl)
theorem YG:Ac "_law_flat" (top 29):=GI (by kernel_rfl) (by intros;kernel_rfl)
theorem VN:Ac "_law_lines" (top 30):=KG (by kernel_rfl) (by intros;kernel_rfl)
theorem VL:Ac "_law_plain" (top 31):=GI (by kernel_rfl) (by intros;kernel_rfl)
theorem YF:Ac "_law_good" (top 32):=KG (by kernel_rfl) (by intros;kernel_rfl)
theorem all_mk {l:W.OpenLaw} {w:World} {K:W.Frag} {h:Heap} {mg:Str->Option Value} {fa:Addr} (X:K.In h) (G:h.Ns mainGlobals mg) (hfa:mg "law" = some (.ref fa)) (hz:md.bl.all (Jk K)=true) (hcs:md.cs.all (cN K)=true)
    (hsHasWordLength:GF K "has_word_length" (top 6))
    (hsIsSmall:GF K "is_small" (top 7))
    (hsIsName:GF K "is_name" (top 8))
    (hsIsFixed:GF K "is_fixed" (top 9))
    (hsReadFigures:GF K "read_figures" (top 10))
    (hsEntriesText:GF K "entries_text" (top 13))
    (hsEntriesOf:GF K "entries_of" (top 14))
    (hsWorldText:GF K "world_text" (top 12))
    (hsReadSize:GF K "read_size" (top 16))
    (hsReadEntries:GF K "read_entries" (top 18))
    (hsReadTable:GF K "read_table" (top 17))
    (hsReadWorld:GF K "read_world" (top 15))
    (hsReadDeed:GF K "read_deed" (top 22))
    (hsReadShapeRow:GF K "read_shape_row" (top 21))
    (hsReadShape:GF K "read_shape" (top 20))
    (hsLFeed:GF K "_law_feed" (top 24))
    (hsLTake:GF K "_law_take" (top 25))
    (hsLNames:GF K "_law_names" (top 26))
    (hsLShape:GF K "_law_shape" (top 27))
    (hsLWorld:GF K "_law_world" (top 28))
    (hsLFlat:GF K "_law_flat" (top 29))
    (hsLLines:GF K "_law_lines" (top 30))
    (hsLPlain:GF K "_law_plain" (top 31))
    (hsLGood:GF K "_law_good" (top 32))
    (hsLaw:GF K "law" (top 33))
    : ∃ fd:FuncData,(∀ (s:Shared) (v:Value),BindsTo s fd ⟨[v],[]⟩ [("_law_script", v)])/\∀ base:Heap,K.In base->base.Ns mainGlobals mg->FnOk l.prog w K mg base RV 35 fa fd ["_law_script"] (OD K):=by
  have e:=hfa.symm.trans (W.mg_of X G hsLaw.1);cases e;have b:Bs md K mg:=gh X G hcs hz
  refine ⟨W.fnOf "law" "law" (Am (top 33)) (AW (top 33)) (AG (top 33)) .none .none .none (aX K (Qi K "law")) none (Xk K (Qi K "law")) .none,fun s v=>.of_eq rfl,fun base _ _=>?_⟩
  have f0:Fs l.prog w K mg base 0 iA:=Fs.nil;have f1:=f0.def (nb:=true) b GG GE hsHasWordLength (W.mg_of X G hsHasWordLength.1) GH;have f2:=f1.def (nb:=true) b Qq Qj hsIsSmall (W.mg_of X G hsIsSmall.1) RN;have f3:=f2.def (nb:=true) b Ui UT hsIsName (W.mg_of X G hsIsName.1) VO;have f4:=f3.def (nb:=true) b Qr Qk hsIsFixed (W.mg_of X G hsIsFixed.1) RO;have f5:=f4.def (nb:=false) b IB Hy hsReadFigures (W.mg_of X G hsReadFigures.1) IG;have f6:=f5.def (nb:=false) b ID IA hsEntriesText (W.mg_of X G hsEntriesText.1) II;have f7:=f6.def (nb:=false) b Ls Ld hsEntriesOf (W.mg_of X G hsEntriesOf.1) MC;have f8:=f7.def (nb:=false) b Ln LZ hsWorldText (W.mg_of X G hsWorldText.1) Ly;have f9:=f8.def (nb:=false) b NW NR hsReadSize (W.mg_of X G hsReadSize.1) Nf;have f10:=f9.def (nb:=false) b IC Hz hsReadEntries (W.mg_of X G hsReadEntries.1) IH;have f11:=f10.def (nb:=false) b Lq Lb hsReadTable (W.mg_of X G hsReadTable.1) MA;have f12:=f11.def (nb:=false) b Lo La hsReadWorld (W.mg_of X G hsReadWorld.1) Lz;have f13:=f12.def (nb:=false) b NX NS hsReadDeed (W.mg_of X G hsReadDeed.1) Ng;have f14:=f13.def (nb:=false) b HZ HW hsReadShapeRow (W.mg_of X G hsReadShapeRow.1) Hd;have f15:=f14.def (nb:=false) b Lr Lc hsReadShape (W.mg_of X G hsReadShape.1) MB;have f16:=f15.def (nb:=false) b Xh XS hsLFeed (W.mg_of X G hsLFeed.1) YH;have f17:=f16.def (nb:=false) b Xe XO hsLTake (W.mg_of X G hsLTake.1) YE;have f18:=f17.def (nb:=false) b Ug UR hsLNames (W.mg_of X G hsLNames.1) VM;have f19:=f18.def (nb:=false) b Ud UP hsLShape (W.mg_of X G hsLShape.1) VJ;have f20:=f19.def (nb:=false) b Uc UO hsLWorld (W.mg_of X G hsLWorld.1) VI;have f21:=f20.def (nb:=false) b Xg XR hsLFlat (W.mg_of X G hsLFlat.1) YG;have f22:=f21.def (nb:=false) b Uh US hsLLines (W.mg_of X G hsLLines.1) VN;have f23:Fs l.prog w K mg base 33 Tv:=by unfold Tv;rw [HQ];exact f22.defR (io:=[]) (F:=fun n=>one (Al n)) b (by kernel_rfl) (fun ds=>iX ds) Ue UQ hsLPlain (W.mg_of X G hsLPlain.1) VL 10
  have f24:=f23.def (nb:=true) b Xf XQ hsLGood (W.mg_of X G hsLGood.1) YF
  have hp:AB (top 33)=(["_law_script"]:List Str):=by kernel_rfl
  have r:=bO (ps:=AB (top 33)) (nb:=true) (by rw [hp];rfl) (NV b f24 gO gK (NI hsLaw)) Tf;rw [hp] at r;exact r
theorem walk {l:W.OpenLaw} {q:Program} {loose:List Str} {XP:(Str->Option Value)->Heap->Prop} {YP:World->Heap->Prop} {d:DefRec} {K:Params->W.Frag} (hn:l.most=some 63) (hdf:d.params.defaults=[])
    (hY:∀ (w:World) (h:Heap),YP w h->(K w.params).In h)
    (F:∀ (w:World) (mg:Str->Option Value) (fa:Addr) (h:Heap),(K w.params).In h->h.Ns mainGlobals mg->mg d.name=some (.ref fa) ->
      ∃ fd:FuncData,(∀ (s:Shared) (u:Value),BindsTo s fd ⟨[u],[]⟩ [("_law_script", u)])/\∀ base:Heap,(K w.params).In base->base.Ns mainGlobals mg->FnOk l.prog w (K w.params) mg base RV 35 fa fd ["_law_script"] (OD (K w.params))) :
    W.WalkO q loose XP YP l.row.toRowW d [] (fun f vs=>PySem.call f vs):=
  L2.walk_of (n:=63) (k:=35) (x := "_law_script") (CX:=fun _=>RV) (sp:=fun w=>OD (K w.params)) hn (by decide) hdf ⟨rfl,by decide,by decide,rfl⟩ hY F (fun _ _ a ns hl hO hS=>⟨a,ns,rfl,hS,hl,hO,fun _=>rfl⟩) fun _ _ _ _ _ z=>z
abbrev fO (i:Nat) (x:Str) (pm:Value) (cd:Addr):Obj:=⟨.type "function", none,.func (W.fnOf x x (Am (top i)) (AW (top i)) (AG (top i)) .none .none .none pm none (.ref cd) .none),#[]⟩
noncomputable def KP (P:Params):W.Frag:=[
(3,⟨.type "dict", none,.dict #[ke P "__name__" 165 (.str "law_shapefree_k12_whole_worlds_written_and_r" 372),ke P "__doc__" 166 .none,ke P "__package__" 167 .none,ke P "__loader__" 168 (.builtin "__main__.__loader__#opaque"),ke P "__spec__" 169 .none,ke P "__annotations__" 170 (.ref 6),ke P "__builtins__" 171 (.ref 4),ke P "__file__" 173 (.str "/claim/cut.py" 172),ke P "__cached__" 174 .none,ke P "ShapeError" 206 (.ref 24),ke P "BadText" 231 (.ref 44),ke P "KEPT" 243 (.ref 47),ke P "LONGEST" 245 (.int 6 244),ke P "has_word_length" 252 (.ref 54),ke P "is_small" 258 (.ref 59),ke P "is_name" 265 (.ref 66),ke P "is_fixed" 272 (.ref 73),ke P "read_figures" 278 (.ref 78),ke P "world_text" 293 (.ref 85),ke P "entries_text" 299 (.ref 90),ke P "entries_of" 309 (.ref 97),ke P "read_world" 325 (.ref 104),ke P "read_size" 334 (.ref 111),ke P "read_table" 340 (.ref 116),ke P "read_entries" 346 (.ref 121),ke P "read_shape" 357 (.ref 128),ke P "read_shape_row" 363 (.ref 133),ke P "read_deed" 371 (.ref 140),ke P "_law_feed" 383 (.ref 147),ke P "_law_take" 393 (.ref 154),ke P "_law_names" 399 (.ref 159),ke P "_law_shape" 405 (.ref 164),ke P "_law_world" 411 (.ref 169),ke P "_law_flat" 420 (.ref 176),ke P "_law_lines" 426 (.ref 181),ke P "_law_plain" 432 (.ref 186),ke P "_law_good" 443 (.ref 193),ke P "law" 449 (.ref 198)] 38,#[]⟩),
(54,fO 6 "has_word_length" (.str "shapefree.words" 232) 53),
(53,cO "has_word_length" 246 11 1 3 48 49 .none (.ref 50) (.ref 51) 52 250),
(59,fO 7 "is_small" (.str "shapefree.words" 232) 58),
(58,cO "is_small" 253 13 1 3 55 56 .none .none .none 57 256),
(66,fO 8 "is_name" (.str "shapefree.words" 232) 65),
(65,cO "is_name" 259 15 1 3 60 61 .none (.ref 62) (.ref 63) 64 263),
(73,fO 9 "is_fixed" (.str "shapefree.words" 232) 72),
(72,cO "is_fixed" 266 17 1 3 67 68 .none (.ref 69) (.ref 70) 71 270),
(78,fO 10 "read_figures" (.str "shapefree.words" 232) 77),
(77,cO "read_figures" 273 19 1 3 74 75 .none .none .none 76 276),
(85,fO 12 "world_text" (.str "shapefree.worldtexts" 279) 84),
(84,cO "world_text" 281 26 2 3 79 80 .none (.ref 81) (.ref 82) 83 291),
(90,fO 13 "entries_text" (.str "shapefree.worldtexts" 279) 89),
(89,cO "entries_text" 294 33 2 3 86 87 .none .none .none 88 297),
(97,fO 14 "entries_of" (.str "shapefree.worldtexts" 279) 96),
(96,cO "entries_of" 300 35 2 3 91 92 .none (.ref 93) (.ref 94) 95 307),
(104,fO 15 "read_world" (.str "shapefree.worldtexts" 279) 103),
(103,cO "read_world" 310 42 2 3 98 99 .none (.ref 100) (.ref 101) 102 323),
(111,fO 16 "read_size" (.str "shapefree.worldtexts" 279) 110),
(110,cO "read_size" 326 56 1 3 105 106 .none (.ref 107) (.ref 108) 109 332),
(116,fO 17 "read_table" (.str "shapefree.worldtexts" 279) 115),
(115,cO "read_table" 335 64 4 3 112 113 .none .none .none 114 338),
(121,fO 18 "read_entries" (.str "shapefree.worldtexts" 279) 120),
(120,cO "read_entries" 341 69 5 3 117 118 .none .none .none 119 344),
(128,fO 20 "read_shape" (.str "shapefree.reader" 347) 127),
(127,cO "read_shape" 349 78 1 3 122 123 .none (.ref 124) (.ref 125) 126 355),
(133,fO 21 "read_shape_row" (.str "shapefree.reader" 347) 132),
(132,cO "read_shape_row" 358 86 1 3 129 130 .none .none .none 131 361),
(140,fO 22 "read_deed" (.str "shapefree.reader" 347) 139),
(139,cO "read_deed" 364 96 1 3 134 135 .none (.ref 136) (.ref 137) 138 369),
(147,fO 24 "_law_feed" (.str "law_shapefree_k12_whole_worlds_written_and_r" 372) 146),
(146,cO "_law_feed" 374 102 2 3 141 142 .none (.ref 143) (.ref 144) 145 381),
(154,fO 25 "_law_take" (.str "law_shapefree_k12_whole_worlds_written_and_r" 372) 153),
(153,cO "_law_take" 384 112 2 3 148 149 .none (.ref 150) (.ref 151) 152 391),
(159,fO 26 "_law_names" (.str "law_shapefree_k12_whole_worlds_written_and_r" 372) 158),
(158,cO "_law_names" 394 120 2 3 155 156 .none .none .none 157 397),
(164,fO 27 "_law_shape" (.str "law_shapefree_k12_whole_worlds_written_and_r" 372) 163),
(163,cO "_law_shape" 400 135 1 3 160 161 .none .none .none 162 403),
(169,fO 28 "_law_world" (.str "law_shapefree_k12_whole_worlds_written_and_r" 372) 168),
(168,cO "_law_world" 406 141 3 3 165 166 .none .none .none 167 409),
(176,fO 29 "_law_flat" (.str "law_shapefree_k12_whole_worlds_written_and_r" 372) 175),
(175,cO "_law_flat" 412 150 1 3 170 171 .none (.ref 172) (.ref 173) 174 418),
(181,fO 30 "_law_lines" (.str "law_shapefree_k12_whole_worlds_written_and_r" 372) 180),
(180,cO "_law_lines" 421 155 2 3 177 178 .none .none .none 179 424),
(186,fO 31 "_law_plain" (.str "law_shapefree_k12_whole_worlds_written_and_r" 372) 185),
(185,cO "_law_plain" 427 166 1 3 182 183 .none .none .none 184 430),
(193,fO 32 "_law_good" (.str "law_shapefree_k12_whole_worlds_written_and_r" 372) 192),
(192,cO "_law_good" 433 170 2 3 187 188 .none (.ref 189) (.ref 190) 191 441),
(198,fO 33 "law" (.str "law_shapefree_k12_whole_worlds_written_and_r" 372) 197),
(197,cO "law" 444 177 1 3 194 195 .none .none .none 196 447),
(47,⟨.type "tuple", none,.seq #[.str "inputs" 234,.str "def" 235,.str "tell" 236,.str "let" 237,.str "loop" 238,.str "pick" 239,.str "call" 240,.str "world" 241,.str "shape" 242] 0,#[]⟩)]
def dLaw:DefRec:=⟨"law", Am (top 33),AW (top 33),AG (top 33),cK (top 33)⟩
theorem top_left:YZ PySem.Challenge.rw_shapefree_k12_whole_worlds_written_and_r 34 [3,54,53,59,58,66,65,73,72,78,77,85,84,90,89,97,96,104,103,111,110,116,115,121,120,128,127,133,132,140,139,147,146,154,153,159,158,164,163,169,168,176,175,181,180,186,185,193,192,198,197,47] KP 2582:=fun w=>by kernel_rfl
theorem top_said:PySem.Challenge.rw_shapefree_k12_whole_worlds_written_and_r.wellSaid=true:=by decide +kernel
end My
set_option maxHeartbeats 1000000
set_option maxHeartbeats 1000000
set_option maxHeartbeats 1000000
set_option maxHeartbeats 1000000
set_option maxHeartbeats 1000000
set_option maxHeartbeats 1000000
open PySem PySem.W PyProof.Rows
set_option maxRecDepth 100000 in
set_option maxHeartbeats 0 in
theorem PySem.Challenge.cw_shapefree_k12_whole_worlds_written_and_r_holds : PySem.Challenge.rw_shapefree_k12_whole_worlds_written_and_r.Holds := by
  refine L2.mk_law (d:=My.dLaw) My.top_said My.top_left (fun P=>by kernel_rfl) (by kernel_rfl) (by kernel_rfl) (by kernel_rfl) (by kernel_rfl) (by kernel_rfl) (by decide +kernel) ⟨rfl,rfl,rfl,rfl,rfl,by decide +kernel⟩ (by w_witness2) ?call
  refine My.walk (l:=PySem.Challenge.rw_shapefree_k12_whole_worlds_written_and_r) (d:=My.dLaw) (K:=My.KP) rfl (by kernel_rfl) (fun w h Y=>Y) fun w mg fa h KX G hmg=>My.all_mk KX G hmg (by kernel_rfl) (by kernel_rfl) (by and_intros<;>kernel_rfl) (by and_intros<;>kernel_rfl) (by and_intros<;>kernel_rfl) (by and_intros<;>kernel_rfl) (by and_intros<;>kernel_rfl) (by and_intros<;>kernel_rfl) (by and_intros<;>kernel_rfl) (by and_intros<;>kernel_rfl) (by and_intros<;>kernel_rfl) (by and_intros<;>kernel_rfl) (by and_intros<;>kernel_rfl) (by and_intros<;>kernel_rfl) (by and_intros<;>kernel_rfl) (by and_intros<;>kernel_rfl) (by and_intros<;>kernel_rfl) (by and_intros<;>kernel_rfl) (by and_intros<;>kernel_rfl) (by and_intros<;>kernel_rfl) (by and_intros<;>kernel_rfl) (by and_intros<;>kernel_rfl) (by and_intros<;>kernel_rfl) (by and_intros<;>kernel_rfl) (by and_intros<;>kernel_rfl) (by and_intros<;>kernel_rfl) (by and_intros<;>kernel_rfl)
