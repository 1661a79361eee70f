import PyProof.Rows.All
import Wide.All
import OpenK.AllK
import Wide.FinOn
import PyProof.ZipIter
import PyProof.EnumMake
import PyProof.Draws
import KE.KRevIter
import PyProof.ListRange
import PyProof.CollectStr
import PyProof.Rows.CallKwBuiltin
import PyProof.MinMaxWalk
import PyProof.WalkInts
import PyProof.ListMulRoad
import PyProof.ReprRoads
import PyProof.ReprLen
import PyProof.IsRules
import PyProof.Rows.SortShell
import PyProof.StrLawsIn
import Lean
import PyProof.EqAt
import PyProof.EqKinds
import PyProof.TupleCall
import PySem.Challenge.RW_shapefree_k47_rows_of_points
noncomputable section
set_option Elab.async false
set_option linter.all false
set_option maxRecDepth 100000
set_option maxHeartbeats 4000000
abbrev dL:=@Option.bind_some
abbrev lA:=@List.getElem?_eq_getElem
abbrev lB:=@Bool.and_eq_true
abbrev lC:=@PySem.Heap.get?_push_of_some
abbrev lD:=@List.getElem?_eq_some_iff
abbrev lE:=@List.mem_cons_self
abbrev lF:=@List.size_toArray
abbrev lG:=@List.mem_cons_of_mem
abbrev lH:=@List.mem_append_right
abbrev lI:=@List.map_cons
abbrev lJ:=@Nat.le_refl
abbrev lK:=@List.contains_iff_mem
abbrev lL:=@List.getElem?_append_left
abbrev lM:=@List.mem_append_left
abbrev lN:=@Bool.false_eq_true
abbrev lO:=@List.mem_cons
abbrev lP:=@List.getElem?_map
abbrev lQ:=@PySem.Heap.lt_size
abbrev lR:=@Nat.le_trans
abbrev lT:=@PySem.Heap.get?_push_size
abbrev lU:=@Nat.lt_of_lt_of_le
abbrev lV:=@Bool.false_ne_true
abbrev lW:=@List.mem_append
abbrev lX:=@List.length_cons
abbrev lY:=@List.getD_eq_getElem?_getD
abbrev lZ:=@List.length_map
abbrev la:=@List.length_append
abbrev lg:=@List.getElem?_append_right
abbrev lh:=@List.getElem?_set_ne
abbrev lj:=@List.length_set
abbrev lp:=@Option.map_some
abbrev lq:=@Nat.ne_of_lt
abbrev lu:=@List.mem_singleton
abbrev lx:=@List.all_eq_true
abbrev ly:=@List.getElem?_set_self
abbrev lz:=@PyProof.Rows.slot_tuple_getitem
abbrev mB:=@List.mem_map
abbrev mC:=@PySem.mem_of_lookup
abbrev mD:=@PyProof.Rows.callWith_type1
abbrev mE:=@Option.map_eq_some_iff
abbrev mF:=@Nat.zero_le
abbrev mG:=@List.lookup_cons
abbrev mH:=@Bool.and_self
abbrev mI:=@List.eq_nil_of_length_eq_zero
abbrev mJ:=@PySem.Heap.get?_update_other
abbrev mK:=@List.getElem?_eq_none
abbrev mL:=@List.all_cons
abbrev mM:=@List.not_mem_nil
abbrev mN:=@List.append_assoc
abbrev mO:=@List.mem_range
abbrev mP:=@List.find?_some
abbrev mQ:=@List.mem_of_getElem?
abbrev mS:=@PySem.Heap.size_push
abbrev mT:=@List.length_singleton
abbrev mU:=@List.append_nil
abbrev mV:=@PySem.Heap.get?_update_self
abbrev mW:=@Nat.lt_irrefl
abbrev mX:=@Nat.sub_self
abbrev mY:=@List.replicate_succ
abbrev mZ:=@List.getElem_mem
abbrev ma:=@List.map_nil
abbrev me:=@List.any_cons
abbrev mf:=@Bool.and_eq_true_iff
abbrev mh:=@Bool.not_eq_true'
abbrev mi:=@Nat.lt_or_ge
abbrev mj:=@List.getElem?_range
abbrev ml:=@List.filterMap_cons
abbrev mm:=@List.length_take
abbrev mn:=@List.zip_cons_cons
abbrev mq:=@List.lookup_append
abbrev mr:=@List.flatten_cons
abbrev mv:=@List.pairwise_iff_getElem
abbrev mw:=@Option.isSome_iff_exists
abbrev my:=@Option.bind_eq_some_iff
abbrev mz:=@List.mem_filter
abbrev nA:=@List.getElem_range
abbrev nB:=@List.find?_cons
abbrev nC:=@List.length_range
abbrev nE:=@Nat.zero_add
abbrev nF:=@List.mem_of_mem_take
abbrev nG:=@List.nodup_cons
abbrev nK:=@List.map_congr_left
abbrev nL:=@List.length_reverse
abbrev nM:=@Nat.ne_of_gt
abbrev nN:=@List.pairwise_cons
abbrev nO:=@List.filter_append
abbrev nP:=@List.drop_eq_getElem_cons
abbrev nQ:=@List.mem_singleton_self
abbrev nR:=@List.length_drop
abbrev nS:=@List.getElem_inj
abbrev nT:=@List.range_succ_eq_map
abbrev nU:=@Nat.sub_eq_zero_of_le
abbrev nV:=@List.range_succ
abbrev nW:=@List.length_nil
abbrev nX:=@List.forIn_cons
abbrev nY:=@List.foldl_cons
abbrev nZ:=@Int.emod_nonneg
abbrev nc:=@List.getElem?_of_mem
abbrev nh:=@Nat.le_succ
abbrev ni:=@List.getElem_of_mem
abbrev nk:=@Nat.lt_of_le_of_lt
abbrev nr:=@Nat.add_sub_cancel
abbrev nu:=@List.filterMap_map
abbrev ny:=@Int.emod_lt_of_pos
abbrev nz:=@Option.isSome_map
abbrev oA:=@List.reverse_cons
abbrev oB:=@Int.toNat_natCast
abbrev oC:=@Nat.min_self
abbrev oD:=@Bool.true_or
abbrev oE:=@Option.getD_some
abbrev oF:=@Nat.lt_succ_self
abbrev oG:=@List.range'_succ
abbrev oH:=@Bool.not_eq_true
abbrev oI:=@List.of_mem_zip
abbrev oJ:=@Bool.or_eq_true
abbrev oK:=@List.nodup_iff_pairwise_ne
abbrev oM:=@Option.some_or
abbrev oN:=@List.mem_of_find?_eq_some
abbrev oO:=@List.forIn_nil
abbrev oP:=@Bool.and_false
abbrev oQ:=@List.idxOf_lt_length_iff
abbrev oR:=@List.getElem?_take_of_lt
abbrev oS:=@List.getElem?_replicate
abbrev oT:=@List.getElem?_cons_succ
namespace L2
open PySem PySem.Spec PyProof.Rows
noncomputable abbrev Ax:=Sum Int Str
def IY:Ax->Value->Bool
 | .inl k,v=>Value.isInt k v
 | .inr x,v=>Value.isStrOf x v
def jC (w:World):Ax->Int
 | .inl k=>hashInt k
 | .inr x=>hashStr w x
theorem Aj:∀ {k:Ax} {v:Value},IY k v=true->(∃ i t,k=Sum.inl i/\v=Value.int i t)\/(∃ x t,k=Sum.inr x/\v=Value.str x t)
 | .inl i,v,h=>by
  obtain ⟨t,e⟩:=Value.isInt_shape (k:=i) (v:=v) h;exact .inl ⟨i,t,rfl,e⟩
 | .inr x,v,h=>by
  obtain ⟨t,e⟩:=Value.isStrOf_shape (x:=x) (v:=v) h;exact .inr ⟨x,t,rfl,e⟩
theorem QF (i:Int) (t:Tok):IY (.inl i) (.int i t)=true:=by simp [IY,Value.isInt]
theorem QE (x:Str) (t:Tok):IY (.inr x) (.str x t)=true:=by simp [IY,Value.isStrOf]
theorem bN (a b:Int):decide ((Sum.inl a:Ax)=Sum.inl b)=(a == b):=by
 by_cases e:a=b
 ·subst e;simp
 ·have h:¬ (Sum.inl a:Ax)=Sum.inl b:=fun q=>e (Sum.inl.inj q)
  rw [decide_eq_false h];exact (beq_eq_false_iff_ne.mpr e).symm
theorem bK (a b:Str):decide ((Sum.inr a:Ax)=Sum.inr b)=decide (a=b):=by
 by_cases e:a=b
 ·subst e;simp
 ·have h:¬ (Sum.inr a:Ax)=Sum.inr b:=fun q=>e (Sum.inr.inj q)
  rw [decide_eq_false h,decide_eq_false e]
theorem bM (a:Int) (b:Str):decide ((Sum.inl a:Ax)=Sum.inr b)=false:=decide_eq_false (fun q=>nomatch q)
theorem bL (a:Str) (b:Int):decide ((Sum.inr a:Ax)=Sum.inl b)=false:=decide_eq_false (fun q=>nomatch q)
def Ay (prog:Program) (w:World):PySem.KeyKind prog w Ax where
 is:=IY
 hash:=jC w
 inj:=fun v a b ha hb=>by
  rcases Aj ha with ⟨i,t,rfl,rfl⟩ | ⟨x,t,rfl,rfl⟩
  ·rcases Aj hb with ⟨j,u,rfl,e⟩ | ⟨y,u,rfl,e⟩
   ·injection e with e1 _;rw [e1]
   ·exact nomatch e
  ·rcases Aj hb with ⟨j,u,rfl,e⟩ | ⟨y,u,rfl,e⟩
   ·exact nomatch e
   ·injection e with e1 _;rw [e1]
 byValue:=fun k v h=>by
  rcases Aj h with ⟨i,t,rfl,rfl⟩ | ⟨x,t,rfl,rfl⟩<;>rfl
 pyHash:=fun hv h=>by
  rcases Aj hv with ⟨i,t,rfl,rfl⟩ | ⟨x,t,rfl,rfl⟩
  ·exact wpAny_pyHash_int h
  ·exact wpAny_pyHash_str h
 eqBool:=fun hu hv h=>by
  rcases Aj hu with ⟨i,t,rfl,rfl⟩ | ⟨x,t,rfl,rfl⟩
  ·rcases Aj hv with ⟨j,u,rfl,rfl⟩ | ⟨y,u,rfl,rfl⟩
   ·rw [bN] at h;exact wpAny_eqBool_int h
   ·rw [bM] at h;exact SeqAt.EqAt.int_str i t y u _ _ _ _ h
  ·rcases Aj hv with ⟨j,u,rfl,rfl⟩ | ⟨y,u,rfl,rfl⟩
   ·rw [bL] at h;exact SeqAt.EqAt.str_int x t j u _ _ _ _ h
   ·rw [bK] at h;exact wpAny_eqBool_str h
 «strs»:=fun k x t v h=>by
  rcases Aj h with ⟨i,u,rfl,e⟩ | ⟨y,u,rfl,e⟩
  ·exact nomatch e
  ·injection e with e1 _
   subst e1;cases v<;>rfl
theorem LF (prog:Program) (w:World) (i:Int) (t:Tok):(Ay prog w).is (.inl i) (.int i t)=true:=QF i t
theorem LD (prog:Program) (w:World) (x:Str) (t:Tok):(Ay prog w).is (.inr x) (.str x t)=true:=QE x t
inductive V where
 | non | bl (b:Bool) | int (i:Int) | str (x:Str) | byt (b:Array UInt8) | flt (b:UInt64) | ref (a:Addr) | ty (n:String)
 deriving DecidableEq
def RelV:V->Value->Prop
 | .non,u=>u=Value.none
 | .bl b,u=>u=Value.bool b
 | .int i,u=>∃ t,u=Value.int i t
 | .str x,u=>∃ t,u=Value.str x t
 | .byt b,u=>∃ t,u=Value.bytes b t
 | .flt b,u=>∃ t,u=Value.float b t
 | .ref a,u=>u=Value.ref a
 | .ty n,u=>u=Value.type n
abbrev AE:List V->List Value->Prop:=Paired RelV
theorem AE.length {xs:List V} {us:List Value} (r:AE xs us):xs.length=us.length:=Paired.length r
theorem AE.get:∀ {xs:List V} {us:List Value} {i:Nat} {x:V},AE xs us->xs[i]?=some x->∃ u,us[i]?=some u/\RelV x u
 | _,_,_,_,.nil,e=>by simp at e
 | _,_,0,_,.cons r _,e=>by simp at e;subst e;exact ⟨_,rfl,r⟩
 | _,_,i+1,x,.cons _ t,e=>by
  obtain ⟨u,h1,h2⟩:=AE.get (i:=i) (x:=x) t (by simpa using e);exact ⟨u,by simpa using h1,h2⟩
theorem AE.set {x:V} {u:Value} (r:RelV x u):∀ {xs:List V} {us:List Value} (i:Nat),AE xs us->AE (xs.set i x) (us.set i u)
 | _,_,_,.nil=>.nil
 | _,_,0,.cons _ t=>.cons r t
 | _,_,i+1,.cons q t=>.cons q (AE.set r i t)
theorem AE.append:∀ {xs ys:List V} {us ws:List Value},AE xs us->AE ys ws->AE (xs++ys) (us++ws)
 | _,_,_,_,.nil,s=>s
 | _,_,_,_,.cons r t,s=>.cons r (AE.append t s)
theorem AE.take:∀ {xs:List V} {us:List Value} (n:Nat),AE xs us->AE (xs.take n) (us.take n)
 | _,_,0,_=>.nil
 | _,_,_+1,.nil=>.nil
 | _,_,n+1,.cons r t=>.cons r (AE.take n t)
theorem AE.drop:∀ {xs:List V} {us:List Value} (n:Nat),AE xs us->AE (xs.drop n) (us.drop n)
 | _,_,0,r=>r
 | _,_,_+1,.nil=>.nil
 | _,_,n+1,.cons _ t=>AE.drop n t
def Hi:Option V->Option Value->Prop
 | some v,some u=>RelV v u
 | none,none=>True
 | _,_=>False
def KV {κ:Type}:List (κ×V)->List (κ×Value)->Prop:=Paired fun (p:κ×V) (q:κ×Value)=>p.1=q.1/\RelV p.2 q.2
def kV:Ax->V
 | .inl i=>.int i
 | .inr x=>.str x
inductive HO where
 | lst (xs:List V)
 | tup (xs:List V)
 | dK (kvs:List (Ax×V)) | dT (kvs:List (List Ax×V))
 | set (S:Int->Bool) (n:Nat)
 | ins (C dx:Addr) (fs:List (Str×V))
 | own (x:Addr)
 | xd (fs:List (Str×V))
 | met (f x:Addr)
 | rng (lo hi:Int)
 | frz (o:Obj) (u:HO)
 | tbl (ps:Array Value)
 | ext (φ:Heap->Prop)
noncomputable abbrev Hp:=Addr->Option HO
def upd (H:Hp) (a:Addr) (o:HO):Hp:=fun b=>if b=a then some o else H b
theorem BM {H:Hp} {a:Addr} {o:HO}:upd H a o a=some o:=by unfold upd;rw [if_pos rfl]
theorem AU {H:Hp} {a b:Addr} {o:HO} (h:b≠a):upd H a o b=H b:=by unfold upd;rw [if_neg h]
theorem gA {H:Hp} {a b:Addr} {o u:HO} (h:H a=some o) (h':H b=some u) (d:o≠u):a≠b:=by
 intro e;subst e;rw [h] at h';exact d (Option.some.inj h')
theorem Ba {H:Hp} {a b:Addr} {o:HO} (h:H a=some o) (h':H b=none):a≠b:=by
 intro e;subst e;rw [h] at h';cases h'
def GS (h:Heap) (a:Addr) (items:Array Value):Prop:=∃ o,h.get? a=some o/\o.cls=.type "tuple" /\ o.dict=none/\∃ n,o.data=.seq items n
theorem GS.tup {h:Heap} {a:Addr} {items:Array Value} (x:GS h a items):IsTup h a items:=let ⟨o,e,c,_,d⟩:=x;⟨o,e,c,d⟩
theorem GS.new (h:Heap) (items:Array Value):GS (h.push { cls:=.type "tuple", data:=.seq items }) h.objs.size items:=⟨_,lT _ rfl,rfl,rfl,_,rfl⟩
section
variable (P:Program) (w:World)
def AZ (H:Hp) (h:Heap) (a:Addr):HO->Prop
  | .lst xs=>xs.length<=sizeLine/\∃ (its:List Value) (n:Nat),AE xs its/\h.get? a=some { cls:=.type "list", data:=.seq its.toArray n }
  | .tup xs=>xs.length<=sizeLine/\∃ its:List Value,AE xs its/\GS h a its.toArray
  | .dK kvs=>kvs.length<=sizeLine/\(a == sysModules)=false/\∃ vs,KV kvs vs/\h.DictOf (Ay P w) a vs
  | .dT kvs=>kvs.length<=sizeLine/\(a == sysModules)=false/\∃ xs:List (List Ax×Addr×Value),
      Paired (fun (p:List Ax×V) (q:List Ax×Addr×Value)=>p.1=q.1/\H q.2.1=some (.tup (p.1.map kV))/\RelV p.2 q.2.2) kvs xs /\
      ∃ o es ep,h.get? a=some o/\o.ExactDict/\o.data=.dict es ep/\es.toList=xs.map (entryOfKey (tupleKind (Ay P w)))/\(xs.map (·.1)).Nodup
  | .set S n=>h.SetOf (intKind P w) a S n
  | .ins C dx fs=>H dx=some (.own a)/\fs.length<=1000/\dx≠a/\h.get? a=some (W.instObj C dx) /\
      ∃ mA,h.Ns1 dx mA/\(∀ f,Hi (fs.lookup f) (mA f))/\PySem.Within mA (fs.map (·.1))
  | .own _=>∃ o,h.get? a=some o
  | .xd fs=>∃ mA,h.Ns1 a mA/\∀ f,Hi (fs.lookup f) (mA f)
  | .rng lo hi=>∃ t u v,h.get? a=some { cls:=.type "range", data:=.fields #[.int lo t,.int hi u,.int 1 v] }
  | .frz o u=>h.get? a=some o/\AZ H h a u
  | .tbl ps=>h.get? a=some { cls:=.none,data:=.fields ps }
  | .met f x=>h.get? a=some (W.methodObj (.ref f) (.ref x))
  | .ext φ=>φ h/\(∃ o,h.get? a=some o)/\∀ h1 h2:Heap,φ h1->(∀ o,h1.get? a=some o->h2.get? a=some o)->φ h2
def EY (H:Hp) (h:Heap):Prop:=∀ a o,H a=some o->AZ P w H h a o
end
section
variable {P:Program} {w:World} {H H':Hp} {h h':Heap} {a:Addr} {o:HO}
theorem AZ.lt (x:AZ P w H h a o):a < h.objs.size:=by
 cases o with
 | lst xs=>obtain ⟨_,_,_,_,e⟩:=x;exact lQ e
 | tup xs=>obtain ⟨_,_,_,p⟩:=x;exact p.tup.lt
 | dK kvs=>obtain ⟨_,_,_,_,o,_,_,e,_⟩:=x;exact lQ e
 | dT kvs=>obtain ⟨_,_,_,_,o,_,_,e,_⟩:=x;exact lQ e
 | set S n=>obtain ⟨o,_,_,_,e,_⟩:=x;exact lQ e
 | ins C dx fs=>obtain ⟨_,_,_,e,_⟩:=x;exact lQ e
 | own y=>obtain ⟨_,e⟩:=x;exact lQ e
 | xd fs=>obtain ⟨_,⟨_,_,_,e,_⟩,_⟩:=x;exact lQ e
 | rng lo hi=>obtain ⟨_,_,_,e⟩:=x;exact lQ e
 | frz ob u=>obtain ⟨e,_⟩:=x;exact lQ e
 | tbl ps=>exact lQ (show h.get? a=some _ from x)
 | met f y=>exact lQ (show h.get? a=some _ from x)
 | ext φ=>obtain ⟨_,⟨_,e⟩,_⟩:=x;exact lQ e
theorem Paired.mapP {α β:Type} {F G:α->β->Prop}:∀ {l₁:List α} {l₂:List β},Paired F l₁ l₂->(∀ a b,F a b->G a b)->Paired G l₁ l₂
 | _,_,.nil,_=>.nil
 | _,_,.cons r t,f=>.cons (f _ _ r) (Paired.mapP t f)
theorem AZ.stay (x:AZ P w H h a o) (k:∀ b u,(b=a\/H b=some (.own a))->h.get? b=some u->h'.get? b=some u)
    (ho:∀ b,H b=some (.own a)->H' b=some (.own a)) (ht:∀ b xs,H b=some (.tup xs)->H' b=some (.tup xs)):AZ P w H' h' a o:=by
  induction o with
  | lst xs=>obtain ⟨z,its,n,r,e⟩:=x;exact ⟨z,its,n,r,k _ _ (.inl rfl) e⟩
  | tup xs=>obtain ⟨z,its,r,ob,e,c⟩:=x;exact ⟨z,its,r,ob,k _ _ (.inl rfl) e,c⟩
  | dK kvs=>obtain ⟨z,y,vs,r,ob,es,ep,e,c⟩:=x;exact ⟨z,y,vs,r,ob,es,ep,k _ _ (.inl rfl) e,c⟩
  | dT kvs =>
    obtain ⟨z,y,xs,r,ob,es,ep,e,c⟩:=x;exact ⟨z,y,xs,Paired.mapP r fun p q z=>⟨z.1,ht _ _ z.2.1,z.2.2⟩,ob,es,ep,k _ _ (.inl rfl) e,c⟩
  | set S n=>obtain ⟨ob,es,ep,t,e,c⟩:=x;exact ⟨ob,es,ep,t,k _ _ (.inl rfl) e,c⟩
  | ins C dx fs =>
    obtain ⟨d,z,ne,e,mA,⟨od,es,ep,e2,c⟩,r⟩:=x;exact ⟨ho _ d,z,ne,k _ _ (.inl rfl) e,mA,⟨od,es,ep,k _ _ (.inr d) e2,c⟩,r⟩
  | own y=>obtain ⟨ob,e⟩:=x;exact ⟨ob,k _ _ (.inl rfl) e⟩
  | xd fs=>obtain ⟨mA,⟨od,es,ep,e,c⟩,r⟩:=x;exact ⟨mA,⟨od,es,ep,k _ _ (.inl rfl) e,c⟩,r⟩
  | rng lo hi=>obtain ⟨t,u,v,e⟩:=x;exact ⟨t,u,v,k _ _ (.inl rfl) e⟩
  | frz ob u ih=>obtain ⟨e,q⟩:=x;exact ⟨k _ _ (.inl rfl) e,ih q⟩
  | tbl ps =>
    have e:h.get? a=some { cls:=.none,data:=.fields ps }:=x;show h'.get? a=some { cls:=.none,data:=.fields ps };exact k a _ (.inl rfl) e
  | met f y =>
    have e:h.get? a=some (W.methodObj (.ref f) (.ref y)):=x;show h'.get? a=some (W.methodObj (.ref f) (.ref y));exact k a _ (.inl rfl) e
  | ext φ=>obtain ⟨p,⟨o,e⟩,st⟩:=x;exact ⟨st _ _ p fun o q=>k _ _ (.inl rfl) q,⟨o,k _ _ (.inl rfl) e⟩,st⟩
theorem EY.lt (x:EY P w H h) (e:H a=some o):a < h.objs.size:=(x a o e).lt
theorem EY.fresh (x:EY P w H h) (e:h.objs.size<=a):H a=none:=by
 cases q:H a with
 | none=>rfl
 | some u=>exact absurd (lU (x.lt q) e) (mW _)
theorem EY.kept (x:EY P w H h) (k:∀ b u,h.get? b=some u->h'.get? b=some u):EY P w H h':=fun a o e =>
 (x a o e).stay (fun b u _ q=>k b u q) (fun _ q=>q) fun _ _ q=>q
theorem EY.laid (x:EY P w H h) (k:∀ b u,h.get? b=some u->h'.get? b=some u) (hp:h.objs.size<=a) (new:AZ P w (upd H a o) h' a o):EY P w (upd H a o) h':=fun b u e=>by
 have hn:=x.fresh hp
 by_cases hb:b=a
 ·subst hb;rw [BM] at e;cases e;exact new
 ·rw [AU hb] at e;exact (x b u e).stay (fun c v _ q=>k c v q) (fun c q=>by rw [AU (Ba q hn)];exact q) fun c xs q=>by rw [AU (Ba q hn)];exact q
end
def Rd (H:Hp) (a:Addr) (u:HO):Prop:=H a=some u\/∃ o,H a=some (.frz o u)
theorem Rd.ok {P:Program} {w:World} {H:Hp} {h:Heap} {a:Addr} {u:HO} (r:Rd H a u) (x:EY P w H h):AZ P w H h a u:=by
 rcases r with r | ⟨o,r⟩
 ·exact x a u r
 ·obtain ⟨_,q⟩:=x a _ r;exact q
def dg:Option HO->Prop
 | some (.lst _)=>True
 | some (.dK _)=>True
 | some (.dT _)=>True
 | some (.set _ _)=>True
 | some (.ins _ _ _)=>True
 | some (.ext _)=>True
 | _=>False
section
variable {P:Program} {w:World} {H:Hp} {h h':Heap} {x e:Addr} {o':HO}
theorem EY.write (ok:EY P w H h) (mu:dg (H x)) (he:e=x\/H e=some (.own x)) (k:∀ b u,b≠e->h.get? b=some u->h'.get? b=some u) (heo:∃ u,h'.get? e=some u)
    (new:AZ P w (upd H x o') h' x o'):EY P w (upd H x o') h':=fun b u q=>by
  have nown:∀ c y,H c=some (.own y)->c≠x:=fun c y r z=>by subst z;rw [r] at mu;exact mu
  have ntup:∀ c xs,H c=some (.tup xs)->c≠x:=fun c xs r z=>by subst z;rw [r] at mu;exact mu
  by_cases hb:b=x
  · subst hb;rw [BM] at q;cases q;exact new
  · rw [AU hb] at q
    by_cases hbe:b=e
    · have q':H b=some (.own x):=by
        rcases he with z | z
        · exact absurd (hbe.trans z) hb
        · rw [hbe];exact z
      rw [q] at q';cases q';obtain ⟨v,hv⟩:=heo;exact ⟨v,by rw [hbe];exact hv⟩
    · refine (ok b u q).stay (fun c v hc r=>k c v ?_ r) (fun c r=>by rw [AU (nown c b r)];exact r) fun c xs r=>by rw [AU (ntup c xs r)];exact r
      rcases hc with rfl | hc
      · exact hbe
      · rintro rfl;rcases he with z | z
        · exact nown c b hc z
        · rw [hc] at z;cases z;exact hb rfl
end
structure Un (fs ex:List Addr) (H H':Hp) (h h':Heap):Prop where
 keep:∀ b o,h.get? b=some o->H b=none->b∉fs->b∉ex->h'.get? b=some o
 slot:∀ b o,h.get? b=some o->H b=none->b∈fs->b∉ex->∃ sl,h'.get? b=some { o with slots:=sl }
 free:∀ b o,h.get? b=some o->H b=none->b∉ex->H' b=none
 there:∀ b o,h.get? b=some o->b∉ex->∃ o',h'.get? b=some o'
 tups:∀ b xs,H b=some (.tup xs)->H' b=some (.tup xs)
 frzs:∀ b o u,H b=some (.frz o u)->H' b=some (.frz o u)
 tbls:∀ b ps,H b=some (.tbl ps)->∃ more,H' b=some (.tbl (ps++more))
section
variable {fs fs' ex ex':List Addr} {H H1 H2:Hp} {h h1 h2 h':Heap} {a x e:Addr} {o:HO}
theorem Un.any (u:Un fs ex H H1 h h1) {b:Addr} {ob:Obj} (q:h.get? b=some ob) (n:H b=none) (hx:b∉ex):∃ sl,h1.get? b=some { ob with slots:=sl }:=by
 by_cases hb:b∈fs
 ·exact u.slot b ob q n hb hx
 ·exact ⟨ob.slots,u.keep b ob q n hb hx⟩
theorem Un.kept (k:∀ b u,h.get? b=some u->h'.get? b=some u):Un fs ex H H h h':=
 ⟨fun b ob q _ _ _=>k b ob q,fun b ob q _ _ _=>⟨ob.slots,k b ob q⟩,fun _ _ _ n _=>n,fun b ob q _=>⟨ob,k b ob q⟩,fun _ _ q=>q,fun _ _ _ q=>q,fun _ ps q=>⟨#[],by rw [q];simp⟩⟩
theorem Un.refl:Un fs ex H H h h:=Un.kept fun _ _ q=>q
theorem Un.laid (k:∀ b u,h.get? b=some u->h'.get? b=some u) (hp:h.objs.size<=a) (hn:H a=none):Un fs ex H (upd H a o) h h' where
 keep:=fun b u q _ _ _=>k b u q
 slot:=fun b u q _ _ _=>⟨u.slots,k b u q⟩
 free:=fun b u q n _=>by rw [AU (lq (lU (lQ q) hp))];exact n
 there:=fun b u q _=>⟨u,k b u q⟩
 tups:=fun b xs q=>by rw [AU (Ba q hn)];exact q
 frzs:=fun b u xs q=>by rw [AU (Ba q hn)];exact q
 tbls:=fun b ps q=>⟨#[],by rw [AU (Ba q hn),q];simp⟩
theorem Un.write (mu:dg (H x)) (he:e=x\/H e=some (.own x)) (k:∀ b u,b≠e->h.get? b=some u->h'.get? b=some u) (heo:∃ u,h'.get? e=some u):Un fs ex H (upd H x o) h h':=by
 have hx:∀ b,H b=none->b≠x:=fun b n z=>by subst z;rw [n] at mu;exact mu
 have hb:∀ b,H b=none->b≠e:=fun b n z=>by
  subst z;rcases he with r | r
  ·exact hx b n r
  ·rw [n] at r;cases r
 have hm:∀ b u,H b=some u->¬ dg (some u)->b≠x:=fun b u q nm z=>by subst z;rw [q] at mu;exact nm mu
 refine ⟨fun b u q n _ _=>k b u (hb b n) q,fun b u q n _ _=>⟨u.slots,k b u (hb b n) q⟩,fun b u q n _=>by rw [AU (hx b n)];exact n,fun b u q _=>?_,
  fun b xs q=>by rw [AU (hm b _ q fun z=>z)];exact q,fun b u xs q=>by rw [AU (hm b _ q fun z=>z)];exact q,fun b ps q=>⟨#[],by rw [AU (hm b _ q fun z=>z),q];simp⟩⟩
 by_cases hbe:b=e
 ·subst hbe;exact heo
 ·exact ⟨u,k b u hbe q⟩
end
def iO (h:Heap) (H:Hp):List Addr:=(List.range h.objs.size).filter fun a=>(H a).isSome
def Jf (h:Heap) (H:Hp):Heap:=W.hideAll h (iO h H)
theorem QK (h:Heap) (H:Hp):(Jf h H).objs.size=h.objs.size:=W.hideAll_size _ _
theorem TZ {h:Heap} {H:Hp} {b:Addr} {o:Obj} (e:h.get? b=some o) (n:H b=none):(Jf h H).get? b=some o:=
 W.hideAll_get _ e fun hm=>by
  have q:(H b).isSome=true:=(mz.mp hm).2;rw [n] at q;simp at q
theorem Wk {h:Heap} {H:Hp} {b:Addr} {o:Obj} (e:(Jf h H).get? b=some o):h.get? b=some o/\H b=none:=by
 have e':h.get? b=some o:=W.of_hideAll (iO h H) e;refine ⟨e',?_⟩;cases q:H b with
 | none=>rfl
 | some x =>
  have hm:b∈iO h H:=mz.mpr ⟨mO.mpr (lQ e'),by simp [q]⟩;have z:(Jf h H).get? b=none:=W.hideAll_none (iO h H) hm;rw [z] at e;cases e
noncomputable def Xy (g h:Heap) (L:Addr):List (Addr×Obj):=(List.range h.objs.size).filterMap fun a=>if a=L\/(g.get? a).isSome=true then none else (h.get? a).map fun o=>(a,o)
def rest (g h:Heap) (L d:Addr):List (Addr×Obj):=(Xy g h L).filter fun p=>decide (p.1≠d)
structure Mod (K:W.Frag) (mg:Str->Option Value) (base:Heap):Prop where
 kin:K.In base
 glob:base.Ns mainGlobals mg
 blt:∃ mb,base.Ns builtinsNs mb/\∀ x:Str,x ≠ "__name__" -> mb x=bootBuiltins x
 nolimit:base.NoLimit
structure Cx where
 prog:Program
 w:World
 K:W.Frag
 mg:Str->Option Value
 base:Heap
 A:Around
 N:List Str
 s₀:Shared
 H₀:Hp
 env:Env
 outer:List Env
 stack:List Env
 ex:List Addr
 fn:Str->Bool
 calm:Bool
 pn:List (Addr×Obj)
 xe:Value->Shared->Prop
noncomputable def OV (l:List Env):List Addr:=l.filterMap (·.frame)
abbrev Cx.fs (X:Cx):List Addr:=OV X.outer
def de (sc:Scope) (x:Str):Prop:=sc.names.lookup x=some .local\/sc.names.lookup x=some .cell\/sc.names.lookup x=some .free
def Loc (sc:Scope) (x:Str):Prop:=sc.names.lookup x=some .local\/sc.names.lookup x=some .cell
def Look (env:Env) (h:Heap) (m:Str->Option Value) (x:Str) (u:Value):Prop:=
 (env.kindOf x=some .local/\m x=some u)\/((env.kindOf x=some .cell\/env.kindOf x=some .free)/\∃ c,env.cells.lookup x=some c/\h.IsCell c (some u))
structure Cx.Ok (X:Cx):Prop where
 mod:Mod X.K X.mg X.base
 kind:X.env.scope.kind=.function
 glob:X.env.globals=mainGlobals
 blt:X.env.builtins=builtinsNs
 above:X.s₀.heap.objs.size<=X.env.locals
 inj:∀ x y c,X.env.cells.lookup x=some c->X.env.cells.lookup y=some c->x=y
 has:∀ x,(X.env.kindOf x=some .cell\/X.env.kindOf x=some .free)->∃ c,X.env.cells.lookup x=some c
 cab:∀ x c,X.fn x=true->X.env.cells.lookup x=some c->X.s₀.heap.objs.size<=c
 hd:X.calm=true->X.A.handled=none
 frames:X.A.frames=some X.stack
 stk:X.stack=X.outer\/(X.stack=X.env::X.outer/\X.env.frame=some X.env.locals)
 exf:∀ b∈X.ex,b≠X.env.locals/\∀ x c,X.env.cells.lookup x=some c->c≠b
 bs:∀ b o,X.base.get? b=some o->X.s₀.heap.get? b=some o/\X.H₀ b=none
 bsz:X.base.objs.size<=X.s₀.heap.objs.size
 noex:∀ b o,X.base.get? b=some o->b∉X.ex
 exfs:∀ b∈X.ex,b∉X.fs
 funs:X.s₀.heap.FunFrames X.base X.outer
 frf:∀ b∈X.fs,X.H₀ b=none
structure Inv (X:Cx) (pins:List (Addr×Obj)) (σ:List (Option V)) (H:Hp) (s:Shared):Prop where
 ok:X.Ok
 os:s.os=X.s₀.os
 bare:AllBare s.gens
 base:Un X.fs X.ex X.H₀ H X.s₀.heap s.heap
 loc:∃ m,s.heap.Ns X.env.locals m/\∀ (i:Nat) (x:Str) (v:V),X.N[i]?=some x->σ[i]?=some (some v)->de X.env.scope x->∃ u,RelV v u/\Look X.env s.heap m x u
 cell:∀ x c,X.env.cells.lookup x=some c->∃ v,s.heap.IsCell c v
 free:H X.env.locals=none
 freeC:∀ x c,X.env.cells.lookup x=some c->H c=none
 pin:∀ p∈X.pn++pins,s.heap.get? p.1=some p.2/\H p.1=none/\p.1≠X.env.locals/\p.1∉X.fs/\∀ v,p.2.data≠.cell v
 hok:EY X.prog X.w H s.heap
 len:σ.length=X.N.length
section
variable {X:Cx} {pins:List (Addr×Obj)} {σ:List (Option V)} {H H':Hp} {s:Shared} {h':Heap}
theorem Cx.Ok.nofr (ok:X.Ok) {b:Addr} {o:Obj} (e:X.base.get? b=some o):b∉X.fs:=fun hb=>by
 have:=(ok.funs.mem hb).1;rw [e] at this;cases this
theorem Inv.bs (I:Inv X pins σ H s):∀ b o,X.base.get? b=some o->s.heap.get? b=some o/\H b=none:=fun b o e =>
 ⟨I.base.keep b o (I.ok.bs b o e).1 (I.ok.bs b o e).2 (I.ok.nofr e) (I.ok.noex b o e),I.base.free b o (I.ok.bs b o e).1 (I.ok.bs b o e).2 (I.ok.noex b o e)⟩
theorem Inv.bk (I:Inv X pins σ H s):∀ b o,X.base.get? b=some o->s.heap.get? b=some o:=fun b o e=>(I.bs b o e).1
theorem Inv.mod (I:Inv X pins σ H s):Mod X.K X.mg X.base:=I.ok.mod
theorem Inv.kIn (I:Inv X pins σ H s):X.K.In s.heap:=I.ok.mod.kin.keeps I.bk
theorem Inv.fr (I:Inv X pins σ H s):∃ m,Fr X.base X.env.locals s.heap m:=
 let ⟨m,hn,_⟩:=I.loc
 ⟨m,hn,I.bk,lR I.ok.bsz I.ok.above⟩
theorem Inv.lt (I:Inv X pins σ H s):X.env.locals < s.heap.objs.size:=let ⟨_,hn,_⟩:=I.loc;hn.lt
theorem Inv.sz (I:Inv X pins σ H s):X.s₀.heap.objs.size<=s.heap.objs.size:=lR I.ok.above (Nat.le_of_lt I.lt)
theorem Inv.nofs (I:Inv X pins σ H s) {a:Addr} (h:s.heap.objs.size<=a):a∉X.fs:=fun hb=>by
 obtain ⟨_,o,ho,_⟩:=I.ok.funs.mem hb;exact absurd (lU (lQ ho) (lR I.sz h)) (mW _)
theorem Inv.cne (I:Inv X pins σ H s):∀ x c,X.env.cells.lookup x=some c->c≠X.env.locals:=fun x c e z=>by
 obtain ⟨v,o,ho,hd⟩:=I.cell x c e;obtain ⟨m,⟨o',es,ep,ho',hd',_⟩,_⟩:=I.loc;rw [z,ho'] at ho;cases ho;rw [hd'] at hd;cases hd
theorem Inv.funs (I:Inv X pins σ H s):s.heap.FunFrames X.base X.outer:=by
 have all:∀ (l:List Env),(∀ b∈OV l,b∈X.fs)->X.s₀.heap.FunFrames X.base l->s.heap.FunFrames X.base l:=by
  intro l
  induction l with
  | nil=>intro _ _;trivial
  | cons env r ih =>
   intro hs hl;obtain ⟨hk,⟨L,o,hf,hn,ho,hd⟩,hr⟩:=hl;have hL:L∈X.fs:=hs L (by unfold OV;rw [ml,hf];exact lE);obtain ⟨sl,e⟩:=I.base.slot L o ho (I.ok.frf L hL) hL fun z=>I.ok.exfs L z hL
   exact ⟨hk,⟨L,_,hf,hn,e,hd⟩,ih (fun b hb=>hs b (by unfold OV;rw [ml,hf];exact lG _ hb)) hr⟩
 exact all X.outer (fun _ hb=>hb) I.ok.funs
theorem Inv.stack (I:Inv X pins σ H s):s.heap.FunFrames X.base X.stack:=by
 rcases I.ok.stk with e | ⟨e,hf⟩
 ·rw [e];exact I.funs
 ·rw [e];obtain ⟨m,hn,_⟩:=I.loc;refine .cons (by rw [I.ok.kind];decide) hf hn ?_ I.funs;exact Heap.get?_none_of_le (lR I.ok.bsz I.ok.above)
theorem Inv.stkSub (I:Inv X pins σ H s):∀ b∈OV X.stack,b∈X.env.locals::X.fs:=fun b hb=>by
 rcases I.ok.stk with e | ⟨e,hf⟩
 ·rw [e] at hb;exact lG _ hb
 ·rw [e] at hb;unfold OV at hb;rw [ml,hf] at hb;exact hb
theorem Inv.stkFree (I:Inv X pins σ H s):∀ b∈OV X.stack,H b=none:=fun b hb=>by
 rcases lO.mp (I.stkSub b hb) with e | hb
 ·rw [e];exact I.free
 ·obtain ⟨_,o,ho,_⟩:=I.ok.funs.mem hb;exact I.base.free b o ho (I.ok.frf b hb) fun z=>I.ok.exfs b z hb
theorem Inv.step {g':Array GenState} {t':Nat} {d':Drawn} {ch:List Addr} (I:Inv X pins σ H s)
    (hch:∀ b∈ch,(b∈X.ex\/X.s₀.heap.objs.size<=b)/\b≠X.env.locals/\(∀ x c,X.env.cells.lookup x=some c->c≠b)/\∀ p∈X.pn++pins,p.1≠b)
    (keep:∀ b o,b≠X.env.locals->b∉X.fs->b∉ch->s.heap.get? b=some o->H b=none->h'.get? b=some o)
    (slot:∀ b o,b≠X.env.locals->b∈X.fs->b∉ch->s.heap.get? b=some o->H b=none->∃ sl,h'.get? b=some { o with slots:=sl }) (free:∀ b o,b∉ch->s.heap.get? b=some o->H b=none->H' b=none)
    (there:∀ b o,b∉ch->s.heap.get? b=some o->∃ o',h'.get? b=some o')
    (tups:∀ b xs,H b=some (.tup xs)->H' b=some (.tup xs)) (frzs:∀ b o u,H b=some (.frz o u)->H' b=some (.frz o u)) (tbls:∀ b ps,H b=some (.tbl ps)->∃ more,H' b=some (.tbl (ps++more)))
    (ns:∀ m,s.heap.Ns X.env.locals m->h'.Ns X.env.locals m) (hok:EY X.prog X.w H' h') (hg:AllBare g') :
    Inv X pins σ H' { s with heap:=h',gens:=g',drawn:=d',toks:=t' }:=by
  have neL:∀ b o,X.s₀.heap.get? b=some o->b≠X.env.locals:=fun b o e=>lq (lU (lQ e) I.ok.above)
  have neC:∀ b o,X.s₀.heap.get? b=some o->b∉X.ex->b∉ch:=fun b o e hx hb=>by
    rcases (hch b hb).1 with z | z
    · exact hx z
    · exact absurd (lU (lQ e) z) (mW _)
  have cellK:∀ x c,X.env.cells.lookup x=some c->∀ v,s.heap.IsCell c v->h'.IsCell c v:=fun x c e v ⟨o,ho,hd⟩=>by
    have nch:c∉ch:=fun z=>(hch c z).2.2.1 x c e rfl
    by_cases hc:c∈X.fs
    · obtain ⟨sl,q⟩:=slot c o (I.cne x c e) hc nch ho (I.freeC x c e);exact ⟨_,q,hd⟩
    · exact ⟨o,keep c o (I.cne x c e) hc nch ho (I.freeC x c e),hd⟩
  refine ⟨I.ok,I.os,hg,⟨fun b o e n hb hx=>?_,fun b o e n hb hx=>?_,fun b o e n hx=>?_,fun b o e hx=>?_,fun b xs e=>tups b xs (I.base.tups b xs e),fun b o xs e=>frzs b o xs (I.base.frzs b o xs e),fun b ps e=>?_⟩,?_,fun x c e=>?_,?_,fun x c e=>?_,fun p hp=>?_,hok,I.len⟩
  · exact keep b o (neL b o e) hb (neC b o e hx) (I.base.keep b o e n hb hx) (I.base.free b o e n hx)
  · obtain ⟨sl,e1⟩:=I.base.slot b o e n hb hx;obtain ⟨sl',e2⟩:=slot b _ (neL b o e) hb (neC b o e hx) e1 (I.base.free b o e n hx);exact ⟨sl',e2⟩
  · obtain ⟨o',e1⟩:=I.base.there b o e hx;exact free b o' (neC b o e hx) e1 (I.base.free b o e n hx)
  · obtain ⟨o',e1⟩:=I.base.there b o e hx;exact there b o' (neC b o e hx) e1
  · obtain ⟨m1,e1⟩:=I.base.tbls b ps e;obtain ⟨m2,e2⟩:=tbls b _ e1;exact ⟨m1++m2,by rw [e2,Array.append_assoc]⟩
  · obtain ⟨m,hn,hl⟩:=I.loc;refine ⟨m,ns m hn,fun i x v e1 e2 e3=>?_⟩;obtain ⟨u,r,l⟩:=hl i x v e1 e2 e3;refine ⟨u,r,?_⟩;rcases l with l | ⟨k,c,e,z⟩
    · exact .inl l
    · exact .inr ⟨k,c,e,cellK x c e _ z⟩
  · obtain ⟨v,z⟩:=I.cell x c e;exact ⟨v,cellK x c e v z⟩
  · obtain ⟨m,⟨o,_,_,ho,_⟩,_⟩:=I.loc;exact free _ o (fun z=>(hch _ z).2.1 rfl) ho I.free
  · obtain ⟨v,o,ho,hd⟩:=I.cell x c e;exact free c o (fun z=>(hch c z).2.2.1 x c e rfl) ho (I.freeC x c e)
  · obtain ⟨e,n,ne,nf,d⟩:=I.pin p hp;have nch:p.1∉ch:=fun z=>(hch p.1 z).2.2.2 p hp rfl
    exact ⟨keep p.1 p.2 ne nf nch e n,free p.1 p.2 nch e n,ne,nf,d⟩
theorem Inv.un {t':Nat} (I:Inv X pins σ H s) (u:Un X.fs [] H H' s.heap h') (hok:EY X.prog X.w H' h'):Inv X pins σ H' { s with heap:=h',toks:=t' }:=by
 obtain ⟨m,⟨o,es,ep,ho,r⟩,_⟩:=id I.loc;obtain ⟨sl,hL⟩:=u.any ho I.free (by simp);exact I.step (g':=s.gens) (d':=s.drawn) (ch:=[]) (fun _ z=>nomatch z) (fun b o _ hb _ e n=>u.keep b o e n hb (by simp)) (fun b o _ hb _ e n=>u.slot b o e n hb (by simp)) (fun b o _ e n=>u.free b o e n (by simp)) (fun b o _ e=>u.there b o e (by simp)) u.tups u.frzs u.tbls (fun m' hm=>by
  obtain ⟨o',es',ep',ho',r'⟩:=hm;rw [ho] at ho';cases ho';exact ⟨_,es',ep',hL,r'⟩) hok I.bare
theorem Inv.call {g':Array GenState} {t':Nat} {d':Drawn} {ch:List Addr} (I:Inv X pins σ H s) (u:Un (OV X.stack) ch H H' s.heap h') (hok:EY X.prog X.w H' h') (hg:AllBare g')
    (hch:∀ b∈ch,(b∈X.ex\/X.s₀.heap.objs.size<=b)/\b≠X.env.locals/\(∀ x c,X.env.cells.lookup x=some c->c≠b)/\∀ p∈X.pn++pins,p.1≠b) :
    Inv X pins σ H' { s with heap:=h',gens:=g',drawn:=d',toks:=t' }:=by
  obtain ⟨m,⟨o,es,ep,ho,r⟩,_⟩:=id I.loc;obtain ⟨sl,hL⟩:=u.any ho I.free fun z=>(hch _ z).2.1 rfl
  exact I.step (ch:=ch) hch (fun b o hL hb hc e n=>u.keep b o e n (fun z=>(lO.mp (I.stkSub b z)).elim hL hb) hc) (fun b o _ _ hc e n=>u.any e n hc) (fun b o hc e n=>u.free b o e n hc) (fun b o hc e=>u.there b o e hc) u.tups u.frzs u.tbls (fun m' hm=>by
    obtain ⟨o',es',ep',ho',r'⟩:=hm;rw [ho] at ho';cases ho';exact ⟨_,es',ep',hL,r'⟩) hok hg
theorem Inv.turned {t':Nat} {it:Addr} (I:Inv X pins σ H s) (k:∀ b o,b≠it->s.heap.get? b=some o->h'.get? b=some o) (hn:H it=none) (hL:it≠X.env.locals)
    (h1:it∈X.ex\/X.s₀.heap.objs.size<=it) (h2:∀ x c,X.env.cells.lookup x=some c->c≠it) (h3:∀ p∈X.pn++pins,p.1≠it):Inv X pins σ H { s with heap:=h',toks:=t' }:=by
  have nit:∀ b u,H b=some u->b≠it:=fun b u e z=>by rw [z,hn] at e;cases e
  refine I.step (g':=s.gens) (d':=s.drawn) (ch:=[it]) (fun b hb=>?_) (fun b o _ _ hc e _=>k b o (fun z=>hc (by simp [z])) e) (fun b o _ _ hc e _=>⟨o.slots,k b o (fun z=>hc (by simp [z])) e⟩) (fun _ _ _ _ n=>n)
    (fun b o hc e=>⟨o,k b o (fun z=>hc (by simp [z])) e⟩) (fun _ _ e=>e) (fun _ _ _ e=>e) (fun b ps e=>⟨#[],by rw [e];simp⟩) (fun m hm=>?_) (fun b u e=>?_) I.bare
  · have e:b=it:=by simpa using hb
    subst e;exact ⟨h1,hL,h2,h3⟩
  · obtain ⟨o,es,ep,ho,r⟩:=hm;exact ⟨o,es,ep,k _ o (Ne.symm hL) ho,r⟩
  · refine (I.hok b u e).stay (fun c v hc q=>k c v ?_ q) (fun _ q=>q) fun _ _ q=>q
    rcases hc with z | z
    · rw [z];exact nit b u e
    · exact nit c _ z
theorem Inv.tok (I:Inv X pins σ H s) (t:Nat):Inv X pins σ H { s with toks:=t }:=I.un (h':=s.heap) (t':=t) Un.refl I.hok
theorem Inv.kept {t':Nat} (I:Inv X pins σ H s) (k:∀ b u,s.heap.get? b=some u->h'.get? b=some u):Inv X pins σ H { s with heap:=h',toks:=t' }:=I.un (Un.kept k) (I.hok.kept k)
theorem Inv.laid {a:Addr} {o:HO} {t':Nat} (I:Inv X pins σ H s) (k:∀ b u,s.heap.get? b=some u->h'.get? b=some u) (hp:s.heap.objs.size<=a) (new:AZ X.prog X.w (upd H a o) h' a o) :
    Inv X pins σ (upd H a o) { s with heap:=h',toks:=t' }:=I.un (Un.laid k hp (I.hok.fresh hp)) (I.hok.laid k hp new)
theorem Inv.write {x e:Addr} {o:HO} {t':Nat} (I:Inv X pins σ H s) (mu:dg (H x)) (he:e=x\/H e=some (.own x)) (k:∀ b u,b≠e->s.heap.get? b=some u->h'.get? b=some u) (heo:∃ u,h'.get? e=some u)
    (new:AZ X.prog X.w (upd H x o) h' x o):Inv X pins σ (upd H x o) { s with heap:=h',toks:=t' }:=I.un (Un.write mu he k heo) (I.hok.write mu he k heo new)
theorem Inv.weak {σ':List (Option V)} (I:Inv X pins σ H s) (hl:σ'.length=σ.length) (w:∀ (i:Nat) v,σ'[i]?=some (some v)->σ[i]?=some (some v)):Inv X pins σ' H s:=
 ⟨I.ok,I.os,I.bare,I.base,let ⟨m,hn,hl'⟩:=I.loc;⟨m,hn,fun i x v e1 e2 e3=>hl' i x v e1 (w i v e2) e3⟩,I.cell,I.free,I.freeC,I.pin,I.hok,hl.trans I.len⟩
theorem Inv.pins_of {pins':List (Addr×Obj)} (I:Inv X pins σ H s) (h:∀ p∈pins',s.heap.get? p.1=some p.2/\H p.1=none/\p.1≠X.env.locals/\p.1∉X.fs/\∀ v,p.2.data≠.cell v):Inv X pins' σ H s:=
 ⟨I.ok,I.os,I.bare,I.base,I.loc,I.cell,I.free,I.freeC,fun p hp=>(lW.mp hp).elim (fun z=>I.pin p (lM _ z)) (h p),I.hok,I.len⟩
theorem LB {N:List Str} (hN:N.Nodup) {i j:Nat} {x:Str} (a:N[i]?=some x) (b:N[j]?=some x):i=j:=by
 obtain ⟨h1,e1⟩:=lD.mp a;obtain ⟨h2,e2⟩:=lD.mp b;exact (nS hN).mp (e1.trans e2.symm)
theorem IF {M:Model} {A:Around} {E:Value->Shared->Prop} {i:Nat} {x:Str} {v:V} {u:Value} {Q:Unit->Shared->Prop} (I:Inv X pins σ H s) (hN:X.N.Nodup) (hi:X.N[i]?=some x) (hx:Loc X.env.scope x) (r:RelV v u)
    (h:∀ s',Inv X pins (σ.set i (some v)) H s'->(∃ a,Heap.SameBut a s.heap s'.heap/\(a=X.env.locals\/X.env.cells.lookup x=some a))->Q () s') (hf:X.fn x=true\/X.env.scope.names.lookup x=some .local:=by first | exact .inl rfl | exact .inr rfl | assumption):wpAny M A (storeName X.env x u) Q E s:=by
  obtain ⟨m,hn,hl⟩:=id I.loc;have hcls:(X.env.scope.kind == .class || (X.env.scope.kind == .module && X.env.locals != X.env.globals))=false:=by rw [I.ok.kind];rfl
  have hiσ:i < σ.length:=by rw [I.len];exact (lD.mp hi).1
  have cne:=I.cne;have tracked:∀ {a:Addr} {h':Heap},(∃ o,s.heap.get? a=some o/\H a=none)->Heap.SameBut a s.heap h'->EY X.prog X.w H h':=fun {a h'} ha hs b ob e=>by
    obtain ⟨_,_,hfree⟩:=ha;refine (I.hok b ob e).stay (fun c w' hc q=>(hs.2 c ?_).trans q) (fun _ q=>q) fun _ _ q=>q
    rintro rfl;rcases hc with rfl | hc
    · rw [hfree] at e;cases e
    · rw [hfree] at hc;cases hc
  rcases hx with hk | hk
  · refine wpAny_storeName_local hk hn (fun h' hn' hs=>?_) hcls;obtain ⟨oL,_,_,hoL,_⟩:=id hn;refine h _ ⟨I.ok,I.os,I.bare,⟨fun b o e n hb hx=>?_,fun b o e n hb hx=>?_,I.base.free,fun b o e hx=>?_,I.base.tups,I.base.frzs,I.base.tbls⟩,⟨_,hn',fun j y v' e1 e2 e3=>?_⟩,fun y c e=>?_,I.free,I.freeC,fun p hp=>?_,tracked ⟨oL,hoL,I.free⟩ hs,by simpa using I.len⟩ ⟨_,hs,.inl rfl⟩
    · exact (hs.2 b (lq (lU (lQ e) I.ok.above))).trans (I.base.keep b o e n hb hx)
    · obtain ⟨sl,e1⟩:=I.base.slot b o e n hb hx;exact ⟨sl,(hs.2 b (lq (lU (lQ e) I.ok.above))).trans e1⟩
    · obtain ⟨o',e1⟩:=I.base.there b o e hx;exact ⟨o',(hs.2 b (lq (lU (lQ e) I.ok.above))).trans e1⟩
    · by_cases hj:j=i
      · subst hj;rw [hi] at e1;cases e1;rw [ly hiσ] at e2;cases e2;exact ⟨u,r,.inl ⟨hk,by simp⟩⟩
      · rw [lh (Ne.symm hj)] at e2;obtain ⟨u',r',q⟩:=hl j y v' e1 e2 e3;refine ⟨u',r',?_⟩;rcases q with ⟨k,e⟩ | ⟨k,c,e,z⟩
        · refine .inl ⟨k,?_⟩;have:y≠x:=fun e=>hj (LB hN e1 (e▸hi))
          simp [this,e]
        · exact .inr ⟨k,c,e,z.sameBut hs (cne y c e)⟩
    · obtain ⟨w',z⟩:=I.cell y c e;exact ⟨w',z.sameBut hs (cne y c e)⟩
    · obtain ⟨e,n,ne,nf,d⟩:=I.pin p hp;exact ⟨(hs.2 p.1 ne).trans e,n,ne,nf,d⟩
  · have hfn:X.fn x=true:=by
      rcases hf with z | z
      · exact z
      · rw [z] at hk;cases hk
    obtain ⟨c,hc⟩:=I.ok.has x (.inl hk);obtain ⟨w',z⟩:=I.cell x c hc;refine wpAny_storeName_cell I.ok.kind hk hc z (fun h' hc' hs=>?_);obtain ⟨oc,hoc,hocd⟩:=id z;refine h { s with heap:=h' } ⟨I.ok,I.os,I.bare,⟨fun b o e n hb hx=>?_,fun b o e n hb hx=>?_,I.base.free,fun b o e hx=>?_,I.base.tups,I.base.frzs,I.base.tbls⟩,⟨m,hn.sameBut hs (Ne.symm (cne x c hc)),fun j y v' e1 e2 e3=>?_⟩,fun y c' e=>?_,I.free,I.freeC,fun p hp=>?_,tracked ⟨oc,hoc,I.freeC x c hc⟩ hs,by simpa using I.len⟩ ⟨c,hs,.inr hc⟩
    · exact (hs.2 b (lq (lU (lQ e) (I.ok.cab x c hfn hc)))).trans (I.base.keep b o e n hb hx)
    · obtain ⟨sl,e1⟩:=I.base.slot b o e n hb hx;exact ⟨sl,(hs.2 b (lq (lU (lQ e) (I.ok.cab x c hfn hc)))).trans e1⟩
    · obtain ⟨o',e1⟩:=I.base.there b o e hx;exact ⟨o',(hs.2 b (lq (lU (lQ e) (I.ok.cab x c hfn hc)))).trans e1⟩
    · by_cases hj:j=i
      · subst hj;rw [hi] at e1;cases e1;rw [ly hiσ] at e2;cases e2;exact ⟨u,r,.inr ⟨.inl hk,c,hc,hc'⟩⟩
      · rw [lh (Ne.symm hj)] at e2;obtain ⟨u',r',q⟩:=hl j y v' e1 e2 e3;refine ⟨u',r',?_⟩;rcases q with q | ⟨k,c',e,z'⟩
        · exact .inl q
        · refine .inr ⟨k,c',e,z'.sameBut hs ?_⟩;rintro rfl;exact hj (LB hN e1 (I.ok.inj _ _ _ e hc▸hi))
    · by_cases hcc:c'=c
      · subst hcc;exact ⟨_,hc'⟩
      · obtain ⟨w2,z2⟩:=I.cell y c' e;exact ⟨w2,z2.sameBut hs hcc⟩
    · obtain ⟨e,n,ne,nf,d⟩:=I.pin p hp;refine ⟨(hs.2 p.1 ?_).trans e,n,ne,nf,d⟩;intro q;rw [q,hoc] at e;have q':oc=p.2:=Option.some.inj e;exact d w' (by rw [<- q'];exact hocd)
theorem DA {M:Model} {A:Around} {E:Value->Shared->Prop} {i:Nat} {x:Str} {v:V} {u:Value} {Q:Unit->Shared->Prop} (I:Inv X pins σ H s) (hN:X.N.Nodup) (hi:X.N[i]?=some x) (hx:Loc X.env.scope x) (r:RelV v u)
    (h:∀ s',Inv X pins (σ.set i (some v)) H s'->Q () s') (hf:X.fn x=true\/X.env.scope.names.lookup x=some .local:=by first | exact .inl rfl | exact .inr rfl | assumption):wpAny M A (storeName X.env x u) Q E s:=
  IF I hN hi hx r (fun s' I' _=>h s' I') hf
theorem Inv.call' {s':Shared} {ch:List Addr} (I:Inv X pins σ H s) (ho:s'.os=s.os) (u:Un (OV X.stack) ch H H' s.heap s'.heap) (hok:EY X.prog X.w H' s'.heap) (hg:AllBare s'.gens)
    (hch:∀ b∈ch,(b∈X.ex\/X.s₀.heap.objs.size<=b)/\b≠X.env.locals/\(∀ x c,X.env.cells.lookup x=some c->c≠b)/\∀ p∈X.pn++pins,p.1≠b):Inv X pins σ H' s':=by
  obtain ⟨h',g',d',t',o'⟩:=s';have e:o'=s.os:=ho;subst e;exact I.call (g':=g') (t':=t') (d':=d') u hok hg hch
end
abbrev XK:=Value->Option Addr->Hp->Prop
noncomputable abbrev St:=List (Option V)
abbrev VK:=V->Hp->Prop
abbrev TE:=St->Hp->VK->Prop
abbrev TT:=St->Hp->(Bool->Hp->Prop)->Prop
abbrev TA:=St->Hp->(List V->Hp->Prop)->Prop
structure Ends where
 nx:St->Hp->Prop
 rt:VK
 bk:St->Hp->Prop:=fun _ _=>False
 ct:St->Hp->Prop:=fun _ _=>False
abbrev TS:=Ends->St->Hp->Prop
def EP (X:Cx) (pins:List (Addr×Obj)) (σ:St) (Q:VK) (u:Value) (s':Shared):Prop:=∃ v H',Inv X pins σ H' s'/\RelV v u/\Q v H'
def TP (X:Cx) (pins:List (Addr×Obj)) (σ:St) (Q:Bool->Hp->Prop) (b:Bool) (s':Shared):Prop:=∃ H',Inv X pins σ H' s'/\Q b H'
def AP (X:Cx) (pins:List (Addr×Obj)) (σ:St) (Q:List V->Hp->Prop) (us:List Value) (s':Shared):Prop:=∃ vs H',Inv X pins σ H' s'/\AE vs us/\Q vs H'
def SP (X:Cx) (pins:List (Addr×Obj)) (D:Ends) (f:Flow) (s':Shared):Prop:=
 match f with
 | .next=>∃ σ' H',Inv X pins σ' H' s'/\D.nx σ' H'
 | .brk=>∃ σ' H',Inv X pins σ' H' s'/\D.bk σ' H'
 | .cont=>∃ σ' H',Inv X pins σ' H' s'/\D.ct σ' H'
 | .ret u=>∃ v σ' H',Inv X pins σ' H' s'/\RelV v u/\D.rt v H'
def PE (X:Cx) (e:Expr) (t:TE):Prop:=
 ∀ (pins:List (Addr×Obj)) (s:Shared) (σ:St) (H:Hp) (Q:VK),Inv X pins σ H s->t σ H Q->wpAny (model X.prog X.w) X.A (eval e X.env) (EP X pins σ Q) X.xe s
def PT (X:Cx) (e:Expr) (t:TT):Prop:=
 ∀ (pins:List (Addr×Obj)) (s:Shared) (σ:St) (H:Hp) (Q:Bool->Hp->Prop),Inv X pins σ H s->t σ H Q->wpAny (model X.prog X.w) X.A (isTrue e X.env (eval e X.env)) (TP X pins σ Q) X.xe s
def PW (X:Cx) (e:Expr) (t:TT):Prop:=
 ∀ (whole:Sem Value) (pins:List (Addr×Obj)) (s:Shared) (σ:St) (H:Hp) (Q:Bool->Hp->Prop),Inv X pins σ H s->t σ H Q->wpAny (model X.prog X.w) X.A (isTrue e X.env whole) (TP X pins σ Q) X.xe s
theorem PW.pt {X:Cx} {e:Expr} {t:TT} (h:PW X e t):PT X e t:=h _
def PA (X:Cx) (es:List Expr) (t:TA):Prop:=
 ∀ (pos:Pos) (pins:List (Addr×Obj)) (s:Shared) (σ:St) (H:Hp) (Q:List V->Hp->Prop),Inv X pins σ H s->t σ H Q->wpAny (model X.prog X.w) X.A (spliced (backTo pos (starEach es X.env))) (AP X pins σ Q) X.xe s
def PS (X:Cx) (st:Stmt) (t:TS):Prop:=
 ∀ (pins:List (Addr×Obj)) (s:Shared) (σ:St) (H:Hp) (D:Ends),Inv X pins σ H s->t D σ H->wpAny (model X.prog X.w) X.A (exec st X.env) (SP X pins D) X.xe s
def Cu (X:Cx) (st:List Stmt) (t:TS):Prop:=
 ∀ (pins:List (Addr×Obj)) (s:Shared) (σ:St) (H:Hp) (D:Ends),Inv X pins σ H s->t D σ H->wpAny (model X.prog X.w) X.A (execs st X.env) (SP X pins D) X.xe s
theorem Ak {α:Type} {t:Sem α} {Q Q':α->Shared->Prop} {M:Model} {A:Around} {E:Value->Shared->Prop} {s:Shared} (h:wpAny M A t Q E s) (hQ:∀ a s,Q a s->Q' a s):wpAny M A t Q' E s:=wpAny_mono h hQ fun _ _ x=>x
section
variable {X:Cx}
theorem bin {a b:Expr} {ta tb:TE} (ha:PE X a ta) (hb:PE X b tb) {pins:List (Addr×Obj)} {s:Shared} {σ:St} {H:Hp} {R:V->V->Hp->Prop} (I:Inv X pins σ H s) (h:ta σ H fun x H1=>tb σ H1 fun y H2=>R x y H2)
    {α:Type} {Q:α->Shared->Prop} {f:Value->Value->Sem α}
    (hf:∀ v u s2 x y H2,Inv X pins σ H2 s2->RelV x v->RelV y u->R x y H2->wpAny (model X.prog X.w) X.A (f v u) Q X.xe s2) :
    wpAny (model X.prog X.w) X.A (eval a X.env) (fun v s₁=>wpAny (model X.prog X.w) X.A (eval b X.env) (fun u s₂=>wpAny (model X.prog X.w) X.A (f v u) Q X.xe s₂) X.xe s₁) X.xe s:=by
  refine Ak (ha pins s σ H _ I h) fun v s1 ⟨x,H1,I1,r1,q1⟩=>?_
  refine Ak (hb pins s1 σ H1 _ I1 q1) fun u s2 ⟨y,H2,I2,r2,q2⟩=>?_
  exact hf v u s2 x y H2 I2 r1 r2 q2
abbrev Gh (i:Nat):TE:=fun σ H Q=>∃ v,σ[i]?=some (some v)/\Q v H
abbrev tC (v:V):TE:=fun _ H Q=>Q v H
theorem Sk {i:Nat} {x:Str} {pos:Pos} (hN:X.N[i]?=some x) (hv:de X.env.scope x) (hd:(x == ("__debug__" : Str))=false:=by decide) (hcd:(x == ("__classdict__" : Str))=false:=by decide):PE X (.Name x pos) (Gh i):=by
 intro pins s σ H Q I h;obtain ⟨v,e,h⟩:=h;obtain ⟨m,hn,hl⟩:=I.loc;obtain ⟨u,r,l⟩:=hl i x v hN e hv;have fin:EP X pins σ Q u s:=⟨v,H,I,r,h⟩;rcases l with ⟨hk,hm⟩ | ⟨hk,c,hc,hcell⟩
 ·exact wpAny_Name (wpAny_loadName_local I.ok.kind hk hn hm fin) hd
 ·rcases hk with hk | hk
  ·exact wpAny_Name (wpAny_loadName_cell I.ok.kind hk hc hcell fin) hd
  ·exact wpAny_Name (wpAny_loadName_free I.ok.kind hk hc hcell fin hcd) hd
theorem aY {i j pos}:PE X (.Constant (.int i) j pos) (tC (.int i)):=fun _ _ _ H _ I h=>wpAny_Constant_int ⟨.int i,H,I.tok _,⟨_,rfl⟩,h⟩
theorem fc {b j pos}:PE X (.Constant (.bool b) j pos) (tC (.bl b)):=fun _ _ _ H _ I h=>Constant_bool ⟨.bl b,H,I,rfl,h⟩
theorem aW {j pos}:PE X (.Constant .none j pos) (tC .non):=fun _ _ _ H _ I h=>Constant_none ⟨.non,H,I,rfl,h⟩
theorem aT {x j pos}:PE X (.Constant (.str x) j pos) (tC (.str x)):=fun _ _ _ H _ I h=>Calls.Constant_str ⟨.str x,H,I.tok _,⟨_,rfl⟩,h⟩
def Gl (X:Cx) (x:Str):Prop:=X.env.kindOf x=some .globalImplicit
theorem Jb {E:Value->Shared->Prop} {pins:List (Addr×Obj)} {s:Shared} {σ:St} {H:Hp} {x:Str} {u:Value} {pos:Pos} {Q:Value->Shared->Prop} (I:Inv X pins σ H s) (hg:Gl X x) (hm:X.mg x=some u) (h:Q u s)
    (hd:(x == ("__debug__" : Str))=false:=by decide):wpAny (model X.prog X.w) X.A (eval (.Name x pos) X.env) Q E s:=
  Calls.Name_function_global I.ok.kind hg (Calls.loadGlobal_global (by rw [I.ok.glob];exact I.mod.glob.keeps I.bk) hm h) hd
theorem Bi {E:Value->Shared->Prop} {pins:List (Addr×Obj)} {s:Shared} {σ:St} {H:Hp} {x:Str} {u:Value} {pos:Pos} {Q:Value->Shared->Prop} (I:Inv X pins σ H s) (hg:Gl X x) (hm:X.mg x=none) (hv:bootBuiltins x=some u) (h:Q u s)
    (hn:x ≠ "__name__" := by decide) (hd:(x == ("__debug__" : Str))=false:=by decide):wpAny (model X.prog X.w) X.A (eval (.Name x pos) X.env) Q E s:=by
  obtain ⟨mb,h1,h2⟩:=I.mod.blt;exact Calls.Name_function_global I.ok.kind hg (Calls.loadGlobal_builtin (by rw [I.ok.glob];exact I.mod.glob.keeps I.bk) hm (by rw [I.ok.blt];exact h1.keeps I.bk) ((h2 x hn).trans hv) h) hd
theorem WY {x:Str} {v:V} {u:Value} {pos:Pos} (hg:Gl X x) (hm:X.mg x=some u) (r:RelV v u) (hd:(x == ("__debug__" : Str))=false:=by decide):PE X (.Name x pos) (tC v):=
 fun _ _ _ H _ I h=>Jb I hg hm ⟨v,H,I,r,h⟩ hd
theorem Wb {x:Str} {v:V} {u:Value} {pos:Pos} (hg:Gl X x) (hm:X.mg x=none) (hv:bootBuiltins x=some u) (r:RelV v u) (hn:x ≠ "__name__" := by decide) (hd:(x == ("__debug__" : Str))=false:=by decide):PE X (.Name x pos) (tC v):=
 fun _ _ _ H _ I h=>Bi I hg hm hv ⟨v,H,I,r,h⟩ hn hd
variable {a b:Expr} {ta tb:TE} {pos:Pos}
variable {tA YL:TT} {rest:List Expr}
abbrev eN (t u:TT):TT:=fun σ H Q=>t σ H fun c H1=>if c=true then u σ H1 Q else Q false H1
abbrev kG (t u:TT):TT:=fun σ H Q=>t σ H fun c H1=>if c=true then Q true H1 else u σ H1 Q
abbrev eC (t:TT):TT:=fun σ H Q=>t σ H fun c H1=>Q (!c) H1
theorem WA (ha:PT X a tA):PW X (.BoolOp .And [a] pos) tA:=by
 intro wh pins s σ H Q I h;refine isTrue_and (Ak (ha pins s σ H Q I h) fun c s1 e=>?_);cases c with
 | true=>exact isTrue_and_nil e
 | false=>exact e
theorem Zy (ha:PT X a tA):PW X (.BoolOp .Or [a] pos) tA:=by
 intro wh pins s σ H Q I h;refine isTrue_or (Ak (ha pins s σ H Q I h) fun c s1 e=>?_);cases c with
 | false=>exact isTrue_or_nil e
 | true=>exact e
theorem Zz (ha:PT X a tA) (hb:PW X (.BoolOp .And (b::rest) pos) YL):PW X (.BoolOp .And (a::b::rest) pos) (eN tA YL):=by
 intro wh pins s σ H Q I h;refine isTrue_and (Ak (ha pins s σ H _ I h) fun c s1 ⟨H1,I1,q1⟩=>?_);cases c with
 | true=>exact hb wh pins s1 σ H1 Q I1 q1
 | false=>exact ⟨H1,I1,q1⟩
theorem fR (ha:PT X a tA) (hb:PW X (.BoolOp .Or (b::rest) pos) YL):PW X (.BoolOp .Or (a::b::rest) pos) (kG tA YL):=by
 intro wh pins s σ H Q I h;refine isTrue_or (Ak (ha pins s σ H _ I h) fun c s1 ⟨H1,I1,q1⟩=>?_);cases c with
 | true=>exact ⟨H1,I1,q1⟩
 | false=>exact hb wh pins s1 σ H1 Q I1 q1
theorem aA (ha:PT X a tA):PT X (.UnaryOp .Not a pos) (eC tA):=by
 intro pins s σ H Q I h;exact isTrue_not (ha pins s σ H (fun c H1=>Q (!c) H1) I h)
abbrev YM (ta tb:TE):TE:=fun σ H Q=>ta σ H fun x H1=>∃ c,x=.bl c/\if c=true then tb σ H1 Q else Q (.bl false) H1
abbrev eB (ta tb:TE):TE:=fun σ H Q=>ta σ H fun x H1=>∃ c,x=.bl c/\if c=true then Q (.bl true) H1 else tb σ H1 Q
abbrev YH (ta:TE):TE:=fun σ H Q=>ta σ H fun x H1=>∃ c,x=.bl c/\Q (.bl (!c)) H1
theorem aU {op} {t:TE} (h:PE X a t):PE X (.BoolOp op [a] pos) t:=fun pins s σ H Q I hw=>BoolOp_one (h pins s σ H Q I hw)
theorem aZ (ha:PE X a ta) (hb:PE X (.BoolOp .And (b::rest) pos) tb):PE X (.BoolOp .And (a::b::rest) pos) (YM ta tb):=by
 intro pins s σ H Q I h;refine BoolOp_and (Ak (ha pins s σ H _ I h) fun v s1 ⟨x,H1,I1,r1,q1⟩=>?_);obtain ⟨c,rfl,q1⟩:=q1;cases r1;refine wpAny_truthy_bool ?_;cases c with
 | true=>exact hb pins s1 σ H1 Q I1 q1
 | false=>exact ⟨.bl false,H1,I1,rfl,q1⟩
theorem fW (ha:PE X a ta) (hb:PE X (.BoolOp .Or (b::rest) pos) tb):PE X (.BoolOp .Or (a::b::rest) pos) (eB ta tb):=by
 intro pins s σ H Q I h;refine BoolOp_or (Ak (ha pins s σ H _ I h) fun v s1 ⟨x,H1,I1,r1,q1⟩=>?_);obtain ⟨c,rfl,q1⟩:=q1;cases r1;refine wpAny_truthy_bool ?_;cases c with
 | false=>exact hb pins s1 σ H1 Q I1 q1
 | true=>exact ⟨.bl true,H1,I1,rfl,q1⟩
theorem aV (ha:PE X a ta):PE X (.UnaryOp .Not a pos) (YH ta):=by
 intro pins s σ H Q I h;refine UnaryOp_ (Ak (ha pins s σ H _ I h) fun v s1 ⟨x,H1,I1,r1,q1⟩=>?_);obtain ⟨c,rfl,q1⟩:=q1;cases r1;exact not_of (wpAny_truthy_bool ⟨.bl (!c),H1,I1,rfl,q1⟩)
abbrev kH (t:TT) (ta tb:TE):TE:=fun σ H Q=>t σ H fun c H1=>if c=true then ta σ H1 Q else tb σ H1 Q
theorem Sn {c:Expr} (hc:PT X c tA) (ha:PE X a ta) (hb:PE X b tb):PE X (.IfExp c a b pos) (kH tA ta tb):=by
 intro pins s σ H Q I h;refine wpAny_IfExp (Ak (hc pins s σ H _ I h) fun d s1 ⟨H1,I1,q1⟩=>?_);cases d with
 | true=>exact ha pins s1 σ H1 Q I1 q1
 | false=>exact hb pins s1 σ H1 Q I1 q1
end
def CQ (K:W.Frag) (H:Hp) (a:Addr) (xs:List V):Prop:=
 Rd H a (.lst xs) \/
  ∃ (o:Obj) (its:Array Value) (n:Nat),K.lookup a=some o/\o.cls=.type "list" /\ o.dict=none/\o.data=.seq its n/\its.size<=sizeLine/\AE xs its.toList
def EC (K:W.Frag) (H:Hp) (a:Addr) (xs:List V):Prop:=
 Rd H a (.tup xs) \/
  ∃ (o:Obj) (its:Array Value) (n:Nat),K.lookup a=some o/\o.cls=.type "tuple" /\ o.data=.seq its n/\its.size<=sizeLine/\AE xs its.toList
noncomputable def jh:Value->Option V
 | .none=>some .non
 | .bool b=>some (.bl b)
 | .int i _=>some (.int i)
 | .str x _=>some (.str x)
 | .bytes b _=>some (.byt b)
 | .float b _=>some (.flt b)
 | .ref a=>some (.ref a)
 | .type n=>some (.ty n)
 | _=>none
theorem RelV.abs {x:V} {u:Value} (r:RelV x u):jh u=some x:=by
 cases x with
 | non=>cases r;rfl
 | bl _=>cases r;rfl
 | int _=>obtain ⟨t,rfl⟩:=r;rfl
 | str _=>obtain ⟨t,rfl⟩:=r;rfl
 | byt _=>obtain ⟨t,rfl⟩:=r;rfl
 | flt _=>obtain ⟨t,rfl⟩:=r;rfl
 | ref _=>cases r;rfl
 | ty _=>cases r;rfl
theorem RelV.inj {x y:V} {u:Value} (r:RelV x u) (q:RelV y u):x=y:=Option.some.inj (r.abs.symm.trans q.abs)
theorem AE.inj:∀ {xs ys:List V} {us:List Value},AE xs us->AE ys us->xs=ys
 | _,_,_,.nil,.nil=>rfl
 | _,_,_,.cons r t,.cons r' t'=>by rw [r.inj r',AE.inj t t']
section
variable {X:Cx} {pins:List (Addr×Obj)} {σ:St} {H:Hp} {s:Shared} {a:Addr} {xs ys:List V}
theorem Inv.list (I:Inv X pins σ H s) (h:CQ X.K H a xs):∃ its:List Value,AE xs its/\PlainL s.heap a its.toArray/\xs.length<=sizeLine:=by
 rcases h with h | ⟨o,its,n,hk,hc,hd,hs,hz,r⟩
 ·obtain ⟨z,its,n,r,e⟩:=h.ok I.hok;exact ⟨its,r,⟨_,n,e,rfl,rfl,rfl⟩,z⟩
 ·refine ⟨its.toList,r,⟨o,n,I.kIn a o hk,hc,hd,by simpa using hs⟩,?_⟩;have e:=r.length;simp only [Array.length_toList] at e;omega
theorem Inv.tuple (I:Inv X pins σ H s) (h:EC X.K H a xs):∃ its:List Value,AE xs its/\IsTup s.heap a its.toArray/\xs.length<=sizeLine:=by
 rcases h with h | ⟨o,its,n,hk,hc,hs,hz,r⟩
 ·obtain ⟨z,its,r,p⟩:=h.ok I.hok;exact ⟨its,r,p.tup,z⟩
 ·refine ⟨its.toList,r,⟨o,I.kIn a o hk,hc,n,by simpa using hs⟩,?_⟩;have e:=r.length;simp only [Array.length_toList] at e;omega
theorem Inv.list_inj (I:Inv X pins σ H s) (h:CQ X.K H a xs) (h':CQ X.K H a ys):xs=ys:=by
 obtain ⟨its,r,⟨o,n,e,_,_,d⟩,_⟩:=I.list h;obtain ⟨its',r',⟨o',n',e',_,_,d'⟩,_⟩:=I.list h';rw [e] at e';cases e';rw [d] at d';injection d' with d1 _
 have:its=its':=by simpa using congrArg Array.toList d1
 subst this;exact r.inj r'
theorem Inv.tuple_inj (I:Inv X pins σ H s) (h:EC X.K H a xs) (h':EC X.K H a ys):xs=ys:=by
 obtain ⟨its,r,⟨o,e,_,n,d⟩,_⟩:=I.tuple h;obtain ⟨its',r',⟨o',e',_,n',d'⟩,_⟩:=I.tuple h';rw [e] at e';cases e';rw [d] at d';injection d' with d1 _
 have:its=its':=by simpa using congrArg Array.toList d1
 subst this;exact r.inj r'
end
noncomputable abbrev Cx.wish (X:Cx) (E:Value->Shared->Prop):Cx:={ X with xe:=E }
noncomputable abbrev Cx.nox (X:Cx):Cx:=X.wish fun _ _=>False
theorem Cx.Ok.wish {X:Cx} (ok:X.Ok) (E:Value->Shared->Prop):(X.wish E).Ok:=
 ⟨ok.mod,ok.kind,ok.glob,ok.blt,ok.above,ok.inj,ok.has,ok.cab,ok.hd,ok.frames,ok.stk,ok.exf,ok.bs,ok.bsz,ok.noex,ok.exfs,ok.funs,ok.frf⟩
theorem Cx.Ok.unwish {X:Cx} {E:Value->Shared->Prop} (ok:(X.wish E).Ok):X.Ok:=
 ⟨ok.mod,ok.kind,ok.glob,ok.blt,ok.above,ok.inj,ok.has,ok.cab,ok.hd,ok.frames,ok.stk,ok.exf,ok.bs,ok.bsz,ok.noex,ok.exfs,ok.funs,ok.frf⟩
section
variable {X:Cx} {pins:List (Addr×Obj)} {σ:St} {H:Hp} {s:Shared} {E:Value->Shared->Prop}
theorem Inv.wish (I:Inv X pins σ H s) (E:Value->Shared->Prop):Inv (X.wish E) pins σ H s:=⟨I.ok.wish E,I.os,I.bare,I.base,I.loc,I.cell,I.free,I.freeC,I.pin,I.hok,I.len⟩
theorem Inv.unwish (I:Inv (X.wish E) pins σ H s):Inv X pins σ H s:=⟨I.ok.unwish,I.os,I.bare,I.base,I.loc,I.cell,I.free,I.freeC,I.pin,I.hok,I.len⟩
theorem SP.unwish {D:Ends} {f:Flow} {s':Shared} (h:SP (X.wish E) pins D f s'):SP X pins D f s':=by
 cases f with
 | next=>obtain ⟨σ',H',I,q⟩:=h;exact ⟨σ',H',I.unwish,q⟩
 | brk=>obtain ⟨σ',H',I,q⟩:=h;exact ⟨σ',H',I.unwish,q⟩
 | cont=>obtain ⟨σ',H',I,q⟩:=h;exact ⟨σ',H',I.unwish,q⟩
 | ret u=>obtain ⟨v,σ',H',I,r,q⟩:=h;exact ⟨v,σ',H',I.unwish,r,q⟩
theorem Cu.nox {st:List Stmt} {t:TS} (h:Cu X.nox st t):Cu X st t:=fun pins s σ H D I hw =>
 wpAny_mono (h pins s σ H D (I.wish _) hw) (fun _ _ q=>q.unwish) fun _ _ z=>False.elim z
end
section
variable {X:Cx} {st:Stmt} {rest:List Stmt} {t u:TS} {e:Expr} {te:TE} {pos:Pos}
abbrev Rg:TS:=fun D σ H=>D.nx σ H
abbrev ie (t u:TS):TS:=fun D σ H=>t { D with nx:=u D } σ H
theorem WD:Cu X [] Rg:=fun _ _ σ H _ I h=>wpAny_execs_nil ⟨σ,H,I,h⟩
theorem Kp (h1:PS X st t) (h2:Cu X rest u):Cu X (st::rest) (ie t u):=by
 intro pins s σ H D I h;refine wpAny_execs_cons (Ak (h1 pins s σ H { D with nx:=u D } I h) fun f s1 q=>?_);cases f with
 | next =>
  obtain ⟨σ',H',I',q⟩:=q;exact h2 pins s1 σ' H' D I' q
 | ret v=>exact q
 | brk=>exact q
 | cont=>exact q
theorem WC (h1:PS X st t):Cu X [st] t:=by
 intro pins s σ H D I h;refine wpAny_execs_cons (Ak (h1 pins s σ H D I h) fun f s1 q=>?_);cases f with
 | next=>exact wpAny_execs_nil q
 | ret v=>exact q
 | brk=>exact q
 | cont=>exact q
abbrev ZY:TS:=fun D σ H=>D.bk σ H
abbrev eK:TS:=fun D σ H=>D.ct σ H
theorem WE:PS X (.Pass pos) Rg:=fun _ _ σ H _ I h=>wpAny_Pass ⟨σ,H,I,h⟩
theorem SX:PS X (.Break pos) ZY:=fun _ _ σ H _ I h=>wpAny_Break ⟨σ,H,I,h⟩
theorem Ks:PS X (.Continue pos) eK:=fun _ _ σ H _ I h=>wpAny_Continue ⟨σ,H,I,h⟩
theorem Inv.quiet {pins:List (Addr×Obj)} {σ:St} {H:Hp} {s:Shared} (I:Inv X pins σ H s):interactive X.env=false:=by simp [interactive,I.ok.kind]
theorem aE {x j pos pos'}:PS X (.Expr (.Constant (.str x) j pos) pos') Rg:=fun _ s σ H _ I h=>wpAny_Expr (Calls.Constant_str (show SP X _ _ .next { s with toks:=s.toks+1 } from ⟨σ,H,I.tok _,h⟩)) I.quiet
abbrev eJ (te:TE):TS:=fun D σ H=>te σ H fun _ H1=>D.nx σ H1
theorem WG (he:PE X e te) (hs:swapsWith e none pos.line X.env=pure false:=by rfl):PS X (.Expr e pos) (eJ te):=by
 intro pins s σ H D I h;exact wpAny_Expr_any (Ak (he pins s σ H _ I h) fun v s1 ⟨x,H1,I1,r1,q1⟩=>⟨σ,H1,I1,q1⟩) I.quiet hs
abbrev ig (te:TE):TS:=fun D σ H=>te σ H D.rt
theorem aC (he:PE X e te):PS X (.Return (some e) pos) (ig te):=by
 intro pins s σ H D I h;exact wpAny_Return_some (Ak (he pins s σ H _ I h) fun v s1 ⟨x,H1,I1,r1,q1⟩=>⟨x,σ,H1,I1,r1,q1⟩)
abbrev iq (c:TT) (t u:TS):TS:=fun D σ H=>c σ H fun b H1=>if b=true then t D σ H1 else u D σ H1
theorem fT {c:Expr} {a b:List Stmt} {tc:TT} (hc:PT X c tc) (ha:Cu X a t) (hb:Cu X b u):PS X (.If c a b pos) (iq tc t u):=by
 intro pins s σ H D I h;refine wpAny_If (Ak (hc pins s σ H _ I h) fun d s1 ⟨H1,I1,q1⟩=>?_);cases d with
 | true=>exact ha pins s1 σ H1 D I1 q1
 | false=>exact hb pins s1 σ H1 D I1 q1
end
abbrev TG:=V->St->Hp->(St->Hp->Prop)->Prop
abbrev NV:=List V->St->Hp->(St->Hp->Prop)->Prop
def PG (X:Cx) (target:Expr) (t:TG):Prop:=
 ∀ (pins:List (Addr×Obj)) (s:Shared) (σ:St) (H:Hp) (v:V) (u:Value) (Q:St->Hp->Prop),Inv X pins σ H s->RelV v u->t v σ H Q ->
  wpAny (model X.prog X.w) X.A (assign target X.env u) (fun _ s'=>∃ σ' H',Inv X pins σ' H' s'/\Q σ' H') X.xe s
def df (X:Cx) (ts:List Expr) (t:NV):Prop:=
 ∀ (pins:List (Addr×Obj)) (s:Shared) (σ:St) (H:Hp) (vs:List V) (us:List Value) (Q:St->Hp->Prop),Inv X pins σ H s->AE vs us->t vs σ H Q ->
  wpAny (model X.prog X.w) X.A (assignInOrder ((assignEach ts X.env).map (·.2)) us) (fun _ s'=>∃ σ' H',Inv X pins σ' H' s'/\Q σ' H') X.xe s
abbrev NU:=V->V->V->Hp->(Hp->Prop)->Prop
def KG (X:Cx) (t:NU):Prop:=
 ∀ (pins:List (Addr×Obj)) (s:Shared) (σ:St) (H:Hp) (o i v:V) (ov iv u:Value) (Q:Hp->Prop),Inv X pins σ H s->RelV o ov->RelV i iv->RelV v u->t o i v H Q ->
  wpAny (model X.prog X.w) X.A (setItem ov iv u) (fun _ s'=>∃ H',Inv X pins σ H' s'/\Q H') X.xe s
abbrev iW:=V->V->Hp->VK->Prop
def ju (X:Cx) (op:Operator) (t:iW):Prop:=
 ∀ (pins:List (Addr×Obj)) (s:Shared) (σ:St) (H:Hp) (x y:V) (v u:Value) (Q:VK),Inv X pins σ H s->RelV x v->RelV y u->t x y H Q ->
  wpAny (model X.prog X.w) X.A (inplaceOp op v u) (EP X pins σ Q) X.xe s
section
variable {X:Cx} {pos:Pos}
abbrev DL (i:Nat):TG:=fun v σ H Q=>Q (σ.set i (some v)) H
theorem WV {i:Nat} {x:Str} (hN:X.N.Nodup) (hi:X.N[i]?=some x) (hx:Loc X.env.scope x) (hf:X.fn x=true\/X.env.scope.names.lookup x=some .local:=by first | exact .inl rfl | exact .inr rfl | assumption):PG X (.Name x pos) (DL i):=by
 intro pins s σ H v u Q I r h;exact wpAny_assign_Name (DA I hN hi hx r (fun s' I'=>⟨_,H,I',h⟩) hf)
abbrev bY:NV:=fun vs σ H Q=>vs=[]/\Q σ H
abbrev Td (t:TG) (u:NV):NV:=fun vs σ H Q=>∃ v r,vs=v::r/\t v σ H fun σ' H'=>u r σ' H' Q
theorem WU:df X [] bY:=by
 intro pins s σ H vs us Q I r h;obtain ⟨e,h⟩:=h;subst e;cases r;exact assignInOrder_nil ⟨σ,H,I,h⟩
theorem Sj {e:Expr} {es:List Expr} {t:TG} {u:NV} (h1:PG X e t) (h2:df X es u)
    (hs:(assignEach (e::es) X.env).map (·.2)=assign e X.env::(assignEach es X.env).map (·.2):=by rfl):df X (e::es) (Td t u):=by
  intro pins s σ H vs us Q I r h;obtain ⟨v,vr,e1,h⟩:=h;subst e1;cases r with
  | cons r rr =>
    rw [hs];refine assignInOrder_cons (Ak (h1 pins s σ H _ _ _ I r h) fun _ s1 ⟨σ1,H1,I1,q1⟩=>?_);exact h2 pins s1 σ1 H1 _ _ Q I1 rr q1
abbrev bX (K:W.Frag) (n:Nat) (t:NV):TG:=fun v σ H Q=>∃ a xs,v=.ref a/\EC K H a xs/\xs.length=n/\t xs σ H Q
theorem aP {es:List Expr} {k:Nat} {t:NV} {n:Nat} (hc:X.calm=true) (h:df X es t)
    (hn:(assignEach es X.env).length=n:=by rfl) (hst:(assignEach es X.env).findIdx? (·.1)=none:=by rfl):PG X (.Tuple es k pos) (bX X.K n t):=by
  intro pins s σ H v u Q I r hw;obtain ⟨a,xs,e1,hq,hl,hw⟩:=hw;subst e1;cases r;obtain ⟨its,rv,ht,hz⟩:=I.tuple hq;refine assign_Tuple_tuple (I.ok.hd hc) ht (by simp [hn,<- hl,rv.length]) hst fun h' hx=>?_
  have I1:Inv X pins σ H { s with heap:=h' }:=I.kept (t':=s.toks) fun b o e=>hx b o (lq (lQ e)) e
  exact h pins _ σ H xs _ Q I1 (by simpa using rv) hw
abbrev gM (to ti:TE) (t:NU):TG:=fun v σ H Q=>to σ H fun o H1=>ti σ H1 fun i H2=>t o i v H2 fun H3=>Q σ H3
theorem aQ {o i:Expr} {to ti:TE} {t:NU} (ho:PE X o to) (hi:PE X i ti) (hs:KG X t)
    (ha:∀ v,assign (.Subscript o i pos) X.env v=(do
      let ov <- holding [v] (eval o X.env)
      let iv <- holding [v,ov] (eval i X.env)
      standAt pos
      holding [v,ov,iv] (setItem ov iv v)
      release [v,ov,iv] []):=by intro _;rfl):PG X (.Subscript o i pos) (gM to ti t):=by
  intro pins s σ H v u Q I r h;rw [ha];refine wpAny_bind (wpAny_holding (Ak (ho pins s σ H _ I h) fun ov s1 ⟨x,H1,I1,r1,q1⟩=>?_));refine wpAny_bind (wpAny_holding (Ak (hi pins s1 σ H1 _ I1 q1) fun iv s2 ⟨y,H2,I2,r2,q2⟩=>?_));refine wpAny_bind (wpAny_standAt (wpAny_bind (wpAny_holding (Ak (hs pins s2 σ H2 x y v ov iv u _ I2 r1 r2 r q2) fun _ s3 ⟨H3,I3,q3⟩=>?_))));exact wpAny_release ⟨σ,H3,I3,q3⟩
abbrev Lz (te:TE) (g:TG):TS:=fun D σ H=>te σ H fun x H1=>g x σ H1 D.nx
theorem SZ {tg e:Expr} {te:TE} {g:TG} (he:PE X e te) (hg:PG X tg g) (hs:swapsWithSole [tg] e pos.line X.env=pure false:=by rfl) (hw:swappedStores [tg] e X.env=pure none:=by rfl)
    (h1:(assignEach [tg] X.env).map (·.2)=[assign tg X.env]:=by rfl):PS X (.Assign [tg] e pos) (Lz te g):=by
  intro pins s σ H D I h;refine wpAny_Assign_stores (Ak (he pins s σ H _ I h) fun v s1 ⟨x,H1,I1,r1,q1⟩=>?_) hs hw;rw [h1];exact Ak (hg pins s1 σ H1 x v _ I1 r1 q1) fun _ s2 q=>q
theorem aB {i:Nat} {x:Str} {e:Expr} {te:TE} {pos':Pos} (hN:X.N.Nodup) (hi:X.N[i]?=some x) (hx:Loc X.env.scope x) (he:PE X e te) (hs:swapsWith e (some (.Name x pos')) pos.line X.env=pure false:=by rfl) (hf:X.fn x=true\/X.env.scope.names.lookup x=some .local:=by first | exact .inl rfl | exact .inr rfl | assumption) :
    PS X (.Assign [.Name x pos'] e pos) (Lz te (DL i)):=by
  intro pins s σ H D I h;refine wpAny_Assign_Name (Ak (he pins s σ H _ I h) fun v s1 ⟨y,H1,I1,r1,q1⟩=>?_) hs;exact DA I1 hN hi hx r1 (fun s2 I2=>⟨_,H1,I2,q1⟩) hf
abbrev ij (i j:Nat) (ta:TA):TS:=fun D σ H=>ta σ H fun vs H1=>∃ v w,vs=[v,w]/\D.nx ((σ.set i (some v)).set j (some w)) H1
theorem aD {i j:Nat} {x y:Str} {a b:Expr} {ta:TA} {px py pt:Pos} {kt k2 pt2} (hc:X.calm=true) (hN:X.N.Nodup) (hi:X.N[i]?=some x) (hj:X.N[j]?=some y) (hij:i≠j)
    (hx:X.env.scope.names.lookup x=some .local) (hy:X.env.scope.names.lookup y=some .local) (ha:PA X [a,b] ta)
    (hw:swappedStores [.Tuple [.Name x px,.Name y py] kt pt] (.Tuple [a,b] k2 pt2) X.env=pure (some [x,y]))
    (hs:swapsWithSole [.Tuple [.Name x px,.Name y py] kt pt] (.Tuple [a,b] k2 pt2) pos.line X.env=pure false:=by rfl) :
    PS X (.Assign [.Tuple [.Name x px,.Name y py] kt pt] (.Tuple [a,b] k2 pt2) pos) (ij i j ta):=by
  intro pins s σ H D I h;rw [exec_Assign_arm];refine wpAny_bind (wpAny_standAt ?_);rw [hs];refine wpAny_bind (wpAny_pure ?_);rw [if_neg (by decide)];refine wpAny_bind (Tuple_ (Ak (ha _ pins s σ H _ I h) fun us s1 ⟨vs,H1,I1,r1,q1⟩=>?_));obtain ⟨v,w,e1,q1⟩:=q1;subst e1;obtain ⟨u1,u2,rfl,rv,rw'⟩:∃ u1 u2,us=[u1,u2]/\RelV v u1/\RelV w u2:=by
    cases r1 with
    | cons p q =>
      cases q with
      | cons p' q' =>
        cases q';exact ⟨_,_,rfl,p,p'⟩
  refine wpAny_newObj_type ?_ (by show 2<=sizeLine;decide)
  have I2:Inv X pins σ H1 { s1 with heap:=s1.heap.push { cls:=.type "tuple", data:=.seq [u1,u2].toArray } }:=I1.kept (t':=s1.toks) fun b o e=>lC _ e
  rw [hw];refine wpAny_bind (wpAny_pure ?_)
  show wpAny (model X.prog X.w) X.A (do rule "assign.swapped-stores"; let items <- unpackItems (.ref s1.heap.objs.size) 2 none;assignInOrder [fun v=>bindName X.env y v,fun v=>bindName X.env x v] items.reverse;pure Flow.next) _ _ _
  refine wpAny_bind (wpAny_rule (wpAny_bind (unpackItems_tuple (items:=#[u1,u2]) (I.ok.hd hc) (IsTup.new s1.heap _) fun h' hx'=>?_)));have I3:=I2.kept (h':=h') (t':=s1.toks) fun b o e=>hx' b o (lq (lQ e)) e
  show wpAny _ _ (assignInOrder [fun v=>bindName X.env y v,fun v=>bindName X.env x v] [u2,u1] >>= fun _=>pure Flow.next) _ _ _;refine wpAny_bind (assignInOrder_cons (wpAny_bindName (DA I3 hN hj (.inl hy) rw' (fun s2 I4=>?_) (.inr hy))));refine assignInOrder_cons (wpAny_bindName (DA I4 hN hi (.inl hx) rv (fun s3 I5=>assignInOrder_nil (wpAny_pure ?_)) (.inr hx)));rw [List.set_comm _ _ (Ne.symm hij)] at I5;exact ⟨_,H1,I5,q1⟩
abbrev eM (i:Nat) (te:TE) (ti:iW):TS:=fun D σ H=>∃ x,σ[i]?=some (some x)/\te σ H fun y H1=>ti x y H1 fun z H2=>D.nx (σ.set i (some z)) H2
theorem SY {i:Nat} {x:Str} {e:Expr} {te:TE} {op:Operator} {ti:iW} {pos':Pos} (hN:X.N.Nodup) (hi:X.N[i]?=some x) (hx:Loc X.env.scope x) (he:PE X e te) (ho:ju X op ti) (hf:X.fn x=true\/X.env.scope.names.lookup x=some .local:=by first | exact .inl rfl | exact .inr rfl | assumption) :
    PS X (.AugAssign (.Name x pos') op e pos) (eM i te ti):=by
  intro pins s σ H D I h;obtain ⟨v,e1,h⟩:=h;obtain ⟨m,hn,hl⟩:=I.loc;have vis:de X.env.scope x:=by rcases hx with k | k;exact .inl k;exact .inr (.inl k)
  obtain ⟨u,r,l⟩:=hl i x v hi e1 vis;refine wpAny_AugAssign_Name ?_;have go:wpAny (model X.prog X.w) X.A (eval e X.env) (fun w s₂=>wpAny (model X.prog X.w) X.A (inplaceOp op u w) (fun r s₃=>wpAny (model X.prog X.w) X.A (storeName X.env x r) (fun _=>SP X pins D .next) X.xe s₃) X.xe s₂) X.xe s:=by
    refine Ak (he pins s σ H _ I h) fun w s1 ⟨y,H1,I1,r1,q1⟩=>?_
    refine Ak (ho pins s1 σ H1 v y u w _ I1 r r1 q1) fun z s2 ⟨zv,H2,I2,r2,q2⟩=>?_
    exact DA I2 hN hi hx r2 (fun s3 I3=>⟨_,H2,I3,q2⟩) hf
  rcases l with ⟨hk,hm⟩ | ⟨hk,c,hc,hcell⟩
  · exact wpAny_loadName_local I.ok.kind hk hn hm go
  · rcases hk with hk | hk
    · exact wpAny_loadName_cell I.ok.kind hk hc hcell go
    · rcases hx with k | k
      · have:X.env.scope.names.lookup x=some .free:=hk;rw [k] at this;cases this
      · have:X.env.scope.names.lookup x=some .free:=hk;rw [k] at this;cases this
def jF (f:Int->Int->Int):iW:=fun x y H Q=>∃ i j,x=.int i/\y=.int j/\Q (.int (f i j)) H
theorem bV:ju X .Add (jF fun i j=>i+j):=by
 intro pins s σ H x y v u Q I r1 r2 h;obtain ⟨i,j,e1,e2,q⟩:=h;subst e1;subst e2;obtain ⟨t,rfl⟩:=r1;obtain ⟨t',rfl⟩:=r2;exact iadd_int ⟨.int _,H,I.tok _,⟨_,rfl⟩,q⟩
theorem bU:ju X .Sub (jF fun i j=>i - j):=by
 intro pins s σ H x y v u Q I r1 r2 h;obtain ⟨i,j,e1,e2,q⟩:=h;subst e1;subst e2;obtain ⟨t,rfl⟩:=r1;obtain ⟨t',rfl⟩:=r2;exact isub_int ⟨.int _,H,I.tok _,⟨_,rfl⟩,q⟩
end
section
variable {X:Cx} {pos:Pos}
def Rc (c:TT) (tb:TS):TS:=fun D σ H=>∃ W:Nat->St->Hp->Prop,(∃ m,W m σ H)/\∀ m σ H,W m σ H ->
 c σ H fun b H1=>if b=true then ∃ N:St->Hp->Prop,(∀ σ' H',N σ' H'->∃ m',m' < m/\W m' σ' H')/\tb { D with nx:=N,ct:=N,bk:=D.nx } σ H1 else D.nx σ H1
theorem Kq {c:Expr} {body:List Stmt} {tc:TT} {tb:TS} (hp:PassesOwn (model X.prog X.w) X.A X.env X.xe) (hc:PT X c tc) (hb:Cu X body tb):PS X (.While c body [] pos) (Rc tc tb):=by
 intro pins s σ H D I h;obtain ⟨W,⟨m0,w0⟩,turn⟩:=h;refine wpAny_While (codeAny_whileLoop (fun n s'=>∃ σ' H',Inv X pins σ' H' s'/\W n σ' H') ?_ m0 ⟨σ,H,I,w0⟩);rintro n s1 ⟨σ1,H1,I1,w1⟩;refine wpAny_passesOwn hp (Ak (hc pins s1 σ1 H1 _ I1 (turn n σ1 H1 w1)) fun b s2 ⟨H2,I2,q2⟩=>?_);cases b with
 | true =>
  obtain ⟨N,hN,q2⟩:=q2;rw [if_pos rfl];refine wpAny_passesOwn hp (Ak (hb pins s2 σ1 H2 _ I2 q2) fun f s3 q3=>?_);cases f with
  | next =>
   obtain ⟨σ3,H3,I3,n3⟩:=q3;obtain ⟨m',hm,w3⟩:=hN σ3 H3 n3;exact ⟨m',hm,σ3,H3,I3,w3⟩
  | cont =>
   obtain ⟨σ3,H3,I3,n3⟩:=q3;obtain ⟨m',hm,w3⟩:=hN σ3 H3 n3;exact ⟨m',hm,σ3,H3,I3,w3⟩
  | brk=>exact q3
  | ret v=>exact q3
 | false =>
  rw [if_neg lV];exact wpAny_execs_nil ⟨σ1,H2,I2,q2⟩
end
structure It where
 go:Nat->Hp->Prop
 yld:Nat->Hp->V->Hp->Prop
 stop:Nat->Hp->Prop
def FpOk (X:Cx) (pins:List (Addr×Obj)) (H:Hp) (b:Addr):Prop:=
 H b=none/\b≠X.env.locals/\b∉X.fs/\(b∈X.ex\/X.s₀.heap.objs.size<=b)/\(∀ x c,X.env.cells.lookup x=some c->c≠b)/\∀ p∈X.pn++pins,p.1≠b
theorem Inv.fpOk {X:Cx} {pins:List (Addr×Obj)} {σ:St} {H H':Hp} {s:Shared} {b:Addr} (I:Inv X pins σ H s) (hb:s.heap.objs.size<=b) (hn:H' b=none):FpOk X pins H' b:=by
 refine ⟨hn,nM (lU I.lt hb),I.nofs hb,.inr (lR I.sz hb),fun x c e z=>?_,fun p hp z=>?_⟩
 ·obtain ⟨v,q⟩:=I.cell x c e;exact absurd (lU q.lt (by rw [z];exact hb)) (mW _)
 ·exact absurd (lU (lQ (I.pin p hp).1) (by rw [z];exact hb)) (mW _)
structure Turn (P:Program) (w:World) (K:W.Frag) (tg:Expr) (J:It) (fp:List Addr) (it:Addr) (tn:Nat->Heap->Prop):Prop where
 mem:it∈fp
 obj:∀ i h,tn i h->∀ b∈fp,∃ o,h.get? b=some o/\∀ v,o.data≠.cell v
 keep:∀ i h h',tn i h->(∀ b∈fp,∀ o,h.get? b=some o->h'.get? b=some o)->tn i h'
 item:∀ (X:Cx),X.prog=P->X.w=w->X.K=K->X.calm=true->∀ (i:Nat) (pins:List (Addr×Obj)) (s:Shared) (σ:St) (H:Hp) (E:Value->Shared->Prop),Inv X pins σ H s->(∀ b∈fp,FpOk X pins H b)->tn i s.heap->J.go i H ->
  wpAny (model P w) X.A (pyNext (.ref it)) (fun r s1=>∃ u,r=some u /\
   wpAny (model P w) X.A (letOwnedTupleGo tg (.ref it) u) (fun _ s2=>∃ x H',Inv X pins σ H' s2/\RelV x u/\J.yld i H x H'/\tn (i+1) s2.heap/\∀ b∈fp,H' b=none) E s1) E s
 done:∀ (X:Cx),X.prog=P->X.w=w->X.K=K->X.calm=true->∀ (i:Nat) (pins:List (Addr×Obj)) (s:Shared) (σ:St) (H:Hp) (E:Value->Shared->Prop),Inv X pins σ H s->(∀ b∈fp,FpOk X pins H b)->tn i s.heap->J.stop i H ->
  wpAny (model P w) X.A (pyNext (.ref it)) (fun r s1=>r=none/\Inv X pins σ H s1) E s
 self:∀ (A:Around) (i:Nat) (s:Shared) (Q:Value->Shared->Prop) (E:Value->Shared->Prop),tn i s.heap->Q (.ref it) s->wpAny (model P w) A (pyIter (.ref it)) Q E s
abbrev TI:=St->Hp->(It->Hp->Prop)->Prop
def kb (X:Cx) (pins:List (Addr×Obj)) (σ:St) (tg:Expr) (R:It->Hp->Prop) (itv:Value) (s2:Shared):Prop:=
 ∃ (it:Addr) (fp:List Addr) (tn:Nat->Heap->Prop) (J:It) (H':Hp),itv=.ref it/\Inv X pins σ H' s2/\Turn X.prog X.w X.K tg J fp it tn/\tn 0 s2.heap/\(∀ b∈fp,FpOk X pins H' b)/\R J H'
def PI (X:Cx) (tg iter:Expr) (wi:TI):Prop:=
 ∀ (pins:List (Addr×Obj)) (s:Shared) (σ:St) (H:Hp) (R:It->Hp->Prop),Inv X pins σ H s->wi σ H R ->
  wpAny (model X.prog X.w) X.A (eval iter X.env) (fun v s1=>wpAny (model X.prog X.w) X.A (pyIter v) (kb X pins σ tg R) X.xe s1) X.xe s
theorem OU {M:Model} {A:Around} {E:Value->Shared->Prop} {s:Shared} {tg:Expr} {it:Addr} {u:Value} {o:Obj} {n:String} {vs:Array Value} {Q:Unit->Shared->Prop} (ho:s.heap.get? it=some o) (hc:o.cls=.type n) (hd:o.data=.fields vs)
    (hn:["enumerate", "zip", "dict_itemiterator", "dict_reverseitemiterator", "odict_iterator", "itertools.zip_longest", "itertools.pairwise"].contains n=false) (hQ:Q () s):wpAny M A (letOwnedTupleGo tg (.ref it) u) Q E s:=by
  unfold letOwnedTupleGo;cases tg<;>first
    | exact wpAny_pure hQ
    | (cases u<;>first
        | exact wpAny_pure hQ
        | (refine wpAny_bind (wpAny_load ho ?_)
           rw [hc,hd]
           show wpAny M A (if (["enumerate", "zip", "dict_itemiterator", "dict_reverseitemiterator", "odict_iterator", "itertools.zip_longest", "itertools.pairwise"].contains n && vs[0]? == some (rawInt _))=true then _ else _) Q E s
           rw [if_neg (by intro h;rw [hn,Bool.false_and] at h;cases h)];exact wpAny_pure hQ))
noncomputable def iY (K:W.Frag) (a:Addr):It:=
 ⟨fun i H=>∃ xs x,CQ K H a xs/\xs[i]?=some x,fun i H x H'=>H'=H/\∀ xs,CQ K H a xs->xs[i]?=some x,fun i H=>∃ xs,CQ K H a xs/\xs.length<=i⟩
noncomputable def jv (K:W.Frag) (a:Addr):It:=
 ⟨fun i H=>∃ xs x,EC K H a xs/\xs[i]?=some x,fun i H x H'=>H'=H/\∀ xs,EC K H a xs->xs[i]?=some x,fun i H=>∃ xs,EC K H a xs/\xs.length<=i⟩
noncomputable def iJ (lo:Int) (n:Nat):It:=⟨fun i _=>i < n,fun i H x H'=>H'=H/\x=.int (lo+i),fun i _=>n<=i⟩
theorem PD {P:Program} {w:World} {K:W.Frag} {tg:Expr} (a it:Addr):Turn P w K tg (iY K a) [it] it (fun i h=>h.IsListIter it a i) where
 mem:=by simp
 obj:=fun i h st b hb=>by
  have e:b=it:=by simpa using hb
  subst e;obtain ⟨o,e,c,d⟩:=st;exact ⟨o,e,fun v z=>by rw [d] at z;cases z⟩
 keep:=fun i h h' st k=>st.at fun o e=>k it (by simp) o e
 item:=by
  intro X hP hw hK hc i pins s σ H E I hf st hg;subst hP hw hK;obtain ⟨xs,x,hq,hx⟩:=hg;obtain ⟨its,rv,p,hz⟩:=I.list hq;obtain ⟨u,hu,ru⟩:=rv.get hx;obtain ⟨f0,f1,f2,f3,f4,f5⟩:=hf it (by simp);refine wpAny_pyNext_list_item st p.isList (x:=u) (by simpa using hu) fun h' st' sb=>?_
  have I1:Inv X pins σ H { s with heap:=h' }:=I.turned (t':=s.toks) (fun b o hb e=>(sb.2 b hb).trans e) f0 f1 f3 f4 f5;obtain ⟨o,e,c,d⟩:=id st';exact ⟨u,rfl,OU (s:={ s with heap:=h' }) e c d (by decide) ⟨x,H,I1,ru,⟨rfl,fun ys hy=>by rw [I.list_inj hy hq];exact hx⟩,st',fun b hb=>(hf b hb).1⟩⟩
 done:=by
  intro X hP hw hK hc i pins s σ H E I hf st hg;subst hP hw hK;obtain ⟨xs,hq,hx⟩:=hg;obtain ⟨its,rv,p,hz⟩:=I.list hq;obtain ⟨f0,f1,f2,f3,f4,f5⟩:=hf it (by simp);have hl:=rv.length;exact wpAny_pyNext_list_end (I.ok.hd hc) st p.isList (by simp;omega) fun h' eb=>⟨rfl,I.turned (t':=s.toks) (fun b o hb e=>eb b o hb e) f0 f1 f3 f4 f5⟩
 self:=fun _ _ _ _ _ st h=>wpAny_pyIter_listiter st h
theorem Lv {P:Program} {w:World} {K:W.Frag} {tg:Expr} (a it:Addr):Turn P w K tg (jv K a) [it] it (fun i h=>h.IsTupleIter it a i) where
 mem:=by simp
 obj:=fun i h st b hb=>by
  have e:b=it:=by simpa using hb
  subst e;obtain ⟨o,e,c,d⟩:=st;exact ⟨o,e,fun v z=>by rw [d] at z;cases z⟩
 keep:=fun i h h' st k=>st.at fun o e=>k it (by simp) o e
 item:=by
  intro X hP hw hK hc i pins s σ H E I hf st hg;subst hP hw hK;obtain ⟨xs,x,hq,hx⟩:=hg;obtain ⟨its,rv,p,hz⟩:=I.tuple hq;obtain ⟨u,hu,ru⟩:=rv.get hx;obtain ⟨f0,f1,f2,f3,f4,f5⟩:=hf it (by simp);refine wpAny_pyNext_tuple_item st (show s.heap.IsTuple a its.toArray from p) (x:=u) (by simpa using hu) fun h' st' sb=>?_
  have I1:Inv X pins σ H { s with heap:=h' }:=I.turned (t':=s.toks) (fun b o hb e=>(sb.2 b hb).trans e) f0 f1 f3 f4 f5;obtain ⟨o,e,c,d⟩:=id st';exact ⟨u,rfl,OU (s:={ s with heap:=h' }) e c d (by decide) ⟨x,H,I1,ru,⟨rfl,fun ys hy=>by rw [I.tuple_inj hy hq];exact hx⟩,st',fun b hb=>(hf b hb).1⟩⟩
 done:=by
  intro X hP hw hK hc i pins s σ H E I hf st hg;subst hP hw hK;obtain ⟨xs,hq,hx⟩:=hg;obtain ⟨its,rv,p,hz⟩:=I.tuple hq;obtain ⟨f0,f1,f2,f3,f4,f5⟩:=hf it (by simp);have hl:=rv.length;exact wpAny_pyNext_tuple_end (I.ok.hd hc) st (show s.heap.IsTuple a its.toArray from p) (by simp;omega) fun h' eb=>⟨rfl,I.turned (t':=s.toks) (fun b o hb e=>eb b o hb e) f0 f1 f3 f4 f5⟩
 self:=fun _ _ _ _ _ st h=>wpAny_pyIter_tupleiter st h
theorem Lw {P:Program} {w:World} {K:W.Frag} {tg:Expr} (it:Addr) (lo:Int) (n:Nat):Turn P w K tg (iJ lo n) [it] it (fun i h=>IsRangeIter h it (lo+(i:Nat) * 1) ((n:Int) - (i:Nat)) 1) where
 mem:=by simp
 obj:=fun i h st b hb=>by
  have e:b=it:=by simpa using hb
  subst e;exact ⟨_,st,fun v z=>by
   have z':Data.fields _=Data.cell v:=z;cases z'⟩
 keep:=fun i h h' st k=>k it (by simp) _ st
 item:=by
  intro X hP hw hK hc i pins s σ H E I hf st hg;subst hP hw hK;obtain ⟨f0,f1,f2,f3,f4,f5⟩:=hf it (by simp);have W:=Walks.range (prog:=X.prog) (w:=X.w) (I.ok.hd hc) it lo 1 n;refine W.item i s _ _ hg st fun v h' tk hv st' kk=>?_
  obtain ⟨t,rfl⟩:=hv;have I1:Inv X pins σ H { s with heap:=h',toks:=tk }:=I.turned (fun b o hb e=>kk b o (by simpa using hb) e) f0 f1 f3 f4 f5
  refine ⟨_,rfl,OU (s:={ s with heap:=h',toks:=tk }) (n := "range_iterator") st' rfl rfl (by decide) ⟨.int (lo+i),H,I1,⟨t,?_⟩,⟨rfl,rfl⟩,st',fun b hb=>(hf b hb).1⟩⟩
  rw [Int.mul_one]
 done:=by
  intro X hP hw hK hc i pins s σ H E I hf st hg;subst hP hw hK;obtain ⟨f0,f1,f2,f3,f4,f5⟩:=hf it (by simp);exact wpAny_pyNext_range_end (I.ok.hd hc) st (by have:n<=i:=hg;omega) fun h' eb=>⟨rfl,I.turned (t':=s.toks) (fun b o hb e=>eb b o hb e) f0 f1 f3 f4 f5⟩
 self:=fun _ _ _ _ _ st h=>wpAny_pyIter_rangeiter st h
section
variable {X:Cx} {tg:Expr}
theorem SO {pins:List (Addr×Obj)} {σ:St} {H:Hp} {s:Shared} {R:It->Hp->Prop} {E:Value->Shared->Prop} {lo hi:Int} {t u v:Tok} {tk:Nat} (I:Inv X pins σ H s) (h1:-(2 ^ 62)<=lo) (h2:lo < 2 ^ 62) (h3:-(2 ^ 62)<=hi) (h4:hi < 2 ^ 62)
    (q:R (iJ lo (hi - lo).toNat) H):wpAny (model X.prog X.w) X.A (pyIter (.ref s.heap.objs.size)) (kb X pins σ tg R) E { s with heap:=s.heap.push { cls:=.type "range", data:=.fields #[.int lo t,.int hi u,.int 1 v] },toks:=tk }:=by
  refine wpAny_pyIter_range (IsRange.new ..) (small_one h1 h2 h3 h4) ?_
  have I1:Inv X pins σ H { s with heap:=s.heap.push { cls:=.type "range", data:=.fields #[.int lo t,.int hi u,.int 1 v] },toks:=tk }:=I.kept fun b o e=>lC _ e
  refine ⟨(s.heap.push { cls:=.type "range", data:=.fields #[.int lo t,.int hi u,.int 1 v] }).objs.size,[(s.heap.push { cls:=.type "range", data:=.fields #[.int lo t,.int hi u,.int 1 v] }).objs.size],_,_,H,rfl,
    I1.kept (t':=tk) fun b o e=>lC _ e,Lw _ lo (hi - lo).toNat,?_,fun b hb=>?_,q⟩
  · have e1:lo+((0:Nat):Int) * 1=lo:=by simp
    have e2:(((hi - lo).toNat:Nat):Int) - ((0:Nat):Int)=Builtin.Range.rangeSize lo hi 1:=by rw [rangeSize_one];split<;>omega
    show IsRangeIter _ _ (lo+((0:Nat):Int) * 1) ((((hi - lo).toNat:Nat):Int) - ((0:Nat):Int)) 1;rw [e1,e2];exact lT _ rfl
  · have e:b=(s.heap.push { cls:=.type "range", data:=.fields #[.int lo t,.int hi u,.int 1 v] }).objs.size:=by simpa using hb
    subst e;exact I1.fpOk (lJ _) (I1.hok.fresh (lJ _))
abbrev gK (ta:TA):TI:=fun σ H R=>ta σ H fun vs H1=>∃ j:Int,vs=[.int j]/\-(2 ^ 62)<=j/\j < 2 ^ 62/\R (iJ 0 j.toNat) H1
theorem Pd {a:Expr} {ta:TA} {p pos:Pos} (hg:Gl X "range") (hm:X.mg "range" = none) (ha:PA X [a] ta) (hs:starEach [a] X.env=[(false,eval a X.env)]:=by rfl):PI X tg (.Call (.Name "range" p) [a] [] pos) (gK ta):=by
 intro pins s σ H R I h;refine Call_ (Bi I hg hm boot_range (mD (Ak (ha pos pins s σ H _ I h) fun us s1 ⟨vs,H1,I1,r1,q1⟩=>?_) hs rfl));obtain ⟨j,e,q1,q2,q⟩:=q1;subst e;cases r1 with
 | cons r rr =>
  cases rr;obtain ⟨t,rfl⟩:=r;exact call_range_1 (SO I1 (by omega) (by omega) q1 q2 (by simpa using q))
abbrev ir (wi:TI) (g:TG) (tb:TS):TS:=fun D σ H=>wi σ H fun J H1=>∃ W:Nat->Nat->St->Hp->Prop,(∃ m,W 0 m σ H1)/\∀ i m σ H,W i m σ H ->
 (J.stop i H/\D.nx σ H)\/(J.go i H/\∃ N:St->Hp->Prop,(∀ σ' H',N σ' H'->∃ m',m' < m/\W (i+1) m' σ' H')/\∀ x H',J.yld i H x H'->g x σ H' fun σ2 H2=>tb { D with nx:=N,ct:=N,bk:=D.nx } σ2 H2)
noncomputable def JU (fp:List Addr) (h:Heap):List (Addr×Obj):=fp.filterMap fun b=>(h.get? b).map fun o=>(b,o)
theorem Cm {fp:List Addr} {h:Heap} {b:Addr} {o:Obj} (hb:b∈fp) (e:h.get? b=some o):(b,o)∈JU fp h:=List.mem_filterMap.mpr ⟨b,hb,by rw [e];rfl⟩
theorem Pj {fp:List Addr} {h:Heap} {p:Addr×Obj} (hp:p∈JU fp h):p.1∈fp/\h.get? p.1=some p.2:=by
 obtain ⟨b,hb,e⟩:=List.mem_filterMap.mp hp;cases q:h.get? b with
 | none=>rw [q] at e;cases e
 | some o =>
  rw [q] at e;have e':(b,o)=p:=Option.some.inj e;subst e';exact ⟨hb,q⟩
theorem Inv.pinned {pins:List (Addr×Obj)} {σ:St} {H:Hp} {s:Shared} {fp:List Addr} (I:Inv X pins σ H s) (hf:∀ b∈fp,FpOk X pins H b) (ho:∀ b∈fp,∃ o,s.heap.get? b=some o/\∀ v,o.data≠.cell v):Inv X (pins++JU fp s.heap) σ H s:=
 I.pins_of fun p hp=>(lW.mp hp).elim (fun z=>I.pin p (lH _ z)) fun z=>by
  obtain ⟨hb,e⟩:=Pj z;obtain ⟨f0,f1,f2,_⟩:=hf p.1 hb;obtain ⟨o,e',d⟩:=ho p.1 hb;rw [e] at e';cases e';exact ⟨e,f0,f1,f2,d⟩
theorem Inv.unpinned {pins pl:List (Addr×Obj)} {σ:St} {H:Hp} {s:Shared} (I:Inv X (pins++pl) σ H s):Inv X pins σ H s:=I.pins_of fun p hp=>I.pin p (lH _ (lM _ hp))
theorem SW {iter:Expr} {body:List Stmt} {wi:TI} {g:TG} {tb:TS} {pos:Pos} (hp:PassesOwn (model X.prog X.w) X.A X.env X.xe) (hc:X.calm=true) (hi:PI X tg iter wi) (hg:PG X tg g) (hb:Cu X body tb)
    (hs:∀ x,foldedSetIterable iter X.env x=pure x:=by intro _;rfl):PS X (.For tg iter body [] pos) (ir wi g tb):=by
  intro pins s σ H D I h;refine wpAny_For (Ak (hi pins s σ H _ I h) fun v s1 h1=>Ak h1 fun itv s2 h2=>?_) hs;obtain ⟨it,fp,tn,J,H2,e,I2,T,st2,f2,W,⟨m0,w0⟩,turn⟩:=h2;subst e
  -- what stays true of the iterator's objects through the loop
  have stat:∀ {H':Hp},(∀ b∈fp,H' b=none)->∀ b∈fp,FpOk X pins H' b:=fun hn b hb=>⟨hn b hb,(f2 b hb).2⟩
  refine codeAny_forLoop_any (fun n s'=>∃ i σ' H',Inv X pins σ' H' s'/\tn i s'.heap/\(∀ b∈fp,H' b=none)/\W i n σ' H') ?_ m0 ⟨0,σ,H2,I2,st2,fun b hb=>(f2 b hb).1,w0⟩;rintro n s3 ⟨i,σ3,H3,I3,st3,fr3,w3⟩;rcases turn i n σ3 H3 w3 with ⟨stop,qn⟩ | ⟨go,N,hN,step⟩
  · refine wpAny_passesOwn hp (Ak (T.done X rfl rfl rfl hc i pins s3 σ3 H3 X.xe I3 (stat fr3) st3 stop) fun r s4 ⟨hr,I4⟩=>?_);subst hr;exact wpAny_execs_nil ⟨σ3,H3,I4,qn⟩
  · refine wpAny_passesOwn hp (Ak (T.item X rfl rfl rfl hc i pins s3 σ3 H3 X.xe I3 (stat fr3) st3 go) fun r s4 ⟨u,hr,h4⟩=>?_);subst hr;refine wpAny_passesOwn hp (Ak h4 fun _ s5 ⟨x,H5,I5,r5,y5,st5,fr5⟩=>?_);have I5':=I5.pinned (stat fr5) (T.obj _ _ st5);refine wpAny_passesOwn hp (Ak (hg _ s5 σ3 H5 x u _ I5' r5 (step x H5 y5)) fun _ s6 ⟨σ6,H6,I6,q6⟩=>?_);refine wpAny_passesOwn hp (Ak (hb _ s6 σ6 H6 _ I6 q6) fun f s7 q7=>?_);have again:∀ {σ7:St} {H7:Hp},Inv X (pins++JU fp s5.heap) σ7 H7 s7->N σ7 H7->∃ m,m < n/\∃ i σ' H',Inv X pins σ' H' s7/\tn i s7.heap/\(∀ b∈fp,H' b=none)/\W i m σ' H':=fun {σ7 H7} I7 n7=>by
      obtain ⟨m',hm,w7⟩:=hN σ7 H7 n7;refine ⟨m',hm,i+1,σ7,H7,I7.unpinned,T.keep _ _ _ st5 fun b hb o e=>(I7.pin (b,o) (lH _ (lH _ (Cm hb e)))).1,fun b hb=>?_,w7⟩;obtain ⟨o,e,d⟩:=T.obj _ _ st5 b hb;exact (I7.pin (b,o) (lH _ (lH _ (Cm hb e)))).2.1
    cases f with
    | next=>obtain ⟨σ7,H7,I7,n7⟩:=q7;exact again I7 n7
    | cont=>obtain ⟨σ7,H7,I7,n7⟩:=q7;exact again I7 n7
    | brk=>obtain ⟨σ7,H7,I7,q7⟩:=q7;exact ⟨σ7,H7,I7.unpinned,q7⟩
    | ret v=>obtain ⟨x7,σ7,H7,I7,r7,q7⟩:=q7;exact ⟨x7,σ7,H7,I7.unpinned,r7,q7⟩
end
abbrev R2:=V->V->Hp->VK->Prop
def Bv (X:Cx) (f:Value->Value->Sem Value) (r:R2):Prop:=
 ∀ (pins:List (Addr×Obj)) (s:Shared) (σ:St) (H:Hp) (x y:V) (v u:Value) (Q:VK),Inv X pins σ H s->RelV x v->RelV y u->r x y H Q ->
  wpAny (model X.prog X.w) X.A (f v u) (EP X pins σ Q) X.xe s
def jm (X:Cx) (f:Value->Sem Value) (r:V->Hp->VK->Prop):Prop:=
 ∀ (pins:List (Addr×Obj)) (s:Shared) (σ:St) (H:Hp) (x:V) (v:Value) (Q:VK),Inv X pins σ H s->RelV x v->r x H Q ->
  wpAny (model X.prog X.w) X.A (f v) (EP X pins σ Q) X.xe s
def BC (X:Cx) (f:Value) (r:List V->Hp->VK->Prop):Prop:=
 ∀ (pins:List (Addr×Obj)) (s:Shared) (σ:St) (H:Hp) (xs:List V) (us:List Value) (Q:VK),Inv X pins σ H s->AE xs us->r xs H Q ->
  wpAny (model X.prog X.w) X.A (call f us) (EP X pins σ Q) X.xe s
def jo (X:Cx) (r:V->Hp->(Bool->Hp->Prop)->Prop):Prop:=
 ∀ (pins:List (Addr×Obj)) (s:Shared) (σ:St) (H:Hp) (x:V) (v:Value) (Q:Bool->Hp->Prop),Inv X pins σ H s->RelV x v->r x H Q ->
  wpAny (model X.prog X.w) X.A (truthy v) (TP X pins σ Q) X.xe s
abbrev iP (r:R2) (ta tb:TE):TE:=fun σ H Q=>ta σ H fun x H1=>tb σ H1 fun y H2=>r x y H2 Q
abbrev ki (r:V->Hp->VK->Prop) (ta:TE):TE:=fun σ H Q=>ta σ H fun x H1=>r x H1 Q
def rI (C:Int->Int->Prop) (g:Int->Int->V):R2:=fun x y H Q=>∃ i j,x=.int i/\y=.int j/\C i j/\Q (g i j) H
def VY (g:Int->Int->V):R2:=fun x y H Q=>∃ i j,x=.int i/\y=.int j/\Q (g i j) H
def rU (g:Int->V):V->Hp->VK->Prop:=fun x H Q=>∃ i,x=.int i/\Q (g i) H
section
variable {X:Cx} {a b c:Expr} {ta tb tc:TE} {pos:Pos}
theorem dF (ha:PE X a ta) (hb:PE X b tb) {pins:List (Addr×Obj)} {s:Shared} {σ:St} {H:Hp} {R:V->V->Hp->Prop} (I:Inv X pins σ H s)
    (h:ta σ H fun x H1=>tb σ H1 fun y H2=>R x y H2) {Q:Value->Shared->Prop} {f:Value->Value->Sem Value}
    (hf:∀ v u s2 x y H2,Inv X pins σ H2 s2->RelV x v->RelV y u->R x y H2->wpAny (model X.prog X.w) X.A (f v u) Q X.xe s2) :
    wpAny (model X.prog X.w) X.A (eval a X.env) (fun v s₁=>wpAny (model X.prog X.w) X.A (eval b X.env) (fun u s₂=>wpAny (model X.prog X.w) X.A (f v u) Q X.xe s₂) X.xe s₁) X.xe s:=by
  refine Ak (ha pins s σ H _ I h) fun v s1 ⟨x,H1,I1,r1,q1⟩=>?_
  refine Ak (hb pins s1 σ H1 _ I1 q1) fun u s2 ⟨y,H2,I2,r2,q2⟩=>?_
  exact hf v u s2 x y H2 I2 r1 r2 q2
theorem fX {op:Operator} {r:R2} (ho:Bv X (binaryOp op) r) (ha:PE X a ta) (hb:PE X b tb):PE X (.BinOp a op b pos) (iP r ta tb):=by
 intro pins s σ H Q I h;exact wpAny_BinOp (dF ha hb I h fun v u s2 x y H2 I2 rx ry q=>ho pins s2 σ H2 x y v u Q I2 rx ry q)
theorem fV {op:UnaryOp} {r:V->Hp->VK->Prop} (ho:jm X (unaryOp op) r) (ha:PE X a ta):PE X (.UnaryOp op a pos) (ki r ta):=by
 intro pins s σ H Q I h;exact UnaryOp_ (Ak (ha pins s σ H _ I h) fun v s1 ⟨x,H1,I1,r1,q1⟩=>ho pins s1 σ H1 x v Q I1 r1 q1)
theorem iR {f:Value->Value->Sem Value} {C:Int->Int->Prop} {g:Int->Int->Int}
    (rule:∀ (i j:Int) (t u:Tok) (s:Shared) (Q:Value->Shared->Prop) (E:Value->Shared->Prop),C i j->Q (.int (g i j) s.toks) { s with toks:=s.toks+1 }->wpAny (model X.prog X.w) X.A (f (.int i t) (.int j u)) Q E s) :
    Bv X f (rI C fun i j=>.int (g i j)):=by
  intro pins s σ H x y v u Q I rx ry h;obtain ⟨i,j,rfl,rfl,hc,q⟩:=h;obtain ⟨t,rfl⟩:=rx;obtain ⟨t',rfl⟩:=ry;exact rule i j t t' s _ _ hc ⟨.int (g i j),H,I.tok _,⟨_,rfl⟩,q⟩
theorem fu {f:Value->Value->Sem Value} {g:Int->Int->Int}
    (rule:∀ (i j:Int) (t u:Tok) (s:Shared) (Q:Value->Shared->Prop) (E:Value->Shared->Prop),Q (.int (g i j) s.toks) { s with toks:=s.toks+1 }->wpAny (model X.prog X.w) X.A (f (.int i t) (.int j u)) Q E s) :
    Bv X f (VY fun i j=>.int (g i j)):=by
  intro pins s σ H x y v u Q I rx ry h;obtain ⟨i,j,rfl,rfl,q⟩:=h;obtain ⟨t,rfl⟩:=rx;obtain ⟨t',rfl⟩:=ry;exact rule i j t t' s _ _ ⟨.int (g i j),H,I.tok _,⟨_,rfl⟩,q⟩
theorem ax {f:Value->Value->Sem Value} {g:Int->Int->Bool}
    (rule:∀ (i j:Int) (t u:Tok) (s:Shared) (Q:Value->Shared->Prop) (E:Value->Shared->Prop),Q (.bool (g i j)) s->wpAny (model X.prog X.w) X.A (f (.int i t) (.int j u)) Q E s) :
    Bv X f (VY fun i j=>.bl (g i j)):=by
  intro pins s σ H x y v u Q I rx ry h;obtain ⟨i,j,rfl,rfl,q⟩:=h;obtain ⟨t,rfl⟩:=rx;obtain ⟨t',rfl⟩:=ry;exact rule i j t t' s _ _ ⟨.bl (g i j),H,I,rfl,q⟩
def jy (i j:Int):Prop:=0 < j/\j < 1073741824
def jw (i j:Int):Prop:=0<=j/\j<=1000000/\i.natAbs < 2 ^ 64
def YC (i j:Int):Prop:=(-(2 ^ 64) < i/\i < 2 ^ 64)\/(-(2 ^ 64) < j/\j < 2 ^ 64)
theorem YC.ok {i j:Int} (h:YC i j):IntMulOk i j:=by
 rcases h with ⟨h1,h2⟩ | ⟨h1,h2⟩
 ·exact .of_left (intBits_le_64 h1 h2)
 ·exact .of_right (intBits_le_64 h1 h2)
theorem aw:Bv X (binaryOp .Add) (VY fun i j=>.int (i+j)):=fu fun _ _ _ _ _ _ _ q=>add_int q
theorem af:Bv X (binaryOp .Sub) (VY fun i j=>.int (i - j)):=fu fun _ _ _ _ _ _ _ q=>sub_int q
theorem aj:Bv X (binaryOp .Mult) (rI YC fun i j=>.int (i * j)):=iR fun _ _ _ _ _ _ _ hc q=>mul_int q hc.ok
theorem We:Bv X (binaryOp .FloorDiv) (rI jy fun i j=>.int (i / j)):=iR fun i j _ _ _ _ _ hc q=>by
 have h1:(0:Int) < j:=hc.1;have h2:j < 1073741824:=hc.2;exact floordiv_int (by omega) (by rw [Int.fdiv_eq_ediv_of_nonneg i (by omega)];exact q) (.inl (PyProof.noPylong_small (by omega)))
theorem ak:Bv X (binaryOp .Mod) (rI (fun _ j=>0 < j) fun i j=>.int (i % j)):=iR fun i j _ _ _ _ _ hc q=>by
 have h1:(0:Int) < j:=hc;exact mod_int' (by omega) (by rw [Int.fmod_eq_emod_of_nonneg i (by omega)];exact q)
theorem ai:Bv X (binaryOp .Pow) (rI jw fun i j=>.int (i ^ j.toNat)):=iR fun _ _ _ _ _ _ _ hc q=>pow_int_small hc.1 hc.2.1 hc.2.2 q
theorem kg {f:Value->Sem Value} {g:Int->Int}
    (rule:∀ (i:Int) (t:Tok) (s:Shared) (Q:Value->Shared->Prop) (E:Value->Shared->Prop),Q (.int (g i) s.toks) { s with toks:=s.toks+1 }->wpAny (model X.prog X.w) X.A (f (.int i t)) Q E s) :
    jm X f (rU fun i=>.int (g i)):=by
  intro pins s σ H x v Q I rx h;obtain ⟨i,rfl,q⟩:=h;obtain ⟨t,rfl⟩:=rx;exact rule i t s _ _ ⟨.int (g i),H,I.tok _,⟨_,rfl⟩,q⟩
theorem ZP:jm X (unaryOp .USub) (rU fun i=>.int (-i)):=kg fun _ _ _ _ _ q=>neg_int q
end
section
variable {X:Cx} {a b c:Expr} {ta tb tc:TE} {pos:Pos}
theorem Tf {pins:List (Addr×Obj)} {σ:St} {H:Hp} {s:Shared} {Q:VK} {k k':Bool} (I:Inv X pins σ H s) (q:Q (.bl k) H) (e:k=k'):EP X pins σ Q (.bool k') s:=by
 subst e;exact ⟨.bl k,H,I,rfl,q⟩
theorem fj:Bv X (compareOp .Lt) (VY fun i j=>.bl (decide (i < j))):=ax fun _ _ _ _ _ _ _ q=>lt_int q
theorem fm:Bv X (compareOp .Gt) (VY fun i j=>.bl (decide (j < i))):=ax fun _ _ _ _ _ _ _ q=>gt_int q
theorem fo:Bv X (compareOp .GtE) (VY fun i j=>.bl (decide (j<=i))):=ax fun _ _ _ _ _ _ _ q=>ge_int q
theorem Pi:Bv X (compareOp .In) (fun x y H Q=>∃ i j,x=.str i/\y=.str j/\Q (.bl (!(Builtin.Str.occurrences j i 0 j.length 1).isEmpty)) H):=by
 intro pins s σ H x y v u Q I rx ry h;obtain ⟨i,j,rfl,rfl,q⟩:=h;obtain ⟨t,rfl⟩:=rx;obtain ⟨t',rfl⟩:=ry;exact in_str (Tf I q rfl)
theorem ao:Bv X (compareOp .Is) (fun x y H Q=>y=.non/\Q (.bl (decide (x=.non))) H):=by
 intro pins s σ H x y v u Q I rx ry h;obtain ⟨rfl,q⟩:=h;cases ry;refine is_none_gen (Tf I q ?_);cases x<;>first
  | (cases rx;rfl)
  | (obtain ⟨t,rfl⟩:=rx;rfl)
theorem Bv.or {f:Value->Value->Sem Value} {r r':R2} (h:Bv X f r) (h':Bv X f r'):Bv X f (fun x y H Q=>r x y H Q\/r' x y H Q):=by
 intro pins s σ H x y v u Q I rx ry q;rcases q with q | q
 ·exact h pins s σ H x y v u Q I rx ry q
 ·exact h' pins s σ H x y v u Q I rx ry q
theorem WZ {op:CmpOp} {r:R2} (ho:Bv X (compareOp op) r) (ha:PE X a ta) (hb:PE X b tb) (hm:behindInMarks op b=false):PE X (.Compare a [op] [b] pos) (iP r ta tb):=by
 intro pins s σ H Q I h;exact wpAny_Compare1 (dF ha hb I h fun v u s2 x y H2 I2 rx ry q=>ho pins s2 σ H2 x y v u Q I2 rx ry q) hm
abbrev YG (t:TE):TT:=fun σ H Q=>t σ H fun x H'=>∃ k,x=.bl k/\Q k H'
theorem WB {op:CmpOp} {r:R2} (ho:Bv X (compareOp op) r) (ha:PE X a ta) (hb:PE X b tb) (hm:behindInMarks op b=false):PT X (.Compare a [op] [b] pos) (YG (iP r ta tb)):=by
 intro pins s σ H Q I h;refine wpAny_isTrue_Compare1 (Ak (ha pins s σ H _ I h) fun v s1 ⟨x,H1,I1,r1,q1⟩=>Ak (hb pins s1 σ H1 _ I1 q1) fun u s2 ⟨y,H2,I2,r2,q2⟩ =>
  Ak (ho pins s2 σ H2 x y v u _ I2 r1 r2 q2) fun c s3 ⟨z,H3,I3,r3,k,e,q3⟩=>?_) hm
 subst e;cases r3;exact wpAny_truthy_bool ⟨H3,I3,q3⟩
abbrev JF (r r':R2) (ta tb tc:TE):TE:=fun σ H Q=>ta σ H fun x H1=>tb σ H1 fun y H2=>r x y H2 fun z H3=>∃ k,z=.bl k /\
 (if k=true then tc σ H3 fun w' H4=>r' y w' H4 Q else Q (.bl false) H3)
theorem Ky {op op':CmpOp} {r r':R2} (ho:Bv X (compareOp op) r) (ho':Bv X (compareOp op') r') (ha:PE X a ta) (hb:PE X b tb) (hc:PE X c tc)
    (hm:lastMarks [op,op'] [b,c]=false:=by with_unfolding_all rfl):PE X (.Compare a [op,op'] [b,c] pos) (JF r r' ta tb tc):=by
  intro pins s σ H Q I h;refine Compare_chain (Ak (ha pins s σ H _ I h) fun v s1 ⟨x,H1,I1,r1,q1⟩=>chain_link (Ak (hb pins s1 σ H1 _ I1 q1) fun u s2 ⟨y,H2,I2,r2,q2⟩ =>
    Ak (ho pins s2 σ H2 x y v u _ I2 r1 r2 q2) fun d s3 ⟨z,H3,I3,r3,k,e,q3⟩=>?_)) hm
  subst e;cases r3;refine wpAny_truthy_bool ?_;cases k with
  | false=>exact ite_ff ⟨.bl false,H3,I3,rfl,q3⟩
  | true=>exact ite_tt (chain_last (Ak (hc pins s3 σ H3 _ I3 q3) fun w' s4 ⟨z',H4,I4,r4,q4⟩=>ho' pins s4 σ H4 y z' u w' Q I4 r2 r4 q4))
theorem Ko {op op':CmpOp} {r r':R2} (ho:Bv X (compareOp op) r) (ho':Bv X (compareOp op') r') (ha:PE X a ta) (hb:PE X b tb) (hc:PE X c tc)
    (hm:lastMarks [op,op'] [b,c]=false:=by with_unfolding_all rfl):PT X (.Compare a [op,op'] [b,c] pos) (YG (JF r r' ta tb tc)):=by
  intro pins s σ H Q I h;refine isTrue_chain (Ak (ha pins s σ H _ I h) fun v s1 ⟨x,H1,I1,r1,q1⟩=>test_link (Ak (hb pins s1 σ H1 _ I1 q1) fun u s2 ⟨y,H2,I2,r2,q2⟩ =>
    Ak (ho pins s2 σ H2 x y v u _ I2 r1 r2 q2) fun d s3 ⟨z,H3,I3,r3,k,e,q3⟩=>?_)) hm
  subst e;cases r3;refine wpAny_truthy_bool ?_;cases k with
  | false =>
    obtain ⟨k',e',q'⟩:=q3;cases e';exact ite_ff ⟨H3,I3,q'⟩
  | true =>
    refine ite_tt (test_last (Ak (hc pins s3 σ H3 _ I3 q3) fun w' s4 ⟨z',H4,I4,r4,q4⟩=>Ak (ho' pins s4 σ H4 y z' u w' _ I4 r2 r4 q4) fun d' s5 ⟨z2,H5,I5,r5,k2,e2,q5⟩=>?_));subst e2;cases r5;exact wpAny_truthy_bool ⟨H5,I5,q5⟩
def VS (K:W.Frag) (x:V) (H:Hp) (k:Bool):Prop:=
 match x with
 | .non=>k=false
 | .bl b=>k=b
 | .int i=>k=(i != 0)
 | .str y=>y.length<=sizeLine/\k=((y.length:Int) != 0)
 | .byt y=>y.size<=sizeLine/\k=((y.size:Int) != 0)
 | .ref p=>(∃ xs,CQ K H p xs/\k=!xs.isEmpty)\/(∃ xs,EC K H p xs/\k=!xs.isEmpty)\/∃ kvs,H p=some (.dK kvs)/\k=!kvs.isEmpty
 | _=>False
theorem Mg {κ:Type} {kvs:List (κ×V)} {vs:List (κ×Value)} (r:KV kvs vs):(!vs.isEmpty)=!kvs.isEmpty:=by
 cases r<;>rfl
theorem HR {xs:List V} {its:List Value} (r:AE xs its):(!its.toArray.isEmpty)=!xs.isEmpty:=by
 cases r<;>simp
theorem Fw:(sizeLine:Nat) < 2 ^ 63:=by rw [sizeLine_eq];decide
theorem ZS:jo X (fun x H Q=>∃ k,VS X.K x H k/\Q k H):=by
 intro pins s σ H x v Q I rx h;obtain ⟨k,e,q⟩:=h;have hl:=Fw;have hs:sizeLine=16777216:=sizeLine_eq;cases x with
 | non =>
  cases rx;have e':k=false:=e;subst e';exact truthy_none ⟨H,I,q⟩
 | bl b =>
  cases rx;have e':k=b:=e;subst e';exact wpAny_truthy_bool ⟨H,I,q⟩
 | int i =>
  obtain ⟨t,rfl⟩:=rx;have e':k=(i != 0):=e;subst e';exact PySem.P.truthy_int ⟨H,I,q⟩
 | str y =>
  obtain ⟨t,rfl⟩:=rx;obtain ⟨hy,e'⟩:y.length<=sizeLine/\k=((y.length:Int) != 0):=e;subst e';exact PySem.P.truthy_str (by omega) ⟨H,I.tok _,q⟩
 | byt y =>
  obtain ⟨t,rfl⟩:=rx;obtain ⟨hy,e'⟩:y.size<=sizeLine/\k=((y.size:Int) != 0):=e;subst e';exact W.truthy_bytes (by omega) ⟨H,I.tok _,q⟩
 | ref p =>
  cases rx;have e':(∃ xs,CQ X.K H p xs/\k=!xs.isEmpty)\/(∃ xs,EC X.K H p xs/\k=!xs.isEmpty)\/∃ kvs,H p=some (.dK kvs)/\k=!kvs.isEmpty:=e;rcases e' with ⟨xs,hx,e'⟩ | ⟨xs,hx,e'⟩ | ⟨kvs,hx,e'⟩
  ·subst e';obtain ⟨its,r,pl,hz⟩:=I.list hx;have hlen:=r.length;exact wpAny_truthy_list pl.isList (by simp only [lF];omega) ⟨H,I.tok _,by rw [HR r];exact q⟩
  ·subst e';obtain ⟨its,r,pl,hz⟩:=I.tuple hx;have hlen:=r.length;exact truthy_tuple pl (by simp only [lF];omega) ⟨H,I.tok _,by rw [HR r];exact q⟩
  ·subst e';obtain ⟨hz,hS,vs,r,m⟩:kvs.length<=sizeLine/\(p == sysModules)=false/\∃ vs,KV kvs vs/\s.heap.DictOf (Ay X.prog X.w) p vs:=I.hok p _ hx;have hlen:kvs.length=vs.length:=Paired.length r;exact wpAny_truthy_dict hS m (by omega) ⟨H,I.tok _,by rw [Mg r];exact q⟩
 | _=>exact (show False from e).elim
theorem SV (ha:PE X a ta) (he:∀ whole,isTrue a X.env whole=(do let v <- whole;standAt a.pos;holding [v] (truthy v))) :
    PT X a (fun σ H Q=>ta σ H fun x H'=>∃ k,VS X.K x H' k/\Q k H'):=by
  intro pins s σ H Q I h;exact isTrue_plain (Ak (ha pins s σ H _ I h) fun v s1 ⟨x,H1,I1,r1,q1⟩=>ZS pins s1 σ H1 x v Q I1 r1 q1) (he _)
theorem MT:Bv X (binaryOp .Add) (fun x y H Q=>∃ i j,x=.str i/\y=.str j/\i.length+j.length<=sizeLine/\Q (.str (i++j)) H):=by
 intro pins s σ H x y v u Q I rx ry h;obtain ⟨i,j,rfl,rfl,hz,q⟩:=h;obtain ⟨t,rfl⟩:=rx;obtain ⟨t',rfl⟩:=ry;exact add_str (fun t' tk=>⟨.str (i++j),H,I.tok _,⟨_,rfl⟩,q⟩) hz
theorem vals1 {x:V} {us:List Value} (r:AE [x] us):∃ u,us=[u]/\RelV x u:=by
 cases r with
 | cons r1 r2=>cases r2;exact ⟨_,rfl,r1⟩
theorem di {x y:V} {us:List Value} (r:AE [x,y] us):∃ u w',us=[u,w']/\RelV x u/\RelV y w':=by
 cases r with
 | cons r1 r2 =>
  cases r2 with
  | cons r3 r4=>cases r4;exact ⟨_,_,rfl,r1,r3⟩
theorem Qg (hc:X.calm=true):BC X (.builtin "max") (fun xs H Q=>∃ i j,xs=[.int i,.int j]/\Q (.int (if j > i then j else i)) H):=by
 intro pins s σ H xs us Q I r h;obtain ⟨i,j,rfl,q⟩:=h;obtain ⟨u,w',rfl,⟨t,rfl⟩,⟨t',rfl⟩⟩:=di r;refine max_two_ints (I.ok.hd hc) fun h' tk k=>⟨_,H,I.kept k,?_,q⟩
 by_cases hj:j > i
 ·rw [if_pos hj,if_pos hj];exact ⟨_,rfl⟩
 ·rw [if_neg hj,if_neg hj];exact ⟨_,rfl⟩
theorem Qm:BC X (.type "int") (fun xs H Q=>(∃ i,xs=[.int i]/\Q (.int i) H)\/∃ k,xs=[.bl k]/\Q (.int (if k then 1 else 0)) H):=by
 intro pins s σ H xs us Q I r h;rcases h with ⟨i,rfl,q⟩ | ⟨k,rfl,q⟩
 ·obtain ⟨u,rfl,t,rfl⟩:=vals1 r;exact call_int_int ⟨.int i,H,I,⟨_,rfl⟩,q⟩
 ·obtain ⟨u,rfl,r1⟩:=vals1 r;cases r1;exact call_int_bool ⟨.int (if k then 1 else 0),H,I.tok _,⟨_,rfl⟩,q⟩
def iH (K:W.Frag) (x:V) (H:Hp) (n:Nat):Prop:=
 match x with
 | .str y=>y.length<=sizeLine/\n=y.length
 | .byt y=>y.size<=sizeLine/\n=y.size
 | .ref p=>(∃ xs,CQ K H p xs/\n=xs.length)\/∃ xs,EC K H p xs/\n=xs.length
 | _=>False
theorem Ub:BC X (.builtin "len") (fun xs H Q=>∃ x n,xs=[x]/\iH X.K x H n/\Q (.int n) H):=by
 intro pins s σ H xs us Q I r h;obtain ⟨x,n,rfl,e,q⟩:=h;obtain ⟨u,rfl,rx⟩:=vals1 r;have hl:=Fw;have hs:sizeLine=16777216:=sizeLine_eq;cases x with
 | str y =>
  obtain ⟨t,rfl⟩:=rx;obtain ⟨hy,e'⟩:y.length<=sizeLine/\n=y.length:=e;subst e';exact len_str (by omega) ⟨.int _,H,I.tok _,⟨_,rfl⟩,q⟩
 | byt y =>
  obtain ⟨t,rfl⟩:=rx;obtain ⟨hy,e'⟩:y.size<=sizeLine/\n=y.size:=e;subst e';exact W.len_bytes (by omega) ⟨.int _,H,I.tok _,⟨_,rfl⟩,q⟩
 | ref p =>
  cases rx;have e':(∃ xs,CQ X.K H p xs/\n=xs.length)\/∃ xs,EC X.K H p xs/\n=xs.length:=e;rcases e' with ⟨xs,hx,e'⟩ | ⟨xs,hx,e'⟩
  ·subst e';obtain ⟨its,r',pl,hz⟩:=I.list hx;have hlen:=r'.length;exact Calls.call_len_list pl.isList (by simp only [lF];omega) ⟨.int xs.length,H,I.tok _,⟨_,by simp only [lF];rw [hlen]⟩,q⟩
  ·subst e';obtain ⟨its,r',pl,hz⟩:=I.tuple hx;have hlen:=r'.length;exact len_tuple pl (by simp only [lF];omega) ⟨.int xs.length,H,I.tok _,⟨_,by simp only [lF];rw [hlen]⟩,q⟩
 | _=>exact (show False from e).elim
end
structure ObjM (h:Heap) (x dx C:Addr) (mA:Str->Option Value):Prop where
 obj:h.get? x=some (W.instObj C dx)
 ns:h.Ns1 dx mA
 ne:dx≠x
theorem QC {h:Heap} {dx:Addr} {mA:Str->Option Value} (n:h.Ns1 dx mA):∃ od,h.get? dx=some od/\∀ name,W.lookIn name od=some (mA name):=by
  obtain ⟨o,es,ep,ho,hd,hk,_,hm⟩:=n;refine ⟨o,ho,fun name=>?_⟩;have e:=hm name;unfold nsFind findBy at e;rw [<- Array.find?_toList] at e;unfold W.lookIn;rw [hd];dsimp only;split
  · rename_i y q;rw [q] at e;exact congrArg some e
  · rename_i q;rw [q] at e;have a:es.toList.any (·.refKey)=false:=by
      rw [List.any_eq_false];intro y hy;obtain ⟨z,t,hkey⟩:=hk y (Array.mem_toList_iff.mp hy);simp [DictEntry.refKey,hkey]
    have a':¬ es.toList.any (·.refKey)=true:=by rw [a];exact lV
    rw [if_neg a'];exact congrArg some e
theorem ObjM.look {h:Heap} {x dx C:Addr} {mA:Str->Option Value} (I:ObjM h x dx C mA):∃ od,W.InstAt h x (W.instObj C dx) C (some od)/\∀ name,W.lookIn name od=some (mA name):=
 let ⟨od,ho,hl⟩:=QC I.ns
 ⟨od,⟨I.obj,rfl,rfl,ho⟩,hl⟩
section
end
theorem Hi.some_of {v:V} {o:Option Value} (r:Hi (some v) o):∃ u,o=some u/\RelV v u:=by
 cases o with
 | none=>exact (show False from r).elim
 | some u=>exact ⟨u,rfl,r⟩
section
variable {P:Program} {w:World} {H H':Hp} {h h':Heap} {a C dx:Addr} {fs fs':List (Str×V)}
theorem Wy (hok:EY P w H h) (e:H a=some (.ins C dx fs)):∃ mA,ObjM h a dx C mA/\(∀ f,Hi (fs.lookup f) (mA f))/\PySem.Within mA (fs.map (·.1))/\fs.length<=1000/\H dx=some (.own a):=by
 obtain ⟨d,z,ne,ob,mA,n,r,q⟩:=(show AZ P w H h a (.ins C dx fs) from hok a _ e);exact ⟨mA,⟨ob,n,ne⟩,r,q,z,d⟩
end
structure Cls (K:W.Frag) (C:Addr):Prop where
 pg:W.plainGet K C Str.empty=true
 hd:W.hasDictIn K C=true
 po:W.plainOver K C=true
 sa:W.findIn K (.ref C) "__setattr__" = some (some (.builtin "object.__setattr__"))
theorem Cls.get {K:W.Frag} {C:Addr} (c:Cls K C) (f:Str):W.plainGet K C f=true:=c.pg
section
end
section
end
section
variable {X:Cx} {pins:List (Addr×Obj)} {σ:St} {H:Hp} {s:Shared} {A:Around} {E:Value->Shared->Prop} {Q:Value->Shared->Prop} {c:Value} {b:Bool}
inductive TyOf (K:W.Frag) (H:Hp):V->Value->Prop where
  | non:TyOf K H .non (.type "NoneType")
  | bl (x:Bool):TyOf K H (.bl x) (.type "bool")
  | int (i:Int):TyOf K H (.int i) (.type "int")
  | str (x:Str):TyOf K H (.str x) (.type "str")
  | flt (x:UInt64):TyOf K H (.flt x) (.type "float")
  | lst {a:Addr} {xs:List V} (e:H a=some (.lst xs)):TyOf K H (.ref a) (.type "list")
  | frz {a:Addr} {o:Obj} {xs:List V} (e:H a=some (.frz o (.lst xs))):TyOf K H (.ref a) (.type "list")
  | tup {a:Addr} {xs:List V} (e:H a=some (.tup xs)):TyOf K H (.ref a) (.type "tuple")
  | dK {a:Addr} {kvs:List (Ax×V)} (e:H a=some (.dK kvs)):TyOf K H (.ref a) (.type "dict")
  | dT {a:Addr} {kvs:List (List Ax×V)} (e:H a=some (.dT kvs)):TyOf K H (.ref a) (.type "dict")
  | ins {a C dx:Addr} {fs:List (Str×V)} (e:H a=some (.ins C dx fs)) (cl:Cls K C) (ha:W.findIn K (.ref C) "__class__" = some (some (.builtin "object.__class__")))
      (hn:W.specialIn K (.builtin "object.__class__") "__get__" = some (some (.builtin "getset_descriptor.__get__"))) (htk:W.takesIn K (.builtin "object.__class__")=some true)
      (hm:W.mroIn K C (.type "object")=some true):TyOf K H (.ref a) (.ref C)
theorem QG {x:V} {u t:Value} (I:Inv X pins σ H s) (rx:RelV x u) (ty:TyOf X.K H x t) (e:W.kitOne X.K t c=some b) (h:∀ tk,Q (.bool b) { s with toks:=tk }) :
    wpAny (model X.prog X.w) A (call (.builtin "isinstance") [u,c]) Q E s:=by
  cases ty with
  | non=>cases (show u=Value.none from rx);exact W.kia_one W.kitx_none I.kIn True.intro e (fun z=>nomatch z) h
  | bl y=>cases (show u=Value.bool y from rx);exact W.kia_one W.kitx_bool I.kIn True.intro e (fun z=>nomatch z) h
  | int i=>obtain ⟨t,q⟩:=(show ∃ t,u=Value.int i t from rx);cases q;exact W.kia_one W.kitx_int I.kIn True.intro e (fun z=>nomatch z) h
  | str y=>obtain ⟨t,q⟩:=(show ∃ t,u=Value.str y t from rx);cases q;exact W.kia_one W.kitx_str I.kIn True.intro e (fun z=>nomatch z) h
  | flt y=>obtain ⟨t,q⟩:=(show ∃ t,u=Value.float y t from rx);cases q;exact W.kia_one W.kitx_float I.kIn True.intro e (fun z=>nomatch z) h
  | @lst a xs ea =>
    cases (show u=Value.ref a from rx);obtain ⟨_,_,n,_,h1⟩:=(show AZ X.prog X.w H s.heap a (.lst xs) from I.hok a _ ea);exact W.kia_one W.kitx_list I.kIn ⟨_,h1,rfl⟩ e (fun z=>nomatch z) h
  | @frz a ob xs ea =>
    cases (show u=Value.ref a from rx);obtain ⟨_,_,_,n,_,h1⟩:=(show AZ X.prog X.w H s.heap a (.frz ob (.lst xs)) from I.hok a _ ea);exact W.kia_one W.kitx_list I.kIn ⟨_,h1,rfl⟩ e (fun z=>nomatch z) h
  | @tup a xs ea =>
    cases (show u=Value.ref a from rx);obtain ⟨_,_,_,p⟩:=(show AZ X.prog X.w H s.heap a (.tup xs) from I.hok a _ ea);obtain ⟨o,h1,h2,_⟩:=p;exact W.kia_one W.kitx_tuple I.kIn ⟨o,h1,h2⟩ e (fun z=>nomatch z) h
  | @dK a kvs ea =>
    cases (show u=Value.ref a from rx);obtain ⟨_,_,vs,_,p⟩:=(show AZ X.prog X.w H s.heap a (.dK kvs) from I.hok a _ ea);obtain ⟨o,es,ep,h1,h2,_⟩:=p;exact W.kia_one W.kitx_dict I.kIn ⟨o,h1,h2.1⟩ e (fun z=>nomatch z) h
  | @dT a kvs ea =>
    cases (show u=Value.ref a from rx);obtain ⟨_,_,xs,_,o,es,ep,h1,h2,_⟩:=(show AZ X.prog X.w H s.heap a (.dT kvs) from I.hok a _ ea);exact W.kia_one W.kitx_dict I.kIn ⟨o,h1,h2.1⟩ e (fun z=>nomatch z) h
  | @ins a C dx fs ea cl ha hn htk hm =>
    cases (show u=Value.ref a from rx);obtain ⟨mA,O,_⟩:=Wy I.hok ea;obtain ⟨od,J,_⟩:=O.look;exact W.kia_one (W.kitx_own (cl.get _) cl.hd ha hn htk hm) I.kIn J e (fun z=>nomatch z) h
end
structure Room (k:Nat) (A:Around):Prop where
 hd:A.handled=none
 dp:A.depth+3 * k+5 < recursionLimit
 un:A.units+16 * k+200 < cLine
 gd:A.guards=some []
theorem Room.mono {j k:Nat} {A:Around} (r:Room k A) (h:j<=k):Room j A:=⟨r.hd,by have:=r.dp;omega,by have:=r.un;omega,r.gd⟩
theorem Room.deeper {k:Nat} {A:Around} (r:Room (k+1) A) (env:Env):Room k (A.deeper env):=
 ⟨r.hd,by have:=r.dp;show A.depth+1+3 * k+5 < _;omega,by have:=r.un;show A.units+3+16 * k+200 < _;omega,r.gd⟩
theorem Room.depth {k:Nat} {A:Around} (r:Room k A):A.depth < recursionLimit:=by have:=r.dp;omega
theorem Room.units {k:Nat} {A:Around} (r:Room k A):A.units+64 < cLine:=by have:=r.un;omega
abbrev Vk:TA:=fun _ H Q=>Q [] H
abbrev YJ (ta:TE) (tr:TA):TA:=fun σ H Q=>ta σ H fun x H1=>tr σ H1 fun xs H2=>Q (x::xs) H2
section
variable {X:Cx} {e:Expr} {es:List Expr} {te:TE} {t:TA} {pos:Pos}
theorem MR:PA X [] Vk:=fun _ _ _ _ H Q I h=>Calls.spliced_nil ⟨[],H,I,.nil,h⟩
theorem Dn (ha:PE X e te) (hr:PA X es t) (hs:starEach (e::es) X.env=(false,eval e X.env)::starEach es X.env:=by rfl):PA X (e::es) (YJ te t):=by
 intro pos pins s σ H Q I h;rw [hs];show wpAny _ _ (spliced ((false,eval e X.env)::backTo pos (starEach es X.env))) _ _ s;refine Calls.spliced_cons (Ak (ha pins s σ H _ I h) fun u s1 ⟨x,H1,I1,r1,q1⟩=>?_);exact Ak (hr pos pins s1 σ H1 _ I1 q1) fun us s2 ⟨xs,H2,I2,r2,q2⟩=>⟨x::xs,H2,I2,.cons r1 r2,q2⟩
abbrev ic (t:TA):TE:=fun σ H Q=>t σ H fun xs H1=>xs.length<=sizeLine/\∀ p,H1 p=none->Q (.ref p) (upd H1 p (.tup xs))
abbrev ik (t:TA):TE:=fun σ H Q=>t σ H fun xs H1=>xs.length<=sizeLine/\∀ p,H1 p=none->Q (.ref p) (upd H1 p (.lst xs))
theorem aS {x1} (h:PA X es t):PE X (.Tuple es x1 pos) (ic t):=by
 intro pins s σ H Q I hq;refine wpAny_Tuple_spliced (Ak (h pos pins s σ H _ I hq) fun us s1 ⟨xs,H1,I1,r,z,q⟩=>⟨by rw [<- r.length];exact z,?_⟩);have hf:H1 s1.heap.objs.size=none:=I1.hok.fresh (lJ _);refine ⟨.ref s1.heap.objs.size,upd H1 s1.heap.objs.size (.tup xs),I1.laid (t':=s1.toks) (fun b u e=>lC _ e) (lJ _) ?_,rfl,q _ hf⟩;exact ⟨z,us,r,⟨_,lT _ rfl,rfl,rfl,_,rfl⟩⟩
theorem aX (h:PA X es t):PE X (.List es pos) (ik t):=by
 intro pins s σ H Q I hq;refine wpAny_List_spliced (Ak (h pos pins s σ H _ I hq) fun us s1 ⟨xs,H1,I1,r,z,q⟩=>⟨by rw [<- r.length];exact z,?_⟩);have hf:H1 s1.heap.objs.size=none:=I1.hok.fresh (lJ _);refine ⟨.ref s1.heap.objs.size,upd H1 s1.heap.objs.size (.lst xs),I1.laid (t':=s1.toks) (fun b u e=>lC _ e) (lJ _) ?_,rfl,q _ hf⟩;exact ⟨z,us,0,r,lT _ rfl⟩
end
abbrev Sp:=List V->Hp->VK->XK->Prop
abbrev VX:=List Env->Hp->Shared->XK->Value->Shared->Prop
structure Env0 (P:Program) (w:World) (K:W.Frag) (mg:Str->Option Value) (base:Heap) (A:Around) (outer:List Env) (s:Shared) (H:Hp):Prop where
 frames:A.frames=some outer
 mod:Mod K mg base
 bs:∀ b o,base.get? b=some o->s.heap.get? b=some o/\H b=none
 bsz:base.objs.size<=s.heap.objs.size
 funs:s.heap.FunFrames base outer
 frf:∀ b∈OV outer,H b=none
 hok:EY P w H s.heap
 bare:AllBare s.gens
def CE (outer:List Env) (P:Program) (w:World) (H:Hp) (s:Shared) (Q:VK) (u:Value) (s':Shared):Prop:=
 ∃ v H',s'.os=s.os/\AllBare s'.gens/\Un (OV outer) [] H H' s.heap s'.heap/\EY P w H' s'.heap/\RelV v u/\Q v H'
def CR (CX:VX) (outer:List Env) (P:Program) (w:World) (H:Hp) (s:Shared) (Q:VK) (E:XK) (r:Result) (s':Shared):Prop:=
 match r with
 | .ok (.ret u)=>CE outer P w H s Q u s'
 | .ok _=>False
 | .error e=>CX outer H s E e s'
structure FnOk (P:Program) (w:World) (K:W.Frag) (mg:Str->Option Value) (base:Heap) (CX:VX) (k:Nat) (f:Addr) (fd:FuncData) (ps:List Str) (sp:Sp):Prop where
 len:∀ vs H Q E,sp vs H Q E->vs.length=ps.length
 run:∀ (A:Around) (outer:List Env) (s:Shared) (H:Hp) (args:Args) (us:List Value) (vs:List V) (Q:VK) (E:XK),Room k A->Env0 P w K mg base A outer s H->BindsTo s fd args (ps.zip us)->AE vs us->sp vs H Q E ->
  codeAny (model P w) A (.call (.ref f) args) (CR CX outer P w H s Q E) s
theorem FnOk.imp {P:Program} {w:World} {K:W.Frag} {mg:Str->Option Value} {base:Heap} {CX:VX} {k:Nat} {f:Addr} {fd:FuncData} {ps:List Str} {sp sp':Sp} (F:FnOk P w K mg base CX k f fd ps sp)
    (h:∀ vs H Q E,sp' vs H Q E->sp vs H Q E):FnOk P w K mg base CX k f fd ps sp':=
  ⟨fun vs H Q E q=>F.len vs H Q E (h _ _ _ _ q),fun A outer s H args us vs Q E hr he hb hv hs=>F.run A outer s H args us vs Q E hr he hb hv (h _ _ _ _ hs)⟩
section
variable {X:Cx} {pins:List (Addr×Obj)} {σ:St} {H:Hp} {s s':Shared}
theorem Inv.env0 (I:Inv X pins σ H s):Env0 X.prog X.w X.K X.mg X.base X.A X.stack s H:=
 ⟨I.ok.frames,I.ok.mod,I.bs,lR I.ok.bsz I.sz,I.stack,I.stkFree,I.hok,I.bare⟩
theorem Inv.after {Q:VK} {u:Value} (I:Inv X pins σ H s) (h:CE X.stack X.prog X.w H s Q u s'):EP X pins σ Q u s':=by
 obtain ⟨v,H',os,bare,un,hok,r,q⟩:=h;obtain ⟨hh,g,d,t,os'⟩:=s';obtain rfl:os'=s.os:=os;exact ⟨v,H',I.call (h':=hh) (g':=g) (d':=d) (t':=t) (ch:=[]) un hok bare (fun b z=>absurd z (by simp)),r,q⟩
end
abbrev YK (sp:Sp) (dvs:List V) (E:XK) (t:TA):TE:=fun σ H Q=>t σ H fun vs H1=>sp (vs++dvs) H1 Q E
def Binds (K:W.Frag) (fd:FuncData) (ps:List Str) (ds:List Value):Prop:=
 ∀ (s:Shared) (us:List Value),K.In s.heap->(us++ds).length=ps.length->BindsTo s fd ⟨us,[]⟩ (ps.zip (us++ds))
theorem Binds.all {K:W.Frag} {fd:FuncData} {ps:List Str} (h:∀ us:List Value,us.length=ps.length->bindArgs fd ⟨us,[]⟩=pure (ps.zip us)):Binds K fd ps []:=fun s us _ hl=>by
 rw [mU] at hl ⊢;exact .of_eq (h us hl)
def KF (CX:VX) (X:Cx) (E:XK):Prop:=∀ (pins:List (Addr×Obj)) (σ:St) (H:Hp) (s:Shared) (e:Value) (s':Shared),Inv X pins σ H s->CX X.stack H s E e s'->X.xe e s'
section
variable {X:Cx} {CX:VX} {k:Nat} {f C:Addr} {fd:FuncData} {ps:List Str} {sp:Sp} {dvs:List V} {ds:List Value} {E:XK} {x m:Str} {p pos apos:Pos} {e o:Expr} {es:List Expr} {ta:TE} {t:TA}
theorem SJ {pins:List (Addr×Obj)} {σ:St} {H:Hp} {s:Shared} {Q:VK} {us:List Value} {vs:List V} (F:FnOk X.prog X.w X.K X.mg X.base CX k f fd ps sp) (hr:Room k X.A) (hb:Binds X.K fd ps ds) (hd:AE dvs ds) (hx:KF CX X E)
    (I:Inv X pins σ H s) (r:AE vs us) (h:sp (vs++dvs) H Q E):wpAny (model X.prog X.w) X.A (call (.ref f) us) (EP X pins σ Q) X.xe s:=by
  have r2:AE (vs++dvs) (us++ds):=r.append hd;have hl:(us++ds).length=ps.length:=by rw [<- r2.length];exact F.len _ _ _ _ h
  refine wpAny_call (codeAny_mono (F.run X.A X.stack s H ⟨us,[]⟩ (us++ds) (vs++dvs) Q E hr I.env0 (hb s us I.kIn hl) r2 h) fun r s' hq=>?_);cases r with
  | error e=>exact hx pins σ H s e s' I hq
  | ok fl =>
    cases fl with
    | ret u=>exact I.after hq
    | next=>exact False.elim hq
    | brk=>exact False.elim hq
    | cont=>exact False.elim hq
theorem Wa (F:FnOk X.prog X.w X.K X.mg X.base CX k f fd ps sp) (hr:Room k X.A) (hg:Gl X x) (hm:X.mg x=some (.ref f)) (hk:W.keepIn X.K (.ref f)=true) (hb:Binds X.K fd ps ds) (hd:AE dvs ds) (hx:KF CX X E)
    (ha:PA X (e::es) t) (hdb:(x == ("__debug__" : Str))=false:=by decide) (he:starEach (e::es) X.env=(false,eval e X.env)::starEach es X.env:=by rfl) (hpl:(backTo pos (starEach es X.env)).any (·.1)=false:=by rfl) :
    PE X (.Call (.Name x p) (e::es) [] pos) (YK sp dvs E t):=by
  intro pins s σ H Q I h;refine wpAny_Call_Name_kw (Jb I hg hm ?_ hdb);refine W.callWith_K (h₀:=X.base) I.ok.mod.kin hk (Ak (ha pos pins s σ H _ I h) fun us s1 ⟨vs,H1,I1,r,q⟩=>⟨I1.kIn,?_⟩) he hpl;exact SJ F hr hb hd hx I1 r q
theorem Sr (F:FnOk X.prog X.w X.K X.mg X.base CX k f fd ps sp) (hr:Room k X.A) (hg:Gl X x) (hm:X.mg x=some (.ref f)) (hk:W.keepIn X.K (.ref f)=true) (hb:Binds X.K fd ps ds) (hd:AE dvs ds) (hx:KF CX X E)
    (hdb:(x == ("__debug__" : Str))=false:=by decide):PE X (.Call (.Name x p) [] [] pos) (YK sp dvs E Vk):=by
  intro pins s σ H Q I h;refine wpAny_Call_Name_kw (Jb I hg hm ?_ hdb);exact W.callWith_K0 I.kIn hk (SJ (us:=[]) F hr hb hd hx I .nil h)
end
section
end
structure FnScope (N P:List Str) (sc:Scope):Prop where
 kind:sc.kind=.function
 co:sc.isCoroutine=false
 gen:sc.isGenerator=false
 nd:N.Nodup
 pre:N.take P.length=P
 par:∀ x∈P,sc.names.lookup x=some .local\/sc.names.lookup x=some .cell
 nofree:∀ y∈sc.names,y.2≠.free
theorem Iw {kindOf:Str->Option NameKind} {x:Str}:∀ {binds:List (Str×Value)} {m:Str->Option Value},(∀ v,(x,v)∉binds)->bindL kindOf binds m x=m x
 | [],_,_=>rfl
 | (n,v)::r,m,h=>by
  unfold bindL;rw [Iw fun w hw=>h w (lG _ hw)];split
  ·have:x≠n:=by rintro rfl;exact h v lE
   simp [this]
  ·rfl
theorem Iz {kindOf:Str->Option NameKind} {x:Str}:∀ {binds:List (Str×Value)} {m:Str->Option Value},(∀ v,(x,v)∉binds)->bindC kindOf binds m x=m x
 | [],_,_=>rfl
 | (n,v)::r,m,h=>by
  unfold bindC;rw [Iz fun w hw=>h w (lG _ hw)];split
  ·rfl
  ·have:x≠n:=by rintro rfl;exact h v lE
   simp [this]
theorem Iy {kindOf:Str->Option NameKind} {x:Str} {v:Value}:∀ {P:List Str} {vs:List Value} {i:Nat} {m:Str->Option Value},P.Nodup->P[i]?=some x->vs[i]?=some v->kindOf x=some .local ->
    bindL kindOf (P.zip vs) m x=some v
  | [],_,_,_,_,h,_,_=>by simp at h
  | _::_,[],_,_,_,_,h,_=>by simp at h
  | p::P,w::vs,0,m,nd,h1,h2,hk=>by
    simp at h1 h2;subst h1;subst h2;show bindL kindOf ((p,w)::P.zip vs) m p=_;unfold bindL;rw [Iw fun v hv=>(nG.mp nd).1 (oI hv).1,if_pos hk];simp
  | p::P,w::vs,i+1,m,nd,h1,h2,hk=>by
    show bindL kindOf ((p,w)::P.zip vs) m x=_;unfold bindL;exact Iy (i:=i) (nG.mp nd).2 (by simpa using h1) (by simpa using h2) hk
theorem JA {kindOf:Str->Option NameKind} {x:Str} {v:Value}:∀ {P:List Str} {vs:List Value} {i:Nat} {m:Str->Option Value},P.Nodup->P[i]?=some x->vs[i]?=some v->kindOf x≠some .local ->
    bindC kindOf (P.zip vs) m x=some v
  | [],_,_,_,_,h,_,_=>by simp at h
  | _::_,[],_,_,_,_,h,_=>by simp at h
  | p::P,w::vs,0,m,nd,h1,h2,hk=>by
    simp at h1 h2;subst h1;subst h2;show bindC kindOf ((p,w)::P.zip vs) m p=_;unfold bindC;rw [Iz fun v hv=>(nG.mp nd).1 (oI hv).1,if_neg hk];simp
  | p::P,w::vs,i+1,m,nd,h1,h2,hk=>by
    show bindC kindOf ((p,w)::P.zip vs) m x=_;unfold bindC;exact JA (i:=i) (nG.mp nd).2 (by simpa using h1) (by simpa using h2) hk
def start (N:List Str) (vs:List V):St:=vs.map some++List.replicate (N.length - vs.length) none
def LY (CX:VX) (P:Program) (w:World) (K:W.Frag) (mg:Str->Option Value) (base:Heap) (N:List Str) (qual:Str) (scope:Scope) (f:Addr) (cd:Value) (A:Around) (outer:List Env) (s:Shared) (H:Hp) (E:XK):Cx where
 prog:=P
 w:=w
 K:=K
 mg:=mg
 base:=base
 A:=A.deeper (envOfC qual scope s.heap.objs.size f cd)
 N:=N
 s₀:=s
 H₀:=H
 env:=envOfC qual scope s.heap.objs.size f cd
 outer:=outer
 stack:=envOfC qual scope s.heap.objs.size f cd::outer
 ex:=[]
 calm:=true
 fn:=fun _=>true
 pn:=[]
 xe:=fun e s'=>wpAny (model P w) (A.deeper (envOfC qual scope s.heap.objs.size f cd)) (leaving (envOfC qual scope s.heap.objs.size f cd) e) (fun _ s''=>CX outer H s E e s'') (fun e' s''=>CX outer H s E e' s'') s'
theorem La {sc:Scope} {n:Nat} {x:Str} (h:sc.names.lookup x=some .cell):∃ c,(cellsFrom n sc.names []).lookup x=some c:=by
 have q:=W.cellsFrom_some sc.names n [] (.inl h);exact mw.mp q
theorem QJ {CX:VX} {P:Program} {w:World} {K:W.Frag} {mg:Str->Option Value} {base:Heap} {N ps:List Str} {qual:Str} {scope:Scope} {f:Addr} {cd:Value} {A:Around} {outer:List Env} {s s1:Shared} {H:Hp} {E:XK} {us:List Value} {vs:List V}
    (S:FnScope N ps scope) (hd:A.handled=none) (e0:Env0 P w K mg base A outer s H) (hl:vs.length=ps.length) (r:AE vs us)
    (x:InCallC s s.heap.objs.size (bindL (envOfC qual scope s.heap.objs.size f cd).kindOf (ps.zip us) fun _=>none) (cellsFrom (s.heap.objs.size+1) scope.names []) (bindC (envOfC qual scope s.heap.objs.size f cd).kindOf (ps.zip us) fun _=>none) s1) :
    Inv (LY CX P w K mg base N qual scope f cd A outer s H E) [] (start N vs) H s1:=by
  have hpl:ps.length<=N.length:=by have:=congrArg List.length S.pre;rw [mm] at this;omega
  obtain ⟨h1,tk,rfl,hk⟩:=x.done;have noA:∀ b:Addr,b∉(LY CX P w K mg base N qual scope f cd A outer s H E).ex:=fun b z=>absurd (show b∈([]:List Addr) from z) (by simp)
  refine ⟨⟨e0.mod,S.kind,rfl,rfl,lJ _,fun y z c h1 h2=>?_,fun y hy=>?_,fun y c _ h=>?_,fun _=>hd,Around.frames_deeper e0.frames,.inr ⟨rfl,rfl⟩,fun b z=>absurd z (noA b),e0.bs,e0.bsz,fun b _ _=>noA b,fun b z=>absurd z (noA b),e0.funs,e0.frf⟩,
    rfl,e0.bare,Un.kept hk,⟨_,x.toInCall.ns,fun i y v h1 h2 h3=>?_⟩,fun y c h=>⟨_,x.cell y c h⟩,e0.hok.fresh (lJ _),fun y c h=>?_,fun p hp=>absurd (show p∈([]:List (Addr×Obj)) from hp) (by simp),e0.hok.kept hk,?_⟩
  · exact name_of_addr x.apart (mC h1) (mC h2)
  · have hy:scope.names.lookup y=some .cell\/scope.names.lookup y=some .free:=hy;rcases hy with hy | hy
    · exact La hy
    · exact absurd rfl (S.nofree _ (mC hy))
  · exact Nat.le_of_lt (x.above y c (mC h))
  · have hi:i < vs.length:=by
      unfold start at h2
      by_cases hi:i < vs.length
      · exact hi
      · rw [lg (by simpa using hi)] at h2;rw [oS] at h2;split at h2<;>cases h2
    have ha:vs[i]?=some v:=by
      unfold start at h2;rw [lL (by simpa using hi),lP] at h2;cases e:vs[i]? with
      | none=>rw [e] at h2;cases h2
      | some a=>rw [e] at h2;cases h2;rfl
    obtain ⟨u,hu,rv⟩:=r.get ha;have hp:ps[i]?=some y:=by
      rw [<- S.pre,oR (by omega)];exact h1
    have ndP:ps.Nodup:=by rw [<- S.pre];exact S.nd.sublist (List.take_sublist _ _)
    refine ⟨u,rv,?_⟩;rcases S.par y (mQ hp) with k | k
    · exact .inl ⟨k,Iy ndP hp hu k⟩
    · obtain ⟨c,e⟩:=La (n:=s.heap.objs.size+1) k;refine .inr ⟨.inl k,c,e,?_⟩;have q:=x.cell y c e;rw [JA ndP hp hu (by show scope.names.lookup y≠_;rw [k];decide)] at q;exact q
  · exact e0.hok.fresh (Nat.le_of_lt (x.above y c (mC h)))
  · unfold start;show _=N.length;rw [la,lZ,List.length_replicate];omega
theorem fn_of {CX:VX} {P:Program} {w:World} {K:W.Frag} {mg:Str->Option Value} {base:Heap} {k:Nat} {f:Addr} {name qual:Str} {params:Arguments} {body:List Stmt} {scope:Scope} {dV kV doc pm cdv ct oc:Value} {an od:Option Addr}
    {osl:Array (Option Value)} {N ps:List Str} {sp:Sp} (lk:K.lookup f=some ⟨oc,od,.func (W.fnOf name qual params body scope dV kV doc pm an cdv ct),osl⟩) (hcd:W.codeIn K cdv qual=true) (S:FnScope N ps scope)
    (len:∀ vs H Q E,sp vs H Q E->vs.length=ps.length)
    (hbody:∀ (A:Around) (outer:List Env) (s:Shared) (H:Hp) (vs:List V) (Q:VK) (E:XK),Room k (A.deeper (envOfC qual scope s.heap.objs.size f cdv))->sp vs H Q E ->
      ∃ t,Cu (LY CX P w K mg base N qual scope f cdv A outer s H E) body t/\t { nx:=fun _ H'=>Q .non H',rt:=Q } (start N vs) H) :
    FnOk P w K mg base CX (k+1) f (W.fnOf name qual params body scope dV kV doc pm an cdv ct) ps sp:=by
  refine ⟨len,fun A outer s H args us vs Q E hr e0 hb r hsp=>?_⟩;have hl:=len _ _ _ _ hsp;have KX:K.In s.heap:=e0.mod.kin.keeps fun b o e=>(e0.bs b o e).1
  have lim:s.heap.NoLimit:=e0.mod.nolimit.keeps fun b o e=>(e0.bs b o e).1
  have hkind:∀ y∈ps.zip us,scope.names.lookup y.1=some .local\/(scope.names.lookup y.1=some .cell/\((cellsFrom (s.heap.objs.size+1) scope.names []).lookup y.1).isSome=true):=fun ⟨n,v⟩ hy=>by
    rcases S.par n (oI hy).1 with q | q
    · exact .inl q
    · exact .inr ⟨q,W.cellsFrom_some _ _ _ (.inl q)⟩
  refine codeAny_call_function hr.depth (KX _ _ lk) rfl S.co S.gen rfl (W.codeRec_of KX hcd) (hb _ _ _ _ ?_);refine wpAny_newFunctionEnv_cells S.kind hkind fun env he s1 x=>?_
  subst he;refine ⟨lim.keeps x.toInCall.keep,codeAny_func ?_⟩;obtain ⟨t,ht,hq⟩:=hbody A outer s H vs Q E (hr.deeper _) hsp;have I:Inv (LY CX P w K mg base N qual scope f cdv A outer s H E) [] (start N vs) H s1:=QJ S hr.hd e0 hl r x;refine wpAny_mono (ht [] s1 (start N vs) H _ I hq) (fun fl s' hs=>?_) fun e s' hs=>hs
  have fin:∀ {σ':St} {H':Hp} {v:V} {u:Value},Inv (LY CX P w K mg base N qual scope f cdv A outer s H E) [] σ' H' s'->RelV v u->Q v H'->CE outer P w H s Q u s':=
    fun {σ' H' v u} J rv q=>⟨v,H',J.os,J.bare,J.base,J.hok,rv,q⟩
  cases fl with
  | ret u =>
    obtain ⟨v,σ',H',J,rv,q⟩:=hs;exact fin J rv q
  | next =>
    obtain ⟨σ',H',J,q⟩:=hs;exact fin (v:=V.non) (u:=Value.none) J rfl q
  | brk =>
    obtain ⟨_,_,_,q⟩:=hs;exact False.elim q
  | cont =>
    obtain ⟨_,_,_,q⟩:=hs;exact False.elim q
section
variable {X:Cx} {x:Str} {p pos:Pos} {e:Expr} {es:List Expr} {t:TA} {id T:String} {r:List V->Hp->VK->Prop}
abbrev kK (r:List V->Hp->VK->Prop) (t:TA):TE:=fun σ H Q=>t σ H fun vs H1=>r vs H1 Q
theorem Sq (hc:BC X (.builtin id) r) (hg:Gl X x) (hm:X.mg x=none) (hv:bootBuiltins x=some (.builtin id)) (ha:PA X (e::es) t) (hn:x ≠ "__name__" := by decide) (hdb:(x == ("__debug__" : Str))=false:=by decide)
    (he:starEach (e::es) X.env=(false,eval e X.env)::starEach es X.env:=by rfl) (hpl:(backTo pos (starEach es X.env)).any (·.1)=false:=by rfl):PE X (.Call (.Name x p) (e::es) [] pos) (kK r t):=by
  intro pins s σ H Q I h;refine wpAny_Call_Name_kw (Bi I hg hm hv ?_ hn hdb);exact PyProof.Rows.callWith_builtin1 (Ak (ha pos pins s σ H _ I h) fun us s1 ⟨vs,H1,I1,r1,q1⟩=>hc pins s1 σ H1 vs us Q I1 r1 q1) he hpl
theorem Pf (hc:BC X (.type T) r) (hg:Gl X x) (hm:X.mg x=none) (hv:bootBuiltins x=some (.type T)) (ha:PA X (e::es) t) (hn:x ≠ "__name__" := by decide) (hdb:(x == ("__debug__" : Str))=false:=by decide)
    (he:starEach (e::es) X.env=(false,eval e X.env)::starEach es X.env:=by rfl) (hpl:(backTo pos (starEach es X.env)).any (·.1)=false:=by rfl):PE X (.Call (.Name x p) (e::es) [] pos) (kK r t):=by
  intro pins s σ H Q I h;refine wpAny_Call_Name_kw (Bi I hg hm hv ?_ hn hdb);exact mD (Ak (ha pos pins s σ H _ I h) fun us s1 ⟨vs,H1,I1,r1,q1⟩=>hc pins s1 σ H1 vs us Q I1 r1 q1) he hpl
end
end L2
namespace HT
open PySem PyProof.Rows
section
open PySem.SeqAt
open PySem.AutoSeq1 (wpAny_loadPart')
open PySem.MeetsSeq PySem.MeetsSeq2 PySem.MeetsSeq3
end
section
variable {prog:Program} {w:World} {A:Around} {E:Value->Shared->Prop} {s:Shared}
theorem cat_tup {t b:Addr} {vs ws:List Value} {Q:Value->Shared->Prop} (ht:IsTup s.heap t vs.toArray) (hb:IsTup s.heap b ws.toArray) (hv:vs≠[])
    (h1:ws=[]->Q (.ref t) s) (h2:ws≠[]->Q (.ref s.heap.objs.size) { s with heap:=s.heap.push { cls:=.type "tuple", data:=.seq (vs++ws).toArray } })
    (hsz:vs.length+ws.length<=sizeLine):wpAny (model prog w) A (binaryOp .Add (.ref t) (.ref b)) Q E s:=by
  obtain ⟨⟨cls,dd,data,sl⟩,ho,hc,n,hd⟩:=id ht;obtain ⟨⟨cls2,dd2,data2,sl2⟩,ho2,hc2,n2,hd2⟩:=id hb;simp only at hc hd hc2 hd2;subst hc hd hc2 hd2;have e:vs.toArray++ws.toArray=(vs++ws).toArray:=by simp
  by_cases hw:ws=[]
  · exact concat_meets ⟨_,ho,rfl⟩ ⟨_,ho2,rfl⟩ noFill_tuple_add seq_tuple_add PySem.F.slot_tuple_add PySem.F.entry_tuple_add (PySem.F.args_tuple_add_2 _ _)
      (tuple_addW1 t b vs.toArray ws.toArray n n2 dd dd2 sl sl2 (by simpa using hv) (by simp [hw])) ⟨ho,ho2,h1 hw⟩
  · refine concat_meets ⟨_,ho,rfl⟩ ⟨_,ho2,rfl⟩ noFill_tuple_add seq_tuple_add PySem.F.slot_tuple_add PySem.F.entry_tuple_add (PySem.F.args_tuple_add_2 _ _)
      (tuple_addW2 t b vs.toArray ws.toArray n n2 dd dd2 sl sl2 (by simpa using hv) (by simpa using hw) (by rw [lF,lF];exact hsz)) ⟨ho,ho2,?_⟩
    rw [e];exact h2 hw
noncomputable def sIx (n d:Nat):Option Int->Nat
 | none=>d
 | some v=>if v < 0 then (v+(n:Int)).toNat else min v.toNat n
theorem sIx_le (n d:Nat) (hd:d<=n) (o:Option Int):sIx n d o<=n:=by
 cases o with
 | none=>exact hd
 | some v =>
  show (if v < 0 then (v+(n:Int)).toNat else min v.toNat n)<=n
  by_cases hv:v < 0
  ·rw [if_pos hv];omega
  ·rw [if_neg hv];exact Nat.min_le_right _ _
theorem Oi (v:Int) (n d:Nat):(if v < 0 then max (v+(n:Int)) 0 else min v (n:Int))=((sIx n d (some v):Nat):Int):=by
 show (if v < 0 then max (v+(n:Int)) 0 else min v (n:Int))=(((if v < 0 then (v+(n:Int)).toNat else min v.toNat n):Nat):Int)
 by_cases hv:v < 0
 ·simp only [if_pos hv];omega
 ·simp only [if_neg hv];omega
theorem NR (lo hi:Option Int) (n:Nat):Builtin.Slice.sliceAdjust lo hi 1 (n:Int)=(((sIx n 0 lo:Nat):Int),((sIx n n hi:Nat):Int)):=by
 have h1:¬ ((1:Int) < 0):=by omega
 unfold Builtin.Slice.sliceAdjust;simp only [h1,if_false];refine Prod.ext ?_ ?_
 ·cases lo with
  | none=>rfl
  | some v=>exact Oi v n 0
 ·cases hi with
  | none=>rfl
  | some v=>exact Oi v n n
theorem MO (i j:Nat):Builtin.Slice.slicePlaces (i:Int) (j:Int) 1=j - i:=by
 unfold Builtin.Slice.slicePlaces;have h1:(1:Int) > 0:=by omega
 simp only [h1,if_true,Int.ediv_one];split<;>omega
theorem EF {v:Value} {o:Option Int} {Q:Option Int->Shared->Prop} (p:IsPart v o) (h:Q o s):wpAny (model prog w) A (Builtin.Slice.slicePartIndex v) Q E s:=by
 cases p with
 | none=>exact slicePart_none h
 | int i t=>exact slicePart_int h
theorem sliceApplied_gen {sl:Addr} {vl vu:Value} {lo hi:Option Int} {n:Nat} {Q:Int×Int×Nat->Shared->Prop} (hs:s.heap.IsSliceOf sl vl vu .none) (pl:IsPart vl lo) (pu:IsPart vu hi)
    (h:Q (((sIx n 0 lo:Nat):Int),1,sIx n n hi - sIx n 0 lo) s):wpAny (model prog w) A (Builtin.Slice.sliceApplied (.ref sl) (pure (n:Int))) Q E s:=by
  obtain ⟨os,hos,hcs,hds⟩:=id hs;unfold Builtin.Slice.sliceApplied Builtin.Slice.sliceFields;refine wpAny_bind (wpAny_bind (wpAny_field hos hds (x:=vl) rfl (wpAny_bind (wpAny_field hos hds (x:=vu) rfl (wpAny_bind (wpAny_field hos hds (x:=.none) rfl (wpAny_pure ?_)))))));refine wpAny_bind (slicePart_none ?_);show wpAny _ _ (if ((1:Int) == 0)=true then _ else _) _ _ s;rw [if_neg (by decide)];refine wpAny_bind (EF pl (wpAny_bind (EF pu (wpAny_bind (wpAny_pure ?_)))));show wpAny _ _ (match Builtin.Slice.sliceAdjust lo hi 1 (n:Int) with | (lo,hi)=>pure (lo,(1:Int),Builtin.Slice.slicePlaces lo hi 1)) _ _ s;rw [NR lo hi n];show wpAny _ _ (pure (((sIx n 0 lo:Nat):Int),(1:Int),Builtin.Slice.slicePlaces ((sIx n 0 lo:Nat):Int) ((sIx n n hi:Nat):Int) 1)) _ _ s;rw [MO];exact wpAny_pure h
theorem Si (xs:Array Value) (i k:Nat):((List.range k).filterMap fun (m:Nat)=>xs[((i:Int)+(m:Int) * 1).toNat]?).toArray=((xs.toList.drop i).take k).toArray:=by
 have e:(fun (m:Nat)=>xs[((i:Int)+(m:Int) * 1).toNat]?)=fun m=>xs[i+m]?:=by
  funext m;have:((i:Int)+(m:Int) * 1).toNat=i+m:=by omega
  rw [this]
 rw [e];have:=pick_run xs i k;rw [nu] at this;have e2:((fun x=>xs[x]?)∘fun x=>i+x)=fun m=>xs[i+m]?:=rfl
 rw [e2] at this;rw [this]
theorem getItem_tuple_cut {t sl:Addr} {items:Array Value} {vl vu:Value} {lo hi:Option Int} {Q:Value->Shared->Prop} (ht:IsTup s.heap t items) (hs:s.heap.IsSliceOf sl vl vu .none) (pl:IsPart vl lo) (pu:IsPart vu hi)
    (hw:¬ (sIx items.size 0 lo=0/\sIx items.size items.size hi=items.size))
    (h:Q (.ref s.heap.objs.size) { s with heap:=s.heap.push { cls:=.type "tuple", data:=.seq ((items.toList.drop (sIx items.size 0 lo)).take (sIx items.size items.size hi - sIx items.size 0 lo)).toArray } })
    (hsz:items.size<=sizeLine):wpAny (model prog w) A (getItem (.ref t) (.ref sl)) Q E s:=by
  have htake:sizeOk (.seq ((items.toList.drop (sIx items.size 0 lo)).take (sIx items.size items.size hi - sIx items.size 0 lo)).toArray):=by
    show ((items.toList.drop (sIx items.size 0 lo)).take (sIx items.size items.size hi - sIx items.size 0 lo)).toArray.size<=sizeLine;rw [lF,mm,nR,Array.length_toList];omega
  have hj:sIx items.size items.size hi<=items.size:=sIx_le _ _ (lJ _) hi;obtain ⟨os,hos,hcs,hds⟩:=id hs
  have hTs:s.TypeIs (.ref sl) "slice" := ⟨os,hos,hcs⟩
  unfold getItem
  try with_reducible refine wpAny_holding ?_
  first | refine wpAny_bind (wpAny_pure ?_) | skip
  refine wpAny_bind (wpAny_sequenceKey ht.typeIs (by decide) ?_)
  refine wpAny_bind (wpAny_callSpecial?_slot (name:=Str.ofString "__getitem__") ht.typeIs lz
    (wpAny_call_entry lz ht.typeIs entry_tuple_getitem ?_ (args_tuple_getitem _ _)))
  show wpAny _ _ (Builtin.Tuple.tupleItemsOf (.ref t) >>= _) _ _ s;refine wpAny_bind (tupleItemsOf_ ht ?_);refine wpAny_bind (wpAny_typeOf hTs ?_);rw [if_pos (by decide)];refine wpAny_bind (sliceApplied_gen hs pl pu ?_);have hno:¬ ((((sIx items.size 0 lo:Nat):Int) == 0 && (1:Int) == 1 && (sIx items.size items.size hi - sIx items.size 0 lo) == items.size)=true):=by
    intro q;rw [lB,lB] at q;have q1:((sIx items.size 0 lo:Nat):Int)=0:=eq_of_beq q.1.1;have q2:sIx items.size items.size hi - sIx items.size 0 lo=items.size:=eq_of_beq q.2;exact hw ⟨by omega,by omega⟩
  show wpAny _ _ (if (((sIx items.size 0 lo:Nat):Int) == 0 && (1:Int) == 1 && (sIx items.size items.size hi - sIx items.size 0 lo) == items.size)=true then _ else _) _ _ s;rw [if_neg hno,Si]
  first
    | exact wpAny_bind (m:=Builtin.Tuple.tupleExact _) (wpAny_newObj_type (wpAny_pure ⟨_,rfl,wpAny_pure h⟩) htake)
    | exact wpAny_bind (m:=Builtin.Tuple.tupleExact _) (wpAny_newObj_type (wpAny_bind (wpAny_pure (wpAny_pure ⟨_,rfl,wpAny_pure h⟩))) htake)
    | exact wpAny_bind (wpAny_bind (m:=Builtin.Tuple.tupleExact _) (wpAny_newObj_type (wpAny_pure (wpAny_pure ⟨_,rfl,wpAny_pure h⟩)) htake))
    | exact wpAny_bind (wpAny_bind (m:=Builtin.Tuple.tupleExact _) (wpAny_newObj_type (wpAny_pure ⟨_,rfl,wpAny_pure h⟩) htake))
end
end HT
namespace L2
open PySem PySem.Spec PyProof.Rows
abbrev TO:=St->Hp->(Option Int->Hp->Prop)->Prop
def PO (X:Cx) (e:Option Expr) (t:TO):Prop:=
 ∀ (pins:List (Addr×Obj)) (s:Shared) (σ:St) (H:Hp) (Q:Option Int->Hp->Prop),Inv X pins σ H s->t σ H Q ->
  wpAny (model X.prog X.w) X.A (evalPart e X.env) (fun u s'=>∃ o H',Inv X pins σ H' s'/\IsPart u o/\Q o H') X.xe s
abbrev Vj:TO:=fun _ H Q=>Q none H
abbrev eA (t:TE):TO:=fun σ H Q=>t σ H fun x H1=>∃ i,x=.int i/\Q (some i) H1
theorem Mh {ns:List Int}:∀ {us:List Value},AE (ns.map V.int) us->IntsAre us ns:=by
 induction ns with
 | nil=>intro us r;rw [ma] at r;cases r;exact .nil
 | cons n ns ih =>
  intro us r;rw [lI] at r;cases r with
  | cons r1 r2 =>
   obtain ⟨t,e⟩:=r1;subst e;exact .cons n t (ih r2)
section
variable {X:Cx} {e:Expr} {te:TE} {lo hi:Option Expr} {tl th:TO} {pos p2:Pos}
theorem WR:PO X none Vj:=by
 intro pins s σ H Q I h;rw [evalPart_none];exact wpAny_pure ⟨none,H,I,.none,h⟩
theorem WQ (h:PE X e te):PO X (some e) (eA te):=by
 intro pins s σ H Q I hw;rw [evalPart_some];refine Ak (h pins s σ H _ I hw) fun u s1 ⟨x,H1,I1,r1,q1⟩=>?_
 obtain ⟨i,rfl,q⟩:=q1;obtain ⟨t,rfl⟩:=r1;exact ⟨some i,H1,I1,.int i t,q⟩
def RM (X:Cx) (r:V->Option Int->Option Int->Hp->VK->Prop):Prop:=
 ∀ (pins:List (Addr×Obj)) (s:Shared) (σ:St) (H:Hp) (x:V) (v vl vu:Value) (lo hi:Option Int) (sl:Addr) (Q:VK),Inv X pins σ H s->RelV x v->s.heap.IsSliceOf sl vl vu .none->IsPart vl lo->IsPart vu hi->r x lo hi H Q ->
  ∃ T id,typeLookup (.type T) "__getitem__" = pure (some (.builtin id))/\s.TypeIs v T/\wpAny (model X.prog X.w) X.A (getItem v (.ref sl)) (EP X pins σ Q) X.xe s
theorem RM.or {r r':V->Option Int->Option Int->Hp->VK->Prop} (h:RM X r) (h':RM X r'):RM X (fun x lo hi H Q=>r x lo hi H Q\/r' x lo hi H Q):=by
 intro pins s σ H x v vl vu lo hi sl Q I rx hs pl pu q;rcases q with q | q
 ·exact h pins s σ H x v vl vu lo hi sl Q I rx hs pl pu q
 ·exact h' pins s σ H x v vl vu lo hi sl Q I rx hs pl pu q
abbrev kF (r:V->Option Int->Option Int->Hp->VK->Prop) (te:TE) (tl th:TO):TE:=fun σ H Q=>te σ H fun x H1=>tl σ H1 fun l H2=>th σ H2 fun u H3=>r x l u H3 Q
theorem Sl {r:V->Option Int->Option Int->Hp->VK->Prop} (hr:RM X r) (he:PE X e te) (hl:PO X lo tl) (hu:PO X hi th):PE X (.Subscript e (.Slice lo hi none p2) pos) (kF r te tl th):=by
 intro pins s σ H Q I h;refine Subscript_ (Ak (he pins s σ H _ I h) fun v s1 ⟨x,H1,I1,r1,q1⟩=>?_);refine wpAny_Slice (Ak (hl pins s1 σ H1 _ I1 q1) fun vl s2 ⟨l,H2,I2,pl,q2⟩=>Ak (hu pins s2 σ H2 _ I2 q2) fun vu s3 ⟨u,H3,I3,pu,q3⟩=>?_);rw [evalPart_none];refine wpAny_pure ?_
 have I4:Inv X pins σ H3 { s3 with heap:=s3.heap.push { cls:=.type "slice", data:=.fields #[vl,vu,.none] } }:=I3.kept (t':=s3.toks) fun b ob q=>lC _ q
 obtain ⟨T,id,hT,ht,hg⟩:=hr pins { s3 with heap:=s3.heap.push { cls:=.type "slice", data:=.fields #[vl,vu,.none] } } σ H3 x v vl vu l u s3.heap.objs.size Q I4 r1 (Heap.IsSliceOf.new ..) pl pu q3
 show wpAny (model X.prog X.w) X.A (subscriptTail e (.Slice lo hi none p2) v (.ref s3.heap.objs.size)) (EP X pins σ Q) X.xe { s3 with heap:=s3.heap.push { cls:=.type "slice", data:=.fields #[vl,vu,.none] } }
 exact tail_any (ops:=[.ref s3.heap.objs.size,v]) ht hT hg (by with_unfolding_all rfl)
def Ex (xs:List V) (lo hi:Option Int):List V:=(xs.drop (HT.sIx xs.length 0 lo)).take (HT.sIx xs.length xs.length hi - HT.sIx xs.length 0 lo)
theorem GL (xs:List V) (lo hi:Option Int):(Ex xs lo hi).length<=xs.length:=by
 unfold Ex;rw [mm,nR];omega
def fD (K:W.Frag):V->Option Int->Option Int->Hp->VK->Prop:=fun x lo hi H Q=>∃ a xs,x=.ref a/\EC K H a xs /\
 ¬ (HT.sIx xs.length 0 lo=0/\HT.sIx xs.length xs.length hi=xs.length)/\∀ p,H p=none->Q (.ref p) (upd H p (.tup (Ex xs lo hi)))
theorem Zf:RM X (fD X.K):=by
 intro pins s σ H x v vl vu lo hi sl Q I rx hs pl pu h;obtain ⟨a,xs,rfl,hx,hw,q⟩:=h;cases rx;obtain ⟨its,r,ht,hz⟩:=I.tuple hx;have hlen:its.toArray.size=xs.length:=by rw [lF];exact r.length.symm
 refine ⟨"tuple", _,lz.lookup,ht.typeIs,?_⟩
 refine HT.getItem_tuple_cut ht hs pl pu (by rw [hlen];exact hw) ?_ (by rw [hlen];exact hz);rw [hlen];refine ⟨.ref s.heap.objs.size,_,I.laid (t':=s.toks) (o:=.tup (Ex xs lo hi)) (fun b ob q=>lC _ q) (lJ _) ?_,rfl,q _ (I.hok.fresh (lJ _))⟩;exact ⟨lR (GL xs lo hi) hz,_,(r.drop (HT.sIx xs.length 0 lo)).take (HT.sIx xs.length xs.length hi - HT.sIx xs.length 0 lo),GS.new _ _⟩
def YX (K:W.Frag):R2:=fun x y H Q=>∃ a b xs ys,x=.ref a/\y=.ref b/\EC K H a xs/\EC K H b ys/\xs≠[]/\xs.length+ys.length<=sizeLine /\
 (ys=[]->Q (.ref a) H)/\(ys≠[]->∀ p,H p=none->Q (.ref p) (upd H p (.tup (xs++ys))))
theorem AE.nil_iff {xs:List V} {us:List Value} (r:AE xs us):us=[]↔xs=[]:=by
 cases r with
 | nil=>simp
 | cons _ _=>simp
theorem Wg:Bv X (binaryOp .Add) (YX X.K):=by
 intro pins s σ H x y v u Q I rx ry h;obtain ⟨a,b,xs,ys,rfl,rfl,ha,hb,hx,hz,q1,q2⟩:=h;cases rx;cases ry;obtain ⟨its,r1,p1,_⟩:=I.tuple ha;obtain ⟨its2,r2,p2,_⟩:=I.tuple hb;refine HT.cat_tup p1 p2 (fun z=>hx (r1.nil_iff.mp z)) (fun z=>⟨.ref a,H,I,rfl,q1 (r2.nil_iff.mp z)⟩) (fun z=>?_) (by rw [<- r1.length,<- r2.length];exact hz);refine ⟨.ref s.heap.objs.size,_,I.laid (t':=s.toks) (o:=.tup (xs++ys)) (fun b ob q=>lC _ q) (lJ _) ?_,rfl,q2 (fun w=>z (r2.nil_iff.mpr w)) _ (I.hok.fresh (lJ _))⟩;exact ⟨by rw [la];exact hz,_,r1.append r2,GS.new _ _⟩
end
noncomputable def Me (n:Nat) (i:Int):Option Nat:=if 0<=i then (if i < n then some i.toNat else none) else if -(n:Int)<=i then some (i+n).toNat else none
def DQ {α:Type} (xs:List α) (i:Int):Option α:=(Me xs.length i).bind fun j=>xs[j]?
theorem OP {n:Nat} {i:Int} {j:Nat} (h:Me n i=some j):seqIndex? i n=some j/\j < n/\-(n:Int)<=i/\i < n:=by
 unfold Me at h
 by_cases h0:0<=i
 ·rw [if_pos h0] at h
  by_cases h1:i < n
  ·rw [if_pos h1] at h;have e:i.toNat=j:=Option.some.inj h;exact ⟨by rw [seqIndex_of h0 h1,e],by omega,by omega,h1⟩
  ·rw [if_neg h1] at h;cases h
 ·rw [if_neg h0] at h
  by_cases h1:-(n:Int)<=i
  ·rw [if_pos h1] at h;have e:(i+n).toNat=j:=Option.some.inj h;exact ⟨by rw [seqIndex_neg (by omega) h1,e],by omega,h1,by omega⟩
  ·rw [if_neg h1] at h;cases h
theorem Jz {α:Type} {xs:List α} {i:Int} {v:α} (h:DQ xs i=some v):∃ j,seqIndex? i xs.length=some j/\xs[j]?=some v/\j < xs.length/\-(xs.length:Int)<=i/\i < xs.length:=by
 unfold DQ at h;cases e:Me xs.length i with
 | none=>rw [e] at h;cases h
 | some j =>
  rw [e] at h;obtain ⟨h1,h2,h3,h4⟩:=OP e;exact ⟨j,h1,h,h2,h3,h4⟩
theorem atI_nat {α:Type} {xs:List α} {j:Nat} {v:α} (h:xs[j]?=some v):DQ xs (j:Int)=some v:=by
 have hj:j < xs.length:=(lD.mp h).1;have e:Me xs.length (j:Int)=some j:=by
  unfold Me;rw [if_pos (by omega),if_pos (by omega)];simp
 unfold DQ;rw [e];exact h
def Ov (b:Expr):Prop:=∀ o i,subscripted b false o i=operate [o,i] (getItem o i)
def RI (X:Cx) (r:R2):Prop:=
 ∀ (value slice:Expr) (pins:List (Addr×Obj)) (s:Shared) (σ:St) (H:Hp) (x y:V) (v u:Value) (Q:VK),Inv X pins σ H s->RelV x v->RelV y u->r x y H Q ->
  subscripted slice false v u=operate [v,u] (getItem v u)->wpAny (model X.prog X.w) X.A (subscriptTail value slice v u) (EP X pins σ Q) X.xe s
def dS (X:Cx) (id:String) (r:V->List V->Hp->VK->Prop):Prop:=
 ∀ (pins:List (Addr×Obj)) (s:Shared) (σ:St) (H:Hp) (x:V) (xs:List V) (v:Value) (us:List Value) (Q:VK),Inv X pins σ H s->RelV x v->AE xs us->r x xs H Q ->
  wpAny (model X.prog X.w) X.A (call (.builtin id) (v::us)) (EP X pins σ Q) X.xe s
section
variable {X:Cx} {a b:Expr} {ta tb:TE} {pos:Pos}
theorem RI.or {r r':R2} (h:RI X r) (h':RI X r'):RI X (fun x y H Q=>r x y H Q\/r' x y H Q):=by
 intro value slice pins s σ H x y v u Q I rx ry q hs;rcases q with q | q
 ·exact h value slice pins s σ H x y v u Q I rx ry q hs
 ·exact h' value slice pins s σ H x y v u Q I rx ry q hs
theorem fY {r:R2} (hr:RI X r) (ha:PE X a ta) (hb:PE X b tb) (hs:Ov b):PE X (.Subscript a b pos) (iP r ta tb):=by
 intro pins s σ H Q I h;exact Subscript_ (dF ha hb I h fun v u s2 x y H2 I2 rx ry q=>hr a b pins s2 σ H2 x y v u Q I2 rx ry q (hs _ _))
def fL (K:W.Frag):R2:=fun x y H Q=>∃ p xs i v,x=.ref p/\y=.int i/\CQ K H p xs/\DQ xs i=some v/\Q v H
def fJ (K:W.Frag):R2:=fun x y H Q=>∃ p xs i v,x=.ref p/\y=.int i/\EC K H p xs/\DQ xs i=some v/\Q v H
def fK:R2:=fun x y H Q=>∃ z i c,x=.str z/\y=.int i/\z.length<=sizeLine/\DQ z.cps.toList i=some c/\Q (.str ⟨#[c]⟩) H
theorem Wx:RI X (fL X.K):=by
  intro value slice pins s σ H x y v u Q I rx ry h hs;obtain ⟨p,xs,i,z,rfl,rfl,hq,he,q⟩:=h;cases rx;obtain ⟨t,rfl⟩:=ry;obtain ⟨its,r,pl,hz⟩:=I.list hq;obtain ⟨j,h1,h2,h3,h4,h5⟩:=Jz he;obtain ⟨w,ew,rw'⟩:=r.get h2;have hl:=r.length;have hn:=Fw;have fin:EP X pins σ Q w s:=⟨z,H,I,rw',q⟩
  by_cases h0:0<=i
  · have hj:i.toNat=j:=by
      rw [seqIndex_of h0 h5] at h1;exact Option.some.inj h1
    exact item_listR pl.isList h0 (by omega) (by rw [hj];simpa using ew) fin hs
  · have hj:(i+(its.toArray.size:Int)).toNat=j:=by
      rw [seqIndex_neg (by omega) h4] at h1;rw [lF,<- hl];exact Option.some.inj h1
    exact subscriptTail_builtinR (x:=w) pl.isList.typeIs slot_list_getitem.lookup
      (wpAny_getItem_list_neg (Q:=fun r s'=>r=w/\EP X pins σ Q r s') pl.isList (by omega) (by rw [lF]<;>omega) (by omega) (by rw [hj];simpa using ew) ⟨rfl,fin⟩) hs
theorem bQ:RI X (fJ X.K):=by
 intro value slice pins s σ H x y v u Q I rx ry h hs;obtain ⟨p,xs,i,z,rfl,rfl,hq,he,q⟩:=h;cases rx;obtain ⟨t,rfl⟩:=ry;obtain ⟨its,r,pl,hz⟩:=I.tuple hq;obtain ⟨j,h1,h2,h3,h4,h5⟩:=Jz he;obtain ⟨w,ew,rw'⟩:=r.get h2;have hl:=r.length;have hn:=Fw;have fin:EP X pins σ Q w s:=⟨z,H,I,rw',q⟩;exact subscriptTail_builtinR (x:=w) pl.typeIs slot_tuple_getitem.lookup
  (getItem_tuple (j:=j) (Q:=fun r s'=>r=w/\EP X pins σ Q r s') pl (by omega) (by omega) (by rw [lF,<- hl];exact h1) (by simpa using ew) ⟨rfl,fin⟩) hs
theorem bR:RI X fK:=by
 intro value slice pins s σ H x y v u Q I rx ry h hs;obtain ⟨z,i,c,rfl,rfl,hz,he,q⟩:=h;obtain ⟨t,rfl⟩:=rx;obtain ⟨t',rfl⟩:=ry;obtain ⟨j,h1,h2,h3,h4,h5⟩:=Jz he;have hl:z.cps.toList.length=z.length:=by simp [Str.length]
 rw [hl] at h1 h4 h5;have hn:=Fw;exact tail_any (typeIs_str s z t) slot_str_getitem.lookup (getItem_str (c:=c) (by
  have e1:decide (i < -(2 ^ 63:Int))=false:=decide_eq_false (by omega);have e2:decide (i >= 2 ^ 63)=false:=decide_eq_false (by omega);rw [e1,e2,Bool.or_false]) (by rw [h1];simpa using h2) ⟨.str ⟨#[c]⟩,H,I.tok _,⟨_,rfl⟩,q⟩) hs
def Zv (K:W.Frag):R2:=fun x y H Q=>fL K x y H Q\/fJ K x y H Q\/fK x y H Q
theorem bS:RI X (Zv X.K):=Wx.or (bQ.or bR)
theorem MY (its:List Value) (n j:Nat) (u:Value):Obj.mapSeq (·.setIfInBounds j u) { cls:=.type "list", data:=.seq its.toArray n }={ cls:=.type "list", data:=.seq (its.set j u).toArray n }:=by
 simp [Obj.mapSeq]
theorem Inv.lst {pins:List (Addr×Obj)} {σ:St} {H:Hp} {s:Shared} {p:Addr} {xs:List V} (I:Inv X pins σ H s) (h:H p=some (.lst xs)) :
    ∃ (its:List Value) (n:Nat),AE xs its/\s.heap.get? p=some { cls:=.type "list", data:=.seq its.toArray n }/\xs.length<=sizeLine:=by
  obtain ⟨z,its,n,r,e⟩:=I.hok p _ h;exact ⟨its,n,r,e,z⟩
theorem Inv.lstUpd {pins:List (Addr×Obj)} {σ:St} {H:Hp} {s:Shared} {p:Addr} {xs ys:List V} {its its':List Value} {n n':Nat} {f:Obj->Obj} (I:Inv X pins σ H s) (h:H p=some (.lst xs))
    (ho:s.heap.get? p=some { cls:=.type "list", data:=.seq its.toArray n }) (hf:f { cls:=.type "list", data:=.seq its.toArray n }={ cls:=.type "list", data:=.seq its'.toArray n' }) (r:AE ys its') (hz:ys.length<=sizeLine) (t:Nat) :
    Inv X pins σ (upd H p (.lst ys)) { s with heap:=s.heap.update p f,toks:=t }:=by
  have e:(s.heap.update p f).get? p=some { cls:=.type "list", data:=.seq its'.toArray n' }:=by
    rw [mV f ho (by rw [hf]<;>rfl),hf]
  refine I.write (x:=p) (e:=p) (by rw [h];trivial) (.inl rfl) (fun b u hb q=>(mJ _ _ (Ne.symm hb)).trans q) ⟨_,e⟩ ?_;exact ⟨hz,its',n',r,e⟩
def SS:V->V->V->Hp->(Hp->Prop)->Prop:=fun o i v H Q=>∃ p xs k j,o=.ref p/\i=.int k/\H p=some (.lst xs)/\Me xs.length k=some j/\Q (upd H p (.lst (xs.set j v)))
theorem set_list:KG X SS:=by
  intro pins s σ H o i v ov iv u Q I ro ri rv h;obtain ⟨p,xs,k,j,rfl,rfl,hp,hj,q⟩:=h;cases ro;obtain ⟨t,rfl⟩:=ri;obtain ⟨its,n,r,ho,hz⟩:=I.lst hp;obtain ⟨h1,h2,h3,h4⟩:=OP hj;have hl:=r.length;have hn:=Fw;have I':Inv X pins σ (upd H p (.lst (xs.set j v))) { s with heap:=s.heap.update p (Obj.mapSeq (·.setIfInBounds j u)) }:=
    I.lstUpd hp ho (MY its n j u) (r.set rv j) (by rw [lj];exact hz) s.toks
  by_cases h0:0<=k
  · have hk:k.toNat=j:=by
      rw [seqIndex_of h0 h4] at h1;exact Option.some.inj h1
    exact W.ki_setAt ho h0 (by omega) (by rw [lF,<- hl];exact h4) (by rw [hk];exact ⟨_,I',q⟩)
  · have hk:(k+(its.toArray.size:Int)).toNat=j:=by
      rw [seqIndex_neg (by omega) h3] at h1;rw [lF,<- hl];exact Option.some.inj h1
    exact W.ki_setBack ho (by omega) (by rw [lF,<- hl];exact h3) (by omega) (by rw [hk];exact ⟨_,I',q⟩)
theorem JJ (lo hi:Option Int) (n:Nat):(sliceBounds lo hi none n).1=((HT.sIx n 0 lo:Nat):Int)/\(sliceBounds lo hi none n).2.1=((HT.sIx n n hi:Nat):Int)/\(sliceBounds lo hi none n).2.2=1:=by
 refine ⟨?_,?_,rfl⟩
 ·cases lo with
  | none=>simp [sliceBounds,HT.sIx]
  | some i =>
   simp only [sliceBounds,HT.sIx,Option.getD_none,show (1:Int) > 0 by decide,if_true]
   by_cases h:i < 0
   ·simp only [h,if_true]<;>omega
   ·simp only [h,if_false]<;>omega
 ·cases hi with
  | none=>simp [sliceBounds,HT.sIx]
  | some i =>
   simp only [sliceBounds,HT.sIx,Option.getD_none,show (1:Int) > 0 by decide,if_true]
   by_cases h:i < 0
   ·simp only [h,if_true]<;>omega
   ·simp only [h,if_false]<;>omega
theorem Hn (its:List Value) (lo hi:Option Int):slicePick its.toArray lo hi none=((its.drop (HT.sIx its.length 0 lo)).take (HT.sIx its.length its.length hi - HT.sIx its.length 0 lo)).toArray:=by
 obtain ⟨h1,h2,h3⟩:=JJ lo hi its.toArray.size;unfold slicePick;rw [h1,h2,h3];simp only [sliceRange_one,pick_run,lF]<;>rfl
def fF (K:W.Frag):V->Option Int->Option Int->Hp->VK->Prop:=fun x lo hi H Q=>∃ a xs,x=.ref a/\CQ K H a xs/\∀ p,H p=none->Q (.ref p) (upd H p (.lst (Ex xs lo hi)))
theorem Vs:RM X (fF X.K):=by
 intro pins s σ H x v vl vu lo hi sl Q I rx hs pl pu h;obtain ⟨a,xs,rfl,hx,q⟩:=h;cases rx;obtain ⟨its,r,ht,hz⟩:=I.list hx;have hlen:=r.length
 refine ⟨"list", _,slot_list_getitem.lookup,ht.isList.typeIs,?_⟩
 refine wpAny_getItem_list_slice ht.isList hs pl pu .none (by simp) ?_ (by rw [lF]<;>omega);rw [Hn,<- hlen];refine ⟨.ref s.heap.objs.size,_,I.laid (t':=s.toks) (o:=.lst (Ex xs lo hi)) (fun b ob q=>lC _ q) (lJ _) ?_,rfl,q _ (I.hok.fresh (lJ _))⟩;exact ⟨lR (GL xs lo hi) hz,_,0,(r.drop (HT.sIx xs.length 0 lo)).take (HT.sIx xs.length xs.length hi - HT.sIx xs.length 0 lo),lT _ rfl⟩
noncomputable def Et:V->Bool
 | .non=>true
 | .bl _=>true
 | .int _=>true
 | .str _=>true
 | _=>false
noncomputable def eqV:V->V->Bool
 | .non,.non=>true
 | .bl a,.bl b=>a == b
 | .bl a,.int b=>(if a then 1 else 0) == b
 | .int a,.bl b=>a == (if b then 1 else 0)
 | .int a,.int b=>a == b
 | .str a,.str b=>a == b
 | _,_=>false
theorem cL {A:Around} {s:Shared} {y x:V} {u v:Value} (ry:RelV y u) (rx:RelV x v) (fy:Et y=true) (fx:Et x=true):SeqAt.EqAt A s u v (eqV y x):=by
 cases y with
 | non =>
  cases ry;cases x with
  | non=>cases rx;exact SeqAt.EqAt.same _
  | bl b=>cases rx;exact SeqAt.EqAt.none_bool b
  | int b=>obtain ⟨t,rfl⟩:=rx;exact SeqAt.EqAt.none_int b t
  | str b=>obtain ⟨t,rfl⟩:=rx;exact SeqAt.EqAt.none_str b t
  | _=>exact absurd (show false=true from fx) lV
 | bl a =>
  cases ry;cases x with
  | non=>cases rx;exact SeqAt.EqAt.bool_none a
  | bl b=>cases rx;exact SeqAt.EqAt.bool_bool a b
  | int b=>obtain ⟨t,rfl⟩:=rx;exact SeqAt.EqAt.bool_int a b t
  | str b=>obtain ⟨t,rfl⟩:=rx;exact SeqAt.EqAt.bool_str a b t
  | _=>exact absurd (show false=true from fx) lV
 | int a =>
  obtain ⟨t',rfl⟩:=ry;cases x with
  | non=>cases rx;exact SeqAt.EqAt.int_none a t'
  | bl b=>cases rx;exact SeqAt.EqAt.int_bool a t' b
  | int b=>obtain ⟨t,rfl⟩:=rx;exact SeqAt.EqAt.int_int a t' b t
  | str b=>obtain ⟨t,rfl⟩:=rx;exact SeqAt.EqAt.int_str a t' b t
  | _=>exact absurd (show false=true from fx) lV
 | str a =>
  obtain ⟨t',rfl⟩:=ry;cases x with
  | non=>cases rx;exact SeqAt.EqAt.str_none a t'
  | bl b=>cases rx;exact SeqAt.EqAt.str_bool a t' b
  | int b=>obtain ⟨t,rfl⟩:=rx;exact SeqAt.EqAt.str_int a t' b t
  | str b=>obtain ⟨t,rfl⟩:=rx;exact SeqAt.EqAt.str_str a t' b t
  | _=>exact absurd (show false=true from fx) lV
 | _=>exact absurd (show false=true from fy) lV
theorem JY:Bv X (compareOp .NotIn) (fun x y H Q=>∃ i j,x=.str i/\y=.str j/\Q (.bl (!(!(Builtin.Str.occurrences j i 0 j.length 1).isEmpty))) H):=by
 intro pins s σ H x y v u Q I rx ry h;obtain ⟨i,j,rfl,rfl,q⟩:=h;obtain ⟨t,rfl⟩:=rx;obtain ⟨t',rfl⟩:=ry;exact notIn_str ⟨.bl _,H,I,rfl,q⟩
theorem BC.or {f:Value} {r r':List V->Hp->VK->Prop} (h:BC X f r) (h':BC X f r'):BC X f (fun xs H Q=>r xs H Q\/r' xs H Q):=by
 intro pins s σ H xs us Q I rs q;rcases q with q | q
 ·exact h pins s σ H xs us Q I rs q
 ·exact h' pins s σ H xs us Q I rs q
theorem Jv:BC X (.type "list") (fun xs H Q=>∃ p ys,xs=[.ref p]/\(CQ X.K H p ys\/EC X.K H p ys)/\∀ l,H l=none->Q (.ref l) (upd H l (.lst ys))):=by
  intro pins s σ H xs us Q I r h;obtain ⟨p,ys,rfl,hq,q⟩:=h;obtain ⟨u,rfl,rx⟩:=vals1 r;cases rx;have fin:∀ (its:List Value),AE ys its->ys.length<=sizeLine->∀ (h':Heap) (c':Nat),(∀ b o',s.heap.get? b=some o'->h'.get? b=some o') ->
      h'.get? s.heap.objs.size=some { cls:=.type "list", dict:=none,data:=.seq its.toArray c',slots:=#[] }->EP X pins σ Q (.ref s.heap.objs.size) { s with heap:=h' }:=fun its r' hz h' c' kp e =>
    ⟨.ref s.heap.objs.size,_,I.laid (t':=s.toks) kp (lJ _) (show AZ X.prog X.w _ h' _ (.lst ys) from ⟨hz,its,c',r',e⟩),rfl,q _ (I.hok.fresh (lJ _))⟩
  rcases hq with hq | hq
  · obtain ⟨its,r',pl,hz⟩:=I.list hq;have hlen:=r'.length;obtain ⟨o,ho,hc,n,hd⟩:=pl.isList;exact call_list_seq p (.inl rfl) ho hc hd (fun h' c' kp e=>fin its r' hz h' c' kp e) (by simp only [lF]<;>omega)
  · obtain ⟨its,r',pl,hz⟩:=I.tuple hq;have hlen:=r'.length;obtain ⟨o,ho,hc,n,hd⟩:=pl;exact call_list_seq p (.inr rfl) ho hc hd (fun h' c' kp e=>fin its r' hz h' c' kp e) (by simp only [lF]<;>omega)
theorem Hr:BC X (.type "tuple") (fun xs H Q=>∃ p ys,xs=[.ref p]/\((CQ X.K H p ys/\∀ l,H l=none->Q (.ref l) (upd H l (.tup ys)))\/(EC X.K H p ys/\Q (.ref p) H))):=by
 intro pins s σ H xs us Q I r h;obtain ⟨p,ys,rfl,h⟩:=h;obtain ⟨u,rfl,rx⟩:=vals1 r;cases rx;rcases h with ⟨hq,q⟩ | ⟨hq,q⟩
 ·obtain ⟨its,r',pl,hz⟩:=I.list hq;have hlen:=r'.length;refine call_tuple_list pl.isList (fun h' kp=>?_) (by simp only [lF]<;>omega);have I1:Inv X pins σ H { s with heap:=h' }:=I.kept (t':=s.toks) kp
  have I2:Inv X pins σ (upd H h'.objs.size (.tup ys)) { s with heap:=h'.push { cls:=.type "tuple", data:=.seq its.toArray } }:=
   I1.laid (t':=s.toks) (fun b o e=>lC _ e) (lJ _) (show AZ X.prog X.w _ _ _ (.tup ys) from ⟨hz,its,r',GS.new _ _⟩)
  exact ⟨.ref h'.objs.size,_,I2,rfl,q _ (I1.hok.fresh (lJ _))⟩
 ·obtain ⟨its,r',pl,hz⟩:=I.tuple hq;exact call_tuple_same pl ⟨.ref p,H,I,rfl,q⟩
def iM (K:W.Frag) (T:String) (x:V) (H:Hp):Prop:=match x with
  | .str _=>T = "str"
  | .int _=>T = "int"
  | .ref p=>(T = "list" /\ ∃ xs,CQ K H p xs)\/(T = "tuple" /\ ∃ o,K.lookup p=some o/\o.cls=.type "tuple" /\ o.dict=none) \/
      (T = "dict" /\ ((∃ kvs,H p=some (.dK kvs))\/∃ kvs,H p=some (.dT kvs)))\/(T = "set" /\ ∃ S n,H p=some (.set S n))
  | _=>False
theorem RW {pins:List (Addr×Obj)} {σ:St} {H:Hp} {s:Shared} {T:String} {x:V} {v:Value} (I:Inv X pins σ H s) (r:RelV x v) (ty:iM X.K T x H) :
    s.TypeIs v T/\∀ a,v=.ref a->∃ ob,s.heap.get? a=some ob/\ob.dict=none:=by
  cases x with
  | str z =>
    obtain ⟨t,rfl⟩:=r
    cases (show T = "str" from ty)
    exact ⟨typeIs_str s z t,fun _ e=>nomatch e⟩
  | int i =>
    obtain ⟨t,rfl⟩:=r
    cases (show T = "int" from ty)
    exact ⟨typeIs_int s i t,fun _ e=>nomatch e⟩
  | ref p =>
    cases r;rcases ty with ⟨rfl,xs,hq⟩ | ⟨rfl,o,hk,hc,hd⟩ | ⟨rfl,hk⟩ | ⟨rfl,S,n,hk⟩
    · obtain ⟨its,_,pl,_⟩:=I.list hq;refine ⟨pl.isList.typeIs,fun a e=>?_⟩;cases e;obtain ⟨o,n,e,c,hd,_⟩:=pl;exact ⟨o,e,hd⟩
    · refine ⟨⟨o,I.kIn p o hk,hc⟩,fun a e=>?_⟩;cases e;exact ⟨o,I.kIn _ o hk,hd⟩
    · have z:∃ o,s.heap.get? p=some o/\o.ExactDict:=by
        rcases hk with ⟨kvs,hk⟩ | ⟨kvs,hk⟩
        · obtain ⟨_,_,_,_,o,_,_,e,ex,_⟩:=I.hok p _ hk;exact ⟨o,e,ex⟩
        · obtain ⟨_,_,_,_,o,_,_,e,ex,_⟩:=I.hok p _ hk;exact ⟨o,e,ex⟩
      obtain ⟨o,e,ex⟩:=z;refine ⟨⟨o,e,ex.1⟩,fun a e2=>?_⟩;cases e2;exact ⟨o,e,ex.2.1⟩
    · obtain ⟨o,_,_,_,e,ex,_⟩:=I.hok p _ hk;refine ⟨⟨o,e,ex.1⟩,fun a e2=>?_⟩;cases e2;exact ⟨o,e,ex.2.1⟩
  | _=>exact False.elim ty
abbrev iw (K:W.Frag) (T:String) (r:V->List V->Hp->VK->Prop) (to:TE):TE:=fun σ H Q=>to σ H fun x H1=>iM K T x H1/\r x [] H1 Q
abbrev eL (K:W.Frag) (T:String) (r:V->List V->Hp->VK->Prop) (to:TE) (t:TA):TE:=fun σ H Q=>to σ H fun x H1=>iM K T x H1/\t σ H1 fun xs H2=>r x xs H2 Q
variable {o e:Expr} {es:List Expr} {to:TE} {t:TA} {name:Str} {apos cpos:Pos} {T id:String} {r:V->List V->Hp->VK->Prop}
theorem Su (pa:PlainAttrs T) (slot:Slot T name id) (hty:typeOf (.builtin id)=pure (.type "method_descriptor")) (hm:dS X id r) (ho:PE X o to)
    (hbase:attributeBase o name X.env (eval o X.env)=eval o X.env:=by rfl) (hline:(apos.endLine == cpos.line)=true:=by rfl):PE X (.Call (.Attribute o name apos) [] [] cpos) (iw X.K T r to):=by
  intro pins s σ H Q I h;refine wpAny_Call_method0_late hbase hline (Ak (ho pins s σ H _ I h) fun v s1 ⟨x,H1,I1,r1,ty,q1⟩=>?_);obtain ⟨h1,h2⟩:=RW I1 r1 ty;exact ⟨T,id,pa,slot,hty,h1,h2,Calls.callWith_builtin rfl (PySem.evalArgs_none (hm pins s1 σ H1 x [] v [] Q I1 r1 .nil q1))⟩
theorem YZ (pa:PlainAttrs T) (slot:Slot T name id) (hty:typeOf (.builtin id)=pure (.type "method_descriptor")) (hm:dS X id r) (ho:PE X o to) (ha:PA X (e::es) t)
    (hbase:attributeBase o name X.env (eval o X.env)=eval o X.env:=by rfl)
    (hfew:((backTo cpos (starEach (e::es) X.env)).all (fun x=>!x.1) && (backToKw cpos (keywordEach [] X.env)).all (fun x=>x.1.isSome)
      && decide ((e::es).length+([]:List Keyword).length+(if ([]:List Keyword).isEmpty then 0 else 1) < 30))=true:=by rfl)
    (hline:(apos.endLine == cpos.line)=true:=by rfl) (hs:starEach (e::es) X.env=(false,eval e X.env)::starEach es X.env:=by rfl) (hplain:(backTo cpos (starEach es X.env)).any (·.1)=false:=by rfl) :
    PE X (.Call (.Attribute o name apos) (e::es) [] cpos) (eL X.K T r to t):=by
  intro pins s σ H Q I h;refine wpAny_Call_method_late hbase hfew hline rfl (Ak (ho pins s σ H _ I h) fun v s1 ⟨x,H1,I1,r1,ty,q1⟩=>?_);obtain ⟨h1,h2⟩:=RW I1 r1 ty;refine ⟨T,id,pa,slot,hty,h1,h2,?_⟩;have hA:=ha cpos pins s1 σ H1 _ I1 q1;rw [hs] at hA ⊢;refine Calls.callWith_builtin (by show (false || (backTo cpos (starEach es X.env)).any (·.1))=false;rw [hplain]<;>rfl) (Calls.evalArgs_plain ?_);exact Ak hA fun us s2 ⟨vs,H2,I2,r2,q2⟩=>hm pins s2 σ H2 x vs v us Q I2 r1 r2 q2
end
def dh (X:Cx) (id:String) (r:V->List V->Hp->VK->Prop):Prop:=
 ∀ (pins:List (Addr×Obj)) (s:Shared) (σ:St) (H:Hp) (x:V) (xs:List V) (v:Value) (us:List Value) (Q:VK),Inv X pins σ H s->RelV x v->AE xs us->r x xs H Q ->
  wpAny (model X.prog X.w) X.A (call (.builtin id) (v::us)) (EP X pins σ Q) X.xe s
theorem AE.one:∀ {x:V} {us:List Value},AE [x] us->∃ u,us=[u]/\RelV x u
 := by
 intro x us h;cases h with | cons r t=>cases t;exact ⟨_,rfl,r⟩
theorem AE.two:∀ {x y:V} {us:List Value},AE [x,y] us->∃ u v,us=[u,v]/\RelV x u/\RelV y v
 := by
 intro x y us h;cases h with | cons r t=>cases t with | cons q t=>cases t;exact ⟨_,_,rfl,r,q⟩
theorem AE.zero:∀ {us:List Value},AE [] us->us=[]
 | _,.nil=>rfl
theorem AE.dropLast {xs:List V} {us:List Value} (h:AE xs us):AE xs.dropLast us.dropLast:=by
 induction h with
 | nil=>exact .nil
 | cons r t ih =>
  cases t with
  | nil=>exact .nil
  | cons q t'=>exact .cons r ih
theorem AE.rep {xs:List V} {us:List Value} (h:AE xs us):∀ k:Nat,AE (List.replicate k xs).flatten (List.replicate k us).flatten
 | 0=>.nil
 | k+1=>by
  rw [mY,mY,mr,mr];exact AE.append h (AE.rep h k)
theorem Mt {α:Type} (l:List α):l.eraseIdx (l.length - 1)=l.dropLast:=by
 induction l with
 | nil=>rfl
 | cons a r ih =>
  cases r with
  | nil=>rfl
  | cons b r =>
   have e:(a::b::r).length - 1=((b::r).length - 1)+1:=by
    have h1:(a::b::r).length=r.length+2:=rfl;have h2:(b::r).length=r.length+1:=rfl;omega
   rw [e,List.eraseIdx_cons_succ,ih]
   all_goals rfl
theorem foldl_rep (its:List Value):∀ (k:Nat) (acc:List Value),
    List.foldl (fun x1 x2=>x1++x2) acc.toArray (List.replicate k its.toArray)=(acc++(List.replicate k its).flatten).toArray
  | 0,acc=>by simp
  | k+1,acc=>by
    have e:acc.toArray++its.toArray=(acc++its).toArray:=by simp
    have e2:(acc++its)++(List.replicate k its).flatten=acc++(List.replicate (k+1) its).flatten:=by
      rw [mY,mr,mN]
    rw [<- e2,<- foldl_rep its k (acc++its),<- e,mY,nY]
section
variable {X:Cx} {pins:List (Addr×Obj)} {σ:St} {H:Hp} {s:Shared} {l b:Addr} {xs ys zs:List V}
theorem Inv.lset {its its':List Value} {n:Nat} {f:Array Value->Array Value} {t':Nat} (I:Inv X pins σ H s) (hH:H l=some (.lst xs))
    (e:s.heap.get? l=some { cls:=.type "list", data:=.seq its.toArray n }) (hf:f its.toArray=its'.toArray) (hv:AE ys its') (hz:ys.length<=sizeLine) :
    Inv X pins σ (upd H l (.lst ys)) { s with heap:=s.heap.update l (Obj.mapSeq f),toks:=t' }:=by
  have q:=PySem.IsL.update e f;rw [hf] at q;refine I.write (x:=l) (e:=l) (by rw [hH];exact trivial) (.inl rfl) (fun b' u hb hu=>(mJ s.heap (Obj.mapSeq f) (Ne.symm hb)).trans hu) ⟨_,q⟩ ?_;exact ⟨hz,its',_,hv,q⟩
theorem Inv.lnew {its:List Value} {t':Nat} (I:Inv X pins σ H s) (hv:AE ys its) (hz:ys.length<=sizeLine) :
    Inv X pins σ (upd H s.heap.objs.size (.lst ys)) { s with heap:=s.heap.push { cls:=.type "list", data:=.seq its.toArray },toks:=t' }:=
  I.laid (fun _ _ q=>lC _ q) (lJ _) ⟨hz,its,0,hv,lT _ rfl⟩
theorem Inv.fresh (I:Inv X pins σ H s):H s.heap.objs.size=none:=I.hok.fresh (lJ _)
theorem Inv.lstM (I:Inv X pins σ H s) (hH:H l=some (.lst xs)):xs.length<=sizeLine/\∃ (its:List Value) (n:Nat),AE xs its/\xs.length=its.length/\s.heap.get? l=some { cls:=.type "list", data:=.seq its.toArray n }:=by
 obtain ⟨z,its,n,r,e⟩:=I.hok l _ hH;exact ⟨z,its,n,r,r.length,e⟩
theorem Kz {n:Nat} (h:n<=sizeLine):Builtin.List.listTooLong n=false:=by
 unfold Builtin.List.listTooLong;exact decide_eq_false (by omega)
end
section
variable {X:Cx}
def OC:V->List V->Hp->VK->Prop:=fun x vs H Q=>∃ l xs y,x=.ref l/\vs=[y]/\H l=some (.lst xs)/\xs.length < sizeLine/\Q .non (upd H l (.lst (xs++[y])))
theorem Pn:dh X "list.append" OC:=by
 intro pins s σ H x vs v us Q I rx rv h;obtain ⟨l,xs,y,rfl,rfl,hH,hz,q⟩:=h;cases rx;obtain ⟨u,rfl,ru⟩:=rv.one;obtain ⟨z,its,n,r,hl,e⟩:=I.lstM hH;refine call_meets F.slot_list_append ⟨_,e,rfl⟩ F.entry_list_append (F.args_list_append_2 _ _) (PySem.list_append l its.toArray n u (by rw [lF];omega)) ⟨e,?_⟩;refine ⟨.non,_,I.lset (its':=its++[u]) hH e (by simp) (r.append (.cons ru .nil)) ?_,rfl,q⟩;rw [la,mT];omega
def OB:V->List V->Hp->VK->Prop:=fun x vs H Q=>∃ l b xs zs,x=.ref l/\vs=[.ref b]/\H l=some (.lst xs)/\H b=some (.lst zs)/\xs.length+zs.length<=sizeLine/\Q .non (upd H l (.lst (xs++zs)))
theorem Pm:dh X "list.extend" OB:=by
 intro pins s σ H x vs v us Q I rx rv h;obtain ⟨l,b,xs,zs,rfl,rfl,hH,hB,hz,q⟩:=h;cases rx;obtain ⟨u,rfl,ru⟩:=rv.one;cases ru;obtain ⟨z,its,n,r,hl,e⟩:=I.lstM hH;obtain ⟨z2,its2,n2,r2,hl2,e2⟩:=I.lstM hB;have hsz:its.toArray.size+its2.toArray.size<=sizeLine:=by rw [lF,lF];omega
 have hlong:¬ (!its.toArray.isEmpty && Builtin.List.listTooLong (its.toArray.size+its2.toArray.size))=true:=by
  rw [Kz hsz,oP];exact lV
 refine call_meets F.slot_list_extend ⟨_,e,rfl⟩ F.entry_list_extend (F.args_list_extend_2 _ _)
  (AutoSeq1.list_extend_list_list_0 l its.toArray n b its2.toArray n2 hlong (by rw [lF];omega) (by omega)) ⟨e,e2,?_⟩
 refine ⟨.non,_,I.lset (its':=its++its2) hH e (by simp) (r.append r2) ?_,rfl,q⟩;rw [la];omega
def fI:V->List V->Hp->VK->Prop:=fun x vs H Q=>∃ l xs y,x=.ref l/\vs=[]/\H l=some (.lst xs)/\xs[xs.length - 1]?=some y/\Q y (upd H l (.lst xs.dropLast))
theorem bD:dh X "list.pop" fI:=by
 intro pins s σ H x vs v us Q I rx rv h;obtain ⟨l,xs,y,rfl,rfl,hH,hy,q⟩:=h;cases rx;have hus:=rv.zero;subst hus;obtain ⟨z,its,n,r,hl,e⟩:=I.lstM hH;obtain ⟨u,hu,ru⟩:=r.get hy;have hy':its.toArray[its.toArray.size - 1]?=some u:=by
  show its.toArray[its.length - 1]?=some u;rw [<- Array.getElem?_toList,<- hl];exact hu
 refine call_meets F.slot_list_pop ⟨_,e,rfl⟩ F.entry_list_pop (F.args_list_pop_1 _) (MeetsSeq.list_pop_last l its.toArray n u hy' (by rw [lF];omega)) ⟨e,?_⟩;refine ⟨y,_,I.lset (its':=its.dropLast) hH e ?_ r.dropLast ?_,ru,q⟩
 ·show its.toArray.eraseIdxIfInBounds (its.toArray.size - 1)=its.dropLast.toArray;rw [lF,List.eraseIdxIfInBounds_toArray,Mt]
 ·rw [List.length_dropLast];omega
def fN:R2:=fun x y H Q=>∃ l b xs zs,x=.ref l/\y=.ref b/\H l=some (.lst xs)/\H b=some (.lst zs)/\xs.length+zs.length<=sizeLine/\∀ p,H p=none->Q (.ref p) (upd H p (.lst (xs++zs)))
theorem av:Bv X (binaryOp .Add) fN:=by
 intro pins s σ H x y v u Q I rx ry h;obtain ⟨l,b,xs,zs,rfl,rfl,hH,hB,hz,q⟩:=h;cases rx;cases ry;obtain ⟨z,its,n,r,hl,e⟩:=I.lstM hH;obtain ⟨z2,its2,n2,r2,hl2,e2⟩:=I.lstM hB;refine PySem.P.add_list e e2 ?_ (by rw [lF,lF];omega);have ea:its.toArray++its2.toArray=(its++its2).toArray:=by simp
 rw [ea];exact ⟨.ref _,_,I.lnew (t':=s.toks) (r.append r2) (by rw [la];omega),rfl,q _ I.fresh⟩
def fH:R2:=fun x y H Q=>∃ l k xs,x=.ref l/\y=.int k/\H l=some (.lst xs)/\-(2 ^ 63)<=k/\k < 2 ^ 63/\xs.length * k.toNat<=sizeLine /\
 ∀ p,H p=none->Q (.ref p) (upd H p (.lst (List.replicate k.toNat xs).flatten))
theorem len_rep {α:Type} (xs:List α) (k:Nat):(List.replicate k xs).flatten.length=k * xs.length:=by
 induction k with
 | zero=>simp
 | succ k ih=>rw [mY,mr,la,ih,Nat.succ_mul,Nat.add_comm]
theorem ah:Bv X (binaryOp .Mult) fH:=by
 intro pins s σ H x y v u Q I rx ry h;obtain ⟨l,k,xs,rfl,rfl,hH,h1,h2,hz,q⟩:=h;cases rx;obtain ⟨t,rfl⟩:=ry;obtain ⟨z,its,n,r,hl,e⟩:=I.lstM hH;have hlen:its.toArray.size * k.toNat<=sizeLine:=by rw [lF,<- hl];exact hz
 have hcap:¬ its.toArray.size * k.toNat > (2 ^ 63 - 1) / 8:=by
  have:(sizeLine:Nat)<=(2 ^ 63 - 1) / 8:=by decide
  omega
 have hfit:¬ (!Builtin.List.listFitsIndex k)=true:=by
  rw [fitsIndex_both h1 h2];exact lV
 have hlong:¬ Builtin.List.listTooLong (its.toArray.size * k.toNat)=true:=by
  rw [Kz hlen];exact lV
 have hnew:List.foldl (fun x1 x2=>x1++x2) #[] (List.replicate (if its.toArray.isEmpty=true then 0 else k.toNat) its.toArray)=(List.replicate k.toNat its).flatten.toArray:=by
  have f0:∀ m:Nat,List.foldl (fun x1 x2=>x1++x2) #[] (List.replicate m its.toArray)=(List.replicate m its).flatten.toArray:=fun m=>by
   have:=foldl_rep its m [];rw [List.nil_append] at this;exact this
  rw [f0];cases its with
  | nil=>simp
  | cons a r'=>rw [if_neg (by simp)]
 refine wpAny_binaryOp_repeat_ref (T := "list") (U := "int") (by decide) ⟨_,e,rfl⟩ (fun s'=>typeIs_int s' k t) noFill_list_mul F.fills_int_mul F.slot_int_rmul repeat_list F.slot_int_index.lookup
  (call_meets F.slot_int_rmul (typeIs_int s k t) F.entry_int_rmul (F.args_int_rmul_2 _ _) (int___rmul___int_list k t l its.toArray n)
   ⟨e,rfl,⟨_,e,rfl⟩,call_meets F.slot_list_mul ⟨_,e,rfl⟩ F.entry_list_mul (F.args_list_mul_2 _ _) (AutoListH.list___mul___list_int_3 l its.toArray n k t hfit hcap hlong) ⟨e,?_⟩⟩)
 rw [hnew];exact ⟨.ref _,_,I.lnew (t':=s.toks) (r.rep k.toNat) (by rw [len_rep,Nat.mul_comm];exact hz),rfl,q _ I.fresh⟩
end
section
end
section
end
end L2
namespace Att
open PySem PySem.W PySem.Calls PyProof.Rows
theorem GQ {P:Params} {h:Heap}:∀ (ns:List Int) (vs:List Value),WellAll P h vs (ns.map WData.int)->IntsAre vs ns:=by
 intro ns
 induction ns with
 | nil =>
  intro vs w;rw [ma] at w;cases w;exact .nil
 | cons n ns ih =>
  intro vs w;rw [lI] at w;cases w with
  | cons a b =>
   cases a;exact .cons _ _ (ih _ b)
theorem PQ {l:OpenLaw} {n:Nat} (hn:l.most=some n) {P:Params} {h:Heap} {args:List WData} {CH:List Value}
    (hpre:l.row.toRowW.claim.pre args=true) (hwl:WellAll P h CH args) :
    ∃ a vs ns,CH=[Value.ref a]/\args=[WData.list (ns.map WData.int)]/\h.get? a=some { cls:=.type "list", data:=.seq vs.toArray }/\IntsAre vs ns/\ns.length<=n:=by
  have hsh:WShape.hasAll [] args [.list .int]=true:=(pre_splitW hpre).1;have hc:l.pre.holds [] { args:=args }=true:=(pre_splitW hpre).2;obtain ⟨d,r,rfl,h1,h2⟩:=hasAllW_cons hsh;obtain rfl:=hasAllW_nil h2;obtain ⟨xs,rfl,h3⟩:=hasW_list h1;obtain ⟨ns,rfl⟩:=items_int h3;have hlen:ns.length<=n:=by
    unfold OpenLaw.pre at hc;have h4:(WTm.not (.lt (.lit (.int (n:Int))) (.len (.arg 0)))).holds [] { args:=[.list (ns.map .int)] }=true:=by
      have h4:=(holds_andW hc).1;rw [hn] at h4;exact h4
    have h5:=condW_of h4 (w_not (w_lt w_lit (w_len_list (w_arg rfl))));rw [lZ] at h5;refine Nat.le_of_not_lt fun q=>?_
    have q':(n:Int) < ((ns.length:Nat):Int):=by omega
    first
      | (rw [decide_eq_true q'] at h5;exact absurd h5 (by decide))
      | (simp at h5;omega)
  cases hwl with
  | cons w1 w2 =>
    cases w2;cases w1 with
    | list ho hall=>exact ⟨_,_,ns,rfl,rfl,ho,GQ ns _ hall,hlen⟩
theorem PZ (l:OpenLaw) (args:List WData):l.row.toRowW.claim.post args (.bool true) args=true:=
 postW_of (r:=l.row.toRowW) (X:=(true == true))
  (show WShape.has [] (.bool true) .bool=true by first | rfl | decide | simp [WShape.has,WShape.arms,WShape.armsAll])
  (show (WTm.eq .res (.lit (.bool true))).value [] { args:=args,res:=some (.bool true),after:=args }=some (.bool (true == true)) from w_eq_bool (w_res rfl) w_lit) rfl
theorem attach_call {l:OpenLaw} {n:Nat} {q:Program} {loose:List Str} {XP:(Str->Option Value)->Heap->Prop} {YP:World->Heap->Prop} {d:DefRec}
    (hn:l.most=some n) (hdf:d.params.defaults=[])
    (call:∀ (w:World) (s₀ s₁:Shared) (mg mb:Str->Option Value) (fa:Addr) (o:Obj) (pm cd doc:Value) (a:Addr) (vs:List Value) (ns:List Int),
      Ground q loose [] XP w s₀ mg mb s₁.heap->YP w s₁.heap ->
      s₁.heap.get? fa=some o->o.data=.func (docDef d.name d.params d.body d.scope pm cd doc)->s₁.heap.CodeRec cd d.name->mg d.name=some (.ref fa) ->
      s₁.heap.get? a=some { cls:=.type "list", data:=.seq vs.toArray }->IntsAre vs ns->ns.length<=n->s₁.gens=#[] ->
      codeAny (model l.prog w) callerA (.call (.ref fa) ⟨[.ref a],[]⟩) (fun r s'=>r=.ok (.ret (.bool true))/\OldK s₁.heap s'.heap/\s'.os=s₁.os/\AllBare s'.gens) s₁) :
    WalkO q loose XP YP l.row.toRowW d [] (fun f vs=>PySem.call f vs):=by
  intro w s₀ s₁ mg mb G Y fa o pm cd doc dV kV ho hd hcd hD hmg hg args CH as hpre hlay hrd hwl hlo;obtain rfl:dV=.none:=Dflts.none hD hdf;obtain rfl:kV=.none:=Dflts.noKw hD;obtain ⟨a,vs,ns,rfl,rfl,hobj,hints,hlen⟩:=PQ hn hpre hwl;refine enter_call (codeAny_mono (call w s₀ s₁ mg mb fa o pm cd doc a vs ns G Y ho (fd_plain hd) hcd hmg hobj hints hlen hg) fun r s' hq=>?_);obtain ⟨rfl,h2,h3,h4⟩:=hq;exact ⟨.inl ⟨.bool true,.bool true,[],rfl,fun _=>rfl,.bool true,PZ l _,fun _=>⟨List.Pairwise.nil,fun _ hm=>(nomatch hm)⟩⟩,h2,h3,h4⟩
section
end
end Att
namespace L2
open PySem PySem.Spec PyProof.Rows
theorem IE:∀ {vs:List Value} {ns:List Int},IntsAre vs ns->AE (ns.map V.int) vs
 | _,_,.nil=>.nil
 | _,_,.cons n t h=>.cons ⟨t,rfl⟩ (IE h)
def YA (H:Hp):Prop:=∀ b,H b=none\/∃ o xs,H b=some (.frz o (.lst xs))
theorem TR {P:Program} {w:World} {K:W.Frag} {mg mb:Str->Option Value} {CX:VX} {k:Nat} {fa a:Addr} {fd:FuncData} {x:Str} {sp:Sp} {s₁:Shared} {vs:List Value} {ns:List Int}
    (KX:K.In s₁.heap) (hns:s₁.heap.Ns mainGlobals mg) (hb:s₁.heap.Ns builtinsNs mb) (hbb:∀ x:Str,x ≠ "__name__" -> mb x=bootBuiltins x) (hlim:s₁.heap.NoLimit) (hg:s₁.gens=#[])
    (ha:s₁.heap.get? a=some { cls:=.type "list", data:=.seq vs.toArray }) (hi:IntsAre vs ns) (hl:ns.length<=sizeLine) (hr:Room k callerA)
    (F:∀ base:Heap,K.In base->base.Ns mainGlobals mg->FnOk P w K mg base CX k fa fd [x] sp) (hbind:∀ (s:Shared) (u:Value),BindsTo s fd ⟨[u],[]⟩ [(x,u)])
    (hsp:∀ H:Hp,YA H->CQ K H a (ns.map V.int)->sp [.ref a] H (fun v _=>v=.bl true) fun _ _ _=>False)
    (hCX:∀ H e s',CX [] H s₁ (fun _ _ _=>False) e s'->False) :
    codeAny (model P w) callerA (.call (.ref fa) ⟨[.ref a],[]⟩) (fun r s'=>r=.ok (.ret (.bool true))/\OldK s₁.heap s'.heap/\s'.os=s₁.os/\AllBare s'.gens) s₁:=by
  have rv:=IE hi;have lenV:=hi.length
  -- from an abstract heap in which nothing but the script may be tracked
  have core:∀ H:Hp,YA H->CQ K H a (ns.map V.int)->EY P w H s₁.heap->(∀ b,H b≠none->b=a)->(H a≠none->K.lookup a=none) ->
      codeAny (model P w) callerA (.call (.ref fa) ⟨[.ref a],[]⟩) (fun r s'=>r=.ok (.ret (.bool true))/\OldK s₁.heap s'.heap/\s'.os=s₁.os/\AllBare s'.gens) s₁:=by
    intro H hO hS hok hA hK;have Ez:∀ {b:Addr} {o:Obj},s₁.heap.get? b=some o->H b=none->(Jf s₁.heap H).get? b=some o:=fun e n=>TZ e n
    have noA:∀ {b:Addr} {o:Obj} {es:Array DictEntry} {ep:Nat},s₁.heap.get? b=some o->o.data=.dict es ep->H b=none:=fun {b o es ep} e d=>by
      cases q:H b with
      | none=>rfl
      | some u =>
        have e':b=a:=hA b (by rw [q];simp);subst e';rw [ha] at e;cases e;have d':Data.seq vs.toArray _=Data.dict es ep:=d;cases d'
    have nsK:∀ {b:Addr} {m:Str->Option Value},s₁.heap.Ns b m->(Jf s₁.heap H).Ns b m:=fun {b m} ⟨o,es,ep,e,d,r⟩=>⟨o,es,ep,Ez e (noA e d),d,r⟩
    have hKb:K.In (Jf s₁.heap H):=fun b o e=>Ez (KX b o e) (by
      cases q:H b with
      | none=>rfl
      | some u =>
        have e':b=a:=hA b (by rw [q];simp);subst e';rw [hK (by rw [q];simp)] at e;cases e)
    have hM:Mod K mg (Jf s₁.heap H):=⟨hKb,nsK hns,⟨mb,nsK hb,hbb⟩,let ⟨mc,h1,h2⟩:=hlim;⟨mc,nsK h1,h2⟩⟩;have e0:Env0 P w K mg (Jf s₁.heap H) callerA [] s₁ H:=⟨rfl,hM,fun b o e=>Wk e,Nat.le_of_eq (QK _ _),trivial,fun b hb=>absurd (show b∈([]:List Addr) from hb) (by simp),hok,.of_eq hg⟩;refine codeAny_mono ((F _ hKb (nsK hns)).run callerA [] s₁ H ⟨[.ref a],[]⟩ [.ref a] [.ref a] _ _ hr e0 (hbind s₁ (.ref a)) (.cons rfl .nil) (hsp H hO hS)) fun r s' h=>?_
    cases r with
    | error e=>exact (hCX H e s' h).elim
    | ok fl =>
      cases fl with
      | next=>exact False.elim h
      | brk=>exact False.elim h
      | cont=>exact False.elim h
      | ret u =>
        obtain ⟨v,H',os,bare,un,hok',r',q⟩:=h;have q':v=.bl true:=q;subst q';obtain rfl:u=Value.bool true:=r';refine ⟨rfl,OldK.of_keep fun b o e=>?_,os,bare⟩;cases q:H b with
        | none=>exact un.keep b o e q (by intro z;exact absurd (show b∈([]:List Addr) from z) (by simp)) (by simp)
        | some u =>
          rcases hO b with z | ⟨ob,xs,z⟩
          · rw [q] at z;cases z
          · have z2:=un.frzs b ob _ z;obtain ⟨e1,_⟩:=hok b _ z;obtain ⟨e2,_⟩:=hok' b _ z2;rw [e] at e1;cases e1;exact e2
  cases hk:K.lookup a with
  | some o =>
    -- the script is one of the module's own objects
    have e:=KX a o hk;rw [ha] at e;cases e;refine core (fun _=>none) (fun _=>.inl rfl) (.inr ⟨_,vs.toArray,_,hk,rfl,rfl,rfl,by rw [lF,lenV];exact hl,by simpa using rv⟩) (fun b u z=>by have z':(none:Option HO)=some u:=z;cases z') (fun b z=>absurd rfl z) fun z=>absurd rfl z
  | none =>
    refine core (fun b=>if b=a then some (.frz { cls:=.type "list", data:=.seq vs.toArray } (.lst (ns.map V.int))) else none) (fun b=>?_) (.inl (.inr ⟨{ cls:=.type "list", data:=.seq vs.toArray },if_pos rfl⟩)) (fun b u z=>?_) (fun b z=>?_) fun _=>hk
    · by_cases hb:b=a
      · exact .inr ⟨_,_,if_pos hb⟩
      · exact .inl (if_neg hb)
    · by_cases hb:b=a
      · have z':=(if_pos hb).symm.trans z;cases z';subst hb;exact ⟨ha,by rw [lZ];exact hl,vs,_,rv,ha⟩
      · have z':=(if_neg hb).symm.trans z;cases z'
    · by_cases hb:b=a
      · exact hb
      · exact absurd (if_neg hb) z
theorem walk_of {l:W.OpenLaw} {n k:Nat} {q:Program} {loose:List Str} {XP:(Str->Option Value)->Heap->Prop} {YP:World->Heap->Prop} {d:DefRec} {K:Params->W.Frag} {CX:World->VX} {sp:World->Sp} {x:Str}
    (hn:l.most=some n) (hn2:n<=sizeLine) (hdf:d.params.defaults=[]) (hr:Room k callerA)
    (hY:∀ (w:World) (h:Heap),YP w h->(K w.params).In h)
    (F:∀ (w:World) (mg:Str->Option Value) (fa:Addr) (h:Heap),(K w.params).In h->h.Ns mainGlobals mg->mg d.name=some (.ref fa) ->
      ∃ fd:FuncData,(∀ (s:Shared) (u:Value),BindsTo s fd ⟨[u],[]⟩ [(x,u)]) /\
        ∀ base:Heap,(K w.params).In base->base.Ns mainGlobals mg->FnOk l.prog w (K w.params) mg base (CX w) k fa fd [x] (sp w))
    (hsp:∀ (w:World) (H:Hp) (a:Addr) (ns:List Int),ns.length<=n->YA H->CQ (K w.params) H a (ns.map V.int)->sp w [.ref a] H (fun v _=>v=.bl true) fun _ _ _=>False)
    (hCX:∀ (w:World) (H:Hp) (s:Shared) (e:Value) (s':Shared),CX w [] H s (fun _ _ _=>False) e s'->False) :
    W.WalkO q loose XP YP l.row.toRowW d [] (fun f vs=>PySem.call f vs):=by
  refine Att.attach_call hn hdf fun w s₀ s₁ mg mb fa o pm cd doc a vs ns G Y ho hd hcd hmg hobj hints hlen hg=>?_
  have KX:=hY w _ Y;obtain ⟨fd,hb,hF⟩:=F w mg fa _ KX G.T.g hmg;exact TR KX G.T.g G.T.b G.T.builtins G.T.nolimit hg hobj hints (lR hlen hn2) hr hF hb (fun H hO hS=>hsp w H a ns hlen hO hS) fun H e s'=>hCX w H s₁ e s'
noncomputable def Ap (s:Stmt):Arguments:=match s with
 | .FunctionDef _ a _ _ _ _ _ _ _ _=>a
 | _=>{ posonlyargs:=[],args:=[],vararg:=none,kwonlyargs:=[],kw_defaults:=[],kwarg:=none,defaults:=[] }
noncomputable def Ac (s:Stmt):List Stmt:=match s with
 | .FunctionDef _ _ b _ _ _ _ _ _ _=>b
 | _=>[]
noncomputable def AF (s:Stmt):Scope:=match s with
 | .FunctionDef _ _ _ _ _ _ sc _ _ _=>sc
 | _=>{ kind:=.function,names:=[],isGenerator:=false,isCoroutine:=false }
abbrev RK:VX:=fun _ _ _ _ _ _=>False
abbrev E0:XK:=fun _ _ _=>False
theorem Ya {X:Cx}:KF RK X E0:=fun _ _ _ _ _ _ _ h=>h.elim
structure Fun (K:W.Frag) (x qual:Str) (st:Stmt) (f:Addr) (fd:FuncData):Prop where
 ex:∃ (oc:Value) (od:Option Addr) (kV doc pm:Value) (an:Option Addr) (cdv ct:Value) (osl:Array (Option Value)),
  fd=W.fnOf x qual (Ap st) (Ac st) (AF st) .none kV doc pm an cdv ct/\K.lookup f=some ⟨oc,od,.func fd,osl⟩/\W.codeIn K cdv qual=true
 kp:W.keepIn K (.ref f)=true
section
variable {P:Program} {w:World} {K:W.Frag} {mg:Str->Option Value} {base:Heap}
theorem Fun.ok {x qual:Str} {st:Stmt} {f:Addr} {fd:FuncData} {N ps:List Str} {k:Nat} {sp:Sp} (F:Fun K x qual st f fd) (S:FnScope N ps (AF st)) (len:∀ vs H Q E,sp vs H Q E->vs.length=ps.length)
    (hbody:∀ (cdv:Value) (A:Around) (outer:List Env) (s:Shared) (H:Hp) (vs:List V) (Q:VK) (E:XK),Room k (A.deeper (envOfC qual (AF st) s.heap.objs.size f cdv))->sp vs H Q E ->
      ∃ t,Cu (LY RK P w K mg base N qual (AF st) f cdv A outer s H E).nox (Ac st) t/\t { nx:=fun _ H'=>Q .non H',rt:=Q } (start N vs) H):FnOk P w K mg base RK (k+1) f fd ps sp:=by
  obtain ⟨oc,od,kV,doc,pm,an,cdv,ct,osl,rfl,lk,hcd⟩:=F.ex;refine fn_of lk hcd S len fun A outer s H vs Q E hr hsp=>?_
  obtain ⟨t,h,q⟩:=hbody cdv A outer s H vs Q E hr hsp;exact ⟨t,h.nox,q⟩
theorem Fun.binds {x qual:Str} {st:Stmt} {f:Addr} {fd:FuncData} {ps:List Str} (F:Fun K x qual st f fd)
    (h:∀ (kV doc pm:Value) (an:Option Addr) (cdv ct:Value) (us:List Value),us.length=ps.length->bindArgs (W.fnOf x qual (Ap st) (Ac st) (AF st) .none kV doc pm an cdv ct) ⟨us,[]⟩=pure (ps.zip us)):Binds K fd ps []:=by
  obtain ⟨oc,od,kV,doc,pm,an,cdv,ct,osl,rfl,lk,hcd⟩:=F.ex;exact .all (h kV doc pm an cdv ct)
theorem ba {x qual:Str} {st:Stmt} {f:Addr} {oc:Value} {od an:Option Addr} {osl:Array (Option Value)} {kV doc pm cdv ct:Value} (l:K.lookup f=some ⟨oc,od,.func (W.fnOf x qual (Ap st) (Ac st) (AF st) .none kV doc pm an cdv ct),osl⟩)
    (c:W.codeIn K cdv qual=true) (k:W.keepIn K (.ref f)=true):Fun K x qual st f (W.fnOf x qual (Ap st) (Ac st) (AF st) .none kV doc pm an cdv ct):=⟨⟨oc,od,kV,doc,pm,an,cdv,ct,osl,rfl,l,c⟩,k⟩
end
section
variable {X:Cx}
theorem pv (i:Nat) {x:Str} {pos:Pos} (hN:X.N[i]?=some x:=by rfl) (hv:de X.env.scope x:=by first | exact Or.inl rfl | exact Or.inr (Or.inl rfl) | exact Or.inr (Or.inr rfl)) (hd:(x == ("__debug__" : Str))=false:=by decide)
    (hcd:(x == ("__classdict__" : Str))=false:=by decide):PE X (.Name x pos) (Gh i):=Sk hN hv hd hcd
end
def NW (H H':Hp):Prop:=∀ b o,H b=some o->H' b=some o
noncomputable def AQ (sc:Scope) (x:Str):Bool:=match sc.names.lookup x with | some .cell=>true | _=>false
def Cx.inner (X:Cx) (scope:Scope) (cl:List (Str×Addr)) (C:Addr) (s:Shared) (H:Hp) (fp:List Addr):Cx:=
 { X with s₀:=s,H₀:=H,env:=compEnvC scope cl C X.env,outer:=X.stack,ex:=fp,fn:=AQ scope,xe:=fun _ _=>False }
theorem Ai {scope:Scope} {env:Env} {x:Str}:∀ {names:List (Str×NameKind)}, 
    ((names.map fun (n,k)=>if (k == NameKind.free && env.scope.kind == .function && env.kindOf n == some .cell) then (n,NameKind.cell) else (n,k)).lookup x=some .cell \/
     (names.map fun (n,k)=>if (k == NameKind.free && env.scope.kind == .function && env.kindOf n == some .cell) then (n,NameKind.cell) else (n,k)).lookup x=some .free) ->
    names.lookup x=some .cell\/names.lookup x=some .free
  | [],h=>by simp at h
  | (n,k)::r,h=>by
    have ih:=@Ai scope env x r;cases hx:x == n with
    | true =>
      simp only [lI,mG] at h ⊢
      by_cases hc:(k == NameKind.free && env.scope.kind == .function && env.kindOf n == some .cell)=true
      · have hk:k=.free:=by
          simp only [lB,beq_iff_eq] at hc;exact hc.1.1
        right;simp [hx,hk]
      · rw [if_neg hc] at h;simp only [mG,hx] at h ⊢;exact h
    | false =>
      simp only [lI,mG] at h ⊢
      by_cases hc:(k == NameKind.free && env.scope.kind == .function && env.kindOf n == some .cell)=true
      · rw [if_pos hc] at h;simp only [mG,hx] at h ⊢;exact ih h
      · rw [if_neg hc] at h;simp only [mG,hx] at h ⊢;exact ih h
theorem CL {env:Env} {x:Str}:∀ {names:List (Str×NameKind)}, 
    (names.map fun (n,k)=>if (k == NameKind.free && env.scope.kind == .function && env.kindOf n == some .cell) then (n,NameKind.cell) else (n,k)).lookup x=some .local ->
    names.lookup x=some .local
  | [],h=>by simp at h
  | (n,k)::r,h=>by
    have ih:=@CL env x r;cases hx:x == n with
    | true =>
      simp only [lI,mG] at h ⊢
      by_cases hc:(k == NameKind.free && env.scope.kind == .function && env.kindOf n == some .cell)=true
      · rw [if_pos hc] at h;simp only [mG,hx] at h;cases h
      · rw [if_neg hc] at h;simp only [mG,hx] at h ⊢;exact h
    | false =>
      simp only [lI,mG] at h ⊢
      by_cases hc:(k == NameKind.free && env.scope.kind == .function && env.kindOf n == some .cell)=true
      · rw [if_pos hc] at h;simp only [mG,hx] at h ⊢;exact ih h
      · rw [if_neg hc] at h;simp only [mG,hx] at h ⊢;exact ih h
theorem Hc {scope:Scope} {env:Env} (hhas:∀ x,scope.names.lookup x=some .free->∃ c,env.cells.lookup x=some c) (hnd:∀ x k,(x,k)∈scope.names->k=.free->scope.names.lookup x=some .free) :
    ∃ cl,closureFor scope env=pure cl/\(∀ x c,cl.lookup x=some c->env.cells.lookup x=some c)/\∀ x,scope.names.lookup x=some .free->∃ c,cl.lookup x=some c:=by
  have go:∀ (names:List (Str×NameKind)) (cs:List (Str×Addr)),(∀ x k,(x,k)∈names->k=.free->∃ c,env.cells.lookup x=some c)->(∀ x c,cs.lookup x=some c->env.cells.lookup x=some c) ->
      ∃ cl,(forIn names cs (fun (x:Str×NameKind) (r:List (Str×Addr))=>(if (x.2 == NameKind.free)=true then (cellOf env x.1 >>= fun c=>(pure (ForInStep.yield ((x.1,c)::r)):Sem _)) else pure (ForInStep.yield r))))=(pure cl:Sem _) /\
        (∀ x c,cl.lookup x=some c->env.cells.lookup x=some c)/\(∀ x,(cs.lookup x).isSome=true->(cl.lookup x).isSome=true)/\∀ x,(x,NameKind.free)∈names->(cl.lookup x).isSome=true:=by
    intro names
    induction names with
    | nil=>intro cs _ h2;exact ⟨cs,by simp,h2,fun _ z=>z,fun _ z=>by simp at z⟩
    | cons p r ih =>
      intro cs h1 h2;obtain ⟨n,k⟩:=p
      by_cases hk:k=.free
      · subst hk;obtain ⟨c,hc⟩:=h1 n _ lE rfl;have hcell:cellOf env n=pure c:=by unfold cellOf;rw [hc]
        obtain ⟨cl,e,a,b,d⟩:=ih ((n,c)::cs) (fun x k hx hk=>h1 x k (lG _ hx) hk) (fun x c' hx=>by
          rw [mG] at hx;cases hxn:x == n with
          | true => rw [hxn] at hx; simp at hx; subst hx; have : x = n := by simpa using hxn
                    rw [this];exact hc
          | false=>rw [hxn] at hx;exact h2 x c' hx)
        refine ⟨cl,?_,a,fun x hx=>b x ?_,fun x hx=>?_⟩
        · rw [nX];simp only [hcell];simpa using e
        · rw [mG];cases hxn:x == n with
          | true=>rfl
          | false=>exact hx
        · rcases lO.mp hx with z | z
          · injection z with z1 _
            subst z1;exact b x (by rw [mG];simp)
          · exact d x z
      · have hb:(k == NameKind.free)=false:=by simpa using hk
        obtain ⟨cl,e,a,b,d⟩:=ih cs (fun x k hx hk=>h1 x k (lG _ hx) hk) h2;refine ⟨cl,?_,a,b,fun x hx=>?_⟩
        · rw [nX];simp only [hb];simpa using e
        · rcases lO.mp hx with z | z
          · injection z with _ z2
            exact absurd z2.symm hk
          · exact d x z
  obtain ⟨cl,e,a,_,d⟩:=go scope.names [] (fun x k hx hk=>hhas x (hnd x k hx hk)) (fun x c h=>by simp at h);refine ⟨cl,?_,a,fun x hx=>mw.mp (d x (mC hx))⟩;unfold closureFor;simpa using e
theorem An:∀ (names:List (Str×NameKind)) (n:Nat) (acc:List (Str×Addr)),cellsFrom n names acc=cellsFrom n names []++acc
 | [],n,acc=>by simp [cellsFrom]
 | (x,k)::r,n,acc=>by
  unfold cellsFrom;split
  ·rw [An r (n+1) ((x,n)::acc),An r (n+1) [(x,n)],mN];rfl
  ·exact An r n acc
theorem CO {x:Str} {c:Addr}:∀ (names:List (Str×NameKind)) (n:Nat),(x,c)∈cellsFrom n names []->(x,NameKind.cell)∈names
 | [],n,h=>by simp [cellsFrom] at h
 | (y,k)::r,n,h=>by
  unfold cellsFrom at h;split at h
  ·rename_i hk;have hk:k=.cell:=by simpa using hk
   rw [An] at h;rcases lW.mp h with h | h
   ·exact lG _ (CO r _ h)
   ·rw [lu] at h;cases h;rw [hk];exact lE
  ·exact lG _ (CO r _ h)
theorem CP {x:Str}:∀ (names:List (Str×NameKind)) (n:Nat),(x,NameKind.cell)∈names->∃ c,(cellsFrom n names []).lookup x=some c
 | [],n,h=>by cases h
 | (y,k)::r,n,h=>by
  unfold cellsFrom
  by_cases hr:(x,NameKind.cell)∈r
  ·split
   ·rw [An];obtain ⟨c,e⟩:=CP r (n+1) hr;exact ⟨c,by rw [mq,e];rfl⟩
   ·exact CP r n hr
  ·rcases lO.mp h with e | e
   ·cases e;simp only [beq_self_eq_true,if_true];rw [An];cases q:(cellsFrom (n+1) r []).lookup x with
    | some c=>exact ⟨c,by rw [mq,q];rfl⟩
    | none=>exact ⟨n,by rw [mq,q];simp⟩
   ·exact absurd e hr
theorem Bl {M:Model} {A:Around} {E:Value->Shared->Prop} {s:Shared} {scope:Scope} {globals:Addr} {closure:List (Str×Addr)} {qual:Str} {outer:Env} {Q:Env->Shared->Prop}
    (hQ:Q { scope:=scope,locals:=s.heap.objs.size,globals:=globals,cells:=cellsFrom (s.heap.objs.size+1) scope.names closure,qual:=qual,func:=none,code:=outer.code,frame:=outer.frame,builtins:=outer.builtins } { s with heap:=pushCells (s.heap.push { cls:=.type "dict", data:=.dict #[] }) scope.names }) :
    wpAny M A (newFunctionEnv scope globals closure [] qual none .none (some outer)) Q E s:=by
  simp only [newFunctionEnv,Option.isSome_some,if_true];refine wpAny_bind (wpAny_alloc ?_);refine wpAny_bind (wpAny_layCells _ (fun name kind cells=>by cases hkc:kind == NameKind.cell<;>simp [hkc]) _ _ _ _ ?_)
  rw [show ({ s with heap:=s.heap.push { cls:=.type "dict", data:=.dict #[] } }:Shared).heap.objs.size=s.heap.objs.size+1 from mS ..]
  rw [oO];exact wpAny_bind (wpAny_pure (wpAny_pure hQ))
noncomputable def innerOk (N:List Str) (sc scope:Scope) (js:List Nat):Bool:=
 (match scope.kind with | .function=>true | _=>false) &&
 scope.names.all (fun p=>(match p.2 with
  | .cell=>(match scope.names.lookup p.1 with | some .cell=>true | _=>false)
  | .local=>(match scope.names.lookup p.1 with | some .local=>true | _=>false)
  | .free=>(match scope.names.lookup p.1 with | some .free=>true | _=>false) && (match sc.names.lookup p.1 with | some .cell=>true | some .free=>true | _=>false)
  | _=>true)) &&
 (N.zipIdx.all fun p=>(match scope.names.lookup p.1 with | some .local=>js.contains p.2 | some .cell=>js.contains p.2 | _=>true))
structure InnerIn (N:List Str) (sc scope:Scope) (js:List Nat):Prop where
 kind:scope.kind=.function
 uniqC:∀ x k,(x,k)∈scope.names->k=.cell->scope.names.lookup x=some .cell
 uniqL:∀ y∈scope.names,y.2=.local->scope.names.lookup y.1=some .local
 uniqF:∀ x k,(x,k)∈scope.names->k=.free->scope.names.lookup x=some .free
 fr:∀ x,scope.names.lookup x=some .free->sc.names.lookup x=some .cell\/sc.names.lookup x=some .free
 jsl:∀ (i:Nat) x,N[i]?=some x->scope.names.lookup x=some .local\/scope.names.lookup x=some .cell->i∈js
theorem HU {N:List Str} {sc scope:Scope} {js:List Nat} (h:innerOk N sc scope js=true):InnerIn N sc scope js:=by
  unfold innerOk at h;rw [lB,lB] at h;obtain ⟨⟨h1,h2⟩,h3⟩:=h;rw [lx] at h2 h3;refine ⟨?_,fun x k hy e=>?_,fun y hy e=>?_,fun x k hy e=>?_,fun x e=>?_,fun i x e1 e2=>?_⟩
  · cases q:scope.kind<;>rw [q] at h1<;>first | rfl | cases h1
  · have:=h2 _ hy;rw [e] at this;dsimp only at this;split at this
    · assumption
    · cases this
  · have:=h2 y hy;rw [e] at this;dsimp only at this;split at this
    · assumption
    · cases this
  · have:=h2 _ hy;rw [e] at this;dsimp only at this;rw [lB] at this;have:=this.1;split at this
    · assumption
    · cases this
  · have:=h2 _ (mC e);dsimp only at this;rw [lB] at this;have:=this.2;split at this
    · left;assumption
    · right;assumption
    · cases this
  · have hm:(x,i)∈N.zipIdx:=by
      rw [List.mem_zipIdx_iff_getElem?];exact e1
    have:=h3 _ hm;dsimp only at this;rcases e2 with e2 | e2
    · rw [e2] at this;dsimp only at this;simpa using this
    · rw [e2] at this;dsimp only at this;simpa using this
def blank (js:List Nat) (σ:St):St:=js.foldl (fun σ j=>σ.set j none) σ
theorem blank_length (js:List Nat):∀ σ:St,(blank js σ).length=σ.length:=by
 induction js with
 | nil=>intro σ;rfl
 | cons j r ih=>intro σ;unfold blank;rw [nY];have:=ih (σ.set j none);unfold blank at this;rw [this,lj]
theorem GE (js:List Nat):∀ (σ:St) (i:Nat) (v:V),(blank js σ)[i]?=some (some v)->i∉js/\σ[i]?=some (some v):=by
 induction js with
 | nil=>intro σ i v h;exact ⟨by simp,h⟩
 | cons j r ih =>
  intro σ i v h;unfold blank at h;rw [nY] at h;obtain ⟨a,b⟩:=ih (σ.set j none) i v h
  by_cases e:i=j
  ·subst e
   by_cases hl:i < σ.length
   ·rw [ly hl] at b;cases b
   ·rw [mK (by rw [lj];omega)] at b;cases b
  ·rw [lh (Ne.symm e)] at b;exact ⟨by simp [e,a],b⟩
def RN (js:List Nat) (g:TG):Prop:=∀ x σ H Q,g x σ H Q->g x σ H fun σ2 H2=>(σ2.length=σ.length/\∀ i,i∉js->σ2[i]?=σ[i]?)/\Q σ2 H2
theorem Tc {j:Nat} {js:List Nat} (h:j∈js):RN js (DL j):=fun x σ H Q q=>⟨⟨lj ..,fun i hi=>lh (fun (e:j=i)=>hi (e▸h))⟩,q⟩
def RJ (js:List Nat) (g:NV):Prop:=∀ x σ H Q,g x σ H Q->g x σ H fun σ2 H2=>(σ2.length=σ.length/\∀ i,i∉js->σ2[i]?=σ[i]?)/\Q σ2 H2
theorem Ta {js:List Nat}:RJ js bY:=fun x σ H Q ⟨e,q⟩=>⟨e,⟨rfl,fun _ _=>rfl⟩,q⟩
theorem QL {j:Nat} {js:List Nat} {u:NV} (h:j∈js) (hu:RJ js u):RJ js (Td (DL j) u):=by
 rintro x σ H Q ⟨v,r,e,q⟩;refine ⟨v,r,e,?_⟩;have:=hu r (σ.set j (some v)) H Q q;show u r (σ.set j (some v)) H _;have key:∀ (P P':St->Hp->Prop),(∀ a b,P a b->P' a b)->True:=fun _ _ _=>trivial
 have e2:(fun σ2 H2=>(σ2.length=(σ.set j (some v)).length/\∀ (i:Nat),i∉js->σ2[i]?=(σ.set j (some v))[i]?)/\Q σ2 H2)=(fun σ2 H2=>(σ2.length=σ.length/\∀ (i:Nat),i∉js->σ2[i]?=σ[i]?)/\Q σ2 H2):=by
  funext σ2 H2;have e3:(∀ (i:Nat),i∉js->σ2[i]?=(σ.set j (some v))[i]?)=(∀ (i:Nat),i∉js->σ2[i]?=σ[i]?):=by
   apply propext;constructor
   ·intro k i hi;rw [k i hi,lh (fun (e:j=i)=>hi (e▸h))]
   ·intro k i hi;rw [k i hi,lh (fun (e:j=i)=>hi (e▸h))]
  rw [e3,lj]
 rw [e2] at this;exact this
theorem XA {K:W.Frag} {n:Nat} {js:List Nat} {u:NV} (hu:RJ js u):RN js (bX K n u):=by
 rintro x σ H Q ⟨a,xs,e,hq,hl,q⟩;exact ⟨a,xs,e,hq,hl,hu _ _ _ _ q⟩
section
variable {X:Cx} {pins:List (Addr×Obj)} {σ:St} {H:Hp} {s:Shared} {scope:Scope} {cl:List (Str×Addr)} {js:List Nat} {fp:List Addr} {C D:Addr}
theorem Inv.notStk (I:Inv X pins σ H s) {a:Addr} (h:s.heap.objs.size<=a):a∉OV X.stack:=fun hb=>by
 rcases lO.mp (I.stkSub a hb) with e | e
 ·exact absurd (lU I.lt (e▸h)) (mW _)
 ·exact I.nofs h e
theorem Inv.cellLt (I:Inv X pins σ H s) {x:Str} {c:Addr} (e:X.env.cells.lookup x=some c):c < s.heap.objs.size:=by
 obtain ⟨v,q⟩:=I.cell x c e;exact q.lt
theorem Inv.pinLt (I:Inv X pins σ H s) {p:Addr×Obj} (hp:p∈X.pn++pins):p.1 < s.heap.objs.size:=lQ (I.pin p hp).1
structure Celz (X:Cx) (scope:Scope) (cl:List (Str×Addr)) (s:Shared) (C:Addr):Prop where
 old:∀ x c,cl.lookup x=some c->AQ scope x=false->X.env.cells.lookup x=some c
 own:∀ x c,cl.lookup x=some c->AQ scope x=true->s.heap.objs.size<=c/\C < c
 inj:∀ x y c,cl.lookup x=some c->cl.lookup y=some c->AQ scope x=true->AQ scope y=true->x=y
 fr:∀ x,scope.names.lookup x=some .free->∃ c,cl.lookup x=some c
 has:∀ x,AQ scope x=true->∃ c,cl.lookup x=some c
theorem Celz.ne (L:Celz X scope cl s C) {x:Str} {c b:Addr} (e:cl.lookup x=some c) (hb:b < s.heap.objs.size) (h:∀ x c,X.env.cells.lookup x=some c->c≠b):c≠b:=by
 cases q:AQ scope x with
 | false=>exact h x c (L.old x c e q)
 | true=>exact nM (lU hb (L.own x c e q).1)
theorem XW {cl0:List (Str×Addr)} (hin:InnerIn X.N X.env.scope scope js) (hcl:∀ x c,cl0.lookup x=some c->X.env.cells.lookup x=some c) (hfr:∀ x,scope.names.lookup x=some .free->∃ c,cl0.lookup x=some c)
    {h:Heap} (hC:s.heap.objs.size<=C) (hs:h.objs.size=C+1):Celz X scope (cellsFrom (C+1) scope.names cl0) s C/\∀ x c,(cellsFrom (C+1) scope.names cl0).lookup x=some c->AQ scope x=true->∃ v,(pushCells h scope.names).IsCell c v:=by
  have ok:=cellsFrom_ok scope.names h (C+1) [] ⟨fun _ _ hm=>(nomatch hm),List.Pairwise.nil⟩ (by rw [hs];exact lJ _);rw [hs] at ok;rw [An];generalize hw:cellsFrom (C+1) scope.names []=own at ok;have mem:∀ x c,own.lookup x=some c->AQ scope x=true:=fun x c e=>by
    have:=hin.uniqC x _ (CO scope.names (C+1) (by rw [hw];exact mC e)) rfl;unfold AQ;rw [this]
  have has:∀ x,AQ scope x=true->∃ c,own.lookup x=some c:=fun x e=>by
    unfold AQ at e;split at e
    · rename_i q;obtain ⟨c,z⟩:=CP scope.names (C+1) (mC q);rw [hw] at z;exact ⟨c,z⟩
    · cases e
  have yes:∀ x c,(own++cl0).lookup x=some c->AQ scope x=true->own.lookup x=some c:=fun x c e q=>by
    obtain ⟨c',z⟩:=has x q;rw [mq,z] at e;rw [z];exact e
  have no:∀ x,AQ scope x=false->(own++cl0).lookup x=cl0.lookup x:=fun x q=>by
    rw [mq];cases z:own.lookup x with
    | none=>rfl
    | some c=>rw [mem x c z] at q;cases q
  refine ⟨⟨fun x c e q=>hcl x c (by rw [<- no x q];exact e),fun x c e q=>?_,fun x y c e1 e2 q1 q2=>?_,fun x e=>?_,fun x q=>?_⟩,fun x c e q=>?_⟩
  · have:=(ok.empty x c (mC (yes x c e q))).2;exact ⟨lR hC (Nat.le_of_succ_le this),this⟩
  · exact PySem.name_of_addr ok.apart (mC (yes x c e1 q1)) (mC (yes y c e2 q2))
  · obtain ⟨c,z⟩:=hfr x e;exact ⟨c,by rw [no x (by unfold AQ;rw [e])];exact z⟩
  · obtain ⟨c,z⟩:=has x q;exact ⟨c,by rw [mq,z];rfl⟩
  · exact ⟨none,(ok.empty x c (mC (yes x c e q))).1⟩
theorem Inv.innerOk (I:Inv X pins σ H s) (hin:InnerIn X.N X.env.scope scope js) (hf:∀ b∈fp,FpOk X pins H b) (hfe:∀ b∈fp,b < s.heap.objs.size) (hC:s.heap.objs.size<=C)
    (L:Celz X scope cl s C):(X.inner scope cl C s H fp).Ok where
  mod:=I.ok.mod
  kind:=hin.kind
  glob:=I.ok.glob
  blt:=I.ok.blt
  above:=hC
  inj:=fun x y c a b=>by
    cases hx:AQ scope x<;>cases hy:AQ scope y
    · exact I.ok.inj x y c (L.old x c a hx) (L.old y c b hy)
    · exact absurd (I.cellLt (L.old x c a hx)) (Nat.not_lt.mpr (L.own y c b hy).1)
    · exact absurd (I.cellLt (L.old y c b hy)) (Nat.not_lt.mpr (L.own x c a hx).1)
    · exact L.inj x y c a b hx hy
  has:=fun x h=>by
    rcases Ai (scope:=scope) (env:=X.env) (names:=scope.names) h with q | q
    · exact L.has x (by unfold AQ;rw [q])
    · exact L.fr x q
  cab:=fun x c h e=>(L.own x c e h).1
  hd:=I.ok.hd
  frames:=I.ok.frames
  stk:=.inl rfl
  exf:=fun b hb=>⟨lq (lU (hfe b hb) hC),fun x c e=>L.ne e (hfe b hb) (hf b hb).2.2.2.2.1⟩
  bs:=I.bs
  bsz:=lR I.ok.bsz I.sz
  noex:=fun b o e hb=>by
    rcases (hf b hb).2.2.2.1 with z | z
    · exact I.ok.noex b o e z
    · exact absurd (lU (lQ e) (lR I.ok.bsz z)) (mW _)
  exfs:=fun b hb z=>by
    rcases lO.mp (I.stkSub b z) with e | e
    · exact (hf b hb).2.1 e
    · exact (hf b hb).2.2.1 e
  funs:=I.stack
  frf:=I.stkFree
theorem Inv.enter {h':Heap} {tk:Nat} {o:Obj} (I:Inv X pins σ H s) (hin:InnerIn X.N X.env.scope scope js) (hf:∀ b∈fp,FpOk X pins H b) (hfe:∀ b∈fp,b < s.heap.objs.size) (hC:s.heap.objs.size<=C) (hD:s.heap.objs.size<=D) (hDC:D≠C)
    (L:Celz X scope cl s C) (hown:∀ x c,cl.lookup x=some c->AQ scope x=true->∃ v,h'.IsCell c v)
    (k:∀ b u,s.heap.get? b=some u->h'.get? b=some u) {m:Str->Option Value} (hns:h'.Ns C m) (ho:h'.get? D=some o) (hoc:∀ v,o.data≠.cell v) :
    Inv (X.inner scope cl C s H fp) (pins++[(D,o)]) (blank js σ) H { s with heap:=h',toks:=tk } where
  ok:=I.innerOk hin hf hfe hC L
  os:=rfl
  bare:=I.bare
  base:=Un.kept k
  loc:=by
    refine ⟨m,hns,fun i x v e1 e2 e3=>?_⟩;obtain ⟨hj,e2⟩:=GE js σ i v e2;have free:scope.names.lookup x=some .free:=by
      rcases e3 with q | q | q
      · exact absurd (hin.jsl i x e1 (.inl (CL (env:=X.env) (names:=scope.names) q))) hj
      · rcases Ai (scope:=scope) (env:=X.env) (names:=scope.names) (.inl q) with z | z
        · exact absurd (hin.jsl i x e1 (.inr z)) hj
        · exact z
      · rcases Ai (scope:=scope) (env:=X.env) (names:=scope.names) (.inr q) with z | z
        · exact absurd (hin.jsl i x e1 (.inr z)) hj
        · exact z
    have kx:=hin.fr x free;obtain ⟨m0,hn0,hl0⟩:=I.loc;obtain ⟨u,r,l⟩:=hl0 i x v e1 e2 (kx.elim (fun z=>.inr (.inl z)) fun z=>.inr (.inr z));refine ⟨u,r,?_⟩;rcases l with ⟨z,_⟩ | ⟨_,c,hc,hcell⟩
    · have z':X.env.scope.names.lookup x=some .local:=z;rcases kx with y | y
      · rw [y] at z';cases z'
      · rw [y] at z';cases z'
    · obtain ⟨c',hc'⟩:=L.fr x free;have:c'=c:=by
        have q:=L.old x c' hc' (by unfold AQ;rw [free]);rw [hc] at q;exact (Option.some.inj q).symm
      subst this;obtain ⟨oc,q1,q2⟩:=hcell;refine .inr ⟨?_,c',hc',oc,k _ _ q1,q2⟩;rcases e3 with q | q | q
      · have:=CL (env:=X.env) (names:=scope.names) q;rw [free] at this;cases this
      · exact .inl q
      · exact .inr q
  cell:=fun x c e=>by
    cases q:AQ scope x with
    | true=>exact hown x c e q
    | false =>
      obtain ⟨v,oc,q1,q2⟩:=I.cell x c (L.old x c e q);exact ⟨v,oc,k _ _ q1,q2⟩
  free:=I.hok.fresh hC
  freeC:=fun x c e=>by
    cases q:AQ scope x with
    | true=>exact I.hok.fresh (L.own x c e q).1
    | false=>exact I.freeC x c (L.old x c e q)
  pin:=fun p hp=>by
    have hp':p∈X.pn++(pins++[(D,o)]):=hp;rw [<- mN] at hp';rcases lW.mp hp' with z | z
    · obtain ⟨a1,a2,a3,a4,a5⟩:=I.pin p z;refine ⟨k _ _ a1,a2,lq (lU (lQ a1) hC),fun q=>?_,a5⟩;rcases lO.mp (I.stkSub p.1 q) with e | e
      · exact a3 e
      · exact a4 e
    · have e:p=(D,o):=by simpa using z
      subst e;exact ⟨ho,I.hok.fresh hD,hDC,I.notStk hD,hoc⟩
  hok:=I.hok.kept k
  len:=(blank_length js σ).trans I.len
theorem Inv.leave {Y:Cx} {H':Hp} {s':Shared} {τ:St} {pl:List (Addr×Obj)} {ys:List V} {its:List Value} {n:Nat} (I:Inv X pins σ H s) (hf:∀ b∈fp,FpOk X pins H b) (hY:Y=X.inner scope cl C s H fp) (J:Inv Y pl τ H' s') (hD:s.heap.objs.size<=D)
    (hHD:H' D=none) (hz:ys.length<=sizeLine) (hv:AE ys its) (ho:s'.heap.get? D=some { cls:=.type "list", data:=.seq its.toArray n }) :
    Inv X pins σ (upd H' D (.lst ys)) s':=by
  subst hY;have un:Un (OV X.stack) fp H H' s.heap s'.heap:=J.base;have ne:∀ {b:Addr} {o:Obj},s.heap.get? b=some o->b≠D:=fun e=>lq (lU (lQ e) hD)
  have nH:∀ {b:Addr} {o:HO},H' b=some o->b≠D:=fun e z=>by rw [z,hHD] at e;cases e
  have un':Un (OV X.stack) fp H (upd H' D (.lst ys)) s.heap s'.heap:=
    ⟨un.keep,un.slot,fun b o e n' hx=>by rw [AU (ne e)];exact un.free b o e n' hx,un.there,fun b xs e=>by have:=un.tups b xs e;rw [AU (nH this)];exact this,
      fun b o u e=>by have:=un.frzs b o u e;rw [AU (nH this)];exact this,fun b ps e=>by obtain ⟨more,q⟩:=un.tbls b ps e;exact ⟨more,by rw [AU (nH q)];exact q⟩⟩
  have hok:EY X.prog X.w (upd H' D (.lst ys)) s'.heap:=fun b u e=>by
    by_cases hb:b=D
    · subst hb;rw [BM] at e;cases e;exact ⟨hz,its,n,hv,ho⟩
    · rw [AU hb] at e;exact (J.hok b u e).stay (fun _ _ _ q=>q) (fun c q=>by rw [AU (nH q)];exact q) fun c xs q=>by rw [AU (nH q)];exact q
  exact I.call' J.os un' hok J.bare fun b hb=>by
    obtain ⟨_,f1,_,f3,f4,f5⟩:=hf b hb;exact ⟨f3,f1,f4,f5⟩
end
section
end
section
end
section
variable {X:Cx}
def fE:V->Option Int->Option Int->Hp->VK->Prop:=fun x lo hi H Q=>∃ z,x=.str z/\z.length<=sizeLine/\Q (.str (Txt.slice z lo hi)) H
theorem Zg:RM X fE:=by
 intro pins s σ H x v vl vu lo hi sl Q I rx hs pl pu h;obtain ⟨z,rfl,hz,q⟩:=h;obtain ⟨t,rfl⟩:=rx;have fin:∀ t' k,EP X pins σ Q (.str (Txt.slice z lo hi) t') { s with toks:=k }:=fun t' k=>⟨.str _,H,I.tok k,⟨_,rfl⟩,q⟩
 refine ⟨"str", _,F.slot_str_getitem.lookup,typeIs_str _ _ _,?_⟩
 obtain ⟨o,e1,e2,e3⟩:=hs;cases pl with
 | none =>
  cases pu with
  | none=>exact wpAny_getItem_str_slice (l:=none) (u:=none) (st:=none) ⟨o,e1,e2,e3⟩ rfl (post_val_or_str ⟨lR (Txt.slice_le z _ _) hz,fin⟩)
  | int j uj=>exact wpAny_getItem_str_slice (l:=none) (u:=some (j,uj)) (st:=none) ⟨o,e1,e2,e3⟩ rfl (post_val_or_str ⟨lR (Txt.slice_le z _ _) hz,fin⟩)
 | int i ui =>
  cases pu with
  | none=>exact wpAny_getItem_str_slice (l:=some (i,ui)) (u:=none) (st:=none) ⟨o,e1,e2,e3⟩ rfl (post_val_or_str ⟨lR (Txt.slice_le z _ _) hz,fin⟩)
  | int j uj=>exact wpAny_getItem_str_slice (l:=some (i,ui)) (u:=some (j,uj)) (st:=none) ⟨o,e1,e2,e3⟩ rfl (post_val_or_str ⟨lR (Txt.slice_le z _ _) hz,fin⟩)
theorem MA {ys:List Str}:∀ {us:List Value},AE (ys.map V.str) us->StrsAre us ys:=by
 induction ys with
 | nil=>intro us r;rw [ma] at r;cases r;exact .nil
 | cons n ns ih =>
  intro us r;rw [lI] at r;cases r with
  | cons r1 r2 =>
   obtain ⟨t,e⟩:=r1;subst e;exact .cons n t (ih r2)
def SU (K:W.Frag):V->List V->Hp->VK->Prop:=fun x vs H Q=>∃ sep l ys,x=.str sep/\vs=[.ref l]/\CQ K H l (ys.map V.str)/\(ys.map (·.length)).sum+ys.length * sep.length<=16777216/\Q (.str (Txt.join sep ys)) H
theorem Wp:dh X "str.join" (SU X.K):=by
 intro pins s σ H x vs v us Q I rx rv h;obtain ⟨sep,l,ys,rfl,rfl,hl,hz,q⟩:=h;obtain ⟨t,rfl⟩:=rx;obtain ⟨u,rfl,ru⟩:=rv.one;cases ru;obtain ⟨its,r,p,_⟩:=I.list hl;exact join_list p.isList (by simpa using MA r) hz fun t' k=>⟨.str _,H,I.tok k,⟨_,rfl⟩,q⟩
end
structure Fx (P:Program) (w:World) (K:W.Frag) (mg:Str->Option Value) (base:Heap) (k:Nat) (x:Str) (ps:List Str) (sp:Sp):Prop where
 ex:∃ (f:Addr) (fd:FuncData),FnOk P w K mg base RK k f fd ps sp/\mg x=some (.ref f)/\W.keepIn K (.ref f)=true/\Binds K fd ps []
section
variable {X:Cx} {k j:Nat} {x:Str} {ps:List Str} {sp:Sp} {p pos:Pos} {e:Expr} {es:List Expr} {t:TA}
abbrev eE (sp:Sp) (t:TA):TE:=fun σ H Q=>t σ H fun vs H1=>sp vs H1 Q E0
theorem OF (F:Fx X.prog X.w X.K X.mg X.base k x ps sp) (hr:Room j X.A) (hkj:k<=j) (hg:Gl X x) (ha:PA X (e::es) t) (hdb:(x == ("__debug__" : Str))=false:=by decide)
    (he:starEach (e::es) X.env=(false,eval e X.env)::starEach es X.env:=by rfl) (hpl:(backTo pos (starEach es X.env)).any (·.1)=false:=by rfl):PE X (.Call (.Name x p) (e::es) [] pos) (eE sp t):=by
  obtain ⟨f,fd,G,hm,hk,hb⟩:=F.ex;have q:=Wa (p:=p) (pos:=pos) G (hr.mono hkj) hg hm hk hb .nil Ya ha hdb he hpl;intro pins s σ H Q I h;refine q pins s σ H Q I ?_;show t σ H fun vs H1=>sp (vs++[]) H1 Q E0
  have e2:(fun (vs:List V) (H1:Hp)=>sp (vs++[]) H1 Q E0)=(fun vs H1=>sp vs H1 Q E0):=by
    funext vs H1;rw [mU]
  rw [e2];exact h
theorem So (F:Fx X.prog X.w X.K X.mg X.base k x ps sp) (hr:Room j X.A) (hkj:k<=j) (hg:Gl X x) (hdb:(x == ("__debug__" : Str))=false:=by decide):PE X (.Call (.Name x p) [] [] pos) (eE sp Vk):=by
 obtain ⟨f,fd,G,hm,hk,hb⟩:=F.ex;have q:=Sr (p:=p) (pos:=pos) G (hr.mono hkj) hg hm hk hb .nil Ya hdb;intro pins s σ H Q I h;exact q pins s σ H Q I h
end
section
variable {X:Cx}
def fQ:R2:=fun x y H Q=>∃ i j,x=.str i/\y=.str j/\i.length+j.length<=sizeLine/\Q (.str (i++j)) H
def Km (K:W.Frag):R2:=fun x y H Q=>(VY fun i j=>.int (i+j)) x y H Q\/fQ x y H Q\/fN x y H Q\/YX K x y H Q
theorem Wj:Bv X (binaryOp .Add) (Km X.K):=aw.or (MT.or (av.or Wg))
theorem VP {K:W.Frag} {i j:Int} {H:Hp} {Q:VK} (q:Q (.int (i+j)) H):Km K (.int i) (.int j) H Q:=.inl ⟨i,j,rfl,rfl,q⟩
theorem VN {K:W.Frag} {i j:Str} {H:Hp} {Q:VK} (h:i.length+j.length<=1000000) (q:Q (.str (i++j)) H):Km K (.str i) (.str j) H Q:=.inr (.inl ⟨i,j,rfl,rfl,lR h (by decide),q⟩)
theorem VO {K:W.Frag} {a b:Addr} {xs ys:List V} {H:Hp} {Q:VK} (ha:H a=some (.lst xs)) (hb:H b=some (.lst ys)) (h:xs.length+ys.length<=1000000) (q:∀ p,H p=none->Q (.ref p) (upd H p (.lst (xs++ys)))):Km K (.ref a) (.ref b) H Q:=
 .inr (.inr (.inl ⟨a,b,xs,ys,rfl,rfl,ha,hb,lR h (by decide),q⟩))
theorem Vy {K:W.Frag} {p:Addr} {xs:List V} {i:Int} {v:V} {H:Hp} {Q:VK} (h:H p=some (.lst xs)) (e:DQ xs i=some v) (q:Q v H):Zv K (.ref p) (.int i) H Q:=.inl ⟨p,xs,i,v,rfl,rfl,.inl (.inl h),e,q⟩
theorem Zt {K:W.Frag} {p:Addr} {xs:List V} {i:Int} {v:V} {H:Hp} {Q:VK} (h:CQ K H p xs) (e:DQ xs i=some v) (q:Q v H):Zv K (.ref p) (.int i) H Q:=.inl ⟨p,xs,i,v,rfl,rfl,h,e,q⟩
theorem Vx {K:W.Frag} {z:Str} {i:Int} {c:Nat} {H:Hp} {Q:VK} (h:z.length<=1000000) (e:DQ z.cps.toList i=some c) (q:Q (.str ⟨#[c]⟩) H):Zv K (.str z) (.int i) H Q:=.inr (.inr ⟨z,i,c,rfl,rfl,lR h (by decide),e,q⟩)
theorem bT:RI X (Zv X.K):=bS
def SR (K:W.Frag):V->Option Int->Option Int->Hp->VK->Prop:=fun x lo hi H Q=>fE x lo hi H Q\/fF K x lo hi H Q\/fD K x lo hi H Q
theorem Zi:RM X (SR X.K):=Zg.or (Vs.or Zf)
theorem Vp {K:W.Frag} {z:Str} {lo hi:Option Int} {H:Hp} {Q:VK} (h:z.length<=1000000) (q:Q (.str (Txt.slice z lo hi)) H):SR K (.str z) lo hi H Q:=.inl ⟨z,rfl,lR h (by decide),q⟩
theorem SA {K:W.Frag} {a:Addr} {xs:List V} {lo hi:Option Int} {H:Hp} {Q:VK} (h:CQ K H a xs) (q:∀ p,H p=none->Q (.ref p) (upd H p (.lst (Ex xs lo hi)))):SR K (.ref a) lo hi H Q:=.inr (.inl ⟨a,xs,rfl,h,q⟩)
theorem Vq {K:W.Frag} {a:Addr} {xs:List V} {lo hi:Option Int} {H:Hp} {Q:VK} (h:H a=some (.lst xs)) (q:∀ p,H p=none->Q (.ref p) (upd H p (.lst (Ex xs lo hi)))):SR K (.ref a) lo hi H Q:=SA (.inl (.inl h)) q
theorem Vt:KG X SS:=set_list
def PV (K:W.Frag):List V->Hp->VK->Prop:=fun xs H Q=>∃ x n,xs=[x]/\iH K x H n/\Q (.int n) H
theorem Qj:BC X (.builtin "len") (PV X.K):=Ub
theorem QD {K:W.Frag} {z:Str} {H:Hp} {Q:VK} (h:z.length<=1000000) (q:Q (.int z.length) H):PV K [.str z] H Q:=⟨_,_,rfl,⟨lR h (by decide),rfl⟩,q⟩
theorem TN {K:W.Frag} {p:Addr} {xs:List V} {H:Hp} {Q:VK} (h:CQ K H p xs) (q:Q (.int xs.length) H):PV K [.ref p] H Q:=⟨_,_,rfl,.inl ⟨xs,h,rfl⟩,q⟩
theorem Wv {K:W.Frag} {p:Addr} {xs:List V} {H:Hp} {Q:VK} (h:H p=some (.lst xs)) (q:Q (.int xs.length) H):PV K [.ref p] H Q:=TN (.inl (.inl h)) q
end
theorem DE {H:Hp} {p:Addr} (h:H p=none) (o:HO):NW H (upd H p o):=fun b u q=>by rw [AU (Ba q h)];exact q
section
variable {X:Cx}
theorem jD (K:W.Frag) (h:X.K=K:=by rfl):RI X (Zv K):=by subst h;exact bT
theorem Qh (K:W.Frag) (h:X.K=K:=by rfl):BC X (.builtin "len") (PV K):=by subst h;exact Qj
theorem TJ (K:W.Frag) (h:X.K=K:=by rfl):dh X "str.join" (SU K):=by subst h;exact Wp
def OA (K:W.Frag):List V->Hp->VK->Prop:=fun xs H Q=>∃ p ys,xs=[.ref p]/\(CQ K H p ys\/EC K H p ys)/\∀ l,H l=none->Q (.ref l) (upd H l (.lst ys))
theorem NF (K:W.Frag) (h:X.K=K:=by rfl):BC X (.type "list") (OA K):=by subst h;exact Jv
def Kk (K:W.Frag):List V->Hp->VK->Prop:=fun xs H Q=>∃ p ys,xs=[.ref p]/\((CQ K H p ys/\∀ l,H l=none->Q (.ref l) (upd H l (.tup ys)))\/(EC K H p ys/\Q (.ref p) H))
theorem Lb (K:W.Frag) (h:X.K=K:=by rfl):BC X (.type "tuple") (Kk K):=by subst h;exact Hr
end
noncomputable def tx (l:List Nat):Str:=⟨l.toArray⟩
theorem Ng (l:List Nat):(tx l).cps.toList=l:=by simp [tx]
theorem Bp (l:List Nat):(tx l).length=l.length:=by simp [tx,Str.length]
theorem Lu (a b:List Nat):tx a++tx b=tx (a++b):=by
 show (⟨(tx a).cps++(tx b).cps⟩:Str)=_;simp [tx]
theorem ZR {a b:List Nat} (h:tx a=tx b):a=b:=by
 have:=congrArg (fun z:Str=>z.cps.toList) h;simpa [tx] using this
def QY (l:List Nat) (lo hi:Option Int):List Nat:=(l.drop (HT.sIx l.length 0 lo)).take (HT.sIx l.length l.length hi - HT.sIx l.length 0 lo)
theorem Sh (l:List Nat) (a k:Nat) (h:a+k<=l.length):((List.range k).map fun j=>a+j).filterMap (fun i=>l[i]?)=(l.drop a).take k:=by
  apply List.ext_getElem?;intro i
  by_cases hi:i < k
  · rw [oR hi,List.getElem?_drop];have e:(List.map (fun j=>a+j) (List.range k)).filterMap (fun i=>l[i]?)=(List.range k).map fun j=>l[a+j]!:=by
      rw [nu];rw [show (fun i=>l[i]?)∘(fun j=>a+j)=fun j=>l[a+j]? from rfl];have:∀ (r:List Nat),(∀ j∈r,a+j < l.length)->r.filterMap (fun j=>l[a+j]?)=r.map fun j=>l[a+j]!:=by
        intro r
        induction r with
        | nil=>intro _;rfl
        | cons x r ih =>
          intro hx;have hxl:=hx x lE;rw [ml,lA hxl,lI,ih fun j hj=>hx j (lG _ hj)];simp [hxl]
      exact this _ fun j hj=>by have:=mO.mp hj;omega
    rw [e,lP,mj hi];have hl:a+i < l.length:=by omega
    simp [hl]
  · have e1:(((List.range k).map fun j=>a+j).filterMap (fun i=>l[i]?)).length<=k:=lR (List.length_filterMap_le _ _) (by simp);rw [mK (by omega),mK (by rw [mm];omega)]
theorem cl (i:Int) (n:Nat):max 0 (min (if i < 0 then i+(n:Int) else i) (n:Int))=(((if i < 0 then (i+(n:Int)).toNat else min i.toNat n):Nat):Int):=by
 by_cases h:i < 0
 ·simp only [h,if_true];omega
 ·simp only [h,if_false];omega
theorem RX (l:List Nat) (lo hi:Option Int):Txt.slice (tx l) lo hi=tx (QY l lo hi):=by
 have hlen:(tx l).length=l.length:=Bp l;have key:Builtin.Str.strSliceIndices lo hi 1 l.length=(List.range (HT.sIx l.length l.length hi - HT.sIx l.length 0 lo)).map fun j=>HT.sIx l.length 0 lo+j:=by
  have key0:Builtin.Str.strSliceIndices lo hi 1 l.length=sliceRange ((HT.sIx l.length 0 lo:Nat):Int) ((HT.sIx l.length l.length hi:Nat):Int) 1:=by
   unfold Builtin.Str.strSliceIndices;rcases lo with _ | i<;>rcases hi with _ | j<;>simp only [show (1:Int) > 0 by decide,if_true,HT.sIx,cl,Int.natCast_zero]<;>rfl
  rw [key0];unfold sliceRange;simp only [show (1:Int) > 0 by decide,if_true];generalize HT.sIx l.length 0 lo=a;generalize HT.sIx l.length l.length hi=b;have KI:(if (a:Int) < (b:Int) then ((b:Int) - (a:Int)+1 - 1) / 1 else 0).toNat=b - a:=by
   split<;>omega
  rw [KI];apply nK;intro j _;omega
 have hle:HT.sIx l.length l.length hi<=l.length:=HT.sIx_le _ _ (lJ _) _;have hlo:HT.sIx l.length 0 lo<=l.length:=HT.sIx_le _ _ (mF _) _;unfold Txt.slice;rw [hlen,key];unfold QY;generalize HT.sIx l.length 0 lo=a at *;generalize HT.sIx l.length l.length hi=b at *;have e2:(List.map (fun j=>a+j) (List.range (b - a))).filterMap (fun i=>(tx l).cps[i]?)=(l.drop a).take (b - a):=by
  have e3:(fun i:Nat=>(tx l).cps[i]?)=fun i=>l[i]?:=by funext i;simp [tx]
  rw [e3]
  by_cases hab:a<=b
  ·exact Sh l a (b - a) (by omega)
  ·have:b - a=0:=by omega
   rw [this];simp
 split
 ·rename_i hc;simp only [lZ,nC,lB,beq_iff_eq] at hc;have h0:a=0:=by omega
  have h1:b=l.length:=by omega
  subst h0 h1;simp
 ·rw [e2];rfl
def small (c:Nat):Prop:=97<=c/\c<=122
theorem eqV_str (a b:List Nat):eqV (.str (tx a)) (.str (tx b))=decide (a=b):=by
 unfold eqV
 by_cases h:a=b
 ·subst h;simp
 ·rw [decide_eq_false h];have:tx a≠tx b:=fun e=>h (ZR e)
  simpa using this
section
variable {X:Cx}
def fM (K:W.Frag):List V->Hp->VK->Prop:=fun xs H Q=>∃ x T t b,xs=[x,.ty T]/\TyOf K H x t/\W.kitOne K t (.type T)=some b/\Q (.bl b) H
theorem Ql (K:W.Frag) (hK:X.K=K:=by rfl):BC X (.builtin "isinstance") (fM K):=by
 subst hK;intro pins s σ H xs us Q I r h;obtain ⟨x,T,t,b,rfl,ty,e,q⟩:=h;obtain ⟨u,v,rfl,ru,rv⟩:=r.two;cases rv;exact QG I ru ty e fun tk=>⟨.bl b,H,I.tok tk,rfl,q⟩
theorem AE.get':∀ {xs:List V} {us:List Value} {i:Nat} {u:Value},AE xs us->us[i]?=some u->∃ x,xs[i]?=some x/\RelV x u
 | _,_,_,_,.nil,e=>by simp at e
 | _,_,0,_,.cons r _,e=>by simp at e;subst e;exact ⟨_,rfl,r⟩
 | _,_,i+1,u,.cons _ t,e=>by
  obtain ⟨x,h1,h2⟩:=AE.get' (i:=i) (u:=u) t (by simpa using e);exact ⟨x,by simpa using h1,h2⟩
def fP (K:W.Frag):List V->Hp->VK->Prop:=fun xs H Q=>∃ (p:Addr) (bs:List Bool),xs=[.ref p]/\CQ K H p (bs.map V.bl)/\Q (.bl (bs.all id)) H
theorem Xv {bs:List Bool} {us:List Value} (r:AE (bs.map V.bl) us) {i:Nat} {v:Value} (e:us[i]?=some v):∃ b,bs[i]?=some b/\v=.bool b:=by
 obtain ⟨x,e1,e2⟩:=r.get' e;rw [lP] at e1;cases q:bs[i]? with
 | none=>rw [q] at e1;cases e1
 | some b =>
  rw [q] at e1;have:V.bl b=x:=Option.some.inj e1;subst this;exact ⟨b,rfl,e2⟩
theorem HD:∀ bs:List Bool,((List.range bs.length).all fun i=>(bs[i]?).getD true)=bs.all id
 | []=>rfl
 | b::bs=>by
  rw [lX,nT,mL,List.all_map,mL];have ih:=HD bs;rw [<- ih];rfl
theorem ay {h h':Heap} {o:Obj} (hk:∀ b x,b∉[h.objs.size]->(h.push o).get? b=some x->h'.get? b=some x):∀ b x,h.get? b=some x->h'.get? b=some x:=
 fun b x e=>hk b x (fun hm=>by rw [lu.mp hm] at e;exact mW _ (lQ e)) (lC _ e)
theorem Qn (K:W.Frag) (hK:X.K=K:=by rfl) (hc:X.calm=true:=by rfl):BC X (.builtin "all") (fP K):=by
  subst hK;intro pins s σ H xs us Q I r h;obtain ⟨p,bs,rfl,hp,q⟩:=h;obtain ⟨u,rfl,rx⟩:=vals1 r;cases rx;obtain ⟨its,rv,pl,hz⟩:=I.list hp;have hl:=pl.isList;have hlt:p < s.heap.objs.size:=by obtain ⟨_,e,_⟩:=hl;exact lQ e
  refine call_all_walk (wpAny_pyIter_list hl ?_);refine ⟨s.heap.objs.size,[s.heap.objs.size,p],[s.heap.objs.size],its.toArray.size,_,_,fun i=>(bs[i]?).getD true,rfl,Walks.list (A:=X.A.in1) (I.ok.hd hc) _ p (lq hlt) its.toArray,
    ⟨⟨_,lT _ rfl,rfl,rfl⟩,hl.push _⟩,fun i v s' Q' E' hP hQ=>?_,fun h' tk hk=>?_⟩
  · obtain ⟨b,e,rfl⟩:=Xv rv (i:=i) (v:=v) (by simpa using hP);simp only [e,oE] at hQ;exact wpAny_truthy_bool hQ
  · have e:((List.range its.toArray.size).all fun i=>(bs[i]?).getD true)=bs.all id:=by
      rw [lF,<- rv.length,lZ];exact HD bs
    rw [e];exact ⟨.bl _,H,I.kept (ay hk),rfl,q⟩
def eqVs:List V->List V->Bool
 | [],[]=>true
 | x::xs,y::ys=>eqV x y && eqVs xs ys
 | _,_=>false
def fC (K:W.Frag):V->Option Int->Option Int->Hp->VK->Prop:=fun x lo hi H Q=>∃ a xs,x=.ref a/\EC K H a xs/\(HT.sIx xs.length 0 lo=0/\HT.sIx xs.length xs.length hi=xs.length)/\Q (.ref a) H
theorem Vr:RM X (fC X.K):=by
 intro pins s σ H x v vl vu lo hi sl Q I rx hs pl pu h;obtain ⟨a,xs,rfl,hx,hw,q⟩:=h;cases rx;obtain ⟨its,r,ht,hz⟩:=I.tuple hx;have hlen:its.toArray.size=xs.length:=by rw [lF];exact r.length.symm
 refine ⟨"tuple", _,lz.lookup,ht.typeIs,?_⟩
 obtain ⟨os,hos,hcs,hds⟩:=id hs
 have hTs:s.TypeIs (.ref sl) "slice" := ⟨os,hos,hcs⟩
 unfold getItem
 try with_reducible refine wpAny_holding ?_
 first | refine wpAny_bind (wpAny_pure ?_) | skip
 refine wpAny_bind (wpAny_sequenceKey ht.typeIs (by decide) ?_)
 refine wpAny_bind (wpAny_callSpecial?_slot (name:=Str.ofString "__getitem__") ht.typeIs lz
  (wpAny_call_entry lz ht.typeIs entry_tuple_getitem ?_ (args_tuple_getitem _ _)))
 show wpAny _ _ (Builtin.Tuple.tupleItemsOf (.ref a) >>= _) _ _ s;refine wpAny_bind (tupleItemsOf_ ht ?_);refine wpAny_bind (wpAny_typeOf hTs ?_);rw [if_pos (by decide)];refine wpAny_bind (HT.sliceApplied_gen hs pl pu ?_);have hyes:((((HT.sIx its.toArray.size 0 lo:Nat):Int) == 0 && (1:Int) == 1 && (HT.sIx its.toArray.size its.toArray.size hi - HT.sIx its.toArray.size 0 lo) == its.toArray.size)=true):=by
  rw [hlen,hw.1,hw.2];simp
 show wpAny _ _ (if (((HT.sIx its.toArray.size 0 lo:Nat):Int) == 0 && (1:Int) == 1 && (HT.sIx its.toArray.size its.toArray.size hi - HT.sIx its.toArray.size 0 lo) == its.toArray.size)=true then _ else _) _ _ s;rw [if_pos hyes];have fin:EP X pins σ Q (.ref a) s:=⟨.ref a,H,I,rfl,q⟩;refine wpAny_bind (m:=Builtin.Tuple.tupleIsExact (Value.ref a)) ?_;unfold Builtin.Tuple.tupleIsExact;refine wpAny_bind (wpAny_typeOf ht.typeIs (wpAny_pure ?_));rw [if_pos (by decide)];exact wpAny_bind (wpAny_rule (wpAny_pure ⟨_,rfl,wpAny_pure fin⟩))
end
section
variable {X:Cx} {pins:List (Addr×Obj)} {σ:St} {H:Hp} {s:Shared} {A:Around} {E:Value->Shared->Prop} {Q:Value->Shared->Prop} {b:Bool}
theorem Mf {x:V} {u t:Value} {tp:Addr} {dd:Option Addr} {its:List Value} {n:Nat} {sl:Array (Option Value)} (I:Inv X pins σ H s) (rx:RelV x u) (ty:TyOf X.K H x t) (hT:∃ T,t=.type T/\T ≠ "float" /\ T ≠ "dict") (htp:s.heap.get? tp=some ⟨.type "tuple", dd,.seq its.toArray n,sl⟩) (e:W.kitAny X.K t its=some b) (h:∀ tk,Q (.bool b) { s with toks:=tk }) :
    wpAny (model X.prog X.w) A (call (.builtin "isinstance") [u,.ref tp]) Q E s:=by
  obtain ⟨T,eT,n1,n2⟩:=hT;cases ty with
  | non=>cases (show u=Value.none from rx);exact W.kia_tup W.kitx_none I.kIn True.intro htp e (fun z=>nomatch z) h
  | bl y=>cases (show u=Value.bool y from rx);exact W.kia_tup W.kitx_bool I.kIn True.intro htp e (fun z=>nomatch z) h
  | int i=>obtain ⟨t,q⟩:=(show ∃ t,u=Value.int i t from rx);cases q;exact W.kia_tup W.kitx_int I.kIn True.intro htp e (fun z=>nomatch z) h
  | str y=>obtain ⟨t,q⟩:=(show ∃ t,u=Value.str y t from rx);cases q;exact W.kia_tup W.kitx_str I.kIn True.intro htp e (fun z=>nomatch z) h
  | flt y=>cases eT;exact absurd rfl n1
  | @lst a xs ea =>
    cases (show u=Value.ref a from rx);obtain ⟨_,_,n,_,h1⟩:=(show AZ X.prog X.w H s.heap a (.lst xs) from I.hok a _ ea);exact W.kia_tup W.kitx_list I.kIn ⟨_,h1,rfl⟩ htp e (fun z=>nomatch z) h
  | @frz a ob xs ea =>
    cases (show u=Value.ref a from rx);obtain ⟨_,_,_,n,_,h1⟩:=(show AZ X.prog X.w H s.heap a (.frz ob (.lst xs)) from I.hok a _ ea);exact W.kia_tup W.kitx_list I.kIn ⟨_,h1,rfl⟩ htp e (fun z=>nomatch z) h
  | @tup a xs ea =>
    cases (show u=Value.ref a from rx);obtain ⟨_,_,_,p⟩:=(show AZ X.prog X.w H s.heap a (.tup xs) from I.hok a _ ea);obtain ⟨o,h1,h2,_⟩:=p;exact W.kia_tup W.kitx_tuple I.kIn ⟨o,h1,h2⟩ htp e (fun z=>nomatch z) h
  | @dK a kvs ea=>cases eT;exact absurd rfl n2
  | @dT a kvs ea=>cases eT;exact absurd rfl n2
  | @ins a C dx fs ea cl ha hn htk hm=>cases eT
theorem KQ:∀ {Ts:List String} {us:List Value},AE (Ts.map V.ty) us->us=Ts.map Value.type
 | [],_,.nil=>rfl
 | T::Ts,_,.cons r q=>by rw [KQ q];cases r;rfl
def YW (K:W.Frag):List V->Hp->VK->Prop:=fun xs H Q=>∃ x p,∃ (Ts:List String),∃ t b,xs=[x,.ref p]/\EC K H p (Ts.map V.ty)/\TyOf K H x t/\(∃ T,t=.type T/\T ≠ "float" /\ T ≠ "dict")/\W.kitAny K t (Ts.map Value.type)=some b/\Q (.bl b) H
theorem Qk:BC X (.builtin "isinstance") (YW X.K):=by
 intro pins s σ H xs us Q I r h;obtain ⟨x,p,Ts,t,b,rfl,hp,ty,hT,e,q⟩:=h;obtain ⟨u,v,rfl,ru,rv⟩:=r.two;cases rv;obtain ⟨its,rv,pl,_⟩:=I.tuple hp;rw [KQ rv] at pl;obtain ⟨o,h1,h2,n,h3⟩:=pl;obtain ⟨cls,dd,dat,sl⟩:=o;cases h2;cases h3;exact Mf I ru ty hT h1 e fun tk=>⟨.bl b,H,I.tok tk,rfl,q⟩
end
end L2
namespace L2
open PySem PySem.Spec PyProof.Rows PySem.SeqAt
theorem Hm (l:Addr) (items:Array Value) (n:Nat) (dd:Option Addr) (sl:Array (Option Value)) (x:Value) (e:Value->Bool) (j:Nat) (hj:j < items.size) 
    (hit:e items[j]=true) (hno:∀ m (hm:m < items.size),m < j->e items[m]=false) :
    Meets (Builtin.«tuple.index» ⟨[.ref l,x],[]⟩)
      (fun A R s=>s.heap.get? l=some { cls:=.type "tuple", dict:=dd,data:=.seq items n,slots:=sl }/\(∀ y,y∈items->EqAt A.in1 s y x (e y))/\R (.ok (.ret (.int j s.toks))) { s with toks:=s.toks+1 }):=
  .of_wp fun prog w A R s h=>by
    obtain ⟨hp,g,d,tk,os⟩:=s;obtain ⟨hl,he,h⟩:=h;have f2:=AutoSeq1.sub_tuple_tuple
    wp_walk using wpAny_loadPart' hl
    let f:Nat->(Option Fin×Unit)->Sem (ForInStep (Option Fin×Unit)):=fun i __s =>
            match items[i]? with
            | some y=>do
              let __do_lift <- eqBool y x
              if __do_lift=true then do
                  let __do_lift <- retInt ↑i
                  pure (ForInStep.done (some __do_lift,()))
                else pure (ForInStep.yield (none,()))
            | x=>pure (ForInStep.yield (none,()))
    have key:wpAny (model prog w) A.in1 (forIn [:min items.size items.size] ((none,()):Option Fin×Unit) f) (fun a s' =>
      wpAny (model prog w) A.in1
        (match a.fst with
        | some r=>pure r
        | none=>do
          rule "tuple.index.not-found"
          raiseErrorWords "ValueError" "tuple.index(x): x not in tuple")
        (fun fin s'=>∃ v,fin=Fin.done (Flow.ret v)/\R (Except.ok (Flow.ret v)) s')
        (fun e s'=>R (Except.error e) s') s') (fun e s'=>R (Except.error e) s') { heap:=hp,gens:=g,drawn:=d,toks:=tk,os:=os }:=by
      rw [Std.Legacy.Range.forIn_eq_forIn_range'];simp only [Std.Legacy.Range.size,Nat.sub_zero,nr,Nat.div_one,oC];refine wpAny_forIn_list _ (fun rest b s'=>b=(none,())/\s'=⟨hp,g,d,tk,os⟩/\∃ i,rest=List.range' i (items.size - i)/\i<=j) _ ?_ ?_ _ _ ⟨rfl,rfl,0,by simp,mF _⟩
      · rintro y rest b s' ⟨hb,rfl,i,hr,hi⟩;have hlt:i < items.size:=by omega
        obtain ⟨hy,hrest⟩:y=i/\rest=List.range' (i+1) (items.size - (i+1)):=by
          have e:items.size - i=(items.size - (i+1))+1:=by omega
          rw [e,oG] at hr;injection hr with h1 h2
          exact ⟨h1,h2⟩
        subst hy;show wpAny _ _ (match items[y]? with
            | some z=>do
              let __do_lift <- eqBool z x
              if __do_lift=true then do
                  let __do_lift <- retInt ↑y
                  pure (ForInStep.done (some __do_lift,()))
                else pure (ForInStep.yield (none,()))
            | x=>pure (ForInStep.yield (none,()))) _ _ _
        rw [Array.getElem?_eq_getElem hlt];refine wpAny_bind (he _ (Array.getElem_mem hlt) prog w _ _ ?_)
        by_cases hyj:y=j
        · subst hyj;rw [hit]
          wp_walk
          exact ⟨_,rfl,h⟩
        · rw [hno y hlt (by omega)]
          wp_walk
          exact ⟨rfl,rfl,y+1,hrest,by omega⟩
      · rintro b s' ⟨hb,rfl,i,hr,hi⟩;have:(List.range' i (items.size - i)).length=0:=by rw [<- hr];rfl
        rw [List.length_range'] at this;omega
    refine cast ?_ key;congr 1;funext a s';obtain ⟨a1,a2⟩:=a;cases a1 with
    | none=>rfl
    | some r=>rfl
section
variable {X:Cx}
def iu (r:V->List V->Hp->VK->Prop) (to:TE) (t:TA):TE:=fun σ H Q=>to σ H fun x H1=>(∃ p xs,x=.ref p/\H1 p=some (.tup xs))/\t σ H1 fun xs H2=>r x xs H2 Q
theorem fZ {o e:Expr} {es:List Expr} {to:TE} {t:TA} {name:Str} {apos cpos:Pos} {id:String} {r:V->List V->Hp->VK->Prop} (pa:PlainAttrs "tuple") (slot:Slot "tuple" name id) (hty:typeOf (.builtin id)=pure (.type "method_descriptor")) (hm:dS X id r) (ho:PE X o to) (ha:PA X (e::es) t)
    (hbase:attributeBase o name X.env (eval o X.env)=eval o X.env:=by rfl)
    (hfew:((backTo cpos (starEach (e::es) X.env)).all (fun x=>!x.1) && (backToKw cpos (keywordEach [] X.env)).all (fun x=>x.1.isSome)
      && decide ((e::es).length+([]:List Keyword).length+(if ([]:List Keyword).isEmpty then 0 else 1) < 30))=true:=by rfl)
    (hline:(apos.endLine == cpos.line)=true:=by rfl) (hs:starEach (e::es) X.env=(false,eval e X.env)::starEach es X.env:=by rfl) (hplain:(backTo cpos (starEach es X.env)).any (·.1)=false:=by rfl) :
    PE X (.Call (.Attribute o name apos) (e::es) [] cpos) (iu r to t):=by
  intro pins s σ H Q I h;refine wpAny_Call_method_late hbase hfew hline rfl (Ak (ho pins s σ H _ I h) fun v s1 ⟨x,H1,I1,r1,ty,q1⟩=>?_);obtain ⟨p,xs,rfl,hp⟩:=ty;cases r1;obtain ⟨_,its,_,ob,h1,hc,hd,_⟩:=I1.hok p _ hp
  refine ⟨"tuple", id,pa,slot,hty,⟨ob,h1,hc⟩,fun a e=>by cases e;exact ⟨ob,h1,hd⟩,?_⟩
  have hA:=ha cpos pins s1 σ H1 _ I1 q1;rw [hs] at hA ⊢;refine Calls.callWith_builtin (by show (false || (backTo cpos (starEach es X.env)).any (·.1))=false;rw [hplain]<;>rfl) (Calls.evalArgs_plain ?_);exact Ak hA fun us s2 ⟨vs,H2,I2,r2,q2⟩=>hm pins s2 σ H2 (.ref p) vs (.ref p) us Q I2 rfl r2 q2
def YY (K:W.Frag):R2:=fun x y H Q=>∃ a b ys,x=.ref a/\y=.ref b/\EC K H a []/\EC K H b ys/\Q (.ref b) H
theorem Wh:Bv X (binaryOp .Add) (YY X.K):=by
  intro pins s σ H x y v u Q I rx ry h;obtain ⟨a,b,ys,rfl,rfl,ha,hb,q⟩:=h;cases rx;cases ry;obtain ⟨its,r1,p1,_⟩:=I.tuple ha;obtain ⟨its2,r2,p2,_⟩:=I.tuple hb;cases r1;obtain ⟨⟨cls,dd,data,sl⟩,ho,hc,n,hd⟩:=id p1;obtain ⟨⟨cls2,dd2,data2,sl2⟩,ho2,hc2,n2,hd2⟩:=id p2;simp only at hc hd hc2 hd2;subst hc hd hc2 hd2;exact concat_meets ⟨_,ho,rfl⟩ ⟨_,ho2,rfl⟩ noFill_tuple_add seq_tuple_add PySem.F.slot_tuple_add PySem.F.entry_tuple_add (PySem.F.args_tuple_add_2 _ _)
      (tuple_addW0 a b _ its2.toArray n n2 dd dd2 sl sl2 (by simp)) ⟨ho,ho2,⟨.ref b,H,I,rfl,q⟩⟩
def Kl (K:W.Frag):R2:=fun x y H Q=>Km K x y H Q\/YY K x y H Q
theorem Wi (K:W.Frag) (h:X.K=K:=by rfl):Bv X (binaryOp .Add) (Kl K):=by subst h;exact Wj.or Wh
theorem VM {K:W.Frag} {i j:Int} {H:Hp} {Q:VK} (q:Q (.int (i+j)) H):Kl K (.int i) (.int j) H Q:=.inl (VP q)
theorem VJ {K:W.Frag} {i j:Str} {H:Hp} {Q:VK} (h:i.length+j.length<=1000000) (q:Q (.str (i++j)) H):Kl K (.str i) (.str j) H Q:=.inl (VN h q)
theorem VL {K:W.Frag} {a b:Addr} {xs ys:List V} {H:Hp} {Q:VK} (ha:H a=some (.lst xs)) (hb:H b=some (.lst ys)) (h:xs.length+ys.length<=1000000) (q:∀ p,H p=none->Q (.ref p) (upd H p (.lst (xs++ys)))):Kl K (.ref a) (.ref b) H Q:=.inl (VO ha hb h q)
def PU (K:W.Frag):V->Option Int->Option Int->Hp->VK->Prop:=fun x lo hi H Q=>SR K x lo hi H Q\/fC K x lo hi H Q
theorem iz (K:W.Frag) (h:X.K=K:=by rfl):RM X (PU K):=by subst h;exact Zi.or Vr
theorem Vn {K:W.Frag} {z:Str} {lo hi:Option Int} {H:Hp} {Q:VK} (h:z.length<=1000000) (q:Q (.str (Txt.slice z lo hi)) H):PU K (.str z) lo hi H Q:=.inl (Vp h q)
theorem Ze {K:W.Frag} {a:Addr} {xs:List V} {lo hi:Option Int} {H:Hp} {Q:VK} (h:CQ K H a xs) (q:∀ p,H p=none->Q (.ref p) (upd H p (.lst (Ex xs lo hi)))):PU K (.ref a) lo hi H Q:=.inl (SA h q)
theorem Vo {K:W.Frag} {a:Addr} {xs:List V} {lo hi:Option Int} {H:Hp} {Q:VK} (h:H a=some (.lst xs)) (q:∀ p,H p=none->Q (.ref p) (upd H p (.lst (Ex xs lo hi)))):PU K (.ref a) lo hi H Q:=.inl (Vq h q)
def SQ:V->List V->Hp->VK->Prop:=fun x vs H Q=>∃ l,x=.str (tx l)/\vs=[]/\(∀ c∈l,c < 128)/\l.length<=1000000/\Q (.str (tx (l.map up1))) H
theorem TH:dh X "str.upper" SQ:=by
 intro pins s σ H x vs v us Q I rx rv h;obtain ⟨l,rfl,rfl,hA,hz,q⟩:=h;obtain ⟨t,rfl⟩:=rx;cases rv.zero;have e:Txt.upper (tx l)=tx (l.map up1):=by
  rw [upper_ascii (by rw [Ng];exact hA)];simp [tx]
 refine SC.upper (by rw [e,Bp,lZ];exact decide_eq_false (by have:sizeLine=16777216:=sizeLine_eq;omega)) ⟨.str (tx (l.map up1)),H,I.tok _,⟨_,by rw [e]⟩,q⟩
end
end L2
namespace L2
open PySem PySem.Spec PyProof.Rows
section
variable {prog:Program} {w:World} {A:Around} {E:Value->Shared->Prop}
theorem Ij {it t:Addr} {items:Array Value} (hne:t≠it):∀ (n i:Nat) (s:Shared) (Q:List Value->Shared->Prop),s.heap.IsListIter it t i->s.heap.IsList t items->i+n<=items.size ->
    (∀ h',h'.IsListIter it t (i+n)->Heap.SameBut it s.heap h'->Q ((items.toList.drop i).take n) { s with heap:=h' })->wpAny (model prog w) A (draw (.ref it) n) Q E s
  | 0,i,s,Q,hit,_,_,hQ=>by
    show wpAny _ _ (pure []) Q E s;exact wpAny_pure (by simpa using hQ s.heap hit (Heap.SameBut.refl ..))
  | n+1,i,s,Q,hit,ht,hle,hQ=>by
    have hlt:i < items.size:=by omega
    show wpAny _ _ (pyNext (.ref it) >>= _) Q E s;refine wpAny_bind (wpAny_pyNext_list_item hit ht (x:=items[i]) (by simp [hlt]) fun h₁ hit₁ hs₁=>?_);refine wpAny_bind (wpAny_holding (Ij hne n (i+1) _ _ hit₁ (ht.extBut hs₁.extBut hne) (by omega) fun h₂ hit₂ hs₂=>wpAny_pure ?_));have hd:items.toList.drop i=items[i]::items.toList.drop (i+1):=by simp [nP,hlt]
    have:=hQ h₂ (by rw [show i+(n+1)=i+1+n by omega];exact hit₂) (hs₁.trans hs₂);rw [hd,List.take_succ_cons] at this;exact this
theorem FH {s:Shared} {t:Addr} {items:Array Value} {Q:List Value->Shared->Prop} (hh:A.handled=none) (ht:s.heap.IsList t items)
    (hQ:∀ h',Heap.ExtBut s.heap.objs.size s.heap h'->Q items.toList { s with heap:=h' }):wpAny (model prog w) A (unpackItems (.ref t) items.size none) Q E s:=by
  have hlt:t≠s.heap.objs.size:=by obtain ⟨o,ho,_⟩:=ht;exact lq (lQ ho)
  unfold unpackItems;refine wpAny_bind ?_
  · unfold notIterableAtAll;refine wpAny_bind (wpAny_specialOf ht.typeIs PySem.slot_list_iter.lookup ?_);refine wpAny_pure ?_;simp only [lN,if_false];refine wpAny_bind (wpAny_holding (wpAny_pyIter_list ht ?_));refine wpAny_bind (wpAny_holding (Ij hlt items.size 0 _ _ ⟨_,lT _ rfl,rfl,rfl⟩ (ht.push _) (by omega) fun h₁ hit₁ hs₁=>?_));have hall:List.take items.size (List.drop 0 items.toList)=items.toList:=by
      rw [List.drop_zero];exact List.take_of_length_le (by simp)
    rw [hall];rw [if_neg (by simp)];have ht₁:h₁.IsList t items:=(ht.push _).extBut hs₁.extBut hlt;refine wpAny_bind (wpAny_holding (wpAny_pyNext_list_end hh hit₁ ht₁ (by simp) fun h₂ he₂=>?_));simp only [Option.isSome_none,lN,if_false];refine wpAny_pure (hQ h₂ fun b o hb e=>he₂ b o hb (hs₁.extBut b o hb (lC _ e)))
theorem KO {s:Shared} {t:Addr} {items:Array Value} {targets:List (Bool×(Value->Sem Unit))} {Q:Unit->Shared->Prop} (hh:A.handled=none) (ht:s.heap.IsList t items)
    (hn:targets.length=items.size) (hstar:targets.findIdx? (·.1)=none)
    (h:∀ h',Heap.ExtBut s.heap.objs.size s.heap h'->wpAny (model prog w) A (assignInOrder (targets.map (·.2)) items.toList) Q E { s with heap:=h' }) :
    wpAny (model prog w) A (unpack (.ref t) targets) Q E s:=by
  unfold unpack;rw [hn,hstar];exact wpAny_bind (wpAny_holding (FH hh ht h))
end
section
variable {X:Cx}
abbrev bZ (n:Nat) (t:NV):TG:=fun v σ H Q=>∃ a xs,v=.ref a/\H a=some (.lst xs)/\xs.length=n/\t xs σ H Q
theorem aR {es:List Expr} {k:Nat} {t:NV} {n:Nat} {pos:Pos} (hc:X.calm=true) (h:df X es t)
    (hn:(assignEach es X.env).length=n:=by rfl) (hst:(assignEach es X.env).findIdx? (·.1)=none:=by rfl):PG X (.Tuple es k pos) (bZ n t):=by
  intro pins s σ H v u Q I r hw;obtain ⟨a,xs,e1,hq,hl,hw⟩:=hw;subst e1;cases r;obtain ⟨its,rv,ht,hz⟩:=I.list (.inl (.inl hq));rw [assign_Tuple];refine wpAny_bind (wpAny_standAt (KO (I.ok.hd hc) ht.isList (by simp [hn,<- hl,rv.length]) hst fun h' hx=>?_));have I1:Inv X pins σ H { s with heap:=h' }:=I.kept (t':=s.toks) fun b o e=>hx b o (lq (lQ e)) e
  exact h pins _ σ H xs _ Q I1 (by simpa using rv) hw
theorem XB {n:Nat} {js:List Nat} {u:NV} (hu:RJ js u):RN js (bZ n u):=by
 rintro x σ H Q ⟨a,xs,e,hq,hl,q⟩;exact ⟨a,xs,e,hq,hl,hu _ _ _ _ q⟩
end
end L2
namespace L2
open PySem PySem.Spec PyProof.Rows PySem.SeqAt
inductive D where
 | fl (v:V)
 | tup (ds:List D)
 | lst (ds:List D)
mutual
noncomputable def eqD:D->D->Bool
 | .fl a,.fl b=>eqV a b
 | .tup a,.tup b=>eqDs a b
 | .lst a,.lst b=>eqDs a b
 | _,_=>false
noncomputable def eqDs:List D->List D->Bool
 | [],[]=>true
 | x::xs,y::ys=>eqD x y && eqDs xs ys
 | _,_=>false
end
mutual
noncomputable def D.dep:D->Nat
 | .fl _=>0
 | .tup ds=>depL ds+1
 | .lst ds=>depL ds+1
noncomputable def depL:List D->Nat
 | []=>0
 | d::ds=>max d.dep (depL ds)
end
mutual
noncomputable def Is (H:Hp):V->D->Prop
 | x,.fl v=>x=v/\Et v=true
 | x,.tup ds=>∃ a xs,x=.ref a/\H a=some (.tup xs)/\IsL H xs ds
 | x,.lst ds=>∃ a xs,x=.ref a/\H a=some (.lst xs)/\IsL H xs ds
noncomputable def IsL (H:Hp):List V->List D->Prop
 | [],[]=>True
 | x::xs,d::ds=>Is H x d/\IsL H xs ds
 | _,_=>False
end
theorem IsL.inv {H:Hp} {x:V} {xs:List V} {es:List D} (h:IsL H (x::xs) es):∃ d ds,es=d::ds/\Is H x d/\IsL H xs ds:=by
 cases es with
 | nil=>unfold IsL at h;exact h.elim
 | cons d ds=>unfold IsL at h;exact ⟨d,ds,rfl,h.1,h.2⟩
theorem IsL.length {H:Hp}:∀ {xs:List V} {ds:List D},IsL H xs ds->xs.length=ds.length
 | [],[],_=>rfl
 | [],_::_,h=>by unfold IsL at h;exact h.elim
 | _::_,[],h=>by unfold IsL at h;exact h.elim
 | x::xs,d::ds,h=>by unfold IsL at h;rw [lX,lX,IsL.length h.2]
mutual
theorem Is.inj {H:Hp}:∀ {d e:D} {x:V},Is H x d->Is H x e->d=e
 | .fl v,e,x,h,k=>by
  unfold Is at h;obtain ⟨rfl,hf⟩:=h;cases e with
  | fl u=>unfold Is at k;rw [k.1]
  | tup es=>unfold Is at k;obtain ⟨a,xs,rfl,_⟩:=k;cases hf
  | lst es=>unfold Is at k;obtain ⟨a,xs,rfl,_⟩:=k;cases hf
 | .tup ds,e,x,h,k=>by
  unfold Is at h;obtain ⟨a,xs,rfl,h1,h2⟩:=h;cases e with
  | fl u=>unfold Is at k;obtain ⟨k1,k2⟩:=k;rw [<- k1] at k2;cases k2
  | tup es =>
   unfold Is at k;obtain ⟨b,ys,e,k1,k2⟩:=k;cases e;rw [h1] at k1;cases k1;rw [IsL.inj h2 k2]
  | lst es=>unfold Is at k;obtain ⟨b,ys,e,k1,k2⟩:=k;cases e;rw [h1] at k1;cases k1
 | .lst ds,e,x,h,k=>by
  unfold Is at h;obtain ⟨a,xs,rfl,h1,h2⟩:=h;cases e with
  | fl u=>unfold Is at k;obtain ⟨k1,k2⟩:=k;rw [<- k1] at k2;cases k2
  | lst es =>
   unfold Is at k;obtain ⟨b,ys,e,k1,k2⟩:=k;cases e;rw [h1] at k1;cases k1;rw [IsL.inj h2 k2]
  | tup es=>unfold Is at k;obtain ⟨b,ys,e,k1,k2⟩:=k;cases e;rw [h1] at k1;cases k1
theorem IsL.inj {H:Hp}:∀ {ds es:List D} {xs:List V},IsL H xs ds->IsL H xs es->ds=es
 | [],es,[],h,k=>by
  cases es with
  | nil=>rfl
  | cons e es=>unfold IsL at k;exact k.elim
 | [],_,_::_,h,_=>by unfold IsL at h;exact h.elim
 | _::_,_,[],h,_=>by unfold IsL at h;exact h.elim
 | d::ds,es,x::xs,h,k=>by
  unfold IsL at h;obtain ⟨e,es',rfl,k1,k2⟩:=k.inv;rw [Is.inj h.1 k1,IsL.inj h.2 k2]
end
theorem eqV_refl {v:V} (h:Et v=true):eqV v v=true:=by
 cases v<;>first | rfl | (simp [eqV];done) | cases h
mutual
theorem eqD_refl {H:Hp}:∀ {d:D} {x:V},Is H x d->eqD d d=true
 | .fl v,x,h=>by unfold Is at h;unfold eqD;exact eqV_refl h.2
 | .tup ds,x,h=>by unfold Is at h;obtain ⟨_,_,_,_,h2⟩:=h;unfold eqD;exact eqDs_refl h2
 | .lst ds,x,h=>by unfold Is at h;obtain ⟨_,_,_,_,h2⟩:=h;unfold eqD;exact eqDs_refl h2
theorem eqDs_refl {H:Hp}:∀ {ds:List D} {xs:List V},IsL H xs ds->eqDs ds ds=true
 | [],_,_=>by unfold eqDs;rfl
 | _::_,[],h=>by unfold IsL at h;exact h.elim
 | d::ds,x::xs,h=>by
  unfold IsL at h;unfold eqDs;rw [eqD_refl h.1,eqDs_refl h.2];rfl
end
section
variable {X:Cx} {pins:List (Addr×Obj)} {σ:St} {H:Hp} {s:Shared}
def eAt (ds es:List D) (i:Nat):Bool:=match ds[i]?,es[i]? with | some a,some b=>eqD a b | _,_=>true
theorem eAt_of {ds es:List D} {i:Nat} {a b:D} (h1:ds[i]?=some a) (h2:es[i]?=some b):eAt ds es i=eqD a b:=by unfold eAt;rw [h1,h2]
end
end L2
namespace L2
open PySem PySem.Spec PyProof.Rows
inductive T where
 | leaf (k:Str) (v:V)
 | op (s:Str) (m n:T)
 | many (k w:Str) (ts:List T)
 | lett (x:Str) (a b:T)
 | loop (i:Str) (n:T) (x:Str) (a b:T)
 | pick (n:T) (ts:List T)
noncomputable abbrev sD (x:Str):D:=.fl (.str x)
mutual
noncomputable def T.toD:T->D
 | .leaf k v=>.tup [sD k,.fl v]
 | .op s m n=>.tup [sD "op", sD s,m.toD,n.toD]
 | .many k w ts=>.tup [sD k,sD w,.tup (toDs ts)]
 | .lett x a b=>.tup [sD "let", sD x,a.toD,b.toD]
 | .loop i n x a b=>.tup [sD "loop", sD i,n.toD,sD x,a.toD,b.toD]
 | .pick n ts=>.tup [sD "pick", n.toD,.tup (toDs ts)]
noncomputable def toDs:List T->List D
 | []=>[]
 | t::ts=>t.toD::toDs ts
end
end L2
namespace L2
open PySem PySem.Spec PyProof.Rows PySem.SeqAt
section
end
end L2
namespace L2
open PySem PySem.Spec PyProof.Rows
section
variable {prog:Program} {w:World} {A:Around} {E:Value->Shared->Prop} {s:Shared}
theorem Ma:typeLookup (.type "list_reverseiterator") "__len__" = pure none:=by rw [typeLookup_type,builtinLookup_eq_fast];kernel_rfl
theorem TM:typeLookup (.type "list_reverseiterator") "__length_hint__" = pure (some (.builtin "list_reverseiterator.__length_hint__")):=by rw [typeLookup_type,builtinLookup_eq_fast];kernel_rfl
theorem SM {r:Addr} {Q:Bool->Shared->Prop} (hT:s.TypeIs (.ref r) "list_reverseiterator") (h:Q false s):wpAny (model prog w) A (Builtin.List.listLengthHint (.ref r)) Q E s:=by
 unfold Builtin.List.listLengthHint;refine wpAny_bind (wpAny_specialOf hT Ma ?_);refine wpAny_bind (wpAny_specialOf hT TM ?_)
 generalize hid:("list_reverseiterator.__length_hint__" : String)=id0
 wp_delta
 rw [show splitId id0=some ("list_reverseiterator", "__length_hint__") from by subst hid;decide +kernel]
 subst hid
 refine wpAny_bind (wpAny_isInstance (T := "list_reverseiterator") (b:=true) hT (by rw [isSubtype_type];kernel_rfl) ?_)
 refine wpAny_ite_split (fun hab=>absurd hab (by decide)) (fun _=>?_);refine wpAny_ite_split (fun _=>?_) (fun hab=>absurd (by decide +kernel) hab);refine wpAny_ite_split (fun hab=>absurd hab (by decide +kernel)) (fun _=>?_);exact wpAny_pure h
theorem SN {p l:Addr} {items:Array Value} {Q:Value->Shared->Prop} (hh:A.handled=none) (hne:l≠p) (hit:s.heap.IsRevIter p l ((items.size:Int) - 1)) (hl:s.heap.IsList l items) (hn:items.size<=sizeLine)
    (hQ:∀ h' tk c',(∀ b o,b≠p->s.heap.get? b=some o->h'.get? b=some o)->h'.get? s.heap.objs.size=some { cls:=.type "list", dict:=none,data:=.seq items.reverse c',slots:=#[] }->Q (.ref s.heap.objs.size) { s with heap:=h',toks:=tk }) :
    wpAny (model prog w) A (call (.type "list") [.ref p]) Q E s:=by
  have hpl:p < s.heap.objs.size:=by obtain ⟨o,e,_⟩:=hit;exact lQ e
  have hll:l < s.heap.objs.size:=by obtain ⟨o,e,_⟩:=hl;exact lQ e
  refine callType_codes (Q₁:=fun obj s₁=>obj=.ref s.heap.objs.size/\s₁={ s with heap:=s.heap.push { cls:=.type "list", data:=.seq #[] } }) PySem.F.called_list (PySem.F.typeCall_list_1 _) PySem.F.entry_list_init
    (code_list_new _ ⟨rfl,rfl⟩) fun obj s₁ h₁=>?_
  obtain ⟨rfl,rfl⟩:=h₁
  have hS:(s.heap.push { cls:=.type "list", data:=.seq #[] }).get? s.heap.objs.size=some { cls:=.type "list", data:=.seq #[] }:=lT _ rfl
  generalize hSe:s.heap.objs.size=S at *;have hSp:S≠p:=nM hpl;have hSl:S≠l:=nM hll;refine ⟨⟨_,hS,rfl⟩,PySem.F.args_list_init_2 _ _,?_⟩;show wpAny _ _ (do let old <- Builtin.List.listItems (.ref S);Builtin.List.listUpdate (.ref S) (fun _=>#[]);letGo old.toList.reverse;Builtin.List.listExtendWith (.ref S) (.ref p) .none) _ _ _;refine wpAny_bind ?_;unfold Builtin.List.listItems;refine wpAny_bind (wpAny_seqItems hS rfl (wpAny_pure ?_));show wpAny _ _ (updateSeq S (fun _=>#[]) >>= fun _=>letGo (#[]:Array Value).toList.reverse >>= fun _=>Builtin.List.listExtendWith (.ref S) (.ref p) .none) _ _ _;refine wpAny_bind (wpAny_updateSeq hS rfl ?_);have hS₂:=mV (Obj.mapSeq (fun _=>(#[]:Array Value))) hS rfl
  have oth:∀ b o,b≠S->s.heap.get? b=some o->((s.heap.push { cls:=.type "list", data:=.seq #[] }).update S (Obj.mapSeq (fun _=>(#[]:Array Value)))).get? b=some o:=
    fun b o hb e=>(mJ _ _ (Ne.symm hb)).trans (lC _ e)
  refine wpAny_bind (wpAny_letGo ?_)
  generalize (s.heap.push { cls:=.type "list", data:=.seq #[] }).update S (Obj.mapSeq (fun _=>(#[]:Array Value)))=h1 at hS₂ oth ⊢
  have hit1:h1.IsRevIter p l ((items.size:Int) - 1):=hit.at fun o e=>oth p o hSp.symm e
  have hl1:h1.IsList l items:=hl.at fun o e=>oth l o hSl.symm e
  unfold Builtin.List.listExtendWith
  refine wpAny_bind (wpAny_typeOf (T := "list_reverseiterator") (s:={ s with heap:=h1 }) hit1.typeIs ?_)
  have e1:Builtin.List.listSameRef (.ref S) (.ref p)=false:=by simp [Builtin.List.listSameRef,hSp]
  have e2:(Value.type "list_reverseiterator" == Value.type "list")=false:=by decide
  have e3:(Value.type "list_reverseiterator" == Value.type "tuple")=false:=by decide
  simp only [e1,e2,e3,Bool.or_false,lN,if_false];refine wpAny_bind (wpAny_pyIter_revIter (s:={ s with heap:=h1 }) hit1 ?_);refine wpAny_bind (wpAny_holding (SM (s:={ s with heap:=h1 }) hit1.typeIs ?_));refine wpAny_ite_split (fun hab=>absurd hab (by decide +kernel)) (fun _=>?_);have W:=Walks.listRev (prog:=prog) (w:=w) (A:=A.in1.in1) hh p l hne items;refine wpAny_pure ⟨plainId_quiet PySem.F.plain_extend_loop _,codeAny_extend_loopS (A:=A.in1) W.toS hn S (by simp [hSp,hSl]) _ items.size 0 { s with heap:=h1 } #[] _ rfl (mF _) ⟨mF _,by simpa using hit1,hl1⟩ hS₂ (ItemsOf.nil _) fun s' acc' c' hm hS' hacc=>?_⟩;rw [Moved.eq_with hm];have er:acc'=items.reverse:=by
    apply Array.ext
    · rw [hacc.1,Array.size_reverse]
    · intro i h1 h2;have this:items[items.size - 1 - i]?=some acc'[i]:=hacc.2 i (acc'[i]) (Array.getElem?_eq_getElem h1);rw [Array.getElem_reverse];have h3:i < items.size:=by rw [<- hacc.1];exact h1
      rw [Array.getElem?_eq_getElem (by omega)] at this;exact (Option.some.inj this).symm
  subst er;refine ⟨rfl,hQ s'.heap s'.toks c' (fun b o hb e=>hm.heap b o (fun hmem=>?_) (oth b o ?_ e)) hS'⟩
  · rcases lO.mp hmem with e' | hmem
    · exact absurd (lQ e) (by rw [hSe,e'];exact mW _)
    · exact hb (lu.mp hmem)
  · intro e';exact absurd (lQ e) (by rw [hSe,e'];exact mW _)
end
section
variable {X:Cx} {e:Expr} {te:TE} {p1 p2 pos1 pos2:Pos}
abbrev Rh (K:W.Frag) (te:TE):TE:=fun σ H Q=>te σ H fun v H1=>∃ a xs,v=.ref a/\CQ K H1 a xs/\∀ l,H1 l=none->Q (.ref l) (upd H1 l (.lst xs.reverse))
theorem EZ:∀ {xs:List V} {us:List Value},AE xs us->AE xs.reverse us.reverse
 | _,_,.nil=>.nil
 | _,_,.cons (a:=x) (b:=u) (l₁:=xs) (l₂:=us) r t=>by
  rw [oA,oA];exact AE.append (EZ t) (.cons r .nil)
theorem MQ (hc:X.calm=true) (hgL:Gl X "list") (hmL:X.mg "list" = none) (hgR:Gl X "reversed") (hmR:X.mg "reversed" = none) (he:PE X e te)
    (hs1:starEach [.Call (.Name "reversed" p2) [e] [] pos2] X.env=(false,eval (.Call (.Name "reversed" p2) [e] [] pos2) X.env)::starEach [] X.env:=by rfl)
    (hpl1:(backTo pos1 (starEach [] X.env)).any (·.1)=false:=by rfl)
    (hs2:starEach [e] X.env=(false,eval e X.env)::starEach [] X.env:=by rfl)
    (hpl2:(backTo pos2 (starEach [] X.env)).any (·.1)=false:=by rfl) :
    PE X (.Call (.Name "list" p1) [.Call (.Name "reversed" p2) [e] [] pos2] [] pos1) (Rh X.K te):=by
  intro pins s σ H Q I h;refine wpAny_Call_Name_kw (Bi I hgL hmL PyProof.Rows.Boot.«list» ?_ (by decide) (by decide));refine mD ?_ hs1 hpl1;rw [hs1]
  show wpAny _ _ (spliced ((false,eval (.Call (.Name "reversed" p2) [e] [] pos2) X.env)::backTo pos1 (starEach [] X.env))) _ _ s
  refine Calls.spliced_cons ?_;refine wpAny_Call_Name_kw (Bi I hgR hmR PyProof.Rows.Boot.«reversed» ?_ (by decide) (by decide));refine mD ?_ hs2 hpl2;rw [hs2];show wpAny _ _ (spliced ((false,eval e X.env)::backTo pos2 (starEach [] X.env))) _ _ s;refine Calls.spliced_cons (Ak (he pins s σ H _ I h) fun v s1 ⟨x,H1,I1,r1,q1⟩=>?_);obtain ⟨a,xs,ex,hq,q⟩:=q1;subst ex;cases r1;obtain ⟨its,rv,pl,hz⟩:=I1.list hq;have hlen:=rv.length;refine Calls.spliced_nil ?_;have hil:=pl.isList;refine call_reversed_list hil ?_;refine Calls.spliced_nil ?_;have hal:a < s1.heap.objs.size:=by obtain ⟨o,e,_⟩:=hil;exact lQ e
  refine SN (s:={ s1 with heap:=s1.heap.push (revObj a ((its.toArray.size:Int) - 1)) }) (I1.ok.hd hc) (lq hal) ⟨_,lT _ rfl,rfl,rfl⟩ (hil.at fun o e=>lC _ e) (by simp only [lF];omega) fun h' tk c' kp eh=>?_
  have kp':∀ b o,s1.heap.get? b=some o->h'.get? b=some o:=fun b o e=>kp b o (lq (lQ e)) (lC _ e)
  have hsz:(s1.heap.push (revObj a ((its.toArray.size:Int) - 1))).objs.size=s1.heap.objs.size+1:=size_push' _ _;refine ⟨.ref _,_,I1.laid (t':=tk) kp' (by rw [hsz];exact nh _) (show AZ X.prog X.w _ h' _ (.lst xs.reverse) from ⟨by rw [nL];exact hz,its.reverse,c',EZ rv,by rw [eh];simp⟩),rfl,q _ (I1.hok.fresh (by rw [hsz];exact nh _))⟩
end
section
variable {X:Cx} {pins:List (Addr×Obj)} {σ:St} {H:Hp} {s:Shared} {h':Heap}
theorem Inv.turnedL {t':Nat} {ch:List Addr} (I:Inv X pins σ H s) (k:∀ b o,b∉ch->s.heap.get? b=some o->h'.get? b=some o) (hf:∀ b∈ch,FpOk X pins H b):Inv X pins σ H { s with heap:=h',toks:=t' }:=by
 have nit:∀ b u,H b=some u->b∉ch:=fun b u e z=>by have:=(hf b z).1;rw [e] at this;cases this
 refine I.step (g':=s.gens) (d':=s.drawn) (ch:=ch) (fun b hb=>?_) (fun b o _ _ hc e _=>k b o hc e) (fun b o _ _ hc e _=>⟨o.slots,k b o hc e⟩) (fun _ _ _ _ n=>n)
  (fun b o hc e=>⟨o,k b o hc e⟩) (fun _ _ e=>e) (fun _ _ _ e=>e) (fun b ps e=>⟨#[],by rw [e];simp⟩) (fun m hm=>?_) (fun b u e=>?_) I.bare
 ·obtain ⟨f0,f1,f2,f3,f4,f5⟩:=hf b hb;exact ⟨f3,f1,f4,f5⟩
 ·obtain ⟨o,es,ep,ho,r⟩:=hm;exact ⟨o,es,ep,k _ o (fun z=>(hf _ z).2.1 rfl) ho,r⟩
 ·refine (I.hok b u e).stay (fun c v hc q=>k c v ?_ q) (fun _ q=>q) fun _ _ q=>q
  rcases hc with z | z
  ·rw [z];exact nit b u e
  ·exact nit c _ z
end
section
end
section
end
section
end
section
variable {κ:Type} [DecidableEq κ]
noncomputable def FG (kvs:List (κ×V)) (k:κ):Option V:=(kvs.find? fun kv=>decide (kv.1=k)).map (·.2)
noncomputable def Ft (kvs:List (κ×V)) (k:κ) (v:V):List (κ×V):=
 if (kvs.any fun kv=>decide (kv.1=k))=true then kvs.map (fun kv=>if kv.1=k then (kv.1,v) else kv) else kvs++[(k,v)]
theorem Cv {p:κ×V} {r:List (κ×V)} {k:κ} (e:p.1=k):FG (p::r) k=some p.2:=by simp [FG,nB,e]
theorem Cw {p:κ×V} {r:List (κ×V)} {k:κ} (e:¬ p.1=k):FG (p::r) k=FG r k:=by simp [FG,nB,e]
theorem KN (k:κ):∀ kvs:List (κ×V),(kvs.any fun kv=>decide (kv.1=k))=(FG kvs k).isSome
 | []=>rfl
 | p::r=>by
  rw [me]
  by_cases e:p.1=k
  ·simp only [Cv e,decide_eq_true e,oD,Option.isSome_some]
  ·rw [Cw e,decide_eq_false e,Bool.false_or];exact KN k r
theorem GK (kvs:List (κ×V)) (k:κ) (v:V):(Ft kvs k v).length<=kvs.length+1:=by
 unfold Ft;split
 ·rw [lZ];omega
 ·rw [la,lX,nW];omega
theorem Hi.isSome_eq {o:Option V} {u:Option Value} (r:Hi o u):o.isSome=u.isSome:=by
 cases o with
 | none=>cases u with
  | none=>rfl
  | some _=>exact (show False from r).elim
 | some _=>cases u with
  | none=>exact (show False from r).elim
  | some _=>rfl
theorem KV.val {kvs:List (κ×V)} {vs:List (κ×Value)} (r:KV kvs vs) (k:κ):Hi (FG kvs k) (valueAt vs k):=by
 unfold KV at r
 induction r with
 | nil=>exact True.intro
 | @cons p q ps qs h t ih =>
  obtain ⟨h1,h2⟩:=h
  by_cases e:p.1=k
  ·have e':q.1=k:=h1.symm.trans e;have b:valueAt (q::qs) k=some q.2:=by simp [valueAt,nB,e']
   rw [Cv e,b];exact h2
  ·have e':¬ q.1=k:=fun z=>e (h1.trans z)
   have b:valueAt (q::qs) k=valueAt qs k:=by simp [valueAt,nB,e']
   rw [Cw e,b];exact ih
theorem KV.any {kvs:List (κ×V)} {vs:List (κ×Value)} (r:KV kvs vs) (k:κ):(kvs.any fun kv=>decide (kv.1=k))=vs.any fun kv=>decide (kv.1=k):=by
 unfold KV at r
 induction r with
 | nil=>rfl
 | cons h t ih=>rw [me,me,ih,h.1]
theorem KV.repl {kvs:List (κ×V)} {vs:List (κ×Value)} (r:KV kvs vs) (k:κ) {y:V} {u:Value} (ry:RelV y u) :
    KV (kvs.map fun kv=>if kv.1=k then (kv.1,y) else kv) (vs.map fun kv=>if kv.1=k then (kv.1,u) else kv):=by
  unfold KV at r ⊢
  induction r with
  | nil=>exact .nil
  | @cons p q ps qs h t ih =>
    rw [lI,lI];refine .cons ?_ ih;obtain ⟨h1,h2⟩:=h
    by_cases e:p.1=k
    · rw [if_pos e,if_pos (h1.symm.trans e)];exact ⟨h1,ry⟩
    · rw [if_neg e,if_neg (fun z=>e (h1.trans z))];exact ⟨h1,h2⟩
theorem KV.put {kvs:List (κ×V)} {vs:List (κ×Value)} (r:KV kvs vs) (k:κ) {y:V} {u:Value} (ry:RelV y u):KV (Ft kvs k y) (stored vs k u):=by
 unfold Ft stored;rw [r.any k]
 by_cases e:(vs.any fun kv=>decide (kv.1=k))=true
 ·rw [if_pos e,if_pos e];exact r.repl k ry
 ·rw [if_neg e,if_neg e];exact Paired.snoc r ⟨rfl,ry⟩
theorem KV.length {kvs:List (κ×V)} {vs:List (κ×Value)} (r:KV kvs vs):kvs.length=vs.length:=Paired.length r
end
theorem LJ {P:Program} {w:World} {k:Ax} {u:Value} (r:RelV (kV k) u):(Ay P w).is k u=true:=by
 cases k with
 | inl i=>obtain ⟨t,e⟩:=(show ∃ t,u=Value.int i t from r);subst e;exact LF P w i t
 | inr x=>obtain ⟨t,e⟩:=(show ∃ t,u=Value.str x t from r);subst e;exact LD P w x t
theorem IZ {P:Program} {w:World}:∀ {ks:List Ax} {us:List Value},AE (ks.map kV) us->ItemsAre (Ay P w) ks us
 | [],_,r=>by rw [ma] at r;cases r;exact .nil
 | k::ks,_,r=>by
  rw [lI] at r;cases r with
  | cons h t=>exact .cons (LJ h) (IZ t)
abbrev KT (H:Hp):List (List Ax×V)->List (List Ax×Addr×Value)->Prop:=Paired fun p q=>p.1=q.1/\H q.2.1=some (.tup (p.1.map kV))/\RelV p.2 q.2.2
theorem KT.val {H:Hp} {kvs:List (List Ax×V)} {xs:List (List Ax×Addr×Value)} (r:KT H kvs xs) (k:List Ax):Hi (FG kvs k) ((atKey xs k).map (·.2)):=by
 induction r with
 | nil=>exact True.intro
 | @cons p q ps qs h t ih =>
  obtain ⟨h1,_,h2⟩:=h
  by_cases e:p.1=k
  ·have e':q.1=k:=h1.symm.trans e;have b:atKey (q::qs) k=some q.2:=by simp [atKey,nB,e']
   rw [Cv e,b];exact h2
  ·have e':¬ q.1=k:=fun z=>e (h1.trans z)
   have b:atKey (q::qs) k=atKey qs k:=by simp [atKey,nB,e']
   rw [Cw e,b];exact ih
theorem KT.repl {H:Hp} {kvs:List (List Ax×V)} {xs:List (List Ax×Addr×Value)} (r:KT H kvs xs) (k:List Ax) {y:V} {u:Value} (ry:RelV y u) :
    KT H (kvs.map fun kv=>if kv.1=k then (kv.1,y) else kv) (xs.map (putAt k u)):=by
  induction r with
  | nil=>exact .nil
  | @cons p q ps qs h t ih =>
    rw [lI,lI];refine .cons ?_ ih;obtain ⟨h1,h2,h3⟩:=h;unfold putAt
    by_cases e:p.1=k
    · rw [if_pos e,if_pos (h1.symm.trans e)];exact ⟨h1,h2,ry⟩
    · rw [if_neg e,if_neg (fun z=>e (h1.trans z))];exact ⟨h1,h2,h3⟩
theorem KT.put {H:Hp} {kvs:List (List Ax×V)} {xs:List (List Ax×Addr×Value)} (r:KT H kvs xs) (k:List Ax) {b:Addr} {y:V} {u:Value} (hb:H b=some (.tup (k.map kV))) (ry:RelV y u) :
    KT H (Ft kvs k y) (storedH xs k b u):=by
  have e:(kvs.any fun kv=>decide (kv.1=k))=(atKey xs k).isSome:=by
    rw [KN,(r.val k).isSome_eq,nz]
  unfold Ft storedH;rw [e]
  by_cases q:(atKey xs k).isSome=true
  · rw [if_pos q,if_pos q];exact r.repl k ry
  · rw [if_neg q,if_neg q];exact Paired.snoc r ⟨rfl,hb,ry⟩
theorem KT.keeps {H H':Hp} {kvs:List (List Ax×V)} {xs:List (List Ax×Addr×Value)} (r:KT H kvs xs) (ht:∀ b ys,H b=some (.tup ys)->H' b=some (.tup ys)):KT H' kvs xs:=
 Paired.mapP r fun _ _ z=>⟨z.1,ht _ _ z.2.1,z.2.2⟩
section
variable {P:Program} {w:World} {H:Hp} {h:Heap} {a:Addr}
theorem YU {u:HO} (ok:EY P w H h) (e:Rd H a u):AZ P w H h a u:=e.ok ok
theorem Ik {kvs:List (Ax×V)} (ok:EY P w H h) (e:Rd H a (.dK kvs)):kvs.length<=sizeLine/\(a == sysModules)=false/\∃ vs,KV kvs vs/\h.DictOf (Ay P w) a vs:=
 show AZ P w H h a (.dK kvs) from YU ok e
theorem gj {kvs:List (Ax×V)} (ok:EY P w H h) (e:H a=some (.dK kvs)):kvs.length<=sizeLine/\(a == sysModules)=false/\∃ vs,KV kvs vs/\h.DictOf (Ay P w) a vs:=Ik ok (.inl e)
theorem HQ {ks:List Ax} (ok:EY P w H h) (e:H a=some (.tup (ks.map kV))):(tupleKind (Ay P w)).is h ks a:=by
 obtain ⟨_,its,r,o,h1,h2,_,n,h3⟩:=(show AZ P w H h a (.tup (ks.map kV)) from ok a _ e);exact ⟨o,its.toArray,n,h1,h2,h3,by simpa using IZ r⟩
theorem LS {kvs:List (List Ax×V)} (ok:EY P w H h) (e:Rd H a (.dT kvs)):kvs.length<=sizeLine/\(a == sysModules)=false /\
    ∃ xs,KT H kvs xs/\h.DictOfH (tupleKind (Ay P w)) a xs:=by
  obtain ⟨z,y,xs,r,o,es,ep,h1,h2,h3,h4,h5⟩:=(show AZ P w H h a (.dT kvs) from YU ok e);refine ⟨z,y,xs,r,o,es,ep,h1,h2,h3,h4,fun x hx=>?_,h5⟩;have all:∀ {l:List (List Ax×V)} {m:List (List Ax×Addr×Value)},KT H l m->∀ x∈m,(tupleKind (Ay P w)).is h x.1 x.2.1:=by
    intro l m q
    induction q with
    | nil=>intro x hx;exact nomatch hx
    | @cons p q ps qs hq t ih =>
      intro x hx;rcases lO.mp hx with e | hx
      · subst e;exact HQ ok (by rw [<- hq.1];exact hq.2.1)
      · exact ih x hx
  exact all r x hx
theorem gi {kvs:List (List Ax×V)} (ok:EY P w H h) (e:H a=some (.dT kvs)):kvs.length<=sizeLine/\(a == sysModules)=false /\
    ∃ xs,KT H kvs xs/\h.DictOfH (tupleKind (Ay P w)) a xs:=LS ok (.inl e)
end
def Hv (H:Hp) (a:Addr) (y:V) (r:Option V):Prop:=
 (∃ kvs k,Rd H a (.dK kvs)/\y=kV k/\r=FG kvs k)\/∃ kvs k b,Rd H a (.dT kvs)/\y=.ref b/\H b=some (.tup (k.map kV))/\r=FG kvs k
def VW (H:Hp) (a:Addr) (y v:V) (H':Hp):Prop:=
 (∃ kvs k,H a=some (.dK kvs)/\y=kV k/\kvs.length < sizeLine/\H'=upd H a (.dK (Ft kvs k v))) \/
 ∃ kvs k b,H a=some (.dT kvs)/\y=.ref b/\H b=some (.tup (k.map kV))/\kvs.length < sizeLine/\H'=upd H a (.dT (Ft kvs k v))
theorem Hv.k {H:Hp} {a:Addr} {kvs:List (Ax×V)} {k:Ax} (e:H a=some (.dK kvs)):Hv H a (kV k) (FG kvs k):=.inl ⟨kvs,k,.inl e,rfl,rfl⟩
theorem VW.k {H:Hp} {a:Addr} {kvs:List (Ax×V)} {k:Ax} {v:V} (e:H a=some (.dK kvs)) (hl:kvs.length < sizeLine):VW H a (kV k) v (upd H a (.dK (Ft kvs k v))):=.inl ⟨kvs,k,e,rfl,hl,rfl⟩
section
variable {X:Cx} {pins:List (Addr×Obj)} {σ:St} {H:Hp} {s:Shared} {a:Addr} {y v:V} {u r:Value} {o:Option V} {A:Around} {E:Value->Shared->Prop}
theorem Inv.big (I:Inv X pins σ H s):sysModules < s.heap.objs.size:=by
 have h:mainGlobals < s.heap.objs.size:=(I.mod.glob.keeps I.bk).lt;exact Nat.lt_trans (by decide) h
theorem QW {Q:Value->Shared->Prop} (hu:A.units+1 < cLine) (I:Inv X pins σ H s) (g:Hv H a y (some v)) (ry:RelV y u) (h:∀ w' s',Inv X pins σ H s'->RelV v w'->Q w' s') :
    wpAny (model X.prog X.w) A (getItem (.ref a) u) Q E s:=by
  rcases g with ⟨kvs,k,e,ey,l⟩ | ⟨kvs,k,b,e,ey,eb,l⟩
  · subst ey;obtain ⟨z,hd,vs,rel,dd⟩:=Ik I.hok e;obtain ⟨w',hw,rw'⟩:=Hi.some_of (v:=v) (o:=valueAt vs k) (by rw [l];exact rel.val k);exact wpAny_getItem_of (LJ ry) dd.mapOf hw (h w' _ (I.tok _) rw')
  · subst ey;cases (show u=Value.ref b from ry);obtain ⟨z,hd,xs,rel,dd⟩:=LS I.hok e;obtain ⟨w',hw,rw'⟩:=Hi.some_of (v:=v) (o:=(atKey xs k).map (·.2)) (by rw [l];exact rel.val k);obtain ⟨p,hp,hp2⟩:=mE.mp hw;refine wpAny_getItem_heap (tupleKind_room_in1 hu) (HQ I.hok eb) dd hp ?_;rw [hp2];exact h w' _ (I.tok _) rw'
theorem jP {Q:Value->Shared->Prop} (hu:A.units+1 < cLine) (I:Inv X pins σ H s) (g:Hv H a y o) (ry:RelV y u) (h:∀ s',Inv X pins σ H s'->Q (.bool o.isSome) s') :
    wpAny (model X.prog X.w) A (compareOp .In u (.ref a)) Q E s:=by
  rcases g with ⟨kvs,k,e,ey,l⟩ | ⟨kvs,k,b,e,ey,eb,l⟩
  · subst ey;obtain ⟨z,hd,vs,rel,dd⟩:=Ik I.hok e;refine wpAny_in_of (LJ ry) hd dd.mapOf ?_;rw [<- (rel.val k).isSome_eq,<- l];exact h _ (I.tok _)
  · subst ey;cases (show u=Value.ref b from ry);obtain ⟨z,hd,xs,rel,dd⟩:=LS I.hok e;refine wpAny_in_heap (tupleKind_room_in1 hu) (HQ I.hok eb) hd dd ?_;have q:=(rel.val k).isSome_eq;rw [nz] at q;rw [<- q,<- l];exact h _ (I.tok _)
theorem XN {Q:Value->Shared->Prop} (hu:A.units+1 < cLine) (I:Inv X pins σ H s) (g:Hv H a y o) (ry:RelV y u) (h:∀ s',Inv X pins σ H s'->Q (.bool (!o.isSome)) s') :
    wpAny (model X.prog X.w) A (compareOp .NotIn u (.ref a)) Q E s:=by
  rcases g with ⟨kvs,k,e,ey,l⟩ | ⟨kvs,k,b,e,ey,eb,l⟩
  · subst ey;obtain ⟨z,hd,vs,rel,dd⟩:=Ik I.hok e;refine wpAny_notIn_of (LJ ry) hd dd.mapOf ?_;rw [<- (rel.val k).isSome_eq,<- l];exact h _ (I.tok _)
  · subst ey;cases (show u=Value.ref b from ry);obtain ⟨z,hd,xs,rel,dd⟩:=LS I.hok e;refine wpAny_notIn_heap (tupleKind_room_in1 hu) (HQ I.hok eb) hd dd ?_;have q:=(rel.val k).isSome_eq;rw [nz] at q;rw [<- q,<- l];exact h _ (I.tok _)
theorem Oe {h':Heap} {t':Nat} {ob:HO} (I:Inv X pins σ H s) (mu:dg (H a)) (hs:Heap.SameBut a s.heap h') (he:∃ q,h'.get? a=some q) (new:AZ X.prog X.w (upd H a ob) h' a ob) :
    Inv X pins σ (upd H a ob) { s with heap:=h',toks:=t' }:=
  I.write (x:=a) (e:=a) mu (.inl rfl) (fun b q hb z=>(hs.2 b hb).trans z) he new
theorem cM {P:Program} {w:World} {H':Hp} {h':Heap} {kvs:List (Ax×V)} {vs:List (Ax×Value)} (z:kvs.length<=sizeLine) (hd:(a == sysModules)=false) (rel:KV kvs vs) (dd:h'.DictOf (Ay P w) a vs) :
    AZ P w H' h' a (.dK kvs):=⟨z,hd,vs,rel,dd⟩
theorem QV {H':Hp} {Q:Unit->Shared->Prop} (hu:A.units+1 < cLine) (I:Inv X pins σ H s) (g:VW H a y v H') (ry:RelV y u) (rv:RelV v r) (h:∀ s',Inv X pins σ H' s'->Q () s') :
    wpAny (model X.prog X.w) A (setItem (.ref a) u r) Q E s:=by
  rcases g with ⟨kvs,k,e,ey,l,eH⟩ | ⟨kvs,k,b,e,ey,eb,l,eH⟩
  · subst ey eH;obtain ⟨z,hd,vs,rel,dd⟩:=gj I.hok e;have hz:vs.length<=sizeLine:=by rw [<- rel.length];exact z
    have hl:(Ft kvs k v).length<=sizeLine:=by have:=GK kvs k v;omega
    refine wpAny_setItem_pairs (hsz:=hz) (LJ ry) dd fun h' dd' hs=>h _ ?_
    have he:∃ q,h'.get? a=some q:=let ⟨q,_,_,hq,_⟩:=dd';⟨q,hq⟩;exact Oe I (by rw [e];exact True.intro) hs he (cM hl hd (rel.put k rv) dd')
  · subst ey eH;cases (show u=Value.ref b from ry);obtain ⟨z,hd,xs,rel,dd⟩:=gi I.hok e;have hz:xs.length<=sizeLine:=by rw [<- Paired.length rel];exact z
    have hl:(Ft kvs k v).length<=sizeLine:=by have:=GK kvs k v;omega
    refine wpAny_setItem_heap (hsz:=hz) (tupleKind_room_in1 hu) (HQ I.hok eb) dd fun h' dd' hs=>h _ ?_
    obtain ⟨q,es,ep,hq,h2,h3,h4,_,h5⟩:=dd';refine Oe I (by rw [e];exact True.intro) hs ⟨q,hq⟩ ⟨hl,hd,_,(rel.put k eb rv).keeps fun c ys ec=>?_,q,es,ep,hq,h2,h3,h4,h5⟩;rw [AU (gA ec e (fun z=>nomatch z))];exact ec
end
section
variable {X:Cx} {pins:List (Addr×Obj)} {σ:St} {H:Hp} {s:Shared} {a:Addr} {kvs:List (Ax×V)} {k:Ax} {u:Value} {A:Around} {E:Value->Shared->Prop}
theorem gk {Q:Value->Shared->Prop} (I:Inv X pins σ H s) (e:Rd H a (.dK kvs)) (h:∀ t s',Inv X pins σ H s'->Q (.int kvs.length t) s'):wpAny (model X.prog X.w) A (call (.builtin "len") [.ref a]) Q E s:=by
 obtain ⟨z,hd,vs,rel,dd⟩:=Ik I.hok e;refine call_len_dict hd dd (by rw [<- rel.length];rw [sizeLine_eq] at z;omega) ?_;rw [<- rel.length];exact h _ _ (I.tok _)
end
theorem LU {X:Cx} {pins:List (Addr×Obj)} {σ:St} {H:Hp} {s:Shared} {a:Addr} {y:V} {o:Option V} (I:Inv X pins σ H s) (g:Hv H a y o):s.TypeIs (.ref a) "dict" := by
 rcases g with ⟨kvs,k,e,_,_⟩ | ⟨kvs,k,b,e,_,_,_⟩
 ·obtain ⟨_,_,vs,_,dd⟩:=Ik I.hok e;exact dd.typeIs
 ·obtain ⟨_,_,xs,_,dd⟩:=LS I.hok e;exact dd.typeIs
section
end
theorem UJ {P:Program} {w:World} {H:Hp} (h:Heap) (hb:sysModules < h.objs.size):AZ P w H (h.push { cls:=.type "dict", data:=.dict #[] }) h.objs.size (.dK []):=
 ⟨mF _,beq_eq_false_iff_ne.mpr (Ne.symm (lq hb)),[],.nil,Heap.DictOf.new h⟩
abbrev Rj:TE:=fun _ H Q=>∀ p,H p=none->Q (.ref p) (upd H p (.dK []))
section
variable {X:Cx} {pos:Pos}
theorem Kw:PE X (.Dict [] [] pos) Rj:=fun pins s σ H Q I h =>
 wpAny_Dict_empty ⟨.ref s.heap.objs.size,_,I.laid (a:=s.heap.objs.size) (o:=.dK []) (t':=s.toks) (fun _ _ q=>lC _ q) (lJ _) (UJ s.heap I.big),rfl,h _ (I.hok.fresh (lJ _))⟩
end
section
end
section
end
section
end
section
end
section
variable {X:Cx}
theorem Qi:BC X (.builtin "len") (fun xs H Q=>∃ a kvs,xs=[V.ref a]/\H a=some (.dK kvs)/\Q (.int kvs.length) H):=by
 intro pins s σ H xs us Q I r h;obtain ⟨a,kvs,rfl,ha,q⟩:=h;obtain ⟨u,rfl,ru⟩:=vals1 r;cases ru;exact gk I (.inl ha) fun t s' I'=>⟨.int kvs.length,H,I',⟨t,rfl⟩,q⟩
end
section
end
section
end
section
end
section
end
section
end
section
end
section
end
section
end
section
end
noncomputable def cs (z:Str):List Nat:=z.cps.toList
noncomputable def jn (sep:List Nat):List (List Nat)->List Nat
 | []=>[]
 | x::ys=>x++(ys.flatMap fun y=>sep++y)
theorem dk (sep:List Nat):∀ ys:List (List Nat),Txt.join (tx sep) (ys.map tx)=tx (jn sep ys):=by
 intro ys;have h:Txt.join (tx sep) (ys.map tx)=Str.join (tx sep) (ys.map tx):=by simpa using join_plain_closes (tx sep) (ys.map tx)
 rw [h];have:∀ (x:List Nat) (ys:List (List Nat)),Str.join (tx sep) ((x::ys).map tx)=tx (x++(ys.flatMap fun y=>sep++y)):=by
  intro x ys
  induction ys generalizing x with
  | nil=>simp [Str.join]
  | cons y ys ih =>
   show tx x++tx sep++Str.join (tx sep) ((y::ys).map tx)=_;rw [ih y,Lu,Lu];simp
 cases ys with
 | nil=>rfl
 | cons x ys=>exact this x ys
theorem ZQ (ys:List (List Nat)):((ys.map tx).map (·.length)).sum=(ys.map List.length).sum:=by
 rw [List.map_map];congr 1
end L2
namespace R
open PySem L2
inductive Dv where
 | non | bl (b:Bool) | int (i:Int) | str (x:List Nat) | tup (xs:List Dv) | lst (xs:List Dv) | dct (ks:List Ax) (xs:List Dv) | ref (k:Nat) | scr (ns:List Int) | ty (n:String) | mtp (ls:List (List Nat)) | dti (kvs:List (List Int×Int))
 deriving Inhabited
structure G where
 Z:Addr->Prop
 μ:List Addr
noncomputable abbrev Fp:=Addr->Prop
def Disj (P Q:Fp):Prop:=∀ a,P a->Q a->False
def nop:Fp:=fun _=>False
def Lk (g:G) (H:Hp) (o:Nat) (a:Addr) (vs:List V):Prop:=H a=some (.lst vs)/\(o=0->g.Z a)/\(o≠0->¬ g.Z a)
def Scr (K:W.Frag) (H:Hp) (a:Addr) (ns:List Int):Prop:=(∃ o,H a=some (.frz o (.lst (ns.map V.int)))) \/
    ∃ (o:Obj) (its:Array Value) (n:Nat),K.lookup a=some o/\o.cls=.type "list" /\ o.dict=none/\o.data=.seq its n/\its.size<=sizeLine/\AE (ns.map V.int) its.toList
theorem Scr.sq {K:W.Frag} {H:Hp} {a:Addr} {ns:List Int} (h:Scr K H a ns):CQ K H a (ns.map V.int):=h.elim (fun h=>.inl (.inr h)) .inr
def Mtp (K:W.Frag) (a:Addr) (ls:List (List Nat)):Prop:=∃ (o:Obj) (its:Array Value) (n:Nat),K.lookup a=some o/\o.cls=.type "tuple" /\ o.data=.seq its n/\its.size<=sizeLine/\AE (ls.map fun l=>V.str (tx l)) its.toList
def encD (kvs:List (List Int×Int)):List (List Ax×V):=kvs.map fun p=>(p.1.map Sum.inl,V.int p.2)
mutual
noncomputable def Rep (K:W.Frag) (g:G) (H:Hp):Nat->Dv->V->Fp->Prop
 | _,.non,v,P=>v=.non/\∀ a,¬ P a
 | _,.bl b,v,P=>v=.bl b/\∀ a,¬ P a
 | _,.int i,v,P=>v=.int i/\∀ a,¬ P a
 | _,.str l,v,P=>v=.str (tx l)/\∀ a,¬ P a
 | o,.tup ds,v,P=>∃ a vs,v=.ref a/\H a=some (.tup vs)/\Reps K g H (o - 1) ds vs P
 | o,.lst ds,v,P=>∃ a vs P',v=.ref a/\Lk g H o a vs/\Reps K g H (o - 1) ds vs P'/\¬ P' a/\∀ b,P b↔(o≠0/\b=a)\/P' b
 | o,.dct ks ds,v,P=>∃ a vs,v=.ref a/\H a=some (.dK (ks.zip vs))/\(o=0->g.Z a)/\(o≠0->¬ g.Z a)/\(ks.length=ds.length/\∃ R,Reps K g H 0 ds vs R)/\∀ b,P b↔(o≠0/\b=a)
 | _,.ref k,v,P=>(∃ a,g.μ[k]?=some a/\v=.ref a)/\∀ a,¬ P a
 | _,.scr ns,v,P=>(∃ a,v=.ref a/\Scr K H a ns)/\∀ a,¬ P a
 | _,.ty n,v,P=>v=.ty n/\∀ a,¬ P a
 | _,.mtp ls,v,P=>(∃ a,v=.ref a/\Mtp K a ls)/\∀ a,¬ P a
 | o,.dti kvs,v,P=>∃ a,v=.ref a/\H a=some (.dT (encD kvs))/\(o=0->g.Z a)/\(o≠0->¬ g.Z a)/\∀ b,P b↔(o≠0/\b=a)
noncomputable def Reps (K:W.Frag) (g:G) (H:Hp):Nat->List Dv->List V->Fp->Prop
 | _,[],vs,P=>vs=[]/\∀ a,¬ P a
 | o,d::ds,vs,P=>∃ v r P1 P2,vs=v::r/\Rep K g H o d v P1/\Reps K g H o ds r P2/\Disj P1 P2/\∀ a,P a↔P1 a\/P2 a
end
def Zd (g:G) (H:Hp):Prop:=∀ a,g.Z a->H a≠none
structure Step (g:G) (P:Fp) (H:Hp) (g':G) (P':Fp) (H':Hp):Prop where
 keep:∀ b o,H b=some o->¬ P b->H' b=some o
 dom:∀ b,H' b=none->H b=none
 zm:∀ a,g.Z a->g'.Z a
 zn:∀ a,g'.Z a->g.Z a\/P a\/H a=none
 mu:∃ r,g'.μ=g.μ++r
 nw:∀ a,P' a->P a\/H a=none
 zd:Zd g H->Zd g' H'
theorem Step.refl {g:G} {P:Fp} {H:Hp}:Step g P H g P H:=⟨fun _ _ h _=>h,fun _ h=>h,fun _ h=>h,fun _ h=>.inl h,⟨[],by simp⟩,fun _ h=>.inl h,fun h=>h⟩
theorem Step.trans {g g1 g2:G} {P P1 P2:Fp} {H H1 H2:Hp} (a:Step g P H g1 P1 H1) (b:Step g1 P1 H1 g2 P2 H2):Step g P H g2 P2 H2:=by
 refine ⟨fun c o h n=>?_,fun c h=>a.dom c (b.dom c h),fun c h=>b.zm c (a.zm c h),fun c h=>?_,?_,fun c h=>?_,fun z=>b.zd (a.zd z)⟩
 ·refine b.keep c o (a.keep c o h n) fun z=>?_
  rcases a.nw c z with z | z
  ·exact n z
  ·rw [h] at z;cases z
 ·rcases b.zn c h with z | z | z
  ·exact a.zn c z
  ·exact (a.nw c z).elim (fun q=>.inr (.inl q)) fun q=>.inr (.inr q)
  ·exact .inr (.inr (a.dom c z))
 ·obtain ⟨r1,e1⟩:=a.mu;obtain ⟨r2,e2⟩:=b.mu;exact ⟨r1++r2,by rw [e2,e1,mN]⟩
 ·rcases b.nw c h with z | z
  ·exact a.nw c z
  ·exact .inr (a.dom c z)
theorem Step.sub {g g':G} {P Q P' Q':Fp} {H H':Hp} (s:Step g P H g' P' H') (h1:∀ a,P a->Q a) (h2:∀ a,Q' a->P' a):Step g Q H g' Q' H':=
 ⟨fun b o h n=>s.keep b o h fun z=>n (h1 b z),s.dom,s.zm,fun a h=>(s.zn a h).elim .inl fun z=>.inr (z.elim (fun q=>.inl (h1 a q)) .inr),s.mu,fun a h=>(s.nw a (h2 a h)).elim (fun q=>.inl (h1 a q)) .inr,s.zd⟩
theorem Step.less {g g':G} {P P' Q':Fp} {H H':Hp} (s:Step g P H g' P' H') (h2:∀ a,Q' a->P' a):Step g P H g' Q' H':=s.sub (fun _ q=>q) h2
theorem Step.frame {g g':G} {P P' R:Fp} {H H':Hp} (s:Step g P H g' P' H'):Step g (fun a=>P a\/R a) H g' (fun a=>P' a\/R a) H':=
 ⟨fun b o h n=>s.keep b o h fun z=>n (.inl z),s.dom,s.zm,fun a h=>(s.zn a h).elim .inl fun z=>.inr (z.elim (fun q=>.inl (.inl q)) .inr),s.mu,fun a h=>h.elim (fun q=>(s.nw a q).elim (fun z=>.inl (.inl z)) .inr) fun q=>.inl (.inr q),s.zd⟩
theorem Step.same {g:G} {P:Fp} {H H':Hp} (s:NW H H'):Step g P H g P H':=
 have dm:∀ b,H' b=none->H b=none:=fun b h=>by
  cases e:H b with
  | none=>rfl
  | some o=>rw [s b o e] at h;cases h
 ⟨fun b o h _=>s b o h,dm,fun _ h=>h,fun _ h=>.inl h,⟨[],by simp⟩,fun _ h=>.inl h,fun z a h q=>z a h (dm a q)⟩
def FpOk (g:G) (H:Hp) (P:Fp):Prop:=∀ a,P a->dg (H a)/\¬ g.Z a
theorem FpOk.or {g:G} {H:Hp} {P Q:Fp} (h:FpOk g H P) (k:FpOk g H Q):FpOk g H fun a=>P a\/Q a:=fun a q=>q.elim (h a) (k a)
theorem FpOk.nop {g:G} {H:Hp}:FpOk g H nop:=fun _ z=>z.elim
theorem FpOk.new {g:G} {H:Hp} {P:Fp} (h:FpOk g H P) {a:Addr} (n:H a=none):¬ P a:=fun z=>by have:=(h a z).1;rw [n] at this;exact this
theorem nop_iff {P:Fp} (h:∀ a,¬ P a):P=nop:=funext fun a=>propext ⟨fun z=>(h a z).elim,fun z=>z.elim⟩
section
variable {K:W.Frag} {g g':G} {H H':Hp}
theorem Step.out {P P' R:Fp} (s:Step g P H g' P' H') (ok:FpOk g H R) (n:Disj R P):Disj R P':=fun a q z=>(s.nw a z).elim (fun z=>n a q z) fun z=>ok.new z q
theorem Lk.held {o:Nat} {a:Addr} {vs:List V} {P P':Fp} (h:Lk g H o a vs) (hn:o≠0->¬ P a) (s:Step g P H g' P' H') (ok:FpOk g H P):Lk g' H' o a vs:=by
 have np:¬ P a:=by
  by_cases z:o=0
  ·exact fun q=>(ok a q).2 (h.2.1 z)
  ·exact hn z
 refine ⟨s.keep _ _ h.1 np,fun z=>s.zm _ (h.2.1 z),fun z q=>?_⟩;rcases s.zn _ q with q | q | q
 ·exact h.2.2 z q
 ·exact np q
 ·rw [h.1] at q;cases q
mutual
theorem Rep.none0:∀ {d:Dv} {v:V} {R:Fp},Rep K g H 0 d v R->∀ a,¬ R a
 | .non,v,R,h | .bl _,v,R,h | .int _,v,R,h | .str _,v,R,h | .ty _,v,R,h | .mtp _,v,R,h | .ref _,v,R,h | .scr _,v,R,h=>by unfold Rep at h;exact h.2
 | .dti n,v,R,h=>by
  unfold Rep at h;obtain ⟨b,e,h1,h2,h3,h4⟩:=h;exact fun a q=>((h4 a).mp q).1 rfl
 | .tup ds,v,R,h=>by
  unfold Rep at h;obtain ⟨_,vs,e,h1,h2⟩:=h;exact Reps.none0 h2
 | .lst ds,v,R,h=>by
  unfold Rep at h;obtain ⟨b,vs,R',e,h1,h2,h3,h5⟩:=h;exact fun a q=>((h5 a).mp q).elim (fun z=>z.1 rfl) fun z=>Reps.none0 h2 a z
 | .dct ks ds,v,R,h=>by
  unfold Rep at h;obtain ⟨b,vs,e,h1,h2,h3,h5,h4⟩:=h;exact fun a q=>((h4 a).mp q).1 rfl
theorem Reps.none0:∀ {ds:List Dv} {vs:List V} {R:Fp},Reps K g H 0 ds vs R->∀ a,¬ R a
 | [],vs,R,h=>by unfold Reps at h;exact h.2
 | d::ds,vs,R,h=>by
  unfold Reps at h;obtain ⟨v,r,P1,P2,e,h1,h2,h3,h4⟩:=h;exact fun a q=>((h4 a).mp q).elim (fun z=>Rep.none0 h1 a z) fun z=>Reps.none0 h2 a z
end
mutual
theorem Rep.held {P P':Fp} (s:Step g P H g' P' H') (ok:FpOk g H P):∀ {o:Nat} {d:Dv} {v:V} {R:Fp},Rep K g H o d v R->Disj R P->Rep K g' H' o d v R
 | _,.non,v,R,h,_ | _,.bl _,v,R,h,_ | _,.int _,v,R,h,_ | _,.str _,v,R,h,_ | _,.ty _,v,R,h,_ | _,.mtp _,v,R,h,_=>by unfold Rep at h ⊢;exact h
 | o,.dti n,v,R,h,d=>by
  unfold Rep at h ⊢;obtain ⟨a,e,h1,h2,h3,h4⟩:=h;have hn:¬ P a:=fun z=>by
   by_cases q:o=0
   ·exact (ok a z).2 (h2 q)
   ·exact d a ((h4 a).mpr ⟨q,rfl⟩) z
  refine ⟨a,e,s.keep _ _ h1 hn,fun q=>s.zm _ (h2 q),fun q z=>?_,h4⟩;rcases s.zn _ z with z | z | z
  ·exact h3 q z
  ·exact hn z
  ·rw [h1] at z;cases z
 | o,.tup ds,v,R,h,n=>by
  unfold Rep at h ⊢;obtain ⟨a,vs,e,h1,h2⟩:=h;exact ⟨a,vs,e,s.keep _ _ h1 fun z=>(by have:=(ok a z).1;rw [h1] at this;exact this),Reps.held s ok h2 n⟩
 | o,.lst ds,v,R,h,n=>by
  unfold Rep at h ⊢;obtain ⟨a,vs,R',e,h1,h2,h3,h5⟩:=h;exact ⟨a,vs,R',e,h1.held (fun z q=>n a ((h5 a).mpr (.inl ⟨z,rfl⟩)) q) s ok,Reps.held s ok h2 fun b q z=>n b ((h5 b).mpr (.inr q)) z,h3,h5⟩
 | o,.dct ks ds,v,R,h,d=>by
  unfold Rep at h ⊢;obtain ⟨a,vs,e,h1,h2,h3,⟨h5,R',h6⟩,h4⟩:=h;have hn:¬ P a:=fun z=>by
   by_cases q:o=0
   ·exact (ok a z).2 (h2 q)
   ·exact d a ((h4 a).mpr ⟨q,rfl⟩) z
  refine ⟨a,vs,e,s.keep _ _ h1 hn,fun q=>s.zm _ (h2 q),fun q z=>?_,⟨h5,R',Reps.held s ok h6 fun b q z=>(Reps.none0 h6 b q).elim⟩,h4⟩;rcases s.zn _ z with z | z | z
  ·exact h3 q z
  ·exact hn z
  ·rw [h1] at z;cases z
 | _,.ref k,v,R,h,_=>by
  unfold Rep at h ⊢;obtain ⟨⟨a,h1,h2⟩,h3⟩:=h;obtain ⟨r,e⟩:=s.mu;refine ⟨⟨a,?_,h2⟩,h3⟩;rw [e,lL (lD.mp h1).1];exact h1
 | _,.scr ns,v,R,h,_=>by
  unfold Rep at h ⊢;obtain ⟨⟨a,h1,h2⟩,h3⟩:=h;refine ⟨⟨a,h1,?_⟩,h3⟩;rcases h2 with ⟨o,h2⟩ | h2
  ·exact .inl ⟨o,s.keep _ _ h2 fun z=>by have:=(ok a z).1;rw [h2] at this;exact this⟩
  ·exact .inr h2
theorem Reps.held {P P':Fp} (s:Step g P H g' P' H') (ok:FpOk g H P):∀ {o:Nat} {ds:List Dv} {vs:List V} {R:Fp},Reps K g H o ds vs R->Disj R P->Reps K g' H' o ds vs R
 | _,[],vs,R,h,_=>by unfold Reps at h ⊢;exact h
 | o,d::ds,vs,R,h,n=>by
  unfold Reps at h ⊢;obtain ⟨v,r,P1,P2,e,h1,h2,h3,h4⟩:=h;exact ⟨v,r,P1,P2,e,Rep.held s ok h1 fun a q z=>n a ((h4 a).mpr (.inl q)) z,Reps.held s ok h2 fun a q z=>n a ((h4 a).mpr (.inr q)) z,h3,h4⟩
end
mutual
theorem Rep.fpOk:∀ {o:Nat} {d:Dv} {v:V} {R:Fp},Rep K g H o d v R->FpOk g H R
 | _,.non,v,R,h,a,q | _,.bl _,v,R,h,a,q | _,.int _,v,R,h,a,q | _,.str _,v,R,h,a,q | _,.ty _,v,R,h,a,q | _,.mtp _,v,R,h,a,q | _,.ref _,v,R,h,a,q | _,.scr _,v,R,h,a,q=>by unfold Rep at h;exact (h.2 a q).elim
 | o,.dti n,v,R,h,a,q=>by
  unfold Rep at h;obtain ⟨b,e,h1,h2,h3,h4⟩:=h;obtain ⟨ho,rfl⟩:=(h4 a).mp q;exact ⟨by rw [h1];trivial,h3 ho⟩
 | o,.tup ds,v,R,h,a,q=>by
  unfold Rep at h;obtain ⟨_,vs,e,h1,h2⟩:=h;exact Reps.fpOk h2 a q
 | o,.lst ds,v,R,h,a,q=>by
  unfold Rep at h;obtain ⟨b,vs,R',e,h1,h2,h3,h5⟩:=h;rcases (h5 a).mp q with ⟨z,rfl⟩ | z
  ·exact ⟨by rw [h1.1];trivial,h1.2.2 z⟩
  ·exact Reps.fpOk h2 a z
 | o,.dct ks ds,v,R,h,a,q=>by
  unfold Rep at h;obtain ⟨b,vs,e,h1,h2,h3,h5,h4⟩:=h;obtain ⟨ho,rfl⟩:=(h4 a).mp q;exact ⟨by rw [h1];trivial,h3 ho⟩
theorem Reps.fpOk:∀ {o:Nat} {ds:List Dv} {vs:List V} {R:Fp},Reps K g H o ds vs R->FpOk g H R
 | _,[],vs,R,h,a,q=>by unfold Reps at h;exact (h.2 a q).elim
 | o,d::ds,vs,R,h,a,q=>by
  unfold Reps at h;obtain ⟨v,r,P1,P2,e,h1,h2,h3,h4⟩:=h;rcases (h4 a).mp q with z | z
  ·exact Rep.fpOk h1 a z
  ·exact Reps.fpOk h2 a z
end
theorem Rep.iff {o:Nat} {d:Dv} {v:V} {P Q:Fp} (h:Rep K g H o d v P) (e:∀ a,Q a↔P a):Rep K g H o d v Q:=by
 have:Q=P:=funext fun a=>propext (e a)
 rw [this];exact h
theorem Reps.iff {o:Nat} {d:List Dv} {v:List V} {P Q:Fp} (h:Reps K g H o d v P) (e:∀ a,Q a↔P a):Reps K g H o d v Q:=by
 have:Q=P:=funext fun a=>propext (e a)
 rw [this];exact h
theorem Rep.z {d:Dv} {v:V} {R:Fp} (h:Rep K g H 0 d v R):Rep K g H 0 d v nop:=by rw [<- nop_iff h.none0];exact h
theorem Reps.z {d:List Dv} {v:List V} {R:Fp} (h:Reps K g H 0 d v R):Reps K g H 0 d v nop:=by rw [<- nop_iff h.none0];exact h
def G.add (g:G) (P:Fp):G:={ g with Z:=fun a=>g.Z a\/P a }
mutual
theorem Rep.freeze {P:Fp}:∀ {o:Nat} {d:Dv} {v:V} {R:Fp},Rep K g H o d v R->(∀ a,R a->P a)->Rep K (g.add P) H 0 d v nop
 | _,.non,v,R,h,_ | _,.bl _,v,R,h,_ | _,.int _,v,R,h,_ | _,.str _,v,R,h,_ | _,.ty _,v,R,h,_ | _,.mtp _,v,R,h,_ | _,.ref _,v,R,h,_ | _,.scr _,v,R,h,_=>by unfold Rep at h ⊢;exact ⟨h.1,fun _ z=>z⟩
 | o,.dti n,v,R,h,s=>by
  unfold Rep at h ⊢;obtain ⟨a,e,h1,h2,h3,h4⟩:=h;refine ⟨a,e,h1,fun _=>?_,fun z=>(z rfl).elim,fun b=>⟨fun z=>z.elim,fun z=>(z.1 rfl).elim⟩⟩
  by_cases q:o=0
  ·exact .inl (h2 q)
  ·exact .inr (s a ((h4 a).mpr ⟨q,rfl⟩))
 | o,.tup ds,v,R,h,s=>by
  unfold Rep at h ⊢;obtain ⟨a,vs,e,h1,h2⟩:=h;exact ⟨a,vs,e,h1,Reps.freeze h2 s⟩
 | o,.lst ds,v,R,h,s=>by
  unfold Rep at h ⊢;obtain ⟨a,vs,R',e,h1,h2,h3,h5⟩:=h;refine ⟨a,vs,nop,e,⟨h1.1,fun _=>?_,fun z=>(z rfl).elim⟩,Reps.freeze h2 (fun b q=>s b ((h5 b).mpr (.inr q))),fun z=>z,fun b=>⟨fun z=>z.elim,fun z=>z.elim (fun q=>(q.1 rfl).elim) id⟩⟩
  by_cases q:o=0
  ·exact .inl (h1.2.1 q)
  ·exact .inr (s a ((h5 a).mpr (.inl ⟨q,rfl⟩)))
 | o,.dct ks ds,v,R,h,s=>by
  unfold Rep at h ⊢;obtain ⟨a,vs,e,h1,h2,h3,⟨h5,R',h6⟩,h4⟩:=h;refine ⟨a,vs,e,h1,fun _=>?_,fun z=>(z rfl).elim,⟨h5,nop,Reps.freeze h6 fun b q=>(Reps.none0 h6 b q).elim⟩,fun b=>⟨fun z=>z.elim,fun z=>(z.1 rfl).elim⟩⟩
  by_cases q:o=0
  ·exact .inl (h2 q)
  ·exact .inr (s a ((h4 a).mpr ⟨q,rfl⟩))
theorem Reps.freeze {P:Fp}:∀ {o:Nat} {ds:List Dv} {vs:List V} {R:Fp},Reps K g H o ds vs R->(∀ a,R a->P a)->Reps K (g.add P) H 0 ds vs nop
 | _,[],vs,R,h,_=>by unfold Reps at h ⊢;exact ⟨h.1,fun _ z=>z⟩
 | o,d::ds,vs,R,h,s=>by
  unfold Reps at h ⊢;obtain ⟨v,r,P1,P2,e,h1,h2,h3,h4⟩:=h;exact ⟨v,r,nop,nop,e,Rep.freeze h1 (fun a q=>s a ((h4 a).mpr (.inl q))),Reps.freeze h2 (fun a q=>s a ((h4 a).mpr (.inr q))),fun _ z=>z.elim,fun a=>⟨fun z=>z.elim,fun z=>z.elim id id⟩⟩
end
theorem Step.freeze {P:Fp} (ok:FpOk g H P):Step g P H (g.add P) nop H:=
 ⟨fun _ _ h _=>h,fun _ h=>h,fun _ h=>.inl h,fun a h=>h.elim .inl fun q=>.inr (.inl q),⟨[],by show g.μ=_;simp⟩,fun _ h=>h.elim,fun z a h q=>h.elim (fun h=>z a h q) fun h=>by have:=(ok a h).1;rw [q] at this;exact this⟩
theorem Reps.nil {o:Nat}:Reps K g H o [] [] nop:=by unfold Reps;exact ⟨rfl,fun _ z=>z⟩
theorem Reps.cons {o:Nat} {d:Dv} {v:V} {ds:List Dv} {vs:List V} {P1 P2:Fp} (h1:Rep K g H o d v P1) (h2:Reps K g H o ds vs P2) (n:Disj P1 P2):Reps K g H o (d::ds) (v::vs) fun a=>P1 a\/P2 a:=by
 unfold Reps;exact ⟨v,vs,P1,P2,rfl,h1,h2,n,fun _=>Iff.rfl⟩
theorem Reps.len:∀ {o:Nat} {ds:List Dv} {vs:List V} {R:Fp},Reps K g H o ds vs R->ds.length=vs.length
 | _,[],vs,R,h=>by unfold Reps at h;rw [h.1];rfl
 | _,d::ds,vs,R,h=>by
  unfold Reps at h;obtain ⟨v,r,P1,P2,rfl,h1,h2,_⟩:=h;simp [h2.len]
theorem Reps.get:∀ {o:Nat} {ds:List Dv} {vs:List V} {R:Fp} {i:Nat} {d:Dv},Reps K g H o ds vs R->ds[i]?=some d->∃ v P,vs[i]?=some v/\Rep K g H o d v P/\∀ a,P a->R a
 | _,[],_,_,_,_,_,e=>by simp at e
 | _,d::ds,vs,R,i,d',h,e=>by
  unfold Reps at h;obtain ⟨v,r,P1,P2,rfl,h1,h2,_,h4⟩:=h;cases i with
  | zero=>simp at e;subst e;exact ⟨v,P1,rfl,h1,fun a q=>(h4 a).mpr (.inl q)⟩
  | succ i =>
   obtain ⟨v',P,e',h',s⟩:=h2.get (i:=i) (by simpa using e);exact ⟨v',P,by simpa using e',h',fun a q=>(h4 a).mpr (.inr (s a q))⟩
theorem Reps.app:∀ {o:Nat} {ds es:List Dv} {vs us:List V} {P Q:Fp},Reps K g H o ds vs P->Reps K g H o es us Q->Disj P Q->Reps K g H o (ds++es) (vs++us) fun a=>P a\/Q a
 | _,[],es,vs,us,P,Q,h,k,_=>by
  unfold Reps at h;obtain ⟨rfl,n⟩:=h;exact k.iff fun a=>⟨fun z=>z.elim (fun q=>(n a q).elim) id,.inr⟩
 | _,d::ds,es,vs,us,P,Q,h,k,n=>by
  unfold Reps at h;obtain ⟨v,r,P1,P2,rfl,h1,h2,h3,h4⟩:=h;have t:=Reps.app h2 k fun a q z=>n a ((h4 a).mpr (.inr q)) z
  refine (Reps.cons h1 t fun a q z=>z.elim (fun z=>h3 a q z) fun z=>n a ((h4 a).mpr (.inl q)) z).iff fun a=>?_
  rw [h4 a,or_assoc]
end
noncomputable abbrev M:=List Dv
noncomputable abbrev Gm:=List (Option Nat)
noncomputable def M.at (m:M) (i:Nat):Dv:=m.getD i .non
structure REnv (K:W.Frag) (g:G) (H:Hp) (Γ:Gm) (ρ:List Dv) (σ:St) (F:Nat->Fp):Prop where
 l1:ρ.length=Γ.length
 l2:σ.length=Γ.length
 rep:∀ i o,Γ[i]?=some (some o)->∃ d v,ρ[i]?=some d/\σ[i]?=some (some v)/\Rep K g H o d v (F i)
 out:∀ i,(∀ o,Γ[i]?≠some (some o))->∀ a,¬ F i a
 dj:∀ i j,i≠j->Disj (F i) (F j)
def Rel (K:W.Frag) (g:G) (H:Hp) (Γ:Gm) (m:M) (σ:St) (P:Fp):Prop:=Zd g H/\∃ F,REnv K g H Γ m σ F/\∀ a,P a↔∃ i,F i a
theorem DY {α:Type} {l:List α} {i j:Nat} {x y:α} (h:(l.set i x)[j]?=some y):(i=j/\y=x)\/(i≠j/\l[j]?=some y):=by
 by_cases e:i=j
 ·subst e;refine .inl ⟨rfl,?_⟩;rw [List.getElem?_set] at h;simp only [if_true] at h;split at h
  ·exact (Option.some.inj h).symm
  ·cases h
 ·rw [lh e] at h;exact .inr ⟨e,h⟩
theorem JB {m:M} {i:Nat} {d:Dv} (h:m[i]?=some d):m.at i=d:=by unfold M.at;rw [lY,h];rfl
section
variable {K:W.Frag} {g g':G} {H H':Hp} {Γ:Gm} {m:M} {σ:St} {P:Fp}
theorem Rel.zd (h:Rel K g H Γ m σ P):Zd g H:=h.1
theorem Rel.len (h:Rel K g H Γ m σ P):m.length=Γ.length/\σ.length=Γ.length:=let ⟨_,_,h1,_⟩:=h;⟨h1.l1,h1.l2⟩
theorem Rel.fpOk (h:Rel K g H Γ m σ P):FpOk g H P:=by
 obtain ⟨_,F,h1,h4⟩:=h;intro a q;obtain ⟨i,z⟩:=(h4 a).mp q
 by_cases e:∃ o,Γ[i]?=some (some o)
 ·obtain ⟨o,e⟩:=e;obtain ⟨d,v,_,_,r⟩:=h1.rep i o e;exact r.fpOk a z
 ·exact (h1.out i (fun o z=>e ⟨o,z⟩) a z).elim
theorem Rel.held {P' R:Fp} (s:Step g P H g' P' H') (ok:FpOk g H P) (h:Rel K g H Γ m σ R) (n:Disj R P):Rel K g' H' Γ m σ R:=by
 obtain ⟨zd,F,h1,h4⟩:=h;refine ⟨s.zd zd,F,⟨h1.l1,h1.l2,fun i o e=>?_,h1.out,h1.dj⟩,h4⟩;obtain ⟨d,v,e1,e2,r⟩:=h1.rep i o e;exact ⟨d,v,e1,e2,r.held s ok fun a q z=>n a ((h4 a).mpr ⟨i,q⟩) z⟩
theorem Rel.same (h:Rel K g H Γ m σ P) (s:NW H H'):Rel K g H' Γ m σ P:=h.held (Step.same (P:=nop) s) FpOk.nop fun _ _ z=>z
theorem Rel.see {i o:Nat} (h:Rel K g H Γ m σ P) (e:Γ[i]?=some (some o)):∃ v P1,σ[i]?=some (some v)/\Rep K g H o (m.at i) v P1/\∀ a,P1 a->P a:=by
 obtain ⟨_,F,h1,h4⟩:=h;obtain ⟨d,v,e1,e2,r⟩:=h1.rep i o e;exact ⟨v,F i,e2,by rw [JB e1];exact r,fun a q=>(h4 a).mpr ⟨i,q⟩⟩
theorem Rel.agree {m2:M} (h:Rel K g H Γ m σ P) (hl:m2.length=m.length) (ha:∀ i o,Γ[i]?=some (some o)->m2.at i=m.at i):Rel K g H Γ m2 σ P:=by
 obtain ⟨zd,F,h1,h4⟩:=h;refine ⟨zd,F,⟨hl.trans h1.l1,h1.l2,fun i o e=>?_,h1.out,h1.dj⟩,h4⟩;obtain ⟨d,v,e1,e2,r⟩:=h1.rep i o e;have hi:i < m2.length:=by rw [hl];exact (lD.mp e1).1
 refine ⟨d,v,?_,e2,r⟩;have:=ha i o e;unfold M.at at this;rw [lY,lY,e1,lA hi] at this;rw [lA hi];exact congrArg some this
theorem Rel.drop (i:Nat) (d:Dv) (x:Option V) (h:Rel K g H Γ m σ P):∃ P2,Rel K g H (Γ.set i none) (m.set i d) (σ.set i x) P2/\∀ a,P2 a->P a:=by
 obtain ⟨zd,F,h1,h4⟩:=h;refine ⟨fun a=>∃ j,j≠i/\F j a,⟨zd,fun j a=>j≠i/\F j a,⟨by rw [lj,lj,h1.l1],by rw [lj,lj,h1.l2],fun j o e=>?_,fun j e a q=>?_,fun j k n a q z=>h1.dj j k n a q.2 z.2⟩,fun _=>Iff.rfl⟩,fun a ⟨j,_,q⟩=>(h4 a).mpr ⟨j,q⟩⟩
 ·rcases DY e with ⟨_,z⟩ | ⟨n,e⟩
  ·cases z
  ·obtain ⟨d',v,e1,e2,r⟩:=h1.rep j o e;have eq:(fun a=>j≠i/\F j a)=F j:=funext fun a=>propext ⟨fun z=>z.2,fun z=>⟨fun q=>n q.symm,z⟩⟩
   exact ⟨d',v,by rw [lh n];exact e1,by rw [lh n];exact e2,by show Rep K g H o d' v (fun a=>j≠i/\F j a);rw [eq];exact r⟩
 ·refine h1.out j (fun o z=>e o ?_) a q.2;rw [lh fun z=>q.1 z.symm];exact z
theorem Rel.fill {i o:Nat} {d:Dv} {v:V} {P1:Fp} (h:Rel K g H Γ m σ P) (e:Γ[i]?=some none) (hd:m[i]?=some d) (hv:σ[i]?=some (some v)) (r:Rep K g H o d v P1) (n:Disj P1 P):Rel K g H (Γ.set i (some o)) m σ fun a=>P1 a\/P a:=by
 obtain ⟨zd,F,h1,h4⟩:=h;have fi:∀ a,¬ F i a:=h1.out i fun o z=>by rw [e] at z;cases z
 have hi:i < Γ.length:=(lD.mp e).1;refine ⟨zd,fun j a=>if j=i then P1 a else F j a,⟨by rw [lj];exact h1.l1,by rw [lj];exact h1.l2,fun j o' e'=>?_,fun j e' a q=>?_,fun j k nn a q z=>?_⟩,fun a=>?_⟩
 ·rcases DY e' with ⟨rfl,z⟩ | ⟨nn,e'⟩
  ·cases z;have eq:(fun a=>if i=i then P1 a else F i a)=P1:=funext fun a=>by rw [if_pos rfl]
   exact ⟨d,v,hd,hv,by show Rep K g H o d v fun a=>if i=i then P1 a else F i a;rw [eq];exact r⟩
  ·obtain ⟨d',v',e1,e2,r'⟩:=h1.rep j o' e';have eq:(fun a=>if j=i then P1 a else F j a)=F j:=funext fun a=>by rw [if_neg fun z=>nn z.symm]
   exact ⟨d',v',e1,e2,by show Rep K g H o' d' v' fun a=>if j=i then P1 a else F j a;rw [eq];exact r'⟩
 ·by_cases z:j=i
  ·subst z;exact e' o (ly hi)
  ·simp only [if_neg z] at q;exact h1.out j (fun o' z'=>e' o' (by rw [lh fun w=>z w.symm];exact z')) a q
 ·by_cases zj:j=i
  ·by_cases zk:k=i
   ·exact nn (zj.trans zk.symm)
   ·simp only [if_pos zj,if_neg zk] at q z;exact n a q ((h4 a).mpr ⟨k,z⟩)
  ·by_cases zk:k=i
   ·simp only [if_neg zj,if_pos zk] at q z;exact n a z ((h4 a).mpr ⟨j,q⟩)
   ·simp only [if_neg zj,if_neg zk] at q z;exact h1.dj j k nn a q z
 ·show P1 a\/P a↔_;rw [h4 a];refine ⟨fun z=>?_,fun ⟨j,z⟩=>?_⟩
  ·rcases z with z | ⟨j,z⟩
   ·exact ⟨i,by simp only [if_true];exact z⟩
   ·have:j≠i:=fun w=>fi a (w▸z)
    exact ⟨j,by simp only [if_neg this];exact z⟩
  ·by_cases zj:j=i
   ·simp only [if_pos zj] at z;exact .inl z
   ·simp only [if_neg zj] at z;exact .inr ⟨j,z⟩
theorem Gs {α:Type} {l:List α} {i:Nat} {x:α} (h:l[i]?=some x):l.set i x=l:=by
 apply List.ext_getElem?;intro j
 by_cases e:i=j
 ·subst e;rw [ly (lD.mp h).1,h]
 ·rw [lh e]
theorem Rel.take {i o:Nat} (h:Rel K g H Γ m σ P) (e:Γ[i]?=some (some o)):∃ v P1 P2,σ[i]?=some (some v)/\m[i]?=some (m.at i)/\Rep K g H o (m.at i) v P1/\Rel K g H (Γ.set i none) m σ P2/\Disj P1 P2/\∀ a,P a↔P1 a\/P2 a:=by
 obtain ⟨zd,F,h1,h4⟩:=h;obtain ⟨d,v,e1,e2,r⟩:=h1.rep i o e;refine ⟨v,F i,fun a=>∃ j,j≠i/\F j a,e2,by rw [JB e1];exact e1,by rw [JB e1];exact r,⟨zd,fun j a=>j≠i/\F j a,⟨by rw [lj];exact h1.l1,by rw [lj];exact h1.l2,fun j o' e'=>?_,fun j e' a q=>?_,fun j k n a q z=>h1.dj j k n a q.2 z.2⟩,fun _=>Iff.rfl⟩,fun a q ⟨j,n,z⟩=>h1.dj i j (fun w=>n w.symm) a q z,fun a=>?_⟩
 ·rcases DY e' with ⟨_,z⟩ | ⟨n,e'⟩
  ·cases z
  ·obtain ⟨d',v',e3,e4,r'⟩:=h1.rep j o' e';have eq:(fun a=>j≠i/\F j a)=F j:=funext fun a=>propext ⟨fun z=>z.2,fun z=>⟨fun q=>n q.symm,z⟩⟩
   exact ⟨d',v',e3,e4,by show Rep K g H o' d' v' (fun a=>j≠i/\F j a);rw [eq];exact r'⟩
 ·exact h1.out j (fun o' z=>e' o' (by rw [lh fun w=>q.1 w.symm];exact z)) a q.2
 ·rw [h4 a];refine ⟨fun ⟨j,z⟩=>?_,fun z=>?_⟩
  ·by_cases zj:j=i
   ·exact .inl (zj▸z)
   ·exact .inr ⟨j,zj,z⟩
  ·rcases z with z | ⟨j,_,z⟩
   ·exact ⟨i,z⟩
   ·exact ⟨j,z⟩
theorem DC {α:Type} (l:List α) (i:Nat) (x y:α):(l.set i x).set i y=l.set i y:=List.set_set ..
theorem Rel.setNew {Pv:Fp} {i o:Nat} {d:Dv} {v:V} (h:Rel K g H Γ m σ P) (hi:i < Γ.length) (hv:Rep K g H o d v Pv) (n:Disj Pv P) :
    ∃ P2,Rel K g H (Γ.set i (some o)) (m.set i d) (σ.set i (some v)) P2/\∀ a,P2 a->P a\/Pv a:=by
  obtain ⟨P2,h2,s⟩:=h.drop i d (some v);have l:=h.len;have:=h2.fill (i:=i) (ly hi) (ly (by omega)) (ly (by omega)) hv fun a q z=>n a q (s a z)
  rw [DC] at this;exact ⟨_,this,fun a q=>q.elim .inr fun q=>.inl (s a q)⟩
theorem Rel.putIn {P1:Fp} {i o:Nat} {d:Dv} {v:V} (h:Rel K g H (Γ.set i none) m σ P) (hi:i < Γ.length) (hv:σ[i]?=some (some v)) (r:Rep K g H o d v P1) (n:Disj P1 P):∃ P2,Rel K g H (Γ.set i (some o)) (m.set i d) σ P2/\∀ a,P2 a->P1 a\/P a:=by
 obtain ⟨P2,h2,s⟩:=h.drop i d (some v);rw [Gs hv] at h2;have l:=h.len;rw [lj] at l;have h3:=h2.fill (i:=i) (by rw [DC];exact ly hi) (ly (by omega)) hv r fun a q z=>n a q (s a z)
 rw [DC,DC] at h3;exact ⟨_,h3,fun a q=>q.elim .inl fun q=>.inr (s a q)⟩
theorem Rel.freeze {i o:Nat} (h:Rel K g H Γ m σ P) (e:Γ[i]?=some (some o)):∃ g' P' v,Step g P H g' P' H/\Rel K g' H (Γ.set i (some 0)) m σ P'/\σ[i]?=some (some v)/\Rep K g' H 0 (m.at i) v nop:=by
 obtain ⟨v,P1,P2,ev,ed,r,r2,n,hP⟩:=h.take e;have st:Step g P1 H (g.add P1) nop H:=Step.freeze r.fpOk;have fr:Rep K (g.add P1) H 0 (m.at i) v nop:=r.freeze fun _ q=>q
 have r3:=r2.held st r.fpOk fun a q z=>n a z q
 have hi:i < Γ.length:=(lD.mp e).1;have r4:=r3.fill (i:=i) (ly hi) ed ev fr fun _ z=>z.elim
 rw [DC] at r4;refine ⟨_,_,v,?_,r4,ev,fr⟩;exact (st.frame (R:=P2)).sub (fun a q=>(hP a).mpr q) fun a q=>q.elim (fun z=>z.elim) .inr
def BQ:Gm->Gm->Bool
 | [],[]=>true
 | none::a,_::b=>BQ a b
 | some o::a,some o'::b=>(o == 0 || o == o') && BQ a b
 | _,_=>false
theorem Dq:∀ {a b:Gm},BQ a b=true->a.length=b.length
 | [],[],_=>rfl
 | none::a,_::b,h=>by unfold BQ at h;simp [Dq h]
 | some o::a,some o'::b,h=>by unfold BQ at h;simp [Dq (mf.mp h).2]
 | [],_::_,h=>by cases h
 | some _::_,none::_,h=>by cases h
 | some _::_,[],h=>by cases h
 | none::_,[],h=>by cases h
theorem Ep:∀ {a b:Gm} {i o:Nat},BQ a b=true->a[i]?=some (some o)->∃ o',b[i]?=some (some o')/\(o=0\/o=o')
 | [],_,i,o,_,e=>by simp at e
 | none::a,x::b,i,o,h,e=>by
  unfold BQ at h;cases i with
  | zero=>simp at e
  | succ i=>obtain ⟨o',e',z⟩:=Ep (i:=i) h (by simpa using e);exact ⟨o',by simpa using e',z⟩
 | some p::a,some p'::b,i,o,h,e=>by
  unfold BQ at h;rw [lB] at h;cases i with
  | zero =>
   simp at e;subst e;refine ⟨p',rfl,?_⟩;have:=h.1;rw [oJ,beq_iff_eq,beq_iff_eq] at this;exact this
  | succ i=>obtain ⟨o',e',z⟩:=Ep (i:=i) h.2 (by simpa using e);exact ⟨o',by simpa using e',z⟩
 | some _::_,none::_,_,_,h,_=>by cases h
 | some _::_,[],_,_,h,_=>by cases h
 | none::_,[],_,_,h,_=>by cases h
theorem Rel.weaken {Γ':Gm} (h:Rel K g H Γ m σ P) (e:BQ Γ' Γ=true):∃ g' P',Step g P H g' P' H/\Rel K g' H Γ' m σ P':=by
 have ok:=h.fpOk;obtain ⟨zd,F,h1,h4⟩:=h
 let D:Fp:=fun a=>∃ i,Γ'[i]?=some (some 0)/\F i a
 have okD:FpOk g H D:=fun a ⟨i,_,q⟩=>ok a ((h4 a).mpr ⟨i,q⟩)
 have st:Step g D H (g.add D) nop H:=Step.freeze okD
 let F':Nat->Fp:=fun i a=>(∃ o,Γ'[i]?=some (some (o+1)))/\F i a
 refine ⟨g.add D,fun a=>∃ i,F' i a,?_,st.zd zd,F',⟨by rw [Dq e];exact h1.l1,by rw [Dq e];exact h1.l2,fun i o ei=>?_,fun i ei a q=>?_,fun i j n a q z=>h1.dj i j n a q.2 z.2⟩,fun _=>Iff.rfl⟩
 ·refine (st.frame (R:=fun a=>∃ i,F' i a)).sub (fun a q=>?_) fun a q=>.inr q
  rcases q with ⟨i,_,q⟩ | ⟨i,q⟩
  ·exact (h4 a).mpr ⟨i,q⟩
  ·exact (h4 a).mpr ⟨i,q.2⟩
 ·obtain ⟨o',eo,z⟩:=Ep e ei;obtain ⟨d,v,e1,e2,r⟩:=h1.rep i o' eo;refine ⟨d,v,e1,e2,?_⟩;cases o with
  | zero =>
   have eq:F' i=nop:=nop_iff fun a ⟨⟨o,w⟩,_⟩=>by rw [ei] at w;cases w
   rw [eq];exact r.freeze fun a q=>⟨i,ei,q⟩
  | succ o =>
   have eq:F' i=F i:=funext fun a=>propext ⟨fun w=>w.2,fun w=>⟨⟨o,ei⟩,w⟩⟩
   rcases z with z | z
   ·cases z
   ·subst z;rw [eq];refine r.held st okD fun a q ⟨j,ej,z⟩=>?_
    by_cases w:i=j
    ·subst w;rw [ei] at ej;cases ej
    ·exact h1.dj i j w a q z
 ·obtain ⟨⟨o,w⟩,_⟩:=q;exact ei _ w
end
theorem PE.imp {X:Cx} {e:Expr} {t t':TE} (h:PE X e t) (k:∀ σ H Q,t' σ H Q->t σ H Q):PE X e t':=fun pins s σ H Q I q=>h pins s σ H Q I (k σ H Q q)
theorem PT.imp {X:Cx} {e:Expr} {t t':TT} (h:PT X e t) (k:∀ σ H Q,t' σ H Q->t σ H Q):PT X e t':=fun pins s σ H Q I q=>h pins s σ H Q I (k σ H Q q)
theorem PW.imp {X:Cx} {e:Expr} {t t':TT} (h:PW X e t) (k:∀ σ H Q,t' σ H Q->t σ H Q):PW X e t':=fun wh pins s σ H Q I q=>h wh pins s σ H Q I (k σ H Q q)
theorem PS.imp {X:Cx} {e:Stmt} {t t':TS} (h:PS X e t) (k:∀ D σ H,t' D σ H->t D σ H):PS X e t':=fun pins s σ H D I q=>h pins s σ H D I (k D σ H q)
theorem Cu.imp {X:Cx} {e:List Stmt} {t t':TS} (h:Cu X e t) (k:∀ D σ H,t' D σ H->t D σ H):Cu X e t':=fun pins s σ H D I q=>h pins s σ H D I (k D σ H q)
noncomputable abbrev Ev (α:Type):=(R:Type)->M->(α->M->Option R)->Option R
def BU (js:List Nat) (m m':M):Prop:=m'.length=m.length/\∀ i,i∉js->m'.at i=m.at i
theorem BU.refl {js:List Nat} {m:M}:BU js m m:=⟨rfl,fun _ _=>rfl⟩
theorem BU.trans {js ks:List Nat} {m m1 m2:M} (a:BU js m m1) (b:BU ks m1 m2):BU (js++ks) m m2:=⟨b.1.trans a.1,fun i h=>(b.2 i fun z=>h (lH _ z)).trans (a.2 i fun z=>h (lM _ z))⟩
theorem BU.set {m:M} {i:Nat} {d:Dv}:BU [i] m (m.set i d):=⟨lj ..,fun j h=>by
 have n:i≠j:=fun z=>h (by rw [z];exact nQ _)
 unfold M.at;rw [lY,lY,lh n]⟩
theorem BU.mono {js ks:List Nat} {m m1:M} (a:BU js m m1) (h:∀ i∈js,i∈ks):BU ks m m1:=⟨a.1,fun i n=>a.2 i fun z=>n (h i z)⟩
def tE (K:W.Frag) (Γ:Gm) (o:Nat) (Γ':Gm) (js:List Nat) (f:Ev Dv):TE:=fun σ H Q=>∃ g m P,Rel K g H Γ m σ P/\∃ (R:Type) (k:Dv->M->Option R) (r:R),f R m k=some r /\
 ∀ d m' g' P' Pv v H',k d m'=some r->BU js m m'->Step g P H g' (fun a=>P' a\/Pv a) H'->Rep K g' H' o d v Pv->Rel K g' H' Γ' m' σ P'->Disj P' Pv->Q v H'
def tT (K:W.Frag) (Γ Γ':Gm) (js:List Nat) (f:Ev Bool):TT:=fun σ H Q=>∃ g m P,Rel K g H Γ m σ P/\∃ (R:Type) (k:Bool->M->Option R) (r:R),f R m k=some r /\
 ∀ b m' g' P' H',k b m'=some r->BU js m m'->Step g P H g' P' H'->Rel K g' H' Γ' m' σ P'->Q b H'
inductive Ar:Type 1 where
 | rf (i:Nat)
 | ev (Γ Γ':Gm) (js:List Nat) (f:Ev Dv)
def Hj (K:W.Frag):Ar->TE
 | .rf i=>Gh i
 | .ev Γ Γ' js f=>tE K Γ 0 Γ' js f
def BN (K:W.Frag):List Ar->TA
 | []=>Vk
 | a::as=>YJ (Hj K a) (BN K as)
def AR:List Ar->Ev (List Dv)
 | [],_,m,k=>k [] m
 | .rf i::as,R,m,k=>AR as R m fun ds m1=>k (m1.at i::ds) m1
 | .ev _ _ _ f::as,R,m,k=>f R m fun d m1=>AR as R m1 fun ds m2=>k (d::ds) m2
def AD:Gm->List Ar->Gm->List Nat->Prop
 | Γ,[],Γ',js=>Γ'=Γ/\js=[]
 | Γ,.rf i::as,Γ',js=>(∃ o,Γ[i]?=some (some o))/\(∃ o,o<=1/\Γ'[i]?=some (some o))/\AD Γ as Γ' js
 | Γ,.ev Γ1 Γ2 js1 _::as,Γ',js=>Γ1=Γ/\∃ js2,js=js1++js2/\AD Γ2 as Γ' js2
def AX (K:W.Frag) (g:G) (H:Hp) (Γ:Gm) (m:M) (σ:St):List Ar->List Dv->List V->Prop
 | [],ds,vs=>ds=[]/\vs=[]
 | .rf i::as,ds,vs=>∃ v ds' vs',ds=m.at i::ds'/\vs=v::vs'/\σ[i]?=some (some v)/\(∃ o,o<=1/\Γ[i]?=some (some o))/\AX K g H Γ m σ as ds' vs'
 | .ev _ _ _ _::as,ds,vs=>∃ d v ds' vs',ds=d::ds'/\vs=v::vs'/\Rep K g H 0 d v nop/\AX K g H Γ m σ as ds' vs'
theorem AM {K:W.Frag} {σ:St}:∀ (as:List Ar) {g:G} {Γ Γ':Gm} {js:List Nat} {m:M} {P:Fp} {H:Hp} {R:Type} {k:List Dv->M->Option R} {r:R} {Q:List V->Hp->Prop},Rel K g H Γ m σ P->AD Γ as Γ' js->AR as R m k=some r ->
    (∀ ds m' g' P' vs H',k ds m'=some r->BU js m m'->Step g P H g' P' H'->AX K g' H' Γ' m' σ as ds vs->Rel K g' H' Γ' m' σ P'->Q vs H')->BN K as σ H Q
  | [],g,Γ,Γ',js,m,P,H,R,k,r,Q,rl,c,e,q=>by
    unfold AD at c;obtain ⟨rfl,rfl⟩:=c;exact q [] m g P [] H e BU.refl Step.refl (by unfold AX;exact ⟨rfl,rfl⟩) rl
  | .rf i::as,g,Γ,Γ',js,m,P,H,R,k,r,Q,rl,c,e,q=>by
    unfold AD at c;obtain ⟨⟨o,ho⟩,h2,c⟩:=c;obtain ⟨v,_,hv,_⟩:=rl.see ho;refine ⟨v,hv,AM as rl c e fun ds m' g' P' vs H' hk ag s ar r1=>q _ m' g' P' _ H' hk ag s ?_ r1⟩;unfold AX;exact ⟨v,ds,vs,rfl,rfl,hv,h2,ar⟩
  | .ev Γ1 Γ2 js1 f::as,g,Γ,Γ',js,m,P,H,R,k,r,Q,rl,c,e,q=>by
    unfold AD at c;obtain ⟨rfl,js2,rfl,c⟩:=c;refine ⟨g,m,P,rl,R,_,r,e,fun d m1 g1 P1 Pv v H1 hk ag s rv r1 n=>?_⟩;refine AM as r1 c hk fun ds m2 g2 P2 vs H2 hk2 ag2 s2 ar r2=>q _ m2 g2 P2 _ H2 hk2 (ag.trans ag2) ((s.less fun _ q=>.inl q).trans s2) ?_ r2
    unfold AX;exact ⟨d,v,ds,vs,rfl,rfl,rv.z.held s2 r1.fpOk fun _ z=>z.elim,ar⟩
def RA (K:W.Frag) (g:G) (H:Hp):List Dv->List V->Prop
 | [],vs=>vs=[]
 | d::ds,vs=>∃ v r o P,vs=v::r/\o<=1/\Rep K g H o d v P/\RA K g H ds r
def Ab (K:W.Frag) (g:G) (H:Hp) (o:Nat) (d:Dv) (v:V) (H':Hp):Prop:=NW H H'/\∃ Pv,Rep K g H' o d v Pv/\∀ a,Pv a->H a=none
noncomputable abbrev Pr:=List Dv->Option Dv
abbrev Ou:=List V->Hp->VK->Prop
def AG (K:W.Frag) (p:Pr) (o:Nat) (R:Ou):Prop:=∀ g H ds vs d Q,Zd g H->RA K g H ds vs->p ds=some d->(∀ v H',Ab K g H o d v H'->Q v H')->R vs H Q
def CN (p:Pr) (fa:Ev (List Dv)):Ev Dv:=fun R m k=>fa R m fun ds m'=>(p ds).bind fun d=>k d m'
theorem bind_some'.{u,v} {α:Type u} {β:Type v} {x:Option α} {f:α->Option β} {b:β} (h:x.bind f=some b):∃ a,x=some a/\f a=some b:=my.mp h
section
variable {K:W.Frag} {g:G} {H H':Hp} {σ:St} {Γ Γ':Gm} {m:M} {P:Fp}
theorem AX.ra (r:Rel K g H Γ m σ P):∀ {as:List Ar} {ds:List Dv} {vs:List V},AX K g H Γ m σ as ds vs->RA K g H ds vs
 | [],ds,vs,h=>by unfold AX at h;obtain ⟨rfl,rfl⟩:=h;unfold RA;rfl
 | .ev _ _ _ f::as,ds,vs,h=>by
  unfold AX at h;obtain ⟨d,v,ds',vs',rfl,rfl,h1,h2⟩:=h;unfold RA;exact ⟨v,vs',0,nop,rfl,by decide,h1,AX.ra r h2⟩
 | .rf i::as,ds,vs,h=>by
  unfold AX at h;obtain ⟨v,ds',vs',rfl,rfl,h1,⟨o,hl,ho⟩,h3⟩:=h;obtain ⟨v',P1,e,k,_⟩:=r.see ho;rw [h1] at e;cases e;unfold RA;exact ⟨v,vs',o,P1,rfl,hl,k,AX.ra r h3⟩
theorem Ab.go {g0:G} {P0:Fp} {H0:Hp} {o:Nat} {d:Dv} {v:V} (s:Step g0 P0 H0 g P H) (r:Rel K g H Γ m σ P) (n:Ab K g H o d v H') :
    ∃ Pv,Step g0 P0 H0 g (fun a=>P a\/Pv a) H'/\Rep K g H' o d v Pv/\Rel K g H' Γ m σ P/\Disj P Pv:=by
  obtain ⟨sm,Pv,h1,h2⟩:=n;refine ⟨Pv,s.trans ⟨fun b o h _=>sm b o h,(Step.same (g:=g) (P:=nop) sm).dom,fun _ h=>h,fun _ h=>.inl h,⟨[],by simp⟩,fun a h=>h.elim .inl fun q=>.inr (h2 a q),(Step.same (g:=g) (P:=nop) sm).zd⟩,h1,r.same sm,fun a q z=>r.fpOk.new (h2 a z) q⟩
theorem BH {p:Pr} {o:Nat} {as:List Ar} {js:List Nat} {R:Ou} (hp:AG K p o R) (c:AD Γ as Γ' js) {Q:VK} (h:tE K Γ o Γ' js (CN p (AR as)) σ H Q):BN K as σ H fun vs H1=>R vs H1 Q:=by
 obtain ⟨g,m,P,r,R',k,res,e,q⟩:=h;refine AM as r c e fun ds m' g' P' vs H1 hk ag s ar r1=>?_
 obtain ⟨d,e1,e2⟩:=bind_some' hk;refine hp g' H1 ds vs d Q r1.zd (ar.ra r1) e1 fun v H2 nw=>?_
 obtain ⟨Pv,s2,h1,r2,n2⟩:=Ab.go s r1 nw;exact q d m' g' P' Pv v H2 e2 ag s2 h1 r2 n2
end
def Hk (r:R2):Ou:=fun vs H Q=>match vs with | [x,y]=>r x y H Q | _=>False
def iI (r:V->Hp->VK->Prop):Ou:=fun vs H Q=>match vs with | [x]=>r x H Q | _=>False
def LN (d:Dv):Ev Dv:=fun _ m k=>k d m
def OY (i:Nat):Ev Dv:=fun _ m k=>k (m.at i) m
section
variable {X:Cx} {e:Expr} {Γ Γ':Gm} {js:List Nat} {o:Nat} {f:Ev Dv}
theorem dX {v:V} {d:Dv} (h:PE X e (tC v)) (hd:∀ g H,Rep X.K g H o d v nop):PE X e (tE X.K Γ o Γ [] (LN d)):=PE.imp h fun σ H Q q=>by
 obtain ⟨g,m,P,r,R,k,res,e,q⟩:=q;exact q d m g P nop v H e BU.refl (Step.refl.less fun _ q=>q.elim id False.elim) (hd g H) r fun _ _ z=>z
theorem eZ {i:Nat} (h:PE X e (Gh i)) {o:Nat} (hi:Γ[i]?=some (some o)):PE X e (tE X.K Γ 0 (Γ.set i (some 0)) [] (OY i)):=PE.imp h fun σ H Q q=>by
 obtain ⟨g,m,P,r,R,k,res,e,q⟩:=q;obtain ⟨g',P',v,s,r',ev,rv⟩:=r.freeze hi;exact ⟨v,ev,q _ m g' P' nop v H e BU.refl (s.less fun _ q=>q.elim id False.elim) rv r' fun _ _ z=>z⟩
theorem ef {i:Nat} (h:PE X e (Gh i)) (hi:Γ[i]?=some (some o)):PE X e (tE X.K Γ o (Γ.set i none) [] (OY i)):=PE.imp h fun σ H Q q=>by
 obtain ⟨g,m,P,r,R,k,res,e,q⟩:=q;obtain ⟨v,P1,P2,ev,_,rv,r2,n,hP⟩:=r.take hi;exact ⟨v,ev,q _ m g P2 P1 v H e BU.refl (Step.refl.less fun a q=>(hP a).mpr q.symm) rv r2 fun a q z=>n a z q⟩
theorem Cq (h:PE X e (tE X.K Γ o Γ' js f)):PE X e (tE X.K Γ 0 Γ' js f):=PE.imp h fun σ H Q q=>by
 obtain ⟨g,m,P,r,R,k,res,e,q⟩:=q;refine ⟨g,m,P,r,R,k,res,e,fun d m' g' P' Pv v H' hk ag s rv r1 n=>?_⟩;have st:Step g' Pv H' (g'.add Pv) nop H':=Step.freeze rv.fpOk;refine q d m' (g'.add Pv) P' nop v H' hk ag (s.trans ?_) (rv.freeze fun _ q=>q) (r1.held st rv.fpOk n) fun _ _ z=>z
 exact (st.frame (R:=P')).sub (fun a q=>q.symm) fun a q=>q.elim .inr False.elim
end
def OZ (t:List Dv->Dv) (fa:Ev (List Dv)):Ev Dv:=fun R m k=>fa R m fun ds m'=>if ds.length<=1000000 then k (t ds) m' else none
noncomputable def evd:List Ar->Bool
 | []=>true
 | .ev _ _ _ _::as=>evd as
 | .rf _::_=>false
theorem AX.reps {K:W.Frag} {g:G} {H:Hp} {Γ:Gm} {m:M} {σ:St}:∀ {as:List Ar} {ds:List Dv} {vs:List V},evd as=true->AX K g H Γ m σ as ds vs->Reps K g H 0 ds vs nop
 | [],ds,vs,_,h=>by unfold AX at h;obtain ⟨rfl,rfl⟩:=h;exact Reps.nil
 | .ev _ _ _ f::as,ds,vs,e,h=>by
  unfold AX at h;obtain ⟨d,v,ds',vs',rfl,rfl,h1,h2⟩:=h;exact (Reps.cons h1 (AX.reps (by unfold evd at e;exact e) h2) fun _ z=>z.elim).iff fun a=>⟨fun z=>z.elim,fun z=>z.elim id id⟩
 | .rf i::as,ds,vs,e,h=>by unfold evd at e;cases e
section
variable {X:Cx} {es:List Expr} {Γ Γ':Gm} {js:List Nat} {as:List Ar} {pos:Pos}
theorem ee {x1} (hq:PA X es (BN X.K as)) (c:AD Γ as Γ' js) (he:evd as=true):PE X (.Tuple es x1 pos) (tE X.K Γ 1 Γ' js (OZ .tup (AR as))):=PE.imp (aS hq) fun σ H Q q=>by
 obtain ⟨g,m,P,r,R,k,res,e,q⟩:=q;refine AM as r c e fun ds m' g' P' vs H1 hk ag s ar r1=>?_
 split at hk
 ·rename_i hz;have rp:=ar.reps he;refine ⟨by rw [<- rp.len];exact lR hz (by decide),fun p hp=>?_⟩;have sm:=DE hp (.tup vs);have st:=Step.same (g:=g') (P:=nop) sm;refine q _ m' g' P' nop (.ref p) _ hk ag ((s.trans (Step.same sm)).less fun _ q=>q.elim id False.elim) ?_ (r1.same sm) fun _ _ z=>z
  unfold Rep;exact ⟨p,vs,rfl,BM,rp.held st FpOk.nop fun _ _ z=>z⟩
 ·cases hk
theorem Ab.lst {K:W.Frag} {g:G} {H:Hp} {ds:List Dv} {vs:List V} {p:Addr} (zd:Zd g H) (rp:Reps K g H 0 ds vs nop) (hp:H p=none):Ab K g H 1 (.lst ds) (.ref p) (upd H p (.lst vs)):=by
 have sm:=DE hp (.lst vs);refine ⟨sm,fun b=>b=p,?_,fun a q=>q▸hp⟩;unfold Rep;exact ⟨p,vs,nop,rfl,⟨BM,(fun z=>by cases z),fun _ z=>zd p z hp⟩,rp.held (Step.same (g:=g) (P:=nop) sm) FpOk.nop fun _ _ z=>z,fun z=>z,fun b=>⟨fun z=>.inl ⟨by decide,z⟩,fun z=>z.elim (fun z=>z.2) False.elim⟩⟩
theorem eg (hq:PA X es (BN X.K as)) (c:AD Γ as Γ' js) (he:evd as=true):PE X (.List es pos) (tE X.K Γ 1 Γ' js (OZ .lst (AR as))):=PE.imp (aX hq) fun σ H Q q=>by
 obtain ⟨g,m,P,r,R,k,res,e,q⟩:=q;refine AM as r c e fun ds m' g' P' vs H1 hk ag s ar r1=>?_
 split at hk
 ·rename_i hz;have rp:=ar.reps he;refine ⟨by rw [<- rp.len];exact lR hz (by decide),fun p hp=>?_⟩;obtain ⟨Pv,s2,h1,r2,n2⟩:=Ab.go s r1 (Ab.lst r1.zd rp hp);exact q _ m' g' P' Pv (.ref p) _ hk ag s2 h1 r2 n2
 ·cases hk
end
def EB:List Nat->Type
 | []=>Unit
 | [_]=>Dv
 | _::i::J=>Dv×EB (i::J)
noncomputable def Aa:(J:List Nat)->M->EB J
 | [],_=>()
 | [i],m=>m.at i
 | i::j::J,m=>(m.at i,Aa (j::J) m)
noncomputable def Ae:(J:List Nat)->M->EB J->M
 | [],m,_=>m
 | [i],m,d=>m.set i d
 | i::j::J,m,t=>Ae (j::J) (m.set i t.1) t.2
theorem SE {m:M} {i:Nat} {d:Dv} (h:i < m.length):M.at (m.set i d) i=d:=JB (ly h)
theorem HG:∀ (J:List Nat) (m:M) (t:EB J),(Ae J m t).length=m.length
 | [],_,_=>rfl
 | [i],m,d=>lj ..
 | i::j::J,m,t=>by unfold Ae;rw [HG];exact lj ..
theorem AV:∀ (J:List Nat) (m:M) (t:EB J),BU J m (Ae J m t)
 | [],_,_=>BU.refl
 | [i],m,d=>BU.set
 | i::j::J,m,t=>by
  unfold Ae;exact (BU.set (i:=i)).trans (AV (j::J) _ _)
theorem OE:∀ (J:List Nat) (m m':M) (i:Nat),i < m.length->i∈J->M.at (Ae J m (Aa J m')) i=m'.at i
 | [],_,_,_,_,h=>by cases h
 | [i],m,m',k,hk,h=>by
  have e:=lu.mp h;subst e;exact SE hk
 | i::j::J,m,m',k,hk,h=>by
  show M.at (Ae (j::J) (m.set i (m'.at i)) (Aa (j::J) m')) k=_
  by_cases z:k∈j::J
  ·exact OE (j::J) _ m' k (by rw [lj];exact hk) z
  ·rw [(AV (j::J) _ _).2 k z];rcases lO.mp h with e | e
   ·subst e;exact SE hk
   ·exact (z e).elim
def Au (Γ:Gm) (js:List Nat):List Nat:=(List.range Γ.length).filter fun i=>js.contains i && (Γ.getD i none).isSome
theorem BI {Γ:Gm} {js:List Nat} {i o:Nat} (h:Γ[i]?=some (some o)):i∈Au Γ js\/i∉js:=by
 by_cases e:i∈js
 ·refine .inl (mz.mpr ⟨mO.mpr (lD.mp h).1,?_⟩);rw [lB,lK,lY,h];exact ⟨e,rfl⟩
 ·exact .inr e
theorem As {Γ:Gm} {js:List Nat} {i:Nat} (h:i∈Au Γ js):i∈js:=by
 have:=(mz.mp h).2;rw [lB,lK] at this;exact this.1
theorem Rel.join {K:W.Frag} {g:G} {H:Hp} {Γ:Gm} {m m':M} {σ:St} {P:Fp} {J js:List Nat} (r:Rel K g H Γ m' σ P) (ag:BU js m m') (hj:∀ i o,Γ[i]?=some (some o)->i∈J\/i∉js):Rel K g H Γ (Ae J m (Aa J m')) σ P:=by
 refine r.agree ((HG ..).trans ag.1.symm) fun i o e=>?_
 have hi:i < m.length:=by rw [<- ag.1,r.len.1];exact (lD.mp e).1
 by_cases z:i∈J
 ·exact OE J m m' i hi z
 ·rw [(AV J m _).2 i z];exact (ag.2 i ((hj i o e).elim (fun q=>(z q).elim) id)).symm
def Yw (p:List Dv->Option Bool) (fa:Ev (List Dv)):Ev Bool:=fun R m k=>fa R m fun ds m'=>(p ds).bind fun b=>k b m'
def Mp (f:Ev Bool):Ev Dv:=fun R m k=>f R m fun b m'=>k (.bl b) m'
def Yu (f:Ev Bool):Ev Bool:=fun R m k=>f R m fun b m'=>k (!b) m'
def HZ {α:Type} (c:Ev Bool) (f g:Ev α):Ev α:=fun R m k=>c R m fun b m1=>if b=true then f R m1 k else g R m1 k
def Jn (α:Type):List Nat->Type
 | []=>α
 | i::J=>α×EB (i::J)
def Yh {α:Type}:(J:List Nat)->α->M->Jn α J
 | [],a,_=>a
 | i::J,a,m=>(a,Aa (i::J) m)
def kA {α R:Type}:(J:List Nat)->M->Jn α J->(α->M->Option R)->Option R
 | [],m,a,k=>k a m
 | i::J,m,t,k=>k t.1 (Ae (i::J) m t.2)
theorem RV {α R:Type} (J:List Nat) (m m':M) (a:α) (k:α->M->Option R):kA J m (Yh J a m') k=k a (Ae J m (Aa J m')):=by cases J<;>rfl
def Mn {α:Type} (J:List Nat) (f:Ev α):Ev α:=fun R m k=>(f (Jn α J) m fun a m'=>some (Yh J a m')).bind fun t=>kA J m t k
section
variable {K:W.Frag} {Γ Γ' Γ2 Γ3:Gm} {js js2 js3 J:List Nat} {σ:St} {H:Hp} {o:Nat}
theorem GW {f:Ev Dv} {Q:VK} (hj:∀ i o,Γ'[i]?=some (some o)->i∈J\/i∉js) (hs:∀ i∈J,i∈js) (h:tE K Γ o Γ' js (Mn J f) σ H Q):tE K Γ o Γ' js f σ H Q:=by
 obtain ⟨g,m,P,r,R,k,res,e,q⟩:=h;obtain ⟨t,e1,e2⟩:=bind_some' e;refine ⟨g,m,P,r,_,_,t,e1,fun d m' g' P' Pv v H' hk ag s rv r1 n=>?_⟩;cases hk;rw [RV] at e2;exact q d _ g' P' Pv v H' e2 ((AV J m _).mono hs) s rv (r1.join ag hj) n
theorem OO {f:Ev Bool} {Q:Bool->Hp->Prop} (hj:∀ i o,Γ'[i]?=some (some o)->i∈J\/i∉js) (hs:∀ i∈J,i∈js) (h:tT K Γ Γ' js (Mn J f) σ H Q):tT K Γ Γ' js f σ H Q:=by
 obtain ⟨g,m,P,r,R,k,res,e,q⟩:=h;obtain ⟨t,e1,e2⟩:=bind_some' e;refine ⟨g,m,P,r,_,_,t,e1,fun d m' g' P' H' hk ag s r1=>?_⟩;cases hk;rw [RV] at e2;exact q d _ g' P' H' e2 ((AV J m _).mono hs) s (r1.join ag hj)
theorem Nb {f:Ev Bool} {Q:Bool->Hp->Prop} (hw:BQ Γ2 Γ'=true) (hs:∀ i∈js,i∈js2) (h:tT K Γ Γ2 js2 f σ H Q):tT K Γ Γ' js f σ H Q:=by
 obtain ⟨g,m,P,r,R,k,res,e,q⟩:=h;refine ⟨g,m,P,r,R,k,res,e,fun b m' g' P' H' hk ag s r1=>?_⟩;obtain ⟨g2,P2,s2,r2⟩:=r1.weaken hw;exact q b m' g2 P2 H' hk (ag.mono hs) (s.trans s2) r2
theorem GT {f:Ev Dv} {Q:VK} (hw:BQ Γ2 Γ'=true) (hs:∀ i∈js,i∈js2) (h:tE K Γ 0 Γ2 js2 f σ H Q):tE K Γ 0 Γ' js f σ H Q:=by
 obtain ⟨g,m,P,r,R,k,res,e,q⟩:=h;refine ⟨g,m,P,r,R,k,res,e,fun b m' g' P' Pv v H' hk ag s rv r1 n=>?_⟩;obtain ⟨g2,P2,s2,r2⟩:=r1.weaken hw;exact q b m' g2 P2 nop v H' hk (ag.mono hs) (((s.less fun _ q=>.inl q).trans s2).less fun _ q=>q.elim id False.elim) (rv.z.held s2 r1.fpOk fun _ z=>z.elim) r2 fun _ _ z=>z
theorem iA {p:List Dv->Option Bool} {as:List Ar} {r:Ou} (hp:AG K (fun ds=>(p ds).map .bl) 0 r) (c:AD Γ as Γ' js) {Q:Bool->Hp->Prop} (h:tT K Γ Γ' js (Yw p (AR as)) σ H Q):BN K as σ H fun vs H1=>r vs H1 fun x H'=>∃ k,x=.bl k/\Q k H':=by
 obtain ⟨g,m,P,rl,R',k,res,e,q⟩:=h;refine AM as rl c e fun ds m' g' P' vs H1 hk ag s ar r1=>?_
 obtain ⟨b,e1,e2⟩:=bind_some' hk;refine hp g' H1 ds vs (.bl b) _ r1.zd (ar.ra r1) (by show (p ds).map _=_;rw [e1];rfl) fun v H2 nw=>?_
 obtain ⟨Pv,s2,h1,r2,n2⟩:=Ab.go s r1 nw;refine ⟨b,by unfold Rep at h1;exact h1.1,q b m' g' P' H2 e2 ag (s2.less fun _ q=>.inl q) r2⟩
theorem rep_bl {g:G} {o:Nat} {b:Bool} {v:V} {P:Fp} (h:Rep K g H o (.bl b) v P):v=.bl b:=by unfold Rep at h;exact h.1
theorem Br {g:G} {b:Bool}:Rep K g H o (.bl b) (.bl b) nop:=by unfold Rep;exact ⟨rfl,fun _ z=>z⟩
theorem Re {t u:Ev Bool} {Q:Bool->Hp->Prop} (h:tT K Γ Γ' (js++js2) (HZ t u (fun R m k=>k false m)) σ H Q) (hw:BQ Γ' Γ2=true):eN (tT K Γ Γ2 js t) (tT K Γ2 Γ' js2 u) σ H Q:=by
 obtain ⟨g,m,P,r,R,k,res,e,q⟩:=h;refine ⟨g,m,P,r,R,_,res,e,fun b m1 g1 P1 H1 hk ag s r1=>?_⟩;cases b with
 | true =>
  rw [if_pos rfl] at hk ⊢;exact ⟨g1,m1,P1,r1,R,k,res,hk,fun c m2 g2 P2 H2 hk2 ag2 s2 r2=>q c m2 g2 P2 H2 hk2 (ag.trans ag2) (s.trans s2) r2⟩
 | false =>
  rw [if_neg lV] at hk ⊢;obtain ⟨g2,P2,s2,r2⟩:=r1.weaken hw;exact q false m1 g2 P2 H1 hk (ag.mono fun _ z=>lM _ z) (s.trans s2) r2
theorem dw {t u:Ev Bool} {Q:Bool->Hp->Prop} (h:tT K Γ Γ' (js++js2) (HZ t (fun R m k=>k true m) u) σ H Q) (hw:BQ Γ' Γ2=true):kG (tT K Γ Γ2 js t) (tT K Γ2 Γ' js2 u) σ H Q:=by
 obtain ⟨g,m,P,r,R,k,res,e,q⟩:=h;refine ⟨g,m,P,r,R,_,res,e,fun b m1 g1 P1 H1 hk ag s r1=>?_⟩;cases b with
 | false =>
  rw [if_neg lV] at hk ⊢;exact ⟨g1,m1,P1,r1,R,k,res,hk,fun c m2 g2 P2 H2 hk2 ag2 s2 r2=>q c m2 g2 P2 H2 hk2 (ag.trans ag2) (s.trans s2) r2⟩
 | true =>
  rw [if_pos rfl] at hk ⊢;obtain ⟨g2,P2,s2,r2⟩:=r1.weaken hw;exact q true m1 g2 P2 H1 hk (ag.mono fun _ z=>lM _ z) (s.trans s2) r2
theorem ZU {t:Ev Bool} {Q:Bool->Hp->Prop} (h:tT K Γ Γ' js (Yu t) σ H Q):eC (tT K Γ Γ' js t) σ H Q:=by
 obtain ⟨g,m,P,r,R,k,res,e,q⟩:=h;exact ⟨g,m,P,r,R,_,res,e,fun b m1 g1 P1 H1 hk ag s r1=>q (!b) m1 g1 P1 H1 hk ag s r1⟩
theorem eI {c:Ev Bool} {fa fb:Ev Dv} {Q:VK} (h:tE K Γ 0 Γ' (js++(js2++js3)) (HZ c fa fb) σ H Q):kH (tT K Γ Γ2 js c) (tE K Γ2 0 Γ' js2 fa) (tE K Γ2 0 Γ' js3 fb) σ H Q:=by
 obtain ⟨g,m,P,r,R,k,res,e,q⟩:=h;refine ⟨g,m,P,r,R,_,res,e,fun b m1 g1 P1 H1 hk ag s r1=>?_⟩;cases b with
 | true =>
  rw [if_pos rfl] at hk ⊢;exact ⟨g1,m1,P1,r1,R,k,res,hk,fun d m2 g2 P2 Pv v H2 hk2 ag2 s2 rv r2 n=>q d m2 g2 P2 Pv v H2 hk2 ((ag.trans ag2).mono fun i z=>(lW.mp z).elim (fun z=>lM _ z) fun z=>lH _ (lM _ z)) (s.trans s2) rv r2 n⟩
 | false =>
  rw [if_neg lV] at hk ⊢;exact ⟨g1,m1,P1,r1,R,k,res,hk,fun d m2 g2 P2 Pv v H2 hk2 ag2 s2 rv r2 n=>q d m2 g2 P2 Pv v H2 hk2 ((ag.trans ag2).mono fun i z=>(lW.mp z).elim (fun z=>lM _ z) fun z=>lH _ (lH _ z)) (s.trans s2) rv r2 n⟩
end
structure Kt (R:Type) where
 nx:M->Option R
 rt:Dv->M->Option R
 bk:M->Option R
 ct:M->Option R
noncomputable abbrev Es:=(R:Type)->M->Kt R->Option R
def Io (io:List Nat) (σ σ':St):Prop:=∀ i∈io,σ'[i]?=σ[i]?
theorem Io.refl {io:List Nat} {σ:St}:Io io σ σ:=fun _ _=>rfl
theorem Io.trans {io:List Nat} {σ σ1 σ2:St} (a:Io io σ σ1) (b:Io io σ1 σ2):Io io σ σ2:=fun i h=>(b i h).trans (a i h)
theorem Io.set {io:List Nat} {σ:St} {i:Nat} {x:Option V} (h:i∉io):Io io σ (σ.set i x):=fun j hj=>lh fun z=>h (by rw [z];exact hj)
structure Fr where
 io:List Nat
 Γr:Gm
 ro:Nat
structure AcS (K:W.Frag) (F:Fr) (Γl:Option Gm) (g:G) (P:Fp) (H:Hp) (σ:St) (D:Ends) (Γn:Option Gm) (js:List Nat) (m:M) {R:Type} (k:Kt R) (r:R):Prop where
 nx:∀ Γ' m' g' P' σ' H',Γn=some Γ'->k.nx m'=some r->BU js m m'->Step g P H g' P' H'->Io F.io σ σ'->Rel K g' H' Γ' m' σ' P'->D.nx σ' H'
 rt:∀ d m' g' P' Pv σ' v H',k.rt d m'=some r->BU js m m'->Step g P H g' (fun a=>P' a\/Pv a) H'->Io F.io σ σ'->Rep K g' H' F.ro d v Pv->Rel K g' H' F.Γr m' σ' P'->Disj P' Pv->D.rt v H'
 bk:∀ Γ' m' g' P' σ' H',Γl=some Γ'->k.bk m'=some r->BU js m m'->Step g P H g' P' H'->Io F.io σ σ'->Rel K g' H' Γ' m' σ' P'->D.bk σ' H'
 ct:∀ Γ' m' g' P' σ' H',Γl=some Γ'->k.ct m'=some r->BU js m m'->Step g P H g' P' H'->Io F.io σ σ'->Rel K g' H' Γ' m' σ' P'->D.ct σ' H'
def tS (K:W.Frag) (F:Fr) (Γl:Option Gm) (Γ:Gm) (Γn:Option Gm) (js:List Nat) (f:Es):TS:=fun D σ H=>∃ g m P,Rel K g H Γ m σ P/\∃ (R:Type) (k:Kt R) (r:R),f R m k=some r/\AcS K F Γl g P H σ D Γn js m k r
theorem AcS.later {K:W.Frag} {F:Fr} {Γl Γn:Option Gm} {g g1:G} {P P1:Fp} {H H1:Hp} {σ σ1:St} {D:Ends} {js ks:List Nat} {m m1:M} {R:Type} {k:Kt R} {r:R} (s:Step g P H g1 P1 H1) (i:Io F.io σ σ1) (ag:BU js m m1) (h:AcS K F Γl g P H σ D Γn (js++ks) m k r):AcS K F Γl g1 P1 H1 σ1 D Γn ks m1 k r:=
  ⟨fun Γ' m' g' P' σ' H' e hk a s' i' r'=>h.nx Γ' m' g' P' σ' H' e hk (ag.trans a) (s.trans s') (i.trans i') r',
   fun d m' g' P' Pv σ' v H' hk a s' i' rv r' n=>h.rt d m' g' P' Pv σ' v H' hk (ag.trans a) (s.trans s') (i.trans i') rv r' n,
   fun Γ' m' g' P' σ' H' e hk a s' i' r'=>h.bk Γ' m' g' P' σ' H' e hk (ag.trans a) (s.trans s') (i.trans i') r',
   fun Γ' m' g' P' σ' H' e hk a s' i' r'=>h.ct Γ' m' g' P' σ' H' e hk (ag.trans a) (s.trans s') (i.trans i') r'⟩
def HY:Es:=fun _ m k=>k.nx m
def gW (f g:Es):Es:=fun R m k=>f R m { k with nx:=fun m1=>g R m1 k }
def LO (c:Ev Bool) (f g:Es):Es:=fun R m k=>c R m fun b m1=>if b=true then f R m1 k else g R m1 k
def Ys (f:Ev Dv):Es:=fun R m k=>f R m k.rt
def Tt (f:Ev Dv):Es:=fun R m k=>f R m fun _ m1=>k.nx m1
section
variable {X:Cx} {F:Fr} {Γl Γn Γn2:Option Gm} {Γ Γ' Γ2:Gm} {js js2 js3 J:List Nat} {s:Stmt} {ss rest a b:List Stmt} {e c:Expr} {pos:Pos} {f f2:Es} {fe:Ev Dv} {t:Ev Bool} {o:Nat}
theorem Gn {K:W.Frag} {D:Ends} {σ:St} {H:Hp} (h:tS K F Γl Γ (some Γ) [] HY D σ H):D.nx σ H:=by
 obtain ⟨g,m,P,r,R,k,res,e,q⟩:=h;exact q.nx Γ m g P σ H rfl e BU.refl Step.refl Io.refl r
theorem eW:Cu X [] (tS X.K F Γl Γ (some Γ) [] HY):=Cu.imp WD fun D σ H h=>Gn h
theorem Zn:PS X (.Pass pos) (tS X.K F Γl Γ (some Γ) [] HY):=PS.imp WE fun D σ H h=>Gn h
theorem eX {x j pos'}:PS X (.Expr (.Constant (.str x) j pos) pos') (tS X.K F Γl Γ (some Γ) [] HY):=PS.imp aE fun D σ H h=>Gn h
theorem Zs (h1:PS X s (tS X.K F Γl Γ (some Γ2) js f)) (h2:Cu X rest (tS X.K F Γl Γ2 Γn js2 f2)):Cu X (s::rest) (tS X.K F Γl Γ Γn (js++js2) (gW f f2)):=Cu.imp (Kp h1 h2) fun D σ H h=>by
 obtain ⟨g,m,P,r,R,k,res,e,q⟩:=h;refine ⟨g,m,P,r,R,_,res,e,⟨fun Γ' m' g' P' σ' H' e hk ag s' i' r'=>?_,fun d m' g' P' Pv σ' v H' hk ag=>q.rt d m' g' P' Pv σ' v H' hk (ag.mono fun _ z=>lM _ z),fun Γ' m' g' P' σ' H' e hk ag=>q.bk Γ' m' g' P' σ' H' e hk (ag.mono fun _ z=>lM _ z),fun Γ' m' g' P' σ' H' e hk ag=>q.ct Γ' m' g' P' σ' H' e hk (ag.mono fun _ z=>lM _ z)⟩⟩;cases e;exact ⟨g',m',P',r',R,k,res,hk,q.later s' i' ag⟩
theorem Zo (h1:PS X s (tS X.K F Γl Γ none js f)):Cu X (s::rest) (tS X.K F Γl Γ none js f):=Cu.imp (Kp h1 (u:=fun _ _ _=>False) fun _ _ _ _ _ _ z=>z.elim) fun D σ H h=>by
 obtain ⟨g,m,P,r,R,k,res,e,q⟩:=h;exact ⟨g,m,P,r,R,k,res,e,(fun _ _ _ _ _ _ e=>by cases e),q.rt,q.bk,q.ct⟩
theorem eV (h1:PS X s (tS X.K F Γl Γ Γn js f)):Cu X [s] (tS X.K F Γl Γ Γn js f):=WC h1
theorem eS (hq:PE X e (tE X.K Γ F.ro F.Γr js fe)):PS X (.Return (some e) pos) (tS X.K F Γl Γ none js (Ys fe)):=PS.imp (aC hq) fun D σ H h=>by
 obtain ⟨g,m,P,r,R,k,res,e,q⟩:=h;exact ⟨g,m,P,r,R,_,res,e,fun d m' g' P' Pv v H' hk ag s rv r1 n=>q.rt d m' g' P' Pv σ v H' hk ag s Io.refl rv r1 n⟩
theorem Zr (hq:PE X e (tE X.K Γ o Γ' js fe)) (hs:swapsWith e none pos.line X.env=pure false):PS X (.Expr e pos) (tS X.K F Γl Γ (some Γ') js (Tt fe)):=PS.imp (WG hq hs) fun D σ H h=>by
 obtain ⟨g,m,P,r,R,k,res,e,q⟩:=h;exact ⟨g,m,P,r,R,_,res,e,fun d m' g' P' Pv v H' hk ag s rv r1 n=>q.nx Γ' m' g' P' σ H' rfl hk ag (s.less fun _ q=>.inl q) Io.refl r1⟩
theorem jA (hc:PT X c (tT X.K Γ Γ2 js t)) (ha:Cu X a (tS X.K F Γl Γ2 Γn js2 f)) (hb:Cu X b (tS X.K F Γl Γ2 Γn js3 f2)):PS X (.If c a b pos) (tS X.K F Γl Γ Γn (js++(js2++js3)) (LO t f f2)):=PS.imp (fT hc ha hb) fun D σ H h=>by
 obtain ⟨g,m,P,r,R,k,res,e,q⟩:=h;refine ⟨g,m,P,r,R,_,res,e,fun b m1 g1 P1 H1 hk ag s r1=>?_⟩;have q2:=q.later s Io.refl ag;have mo:∀ (ks:List Nat),(∀ i∈ks,i∈js2++js3)->AcS X.K F Γl g1 P1 H1 σ D Γn ks m1 k res:=fun ks hks =>
  ⟨fun Γ' m' g' P' σ' H' e hk a=>q2.nx Γ' m' g' P' σ' H' e hk (a.mono hks),fun d m' g' P' Pv σ' v H' hk a=>q2.rt d m' g' P' Pv σ' v H' hk (a.mono hks),fun Γ' m' g' P' σ' H' e hk a=>q2.bk Γ' m' g' P' σ' H' e hk (a.mono hks),fun Γ' m' g' P' σ' H' e hk a=>q2.ct Γ' m' g' P' σ' H' e hk (a.mono hks)⟩
 cases b with
 | true=>rw [if_pos rfl] at hk;show (if true=true then _ else _);rw [if_pos rfl];exact ⟨g1,m1,P1,r1,R,k,res,hk,mo js2 fun _ z=>lM _ z⟩
 | false=>rw [if_neg lV] at hk;show (if false=true then _ else _);rw [if_neg lV];exact ⟨g1,m1,P1,r1,R,k,res,hk,mo js3 fun _ z=>lH _ z⟩
def Ja:Option Gm->Option Gm->Bool
 | some a,some b=>BQ a b
 | _,none=>true
 | none,some _=>false
theorem SI (h:Cu X ss (tS X.K F Γl Γ Γn js f)) (hw:Ja Γn2 Γn=true):Cu X ss (tS X.K F Γl Γ Γn2 js f):=Cu.imp h fun D σ H h=>by
 obtain ⟨g,m,P,r,R,k,res,e,q⟩:=h;refine ⟨g,m,P,r,R,k,res,e,fun Γ' m' g' P' σ' H' e hk ag s' i' r'=>?_,q.rt,q.bk,q.ct⟩;subst e;cases Γn2 with
 | none=>cases hw
 | some Γ3 =>
  obtain ⟨g2,P2,s2,r2⟩:=r'.weaken (by unfold Ja at hw;exact hw);exact q.nx Γ3 m' g2 P2 σ' H' rfl hk ag (s'.trans s2) i' r2
def gZ (J:List Nat) (f:Es):Es:=fun R m k=>(f (EB J) m ⟨fun m'=>some (Aa J m'),fun _ _=>none,fun _=>none,fun _=>none⟩).bind fun t=>k.nx (Ae J m t)
theorem bP {K:W.Frag} {D:Ends} {σ:St} {H:Hp} (hj:∀ i o,Γ'[i]?=some (some o)->i∈J\/i∉js) (hs:∀ i∈J,i∈js) (h:tS K F Γl Γ (some Γ') js (gZ J f) D σ H):tS K F Γl Γ (some Γ') js f D σ H:=by
 obtain ⟨g,m,P,r,R,k,res,e,q⟩:=h;obtain ⟨t,e1,e2⟩:=bind_some' e;refine ⟨g,m,P,r,_,_,t,e1,⟨fun Γ2 m' g' P' σ' H' e hk ag s' i' r'=>?_,(fun _ _ _ _ _ _ _ _ hk=>by cases hk),(fun _ _ _ _ _ _ _ hk=>by cases hk),fun _ _ _ _ _ _ _ hk=>by cases hk⟩⟩;cases e;cases hk;exact q.nx Γ' _ g' P' σ' H' rfl e2 ((AV J m _).mono hs) s' i' (r'.join ag hj)
end
noncomputable abbrev Tg:=(R:Type)->Dv->M->(M->Option R)->Option R
def Ag (js:List Nat) (σ σ':St):Prop:=σ'.length=σ.length/\∀ i,i∉js->σ'[i]?=σ[i]?
theorem Ag.io {js io:List Nat} {σ σ':St} (h:Ag js σ σ') (d:∀ i∈io,i∉js):Io io σ σ':=fun i hi=>h.2 i (d i hi)
theorem Ag.trans {js ks:List Nat} {σ σ1 σ2:St} (a:Ag js σ σ1) (b:Ag ks σ1 σ2):Ag (js++ks) σ σ2:=⟨b.1.trans a.1,fun i h=>(b.2 i fun z=>h (lH _ z)).trans (a.2 i fun z=>h (lM _ z))⟩
theorem Ag.set {σ:St} {i:Nat} {x:Option V}:Ag [i] σ (σ.set i x):=⟨lj ..,fun j h=>lh fun z=>h (by rw [z];exact nQ _)⟩
def NT (K:W.Frag) (Γ Γ':Gm) (js:List Nat) (tg:TG) (f:Tg):Prop:=∀ (g:G) (m:M) (P:Fp) (d:Dv) (v:V) (σ:St) (H:Hp) (R:Type) (k:M->Option R) (r:R) (Q:St->Hp->Prop),Rel K g H Γ m σ P->Rep K g H 0 d v nop->f R d m k=some r ->
 (∀ m' P' σ',k m'=some r->BU js m m'->(∀ a,P' a->P a)->Ag js σ σ'->Rel K g H Γ' m' σ' P'->Q σ' H)->tg v σ H Q
def du (i:Nat):Tg:=fun _ d m k=>k (m.set i d)
theorem Vh {K:W.Frag} {Γ:Gm} {i:Nat} (hi:i < Γ.length):NT K Γ (Γ.set i (some 0)) [i] (DL i) (du i):=fun g m P d v σ H R k r Q rl rv e q=>by
 obtain ⟨P2,r2,s⟩:=rl.setNew hi rv fun _ z=>z.elim
 exact q _ P2 _ e BU.set (fun a z=>(s a z).elim id False.elim) Ag.set r2
noncomputable def dW:(J:List Nat)->List Dv->Option (EB J)
 | [],[]=>some ()
 | [_],[d]=>some d
 | _::j::J,d::ds=>(dW (j::J) ds).bind fun t=>some (d,t)
 | _,_=>none
def KH (J:List Nat) (d:Dv):Option (EB J):=match d with
 | .tup ds=>dW J ds
 | .lst ds=>dW J ds
 | _=>none
def kD (J:List Nat):Tg:=fun _ d m k=>(KH J d).bind fun t=>k (Ae J m t)
def EV:List Nat->NV
 | []=>bY
 | i::J=>Td (DL i) (EV J)
def Zm (Γ:Gm) (J:List Nat) (x:Option Nat):Gm:=J.foldl (fun Γ i=>Γ.set i x) Γ
theorem IV {K:W.Frag}:∀ (J:List Nat) {Γ:Gm} {g:G} {m:M} {P:Fp} {ds:List Dv} {vs:List V} {σ:St} {H:Hp} {t:EB J} {Q:St->Hp->Prop},(∀ i∈J,i < Γ.length)->Rel K g H Γ m σ P->Reps K g H 0 ds vs nop->dW J ds=some t ->
    (∀ P' σ',(∀ a,P' a->P a)->Ag J σ σ'->Rel K g H (Zm Γ J (some 0)) (Ae J m t) σ' P'->Q σ' H)->ds.length=J.length/\EV J vs σ H Q
  | [],Γ,g,m,P,ds,vs,σ,H,t,Q,hJ,r,rv,e,q=>by
    cases ds with
    | nil =>
      unfold Reps at rv;exact ⟨rfl,rv.1,q P σ (fun _ z=>z) ⟨rfl,fun _ _=>rfl⟩ r⟩
    | cons d ds=>cases e
  | [i],Γ,g,m,P,ds,vs,σ,H,t,Q,hJ,r,rv,e,q=>by
    match ds,e with
    | [d],e =>
      cases e;unfold Reps at rv;obtain ⟨v,vr,P1,P2,rfl,h1,h2,_,h4⟩:=rv;unfold Reps at h2;obtain ⟨P3,r3,s⟩:=r.setNew (hJ i lE) h1.z fun _ z=>z.elim
      exact ⟨rfl,v,vr,rfl,h2.1,q P3 _ (fun a z=>(s a z).elim id False.elim) Ag.set r3⟩
    | [],e=>cases e
    | _::_::_,e=>cases e
  | i::j::J,Γ,g,m,P,ds,vs,σ,H,t,Q,hJ,r,rv,e,q=>by
    match ds,e with
    | [],e=>cases e
    | d::ds,e =>
      obtain ⟨t',e1,e2⟩:=bind_some' (show (dW (j::J) ds).bind (fun t=>some (d,t))=some t from e);cases e2;unfold Reps at rv;obtain ⟨v,vr,P1,P2,rfl,h1,h2,_,h4⟩:=rv;obtain ⟨P3,r3,s⟩:=r.setNew (hJ i lE) h1.z fun _ z=>z.elim
      have s':∀ a,P3 a->P a:=fun a z=>(s a z).elim id False.elim
      have:=IV (j::J) (Q:=Q) (fun k hk=>by rw [lj];exact hJ k (lG _ hk)) r3 h2.z e1 fun P' σ' sp ag r'=>q P' σ' (fun a z=>s' a (sp a z)) (Ag.set.trans ag) r'
      exact ⟨by simp [this.1],v,vr,rfl,this.2⟩
abbrev gN (K:W.Frag) (n:Nat) (t:NV):TG:=fun v σ H Q=>bX K n t v σ H Q\/bZ n t v σ H Q
theorem Rb {K:W.Frag} {Γ:Gm} {J:List Nat} (hJ:∀ i∈J,i < Γ.length):NT K Γ (Zm Γ J (some 0)) J (gN K J.length (EV J)) (kD J):=fun g m P d v σ H R k r Q rl rv e q=>by
 obtain ⟨t,e1,e2⟩:=bind_some' e;have go:∀ {ds vs},Reps K g H 0 ds vs nop->dW J ds=some t->ds.length=J.length/\EV J vs σ H Q:=fun h1 h2=>IV J hJ rl h1 h2 fun P' σ' sp ag r'=>q _ P' σ' e2 (AV J m t) sp ag r'
 cases d with
 | tup ds =>
  unfold Rep at rv;obtain ⟨a,vs,rfl,h1,h2⟩:=rv;obtain ⟨l,z⟩:=go h2 e1;exact .inl ⟨a,vs,rfl,.inl (.inl h1),by rw [<- h2.len];exact l,z⟩
 | lst ds =>
  unfold Rep at rv;obtain ⟨a,vs,P',rfl,h1,h2,_⟩:=rv;obtain ⟨l,z⟩:=go h2.z e1;exact .inr ⟨a,vs,rfl,h1.1,by rw [<- h2.len];exact l,z⟩
 | _=>cases e1
theorem PG.or {X:Cx} {e:Expr} {t u:TG} (h:PG X e t) (k:PG X e u):PG X e fun v σ H Q=>t v σ H Q\/u v σ H Q:=fun pins s σ H v w Q I r q=>q.elim (h pins s σ H v w Q I r) (k pins s σ H v w Q I r)
theorem bW {js:List Nat} {t u:TG} (h:RN js t) (k:RN js u):RN js fun v σ H Q=>t v σ H Q\/u v σ H Q:=fun x σ H Q q=>q.elim (fun q=>.inl (h x σ H Q q)) fun q=>.inr (k x σ H Q q)
theorem EU {js:List Nat}:∀ (J:List Nat),(∀ i∈J,i∈js)->RJ js (EV J)
 | [],_=>Ta
 | i::J,h=>QL (h i lE) (EU J fun k hk=>h k (lG _ hk))
def Ii (f:Ev Dv) (tg:Tg):Es:=fun R m k=>f R m fun d m1=>tg R d m1 k.nx
section
variable {X:Cx} {F:Fr} {Γl:Option Gm} {Γ Γ' Γ2:Gm} {js js2:List Nat} {e tg:Expr} {pos pos':Pos} {fe:Ev Dv} {g:TG} {ft:Tg} {i o:Nat} {x:Str}
theorem Xw {K:W.Frag} (ht:NT K Γ2 Γ' js2 g ft) (hio:∀ i∈F.io,i∉js2) {D:Ends} {σ:St} {H:Hp} (h:tS K F Γl Γ (some Γ') (js++js2) (Ii fe ft) D σ H):Lz (tE K Γ 0 Γ2 js fe) g D σ H:=by
 obtain ⟨g0,m,P,r,R,k,res,e,q⟩:=h;refine ⟨g0,m,P,r,R,_,res,e,fun d m1 g' P' Pv v H' hk ag s rv r1 n=>ht g' m1 P' d v σ H' R k.nx res _ r1 rv.z hk fun m' P2 σ2 hk2 ag2 s2 i r2=>?_⟩;exact q.nx Γ' m' g' P2 σ2 H' rfl hk2 (ag.trans ag2) (s.less fun a z=>.inl (s2 a z)) (i.io hio) r2
theorem Nq {K:W.Frag} (hi:i < Γ2.length) (hio:i∉F.io) {D:Ends} {σ:St} {H:Hp} (h:tS K F Γl Γ (some (Γ2.set i (some o))) (js++[i]) (Ii fe (du i)) D σ H):Lz (tE K Γ o Γ2 js fe) (DL i) D σ H:=by
 obtain ⟨g0,m,P,r,R,k,res,e,q⟩:=h;refine ⟨g0,m,P,r,R,_,res,e,fun d m1 g' P' Pv v H' hk ag s rv r1 n=>?_⟩;obtain ⟨P2,r2,s2⟩:=r1.setNew hi rv fun a q z=>n a z q
 exact q.nx _ _ g' P2 _ H' rfl hk (ag.trans BU.set) (s.less fun a z=>s2 a z) (Io.set hio) r2
theorem eR (hN:X.N.Nodup) (hix:X.N[i]?=some x) (hx:Loc X.env.scope x) (hio:i∉F.io) (hi:i < Γ2.length) (he:PE X e (tE X.K Γ o Γ2 js fe)) (hs:swapsWith e (some (.Name x pos')) pos.line X.env=pure false) (hf:X.fn x=true\/X.env.scope.names.lookup x=some .local) :
    PS X (.Assign [.Name x pos'] e pos) (tS X.K F Γl Γ (some (Γ2.set i (some o))) (js++[i]) (Ii fe (du i))):=PS.imp (aB hN hix hx he hs hf) fun _ _ _ h=>Nq hi hio h
theorem eY (he:PE X e (tE X.K Γ 0 Γ2 js fe)) (hg:PG X tg g) (ht:NT X.K Γ2 Γ' js2 g ft) (hio:∀ i∈F.io,i∉js2) (hs:swapsWithSole [tg] e pos.line X.env=pure false) (hw:swappedStores [tg] e X.env=pure none)
    (h1:(assignEach [tg] X.env).map (·.2)=[assign tg X.env]):PS X (.Assign [tg] e pos) (tS X.K F Γl Γ (some Γ') (js++js2) (Ii fe ft)):=PS.imp (SZ he hg hs hw h1) fun _ _ _ h=>Xw ht hio h
end
def Hh (g:G) (H:Hp) (g2:G) (H2:Hp):Prop:=∃ P P',Step g P H g2 P' H2/\FpOk g H P
def Yl (K:W.Frag) (J:It) (ds:List Dv) (g:G) (H:Hp):Prop:=∀ g2 H2,Hh g H g2 H2 ->
 (∀ i d,ds[i]?=some d->J.go i H2/\∀ x H3,J.yld i H2 x H3->Ab K g2 H2 0 d x H3)/\∀ i,ds.length<=i->J.stop i H2
def tI (K:W.Frag) (Γ Γ':Gm) (js:List Nat) (f:Ev (List Dv)):TI:=fun σ H Q=>∃ g m P,Rel K g H Γ m σ P/\∃ (R:Type) (k:List Dv->M->Option R) (r:R),f R m k=some r /\
 ∀ ds m' g' P' H' J,k ds m'=some r->BU js m m'->Step g P H g' P' H'->Rel K g' H' Γ' m' σ P'->Yl K J ds g' H'->Q J H'
theorem PI.imp {X:Cx} {tg e:Expr} {t t':TI} (h:PI X tg e t) (k:∀ σ H R,t' σ H R->t σ H R):PI X tg e t':=fun pins s σ H R I q=>h pins s σ H R I (k σ H R q)
theorem Ab.old {K:W.Frag} {g:G} {H:Hp} {o:Nat} {d:Dv} {v:V} (h:Rep K g H o d v nop):Ab K g H o d v H:=⟨fun _ _ q=>q,nop,h,fun _ z=>z.elim⟩
theorem Hh.rep {K:W.Frag} {g g2:G} {H H2:Hp} {d:Dv} {v:V} (s:Hh g H g2 H2) (h:Rep K g H 0 d v nop):Rep K g2 H2 0 d v nop:=by
 obtain ⟨P,P',st,ok⟩:=s;exact h.held st ok fun _ z=>z.elim
section
variable {τ γ ρ:Type}
inductive Lp (τ γ ρ:Type) where
 | go (c:γ) | bk (c:γ) | rt (d:τ) (r:ρ)
inductive Rs (τ γ ρ:Type) where
 | go (c:γ) | rt (d:τ) (r:ρ)
noncomputable def Rs.el {δ:Type} (x:Rs τ γ ρ) (f:γ->δ) (h:τ->ρ->δ):δ:=match x with | .go c=>f c | .rt d r=>h d r
noncomputable def Av (g:Dv->γ->Option γ):List Dv->γ->Option γ
 | [],c=>some c
 | x::xs,c=>(g x c).bind fun c1=>Av g xs c1
noncomputable def HV (g:Dv->γ->Option (Lp τ γ ρ)):List Dv->γ->Option (Rs τ γ ρ)
 | [],c=>some (.go c)
 | x::xs,c=>(g x c).bind fun l=>match l with
  | .go c1=>HV g xs c1
  | .bk c1=>some (.go c1)
  | .rt d r=>some (.rt d r)
noncomputable def YE (t:γ->Option Bool) (g:γ->Option γ):Nat->γ->Option γ
 | 0,_=>none
 | n+1,c=>(t c).bind fun b=>if b=true then (g c).bind (YE t g n) else some c
noncomputable def iZ (t:γ->Option Bool) (g:γ->Option (Lp τ γ ρ)):Nat->γ->Option (Rs τ γ ρ)
 | 0,_=>none
 | n+1,c=>(t c).bind fun b=>if b=true then (g c).bind (fun l=>match l with
  | .go c1=>iZ t g n c1
  | .bk c1=>some (.go c1)
  | .rt d r=>some (.rt d r)) else some (.go c)
end
def kC (J:List Nat):Kt (EB J):=⟨fun m'=>some (Aa J m'),fun _ _=>none,fun _=>none,fun m'=>some (Aa J m')⟩
def kE (J Jr:List Nat):Kt (Lp Dv (EB J) (EB Jr)):=⟨fun m'=>some (.go (Aa J m')),fun d m'=>some (.rt d (Aa Jr m')),fun m'=>some (.bk (Aa J m')),fun m'=>some (.go (Aa J m'))⟩
def Tr (src:Ev (List Dv)) (tg:Tg) (J:List Nat) (b:Es):Es:=fun R m k=>src R m fun ds m1 =>
 (Av (fun d t=>tg (EB J) d (Ae J m1 t) fun m2=>b (EB J) m2 (kC J)) ds (Aa J m1)).bind fun t=>k.nx (Ae J m1 t)
def Tq (src:Ev (List Dv)) (tg:Tg) (J Jr:List Nat) (b:Es):Es:=fun R m k=>src R m fun ds m1 =>
 (HV (fun d t=>tg (Lp Dv (EB J) (EB Jr)) d (Ae J m1 t) fun m2=>b (Lp Dv (EB J) (EB Jr)) m2 (kE J Jr)) ds (Aa J m1)).bind fun x=>x.el (fun t=>k.nx (Ae J m1 t)) fun d t=>k.rt d (Ae Jr m1 t)
theorem Mj {J:List Nat} {Γ:Gm} {K:W.Frag} {g:G} {H:Hp} {m:M} {σ:St} {P:Fp} (r:Rel K g H Γ m σ P):Rel K g H Γ (Ae J m (Aa J m)) σ P:=r.join (js:=[]) BU.refl fun _ _ _=>.inr (by simp)
theorem OW {K:W.Frag} {F:Fr} {Γl0:Option Gm} {Γ Γt:Gm} {Γo:Option Gm} {jt jb:List Nat} {g:TG} {ft:Tg} {b:Es} {J Jr:List Nat} (ht:NT K Γ Γt jt g ft) (hio:∀ i∈F.io,i∉jt) (hw:Ja (some Γ) Γo=true)
    (hJ:J=Au Γ (jt++jb)) (hJr:Jr=Au F.Γr (jt++jb)) {ds:List Dv} {m1:M} {D:Ends} {σ:St} {H1:Hp} {g1:G} {P1:Fp} {I:It} {R:Type} {k:Kt R} {res:R}
    (r1:Rel K g1 H1 Γ m1 σ P1) (yl:Yl K I ds g1 H1) (run:List Dv->EB J->Prop) (h0:run ds (Aa J m1)) (hn:∀ t,run [] t->k.nx (Ae J m1 t)=some res)
    (hc:∀ d ds t,run (d::ds) t->∃ (B:Type) (κ:Kt B) (r:B),ft B d (Ae J m1 t) (fun m2=>b B m2 κ)=some r/\(∀ m',κ.nx m'=some r->run ds (Aa J m'))/\(∀ m',κ.ct m'=some r->run ds (Aa J m')) /\
      (∀ m',κ.bk m'=some r->k.nx (Ae J m1 (Aa J m'))=some res)/\∀ d m',κ.rt d m'=some r->k.rt d (Ae Jr m1 (Aa Jr m'))=some res)
    (q:AcS K F Γl0 g1 P1 H1 σ D (some Γ) (jt++jb) m1 k res) :
    ∃ W:Nat->Nat->St->Hp->Prop,(∃ m,W 0 m σ H1)/\∀ i m σ H,W i m σ H ->
      (I.stop i H/\D.nx σ H)\/(I.go i H/\∃ N:St->Hp->Prop,(∀ σ' H',N σ' H'->∃ m',m' < m/\W (i+1) m' σ' H')/\∀ x H',I.yld i H x H'->g x σ H' fun σ2 H2=>tS K F (some Γ) Γt Γo jb b { D with nx:=N,ct:=N,bk:=D.nx } σ2 H2):=by
  have sub:∀ i∈J,i∈jt++jb:=fun i h=>As (hJ▸h)
  have subr:∀ i∈Jr,i∈jt++jb:=fun i h=>As (hJr▸h)
  refine ⟨fun i j σ' H'=>j=ds.length - i/\i<=ds.length/\∃ g2 t P2,Step g1 P1 H1 g2 P2 H'/\Io F.io σ σ'/\Rel K g2 H' Γ (Ae J m1 t) σ' P2/\run (ds.drop i) t,⟨ds.length,by simp,mF _,g1,Aa J m1,P1,Step.refl,Io.refl,Mj r1,by simpa using h0⟩,?_⟩;rintro i j σ2 H2 ⟨rfl,hi,g2,t,P2,s2,i2,r2,e2⟩;have st:Hh g1 H1 g2 H2:=⟨P1,P2,s2,r1.fpOk⟩
  by_cases hlt:i < ds.length
  · rw [nP hlt] at e2;obtain ⟨B,κ,rB,e3,knx,kct,kbk,krt⟩:=hc _ _ _ e2;obtain ⟨go,yy⟩:=(yl g2 H2 st).1 i ds[i] (lA hlt);refine .inr ⟨go,fun σ' H'=>∃ g5 P5 m',Step g1 P1 H1 g5 P5 H'/\Io F.io σ σ'/\Rel K g5 H' Γ m' σ' P5/\BU (jt++jb) m1 m'/\run (ds.drop (i+1)) (Aa J m'),?_,fun x H3 hy=>?_⟩
    · rintro σ' H' ⟨g5,P5,m',s5,i5,r5,ag,hr⟩;exact ⟨ds.length - (i+1),by omega,rfl,hlt,g5,Aa J m',P5,s5,i5,r5.join ag fun i o h=>hJ▸BI h,hr⟩
    · obtain ⟨Pv,s3,h3,r3,n3⟩:=Ab.go s2 r2 (yy x H3 hy);refine ht g2 _ P2 ds[i] x σ2 H3 B _ rB _ r3 h3.z e3 fun m2 P' σ' hk ag sp ip r'=>?_
      have s4:Step g1 P1 H1 g2 P' H3:=s3.less fun a z=>.inl (sp a z)
      have i4:=i2.trans (ip.io hio);have a4:BU (jt++jb) m1 m2:=((AV J m1 t).mono sub).trans ag |>.mono fun i z=>(lW.mp z).elim id fun z=>lM _ z
      have a5:∀ {m'},BU jb m2 m'->BU (jt++jb) m1 m':=fun h=>(a4.trans h).mono fun i z=>(lW.mp z).elim id fun z=>lH _ z
      refine ⟨g2,m2,P',r',B,κ,rB,hk,⟨fun Γ' m' g' P'' σ'' H' e hk ag' s' i' rr=>?_,fun d m' g' P'' Pv σ'' v H' hk ag' s' i' rv rr n=>?_,fun Γ' m' g' P'' σ'' H' e hk ag' s' i' rr=>?_,fun Γ' m' g' P'' σ'' H' e hk ag' s' i' rr=>?_⟩⟩
      · subst e;obtain ⟨g6,P6,s6,r6⟩:=rr.weaken (by unfold Ja at hw;exact hw);exact ⟨g6,P6,m',(s4.trans s').trans s6,i4.trans i',r6,a5 ag',knx m' hk⟩
      · exact q.rt d _ g' P'' Pv σ'' v H' (krt d m' hk) ((AV Jr m1 _).mono subr) (s4.trans s') (i4.trans i') rv (rr.join (a5 ag') fun i o h=>hJr▸BI h) n
      · cases e;exact q.nx Γ _ g' P'' σ'' H' rfl (kbk m' hk) ((AV J m1 _).mono sub) (s4.trans s') (i4.trans i') (rr.join (a5 ag') fun i o h=>hJ▸BI h)
      · cases e;exact ⟨g',P'',m',s4.trans s',i4.trans i',rr,a5 ag',kct m' hk⟩
  · have ei:i=ds.length:=by omega
    subst ei;rw [List.drop_length] at e2;exact .inl ⟨(yl g2 H2 st).2 _ (lJ _),q.nx Γ _ g2 P2 σ2 H2 rfl (hn t e2) ((AV J m1 _).mono sub) s2 i2 r2⟩
section
variable {X:Cx} {F:Fr} {Γl0:Option Gm} {Γ Γ1 Γ2 Γt:Gm} {Γo:Option Gm} {js jt jb J Jr:List Nat} {tg iter:Expr} {body:List Stmt} {src:Ev (List Dv)} {g:TG} {ft:Tg} {b:Es} {pos:Pos}
theorem Hh.pre {g g2 g3:G} {H H3:Hp} {P P2:Fp} (s:Step g P H g2 P2 H) (ok:FpOk g H P) (st:Hh g2 H g3 H3):Hh g H g3 H3:=by
 obtain ⟨P3,P3',s3,ok3⟩:=st;exact ⟨fun a=>P a\/P3 a,P3',(s.frame (R:=P3)).trans (s3.sub (fun _ z=>.inr z) fun _ z=>z),ok.or fun a z=>⟨(ok3 a z).1,fun w=>(ok3 a z).2 (s.zm a w)⟩⟩
theorem Ve {K:W.Frag} {σ:St} {H:Hp} {Q:It->Hp->Prop} (hw:BQ Γ2 Γ1=true) (h:tI K Γ Γ2 js src σ H Q):tI K Γ Γ1 js src σ H Q:=by
 obtain ⟨g,m,P,r,R,k,res,e,q⟩:=h;refine ⟨g,m,P,r,R,k,res,e,fun ds m' g' P' H' J hk ag s r1 yl=>?_⟩;obtain ⟨g2,P2,s2,r2⟩:=r1.weaken hw;exact q ds m' g2 P2 H' J hk ag (s.trans s2) r2 fun g3 H3 st=>yl g3 H3 (st.pre s2 r1.fpOk)
theorem Zq (hp:PassesOwn (model X.prog X.w) X.A X.env X.xe) (hc:X.calm=true) (hi:PI X tg iter (tI X.K Γ Γ1 js src)) (hg:PG X tg g) (ht:NT X.K Γ1 Γt jt g ft) (hio:∀ i∈F.io,i∉jt) (hb:Cu X body (tS X.K F (some Γ1) Γt Γo jb b)) (hw:Ja (some Γ1) Γo=true) (hJ:J=Au Γ1 (jt++jb))
    (hs:∀ x,foldedSetIterable iter X.env x=pure x):PS X (.For tg iter body [] pos) (tS X.K F Γl0 Γ (some Γ1) (js++(jt++jb)) (Tr src ft J b)):=PS.imp (SW hp hc hi hg hb hs) fun D σ H h=>by
  obtain ⟨g0,m,P,r,R,k,res,e,q⟩:=h;refine ⟨g0,m,P,r,R,_,res,e,fun ds m1 g1 P1 H1 I hk ag s r1 yl=>?_⟩;obtain ⟨t,e1,e2⟩:=bind_some' hk;refine OW (Jr:=Au F.Γr (jt++jb)) ht hio hw hJ rfl r1 yl (fun ds t0=>Av _ ds t0=some t) e1 (fun t0 h=>?_) (fun d ds t0 h=>?_) (q.later s Io.refl ag)
  · cases h;exact e2
  · obtain ⟨t1,h1,h2⟩:=bind_some' h;refine ⟨EB J,kC J,t1,h1,fun m' hk=>?_,fun m' hk=>?_,(fun m' hk=>by cases hk),fun d m' hk=>by cases hk⟩
    · cases hk;exact h2
    · cases hk;exact h2
theorem Zp (hp:PassesOwn (model X.prog X.w) X.A X.env X.xe) (hc:X.calm=true) (hi:PI X tg iter (tI X.K Γ Γ1 js src)) (hg:PG X tg g) (ht:NT X.K Γ1 Γt jt g ft) (hio:∀ i∈F.io,i∉jt) (hb:Cu X body (tS X.K F (some Γ1) Γt Γo jb b)) (hw:Ja (some Γ1) Γo=true) (hJ:J=Au Γ1 (jt++jb)) (hJr:Jr=Au F.Γr (jt++jb))
    (hs:∀ x,foldedSetIterable iter X.env x=pure x):PS X (.For tg iter body [] pos) (tS X.K F Γl0 Γ (some Γ1) (js++(jt++jb)) (Tq src ft J Jr b)):=PS.imp (SW hp hc hi hg hb hs) fun D σ H h=>by
  obtain ⟨g0,m,P,r,R,k,res,e,q⟩:=h;refine ⟨g0,m,P,r,R,_,res,e,fun ds m1 g1 P1 H1 I hk ag s r1 yl=>?_⟩;obtain ⟨x,e1,e2⟩:=bind_some' hk;refine OW ht hio hw hJ hJr r1 yl (fun ds t0=>HV _ ds t0=some x) e1 (fun t0 h=>?_) (fun d ds t0 h=>?_) (q.later s Io.refl ag)
  · cases h;exact e2
  · obtain ⟨l,h1,h2⟩:=bind_some' h;refine ⟨_,kE J Jr,l,h1,fun m' hk=>?_,fun m' hk=>?_,fun m' hk=>?_,fun d m' hk=>?_⟩
    · cases hk;exact h2
    · cases hk;exact h2
    · cases hk;cases h2;exact e2
    · cases hk;cases h2;exact e2
end
def Yp (n:Nat) (c:Ev Bool) (J:List Nat) (b:Es):Es:=fun R m k =>
 (YE (fun t=>c Bool (Ae J m t) fun b _=>some b) (fun t=>b (EB J) (Ae J m t) (kC J)) n (Aa J m)).bind fun t=>k.nx (Ae J m t)
def Yo (n:Nat) (c:Ev Bool) (J Jr:List Nat) (b:Es):Es:=fun R m k =>
 (iZ (fun t=>c Bool (Ae J m t) fun b _=>some b) (fun t=>b (Lp Dv (EB J) (EB Jr)) (Ae J m t) (kE J Jr)) n (Aa J m)).bind fun x=>x.el (fun t=>k.nx (Ae J m t)) fun d t=>k.rt d (Ae Jr m t)
theorem RQ {K:W.Frag} {F:Fr} {Γl0:Option Gm} {Γ Γc:Gm} {Γo:Option Gm} {jb:List Nat} {c:Ev Bool} {b:Es} {J Jr:List Nat} (hwc:BQ Γ Γc=true) (hw:Ja (some Γ) Γo=true)
    (hJ:J=Au Γ jb) (hJr:Jr=Au F.Γr jb) {m1:M} {D:Ends} {σ:St} {H1:Hp} {g1:G} {P1:Fp} {R:Type} {k:Kt R} {res:R}
    (r1:Rel K g1 H1 Γ m1 σ P1) (run:Nat->EB J->Prop) {n:Nat} (h0:run n (Aa J m1))
    (hc:∀ n t,run n t->∃ bb,c Bool (Ae J m1 t) (fun b _=>some b)=some bb/\if bb=true then ∃ n',n' < n/\∃ (B:Type) (κ:Kt B) (r:B),b B (Ae J m1 t) κ=some r/\(∀ m',κ.nx m'=some r->run n' (Aa J m'))/\(∀ m',κ.ct m'=some r->run n' (Aa J m')) /\
      (∀ m',κ.bk m'=some r->k.nx (Ae J m1 (Aa J m'))=some res)/\(∀ d m',κ.rt d m'=some r->k.rt d (Ae Jr m1 (Aa Jr m'))=some res) else k.nx (Ae J m1 t)=some res)
    (q:AcS K F Γl0 g1 P1 H1 σ D (some Γ) jb m1 k res):Rc (tT K Γ Γc [] c) (tS K F (some Γ) Γ Γo jb b) D σ H1:=by
  have sub:∀ i∈J,i∈jb:=fun i h=>As (hJ▸h)
  have subr:∀ i∈Jr,i∈jb:=fun i h=>As (hJr▸h)
  refine ⟨fun n σ' H'=>∃ g2 t P2,Step g1 P1 H1 g2 P2 H'/\Io F.io σ σ'/\Rel K g2 H' Γ (Ae J m1 t) σ' P2/\run n t,⟨n,g1,Aa J m1,P1,Step.refl,Io.refl,Mj r1,h0⟩,?_⟩;rintro n' σ2 H2 ⟨g2,t,P2,s2,i2,r2,e2⟩;obtain ⟨bb,e3,e4⟩:=hc n' t e2;refine ⟨g2,_,P2,r2,Bool,_,bb,e3,fun b' m' g3 P3 H3 hk ag s3 r3=>?_⟩;cases hk;obtain ⟨g4,P4,s4,r4⟩:=r3.weaken hwc;have r5:Rel K g4 H3 Γ (Ae J m1 t) σ2 P4:=r4.agree ag.1.symm fun i o _=>(ag.2 i (by simp)).symm
  have s5:=(s2.trans s3).trans s4;cases bb with
  | false=>rw [if_neg lV] at e4 ⊢;exact q.nx Γ _ g4 P4 σ2 H3 rfl e4 ((AV J m1 _).mono sub) s5 i2 r5
  | true =>
    rw [if_pos rfl] at e4 ⊢;obtain ⟨n2,hn,B,κ,rB,eb,knx,kct,kbk,krt⟩:=e4;have a5:∀ {m'},BU jb (Ae J m1 t) m'->BU jb m1 m':=fun h=>(((AV J m1 t).mono sub).trans h).mono fun i z=>(lW.mp z).elim id id
    refine ⟨fun σ' H'=>∃ g5 P5 m',Step g1 P1 H1 g5 P5 H'/\Io F.io σ σ'/\Rel K g5 H' Γ m' σ' P5/\BU jb m1 m'/\run n2 (Aa J m'),?_,g4,_,P4,r5,B,κ,rB,eb,⟨fun Γ' m' g' P'' σ'' H' e hk ag' s' i' rr=>?_,fun d m' g' P'' Pv σ'' v H' hk ag' s' i' rv rr n=>?_,fun Γ' m' g' P'' σ'' H' e hk ag' s' i' rr=>?_,fun Γ' m' g' P'' σ'' H' e hk ag' s' i' rr=>?_⟩⟩
    · rintro σ' H' ⟨g6,P6,m',s6,i6,r6,ag6,hr⟩;exact ⟨n2,hn,g6,Aa J m',P6,s6,i6,r6.join ag6 fun i o h=>hJ▸BI h,hr⟩
    · subst e;obtain ⟨g6,P6,s6,r6⟩:=rr.weaken (by unfold Ja at hw;exact hw);exact ⟨g6,P6,m',(s5.trans s').trans s6,i2.trans i',r6,a5 ag',knx m' hk⟩
    · exact q.rt d _ g' P'' Pv σ'' v H' (krt d m' hk) ((AV Jr m1 _).mono subr) (s5.trans s') (i2.trans i') rv (rr.join (a5 ag') fun i o h=>hJr▸BI h) n
    · cases e;exact q.nx Γ _ g' P'' σ'' H' rfl (kbk m' hk) ((AV J m1 _).mono sub) (s5.trans s') (i2.trans i') (rr.join (a5 ag') fun i o h=>hJ▸BI h)
    · cases e;exact ⟨g',P'',m',s5.trans s',i2.trans i',rr,a5 ag',kct m' hk⟩
section
variable {X:Cx} {F:Fr} {Γl0:Option Gm} {Γ Γc:Gm} {Γo:Option Gm} {jb J Jr:List Nat} {c:Expr} {body:List Stmt} {t:Ev Bool} {b:Es} {pos:Pos}
theorem eQ (n:Nat) (hp:PassesOwn (model X.prog X.w) X.A X.env X.xe) (hc:PT X c (tT X.K Γ Γc [] t)) (hb:Cu X body (tS X.K F (some Γ) Γ Γo jb b)) (hwc:BQ Γ Γc=true) (hw:Ja (some Γ) Γo=true) (hJ:J=Au Γ jb) :
    PS X (.While c body [] pos) (tS X.K F Γl0 Γ (some Γ) jb (Yp n t J b)):=PS.imp (Kq hp hc hb) fun D σ H h=>by
  obtain ⟨g0,m,P,r,R,k,res,e,q⟩:=h;obtain ⟨t',e1,e2⟩:=bind_some' e;refine RQ (Jr:=Au F.Γr jb) hwc hw hJ rfl r (fun n t0=>YE _ _ n t0=some t') e1 (fun n t0 h=>?_) q;cases n with
  | zero=>cases h
  | succ n =>
    obtain ⟨bb,h1,h2⟩:=bind_some' h;refine ⟨bb,h1,?_⟩;cases bb with
    | false=>rw [if_neg lV] at h2 ⊢;cases h2;exact e2
    | true =>
      rw [if_pos rfl] at h2 ⊢;obtain ⟨t1,h3,h4⟩:=bind_some' h2;refine ⟨n,oF n,EB J,kC J,t1,h3,fun m' hk=>?_,fun m' hk=>?_,(fun m' hk=>by cases hk),fun d m' hk=>by cases hk⟩
      · cases hk;exact h4
      · cases hk;exact h4
theorem eO (n:Nat) (hp:PassesOwn (model X.prog X.w) X.A X.env X.xe) (hc:PT X c (tT X.K Γ Γc [] t)) (hb:Cu X body (tS X.K F (some Γ) Γ Γo jb b)) (hwc:BQ Γ Γc=true) (hw:Ja (some Γ) Γo=true) (hJ:J=Au Γ jb) (hJr:Jr=Au F.Γr jb) :
    PS X (.While c body [] pos) (tS X.K F Γl0 Γ (some Γ) jb (Yo n t J Jr b)):=PS.imp (Kq hp hc hb) fun D σ H h=>by
  obtain ⟨g0,m,P,r,R,k,res,e,q⟩:=h;obtain ⟨x,e1,e2⟩:=bind_some' e;refine RQ hwc hw hJ hJr r (fun n t0=>iZ _ _ n t0=some x) e1 (fun n t0 h=>?_) q;cases n with
  | zero=>cases h
  | succ n =>
    obtain ⟨bb,h1,h2⟩:=bind_some' h;refine ⟨bb,h1,?_⟩;cases bb with
    | false=>rw [if_neg lV] at h2 ⊢;cases h2;exact e2
    | true =>
      rw [if_pos rfl] at h2 ⊢;obtain ⟨l,h3,h4⟩:=bind_some' h2;refine ⟨n,oF n,_,kE J Jr,l,h3,fun m' hk=>?_,fun m' hk=>?_,fun m' hk=>?_,fun d m' hk=>?_⟩
      · cases hk;exact h4
      · cases hk;exact h4
      · cases hk;cases h4;exact e2
      · cases hk;cases h4;exact e2
end
end R
namespace Q
open PySem L2
inductive Dt where
 | non | bl (b:Bool) | int (i:Int) | str (x:List Nat)
 | tup (xs:List Dt) | lst (o:Bool) (xs:List Dt) | dic (o:Bool) (kvs:List (Dt×Dt)) | ref (k:Nat) | scr (ns:List Int) | ty (n:String) | mtp (ls:List (List Nat)) | dti (o:Bool) (kvs:List (List Int×Int))
 deriving Inhabited
structure G where
 Z:Addr->Prop
 μ:List Addr
noncomputable abbrev Fp:=Addr->Prop
def Disj (P Q:Fp):Prop:=∀ a,P a->Q a->False
def Lk (g:G) (H:Hp):Bool->Addr->List V->Prop
 | true,a,vs=>H a=some (.lst vs)/\¬ g.Z a
 | false,a,vs=>H a=some (.lst vs)/\g.Z a
def Scr (K:W.Frag) (H:Hp) (a:Addr) (ns:List Int):Prop:=(∃ o,H a=some (.frz o (.lst (ns.map V.int)))) \/
    ∃ (o:Obj) (its:Array Value) (n:Nat),K.lookup a=some o/\o.cls=.type "list" /\ o.dict=none/\o.data=.seq its n/\its.size<=sizeLine/\AE (ns.map V.int) its.toList
theorem Scr.sq {K:W.Frag} {H:Hp} {a:Addr} {ns:List Int} (h:Scr K H a ns):CQ K H a (ns.map V.int):=h.elim (fun h=>.inl (.inr h)) .inr
def Mtp (K:W.Frag) (a:Addr) (ls:List (List Nat)):Prop:=∃ (o:Obj) (its:Array Value) (n:Nat),K.lookup a=some o/\o.cls=.type "tuple" /\ o.data=.seq its n/\its.size<=sizeLine/\AE (ls.map fun l=>V.str (tx l)) its.toList
def encD (kvs:List (List Int×Int)):List (List Ax×V):=kvs.map fun p=>(p.1.map Sum.inl,V.int p.2)
mutual
noncomputable def Rep (K:W.Frag) (g:G) (H:Hp):Dt->V->Fp->Prop
 | .non,v,P=>v=.non/\∀ a,¬ P a
 | .bl b,v,P=>v=.bl b/\∀ a,¬ P a
 | .int i,v,P=>v=.int i/\∀ a,¬ P a
 | .str l,v,P=>v=.str (tx l)/\∀ a,¬ P a
 | .tup ds,v,P=>∃ a vs,v=.ref a/\H a=some (.tup vs)/\Reps K g H ds vs P
 | .lst o ds,v,P=>∃ a vs P',v=.ref a/\Lk g H o a vs/\Reps K g H ds vs P'/\¬ P' a/\(o=false->∀ b,¬ P' b)/\∀ b,P b↔(o=true/\b=a)\/P' b
 | .dic _ _,_,_=>False
 | .ref k,v,P=>(∃ a,g.μ[k]?=some a/\v=.ref a)/\∀ a,¬ P a
 | .scr ns,v,P=>(∃ a,v=.ref a/\Scr K H a ns)/\∀ a,¬ P a
 | .ty n,v,P=>v=.ty n/\∀ a,¬ P a
 | .mtp ls,v,P=>(∃ a,v=.ref a/\Mtp K a ls)/\∀ a,¬ P a
 | .dti o kvs,v,P=>∃ a,v=.ref a/\H a=some (.dT (encD kvs))/\(o=true->¬ g.Z a)/\(o=false->g.Z a)/\∀ b,P b↔(o=true/\b=a)
noncomputable def Reps (K:W.Frag) (g:G) (H:Hp):List Dt->List V->Fp->Prop
 | [],vs,P=>vs=[]/\∀ a,¬ P a
 | d::ds,vs,P=>∃ v r P1 P2,vs=v::r/\Rep K g H d v P1/\Reps K g H ds r P2/\Disj P1 P2/\∀ a,P a↔P1 a\/P2 a
end
mutual
noncomputable def Dt.cp:Dt->Bool
 | .tup ds=>cps ds
 | .lst o ds=>!o && cps ds
 | .dti o _=>!o
 | .dic _ _=>false
 | _=>true
noncomputable def cps:List Dt->Bool
 | []=>true
 | d::ds=>d.cp && cps ds
end
section
variable {K:W.Frag} {g g':G} {H H':Hp}
def nop:Fp:=fun _=>False
theorem nop_iff {R:Fp} (h:∀ a,¬ R a):R=nop:=funext fun a=>propext ⟨fun z=>(h a z).elim,fun z=>z.elim⟩
theorem Reps.nil:Reps K g H [] [] nop:=by unfold Reps;exact ⟨rfl,fun _ z=>z⟩
end
structure Ob where
 c:Nat
 fs:List (Str×Dt)
structure M where
 ρ:List (Option Dt)
 S:List Ob
noncomputable abbrev Ev (α:Type):=M->Option (α×M)
section
end
section
end
inductive Om where
 | ev (f:Ev Dt)
 | rf (i:Nat)
def RA (K:W.Frag) (g:G) (H:Hp):List Dt->List V->Prop
 | [],vs=>vs=[]
 | d::ds,vs=>∃ v r P,vs=v::r/\Rep K g H d v P/\RA K g H ds r
noncomputable abbrev Pr:=List Dt->Option Dt
section
end
section
variable {X:Cx} {a b c e:Expr} {es:List Expr} {pos:Pos} {oa ob oc:Om} {os:List Om} {f fa fb:Ev Dt} {p:Pr}
def evd:List Om->Bool
 | []=>true
 | .ev _::os=>evd os
 | .rf _::_=>false
end
def kS (f g:Ev Bool) (m:M):Option (Bool×M):=do
 let (b,m1) <- f m
 if b then g m1 else some (false,m1)
def evOr (f g:Ev Bool) (m:M):Option (Bool×M):=do
 let (b,m1) <- f m
 if b then some (true,m1) else g m1
section
variable {K:W.Frag} {σ:St} {H:Hp}
theorem rep_bl {g:G} {b:Bool} {v:V} {P:Fp} (h:Rep K g H (.bl b) v P):v=.bl b:=by unfold Rep at h;exact h.1
theorem rep_int {g:G} {b:Int} {v:V} {P:Fp} (h:Rep K g H (.int b) v P):v=.int b:=by unfold Rep at h;exact h.1
theorem rep_str {g:G} {b:List Nat} {v:V} {P:Fp} (h:Rep K g H (.str b) v P):v=.str (tx b):=by unfold Rep at h;exact h.1
theorem rep_non {g:G} {v:V} {P:Fp} (h:Rep K g H .non v P):v=.non:=by unfold Rep at h;exact h.1
theorem Rep.tup {g:G} {ds:List Dt} {v:V} {P:Fp} (h:Rep K g H (.tup ds) v P):∃ a vs,v=.ref a/\EC K H a vs/\Reps K g H ds vs P:=by unfold Rep at h;obtain ⟨a,vs,e,h1,h2⟩:=h;exact ⟨a,vs,e,.inl (.inl h1),h2⟩
theorem Rep.lst {g:G} {o:Bool} {ds:List Dt} {v:V} {P:Fp} (h:Rep K g H (.lst o ds) v P):∃ a vs P',v=.ref a/\H a=some (.lst vs)/\Reps K g H ds vs P':=by
 unfold Rep at h;obtain ⟨a,vs,P',e,h1,h2,_⟩:=h;refine ⟨a,vs,P',e,?_,h2⟩;cases o<;>exact h1.1
theorem Rep.scr {g:G} {ns:List Int} {v:V} {P:Fp} (h:Rep K g H (.scr ns) v P):∃ a,v=.ref a/\CQ K H a (ns.map V.int):=by unfold Rep at h;obtain ⟨⟨a,e,h1⟩,_⟩:=h;exact ⟨a,e,h1.sq⟩
end
section
end
inductive Fl where
 | nx | ct | bk | rt (d:Dt)
noncomputable abbrev Es:=M->Option (Fl×M)
section
end
noncomputable abbrev Tg:=Dt->M->Option M
section
end
section
end
def items:Dt->Option (List Dt)
 | .tup ds=>bif cps ds then some ds else none
 | .lst _ ds=>bif cps ds then some ds else none
 | .scr ns=>some (ns.map .int)
 | _=>none
section
end
section
variable {X:Cx} {tg e a b:Expr} {f:Ev Dt} {oa ob:Om} {p pos:Pos}
noncomputable def small (i:Int):Bool:=-1000000000<=i && i<=1000000000
end
section
end
def Bk (K:W.Frag) (g:G) (H:Hp) (vs:List V):List Nat->List Dt->Fp->Prop
 | [],bs,P=>bs=[]/\∀ a,¬ P a
 | i::io,bs,P=>∃ b br v P1 P2,bs=b::br/\vs[i]?=some v/\Rep K g H b v P1/\Bk K g H vs io br P2/\Disj P1 P2/\∀ a,P a↔P1 a\/P2 a
section
end
section
end
section
end
section
end
section
end
section
variable {K:W.Frag} {g:G} {H:Hp}
noncomputable def big (i:Int):Bool:=decide (-(2 ^ 64) < i) && decide (i < 2 ^ 64)
theorem atI_map {α β:Type} {f:α->β} {xs:List α} {i:Int}:DQ (xs.map f) i=(DQ xs i).map f:=by
 unfold DQ;rw [lZ];cases Me xs.length i with
 | none=>rfl
 | some j=>show (xs.map f)[j]?=_;rw [lP];rfl
def cutA {α:Type} (xs:List α) (lo hi:Option Int):List α:=(xs.drop (HT.sIx xs.length 0 lo)).take (HT.sIx xs.length xs.length hi - HT.sIx xs.length 0 lo)
theorem map_cut {α β:Type} (f:α->β) (xs:List α) (lo hi:Option Int):(cutA xs lo hi).map f=cutA (xs.map f) lo hi:=by
 unfold cutA;rw [List.map_take,List.map_drop,lZ]
end
section
end
end Q
namespace L3
open PySem PySem.Spec PyProof.Rows PySem.SeqAt L2
abbrev St:=L2.St
inductive D where
 | fl (v:V)
 | tup (ds:List D)
 | lst (ds:List D)
mutual
noncomputable def eqD:D->D->Bool
 | .fl a,.fl b=>eqV a b
 | .tup a,.tup b=>eqDs a b
 | .lst a,.lst b=>eqDs a b
 | _,_=>false
noncomputable def eqDs:List D->List D->Bool
 | [],[]=>true
 | x::xs,y::ys=>eqD x y && eqDs xs ys
 | _,_=>false
end
mutual
noncomputable def D.dep:D->Nat
 | .fl _=>0
 | .tup ds=>depL ds+1
 | .lst ds=>depL ds+1
noncomputable def depL:List D->Nat
 | []=>0
 | d::ds=>max d.dep (depL ds)
end
mutual
noncomputable def Is (K:W.Frag) (H:Hp):V->D->Prop
 | x,.fl v=>x=v/\Et v=true
 | x,.tup ds=>∃ a xs,x=.ref a/\EC K H a xs/\IsL K H xs ds
 | x,.lst ds=>∃ a xs,x=.ref a/\CQ K H a xs/\IsL K H xs ds
noncomputable def IsL (K:W.Frag) (H:Hp):List V->List D->Prop
 | [],[]=>True
 | x::xs,d::ds=>Is K H x d/\IsL K H xs ds
 | _,_=>False
end
theorem IsL.inv {K:W.Frag} {H:Hp} {x:V} {xs:List V} {es:List D} (h:IsL K H (x::xs) es):∃ d ds,es=d::ds/\Is K H x d/\IsL K H xs ds:=by
 cases es with
 | nil=>unfold IsL at h;exact h.elim
 | cons d ds=>unfold IsL at h;exact ⟨d,ds,rfl,h.1,h.2⟩
theorem IsL.length {K:W.Frag} {H:Hp}:∀ {xs:List V} {ds:List D},IsL K H xs ds->xs.length=ds.length
 | [],[],_=>rfl
 | [],_::_,h=>by unfold IsL at h;exact h.elim
 | _::_,[],h=>by unfold IsL at h;exact h.elim
 | x::xs,d::ds,h=>by unfold IsL at h;rw [lX,lX,IsL.length h.2]
theorem IsL.get {K:W.Frag} {H:Hp}:∀ {xs:List V} {ds:List D} {i:Nat} {d:D},IsL K H xs ds->ds[i]?=some d->∃ x,xs[i]?=some x/\Is K H x d
 | [],[],_,_,_,e=>by simp at e
 | [],_::_,_,_,h,_=>by unfold IsL at h;exact h.elim
 | _::_,[],_,_,_,e=>by simp at e
 | x::xs,d::ds,0,d',h,e=>by
  unfold IsL at h;have:d=d':=by simpa using e
  subst this;exact ⟨x,rfl,h.1⟩
 | x::xs,d::ds,i+1,_,h,e=>by
  unfold IsL at h;obtain ⟨y,e1,e2⟩:=IsL.get (i:=i) h.2 (by simpa using e);exact ⟨y,by simpa using e1,e2⟩
theorem Nh {X:Cx} {pins:List (Addr×Obj)} {σ:St} {H:Hp} {s:Shared} {a:Addr} {xs ys:List V} (I:Inv X pins σ H s) (h:EC X.K H a xs) (k:CQ X.K H a ys):False:=by
 obtain ⟨_,_,⟨o,e,c,_⟩,_⟩:=I.tuple h;obtain ⟨_,_,⟨o',n,e',c',_⟩,_⟩:=I.list k;rw [e] at e';cases e';rw [c] at c';injection c' with q
 exact absurd q (by decide)
mutual
theorem Is.inj {X:Cx} {pins:List (Addr×Obj)} {σ:St} {H:Hp} {s:Shared} (I:Inv X pins σ H s):∀ {d e:D} {x:V},Is X.K H x d->Is X.K H x e->d=e
 | .fl v,e,x,h,k=>by
  unfold Is at h;obtain ⟨rfl,hf⟩:=h;cases e with
  | fl u=>unfold Is at k;rw [k.1]
  | tup es=>unfold Is at k;obtain ⟨a,xs,rfl,_⟩:=k;cases hf
  | lst es=>unfold Is at k;obtain ⟨a,xs,rfl,_⟩:=k;cases hf
 | .tup ds,e,x,h,k=>by
  unfold Is at h;obtain ⟨a,xs,rfl,h1,h2⟩:=h;cases e with
  | fl u=>unfold Is at k;obtain ⟨k1,k2⟩:=k;rw [<- k1] at k2;cases k2
  | tup es =>
   unfold Is at k;obtain ⟨b,ys,e,k1,k2⟩:=k;cases e;rw [I.tuple_inj h1 k1] at h2;rw [IsL.inj I h2 k2]
  | lst es=>unfold Is at k;obtain ⟨b,ys,e,k1,k2⟩:=k;cases e;exact (Nh I h1 k1).elim
 | .lst ds,e,x,h,k=>by
  unfold Is at h;obtain ⟨a,xs,rfl,h1,h2⟩:=h;cases e with
  | fl u=>unfold Is at k;obtain ⟨k1,k2⟩:=k;rw [<- k1] at k2;cases k2
  | lst es =>
   unfold Is at k;obtain ⟨b,ys,e,k1,k2⟩:=k;cases e;rw [I.list_inj h1 k1] at h2;rw [IsL.inj I h2 k2]
  | tup es=>unfold Is at k;obtain ⟨b,ys,e,k1,k2⟩:=k;cases e;exact (Nh I k1 h1).elim
theorem IsL.inj {X:Cx} {pins:List (Addr×Obj)} {σ:St} {H:Hp} {s:Shared} (I:Inv X pins σ H s):∀ {ds es:List D} {xs:List V},IsL X.K H xs ds->IsL X.K H xs es->ds=es
 | [],es,[],h,k=>by
  cases es with
  | nil=>rfl
  | cons e es=>unfold IsL at k;exact k.elim
 | [],_,_::_,h,_=>by unfold IsL at h;exact h.elim
 | _::_,_,[],h,_=>by unfold IsL at h;exact h.elim
 | d::ds,es,x::xs,h,k=>by
  unfold IsL at h;obtain ⟨e,es',rfl,k1,k2⟩:=k.inv;rw [Is.inj I h.1 k1,IsL.inj I h.2 k2]
end
theorem eqV_refl {v:V} (h:Et v=true):eqV v v=true:=by
 cases v<;>first | rfl | (simp [eqV];done) | cases h
mutual
theorem eqD_refl {K:W.Frag} {H:Hp}:∀ {d:D} {x:V},Is K H x d->eqD d d=true
 | .fl v,x,h=>by unfold Is at h;unfold eqD;exact eqV_refl h.2
 | .tup ds,x,h=>by unfold Is at h;obtain ⟨_,_,_,_,h2⟩:=h;unfold eqD;exact eqDs_refl h2
 | .lst ds,x,h=>by unfold Is at h;obtain ⟨_,_,_,_,h2⟩:=h;unfold eqD;exact eqDs_refl h2
theorem eqDs_refl {K:W.Frag} {H:Hp}:∀ {ds:List D} {xs:List V},IsL K H xs ds->eqDs ds ds=true
 | [],_,_=>by unfold eqDs;rfl
 | _::_,[],h=>by unfold IsL at h;exact h.elim
 | d::ds,x::xs,h=>by
  unfold IsL at h;unfold eqDs;rw [eqD_refl h.1,eqDs_refl h.2];rfl
end
theorem Bb:∀ (xs ys:List D) (e:Nat->Bool),(∀ i x y,xs[i]?=some x->ys[i]?=some y->e i=eqD x y)->((List.range (min xs.length ys.length)).all e && xs.length == ys.length)=eqDs xs ys
 | [],[],_,_=>by unfold eqDs;rfl
 | [],_::_,_,_=>by unfold eqDs;simp
 | _::_,[],_,_=>by unfold eqDs;simp
 | x::xs,y::ys,e,h=>by
  have ih:=Bb xs ys (fun i=>e (i+1)) fun i a b h1 h2=>h (i+1) a b (by simpa using h1) (by simpa using h2)
  have h0:=h 0 x y rfl rfl;unfold eqDs;rw [<- ih,<- h0,lX,lX,Nat.succ_min_succ,nT,mL,List.all_map];have:((xs.length+1 == ys.length+1):Bool)=(xs.length == ys.length):=by simp
  rw [this,Bool.and_assoc];rfl
theorem Ew:∀ {ds:List D} {i:Nat} {d:D},ds[i]?=some d->d.dep<=depL ds
 | [],_,_,e=>by simp at e
 | d::ds,0,d',e=>by
  have:d=d':=by simpa using e
  subst this;show d.dep<=depL (d::ds);unfold depL;exact Nat.le_max_left _ _
 | d::ds,i+1,x,e=>by
  have:=Ew (ds:=ds) (i:=i) (d:=x) (by simpa using e);unfold depL;exact lR this (Nat.le_max_right _ _)
section
variable {X:Cx} {pins:List (Addr×Obj)} {σ:St} {H:Hp} {s:Shared}
def eAt (ds es:List D) (i:Nat):Bool:=match ds[i]?,es[i]? with | some a,some b=>eqD a b | _,_=>true
theorem eAt_of {ds es:List D} {i:Nat} {a b:D} (h1:ds[i]?=some a) (h2:es[i]?=some b):eAt ds es i=eqD a b:=by unfold eAt;rw [h1,h2]
theorem Am {x:V} (h:Et x=true):x=.non\/(∃ b,x=.bl b)\/(∃ i,x=.int i)\/∃ z,x=.str z:=by
 cases x with
 | non=>exact .inl rfl
 | bl b=>exact .inr (.inl ⟨b,rfl⟩)
 | int i=>exact .inr (.inr (.inl ⟨i,rfl⟩))
 | str z=>exact .inr (.inr (.inr ⟨z,rfl⟩))
 | _=>cases h
theorem UH (I:Inv X pins σ H s):∀ (n:Nat) (A:Around) (d e:D) (x y:V) (u v:Value),d.dep<=n->A.units+n < cLine->RelV x u->RelV y v->Is X.K H x d->Is X.K H y e->EqAt A s u v (eqD d e):=by
 intro n
 induction n with
 | zero =>
  intro A d e x y u v hd hu rx ry hx hy;cases d with
  | fl a =>
   unfold Is at hx;obtain ⟨rfl,fx⟩:=hx;cases e with
   | fl b=>unfold Is at hy;obtain ⟨rfl,fy⟩:=hy;unfold eqD;exact cL rx ry fx fy
   | tup es =>
    unfold Is at hy;obtain ⟨b,ys,rfl,h1,h2⟩:=hy;cases ry;obtain ⟨its,r,ht,_⟩:=I.tuple h1;unfold eqD;rcases Am fx with rfl | ⟨c,rfl⟩ | ⟨c,rfl⟩ | ⟨c,rfl⟩
    ·cases rx;exact EqAt.none_tuple ht hu
    ·cases rx;exact EqAt.bool_tuple c ht hu
    ·obtain ⟨t,rfl⟩:=rx;exact EqAt.int_tuple c t ht hu
    ·obtain ⟨t,rfl⟩:=rx;exact EqAt.str_tuple c t ht hu
   | lst es =>
    unfold Is at hy;obtain ⟨b,ys,rfl,h1,h2⟩:=hy;cases ry;obtain ⟨its,r,ht,_⟩:=I.list h1;unfold eqD;rcases Am fx with rfl | ⟨c,rfl⟩ | ⟨c,rfl⟩ | ⟨c,rfl⟩
    ·cases rx;exact EqAt.none_list ht.isList hu
    ·cases rx;exact EqAt.bool_list c ht.isList hu
    ·obtain ⟨t,rfl⟩:=rx;exact EqAt.int_list c t ht.isList hu
    ·obtain ⟨t,rfl⟩:=rx;exact EqAt.str_list c t ht.isList hu
  | tup ds=>unfold D.dep at hd;omega
  | lst ds=>unfold D.dep at hd;omega
 | succ n ih =>
  intro A d e x y u v hd hu rx ry hx hy;have hu0:A.units < cLine:=by omega
  cases d with
  | fl a=>exact ih A (.fl a) e x y u v (by unfold D.dep;omega) (by omega) rx ry hx hy
  | tup ds =>
   unfold D.dep at hd;have hx0:=hx;unfold Is at hx;obtain ⟨a,xs,rfl,h1,h2⟩:=hx;cases rx;obtain ⟨its,r,ht,_⟩:=I.tuple h1;cases e with
   | fl b =>
    unfold Is at hy;obtain ⟨rfl,fy⟩:=hy;unfold eqD;rcases Am fy with rfl | ⟨c,rfl⟩ | ⟨c,rfl⟩ | ⟨c,rfl⟩
    ·cases ry;exact EqAt.tuple_none ht hu0
    ·cases ry;exact EqAt.tuple_bool c ht hu0
    ·obtain ⟨t,rfl⟩:=ry;exact EqAt.tuple_int c t ht hu0
    ·obtain ⟨t,rfl⟩:=ry;exact EqAt.tuple_str c t ht hu0
   | tup es =>
    have hy0:=hy;unfold Is at hy;obtain ⟨b,ys,rfl,k1,k2⟩:=hy;cases ry;obtain ⟨its2,r2,ht2,_⟩:=I.tuple k1
    by_cases hab:a=b
    ·subst hab;rw [Is.inj I hx0 hy0,eqD_refl hy0];exact EqAt.same _
    ·refine EqAt.of_refs hab ?_;have q:=RcAt.tuples (e:=eAt ds es) ht ht2 hu0 (fun j j1 j2=>?_)
     ·have e1:=Bb ds es (eAt ds es) fun i a b q1 q2=>eAt_of q1 q2
      rw [lF,lF,<- r.length,<- r2.length,h2.length,k2.length,e1] at q;unfold eqD;exact q
     ·have j1':j < its.length:=by simpa using j1
      have j2':j < its2.length:=by simpa using j2
      have l1:j < ds.length:=by rw [<- h2.length,r.length];exact j1'
      have l2:j < es.length:=by rw [<- k2.length,r2.length];exact j2'
      obtain ⟨x',ex,px⟩:=h2.get (i:=j) (lA l1);obtain ⟨y',ey,py⟩:=k2.get (i:=j) (lA l2);obtain ⟨u',eu,ru⟩:=r.get ex;obtain ⟨v',ev,rv⟩:=r2.get ey;rw [eAt_of (lA l1) (lA l2)];have z1:its.toArray[j]=u':=by rw [lA j1'] at eu;simpa using Option.some.inj eu
      have z2:its2.toArray[j]=v':=by rw [lA j2'] at ev;simpa using Option.some.inj ev
      rw [z1,z2];exact ih A.in1 _ _ x' y' u' v' (lR (Ew (lA l1)) (by omega)) (by show A.units+1+n < cLine;omega) ru rv px py
   | lst es =>
    unfold Is at hy;obtain ⟨b,ys,rfl,k1,k2⟩:=hy;cases ry;obtain ⟨its2,r2,ht2,_⟩:=I.list k1;unfold eqD;exact EqAt.tuple_list ht ht2.isList hu0
  | lst ds =>
   unfold D.dep at hd;have hx0:=hx;unfold Is at hx;obtain ⟨a,xs,rfl,h1,h2⟩:=hx;cases rx;obtain ⟨its,r,ht,_⟩:=I.list h1;cases e with
   | fl b =>
    unfold Is at hy;obtain ⟨rfl,fy⟩:=hy;unfold eqD;rcases Am fy with rfl | ⟨c,rfl⟩ | ⟨c,rfl⟩ | ⟨c,rfl⟩
    ·cases ry;exact EqAt.list_none ht.isList hu0
    ·cases ry;exact EqAt.list_bool c ht.isList hu0
    ·obtain ⟨t,rfl⟩:=ry;exact EqAt.list_int c t ht.isList hu0
    ·obtain ⟨t,rfl⟩:=ry;exact EqAt.list_str c t ht.isList hu0
   | tup es =>
    unfold Is at hy;obtain ⟨b,ys,rfl,k1,k2⟩:=hy;cases ry;obtain ⟨its2,r2,ht2,_⟩:=I.tuple k1;unfold eqD;exact EqAt.list_tuple ht.isList ht2 hu0
   | lst es =>
    have hy0:=hy;unfold Is at hy;obtain ⟨b,ys,rfl,k1,k2⟩:=hy;cases ry;obtain ⟨its2,r2,ht2,_⟩:=I.list k1
    by_cases hab:a=b
    ·subst hab;rw [Is.inj I hx0 hy0,eqD_refl hy0];exact EqAt.same _
    ·refine EqAt.of_refs hab ?_
     by_cases hsz:ds.length=es.length
     ·have e1:=Bb ds es (eAt ds es) fun i a b q1 q2=>eAt_of q1 q2
      rw [hsz,oC,beq_self_eq_true,Bool.and_true] at e1;have q:=RcAt.lists (e:=eAt ds es) ht.isList ht2.isList (by rw [lF,lF,<- r.length,<- r2.length,h2.length,k2.length];exact hsz) hu0 (fun j j1 j2=>?_)
      ·rw [lF,<- r.length,h2.length,hsz,e1] at q;unfold eqD;exact q
      ·have j1':j < its.length:=by simpa using j1
       have j2':j < its2.length:=by simpa using j2
       have l1:j < ds.length:=by rw [<- h2.length,r.length];exact j1'
       have l2:j < es.length:=by rw [<- k2.length,r2.length];exact j2'
       obtain ⟨x',ex,px⟩:=h2.get (i:=j) (lA l1);obtain ⟨y',ey,py⟩:=k2.get (i:=j) (lA l2);obtain ⟨u',eu,ru⟩:=r.get ex;obtain ⟨v',ev,rv⟩:=r2.get ey;rw [eAt_of (lA l1) (lA l2)];have z1:its.toArray[j]=u':=by rw [lA j1'] at eu;simpa using Option.some.inj eu
       have z2:its2.toArray[j]=v':=by rw [lA j2'] at ev;simpa using Option.some.inj ev
       rw [z1,z2];exact ih A.in1 _ _ x' y' u' v' (lR (Ew (lA l1)) (by omega)) (by show A.units+1+n < cLine;omega) ru rv px py
     ·have q:=RcAt.lists_lengths (A:=A) ht.isList ht2.isList (by rw [lF,lF,<- r.length,<- r2.length,h2.length,k2.length];simpa using hsz) hu0;have e1:=Bb ds es (eAt ds es) fun i a b q1 q2=>eAt_of q1 q2
      have:(ds.length == es.length)=false:=by simpa using hsz
      rw [this,oP] at e1;unfold eqD;rw [<- e1];exact q
end
noncomputable def D.seq:D->Bool
 | .fl _=>false
 | _=>true
section
variable {X:Cx} {pins:List (Addr×Obj)} {σ:St} {H:Hp} {s:Shared}
theorem LK (I:Inv X pins σ H s) {n:Nat} {A:Around} {xs ys:List V} {ds es:List D} {its its2:List Value} (hd:depL ds<=n) (hu:A.units+1+n < cLine) (r:AE xs its) (r2:AE ys its2) (h2:IsL X.K H xs ds) (k2:IsL X.K H ys es) :
    ∀ j (h1:j < its.toArray.size) (h2:j < its2.toArray.size),EqAt A.in1 s its.toArray[j] its2.toArray[j] (eAt ds es j):=fun j j1 j2=>by
  have j1':j < its.length:=by simpa using j1
  have j2':j < its2.length:=by simpa using j2
  have l1:j < ds.length:=by rw [<- h2.length,r.length];exact j1'
  have l2:j < es.length:=by rw [<- k2.length,r2.length];exact j2'
  obtain ⟨x',ex,px⟩:=h2.get (i:=j) (lA l1);obtain ⟨y',ey,py⟩:=k2.get (i:=j) (lA l2);obtain ⟨u',eu,ru⟩:=r.get ex;obtain ⟨v',ev,rv⟩:=r2.get ey;rw [eAt_of (lA l1) (lA l2)];have z1:its.toArray[j]=u':=by rw [lA j1'] at eu;simpa using Option.some.inj eu
  have z2:its2.toArray[j]=v':=by rw [lA j2'] at ev;simpa using Option.some.inj ev
  rw [z1,z2];exact UH I n A.in1 _ _ x' y' u' v' (lR (Ew (lA l1)) hd) (by show A.units+1+n < cLine;exact hu) ru rv px py
theorem JP (I:Inv X pins σ H s) {A:Around} {d e:D} {x y:V} {u v:Value} (sd:d.seq=true) (se:e.seq=true) (hu:A.units+d.dep+1 < cLine) (rx:RelV x u) (ry:RelV y v) (hx:Is X.K H x d) (hy:Is X.K H y e):RcAt A s u v (eqD d e)/\RcNeAt A s u v (!eqD d e):=by
 have hu0:A.units < cLine:=by omega
 cases d with
 | fl a=>cases sd
 | tup ds =>
  unfold D.dep at hu;unfold Is at hx;obtain ⟨a,xs,rfl,h1,h2⟩:=hx;cases rx;obtain ⟨its,r,ht,_⟩:=I.tuple h1;cases e with
  | fl b=>cases se
  | tup es =>
   unfold Is at hy;obtain ⟨b,ys,rfl,k1,k2⟩:=hy;cases ry;obtain ⟨its2,r2,ht2,_⟩:=I.tuple k1;have e1:=Bb ds es (eAt ds es) fun i a b q1 q2=>eAt_of q1 q2
   have it:=LK I (A:=A) (n:=depL ds) (lJ _) (by omega) r r2 h2 k2;have q:=RcAt.tuples (e:=eAt ds es) ht ht2 hu0 it;have q':=RcNeAt.tuples (e:=eAt ds es) ht ht2 hu0 it;rw [lF,lF,<- r.length,<- r2.length,h2.length,k2.length,e1] at q q';unfold eqD;exact ⟨q,q'⟩
  | lst es =>
   unfold Is at hy;obtain ⟨b,ys,rfl,k1,k2⟩:=hy;cases ry;obtain ⟨its2,r2,ht2,_⟩:=I.list k1;unfold eqD;exact ⟨RcAt.tuple_list ht ht2.isList hu0,RcNeAt.tuple_list ht ht2.isList hu0⟩
 | lst ds =>
  unfold D.dep at hu;unfold Is at hx;obtain ⟨a,xs,rfl,h1,h2⟩:=hx;cases rx;obtain ⟨its,r,ht,_⟩:=I.list h1;cases e with
  | fl b=>cases se
  | tup es =>
   unfold Is at hy;obtain ⟨b,ys,rfl,k1,k2⟩:=hy;cases ry;obtain ⟨its2,r2,ht2,_⟩:=I.tuple k1;unfold eqD;exact ⟨RcAt.list_tuple ht.isList ht2 hu0,RcNeAt.list_tuple ht.isList ht2 hu0⟩
  | lst es =>
   unfold Is at hy;obtain ⟨b,ys,rfl,k1,k2⟩:=hy;cases ry;obtain ⟨its2,r2,ht2,_⟩:=I.list k1;have e1:=Bb ds es (eAt ds es) fun i a b q1 q2=>eAt_of q1 q2
   unfold eqD
   by_cases hsz:ds.length=es.length
   ·rw [hsz,oC,beq_self_eq_true,Bool.and_true] at e1;have it:=LK I (A:=A) (n:=depL ds) (lJ _) (by omega) r r2 h2 k2;have sz:its.toArray.size=its2.toArray.size:=by rw [lF,lF,<- r.length,<- r2.length,h2.length,k2.length];exact hsz
    have q:=RcAt.lists (e:=eAt ds es) ht.isList ht2.isList sz hu0 it;have q':=RcNeAt.lists (e:=eAt ds es) ht.isList ht2.isList sz hu0 it;rw [lF,<- r.length,h2.length,hsz,e1] at q q';exact ⟨q,q'⟩
   ·have sz:(its.toArray.size != its2.toArray.size)=true:=by rw [lF,lF,<- r.length,<- r2.length,h2.length,k2.length];simpa using hsz
    have:(ds.length == es.length)=false:=by simpa using hsz
    rw [this,oP] at e1;rw [<- e1];exact ⟨RcAt.lists_lengths ht.isList ht2.isList sz hu0,RcNeAt.lists_lengths ht.isList ht2.isList sz hu0⟩
end
section
variable {X:Cx} {pins:List (Addr×Obj)} {σ:L2.St} {H:Hp} {s:Shared}
theorem Vz {A:Around} {x y:V} {u v:Value} (rx:RelV x u) (ry:RelV y v) (fx:Et x=true) (fy:Et y=true):RcAt A s u v (eqV x y)/\RcNeAt A s u v (!eqV x y):=by
 rcases Am fx with rfl | ⟨c,rfl⟩ | ⟨c,rfl⟩ | ⟨c,rfl⟩<;>rcases Am fy with rfl | ⟨d,rfl⟩ | ⟨d,rfl⟩ | ⟨d,rfl⟩
 ·cases rx;cases ry;exact ⟨RcAt.none_none , RcNeAt.none_none ⟩
 ·cases rx;cases ry;exact ⟨RcAt.none_bool d,RcNeAt.none_bool d⟩
 ·cases rx;obtain ⟨dt,rfl⟩:=ry;exact ⟨RcAt.none_int d dt,RcNeAt.none_int d dt⟩
 ·cases rx;obtain ⟨dt,rfl⟩:=ry;exact ⟨RcAt.none_str d dt,RcNeAt.none_str d dt⟩
 ·cases rx;cases ry;exact ⟨RcAt.bool_none c,RcNeAt.bool_none c⟩
 ·cases rx;cases ry;exact ⟨RcAt.bool_bool c d,RcNeAt.bool_bool c d⟩
 ·cases rx;obtain ⟨dt,rfl⟩:=ry;exact ⟨RcAt.bool_int c d dt,RcNeAt.bool_int c d dt⟩
 ·cases rx;obtain ⟨dt,rfl⟩:=ry;exact ⟨RcAt.bool_str c d dt,RcNeAt.bool_str c d dt⟩
 ·obtain ⟨ct,rfl⟩:=rx;cases ry;exact ⟨RcAt.int_none c ct,RcNeAt.int_none c ct⟩
 ·obtain ⟨ct,rfl⟩:=rx;cases ry;exact ⟨RcAt.int_bool c ct d,RcNeAt.int_bool c ct d⟩
 ·obtain ⟨ct,rfl⟩:=rx;obtain ⟨dt,rfl⟩:=ry;exact ⟨RcAt.int_int c ct d dt,RcNeAt.int_int c ct d dt⟩
 ·obtain ⟨ct,rfl⟩:=rx;obtain ⟨dt,rfl⟩:=ry;exact ⟨RcAt.int_str c ct d dt,RcNeAt.int_str c ct d dt⟩
 ·obtain ⟨ct,rfl⟩:=rx;cases ry;exact ⟨RcAt.str_none c ct,RcNeAt.str_none c ct⟩
 ·obtain ⟨ct,rfl⟩:=rx;cases ry;exact ⟨RcAt.str_bool c ct d,RcNeAt.str_bool c ct d⟩
 ·obtain ⟨ct,rfl⟩:=rx;obtain ⟨dt,rfl⟩:=ry;exact ⟨RcAt.str_int c ct d dt,RcNeAt.str_int c ct d dt⟩
 ·obtain ⟨ct,rfl⟩:=rx;obtain ⟨dt,rfl⟩:=ry;exact ⟨RcAt.str_str c ct d dt,RcNeAt.str_str c ct d dt⟩
theorem Kj (I:Inv X pins σ H s) {A:Around} {d e:D} {x y:V} {u v:Value} (hu:A.units+d.dep+1 < cLine) (rx:RelV x u) (ry:RelV y v) (hx:Is X.K H x d) (hy:Is X.K H y e):RcAt A s u v (eqD d e)/\RcNeAt A s u v (!eqD d e):=by
 have hu0:A.units < cLine:=by omega
 cases d with
 | fl a =>
  unfold Is at hx;obtain ⟨rfl,fx⟩:=hx;cases e with
  | fl b =>
   unfold Is at hy;obtain ⟨rfl,fy⟩:=hy;unfold eqD;exact Vz rx ry fx fy
  | tup es =>
   unfold Is at hy;obtain ⟨b,ys,rfl,k1,k2⟩:=hy;cases ry;obtain ⟨its2,r2,ht2,_⟩:=I.tuple k1;unfold eqD;rcases Am fx with rfl | ⟨c,rfl⟩ | ⟨c,rfl⟩ | ⟨c,rfl⟩
   ·cases rx;exact ⟨RcAt.none_tuple ht2 hu0,RcNeAt.none_tuple ht2 hu0⟩
   ·cases rx;exact ⟨RcAt.bool_tuple c ht2 hu0,RcNeAt.bool_tuple c ht2 hu0⟩
   ·obtain ⟨t,rfl⟩:=rx;exact ⟨RcAt.int_tuple c t ht2 hu0,RcNeAt.int_tuple c t ht2 hu0⟩
   ·obtain ⟨t,rfl⟩:=rx;exact ⟨RcAt.str_tuple c t ht2 hu0,RcNeAt.str_tuple c t ht2 hu0⟩
  | lst es =>
   unfold Is at hy;obtain ⟨b,ys,rfl,k1,k2⟩:=hy;cases ry;obtain ⟨its2,r2,ht2,_⟩:=I.list k1;unfold eqD;rcases Am fx with rfl | ⟨c,rfl⟩ | ⟨c,rfl⟩ | ⟨c,rfl⟩
   ·cases rx;exact ⟨RcAt.none_list ht2.isList hu0,RcNeAt.none_list ht2.isList hu0⟩
   ·cases rx;exact ⟨RcAt.bool_list c ht2.isList hu0,RcNeAt.bool_list c ht2.isList hu0⟩
   ·obtain ⟨t,rfl⟩:=rx;exact ⟨RcAt.int_list c t ht2.isList hu0,RcNeAt.int_list c t ht2.isList hu0⟩
   ·obtain ⟨t,rfl⟩:=rx;exact ⟨RcAt.str_list c t ht2.isList hu0,RcNeAt.str_list c t ht2.isList hu0⟩
 | tup ds =>
  cases e with
  | fl b =>
   unfold Is at hx hy;obtain ⟨b',ys,rfl,k1,k2⟩:=hx;obtain ⟨rfl,fy⟩:=hy;cases rx;obtain ⟨its2,r2,ht2,_⟩:=I.tuple k1;unfold eqD;rcases Am fy with rfl | ⟨c,rfl⟩ | ⟨c,rfl⟩ | ⟨c,rfl⟩
   ·cases ry;exact ⟨RcAt.tuple_none ht2 hu0,RcNeAt.tuple_none ht2 hu0⟩
   ·cases ry;exact ⟨RcAt.tuple_bool c ht2 hu0,RcNeAt.tuple_bool c ht2 hu0⟩
   ·obtain ⟨t,rfl⟩:=ry;exact ⟨RcAt.tuple_int c t ht2 hu0,RcNeAt.tuple_int c t ht2 hu0⟩
   ·obtain ⟨t,rfl⟩:=ry;exact ⟨RcAt.tuple_str c t ht2 hu0,RcNeAt.tuple_str c t ht2 hu0⟩
  | tup es=>exact JP I rfl rfl hu rx ry hx hy
  | lst es=>exact JP I rfl rfl hu rx ry hx hy
 | lst ds =>
  cases e with
  | fl b =>
   unfold Is at hx hy;obtain ⟨b',ys,rfl,k1,k2⟩:=hx;obtain ⟨rfl,fy⟩:=hy;cases rx;obtain ⟨its2,r2,ht2,_⟩:=I.list k1;unfold eqD;rcases Am fy with rfl | ⟨c,rfl⟩ | ⟨c,rfl⟩ | ⟨c,rfl⟩
   ·cases ry;exact ⟨RcAt.list_none ht2.isList hu0,RcNeAt.list_none ht2.isList hu0⟩
   ·cases ry;exact ⟨RcAt.list_bool c ht2.isList hu0,RcNeAt.list_bool c ht2.isList hu0⟩
   ·obtain ⟨t,rfl⟩:=ry;exact ⟨RcAt.list_int c t ht2.isList hu0,RcNeAt.list_int c t ht2.isList hu0⟩
   ·obtain ⟨t,rfl⟩:=ry;exact ⟨RcAt.list_str c t ht2.isList hu0,RcNeAt.list_str c t ht2.isList hu0⟩
  | tup es=>exact JP I rfl rfl hu rx ry hx hy
  | lst es=>exact JP I rfl rfl hu rx ry hx hy
def rEqA (K:W.Frag) (neg:Bool):R2:=fun x y H Q=>∃ d e,d.dep<=150/\Is K H x d/\Is K H y e/\Q (.bl (if neg then !eqD d e else eqD d e)) H
theorem op_eqA {j:Nat} (hr:Room j X.A):Bv X (compareOp .Eq) (rEqA X.K false):=by
 intro pins s σ H x y v u Q I rx ry h;obtain ⟨d,e,hd,hx,hy,q⟩:=h;have:=hr.un;exact (Kj I (by omega) rx ry hx hy).1 X.prog X.w _ _ ⟨.bl _,H,I,rfl,q⟩
theorem op_neA {j:Nat} (hr:Room j X.A):Bv X (compareOp .NotEq) (rEqA X.K true):=by
 intro pins s σ H x y v u Q I rx ry h;obtain ⟨d,e,hd,hx,hy,q⟩:=h;have:=hr.un;exact (Kj I (by omega) rx ry hx hy).2 X.prog X.w _ _ ⟨.bl _,H,I,rfl,q⟩
open Classical in
def eqW (its:List Value) (ds:List D) (e:D) (u:Value):Bool:=decide (∃ (i:Nat) (d:D),its[i]?=some u/\ds[i]?=some d/\eqD d e=true)
open Classical in
theorem eqW_at (I:Inv X pins σ H s) {xs:List V} {its:List Value} {ds:List D} (r:AE xs its) (h:IsL X.K H xs ds) {e:D} {i:Nat} {u:Value} {d:D} (hu:its[i]?=some u) (hd:ds[i]?=some d):eqW its ds e u=eqD d e:=by
 have key:∀ (j:Nat) (d':D),its[j]?=some u->ds[j]?=some d'->d'=d:=fun j d' h1 h2=>by
  obtain ⟨x,ex,px⟩:=h.get hd;obtain ⟨y,ey,py⟩:=h.get h2;obtain ⟨u1,e1,r1⟩:=r.get ex;obtain ⟨u2,e2,r2⟩:=r.get ey;rw [hu] at e1;cases e1;rw [h1] at e2;cases e2;rw [r2.inj r1] at py;exact Is.inj I py px
 unfold eqW;cases q:eqD d e with
 | true=>exact decide_eq_true ⟨i,d,hu,hd,q⟩
 | false =>
  refine decide_eq_false ?_;rintro ⟨j,d',h1,h2,h3⟩;rw [key j d' h1 h2,q] at h3;cases h3
theorem Gc (I:Inv X pins σ H s) {xs:List V} {its:List Value} {ds:List D} (r:AE xs its) (h:IsL X.K H xs ds) (e:D):its.any (eqW its ds e)=ds.any fun d=>eqD d e:=by
 rw [Bool.eq_iff_iff,List.any_eq_true,List.any_eq_true];have hl:its.length=ds.length:=by rw [<- r.length,h.length]
 constructor
 ·rintro ⟨u,hu,q⟩;obtain ⟨i,hi,rfl⟩:=ni hu;have hd:ds[i]?=some ds[i]:=lA (by omega);rw [eqW_at I r h (lA hi) hd] at q;exact ⟨_,mQ hd,q⟩
 ·rintro ⟨d,hd,q⟩;obtain ⟨i,hi,rfl⟩:=ni hd;have hu:its[i]?=some its[i]:=lA (by omega);exact ⟨_,mQ hu,by rw [eqW_at I r h hu (lA hi)];exact q⟩
theorem all_eqW (I:Inv X pins σ H s) {A:Around} {xs:List V} {its:List Value} {ds:List D} (r:AE xs its) (h:IsL X.K H xs ds) {e:D} {y:V} {v:Value} (ry:RelV y v) (hy:Is X.K H y e) (hd:depL ds<=150) (hu:A.units+150 < cLine):∀ w∈its,EqAt A s w v (eqW its ds e w):=fun w hw=>by
 obtain ⟨i,hi,rfl⟩:=ni hw;have hl:its.length=ds.length:=by rw [<- r.length,h.length]
 have hdi:ds[i]?=some ds[i]:=lA (by omega);rw [eqW_at I r h (lA hi) hdi];obtain ⟨x,ex,px⟩:=h.get hdi;obtain ⟨u1,e1,r1⟩:=r.get ex;rw [lA hi] at e1;cases e1;exact UH I 150 A _ _ x y _ _ (lR (Ew hdi) hd) hu r1 ry px hy
def rInA (K:W.Frag) (neg:Bool):R2:=fun x y H Q=>∃ p ys ds e,y=.ref p/\(CQ K H p ys\/EC K H p ys)/\IsL K H ys ds/\Is K H x e/\depL ds<=150/\Q (.bl (if neg then !(ds.any fun d=>eqD d e) else ds.any fun d=>eqD d e)) H
theorem op_inA {j:Nat} (hr:Room j X.A):Bv X (compareOp .In) (rInA X.K false):=by
 intro pins s σ H x y v u Q I rx ry h;obtain ⟨p,ys,ds,e,rfl,hq,hl,hx,hd,q⟩:=h;have hu:X.A.units+1+150 < cLine:=by have:=hr.un;omega
 cases ry;rcases hq with hq | hq
 ·obtain ⟨its,r,pl,hz⟩:=I.list hq;refine SeqAt.in_listAt (eqW its ds e) pl.isList (fun w hw=>all_eqW I r hl rx hx hd hu w (by simpa using hw)) ⟨.bl _,H,I,rfl,?_⟩;rw [show its.toArray.any (eqW its ds e)=its.any (eqW its ds e) by simp,Gc I r hl];exact q
 ·obtain ⟨its,r,pl,hz⟩:=I.tuple hq;refine SeqAt.in_tupleAt (eqW its ds e) pl (fun w hw=>all_eqW I r hl rx hx hd hu w (by simpa using hw)) ⟨.bl _,H,I,rfl,?_⟩;rw [show its.toArray.any (eqW its ds e)=its.any (eqW its ds e) by simp,Gc I r hl];exact q
theorem op_notInA {j:Nat} (hr:Room j X.A):Bv X (compareOp .NotIn) (rInA X.K true):=by
 intro pins s σ H x y v u Q I rx ry h;obtain ⟨p,ys,ds,e,rfl,hq,hl,hx,hd,q⟩:=h;have hu:X.A.units+1+150 < cLine:=by have:=hr.un;omega
 cases ry;rcases hq with hq | hq
 ·obtain ⟨its,r,pl,hz⟩:=I.list hq;refine SeqAt.notIn_listAt (eqW its ds e) pl.isList (fun w hw=>all_eqW I r hl rx hx hd hu w (by simpa using hw)) ⟨.bl _,H,I,rfl,?_⟩;rw [show its.toArray.any (eqW its ds e)=its.any (eqW its ds e) by simp,Gc I r hl];exact q
 ·obtain ⟨its,r,pl,hz⟩:=I.tuple hq;refine SeqAt.notIn_tupleAt (eqW its ds e) pl (fun w hw=>all_eqW I r hl rx hx hd hu w (by simpa using hw)) ⟨.bl _,H,I,rfl,?_⟩;rw [show its.toArray.any (eqW its ds e)=its.any (eqW its ds e) by simp,Gc I r hl];exact q
end
end L3
namespace Q
open PySem L2
mutual
noncomputable def toD:Dt->L3.D
 | .non=>.fl .non
 | .bl b=>.fl (.bl b)
 | .int i=>.fl (.int i)
 | .str l=>.fl (.str (tx l))
 | .tup xs=>.tup (toDs xs)
 | .lst _ xs=>.lst (toDs xs)
 | _=>.fl .non
noncomputable def toDs:List Dt->List L3.D
 | []=>[]
 | d::ds=>toD d::toDs ds
end
mutual
noncomputable def Dt.cmp:Dt->Bool
 | .non=>true
 | .bl _=>true
 | .int _=>true
 | .str _=>true
 | .tup xs=>cmps xs
 | .lst _ xs=>cmps xs
 | _=>false
noncomputable def cmps:List Dt->Bool
 | []=>true
 | d::ds=>d.cmp && cmps ds
end
mutual
noncomputable def Dt.dep:Dt->Nat
 | .tup xs=>QU xs+1
 | .lst _ xs=>QU xs+1
 | _=>0
noncomputable def QU:List Dt->Nat
 | []=>0
 | d::ds=>max d.dep (QU ds)
end
mutual
noncomputable def eqT:Dt->Dt->Bool
 | .non,.non=>true
 | .bl a,.bl b=>a == b
 | .bl a,.int b=>(if a then 1 else 0) == b
 | .int a,.bl b=>a == (if b then 1 else 0)
 | .int a,.int b=>a == b
 | .str a,.str b=>a == b
 | .tup xs,.tup ys=>LR xs ys
 | .lst _ xs,.lst _ ys=>LR xs ys
 | _,_=>false
noncomputable def LR:List Dt->List Dt->Bool
 | [],[]=>true
 | x::xs,y::ys=>eqT x y && LR xs ys
 | _,_=>false
end
mutual
theorem Yx:∀ (d e:Dt),d.cmp=true->e.cmp=true->L3.eqD (toD d) (toD e)=eqT d e
 | .non,e,h,k=>by cases e<;>first | (unfold toD L3.eqD eqT;rfl) | (unfold Dt.cmp at k;cases k)
 | .bl b,e,h,k=>by cases e<;>first | (unfold toD L3.eqD eqT;rfl) | (unfold Dt.cmp at k;cases k)
 | .int i,e,h,k=>by cases e<;>first | (unfold toD L3.eqD eqT;rfl) | (unfold Dt.cmp at k;cases k)
 | .str l,e,h,k=>by
  cases e with
  | str m=>unfold toD L3.eqD eqT;rw [eqV_str];exact (Bool.beq_eq_decide_eq l m).symm
  | _=>first | (unfold toD L3.eqD eqT;rfl) | (unfold Dt.cmp at k;cases k)
 | .tup xs,e,h,k=>by
  cases e with
  | tup ys=>unfold toD L3.eqD eqT;unfold Dt.cmp at h k;exact Mw xs ys h k
  | _=>first | (unfold toD L3.eqD eqT;rfl) | (unfold Dt.cmp at k;cases k)
 | .lst o xs,e,h,k=>by
  cases e with
  | lst o' ys=>unfold toD L3.eqD eqT;unfold Dt.cmp at h k;exact Mw xs ys h k
  | _=>first | (unfold toD L3.eqD eqT;rfl) | (unfold Dt.cmp at k;cases k)
 | .dic o xs,e,h,k=>by unfold Dt.cmp at h;cases h
 | .ref o,e,h,k=>by unfold Dt.cmp at h;cases h
 | .scr o,e,h,k=>by unfold Dt.cmp at h;cases h
 | .ty o,e,h,k=>by unfold Dt.cmp at h;cases h
 | .mtp o,e,h,k=>by unfold Dt.cmp at h;cases h
 | .dti _ o,e,h,k=>by unfold Dt.cmp at h;cases h
theorem Mw:∀ (d e:List Dt),cmps d=true->cmps e=true->L3.eqDs (toDs d) (toDs e)=LR d e
 | [],[],_,_=>by unfold toDs L3.eqDs LR;rfl
 | [],_::_,_,_=>by simp only [toDs,L3.eqDs,LR]
 | _::_,[],_,_=>by simp only [toDs,L3.eqDs,LR]
 | x::xs,y::ys,h,k=>by
  unfold cmps at h k;rw [lB] at h k;simp only [toDs,L3.eqDs,LR];rw [Yx x y h.1 k.1,Mw xs ys h.2 k.2]
end
mutual
theorem dep_D:∀ (d:Dt),(toD d).dep=d.dep
 | .non=>by unfold toD L3.D.dep Dt.dep;rfl
 | .bl b=>by unfold toD L3.D.dep Dt.dep;rfl
 | .int i=>by unfold toD L3.D.dep Dt.dep;rfl
 | .str l=>by unfold toD L3.D.dep Dt.dep;rfl
 | .tup xs=>by unfold toD L3.D.dep Dt.dep;rw [deps_D xs]
 | .lst o xs=>by unfold toD L3.D.dep Dt.dep;rw [deps_D xs]
 | .dic o xs=>by unfold toD L3.D.dep Dt.dep;rfl
 | .ref o=>by unfold toD L3.D.dep Dt.dep;rfl
 | .scr o=>by unfold toD L3.D.dep Dt.dep;rfl
 | .ty o=>by unfold toD L3.D.dep Dt.dep;rfl
 | .mtp o=>by unfold toD L3.D.dep Dt.dep;rfl
 | .dti _ o=>by unfold toD L3.D.dep Dt.dep;rfl
theorem deps_D:∀ (d:List Dt),L3.depL (toDs d)=QU d
 | []=>by unfold toDs L3.depL QU;rfl
 | x::xs=>by simp only [toDs,L3.depL,QU];rw [dep_D x,deps_D xs]
end
section
variable {K:W.Frag} {g:G} {H:Hp}
def bE (e:Dt) (ds:List Dt):Bool:=ds.any fun d=>eqT d e
def sub1 (x l:List Nat):Bool:=!(Builtin.Str.occurrences (tx l) (tx x) 0 (tx l).length 1).isEmpty
def Zw (neg:Bool):R2:=fun x y H Q=>∃ i j,x=.str i/\y=.str j/\Q (.bl (if neg then !(!(Builtin.Str.occurrences j i 0 j.length 1).isEmpty) else !(Builtin.Str.occurrences j i 0 j.length 1).isEmpty)) H
def rInQ (K:W.Frag) (neg:Bool):R2:=fun x y H Q=>Zw neg x y H Q\/L3.rInA K neg x y H Q
theorem anyD (e:Dt) (he:e.cmp=true):∀ (ds:List Dt),cmps ds=true->((toDs ds).any fun d=>L3.eqD d (toD e))=bE e ds
 | [],_=>by unfold toDs bE;rfl
 | d::ds,h=>by
  unfold cmps at h;rw [lB] at h;unfold bE;simp only [toDs,me];rw [Yx d e h.1 he,anyD e he ds h.2];rfl
noncomputable def Dt.isNon:Dt->Bool
 | .non=>true
 | _=>false
theorem rep_isNon {d:Dt} {v:V} {P:Fp} (h:Rep K g H d v P):decide (v=V.non)=d.isNon:=by
 cases d with
 | non=>rw [rep_non h];rfl
 | bl b=>rw [rep_bl h];rfl
 | int b=>rw [rep_int h];rfl
 | str b=>rw [rep_str h];rfl
 | tup b=>obtain ⟨a,vs,rfl,_⟩:=h.tup;rfl
 | lst o b=>obtain ⟨a,vs,P',rfl,_⟩:=h.lst;rfl
 | dic o b=>unfold Rep at h;exact h.elim
 | ref k=>unfold Rep at h;obtain ⟨⟨a,_,rfl⟩,_⟩:=h;rfl
 | scr ns=>obtain ⟨a,rfl,_⟩:=h.scr;rfl
 | ty n=>unfold Rep at h;rw [h.1];rfl
 | mtp n=>unfold Rep at h;obtain ⟨⟨a,rfl,_⟩,_⟩:=h;rfl
 | dti o n=>unfold Rep at h;obtain ⟨a,rfl,_⟩:=h;rfl
noncomputable def mxI:List Int->Int
 | []=>0
 | [a]=>a
 | a::r=>max a (mxI r)
theorem mxI_spec:∀ (ns:List Int),ns≠[]->mxI ns∈ns/\∀ a∈ns,a<=mxI ns
 | [],h=>absurd rfl h
 | [a],_=>by simp [mxI]
 | a::b::r,_=>by
  obtain ⟨h1,h2⟩:=mxI_spec (b::r) (by simp);show max a (mxI (b::r))∈_/\∀ c∈a::b::r,c<=max a (mxI (b::r));constructor
  ·rcases Int.le_total a (mxI (b::r)) with h | h
   ·rw [Int.max_eq_right h];exact lG _ h1
   ·rw [Int.max_eq_left h];exact lE
  ·intro c hc;rcases lO.mp hc with rfl | hc
   ·exact Int.le_max_left _ _
   ·exact Int.le_trans (h2 c hc) (Int.le_max_right _ _)
end
section
end
section
end
section
variable {K:W.Frag}
def rIndexD (K:W.Frag):V->List V->Hp->VK->Prop:=fun x vs H Q=>∃ p xs y ds e j,x=.ref p/\vs=[y]/\CQ K H p xs/\L3.IsL K H xs ds/\L3.Is K H y e/\L3.depL ds<=150/\(∃ d,ds[j]?=some d/\L3.eqD d e=true)/\(∀ (m:Nat) (d:L3.D),m < j->ds[m]?=some d->L3.eqD d e=false)/\Q (.int (j:Nat)) H
theorem mt_indexD {X:Cx} {j:Nat} (hr:Room j X.A):dS X "list.index" (rIndexD X.K):=by
 intro pins s σ H x vs v us Q I rx rv h;obtain ⟨p,xs,y,ds,e,j,rfl,rfl,hp,hds,hy,hdp,⟨dj,ej,hit⟩,hno,q⟩:=h;cases rx;obtain ⟨u,rfl,ru⟩:=rv.one;obtain ⟨its,r,pl,hz⟩:=I.list hp;obtain ⟨⟨cls,dd,data,sl⟩,ho,hc,n,hd⟩:=pl.isList;simp only at hc hd;subst hc hd;have hu:X.A.units+1+150 < cLine:=by have:=hr.un;omega
 have hl:its.length=ds.length:=by rw [<- r.length,hds.length]
 have hj:j < ds.length:=(lD.mp ej).1;have hs:sizeLine=16777216:=sizeLine_eq;have hxl:=r.length;have at_:∀ m (hm:m < its.toArray.size),∃ d,ds[m]?=some d/\L3.eqW its ds e its.toArray[m]=L3.eqD d e:=fun m hm=>by
  have hm':m < its.length:=by simpa using hm
  have hd:ds[m]?=some ds[m]:=lA (by omega);exact ⟨ds[m],hd,by simpa using L3.eqW_at I r hds (lA hm') hd⟩
 refine call_meets F.slot_list_index ⟨_,ho,rfl⟩ F.entry_list_index (F.args_list_index_2 _ _)
  (SeqAt.list_indexAt p its.toArray n dd sl u (L3.eqW its ds e) j (by simpa [hl] using hj) (by omega) ?_ ?_) ⟨ho,fun w hw=>L3.all_eqW I r hds ru hy hdp hu w (by simpa using hw),⟨.int (j:Nat),H,I.tok _,⟨_,rfl⟩,q⟩⟩
 ·obtain ⟨w,e1,e2⟩:=at_ j (by simpa [hl] using hj);rw [ej] at e1;cases e1;rw [e2];exact hit
 ·intro m hm hlt;obtain ⟨w,e1,e2⟩:=at_ m hm;rw [e2];exact hno m w hlt e1
theorem toDs_get:∀ (ds:List Dt) (i:Nat),(toDs ds)[i]?=(ds[i]?).map toD
 | [],i=>by unfold toDs;simp
 | d::ds,0=>by unfold toDs;simp
 | d::ds,i+1=>by
  have:=toDs_get ds i;simp only [toDs,oT];exact this
def rIndexTD (K:W.Frag):V->List V->Hp->VK->Prop:=fun x vs H Q=>∃ p xs y ds e j,x=.ref p/\vs=[y]/\H p=some (.tup xs)/\L3.IsL K H xs ds/\L3.Is K H y e/\L3.depL ds<=150/\(∃ d,ds[j]?=some d/\L3.eqD d e=true)/\(∀ (m:Nat) (d:L3.D),m < j->ds[m]?=some d->L3.eqD d e=false)/\Q (.int (j:Nat)) H
theorem mt_indexTD {X:Cx} {j:Nat} (hr:Room j X.A):dS X "tuple.index" (rIndexTD X.K):=by
 intro pins s σ H x vs v us Q I rx rv h;obtain ⟨p,xs,y,ds,e,j,rfl,rfl,hp,hds,hy,hdp,⟨dj,ej,hit⟩,hno,q⟩:=h;cases rx;obtain ⟨u,rfl,ru⟩:=rv.one;obtain ⟨hz,its,r,⟨cls,dd,data,sl⟩,ho,hc,hdd,n,hd⟩:=I.hok p _ hp;simp only at hc hd;subst hc hd;have hu:X.A.units+1+150 < cLine:=by have:=hr.un;omega
 have hl:its.length=ds.length:=by rw [<- r.length,hds.length]
 have hj:j < ds.length:=(lD.mp ej).1;have at_:∀ m (hm:m < its.toArray.size),∃ d,ds[m]?=some d/\L3.eqW its ds e its.toArray[m]=L3.eqD d e:=fun m hm=>by
  have hm':m < its.length:=by simpa using hm
  have hd:ds[m]?=some ds[m]:=lA (by omega);exact ⟨ds[m],hd,by simpa using L3.eqW_at I r hds (lA hm') hd⟩
 refine call_meets F.slot_tuple_index ⟨_,ho,rfl⟩ F.entry_tuple_index (F.args_tuple_index_2 _ _)
  (Hm p its.toArray n dd sl u (L3.eqW its ds e) j (by simpa [hl] using hj) ?_ ?_) ⟨ho,fun w hw=>L3.all_eqW I r hds ru hy hdp hu w (by simpa using hw),⟨.int (j:Nat),H,I.tok _,⟨_,rfl⟩,q⟩⟩
 ·obtain ⟨w,e1,e2⟩:=at_ j (by simpa [hl] using hj);rw [ej] at e1;cases e1;rw [e2];exact hit
 ·intro m hm hlt;obtain ⟨w,e1,e2⟩:=at_ m hm;rw [e2];exact hno m w hlt e1
end
section
end
section
variable {K:W.Frag}
noncomputable def isSub (k T:String):Bool:=k == T || (k == "bool" && T == "int")
theorem kit_ok (K:W.Frag) {k T:String} (hk:k∈["NoneType", "bool", "int", "str", "tuple", "list"]) (hT:T∈["int", "bool", "str", "tuple", "list"]):W.kitOne K (.type k) (.type T)=some (isSub k T):=by
 simp only [lO,mM,or_false] at hk hT;rcases hk with rfl | rfl | rfl | rfl | rfl | rfl<;>rcases hT with rfl | rfl | rfl | rfl | rfl<;>kernel_rfl
end
section
end
section
end
theorem aq {X:Cx}:Bv X (compareOp .In) (Zw false):=Pi
theorem Ph {X:Cx}:Bv X (compareOp .NotIn) (Zw true):=JY
theorem op_inQ {X:Cx} {j:Nat} (hr:Room j X.A):Bv X (compareOp .In) (rInQ X.K false):=aq.or (L3.op_inA hr)
theorem op_notInQ {X:Cx} {j:Nat} (hr:Room j X.A):Bv X (compareOp .NotIn) (rInQ X.K true):=Ph.or (L3.op_notInA hr)
noncomputable abbrev tI (xs:List Int):Dt:=.tup (xs.map .int)
end Q
set_option maxHeartbeats 2000000
set_option maxHeartbeats 2000000
namespace L2
open PySem PySem.Spec PyProof.Rows
noncomputable def cT (ifs:List Expr) (env:Env):Sem Bool:=forIn ifs true fun c r=>if r=true then do let ok <- isTrue c env (eval c env);pure (ForInStep.yield ok) else pure (ForInStep.yield r)
def Vb (X:Cx) (ifs:List Expr) (t:TT):Prop:=
 ∀ (pins:List (Addr×Obj)) (s:Shared) (σ:St) (H:Hp) (Q:Bool->Hp->Prop),Inv X pins σ H s->t σ H Q->wpAny (model X.prog X.w) X.A (cT ifs X.env) (TP X pins σ Q) X.xe s
theorem Vb.one {X:Cx} {c:Expr} {t:TT} (h:PT X c t):Vb X [c] t:=fun pins s σ H Q I q=>wpAny_tests_one (h pins s σ H Q I q)
theorem Jt {prog:Program} {w:World} {A:Around} {R:Result->Shared->Prop} {s:Shared} {elt target iter:Expr} {ifs:List Expr} {scope:Scope} {pos:Pos} {it acc:Value} {env:Env} (I:Nat->Shared->Prop)
    (turn:∀ n s,I n s->wpAny (model prog w) A (pyNext it) (fun r s₁=>match r with
      | none=>R (.ok .next) s₁
      | some v=>wpAny (model prog w) A (letOwnedTupleGo target it v) (fun _ s₂=>wpAny (model prog w) A (assign target env v) (fun _ s₃=>wpAny (model prog w) A (cT ifs env) (fun ok s₄=>if ok=true then wpAny (model prog w) A (eval elt env) (fun x s₅ =>
          wpAny (model prog w) A (call (.builtin "list.append") [acc,x]) (fun _ s₆=>∃ m,m < n/\I m s₆) (fun _ _=>False) s₅) (fun _ _=>False) s₄ else ∃ m,m < n/\I m s₄) (fun _ _=>False) s₃) (fun _ _=>False) s₂) (fun _ _=>False) s₁) (fun _ _=>False) s)
    (n:Nat) (h:I n s) :
    codeAny (model prog w) A (.compLoop (.ListComp elt [⟨target,iter,ifs,0⟩] scope pos) 0 it acc env) R s:=by
  refine codeAny_loop rfl I (fun n s hI=>?_) n h;show wpAny _ _ ((compTurn (.ListComp elt [⟨target,iter,ifs,0⟩] scope pos) 0 it acc env).onRaise (fun x=>do noteFrame x env;theTreesLotGoes x)) _ _ s;refine wpAny_noted ?_;rw [compTurn_list];have no:∀ {E:Value->Shared->Prop},∀ (e:Value) (s:Shared),False->E e s:=fun _ _ z=>z.elim
  refine wpAny_bind (wpAny_standAt (wpAny_bind (wpAny_mono (turn n s hI) (fun r s₁ h₁=>?_) no)));cases r with
  | none=>exact wpAny_pure h₁
  | some v =>
    refine wpAny_bind (wpAny_mono h₁ (fun _ s₂ h₂=>?_) no);refine wpAny_bind (wpAny_mono h₂ (fun _ s₃ h₃=>wpAny_bind (wpAny_mono h₃ (fun ok s₄ h₄=>?_) no)) no);cases ok with
    | false=>exact wpAny_pure ⟨rfl,h₄⟩
    | true=>exact wpAny_bind (wpAny_bind (wpAny_mono h₄ (fun x s₅ h₅=>wpAny_bind (wpAny_mono h₅ (fun _ s₆ h₆=>wpAny_pure (wpAny_pure ⟨rfl,h₆⟩)) no)) no))
section
variable {X:Cx} {tg iter elt:Expr} {ifs:List Expr} {scope:Scope} {pos:Pos} {g:TG} {te:TE} {tc:TT} {js:List Nat} {wi:TI}
def NX (js:List Nat) (g:TG) (tc:TT) (te:TE) (J:It) (σ:St) (Fin:List V->Hp->Prop) (W:Nat->Nat->List V->Hp->Prop):Prop:=∀ i m ys H,W i m ys H ->
 (J.stop i H/\Fin ys H)\/(J.go i H/\ys.length < sizeLine/\∃ N:List V->Hp->Prop,(∀ zs H',N zs H'->∃ m',m' < m/\W (i+1) m' zs H')/\∀ x H',J.yld i H x H'->g x (blank js σ) H' fun σ2 H2=>tc σ2 H2 fun b H3=>if b=true then te σ2 H3 fun v H4=>N (ys++[v]) H4 else N ys H3)
theorem GM {pins:List (Addr×Obj)} {s2:Shared} {σ:St} {H2:Hp} {it:Addr} {fp:List Addr} {tn:Nat->Heap->Prop} {J:It} {cl:List (Str×Addr)} {W:Nat->Nat->List V->Hp->Prop} {Fin:List V->Hp->Prop} {E:Value->Shared->Prop} {RR:Value->Addr->Result->Shared->Prop}
    (hin:InnerIn X.N X.env.scope scope js) (hc:X.calm=true) (hg:∀ cl C s H fp,PG (X.inner scope cl C s H fp) tg g) (hgo:RN js g) (hcn:∀ cl C s H fp,Vb (X.inner scope cl C s H fp) ifs tc) (he:∀ cl C s H fp,PE (X.inner scope cl C s H fp) elt te)
    (I2:Inv X pins σ H2 s2) (T:Turn X.prog X.w X.K tg J fp it tn) (t0:tn 0 s2.heap) (hf:∀ b∈fp,FpOk X pins H2 b)
    (hcl:∀ x c,cl.lookup x=some c->X.env.cells.lookup x=some c) (hfr:∀ x,scope.names.lookup x=some .free->∃ c,cl.lookup x=some c)
    {m0:Nat} (w0:W 0 m0 [] H2) (turn:NX js g tc te J σ Fin W)
    (hRR:∀ D C s' H' ys m,Inv X pins σ (upd H' D (.lst ys)) s'->H' D=none->Fin ys H'->s'.heap.Ns C m->C≠X.env.locals->X.s₀.heap.objs.size<=C->(∀ x c,X.env.cells.lookup x=some c->c≠C)->(∀ p∈X.pn++pins,p.1≠C)->H' C=none->D≠C->RR (.ref D) C (.ok .next) s') :
    wpAny (model X.prog X.w) X.A (newList []) (fun acc s₃=>wpAny (model X.prog X.w) X.A (newFunctionEnv scope X.env.globals cl [] X.env.qual none .none (some X.env)) (fun cenv s₄ =>
      codeAny (model X.prog X.w) X.A (.compStart (.ListComp elt [⟨tg,iter,ifs,0⟩] scope pos) 0 (.ref it) acc { cenv with scope:=relabel scope X.env }) (RR acc cenv.locals) s₄) E s₃) E s2:=by
  have hfe:∀ b∈fp,b < s2.heap.objs.size:=fun b hb=>let ⟨_,e,_⟩:=T.obj _ _ t0 b hb;lQ e
  refine wpAny_newObj_type (Bl ?_);dsimp only
  generalize hHH:s2.heap.push { cls:=.type "list", dict:=none,data:=.seq ([]:List Value).toArray }=HH
  have hC:HH.objs.size=s2.heap.objs.size+1:=by rw [<- hHH,mS]
  have hDC:s2.heap.objs.size≠HH.objs.size:=by rw [hC];exact lq (oF _)
  have hCle:s2.heap.objs.size<=HH.objs.size:=by rw [hC];exact nh _
  have below:∀ b,b < s2.heap.objs.size->b≠HH.objs.size/\b≠s2.heap.objs.size:=fun b hb=>⟨by rw [hC];exact lq (Nat.lt_succ_of_lt hb),lq hb⟩
  obtain ⟨h₁,hh₁⟩:∃ h₁,pushCells (HH.push { cls:=.type "dict", data:=.dict #[] }) scope.names=h₁:=⟨_,rfl⟩
  have old:∀ b o,s2.heap.get? b=some o->h₁.get? b=some o:=fun b o e=>hh₁▸pushCells_keeps _ _ b o (lC _ (hHH▸lC _ e))
  have hacc:h₁.get? s2.heap.objs.size=some { cls:=.type "list", data:=.seq ([]:List Value).toArray 0 }:=hh₁▸pushCells_keeps _ _ _ _ (lC _ (hHH▸lT _ rfl))
  have hns₁:h₁.Ns HH.objs.size (fun _=>none):=hh₁▸(Heap.Ns.new HH (.type "dict")).keeps (pushCells_keeps _ _)
  obtain ⟨L,hown⟩:=XW (s:=s2) (C:=HH.objs.size) hin hcl hfr (h:=HH.push { cls:=.type "dict", data:=.dict #[] }) hCle (mS ..)
  rw [hh₁] at hown ⊢;generalize hcc:cellsFrom (HH.objs.size+1) scope.names cl=cl' at L hown ⊢;clear hh₁ hcc;generalize hDD:s2.heap.objs.size=D at *;generalize hCC:HH.objs.size=C at *;have hDle:s2.heap.objs.size<=D:=Nat.le_of_eq hDD;have hCle':s2.heap.objs.size<=C:=by rw [hDD];exact hCle
  have nocell:∀ (its:List Value) (n:Nat) v,({ cls:=.type "list", data:=.seq its.toArray n }:Obj).data≠.cell v:=fun _ _ _ z=>by cases z
  have I4:Inv (X.inner scope cl' C s2 H2 fp) (pins++[(D,{ cls:=.type "list", data:=.seq ([]:List Value).toArray 0 })]) (blank js σ) H2 { s2 with heap:=h₁,toks:=s2.toks }:=
    I2.enter hin hf (by rw [hDD];exact hfe) hCle' hDle hDC L hown old hns₁ hacc (nocell _ _)
  have stat:∀ {H':Hp} {o:Obj},(∀ b∈fp,H' b=none)->∀ b∈fp,FpOk (X.inner scope cl' C s2 H2 fp) (pins++[(D,o)]) H' b:=fun {H' o} hn b hb=>by
    obtain ⟨_,f1,f2,f3,f4,f5⟩:=hf b hb;refine ⟨hn b hb,(below b (hfe b hb)).1,fun z=>?_,.inl hb,fun x c e=>L.ne e (by rw [hDD];exact hfe b hb) f4,fun p hp=>?_⟩
    · rcases lO.mp (I2.stkSub b z) with e | e
      · exact f1 e
      · exact f2 e
    · have hp':p∈X.pn++(pins++[(D,o)]):=hp;rw [<- mN] at hp';rcases lW.mp hp' with z | z
      · exact f5 p z
      · have e:p=(D,o):=by simpa using z
        subst e;exact fun z=>(below b (hfe b hb)).2 z.symm
  have loop:∀ s₃:Shared,s₃={ s2 with heap:=h₁,toks:=s2.toks } ->
      codeAny (model X.prog X.w) X.A (.compLoop (.ListComp elt [⟨tg,iter,ifs,0⟩] scope pos) 0 (.ref it) (.ref D) (compEnvC scope cl' C X.env)) (RR (.ref D) C) s₃:=by
    rintro s₃ rfl
    refine Jt (fun n s'=>∃ i ys its k H',Inv (X.inner scope cl' C s2 H2 fp) (pins++[(D,{ cls:=.type "list", data:=.seq its.toArray k })]) (blank js σ) H' s'/\tn i s'.heap/\(∀ b∈fp,H' b=none)/\AE ys its/\ys.length<=sizeLine/\W i n ys H') ?_ m0
      ⟨0,[],[],0,H2,I4,T.keep _ _ _ t0 fun b hb o e=>old b o e,fun b hb=>(hf b hb).1,.nil,mF _,w0⟩
    rintro n s3 ⟨i,ys,its,k,H3,I3,st3,fr3,hv3,hz3,w3⟩;rcases turn i n ys H3 w3 with ⟨stop,fin⟩ | ⟨go,hlt,N,hN,step⟩
    · refine Ak (T.done (X.inner scope cl' C s2 H2 fp) rfl rfl rfl hc i _ s3 _ H3 _ I3 (stat fr3) st3 stop) fun r s4 ⟨hr,I4⟩=>?_
      subst hr
      have pD:=I4.pin (D,{ cls:=.type "list", data:=.seq its.toArray k }) (lH _ (lH _ lE))
      obtain ⟨m,hn,_⟩:=id I4.loc;refine hRR D C s4 H3 ys m (I2.leave (fp:=fp) hf rfl I4 hDle pD.2.1 hz3 hv3 pD.1) pD.2.1 fin hn ?_ ?_ (fun x c e=>?_) (fun p hp=>?_) I4.free hDC
      · exact nM (lU I2.lt hCle')
      · exact lR I2.sz hCle'
      · exact lq (lU (I2.cellLt e) hCle')
      · exact lq (lU (I2.pinLt hp) hCle')
    · refine Ak (T.item (X.inner scope cl' C s2 H2 fp) rfl rfl rfl hc i _ s3 _ H3 _ I3 (stat fr3) st3 go) fun r s4 ⟨u,hr,h4⟩=>?_
      subst hr;refine Ak h4 fun _ s5 ⟨x,H5,I5,r5,y5,st5,fr5⟩=>?_
      have I5':=I5.pinned (stat fr5) (T.obj _ _ st5);refine Ak (hg cl' C s2 H2 fp _ s5 _ H5 x u _ I5' r5 (hgo _ _ _ _ (step x H5 y5))) fun _ s6 ⟨σ6,H6,I6,⟨hl6,hs6⟩,q6⟩=>?_
      refine Ak (hcn cl' C s2 H2 fp _ s6 σ6 H6 _ I6 q6) fun ok s6b ⟨H6b,I6b,q6b⟩=>?_
      have other:∀ (s7:Shared) (v:Value) (b:Addr) (u:Obj),b≠D->s7.heap.get? b=some u->(s7.heap.update D (Obj.mapSeq fun a=>a.push v)).get? b=some u:=fun s7 v b u hb hu=>(mJ s7.heap (Obj.mapSeq fun a=>a.push v) (Ne.symm hb)).trans hu
      cases ok with
      | false =>
        obtain ⟨m',hm,w7⟩:=hN _ _ q6b
        have pD:=I6b.pin (D,{ cls:=.type "list", data:=.seq its.toArray k }) (lH _ (lM _ (lH _ lE)))
        have fpk:∀ b∈fp,∀ o,s5.heap.get? b=some o->s6b.heap.get? b=some o/\H6b b=none:=fun b hb o e =>
          let z:=I6b.pin (b,o) (lH _ (lH _ (Cm hb e)));⟨z.1,z.2.1⟩
        have I8:Inv (X.inner scope cl' C s2 H2 fp) pins (blank js σ) H6b s6b:=by
          have Ia:Inv (X.inner scope cl' C s2 H2 fp) pins σ6 H6b s6b:=I6b.pins_of fun p hp=>I6b.pin p (lH _ (lM _ (lM _ hp)))
          exact Ia.weak hl6.symm fun i v e=>by
            obtain ⟨hj,_⟩:=GE js σ i v e;rw [hs6 i hj];exact e
        refine ⟨m',hm,i+1,ys,its,k,H6b,I8.pins_of (fun p hp=>?_),T.keep _ _ _ st5 fun b hb o e=>(fpk b hb o e).1,fun b hb=>?_,hv3,hz3,w7⟩
        · rcases lW.mp hp with z | z
          · exact I8.pin p (lH _ z)
          · have e:p=(D,_):=lu.mp z;subst e;exact ⟨pD.1,pD.2.1,pD.2.2.1,pD.2.2.2.1,nocell _ _⟩
        · obtain ⟨o,e,_⟩:=T.obj _ _ st5 b hb;exact (fpk b hb o e).2
      | true =>
      refine Ak (he cl' C s2 H2 fp _ s6b σ6 H6b _ I6b q6b) fun v s7 ⟨y,H7,I7,r7,n7⟩=>?_
      obtain ⟨m',hm,w7⟩:=hN _ _ n7
      have pD:=I7.pin (D,{ cls:=.type "list", data:=.seq its.toArray k }) (lH _ (lM _ (lH _ lE)))
      have lt:its.toArray.size<=sizeLine:=by rw [lF,<- hv3.length];exact hz3
      refine call_meets F.slot_list_append ⟨_,pD.1,rfl⟩ F.entry_list_append (F.args_list_append_2 _ _) (PySem.list_append D its.toArray k v lt) ⟨pD.1,?_⟩
      obtain ⟨k',q⟩:∃ k',(s7.heap.update D (Obj.mapSeq fun a=>a.push v)).get? D=some { cls:=.type "list", data:=.seq (its.toArray.push v) k' }:=⟨_,PySem.IsL.update pD.1 (fun a=>a.push v)⟩
      have eq:(its.toArray.push v)=(its++[v]).toArray:=by simp
      have fpk:∀ b∈fp,∀ o,s5.heap.get? b=some o->s7.heap.get? b=some o/\H7 b=none:=fun b hb o e =>
        let z:=I7.pin (b,o) (lH _ (lH _ (Cm hb e)));⟨z.1,z.2.1⟩
      have other:∀ b u,b≠D->s7.heap.get? b=some u->(s7.heap.update D (Obj.mapSeq fun a=>a.push v)).get? b=some u:=fun b u hb hu=>(mJ s7.heap (Obj.mapSeq fun a=>a.push v) (Ne.symm hb)).trans hu
      have I8:Inv (X.inner scope cl' C s2 H2 fp) pins (blank js σ) H7 { s7 with heap:=s7.heap.update D (Obj.mapSeq fun a=>a.push v),toks:=s7.toks }:=by
        have Ia:Inv (X.inner scope cl' C s2 H2 fp) pins σ6 H7 s7:=I7.pins_of fun p hp=>I7.pin p (lH _ (lM _ (lM _ hp)))
        have Ib:Inv (X.inner scope cl' C s2 H2 fp) pins (blank js σ) H7 s7:=Ia.weak hl6.symm fun i v e=>by
          obtain ⟨hj,_⟩:=GE js σ i v e;rw [hs6 i hj];exact e
        refine Ib.turned (it:=D) (fun b o hb e=>other b o hb e) pD.2.1 pD.2.2.1 (.inr hDle) (fun x c e=>?_) (fun p hp=>?_)
        · cases q:AQ scope x with
          | false=>exact lq (lU (I2.cellLt (L.old x c e q)) hDle)
          | true=>exact nM (nk hCle (L.own x c e q).2)
        · exact lq (lU (I2.pinLt hp) hDle)
      refine ⟨m',hm,i+1,ys++[y],its++[v],k',H7,I8.pins_of (fun p hp=>?_),T.keep _ _ _ st5 fun b hb o e=>other b o (below b (hfe b hb)).2 (fpk b hb o e).1,fun b hb=>?_,hv3.append (.cons r7 .nil),by rw [la,mT];omega,w7⟩
      · rcases lW.mp hp with z | z
        · exact I8.pin p (lH _ z)
        · have e:p=(D,_):=lu.mp z;subst e;rw [<- eq];exact ⟨q,pD.2.1,pD.2.2.1,pD.2.2.2.1,nocell _ _⟩
      · obtain ⟨o,e,_⟩:=T.obj _ _ st5 b hb;exact (fpk b hb o e).2
  exact codeAny_compStart_list (loop _ rfl) (T.self _ 0 _ _ _ (T.keep _ _ _ t0 fun b hb o e=>old b o e) (loop _ rfl))
def FJ (wi:TI) (js:List Nat) (g:TG) (tc:TT) (te:TE):TE:=fun σ H Q=>wi σ H fun J H1=>∃ W:Nat->Nat->List V->Hp->Prop,(∃ m,W 0 m [] H1)/\NX js g tc te J σ (fun ys H=>∀ p,H p=none->Q (.ref p) (upd H p (.lst ys))) W
theorem Kx (hin:innerOk X.N X.env.scope scope js=true) (hc:X.calm=true) (hi:PI X tg iter wi) (hg:∀ cl C s H fp,PG (X.inner scope cl C s H fp) tg g) (hgo:RN js g) (hcn:∀ cl C s H fp,Vb (X.inner scope cl C s H fp) ifs tc) (he:∀ cl C s H fp,PE (X.inner scope cl C s H fp) elt te)
    (hs:∀ x,foldedSetIterable iter X.env x=pure x:=by intro _;rfl):PE X (.ListComp elt [⟨tg,iter,ifs,0⟩] scope pos) (FJ wi js g tc te):=by
  intro pins s σ H Q I h;have hin:=HU hin;obtain ⟨cl,hclos,hcl,hfr⟩:=Hc (scope:=scope) (env:=X.env) (fun x hx=>I.ok.has x (hin.fr x hx)) hin.uniqF;rw [eval_ListComp];refine wpAny_comprehension_free (use:=none) rfl hs hclos hin.kind hin.uniqL ?_;refine Ak (hi pins s σ H _ I h) fun v s1 h1=>Ak h1 fun itv s2 h2=>?_
  obtain ⟨it,fp,tn,J,H2,e,I2,T,st2,f2,W,⟨m0,w0⟩,turn⟩:=h2;subst e;refine GM (RR:=fun acc C=>compPost (model X.prog X.w) X.A X.xe none (EP X pins σ Q) acc C) hin hc hg hgo hcn he I2 T st2 f2 hcl hfr w0 turn ?_;intro D C s' H' ys m I' hD fin hn c1 c2 c3 c4 c5 c6;refine ⟨m,hn,fun h' sb=>⟨.ref D,_,I'.turned (t':=s'.toks) (it:=C) (fun b o hb e=>(sb.2 b hb).trans e) ?_ c1 (.inr c2) c3 c4,rfl,fin D hD⟩⟩;rw [AU (Ne.symm c6)];exact c5
theorem Kr {i:Nat} {x:Str} {pos' spos:Pos} (hN:X.N.Nodup) (hix:X.N[i]?=some x) (hx:Loc X.env.scope x)
    (hin:innerOk X.N X.env.scope scope js=true) (hc:X.calm=true) (hi:PI X tg iter wi) (hg:∀ cl C s H fp,PG (X.inner scope cl C s H fp) tg g) (hgo:RN js g) (hcn:∀ cl C s H fp,Vb (X.inner scope cl C s H fp) ifs tc) (he:∀ cl C s H fp,PE (X.inner scope cl C s H fp) elt te)
    (hsw:swapsWith (.ListComp elt [⟨tg,iter,ifs,0⟩] scope pos) (some (.Name x pos')) spos.line X.env=pure true:=by rfl)
    (hs:∀ x,foldedSetIterable iter X.env x=pure x:=by intro _;rfl)
    (hf:X.fn x=true\/X.env.scope.names.lookup x=some .local:=by first | exact .inl rfl | exact .inr rfl | assumption) :
    PS X (.Assign [.Name x pos'] (.ListComp elt [⟨tg,iter,ifs,0⟩] scope pos) spos) (Lz (FJ wi js g tc te) (DL i)):=by
  intro pins s σ H D I h;have hin:=HU hin;obtain ⟨cl,hclos,hcl,hfr⟩:=Hc (scope:=scope) (env:=X.env) (fun x hx=>I.ok.has x (hin.fr x hx)) hin.uniqF;rw [exec_Assign_Name_used _ _ _ _ hsw];refine wpAny_bind (wpAny_standAt (wpAny_bind ?_));show wpAny _ _ (do let _ <- comprehension (.ListComp elt [⟨tg,iter,ifs,0⟩] scope pos) scope X.env _ (newList []) false (eval iter X.env) (some (assign (.Name x pos') X.env))) _ _ s;refine wpAny_bind (Ak (wpAny_comprehension_free (use:=some (assign (.Name x pos') X.env)) (Q:=fun _ s'=>SP X pins D .next s') rfl hs hclos hin.kind hin.uniqL ?_) (fun _ s' hq=>wpAny_pure (wpAny_pure hq)));refine Ak (hi pins s σ H _ I h) fun v s1 h1=>Ak h1 fun itv s2 h2=>?_
  obtain ⟨it,fp,tn,J,H2,e,I2,T,st2,f2,W,⟨m0,w0⟩,turn⟩:=h2;subst e;refine GM (RR:=fun acc C=>compPost (model X.prog X.w) X.A X.xe (some (assign (.Name x pos') X.env)) (fun _ s'=>SP X pins D .next s') acc C) hin hc hg hgo hcn he I2 T st2 f2 hcl hfr w0 turn ?_;intro DD C s' H' ys m I' hD fin hn c1 c2 c3 c4 c5 c6;show wpAny _ _ (assign (.Name x pos') X.env (.ref DD)) _ _ _;refine wpAny_assign_Name (IF (v:=.ref DD) I' hN hix hx rfl (fun s'' I'' ⟨a,sb,ha⟩=>?_) hf);have ne:C≠a:=by
    rcases ha with z | z
    · rw [z];exact c1
    · exact (c3 x a z).symm
  refine ⟨m,hn.sameBut sb ne,fun h' sb'=>⟨_,_,I''.turned (t':=s''.toks) (it:=C) (fun b o hb e=>(sb'.2 b hb).trans e) ?_ c1 (.inr c2) c3 c4,fin DD hD⟩⟩;rw [AU (Ne.symm c6)];exact c5
end
end L2
namespace R
open PySem L2
section
variable {γ:Type}
noncomputable def BB (g:Dv->γ->Option (Dv×γ)):List Dv->γ->Option (List Dv×γ)
 | [],c=>some ([],c)
 | x::xs,c=>(g x c).bind fun p=>(BB g xs p.2).bind fun q=>some (p.1::q.1,q.2)
noncomputable def AN (g:Dv->Option Dv):List Dv->Option (List Dv)
 | []=>some []
 | x::xs=>(g x).bind fun p=>(AN g xs).bind fun q=>some (p::q)
noncomputable def Oh (g:Dv->γ->Option (Option Dv×γ)):List Dv->γ->Option (List Dv×γ)
 | [],c=>some ([],c)
 | x::xs,c=>(g x c).bind fun p=>(Oh g xs p.2).bind fun q=>some (match p.1 with | some d=>d::q.1 | none=>q.1,q.2)
noncomputable def bF (g:Dv->Option (Option Dv)):List Dv->Option (List Dv)
 | []=>some []
 | x::xs=>(g x).bind fun p=>(bF g xs).bind fun q=>some (match p with | some d=>d::q | none=>q)
noncomputable def CD {α:Type} (xs:List Dv) (o:Option α):Option α:=if xs.length<=1000000 then o else none
end
theorem Eu {α:Type} {xs:List Dv} {o:Option α} {a:α} (h:CD xs o=some a):xs.length<=1000000/\o=some a:=by
 unfold CD at h;split at h
 ·rename_i z;exact ⟨z,h⟩
 ·cases h
section
variable {K:W.Frag} {g g':G} {H H':Hp} {Γ:Gm} {m:M} {σ:St} {P:Fp}
theorem Rel.sub {Γ':Gm} {σ':St} (h:Rel K g H Γ m σ P) (hl:Γ'.length=Γ.length) (hs:σ'.length=σ.length) (k:∀ (i o:Nat),Γ'[i]?=some (some o)->Γ[i]?=some (some o)/\σ'[i]?=σ[i]?):∃ P',Rel K g H Γ' m σ' P'/\∀ a,P' a->P a:=by
 obtain ⟨zd,F,h1,h4⟩:=h;refine ⟨fun a=>∃ i,(∃ o,Γ'[i]?=some (some o))/\F i a,⟨zd,fun i a=>(∃ o,Γ'[i]?=some (some o))/\F i a,⟨by rw [hl];exact h1.l1,by rw [hs,hl];exact h1.l2,fun i o e=>?_,fun i e a q=>q.1.elim fun o z=>e o z,fun i j n a q z=>h1.dj i j n a q.2 z.2⟩,fun _=>Iff.rfl⟩,fun a ⟨i,_,q⟩=>(h4 a).mpr ⟨i,q⟩⟩;obtain ⟨e',es⟩:=k i o e;obtain ⟨d,v,e1,e2,r⟩:=h1.rep i o e';have eq:(fun a=>(∃ o,Γ'[i]?=some (some o))/\F i a)=F i:=funext fun a=>propext ⟨fun z=>z.2,fun z=>⟨⟨o,e⟩,z⟩⟩
 exact ⟨d,v,e1,by rw [es];exact e2,by show Rep K g H o d v fun a=>(∃ o,Γ'[i]?=some (some o))/\F i a;rw [eq];exact r⟩
theorem Rel.more {Γ':Gm} {σ':St} (h:Rel K g H Γ m σ P) (hl:Γ'.length=Γ.length) (hs:σ'.length=σ.length) (k:∀ (i o:Nat),Γ'[i]?=some (some o)->(Γ[i]?=some (some o)/\σ'[i]?=σ[i]?)\/(o=0/\∃ d v,m[i]?=some d/\σ'[i]?=some (some v)/\Rep K g H 0 d v nop)):∃ P',Rel K g H Γ' m σ' P'/\∀ a,P' a->P a:=by
 obtain ⟨zd,F,h1,h4⟩:=h
 let C:Nat->Prop:=fun i=>∃ o,Γ'[i]?=some (some o)/\Γ[i]?=some (some o)/\σ'[i]?=σ[i]?
 refine ⟨fun a=>∃ i,C i/\F i a,⟨zd,fun i a=>C i/\F i a,⟨by rw [hl];exact h1.l1,by rw [hs,hl];exact h1.l2,fun i o e=>?_,fun i e a q=>q.1.elim fun o z=>e o z.1,fun i j n a q z=>h1.dj i j n a q.2 z.2⟩,fun _=>Iff.rfl⟩,fun a ⟨i,_,q⟩=>(h4 a).mpr ⟨i,q⟩⟩
 by_cases c:C i
 ·obtain ⟨o',e1,e2,e3⟩:=c;rw [e] at e1;cases e1;obtain ⟨d,v,e4,e5,r⟩:=h1.rep i o e2;have eq:(fun a=>C i/\F i a)=F i:=funext fun a=>propext ⟨fun z=>z.2,fun z=>⟨⟨o,e,e2,e3⟩,z⟩⟩
  exact ⟨d,v,e4,by rw [e3];exact e5,by show Rep K g H o d v fun a=>C i/\F i a;rw [eq];exact r⟩
 ·have eq:(fun a=>C i/\F i a)=nop:=nop_iff fun a z=>c z.1
  rcases k i o e with z | ⟨rfl,d,v,e1,e2,r⟩
  ·exact (c ⟨o,e,z⟩).elim
  ·exact ⟨d,v,e1,e2,by show Rep K g H 0 d v fun a=>C i/\F i a;rw [eq];exact r⟩
end
def Lg (js:List Nat) (Γ:Gm):Gm:=(List.range Γ.length).map fun i=>if js.contains i then none else Γ.getD i none
def Kg (js:List Nat) (Γ1 Γ:Gm):Gm:=(List.range Γ.length).map fun i=>if js.contains i then (if Γ1.getD i none == some 0 then some 0 else none) else Γ.getD i none
theorem Ek {α:Type} {n i:Nat} {f:Nat->α} {x:α} (h:((List.range n).map f)[i]?=some x):i < n/\x=f i:=by
 rw [lP] at h
 by_cases z:i < n
 ·rw [mj z] at h;exact ⟨z,(Option.some.inj h).symm⟩
 ·rw [List.getElem?_eq_none_iff.mpr (by simpa using z)] at h;cases h
theorem BR {Γ:Gm} {i o:Nat} (h:Γ.getD i none=some o):Γ[i]?=some (some o):=by
 rw [lY] at h;cases e:Γ[i]? with
 | none=>rw [e] at h;cases h
 | some x=>rw [e] at h;exact congrArg some h
theorem Cn {js:List Nat} {Γ:Gm} {i o:Nat} (h:(Lg js Γ)[i]?=some (some o)):i∉js/\Γ[i]?=some (some o):=by
 obtain ⟨_,e⟩:=Ek h;split at e
 ·cases e
 ·rename_i z;exact ⟨fun q=>z (lK.mpr q),BR e.symm⟩
theorem Iv (js:List Nat):∀ (σ:St) (i:Nat),i∉js->(L2.blank js σ)[i]?=σ[i]?:=by
 induction js with
 | nil=>intro σ i _;rfl
 | cons j js ih =>
  intro σ i h;show (L2.blank js (σ.set j none))[i]?=_;rw [ih _ i fun z=>h (lG _ z),lh fun z=>h (by rw [<- z];exact lE)]
theorem Ey {K:W.Frag} {Γ1 Γl Γt Γc Γf:Gm} {jx jt jc jf J:List Nat} {g:TG} {ft:Tg} {c:Ev Bool} {f:Ev Dv} (ht:NT K Γl Γt jt g ft) (hbl:BQ Γl (Lg jx Γ1)=true) (hwf:BQ Γl Γf=true) (hwc:BQ Γl Γc=true) (hsx:∀ i∈jt,i∈jx)
    (hJ:J=Au Γl (jt++(jc++jf))) {ds:List Dv} (hz:ds.length<=1000000) {m1:M} {σ:St} {H1:Hp} {g1:G} {P1:Fp} {I:It} {R:Type} {k:Dv->M->Option R} {res:R} {Q:VK}
    (r1:Rel K g1 H1 Γ1 m1 σ P1) (yl:Yl K I ds g1 H1) (run:List Dv->EB J->List Dv->Prop) (h0:run ds (Aa J m1) []) (hn:∀ t ya,run [] t ya->k (.lst ya) (Ae J m1 t)=some res)
    (hc:∀ d ds t ya,run (d::ds) t ya->∃ (B:Type) (kx:Dv->M->Option B) (kf:M->Option B) (r:B),ft B d (Ae J m1 t) (fun m2=>c B m2 fun b m3=>if b=true then f B m3 kx else kf m3)=some r/\(∀ x m',kx x m'=some r->run ds (Aa J m') (ya++[x]))/\∀ m',kf m'=some r->run ds (Aa J m') ya)
    (q:∀ d m' g' P' Pv v H',k d m'=some res->BU (jt++(jc++jf)) m1 m'->Step g1 P1 H1 g' (fun a=>P' a\/Pv a) H'->Rep K g' H' 1 d v Pv->Rel K g' H' (Kg jx Γ1 Γl) m' σ P'->Disj P' Pv->Q v H') :
    ∃ W:Nat->Nat->List V->Hp->Prop,(∃ m,W 0 m [] H1)/\NX jx g (tT K Γt Γc jc c) (tE K Γc 0 Γf jf f) I σ (fun ys H=>∀ p,H p=none->Q (.ref p) (upd H p (.lst ys))) W:=by
  have sub:∀ i∈J,i∈jt++(jc++jf):=fun i h=>As (hJ▸h)
  have nJ:∀ i∈J,i∉jx:=fun i h z=>by
    rw [hJ] at h;have:=(mz.mp h).2;rw [lB] at this;cases e:Γl.getD i none with
    | none=>rw [e] at this;cases this.2
    | some o =>
      obtain ⟨o',e',_⟩:=Ep hbl (BR e);exact (Cn e').1 z
  have lb:(Lg jx Γ1).length=Γ1.length:=by unfold Lg;simp
  obtain ⟨Pb,rb,sb⟩:=r1.sub (Γ':=Lg jx Γ1) (σ':=L2.blank jx σ) lb (L2.blank_length ..) fun i o e=>⟨(Cn e).2,Iv jx σ i (Cn e).1⟩
  obtain ⟨g0,P0,s0,r0⟩:=rb.weaken hbl;have s10:Step g1 P1 H1 g0 P0 H1:=s0.sub sb fun _ z=>z
  refine ⟨fun i j ys H=>j=ds.length - i/\i<=ds.length/\ys.length<=i/\∃ g2 t P2 ya,Step g1 P1 H1 g2 P2 H/\Rel K g2 H Γl (Ae J m1 t) (L2.blank jx σ) P2/\Reps K g2 H 0 ya ys nop/\run (ds.drop i) t ya,
    ⟨ds.length,by simp,mF _,mF _,g0,Aa J m1,P0,[],s10,Mj r0,Reps.nil,by simpa using h0⟩,?_⟩
  rintro i j ys H2 ⟨rfl,hi,hyl,g2,t,P2,ya,s2,r2,ry,e2⟩;have st:Hh g1 H1 g2 H2:=⟨P1,P2,s2,r1.fpOk⟩
  by_cases hlt:i < ds.length
  · rw [nP hlt] at e2;obtain ⟨B,kx,kf,rB,e3,hx,hf⟩:=hc _ _ _ _ e2;obtain ⟨go,yy⟩:=(yl g2 H2 st).1 i ds[i] (lA hlt);refine .inr ⟨go,nk hyl (lU hlt (lR hz (by decide))),fun zs H'=>zs.length<=i+1/\∃ g5 P5 m' za,Step g1 P1 H1 g5 P5 H'/\Rel K g5 H' Γl m' (L2.blank jx σ) P5/\BU (jt++(jc++jf)) m1 m'/\Reps K g5 H' 0 za zs nop/\run (ds.drop (i+1)) (Aa J m') za,?_,fun y H3 hy=>?_⟩
    · rintro zs H' ⟨hl,g5,P5,m',za,s5,r5,ag,rz,hr⟩;exact ⟨ds.length - (i+1),by omega,rfl,hlt,hl,g5,Aa J m',P5,za,s5,r5.join ag fun i o h=>hJ▸BI h,rz,hr⟩
    · obtain ⟨Pv,s3,h3,r3,n3⟩:=Ab.go s2 r2 (yy y H3 hy);have ry3:Reps K g2 H3 0 ya ys nop:=ry.held (Step.same (P:=nop) (yy y H3 hy).1) FpOk.nop fun _ _ z=>z
      refine ht g2 _ P2 ds[i] y _ H3 B _ rB _ r3 h3.z e3 fun m2 P' σ' hk ag sp ip r'=>?_
      have s4:Step g1 P1 H1 g2 P' H3:=s3.less fun a z=>.inl (sp a z)
      have a4:BU (jt++(jc++jf)) m1 m2:=((AV J m1 t).mono sub).trans ag |>.mono fun i z=>(lW.mp z).elim id fun z=>lM _ z
      -- outside of the comprehension's own slots nothing is bound
      have back:∀ {g5:G} {P5:Fp} {m':M} {H':Hp},Rel K g5 H' Γl m' σ' P5->∃ P6,Rel K g5 H' Γl m' (L2.blank jx σ) P6/\∀ a,P6 a->P5 a:=fun {g5 P5 m' H'} r5=>r5.sub rfl (by rw [ip.1]) fun i o e=>⟨e,(ip.2 i fun z=>by
          obtain ⟨o',e',_⟩:=Ep hbl e;exact (Cn e').1 (hsx i z)).symm⟩
      refine ⟨g2,m2,P',r',B,_,rB,hk,fun b m3 g4 P4 H4 hk4 ag4 s5 r4=>?_⟩;have ry4:=ry3.held s5 r'.fpOk fun _ z=>z.elim
      cases b with
      | false =>
        rw [if_neg lV] at hk4;show (if false=true then _ else _);rw [if_neg lV];obtain ⟨g6,P6,s6,r6⟩:=r4.weaken hwc;obtain ⟨P7,r7,sp7⟩:=back r6;exact ⟨by omega,g6,P7,m3,ya,((s4.trans s5).trans s6).less sp7,r7,(a4.trans ag4).mono fun i z=>(lW.mp z).elim id fun z=>lH _ (lM _ z),ry4.held s6 r4.fpOk fun _ z=>z.elim,hf m3 hk4⟩
      | true =>
        rw [if_pos rfl] at hk4;show (if true=true then _ else _);rw [if_pos rfl];refine ⟨g4,m3,P4,r4,B,kx,rB,hk4,fun x m4 g5 P5 Pv v H5 hk5 ag5 s6 rv r5 n5=>?_⟩;have ry5:=ry4.held s6 r4.fpOk fun _ z=>z.elim
        obtain ⟨g6,P6,s7,r6⟩:=r5.weaken hwf;obtain ⟨P7,r7,sp7⟩:=back r6;refine ⟨by rw [la,mT];omega,g6,P7,m4,ya++[x],(((s4.trans s5).trans (s6.less fun _ z=>.inl z)).trans s7).less sp7,r7,?_,?_,hx x m4 hk5⟩
        · exact ((a4.trans ag4).trans ag5).mono fun i z=>(lW.mp z).elim (fun z=>(lW.mp z).elim id fun z=>lH _ (lM _ z)) fun z=>lH _ (lH _ z)
        · refine ((Reps.app ry5 (Reps.cons rv.z Reps.nil fun _ z=>z.elim) fun _ z=>z.elim).iff (Q:=nop) fun a=>⟨fun z=>z.elim,fun z=>z.elim id fun z=>z.elim id id⟩).held s7 r5.fpOk fun _ z=>z.elim
  · have ei:i=ds.length:=by omega
    subst ei;rw [List.drop_length] at e2;refine .inl ⟨(yl g2 H2 st).2 _ (lJ _),fun p hp=>?_⟩;obtain ⟨Pv,s3,h1,r3,n3⟩:=Ab.go s2 r2 (Ab.lst r2.zd ry hp);have l1:Γl.length=Γ1.length:=(Dq hbl).trans lb;obtain ⟨P4,r4,sp4⟩:=r3.more (Γ':=Kg jx Γ1 Γl) (σ':=σ) (by unfold Kg;simp) (by rw [L2.blank_length]) fun i o e=>by
      obtain ⟨hi,e⟩:=Ek e;split at e
      · rename_i z;split at e
        · rename_i z0;cases e;refine .inr ⟨rfl,?_⟩;obtain ⟨v,Px,ev,rx,_⟩:=r1.see (BR (beq_iff_eq.mp z0));have ji:i∉J:=fun w=>nJ i w (lK.mp z)
          have hl:i < m1.length:=by rw [r1.len.1,<- l1];exact hi
          refine ⟨m1.at i,v,?_,ev,(rx.z.held s2 r1.fpOk fun _ z=>z.elim).held (Step.same (P:=nop) (DE hp (.lst ys))) FpOk.nop fun _ _ z=>z⟩;have:=(AV J m1 t).2 i ji;have hl':i < (Ae J m1 t).length:=by rw [HG];exact hl
          rw [lA hl',<- this];unfold M.at;rw [lY,lA hl'];rfl
        · cases e
      · rename_i z;exact .inl ⟨BR e.symm,(Iv jx σ i fun w=>z (lK.mpr w)).symm⟩
    exact q _ _ g2 P4 Pv _ _ (hn t ya e2) ((AV J m1 t).mono sub) (s3.less fun a z=>z.elim (fun z=>.inl (sp4 a z)) .inr) h1 r4 fun a z w=>n3 a (sp4 a z) w
def To (src:Ev (List Dv)) (tg:Tg) (f:Ev Dv):Ev Dv:=fun R m k=>src R m fun ds m1=>CD ds ((AN (fun d=>tg Dv d m1 fun m2=>f Dv m2 fun x _=>some x) ds).bind fun xs=>k (.lst xs) m1)
def Tp (src:Ev (List Dv)) (tg:Tg) (c:Ev Bool) (f:Ev Dv):Ev Dv:=fun R m k=>src R m fun ds m1=>CD ds ((bF (fun d=>tg (Option Dv) d m1 fun m2=>c (Option Dv) m2 fun b m3=>if b=true then f (Option Dv) m3 fun x _=>some (some x) else some none) ds).bind fun xs=>k (.lst xs) m1)
def Od (src:Ev (List Dv)) (tg:Tg) (J:List Nat) (f:Ev Dv):Ev Dv:=fun R m k=>src R m fun ds m1=>CD ds ((BB (fun d t=>tg (Dv×EB J) d (Ae J m1 t) fun m2=>f (Dv×EB J) m2 fun x m3=>some (x,Aa J m3)) ds (Aa J m1)).bind fun p=>k (.lst p.1) (Ae J m1 p.2))
def Oc (src:Ev (List Dv)) (tg:Tg) (J:List Nat) (c:Ev Bool) (f:Ev Dv):Ev Dv:=fun R m k=>src R m fun ds m1=>CD ds ((Oh (fun d t=>tg (Option Dv×EB J) d (Ae J m1 t) fun m2=>c (Option Dv×EB J) m2 fun b m3=>if b=true then f (Option Dv×EB J) m3 fun x m4=>some (some x,Aa J m4) else some (none,Aa J m3)) ds (Aa J m1)).bind fun p=>k (.lst p.1) (Ae J m1 p.2))
def DN:Ev Bool:=fun _ m k=>k true m
section
variable {K:W.Frag} {Γ Γ1 Γl Γt Γc Γf:Gm} {js jx jt jc jf J:List Nat} {g:TG} {ft:Tg} {c:Ev Bool} {f:Ev Dv} {src:Ev (List Dv)} {σ:St} {H:Hp} {Q:VK}
theorem LG (ht:NT K Γl Γt jt g ft) (hbl:BQ Γl (Lg jx Γ1)=true) (hwf:BQ Γl Γf=true) (hwc:BQ Γl Γt=true) (hsx:∀ i∈jt,i∈jx) (hJ:([]:List Nat)=Au Γl (jt++([]++jf)))
    (h:tE K Γ 1 (Kg jx Γ1 Γl) (js++(jt++([]++jf))) (To src ft f) σ H Q):FJ (tI K Γ Γ1 js src) jx g (tT K Γt Γt [] DN) (tE K Γt 0 Γf jf f) σ H Q:=by
  obtain ⟨g0,m,P,r,R,k,res,e,q⟩:=h;refine ⟨g0,m,P,r,R,_,res,e,fun ds m1 g1 P1 H1 I hk ag s r1 yl=>?_⟩;obtain ⟨hz,hk⟩:=Eu hk;obtain ⟨xs,e1,e2⟩:=bind_some' hk;refine Ey (c:=DN) ht hbl hwf hwc hsx hJ hz r1 yl (fun ds _ ya=>∃ yb,xs=ya++yb/\AN _ ds=some yb) ⟨xs,rfl,e1⟩ (fun t ya ⟨yb,h1,h2⟩=>?_) (fun d ds t ya ⟨yb,h1,h2⟩=>?_) fun d m' g' P' Pv v H' hk ag' s'=>q d m' g' P' Pv v H' hk (ag.trans ag') (s.trans s')
  · cases h2;rw [mU] at h1;subst h1;exact e2
  · obtain ⟨x,h3,h4⟩:=bind_some' h2;obtain ⟨yc,h5,h6⟩:=bind_some' h4;cases h6;exact ⟨Dv,fun x _=>some x,fun _=>none,x,h3,(fun y m' hk=>by cases hk;exact ⟨yc,by rw [h1,mN];rfl,h5⟩),fun m' hk=>by cases hk⟩
theorem LI (ht:NT K Γl Γt jt g ft) (hbl:BQ Γl (Lg jx Γ1)=true) (hwf:BQ Γl Γf=true) (hwc:BQ Γl Γc=true) (hsx:∀ i∈jt,i∈jx) (hJ:([]:List Nat)=Au Γl (jt++(jc++jf)))
    (h:tE K Γ 1 (Kg jx Γ1 Γl) (js++(jt++(jc++jf))) (Tp src ft c f) σ H Q):FJ (tI K Γ Γ1 js src) jx g (tT K Γt Γc jc c) (tE K Γc 0 Γf jf f) σ H Q:=by
  obtain ⟨g0,m,P,r,R,k,res,e,q⟩:=h;refine ⟨g0,m,P,r,R,_,res,e,fun ds m1 g1 P1 H1 I hk ag s r1 yl=>?_⟩;obtain ⟨hz,hk⟩:=Eu hk;obtain ⟨xs,e1,e2⟩:=bind_some' hk;refine Ey ht hbl hwf hwc hsx hJ hz r1 yl (fun ds _ ya=>∃ yb,xs=ya++yb/\bF _ ds=some yb) ⟨xs,rfl,e1⟩ (fun t ya ⟨yb,h1,h2⟩=>?_) (fun d ds t ya ⟨yb,h1,h2⟩=>?_) fun d m' g' P' Pv v H' hk ag' s'=>q d m' g' P' Pv v H' hk (ag.trans ag') (s.trans s')
  · cases h2;rw [mU] at h1;subst h1;exact e2
  · obtain ⟨x,h3,h4⟩:=bind_some' h2;obtain ⟨yc,h5,h6⟩:=bind_some' h4;cases h6;refine ⟨Option Dv,fun x _=>some (some x),fun _=>some none,x,h3,(fun y m' hk=>?_),fun m' hk=>?_⟩
    · cases hk;exact ⟨yc,by rw [h1,mN];rfl,h5⟩
    · cases hk;exact ⟨yc,h1,h5⟩
theorem Ip (ht:NT K Γl Γt jt g ft) (hbl:BQ Γl (Lg jx Γ1)=true) (hwf:BQ Γl Γf=true) (hwc:BQ Γl Γt=true) (hsx:∀ i∈jt,i∈jx) (hJ:J=Au Γl (jt++([]++jf)))
    (h:tE K Γ 1 (Kg jx Γ1 Γl) (js++(jt++([]++jf))) (Od src ft J f) σ H Q):FJ (tI K Γ Γ1 js src) jx g (tT K Γt Γt [] DN) (tE K Γt 0 Γf jf f) σ H Q:=by
  obtain ⟨g0,m,P,r,R,k,res,e,q⟩:=h;refine ⟨g0,m,P,r,R,_,res,e,fun ds m1 g1 P1 H1 I hk ag s r1 yl=>?_⟩;obtain ⟨hz,hk⟩:=Eu hk;obtain ⟨p,e1,e2⟩:=bind_some' hk;refine Ey (c:=DN) ht hbl hwf hwc hsx hJ hz r1 yl (fun ds t ya=>∃ yb,p.1=ya++yb/\BB _ ds t=some (yb,p.2)) ⟨p.1,rfl,e1⟩ (fun t ya ⟨yb,h1,h2⟩=>?_) (fun d ds t ya ⟨yb,h1,h2⟩=>?_) fun d m' g' P' Pv v H' hk ag' s'=>q d m' g' P' Pv v H' hk (ag.trans ag') (s.trans s')
  · simp only [BB,Option.some.injEq,Prod.mk.injEq] at h2;obtain ⟨rfl,rfl⟩:=h2;rw [mU] at h1;rw [<- h1];exact e2
  · obtain ⟨x,h3,h4⟩:=bind_some' h2;obtain ⟨yc,h5,h6⟩:=bind_some' h4;simp only [Option.some.injEq,Prod.mk.injEq] at h6;obtain ⟨rfl,h7⟩:=h6;refine ⟨_,fun x m3=>some (x,Aa J m3),fun _=>none,x,h3,(fun y m' hk=>?_),fun m' hk=>by cases hk⟩;cases hk;exact ⟨yc.1,by rw [h1,mN];rfl,by rw [<- h7];exact h5⟩
theorem Im (ht:NT K Γl Γt jt g ft) (hbl:BQ Γl (Lg jx Γ1)=true) (hwf:BQ Γl Γf=true) (hwc:BQ Γl Γc=true) (hsx:∀ i∈jt,i∈jx) (hJ:J=Au Γl (jt++(jc++jf)))
    (h:tE K Γ 1 (Kg jx Γ1 Γl) (js++(jt++(jc++jf))) (Oc src ft J c f) σ H Q):FJ (tI K Γ Γ1 js src) jx g (tT K Γt Γc jc c) (tE K Γc 0 Γf jf f) σ H Q:=by
  obtain ⟨g0,m,P,r,R,k,res,e,q⟩:=h;refine ⟨g0,m,P,r,R,_,res,e,fun ds m1 g1 P1 H1 I hk ag s r1 yl=>?_⟩;obtain ⟨hz,hk⟩:=Eu hk;obtain ⟨p,e1,e2⟩:=bind_some' hk;refine Ey ht hbl hwf hwc hsx hJ hz r1 yl (fun ds t ya=>∃ yb,p.1=ya++yb/\Oh _ ds t=some (yb,p.2)) ⟨p.1,rfl,e1⟩ (fun t ya ⟨yb,h1,h2⟩=>?_) (fun d ds t ya ⟨yb,h1,h2⟩=>?_) fun d m' g' P' Pv v H' hk ag' s'=>q d m' g' P' Pv v H' hk (ag.trans ag') (s.trans s')
  · simp only [Oh,Option.some.injEq,Prod.mk.injEq] at h2;obtain ⟨rfl,rfl⟩:=h2;rw [mU] at h1;rw [<- h1];exact e2
  · obtain ⟨x,h3,h4⟩:=bind_some' h2;obtain ⟨yc,h5,h6⟩:=bind_some' h4;simp only [Option.some.injEq,Prod.mk.injEq] at h6;obtain ⟨rfl,h7⟩:=h6;refine ⟨_,fun x m4=>some (some x,Aa J m4),fun m3=>some (none,Aa J m3),x,h3,(fun y m' hk=>?_),fun m' hk=>?_⟩
    · cases hk;exact ⟨yc.1,by rw [h1,mN];rfl,by rw [<- h7];exact h5⟩
    · cases hk;exact ⟨yc.1,h1,by rw [<- h7];exact h5⟩
end
end R
namespace L2
open PySem PySem.Spec PyProof.Rows
theorem FE {a b:Nat} (h:a≠b):@Ne Addr a b:=h
def Ht (h:Heap) (it l:Addr) (i:Nat):Bool->Prop
 | false=>h.IsListIter it l i
 | true=>h.IsTupleIter it l i
def Hu (h:Heap) (l:Addr) (xs:Array Value):Bool->Prop
 | false=>h.IsList l xs
 | true=>h.IsTuple l xs
noncomputable def OQ (l:Addr):Bool->Obj
 | false=>{ cls:=.type "list_iterator", data:=.fields #[.ref l,.int 0 0] }
 | true=>{ cls:=.type "tuple_iterator", data:=.fields #[.ref l,.int 0 0] }
theorem Ht.at {h h':Heap} {it l:Addr} {i:Nat} {b:Bool} (x:Ht h it l i b) (k:∀ o,h.get? it=some o->h'.get? it=some o):Ht h' it l i b:=by
 cases b with
 | false=>obtain ⟨o,e,r⟩:=x;exact ⟨o,k o e,r⟩
 | true=>obtain ⟨o,e,r⟩:=x;exact ⟨o,k o e,r⟩
theorem Hu.at {h h':Heap} {l:Addr} {xs:Array Value} {b:Bool} (x:Hu h l xs b) (k:∀ o,h.get? l=some o->h'.get? l=some o):Hu h' l xs b:=by
 cases b with
 | false=>obtain ⟨o,e,r⟩:=x;exact ⟨o,k o e,r⟩
 | true=>obtain ⟨o,e,r⟩:=x;exact ⟨o,k o e,r⟩
theorem Ht.obj {h:Heap} {it l:Addr} {i:Nat} {b:Bool} (x:Ht h it l i b):∃ o,h.get? it=some o/\∀ v,o.data≠.cell v:=by
 cases b with
 | false=>obtain ⟨o,e,c,d⟩:=x;exact ⟨o,e,fun v z=>by rw [d] at z;cases z⟩
 | true=>obtain ⟨o,e,c,d⟩:=x;exact ⟨o,e,fun v z=>by rw [d] at z;cases z⟩
theorem Ht.new {h:Heap} {l:Addr} {b:Bool}:Ht (h.push (OQ l b)) h.objs.size l 0 b:=by
 cases b with
 | false=>exact ⟨_,lT _ rfl,rfl,rfl⟩
 | true=>exact ⟨_,lT _ rfl,rfl,rfl⟩
section
variable {prog:Program} {w:World} {A:Around} {E:Value->Shared->Prop} {s:Shared}
theorem IH {l:Addr} {xs:Array Value} {b:Bool} {Q:Value->Shared->Prop} (hl:Hu s.heap l xs b) (hQ:Q (.ref s.heap.objs.size) { s with heap:=s.heap.push (OQ l b) }):wpAny (model prog w) A (pyIter (.ref l)) Q E s:=by
 cases b with
 | false=>exact wpAny_pyIter_list hl hQ
 | true=>exact wpAny_pyIter_tuple hl hQ
theorem JH {it l:Addr} {i:Nat} {items:Array Value} {x:Value} {b:Bool} {Q:Value->Shared->Prop} (hit:Ht s.heap it l i b) (hl:Hu s.heap l items b) (hx:items[i]?=some x)
    (hQ:∀ h',Ht h' it l (i+1) b->Heap.SameBut it s.heap h'->Q x { s with heap:=h' }):wpAny (model prog w) A (Builtin.SmallTypes.nextOf (.ref it)) Q E s:=by
  cases b with
  | false=>exact wpAny_nextOf_list_item hit hl hx hQ
  | true =>
    obtain ⟨o,ho,hc,hd⟩:=id hit;obtain ⟨ol,hol,_,nl,hdl⟩:=hl
    have ht:s.TypeIs (.ref it) "tuple_iterator" := ⟨o,ho,hc⟩
    unfold Builtin.SmallTypes.nextOf
    refine wpAny_bind (wpAny_callSpecial?_slot (name:=Str.ofString "__next__") ht F.slot_tuple_iterator_next
      (wpAny_call_entry F.slot_tuple_iterator_next ht F.entry_tuple_iterator_next ?_ (F.args_tuple_iterator_next_1 _)))
    show wpAny _ _ (field (.ref it) 0 >>= _) _ _ s;refine wpAny_bind (wpAny_field ho hd (x:=.ref l) rfl ?_);show wpAny _ _ (if (Value.ref l == Value.none)=true then _ else _) _ _ s;rw [if_neg (show ¬ ((Value.ref l == Value.none)=true) from lV)];show wpAny _ _ (field (.ref it) 1 >>= _) _ _ s;refine wpAny_bind (wpAny_field ho hd (x:=.int i 0) rfl ?_);show wpAny _ _ (seqItems? (.ref l) >>= _) _ _ s;refine wpAny_bind (wpAny_seqItems hol hdl ?_);simp only [oB,hx];refine wpAny_bind (wpAny_setField ho hd (by simp) (wpAny_pure ⟨x,rfl,wpAny_pure (hQ _ ?_ (Heap.SameBut.update ..))⟩));exact ⟨_,mV _ ho (Obj.isFreed_of_fields (Obj.data_mapFields hd _)),(Obj.cls_mapFields ..).trans hc,by
      rw [Obj.data_mapFields hd];simp [rawInt]⟩
theorem Rx {it l:Addr} {i:Nat} {items:Array Value} {b:Bool} {Q:Value->Shared->Prop} (hh:A.handled=none) (hit:Ht s.heap it l i b) (hl:Hu s.heap l items b) (hx:items[i]?=none)
    (hE:∀ h' e,Heap.ExtBut it s.heap h'->(∃ o,h'.get? e=some o/\o.cls=.type "StopIteration")->E (.ref e) { s with heap:=h' }):wpAny (model prog w) A (Builtin.SmallTypes.nextOf (.ref it)) Q E s:=by
  cases b with
  | false=>exact wpAny_nextOf_list_end hh hit hl hx hE
  | true =>
    obtain ⟨o,ho,hc,hd⟩:=id hit;obtain ⟨ol,hol,_,nl,hdl⟩:=hl
    have ht:s.TypeIs (.ref it) "tuple_iterator" := ⟨o,ho,hc⟩
    unfold Builtin.SmallTypes.nextOf
    refine wpAny_bind (wpAny_callSpecial?_slot (name:=Str.ofString "__next__") ht F.slot_tuple_iterator_next
      (wpAny_call_entry F.slot_tuple_iterator_next ht F.entry_tuple_iterator_next ?_ (F.args_tuple_iterator_next_1 _)))
    show wpAny _ _ (field (.ref it) 0 >>= _) _ _ s;refine wpAny_bind (wpAny_field ho hd (x:=.ref l) rfl ?_);show wpAny _ _ (if (Value.ref l == Value.none)=true then _ else _) _ _ s;rw [if_neg (show ¬ ((Value.ref l == Value.none)=true) from lV)];show wpAny _ _ (field (.ref it) 1 >>= _) _ _ s;refine wpAny_bind (wpAny_field ho hd (x:=.int i 0) rfl ?_);show wpAny _ _ (seqItems? (.ref l) >>= _) _ _ s;refine wpAny_bind (wpAny_seqItems hol hdl ?_);simp only [oB,hx];refine wpAny_bind (wpAny_rule (wpAny_bind (wpAny_setField ho hd (by simp) ?_)))
    show wpAny _ _ (newExc (.type "StopIteration") [] >>= _) _ _ _
    refine wpAny_bind ?_;simp only [newExc,newTuple];refine wpAny_bind (wpAny_newObj_type ?_ (by size_fits));refine wpAny_bind (m:=firstArgMember _ _) (wpAny_of_eq (a:=Value.none) (by first | rfl | (simp only [firstArgMember];rfl)) ?_);refine wpAny_newObj_type ?_ (by size_fits);simp only [raiseNew];refine wpAny_bind (wpAny_handled ?_)
    first | rw [show A.in1.handled=none from hh] | rw [hh]
    refine wpAny_bind (wpAny_pure (wpAny_throw ?_));exact hE _ _ (((Heap.SameBut.update ..).extBut.push _).push _) ⟨_,lT _ rfl,rfl⟩
end
def Lo (K:W.Frag) (H:Hp) (a:Addr) (xs:List V):Bool->Prop
 | false=>CQ K H a xs
 | true=>EC K H a xs
section
variable {X:Cx} {pins:List (Addr×Obj)} {σ:St} {H:Hp} {s:Shared} {a:Addr} {xs ys:List V} {b:Bool}
theorem Inv.sqB (I:Inv X pins σ H s) (h:Lo X.K H a xs b):∃ its:List Value,AE xs its/\Hu s.heap a its.toArray b/\a < s.heap.objs.size:=by
 cases b with
 | false =>
  obtain ⟨its,r,p,_⟩:=I.list h;exact ⟨its,r,p.isList,by obtain ⟨o,n,e,_⟩:=p;exact lQ e⟩
 | true =>
  obtain ⟨its,r,p,_⟩:=I.tuple h;exact ⟨its,r,p,by obtain ⟨o,e,_⟩:=p;exact lQ e⟩
theorem Inv.sqB_inj (I:Inv X pins σ H s) (h:Lo X.K H a xs b) (h':Lo X.K H a ys b):xs=ys:=by
 cases b with
 | false=>exact I.list_inj h h'
 | true=>exact I.tuple_inj h h'
end
abbrev Ow (h:Heap) (T:Addr) (v1 v2:Value):Prop:=h.get? T=some { cls:=.type "tuple", data:=.seq #[v1,v2] }
section
variable {prog:Program} {w:World} {A:Around} {E:Value->Shared->Prop} {s:Shared}
theorem RU {T:Addr} {v1 v2 x:Value} {Q:Unit->Shared->Prop} (hT:Ow s.heap T v1 v2) (h:∀ h',Ow h' T x v2->Heap.SameBut T s.heap h'->Q () { s with heap:=h' }):wpAny (model prog w) A (updateSeq T (·.setIfInBounds 0 x)) Q E s:=by
 refine wpAny_updateSeq hT rfl (h _ ?_ (Heap.SameBut.update ..));show Heap.get? _ _=_;rw [mV _ hT rfl];simp [Obj.mapSeq]
theorem ZN {T:Addr} {v1 v2 x:Value} {Q:Unit->Shared->Prop} (hT:Ow s.heap T v1 v2) (h:∀ h',Ow h' T v1 x->Heap.SameBut T s.heap h'->Q () { s with heap:=h' }):wpAny (model prog w) A (updateSeq T (·.setIfInBounds 1 x)) Q E s:=by
 refine wpAny_updateSeq hT rfl (h _ ?_ (Heap.SameBut.update ..));show Heap.get? _ _=_;rw [mV _ hT rfl];simp [Obj.mapSeq]
structure Zst2 (h:Heap) (I:Nat) (l1 l2:Nat) (b1 b2:Bool) (i:Nat) (f0:Value):Prop where
 z:IsZip h (I+4) (I+2) (I+3) f0
 ti:Ow h (I+2) (.ref I) (.ref (I+1))
 to:∃ v1 v2,Ow h (I+3) v1 v2
 s1:Ht h I l1 i b1
 s2:Ht h (I+1) l2 i b2
theorem Zst2.at {h h':Heap} {I l1 l2:Nat} {b1 b2:Bool} {i:Nat} {f0:Value} (x:Zst2 h I l1 l2 b1 b2 i f0) (k:∀ (c:Nat) o,I<=c->c < I+5->h.get? c=some o->h'.get? c=some o):Zst2 h' I l1 l2 b1 b2 i f0:=
 ⟨k _ _ (by omega) (by omega) x.z,k _ _ (by omega) (by omega) x.ti,let ⟨v1,v2,e⟩:=x.to;⟨v1,v2,k _ _ (by omega) (by omega) e⟩,x.s1.at fun o e=>k _ o (by omega) (by omega) e,x.s2.at fun o e=>k _ o (by omega) (by omega) e⟩
theorem Oy {I l1 l2:Nat} {b1 b2:Bool} {i:Nat} {xs1 xs2:Array Value} {y1 y2:Value} {Q:Value->Shared->Prop} (hz:Zst2 s.heap I l1 l2 b1 b2 i .none) (hl1:Hu s.heap l1 xs1 b1) (lt1:l1 < I) (hl2:Hu s.heap l2 xs2 b2) (lt2:l2 < I) (hx1:xs1[i]?=some y1) (hx2:xs2[i]?=some y2)
    (hQ:∀ h',Zst2 h' I l1 l2 b1 b2 (i+1) (rawInt s.heap.objs.size)->Ow h' s.heap.objs.size y1 y2->h'.objs.size=s.heap.objs.size+1->(∀ (c:Nat) o,(c < I\/I+5<=c)->s.heap.get? c=some o->h'.get? c=some o)->Q (.ref s.heap.objs.size) { s with heap:=h' }) :
    wpAny (model prog w) A (Builtin.«zip.__next__» ⟨[.ref (I+4)],[]⟩) (fun fin s'=>∃ v,fin=.done (.ret v)/\Q v s') E s:=by
  obtain ⟨z0,ti0,⟨v1,v2,to0⟩,s10,s20⟩:=hz;show wpAny _ _ (field (.ref (I+4)) 2 >>= _) _ _ _;refine wpAny_bind (wpAny_field z0 rfl (x:=.bool false) rfl ?_);show wpAny _ _ (field (.ref (I+4)) 3 >>= _) _ _ _;refine wpAny_bind (wpAny_field z0 rfl (x:=.ref (I+2)) rfl ?_);refine wpAny_bind (wpAny_seqItems ti0 rfl ?_);show wpAny _ _ (Builtin.SmallTypes.ownedTupleIsFree (.ref (I+4)) >>= _) _ _ _;refine wpAny_bind ?_;unfold Builtin.SmallTypes.ownedTupleIsFree;refine wpAny_bind (wpAny_field z0 rfl (x:=.none) rfl (wpAny_pure ?_));simp only [if_true];refine wpAny_bind (wpAny_rule ?_);refine wpAny_bind (wpAny_field z0 rfl (x:=.ref (I+3)) rfl ?_);refine wpAny_bind (wpAny_setField_rec z0 (by simp) fun h₁ hz₁ hs₁=>?_);replace hz₁:IsZip h₁ (I+4) (I+2) (I+3) .ellipsis:=hz₁;refine wpAny_bind ?_;simp only [List.zipIdx_cons,List.zipIdx_nil,nX,oO];have g0:∀ (c:Nat) o,c≠(I+4)->s.heap.get? c=some o->h₁.get? c=some o:=fun c o c1 e=>hs₁.extBut _ _ c1 e
  have k0:∀ (c:Nat) o,c≠(I+4)->c≠(I+3)->(c < I\/I<=c)->s.heap.get? c=some o->h₁.get? c=some o:=fun c o c1 _ _ e=>g0 c o c1 e
  have to1:Ow h₁ (I+3) v1 v2:=g0 _ _ (by omega) to0;refine wpAny_bind (wpAny_bind (wpAny_onRaise ?_));show wpAny _ _ (Builtin.SmallTypes.nextOf (.ref I) >>= _) _ _ _;refine wpAny_bind (JH (s10.at fun o e=>k0 _ o (by omega) (by omega) (by omega) e) (hl1.at fun o e=>k0 _ o (by omega) (by omega) (by omega) e) hx1 fun p1 si1 sp1=>wpAny_pure ?_);have u1:Ow p1 (I+3) v1 v2:=sp1.extBut _ _ (FE (by omega)) to1;refine wpAny_bind (wpAny_seqItems u1 rfl ?_);refine wpAny_bind (RU u1 fun q1 to2 sq1=>?_);have k1:∀ (c:Nat) o,c≠(I+4)->c≠(I+3)->(c < I\/I+1<=c)->s.heap.get? c=some o->q1.get? c=some o:=fun c o c1 c2 c3 e=>sq1.extBut _ _ c2 (sp1.extBut _ _ (FE (by omega)) (k0 c o c1 c2 (by omega) e))
  have zz1:IsZip q1 (I+4) (I+2) (I+3) .ellipsis:=sq1.extBut _ _ (FE (by omega)) (sp1.extBut _ _ (FE (by omega)) hz₁);have w1_1:Ht q1 I l1 (i+1) b1:=si1.at fun o e=>sq1.extBut _ _ (FE (by omega)) e
  refine wpAny_bind (wpAny_letGo (wpAny_pure ?_));refine wpAny_bind (wpAny_bind (wpAny_onRaise ?_));show wpAny _ _ (Builtin.SmallTypes.nextOf (.ref (I+1)) >>= _) _ _ _;refine wpAny_bind (JH (s20.at fun o e=>k1 _ o (by omega) (by omega) (by omega) e) (hl2.at fun o e=>k1 _ o (by omega) (by omega) (by omega) e) hx2 fun p2 si2 sp2=>wpAny_pure ?_);have u2:Ow p2 (I+3) y1 v2:=sp2.extBut _ _ (FE (by omega)) to2;refine wpAny_bind (wpAny_seqItems u2 rfl ?_);refine wpAny_bind (ZN u2 fun q2 to3 sq2=>?_);have k2:∀ (c:Nat) o,c≠(I+4)->c≠(I+3)->(c < I\/I+2<=c)->s.heap.get? c=some o->q2.get? c=some o:=fun c o c1 c2 c3 e=>sq2.extBut _ _ c2 (sp2.extBut _ _ (FE (by omega)) (k1 c o c1 c2 (by omega) e))
  have zz2:IsZip q2 (I+4) (I+2) (I+3) .ellipsis:=sq2.extBut _ _ (FE (by omega)) (sp2.extBut _ _ (FE (by omega)) zz1);have w2_2:Ht q2 (I+1) l2 (i+1) b2:=si2.at fun o e=>sq2.extBut _ _ (FE (by omega)) e
  have w1_2:Ht q2 I l1 (i+1) b1:=w1_1.at fun o e=>sq2.extBut _ _ (FE (by omega)) (sp2.extBut _ _ (FE (by omega)) e)
  refine wpAny_bind (wpAny_letGo (wpAny_pure (wpAny_pure ?_)));refine wpAny_bind (wpAny_seqItems to3 rfl ?_);refine wpAny_bind (wpAny_newTuple ?_);have hsz:q2.objs.size=s.heap.objs.size:=by rw [sq2.1,sp2.1,sq1.1,sp1.1,hs₁.1]
  have zlt:(I+4) < q2.objs.size:=lQ zz2;show wpAny _ _ (Builtin.SmallTypes.ownedTupleHandOut (.ref (I+4)) (.ref q2.objs.size) >>= _) _ _ _;refine wpAny_bind ?_;unfold Builtin.SmallTypes.ownedTupleHandOut
  have z6:IsZip (q2.push { cls:=.type "tuple", data:=.seq #[y1,y2] }) (I+4) (I+2) (I+3) .ellipsis:=lC _ zz2
  refine wpAny_bind (wpAny_setField_rec z6 (by simp) fun h₇ hz₇ hs₇=>?_);replace hz₇:IsZip h₇ (I+4) (I+2) (I+3) (rawInt q2.objs.size):=hz₇;refine wpAny_setField_rec hz₇ (by simp) fun h₈ hz₈ hs₈=>?_
  replace hz₈:IsZip h₈ (I+4) (I+2) (I+3) (rawInt q2.objs.size):=hz₈;have up:∀ (c:Nat) o,c≠(I+4)->q2.get? c=some o->h₈.get? c=some o:=fun c o c1 e=>hs₈.extBut _ _ c1 (hs₇.extBut _ _ c1 (lC _ e))
  have hT₈:Ow h₈ q2.objs.size y1 y2:=hs₈.extBut _ _ (FE (by omega)) (hs₇.extBut _ _ (FE (by omega)) (lT _ rfl));have hz8:h₈.objs.size=q2.objs.size+1:=by rw [hs₈.1,hs₇.1,mS]
  rw [hsz] at hz₈ hT₈ hz8;refine wpAny_pure ⟨_,rfl,?_⟩;show Q (.ref q2.objs.size) _;rw [hsz];exact hQ h₈ ⟨hz₈,up _ _ (by omega) (k2 _ _ (by omega) (by omega) (by omega) ti0),⟨y1,y2,up _ _ (by omega) to3⟩,w1_2.at fun o e=>up _ o (by omega) e,w2_2.at fun o e=>up _ o (by omega) e⟩ hT₈ hz8 fun c o hc e=>up c o (by omega) (k2 c o (by omega) (by omega) (by omega) e)
theorem RO {I l1 l2:Nat} {b1 b2:Bool} {i:Nat} {xs1 xs2:Array Value} {Q:Fin->Shared->Prop} (hh:A.handled=none) (hz:Zst2 s.heap I l1 l2 b1 b2 i .none) (hl1:Hu s.heap l1 xs1 b1) (lt1:l1 < I) (hl2:Hu s.heap l2 xs2 b2) (lt2:l2 < I) (hend:xs1[i]?=none\/xs2[i]?=none)
    (hE:∀ h' e,(∀ (c:Nat) o,(c < I\/I+5<=c)->s.heap.get? c=some o->h'.get? c=some o)->(∃ o,h'.get? e=some o/\o.cls=.type "StopIteration")->E (.ref e) { s with heap:=h' }) :
    wpAny (model prog w) A (Builtin.«zip.__next__» ⟨[.ref (I+4)],[]⟩) Q E s:=by
  obtain ⟨z0,ti0,⟨v1,v2,to0⟩,s10,s20⟩:=hz;show wpAny _ _ (field (.ref (I+4)) 2 >>= _) _ _ _;refine wpAny_bind (wpAny_field z0 rfl (x:=.bool false) rfl ?_);show wpAny _ _ (field (.ref (I+4)) 3 >>= _) _ _ _;refine wpAny_bind (wpAny_field z0 rfl (x:=.ref (I+2)) rfl ?_);refine wpAny_bind (wpAny_seqItems ti0 rfl ?_);show wpAny _ _ (Builtin.SmallTypes.ownedTupleIsFree (.ref (I+4)) >>= _) _ _ _;refine wpAny_bind ?_;unfold Builtin.SmallTypes.ownedTupleIsFree;refine wpAny_bind (wpAny_field z0 rfl (x:=.none) rfl (wpAny_pure ?_));simp only [if_true];refine wpAny_bind (wpAny_rule ?_);refine wpAny_bind (wpAny_field z0 rfl (x:=.ref (I+3)) rfl ?_);refine wpAny_bind (wpAny_setField_rec z0 (by simp) fun h₁ hz₁ hs₁=>?_);replace hz₁:IsZip h₁ (I+4) (I+2) (I+3) .ellipsis:=hz₁;refine wpAny_bind ?_;simp only [List.zipIdx_cons,List.zipIdx_nil,nX,oO];have g0:∀ (c:Nat) o,c≠(I+4)->s.heap.get? c=some o->h₁.get? c=some o:=fun c o c1 e=>hs₁.extBut _ _ c1 e
  have k0:∀ (c:Nat) o,c≠(I+4)->c≠(I+3)->(c < I\/I<=c)->s.heap.get? c=some o->h₁.get? c=some o:=fun c o c1 _ _ e=>g0 c o c1 e
  have to1:Ow h₁ (I+3) v1 v2:=g0 _ _ (by omega) to0;have zz0:IsZip h₁ (I+4) (I+2) (I+3) .ellipsis:=hz₁;refine wpAny_bind (wpAny_bind (wpAny_onRaise ?_));show wpAny _ _ (Builtin.SmallTypes.nextOf (.ref I) >>= _) _ _ _;cases hx1:xs1[i]? with
  | none =>
    refine wpAny_bind (Rx hh (s10.at fun o e=>k0 _ o (by omega) (by omega) (by omega) e) (hl1.at fun o e=>k0 _ o (by omega) (by omega) (by omega) e) hx1 fun h₂ e hs₂ he=>?_);obtain ⟨oe,hoe,hce⟩:=he;have hz₂:IsZip h₂ (I+4) (I+2) (I+3) .ellipsis:=hs₂ _ _ (FE (by omega)) zz0;have hez:e≠(I+4):=fun x=>by subst x;rw [hz₂] at hoe;cases hoe;simp at hce
    exact wpAny_setField_rec hz₂ (by simp) fun h₃ _ hs₃=>hE h₃ e (fun c o hc x=>hs₃.extBut _ _ (FE (by omega)) (hs₂ _ _ (FE (by omega)) (k0 c o (by omega) (by omega) (by omega) x))) ⟨oe,hs₃.extBut _ _ hez hoe,hce⟩
  | some y1 =>
    refine wpAny_bind (JH (s10.at fun o e=>k0 _ o (by omega) (by omega) (by omega) e) (hl1.at fun o e=>k0 _ o (by omega) (by omega) (by omega) e) hx1 fun p1 si1 sp1=>wpAny_pure ?_);have u1:Ow p1 (I+3) v1 v2:=sp1.extBut _ _ (FE (by omega)) to1;refine wpAny_bind (wpAny_seqItems u1 rfl ?_);refine wpAny_bind (RU u1 fun q1 to2 sq1=>?_);have k1:∀ (c:Nat) o,c≠(I+4)->c≠(I+3)->(c < I\/I+1<=c)->s.heap.get? c=some o->q1.get? c=some o:=fun c o c1 c2 c3 e=>sq1.extBut _ _ c2 (sp1.extBut _ _ (FE (by omega)) (k0 c o c1 c2 (by omega) e))
    have zz1:IsZip q1 (I+4) (I+2) (I+3) .ellipsis:=sq1.extBut _ _ (FE (by omega)) (sp1.extBut _ _ (FE (by omega)) zz0);refine wpAny_bind (wpAny_letGo (wpAny_pure ?_));refine wpAny_bind (wpAny_bind (wpAny_onRaise ?_));show wpAny _ _ (Builtin.SmallTypes.nextOf (.ref (I+1)) >>= _) _ _ _;cases hx2:xs2[i]? with
    | none =>
      refine wpAny_bind (Rx hh (s20.at fun o e=>k1 _ o (by omega) (by omega) (by omega) e) (hl2.at fun o e=>k1 _ o (by omega) (by omega) (by omega) e) hx2 fun h₂ e hs₂ he=>?_);obtain ⟨oe,hoe,hce⟩:=he;have hz₂:IsZip h₂ (I+4) (I+2) (I+3) .ellipsis:=hs₂ _ _ (FE (by omega)) zz1;have hez:e≠(I+4):=fun x=>by subst x;rw [hz₂] at hoe;cases hoe;simp at hce
      exact wpAny_setField_rec hz₂ (by simp) fun h₃ _ hs₃=>hE h₃ e (fun c o hc x=>hs₃.extBut _ _ (FE (by omega)) (hs₂ _ _ (FE (by omega)) (k1 c o (by omega) (by omega) (by omega) x))) ⟨oe,hs₃.extBut _ _ hez hoe,hce⟩
    | some y2 =>
      simp [hx1,hx2] at hend
theorem Fo {I l1 l2:Nat} {b1 b2:Bool} {i:Nat} {xs1 xs2:Array Value} {y1 y2:Value} {Q:Option Value->Shared->Prop} (hz:Zst2 s.heap I l1 l2 b1 b2 i .none) (hl1:Hu s.heap l1 xs1 b1) (lt1:l1 < I) (hl2:Hu s.heap l2 xs2 b2) (lt2:l2 < I) (hx1:xs1[i]?=some y1) (hx2:xs2[i]?=some y2)
    (hQ:∀ h',Zst2 h' I l1 l2 b1 b2 (i+1) (rawInt s.heap.objs.size)->Ow h' s.heap.objs.size y1 y2->h'.objs.size=s.heap.objs.size+1->(∀ (c:Nat) o,(c < I\/I+5<=c)->s.heap.get? c=some o->h'.get? c=some o)->Q (some (.ref s.heap.objs.size)) { s with heap:=h' }) :
    wpAny (model prog w) A (pyNext (.ref (I+4))) Q E s:=by
  have hT:s.TypeIs (.ref (I+4)) "zip" := ⟨_,hz.z,rfl⟩
  unfold pyNext
  exact wpAny_bind (wpAny_attempt (wpAny_callSpecial?_slot (name:=Str.ofString "__next__") hT F.slot_zip_next
    (wpAny_call_entry F.slot_zip_next hT F.entry_zip_next (Oy hz hl1 lt1 hl2 lt2 hx1 hx2 fun h' a1 a2 a3 a4=>wpAny_pure (hQ h' a1 a2 a3 a4)) (F.args_zip_next_1 _))))
theorem GO {I l1 l2:Nat} {b1 b2:Bool} {i:Nat} {xs1 xs2:Array Value} {Q:Option Value->Shared->Prop} (hh:A.handled=none) (hz:Zst2 s.heap I l1 l2 b1 b2 i .none) (hl1:Hu s.heap l1 xs1 b1) (lt1:l1 < I) (hl2:Hu s.heap l2 xs2 b2) (lt2:l2 < I) (hend:xs1[i]?=none\/xs2[i]?=none)
    (hQ:∀ h',(∀ (c:Nat) o,(c < I\/I+5<=c)->s.heap.get? c=some o->h'.get? c=some o)->Q none { s with heap:=h' }) :
    wpAny (model prog w) A (pyNext (.ref (I+4))) Q E s:=by
  have hT:s.TypeIs (.ref (I+4)) "zip" := ⟨_,hz.z,rfl⟩
  unfold pyNext
  refine wpAny_bind (wpAny_attempt (wpAny_callSpecial?_slot (name:=Str.ofString "__next__") hT F.slot_zip_next
    (wpAny_call_entry F.slot_zip_next hT F.entry_zip_next (RO hh hz hl1 lt1 hl2 lt2 hend fun h' e hk he=>?_) (F.args_zip_next_1 _))))
  obtain ⟨o,ho,hc⟩:=he
  refine wpAny_bind (wpAny_isInstance (T := "StopIteration") (b:=true) ⟨o,ho,hc⟩ isSubtype_stop ?_)
  exact wpAny_pure (hQ _ hk)
abbrev Hy (h:Heap) (l1 l2:Nat) (b1 b2:Bool):Heap:=h.push (OQ l1 b1)
abbrev Na (h:Heap) (l1 l2:Nat) (b1 b2:Bool):Heap:=(Hy h l1 l2 b1 b2).push (OQ l2 b2)
abbrev NZ (h:Heap) (l1 l2:Nat) (b1 b2:Bool):Heap:=(Na h l1 l2 b1 b2).push { cls:=.type "tuple", data:=.seq #[.ref h.objs.size,.ref (Hy h l1 l2 b1 b2).objs.size] }
abbrev NY (h:Heap) (l1 l2:Nat) (b1 b2:Bool):Heap:=(NZ h l1 l2 b1 b2).push { cls:=.type "tuple", data:=.seq #[.none,.none] }
abbrev Gd (h:Heap) (l1 l2:Nat) (b1 b2:Bool):Heap:=(NY h l1 l2 b1 b2).push { cls:=.type "zip", data:=.fields #[.none,.bool false,.bool false,.ref (Na h l1 l2 b1 b2).objs.size,.ref (NZ h l1 l2 b1 b2).objs.size] }
theorem MX (l1 l2:Nat) (b1 b2:Bool) (xs1 xs2:Array Value) :
    Meets (Builtin.«zip.__new__» ⟨[.type "zip", .ref l1,.ref l2],[]⟩) (fun _ R s=>Hu s.heap l1 xs1 b1/\Hu s.heap l2 xs2 b2 /\
      R (.ok (.ret (.ref (NY s.heap l1 l2 b1 b2).objs.size))) { s with heap:=Gd s.heap l1 l2 b1 b2 }):=
  .of_wp fun prog w A R s h=>by
    obtain ⟨hp,g,d,tk,os⟩:=s;obtain ⟨hl1,hl2,h⟩:=h;have hsub:=sub_zip;have hL1:Hu (Shared.heap ⟨hp,g,d,tk,os⟩) l1 xs1 b1:=hl1.at fun o e=>e
    have hL2:Hu (Shared.heap ⟨(Hy hp l1 l2 b1 b2),g,d,tk,os⟩) l2 xs2 b2:=hl2.at fun o e=>lC _ e
    wp_walk using IH hL1,IH hL2
    exact ⟨_,rfl,h⟩
theorem Qf {l1 l2:Nat} {b1 b2:Bool} {xs1 xs2:Array Value} {Q:Value->Shared->Prop} (hl1:Hu s.heap l1 xs1 b1) (hl2:Hu s.heap l2 xs2 b2)
    (h:∀ h',Zst2 h' s.heap.objs.size l1 l2 b1 b2 0 .none->h'.objs.size=s.heap.objs.size+5->(∀ (c:Nat) o,s.heap.get? c=some o->h'.get? c=some o)->Q (.ref (s.heap.objs.size+4)) { s with heap:=h' }) :
    wpAny (model prog w) A (call (.type "zip") [.ref l1,.ref l2]) Q E s:=by
  refine callType_new F.called_zip (by decide) (F.typeCall_zip_2 _ _) (F.newCall_zip_2 _ _) (fun obj=>F.args_object_init_3 obj _ _) F.entry_zip_new (MX l1 l2 b1 b2 xs1 xs2) ⟨hl1,hl2,?_⟩;have z1:(Hy s.heap l1 l2 b1 b2).objs.size=s.heap.objs.size+1:=by exact mS ..
  have z2:(Na s.heap l1 l2 b1 b2).objs.size=s.heap.objs.size+2:=by rw [mS,z1]
  have z3:(NZ s.heap l1 l2 b1 b2).objs.size=s.heap.objs.size+3:=by rw [mS,z2]
  have z4:(NY s.heap l1 l2 b1 b2).objs.size=s.heap.objs.size+4:=by rw [mS,z3]
  have z5:(Gd s.heap l1 l2 b1 b2).objs.size=s.heap.objs.size+5:=by rw [mS,z4]
  have gz:(Gd s.heap l1 l2 b1 b2).get? (NY s.heap l1 l2 b1 b2).objs.size=some _:=lT _ rfl;have gto:(Gd s.heap l1 l2 b1 b2).get? (NZ s.heap l1 l2 b1 b2).objs.size=some _:=(lC _ (lT _ rfl));have gti:(Gd s.heap l1 l2 b1 b2).get? (Na s.heap l1 l2 b1 b2).objs.size=some _:=(lC _ (lC _ (lT _ rfl)));have gs1:Ht (Gd s.heap l1 l2 b1 b2) s.heap.objs.size l1 0 b1:=Ht.at (Ht.new (h:=s.heap)) fun o e=>(lC _ (lC _ (lC _ (lC _ e))))
  have gs2:Ht (Gd s.heap l1 l2 b1 b2) (Hy s.heap l1 l2 b1 b2).objs.size l2 0 b2:=Ht.at (Ht.new (h:=(Hy s.heap l1 l2 b1 b2))) fun o e=>(lC _ (lC _ (lC _ e)))
  show _/\_;rw [z2,z3,z4] at gz;rw [z3] at gto;rw [z1,z2] at gti;rw [z1] at gs2;rw [z4];exact ⟨⟨_,gz,rfl⟩,h _ ⟨gz,gti,⟨_,_,gto⟩,gs1,gs2⟩ z5 fun c o x=>(lC _ (lC _ (lC _ (lC _ (lC _ x)))))⟩
end
theorem Yc {I b:Nat} (h:¬ b∈([(I+4),(I+2),(I+3),I,(I+1)]:List Nat)):b < I\/I+5<=b:=by simp only [lO,mM,or_false,not_or] at h;omega
theorem gH {I b:Nat} (h:b∈([(I+4),(I+2),(I+3),I,(I+1)]:List Nat)):I<=b/\b < I+5:=by simp only [lO,mM,or_false] at h;omega
def VU (K:W.Frag) (a1 a2:Nat) (b1 b2:Bool):It:=
 ⟨fun i H=>∃ xs1 xs2 y1 y2,Lo K H a1 xs1 b1/\xs1[i]?=some y1/\Lo K H a2 xs2 b2/\xs2[i]?=some y2,fun i H x H'=>∃ p y1 y2,H p=none/\x=.ref p/\H'=upd H p (.tup [y1,y2])/\(∀ xs,Lo K H a1 xs b1->xs[i]?=some y1)/\(∀ xs,Lo K H a2 xs b2->xs[i]?=some y2),fun i H=>∃ xs1 xs2,Lo K H a1 xs1 b1/\Lo K H a2 xs2 b2/\(xs1.length<=i\/xs2.length<=i)⟩
theorem PC {P:Program} {w:World} {K:W.Frag} {elts:List Expr} {x1} {pos:Pos} (I a1 a2:Nat) (b1 b2:Bool) (lt1:a1 < I) (lt2:a2 < I):Turn P w K (.Tuple elts x1 pos) (VU K a1 a2 b1 b2) [(I+4),(I+2),(I+3),I,(I+1)] (I+4) (fun i h=>Zst2 h I a1 a2 b1 b2 i .none) where
 mem:=by simp
 obj:=fun i h st b hb=>by
  obtain ⟨z0,ti0,⟨v1,v2,to0⟩,s10,s20⟩:=st;simp only [lO,mM,or_false] at hb;rcases hb with rfl | rfl | rfl | rfl | rfl
  ·exact ⟨_,z0,fun v z=>by cases z⟩
  ·exact ⟨_,ti0,fun v z=>by cases z⟩
  ·exact ⟨_,to0,fun v z=>by cases z⟩
  ·exact s10.obj
  ·exact s20.obj
 keep:=fun i h h' st k=>st.at fun c o c1 c2 e=>k c (by show c∈([(I+4),(I+2),(I+3),I,(I+1)]:List Nat);simp only [lO,mM,or_false];omega) o e
 item:=by
  intro X hP hw hK hc i pins s σ H E I1 hf st hg;subst hP hw hK;obtain ⟨ws1,ws2,y1,y2,hq1,hy1,hq2,hy2⟩:=hg;obtain ⟨its1,rv1,p1,hl1⟩:=I1.sqB hq1;obtain ⟨u1,hu1,ru1⟩:=rv1.get hy1;obtain ⟨its2,rv2,p2,hl2⟩:=I1.sqB hq2;obtain ⟨u2,hu2,ru2⟩:=rv2.get hy2;refine Fo st p1 lt1 p2 lt2 (y1:=u1) (y2:=u2) (by simpa using hu1) (by simpa using hu2) fun h1 st1 t1 z1 k1=>?_
  refine ⟨_,rfl,wpAny_letOwnedTupleGo_zip (s:={ s with heap:=h1 }) st1.z fun h2 e2 sb=>?_⟩;have hzl:(I+4) < s.heap.objs.size:=lQ st.z;have hfr:=I1.hok.fresh (lJ s.heap.objs.size)
  have I2:Inv X pins σ (upd H s.heap.objs.size (.tup [y1,y2])) { s with heap:=s.heap.push { cls:=.type "tuple", data:=.seq #[u1,u2] },toks:=s.toks }:=
   I1.laid (fun b o q=>lC _ q) (lJ _) (show AZ X.prog X.w _ _ _ (.tup [y1,y2]) from ⟨by show 2<=sizeLine;decide,[u1,u2],(.cons ru1 (.cons ru2 .nil)),GS.new _ _⟩)
  have hb:∀ b∈([(I+4),(I+2),(I+3),I,(I+1)]:List Nat),I<=b/\b < I+5:=fun b hb=>gH hb
  have hf1:∀ b∈([(I+4),(I+2),(I+3),I,(I+1)]:List Nat),FpOk X pins (upd H s.heap.objs.size (.tup [y1,y2])) b:=fun b hbb=>by
   obtain ⟨f0,r⟩:=hf b hbb;refine ⟨?_,r⟩;rw [AU (lq (lU (hb b hbb).2 (by omega)))];exact f0
  have I3:Inv X pins σ (upd H s.heap.objs.size (.tup [y1,y2])) { s with heap:=h2,toks:=s.toks }:=by
   refine Inv.turnedL (s:={ s with heap:=s.heap.push { cls:=.type "tuple", data:=.seq #[u1,u2] },toks:=s.toks }) (h':=h2) (t':=s.toks) (ch:=[(I+4),(I+2),(I+3),I,(I+1)]) I2 (fun b o hbb q=>?_) hf1
   have q:(s.heap.push { cls:=.type "tuple", data:=.seq #[u1,u2] }).get? b=some o:=q
   have hbe:b≠(I+4):=fun z=>hbb (by simp [z])
   refine (sb.2 b hbe).trans ?_
   by_cases hbs:b=s.heap.objs.size
   ·subst hbs;rw [lT _ rfl] at q;rw [<- q];exact t1
   ·rw [Heap.get?_push_ne _ _ _ hbs] at q;exact k1 b o (Yc hbb) q
  refine ⟨.ref s.heap.objs.size,_,I3,rfl,⟨_,y1,y2,hfr,rfl,rfl,fun zs hz=>by rw [I1.sqB_inj hz hq1];exact hy1,fun zs hz=>by rw [I1.sqB_inj hz hq2];exact hy2⟩,?_,fun b hbb=>(hf1 b hbb).1⟩;exact ⟨e2,sb.extBut _ _ (FE (by omega)) st1.ti,let ⟨v1,v2,e⟩:=st1.to;⟨v1,v2,sb.extBut _ _ (FE (by omega)) e⟩,st1.s1.at fun o e=>sb.extBut _ _ (FE (by omega)) e,st1.s2.at fun o e=>sb.extBut _ _ (FE (by omega)) e⟩
 done:=by
  intro X hP hw hK hc i pins s σ H E I1 hf st hg;subst hP hw hK;obtain ⟨ws1,ws2,hq1,hq2,hend⟩:=hg;obtain ⟨its1,rv1,p1,hl1⟩:=I1.sqB hq1;have le1:=rv1.length;obtain ⟨its2,rv2,p2,hl2⟩:=I1.sqB hq2;have le2:=rv2.length;have hend2:its1.toArray[i]?=none\/its2.toArray[i]?=none:=by
   rcases hend with h | h
   ·exact .inl (by simp;omega)
   ·exact .inr (by simp;omega)
  refine GO (I1.ok.hd hc) st p1 lt1 p2 lt2 hend2 fun h' k=>⟨rfl,?_⟩
  refine Inv.turnedL (t':=s.toks) (ch:=[(I+4),(I+2),(I+3),I,(I+1)]) I1 (fun b o hbb e=>k b o (Yc hbb) e) hf
 self:=fun _ _ _ _ _ st h=>wpAny_pyIter_zip st.z h
section
variable {X:Cx} {elts:List Expr} {x1} {tpos:Pos}
abbrev gJ (K:W.Frag) (ta:TA):TI:=fun σ H R=>ta σ H fun vs H1=>∃ a1 a2 b1 b2,vs=[.ref a1,.ref a2]/\(∃ xs,Lo K H1 a1 xs b1)/\(∃ xs,Lo K H1 a2 xs b2)/\R (VU K a1 a2 b1 b2) H1
theorem WS (K:W.Frag) {e1 e2:Expr} {ta:TA} {p pos:Pos} (hg:Gl X "zip") (hm:X.mg "zip" = none) (ha:PA X [e1,e2] ta) (hK:X.K=K:=by rfl) (hs:starEach (e1::[e2]) X.env=(false,eval e1 X.env)::starEach [e2] X.env:=by rfl) (hpl:(backTo pos (starEach [e2] X.env)).any (·.1)=false:=by rfl):PI X (.Tuple elts x1 tpos) (.Call (.Name "zip" p) [e1,e2] [] pos) (gJ K ta):=by
 subst hK;intro pins s σ H R I h;refine Call_ (Bi I hg hm PyProof.Rows.Boot.«zip» (mD (Ak (ha pos pins s σ H _ I h) fun us s1 ⟨vs,H1,I1,r1,q1⟩=>?_) hs hpl));obtain ⟨a1,a2,b1,b2,rfl,⟨ws1,hq1⟩,⟨ws2,hq2⟩,q⟩:=q1;obtain ⟨its1,rv1,p1,hl1⟩:=I1.sqB hq1;obtain ⟨its2,rv2,p2,hl2⟩:=I1.sqB hq2;have rr:=r1;clear r1;cases rr with
 | cons r1 w1 =>
  cases w1 with
  | cons r2 w2 =>
   cases w2;cases r1;cases r2;refine Qf p1 p2 fun h' st hsz hk=>?_
   refine wpAny_pyIter_zip (s:={ s1 with heap:=h' }) st.z ?_;refine ⟨s1.heap.objs.size+4,[(s1.heap.objs.size+4),(s1.heap.objs.size+2),(s1.heap.objs.size+3),s1.heap.objs.size,(s1.heap.objs.size+1)],fun i h=>Zst2 h s1.heap.objs.size a1 a2 b1 b2 i .none,VU X.K a1 a2 b1 b2,H1,rfl,I1.kept (t':=s1.toks) hk,PC s1.heap.objs.size a1 a2 b1 b2 hl1 hl2,st,fun b hb=>?_,q⟩;have hb':s1.heap.objs.size<=b:=(gH (I:=s1.heap.objs.size) hb).1;exact I1.fpOk hb' (I1.hok.fresh hb')
end
section
end
section
end
def iX (x:Str):It:=⟨fun i H=>∃ c,x.cps[i]?=some c,fun i H v H'=>H'=H/\∃ c,x.cps[i]?=some c/\v=.str ⟨#[c]⟩,fun i H=>x.cps[i]?=none⟩
theorem MB {h h':Heap} {a:Addr} {ty:String} {x:Str} {t:Tok} {i:Nat} (y:h.IsStrIter a ty x t i) (k:∀ o,h.get? a=some o->h'.get? a=some o):h'.IsStrIter a ty x t i:=
 let ⟨o,ho,r⟩:=y;⟨o,k o ho,r⟩
theorem RZ {P:Program} {w:World} {K:W.Frag} {tg:Expr} (x:Str) (t:Tok) (it:Addr):Turn P w K tg (iX x) [it] it (fun i h=>h.IsStrIter it (strIterType x) x t i) where
 mem:=by simp
 obj:=fun i h st b hb=>by
  have e:b=it:=by simpa using hb
  subst e;obtain ⟨o,e,c,d⟩:=st;exact ⟨o,e,fun v z=>by rw [d] at z;cases z⟩
 keep:=fun i h h' st k=>MB st fun o e=>k it (by simp) o e
 item:=by
  intro X hP hw hK hc i pins s σ H E I hf st hg;subst hP hw hK;obtain ⟨c,hx⟩:=hg;obtain ⟨f0,f1,f2,f3,f4,f5⟩:=hf it (by simp);have fin:∀ h':Heap,h'.IsStrIter it (strIterType x) x t (i+1)->Heap.SameBut it s.heap h'->∃ u,some (Value.str ⟨#[c]⟩ s.toks)=some u/\wpAny (model X.prog X.w) X.A (letOwnedTupleGo tg (.ref it) u) (fun _ s2=>∃ x_1 H',Inv X pins σ H' s2/\RelV x_1 u/\(iX x).yld i H x_1 H'/\s2.heap.IsStrIter it (strIterType x) x t (i+1)/\∀ b∈[it],H' b=none) E { s with heap:=h',toks:=s.toks+1 }:=fun h' st' sb=>by
   have I1:Inv X pins σ H { s with heap:=h',toks:=s.toks+1 }:=I.turned (t':=s.toks+1) (fun b o hb e=>(sb.2 b hb).trans e) f0 f1 f3 f4 f5;obtain ⟨o,e,c',d⟩:=id st';exact ⟨_,rfl,OU (s:={ s with heap:=h',toks:=s.toks+1 }) e c' d (by unfold strIterType;split<;>decide) ⟨.str ⟨#[c]⟩,H,I1,⟨_,rfl⟩,⟨rfl,c,hx,rfl⟩,st',fun b hb=>(hf b hb).1⟩⟩
  by_cases ha:x.cps.all (· < 128)=true
  ·have e:strIterType x = "str_ascii_iterator" := by unfold strIterType;rw [if_pos ha]
   rw [e] at st fin ⊢;exact wpAny_pyNext_ascii_item st hx fun h' st' sb=>fin h' st' sb
  ·have e:strIterType x = "str_iterator" := by unfold strIterType;rw [if_neg ha]
   rw [e] at st fin ⊢;exact wpAny_pyNext_wide_item st hx fun h' st' sb=>fin h' st' sb
 done:=by
  intro X hP hw hK hc i pins s σ H E I hf st hg;subst hP hw hK;obtain ⟨f0,f1,f2,f3,f4,f5⟩:=hf it (by simp)
  by_cases ha:x.cps.all (· < 128)=true
  ·have e:strIterType x = "str_ascii_iterator" := by unfold strIterType;rw [if_pos ha]
   rw [e] at st;exact wpAny_pyNext_ascii_end (I.ok.hd hc) st hg fun h' eb=>⟨rfl,I.turned (t':=s.toks) (fun b o hb e=>eb b o hb e) f0 f1 f3 f4 f5⟩
  ·have e:strIterType x = "str_iterator" := by unfold strIterType;rw [if_neg ha]
   rw [e] at st;exact wpAny_pyNext_wide_end (I.ok.hd hc) st hg fun h' eb=>⟨rfl,I.turned (t':=s.toks) (fun b o hb e=>eb b o hb e) f0 f1 f3 f4 f5⟩
 self:=fun A i s Q E st h=>by
  by_cases ha:x.cps.all (· < 128)=true
  ·have e:strIterType x = "str_ascii_iterator" := by unfold strIterType;rw [if_pos ha]
   rw [e] at st;exact wpAny_pyIter_striter_ascii st h
  ·have e:strIterType x = "str_iterator" := by unfold strIterType;rw [if_neg ha]
   rw [e] at st;exact wpAny_pyIter_striter_wide st h
section
variable {X:Cx}
abbrev gL (K:W.Frag) (tl:TE):TI:=fun σ H R=>tl σ H fun x H1=>(∃ a xs,x=.ref a/\((CQ K H1 a xs/\R (iY K a) H1)\/(EC K H1 a xs/\R (jv K a) H1)))\/∃ z,x=.str z/\R (iX z) H1
theorem WT {tg l:Expr} {tl:TE} (hl:PE X l tl):PI X tg l (gL X.K tl):=by
 intro pins s σ H R I h;refine Ak (hl pins s σ H _ I h) fun v s1 ⟨x,H1,I1,r1,q1⟩=>?_
 rcases q1 with ⟨a,xs,e,q⟩ | ⟨z,e,q⟩
 ·subst e;cases r1;rcases q with ⟨hq,q⟩ | ⟨hq,q⟩
  ·obtain ⟨its,rv,p,hz⟩:=I1.list hq;refine wpAny_pyIter_list p.isList ?_;refine ⟨s1.heap.objs.size,[s1.heap.objs.size],_,_,H1,rfl,I1.kept (t':=s1.toks) fun b o e=>lC _ e,PD a _,⟨_,lT _ rfl,rfl,rfl⟩,fun b hb=>?_,q⟩;have e:b=s1.heap.objs.size:=by simpa using hb
   subst e;exact I1.fpOk (lJ _) (I1.hok.fresh (lJ _))
  ·obtain ⟨its,rv,p,hz⟩:=I1.tuple hq;refine wpAny_pyIter_tuple (show s1.heap.IsTuple a its.toArray from p) ?_;refine ⟨s1.heap.objs.size,[s1.heap.objs.size],_,_,H1,rfl,I1.kept (t':=s1.toks) fun b o e=>lC _ e,Lv a _,⟨_,lT _ rfl,rfl,rfl⟩,fun b hb=>?_,q⟩;have e:b=s1.heap.objs.size:=by simpa using hb
   subst e;exact I1.fpOk (lJ _) (I1.hok.fresh (lJ _))
 ·subst e;obtain ⟨t,rfl⟩:=r1;refine wpAny_pyIter_strU ?_;refine ⟨s1.heap.objs.size,[s1.heap.objs.size],_,_,H1,rfl,I1.kept (t':=s1.toks) fun b o e=>lC _ e,RZ z t _,⟨_,lT _ rfl,rfl,rfl⟩,fun b hb=>?_,q⟩;have e:b=s1.heap.objs.size:=by simpa using hb
  subst e;exact I1.fpOk (lJ _) (I1.hok.fresh (lJ _))
end
section
end
section
end
section
end
section
variable {X:Cx} {p1 p2 pos1 pos2:Pos} {es:List Expr} {e:Expr} {ta:TA}
abbrev KS (ta:TA):TE:=fun σ H Q=>ta σ H fun vs H1=>∃ (i j:Int),(vs=[.int j]/\i=0\/vs=[.int i,.int j])/\(-(2 ^ 62)<=i/\i < 2 ^ 62/\-(2 ^ 62)<=j/\j < 2 ^ 62)/\(j - i).toNat<=1000000/\∀ l,H1 l=none->Q (.ref l) (upd H1 l (.lst ((List.range (j - i).toNat).map fun k=>.int (i+(k:Nat)))))
theorem IT {A:Around} {E:Value->Shared->Prop} {pins:List (Addr×Obj)} {σ:St} {H:Hp} {s:Shared} {Q:VK} {i j:Int} {t u v:Tok} {tk:Nat} (hh:A.handled=none) (I:Inv X pins σ H s) (h1:-(2 ^ 62)<=i) (h2:i < 2 ^ 62) (h3:-(2 ^ 62)<=j) (h4:j < 2 ^ 62) (hl:(j - i).toNat<=1000000)
    (q:∀ l,H l=none->Q (.ref l) (upd H l (.lst ((List.range (j - i).toNat).map fun k=>.int (i+(k:Nat)))))) :
    wpAny (model X.prog X.w) A (call (.type "list") [.ref s.heap.objs.size]) (fun v s'=>∃ x H',Inv X pins σ H' s'/\RelV x v/\Q x H') E { s with heap:=s.heap.push { cls:=.type "range", data:=.fields #[.int i t,.int j u,.int 1 v] },toks:=tk }:=by
  have hr:Builtin.Range.rangeSize i j 1=((j - i).toNat:Nat):=by rw [rangeSize_one];split<;>omega
  refine call_list_range (n:=(j - i).toNat) hh (IsRange.new ..) (small_one h1 h2 h3 h4) hr (by omega) fun h' tk' acc c' hk eh hacc=>?_
  have kp:∀ b o,s.heap.get? b=some o->h'.get? b=some o:=fun b o e=>hk b o (lC _ e)
  have hsz:(s.heap.push { cls:=.type "range", data:=.fields #[.int i t,.int j u,.int 1 v] }).objs.size=s.heap.objs.size+1:=mS ..
  have hv:AE ((List.range (j - i).toNat).map fun k=>V.int (i+(k:Nat))) acc.toList:=by
    have:∀ (n m:Nat) (l:List Value),l.length=n->(∀ (q:Nat) (v:Value),l[q]?=some v->∃ t,v=.int (i+((m+q:Nat):Int)) t)->AE ((List.range' m n).map fun k=>V.int (i+(k:Nat))) l:=by
      intro n
      induction n with
      | zero=>intro m l e _;cases l with | nil=>exact .nil | cons a b=>cases e
      | succ n ih =>
        intro m l e h;cases l with
        | nil=>cases e
        | cons a b =>
          rw [oG,lI];refine .cons ?_ (ih (m+1) b (by simpa using e) fun q v hv=>?_)
          · obtain ⟨t,rfl⟩:=h 0 a rfl;exact ⟨t,rfl⟩
          · obtain ⟨t,rfl⟩:=h (q+1) v (by simpa using hv);exact ⟨t,by rw [Nat.add_assoc,Nat.add_comm 1 q]⟩
    rw [List.range_eq_range'];refine this (j - i).toNat 0 acc.toList (by simp [hacc.1]) fun q v hv=>?_
    obtain ⟨t,e⟩:=hacc.2 q v (by simpa using hv);exact ⟨t,by rw [e];simp⟩
  refine ⟨.ref _,_,I.laid (t':=tk') kp (by rw [hsz];exact nh _) (show AZ X.prog X.w _ h' _ (.lst ((List.range (j - i).toNat).map fun k=>.int (i+(k:Nat)))) from ⟨by rw [lZ,nC];exact lR hl (show 1000000<=sizeLine by decide),acc.toList,c',hv,by rw [eh]⟩),rfl,q _ (I.hok.fresh (by rw [hsz];exact nh _))⟩
theorem MP (hc:X.calm=true) (hgL:Gl X "list") (hmL:X.mg "list" = none) (hgR:Gl X "range") (hmR:X.mg "range" = none) (ha:PA X (e::es) ta)
    (hs1:starEach [.Call (.Name "range" p2) (e::es) [] pos2] X.env=(false,eval (.Call (.Name "range" p2) (e::es) [] pos2) X.env)::starEach [] X.env:=by rfl)
    (hpl1:(backTo pos1 (starEach [] X.env)).any (·.1)=false:=by rfl)
    (hs2:starEach (e::es) X.env=(false,eval e X.env)::starEach es X.env:=by rfl) (hpl2:(backTo pos2 (starEach es X.env)).any (·.1)=false:=by rfl) :
    PE X (.Call (.Name "list" p1) [.Call (.Name "range" p2) (e::es) [] pos2] [] pos1) (KS ta):=by
  intro pins s σ H Q I h;refine wpAny_Call_Name_kw (Bi I hgL hmL PyProof.Rows.Boot.«list» ?_ (by decide) (by decide));refine mD ?_ hs1 hpl1;rw [hs1]
  show wpAny _ _ (spliced ((false,eval (.Call (.Name "range" p2) (e::es) [] pos2) X.env)::backTo pos1 (starEach [] X.env))) _ _ s
  refine Calls.spliced_cons ?_;refine wpAny_Call_Name_kw (Bi I hgR hmR boot_range ?_ (by decide) (by decide));refine mD (Ak (ha pos2 pins s σ H _ I h) fun us s1 ⟨vs,H1,I1,r1,q1⟩=>?_) hs2 hpl2;obtain ⟨i,j,ev,⟨b1,b2,b3,b4⟩,hl,q⟩:=q1;rcases ev with ⟨ev,rfl⟩ | ev
  · subst ev;cases r1 with
    | cons r rr =>
      cases rr;obtain ⟨t,rfl⟩:=r;refine call_range_1 (Calls.spliced_nil ?_);exact IT (I1.ok.hd hc) I1 b1 b2 b3 b4 hl q
  · subst ev;cases r1 with
    | cons r rr =>
      cases rr with
      | cons r' rr =>
        cases rr;obtain ⟨t,rfl⟩:=r;obtain ⟨t',rfl⟩:=r';refine call_range_2 (Calls.spliced_nil ?_);exact IT (I1.ok.hd hc) I1 b1 b2 b3 b4 hl q
end
end L2
namespace R
open PySem L2
noncomputable def items:Dv->Option (List Dv)
 | .tup ds=>some ds
 | .lst ds=>some ds
 | .scr ns=>some (ns.map .int)
 | .str l=>some (l.map fun c=>.str [c])
 | _=>none
def Oa (f:Ev Dv):Ev (List Dv):=fun R m k=>f R m fun d m'=>(items d).bind fun ds=>k ds m'
section
variable {K:W.Frag} {g:G} {H:Hp}
theorem rep_int {o:Nat} {i:Int} {v:V} {P:Fp} (h:Rep K g H o (.int i) v P):v=.int i:=by unfold Rep at h;exact h.1
theorem BZ {o:Nat} {i:Int}:Rep K g H o (.int i) (.int i) nop:=by unfold Rep;exact ⟨rfl,fun _ z=>z⟩
theorem Vd {a:Addr} {ds:List Dv} (h:Rep K g H 0 (.lst ds) (.ref a) nop):Yl K (iY K a) ds g H:=by
 intro g2 H2 st;have h2:=st.rep h;unfold Rep at h2;obtain ⟨b,vs,P',e,h1,h2,_⟩:=h2;cases e;have sq:CQ K H2 a vs:=.inl (.inl h1.1);refine ⟨fun i d e=>?_,fun i hi=>⟨vs,sq,by rw [<- h2.len];exact hi⟩⟩;obtain ⟨v,P,ev,rv,_⟩:=h2.get e;refine ⟨⟨vs,v,sq,ev⟩,fun x H3 y=>?_⟩;obtain ⟨rfl,y⟩:=y;have:=y vs sq;rw [ev] at this;cases this;exact Ab.old rv.z
theorem ZK {a:Addr} {ds:List Dv} (h:Rep K g H 0 (.tup ds) (.ref a) nop):Yl K (jv K a) ds g H:=by
 intro g2 H2 st;have h2:=st.rep h;unfold Rep at h2;obtain ⟨b,vs,e,h1,h2⟩:=h2;cases e;have sq:EC K H2 a vs:=.inl (.inl h1);refine ⟨fun i d e=>?_,fun i hi=>⟨vs,sq,by rw [<- h2.len];exact hi⟩⟩;obtain ⟨v,P,ev,rv,_⟩:=h2.get e;refine ⟨⟨vs,v,sq,ev⟩,fun x H3 y=>?_⟩;obtain ⟨rfl,y⟩:=y;have:=y vs sq;rw [ev] at this;cases this;exact Ab.old rv.z
theorem ZM {a:Addr} {ns:List Int} (h:Rep K g H 0 (.scr ns) (.ref a) nop):Yl K (iY K a) (ns.map .int) g H:=by
 intro g2 H2 st;have h2:=st.rep h;unfold Rep at h2;obtain ⟨⟨b,e,h1⟩,_⟩:=h2;cases e;have sq:=h1.sq;refine ⟨fun i d e=>?_,fun i hi=>⟨_,sq,by rw [lZ] at hi ⊢;exact hi⟩⟩;rw [lP] at e;cases q:ns[i]? with
 | none=>rw [q] at e;cases e
 | some k =>
  rw [q] at e;cases e;refine ⟨⟨_,.int k,sq,by rw [lP,q];rfl⟩,fun x H3 y=>?_⟩;obtain ⟨rfl,y⟩:=y;have:=y _ sq;rw [lP,q] at this;cases this;exact Ab.old BZ
theorem ZL {l:List Nat}:Yl K (iX (tx l)) (l.map fun c=>.str [c]) g H:=by
 intro g2 H2 st;have ec:∀ i:Nat,(tx l).cps[i]?=l[i]?:=fun i=>by show l.toArray[i]?=l[i]?;simp
 refine ⟨fun i d e=>?_,fun i hi=>?_⟩
 ·rw [lP] at e;cases q:l[i]? with
  | none=>rw [q] at e;cases e
  | some c =>
   rw [q] at e;simp only [lp,Option.some.injEq] at e;subst e;refine ⟨⟨c,by rw [ec,q]⟩,fun x H3 y=>?_⟩;obtain ⟨rfl,c',e',rfl⟩:=y;rw [ec,q] at e';cases e';exact Ab.old (by unfold Rep;exact ⟨rfl,fun _ z=>z⟩)
 ·show (tx l).cps[i]?=none;rw [ec];rw [lZ] at hi;exact mK hi
theorem RP {lo:Int} {n:Nat}:Yl K (iJ lo n) ((List.range n).map fun k=>.int (lo+(k:Nat))) g H:=by
 intro g2 H2 st;refine ⟨fun i d e=>?_,fun i hi=>by rw [lZ,nC] at hi;exact hi⟩;obtain ⟨hi,rfl⟩:=Ek e;refine ⟨hi,fun x H3 y=>?_⟩;obtain ⟨rfl,rfl⟩:=y;exact Ab.old BZ
end
section
variable {X:Cx} {tg e a b:Expr} {es:List Expr} {f:Ev Dv} {p pos:Pos} {Γ Γ':Gm} {js:List Nat} {as:List Ar}
theorem gI (h:PE X e (tE X.K Γ 0 Γ' js f)):PI X tg e (tI X.K Γ Γ' js (Oa f)):=PI.imp (WT h) fun σ H Q q=>by
 obtain ⟨g,m,P,r,R,k,res,e,q⟩:=q;refine ⟨g,m,P,r,R,_,res,e,fun d m' g' P' Pv v H' hk ag s rv r1 n=>?_⟩;obtain ⟨ds,e1,e2⟩:=bind_some' hk;have s':Step g P H g' P' H':=s.less fun _ z=>.inl z
 have rz:=rv.z;cases d with
 | tup es =>
  cases e1;have h0:=rz;unfold Rep at h0;obtain ⟨a,vs,rfl,h1,h2⟩:=h0;exact .inl ⟨a,vs,rfl,.inr ⟨.inl (.inl h1),q _ m' g' P' H' _ e2 ag s' r1 (ZK rz)⟩⟩
 | lst es =>
  cases e1;have h0:=rz;unfold Rep at h0;obtain ⟨a,vs,P1,rfl,h1,h2,_⟩:=h0;exact .inl ⟨a,vs,rfl,.inl ⟨.inl (.inl h1.1),q _ m' g' P' H' _ e2 ag s' r1 (Vd rz)⟩⟩
 | scr ns =>
  cases e1;have h0:=rz;unfold Rep at h0;obtain ⟨⟨a,rfl,h1⟩,_⟩:=h0;exact .inl ⟨a,_,rfl,.inl ⟨h1.sq,q _ m' g' P' H' _ e2 ag s' r1 (ZM rz)⟩⟩
 | str l =>
  cases e1;have h0:=rz;unfold Rep at h0;exact .inr ⟨_,h0.1,q _ m' g' P' H' _ e2 ag s' r1 ZL⟩
 | _=>cases e1
def Xz (K:W.Frag) (p:List Dv->Option (List Dv)) (r:List V->Hp->(It->Hp->Prop)->Prop):Prop:=∀ g H ds vs its Q,Zd g H->Reps K g H 0 ds vs nop->p ds=some its->(∀ J H',NW H H'->Yl K J its g H'->Q J H')->r vs H Q
def Yq (p:List Dv->Option (List Dv)) (fa:Ev (List Dv)):Ev (List Dv):=fun R m k=>fa R m fun ds m'=>(p ds).bind fun its=>k its m'
abbrev Ym (r:List V->Hp->(It->Hp->Prop)->Prop) (ta:TA):TI:=fun σ H Q=>ta σ H fun vs H1=>r vs H1 Q
theorem Vm {K:W.Frag} {pr:List Dv->Option (List Dv)} {r:List V->Hp->(It->Hp->Prop)->Prop} (hp:Xz K pr r) (c:AD Γ as Γ' js) (he:evd as=true) {σ:St} {H:Hp} {Q:It->Hp->Prop} (h:tI K Γ Γ' js (Yq pr (AR as)) σ H Q):Ym r (BN K as) σ H Q:=by
 obtain ⟨g,m,P,rl,R',k,res,e,q⟩:=h;refine AM as rl c e fun ds m' g' P' vs H1 hk ag s ar r1=>?_
 obtain ⟨its,e1,e2⟩:=bind_some' hk;exact hp g' H1 ds vs its Q r1.zd (ar.reps he) e1 fun J H2 sm yl=>q its m' g' P' H2 J e2 ag ((s.trans (Step.same sm)).less fun _ z=>z) (r1.same sm) yl
noncomputable def small (i:Int):Bool:=-1000000000<=i && i<=1000000000
theorem Rz {i:Int} (h:small i=true):-1000000000<=i/\i<=1000000000:=by
 unfold small at h;rw [lB,decide_eq_true_eq,decide_eq_true_eq] at h;exact h
def BG (ds:List Dv):Option (List Dv):=match ds with
 | [.int n]=>bif small n then some ((List.range n.toNat).map fun k=>.int (0+(k:Nat))) else none
 | _=>none
def fG:List V->Hp->(It->Hp->Prop)->Prop:=fun vs H1 R=>∃ j:Int,vs=[.int j]/\-(2 ^ 62)<=j/\j < 2 ^ 62/\R (iJ 0 j.toNat) H1
theorem Rw {K:W.Frag}:Xz K BG fG:=fun g H ds vs its Q zd ra e q=>by
 unfold BG at e;split at e
 ·rename_i n;cases c:small n with
  | false=>rw [c] at e;cases e
  | true =>
   rw [c] at e;cases e;have hn:=Rz c;unfold Reps at ra;obtain ⟨v,vr,_,_,rfl,h1,h2,_⟩:=ra;unfold Reps at h2;obtain ⟨rfl,_⟩:=h2;rw [rep_int h1];exact ⟨n,rfl,by omega,by omega,q _ H (fun _ _ z=>z) RP⟩
 ·cases e
end
structure Sig:Type 1 where
 ps:List Str
 io:List Nat
 ro:Nat
 nb:Bool
 fn:List Dv->Option (Dv×List Dv)
 cps:(R:Type)->List Dv->(Dv->List Dv->Option R)->Option R
 eq:∀ R ds k,cps R ds k=(fn ds).bind fun p=>k p.1 p.2
def RL (n:Nat) (io:List Nat):Gm:=(List.range n).map fun i=>some (if io.contains i then 1 else 0)
def Bk (K:W.Frag) (g:G) (H:Hp) (io:List Nat) (bs:List Dv) (vs:List V) (P:Fp):Prop:=Rel K g H (io.map fun _=>some 1) bs (io.map fun i=>(vs[i]?).map id) P
def PP (K:W.Frag) (s:Sig):Sp:=fun vs H Q _=>∃ g ds P,Rel K g H (RL s.ps.length s.io) ds (vs.map some) P/\∃ d bs,s.fn ds=some (d,bs) /\
 ∀ g' H' v Pv Pb,Step g P H g' (fun a=>Pv a\/Pb a) H'->Rep K g' H' s.ro d v Pv->Bk K g' H' s.io bs vs Pb->Disj Pv Pb->Q v H'
def MJ (n:Nat) (io:List Nat):Gm:=(List.range n).map fun i=>if io.contains i then some 1 else none
def XJ (n p:Nat) (io:List Nat):Gm:=RL p io++List.replicate (n - p) none
section
variable {K:W.Frag} {g:G} {H:Hp}
theorem Rel.pad {Γ:Gm} {m:M} {vs:List V} {P:Fp} (h:Rel K g H Γ m (vs.map some) P) (n:Nat):Rel K g H (Γ++List.replicate n none) (m++List.replicate n .non) (vs.map some++List.replicate n none) P:=by
 obtain ⟨zd,F,h1,h4⟩:=h;have old:∀ {i o:Nat},(Γ++List.replicate n none)[i]?=some (some o)->i < Γ.length/\Γ[i]?=some (some o):=fun {i o} e=>by
  by_cases z:i < Γ.length
  ·rw [lL z] at e;exact ⟨z,e⟩
  ·rw [lg (by omega),oS] at e;split at e<;>cases e
 refine ⟨zd,F,⟨by simp [h1.l1],by have:=h1.l2;simp at this ⊢;omega,fun i o e=>?_,fun i e=>?_,h1.dj⟩,h4⟩
 ·obtain ⟨hi,e⟩:=old e;obtain ⟨d,v,e1,e2,r⟩:=h1.rep i o e;exact ⟨d,v,by rw [lL (by rw [h1.l1];exact hi)];exact e1,by rw [lL (by rw [h1.l2];exact hi)];exact e2,r⟩
 ·refine h1.out i fun o z=>e o ?_
  rw [lL (lD.mp z).1];exact z
theorem Rel.pick {Γ:Gm} {m:M} {σ:St} {P:Fp} {io:List Nat} (h:Rel K g H Γ m σ P) (nd:io.Nodup) (hl:∀ i∈io,Γ[i]?=some (some 1)):∃ P',Rel K g H (io.map fun _=>some 1) (io.map m.at) (io.map fun i=>(σ[i]?).join) P'/\∀ a,P' a->P a:=by
 obtain ⟨zd,F,h1,h4⟩:=h;refine ⟨fun a=>∃ j i,io[j]?=some i/\F i a,⟨zd,fun j a=>∃ i,io[j]?=some i/\F i a,⟨by simp,by simp,fun j o e=>?_,fun j e a ⟨i,e',_⟩=>?_,fun j k n a ⟨i,e1,q1⟩ ⟨i',e2,q2⟩=>?_⟩,fun _=>Iff.rfl⟩,fun a ⟨j,i,_,q⟩=>(h4 a).mpr ⟨i,q⟩⟩
 ·rw [lP] at e;cases ej:io[j]? with
  | none=>rw [ej] at e;cases e
  | some i =>
   rw [ej] at e;cases e;obtain ⟨d,v,e1,e2,r⟩:=h1.rep i 1 (hl i (mQ ej));have eq:(fun a=>∃ i',some i=some i'/\F i' a)=F i:=funext fun a=>propext ⟨fun ⟨i',z,q⟩=>by cases z;exact q,fun q=>⟨i,rfl,q⟩⟩
   exact ⟨d,v,by rw [lP,ej,lp,JB e1],by rw [lP,ej,lp,e2];rfl,by show Rep K g H 1 d v fun a=>∃ i',some i=some i'/\F i' a;rw [eq];exact r⟩
 ·refine e 1 ?_;rw [lP,e'];rfl
 ·by_cases z:i=i'
  ·subst z;refine n ?_;have hj:=(lD.mp e1);have hk:=(lD.mp e2);exact (nS (h₀:=hj.1) (h₁:=hk.1) nd).mp (hj.2.trans hk.2.symm)
  ·exact h1.dj i i' z a q1 q2
end
theorem gR {P:Program} {w:World} {K:W.Frag} {mg:Str->Option Value} {base:Heap} {x qual:Str} {st:Stmt} {f:Addr} {fd:FuncData} {N:List Str} {k:Nat} {s:Sig} (Fn:Fun K x qual st f fd) (S:FnScope N s.ps (AF st)) (nd:s.io.Nodup) (hio:∀ i∈s.io,i < s.ps.length) (hn:s.ps.length<=N.length)
    {body:Es} {Γn:Option Gm} {js:List Nat} (hw:Ja (some (MJ N.length s.io)) Γn=true)
    (hb:∀ (cdv:Value) (A:Around) (outer:List Env) (s':Shared) (H:Hp) (E:XK),Room k (A.deeper (PyProof.Rows.envOfC qual (AF st) s'.heap.objs.size f cdv))->Cu (LY RK P w K mg base N qual (AF st) f cdv A outer s' H E).nox (Ac st) (tS K ⟨s.io,MJ N.length s.io,s.ro⟩ none (XJ N.length s.ps.length s.io) Γn js body))
    (hΦ:∀ ds d bs,ds.length=s.ps.length->s.fn ds=some (d,bs)->∃ (R:Type) (k:Kt R) (r:R),body R (ds++List.replicate (N.length - s.ps.length) .non) k=some r/\(∀ m,k.nx m=some r->d=.non/\bs=s.io.map m.at)/\(∀ d' m,k.rt d' m=some r->d=d'/\bs=s.io.map m.at)):FnOk P w K mg base RK (k+1) f fd s.ps (PP K s):=by
  have ll:∀ n io,(RL n io).length=n:=fun n io=>by unfold RL;simp
  refine Fn.ok S (fun vs H Q E h=>?_) fun cdv A outer s' H vs Q E hr h=>⟨_,hb cdv A outer s' H E hr,?_⟩
  · obtain ⟨g,ds,Pa,r,_⟩:=h;have:=r.len.2;rw [ll] at this;simpa using this
  · obtain ⟨g,ds,Pa,r,d,bs,e,q⟩:=h;have l1:=r.len.1;have l2:=r.len.2;rw [ll] at l1 l2;rw [lZ] at l2;have r0:Rel K g H (XJ N.length s.ps.length s.io) (ds++List.replicate (N.length - s.ps.length) .non) (L2.start N vs) Pa:=by
      unfold L2.start XJ;rw [l2];exact r.pad _
    have hv:∀ {σ':St},Io s.io (L2.start N vs) σ'->∀ i∈s.io,(σ'[i]?).join=vs[i]?:=fun {σ'} hi i hm=>by
      rw [hi i hm];unfold L2.start;have hl:i < vs.length:=by rw [l2];exact hio i hm
      rw [lL (by simpa using hl),lP];cases vs[i]?<;>rfl
    have rg:∀ i∈s.io,(MJ N.length s.io)[i]?=some (some 1):=fun i hi=>by
      unfold MJ;rw [lP,mj (by have:=hio i hi;omega),lp,if_pos (lK.mpr hi)]
    obtain ⟨RT,kt,rt,hb0,hnx,hrt⟩:=hΦ ds d bs l1 e;have fin:∀ {d':Dv} {m':M} {g':G} {P' Pv:Fp} {σ':St} {v:V} {H':Hp},d=d'/\bs=s.io.map m'.at->Step g Pa H g' (fun a=>P' a\/Pv a) H'->Io s.io (L2.start N vs) σ'->Rep K g' H' s.ro d' v Pv->Rel K g' H' (MJ N.length s.io) m' σ' P'->Disj P' Pv->Q v H':=fun {d' m' g' P' Pv σ' v H'} hk st io rv r' n=>by
      obtain ⟨rfl,rfl⟩:=hk;obtain ⟨Pb,hbk,sb⟩:=r'.pick nd rg;refine q g' H' v Pv Pb (st.less fun a z=>z.elim .inr fun z=>.inl (sb a z)) rv ?_ fun a z w=>n a (sb a w) z
      have e:(s.io.map fun i=>(σ'[i]?).join)=s.io.map fun i=>(vs[i]?).map id:=nK fun i hi=>by rw [hv io i hi];cases vs[i]?<;>rfl
      unfold Bk;rw [<- e];exact hbk
    refine ⟨g,_,Pa,r0,RT,kt,rt,hb0,⟨fun Γ' m' g' P' σ' H' eΓ hk ag st' i' r'=>?_,fun d' m' g' P' Pv σ' v H' hk ag st' i' rv r' n=>fin (hrt d' m' hk) st' i' rv r' n,(fun _ _ _ _ _ _ z=>by cases z),fun _ _ _ _ _ _ z=>by cases z⟩⟩;subst eΓ;obtain ⟨g2,P2,s2,r2⟩:=r'.weaken (by unfold Ja at hw;exact hw);exact fin (Pv:=nop) (v:=.non) (hnx m' hk) ((st'.trans s2).less fun _ z=>z.elim id False.elim) i' (by unfold Rep;exact ⟨rfl,fun _ z=>z⟩) r2 fun _ _ z=>z
noncomputable def Dw (as:List Ar) (i:Nat):Option Nat:=match as[i]? with | some (.rf j)=>some j | _=>none
def slots (as:List Ar) (io:List Nat):List Nat:=io.map fun i=>(Dw as i).getD 0
def shp (as:List Ar) (io:List Nat):Bool:=(List.range as.length).all fun i=>((Dw as i).isSome == io.contains i) && (List.range as.length).all fun j=>i == j || (Dw as i).isNone || (Dw as i != Dw as j)
noncomputable def EO:List Nat->List Dv->M->M
 | s::sl,b::bs,m=>EO sl bs (m.set s b)
 | _,_,m=>m
def Mo (s:Sig) (as:List Ar):Ev Dv:=fun R m k=>AR as R m fun ds m1=>s.cps R ds fun d bs=>k d (EO (slots as s.io) bs m1)
theorem HF:∀ (sl:List Nat) (bs:List Dv) (m:M),(EO sl bs m).length=m.length
 | [],_,_=>rfl
 | _::_,[],_=>rfl
 | s::sl,b::bs,m=>by unfold EO;rw [HF,lj]
theorem Em:∀ (sl:List Nat) (bs:List Dv) (m:M) (j:Nat),j∉sl->(EO sl bs m)[j]?=m[j]?
 | [],_,_,_,_=>rfl
 | _::_,[],_,_,_=>rfl
 | s::sl,b::bs,m,j,h=>by
  unfold EO;rw [Em sl bs _ j fun z=>h (lG _ z),lh fun z=>h (by rw [z];exact lE)]
theorem OD:∀ (sl:List Nat) (bs:List Dv) (m:M) (k j:Nat) (b:Dv),sl.Nodup->sl[k]?=some j->bs[k]?=some b->j < m.length->(EO sl bs m)[j]?=some b
 | [],_,_,k,_,_,_,h,_,_=>by simp at h
 | _::_,[],_,k,_,_,_,_,h,_=>by simp at h
 | s::sl,c::bs,m,k,j,b,nd,h1,h2,hl=>by
  unfold EO;rw [nG] at nd;cases k with
  | zero =>
   simp at h1 h2;subst h1 h2;rw [Em sl bs _ s nd.1,ly hl]
  | succ k=>exact OD sl bs _ k j b nd.2 (by simpa using h1) (by simpa using h2) (by rw [lj];exact hl)
theorem Kn (sl:List Nat) (bs:List Dv) (m:M):BU sl m (EO sl bs m):=⟨HF ..,fun i h=>by
 unfold M.at;rw [lY,lY,Em sl bs m i h]⟩
section
variable {K:W.Frag} {g:G} {H:Hp} {σ:St} {Γ Γ':Gm} {js:List Nat} {m:M} {P:Fp} {as:List Ar}
theorem AX.len:∀ {as:List Ar} {ds:List Dv} {vs:List V},AX K g H Γ m σ as ds vs->ds.length=as.length/\vs.length=as.length
 | [],ds,vs,h=>by unfold AX at h;obtain ⟨rfl,rfl⟩:=h;exact ⟨rfl,rfl⟩
 | .ev _ _ _ _::as,ds,vs,h=>by
  unfold AX at h;obtain ⟨d,v,ds',vs',rfl,rfl,_,h2⟩:=h;simp [h2.len.1,h2.len.2]
 | .rf i::as,ds,vs,h=>by
  unfold AX at h;obtain ⟨v,ds',vs',rfl,rfl,_,_,h3⟩:=h;simp [h3.len.1,h3.len.2]
theorem AX.get:∀ {as:List Ar} {ds:List Dv} {vs:List V} {i:Nat},AX K g H Γ m σ as ds vs->i < as.length->∃ d v,ds[i]?=some d/\vs[i]?=some v/\((∃ j,Dw as i=some j/\d=m.at j/\σ[j]?=some (some v))\/(Dw as i=none/\Rep K g H 0 d v nop))
 | [],_,_,i,_,h=>by simp at h
 | .ev _ _ _ f::as,ds,vs,i,h,hi=>by
  unfold AX at h;obtain ⟨d,v,ds',vs',rfl,rfl,h1,h2⟩:=h;cases i with
  | zero=>exact ⟨d,v,rfl,rfl,.inr ⟨rfl,h1⟩⟩
  | succ i =>
   obtain ⟨d,v,e1,e2,z⟩:=h2.get (i:=i) (by simpa using hi);exact ⟨d,v,by simpa using e1,by simpa using e2,z⟩
 | .rf j::as,ds,vs,i,h,hi=>by
  unfold AX at h;obtain ⟨v,ds',vs',rfl,rfl,h1,_,h3⟩:=h;cases i with
  | zero=>exact ⟨_,v,rfl,rfl,.inl ⟨j,rfl,rfl,h1⟩⟩
  | succ i =>
   obtain ⟨d,v,e1,e2,z⟩:=h3.get (i:=i) (by simpa using hi);exact ⟨d,v,by simpa using e1,by simpa using e2,z⟩
theorem El {i j:Nat} (h:Dw as i=some j):i < as.length:=by
 unfold Dw at h;cases e:as[i]? with
 | none=>rw [e] at h;cases h
 | some a=>exact (lD.mp e).1
theorem Zj {io:List Nat} (h:shp as io=true):(∀ i,i < as.length->((Dw as i).isSome=true↔i∈io))/\∀ i i' j,Dw as i=some j->Dw as i'=some j->i=i':=by
 unfold shp at h;rw [lx] at h;refine ⟨fun i hi=>?_,fun i i' j e e'=>?_⟩
 ·have:=h i (mO.mpr hi);rw [lB,beq_iff_eq] at this;rw [this.1,lK]
 ·have:=h i (mO.mpr (El e));rw [lB,lx] at this;have:=this.2 i' (mO.mpr (El e'));rw [e,e'] at this;simp at this;exact this
theorem Ir {s:Sig} {g1:G} {H1:Hp} {m1:M} {P1:Fp} {ds:List Dv} {vs:List V} {d:Dv} {bs:List Dv} (hs:shp as s.io=true) (hn:as.length=s.ps.length) (nd:s.io.Nodup) (hio:∀ i∈s.io,i < s.ps.length) (hl:∀ i∈slots as s.io,Γ'[i]?=some (some 1)) {Q:VK}
    (r1:Rel K g1 H1 Γ' m1 σ P1) (ar:AX K g1 H1 Γ' m1 σ as ds vs) (e1:s.fn ds=some (d,bs))
    (q:∀ g2 P2 Pv v H2,Step g1 P1 H1 g2 (fun a=>P2 a\/Pv a) H2->Rep K g2 H2 s.ro d v Pv->Rel K g2 H2 Γ' (EO (slots as s.io) bs m1) σ P2->Disj P2 Pv->Q v H2):PP K s vs H1 Q E0:=by
  obtain ⟨hs1,hs2⟩:=Zj hs;have r1':=r1;obtain ⟨zd,F,h1,h4⟩:=r1'
  -- the slots,one by one
  have sl:∀ {i j:Nat},Dw as i=some j->i∈s.io/\j∈slots as s.io:=fun {i j} e=>by
    have hi:=(hs1 i (El e)).mp (by rw [e];rfl);exact ⟨hi,mB.mpr ⟨i,hi,by rw [e];rfl⟩⟩
  have sl2:∀ {i:Nat},i∈s.io->∃ j,Dw as i=some j:=fun {i} hi=>mw.mp ((hs1 i (by rw [hn];exact hio i hi)).mpr hi)
  have ndS:(slots as s.io).Nodup:=by
    unfold slots;rw [oK,List.pairwise_map];refine (oK.mp nd).imp_of_mem fun {a b} ha hb n z=>?_
    obtain ⟨ja,ea⟩:=sl2 ha;obtain ⟨jb,eb⟩:=sl2 hb;rw [ea,eb] at z;simp only [oE] at z;subst z;exact n (hs2 a b ja ea eb)
  let Fa:Nat->Fp:=fun i a=>∃ j,Dw as i=some j/\F j a
  have al:=ar.len;have rA:Rel K g1 H1 (RL s.ps.length s.io) ds (vs.map some) fun a=>∃ i,Fa i a:=by
    refine ⟨zd,Fa,⟨by unfold RL;simp;rw [al.1,hn],by unfold RL;simp;rw [al.2,hn],fun i o ei=>?_,fun i ei a ⟨j,ej,_⟩=>?_,fun i i' n a ⟨j,ej,z⟩ ⟨j',ej',z'⟩=>?_⟩,fun _=>Iff.rfl⟩
    · obtain ⟨hi,eo⟩:=Ek ei;obtain ⟨d',v,d1,d2,z⟩:=ar.get (i:=i) (by rw [hn];exact hi);refine ⟨d',v,d1,by rw [lP,d2];rfl,?_⟩;rcases z with ⟨j,ej,rfl,hv⟩ | ⟨ej,z⟩
      · have:o=1:=by
          have:=Option.some.inj eo;rw [if_pos (lK.mpr (sl ej).1)] at this;exact this
        subst this;obtain ⟨d3,v3,e3,e4,r3⟩:=h1.rep j 1 (hl j (sl ej).2);rw [hv] at e4;cases e4;have eq:Fa i=F j:=funext fun a=>propext ⟨fun ⟨j',z,q⟩=>by rw [ej] at z;cases z;exact q,fun q=>⟨j,ej,q⟩⟩
        rw [JB e3,eq];exact r3
      · have:o=0:=by
          have:=Option.some.inj eo;rw [if_neg fun w=>?_] at this
          · exact this
          · obtain ⟨j,w⟩:=sl2 (lK.mp w);rw [ej] at w;cases w
        subst this;have eq:Fa i=nop:=nop_iff fun a ⟨j,w,_⟩=>by rw [ej] at w;cases w
        rw [eq];exact z
    · refine ei (if s.io.contains i then 1 else 0) ?_;unfold RL;rw [lP,mj (by rw [<- hn];exact El ej)];rfl
    · by_cases w:j=j'
      · subst w;exact n (hs2 i i' j ej ej')
      · exact h1.dj j j' w a z z'
  let Fr:Nat->Fp:=fun j a=>j∉slots as s.io/\F j a
  have rr:Rel K g1 H1 (Lg (slots as s.io) Γ') m1 σ fun a=>∃ j,Fr j a:=by
    refine ⟨zd,Fr,⟨by unfold Lg;simp;exact h1.l1,by unfold Lg;simp;exact h1.l2,fun j o ej=>?_,fun j ej a ⟨n,z⟩=>?_,fun i j n a q z=>h1.dj i j n a q.2 z.2⟩,fun _=>Iff.rfl⟩
    · obtain ⟨nj,ej⟩:=Cn ej;obtain ⟨d',v,d1,d2,z⟩:=h1.rep j o ej;have eq:Fr j=F j:=funext fun a=>propext ⟨fun w=>w.2,fun w=>⟨nj,w⟩⟩
      exact ⟨d',v,d1,d2,by rw [eq];exact z⟩
    · refine h1.out j (fun o w=>ej o ?_) a z;unfold Lg;have hj:=(lD.mp w).1;rw [lP,mj hj,lp,if_neg (fun q=>n (lK.mp q)),lY,w];rfl
  have dA:Disj (fun a=>∃ j,Fr j a) fun a=>∃ i,Fa i a:=fun a ⟨j,nj,z⟩ ⟨i,j',ej,z'⟩=>by
    by_cases w:j=j'
    · subst w;exact nj (sl ej).2
    · exact h1.dj j j' w a z z'
  have okA:FpOk g1 H1 fun a=>∃ i,Fa i a:=rA.fpOk
  refine ⟨g1,ds,_,rA,d,bs,e1,fun g2 H2 v Pv Pb s2 rv hb n=>?_⟩;have rr2:=rr.held s2 okA dA;have dB:Disj (fun a=>∃ j,Fr j a) fun a=>Pv a\/Pb a:=s2.out rr.fpOk dA
  obtain ⟨zd2,Fq,q1,q4⟩:=rr2;obtain ⟨zb,Fb,b1,b4⟩:=hb;have lb:bs.length=s.io.length:=by have:=b1.l1;simpa using this
  have fq:∀ {a:Addr},(∃ j,Fr j a)↔∃ j,Fq j a:=fun {a}=>q4 a
  let Fz:Nat->Fp:=fun j a=>(∃ k,(slots as s.io)[k]?=some j/\Fb k a)\/Fq j a
  have nq:∀ j∈slots as s.io,∀ a,¬ Fq j a:=fun j hj=>q1.out j fun o w=>(Cn w).1 hj
  have rz:Rel K g2 H2 Γ' (EO (slots as s.io) bs m1) σ fun a=>∃ j,Fz j a:=by
    refine ⟨zd2,Fz,⟨by rw [HF];exact h1.l1,h1.l2,fun j o ej=>?_,fun j ej a z=>?_,fun i j n' a z w=>?_⟩,fun _=>Iff.rfl⟩
    · have hjl:j < m1.length:=by rw [h1.l1];exact (lD.mp ej).1
      by_cases hj:j∈slots as s.io
      · obtain ⟨kk,hk1⟩:=nc hj;have hkk:kk < s.io.length:=by have:=(lD.mp hk1).1;unfold slots at this;simpa using this
        rw [hl j hj] at ej;cases ej;obtain ⟨b,u,c1,c2,c3⟩:=b1.rep kk 1 (by rw [lP,lA hkk];rfl);have ei:(slots as s.io)[kk]?=some ((Dw as s.io[kk]).getD 0):=by unfold slots;rw [lP,lA hkk];rfl
        obtain ⟨jj,ejj⟩:=sl2 (mZ hkk);rw [hk1,ejj] at ei;have ejj':j=jj:=Option.some.inj ei;subst ejj';obtain ⟨d3,v3,d1,d2,z3⟩:=ar.get (i:=s.io[kk]) (El ejj);rw [lP,lA hkk,lp,d2] at c2;have eu:u=v3:=by simpa using c2.symm
        subst eu;have hv:σ[j]?=some (some u):=by
          rcases z3 with ⟨j2,e2',_,z3⟩ | ⟨e2',_⟩
          · rw [ejj] at e2';cases e2';exact z3
          · rw [ejj] at e2';cases e2'
        have eq:Fz j=Fb kk:=funext fun a=>propext ⟨fun w=>w.elim (fun ⟨k',h',w⟩=>by
            have h1':=lD.mp hk1;have h2':=lD.mp h';have:k'=kk:=(nS (h₀:=h2'.1) (h₁:=h1'.1) ndS).mp (h2'.2.trans h1'.2.symm);exact this▸w) fun w=>(nq j hj a w).elim,fun w=>.inl ⟨kk,hk1,w⟩⟩
        exact ⟨b,u,OD _ bs m1 kk j b ndS hk1 c1 hjl,hv,by rw [eq];exact c3⟩
      · have ej':(Lg (slots as s.io) Γ')[j]?=some (some o):=by
          unfold Lg;rw [lP,mj (lD.mp ej).1,lp,if_neg (fun w=>hj (lK.mp w)),lY,ej];rfl
        obtain ⟨d3,v3,d1,d2,r3⟩:=q1.rep j o ej';have eq:Fz j=Fq j:=funext fun a=>propext ⟨fun w=>w.elim (fun ⟨k',h',_⟩=>(hj (mQ h')).elim) id,.inr⟩
        exact ⟨d3,v3,by rw [Em _ _ _ _ hj];exact d1,d2,by rw [eq];exact r3⟩
    · rcases z with ⟨k',h',z⟩ | z
      · exact ej 1 (hl j (mQ h'))
      · refine q1.out j (fun o w=>ej o (Cn w).2) a z
    · rcases z with ⟨k1,h1',z⟩ | z
      · rcases w with ⟨k2,h2',w⟩ | w
        · by_cases kk:k1=k2
          · subst kk;rw [h1'] at h2';exact n' (Option.some.inj h2')
          · exact b1.dj k1 k2 kk a z w
        · exact dB a (fq.mpr ⟨j,w⟩) (.inr ((b4 a).mpr ⟨k1,z⟩))
      · rcases w with ⟨k2,h2',w⟩ | w
        · exact dB a (fq.mpr ⟨i,z⟩) (.inr ((b4 a).mpr ⟨k2,w⟩))
        · exact q1.dj i j n' a z w
  refine q g2 _ Pv v H2 ((s2.frame (R:=fun a=>∃ j,Fr j a)).sub (fun a z=>?_) fun a z=>?_) rv rz fun a z w=>?_
  · rcases z with ⟨i,j,_,z⟩ | ⟨j,_,z⟩
    · exact (h4 a).mpr ⟨j,z⟩
    · exact (h4 a).mpr ⟨j,z⟩
  · rcases z with ⟨j,z⟩ | z
    · rcases z with ⟨k',_,z⟩ | z
      · exact .inl (.inr ((b4 a).mpr ⟨k',z⟩))
      · exact .inr (fq.mpr ⟨j,z⟩)
    · exact .inl (.inl z)
  · obtain ⟨j,z⟩:=z;rcases z with ⟨k',_,z⟩ | z
    · exact n a w ((b4 a).mpr ⟨k',z⟩)
    · exact dB a (fq.mpr ⟨j,z⟩) (.inl w)
theorem Ua {s:Sig} (c:AD Γ as Γ' js) (hs:shp as s.io=true) (hn:as.length=s.ps.length) (nd:s.io.Nodup) (hio:∀ i∈s.io,i < s.ps.length) (hl:∀ i∈slots as s.io,Γ'[i]?=some (some 1)) {Q:VK}
    (h:tE K Γ s.ro Γ' (js++slots as s.io) (Mo s as) σ H Q):BN K as σ H fun vs H1=>PP K s vs H1 Q E0:=by
  obtain ⟨g,m,P,r,R,k,res,e,q⟩:=h;refine AM as r c e fun ds m1 g1 P1 vs H1 hk ag st ar r1=>?_
  rw [s.eq] at hk;obtain ⟨⟨d,bs⟩,e1,e2⟩:=bind_some' hk;exact Ir hs hn nd hio hl r1 ar e1 fun g2 P2 Pv v H2 st2 rv rz n=>q d _ g2 P2 Pv v H2 e2 (ag.trans (Kn _ bs m1)) (st.trans st2) rv rz n
mutual
noncomputable def nol:Dv->Bool
 | .non | .bl _ | .int _ | .str _=>true
 | .tup ds=>nols ds
 | _=>false
noncomputable def nols:List Dv->Bool
 | []=>true
 | d::ds=>nol d && nols ds
end
mutual
theorem OJ {g':G}:∀ {o o':Nat} {d:Dv} {v:V} {Pv:Fp},Rep K g' H o d v Pv->nol d=true->Rep K g H o' d v nop
 | _,_,.non,_,_,h,_ | _,_,.bl _,_,_,h,_ | _,_,.int _,_,_,h,_ | _,_,.str _,_,_,h,_=>by unfold Rep at h ⊢;exact ⟨h.1,fun _ z=>z⟩
 | _,_,.tup ds,v,_,h,e=>by
  unfold Rep at h ⊢;obtain ⟨a,vs,e1,h1,h2⟩:=h;unfold nol at e;exact ⟨a,vs,e1,h1,LA h2 e⟩
 | _,_,.lst _,_,_,_,e | _,_,.dct _ _,_,_,_,e | _,_,.ref _,_,_,_,e | _,_,.scr _,_,_,_,e | _,_,.ty _,_,_,_,e | _,_,.mtp _,_,_,_,e | _,_,.dti _,_,_,_,e=>by unfold nol at e;cases e
theorem LA {g':G}:∀ {o o':Nat} {ds:List Dv} {vs:List V} {Pv:Fp},Reps K g' H o ds vs Pv->nols ds=true->Reps K g H o' ds vs nop
 | _,_,[],_,_,h,_=>by unfold Reps at h ⊢;exact ⟨h.1,fun _ z=>z⟩
 | _,_,d::ds,_,_,h,e=>by
  unfold Reps at h ⊢;obtain ⟨v,r,P1,P2,e1,h1,h2,_,_⟩:=h;unfold nols at e;rw [lB] at e;exact ⟨v,r,nop,nop,e1,OJ h1 e.1,LA h2 e.2,fun _ z=>z.elim,fun a=>⟨fun z=>z.elim,fun z=>z.elim id id⟩⟩
end
theorem AX.fz (r:Rel K g H Γ m σ P):∀ {as:List Ar} {ds:List Dv} {vs:List V},AX K g H Γ m σ as ds vs->Reps K (g.add P) H 0 ds vs nop
 | [],ds,vs,h=>by unfold AX at h;obtain ⟨rfl,rfl⟩:=h;exact Reps.nil
 | .ev _ _ _ f::as,ds,vs,h=>by
  unfold AX at h;obtain ⟨d,v,ds',vs',rfl,rfl,h1,h2⟩:=h;exact (Reps.cons (h1.freeze (P:=P) fun _ z=>z.elim) (AX.fz r h2) fun _ z=>z.elim).iff fun a=>⟨fun z=>z.elim,fun z=>z.elim id id⟩
 | .rf i::as,ds,vs,h=>by
  unfold AX at h;obtain ⟨v,ds',vs',rfl,rfl,h1,⟨o,_,ho⟩,h3⟩:=h;obtain ⟨v',P1,e,k,sb⟩:=r.see ho;rw [h1] at e;cases e;exact (Reps.cons (k.freeze (P:=P) sb) (AX.fz r h3) fun _ z=>z.elim).iff fun a=>⟨fun z=>z.elim,fun z=>z.elim id id⟩
theorem Ws {n:Nat} {ds:List Dv} {vs:List V} (zd:Zd g H) (h:Reps K g H 0 ds vs nop) (hn:ds.length=n):Rel K g H (RL n []) ds (vs.map some) nop:=by
 refine ⟨zd,fun _=>nop,⟨by unfold RL;simp [hn],by unfold RL;simp [<- hn,h.len],fun i o e=>?_,fun i e a z=>z,fun i j n a z=>z.elim⟩,fun a=>⟨fun z=>z.elim,fun ⟨i,z⟩=>z⟩⟩;obtain ⟨hi,e⟩:=Ek e;have eo:o=0:=(Option.some.inj e);subst eo;obtain ⟨v,_,ev,rv,_⟩:=h.get (lA (by omega:i < ds.length));exact ⟨_,v,lA (by omega),by rw [lP,ev];rfl,rv.z⟩
def Jj (s:Sig) (as:List Ar):Ev Dv:=fun R m k=>AR as R m fun ds m1=>s.cps R ds fun d _=>bif nol d then k d m1 else none
theorem Qe {s:Sig} (c:AD Γ as Γ' js) (hs:s.io=[]) (hn:as.length=s.ps.length) {Q:VK} (h:tE K Γ 1 Γ' js (Jj s as) σ H Q):BN K as σ H fun vs H1=>PP K s vs H1 Q E0:=by
 obtain ⟨g,m,P,r,R,k,res,e,q⟩:=h;refine AM as r c e fun ds m1 g1 P1 vs H1 hk ag st ar r1=>?_
 rw [s.eq] at hk;obtain ⟨⟨d,bs⟩,e1,e2⟩:=bind_some' hk;cases c:nol d with
 | false=>simp only [c,cond_false] at e2;cases e2
 | true =>
  simp only [c,cond_true] at e2;have fs:Step g1 P1 H1 (g1.add P1) nop H1:=Step.freeze r1.fpOk;refine ⟨g1.add P1,ds,nop,by rw [hs];exact Ws (fs.zd r1.zd) (ar.fz r1) (ar.len.1.trans hn),d,bs,e1,fun g' H' v Pv Pb s2 rv _ _=>?_⟩;have sm:NW H1 H':=fun b o hb=>s2.keep b o hb fun z=>z
  exact q d m1 g1 P1 nop v H' e2 ag ((st.trans (Step.same sm)).less fun _ z=>z.elim id False.elim) (OJ rv c) (r1.same sm) fun _ _ z=>z
end
end R
namespace L2
open PySem PySem.Spec PyProof.Rows
section
variable {X:Cx}
def kO:R2:=fun x y H Q=>∃ a v,x=.ref a/\Hv H a y (some v)/\Q v H
theorem gD (hu:X.A.units+1 < cLine):RI X kO:=by
 intro value slice pins s σ H x y v u Q I rx ry h hs;obtain ⟨a,z,rfl,g,q⟩:=h;obtain rfl:v=Value.ref a:=rx;have hT:=LU I g;have h2:=QW (Q:=EP X pins σ Q) (E:=X.xe) (A:=X.A) hu I g ry fun w' s3 I3 rw'=>⟨z,H,I3,rw',q⟩
 unfold subscriptTail;refine wpAny_bind ?_;rw [getitemInPython_of_ne hT.not_modules];refine wpAny_bind (wpAny_specialOf hT PySem.F.slot_dict_getitem.lookup ?_);have fin:wpAny (model X.prog X.w) X.A (subscripted slice false (.ref a) u) (fun r s₃=>wpAny (model X.prog X.w) X.A (letTemporaryGo value (.ref a) r >>= fun _=>pure r) (EP X pins σ Q) X.xe s₃) X.xe s:=by
  rw [hs];exact wpAny_operating (wpAny_mono h2 (fun r s₃ h₃=>wpAny_bind (wpAny_letTemporaryGo (wpAny_pure h₃))) fun _ _ x=>x)
 first
  | exact wpAny_pure (wpAny_bind fin)
  | exact wpAny_bind (wpAny_pure (wpAny_bind fin))
  | exact wpAny_bind fin
def kN:NU:=fun o i v H Q=>∃ a H',o=.ref a/\VW H a i v H'/\Q H'
theorem Zl (hu:X.A.units+1 < cLine):KG X kN:=by
 intro pins s σ H o i v ov iv u Q I ro ri rv h;obtain ⟨a,H',rfl,g,q⟩:=h;obtain rfl:ov=Value.ref a:=ro;exact QV hu I g ri rv fun s4 I4=>⟨H',I4,q⟩
theorem KG.or {t t':NU} (h:KG X t) (h':KG X t'):KG X (fun o i v H Q=>t o i v H Q\/t' o i v H Q):=by
 intro pins s σ H o i v ov iv u Q I ro ri rv q;rcases q with q | q
 ·exact h pins s σ H o i v ov iv u Q I ro ri rv q
 ·exact h' pins s σ H o i v ov iv u Q I ro ri rv q
def Zx (neg:Bool):R2:=fun y x H Q=>∃ a o,x=.ref a/\Hv H a y o/\Q (.bl (if neg then !o.isSome else o.isSome)) H
theorem au (hu:X.A.units+1 < cLine):Bv X (compareOp .In) (Zx false):=by
 intro pins s σ H y x u v Q I ry rx h;obtain ⟨a,o,rfl,g,q⟩:=h;obtain rfl:v=Value.ref a:=rx;exact jP hu I g ry fun s3 I3=>⟨.bl o.isSome,H,I3,rfl,q⟩
theorem Wf (hu:X.A.units+1 < cLine):Bv X (compareOp .NotIn) (Zx true):=by
 intro pins s σ H y x u v Q I ry rx h;obtain ⟨a,o,rfl,g,q⟩:=h;obtain rfl:v=Value.ref a:=rx;exact XN hu I g ry fun s3 I3=>⟨.bl (!o.isSome),H,I3,rfl,q⟩
def YV:List V->Hp->VK->Prop:=fun xs H Q=>∃ a kvs,xs=[V.ref a]/\H a=some (.dK kvs)/\Q (.int kvs.length) H
theorem NG:BC X (.builtin "len") YV:=Qi
end
end L2
namespace R
open PySem L2
def IX:Dv->Option Ax
 | .int i=>some (.inl i)
 | .str l=>some (.inr (tx l))
 | _=>none
def GB (k:Ax):List Ax->List Dv->Option Dv
 | j::ks,d::ds=>if j=k then some d else GB k ks ds
 | _,_=>none
def UN (k:Ax) (ks:List Ax):List Ax:=if ks.any (fun j=>decide (j=k))=true then ks else ks++[k]
def QX (k:Ax) (x:Dv):List Ax->List Dv->List Dv
 | j::ks,d::ds=>(if j=k then x else d)::QX k x ks ds
 | _,_=>[]
def UL (k:Ax) (x:Dv) (ks:List Ax) (ds:List Dv):List Dv:=if ks.any (fun j=>decide (j=k))=true then QX k x ks ds else ds++[x]
section
variable {K:W.Frag} {g:G} {H:Hp}
theorem Jc {o:Nat} {d:Dv} {v:V} {P:Fp} {k:Ax} (h:Rep K g H o d v P) (e:IX d=some k):v=kV k:=by
 cases d with
 | int i=>cases e;unfold Rep at h;exact h.1
 | str l=>cases e;unfold Rep at h;exact h.1
 | _=>cases e
theorem LV {k:Ax}:∀ {ks:List Ax} {ds:List Dv} {us:List V} {R:Fp} {d:Dv},Reps K g H 0 ds us R->GB k ks ds=some d->∃ v,FG (ks.zip us) k=some v/\Rep K g H 0 d v nop
 | [],ds,us,R,d,_,e=>by cases ds<;>cases e
 | j::ks,[],us,R,d,_,e=>by cases e
 | j::ks,x::ds,us,R,d,h,e=>by
  unfold Reps at h;obtain ⟨v,r,P1,P2,rfl,h1,h2,_⟩:=h;unfold GB at e;split at e
  ·rename_i c;cases e;exact ⟨v,by rw [mn];exact Cv c,h1.z⟩
  ·rename_i c;obtain ⟨w,e1,e2⟩:=LV h2 e;exact ⟨w,by rw [mn,Cw c];exact e1,e2⟩
theorem Il {k:Ax}:∀ {ks:List Ax} {ds:List Dv} {us:List V},ks.length=ds.length->ds.length=us.length->(FG (ks.zip us) k).isSome=(GB k ks ds).isSome
 | [],[],_,_,_=>rfl
 | j::ks,d::ds,[],_,h=>by cases h
 | j::ks,d::ds,u::us,h1,h2=>by
  have ih:=Il (k:=k) (ks:=ks) (ds:=ds) (us:=us) (by simpa using h1) (by simpa using h2);rw [mn];unfold GB
  by_cases c:j=k
  ·rw [Cv (p:=(j,u)) c,if_pos c];rfl
  ·rw [Cw (p:=(j,u)) c,if_neg c];exact ih
theorem UM {k:Ax} {x:Dv} {w:V} {ks:List Ax} {ds:List Dv} {us:List V} {R:Fp} (hl:ks.length=ds.length) (h:Reps K g H 0 ds us R) (hx:Rep K g H 0 x w nop) :
    ∃ us',Ft (ks.zip us) k w=(UN k ks).zip us'/\Reps K g H 0 (UL k x ks ds) us' nop/\(UN k ks).length=(UL k x ks ds).length:=by
  have hl2:ks.length=us.length:=by rw [hl,h.len]
  have any_eq:∀ {ks:List Ax} {us:List V},ks.length=us.length->((ks.zip us).any fun kv=>decide (kv.1=k))=ks.any fun j=>decide (j=k):=fun {ks us} h=>by
    induction ks generalizing us with
    | nil=>rfl
    | cons j ks ih =>
      cases us with
      | nil=>cases h
      | cons u us=>rw [mn,me,me,ih (by simpa using h)]
  unfold Ft UN UL;rw [any_eq hl2]
  by_cases c:(ks.any fun j=>decide (j=k))=true
  · rw [if_pos c,if_pos c,if_pos c];have:∀ {ks:List Ax} {ds:List Dv} {us:List V} {R:Fp},ks.length=ds.length->Reps K g H 0 ds us R->∃ us',((ks.zip us).map fun kv=>if kv.1=k then (kv.1,w) else kv)=ks.zip us'/\Reps K g H 0 (QX k x ks ds) us' nop/\ks.length=(QX k x ks ds).length:=fun {ks ds us R} hl h=>by
      induction ks generalizing ds us R with
      | nil=>exact ⟨[],by simp,by cases ds<;>exact Reps.nil,by cases ds<;>rfl⟩
      | cons j ks ih =>
        cases ds with
        | nil=>cases hl
        | cons d ds =>
          unfold Reps at h;obtain ⟨v,r,P1,P2,rfl,h1,h2,_⟩:=h;obtain ⟨us',e1,e2,e3⟩:=ih (by simpa using hl) h2;refine ⟨(if j=k then w else v)::us',?_,?_,by simp [QX];omega⟩
          · rw [mn,lI,mn,e1]
            by_cases q:j=k<;>simp [q]
          · unfold QX;refine ((Reps.cons (P1:=nop) (P2:=nop) ?_ e2 (fun _ z=>z.elim)).iff fun a=>⟨fun z=>z.elim,fun z=>z.elim id id⟩)
            by_cases q:j=k
            · rw [if_pos q,if_pos q];exact hx
            · rw [if_neg q,if_neg q];exact h1.z
    exact this hl h
  · rw [if_neg c,if_neg c,if_neg c];refine ⟨us++[w],?_,?_,by simp [hl]⟩
    · rw [List.zip_append hl2];rfl
    · exact (Reps.app (P:=nop) (Q:=nop) h.z ((Reps.cons (P1:=nop) (P2:=nop) hx Reps.nil fun _ z=>z.elim).iff fun a=>⟨fun z=>z.elim,fun z=>z.elim id id⟩) fun _ z=>z.elim).iff fun a=>⟨fun z=>z.elim,fun z=>z.elim id id⟩
theorem XM {o:Nat} {ks:List Ax} {ds:List Dv} {v:V} {P:Fp} (h:Rep K g H o (.dct ks ds) v P):∃ a us,v=.ref a/\H a=some (.dK (ks.zip us))/\ks.length=ds.length/\Reps K g H 0 ds us nop:=by
 unfold Rep at h;obtain ⟨a,us,e,h1,_,_,⟨h5,R,h6⟩,_⟩:=h;exact ⟨a,us,e,h1,h5,h6.z⟩
theorem Wc {ks:List Ax} {ds:List Dv} {v:V} {P:Fp} (h:Rep K g H 1 (.dct ks ds) v P):∃ a us,v=.ref a/\H a=some (.dK (ks.zip us))/\ks.length=ds.length/\Reps K g H 0 ds us nop /\
    ∀ ks' ds' us',ks'.length=ds'.length->Reps K g H 0 ds' us' nop->Step g P H g P (upd H a (.dK (ks'.zip us')))/\Rep K g (upd H a (.dK (ks'.zip us'))) 1 (.dct ks' ds') (.ref a) P:=by
  have ok:=h.fpOk;unfold Rep at h;obtain ⟨a,us,e,h1,h2,h3,⟨h5,R,h6⟩,h4⟩:=h;have pa:P a:=(h4 a).mpr ⟨by decide,rfl⟩;refine ⟨a,us,e,h1,h5,h6.z,fun ks' ds' us' hl hr=>?_⟩;have st:Step g P H g P (upd H a (.dK (ks'.zip us'))):=by
    refine ⟨fun b o hb n=>?_,fun b hb=>?_,fun _ z=>z,fun _ z=>.inl z,⟨[],by simp⟩,fun _ z=>.inl z,fun z b hb q=>?_⟩
    · unfold upd;rw [if_neg fun e=>n (by rw [e];exact pa)];exact hb
    · unfold upd at hb;split at hb
      · cases hb
      · exact hb
    · unfold upd at q;split at q
      · cases q
      · exact z b hb q
  refine ⟨st,?_⟩;unfold Rep;exact ⟨a,us',rfl,by unfold upd;rw [if_pos rfl],(fun z=>(Nat.one_ne_zero z).elim),(fun _=>h3 (by decide)),⟨hl,nop,hr.held st ok fun _ z=>z.elim⟩,h4⟩
end
noncomputable abbrev Mu:=Dv->List Dv->Option (Dv×Dv)
def VT (K:W.Frag) (p:Mu) (R:V->List V->Hp->VK->Prop):Prop:=∀ g H x v P ds us r y Q,Zd g H->Rep K g H 1 x v P->Reps K g H 0 ds us nop->p x ds=some (r,y) ->
 (∀ w H' P',Step g P H g P' H'->Rep K g H' 1 y v P'->Rep K g H' 0 r w nop->Q w H')->R v us H Q
noncomputable def kind:Dv->String
 | .lst _ => "list"
 | .scr _ => "list"
 | .str _ => "str"
 | .int _ => "int"
 | .dti _ => "dict"
 | .dct _ _ => "dict"
 | .tup _ => "tuple"
 | _ => "?"
def Cc {α:Type} (T:String) (d:Dv) (o:Option α):Option α:=if kind d=T then o else none
theorem DK {α:Type} {T:String} {d:Dv} {o:Option α} {a:α} (h:Cc T d o=some a):kind d=T/\o=some a:=by
 unfold Cc at h;split at h
 ·rename_i z;exact ⟨z,h⟩
 ·cases h
def Tj (T:String) (i:Nat) (p:Mu) (fa:Ev (List Dv)):Ev Dv:=fun R m k=>Cc T (m.at i) (fa R m fun ds m1=>(p (m1.at i) ds).bind fun r=>k r.1 (m1.set i r.2))
section
variable {K:W.Frag} {g:G} {H:Hp} {σ:St} {Γ Γ':Gm} {js:List Nat} {as:List Ar}
theorem Ls {o:Nat} {d:Dv} {v:V} {P:Fp} {T:String} (h:Rep K g H o d v P) (e:kind d=T) (hT:T = "list" \/ T = "str" \/ T = "int" \/ T = "dict"):iM K T v H:=by
 subst e;cases d with
 | lst ds=>unfold Rep at h;obtain ⟨a,vs,P',rfl,h1,_⟩:=h;exact .inl ⟨rfl,vs,.inl (.inl h1.1)⟩
 | scr ns=>unfold Rep at h;obtain ⟨⟨a,rfl,h1⟩,_⟩:=h;exact .inl ⟨rfl,_,h1.sq⟩
 | str l=>unfold Rep at h;rw [h.1];rfl
 | int i=>unfold Rep at h;rw [h.1];rfl
 | dti l=>unfold Rep at h;obtain ⟨a,rfl,h1,_⟩:=h;exact .inr (.inr (.inl ⟨rfl,.inr ⟨_,h1⟩⟩))
 | dct ks l=>unfold Rep at h;obtain ⟨a,vs,rfl,h1,_⟩:=h;exact .inr (.inr (.inl ⟨rfl,.inl ⟨_,h1⟩⟩))
 | _=>rcases hT with h | h | h | h<;>simp [kind] at h
theorem Wo {T:String} {i:Nat} {p:Mu} {R:V->List V->Hp->VK->Prop} (hR:VT K p R) (hT:T = "list" \/ T = "str" \/ T = "int" \/ T = "dict") (c:AD Γ as Γ' js) (he:evd as=true) (h0:∃ o,Γ[i]?=some (some o)) (hi:Γ'[i]?=some (some 1)) {Q:VK}
    (h:tE K Γ 0 Γ' (js++[i]) (Tj T i p (AR as)) σ H Q):eL K T R (Gh i) (BN K as) σ H Q:=by
  obtain ⟨g,m,P,r,R',k,res,e,q⟩:=h;obtain ⟨e0,e⟩:=DK e;obtain ⟨o0,h0⟩:=h0;obtain ⟨v0,P0,ev0,rv0,_⟩:=r.see h0;refine ⟨v0,ev0,Ls rv0 e0 hT,AM as r c e fun ds m1 g1 P1 vs H1 hk ag s ar r1=>?_⟩;obtain ⟨⟨rs,y⟩,e1,e2⟩:=bind_some' hk;obtain ⟨v,Pa,Pr,ev,em,rv,r2,n,hP⟩:=r1.take hi;rw [ev0] at ev;cases ev;refine hR g1 H1 _ v0 Pa ds vs rs y Q r1.zd rv (ar.reps he) e1 fun w H2 P' s2 ry rr=>?_
  have r3:=r2.held s2 rv.fpOk fun a q z=>n a z q
  have n3:=s2.out r2.fpOk fun a q z=>n a z q
  have hil:i < Γ'.length:=(lD.mp hi).1;obtain ⟨P4,r4,sp⟩:=r3.putIn hil ev0 ry fun a q z=>n3 a z q
  rw [Gs hi] at r4;refine q rs _ g1 P4 nop w H2 e2 (ag.trans BU.set) (s.trans ((s2.frame (R:=Pr)).sub (fun a z=>(hP a).mpr z) fun a z=>z.elim (fun z=>sp a z) False.elim)) rr r4 fun _ _ z=>z
theorem Step.upd {a:Addr} {o:HO} {P':Fp} (h:H a≠none) (hs:∀ b,P' b->b=a\/H b=none):Step g (fun b=>b=a) H g P' (upd H a o):=by
 have dm:∀ b,L2.upd H a o b=none->H b=none:=fun b q=>by
  by_cases hb:b=a
  ·subst hb;rw [BM] at q;cases q
  ·rw [AU hb] at q;exact q
 exact ⟨fun b u q n=>by rw [AU n];exact q,dm,fun _ q=>q,fun _ q=>.inl q,⟨[],by simp⟩,hs,fun z b q e=>z b q (dm b e)⟩
theorem GV {xs:List Dv} {v:V} {P:Fp} (h:Rep K g H 1 (.lst xs) v P):∃ a vs,v=.ref a/\H a=some (.lst vs)/\¬ g.Z a/\Reps K g H 0 xs vs nop/\(∀ b,P b↔b=a) /\
    ∀ ws,Step g P H g P (upd H a (.lst ws))/\(∀ {d:Dv} {u:V},Rep K g H 0 d u nop->Rep K g (upd H a (.lst ws)) 0 d u nop)/\∀ ys,Reps K g H 0 ys ws nop->Rep K g (upd H a (.lst ws)) 1 (.lst ys) (.ref a) P:=by
  unfold Rep at h;obtain ⟨a,vs,P',rfl,h1,h2,h3,h5⟩:=h;have hP:∀ b,P b↔b=a:=fun b=>by rw [h5 b];exact ⟨fun z=>z.elim (fun z=>z.2) fun z=>(h2.none0 b z).elim,fun z=>.inl ⟨by decide,z⟩⟩
  have eP:P=fun b=>b=a:=funext fun b=>propext (hP b)
  have hz:=h1.2.2 (by decide);have oka:FpOk g H fun b=>b=a:=fun b q=>by subst q;exact ⟨by rw [h1.1];trivial,hz⟩
  refine ⟨a,vs,rfl,h1.1,hz,h2.z,hP,fun ws=>?_⟩;have st:Step g (fun b=>b=a) H g (fun b=>b=a) (upd H a (.lst ws)):=Step.upd (by rw [h1.1];simp) fun b z=>.inl z
  refine ⟨by rw [eP];exact st,fun r=>r.held st oka fun _ z=>z.elim,fun ys r=>?_⟩;unfold Rep;exact ⟨a,ws,nop,rfl,⟨BM,(fun z=>by cases z),fun _=>hz⟩,r.held st oka fun _ z=>z.elim,fun z=>z,fun b=>by rw [hP b];exact ⟨fun z=>.inl ⟨by decide,z⟩,fun z=>z.elim (fun z=>z.2) False.elim⟩⟩
theorem CY:∀ {ds:List Dv} {vs:List V},Reps K g H 0 ds vs nop↔ds.length=vs.length/\∀ (i:Nat) (d:Dv) (v:V),ds[i]?=some d->vs[i]?=some v->Rep K g H 0 d v nop
 | [],vs=>⟨fun h=>⟨h.len,fun i d v e=>by simp at e⟩,fun h=>by
  have:vs=[]:=mI h.1.symm;subst this;exact Reps.nil⟩
 | x::xs,vs=>by
  refine ⟨fun h=>⟨h.len,fun i d v e1 e2=>?_⟩,fun h=>?_⟩
  ·obtain ⟨v',P,e',r,_⟩:=h.get e1;rw [e2] at e';cases e';exact r.z
  ·cases vs with
   | nil=>simp at h
   | cons v vs =>
    exact (Reps.cons (h.2 0 x v rfl rfl) (CY.mpr ⟨by simpa using h.1,fun i d u e1 e2=>h.2 (i+1) d u (by simpa using e1) (by simpa using e2)⟩) fun _ z=>z.elim).iff fun a=>⟨fun z=>z.elim,fun z=>z.elim id id⟩
theorem Bo {ds es:List Dv} {vs us:List V} (h:Reps K g H 0 ds vs nop) (k:Reps K g H 0 es us nop):Reps K g H 0 (ds++es) (vs++us) nop:=(Reps.app h k fun _ z=>z.elim).iff fun a=>⟨fun z=>z.elim,fun z=>z.elim id id⟩
theorem Fi {d:Dv} {v:V} (h:Rep K g H 0 d v nop):Reps K g H 0 [d] [v] nop:=(Reps.cons h Reps.nil fun _ z=>z.elim).iff fun a=>⟨fun z=>z.elim,fun z=>z.elim id id⟩
theorem BO {d:Dv} {ds:List Dv} {vs:List V} (h:Reps K g H 0 (d::ds) vs nop):∃ v us,vs=v::us/\Rep K g H 0 d v nop/\Reps K g H 0 ds us nop:=by
 unfold Reps at h;obtain ⟨v,r,P1,P2,rfl,h1,h2,_⟩:=h;exact ⟨v,r,rfl,h1.z,h2.z⟩
theorem BL {vs:List V} (h:Reps K g H 0 [] vs nop):vs=[]:=by unfold Reps at h;exact h.1
theorem PR {ds:List Dv} {vs:List V} {d:Dv} {v:V} (j:Nat) (h:Reps K g H 0 ds vs nop) (r:Rep K g H 0 d v nop):Reps K g H 0 (ds.set j d) (vs.set j v) nop:=by
 have h0:=CY.mp h;refine CY.mpr ⟨by simp [h0.1],fun i x y e1 e2=>?_⟩;rcases DY e1 with ⟨rfl,rfl⟩ | ⟨n,e1⟩
 ·rcases DY e2 with ⟨_,rfl⟩ | ⟨n,_⟩
  ·exact r
  ·exact (n rfl).elim
 ·rcases DY e2 with ⟨z,_⟩ | ⟨_,e2⟩
  ·exact (n z).elim
  ·exact h0.2 i x y e1 e2
theorem Fk {o:Nat}:Rep K g H o .non .non nop:=by unfold Rep;exact ⟨rfl,fun _ z=>z⟩
noncomputable def AS (x:Dv) (ds:List Dv):Option (Dv×Dv):=match x,ds with
 | .lst xs,[d]=>if xs.length<=1000000 then some (.non,.lst (xs++[d])) else none
 | _,_=>none
noncomputable def RH (x:Dv) (ds:List Dv):Option (Dv×Dv):=match x,ds with
 | .lst xs,[]=>match xs.getLast? with
  | some d=>some (d,.lst xs.dropLast)
  | none=>none
 | _,_=>none
noncomputable def Ds (x:Dv) (ds:List Dv):Option (Dv×Dv):=match x,ds with
 | .lst xs,[.lst ys]=>if xs.length+ys.length<=1000000 then some (.non,.lst (xs++ys)) else none
 | _,_=>none
theorem Pl:VT K AS OC:=fun g H x v P ds us r y Q zd rx rd e k=>by
 unfold AS at e;split at e
 ·rename_i xs d;split at e
  ·rename_i hl;cases e;obtain ⟨a,vs,rfl,ha,hz,hx,hP,go⟩:=GV rx;obtain ⟨u,us',rfl,hu,h2⟩:=BO rd;cases BL h2;obtain ⟨s,hd,mk⟩:=go (vs++[u]);exact ⟨a,vs,u,rfl,rfl,ha,nk (by rw [<- hx.len];exact hl) (by decide),k _ _ P s (mk _ (Bo hx (Fi hu))) Fk⟩
  ·cases e
 ·cases e
theorem bB:VT K RH fI:=fun g H x v P ds us r y Q zd rx rd e k=>by
 unfold RH at e;split at e
 ·rename_i xs;split at e
  ·rename_i d el;cases e;obtain ⟨a,vs,rfl,ha,hz,hx,hP,go⟩:=GV rx;cases BL rd;obtain ⟨s,hd,mk⟩:=go vs.dropLast;have h0:=CY.mp hx;rw [List.getLast?_eq_getElem?] at el;obtain ⟨u,P1,e2,r2,_⟩:=hx.get el;refine ⟨a,vs,u,rfl,rfl,ha,by rw [<- h0.1];exact e2,k _ _ P s (mk _ ?_) (hd r2.z)⟩;refine CY.mpr ⟨by simp [h0.1],fun i d v e3 e4=>?_⟩;rw [List.getElem?_dropLast] at e3 e4;split at e3
   ·split at e4
    ·exact h0.2 i d v e3 e4
    ·cases e4
   ·cases e3
  ·cases e
 ·cases e
theorem Pk:VT K Ds OB:=fun g H x v P ds us r y Q zd rx rd e k=>by
 unfold Ds at e;split at e
 ·rename_i xs ys;split at e
  ·rename_i hl;cases e;obtain ⟨a,vs,rfl,ha,hz,hx,hP,go⟩:=GV rx;obtain ⟨u,us',rfl,hu,h2⟩:=BO rd;cases BL h2;unfold Rep at hu;obtain ⟨b,ws,P',rfl,h1,h3,_⟩:=hu;obtain ⟨s,hd,mk⟩:=go (vs++ws);exact ⟨a,b,vs,ws,rfl,rfl,ha,h1.1,lR (by rw [<- hx.len,<- h3.len];exact hl) (by decide),k _ _ P s (mk _ (Bo hx h3.z)) Fk⟩
  ·cases e
 ·cases e
end
def Yr (i:Nat) (p:Dv->Dv->Dv->Option Dv) (f:Ev Dv) (fk:Ev (List Dv)):Es:=fun R m k=>f R m fun d m1=>fk R m1 fun ks m2=>match ks with | [j]=>(p (m2.at i) j d).bind fun y=>k.nx (m2.set i y) | _=>none
def Bc (x k d:Dv):Option Dv:=match x,k with
 | .lst xs,.int k=>(Me xs.length k).bind fun j=>some (.lst (xs.set j d))
 | .dct ks ds,k=>(IX k).bind fun k=>if ks.length<=1000000 then some (.dct (UN k ks) (UL k d ks ds)) else none
 | _,_=>none
def dR (K:W.Frag) (p:Dv->Dv->Dv->Option Dv) (T:NU):Prop:=∀ g H x v P j vj d u y (Q:Hp->Prop),Zd g H->Rep K g H 1 x v P->RA K g H [j] [vj]->Rep K g H 0 d u nop->p x j d=some y->(∀ H' P',Step g P H g P' H'->Rep K g H' 1 y v P'->Q H')->T v vj u H Q
theorem Zk {K:W.Frag}:dR K Bc (fun o i v H Q=>SS o i v H Q\/kN o i v H Q):=fun g H x v P j vj d u y Q zd rx rj rd e q=>by
 unfold Bc at e;split at e
 ·rename_i xs kk;obtain ⟨jj,ej,e⟩:=bind_some' e;cases e;obtain ⟨a,vs,rfl,ha,hz,hx,hP,go⟩:=GV rx;unfold RA at rj;obtain ⟨w,wr,o,Po,ew,_,rw',_⟩:=rj;cases ew;rw [rep_int rw'];obtain ⟨s,hd,mk⟩:=go (vs.set jj u);exact .inl ⟨a,vs,kk,jj,rfl,rfl,ha,by rw [<- hx.len];exact ej,q _ P s (mk _ (PR jj hx rd))⟩
 ·rename_i ks ds;obtain ⟨k,ek,e⟩:=bind_some' e;split at e
  ·rename_i hl;cases e;obtain ⟨a,us,rfl,ha,hl2,hx,go⟩:=Wc rx;unfold RA at rj;obtain ⟨w,wr,o,Po,ew,_,rw',_⟩:=rj;cases ew;obtain ⟨us',e1,e2,e3⟩:=UM (k:=k) hl2 hx rd;obtain ⟨s,mk⟩:=go _ _ us' e3 e2;refine .inr ⟨a,_,rfl,?_,q _ P s mk⟩;rw [Jc rw' ek,<- e1];refine VW.k ha ?_;have:(ks.zip us).length<=ks.length:=by rw [List.length_zip];omega
   have z:(1000000:Nat) < sizeLine:=by decide
   omega
  ·cases e
 ·cases e
section
variable {K:W.Frag} {F:Fr} {Γl:Option Gm} {Γ Γ1 Γ':Gm} {js js2:List Nat} {i:Nat} {f:Ev Dv} {a:Ar} {p:Dv->Dv->Dv->Option Dv} {T:NU}
theorem SD (hp:dR K p T) (c:AD Γ1 [a] Γ' js2) (h0:∃ o,Γ1[i]?=some (some o)) (hi:Γ'[i]?=some (some 1)) {D:Ends} {σ:St} {H:Hp} (h:tS K F Γl Γ (some Γ') (js++(js2++[i])) (Yr i p f (AR [a])) D σ H):Lz (tE K Γ 0 Γ1 js f) (gM (Gh i) (Hj K a) T) D σ H:=by
 obtain ⟨g,m,P,r,R,k,res,e,q⟩:=h;refine ⟨g,m,P,r,R,_,res,e,fun d m1 g1 P1 Pv u H1 hk ag s rv r1 n=>?_⟩;obtain ⟨o0,h0⟩:=h0;obtain ⟨v0,P0,ev0,_,_⟩:=r1.see h0;refine ⟨v0,ev0,?_⟩;have rz:=rv.z;have s':Step g P H g1 P1 H1:=s.less fun _ z=>.inl z
 have key:BN K [a] σ H1 fun vs H2=>∃ w,vs=[w]/\T v0 w u H2 fun H3=>D.nx σ H3:=by
  refine AM [a] r1 c hk fun ds m2 g2 P2 vs H2 hk2 ag2 s2 ar r2=>?_
  have al:=ar.len;have ra:=ar.ra r2
  match ds,al.1,hk2,ra with
  | [j],_,hk2,ra =>
   have ra0:=ra;unfold RA at ra;obtain ⟨w,wr,o,Po,rfl,_,h1,h2⟩:=ra;unfold RA at h2;subst h2;obtain ⟨y,e1,e2⟩:=bind_some' hk2;obtain ⟨v,Pa,Pr,ev,em,rx,r3,n3,hP⟩:=r2.take hi;rw [ev0] at ev;cases ev;refine ⟨w,rfl,hp g2 H2 _ v0 Pa j w d u y _ r2.zd rx ra0 (rz.held s2 r1.fpOk fun _ z=>z.elim) e1 fun H3 P' s3 ry=>?_⟩;have r4:=r3.held s3 rx.fpOk fun a q z=>n3 a z q
   have n4:=s3.out r3.fpOk fun a q z=>n3 a z q
   obtain ⟨P5,r5,sp⟩:=r4.putIn (lD.mp hi).1 ev0 ry fun a q z=>n4 a z q
   rw [Gs hi] at r5;exact q.nx Γ' _ g2 P5 σ H3 rfl e2 (ag.trans (ag2.trans BU.set)) ((s'.trans s2).trans ((s3.frame (R:=Pr)).sub (fun a z=>(hP a).mpr z) fun a z=>sp a z)) Io.refl r5
 have mono:∀ (Q1 Q2:VK),(∀ v H,Q1 v H->Q2 v H)->Hj K a σ H1 Q1->Hj K a σ H1 Q2:=by
  intro Q1 Q2 h12 t;cases a with
  | ev Γa Γb ja fa =>
   obtain ⟨g,m,P,r,R,k,res,e,q⟩:=t;exact ⟨g,m,P,r,R,k,res,e,fun d m' g' P' Pv v H' h1 h2 h3 h4 h5 h6=>h12 _ _ (q d m' g' P' Pv v H' h1 h2 h3 h4 h5 h6)⟩
  | rf i=>obtain ⟨v,e,q⟩:=t;exact ⟨v,e,h12 _ _ q⟩
 refine mono _ _ (fun v H2 z=>?_) key;obtain ⟨w,ew,z⟩:=z;cases ew;exact z
end
def Tn (T:String) (a:Ar) (as:List Ar) (p:Pr):Ev Dv:=match a with
 | .rf i=>fun R m k=>Cc T (m.at i) (AR as R m fun ds m1=>(p (m1.at i::ds)).bind fun d=>k d m1)
 | .ev _ _ _ f=>fun R m k=>f R m fun x m1=>Cc T x (AR as R m1 fun ds m2=>(p (x::ds)).bind fun d=>k d m2)
def dU (r:V->List V->Hp->VK->Prop):Ou:=fun vs H Q=>match vs with | x::us=>r x us H Q | _=>False
theorem bC {K:W.Frag} {σ:St} {H:Hp} {Γ Γ':Gm} {js:List Nat} {T:String} {a:Ar} {as:List Ar} {p:Pr} {o:Nat} {r:V->List V->Hp->VK->Prop} (hp:AG K p o (dU r)) (hT:T = "list" \/ T = "str" \/ T = "int" \/ T = "dict") (c:AD Γ (a::as) Γ' js) {Q:VK}
    (h:tE K Γ o Γ' js (Tn T a as p) σ H Q):eL K T r (Hj K a) (BN K as) σ H Q:=by
  obtain ⟨g,m,P,rl,R',k,res,e,q⟩:=h;cases a with
  | rf i =>
    obtain ⟨e0,e⟩:=DK e;unfold AD at c;obtain ⟨⟨o0,h0⟩,⟨o1,hl1,h1⟩,c⟩:=c;obtain ⟨v0,P0,ev0,rv0,_⟩:=rl.see h0;refine ⟨v0,ev0,Ls rv0 e0 hT,AM as rl c e fun ds m1 g1 P1 vs H1 hk ag s ar r1=>?_⟩;obtain ⟨d,e1,e2⟩:=bind_some' hk;obtain ⟨v1,P1',ev1,rv1,_⟩:=r1.see h1;rw [ev0] at ev1;cases ev1;refine hp g1 H1 _ (v0::vs) d Q r1.zd (by unfold RA;exact ⟨v0,vs,o1,P1',rfl,hl1,rv1,ar.ra r1⟩) e1 fun v H2 nw=>?_
    obtain ⟨Pv,s2,h1,r2,n2⟩:=Ab.go s r1 nw;exact q d m1 g1 P1 Pv v H2 e2 ag s2 h1 r2 n2
  | ev Γ1 Γ2 js1 f =>
    unfold AD at c;obtain ⟨rfl,js2,rfl,c⟩:=c;refine ⟨g,m,P,rl,R',_,res,e,fun x m1 g1 P1 Pv v0 H1 hk ag s rv r1 n=>?_⟩;obtain ⟨e0,hk⟩:=DK hk;have rz:=rv.z;have s':Step g P H g1 P1 H1:=s.less fun _ z=>.inl z
    refine ⟨Ls rz e0 hT,AM as r1 c hk fun ds m2 g2 P2 vs H2 hk2 ag2 s2 ar r2=>?_⟩;obtain ⟨d,e1,e2⟩:=bind_some' hk2;refine hp g2 H2 _ (v0::vs) d Q r2.zd (by unfold RA;exact ⟨v0,vs,0,nop,rfl,by decide,rz.held s2 r1.fpOk fun _ z=>z.elim,ar.ra r2⟩) e1 fun v H3 nw=>?_
    obtain ⟨Pw,s3,h1,r3,n3⟩:=Ab.go (s'.trans s2) r2 nw;exact q d m2 g2 P2 Pw v H3 e2 (ag.trans ag2) s3 h1 r3 n3
theorem Wq {K:W.Frag} {σ:St} {H:Hp} {Γ Γ':Gm} {js:List Nat} {a:Ar} {as:List Ar} {p:Pr} {o:Nat} {r:V->List V->Hp->VK->Prop} (hp:AG K p o (dU r)) (c:AD Γ (a::as) Γ' js) {Q:VK}
    (h:tE K Γ o Γ' js (Tn "tuple" a as p) σ H Q):iu r (Hj K a) (BN K as) σ H Q:=by
  obtain ⟨g,m,P,rl,R',k,res,e,q⟩:=h
  have ty:∀ {g:G} {H:Hp} {o:Nat} {d:Dv} {v:V} {P:Fp},Rep K g H o d v P->kind d = "tuple" -> ∃ a us,v=.ref a/\H a=some (.tup us):=fun {g H o d v P} h e=>by
    cases d with
    | tup ds=>unfold Rep at h;obtain ⟨a,vs,rfl,h1,_⟩:=h;exact ⟨a,vs,rfl,h1⟩
    | _=>simp [kind] at e
  cases a with
  | rf i =>
    obtain ⟨e0,e⟩:=DK e;unfold AD at c;obtain ⟨⟨o0,h0⟩,⟨o1,hl1,h1⟩,c⟩:=c;obtain ⟨v0,P0,ev0,rv0,_⟩:=rl.see h0;refine ⟨v0,ev0,ty rv0 e0,AM as rl c e fun ds m1 g1 P1 vs H1 hk ag s ar r1=>?_⟩;obtain ⟨d,e1,e2⟩:=bind_some' hk;obtain ⟨v1,P1',ev1,rv1,_⟩:=r1.see h1;rw [ev0] at ev1;cases ev1;refine hp g1 H1 _ (v0::vs) d Q r1.zd (by unfold RA;exact ⟨v0,vs,o1,P1',rfl,hl1,rv1,ar.ra r1⟩) e1 fun v H2 nw=>?_
    obtain ⟨Pv,s2,h1,r2,n2⟩:=Ab.go s r1 nw;exact q d m1 g1 P1 Pv v H2 e2 ag s2 h1 r2 n2
  | ev Γ1 Γ2 js1 f =>
    unfold AD at c;obtain ⟨rfl,js2,rfl,c⟩:=c;refine ⟨g,m,P,rl,R',_,res,e,fun x m1 g1 P1 Pv v0 H1 hk ag s rv r1 n=>?_⟩;obtain ⟨e0,hk⟩:=DK hk;have rz:=rv.z;have s':Step g P H g1 P1 H1:=s.less fun _ z=>.inl z
    refine ⟨ty rz e0,AM as r1 c hk fun ds m2 g2 P2 vs H2 hk2 ag2 s2 ar r2=>?_⟩;obtain ⟨d,e1,e2⟩:=bind_some' hk2;refine hp g2 H2 _ (v0::vs) d Q r2.zd (by unfold RA;exact ⟨v0,vs,0,nop,rfl,by decide,rz.held s2 r1.fpOk fun _ z=>z.elim,ar.ra r2⟩) e1 fun v H3 nw=>?_
    obtain ⟨Pw,s3,h1,r3,n3⟩:=Ab.go (s'.trans s2) r2 nw;exact q d m2 g2 P2 Pw v H3 e2 (ag.trans ag2) s3 h1 r3 n3
def evOr (f g:Ev Dv):Ev Dv:=fun R m k=>(f R m k).or (g R m k)
theorem ZV {K:W.Frag} {Γ Γ':Gm} {js:List Nat} {σ:St} {H:Hp} {o:Nat} {f g:Ev Dv} {Q:VK} (h:tE K Γ o Γ' js (evOr f g) σ H Q):tE K Γ o Γ' js f σ H Q\/tE K Γ o Γ' js g σ H Q:=by
 obtain ⟨g0,m,P,r,R,k,res,e,q⟩:=h;unfold evOr at e;cases e1:f R m k with
 | some z=>rw [e1] at e;exact .inl ⟨g0,m,P,r,R,k,z,e1,by cases e;exact q⟩
 | none=>rw [e1] at e;exact .inr ⟨g0,m,P,r,R,k,res,e,q⟩
end R
namespace L2
open PySem PySem.Spec PyProof.Rows
open AutoSeq1 (wpAny_loadPart')
section
variable {prog:Program} {w:World} {A:Around} {E:Value->Shared->Prop} {s:Shared}
theorem Hq {r:Addr} {a b c:Int} {t u v:Tok} {n:Nat} {Q:List Value->Shared->Prop} (hh:A.handled=none) (hr:IsRange s.heap r a b c t u v) (hsmall:Builtin.Range.small a b c=true) (hn:Builtin.Range.rangeSize a b c=n) (hlen:n<=2 ^ 20)
    (hQ:∀ (h':Heap) (tk:Nat) (acc:Array Value),(∀ b o,s.heap.get? b=some o->h'.get? b=some o)->ItemsOf (fun i v=>∃ t,v=.int (a+i * c) t) acc n->Q acc.toList { s with heap:=h',toks:=tk }):wpAny (model prog w) A (collect (.ref r)) Q E s:=by
  unfold collect;refine wpAny_bind (wpAny_runValue (codeAny_builtin F.entry_proto_collect ?_));rw [Around.under_plainId F.plain_proto_collect _]
  show wpAny _ A.in1 (newList [] >>= fun l=>again (.builtin "list.__iadd__" ⟨[l,.ref r],[]⟩)) _ _ s
  refine wpAny_bind (wpAny_newObj_type ?_);refine wpAny_pure ⟨plainId_quiet F.plain_list_iadd _,codeAny_builtin F.entry_list_iadd ?_⟩;rw [Around.under_plainId F.plain_list_iadd _]
  have hS:(s.heap.push { cls:=.type "list", data:=.seq ([]:List Value).toArray }).get? s.heap.objs.size=some { cls:=.type "list", data:=.seq #[] 0 }:=lT _ rfl
  show wpAny _ A.in1 (Builtin.List.listExtendWith (.ref s.heap.objs.size) (.ref r) (.ref s.heap.objs.size)) _ _ _;refine wpAny_extend_range (A:=A) (prog:=prog) (w:=w) (R:=fun r s'=>match r with
    | Except.ok (Flow.ret v)=>wpAny (model prog w) A (match v with
      | Value.ref a=>do
        let o <- load a
        match o.data with
        | Data.seq xs _=>pure xs.toList
        | _=>unsupported "internal:collect"
      | _=>unsupported "internal:collect") Q E s'
    | Except.ok _=>False
    | Except.error e=>E e s') (s:={ s with heap:=s.heap.push { cls:=.type "list", data:=.seq ([]:List Value).toArray } }) hh (lC _ hr) hsmall hn (by omega) s.heap.objs.size (.ref s.heap.objs.size) 0 hS fun h' tk acc' c' hk hS' hacc=>?_
  show wpAny _ A (load s.heap.objs.size >>= _) _ _ _;refine wpAny_bind (wpAny_load hS' ?_);exact wpAny_pure (hQ h' tk acc' (fun b o e=>hk b o (lq (lQ e)) (lC _ e)) hacc)
end
theorem Cr (r:Addr) (a b c:Int) (t u v:Tok) (n:Nat) (hsmall:Builtin.Range.small a b c=true) (hn:Builtin.Range.rangeSize a b c=n) (hlen:n<=2 ^ 20) :
    Meets (Builtin.«tuple.__new__» ⟨[.type "tuple", .ref r],[]⟩)
      (fun A R s=>A.handled=none/\IsRange s.heap r a b c t u v/\∀ (h':Heap) (tk:Nat) (acc:Array Value),(∀ b o,s.heap.get? b=some o->h'.get? b=some o)->ItemsOf (fun i v=>∃ t,v=.int (a+i * c) t) acc n ->
        R (.ok (.ret (.ref h'.objs.size))) { s with heap:=h'.push { cls:=.type "tuple", data:=.seq acc },toks:=tk }):=
  .of_wp fun prog w A R s h=>by
    obtain ⟨hh,hr,h⟩:=h;have hsub:=sub_tuple_self;have hinit:=init_tuple_lookup;have hmh:=madeHere_tuple
    have hT:s.TypeIs (.ref r) "range" := ⟨_,hr,rfl⟩
    have hh1:A.in1.handled=none:=hh
    wp_walk using wpAny_typeOf hT,Hq hh1 hr hsmall hn hlen
    intro h' tk acc hk hacc;show wpAny _ _ (Builtin.Tuple.tupleExact acc.toList.toArray >>= fun v=>ret v) _ _ _;unfold Builtin.Tuple.tupleExact;refine wpAny_bind (wpAny_newObj_type ?_ (show acc.toList.toArray.size<=sizeLine by simp only [Array.toArray_toList];rw [hacc.1,sizeLine_eq];omega));refine wpAny_pure ⟨_,rfl,?_⟩;have e:acc.toList.toArray=acc:=by simp
    rw [e];exact h h' tk acc hk hacc
theorem GD {prog:Program} {w:World} {A:Around} {E:Value->Shared->Prop} {s:Shared} {Q:Value->Shared->Prop} {r:Addr} {a b c:Int} {t u v:Tok} {n:Nat} (hh:A.handled=none) (hr:IsRange s.heap r a b c t u v) (hsmall:Builtin.Range.small a b c=true) (hn:Builtin.Range.rangeSize a b c=n) (hlen:n<=2 ^ 20)
    (h:∀ (h':Heap) (tk:Nat) (acc:Array Value),(∀ b o,s.heap.get? b=some o->h'.get? b=some o)->ItemsOf (fun i v=>∃ t,v=.int (a+i * c) t) acc n->Q (.ref h'.objs.size) { s with heap:=h'.push { cls:=.type "tuple", data:=.seq acc },toks:=tk }) :
    wpAny (model prog w) A (call (.type "tuple") [.ref r]) Q E s:=by
  refine callType_new F.called_tuple (by decide) (F.typeCall_tuple_1 _) (F.newCall_tuple_1 _) (fun obj=>F.args_object_init_2 obj _) F.entry_tuple_new
    (Cr r a b c t u v n hsmall hn hlen) ⟨hh,hr,fun h' tk acc hk hacc=>⟨⟨_,lT _ rfl,rfl⟩,h h' tk acc hk hacc⟩⟩
section
variable {X:Cx} {p1 p2 pos1 pos2:Pos} {es:List Expr} {e:Expr} {ta:TA}
abbrev Nj (ta:TA):TE:=fun σ H Q=>ta σ H fun vs H1=>∃ (i j:Int),(vs=[.int j]/\i=0\/vs=[.int i,.int j])/\(-(2 ^ 62)<=i/\i < 2 ^ 62/\-(2 ^ 62)<=j/\j < 2 ^ 62)/\(j - i).toNat<=1000000/\∀ l,H1 l=none->Q (.ref l) (upd H1 l (.tup ((List.range (j - i).toNat).map fun k=>.int (i+(k:Nat)))))
theorem IS {A:Around} {E:Value->Shared->Prop} {pins:List (Addr×Obj)} {σ:St} {H:Hp} {s:Shared} {Q:VK} {i j:Int} {t u v:Tok} {tk:Nat} (hh:A.handled=none) (I:Inv X pins σ H s) (h1:-(2 ^ 62)<=i) (h2:i < 2 ^ 62) (h3:-(2 ^ 62)<=j) (h4:j < 2 ^ 62) (hl:(j - i).toNat<=1000000)
    (q:∀ l,H l=none->Q (.ref l) (upd H l (.tup ((List.range (j - i).toNat).map fun k=>.int (i+(k:Nat)))))) :
    wpAny (model X.prog X.w) A (call (.type "tuple") [.ref s.heap.objs.size]) (fun v s'=>∃ x H',Inv X pins σ H' s'/\RelV x v/\Q x H') E { s with heap:=s.heap.push { cls:=.type "range", data:=.fields #[.int i t,.int j u,.int 1 v] },toks:=tk }:=by
  have hr:Builtin.Range.rangeSize i j 1=((j - i).toNat:Nat):=by rw [rangeSize_one];split<;>omega
  refine GD (n:=(j - i).toNat) hh (IsRange.new ..) (small_one h1 h2 h3 h4) hr (by omega) fun h' tk' acc hk hacc=>?_
  have kp:∀ b o,s.heap.get? b=some o->h'.get? b=some o:=fun b o e=>hk b o (lC _ e)
  have hsz:(s.heap.push { cls:=.type "range", data:=.fields #[.int i t,.int j u,.int 1 v] }).objs.size=s.heap.objs.size+1:=mS ..
  have hv:AE ((List.range (j - i).toNat).map fun k=>V.int (i+(k:Nat))) acc.toList:=by
    have:∀ (n m:Nat) (l:List Value),l.length=n->(∀ (q:Nat) (v:Value),l[q]?=some v->∃ t,v=.int (i+((m+q:Nat):Int)) t)->AE ((List.range' m n).map fun k=>V.int (i+(k:Nat))) l:=by
      intro n
      induction n with
      | zero=>intro m l e _;cases l with | nil=>exact .nil | cons a b=>cases e
      | succ n ih =>
        intro m l e h;cases l with
        | nil=>cases e
        | cons a b =>
          rw [oG,lI];refine .cons ?_ (ih (m+1) b (by simpa using e) fun q v hv=>?_)
          · obtain ⟨t,rfl⟩:=h 0 a rfl;exact ⟨t,rfl⟩
          · obtain ⟨t,rfl⟩:=h (q+1) v (by simpa using hv);exact ⟨t,by rw [Nat.add_assoc,Nat.add_comm 1 q]⟩
    rw [List.range_eq_range'];refine this (j - i).toNat 0 acc.toList (by simp [hacc.1]) fun q v hv=>?_
    obtain ⟨t,e⟩:=hacc.2 q v (by simpa using hv);exact ⟨t,by rw [e];simp⟩
  have I1:Inv X pins σ H { s with heap:=h',toks:=tk' }:=I.kept (t':=tk') kp;refine ⟨.ref h'.objs.size,_,I1.laid (t':=tk') (fun b o e=>lC _ e) (lJ _) (show AZ X.prog X.w _ _ _ (.tup ((List.range (j - i).toNat).map fun k=>.int (i+(k:Nat)))) from ⟨by rw [lZ,nC];exact lR hl (show 1000000<=sizeLine by decide),acc.toList,hv,?_⟩),rfl,q _ (I1.hok.fresh (lJ _))⟩;have:=GS.new h' acc;have e:acc.toList.toArray=acc:=by simp
  rw [e];exact this
theorem Pe (hc:X.calm=true) (hgL:Gl X "tuple") (hmL:X.mg "tuple" = none) (hgR:Gl X "range") (hmR:X.mg "range" = none) (ha:PA X (e::es) ta)
    (hs1:starEach [.Call (.Name "range" p2) (e::es) [] pos2] X.env=(false,eval (.Call (.Name "range" p2) (e::es) [] pos2) X.env)::starEach [] X.env:=by rfl)
    (hpl1:(backTo pos1 (starEach [] X.env)).any (·.1)=false:=by rfl)
    (hs2:starEach (e::es) X.env=(false,eval e X.env)::starEach es X.env:=by rfl) (hpl2:(backTo pos2 (starEach es X.env)).any (·.1)=false:=by rfl) :
    PE X (.Call (.Name "tuple" p1) [.Call (.Name "range" p2) (e::es) [] pos2] [] pos1) (Nj ta):=by
  intro pins s σ H Q I h;refine wpAny_Call_Name_kw (Bi I hgL hmL PyProof.Rows.Boot.«tuple» ?_ (by decide) (by decide));refine mD ?_ hs1 hpl1;rw [hs1]
  show wpAny _ _ (spliced ((false,eval (.Call (.Name "range" p2) (e::es) [] pos2) X.env)::backTo pos1 (starEach [] X.env))) _ _ s
  refine Calls.spliced_cons ?_;refine wpAny_Call_Name_kw (Bi I hgR hmR boot_range ?_ (by decide) (by decide));refine mD (Ak (ha pos2 pins s σ H _ I h) fun us s1 ⟨vs,H1,I1,r1,q1⟩=>?_) hs2 hpl2;obtain ⟨i,j,ev,⟨b1,b2,b3,b4⟩,hl,q⟩:=q1;rcases ev with ⟨ev,rfl⟩ | ev
  · subst ev;cases r1 with
    | cons r rr =>
      cases rr;obtain ⟨t,rfl⟩:=r;refine call_range_1 (Calls.spliced_nil ?_);exact IS (I1.ok.hd hc) I1 b1 b2 b3 b4 hl q
  · subst ev;cases r1 with
    | cons r rr =>
      cases rr with
      | cons r' rr =>
        cases rr;obtain ⟨t,rfl⟩:=r;obtain ⟨t',rfl⟩:=r';refine call_range_2 (Calls.spliced_nil ?_);exact IS (I1.ok.hd hc) I1 b1 b2 b3 b4 hl q
end
end L2
namespace L2
open PySem PySem.Spec PyProof.Rows
noncomputable def VZ (d:Value):List (Str×Value):=[("default", d)]
section
variable {prog:Program} {w:World} {A:Around} {E:Value->Shared->Prop} {s:Shared}
theorem Pt {x d:Value} {Q:Value->Shared->Prop} (hc:wpAny (model prog w) A.in1 (Builtin.«max» ⟨[x],VZ d⟩) (fun fin s'=>match fin with
      | .done f=>wants Q E (.ok f) s'
      | .again c'=>c'.quiet=true/\codeAny (model prog w) A c' (wants Q E) s') (fun e s'=>wants Q E (.error e) s') s):wpAny (model prog w) A (call (.builtin "max") [x] (VZ d)) Q E s:=by
  refine wpAny_call (codeAny_call_builtin F.plain_max F.entry_max ?_)
  have ha:argsOk "max" ⟨[x],VZ d⟩:=by unfold argsOk;kernel_rfl
  simp only [checkBuiltinCall,F.kind_max]
  cases hsig:Manifest.signature? "max" with
  | none=>exact wpAny_pure hc
  | some sig =>
    have ha':Bind.checkArgs "max" sig ⟨[x],VZ d⟩=pure ():=by simpa only [argsOk,hsig] using ha
    simp only [ha'];exact wpAny_pure hc
end
section
variable {prog:Program} {w:World} {A:Around} {R:Result->Shared->Prop} {I:Addr} {fp wr:List Addr} {n:Nat} {P:Nat->Value->Prop} {St:Nat->Heap->Prop} {d:Value}
def jz (P:Nat->Value->Prop) (bt:Nat->Nat->Bool) (S:Addr) (j:Nat) (h:Heap):Prop:=∃ c,(j=0/\h.get? S=some { cls:=.type "list", dict:=none,data:=.seq #[] c,slots:=#[] })\/(0 < j/\∃ v,P (argBest bt (j - 1)) v/\h.get? S=some { cls:=.type "list", dict:=none,data:=.seq #[v,v] c,slots:=#[] })
theorem Pu (W:Walks prog w A.in1 I fp wr n P St) (bt:Nat->Nat->Bool) (hcmp:CmpOf prog w A.in1 .Gt P bt) (S:Addr) (hSf:S∉fp):∀ (k j:Nat) (s:Shared),n - j=k->j<=n->St j s.heap->jz P bt S j s.heap ->
    (∀ v h' tk,(n=0/\v=d\/0 < n/\P (argBest bt (n - 1)) v)->(∀ b o,b∉wr->b≠S->s.heap.get? b=some o->h'.get? b=some o)->R (.ok (.ret v)) { s with heap:=h',toks:=tk }) ->
    codeAny (model prog w) A (.builtin "max.loop" ⟨[.ref I,.none,.ref S],VZ d⟩) R s:=by
  have hSw:S∉wr:=fun h=>hSf (W.sub _ h)
  have hname:(toString "max" ++ toString ".loop" : String) = "max.loop" := by decide
  intro k
  induction k with
  | zero =>
    intro j s hk hj hst hB hR;have hin:j=n:=by omega
    subst hin;refine codeAny_builtin F.entry_max_loop ?_;rw [Around.under_plainId F.plain_max_loop _];show wpAny _ A.in1 (seqItems? (.ref S) >>= _) _ _ s;obtain ⟨c,⟨j0,hS⟩ | ⟨j0,v,hv,hS⟩⟩:=hB
    · refine wpAny_bind (wpAny_seqItems hS rfl ?_);show wpAny _ A.in1 (tryCatch (pyNext (.ref I)) _ >>= _) _ _ s;refine wpAny_bind (wpAny_tryCatch (W.done s _ _ hst fun h' tk hk'=>?_));show wpAny _ A.in1 (rule _ >>= fun _=>ret d) _ _ _;exact wpAny_bind (wpAny_rule (wpAny_pure (hR d h' tk (.inl ⟨j0,rfl⟩) fun b o hw _ e=>hk' b o hw e)))
    · refine wpAny_bind (wpAny_seqItems hS rfl ?_);show wpAny _ A.in1 (tryCatch (pyNext (.ref I)) _ >>= _) _ _ s;refine wpAny_bind (wpAny_tryCatch (W.done s _ _ hst fun h' tk hk'=>?_));have hS':=hk' S _ hSw hS;show wpAny _ A.in1 (updateSeq S (fun _=>#[]) >>= _) _ _ _;refine wpAny_bind (wpAny_updateSeq hS' rfl (wpAny_bind (wpAny_letGo (wpAny_pure ?_))));exact hR v _ tk (.inr ⟨j0,hv⟩) fun b o hbw hbS e=>(mJ _ _ (Ne.symm hbS)).trans (hk' b o hbw e)
  | succ k ih =>
    intro j s hk hj hst hB hR;have hlt:j < n:=by omega
    refine codeAny_builtin F.entry_max_loop ?_;rw [Around.under_plainId F.plain_max_loop _];show wpAny _ A.in1 (seqItems? (.ref S) >>= _) _ _ s;have keep:∀ {h':Heap} {f:Array Value->Array Value},(∀ b o,b∉wr->s.heap.get? b=some o->h'.get? b=some o)->∀ b o,b∉wr->b≠S->s.heap.get? b=some o->(h'.update S (Obj.mapSeq f)).get? b=some o:=fun hk' b o hw hn e=>(mJ _ _ (Ne.symm hn)).trans (hk' b o hw e)
    obtain ⟨c,⟨rfl,hS⟩ | ⟨j0,vb,hvb,hS⟩⟩:=hB
    · refine wpAny_bind (wpAny_seqItems hS rfl ?_);show wpAny _ A.in1 (tryCatch (pyNext (.ref I)) _ >>= _) _ _ s;refine wpAny_bind (wpAny_tryCatch (W.item 0 s _ _ hlt hst fun v h' tk hP hst' hk'=>?_));have hS':=hk' S _ hSw hS;show wpAny _ A.in1 (updateSeq S (fun _=>#[v,v]) >>= _) _ _ _;refine wpAny_bind (wpAny_updateSeq hS' rfl ?_);rw [hname];exact wpAny_pure ⟨plainId_quiet F.plain_max_loop _,ih 1 _ (by omega) hlt (W.frame _ _ _ hst' fun b hbf o e=>(mJ _ _ (fun h:S=b=>hSf (h▸hbf))).trans e) ⟨_,.inr ⟨by decide,v,hP,mV _ hS' rfl⟩⟩ fun v' h2 tk2 hP' hk2=>hR v' h2 tk2 hP' fun b o hw hn e=>hk2 b o hw hn (keep hk' b o hw hn e)⟩
    · refine wpAny_bind (wpAny_seqItems hS rfl ?_);show wpAny _ A.in1 (tryCatch (pyNext (.ref I)) _ >>= _) _ _ s;refine wpAny_bind (wpAny_tryCatch (W.item j s _ _ hlt hst fun v h' tk hP hst' hk'=>?_));have hS':=hk' S _ hSw hS;have ej:j=(j - 1)+1:=by omega
      have ab:argBest bt j=if bt j (argBest bt (j - 1)) then j else argBest bt (j - 1):=by
        conv=>lhs;rw [ej];unfold argBest
        rw [<- ej]
      show wpAny _ A.in1 (tryCatch (holding [v,v] (richCompare .Gt v vb >>= _)) _ >>= _) _ _ _;refine wpAny_bind (wpAny_tryCatch (wpAny_holding (wpAny_bind (hcmp j (argBest bt (j - 1)) v vb _ _ _ hP hvb ?_))));refine wpAny_bind (wpAny_holding (wpAny_truthy_bool ?_));refine wpAny_bind (wpAny_letGo (wpAny_pure ?_));cases hb:bt j (argBest bt (j - 1)) with
      | true =>
        simp only [if_true];refine wpAny_bind (wpAny_updateSeq hS' rfl (wpAny_bind (wpAny_letGo ?_)));rw [hname];exact wpAny_pure ⟨plainId_quiet F.plain_max_loop _,ih (j+1) _ (by omega) hlt (W.frame _ _ _ hst' fun b hbf o e=>(mJ _ _ (fun h:S=b=>hSf (h▸hbf))).trans e) ⟨_,.inr ⟨by omega,v,by rw [nr,ab,hb];exact hP,mV _ hS' rfl⟩⟩ fun v' h2 tk2 hP' hk2=>hR v' h2 tk2 hP' fun b o hw hn e=>hk2 b o hw hn (keep hk' b o hw hn e)⟩
      | false =>
        simp only [lN,if_false];refine wpAny_bind (wpAny_letGo ?_);rw [hname];exact wpAny_pure ⟨plainId_quiet F.plain_max_loop _,ih (j+1) _ (by omega) hlt hst' ⟨c,.inr ⟨by omega,vb,by rw [nr,ab,hb];exact hvb,hS'⟩⟩ fun v' h2 tk2 hP' hk2=>hR v' h2 tk2 hP' fun b o hw hn e=>hk2 b o hw hn (hk' b o hw e)⟩
end
section
variable {prog:Program} {w:World} {A:Around} {E:Value->Shared->Prop} {s:Shared}
theorem Pq {x d:Value} {Q:Value->Shared->Prop}
    (h:wpAny (model prog w) A.in1 (pyIter x) (fun it s₂=>∃ I fp wr n P St bt,it=.ref I/\Walks prog w A.in1 I fp wr n P St/\St 0 s₂.heap/\(∀ b∈fp,b < s₂.heap.objs.size)/\CmpOf prog w A.in1 .Gt P bt /\
      ∀ v h' tk,(n=0/\v=d\/0 < n/\P (argBest bt (n - 1)) v)->(∀ b o,b∉wr->s₂.heap.get? b=some o->h'.get? b=some o)->Q v { s₂ with heap:=h',toks:=tk }) E s) :
    wpAny (model prog w) A (call (.builtin "max") [x] (VZ d)) Q E s:=by
  have hname:(toString "max" ++ toString ".loop" : String) = "max.loop" := by decide
  refine Pt ?_
  show wpAny _ A.in1 (Builtin.Builtins.bindParams "max" ["key", "default"] 0 ⟨[],VZ d⟩ >>= _) _ _ s
  refine wpAny_bind (wpAny_of_eq (show Builtin.Builtins.bindParams "max" ["key", "default"] 0 ⟨[],VZ d⟩=pure [none,some d] from rfl) ?_)
  refine wpAny_bind (wpAny_pure ?_);refine wpAny_bind (wpAny_mono h (fun it s₂ h₂=>?_) fun _ _ e=>e);obtain ⟨I,fp,wr,n,P,St,bt,rfl,W,hst,hfp,hcmp,hQ⟩:=h₂;refine wpAny_bind (wpAny_newObj_type ?_);have hSf:s₂.heap.objs.size∉fp:=fun hm=>mW _ (hfp _ hm)
  rw [hname];refine wpAny_pure ⟨plainId_quiet F.plain_max_loop _,Pu W bt hcmp s₂.heap.objs.size hSf n 0 _ (by omega) (mF _) (W.frame _ _ _ hst fun b _ o e=>lC _ e) ⟨0,.inl ⟨rfl,lT _ rfl⟩⟩ fun v h' tk hP hk=>?_⟩;exact hQ v h' tk hP fun b o hbw e=>hk b o hbw (lq (lQ e)) (lC _ e)
end
section
variable {prog:Program} {w:World} {A:Around} {E:Value->Shared->Prop} {s:Shared}
theorem Py {l:Addr} {d:Value} {xs:Array (Int×Tok)} {Q:Value->Shared->Prop} (hh:A.handled=none) (hl:s.heap.IsList l (intItems xs))
    (h:∀ v h' tk,(xs.size=0/\v=d\/0 < xs.size/\(intItems xs)[argBest (fun i j=>decide (numAt xs i > numAt xs j)) (xs.size - 1)]?=some v)->(∀ b o,s.heap.get? b=some o->h'.get? b=some o)->Q v { s with heap:=h',toks:=tk }) :
    wpAny (model prog w) A (call (.builtin "max") [.ref l] (VZ d)) Q E s:=by
  refine Pq (iter_intList hl fun s₂ e st hfp hlI=>?_);subst e;refine ⟨_,_,_,_,_,_,_,rfl,Walks.list (A:=A.in1) hh _ l hlI (intItems xs),st,hfp,CmpOf.ints_gt (numAt xs) (fun _ _=>intItems_at),fun v h' tk hP hk=>?_⟩;exact h v h' tk (by simpa [intItems] using hP) (old_kept hk)
end
section
variable {X:Cx} {a e:Expr} {ta te:TE} {p pos kp:Pos}
def iQ (K:W.Frag) (x y:V) (H:Hp) (Q:VK):Prop:=∃ (l:Addr) (ns:List Int) (d:Int),x=.ref l/\y=.int d/\CQ K H l (ns.map V.int)/\∀ M,(ns=[]/\M=d\/M∈ns/\∀ a,a∈ns->a<=M)->Q (.int M) H
theorem WX (hc:X.calm=true) (hg:Gl X "max") (hm:X.mg "max" = none) (ha:PE X a ta) (he:PE X e te) (hs:starEach [a] X.env=[(false,eval a X.env)]):PE X (.Call (.Name "max" p) [a] [⟨some "default", e,kp⟩] pos) (fun σ H Q=>ta σ H fun x H1=>te σ H1 fun y H2=>iQ X.K x y H2 Q):=by
 intro pins s σ H Q I h;refine wpAny_Call_Name_kw (Bi I hg hm PyProof.Rows.Boot.«max» ?_);refine callWith_kw ?_ (by rw [hs];rfl) (by rw [hs];rfl);refine Ak (Dn ha MR hs pos pins s σ H (fun vs H1=>te σ H1 fun y H2=>(match vs with | [x]=>iQ X.K x y H2 Q | _=>False)) I h) fun us s1 ⟨vs,H1,I1,r1,q1⟩=>?_
 refine kws_cons (Ak (he pins s1 σ H1 _ I1 q1) fun u s2 ⟨y,H2,I2,r2,q2⟩=>kws_nil ?_);cases r1 with
 | nil=>exact q2.elim
 | cons rx r3 =>
  cases r3 with
  | cons _ _=>exact q2.elim
  | nil =>
   obtain ⟨l,ns,d,rfl,rfl,hp,q⟩:=q2;cases rx;obtain ⟨t,rfl⟩:=r2;obtain ⟨its,rv,pl,hz⟩:=I2.list hp;have hl:=pl.isList;have hi:=Mh rv;obtain ⟨xs,e⟩:=hi.allInts.items;have hns:ns=xs.toList.map (·.1):=by
    rw [<- hi.numsOf,<- nums_intItems,<- e]
   have hsz:ns.length=xs.size:=by rw [hns,lZ,Array.length_toList]
   rw [e] at hl
   show wpAny (model X.prog X.w) X.A (call (.builtin "max") [.ref l] (VZ (.int d t))) _ _ _
   refine Py (I2.ok.hd hc) hl fun v h' tk hv hk=>?_
   obtain ⟨h0,rfl⟩ | ⟨h0,hv⟩:=hv
   ·exact ⟨.int _,H2,I2.kept hk,⟨t,rfl⟩,q _ (.inl ⟨List.length_eq_zero_iff.mp (hsz.trans h0),rfl⟩)⟩
   ·obtain ⟨t,rfl⟩:=intItems_at hv;obtain ⟨h1,h2⟩:=argBest_gt (numAt xs) (xs.size - 1);refine ⟨.int _,H2,I2.kept hk,⟨t,rfl⟩,q _ (.inr ⟨?_,fun a ha=>?_⟩)⟩
    ·rw [hns,numAt_eq];exact getD_mem (by rw [lZ,Array.length_toList];omega)
    ·rw [hns] at ha;obtain ⟨j,hj,rfl⟩:=mem_getD ha;rw [lZ,Array.length_toList] at hj;rw [<- numAt_eq];exact h2 j (by omega)
end
end L2
namespace R
open PySem L2
def Gx (X:Cx):Prop:=X.calm=true/\∃ j,Room j X.A
noncomputable def two {α:Type} (f:Dv->Dv->Option α) (ds:List Dv):Option α:=match ds with | [a,b]=>f a b | _=>none
noncomputable def one {α:Type} (f:Dv->Option α) (ds:List Dv):Option α:=match ds with | [a]=>f a | _=>none
noncomputable def BA:Expr->Bool
 | .Starred _ _=>false
 | _=>true
structure BinE where
 op:Operator
 f:Dv->Dv->Option Dv
 ok:∀ X,Gx X->∃ r,Bv X (binaryOp op) r/\AG X.K (two f) 1 (Hk r)
structure CmpE where
 op:CmpOp
 f:Dv->Dv->Option Bool
 ok:∀ X,Gx X->∃ r,Bv X (compareOp op) r/\AG X.K (fun ds=>(two f ds).map .bl) 0 (Hk r)
structure CallE where
 x:Str
 n:Nat
 o:Nat
 f:List Dv->Option Dv
 ok:∀ X,Gx X->∃ r,AG X.K f o r/\((∃ id,BC X (.builtin id) r/\bootBuiltins x=some (.builtin id))\/∃ T,BC X (.type T) r/\bootBuiltins x=some (.type T))
abbrev kP (T:String):Prop:=T = "list" \/ T = "str" \/ T = "int" \/ T = "dict"
structure MethE where
 x:Str
 n:Nat
 T:String
 o:Nat
 f:List Dv->Option Dv
 hT:kP T\/T = "tuple" /\ n=1
 ok:∀ X,Gx X->∃ id r,PlainAttrs T/\Slot T x id/\typeOf (.builtin id)=pure (.type "method_descriptor")/\dS X id r/\AG X.K f o (dU r)
structure MutE where
 x:Str
 n:Nat
 T:String
 p:Mu
 hT:kP T
 ok:∀ X,Gx X->∃ id r,PlainAttrs T/\Slot T x id/\typeOf (.builtin id)=pure (.type "method_descriptor")/\dS X id r/\VT X.K p r
noncomputable def Jd:Expr->Bool
 | .Tuple _ _ _=>true
 | _=>false
structure SrcE where
 x:Str
 n:Nat
 tt:Bool
 f:List Dv->Option (List Dv)
 ok:∀ X,Gx X->∃ r,Xz X.K f r/\∀ tg es p pos ta,(tt=true->Jd tg=true)->es.length=n->es.all BA=true->Gl X x->X.mg x=none->PA X es ta->PI X tg (.Call (.Name x p) es [] pos) (Ym r ta)
def kn:Ou:=fun vs H1 Q=>KS (fun _ H R=>R vs H) [] H1 Q
def kj:Ou:=fun vs H1 Q=>Nj (fun _ H R=>R vs H) [] H1 Q
def kM (K:W.Frag):R2:=fun x y H2 Q=>∃ a xs b,x=.ref a/\y=.int (-1)/\Lo K H2 a xs b/\∀ p,H2 p=none->Q (.ref p) (upd H2 p (bif b then .tup xs.reverse else .lst xs.reverse))
def km (K:W.Frag):V->Hp->VK->Prop:=fun v H1 Q=>∃ a xs,v=.ref a/\CQ K H1 a xs/\∀ l,H1 l=none->Q (.ref l) (upd H1 l (.lst xs.reverse))
structure Tb where
 bins:List BinE
 cmps:List CmpE
 calls:List CallE
 meths:List MethE
 muts:List MutE
 srcs:List SrcE
 ix:Dv->Dv->Option Dv
 ixok:∀ X,Gx X->∃ r,RI X r/\AG X.K (two ix) 0 (Hk r)
 sl:Dv->Option Int->Option Int->Option Dv
 slok:∀ X,Gx X->∃ r,RM X r/\∀ lo hi,AG X.K (one fun d=>sl d lo hi) 1 (iI fun x H Q=>r x lo hi H Q)
 tru:Dv->Option Bool
 trok:∀ K g H o d v P b,Rep K g H o d v P->tru d=some b->VS K v H b
 lr:List Dv->Option Dv
 lrok:∀ X,Gx X->AG X.K lr 1 kn
 tr:List Dv->Option Dv
 trrok:∀ X,Gx X->AG X.K tr 1 kj
 md:Dv->Dv->Option Dv
 mdok:∀ X,Gx X->AG X.K (two md) 1 (Hk (iQ X.K))
 rv:Dv->Dv->Option Dv
 rvok:∀ X,Gx X->AG X.K (two rv) 1 (Hk (kM X.K))
 lv:Dv->Option Dv
 lvok:∀ X,Gx X->AG X.K (one lv) 1 (iI (km X.K))
 st:Dv->Dv->Dv->Option Dv
 stok:∀ X,Gx X->∃ T,KG X T/\dR X.K st T
structure Cf:Type 1 where
 N:List Str
 sc:Scope
 fn:Str->Bool
 fs:List (Str×Sig)
 cs:List (Str×Dv)
 bl:List Str
 T:Tb
 F:Fr
structure Cok (C:Cf) (X:Cx):Prop where
 N:X.N=C.N
 sc:X.env.scope=C.sc
 nd:X.N.Nodup
 calm:X.calm=true
 fn:∀ x,C.fn x=true->X.fn x=true
 room:Gx X
 fs:∀ x s,(x,s)∈C.fs->s.io.Nodup/\(∀ i∈s.io,i < s.ps.length)/\∃ j k,j<=k/\Room k X.A/\Fx X.prog X.w X.K X.mg X.base j x s.ps (PP X.K s)
 cs:∀ x d,(x,d)∈C.cs->∃ v u,X.mg x=some u/\RelV v u/\∀ g H,Rep X.K g H 0 d v nop
 bl:∀ x∈C.bl,X.mg x=none
 xe:X.xe=fun _ _=>False
noncomputable def Cg:List Str->Str->Option Nat
 | [],_=>none
 | y::r,x=>if y == x then some 0 else (Cg r x).map (·+1)
theorem BW:∀ {N:List Str} {x:Str} {i:Nat},Cg N x=some i->N[i]?=some x
 | [],_,_,h=>by cases h
 | y::r,x,i,h=>by
  unfold Cg at h;split at h
  ·rename_i e;cases h;rw [beq_iff_eq.mp e];rfl
  ·cases q:Cg r x with
   | none=>rw [q] at h;cases h
   | some j=>rw [q] at h;cases h;simpa using BW q
noncomputable def TV (sc:Scope) (x:Str):Bool:=match sc.names.lookup x with
 | some .local=>true
 | some .cell=>true
 | some .free=>true
 | _=>false
noncomputable def GP (sc:Scope) (x:Str):Bool:=match sc.names.lookup x with
 | some .globalImplicit=>true
 | _=>false
noncomputable def TB (x:Str):Bool:=!(x == ("__debug__" : Str)) && !(x == ("__classdict__" : Str)) && !(x == ("__name__" : Str))
def lv (C:Cf) (x:Str):Option Nat:=if TV C.sc x && TB x then Cg C.N x else none
def Wt (C:Cf) (e:Expr):Option Nat:=match e with
 | .Name x _=>lv C x
 | _=>none
theorem Bt {x:Str} (h:TB x=true):(x == ("__debug__" : Str))=false/\(x == ("__classdict__" : Str))=false/\x ≠ "__name__" := by
 unfold TB at h;simp only [lB,mh] at h;exact ⟨h.1.1,h.1.2,fun z=>by rw [z] at h;simp at h⟩
theorem QI {sc:Scope} {x:Str} (h:TV sc x=true):de sc x:=by
 unfold TV at h;unfold de;split at h
 ·rename_i e;exact .inl e
 ·rename_i e;exact .inr (.inl e)
 ·rename_i e;exact .inr (.inr e)
 ·cases h
theorem BJ {X:Cx} {C:Cf} (ok:Cok C X) {x:Str} (h:GP C.sc x=true):Gl X x:=by
 unfold GP at h;unfold Gl Env.kindOf;rw [ok.sc];split at h
 ·rename_i e;exact e
 ·cases h
theorem Yi {X:Cx} {C:Cf} (ok:Cok C X) {x:Str} {i:Nat} {pos:Pos} (h:lv C x=some i):PE X (.Name x pos) (Gh i):=by
 unfold lv at h;split at h
 ·rename_i e;rw [lB] at e;have n:=Bt e.2;exact Sk (by rw [ok.N];exact BW h) (by rw [ok.sc];exact QI e.1) n.1 n.2.1
 ·cases h
theorem DJ {X:Cx} {C:Cf} (ok:Cok C X) {e:Expr} {i:Nat} (h:Wt C e=some i):PE X e (Gh i):=by
 cases e with
 | Name x pos=>exact Yi ok h
 | _=>cases h
structure CE:Type 1 where
 o:Nat
 Γ:Gm
 js:List Nat
 f:Ev Dv
structure CT:Type 1 where
 Γ:Gm
 js:List Nat
 f:Ev Bool
structure CA:Type 1 where
 as:List Ar
 Γ:Gm
 js:List Nat
structure CI:Type 1 where
 Γ:Gm
 js:List Nat
 f:Ev (List Dv)
structure CS:Type 1 where
 Γ:Option Gm
 js:List Nat
 f:Es
 er:Bool
 eb:Bool
 ec:Bool
structure Rec:Type 1 where
 E:Cf->Gm->Expr->Option CE
 A:Cf->Gm->List Bool->List Expr->Option CA
 T:Cf->Gm->Expr->Option CT
 I:Cf->Gm->Bool->Expr->Option CI
 S:Cf->Option Gm->Gm->Stmt->Option CS
 Ss:Cf->Option Gm->Gm->List Stmt->Option CS
abbrev Rf (t:TA) (te:TE):TA:=fun σ H Q=>t σ H fun vs H1=>te σ H1 fun x H2=>Q (vs++[x]) H2
structure OkR (r:Rec):Prop where
 E:∀ {C X Γ e c},Cok C X->r.E C Γ e=some c->PE X e (tE X.K Γ c.o c.Γ c.js c.f)
 A:∀ {C X Γ md es c},Cok C X->r.A C Γ md es=some c->PA X es (BN X.K c.as)/\AD Γ c.as c.Γ c.js/\c.as.length=es.length/\es.all BA=true/\(md=[]->evd c.as=true)
 T:∀ {C X Γ e c},Cok C X->r.T C Γ e=some c->PT X e (tT X.K Γ c.Γ c.js c.f)
 I:∀ {C X Γ e c} (tg),Cok C X->r.I C Γ (Jd tg) e=some c->PI X tg e (tI X.K Γ c.Γ c.js c.f)
 S:∀ {C X Γl Γ s c},Cok C X->r.S C Γl Γ s=some c->PS X s (tS X.K C.F Γl Γ c.Γ c.js c.f)
 Ss:∀ {C X Γl Γ s c},Cok C X->r.Ss C Γl Γ s=some c->Cu X s (tS X.K C.F Γl Γ c.Γ c.js c.f)
 B:∀ {C X Γ md es c},Cok C X->r.A C Γ md es=some c->∀ {e te},PE X e te->BA e=true->PA X (es++[e]) (Rf (BN X.K c.as) te)
def dY (Γ:Gm) (i:Nat):Bool:=match Γ.getD i none with
 | some o=>decide (o<=1)
 | none=>false
theorem HP {Γ:Gm} {i:Nat} (h:dY Γ i=true):∃ o,o<=1/\Γ[i]?=some (some o):=by
 unfold dY at h;split at h
 ·rename_i o e;exact ⟨o,of_decide_eq_true h,BR e⟩
 ·cases h
def KU (r:Rec) (C:Cf) (Γ:Gm) (md:List Bool) (es:List Expr):Option CA:=match es with
  | []=>some ⟨[],Γ,[]⟩
  | e::es=>if BA e then
      match (if md.headD false then Wt C e else none) with
      | some i=>if (Γ.getD i none).isSome then (r.A C Γ md.tail es).bind fun c=>if dY c.Γ i then some ⟨.rf i::c.as,c.Γ,c.js⟩ else none else none
      | none=>(r.E C Γ e).bind fun c1=>(r.A C c1.Γ md.tail es).bind fun c=>some ⟨.ev Γ c1.Γ c1.js c1.f::c.as,c.Γ,c1.js++c.js⟩
    else none
theorem AK {e:Expr} {es:List Expr} {env:Env} (h:BA e=true):starEach (e::es) env=(false,eval e env)::starEach es env:=by
 cases e<;>first | rfl | (cases h)
theorem getD_some {Γ:Gm} {i:Nat} (h:(Γ.getD i none).isSome=true):∃ o,Γ[i]?=some (some o):=by
 obtain ⟨o,e⟩:=mw.mp h;exact ⟨o,BR e⟩
theorem PM {r:Rec} (R:OkR r) {C:Cf} {X:Cx} {Γ:Gm} {md:List Bool} {es:List Expr} {c:CA} (ok:Cok C X) (h:KU r C Γ md es=some c) {e0:Expr} {te:TE} (h0:PE X e0 te) (hn0:BA e0=true):PA X (es++[e0]) (Rf (BN X.K c.as) te):=by
  cases es with
  | nil=>cases h;exact Dn h0 MR (AK hn0)
  | cons e es =>
    unfold KU at h;simp only at h;split at h
    · rename_i hs;have hst:=AK (es:=es++[e0]) (env:=X.env) hs;split at h
      · rename_i i hi;have hmd:md.headD false=true:=by
          cases q:md.headD false with
          | true=>rfl
          | false=>rw [q] at hi;cases hi
        rw [hmd] at hi;split at h
        · obtain ⟨c2,e2,h⟩:=bind_some' h;split at h
          · cases h;exact Dn (DJ ok hi) (R.B ok e2 h0 hn0) hst
          · cases h
        · cases h
      · obtain ⟨c1,e1,h⟩:=bind_some' h;obtain ⟨c2,e2,h⟩:=bind_some' h;cases h;exact Dn (Cq (R.E ok e1)) (R.B ok e2 h0 hn0) hst
    · cases h
theorem Ru {r:Rec} (R:OkR r) {C:Cf} {X:Cx} {Γ:Gm} {md:List Bool} {es:List Expr} {c:CA} (ok:Cok C X) (h:KU r C Γ md es=some c):PA X es (BN X.K c.as)/\AD Γ c.as c.Γ c.js/\c.as.length=es.length/\es.all BA=true/\(md=[]->evd c.as=true):=by
  cases es with
  | nil=>cases h;exact ⟨MR,by unfold AD;exact ⟨rfl,rfl⟩,rfl,rfl,fun _=>rfl⟩
  | cons e es =>
    unfold KU at h;simp only at h;split at h
    · rename_i hs;have hst:=AK (es:=es) (env:=X.env) hs;split at h
      · rename_i i hi;have hmd:md.headD false=true:=by
          cases q:md.headD false with
          | true=>rfl
          | false=>rw [q] at hi;cases hi
        rw [hmd] at hi;split at h
        · rename_i h1;obtain ⟨c2,e2,h⟩:=bind_some' h;split at h
          · rename_i h2;cases h;obtain ⟨a1,a2,a3,a4,a5⟩:=R.A ok e2;refine ⟨Dn (DJ ok hi) a1 hst,?_,by simp [a3],by simp [hs,a4],fun z=>by rw [z] at hmd;cases hmd⟩;unfold AD;exact ⟨getD_some h1,HP h2,a2⟩
          · cases h
        · cases h
      · obtain ⟨c1,e1,h⟩:=bind_some' h;obtain ⟨c2,e2,h⟩:=bind_some' h;cases h;obtain ⟨a1,a2,a3,a4,a5⟩:=R.A ok e2;refine ⟨Dn (Cq (R.E ok e1)) a1 hst,?_,by simp [a3],by simp [hs,a4],fun z=>?_⟩
        · unfold AD;exact ⟨rfl,_,rfl,a2⟩
        · show evd c2.as=true;exact a5 (by rw [z];rfl)
    · cases h
def Up (Γ:Gm):Const->Option CE
 | .int i=>some ⟨1,Γ,[],LN (.int i)⟩
 | .bool b=>some ⟨1,Γ,[],LN (.bl b)⟩
 | .none=>some ⟨1,Γ,[],LN .non⟩
 | .str x=>some ⟨1,Γ,[],LN (.str x.cps.toList)⟩
 | _=>none
theorem RY (x:Str):tx x.cps.toList=x:=by
 unfold tx;cases x;rfl
theorem Qp {X:Cx} {Γ:Gm} {k:Const} {c:CE} {j:Nat} {pos:Pos} (h:Up Γ k=some c):PE X (.Constant k j pos) (tE X.K Γ c.o c.Γ c.js c.f):=by
 cases k with
 | int i=>cases h;exact dX aY fun _ _=>BZ
 | bool b=>cases h;exact dX fc fun _ _=>Br
 | none=>cases h;exact dX aW fun _ _=>Fk
 | str x=>cases h;exact dX aT fun _ _=>by unfold Rep;exact ⟨by rw [RY],fun _ z=>z⟩
 | _=>cases h
noncomputable def Vf (x:Str):Option String:=if x == ("int" : Str) then some "int" else if x == ("bool" : Str) then some "bool" else if x == ("str" : Str) then some "str" else if x == ("tuple" : Str) then some "tuple" else if x == ("list" : Str) then some "list" else none
theorem PB {x:Str} {T:String} (h:Vf x=some T):bootBuiltins x=some (.type T):=by
 unfold Vf at h
 repeat' split at h
 all_goals first | (rename_i e;rw [beq_iff_eq.mp e];cases h;first | exact PyProof.Rows.Boot.«int» | exact PyProof.Rows.Boot.«bool» | exact PyProof.Rows.Boot.«str» | exact PyProof.Rows.Boot.«tuple» | exact PyProof.Rows.Boot.«list») | cases h
def Uo (C:Cf) (Γ:Gm) (x:Str):Option CE:=match lv C x with
  | some i=>if (Γ.getD i none).isSome then some ⟨0,Γ.set i (some 0),[],OY i⟩ else none
  | none=>if GP C.sc x && TB x then (match C.cs.find? fun p=>p.1 == x with
      | some p=>some ⟨0,Γ,[],LN p.2⟩
      | none=>if C.bl.contains x then (Vf x).map fun T=>⟨0,Γ,[],LN (.ty T)⟩ else none) else none
theorem Um {C:Cf} {X:Cx} {Γ:Gm} {x:Str} {c:CE} {pos:Pos} (ok:Cok C X) (h:Uo C Γ x=some c):PE X (.Name x pos) (tE X.K Γ c.o c.Γ c.js c.f):=by
 unfold Uo at h;split at h
 ·rename_i i hi;split at h
  ·rename_i h1;cases h;obtain ⟨o,ho⟩:=getD_some h1;exact eZ (Yi ok hi) ho
  ·cases h
 ·split at h
  ·rename_i hg;rw [lB] at hg;cases q:C.cs.find? fun p=>p.1 == x with
   | none =>
    rw [q] at h;simp only at h;split at h
    ·rename_i hb;cases t:Vf x with
     | none=>rw [t] at h;cases h
     | some T =>
      rw [t] at h;cases h;exact dX (Wb (v:=.ty T) (BJ ok hg.1) (ok.bl x (lK.mp hb)) (PB t) rfl (Bt hg.2).2.2 (Bt hg.2).1) fun _ _=>by unfold Rep;exact ⟨rfl,fun _ z=>z⟩
    ·cases h
   | some p =>
    rw [q] at h;cases h;have e:p.1=x:=beq_iff_eq.mp (by simpa using mP q);obtain ⟨v,u,h1,h3,h2⟩:=ok.cs p.1 p.2 (oN q);rw [e] at h1;exact dX (WY (BJ ok hg.1) h1 h3 (Bt hg.2).1) h2
  ·cases h
structure C1:Type 1 where
 a:Ar
 Γ:Gm
 js:List Nat
def DS (r:Rec) (C:Cf) (Γ:Gm) (m:Bool) (e:Expr):Option C1:=match (if m then Wt C e else none) with
 | some i=>if (Γ.getD i none).isSome then some ⟨.rf i,Γ,[]⟩ else none
 | none=>(r.E C Γ e).bind fun c=>some ⟨.ev Γ c.Γ c.js c.f,c.Γ,c.js⟩
def Cp (a:Ar) (Γ:Gm):Bool:=match a with
 | .rf i=>dY Γ i
 | _=>true
theorem BS {r:Rec} (R:OkR r) {C:Cf} {X:Cx} {Γ:Gm} {m:Bool} {e:Expr} {c:C1} (ok:Cok C X) (h:DS r C Γ m e=some c):PE X e (Hj X.K c.a)/\(m=false->evd [c.a]=true)/\∀ {as Γ' js},AD c.Γ as Γ' js->Cp c.a Γ'=true->AD Γ (c.a::as) Γ' (c.js++js):=by
 unfold DS at h;split at h
 ·rename_i i hi;split at h
  ·rename_i h1;cases h;have hm:m=true:=by cases m with | true=>rfl | false=>cases hi
   subst hm;refine ⟨DJ ok hi,(fun z=>by cases z),fun ch hs=>?_⟩;unfold AD;exact ⟨getD_some h1,HP hs,ch⟩
  ·cases h
 ·obtain ⟨c1,e1,h⟩:=bind_some' h;cases h;refine ⟨Cq (R.E ok e1),fun _=>rfl,fun ch hs=>?_⟩;unfold AD;exact ⟨rfl,_,rfl,ch⟩
theorem BD {Γ:Gm}:AD Γ [] Γ []:=by unfold AD;exact ⟨rfl,rfl⟩
def Hf (r:Rec) (C:Cf) (Γ:Gm) (a b:Expr):Option (C1×C1):=(DS r C Γ true a).bind fun x=>(DS r C x.Γ true b).bind fun y=>if Cp x.a y.Γ && Cp y.a y.Γ then some (x,y) else none
noncomputable def jj (p:C1×C1):List Nat:=p.1.js++(p.2.js++[])
theorem DR {r:Rec} (R:OkR r) {C:Cf} {X:Cx} {Γ:Gm} {a b:Expr} {p:C1×C1} (ok:Cok C X) (h:Hf r C Γ a b=some p):PE X a (Hj X.K p.1.a)/\PE X b (Hj X.K p.2.a)/\AD Γ [p.1.a,p.2.a] p.2.Γ (jj p):=by
 unfold Hf at h;obtain ⟨x,e1,h⟩:=bind_some' h;obtain ⟨y,e2,h⟩:=bind_some' h;split at h
 ·rename_i z;rw [lB] at z;cases h;obtain ⟨a1,_,a2⟩:=BS R ok e1;obtain ⟨b1,_,b2⟩:=BS R ok e2;exact ⟨a1,b1,a2 (b2 BD z.2) z.1⟩
 ·cases h
def RF (r:Rec) (C:Cf) (Γ:Gm) (a:Expr):Option C1:=(DS r C Γ true a).bind fun x=>if Cp x.a x.Γ then some x else none
theorem Gb {r:Rec} (R:OkR r) {C:Cf} {X:Cx} {Γ:Gm} {a:Expr} {x:C1} (ok:Cok C X) (h:RF r C Γ a=some x):PE X a (Hj X.K x.a)/\AD Γ [x.a] x.Γ (x.js++[]):=by
 unfold RF at h;obtain ⟨y,e1,h⟩:=bind_some' h;split at h
 ·rename_i z;cases h;obtain ⟨a1,_,a2⟩:=BS R ok e1;exact ⟨a1,a2 BD z⟩
 ·cases h
theorem Cok.gx {C:Cf} {X:Cx} (ok:Cok C X):Gx X:=ok.room
def hW (r:Rec) (C:Cf) (Γ:Gm) (a:Expr) (op:Operator) (b:Expr):Option CE:=(C.T.bins.find? fun e=>e.op == op).bind fun en=>(Hf r C Γ a b).bind fun p=>some ⟨1,p.2.Γ,jj p,CN (two en.f) (AR [p.1.a,p.2.a])⟩
theorem Xn {r:Rec} (R:OkR r) {C:Cf} {X:Cx} {Γ:Gm} {a b:Expr} {op:Operator} {pos:Pos} {c:CE} (ok:Cok C X) (h:hW r C Γ a op b=some c):PE X (.BinOp a op b pos) (tE X.K Γ c.o c.Γ c.js c.f):=by
 obtain ⟨en,e1,h⟩:=bind_some' h;obtain ⟨p,e2,h⟩:=bind_some' h;cases h;have eo:en.op=op:=by simpa using mP e1
 obtain ⟨h1,h2,h3⟩:=DR R ok e2;obtain ⟨rr,q1,q2⟩:=en.ok X ok.gx;rw [eo] at q1;exact PE.imp (fX q1 h1 h2) fun _ _ _ h=>BH q2 h3 h
noncomputable def GR (x:Dv):Option Dv:=match x with | .int i=>some (.int (-i)) | _=>none
theorem aF {K:W.Frag}:AG K (one GR) 1 (iI (rU fun i=>.int (-i))):=fun g H ds vs d Q zd ra e k=>by
 unfold one at e;split at e
 ·rename_i a;unfold GR at e;split at e
  ·rename_i i;cases e;unfold RA at ra;obtain ⟨v,r,o,P,rfl,_,h1,h2⟩:=ra;unfold RA at h2;subst h2;rw [rep_int h1];exact ⟨i,rfl,k _ H (Ab.old BZ)⟩
  ·cases e
 ·cases e
def gw (r:Rec) (C:Cf) (Γ:Gm) (a:Expr):Option CE:=(RF r C Γ a).bind fun x=>some ⟨1,x.Γ,x.js++[],CN (one GR) (AR [x.a])⟩
theorem Xf {r:Rec} (R:OkR r) {C:Cf} {X:Cx} {Γ:Gm} {a:Expr} {pos:Pos} {c:CE} (ok:Cok C X) (h:gw r C Γ a=some c):PE X (.UnaryOp .USub a pos) (tE X.K Γ c.o c.Γ c.js c.f):=by
 obtain ⟨x,e1,h⟩:=bind_some' h;cases h;obtain ⟨h1,h2⟩:=Gb R ok e1;exact PE.imp (fV ZP h1) fun _ _ _ h=>BH aF h2 h
def dZ (t:CT):CE:=⟨1,t.Γ,t.js,Mp t.f⟩
def NI (r:Rec) (C:Cf) (Γ:Gm) (a:Expr) (op:CmpOp) (b:Expr):Option CT:=if behindInMarks op b then none else (C.T.cmps.find? fun e=>e.op == op).bind fun en=>(Hf r C Γ a b).bind fun p=>some ⟨p.2.Γ,jj p,Yw (two en.f) (AR [p.1.a,p.2.a])⟩
theorem cx {K:W.Frag} {Γ Γ':Gm} {js:List Nat} {σ:St} {H:Hp} {o:Nat} {p:List Dv->Option Bool} {as:List Ar} {r:Ou} (hp:AG K (fun ds=>(p ds).map .bl) 0 r) (c:AD Γ as Γ' js) {Q:VK} (h:tE K Γ o Γ' js (Mp (Yw p (AR as))) σ H Q):BN K as σ H fun vs H1=>r vs H1 Q:=by
 obtain ⟨g,m,P,rl,R',k,res,e,q⟩:=h;refine AM as rl c e fun ds m' g' P' vs H1 hk ag s ar r1=>?_
 obtain ⟨b,e1,e2⟩:=bind_some' hk;refine hp g' H1 ds vs (.bl b) _ r1.zd (ar.ra r1) (by show (p ds).map _=_;rw [e1];rfl) fun v H2 nw=>?_
 obtain ⟨Pv,s2,h1,r2,n2⟩:=Ab.go s r1 nw;have ev:=rep_bl h1;subst ev;exact q (.bl b) m' g' P' nop _ H2 e2 ag (s2.less fun _ z=>z.elim .inl False.elim) Br r2 fun _ _ z=>z
theorem On {r:Rec} (R:OkR r) {C:Cf} {X:Cx} {Γ:Gm} {a b:Expr} {op:CmpOp} {pos:Pos} {c:CT} (ok:Cok C X) (h:NI r C Γ a op b=some c):PT X (.Compare a [op] [b] pos) (tT X.K Γ c.Γ c.js c.f)/\∀ o,PE X (.Compare a [op] [b] pos) (tE X.K Γ o c.Γ c.js (Mp c.f)):=by
 unfold NI at h;split at h
 ·cases h
 ·rename_i hm;rw [oH] at hm;obtain ⟨en,e1,h⟩:=bind_some' h;obtain ⟨p,e2,h⟩:=bind_some' h;cases h;have eo:en.op=op:=by simpa using mP e1
  obtain ⟨h1,h2,h3⟩:=DR R ok e2;obtain ⟨rr,q1,q2⟩:=en.ok X ok.gx;rw [eo] at q1;exact ⟨PT.imp (WB q1 h1 h2 hm) fun _ _ _ h=>iA q2 h3 h,fun o=>PE.imp (WZ q1 h1 h2 hm) fun _ _ _ h=>cx q2 h3 h⟩
noncomputable def HI:Expr->Bool
 | .Slice _ _ _ _=>false
 | _=>true
theorem Sg {b:Expr} (h:HI b=true):Ov b:=fun o i=>by
 cases b<;>first | rfl | (cases h)
def jW (r:Rec) (C:Cf) (Γ:Gm) (a b:Expr):Option CE:=(Hf r C Γ a b).bind fun p=>some ⟨0,p.2.Γ,jj p,CN (two C.T.ix) (AR [p.1.a,p.2.a])⟩
theorem ck {r:Rec} (R:OkR r) {C:Cf} {X:Cx} {Γ:Gm} {a b:Expr} {pos:Pos} {c:CE} (ok:Cok C X) (hb:HI b=true) (h:jW r C Γ a b=some c):PE X (.Subscript a b pos) (tE X.K Γ c.o c.Γ c.js c.f):=by
 obtain ⟨p,e2,h⟩:=bind_some' h;cases h;obtain ⟨h1,h2,h3⟩:=DR R ok e2;obtain ⟨rr,q1,q2⟩:=C.T.ixok X ok.gx;exact PE.imp (fY q1 h1 h2 (Sg hb)) fun _ _ _ h=>BH q2 h3 h
noncomputable def dc {R:Type} (d:Dv) (k:Int->Option R):Option R:=match d with | .int i=>k i | _=>none
def dE (o:Option (Ev Dv)):Ev (Option Int):=match o with
 | none=>fun _ m k=>k none m
 | some f=>fun R m k=>f R m fun d m1=>dc d fun i=>k (some i) m1
def gX (p:Dv->Option Int->Option Int->Option Dv) (a:Ar) (lo hi:Option (Ev Dv)):Ev Dv:=match a with
 | .rf i=>fun R m k=>dE lo R m fun l m1=>dE hi R m1 fun u m2=>(p (m2.at i) l u).bind fun d=>k d m2
 | .ev _ _ _ f=>fun R m k=>f R m fun x m1=>dE lo R m1 fun l m2=>dE hi R m2 fun u m3=>(p x l u).bind fun d=>k d m3
def jY (r:Rec) (C:Cf) (Γ:Gm) (o:Option Expr):Option (Option (Ev Dv)×Gm×List Nat):=match o with
 | none=>some (none,Γ,[])
 | some e=>(r.E C Γ e).bind fun c=>some (some c.f,c.Γ,c.js)
def YL (K:W.Frag) (Γ Γ':Gm) (js:List Nat) (f:Ev (Option Int)):TO:=fun σ H Q=>∃ g m P,Rel K g H Γ m σ P/\∃ (R:Type) (k:Option Int->M->Option R) (r:R),f R m k=some r /\
 ∀ b m' g' P' H',k b m'=some r->BU js m m'->Step g P H g' P' H'->Rel K g' H' Γ' m' σ P'->Q b H'
theorem PO.imp {X:Cx} {e:Option Expr} {t t':TO} (h:PO X e t) (k:∀ σ H Q,t' σ H Q->t σ H Q):PO X e t':=fun pins s σ H Q I q=>h pins s σ H Q I (k σ H Q q)
theorem Ur {r:Rec} (R:OkR r) {C:Cf} {X:Cx} {Γ:Gm} {e:Option Expr} {p:Option (Ev Dv)×Gm×List Nat} (ok:Cok C X) (h:jY r C Γ e=some p):PO X e (YL X.K Γ p.2.1 p.2.2 (dE p.1)):=by
 cases e with
 | none =>
  cases h;exact PO.imp WR fun σ H Q q=>by
   obtain ⟨g,m,P,r,R,k,res,e,q⟩:=q;exact q none m g P H e BU.refl Step.refl r
 | some e =>
  obtain ⟨c,e1,h⟩:=bind_some' h;cases h;exact PO.imp (WQ (Cq (R.E ok e1))) fun σ H Q q=>by
   obtain ⟨g,m,P,r,R,k,res,e,q⟩:=q;refine ⟨g,m,P,r,R,_,res,e,fun d m' g' P' Pv v H' hk ag s rv r1 n=>?_⟩;cases d<;>first | (cases hk;done) | skip
   rename_i i;exact ⟨i,rep_int rv,q (some i) m' g' P' H' hk ag (s.less fun _ z=>.inl z) r1⟩
def kW (r:Rec) (C:Cf) (Γ:Gm) (a:Expr) (lo hi:Option Expr):Option CE:=(DS r C Γ true a).bind fun x=>(jY r C x.Γ lo).bind fun l=>(jY r C l.2.1 hi).bind fun u=>if Cp x.a u.2.1 then some ⟨1,u.2.1,x.js++(l.2.2++u.2.2),gX C.T.sl x.a l.1 u.1⟩ else none
theorem Zh {K:W.Frag} {Γ Γ1 Γ2 Γ':Gm} {j1 j2 j3:List Nat} {p:Dv->Option Int->Option Int->Option Dv} {rr:V->Option Int->Option Int->Hp->VK->Prop} (hp:∀ lo hi,AG K (one fun d=>p d lo hi) 1 (iI fun x H Q=>rr x lo hi H Q)) {a:Ar} {lo hi:Option (Ev Dv)}
    (ha:∀ {as Γ' js},AD Γ1 as Γ' js->Cp a Γ'=true->AD Γ (a::as) Γ' (j1++js)) (hs:Cp a Γ'=true) {σ:St} {H:Hp} {Q:VK}
    (h:tE K Γ 1 Γ' (j1++(j2++j3)) (gX p a lo hi) σ H Q):kF rr (Hj K a) (YL K Γ1 Γ2 j2 (dE lo)) (YL K Γ2 Γ' j3 (dE hi)) σ H Q:=by
  obtain ⟨g,m,P,r,R,k,res,e,q⟩:=h;have fin:∀ {x:Dv} {l u:Option Int} {m3:M} {g3:G} {P3:Fp} {H3:Hp} {v:V} {o:Nat} {Px:Fp},(p x l u).bind (fun d=>k d m3)=some res->BU (j1++(j2++j3)) m m3->Step g P H g3 P3 H3->Rel K g3 H3 Γ' m3 σ P3->o<=1->Rep K g3 H3 o x v Px->rr v l u H3 Q:=fun {x l u m3 g3 P3 H3 v o Px} hk ag s r3 hlo rx=>by
    obtain ⟨d,e1,e2⟩:=bind_some' hk;refine hp l u g3 H3 [x] [v] d Q r3.zd (by unfold RA;exact ⟨v,[],o,Px,rfl,hlo,rx,by unfold RA;rfl⟩) e1 fun w H4 nw=>?_
    obtain ⟨Pv,s2,h1,r2,n2⟩:=Ab.go s r3 nw;exact q d m3 g3 P3 Pv w H4 e2 ag s2 h1 r2 n2
  cases a with
  | rf i =>
    have c0:=ha (as:=[]) (Γ':=Γ1) (js:=[]) BD;have hs':=hs
    -- the slot is set ahead
    have h0:(∃ o,Γ[i]?=some (some o))/\Γ1=Γ/\j1=[]:=by
      have:=ha (as:=[.ev Γ1 Γ' (j2++j3) (fun _ m k=>k .non m)]) (Γ':=Γ') (js:=(j2++j3)++[]) (by unfold AD;exact ⟨rfl,[],rfl,BD⟩) hs;unfold AD at this;refine ⟨this.1,?_⟩;obtain ⟨_,_,c⟩:=this;unfold AD at c;refine ⟨c.1,?_⟩;obtain ⟨_,js2,e,c⟩:=c;unfold AD at c;rw [c.2] at e;have l:(j1++((j2++j3)++[])).length=((j2++j3)++[]).length:=congrArg List.length e;simp at l;exact l
    obtain ⟨⟨o0,h0⟩,rfl,rfl⟩:=h0;obtain ⟨v0,P0,ev0,rv0,_⟩:=r.see h0;refine ⟨v0,ev0,g,m,P,r,R,_,res,e,fun l m1 g1 P1 H1 hk1 ag1 s1 r1=>⟨g1,m1,P1,r1,R,_,res,hk1,fun u m2 g2 P2 H2 hk2 ag2 s2 r2=>?_⟩⟩;obtain ⟨o1,hl1,h1⟩:=HP hs;obtain ⟨v1,Px,ev1,rv1,_⟩:=r2.see h1;rw [ev0] at ev1;cases ev1;exact fin hk2 (ag1.trans ag2) (s1.trans s2) r2 hl1 rv1
  | ev Γa Γb ja f =>
    have h0:Γa=Γ/\Γb=Γ1/\j1=ja:=by
      have:=ha (as:=[.ev Γ1 Γ1 [] (fun _ m k=>k .non m)]) (Γ':=Γ1) (js:=[]) (by unfold AD;exact ⟨rfl,[],rfl,BD⟩) rfl;unfold AD at this;obtain ⟨e1,js2,e2,c⟩:=this;unfold AD at c;obtain ⟨e3,js3,e4,c⟩:=c;unfold AD at c;rw [c.2] at e4;subst e4;simp at e2;exact ⟨e1,e3.symm,e2⟩
    obtain ⟨rfl,rfl,rfl⟩:=h0;refine ⟨g,m,P,r,R,_,res,e,fun x m1 g1 P1 Pv v H1 hk1 ag1 s1 rv r1 n1=>⟨g1,m1,P1,r1,R,_,res,hk1,fun l m2 g2 P2 H2 hk2 ag2 s2 r2=>⟨g2,m2,P2,r2,R,_,res,hk2,fun u m3 g3 P3 H3 hk3 ag3 s3 r3=>?_⟩⟩⟩;exact fin hk3 (ag1.trans (ag2.trans ag3)) (((s1.less fun _ z=>.inl z).trans s2).trans s3) r3 (by decide:0<=1) ((rv.z.held s2 r1.fpOk fun _ z=>z.elim).held s3 r2.fpOk fun _ z=>z.elim)
theorem cW {r:Rec} (R:OkR r) {C:Cf} {X:Cx} {Γ:Gm} {a:Expr} {lo hi:Option Expr} {p2 pos:Pos} {c:CE} (ok:Cok C X) (h:kW r C Γ a lo hi=some c):PE X (.Subscript a (.Slice lo hi none p2) pos) (tE X.K Γ c.o c.Γ c.js c.f):=by
 obtain ⟨x,e1,h⟩:=bind_some' h;obtain ⟨l,e2,h⟩:=bind_some' h;obtain ⟨u,e3,h⟩:=bind_some' h;split at h
 ·rename_i hs;cases h;obtain ⟨h1,_,h2⟩:=BS R ok e1;obtain ⟨rr,q1,q2⟩:=C.T.slok X ok.gx;exact PE.imp (Sl q1 h1 (Ur R ok e2) (Ur R ok e3)) fun _ _ _ h=>Zh q2 h2 hs h
 ·cases h
def gr (r:Rec) (C:Cf) (Γ:Gm) (es:List Expr):Option CE:=(r.A C Γ [] es).bind fun c=>some ⟨1,c.Γ,c.js,OZ .tup (AR c.as)⟩
def hG (r:Rec) (C:Cf) (Γ:Gm) (es:List Expr):Option CE:=(r.A C Γ [] es).bind fun c=>some ⟨1,c.Γ,c.js,OZ .lst (AR c.as)⟩
def Ti:Ev Dv:=LN (.dct [] [])
theorem Ab.dct {K:W.Frag} {g:G} {H:Hp} {p:Addr} (zd:Zd g H) (hp:H p=none):Ab K g H 1 (.dct [] []) (.ref p) (upd H p (.dK [])):=by
 have sm:=DE hp (.dK []);refine ⟨sm,fun b=>b=p,?_,fun a q=>q▸hp⟩;unfold Rep;exact ⟨p,[],rfl,BM,(fun z=>by cases z),(fun _ z=>zd p z hp),⟨rfl,nop,Reps.nil⟩,fun b=>⟨fun z=>⟨by decide,z⟩,fun z=>z.2⟩⟩
theorem fA {X:Cx} {Γ:Gm} {pos:Pos}:PE X (.Dict [] [] pos) (tE X.K Γ 1 Γ [] Ti):=PE.imp Kw fun σ H Q q=>by
 obtain ⟨g,m,P,r,R,k,res,e,q⟩:=q;intro p hp;obtain ⟨Pv,s2,h1,r2,n2⟩:=Ab.go Step.refl r (Ab.dct r.zd hp);exact q _ m g P Pv _ _ e BU.refl s2 h1 r2 n2
theorem XZ {r:Rec} (R:OkR r) {C:Cf} {X:Cx} {Γ:Gm} {es:List Expr} {x1:Nat} {pos:Pos} {c:CE} (ok:Cok C X) (h:gr r C Γ es=some c):PE X (.Tuple es x1 pos) (tE X.K Γ c.o c.Γ c.js c.f):=by
 obtain ⟨x,e1,h⟩:=bind_some' h;cases h;obtain ⟨a1,a2,_,_,a5⟩:=R.A ok e1;exact ee a1 a2 (a5 rfl)
theorem Xh {r:Rec} (R:OkR r) {C:Cf} {X:Cx} {Γ:Gm} {es:List Expr} {pos:Pos} {c:CE} (ok:Cok C X) (h:hG r C Γ es=some c):PE X (.List es pos) (tE X.K Γ c.o c.Γ c.js c.f):=by
 obtain ⟨x,e1,h⟩:=bind_some' h;cases h;obtain ⟨a1,a2,_,_,a5⟩:=R.A ok e1;exact eg a1 a2 (a5 rfl)
def BV:Gm->Gm->Gm
 | some a::x,some b::y=>some (if a == b then a else 0)::BV x y
 | _::x,_::y=>none::BV x y
 | _,_=>[]
def gV (t:Dv->Option Bool) (fa:Ev (List Dv)):Ev Bool:=Yw (one t) fa
def cV (r:Rec) (C:Cf) (Γ:Gm) (a:Expr):Option CT:=(RF r C Γ a).bind fun x=>some ⟨x.Γ,x.js++[],gV C.T.tru (AR [x.a])⟩
noncomputable def OR:Expr->Bool
 | .UnaryOp .Not _ _=>false
 | .BoolOp _ _ _=>false
 | .IfExp _ _ _ _=>false
 | .Compare _ _ _ _=>false
 | _=>true
theorem Xa {r:Rec} (R:OkR r) {C:Cf} {X:Cx} {Γ:Gm} {a:Expr} {c:CT} (ok:Cok C X) (hv:OR a=true) (h:cV r C Γ a=some c):PT X a (tT X.K Γ c.Γ c.js c.f):=by
  obtain ⟨x,e1,h⟩:=bind_some' h;cases h;obtain ⟨h1,h2⟩:=Gb R ok e1;refine PT.imp (SV h1 fun whole=>?_) fun σ H Q h=>?_
  · cases a<;>first | rfl | (cases hv;done) | skip
    rename_i op b pos;cases op<;>first | rfl | (cases hv;done)
  · obtain ⟨g,m,P,rl,R',k,res,e,q⟩:=h;have key:BN X.K [x.a] σ H fun vs H1=>∃ w,vs=[w]/\∃ b,VS X.K w H1 b/\Q b H1:=by
      refine AM [x.a] rl h2 e fun ds m' g' P' vs H1 hk ag s ar r1=>?_
      obtain ⟨b,e1,e2⟩:=bind_some' hk;unfold one at e1;split at e1
      · rename_i d;have ra:=ar.ra r1;unfold RA at ra;obtain ⟨w,wr,o,Po,rfl,_,h3,h4⟩:=ra;unfold RA at h4;subst h4;exact ⟨w,rfl,b,C.T.trok _ _ _ _ _ _ _ _ h3 e1,q b m' g' P' H1 e2 ag s r1⟩
      · cases e1
    revert key
    cases x.a with
    | ev Γa Γb ja fa =>
      rintro ⟨g,m,P,r,R,k,res,e,q⟩;refine ⟨g,m,P,r,R,k,res,e,fun d m' g' P' Pv v H' h1 h2 h3 h4 h5 h6=>?_⟩;obtain ⟨w,ew,z⟩:=q d m' g' P' Pv v H' h1 h2 h3 h4 h5 h6;cases ew;exact z
    | rf i =>
      rintro ⟨v,e,w,ew,z⟩;cases ew;exact ⟨v,e,z⟩
def cc (t:CT):CT:=⟨t.Γ,t.js,Yu t.f⟩
def jZ (a b:CT):CT:=let Γ':=BV a.Γ b.Γ;let js:=a.js++b.js;⟨Γ',js,Mn (Au Γ' js) (HZ a.f b.f fun _ m k=>k false m)⟩
def ku (a b:CT):CT:=let Γ':=BV a.Γ b.Γ;let js:=a.js++b.js;⟨Γ',js,Mn (Au Γ' js) (HZ a.f (fun _ m k=>k true m) b.f)⟩
theorem fS {X:Cx} {op:BoolOp} {vs:List Expr} {pos:Pos} {t:TT} (h:PT X (.BoolOp op vs pos) t):PW X (.BoolOp op vs pos) t:=fun wh pins s σ H Q I q=>h pins s σ H Q I q
def YR (r:Rec) (C:Cf) (Γ:Gm) (op:BoolOp) (vs:List Expr) (pos:Pos):Option CT:=match vs with
 | []=>none
 | [a]=>r.T C Γ a
 | a::b::vs=>(r.T C Γ a).bind fun x=>(r.T C x.Γ (.BoolOp op (b::vs) pos)).bind fun y=>if BQ (BV x.Γ y.Γ) x.Γ && BQ (BV x.Γ y.Γ) y.Γ then some (match op with | .And=>jZ x y | .Or=>ku x y) else none
theorem Rr {r:Rec} (R:OkR r) {C:Cf} {X:Cx} {Γ:Gm} {op:BoolOp} {vs:List Expr} {pos:Pos} {c:CT} (ok:Cok C X) (h:YR r C Γ op vs pos=some c):PT X (.BoolOp op vs pos) (tT X.K Γ c.Γ c.js c.f):=by
 match vs,h with
 | [],h=>cases h
 | [a],h =>
  cases op with
  | And=>exact PW.pt (WA (R.T ok h))
  | Or=>exact PW.pt (Zy (R.T ok h))
 | a::b::vs,h =>
  obtain ⟨x,e1,h⟩:=bind_some' h;obtain ⟨y,e2,h⟩:=bind_some' h;split at h
  ·rename_i hw;rw [lB] at hw;have ha:=R.T ok e1;have hb:=fS (R.T ok e2);have jk:∀ (i o:Nat),(BV x.Γ y.Γ)[i]?=some (some o)->i∈Au (BV x.Γ y.Γ) (x.js++y.js)\/i∉x.js++y.js:=fun i o h=>BI h
   cases op with
   | And =>
    cases h;exact PW.pt (PW.imp (Zz ha (PW.imp hb fun _ _ _ h=>Nb hw.2 (fun _ z=>z) h)) fun σ H Q h=>Re (OO jk (fun i z=>As z) h) hw.1)
   | Or =>
    cases h;exact PW.pt (PW.imp (fR ha (PW.imp hb fun _ _ _ h=>Nb hw.2 (fun _ z=>z) h)) fun σ H Q h=>dw (OO jk (fun i z=>As z) h) hw.1)
  ·cases h
def gc (p p':List Dv->Option Bool) (a:Ar) (i:Nat) (c:Ar):Ev Bool:=HZ (Yw p (AR [a,.rf i])) (Yw p' (AR [.rf i,c])) fun R m k=>k false m
section
variable {K:W.Frag} {Γ Γ2 Γ':Gm} {js js2:List Nat} {σ:St} {H:Hp}
theorem JE {f:Ev Bool} {Q Q':Bool->Hp->Prop} (h:tT K Γ Γ' js f σ H Q) (m:∀ b H',Q b H'->Q' b H'):tT K Γ Γ' js f σ H Q':=by
 obtain ⟨g,m',P,r,R,k,res,e,q⟩:=h;exact ⟨g,m',P,r,R,k,res,e,fun b m1 g1 P1 H1 h1 h2 h3 h4=>m _ _ (q b m1 g1 P1 H1 h1 h2 h3 h4)⟩
theorem Gi {a:Ar} {Q1 Q2:VK} (h12:∀ v H,Q1 v H->Q2 v H) (t:Hj K a σ H Q1):Hj K a σ H Q2:=by
 cases a with
 | ev Γa Γb ja fa =>
  obtain ⟨g,m,P,r,R,k,res,e,q⟩:=t;exact ⟨g,m,P,r,R,k,res,e,fun d m' g' P' Pv v H' h1 h2 h3 h4 h5 h6=>h12 _ _ (q d m' g' P' Pv v H' h1 h2 h3 h4 h5 h6)⟩
 | rf i=>obtain ⟨v,e,q⟩:=t;exact ⟨v,e,h12 _ _ q⟩
theorem ZF {o:Nat} {f:Ev Bool} {Q:VK} (h:tE K Γ o Γ' js (Mp f) σ H Q):tT K Γ Γ' js f σ H fun b H'=>Q (.bl b) H':=by
 obtain ⟨g,m,P,r,R,k,res,e,q⟩:=h;exact ⟨g,m,P,r,R,_,res,e,fun b m1 g1 P1 H1 hk ag s r1=>q (.bl b) m1 g1 P1 nop _ H1 hk ag (s.less fun _ z=>z.elim id False.elim) Br r1 fun _ _ z=>z⟩
theorem VF {p:List Dv->Option Bool} {as:List Ar} {r:Ou} (hp:AG K (fun ds=>(p ds).map .bl) 0 r) (c:AD Γ as Γ' js) {Q:VK} (h:tT K Γ Γ' js (Yw p (AR as)) σ H fun b H'=>Q (.bl b) H'):BN K as σ H fun vs H1=>r vs H1 Q:=by
 obtain ⟨g,m,P,rl,R',k,res,e,q⟩:=h;refine AM as rl c e fun ds m' g' P' vs H1 hk ag s ar r1=>?_
 obtain ⟨b,e1,e2⟩:=bind_some' hk;refine hp g' H1 ds vs (.bl b) _ r1.zd (ar.ra r1) (by show (p ds).map _=_;rw [e1];rfl) fun v H2 nw=>?_
 obtain ⟨Pv,s2,h1,r2,n2⟩:=Ab.go s r1 nw;rw [rep_bl h1];exact q b m' g' P' H2 e2 ag (s2.less fun _ q=>.inl q) r2
theorem Iq {p p':List Dv->Option Bool} {a c:Ar} {i o:Nat} {r r':R2} (hp:AG K (fun ds=>(p ds).map .bl) 0 (Hk r)) (hp':AG K (fun ds=>(p' ds).map .bl) 0 (Hk r')) (c1:AD Γ [a,.rf i] Γ2 js) (c2:AD Γ2 [.rf i,c] Γ' js2) (hi:Γ[i]?=some (some o)) (hw:BQ Γ' Γ2=true) {Q:VK}
    (h:tT K Γ Γ' (js++js2) (gc p p' a i c) σ H fun b H'=>Q (.bl b) H'):JF r r' (Hj K a) (Gh i) (Hj K c) σ H Q:=by
  have h0:∃ v,σ[i]?=some (some v):=by
    obtain ⟨g,m,P,r,_⟩:=h;obtain ⟨v,_,e,_⟩:=r.see hi;exact ⟨v,e⟩
  obtain ⟨v,hv⟩:=h0;have h1:=Re h hw;have h2:tT K Γ Γ2 js (Yw p (AR [a,.rf i])) σ H fun b H'=>∃ k,V.bl b=V.bl k/\if k=true then Hj K c σ H' fun w' H4=>r' v w' H4 Q else Q (.bl false) H':=JE h1 fun b H' q=>⟨b,rfl,by
    cases b with
    | true =>
      rw [if_pos rfl] at q ⊢;obtain ⟨v',hv',q'⟩:=VF hp' c2 q;rw [hv] at hv';cases hv';exact q'
    | false=>rw [if_neg lV] at q ⊢;exact q⟩
  have h3:=VF (Q:=fun z H'=>∃ k,z=V.bl k/\if k=true then Hj K c σ H' fun w' H4=>r' v w' H4 Q else Q (.bl false) H') hp c1 h2;refine Gi (fun x H1 z=>?_) h3;obtain ⟨w,hw',q⟩:=z;rw [hv] at hw';cases hw';exact ⟨v,hv,q⟩
end
def Yv (p p':List Dv->Option Bool) (a b c:Ar):Ev Bool:=fun R m k=>AR [a,b] R m fun ds m1=>(p ds).bind fun t=>if t=true then AR [c] R m1 fun cs m2=>(p' (ds.getD 1 .non::cs)).bind fun u=>k u m2 else k false m1
theorem Hd {K:W.Frag} {Γ Γ2 Γ' Γa Γb:Gm} {js js2 jb:List Nat} {σ:St} {H:Hp} {p p':List Dv->Option Bool} {a c:Ar} {fb:Ev Dv} {r r':R2} (hp:AG K (fun ds=>(p ds).map .bl) 0 (Hk r)) (hp':AG K (fun ds=>(p' ds).map .bl) 0 (Hk r')) (c1:AD Γ [a,.ev Γa Γb jb fb] Γ2 js) (c2:AD Γ2 [c] Γ' js2) (hw:BQ Γ' Γ2=true) {Q:VK}
    (h:tT K Γ Γ' (js++js2) (Yv p p' a (.ev Γa Γb jb fb) c) σ H fun b H'=>Q (.bl b) H'):JF r r' (Hj K a) (tE K Γa 0 Γb jb fb) (Hj K c) σ H Q:=by
  obtain ⟨g,m,P,rl,R,k,res,e,q⟩:=h;have key:BN K [a,.ev Γa Γb jb fb] σ H fun vs H1=>∃ x y,vs=[x,y]/\r x y H1 fun z H3=>∃ k,z=.bl k/\(if k=true then Hj K c σ H3 fun w' H4=>r' y w' H4 Q else Q (.bl false) H3):=by
    refine AM _ rl c1 e fun ds m1 g1 P1 vs H1 hk ag s ar r1=>?_
    obtain ⟨t,e1,e2⟩:=bind_some' hk;have ra:=ar.ra r1
    -- the middle's value is frozen
    obtain ⟨dx,dy,x,y,rfl,rfl,ry⟩:∃ dx dy x y,ds=[dx,dy]/\vs=[x,y]/\Rep K g1 H1 0 dy y nop:=by
      cases a with
      | rf i =>
        unfold AX at ar;obtain ⟨v,ds',vs',rfl,rfl,_,_,ar⟩:=ar;unfold AX at ar;obtain ⟨d,v',ds',vs',rfl,rfl,h1,ar⟩:=ar;unfold AX at ar;obtain ⟨rfl,rfl⟩:=ar;exact ⟨_,_,_,_,rfl,rfl,h1⟩
      | ev _ _ _ _ =>
        unfold AX at ar;obtain ⟨d0,v,ds',vs',rfl,rfl,_,ar⟩:=ar;unfold AX at ar;obtain ⟨d,v',ds',vs',rfl,rfl,h1,ar⟩:=ar;unfold AX at ar;obtain ⟨rfl,rfl⟩:=ar;exact ⟨_,_,_,_,rfl,rfl,h1⟩
    refine ⟨x,y,rfl,hp g1 H1 [dx,dy] [x,y] (.bl t) _ r1.zd ra (by show (p _).map _=_;rw [e1];rfl) fun v H2 nw=>?_⟩;obtain ⟨Pv,s2,h1,r2,n2⟩:=Ab.go s r1 nw;have sm:=nw.1;have ry2:Rep K g1 H2 0 dy y nop:=ry.held (Step.same (g:=g1) (P:=nop) sm) FpOk.nop fun _ z=>z.elim
    have s3:Step g P H g1 P1 H2:=s2.less fun _ z=>.inl z
    refine ⟨t,rep_bl h1,?_⟩;cases t with
    | false =>
      rw [if_neg lV] at e2 ⊢;obtain ⟨g4,P4,s4,r4⟩:=r2.weaken hw;exact q false m1 g4 P4 H2 e2 (ag.mono fun _ z=>lM _ z) (s3.trans s4) r4
    | true =>
      rw [if_pos rfl] at e2 ⊢;have key2:BN K [c] σ H2 fun ws H4=>∃ w,ws=[w]/\r' y w H4 Q:=by
        refine AM _ r2 c2 e2 fun cs m2 g4 P4 ws H4 hk2 ag2 s4 ar2 r4=>?_
        obtain ⟨u,e3,e4⟩:=bind_some' hk2;have ra2:=ar2.ra r4;have al:=ar2.len
        match cs,ws,al.1,al.2,ra2,e3 with
        | [cd],[w],_,_,ra2,e3 =>
          have ry4:Rep K g4 H4 0 dy y nop:=ry2.held s4 r2.fpOk fun _ z=>z.elim
          refine ⟨w,rfl,hp' g4 H4 [dy,cd] [y,w] (.bl u) Q r4.zd (by unfold RA;exact ⟨y,[w],0,nop,rfl,by decide,ry4,ra2⟩) (by show (p' _).map _=_;rw [show p' [dy,cd]=some u from e3];rfl) fun v' H5 nw'=>?_⟩;obtain ⟨Pv',s5,h5,r5,n5⟩:=Ab.go (s3.trans s4) r4 nw';rw [rep_bl h5];exact q u m2 g4 P4 H5 e4 (ag.trans ag2) (s5.less fun _ z=>.inl z) r5
      refine Gi (fun w H4 z=>?_) key2;obtain ⟨w',ew,z⟩:=z;cases ew;exact z
  refine Gi (fun x H1 z=>?_) key;obtain ⟨g,m,P,r,R,k,res,e,q⟩:=z;refine ⟨g,m,P,r,R,k,res,e,fun d m' g' P' Pv v H' h1 h2 h3 h4 h5 h6=>?_⟩;obtain ⟨x',y',ev,z⟩:=q d m' g' P' Pv v H' h1 h2 h3 h4 h5 h6;cases ev;exact z
def cv (r:Rec) (C:Cf) (Γ:Gm) (a:Expr) (op:CmpOp) (b:Expr) (op':CmpOp) (c:Expr):Option CT:=if lastMarks [op,op'] [b,c] then none else (C.T.cmps.find? fun e=>e.op == op).bind fun en=>(C.T.cmps.find? fun e=>e.op == op').bind fun en'=>(DS r C Γ true a).bind fun x=>(r.E C x.Γ b).bind fun y=>(DS r C y.Γ true c).bind fun z =>
 if Cp x.a y.Γ && Cp z.a z.Γ && BQ z.Γ y.Γ then some ⟨z.Γ,(x.js++(y.js++[]))++(z.js++[]),Yv (two en.f) (two en'.f) x.a (.ev x.Γ y.Γ y.js y.f) z.a⟩ else none
theorem Xl {r:Rec} (R:OkR r) {C:Cf} {X:Cx} {Γ:Gm} {a b c:Expr} {op op':CmpOp} {pos:Pos} {t:CT} (ok:Cok C X) (h:cv r C Γ a op b op' c=some t):PT X (.Compare a [op,op'] [b,c] pos) (tT X.K Γ t.Γ t.js t.f)/\∀ o,PE X (.Compare a [op,op'] [b,c] pos) (tE X.K Γ o t.Γ t.js (Mp t.f)):=by
 unfold cv at h;split at h
 ·cases h
 ·rename_i hm;rw [oH] at hm;obtain ⟨en,e1,h⟩:=bind_some' h;obtain ⟨en',e2,h⟩:=bind_some' h;obtain ⟨x,e3,h⟩:=bind_some' h;obtain ⟨y,e5,h⟩:=bind_some' h;obtain ⟨z,e4,h⟩:=bind_some' h;split at h
  ·rename_i hw;simp only [lB] at hw;obtain ⟨⟨w2,w4⟩,w6⟩:=hw;cases h;have eo:en.op=op:=by simpa using mP e1
   have eo':en'.op=op':=by simpa using mP e2
   obtain ⟨rr,q1,q2⟩:=en.ok X ok.gx;obtain ⟨rr',q1',q2'⟩:=en'.ok X ok.gx;rw [eo] at q1;rw [eo'] at q1';obtain ⟨a1,_,a2⟩:=BS R ok e3;obtain ⟨b1,_,b2⟩:=BS R ok e4;have hb:=Cq (R.E ok e5);have c1:AD Γ [x.a,.ev x.Γ y.Γ y.js y.f] y.Γ (x.js++(y.js++[])):=a2 (by unfold AD;exact ⟨rfl,_,rfl,BD⟩) w2;have c2:AD y.Γ [z.a] z.Γ (z.js++[]):=b2 BD w4;exact ⟨PT.imp (Ko q1 q1' a1 hb b1 hm) fun σ H Q h=>Hd (Q:=fun v H'=>∃ k,v=V.bl k/\Q k H') q2 q2' c1 c2 w6 (JE h fun b H' q=>⟨b,rfl,q⟩),fun o=>PE.imp (Ky q1 q1' a1 hb b1 hm) fun σ H Q h=>Hd q2 q2' c1 c2 w6 (ZF h)⟩
  ·cases h
def jX (r:Rec) (C:Cf) (Γ:Gm) (a:Expr) (op:CmpOp) (b:Expr) (op':CmpOp) (c:Expr):Option CT:=if lastMarks [op,op'] [b,c] then none else (Wt C b).bind fun i=>(C.T.cmps.find? fun e=>e.op == op).bind fun en=>(C.T.cmps.find? fun e=>e.op == op').bind fun en'=>(DS r C Γ true a).bind fun x=>(DS r C x.Γ true c).bind fun z =>
 if (Γ.getD i none).isSome && Cp x.a x.Γ && dY x.Γ i && Cp z.a z.Γ && dY z.Γ i && BQ z.Γ x.Γ then some ⟨z.Γ,(x.js++[])++(z.js++[]),gc (two en.f) (two en'.f) x.a i z.a⟩ else none
theorem cu {r:Rec} (R:OkR r) {C:Cf} {X:Cx} {Γ:Gm} {a b c:Expr} {op op':CmpOp} {pos:Pos} {t:CT} (ok:Cok C X) (h:jX r C Γ a op b op' c=some t):PT X (.Compare a [op,op'] [b,c] pos) (tT X.K Γ t.Γ t.js t.f)/\∀ o,PE X (.Compare a [op,op'] [b,c] pos) (tE X.K Γ o t.Γ t.js (Mp t.f)):=by
 unfold jX at h;split at h
 ·cases h
 ·rename_i hm;rw [oH] at hm;obtain ⟨i,e0,h⟩:=bind_some' h;obtain ⟨en,e1,h⟩:=bind_some' h;obtain ⟨en',e2,h⟩:=bind_some' h;obtain ⟨x,e3,h⟩:=bind_some' h;obtain ⟨z,e4,h⟩:=bind_some' h;split at h
  ·rename_i hw;simp only [lB] at hw;obtain ⟨⟨⟨⟨⟨w1,w2⟩,w3⟩,w4⟩,w5⟩,w6⟩:=hw;cases h;have eo:en.op=op:=by simpa using mP e1
   have eo':en'.op=op':=by simpa using mP e2
   obtain ⟨rr,q1,q2⟩:=en.ok X ok.gx;obtain ⟨rr',q1',q2'⟩:=en'.ok X ok.gx;rw [eo] at q1;rw [eo'] at q1';obtain ⟨a1,_,a2⟩:=BS R ok e3;obtain ⟨b1,_,b2⟩:=BS R ok e4;obtain ⟨o,hi⟩:=getD_some w1;obtain ⟨o2,lo2,hi2⟩:=HP w3;have c1:AD Γ [x.a,.rf i] x.Γ (x.js++[]):=a2 (by unfold AD;exact ⟨⟨o2,hi2⟩,⟨o2,lo2,hi2⟩,BD⟩) w2;have c2:AD x.Γ [.rf i,z.a] z.Γ (z.js++[]):=by
    unfold AD;exact ⟨⟨o2,hi2⟩,HP w5,b2 BD w4⟩
   exact ⟨PT.imp (Ko q1 q1' a1 (DJ ok e0) b1 hm) fun σ H Q h=>Iq (Q:=fun v H'=>∃ k,v=V.bl k/\Q k H') q2 q2' c1 c2 hi w6 (JE h fun b H' q=>⟨b,rfl,q⟩),fun o=>PE.imp (Ky q1 q1' a1 (DJ ok e0) b1 hm) fun σ H Q h=>Iq q2 q2' c1 c2 hi w6 (ZF h)⟩
  ·cases h
def NJ (r:Rec) (C:Cf) (Γ:Gm) (a:Expr) (op:CmpOp) (b:Expr) (op':CmpOp) (c:Expr):Option CT:=match Wt C b with
 | some _=>jX r C Γ a op b op' c
 | none=>cv r C Γ a op b op' c
theorem Oo {r:Rec} (R:OkR r) {C:Cf} {X:Cx} {Γ:Gm} {a b c:Expr} {op op':CmpOp} {pos:Pos} {t:CT} (ok:Cok C X) (h:NJ r C Γ a op b op' c=some t):PT X (.Compare a [op,op'] [b,c] pos) (tT X.K Γ t.Γ t.js t.f)/\∀ o,PE X (.Compare a [op,op'] [b,c] pos) (tE X.K Γ o t.Γ t.js (Mp t.f)):=by
 unfold NJ at h;split at h
 ·exact cu R ok h
 ·exact Xl R ok h
def YN (r:Rec) (C:Cf) (Γ:Gm) (e:Expr):Option CT:=match e with
 | .Compare a [op] [b] _=>NI r C Γ a op b
 | .Compare a [op,op'] [b,c] _=>NJ r C Γ a op b op' c
 | .UnaryOp .Not x _=>(r.T C Γ x).map cc
 | .BoolOp op vs pos=>YR r C Γ op vs pos
 | e=>if OR e then cV r C Γ e else none
theorem Rl {r:Rec} (R:OkR r) {C:Cf} {X:Cx} {Γ:Gm} {e:Expr} {c:CT} (ok:Cok C X) (h:YN r C Γ e=some c):PT X e (tT X.K Γ c.Γ c.js c.f):=by
 have val:OR e=true->(if OR e then cV r C Γ e else none)=some c->PT X e (tT X.K Γ c.Γ c.js c.f):=fun hv h=>by
  rw [if_pos hv] at h;exact Xa R ok hv h
 match e,h with
 | .Compare a ops bs pos,h =>
  match ops,bs,h with
  | [op],[b],h=>exact (On R ok h).1
  | [op,op'],[b,c],h=>exact (Oo R ok h).1
  | [],_,h=>cases h
  | [_],[],h=>cases h
  | [_],_::_::_,h=>cases h
  | [_,_],[],h=>cases h
  | [_,_],[_],h=>cases h
  | [_,_],_::_::_::_,h=>cases h
  | _::_::_::_,_,h=>cases h
 | .UnaryOp op x pos,h =>
  cases op with
  | Not =>
   cases q:r.T C Γ x with
   | none=>replace h:(r.T C Γ x).map cc=some c:=h;rw [q] at h;cases h
   | some t =>
    replace h:(r.T C Γ x).map cc=some c:=h;rw [q] at h;cases h;exact PT.imp (aA (R.T ok q)) fun _ _ _ h=>ZU h
  | _=>exact val rfl h
 | .BoolOp op vs pos,h=>exact Rr R ok h
 | .IfExp a b c' d,h=>cases h
 | .NamedExpr ..,h | .BinOp ..,h | .Lambda ..,h | .Dict ..,h | .Set ..,h | .ListComp ..,h | .SetComp ..,h | .DictComp ..,h | .GeneratorExp ..,h | .Await ..,h | .Yield ..,h | .YieldFrom ..,h | .Call ..,h | .FormattedValue ..,h | .JoinedStr ..,h | .Constant ..,h | .Attribute ..,h | .Subscript ..,h | .Starred ..,h | .Name ..,h | .List ..,h | .Tuple ..,h | .Slice ..,h=>exact val rfl h
noncomputable def ZI {R:Type} (d:Dv) (k:Bool->Option R):Option R:=match d with | .bl b=>k b | _=>none
theorem He {R:Type} {d:Dv} {k:Bool->Option R} {r:R} (h:ZI d k=some r):∃ b,d=.bl b/\k b=some r:=by
 cases d<;>first | (cases h;done) | exact ⟨_,rfl,h⟩
def Tv (f g:Ev Dv):Ev Dv:=fun R m k=>f R m fun d m1=>ZI d fun b=>if b=true then g R m1 k else k (.bl false) m1
def Yt (f g:Ev Dv):Ev Dv:=fun R m k=>f R m fun d m1=>ZI d fun b=>if b=true then k (.bl true) m1 else g R m1 k
def Th (f:Ev Dv):Ev Dv:=fun R m k=>f R m fun d m1=>ZI d fun b=>k (.bl (!b)) m1
section
variable {K:W.Frag} {Γ Γ' Γ2:Gm} {js js2:List Nat} {σ:St} {H:Hp} {f u:Ev Dv} {Q:VK}
theorem ZX (hw:BQ Γ' Γ2=true) (h:tE K Γ 0 Γ' (js++js2) (Tv f u) σ H Q):YM (tE K Γ 0 Γ2 js f) (tE K Γ2 0 Γ' js2 u) σ H Q:=by
 obtain ⟨g,m,P,r,R,k,res,e,q⟩:=h;refine ⟨g,m,P,r,R,_,res,e,fun d m1 g1 P1 Pv v H1 hk ag s rv r1 n=>?_⟩;replace hk:=He hk;obtain ⟨b,rfl,hk⟩:=hk;have s1:Step _ _ _ g1 P1 H1:=s.less fun _ z=>.inl z
 refine ⟨b,rep_bl rv,?_⟩;cases b with
 | true=>rw [if_pos rfl] at hk ⊢;exact ⟨g1,m1,P1,r1,R,k,res,hk,fun d m2 g2 P2 Pw w H2 hk2 ag2 s2 rv2 r2 n2=>q d m2 g2 P2 Pw w H2 hk2 (ag.trans ag2) (s1.trans s2) rv2 r2 n2⟩
 | false =>
  rw [if_neg lV] at hk ⊢;obtain ⟨g2,P2,s2,r2⟩:=r1.weaken hw;exact q _ m1 g2 P2 nop _ H1 hk (ag.mono fun _ z=>lM _ z) ((s1.trans s2).less fun _ z=>z.elim id False.elim) Br r2 fun _ _ z=>z
theorem eG (hw:BQ Γ' Γ2=true) (h:tE K Γ 0 Γ' (js++js2) (Yt f u) σ H Q):eB (tE K Γ 0 Γ2 js f) (tE K Γ2 0 Γ' js2 u) σ H Q:=by
 obtain ⟨g,m,P,r,R,k,res,e,q⟩:=h;refine ⟨g,m,P,r,R,_,res,e,fun d m1 g1 P1 Pv v H1 hk ag s rv r1 n=>?_⟩;replace hk:=He hk;obtain ⟨b,rfl,hk⟩:=hk;have s1:Step _ _ _ g1 P1 H1:=s.less fun _ z=>.inl z
 refine ⟨b,rep_bl rv,?_⟩;cases b with
 | false=>rw [if_neg lV] at hk ⊢;exact ⟨g1,m1,P1,r1,R,k,res,hk,fun d m2 g2 P2 Pw w H2 hk2 ag2 s2 rv2 r2 n2=>q d m2 g2 P2 Pw w H2 hk2 (ag.trans ag2) (s1.trans s2) rv2 r2 n2⟩
 | true =>
  rw [if_pos rfl] at hk ⊢;obtain ⟨g2,P2,s2,r2⟩:=r1.weaken hw;exact q _ m1 g2 P2 nop _ H1 hk (ag.mono fun _ z=>lM _ z) ((s1.trans s2).less fun _ z=>z.elim id False.elim) Br r2 fun _ _ z=>z
theorem ZW (h:tE K Γ 0 Γ' js (Th f) σ H Q):YH (tE K Γ 0 Γ' js f) σ H Q:=by
 obtain ⟨g,m,P,r,R,k,res,e,q⟩:=h;refine ⟨g,m,P,r,R,_,res,e,fun d m1 g1 P1 Pv v H1 hk ag s rv r1 n=>?_⟩;replace hk:=He hk;obtain ⟨b,rfl,hk⟩:=hk;exact ⟨b,rep_bl rv,q _ m1 g1 P1 nop _ H1 hk ag (s.less fun _ z=>z.elim .inl False.elim) Br r1 fun _ _ z=>z⟩
end
def gv (r:Rec) (C:Cf) (Γ:Gm) (x:Expr):Option CE:=(r.E C Γ x).bind fun c=>some ⟨0,c.Γ,c.js,Th c.f⟩
def Rt (r:Rec) (C:Cf) (Γ:Gm) (op:BoolOp) (vs:List Expr) (pos:Pos):Option CE:=match vs with
 | []=>none
 | [a]=>r.E C Γ a
 | a::b::vs=>(r.E C Γ a).bind fun x=>(r.E C x.Γ (.BoolOp op (b::vs) pos)).bind fun y=>let Γ':=BV x.Γ y.Γ;let js:=x.js++y.js;if BQ Γ' x.Γ && BQ Γ' y.Γ then some ⟨0,Γ',js,Mn (Au Γ' js) (match op with | .And=>Tv x.f y.f | .Or=>Yt x.f y.f)⟩ else none
theorem PL {r:Rec} (R:OkR r) {C:Cf} {X:Cx} {Γ:Gm} {op:BoolOp} {vs:List Expr} {pos:Pos} {c:CE} (ok:Cok C X) (h:Rt r C Γ op vs pos=some c):PE X (.BoolOp op vs pos) (tE X.K Γ c.o c.Γ c.js c.f):=by
 match vs,h with
 | [],h=>cases h
 | [a],h=>exact aU (R.E ok h)
 | a::b::vs,h =>
  obtain ⟨x,e1,h⟩:=bind_some' h;obtain ⟨y,e2,h⟩:=bind_some' h;simp only at h;split at h
  ·rename_i hw;rw [lB] at hw;have ha:=Cq (R.E ok e1);have hb:=Cq (R.E ok e2);have jk:∀ (i o:Nat),(BV x.Γ y.Γ)[i]?=some (some o)->i∈Au (BV x.Γ y.Γ) (x.js++y.js)\/i∉x.js++y.js:=fun i o h=>BI h
   cases op with
   | And=>cases h;exact PE.imp (aZ ha (PE.imp hb fun _ _ _ h=>GT hw.2 (fun _ z=>z) h)) fun σ H Q h=>ZX hw.1 (GW jk (fun i z=>As z) h)
   | Or=>cases h;exact PE.imp (fW ha (PE.imp hb fun _ _ _ h=>GT hw.2 (fun _ z=>z) h)) fun σ H Q h=>eG hw.1 (GW jk (fun i z=>As z) h)
  ·cases h
def hU (r:Rec) (C:Cf) (Γ:Gm) (c a b:Expr):Option CE:=(r.T C Γ c).bind fun t=>(r.E C t.Γ a).bind fun x=>(r.E C t.Γ b).bind fun y=>let Γ':=BV x.Γ y.Γ;let js:=t.js++(x.js++y.js);if BQ Γ' x.Γ && BQ Γ' y.Γ then some ⟨0,Γ',js,Mn (Au Γ' js) (HZ t.f x.f y.f)⟩ else none
theorem Xi {r:Rec} (R:OkR r) {C:Cf} {X:Cx} {Γ:Gm} {c a b:Expr} {pos:Pos} {d:CE} (ok:Cok C X) (h:hU r C Γ c a b=some d):PE X (.IfExp c a b pos) (tE X.K Γ d.o d.Γ d.js d.f):=by
 obtain ⟨t,e1,h⟩:=bind_some' h;obtain ⟨x,e2,h⟩:=bind_some' h;obtain ⟨y,e3,h⟩:=bind_some' h;simp only at h;split at h
 ·rename_i hw;rw [lB] at hw;cases h;exact PE.imp (Sn (R.T ok e1) (PE.imp (Cq (R.E ok e2)) fun _ _ _ h=>GT hw.1 (fun _ z=>z) h) (PE.imp (Cq (R.E ok e3)) fun _ _ _ h=>GT hw.2 (fun _ z=>z) h)) fun σ H Q h=>eI (GW (fun i o z=>BI z) (fun i z=>As z) h)
 ·cases h
theorem Az {es:List Expr} {env:Env} {pos:Pos} (h:es.all BA=true):(backTo pos (starEach es env)).any (·.1)=false:=by
 induction es with
 | nil=>rfl
 | cons e es ih =>
  rw [mL,lB] at h;rw [AK h.1];show (false || (backTo pos (starEach es env)).any (·.1))=false;rw [ih h.2];rfl
theorem dH {es:List Expr} {env:Env} {pos:Pos} (h:es.all BA=true):(backTo pos (starEach es env)).all (fun x=>!x.1)=true:=by
 induction es with
 | nil=>rfl
 | cons e es ih =>
  rw [mL,lB] at h;rw [AK h.1];show (true && (backTo pos (starEach es env)).all (fun x=>!x.1))=true;rw [ih h.2];rfl
def ZC (r:Rec) (C:Cf) (Γ:Gm) (s:Sig) (es:List Expr):Option CE:=(r.A C Γ ((List.range es.length).map s.io.contains) es).bind fun c=>if shp c.as s.io && (es.length == s.ps.length) && (slots c.as s.io).all (fun i=>c.Γ.getD i none == some 1) then some ⟨s.ro,c.Γ,c.js++slots c.as s.io,Mo s c.as⟩ else none
theorem Ul {r:Rec} (R:OkR r) {C:Cf} {X:Cx} {Γ:Gm} {x:Str} {s:Sig} {es:List Expr} {p pos:Pos} {c:CE} (ok:Cok C X) (hs:(x,s)∈C.fs) (hg:Gl X x) (hn:TB x=true) (h:ZC r C Γ s es=some c):PE X (.Call (.Name x p) es [] pos) (tE X.K Γ c.o c.Γ c.js c.f):=by
 obtain ⟨c1,e1,h⟩:=bind_some' h;split at h
 ·rename_i hw;simp only [lB,lx,beq_iff_eq] at hw;cases h;obtain ⟨a1,a2,a3,a4,_⟩:=R.A ok e1;obtain ⟨nd,hio,j,kk,hj,hrm,F⟩:=ok.fs x s hs;have run:∀ {σ H Q},tE X.K Γ s.ro c1.Γ (c1.js++slots c1.as s.io) (Mo s c1.as) σ H Q->eE (PP X.K s) (BN X.K c1.as) σ H Q:=fun h=>Ua a2 hw.1.1 (a3.trans hw.1.2) nd hio (fun i hi=>BR (hw.2 i hi)) h
  cases es with
  | nil =>
   have e:c1.as=[]:=mI a3;refine PE.imp (So F hrm hj hg (Bt hn).1) fun σ H Q h=>?_
   have:=run h;rw [e] at this;exact this
  | cons e es =>
   rw [mL,lB] at a4;exact PE.imp (OF F hrm hj hg a1 (Bt hn).1 (AK a4.1) (Az a4.2)) fun σ H Q h=>run h
 ·cases h
def Yz (r:Rec) (C:Cf) (Γ:Gm) (s:Sig) (es:List Expr):Option CE:=(r.A C Γ (List.replicate es.length true) es).bind fun c=>if es.length == s.ps.length then some ⟨1,c.Γ,c.js,Jj s c.as⟩ else none
theorem Uj {r:Rec} (R:OkR r) {C:Cf} {X:Cx} {Γ:Gm} {x:Str} {s:Sig} {es:List Expr} {p pos:Pos} {c:CE} (ok:Cok C X) (hs:(x,s)∈C.fs) (hio:s.io=[]) (hg:Gl X x) (hn:TB x=true) (h:Yz r C Γ s es=some c):PE X (.Call (.Name x p) es [] pos) (tE X.K Γ c.o c.Γ c.js c.f):=by
 obtain ⟨c1,e1,h⟩:=bind_some' h;split at h
 ·rename_i hw;rw [beq_iff_eq] at hw;cases h;obtain ⟨a1,a2,a3,a4,_⟩:=R.A ok e1;obtain ⟨nd,_,j,kk,hj,hrm,F⟩:=ok.fs x s hs;have run:∀ {σ H Q},tE X.K Γ 1 c1.Γ c1.js (Jj s c1.as) σ H Q->eE (PP X.K s) (BN X.K c1.as) σ H Q:=fun h=>Qe a2 hio (a3.trans hw) h
  cases es with
  | nil =>
   have e:c1.as=[]:=mI a3;refine PE.imp (So F hrm hj hg (Bt hn).1) fun σ H Q h=>?_
   have:=run h;rw [e] at this;exact this
  | cons e es =>
   rw [mL,lB] at a4;exact PE.imp (OF F hrm hj hg a1 (Bt hn).1 (AK a4.1) (Az a4.2)) fun σ H Q h=>run h
 ·cases h
theorem Dm:∀ (sl:List Nat) (bs:List Dv) (m:M) (d:Dv),∃ d',EO sl bs (m++[d])=EO sl bs m++[d']
 | [],_,m,d=>⟨d,rfl⟩
 | _::_,[],m,d=>⟨d,rfl⟩
 | s::sl,b::bs,m,d=>by
  unfold EO
  by_cases h:s < m.length
  ·rw [List.set_append_left _ _ h];exact Dm sl bs _ d
  ·rw [List.set_append_right _ _ (by omega),List.set_eq_of_length_le (l:=m) (by omega)];cases s - m.length with
   | zero=>exact Dm sl bs m b
   | succ k=>exact Dm sl bs m d
section
variable {K:W.Frag} {g:G} {H H':Hp} {σ:St} {Γ Γ':Gm} {js:List Nat} {m:M} {P:Fp} {as:List Ar}
theorem Rel.snoc {d:Dv} {v:V} {Pv:Fp} (r:Rel K g H Γ m σ P) (h:Rep K g H 1 d v Pv) (n:Disj P Pv):Rel K g H (Γ++[some 1]) (m++[d]) (σ++[some v]) fun a=>P a\/Pv a:=by
  obtain ⟨zd,F,h1,h4⟩:=r
  let F':Nat->Fp:=fun i a=>(i < Γ.length/\F i a)\/(i=Γ.length/\Pv a)
  have lt:∀ {i:Nat} {a:Addr},F i a->i < Γ.length:=fun {i a} z=>by
    rcases mi i Γ.length with w | w
    · exact w
    · exact (h1.out i (fun o e=>by rw [mK w] at e;cases e) a z).elim
  refine ⟨zd,F',⟨by simp [h1.l1],by simp [h1.l2],fun i o e=>?_,fun i e a z=>?_,fun i j ne a z w=>?_⟩,fun a=>⟨fun z=>?_,fun ⟨i,z⟩=>?_⟩⟩
  · rcases mi i Γ.length with w | w
    · rw [lL w] at e;obtain ⟨d',v',e1,e2,e3⟩:=h1.rep i o e;refine ⟨d',v',by rw [lL (by rw [h1.l1];exact w)];exact e1,by rw [lL (by rw [h1.l2];exact w)];exact e2,e3.iff fun a=>⟨fun z=>z.elim (fun z=>z.2) fun z=>by omega,fun z=>.inl ⟨w,z⟩⟩⟩
    · have:i=Γ.length:=by
        have:=(lD.mp e).1;simp at this;omega
      subst this;rw [lg (lJ _),mX] at e;cases e;refine ⟨d,v,by rw [<- h1.l1,lg (lJ _),mX];rfl,by rw [<- h1.l2,lg (lJ _),mX];rfl,h.iff fun a=>⟨fun z=>z.elim (fun z=>by omega) fun z=>z.2,fun z=>.inr ⟨rfl,z⟩⟩⟩
  · rcases z with ⟨w,z⟩ | ⟨rfl,z⟩
    · exact h1.out i (fun o e'=>e o (by rw [lL w];exact e')) a z
    · exact e 1 (by rw [lg (lJ _),mX];rfl)
  · rcases z with ⟨_,z⟩ | ⟨e1,z⟩<;>rcases w with ⟨_,w⟩ | ⟨e2,w⟩
    · exact h1.dj i j ne a z w
    · exact n a ((h4 a).mpr ⟨i,z⟩) w
    · exact n a ((h4 a).mpr ⟨j,w⟩) z
    · omega
  · rcases z with z | z
    · obtain ⟨i,z⟩:=(h4 a).mp z;exact ⟨i,.inl ⟨lt z,z⟩⟩
    · exact ⟨_,.inr ⟨rfl,z⟩⟩
  · rcases z with ⟨_,z⟩ | ⟨_,z⟩
    · exact .inl ((h4 a).mpr ⟨i,z⟩)
    · exact .inr z
theorem Rel.init {x:Option Nat} {d:Dv} {y:Option V} (r:Rel K g H (Γ++[x]) (m++[d]) (σ++[y]) P):∃ P0,Rel K g H Γ m σ P0/\∀ a,P0 a->P a:=by
 obtain ⟨zd,F,h1,h4⟩:=r;have l1:m.length=Γ.length:=by have:=h1.l1;simpa using this
 have l2:σ.length=Γ.length:=by have:=h1.l2;simpa using this
 let F':Nat->Fp:=fun i a=>i < Γ.length/\F i a
 refine ⟨fun a=>∃ i,F' i a,⟨zd,F',⟨l1,l2,fun i o e=>?_,fun i e a z=>?_,fun i j ne a z w=>h1.dj i j ne a z.2 w.2⟩,fun _=>Iff.rfl⟩,fun a ⟨i,z⟩=>(h4 a).mpr ⟨i,z.2⟩⟩
 ·have w:=(lD.mp e).1;obtain ⟨d',v',e1,e2,e3⟩:=h1.rep i o (by rw [lL w];exact e);rw [lL (by omega)] at e1 e2;exact ⟨d',v',e1,e2,e3.iff fun a=>⟨fun z=>z.2,fun z=>⟨w,z⟩⟩⟩
 ·exact h1.out i (fun o e'=>e o (by rw [lL z.1] at e';exact e')) a z.2
theorem AX.snoc {d:Dv} {v:V} (l1:m.length=Γ.length) (l2:σ.length=Γ.length) (s:NW H H'):∀ {as:List Ar} {ds:List Dv} {vs:List V},AX K g H Γ m σ as ds vs->AX K g H' (Γ++[some 1]) (m++[d]) (σ++[some v]) (as++[Ar.rf Γ.length]) (ds++[d]) (vs++[v])
 | [],ds,vs,h=>by
  unfold AX at h;obtain ⟨rfl,rfl⟩:=h;show AX K g H' _ _ _ [Ar.rf Γ.length] [d] [v];unfold AX;refine ⟨v,[],[],?_,rfl,by rw [<- l2,lg (lJ _),mX];rfl,⟨1,by decide,by rw [lg (lJ _),mX];rfl⟩,by unfold AX;exact ⟨rfl,rfl⟩⟩;have:(m++[d]).at Γ.length=d:=by unfold M.at;rw [lY,<- l1,lg (lJ _),mX];rfl
  rw [this]
 | .ev _ _ _ f::as,ds,vs,h=>by
  unfold AX at h;obtain ⟨d0,v0,ds',vs',rfl,rfl,h1,h2⟩:=h;show AX K g H' _ _ _ (.ev _ _ _ f::(as++[Ar.rf Γ.length])) (d0::(ds'++[d])) (v0::(vs'++[v]));unfold AX;exact ⟨d0,v0,_,_,rfl,rfl,h1.held (Step.same (g:=g) (P:=nop) s) FpOk.nop fun _ z=>z.elim,AX.snoc l1 l2 s h2⟩
 | .rf i::as,ds,vs,h=>by
  unfold AX at h;obtain ⟨v0,ds',vs',rfl,rfl,h1,⟨o,ho,h2⟩,h3⟩:=h;have w:=(lD.mp h2).1;show AX K g H' _ _ _ (.rf i::(as++[Ar.rf Γ.length])) (m.at i::(ds'++[d])) (v0::(vs'++[v]));unfold AX;refine ⟨v0,_,_,?_,rfl,by rw [lL (by omega)];exact h1,⟨o,ho,by rw [lL w];exact h2⟩,AX.snoc l1 l2 s h3⟩;have:(m++[d]).at i=m.at i:=by unfold M.at;rw [lY,lY,lL (by omega)]
  rw [this]
def Jk (s:Sig) (as:List Ar) (N:Nat):Ev Dv:=fun R m k=>AR as R m fun ds m1=>s.cps R (ds++[.dct [] []]) fun d bs=>k d (EO (slots (as++[Ar.rf N]) s.io) bs m1)
theorem Qo {s:Sig} (c:AD Γ as Γ' js) (hs:shp (as++[Ar.rf Γ'.length]) s.io=true) (hn:(as++[Ar.rf Γ'.length]).length=s.ps.length) (nd:s.io.Nodup) (hio:∀ i∈s.io,i < s.ps.length) (hl:∀ i∈slots (as++[Ar.rf Γ'.length]) s.io,(Γ'++[some 1])[i]?=some (some 1)) {Q:VK}
    (h:tE K Γ s.ro Γ' (js++slots (as++[Ar.rf Γ'.length]) s.io) (Jk s as Γ'.length) σ H Q):BN K as σ H fun vs H1=>∀ p,H1 p=none->PP K s (vs++[.ref p]) (upd H1 p (.dK [])) Q E0:=by
  obtain ⟨g,m,P,r,R,k,res,e,q⟩:=h;refine AM as r c e fun ds m1 g1 P1 vs H1 hk ag st ar r1 p hp=>?_
  rw [s.eq] at hk;obtain ⟨⟨d,bs⟩,e1,e2⟩:=bind_some' hk;have nw:Ab K g1 H1 1 (.dct [] []) (.ref p) (upd H1 p (.dK [])):=Ab.dct r1.zd hp;have sm:=nw.1;obtain ⟨Pv,s2,h1,r2,n2⟩:=Ab.go Step.refl r1 nw;obtain ⟨l1,l2⟩:m1.length=Γ'.length/\σ.length=Γ'.length:=by obtain ⟨_,F,h,_⟩:=r1;exact ⟨h.l1,h.l2⟩
  refine Ir hs hn nd hio hl (r2.snoc h1 n2) (ar.snoc l1 l2 sm) e1 fun g2 P2 Pw v H2 st2 rv rz n=>?_
  obtain ⟨d',ed⟩:=Dm (slots (as++[Ar.rf Γ'.length]) s.io) bs m1 (.dct [] []);rw [ed] at rz;obtain ⟨P0,r0,hP⟩:=rz.init;exact q d _ g2 P0 Pw v H2 e2 (ag.trans (Kn _ bs m1)) (st.trans (s2.trans (st2.less fun a z=>z.elim (fun z=>.inl (hP a z)) .inr))) rv r0 fun a z w=>n a (hP a z) w
end
noncomputable def Je:Expr->Bool
 | .Dict [] [] _=>true
 | _=>false
theorem QH {e:Expr} (h:Je e=true):∃ pos,e=.Dict [] [] pos:=by
 unfold Je at h;split at h
 ·exact ⟨_,rfl⟩
 ·cases h
def ZA (r:Rec) (C:Cf) (Γ:Gm) (s:Sig) (es:List Expr):Option CE:=(r.A C Γ ((List.range es.length).map s.io.contains) es.dropLast).bind fun c=>if shp (c.as++[Ar.rf c.Γ.length]) s.io && (es.length == s.ps.length) && (slots (c.as++[Ar.rf c.Γ.length]) s.io).all (fun i=>(c.Γ++[some 1]).getD i none == some 1) then some ⟨s.ro,c.Γ,c.js++slots (c.as++[Ar.rf c.Γ.length]) s.io,Jk s c.as c.Γ.length⟩ else none
theorem Uk {r:Rec} (R:OkR r) {C:Cf} {X:Cx} {Γ:Gm} {x:Str} {s:Sig} {es:List Expr} {p pos:Pos} {c:CE} (ok:Cok C X) (hs:(x,s)∈C.fs) (hg:Gl X x) (hn:TB x=true) (hd:(es.getLast?.map Je).getD false=true) (h:ZA r C Γ s es=some c):PE X (.Call (.Name x p) es [] pos) (tE X.K Γ c.o c.Γ c.js c.f):=by
  obtain ⟨c1,e1,h⟩:=bind_some' h;split at h
  · rename_i hw;simp only [lB,lx,beq_iff_eq] at hw;cases h;obtain ⟨a1,a2,a3,a4,_⟩:=R.A ok e1;obtain ⟨nd,hio,j,kk,hj,hrm,F⟩:=ok.fs x s hs;obtain ⟨l,es0,rfl⟩:∃ l es0,es=es0++[l]:=by
      cases q:es.getLast? with
      | none=>rw [q] at hd;cases hd
      | some l=>obtain ⟨ys,e⟩:=List.getLast?_eq_some_iff.mp q;exact ⟨l,ys,e⟩
    rw [List.getLast?_concat] at hd;obtain ⟨ps,rfl⟩:=QH hd;rw [List.dropLast_concat] at e1 a1 a3 a4;have pa:=R.B ok e1 (Kw (X:=X) (pos:=ps)) rfl;have run:∀ {σ H Q},tE X.K Γ s.ro c1.Γ (c1.js++slots (c1.as++[Ar.rf c1.Γ.length]) s.io) (Jk s c1.as c1.Γ.length) σ H Q->eE (PP X.K s) (Rf (BN X.K c1.as) Rj) σ H Q:=fun h=>Qo a2 hw.1.1 (by rw [<- hw.1.2];simp [a3]) nd hio (fun i hi=>BR (hw.2 i hi)) h
    have ns:(es0++[Expr.Dict [] [] ps]).all BA=true:=by rw [List.all_append,a4];rfl
    cases es0 with
    | nil=>exact PE.imp (OF F hrm hj hg pa (Bt hn).1 (AK rfl) rfl) fun σ H Q h=>run h
    | cons e es =>
      rw [List.cons_append,mL,lB] at ns;exact PE.imp (OF F hrm hj hg pa (Bt hn).1 (AK ns.1) (Az ns.2)) fun σ H Q h=>run h
  · cases h
def cb (r:Rec) (C:Cf) (Γ:Gm) (s:Sig) (es:List Expr):Option CE:=if s.nb && s.io.isEmpty then Yz r C Γ s es else if (es.getLast?.map Je).getD false && s.io.contains (es.length - 1) then ZA r C Γ s es else ZC r C Γ s es
theorem Xe {r:Rec} (R:OkR r) {C:Cf} {X:Cx} {Γ:Gm} {x:Str} {s:Sig} {es:List Expr} {p pos:Pos} {c:CE} (ok:Cok C X) (hs:(x,s)∈C.fs) (hg:Gl X x) (hn:TB x=true) (h:cb r C Γ s es=some c):PE X (.Call (.Name x p) es [] pos) (tE X.K Γ c.o c.Γ c.js c.f):=by
 unfold cb at h;split at h
 ·rename_i z;rw [lB,List.isEmpty_iff] at z;exact Uj R ok hs z.2 hg hn h
 ·split at h
  ·rename_i z;rw [lB] at z;exact Uk R ok hs hg hn z.1 h
  ·exact Ul R ok hs hg hn h
def Ui (r:Rec) (C:Cf) (Γ:Gm) (en:CallE) (es:List Expr):Option CE:=if es.isEmpty then none else (r.A C Γ (List.replicate es.length true) es).bind fun c=>some ⟨en.o,c.Γ,c.js,CN en.f (AR c.as)⟩
theorem Uh {r:Rec} (R:OkR r) {C:Cf} {X:Cx} {Γ:Gm} {en:CallE} {es:List Expr} {p pos:Pos} {c:CE} (ok:Cok C X) (hb:en.x∈C.bl) (hg:Gl X en.x) (hn:TB en.x=true) (h:Ui r C Γ en es=some c):PE X (.Call (.Name en.x p) es [] pos) (tE X.K Γ c.o c.Γ c.js c.f):=by
 cases es with
 | nil=>cases h
 | cons e es =>
  unfold Ui at h;rw [if_neg (by simp)] at h;obtain ⟨c1,e1,h⟩:=bind_some' h;cases h;obtain ⟨a1,a2,a3,a4,_⟩:=R.A ok e1;rw [mL,lB] at a4;obtain ⟨rr,q1,q2⟩:=en.ok X ok.gx;have n:=Bt hn;rcases q2 with ⟨id,q2,q3⟩ | ⟨T,q2,q3⟩
  ·exact PE.imp (Sq q2 hg (ok.bl _ hb) q3 a1 n.2.2 n.1 (AK a4.1) (Az a4.2)) fun _ _ _ h=>BH q1 a2 h
  ·exact PE.imp (Pf q2 hg (ok.bl _ hb) q3 a1 n.2.2 n.1 (AK a4.1) (Az a4.2)) fun _ _ _ h=>BH q1 a2 h
noncomputable def VE:Expr->Bool
 | .Call _ _ _ _=>false
 | _=>true
theorem Ez {o:Expr} {name:Str} {env:Env} {w:Sem Value} (h:VE o=true):attributeBase o name env w=w:=by
 cases o<;>first | rfl | (cases h)
def cf (r:Rec) (C:Cf) (Γ:Gm) (en:MutE) (i:Nat) (es:List Expr):Option CE:=if es.length < 29 && (Γ.getD i none).isSome then (r.A C Γ [] es).bind fun c=>if c.Γ.getD i none == some 1 then some ⟨0,c.Γ,c.js++[i],Tj en.T i en.p (AR c.as)⟩ else none else none
theorem Mm {e:Expr} {es:List Expr} {env:Env} {pos:Pos} (h:(e::es).all BA=true) (hl:(e::es).length < 29):((backTo pos (starEach (e::es) env)).all (fun x=>!x.1) && (backToKw pos (keywordEach [] env)).all (fun x=>x.1.isSome)
      && decide ((e::es).length+([]:List Keyword).length+(if ([]:List Keyword).isEmpty then 0 else 1) < 30))=true:=by
  rw [dH h];show (true && true && decide _)=true;simp only [mH,Bool.true_and,decide_eq_true_eq,nW,List.isEmpty_nil,if_true];omega
theorem Xg {r:Rec} (R:OkR r) {C:Cf} {X:Cx} {Γ:Gm} {en:MutE} {i:Nat} {o:Expr} {es:List Expr} {apos pos:Pos} {c:CE} (ok:Cok C X) (hi:Wt C o=some i) (hline:(apos.endLine == pos.line)=true) (h:cf r C Γ en i es=some c):PE X (.Call (.Attribute o en.x apos) es [] pos) (tE X.K Γ c.o c.Γ c.js c.f):=by
 unfold cf at h;split at h
 ·rename_i h0;simp only [lB,decide_eq_true_eq] at h0;obtain ⟨c1,e1,h⟩:=bind_some' h;split at h
  ·rename_i h1;cases h;obtain ⟨a1,a2,a3,a4,a5⟩:=R.A ok e1;obtain ⟨id,rr,q1,q2,q3,q4,q5⟩:=en.ok X ok.gx;have ho:=DJ ok hi;have hbase:attributeBase o en.x X.env (eval o X.env)=eval o X.env:=Ez (by cases o<;>first | rfl | (cases hi));have run:∀ {σ H Q},tE X.K Γ 0 c1.Γ (c1.js++[i]) (Tj en.T i en.p (AR c1.as)) σ H Q->eL X.K en.T rr (Gh i) (BN X.K c1.as) σ H Q:=fun h=>Wo q5 en.hT a2 (a5 rfl) (getD_some h0.2) (BR (beq_iff_eq.mp h1)) h
   cases es with
   | nil =>
    have e:c1.as=[]:=mI a3;refine PE.imp (Su q1 q2 q3 q4 ho hbase hline) fun σ H Q h=>?_
    have:=run h;rw [e] at this;exact this
   | cons e es =>
    have a4':=a4;rw [mL,lB] at a4;exact PE.imp (YZ q1 q2 q3 q4 ho a1 hbase (Mm a4' h0.1) hline (AK a4.1) (Az a4.2)) fun σ H Q h=>run h
  ·cases h
 ·cases h
def gy (r:Rec) (C:Cf) (Γ:Gm) (en:MethE) (o:Expr) (es:List Expr):Option CE:=if es.length < 29 && VE o then (DS r C Γ true o).bind fun x=>(r.A C x.Γ (List.replicate es.length true) es).bind fun c=>if Cp x.a c.Γ then some ⟨en.o,c.Γ,x.js++c.js,Tn en.T x.a c.as en.f⟩ else none else none
theorem NH {r:Rec} (R:OkR r) {C:Cf} {X:Cx} {Γ:Gm} {en:MethE} {o:Expr} {es:List Expr} {apos pos:Pos} {c:CE} (ok:Cok C X) (hline:(apos.endLine == pos.line)=true) (hn:en.n=es.length) (h:gy r C Γ en o es=some c):PE X (.Call (.Attribute o en.x apos) es [] pos) (tE X.K Γ c.o c.Γ c.js c.f):=by
 unfold gy at h;split at h
 ·rename_i h0;simp only [lB,decide_eq_true_eq] at h0;obtain ⟨x,e0,h⟩:=bind_some' h;obtain ⟨c1,e1,h⟩:=bind_some' h;split at h
  ·rename_i h1;cases h;obtain ⟨o1,_,o2⟩:=BS R ok e0;obtain ⟨a1,a2,a3,a4,a5⟩:=R.A ok e1;obtain ⟨id,rr,q1,q2,q3,q4,q5⟩:=en.ok X ok.gx;have hbase:attributeBase o en.x X.env (eval o X.env)=eval o X.env:=Ez h0.2;rcases en.hT with hT | ⟨hT,hT1⟩
   ·have run:∀ {σ H Q},tE X.K Γ en.o c1.Γ (x.js++c1.js) (Tn en.T x.a c1.as en.f) σ H Q->eL X.K en.T rr (Hj X.K x.a) (BN X.K c1.as) σ H Q:=fun h=>bC q5 hT (o2 a2 h1) h
    cases es with
    | nil =>
     have e:c1.as=[]:=mI a3;refine PE.imp (Su q1 q2 q3 q4 o1 hbase hline) fun σ H Q h=>?_
     have:=run h;rw [e] at this;exact this
    | cons e es =>
     have a4':=a4;rw [mL,lB] at a4;exact PE.imp (YZ q1 q2 q3 q4 o1 a1 hbase (Mm a4' h0.1) hline (AK a4.1) (Az a4.2)) fun σ H Q h=>run h
   ·have run:∀ {σ H Q},tE X.K Γ en.o c1.Γ (x.js++c1.js) (Tn en.T x.a c1.as en.f) σ H Q->iu rr (Hj X.K x.a) (BN X.K c1.as) σ H Q:=fun h=>Wq q5 (o2 a2 h1) (by rw [hT] at h;exact h)
    rw [hT] at q1 q2;cases es with
    | nil=>rw [hT1] at hn;cases hn
    | cons e es =>
     have a4':=a4;rw [mL,lB] at a4;exact PE.imp (fZ q1 q2 q3 q4 o1 a1 hbase (Mm a4' h0.1) hline (AK a4.1) (Az a4.2)) fun σ H Q h=>run h
  ·cases h
 ·cases h
def cU (c1 c2:CE):Option CE:=if c1.o == c2.o && c1.Γ == c2.Γ && c1.js == c2.js then some ⟨c1.o,c1.Γ,c1.js,Mn (Au c1.Γ c1.js) (evOr c1.f c2.f)⟩ else none
theorem XY {X:Cx} {Γ:Gm} {e:Expr} {c1 c2 c:CE} (h1:PE X e (tE X.K Γ c1.o c1.Γ c1.js c1.f)) (h2:PE X e (tE X.K Γ c2.o c2.Γ c2.js c2.f)) (h:cU c1 c2=some c):PE X e (tE X.K Γ c.o c.Γ c.js c.f):=by
 unfold cU at h;split at h
 ·rename_i h0;simp only [lB,beq_iff_eq] at h0;obtain ⟨⟨e1,e2⟩,e3⟩:=h0;cases h;rw [<- e1,<- e2,<- e3] at h2;intro pins s σ H Q I q;rcases ZV (GW (fun i o z=>BI z) (fun i z=>As z) q) with q | q
  ·exact h1 pins s σ H Q I q
  ·exact h2 pins s σ H Q I q
 ·cases h
def jS (r:Rec) (C:Cf) (Γ:Gm) (o:Expr) (es:List Expr):List MethE->Option CE
 | []=>none
 | [en]=>gy r C Γ en o es
 | en::en2::_=>(gy r C Γ en o es).bind fun c1=>(gy r C Γ en2 o es).bind fun c2=>cU c1 c2
def Oq (r:Rec) (C:Cf) (Γ:Gm) (f:Expr) (es:List Expr) (pos:Pos):Option CE:=match f with
  | .Name x _=>if GP C.sc x && TB x then (match C.fs.find? fun p=>p.1 == x with
      | some p=>cb r C Γ p.2 es
      | none=>(C.T.calls.find? fun e=>e.x == x && e.n == es.length).bind fun en=>if C.bl.contains x then Ui r C Γ en es else none) else none
  | .Attribute o name apos=>if apos.endLine == pos.line then (match C.T.muts.find? fun e=>e.x == name && e.n == es.length with
      | some en=>(Wt C o).bind fun i=>cf r C Γ en i es
      | none=>jS r C Γ o es (C.T.meths.filter fun e=>e.x == name && e.n == es.length)) else none
  | _=>none
theorem Uq {r:Rec} (R:OkR r) {C:Cf} {X:Cx} {Γ:Gm} {f:Expr} {es:List Expr} {pos:Pos} {c:CE} (ok:Cok C X) (h:Oq r C Γ f es pos=some c):PE X (.Call f es [] pos) (tE X.K Γ c.o c.Γ c.js c.f):=by
  cases f with
  | Name x p =>
    simp only [Oq] at h;split at h
    · rename_i h0;rw [lB] at h0;split at h
      · rename_i p' hp;have e:p'.1=x:=by simpa using mP hp
        have hm:=oN hp;exact Xe R ok (s:=p'.2) (by rw [<- e];exact hm) (BJ ok h0.1) h0.2 h
      · replace h:=bind_some' h;obtain ⟨en,e1,h⟩:=h;split at h
        · rename_i hb;have e:=mP e1;simp only [lB,beq_iff_eq] at e;obtain ⟨rfl,_⟩:=e;exact Uh R ok (lK.mp hb) (BJ ok h0.1) h0.2 h
        · cases h
    · cases h
  | Attribute o name apos =>
    simp only [Oq] at h;split at h
    · rename_i hl;split at h
      · rename_i en he;have e:=mP he;simp only [lB,beq_iff_eq] at e;obtain ⟨rfl,_⟩:=e;obtain ⟨i,e1,h⟩:=bind_some' h;exact Xg R ok e1 hl h
      · have hm:∀ en∈C.T.meths.filter fun e=>e.x == name && e.n == es.length,en.x=name/\en.n=es.length:=fun en he=>by
          have:=(mz.mp he).2;simp only [lB,beq_iff_eq] at this;exact this
        revert h hm
        generalize (C.T.meths.filter fun e=>e.x == name && e.n == es.length)=L;intro h hm
        match L,hm,h with
        | [],hm,h=>cases h
        | [en],hm,h =>
          obtain ⟨rfl,e2⟩:=hm en lE;exact NH R ok hl e2 h
        | en::en2::_,hm,h =>
          obtain ⟨c1,e1,h⟩:=bind_some' h;obtain ⟨c2,e2,h⟩:=bind_some' h;obtain ⟨q1,q2⟩:=hm en lE;obtain ⟨q3,q4⟩:=hm en2 (lG _ lE);have p1:=NH (pos:=pos) (apos:=apos) R ok hl q2 e1;have p2:=NH (pos:=pos) (apos:=apos) R ok hl q4 e2;rw [q1] at p1;rw [q3] at p2;exact XY p1 p2 h
    · cases h
  | _=>cases h
def KA (C:Cf) (x:Str):Option Nat:=if TB x then (match C.sc.names.lookup x with
 | some .local=>Cg C.N x
 | some .cell=>if C.fn x then Cg C.N x else none
 | _=>none) else none
theorem Ga {C:Cf} {X:Cx} {x:Str} {i:Nat} (ok:Cok C X) (h:KA C x=some i):X.N[i]?=some x/\Loc X.env.scope x/\(X.fn x=true\/X.env.scope.names.lookup x=some .local):=by
 unfold KA at h;split at h
 ·split at h
  ·rename_i e;rw [ok.N,ok.sc];exact ⟨BW h,.inl e,.inr e⟩
  ·rename_i e;split at h
   ·rename_i hf;rw [ok.N,ok.sc];exact ⟨BW h,.inr e,.inl (ok.fn x hf)⟩
   ·cases h
  ·cases h
 ·cases h
theorem Ot {C:Cf} {X:Cx} {x:Str} {i:Nat} {pos:Pos} (ok:Cok C X) (h:KA C x=some i):PG X (.Name x pos) (DL i):=by
 obtain ⟨h1,h2,h3⟩:=Ga ok h;exact WV ok.nd h1 h2 h3
def dq (C:Cf):List Expr->Option (List Nat)
 | []=>some []
 | .Name x _::es=>(KA C x).bind fun i=>(dq C es).bind fun J=>some (i::J)
 | _::_=>none
theorem Ra {C:Cf} {X:Cx} (ok:Cok C X):∀ {es:List Expr} {J:List Nat},dq C es=some J->df X es (EV J)/\(assignEach es X.env).length=J.length/\(assignEach es X.env).findIdx? (·.1)=none
 | [],J,h=>by cases h;exact ⟨WU,rfl,rfl⟩
 | e::es,J,h=>by
  cases e with
  | Name x pos =>
   obtain ⟨i,e1,h⟩:=bind_some' (show (KA C x).bind (fun i=>(dq C es).bind fun J=>some (i::J))=some J from h);obtain ⟨J',e2,h⟩:=bind_some' h;cases h;obtain ⟨h1,h2,h3⟩:=Ra ok e2;refine ⟨Sj (Ot ok e1) h1 rfl,?_,?_⟩
   ·show (assignEach es X.env).length+1=_;rw [h2];rfl
   ·show List.findIdx? (·.1) ((false,assign (.Name x pos) X.env)::assignEach es X.env)=none;rw [List.findIdx?_cons,h3];rfl
  | _=>cases h
structure CG:Type 1 where
 J:List Nat
 f:Tg
 g:W.Frag->TG
 Γ:Gm->Gm
def cG (C:Cf) (e:Expr):Option CG:=match e with
 | .Name x _=>(KA C x).map fun i=>⟨[i],du i,fun _=>DL i,fun Γ=>Γ.set i (some 0)⟩
 | .Tuple es _ _=>(dq C es).map fun J=>⟨J,kD J,fun K=>gN K J.length (EV J),fun Γ=>Zm Γ J (some 0)⟩
 | _=>none
theorem GN {C:Cf} {X:Cx} {e:Expr} {c:CG} (ok:Cok C X) (h:cG C e=some c):PG X e (c.g X.K)/\(∀ js,(∀ i∈c.J,i∈js)->RN js (c.g X.K))/\∀ {K Γ},c.J.all (fun i=>decide (i < Γ.length))=true->NT K Γ (c.Γ Γ) c.J (c.g K) c.f:=by
 cases e with
 | Name x pos =>
  cases q:KA C x with
  | none=>simp only [cG,q] at h;cases h
  | some i =>
   simp only [cG,q] at h;cases h;exact ⟨Ot ok q,fun js hj=>Tc (hj i (nQ _)),fun h=>Vh (by simpa using h)⟩
 | Tuple es k pos =>
  cases q:dq C es with
  | none=>simp only [cG,q] at h;cases h
  | some J =>
   simp only [cG,q] at h;cases h;obtain ⟨h1,h2,h3⟩:=Ra ok q;exact ⟨PG.or (aP ok.calm h1 h2 h3) (aR ok.calm h1 h2 h3),fun js hj=>bW (XA (EU J hj)) (XB (EU J hj)),fun h=>Rb (by simpa using h)⟩
 | _=>cases h
def jR (r:Rec) (C:Cf) (Γ:Gm) (en:SrcE) (es:List Expr):Option CI:=(r.A C Γ [] es).bind fun c=>some ⟨c.Γ,c.js,Yq en.f (AR c.as)⟩
def cX (r:Rec) (C:Cf) (Γ:Gm) (e:Expr):Option CI:=(r.E C Γ e).bind fun c=>some ⟨c.Γ,c.js,Oa c.f⟩
def Rp (r:Rec) (C:Cf) (Γ:Gm) (tt:Bool) (e:Expr):Option CI:=match e with
  | .Call (.Name x _) es [] _=>(match C.T.srcs.find? fun en=>en.x == x && en.n == es.length && (!en.tt || tt) with
      | some en=>if GP C.sc x && C.bl.contains x && (C.fs.find? fun p=>p.1 == x).isNone then jR r C Γ en es else none
      | none=>cX r C Γ e)
  | e=>cX r C Γ e
theorem Ro {r:Rec} (R:OkR r) {C:Cf} {X:Cx} {Γ:Gm} {e:Expr} {c:CI} (tg:Expr) (ok:Cok C X) (h:Rp r C Γ (Jd tg) e=some c):PI X tg e (tI X.K Γ c.Γ c.js c.f):=by
 have seq:cX r C Γ e=some c->PI X tg e (tI X.K Γ c.Γ c.js c.f):=fun h=>by
  obtain ⟨c1,e1,h⟩:=bind_some' h;cases h;exact gI (Cq (R.E ok e1))
 unfold Rp at h;split at h
 ·rename_i x p es pos;split at h
  ·rename_i en he;split at h
   ·rename_i h0;simp only [lB] at h0;have e:=mP he;simp only [lB,beq_iff_eq] at e;obtain ⟨⟨rfl,hn⟩,htt⟩:=e;obtain ⟨c1,e1,h⟩:=bind_some' h;cases h;obtain ⟨a1,a2,a3,a4,a5⟩:=R.A ok e1;obtain ⟨rr,q1,q2⟩:=en.ok X ok.gx;exact PI.imp (q2 tg es p pos _ (fun z=>by rw [z] at htt;simpa using htt) hn.symm a4 (BJ ok h0.1.1) (ok.bl _ (lK.mp h0.1.2)) a1) fun _ _ _ h=>Vm q1 a2 (a5 rfl) h
   ·cases h
  ·exact seq h
 ·exact seq h
def HC (scope sc:Scope):Scope:={ scope with names:=scope.names.map fun (n,k)=>if (k == .free && sc.kind == .function && sc.names.lookup n == some .cell) then (n,.cell) else (n,k) }
def Cf.inner (C:Cf) (scope:Scope):Cf:={ C with sc:=HC scope C.sc,fn:=AQ scope }
theorem Cok.inner {C:Cf} {X:Cx} (ok:Cok C X) (scope:Scope) (cl:List (Str×Addr)) (a:Addr) (s:Shared) (H:Hp) (fp:List Addr):Cok (C.inner scope) (X.inner scope cl a s H fp) where
 N:=ok.N
 sc:=by
  show relabel scope X.env=HC scope C.sc;unfold relabel HC Env.kindOf;rw [ok.sc]
 nd:=ok.nd
 calm:=ok.calm
 fn:=fun _ h=>h
 room:=ok.room
 fs:=ok.fs
 cs:=ok.cs
 bl:=ok.bl
 xe:=rfl
noncomputable def MS (N:List Str) (scope:Scope):List Nat:=(List.range N.length).filter fun i=>match N[i]? with
 | some x=>(match scope.names.lookup x with | some .local=>true | some .cell=>true | _=>false)
 | none=>false
structure CC:Type 1 where
 t:CG
 c:CT
 e:CE
def KR (r:Rec) (C:Cf) (Γl:Gm) (tg:CG) (ifs:List Expr) (elt:Expr):Option CC:=if tg.J.all (fun i=>decide (i < Γl.length)) then (match ifs with
 | []=>some (CT.mk (tg.Γ Γl) [] DN)
 | [c]=>r.T C (tg.Γ Γl) c
 | _=>none).bind fun c=>(r.E C c.Γ elt).bind fun e=>some ⟨tg,c,e⟩ else none
def cF (r:Rec) (C:Cf) (tg:CG) (ifs:List Expr) (elt:Expr):Nat->Gm->Option (Gm×CC)
 | 0,_=>none
 | n+1,Γl=>(KR r C Γl tg ifs elt).bind fun x=>if BQ Γl x.c.Γ && BQ Γl x.e.Γ then some (Γl,x) else cF r C tg ifs elt n (BV Γl (BV x.c.Γ x.e.Γ))
def Iu (r:Rec) (C:Cf) (Γ:Gm) (elt:Expr) (gens:List Comprehension) (scope:Scope):Option CE:=match gens with
  | [⟨tg,iter,ifs,0⟩]=>(match iter with | .Set _ _ _=>none | _=>r.I C Γ (Jd tg) iter).bind fun s=>let jx:=MS C.N scope;if innerOk C.N C.sc scope jx then (cG (C.inner scope) tg).bind fun t=>(cF r (C.inner scope) t ifs elt 4 (Lg jx s.Γ)).bind fun p =>
      let J:=Au p.1 (t.J++(p.2.c.js++p.2.e.js))
      if BQ p.1 (Lg jx s.Γ) && t.J.all jx.contains then some ⟨1,Kg jx s.Γ p.1,s.js++(t.J++(p.2.c.js++p.2.e.js)),match J,ifs with
        | [],[]=>To s.f t.f p.2.e.f
        | [],_=>Tp s.f t.f p.2.c.f p.2.e.f
        | J,[]=>Od s.f t.f J p.2.e.f
        | J,_=>Oc s.f t.f J p.2.c.f p.2.e.f⟩ else none else none
  | _=>none
theorem Ji {r:Rec} {C:Cf} {tg:CG} {ifs:List Expr} {elt:Expr}:∀ {n:Nat} {Γ:Gm} {p:Gm×CC},cF r C tg ifs elt n Γ=some p->KR r C p.1 tg ifs elt=some p.2/\BQ p.1 p.2.c.Γ=true/\BQ p.1 p.2.e.Γ=true
 | 0,_,_,h=>by cases h
 | n+1,Γ,p,h=>by
  obtain ⟨x,e1,h⟩:=bind_some' (show (KR r C Γ tg ifs elt).bind _=some p from h);split at h
  ·rename_i hw;rw [lB] at hw;cases h;exact ⟨e1,hw.1,hw.2⟩
  ·exact Ji h
theorem Sv {X:Cx} {Γ:Gm}:Vb X [] (tT X.K Γ Γ [] DN):=fun pins s σ H Q I h=>by
 obtain ⟨g,m,P,r,R,k,res,e,q⟩:=h;exact wpAny_tests_nil ⟨H,I,q true m g P H e BU.refl Step.refl r⟩
theorem Ld {r:Rec} (R:OkR r) {C:Cf} {X:Cx} {Γ:Gm} {elt:Expr} {gens:List Comprehension} {scope:Scope} {pos:Pos} {c:CE} (ok:Cok C X) (h:Iu r C Γ elt gens scope=some c):PE X (.ListComp elt gens scope pos) (tE X.K Γ c.o c.Γ c.js c.f):=by
 unfold Iu at h;split at h
 ·rename_i tg iter ifs;obtain ⟨s,e1,h⟩:=bind_some' h;simp only at h;split at h
  ·rename_i hin;obtain ⟨t,e2,h⟩:=bind_some' h;obtain ⟨p,e3,h⟩:=bind_some' h;split at h
   ·rename_i hw;rw [lB] at hw;cases h;obtain ⟨f1,f2,f3⟩:=Ji e3;unfold KR at f1;split at f1
    ·rename_i hj;obtain ⟨ct,f1a,f1⟩:=bind_some' f1;obtain ⟨ce,f1b,f1⟩:=bind_some' f1;have ep:p.2=⟨t,ct,ce⟩:=(Option.some.inj f1).symm;have hs:∀ x,foldedSetIterable iter X.env x=pure x:=fun x=>by cases iter<;>first | rfl | (cases e1)
     have hI:r.I C Γ (Jd tg) iter=some s:=by cases iter<;>first | exact e1 | (cases e1)
     have hi:=R.I tg ok hI;have okI:=fun cl a s H fp=>ok.inner scope cl a s H fp
     have hg:∀ cl a s H fp,PG (X.inner scope cl a s H fp) tg (t.g X.K):=fun cl a s H fp=>(GN (okI cl a s H fp) e2).1
     have hsx:∀ i∈t.J,i∈MS C.N scope:=fun i hi=>lK.mp ((lx.mp hw.2) i hi)
     have hgo:RN (MS C.N scope) (t.g X.K):=(GN (okI [] 0 X.s₀ X.H₀ []) e2).2.1 _ hsx;have ht:NT X.K p.1 (t.Γ p.1) t.J (t.g X.K) t.f:=(GN (okI [] 0 X.s₀ X.H₀ []) e2).2.2 hj;have he:∀ cl a s H fp,PE (X.inner scope cl a s H fp) elt (tE X.K ct.Γ 0 ce.Γ ce.js ce.f):=fun cl a s H fp=>Cq (R.E (okI cl a s H fp) f1b)
     have hin':innerOk X.N X.env.scope scope (MS C.N scope)=true:=by rw [ok.N,ok.sc];exact hin
     rw [ep] at f2 f3 ⊢;simp only at f2 f3 ⊢;cases ifs with
     | nil =>
      cases f1a;have hc:∀ cl a s H fp,Vb (X.inner scope cl a s H fp) [] (tT X.K (t.Γ p.1) (t.Γ p.1) [] DN):=fun cl a s H fp=>Sv
      have base:=Kx (pos:=pos) hin' ok.calm hi hg hgo hc he hs;cases hJ:Au p.1 (t.J++([]++ce.js)) with
      | nil=>exact PE.imp base fun σ H Q h=>LG ht hw.1 f3 f2 hsx hJ.symm h
      | cons j J=>exact PE.imp base fun σ H Q h=>Ip ht hw.1 f3 f2 hsx hJ.symm h
     | cons i1 ifs =>
      cases ifs with
      | nil =>
       have hc:∀ cl a s H fp,Vb (X.inner scope cl a s H fp) [i1] (tT X.K (t.Γ p.1) ct.Γ ct.js ct.f):=fun cl a s H fp=>.one (R.T (okI cl a s H fp) f1a)
       have base:=Kx (pos:=pos) hin' ok.calm hi hg hgo hc he hs;cases hJ:Au p.1 (t.J++(ct.js++ce.js)) with
       | nil=>exact PE.imp base fun σ H Q h=>LI ht hw.1 f3 f2 hsx hJ.symm h
       | cons j J=>exact PE.imp base fun σ H Q h=>Im ht hw.1 f3 f2 hsx hJ.symm h
      | cons _ _=>cases f1a
    ·cases f1
   ·cases h
  ·cases h
 ·cases h
end R
namespace Q
open PySem L2
section
end
section
end
section
end
section
end
section
end
section
end
noncomputable def zipD2:List Dt->List Dt->List Dt
 | x1::xs1,x2::xs2=>.tup [x1,x2]::zipD2 xs1 xs2
 | _,_=>[]
section
end
section
end
section
end
section
end
section
end
section
end
mutual
noncomputable def Dt.nol:Dt->Bool
 | .tup ds=>nols ds
 | .lst _ _=>false
 | .dic _ _=>false
 | .dti _ _=>false
 | .ref _=>false
 | _=>true
noncomputable def nols:List Dt->Bool
 | []=>true
 | d::ds=>d.nol && nols ds
end
section
end
section
end
section
end
end Q
namespace HT
open PySem PyProof.Rows
section
variable {prog:Program} {w:World} {A:Around} {E:Value->Shared->Prop} {s:Shared}
theorem LM {α β:Type} {f g:α->Option β}:∀ {l:List α},(∀ a∈l,f a=g a)->l.filterMap f=l.filterMap g
 | [],_=>rfl
 | a::l,h=>by
  rw [ml,ml,h a lE,LM fun b hb=>h b (lG _ hb)]
theorem Li (n:Nat):Builtin.Slice.sliceAdjust none none (-1) (n:Int)=((n:Int) - 1,-1):=by
 unfold Builtin.Slice.sliceAdjust;rfl
theorem Kv (n:Nat):Builtin.Slice.slicePlaces ((n:Int) - 1) (-1) (-1)=n:=by
 unfold Builtin.Slice.slicePlaces;have h1:¬ ((-1:Int) > 0):=by omega
 simp only [h1,if_false];have h2:(-(-1:Int))=1:=by decide
 simp only [h2,Int.ediv_one];split<;>omega
theorem Pc (xs:Array Value):((List.range xs.size).filterMap fun (m:Nat)=>xs[((xs.size:Int) - 1+(m:Int) * (-1)).toNat]?).toArray=xs.toList.reverse.toArray:=by
 have e:(List.range xs.size).filterMap (fun (m:Nat)=>xs[((xs.size:Int) - 1+(m:Int) * (-1)).toNat]?)=((List.range xs.size).map fun k=>xs.size - 1 - k).filterMap (xs[·]?):=by
  rw [nu];refine LM fun m hm=>?_
  have hm:=mO.mp hm;have:((xs.size:Int) - 1+(m:Int) * (-1)).toNat=xs.size - 1 - m:=by omega
  show _=xs[xs.size - 1 - m]?;rw [this]
 rw [e,W.krv_range,List.filterMap_reverse,W.krv_all]
theorem getItem_tuple_back {t sl:Addr} {items:Array Value} {k:Tok} {Q:Value->Shared->Prop} (ht:IsTup s.heap t items) (hs:s.heap.IsSliceOf sl .none .none (.int (-1) k))
    (h:Q (.ref s.heap.objs.size) { s with heap:=s.heap.push { cls:=.type "tuple", data:=.seq items.toList.reverse.toArray } })
    (hsz:items.size<=sizeLine):wpAny (model prog w) A (getItem (.ref t) (.ref sl)) Q E s:=by
  have htake:sizeOk (.seq items.toList.reverse.toArray):=by
    show items.toList.reverse.toArray.size<=sizeLine;rw [lF,nL,Array.length_toList];exact hsz
  obtain ⟨os,hos,hcs,hds⟩:=id hs
  have hTs:s.TypeIs (.ref sl) "slice" := ⟨os,hos,hcs⟩
  unfold getItem
  try with_reducible refine wpAny_holding ?_
  first | refine wpAny_bind (wpAny_pure ?_) | skip
  refine wpAny_bind (wpAny_sequenceKey ht.typeIs (by decide) ?_)
  refine wpAny_bind (wpAny_callSpecial?_slot (name:=Str.ofString "__getitem__") ht.typeIs lz
    (wpAny_call_entry lz ht.typeIs entry_tuple_getitem ?_ (args_tuple_getitem _ _)))
  show wpAny _ _ (Builtin.Tuple.tupleItemsOf (.ref t) >>= _) _ _ s;refine wpAny_bind (tupleItemsOf_ ht ?_);refine wpAny_bind (wpAny_typeOf hTs ?_);rw [if_pos (by decide)];have ap:∀ {A':Around} {Q:Int×Int×Nat->Shared->Prop},Q ((items.size:Int) - 1,-1,items.size) s->wpAny (model prog w) A' (Builtin.Slice.sliceApplied (.ref sl) (pure (items.size:Int))) Q E s:=fun {A' Q} h=>by
    unfold Builtin.Slice.sliceApplied Builtin.Slice.sliceFields;refine wpAny_bind (wpAny_bind (wpAny_field hos hds (x:=.none) rfl (wpAny_bind (wpAny_field hos hds (x:=.none) rfl (wpAny_bind (wpAny_field hos hds (x:=.int (-1) k) rfl (wpAny_pure ?_)))))));refine wpAny_bind (EF (.int (-1) k) ?_);show wpAny _ _ (if ((-1:Int) == 0)=true then _ else _) _ _ s;rw [if_neg (by decide)];refine wpAny_bind (slicePart_none (wpAny_bind (slicePart_none (wpAny_bind (wpAny_pure ?_)))));show wpAny _ _ (match Builtin.Slice.sliceAdjust none none (-1) (items.size:Int) with | (lo,hi)=>pure (lo,(-1:Int),Builtin.Slice.slicePlaces lo hi (-1))) _ _ s;rw [Li];show wpAny _ _ (pure (((items.size:Int) - 1),(-1:Int),Builtin.Slice.slicePlaces ((items.size:Int) - 1) (-1) (-1))) _ _ s;rw [Kv];exact wpAny_pure h
  refine wpAny_bind (ap ?_);have hno:¬ ((((items.size:Int) - 1) == 0 && (-1:Int) == 1 && items.size == items.size)=true):=by
    intro q;rw [lB,lB] at q;exact absurd q.1.2 (by decide)
  show wpAny _ _ (if (((items.size:Int) - 1) == 0 && (-1:Int) == 1 && items.size == items.size)=true then _ else _) _ _ s;rw [if_neg hno,Pc]
  first
    | exact wpAny_bind (m:=Builtin.Tuple.tupleExact _) (wpAny_newObj_type (wpAny_pure ⟨_,rfl,wpAny_pure h⟩) htake)
    | exact wpAny_bind (m:=Builtin.Tuple.tupleExact _) (wpAny_newObj_type (wpAny_bind (wpAny_pure (wpAny_pure ⟨_,rfl,wpAny_pure h⟩))) htake)
    | exact wpAny_bind (wpAny_bind (m:=Builtin.Tuple.tupleExact _) (wpAny_newObj_type (wpAny_pure (wpAny_pure ⟨_,rfl,wpAny_pure h⟩)) htake))
    | exact wpAny_bind (wpAny_bind (m:=Builtin.Tuple.tupleExact _) (wpAny_newObj_type (wpAny_pure ⟨_,rfl,wpAny_pure h⟩) htake))
end
end HT
namespace L2
open PySem PySem.Spec PyProof.Rows
section
variable {X:Cx} {e st:Expr} {te ts:TE} {pos p2:Pos}
abbrev dz (K:W.Frag) (te ts:TE):TE:=fun σ H Q=>te σ H fun x H1=>ts σ H1 fun y H2=>∃ a xs b,x=.ref a/\y=.int (-1)/\Lo K H2 a xs b/\∀ p,H2 p=none->Q (.ref p) (upd H2 p (bif b then .tup xs.reverse else .lst xs.reverse))
theorem WW (K:W.Frag) (he:PE X e te) (hst:PE X st ts) (hK:X.K=K:=by rfl) (hsub:∀ o i,∃ ops,subscripted (.Slice none none (some st) p2) false o i=operate ops (getItem o i):=by intro o i;exact ⟨_,by with_unfolding_all rfl⟩):PE X (.Subscript e (.Slice none none (some st) p2) pos) (dz K te ts):=by
 subst hK;intro pins s σ H Q I h;refine Subscript_ (Ak (he pins s σ H _ I h) fun v s1 ⟨x,H1,I1,r1,q1⟩=>?_);refine wpAny_Slice ?_;rw [evalPart_none];refine wpAny_pure ?_;refine wpAny_pure ?_;rw [evalPart_some];refine Ak (hst pins s1 σ H1 _ I1 q1) fun vs s3 ⟨y,H3,I3,r3,q3⟩=>?_
 obtain ⟨a,xs,b,rfl,rfl,hx,q⟩:=q3;cases r1;obtain ⟨t,rfl⟩:=r3
 have I4:Inv X pins σ H3 { s3 with heap:=s3.heap.push { cls:=.type "slice", data:=.fields #[.none,.none,.int (-1) t] } }:=I3.kept (t':=s3.toks) fun b ob q=>lC _ q
 show wpAny (model X.prog X.w) X.A (subscriptTail e (.Slice none none (some st) p2) (.ref a) (.ref s3.heap.objs.size)) (EP X pins σ Q) X.xe { s3 with heap:=s3.heap.push { cls:=.type "slice", data:=.fields #[.none,.none,.int (-1) t] } }
 obtain ⟨ops,hops⟩:=hsub (.ref a) (.ref s3.heap.objs.size);cases b with
 | false =>
  obtain ⟨its,r,ht,hz⟩:=I4.list hx;have hlen:=r.length;refine tail_any (ops:=ops) ht.isList.typeIs slot_list_getitem.lookup ?_ hops;refine wpAny_getItem_list_slice ht.isList (Heap.IsSliceOf.new ..) .none .none (.int (-1) t) (by decide) ?_ (by rw [lF];omega);rw [W.krv_pick];rw [show its.toArray.toList.reverse=its.reverse by simp]
  have I5:=I4.laid (t':=s3.toks) (o:=.lst xs.reverse) (h':=(s3.heap.push { cls:=.type "slice", data:=.fields #[.none,.none,.int (-1) t] }).push { cls:=.type "list", data:=.seq its.reverse.toArray }) (fun b ob q=>lC _ q) (lJ _) ⟨by rw [nL];exact hz,its.reverse,0,EZ r,lT _ rfl⟩
  exact ⟨.ref _,_,I5,rfl,q _ (I4.hok.fresh (lJ _))⟩
 | true =>
  obtain ⟨its,r,ht,hz⟩:=I4.tuple hx;have hlen:=r.length;refine tail_any (ops:=ops) ht.typeIs lz.lookup ?_ hops;refine HT.getItem_tuple_back ht (Heap.IsSliceOf.new ..) ?_ (by rw [lF];omega);rw [show its.toArray.toList.reverse=its.reverse by simp]
  have I5:=I4.laid (t':=s3.toks) (o:=.tup xs.reverse) (h':=(s3.heap.push { cls:=.type "slice", data:=.fields #[.none,.none,.int (-1) t] }).push { cls:=.type "tuple", data:=.seq its.reverse.toArray }) (fun b ob q=>lC _ q) (lJ _) ⟨by rw [nL];exact hz,its.reverse,EZ r,GS.new _ _⟩
  exact ⟨.ref _,_,I5,rfl,q _ (I4.hok.fresh (lJ _))⟩
end
end L2
namespace Q
open PySem L2
section
end
end Q
namespace R
open PySem L2
noncomputable def bH (f:Expr) (es:List Expr):Option (List Expr):=match f,es with
 | .Name x _,[.Call (.Name y _) (a::es) [] _]=>if x == ("list" : Str) && y == ("range" : Str) then some (a::es) else none
 | _,_=>none
theorem QB {f:Expr} {es as:List Expr} (h:bH f es=some as):∃ p a es' p2 pos2,f=.Name "list" p/\as=a::es'/\es=[.Call (.Name "range" p2) (a::es') [] pos2]:=by
 unfold bH at h;split at h
 ·split at h
  ·rename_i e;rw [lB,beq_iff_eq,beq_iff_eq] at e;obtain ⟨rfl,rfl⟩:=e;cases h;exact ⟨_,_,_,_,_,rfl,rfl,rfl⟩
  ·cases h
 ·cases h
def kX (r:Rec) (C:Cf) (Γ:Gm) (as:List Expr):Option CE:=if GP C.sc "list" && GP C.sc "range" && C.bl.contains "list" && C.bl.contains "range" then (r.A C Γ (List.replicate as.length true) as).bind fun c=>some ⟨1,c.Γ,c.js,CN C.T.lr (AR c.as)⟩ else none
noncomputable def ZT (f:Expr) (es:List Expr):Option (List Expr):=match f,es with
 | .Name x _,[.Call (.Name y _) (a::es) [] _]=>if x == ("tuple" : Str) && y == ("range" : Str) then some (a::es) else none
 | _,_=>none
theorem PF {f:Expr} {es as:List Expr} (h:ZT f es=some as):∃ p a es' p2 pos2,f=.Name "tuple" p/\as=a::es'/\es=[.Call (.Name "range" p2) (a::es') [] pos2]:=by
 unfold ZT at h;split at h
 ·split at h
  ·rename_i e;rw [lB,beq_iff_eq,beq_iff_eq] at e;obtain ⟨rfl,rfl⟩:=e;cases h;exact ⟨_,_,_,_,_,rfl,rfl,rfl⟩
  ·cases h
 ·cases h
def kU (r:Rec) (C:Cf) (Γ:Gm) (as:List Expr):Option CE:=if GP C.sc "tuple" && GP C.sc "range" && C.bl.contains "tuple" && C.bl.contains "range" then (r.A C Γ (List.replicate as.length true) as).bind fun c=>some ⟨1,c.Γ,c.js,CN C.T.tr (AR c.as)⟩ else none
noncomputable def bG (f:Expr) (es:List Expr):Option Expr:=match f,es with
 | .Name x _,[.Call (.Name y _) [a] [] _]=>if x == ("list" : Str) && y == ("reversed" : Str) then some a else none
 | _,_=>none
theorem Pz {f a:Expr} {es:List Expr} (h:bG f es=some a):∃ p p2 pos2,f=.Name "list" p/\es=[.Call (.Name "reversed" p2) [a] [] pos2]:=by
 unfold bG at h;split at h
 ·split at h
  ·rename_i e;rw [lB,beq_iff_eq,beq_iff_eq] at e;obtain ⟨rfl,rfl⟩:=e;cases h;exact ⟨_,_,_,rfl,rfl⟩
  ·cases h
 ·cases h
def jV (r:Rec) (C:Cf) (Γ:Gm) (a:Expr):Option CE:=if GP C.sc "list" && GP C.sc "reversed" && C.bl.contains "list" && C.bl.contains "reversed" && BA a then (RF r C Γ a).bind fun x=>some ⟨1,x.Γ,x.js++[],CN (one C.T.lv) (AR [x.a])⟩ else none
theorem cj {r:Rec} (R:OkR r) {C:Cf} {X:Cx} {Γ:Gm} {a:Expr} {p p2 pos2 pos:Pos} {c:CE} (ok:Cok C X) (h:jV r C Γ a=some c):PE X (.Call (.Name "list" p) [.Call (.Name "reversed" p2) [a] [] pos2] [] pos) (tE X.K Γ c.o c.Γ c.js c.f):=by
 unfold jV at h;split at h
 ·rename_i hg;simp only [lB] at hg;obtain ⟨⟨⟨⟨g1,g2⟩,g3⟩,g4⟩,g5⟩:=hg;obtain ⟨x,e1,h⟩:=bind_some' h;cases h;obtain ⟨a1,a2⟩:=Gb R ok e1;exact PE.imp (MQ ok.calm (BJ ok g1) (ok.bl _ (lK.mp g3)) (BJ ok g2) (ok.bl _ (lK.mp g4)) a1 rfl rfl (AK g5) rfl) fun _ _ _ h=>BH (C.T.lvok X ok.gx) a2 h
 ·cases h
def NK (r:Rec) (C:Cf) (Γ:Gm) (f:Expr) (es:List Expr) (pos:Pos):Option CE:=match bH f es with
 | some as=>kX r C Γ as
 | none=>match bG f es with
  | some a=>jV r C Γ a
  | none=>match ZT f es with
   | some as=>kU r C Γ as
   | none=>Oq r C Γ f es pos
theorem Qr {r:Rec} (R:OkR r) {C:Cf} {X:Cx} {Γ:Gm} {f:Expr} {es:List Expr} {pos:Pos} {c:CE} (ok:Cok C X) (h:NK r C Γ f es pos=some c):PE X (.Call f es [] pos) (tE X.K Γ c.o c.Γ c.js c.f):=by
 unfold NK at h;split at h
 ·rename_i as e;obtain ⟨p,a,es',p2,pos2,rfl,rfl,rfl⟩:=QB e;unfold kX at h;split at h
  ·rename_i hg;simp only [lB] at hg;obtain ⟨⟨⟨g1,g2⟩,g3⟩,g4⟩:=hg;obtain ⟨c1,e1,h⟩:=bind_some' h;cases h;obtain ⟨a1,a2,a3,a4,_⟩:=R.A ok e1;rw [mL,lB] at a4;exact PE.imp (MP ok.calm (BJ ok g1) (ok.bl _ (lK.mp g3)) (BJ ok g2) (ok.bl _ (lK.mp g4)) a1 rfl rfl (AK a4.1) (Az a4.2)) fun _ _ _ h=>BH (C.T.lrok X ok.gx) a2 h
  ·cases h
 ·split at h
  ·rename_i a e;obtain ⟨p,p2,pos2,rfl,rfl⟩:=Pz e;exact cj R ok h
  ·split at h
   ·rename_i as e;obtain ⟨p,a,es',p2,pos2,rfl,rfl,rfl⟩:=PF e;unfold kU at h;split at h
    ·rename_i hg;simp only [lB] at hg;obtain ⟨⟨⟨g1,g2⟩,g3⟩,g4⟩:=hg;obtain ⟨c1,e1,h⟩:=bind_some' h;cases h;obtain ⟨a1,a2,a3,a4,_⟩:=R.A ok e1;rw [mL,lB] at a4;exact PE.imp (Pe ok.calm (BJ ok g1) (ok.bl _ (lK.mp g3)) (BJ ok g2) (ok.bl _ (lK.mp g4)) a1 rfl rfl (AK a4.1) (Az a4.2)) fun _ _ _ h=>BH (C.T.trrok X ok.gx) a2 h
    ·cases h
   ·exact Uq R ok h
noncomputable def gE:Expr->Bool
 | .UnaryOp .USub (.Constant (.int 1) _ _) _=>true
 | _=>false
def cY (r:Rec) (C:Cf) (Γ:Gm) (a st:Expr):Option CE:=if gE st then (Hf r C Γ a st).bind fun p=>some ⟨1,p.2.Γ,jj p,CN (two C.T.rv) (AR [p.1.a,p.2.a])⟩ else none
theorem Xb {r:Rec} (R:OkR r) {C:Cf} {X:Cx} {Γ:Gm} {a st:Expr} {p2 pos:Pos} {c:CE} (ok:Cok C X) (h:cY r C Γ a st=some c):PE X (.Subscript a (.Slice none none (some st) p2) pos) (tE X.K Γ c.o c.Γ c.js c.f):=by
 unfold cY at h;split at h
 ·rename_i hm;obtain ⟨p,e1,h⟩:=bind_some' h;cases h;obtain ⟨h1,h2,h3⟩:=DR R ok e1;unfold gE at hm;split at hm
  ·exact PE.imp (WW X.K h1 h2 rfl (by intro o i;exact ⟨_,by with_unfolding_all rfl⟩)) fun _ _ _ h=>BH (C.T.rvok X ok.gx) h3 h
  ·cases hm
 ·cases h
noncomputable def Wr (f:Expr) (es:List Expr) (ks:List Keyword):Option (Expr×Expr):=match f,es,ks with
 | .Name x _,[a],[⟨some y,e,_⟩]=>if x == ("max" : Str) && y == ("default" : Str) then some (a,e) else none
 | _,_,_=>none
theorem Pp {f:Expr} {es:List Expr} {ks:List Keyword} {q:Expr×Expr} (h:Wr f es ks=some q):∃ p kp,f=.Name "max" p/\es=[q.1]/\ks=[⟨some "default", q.2,kp⟩]:=by
 unfold Wr at h;split at h
 ·split at h
  ·rename_i e;rw [lB,beq_iff_eq,beq_iff_eq] at e;obtain ⟨rfl,rfl⟩:=e;cases h;exact ⟨_,_,rfl,rfl,rfl⟩
  ·cases h
 ·cases h
def jU (r:Rec) (C:Cf) (Γ:Gm) (a e:Expr):Option CE:=if GP C.sc "max" && C.bl.contains "max" && BA a then (Hf r C Γ a e).bind fun p=>some ⟨1,p.2.Γ,jj p,CN (two C.T.md) (AR [p.1.a,p.2.a])⟩ else none
theorem cg {r:Rec} (R:OkR r) {C:Cf} {X:Cx} {Γ:Gm} {a e:Expr} {p kp pos:Pos} {c:CE} (ok:Cok C X) (h:jU r C Γ a e=some c):PE X (.Call (.Name "max" p) [a] [⟨some "default", e,kp⟩] pos) (tE X.K Γ c.o c.Γ c.js c.f):=by
 unfold jU at h;split at h
 ·rename_i hg;simp only [lB] at hg;obtain ⟨⟨g1,g2⟩,g3⟩:=hg;obtain ⟨p,e1,h⟩:=bind_some' h;cases h;obtain ⟨h1,h2,h3⟩:=DR R ok e1;exact PE.imp (WX ok.calm (BJ ok g1) (ok.bl _ (lK.mp g2)) h1 h2 (AK g3)) fun _ _ _ h=>BH (C.T.mdok X ok.gx) h3 h
 ·cases h
def Jw (r:Rec) (C:Cf) (Γ:Gm) (f:Expr) (es:List Expr) (ks:List Keyword) (pos:Pos):Option CE:=match ks with
 | []=>NK r C Γ f es pos
 | k::ks=>match Wr f es (k::ks) with
  | some q=>jU r C Γ q.1 q.2
  | none=>none
theorem Qs {r:Rec} (R:OkR r) {C:Cf} {X:Cx} {Γ:Gm} {f:Expr} {es:List Expr} {ks:List Keyword} {pos:Pos} {c:CE} (ok:Cok C X) (h:Jw r C Γ f es ks pos=some c):PE X (.Call f es ks pos) (tE X.K Γ c.o c.Γ c.js c.f):=by
 cases ks with
 | nil=>exact Qr R ok h
 | cons k ks =>
  cases q:Wr f es (k::ks) with
  | none=>unfold Jw at h;simp only [q] at h;cases h
  | some z =>
   unfold Jw at h;simp only [q] at h;obtain ⟨p,kp,e1,e2,e3⟩:=Pp q;rw [e1,e2,e3];exact cg R ok h
def YQ (r:Rec) (C:Cf) (Γ:Gm) (e:Expr):Option CE:=match e with
 | .Constant k _ _=>Up Γ k
 | .Name x _=>Uo C Γ x
 | .BinOp a op b _=>hW r C Γ a op b
 | .UnaryOp .USub a _=>gw r C Γ a
 | .UnaryOp .Not a _=>gv r C Γ a
 | .Compare a [op] [b] _=>(NI r C Γ a op b).map dZ
 | .Compare a [op,op'] [b,c] _=>(NJ r C Γ a op b op' c).map dZ
 | .BoolOp op vs pos=>Rt r C Γ op vs pos
 | .IfExp c a b _=>hU r C Γ c a b
 | .Call f es ks pos=>Jw r C Γ f es ks pos
 | .Tuple es _ _=>gr r C Γ es
 | .List es _=>hG r C Γ es
 | .Dict [] [] _=>some ⟨1,Γ,[],Ti⟩
 | .Subscript a (.Slice lo hi none _) _=>kW r C Γ a lo hi
 | .Subscript a (.Slice none none (some st) _) _=>cY r C Γ a st
 | .Subscript a b _=>if HI b then jW r C Γ a b else none
 | .ListComp e gens sc _=>Iu r C Γ e gens sc
 | _=>none
theorem Rq {r:Rec} (R:OkR r) {C:Cf} {X:Cx} {Γ:Gm} {e:Expr} {c:CE} (ok:Cok C X) (h:YQ r C Γ e=some c):PE X e (tE X.K Γ c.o c.Γ c.js c.f):=by
 match e,h with
 | .Constant k j pos,h=>exact Qp h
 | .Name x pos,h=>exact Um ok h
 | .BinOp a op b pos,h=>exact Xn R ok h
 | .UnaryOp op a pos,h =>
  cases op with
  | USub=>exact Xf R ok h
  | Not =>
   obtain ⟨c1,e1,h⟩:=bind_some' (show (r.E C Γ a).bind _=some c from h);cases h;exact PE.imp (aV (Cq (R.E ok e1))) fun _ _ _ h=>ZW h
  | _=>cases h
 | .Compare a ops bs pos,h =>
  match ops,bs,h with
  | [op],[b],h =>
   cases q:NI r C Γ a op b with
   | none=>replace h:(NI r C Γ a op b).map dZ=some c:=h;rw [q] at h;cases h
   | some t =>
    replace h:(NI r C Γ a op b).map dZ=some c:=h;rw [q] at h;cases h;exact (On R ok q).2 1
  | [op,op'],[b,d],h =>
   cases q:NJ r C Γ a op b op' d with
   | none=>replace h:(NJ r C Γ a op b op' d).map dZ=some c:=h;rw [q] at h;cases h
   | some t =>
    replace h:(NJ r C Γ a op b op' d).map dZ=some c:=h;rw [q] at h;cases h;exact (Oo R ok q).2 1
  | [],_,h=>cases h
  | [_],[],h=>cases h
  | [_],_::_::_,h=>cases h
  | [_,_],[],h=>cases h
  | [_,_],[_],h=>cases h
  | [_,_],_::_::_::_,h=>cases h
  | _::_::_::_,_,h=>cases h
 | .BoolOp op vs pos,h=>exact PL R ok h
 | .IfExp c a b pos,h=>exact Xi R ok h
 | .Call f es ks pos,h=>exact Qs R ok h
 | .Tuple es k pos,h=>exact XZ R ok h
 | .List es pos,h=>exact Xh R ok h
 | .Dict ks vs pos,h =>
  cases ks with
  | nil =>
   cases vs with
   | nil=>cases h;exact fA
   | cons _ _=>cases h
  | cons _ _=>cases h
 | .Subscript a b pos,h =>
  have ix:HI b=true->(if HI b then jW r C Γ a b else none)=some c->PE X (.Subscript a b pos) (tE X.K Γ c.o c.Γ c.js c.f):=fun hb h=>by
   rw [if_pos hb] at h;exact ck R ok hb h
  match b,h with
  | .Slice lo hi st p2,h =>
   cases st with
   | none=>exact cW R ok h
   | some st =>
    cases lo with
    | none =>
     cases hi with
     | none=>exact Xb R ok h
     | some _=>cases h
    | some _=>cases h
  | .NamedExpr ..,h | .BinOp ..,h | .Lambda ..,h | .Dict ..,h | .Set ..,h | .ListComp ..,h | .SetComp ..,h | .DictComp ..,h | .GeneratorExp ..,h | .Await ..,h | .Yield ..,h | .YieldFrom ..,h | .Call ..,h | .FormattedValue ..,h | .JoinedStr ..,h | .Constant ..,h | .Attribute ..,h | .Subscript ..,h | .Starred ..,h | .Name ..,h | .List ..,h | .Tuple ..,h | .UnaryOp ..,h | .BoolOp ..,h | .IfExp ..,h | .Compare ..,h=>exact ix rfl h
 | .ListComp e gens sc pos,h=>exact Ld R ok h
 | .NamedExpr ..,h | .Lambda ..,h | .Set ..,h | .SetComp ..,h | .DictComp ..,h | .GeneratorExp ..,h | .Await ..,h | .Yield ..,h | .YieldFrom ..,h | .FormattedValue ..,h | .JoinedStr ..,h | .Attribute ..,h | .Starred ..,h | .Slice ..,h=>cases h
noncomputable def MV:Expr->Bool
 | .ListComp ..=>false
 | .SetComp ..=>false
 | .DictComp ..=>false
 | _=>true
theorem Gj {e:Expr} {t:Option Expr} {l:Nat} {env:Env} (h:MV e=true):swapsWith e t l env=pure false:=by
 cases e<;>first | rfl | (cases h)
theorem RS {K:W.Frag} {Γ Γ' Γ2:Gm} {js:List Nat} {o:Nat} {f:Ev Dv} {σ:St} {H:Hp} {Q:VK} (hw:BQ Γ2 Γ'=true) (h:tE K Γ o Γ2 js f σ H Q):tE K Γ o Γ' js f σ H Q:=by
 obtain ⟨g,m,P,r,R,k,res,e,q⟩:=h;refine ⟨g,m,P,r,R,k,res,e,fun b m' g' P' Pv v H' hk ag s rv r1 n=>?_⟩;obtain ⟨g2,P2,s2,r2⟩:=r1.weaken hw;have nn:Disj Pv P':=fun a q z=>n a z q
 refine q b m' g2 P2 Pv v H' hk ag (s.trans ((s2.frame (R:=Pv)).sub (fun _ z=>z) fun _ z=>z)) (rv.held s2 r1.fpOk nn) r2 fun a q z=>s2.out rv.fpOk nn a z q
def SB (Γ:Gm):CS:=⟨some Γ,[],HY,false,false,false⟩
def gu (r:Rec) (C:Cf) (Γ:Gm) (e:Expr):Option CS:=(match Wt C e with
 | some i=>(match Γ.getD i none with | some o=>some (CE.mk o (Γ.set i none) [] (OY i)) | none=>none)
 | none=>r.E C Γ e).bind fun c=>if BQ C.F.Γr c.Γ && (C.F.ro == 0 || c.o == C.F.ro) then some ⟨none,c.js,Ys c.f,true,false,false⟩ else none
theorem Xc {r:Rec} (R:OkR r) {C:Cf} {X:Cx} {Γl:Option Gm} {Γ:Gm} {e:Expr} {pos:Pos} {c:CS} (ok:Cok C X) (h:gu r C Γ e=some c):PS X (.Return (some e) pos) (tS X.K C.F Γl Γ c.Γ c.js c.f):=by
  obtain ⟨c1,e1,h⟩:=bind_some' h;split at h
  · rename_i hw;simp only [lB,oJ,beq_iff_eq] at hw;cases h;have he:PE X e (tE X.K Γ c1.o c1.Γ c1.js c1.f):=by
      split at e1
      · rename_i i hi;split at e1
        · rename_i o ho;cases e1;exact ef (DJ ok hi) (BR ho)
        · cases e1
      · exact R.E ok e1
    have he2:PE X e (tE X.K Γ C.F.ro c1.Γ c1.js c1.f):=by
      rcases hw.2 with z | z
      · rw [z];exact Cq he
      · rw [<- z];exact he
    exact eS (PE.imp he2 fun _ _ _ h=>RS hw.1 h)
  · cases h
def cn (r:Rec) (C:Cf) (Γ:Gm) (e:Expr):Option CS:=if MV e then (r.E C Γ e).bind fun c=>some ⟨some c.Γ,c.js,Tt c.f,false,false,false⟩ else none
theorem Ol {r:Rec} (R:OkR r) {C:Cf} {X:Cx} {Γl:Option Gm} {Γ:Gm} {e:Expr} {pos:Pos} {c:CS} (ok:Cok C X) (h:cn r C Γ e=some c):PS X (.Expr e pos) (tS X.K C.F Γl Γ c.Γ c.js c.f):=by
 unfold cn at h;split at h
 ·rename_i hn;obtain ⟨c1,e1,h⟩:=bind_some' h;cases h;exact Zr (R.E ok e1) (Gj hn)
 ·cases h
def Oj (C:Cf) (x:Str) (c:CE):Option CS:=(KA C x).bind fun i=>if decide (i < c.Γ.length) && !C.F.io.contains i then some ⟨some (c.Γ.set i (some c.o)),c.js++[i],Ii c.f (du i),false,false,false⟩ else none
theorem Lc {C:Cf} {X:Cx} {Γl:Option Gm} {Γ:Gm} {x:Str} {e:Expr} {pos pos':Pos} {c1:CE} {c:CS} (ok:Cok C X) (he:PE X e (tE X.K Γ c1.o c1.Γ c1.js c1.f)) (hs:swapsWith e (some (.Name x pos')) pos.line X.env=pure false) (h:Oj C x c1=some c):PS X (.Assign [.Name x pos'] e pos) (tS X.K C.F Γl Γ c.Γ c.js c.f):=by
 obtain ⟨i,e1,h⟩:=bind_some' h;split at h
 ·rename_i hw;simp only [lB,decide_eq_true_eq,mh] at hw;cases h;obtain ⟨h1,h2,h3⟩:=Ga ok e1;exact eR ok.nd h1 h2 (fun z=>by rw [lK.mpr z] at hw;cases hw.2) hw.1 he hs h3
 ·cases h
def iy (sc:Scope) (x:Str) (pl:Nat) (scope:Scope) (vl:Nat):Bool:=(if sc.kind.isAnnotationScope then ScopeKind.function else sc.kind) == .function && sc.names.lookup x == some .local && pl == vl && !(scope.names.any fun (n,k)=>n == x && (k == .local || k == .cell))
theorem Rk {X:Cx} {C:Cf} (ok:Cok C X) {x:Str} {pos':Pos} {elt:Expr} {gens:List Comprehension} {scope:Scope} {pos:Pos} {l:Nat}:swapsWith (.ListComp elt gens scope pos) (some (.Name x pos')) l X.env=pure (iy C.sc x pos'.line scope pos.line):=by
 unfold iy;rw [<- ok.sc];rfl
theorem Qq {r:Rec} (R:OkR r) {C:Cf} {X:Cx} {Γ:Gm} {elt:Expr} {gens:List Comprehension} {scope:Scope} {pos:Pos} {c:CE} (ok:Cok C X) (h:Iu r C Γ elt gens scope=some c) :
    ∃ t:TE,(∀ σ H Q,tE X.K Γ c.o c.Γ c.js c.f σ H Q->t σ H Q)/\∀ {i x pos' spos},X.N[i]?=some x->Loc X.env.scope x->(X.fn x=true\/X.env.scope.names.lookup x=some .local)->swapsWith (.ListComp elt gens scope pos) (some (.Name x pos')) spos.line X.env=pure true->PS X (.Assign [.Name x pos'] (.ListComp elt gens scope pos) spos) (Lz t (DL i)):=by
  unfold Iu at h;split at h
  · rename_i tg iter ifs;obtain ⟨s,e1,h⟩:=bind_some' h;simp only at h;split at h
    · rename_i hin;obtain ⟨t,e2,h⟩:=bind_some' h;obtain ⟨p,e3,h⟩:=bind_some' h;split at h
      · rename_i hw;rw [lB] at hw;cases h;obtain ⟨f1,f2,f3⟩:=Ji e3;unfold KR at f1;split at f1
        · rename_i hj;obtain ⟨ct,f1a,f1⟩:=bind_some' f1;obtain ⟨ce,f1b,f1⟩:=bind_some' f1;have ep:p.2=⟨t,ct,ce⟩:=(Option.some.inj f1).symm;have hs:∀ x,foldedSetIterable iter X.env x=pure x:=fun x=>by cases iter<;>first | rfl | (cases e1)
          have hI:r.I C Γ (Jd tg) iter=some s:=by cases iter<;>first | exact e1 | (cases e1)
          have hi:=R.I tg ok hI;have okI:=fun cl a s H fp=>ok.inner scope cl a s H fp
          have hg:∀ cl a s H fp,PG (X.inner scope cl a s H fp) tg (t.g X.K):=fun cl a s H fp=>(GN (okI cl a s H fp) e2).1
          have hsx:∀ i∈t.J,i∈MS C.N scope:=fun i hi=>lK.mp ((lx.mp hw.2) i hi)
          have hgo:RN (MS C.N scope) (t.g X.K):=(GN (okI [] 0 X.s₀ X.H₀ []) e2).2.1 _ hsx;have ht:NT X.K p.1 (t.Γ p.1) t.J (t.g X.K) t.f:=(GN (okI [] 0 X.s₀ X.H₀ []) e2).2.2 hj;have he:∀ cl a s H fp,PE (X.inner scope cl a s H fp) elt (tE X.K ct.Γ 0 ce.Γ ce.js ce.f):=fun cl a s H fp=>Cq (R.E (okI cl a s H fp) f1b)
          have hin':innerOk X.N X.env.scope scope (MS C.N scope)=true:=by rw [ok.N,ok.sc];exact hin
          rw [ep] at f2 f3 ⊢;simp only at f2 f3 ⊢;cases ifs with
          | nil =>
            cases f1a;have hc:∀ cl a s H fp,Vb (X.inner scope cl a s H fp) [] (tT X.K (t.Γ p.1) (t.Γ p.1) [] DN):=fun cl a s H fp=>Sv
            refine ⟨_,?_,fun {i x pos' spos} hix hx hf hsw=>Kr ok.nd hix hx hin' ok.calm hi hg hgo hc he hsw hs hf⟩;intro σ H Q h;cases hJ:Au p.1 (t.J++([]++ce.js)) with
            | nil=>rw [hJ] at h;exact LG ht hw.1 f3 f2 hsx hJ.symm h
            | cons j J=>rw [hJ] at h;exact Ip ht hw.1 f3 f2 hsx hJ.symm h
          | cons i1 ifs =>
            cases ifs with
            | nil =>
              have hc:∀ cl a s H fp,Vb (X.inner scope cl a s H fp) [i1] (tT X.K (t.Γ p.1) ct.Γ ct.js ct.f):=fun cl a s H fp=>.one (R.T (okI cl a s H fp) f1a)
              refine ⟨_,?_,fun {i x pos' spos} hix hx hf hsw=>Kr ok.nd hix hx hin' ok.calm hi hg hgo hc he hsw hs hf⟩;intro σ H Q h;cases hJ:Au p.1 (t.J++(ct.js++ce.js)) with
              | nil=>rw [hJ] at h;exact LI ht hw.1 f3 f2 hsx hJ.symm h
              | cons j J=>rw [hJ] at h;exact Im ht hw.1 f3 f2 hsx hJ.symm h
            | cons _ _=>cases f1a
        · cases f1
      · cases h
    · cases h
  · cases h
def ZD (r:Rec) (C:Cf) (Γ:Gm) (x:Str) (elt:Expr) (gens:List Comprehension) (scope:Scope):Option CS:=(Iu r C Γ elt gens scope).bind fun c=>Oj C x c
theorem Uu {r:Rec} (R:OkR r) {C:Cf} {X:Cx} {Γl:Option Gm} {Γ:Gm} {x:Str} {elt:Expr} {gens:List Comprehension} {scope:Scope} {pos' cpos pos:Pos} {c:CS} (ok:Cok C X) (h:ZD r C Γ x elt gens scope=some c):PS X (.Assign [.Name x pos'] (.ListComp elt gens scope cpos) pos) (tS X.K C.F Γl Γ c.Γ c.js c.f):=by
 obtain ⟨c1,e1,h⟩:=bind_some' h;cases hb:iy C.sc x pos'.line scope cpos.line with
 | false=>exact Lc ok (Ld R ok e1) (by rw [Rk ok,hb]) h
 | true =>
  obtain ⟨i,e2,h⟩:=bind_some' h;split at h
  ·rename_i hw;simp only [lB,decide_eq_true_eq,mh] at hw;cases h;obtain ⟨h1,h2,h3⟩:=Ga ok e2;obtain ⟨t,q1,q2⟩:=Qq R (pos:=cpos) ok e1;refine PS.imp (q2 h1 h2 h3 (by rw [Rk ok,hb])) fun D σ H h=>q1 _ _ _ (Nq hw.1 (fun z=>by rw [lK.mpr z] at hw;cases hw.2) h)
  ·cases h
noncomputable def fw:Expr->Bool
 | .Tuple ..=>false
 | _=>true
theorem PJ {tg e:Expr} {env:Env} (h:fw e=true):swappedStores [tg] e env=pure none:=by
 cases e<;>first | (cases h;done) | (cases tg<;>rfl)
theorem Np {tg e:Expr} {l:Nat} {env:Env} (h:MV e=true):swapsWithSole [tg] e l env=pure false:=Gj h
def Ut (r:Rec) (C:Cf) (Γ:Gm) (es:List Expr) (k:Nat) (p:Pos) (e:Expr):Option CS:=if fw e && MV e then (r.E C Γ e).bind fun c=>(cG C (.Tuple es k p)).bind fun t=>if t.J.all (fun i=>decide (i < c.Γ.length) && !C.F.io.contains i) then some ⟨some (t.Γ c.Γ),c.js++t.J,Ii c.f t.f,false,false,false⟩ else none else none
theorem Us {r:Rec} (R:OkR r) {C:Cf} {X:Cx} {Γl:Option Gm} {Γ:Gm} {es:List Expr} {k:Nat} {p pos:Pos} {e:Expr} {c:CS} (ok:Cok C X) (h:Ut r C Γ es k p e=some c):PS X (.Assign [.Tuple es k p] e pos) (tS X.K C.F Γl Γ c.Γ c.js c.f):=by
 unfold Ut at h;split at h
 ·rename_i hn;rw [lB] at hn;obtain ⟨c1,e1,h⟩:=bind_some' h;obtain ⟨t,e2,h⟩:=bind_some' h;split at h
  ·rename_i hw;cases h;obtain ⟨g1,_,g3⟩:=GN ok e2;rw [lx] at hw;refine eY (Cq (R.E ok e1)) g1 (g3 (by rw [lx];exact fun i hi=>(mf.mp (hw i hi)).1)) (fun i hi z=>?_) (Np hn.2) (PJ hn.1) rfl;have:=(mf.mp (hw i z)).2;rw [lK.mpr hi] at this;cases this
  ·cases h
 ·cases h
def gY (i j:Nat) (fa:Ev (List Dv)):Es:=fun R m k=>fa R m fun ds m1=>match ds with | [a,b]=>k.nx ((m1.set i a).set j b) | _=>none
def ae (sc:Scope) (x y:Str) (px py:Pos) (a b:Expr):Bool:=(match sc.kind with | .function=>true | _=>false) && (match sc.names.lookup x with | some .local=>true | _=>false) && (match sc.names.lookup y with | some .local=>true | _=>false) && !(x == y) && (py.line == px.line) && BA a && BA b && !(foldedForSure 8 a && foldedForSure 8 b) && !(constantsAlone 8 a && constantsAlone 8 b)
theorem aa {env:Env} {x y:Str} {px py pt pt2:Pos} {kt k2:Nat} {a b:Expr} (h:ae env.scope x y px py a b=true):swappedStores [.Tuple [.Name x px,.Name y py] kt pt] (.Tuple [a,b] k2 pt2) env=pure (some [x,y])/\env.scope.names.lookup x=some .local/\env.scope.names.lookup y=some .local:=by
 unfold ae at h;simp only [lB,mh] at h;obtain ⟨⟨⟨⟨⟨⟨⟨⟨h1,h2⟩,h3⟩,h4⟩,h5⟩,h6⟩,h7⟩,h8⟩,h9⟩:=h;have k1:env.scope.kind=.function:=by split at h1;(assumption);(cases h1)
 have k2:env.scope.names.lookup x=some .local:=by split at h2;(assumption);(cases h2)
 have k3:env.scope.names.lookup y=some .local:=by split at h3;(assumption);(cases h3)
 refine ⟨?_,k2,k3⟩;have kx:env.kindOf x=some .local:=k2;have ky:env.kindOf y=some .local:=k3;have yx:(y == x)=false:=by
  cases q:y == x with
  | false=>rfl
  | true=>rw [beq_iff_eq.mp q,beq_self_eq_true] at h4;cases h4
 unfold swappedStores;simp [Env.blockKind,k1,ScopeKind.isAnnotationScope,kx,ky,beq_iff_eq.mp h5,h8,h9,List.eraseDups_cons,yx,h4,Expr.pos];rintro (z | z)
 ·cases a<;>first | (cases z;done) | (cases h6;done)
 ·cases b<;>first | (cases z;done) | (cases h7;done)
def cZ (r:Rec) (C:Cf) (Γ:Gm) (x y:Str) (px py:Pos) (a b:Expr):Option CS:=if ae C.sc x y px py a b then (r.A C Γ [] [a,b]).bind fun c=>(Cg C.N x).bind fun i=>(Cg C.N y).bind fun j=>if decide (i < c.Γ.length) && decide (j < c.Γ.length) && !(i == j) && !C.F.io.contains i && !C.F.io.contains j then some ⟨some ((c.Γ.set i (some 0)).set j (some 0)),c.js++([i]++[j]),gY i j (AR c.as),false,false,false⟩ else none else none
theorem Xd {r:Rec} (R:OkR r) {C:Cf} {X:Cx} {Γl:Option Gm} {Γ:Gm} {x y:Str} {px py pt pt2 pos:Pos} {kt k2:Nat} {a b:Expr} {c:CS} (ok:Cok C X) (h:cZ r C Γ x y px py a b=some c):PS X (.Assign [.Tuple [.Name x px,.Name y py] kt pt] (.Tuple [a,b] k2 pt2) pos) (tS X.K C.F Γl Γ c.Γ c.js c.f):=by
 unfold cZ at h;split at h
 ·rename_i hp;obtain ⟨c1,e1,h⟩:=bind_some' h;obtain ⟨i,e2,h⟩:=bind_some' h;obtain ⟨j,e3,h⟩:=bind_some' h;split at h
  ·rename_i hw;simp only [lB,decide_eq_true_eq,mh,beq_eq_false_iff_ne] at hw;obtain ⟨⟨⟨⟨w1,w2⟩,w3⟩,w4⟩,w5⟩:=hw;cases h;obtain ⟨a1,a2,a3,a4,a5⟩:=R.A ok e1;rw [<- ok.sc] at hp;obtain ⟨p1,p2,p3⟩:=aa (pt:=pt) (pt2:=pt2) (kt:=kt) (k2:=k2) hp;refine PS.imp (aD ok.calm ok.nd (by rw [ok.N];exact BW e2) (by rw [ok.N];exact BW e3) w3 p2 p3 a1 p1 rfl) fun D σ H h=>?_
   obtain ⟨g,m,P,r',R',k,res,e,q⟩:=h;refine AM c1.as r' a2 e fun ds m1 g1 P1 vs H1 hk ag s ar r1=>?_
   have rp:=ar.reps (a5 rfl)
   match ds,hk,rp with
   | [d1,d2],hk,rp =>
    obtain ⟨v1,us,rfl,h1,rp⟩:=BO rp;obtain ⟨v2,us2,rfl,h2,rp⟩:=BO rp;cases BL rp;obtain ⟨P2,r2,s2⟩:=r1.setNew w1 h1 fun _ z=>z.elim
    obtain ⟨P3,r3,s3⟩:=r2.setNew (by rw [lj];exact w2) h2 fun _ z=>z.elim
    refine ⟨v1,v2,rfl,q.nx _ _ g1 P3 _ H1 rfl hk (ag.trans (BU.set.trans BU.set)) (s.less fun a z=>(s3 a z).elim (fun z=>(s2 a z).elim id False.elim) False.elim) ((Io.set ?_).trans (Io.set ?_)) r3⟩
    ·exact fun z=>by rw [lK.mpr z] at w4;cases w4
    ·exact fun z=>by rw [lK.mpr z] at w5;cases w5
   | [],hk,_=>cases hk
   | [_],hk,_=>cases hk
   | _::_::_::_,hk,_=>cases hk
  ·cases h
 ·cases h
def Ug (r:Rec) (C:Cf) (Γ:Gm) (x k e:Expr):Option CS:=if MV e && HI k then (Wt C x).bind fun i=>(r.E C Γ e).bind fun c=>(RF r C c.Γ k).bind fun a=>if (c.Γ.getD i none).isSome && a.Γ.getD i none == some 1 then some ⟨some a.Γ,c.js++((a.js++[])++[i]),Yr i C.T.st c.f (AR [a.a]),false,false,false⟩ else none else none
theorem PH {X:Cx} {x k:Expr} {tpos:Pos} (hk:HI k=true):∀ v,assign (.Subscript x k tpos) X.env v=(do
      let ov <- holding [v] (eval x X.env)
      let iv <- holding [v,ov] (eval k X.env)
      standAt tpos
      holding [v,ov,iv] (setItem ov iv v)
      release [v,ov,iv] []):=fun v=>by
  cases k<;>first | rfl | (cases hk)
theorem Ue {r:Rec} (R:OkR r) {C:Cf} {X:Cx} {Γl:Option Gm} {Γ:Gm} {x k e:Expr} {tpos pos:Pos} {c:CS} (ok:Cok C X) (h:Ug r C Γ x k e=some c):PS X (.Assign [.Subscript x k tpos] e pos) (tS X.K C.F Γl Γ c.Γ c.js c.f):=by
 unfold Ug at h;split at h
 ·rename_i hn;rw [lB] at hn;obtain ⟨i,e0,h⟩:=bind_some' h;obtain ⟨c1,e1,h⟩:=bind_some' h;obtain ⟨a,e2,h⟩:=bind_some' h;split at h
  ·rename_i hw;rw [lB] at hw;cases h;obtain ⟨a1,a2⟩:=Gb R ok e2;obtain ⟨T,t1,t2⟩:=C.T.stok X ok.gx;refine PS.imp (SZ (Cq (R.E ok e1)) (aQ (DJ ok e0) a1 t1 (PH hn.2)) (Np hn.1) ?_ rfl) fun D σ H h=>SD t2 a2 (getD_some hw.1) (BR (beq_iff_eq.mp hw.2)) h
   cases e<;>rfl
  ·cases h
 ·cases h
def Yj:Option Gm->Option Gm->Option Gm
 | some a,some b=>some (BV a b)
 | none,b=>b
 | a,none=>a
def kY (r:Rec) (C:Cf) (Γl:Option Gm) (Γ:Gm) (c:Expr) (a b:List Stmt):Option CS:=(r.T C Γ c).bind fun t=>(r.Ss C Γl t.Γ a).bind fun x=>(r.Ss C Γl t.Γ b).bind fun y=>let Γn:=Yj x.Γ y.Γ;let js:=t.js++(x.js++y.js);if Ja Γn x.Γ && Ja Γn y.Γ then some ⟨Γn,js,match x.Γ,y.Γ,Γn with
      | some _,some _,some Γ'=>if x.er || x.eb || x.ec || y.er || y.eb || y.ec then LO t.f x.f y.f else gZ (Au Γ' js) (LO t.f x.f y.f)
      | _,_,_=>LO t.f x.f y.f,x.er || y.er,x.eb || y.eb,x.ec || y.ec⟩ else none
theorem cm {r:Rec} (R:OkR r) {C:Cf} {X:Cx} {Γl:Option Gm} {Γ:Gm} {t:Expr} {a b:List Stmt} {pos:Pos} {c:CS} (ok:Cok C X) (h:kY r C Γl Γ t a b=some c):PS X (.If t a b pos) (tS X.K C.F Γl Γ c.Γ c.js c.f):=by
 obtain ⟨ct,e1,h⟩:=bind_some' h;obtain ⟨x,e2,h⟩:=bind_some' h;obtain ⟨y,e3,h⟩:=bind_some' h;simp only at h;split at h
 ·rename_i hw;rw [lB] at hw;have base:PS X (.If t a b pos) (tS X.K C.F Γl Γ (Yj x.Γ y.Γ) (ct.js++(x.js++y.js)) (LO ct.f x.f y.f)):=jA (R.T ok e1) (SI (R.Ss ok e2) hw.1) (SI (R.Ss ok e3) hw.2);cases h;split
  ·rename_i Γ' _ _ hj;split
   ·exact base
   ·simp only [hj] at base ⊢;exact PS.imp base fun D σ H h=>bP (fun i o z=>BI z) (fun i z=>As z) h
  ·exact base
 ·cases h
noncomputable def VG (f:Int->Int->Int) (x y:Dv):Option Dv:=match x,y with | .int i,.int j=>some (.int (f i j)) | _,_=>none
theorem RE {f:Int->Int->Int} {x y z:Dv} (h:VG f x y=some z):∃ i j,x=.int i/\y=.int j/\z=.int (f i j):=by
 unfold VG at h;split at h
 ·cases h;exact ⟨_,_,rfl,rfl,rfl⟩
 ·cases h
def iD:=VG fun i j=>i+j
def dQ:=VG fun i j=>i - j
def Tu (i:Nat) (p:Dv->Dv->Option Dv) (f:Ev Dv):Es:=fun R m k=>f R m fun d m1=>(p (m.at i) d).bind fun y=>k.nx (m1.set i y)
theorem Os {K:W.Frag} {F:Fr} {Γl:Option Gm} {Γ Γ2:Gm} {js:List Nat} {fe:Ev Dv} {i o:Nat} {f:Int->Int->Int} (h0:Γ[i]?=some (some o)) (hi:i < Γ2.length) (hio:i∉F.io) {D:Ends} {σ:St} {H:Hp} (h:tS K F Γl Γ (some (Γ2.set i (some 0))) (js++[i]) (Tu i (VG f) fe) D σ H):eM i (tE K Γ 0 Γ2 js fe) (jF f) D σ H:=by
 obtain ⟨g0,m,P,r,R,k,res,e,q⟩:=h;obtain ⟨v0,P0,ev0,rv0,_⟩:=r.see h0;refine ⟨v0,ev0,g0,m,P,r,R,_,res,e,fun d m1 g' P' Pv v H' hk ag s rv r1 n=>?_⟩;obtain ⟨y,e1,e2⟩:=bind_some' hk;obtain ⟨a,b,ea,rfl,rfl⟩:=RE e1;rw [ea] at rv0;refine ⟨a,b,rep_int rv0,rep_int rv,?_⟩;obtain ⟨P2,r2,s2⟩:=r1.setNew (o:=0) (v:=.int (f a b)) (d:=.int (f a b)) (Pv:=nop) hi BZ fun _ z=>z.elim
 exact q.nx _ _ g' P2 _ H' rfl e2 (ag.trans BU.set) (s.less fun a z=>(s2 a z).elim .inl False.elim) (Io.set hio) r2
def hX (r:Rec) (C:Cf) (Γ:Gm) (x:Str) (op:Operator) (e:Expr):Option CS:=(KA C x).bind fun i=>if (Γ.getD i none).isSome then (r.E C Γ e).bind fun c=>if decide (i < c.Γ.length) && !C.F.io.contains i then (match op with
    | .Add=>some ⟨some (c.Γ.set i (some 0)),c.js++[i],Tu i iD c.f,false,false,false⟩
    | .Sub=>some ⟨some (c.Γ.set i (some 0)),c.js++[i],Tu i dQ c.f,false,false,false⟩
    | _=>none) else none else none
theorem Xo {r:Rec} (R:OkR r) {C:Cf} {X:Cx} {Γl:Option Gm} {Γ:Gm} {x:Str} {op:Operator} {e:Expr} {pos pos':Pos} {c:CS} (ok:Cok C X) (h:hX r C Γ x op e=some c):PS X (.AugAssign (.Name x pos') op e pos) (tS X.K C.F Γl Γ c.Γ c.js c.f):=by
 obtain ⟨i,e1,h⟩:=bind_some' h;split at h
 ·rename_i hs;obtain ⟨c1,e2,h⟩:=bind_some' h;split at h
  ·rename_i hw;simp only [lB,decide_eq_true_eq,mh] at hw;obtain ⟨o,ho⟩:=getD_some hs;obtain ⟨h1,h2,h3⟩:=Ga ok e1;have hio:i∉C.F.io:=fun z=>by rw [lK.mpr z] at hw;cases hw.2
   split at h
   ·cases h;exact PS.imp (SY ok.nd h1 h2 (Cq (R.E ok e2)) bV h3) fun _ _ _ h=>Os ho hw.1 hio h
   ·cases h;exact PS.imp (SY ok.nd h1 h2 (Cq (R.E ok e2)) bU h3) fun _ _ _ h=>Os ho hw.1 hio h
   ·cases h
  ·cases h
 ·cases h
def Te (r:Rec) (C:Cf) (pre:Gm->Gm) (body:List Stmt):Nat->Gm->Option (Gm×CS)
 | 0,_=>none
 | n+1,Γ=>match r.Ss C (some Γ) (pre Γ) body with
  | some x=>if Ja (some Γ) x.Γ then some (Γ,x) else Te r C pre body n (match x.Γ with | some Γ'=>BV Γ Γ' | none=>Γ)
  | none=>Te r C pre body n (Γ.map fun o=>o.map fun _=>0)
theorem Jh {r:Rec} {C:Cf} {pre:Gm->Gm} {body:List Stmt}:∀ {n:Nat} {Γ:Gm} {p:Gm×CS},Te r C pre body n Γ=some p->r.Ss C (some p.1) (pre p.1) body=some p.2/\Ja (some p.1) p.2.Γ=true
 | 0,_,_,h=>by cases h
 | n+1,Γ,p,h=>by
  unfold Te at h;split at h
  ·rename_i x hx;split at h
   ·rename_i hw;cases h;exact ⟨hx,hw⟩
   ·exact Jh h
  ·exact Jh h
def hV (r:Rec) (C:Cf) (Γ:Gm) (tg iter:Expr) (body:List Stmt):Option CS:=(match iter with | .Set _ _ _=>none | _=>r.I C Γ (Jd tg) iter).bind fun s=>(cG C tg).bind fun t=>if t.J.all (fun i=>decide (i < s.Γ.length) && !C.F.io.contains i) then (Te r C t.Γ body 4 s.Γ).bind fun p=>if BQ p.1 s.Γ then
    let jb:=t.J++p.2.js
    some ⟨some p.1,s.js++jb,if p.2.er || p.2.eb then Tq s.f t.f (Au p.1 jb) (Au C.F.Γr jb) p.2.f else Tr s.f t.f (Au p.1 jb) p.2.f,p.2.er,false,false⟩ else none else none
theorem Xj {r:Rec} (R:OkR r) {C:Cf} {X:Cx} {Γl:Option Gm} {Γ:Gm} {tg iter:Expr} {body:List Stmt} {pos:Pos} {c:CS} (ok:Cok C X) (h:hV r C Γ tg iter body=some c):PS X (.For tg iter body [] pos) (tS X.K C.F Γl Γ c.Γ c.js c.f):=by
 obtain ⟨s,e1,h⟩:=bind_some' h;obtain ⟨t,e2,h⟩:=bind_some' h;split at h
 ·rename_i hj;obtain ⟨p,e3,h⟩:=bind_some' h;split at h
  ·rename_i hw;have hs:∀ x,foldedSetIterable iter X.env x=pure x:=fun x=>by cases iter<;>first | rfl | (cases e1)
   have hI:r.I C Γ (Jd tg) iter=some s:=by cases iter<;>first | exact e1 | (cases e1)
   obtain ⟨f1,f2⟩:=Jh e3;obtain ⟨g1,_,g3⟩:=GN ok e2;rw [lx] at hj;have hJ:t.J.all (fun i=>decide (i < p.1.length))=true:=by
    rw [lx];intro i hi;rw [Dq hw];exact (mf.mp (hj i hi)).1
   have hio:∀ i∈C.F.io,i∉t.J:=fun i hi z=>by
    have:=(mf.mp (hj i z)).2;rw [lK.mpr hi] at this;cases this
   have hi:PI X tg iter (tI X.K Γ p.1 s.js s.f):=PI.imp (R.I tg ok hI) fun _ _ _ h=>Ve hw h
   have hp:PassesOwn (model X.prog X.w) X.A X.env X.xe:=by rw [ok.xe];exact PassesOwn.never
   have hb:=R.Ss ok f1;simp only at h;cases h;split
   ·exact Zp hp ok.calm hi g1 (g3 hJ) hio hb f2 rfl rfl hs
   ·exact Zq hp ok.calm hi g1 (g3 hJ) hio hb f2 rfl hs
  ·cases h
 ·cases h
noncomputable def iK:Nat:=1000000
def iT (r:Rec) (C:Cf) (Γ:Gm) (c:Expr) (body:List Stmt):Option CS:=(fixW r C c body 4 Γ).bind fun p=>if BQ p.1 Γ then some ⟨some p.1,p.2.2.js,if p.2.2.er || p.2.2.eb then Yo iK p.2.1.f (Au p.1 p.2.2.js) (Au C.F.Γr p.2.2.js) p.2.2.f else Yp iK p.2.1.f (Au p.1 p.2.2.js) p.2.2.f,p.2.2.er,false,false⟩ else none
where
 fixW (r:Rec) (C:Cf) (c:Expr) (body:List Stmt):Nat->Gm->Option (Gm×CT×CS)
 | 0,_=>none
 | n+1,Γ=>(r.T C Γ c).bind fun t=>if t.js.isEmpty && BQ Γ t.Γ then (match r.Ss C (some Γ) Γ body with
  | some x=>if Ja (some Γ) x.Γ then some (Γ,t,x) else fixW r C c body n (match x.Γ with | some Γ'=>BV Γ Γ' | none=>Γ)
  | none=>fixW r C c body n (Γ.map fun o=>o.map fun _=>0)) else fixW r C c body n (BV Γ t.Γ)
theorem GY {r:Rec} {C:Cf} {c:Expr} {body:List Stmt}:∀ {n:Nat} {Γ:Gm} {p:Gm×CT×CS},iT.fixW r C c body n Γ=some p->r.T C p.1 c=some p.2.1/\p.2.1.js=[]/\BQ p.1 p.2.1.Γ=true/\r.Ss C (some p.1) p.1 body=some p.2.2/\Ja (some p.1) p.2.2.Γ=true
 | 0,_,_,h=>by cases h
 | n+1,Γ,p,h=>by
  unfold iT.fixW at h;obtain ⟨t,e1,h⟩:=bind_some' h;split at h
  ·rename_i hw;rw [lB] at hw;split at h
   ·rename_i x hx;split at h
    ·rename_i hl;cases h;exact ⟨e1,List.isEmpty_iff.mp hw.1,hw.2,hx,hl⟩
    ·exact GY h
   ·exact GY h
  ·exact GY h
theorem eU {X:Cx} {F:Fr} {Γl Γn:Option Gm} {Γ Γ':Gm} {js:List Nat} {s:Stmt} {f:Es} (hw:BQ Γ' Γ=true) (h:PS X s (tS X.K F Γl Γ' Γn js f)):PS X s (tS X.K F Γl Γ Γn js f):=PS.imp h fun D σ H h=>by
 obtain ⟨g,m,P,r,R,k,res,e,q⟩:=h;obtain ⟨g2,P2,s2,r2⟩:=r.weaken hw;exact ⟨g2,m,P2,r2,R,k,res,e,⟨fun Γ' m' g' P' σ' H' e hk a s'=>q.nx Γ' m' g' P' σ' H' e hk a (s2.trans s'),fun d m' g' P' Pv σ' v H' hk a s'=>q.rt d m' g' P' Pv σ' v H' hk a (s2.trans s'),fun Γ' m' g' P' σ' H' e hk a s'=>q.bk Γ' m' g' P' σ' H' e hk a (s2.trans s'),fun Γ' m' g' P' σ' H' e hk a s'=>q.ct Γ' m' g' P' σ' H' e hk a (s2.trans s')⟩⟩
theorem cS {r:Rec} (R:OkR r) {C:Cf} {X:Cx} {Γl:Option Gm} {Γ:Gm} {t:Expr} {body:List Stmt} {pos:Pos} {c:CS} (ok:Cok C X) (h:iT r C Γ t body=some c):PS X (.While t body [] pos) (tS X.K C.F Γl Γ c.Γ c.js c.f):=by
 obtain ⟨p,e1,h⟩:=bind_some' h;split at h
 ·rename_i hw;cases h;obtain ⟨f1,f2,f3,f4,f5⟩:=GY e1;have hp:PassesOwn (model X.prog X.w) X.A X.env X.xe:=by rw [ok.xe];exact PassesOwn.never
  have ht:=R.T ok f1;rw [f2] at ht;refine eU hw ?_;split
  ·exact eO iK hp ht (R.Ss ok f4) f3 f5 rfl rfl
  ·exact eQ iK hp ht (R.Ss ok f4) f3 f5 rfl
 ·cases h
def gg:Es:=fun _ m k=>k.bk m
def gb:Es:=fun _ m k=>k.ct m
def cw (Γl:Option Gm) (Γ:Gm):Option CS:=match Γl with
 | some Γ'=>if BQ Γ' Γ then some ⟨none,[],gg,false,true,false⟩ else none
 | none=>none
def cq (Γl:Option Gm) (Γ:Gm):Option CS:=match Γl with
 | some Γ'=>if BQ Γ' Γ then some ⟨none,[],gb,false,false,true⟩ else none
 | none=>none
theorem Xm {C:Cf} {X:Cx} {Γl:Option Gm} {Γ:Gm} {pos:Pos} {c:CS} (h:cw Γl Γ=some c):PS X (.Break pos) (tS X.K C.F Γl Γ c.Γ c.js c.f):=by
  unfold cw at h;split at h
  · rename_i Γ';split at h
    · rename_i hw;cases h;exact PS.imp SX fun D σ H h=>by
        obtain ⟨g,m,P,r,R,k,res,e,q⟩:=h;obtain ⟨g2,P2,s2,r2⟩:=r.weaken hw;exact q.bk Γ' m g2 P2 σ H rfl e BU.refl s2 Io.refl r2
    · cases h
  · cases h
theorem Xk {C:Cf} {X:Cx} {Γl:Option Gm} {Γ:Gm} {pos:Pos} {c:CS} (h:cq Γl Γ=some c):PS X (.Continue pos) (tS X.K C.F Γl Γ c.Γ c.js c.f):=by
  unfold cq at h;split at h
  · rename_i Γ';split at h
    · rename_i hw;cases h;exact PS.imp Ks fun D σ H h=>by
        obtain ⟨g,m,P,r,R,k,res,e,q⟩:=h;obtain ⟨g2,P2,s2,r2⟩:=r.weaken hw;exact q.ct Γ' m g2 P2 σ H rfl e BU.refl s2 Io.refl r2
    · cases h
  · cases h
noncomputable def Yb (es:List Expr) (e:Expr):Option (Str×Pos×Str×Pos×Expr×Expr):=match es with
 | [.Name x px,.Name y py]=>match e with
  | .Tuple [a,b] _ _=>some (x,px,y,py,a,b)
  | _=>none
 | _=>none
def Ud (r:Rec) (C:Cf) (Γ:Gm) (es:List Expr) (k:Nat) (p:Pos) (e:Expr):Option CS:=match Yb es e with
 | some t=>cZ r C Γ t.1 t.2.2.1 t.2.1 t.2.2.2.1 t.2.2.2.2.1 t.2.2.2.2.2
 | none=>Ut r C Γ es k p e
theorem Uc {r:Rec} (R:OkR r) {C:Cf} {X:Cx} {Γl:Option Gm} {Γ:Gm} {es:List Expr} {k:Nat} {p pos:Pos} {e:Expr} {c:CS} (ok:Cok C X) (h:Ud r C Γ es k p e=some c):PS X (.Assign [.Tuple es k p] e pos) (tS X.K C.F Γl Γ c.Γ c.js c.f):=by
 unfold Ud at h;split at h
 ·rename_i t q;unfold Yb at q;split at q
  ·split at q
   ·cases q;exact Xd R ok h
   ·cases q
  ·cases q
 ·exact Us R ok h
theorem Xx {r:Rec} (R:OkR r) {C:Cf} {X:Cx} {Γl:Option Gm} {Γ:Gm} {x:Str} {p pos:Pos} {e:Expr} {c:CS} (ok:Cok C X) (h:(if MV e then (r.E C Γ e).bind fun c=>Oj C x c else none)=some c):PS X (.Assign [.Name x p] e pos) (tS X.K C.F Γl Γ c.Γ c.js c.f):=by
 split at h
 ·rename_i hn;obtain ⟨c1,e1,h⟩:=bind_some' h;exact Lc ok (R.E ok e1) (Gj hn) h
 ·cases h
def YO (r:Rec) (C:Cf) (Γl:Option Gm) (Γ:Gm) (s:Stmt):Option CS:=match s with
 | .Pass _=>some (SB Γ)
 | .Expr (.Constant (.str _) _ _) _=>some (SB Γ)
 | .Expr e _=>cn r C Γ e
 | .Return (some e) _=>gu r C Γ e
 | .Assign [.Name x _] (.ListComp elt gens scope _) _=>ZD r C Γ x elt gens scope
 | .Assign [.Name x _] e _=>if MV e then (r.E C Γ e).bind fun c=>Oj C x c else none
 | .Assign [.Tuple es k p] e _=>Ud r C Γ es k p e
 | .Assign [.Subscript x k _] e _=>Ug r C Γ x k e
 | .AugAssign (.Name x _) op e _=>hX r C Γ x op e
 | .If c a b _=>kY r C Γl Γ c a b
 | .For tg iter body [] _=>hV r C Γ tg iter body
 | .While c body [] _=>iT r C Γ c body
 | .Break _=>cw Γl Γ
 | .Continue _=>cq Γl Γ
 | _=>none
theorem Rn {r:Rec} (R:OkR r) {C:Cf} {X:Cx} {Γl:Option Gm} {Γ:Gm} {s:Stmt} {c:CS} (ok:Cok C X) (h:YO r C Γl Γ s=some c):PS X s (tS X.K C.F Γl Γ c.Γ c.js c.f):=by
 cases s with
 | Pass _=>cases h;exact Zn
 | Expr e _ =>
  cases e with
  | Constant k _ _ =>
   cases k with
   | str _=>cases h;exact eX
   | _=>exact Ol R ok h
  | _=>exact Ol R ok h
 | Return v _ =>
  cases v with
  | none=>cases h
  | some e=>exact Xc R ok h
 | Assign ts e _ =>
  match ts,h with
  | [],h=>cases h
  | t::_::_,h=>cases t<;>cases h
  | [t],h =>
   cases t with
   | Name x _ =>
    cases e with
    | ListComp elt gens scope _=>exact Uu R ok h
    | _=>exact Xx R ok h
   | Tuple es k p=>exact Uc R ok h
   | Subscript x k _=>exact Ue R ok h
   | _=>cases h
 | AugAssign t op e _ =>
  cases t with
  | Name x _=>exact Xo R ok h
  | _=>cases h
 | If c a b _=>exact cm R ok h
 | For tg iter body o _ =>
  cases o with
  | nil=>exact Xj R ok h
  | cons _ _=>cases h
 | While c body o _ =>
  cases o with
  | nil=>exact cS R ok h
  | cons _ _=>cases h
 | Break _=>exact Xm h
 | Continue _=>exact Xk h
 | _=>cases h
def Rm (r:Rec) (C:Cf) (Γl:Option Gm) (Γ:Gm) (ss:List Stmt):Option CS:=match ss with
 | []=>some (SB Γ)
 | [s]=>r.S C Γl Γ s
 | s::ss=>(r.S C Γl Γ s).bind fun x=>match x.Γ with
  | none=>some x
  | some Γ'=>(r.Ss C Γl Γ' ss).bind fun y=>some ⟨y.Γ,x.js++y.js,gW x.f y.f,x.er || y.er,x.eb || y.eb,x.ec || y.ec⟩
theorem PK {r:Rec} (R:OkR r) {C:Cf} {X:Cx} {Γl:Option Gm} {Γ:Gm} {ss:List Stmt} {c:CS} (ok:Cok C X) (h:Rm r C Γl Γ ss=some c):Cu X ss (tS X.K C.F Γl Γ c.Γ c.js c.f):=by
 match ss,h with
 | [],h=>cases h;exact eW
 | [s],h=>exact eV (R.S ok h)
 | s::s2::ss,h =>
  obtain ⟨x,e1,h⟩:=bind_some' (show (r.S C Γl Γ s).bind _=some c from h);have h1:=R.S ok e1;cases hx:x.Γ with
  | none =>
   simp only [hx] at h;cases h;rw [hx] at h1 ⊢;exact Zo h1
  | some Γ' =>
   simp only [hx] at h;obtain ⟨y,e2,h⟩:=bind_some' h;cases h;rw [hx] at h1;exact Zs (f:=x.f) (f2:=y.f) (js:=x.js) (js2:=y.js) h1 (R.Ss ok e2)
def step (r:Rec):Rec:=⟨YQ r,KU r,YN r,Rp r,YO r,Rm r⟩
def comp:Nat->Rec
 | 0=>⟨fun _ _ _=>none,fun _ _ _ _=>none,fun _ _ _=>none,fun _ _ _ _=>none,fun _ _ _ _=>none,fun _ _ _ _=>none⟩
 | n+1=>step (comp n)
theorem Og:∀ n,OkR (comp n)
 | 0=>⟨(fun _ h=>by cases h),(fun _ h=>by cases h),(fun _ h=>by cases h),(fun _ _ h=>by cases h),(fun _ h=>by cases h),(fun _ h=>by cases h),fun _ h=>by cases h⟩
 | n+1=>have R:=Og n;⟨fun ok h=>Rq R ok h,fun ok h=>Ru R ok h,fun ok h=>Rl R ok h,fun tg ok h=>Ro R tg ok h,fun ok h=>Rn R ok h,fun ok h=>PK R ok h,fun ok h _ _ h0 hn=>PM R ok h h0 hn⟩
noncomputable def ff (sc:Scope):List Str:=sc.names.filterMap fun p=>match p.2 with | .local=>some p.1 | .cell=>some p.1 | _=>none
mutual
noncomputable def Af:Expr->List Str
 | .ListComp e gs sc _=>ff sc++Af e++TF gs
 | .BoolOp _ vs _=>Be vs
 | .BinOp a _ b _=>Af a++Af b
 | .UnaryOp _ a _=>Af a
 | .IfExp a b c _=>Af a++Af b++Af c
 | .Compare a _ bs _=>Af a++Be bs
 | .Call f es _ _=>Af f++Be es
 | .Attribute a _ _=>Af a
 | .Subscript a b _=>Af a++Af b
 | .Slice a b c _=>HL a++HL b++HL c
 | .List es _=>Be es
 | .Tuple es _ _=>Be es
 | .Dict _ vs _=>Be vs
 | .JoinedStr vs _=>Be vs
 | .FormattedValue v _ _ _=>Af v
 | _=>[]
noncomputable def Be:List Expr->List Str
 | []=>[]
 | e::es=>Af e++Be es
noncomputable def HL:Option Expr->List Str
 | none=>[]
 | some e=>Af e
noncomputable def TF:List Comprehension->List Str
 | []=>[]
 | ⟨_,it,ifs,_⟩::gs=>Af it++Be ifs++TF gs
end
mutual
noncomputable def bA:Stmt->List Str
 | .Return v _=>HL v
 | .Assign ts v _=>Be ts++Af v
 | .AugAssign t _ v _=>Af t++Af v
 | .Expr v _=>Af v
 | .If c a b _=>Af c++Do a++Do b
 | .For _ it b _ _=>Af it++Do b
 | .While c b _ _=>Af c++Do b
 | .Raise e _ _=>HL e
 | _=>[]
noncomputable def Do:List Stmt->List Str
 | []=>[]
 | s::ss=>bA s++Do ss
end
noncomputable def UK:List Str->List Str->List Str
 | [],acc=>acc
 | x::xs,acc=>if acc.contains x then UK xs acc else UK xs (acc++[x])
def AC (st:Stmt):List Str:=(Ap st).args.map (·.arg)
def Bd (st:Stmt):List Str:=UK (AC st++ff (AF st)++Do (Ac st)) []
noncomputable def hd:(io:List Nat)->Jn Dv io->Dv
 | [],t=>t
 | _::_,t=>t.1
noncomputable def OL:(J:List Nat)->EB J->List Dv
 | [],_=>[]
 | [_],d=>[d]
 | _::j::J,t=>t.1::OL (j::J) t.2
def tl:(io:List Nat)->Jn Dv io->List Dv
 | [],_=>[]
 | i::io,t=>OL (i::io) t.2
theorem IW:∀ (J:List Nat) (m:M),OL J (Aa J m)=J.map m.at
 | [],_=>rfl
 | [_],_=>rfl
 | i::j::J,m=>by
  show m.at i::OL (j::J) (Aa (j::J) m)=_;rw [IW (j::J) m];rfl
theorem Yn (io:List Nat) (d:Dv) (m:M):hd io (Yh io d m)=d:=by cases io<;>rfl
theorem YF (io:List Nat) (d:Dv) (m:M):tl io (Yh io d m)=io.map m.at:=by
 cases io with
 | nil=>rfl
 | cons i io=>exact IW (i::io) m
def AW (ps:List Str) (io:List Nat) (ro:Nat) (nb:Bool) (F:List Dv->Option (Jn Dv io)):Sig where
 ps:=ps
 io:=io
 ro:=ro
 nb:=nb
 fn:=fun ds=>(F ds).bind fun t=>some (hd io t,tl io t)
 cps:=fun R ds k=>(F ds).bind fun t=>k (hd io t) (tl io t)
 eq:=fun R ds k=>by cases F ds<;>rfl
def kJ (io:List Nat):Kt (Jn Dv io):=⟨fun m=>some (Yh io .non m),fun d m=>some (Yh io d m),fun _=>none,fun _=>none⟩
end R
namespace L2
open PySem
abbrev YI (l:W.OpenLaw) (n:Nat) (as:List Addr) (K:Params->W.Frag) (N:Nat):Prop:=
 W.LeftO l.row.prog (W.view l.prog (List.range n)) [] (fun s=>W.xlAt (W.view l.prog (List.range n)) [] s && W.recOk [] s) (fun s=>as.map s.heap.get?) (fun w=>(K w.params).map fun p=>some p.2) N
theorem mk_law {l:W.OpenLaw} {n:Nat} {N:Nat} {d:DefRec} {K:Params->W.Frag} {as:List Addr} (ws:l.wellSaid=true) (left:YI l n as K N)
    (has:∀ P,as=(K P).map (·.1)) (hr:l.row.records=[]) (hdef:W.defOf (W.view l.prog (List.range n)) l.row.name=some (d,[])) (hp:l.row.prog.theDef l.row.name=some (d.params,d.body,d.scope)) (hk:W.kwWritten? d.params.kwonlyargs d.params.kw_defaults=some [])
    (hwr:(!l.row.writes || l.row.records.isEmpty)=true)
    (ok:(W.chainsOk (W.view l.prog (List.range n)) && W.opensWell l.row.prog && (W.frees l.row.toRowW && l.row.within.isEmpty))=true) (hb:l.row.prog.bare) (hw:l.row.toRowW.promised)
    (call:W.WalkO (W.view l.prog (List.range n)) [] (W.XL (W.view l.prog (List.range n)) []) (W.InK K) l.row.toRowW d [] fun f vs=>PySem.call f vs):l.Holds:=
  W.holds_law ws fun said=>W.holds_open (q:=W.view l.prog (List.range n)) (loose:=[]) (XP:=W.XL (W.view l.prog (List.range n)) []) (YP:=W.InK K) left (W.InK.of has) W.InK.keeps (fun s e=>W.xl_of s (mf.mp e).1) W.XL.keeps hdef hp hk (fun s e=>W.recFacts_nil hr) hwr said ok hb hw call
noncomputable abbrev ke (P:Params) (x:Str) (t:Tok) (v:Value):DictEntry:=⟨PyData.keyHash P x,.str x t,v⟩
noncomputable abbrev cO (x:Str) (t:Tok) (l a s:Int) (r1 r2:Addr) (v1 v2 v3:Value) (r3:Addr) (t2:Nat):Obj:=⟨.type "code", none,.fields #[.str x t,.str x (t+1),.str "/claim/cut.py" (t+2),.int l 0,.int a 0,.int 0 0,.int 0 0,.int s 0,.ref r1,.bool true,.int 181 0,.ref r2,v1,v2,v3,.ref r3,.int t2 0,.int l 0,.str "/claim/cut.py" (t2+1)],#[]⟩
noncomputable def cN:Stmt->Pos
 | .FunctionDef _ _ _ _ _ _ _ _ _ p=>p
 | _=>⟨0,0,0,0⟩
noncomputable def QN (K:W.Frag) (n:Str):Addr:=match W.nsIn K mainGlobals n with
 | some (some (.ref a))=>a
 | _=>0
noncomputable def aO (K:W.Frag) (f:Addr):Value:=match K.lookup f with
 | some ⟨_,_,.func d,_⟩=>d.pyModule
 | _=>.none
noncomputable def XX (K:W.Frag) (f:Addr):Value:=match K.lookup f with
 | some ⟨_,_,.func d,_⟩=>d.code
 | _=>.none
abbrev GF (K:W.Frag) (n:Str) (t:Stmt):Prop:=W.nsIn K mainGlobals n=some (some (.ref (QN K n))) /\
 K.lookup (QN K n)=some ⟨.type "function", none,.func (W.fnOf n n (Ap t) (Ac t) (AF t) .none .none .none (aO K (QN K n)) none (XX K (QN K n)) .none),#[]⟩ /\
 W.codeIn K (XX K (QN K n)) n=true/\W.keepIn K (.ref (QN K n))=true
theorem Mi {K:W.Frag} {n:Str} {t:Stmt} (h:GF K n t):Fun K n n t (QN K n) (W.fnOf n n (Ap t) (Ac t) (AF t) .none .none .none (aO K (QN K n)) none (XX K (QN K n)) .none):=ba h.2.1 h.2.2.1 h.2.2.2
end L2
namespace R
open PySem L2
structure Md:Type 1 where
 T:Tb
 cs:List (Str×Dv)
 bl:List Str
def gp (M:Md) (fs:List (Str×Sig)) (st:Stmt) (io:List Nat) (ro:Nat):Cf:=⟨Bd st,AF st,fun _=>true,fs,M.cs,M.bl,M.T,⟨io,MJ (Bd st).length io,ro⟩⟩
noncomputable def jB:Rec:=⟨fun _ _ _=>none,fun _ _ _ _=>none,fun _ _ _=>none,fun _ _ _ _=>none,fun _ _ _ _=>none,fun _ _ _ _=>none⟩
def cmp (n:Nat):Rec:=Nat.rec jB (fun _ r=>step r) n
theorem UZ:∀ n,cmp n=comp n
 | 0=>rfl
 | n+1=>by
  show step (cmp n)=step (comp n);rw [UZ n]
def Vw (M:Md) (fs:List (Str×Sig)) (st:Stmt) (io:List Nat) (ro:Nat):Option CS:=(cmp 100).Ss (gp M fs st io ro) none (XJ (Bd st).length (AC st).length io) (Ac st)
def SK (M:Md) (fs:List (Str×Sig)) (st:Stmt) (io:List Nat) (ro:Nat) (ds:List Dv):Option (Jn Dv io):=match Vw M fs st io ro with
 | some c=>c.f (Jn Dv io) (ds++List.replicate ((Bd st).length - (AC st).length) .non) (kJ io)
 | none=>none
noncomputable def jE:ScopeKind->Bool
 | .function=>true
 | _=>false
noncomputable def Wm:NameKind->Bool
 | .free=>false
 | _=>true
def Vu (N P:List Str) (sc:Scope):Bool:=jE sc.kind && !sc.isCoroutine && !sc.isGenerator && decide N.Nodup && (N.take P.length == P) && (P.all fun x=>match sc.names.lookup x with | some .local=>true | some .cell=>true | _=>false) && sc.names.all fun y=>Wm y.2
theorem Nr {N P:List Str} {sc:Scope} (h:Vu N P sc=true):FnScope N P sc:=by
 unfold Vu at h;simp only [lB,mh,decide_eq_true_eq,lx] at h;obtain ⟨⟨⟨⟨⟨⟨h1,h2⟩,h3⟩,h4⟩,h5⟩,h6⟩,h7⟩:=h;refine ⟨?_,h2,h3,h4,by simpa using h5,fun x hx=>?_,fun y hy z=>?_⟩
 ·cases q:sc.kind<;>first | rfl | (rw [q] at h1;cases h1)
 ·have:=h6 x hx;split at this
  ·rename_i e;exact .inl e
  ·rename_i e;exact .inr e
  ·cases this
 ·have:=h7 y hy;rw [z] at this;cases this
def DO (M:Md) (fs:List (Str×Sig)) (st:Stmt) (io:List Nat) (ro:Nat):Bool:=Vu (Bd st) (AC st) (AF st) && decide io.Nodup && (io.all fun i=>decide (i < (AC st).length)) && decide ((AC st).length<=(Bd st).length) && match Vw M fs st io ro with
 | some c=>Ja (some (MJ (Bd st).length io)) c.Γ
 | none=>false
section
variable {P:Program} {w:World} {K:W.Frag} {mg:Str->Option Value} {base:Heap}
structure Bs (M:Md) (K:W.Frag) (mg:Str->Option Value):Prop where
 cs:∀ x d,(x,d)∈M.cs->∃ v u,mg x=some u/\RelV v u/\∀ g H,Rep K g H 0 d v nop
 bl:∀ x∈M.bl,mg x=none
def Fs (P:Program) (w:World) (K:W.Frag) (mg:Str->Option Value) (base:Heap) (k:Nat) (fs:List (Str×Sig)):Prop:=∀ x s,(x,s)∈fs->s.io.Nodup/\(∀ i∈s.io,i < s.ps.length)/\∃ j,j<=k/\Fx P w K mg base j x s.ps (PP K s)
theorem Fs.nil {k:Nat}:Fs P w K mg base k []:=fun _ _ h=>by cases h
theorem Fs.cons {k:Nat} {x:Str} {s:Sig} {fs:List (Str×Sig)} (h:Fs P w K mg base k fs) (h1:s.io.Nodup) (h2:∀ i∈s.io,i < s.ps.length) (h3:Fx P w K mg base (k+1) x s.ps (PP K s)):Fs P w K mg base (k+1) ((x,s)::fs):=fun y t q=>by
 rcases lO.mp q with q | q
 ·cases q;exact ⟨h1,h2,k+1,lJ _,h3⟩
 ·obtain ⟨a,b,j,hj,f⟩:=h y t q;exact ⟨a,b,j,by omega,f⟩
theorem Mx {M:Md} {k:Nat} {fs:List (Str×Sig)} {x:Str} {st:Stmt} {f:Addr} {fd:FuncData} {io:List Nat} {ro:Nat} {nb:Bool} {F:List Dv->Option (Jn Dv io)} (b:Bs M K mg) (h:Fs P w K mg base k fs) (c:DO M fs st io ro=true) (hF:∀ ds,ds.length=(AC st).length->SK M fs st io ro ds=F ds)
    (Fn:Fun K x x st f fd):FnOk P w K mg base RK (k+1) f fd (AC st) (PP K (AW (AC st) io ro nb F)):=by
  unfold DO at c;simp only [lB,decide_eq_true_eq,lx] at c;obtain ⟨⟨⟨⟨c1,c2⟩,c3⟩,c4⟩,c5⟩:=c;cases e:Vw M fs st io ro with
  | none=>rw [e] at c5;cases c5
  | some cs =>
    rw [e] at c5;have S:=Nr c1;refine gR (s:=AW (AC st) io ro nb F) (N:=Bd st) (body:=cs.f) (Γn:=cs.Γ) (js:=cs.js) Fn S c2 c3 c4 c5 (fun cdv A outer s' H E hr=>?_) fun ds d bs hl hf=>?_
    · have ok:Cok (gp M fs st io ro) (LY RK P w K mg base (Bd st) x (AF st) f cdv A outer s' H E).nox:=⟨rfl,rfl,S.nd,rfl,fun _ _=>rfl,⟨rfl,k,hr⟩,fun y t q=>by
        obtain ⟨a,b,j,hj,q⟩:=h y t q;exact ⟨a,b,j,k,hj,hr,q⟩,b.cs,b.bl,rfl⟩
      unfold Vw at e;rw [UZ] at e;exact (Og 100).Ss ok e
    · have hr:=hF ds hl;unfold SK at hr;rw [e] at hr;obtain ⟨t,e1,e2⟩:=bind_some' (show (F ds).bind _=some (d,bs) from hf);cases e2;refine ⟨_,kJ io,t,hr.trans e1,fun m z=>?_,fun d' m z=>?_⟩
      · have z:some (Yh io .non m)=some t:=z;cases z;exact ⟨Yn io _ m,YF io _ m⟩
      · have z:some (Yh io d' m)=some t:=z;cases z;exact ⟨Yn io _ m,YF io _ m⟩
abbrev AY (x:Str) (st:Stmt):Prop:=∀ (kV doc pm:Value) (an:Option Addr) (cdv ct:Value) (us:List Value),us.length=(AC st).length->bindArgs (W.fnOf x x (Ap st) (Ac st) (AF st) .none kV doc pm an cdv ct) ⟨us,[]⟩=pure ((AC st).zip us)
theorem GC {M:Md} {fs:List (Str×Sig)} {st:Stmt} {io:List Nat} {ro:Nat} (c:DO M fs st io ro=true):io.Nodup/\∀ i∈io,i < (AC st).length:=by
 unfold DO at c;simp only [lB,decide_eq_true_eq,lx] at c;exact ⟨c.1.1.1.2,c.1.1.2⟩
theorem Fs.def {M:Md} {k:Nat} {fs:List (Str×Sig)} {x:Str} {st:Stmt} {io:List Nat} {ro:Nat} {nb:Bool} {F:List Dv->Option (Jn Dv io)} (h:Fs P w K mg base k fs) (b:Bs M K mg) (c:DO M fs st io ro=true) (hF:∀ ds,ds.length=(AC st).length->SK M fs st io ro ds=F ds)
    (gf:GF K x st) (hm:mg x=some (.ref (QN K x))) (hb:AY x st):Fs P w K mg base (k+1) ((x,AW (AC st) io ro nb F)::fs):=
  h.cons (GC c).1 (GC c).2 ⟨_,_,Mx b h c hF (Mi gf),hm,gf.2.2.2,(Mi gf).binds hb⟩
theorem Fs.defR {M:Md} {k:Nat} {fs:List (Str×Sig)} {x:Str} {st:Stmt} {io:List Nat} {ro:Nat} {nb:Bool} {F:Nat->List Dv->Option (Jn Dv io)} (h:Fs P w K mg base k fs) (b:Bs M K mg) (c0:Vu (Bd st) (AC st) (AF st)=true) (h0:∀ ds,F 0 ds=none) (c:∀ n,DO M ((x,AW (AC st) io ro nb (F n))::fs) st io ro=true)
    (hF:∀ n ds,ds.length=(AC st).length->SK M ((x,AW (AC st) io ro nb (F n))::fs) st io ro ds=F (n+1) ds)
    (gf:GF K x st) (hm:mg x=some (.ref (QN K x))) (hb:AY x st):∀ n,Fs P w K mg base (k+n+1) ((x,AW (AC st) io ro nb (F n))::fs)
  | 0=>h.cons (GC (c 0)).1 (GC (c 0)).2 ⟨_,_,(Mi gf).ok (k:=k) (Nr c0) (fun vs H Q E q=>by
      obtain ⟨g,ds,P,r,d,bs,e,q⟩:=q;have e:(F 0 ds).bind _=some (d,bs):=e;rw [h0 ds] at e;cases e) (fun cdv A outer s H vs Q E _ q=>by
      obtain ⟨g,ds,P,r,d,bs,e,q⟩:=q;have e:(F 0 ds).bind _=some (d,bs):=e;rw [h0 ds] at e;cases e),hm,gf.2.2.2,(Mi gf).binds hb⟩
  | n+1=>by
    have ih:=Fs.defR h b c0 h0 c hF gf hm hb n;have hh:Fs P w K mg base (k+n+1) fs:=fun y t q=>ih y t (lG _ q)
    exact hh.cons (GC (c 0)).1 (GC (c 0)).2 ⟨_,_,Mx b ih (c n) (hF n) (Mi gf),hm,gf.2.2.2,(Mi gf).binds hb⟩
theorem je {x:Str} {st:Stmt} (hn:(AC st).length=1) (h:∀ (kV doc pm:Value) (an:Option Addr) (cdv ct:Value) (a:Value),bindArgs (W.fnOf x x (Ap st) (Ac st) (AF st) .none kV doc pm an cdv ct) ⟨[a],[]⟩=pure ((AC st).zip [a])):AY x st:=fun kV doc pm an cdv ct us hl=>by
 rw [hn] at hl
 match us,hl with | [a],_=>exact h kV doc pm an cdv ct a
theorem Hs {x:Str} {st:Stmt} (hn:(AC st).length=2) (h:∀ (kV doc pm:Value) (an:Option Addr) (cdv ct:Value) (a b:Value),bindArgs (W.fnOf x x (Ap st) (Ac st) (AF st) .none kV doc pm an cdv ct) ⟨[a,b],[]⟩=pure ((AC st).zip [a,b])):AY x st:=fun kV doc pm an cdv ct us hl=>by
 rw [hn] at hl
 match us,hl with | [a,b],_=>exact h kV doc pm an cdv ct a b
theorem Qz {x:Str} {st:Stmt} (hn:(AC st).length=3) (h:∀ (kV doc pm:Value) (an:Option Addr) (cdv ct:Value) (a b c:Value),bindArgs (W.fnOf x x (Ap st) (Ac st) (AF st) .none kV doc pm an cdv ct) ⟨[a,b,c],[]⟩=pure ((AC st).zip [a,b,c])):AY x st:=fun kV doc pm an cdv ct us hl=>by
 rw [hn] at hl
 match us,hl with | [a,b,c],_=>exact h kV doc pm an cdv ct a b c
theorem Lf {x:Str} {st:Stmt} (hn:(AC st).length=4) (h:∀ (kV doc pm:Value) (an:Option Addr) (cdv ct:Value) (a b c d:Value),bindArgs (W.fnOf x x (Ap st) (Ac st) (AF st) .none kV doc pm an cdv ct) ⟨[a,b,c,d],[]⟩=pure ((AC st).zip [a,b,c,d])):AY x st:=fun kV doc pm an cdv ct us hl=>by
 rw [hn] at hl
 match us,hl with | [a,b,c,d],_=>exact h kV doc pm an cdv ct a b c d
theorem dD {x:Str} {st:Stmt} (hn:(AC st).length=5) (h:∀ (kV doc pm:Value) (an:Option Addr) (cdv ct:Value) (a b c d e:Value),bindArgs (W.fnOf x x (Ap st) (Ac st) (AF st) .none kV doc pm an cdv ct) ⟨[a,b,c,d,e],[]⟩=pure ((AC st).zip [a,b,c,d,e])):AY x st:=fun kV doc pm an cdv ct us hl=>by
 rw [hn] at hl
 match us,hl with | [a,b,c,d,e],_=>exact h kV doc pm an cdv ct a b c d e
noncomputable def MU (K:W.Frag) (x:Str):Bool:=match W.nsIn K mainGlobals x with | some none=>true | _=>false
theorem hZ {M:Md} {h:Heap} (X:K.In h) (G:h.Ns mainGlobals mg) (hc:M.cs=[]) (hz:M.bl.all (MU K)=true):Bs M K mg:=⟨(fun x d q=>by rw [hc] at q;cases q),fun x hx=>by
 have:=(lx.mp hz) x hx;unfold MU at this;split at this
 ·rename_i e;exact W.mg_none_of X G e
 ·cases this⟩
noncomputable def DM {α:Type} (f:Dv->Dv->Dv->Dv->Option α) (ds:List Dv):Option α:=match ds with | [a,b,c,d]=>f a b c d | _=>none
noncomputable def Ml {α:Type} (f:Dv->Dv->Dv->Dv->Dv->Option α) (ds:List Dv):Option α:=match ds with | [a,b,c,d,e]=>f a b c d e | _=>none
noncomputable def FI {α:Type} (f:Dv->Dv->Dv->Option α) (ds:List Dv):Option α:=match ds with | [a,b,c]=>f a b c | _=>none
theorem ia {α:Type}:∀ ds,two (fun _ _=>(none:Option α)) ds=none
 | []=>rfl | [_]=>rfl | [_,_]=>rfl | _::_::_::_=>rfl
abbrev FD (M:Md) (fs:List (Str×Sig)) (st:Stmt) (io:List Nat) (ro:Nat) (f:List Dv->Option (Jn Dv io)):Prop:=∀ ds,ds.length=(AC st).length->SK M fs st io ro ds=f ds
theorem kZ {α:Type} {G:List Dv->Option α} {f:Dv->Option α} {n:Nat} (hn:n=1) (h:∀ a,G [a]=f a):∀ ds,ds.length=n->G ds=one f ds:=fun ds hl=>by
 subst hn
 match ds,hl with | [a],_=>exact h a
theorem Va {α:Type} {G:List Dv->Option α} {f:Dv->Dv->Option α} {n:Nat} (hn:n=2) (h:∀ a b,G [a,b]=f a b):∀ ds,ds.length=n->G ds=two f ds:=fun ds hl=>by
 subst hn
 match ds,hl with | [a,b],_=>exact h a b
theorem da {α:Type} {G:List Dv->Option α} {f:Dv->Dv->Dv->Option α} {n:Nat} (hn:n=3) (h:∀ a b c,G [a,b,c]=f a b c):∀ ds,ds.length=n->G ds=FI f ds:=fun ds hl=>by
 subst hn
 match ds,hl with | [a,b,c],_=>exact h a b c
theorem ZE {α:Type} {G:List Dv->Option α} {f:Dv->Dv->Dv->Dv->Option α} {n:Nat} (hn:n=4) (h:∀ a b c d,G [a,b,c,d]=f a b c d):∀ ds,ds.length=n->G ds=DM f ds:=fun ds hl=>by
 subst hn
 match ds,hl with | [a,b,c,d],_=>exact h a b c d
theorem jd {α:Type} {G:List Dv->Option α} {f:Dv->Dv->Dv->Dv->Dv->Option α} {n:Nat} (hn:n=5) (h:∀ a b c d e,G [a,b,c,d,e]=f a b c d e):∀ ds,ds.length=n->G ds=Ml f ds:=fun ds hl=>by
 subst hn
 match ds,hl with | [a,b,c,d,e],_=>exact h a b c d e
def Nn (K:W.Frag):Sp:=fun vs H Q _=>∃ (a:Addr) (ns:List Int),vs=[.ref a]/\CQ K H a (ns.map V.int)/\ns.length<=63/\YA H/\∀ H',Q (.bl true) H'
theorem bJ {k:Nat} {f:Addr} {fd:FuncData} {ps:List Str} {nb:Bool} {F:List Dv->Option Dv} (hp:ps.length=1) (h0:FnOk P w K mg base RK k f fd ps (PP K (AW ps [] 1 nb F))) (h:∀ ns:List Int,ns.length<=63->F [.scr ns]=some (.bl true)):FnOk P w K mg base RK k f fd ps (Nn K):=h0.imp fun vs H Q E q=>by
 obtain ⟨a,ns,rfl,hS,hn,hO,q⟩:=q;have hs:Scr K H a ns:=by
  rcases hS with (h1 | h1) | h1
  ·rcases hO a with z | ⟨o,xs,z⟩
   ·rw [h1] at z;cases z
   ·rw [h1] at z;cases z
  ·exact .inl h1
  ·exact .inr h1
 refine ⟨⟨fun _=>False,[]⟩,[.scr ns],nop,?_,.bl true,[],by show (F [.scr ns]).bind _=_;rw [h ns hn];rfl,fun g' H' v Pv Pb _ rv _ _=>by rw [rep_bl rv];exact q H'⟩;show Rel K _ H (RL ps.length []) _ _ _;rw [hp];refine ⟨?_,fun _=>nop,⟨rfl,rfl,fun i o e=>?_,fun i e a z=>z,fun i j n a z=>z.elim⟩,fun a=>⟨fun z=>z.elim,fun ⟨i,z⟩=>z⟩⟩
 ·exact fun _ z=>z.elim
 ·match i,e with
  | 0,e=>cases e;exact ⟨_,_,rfl,rfl,by unfold Rep;exact ⟨⟨a,rfl,hs⟩,fun _ z=>z⟩⟩
end
end R
namespace L4
open PySem PySem.Spec PyProof.Rows L2 Builtin
theorem Fu:fillsNumberSlot (.type "tuple") "mul" = pure false:=
 PySem.fillsNumberSlot_seq (id := "tuple.__mul__") (r:=some (.builtin "tuple.__rmul__")) F.slot_tuple_mul.lookup (by decide +kernel) F.slot_tuple_rmul.lookup (by decide +kernel)
theorem JO:seqRepeat? (.type "tuple")=pure (some (.builtin "tuple.__mul__")):=by
 unfold seqRepeat?
 rw [PySem.seqSlot_of (T := "tuple") (name := "__mul__") (id := "tuple.__mul__") F.slot_tuple_mul.lookup (by decide +kernel),PySem.seqSlot_of (T := "tuple") (name := "__rmul__") (id := "tuple.__rmul__") F.slot_tuple_rmul.lookup (by decide +kernel)]
 rfl
theorem HS (a:Int) (t:Tok) (l:Addr) (items:Array Value) (n:Nat) :
    Meets (Builtin.«int.__rmul__» ⟨[.int a t,.ref l],[]⟩) (fun _ R s=>(∃ o,s.heap.get? l=some o/\o.cls=.type "tuple" /\ o.data=.seq items n)/\R (.ok (.ret Value.notImplemented)) s):=
  .of_wp fun prog w A R s h=>by
    obtain ⟨hp,g,d,tk,os⟩:=s;obtain ⟨⟨⟨c,dd,dat,sl⟩,hl,hc,hd⟩,h⟩:=h;simp only at hc hd;subst hc;subst hd
    wp_walk;exact ⟨_,rfl,h⟩
theorem Ge (l:Addr) (items:Array Value) (n:Nat) (x:Int) (u:Tok) (h1:1 < x) (h2:x < 2 ^ 63) (hz:items.size * x.toNat<=1000000) (hne:items.isEmpty=false) :
    Meets (Builtin.«tuple.__mul__» ⟨[.ref l,.int x u],[]⟩) (fun _ R s=>(∃ o,s.heap.get? l=some o/\o.cls=.type "tuple" /\ o.data=.seq items n)/\R (.ok (.ret (Value.ref s.heap.objs.size))) { s with heap:=s.heap.push { cls:=Value.type "tuple", data:=Data.seq ((List.replicate x.toNat items).foldl (·++·) #[]) },toks:=s.toks }):=
  .of_wp fun prog w A R s h=>by
    obtain ⟨hp,g,d,tk,os⟩:=s;obtain ⟨⟨⟨c,dd,dat,sl⟩,hl,hc,hd⟩,h⟩:=h;simp only at hc hd;subst hc;subst hd;have hz':(items.size:Int) * x<=1000000:=by
      have e:x=(x.toNat:Int):=by omega
      rw [e,<- Int.natCast_mul];omega
    wp_walk
    refine wpAny_ite_false (by simp;omega) ?_
    wp_walk
    refine wpAny_ite_false (by rw [hne];simp;omega) ?_
    wp_walk
    refine wpAny_ite_false (by rw [hne];simp;omega) ?_
    wp_walk
    refine wpAny_ite_false (decide_eq_false (by have : ((2 : Int) ^ 63 - 1) / 8 > 1000000 := by decide
                                                omega)) ?_
    wp_walk
    refine wpAny_ite_false (decide_eq_false (by unfold Tuple.tupleTooMany;rw [decide_eq_true_eq,sizeLine_eq];omega)) ?_
    wp_walk
    refine wpAny_ite_false (decide_eq_false (by rw [AutoListH.size_joined,sizeLine_eq];simp only [Array.size_empty];have:=Nat.mul_comm items.size x.toNat;omega)) ?_
    wp_walk
    exact ⟨_,rfl,h⟩
theorem Hl (l:Addr) (items:Array Value) (n:Nat) (u:Tok) :
    Meets (Builtin.«tuple.__mul__» ⟨[.ref l,.int 1 u],[]⟩) (fun _ R s=>(∃ o,s.heap.get? l=some o/\o.cls=.type "tuple" /\ o.data=.seq items n)/\R (.ok (.ret (Value.ref l))) s):=
  .of_wp fun prog w A R s h=>by
    obtain ⟨hp,g,d,tk,os⟩:=s;obtain ⟨⟨⟨c,dd,dat,sl⟩,hl,hc,hd⟩,h⟩:=h;simp only at hc hd;subst hc;subst hd
    wp_walk
    exact ⟨_,rfl,h⟩
def rRepT:R2:=fun x y H Q=>∃ l k xs,x=.ref l/\y=.int k/\H l=some (.tup xs)/\xs≠[]/\1<=k/\k < 2 ^ 63/\xs.length * k.toNat<=1000000/\(k=1->Q (.ref l) H) /\
 (k≠1->∀ p,H p=none->Q (.ref p) (upd H p (.tup (List.replicate k.toNat xs).flatten)))
theorem op_repT {X:Cx}:Bv X (binaryOp .Mult) rRepT:=by
  intro pins s σ H x y v u Q I rx ry h;obtain ⟨l,k,xs,rfl,rfl,hH,hne,h1,h2,hz,q1,q2⟩:=h;cases rx;obtain ⟨t,rfl⟩:=ry;obtain ⟨its,r,⟨o,e,c,n,dt⟩,_⟩:=I.tuple (show EC X.K H l xs from .inl (.inl hH));have hl:its.length=xs.length:=r.length.symm
  have ho:∃ o,s.heap.get? l=some o/\o.cls=.type "tuple" /\ o.data=.seq its.toArray n:=⟨o,e,c,dt⟩
  have em:its.toArray.isEmpty=false:=by
    cases its with
    | nil=>cases xs with
      | nil=>exact absurd rfl hne
      | cons _ _=>simp at hl
    | cons _ _=>rfl
  refine wpAny_binaryOp_repeat_ref (T := "tuple") (U := "int") (by decide) ⟨_,e,c⟩ (fun s'=>typeIs_int s' k t) Fu F.fills_int_mul F.slot_int_rmul JO F.slot_int_index.lookup
    (call_meets F.slot_int_rmul (typeIs_int s k t) F.entry_int_rmul (F.args_int_rmul_2 _ _) (HS k t l its.toArray n)
      ⟨ho,rfl,⟨_,e,c⟩,?_⟩)
  by_cases hk:k=1
  · subst hk;exact call_meets F.slot_tuple_mul ⟨_,e,c⟩ F.entry_tuple_mul (F.args_tuple_mul_2 _ _) (Hl l its.toArray n t) ⟨ho,.ref l,H,I,rfl,q1 rfl⟩
  · refine call_meets F.slot_tuple_mul ⟨_,e,c⟩ F.entry_tuple_mul (F.args_tuple_mul_2 _ _) (Ge l its.toArray n k t (by omega) h2 (by rw [lF,hl];exact hz) em) ⟨ho,?_⟩;have f0:List.foldl (fun x1 x2=>x1++x2) #[] (List.replicate k.toNat its.toArray)=(List.replicate k.toNat its).flatten.toArray:=by
      have:=foldl_rep its k.toNat [];rw [List.nil_append] at this;exact this
    rw [f0];refine ⟨.ref _,_,I.laid (t':=s.toks) (fun _ _ q=>lC _ q) (lJ _) (o:=.tup (List.replicate k.toNat xs).flatten) ⟨?_,_,r.rep k.toNat,GS.new _ _⟩,rfl,q2 hk _ I.fresh⟩;rw [len_rep,Nat.mul_comm];exact lR hz (by decide)
end L4
namespace R
open PySem L2
section
variable {K:W.Frag} {g:G} {H:Hp}
theorem RA.nil {vs:List V} (h:RA K g H [] vs):vs=[]:=by unfold RA at h;exact h
theorem RA.cons {d:Dv} {ds:List Dv} {vs:List V} (h:RA K g H (d::ds) vs):∃ v r o P,vs=v::r/\o<=1/\Rep K g H o d v P/\RA K g H ds r:=by unfold RA at h;exact h
theorem RA.one {d:Dv} {vs:List V} (h:RA K g H [d] vs):∃ v o P,vs=[v]/\o<=1/\Rep K g H o d v P:=by
 obtain ⟨v,r,o,P,rfl,ho,h1,h2⟩:=h.cons;cases h2.nil;exact ⟨v,o,P,rfl,ho,h1⟩
theorem RA.two {d e:Dv} {vs:List V} (h:RA K g H [d,e] vs):∃ v o P w u R,vs=[v,w]/\o<=1/\Rep K g H o d v P/\u<=1/\Rep K g H u e w R:=by
 obtain ⟨v,r,o,P,rfl,ho,h1,h2⟩:=h.cons;obtain ⟨w,u,R,rfl,hu,h3⟩:=h2.one;exact ⟨v,o,P,w,u,R,rfl,ho,h1,hu,h3⟩
theorem rep_str {o:Nat} {l:List Nat} {v:V} {P:Fp} (h:Rep K g H o (.str l) v P):v=.str (tx l):=by unfold Rep at h;exact h.1
theorem rep_non {o:Nat} {v:V} {P:Fp} (h:Rep K g H o .non v P):v=.non:=by unfold Rep at h;exact h.1
theorem Cs {o:Nat} {xs:List Dv} {v:V} {P:Fp} (ho:o<=1) (h:Rep K g H o (.lst xs) v P):∃ a us,v=.ref a/\CQ K H a us/\Reps K g H 0 xs us nop/\H a=some (.lst us):=by
 unfold Rep at h;obtain ⟨a,us,P',rfl,h1,h2,_⟩:=h;rw [nU ho] at h2;exact ⟨a,us,rfl,.inl (.inl h1.1),h2.z,h1.1⟩
theorem Du {o:Nat} {xs:List Dv} {v:V} {P:Fp} (ho:o<=1) (h:Rep K g H o (.tup xs) v P):∃ a us,v=.ref a/\EC K H a us/\Reps K g H 0 xs us nop/\H a=some (.tup us):=by
 unfold Rep at h;obtain ⟨a,us,rfl,h1,h2⟩:=h;rw [nU ho] at h2;exact ⟨a,us,rfl,.inl (.inl h1),h2.z,h1⟩
theorem Kb {o:Nat} {ns:List Int} {v:V} {P:Fp} (h:Rep K g H o (.scr ns) v P):∃ a,v=.ref a/\CQ K H a (ns.map V.int):=by
 unfold Rep at h;obtain ⟨⟨a,rfl,h1⟩,_⟩:=h;exact ⟨a,rfl,h1.sq⟩
theorem Dl {o:Nat} (ho:o<=1) {a:Addr} {xs:List Dv} {us:List V} (h1:H a=some (.tup us)) (h2:Reps K g H 0 xs us nop):Rep K g H o (.tup xs) (.ref a) nop:=by
 unfold Rep;rw [nU ho];exact ⟨a,us,rfl,h1,h2⟩
theorem Ab.int {o:Nat} (i:Int):Ab K g H o (.int i) (.int i) H:=Ab.old BZ
theorem Ab.bl {o:Nat} (b:Bool):Ab K g H o (.bl b) (.bl b) H:=Ab.old Br
theorem Ab.str {o:Nat} (l:List Nat):Ab K g H o (.str l) (.str (tx l)) H:=Ab.old (by unfold Rep;exact ⟨rfl,fun _ z=>z⟩)
theorem Ab.tup {o:Nat} (ho:o<=1) {xs:List Dv} {vs:List V} {p:Addr} (hp:H p=none) (h:Reps K g H 0 xs vs nop):Ab K g H o (.tup xs) (.ref p) (upd H p (.tup vs)):=
 have sm:=DE hp (.tup vs)
 ⟨sm,nop,Dl ho BM (h.held (Step.same (g:=g) (P:=nop) sm) FpOk.nop fun _ z=>z.elim),fun _ z=>z.elim⟩
theorem Fh {xs:List Dv} {vs:List V} (h:Reps K g H 0 xs vs nop):∀ n,Reps K g H 0 (List.replicate n xs).flatten (List.replicate n vs).flatten nop
 | 0=>by simpa using Reps.nil
 | n+1=>by
  rw [mY,mY,mr,mr];exact Bo h (Fh h n)
theorem MM {xs:List Dv} {vs:List V} (n:Nat) (h:Reps K g H 0 xs vs nop):Reps K g H 0 (xs.drop n) (vs.drop n) nop:=by
 have h0:=CY.mp h;exact CY.mpr ⟨by simp [h0.1],fun i d v e1 e2=>h0.2 (n+i) d v (by simpa using e1) (by simpa using e2)⟩
theorem MK {xs:List Dv} {vs:List V} (n:Nat) (h:Reps K g H 0 xs vs nop):Reps K g H 0 (xs.take n) (vs.take n) nop:=by
 have h0:=CY.mp h;refine CY.mpr ⟨by simp [h0.1],fun i d v e1 e2=>?_⟩;rw [List.getElem?_take] at e1 e2;split at e1
 ·rename_i hi;rw [if_pos hi] at e2;exact h0.2 i d v e1 e2
 ·cases e1
theorem IR {xs:List Dv} {vs:List V} (h:Reps K g H 0 xs vs nop):Reps K g H 0 xs.reverse vs.reverse nop:=by
 have h0:=CY.mp h;refine CY.mpr ⟨by simp [h0.1],fun i d v e1 e2=>?_⟩;have hi:i < xs.length:=by simpa using (lD.mp e1).1
 rw [List.getElem?_reverse hi] at e1;rw [List.getElem?_reverse (by rw [<- h0.1];exact hi),<- h0.1] at e2;exact h0.2 _ d v e1 e2
theorem EN (ns:List Int):Reps K g H 0 (ns.map .int) (ns.map V.int) nop:=CY.mpr ⟨by simp,fun i d v e1 e2=>by
 rw [lP] at e1 e2;cases q:ns[i]? with
 | none=>rw [q] at e1;cases e1
 | some k=>rw [q] at e1 e2;cases e1;cases e2;exact BZ⟩
def cutA {α:Type} (xs:List α) (lo hi:Option Int):List α:=(xs.drop (HT.sIx xs.length 0 lo)).take (HT.sIx xs.length xs.length hi - HT.sIx xs.length 0 lo)
theorem map_cut {α β:Type} (f:α->β) (xs:List α) (lo hi:Option Int):(cutA xs lo hi).map f=cutA (xs.map f) lo hi:=by
 unfold cutA;rw [List.map_take,List.map_drop,lZ]
theorem atI_map {α β:Type} {f:α->β} {xs:List α} {i:Int}:DQ (xs.map f) i=(DQ xs i).map f:=by
 unfold DQ;rw [lZ];cases Me xs.length i with
 | none=>rfl
 | some j=>show (xs.map f)[j]?=_;rw [lP];rfl
theorem Fj {xs:List Dv} {vs:List V} (lo hi:Option Int) (h:Reps K g H 0 xs vs nop):Reps K g H 0 (cutA xs lo hi) (Ex vs lo hi) nop:=by
 unfold cutA Ex;rw [h.len];exact MK _ (MM _ h)
theorem Kh {xs:List Dv} {vs:List V} {i:Int} {d:Dv} (h:Reps K g H 0 xs vs nop) (e:DQ xs i=some d):∃ v,DQ vs i=some v/\Rep K g H 0 d v nop:=by
 unfold DQ at e ⊢;rw [h.len] at e;cases q:Me vs.length i with
 | none=>rw [q] at e;cases e
 | some j =>
  rw [q] at e;obtain ⟨v,R,e1,e2,_⟩:=h.get e;exact ⟨v,e1,e2.z⟩
noncomputable def CF (C:Int->Int->Bool) (f:Int->Int->Int) (x y:Dv):Option Dv:=match x,y with | .int i,.int j=>if C i j=true then some (.int (f i j)) else none | _,_=>none
noncomputable def CZ (f:Int->Int->Bool) (x y:Dv):Option Bool:=match x,y with | .int i,.int j=>some (f i j) | _,_=>none
abbrev NS:=CF (fun _ _=>true) fun i j=>i - j
abbrev DT:=CF (fun _ j=>decide (0 < j)) fun i j=>i % j
abbrev VR:=CF (fun _ j=>decide (0 < j) && decide (j < 1073741824)) fun i j=>i / j
abbrev dP:=CF (fun i j=>decide (0<=j) && decide (j<=1000000) && decide (i.natAbs < 2 ^ 64)) fun i j=>i ^ j.toNat
abbrev jg:=CZ fun i j=>decide (i < j)
abbrev ZG:=CZ fun i j=>decide (j < i)
abbrev ka:=CZ fun i j=>decide (j<=i)
theorem Ea {α:Type} {f:Dv->Dv->Option α} {ds:List Dv} {a:α} (h:two f ds=some a):∃ x y,ds=[x,y]/\f x y=some a:=by
 unfold two at h;split at h
 ·exact ⟨_,_,rfl,h⟩
 ·cases h
theorem ER {f:Dv->Dv->Option Dv} {o:Nat} {r:R2} (h:∀ g H x y v w o1 o2 P R d Q,Zd g H->o1<=1->Rep K g H o1 x v P->o2<=1->Rep K g H o2 y w R->f x y=some d->(∀ v H',Ab K g H o d v H'->Q v H')->r v w H Q):AG K (two f) o (Hk r):=fun g H ds vs d Q zd ra e k=>by
 obtain ⟨x,y,rfl,e⟩:=Ea e;obtain ⟨v,o1,P,w,o2,R,rfl,h1,h2,h3,h4⟩:=ra.two;exact h g H x y v w o1 o2 P R d Q zd h1 h2 h3 h4 e k
theorem GU {f:Dv->Dv->Option Bool} {r:R2} (h:∀ g H x y v w o1 o2 P R b (Q:VK),Zd g H->o1<=1->Rep K g H o1 x v P->o2<=1->Rep K g H o2 y w R->f x y=some b->Q (.bl b) H->r v w H Q):AG K (fun ds=>(two f ds).map .bl) 0 (Hk r):=fun g H ds vs d Q zd ra e k=>by
 have e:(two f ds).map Dv.bl=some d:=e;cases q:two f ds with
 | none=>rw [q] at e;cases e
 | some b =>
  rw [q] at e;cases e;obtain ⟨x,y,rfl,e2⟩:=Ea q;obtain ⟨v,o1,P,w,o2,R,rfl,h1,h2,h3,h4⟩:=ra.two;exact h g H x y v w o1 o2 P R b Q zd h1 h2 h3 h4 e2 (k _ _ (Ab.bl _))
theorem JS {C:Int->Int->Bool} {C':Int->Int->Prop} {f:Int->Int->Int} {o:Nat} (hc:∀ i j,C i j=true->C' i j):AG K (two (CF C f)) o (Hk (rI C' fun i j=>.int (f i j))):=ER fun g H x y v w o1 o2 P R d Q zd _ h1 _ h2 e k=>by
 unfold CF at e;split at e
 ·split at e
  ·rename_i c;cases e;rw [rep_int h1,rep_int h2];exact ⟨_,_,rfl,rfl,hc _ _ c,k _ _ (Ab.int _)⟩
  ·cases e
 ·cases e
theorem WO {f:Int->Int->Int} {o:Nat}:AG K (two (CF (fun _ _=>true) f)) o (Hk (VY fun i j=>.int (f i j))):=ER fun g H x y v w o1 o2 P R d Q zd _ h1 _ h2 e k=>by
 unfold CF at e;split at e
 ·cases e;rw [rep_int h1,rep_int h2];exact ⟨_,_,rfl,rfl,k _ _ (Ab.int _)⟩
 ·cases e
theorem JT {f:Int->Int->Bool}:AG K (fun ds=>(two (CZ f) ds).map .bl) 0 (Hk (VY fun i j=>.bl (f i j))):=GU fun g H x y v w o1 o2 P R b Q zd _ h1 _ h2 e k=>by
 unfold CZ at e;split at e
 ·cases e;rw [rep_int h1,rep_int h2];exact ⟨_,_,rfl,rfl,k⟩
 ·cases e
noncomputable def Aq (x y:Dv):Option Dv:=match x,y with
 | .int i,.int j=>some (.int (i+j))
 | .str a,.str b=>if a.length+b.length<=1000000 then some (.str (a++b)) else none
 | .lst xs,.lst ys=>if xs.length+ys.length<=1000000 then some (.lst (xs++ys)) else none
 | .tup xs,.tup ys=>if xs.length+ys.length<=1000000 then some (.tup (xs++ys)) else none
 | _,_=>none
theorem aM:AG K (two Aq) 1 (Hk (Kl K)):=ER fun g H x y v w o1 o2 P R d Q zd l1 h1 l2 h2 e k=>by
 unfold Aq at e;split at e
 ·cases e;rw [rep_int h1,rep_int h2];exact VM (k _ _ (Ab.int _))
 ·split at e
  ·rename_i hl;cases e;rw [rep_str h1,rep_str h2];refine VJ (by rw [Bp,Bp];exact hl) ?_;rw [Lu];exact k _ _ (Ab.str _)
  ·cases e
 ·split at e
  ·rename_i hl;cases e;obtain ⟨a,us,rfl,_,hx,ha⟩:=Cs l1 h1;obtain ⟨b,ws,rfl,_,hy,hb⟩:=Cs l2 h2;exact VL ha hb (by rw [<- hx.len,<- hy.len];exact hl) fun p hp=>k _ _ (Ab.lst zd (Bo hx hy) hp)
  ·cases e
 ·split at e
  ·rename_i hl;cases e;obtain ⟨a,us,rfl,ha,hx,ha'⟩:=Du l1 h1;obtain ⟨b,ws,rfl,hb,hy,hb'⟩:=Du l2 h2;have al:=Bo hx hy
   by_cases hu:us=[]
   ·subst hu;exact .inr ⟨a,b,ws,rfl,rfl,ha,hb,k _ _ (Ab.old (Dl (lJ 1) hb' al))⟩
   ·refine .inl (.inr (.inr (.inr ⟨a,b,us,ws,rfl,rfl,ha,hb,hu,by rw [<- hx.len,<- hy.len];exact lR hl (by decide),fun hw=>?_,fun _ p hp=>k _ _ (Ab.tup (lJ 1) hp al)⟩)));subst hw;rw [mU] at al;exact k _ _ (Ab.old (Dl (lJ 1) ha' al))
  ·cases e
 ·cases e
noncomputable def big (i:Int):Bool:=decide (-(2 ^ 64) < i) && decide (i < 2 ^ 64)
def Dz (x y:Dv):Option Dv:=match x,y with
 | .int i,.int j=>if (big i || big j)=true then some (.int (i * j)) else none
 | .lst xs,.int k=>if xs.length * k.toNat<=1000000/\k < 1000000/\-1000000 < k then some (.lst (List.replicate k.toNat xs).flatten) else none
 | .tup xs,.int k=>if xs≠[]/\1<=k/\k < 1000000/\xs.length * k.toNat<=1000000 then some (.tup (List.replicate k.toNat xs).flatten) else none
 | _,_=>none
theorem aG:AG K (two Dz) 1 (Hk (fun x y H Q=>(rI YC fun i j=>.int (i * j)) x y H Q\/fH x y H Q\/L4.rRepT x y H Q)):=ER fun g H x y v w o1 o2 P R d Q zd l1 h1 l2 h2 e k=>by
 unfold Dz at e;split at e
 ·split at e
  ·rename_i c;cases e;rw [rep_int h1,rep_int h2];refine .inl ⟨_,_,rfl,rfl,?_,k _ _ (Ab.int _)⟩;rw [oJ] at c;unfold big at c;rw [lB,lB,decide_eq_true_eq,decide_eq_true_eq,decide_eq_true_eq,decide_eq_true_eq] at c;exact c
  ·cases e
 ·split at e
  ·rename_i hl;cases e;obtain ⟨a,us,rfl,ha,hx,ha'⟩:=Cs l1 h1;rw [rep_int h2];exact .inr (.inl ⟨a,_,us,rfl,rfl,ha',by omega,by omega,by rw [<- hx.len];exact lR hl.1 (by decide),fun p hp=>k _ _ (Ab.lst zd (Fh hx _) hp)⟩)
  ·cases e
 ·split at e
  ·rename_i hl;cases e;obtain ⟨a,us,rfl,ha,hx,ha'⟩:=Du l1 h1;rw [rep_int h2];refine .inr (.inr ⟨a,_,us,rfl,rfl,ha',?_,hl.2.1,by omega,by rw [<- hx.len];exact hl.2.2.2,fun z=>?_,fun _ p hp=>k _ _ (Ab.tup (lJ 1) hp (Fh hx _))⟩)
   ·intro z;have:=hx.len;rw [z] at this;exact hl.1 (mI this)
   ·subst z;have:∀ (l:List Dv),(List.replicate (Int.toNat 1) l).flatten=l:=fun l=>by simp
    rw [this] at k;exact k _ _ (Ab.old (Dl (lJ 1) ha' hx))
  ·cases e
 ·cases e
noncomputable def Ao (x:Dv):Option Dv:=match x with
 | .str l=>if l.length<=1000000 then some (.int l.length) else none
 | .lst xs=>some (.int xs.length)
 | .tup xs=>some (.int xs.length)
 | .scr ns=>some (.int ns.length)
 | .dct ks _=>some (.int ks.length)
 | _=>none
theorem Sy {α:Type} {f:Dv->Option α} {ds:List Dv} {a:α} (h:one f ds=some a):∃ x,ds=[x]/\f x=some a:=by
 unfold one at h;split at h
 ·exact ⟨_,rfl,h⟩
 ·cases h
theorem DI {f:Dv->Option Dv} {o:Nat} {r:Ou} (h:∀ g H x v o1 P d Q,Zd g H->o1<=1->Rep K g H o1 x v P->f x=some d->(∀ v H',Ab K g H o d v H'->Q v H')->r [v] H Q):AG K (one f) o r:=fun g H ds vs d Q zd ra e k=>by
 obtain ⟨x,rfl,e⟩:=Sy e;obtain ⟨v,o1,P,rfl,h1,h2⟩:=ra.one;exact h g H x v o1 P d Q zd h1 h2 e k
theorem aH {o:Nat}:AG K (one Ao) o (fun xs H Q=>PV K xs H Q\/YV xs H Q):=DI fun g H x v o1 P d Q zd l1 h1 e k=>by
 unfold Ao at e;split at e
 ·split at e
  ·rename_i l hl;cases e;rw [rep_str h1];refine .inl (QD (by rw [Bp];exact hl) ?_);rw [Bp];exact k _ _ (Ab.int _)
  ·cases e
 ·cases e;obtain ⟨a,us,rfl,ha,hx,ha'⟩:=Cs l1 h1;refine .inl (Wv ha' ?_);rw [<- hx.len];exact k _ _ (Ab.int _)
 ·cases e;obtain ⟨a,us,rfl,ha,hx,ha'⟩:=Du l1 h1;refine .inl ⟨_,_,rfl,.inr ⟨us,ha,rfl⟩,?_⟩;rw [<- hx.len];exact k _ _ (Ab.int _)
 ·cases e;obtain ⟨a,rfl,ha⟩:=Kb h1;refine .inl (TN ha ?_);rw [lZ];exact k _ _ (Ab.int _)
 ·cases e;obtain ⟨a,us,rfl,ha,hl,hx⟩:=XM h1;refine .inr ⟨a,_,rfl,ha,?_⟩;rename_i ks xs;have:(ks.zip us).length=ks.length:=by rw [List.length_zip,hl,hx.len,oC]
  rw [this];exact k _ _ (Ab.int _)
 ·cases e
def AA (x y:Dv):Option Dv:=match x,y with
 | .lst xs,.int i=>DQ xs i
 | .tup xs,.int i=>DQ xs i
 | .scr ns,.int i=>(DQ ns i).map .int
 | .str l,.int i=>if l.length<=1000000 then (DQ l i).map fun c=>.str [c] else none
 | .dct ks ds,k=>(IX k).bind fun k=>GB k ks ds
 | _,_=>none
theorem aK:AG K (two AA) 0 (Hk fun x y H Q=>Zv K x y H Q\/kO x y H Q):=ER fun g H x y v w o1 o2 P R d Q zd l1 h1 l2 h2 e k=>by
 unfold AA at e;split at e
 ·obtain ⟨a,us,rfl,ha,hx,ha'⟩:=Cs l1 h1;rw [rep_int h2];obtain ⟨u,e2,h3⟩:=Kh hx e;exact .inl (Vy ha' e2 (k _ _ (Ab.old h3)))
 ·obtain ⟨a,us,rfl,ha,hx,ha'⟩:=Du l1 h1;rw [rep_int h2];obtain ⟨u,e2,h3⟩:=Kh hx e;exact .inl (.inr (.inl ⟨a,us,_,u,rfl,rfl,ha,e2,k _ _ (Ab.old h3)⟩))
 ·rename_i ns i;obtain ⟨a,rfl,ha⟩:=Kb h1;rw [rep_int h2];cases q:DQ ns i with
  | none=>rw [q] at e;cases e
  | some j =>
   rw [q] at e;cases e;exact .inl (Zt ha (by rw [atI_map,q];rfl) (k _ _ (Ab.int _)))
 ·rename_i l i;split at e
  ·rename_i hl;rw [rep_str h1,rep_int h2];cases q:DQ l i with
   | none=>rw [q] at e;cases e
   | some c =>
    rw [q] at e;cases e;exact .inl (Vx (by rw [Bp];exact hl) (by rw [Ng];exact q) (k _ _ (Ab.str [c])))
  ·cases e
 ·obtain ⟨kk,ek,e⟩:=bind_some' e;obtain ⟨a,us,rfl,ha,hl,hx⟩:=XM h1;obtain ⟨u,e2,h3⟩:=LV hx e;rw [Jc h2 ek];exact .inr ⟨a,u,rfl,e2▸Hv.k ha,k _ _ (Ab.old h3)⟩
 ·cases e
def KD (x:Dv) (lo hi:Option Int):Option Dv:=match x with
 | .str l=>if l.length<=1000000 then some (.str (QY l lo hi)) else none
 | .lst xs=>some (.lst (cutA xs lo hi))
 | .tup xs=>some (.tup (cutA xs lo hi))
 | .scr ns=>some (.lst ((cutA ns lo hi).map .int))
 | _=>none
theorem fU (lo hi:Option Int):AG K (one fun d=>KD d lo hi) 1 (iI fun x H Q=>PU K x lo hi H Q):=DI fun g H x v o1 P d Q zd l1 h1 e k=>by
 show PU K v lo hi H Q;cases x with
 | str l =>
  simp only [KD.eq_def] at e;split at e
  ·rename_i hl;cases e;rw [rep_str h1];refine Vn (by rw [Bp];exact hl) ?_;rw [RX];exact k _ _ (Ab.str _)
  ·cases e
 | lst xs =>
  cases e;obtain ⟨a,us,rfl,ha,hx,ha'⟩:=Cs l1 h1;exact Vo ha' fun p hp=>k _ _ (Ab.lst zd (Fj lo hi hx) hp)
 | tup xs =>
  cases e;obtain ⟨a,us,rfl,ha,hx,ha'⟩:=Du l1 h1;have al:=Fj lo hi hx
  by_cases w:HT.sIx us.length 0 lo=0/\HT.sIx us.length us.length hi=us.length
  ·refine .inr ⟨a,us,rfl,ha,w,k _ _ (Ab.old ?_)⟩;have ec:Ex us lo hi=us:=by unfold Ex;rw [w.1,w.2];simp
   rw [ec] at al;exact Dl (lJ 1) ha' al
  ·exact .inl (.inr (.inr ⟨a,us,rfl,ha,w,fun p hp=>k _ _ (Ab.tup (lJ 1) hp al)⟩))
 | scr ns =>
  cases e;obtain ⟨a,rfl,ha⟩:=Kb h1;refine Ze ha fun p hp=>k _ _ (Ab.lst zd ?_ hp)
  rw [map_cut];exact Fj lo hi (EN ns)
 | _=>cases e
end
mutual
noncomputable def toD:Dv->L3.D
 | .bl b=>.fl (.bl b)
 | .int i=>.fl (.int i)
 | .str l=>.fl (.str (tx l))
 | .tup xs=>.tup (toDs xs)
 | .lst xs=>.lst (toDs xs)
 | _=>.fl .non
noncomputable def toDs:List Dv->List L3.D
 | []=>[]
 | d::ds=>toD d::toDs ds
end
mutual
noncomputable def Dv.cmp:Dv->Bool
 | .non | .bl _ | .int _ | .str _=>true
 | .tup xs=>Ah xs
 | .lst xs=>Ah xs
 | _=>false
noncomputable def Ah:List Dv->Bool
 | []=>true
 | d::ds=>d.cmp && Ah ds
end
mutual
noncomputable def Dv.dep:Dv->Nat
 | .tup xs=>BE xs+1
 | .lst xs=>BE xs+1
 | _=>0
noncomputable def BE:List Dv->Nat
 | []=>0
 | d::ds=>max d.dep (BE ds)
end
mutual
noncomputable def eqV:Dv->Dv->Bool
 | .non,.non=>true
 | .bl a,.bl b=>a == b
 | .bl a,.int b=>(if a then 1 else 0) == b
 | .int a,.bl b=>a == (if b then 1 else 0)
 | .int a,.int b=>a == b
 | .str a,.str b=>a == b
 | .tup xs,.tup ys=>eqVs xs ys
 | .lst xs,.lst ys=>eqVs xs ys
 | _,_=>false
noncomputable def eqVs:List Dv->List Dv->Bool
 | [],[]=>true
 | x::xs,y::ys=>eqV x y && eqVs xs ys
 | _,_=>false
end
mutual
theorem LQ:∀ (d e:Dv),d.cmp=true->e.cmp=true->L3.eqD (toD d) (toD e)=eqV d e
 | .non,e,h,k | .bl _,e,h,k | .int _,e,h,k=>by cases e<;>first | (unfold toD L3.eqD eqV;rfl) | (unfold Dv.cmp at k;cases k)
 | .str l,e,h,k=>by
  cases e with
  | str m=>unfold toD L3.eqD eqV;rw [L2.eqV_str];exact (Bool.beq_eq_decide_eq l m).symm
  | _=>first | (unfold toD L3.eqD eqV;rfl) | (unfold Dv.cmp at k;cases k)
 | .tup xs,e,h,k=>by
  cases e with
  | tup ys=>unfold toD L3.eqD eqV;unfold Dv.cmp at h k;exact Mv xs ys h k
  | _=>first | (unfold toD L3.eqD eqV;rfl) | (unfold Dv.cmp at k;cases k)
 | .lst xs,e,h,k=>by
  cases e with
  | lst ys=>unfold toD L3.eqD eqV;unfold Dv.cmp at h k;exact Mv xs ys h k
  | _=>first | (unfold toD L3.eqD eqV;rfl) | (unfold Dv.cmp at k;cases k)
 | .dct _ _,e,h,k | .ref _,e,h,k | .scr _,e,h,k | .ty _,e,h,k | .mtp _,e,h,k | .dti _,e,h,k=>by unfold Dv.cmp at h;cases h
theorem Mv:∀ (d e:List Dv),Ah d=true->Ah e=true->L3.eqDs (toDs d) (toDs e)=eqVs d e
 | [],[],_,_=>by unfold toDs L3.eqDs eqVs;rfl
 | [],_::_,_,_=>by simp only [toDs,L3.eqDs,eqVs]
 | _::_,[],_,_=>by simp only [toDs,L3.eqDs,eqVs]
 | x::xs,y::ys,h,k=>by
  unfold Ah at h k;rw [lB] at h k;simp only [toDs,L3.eqDs,eqVs];rw [LQ x y h.1 k.1,Mv xs ys h.2 k.2]
end
mutual
theorem dep_D:∀ (d:Dv),(toD d).dep=d.dep
 | .non | .bl _ | .int _ | .str _ | .dct _ _ | .ref _ | .scr _ | .ty _ | .mtp _ | .dti _=>by unfold toD L3.D.dep Dv.dep;rfl
 | .tup xs=>by unfold toD L3.D.dep Dv.dep;rw [deps_D xs]
 | .lst xs=>by unfold toD L3.D.dep Dv.dep;rw [deps_D xs]
theorem deps_D:∀ (d:List Dv),L3.depL (toDs d)=BE d
 | []=>by unfold toDs L3.depL BE;rfl
 | x::xs=>by simp only [toDs,L3.depL,BE];rw [dep_D x,deps_D xs]
end
section
variable {K:W.Frag} {g:G} {H:Hp}
mutual
theorem Rep.is:∀ {o:Nat} {d:Dv} {v:V} {P:Fp},Rep K g H o d v P->d.cmp=true->L3.Is K H v (toD d)
 | _,.non,v,P,h,_=>by rw [rep_non h];unfold toD L3.Is;exact ⟨rfl,rfl⟩
 | _,.bl b,v,P,h,_=>by rw [rep_bl h];unfold toD L3.Is;exact ⟨rfl,rfl⟩
 | _,.int i,v,P,h,_=>by rw [rep_int h];unfold toD L3.Is;exact ⟨rfl,rfl⟩
 | _,.str l,v,P,h,_=>by rw [rep_str h];unfold toD L3.Is;exact ⟨rfl,rfl⟩
 | _,.tup xs,v,P,h,c=>by
  unfold Rep at h;obtain ⟨a,vs,rfl,h1,h2⟩:=h;unfold Dv.cmp at c;unfold toD L3.Is;exact ⟨a,vs,rfl,.inl (.inl h1),Reps.isL h2 c⟩
 | _,.lst xs,v,P,h,c=>by
  unfold Rep at h;obtain ⟨a,vs,P',rfl,h1,h2,_⟩:=h;unfold Dv.cmp at c;unfold toD L3.Is;exact ⟨a,vs,rfl,.inl (.inl h1.1),Reps.isL h2 c⟩
 | _,.dct _ _,v,P,h,c | _,.ref _,v,P,h,c | _,.scr _,v,P,h,c | _,.ty _,v,P,h,c | _,.mtp _,v,P,h,c | _,.dti _,v,P,h,c=>by unfold Dv.cmp at c;cases c
theorem Reps.isL:∀ {o:Nat} {d:List Dv} {v:List V} {P:Fp},Reps K g H o d v P->Ah d=true->L3.IsL K H v (toDs d)
 | _,[],v,P,h,_=>by
  unfold Reps at h;obtain ⟨rfl,_⟩:=h;unfold toDs L3.IsL
  trivial
 | _,x::xs,v,P,h,c=>by
  unfold Reps at h;obtain ⟨u,r,P1,P2,rfl,h1,h2,_⟩:=h;unfold Ah at c;rw [lB] at c;unfold toDs L3.IsL;exact ⟨Rep.is h1 c.1,Reps.isL h2 c.2⟩
end
def NP (neg:Bool) (x y:Dv):Option Bool:=if (x.cmp && y.cmp && decide (x.dep<=150))=true then some (if neg then !eqV x y else eqV x y) else none
abbrev Dy:=NP false
abbrev RB:=NP true
theorem Sf {neg:Bool}:AG K (fun ds=>(two (NP neg) ds).map .bl) 0 (Hk (L3.rEqA K neg)):=GU fun g H x y v w o1 o2 P R b Q zd _ h1 _ h2 e k=>by
 unfold NP at e;split at e
 ·rename_i c;cases e;rw [lB,lB,decide_eq_true_eq] at c;refine ⟨toD x,toD y,by rw [dep_D];exact c.2,h1.is c.1.1,h2.is c.1.2,?_⟩;rw [LQ x y c.1.1 c.1.2];exact k
 ·cases e
noncomputable def iL:Dv->Option (List Dv)
 | .lst xs=>some xs
 | .tup xs=>some xs
 | .mtp ls=>some (ls.map .str)
 | _=>none
def JZ (e:Dv) (ds:List Dv):Bool:=ds.any fun d=>eqV d e
def Jy (neg:Bool) (e s:Dv):Option Bool:=match e,s with
 | .str x,.str l=>some (if neg then !Q.sub1 x l else Q.sub1 x l)
 | e,.dct ks ds=>(IX e).bind fun k=>some (if neg then !(GB k ks ds).isSome else (GB k ks ds).isSome)
 | e,s=>match iL s with
  | some xs=>if (e.cmp && Ah xs && decide (BE xs<=150))=true then some (if neg then !JZ e xs else JZ e xs) else none
  | none=>none
abbrev iU:=Jy false
abbrev NO:=Jy true
theorem anyD (e:Dv) (he:e.cmp=true):∀ (ds:List Dv),Ah ds=true->((toDs ds).any fun d=>L3.eqD d (toD e))=JZ e ds
 | [],_=>by unfold toDs JZ;rfl
 | d::ds,h=>by
  unfold Ah at h;rw [lB] at h;unfold JZ;simp only [toDs,me];rw [LQ d e h.1 he,anyD e he ds h.2];rfl
theorem ML (ls:List (List Nat)):Reps K g H 0 (ls.map .str) (ls.map fun l=>V.str (tx l)) nop:=CY.mpr ⟨by simp,fun i d v e1 e2=>by
 rw [lP] at e1 e2;cases q:ls[i]? with
 | none=>rw [q] at e1;cases e1
 | some k=>rw [q] at e1 e2;cases e1;cases e2;unfold Rep;exact ⟨rfl,fun _ z=>z⟩⟩
theorem Se {neg:Bool}:AG K (fun ds=>(two (Jy neg) ds).map .bl) 0 (Hk fun x y H q=>Q.rInQ K neg x y H q\/Zx neg x y H q):=GU fun g H x y v w o1 o2 P R b Q zd l1 h1 l2 h2 e k=>by
  unfold Jy at e;split at e
  · cases e;rw [rep_str h1,rep_str h2];exact .inl (.inl ⟨_,_,rfl,rfl,k⟩)
  · obtain ⟨kk,ek,e⟩:=bind_some' e;cases e;obtain ⟨a,us,rfl,ha,hl,hx⟩:=XM h2;rw [Jc h1 ek];refine .inr ⟨a,_,rfl,Hv.k ha,?_⟩;rw [Il hl hx.len];exact k
  · rename_i a s _;split at e
    · rename_i xs es;split at e
      · rename_i c;cases e;rw [lB,lB,decide_eq_true_eq] at c;have go:∀ p ys,w=.ref p->(CQ K H p ys\/EC K H p ys)->Reps K g H 0 xs ys nop->L3.rInA K neg v w H Q:=by
          rintro p ys rfl hs hr;refine ⟨p,ys,toDs xs,toD x,rfl,hs,hr.isL c.1.2,h1.is c.1.1,by rw [deps_D];exact c.2,?_⟩;rw [anyD x c.1.1 xs c.1.2];exact k
        cases y with
        | lst ys =>
          cases es;obtain ⟨p,us,rfl,ha,hx,_⟩:=Cs l2 h2;exact .inl (.inr (go p us rfl (.inl ha) hx))
        | tup ys =>
          cases es;obtain ⟨p,us,rfl,ha,hx,_⟩:=Du l2 h2;exact .inl (.inr (go p us rfl (.inr ha) hx))
        | mtp ls =>
          cases es;unfold Rep at h2;obtain ⟨⟨p,rfl,hm⟩,_⟩:=h2;exact .inl (.inr (go p _ rfl (.inr (.inr hm)) (ML ls)))
        | _=>cases es
      · cases e
    · cases e
noncomputable def Dv.isNon:Dv->Bool
 | .non=>true
 | _=>false
noncomputable def RC (x y:Dv):Option Bool:=match y with | .non=>some x.isNon | _=>none
theorem rep_isNon {o:Nat} {d:Dv} {v:V} {P:Fp} (h:Rep K g H o d v P):decide (v=V.non)=d.isNon:=by
 cases d with
 | non=>rw [rep_non h];rfl
 | bl b=>rw [rep_bl h];rfl
 | int b=>rw [rep_int h];rfl
 | str b=>rw [rep_str h];rfl
 | tup b=>unfold Rep at h;obtain ⟨a,vs,rfl,_⟩:=h;rfl
 | lst b=>unfold Rep at h;obtain ⟨a,vs,P',rfl,_⟩:=h;rfl
 | dct b c=>unfold Rep at h;obtain ⟨a,vs,rfl,_⟩:=h;rfl
 | ref k=>unfold Rep at h;obtain ⟨⟨a,_,rfl⟩,_⟩:=h;rfl
 | scr ns=>obtain ⟨a,rfl,_⟩:=Kb h;rfl
 | ty n=>unfold Rep at h;rw [h.1];rfl
 | mtp n=>unfold Rep at h;obtain ⟨⟨a,rfl,_⟩,_⟩:=h;rfl
 | dti n=>unfold Rep at h;obtain ⟨a,rfl,_⟩:=h;rfl
theorem aJ:AG K (fun ds=>(two RC ds).map .bl) 0 (Hk (fun x y H Q=>y=.non/\Q (.bl (decide (x=.non))) H)):=GU fun g H x y v w o1 o2 P R b Q zd _ h1 _ h2 e k=>by
 unfold RC at e;split at e
 ·cases e;exact ⟨rep_non h2,by rw [rep_isNon h1];exact k⟩
 ·cases e
end
noncomputable def Oz:List Dv->Option (List Bool)
 | []=>some []
 | .bl b::ds=>(Oz ds).map (b::·)
 | _=>none
noncomputable def GH:List Dv->Option (List Int)
 | []=>some []
 | .int b::ds=>(GH ds).map (b::·)
 | _=>none
noncomputable def IB:List Dv->Option (List (List Nat))
 | []=>some []
 | .str b::ds=>(IB ds).map (b::·)
 | _=>none
section
variable {K:W.Frag} {g:G} {H:Hp}
theorem KM:∀ {ds:List Dv} {bs:List Bool} {vs:List V},Reps K g H 0 ds vs nop->Oz ds=some bs->vs=bs.map V.bl
 | [],bs,vs,h,e=>by cases e;exact BL h
 | d::ds,bs,vs,h,e=>by
  obtain ⟨v,r,rfl,h1,h2⟩:=BO h;cases d<;>simp only [Oz,mE,reduceCtorEq] at e;obtain ⟨bs',e,rfl⟩:=e;rw [rep_bl h1,KM h2 e];rfl
theorem FF:∀ {ds:List Dv} {bs:List Int} {vs:List V},Reps K g H 0 ds vs nop->GH ds=some bs->vs=bs.map V.int
 | [],bs,vs,h,e=>by cases e;exact BL h
 | d::ds,bs,vs,h,e=>by
  obtain ⟨v,r,rfl,h1,h2⟩:=BO h;cases d<;>simp only [GH,mE,reduceCtorEq] at e;obtain ⟨bs',e,rfl⟩:=e;rw [rep_int h1,FF h2 e];rfl
theorem Hz:∀ {ds:List Dv} {bs:List (List Nat)} {vs:List V},Reps K g H 0 ds vs nop->IB ds=some bs->vs=(bs.map tx).map V.str
 | [],bs,vs,h,e=>by cases e;exact BL h
 | d::ds,bs,vs,h,e=>by
  obtain ⟨v,r,rfl,h1,h2⟩:=BO h;cases d<;>simp only [IB,mE,reduceCtorEq] at e;obtain ⟨bs',e,rfl⟩:=e;rw [rep_str h1,Hz h2 e];rfl
def Ln (x:Dv):Option Dv:=match x with | .lst xs=>(Oz xs).map fun bs=>.bl (bs.all id) | _=>none
theorem aL {o:Nat}:AG K (one Ln) o (fP K):=DI fun g H x v o1 P d Q zd l1 h1 e k=>by
 unfold Ln at e;split at e
 ·simp only [mE] at e;obtain ⟨bs,e,rfl⟩:=e;obtain ⟨p,us,rfl,ha,hx,_⟩:=Cs l1 h1;rw [KM hx e] at ha;exact ⟨p,bs,rfl,ha,k _ _ (Ab.bl _)⟩
 ·cases e
def kz (x:Dv):Option Dv:=match x with
 | .lst xs=>(GH xs).map fun ns=>.int ns.sum
 | .tup xs=>(GH xs).map fun ns=>.int ns.sum
 | _=>none
def JC (x y:Dv):Option Dv:=match x with
 | .lst xs=>match y with
  | .int d=>match GH xs with | some []=>some (.int d) | some (n::ns)=>some (.int (Q.mxI (n::ns))) | none=>none
  | _=>none
 | _=>none
theorem WJ:AG K (two JC) 1 (Hk (iQ K)):=ER fun g H x y v w o1 o2 P R d Q zd l1 h1 l2 h2 e k=>by
 unfold JC at e;split at e
 ·split at e
  ·rename_i i;obtain ⟨p,us,rfl,ha,hx,_⟩:=Cs l1 h1;split at e
   ·rename_i e1;cases e;rw [FF hx e1] at ha;refine ⟨p,[],i,rfl,rep_int h2,ha,fun M hM=>?_⟩;obtain ⟨_,rfl⟩ | ⟨hM,_⟩:=hM
    ·exact k _ _ (Ab.int _)
    ·cases hM
   ·rename_i n ns e1;cases e;rw [FF hx e1] at ha;refine ⟨p,n::ns,i,rfl,rep_int h2,ha,fun M hM=>?_⟩;obtain ⟨h0,_⟩ | ⟨hM,hall⟩:=hM
    ·cases h0
    ·obtain ⟨m1,m2⟩:=_root_.Q.mxI_spec (n::ns) (by simp);have:M=_root_.Q.mxI (n::ns):=Int.le_antisymm (m2 M hM) (hall _ m1);rw [this];exact k _ _ (Ab.int _)
   ·cases e
  ·cases e
 ·cases e
noncomputable def FB (x y:Dv):Option Dv:=match x,y with | .int i,.int j=>some (.int (if j > i then j else i)) | _,_=>none
theorem En {f:Dv->Dv->Option Dv} {o:Nat} {r:Ou} (h:∀ g H x y v w o1 o2 P R d Q,Zd g H->o1<=1->Rep K g H o1 x v P->o2<=1->Rep K g H o2 y w R->f x y=some d->(∀ v H',Ab K g H o d v H'->Q v H')->r [v,w] H Q):AG K (two f) o r:=fun g H ds vs d Q zd ra e k=>by
 obtain ⟨x,y,rfl,e⟩:=Ea e;obtain ⟨v,o1,P,w,o2,R,rfl,h1,h2,h3,h4⟩:=ra.two;exact h g H x y v w o1 o2 P R d Q zd h1 h2 h3 h4 e k
theorem WK {o:Nat}:AG K (two FB) o (fun xs H Q=>∃ i j,xs=[.int i,.int j]/\Q (.int (if j > i then j else i)) H):=En fun g H x y v w o1 o2 P R d Q zd _ h1 _ h2 e k=>by
 unfold FB at e;split at e
 ·cases e;rw [rep_int h1,rep_int h2];exact ⟨_,_,rfl,k _ _ (Ab.int _)⟩
 ·cases e
noncomputable def FC (x:Dv):Option Dv:=match x with | .int i=>some (.int i) | .bl b=>some (.int (if b then 1 else 0)) | _=>none
theorem WN {o:Nat}:AG K (one FC) o (fun xs H Q=>(∃ i,xs=[.int i]/\Q (.int i) H)\/∃ k,xs=[.bl k]/\Q (.int (if k then 1 else 0)) H):=DI fun g H x v o1 P d Q zd l1 h1 e k=>by
 unfold FC at e;split at e
 ·cases e;rw [rep_int h1];exact .inl ⟨_,rfl,k _ _ (Ab.int _)⟩
 ·cases e;rw [rep_bl h1];exact .inr ⟨_,rfl,k _ _ (Ab.int _)⟩
 ·cases e
noncomputable def AI (x:Dv):Option Dv:=match x with | .lst xs=>some (.tup xs) | .tup xs=>some (.tup xs) | _=>none
theorem Sb:AG K (one AI) 1 (Kk K):=DI fun g H x v o1 P d Q zd l1 h1 e k=>by
 unfold AI at e;split at e
 ·cases e;obtain ⟨p,us,rfl,ha,hx,_⟩:=Cs l1 h1;exact ⟨p,us,rfl,.inl ⟨ha,fun l hl=>k _ _ (Ab.tup (lJ 1) hl hx)⟩⟩
 ·cases e;obtain ⟨p,us,rfl,ha,hx,ha'⟩:=Du l1 h1;exact ⟨p,us,rfl,.inr ⟨ha,k _ _ (Ab.old (Dl (lJ 1) ha' hx))⟩⟩
 ·cases e
noncomputable def Lm (x:Dv):Option Dv:=match x with | .lst xs=>some (.lst xs) | .tup xs=>some (.lst xs) | .scr ns=>some (.lst (ns.map .int)) | _=>none
theorem WL:AG K (one Lm) 1 (OA K):=DI fun g H x v o1 P d Q zd l1 h1 e k=>by
 unfold Lm at e;split at e
 ·cases e;obtain ⟨p,us,rfl,ha,hx,_⟩:=Cs l1 h1;exact ⟨p,us,rfl,.inl ha,fun l hl=>k _ _ (Ab.lst zd hx hl)⟩
 ·cases e;obtain ⟨p,us,rfl,ha,hx,_⟩:=Du l1 h1;exact ⟨p,us,rfl,.inr ha,fun l hl=>k _ _ (Ab.lst zd hx hl)⟩
 ·cases e;obtain ⟨p,rfl,ha⟩:=Kb h1;exact ⟨p,_,rfl,.inl ha,fun l hl=>k _ _ (Ab.lst zd (EN _) hl)⟩
 ·cases e
def Hg (x y:Dv):Option Dv:=match x,y with
 | .str sep,.lst xs=>match IB xs with
  | some ys=>if (ys.map List.length).sum+ys.length * sep.length<=1000000 then some (.str (jn sep ys)) else none
  | none=>none
 | _,_=>none
theorem WM {o:Nat}:AG K (two Hg) o (dU (SU K)):=En fun g H x y v w o1 o2 P R d Q zd l1 h1 l2 h2 e k=>by
 unfold Hg at e;split at e
 ·split at e
  ·rename_i sep xs _ ys e1;split at e
   ·rename_i hz;cases e;obtain ⟨a,us,rfl,ha,hx,_⟩:=Cs l2 h2;rw [rep_str h1];rw [Hz hx e1] at ha;refine ⟨tx sep,a,ys.map tx,rfl,rfl,ha,?_,?_⟩
    ·rw [ZQ,lZ,Bp];exact lR hz (by decide)
    ·rw [dk];exact k _ _ (Ab.str _)
   ·cases e
  ·cases e
 ·cases e
noncomputable def EX (x:Dv):Option Dv:=match x with
 | .str l=>if (l.all (fun c=>decide (c < 128)) && decide (l.length<=1000000))=true then some (.str (l.map PyProof.Rows.up1)) else none
 | _=>none
theorem Sa {o:Nat}:AG K (one EX) o (dU SQ):=DI fun g H x v o1 P d Q zd l1 h1 e k=>by
 unfold EX at e;split at e
 ·split at e
  ·rename_i l c;cases e;rw [lB,decide_eq_true_eq,lx] at c;rw [rep_str h1];exact ⟨l,rfl,rfl,fun x hx=>of_decide_eq_true (c.1 x hx),c.2,k _ _ (Ab.str _)⟩
  ·cases e
 ·cases e
def ET (e:Dv):List Dv->Option Nat
 | []=>none
 | d::ds=>if eqV d e=true then some 0 else (ET e ds).map (·+1)
theorem Ic (e:Dv):∀ (ds:List Dv) (j:Nat),ET e ds=some j->(∃ d,ds[j]?=some d/\eqV d e=true)/\∀ (i:Nat) (d:Dv),i < j->ds[i]?=some d->eqV d e=false
 | [],j,h=>by cases h
 | d::ds,j,h=>by
  unfold ET at h;split at h
  ·rename_i c;cases h;exact ⟨⟨d,rfl,c⟩,fun i d hi=>by omega⟩
  ·rename_i c;simp only [mE] at h;obtain ⟨k,hk,rfl⟩:=h;obtain ⟨h1,h2⟩:=Ic e ds k hk;refine ⟨by simpa using h1,fun i d' hi hd=>?_⟩;cases i with
   | zero=>simp at hd;subst hd;simpa using c
   | succ i=>exact h2 i d' (by omega) (by simpa using hd)
theorem toDs_get:∀ (ds:List Dv) (i:Nat),(toDs ds)[i]?=(ds[i]?).map toD
 | [],i=>by unfold toDs;simp
 | d::ds,0=>by unfold toDs;simp
 | d::ds,i+1=>by
  have:=toDs_get ds i;simp only [toDs,oT];exact this
theorem IC {ds:List Dv} (h:Ah ds=true):∀ {i:Nat} {d:Dv},ds[i]?=some d->d.cmp=true:=by
 induction ds with
 | nil=>intro i d e;simp at e
 | cons x xs ih =>
  unfold Ah at h;rw [lB] at h;intro i d e;cases i with
  | zero=>simp at e;subst e;exact h.1
  | succ i=>exact ih h.2 (i:=i) (by simpa using e)
theorem TY {e:Dv} {ds:List Dv} {j:Nat} (he:e.cmp=true) (hd:Ah ds=true) (h:ET e ds=some j) :
    (∃ d,(toDs ds)[j]?=some d/\L3.eqD d (toD e)=true)/\∀ (m:Nat) (d:L3.D),m < j->(toDs ds)[m]?=some d->L3.eqD d (toD e)=false:=by
  obtain ⟨⟨d,h1,h2⟩,h3⟩:=Ic e ds j h;refine ⟨⟨toD d,by rw [toDs_get,h1];rfl,by rw [LQ d e (IC hd h1) he];exact h2⟩,fun m d' hm hd'=>?_⟩;rw [toDs_get] at hd';cases q:ds[m]? with
  | none=>rw [q] at hd';cases hd'
  | some dm =>
    rw [q] at hd';cases hd';rw [LQ dm e (IC hd q) he];exact h3 m dm hm q
def Bu (x e:Dv):Option Dv:=match x with
 | .lst xs=>if (e.cmp && Ah xs && decide (BE xs<=150))=true then (ET e xs).map fun j=>.int (j:Nat) else none
 | _=>none
theorem Sd {o:Nat}:AG K (two Bu) o (dU (Q.rIndexD K)):=En fun g H x y v w o1 o2 P R d Q zd l1 h1 l2 h2 e k=>by
 unfold Bu at e;split at e
 ·split at e
  ·rename_i xs c;rw [lB,lB,decide_eq_true_eq] at c;simp only [mE] at e;obtain ⟨j,e1,rfl⟩:=e;obtain ⟨p,us,rfl,ha,hx,_⟩:=Cs l1 h1;obtain ⟨q1,q2⟩:=TY c.1.1 c.1.2 e1;exact ⟨p,us,w,toDs xs,toD y,j,rfl,rfl,ha,hx.isL c.1.2,h2.is c.1.1,by rw [deps_D];exact c.2,q1,q2,k _ _ (Ab.int _)⟩
  ·cases e
 ·cases e
def Bn (x e:Dv):Option Dv:=match x with
 | .tup xs=>if (e.cmp && Ah xs && decide (BE xs<=150))=true then (ET e xs).map fun j=>.int (j:Nat) else none
 | _=>none
theorem PY {o:Nat}:AG K (two Bn) o (dU (Q.rIndexTD K)):=En fun g H x y v w o1 o2 P R d Q zd l1 h1 l2 h2 e k=>by
 unfold Bn at e;split at e
 ·split at e
  ·rename_i xs c;rw [lB,lB,decide_eq_true_eq] at c;simp only [mE] at e;obtain ⟨j,e1,rfl⟩:=e;obtain ⟨p,us,rfl,_,hx,ha⟩:=Du l1 h1;obtain ⟨q1,q2⟩:=TY c.1.1 c.1.2 e1;exact ⟨p,us,w,toDs xs,toD y,j,rfl,rfl,ha,hx.isL c.1.2,h2.is c.1.1,by rw [deps_D];exact c.2,q1,q2,k _ _ (Ab.int _)⟩
  ·cases e
 ·cases e
noncomputable def TU:Dv->Option String
 | .non=>some "NoneType"
 | .bl _=>some "bool"
 | .int _=>some "int"
 | .str _=>some "str"
 | .tup _=>some "tuple"
 | .lst _=>some "list"
 | _=>none
noncomputable def iN:List Dv->Option (List String)
 | []=>some []
 | .ty T::xs=>(iN xs).map (T::·)
 | _=>none
noncomputable def Sz (T:String):Bool:=["int", "bool", "str", "tuple", "list"].contains T
def EA (x y:Dv):Option Dv:=match y with
 | .ty T=>if Sz T=true then (TU x).map fun k=>.bl (Q.isSub k T) else none
 | .tup ts=>(iN ts).bind fun Ts=>if Ts.all Sz=true then (TU x).map fun k=>.bl (Ts.any (Q.isSub k)) else none
 | _=>none
theorem OM (K:W.Frag) {k:String} (hk:k∈["NoneType", "bool", "int", "str", "tuple", "list"]):∀ {Ts:List String},Ts.all Sz=true->W.kitAny K (.type k) (Ts.map Value.type)=some (Ts.any (_root_.Q.isSub k))
 | [],_=>rfl
 | T::Ts,h=>by
  rw [mL,lB] at h
  have hT:T∈["int", "bool", "str", "tuple", "list"]:=by have:=h.1;unfold Sz at this;simpa using this
  rw [lI];unfold W.kitAny;rw [_root_.Q.kit_ok K hk hT,me];cases _root_.Q.isSub k T with
  | true=>rfl
  | false=>exact OM K hk h.2
theorem Nf:∀ {ts:List Dv} {Ts:List String} {us:List V} {P:Fp},Reps K g H 0 ts us P->iN ts=some Ts->us=Ts.map V.ty
 | [],Ts,us,P,h,e=>by cases e;unfold Reps at h;exact h.1
 | .ty T::ts,Ts,us,P,h,e=>by
  unfold iN at e;rw [mE] at e;obtain ⟨Ts',e1,rfl⟩:=e;unfold Reps at h;obtain ⟨v,vs,R,S,rfl,h1,h2,_⟩:=h;rw [Nf h2 e1];unfold Rep at h1;rw [h1.1];rfl
 | .non::_,_,_,_,_,e | .bl _::_,_,_,_,_,e | .int _::_,_,_,_,_,e | .str _::_,_,_,_,_,e | .tup _::_,_,_,_,_,e | .lst _::_,_,_,_,_,e | .dct _ _::_,_,_,_,_,e | .ref _::_,_,_,_,_,e | .scr _::_,_,_,_,_,e | .mtp _::_,_,_,_,_,e | .dti _::_,_,_,_,_,e=>by cases e
theorem ON {o:Nat} {x:Dv} {v:V} {P:Fp} {kd:String} (l1:o<=1) (h1:Rep K g H o x v P) (e:TU x=some kd):TyOf K H v (.type kd)/\kd∈["NoneType", "bool", "int", "str", "tuple", "list"]:=by
 cases x with
 | non=>cases e;rw [rep_non h1];exact ⟨.non,by simp⟩
 | bl b=>cases e;rw [rep_bl h1];exact ⟨.bl _,by simp⟩
 | int b=>cases e;rw [rep_int h1];exact ⟨.int _,by simp⟩
 | str b=>cases e;rw [rep_str h1];exact ⟨.str _,by simp⟩
 | tup b=>cases e;obtain ⟨p,us,rfl,_,_,ha⟩:=Du l1 h1;exact ⟨.tup ha,by simp⟩
 | lst b=>cases e;obtain ⟨p,us,rfl,_,_,ha⟩:=Cs l1 h1;exact ⟨.lst ha,by simp⟩
 | _=>cases e
theorem aI {o:Nat}:AG K (two EA) o (fun xs H Q=>fM K xs H Q\/YW K xs H Q):=En fun g H x y v w o1 o2 P R d Q zd l1 h1 l2 h2 e k=>by
 unfold EA at e;split at e
 ·rename_i T;split at e
  ·rename_i c
   have hT:T∈["int", "bool", "str", "tuple", "list"]:=by unfold Sz at c;simpa using c
   have hw:w=.ty T:=by unfold Rep at h2;exact h2.1
   subst hw;rw [mE] at e;obtain ⟨kd,e1,rfl⟩:=e;obtain ⟨ty,hk⟩:=ON l1 h1 e1;exact .inl ⟨v,T,.type kd,_,rfl,ty,_root_.Q.kit_ok K hk hT,k _ _ (Ab.bl _)⟩
  ·cases e
 ·rename_i ts;obtain ⟨Ts,e0,e⟩:=my.mp e;split at e
  ·rename_i c;rw [mE] at e;obtain ⟨kd,e1,rfl⟩:=e;obtain ⟨ty,hk⟩:=ON l1 h1 e1;obtain ⟨p,us,rfl,ha,hx,_⟩:=Du l2 h2;rw [Nf hx e0] at ha;refine .inr ⟨v,p,Ts,.type kd,_,rfl,ha,ty,⟨kd,rfl,?_,?_⟩,OM K hk c,k _ _ (Ab.bl _)⟩
   ·rintro rfl;simp at hk
   ·rintro rfl;simp at hk
  ·cases e
 ·cases e
end
end R
namespace L3
open PySem PySem.Spec PyProof.Rows L2
mutual
noncomputable def D.py:D->PyData
 | .fl .non=>.none
 | .fl (.bl b)=>.bool b
 | .fl (.int i)=>.int i
 | .fl (.str x)=>.str x
 | .fl _=>.none
 | .tup ds=>.tuple (JR ds)
 | .lst ds=>.list (JR ds)
noncomputable def JR:List D->List PyData
 | []=>[]
 | d::ds=>d.py::JR ds
end
mutual
noncomputable def D.rok:D->Bool
 | .fl .non=>true
 | .fl (.bl _)=>true
 | .fl (.int i)=>decide (i.natAbs < 10 ^ 18)
 | .fl (.str x)=>x.cps.toList.all fun c=>decide (c < 16 ^ 8)
 | .fl _=>false
 | .tup ds=>rokL ds
 | .lst ds=>rokL ds
noncomputable def rokL:List D->Bool
 | []=>true
 | d::ds=>d.rok && rokL ds
end
mutual
noncomputable def D.wt:D->Nat
 | .fl (.str x)=>10 * x.length+2
 | .fl _=>20
 | .tup ds=>wtL ds+3
 | .lst ds=>wtL ds+3
noncomputable def wtL:List D->Nat
 | []=>0
 | d::ds=>d.wt+2+wtL ds
end
theorem Mb {n:Nat} (h:n < 10 ^ 18):n.log2 < 1920:=by
 by_cases h0:n=0
 ·rw [h0];decide
 ·exact Nat.lt_trans ((Nat.log2_lt h0).mpr (Nat.lt_trans h (by decide:10 ^ 18 < 2 ^ 64))) (by decide)
theorem JQ:∀ ds:List D,(PyData.shownAll (JR ds)).length=ds.length
 | []=>by simp only [JR,PyData.shownAll,nW]
 | d::ds=>by simp only [JR,PyData.shownAll,lX,JQ ds]
mutual
theorem D.shown_wt:∀ d:D,d.rok=true->d.py.shown.length<=d.wt
 | .fl v,h=>by
  cases v with
  | non=>unfold D.py PyData.shown D.wt;decide
  | bl b=>unfold D.py PyData.shown D.wt;cases b<;>decide
  | int i =>
   unfold D.rok at h;have:=int_text_length_le10 (k:=18) (by decide) (of_decide_eq_true h);unfold D.py PyData.shown D.wt;have e:(Str.ofString (toString i)).length=(toString i).length:=PySem.ofString_length _;exact lR (Nat.le_of_eq e) (by omega)
  | str x =>
   unfold D.rok at h;simp only [lx,decide_eq_true_eq] at h;unfold D.py PyData.shown D.wt;exact StrLaws.reprText_len x h
  | _=>unfold D.rok at h;cases h
 | .tup ds,h=>by
  unfold D.rok at h;have h1:=FT ds h;have h2:=tupleText_len_le (PyData.shownAll (JR ds));rw [JQ] at h2;unfold D.py PyData.shown D.wt;omega
 | .lst ds,h=>by
  unfold D.rok at h;have h1:=FT ds h;have h2:=listText_len_le (PyData.shownAll (JR ds));rw [JQ] at h2;unfold D.py PyData.shown D.wt;omega
theorem FT:∀ ds:List D,rokL ds=true->((PyData.shownAll (JR ds)).map (·.length)).sum+2 * ds.length<=wtL ds
 | [],_=>by simp only [JR,PyData.shownAll,ma,List.sum_nil,nW,wtL];omega
 | d::ds,h=>by
  unfold rokL at h;rw [lB] at h;have h1:=D.shown_wt d h.1;have h2:=FT ds h.2;simp only [JR,PyData.shownAll,lI,List.sum_cons,lX,wtL];omega
end
mutual
theorem D.py_show:∀ d:D,d.rok=true->d.py.showable=true/\d.py.hasDict=false/\d.py.depth<=d.dep
 | .fl v,h=>by
  cases v with
  | int i=>unfold D.rok at h;simp only [D.py,PyData.showable,PyData.hasDict,PyData.depth,Mb (of_decide_eq_true h),decide_true];exact ⟨trivial,trivial,mF _⟩
  | non=>simp only [D.py,PyData.showable,PyData.hasDict,PyData.depth];exact ⟨trivial,trivial,mF _⟩
  | bl b=>simp only [D.py,PyData.showable,PyData.hasDict,PyData.depth];exact ⟨trivial,trivial,mF _⟩
  | str b=>simp only [D.py,PyData.showable,PyData.hasDict,PyData.depth];exact ⟨trivial,trivial,mF _⟩
  | _=>unfold D.rok at h;cases h
 | .tup ds,h=>by
  unfold D.rok at h;obtain ⟨a,b,c⟩:=HE ds h;simp only [D.py,PyData.showable,PyData.hasDict,PyData.depth,D.dep];exact ⟨a,b,by omega⟩
 | .lst ds,h=>by
  unfold D.rok at h;obtain ⟨a,b,c⟩:=HE ds h;simp only [D.py,PyData.showable,PyData.hasDict,PyData.depth,D.dep];exact ⟨a,b,by omega⟩
theorem HE:∀ ds:List D,rokL ds=true->PyData.showableAll (JR ds)=true/\PyData.hasDictAll (JR ds)=false/\PyData.depthAll (JR ds)<=depL ds
 | [],_=>by simp only [JR,PyData.showableAll,PyData.hasDictAll,PyData.depthAll];exact ⟨trivial,trivial,mF _⟩
 | d::ds,h=>by
  unfold rokL at h;rw [lB] at h;obtain ⟨a,b,c⟩:=D.py_show d h.1;obtain ⟨a',b',c'⟩:=HE ds h.2;simp only [JR,PyData.showableAll,PyData.hasDictAll,PyData.depthAll,depL,a,a',b,b',mH,Bool.or_self];exact ⟨trivial,trivial,by omega⟩
end
section
variable {X:Cx} {pins:List (Addr×Obj)} {σ:L2.St} {H:Hp} {s:Shared}
mutual
theorem Ki (I:Inv X pins σ H s):∀ (d:D) {x:V} {u:Value},RelV x u->Is X.K H x d->d.rok=true->∃ as,Reads s.heap u d.py as
 | .fl v,x,u,r,h,k=>by
  unfold Is at h;obtain ⟨rfl,_⟩:=h;cases x with
  | non=>cases r;exact ⟨_,by unfold D.py;exact .none⟩
  | bl b=>cases r;exact ⟨_,by unfold D.py;exact .bool b⟩
  | int i=>obtain ⟨t,rfl⟩:=r;exact ⟨_,by unfold D.py;exact .int i t⟩
  | str i=>obtain ⟨t,rfl⟩:=r;exact ⟨_,by unfold D.py;exact .str i t⟩
  | _=>unfold D.rok at k;cases k
 | .tup ds,x,u,r,h,k=>by
  unfold Is at h;obtain ⟨a,xs,rfl,h1,h2⟩:=h;cases r;unfold D.rok at k;obtain ⟨its,rv,⟨o,e,c,n,dt⟩,_⟩:=I.tuple h1;obtain ⟨as,ra⟩:=Fm I ds rv h2 k;exact ⟨as,by unfold D.py;exact .tuple e c dt (by simpa using ra)⟩
 | .lst ds,x,u,r,h,k=>by
  unfold Is at h;obtain ⟨a,xs,rfl,h1,h2⟩:=h;cases r;unfold D.rok at k;obtain ⟨its,rv,pl,_⟩:=I.list h1;obtain ⟨o,e,c,n,dt⟩:=pl.isList;obtain ⟨as,ra⟩:=Fm I ds rv h2 k;exact ⟨a::as,by unfold D.py;exact .list e c dt (by simpa using ra)⟩
theorem Fm (I:Inv X pins σ H s):∀ (ds:List D) {xs:List V} {us:List Value},AE xs us->IsL X.K H xs ds->rokL ds=true->∃ as,ReadsAll s.heap us (JR ds) as
 | [],xs,us,r,h,k=>by
  cases xs with
  | nil=>cases r;exact ⟨_,by unfold JR;exact .nil⟩
  | cons _ _=>unfold IsL at h;exact h.elim
 | d::ds,xs,us,r,h,k=>by
  cases xs with
  | nil=>unfold IsL at h;exact h.elim
  | cons x xs =>
   unfold IsL at h;unfold rokL at k;rw [lB] at k;cases r with
   | cons r1 r2 =>
    obtain ⟨a,h1⟩:=Ki I d r1 h.1 k.1;obtain ⟨b,h2⟩:=Fm I ds r2 h.2 k.2;exact ⟨_,by unfold JR;exact .cons h1 h2⟩
end
def rRepr (K:W.Frag):List V->Hp->VK->Prop:=fun xs H Q=>∃ (p:Addr) (d:D),xs=[.ref p]/\Is K H (.ref p) d/\d.rok=true/\d.dep<=50/\d.wt<=1000000/\Q (.str d.py.shown) H
theorem call_reprQ {j:Nat} (hr:Room j X.A):BC X (.builtin "repr") (rRepr X.K):=by
 intro pins s σ H xs us Q I r h;obtain ⟨p,d,rfl,hi,hk,hd,hw,q⟩:=h;obtain ⟨u,rfl,rx⟩:=vals1 r;obtain ⟨as,rd⟩:=Ki I d rx hi hk;cases rx;obtain ⟨h1,h2,h3⟩:=d.py_show hk;refine repr_of_reads' rd h1 (PyData.noDict_hsm h2) hr.gd (by have:=hr.units;omega) (fun _ _ e=>e) (fun h' u tk hk'=>?_) (lR (d.shown_wt hk) (lR hw (by decide)));exact ⟨.str _,H,I.kept hk',⟨_,rfl⟩,q⟩
end
end L3
namespace L2
open PySem PySem.Spec PyProof.Rows
section
end
end L2
namespace R
open PySem L2
noncomputable def SF:Dv->Option (List Dv)
 | .tup ds=>some ds
 | .lst ds=>some ds
 | .scr ns=>some (ns.map .int)
 | _=>none
section
variable {K:W.Frag} {g:G} {H:Hp}
abbrev jr (K:W.Frag) (g:G) (H:Hp) (a:Addr) (b:Bool) (ds:List Dv):Prop:=∀ g2 H2,Hh g H g2 H2->∃ vs,Lo K H2 a vs b/\Reps K g2 H2 0 ds vs nop
theorem Ka {d:Dv} {ds:List Dv} {v:V} (h:Rep K g H 0 d v nop) (e:SF d=some ds):∃ a b,v=.ref a/\jr K g H a b ds:=by
 have z1:(0:Nat)<=1:=by decide
 cases d with
 | tup es =>
  cases e;obtain ⟨a,vs,rfl,_⟩:=Du z1 h;refine ⟨a,true,rfl,fun g2 H2 st=>?_⟩;obtain ⟨a',us,q,k1,k2,_⟩:=Du z1 (st.rep h);cases q;exact ⟨us,k1,k2⟩
 | lst es =>
  cases e;obtain ⟨a,vs,rfl,_⟩:=Cs z1 h;refine ⟨a,false,rfl,fun g2 H2 st=>?_⟩;obtain ⟨a',us,q,k1,k2,_⟩:=Cs z1 (st.rep h);cases q;exact ⟨us,k1,k2⟩
 | scr ns =>
  cases e;obtain ⟨a,rfl,_⟩:=Kb h;refine ⟨a,false,rfl,fun g2 H2 st=>?_⟩;obtain ⟨a',q,k1⟩:=Kb (st.rep h);cases q;exact ⟨_,k1,EN ns⟩
 | _=>cases e
theorem Nl:Hh g H g H:=by
 first | exact ⟨nop,nop,Step.refl,fun _ z=>z.elim⟩ | exact ⟨nop,nop,Step.refl,FpOk.nop⟩ | exact Hh.refl
def zipD2:List Dv->List Dv->List Dv
 | x1::xs1,x2::xs2=>.tup [x1,x2]::zipD2 xs1 xs2
 | _,_=>[]
theorem Hw:∀ (xs1 xs2:List Dv) (i:Nat) (e:Dv),(zipD2 xs1 xs2)[i]?=some e->∃ x1 x2,xs1[i]?=some x1/\xs2[i]?=some x2/\e=.tup [x1,x2]
 | x1::xs1,x2::xs2,0,e,h=>by simp [zipD2] at h;exact ⟨x1,x2,rfl,rfl,h.symm⟩
 | x1::xs1,x2::xs2,i+1,e,h=>by
  obtain ⟨y1,y2,h1,h2,q⟩:=Hw xs1 xs2 i e (by simpa [zipD2] using h);exact ⟨y1,y2,by simpa using h1,by simpa using h2,q⟩
 | [],_,i,e,h=>by simp [zipD2] at h
 | x1::xs1,[],i,e,h=>by simp [zipD2] at h
theorem Hx:∀ (xs1 xs2:List Dv) (i:Nat),(zipD2 xs1 xs2).length<=i->xs1.length<=i\/xs2.length<=i
 | x1::xs1,x2::xs2,0,h=>by simp [zipD2] at h
 | x1::xs1,x2::xs2,i+1,h=>by
  have:=Hx xs1 xs2 i (by simpa [zipD2] using h);simp only [lX];omega
 | [],_,i,h=>by simp
 | x1::xs1,[],i,h=>by simp
def IQ (ds:List Dv):Option (List Dv):=two (fun x y=>(SF x).bind fun xs=>(SF y).bind fun ys=>some (zipD2 xs ys)) ds
def fB (K:W.Frag):List V->Hp->(It->Hp->Prop)->Prop:=fun vs H1 R=>∃ a1 a2 b1 b2,vs=[.ref a1,.ref a2]/\(∃ xs,Lo K H1 a1 xs b1)/\(∃ xs,Lo K H1 a2 xs b2)/\R (VU K a1 a2 b1 b2) H1
theorem Vc {a1 a2:Addr} {b1 b2:Bool} {ds1 ds2:List Dv} (h1:jr K g H a1 b1 ds1) (h2:jr K g H a2 b2 ds2):Yl K (VU K a1 a2 b1 b2) (zipD2 ds1 ds2) g H:=by
 intro g2 H2 st;obtain ⟨vs1,sq1,r1⟩:=h1 g2 H2 st;obtain ⟨vs2,sq2,r2⟩:=h2 g2 H2 st;refine ⟨fun i d e=>?_,fun i hi=>⟨vs1,vs2,sq1,sq2,by have:=Hx _ _ _ hi;rw [<- r1.len,<- r2.len];exact this⟩⟩;obtain ⟨x1,x2,e1,e2,rfl⟩:=Hw _ _ i d e;obtain ⟨u1,_,eu1,ru1,_⟩:=r1.get e1;obtain ⟨u2,_,eu2,ru2,_⟩:=r2.get e2;refine ⟨⟨vs1,vs2,u1,u2,sq1,eu1,sq2,eu2⟩,fun x H3 y=>?_⟩;obtain ⟨p,w1,w2,hp,rfl,rfl,y1,y2⟩:=y;have:=y1 vs1 sq1;rw [eu1] at this;cases this;have:=y2 vs2 sq2;rw [eu2] at this;cases this;exact Ab.tup (by decide) hp (Bo (Fi ru1.z) (Fi ru2.z))
theorem Rv:Xz K IQ (fB K):=fun g H ds vs its Q zd ra e q=>by
 obtain ⟨x,y,rfl,e⟩:=Ea e;obtain ⟨xs,e1,e⟩:=bind_some' e;obtain ⟨ys,e2,e⟩:=bind_some' e;cases e;obtain ⟨v,us,rfl,h1,h2⟩:=BO ra;obtain ⟨w,us,rfl,h4,h3⟩:=BO h2;cases BL h3;obtain ⟨a,b,rfl,q1⟩:=Ka h1 e1;obtain ⟨a2,b2,rfl,q2⟩:=Ka h4 e2;obtain ⟨w1,s1,_⟩:=q1 g H Nl;obtain ⟨w2,s2,_⟩:=q2 g H Nl;exact ⟨a,a2,b,b2,rfl,⟨w1,s1⟩,⟨w2,s2⟩,q _ H (fun _ _ z=>z) (Vc q1 q2)⟩
end
section
variable {K:W.Frag} {g:G} {H:Hp}
noncomputable def kB {α:Type} (f:Dv->Dv->Dv->Option α) (ds:List Dv):Option α:=match ds with | [a,b,c]=>f a b c | _=>none
def iE (ds:List Dv):Option Dv:=match ds with
 | [.int j]=>if small j=true/\j<=1000000 then some (.lst ((List.range j.toNat).map fun k=>.int (k:Nat))) else none
 | [.int i,.int j]=>if (small i && small j)=true/\j - i<=1000000 then some (.lst ((List.range (j - i).toNat).map fun k=>.int (i+(k:Nat)))) else none
 | _=>none
end
noncomputable def Lj (x y:Dv):Option Dv:=match x,y with
 | .lst xs,.int i=>if i = -1 then some (.lst xs.reverse) else none
 | .tup xs,.int i=>if i = -1 then some (.tup xs.reverse) else none
 | _,_=>none
theorem WH {K:W.Frag}:AG K (two Lj) 1 (Hk (kM K)):=ER fun g H x y v w o1 o2 P R d Q zd l1 h1 l2 h2 e k=>by
 unfold Lj at e;split at e
 ·split at e
  ·rename_i hi;subst hi;cases e;obtain ⟨a,us,rfl,ha,hx,_⟩:=Cs l1 h1;exact ⟨a,us,false,rfl,rep_int h2,ha,fun l hl=>k _ _ (Ab.lst zd (IR hx) hl)⟩
  ·cases e
 ·split at e
  ·rename_i hi;subst hi;cases e;obtain ⟨a,us,rfl,ha,hx,_⟩:=Du l1 h1;exact ⟨a,us,true,rfl,rep_int h2,ha,fun l hl=>k _ _ (Ab.tup (lJ 1) hl (IR hx))⟩
  ·cases e
 ·cases e
noncomputable def KC:Dv->Option Bool
 | .non=>some false
 | .bl b=>some b
 | .int i=>some (i != 0)
 | .str l=>if l.length<=1000000 then some (!l.isEmpty) else none
 | .lst xs=>some (!xs.isEmpty)
 | .tup xs=>some (!xs.isEmpty)
 | .scr xs=>some (!xs.isEmpty)
 | .dct ks _=>some (!ks.isEmpty)
 | _=>none
theorem Ny {K:W.Frag} {g:G} {H:Hp} {o:Nat} {xs:List Dv} {vs:List V} {P:Fp} (h:Reps K g H o xs vs P):(!xs.isEmpty)=!vs.isEmpty:=by
 have:=h.len;cases xs<;>cases vs<;>simp at this<;>rfl
theorem Vg (K:W.Frag) (g:G) (H:Hp) (o:Nat) (d:Dv) (v:V) (P:Fp) (b:Bool) (h:Rep K g H o d v P) (e:KC d=some b):VS K v H b:=by
 cases d with
 | non=>cases e;rw [rep_non h];exact rfl
 | bl b=>cases e;rw [rep_bl h];exact rfl
 | int i=>cases e;rw [rep_int h];exact rfl
 | str l =>
  simp only [KC.eq_def] at e;split at e
  ·rename_i hl;cases e;rw [rep_str h];refine ⟨by rw [Bp];exact lR hl (by decide),?_⟩;rw [Bp];cases l<;>simp;omega
  ·cases e
 | lst xs =>
  cases e;unfold Rep at h;obtain ⟨a,vs,P',rfl,h1,h2,_⟩:=h;exact .inl ⟨vs,.inl (.inl h1.1),Ny h2⟩
 | tup xs =>
  cases e;unfold Rep at h;obtain ⟨a,vs,rfl,h1,h2⟩:=h;exact .inr (.inl ⟨vs,.inl (.inl h1),Ny h2⟩)
 | scr ns =>
  cases e;obtain ⟨a,rfl,h1⟩:=Kb h;exact .inl ⟨_,h1,by cases ns<;>rfl⟩
 | dct ks ds =>
  cases e;obtain ⟨a,us,rfl,ha,hl,hx⟩:=XM h;refine .inr (.inr ⟨_,ha,?_⟩);have:=hx.len;cases ks<;>cases ds<;>cases us<;>simp at hl this<;>rfl
 | _=>cases e
theorem Qy:bootBuiltins "repr" = some (.builtin "repr"):=by decide +kernel
theorem kT {es:List Expr} (h:es.length=1):∃ a,es=[a]:=List.length_eq_one_iff.mp h
theorem kq {es:List Expr} (h:es.length=2):∃ a b,es=[a,b]:=by
 cases es with
 | nil=>cases h
 | cons a es=>obtain ⟨b,rfl⟩:=kT (Nat.succ.inj h);exact ⟨a,b,rfl⟩
theorem dr {tg:Expr} (h:Jd tg=true):∃ elts x1 tpos,tg=.Tuple elts x1 tpos:=by
 cases tg<;>first | exact ⟨_,_,_,rfl⟩ | cases h
theorem Wz {X:Cx} (h:Gx X):X.A.units+1 < cLine:=by obtain ⟨j,r⟩:=h.2;have:=r.un;omega
noncomputable def SH:Dv->Bool
 | .tup _=>true
 | .lst _=>true
 | _=>false
def FA (x:Dv):Option Dv:=if SH x && x.cmp && (toD x).rok && decide ((toD x).dep<=50) && decide ((toD x).wt<=1000000) then some (.str (toD x).py.shown.cps.toList) else none
theorem SG {K:W.Frag} {g:G} {H:Hp} {o:Nat} {x:Dv} {v:V} {P:Fp} (h:SH x=true) (l1:o<=1) (h1:Rep K g H o x v P):∃ p,v=.ref p:=by
 unfold SH at h;split at h
 ·obtain ⟨p,us,rfl,_⟩:=Du l1 h1;exact ⟨p,rfl⟩
 ·obtain ⟨p,us,rfl,_⟩:=Cs l1 h1;exact ⟨p,rfl⟩
 ·cases h
theorem WI {K:W.Frag} {o:Nat}:AG K (one FA) o (L3.rRepr K):=DI fun g H x v o1 P d Q zd l1 h1 e k=>by
 unfold FA at e;split at e
 ·rename_i c;simp only [lB,decide_eq_true_eq] at c;obtain ⟨⟨⟨⟨c1,c2⟩,c3⟩,c4⟩,c5⟩:=c;cases e;obtain ⟨p,rfl⟩:=SG c1 l1 h1;have:=Ab.str (K:=K) (g:=g) (H:=H) (o:=o) (toD x).py.shown.cps.toList;rw [RY] at this;exact ⟨p,toD x,rfl,h1.is c2,c3,c4,c5,k _ _ this⟩
 ·cases e
end R
namespace My
open PySem L2 R
theorem kQ {K:W.Frag} {o:Nat} {r:Ou}:AG K (fun _=>none) o r:=fun _ _ _ _ _ _ _ _ e _=>by cases e
theorem ko {K:W.Frag} {o:Nat} {r:Ou}:AG K (one fun _=>none) o r:=fun _ _ ds _ _ _ _ _ e _=>by unfold one at e;split at e<;>cases e
def tb:Tb where
 bins:=[⟨.Add,Aq,fun X h=>⟨_,Wi X.K,aM⟩⟩,
  ⟨.Sub,NS,fun X h=>⟨_,af,WO⟩⟩,
  ⟨.Mult,Dz,fun X h=>⟨_,aj.or (ah.or L4.op_repT),aG⟩⟩,
  ⟨.Mod,DT,fun X h=>⟨_,ak,JS fun _ _ h=>of_decide_eq_true h⟩⟩,
  ⟨.FloorDiv,VR,fun X h=>⟨_,We,JS fun _ _ h=>by rw [lB,decide_eq_true_eq,decide_eq_true_eq] at h;exact h⟩⟩,
  ⟨.Pow,dP,fun X h=>⟨_,ai,JS fun _ _ h=>by rw [lB,lB,decide_eq_true_eq,decide_eq_true_eq,decide_eq_true_eq] at h;exact ⟨h.1.1,h.1.2,h.2⟩⟩⟩]
 cmps:=[⟨.Eq,Dy,fun X h=>⟨_,L3.op_eqA h.2.choose_spec,Sf⟩⟩,
  ⟨.NotEq,RB,fun X h=>⟨_,L3.op_neA h.2.choose_spec,Sf⟩⟩,
  ⟨.Lt,jg,fun X h=>⟨_,fj,JT⟩⟩,
  ⟨.Gt,ZG,fun X h=>⟨_,fm,JT⟩⟩,
  ⟨.GtE,ka,fun X h=>⟨_,fo,JT⟩⟩,
  ⟨.In,iU,fun X h=>⟨_,(Q.op_inQ h.2.choose_spec).or (au (Wz h)),Se⟩⟩,
  ⟨.NotIn,NO,fun X h=>⟨_,(Q.op_notInQ h.2.choose_spec).or (Wf (Wz h)),Se⟩⟩,
  ⟨.Is,RC,fun X h=>⟨_,ao,aJ⟩⟩]
 calls:=[⟨"len", 1,1,one Ao,fun X h=>⟨_,aH,.inl ⟨_,(Qh X.K).or NG,PySem.boot_len⟩⟩⟩,
  ⟨"tuple", 1,1,one AI,fun X h=>⟨_,Sb,.inr ⟨_,Lb X.K,PyProof.Rows.Boot.«tuple»⟩⟩⟩,
  ⟨"list", 1,1,one Lm,fun X h=>⟨_,WL,.inr ⟨_,NF X.K,PyProof.Rows.Boot.«list»⟩⟩⟩,
  ⟨"int", 1,1,one FC,fun X h=>⟨_,WN,.inr ⟨_,Qm,PyProof.Rows.Boot.«int»⟩⟩⟩,
  ⟨"all", 1,1,one Ln,fun X h=>⟨_,aL,.inl ⟨_,Qn X.K rfl h.1,PyProof.Rows.Boot.«all»⟩⟩⟩,
  ⟨"max", 2,1,two FB,fun X h=>⟨_,WK,.inl ⟨_,Qg h.1,PyProof.Rows.Boot.«max»⟩⟩⟩,
  ⟨"repr", 1,1,one FA,fun X h=>⟨_,WI,.inl ⟨_,L3.call_reprQ h.2.choose_spec,Qy⟩⟩⟩,
  ⟨"isinstance", 2,1,two EA,fun X h=>⟨_,aI,.inl ⟨_,(Ql X.K).or Qk,PyProof.Rows.Boot.«isinstance»⟩⟩⟩]
 meths:=[⟨"join", 1, "str", 1,two Hg,.inl (.inr (.inl rfl)),fun X h=>⟨_,_,PySem.F.plainAttrs_str,PySem.F.slot_str_join,PySem.F.type_str_join,TJ X.K,WM⟩⟩,
  ⟨"upper", 0, "str", 1,one EX,.inl (.inr (.inl rfl)),fun X h=>⟨_,_,PySem.F.plainAttrs_str,PySem.F.slot_str_upper,PySem.F.type_str_upper,TH,Sa⟩⟩,
  ⟨"index", 1, "list", 1,two Bu,.inl (.inl rfl),fun X h=>⟨_,_,PySem.F.plainAttrs_list,PySem.F.slot_list_index,PySem.F.type_list_index,Q.mt_indexD h.2.choose_spec,Sd⟩⟩,
  ⟨"index", 1, "tuple", 1,two Bn,.inr ⟨rfl,rfl⟩,fun X h=>⟨_,_,PySem.F.plainAttrs_tuple,PySem.F.slot_tuple_index,PySem.F.type_tuple_index,Q.mt_indexTD h.2.choose_spec,PY⟩⟩]
 muts:=[⟨"append", 1, "list", AS,.inl rfl,fun X h=>⟨_,_,PySem.F.plainAttrs_list,PySem.F.slot_list_append,PySem.F.type_list_append,Pn,Pl⟩⟩,
  ⟨"pop", 0, "list", RH,.inl rfl,fun X h=>⟨_,_,PySem.F.plainAttrs_list,PySem.F.slot_list_pop,PySem.F.type_list_pop,bD,bB⟩⟩,
  ⟨"extend", 1, "list", Ds,.inl rfl,fun X h=>⟨_,_,PySem.F.plainAttrs_list,PySem.F.slot_list_extend,PySem.F.type_list_extend,Pm,Pk⟩⟩]
 srcs:=[⟨"range", 1,false,BG,fun X h=>⟨_,Rw,fun tg es p pos ta _ hn hs hg hm ha=>by obtain ⟨a,rfl⟩:=kT hn;exact Pd hg hm ha (AK (by simpa using hs))⟩⟩,
  ⟨"zip", 2,true,IQ,fun X h=>⟨_,Rv,fun tg es p pos ta ht hn hs hg hm ha=>by
   obtain ⟨elts,x1,tpos,rfl⟩:=dr (ht rfl);obtain ⟨a,b,rfl⟩:=kq hn;have z:BA a=true/\BA b=true:=by simpa using hs
   exact WS X.K hg hm ha rfl (AK z.1) (Az (by simp [z.2]))⟩⟩]
 ix:=AA
 ixok:=fun X h=>⟨_,(jD X.K).or (gD (Wz h)),aK⟩
 sl:=KD
 slok:=fun X h=>⟨_,iz X.K,fU⟩
 tru:=KC
 trok:=Vg
 lr:=fun _=>none
 lrok:=fun X h=>kQ
 tr:=fun _=>none
 trrok:=fun X h=>kQ
 md:=JC
 mdok:=fun X h=>WJ
 rv:=Lj
 rvok:=fun X h=>WH
 lv:=fun _=>none
 lvok:=fun X h=>ko
 st:=Bc
 stok:=fun X h=>⟨_,Vt.or (Zl (Wz h)),Zk⟩
noncomputable def top (i:Nat):Stmt:=PySem.Challenge.pw_shapefree_k47_rows_of_points.main.body.getD i (.Pass ⟨0,0,0,0⟩)
def md:Md:=⟨tb,[],["len", "range", "tuple", "list", "zip", "isinstance", "enumerate", "all", "any", "int", "bool", "str", "sum", "max", "min", "reversed", "sorted", "dict", "repr", "set", "abs", "type", "ord", "chr"]⟩
noncomputable def iS:List (Str×Sig):=[]
noncomputable def EI (x3:Dv):Option Dv:=
(AA x3 (Dv.int 0)).bind fun d4 =>
some d4
noncomputable def ME (x9:Dv):Option Dv:=
(AA x9 (Dv.int 0)).bind fun d10 =>
some d10
noncomputable def EG (a0:Dv) (a2:Dv):Option (Dv):=
Option.or ((AA a0 (Dv.int 1)).bind fun d1 =>
(items d1).bind fun s2 =>
CD s2 ((AN EI s2).bind fun y5 =>
Cc "list" (Dv.lst y5) (
(Bu (Dv.lst y5) a2).bind fun d6 =>
some d6))) ((AA a0 (Dv.int 1)).bind fun d7 =>
(items d7).bind fun s8 =>
CD s8 ((AN ME s8).bind fun y11 =>
Cc "tuple" (Dv.lst y11) (
(Bn (Dv.lst y11) a2).bind fun d12 =>
some d12)))
noncomputable def Bq (a0 a1 a2:Dv):Option (Dv):=
(AA a1 (Dv.int 2)).bind fun d0 =>
((EG a0 a2)).bind fun t13 =>
(AA d0 t13).bind fun d14 =>
some d14
theorem QZ:DO md iS (top 1) [] 0=true:=by kernel_rfl
theorem QO:FD md iS (top 1) [] 0 (FI Bq):=da (by kernel_rfl) fun _ _ _=>(by kernel_rfl)
def jO:List (Str×Sig):=("table_in", AW (AC (top 1)) [] 0 false (FI Bq))::iS
noncomputable def Ck (x2:Dv) (t3:Dv):Option (Dv):=
(AA t3 x2).bind fun d4 =>
some d4
noncomputable def Kf (a0 a1 a2 a3:Dv):Option (Dv):=
(Bq a0 a1 a2).bind fun c0 =>
(items a3).bind fun s1 =>
(Av Ck s1 c0).bind fun t5 =>
some t5
theorem cR:DO md jO (top 2) [] 0=true:=by kernel_rfl
theorem cJ:FD md jO (top 2) [] 0 (DM Kf):=ZE (by kernel_rfl) fun _ _ _ _=>(by kernel_rfl)
def jN:List (Str×Sig):=("done", AW (AC (top 2)) [] 0 false (DM Kf))::jO
noncomputable def EH (a0:Dv) (a2:Dv):Option (Dv):=
Option.or ((AA a0 (Dv.int 0)).bind fun d1 =>
Cc "list" d1 (
(Bu d1 a2).bind fun d2 =>
some d2)) ((AA a0 (Dv.int 0)).bind fun d3 =>
Cc "tuple" d3 (
(Bn d3 a2).bind fun d4 =>
some d4))
noncomputable def CW (a0 a1 a2:Dv):Option (Dv):=
(AA a1 (Dv.int 1)).bind fun d0 =>
((EH a0 a2)).bind fun t5 =>
(AA d0 t5).bind fun d6 =>
some d6
theorem Qd:DO md jN (top 3) [] 0=true:=by kernel_rfl
theorem QS:FD md jN (top 3) [] 0 (FI CW):=da (by kernel_rfl) fun _ _ _=>(by kernel_rfl)
def jM:List (Str×Sig):=("fixed_in", AW (AC (top 3)) [] 0 false (FI CW))::jN
noncomputable def Bm (a4:Dv) (x11:Dv):Option Dv:=
(AA a4 x11).bind fun d12 =>
some d12
noncomputable def BK (a0 a1 a2 a3 a4:Dv):Option (Dv):=
(AA a1 (Dv.int 0)).bind fun d0 =>
(Dy d0 (Dv.str [105,110,112,117,116])).bind fun b1 =>
if b1=true then
(AA a1 (Dv.int 1)).bind fun d2 =>
(AA a3 d2).bind fun d3 =>
some d3
else
(AA a1 (Dv.int 0)).bind fun d4 =>
(Dy d4 (Dv.str [102,105,120,101,100])).bind fun b5 =>
if b5=true then
(AA a1 (Dv.int 1)).bind fun d6 =>
(CW a0 a2 d6).bind fun c7 =>
some c7
else
(AA a1 (Dv.int 1)).bind fun d8 =>
(AA a1 (Dv.int 2)).bind fun d9 =>
(items d9).bind fun s10 =>
CD s10 ((AN (Bm a4) s10).bind fun y13 =>
(Kf a0 a2 d8 (Dv.lst y13)).bind fun c14 =>
some c14)
theorem LZ:DO md jM (top 6) [] 0=true:=by kernel_rfl
theorem LP:FD md jM (top 6) [] 0 (Ml BK):=jd (by kernel_rfl) fun _ _ _ _ _=>(by kernel_rfl)
def jL:List (Str×Sig):=("node_value", AW (AC (top 6)) [] 0 true (Ml BK))::jM
noncomputable def Ed (a0:Dv) (a2:Dv) (a3:Dv) (x2:Dv) (t3:Dv):Option (Dv):=
Cc "list" t3 (
(BK a0 x2 a2 a3 t3).bind fun c4 =>
bif nol c4 then
(AS t3 [c4]).bind fun r5 =>
some r5.2
else none)
noncomputable def Gz (a0 a1 a2 a3:Dv):Option (Dv):=
(AA a1 (Dv.int 0)).bind fun d0 =>
(items d0).bind fun s1 =>
(Av (Ed a0 a2 a3) s1 (Dv.lst [])).bind fun t6 =>
(AA a1 (Dv.int 1)).bind fun d7 =>
(AA t6 d7).bind fun d8 =>
some d8
theorem XO:DO md jL (top 5) [] 0=true:=by kernel_rfl
theorem XD:FD md jL (top 5) [] 0 (DM Gz):=ZE (by kernel_rfl) fun _ _ _ _=>(by kernel_rfl)
def jK:List (Str×Sig):=("value", AW (AC (top 5)) [] 0 false (DM Gz))::jL
noncomputable def Gu (a0:Dv) (a2:Dv) (x1:Dv):Option Dv:=
(KH [4,5] x1).bind fun (t2:Dv×Dv) =>
(Gz a0 a2 t2.1 t2.2).bind fun c3 =>
some c3
noncomputable def JM (a0 a1 a2:Dv):Option (Dv):=
(items a1).bind fun s0 =>
CD s0 ((AN (Gu a0 a2) s0).bind fun y4 =>
(AI (Dv.lst y4)).bind fun d5 =>
some d5)
theorem XQ:DO md jK (top 8) [] 1=true:=by kernel_rfl
theorem XE:FD md jK (top 8) [] 1 (FI JM):=da (by kernel_rfl) fun _ _ _=>(by kernel_rfl)
def jJ:List (Str×Sig):=("row_of", AW (AC (top 8)) [] 1 false (FI JM))::jK
noncomputable def CK (a0:Dv) (a2:Dv) (x1:Dv):Option Dv:=
(AA x1 (Dv.int 0)).bind fun d2 =>
(Bq a0 d2 a2).bind fun c3 =>
some c3
noncomputable def CB (a0 a1 a2:Dv):Option (Dv):=
(items a1).bind fun s0 =>
CD s0 ((AN (CK a0 a2) s0).bind fun y4 =>
some (Dv.lst y4))
theorem Js:DO md jJ (top 10) [] 1=true:=by kernel_rfl
theorem Jl:FD md jJ (top 10) [] 1 (FI CB):=da (by kernel_rfl) fun _ _ _=>(by kernel_rfl)
def jI:List (Str×Sig):=("deed_tables", AW (AC (top 10)) [] 1 false (FI CB))::jJ
noncomputable def Kc (x1:Dv):Option Dv:=
(KH [3,4] x1).bind fun (t2:Dv×Dv) =>
(AA t2.1 t2.2).bind fun d3 =>
some d3
noncomputable def JN (a0 a1:Dv):Option (Dv):=
(IQ [a0,a1]).bind fun s0 =>
CD s0 ((AN Kc s0).bind fun y4 =>
some (Dv.lst y4))
theorem XR:DO md jI (top 11) [] 1=true:=by kernel_rfl
theorem XF:FD md jI (top 11) [] 1 (two JN):=Va (by kernel_rfl) fun _ _=>(by kernel_rfl)
def jH:List (Str×Sig):=("led_by", AW (AC (top 11)) [] 1 false (two JN))::jI
noncomputable def Dg (x2:Dv) (t3:Dv):Option (Dv):=
(JN t3 x2).bind fun c4 =>
some c4
noncomputable def Ej (a0 a1 a2 a3:Dv):Option (Dv):=
(CB a0 a1 a2).bind fun c0 =>
(items a3).bind fun s1 =>
(Av Dg s1 c0).bind fun t5 =>
(AI t5).bind fun d6 =>
some d6
theorem UW:DO md jH (top 9) [] 1=true:=by kernel_rfl
theorem UG:FD md jH (top 9) [] 1 (DM Ej):=ZE (by kernel_rfl) fun _ _ _ _=>(by kernel_rfl)
def jG:List (Str×Sig):=("done_on", AW (AC (top 9)) [] 1 false (DM Ej))::jH
noncomputable def GI (a1:Dv) (x1:Dv):Option Dv:=
(KH [3,4] x1).bind fun (t2:Dv×Dv) =>
(AA t2.2 a1).bind fun d3 =>
some d3
noncomputable def Di (a0 a1:Dv):Option (Dv):=
(items a0).bind fun s0 =>
CD s0 ((AN (GI a1) s0).bind fun y4 =>
(AI (Dv.lst y4)).bind fun d5 =>
some d5)
theorem NA:DO md jG (top 13) [] 1=true:=by kernel_rfl
theorem Mr:FD md jG (top 13) [] 1 (two Di):=Va (by kernel_rfl) fun _ _=>(by kernel_rfl)
def cE:List (Str×Sig):=("input_row", AW (AC (top 13)) [] 1 false (two Di))::jG
noncomputable def GJ (a0:Dv) (a2:Dv) (x1:Dv):Option Dv:=
(KH [4,5] x1).bind fun (t2:Dv×Dv) =>
(CW a0 t2.1 a2).bind fun c3 =>
some c3
noncomputable def Dj (a0 a1 a2:Dv):Option (Dv):=
(items a1).bind fun s0 =>
CD s0 ((AN (GJ a0 a2) s0).bind fun y4 =>
(AI (Dv.lst y4)).bind fun d5 =>
some d5)
theorem NB:DO md cE (top 14) [] 1=true:=by kernel_rfl
theorem Ms:FD md cE (top 14) [] 1 (FI Dj):=da (by kernel_rfl) fun _ _ _=>(by kernel_rfl)
def cD:List (Str×Sig):=("fixed_row", AW (AC (top 14)) [] 1 false (FI Dj))::cE
noncomputable def EK (x1:Dv):Option Dv:=
(KH [4,5] x1).bind fun (t2:Dv×Dv) =>
(Ao t2.2).bind fun d3 =>
some d3
noncomputable def EJ (a1:Dv) (x7:Dv):Option Dv:=
(Di a1 x7).bind fun c8 =>
some c8
noncomputable def Ci (a0:Dv) (a1:Dv) (x12:Dv):Option Dv:=
(Dj a0 a1 x12).bind fun c13 =>
some c13
noncomputable def CU (a0 a1:Dv):Option (Dv):=
(items a1).bind fun s0 =>
CD s0 ((AN EK s0).bind fun y4 =>
(JC (Dv.lst y4) (Dv.int 0)).bind fun d5 =>
(BG [d5]).bind fun s6 =>
CD s6 ((AN (EJ a1) s6).bind fun y9 =>
(AA a0 (Dv.int 0)).bind fun d10 =>
(items d10).bind fun s11 =>
CD s11 ((AN (Ci a0 a1) s11).bind fun y14 =>
(Aq (Dv.lst y9) (Dv.lst y14)).bind fun d15 =>
some d15)))
theorem Qa:DO md cD (top 12) [] 1=true:=by kernel_rfl
theorem QP:FD md cD (top 12) [] 1 (two CU):=Va (by kernel_rfl) fun _ _=>(by kernel_rfl)
def cC:List (Str×Sig):=("own_rows", AW (AC (top 12)) [] 1 false (two CU))::cD
noncomputable def KZ (a0:Dv) (a1:Dv) (d1:Dv):Option (Dv):=
(Ao a0).bind fun d5 =>
(ZG d5 (Dv.int 0)).bind fun b6 =>
if b6=true then
(Ao a0).bind fun d7 =>
(DT a1 d7).bind fun d8 =>
(AA a0 d8).bind fun d9 =>
(DT d9 (Dv.int 2147483629)).bind fun d10 =>
(Dz d10 (Dv.int 31)).bind fun d11 =>
(Dz (Dv.int 7907) a1).bind fun d12 =>
(Aq d11 d12).bind fun d13 =>
some d13
else
some d1
noncomputable def Gr (a0:Dv) (a1:Dv) (d1:Dv):Option (Dv):=
(Ao a0).bind fun d2 =>
(jg a1 d2).bind fun b3 =>
if b3=true then
(AA a0 a1).bind fun d4 =>
some d4
else
((KZ a0 a1 d1)).bind fun t14 =>
some t14
noncomputable def Gq (t15:Dv):Option (Dv):=
(dP (Dv.int 10) (Dv.int 18)).bind fun d16 =>
(ka t15 d16).bind fun b17 =>
if b17=true then
some t15
else
some (Dv.int 0)
noncomputable def DG (a0 a1:Dv):Option (Dv):=
(Dz (Dv.int 7907) a1).bind fun d0 =>
(Aq d0 (Dv.int 13579)).bind fun d1 =>
((Gr a0 a1 d1)).bind fun t15 =>
((Gq t15)).bind fun t18 =>
(DT t15 (Dv.int 2147483629)).bind fun d19 =>
(Dz d19 (Dv.int 48271)).bind fun d20 =>
(Dz (Dv.int 40692) a1).bind fun d21 =>
(Aq d20 d21).bind fun d22 =>
(DT d22 (Dv.int 2147483646)).bind fun d23 =>
(Aq d23 (Dv.int 1)).bind fun d24 =>
some (Dv.lst [t18,d24])
theorem XU:DO md cC (top 16) [] 1=true:=by kernel_rfl
theorem XI:FD md cC (top 16) [] 1 (two DG):=Va (by kernel_rfl) fun _ _=>(by kernel_rfl)
def cB:List (Str×Sig):=("_law_feed", AW (AC (top 16)) [] 1 false (two DG))::cC
noncomputable def AL (a0 a1:Dv):Option (Dv×Dv):=
(AA a0 (Dv.int 0)).bind fun d0 =>
(ZG d0 (Dv.int 0)).bind fun b1 =>
if b1=true then
(AA a0 (Dv.int 0)).bind fun d2 =>
(DT d2 a1).bind fun d3 =>
(AA a0 (Dv.int 0)).bind fun d4 =>
(VR d4 a1).bind fun d5 =>
(Bc a0 (Dv.int 0) d5).bind fun d6 =>
some (d3,d6)
else
(AA a0 (Dv.int 1)).bind fun d7 =>
(Dz d7 (Dv.int 48271)).bind fun d8 =>
(DT d8 (Dv.int 2147483647)).bind fun d9 =>
(Dz d9 (Dv.int 40692)).bind fun d10 =>
(Aq d10 (Dv.int 30103)).bind fun d11 =>
(DT d11 (Dv.int 2147483399)).bind fun d12 =>
(Aq d12 (Dv.int 1)).bind fun d13 =>
(Bc a0 (Dv.int 1) d13).bind fun d14 =>
(Dz d9 (Dv.int 2147483647)).bind fun d15 =>
(AA d14 (Dv.int 1)).bind fun d16 =>
(Aq d15 d16).bind fun d17 =>
(VR d17 (Dv.int 8191)).bind fun d18 =>
(DT d18 a1).bind fun d19 =>
some (d19,d14)
theorem XS:DO md cB (top 17) [0] 1=true:=by kernel_rfl
theorem XG:FD md cB (top 17) [0] 1 (two AL):=Va (by kernel_rfl) fun _ _=>(by kernel_rfl)
def cA:List (Str×Sig):=("_law_take", AW (AC (top 17)) [0] 1 false (two AL))::cB
noncomputable def Da (x2:Dv) (t3:Dv):Option (Dv×Dv):=
(AL t3 (Dv.int 26)).bind fun c4 =>
(AA (Dv.str [97,98,99,100,101,102,103,104,105,106,107,108,109,110,111,112,113,114,115,116,117,118,119,120,121,122]) c4.1).bind fun d5 =>
some (d5,c4.2)
noncomputable def FQ (d28:Dv):Option (Dv):=
(iU d28 (Dv.tup [(Dv.str [100,101,102]),(Dv.str [108,101,116]),(Dv.str [116,101,108,108]),(Dv.str [108,111,111,112]),(Dv.str [112,105,99,107]),(Dv.str [99,97,108,108])])).bind fun b29 =>
if b29=true then
(Aq d28 (Dv.str [113])).bind fun d30 =>
some d30
else
some d28
noncomputable def Ff (d7:Dv) (c8_1:Dv) (c11_1:Dv) (c12_1:Dv) (x14:Dv) (t15:Dv):Option (Dv):=
(Dz (Dv.int 7) x14).bind fun d16 =>
(Aq c8_1 d16).bind fun d17 =>
(DT d17 (Dv.int 26)).bind fun d18 =>
(AA (Dv.str [97,98,99,100,101,102,103,104,105,106,107,108,109,110,111,112,113,114,115,116,117,118,119,120,121,122]) d18).bind fun d19 =>
dc c11_1 fun i20 =>
(KD d7 none (some i20)).bind fun d21 =>
(Aq d21 d19).bind fun d22 =>
dc c11_1 fun i23 =>
(Aq c12_1 x14).bind fun d24 =>
(DT d24 (Dv.int 4)).bind fun d25 =>
dc d25 fun i26 =>
(KD d7 (some i23) (some i26)).bind fun d27 =>
(Aq d22 d27).bind fun d28 =>
((FQ d28)).bind fun t31 =>
Cc "list" t15 (
(AS t15 [t31]).bind fun r32 =>
some r32.2)
noncomputable def IG (c12_2:Dv) (t33:Dv):Option (Bool×Dv):=
(GR (Dv.int 2)).bind fun d35 =>
(AA t33 d35).bind fun d36 =>
(Ao d36).bind fun d37 =>
(jg d37 (Dv.int 4)).bind fun b38 =>
if b38=true then
(AL c12_2 (Dv.int 4)).bind fun c39 =>
(Dy c39.1 (Dv.int 0)).bind fun b40 =>
some (b40,c39.2)
else
some (false,c12_2)
noncomputable def FL (a1:Dv) (c12_2:Dv) (t33:Dv):Option (Bool×Dv):=
(ZG a1 (Dv.int 1)).bind fun b34 =>
if b34=true then
((IG c12_2 t33)).bind fun t41 =>
some (t41.1,t41.2)
else
some (false,c12_2)
noncomputable def FP (a1:Dv) (c12_2:Dv) (t33:Dv):Option (Dv×Dv):=
((FL a1 c12_2 t33)).bind fun t42 =>
if t42.1=true then
(GR (Dv.int 2)).bind fun d43 =>
(AA t33 d43).bind fun d44 =>
(Aq d44 (Dv.str [113])).bind fun d45 =>
(GR (Dv.int 1)).bind fun d46 =>
(Bc t33 d46 d45).bind fun d47 =>
some (t42.2,d47)
else
some (t42.2,t33)
noncomputable def Bz (a0 a1:Dv):Option (Dv×Dv):=
Cc "str" (Dv.str []) (
(AL a0 (Dv.int 4)).bind fun c0 =>
(BG [c0.1]).bind fun s1 =>
CD s1 ((BB Da s1 c0.2).bind fun p6 =>
(Hg (Dv.str []) (Dv.lst p6.1)).bind fun d7 =>
(AL p6.2 (Dv.int 26)).bind fun c8 =>
(Ao d7).bind fun d9 =>
(Aq d9 (Dv.int 1)).bind fun d10 =>
(AL c8.2 d10).bind fun c11 =>
(AL c11.2 (Dv.int 4)).bind fun c12 =>
(BG [a1]).bind fun s13 =>
(Av (Ff d7 c8.1 c11.1 c12.1) s13 (Dv.lst [])).bind fun t33 =>
((FP a1 c12.2 t33)).bind fun t48 =>
some (t48.2,t48.1)))
theorem US:DO md cA (top 18) [0] 1=true:=by kernel_rfl
theorem UC:FD md cA (top 18) [0] 1 (two Bz):=Va (by kernel_rfl) fun _ _=>(by kernel_rfl)
def bz:List (Str×Sig):=("_law_names", AW (AC (top 18)) [0] 1 false (two Bz))::cA
noncomputable def DZ (x5:Dv):Option Dv:=
(KD x5 none (some 1)).bind fun d6 =>
Cc "str" d6 (
(EX d6).bind fun d7 =>
(KD x5 (some 1) none).bind fun d8 =>
(Aq d7 d8).bind fun d9 =>
some d9)
noncomputable def FV (c11_1:Dv) (x15:Dv) (t16:Dv):Option (Dv×Dv):=
(AA c11_1 x15).bind fun d17 =>
(AL t16 (Dv.int 2)).bind fun c18 =>
(Aq (Dv.int 1) c18.1).bind fun d19 =>
some ((Dv.tup [d17,d19]),c18.2)
noncomputable def Eg (a0:Dv):Option (Dv×Dv):=
(Bz a0 (Dv.int 4)).bind fun c0 =>
(AL c0.2 (Dv.int 4)).bind fun c1 =>
dc c1.1 fun i2 =>
(KD c0.1 none (some i2)).bind fun d3 =>
(items d3).bind fun s4 =>
CD s4 ((AN DZ s4).bind fun y10 =>
(Bz c1.2 (Dv.int 3)).bind fun c11 =>
(AL c11.2 (Dv.int 8)).bind fun c12 =>
(AA (Dv.lst [(Dv.int 1),(Dv.int 2),(Dv.int 3),(Dv.int 2),(Dv.int 3),(Dv.int 1),(Dv.int 2),(Dv.int 0)]) c12.1).bind fun d13 =>
(BG [d13]).bind fun s14 =>
CD s14 ((BB (FV c11.1) s14 c12.2).bind fun p20 =>
(AI (Dv.lst y10)).bind fun d21 =>
(AI (Dv.lst p20.1)).bind fun d22 =>
some ((Dv.tup [d21,d22]),p20.2)))
theorem UQ:DO md bz (top 19) [0] 1=true:=by kernel_rfl
theorem UA:FD md bz (top 19) [0] 1 (one Eg):=kZ (by kernel_rfl) fun _=>(by kernel_rfl)
def bx:List (Str×Sig):=("_law_shape", AW (AC (top 19)) [0] 1 false (one Eg))::bz
noncomputable def IM (a2:Dv) (x2:Dv) (t3:Dv):Option (Dv×Dv):=
(AL t3 a2).bind fun c4 =>
some (c4.1,c4.2)
noncomputable def IL (a2:Dv) (x14:Dv) (t15:Dv):Option (Dv×Dv):=
(AL t15 a2).bind fun c16 =>
some (c16.1,c16.2)
noncomputable def IK (a2:Dv) (x24:Dv) (t25:Dv):Option (Dv×Dv):=
(AL t25 a2).bind fun c26 =>
some (c26.1,c26.2)
noncomputable def FU (a2:Dv) (x21:Dv) (t22:Dv):Option (Dv×Dv):=
(BG [a2]).bind fun s23 =>
CD s23 ((BB (IK a2) s23 t22).bind fun p27 =>
(AI (Dv.lst p27.1)).bind fun d28 =>
some (d28,p27.2))
noncomputable def FN (a2:Dv) (t10_1:Dv) (t10_2:Dv) (t11_2:Dv):Option (Dv×Dv):=
(Dy t11_2 (Dv.int 1)).bind fun b12 =>
if b12=true then
Cc "list" t10_2 (
(BG [a2]).bind fun s13 =>
CD s13 ((BB (IL a2) s13 t10_1).bind fun p17 =>
(AI (Dv.lst p17.1)).bind fun d18 =>
(AS t10_2 [d18]).bind fun r19 =>
some (p17.2,r19.2)))
else
Cc "list" t10_2 (
(BG [a2]).bind fun s20 =>
CD s20 ((BB (FU a2) s20 t10_1).bind fun p29 =>
(AI (Dv.lst p29.1)).bind fun d30 =>
(AS t10_2 [d30]).bind fun r31 =>
some (p29.2,r31.2)))
noncomputable def Dd (a2:Dv) (x9:Dv) (t10:Dv×Dv):Option (Dv×Dv):=
(KH [5,6] x9).bind fun (t11:Dv×Dv) =>
((FN a2 t10.1 t10.2 t11.2)).bind fun t32 =>
some (t32.1,t32.2)
noncomputable def Ee (a0 a1 a2:Dv):Option (Dv×Dv):=
(AA a1 (Dv.int 0)).bind fun d0 =>
(items d0).bind fun s1 =>
CD s1 ((BB (IM a2) s1 a0).bind fun p5 =>
(AI (Dv.lst p5.1)).bind fun d6 =>
(AA a1 (Dv.int 1)).bind fun d7 =>
(items d7).bind fun s8 =>
(Av (Dd a2) s8 (p5.2,(Dv.lst []))).bind fun t33 =>
(AI t33.2).bind fun d34 =>
some ((Dv.tup [a2,d6,d34]),t33.1))
theorem UO:DO md bx (top 20) [0] 1=true:=by kernel_rfl
theorem Tw:FD md bx (top 20) [0] 1 (FI Ee):=da (by kernel_rfl) fun _ _ _=>(by kernel_rfl)
def bw:List (Str×Sig):=("_law_world", AW (AC (top 20)) [0] 1 false (FI Ee))::bx
noncomputable def Bf (t0:Dv×Dv×Dv):Option Bool:=
(Ao t0.2.2).bind fun d1 =>
(ZG d1 (Dv.int 0)).bind fun b2 =>
some b2
noncomputable def By (d14:Dv) (x19:Dv):Option Dv:=
(AA d14 x19).bind fun d20 =>
some d20
noncomputable def Bx (x29:Dv):Option Dv:=
some (Dv.tup [x29,(Dv.bl false)])
noncomputable def DB (t0_1:Dv) (t0_2_1:Dv) (r3_2:Dv) (t4_1:Dv) (t4_2:Dv) (d6:Dv):Option (Dv×Dv×Dv):=
(KC t4_2).bind fun b12 =>
if b12=true then
(Ao t0_1).bind fun d13 =>
(Bc t0_2_1 t4_1 d13).bind fun d14 =>
Cc "list" t0_1 (
(AA d6 (Dv.int 0)).bind fun d15 =>
(AA d6 (Dv.int 1)).bind fun d16 =>
(AA d6 (Dv.int 2)).bind fun d17 =>
(items d17).bind fun s18 =>
CD s18 ((AN (By d14) s18).bind fun y21 =>
(AI (Dv.lst y21)).bind fun d22 =>
(AS t0_1 [(Dv.tup [d15,d16,d22])]).bind fun r23 =>
some (r23.2,d14,r3_2)))
else
Cc "list" r3_2 (
(AS r3_2 [(Dv.tup [t4_1,(Dv.bl true)])]).bind fun r24 =>
Cc "list" r24.2 (
(AA d6 (Dv.int 2)).bind fun d25 =>
(GR (Dv.int 1)).bind fun d26 =>
(Lj d25 d26).bind fun d27 =>
(items d27).bind fun s28 =>
CD s28 ((AN Bx s28).bind fun y30 =>
(Ds r24.2 [(Dv.lst y30)]).bind fun r31 =>
some (t0_1,t0_2_1,r31.2))))
noncomputable def Bg (t0_1:Dv) (t0_2_1:Dv) (r3_2:Dv) (t4_1:Dv) (t4_2:Dv) (d6:Dv):Option (Dv×Dv×Dv):=
(AA d6 (Dv.int 0)).bind fun d7 =>
(RB d7 (Dv.str [100,111])).bind fun b8 =>
if b8=true then
(Ao t0_1).bind fun d9 =>
(Bc t0_2_1 t4_1 d9).bind fun d10 =>
Cc "list" t0_1 (
(AS t0_1 [d6]).bind fun r11 =>
some (r11.2,d10,r3_2))
else
((DB t0_1 t0_2_1 r3_2 t4_1 t4_2 d6)).bind fun t32 =>
some (t32.1,t32.2.1,t32.2.2)
noncomputable def Ad (a0:Dv) (t0:Dv×Dv×Dv):Option (Dv×Dv×Dv):=
Cc "list" t0.2.2 (
(RH t0.2.2 []).bind fun r3 =>
(KH [5,6] r3.1).bind fun (t4:Dv×Dv) =>
(iU t4.1 t0.2.1).bind fun b5 =>
if b5=true then
some (t0.1,t0.2.1,r3.2)
else
(AA a0 t4.1).bind fun d6 =>
((Bg t0.1 t0.2.1 r3.2 t4.1 t4.2 d6)).bind fun t33 =>
some (t33.1,t33.2.1,t33.2.2))
noncomputable def CV (a0 a1:Dv):Option (Dv):=
(YE Bf (Ad a0) 1000000 ((Dv.lst []),(Dv.dct [] []),(Dv.lst [(Dv.tup [a1,(Dv.bl false)])]))).bind fun t34 =>
(AI t34.1).bind fun d35 =>
(Ao t34.1).bind fun d36 =>
(NS d36 (Dv.int 1)).bind fun d37 =>
some (Dv.tup [d35,d37])
theorem Mz:DO md bw (top 21) [] 1=true:=by kernel_rfl
theorem Mq:FD md bw (top 21) [] 1 (two CV):=Va (by kernel_rfl) fun _ _=>(by kernel_rfl)
def bu:List (Str×Sig):=("_law_ordered", AW (AC (top 21)) [] 1 false (two CV))::bw
noncomputable def Ec (x6:Dv):Option Dv:=
some (Dv.tup [(Dv.str [105,110,112,117,116]),x6])
noncomputable def Eb (x10:Dv):Option Dv:=
some (Dv.tup [(Dv.str [102,105,120,101,100]),x10])
noncomputable def KW (a1:Dv) (c19_2:Dv):Option (Bool×Dv):=
(AA a1 (Dv.int 1)).bind fun d23 =>
(Ao d23).bind fun d24 =>
(ZG d24 (Dv.int 0)).bind fun b25 =>
if b25=true then
(AL c19_2 (Dv.int 4)).bind fun c26 =>
(ZG c26.1 (Dv.int 0)).bind fun b27 =>
some (b27,c26.2)
else
some (false,c19_2)
noncomputable def Gk (a1:Dv) (t17_2:Dv) (c19_2:Dv):Option (Bool×Dv):=
(Ao t17_2).bind fun d21 =>
(ZG d21 (Dv.int 0)).bind fun b22 =>
if b22=true then
((KW a1 c19_2)).bind fun t28 =>
some (t28.1,t28.2)
else
some (false,c19_2)
noncomputable def Gv (t17_2:Dv) (x37:Dv) (t38:Dv):Option (Dv×Dv):=
(Ao t17_2).bind fun d39 =>
(NS d39 (Dv.int 1)).bind fun d40 =>
(Ao t17_2).bind fun d41 =>
(AL t38 d41).bind fun c42 =>
(AL c42.2 (Dv.int 2)).bind fun c43 =>
(AA (Dv.lst [d40,c42.1]) c43.1).bind fun d44 =>
some (d44,c43.2)
noncomputable def Gp (a1:Dv) (t17_2:Dv) (c19_2:Dv) (d20:Dv):Option (Dv×Dv):=
((Gk a1 t17_2 c19_2)).bind fun t29 =>
if t29.1=true then
(AA a1 (Dv.int 1)).bind fun d30 =>
(AA a1 (Dv.int 1)).bind fun d31 =>
(Ao d31).bind fun d32 =>
(AL t29.2 d32).bind fun c33 =>
(AA d30 c33.1).bind fun d34 =>
(KH [8,9] d34).bind fun (t35:Dv×Dv) =>
(BG [t35.2]).bind fun s36 =>
CD s36 ((BB (Gv t17_2) s36 c33.2).bind fun p45 =>
(AI (Dv.lst p45.1)).bind fun d46 =>
some (p45.2,(Dv.tup [(Dv.str [100,111]),t35.1,d46])))
else
some (t29.2,d20)
noncomputable def KY (t17_2:Dv) (t47_2:Dv):Option (Dv):=
(NO t47_2 t17_2).bind fun b48 =>
if b48=true then
Cc "list" t17_2 (
(AS t17_2 [t47_2]).bind fun r49 =>
some r49.2)
else
some t17_2
noncomputable def Gw (a1:Dv) (d12:Dv) (x16:Dv) (t17:Dv×Dv):Option (Dv×Dv):=
(Ao d12).bind fun d18 =>
(AL t17.1 d18).bind fun c19 =>
(AA d12 c19.1).bind fun d20 =>
((Gp a1 t17.2 c19.2 d20)).bind fun t47 =>
((KY t17.2 t47.2)).bind fun t50 =>
some (t47.1,t50)
noncomputable def Fg (a0 a1 a2 a3:Dv):Option (Dv×Dv):=
(AA a1 (Dv.int 0)).bind fun d0 =>
(Ao d0).bind fun d1 =>
(Dy d1 (Dv.int 0)).bind fun b2 =>
(FC (Dv.bl b2)).bind fun d3 =>
(FB a2 d3).bind fun d4 =>
(BG [d4]).bind fun s5 =>
CD s5 ((AN Ec s5).bind fun y7 =>
(AA a1 (Dv.int 0)).bind fun d8 =>
(items d8).bind fun s9 =>
CD s9 ((AN Eb s9).bind fun y11 =>
(Aq (Dv.lst y7) (Dv.lst y11)).bind fun d12 =>
(AL a0 a3).bind fun c13 =>
(Aq (Dv.int 1) c13.1).bind fun d14 =>
(BG [d14]).bind fun s15 =>
(Av (Gw a1 d12) s15 (c13.2,(Dv.lst []))).bind fun t51 =>
(Ao t51.2).bind fun d52 =>
(NS d52 (Dv.int 1)).bind fun d53 =>
(CV t51.2 d53).bind fun c54 =>
some (c54,t51.1)))
theorem XT:DO md bu (top 22) [0] 1=true:=by kernel_rfl
theorem XH:FD md bu (top 22) [0] 1 (DM Fg):=ZE (by kernel_rfl) fun _ _ _ _=>(by kernel_rfl)
def bq:List (Str×Sig):=("_law_form", AW (AC (top 22)) [0] 1 false (DM Fg))::bu
noncomputable def EL (c7_1:Dv) (x9:Dv) (t10:Dv):Option (Dv×Dv):=
(AA c7_1 (Dv.int 0)).bind fun d11 =>
(AL t10 d11).bind fun c12 =>
some (c12.1,c12.2)
noncomputable def Cj (a1:Dv) (a2:Dv) (a4:Dv) (x3:Dv) (t4:Dv×Dv):Option (Dv×Dv):=
(AL t4.1 a4).bind fun c5 =>
(Aq (Dv.int 1) c5.1).bind fun d6 =>
(Ee c5.2 a1 d6).bind fun c7 =>
Cc "list" t4.2 (
(BG [a2]).bind fun s8 =>
CD s8 ((BB (EL c7.1) s8 c7.2).bind fun p13 =>
(AI (Dv.lst p13.1)).bind fun d14 =>
(AS t4.2 [(Dv.tup [c7.1,d14])]).bind fun r15 =>
some (p13.2,r15.2)))
noncomputable def DF (a0 a1 a2 a3 a4:Dv):Option (Dv×Dv):=
(AL a0 a3).bind fun c0 =>
(Aq (Dv.int 1) c0.1).bind fun d1 =>
(BG [d1]).bind fun s2 =>
(Av (Cj a1 a2 a4) s2 (c0.2,(Dv.lst []))).bind fun t16 =>
(AI t16.2).bind fun d17 =>
some (d17,t16.1)
theorem Qb:DO md bq (top 23) [0] 1=true:=by kernel_rfl
theorem QQ:FD md bq (top 23) [0] 1 (Ml DF):=jd (by kernel_rfl) fun _ _ _ _ _=>(by kernel_rfl)
def bp:List (Str×Sig):=("_law_points", AW (AC (top 23)) [0] 1 false (Ml DF))::bq
noncomputable def FZ (x2:Dv) (t3:Dv×Dv):Option (Dv×Dv):=
(KH [6,7] x2).bind fun (t4:Dv×Dv) =>
Cc "list" t3.2 (
(Lm t4.2).bind fun d5 =>
(AL t3.1 (Dv.int 2)).bind fun c6 =>
(AA (Dv.lst [t4.2,d5]) c6.1).bind fun d7 =>
(AS t3.2 [(Dv.tup [t4.1,d7])]).bind fun r8 =>
some (c6.2,r8.2))
noncomputable def Ef (a0 a1 a2 a3 a4:Dv):Option (Dv×Dv):=
(DF a0 a1 a2 a3 a4).bind fun c0 =>
(items c0.1).bind fun s1 =>
(Av FZ s1 (c0.2,(Dv.lst []))).bind fun t9 =>
(AI t9.2).bind fun d10 =>
some (d10,t9.1)
theorem UP:DO md bp (top 24) [0] 1=true:=by kernel_rfl
theorem Tz:FD md bp (top 24) [0] 1 (Ml Ef):=jd (by kernel_rfl) fun _ _ _ _ _=>(by kernel_rfl)
def bo:List (Str×Sig):=("_law_spots", AW (AC (top 24)) [0] 1 false (Ml Ef))::bp
noncomputable def IP (x2:Dv):Option Dv:=
(KH [8,9] x2).bind fun (t3:Dv×Dv) =>
some t3.1
noncomputable def IJ (a2:Dv) (y4:List Dv):Option (Dv):=
Option.or (Cc "list" (Dv.lst y4) (
(Bu (Dv.lst y4) a2).bind fun d6 =>
some d6)) (Cc "tuple" (Dv.lst y4) (
(Bn (Dv.lst y4) a2).bind fun d7 =>
some d7))
noncomputable def Df (x11:Dv) (t12:Dv):Option (Dv):=
(AA t12 x11).bind fun d13 =>
some d13
noncomputable def Dh (a0 a1 a2 a3:Dv):Option (Dv):=
(AA a0 (Dv.int 1)).bind fun d0 =>
(items d0).bind fun s1 =>
CD s1 ((AN IP s1).bind fun y4 =>
(AA a1 (Dv.int 2)).bind fun d5 =>
((IJ a2 y4)).bind fun t8 =>
(AA d5 t8).bind fun d9 =>
(items a3).bind fun s10 =>
(Av Df s10 d9).bind fun t14 =>
some t14)
theorem UV:DO md bo (top 25) [] 0=true:=by kernel_rfl
theorem UF:FD md bo (top 25) [] 0 (DM Dh):=ZE (by kernel_rfl) fun _ _ _ _=>(by kernel_rfl)
def bj:List (Str×Sig):=("_law_acted", AW (AC (top 25)) [] 0 false (DM Dh))::bo
noncomputable def DX (a3:Dv) (x2:Dv) (t3:Dv):Option (Dv):=
(AA x2 (Dv.int 0)).bind fun d4 =>
(Dy d4 (Dv.str [105,110,112,117,116])).bind fun b5 =>
if b5=true then
Cc "list" t3 (
(AA x2 (Dv.int 1)).bind fun d6 =>
(AA a3 d6).bind fun d7 =>
(AS t3 [d7]).bind fun r8 =>
some r8.2)
else
some t3
noncomputable def FR (a0:Dv) (x2:Dv):Option (Dv):=
Option.or ((AA a0 (Dv.int 0)).bind fun d13 =>
Cc "list" d13 (
(AA x2 (Dv.int 1)).bind fun d14 =>
(Bu d13 d14).bind fun d15 =>
some d15)) ((AA a0 (Dv.int 0)).bind fun d16 =>
Cc "tuple" d16 (
(AA x2 (Dv.int 1)).bind fun d17 =>
(Bn d16 d17).bind fun d18 =>
some d18))
noncomputable def DW (a0:Dv) (a2:Dv) (x2:Dv) (t9:Dv):Option (Dv):=
(AA x2 (Dv.int 0)).bind fun d10 =>
(Dy d10 (Dv.str [102,105,120,101,100])).bind fun b11 =>
if b11=true then
Cc "list" t9 (
(AA a2 (Dv.int 1)).bind fun d12 =>
((FR a0 x2)).bind fun t19 =>
(AA d12 t19).bind fun d20 =>
(AS t9 [d20]).bind fun r21 =>
some r21.2)
else
some t9
noncomputable def Dc (t22:Dv) (x28:Dv):Option Dv:=
(AA t22 x28).bind fun d29 =>
some d29
noncomputable def DV (a0:Dv) (a2:Dv) (x2:Dv) (t22:Dv):Option (Dv):=
(AA x2 (Dv.int 0)).bind fun d23 =>
(Dy d23 (Dv.str [100,111])).bind fun b24 =>
if b24=true then
Cc "list" t22 (
(AA x2 (Dv.int 1)).bind fun d25 =>
(AA x2 (Dv.int 2)).bind fun d26 =>
(items d26).bind fun s27 =>
CD s27 ((AN (Dc t22) s27).bind fun y30 =>
(Dh a0 a2 d25 (Dv.lst y30)).bind fun c31 =>
(AS t22 [c31]).bind fun r32 =>
some r32.2))
else
some t22
noncomputable def BX (a0:Dv) (a2:Dv) (a3:Dv) (x2:Dv) (t3:Dv):Option (Dv):=
((DX a3 x2 t3)).bind fun t9 =>
((DW a0 a2 x2 t9)).bind fun t22 =>
((DV a0 a2 x2 t22)).bind fun t33 =>
some t33
noncomputable def Ei (a0 a1 a2 a3:Dv):Option (Dv):=
(AA a1 (Dv.int 0)).bind fun d0 =>
(items d0).bind fun s1 =>
(Av (BX a0 a2 a3) s1 (Dv.lst [])).bind fun t34 =>
(GR (Dv.int 1)).bind fun d35 =>
(AA t34 d35).bind fun d36 =>
some d36
theorem UT:DO md bj (top 26) [] 0=true:=by kernel_rfl
theorem UD:FD md bj (top 26) [] 0 (DM Ei):=ZE (by kernel_rfl) fun _ _ _ _=>(by kernel_rfl)
def bh:List (Str×Sig):=("_law_comes", AW (AC (top 26)) [] 0 false (DM Ei))::bj
noncomputable def EM (x2:Dv) (x7:Dv):Option Dv:=
(AA x7 x2).bind fun d8 =>
some d8
noncomputable def Gy (a0:Dv) (a1:Dv) (a2:Dv) (a3:Dv) (x2:Dv) (t3:Dv):Option (Dv):=
Cc "list" t3 (
(AA a1 x2).bind fun d4 =>
(AA d4 (Dv.int 0)).bind fun d5 =>
(items a3).bind fun s6 =>
CD s6 ((AN (EM x2) s6).bind fun y9 =>
(Dh a0 d5 a2 (Dv.lst y9)).bind fun c10 =>
(AS t3 [c10]).bind fun r11 =>
some r11.2))
noncomputable def DH (a0 a1 a2 a3:Dv):Option (Dv):=
(Ao a1).bind fun d0 =>
(BG [d0]).bind fun s1 =>
(Av (Gy a0 a1 a2 a3) s1 (Dv.lst [])).bind fun t12 =>
(AI t12).bind fun d13 =>
some d13
theorem Qc:DO md bh (top 27) [] 1=true:=by kernel_rfl
theorem QR:FD md bh (top 27) [] 1 (DM DH):=ZE (by kernel_rfl) fun _ _ _ _=>(by kernel_rfl)
def bg:List (Str×Sig):=("_law_done_on", AW (AC (top 27)) [] 1 false (DM DH))::bh
noncomputable def Nu (x4:Dv) (x7:Dv):Option Dv:=
(KH [5,6] x7).bind fun (t8:Dv×Dv) =>
(AA t8.2 x4).bind fun d9 =>
some d9
noncomputable def Nw (a1:Dv) (x4:Dv) (t5:Dv):Option (Dv):=
Cc "list" t5 (
(items a1).bind fun s6 =>
CD s6 ((AN (Nu x4) s6).bind fun y10 =>
(AI (Dv.lst y10)).bind fun d11 =>
(AS t5 [d11]).bind fun r12 =>
some r12.2))
noncomputable def Nt (x17:Dv) (x20:Dv):Option Dv:=
(KH [5,6] x20).bind fun (t21:Dv×Dv) =>
(AA t21.1 (Dv.int 1)).bind fun d22 =>
(AA d22 x17).bind fun d23 =>
some d23
noncomputable def Nv (a1:Dv) (x17:Dv) (t18:Dv):Option (Dv):=
Cc "list" t18 (
(items a1).bind fun s19 =>
CD s19 ((AN (Nt x17) s19).bind fun y24 =>
(AI (Dv.lst y24)).bind fun d25 =>
(AS t18 [d25]).bind fun r26 =>
some r26.2))
noncomputable def Ke (a0 a1:Dv):Option (Dv):=
(AA a1 (Dv.int 0)).bind fun d0 =>
(AA d0 (Dv.int 1)).bind fun d1 =>
(Ao d1).bind fun d2 =>
(BG [d2]).bind fun s3 =>
(Av (Nw a1) s3 (Dv.lst [])).bind fun t13 =>
(AA a0 (Dv.int 0)).bind fun d14 =>
(Ao d14).bind fun d15 =>
(BG [d15]).bind fun s16 =>
(Av (Nv a1) s16 t13).bind fun t27 =>
some t27
theorem cQ:DO md bg (top 28) [] 1=true:=by kernel_rfl
theorem cI:FD md bg (top 28) [] 1 (two Ke):=Va (by kernel_rfl) fun _ _=>(by kernel_rfl)
def bf:List (Str×Sig):=("_law_own", AW (AC (top 28)) [] 1 false (two Ke))::bg
noncomputable def FM (a0:Dv) (a1:Dv):Option (Bool):=
(EA a1 (Dv.ty "tuple")).bind fun d2 =>
(EA a0 (Dv.ty "tuple")).bind fun d3 =>
(RB d2 d3).bind fun b4 =>
if b4=true then
some true
else
(EA a1 (Dv.ty "list")).bind fun d5 =>
(EA a0 (Dv.ty "list")).bind fun d6 =>
(RB d5 d6).bind fun b7 =>
some b7
noncomputable def FY (self:Dv->Dv->Option (Dv)) (x14:Dv):Option Dv:=
(KH [3,4] x14).bind fun (t15:Dv×Dv) =>
(self t15.1 t15.2).bind fun c16 =>
bif nol c16 then
some c16
else none
noncomputable def FS (self:Dv->Dv->Option (Dv)) (a0:Dv) (a1:Dv):Option (Dv):=
(Ao a0).bind fun d9 =>
(Ao a1).bind fun d10 =>
(Dy d9 d10).bind fun b11 =>
ZI (Dv.bl b11) fun b12 =>
if b12=true then
(IQ [a0,a1]).bind fun s13 =>
CD s13 ((AN (FY (self)) s13).bind fun y17 =>
(Ln (Dv.lst y17)).bind fun d18 =>
some d18)
else
some (Dv.bl false)
noncomputable def II (a0:Dv) (a1:Dv):Option (Dv):=
(EA a0 (Dv.tup [(Dv.ty "int"),(Dv.ty "str")])).bind fun d25 =>
ZI d25 fun b26 =>
if b26=true then
(Dy a0 a1).bind fun b27 =>
some (Dv.bl b27)
else
some (Dv.bl false)
noncomputable def AO:Nat->Dv->Dv->Option (Dv)
 | 0,_,_=>none
 | n+1,a0,a1=>(
(EA a1 (Dv.tup [(Dv.ty "tuple"),(Dv.ty "list")])).bind fun d0 =>
(KC d0).bind fun b1 =>
if b1=true then
((FM a0 a1)).bind fun t8 =>
if t8=true then
some (Dv.bl false)
else
((FS (AO n) a0 a1)).bind fun t19 =>
some t19
else
(RC a1 Dv.non).bind fun b20 =>
if b20=true then
(RC a0 Dv.non).bind fun b21 =>
some (Dv.bl b21)
else
(EA a1 (Dv.ty "bool")).bind fun d22 =>
(EA a0 (Dv.ty "bool")).bind fun d23 =>
(RB d22 d23).bind fun b24 =>
if b24=true then
some (Dv.bl false)
else
((II a0 a1)).bind fun t28 =>
some t28)
theorem UU (n:Nat):DO md (("_law_alike", AW (AC (top 29)) [] 0 true (two (AO n)))::bf) (top 29) [] 0=true:=by kernel_rfl
theorem UE (n:Nat):FD md (("_law_alike", AW (AC (top 29)) [] 0 true (two (AO n)))::bf) (top 29) [] 0 (two (AO (n+1))):=Va (by kernel_rfl) fun _ _=>(by kernel_rfl)
def XC:List (Str×Sig):=("_law_alike", AW (AC (top 29)) [] 0 true (two (AO 200)))::bf
noncomputable def JL (x1:Dv) (t2:Dv):Option (Dv×Dv):=
(KH [3,4] x1).bind fun (t3:Dv×Dv) =>
(AA t3.1 (Dv.int 0)).bind fun d4 =>
(AL t2 d4).bind fun c5 =>
some (c5.1,c5.2)
noncomputable def Kd (a0 a1:Dv):Option (Dv×Dv):=
(items a1).bind fun s0 =>
CD s0 ((BB JL s0 a0).bind fun p6 =>
(AI (Dv.lst p6.1)).bind fun d7 =>
some (d7,p6.2))
theorem cP:DO md XC (top 30) [0] 1=true:=by kernel_rfl
theorem cH:FD md XC (top 30) [0] 1 (two Kd):=Va (by kernel_rfl) fun _ _=>(by kernel_rfl)
def bc:List (Str×Sig):=("_law_row", AW (AC (top 30)) [0] 1 false (two Kd))::XC
noncomputable def FX (a1:Dv) (x2:Dv) (x5:Dv):Option Dv:=
(KH [15,16] x5).bind fun (t6:Dv×Dv) =>
(Ei a1 x2 t6.1 t6.2).bind fun c7 =>
some c7
noncomputable def De (a1:Dv) (a2:Dv) (x2:Dv) (t3:Unit):Option (Lp Dv (Unit) (Unit)):=
(items a2).bind fun s4 =>
CD s4 ((AN (FX a1 x2) s4).bind fun y8 =>
(AI (Dv.lst y8)).bind fun d9 =>
(JM a1 a2 x2).bind fun c10 =>
(AO 200 c10 d9).bind fun c11 =>
bif nol c11 then
(KC c11).bind fun b12 =>
if (!b12)=true then
some (.rt (Dv.bl false) ())
else
some (.go ())
else none)
noncomputable def FW (a2:Dv) (x25:Dv) (t26:Dv):Option (Dv×Dv):=
(Kd t26 a2).bind fun c27 =>
some (c27.1,c27.2)
noncomputable def FK (a1:Dv) (a2:Dv) (t20_1:Dv) (c29:Dv) (d31:Dv) (d32:Dv):Option (Bool):=
(Ej a1 a2 t20_1 d31).bind fun c33 =>
(AO 200 c33 c29).bind fun c34 =>
bif nol c34 then
(KC c34).bind fun b35 =>
if (!b35)=true then
some true
else
(FA d31).bind fun d36 =>
(RB d36 d32).bind fun b37 =>
some b37
else none
noncomputable def Fe (a1:Dv) (a2:Dv) (t20_1:Dv) (t20_2:Dv) (x22:Dv) (t23:Dv):Option (Lp Dv (Dv) (Dv)):=
(BG [t20_2]).bind fun s24 =>
CD s24 ((BB (FW a2) s24 t23).bind fun p28 =>
(DH a1 a2 t20_1 (Dv.lst p28.1)).bind fun c29 =>
(AI (Dv.lst p28.1)).bind fun d30 =>
(AA (Dv.lst [(Dv.lst p28.1),d30]) x22).bind fun d31 =>
(FA d31).bind fun d32 =>
((FK a1 a2 t20_1 c29 d31 d32)).bind fun t38 =>
if t38=true then
some (.rt (Dv.bl false) p28.2)
else
some (.go p28.2))
noncomputable def Fc (a1:Dv) (a2:Dv) (x18:Dv) (t19:Dv):Option (Lp Dv (Dv) (Dv)):=
(KH [7,8] x18).bind fun (t20:Dv×Dv) =>
(BG [(Dv.int 2)]).bind fun s21 =>
(HV (Fe a1 a2 t20.1 t20.2) s21 t19).bind fun l42=>l42.el (fun (t39:Dv) =>
some (.go t39)) fun (e40:Dv) (r41:Dv) =>
some (.rt e40 r41)
noncomputable def FO (a1:Dv) (a2:Dv) (d0:Dv) (c46:Dv):Option (Dv):=
(CU a1 a2).bind fun c51 =>
(AO 200 c51 c46).bind fun c52 =>
bif nol c52 then
ZI c52 fun b53 =>
if b53=true then
(FA a2).bind fun d54 =>
(Dy d54 d0).bind fun b55 =>
some (Dv.bl b55)
else
some (Dv.bl false)
else none
noncomputable def Eh (a0 a1 a2 a3:Dv):Option (Dv×Dv):=
(FA a2).bind fun d0 =>
(items a3).bind fun s1 =>
(HV (De a1 a2) s1 ()).bind fun l58=>l58.el (fun (t13:Unit) =>
(AA a1 (Dv.int 1)).bind fun d16 =>
(items d16).bind fun s17 =>
(HV (Fc a1 a2) s17 a0).bind fun l57=>l57.el (fun (t43:Dv) =>
(Ke a1 a2).bind fun c46 =>
(CU a1 a2).bind fun c47 =>
(AO 200 c47 c46).bind fun c48 =>
bif nol c48 then
(KC c48).bind fun b49 =>
if (!b49)=true then
some ((Dv.bl false),t43)
else
Cc "list" c47 (
(AS c47 [(Dv.tup [])]).bind fun r50 =>
((FO a1 a2 d0 c46)).bind fun t56 =>
some (t56,t43))
else none) fun (e44:Dv) (r45:Dv) =>
some (e44,r45)) fun (e14:Dv) (r15:Unit) =>
some (e14,a0)
theorem UR:DO md bc (top 31) [0] 0=true:=by kernel_rfl
theorem UB:FD md bc (top 31) [0] 0 (DM Eh):=ZE (by kernel_rfl) fun _ _ _ _=>(by kernel_rfl)
def gP:List (Str×Sig):=("_law_right", AW (AC (top 31)) [0] 0 true (DM Eh))::bc
noncomputable def MH (c1_1:Dv) (d7:Dv) (x9:Dv) (t10:Dv):Option (Dv×Dv):=
(Fg t10 c1_1 d7 (Dv.int 12)).bind fun c11 =>
some (c11.1,c11.2)
noncomputable def MG (c1_1:Dv) (d7:Dv) (x15:Dv) (t16:Dv):Option (Dv×Dv):=
(Ef t16 c1_1 d7 (Dv.int 6) (Dv.int 4)).bind fun c17 =>
some (c17.1,c17.2)
noncomputable def MF (c1_1:Dv) (p12_1:List Dv) (x22:Dv) (t23:Dv):Option (Dv×Dv):=
(Eh t23 c1_1 x22 (Dv.lst p12_1)).bind fun c24 =>
some (c24.1,c24.2)
noncomputable def Vv (a0:Dv):Option (Dv):=
(DG a0 (Dv.int 0)).bind fun c0 =>
(Eg c0).bind fun c1 =>
(AL c1.2 (Dv.int 4)).bind fun c2 =>
(AA c1.1 (Dv.int 0)).bind fun d3 =>
(Ao d3).bind fun d4 =>
(Dy d4 (Dv.int 0)).bind fun b5 =>
(FC (Dv.bl b5)).bind fun d6 =>
(FB c2.1 d6).bind fun d7 =>
(BG [(Dv.int 2)]).bind fun s8 =>
CD s8 ((BB (MH c1.1 d7) s8 c2.2).bind fun p12 =>
(DG a0 (Dv.int 1)).bind fun c13 =>
(BG [(Dv.int 2)]).bind fun s14 =>
CD s14 ((BB (MG c1.1 d7) s14 c13).bind fun p18 =>
(KD (Dv.lst p18.1) none (some 1)).bind fun d19 =>
(Aq (Dv.lst p18.1) d19).bind fun d20 =>
(items d20).bind fun s21 =>
CD s21 ((BB (MF c1.1 p12.1) s21 p18.2).bind fun p25 =>
(Ln (Dv.lst p25.1)).bind fun d26 =>
some d26)))
theorem gm:DO md gP (top 32) [] 1=true:=by kernel_rfl
theorem gh:FD md gP (top 32) [] 1 (one Vv):=kZ (by kernel_rfl) fun _=>(by kernel_rfl)
end My
set_option maxHeartbeats 1000000
namespace R
open PySem L2
def Fd (x:Dv):Prop:=∃ a b:Int,x=.lst [.int a,.int b]
def Tx (N:Nat) (x:Dv):Prop:=∃ l,x=.str l/\l.length<=N/\∀ c∈l,c < 128
theorem Tx.mono {N M:Nat} {x:Dv} (h:Tx N x) (le:N<=M):Tx M x:=let ⟨l,e,h1,h2⟩:=h;⟨l,e,lR h1 le,h2⟩
section
variable {γ τ ρ:Type}
theorem Aw (g:Dv->γ->Option (Dv×γ)) (P:γ->Prop) (R:Dv->Prop):∀ (xs:List Dv) (c:γ),P c->(∀ x∈xs,∀ c,P c->∃ d c',g x c=some (d,c')/\R d/\P c')->∃ ds c',BB g xs c=some (ds,c')/\ds.length=xs.length/\(∀ d∈ds,R d)/\P c'
 | [],c,hc,_=>⟨[],c,rfl,rfl,fun _ z=>(mM z).elim,hc⟩
 | x::xs,c,hc,h=>by
  obtain ⟨d,c1,e1,r1,p1⟩:=h x lE c hc;obtain ⟨ds,c2,e2,l2,r2,p2⟩:=Aw g P R xs c1 p1 fun y hy=>h y (lG _ hy)
  refine ⟨d::ds,c2,by simp only [BB,e1,e2,dL],by rw [lX,lX,l2],fun y hy=>?_,p2⟩;rcases lO.mp hy with rfl | hy
  ·exact r1
  ·exact r2 y hy
theorem HW (g:Dv->γ->Option γ) (I:Nat->γ->Prop):∀ (xs:List Dv) (k:Nat) (c:γ),I k c->(∀ i x,xs[i]?=some x->∀ c,I (k+i) c->∃ c',g x c=some c'/\I (k+i+1) c')->∃ c',Av g xs c=some c'/\I (k+xs.length) c'
 | [],k,c,hc,_=>⟨c,rfl,hc⟩
 | x::xs,k,c,hc,h=>by
  obtain ⟨c1,e1,i1⟩:=h 0 x rfl c hc;obtain ⟨c2,e2,i2⟩:=HW g I xs (k+1) c1 i1 fun i y hy c hc=>by
   have:=h (i+1) y hy c (by rw [show k+(i+1)=k+1+i by omega];exact hc);rw [show k+(i+1)+1=k+1+i+1 by omega] at this;exact this
  exact ⟨c2,by simp only [Av,e1,e2,dL],by rw [lX,show k+(xs.length+1)=k+1+xs.length by omega];exact i2⟩
theorem LH (g:Dv->Option Dv) (f:Dv->Dv):∀ (xs:List Dv),(∀ x∈xs,g x=some (f x))->AN g xs=some (xs.map f)
 | [],_=>rfl
 | x::xs,h=>by simp only [AN,h x lE,LH g f xs fun y hy=>h y (lG _ hy),dL,lI]
theorem OX (g:Dv->γ->Option (Lp τ γ ρ)) (c:γ):∀ (xs:List Dv),(∀ x∈xs,g x c=some (.go c))->HV g xs c=some (.go c)
 | [],_=>rfl
 | x::xs,h=>by simp only [HV,h x lE,dL];exact OX g c xs fun y hy=>h y (lG _ hy)
theorem AJ {α:Type} {xs:List Dv} {o:Option α} (h:xs.length<=1000000):CD xs o=o:=by unfold CD;rw [if_pos h]
end
theorem atI_nat {α:Type} (xs:List α) (i:Nat) (h:i < xs.length):DQ xs (i:Int)=some xs[i]:=by
 unfold DQ Me;rw [if_pos (by omega),if_pos (by omega)];simp [h]
theorem GZ {α:Type} {xs:List α} {i:Int} (h0:0<=i) (h:i < xs.length):∃ x∈xs,DQ xs i=some x:=by
 obtain ⟨n,rfl⟩:∃ n:Nat,i=n:=⟨i.toNat,by omega⟩;exact ⟨xs[n]'(by omega),mZ _,atI_nat xs n (by omega)⟩
theorem ZJ {xs:List Dv} {i:Int} (h0:0<=i) (h:i < xs.length):∃ x∈xs,AA (.lst xs) (.int i)=some x:=GZ h0 h
theorem VQ {xs:List Dv} {i:Int} (h0:0<=i) (h:i < xs.length):∃ x∈xs,AA (.tup xs) (.int i)=some x:=GZ h0 h
theorem iF {l:List Nat} {i:Int} (h0:0<=i) (h:i < l.length) (hl:l.length<=1000000):∃ c∈l,AA (.str l) (.int i)=some (.str [c]):=by
 obtain ⟨c,hc,e⟩:=GZ h0 h;exact ⟨c,hc,by simp only [AA,if_pos hl,e,lp]⟩
theorem Dk {n:Int} (h0:-1000000000<=n) (h:n<=1000000000):BG [.int n]=some ((List.range n.toNat).map fun k=>.int (k:Nat)):=by
 have:small n=true:=by unfold small;simp [h0,h]
 simp only [BG,this,cond_true,Int.zero_add]
theorem HB (n:Nat) (h:n<=1000000):BG [.int (n:Nat)]=some ((List.range n).map fun k=>.int (k:Nat)):=by
 have:=Dk (n:=(n:Int)) (by omega) (by omega);simpa using this
theorem Bw {α:Type} (xs:List Dv) (o:Option α):Cc "list" (.lst xs) o=o:=rfl
theorem gG {α:Type} (l:List Nat) (o:Option α):Cc "str" (.str l) o=o:=rfl
theorem gF {α:Type} (xs:List Dv) (o:Option α):Cc "tuple" (.tup xs) o=o:=rfl
theorem Yk {α:Type} (xs:List Dv) (o:Option α):Cc "list" (.tup xs) o=none:=rfl
theorem dG {R:Type} (b:Bool) (k:Bool->Option R):ZI (.bl b) k=k b:=rfl
theorem iC {R:Type} (i:Int) (k:Int->Option R):dc (.int i) k=k i:=rfl
theorem Lx (b:Bool):KC (.bl b)=some b:=rfl
theorem Wn (b:Bool):nol (.bl b)=true:=rfl
theorem Cy {β:Type} {i j:Nat} (x y:Dv) (f:Dv×Dv->Option β):((KH [i,j] (.tup [x,y])).bind fun (t:Dv×Dv)=>f t)=f (x,y):=rfl
theorem Bj {xs:List Dv} {y:Dv} (h:xs.length<=1000000):AS (.lst xs) [y]=some (.non,.lst (xs++[y])):=by simp only [AS,if_pos h]
theorem gU {xs ys:List Dv} (h:xs.length+ys.length<=1000000):Ds (.lst xs) [.lst ys]=some (.non,.lst (xs++ys)):=by simp only [Ds,if_pos h]
theorem Eo {R:Dv->Dv->Prop}:∀ {xs ys:List Dv},Paired R xs ys->xs.length=ys.length
 | _,_,.nil=>rfl
 | _,_,.cons _ p=>by rw [lX,lX,Eo p]
theorem Jp {α:Type} {xs:List α} {lo hi:Option Int} {x:α} (h:x∈cutA xs lo hi):x∈xs:=List.mem_of_mem_drop (nF h)
theorem Of {α:Type} (xs:List α) (lo hi:Option Int):(cutA xs lo hi).length<=xs.length:=by
 unfold cutA;rw [mm,nR];omega
theorem Jq (l:List Nat) (lo hi:Option Int):QY l lo hi=cutA l lo hi:=rfl
theorem EE:∀ ls:List (List Nat),Ah (ls.map Dv.str)=true
 | []=>rfl
 | x::xs=>by simp only [lI,Ah,Dv.cmp,EE xs,mH]
theorem ED:∀ ls:List (List Nat),BE (ls.map Dv.str)=0
 | []=>rfl
 | x::xs=>by simp only [lI,BE,Dv.dep,ED xs];rfl
theorem Fv (x:List Nat):∀ ls:List (List Nat),JZ (.str x) (ls.map Dv.str)=ls.contains x
 | []=>rfl
 | y::ys=>by
  have:=Fv x ys;simp only [JZ] at this;simp only [JZ,lI,me,this,List.contains_cons,eqV]
  by_cases e:y=x
  ·subst e;simp
  ·have e2:¬ x=y:=fun z=>e z.symm
   have h1:(y == x)=false:=by simpa using e
   have h2:(x == y)=false:=by simpa using e2
   rw [h1,h2]
theorem iB (neg:Bool) (x:List Nat) (ls:List (List Nat)):Jy neg (.str x) (.lst (ls.map Dv.str))=some (if neg=true then !ls.contains x else ls.contains x):=by
 simp only [Jy,iL,Dv.cmp,EE,ED,mH,mF,decide_true,if_true,Fv]
theorem RD (neg:Bool) (x:List Nat) (ls:List (List Nat)):Jy neg (.str x) (.tup (ls.map Dv.str))=some (if neg=true then !ls.contains x else ls.contains x):=by
 simp only [Jy,iL,Dv.cmp,EE,ED,mH,mF,decide_true,if_true,Fv]
theorem Ca (i j:Int):Aq (.int i) (.int j)=some (.int (i+j)):=rfl
theorem Ll (i j:Int) (h:0 < j):DT (.int i) (.int j)=some (.int (i % j)):=by simp only [DT,CF,h,decide_true,if_true]
theorem Co (i j:Int):Dy (.int i) (.int j)=some (decide (i=j)):=by
 simp only [NP,Dv.cmp,Dv.dep,mH,mF,decide_true,if_true,eqV,lN,if_false];congr 1
theorem Tx.add {N M:Nat} {x y:Dv} (h:Tx N x) (h':Tx M y) (hN:N+M<=1000000):∃ z,Aq x y=some z/\Tx (N+M) z:=by
 obtain ⟨l,rfl,h1,h2⟩:=h;obtain ⟨l',rfl,h1',h2'⟩:=h';refine ⟨.str (l++l'),by simp only [Aq,if_pos (show l.length+l'.length<=1000000 by omega)],_,rfl,by rw [la];omega,fun c hc=>?_⟩;rcases lW.mp hc with hc | hc
 ·exact h2 c hc
 ·exact h2' c hc
theorem ZO {c:Nat} (h:c < 128):PyProof.Rows.up1 c < 128:=by
 unfold PyProof.Rows.up1;split<;>omega
theorem Tx.upper {N:Nat} {x:Dv} (h:Tx N x) (hN:N<=1000000):∃ y,EX x=some y/\Tx N y:=by
 obtain ⟨l,rfl,h1,h2⟩:=h;have e:(l.all (fun c=>decide (c < 128)) && decide (l.length<=1000000))=true:=by
  rw [lB];exact ⟨lx.mpr fun c hc=>decide_eq_true (h2 c hc),decide_eq_true (lR h1 hN)⟩
 refine ⟨.str (l.map PyProof.Rows.up1),by simp only [EX,e,if_true],_,rfl,by rw [lZ];exact h1,fun c hc=>?_⟩;obtain ⟨d,hd,rfl⟩:=mB.mp hc;exact ZO (h2 d hd)
theorem IA:∀ ls:List (List Nat),IB (ls.map Dv.str)=some ls
 | []=>rfl
 | x::xs=>by simp only [lI,IB,IA xs,lp]
theorem Mc:∀ {xs:List Dv},(∀ x∈xs,∃ c,x=.str [c]/\c < 128)->xs.length<=1000->∃ z,Hg (.str []) (.lst xs)=some z/\Tx xs.length z:=by
 intro xs h hl;have:∃ cs:List Nat,xs=(cs.map fun c=>[c]).map Dv.str/\∀ c∈cs,c < 128:=by
  clear hl
  induction xs with
  | nil=>exact ⟨[],rfl,fun _ z=>by cases z⟩
  | cons x xs ih =>
   obtain ⟨cs,e,h2⟩:=ih fun y hy=>h y (lG _ hy)
   obtain ⟨c,rfl,hc⟩:=h x lE;refine ⟨c::cs,by rw [e];rfl,fun d hd=>?_⟩;rcases lO.mp hd with rfl | hd
   ·exact hc
   ·exact h2 d hd
 obtain ⟨cs,e,h2⟩:=this;have hlen:xs.length=cs.length:=by rw [e];simp
 have hj:∀ cs:List Nat,jn [] (cs.map fun c=>[c])=cs:=by
  intro cs;cases cs with
  | nil=>rfl
  | cons a b =>
   show [a]++((b.map fun c=>[c]).flatMap fun y=>[]++y)=a::b;have:∀ b:List Nat,((b.map fun c=>[c]).flatMap fun y=>[]++y)=b:=by
    intro b
    induction b with
    | nil=>rfl
    | cons x y ih=>simp only [lI,List.flatMap_cons,ih];rfl
   rw [this];rfl
 have hs:((cs.map fun c=>[c]).map List.length).sum=cs.length:=by
  clear e h2 hlen
  induction cs with
  | nil=>rfl
  | cons a b ih=>rw [lI,lI,List.sum_cons,ih];simp;omega
 rw [e];refine ⟨.str cs,?_,cs,rfl,by simp,h2⟩;simp only [Hg,IA,hj];rw [if_pos (by rw [hs];simp;omega)]
end R
set_option maxHeartbeats 1000000
namespace My
open PySem L2 R
theorem AH {f:Dv} (hf:Fd f) {n:Int} (h0:0 < n) (h1:n < 1073741824):∃ (r:Nat) (f':Dv),AL f (.int n)=some (.int r,f')/\(r:Int) < n/\Fd f':=by
 obtain ⟨a,b,rfl⟩:=hf;have i0:∀ x y:Dv,AA (.lst [x,y]) (.int 0)=some x:=fun _ _=>rfl
 have i1:∀ x y:Dv,AA (.lst [x,y]) (.int 1)=some y:=fun _ _=>rfl
 have s0:∀ x y d:Dv,Bc (.lst [x,y]) (.int 0) d=some (.lst [d,y]):=fun _ _ _=>rfl
 have s1:∀ x y d:Dv,Bc (.lst [x,y]) (.int 1) d=some (.lst [x,d]):=fun _ _ _=>rfl
 have m:∀ x:Int,∃ r:Nat,x % n=r/\(r:Int) < n:=fun x=>⟨(x % n).toNat,by have:=nZ x (show n≠0 by omega);omega,by have:=nZ x (show n≠0 by omega);have:=ny x h0;omega⟩
 have big1:big 48271=true:=by decide
 have big2:big 40692=true:=by decide
 have big3:big 2147483647=true:=by decide
 unfold AL;simp only [i0,dL,CZ]
 by_cases h:0 < a
 ·obtain ⟨r,e,hr⟩:=m a;refine ⟨r,.lst [.int (a / n),.int b],?_,hr,a / n,b,rfl⟩;simp only [h,decide_true,if_true,DT,VR,CF,h0,h1,mH,dL,i0,s0,e]
 ·simp only [h,decide_false,lN,if_false,i1,s1,Dz,big1,big2,big3,Bool.or_true,if_true,dL,DT,VR,CF,Aq,h0,decide_true,show (0:Int) < 2147483647 by decide,show (0:Int) < 2147483399 by decide,show (0:Int) < 8191 by decide,show (8191:Int) < 1073741824 by decide,mH];obtain ⟨r,e,hr⟩:=m (((b * 48271 % 2147483647) * 2147483647+((b * 48271 % 2147483647 * 40692+30103) % 2147483399+1)) / 8191);exact ⟨r,_,by rw [e],hr,_,_,rfl⟩
theorem Ih {ns:List Int} {k:Nat}:∃ f,DG (.scr ns) (.int k)=some f/\Fd f:=by
 have b1:big 7907=true:=by decide
 have b2:big 2147483629=true:=by decide
 have b3:big 31=true:=by decide
 have b4:big 48271=true:=by decide
 have b5:big 40692=true:=by decide
 have c1:∃ c:Int,Gr (.scr ns) (.int k) (.int (7907 * k+13579))=some (.int c):=by
  unfold Gr KZ;simp only [Ao,dL,CZ]
  by_cases h:(k:Int) < ns.length
  ·simp only [h,decide_true,if_true,AA,atI_nat ns k (by omega),lp,dL];exact ⟨_,rfl⟩
  ·simp only [h,decide_false,lN,if_false]
   by_cases h2:0 < (ns.length:Int)
   ·have e:=nZ (k:Int) (show (ns.length:Int)≠0 by omega);have e':=ny (k:Int) h2;obtain ⟨x,_,ex⟩:=GZ e e';simp only [h2,decide_true,if_true,DT,CF,dL,AA,ex,lp,Dz,b1,b3,oD,Bool.or_true,Aq,show (0:Int) < 2147483629 by decide];exact ⟨_,rfl⟩
   ·simp only [h2,decide_false,lN,if_false];exact ⟨_,rfl⟩
 obtain ⟨c,e⟩:=c1;have c2:∃ d:Int,Gq (.int c)=some (.int d):=by
  unfold Gq;simp only [dP,CF,show (decide ((0:Int)<=18) && decide ((18:Int)<=1000000) && decide ((10:Int).natAbs < 2 ^ 64))=true by decide,if_true,dL,CZ];split<;>exact ⟨_,rfl⟩
 obtain ⟨d,e2⟩:=c2;unfold DG;simp only [Dz,b1,b4,b5,oD,Bool.or_true,if_true,dL,Aq,e,e2,DT,CF,show (0:Int) < 2147483629 by decide,show (0:Int) < 2147483646 by decide,decide_true];exact ⟨_,rfl,_,_,rfl⟩
noncomputable abbrev dO:List Nat:=[97,98,99,100,101,102,103,104,105,106,107,108,109,110,111,112,113,114,115,116,117,118,119,120,121,122]
theorem dN:∀ c∈dO,c < 128:=by decide
theorem bI {i:Int} (h0:0<=i) (h:i < 26):∃ c,AA (.str dO) (.int i)=some (.str [c])/\c < 128:=by
 obtain ⟨c,hc,e⟩:=iF (l:=dO) h0 (show i < ((26:Nat):Int) by omega) (by decide);exact ⟨c,e,dN c hc⟩
theorem JK {c:Nat} (h:c < 128):Tx 1 (.str [c]):=⟨[c],rfl,by simp,fun d hd=>by rw [lu] at hd;subst hd;exact h⟩
theorem PN {f:Dv} (hf:Fd f) (xs:List Dv) (hl:xs.length<=1000):∃ z f',(∃ ds,BB Da xs f=some (ds,f')/\Hg (.str []) (.lst ds)=some z)/\Tx xs.length z/\Fd f':=by
 obtain ⟨ds,f',e,hl2,hd,hf'⟩:=Aw Da Fd (fun d=>∃ c,d=.str [c]/\c < 128) xs f hf fun x _ c hc=>by
  obtain ⟨r,f',e,hr,hf'⟩:=AH hc (n:=26) (by decide) (by decide);obtain ⟨c,e2,hc⟩:=bI (i:=r) (by omega) hr;exact ⟨.str [c],f',by unfold Da;simp only [e,e2,dL],⟨c,rfl,hc⟩,hf'⟩
 obtain ⟨z,e2,hz⟩:=Mc hd (by omega);exact ⟨z,f',⟨ds,e,e2⟩,by rw [hl2] at hz;exact hz,hf'⟩
theorem kr {α:Type} (xs:List α) (r:Nat):(cutA xs none (some (r:Int))).length<=r:=by
 unfold cutA;rw [mm];unfold HT.sIx;simp only [];split<;>omega
theorem jQ {α:Type} (xs:List α) (r:Nat) (h:Option Int):(cutA xs (some (r:Int)) h).length<=xs.length - r:=by
 unfold cutA;rw [mm,nR];have:HT.sIx xs.length 0 (some (r:Int))=min r xs.length:=by unfold HT.sIx;simp only [];split<;>omega
 omega
theorem kh {N:Nat} {l:List Nat} (hN:l.length<=1000000) (h:∀ c∈l,c < 128) {lo hi:Option Int} (hl:(cutA l lo hi).length<=N):∃ y,KD (.str l) lo hi=some y/\Tx N y:=
 ⟨.str (QY l lo hi),by simp only [KD,if_pos hN],_,rfl,by rw [Jq];exact hl,fun c hc=>h c (Jp (by rw [<- Jq];exact hc))⟩
noncomputable def gq:List Nat->List Nat
 | []=>[]
 | c::t=>PyProof.Rows.up1 c::t
def Dx:Dv->Dv
 | .str l=>.str (gq l)
 | x=>x
def Nm (p:List Nat) (c:Nat) (x:Dv):Prop:=∃ t,x=.str (p++c::t)
theorem Wu {i:Int} (h0:0<=i) (h:i < 26):AA (.str dO) (.int i)=some (.str [97+i.toNat]):=by
 obtain ⟨n,rfl⟩:∃ n:Nat,i=n:=⟨i.toNat,by omega⟩;have hn:n < 26:=by omega
 have e:∀ k < 26,dO[k]?=some (97+k):=by decide
 have:=atI_nat dO n hn;have e2:=e n hn;rw [lA hn] at e2;simp only [AA,if_pos (show dO.length<=1000000 by decide),this,Option.some.inj e2,lp,oB]
noncomputable def ch (r i:Nat):Nat:=97+(r+7 * i) % 26
theorem gn {r i j:Nat} (hi:i < 26) (hj:j < 26) (h:i≠j):ch r i≠ch r j:=by unfold ch;omega
theorem Ha {l:List Nat} {r:Nat} (h:r<=l.length):QY l none (some (r:Int))=l.take r:=by
 rw [Jq];unfold cutA;have a:HT.sIx l.length 0 none=0:=rfl;have b:HT.sIx l.length l.length (some (r:Int))=r:=by unfold HT.sIx;simp only [];split<;>omega
 rw [a,b];simp
theorem RG {a b:List Nat} (h:a.length+b.length<=1000000):Aq (.str a) (.str b)=some (.str (a++b)):=by simp only [Aq,if_pos h]
theorem MW {l:List Nat} (h:Tx 4 (.str l)):∃ u,FQ (.str l)=some (.str (l++u))/\Tx 5 (.str (l++u)):=by
 obtain ⟨_,e0,h1,h2⟩:=id h;cases e0;unfold FQ;have e:=RD false l [[100,101,102],[108,101,116],[116,101,108,108],[108,111,111,112],[112,105,99,107],[99,97,108,108]];simp only [lI,ma,lN,if_false] at e;simp only [e,dL];split
 ·obtain ⟨z,e1,hz⟩:=h.add (JK (c:=113) (by decide)) (by decide);rw [RG (by simp;omega)] at e1;cases e1;exact ⟨[113],by rw [RG (by simp;omega)];rfl,hz⟩
 ·exact ⟨[],by rw [mU],by rw [mU];exact h.mono (by decide)⟩
theorem HK {f:Dv} (hf:Fd f) {n:Nat} (h2:2<=n) (hn:n<=26):∃ ns f',Bz f (.int n)=some (.lst ns,f')/\ns.length=n/\(∀ x∈ns,Tx 5 x)/\ns.Pairwise (fun x y=>Dx x≠Dx y)/\Fd f':=by
 obtain ⟨r1,f1,e1,b1,hf1⟩:=AH hf (n:=4) (by decide) (by decide);have er:BG [.int r1]=some ((List.range (r1:Int).toNat).map fun k=>.int (k:Nat)):=Dk (by omega) (by omega);obtain ⟨z,f2,⟨ds,e3,e4⟩,hz,hf2⟩:=PN hf1 ((List.range (r1:Int).toNat).map fun k=>.int (k:Nat)) (by simp;omega);have hz:Tx 3 z:=hz.mono (by simp;omega);obtain ⟨zl,rfl,hz1,hz2⟩:=hz;obtain ⟨r7,f7,e7,b7,hf7⟩:=AH hf2 (n:=26) (by decide) (by decide);have el:Ao (.str zl)=some (.int zl.length):=by simp only [Ao,if_pos (show zl.length<=1000000 by omega)]
 obtain ⟨r10,f10,e10,b10,hf10⟩:=AH hf7 (n:=(zl.length:Int)+1) (by omega) (by omega);obtain ⟨r11,f11,e11,b11,hf11⟩:=AH hf10 (n:=4) (by decide) (by decide);have en:BG [.int n]=some ((List.range (n:Int).toNat).map fun k=>.int (k:Nat)):=Dk (by omega) (by omega);obtain ⟨c,e12,ns,rfl,hl,hns,hnm⟩:=HW (Ff (.str zl) (.int r7) (.int r10) (.int r11)) (fun i c=>∃ ns,c=.lst ns/\ns.length=i/\(∀ x∈ns,Tx 5 x)/\∀ j x,ns[j]?=some x->Nm (zl.take r10) (ch r7 j) x) ((List.range (n:Int).toNat).map fun k=>.int (k:Nat)) 0 (.lst []) ⟨[],rfl,rfl,(fun _ z=>(mM z).elim),fun j x h=>by simp at h⟩ fun i x hx c hc=>by
  obtain ⟨ns,rfl,hl,hns,hnm⟩:=hc;rw [lP] at hx;have hi:i < n:=by
   rcases mi i n with h | h
   ·exact h
   ·rw [mK (by simp;omega)] at hx;cases hx
  rw [lA (by simp;omega)] at hx;simp only [lp,Option.some.injEq,nA] at hx;subst hx;have ec:=Wu (i:=((r7:Int)+7 * (i:Nat)) % 26) (nZ _ (by decide)) (ny _ (by decide));have ecc:97+(((r7:Int)+7 * (i:Nat)) % 26).toNat=ch r7 i:=by unfold ch;omega
  rw [ecc] at ec;have hc:ch r7 i < 128:=by unfold ch;omega
  have r10l:r10<=zl.length:=by omega
  have ey1:KD (.str zl) none (some (r10:Int))=some (.str (zl.take r10)):=by simp only [KD,if_pos (show zl.length<=1000000 by omega),Ha r10l]
  have hy1:Tx r10 (.str (zl.take r10)):=⟨_,rfl,by simp;omega,fun c hc=>hz2 c (nF hc)⟩;have ey2:=RG (a:=zl.take r10) (b:=[ch r7 i]) (by simp;omega);obtain ⟨y2',ey2',hy2⟩:=hy1.add (JK hc) (by omega);rw [ey2] at ey2';cases ey2';obtain ⟨y3,ey3,hy3⟩:=kh (by omega) hz2 (jQ zl r10 (some (((r11:Int)+(i:Nat)) % 4)));obtain ⟨t3,rfl,ht3,_⟩:=id hy3;have ey4:=RG (a:=zl.take r10++[ch r7 i]) (b:=t3) (by simp;omega);obtain ⟨y4',ey4',hy4⟩:=hy2.add hy3 (by omega);rw [ey4] at ey4';cases ey4';obtain ⟨u,ey5,hy5⟩:=MW (hy4.mono (by omega));refine ⟨.lst (ns++[.str (zl.take r10++[ch r7 i]++t3++u)]),?_,ns++[.str (zl.take r10++[ch r7 i]++t3++u)],rfl,by rw [la,hl];rfl,fun x hx=>?_,fun j x hx=>?_⟩
  ·have b7:big 7=true:=by decide
   unfold Ff;simp only [Dz,b7,oD,if_true,dL,Ca,Ll _ _ (show (0:Int) < 26 by decide),Ll _ _ (show (0:Int) < 4 by decide),ec,iC,ey1,ey3];rw [ey2];simp only [dL];rw [ey4];simp only [dL,ey5,Bw,Bj (show ns.length<=1000000 by omega)]
  ·rcases lW.mp hx with hx | hx
   ·exact hns x hx
   ·rw [lu] at hx;subst hx;exact hy5
  ·rcases mi j ns.length with w | w
   ·rw [lL w] at hx;exact hnm j x hx
   ·have hj:j=ns.length:=by have:=(lD.mp hx).1;simp at this;omega
    subst hj;rw [lg (lJ _),mX] at hx;cases hx;rw [hl,nE];exact ⟨t3++u,by simp⟩
 have hl:ns.length=n:=by rw [hl];simp
 have gB:∀ i j x y,i≠j->i < 26->j < 26->Nm (zl.take r10) (ch r7 i) x->Nm (zl.take r10) (ch r7 j) y->Dx x≠Dx y:=fun i j x y ne hi hj ⟨t,e⟩ ⟨t',e'⟩ q=>by
  rw [e,e'] at q;have q:=Dv.str.inj q;have k:=gn (r:=r7) hi hj ne;have k1:ch r7 i < 123:=by unfold ch;omega
  have k2:ch r7 j < 123:=by unfold ch;omega
  have k3:97<=ch r7 i:=by unfold ch;omega
  have k4:97<=ch r7 j:=by unfold ch;omega
  cases hp:zl.take r10 with
  | nil =>
   rw [hp] at q;have:=(List.cons.inj q).1;unfold PyProof.Rows.up1 at this;rw [if_pos (by omega),if_pos (by omega)] at this;omega
  | cons a p =>
   rw [hp] at q;exact k (List.cons.inj (List.append_cancel_left (List.cons.inj q).2)).1
 have nd:ns.Pairwise (fun x y=>Dx x≠Dx y):=mv.mpr fun i j hi hj lt=>gB i j _ _ (by omega) (by omega) (by omega) (hnm i _ (lA hi)) (hnm j _ (lA hj))
 have last:∃ ms f',FP (.int n) f11 (.lst ns)=some (f',.lst ms)/\ms.length=n/\(∀ x∈ms,Tx 5 x)/\ms.Pairwise (fun x y=>Dx x≠Dx y)/\Fd f':=by
  have m2:∃ x∈ns,AA (.lst ns) (.int (-2))=some x/\ns[n - 2]?=some x:=by
   refine ⟨ns[n - 2]'(by omega),mZ _,?_,lA (by omega)⟩;simp only [AA,DQ,Me];rw [if_neg (by omega),if_pos (by omega)];simp only [dL];rw [show (-2+(ns.length:Int)).toNat=n - 2 by omega];exact lA (by omega)
  obtain ⟨x,hx,ex,ex2⟩:=m2;obtain ⟨l,rfl,hl1,hl2⟩:=id (hns x hx);have t1:∃ (b:Bool) (f':Dv),FL (.int n) f11 (.lst ns)=some (b,f')/\(b=true->l.length<=3)/\Fd f':=by
   unfold FL IG;simp only [CZ,show (1:Int) < n by omega,decide_true,if_true,dL,GR,ex,Ao,if_pos (show l.length<=1000000 by omega)];split
   ·rename_i hlt;obtain ⟨r,f',e,_,h⟩:=AH hf11 (n:=4) (by decide) (by decide);simp only [e,dL,Co];exact ⟨_,_,rfl,fun _=>by have:=of_decide_eq_true hlt;omega,h⟩
   ·exact ⟨_,_,rfl,(fun z=>by cases z),hf11⟩
  obtain ⟨b,f',et,hb3,hf'⟩:=t1;unfold FP;simp only [et,dL];cases b
  ·exact ⟨ns,f',by simp,hl,hns,nd,hf'⟩
  ·have ey:=RG (a:=l) (b:=[113]) (by have:=hb3 rfl;simp;omega);obtain ⟨y',ey',hy⟩:=Tx.add (N:=3) (M:=1) ⟨l,rfl,hb3 rfl,hl2⟩ (JK (c:=113) (by decide)) (by decide);rw [ey] at ey';cases ey';simp only [if_true,GR,dL,ex,ey,Bc,Me];rw [if_neg (by omega),if_pos (by omega)];refine ⟨_,f',rfl,by rw [lj];exact hl,fun x hx=>?_,?_,hf'⟩
   ·rcases List.mem_or_eq_of_mem_set hx with hx | rfl
    ·exact hns x hx
    ·exact hy.mono (by decide)
   ·have k1:(-1+(ns.length:Int)).toNat=n - 1:=by omega
    rw [k1];refine mv.mpr fun i j hi hj lt=>?_
    rw [lj] at hi hj;rw [List.getElem_set,List.getElem_set,if_neg (show ¬ n - 1=i by omega)];have hi':=hnm i _ (lA hi);split
    ·rename_i ej;obtain ⟨t,et⟩:=hnm (n - 2) _ ex2
     by_cases e2:i=n - 2
     ·subst e2;have:ns[n - 2]=.str l:=by rw [lA hi] at ex2;exact Option.some.inj ex2
      rw [this];intro q;have:=congrArg List.length (Dv.str.inj q);have cl:∀ l,(gq l).length=l.length:=fun l=>by cases l<;>rfl
      rw [cl,cl] at this;simp at this
     ·refine gB i (n - 2) _ _ e2 (by omega) (by omega) hi' ⟨t++[113],?_⟩;rw [Dv.str.inj et];simp
    ·exact gB i j _ _ (by omega) (by omega) (by omega) hi' (hnm j _ (lA hj))
 obtain ⟨ms,f',e13,hl3,hms,hnd,hf'⟩:=last;refine ⟨ms,f',?_,hl3,hms,hnd,hf'⟩;unfold Bz;simp only [gG,e1,er,dL];rw [AJ (by simp;omega)];simp only [dL,e3,e4,e7,el,Ca,e10,e11,en];rw [e12];simp only [dL,e13]
def iV (n:Nat) (xs:List Dv):Prop:=∀ y∈xs,∃ r:Nat,y=.int r/\r < n
def Row (n:Nat) (x:Dv):Prop:=∃ xs,x=.tup xs/\xs.length=n/\iV n xs
def Tab (n:Nat) (r:Int) (x:Dv):Prop:=(r=1/\Row n x)\/(r=2/\∃ xs,x=.tup xs/\xs.length=n/\∀ y∈xs,Row n y)
def Cb (N:Nat) (x:Dv):Prop:=∃ a r,x=.tup [a,.int r]/\Tx N a/\(r=1\/r=2)
def jq (n:Nat) (d t:Dv):Prop:=∃ a r,d=.tup [a,.int r]/\(r=1\/r=2)/\Tab n r t
noncomputable def Ox (d:Dv):Dv:=match d with | .tup (a::_)=>a | _=>.non
abbrev DP (ds:List Dv):Prop:=ds.Pairwise fun x y=>Ox x≠Ox y
theorem Hb {γ:Type} (g:Dv->γ->Option (Dv×γ)) (P:γ->Prop) (R:Nat->Dv->Prop):∀ (xs:List Dv) (o:Nat) (c:γ),P c->(∀ i x,xs[i]?=some x->∀ c,P c->∃ d c',g x c=some (d,c')/\R (o+i) d/\P c')->∃ ds c',BB g xs c=some (ds,c')/\ds.length=xs.length/\(∀ i d,ds[i]?=some d->R (o+i) d)/\P c'
 | [],o,c,hc,_=>⟨[],c,rfl,rfl,(fun i d h=>by simp at h),hc⟩
 | x::xs,o,c,hc,h=>by
  obtain ⟨d,c1,e1,r1,p1⟩:=h 0 x rfl c hc;obtain ⟨ds,c2,e2,l2,r2,p2⟩:=Hb g P R xs (o+1) c1 p1 fun i y hy c hc=>by
   have:=h (i+1) y hy c hc;rw [show o+(i+1)=o+1+i by omega] at this;exact this
  refine ⟨d::ds,c2,by simp only [BB,e1,e2,dL],by rw [lX,lX,l2],fun i y hy=>?_,p2⟩;cases i with
  | zero=>simp at hy;subst hy;exact r1
  | succ i=>have:=r2 i y (by simpa using hy);rw [show o+(i+1)=o+1+i by omega];exact this
theorem MD {f:Dv} (hf:Fd f):∃ fs ds f',Eg f=some (.tup [.tup fs,.tup ds],f')/\fs.length<=4/\(∀ x∈fs,Tx 10 x)/\fs.Pairwise (·≠·)/\ds.length<=3/\(∀ x∈ds,Cb 5 x)/\DP ds/\Fd f':=by
 obtain ⟨ns,f1,e1,hl,hns,hnc,hf1⟩:=HK hf (n:=4) (by decide) (by decide);obtain ⟨r2,f2,e2,b2,hf2⟩:=AH hf1 (n:=4) (by decide) (by decide);have h3:∀ x∈cutA ns none (some (r2:Int)),Tx 5 x:=fun x hx=>hns x (Jp hx)
 have l3:=Of ns none (some (r2:Int));have sc1:∀ x∈cutA ns none (some (r2:Int)),DZ x=some (Dx x)/\Tx 10 (Dx x):=fun x hx=>by
  obtain ⟨l,rfl,hl1,hl2⟩:=h3 x hx;have c1:KD (.str l) none (some 1)=some (.str (l.take 1)):=by
   cases l with
   | nil=>rfl
   | cons a t=>simp only [KD,if_pos (show (a::t).length<=1000000 by omega),Ha (r:=1) (show 1<=(a::t).length by simp)];exact congrArg (fun z=>some (Dv.str z)) (Ha (r:=1) (by simp))
  have c2:KD (.str l) (some 1) none=some (.str (l.drop 1)):=by
   simp only [KD,if_pos (show l.length<=1000000 by omega)];rw [Jq];unfold cutA;have a:HT.sIx l.length 0 (some 1)=min 1 l.length:=by unfold HT.sIx;simp only [];split<;>omega
   have b:HT.sIx l.length l.length none=l.length:=rfl;rw [a,b];cases l with
   | nil=>rfl
   | cons a t=>simp
  have hx':Tx 5 (.str l):=⟨l,rfl,hl1,hl2⟩;have ht1:Tx 5 (.str (l.take 1)):=⟨_,rfl,by simp;omega,fun c hc=>hl2 c (nF hc)⟩;have ht2:Tx 5 (.str (l.drop 1)):=⟨_,rfl,by simp;omega,fun c hc=>hl2 c (List.mem_of_mem_drop hc)⟩;obtain ⟨y2,ey2,hy2⟩:=ht1.upper (by decide);obtain ⟨y4,ey4,hy4⟩:=hy2.add ht2 (by decide);have e:y4=Dx (.str l):=by
   have e0:((l.take 1).all (fun c=>decide (c < 128)) && decide ((l.take 1).length<=1000000))=true:=by
    rw [lB];exact ⟨lx.mpr fun c hc=>decide_eq_true (hl2 c (nF hc)),decide_eq_true (by simp;omega)⟩
   simp only [EX,e0,if_true,Option.some.injEq] at ey2;subst ey2;rw [RG (by simp;omega)] at ey4;rw [<- Option.some.inj ey4];cases l<;>rfl
  subst e;exact ⟨by unfold DZ;simp only [c1,gG,ey2,c2,ey4,dL],hy4⟩
 have e4:=LH DZ Dx (cutA ns none (some (r2:Int))) fun x hx=>(sc1 x hx).1
 have h4:∀ x∈(cutA ns none (some (r2:Int))).map Dx,Tx 10 x:=fun x hx=>by
  obtain ⟨y,hy,rfl⟩:=mB.mp hx;exact (sc1 y hy).2
 have h5:((cutA ns none (some (r2:Int))).map Dx).Pairwise (·≠·):=List.pairwise_map.mpr (hnc.sublist ((List.take_sublist _ _).trans (List.drop_sublist _ _)));have l4:((cutA ns none (some (r2:Int))).map Dx).length=(cutA ns none (some (r2:Int))).length:=lZ ..;obtain ⟨ms,f10,e10,hl10,hms,hnd,hf10⟩:=HK hf2 (n:=3) (by decide) (by decide);obtain ⟨r11,f11,e11,b11,hf11⟩:=AH hf10 (n:=8) (by decide) (by decide);have m:∀ x∈[(Dv.int 1),(Dv.int 2),(Dv.int 3),(Dv.int 2),(Dv.int 3),(Dv.int 1),(Dv.int 2),(Dv.int 0)],∃ k:Nat,x=.int k/\k<=3:=by
  intro x hx;simp only [lO,mM,or_false] at hx;rcases hx with rfl | rfl | rfl | rfl | rfl | rfl | rfl | rfl
  all_goals first | exact ⟨0,rfl,by decide⟩ | exact ⟨1,rfl,by decide⟩ | exact ⟨2,rfl,by decide⟩ | exact ⟨3,rfl,by decide⟩
 obtain ⟨x,hx,ex⟩:=ZJ (xs:=[(Dv.int 1),(Dv.int 2),(Dv.int 3),(Dv.int 2),(Dv.int 3),(Dv.int 1),(Dv.int 2),(Dv.int 0)]) (i:=r11) (by omega) b11;obtain ⟨k,rfl,hk⟩:=m x hx;have er:BG [.int k]=some ((List.range (k:Int).toNat).map fun j=>.int (j:Nat)):=Dk (by omega) (by omega);obtain ⟨qs,f16,e16,l6,h6,hf16⟩:=Hb (FV (.lst ms)) Fd (fun j d=>∃ a r,ms[j]?=some a/\d=.tup [a,.int r]/\Tx 5 a/\(r=1\/r=2)) ((List.range (k:Int).toNat).map fun j=>.int (j:Nat)) 0 f11 hf11 fun i x hx c hc=>by
  rw [lP] at hx;have hi:i < k:=by
   rcases mi i k with h | h
   ·exact h
   ·rw [mK (by simp;omega)] at hx;cases hx
  rw [lA (by simp;omega)] at hx;simp only [lp,Option.some.injEq,nA] at hx;subst hx;have ea:AA (.lst ms) (.int (i:Nat))=some ms[i]:=atI_nat ms i (by omega);obtain ⟨r,f',e,b,hf'⟩:=AH hc (n:=2) (by decide) (by decide);exact ⟨.tup [ms[i],.int (1+r)],f',by unfold FV;simp only [ea,e,dL,Ca],⟨ms[i],1+r,by rw [nE];exact lA (by omega),rfl,hms _ (mZ _),by omega⟩,hf'⟩
 have h6':∀ x∈qs,Cb 5 x:=fun x hx=>by
  obtain ⟨i,hi⟩:=nc hx;obtain ⟨a,r,_,rfl,h⟩:=h6 i x hi;exact ⟨a,r,rfl,h⟩
 have h7:qs.Pairwise (fun x y=>Ox x≠Ox y):=mv.mpr fun i j hi hj lt=>by
  obtain ⟨a,r,ea,e,_⟩:=h6 i _ (lA hi);obtain ⟨b,q,eb,e',_⟩:=h6 j _ (lA hj);rw [e,e'];show a≠b;rw [nE] at ea eb;obtain ⟨h1,rfl⟩:=lD.mp ea;obtain ⟨h2,rfl⟩:=lD.mp eb;exact fun z=>mv.mp hnd i j h1 h2 lt (congrArg Dx z)
 refine ⟨_,qs,f16,?_,by rw [l4];omega,h4,h5,by rw [l6];simp;omega,h6',h7,hf16⟩;have e1':Bz f (.int 4)=some (.lst ns,f1):=e1;have e10':Bz f2 (.int 3)=some (.lst ms,f10):=e10;unfold Eg;simp only [e1',e2,dL,iC,KD,items];rw [AJ (by omega),e4];simp only [dL,e10',e11];rw [ex];simp only [dL,er];rw [AJ (by simp;omega),e16];rfl
theorem HA (g:Dv->Dv->Dv->Option (Dv×Dv)) (hg:∀ x2 it c,g x2 it c=(AL c x2).bind fun r=>some (r.1,r.2)) {n:Nat} (h0:0 < n) (h1:n<=1000) {f:Dv} (hf:Fd f) (xs:List Dv):∃ ts f',BB (g (.int n)) xs f=some (ts,f')/\ts.length=xs.length/\iV n ts/\Fd f':=
 Aw (g (.int n)) Fd (fun y=>∃ r:Nat,y=.int r/\r < n) xs f hf fun x hx c hc=>by
  obtain ⟨r,f',e,b,hf'⟩:=AH hc (n:=n) (by omega) (by omega);exact ⟨.int r,f',by rw [hg,e];rfl,⟨r,rfl,by omega⟩,hf'⟩
theorem Dr (g:Dv->(Dv×Dv)->Option (Dv×Dv)) (P:Dv->Prop) (R:Dv->Dv->Prop):∀ (xs:List Dv) (f:Dv) (acc:List Dv),P f->acc.length+xs.length<=1000->(∀ x∈xs,∀ f acc,P f->acc.length<=1000->∃ f' t,g x (f,.lst acc)=some (f',.lst (acc++[t]))/\R x t/\P f')->∃ f' ts,Av g xs (f,.lst acc)=some (f',.lst (acc++ts))/\Paired R xs ts/\P f'
 | [],f,acc,hf,_,_=>⟨f,[],by simp only [Av,mU],.nil,hf⟩
 | x::xs,f,acc,hf,hl,h=>by
  rw [lX] at hl;obtain ⟨f1,t,e1,r1,h1⟩:=h x lE f acc hf (by omega);obtain ⟨f2,ts,e2,r2,h2⟩:=Dr g P R xs f1 (acc++[t]) h1 (by rw [la];simp;omega) fun y hy=>h y (lG _ hy)
  exact ⟨f2,t::ts,by simp only [Av,e1,dL,e2,mN,List.singleton_append],.cons r1 r2,h2⟩
theorem Lq {f:Dv} (hf:Fd f) {fs ds:List Dv} {n:Nat} (h0:0 < n) (h1:n<=1000) (hfs:fs.length<=100) (hds:ds.length<=100) (hd:∀ x∈ds,∃ a r,x=.tup [a,.int r]/\(r=1\/r=2)):∃ ts tbs f',Ee f (.tup [.tup fs,.tup ds]) (.int n)=some (.tup [.int n,.tup ts,.tup tbs],f')/\ts.length=fs.length/\iV n ts/\Paired (jq n) ds tbs/\Fd f':=by
  obtain ⟨ts,f1,e1,l1,h1',hf1⟩:=HA IM (fun _ _ _=>rfl) h0 h1 hf fs;have er:BG [.int n]=some ((List.range (n:Int).toNat).map fun j=>.int (j:Nat)):=Dk (by omega) (by omega);have lr:((List.range (n:Int).toNat).map fun j=>Dv.int (j:Nat)).length=n:=by simp
  obtain ⟨f2,tbs,e2,p2,hf2⟩:=Dr (Dd (.int n)) Fd (jq n) ds f1 [] hf1 (by simp;omega) fun x hx f acc hf hl=>by
    obtain ⟨a,r,rfl,hr⟩:=hd x hx;rcases hr with rfl | rfl
    · obtain ⟨ys,f',e,l,hy,hf'⟩:=HA IL (fun _ _ _=>rfl) h0 h1 hf ((List.range (n:Int).toNat).map fun j=>.int (j:Nat));refine ⟨f',.tup ys,?_,⟨a,1,rfl,.inl rfl,.inl ⟨rfl,ys,rfl,by rw [l,lr],hy⟩⟩,hf'⟩;unfold Dd FN;simp only [Cy,dL,Co,decide_true,if_true,er,Bw];rw [AJ (by omega),e];simp only [dL,AI,Bj (show acc.length<=1000000 by omega)]
    · obtain ⟨ys,f',e,l,hy,hf'⟩:=Aw (FU (.int n)) Fd (Row n) ((List.range (n:Int).toNat).map fun j=>.int (j:Nat)) f hf fun x hx c hc=>by
        obtain ⟨zs,f',e,l,hz,hf'⟩:=HA IK (fun _ _ _=>rfl) h0 h1 hc ((List.range (n:Int).toNat).map fun j=>.int (j:Nat));refine ⟨.tup zs,f',?_,⟨zs,rfl,by rw [l,lr],hz⟩,hf'⟩;unfold FU;simp only [dL,er];rw [AJ (by omega),e];simp only [dL,AI]
      refine ⟨f',.tup ys,?_,⟨a,2,rfl,.inr rfl,.inr ⟨rfl,ys,rfl,by rw [l,lr],hy⟩⟩,hf'⟩;unfold Dd FN;simp only [Cy,dL,Co,show decide ((2:Int)=1)=false by decide,lN,if_false,er,Bw];rw [AJ (by omega),e];simp only [dL,AI,Bj (show acc.length<=1000000 by omega)]
  refine ⟨ts,tbs,f2,?_,l1,h1',p2,hf2⟩;have i0:AA (.tup [.tup fs,.tup ds]) (.int 0)=some (.tup fs):=rfl;have i1:AA (.tup [.tup fs,.tup ds]) (.int 1)=some (.tup ds):=rfl;unfold Ee;simp only [i0,i1,dL,items];rw [AJ (by omega),e1];simp only [dL,AI];rw [e2];rfl
noncomputable def nI (ts:List Nat):List Dv:=ts.map fun t=>Dv.int (t:Nat)
def tI (ts:List Nat):Dv:=.tup (nI ts)
theorem BP (ts:List Nat):(nI ts).length=ts.length:=by simp [nI]
theorem HM (a b:List Nat):nI (a++b)=nI a++nI b:=by simp [nI]
theorem Ri (ts:List Nat):Ao (tI ts)=some (.int (ts.length:Nat)):=by show some (Dv.int ((nI ts).length:Nat))=_;rw [BP]
theorem JD {n:Nat}:∀ {xs:List Dv},iV n xs->∃ ts,xs=nI ts/\∀ t∈ts,t < n
 | [],_=>⟨[],rfl,fun _ h=>by cases h⟩
 | x::xs,h=>by
  obtain ⟨ts,e,ht⟩:=JD (xs:=xs) fun y hy=>h y (lG _ hy)
  obtain ⟨r,rfl,hr⟩:=h x lE;refine ⟨r::ts,by rw [e];rfl,fun t h=>?_⟩;rcases lO.mp h with rfl | h
  ·exact hr
  ·exact ht t h
theorem Gf {ts:List Nat} {h:Nat} (hh:h < ts.length):AA (tI ts) (.int (h:Nat))=some (.int (ts.getD h 0:Nat)):=by
 show DQ (nI ts) (h:Int)=_;rw [atI_nat _ _ (by rw [BP];exact hh)];simp [nI,List.getD,hh]
theorem getD_mem {ts:List Nat} {h:Nat} (hh:h < ts.length):ts.getD h 0∈ts:=by
 simp [List.getD,hh]
def sub (x:Dv) (a:Nat):Dv:=(AA x (.int (a:Nat))).getD .non
def ZH (x:Dv) (a:Nat):Nat:=match sub x a with | .int c=>c.toNat | _=>0
theorem Nx {n:Nat} {x:Dv} {a:Nat} (h:Row n x) (ha:a < n):AA x (.int (a:Nat))=some (.int (ZH x a:Nat))/\ZH x a < n:=by
 obtain ⟨xs,rfl,hl,hx⟩:=h;obtain ⟨y,hy,e⟩:=VQ (xs:=xs) (i:=a) (by omega) (by omega);obtain ⟨c,rfl,hc⟩:=hx y hy;have:ZH (.tup xs) a=c:=by unfold ZH sub;rw [e];simp
 rw [this];exact ⟨e,hc⟩
def iG (n:Nat) (x:Dv):Prop:=∃ xs,x=.tup xs/\xs.length=n/\∀ y∈xs,Row n y
theorem Vi {n:Nat} {x:Dv} {a:Nat} (h:iG n x) (ha:a < n):AA x (.int (a:Nat))=some (sub x a)/\Row n (sub x a):=by
 obtain ⟨xs,rfl,hl,hx⟩:=h;obtain ⟨y,hy,e⟩:=VQ (xs:=xs) (i:=a) (by omega) (by omega);have:sub (.tup xs) a=y:=by unfold sub;rw [e];rfl
 rw [this];exact ⟨e,hx y hy⟩
theorem Tab.one {n:Nat} {x:Dv} (h:Tab n 1 x):Row n x:=by
 rcases h with ⟨_,h⟩ | ⟨h,_⟩
 ·exact h
 ·cases h
theorem Tab.two {n:Nat} {x:Dv} (h:Tab n 2 x):iG n x:=by
 rcases h with ⟨h,_⟩ | ⟨_,h⟩
 ·cases h
 ·exact h
def Wl (n nf:Nat) (ds:List Dv) (w:Dv) (cs:List Nat) (tbs:List Dv):Prop:=w=.tup [.int (n:Nat),tI cs,.tup tbs]/\cs.length=nf/\(∀ c∈cs,c < n)/\Paired (jq n) ds tbs
theorem Wl.w1 {n nf:Nat} {ds:List Dv} {w:Dv} {cs:List Nat} {tbs:List Dv} (h:Wl n nf ds w cs tbs):AA w (.int 1)=some (tI cs):=by rw [h.1];rfl
theorem Wl.w2 {n nf:Nat} {ds:List Dv} {w:Dv} {cs:List Nat} {tbs:List Dv} (h:Wl n nf ds w cs tbs):AA w (.int 2)=some (.tup tbs):=by rw [h.1];rfl
inductive Nd where
 | inp (k:Nat) | fix (c:Dv) | act (d:Dv) (ps:List Nat)
noncomputable def Cd:Dv:=.str [105,110,112,117,116]
noncomputable def CJ:Dv:=.str [102,105,120,101,100]
noncomputable def Ly:Dv:=.str [100,111]
def Nd.dv:Nd->Dv
 | .inp k=>.tup [Cd,.int (k:Nat)]
 | .fix c=>.tup [CJ,c]
 | .act d ps=>.tup [Ly,d,tI ps]
noncomputable def Nd.parts:Nd->List Nat
 | .act _ ps=>ps
 | _=>[]
def GG (I:Nat) (fs ds:List Dv) (i:Nat):Nd->Prop
 | .inp k=>k < I
 | .fix c=>c∈fs/\∃ l,c=.str l
 | .act d ps=>(∃ r:Int,Dv.tup [d,.int r]∈ds/\(ps.length:Int)=r/\(r=1\/r=2)/\∃ l,d=.str l)/\∀ p∈ps,p < i
def DU (I:Nat) (fs ds:List Dv) (L:List Nd):Prop:=∀ i x,L[i]?=some x->GG I fs ds i x
theorem GG.part {I:Nat} {fs ds:List Dv} {i:Nat} {x:Nd} (h:GG I fs ds i x):∀ p∈x.parts,p < i:=fun p hp=>by
 cases x with
 | inp k=>cases hp
 | fix c=>cases hp
 | act d ps=>exact h.2 p hp
noncomputable def nD (L:List Nd):List Dv:=L.map Nd.dv
theorem HN (L:List Nd):(nD L).length=L.length:=by simp [nD]
theorem Yf {L:List Nd} {i:Nat} (h:i < L.length):AA (.lst (nD L)) (.int (i:Nat))=some L[i].dv:=by
 show DQ (nD L) (i:Int)=_;rw [atI_nat _ _ (by rw [HN];exact h)];simp [nD]
def Nd.kd:Nd->Dv
 | .inp _=>Cd
 | .fix _=>CJ
 | .act _ _=>Ly
theorem gB (x:Nd):AA x.dv (.int 0)=some x.kd:=by cases x<;>rfl
noncomputable def KI (p:Nat->Bool) (N:Nat):Nat:=((List.range N).filter p).length
theorem Ju {p q:Nat->Bool} (h:∀ v,q v=true->p v=true):∀ N,KI q N<=KI p N
 | 0=>lJ _
 | N+1=>by
  have ih:=Ju h N;unfold KI at *;rw [nV,nO,nO,la,la];have:([N].filter q).length<=([N].filter p).length:=by
   cases e:q N with
   | true=>simp [List.filter,e,h N e]
   | false=>simp [List.filter,e]
  omega
theorem UY {p q:Nat->Bool} {v:Nat} (h:∀ v,q v=true->p v=true) (h1:p v=true) (h2:q v=false):∀ {N},v < N->KI q N < KI p N
  | 0,hv=>by omega
  | N+1,hv=>by
    have le:=Ju h N;unfold KI at *;rw [nV,nO,nO,la,la]
    by_cases e:v=N
    · subst e;simp [List.filter,h1,h2];omega
    · have ih:=UY h h1 h2 (N:=N) (by omega);unfold KI at ih;have:([N].filter q).length<=([N].filter p).length:=by
        cases e:q N with
        | true=>simp [List.filter,e,h N e]
        | false=>simp [List.filter,e]
      omega
theorem HJ:∀ {N:Nat} {l:List Nat},l.Nodup->(∀ x∈l,x < N)->l.length<=N
 | 0,[],_,_=>lJ _
 | 0,x::_,_,h=>by have:=h x lE;omega
 | N+1,l,nd,h=>by
  have nd':=nd.erase N;have:=HJ (N:=N) nd' fun x hx=>by
   have h1:=h x (List.mem_of_mem_erase hx);have:x≠N:=fun e=>by rw [e] at hx;exact (List.Nodup.mem_erase_iff nd).mp hx |>.1 rfl
   omega
  have e:l.length - 1<=(l.erase N).length:=by
   rw [List.length_erase];split<;>omega
  omega
def kI (ks:List Nat):List Ax:=ks.map fun k=>Sum.inl ((k:Nat):Int)
def BF (ks:List Nat):Dv:=.dct (kI ks) (nI (List.range ks.length))
theorem bO (ks:List Nat) (k:Nat):(kI ks).any (fun j=>decide (j=Sum.inl ((k:Nat):Int)))=decide (k∈ks):=by
 induction ks with
 | nil=>rfl
 | cons x xs ih =>
  unfold kI at ih;simp only [kI,lI,me,ih,lO]
  by_cases e:x=k
  ·subst e;simp
  ·have e1:¬ (Sum.inl ((x:Nat):Int):Ax)=Sum.inl ((k:Nat):Int):=fun z=>e (by have:=Sum.inl.inj z;omega)
   have e2:¬ k=x:=fun z=>e z.symm
   simp [e1,e2]
theorem LW (k:Nat):∀ (ks:List Nat) (xs:List Dv),ks.length=xs.length->(GB (.inl ((k:Nat):Int)) (kI ks) xs).isSome=decide (k∈ks)
 | [],_,_=>rfl
 | x::ks,[],h=>by cases h
 | x::ks,d::xs,h=>by
  have ih:=LW k ks xs (by simpa using h);unfold kI at ih;simp only [kI,lI,GB,lO]
  by_cases e:x=k
  ·subst e;simp
  ·have e1:¬ (Sum.inl ((x:Nat):Int):Ax)=Sum.inl ((k:Nat):Int):=fun z=>e (by have:=Sum.inl.inj z;omega)
   have e2:¬ k=x:=fun z=>e z.symm
   rw [if_neg e1,ih];simp [e2]
theorem LX (k:Nat):∀ (ks:List Nat) (o:Nat),k∈ks->GB (.inl ((k:Nat):Int)) (kI ks) (nI ((List.range ks.length).map (o+·)))=some (.int ((o+ks.idxOf k:Nat)))
 | [],_,h=>by cases h
 | x::ks,o,h=>by
  rw [lX,nT];simp only [kI,nI,lI,List.map_map,GB]
  by_cases e:x=k
  ·subst e;simp
  ·have e1:¬ (Sum.inl ((x:Nat):Int):Ax)=Sum.inl ((k:Nat):Int):=fun z=>e (by have:=Sum.inl.inj z;omega)
   rw [if_neg e1,show List.idxOf k (x::ks)=List.idxOf k ks+1 by have q:(x == k)=false:=beq_eq_false_iff_ne.mpr e;rw [List.idxOf_cons,q];rfl];have ih:=LX k ks (o+1) ((lO.mp h).resolve_left fun z=>e z.symm);unfold kI nI at ih;rw [List.map_map] at ih;have:((fun t=>Dv.int ((t:Nat):Int))∘(fun x=>o+x)∘Nat.succ)=((fun t=>Dv.int ((t:Nat):Int))∘(fun x=>o+1+x)):=by
    funext y;simp only [Function.comp];congr 2;omega
   rw [this,ih];congr 3;omega
theorem YS (ks:List Nat) (k:Nat):iU (.int (k:Nat)) (BF ks)=some (decide (k∈ks)):=by
 have:=LW k ks (nI (List.range ks.length)) (by rw [BP];simp);show some (GB (.inl ((k:Nat):Int)) (kI ks) (nI (List.range ks.length))).isSome=_;rw [this]
theorem ZZ {ks:List Nat} {k:Nat} (h:k∈ks):AA (BF ks) (.int (k:Nat))=some (.int (ks.idxOf k:Nat)):=by
 have:=LX k ks 0 h;simp only [nE] at this;have e:(List.range ks.length).map (fun x=>x)=List.range ks.length:=List.map_id' _;rw [e] at this;simp only [BF,AA,IX,dL,this]
theorem Ry {ks:List Nat} {k:Nat} (h:k∉ks) (hl:ks.length<=1000000):Bc (BF ks) (.int (k:Nat)) (.int (ks.length:Nat))=some (BF (ks++[k])):=by
 have a:(kI ks).any (fun j=>decide (j=Sum.inl ((k:Nat):Int)))=false:=by rw [bO];simp [h]
 have l:(kI ks).length<=1000000:=by simpa [kI] using hl
 simp only [BF,Bc,IX,dL,if_pos l,UN,UL,a,lN,if_false];congr 2
 ·simp [kI]
 ·rw [la,mT,nV,HM];rfl
noncomputable def UI (e:Nat×Bool):Dv:=.tup [.int (e.1:Nat),.bl e.2]
def stk (s:List (Nat×Bool)):Dv:=.lst (s.reverse.map UI)
noncomputable def PX (L:List Nd) (q:Nat):List Nat:=match L[q]? with | some x=>x.parts | none=>[]
theorem KL {γ:Type} (t:γ->Option Bool) (g:γ->Option γ) (P:Nat->γ->Prop) (E:γ->Prop) (h:∀ m c,P m c->(t c=some false/\E c)\/(t c=some true/\∃ c' m',g c=some c'/\m' < m/\P m' c')):∀ (n m:Nat) (c:γ),m < n->P m c->∃ c',YE t g n c=some c'/\E c'
 | 0,m,c,hm,_=>by omega
 | n+1,m,c,hm,p=>by
  rcases h m c p with ⟨e,q⟩ | ⟨e,c',m',e',lt,p'⟩
  ·exact ⟨c,by simp only [YE,e,dL,lN,if_false],q⟩
  ·obtain ⟨c2,e2,q⟩:=KL t g P E h n m' c' (by omega) p';exact ⟨c2,by simp only [YE,e,dL,if_true,e',e2],q⟩
theorem Vl (s:List (Nat×Bool)):Ao (stk s)=some (.int (s.length:Nat)):=by
 show some (Dv.int ((s.reverse.map UI).length:Nat))=_;simp
theorem Nk (e:Nat×Bool) (s:List (Nat×Bool)):RH (stk (e::s)) []=some (UI e,stk s):=by
 unfold stk;rw [oA,List.map_append];simp only [RH,lI,ma,List.getLast?_concat,List.dropLast_concat]
theorem Er (F:List Nd):Ao (.lst (nD F))=some (.int (F.length:Nat)):=by
 show some (Dv.int ((nD F).length:Nat))=_;rw [HN]
section
variable {L F:List Nd} {ks:List Nat} {v:Nat} {b:Bool} {s:List (Nat×Bool)}
theorem Wd (h:v∈ks):Ad (.lst (nD L)) (.lst (nD F),BF ks,stk ((v,b)::s))=some (.lst (nD F),BF ks,stk s):=by
 unfold Ad
 show Cc "list" (stk ((v,b)::s)) _=_
 unfold stk;rw [Bw];have p:=Nk (v,b) s;unfold stk at p;rw [p];simp only [dL,UI];rw [Cy];simp only [YS,decide_eq_true h,dL,if_true]
theorem Sx (h:v∉ks) {x:Nd} (hx:L[v]?=some x):Ad (.lst (nD L)) (.lst (nD F),BF ks,stk ((v,b)::s))=(Bg (.lst (nD F)) (BF ks) (stk s) (.int (v:Nat)) (.bl b) x.dv).bind fun t=>some (t.1,t.2.1,t.2.2):=by
 unfold Ad
 show Cc "list" (stk ((v,b)::s)) _=_
 unfold stk;rw [Bw];have p:=Nk (v,b) s;unfold stk at p;rw [p];simp only [dL,UI];rw [Cy];obtain ⟨hv,rfl⟩:=lD.mp hx;simp only [YS,decide_eq_false h,dL,lN,if_false,Yf hv]
theorem gT (hl:F.length<=1000) (x:Dv):AS (.lst (nD F)) [x]=some (.non,.lst (nD F++[x])):=Bj (by rw [HN];omega)
theorem OH (h:v∉ks) {x:Nd} (hd:RB x.kd Ly=some true) (hx:L[v]?=some x) (hl:F.length=ks.length) (hk:ks.length<=1000):Ad (.lst (nD L)) (.lst (nD F),BF ks,stk ((v,b)::s))=some (.lst (nD (F++[x])),BF (ks++[v]),stk s):=by
 rw [Sx h hx];have e2:RB x.kd (.str [100,111])=some true:=hd;unfold Bg;rw [gB];simp only [dL,e2,if_true,Er,hl,Ry h (by omega),Bw,gT (F:=F) (by omega)];simp [nD]
theorem fh (h:v∉ks) {d:Dv} {ps:List Nat} (hx:L[v]?=some (.act d ps)) (hp:∀ p∈ps,p∈ks) (hl:F.length=ks.length) (hk:ks.length<=1000) (hps:ps.length<=1000):Ad (.lst (nD L)) (.lst (nD F),BF ks,stk ((v,true)::s))=some (.lst (nD (F++[.act d (ps.map fun p=>ks.idxOf p)])),BF (ks++[v]),stk s):=by
 rw [Sx h hx];have e0:AA (Nd.act d ps).dv (.int 0)=some Ly:=rfl;have e1:AA (Nd.act d ps).dv (.int 1)=some d:=rfl;have e2:AA (Nd.act d ps).dv (.int 2)=some (tI ps):=rfl;have ne:RB Ly (.str [100,111])=some false:=rfl;have it:items (tI ps)=some (nI ps):=rfl;have m:AN (By (BF (ks++[v]))) (nI ps)=some (nI (ps.map fun p=>ks.idxOf p)):=by
  have:∀ (qs:List Nat),(∀ p∈qs,p∈ks)->AN (By (BF (ks++[v]))) (nI qs)=some (nI (qs.map fun p=>ks.idxOf p)):=fun qs hq=>by
   induction qs with
   | nil=>rfl
   | cons p qs ih =>
    have hp':=hq p lE;have i1:(ks++[v]).idxOf p=ks.idxOf p:=by rw [List.idxOf_append,if_pos hp']
    have ih:=ih fun q z=>hq q (lG _ z)
    simp only [nI] at ih;simp only [nI,lI,AN,By,ZZ (lM [v] hp'),i1,dL,ih]
  exact this ps hp
 unfold Bg;rw [e0];simp only [dL,ne,lN,if_false];unfold DB;simp only [Lx,dL,if_true,Er,hl,Ry h (by omega),Bw,e0,e1,e2,it];rw [AJ (by rw [BP];omega),m];simp only [dL,AI,gT (F:=F) (by omega)];simp [nD,Nd.dv,tI]
theorem fg (h:v∉ks) {d:Dv} {ps:List Nat} (hx:L[v]?=some (.act d ps)) (hl:s.length<=1000) (hps:ps.length<=1000):Ad (.lst (nD L)) (.lst (nD F),BF ks,stk ((v,false)::s))=some (.lst (nD F),BF ks,stk (ps.map (fun p=>(p,false))++(v,true)::s)):=by
 rw [Sx h hx];have e0:AA (Nd.act d ps).dv (.int 0)=some Ly:=rfl;have e2:AA (Nd.act d ps).dv (.int 2)=some (tI ps):=rfl;have ne:RB Ly (.str [100,111])=some false:=rfl;have ng:GR (.int 1)=some (.int (-1)):=rfl;have rv:Lj (tI ps) (.int (-1))=some (.tup (nI ps).reverse):=rfl;have it:items (.tup (nI ps).reverse)=some (nI ps).reverse:=rfl;have m:AN Bx (nI ps).reverse=some ((ps.reverse.map fun p=>(p,false)).map UI):=by
  have:∀ (qs:List Nat),AN Bx (nI qs)=some ((qs.map fun p=>(p,false)).map UI):=fun qs=>by
   induction qs with
   | nil=>rfl
   | cons p qs ih=>simp only [nI] at ih;simp only [nI,lI,AN,Bx,dL,ih];rfl
  rw [show (nI ps).reverse=nI ps.reverse by simp [nI]];exact this ps.reverse
 unfold Bg;rw [e0];simp only [dL,ne,lN,if_false];unfold DB;simp only [Lx,dL,lN,if_false,stk,Bw,Bj (show (s.reverse.map UI).length<=1000000 by simp;omega),e2,ng,rv,it];rw [AJ (by simp [BP];omega),m];simp only [dL,gU (show (s.reverse.map UI++[Dv.tup [.int (v:Nat),.bl true]]).length+((ps.reverse.map fun p=>(p,false)).map UI).length<=1000000 by simp;omega)];simp [UI]
end
def VV (L:List Nd) (top:Nat):List (Nat×Bool)->Prop
 | []=>True
 | e::r=>((r=[]/\e.1=top)\/∃ q,(q,true)∈r/\e.1∈PX L q)/\(∀ f∈r,f.2=true->e.1 < f.1)/\VV L top r
def AB (L:List Nd) (ks:List Nat):List Nat->List (Nat×Bool)->Prop
 | _,[]=>True
 | a,e::r=>(e.2=true->∀ x∈PX L e.1,x∈ks\/x∈a)/\AB L ks (e.1::a) r
theorem AB.mono {L:List Nd} {ks ks':List Nat} (hk:∀ x∈ks,x∈ks'):∀ {s:List (Nat×Bool)} {a a':List Nat},(∀ x∈a,x∈ks'\/x∈a')->AB L ks a s->AB L ks' a' s
  | [],_,_,_,_=>trivial
  | e::r,a,a',ha,h=>⟨fun z x hx=>(h.1 z x hx).elim (fun q=>.inl (hk x q)) fun q=>ha x q,h.2.mono hk fun x hx=>by
      rcases lO.mp hx with rfl | hx
      · exact .inr lE
      · exact (ha x hx).elim .inl fun q=>.inr (lG _ q)⟩
theorem AB.app {L:List Nd} {ks:List Nat} {t:List (Nat×Bool)}:∀ {ps a:List Nat},AB L ks (ps.reverse++a) t->AB L ks a (ps.map (fun p=>(p,false))++t)
 | [],a,h=>h
 | p::ps,a,h=>⟨(fun z=>by cases z),AB.app (ps:=ps) (a:=p::a) (by simpa using h)⟩
section
variable {I:Nat} {fs ds:List Dv} {L:List Nd} {top:Nat}
theorem MN (hL:DU I fs ds L) {q x:Nat} (h:x∈PX L q):x < q:=by
 unfold PX at h;split at h
 ·rename_i y hy;exact (hL q y hy).part x h
 ·cases h
theorem GX (hL:DU I fs ds L):∀ {s:List (Nat×Bool)},VV L top s->∀ e∈s,e.1<=top
 | [],_,e,h=>by cases h
 | f::r,g,e,h=>by
  have ih:=GX hL g.2.2;rcases lO.mp h with rfl | h
  ·rcases g.1 with ⟨_,z⟩ | ⟨q,hq,z⟩
   ·omega
   ·have:=ih _ hq;have:=MN hL z;simp at *;omega
  ·exact ih e h
theorem Ie (hL:DU I fs ds L) {v:Nat} {r:List (Nat×Bool)} (g:VV L top ((v,true)::r)):∀ {xs:List Nat},(∀ x∈xs,x∈PX L v)->VV L top (xs.map (fun p=>(p,false))++(v,true)::r)
 | [],_=>g
 | x::xs,h=>by
  refine ⟨.inr ⟨v,lH _ lE,h x lE⟩,fun f hf ht=>?_,Ie hL g fun y hy=>h y (lG _ hy)⟩;have xv:=MN hL (h x lE);rcases lW.mp hf with hf | hf
  ·obtain ⟨y,_,rfl⟩:=mB.mp hf;cases ht
  ·rcases lO.mp hf with rfl | hf
   ·exact xv
   ·have:=g.2.1 f hf ht;show x < f.1;simp at this;omega
structure OI (I:Nat) (fs ds:List Dv) (L:List Nd) (top:Nat) (F:List Nd) (ks:List Nat) (s:List (Nat×Bool)):Prop where
 lf:F.length=ks.length
 nd:ks.Nodup
 lt:∀ k∈ks,k < L.length
 ok:DU I fs ds F
 g:VV L top s
 pend:∀ q,(q,true)∈s->q∉ks
 ab:AB L ks [] s
 cov:∀ i k,ks[i]?=some k->(∃ (j:Nat) (y:Nd),F[j]?=some y/\i∈y.parts)\/(∃ q,(q,true)∈s/\k∈PX L q)\/k=top
 fin:(top∉ks/\s≠[])\/(s=[]/\∃ k0,ks=k0++[top]/\top∉k0)
variable {F:List Nd} {ks:List Nat} {v:Nat} {b:Bool} {s:List (Nat×Bool)}
theorem OI.top_out (h:OI I fs ds L top F ks ((v,b)::s)):top∉ks:=h.fin.elim (fun z=>z.1) fun z=>by cases z.1
theorem OI.one (h:OI I fs ds L top F ks ((v,b)::s)) (hs:s=[]):v=top:=by
 rcases h.g.1 with ⟨_,z⟩ | ⟨q,hq,_⟩
 ·exact z
 ·rw [hs] at hq;cases hq
theorem OI.skip (h:OI I fs ds L top F ks ((v,b)::s)) (hv:v∈ks):OI I fs ds L top F ks s:=by
 refine ⟨h.lf,h.nd,h.lt,h.ok,h.g.2.2,fun q hq=>h.pend q (lG _ hq),h.ab.2.mono (fun _ z=>z) fun x hx=>?_,fun i k hk=>?_,.inl ⟨h.top_out,fun z=>h.top_out (h.one z▸hv)⟩⟩
 ·rw [lu] at hx;rw [hx];exact .inl hv
 ·rcases h.cov i k hk with z | ⟨q,hq,z⟩ | z
  ·exact .inl z
  ·rcases lO.mp hq with e | hq
   ·cases e;exact (h.pend v lE hv).elim
   ·exact .inr (.inl ⟨q,hq,z⟩)
  ·exact .inr (.inr z)
theorem OI.emit (hL:DU I fs ds L) (ht:top < L.length) (h:OI I fs ds L top F ks ((v,b)::s)) (hv:v∉ks) {y:Nd} (hy:GG I fs ds F.length y) (hp:b=true->∀ i k,ks[i]?=some k->k∈PX L v->i∈y.parts):OI I fs ds L top (F++[y]) (ks++[v]) s:=by
 have vt:v<=top:=GX hL h.g (v,b) lE;refine ⟨by simp [h.lf],?_,fun k hk=>?_,fun i x hx=>?_,h.g.2.2,fun q hq hm=>?_,h.ab.2.mono (fun x z=>lM _ z) fun x hx=>?_,fun i k hk=>?_,?_⟩
 ·exact List.nodup_append.mpr ⟨h.nd,by simp,fun a ha b' hb=>by rw [lu] at hb;subst hb;exact fun e=>hv (e▸ha)⟩
 ·rcases lW.mp hk with hk | hk
  ·exact h.lt k hk
  ·rw [lu] at hk;subst hk;omega
 ·rcases mi i F.length with w | w
  ·rw [lL w] at hx;exact h.ok i x hx
  ·have:i=F.length:=by have:=(lD.mp hx).1;simp at this;omega
   subst this;rw [lg (lJ _),mX] at hx;cases hx;exact hy
 ·rcases lW.mp hm with hm | hm
  ·exact h.pend q (lG _ hq) hm
  ·rw [lu] at hm;subst hm;have:=h.g.2.1 (q,true) hq rfl;simp at this
 ·rw [lu] at hx;rw [hx];exact .inl (lH _ lE)
 ·rcases mi i ks.length with w | w
  ·rw [lL w] at hk;rcases h.cov i k hk with ⟨j,x,hx,z⟩ | ⟨q,hq,z⟩ | z
   ·exact .inl ⟨j,x,by rw [lL (lD.mp hx).1];exact hx,z⟩
   ·rcases lO.mp hq with e | hq
    ·cases e;exact .inl ⟨F.length,y,by rw [lg (lJ _),mX];rfl,hp rfl i k hk z⟩
    ·exact .inr (.inl ⟨q,hq,z⟩)
   ·exact .inr (.inr z)
  ·have:i=ks.length:=by have:=(lD.mp hk).1;simp at this;omega
   subst this;rw [lg (lJ _),mX] at hk;cases hk;rcases h.g.1 with ⟨_,z⟩ | z
   ·exact .inr (.inr z)
   ·exact .inr (.inl z)
 ·by_cases e:v=top
  ·refine .inr ⟨?_,ks,by rw [e],h.top_out⟩;rcases h.g.1 with ⟨z,_⟩ | ⟨q,hq,z⟩
   ·exact z
   ·have h1:=MN hL z;have h2:=GX hL h.g (q,true) (lG _ hq);simp at h1 h2;omega
  ·refine .inl ⟨fun z=>?_,fun z=>e (h.one z)⟩;rcases lW.mp z with z | z
   ·exact h.top_out z
   ·rw [lu] at z;exact e z.symm
theorem OI.expand (hL:DU I fs ds L) (h:OI I fs ds L top F ks ((v,false)::s)) (hv:v∉ks) {d:Dv} {ps:List Nat} (hx:L[v]?=some (.act d ps)):OI I fs ds L top F ks (ps.map (fun p=>(p,false))++(v,true)::s):=by
 have pv:PX L v=ps:=by unfold PX;rw [hx];rfl
 refine ⟨h.lf,h.nd,h.lt,h.ok,Ie hL (v:=v) (r:=s) ⟨h.g.1,h.g.2.1,h.g.2.2⟩ fun x hx=>by rw [pv];exact hx,fun q hq=>?_,AB.app ⟨fun _ x hx=>.inr (by rw [pv] at hx;simpa using hx),h.ab.2.mono (fun _ z=>z) fun x hx=>?_⟩,fun i k hk=>?_,.inl ⟨h.top_out,by simp⟩⟩
 ·rcases lW.mp hq with hq | hq
  ·obtain ⟨y,_,e⟩:=mB.mp hq;cases e
  ·rcases lO.mp hq with e | hq
   ·cases e;exact hv
   ·exact h.pend q (lG _ hq)
 ·rw [lu] at hx;rw [hx];exact .inr lE
 ·rcases h.cov i k hk with z | ⟨q,hq,z⟩ | z
  ·exact .inl z
  ·rcases lO.mp hq with e | hq
   ·cases e
   ·exact .inr (.inl ⟨q,lH _ (lG _ hq),z⟩)
  ·exact .inr (.inr z)
def mu (N:Nat) (ks:List Nat) (s:List (Nat×Bool)):Nat:=3 * KI (fun u=>decide (u∉ks) && decide ((u,true)∉s)) N+s.length
theorem OK (hv:v∈ks) (hp:∀ q,(q,true)∈(v,b)::s->q∉ks) (N:Nat):mu N ks s < mu N ks ((v,b)::s):=by
 have:KI (fun u=>decide (u∉ks) && decide ((u,true)∉s)) N<=KI (fun u=>decide (u∉ks) && decide ((u,true)∉(v,b)::s)) N:=Ju (fun u hu=>by
  simp only [lB,decide_eq_true_eq] at hu ⊢;refine ⟨hu.1,fun z=>?_⟩;rcases lO.mp z with e | z
  ·cases e;exact hu.1 hv
  ·exact hu.2 z) N
 unfold mu;rw [lX];omega
theorem Dp (N:Nat):mu N (ks++[v]) s < mu N ks ((v,b)::s):=by
 have:KI (fun u=>decide (u∉ks++[v]) && decide ((u,true)∉s)) N<=KI (fun u=>decide (u∉ks) && decide ((u,true)∉(v,b)::s)) N:=Ju (fun u hu=>by
  simp only [lB,decide_eq_true_eq,lW,lu,not_or] at hu ⊢;refine ⟨hu.1.1,fun z=>?_⟩;rcases lO.mp z with e | z
  ·cases e;exact hu.1.2 rfl
  ·exact hu.2 z) N
 unfold mu;rw [lX];omega
theorem Yg {ps:List Nat} {N:Nat} (hv:v∉ks) (hN:v < N) (hs:(v,true)∉s) (hp:ps.length<=2):mu N ks (ps.map (fun p=>(p,false))++(v,true)::s) < mu N ks ((v,false)::s):=by
  have:KI (fun u=>decide (u∉ks) && decide ((u,true)∉ps.map (fun p=>(p,false))++(v,true)::s)) N < KI (fun u=>decide (u∉ks) && decide ((u,true)∉(v,false)::s)) N:=UY (v:=v) (fun u hu=>by
      simp only [lB,decide_eq_true_eq,lW,lO,not_or] at hu ⊢;exact ⟨hu.1,(fun e=>by cases e),hu.2.2.2⟩) (by
      simp only [lB,decide_eq_true_eq,lO,not_or];exact ⟨hv,(fun e=>by cases e),hs⟩) (by simp) hN
  unfold mu;rw [la,lX,lX,lZ];omega
theorem Yy (p:Nat->Bool) (N:Nat):KI p N<=N:=by
 have:=List.length_filter_le p (List.range N);unfold KI;simpa using this
def kc (F:List Nd):Prop:=∀ i,i+1 < F.length->∃ (j:Nat) (y:Nd),F[j]?=some y/\i∈y.parts
theorem JX (hL:DU I fs ds L) (ht:top < L.length) (hN:L.length<=100):∃ F,CV (.lst (nD L)) (.int (top:Nat))=some (.tup [.tup (nD F),.int ((F.length - 1:Nat))])/\DU I fs ds F/\kc F/\0 < F.length/\F.length<=L.length:=by
  obtain ⟨c,e,F,ks,rfl,o⟩:=KL Bf (Ad (.lst (nD L))) (fun m c=>∃ F ks s,c=(.lst (nD F),BF ks,stk s)/\OI I fs ds L top F ks s/\mu L.length ks s=m/\m<=1000) (fun c=>∃ F ks,c=(.lst (nD F),BF ks,stk [])/\OI I fs ds L top F ks []) (fun m c ⟨F,ks,s,e,o,hm,hs⟩=>by
    subst e;have t:Bf (.lst (nD F),BF ks,stk s)=some (decide (0 < s.length)):=by
      unfold Bf;simp only [Vl,dL,CZ];congr 1;exact decide_eq_decide.mpr (by omega)
    cases s with
    | nil=>exact .inl ⟨by rw [t];rfl,F,ks,rfl,o⟩
    | cons e s =>
      obtain ⟨v,b⟩:=e;refine .inr ⟨by rw [t];simp,?_⟩;have vt:v<=top:=GX hL o.g (v,b) lE;have vL:v < L.length:=by omega
      have hx:=lA vL;have kl:ks.length<=L.length:=HJ o.nd o.lt;have lfl:=o.lf;have hs':s.length<=1000:=by unfold mu at hm;rw [lX] at hm;omega
      have dn:∀ {m'},m' < m->m'<=1000:=fun h=>by omega
      by_cases hv:v∈ks
      · exact ⟨_,_,Wd hv,(by rw [<- hm];exact OK hv o.pend L.length),F,ks,s,rfl,o.skip hv,rfl,dn (by rw [<- hm];exact OK hv o.pend L.length)⟩
      · have okv:=hL v _ hx;cases q:L[v] with
        | inp k =>
          rw [q] at hx okv;exact ⟨_,_,OH hv rfl hx o.lf (by omega),by rw [<- hm];exact Dp L.length,_,_,s,rfl,o.emit hL ht hv okv (fun _ i k' _ hk=>by unfold PX at hk;rw [hx] at hk;cases hk),rfl,dn (by rw [<- hm];exact Dp L.length)⟩
        | fix c =>
          rw [q] at hx okv;exact ⟨_,_,OH hv rfl hx o.lf (by omega),by rw [<- hm];exact Dp L.length,_,_,s,rfl,o.emit hL ht hv okv (fun _ i k' _ hk=>by unfold PX at hk;rw [hx] at hk;cases hk),rfl,dn (by rw [<- hm];exact Dp L.length)⟩
        | act d ps =>
          rw [q] at hx okv;have pv:PX L v=ps:=by unfold PX;rw [hx];rfl
          have pl:ps.length<=2:=by obtain ⟨⟨r,_,h1,h2,_⟩,_⟩:=okv;omega
          cases b with
          | true =>
            have hp:∀ p∈ps,p∈ks:=fun p hp=>(o.ab.1 rfl p (by rw [pv];exact hp)).resolve_right (by simp)
            refine ⟨_,_,fh hv hx hp o.lf (by omega) (by omega),by rw [<- hm];exact Dp L.length,_,_,s,rfl,o.emit hL ht hv ?_ (fun _ i k hk hm=>?_),rfl,dn (by rw [<- hm];exact Dp L.length)⟩
            · obtain ⟨⟨r,h1,h2,h3⟩,_⟩:=okv;refine ⟨⟨r,h1,by simpa using h2,h3⟩,fun p hp'=>?_⟩;obtain ⟨x,hx',rfl⟩:=mB.mp hp';rw [o.lf];exact oQ.mpr (hp x hx')
            · rw [pv] at hm;refine mB.mpr ⟨k,hm,?_⟩;obtain ⟨hi,rfl⟩:=lD.mp hk;have h1:ks.idxOf ks[i] < ks.length:=oQ.mpr (mZ hi);have:=List.getElem_idxOf h1;exact (nS o.nd).mp this
          | false =>
            have ns:(v,true)∉s:=fun z=>by have:=o.g.2.1 (v,true) z rfl;simp at this
            exact ⟨_,_,fg hv hx hs' (by omega),(by rw [<- hm];exact Yg hv vL ns pl),_,_,_,rfl,o.expand hL hv hx,rfl,dn (by rw [<- hm];exact Yg hv vL ns pl)⟩) 1000000 (mu L.length [] [(top,false)]) _ (by unfold mu;have:=Yy (fun u=>decide (u∉([]:List Nat)) && decide ((u,true)∉[(top,false)])) L.length;simp only [mT];omega) ⟨[],[],[(top,false)],rfl,⟨rfl,by simp,(fun _ z=>by cases z),(fun i x h=>by simp at h),⟨.inl ⟨rfl,rfl⟩,(fun _ z=>by cases z),trivial⟩,(fun q hq=>by simp at hq),⟨(fun z=>by cases z),trivial⟩,(fun i k h=>by simp at h),.inl ⟨by simp,by simp⟩⟩,rfl,by unfold mu;have:=Yy (fun u=>decide (u∉([]:List Nat)) && decide ((u,true)∉[(top,false)])) L.length;simp only [mT];omega⟩
  have kl:ks.length<=L.length:=HJ o.nd o.lt;have lf:=o.lf;obtain ⟨k0,rfl,nt⟩:∃ k0,ks=k0++[top]/\top∉k0:=o.fin.elim (fun z=>(z.2 rfl).elim) fun z=>z.2
  have l0:0 < F.length:=by rw [lf];simp
  refine ⟨F,?_,o.ok,fun i hi=>?_,l0,by omega⟩
  · unfold CV;have e':YE Bf (Ad (.lst (nD L))) 1000000 (.lst [],.dct [] [],.lst [.tup [.int (top:Nat),.bl false]])=some (.lst (nD F),BF (k0++[top]),stk []):=e;rw [e'];simp only [dL,AI,Er];have:NS (.int (F.length:Nat)) (.int 1)=some (.int ((F.length - 1:Nat))):=by
      show some (Dv.int ((F.length:Int) - 1))=_;congr 2;omega
    rw [this];rfl
  · have hi':i < k0.length:=by rw [lf,la,mT] at hi;omega
    rcases o.cov i k0[i] (by rw [lL hi'];exact lA hi') with z | ⟨q,hq,_⟩ | z
    · exact z
    · cases hq
    · exact (nt (z▸mZ hi')).elim
end
def YB (I:Nat) (fs ds:List Dv) (x:Dv):Prop:=∃ F,x=.tup [.tup (nD F),.int ((F.length - 1:Nat))]/\DU I fs ds F/\kc F/\0 < F.length/\F.length<=100
theorem Ig {γ:Type} {P:Nat->γ->Prop} (g:Dv->γ->Option γ) (n:Nat) (c:γ) (h0:P 0 c) (h:∀ i < n,∀ c,P i c->∃ c',g (.int (i:Nat)) c=some c'/\P (i+1) c'):∃ c',Av g ((List.range n).map fun k=>.int (k:Nat)) c=some c'/\P n c':=by
 obtain ⟨c',e,p⟩:=HW g P ((List.range n).map fun k=>.int (k:Nat)) 0 c h0 fun i x hx c hc=>by
  rw [lP] at hx;have hi:i < n:=by
   rcases mi i n with h | h
   ·exact h
   ·rw [mK (by simp;omega)] at hx;cases hx
  rw [lA (by simp;omega)] at hx;simp only [lp,Option.some.injEq,nA] at hx;subst hx;rw [nE] at hc ⊢;exact h i hi c hc
 exact ⟨c',e,by simpa using p⟩
theorem eD (ts:List Nat):(tI ts).cmp=true/\(tI ts).dep<=1:=by
 have a:∀ ts:List Nat,Ah (nI ts)=true/\BE (nI ts)=0:=fun ts=>by
  induction ts with
  | nil=>exact ⟨rfl,rfl⟩
  | cons t ts ih =>
   simp only [nI] at ih;simp only [nI,lI,Ah,BE,Dv.cmp,Dv.dep,ih.1,ih.2,mH];exact ⟨trivial,rfl⟩
 simp only [tI,Dv.cmp,Dv.dep,a ts];exact ⟨trivial,lJ _⟩
section
variable {I:Nat} {fs ds:List Dv}
theorem Ye {i:Nat} {x:Nd} (h:GG I fs ds i x):x.dv.cmp=true/\x.dv.dep<=2:=by
 cases x with
 | inp k=>exact ⟨rfl,by simp [Nd.dv,Cd,Dv.dep,BE]⟩
 | fix c=>obtain ⟨_,l,rfl⟩:=h;exact ⟨rfl,by simp [Nd.dv,CJ,Dv.dep,BE]⟩
 | act d ps =>
  obtain ⟨⟨r,_,_,_,l,rfl⟩,_⟩:=h;obtain ⟨h1,h2⟩:=eD ps;simp only [Nd.dv,Ly,Dv.cmp,Ah,Dv.dep,BE,h1,mH];exact ⟨trivial,by omega⟩
theorem Yd:∀ {L:List Nd},(∀ x∈L,∃ i,GG I fs ds i x)->Ah (nD L)=true/\BE (nD L)<=2
 | [],_=>⟨rfl,by decide⟩
 | x::L,h=>by
  obtain ⟨h1,h2⟩:=Yd (L:=L) fun y hy=>h y (lG _ hy)
  obtain ⟨i,hi⟩:=h x lE;obtain ⟨h3,h4⟩:=Ye hi;simp only [nD] at h1 h2;simp only [nD,lI,Ah,BE,h1,h3,mH];exact ⟨trivial,by omega⟩
theorem TC {L:List Nd} {i:Nat} {x:Nd} (hx:GG I fs ds i x) (hL:DU I fs ds L):∃ b,NO x.dv (.lst (nD L))=some b/\(L=[]->b=true):=by
 obtain ⟨h1,h2⟩:=Yd (L:=L) fun y hy=>by obtain ⟨j,hj⟩:=nc hy;exact ⟨j,hL j y hj⟩
 have h3:=(Ye hx).1;refine ⟨!JZ x.dv (nD L),?_,fun e=>by rw [e];rfl⟩;have c:(x.dv.cmp && Ah (nD L) && decide (BE (nD L)<=150))=true:=by rw [h1,h3,mH,Bool.true_and];exact decide_eq_true (by omega)
 have v:iL (.lst (nD L))=some (nD L):=rfl;cases x<;>simp only [Nd.dv] at c ⊢<;>simp only [Jy,v,c,if_true]
theorem Ww (L:List Nd):Ao (.lst (nD L))=some (.int (L.length:Nat)):=Er L
theorem UX {a:Dv} {r:Int} {x:Dv} (h:x∈ds) (hd:∀ x∈ds,Cb 5 x):∃ a r,x=.tup [a,.int r]/\(∃ l,a=.str l)/\(r=1\/r=2)/\Dv.tup [a,.int r]∈ds:=by
 obtain ⟨a,r,rfl,⟨l,rfl,_⟩,hr⟩:=hd x h;exact ⟨_,r,rfl,⟨l,rfl⟩,hr,h⟩
theorem DU.snoc {L:List Nd} {x:Nd} (h:DU I fs ds L) (hx:GG I fs ds L.length x):DU I fs ds (L++[x]):=fun i y hy=>by
 rcases mi i L.length with w | w
 ·rw [lL w] at hy;exact h i y hy
 ·have:i=L.length:=by have:=(lD.mp hy).1;simp at this;omega
  subst this;rw [lg (lJ _),mX] at hy;cases hy;exact hx
variable (hfs:∀ x∈fs,Tx 10 x) (hds:∀ x∈ds,Cb 5 x) (hdl:ds.length<=1000)
include hds hdl
theorem QT {f:Dv} (hf:Fd f) (h0:0 < ds.length):∃ (r:Nat) (f' a:Dv) (k:Int),AL f (.int (ds.length:Nat))=some (.int r,f')/\Fd f'/\AA (.tup ds) (.int r)=some (.tup [a,.int k])/\(∃ l,a=.str l)/\(k=1\/k=2)/\Dv.tup [a,.int k]∈ds:=by
 obtain ⟨r,f',e,b,hf'⟩:=AH hf (n:=((ds.length:Nat):Int)) (by omega) (by omega);obtain ⟨x,hx,ex⟩:=VQ (xs:=ds) (i:=r) (by omega) b;obtain ⟨a,k,rfl,h1,h2,h3⟩:=UX (a:=.non) (r:=0) hx hds;exact ⟨r,f',a,k,e,hf',ex,h1,h2,h3⟩
theorem gQ {f:Dv} (hf:Fd f) {L:List Nd} (hL:DU I fs ds L) (hl:L.length<=100) {y:Nd} (hy:GG I fs ds L.length y):∃ x f',Gp (.tup [.tup fs,.tup ds]) (.lst (nD L)) f y.dv=some (f',x.dv)/\GG I fs ds L.length x/\Fd f':=by
 have i1:AA (.tup [.tup fs,.tup ds]) (.int 1)=some (.tup ds):=rfl;have l1:Ao (.tup ds)=some (.int (ds.length:Nat)):=rfl;have t:∃ b f',Gk (.tup [.tup fs,.tup ds]) (.lst (nD L)) f=some (b,f')/\Fd f'/\(b=true->0 < L.length/\0 < ds.length):=by
  unfold Gk;simp only [Ww,dL,CZ]
  by_cases h0:(0:Int) < (L.length:Nat)
  ·simp only [h0,decide_true,if_true];unfold KW;simp only [i1,l1,dL,CZ]
   by_cases h1:(0:Int) < (ds.length:Nat)
   ·obtain ⟨r,f',e,b,hf'⟩:=AH hf (n:=4) (by decide) (by decide);simp only [h1,decide_true,if_true,e,dL,CZ];exact ⟨_,f',rfl,hf',fun _=>by omega⟩
   ·simp only [h1,decide_false,lN,if_false,dL];exact ⟨_,f,rfl,hf,fun z=>by cases z⟩
  ·simp only [h0,decide_false,lN,if_false];exact ⟨_,f,rfl,hf,fun z=>by cases z⟩
 obtain ⟨b,f1,e1,hf1,hb⟩:=t;unfold Gp;rw [e1];cases b with
 | false=>exact ⟨y,f1,rfl,hy,hf1⟩
 | true =>
  obtain ⟨L0,d0⟩:=hb rfl;obtain ⟨r,f2,a,k,e2,hf2,ex,⟨l,rfl⟩,hk,hm⟩:=QT hds hdl hf1 d0;have er:BG [.int k]=some ((List.range k.toNat).map fun j=>.int (j:Nat)):=Dk (by omega) (by omega);obtain ⟨qs,f3,e3,l3,h3,hf3⟩:=Aw (Gv (.lst (nD L))) Fd (fun d=>∃ p:Nat,d=.int p/\p < L.length) ((List.range k.toNat).map fun j=>.int (j:Nat)) f2 hf2 fun x hx c hc=>by
   obtain ⟨r1,g1,q1,b1,hg1⟩:=AH hc (n:=((L.length:Nat):Int)) (by omega) (by omega);obtain ⟨r2,g2,q2,b2,hg2⟩:=AH hg1 (n:=2) (by decide) (by decide);have s1:NS (.int (L.length:Nat)) (.int 1)=some (.int ((L.length - 1:Nat))):=by
    show some (Dv.int ((L.length:Int) - 1))=_;congr 2;omega
   obtain ⟨z,hz,ez⟩:=ZJ (xs:=[Dv.int ((L.length - 1:Nat)),.int (r1:Nat)]) (i:=r2) (by omega) (by simpa using b2);refine ⟨z,g2,by unfold Gv;simp only [Ww,dL,s1,q1,q2,ez],?_,hg2⟩;simp only [lO,mM,or_false] at hz;rcases hz with rfl | rfl
   ·exact ⟨_,rfl,by omega⟩
   ·exact ⟨_,rfl,by omega⟩
  obtain ⟨ps,rfl,hp⟩:=JD (n:=L.length) (xs:=qs) h3;rw [BP] at l3;refine ⟨.act (.str l) ps,f3,?_,⟨⟨k,hm,by rw [l3];simp;omega,hk,l,rfl⟩,hp⟩,hf3⟩;simp only [dL,if_true,i1,l1,e2,ex];rw [Cy];simp only [er,dL];rw [AJ (by simp;omega),e3];rfl
include hfs
theorem QM {f:Dv} (hf:Fd f) (hfl:fs.length<=100) (hI:I<=100) (hI0:fs.length=0->0 < I) {many:Nat} (hm0:0 < many) (hm:many<=50):∃ x f',Fg f (.tup [.tup fs,.tup ds]) (.int (I:Nat)) (.int (many:Nat))=some (x,f')/\YB I fs ds x/\Fd f':=by
 have i0:AA (.tup [.tup fs,.tup ds]) (.int 0)=some (.tup fs):=rfl;have l0:Ao (.tup fs)=some (.int (fs.length:Nat)):=rfl;have it:items (.tup fs)=some fs:=rfl;have mx:∃ d3,(Dy (.int (fs.length:Nat)) (.int 0)).bind (fun b2=>FC (.bl b2))=some d3/\FB (.int (I:Nat)) d3=some (.int (I:Nat)):=by
  rw [Co];simp only [dL,FC];refine ⟨_,rfl,?_⟩;simp only [FB]
  by_cases h:(fs.length:Int)=0
  ·have:=hI0 (by omega);simp only [h,decide_true,if_true];rw [if_neg (by omega)]
  ·simp only [h,decide_false,lN,if_false];rw [if_neg (by omega)]
 obtain ⟨d3,m1,m2⟩:=mx;obtain ⟨b2,q1,q2⟩:=my.mp m1;have rg:=HB I (by omega);have y7:AN Ec ((List.range I).map fun k=>.int (k:Nat))=some (nD ((List.range I).map Nd.inp)):=by
  have:∀ l:List Nat,AN Ec (l.map fun k=>.int (k:Nat))=some (nD (l.map Nd.inp)):=fun l=>by
   induction l with
   | nil=>rfl
   | cons a l ih=>simp only [nD] at ih;simp only [nD,lI,AN,Ec,dL,ih];rfl
  exact this _
 have y11:AN Eb fs=some (nD (fs.map Nd.fix)):=by
  have:∀ l:List Dv,AN Eb l=some (nD (l.map Nd.fix)):=fun l=>by
   induction l with
   | nil=>rfl
   | cons a l ih=>simp only [nD] at ih;simp only [nD,lI,AN,Eb,dL,ih];rfl
  exact this _
 let S:List Nd:=(List.range I).map Nd.inp++fs.map Nd.fix
 have hS:nD ((List.range I).map Nd.inp)++nD (fs.map Nd.fix)=nD S:=by simp [nD,S]
 have lS:S.length=I+fs.length:=by simp [S]
 have okS:∀ x∈S,∀ i,GG I fs ds i x:=fun x hx i=>by
  rcases lW.mp hx with hx | hx
  ·obtain ⟨k,hk,rfl⟩:=mB.mp hx;exact (show k < I by simpa using hk)
  ·obtain ⟨c,hc,rfl⟩:=mB.mp hx;obtain ⟨l,rfl,_⟩:=hfs c hc;exact ⟨hc,l,rfl⟩
 have ad:Aq (.lst (nD ((List.range I).map Nd.inp))) (.lst (nD (fs.map Nd.fix)))=some (.lst (nD S)):=by
  simp only [Aq,if_pos (show (nD ((List.range I).map Nd.inp)).length+(nD (fs.map Nd.fix)).length<=1000000 by simp [HN];omega),hS]
 obtain ⟨r13,f13,e13,b13,hf13⟩:=AH hf (n:=((many:Nat):Int)) (by omega) (by omega);have oa:Aq (.int 1) (.int (r13:Nat))=some (.int ((1+r13:Nat))):=by rw [Ca];congr 1
 have rg2:=HB (1+r13) (by omega);obtain ⟨⟨f2,l2⟩,e2,L,rfl,hL,hLl,hL0,hf2⟩:=Ig (P:=fun i c=>∃ L,c.2=.lst (nD L)/\DU I fs ds L/\L.length<=i/\(0 < i->0 < L.length)/\Fd c.1) (Gw (.tup [.tup fs,.tup ds]) (.lst (nD S))) (1+r13) (f13,.lst []) ⟨[],rfl,(fun i x h=>by simp at h),by simp,(fun z=>by omega),hf13⟩ fun i hi c hc=>by
  obtain ⟨f,l⟩:=c;obtain ⟨L,rfl,hL,hLl,hL0,hf⟩:=hc;obtain ⟨r,g1,e1,b1,hg1⟩:=AH hf (n:=((S.length:Nat):Int)) (by omega) (by omega);have hr:r < S.length:=by omega
  obtain ⟨x,g2,e3,hx,hg2⟩:=gQ hds hdl hg1 hL (by omega) (okS S[r] (mZ hr) L.length);obtain ⟨b,eb,hb⟩:=TC hx hL;unfold Gw;simp only [Ww,dL,e1,Yf hr,e3];unfold KY;rw [eb];simp only [dL];cases b with
  | true =>
   refine ⟨(g2,.lst (nD (L++[x]))),?_,L++[x],rfl,hL.snoc hx,by simp;omega,(fun _=>by simp),hg2⟩;simp only [if_true,Bw,Bj (show (nD L).length<=1000000 by rw [HN];omega),dL];simp [nD]
  | false =>
   refine ⟨(g2,.lst (nD L)),by simp,L,rfl,hL,by omega,fun _=>?_,hg2⟩;rcases Nat.eq_zero_or_pos L.length with z | z
   ·have:=hb (mI z);cases this
   ·exact z
 have hL0':=hL0 (by omega);obtain ⟨F,eF,okF,cvF,f0,fl⟩:=JX (top:=L.length - 1) hL (by omega) (by omega);refine ⟨_,f2,?_,⟨F,rfl,okF,cvF,f0,by omega⟩,hf2⟩;have s1:NS (.int (L.length:Nat)) (.int 1)=some (.int ((L.length - 1:Nat))):=by
  show some (Dv.int ((L.length:Int) - 1))=_;congr 2;omega
 unfold Fg;simp only [i0,l0,dL,q1,q2,m2,rg];rw [AJ (by simp;omega),y7];simp only [dL,it];rw [AJ (by omega),y11];simp only [dL,ad,e13,oa,rg2];rw [e2];simp only [dL,Ww,s1,eF]
end
noncomputable def gS (st:List Nat->Nd->Nat) (xs:List Nd) (acc:List Nat):List Nat:=xs.foldl (fun a x=>a++[st a x]) acc
theorem Fy {g:Dv->Dv->Option Dv} {st:List Nat->Nd->Nat} (Pv:Nat->Prop):∀ (xs:List Nd) (acc:List Nat),(∀ t∈acc,Pv t)->(∀ i x,xs[i]?=some x->∀ a:List Nat,a.length=acc.length+i->(∀ t∈a,Pv t)->g x.dv (.lst (nI a))=some (.lst (nI (a++[st a x])))/\Pv (st a x))->Av g (nD xs) (.lst (nI acc))=some (.lst (nI (gS st xs acc)))/\(∀ t∈gS st xs acc,Pv t)
 | [],acc,ha,_=>⟨rfl,ha⟩
 | x::xs,acc,ha,h=>by
  obtain ⟨e,p⟩:=h 0 x rfl acc rfl ha;obtain ⟨e2,p2⟩:=Fy (g:=g) (st:=st) Pv xs (acc++[st acc x]) (fun t ht=>by
   rcases lW.mp ht with ht | ht
   ·exact ha t ht
   ·rw [lu] at ht;rw [ht];exact p) fun i y hy a hl hp=>h (i+1) y hy a (by rw [hl];simp;omega) hp
  refine ⟨?_,p2⟩;simp only [nD] at e2;simp only [nD,lI,Av,e,dL];exact e2
theorem Jg (st:List Nat->Nd->Nat):∀ (xs:List Nd) (acc:List Nat),(gS st xs acc).length=acc.length+xs.length
 | [],acc=>rfl
 | x::xs,acc=>by
  have:=Jg st xs (acc++[st acc x]);unfold gS at *;rw [nY,this];simp;omega
theorem OT {l:List Nat}:∀ {fs:List Dv},Dv.str l∈fs->∃ j,ET (.str l) fs=some j/\j < fs.length
 | [],h=>by cases h
 | x::xs,h=>by
  unfold ET
  by_cases e:R.eqV x (.str l)=true
  ·exact ⟨0,by rw [if_pos e],by simp⟩
  ·have:Dv.str l∈xs:=(lO.mp h).resolve_left fun z=>e (by rw [<- z];simp [R.eqV])
   obtain ⟨j,q,hj⟩:=OT this;exact ⟨j+1,by rw [if_neg e,q];rfl,by simp;omega⟩
theorem Jo {l:List Nat} {r:Int}:∀ {ds:List Dv},(∀ x∈ds,Cb 5 x)->DP ds->Dv.tup [.str l,.int r]∈ds->∃ j,ET (.str l) (ds.map Ox)=some j/\ds[j]?=some (.tup [.str l,.int r])
 | [],_,_,h=>by cases h
 | x::xs,hd,pw,h=>by
  rw [lI];unfold ET;rcases lO.mp h with e | hm
  ·refine ⟨0,?_,by rw [<- e];rfl⟩;rw [if_pos (by rw [<- e];simp [Ox,R.eqV])]
  ·obtain ⟨a,r',rfl,⟨l',rfl,_⟩,_⟩:=hd x lE;have ne:=(nN.mp pw).1 _ hm;have e:¬ R.eqV (Ox (.tup [.str l',.int r'])) (.str l)=true:=fun z=>ne (by simp [Ox,R.eqV] at z ⊢;exact z)
   obtain ⟨j,q,hj⟩:=Jo (fun y hy=>hd y (lG _ hy)) (nN.mp pw).2 hm;exact ⟨j+1,by rw [if_neg e,q];rfl,by simpa using hj⟩
theorem JW {R:Dv->Dv->Prop}:∀ {xs ys:List Dv},Paired R xs ys->∀ {j:Nat} {x:Dv},xs[j]?=some x->∃ y,ys[j]?=some y/\R x y
 | _,_,.nil,j,x,h=>by simp at h
 | _,_,.cons r p,0,x,h=>by simp at h;subst h;exact ⟨_,rfl,r⟩
 | _,_,.cons r p,j+1,x,h=>by obtain ⟨y,e,z⟩:=JW p (j:=j) (by simpa using h);exact ⟨y,by simpa using e,z⟩
theorem JG:∀ {xs:List Dv},(∀ x∈xs,∃ l,x=.str l)->Ah xs=true/\BE xs=0
 | [],_=>⟨rfl,rfl⟩
 | x::xs,h=>by
  obtain ⟨l,rfl⟩:=h x lE;obtain ⟨h1,h2⟩:=JG (xs:=xs) fun y hy=>h y (lG _ hy)
  simp only [Ah,BE,Dv.cmp,Dv.dep,h1,h2,mH];exact ⟨trivial,rfl⟩
def NQ (t:Dv):List Nat->Dv
 | []=>t
 | a::as=>NQ (sub t a) as
def ac (t:Dv) (ths:List Nat):Nat:=match NQ t ths with | .int c=>c.toNat | _=>0
theorem Ni {n:Nat} {r:Int} {t:Dv} {ths:List Nat} (ht:Tab n r t) (hr:r=1\/r=2) (hl:(ths.length:Int)=r) (hx:∀ a∈ths,a < n):Av Ck (nI ths) t=some (.int (ac t ths:Nat))/\Av Df (nI ths) t=some (.int (ac t ths:Nat))/\ac t ths < n:=by
 rcases hr with rfl | rfl
 ·obtain ⟨a,rfl⟩:∃ a,ths=[a]:=List.length_eq_one_iff.mp (by omega);obtain ⟨e,b⟩:=Nx ht.one (hx a lE);have s:sub t a=.int (ZH t a:Nat):=by unfold sub;rw [e];rfl
  have c:ac t [a]=ZH t a:=by unfold ac NQ NQ;rw [s];simp
  rw [c];exact ⟨by simp only [nI,lI,ma,Av,Ck,e,dL],by simp only [nI,lI,ma,Av,Df,e,dL],b⟩
 ·obtain ⟨a,b,rfl⟩:∃ a b,ths=[a,b]:=match ths,(show ths.length=2 by omega) with | [a,b],_=>⟨a,b,rfl⟩
  obtain ⟨e,rw1⟩:=Vi ht.two (hx a lE);obtain ⟨e2,b2⟩:=Nx rw1 (hx b (by simp));have s:sub (sub t a) b=.int (ZH (sub t a) b:Nat):=by unfold sub at e2 ⊢;rw [e2];rfl
  have c:ac t [a,b]=ZH (sub t a) b:=by unfold ac NQ NQ NQ;rw [s];simp
  rw [c];exact ⟨by simp only [nI,lI,ma,Av,Ck,e,e2,dL],by simp only [nI,lI,ma,Av,Df,e,e2,dL],b2⟩
def Cz (ds T:List Dv) (d:Dv):Dv:=T.getD ((ET d (ds.map Ox)).getD 0) .non
def Mk (fs:List Dv) (cs:List Nat) (c:Dv):Nat:=cs.getD ((ET c fs).getD 0) 0
def nv (fs ds:List Dv) (cs ins:List Nat) (T:List Dv) (acc:List Nat):Nd->Nat
 | .inp k=>ins.getD k 0
 | .fix c=>Mk fs cs c
 | .act d ps=>ac (Cz ds T d) (ps.map fun p=>acc.getD p 0)
section
variable {n I:Nat} {fs ds:List Dv} {w:Dv} {cs ins:List Nat} {T:List Dv}
theorem ES (hd:∀ x∈ds,Cb 5 x) (g:Dv->Option Dv) (hg:∀ a r,g (.tup [a,.int r])=some a):AN g ds=some (ds.map Ox):=by
 induction ds with
 | nil=>rfl
 | cons x xs ih =>
  obtain ⟨a,r,rfl,_⟩:=hd x lE;simp only [AN,hg,ih fun y hy=>hd y (lG _ hy),dL,lI];rfl
theorem LC (hd:∀ x∈ds,Cb 5 x):Ah (ds.map Ox)=true/\BE (ds.map Ox)=0:=JG fun x hx=>by
 obtain ⟨y,hy,rfl⟩:=mB.mp hx;obtain ⟨a,r,rfl,⟨l,rfl,_⟩,_⟩:=hd y hy;exact ⟨l,rfl⟩
theorem GA (hd:∀ x∈ds,Cb 5 x) (hdl:ds.length<=1000) (pw:DP ds) (W:Wl n fs.length ds w cs T) {l:List Nat} {r:Int} (hm:Dv.tup [.str l,.int r]∈ds) (hr:r=1\/r=2) {ths:List Nat} (hl:(ths.length:Int)=r) (hx:∀ a∈ths,a < n) :
    Kf (.tup [.tup fs,.tup ds]) w (.str l) (.lst (nI ths))=some (.int (ac (Cz ds T (.str l)) ths:Nat))/\Dh (.tup [.tup fs,.tup ds]) w (.str l) (.lst (nI ths))=some (.int (ac (Cz ds T (.str l)) ths:Nat))/\ac (Cz ds T (.str l)) ths < n:=by
  obtain ⟨j,ej,hj⟩:=Jo hd pw hm;obtain ⟨t,et,ht⟩:=JW W.2.2.2 hj;obtain ⟨a',r',e,_,ht⟩:=ht;simp only [Dv.tup.injEq,List.cons.injEq,Dv.int.injEq,and_true] at e;obtain ⟨_,rfl⟩:=e;have td:Cz ds T (.str l)=t:=by unfold Cz;rw [ej];simp [List.getD,et]
  rw [td];obtain ⟨h1,h2,h3⟩:=Ni ht hr hl hx;have i1:AA (.tup [.tup fs,.tup ds]) (.int 1)=some (.tup ds):=rfl;have it:items (.tup ds)=some ds:=rfl;have it2:items (.lst (nI ths))=some (nI ths):=rfl;obtain ⟨c1,c2⟩:=LC hd;have ix:Bu (.lst (ds.map Ox)) (.str l)=some (.int (j:Nat)):=by
    simp only [Bu,Dv.cmp,c1,c2,mH,mF,decide_true,if_true,ej,lp]
  have jT:j < T.length:=(lD.mp et).1;have at_:AA (.tup T) (.int (j:Nat))=some t:=by
    show DQ T (j:Int)=_;rw [atI_nat T j jT];rw [lA jT] at et;exact et
  refine ⟨?_,?_,h3⟩
  · unfold Kf Bq EG;simp only [W.w2,i1,it,dL];rw [AJ (by omega),ES hd EI (fun a r=>rfl)];simp only [dL,Bw,ix,oM,at_,it2];rw [h1];rfl
  · unfold Dh IJ;simp only [W.w2,i1,it,dL];rw [AJ (by omega),ES hd IP (fun a r=>rfl)];simp only [dL,Bw,ix,oM,at_,it2];rw [h2];rfl
theorem EW (hfs:∀ x∈fs,Tx 10 x) (W:Wl n fs.length ds w cs T) {c:Dv} (hc:c∈fs):∃ j:Nat,EH (.tup [.tup fs,.tup ds]) c=some (.int (j:Nat))/\(∀ d1,AA d1 (.int 1)=some c->FR (.tup [.tup fs,.tup ds]) d1=some (.int (j:Nat)))/\AA (tI cs) (.int (j:Nat))=some (.int (Mk fs cs c:Nat))/\Mk fs cs c < n:=by
 obtain ⟨l,rfl,_⟩:=hfs c hc;obtain ⟨j,ej,hj⟩:=OT hc;obtain ⟨c1,c2⟩:=JG (xs:=fs) fun x hx=>by obtain ⟨l,e,_⟩:=hfs x hx;exact ⟨l,e⟩
 have i0:AA (.tup [.tup fs,.tup ds]) (.int 0)=some (.tup fs):=rfl;have ix:Bn (.tup fs) (.str l)=some (.int (j:Nat)):=by
  simp only [Bn,Dv.cmp,c1,c2,mH,mF,decide_true,if_true,ej,lp]
 have jl:j < cs.length:=by rw [W.2.1];exact hj
 have fv:Mk fs cs (.str l)=cs.getD j 0:=by unfold Mk;rw [ej];rfl
 refine ⟨j,?_,fun d1 h=>?_,by rw [fv];exact Gf jl,by rw [fv];exact W.2.2.1 _ (getD_mem jl)⟩
 ·unfold EH;simp only [i0,dL,Yk,gF,ix,Option.none_or]
 ·unfold FR;simp only [i0,dL,Yk,gF,h,ix,Option.none_or]
variable {inp:Dv}
theorem IU (hfs:∀ x∈fs,Tx 10 x) (hd:∀ x∈ds,Cb 5 x) (hdl:ds.length<=1000) (pw:DP ds) (W:Wl n fs.length ds w cs T) (hin:∀ k < I,AA inp (.int (k:Nat))=some (.int (ins.getD k 0:Nat))/\ins.getD k 0 < n) {i:Nat} {x:Nd} (hx:GG I fs ds i x) {a:List Nat} (hl:a.length=i) (ha:∀ t∈a,t < n) :
    BK (.tup [.tup fs,.tup ds]) x.dv w inp (.lst (nI a))=some (.int (nv fs ds cs ins T a x:Nat))/\nv fs ds cs ins T a x < n:=by
  cases x with
  | inp k =>
    have e0:AA (Nd.inp k).dv (.int 0)=some Cd:=rfl;have e1:AA (Nd.inp k).dv (.int 1)=some (.int (k:Nat)):=rfl;have b:Dy Cd (.str [105,110,112,117,116])=some true:=rfl;unfold BK;simp only [e0,e1,dL,b,if_true,(hin k hx).1];exact ⟨rfl,(hin k hx).2⟩
  | fix c =>
    have e0:AA (Nd.fix c).dv (.int 0)=some CJ:=rfl;have e1:AA (Nd.fix c).dv (.int 1)=some c:=rfl;have b:Dy CJ (.str [105,110,112,117,116])=some false:=rfl;have b2:Dy CJ (.str [102,105,120,101,100])=some true:=rfl;obtain ⟨j,h1,_,h2,h3⟩:=EW hfs W hx.1;unfold BK CW;simp only [e0,e1,dL,b,b2,lN,if_false,if_true,W.w1,h1,h2];exact ⟨rfl,h3⟩
  | act d ps =>
    obtain ⟨⟨r,hm,hpl,hr,l,rfl⟩,hp⟩:=hx;have e0:AA (Nd.act (.str l) ps).dv (.int 0)=some Ly:=rfl;have e1:AA (Nd.act (.str l) ps).dv (.int 1)=some (.str l):=rfl;have e2:AA (Nd.act (.str l) ps).dv (.int 2)=some (tI ps):=rfl;have it:items (tI ps)=some (nI ps):=rfl;have b:Dy Ly (.str [105,110,112,117,116])=some false:=rfl;have b2:Dy Ly (.str [102,105,120,101,100])=some false:=rfl;have m:AN (Bm (.lst (nI a))) (nI ps)=some (nI (ps.map fun p=>a.getD p 0)):=by
      have:∀ qs:List Nat,(∀ p∈qs,p < i)->AN (Bm (.lst (nI a))) (nI qs)=some (nI (qs.map fun p=>a.getD p 0)):=fun qs hq=>by
        induction qs with
        | nil=>rfl
        | cons p qs ih =>
          have ih:=ih fun q z=>hq q (lG _ z)
          have ix:AA (.lst (nI a)) (.int (p:Nat))=some (.int (a.getD p 0:Nat)):=Gf (show p < a.length by rw [hl];exact hq p lE);simp only [nI] at ih ix;simp only [nI,lI,AN,Bm,ix,dL,ih]
      exact this ps hp
    obtain ⟨h1,_,h3⟩:=GA (fs:=fs) hd hdl pw W hm hr (ths:=ps.map fun p=>a.getD p 0) (by simpa using hpl) fun y hy=>by
      obtain ⟨p,hp',rfl⟩:=mB.mp hy;exact ha _ (getD_mem (by rw [hl];exact hp p hp'))
    unfold BK;simp only [e0,e1,e2,it,dL,b,b2,lN,if_false];rw [AJ (by rw [BP];omega),m];simp only [dL,h1];exact ⟨rfl,h3⟩
def CH (fs ds:List Dv) (cs ins:List Nat) (T:List Dv) (F:List Nd):List Nat:=gS (nv fs ds cs ins T) F []
theorem Lr (hfs:∀ x∈fs,Tx 10 x) (hd:∀ x∈ds,Cb 5 x) (hdl:ds.length<=1000) (pw:DP ds) (W:Wl n fs.length ds w cs T) (hin:∀ k < I,AA inp (.int (k:Nat))=some (.int (ins.getD k 0:Nat))/\ins.getD k 0 < n) {F:List Nd} (hF:DU I fs ds F) (h0:0 < F.length) (hF1:F.length<=1000) :
    Gz (.tup [.tup fs,.tup ds]) (.tup [.tup (nD F),.int ((F.length - 1:Nat))]) w inp=some (.int ((CH fs ds cs ins T F).getD (F.length - 1) 0:Nat))/\∀ t∈CH fs ds cs ins T F,t < n:=by
  obtain ⟨e,p⟩:=Fy (g:=Ed (.tup [.tup fs,.tup ds]) w inp) (st:=nv fs ds cs ins T) (· < n) F [] (fun t h=>by cases h) fun i x hx a hl ha=>by
    obtain ⟨h1,h2⟩:=IU hfs hd hdl pw W hin (hF i x hx) (a:=a) (by simpa using hl) ha;refine ⟨?_,h2⟩;have hi:=(lD.mp hx).1;have nl:nol (.int (nv fs ds cs ins T a x:Nat))=true:=rfl;unfold Ed;simp only [Bw,h1,dL,nl,cond_true,Bj (show (nI a).length<=1000000 by rw [BP,hl];simp;omega)];rw [HM];rfl
  refine ⟨?_,p⟩;have i0:AA (.tup [.tup (nD F),.int ((F.length - 1:Nat))]) (.int 0)=some (.tup (nD F)):=rfl;have i1:AA (.tup [.tup (nD F),.int ((F.length - 1:Nat))]) (.int 1)=some (.int ((F.length - 1:Nat))):=rfl;have it:items (.tup (nD F))=some (nD F):=rfl;unfold Gz;simp only [i0,i1,it,dL];have e':Av (Ed (.tup [.tup fs,.tup ds]) w inp) (nD F) (.lst [])=some (.lst (nI (CH fs ds cs ins T F))):=e;rw [e'];have ix:AA (.lst (nI (CH fs ds cs ins T F))) (.int ((F.length - 1:Nat)))=some (.int ((CH fs ds cs ins T F).getD (F.length - 1) 0:Nat)):=Gf (by unfold CH;rw [Jg];simp;omega);simp only [dL,ix]
end
section
variable {n I:Nat} {fs ds:List Dv} {w:Dv} {cs ins:List Nat} {T:List Dv} {inp:Dv}
theorem ND (hfs:∀ x∈fs,Tx 10 x) (hd:∀ x∈ds,Cb 5 x) (hdl:ds.length<=1000) (pw:DP ds) (W:Wl n fs.length ds w cs T) (hin:∀ k < I,AA inp (.int (k:Nat))=some (.int (ins.getD k 0:Nat))/\ins.getD k 0 < n) {i:Nat} {x:Nd} (hx:GG I fs ds i x) {a:List Nat} (hl:a.length=i) (hi:i<=1000) (ha:∀ t∈a,t < n) :
    BX (.tup [.tup fs,.tup ds]) w inp x.dv (.lst (nI a))=some (.lst (nI (a++[nv fs ds cs ins T a x]))):=by
  have al:(nI a).length<=1000000:=by rw [BP,hl];omega
  cases x with
  | inp k =>
    have e0:AA (Nd.inp k).dv (.int 0)=some Cd:=rfl;have e1:AA (Nd.inp k).dv (.int 1)=some (.int (k:Nat)):=rfl;have b:Dy Cd (.str [105,110,112,117,116])=some true:=rfl;have b2:Dy Cd (.str [102,105,120,101,100])=some false:=rfl;have b3:Dy Cd (.str [100,111])=some false:=rfl;unfold BX DX DW DV;simp only [e0,e1,dL,b,b2,b3,if_true,Bw,(hin k hx).1,Bj al,lN,if_false];rw [HM];rfl
  | fix c =>
    have e0:AA (Nd.fix c).dv (.int 0)=some CJ:=rfl;have e1:AA (Nd.fix c).dv (.int 1)=some c:=rfl;have b:Dy CJ (.str [105,110,112,117,116])=some false:=rfl;have b2:Dy CJ (.str [102,105,120,101,100])=some true:=rfl;have b3:Dy CJ (.str [100,111])=some false:=rfl;obtain ⟨j,_,h1,h2,h3⟩:=EW hfs W hx.1;unfold BX DX DW DV;simp only [e0,dL,b,b2,b3,if_true,Bw,W.w1,h1 _ e1,h2,Bj al,lN,if_false];rw [HM];rfl
  | act d ps =>
    obtain ⟨⟨r,hm,hpl,hr,l,rfl⟩,hp⟩:=hx;have e0:AA (Nd.act (.str l) ps).dv (.int 0)=some Ly:=rfl;have e1:AA (Nd.act (.str l) ps).dv (.int 1)=some (.str l):=rfl;have e2:AA (Nd.act (.str l) ps).dv (.int 2)=some (tI ps):=rfl;have it:items (tI ps)=some (nI ps):=rfl;have b:Dy Ly (.str [105,110,112,117,116])=some false:=rfl;have b2:Dy Ly (.str [102,105,120,101,100])=some false:=rfl;have b3:Dy Ly (.str [100,111])=some true:=rfl;have m:AN (Dc (.lst (nI a))) (nI ps)=some (nI (ps.map fun p=>a.getD p 0)):=by
      have:∀ qs:List Nat,(∀ p∈qs,p < i)->AN (Dc (.lst (nI a))) (nI qs)=some (nI (qs.map fun p=>a.getD p 0)):=fun qs hq=>by
        induction qs with
        | nil=>rfl
        | cons p qs ih =>
          have ih:=ih fun q z=>hq q (lG _ z)
          have ix:AA (.lst (nI a)) (.int (p:Nat))=some (.int (a.getD p 0:Nat)):=Gf (show p < a.length by rw [hl];exact hq p lE);simp only [nI] at ih ix;simp only [nI,lI,AN,Dc,ix,dL,ih]
      exact this ps hp
    obtain ⟨_,h1,h3⟩:=GA (fs:=fs) hd hdl pw W hm hr (ths:=ps.map fun p=>a.getD p 0) (by simpa using hpl) fun y hy=>by
      obtain ⟨p,hp',rfl⟩:=mB.mp hy;exact ha _ (getD_mem (by rw [hl];exact hp p hp'))
    unfold BX DX DW DV;simp only [e0,e1,e2,it,dL,b,b2,b3,lN,if_false,if_true,Bw];rw [AJ (by rw [BP];omega),m];simp only [dL,h1,Bj al];rw [HM];rfl
theorem NC (hfs:∀ x∈fs,Tx 10 x) (hd:∀ x∈ds,Cb 5 x) (hdl:ds.length<=1000) (pw:DP ds) (W:Wl n fs.length ds w cs T) (hin:∀ k < I,AA inp (.int (k:Nat))=some (.int (ins.getD k 0:Nat))/\ins.getD k 0 < n) {F:List Nd} (hF:DU I fs ds F) (h0:0 < F.length) (hF1:F.length<=1000) :
    Ei (.tup [.tup fs,.tup ds]) (.tup [.tup (nD F),.int ((F.length - 1:Nat))]) w inp=some (.int ((CH fs ds cs ins T F).getD (F.length - 1) 0:Nat)):=by
  obtain ⟨e,p⟩:=Fy (g:=BX (.tup [.tup fs,.tup ds]) w inp) (st:=nv fs ds cs ins T) (· < n) F [] (fun t h=>by cases h) fun i x hx a hl ha=>by
    have hi:=(lD.mp hx).1;exact ⟨ND hfs hd hdl pw W hin (hF i x hx) (a:=a) (by simpa using hl) (by omega) ha,(IU hfs hd hdl pw W hin (hF i x hx) (a:=a) (by simpa using hl) ha).2⟩
  have i0:AA (.tup [.tup (nD F),.int ((F.length - 1:Nat))]) (.int 0)=some (.tup (nD F)):=rfl;have it:items (.tup (nD F))=some (nD F):=rfl;unfold Ei;simp only [i0,it,dL];have e':Av (BX (.tup [.tup fs,.tup ds]) w inp) (nD F) (.lst [])=some (.lst (nI (CH fs ds cs ins T F))):=e;rw [e'];have vl:(CH fs ds cs ins T F).length=F.length:=by unfold CH;rw [Jg];simp
  have ix:AA (.lst (nI (CH fs ds cs ins T F))) (.int (-1))=some (.int ((CH fs ds cs ins T F).getD (F.length - 1) 0:Nat)):=by
    have nl:(nI (CH fs ds cs ins T F)).length=F.length:=by rw [BP,vl]
    simp only [AA,DQ,Me];rw [if_neg (by omega),if_pos (by omega)];simp only [dL];rw [show (-1+((nI (CH fs ds cs ins T F)).length:Int)).toNat=F.length - 1 by omega];have hlt:F.length - 1 < (CH fs ds cs ins T F).length:=by omega
    simp only [nI,lP,List.getD,lA hlt,lp,oE]
  simp only [dL,GR,ix]
end
structure PtR where
 n:Nat
 cs:List Nat
 T:List Dv
 ins:List Nat
 b:Bool
def PtR.w (p:PtR):Dv:=.tup [.int (p.n:Nat),tI p.cs,.tup p.T]
def PtR.inp (p:PtR):Dv:=bif p.b then .lst (nI p.ins) else tI p.ins
noncomputable def PtR.dv (p:PtR):Dv:=.tup [p.w,p.inp]
def Ct (I nf:Nat) (ds:List Dv) (p:PtR):Prop:=0 < p.n/\p.n<=4/\Wl p.n nf ds p.w p.cs p.T/\p.ins.length=I/\∀ t∈p.ins,t < p.n
noncomputable abbrev mR (P:Nat) (f:Nat->Dv):List Dv:=(List.range P).map f
theorem fn_of {α:Type} (a0:α) (f:α->Dv) (R:Nat->α->Prop) (xs:List Dv) (h:∀ i x,xs[i]?=some x->∃ a,x=f a/\R i a):∃ g:Nat->α,xs=mR xs.length (fun k=>f (g k))/\∀ k < xs.length,R k (g k):=by
 have:∀ k,∃ a,∀ x,xs[k]?=some x->x=f a/\R k a:=fun k=>by
  cases e:xs[k]? with
  | none=>exact ⟨a0,fun x h=>by cases h⟩
  | some y=>obtain ⟨a,h1,h2⟩:=h k y e;exact ⟨a,fun x hx=>by cases hx;exact ⟨h1,h2⟩⟩
 obtain ⟨g,hg⟩:=Classical.axiomOfChoice this;refine ⟨g,List.ext_getElem (by simp) fun i h1 h2=>?_,fun k hk=>(hg k _ (lA hk)).2⟩;simp only [List.getElem_map,nA];exact (hg i _ (lA h1)).1
theorem JV {R:Dv->Dv->Prop}:∀ {xs ys:List Dv},Paired R xs ys->∀ y∈ys,∃ x,R x y
 | _,_,.nil,y,h=>by cases h
 | _,_,.cons r p,y,h=>by
  rcases lO.mp h with rfl | h
  ·exact ⟨_,r⟩
  ·exact JV p y h
section
variable {I:Nat} {fs ds:List Dv}
theorem aN (hI:I<=100) (hfl:fs.length<=100) (hdl:ds.length<=100) (hd:∀ x∈ds,Cb 5 x) {f:Dv} (hf:Fd f) {acc:List Dv} (ha:acc.length<=1000) (x:Dv):∃ f' t,Cj (.tup [.tup fs,.tup ds]) (.int (I:Nat)) (.int 4) x (f,.lst acc)=some (f',.lst (acc++[t]))/\(∃ p,t=p.dv/\Ct I fs.length ds p/\p.b=false)/\Fd f':=by
 obtain ⟨r,f1,e1,b1,hf1⟩:=AH hf (n:=4) (by decide) (by decide);obtain ⟨ts,tbs,f2,e2,l2,h2,p2,hf2⟩:=Lq hf1 (fs:=fs) (ds:=ds) (n:=1+r) (by omega) (by omega) hfl hdl fun x hx=>by
  obtain ⟨a,r,e,_,h⟩:=hd x hx;exact ⟨a,r,e,h⟩
 obtain ⟨cs,rfl,hcs⟩:=JD h2;have e1':(1:Int)+(r:Int)=((1+r:Nat):Int):=by omega
 have w0:AA (.tup [.int ((1+r:Nat)),.tup (nI cs),.tup tbs]) (.int 0)=some (.int ((1+r:Nat))):=rfl;obtain ⟨ys,f3,e3,l3,h3,hf3⟩:=Aw (EL (.tup [.int ((1+r:Nat)),.tup (nI cs),.tup tbs])) Fd (fun y=>∃ q:Nat,y=.int q/\q < 1+r) ((List.range I).map fun k=>.int (k:Nat)) f2 hf2 fun x hx c hc=>by
  obtain ⟨q,f',e,b,hf'⟩:=AH hc (n:=((1+r:Nat):Int)) (by omega) (by omega);exact ⟨.int q,f',by unfold EL;simp only [w0,dL,e],⟨q,rfl,by omega⟩,hf'⟩
 obtain ⟨ins,rfl,hins⟩:=JD h3;have e0:AL f (.int 4)=some (.int r,f1):=e1;refine ⟨f3,.tup [.tup [.int ((1+r:Nat)),tI cs,.tup tbs],tI ins],?_,⟨⟨1+r,cs,tbs,ins,false⟩,rfl,⟨by show 0 < 1+r;omega,by show 1+r<=4;omega,⟨rfl,by rw [<- l2,BP],hcs,p2⟩,by show ins.length=I;rw [<- BP,l3];simp,hins⟩,rfl⟩,hf3⟩;unfold Cj;simp only [e0,dL,Ca,e1',e2,Bw,HB I (by omega)];rw [AJ (by simp;omega),e3];simp only [dL,AI,Bj (show acc.length<=1000000 by omega)];rfl
theorem Ku (hI:I<=100) (hfl:fs.length<=100) (hdl:ds.length<=100) (hd:∀ x∈ds,Cb 5 x) {f:Dv} (hf:Fd f):∃ xs f',DF f (.tup [.tup fs,.tup ds]) (.int (I:Nat)) (.int 6) (.int 4)=some (.tup xs,f')/\0 < xs.length/\xs.length<=6/\(∀ x∈xs,∃ p,x=p.dv/\Ct I fs.length ds p/\p.b=false)/\Fd f':=by
 obtain ⟨r,f1,e1,b1,hf1⟩:=AH hf (n:=6) (by decide) (by decide);have e1':(1:Int)+(r:Int)=((1+r:Nat):Int):=by omega
 obtain ⟨f2,ts,e2,p2,hf2⟩:=Dr (Cj (.tup [.tup fs,.tup ds]) (.int (I:Nat)) (.int 4)) Fd (fun _ t=>∃ p,t=p.dv/\Ct I fs.length ds p/\p.b=false) ((List.range (1+r)).map fun k=>.int (k:Nat)) f1 [] hf1 (by simp;omega) fun x hx f acc hf hl=>aN hI hfl hdl hd hf hl x
 have l2:=Eo p2;rw [lZ,nC] at l2;refine ⟨ts,f2,?_,by omega,by omega,fun x hx=>(JV p2 x hx).elim fun _ h=>h,hf2⟩;have e0:AL f (.int 6)=some (.int r,f1):=e1;unfold DF;simp only [e0,dL,Ca,e1',HB (1+r) (by omega)];rw [e2];rfl
theorem MC (hI:I<=100) (hfl:fs.length<=100) (hdl:ds.length<=100) (hd:∀ x∈ds,Cb 5 x) {f:Dv} (hf:Fd f):∃ (P:Nat) (ps:Nat->PtR) (f':Dv),Ef f (.tup [.tup fs,.tup ds]) (.int (I:Nat)) (.int 6) (.int 4)=some (.tup (mR P fun k=>(ps k).dv),f')/\0 < P/\P<=6/\(∀ k < P,Ct I fs.length ds (ps k))/\Fd f':=by
 obtain ⟨xs,f1,e1,l0,l1,hx,hf1⟩:=Ku hI hfl hdl hd hf;obtain ⟨f2,ts,e2,p2,hf2⟩:=Dr FZ Fd (fun _ t=>∃ p,t=p.dv/\Ct I fs.length ds p) xs f1 [] hf1 (by simp;omega) fun x hx' f acc hf hl=>by
  obtain ⟨p,rfl,ok,hb⟩:=hx x hx';obtain ⟨n,cs,T,ins,b⟩:=p;cases hb;obtain ⟨r,f',e,b,hf'⟩:=AH hf (n:=2) (by decide) (by decide);have e0:AL f (.int 2)=some (.int r,f'):=e;have al:Lm (tI ins)=some (.lst (nI ins)):=rfl;have:∃ q:PtR,AA (.lst [tI ins,.lst (nI ins)]) (.int r)=some q.inp/\q.w=PtR.w ⟨n,cs,T,ins,false⟩/\Ct I fs.length ds q:=by
   rcases (show r=0\/r=1 by omega) with rfl | rfl
   ·exact ⟨⟨n,cs,T,ins,false⟩,rfl,rfl,ok⟩
   ·exact ⟨⟨n,cs,T,ins,true⟩,rfl,rfl,ok⟩
  obtain ⟨q,eq,ew,ok'⟩:=this;refine ⟨f',q.dv,?_,⟨q,rfl,ok'⟩,hf'⟩;unfold FZ;have un:PtR.dv ⟨n,cs,T,ins,false⟩=.tup [PtR.w ⟨n,cs,T,ins,false⟩,tI ins]:=rfl;rw [un];simp only [Cy,Bw,al,dL,e0,eq,Bj (show acc.length<=1000000 by omega)];rw [<- ew];rfl
 have l2:=Eo p2;obtain ⟨ps,e3,h3⟩:=fn_of ⟨0,[],[],[],false⟩ PtR.dv (fun _ p=>Ct I fs.length ds p) ts fun i x hx=>(JV p2 x (mQ hx)).elim fun _ h=>h
 refine ⟨ts.length,ps,f2,?_,by omega,by omega,h3,hf2⟩;have it:items (.tup xs)=some xs:=rfl;unfold Ef;simp only [e1,it,dL];rw [e2];rw [<- e3];rfl
end
theorem dM (n:Nat) (i:Int):AO (n+1) (.int i) (.int i)=some (.bl true):=by
 have h1:EA (.int i) (.tup [.ty "tuple", .ty "list"])=some (.bl false):=rfl
 have h2:RC (.int i) .non=some false:=rfl
 have h3:EA (.int i) (.ty "bool")=some (.bl false):=rfl
 have h4:RB (.bl false) (.bl false)=some false:=rfl
 have h5:EA (.int i) (.tup [.ty "int", .ty "str"])=some (.bl true):=rfl
 have h6:Dy (.int i) (.int i)=some true:=by rw [Co];simp
 unfold AO;simp only [h1,dL,Lx,lN,if_false,h2,h3,h4];unfold II;simp only [h5,dG,if_true,h6,dL]
theorem KJ:∀ xs:List Dv,zipD2 xs xs=xs.map fun x=>.tup [x,x]
 | []=>rfl
 | x::xs=>by rw [lI,<- KJ xs];rfl
theorem ID {α:Type}:∀ xs:List α,Oz (xs.map fun _=>Dv.bl true)=some (xs.map fun _=>true)
 | []=>rfl
 | x::xs=>by rw [lI,lI];simp only [Oz,ID xs,lp,dL]
theorem Lh {α:Type} (xs:List α):Ln (.lst (xs.map fun _=>Dv.bl true))=some (.bl true):=by
 simp only [Ln,ID,lp];congr 2;simp
theorem VI {n:Nat} {xs:List Dv} (hl:xs.length<=1000000) (h:∀ x∈xs,AO n x x=some (.bl true)) {s:Dv} (z:IQ [s,s]=some (zipD2 xs xs)) (l:Ao s=some (.int (xs.length:Nat))):FS (AO n) s s=some (.bl true):=by
 have m:∀ ys:List Dv,(∀ x∈ys,AO n x x=some (.bl true))->AN (FY (AO n)) (ys.map fun x=>.tup [x,x])=some (ys.map fun _=>Dv.bl true):=fun ys=>by
  induction ys with
  | nil=>intro _;rfl
  | cons y ys ih =>
   intro hy;simp only [lI,AN,FY,Cy,hy y lE,dL,Wn,cond_true,ih fun z hz=>hy z (lG _ hz)]
 unfold FS;simp only [l,dL,Co,decide_true,dG,if_true,z];rw [KJ,AJ (by simpa using hl),m xs h];simp only [dL,Lh]
theorem dI {n:Nat} {xs:List Dv} (hl:xs.length<=1000000) (h:∀ x∈xs,AO n x x=some (.bl true)):AO (n+1) (.tup xs) (.tup xs)=some (.bl true):=by
 have h1:EA (.tup xs) (.tup [.ty "tuple", .ty "list"])=some (.bl true):=rfl
 have h2:FM (.tup xs) (.tup xs)=some false:=rfl;unfold AO;simp only [h1,dL,Lx,if_true,h2,lN,if_false,VI hl h (s:=.tup xs) rfl rfl]
theorem dJ {n:Nat} {xs:List Dv} (hl:xs.length<=1000000) (h:∀ x∈xs,AO n x x=some (.bl true)):AO (n+1) (.lst xs) (.lst xs)=some (.bl true):=by
 have h1:EA (.lst xs) (.tup [.ty "tuple", .ty "list"])=some (.bl true):=rfl
 have h2:FM (.lst xs) (.lst xs)=some false:=rfl;unfold AO;simp only [h1,dL,Lx,if_true,h2,lN,if_false,VI hl h (s:=.lst xs) rfl rfl]
theorem KB {n:Nat} {xs:List Dv} (hl:xs.length<=1000000) (h:∀ x∈xs,∃ i,x=.int i):AO (n+2) (.tup xs) (.tup xs)=some (.bl true):=dI hl fun x hx=>by
 obtain ⟨i,rfl⟩:=h x hx;exact dM n i
def Sm (w d:Nat) (x:Dv):Prop:=x.cmp=true/\(toD x).rok=true/\(toD x).dep<=d/\(toD x).wt<=w
theorem Sm.mono {w d w' d':Nat} {x:Dv} (h:Sm w d x) (h1:w<=w') (h2:d<=d'):Sm w' d' x:=⟨h.1,h.2.1,lR h.2.2.1 h2,lR h.2.2.2 h1⟩
theorem JI {t:Nat} (h:t < 1000):Sm 20 0 (.int (t:Nat)):=by
 refine ⟨rfl,?_,lJ _,lJ _⟩;show decide ((t:Int).natAbs < 10 ^ 18)=true;exact decide_eq_true (by omega)
theorem kL {w d:Nat}:∀ {xs:List Dv},(∀ x∈xs,Sm w d x)->Ah xs=true/\L3.rokL (R.toDs xs)=true/\L3.depL (R.toDs xs)<=d/\L3.wtL (R.toDs xs)<=xs.length * (w+2)
 | [],_=>⟨rfl,rfl,mF _,mF _⟩
 | x::xs,h=>by
  obtain ⟨a1,a2,a3,a4⟩:=h x lE;obtain ⟨b1,b2,b3,b4⟩:=kL (xs:=xs) fun y hy=>h y (lG _ hy)
  refine ⟨by unfold Ah;rw [a1,b1];rfl,by unfold R.toDs L3.rokL;rw [a2,b2];rfl,by unfold R.toDs L3.depL;omega,?_⟩;unfold R.toDs L3.wtL;rw [lX,Nat.add_mul];omega
theorem Ce {w d m:Nat} {xs:List Dv} (h:∀ x∈xs,Sm w d x) (hl:xs.length<=m):Sm (m * (w+2)+3) (d+1) (.tup xs)/\Sm (m * (w+2)+3) (d+1) (.lst xs):=by
 obtain ⟨b1,b2,b3,b4⟩:=kL h;have b5:=Nat.mul_le_mul_right (w+2) hl;exact ⟨⟨b1,b2,by show L3.depL (R.toDs xs)+1<=_;omega,by show L3.wtL (R.toDs xs)+3<=_;omega⟩,⟨b1,b2,by show L3.depL (R.toDs xs)+1<=_;omega,by show L3.wtL (R.toDs xs)+3<=_;omega⟩⟩
theorem Nz {x:Dv} (h:Sm 1000000 50 x) (hs:SH x=true):∃ l,FA x=some (.str l):=by
 refine ⟨(toD x).py.shown.cps.toList,?_⟩;unfold FA;rw [if_pos];simp only [hs,h.1,h.2.1,decide_eq_true h.2.2.1,decide_eq_true h.2.2.2,mH]
theorem cK (l:List Nat):Dy (.str l) (.str l)=some true:=by simp [Dy,NP,Dv.cmp,Dv.dep,R.eqV]
theorem az (l:List Nat):RB (.str l) (.str l)=some false:=by simp [RB,NP,Dv.cmp,Dv.dep,R.eqV]
theorem YT {ts:List Nat} {m:Nat} (h:∀ t∈ts,t < 1000) (hl:ts.length<=m):Sm (m * 22+3) 1 (tI ts)/\Sm (m * 22+3) 1 (.lst (nI ts)):=Ce (w:=20) (d:=0) (fun x hx=>by
 obtain ⟨t,ht,rfl⟩:=mB.mp hx;exact JI (h t ht)) (by rw [BP];exact hl)
theorem MZ {g:Dv->Option Dv} {f h:Nat->Dv}:∀ {L:List Nat},(∀ k∈L,g (f k)=some (h k))->AN g (L.map f)=some (L.map h)
 | [],_=>rfl
 | k::L,e=>by simp only [lI,AN,e k lE,MZ fun j hj=>e j (lG _ hj),dL]
theorem CM {g:Dv->Option Dv} {P:Nat} {f h:Nat->Dv} (e:∀ k < P,g (f k)=some (h k)):AN g (mR P f)=some (mR P h):=MZ fun k hk=>e k (mO.mp hk)
theorem Al (P:Nat) (f:Nat->Dv):(mR P f).length=P:=by simp [mR]
theorem TK {P:Nat} {f h:Nat->Dv} (e:∀ k < P,f k=h k):mR P f=mR P h:=nK fun k hk=>e k (mO.mp hk)
theorem TL {P k:Nat} {f:Nat->Dv} (hk:k < P):AA (.tup (mR P f)) (.int (k:Nat))=some (f k):=by
 show DQ (mR P f) (k:Int)=_;rw [atI_nat _ _ (by rw [Al];exact hk)];simp [mR]
theorem HX {g:Dv->Dv->Option Dv} {h:Nat->Dv} {P:Nat} {acc:List Dv} (hl:acc.length+P<=1000) (e:∀ k < P,∀ l:List Dv,l.length<=1000->g (.int (k:Nat)) (.lst l)=some (.lst (l++[h k]))):Av g (mR P fun k=>.int (k:Nat)) (.lst acc)=some (.lst (acc++mR P h)):=by
 obtain ⟨c,e1,rfl⟩:=Ig (P:=fun i c=>c=.lst (acc++mR i h)) g P (.lst acc) (by simp [mR]) fun i hi c hc=>by
  subst hc;refine ⟨_,e i hi _ (by rw [la,Al];omega),?_⟩;simp [mR,nV]
 exact e1
theorem YD {f h:Nat->Dv}:∀ L:List Nat,zipD2 (L.map f) (L.map h)=L.map fun k=>.tup [f k,h k]
 | []=>rfl
 | k::L=>by simp only [lI,<- YD L];rfl
section
variable {I:Nat} {fs ds:List Dv} {P:Nat} {ps:Nat->PtR}
noncomputable abbrev shp (fs ds:List Dv):Dv:=.tup [.tup fs,.tup ds]
abbrev Bh (P:Nat) (ps:Nat->PtR):Dv:=.tup (mR P fun k=>(ps k).dv)
theorem Ct.hin {nf:Nat} {p:PtR} (h:Ct I nf ds p):∀ k < I,AA p.inp (.int (k:Nat))=some (.int (p.ins.getD k 0:Nat))/\p.ins.getD k 0 < p.n:=fun k hk=>by
 have hl:k < p.ins.length:=by rw [h.2.2.2.1];exact hk
 refine ⟨?_,h.2.2.2.2 _ (getD_mem hl)⟩;unfold PtR.inp;cases p.b
 ·exact Gf hl
 ·exact Gf hl
theorem Zu (hfs:∀ x∈fs,Tx 10 x) (hd:∀ x∈ds,Cb 5 x) (hdl:ds.length<=1000) (pw:DP ds) (hP:P<=6) (ok:∀ k < P,Ct I fs.length ds (ps k)) {x:Dv} (hx:YB I fs ds x):De (shp fs ds) (Bh P ps) x ()=some (.go ()):=by
 obtain ⟨F,rfl,hF,_,h0,h1⟩:=hx;have it:items (Bh P ps)=some (mR P fun k=>(ps k).dv):=rfl;have m1:AN (Gu (shp fs ds) (.tup [.tup (nD F),.int ((F.length - 1:Nat))])) (mR P fun k=>(ps k).dv)=some (mR P fun k=>.int ((CH fs ds (ps k).cs (ps k).ins (ps k).T F).getD (F.length - 1) 0:Nat)):=CM fun k hk=>by
  have v:=(Lr hfs hd hdl pw (ok k hk).2.2.1 (ok k hk).hin hF h0 (by omega)).1;unfold Gu PtR.dv;simp only [Cy,v,dL]
 have m2:AN (FX (shp fs ds) (.tup [.tup (nD F),.int ((F.length - 1:Nat))])) (mR P fun k=>(ps k).dv)=some (mR P fun k=>.int ((CH fs ds (ps k).cs (ps k).ins (ps k).T F).getD (F.length - 1) 0:Nat)):=CM fun k hk=>by
  have v:=NC hfs hd hdl pw (ok k hk).2.2.1 (ok k hk).hin hF h0 (by omega);unfold FX PtR.dv;simp only [Cy,v,dL]
 unfold De JM;simp only [it,dL];rw [AJ (by rw [Al];omega),m2,AJ (by rw [Al];omega),m1];simp only [dL,AI];rw [KB (n:=198) (by rw [Al];omega) fun x hx=>by obtain ⟨k,_,rfl⟩:=mB.mp hx;exact ⟨_,rfl⟩];rfl
theorem Gg {n:Nat} {w:Dv} {cs:List Nat} {T:List Dv} (hd:∀ x∈ds,Cb 5 x) (hdl:ds.length<=1000) (pw:DP ds) (W:Wl n fs.length ds w cs T) {l:List Nat} {r:Int} (hm:Dv.tup [.str l,.int r]∈ds):Bq (shp fs ds) w (.str l)=some (Cz ds T (.str l))/\Tab n r (Cz ds T (.str l)):=by
 obtain ⟨j,ej,hj⟩:=Jo hd pw hm;obtain ⟨t,et,ht⟩:=JW W.2.2.2 hj;obtain ⟨a',r',e,_,ht⟩:=ht;simp only [Dv.tup.injEq,List.cons.injEq,Dv.int.injEq,and_true] at e;obtain ⟨_,rfl⟩:=e;have td:Cz ds T (.str l)=t:=by unfold Cz;rw [ej];simp [List.getD,et]
 rw [td];have i1:AA (.tup [.tup fs,.tup ds]) (.int 1)=some (.tup ds):=rfl;have it:items (.tup ds)=some ds:=rfl;obtain ⟨c1,c2⟩:=LC hd;have ix:Bu (.lst (ds.map Ox)) (.str l)=some (.int (j:Nat)):=by
  simp only [Bu,Dv.cmp,c1,c2,mH,mF,decide_true,if_true,ej,lp]
 have jT:j < T.length:=(lD.mp et).1;have at_:AA (.tup T) (.int (j:Nat))=some t:=by
  show DQ T (j:Int)=_;rw [atI_nat T j jT];rw [lA jT] at et;exact et
 refine ⟨?_,ht⟩;unfold Bq EG;simp only [W.w2,i1,it,dL];rw [AJ (by omega),ES hd EI (fun a r=>rfl)];simp only [dL,Bw,ix,oM,at_]
abbrev BY (P:Nat) (a:Nat->Nat):Dv:=.tup (mR P fun k=>.int (a k:Nat))
theorem kR (hP:P<=6):∀ (rs:List (Nat->Nat)) (t z:Nat->Dv),(∀ k < P,Av Ck (nI (rs.map fun a=>a k)) (t k)=some (z k))->Av Dg (rs.map (BY P)) (.lst (mR P t))=some (.lst (mR P z))
 | [],t,z,h=>by
  have:mR P t=mR P z:=TK fun k hk=>Option.some.inj (h k hk)
  rw [this];rfl
 | a::rs,t,z,h=>by
  have st:∀ k < P,AA (t k) (.int (a k:Nat))=some (sub (t k) (a k))/\Av Ck (nI (rs.map fun a=>a k)) (sub (t k) (a k))=some (z k):=fun k hk=>by
   have:=h k hk;simp only [nI,lI,Av,Ck] at this;cases e:AA (t k) (.int (a k:Nat)) with
   | none=>rw [e] at this;cases this
   | some y =>
    rw [e] at this;have s:sub (t k) (a k)=y:=by unfold sub;rw [e];rfl
    rw [s];exact ⟨rfl,this⟩
  have z2:IQ [.lst (mR P t),BY P a]=some (zipD2 (mR P t) (mR P fun k=>.int (a k:Nat))):=rfl;have e1:Dg (BY P a) (.lst (mR P t))=some (.lst (mR P fun k=>sub (t k) (a k))):=by
   unfold Dg JN;simp only [z2,dL];rw [YD,AJ (by simp;omega),MZ (h:=fun k=>sub (t k) (a k)) fun k hk=>by
    unfold Kc;simp only [Cy,(st k (mO.mp hk)).1,dL]]
   rfl
  rw [lI];simp only [Av,e1,dL];exact kR hP rs _ z fun k hk=>(st k hk).2
theorem Jm (hd:∀ x∈ds,Cb 5 x) (hdl:ds.length<=1000) (pw:DP ds) (hP:P<=6) (ok:∀ k < P,Ct I fs.length ds (ps k)) {l:List Nat} {r:Int} (hm:Dv.tup [.str l,.int r]∈ds) (hr:r=1\/r=2) {rs:List (Nat->Nat)} (hl:(rs.length:Int)=r) (hb:∀ a∈rs,∀ k < P,a k < (ps k).n) {h:Dv} (hh:items h=some (rs.map (BY P))) :
    Ej (shp fs ds) (Bh P ps) (.str l) h=some (.tup (mR P fun k=>.int (ac (Cz ds (ps k).T (.str l)) (rs.map fun a=>a k):Nat)))/\DH (shp fs ds) (Bh P ps) (.str l) (.lst (rs.map (BY P)))=some (.tup (mR P fun k=>.int (ac (Cz ds (ps k).T (.str l)) (rs.map fun a=>a k):Nat))):=by
  have bd:∀ k < P,∀ a∈rs.map (fun a=>a k),a < (ps k).n:=fun k hk a ha=>by
    obtain ⟨b,hb',rfl⟩:=mB.mp ha;exact hb b hb' k hk
  constructor
  · have it:items (Bh P ps)=some (mR P fun k=>(ps k).dv):=rfl;have m1:AN (CK (shp fs ds) (.str l)) (mR P fun k=>(ps k).dv)=some (mR P fun k=>Cz ds (ps k).T (.str l)):=CM fun k hk=>by
      have i0:AA (ps k).dv (.int 0)=some (ps k).w:=rfl;have t:=(Gg (fs:=fs) hd hdl pw (ok k hk).2.2.1 hm).1;unfold CK;simp only [i0,t,dL]
    unfold Ej CB;simp only [it,hh,dL];rw [AJ (by rw [Al];omega),m1];simp only [dL];rw [kR hP rs _ (fun k=>.int (ac (Cz ds (ps k).T (.str l)) (rs.map fun a=>a k):Nat)) fun k hk=>(Ni (Gg (fs:=fs) hd hdl pw (ok k hk).2.2.1 hm).2 hr (by simpa using hl) (bd k hk)).1];rfl
  · have ln:Ao (Bh P ps)=some (.int (P:Nat)):=by
      show some (Dv.int ((mR P fun k=>(ps k).dv).length:Nat))=_;rw [Al]
    have it:items (.lst (rs.map (BY P)))=some (rs.map (BY P)):=rfl;have lr:rs.length<=2:=by omega
    unfold DH;simp only [ln,dL,HB P (by omega)];rw [HX (h:=fun k=>.int (ac (Cz ds (ps k).T (.str l)) (rs.map fun a=>a k):Nat)) (by simp;omega) fun k hk acc hacc=>by
      have i1:AA (Bh P ps) (.int (k:Nat))=some (ps k).dv:=TL hk;have i0:AA (ps k).dv (.int 0)=some (ps k).w:=rfl;have m:∀ qs:List (Nat->Nat),AN (EM (.int (k:Nat))) (qs.map (BY P))=some (nI (qs.map fun a=>a k)):=fun qs=>by
        induction qs with
        | nil=>rfl
        | cons a qs ih =>
          have:AA (BY P a) (.int (k:Nat))=some (.int (a k:Nat)):=TL hk;simp only [nI] at ih;simp only [lI,AN,EM,this,dL,nI] at ih ⊢;rw [ih];rfl
      have d:=(GA (fs:=fs) hd hdl pw (ok k hk).2.2.1 hm hr (ths:=rs.map fun a=>a k) (by simpa using hl) (bd k hk)).2.1;unfold Gy;simp only [Bw,i1,i0,it,dL];rw [AJ (by simp;omega),m];simp only [dL,d,Bj (show acc.length<=1000000 by omega)]]
    rfl
end
theorem TX {k:Nat} {l:List Nat}:∀ {fs:List Dv} {k:Nat},(∀ x∈fs,∃ l,x=Dv.str l)->fs.Pairwise (·≠·)->fs[k]?=some (.str l)->ET (.str l) fs=some k
 | [],k,_,_,h=>by simp at h
 | x::xs,0,_,_,h=>by
  simp at h;subst h;unfold ET;rw [if_pos (by simp [R.eqV])]
 | x::xs,k+1,hs,pw,h=>by
  obtain ⟨l',rfl⟩:=hs x lE;have h':xs[k]?=some (.str l):=by simpa using h
  have ne:=(nN.mp pw).1 _ (mQ h');have e:¬ R.eqV (.str l') (.str l)=true:=fun z=>ne (by simp [R.eqV] at z ⊢;exact z)
  unfold ET;rw [if_neg e,TX (k:=k) (fun y hy=>hs y (lG _ hy)) (nN.mp pw).2 h'];rfl
theorem gO (fs:List Dv):fs=mR fs.length fun k=>fs.getD k .non:=List.ext_getElem (by simp) fun i h1 h2=>by
 simp [List.getD,lA h1]
theorem Nc (I:Int):∀ L:List Nat,GH (L.map fun _=>Dv.int I)=some (L.map fun _=>I)
 | []=>rfl
 | k::L=>by rw [lI,lI];simp only [GH,Nc I L,lp,dL]
theorem gC {P I:Nat} (h:0 < P):JC (.lst (mR P fun _=>.int (I:Nat))) (.int 0)=some (.int (I:Nat)):=by
 simp only [JC,mR,Nc];cases e:(List.range P).map (fun _=>((I:Nat):Int)) with
 | nil=>have:=congrArg List.length e;simp at this;omega
 | cons n ns =>
  simp only [];obtain ⟨m1,_⟩:=Q.mxI_spec (n::ns) (by simp);rw [<- e] at m1;obtain ⟨_,_,q⟩:=mB.mp m1;rw [e] at q;rw [<- q]
section
variable {I:Nat} {fs ds:List Dv} {P:Nat} {ps:Nat->PtR}
def Ho (I nf P:Nat) (ps:Nat->PtR):List Dv:=mR I (fun k=>BY P fun j=>(ps j).ins.getD k 0)++mR nf (fun k=>BY P fun j=>(ps j).cs.getD k 0)
theorem OS {nf:Nat} {p:PtR} (h:Ct I nf ds p):Ao p.inp=some (.int (I:Nat)):=by
 rw [<- h.2.2.2.1];unfold PtR.inp;cases p.b
 ·exact Ri _
 ·exact Ri _
theorem Sw (hfs:∀ x∈fs,Tx 10 x) (hfl:fs.length<=100) (hfp:fs.Pairwise (·≠·)) (hI:I<=100) (h0:0 < P) (hP:P<=6) (ok:∀ k < P,Ct I fs.length ds (ps k)) :
    CU (shp fs ds) (Bh P ps)=some (.lst (Ho I fs.length P ps))/\Ke (shp fs ds) (Bh P ps)=some (.lst (Ho I fs.length P ps)):=by
  have it:items (Bh P ps)=some (mR P fun k=>(ps k).dv):=rfl;have i0:AA (shp fs ds) (.int 0)=some (.tup fs):=rfl;have itf:items (.tup fs)=some fs:=rfl;constructor
  · have m1:AN EK (mR P fun k=>(ps k).dv)=some (mR P fun _=>.int (I:Nat)):=CM fun k hk=>by
      unfold EK PtR.dv;simp only [Cy,OS (ok k hk),dL]
    have m2:AN (EJ (Bh P ps)) (mR I fun k=>.int (k:Nat))=some (mR I fun k=>BY P fun j=>(ps j).ins.getD k 0):=CM fun k hk=>by
      unfold EJ Di;simp only [it,dL];rw [AJ (by rw [Al];omega),CM (h:=fun j=>.int ((ps j).ins.getD k 0:Nat)) fun j hj=>by
        unfold GI PtR.dv;simp only [Cy,((ok j hj).hin k hk).1,dL]]
      rfl
    have m3:AN (Ci (shp fs ds) (Bh P ps)) fs=some (mR fs.length fun k=>BY P fun j=>(ps j).cs.getD k 0):=by
      refine (congrArg (AN (Ci (shp fs ds) (Bh P ps))) (gO fs)).trans (CM fun k hk=>?_);have hg:fs.getD k .non=fs[k]:=by simp [List.getD,lA hk]
      rw [hg];have hm:fs[k]∈fs:=mZ _;unfold Ci Dj;simp only [it,dL];rw [AJ (by rw [Al];omega),CM (h:=fun j=>.int ((ps j).cs.getD k 0:Nat)) fun j hj=>by
        obtain ⟨q,h1,_,h2,_⟩:=EW hfs (ok j hj).2.2.1 hm;have fv:Mk fs (ps j).cs fs[k]=(ps j).cs.getD k 0:=by
          obtain ⟨l,e,_⟩:=hfs _ hm;unfold Mk;rw [e,TX (k:=k) (fun x hx=>by obtain ⟨l,e,_⟩:=hfs x hx;exact ⟨l,e⟩) hfp (by rw [lA hk,e])];rfl
        rw [fv] at h2;unfold GJ PtR.dv CW;simp only [Cy,(ok j hj).2.2.1.w1,h1,h2,dL]]
      rfl
    have ad:Aq (.lst (mR I fun k=>BY P fun j=>(ps j).ins.getD k 0)) (.lst (mR fs.length fun k=>BY P fun j=>(ps j).cs.getD k 0))=some (.lst (Ho I fs.length P ps)):=by
      simp only [Aq,Al];rw [if_pos (by omega)];rfl
    unfold CU;simp only [it,dL];rw [AJ (by rw [Al];omega),m1];simp only [dL,gC h0,HB I (show I<=1000000 by omega)];rw [AJ (by simp;omega),m2];simp only [dL,i0,itf];rw [AJ (by omega),m3];simp only [dL,ad]
  · have p0:AA (Bh P ps) (.int 0)=some (ps 0).dv:=TL (k:=0) h0;have p1:AA (ps 0).dv (.int 1)=some (ps 0).inp:=rfl;have lf:Ao (.tup fs)=some (.int (fs.length:Nat)):=rfl;unfold Ke;simp only [p0,p1,OS (ok 0 h0),HB I (show I<=1000000 by omega),dL];rw [HX (h:=fun k=>BY P fun j=>(ps j).ins.getD k 0) (by simp;omega) fun k hk acc ha=>by
      unfold Nw;simp only [Bw,it,dL];rw [AJ (by rw [Al];omega),CM (h:=fun j=>.int ((ps j).ins.getD k 0:Nat)) fun j hj=>by
        unfold Nu PtR.dv;simp only [Cy,((ok j hj).hin k hk).1,dL]]
      simp only [dL,AI,Bj (show acc.length<=1000000 by omega)]]
    simp only [dL,i0,lf,HB fs.length (show fs.length<=1000000 by omega)];rw [HX (h:=fun k=>BY P fun j=>(ps j).cs.getD k 0) (by simp [mR];omega) fun k hk acc ha=>by
      unfold Nv;simp only [Bw,it,dL];rw [AJ (by rw [Al];omega),CM (h:=fun j=>.int ((ps j).cs.getD k 0:Nat)) fun j hj=>by
        have c:=Gf (ts:=(ps j).cs) (h:=k) (by rw [(ok j hj).2.2.1.2.1];exact hk);unfold Nt PtR.dv;simp only [Cy,(ok j hj).2.2.1.w1,c,dL]]
      simp only [dL,AI,Bj (show acc.length<=1000000 by omega)]]
    rfl
theorem OG:(Ho I fs.length P ps).length=I+fs.length:=by unfold Ho;rw [la,Al,Al]
theorem Pg (hfl:fs.length<=100) (hI:I<=100) (hP:P<=6):AO 200 (.lst (Ho I fs.length P ps)) (.lst (Ho I fs.length P ps))=some (.bl true):=dJ (n:=199) (by rw [OG];omega) fun x hx=>by
 have:∃ a,x=BY P a:=by
  unfold Ho at hx;rcases lW.mp hx with h | h
  ·obtain ⟨k,_,rfl⟩:=mB.mp h;exact ⟨_,rfl⟩
  ·obtain ⟨k,_,rfl⟩:=mB.mp h;exact ⟨_,rfl⟩
 obtain ⟨a,rfl⟩:=this;exact KB (n:=197) (by rw [Al];omega) fun x hx=>by obtain ⟨k,_,rfl⟩:=mB.mp hx;exact ⟨_,rfl⟩
end
theorem LL {γ τ ρ:Type} (g:Dv->γ->Option (Lp τ γ ρ)) (P:γ->Prop):∀ (xs:List Dv) (c:γ),P c->(∀ x∈xs,∀ c,P c->∃ c',g x c=some (.go c')/\P c')->∃ c',HV g xs c=some (.go c')/\P c'
 | [],c,hc,_=>⟨c,rfl,hc⟩
 | x::xs,c,hc,h=>by
  obtain ⟨c1,e1,h1⟩:=h x lE c hc;obtain ⟨c2,e2,h2⟩:=LL g P xs c1 h1 fun y hy=>h y (lG _ hy)
  exact ⟨c2,by simp only [HV,e1,dL,e2],h2⟩
theorem VH {α:Type} (f:α->Dv) (R:α->Prop):∀ {ys:List Dv},(∀ y∈ys,∃ a,y=f a/\R a)->∃ as:List α,ys=as.map f/\∀ a∈as,R a
 | [],_=>⟨[],rfl,fun _ h=>by cases h⟩
 | y::ys,h=>by
  obtain ⟨a,rfl,ha⟩:=h y lE;obtain ⟨as,e,hs⟩:=VH f R (ys:=ys) fun z hz=>h z (lG _ hz)
  exact ⟨a::as,by rw [lI,<- e],fun b hb=>by
   rcases lO.mp hb with rfl | hb
   ·exact ha
   ·exact hs b hb⟩
section
variable {I:Nat} {fs ds:List Dv} {P:Nat} {ps:Nat->PtR}
theorem QA {nf:Nat} (hP:P<=6) (ok:∀ k < P,Ct I nf ds (ps k)) {f:Dv} (hf:Fd f):∃ (a:Nat->Nat) (f':Dv),Kd f (Bh P ps)=some (BY P a,f')/\(∀ k < P,a k < (ps k).n)/\Fd f':=by
 obtain ⟨ys,f1,e1,l1,h1,hf1⟩:=Hb JL Fd (fun i d=>∃ q:Nat,d=.int q/\q < (ps i).n) (mR P fun k=>(ps k).dv) 0 f hf fun i x hx c hc=>by
  rw [lP] at hx;have hi:i < P:=by
   rcases mi i P with h | h
   ·exact h
   ·rw [mK (by simp;omega)] at hx;cases hx
  rw [lA (by simp;omega)] at hx;simp only [lp,Option.some.injEq,nA] at hx;subst hx;have n0:=(ok i hi).1;have n4:=(ok i hi).2.1;obtain ⟨q,f',e,b,hf'⟩:=AH hc (n:=((ps i).n:Int)) (by omega) (by omega);have w0:AA (ps i).w (.int 0)=some (.int ((ps i).n:Nat)):=rfl;refine ⟨.int q,f',?_,⟨q,rfl,by rw [nE];omega⟩,hf'⟩;unfold JL PtR.dv;simp only [Cy,w0,dL,e]
 rw [Al] at l1;obtain ⟨a,ea,ha⟩:=fn_of 0 (fun q:Nat=>Dv.int (q:Nat)) (fun i q=>q < (ps i).n) ys fun i x hx=>by
  obtain ⟨q,h,b⟩:=h1 i x hx;rw [nE] at b;exact ⟨q,h,b⟩
 rw [l1] at ea ha;refine ⟨a,f1,?_,ha,hf1⟩;have it:items (Bh P ps)=some (mR P fun k=>(ps k).dv):=rfl;unfold Kd;simp only [it,dL];rw [AJ (by rw [Al];omega),e1,ea];rfl
theorem Zb {a:Nat->Nat} (hP:P<=6) (h:∀ k < P,a k < 1000):Sm 135 1 (BY P a):=(Ce (w:=20) (d:=0) (m:=6) (fun x hx=>by
 obtain ⟨k,hk,rfl⟩:=mB.mp hx;exact JI (h k (mO.mp hk))) (by rw [Al];exact hP)).1
theorem Za {n:Nat} {r:Int} {t:Dv} (hn:n<=4) (h:Tab n r t):Sm 400 2 t:=by
 have row:∀ x,Row n x->Sm 91 1 x:=fun x ⟨xs,e,l,hx⟩=>by
  subst e;exact (Ce (w:=20) (d:=0) (m:=4) (fun y hy=>by obtain ⟨r,rfl,hr⟩:=hx y hy;exact JI (by omega)) (by omega)).1
 rcases h with ⟨_,h⟩ | ⟨_,xs,rfl,l,hx⟩
 ·exact (row t h).mono (by decide) (by decide)
 ·exact (Ce (w:=91) (d:=1) (m:=4) (fun y hy=>row y (hx y hy)) (by omega)).1.mono (by decide) (by decide)
theorem Zc {nf:Nat} (hnf:nf<=4) (hdl:ds.length<=3) (hI:I<=4) (hP:P<=6) (ok:∀ k < P,Ct I nf ds (ps k)):Sm 1000000 50 (Bh P ps):=by
 have one:∀ k < P,Sm 30000 5 (ps k).dv:=fun k hk=>by
  obtain ⟨n0,n4,W,il,ib⟩:=ok k hk;have c1:=(YT (ts:=(ps k).cs) (m:=4) (fun t ht=>by have:=W.2.2.1 t ht;omega) (by rw [W.2.1];exact hnf)).1;have c2:Sm 3000 3 (.tup (ps k).T):=(Ce (w:=400) (d:=2) (m:=3) (fun x hx=>by
   obtain ⟨d,a,r,_,_,h⟩:=JV W.2.2.2 x hx;exact Za n4 h) (by rw [<- Eo W.2.2.2];exact hdl)).1.mono (by decide) (by decide)
  have c3:Sm 9999 4 (ps k).w:=(Ce (w:=3000) (d:=3) (m:=3) (fun x hx=>by
   simp only [lO,mM,or_false] at hx;rcases hx with rfl | rfl | rfl
   ·exact (JI (by omega)).mono (by decide) (by decide)
   ·exact c1.mono (by decide) (by decide)
   ·exact c2) (by simp)).1.mono (by decide) (by decide)
  have ci:=YT (ts:=(ps k).ins) (m:=4) (fun t ht=>by have:=ib t ht;omega) (by omega);have c4:Sm 91 1 (ps k).inp:=by
   unfold PtR.inp;cases (ps k).b
   ·exact ci.1
   ·exact ci.2
  exact (Ce (w:=9999) (d:=4) (m:=2) (fun x hx=>by
   simp only [lO,mM,or_false] at hx;rcases hx with rfl | rfl
   ·exact c3
   ·exact c4.mono (by decide) (by decide)) (by simp)).1.mono (by decide) (by decide)
 exact (Ce (w:=30000) (d:=5) (m:=6) (fun x hx=>by
  obtain ⟨k,hk,rfl⟩:=mB.mp hx;exact one k (mO.mp hk)) (by rw [Al];exact hP)).1.mono (by decide) (by decide)
theorem SL (hd:∀ x∈ds,Cb 5 x) (hdl:ds.length<=1000) (pw:DP ds) (hP:P<=6) (ok:∀ k < P,Ct I fs.length ds (ps k)) {l:List Nat} {r:Int} (hm:Dv.tup [.str l,.int r]∈ds) (hr:r=1\/r=2) {k:Nat} (hk:k < 2) {f:Dv} (hf:Fd f):∃ f',Fe (shp fs ds) (Bh P ps) (.str l) (.int r) (.int (k:Nat)) f=some (.go f')/\Fd f':=by
 obtain ⟨m,rfl⟩:∃ m:Nat,r=(m:Int):=⟨r.toNat,by omega⟩;obtain ⟨ys,f1,e1,l1,h1,hf1⟩:=Aw (FW (Bh P ps)) Fd (fun y=>∃ a:Nat->Nat,y=BY P a/\∀ k < P,a k < (ps k).n) ((List.range m).map fun k=>.int (k:Nat)) f hf fun x hx c hc=>by
  obtain ⟨a,f',e,b,hf'⟩:=QA hP ok hc;exact ⟨BY P a,f',by unfold FW;simp only [e,dL],⟨a,rfl,b⟩,hf'⟩
 obtain ⟨rs,rfl,hrs⟩:=VH (BY P) (fun a=>∀ k < P,a k < (ps k).n) h1;have lr:rs.length=m:=by simpa using l1
 have hand:∃ h,AA (.lst [.lst (rs.map (BY P)),.tup (rs.map (BY P))]) (.int (k:Nat))=some h/\items h=some (rs.map (BY P))/\SH h=true/\Sm 1000000 50 h:=by
  have sm:=Ce (w:=135) (d:=1) (m:=2) (xs:=rs.map (BY P)) (fun x hx=>by
   obtain ⟨a,ha,rfl⟩:=mB.mp hx;exact Zb hP fun k hk=>by have:=hrs a ha k hk;have:=(ok k hk).2.1;omega) (by simp;omega)
  rcases (show k=0\/k=1 by omega) with rfl | rfl
  ·exact ⟨_,rfl,rfl,rfl,sm.2.mono (by decide) (by decide)⟩
  ·exact ⟨_,rfl,rfl,rfl,sm.1.mono (by decide) (by decide)⟩
 obtain ⟨h,eh,ih,sh,smh⟩:=hand;obtain ⟨l1',er⟩:=Nz smh sh;obtain ⟨d1,d2⟩:=Jm hd hdl pw hP ok hm hr (rs:=rs) (by omega) hrs ih;have al:=KB (n:=198) (xs:=mR P fun k=>.int (ac (Cz ds (ps k).T (.str l)) (rs.map fun a=>a k):Nat)) (by rw [Al];omega) fun x hx=>by obtain ⟨k,_,rfl⟩:=mB.mp hx;exact ⟨_,rfl⟩
 have st:FK (shp fs ds) (Bh P ps) (.str l) (.tup (mR P fun k=>.int (ac (Cz ds (ps k).T (.str l)) (rs.map fun a=>a k):Nat))) h (.str l1')=some false:=by
  unfold FK;rw [d1];simp only [dL];rw [al];simp only [dL,Wn,cond_true,Lx,Bool.not_true,lN,if_false,er,az]
 refine ⟨f1,?_,hf1⟩;unfold Fe;simp only [HB m (by omega),dL];rw [AJ (by simp;omega),e1];simp only [dL,d2,AI,eh,er];rw [st];rfl
theorem MI (hfs:∀ x∈fs,Tx 10 x) (hfl:fs.length<=4) (hfp:fs.Pairwise (·≠·)) (hd:∀ x∈ds,Cb 5 x) (hdl:ds.length<=3) (pw:DP ds) (hI:I<=4) (h0:0 < P) (hP:P<=6) (ok:∀ k < P,Ct I fs.length ds (ps k)) {xs:List Dv} (hx:∀ x∈xs,YB I fs ds x) {f:Dv} (hf:Fd f):∃ f',Eh f (shp fs ds) (Bh P ps) (.lst xs)=some (.bl true,f')/\Fd f':=by
 obtain ⟨l0,er⟩:=Nz (Zc hfl hdl hI hP ok) rfl;have g1:=OX (De (shp fs ds) (Bh P ps)) () xs fun x h=>Zu hfs hd (by omega) pw hP ok (hx x h)
 have r2':BG [.int 2]=some [.int (0:Nat),.int (1:Nat)]:=HB 2 (by decide);obtain ⟨f1,e1,hf1⟩:=LL (Fc (shp fs ds) (Bh P ps)) Fd ds f hf fun x h c hc=>by
  obtain ⟨a,r,rfl,⟨l,rfl,_⟩,hr⟩:=hd x h;obtain ⟨c1,a1,hc1⟩:=SL (fs:=fs) hd (by omega) pw hP ok h hr (k:=0) (by decide) hc;obtain ⟨c2,a2,hc2⟩:=SL (fs:=fs) hd (by omega) pw hP ok h hr (k:=1) (by decide) hc1;refine ⟨c2,?_,hc2⟩;unfold Fc;simp only [Cy,r2',dL,HV,a1,a2,Rs.el]
 obtain ⟨o1,o2⟩:=Sw hfs (by omega) hfp (by omega) h0 hP ok;have oa:=Pg (I:=I) (fs:=fs) (ps:=ps) (by omega) (by omega) hP;have it:items (.lst xs)=some xs:=rfl;have i1:AA (shp fs ds) (.int 1)=some (.tup ds):=rfl;have itd:items (.tup ds)=some ds:=rfl;have s1:FO (shp fs ds) (Bh P ps) (.str l0) (.lst (Ho I fs.length P ps))=some (.bl true):=by
  unfold FO;rw [o1];simp only [dL];rw [oa];simp only [dL,Wn,cond_true,dG,if_true,er,cK]
 refine ⟨f1,?_,hf1⟩;unfold Eh;rw [er];simp only [dL,it];rw [g1];simp only [dL,Rs.el,i1,itd];rw [e1];simp only [dL,Rs.el,o1,o2];rw [oa];simp only [dL,Wn,cond_true,Lx,Bool.not_true,lN,if_false,Bw,Bj (show (Ho I fs.length P ps).length<=1000000 by rw [OG];omega),s1]
end
theorem TQ (ns:List Int) (h:ns.length<=63):one Vv [Dv.scr ns]=some (Dv.bl true):=by
 show Vv (Dv.scr ns)=_;obtain ⟨f0,e0,hf0⟩:=Ih (ns:=ns) (k:=0);obtain ⟨fs,ds,f1,e1,lf,hfs,hfp,ld,hd,pw,hf1⟩:=MD hf0;obtain ⟨r2,f2,e2,b2,hf2⟩:=AH hf1 (n:=4) (by decide) (by decide);have i0:AA (.tup [.tup fs,.tup ds]) (.int 0)=some (.tup fs):=rfl;have l0:Ao (.tup fs)=some (.int (fs.length:Nat)):=rfl;have mx:∃ (d6:Dv) (I:Nat),(Dy (.int (fs.length:Nat)) (.int 0)).bind (fun b=>FC (.bl b))=some d6/\FB (.int (r2:Nat)) d6=some (.int (I:Nat))/\I<=4/\(fs.length=0->0 < I):=by
  rw [Co];simp only [dL,FC,FB]
  by_cases h:(fs.length:Int)=0
  ·simp only [h,decide_true,if_true]
   by_cases h2:(1:Int) > (r2:Nat)
   ·exact ⟨_,1,rfl,by show some (Dv.int (if _ then _ else _))=_;rw [if_pos h2];rfl,by omega,fun _=>by omega⟩
   ·exact ⟨_,r2,rfl,by show some (Dv.int (if _ then _ else _))=_;rw [if_neg h2],by omega,fun _=>by omega⟩
  ·simp only [h,decide_false,lN,if_false];exact ⟨_,r2,rfl,by show some (Dv.int (if (0:Int) > (r2:Nat) then _ else _))=_;rw [if_neg (by omega)],by omega,fun z=>by omega⟩
 obtain ⟨d6,I,m1,m2,hI,hI0⟩:=mx;obtain ⟨b5,q1,q2⟩:=my.mp m1;have r2':BG [.int 2]=some ((List.range 2).map fun k=>.int (k:Nat)):=HB 2 (by decide);obtain ⟨xs,f3,e3,l3,h3,hf3⟩:=Aw (MH (shp fs ds) (.int (I:Nat))) Fd (YB I fs ds) ((List.range 2).map fun k=>.int (k:Nat)) f2 hf2 fun x hx c hc=>by
  obtain ⟨y,f',e,h,hf'⟩:=QM hfs hd (by omega) hc (by omega) (show I<=100 by omega) hI0 (many:=12) (by decide) (by decide);have e':Fg c (shp fs ds) (.int (I:Nat)) (.int 12)=some (y,f'):=e;exact ⟨y,f',by unfold MH;simp only [e',dL],h,hf'⟩
 obtain ⟨f4,e4,hf4⟩:=Ih (ns:=ns) (k:=1);obtain ⟨ys,f5,e5,l5,h5,hf5⟩:=Aw (MG (shp fs ds) (.int (I:Nat))) Fd (fun y=>∃ (P:Nat) (ps:Nat->PtR),y=Bh P ps/\0 < P/\P<=6/\∀ k < P,Ct I fs.length ds (ps k)) ((List.range 2).map fun k=>.int (k:Nat)) f4 hf4 fun x hx c hc=>by
  obtain ⟨P,ps,f',e,h0,h6,ok,hf'⟩:=MC (fs:=fs) (ds:=ds) (show I<=100 by omega) (by omega) (by omega) hd hc;exact ⟨Bh P ps,f',by unfold MG;simp only [e,dL],⟨P,ps,rfl,h0,h6,ok⟩,hf'⟩
 have sl:KD (.lst ys) none (some 1)=some (.lst (cutA ys none (some 1))):=rfl;have cl:=Of ys none (some 1);have ad:Aq (.lst ys) (.lst (cutA ys none (some 1)))=some (.lst (ys++cutA ys none (some 1))):=by
  simp only [Aq];rw [if_pos (by simp at l5;omega)]
 obtain ⟨zs,f6,e6,l6,h6,hf6⟩:=Aw (MF (shp fs ds) xs) Fd (fun z=>z=.bl true) (ys++cutA ys none (some 1)) f5 hf5 fun x hx c hc=>by
  have hx':x∈ys:=by
   rcases lW.mp hx with h | h
   ·exact h
   ·exact Jp h
  obtain ⟨P,ps,rfl,h0,h6,ok⟩:=h5 x hx';obtain ⟨f',e,hf'⟩:=MI hfs lf hfp hd ld pw hI h0 h6 ok h3 hc;exact ⟨.bl true,f',by unfold MF;simp only [e,dL],rfl,hf'⟩
 have ez:zs=zs.map fun _=>Dv.bl true:=by
  conv=>lhs;rw [<- List.map_id zs]
  exact nK fun z hz=>h6 z hz
 have al:Ln (.lst zs)=some (.bl true):=by rw [ez];exact Lh zs
 have it:items (.lst (ys++cutA ys none (some 1)))=some (ys++cutA ys none (some 1)):=rfl;have e0':DG (.scr ns) (.int 0)=some f0:=e0;have e4':DG (.scr ns) (.int 1)=some f4:=e4;have e2':AL f1 (.int 4)=some (.int (r2:Nat),f2):=e2;unfold Vv;simp only [e0',e1,e2',i0,l0,q1,q2,m2,r2',dL];rw [AJ (by simp),e3];simp only [dL,e4'];rw [AJ (by simp),e5];simp only [dL,sl,ad,it];rw [AJ (by simp at l5 ⊢;omega),e6];simp only [dL,al]
theorem Qt:AY "table_in" (top 1):=Qz (by kernel_rfl) (by intros;kernel_rfl)
theorem dC:AY "done" (top 2):=Lf (by kernel_rfl) (by intros;kernel_rfl)
theorem Qx:AY "fixed_in" (top 3):=Qz (by kernel_rfl) (by intros;kernel_rfl)
theorem Le:AY "node_value" (top 6):=dD (by kernel_rfl) (by intros;kernel_rfl)
theorem Xp:AY "value" (top 5):=Lf (by kernel_rfl) (by intros;kernel_rfl)
theorem Xq:AY "row_of" (top 8):=Qz (by kernel_rfl) (by intros;kernel_rfl)
theorem Jx:AY "deed_tables" (top 10):=Qz (by kernel_rfl) (by intros;kernel_rfl)
theorem Xr:AY "led_by" (top 11):=Hs (by kernel_rfl) (by intros;kernel_rfl)
theorem VD:AY "done_on" (top 9):=Lf (by kernel_rfl) (by intros;kernel_rfl)
theorem NM:AY "input_row" (top 13):=Hs (by kernel_rfl) (by intros;kernel_rfl)
theorem NN:AY "fixed_row" (top 14):=Qz (by kernel_rfl) (by intros;kernel_rfl)
theorem Qu:AY "own_rows" (top 12):=Hs (by kernel_rfl) (by intros;kernel_rfl)
theorem Xu:AY "_law_feed" (top 16):=Hs (by kernel_rfl) (by intros;kernel_rfl)
theorem Xs:AY "_law_take" (top 17):=Hs (by kernel_rfl) (by intros;kernel_rfl)
theorem Uz:AY "_law_names" (top 18):=Hs (by kernel_rfl) (by intros;kernel_rfl)
theorem Ux:AY "_law_shape" (top 19):=je (by kernel_rfl) (by intros;kernel_rfl)
theorem Uv:AY "_law_world" (top 20):=Qz (by kernel_rfl) (by intros;kernel_rfl)
theorem NL:AY "_law_ordered" (top 21):=Hs (by kernel_rfl) (by intros;kernel_rfl)
theorem Xt:AY "_law_form" (top 22):=Lf (by kernel_rfl) (by intros;kernel_rfl)
theorem Qv:AY "_law_points" (top 23):=dD (by kernel_rfl) (by intros;kernel_rfl)
theorem Uw:AY "_law_spots" (top 24):=dD (by kernel_rfl) (by intros;kernel_rfl)
theorem VC:AY "_law_acted" (top 25):=Lf (by kernel_rfl) (by intros;kernel_rfl)
theorem VA:AY "_law_comes" (top 26):=Lf (by kernel_rfl) (by intros;kernel_rfl)
theorem Qw:AY "_law_done_on" (top 27):=Lf (by kernel_rfl) (by intros;kernel_rfl)
theorem cz:AY "_law_own" (top 28):=Hs (by kernel_rfl) (by intros;kernel_rfl)
theorem VB:AY "_law_alike" (top 29):=Hs (by kernel_rfl) (by intros;kernel_rfl)
theorem cy:AY "_law_row" (top 30):=Hs (by kernel_rfl) (by intros;kernel_rfl)
theorem Uy:AY "_law_right" (top 31):=Lf (by kernel_rfl) (by intros;kernel_rfl)
theorem all_mk {l:W.OpenLaw} {w:World} {K:W.Frag} {h:Heap} {mg:Str->Option Value} {fa:Addr} (X:K.In h) (G:h.Ns mainGlobals mg) (hfa:mg "law" = some (.ref fa)) (hz:md.bl.all (MU K)=true)
    (hsTableIn:GF K "table_in" (top 1))
    (hsDone:GF K "done" (top 2))
    (hsFixedIn:GF K "fixed_in" (top 3))
    (hsNodeValue:GF K "node_value" (top 6))
    (hsValue:GF K "value" (top 5))
    (hsRowOf:GF K "row_of" (top 8))
    (hsDeedTables:GF K "deed_tables" (top 10))
    (hsLedBy:GF K "led_by" (top 11))
    (hsDoneOn:GF K "done_on" (top 9))
    (hsInputRow:GF K "input_row" (top 13))
    (hsFixedRow:GF K "fixed_row" (top 14))
    (hsOwnRows:GF K "own_rows" (top 12))
    (hsLFeed:GF K "_law_feed" (top 16))
    (hsLTake:GF K "_law_take" (top 17))
    (hsLNames:GF K "_law_names" (top 18))
    (hsLShape:GF K "_law_shape" (top 19))
    (hsLWorld:GF K "_law_world" (top 20))
    (hsLOrdered:GF K "_law_ordered" (top 21))
    (hsLForm:GF K "_law_form" (top 22))
    (hsLPoints:GF K "_law_points" (top 23))
    (hsLSpots:GF K "_law_spots" (top 24))
    (hsLActed:GF K "_law_acted" (top 25))
    (hsLComes:GF K "_law_comes" (top 26))
    (hsLDoneOn:GF K "_law_done_on" (top 27))
    (hsLOwn:GF K "_law_own" (top 28))
    (hsLAlike:GF K "_law_alike" (top 29))
    (hsLRow:GF K "_law_row" (top 30))
    (hsLRight:GF K "_law_right" (top 31))
    (hsLaw:GF K "law" (top 32))
    : ∃ fd:FuncData,(∀ (s:Shared) (v:Value),BindsTo s fd ⟨[v],[]⟩ [("_law_script", v)])/\∀ base:Heap,K.In base->base.Ns mainGlobals mg->FnOk l.prog w K mg base RK 229 fa fd ["_law_script"] (Nn K):=by
  have e:=hfa.symm.trans (W.mg_of X G hsLaw.1);cases e;have b:Bs md K mg:=hZ X G rfl hz
  refine ⟨W.fnOf "law" "law" (Ap (top 32)) (Ac (top 32)) (AF (top 32)) .none .none .none (aO K (QN K "law")) none (XX K (QN K "law")) .none,fun s v=>.of_eq rfl,fun base _ _=>?_⟩
  have f0:Fs l.prog w K mg base 0 iS:=Fs.nil;have f1:=f0.def (nb:=false) b QZ QO hsTableIn (W.mg_of X G hsTableIn.1) Qt;have f2:=f1.def (nb:=false) b cR cJ hsDone (W.mg_of X G hsDone.1) dC;have f3:=f2.def (nb:=false) b Qd QS hsFixedIn (W.mg_of X G hsFixedIn.1) Qx;have f4:=f3.def (nb:=true) b LZ LP hsNodeValue (W.mg_of X G hsNodeValue.1) Le;have f5:=f4.def (nb:=false) b XO XD hsValue (W.mg_of X G hsValue.1) Xp;have f6:=f5.def (nb:=false) b XQ XE hsRowOf (W.mg_of X G hsRowOf.1) Xq;have f7:=f6.def (nb:=false) b Js Jl hsDeedTables (W.mg_of X G hsDeedTables.1) Jx;have f8:=f7.def (nb:=false) b XR XF hsLedBy (W.mg_of X G hsLedBy.1) Xr;have f9:=f8.def (nb:=false) b UW UG hsDoneOn (W.mg_of X G hsDoneOn.1) VD;have f10:=f9.def (nb:=false) b NA Mr hsInputRow (W.mg_of X G hsInputRow.1) NM;have f11:=f10.def (nb:=false) b NB Ms hsFixedRow (W.mg_of X G hsFixedRow.1) NN;have f12:=f11.def (nb:=false) b Qa QP hsOwnRows (W.mg_of X G hsOwnRows.1) Qu;have f13:=f12.def (nb:=false) b XU XI hsLFeed (W.mg_of X G hsLFeed.1) Xu;have f14:=f13.def (nb:=false) b XS XG hsLTake (W.mg_of X G hsLTake.1) Xs;have f15:=f14.def (nb:=false) b US UC hsLNames (W.mg_of X G hsLNames.1) Uz;have f16:=f15.def (nb:=false) b UQ UA hsLShape (W.mg_of X G hsLShape.1) Ux;have f17:=f16.def (nb:=false) b UO Tw hsLWorld (W.mg_of X G hsLWorld.1) Uv;have f18:=f17.def (nb:=false) b Mz Mq hsLOrdered (W.mg_of X G hsLOrdered.1) NL;have f19:=f18.def (nb:=false) b XT XH hsLForm (W.mg_of X G hsLForm.1) Xt;have f20:=f19.def (nb:=false) b Qb QQ hsLPoints (W.mg_of X G hsLPoints.1) Qv;have f21:=f20.def (nb:=false) b UP Tz hsLSpots (W.mg_of X G hsLSpots.1) Uw;have f22:=f21.def (nb:=false) b UV UF hsLActed (W.mg_of X G hsLActed.1) VC;have f23:=f22.def (nb:=false) b UT UD hsLComes (W.mg_of X G hsLComes.1) VA;have f24:=f23.def (nb:=false) b Qc QR hsLDoneOn (W.mg_of X G hsLDoneOn.1) Qw;have f25:=f24.def (nb:=false) b cQ cI hsLOwn (W.mg_of X G hsLOwn.1) cz;have f26:Fs l.prog w K mg base 226 XC:=f25.defR (io:=[]) (F:=fun n=>two (AO n)) b (by kernel_rfl) (fun ds=>ia ds) UU UE hsLAlike (W.mg_of X G hsLAlike.1) VB 200;have f27:=f26.def (nb:=false) b cP cH hsLRow (W.mg_of X G hsLRow.1) cy;have f28:=f27.def (nb:=true) b UR UB hsLRight (W.mg_of X G hsLRight.1) Uy
  have hp:AC (top 32)=(["_law_script"]:List Str):=by kernel_rfl
  have r:=bJ (ps:=AC (top 32)) (nb:=true) (by rw [hp];rfl) (Mx b f28 gm gh (Mi hsLaw)) TQ;rw [hp] at r;exact r
theorem walk {l:W.OpenLaw} {q:Program} {loose:List Str} {XP:(Str->Option Value)->Heap->Prop} {YP:World->Heap->Prop} {d:DefRec} {K:Params->W.Frag} (hn:l.most=some 63) (hdf:d.params.defaults=[])
    (hY:∀ (w:World) (h:Heap),YP w h->(K w.params).In h)
    (F:∀ (w:World) (mg:Str->Option Value) (fa:Addr) (h:Heap),(K w.params).In h->h.Ns mainGlobals mg->mg d.name=some (.ref fa) ->
      ∃ fd:FuncData,(∀ (s:Shared) (u:Value),BindsTo s fd ⟨[u],[]⟩ [("_law_script", u)])/\∀ base:Heap,(K w.params).In base->base.Ns mainGlobals mg->FnOk l.prog w (K w.params) mg base RK 229 fa fd ["_law_script"] (Nn (K w.params))) :
    W.WalkO q loose XP YP l.row.toRowW d [] (fun f vs=>PySem.call f vs):=
  L2.walk_of (n:=63) (k:=229) (x := "_law_script") (CX:=fun _=>RK) (sp:=fun w=>Nn (K w.params)) hn (by decide) hdf ⟨rfl,by decide,by decide,rfl⟩ hY F (fun _ _ a ns hl hO hS=>⟨a,ns,rfl,hS,hl,hO,fun _=>rfl⟩) fun _ _ _ _ _ z=>z
abbrev fO (i:Nat) (x:Str) (pm:Value) (cd:Addr):Obj:=⟨.type "function", none,.func (W.fnOf x x (Ap (top i)) (Ac (top i)) (AF (top i)) .none .none .none pm none (.ref cd) .none),#[]⟩
noncomputable def KP (P:Params):W.Frag:=[
(3,⟨.type "dict", none,.dict #[ke P "__name__" 165 (.str "law_shapefree_k47_rows_of_points" 286),ke P "__doc__" 166 .none,ke P "__package__" 167 .none,ke P "__loader__" 168 (.builtin "__main__.__loader__#opaque"),ke P "__spec__" 169 .none,ke P "__annotations__" 170 (.ref 6),ke P "__builtins__" 171 (.ref 4),ke P "__file__" 173 (.str "/claim/cut.py" 172),ke P "__cached__" 174 .none,ke P "table_in" 194 (.ref 19),ke P "done" 206 (.ref 26),ke P "fixed_in" 215 (.ref 33),ke P "value" 229 (.ref 40),ke P "node_value" 235 (.ref 45),ke P "row_of" 243 (.ref 50),ke P "done_on" 255 (.ref 57),ke P "deed_tables" 261 (.ref 62),ke P "led_by" 267 (.ref 67),ke P "own_rows" 273 (.ref 72),ke P "input_row" 279 (.ref 77),ke P "fixed_row" 285 (.ref 82),ke P "_law_feed" 297 (.ref 89),ke P "_law_take" 307 (.ref 96),ke P "_law_names" 313 (.ref 101),ke P "_law_shape" 319 (.ref 106),ke P "_law_world" 325 (.ref 111),ke P "_law_ordered" 331 (.ref 116),ke P "_law_form" 337 (.ref 121),ke P "_law_points" 343 (.ref 126),ke P "_law_spots" 357 (.ref 133),ke P "_law_acted" 363 (.ref 138),ke P "_law_comes" 369 (.ref 143),ke P "_law_done_on" 375 (.ref 148),ke P "_law_own" 381 (.ref 153),ke P "_law_alike" 387 (.ref 158),ke P "_law_row" 393 (.ref 163),ke P "_law_right" 399 (.ref 168),ke P "law" 405 (.ref 173)] 38,#[]⟩),
(19,fO 1 "table_in" (.str "shapefree.worlds" 187) 18),
(18,cO "table_in" 189 2 3 3 15 16 .none .none .none 17 192),
(26,fO 2 "done" (.str "shapefree.worlds" 187) 25),
(25,cO "done" 195 4 4 3 20 21 .none (.ref 22) (.ref 23) 24 204),
(33,fO 3 "fixed_in" (.str "shapefree.worlds" 187) 32),
(32,cO "fixed_in" 207 9 3 3 27 28 .none (.ref 29) (.ref 30) 31 213),
(40,fO 5 "value" (.str "shapefree.plain" 216) 39),
(39,cO "value" 218 12 4 3 34 35 .none (.ref 36) (.ref 37) 38 227),
(45,fO 6 "node_value" (.str "shapefree.plain" 216) 44),
(44,cO "node_value" 230 17 5 3 41 42 .none .none .none 43 233),
(50,fO 8 "row_of" (.str "shapefree.points" 236) 49),
(49,cO "row_of" 238 24 3 3 46 47 .none .none .none 48 241),
(57,fO 9 "done_on" (.str "shapefree.points" 236) 56),
(56,cO "done_on" 244 26 4 3 51 52 .none (.ref 53) (.ref 54) 55 253),
(62,fO 10 "deed_tables" (.str "shapefree.points" 236) 61),
(61,cO "deed_tables" 256 31 3 3 58 59 .none .none .none 60 259),
(67,fO 11 "led_by" (.str "shapefree.points" 236) 66),
(66,cO "led_by" 262 33 2 3 63 64 .none .none .none 65 265),
(72,fO 12 "own_rows" (.str "shapefree.points" 236) 71),
(71,cO "own_rows" 268 35 2 3 68 69 .none .none .none 70 271),
(77,fO 13 "input_row" (.str "shapefree.points" 236) 76),
(76,cO "input_row" 274 38 2 3 73 74 .none .none .none 75 277),
(82,fO 14 "fixed_row" (.str "shapefree.points" 236) 81),
(81,cO "fixed_row" 280 40 3 3 78 79 .none .none .none 80 283),
(89,fO 16 "_law_feed" (.str "law_shapefree_k47_rows_of_points" 286) 88),
(88,cO "_law_feed" 288 43 2 3 83 84 .none (.ref 85) (.ref 86) 87 295),
(96,fO 17 "_law_take" (.str "law_shapefree_k47_rows_of_points" 286) 95),
(95,cO "_law_take" 298 53 2 3 90 91 .none (.ref 92) (.ref 93) 94 305),
(101,fO 18 "_law_names" (.str "law_shapefree_k47_rows_of_points" 286) 100),
(100,cO "_law_names" 308 61 2 3 97 98 .none .none .none 99 311),
(106,fO 19 "_law_shape" (.str "law_shapefree_k47_rows_of_points" 286) 105),
(105,cO "_law_shape" 314 76 1 3 102 103 .none .none .none 104 317),
(111,fO 20 "_law_world" (.str "law_shapefree_k47_rows_of_points" 286) 110),
(110,cO "_law_world" 320 82 3 3 107 108 .none .none .none 109 323),
(116,fO 21 "_law_ordered" (.str "law_shapefree_k47_rows_of_points" 286) 115),
(115,cO "_law_ordered" 326 91 2 3 112 113 .none .none .none 114 329),
(121,fO 22 "_law_form" (.str "law_shapefree_k47_rows_of_points" 286) 120),
(120,cO "_law_form" 332 110 4 3 117 118 .none .none .none 119 335),
(126,fO 23 "_law_points" (.str "law_shapefree_k47_rows_of_points" 286) 125),
(125,cO "_law_points" 338 123 5 3 122 123 .none .none .none 124 341),
(133,fO 24 "_law_spots" (.str "law_shapefree_k47_rows_of_points" 286) 132),
(132,cO "_law_spots" 344 129 5 3 127 128 .none (.ref 129) (.ref 130) 131 355),
(138,fO 25 "_law_acted" (.str "law_shapefree_k47_rows_of_points" 286) 137),
(137,cO "_law_acted" 358 134 4 3 134 135 .none .none .none 136 361),
(143,fO 26 "_law_comes" (.str "law_shapefree_k47_rows_of_points" 286) 142),
(142,cO "_law_comes" 364 140 4 3 139 140 .none .none .none 141 367),
(148,fO 27 "_law_done_on" (.str "law_shapefree_k47_rows_of_points" 286) 147),
(147,cO "_law_done_on" 370 150 4 3 144 145 .none .none .none 146 373),
(153,fO 28 "_law_own" (.str "law_shapefree_k47_rows_of_points" 286) 152),
(152,cO "_law_own" 376 155 2 3 149 150 .none .none .none 151 379),
(158,fO 29 "_law_alike" (.str "law_shapefree_k47_rows_of_points" 286) 157),
(157,cO "_law_alike" 382 162 2 3 154 155 .none .none .none 156 385),
(163,fO 30 "_law_row" (.str "law_shapefree_k47_rows_of_points" 286) 162),
(162,cO "_law_row" 388 172 2 3 159 160 .none .none .none 161 391),
(168,fO 31 "_law_right" (.str "law_shapefree_k47_rows_of_points" 286) 167),
(167,cO "_law_right" 394 174 4 3 164 165 .none .none .none 166 397),
(173,fO 32 "law" (.str "law_shapefree_k47_rows_of_points" 286) 172),
(172,cO "law" 400 194 1 3 169 170 .none .none .none 171 403)]
def dLaw:DefRec:=⟨"law", Ap (top 32),Ac (top 32),AF (top 32),cN (top 32)⟩
theorem top_left:YI PySem.Challenge.rw_shapefree_k47_rows_of_points 33 [3,19,18,26,25,33,32,40,39,45,44,50,49,57,56,62,61,67,66,72,71,77,76,82,81,89,88,96,95,101,100,106,105,111,110,116,115,121,120,126,125,133,132,138,137,143,142,148,147,153,152,158,157,163,162,168,167,173,172] KP 1808:=fun w=>by kernel_rfl
theorem top_said:PySem.Challenge.rw_shapefree_k47_rows_of_points.wellSaid=true:=by decide +kernel
end My
set_option maxHeartbeats 1000000
set_option maxHeartbeats 1000000
set_option maxHeartbeats 1000000
set_option maxHeartbeats 1000000
set_option maxHeartbeats 1000000
set_option maxHeartbeats 1000000
set_option maxHeartbeats 1000000
set_option maxHeartbeats 1000000
set_option maxHeartbeats 1000000
set_option maxHeartbeats 1000000
set_option maxHeartbeats 1000000
set_option maxHeartbeats 1000000
set_option maxHeartbeats 1000000
open PySem PySem.W PyProof.Rows
set_option maxRecDepth 100000 in
set_option maxHeartbeats 0 in
theorem PySem.Challenge.cw_shapefree_k47_rows_of_points_holds : PySem.Challenge.rw_shapefree_k47_rows_of_points.Holds := by
  refine L2.mk_law (d:=My.dLaw) My.top_said My.top_left (fun P=>by kernel_rfl) (by kernel_rfl) (by kernel_rfl) (by kernel_rfl) (by kernel_rfl) (by kernel_rfl) (by decide +kernel) ⟨rfl,rfl,rfl,rfl,rfl,by decide +kernel⟩ (by w_witness2) ?call
  refine My.walk (l:=PySem.Challenge.rw_shapefree_k47_rows_of_points) (d:=My.dLaw) (K:=My.KP) rfl (by kernel_rfl) (fun w h Y=>Y) fun w mg fa h KX G hmg=>My.all_mk KX G hmg (by kernel_rfl) (by and_intros<;>kernel_rfl) (by and_intros<;>kernel_rfl) (by and_intros<;>kernel_rfl) (by and_intros<;>kernel_rfl) (by and_intros<;>kernel_rfl) (by and_intros<;>kernel_rfl) (by and_intros<;>kernel_rfl) (by and_intros<;>kernel_rfl) (by and_intros<;>kernel_rfl) (by and_intros<;>kernel_rfl) (by and_intros<;>kernel_rfl) (by and_intros<;>kernel_rfl) (by and_intros<;>kernel_rfl) (by and_intros<;>kernel_rfl) (by and_intros<;>kernel_rfl) (by and_intros<;>kernel_rfl) (by and_intros<;>kernel_rfl) (by and_intros<;>kernel_rfl) (by and_intros<;>kernel_rfl) (by and_intros<;>kernel_rfl) (by and_intros<;>kernel_rfl) (by and_intros<;>kernel_rfl) (by and_intros<;>kernel_rfl) (by and_intros<;>kernel_rfl) (by and_intros<;>kernel_rfl) (by and_intros<;>kernel_rfl) (by and_intros<;>kernel_rfl) (by and_intros<;>kernel_rfl) (by and_intros<;>kernel_rfl)
